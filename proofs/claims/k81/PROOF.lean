import PyProof.Rows.All
import Wide.All
import OpenK.AllK
import Wide.FinOn
import Lean
import KE.KMinKey
import PyProof.WalkInts
import PyProof.SeqI3
import PyProof.Rows.CallKwBuiltin
import KE.KIsAll
import PyProof.StrBlock
import PyProof.Rows.StrLen
import KE.KIntText
import PyProof.StrLawsFirst
import PyProof.StrLawsIn
import PyProof.InstStoreFacts
import PyProof.EqAt
import PyProof.EqKinds
import PyProof.TupleCall
import KE.KLam
import PySem.Challenge.RW_besideseats_k81_seated_as_the_best
set_option Elab.async false
set_option linter.all false
set_option maxRecDepth 100000
set_option genSizeOf false
set_option compiler.extract_closed false
set_option bootstrap.genMatcherCode false
noncomputable section
local macro_rules|`(command|omit $xs*)=>do return Lean.mkNullNode (<-xs.mapM λ x=>`(command|def $(Lean.mkIdent<|.mkSimple s!"tw{(`PySem.Challenge.cw_besideseats_k81_seated_as_the_best_holds++x.raw.getId).hash}"):ident:=()))
set_option maxHeartbeats 4000000
local macro_rules|`(∅)=>`(by first|decide|lia|simp)
def pt:Nat->Lean.Syntax->Lean.MacroM (Lean.TSyntax `rcasesPat)
|n+1,s=>match s with
 |`(⟨$xs,*⟩)=>do let ys<-xs.getElems.mapM (λ x=>do `(Lean.Parser.Tactic.rcasesPatLo|$(<-pt n x):rcasesPat));`(rcasesPat|⟨$[$ys],*⟩)
 |`($i:ident)=>`(rcasesPat|$i:ident)
 |_=>`(rcasesPat|_)
|_,_=>Lean.Macro.throwUnsupported
local macro_rules|`(tactic|let $p:term:=$e)=>do `(tactic|obtain $(<-pt 9 p):rcasesPat:=$e)
open Option renaming some→AC,none→At,getD_none→AA6
open Bool renaming false→AT,true→Ch,or_eq_true→AA8,and_assoc→AB9,and_false→AC0,and_true→AC4
open PySem.W renaming Frag→Da,nsIn→FB,keepIn→FM,findIn→FS,Frag→Fa,fnOf→NE,codeIn→On,tabIn→Os,emptyDict→PP,instObj→SL,plainGet→Tk,lookIn→WF,hasDictIn→Wp,makesIn→bd,takerIn→bi,hideAll_none→ci,tabObj→cr,excIn→li,mroIn→lm,isFn→wf,plainOver→wn,specialIn→wv,handedIn→AA7,OpenLaw→AB8,CodeHd→AC3
open PySem.Str renaming ofString→Db
open List renaming replicate→Do,range→Ev,lookup→Fk,zipWith→ac,getElem?_range→jp,getElem_of_mem→lc,map_inj_right→lw,set_cons_succ→nw,filter_congr→wE,getElem_take→wP,take_add_one→wT,ext_getElem→AA1,filter_cons→AA2,getElem_set→AA3,zipIdx_cons→AA4,countP_map→AB2,filter_map→AB3,foldl_cons→AB4,length_set→AB5,zipIdx_nil→AB6,foldl→AC1,forIn_nil→AC2
open PySem renaming wpAny→EQ,Within→ww
open Sum renaming inr→GE,inl→al
open False renaming elim→GM
open ForInStep renaming yield→GT
open PySem.Builtin.SmallTypes renaming nextOf→Gc,ownedTupleIsFree→Go,ownedTupleHandOut→Re
open PySem.Heap renaming SameBut→IN,ExtBut→ca,MadeExcOf→ce,get?_update_ne→io,IsTuple→tz
open True renaming intro→IR
open PySem.Builtin.Builtins renaming bindParams→Ix
open PySem.Builtin.Slice renaming slicePlaces→KF,sliceAdjust→Ps,sliceApplied→UV
open PySem.Builtin.Tuple renaming tupleExact→No,tupleItemsOf→Uf
open PySem.StrLaws renaming occBody→Op
open PySem.SeqAt renaming EqAt→Pi,RcNeAt→TW,RcAt→WP
open PySem.Builtin.List renaming listTooLong→Rs
open PySem.Obj renaming mapFields→SB
open PySem.Value renaming none→SZ,isStrOf→AC6
open PySem.Builtin.Str renaming occurrences→Sc,subAt→TD
open PySem.W.WData renaming weightAll→Tl,weight→UF
open Array renaming toList→ZB,toList_append→dL
open Or renaming inr→ol,inl→AC8
abbrev γ:=@List
abbrev δ:=@PySem.Addr
abbrev ε:=@Option
abbrev ζ:=@PySem.Value
abbrev η:=@PySem.Shared
abbrev θ:=@PySem.Stmt
abbrev ι:=@PySem.Expr
abbrev μ:=@PySem.Obj
abbrev ν:=@PySem.Heap
abbrev ξ:=@PySem.World
abbrev ο:=@PySem.Program
abbrev π:=@PySem.Keyword
abbrev ς:=@PySem.Around
abbrev τ:=@PySem.Scope
abbrev υ:=@PySem.FuncData
def T0:=@PySem.wpAny_bind
def W1:=@if_neg
def M2:=@if_pos
def P3:=@PySem.wpAny_pure
def v4:=@Nat.le_refl
def v6:=@PySem.Heap.get?_push_of_some
def f8:=@List.map_cons
def A00:=@List.mem_cons
def A01:=@PySem.Heap.lt_size
def A02:=@List.mem_map
def A03:=@List.getElem?_eq_getElem
def A04:=@Option.some.inj
def A05:=@Ne.symm
def A06:=@List.length_map
def A07:=@List.getElem?_eq_some_iff
def A08:=@List.getElem?_map
def A09:=@List.mem_cons_of_mem
def A10:=@List.size_toArray
def A11:=@List.mem_cons_self
def A12:=@Nat.ne_of_lt
def A13:=@Nat.le_trans
def A14:=@PySem.Heap.get?_push_size
def A15:=@congrArg
def A16:=@Nat.lt_of_lt_of_le
def A17:=@List.nodup_cons
def A18:=@List.mem_of_getElem?
def A19:=@List.mem_singleton
def A20:=@List.map_map
def A21:=@PySem.wpAny_mono
def A22:=@PySem.W.mg_of
def A23:=@PySem.sizeLine_eq
def A24:=@List.length_take
def A25:=@if_true
def A26:=@List.mem_range
def A27:=@beq_iff_eq
def A28:=@decide_eq_false
def A29:=@List.getElem?_set_ne
def A30:=@List.length_append
def A31:=@PySem.wpAny_field
def A32:=@List.map_nil
def A33:=@List.getElem?_set
def A34:=@List.length_cons
def A35:=@List.getElem?_append_left
def A36:=@List.all_eq_true
def A37:=@List.mem_append
def A38:=@PySem.wpAny_holding
def A39:=@List.map_append
def A40:=@List.not_mem_nil
def A41:=@List.getElem?_set_self
def A42:=@Nat.ne_of_gt
def A43:=@List.mem_append_right
def A44:=@PySem.wpAny_seqItems
def A45:=@List.getElem?_append_right
def A46:=@Bool.and_eq_true
def A47:=@decide_eq_true
def A48:=@Bool.false_eq_true
def A49:=@or_false
def A50:=@PySem.Heap.size_push
def A51:=@Nat.zero_le
def A52:=@List.append_nil
def A53:=@Bool.eq_iff_iff
def A54:=@PySem.wpAny_tryCatch
def A55:=@PySem.W.mg_none_of
def A56:=@PySem.wpAny_truthy_bool
def A57:=@Nat.le_succ
def A58:=@List.getElem?_replicate
def A59:=@if_false
def A60:=@List.mem_filter
def A61:=@Nat.lt_succ_self
def A62:=@PySem.Heap.get?_update_other
def A63:=@List.length_filter_le
def A64:=@PySem.wpAny_letGo
def A65:=@Nat.mul_le_mul
def A66:=@PySem.mem_of_lookup
def A67:=@PySem.wpAny_newObj_type
def A68:=@Option.map_some
def A69:=@PySem.Obj.data_mapFields
def A70:=@Nat.min_eq_left
def A71:=@beq_eq_false_iff_ne
def A72:=@PySem.call_meets
def A73:=@List.lookup_cons
def A74:=@not_or
def A75:=@Sum.inr.inj
def A76:=@Nat.le_of_lt
def A77:=@List.mem_append_left
def A78:=@PySem.codeAny_mono
def A79:=@PySem.wpAny_Call_Name_kw
def A80:=@List.length_replicate
def A81:=@List.replicate_succ
def A82:=@List.range_succ
def A83:=@List.drop_eq_getElem_cons
def A84:=@PySem.Heap.get?_update_self
def A85:=@Nat.not_lt
def A86:=@PySem.plainId_quiet
def A87:=@List.filter_eq_self
def A88:=@Nat.lt_irrefl
def A89:=@Bool.false_ne_true
def A90:=@PySem.wpAny_call
def A91:=@Option.isSome_iff_exists
def A92:=@Nat.add_comm
def A93:=@dif_pos
def A94:=@beq_self_eq_true
def A95:=@PySem.W.kia_one
def A96:=@PySem.wpAny_pyIter_list
def A97:=@List.cons.injEq
def A98:=@Int.toNat_natCast
def A99:=@PySem.F.plain_max_loop
def B00:=@PySem.F.plain_min_loop
def B01:=@PySem.wpAny_loadPart_at
def B02:=@PySem.W.callWith_K
def B03:=@PySem.wpAny_callSpecial?_slot
def B04:=@PyProof.Rows.slot_tuple_getitem
def B05:=@PySem.wpAny_call_entry
def B06:=@List.append_assoc
def B07:=@List.any_cons
def B08:=@List.map_congr_left
def B09:=@PySem.wpAny_pyIter_tuple
def B10:=@Nat.zero_add
def B11:=@List.nodup_nil
def B12:=@PySem.wpAny_setField_rec
def B13:=@Option.some.injEq
def B14:=@decide_eq_true_eq
def B15:=@PySem.codeAny_builtin
def B16:=@PySem.Around.under_plainId
def B17:=@PySem.wpAny_updateSeq
def B18:=@List.getElem?_of_mem
def B19:=@List.mem_flatMap
def B20:=@List.filter_cons_of_neg
def B21:=@Nat.mul_le_mul_right
def B22:=@PySem.wpAny_passesOwn
def B23:=@PyProof.Rows.callWith_type1
def B24:=@PySem.typeIs_int
def B25:=@List.flatten_cons
def B26:=@Nat.succ_mul
def B27:=@List.getElem_mem
def B28:=@List.length_range
def B29:=@PySem.wpAny_rule
def B30:=@of_decide_eq_true
def B31:=@List.lookup_cons_self
def B32:=@List.forIn_cons
def B33:=@PySem.wpAny_standAt
def B34:=@Nat.le_succ_of_le
def B35:=@List.countP_cons
def B36:=@and_true
def B37:=@not_false_eq_true
def B38:=@List.drop_eq_nil_of_le
def B39:=@PySem.F.slot_tuple_mul
def B40:=@PySem.wpAny_ite_false
def B41:=@Array.getElem?_eq_some_iff
def B42:=@Int.ofNat.inj
def B43:=@List.filter_append
def B44:=@List.mem_of_mem_eraseIdx
def B45:=@PySem.Paired.length
def B46:=@PySem.Heap.get?_none_of_le
def B47:=@Array.length_toList
def B48:=@PySem.wpAny_execs_nil
def B49:=@Int.mul_one
def B50:=@PySem.concat_meets
def B51:=@List.length_drop
def B53:=@PySem.Calls.evalArgs_plain
def B54:=@PySem.F.slot_int_rmul
def B55:=@List.eq_nil_of_length_eq_zero
def B56:=@List.getElem?_eq_none
def B57:=@List.drop_length
def B58:=@Nat.lt_succ_of_lt
def B59:=@List.all_map
def B61:=@List.take_length
def B62:=@PySem.F.slot_tuple_iterator_next
def B63:=@PySem.wpAny_setField
def B64:=@PySem.Obj.isFreed_of_fields
def B65:=@PySem.wpAny_pyIter_enum
def B66:=@PySem.wpAny_onRaise
def B67:=@PySem.F.slot_zip_next
def B68:=@Bool.not_eq_true'
def B69:=@ci
def B70:=@List.filter_cons_of_pos
def B71:=@List.pairwise_map
def B72:=@Int.emod_lt_of_pos
def B73:=@Int.emod_nonneg
def B74:=@List.ext_getElem?
def B75:=@List.filterMap_cons
def B76:=@PySem.Calls.Name_function_global
def B77:=@List.mem_filterMap
def B78:=@PySem.W.plainGet_of
def B79:=@PySem.W.set_plain
def B80:=@PySem.wpAny_loadPart
def B81:=@PySem.W.Looks.here
def B82:=@PySem.W.looks_clsIn
def B84:=@PySem.wpAny_lookBehind
def B85:=@PySem.pastItsLine_dict
def B86:=@Nat.le_of_eq
def B87:=@PySem.plainObj_wpAny_Assign_Attribute
def B88:=@PySem.Calls.spliced_nil
def B89:=@PySem.Calls.spliced_cons
def B90:=@PySem.W.methodCall_KW
def B91:=@List.of_mem_zip
def B92:=@PySem.wpAny_loadPart'
def B93:=@PySem.noFill_tuple_add
def B95:=@PySem.F.slot_tuple_add
def B96:=@PySem.F.entry_tuple_add
def B97:=@PySem.F.args_tuple_add_2
def B99:=@PySem.wpAny_Call_method_late
def C00:=@PySem.Calls.callWith_builtin
def C01:=@List.nil_append
def C02:=@List.length_nil
def C03:=@Option.isSome_map
def C04:=@PySem.tupleKind_room_in1
def C05:=@List.getElem_range
def C06:=@List.mem_of_mem_take
def C07:=@Bool.true_and
def C08:=@PySem.PassesOwn.never
def C09:=@PySem.SeqAt.EqAt.same
def C10:=@List.all_cons
def C11:=@PySem.F.plainAttrs_list
def C12:=@List.cons_append
def C13:=@PySem.Obj.cls_mapFields
def C14:=@PySem.AutoSeq1.wpAny_loadPart'
def C16:=@Nat.succ_ne_self
def C17:=@PySem.wpAny_updateSeq_pair
def C18:=@PySem.wpAny_pyIter_zip
def C19:=@Option.bind_some
def C20:=@List.take_of_length_le
def C21:=@PySem.F.entry_tuple_mul
def C22:=@PySem.F.args_tuple_mul_2
def C23:=@PySem.F.entry_max_loop
def C24:=@PySem.F.entry_min_loop
def C25:=@List.contains_cons
def C26:=@Bool.or_true
def C27:=@PySem.wpAny_isSubtype_exc
def C28:=@Prod.mk.injEq
def C29:=@List.mem_map_of_mem
def C30:=@List.nodup_append
def C31:=@Nat.add_assoc
def C32:=@List.pairwise_iff_getElem
def C33:=@List.pairwise_append
def C34:=@List.pairwise_lt_range
def C35:=@List.map_take
def C36:=@List.pairwise_cons
def C37:=@Nat.add_sub_cancel_left
def C38:=@List.map_drop
def C39:=@List.getElem?_drop
def C40:=@List.map_set
def C45:=@PySem.W.cellsFrom_some
def C46:=@List.getElem?_take_of_lt
def C47:=@PySem.wpAny_binaryOp_repeat_ref
def C48:=@PySem.F.slot_dict_pop
def C49:=@List.cons_lt_cons_iff
def C50:=@List.set_eq_of_length_le
def C51:=@List.range_succ_eq_map
def C52:=@PySem.F.entry_tuple_iterator_next
def C53:=@PySem.F.args_tuple_iterator_next_1
def C54:=@PySem.F.plainAttrs_str
def C55:=@List.getElem?_cons_zero
def C56:=@PySem.F.excBase_ValueError
def C57:=@PySem.F.plainAttrs_dict
def C58:=@PySem.F.slot_dict_get
def C59:=@List.eq_of_mem_replicate
def C60:=@List.take_append_drop
def C61:=@Option.map_eq_some_iff
def C62:=@List.set_getElem_self
def C63:=@List.Pairwise.imp_of_mem
def C64:=@List.mem_or_eq_of_mem_set
def C65:=@List.eraseIdx_cons_succ
section S0
open PySem PySem.Spec PyProof.Rows
namespace L2
abbrev Se(a:ι)(es:γ ι)(E:PySem.Env):Prop:=starEach (a::es) E=(AT,eval a E)::starEach es E
abbrev Nd(x:Str):Prop:=(x==("__debug__":Str))=AT
abbrev Pn(p:Pos)(es:γ ι)(E:PySem.Env):Prop:=(backTo p<|starEach es E).any (·.1)=AT
end L2
open L2 (Se Nd Pn)
namespace L2
abbrev Key:=Sum Int Str
def w?:Key->ζ->Bool
|.inl k,v=>Value.isInt k v
|.inr x,v=>AC6 x v
def Z'(w:ξ):Key->Int
|.inl k=>hashInt k
|.inr x=>hashStr w x
theorem dF:∀{k}{v},w? k v=Ch->(∃i t,k=al i/\v=Value.int i t)\/(∃x t,k=GE x/\v=Value.str x t)
|.inl i,v,h=>by let⟨t,e⟩:=Value.isInt_shape h;exact .inl ⟨i,t,rfl,e⟩
|.inr x,v,h=>by let⟨t,e⟩:=Value.isStrOf_shape h;exact .inr ⟨x,t,rfl,e⟩
theorem GJ(i:Int)(t:Tok):w? (.inl i) (.int i t)=Ch:=by simp[w?,Value.isInt]
theorem GI(x:Str)(t:Tok):w? (.inr x) (.str x t)=Ch:=by simp[w?,AC6]
theorem Rt(a b:Int):decide ((al a:Key)=al b)=(a==b):=by
 by_cases e:a=b
 .subst e;simp
 .have h:¬(al a:Key)=al b:=λ q=>e<|Sum.inl.inj q;rw[A28 h];exact(A71.mpr e).symm
theorem Rp(a b:Str):decide ((GE a:Key)=GE b)=decide (a=b):=by
 by_cases e:a=b
 .subst e;simp
 .have h:¬(GE a:Key)=GE b:=λ q=>e<|A75 q;rw[A28 h,A28 e]
theorem Rr(a:Int)(b:Str):decide ((al a)=GE b)=AT:=A28 λ q=>nomatch q
theorem Rq(a:Str)(b:Int):decide ((GE a)=al b)=AT:=A28 λ q=>nomatch q
def e!(prog:ο)(w:ξ):PySem.KeyKind prog w Key where
 is:=w?
 hash:=Z' w
 inj:=λ v a b ha hb=>by
  rcases dF ha with⟨i,t,rfl,rfl⟩|⟨x,t,rfl,rfl⟩
  .rcases dF hb with⟨j,u,rfl,e⟩|⟨y,u,rfl,e⟩
   .injection e with e1 _;rw[e1]
   .exact nomatch e
  .rcases dF hb with⟨j,u,rfl,e⟩|⟨y,u,rfl,e⟩
   .exact nomatch e
   .injection e with e1 _;rw[e1]
 byValue:=λ k v h=>by rcases dF h with⟨i,t,rfl,rfl⟩|⟨x,t,rfl,rfl⟩<;>rfl
 pyHash:=λ hv h=>by
  rcases dF hv with⟨i,t,rfl,rfl⟩|⟨x,t,rfl,rfl⟩
  .exact wpAny_pyHash_int h
  .exact wpAny_pyHash_str h
 eqBool:=λ hu hv h=>by
  rcases dF hu with⟨i,t,rfl,rfl⟩|⟨x,t,rfl,rfl⟩
  .rcases dF hv with⟨j,u,rfl,rfl⟩|⟨y,u,rfl,rfl⟩
   .rw[Rt]at h;exact wpAny_eqBool_int h
   .rw[Rr]at h;exact SeqAt.EqAt.int_str i t y u _ _ _ _ h
  .rcases dF hv with⟨j,u,rfl,rfl⟩|⟨y,u,rfl,rfl⟩
   .rw[Rq]at h;exact SeqAt.EqAt.str_int x t j u _ _ _ _ h
   .rw[Rp]at h;exact wpAny_eqBool_str h
 «strs»:=λ k x t v h=>by
  rcases dF h with⟨i,u,rfl,e⟩|⟨y,u,rfl,e⟩
  .exact nomatch e
  .injection e with e1 _
   subst e1;cases v<;>rfl
theorem AJ(prog:ο)(w:ξ)(i:Int)(t:Tok):(e! prog w).is (.inl i) (.int i t)=Ch:=GJ i t
theorem AI(prog:ο)(w:ξ)(x:Str)(t:Tok):(e! prog w).is (.inr x) (.str x t)=Ch:=GI x t
inductive V where
|non|bl (b:Bool)|int (i:Int)|str (x:Str)|TJ (b:Array UInt8)|Tr (b:UInt64)|ref (a:Addr)|ty (n:String)
deriving DecidableEq
def RelV:V->ζ->Prop
|.non,u=>u=SZ
|.bl b,u=>u=Value.bool b
|.int i,u=>∃t,u=Value.int i t
|.str x,u=>∃t,u=Value.str x t
|.TJ b,u=>∃t,u=Value.bytes b t
|.Tr b,u=>∃t,u=Value.float b t
|.ref a,u=>u=Value.ref a
|.ty n,u=>u=Value.type n
abbrev Vals:γ V->γ ζ->Prop:=Paired RelV
theorem Vals.length(r:Vals xs us):xs.length=us.length:=B45 r
theorem Vals.get:∀{xs}{us}{i:Nat}{x},Vals xs us->xs[i]?=AC x->∃u,us[i]?=AC u/\RelV x u
|_,_,_,_,.nil,e=>by simp at e
|_,_,0,_,.cons r _,e=>by simp at e;subst e;exact⟨_,rfl,r⟩
|_,_,i+1,x,.cons _ t,e=>by let⟨u,h1,h2⟩:=Vals.get (i:=i) (x:=x) t (by simpa using e);exact⟨u,by simpa using h1,h2⟩
theorem Vals.append:∀{xs ys}{us ws},Vals xs us->Vals ys ws->Vals (xs++ys) (us++ws)
|_,_,_,_,.nil,s=>s
|_,_,_,_,.cons r t,s=>.cons r<|Vals.append t s
theorem Vals.take:∀{xs}{us} n,Vals xs us->Vals (xs.take n) (us.take n)
|_,_,0,_=>.nil
|_,_,_+1,.nil=>.nil
|_,_,n+1,.cons r t=>.cons r<|Vals.take n t
theorem Vals.drop:∀{xs}{us} n,Vals xs us->Vals (xs.drop n) (us.drop n)
|_,_,0,r=>r
|_,_,_+1,.nil=>.nil
|_,_,n+1,.cons _ t=>Vals.drop n t
def lJ:ε V->ε ζ->Prop
|some v,AC u=>RelV v u
|none,At=>True
|_,_=>False
def KV{κ:Type}:γ (κ×V)->γ (κ×ζ)->Prop:=Paired λ(p:κ×V)(q:κ×ζ)=>p.1=q.1/\RelV p.2 q.2
def kV:Key->V
|.inl i=>.int i
|.inr x=>.str x
inductive HO where
|lst (xs:List V)
|tup (xs:List V)
|dK (a9:List (Key×V))|dT (a9:List (List Key×V))
|set (S:Int->Bool) (n:Nat)
|ins (C dx:Addr) (fs:List (Str×V))
|own (x:Addr)
|xd (fs:List (Str×V))
|met (f x:Addr)
|Xx (lo hi:Int)
|fF (o:Obj) (u:HO)
|Ia (q:Str)
|LS (q:Str)
 |ext (φ:Heap->Prop)
abbrev Hp:=δ->ε HO
def TL:HO->Prop
|.Ia _=>True
|.LS _=>True
|_=>False
def upd(H:Hp)(a:δ)(o:HO):Hp:=λ b=>if b=a then AC o else H b
theorem aO:upd H a o a=AC o:=by unfold upd;rw[M2 rfl]
theorem aG(h:b≠a):upd H a o b=H b:=by unfold upd;rw[W1 h]
theorem Pf{H:Hp}(h:H a=AC o)(h':H b=AC u)(d:o≠u):a≠b:=by intro e;subst e;rw[h]at h';exact d<|A04 h'
theorem bj{H:Hp}(h:H a=AC o)(h':H b=At):a≠b:=by intro e;subst e;rw[h]at h';cases h'
section
variable(P:ο)(w:ξ)
def p9(h:ν)(a:δ)(xs:Array ζ):Prop:=∃n,h.get? a=AC {cls:=.type "tuple",data:=.seq xs n}
theorem p9.is(p:p9 h a xs):IsTup h a xs:=by let⟨n,e⟩:=p;exact⟨_,e,rfl,n,rfl⟩
theorem p9.new(h:ν)(xs:Array ζ):p9 (h.push {cls:=.type "tuple",data:=.seq xs}) h.objs.size xs:=⟨_,A14 _ rfl⟩
def fD(H:Hp)(h:ν)(a:δ):HO->Prop
|.lst xs=>xs.length<=sizeLine/\∃(bq:γ ζ)(n:Nat),Vals xs bq/\h.get? a=AC {cls:=.type "list",data:=.seq bq.toArray n}
|.tup xs=>xs.length<=sizeLine/\∃bq:γ ζ,Vals xs bq/\p9 h a bq.toArray
|.dK a9=>a9.length<=sizeLine/\(a==sysModules)=AT/\∃vs,KV a9 vs/\h.DictOf (e! P w) a vs
|.dT a9=>a9.length<=sizeLine/\(a==sysModules)=AT/\∃xs:γ (γ Key×δ×ζ),
 Paired (λ(p:γ Key×V)(q:γ Key×δ×ζ)=>p.1=q.1/\H q.2.1=AC (.tup<|p.1.map kV)/\RelV p.2 q.2.2) a9 xs /\
 ∃o es ep,h.get? a=AC o/\o.ExactDict/\o.data=.dict es ep/\es.toList=xs.map (entryOfKey<|tupleKind<|e! P w)/\(xs.map (·.1)).Nodup
|.set S n=>h.SetOf (intKind P w) a S n
|.ins C dx fs=>H dx=AC (.own a)/\fs.length<=1000/\dx≠a/\h.get? a=AC (SL C dx) /\
 ∃mA,h.Ns1 dx mA/\(∀f,lJ (fs.lookup f) (mA f))/\ww mA (fs.map (·.1))
|.own _=>∃o,h.get? a=AC o
|.xd fs=>∃mA,h.Ns1 a mA/\∀f,lJ (fs.lookup f) (mA f)
|.Xx lo hi=>∃t u v,h.get? a=AC {cls:=.type "range",data:=.fields #[.int lo t,.int hi u,.int 1 v]}
|.fF o u=>h.get? a=AC o/\fD H h a u
|.Ia q=>∃ps:Array ζ,h.get? a=AC {cls:=.none,data:=.fields ps}/\TriplesOk ps.toList/\∀pos cv,codeAmong pos ps.toList=AC cv->∃c,cv=.ref c/\H c=AC (.LS q)
|.LS q=>h.CodeRec (.ref a) q
|.met f x=>h.get? a=AC (PySem.W.methodObj (.ref f)<|.ref x)
|.ext φ=>φ h/\(∃o,h.get? a=AC o)/\∀h1 h2:ν,φ h1->(∀o,h1.get? a=AC o->h2.get? a=AC o)->φ h2
def lM(H:Hp)(h:ν):Prop:=∀a o,H a=AC o->fD P w H h a o
end
theorem fD.lt(x:fD P w H h a o):a<h.objs.size:=by
 cases o with
 |lst xs=>let⟨_,_,_,_,e⟩:=x;exact A01 e
 |tup xs=>let⟨_,_,_,p⟩:=x;exact p.is.lt
 |dK a9=>let⟨_,_,_,_,o,_,_,e,_⟩:=x;exact A01 e
 |dT a9=>let⟨_,_,_,_,o,_,_,e,_⟩:=x;exact A01 e
 |set S n=>let⟨o,_,_,_,e,_⟩:=x;exact A01 e
 |ins C dx fs=>let⟨_,_,_,e,_⟩:=x;exact A01 e
 |own y=>let⟨_,e⟩:=x;exact A01 e
 |xd fs=>let⟨_,⟨_,_,_,e,_⟩,_⟩:=x;exact A01 e
 |Xx lo hi=>let⟨_,_,_,e⟩:=x;exact A01 e
 |fF ob u=>let⟨e,_⟩:=x;exact A01 e
 |Ia q=>let⟨_,e,_⟩:=x;exact A01 e
 |LS q=>let⟨_,_,_,_,e1,e2,_⟩:=x;cases e1;exact A01 e2
 |met f y=>exact A01<|x
 |ext φ=>let⟨_,⟨_,e⟩,_⟩:=x;exact A01 e
theorem Paired.Gy:∀{l₁}{l₂},Paired F l₁ l₂->(∀a b,F a b->G a b)->Paired G l₁ l₂
|_,_,.nil,_=>.nil
|_,_,.cons r t,f=>.cons (f _ _ r)<|Paired.Gy t f
theorem fD.rZ(x:fD P w H h a o)(k:∀b u,(b=a\/H b=AC (.own a))->h.get? b=AC u->h'.get? b=AC u)
 (ho:∀b,H b=AC (.own a)->H' b=AC (.own a)) (ht:∀b xs,H b=AC (.tup xs)->H' b=AC (.tup xs)) (hp:∀b u,TL u->H b=AC u->H' b=AC u):fD P w H' h' a o:=by
 induction o with
 |lst xs=>let⟨z,bq,n,r,e⟩:=x;exact⟨z,bq,n,r,k _ _ (.inl rfl) e⟩
 |tup xs=>let⟨z,bq,r,ob,e⟩:=x;exact⟨z,bq,r,ob,k _ _ (.inl rfl) e⟩
 |dK a9=>let⟨z,y,vs,r,ob,es,ep,e,c⟩:=x;exact⟨z,y,vs,r,ob,es,ep,k _ _ (.inl rfl) e,c⟩
 |dT a9=>let⟨z,y,xs,r,ob,es,ep,e,c⟩:=x;exact⟨z,y,xs,Paired.Gy r λ p q z=>⟨z.1,ht _ _ z.2.1,z.2.2⟩,ob,es,ep,k _ _ (.inl rfl) e,c⟩
 |set S n=>let⟨ob,es,ep,t,e,c⟩:=x;exact⟨ob,es,ep,t,k _ _ (.inl rfl) e,c⟩
 |ins C dx fs=>let⟨d,z,ne,e,mA,⟨od,es,ep,e2,c⟩,r⟩:=x;exact⟨ho _ d,z,ne,k _ _ (.inl rfl) e,mA,⟨od,es,ep,k _ _ (.inr d) e2,c⟩,r⟩
 |own y=>let⟨ob,e⟩:=x;exact⟨ob,k _ _ (.inl rfl) e⟩
 |xd fs=>let⟨mA,⟨od,es,ep,e,c⟩,r⟩:=x;exact⟨mA,⟨od,es,ep,k _ _ (.inl rfl) e,c⟩,r⟩
 |Xx lo hi=>let⟨t,u,v,e⟩:=x;exact⟨t,u,v,k _ _ (.inl rfl) e⟩
 |fF ob u ih=>let⟨e,q⟩:=x;exact⟨k _ _ (.inl rfl) e,ih q⟩
 |Ia q=>let⟨ps,e,t,g⟩:=x;exact⟨ps,k a _ (.inl rfl) e,t,λ pos cv r=>let ⟨c,e1,e2⟩:=g pos cv r;⟨c,e1,hp c _ trivial e2⟩⟩
 |LS q=>let⟨c,oc,vs,t,e1,e2,r⟩:=x;cases e1;exact⟨a,oc,vs,t,rfl,k a _ (.inl rfl) e2,r⟩
 |met f y=>have e:=x;exact k a _ (.inl rfl) e
 |ext φ=>let⟨p,⟨o,e⟩,st⟩:=x;exact⟨st _ _ p λ o q=>k _ _ (.inl rfl) q,⟨o,k _ _ (.inl rfl) e⟩,st⟩
theorem lM.lt(x:lM P w H h)(e:H a=AC o):a<h.objs.size:=(x a o e).lt
theorem lM.fresh(x:lM P w H h)(e:h.objs.size<=a):H a=At:=by
 cases q:H a with
 |none=>rfl
 |some u=>exact absurd (A16 (x.lt q) e)<|A88 _
theorem lM.kept(x:lM P w H h)(k:∀b u,h.get? b=AC u->h'.get? b=AC u):lM P w H h':=λ a o e=>(x a o e).rZ (λ b u _ q=>k b u q) (λ _ q=>q) (λ _ _ q=>q) λ _ _ _ q=>q
theorem lM.laid(x:lM P w H h)(k:∀b u,h.get? b=AC u->h'.get? b=AC u)(hp:h.objs.size<=a)(new:fD P w (upd H a o) h' a o):lM P w (upd H a o) h':=λ b u e=>by
 have hn:=x.fresh hp;by_cases hb:b=a
 .subst hb;rw[aO]at e;cases e;exact new
 .rw[aG hb]at e;exact(x b u e).rZ (λ c v _ q=>k c v q) (λ c q=>by rw[aG<|bj q hn];exact q) (λ c xs q=>by rw[aG<|bj q hn];exact q) λ c v _ q=>by rw[aG<|bj q hn];exact q
def Rd(H:Hp)(a:δ)(u:HO):Prop:=H a=AC u\/∃o,H a=AC (.fF o u)
theorem Rd.ok(r:Rd H a u)(x:lM P w H h):fD P w H h a u:=by
 rcases r with r|⟨o,r⟩
 .exact x a u r
 .let⟨_,q⟩:=x a _ r;exact q
def W4:ε HO->Prop
|some<|.lst _=>True
|some<|.dK _=>True
|some<|.dT _=>True
|some<|.set _ _=>True
|some<|.ins _ _ _=>True
|some<|.ext _=>True
|_=>False
theorem lM.write(ok:lM P w H h)(mu:W4 (H x))(he:e=x\/H e=AC (.own x))(k:∀ b u,b≠e->h.get? b=AC u->h'.get? b=AC u)(Tj:∃ u,h'.get? e=AC u)
 (new:fD P w (upd H x o') h' x o'):lM P w (upd H x o') h':=λ b u q=>by
 have U8:∀c y,H c=AC (.own y)->c≠x:=λ c y r z=>by subst z;rw[r]at mu;exact mu
 have ZV:∀c xs,H c=AC (.tup xs)->c≠x:=λ c xs r z=>by subst z;rw[r]at mu;exact mu
 have ZW:∀c u,TL u->H c=AC u->c≠x:=λ c u p r z=>by subst z;rw[r]at mu;cases u<;>first|exact p|exact mu
 by_cases hb:b=x
 .subst hb;rw[aO]at q;cases q;exact new
 .rw[aG hb]at q;by_cases R0:b=e
  .have q':H b=AC (.own x):=by
    rcases he with z|z
    .exact absurd (R0.trans z) hb
    .rw[R0];exact z
   rw[q]at q';cases q';let⟨v,hv⟩:=Tj;exact⟨v,by rw[R0];exact hv⟩
  .refine(ok b u q).rZ (λ c v hc r=>k c v ?_ r) (λ c r=>by rw[aG<|U8 c b r];exact r) (λ c xs r=>by rw[aG<|ZV c xs r];exact r) λ c v p r=>by rw[aG<|ZW c v p r];exact r
   rcases hc with rfl|hc
   .exact R0
   .rintro rfl;rcases he with z|z
    .exact U8 c b hc z
    .rw[hc]at z;cases z;exact hb rfl
structure Un(fs ex:List Addr)(H H':Hp)(h h':Heap):Prop where
 keep:∀b o,h.get? b=AC o->H b=At->b∉fs->b∉ex->h'.get? b=AC o
 slot:∀b o,h.get? b=AC o->H b=At->b∈fs->b∉ex->∃sl,h'.get? b=AC {o with slots:=sl}
 free:∀b o,h.get? b=AC o->H b=At->b∉ex->H' b=At
 there:∀b o,h.get? b=AC o->b∉ex->∃o',h'.get? b=AC o'
 tO:∀b xs,H b=AC (.tup xs)->H' b=AC (.tup xs)
 sv:∀b o u,H b=AC (.fF o u)->H' b=AC (.fF o u)
 o5:∀b u,TL u->H b=AC u->H' b=AC u
theorem Un.any(u:Un fs ex H H1 h h1)(q:h.get? b=AC ob)(n:H b=At)(hx:b∉ex):∃sl,h1.get? b=AC {ob with slots:=sl}:=by
 by_cases hb:b∈fs
 .exact u.slot b ob q n hb hx
 .exact⟨_,u.keep b ob q n hb hx⟩
theorem Un.kept(k:∀b u,h.get? b=AC u->h'.get? b=AC u):Un fs ex H H h h':=
 ⟨λ b ob q _ _ _=>k b ob q,λ b ob q _ _ _=>⟨_,k b ob q⟩,λ _ _ _ n _=>n,λ b ob q _=>⟨ob,k b ob q⟩,λ _ _ q=>q,λ _ _ _ q=>q,λ _ _ _ q=>q⟩
theorem Un.refl:Un fs ex H H h h:=Un.kept λ _ _ q=>q
theorem Un.laid(k:∀b u,h.get? b=AC u->h'.get? b=AC u)(hp:h.objs.size<=a)(hn:H a=At):Un fs ex H (upd H a o) h h' where
 keep:=λ b u q _ _ _=>k b u q
 slot:=λ b u q _ _ _=>⟨_,k b u q⟩
 free:=λ b u q n _=>by rw[aG<|A12<|A16 (A01 q) hp];exact n
 there:=λ b u q _=>⟨u,k b u q⟩
 tO:=λ b xs q=>by rw[aG<|bj q hn];exact q
 sv:=λ b u xs q=>by rw[aG<|bj q hn];exact q
 o5:=λ b u _ q=>by rw[aG<|bj q hn];exact q
theorem Un.write(mu:W4 (H x))(he:e=x\/H e=AC (.own x))(k:∀b u,b≠e->h.get? b=AC u->h'.get? b=AC u)(Tj:∃u,h'.get? e=AC u):Un fs ex H (upd H x o) h h':=by
 have hx:∀b,H b=At->b≠x:=λ b n z=>by subst z;rw[n]at mu;exact mu
 have hb:∀b,H b=At->b≠e:=λ b n z=>by
  subst z;rcases he with r|r
  .exact hx b n r
  .rw[n]at r;cases r
 have hm:∀b u,H b=AC u->¬W4 (AC u)->b≠x:=λ b u q nm z=>by subst z;rw[q]at mu;exact nm mu
 refine⟨λ b u q n _ _=>k b u (hb b n) q,λ b u q n _ _=>⟨_,k b u (hb b n) q⟩,λ b u q n _=>by rw[aG<|hx b n];exact n,λ b u q _=>?_,
  λ b xs q=>by rw[aG<|hm b _ q λ z=>z];exact q,λ b u xs q=>by rw[aG<|hm b _ q λ z=>z];exact q,λ b u p q=>by rw[aG<|hm b _ q λ z=>by cases u<;>first|exact p|exact z];exact q⟩
 by_cases R0:b=e
 .subst R0;exact Tj
 .exact⟨u,k b u R0 q⟩
def Qh(h:ν)(H:Hp):γ δ:=(Ev h.objs.size).filter λ a=>(H a).isSome
def vP(h:ν)(H:Hp):ν:=PySem.W.hideAll h<|Qh h H
theorem GV(h:ν)(H:Hp):(vP h H).objs.size=h.objs.size:=PySem.W.hideAll_size _ _
theorem Kb(e:h.get? b=AC o)(n:H b=At):(vP h H).get? b=AC o:=
 PySem.W.hideAll_get _ e λ hm=>by have q:=(A60.mp hm).2;rw[n]at q;simp at q
theorem MY(e:(vP h H).get? b=AC o):h.get? b=AC o/\H b=At:=by
 have e':=PySem.W.of_hideAll _ e;refine⟨e',?_⟩;cases q:H b with
 |none=>rfl
 |some x=>have hm:b∈Qh h H:=A60.mpr ⟨A26.mpr<|A01 e',by simp[q]⟩;have z:(vP h H).get? b=At:=ci _ hm;rw[z]at e;cases e
def OQ(g h:ν)(L:δ):γ (δ×μ):=(Ev h.objs.size).filterMap λ a=>if a=L\/(g.get? a).isSome=Ch then At else(h.get? a).map λ o=>(a,o)
def rest(g h:ν)(L d:δ):γ (δ×μ):=(OQ g h L).filter λ p=>decide<|p.1≠d
structure Mod(K:Da)(mg:Str->Option Value)(base:Heap):Prop where
 LK:K.In base
 glob:base.Ns mainGlobals mg
 blt:∃mb,base.Ns builtinsNs mb/\∀x:Str,x≠ "__name__" -> mb x=bootBuiltins x
 nolimit:base.NoLimit
def dD:γ Str:=["best_among","paper_beside"]
def jA(x:Str):Str:=x++ ".<locals>."++ "<lambda>"
def BMain(mg:Str->ε ζ)(base:ν):Prop:=∃bm ob,mg "__builtins__"=AC (.ref bm)/\bm≠builtinsNs/\base.get? bm=AC ob/\ob.cls=.type "module" /\ ob.dict=AC builtinsNs/\ob.data=.plain
def xD(K:Da)(mg:Str->ε ζ)(base:ν)(H:Hp):Prop:=∀x∈dD,∀c P,Os K x=AC (c,P)->H P=AC (.Ia<|jA x)/\AC3 base c P/\BMain mg base
theorem xD.up{K:Da}(t:xD K mg base H)(u:∀b o,TL o->H b=AC o->H' b=AC o):xD K mg base H':=λ x hx c P e=>⟨u _ _ trivial (t x hx c P e).1,(t x hx c P e).2⟩
set_option genInjectivity false in
structure Cx where
 prog:Program
 w:World
 K:Da
 mg:Str->Option Value
 base:Heap
 A:Around
 N:List Str
 s₀:Shared
 H₀:Hp
 env:Env
 outer:List Env
 stack:List Env
 ex:List Addr
 fn:Str->Bool
 calm:Bool
 pn:List (Addr×Obj)
 xe:Value->Shared->Prop
def uG(l:γ Env):γ δ:=l.filterMap (·.frame)
abbrev Cx.fs(X:Cx):γ δ:=uG X.outer
def Hq(sc:τ)(x:Str):Prop:=sc.names.lookup x=AC .local\/sc.names.lookup x=AC .cell\/sc.names.lookup x=AC .free
def Loc(sc:τ)(x:Str):Prop:=sc.names.lookup x=AC .local\/sc.names.lookup x=AC .cell
def Look(env:Env)(h:ν)(m:Str->ε ζ)(x:Str)(u:ζ):Prop:=
 (env.kindOf x=AC .local/\m x=AC u)\/((env.kindOf x=AC .cell\/env.kindOf x=AC .free)/\∃c,env.cells.lookup x=AC c/\h.IsCell c (AC u))
structure Cx.Ok(X:Cx):Prop where
 mod:Mod X.K X.mg X.base
 kind:X.env.scope.kind=.function
 glob:X.env.globals=mainGlobals
 blt:X.env.builtins=builtinsNs
 above:X.s₀.heap.objs.size<=X.env.locals
 inj:∀x y c,X.env.cells.lookup x=AC c->X.env.cells.lookup y=AC c->x=y
 has:∀x,(X.env.kindOf x=AC .cell\/X.env.kindOf x=AC .free)->∃c,X.env.cells.lookup x=AC c
 Su:∀x c,X.fn x=Ch->X.env.cells.lookup x=AC c->X.s₀.heap.objs.size<=c
 hd:X.calm=Ch->X.A.handled=At
 frames:X.A.frames=AC X.stack
 LD:X.stack=X.outer\/(X.stack=X.env::X.outer/\X.env.frame=AC X.env.locals)
 YA:∀b∈X.ex,b≠X.env.locals/\∀x c,X.env.cells.lookup x=AC c->c≠b
 bs:∀b o,X.base.get? b=AC o->X.s₀.heap.get? b=AC o/\X.H₀ b=At
 Lf:X.base.objs.size<=X.s₀.heap.objs.size
 AB:∀b o,X.base.get? b=AC o->b∉X.ex
 G4:∀b∈X.ex,b∉X.fs
 m?:X.s₀.heap.FunFrames X.base X.outer
 N9:∀b∈X.fs,X.H₀ b=At
structure Inv(X:Cx)(χ:List (Addr×Obj))(σ:List (Option V))(H:Hp)(s:Shared):Prop where
 ok:X.Ok
 os:s.os=X.s₀.os
 bare:AllBare s.gens
 base:Un X.fs X.ex X.H₀ H X.s₀.heap s.heap
 loc:∃m,s.heap.Ns X.env.locals m/\∀(i:Nat)(x:Str)(v:V),X.N[i]?=AC x->σ[i]?=AC (AC v)->Hq X.env.scope x->∃u,RelV v u/\Look X.env s.heap m x u
 cell:∀x c,X.env.cells.lookup x=AC c->∃v,s.heap.IsCell c v
 free:H X.env.locals=At
 gW:∀x c,X.env.cells.lookup x=AC c->H c=At
 pin:∀p∈X.pn++χ,s.heap.get? p.1=AC p.2/\H p.1=At/\p.1≠X.env.locals/\p.1∉X.fs/\∀v,p.2.data≠.cell v
 b9:lM X.prog X.w H s.heap
 len:σ.length=X.N.length
 tab:xD X.K X.mg X.base H
section
variable{X:Cx}
theorem Cx.Ok.ZY(ok:X.Ok)(e:X.base.get? b=AC o):b∉X.fs:=λ hb=>by have:=(ok.m?.mem hb).1;rw[e]at this;cases this
theorem Inv.bs(I:Inv X χ σ H s):∀b o,X.base.get? b=AC o->s.heap.get? b=AC o/\H b=At:=λ b o e=>⟨I.base.keep b o (I.ok.bs b o e).1 (I.ok.bs b o e).2 (I.ok.ZY e)<|I.ok.AB b o e,I.base.free b o (I.ok.bs b o e).1 (I.ok.bs b o e).2<|I.ok.AB b o e⟩
theorem Inv.bk(I:Inv X χ σ H s):∀b o,X.base.get? b=AC o->s.heap.get? b=AC o:=λ b o e=>(I.bs b o e).1
theorem Inv.mod(I:Inv X χ σ H s):Mod X.K X.mg X.base:=I.ok.mod
theorem Inv.lH(I:Inv X χ σ H s):X.K.In s.heap:=I.ok.mod.LK.keeps I.bk
theorem Inv.nolimit(I:Inv X χ σ H s):s.heap.NoLimit:=I.ok.mod.nolimit.keeps I.bk
theorem Inv.lt(I:Inv X χ σ H s):X.env.locals<s.heap.objs.size:=let ⟨_,hn,_⟩:=I.loc;hn.lt
theorem Inv.sz(I:Inv X χ σ H s):X.s₀.heap.objs.size<=s.heap.objs.size:=A13 I.ok.above<|A76 I.lt
theorem Inv.Q8(I:Inv X χ σ H s)(h:s.heap.objs.size<=a):a∉X.fs:=λ hb=>by let⟨_,o,ho,_⟩:=I.ok.m?.mem hb;exact absurd (A16 (A01 ho)<|A13 I.sz h)<|A88 _
theorem Inv.OD(I:Inv X χ σ H s):∀x c,X.env.cells.lookup x=AC c->c≠X.env.locals:=λ x c e z=>by let⟨v,o,ho,hd⟩:=I.cell x c e;let⟨m,⟨o',es,ep,pI,qI,_⟩,_⟩:=I.loc;rw[z,pI]at ho;cases ho;rw[qI]at hd;cases hd
theorem Inv.m?(I:Inv X χ σ H s):s.heap.FunFrames X.base X.outer:=by
 have all:∀l,(∀b∈uG l,b∈X.fs)->X.s₀.heap.FunFrames X.base l->s.heap.FunFrames X.base l:=by
  intro l
  induction l with
  |nil=>intro _ _;trivial
  |cons env r ih=>intro hs hl;let⟨hk,⟨L,o,hf,hn,ho,hd⟩,hr⟩:=hl;have hL:=hs L (by unfold uG;rw[B75,hf];exact A11);let⟨sl,e⟩:=I.base.slot L o ho (I.ok.N9 L hL) hL λ z=>I.ok.G4 L z hL;exact⟨hk,⟨L,_,hf,hn,e,hd⟩,ih (λ b hb=>hs b (by unfold uG;rw[B75,hf];exact A09 _ hb)) hr⟩
 exact all _ (λ _ hb=>hb) I.ok.m?
theorem Inv.stack(I:Inv X χ σ H s):s.heap.FunFrames X.base X.stack:=by
 rcases I.ok.LD with e|⟨e,hf⟩
 .rw[e];exact I.m?
 .rw[e];let⟨m,hn,_⟩:=I.loc;refine .cons (by rw[I.ok.kind];decide) hf hn ?_ I.m?;exact B46<|A13 I.ok.Lf I.ok.above
theorem Inv.qr(I:Inv X χ σ H s):∀b∈uG X.stack,b∈X.env.locals::X.fs:=λ b hb=>by
 rcases I.ok.LD with e|⟨e,hf⟩
 .rw[e]at hb;exact A09 _ hb
 .rw[e]at hb;unfold uG at hb;rw[B75,hf]at hb;exact hb
theorem Inv.sH(I:Inv X χ σ H s):∀b∈uG X.stack,H b=At:=λ b hb=>by
 rcases A00.mp (I.qr b hb)with e|hb
 .rw[e];exact I.free
 .let⟨_,o,ho,_⟩:=I.ok.m?.mem hb;exact I.base.free b o ho (I.ok.N9 b hb) λ z=>I.ok.G4 b z hb
theorem Inv.step{ch:γ δ}(I:Inv X χ σ H s)
 (BR:∀b∈ch,(b∈X.ex\/X.s₀.heap.objs.size<=b)/\b≠X.env.locals/\(∀x c,X.env.cells.lookup x=AC c->c≠b)/\∀p∈X.pn++χ,p.1≠b)
 (keep:∀b o,b≠X.env.locals->b∉X.fs->b∉ch->s.heap.get? b=AC o->H b=At->h'.get? b=AC o)
 (slot:∀b o,b≠X.env.locals->b∈X.fs->b∉ch->s.heap.get? b=AC o->H b=At->∃sl,h'.get? b=AC {o with slots:=sl}) (free:∀b o,b∉ch->s.heap.get? b=AC o->H b=At->H' b=At)
 (there:∀b o,b∉ch->s.heap.get? b=AC o->∃o',h'.get? b=AC o')
 (tO:∀b xs,H b=AC (.tup xs)->H' b=AC (.tup xs)) (sv:∀b o u,H b=AC (.fF o u)->H' b=AC (.fF o u)) (o5:∀b u,TL u->H b=AC u->H' b=AC u)
 (ns:∀m,s.heap.Ns X.env.locals m->h'.Ns X.env.locals m) (b9:lM X.prog X.w H' h') (hg:AllBare g') :
 Inv X χ σ H' {s with heap:=h',gens:=g',drawn:=d',toks:=t'}:=by
 have U_:∀b o,X.s₀.heap.get? b=AC o->b≠X.env.locals:=λ b o e=>A12<|A16 (A01 e) I.ok.above;have Jv:∀b o,X.s₀.heap.get? b=AC o->b∉X.ex->b∉ch:=λ b o e hx hb=>by
  rcases(BR b hb).1 with z|z
  .exact hx z
  .exact absurd (A16 (A01 e) z)<|A88 _
 have cellK:∀x c,X.env.cells.lookup x=AC c->∀v,s.heap.IsCell c v->h'.IsCell c v:=by
  rintro x c e v ⟨o,ho,hd⟩;have AE:=λ z=>(BR c z).2.2.1 x c e rfl;by_cases hc:c∈X.fs
  .let⟨sl,q⟩:=slot c o (I.OD x c e) hc AE ho (I.gW x c e);exact⟨_,q,hd⟩
  .exact⟨o,keep c o (I.OD x c e) hc AE ho<|I.gW x c e,hd⟩
 refine⟨I.ok,I.os,hg,⟨λ b o e n hb hx=>?_,λ b o e n hb hx=>?_,λ b o e n hx=>?_,λ b o e hx=>?_,λ b xs e=>tO b xs<|I.base.tO b xs e,λ b o xs e=>sv b o xs<|I.base.sv b o xs e,λ b u p e=>o5 b u p<|I.base.o5 b u p e⟩,?_,λ x c e=>?_,?_,λ x c e=>?_,λ p hp=>?_,b9,I.len,I.tab.up o5⟩
 .exact keep b o (U_ b o e) hb (Jv b o e hx) (I.base.keep b o e n hb hx)<|I.base.free b o e n hx
 .let⟨sl,e1⟩:=I.base.slot b o e n hb hx;let⟨Zg,e2⟩:=slot b _ (U_ b o e) hb (Jv b o e hx) e1 (I.base.free b o e n hx);exact⟨Zg,e2⟩
 .let⟨o',e1⟩:=I.base.there b o e hx;exact free b o' (Jv b o e hx) e1<|I.base.free b o e n hx
 .let⟨o',e1⟩:=I.base.there b o e hx;exact there b o' (Jv b o e hx) e1
 .let⟨m,hn,hl⟩:=I.loc;refine⟨m,ns m hn,λ i x v e1 e2 e3=>?_⟩;let⟨u,r,l⟩:=hl i x v e1 e2 e3;refine⟨u,r,?_⟩;rcases l with l|⟨k,c,e,z⟩
  .exact .inl l
  .exact .inr ⟨k,c,e,cellK x c e _ z⟩
 .let⟨v,z⟩:=I.cell x c e;exact⟨v,cellK x c e v z⟩
 .let⟨m,⟨o,_,_,ho,_⟩,_⟩:=I.loc;exact free _ o (λ z=>(BR _ z).2.1 rfl) ho I.free
 .let⟨v,o,ho,hd⟩:=I.cell x c e;exact free c o (λ z=>(BR c z).2.2.1 x c e rfl) ho<|I.gW x c e
 .let⟨e,n,ne,nf,d⟩:=I.pin p hp;have AE:=λ z=>(BR p.1 z).2.2.2 p hp rfl;exact⟨keep p.1 p.2 ne nf AE e n,free p.1 p.2 AE e n,ne,nf,d⟩
theorem Inv.un(I:Inv X χ σ H s)(u:Un X.fs [] H H' s.heap h')(b9:lM X.prog X.w H' h'):Inv X χ σ H' {s with heap:=h',toks:=t'}:=by
 let⟨m,⟨o,es,ep,ho,r⟩,_⟩:=id I.loc;let⟨sl,hL⟩:=u.any ho I.free ∅;exact I.step (ch:=[]) (λ _ z=>nomatch z) (λ b o _ hb _ e n=>u.keep b o e n hb ∅) (λ b o _ hb _ e n=>u.slot b o e n hb ∅) (λ b o _ e n=>u.free b o e n ∅) (λ b o _ e=>u.there b o e ∅) u.tO u.sv u.o5 (λ m' hm=>by let⟨o',es',ep',pI,r'⟩:=hm;rw[ho]at pI;cases pI;exact⟨_,es',ep',hL,r'⟩) b9 I.bare
theorem Inv.call(I:Inv X χ σ H s)(u:Un (uG X.stack) ch H H' s.heap h')(b9:lM X.prog X.w H' h')(hg:AllBare g')
 (BR:∀b∈ch,(b∈X.ex\/X.s₀.heap.objs.size<=b)/\b≠X.env.locals/\(∀x c,X.env.cells.lookup x=AC c->c≠b)/\∀p∈X.pn++χ,p.1≠b) :
 Inv X χ σ H' {s with heap:=h',gens:=g',drawn:=d',toks:=t'}:=by
 let⟨m,⟨o,es,ep,ho,r⟩,_⟩:=id I.loc;let⟨sl,hL⟩:=u.any ho I.free λ z=>(BR _ z).2.1 rfl;exact I.step BR (λ b o hL hb hc e n=>u.keep b o e n (λ z=>(A00.mp<|I.qr b z).elim hL hb) hc) (λ b o _ _ hc e n=>u.any e n hc) (λ b o hc e n=>u.free b o e n hc) (λ b o hc e=>u.there b o e hc) u.tO u.sv u.o5 (λ m' hm=>by let⟨o',es',ep',pI,r'⟩:=hm;rw[ho]at pI;cases pI;exact⟨_,es',ep',hL,r'⟩) b9 hg
theorem Inv.turned(I:Inv X χ σ H s)(k:∀b o,b≠it->s.heap.get? b=AC o->h'.get? b=AC o)(hn:H it=At)(hL:it≠X.env.locals)
 (h1:it∈X.ex\/X.s₀.heap.objs.size<=it) (h2:∀x c,X.env.cells.lookup x=AC c->c≠it) (h3:∀p∈X.pn++χ,p.1≠it):Inv X χ σ H {s with heap:=h',toks:=t'}:=by
 have nit:∀b u,H b=AC u->b≠it:=λ b u e z=>by rw[z,hn]at e;cases e
 refine I.step (ch:=[it]) (λ b hb=>?_) (λ b o _ _ hc e _=>k b o (λ z=>hc (by simp[z])) e) (λ b o _ _ hc e _=>⟨_,k b o (λ z=>hc (by simp[z])) e⟩) (λ _ _ _ _ n=>n)
  (λ b o hc e=>⟨o,k b o (λ z=>hc (by simp[z])) e⟩) (λ _ _ e=>e) (λ _ _ _ e=>e) (λ _ _ _ e=>e) (λ m hm=>?_) (λ b u e=>?_) I.bare
 .have e:b=it:=by simpa using hb
  subst e;exact⟨h1,hL,h2,h3⟩
 .let⟨o,es,ep,ho,r⟩:=hm;exact⟨o,es,ep,k _ o (A05 hL) ho,r⟩
 .refine(I.b9 b u e).rZ (λ c v hc q=>k c v ?_ q) (λ _ q=>q) (λ _ _ q=>q) λ _ _ _ q=>q;rcases hc with z|z
  .rw[z];exact nit b u e
  .exact nit c _ z
theorem Inv.tok(I:Inv X χ σ H s)(t:Nat):Inv X χ σ H {s with toks:=t}:=I.un Un.refl I.b9
theorem Inv.kept(I:Inv X χ σ H s)(k:∀b u,s.heap.get? b=AC u->h'.get? b=AC u):Inv X χ σ H {s with heap:=h',toks:=t'}:=I.un (Un.kept k)<|I.b9.kept k
theorem Inv.laid(I:Inv X χ σ H s)(k:∀b u,s.heap.get? b=AC u->h'.get? b=AC u)(hp:s.heap.objs.size<=a)(new:fD X.prog X.w (upd H a o) h' a o):
 Inv X χ σ (upd H a o) {s with heap:=h',toks:=t'}:=I.un (Un.laid k hp<|I.b9.fresh hp)<|I.b9.laid k hp new
theorem Inv.write(I:Inv X χ σ H s)(mu:W4 (H x))(he:e=x\/H e=AC (.own x))(k:∀b u,b≠e->s.heap.get? b=AC u->h'.get? b=AC u)(Tj:∃u,h'.get? e=AC u)
 (new:fD X.prog X.w (upd H x o) h' x o):Inv X χ σ (upd H x o) {s with heap:=h',toks:=t'}:=I.un (Un.write mu he k Tj)<|I.b9.write mu he k Tj new
theorem Inv.Eu(I:Inv X χ σ H s)(h:∀p∈nv,s.heap.get? p.1=AC p.2/\H p.1=At/\p.1≠X.env.locals/\p.1∉X.fs/\∀v,p.2.data≠.cell v):Inv X nv σ H s:=
 ⟨I.ok,I.os,I.bare,I.base,I.loc,I.cell,I.free,I.gW,λ p hp=>(A37.mp hp).elim (λ z=>I.pin p<|A77 _ z)<|h p,I.b9,I.len,I.tab⟩
theorem AD{N:γ Str}(hN:N.Nodup){i j:Nat}(a:N[i]?=AC x)(b:N[j]?=AC x):i=j:=by let⟨h1,e1⟩:=A07.mp a;let⟨h2,e2⟩:=A07.mp b;exact(List.getElem_inj hN).mp<|e1.trans e2.symm
theorem wI(I:Inv X χ σ H s)(hN:X.N.Nodup)(hi:X.N[i]?=AC x)(hx:Loc X.env.scope x)(r:RelV v u)
 (h:∀s',Inv X χ (σ.set i<|some v) H s'->(∃a,IN a s.heap s'.heap/\(a=X.env.locals\/X.env.cells.lookup x=AC a))/\(X.env.scope.names.lookup x=AC .local->s.toks<s'.toks)->Q () s') (hf:X.fn x=Ch\/X.env.scope.names.lookup x=AC .local:=by first|exact .inl rfl|exact .inr rfl|assumption):EQ M A (storeName X.env x u) Q E s:=by
 let⟨m,hn,hl⟩:=id I.loc;have _6:(X.env.scope.kind==.class||(X.env.scope.kind==.module&&X.env.locals != X.env.globals))=AT:=by rw[I.ok.kind];rfl
 have hiσ:i<σ.length:=by rw[I.len];exact(A07.mp hi).1
 have OD:=I.OD;have tracked:∀{a}{h'},(∃o,s.heap.get? a=AC o/\H a=At)->IN a s.heap h'->lM X.prog X.w H h':=λ {a h'} ha hs b ob e=>by
  let⟨_,_,rE⟩:=ha;refine(I.b9 b ob e).rZ (λ c w' hc q=>(hs.2 c ?_).trans q) (λ _ q=>q) (λ _ _ q=>q) λ _ _ _ q=>q;rintro rfl;rcases hc with rfl|hc
  .rw[rE]at e;cases e
  .rw[rE]at hc;cases hc
 rcases hx with hk|hk
 .refine wpAny_storeName_local hk hn (λ h' J? hs=>?_) _6;let⟨oL,_,_,hoL,_⟩:=id hn;refine h _ ⟨I.ok,I.os,I.bare,⟨λ b o e n hb hx=>?_,λ b o e n hb hx=>?_,I.base.free,λ b o e hx=>?_,I.base.tO,I.base.sv,I.base.o5⟩,⟨_,J?,λ j y v' e1 e2 e3=>?_⟩,λ y c e=>?_,I.free,I.gW,λ p hp=>?_,tracked ⟨oL,hoL,I.free⟩ hs,by simpa using I.len,I.tab⟩ ⟨⟨_,hs,.inl rfl⟩,λ _=>A61 _⟩
  .exact(hs.2 b<|A12<|A16 (A01 e) I.ok.above).trans<|I.base.keep b o e n hb hx
  .let⟨sl,e1⟩:=I.base.slot b o e n hb hx;exact⟨sl,(hs.2 b<|A12<|A16 (A01 e) I.ok.above).trans e1⟩
  .let⟨o',e1⟩:=I.base.there b o e hx;exact⟨o',(hs.2 b<|A12<|A16 (A01 e) I.ok.above).trans e1⟩
  .by_cases hj:j=i
   .subst hj;rw[hi]at e1;cases e1;rw[A41 hiσ]at e2;cases e2;exact⟨u,r,.inl ⟨hk,by simp⟩⟩
   .rw[A29<|A05 hj]at e2;let⟨u',r',q⟩:=hl j y v' e1 e2 e3;refine⟨u',r',?_⟩;rcases q with⟨k,e⟩|⟨k,c,e,z⟩
    .refine .inl ⟨k,?_⟩;have:y≠x:=λ e=>hj<|AD hN e1<|e▸hi;simp[this,e]
    .exact .inr ⟨k,c,e,z.sameBut hs<|OD y c e⟩
  .let⟨w',z⟩:=I.cell y c e;exact⟨w',z.sameBut hs<|OD y c e⟩
  .let⟨e,n,ne,nf,d⟩:=I.pin p hp;exact⟨(hs.2 p.1 ne).trans e,n,ne,nf,d⟩
 .have V0:X.fn x=Ch:=by
   rcases hf with z|z
   .exact z
   .rw[z]at hk;cases hk
  let⟨c,hc⟩:=I.ok.has x (.inl hk);let⟨w',z⟩:=I.cell x c hc;refine wpAny_storeName_cell I.ok.kind hk hc z λ h' sk hs=>?_;let⟨oc,Yj,_x⟩:=id z;refine h {s with heap:=h'} ⟨I.ok,I.os,I.bare,⟨λ b o e n hb hx=>?_,λ b o e n hb hx=>?_,I.base.free,λ b o e hx=>?_,I.base.tO,I.base.sv,I.base.o5⟩,⟨m,hn.sameBut hs<|A05<|OD x c hc,λ j y v' e1 e2 e3=>?_⟩,λ y c' e=>?_,I.free,I.gW,λ p hp=>?_,tracked ⟨oc,Yj,I.gW x c hc⟩ hs,by simpa using I.len,I.tab⟩ ⟨⟨c,hs,.inr hc⟩,λ z=>absurd (hk.symm.trans z) ∅⟩
  .exact(hs.2 b<|A12<|A16 (A01 e)<|I.ok.Su x c V0 hc).trans<|I.base.keep b o e n hb hx
  .let⟨sl,e1⟩:=I.base.slot b o e n hb hx;exact⟨sl,(hs.2 b<|A12<|A16 (A01 e)<|I.ok.Su x c V0 hc).trans e1⟩
  .let⟨o',e1⟩:=I.base.there b o e hx;exact⟨o',(hs.2 b<|A12<|A16 (A01 e)<|I.ok.Su x c V0 hc).trans e1⟩
  .by_cases hj:j=i
   .subst hj;rw[hi]at e1;cases e1;rw[A41 hiσ]at e2;cases e2;exact⟨u,r,.inr ⟨.inl hk,c,hc,sk⟩⟩
   .rw[A29<|A05 hj]at e2;let⟨u',r',q⟩:=hl j y v' e1 e2 e3;refine⟨u',r',?_⟩;rcases q with q|⟨k,c',e,z'⟩
    .exact .inl q
    .refine .inr ⟨k,c',e,z'.sameBut hs ?_⟩;rintro rfl;exact hj<|AD hN e1<|I.ok.inj _ _ _ e hc▸hi
  .by_cases Yq:c'=c
   .subst Yq;exact⟨_,sk⟩
   .let⟨w2,z2⟩:=I.cell y c' e;exact⟨w2,z2.sameBut hs Yq⟩
  .let⟨e,n,ne,nf,d⟩:=I.pin p hp;refine⟨(hs.2 p.1 ?_).trans e,n,ne,nf,d⟩;intro q;rw[q,Yj]at e;have q':=A04 e;exact d w' (by rw[<-q'];exact _x)
theorem tV(I:Inv X χ σ H s)(hN:X.N.Nodup)(hi:X.N[i]?=AC x)(hx:Loc X.env.scope x)(r:RelV v u)
 (h:∀s',Inv X χ (σ.set i<|some v) H s'->Q () s') (hf:X.fn x=Ch\/X.env.scope.names.lookup x=AC .local:=by first|exact .inl rfl|exact .inr rfl|assumption):EQ M A (storeName X.env x u) Q E s:=
 wI I hN hi hx r (λ s' I' _=>h s' I') hf
theorem Inv.K!(I:Inv X χ σ H s)(ho:s'.os=s.os)(u:Un (uG X.stack) ch H H' s.heap s'.heap)(b9:lM X.prog X.w H' s'.heap)(hg:AllBare s'.gens)
 (BR:∀b∈ch,(b∈X.ex\/X.s₀.heap.objs.size<=b)/\b≠X.env.locals/\(∀x c,X.env.cells.lookup x=AC c->c≠b)/\∀p∈X.pn++χ,p.1≠b):Inv X χ σ H' s':=by
 let⟨h',g',d',t',o'⟩:=s';have e:=ho;subst e;exact I.call u b9 hg BR
end
abbrev XK:=ζ->ε δ->Hp->Prop
abbrev St:=γ<|ε V
abbrev VK:=V->Hp->Prop
abbrev TE:=St->Hp->VK->Prop
abbrev TT:=St->Hp->(Bool->Hp->Prop)->Prop
abbrev TA:=St->Hp->(γ V->Hp->Prop)->Prop
set_option genInjectivity false in
structure Ends where
 nx:St->Hp->Prop
 rt:VK
 bk:St->Hp->Prop:=λ _ _=>False
 ct:St->Hp->Prop:=λ _ _=>False
abbrev TS:=Ends->St->Hp->Prop
def EP(X:Cx)(χ:γ (δ×μ))(σ:St)(Q:VK)(u:ζ)(s':η):Prop:=∃v H',Inv X χ σ H' s'/\RelV v u/\Q v H'
def TP(X:Cx)(χ:γ (δ×μ))(σ:St)(Q:Bool->Hp->Prop)(b:Bool)(s':η):Prop:=∃H',Inv X χ σ H' s'/\Q b H'
def AP(X:Cx)(χ:γ (δ×μ))(σ:St)(Q:γ V->Hp->Prop)(us:γ ζ)(s':η):Prop:=∃vs H',Inv X χ σ H' s'/\Vals vs us/\Q vs H'
def SP(X:Cx)(χ:γ (δ×μ))(D:Ends)(f:Flow)(s':η):Prop:=
 match f with
 |.next=>∃σ' H',Inv X χ σ' H' s'/\D.nx σ' H'
 |.brk=>∃σ' H',Inv X χ σ' H' s'/\D.bk σ' H'
 |.cont=>∃σ' H',Inv X χ σ' H' s'/\D.ct σ' H'
 |.ret u=>∃v σ' H',Inv X χ σ' H' s'/\RelV v u/\D.rt v H'
def PE(X:Cx)(e:ι)(t:TE):Prop:=
 ∀(χ:γ (δ×μ))(s:η)(σ:St)(H:Hp)(Q:VK),Inv X χ σ H s->t σ H Q->EQ (model X.prog X.w) X.A (eval e X.env) (EP X χ σ Q) X.xe s
def PT(X:Cx)(e:ι)(t:TT):Prop:=
 ∀(χ:γ (δ×μ))(s:η)(σ:St)(H:Hp)(Q:Bool->Hp->Prop),Inv X χ σ H s->t σ H Q->EQ (model X.prog X.w) X.A (isTrue e X.env<|eval e X.env) (TP X χ σ Q) X.xe s
def PW(X:Cx)(e:ι)(t:TT):Prop:=
 ∀(whole:Sem ζ)(χ:γ (δ×μ))(s:η)(σ:St)(H:Hp)(Q:Bool->Hp->Prop),Inv X χ σ H s->t σ H Q->EQ (model X.prog X.w) X.A (isTrue e X.env whole) (TP X χ σ Q) X.xe s
theorem PW.pt(h:PW X e t):PT X e t:=h _
def PA(X:Cx)(es:γ ι)(t:TA):Prop:=
 ∀(pos:Pos)(χ:γ (δ×μ))(s:η)(σ:St)(H:Hp)(Q:γ V->Hp->Prop),Inv X χ σ H s->t σ H Q->EQ (model X.prog X.w) X.A (spliced<|backTo pos<|starEach es X.env) (AP X χ σ Q) X.xe s
def PS(X:Cx)(st:θ)(t:TS):Prop:=
 ∀(χ:γ (δ×μ))(s:η)(σ:St)(H:Hp)(D:Ends),Inv X χ σ H s->t D σ H->EQ (model X.prog X.w) X.A (exec st X.env) (SP X χ D) X.xe s
def qZ(X:Cx)(st:γ θ)(t:TS):Prop:=
 ∀(χ:γ (δ×μ))(s:η)(σ:St)(H:Hp)(D:Ends),Inv X χ σ H s->t D σ H->EQ (model X.prog X.w) X.A (execs st X.env) (SP X χ D) X.xe s
theorem cA{M:Model}{A:ς}{E:ζ->η->Prop}{s:η}(h:EQ M A t Q E s)(hQ:∀a s,Q a s->Q' a s):EQ M A t Q' E s:=A21 h hQ λ _ _ x=>x
section
def lS(i:Nat):TE:=λ σ H Q=>∃v,σ[i]?=AC (AC v)/\Q v H
def tC(v:V):TE:=λ _ H Q=>Q v H
theorem kH(hN:X.N[i]?=AC x)(hv:Hq X.env.scope x)(hd:(x==("__debug__"))=AT:=by decide)(nH:(x==("__classdict__"))=AT:=by decide):PE X (.Name x pos) (lS i):=by
 intro χ s σ H Q I h;let⟨v,e,h⟩:=h;let⟨m,hn,hl⟩:=I.loc;let⟨u,r,l⟩:=hl i x v hN e hv;have fin:EP X χ σ Q u s:=⟨v,H,I,r,h⟩
 rcases l with⟨hk,hm⟩|⟨hk,c,hc,rF⟩
 .exact wpAny_Name (wpAny_loadName_local I.ok.kind hk hn hm fin) hd
 .rcases hk with hk|hk
  .exact wpAny_Name (wpAny_loadName_cell I.ok.kind hk hc rF fin) hd
  .exact wpAny_Name (wpAny_loadName_free I.ok.kind hk hc rF fin nH) hd
theorem QD:PE X (.Constant (.int i) j pos) (tC<|.int i):=λ _ _ _ H _ I h=>wpAny_Constant_int ⟨.int i,H,I.tok _,⟨_,rfl⟩,h⟩
theorem UJ:PE X (.Constant (.bool b) j pos) (tC<|.bl b):=λ _ _ _ H _ I h=>Constant_bool ⟨.bl b,H,I,rfl,h⟩
theorem yh:PE X (.Constant .none j pos) (tC .non):=λ _ _ _ H _ I h=>Constant_none ⟨.non,H,I,rfl,h⟩
theorem Qy:PE X (.Constant (.str x) j pos) (tC<|.str x):=λ _ _ _ H _ I h=>Calls.Constant_str ⟨.str x,H,I.tok _,⟨_,rfl⟩,h⟩
def Gl(X:Cx)(x:Str):Prop:=X.env.kindOf x=AC .globalImplicit
theorem mK(I:Inv X χ σ H s)(hg:Gl X x)(hm:X.mg x=AC u)(h:Q u s)
 (hd:(x==("__debug__"))=AT:=by decide):EQ (model X.prog X.w) X.A (eval (.Name x pos) X.env) Q E s:=
 B76 I.ok.kind hg (Calls.loadGlobal_global (by rw[I.ok.glob];exact I.mod.glob.keeps I.bk) hm h) hd
theorem kM(I:Inv X χ σ H s)(hg:Gl X x)(hm:X.mg x=At)(hv:bootBuiltins x=AC u)(h:Q u s)
 (hn:x≠ "__name__":=by decide) (hd:(x==("__debug__"))=AT:=by decide):EQ (model X.prog X.w) X.A (eval (.Name x pos) X.env) Q E s:=by
 let⟨mb,h1,h2⟩:=I.mod.blt;exact B76 I.ok.kind hg (Calls.loadGlobal_builtin (by rw[I.ok.glob];exact I.mod.glob.keeps I.bk) hm (by rw[I.ok.blt];exact h1.keeps I.bk) ((h2 x hn).trans hv) h) hd
theorem ML(hg:Gl X x)(hm:X.mg x=AC u)(r:RelV v u)(hd:(x==("__debug__"))=AT:=by decide):PE X (.Name x pos) (tC v):=
 λ _ _ _ H _ I h=>mK I hg hm ⟨v,H,I,r,h⟩ hd
theorem MM(hg:Gl X x)(hm:X.mg x=At)(hv:bootBuiltins x=AC u)(r:RelV v u)(hn:x≠ "__name__":=by decide)(hd:(x==("__debug__"))=AT:=by decide):PE X (.Name x pos) (tC v):=
 λ _ _ _ H _ I h=>kM I hg hm hv ⟨v,H,I,r,h⟩ hn hd
def PC(X:Cx)(op:CmpOp)(a b:ι)(t:TE):Prop:=
 ∀ (χ:γ (δ×μ))(s:η)(σ:St)(H:Hp)(Q:VK),Inv X χ σ H s->t σ H Q ->
  EQ (model X.prog X.w) X.A (eval a X.env) (λ v s₁=>EQ (model X.prog X.w) X.A (eval b X.env) (λ u s₂=>EQ (model X.prog X.w) X.A (compareOp op v u) (EP X χ σ Q) X.xe s₂) X.xe s₁) X.xe s
theorem Jt(b:ι)(h:op≠.In)(h2:op≠.NotIn):behindInMarks op b=AT:=by
 have e1:(op==CmpOp.In)=AT:=by cases op<;>first|rfl|exact absurd rfl h
 have e2:(op==CmpOp.NotIn)=AT:=by cases op<;>first|rfl|exact absurd rfl h2
 cases b<;>simp[behindInMarks,e1,e2]
def tB(t:TE):TT:=λ σ H Q=>t σ H λ x H1=>∃c,x=.bl c/\Q c H1
theorem IQ(h:PC X op a b t)(h1:behindInMarks op b=AT:=by first|exact Jt _ ∅ ∅|rfl):PT X (.Compare a [op] [b] pos) (tB t):=by intro χ s σ H Q I hw;refine wpAny_isTrue_Compare1 (cA (h χ s σ H _ I hw) λ v s1 h1=>cA h1 λ u s2 h2=>cA h2 ?_) h1;rintro c s3 ⟨x,H1,I1,r1,q1⟩;let⟨d,rfl,q⟩:=q1;cases r1;exact A56 ⟨H1,I1,q⟩
theorem IM(h:PE X e t)(he:∀whole,isTrue e X.env whole=(do let v ←whole;standAt e.pos;holding [v] (truthy v)):=by intro _;rfl):PT X e (tB t):=by intro χ s σ H Q I hw;refine isTrue_plain (cA (h χ s σ H _ I hw) ?_)<|he _;rintro v s1 ⟨x,H1,I1,r1,q1⟩;let⟨d,rfl,q⟩:=q1;cases r1;exact A56 ⟨H1,I1,q⟩
variable{rest:γ ι}
def vw(t u:TT):TT:=λ σ H Q=>t σ H λ c H1=>if c=Ch then u σ H1 Q else Q AT H1
def BM(t u:TT):TT:=λ σ H Q=>t σ H λ c H1=>if c=Ch then Q Ch H1 else u σ H1 Q
def fZ(t:TT):TT:=λ σ H Q=>t σ H λ c H1=>Q (!c) H1
theorem pw_and1(ha:PT X a tA):PW X (.BoolOp .And [a] pos) tA:=by
 intro wh χ s σ H Q I h;refine isTrue_and<|cA (ha χ s σ H Q I h) λ c s1 e=>?_;cases c with
 |true=>exact isTrue_and_nil e
 |false=>exact e
theorem pw_or1(ha:PT X a tA):PW X (.BoolOp .Or [a] pos) tA:=by
 intro wh χ s σ H Q I h;refine isTrue_or<|cA (ha χ s σ H Q I h) λ c s1 e=>?_;cases c with
 |false=>exact isTrue_or_nil e
 |true=>exact e
theorem pw_and(ha:PT X a tA)(hb:PW X (.BoolOp .And (b::rest) pos) Y_):PW X (.BoolOp .And (a::b::rest) pos) (vw tA Y_):=by
 intro wh χ s σ H Q I h;refine isTrue_and<|cA (ha χ s σ H _ I h) ?_;rintro c s1 ⟨H1,I1,q1⟩;cases c with
 |true=>exact hb wh χ s1 σ H1 Q I1 q1
 |false=>exact⟨H1,I1,q1⟩
theorem pw_or(ha:PT X a tA)(hb:PW X (.BoolOp .Or (b::rest) pos) Y_):PW X (.BoolOp .Or (a::b::rest) pos) (BM tA Y_):=by
 intro wh χ s σ H Q I h;refine isTrue_or<|cA (ha χ s σ H _ I h) ?_;rintro c s1 ⟨H1,I1,q1⟩;cases c with
 |true=>exact⟨H1,I1,q1⟩
 |false=>exact hb wh χ s1 σ H1 Q I1 q1
theorem IP(ha:PT X a tA):PT X (.UnaryOp .Not a pos) (fZ tA):=by intro χ s σ H Q I h;exact isTrue_not<|ha χ s σ H (λ c H1=>Q (!c) H1) I h
def Uc(ta tb:TE):TE:=λ σ H Q=>ta σ H λ x H1=>∃c,x=.bl c/\if c=Ch then tb σ H1 Q else Q (.bl AT) H1
def Y4(ta tb:TE):TE:=λ σ H Q=>ta σ H λ x H1=>∃c,x=.bl c/\if c=Ch then Q (.bl Ch) H1 else tb σ H1 Q
def T9(ta:TE):TE:=λ σ H Q=>ta σ H λ x H1=>∃c,x=.bl c/\Q (.bl<|!c) H1
theorem Qz(h:PE X a t):PE X (.BoolOp op [a] pos) t:=λ χ s σ H Q I hw=>BoolOp_one<|h χ s σ H Q I hw
theorem QH(ha:PE X a ta)(hb:PE X (.BoolOp .And (b::rest) pos) tb):PE X (.BoolOp .And (a::b::rest) pos) (Uc ta tb):=by
 intro χ s σ H Q I h;refine BoolOp_and<|cA (ha χ s σ H _ I h) ?_;rintro v s1 ⟨x,H1,I1,r1,q1⟩;let⟨c,rfl,q1⟩:=q1;cases r1;refine A56 ?_;cases c with
 |true=>exact hb χ s1 σ H1 Q I1 q1
 |false=>exact⟨.bl AT,H1,I1,rfl,q1⟩
theorem UH(ha:PE X a ta)(hb:PE X (.BoolOp .Or (b::rest) pos) tb):PE X (.BoolOp .Or (a::b::rest) pos) (Y4 ta tb):=by
 intro χ s σ H Q I h;refine BoolOp_or<|cA (ha χ s σ H _ I h) ?_;rintro v s1 ⟨x,H1,I1,r1,q1⟩;let⟨c,rfl,q1⟩:=q1;cases r1;refine A56 ?_;cases c with
 |false=>exact hb χ s1 σ H1 Q I1 q1
 |true=>exact⟨.bl Ch,H1,I1,rfl,q1⟩
theorem QB(ha:PE X a ta):PE X (.UnaryOp .Not a pos) (T9 ta):=by intro χ s σ H Q I h;refine UnaryOp_<|cA (ha χ s σ H _ I h) ?_;rintro v s1 ⟨x,H1,I1,r1,q1⟩;let⟨c,rfl,q1⟩:=q1;cases r1;exact not_of<|A56 ⟨.bl<|!c,H1,I1,rfl,q1⟩
def tIf(t:TT)(ta tb:TE):TE:=λ σ H Q=>t σ H λ c H1=>if c=Ch then ta σ H1 Q else tb σ H1 Q
theorem I?(hc:PT X c tA)(ha:PE X a ta)(hb:PE X b tb):PE X (.IfExp c a b pos) (tIf tA ta tb):=by
 intro χ s σ H Q I h;refine wpAny_IfExp<|cA (hc χ s σ H _ I h) ?_;rintro d s1 ⟨H1,I1,q1⟩;cases d with
 |true=>exact ha χ s1 σ H1 Q I1 q1
 |false=>exact hb χ s1 σ H1 Q I1 q1
end
def jw(K:Da)(H:Hp)(a:δ)(xs:γ V):Prop:=
 Rd H a (.lst xs) \/
  ∃(o:μ)(bq:Array ζ)(n:Nat),K.lookup a=AC o/\o.cls=.type "list" /\ o.dict=At/\o.data=.seq bq n/\bq.size<=sizeLine/\Vals xs bq.toList
def mV(K:Da)(H:Hp)(a:δ)(xs:γ V):Prop:=
 Rd H a (.tup xs) \/
  ∃(o:μ)(bq:Array ζ)(n:Nat),K.lookup a=AC o/\o.cls=.type "tuple" /\ (o.data=.seq bq n/\o.dict=At/\o.slots=#[])/\bq.size<=sizeLine/\Vals xs bq.toList
def aaT:ζ->ε V
|.none=>AC .non
|.bool b=>AC<|.bl b
|.int i _=>AC<|.int i
|.str x _=>AC<|.str x
|.bytes b _=>AC<|.TJ b
|.float b _=>AC<|.Tr b
|.ref a=>AC<|.ref a
|.type n=>AC<|.ty n
|_=>At
theorem RelV.abs(r:RelV x u):aaT u=AC x:=by
 cases x with
 |non=>cases r;rfl
 |bl _=>cases r;rfl
 |int _=>let⟨t,rfl⟩:=r;rfl
 |str _=>let⟨t,rfl⟩:=r;rfl
 |TJ _=>let⟨t,rfl⟩:=r;rfl
 |Tr _=>let⟨t,rfl⟩:=r;rfl
 |ref _=>cases r;rfl
 |ty _=>cases r;rfl
theorem RelV.inj(r:RelV x u)(q:RelV y u):x=y:=A04<|r.abs.symm.trans q.abs
theorem Vals.inj:∀{xs ys}{us},Vals xs us->Vals ys us->xs=ys
|_,_,_,.nil,.nil=>rfl
|_,_,_,.cons r t,.cons r' t'=>by rw[r.inj r',Vals.inj t t']
theorem jw.of{K:Da}(h:H a=AC (.lst xs)):jw K H a xs:=.inl<|.inl h
theorem mV.of{K:Da}(h:H a=AC (.tup xs)):mV K H a xs:=.inl<|.inl h
theorem Inv.list(I:Inv X χ σ H s)(h:jw X.K H a xs):∃bq,Vals xs bq/\PlainL s.heap a bq.toArray/\xs.length<=sizeLine:=by
 rcases h with h|⟨o,bq,n,hk,hc,hd,hs,hz,r⟩
 .let⟨z,bq,n,r,e⟩:=h.ok I.b9;exact⟨bq,r,⟨_,n,e,rfl,rfl,rfl⟩,z⟩
 .refine⟨_,r,⟨o,n,I.lH a o hk,hc,hd,by simpa using hs⟩,?_⟩;have e:=r.length;simp only[B47]at e;lia
theorem Inv.tuple(I:Inv X χ σ H s)(h:mV X.K H a xs):∃bq,Vals xs bq/\IsTup s.heap a bq.toArray/\xs.length<=sizeLine:=by
 rcases h with h|⟨o,bq,n,hk,hc,hs,hz,r⟩
 .let⟨z,bq,r,p⟩:=h.ok I.b9;exact⟨bq,r,p.is,z⟩
 .refine⟨_,r,⟨o,I.lH a o hk,hc,n,by simpa using hs.1⟩,?_⟩;have e:=r.length;simp only[B47]at e;lia
theorem Inv.pB(I:Inv X χ σ H s)(h:jw X.K H a xs)(h':jw X.K H a ys):xs=ys:=by
 let⟨bq,r,⟨o,n,e,_,_,d⟩,_⟩:=I.list h;let⟨AX,r',⟨o',n',e',_,_,d'⟩,_⟩:=I.list h';rw[e]at e';cases e';rw[d]at d';injection d' with d1 _
 have:bq=AX:=by simpa using A15 ZB d1
 subst this;exact r.inj r'
theorem Inv.qq(I:Inv X χ σ H s)(h:mV X.K H a xs)(h':mV X.K H a ys):xs=ys:=by
 let⟨bq,r,⟨o,e,_,n,d⟩,_⟩:=I.tuple h;let⟨AX,r',⟨o',e',_,n',d'⟩,_⟩:=I.tuple h';rw[e]at e';cases e';rw[d]at d';injection d' with d1 _
 have:bq=AX:=by simpa using A15 ZB d1
 subst this;exact r.inj r'
abbrev Cx.wish(X:Cx)(E:ζ->η->Prop):Cx:={X with xe:=E}
abbrev Cx.gE(X:Cx):Cx:=X.wish λ _ _=>False
theorem Cx.Ok.wish{X:Cx}(ok:X.Ok)(E:ζ->η->Prop):(X.wish E).Ok:=
 ⟨ok.mod,ok.kind,ok.glob,ok.blt,ok.above,ok.inj,ok.has,ok.Su,ok.hd,ok.frames,ok.LD,ok.YA,ok.bs,ok.Lf,ok.AB,ok.G4,ok.m?,ok.N9⟩
theorem Cx.Ok.g9{X:Cx}(ok:(X.wish E).Ok):X.Ok:=
 ⟨ok.mod,ok.kind,ok.glob,ok.blt,ok.above,ok.inj,ok.has,ok.Su,ok.hd,ok.frames,ok.LD,ok.YA,ok.bs,ok.Lf,ok.AB,ok.G4,ok.m?,ok.N9⟩
theorem Inv.wish(I:Inv X χ σ H s)(E:ζ->η->Prop):Inv (X.wish E) χ σ H s:=⟨I.ok.wish E,I.os,I.bare,I.base,I.loc,I.cell,I.free,I.gW,I.pin,I.b9,I.len,I.tab⟩
theorem Inv.g9(I:Inv (X.wish E) χ σ H s):Inv X χ σ H s:=⟨I.ok.g9,I.os,I.bare,I.base,I.loc,I.cell,I.free,I.gW,I.pin,I.b9,I.len,I.tab⟩
theorem SP.g9(h:SP (X.wish E) χ D f s'):SP X χ D f s':=by
 cases f with
 |next=>let⟨σ',H',I,q⟩:=h;exact⟨σ',H',I.g9,q⟩
 |brk=>let⟨σ',H',I,q⟩:=h;exact⟨σ',H',I.g9,q⟩
 |cont=>let⟨σ',H',I,q⟩:=h;exact⟨σ',H',I.g9,q⟩
 |ret u=>let⟨v,σ',H',I,r,q⟩:=h;exact⟨v,σ',H',I.g9,r,q⟩
theorem PE.gE(h:PE X.gE e t):PE X e t:=λ χ s σ H Q I hw=>A21 (h χ s σ H Q (I.wish _) hw) (by rintro _ _ ⟨v,H',I',r,q⟩;exact⟨v,H',I'.g9,r,q⟩) λ _ _ z=>GM z
theorem PT.gE(h:PT X.gE e t):PT X e t:=λ χ s σ H Q I hw=>A21 (h χ s σ H Q (I.wish _) hw) (by rintro _ _ ⟨H',I',q⟩;exact⟨H',I'.g9,q⟩) λ _ _ z=>GM z
theorem qZ.gE{st:γ θ}(h:qZ X.gE st t):qZ X st t:=λ χ s σ H D I hw=>A21 (h χ s σ H D (I.wish _) hw) (λ _ _ q=>q.g9) λ _ _ z=>GM z
section
variable{st:θ}{rest:γ θ}
def T!:TS:=λ D σ H=>D.nx σ H
def Y2(t u:TS):TS:=λ D σ H=>t {D with nx:=u D} σ H
theorem Es:qZ X [] T!:=λ _ _ σ H _ I h=>B48 ⟨σ,H,I,h⟩
theorem i!(h1:PS X st t)(h2:qZ X rest u):qZ X (st::rest) (Y2 t u):=by
 intro χ s σ H D I h;refine wpAny_execs_cons<|cA (h1 χ s σ H {D with nx:=u D} I h) λ f s1 q=>?_;cases f with
 |next=>let⟨σ',H',I',q⟩:=q;exact h2 χ s1 σ' H' D I' q
 |ret v=>exact q
 |brk=>exact q
 |cont=>exact q
theorem mF(h1:PS X st t):qZ X [st] t:=by
 intro χ s σ H D I h;refine wpAny_execs_cons<|cA (h1 χ s σ H D I h) λ f s1 q=>?_;cases f with
 |next=>exact B48 q
 |ret v=>exact q
 |brk=>exact q
 |cont=>exact q
theorem Inv.quiet(I:Inv X χ σ H s):interactive X.env=AT:=by simp[interactive,I.ok.kind]
def T_(te:TE):TS:=λ D σ H=>te σ H λ _ H1=>D.nx σ H1
theorem sJ(he:PE X e te)(hs:swapsWith e At pos.line X.env=pure AT:=by rfl):PS X (.Expr e pos) (T_ te):=by intro χ s σ H D I h;exact wpAny_Expr_any (cA (he χ s σ H _ I h) <|by rintro v s1 ⟨x,H1,I1,r1,q1⟩;exact⟨σ,H1,I1,q1⟩) I.quiet hs
def Y3(te:TE):TS:=λ D σ H=>te σ H D.rt
theorem IT(he:PE X e te):PS X (.Return (AC e) pos) (Y3 te):=by intro χ s σ H D I h;exact wpAny_Return_some<|cA (he χ s σ H _ I h) <|by rintro v s1 ⟨x,H1,I1,r1,q1⟩;exact⟨x,σ,H1,I1,r1,q1⟩
def Y8(c:TT)(t u:TS):TS:=λ D σ H=>c σ H λ b H1=>if b=Ch then t D σ H1 else u D σ H1
theorem Et(hc:PT X c tc)(ha:qZ X a t)(hb:qZ X b u):PS X (.If c a b pos) (Y8 tc t u):=by
 intro χ s σ H D I h;refine wpAny_If<|cA (hc χ s σ H _ I h) ?_;rintro d s1 ⟨H1,I1,q1⟩;cases d with
 |true=>exact ha χ s1 σ H1 D I1 q1
 |false=>exact hb χ s1 σ H1 D I1 q1
end
abbrev TG:=V->St->Hp->(St->Hp->Prop)->Prop
abbrev SI:=γ V->St->Hp->(St->Hp->Prop)->Prop
def PG(X:Cx)(target:ι)(t:TG):Prop:=
 ∀ (χ:γ (δ×μ))(s:η)(σ:St)(H:Hp)(v:V)(u:ζ)(Q:St->Hp->Prop),Inv X χ σ H s->RelV v u->t v σ H Q ->
  EQ (model X.prog X.w) X.A (assign target X.env u) (λ _ s'=>∃σ' H',Inv X χ σ' H' s'/\Q σ' H') X.xe s
def Lu(X:Cx)(ts:γ ι)(t:SI):Prop:=
 ∀ (χ:γ (δ×μ))(s:η)(σ:St)(H:Hp)(vs:γ V)(us:γ ζ)(Q:St->Hp->Prop),Inv X χ σ H s->Vals vs us->t vs σ H Q ->
  EQ (model X.prog X.w) X.A (assignInOrder ((assignEach ts X.env).map (·.2)) us) (λ _ s'=>∃σ' H',Inv X χ σ' H' s'/\Q σ' H') X.xe s
abbrev TIp:=V->V->Hp->VK->Prop
def PIp(X:Cx)(op:Operator)(t:TIp):Prop:=
 ∀ (χ:γ (δ×μ))(s:η)(σ:St)(H:Hp)(x y:V)(v u:ζ)(Q:VK),Inv X χ σ H s->RelV x v->RelV y u->t x y H Q ->
  EQ (model X.prog X.w) X.A (inplaceOp op v u) (EP X χ σ Q) X.xe s
def aW(i:Nat):TG:=λ v σ H Q=>Q (σ.set i<|some v) H
theorem Ew(hN:X.N.Nodup)(hi:X.N[i]?=AC x)(hx:Loc X.env.scope x)(hf:X.fn x=Ch\/X.env.scope.names.lookup x=AC .local:=by first|exact .inl rfl|exact .inr rfl|assumption):PG X (.Name x pos) (aW i):=by intro χ s σ H v u Q I r h;exact wpAny_assign_Name<|tV I hN hi hx r (λ s' I'=>⟨_,H,I',h⟩) hf
def aaj:SI:=λ vs σ H Q=>vs=[]/\Q σ H
def Wf(t:TG)(u:SI):SI:=λ vs σ H Q=>∃v r,vs=v::r/\t v σ H λ σ' H'=>u r σ' H' Q
theorem MJ:Lu X [] aaj:=by intro χ s σ H vs us Q I r h;let⟨e,h⟩:=h;subst e;cases r;exact assignInOrder_nil ⟨σ,H,I,h⟩
theorem IY(h1:PG X e t)(h2:Lu X es u)
 (hs:(assignEach (e::es) X.env).map (·.2)=assign e X.env::(assignEach es X.env).map (·.2):=by rfl):Lu X (e::es) (Wf t u):=by
 intro χ s σ H vs us Q I r h;let⟨v,vr,e1,h⟩:=h;subst e1;cases r with
 |cons r rr=>rw[hs];refine assignInOrder_cons<|cA (h1 χ s σ H _ _ _ I r h) ?_;rintro _ s1 ⟨σ1,H1,I1,q1⟩;exact h2 χ s1 σ1 H1 _ _ Q I1 rr q1
def iA(K:Da)(n:Nat)(t:SI):TG:=λ v σ H Q=>∃a xs,v=.ref a/\mV K H a xs/\xs.length=n/\t xs σ H Q
theorem IZ(hc:X.calm=Ch)(h:Lu X es t)
 (hn:(assignEach es X.env).length=n:=by rfl) (pG:(assignEach es X.env).findIdx? (·.1)=At:=by rfl):PG X (.Tuple es k pos) (iA X.K n t):=by
 intro χ s σ H v u Q I r hw;let⟨a,xs,e1,hq,hl,hw⟩:=hw;subst e1;cases r;let⟨bq,rv,ht,hz⟩:=I.tuple hq;refine assign_Tuple_tuple (I.ok.hd hc) ht (by simp[hn,<-hl,rv.length]) pG λ h' hx=>?_;have I1:=I.kept (t':=s.toks) λ b o e=>hx b o (A12<|A01 e) e;exact h χ _ σ H xs _ Q I1 (by simpa using rv) hw
def Ub(te:TE)(g:TG):TS:=λ D σ H=>te σ H λ x H1=>g x σ H1 D.nx
theorem IV(he:PE X e te)(hg:PG X tg g)(hs:swapsWithSole [tg] e pos.line X.env=pure AT:=by rfl)(hw:swappedStores [tg] e X.env=pure At:=by rfl)
 (h1:(assignEach [tg] X.env).map (·.2)=[assign tg X.env]:=by rfl):PS X (.Assign [tg] e pos) (Ub te g):=by
 intro χ s σ H D I h;refine wpAny_Assign_stores (cA (he χ s σ H _ I h) ?_) hs hw;rintro v s1 ⟨x,H1,I1,r1,q1⟩;rw[h1];exact cA (hg χ s1 σ H1 x v _ I1 r1 q1) λ _ s2 q=>q
theorem nU(hN:X.N.Nodup)(hi:X.N[i]?=AC x)(hx:Loc X.env.scope x)(he:PE X e te)(hs:swapsWith e (AC<|.Name x pos') pos.line X.env=pure AT:=by rfl)(hf:X.fn x=Ch\/X.env.scope.names.lookup x=AC .local:=by first|exact .inl rfl|exact .inr rfl|assumption):
 PS X (.Assign [.Name x pos'] e pos) (Ub te<|aW i):=by
 intro χ s σ H D I h;refine wpAny_Assign_Name (cA (he χ s σ H _ I h) ?_) hs;rintro v s1 ⟨y,H1,I1,r1,q1⟩;exact tV I1 hN hi hx r1 (λ s2 I2=>⟨_,H1,I2,q1⟩) hf
def Za(i:Nat)(te:TE)(ti:TIp):TS:=λ D σ H=>∃x,σ[i]?=AC (AC x)/\te σ H λ y H1=>ti x y H1 λ z H2=>D.nx (σ.set i<|some z) H2
theorem Qv(hN:X.N.Nodup)(hi:X.N[i]?=AC x)(hx:Loc X.env.scope x)(he:PE X e te)(ho:PIp X op ti)(hf:X.fn x=Ch\/X.env.scope.names.lookup x=AC .local:=by first|exact .inl rfl|exact .inr rfl|assumption) :
 PS X (.AugAssign (.Name x pos') op e pos) (Za i te ti):=by
 intro χ s σ H D I h;let⟨v,e1,h⟩:=h;let⟨m,hn,hl⟩:=I.loc;have vis:Hq X.env.scope x:=by rcases hx with k|k;exact .inl k;exact .inr<|.inl k
 let⟨u,r,l⟩:=hl i x v hi e1 vis;refine wpAny_AugAssign_Name ?_;have go:EQ (model X.prog X.w) X.A (eval e X.env) (λ w s₂=>EQ (model X.prog X.w) X.A (inplaceOp op u w) (λ r s₃=>EQ (model X.prog X.w) X.A (storeName X.env x r) (λ _=>SP X χ D .next) X.xe s₃) X.xe s₂) X.xe s:=by refine cA (he χ s σ H _ I h) ?_;rintro w s1 ⟨y,H1,I1,r1,q1⟩;refine cA (ho χ s1 σ H1 v y u w _ I1 r r1 q1) ?_;rintro z s2 ⟨zv,H2,I2,r2,q2⟩;exact tV I2 hN hi hx r2 (λ s3 I3=>⟨_,H2,I3,q2⟩) hf
 rcases l with⟨hk,hm⟩|⟨hk,c,hc,rF⟩
 .exact wpAny_loadName_local I.ok.kind hk hn hm go
 .rcases hk with hk|hk
  .exact wpAny_loadName_cell I.ok.kind hk hc rF go
  .rcases hx with k|k
   .have:X.env.scope.names.lookup x=AC .free:=hk;rw[k]at this;cases this
   .have:X.env.scope.names.lookup x=AC .free:=hk;rw[k]at this;cases this
set_option genInjectivity false in
structure It where
 go:Nat->Hp->Prop
 D3:Nat->Hp->V->Hp->Prop
 stop:Nat->Hp->Prop
def p!(X:Cx)(χ:γ (δ×μ))(H:Hp)(b:δ):Prop:=
 H b=At/\b≠X.env.locals/\b∉X.fs/\(b∈X.ex\/X.s₀.heap.objs.size<=b)/\(∀x c,X.env.cells.lookup x=AC c->c≠b)/\∀p∈X.pn++χ,p.1≠b
theorem Inv.vT(I:Inv X χ σ H s)(hb:s.heap.objs.size<=b)(hn:H' b=At):p! X χ H' b:=by
 refine⟨hn,A42<|A16 I.lt hb,I.Q8 hb,.inr<|A13 I.sz hb,λ x c e z=>?_,λ p hp z=>?_⟩
 .let⟨v,q⟩:=I.cell x c e;exact absurd (A16 q.lt (by rw[z];exact hb))<|A88 _
 .exact absurd (A16 (A01 (I.pin p hp).1) (by rw[z];exact hb))<|A88 _
structure Turn(P:Program)(w:World)(K:Da)(tg:Expr)(J:It)(fp:List Addr)(it:Addr)(tn:Nat->Heap->Prop):Prop where
 mem:it∈fp
 obj:∀i h,tn i h->∀b∈fp,∃o,h.get? b=AC o/\∀v,o.data≠.cell v
 keep:∀i h h',tn i h->(∀b∈fp,∀o,h.get? b=AC o->h'.get? b=AC o)->tn i h'
 item:∀(X:Cx),X.prog=P->X.w=w->X.K=K->X.calm=Ch->∀(i:Nat)(χ:List (Addr×Obj))(s:Shared)(σ:St)(H:Hp)(E:Value->Shared->Prop),Inv X χ σ H s->(∀b∈fp,p! X χ H b)->tn i s.heap->J.go i H ->
  EQ (model P w) X.A (pyNext<|.ref it) (λ r s1=>∃u,r=AC u /\
   EQ (model P w) X.A (letOwnedTupleGo tg (.ref it) u) (λ _ s2=>∃x H',Inv X χ σ H' s2/\RelV x u/\J.D3 i H x H'/\tn (i+1) s2.heap/\∀b∈fp,H' b=At) E s1) E s
 done:∀(X:Cx),X.prog=P->X.w=w->X.K=K->X.calm=Ch->∀(i:Nat)(χ:List (Addr×Obj))(s:Shared)(σ:St)(H:Hp)(E:Value->Shared->Prop),Inv X χ σ H s->(∀b∈fp,p! X χ H b)->tn i s.heap->J.stop i H ->
  EQ (model P w) X.A (pyNext<|.ref it) (λ r s1=>r=At/\Inv X χ σ H s1) E s
 self:∀(A:Around)(i:Nat)(s:Shared)(Q:Value->Shared->Prop)(E:Value->Shared->Prop),tn i s.heap->Q (.ref it) s->EQ (model P w) A (pyIter<|.ref it) Q E s
abbrev TI:=St->Hp->(It->Hp->Prop)->Prop
def YO(X:Cx)(χ:γ (δ×μ))(σ:St)(tg:ι)(R:It->Hp->Prop)(Z!:ζ)(s2:η):Prop:=
 ∃(it:δ)(fp:γ δ)(tn:Nat->ν->Prop)(J:It)(H':Hp),Z!=.ref it/\Inv X χ σ H' s2/\Turn X.prog X.w X.K tg J fp it tn/\tn 0 s2.heap/\(∀b∈fp,p! X χ H' b)/\R J H'
def PI(X:Cx)(tg iter:ι)(wi:TI):Prop:=
 ∀ (χ:γ (δ×μ))(s:η)(σ:St)(H:Hp)(R:It->Hp->Prop),Inv X χ σ H s->wi σ H R ->
  EQ (model X.prog X.w) X.A (eval iter X.env) (λ v s1=>EQ (model X.prog X.w) X.A (pyIter v) (YO X χ σ tg R) X.xe s1) X.xe s
theorem A7(ho:s.heap.get? it=AC o)(hc:o.cls=.type n)(hd:o.data=.fields vs)
    (hn:["enumerate","zip","dict_itemiterator","dict_reverseitemiterator","odict_iterator","itertools.zip_longest","itertools.pairwise"].contains n=AT) (hQ:Q () s):EQ M A (letOwnedTupleGo tg (.ref it) u) Q E s:=by
  cases tg<;>first
    |exact P3 hQ
    | (cases u<;>first
        |exact P3 hQ
        | (refine T0<|wpAny_load ho ?_
           rw[hc,hd];show EQ M A (if(["enumerate","zip","dict_itemiterator","dict_reverseitemiterator","odict_iterator","itertools.zip_longest","itertools.pairwise"].contains n&&vs[0]?==AC _)=Ch then _ else _) Q E s;rw[W1 (by intro h;rw[hn,Bool.false_and]at h;cases h)];exact P3 hQ))
def Itl(K:Da)(a:δ):It:=
 ⟨λ i H=>∃xs x,jw K H a xs/\xs[i]?=AC x,λ i H x H'=>H'=H/\∀xs,jw K H a xs->xs[i]?=AC x,λ i H=>∃xs,jw K H a xs/\xs.length<=i⟩
def Itt(K:Da)(a:δ):It:=
 ⟨λ i H=>∃xs x,mV K H a xs/\xs[i]?=AC x,λ i H x H'=>H'=H/\∀xs,mV K H a xs->xs[i]?=AC x,λ i H=>∃xs,mV K H a xs/\xs.length<=i⟩
def PZ(lo:Int)(n:Nat):It:=⟨λ i _=>i<n,λ i H x H'=>H'=H/\x=.int (lo+i),λ i _=>n<=i⟩
theorem FZ{K:Da}(a it:δ):Turn P w K tg (Itl K a) [it] it (λ i h=>h.IsListIter it a i) where
 mem:=by simp
 obj:=λ i h st b hb=>by
  have e:b=it:=by simpa using hb
  subst e;let⟨o,e,c,d⟩:=st;exact⟨o,e,λ v z=>by rw[d]at z;cases z⟩
 keep:=λ i h h' st k=>st.at λ o e=>k it ∅ o e
 item:=by intro X hP hw hK hc i χ s σ H E I hf st hg;subst hP hw hK;let⟨xs,x,hq,hx⟩:=hg;let⟨bq,rv,p,hz⟩:=I.list hq;let⟨u,hu,ru⟩:=rv.get hx;let⟨f0,f1,f2,f3,f4,f5⟩:=hf it ∅;refine wpAny_pyNext_list_item st p.isList (by simpa using hu) λ h' z6 sb=>?_;have I1:=I.turned (t':=s.toks) (λ b o hb e=>(sb.2 b hb).trans e) f0 f1 f3 f4 f5;let⟨o,e,c,d⟩:=id z6;exact⟨u,rfl,A7 e c d ∅ ⟨x,H,I1,ru,⟨rfl,λ ys hy=>by rw[I.pB hy hq];exact hx⟩,z6,λ b hb=>(hf b hb).1⟩⟩
 done:=by intro X hP hw hK hc i χ s σ H E I hf st hg;subst hP hw hK;let⟨xs,hq,hx⟩:=hg;let⟨bq,rv,p,hz⟩:=I.list hq;let⟨f0,f1,f2,f3,f4,f5⟩:=hf it ∅;have hl:=rv.length;exact wpAny_pyNext_list_end (I.ok.hd hc) st p.isList (by simp;lia) λ h' eb=>⟨rfl,I.turned (λ b o hb e=>eb b o hb e) f0 f1 f3 f4 f5⟩
 self:=λ _ _ _ _ _ st h=>wpAny_pyIter_listiter st h
theorem Cb{K:Da}(a it:δ):Turn P w K tg (Itt K a) [it] it (λ i h=>h.IsTupleIter it a i) where
 mem:=by simp
 obj:=λ i h st b hb=>by
  have e:b=it:=by simpa using hb
  subst e;let⟨o,e,c,d⟩:=st;exact⟨o,e,λ v z=>by rw[d]at z;cases z⟩
 keep:=λ i h h' st k=>st.at λ o e=>k it ∅ o e
 item:=by intro X hP hw hK hc i χ s σ H E I hf st hg;subst hP hw hK;let⟨xs,x,hq,hx⟩:=hg;let⟨bq,rv,p,hz⟩:=I.tuple hq;let⟨u,hu,ru⟩:=rv.get hx;let⟨f0,f1,f2,f3,f4,f5⟩:=hf it ∅;refine wpAny_pyNext_tuple_item st (p) (by simpa using hu) λ h' z6 sb=>?_;have I1:=I.turned (t':=s.toks) (λ b o hb e=>(sb.2 b hb).trans e) f0 f1 f3 f4 f5;let⟨o,e,c,d⟩:=id z6;exact⟨u,rfl,A7 e c d ∅ ⟨x,H,I1,ru,⟨rfl,λ ys hy=>by rw[I.qq hy hq];exact hx⟩,z6,λ b hb=>(hf b hb).1⟩⟩
 done:=by intro X hP hw hK hc i χ s σ H E I hf st hg;subst hP hw hK;let⟨xs,hq,hx⟩:=hg;let⟨bq,rv,p,hz⟩:=I.tuple hq;let⟨f0,f1,f2,f3,f4,f5⟩:=hf it ∅;have hl:=rv.length;exact wpAny_pyNext_tuple_end (I.ok.hd hc) st (p) (by simp;lia) λ h' eb=>⟨rfl,I.turned (λ b o hb e=>eb b o hb e) f0 f1 f3 f4 f5⟩
 self:=λ _ _ _ _ _ st h=>wpAny_pyIter_tupleiter st h
theorem Cc{K:Da}(it:δ)(lo:Int)(n:Nat):Turn P w K tg (PZ lo n) [it] it (λ i h=>IsRangeIter h it (lo+(i)*1) ((n)-(i)) 1) where
 mem:=by simp
 obj:=λ i h st b hb=>by
  have e:b=it:=by simpa using hb
  subst e;exact⟨_,st,λ v z=>by have z':=z;cases z'⟩
 keep:=λ i h h' st k=>k it ∅ _ st
 item:=by intro X hP hw hK hc i χ s σ H E I hf st hg;subst hP hw hK;let⟨f0,f1,f2,f3,f4,f5⟩:=hf it ∅;have W:=Walks.range (prog:=X.prog) (w:=X.w) (I.ok.hd hc) it lo 1 n;refine W.item i s _ _ hg st λ v h' tk hv z6 kk=>?_;let⟨t,rfl⟩:=hv;have I1:Inv X χ σ H {s with heap:=h',toks:=tk}:=I.turned (λ b o hb e=>kk b o (by simpa using hb) e) f0 f1 f3 f4 f5;refine⟨_,rfl,A7 z6 rfl rfl ∅ ⟨.int<|lo+i,H,I1,⟨t,?_⟩,⟨rfl,rfl⟩,z6,λ b hb=>(hf b hb).1⟩⟩;rw[B49]
 done:=by intro X hP hw hK hc i χ s σ H E I hf st hg;subst hP hw hK;let⟨f0,f1,f2,f3,f4,f5⟩:=hf it ∅;exact wpAny_pyNext_range_end (I.ok.hd hc) st (by have:n<=i:=hg;lia) λ h' eb=>⟨rfl,I.turned (λ b o hb e=>eb b o hb e) f0 f1 f3 f4 f5⟩
 self:=λ _ _ _ _ _ st h=>wpAny_pyIter_rangeiter st h
def fT(ta:TA):TI:=λ σ H R=>ta σ H λ vs H1=>∃j:Int,vs=[.int j]/\-(2^62)<=j/\j<2^62/\R (PZ 0 j.toNat) H1
def A0(ta:TA):TI:=λ σ H R=>ta σ H λ vs H1=>∃i j:Int,vs=[.int i,.int j]/\(-(2^62)<=i/\i<2^62/\-(2^62)<=j/\j<2^62)/\R (PZ i (j-i).toNat) H1
def Y9(wi:TI)(g:TG)(tb:TS):TS:=λ D σ H=>wi σ H λ J H1=>∃W:Nat->Nat->St->Hp->Prop,(∃m,W 0 m σ H1)/\∀i m σ H,W i m σ H ->
 (J.stop i H/\D.nx σ H)\/(J.go i H/\∃N:St->Hp->Prop,(∀σ' H',N σ' H'->∃m',m'<m/\W (i+1) m' σ' H')/\∀x H',J.D3 i H x H'->g x σ H' λ σ2 H2=>tb {D with nx:=N,ct:=N,bk:=D.nx} σ2 H2)
def t?(fp:γ δ)(h:ν):γ (δ×μ):=fp.filterMap λ b=>(h.get? b).map λ o=>(b,o)
theorem kL(hb:b∈fp)(e:h.get? b=AC o):(b,o)∈t? fp h:=B77.mpr ⟨b,hb,by rw[e];rfl⟩
theorem Gi(hp:p∈t? fp h):p.1∈fp/\h.get? p.1=AC p.2:=by
 let⟨b,hb,e⟩:=B77.mp hp;cases q:h.get? b with
 |none=>rw[q]at e;cases e
 |some o=>rw[q]at e;have e':=A04 e;subst e';exact⟨hb,q⟩
theorem Inv.pinned(I:Inv X χ σ H s)(hf:∀b∈fp,p! X χ H b)(ho:∀b∈fp,∃o,s.heap.get? b=AC o/\∀v,o.data≠.cell v):Inv X (χ++t? fp s.heap) σ H s:=
 I.Eu λ p hp=>(A37.mp hp).elim (λ z=>I.pin p<|A43 _ z) λ z=>by let⟨hb,e⟩:=Gi z;let⟨f0,f1,f2,_⟩:=hf p.1 hb;let⟨o,e',d⟩:=ho p.1 hb;rw[e]at e';cases e';exact⟨e,f0,f1,f2,d⟩
theorem Inv.oW(I:Inv X (χ++pl) σ H s):Inv X χ σ H s:=I.Eu λ p hp=>I.pin p<|A43 _<|A77 _ hp
theorem IU(hp:PassesOwn (model X.prog X.w) X.A X.env X.xe)(hc:X.calm=Ch)(hi:PI X tg iter wi)(hg:PG X tg g)(hb:qZ X body tb)
 (hs:∀x,foldedSetIterable iter X.env x=pure x:=by intro _;rfl):PS X (.For tg iter body [] pos) (Y9 wi g tb):=by
 intro χ s σ H D I h;refine wpAny_For (cA (hi χ s σ H _ I h) λ v s1 h1=>cA h1 λ Z! s2 h2=>?_) hs;let⟨it,fp,tn,J,H2,e,I2,T,BN,f2,W,⟨m0,w0⟩,turn⟩:=h2;subst e
 -- YX stays true of Qi C3 objects through Qi loop
 have Ci:∀{H'},(∀b∈fp,H' b=At)->∀b∈fp,p! X χ H' b:=λ hn b hb=>⟨hn b hb,(f2 b hb).2⟩
 refine codeAny_forLoop_any (λ n s'=>∃i σ' H',Inv X χ σ' H' s'/\tn i s'.heap/\(∀b∈fp,H' b=At)/\W i n σ' H') ?_ m0 ⟨0,σ,H2,I2,BN,λ b hb=>(f2 b hb).1,w0⟩;rintro n s3 ⟨i,σ3,H3,I3,Io,Wj,w3⟩;rcases turn i n σ3 H3 w3 with⟨stop,qn⟩|⟨go,N,hN,step⟩
 .refine B22 hp<|cA (T.done X rfl rfl rfl hc i χ s3 σ3 H3 X.xe I3 (Ci Wj) Io stop) ?_;rintro r s4 ⟨hr,I4⟩;subst hr;exact B48 ⟨σ3,H3,I4,qn⟩
 .refine B22 hp<|cA (T.item X rfl rfl rfl hc i χ s3 σ3 H3 X.xe I3 (Ci Wj) Io go) ?_;rintro r s4 ⟨u,hr,h4⟩;subst hr;refine B22 hp<|cA h4 ?_;rintro _ s5 ⟨x,H5,I5,r5,y5,xY,fr5⟩;have I5':=I5.pinned (Ci fr5)<|T.obj _ _ xY;refine B22 hp<|cA (hg _ s5 σ3 H5 x u _ I5' r5<|step x H5 y5) ?_;rintro _ s6 ⟨σ6,H6,I6,q6⟩;refine B22 hp<|cA (hb _ s6 σ6 H6 _ I6 q6) λ f s7 q7=>?_;have again:∀{σ7}{H7},Inv X (χ++t? fp s5.heap) σ7 H7 s7->N σ7 H7->∃m,m<n/\∃i σ' H',Inv X χ σ' H' s7/\tn i s7.heap/\(∀b∈fp,H' b=At)/\W i m σ' H':=λ {σ7 H7} I7 n7=>by let⟨m',hm,w7⟩:=hN σ7 H7 n7;refine⟨m',hm,i+1,σ7,H7,I7.oW,T.keep _ _ _ xY λ b hb o e=>(I7.pin (b,o)<|A43 _<|A43 _<|kL hb e).1,λ b hb=>?_,w7⟩;let⟨o,e,d⟩:=T.obj _ _ xY b hb;exact(I7.pin (b,o)<|A43 _<|A43 _<|kL hb e).2.1
  cases f with
  |next=>let⟨σ7,H7,I7,n7⟩:=q7;exact again I7 n7
  |cont=>let⟨σ7,H7,I7,n7⟩:=q7;exact again I7 n7
  |brk=>let⟨σ7,H7,I7,q7⟩:=q7;exact⟨σ7,H7,I7.oW,q7⟩
  |ret v=>let⟨x7,σ7,H7,I7,r7,q7⟩:=q7;exact⟨x7,σ7,H7,I7.oW,r7,q7⟩
abbrev R2:=V->V->Hp->VK->Prop
def jQ(X:Cx)(f:ζ->ζ->Sem ζ)(r:R2):Prop:=
 ∀ (χ:γ (δ×μ))(s:η)(σ:St)(H:Hp)(x y:V)(v u:ζ)(Q:VK),Inv X χ σ H s->RelV x v->RelV y u->r x y H Q ->
  EQ (model X.prog X.w) X.A (f v u) (EP X χ σ Q) X.xe s
def UnR(X:Cx)(f:ζ->Sem ζ)(r:V->Hp->VK->Prop):Prop:=
 ∀ (χ:γ (δ×μ))(s:η)(σ:St)(H:Hp)(x:V)(v:ζ)(Q:VK),Inv X χ σ H s->RelV x v->r x H Q ->
  EQ (model X.prog X.w) X.A (f v) (EP X χ σ Q) X.xe s
def nM(X:Cx)(f:ζ)(r:γ V->Hp->VK->Prop):Prop:=
 ∀ (χ:γ (δ×μ))(s:η)(σ:St)(H:Hp)(xs:γ V)(us:γ ζ)(Q:VK),Inv X χ σ H s->Vals xs us->r xs H Q ->
  EQ (model X.prog X.w) X.A (call f us) (EP X χ σ Q) X.xe s
def O7(r:R2)(ta tb:TE):TE:=λ σ H Q=>ta σ H λ x H1=>tb σ H1 λ y H2=>r x y H2 Q
def tUn(r:V->Hp->VK->Prop)(ta:TE):TE:=λ σ H Q=>ta σ H λ x H1=>r x H1 Q
def rI(C:Int->Int->Prop)(g:Int->Int->V):R2:=λ x y H Q=>∃i j,x=.int i/\y=.int j/\C i j/\Q (g i j) H
def MB(g:Int->Int->V):R2:=λ x y H Q=>∃i j,x=.int i/\y=.int j/\Q (g i j) H
def rU(g:Int->V):V->Hp->VK->Prop:=λ x H Q=>∃i,x=.int i/\Q (g i) H
theorem Sv(ha:PE X a ta)(hb:PE X b tb){R:V->V->Hp->Prop}(I:Inv X χ σ H s)
 (h:ta σ H λ x H1=>tb σ H1 λ y H2=>R x y H2){f:ζ->ζ->Sem ζ}
 (hf:∀v u s2 x y H2,Inv X χ σ H2 s2->RelV x v->RelV y u->R x y H2->EQ (model X.prog X.w) X.A (f v u) Q X.xe s2) :
 EQ (model X.prog X.w) X.A (eval a X.env) (λ v s₁=>EQ (model X.prog X.w) X.A (eval b X.env) (λ u s₂=>EQ (model X.prog X.w) X.A (f v u) Q X.xe s₂) X.xe s₁) X.xe s:=by
 refine cA (ha χ s σ H _ I h) ?_;rintro v s1 ⟨x,H1,I1,r1,q1⟩;refine cA (hb χ s1 σ H1 _ I1 q1) ?_;rintro u s2 ⟨y,H2,I2,r2,q2⟩;exact hf v u s2 x y H2 I2 r1 r2 q2
theorem Ex(ho:jQ X (binaryOp op) r)(ha:PE X a ta)(hb:PE X b tb):PE X (.BinOp a op b pos) (O7 r ta tb):=by intro χ s σ H Q I h;exact wpAny_BinOp<|Sv ha hb I h λ v u s2 x y H2 I2 rx ry q=>ho χ s2 σ H2 x y v u Q I2 rx ry q
theorem UG(ho:UnR X (unaryOp op) r)(ha:PE X a ta):PE X (.UnaryOp op a pos) (tUn r ta):=by intro χ s σ H Q I h;exact UnaryOp_<|cA (ha χ s σ H _ I h) <|by rintro v s1 ⟨x,H1,I1,r1,q1⟩;exact ho χ s1 σ H1 x v Q I1 r1 q1
theorem UP{g:Int->Int->Int}
 (rule:∀i j t u s Q E,C i j->Q (.int (g i j) s.toks) {s with toks:=s.toks+1}->EQ (model X.prog X.w) X.A (f (.int i t)<|.int j u) Q E s) :
 jQ X f (rI C λ i j=>.int<|g i j):=by
 intro χ s σ H x y v u Q I rx ry h;let⟨i,j,rfl,rfl,hc,q⟩:=h;let⟨t,rfl⟩:=rx;let⟨t',rfl⟩:=ry;exact rule i j t t' s _ _ hc ⟨.int _,H,I.tok _,⟨_,rfl⟩,q⟩
theorem UO{g:Int->Int->Int}
 (rule:∀i j t u s Q E,Q (.int (g i j) s.toks) {s with toks:=s.toks+1}->EQ (model X.prog X.w) X.A (f (.int i t)<|.int j u) Q E s) :
 jQ X f (MB λ i j=>.int<|g i j):=by
 intro χ s σ H x y v u Q I rx ry h;let⟨i,j,rfl,rfl,q⟩:=h;let⟨t,rfl⟩:=rx;let⟨t',rfl⟩:=ry;exact rule i j t t' s _ _ ⟨.int _,H,I.tok _,⟨_,rfl⟩,q⟩
theorem MX{g:Int->Int->Bool}
 (rule:∀i j t u s Q E,Q (.bool<|g i j) s->EQ (model X.prog X.w) X.A (f (.int i t)<|.int j u) Q E s) :
 jQ X f (MB λ i j=>.bl<|g i j):=by
 intro χ s σ H x y v u Q I rx ry h;let⟨i,j,rfl,rfl,q⟩:=h;let⟨t,rfl⟩:=rx;let⟨t',rfl⟩:=ry;exact rule i j t t' s _ _ ⟨.bl _,H,I,rfl,q⟩
def abc(i j:Int):Prop:=0<=j/\j<=1000000/\i.natAbs<2^64
theorem Q0:jQ X (binaryOp .Add) (MB λ i j=>.int<|i+j):=UO λ _ _ _ _ _ _ _ q=>add_int q
theorem QU:jQ X (binaryOp .Sub) (MB λ i j=>.int<|i-j):=UO λ _ _ _ _ _ _ _ q=>sub_int q
theorem QY:jQ X (binaryOp .Mod) (rI (λ _ j=>0<j) λ i j=>.int<|i % j):=UP λ i j _ _ _ _ _ hc q=>by exact mod_int' ∅ (by rw[Int.fmod_eq_emod_of_nonneg i ∅];exact q)
theorem QX:jQ X (binaryOp .Pow) (rI abc λ i j=>.int<|i^j.toNat):=UP λ _ _ _ _ _ _ _ hc q=>pow_int_small hc.1 hc.2.1 hc.2.2 q
theorem unI{g:Int->Int}
 (rule:∀i t s Q E,Q (.int (g i) s.toks) {s with toks:=s.toks+1}->EQ (model X.prog X.w) X.A (f<|.int i t) Q E s) :
 UnR X f (rU λ i=>.int<|g i):=by
 intro χ s σ H x v Q I rx h;let⟨i,rfl,q⟩:=h;let⟨t,rfl⟩:=rx;exact rule i t s _ _ ⟨.int _,H,I.tok _,⟨_,rfl⟩,q⟩
theorem Qa:UnR X (unaryOp .USub) (rU λ i=>.int<|-i):=unI λ _ _ _ _ _ q=>neg_int q
theorem yR(I:Inv X χ σ H s)(q:Q (.bl k) H)(e:k=k'):EP X χ σ Q (.bool k') s:=by subst e;exact⟨.bl k,H,I,rfl,q⟩
theorem UK:jQ X (compareOp .Lt) (MB λ i j=>.bl<|decide<|i<j):=MX λ _ _ _ _ _ _ _ q=>lt_int q
theorem UL:jQ X (compareOp .LtE) (MB λ i j=>.bl<|decide<|i<=j):=MX λ _ _ _ _ _ _ _ q=>le_int q
theorem UM:jQ X (compareOp .Gt) (MB λ i j=>.bl<|decide<|j<i):=MX λ _ _ _ _ _ _ _ q=>gt_int q
theorem UN:jQ X (compareOp .GtE) (MB λ i j=>.bl<|decide<|j<=i):=MX λ _ _ _ _ _ _ _ q=>ge_int q
theorem Jf:jQ X (compareOp .Is) (λ x y H Q=>y=.non/\Q (.bl<|decide<|x=.non) H):=by
 intro χ s σ H x y v u Q I rx ry h;let⟨rfl,q⟩:=h;cases ry;refine is_none_gen<|yR I q ?_;cases x<;>first
  |(cases rx;rfl)
  |(let⟨t,rfl⟩:=rx;rfl)
theorem MP:jQ X (compareOp .IsNot) (λ x y H Q=>y=.non/\Q (.bl<|!decide (x=.non)) H):=by
 intro χ s σ H x y v u Q I rx ry h;let⟨rfl,q⟩:=h;cases ry;refine isnot_none_gen<|yR I q ?_;cases x<;>first
  |(cases rx;rfl)
  |(let⟨t,rfl⟩:=rx;rfl)
theorem yk:jQ X (compareOp .NotIn) (λ x y H Q=>∃i j,x=.str i/\y=.str j/\Q (.bl<|!(!(Sc j i 0 j.length 1).isEmpty)) H):=by intro χ s σ H x y v u Q I rx ry h;let⟨i,j,rfl,rfl,q⟩:=h;let⟨t,rfl⟩:=rx;let⟨t',rfl⟩:=ry;exact notIn_str<|yR I q rfl
theorem jQ.or(h:jQ X f r)(h':jQ X f r'):jQ X f (λ x y H Q=>r x y H Q\/r' x y H Q):=by
 intro χ s σ H x y v u Q I rx ry q;rcases q with q|q
 .exact h χ s σ H x y v u Q I rx ry q
 .exact h' χ s σ H x y v u Q I rx ry q
theorem uj(b:ι)(h:op≠.In:=by decide)(h2:op≠.NotIn:=by decide):behindInMarks op b=AT:=by
 have e1:(op==CmpOp.In)=AT:=by cases op<;>first|rfl|exact absurd rfl h
 have e2:(op==CmpOp.NotIn)=AT:=by cases op<;>first|rfl|exact absurd rfl h2
 cases b<;>simp[behindInMarks,e1,e2]
theorem Ez(ho:jQ X (compareOp op) r)(ha:PE X a ta)(hb:PE X b tb)(hm:behindInMarks op b=AT):PE X (.Compare a [op] [b] pos) (O7 r ta tb):=by intro χ s σ H Q I h;exact wpAny_Compare1 (Sv ha hb I h λ v u s2 x y H2 I2 rx ry q=>ho χ s2 σ H2 x y v u Q I2 rx ry q) hm
def Ii(t:TE):TT:=λ σ H Q=>t σ H λ x H'=>∃k,x=.bl k/\Q k H'
theorem yg(ho:jQ X (compareOp op) r)(ha:PE X a ta)(hb:PE X b tb)(hm:behindInMarks op b=AT):PT X (.Compare a [op] [b] pos) (Ii<|O7 r ta tb):=by
 intro χ s σ H Q I h;refine wpAny_isTrue_Compare1 (cA (ha χ s σ H _ I h) λ v s1 ⟨x,H1,I1,r1,q1⟩=>cA (hb χ s1 σ H1 _ I1 q1) λ u s2 ⟨y,H2,I2,r2,q2⟩=>cA (ho χ s2 σ H2 x y v u _ I2 r1 r2 q2) ?_) hm;rintro c s3 ⟨z,H3,I3,r3,k,e,q3⟩
 subst e;cases r3;exact A56 ⟨H3,I3,q3⟩
def Cg(r r':R2)(ta tb tc:TE):TE:=λ σ H Q=>ta σ H λ x H1=>tb σ H1 λ y H2=>r x y H2 λ z H3=>∃k,z=.bl k /\
 (if k=Ch then tc σ H3 λ w' H4=>r' y w' H4 Q else Q (.bl AT) H3)
theorem Ja(ho:jQ X (compareOp op) r)(pI:jQ X (compareOp Gg) r')(ha:PE X a ta)(hb:PE X b tb)(hc:PE X c tc)
 (hm:lastMarks [op,Gg] [b,c]=AT:=by with_unfolding_all rfl):PE X (.Compare a [op,Gg] [b,c] pos) (Cg r r' ta tb tc):=by
 intro χ s σ H Q I h;refine Compare_chain (cA (ha χ s σ H _ I h) λ v s1 ⟨x,H1,I1,r1,q1⟩=>chain_link<|cA (hb χ s1 σ H1 _ I1 q1) λ u s2 ⟨y,H2,I2,r2,q2⟩=>cA (ho χ s2 σ H2 x y v u _ I2 r1 r2 q2) ?_) hm;rintro d s3 ⟨z,H3,I3,r3,k,e,q3⟩
 subst e;cases r3;refine A56 ?_;cases k with
 |false=>exact ite_ff ⟨.bl AT,H3,I3,rfl,q3⟩
 |true=>exact ite_tt<|chain_last<|cA (hc χ s3 σ H3 _ I3 q3) <|by rintro w' s4 ⟨z',H4,I4,r4,q4⟩;exact pI χ s4 σ H4 y z' u w' Q I4 r2 r4 q4
theorem IS(ho:jQ X (compareOp op) r)(pI:jQ X (compareOp Gg) r')(ha:PE X a ta)(hb:PE X b tb)(hc:PE X c tc)
 (hm:lastMarks [op,Gg] [b,c]=AT:=by with_unfolding_all rfl):PT X (.Compare a [op,Gg] [b,c] pos) (Ii<|Cg r r' ta tb tc):=by
 intro χ s σ H Q I h;refine isTrue_chain (cA (ha χ s σ H _ I h) λ v s1 ⟨x,H1,I1,r1,q1⟩=>test_link<|cA (hb χ s1 σ H1 _ I1 q1) λ u s2 ⟨y,H2,I2,r2,q2⟩=>cA (ho χ s2 σ H2 x y v u _ I2 r1 r2 q2) ?_) hm;rintro d s3 ⟨z,H3,I3,r3,k,e,q3⟩
 subst e;cases r3;refine A56 ?_;cases k with
 |false=>let⟨k',e',q'⟩:=q3;cases e';exact ite_ff ⟨H3,I3,q'⟩
 |true=>refine ite_tt<|test_last<|cA (hc χ s3 σ H3 _ I3 q3) λ w' s4 ⟨z',H4,I4,r4,q4⟩=>cA (pI χ s4 σ H4 y z' u w' _ I4 r2 r4 q4) ?_;rintro d' s5 ⟨z2,H5,I5,r5,k2,e2,q5⟩;subst e2;cases r5;exact A56 ⟨H5,I5,q5⟩
theorem yC:(sizeLine)<2^63:=by rw[A23];decide
theorem Cz:jQ X (binaryOp .Add) (λ x y H Q=>∃i j,x=.str i/\y=.str j/\i.length+j.length<=sizeLine/\Q (.str<|i++j) H):=by intro χ s σ H x y v u Q I rx ry h;let⟨i,j,rfl,rfl,hz,q⟩:=h;let⟨t,rfl⟩:=rx;let⟨t',rfl⟩:=ry;exact add_str (λ t' tk=>⟨.str _,H,I.tok _,⟨_,rfl⟩,q⟩) hz
theorem vals1(r:Vals [x] us):∃u,us=[u]/\RelV x u:=by
 cases r with
 |cons r1 r2=>cases r2;exact⟨_,rfl,r1⟩
theorem vals2(r:Vals [x,y] us):∃u w',us=[u,w']/\RelV x u/\RelV y w':=by
 cases r with
 |cons r1 r2=>
  cases r2 with
  |cons r3 r4=>cases r4;exact⟨_,_,rfl,r1,r3⟩
theorem Hi(hc:X.calm=Ch):nM X (.builtin "max") (λ xs H Q=>∃i j,xs=[.int i,.int j]/\Q (.int<|if j>i then j else i) H):=by
 intro χ s σ H xs us Q I r h;let⟨i,j,rfl,q⟩:=h;let⟨u,w',rfl,⟨t,rfl⟩,⟨t',rfl⟩⟩:=vals2 r;refine max_two_ints (I.ok.hd hc) λ h' tk k=>⟨_,H,I.kept k,?_,q⟩
 by_cases hj:j>i
 .rw[M2 hj,M2 hj];exact⟨_,rfl⟩
 .rw[W1 hj,W1 hj];exact⟨_,rfl⟩
theorem Hh(hc:X.calm=Ch):nM X (.builtin "min") (λ xs H Q=>∃i j,xs=[.int i,.int j]/\Q (.int<|if j<i then j else i) H):=by
 intro χ s σ H xs us Q I r h;let⟨i,j,rfl,q⟩:=h;let⟨u,w',rfl,⟨t,rfl⟩,⟨t',rfl⟩⟩:=vals2 r;refine min_two_ints (I.ok.hd hc) λ h' tk k=>⟨_,H,I.kept k,?_,q⟩
 by_cases hj:j<i
 .rw[M2 hj,M2 hj];exact⟨_,rfl⟩
 .rw[W1 hj,W1 hj];exact⟨_,rfl⟩
theorem Hj:nM X (.type "int") (λ xs H Q=>(∃i,xs=[.int i]/\Q (.int i) H)\/∃k,xs=[.bl k]/\Q (.int<|if k then 1 else 0) H):=by
 intro χ s σ H xs us Q I r h;rcases h with⟨i,rfl,q⟩|⟨k,rfl,q⟩
 .let⟨u,rfl,t,rfl⟩:=vals1 r;exact call_int_int ⟨.int i,H,I,⟨_,rfl⟩,q⟩
 .let⟨u,rfl,r1⟩:=vals1 r;cases r1;exact call_int_bool ⟨.int _,H,I.tok _,⟨_,rfl⟩,q⟩
def aa4(K:Da)(x:V)(H:Hp)(n:Nat):Prop:=
 match x with
 |.str y=>y.length<=sizeLine/\n=y.length
 |.TJ y=>y.size<=sizeLine/\n=y.size
 |.ref p=>(∃xs,jw K H p xs/\n=xs.length)\/∃xs,mV K H p xs/\n=xs.length
 |_=>False
theorem K':nM X (.builtin "len") (λ xs H Q=>∃x n,xs=[x]/\aa4 X.K x H n/\Q (.int n) H):=by
 intro χ s σ H xs us Q I r h;let⟨x,n,rfl,e,q⟩:=h;let⟨u,rfl,rx⟩:=vals1 r;have hl:=yC;have hs:=A23;cases x with
 |str y=>let⟨t,rfl⟩:=rx;obtain⟨hy,e'⟩:y.length<=sizeLine/\n=y.length:=e;subst e';exact len_str ∅ ⟨.int _,H,I.tok _,⟨_,rfl⟩,q⟩
 |TJ y=>let⟨t,rfl⟩:=rx;obtain⟨hy,e'⟩:y.size<=sizeLine/\n=y.size:=e;subst e';exact PySem.W.len_bytes ∅ ⟨.int _,H,I.tok _,⟨_,rfl⟩,q⟩
 |ref p=>
  cases rx;have e':=e;rcases e' with⟨xs,hx,e'⟩|⟨xs,hx,e'⟩
  .subst e';let⟨bq,r',pl,hz⟩:=I.list hx;have ψ:=r'.length;exact Calls.call_len_list pl.isList (by simp only[A10];lia) ⟨.int _,H,I.tok _,⟨_,by simp only[A10];rw[ψ]⟩,q⟩
  .subst e';let⟨bq,r',pl,hz⟩:=I.tuple hx;have ψ:=r'.length;exact len_tuple pl (by simp only[A10];lia) ⟨.int _,H,I.tok _,⟨_,by simp only[A10];rw[ψ]⟩,q⟩
 |_=>exact(e).elim
structure DU(h:Heap)(x dx C:Addr)(mA:Str->Option Value):Prop where
 obj:h.get? x=AC (SL C dx)
 ns:h.Ns1 dx mA
 ne:dx≠x
theorem GC{h:ν}(n:h.Ns1 dx mA):∃od,h.get? dx=AC od/\∀name,WF name od=AC (mA name):=by
 let⟨o,es,ep,ho,hd,hk,_,hm⟩:=n;refine⟨o,ho,λ name=>?_⟩;have e:=hm name;unfold nsFind findBy at e;rw[<-Array.find?_toList]at e;unfold WF;rw[hd];dsimp only;split
 .rename_i y q;rw[q]at e;exact A15 AC e
 .rename_i q;rw[q]at e;have a:es.toList.any (·.refKey)=AT:=by rw[List.any_eq_false];intro y hy;let⟨z,t,_L⟩:=hk y (Array.mem_toList_iff.mp hy);simp[DictEntry.refKey,_L]
  have a':¬es.toList.any (·.refKey)=Ch:=by rw[a];exact A89
  rw[W1 a'];exact A15 AC e
theorem DU.look(I:DU h x dx C mA):∃od,PySem.W.InstAt h x (SL C dx) C (AC od)/\∀name,WF name od=AC (mA name):=
 let ⟨od,ho,hl⟩:=GC I.ns
 ⟨od,⟨I.obj,rfl,rfl,ho⟩,hl⟩
section
variable{K:Da}
theorem get_map(X:K.In s.heap)(I:DU s.heap x dx C mA)(hg:Tk K C name=Ch)(hh:Wp K C=Ch)
 (ha:FS K (.ref C) name=AC At) (hv:mA name=AC v) (yI:AA7 v=Ch) (h:Q v {s with toks:=s.toks+1}) :
 EQ (model prog w) A (getAttr (.ref x) name expr) Q E s:=by
 let⟨od,J,hl⟩:=I.look;exact PySem.W.get_value X J (B78 hg).1 (PySem.W.findObj_own hh ha rfl (by rw[hl,hv])) yI h
theorem Kl(X:K.In s.heap)(I:DU s.heap x dx C mA)(hg:Tk K C name=Ch)
 (hf:FS K (.ref C) name=AC (AC<|.ref f)) (ht:wf K (.ref f)=Ch) (hv:mA name=At) (h:Q (.ref f,[.ref x]) s) :
 EQ (model prog w) A (getMethod (.ref x) name pl) Q E s:=by
 let⟨od,J,hl⟩:=I.look;exact PySem.W.method_fn X J (B78 hg).1 (B78 hg).2 hf (A27.mp ht) (by show(WF name od).map _=AC AT;rw[hl,hv];rfl) h
theorem Mq(X:K.In s.heap)(I:DU s.heap x dx C mA)
 (hs:FS K (.ref C) "__setattr__"=AC (AC<|.builtin "object.__setattr__")) (hp:wn K C=Ch) (ht:bi K C name=AC At) (hh:Wp K C=Ch)
 (hw:ww mA ns) (E2:ns.length<=sizeLine)
 (h:∀h',DU h' x dx C (λ y=>if y=name then AC v else mA y)->IN dx s.heap h'->Q () {s with heap:=h',toks:=s.toks+2}) :
 EQ (model prog w) A (setAttr (.ref x) name v) Q E s:=by
 let⟨od,J,hl⟩:=I.look;refine B79 X J hs<|PySem.W.osa_open X J hp ht λ b=>?_;let⟨cd,hc,qI⟩:=PySem.W.any_some hh;have hx:=I.obj;refine T0<|P3<|T0<|T0<|B80 hx<|T0<|B81 (B82 X hc) ?_;rw[qI];refine P3<|T0<|P3<|T0 ?_;refine wpAny_nsSet1 I.ns λ h' HD yJ=>?_;let⟨oD,esD,epD,VR,V7,V'⟩:=HD.count (PySem.Within.cons name v hw);refine T0<|B84 VR (by rw[V7];exact B85<|A13 V' (by rw[A34];lia)) ?_;exact P3<|h _ ⟨(yJ.2 _<|A05 I.ne).trans I.obj,HD,I.ne⟩ yJ
theorem JI(X:K.In s.heap)(hm:bd K C=Ch)
 (hi:FS K (.ref C) "__init__"=AC (AC<|.ref f)) (hf:PySem.W.typeIn K (.ref f)=AC (.type "function"))
 (h:codeAny (model prog w) (A.under<|.builtin "type.__call__" ⟨.ref C::vs,kw⟩) (.call (.ref f) ⟨.ref (s.heap.objs.size+1)::vs,kw⟩) (PySem.W.InitBack (s.heap.objs.size+1) R)
  {s with heap:=(s.heap.push PP).push<|PySem.W.instObj C s.heap.objs.size}) :
 codeAny (model prog w) A (.call (.ref C) ⟨vs,kw⟩) R s:=by
 let⟨hh,g,d,t,os⟩:=s;exact PySem.W.make_core (PySem.W.makes_of X hm) (PySem.W.looks_findIn X hi) (λ self=>PySem.W.bind_fn X self hf) (.inl rfl) h
end
def jy(f:Str)(v:V):γ (Str×V)->γ (Str×V)
|[]=>[(f,v)]
|(g,x)::r=>if g=f then(g,v)::r else(g,x)::jy f v r
theorem l3(f g:Str)(v:V):∀ fs,(jy f v fs).lookup g=if g=f then AC v else fs.lookup g
|[]=>by
 show Fk g [(f,v)]=_;by_cases h:g=f
 .have hb:=A27.mpr h;simp only[Fk,hb,M2 h]
 .have hb:=A71.mpr h;simp only[Fk,hb,W1 h]
|(k,x)::r=>by
 have ih:=l3 f g v r;rw[show jy f v _=(if k=f then(k,v)::r else(k,x)::jy f v r)from rfl];by_cases hk:k=f
 .rw[M2 hk];by_cases h:g=k
  .have hb:=A27.mpr h;simp only[Fk,hb,M2<|h.trans hk]
  .have hb:=A71.mpr h;simp only[Fk,hb,W1 λ e:g=f=>h<|e.trans hk.symm]
 .rw[W1 hk];by_cases h:g=k
  .have hb:=A27.mpr h;simp only[Fk,hb,W1 λ e=>hk<|h.symm.trans e]
  .have hb:=A71.mpr h;simp only[Fk,hb];exact ih
theorem j!(f:Str)(v:V):∀ fs,f∈(jy f v fs).map (·.1)/\∀ g,g∈fs.map (·.1)->g∈(jy f v fs).map (·.1)
|[]=>⟨by simp[jy],λ g h=>by simp at h⟩
|(k,x)::r=>by
 let⟨i1,i2⟩:=j! f v r;rw[show jy f v _=(if k=f then(k,v)::r else(k,x)::jy f v r)from rfl];by_cases hk:k=f
 .rw[M2 hk];subst hk;exact⟨by simp,λ g h=>by simpa using h⟩
 .rw[W1 hk];refine⟨?_,λ g h=>?_⟩
  .rw[f8];exact A09 _ i1
  .rw[f8]at h ⊢;rcases A00.mp h with e|e
   .exact A00.mpr<|.inl e
   .exact A09 _<|i2 g e
theorem rD(f:Str)(v:V):∀fs,(jy f v fs).length<=fs.length+1
|[]=>by simp[jy]
|(k,x)::r=>by
 have ih:=rD f v r;rw[show jy f v _=(if k=f then(k,v)::r else(k,x)::jy f v r)from rfl];by_cases hk:k=f
 .rw[M2 hk,A34,A34];lia
 .rw[W1 hk,A34,A34];lia
theorem lJ.some_of(r:lJ (AC v) o):∃u,o=AC u/\RelV v u:=by
 cases o with
 |none=>exact(r).elim
 |some u=>exact⟨u,rfl,r⟩
theorem lJ.none_of(r:lJ At o):o=At:=by
 cases o with
 |none=>rfl
 |some u=>exact(r).elim
theorem GX(r:RelV v u):AA7 u=Ch:=by
 cases v with
 |non=>cases (r);rfl
 |bl b=>cases (r);rfl
 |int i=>obtain⟨t,e⟩:=(r);cases e;rfl
 |str x=>obtain⟨t,e⟩:=(r);cases e;rfl
 |TJ b=>obtain⟨t,e⟩:=(r);cases e;rfl
 |Tr b=>obtain⟨t,e⟩:=(r);cases e;rfl
 |ref a=>cases (r);rfl
 |ty n=>cases (r);rfl
theorem yG(b9:lM P w H h)(e:H a=AC (.ins C dx fs)):∃mA,DU h a dx C mA/\(∀f,lJ (fs.lookup f) (mA f))/\ww mA (fs.map (·.1))/\fs.length<=1000/\H dx=AC (.own a):=by
 obtain⟨d,z,ne,ob,mA,n,r,q⟩:=(b9 a _ e)
 exact⟨mA,⟨ob,n,ne⟩,r,q,z,d⟩
structure HJ(K:Da)(C:Addr):Prop where
 pg:Tk K C Str.empty=Ch
 hd:Wp K C=Ch
 po:wn K C=Ch
 sa:FS K (.ref C) "__setattr__"=AC (AC<|.builtin "object.__setattr__")
theorem HJ.get{K:Da}(c:HJ K C)(f:Str):Tk K C f=Ch:=c.pg
def q!(K:Da)(C:δ)(f:Str):Prop:=FS K (.ref C) f=AC At
theorem q!.T6{K:Da}(n:q! K C f):bi K C f=AC At:=by unfold bi;rw[n];rfl
structure Con(K:Da)(C:Addr)(f:Str)(v:V)(u:Value):Prop where
 at_:FS K (.ref C) f=AC (AC u)
 rel:RelV v u
 get:wv K u "__get__"=AC At
 cp:PySem.W.copiedNames.contains f=AT
structure Meth(K:Da)(C:Addr)(m:Str)(f:Addr):Prop where
 at_:FS K (.ref C) m=AC (AC<|.ref f)
 fn:wf K (.ref f)=Ch
 kp:FM K (.ref f)=Ch
theorem Dd(I:Inv X χ σ H s)(e:H a=AC (.ins C dx fs))(c:HJ X.K C)(n:q! X.K C f)(l:fs.lookup f=AC v)
 (h:∀u s',Inv X χ σ H s'->RelV v u->Q u s'):EQ (model X.prog X.w) A (getAttr (.ref a) f b) Q E s:=by
 let⟨mA,O,r,_,_,_⟩:=yG I.b9 e;let⟨u,hu,ru⟩:=lJ.some_of (v:=v) (o:=mA f) (by rw[<-l];exact r f);exact get_map I.lH O (c.get f) c.hd n hu (GX ru)<|h u _ (I.tok _) ru
theorem n_(I:Inv X χ σ H s)(e:H a=AC (.ins C dx fs))(c:HJ X.K C)(k:Meth X.K C m g)(l:fs.lookup m=At)
 (h:Q (.ref g,[.ref a]) s):EQ (model X.prog X.w) A (getMethod (.ref a) m pl) Q E s:=by
 let⟨mA,O,r,_,_,_⟩:=yG I.b9 e;have hn:=lJ.none_of (by rw[<-l];exact r m);exact Kl I.lH O (c.get m) k.at_ k.fn hn h
theorem Cm(I:Inv X χ σ H s)(e:H a=AC (.ins C dx fs))(c:HJ X.K C)(n:q! X.K C f)(hl:fs.length<1000)(ry:RelV y u)
 (h:∀s',Inv X χ σ (upd H a<|.ins C dx<|jy f y fs) s'->Q () s'):EQ (model X.prog X.w) A (setAttr (.ref a) f u) Q E s:=by
 let⟨mA,O,r,wi,_,ho⟩:=yG I.b9 e;have hz:(fs.map (·.1)).length<=sizeLine:=by rw[A06,A23];lia
 refine Mq I.lH O c.sa c.po n.T6 c.hd wi hz λ h' O' sb=>h _ ?_;have hd:∃o,h'.get? dx=AC o:=let ⟨o,_,_,e',_⟩:=O'.ns;⟨o,e'⟩;refine I.write (by rw[e];exact IR) (.inr ho) (λ b q hb z=>(sb.2 b hb).trans z) hd ?_;refine⟨by rw[aG O.ne];exact ho,?_,O.ne,O'.obj,_,O'.ns,λ g=>?_,λ g hg=>?_⟩
 .have:=rD f y fs;lia
 .skip
  rw[l3];by_cases q:g=f
  .rw[M2 q,M2 q];exact ry
  .rw[W1 q,W1 q];exact r g
 .by_cases q:g=f
  .rw[q];exact(j! f y fs).1
  .refine(j! f y fs).2 g<|wi g λ z=>hg ?_;show(if g=f then AC u else mA g)=At;rw[W1 q];exact z
theorem Inv.made(I:Inv X χ σ H s):Inv X χ σ (upd (upd H s.heap.objs.size<|.own<|s.heap.objs.size+1) (s.heap.objs.size+1)<|.ins C s.heap.objs.size [])
 {s with heap:=(s.heap.push PP).push<|PySem.W.instObj C s.heap.objs.size}:=by
 have e1:(s.heap.push _).get? _=AC PP:=A14 _ rfl;have e2:((s.heap.push PP).push<|PySem.W.instObj C s.heap.objs.size).get? (s.heap.objs.size+1)=AC (SL C s.heap.objs.size):=by have:=A14 (s.heap.push PP) (o:=SL C s.heap.objs.size) rfl;rwa [A50]at this
 have e3:(s.heap.push _).Ns _ (λ _=>At):=⟨_,#[],_,e1,rfl,(λ e he=>absurd he ∅),λ _=>rfl⟩
 have I1:=I.laid (o:=.own (s.heap.objs.size+1)) (t':=s.toks) (λ b u q=>v6 _ q) (v4 _) ⟨_,e1⟩;refine I1.laid (λ b u q=>v6 _ q) (B86<|A50 _ _) ?_;have ne:s.heap.objs.size≠s.heap.objs.size+1:=A12<|A61 _;refine⟨by rw[aG ne,aO],A51 _,ne,e2,λ _=>At,(Heap.Ns1.of_empty e3).at λ o q=>v6 _ q,λ _=>IR,λ y hy=>absurd rfl hy⟩
theorem OL(hb:attributeBase e f env (eval e env)=eval e env)
 (h:EQ (model prog w) A (eval e env) (λ o s₁=>EQ (model prog w) A (getAttr o f Ch) Q E s₁) E s):EQ (model prog w) A (eval (.Attribute e f pos) env) Q E s:=
 Attribute_any_ h (by rw[arm_eval_Attribute,hb])
def Y'(K:Da)(ta:TE)(f:Str):TE:=λ σ H Q=>ta σ H λ x H1=>∃a C dx fs v,x=.ref a/\H1 a=AC (.ins C dx fs)/\HJ K C/\q! K C f/\fs.lookup f=AC v/\Q v H1
def Zn(K:Da)(ta tv:TE)(f:Str):TS:=λ D σ H=>tv σ H λ y H1=>ta σ H1 λ x H2=>∃a C dx fs,x=.ref a/\H2 a=AC (.ins C dx fs)/\HJ K C/\q! K C f/\fs.length<1000 /\
 D.nx σ (upd H2 a<|.ins C dx<|jy f y fs)
theorem QF(he:PE X e ta)(hb:attributeBase e f X.env (eval e X.env)=eval e X.env):PE X (.Attribute e f pos) (Y' X.K ta f):=by intro χ s σ H Q I h;refine OL hb<|cA (he χ s σ H _ I h) ?_;rintro u s1 ⟨x,H1,I1,rx,a,C,dx,fs,v,ex,ea,c,n,l,q⟩;subst ex;obtain rfl:u=Value.ref a:=rx;exact Dd I1 ea c n l λ u' s2 I2 ru=>⟨v,H1,I2,ru,q⟩
theorem Qu(ha:PE X o ta)(hv:PE X value tv)(hs:swapsWith value (AC<|.Attribute o f pos') pos.line X.env=pure AT):PS X (.Assign [.Attribute o f pos'] value pos) (Zn X.K ta tv f):=by intro χ s σ H D I h;refine B87 (cA (hv χ s σ H _ I h) λ u s1 ⟨y,H1,I1,ry,q⟩=>cA (ha χ s1 σ H1 _ I1 q) ?_) hs;rintro ov s2 ⟨x,H2,I2,rx,a,C,dx,fs,ex,ea,c,n,l,q2⟩;subst ex;obtain rfl:ov=Value.ref a:=rx;exact Cm I2 ea c n l ry λ s3 I3=>⟨σ,_,I3,q2⟩
inductive va(K:Da)(H:Hp):V->Value->Prop where
| non:va K H .non (.type "NoneType")
| bl (x:Bool):va K H (.bl x) (.type "bool")
| int (i:Int):va K H (.int i) (.type "int")
| str (x:Str):va K H (.str x) (.type "str")
| Tr (x:UInt64):va K H (.Tr x) (.type "float")
| lst {a:Addr}{xs:List V}(e:H a=AC (.lst xs)):va K H (.ref a) (.type "list")
| fF {a:Addr}{o:Obj}{xs:List V}(e:H a=AC (.fF o<|.lst xs)):va K H (.ref a) (.type "list")
| tup {a:Addr}{xs:List V}(e:H a=AC (.tup xs)):va K H (.ref a) (.type "tuple")
| dK {a:Addr}{a9:List (Key×V)}(e:H a=AC (.dK a9)):va K H (.ref a) (.type "dict")
| dT {a:Addr}{a9:List (List Key×V)}(e:H a=AC (.dT a9)):va K H (.ref a) (.type "dict")
| ins {a C dx:Addr}{fs:List (Str×V)}(e:H a=AC (.ins C dx fs)) (cl:HJ K C) (ha:FS K (.ref C) "__class__"=AC (AC<|.builtin "object.__class__"))
 (hn:wv K (.builtin "object.__class__") "__get__"=AC (AC<|.builtin "getset_descriptor.__get__")) (htk:PySem.W.takesIn K (.builtin "object.__class__")=AC Ch)
 (hm:lm K C (.type "object")=AC Ch):va K H (.ref a) (.ref C)
structure bG(k:Nat)(A:Around):Prop where
 hd:A.handled=At
 dp:A.depth+3*k+5<recursionLimit
 un:A.units+16*k+200<cLine
theorem bG.mono(r:bG k A)(h:j<=k):bG j A:=⟨r.hd,by have:=r.dp;lia,by have:=r.un;lia⟩
theorem bG.deeper(r:bG (k+1) A)(env:Env):bG k (A.deeper env):=
 ⟨r.hd,by have:=r.dp;show A.depth+1+3*k+5<_;lia,by have:=r.un;show A.units+3+16*k+200<_;lia⟩
theorem bG.in1(r:bG (k+1) A):bG k A.in1:=
 ⟨r.hd,by have:=r.dp;lia,by have:=r.un;lia⟩
theorem CQ{A:ς}{C:δ}{us:γ ζ}{kw:γ (Str×ζ)}:(A.under<|.builtin "type.__call__" ⟨.ref C::us,kw⟩).depth=A.depth+1:=by first| rfl| simp[Around.under,Code.weight,Code.isCreation,Code.isGuard,Code.isCaller,Code.frames,Code.isFrame,guardIds]
theorem CP{A:ς}:(A.under<|.builtin "type.__call__" ⟨.ref C::us,kw⟩).units=A.units+1:=by first| rfl| simp[Around.under,Code.cUnits,Code.frames,Code.isFrame]
theorem bG.make(r:bG (k+1) A)(C:δ)(us:γ ζ)(kw:γ _):bG k (A.under<|.builtin "type.__call__" ⟨.ref C::us,kw⟩):=
 ⟨r.hd,by have:=r.dp;rw[CQ];lia,by have:=r.un;rw[CP];lia⟩
theorem bG.depth(r:bG k A):A.depth<recursionLimit:=by have:=r.dp;lia
theorem bG.units(r:bG k A):A.units+64<cLine:=by have:=r.un;lia
def Md:TA:=λ _ H Q=>Q [] H
def Ij(ta:TE)(tr:TA):TA:=λ σ H Q=>ta σ H λ x H1=>tr σ H1 λ xs H2=>Q (x::xs) H2
theorem cP:PA X [] Md:=λ _ _ _ _ H Q I h=>B88 ⟨[],H,I,.nil,h⟩
theorem bH(ha:PE X e te)(hr:PA X es t)(hs:Se e es X.env:=by rfl):PA X (e::es) (Ij te t):=by intro pos χ s σ H Q I h;rw[hs];refine B89<|cA (ha χ s σ H _ I h) ?_;rintro u s1 ⟨x,H1,I1,r1,q1⟩;exact cA (hr pos χ s1 σ H1 _ I1 q1) <|by rintro us s2 ⟨xs,H2,I2,r2,q2⟩;exact⟨x::xs,H2,I2,.cons r1 r2,q2⟩
def Y1(t:TA):TE:=λ σ H Q=>t σ H λ xs H1=>xs.length<=sizeLine/\∀p,H1 p=At->Q (.ref p) (upd H1 p<|.tup xs)
def Y7(t:TA):TE:=λ σ H Q=>t σ H λ xs H1=>xs.length<=sizeLine/\∀p,H1 p=At->Q (.ref p) (upd H1 p<|.lst xs)
theorem I0(h:PA X es t):PE X (.Tuple es x1 pos) (Y1 t):=by intro χ s σ H Q I hq;refine wpAny_Tuple_spliced<|cA (h pos χ s σ H _ I hq) λ us s1 ⟨xs,H1,I1,r,z,q⟩=>⟨by rw[<-r.length];exact z,?_⟩;have hf:=I1.b9.fresh<|v4 _;refine⟨.ref _,_,I1.laid (λ b u e=>v6 _ e) (v4 _) ?_,rfl,q _ hf⟩;exact⟨z,us,r,p9.new _ _⟩
theorem QC(h:PA X es t):PE X (.List es pos) (Y7 t):=by intro χ s σ H Q I hq;refine wpAny_List_spliced<|cA (h pos χ s σ H _ I hq) λ us s1 ⟨xs,H1,I1,r,z,q⟩=>⟨by rw[<-r.length];exact z,?_⟩;have hf:=I1.b9.fresh<|v4 _;refine⟨.ref _,_,I1.laid (λ b u e=>v6 _ e) (v4 _) ?_,rfl,q _ hf⟩;exact⟨z,us,0,r,A14 _ rfl⟩
abbrev Sp:=γ V->Hp->VK->XK->Prop
abbrev SV:=γ Env->Hp->η->XK->ζ->η->Prop
structure BK(P:Program)(w:World)(K:Da)(mg:Str->Option Value)(base:Heap)(A:Around)(outer:List Env)(s:Shared)(H:Hp):Prop where
 frames:A.frames=AC outer
 mod:Mod K mg base
 bs:∀b o,base.get? b=AC o->s.heap.get? b=AC o/\H b=At
 Lf:base.objs.size<=s.heap.objs.size
 m?:s.heap.FunFrames base outer
 N9:∀b∈uG outer,H b=At
 b9:lM P w H s.heap
 bare:AllBare s.gens
 tab:xD K mg base H
def CE(outer:γ Env)(P:ο)(w:ξ)(H:Hp)(s:η)(Q:VK)(u:ζ)(s':η):Prop:=
 ∃v H',s'.os=s.os/\AllBare s'.gens/\Un (uG outer) [] H H' s.heap s'.heap/\lM P w H' s'.heap/\RelV v u/\Q v H'
def CR(CX:SV)(outer:γ Env)(P:ο)(w:ξ)(H:Hp)(s:η)(Q:VK)(E:XK)(r:Result)(s':η):Prop:=
 match r with
 |.ok<|.ret u=>CE outer P w H s Q u s'
 |.ok _=>False
 |.error e=>CX outer H s E e s'
structure ee(P:Program)(w:World)(K:Da)(mg:Str->Option Value)(base:Heap)(CX:SV)(k:Nat)(f:Addr)(fd:FuncData)(ps:List Str)(sp:Sp):Prop where
 len:∀vs H Q E,sp vs H Q E->vs.length=ps.length
 run:∀(A:Around)(outer:List Env)(s:Shared)(H:Hp)(args:Args)(us:List Value)(vs:List V)(Q:VK)(E:XK),bG k A->BK P w K mg base A outer s H->BindsTo s fd args (ps.zip us)->Vals vs us->sp vs H Q E ->
  codeAny (model P w) A (.call (.ref f) args) (CR CX outer P w H s Q E) s
theorem BK.make{K:Da}(e:BK P w K mg base A outer s H)(C:δ)(us:γ ζ)(kw:γ _):
 BK P w K mg base (A.under<|.builtin "type.__call__" ⟨.ref C::us,kw⟩) outer s H:=⟨by first| exact e.frames| (simpa[Around.under,Code.envs,Code.isFrame,pushEnvs]using e.frames),e.mod,e.bs,e.Lf,e.m?,e.N9,e.b9,e.bare,e.tab⟩
theorem Inv.KI(I:Inv X χ σ H s):BK X.prog X.w X.K X.mg X.base X.A X.stack s H:=
 ⟨I.ok.frames,I.ok.mod,I.bs,A13 I.ok.Lf I.sz,I.stack,I.sH,I.b9,I.bare,I.tab⟩
theorem Inv.after(I:Inv X χ σ H s)(h:CE X.stack X.prog X.w H s Q u s'):EP X χ σ Q u s':=by let⟨v,H',os,bare,un,b9,r,q⟩:=h;let⟨hh,g,d,t,ZN⟩:=s';obtain rfl:ZN=s.os:=os;exact⟨v,H',I.call un b9 bare λ b z=>absurd z ∅,r,q⟩
def Ua(sp:Sp)(zq:γ V)(E:XK)(t:TA):TE:=λ σ H Q=>t σ H λ vs H1=>sp (vs++zq) H1 Q E
def O8(C:δ)(m:Str)(sp:Sp)(zq:γ V)(E:XK)(ta:TE)(t:TA):TE:=λ σ H Q=>ta σ H λ x H1=>∃a dx fs,x=.ref a/\H1 a=AC (.ins C dx fs)/\fs.lookup m=At /\
 t σ H1 λ vs H2=>sp (x::(vs++zq)) H2 Q E
def T?(C:δ)(sp:Sp)(zq:γ V)(E:XK)(t:TA):TE:=λ σ H Q=>t σ H λ vs H1=>∀x dx,H1 x=At->H1 dx=At->dx≠x ->
 sp (.ref x::(vs++zq)) (upd (upd H1 dx<|.own x) x<|.ins C dx []) (λ v H2=>v=.non/\Q (.ref x) H2) E
def Binds(K:Da)(fd:υ)(ps:γ Str)(ds:γ ζ):Prop:=
 ∀(s:η)(us:γ ζ),K.In s.heap->(us++ds).length=ps.length->BindsTo s fd ⟨us,[]⟩ (ps.zip<|us++ds)
theorem Binds.all{K:Da}(h:∀us,us.length=ps.length->bindArgs fd ⟨us,[]⟩=pure (ps.zip us)):Binds K fd ps []:=λ s us _ hl=>by rw[A52]at hl ⊢;exact .of_eq<|h us hl
def Passes(CX:SV)(X:Cx)(E:XK):Prop:=∀(χ:γ (δ×μ))(σ:St)(H:Hp)(s:η)(e:ζ)(s':η),Inv X χ σ H s->CX X.stack H s E e s'->X.xe e s'
theorem Cq(F:ee X.prog X.w X.K X.mg X.base CX k f fd ps sp)(hr:bG k X.A)(hb:Binds X.K fd ps ds)(hd:Vals zq ds)(hx:Passes CX X E)
 (I:Inv X χ σ H s) (r:Vals vs us) (h:sp (vs++zq) H Q E):EQ (model X.prog X.w) X.A (call (.ref f) us) (EP X χ σ Q) X.xe s:=by
 have r2:=r.append hd;have hl:(us++ds).length=ps.length:=by rw[<-r2.length];exact F.len _ _ _ _ h
 refine A90<|A78 (F.run X.A _ s H ⟨us,[]⟩ _ _ Q E hr I.KI (hb s us I.lH hl) r2 h) λ r s' hq=>?_;cases r with
 |error e=>exact hx χ σ H s e s' I hq
 |ok fl=>
  cases fl with
  |ret u=>exact I.after hq
  |next=>exact GM hq
  |brk=>exact GM hq
  |cont=>exact GM hq
theorem yi(F:ee X.prog X.w X.K X.mg X.base CX k f fd ps sp)(hr:bG k X.A)(hg:Gl X x)(hm:X.mg x=AC (.ref f))(hk:FM X.K (.ref f)=Ch)(hb:Binds X.K fd ps ds)(hd:Vals zq ds)(hx:Passes CX X E)
 (ha:PA X (e::es) t) (gQ:(x==("__debug__"))=AT:=by decide) (he:Se e es X.env:=by rfl) (fQ:Pn pos es X.env:=by rfl) :
 PE X (.Call (.Name x p) (e::es) [] pos) (Ua sp zq E t):=by
 intro χ s σ H Q I h;refine A79<|mK I hg hm ?_ gQ;refine B02 I.ok.mod.LK hk (cA (ha pos χ s σ H _ I h) λ us s1 ⟨vs,H1,I1,r,q⟩=>⟨I1.lH,?_⟩) he fQ;exact Cq F hr hb hd hx I1 r q
theorem Ey(he:PE X o ta)(c:HJ X.K C)(hm:Meth X.K C m f)(F:ee X.prog X.w X.K X.mg X.base CX k f fd ps sp)(hr:bG k X.A)(hb:Binds X.K fd ps ds)(hd:Vals zq ds)(hx:Passes CX X E)(ha:PA X (e::es) t)
 (pG:Se e es X.env:=by rfl) (fQ:Pn pos es X.env:=by rfl)
 (ht:eval (.Call (.Attribute o m apos) (e::es) [] pos) X.env=(do
  let ov ←eval o X.env
  standAt apos.atName
  let (f,first) ←holding [ov] (getMethod ov m pl)
  callWith pos f first (backTo pos<|starEach (e::es) X.env) (backToKw pos<|keywordEach [] X.env)):=by rfl) :
 PE X (.Call (.Attribute o m apos) (e::es) [] pos) (O8 C m sp zq E ta t):=by
 intro χ s σ H Q I h;refine B90 (cA (he χ s σ H _ I h) ?_) ht;rintro u s1 ⟨x,H1,I1,rx,a,dx,fs,ex,ea,l,q⟩;subst ex;obtain rfl:u=Value.ref a:=rx;refine n_ I1 ea c hm l ?_;refine B02 I.ok.mod.LK hm.kp (cA (ha pos χ s1 σ H1 _ I1 q) λ us s2 ⟨vs,H2,I2,r,q2⟩=>⟨I2.lH,?_⟩) pG fQ;exact Cq (vs:=.ref a::vs) F hr hb hd hx I2 (.cons rfl r) q2
theorem I!(he:PE X o ta)(c:HJ X.K C)(hm:Meth X.K C m f)(F:ee X.prog X.w X.K X.mg X.base CX k f fd ps sp)(hr:bG k X.A)(hb:Binds X.K fd ps ds)(hd:Vals zq ds)(hx:Passes CX X E)
 (ht:eval (.Call (.Attribute o m apos) [] [] pos) X.env=(do
  let ov ←eval o X.env
  standAt apos.atName
  let (f,first) ←holding [ov] (getMethod ov m pl)
  callWith pos f first (backTo pos<|starEach [] X.env) (backToKw pos<|keywordEach [] X.env)):=by rfl) :
 PE X (.Call (.Attribute o m apos) [] [] pos) (O8 C m sp zq E ta Md):=by
 intro χ s σ H Q I h;refine B90 (cA (he χ s σ H _ I h) ?_) ht;rintro u s1 ⟨x,H1,I1,rx,a,dx,fs,ex,ea,l,q⟩;subst ex;obtain rfl:u=Value.ref a:=rx;refine n_ I1 ea c hm l ?_;exact PySem.W.callWith_K0 I1.lH hm.kp<|Cq (vs:=[.ref a]) F hr hb hd hx I1 (.cons rfl .nil) q
structure Mk(K:Da)(C f:Addr):Prop where
 makes:bd K C=Ch
 init:FS K (.ref C) "__init__"=AC (AC<|.ref f)
 fn:wf K (.ref f)=Ch
 kp:FM K (.ref C)=Ch
theorem ID(M:Mk X.K C f)(F:ee X.prog X.w X.K X.mg X.base CX k f fd ps sp)(hr:bG (k+1) X.A)(hb:Binds X.K fd ps ds)(hd:Vals zq ds)
 (hx:Passes CX X E) (I:Inv X χ σ H s) (r:Vals vs us)
 (h:∀x dx,H x=At->H dx=At->dx≠x->sp (.ref x::(vs++zq)) (upd (upd H dx<|.own x) x<|.ins C dx []) (λ v H2=>v=.non/\Q (.ref x) H2) E) :
 EQ (model X.prog X.w) X.A (call (.ref C) us) (EP X χ σ Q) X.xe s:=by
 have hq:=h _ _ (I.b9.fresh<|A57 _) (I.b9.fresh<|v4 _)<|A12<|A61 _;have I2:=Inv.made (C:=C) I;have r2:Vals (V.ref (s.heap.objs.size+1)::(vs++zq)) _:=.cons rfl<|r.append hd;have hl:(Value.ref (s.heap.objs.size+1)::us++ds).length=ps.length:=by have e:=r2.length;rw[F.len _ _ _ _ hq]at e;exact e.symm
 refine A90 (JI I.lH M.makes M.init (A27.mp M.fn) (A78 (F.run _ X.stack _ _ ⟨Value.ref (s.heap.objs.size+1)::us,[]⟩ (Value.ref (s.heap.objs.size+1)::(us++ds)) _ _ E (hr.make C us [])
  (I2.KI.make C us []) (hb _ (Value.ref (s.heap.objs.size+1)::us) I2.lH hl) r2 hq) λ r s' gv=>?_))
 cases r with
 |error e=>exact hx χ σ _ _ e s' I2 gv
 |ok fl=>
  cases fl with
  |ret u=>let⟨v,H',I3,rv,ev,q3⟩:=I2.after gv;subst ev;exact⟨rv,⟨V.ref<|s.heap.objs.size+1,H',I3,rfl,q3⟩⟩
  |next=>exact GM gv
  |brk=>exact GM gv
  |cont=>exact GM gv
theorem MK(M:Mk X.K C f)(F:ee X.prog X.w X.K X.mg X.base CX k f fd ps sp)(hr:bG (k+1) X.A)(hg:Gl X x)(hm:X.mg x=AC (.ref C))(hb:Binds X.K fd ps ds)(hd:Vals zq ds)(hx:Passes CX X E)
 (ha:PA X (e::es) t) (gQ:(x==("__debug__"))=AT:=by decide) (he:Se e es X.env:=by rfl) (fQ:Pn pos es X.env:=by rfl) :
 PE X (.Call (.Name x p) (e::es) [] pos) (T? C sp zq E t):=by
 intro χ s σ H Q I h;refine A79<|mK I hg hm ?_ gQ;refine B02 I.ok.mod.LK M.kp (cA (ha pos χ s σ H _ I h) λ us s1 ⟨vs,H1,I1,r,q⟩=>⟨I1.lH,?_⟩) he fQ;exact ID M F hr hb hd hx I1 r q
structure aa5(K:Da)(fd:FuncData)(ps ks:List Str)(g:List Value->List Value->List Value)(gV:List V->List V->List V):Prop where
 to:∀(s:Shared)(us ws:List Value),K.In s.heap->(g us ws).length=ps.length->BindsTo s fd ⟨us,ks.zip ws⟩ (ps.zip<|g us ws)
 rel:∀{vs:List V}{us:List Value}{zs:List V}{ws:List Value},Vals vs us->Vals zs ws->Vals (gV vs zs) (g us ws)
structure aY(N P:List Str)(sc:Scope):Prop where
 kind:sc.kind=.function
 co:sc.isCoroutine=AT
 gen:sc.isGenerator=AT
 nd:N.Nodup
 pre:N.take P.length=P
 par:∀x∈P,sc.names.lookup x=AC .local\/sc.names.lookup x=AC .cell
 Q9:∀y∈sc.names,y.2≠.free
theorem xw{kindOf:Str->ε NameKind}:∀{binds}{m},(∀v,(x,v)∉binds)->bindL kindOf binds m x=m x
|[],_,_=>rfl
|(n,v)::r,m,h=>by
 unfold bindL;rw[xw λ w hw=>h w<|A09 _ hw];split
 .have:x≠n:=by rintro rfl;exact h v A11
  simp[this]
 .rfl
theorem xy{kindOf:Str->ε NameKind}:∀{binds}{m},(∀v,(x,v)∉binds)->bindC kindOf binds m x=m x
|[],_,_=>rfl
|(n,v)::r,m,h=>by
 unfold bindC;rw[xy λ w hw=>h w<|A09 _ hw];split
 .rfl
 .have:x≠n:=by rintro rfl;exact h v A11
  simp[this]
theorem xx{kindOf:Str->ε NameKind}{x:Str}{v:ζ}:∀{P:γ Str}{vs}{i:Nat}{m},P.Nodup->P[i]?=AC x->vs[i]?=AC v->kindOf x=AC .local ->
 bindL kindOf (P.zip vs) m x=AC v
|[],_,_,_,_,h,_,_=>by simp at h
|_::_,[],_,_,_,_,h,_=>by simp at h
|p::P,w::vs,0,m,nd,h1,h2,hk=>by simp at h1 h2;subst h1;subst h2;show bindL kindOf ((p,w)::P.zip vs) m p=_;unfold bindL;rw[xw λ v hv=>(A17.mp nd).1 (B91 hv).1,M2 hk];simp
|p::P,w::vs,i+1,m,nd,h1,h2,hk=>by show bindL kindOf ((p,w)::P.zip vs) m x=_;unfold bindL;exact xx (i:=i) (A17.mp nd).2 (by simpa using h1) (by simpa using h2) hk
theorem xA{kindOf:Str->ε NameKind}{x:Str}{v:ζ}:∀{P:γ Str}{vs:γ ζ}{i:Nat}{m:Str->ε ζ},P.Nodup->P[i]?=AC x->vs[i]?=AC v->kindOf x≠AC .local ->
 bindC kindOf (P.zip vs) m x=AC v
|[],_,_,_,_,h,_,_=>by simp at h
|_::_,[],_,_,_,_,h,_=>by simp at h
|p::P,w::vs,0,m,nd,h1,h2,hk=>by simp at h1 h2;subst h1;subst h2;show bindC kindOf ((p,w)::P.zip vs) m p=_;unfold bindC;rw[xy λ v hv=>(A17.mp nd).1 (B91 hv).1,W1 hk];simp
|p::P,w::vs,i+1,m,nd,h1,h2,hk=>by show bindC kindOf ((p,w)::P.zip vs) m x=_;unfold bindC;exact xA (i:=i) (A17.mp nd).2 (by simpa using h1) (by simpa using h2) hk
def start(N:γ Str)(vs:γ V):St:=vs.map AC++Do (N.length-vs.length) At
def dU(CX:SV)(P:ο)(w:ξ)(K:Da)(mg:Str->ε ζ)(base:ν)(N:γ Str)(qual:Str)(scope:τ)(f:δ)(cd:ζ)(A:ς)(outer:γ Env)(s:η)(H:Hp)(E:XK):Cx where
 prog:=P
 w:=w
 K:=K
 mg:=mg
 base:=base
 A:=A.deeper<|envOfC qual scope s.heap.objs.size f cd
 N:=N
 s₀:=s
 H₀:=H
 env:=envOfC qual scope s.heap.objs.size f cd
 outer:=outer
 stack:=envOfC qual scope s.heap.objs.size f cd::outer
 ex:=[]
 calm:=Ch
 fn:=λ _=>Ch
 pn:=[]
 xe:=λ e s'=>EQ (model P w) (A.deeper<|envOfC qual scope s.heap.objs.size f cd) (leaving (envOfC qual scope s.heap.objs.size f cd) e) (λ _ S4=>CX outer H s E e S4) (λ e' S4=>CX outer H s E e' S4) s'
theorem By{sc:τ}(h:sc.names.lookup x=AC .cell):∃c,(cellsFrom n sc.names []).lookup x=AC c:=by have q:=C45 _ n []<|.inl h;exact A91.mp q
theorem GN{K:Fa}
 (S:aY N ps scope) (hd:A.handled=At) (e0:BK P w K mg base A outer s H) (hl:vs.length=ps.length) (r:Vals vs us)
 (x:InCallC s s.heap.objs.size (bindL (envOfC qual scope s.heap.objs.size f cd).kindOf (ps.zip us) λ _=>At) (cellsFrom (s.heap.objs.size+1) scope.names []) (bindC (envOfC qual scope s.heap.objs.size f cd).kindOf (ps.zip us) λ _=>At) s1) :
 Inv (dU CX P w K mg base N qual scope f cd A outer s H E) [] (start N vs) H s1:=by
 have fQ:ps.length<=N.length:=by have:=A15 List.length S.pre;rw[A24]at this;lia
 let⟨h1,tk,rfl,hk⟩:=x.done;have Q!:∀b,b∉(dU CX P w K mg base N qual scope f cd A outer s H E).ex:=λ b z=>absurd (show b∈([]:γ δ)from z) ∅;refine⟨⟨e0.mod,S.kind,rfl,rfl,v4 _,λ y z c h1 h2=>?_,λ y hy=>?_,λ y c _ h=>?_,λ _=>hd,Around.frames_deeper e0.frames,.inr ⟨rfl,rfl⟩,λ b z=>absurd z<|Q! b,e0.bs,e0.Lf,λ b _ _=>Q! b,λ b z=>absurd z<|Q! b,e0.m?,e0.N9⟩,
  rfl,e0.bare,Un.kept hk,⟨_,x.toInCall.ns,λ i y v h1 h2 h3=>?_⟩,λ y c h=>⟨_,x.cell y c h⟩,e0.b9.fresh<|v4 _,λ y c h=>?_,λ p hp=>absurd (show p∈([]:γ (δ×μ))from hp) ∅,e0.b9.kept hk,?_,e0.tab⟩
 .exact name_of_addr x.apart (A66 h1)<|A66 h2
 .have hy:=hy;rcases hy with hy|hy
  .exact By hy
  .exact absurd rfl<|S.Q9 _<|A66 hy
 .exact A76<|x.above y c<|A66 h
 .have hi:i<vs.length:=by
   unfold start at h2;by_cases hi:i<vs.length
   .exact hi
   .rw[A45 (by simpa using hi)]at h2;rw[A58]at h2;split at h2<;>cases h2
  have ha:vs[i]?=AC v:=by
   unfold start at h2;rw[A35 (by simpa using hi),A08]at h2;cases e:vs[i]? with
   |none=>rw[e]at h2;cases h2
   |some a=>rw[e]at h2;cases h2;rfl
  let⟨u,hu,rv⟩:=r.get ha;have hp:ps[i]?=AC y:=by rw[<-S.pre,C46 ∅];exact h1
  have ndP:ps.Nodup:=by rw[<-S.pre];exact S.nd.sublist<|List.take_sublist _ _
  refine⟨u,rv,?_⟩;rcases S.par y (A18 hp)with k|k
  .exact .inl ⟨k,xx ndP hp hu k⟩
  .let⟨c,e⟩:=By (n:=s.heap.objs.size+1) k;refine .inr ⟨.inl k,c,e,?_⟩;have q:=x.cell y c e;rw[xA ndP hp hu (by show scope.names.lookup y≠_;rw[k];decide)]at q;exact q
 .exact e0.b9.fresh<|A76<|x.above y c<|A66 h
 .unfold start;show _=N.length;rw[A30,A06,A80];lia
theorem uH{K:Da}{dV kV doc pm ba ct oc:ζ}
 (lk:K.lookup f=AC ⟨oc,od,.func<|PySem.W.fnOf name qual params body scope dV kV doc pm an ba ct,uc⟩) (nH:On K ba qual=Ch) (S:aY N ps scope)
 (len:∀vs H Q E,sp vs H Q E->vs.length=ps.length)
 (A3:∀A outer s H vs Q E,bG k (A.deeper<|envOfC qual scope s.heap.objs.size f ba)->sp vs H Q E ->
  ∃t,qZ (dU CX P w K mg base N qual scope f ba A outer s H E) body t/\t {nx:=λ _ H'=>Q .non H',rt:=Q} (start N vs) H) :
 ee P w K mg base CX (k+1) f (NE name qual params body scope dV kV doc pm an ba ct) ps sp:=by
 refine⟨len,λ A outer s H args us vs Q E hr e0 hb r BO=>?_⟩;have hl:=len _ _ _ _ BO;have KX:=e0.mod.LK.keeps λ b o e=>(e0.bs b o e).1;have lim:=e0.mod.nolimit.keeps λ b o e=>(e0.bs b o e).1;have VT:∀y∈ps.zip us,scope.names.lookup y.1=AC .local\/(scope.names.lookup y.1=AC .cell/\((cellsFrom (s.heap.objs.size+1) scope.names []).lookup y.1).isSome=Ch):=by
  rintro⟨n,v⟩ hy;rcases S.par n (B91 hy).1 with q|q
  .exact .inl q
  .exact .inr ⟨q,C45 _ _ _<|.inl q⟩
 refine codeAny_call_function hr.depth (KX _ _ lk) rfl S.co S.gen rfl (PySem.W.codeRec_of KX nH)<|hb _ _ _ _ ?_;refine wpAny_newFunctionEnv_cells S.kind VT λ env he s1 x=>?_;subst he;refine⟨lim.keeps x.toInCall.keep,codeAny_func ?_⟩;let⟨t,ht,hq⟩:=A3 A outer s H vs Q E (hr.deeper _) BO;have I:Inv (dU CX P w K mg base N qual scope f ba A outer s H E) [] (start N vs) H s1:=GN S hr.hd e0 hl r x;refine A21 (ht [] s1 (start N vs) H _ I hq) (λ fl s' hs=>?_) λ e s' hs=>hs;have fin:∀{σ'}{H'}{v}{u},Inv (dU CX P w K mg base N qual scope f ba A outer s H E) [] σ' H' s'->RelV v u->Q v H'->CE outer P w H s Q u s':=
  λ {σ' H' v u} J rv q=>⟨v,H',J.os,J.bare,J.base,J.b9,rv,q⟩
 cases fl with
 |ret u=>let⟨v,σ',H',J,rv,q⟩:=hs;exact fin J rv q
 |next=>let⟨σ',H',J,q⟩:=hs;exact fin (v:=V.non) (u:=SZ) J rfl q
 |brk=>let⟨_,_,_,q⟩:=hs;exact GM q
 |cont=>let⟨_,_,_,q⟩:=hs;exact GM q
section
variable{id T:String}
def tCB(r:γ V->Hp->VK->Prop)(t:TA):TE:=λ σ H Q=>t σ H λ vs H1=>r vs H1 Q
theorem j8(hc:nM X (.builtin id) r)(hg:Gl X x)(hm:X.mg x=At)(hv:bootBuiltins x=AC (.builtin id))(ha:PA X (e::es) t)(hn:x≠ "__name__":=by decide)(gQ:(x==("__debug__"))=AT:=by decide)
 (he:Se e es X.env:=by rfl) (fQ:Pn pos es X.env:=by rfl):PE X (.Call (.Name x p) (e::es) [] pos) (tCB r t):=by
 intro χ s σ H Q I h;refine A79<|kM I hg hm hv ?_ hn gQ;exact PyProof.Rows.callWith_builtin1 (cA (ha pos χ s σ H _ I h) <|by rintro us s1 ⟨vs,H1,I1,r1,q1⟩;exact hc χ s1 σ H1 vs us Q I1 r1 q1) he fQ
theorem wN(hc:nM X (.type T) r)(hg:Gl X x)(hm:X.mg x=At)(hv:bootBuiltins x=AC (.type T))(ha:PA X (e::es) t)(hn:x≠ "__name__":=by decide)(gQ:(x==("__debug__"))=AT:=by decide)
 (he:Se e es X.env:=by rfl) (fQ:Pn pos es X.env:=by rfl):PE X (.Call (.Name x p) (e::es) [] pos) (tCB r t):=by
 intro χ s σ H Q I h;refine A79<|kM I hg hm hv ?_ hn gQ;exact B23 (cA (ha pos χ s σ H _ I h) <|by rintro us s1 ⟨vs,H1,I1,r1,q1⟩;exact hc χ s1 σ H1 vs us Q I1 r1 q1) he fQ
end
end L2
namespace HT
section
open PySem.SeqAt
open PySem.AutoSeq1 (wpAny_loadPart')
open PySem.MeetsSeq PySem.MeetsSeq2 PySem.MeetsSeq3
end
theorem OF(ht:IsTup s.heap t vs.toArray)(hb:IsTup s.heap b ws.toArray)(hv:vs≠[])
 (h1:ws=[]->Q (.ref t) s) (h2:ws≠[]->Q (.ref s.heap.objs.size) {s with heap:=s.heap.push {cls:=.type "tuple",data:=.seq (vs++ws).toArray}})
 (E2:vs.length+ws.length<=sizeLine):EQ (model prog w) A (binaryOp .Add (.ref t)<|.ref b) Q E s:=by
 let⟨⟨cls,dd,data,sl⟩,ho,hc,n,hd⟩:=id ht;let⟨⟨WE,Tw,data2,S0⟩,HB,yN,n2,hd2⟩:=id hb;simp only at hc hd yN hd2;subst hc hd yN hd2;have e:vs.toArray++ws.toArray=(vs++ws).toArray:=by simp
 by_cases hw:ws=[]
 .exact B50 ⟨_,ho,rfl⟩ ⟨_,HB,rfl⟩ B93 seq_tuple_add B95 B96 (B97 _ _)
   (tuple_addW1 t b _ _ n n2 dd Tw sl S0 (by simpa using hv) (by simp[hw])) ⟨ho,HB,h1 hw⟩
 .refine B50 ⟨_,ho,rfl⟩ ⟨_,HB,rfl⟩ B93 seq_tuple_add B95 B96 (B97 _ _)
   (tuple_addW2 t b vs.toArray ws.toArray n n2 dd Tw sl S0 (by simpa using hv) (by simpa using hw) (by rw[A10,A10];exact E2)) ⟨ho,HB,?_⟩
  rw[e];exact h2 hw
def d_(n d:Nat):ε Int->Nat
|none=>d
|some v=>if v<0 then(v+(n:Int)).toNat else min v.toNat n
theorem yb(n d:Nat)(hd:d<=n)(o:ε Int):d_ n d o<=n:=by
 cases o with
 |none=>exact hd
 |some v=>
  show(if v<0 then(v+(n)).toNat else min _ n)<=n;by_cases hv:v<0
  .rw[M2 hv];lia
  .rw[W1 hv];exact Nat.min_le_right _ _
theorem Fp(v:Int)(n d:Nat):(if v<0 then max (v+(n)) 0 else min v (n))=((d_ n d<|some v)):=by
 show(if v<0 then max _ 0 else min v (n))=(((if v<0 then(v+(n)).toNat else min _ n)))
 by_cases hv:v<0
 .simp only[M2 hv];lia
 .simp only[W1 hv];lia
theorem DR(lo hi:ε Int)(n:Nat):Ps lo hi 1 (n)=(((d_ n 0 lo):Int),((d_ n n hi):Int)):=by
 have h1:¬((1)<0):=by lia
 unfold Ps;simp only[A59];refine Prod.ext ?_ ?_
 .cases lo with
  |none=>rfl
  |some v=>exact Fp v n 0
 .cases hi with
  |none=>rfl
  |some v=>exact Fp v n n
theorem Cu(i j:Nat):KF (i) (j) 1=j-i:=by
 unfold KF;have h1:(1)>0:=by lia
 simp only[Int.ediv_one];split<;>lia
theorem tX(p:IsPart v o)(h:Q o s):EQ (model prog w) A (Builtin.Slice.slicePartIndex v) Q E s:=by
 cases p with
 |none=>exact slicePart_none h
 |int i t=>exact slicePart_int h
theorem j5{lo hi:ε Int}{Q:Int×Int×Nat->η->Prop}(hs:s.heap.IsSliceOf sl vl vu .none)(pl:IsPart vl lo)(pu:IsPart vu hi)
 (h:Q (((d_ n 0 lo)),1,d_ n n hi-d_ n 0 lo) s):EQ (model prog w) A (UV (.ref sl)<|pure<|n) Q E s:=by
 let⟨os,RJ,E3,V6⟩:=id hs;unfold UV Builtin.Slice.sliceFields;refine T0<|T0<|A31 RJ V6 rfl<|T0<|A31 RJ V6 rfl<|T0<|A31 RJ V6 rfl<|P3 ?_;refine T0<|slicePart_none ?_;rw[W1 ∅];refine T0<|tX pl<|T0<|tX pu<|T0<|P3 ?_;show EQ _ _ (match Ps lo hi 1 (n)with|(lo,hi)=>pure (lo,(1:Int),KF lo hi 1)) _ _ s;rw[DR];show EQ _ _ (pure (((d_ n 0 lo):Int),(1),KF ((d_ n 0 lo)) ((d_ n n hi)) 1)) _ _ s;rw[Cu];exact P3 h
theorem IX(xs:Array ζ)(i k:Nat):((Ev k).filterMap λ(m:Nat)=>xs[((i)+(m:Int)*1).toNat]?).toArray=((xs.toList.drop i).take k).toArray:=by
 have e:(λ(m:Nat)=>xs[((i)+(m:Int)*1).toNat]?)=λ m=>xs[i+m]?:=by
  funext m
  have:((i)+(m:Int)*1).toNat=i+m:=by lia
  rw[this]
 rw[e];have:=pick_run xs i k;rw[List.filterMap_map]at this;have e2:((λ x=>xs[x]?)∘λ x=>i+x)=λ m=>xs[i+m]?:=rfl;rw[e2]at this;rw[this]
theorem pK{lo hi:ε Int}(ht:IsTup s.heap t items)(hs:s.heap.IsSliceOf sl vl vu .none)(pl:IsPart vl lo)(pu:IsPart vu hi)
 (hw:¬(d_ items.size 0 lo=0/\d_ items.size items.size hi=items.size))
 (h:Q (.ref s.heap.objs.size) {s with heap:=s.heap.push {cls:=.type "tuple",data:=.seq ((items.toList.drop<|d_ items.size 0 lo).take<|d_ items.size items.size hi-d_ items.size 0 lo).toArray}})
 (E2:items.size<=sizeLine):EQ (model prog w) A (getItem (.ref t)<|.ref sl) Q E s:=by
 have E1:sizeOk (.seq ((items.toList.drop<|d_ items.size 0 lo).take<|d_ items.size items.size hi-d_ items.size 0 lo).toArray):=by show((items.toList.drop<|d_ items.size 0 lo).take<|d_ items.size items.size hi-d_ items.size 0 lo).toArray.size<=sizeLine;rw[A10,A24,B51,B47];lia
 have hj:d_ items.size items.size hi<=items.size:=yb _ _ (v4 _) hi;let⟨os,RJ,E3,V6⟩:=id hs;have hTs:s.TypeIs (.ref sl) "slice":=⟨os,RJ,E3⟩
 unfold getItem
 try with_reducible refine A38 ?_
 first|refine T0<|P3 ?_|skip
 refine T0<|wpAny_sequenceKey ht.typeIs ∅ ?_;refine T0 (B03 (name:=Db "__getitem__") ht.typeIs B04
  <|B05 B04 ht.typeIs entry_tuple_getitem ?_<|args_tuple_getitem _ _)
 show EQ _ _ (Uf (.ref t)>>=_) _ _ s;refine T0<|tupleItemsOf_ ht ?_;refine T0<|wpAny_typeOf hTs ?_;rw[M2 ∅];refine T0<|j5 hs pl pu ?_;have HC:¬((((d_ items.size 0 lo:Nat):Int)==0&&(1:Int)==1&&(d_ items.size items.size hi-d_ items.size 0 lo)==items.size)=Ch):=by intro q;rw[A46,A46]at q;have q1:((d_ items.size 0 lo:Nat):Int)=0:=eq_of_beq q.1.1;have q2:d_ items.size items.size hi-d_ items.size 0 lo=items.size:=eq_of_beq q.2;exact hw ⟨by lia,by lia⟩
 show EQ _ _ (if(((d_ items.size 0 lo:Nat):Int)==0&&(1:Int)==1&&(d_ items.size items.size hi-d_ items.size 0 lo)==items.size)=Ch then _ else _) _ _ s;rw[W1 HC,IX]
 first
  |exact T0 (m:=No _)<|A67 (P3 ⟨_,rfl,P3 h⟩) E1
  |exact T0 (m:=No _)<|A67 (T0<|P3<|P3 ⟨_,rfl,P3 h⟩) E1
  |exact T0<|T0 (m:=No _)<|A67 (P3<|P3 ⟨_,rfl,P3 h⟩) E1
  |exact T0<|T0 (m:=No _)<|A67 (P3 ⟨_,rfl,P3 h⟩) E1
end HT
namespace L2
abbrev TO:=St->Hp->(ε Int->Hp->Prop)->Prop
def PO(X:Cx)(e:ε ι)(t:TO):Prop:=
 ∀ (χ:γ (δ×μ))(s:η)(σ:St)(H:Hp)(Q:ε Int->Hp->Prop),Inv X χ σ H s->t σ H Q ->
  EQ (model X.prog X.w) X.A (evalPart e X.env) (λ u s'=>∃o H',Inv X χ σ H' s'/\IsPart u o/\Q o H') X.xe s
def Mc:TO:=λ _ H Q=>Q At H
def T8(t:TE):TO:=λ σ H Q=>t σ H λ x H1=>∃i,x=.int i/\Q (AC i) H1
section
variable{lo hi:ε ι}
theorem MG:PO X At Mc:=by intro χ s σ H Q I h;rw[evalPart_none];exact P3 ⟨At,H,I,.none,h⟩
theorem MF(h:PE X e te):PO X (AC e) (T8 te):=by intro χ s σ H Q I hw;rw[evalPart_some];refine cA (h χ s σ H _ I hw) ?_;rintro u s1 ⟨x,H1,I1,r1,q1⟩;let⟨i,rfl,q⟩:=q1;let⟨t,rfl⟩:=r1;exact⟨_,H1,I1,.int i t,q⟩
def OU(X:Cx)(r:V->ε Int->ε Int->Hp->VK->Prop):Prop:=
 ∀ (χ:γ (δ×μ))(s:η)(σ:St)(H:Hp)(x:V)(v vl vu:ζ)(lo hi:ε Int)(sl:δ)(Q:VK),Inv X χ σ H s->RelV x v->s.heap.IsSliceOf sl vl vu .none->IsPart vl lo->IsPart vu hi->r x lo hi H Q ->
  ∃T id,typeLookup (.type T) "__getitem__"=pure (AC<|.builtin id)/\s.TypeIs v T/\EQ (model X.prog X.w) X.A (getItem v<|.ref sl) (EP X χ σ Q) X.xe s
theorem OU.or(h:OU X r)(h':OU X r'):OU X (λ x lo hi H Q=>r x lo hi H Q\/r' x lo hi H Q):=by
 intro χ s σ H x v vl vu lo hi sl Q I rx hs pl pu q;rcases q with q|q
 .exact h χ s σ H x v vl vu lo hi sl Q I rx hs pl pu q
 .exact h' χ s σ H x v vl vu lo hi sl Q I rx hs pl pu q
def tSl(r:V->ε Int->ε Int->Hp->VK->Prop)(te:TE)(tl th:TO):TE:=λ σ H Q=>te σ H λ x H1=>tl σ H1 λ l H2=>th σ H2 λ u H3=>r x l u H3 Q
theorem Ai(hr:OU X r)(he:PE X e te)(hl:PO X lo tl)(hu:PO X hi th):PE X (.Subscript e (.Slice lo hi At p2) pos) (tSl r te tl th):=by intro χ s σ H Q I h;refine Subscript_<|cA (he χ s σ H _ I h) ?_;rintro v s1 ⟨x,H1,I1,r1,q1⟩;refine wpAny_Slice<|cA (hl χ s1 σ H1 _ I1 q1) λ vl s2 ⟨l,H2,I2,pl,q2⟩=>cA (hu χ s2 σ H2 _ I2 q2) ?_;rintro vu s3 ⟨u,H3,I3,pu,q3⟩;rw[evalPart_none];refine P3 ?_;have I4:Inv X χ σ H3 {s3 with heap:=s3.heap.push {cls:=.type "slice",data:=.fields #[vl,vu,.none]}}:=I3.kept λ b ob q=>v6 _ q;let⟨T,id,hT,ht,hg⟩:=hr χ {s3 with heap:=s3.heap.push {cls:=.type "slice",data:=.fields #[vl,vu,.none]}} σ H3 x v vl vu l u _ Q I4 r1 (Heap.IsSliceOf.new ..) pl pu q3;exact tail_any ht hT hg (by with_unfolding_all rfl)
def wb(xs:γ V)(lo hi:ε Int):γ V:=(xs.drop<|HT.d_ xs.length 0 lo).take<|HT.d_ xs.length xs.length hi-HT.d_ xs.length 0 lo
theorem rN(xs:γ V)(lo hi:ε Int):(wb xs lo hi).length<=xs.length:=by unfold wb;rw[A24,B51];lia
def Zy(K:Da):V->ε Int->ε Int->Hp->VK->Prop:=λ x lo hi H Q=>∃a xs,x=.ref a/\mV K H a xs /\
 ¬(HT.d_ xs.length 0 lo=0/\HT.d_ xs.length xs.length hi=xs.length)/\∀p,H p=At->Q (.ref p) (upd H p<|.tup<|wb xs lo hi)
theorem Ql:OU X (Zy X.K):=by
 intro χ s σ H x v vl vu lo hi sl Q I rx hs pl pu h;let⟨a,xs,rfl,hx,hw,q⟩:=h;cases rx;let⟨bq,r,ht,hz⟩:=I.tuple hx;have ψ:bq.toArray.size=xs.length:=by rw[A10];exact r.length.symm
 refine⟨"tuple",_,B04.lookup,ht.typeIs,?_⟩;refine HT.pK ht hs pl pu (by rw[ψ];exact hw) ?_ (by rw[ψ];exact hz);rw[ψ];refine⟨.ref _,_,I.laid (λ b ob q=>v6 _ q) (v4 _) ?_,rfl,q _<|I.b9.fresh<|v4 _⟩;exact⟨A13 (rN xs lo hi) hz,_,(r.drop _).take _,p9.new _ _⟩
def UC(K:Da):R2:=λ x y H Q=>∃a b xs ys,x=.ref a/\y=.ref b/\mV K H a xs/\mV K H b ys/\xs≠[]/\xs.length+ys.length<=sizeLine /\
 (ys=[]->Q (.ref a) H)/\(ys≠[]->∀p,H p=At->Q (.ref p) (upd H p<|.tup<|xs++ys))
theorem Vals.sM(r:Vals xs us):us=[]↔xs=[]:=by
 cases r with
 |nil=>simp
 |cons _ _=>simp
theorem MV:jQ X (binaryOp .Add) (UC X.K):=by intro χ s σ H x y v u Q I rx ry h;let⟨a,b,xs,ys,rfl,rfl,ha,hb,hx,hz,q1,q2⟩:=h;cases rx;cases ry;let⟨bq,r1,p1,_⟩:=I.tuple ha;let⟨iz,r2,p2,_⟩:=I.tuple hb;refine HT.OF p1 p2 (λ z=>hx<|r1.sM.mp z) (λ z=>⟨.ref a,H,I,rfl,q1<|r2.sM.mp z⟩) (λ z=>?_) (by rw[<-r1.length,<-r2.length];exact hz);refine⟨.ref _,_,I.laid (λ b ob q=>v6 _ q) (v4 _) ?_,rfl,q2 (λ w=>z<|r2.sM.mpr w) _<|I.b9.fresh<|v4 _⟩;exact⟨by rw[A30];exact hz,_,r1.append r2,p9.new _ _⟩
end
def Vu(n:Nat)(i:Int):ε Nat:=if 0<=i then(if i<n then AC i.toNat else At)else if -(n:Int)<=i then AC (i+n).toNat else At
def Sy{α:Type}(xs:γ α)(i:Int):ε α:=(Vu xs.length i).bind λ j=>xs[j]?
theorem NG(h:Vu n i=AC j):seqIndex? i n=AC j/\j<n/\-(n)<=i/\i<n:=by
 unfold Vu at h;by_cases h0:0<=i
 .rw[M2 h0]at h;by_cases h1:i<n
  .rw[M2 h1]at h;have e:=A04 h;exact⟨by rw[seqIndex_of h0 h1,e],by lia,by lia,h1⟩
  .rw[W1 h1]at h;cases h
 .rw[W1 h0]at h;by_cases h1:-(n)<=i
  .rw[M2 h1]at h;have e:=A04 h;exact⟨by rw[seqIndex_neg ∅ h1,e],by lia,h1,by lia⟩
  .rw[W1 h1]at h;cases h
theorem zi(h:Sy xs i=AC v):∃j,seqIndex? i xs.length=AC j/\xs[j]?=AC v/\j<xs.length/\-(xs.length)<=i/\i<xs.length:=by
 unfold Sy at h;cases e:Vu _ i with
 |none=>rw[e]at h;cases h
 |some j=>rw[e]at h;let⟨h1,h2,h3,h4⟩:=NG e;exact⟨j,h1,h,h2,h3,h4⟩
def FA(b:ι):Prop:=∀o i,subscripted b AT o i=operate [o,i] (getItem o i)
def OZ(X:Cx)(r:R2):Prop:=
 ∀ (value slice:ι)(χ:γ (δ×μ))(s:η)(σ:St)(H:Hp)(x y:V)(v u:ζ)(Q:VK),Inv X χ σ H s->RelV x v->RelV y u->r x y H Q ->
  subscripted slice AT v u=operate [v,u] (getItem v u)->EQ (model X.prog X.w) X.A (subscriptTail value slice v u) (EP X χ σ Q) X.xe s
def W5(X:Cx)(id:String)(r:V->γ V->Hp->VK->Prop):Prop:=
 ∀ (χ:γ (δ×μ))(s:η)(σ:St)(H:Hp)(x:V)(xs:γ V)(v:ζ)(us:γ ζ)(Q:VK),Inv X χ σ H s->RelV x v->Vals xs us->r x xs H Q ->
  EQ (model X.prog X.w) X.A (call (.builtin id)<|v::us) (EP X χ σ Q) X.xe s
section
theorem OZ.or(h:OZ X r)(h':OZ X r'):OZ X (λ x y H Q=>r x y H Q\/r' x y H Q):=by
 intro value slice χ s σ H x y v u Q I rx ry q hs;rcases q with q|q
 .exact h value slice χ s σ H x y v u Q I rx ry q hs
 .exact h' value slice χ s σ H x y v u Q I rx ry q hs
theorem UI(hr:OZ X r)(ha:PE X a ta)(hb:PE X b tb)(hs:FA b):PE X (.Subscript a b pos) (O7 r ta tb):=by intro χ s σ H Q I h;exact Subscript_<|Sv ha hb I h λ v u s2 x y H2 I2 rx ry q=>hr a b χ s2 σ H2 x y v u Q I2 rx ry q<|hs _ _
def Uz(K:Da):R2:=λ x y H Q=>∃p xs i v,x=.ref p/\y=.int i/\jw K H p xs/\Sy xs i=AC v/\Q v H
def Ux(K:Da):R2:=λ x y H Q=>∃p xs i v,x=.ref p/\y=.int i/\mV K H p xs/\Sy xs i=AC v/\Q v H
def Uy:R2:=λ x y H Q=>∃z i c,x=.str z/\y=.int i/\z.length<=sizeLine/\Sy z.cps.toList i=AC c/\Q (.str ⟨#[c]⟩) H
theorem NF:OZ X (Uz X.K):=by
 intro value slice χ s σ H x y v u Q I rx ry h hs;let⟨p,xs,i,z,rfl,rfl,hq,he,q⟩:=h;cases rx;let⟨t,rfl⟩:=ry;let⟨bq,r,pl,hz⟩:=I.list hq;let⟨j,h1,h2,h3,h4,h5⟩:=zi he;let⟨w,ew,Mw⟩:=r.get h2;have hl:=r.length;have hn:=yC;have fin:EP X χ σ Q w s:=⟨z,H,I,Mw,q⟩
 by_cases h0:0<=i
 .have hj:i.toNat=j:=by rw[seqIndex_of h0 h5]at h1;exact A04 h1
  exact item_listR pl.isList h0 ∅ (by rw[hj];simpa using ew) fin hs
 .have hj:(i+(bq.toArray.size)).toNat=j:=by rw[seqIndex_neg ∅ h4]at h1;rw[A10,<-hl];exact A04 h1
  exact subscriptTail_builtinR pl.isList.typeIs slot_list_getitem.lookup
   (wpAny_getItem_list_neg pl.isList ∅ (by rw[A10]<;>lia) ∅ (by rw[hj];simpa using ew) ⟨rfl,fin⟩) hs
theorem Rv:OZ X (Ux X.K):=by
 intro value slice χ s σ H x y v u Q I rx ry h hs;let⟨p,xs,i,z,rfl,rfl,hq,he,q⟩:=h;cases rx;let⟨t,rfl⟩:=ry;let⟨bq,r,pl,hz⟩:=I.tuple hq;let⟨j,h1,h2,h3,h4,h5⟩:=zi he;let⟨w,ew,Mw⟩:=r.get h2;have hl:=r.length;have hn:=yC;have fin:EP X χ σ Q w s:=⟨z,H,I,Mw,q⟩
 exact subscriptTail_builtinR pl.typeIs slot_tuple_getitem.lookup
  (getItem_tuple pl ∅ ∅ (by rw[A10,<-hl];exact h1) (by simpa using ew) ⟨rfl,fin⟩) hs
theorem uu:OZ X Uy:=by
 intro value slice χ s σ H x y v u Q I rx ry h hs;let⟨z,i,c,rfl,rfl,hz,he,q⟩:=h;let⟨t,rfl⟩:=rx;let⟨t',rfl⟩:=ry;let⟨j,h1,h2,h3,h4,h5⟩:=zi he;have hl:z.cps.toList.length=z.length:=by simp[Str.length]
 rw[hl]at h1 h4 h5;have hn:=yC;exact tail_any (typeIs_str s z t) slot_str_getitem.lookup (getItem_str (by have e1:decide (i < -(2^63))=AT:=A28 ∅;have e2:decide (i≥2^63)=AT:=A28 ∅;rw[e1,e2,Bool.or_false]) (by rw[h1];simpa using h2) ⟨.str ⟨#[c]⟩,H,I.tok _,⟨_,rfl⟩,q⟩) hs
def rIx(K:Da):R2:=λ x y H Q=>Uz K x y H Q\/Ux K x y H Q\/Uy x y H Q
theorem Rw:OZ X (rIx X.K):=NF.or<|Rv.or uu
theorem xZ(lo hi:ε Int)(n:Nat):(sliceBounds lo hi At n).1=((HT.d_ n 0 lo))/\(sliceBounds lo hi At n).2.1=((HT.d_ n n hi))/\(sliceBounds lo hi At n).2.2=1:=by
 refine⟨?_,?_,rfl⟩
 .cases lo with
  |none=>simp[sliceBounds,HT.d_]
  |some i=>
   simp only[sliceBounds,HT.d_,AA6,A25];by_cases h:i<0
   .simp only[h]<;>lia
   .simp only[h,A59]<;>lia
 .cases hi with
  |none=>simp[sliceBounds,HT.d_]
  |some i=>
   simp only[sliceBounds,HT.d_,AA6,show(1)>0 by decide,A25];by_cases h:i<0
   .simp only[h,A25]<;>lia
   .simp only[h,A59]<;>lia
theorem vA(bq:γ ζ)(lo hi:ε Int):slicePick bq.toArray lo hi At=((bq.drop<|HT.d_ bq.length 0 lo).take<|HT.d_ bq.length bq.length hi-HT.d_ bq.length 0 lo).toArray:=by let⟨h1,h2,h3⟩:=xZ lo hi bq.toArray.size;unfold slicePick;rw[h1,h2,h3];simp only[sliceRange_one,pick_run]<;>rfl
def ZA(K:Da):V->ε Int->ε Int->Hp->VK->Prop:=λ x lo hi H Q=>∃a xs,x=.ref a/\jw K H a xs/\∀p,H p=At->Q (.ref p) (upd H p<|.lst<|wb xs lo hi)
theorem Mn:OU X (ZA X.K):=by intro χ s σ H x v vl vu lo hi sl Q I rx hs pl pu h;let⟨a,xs,rfl,hx,q⟩:=h;cases rx;let⟨bq,r,ht,hz⟩:=I.list hx;have ψ:=r.length;refine⟨"list",_,slot_list_getitem.lookup,ht.isList.typeIs,?_⟩;refine wpAny_getItem_list_slice ht.isList hs pl pu .none ∅ ?_ (by rw[A10]<;>lia);rw[vA,<-ψ];refine⟨.ref _,_,I.laid (λ b ob q=>v6 _ q) (v4 _) ?_,rfl,q _<|I.b9.fresh<|v4 _⟩;exact⟨A13 (rN xs lo hi) hz,_,0,(r.drop _).take _,A14 _ rfl⟩
theorem wc:nM X (.type "tuple") (λ xs H Q=>∃p ys,xs=[.ref p]/\((jw X.K H p ys/\∀l,H l=At->Q (.ref l) (upd H l<|.tup ys))\/(mV X.K H p ys/\Q (.ref p) H))):=by
 intro χ s σ H xs us Q I r h;let⟨p,ys,rfl,h⟩:=h;let⟨u,rfl,rx⟩:=vals1 r;cases rx;rcases h with⟨hq,q⟩|⟨hq,q⟩
 .let⟨bq,r',pl,hz⟩:=I.list hq;have ψ:=r'.length;refine call_tuple_list pl.isList (λ h' kp=>?_) (by simp only[A10]<;>lia);have I1:=I.kept (t':=s.toks) kp;have I2:=
   I1.laid (t':=s.toks) (λ b o e=>v6 _ e) (v4 _)<|show fD _ X.w _ _ _ (.tup ys)from⟨hz,bq,r',p9.new _ _⟩
  exact⟨.ref _,_,I2,rfl,q _<|I1.b9.fresh<|v4 _⟩
 .let⟨bq,r',pl,hz⟩:=I.tuple hq;exact call_tuple_same pl ⟨.ref p,H,I,rfl,q⟩
def tyV(K:Da)(T:String)(x:V)(H:Hp):Prop:=match x with
|.str _=>T="str"
|.int _=>T="int"
| .ref p=>(T="list" /\ ∃xs,jw K H p xs)\/(T="tuple" /\ ∃o,K.lookup p=AC o/\o.cls=.type "tuple" /\ o.dict=At) \/
 (T="dict" /\ ((∃a9,H p=AC (.dK a9))\/∃a9,H p=AC (.dT a9)))\/(T="set" /\ ∃S n,H p=AC (.set S n))
|_=>False
theorem Qd(I:Inv X χ σ H s)(r:RelV x v)(ty:tyV X.K T x H) :
 s.TypeIs v T/\∀a,v=.ref a->∃ob,s.heap.get? a=AC ob/\ob.dict=At:=by
 cases x with
 |str z=>let⟨t,rfl⟩:=r;cases (ty);exact⟨typeIs_str s z t,λ _ e=>nomatch e⟩
 |int i=>let⟨t,rfl⟩:=r;cases (ty);exact⟨B24 s i t,λ _ e=>nomatch e⟩
 |ref p=>
  cases r;rcases ty with⟨rfl,xs,hq⟩|⟨rfl,o,hk,hc,hd⟩|⟨rfl,hk⟩|⟨rfl,S,n,hk⟩
  .let⟨bq,_,pl,_⟩:=I.list hq;refine⟨pl.isList.typeIs,λ a e=>?_⟩;cases e;let⟨o,n,e,c,hd,_⟩:=pl;exact⟨o,e,hd⟩
  .refine⟨⟨o,I.lH p o hk,hc⟩,λ a e=>?_⟩;cases e;exact⟨o,I.lH _ o hk,hd⟩
  .have z:∃o,s.heap.get? p=AC o/\o.ExactDict:=by
    rcases hk with⟨a9,hk⟩|⟨a9,hk⟩
    .let⟨_,_,_,_,o,_,_,e,ex,_⟩:=I.b9 p _ hk;exact⟨o,e,ex⟩
    .let⟨_,_,_,_,o,_,_,e,ex,_⟩:=I.b9 p _ hk;exact⟨o,e,ex⟩
   let⟨o,e,ex⟩:=z;refine⟨⟨o,e,ex.1⟩,λ a e2=>?_⟩;cases e2;exact⟨o,e,ex.2.1⟩
  .let⟨o,_,_,_,e,ex,_⟩:=I.b9 p _ hk;refine⟨⟨o,e,ex.1⟩,λ a e2=>?_⟩;cases e2;exact⟨o,e,ex.2.1⟩
 |_=>exact GM ty
def Y?(K:Da)(T:String)(r:V->γ V->Hp->VK->Prop)(to:TE)(t:TA):TE:=λ σ H Q=>to σ H λ x H1=>tyV K T x H1/\t σ H1 λ xs H2=>r x xs H2 Q
variable{T id:String}
theorem Aj(pa:PlainAttrs T)(slot:Slot T name id)(hty:typeOf (.builtin id)=pure (.type "method_descriptor"))(hm:W5 X id r)(ho:PE X o to)(ha:PA X (e::es) t)
 (jf:attributeBase o name X.env (eval o X.env)=eval o X.env:=by rfl)
 (n!:((backTo gR<|starEach (e::es) X.env).all (λ x=>!x.1)&&(backToKw gR<|keywordEach [] X.env).all (λ x=>x.1.isSome)
  && decide ((e::es).length+([]:γ π).length+(if([]:γ π).isEmpty then 0 else 1)<30))=Ch:=by rfl)
 (je:(apos.endLine==gR.line)=Ch:=by rfl) (hs:Se e es X.env:=by rfl) (jd:Pn gR es X.env:=by rfl) :
 PE X (.Call (.Attribute o name apos) (e::es) [] gR) (Y? X.K T r to t):=by
 intro χ s σ H Q I h;refine B99 jf n! je rfl<|cA (ho χ s σ H _ I h) ?_;rintro v s1 ⟨x,H1,I1,r1,ty,q1⟩;let⟨h1,h2⟩:=Qd I1 r1 ty;refine⟨T,id,pa,slot,hty,h1,h2,?_⟩;have hA:=ha gR χ s1 σ H1 _ I1 q1;rw[hs]at hA ⊢;refine C00 (by show(AT||(backTo gR _).any _)=AT;rw[jd]<;>rfl)<|B53 ?_;exact cA hA <|by rintro us s2 ⟨vs,H2,I2,r2,q2⟩;exact hm χ s2 σ H2 x vs v us Q I2 r1 r2 q2
/- xs.append(e),list.index on a JC tuple .. are W5 facts of 06m -/
end
def MtM(X:Cx)(id:String)(r:V->γ V->Hp->VK->Prop):Prop:=
 ∀ (χ:γ (δ×μ))(s:η)(σ:St)(H:Hp)(x:V)(xs:γ V)(v:ζ)(us:γ ζ)(Q:VK),Inv X χ σ H s->RelV x v->Vals xs us->r x xs H Q ->
  EQ (model X.prog X.w) X.A (call (.builtin id)<|v::us) (EP X χ σ Q) X.xe s
theorem Vals.one:∀{x}{us},Vals [x] us->∃u,us=[u]/\RelV x u
|_,_,.cons r .nil=>⟨_,rfl,r⟩
theorem Vals.rep(h:Vals xs us):∀k,Vals (Do k xs).flatten (Do k us).flatten
|0=>.nil
|k+1=>by rw[A81,A81,B25,B25];exact Vals.append h<|Vals.rep h k
theorem foldl_rep(bq:γ ζ):∀k acc,
 AC1 (λ x1 x2=>x1++x2) acc.toArray (Do k bq.toArray)=(acc++(Do k bq).flatten).toArray
|0,acc=>by simp
|k+1,acc=>by
 have e:acc.toArray++bq.toArray=(acc++bq).toArray:=by simp
 have e2:(acc++bq)++(Do k bq).flatten=acc++(Do (k+1) bq).flatten:=by rw[A81,B25,B06]
 rw[<-e2,<-foldl_rep,<-e,A81,AB4]
theorem Inv.Vk{bq AX:γ ζ}(I:Inv X χ σ H s)(hH:H l=AC (.lst xs))
 (e:s.heap.get? l=AC {cls:=.type "list",data:=.seq bq.toArray n}) (hf:f bq.toArray=AX.toArray) (hv:Vals ys AX) (hz:ys.length<=sizeLine) :
 Inv X χ σ (upd H l<|.lst ys) {s with heap:=s.heap.update l<|Obj.mapSeq f,toks:=t'}:=by
 have q:=PySem.IsL.update e f;rw[hf]at q;refine I.write (by rw[hH];exact trivial) (.inl rfl) (λ b' u hb hu=>(A62 _ _<|A05 hb).trans hu) ⟨_,q⟩ ?_;exact⟨hz,AX,_,hv,q⟩
theorem Inv.Vm(I:Inv X χ σ H s)(hv:Vals ys bq)(hz:ys.length<=sizeLine):
 Inv X χ σ (upd H s.heap.objs.size<|.lst ys) {s with heap:=s.heap.push {cls:=.type "list",data:=.seq bq.toArray},toks:=t'}:=
 I.laid (λ _ _ q=>v6 _ q) (v4 _) ⟨hz,bq,0,hv,A14 _ rfl⟩
theorem Inv.fresh(I:Inv X χ σ H s):H s.heap.objs.size=At:=I.b9.fresh<|v4 _
theorem Inv.Nl(I:Inv X χ σ H s)(hH:H l=AC (.lst xs)):xs.length<=sizeLine/\∃bq n,Vals xs bq/\xs.length=bq.length/\s.heap.get? l=AC {cls:=.type "list",data:=.seq bq.toArray n}:=by let⟨z,bq,n,r,e⟩:=I.b9 l _ hH;exact⟨z,bq,n,r,r.length,e⟩
theorem Az(h:n<=sizeLine):Rs n=AT:=by exact A28 ∅
def Er:V->γ V->Hp->VK->Prop:=λ x vs H Q=>∃l xs y,x=.ref l/\vs=[y]/\H l=AC (.lst xs)/\xs.length<sizeLine/\Q .non (upd H l<|.lst<|xs++[y])
theorem wX:MtM X "list.append" Er:=by intro χ s σ H x vs v us Q I rx rv h;let⟨l,xs,y,rfl,rfl,hH,hz,q⟩:=h;cases rx;let⟨u,rfl,ru⟩:=rv.one;let⟨z,bq,n,r,hl,e⟩:=I.Nl hH;refine A72 F.slot_list_append ⟨_,e,rfl⟩ F.entry_list_append (F.args_list_append_2 _ _) (PySem.list_append l _ n u (by rw[A10];lia)) ⟨e,?_⟩;refine⟨.non,_,I.Vk hH e ∅ (r.append<|.cons ru .nil) ?_,rfl,q⟩;rw[A30,List.length_singleton];lia
def Ep:V->γ V->Hp->VK->Prop:=λ x vs H Q=>∃l b xs zs,x=.ref l/\vs=[.ref b]/\H l=AC (.lst xs)/\H b=AC (.lst zs)/\xs.length+zs.length<=sizeLine/\Q .non (upd H l<|.lst<|xs++zs)
theorem Gw:MtM X "list.extend" Ep:=by
 intro χ s σ H x vs v us Q I rx rv h;let⟨l,b,xs,zs,rfl,rfl,hH,hB,hz,q⟩:=h;cases rx;let⟨u,rfl,ru⟩:=rv.one;cases ru;let⟨z,bq,n,r,hl,e⟩:=I.Nl hH;let⟨z2,iz,n2,r2,NV,e2⟩:=I.Nl hB;have E2:bq.toArray.size+iz.toArray.size<=sizeLine:=by rw[A10,A10];lia
 have J_:¬(!bq.toArray.isEmpty&&Rs (bq.toArray.size+iz.toArray.size))=Ch:=by rw[Az E2,AC0];exact A89
 refine A72 F.slot_list_extend ⟨_,e,rfl⟩ F.entry_list_extend (F.args_list_extend_2 _ _)
  (AutoSeq1.list_extend_list_list_0 l _ n b _ n2 J_ (by rw[A10];lia) ∅) ⟨e,e2,?_⟩
 refine⟨.non,_,I.Vk hH e ∅ (r.append r2) ?_,rfl,q⟩;rw[A30];lia
def ZC:R2:=λ x y H Q=>∃l k xs,x=.ref l/\y=.int k/\H l=AC (.lst xs)/\-(2^63)<=k/\k<2^63/\xs.length*k.toNat<=sizeLine /\
 ∀p,H p=At->Q (.ref p) (upd H p<|.lst (Do k.toNat xs).flatten)
theorem len_rep{α:Type}(xs:γ α)(k:Nat):(Do k xs).flatten.length=k*xs.length:=by
 induction k with
 |zero=>simp
 |succ k ih=>rw[A81,B25,A30,ih,B26,A92]
theorem QV:jQ X (binaryOp .Mult) ZC:=by
 intro χ s σ H x y v u Q I rx ry h;let⟨l,k,xs,rfl,rfl,hH,h1,h2,hz,q⟩:=h;cases rx;let⟨t,rfl⟩:=ry;let⟨z,bq,n,r,hl,e⟩:=I.Nl hH;have ψ:bq.toArray.size*k.toNat<=sizeLine:=by rw[A10,<-hl];exact hz
 have _7:¬bq.toArray.size*k.toNat>(2^63-1) / 8:=by
  have:(sizeLine)<=(2^63-1) / 8:=by decide
  lia
 have _W:¬(!Builtin.List.listFitsIndex k)=Ch:=by rw[fitsIndex_both h1 h2];exact A89
 have J_:¬Rs (bq.toArray.size*k.toNat)=Ch:=by rw[Az ψ];exact A89
 have RO:AC1 (λ x1 x2=>x1++x2) #[] (Do (if bq.toArray.isEmpty=Ch then 0 else k.toNat) bq.toArray)=(Do k.toNat bq).flatten.toArray:=by
  have f0:=λ m=>by have:=foldl_rep bq m [];rw[C01]at this;exact this
  rw[f0];cases bq with
  |nil=>simp
  |cons a r'=>rw[W1 ∅]
 refine C47 ∅ ⟨_,e,rfl⟩ (λ s'=>B24 s' k t) noFill_list_mul F.fills_int_mul B54 repeat_list F.slot_int_index.lookup
  (A72 B54 (B24 s k t) F.entry_int_rmul (F.args_int_rmul_2 _ _) (int___rmul___int_list k t l bq.toArray n)
   ⟨e,rfl,⟨_,e,rfl⟩,A72 F.slot_list_mul ⟨_,e,rfl⟩ F.entry_list_mul (F.args_list_mul_2 _ _) (AutoListH.list___mul___list_int_3 l bq.toArray n k t _W _7 J_) ⟨e,?_⟩⟩)
 rw[RO];exact⟨.ref _,_,I.Vm (r.rep k.toNat) (by rw[len_rep,Nat.mul_comm];exact hz),rfl,q _ I.fresh⟩
end L2
namespace Att
open PySem.W PySem.Calls
theorem sj:∀ns vs,WellAll P h vs (ns.map WData.int)->IntsAre vs ns:=by
 intro ns
 induction ns with
 |nil=>intro vs w;rw[A32]at w;cases w;exact .nil
 |cons n ns ih=>
  intro vs w;rw[f8]at w;cases w with
  |cons a b=>cases a;exact .cons _ _<|ih _ b
theorem F6{l:OpenLaw}(hn:l.most=AC n)
 (NQ:l.row.toRowW.claim.pre args=Ch) (_i:WellAll P h vals args) :
 ∃a vs ns,vals=[Value.ref a]/\args=[WData.list (ns.map WData.int)]/\h.get? a=AC {cls:=.type "list",data:=.seq vs.toArray}/\IntsAre vs ns/\ns.length<=n:=by
 have hsh:=(pre_splitW NQ).1;have hc:l.pre.holds [] {args:=args}=Ch:=(pre_splitW NQ).2;let⟨d,r,rfl,h1,h2⟩:=hasAllW_cons hsh;obtain rfl:=hasAllW_nil h2;let⟨xs,rfl,h3⟩:=hasW_list h1;let⟨ns,rfl⟩:=items_int h3;have ψ:ns.length<=n:=by
  have h4:(WTm.not<|.lt (.lit<|.int<|n)<|.len<|.arg 0).holds [] {args:=[.list (ns.map .int)]}=Ch:=by have h4:=(holds_andW hc).1;rw[hn]at h4;exact h4
  have h5:=condW_of h4<|w_not<|w_lt w_lit<|w_len_list<|w_arg rfl;rw[A06]at h5;refine Nat.le_of_not_lt λ q=>?_;have q':(n)<((ns.length)):=by lia
  first
   |(rw[A47 q']at h5;exact absurd h5 ∅)
   |(simp at h5;lia)
 cases _i with
 |cons w1 w2=>
  cases w2;cases w1 with
  |list ho hall=>exact⟨_,_,ns,rfl,rfl,ho,sj ns _ hall,ψ⟩
theorem F'(l:OpenLaw)(args:γ WData):l.row.toRowW.claim.post args (.bool Ch) args=Ch:=
 postW_of
  (show WShape.has [] _ .bool=Ch by first|rfl|decide|simp[WShape.armsAll])
  (w_eq_bool (w_res rfl) w_lit) rfl
section
variable{K:Frag}
end
end Att
namespace L2
theorem wF:∀{vs}{ns},IntsAre vs ns->Vals (ns.map V.int) vs
|_,_,.nil=>.nil
|_,_,.cons n t h=>.cons ⟨t,rfl⟩<|wF h
def OX(H:Hp):Prop:=∀b,H b=At\/(∃o xs,H b=AC (.fF o<|.lst xs))\/∃q,H b=AC (.Ia q)
def TabAt(K:Da)(x:Str)(b:δ):Prop:=x∈dD/\∃c,Os K x=AC (c,b)
theorem Nr{K:Da}(one:∀x y c P c',x∈dD->y∈dD->Os K x=AC (c,P)->Os K y=AC (c',P)->x=y)(h:TabAt K x b)(g:TabAt K y b):x=y:=by let⟨h1,c,h2⟩:=h;let⟨g1,d,g2⟩:=g;exact one x y c b d h1 g1 h2 g2
open Classical in
noncomputable def Cf(K:Da)(a:δ)(u:HO)(s:Bool):Hp:=λ b=>if h:∃x,TabAt K x b then AC (.Ia<|jA h.choose)else if s=Ch/\b=a then AC u else At
theorem JU{P:ο}{w:ξ}{K:Fa}{mg mb:Str->ε ζ}{CX:SV}{k:Nat}{fa a:δ}{fd:υ}{x:Str}{sp:Sp}{s₁:η}{vs:γ ζ}{ns:γ Int}
 (KX:K.In s₁.heap) (J!:s₁.heap.Ns mainGlobals mg) (hb:s₁.heap.Ns builtinsNs mb) (hbb:∀x:Str,x≠ "__name__" -> mb x=bootBuiltins x) (_G:s₁.heap.NoLimit) (hg:s₁.gens=#[])
 (ha:s₁.heap.get? a=AC {cls:=.type "list",data:=.seq vs.toArray}) (hi:IntsAre vs ns) (hl:ns.length<=sizeLine) (hr:bG k callerA)
 (F:∀base:ν,K.In base->base.Ns mainGlobals mg->ee P w K mg base CX k fa fd [x] sp) (l?:∀(s:η)(u:ζ),BindsTo s fd ⟨[u],[]⟩ [(x,u)])
 (BO:∀H:Hp,OX H->jw K H a (ns.map V.int)->sp [.ref a] H (λ v _=>v=.bl Ch) λ _ _ _=>False)
 (hCX:∀H e s',CX [] H s₁ (λ _ _ _=>False) e s'->False)
 (one:∀x y c P c',x∈dD->y∈dD->Os K x=AC (c,P)->Os K y=AC (c',P)->x=y)
 (tab:∀x∈dD,∀c P,Os K x=AC (c,P)->(AC3 s₁.heap c P/\s₁.heap.get? P=AC (cr #[]))/\s₁.heap.TableAt c P #[]) (bm:BMain mg s₁.heap) (lL:PySem.W.noTabs K=Ch) :
 codeAny (model P w) callerA (.call (.ref fa) ⟨[.ref a],[]⟩) (λ r s'=>r=.ok (.ret<|.bool Ch)/\OldK s₁.heap s'.heap/\s'.os=s₁.os/\AllBare s'.gens) s₁:=by
 have rv:=wF hi;have Z5:=hi.length;have Ma:∀{b}{y},TabAt K y b->s₁.heap.get? b=AC (cr #[]):=λ {b y} ⟨h1,c,h2⟩=>(tab y h1 c b h2).1.2;have Pe:∀{b}{o},s₁.heap.get? b=AC o->o≠cr #[]->¬∃y,TabAt K y b:=λ {b o} e n ⟨y,h⟩=>by have:=Ma h;rw[e]at this;exact n<|A04 this
 have at1:∀{b}{u}{q}{y},TabAt K y b->Cf K a u q b=AC (.Ia<|jA y):=λ {b u q y} h=>by
  have hh:∃x,TabAt K x b:=⟨y,h⟩
  unfold Cf;rw[A93 hh];rw[Nr one hh.choose_spec h]
 have at2:∀{b}{u}{q},(¬∃y,TabAt K y b)->Cf K a u q b=if q=Ch/\b=a then AC u else At:=λ {b u q} h=>by unfold Cf;rw[dif_neg h]
 -- from an abstract heap in abg nothing but Qi Qm and Qi tables may be tracked
 have core:∀u q,(∃o xs,u=.fF o (.lst xs))->jw K (Cf K a u q) a (ns.map V.int)->(q=Ch->fD P w (Cf K a u q) s₁.heap a u)->(q=Ch->K.lookup a=At) ->
  codeAny (model P w) callerA (.call (.ref fa) ⟨[.ref a],[]⟩) (λ r s'=>r=.ok (.ret<|.bool Ch)/\OldK s₁.heap s'.heap/\s'.os=s₁.os/\AllBare s'.gens) s₁:=by
  intro u q hu hS hua hK;generalize hHH:Cf K a u q=H at hS hua;have na:¬∃y,TabAt K y a:=Pe ha λ z=>by cases z
  have of:∀{b}{v},H b=AC v->(∃y,TabAt K y b/\v=.Ia (jA y))\/(q=Ch/\b=a/\v=u):=λ {b v} e=>by
   by_cases hb:∃y,TabAt K y b
   .let⟨y,hy⟩:=hb;rw[<-hHH,at1 hy]at e;cases e;exact .inl ⟨y,hy,rfl⟩
   .rw[<-hHH,at2 hb]at e;split at e
    .rename_i hc;cases e;exact .inr ⟨hc.1,hc.2,rfl⟩
    .cases e
  have b9:lM P w H s₁.heap:=λ b v e=>by
   rcases of e with⟨y,hy,rfl⟩|⟨hq,rfl,rfl⟩
   .exact⟨#[],Ma hy,trivial,λ pos cv z=>nomatch z⟩
   .exact hua hq
  have hO:OX H:=λ b=>by
   cases e:H b with
   |none=>exact .inl rfl
   |some v=>
    rcases of e with⟨y,_,rfl⟩|⟨_,_,rfl⟩
    .exact .inr<|.inr ⟨_,rfl⟩
    .let⟨o,xs,rfl⟩:=hu;exact .inr<|.inl ⟨o,xs,rfl⟩
  have sW:∀{b}{o},s₁.heap.get? b=AC o->H b=At->(vP s₁.heap H).get? b=AC o:=λ e n=>Kb e n;have Q!:∀{b}{o},s₁.heap.get? b=AC o->(∀xs n,o.data≠.seq xs n)->(∀xs,o.data≠.fields xs\/o.cls≠.none)->H b=At:=λ {b o} e d d2=>by
   cases r:H b with
   |none=>rfl
   |some v=>
    rcases of r with⟨y,hy,_⟩|⟨_,_!,_⟩
    .rw[Ma hy]at e;cases e;rcases d2 #[]with z|z
     .exact absurd rfl z
     .exact absurd rfl z
    .rw[_!,ha]at e;cases e;exact absurd rfl<|d _ _
  have X6:∀{b:δ}{m:Str->ε ζ},s₁.heap.Ns b m->(vP s₁.heap H).Ns b m:=λ {b m} ⟨o,es,ep,e,d,r⟩=>⟨o,es,ep,sW e (Q! e (λ xs n z=>by rw[d]at z;cases z) λ xs=>.inl λ z=>by rw[d]at z;cases z),d,r⟩
  have hKb:K.In (vP s₁.heap H):=λ b o e=>sW (KX b o e) (by
   cases r:H b with
   |none=>rfl
   |some v=>
    rcases of r with⟨y,hy,_⟩|⟨hq,_!,_⟩
    .have e2:=KX b o e;rw[Ma hy]at e2;cases e2;have h2:=A36.mp lL _<|PySem.W.mem_of_lookupK e;exact absurd (show AT=Ch from h2) A89
    .rw[_!,hK hq]at e;cases e)
  have hM:Mod K mg (vP s₁.heap H):=⟨hKb,X6 J!,⟨mb,X6 hb,hbb⟩,let ⟨mc,h1,h2⟩:=_G;⟨mc,X6 h1,h2⟩⟩
  have hT:xD K mg (vP s₁.heap H) H:=λ y hy c p e=>by let⟨⟨⟨o,vs,file,tf,flags,tg,inF,text,tt,e1,e2,e3,r⟩,_⟩,_⟩:=tab y hy c p e;let⟨bmA,ob,b1,b2,b3,b4,b5,b6⟩:=bm;refine⟨by rw[<-hHH];exact at1 ⟨hy,c,e⟩,⟨o,vs,file,tf,flags,tg,inF,text,tt,sW e1 (Q! e1 (λ xs n z=>by rw[e3]at z;cases z) λ xs=>.inr λ z=>by rw[e2]at z;cases z),e2,e3,r⟩,bmA,ob,b1,b2,sW b3 (Q! b3 (λ xs n z=>by rw[b6]at z;cases z) λ xs=>.inr λ z=>by rw[b4]at z;cases z),b4,b5,b6⟩
  have e0:BK P w K mg (vP s₁.heap H) callerA [] s₁ H:=⟨rfl,hM,λ b o e=>MY e,B86<|GV _ _,trivial,λ b hb=>absurd (show b∈([]:γ δ)from hb) ∅,b9,.of_eq hg,hT⟩
  refine A78 ((F _ hKb<|X6 J!).run callerA [] s₁ H ⟨[.ref a],[]⟩ [.ref a] [.ref a] _ _ hr e0 (l? s₁<|.ref a) (.cons rfl .nil)<|BO H hO hS) λ r s' h=>?_;cases r with
  |error e=>exact(hCX H e s' h).elim
  |ok fl=>
   cases fl with
   |next=>exact GM h
   |brk=>exact GM h
   |cont=>exact GM h
   |ret u'=>
    let⟨v,H',os,bare,un,VP,r',q'⟩:=h;have q':v=.bl Ch:=q';subst q';obtain rfl:u'=Value.bool Ch:=r';refine⟨rfl,⟨λ b o e=>?_,λ b o e=>un.there b o e ∅⟩,os,bare⟩;cases r:H b with
    |none=>exact .inl<|un.keep b o e r (by intro z;exact absurd (show b∈([]:γ δ)from z) ∅) ∅
    |some v=>
     rcases of r with⟨y,hy,rfl⟩|⟨_,_,rfl⟩
     .have r2:=un.o5 b (.Ia<|jA y) trivial r;let⟨ps,g1,_⟩:=VP b _ r2;let⟨h1,c,h2⟩:=hy;have tb:=(tab y h1 c b h2).2;have e3:o={cls:=.none,data:=.fields #[]}:=A04<|e.symm.trans tb.2;subst e3;exact .inr<|.inl ⟨tb.isCodeTable,rfl,#[],ps,rfl,by rw[g1];simp⟩
     .let⟨ob,xs,rfl⟩:=hu;have z2:=un.sv b ob _ r;let⟨e1,_⟩:=b9 b _ r;let⟨e2,_⟩:=VP b _ z2;rw[e]at e1;cases e1;exact .inl e2
 have na:¬∃y,TabAt K y a:=Pe ha λ z=>by cases z
 cases hk:K.lookup a with
 |some o=>
  -- Qi Qm is one of Qi JC own objects
  have e:=KX a o hk;rw[ha]at e;cases e;exact core (.fF {cls:=.type "list",data:=.seq vs.toArray}<|.lst []) AT ⟨_,_,rfl⟩ (.inr ⟨_,vs.toArray,_,hk,rfl,rfl,rfl,by rw[A10,Z5];exact hl,by simpa using rv⟩) (λ z=>nomatch z) λ z=>nomatch z
 | none=>refine core (.fF {cls:=.type "list",data:=.seq vs.toArray}<|.lst<|ns.map V.int) Ch ⟨_,_,rfl⟩ (.inl<|.inr ⟨{cls:=.type "list",data:=.seq vs.toArray},by rw[at2 na];exact M2 ⟨rfl,rfl⟩⟩) (λ _=>⟨ha,by rw[A06];exact hl,vs,_,rv,ha⟩) λ _=>hk
def bA(s:θ):Arguments:=match s with
|.FunctionDef _ a _ _ _ _ _ _ _ _=>a
|_=>{posonlyargs:=[],args:=[],vararg:=At,kwonlyargs:=[],kw_defaults:=[],kwarg:=At,defaults:=[]}
def aL(s:θ):γ θ:=match s with
|.FunctionDef _ _ b _ _ _ _ _ _ _=>b
|_=>[]
def aj(s:θ):τ:=match s with
|.FunctionDef _ _ _ _ _ _ sc _ _ _=>sc
|_=>{kind:=.function,names:=[],isGenerator:=AT,isCoroutine:=AT}
abbrev iK:SV:=λ _ _ _ _ _ _=>False
abbrev E0:XK:=λ _ _ _=>False
theorem t_:Passes iK X E0:=λ _ _ _ _ _ _ _ h=>h.elim
structure BJ(K:Da)(x qual:Str)(st:Stmt)(f:Addr)(fd:FuncData):Prop where
 ex:∃(oc:Value)(od:Option Addr)(kV doc pm:Value)(an:Option Addr)(ba ct:Value)(uc:Array (Option Value)),
  fd=NE x qual (bA st) (aL st) (aj st) .none kV doc pm an ba ct/\K.lookup f=AC ⟨oc,od,.func fd,uc⟩/\On K ba qual=Ch
 kp:FM K (.ref f)=Ch
section
variable{K:Da}
theorem BJ.ok{st:θ}(F:BJ K x qual st f fd)(S:aY N ps (aj st))(len:∀vs H Q E,sp vs H Q E->vs.length=ps.length)
 (A3:∀ba A outer s H vs Q E,bG k (A.deeper<|envOfC qual (aj st) s.heap.objs.size f ba)->sp vs H Q E ->
  ∃t,qZ (dU iK P w K mg base N qual (aj st) f ba A outer s H E).gE (aL st) t/\t {nx:=λ _ H'=>Q .non H',rt:=Q} (start N vs) H):ee P w K mg base iK (k+1) f fd ps sp:=by
 let⟨oc,od,kV,doc,pm,an,ba,ct,uc,rfl,lk,nH⟩:=F.ex;refine uH lk nH S len λ A outer s H vs Q E hr BO=>?_;let⟨t,h,q⟩:=A3 ba A outer s H vs Q E hr BO;exact⟨t,h.gE,q⟩
theorem BJ.binds{st:θ}(F:BJ K x qual st f fd)
 (h:∀kV doc pm an ba ct us,us.length=ps.length->bindArgs (NE x qual (bA st) (aL st) (aj st) .none kV doc pm an ba ct) ⟨us,[]⟩=pure (ps.zip us)):Binds K fd ps []:=by
 let⟨oc,od,kV,doc,pm,an,ba,ct,uc,rfl,lk,nH⟩:=F.ex;exact .all<|h kV doc pm an ba ct
theorem qK{st:θ}{kV doc pm ba ct:ζ}(l:K.lookup f=AC ⟨oc,od,.func<|PySem.W.fnOf x qual (bA st) (aL st) (aj st) .none kV doc pm an ba ct,uc⟩)
 (c:On K ba qual=Ch) (k:FM K (.ref f)=Ch):BJ K x qual st f (NE x qual (bA st) (aL st) (aj st) .none kV doc pm an ba ct):=⟨⟨oc,od,kV,doc,pm,an,ba,ct,uc,rfl,l,c⟩,k⟩
end
theorem pv(i:Nat)(hN:X.N[i]?=AC x:=by rfl)(hv:Hq X.env.scope x:=by first| exact AC8 rfl| exact ol<|Or.inl rfl| exact ol<|Or.inr rfl)(hd:(x==("__debug__"))=AT:=by decide)
 (nH:(x==("__classdict__"))=AT:=by decide):PE X (.Name x pos) (lS i):=kH hN hv hd nH
def aJ(H H':Hp):Prop:=∀b o,H b=AC o->H' b=AC o
theorem aJ.refl(H:Hp):aJ H H:=λ _ _ h=>h
theorem aJ.trans(a:aJ H H1)(b:aJ H1 H2):aJ H H2:=λ c o h=>b c o<|a c o h
theorem aJ.free(e:aJ H H')(h:H' l=Option.none):H l=Option.none:=by
 cases q:H l with
 |none=>rfl
 |some o=>rw[e l o q]at h;cases h
theorem aJ.seq{K:Da}(e:aJ H H')(h:jw K H a xs):jw K H' a xs:=by
 rcases h with(h|⟨o,h⟩)|h
 .exact .inl<|.inl<|e _ _ h
 .exact .inl<|.inr ⟨o,e _ _ h⟩
 .exact .inr h
section
variable{κ:Type}[DecidableEq κ]
def qj(a9:γ (κ×V))(k:κ):ε V:=(a9.find? λ kv=>decide<|kv.1=k).map (·.2)
def putK(a9:γ (κ×V))(k:κ)(v:V):γ (κ×V):=
 if(a9.any λ kv=>decide<|kv.1=k)=Ch then a9.map (λ kv=>if kv.1=k then(kv.1,v)else kv)else a9++[(k,v)]
def iD(a9:γ (κ×V))(k:κ):γ (κ×V):=a9.filter λ kv=>decide<|kv.1≠k
theorem oV{k:κ}(e:p.1=k):qj (p::r) k=AC p.2:=by simp[qj,e]
theorem lP{k:κ}(e:¬p.1=k):qj (p::r) k=qj r k:=by simp[qj,e]
theorem zI(k:κ):∀a9,(a9.any λ kv=>decide<|kv.1=k)=(qj a9 k).isSome
|[]=>rfl
|p::r=>by
 rw[B07];by_cases e:p.1=k
 .simp only[oV e,A47 e,Bool.true_or,Option.isSome_some]
 .rw[lP e,A28 e,Bool.false_or];exact zI k r
theorem rC(a9:γ _)(k:κ)(v:V):(putK a9 k v).length<=a9.length+1:=by
 unfold putK;split
 .rw[A06];lia
 .rw[A30,A34,C02];lia
theorem lJ.j?(r:lJ o u):o.isSome=u.isSome:=by
 cases o with
 |none=>cases u with
  |none=>rfl
  |some _=>exact(r).elim
 |some _=>cases u with
  |none=>exact(r).elim
  |some _=>rfl
theorem KV.val(r:KV a9 vs)(k:κ):lJ (qj a9 k) (valueAt vs k):=by
 induction r with
 |nil=>exact IR
 |@cons p q ps qs h t ih=>
  let⟨h1,h2⟩:=h;by_cases e:p.1=k
  .have e':=h1.symm.trans e;have b:valueAt (q::qs) k=AC q.2:=by simp[valueAt,e']
   rw[oV e,b];exact h2
  .have e':¬q.1=k:=λ z=>e<|h1.trans z;have b:valueAt (q::qs) k=valueAt qs k:=by simp[valueAt,e']
   rw[lP e,b];exact ih
theorem KV.any(r:KV a9 vs)(k:κ):(a9.any λ kv=>decide<|kv.1=k)=vs.any λ kv=>decide (kv.1=k):=by
 induction r with
 |nil=>rfl
 |cons h t ih=>rw[B07,B07,ih,h.1]
theorem KV.Qp(r:KV a9 vs)(k:κ)(ry:RelV y u):
 KV (a9.map λ kv=>if kv.1=k then(kv.1,y)else kv) (vs.map λ kv=>if kv.1=k then(kv.1,u)else kv):=by
 induction r with
 |nil=>exact .nil
 |@cons p q ps qs h t ih=>
  rw[f8,f8];refine .cons ?_ ih;let⟨h1,h2⟩:=h;by_cases e:p.1=k
  .rw[M2 e,M2<|h1.symm.trans e];exact⟨h1,ry⟩
  .rw[W1 e,W1 λ z=>e<|h1.trans z];exact⟨h1,h2⟩
theorem KV.put(r:KV a9 vs)(k:κ)(ry:RelV y u):KV (putK a9 k y) (stored vs k u):=by
 unfold putK stored;rw[r.any];by_cases e:(vs.any λ kv=>decide<|kv.1=k)=Ch
 .rw[M2 e,M2 e];exact r.Qp k ry
 .rw[W1 e,W1 e];exact Paired.snoc r ⟨rfl,ry⟩
theorem KV.drop(r:KV a9 vs)(k:κ):KV (iD a9 k) (without vs k):=by
 unfold iD without
 induction r with
 |nil=>exact .nil
 |@cons p q ps qs h t ih=>
  let⟨h1,h2⟩:=h;rw[AA2,AA2];by_cases e:p.1=k
  .have a:¬decide (p.1≠k)=Ch:=by simp[e]
   have b:¬decide (q.1≠k)=Ch:=by simp[h1.symm.trans e]
   rw[W1 a,W1 b];exact ih
  .have e':¬q.1=k:=λ z=>e<|h1.trans z;have a:decide (p.1≠k)=Ch:=by simp[e]
   have b:decide (q.1≠k)=Ch:=by simp[e']
   rw[M2 a,M2 b];exact .cons ⟨h1,h2⟩ ih
theorem KV.length{vs:γ (κ×ζ)}(r:KV a9 vs):a9.length=vs.length:=B45 r
theorem KR(a9:γ _)(k:κ):(iD a9 k).length<=a9.length:=A63 _ _
end
theorem w_(r:RelV (kV k) u):(e! P w).is k u=Ch:=by
 cases k with
 |inl i=>obtain⟨t,e⟩:=(r);subst e;exact AJ P w i t
 |inr x=>obtain⟨t,e⟩:=(r);subst e;exact AI P w x t
theorem xg:∀{ks}{us},Vals (ks.map kV) us->ItemsAre (e! P w) ks us
|[],_,r=>by rw[A32]at r;cases r;exact .nil
|k::ks,_,r=>by
 rw[f8]at r;cases r with
 |cons h t=>exact .cons (w_ h)<|xg t
abbrev KT(H:Hp):γ (γ Key×V)->γ (γ Key×δ×ζ)->Prop:=Paired λ p q=>p.1=q.1/\H q.2.1=AC (.tup<|p.1.map kV)/\RelV p.2 q.2.2
theorem KT.val(r:KT H a9 xs)(k:γ Key):lJ (qj a9 k) ((atKey xs k).map (·.2)):=by
 induction r with
 |nil=>exact IR
 |@cons p q ps qs h t ih=>
  let⟨h1,_,h2⟩:=h;by_cases e:p.1=k
  .have e':=h1.symm.trans e;have b:atKey (q::qs) k=AC q.2:=by simp[atKey,e']
   rw[oV e,b];exact h2
  .have e':¬q.1=k:=λ z=>e<|h1.trans z;have b:atKey (q::qs) k=atKey qs k:=by simp[atKey,e']
   rw[lP e,b];exact ih
theorem KT.Qp(r:KT H a9 xs)(k:γ Key)(ry:RelV y u):
 KT H (a9.map λ kv=>if kv.1=k then(kv.1,y)else kv) (xs.map<|putAt k u):=by
 induction r with
 |nil=>exact .nil
 |@cons p q ps qs h t ih=>
  rw[f8,f8];refine .cons ?_ ih;let⟨h1,h2,h3⟩:=h;unfold putAt;by_cases e:p.1=k
  .rw[M2 e,M2<|h1.symm.trans e];exact⟨h1,h2,ry⟩
  .rw[W1 e,W1 λ z=>e<|h1.trans z];exact⟨h1,h2,h3⟩
theorem KT.put(r:KT H a9 xs)(k:γ Key)(hb:H b=AC (.tup<|k.map kV))(ry:RelV y u):
 KT H (putK a9 k y) (storedH xs k b u):=by
 have e:(a9.any λ kv=>decide<|kv.1=k)=(atKey xs k).isSome:=by rw[zI,(r.val k).j?,C03]
 unfold putK storedH;rw[e];by_cases q:(atKey xs k).isSome=Ch
 .rw[M2 q,M2 q];exact r.Qp k ry
 .rw[W1 q,W1 q];exact Paired.snoc r ⟨rfl,hb,ry⟩
theorem KT.keeps(r:KT H a9 xs)(ht:∀b ys,H b=AC (.tup ys)->H' b=AC (.tup ys)):KT H' a9 xs:=
 Paired.Gy r λ _ _ z=>⟨z.1,ht _ _ z.2.1,z.2.2⟩
section
variable{P:ο}{w:ξ}{H:Hp}{h:ν}{a:δ}
theorem Pa(ok:lM P w H h)(e:Rd H a u):fD P w H h a u:=e.ok ok
theorem KW(ok:lM P w H h)(e:Rd H a (.dK a9)):a9.length<=sizeLine/\(a==sysModules)=AT/\∃vs,KV a9 vs/\h.DictOf (e! P w) a vs:=
 Pa ok e
theorem PN(ok:lM P w H h)(e:H a=AC (.dK a9)):a9.length<=sizeLine/\(a==sysModules)=AT/\∃vs,KV a9 vs/\h.DictOf (e! P w) a vs:=KW ok<|.inl e
theorem yE(ok:lM P w H h)(e:H a=AC (.tup<|ks.map kV)):(tupleKind<|e! P w).is h ks a:=by
 obtain⟨_,bq,r,tn⟩:=(ok a _ e)
 let⟨o,h1,h2,n,h3⟩:=tn.is;exact⟨o,_,n,h1,h2,h3,by simpa using xg r⟩
theorem KP(ok:lM P w H h)(e:Rd H a (.dT a9)):a9.length<=sizeLine/\(a == sysModules)=AT /\
 ∃xs,KT H a9 xs/\h.DictOfH (tupleKind<|e! P w) a xs:=by
 obtain⟨z,y,xs,r,o,es,ep,h1,h2,h3,h4,h5⟩:=(Pa ok e)
 refine⟨z,y,xs,r,o,es,ep,h1,h2,h3,h4,λ x hx=>?_,h5⟩;have all:∀{l}{m},KT H l m->∀x∈m,(tupleKind<|e! P w).is h x.1 x.2.1:=by
  intro l m q
  induction q with
  |nil=>intro x hx;exact nomatch hx
  |@cons p q ps qs hq t ih=>
   intro x hx;rcases A00.mp hx with e|hx
   .subst e;exact yE ok (by rw[<-hq.1];exact hq.2.1)
   .exact ih x hx
 exact all r x hx
theorem rM(ok:lM P w H h)(e:H a=AC (.dT a9)):a9.length<=sizeLine/\(a==sysModules)=AT /\
 ∃xs,KT H a9 xs/\h.DictOfH (tupleKind<|e! P w) a xs:=KP ok<|.inl e
end
def Lx(H:Hp)(a:δ)(y:V)(r:ε V):Prop:=
 (∃a9 k,Rd H a (.dK a9)/\y=kV k/\r=qj a9 k)\/∃a9 k b,Rd H a (.dT a9)/\y=.ref b/\H b=AC (.tup<|k.map kV)/\r=qj a9 k
def W?(H:Hp)(a:δ)(y v:V)(H':Hp):Prop:=
 (∃a9 k,H a=AC (.dK a9)/\y=kV k/\a9.length<sizeLine/\H'=upd H a (.dK<|putK a9 k v)) \/
 ∃a9 k b,H a=AC (.dT a9)/\y=.ref b/\H b=AC (.tup<|k.map kV)/\a9.length<sizeLine/\H'=upd H a (.dT<|putK a9 k v)
section
variable{X:Cx}{χ:γ (δ×μ)}{σ:St}{H:Hp}{s:η}{a:δ}{y v:V}{u r:ζ}{o:ε V}{A:ς}{E:ζ->η->Prop}
theorem Inv.big(I:Inv X χ σ H s):sysModules<s.heap.objs.size:=by have h:=(I.mod.glob.keeps I.bk).lt;exact Nat.lt_trans ∅ h
theorem aaL(hu:A.units+1<cLine)(I:Inv X χ σ H s)(g:Lx H a y o)(ry:RelV y u)(h:∀s',Inv X χ σ H s'->Q (.bool o.isSome) s'):
 EQ (model X.prog X.w) A (compareOp .In u<|.ref a) Q E s:=by
 rcases g with⟨a9,k,e,ey,l⟩|⟨a9,k,b,e,ey,eb,l⟩
 .subst ey;let⟨z,hd,vs,rel,dd⟩:=KW I.b9 e;refine wpAny_in_of (w_ ry) hd dd.mapOf ?_;rw[<-(rel.val k).j?,<-l];exact h _<|I.tok _
 .subst ey;cases (ry);let⟨z,hd,xs,rel,dd⟩:=KP I.b9 e;refine wpAny_in_heap (C04 hu) (yE I.b9 eb) hd dd ?_;have q:=(rel.val k).j?;rw[C03]at q;rw[<-q,<-l];exact h _<|I.tok _
theorem Oz(hu:A.units+1<cLine)(I:Inv X χ σ H s)(g:Lx H a y o)(ry:RelV y u)(h:∀s',Inv X χ σ H s'->Q (.bool<|!o.isSome) s'):
 EQ (model X.prog X.w) A (compareOp .NotIn u<|.ref a) Q E s:=by
 rcases g with⟨a9,k,e,ey,l⟩|⟨a9,k,b,e,ey,eb,l⟩
 .subst ey;let⟨z,hd,vs,rel,dd⟩:=KW I.b9 e;refine wpAny_notIn_of (w_ ry) hd dd.mapOf ?_;rw[<-(rel.val k).j?,<-l];exact h _<|I.tok _
 .subst ey;cases (ry);let⟨z,hd,xs,rel,dd⟩:=KP I.b9 e;refine wpAny_notIn_heap (C04 hu) (yE I.b9 eb) hd dd ?_;have q:=(rel.val k).j?;rw[C03]at q;rw[<-q,<-l];exact h _<|I.tok _
theorem y?(I:Inv X χ σ H s)(mu:W4 (H a))(hs:IN a s.heap h')(he:∃q,h'.get? a=AC q)(new:fD X.prog X.w (upd H a ob) h' a ob):
 Inv X χ σ (upd H a ob) {s with heap:=h',toks:=t'}:=
 I.write mu (.inl rfl) (λ b q hb z=>(hs.2 b hb).trans z) he new
theorem KY(z:a9.length<=sizeLine)(hd:(a==sysModules)=AT)(rel:KV a9 vs)(dd:h'.DictOf (e! P w) a vs):
 fD P w H' h' a (.dK a9):=⟨z,hd,vs,rel,dd⟩
theorem Hc(hu:A.units+1<cLine)(I:Inv X χ σ H s)(g:W? H a y v H')(ry:RelV y u)(rv:RelV v r)(h:∀s',Inv X χ σ H' s'->Q () s'):
 EQ (model X.prog X.w) A (setItem (.ref a) u r) Q E s:=by
 rcases g with⟨a9,k,e,ey,l,eH⟩|⟨a9,k,b,e,ey,eb,l,eH⟩
 .subst ey eH;let⟨z,hd,vs,rel,dd⟩:=PN I.b9 e;have hz:vs.length<=sizeLine:=by rw[<-rel.length];exact z
  have hl:(putK a9 k v).length<=sizeLine:=by have:=rC a9 k v;lia
  refine wpAny_setItem_pairs (w_ ry) dd λ h' PQ hs=>h _ ?_;have he:∃q,h'.get? a=AC q:=let ⟨q,_,_,hq,_⟩:=PQ;⟨q,hq⟩;exact y? I (by rw[e];exact IR) hs he<|KY hl hd (rel.put k rv) PQ
 .subst ey eH;cases (ry);let⟨z,hd,xs,rel,dd⟩:=rM I.b9 e;have hz:xs.length<=sizeLine:=by rw[<-B45 rel];exact z
  have hl:(putK a9 k v).length<=sizeLine:=by have:=rC a9 k v;lia
  refine wpAny_setItem_heap (C04 hu) (yE I.b9 eb) dd λ h' PQ hs=>h _ ?_;let⟨q,es,ep,hq,h2,h3,h4,_,h5⟩:=PQ;refine y? I (by rw[e];exact IR) hs ⟨q,hq⟩ ⟨hl,hd,_,(rel.put k eb rv).keeps λ c ys ec=>?_,q,es,ep,hq,h2,h3,h4,h5⟩;rw[aG<|Pf ec e λ z=>nomatch z];exact ec
end
section
variable{X:Cx}{σ:St}{H:Hp}{s:η}{a:δ}{a9:γ (Key×V)}{k:Key}{u:ζ}{A:ς}{E:ζ->η->Prop}
theorem WC(I:Inv X χ σ H s)(e:H a=AC (.dK a9))(ry:RelV (kV k) u)(l:qj a9 k=AC v)(hm:more=[]\/∃x,more=[x])
 (h:∀w' s',Inv X χ σ (upd H a<|.dK<|iD a9 k) s'->RelV v w'->Q w' s'):EQ (model X.prog X.w) A (call (.builtin "dict.pop")<|.ref a::u::more) Q E s:=by
 let⟨z,hd,vs,rel,dd⟩:=PN I.b9 e;let⟨w',hw,Mw⟩:=lJ.some_of (v:=v) (o:=valueAt vs k) (by rw[<-l];exact rel.val k);have hp:(keyPart u).isSome=Ch:=by
  cases k with
  |inl i=>obtain⟨t,q⟩:=(ry);subst q;rfl
  |inr x=>obtain⟨t,q⟩:=(ry);subst q;rfl
 have ha:argsOk "dict.pop" ⟨.ref a::u::more,[]⟩:=by
  rcases hm with q|⟨x,q⟩
  .subst q;exact PySem.F.args_dict_pop_2 _ _
  .subst q;exact PySem.F.args_dict_pop_3 _ _ _
 refine call_meetsIn C48 dd.typeIs PySem.F.entry_dict_pop ha (meets_dict_pop_there _ a (w_ ry) more hm hp)
  ⟨vs,w',dd,by rw[<-rel.length];exact z,hw,λ h' PQ hs=>h w' _ ?_ Mw⟩
 have he:∃q,h'.get? a=AC q:=let ⟨q,_,_,hq,_⟩:=PQ;⟨q,hq⟩;exact y? I (by rw[e];exact IR) hs he<|KY (A13 (KR a9 k) z) hd (rel.drop k) PQ
end
def Y!(ty td:TE):TE:=λ σ H Q=>ty σ H λ y H1=>td σ H1 λ x H2=>∃a o,x=.ref a/\Lx H2 a y o/\Q (.bl o.isSome) H2
def Me(ty td:TE):TE:=λ σ H Q=>ty σ H λ y H1=>td σ H1 λ x H2=>∃a o,x=.ref a/\Lx H2 a y o/\Q (.bl<|!o.isSome) H2
def Uo(td ty tv:TE):TS:=λ D σ H=>tv σ H λ v H1=>td σ H1 λ x H2=>ty σ H2 λ y H3=>∃a H4,x=.ref a/\W? H3 a y v H4/\D.nx σ H4
section
variable{X:Cx}{o i e value:ι}{pos pos' adf:Pos}{td ty tv:TE}
theorem QN(hu:X.A.units+1<cLine)(hi:PE X i ty)(ho:PE X o td):PC X .In i o (Y! ty td):=by intro χ s σ H Q I h;refine cA (hi χ s σ H _ I h) λ iv s1 ⟨y,H1,I1,ry,q1⟩=>cA (ho χ s1 σ H1 _ I1 q1) ?_;rintro u s2 ⟨x,H2,I2,rx,a,ov,ex,g,q2⟩;subst ex;obtain rfl:u=Value.ref a:=rx;exact aaL hu I2 g ry λ s3 I3=>⟨.bl _,H2,I3,rfl,q2⟩
theorem F?(hu:X.A.units+1<cLine)(hi:PE X i ty)(ho:PE X o td):PC X .NotIn i o (Me ty td):=by intro χ s σ H Q I h;refine cA (hi χ s σ H _ I h) λ iv s1 ⟨y,H1,I1,ry,q1⟩=>cA (ho χ s1 σ H1 _ I1 q1) ?_;rintro u s2 ⟨x,H2,I2,rx,a,ov,ex,g,q2⟩;subst ex;obtain rfl:u=Value.ref a:=rx;exact Oz hu I2 g ry λ s3 I3=>⟨.bl _,H2,I3,rfl,q2⟩
theorem MC(hu:X.A.units+1<cLine)(ho:PE X o td)(hi:PE X i ty)(hv:PE X value tv)(hs:swapsWith value (AC<|.Subscript o i pos') pos.line X.env=pure AT):
 PS X (.Assign [.Subscript o i pos'] value pos) (Uo td ty tv):=by
 intro χ s σ H D I h;refine wpAny_Assign_Subscript (cA (hv χ s σ H _ I h) λ r s1 ⟨v,H1,I1,rv,q1⟩=>cA (ho χ s1 σ H1 _ I1 q1) λ u s2 ⟨x,H2,I2,rx,q2⟩=>cA (hi χ s2 σ H2 _ I2 q2) ?_) hs;rintro iv s3 ⟨y,H3,I3,ry,a,H4,ex,g,q3⟩;subst ex;obtain rfl:u=Value.ref a:=rx;exact Hc hu I3 g ry rv λ s4 I4=>⟨σ,H4,I4,q3⟩
end
theorem KZ(h:ν)(hb:sysModules<h.objs.size):fD P w H (h.push {cls:=.type "dict",data:=.dict #[]}) h.objs.size (.dK []):=
 ⟨A51 _,A71.mpr<|A05<|A12 hb,[],.nil,Heap.DictOf.new h⟩
def Qk:TE:=λ _ H Q=>∀p,H p=At->Q (.ref p) (upd H p<|.dK [])
theorem I_:PE X (.Dict [] [] pos) Qk:=λ χ s σ H Q I h=>wpAny_Dict_empty ⟨.ref _,_,I.laid (λ _ _ q=>v6 _ q) (v4 _)<|KZ _ I.big,rfl,h _<|I.b9.fresh<|v4 _⟩
end L2
set_option genSizeOf true
namespace Z
inductive D where
|non
|bl (b:Bool)
|int (i:Int)
|str (cs:List Nat)
|tup (xs:List D)
|lst (xs:List D)
|dct (ks:List (Sum Int<|List Nat)) (vs:List D)
inductive Res(α:Type) where
|ok (a:α)
|bad
namespace Res
def bind{α β:Type}(r:Res α)(f:α->Res β):Res β:=
 match r with
 |ok a=>f a
 |bad=>bad
@[simp] theorem mH(a:α)(f:α->Res β):(Res.ok a).bind f=f a:=rfl
@[simp] theorem WM(f:α->Res β):(Res.bad).bind f=bad:=rfl
def map{α β:Type}(f:α->β)(r:Res α):Res β:=
 match r with
 |ok a=>ok<|f a
 |bad=>bad
@[simp] theorem Z4(a:α)(f:α->β):(Res.ok a).map f=ok (f a):=rfl
@[simp] theorem X9(f:α->β):(Res.bad).map f=bad:=rfl
theorem av{f:α->Res β}(h:r.bind f=ok b):∃a,r=ok a/\f a=ok b:=by
 cases r with
 |ok a=>exact⟨a,rfl,h⟩
 |bad=>cases h
end Res
open Classical in
def guard{α:Type}(p:Prop)(r:Res α):Res α:=if p then r else .bad
@[simp] theorem guard_true(r:Res α):guard True r=r:=by exact M2 trivial
theorem guard_pos{r:Res α}(h:p):guard p r=r:=by exact M2 h
theorem b7{a:α}(h:guard p r=.ok a):p/\r=.ok a:=by
 unfold guard at h;split at h
 .rename_i q;exact⟨q,h⟩
 .cases h
inductive L where
|val (d:D)
|own (xs:List D)
|bor (d:D)
|dc (k:List (List Int) ⊕ List (List Nat×List Nat))
|G3 (ks:List (List Int))
|RA (ps:List (Int×Int))
|exc (c:List Nat×List (List Nat×D))
abbrev DK:=γ (γ Int) ⊕ γ (γ Nat×γ Nat)
abbrev Env:=γ<|ε L
abbrev EF:=Env->Res D
abbrev LF:=Env->Res (γ D)
abbrev TF:=Env->Res Bool
abbrev AF:=Env->Res (γ D)
inductive Fl where
|nx (ρ:Env)
|rt (d:D)
|bk (ρ:Env)
|ct (ρ:Env)
abbrev SF:=Env->Res Fl
abbrev GF:=D->Env->Res Env
abbrev line:Nat:=16777216
def cV:γ (γ Nat):=[[104,97,108,108],[103,117,101,115,116,115],[104,101,108,100],[112,108,97,99,101,115]]
def fR(a kd:Nat)(ks:γ (γ Nat))(vs:γ D):D:=.dct (.inl a::.inl kd::ks.map .inr) vs
def eC(d:D)(_:Env):Res D:=.ok d
def eV(i:Nat)(ρ:Env):Res D:=match ρ[i]? with
|some<|some<|.val d=>.ok d
|_=>.bad
def eW(i:Nat)(ρ:Env):Res D:=match ρ[i]? with
|some<|some<|.val d=>.ok d
|some<|some<|.own xs=>.ok<|.lst xs
|some<|some<|.bor<|.lst xs=>.ok<|.lst xs
|_=>.bad
def eB(op:D->D->Res D)(a b:EF)(ρ:Env):Res D:=(a ρ).bind λ x=>(b ρ).bind λ y=>op x y
def eU(op:D->Res D)(a:EF)(ρ:Env):Res D:=(a ρ).bind op
def uM(a b:EF)(ρ:Env):Res D:=(a ρ).bind λ x=>match x with
|.bl c=>if c then b ρ else .ok (.bl AT)
|_=>.bad
def Tv(a b:EF)(ρ:Env):Res D:=(a ρ).bind λ x=>match x with
|.bl c=>if c then .ok (.bl Ch)else b ρ
|_=>.bad
def Oh(a:EF)(ρ:Env):Res D:=(a ρ).bind λ x=>match x with
|.bl c=>.ok<|.bl !c
|_=>.bad
def iH(op Gg:D->D->Res D)(a b c:EF)(ρ:Env):Res D:=(a ρ).bind λ x=>(b ρ).bind λ y=>(op x y).bind λ z=>match z with
|.bl k=>if k then(c ρ).bind λ w=>Gg y w else .ok (.bl AT)
|_=>.bad
def YB(t:TF)(a b:EF)(ρ:Env):Res D:=(t ρ).bind λ c=>if c then a ρ else b ρ
def eL(l:LF)(ρ:Env):Res D:=(l ρ).map D.lst
def aC(_:Env):Res (γ D):=.ok []
def aa(a:EF)(r:AF)(ρ:Env):Res (γ D):=(a ρ).bind λ x=>(r ρ).bind λ xs=>.ok<|x::xs
def b?(as:AF)(ρ:Env):Res (γ D):=(as ρ).bind λ xs=>guard (xs.length<=line)<|.ok xs
def eE(as:AF)(ρ:Env):Res D:=(as ρ).bind λ xs=>guard (xs.length<=line)<|.ok<|.tup xs
def aD(f:γ D->Res D)(as:AF)(ρ:Env):Res D:=(as ρ).bind f
def tE(a:EF)(ρ:Env):Res Bool:=(a ρ).bind λ x=>match x with
|.bl c=>.ok c
|_=>.bad
def vw(a b:TF)(ρ:Env):Res Bool:=(a ρ).bind λ c=>if c then b ρ else .ok AT
def BM(a b:TF)(ρ:Env):Res Bool:=(a ρ).bind λ c=>if c then .ok Ch else b ρ
def fZ(a:TF)(ρ:Env):Res Bool:=(a ρ).bind λ c=>.ok !c
def bits(a:Int):Nat:=if a=0 then 0 else a.natAbs.log2+1
def bK:D->D->Res D
|.int a,.int b=>.ok<|.int<|a+b
|.str a,.str b=>guard (a.length+b.length<=line)<|.ok<|.str<|a++b
|.tup a,.tup b=>guard (a.length+b.length<=line)<|.ok<|.tup<|a++b
|_,_=>.bad
def qB:D->D->Res D
|.int a,.int b=>.ok<|.int<|a-b
|_,_=>.bad
def bW(a b:Int):Prop:=((-18446744073709551616<a/\a<18446744073709551616)\/(-18446744073709551616<b/\b<18446744073709551616)\/(bits a<=16777216/\bits b<=16777216))
def fP:D->D->Res D
|.int a,.int b=>guard (bW a b)<|.ok<|.int<|a*b
|_,_=>.bad
def iU(b:Int):Prop:=0<b/\b<1809251394333065553493296640760748560207343510400633813116524750123642650624
def oDiv:D->D->Res D
|.int a,.int b=>guard (iU b)<|.ok<|.int<|a / b
|_,_=>.bad
def oMod:D->D->Res D
|.int a,.int b=>guard (0<b)<|.ok<|.int<|a % b
|_,_=>.bad
def mY:D->D->Res D
|.int a,.int b=>guard (0<=b/\b<=1000000/\a.natAbs<2^64)<|.ok<|.int<|a^b.toNat
|_,_=>.bad
def Jo:D->Res D
|.int a=>.ok<|.int<|-a
|_=>.bad
def Hy:γ Nat->γ Nat->Bool
|[],[]=>AT
|[],_::_=>Ch
|_::_,[]=>AT
|a::as,b::bs=>if a<b then Ch else if a=b then Hy as bs else AT
def oLt:D->D->Res D
|.int a,.int b=>.ok<|.bl<|decide<|a<b
|_,_=>.bad
def oLe:D->D->Res D
|.int a,.int b=>.ok<|.bl<|decide<|a<=b
|.str a,.str b=>.ok<|.bl<|!(Hy b a)
|_,_=>.bad
def Gm:D->D->Res D
|.int a,.int b=>.ok<|.bl<|decide<|b<a
|_,_=>.bad
def S?:D->D->Res D
|.int a,.int b=>.ok<|.bl<|decide<|b<=a
|_,_=>.bad
def Ts:D->D->ε Bool
|.non,.non=>AC Ch
|.bl a,.bl b=>AC<|a==b
|.bl a,.int b=>AC<|(if a then 1 else 0)==b
|.int a,.bl b=>AC<|a==(if b then 1 else 0)
|.int a,.int b=>AC<|a==b
|.str a,.str b=>AC<|a==b
|.non,.bl _=>AC AT
|.non,.int _=>AC AT
|.non,.str _=>AC AT
|.bl _,.non=>AC AT
|.bl _,.str _=>AC AT
|.int _,.non=>AC AT
|.int _,.str _=>AC AT
|.str _,.non=>AC AT
|.str _,.bl _=>AC AT
|.str _,.int _=>AC AT
|_,_=>At
def allEq(f:D->D->ε Bool):γ D->γ D->ε Bool
|[],[]=>AC Ch
|[],_::_=>AC AT
|_::_,[]=>AC AT
|a::as,b::bs=>match f a b,allEq f as bs with
 |some x,AC y=>AC<|x&&y
 |_,_=>At
def iC:Nat->D->D->ε Bool
|n+1,.tup a,.tup b=>allEq (iC n) a b
|n+1,.lst a,.lst b=>allEq (iC n) a b
|_,.tup _,.lst _=>AC AT
|_,.lst _,.tup _=>AC AT
|_,.tup _,.non=>AC AT
|_,.tup _,.bl _=>AC AT
|_,.tup _,.int _=>AC AT
|_,.tup _,.str _=>AC AT
|_,.non,.tup _=>AC AT
|_,.bl _,.tup _=>AC AT
|_,.int _,.tup _=>AC AT
|_,.str _,.tup _=>AC AT
|_,.lst _,.non=>AC AT
|_,.lst _,.bl _=>AC AT
|_,.lst _,.int _=>AC AT
|_,.lst _,.str _=>AC AT
|_,.non,.lst _=>AC AT
|_,.bl _,.lst _=>AC AT
|_,.int _,.lst _=>AC AT
|_,.str _,.lst _=>AC AT
|_,x,y=>Ts x y
def kB:D->D->ε Bool:=iC 6
def oEq(a b:D):Res D:=match kB a b with
|some x=>.ok<|.bl x
|none=>.bad
def oR(a b:D):Res D:=match kB a b with
|some x=>.ok<|.bl !x
|none=>.bad
def gD:D->Res D
|.non=>.ok<|.bl Ch
|_=>.ok<|.bl AT
def lY:D->Res D
|.non=>.ok<|.bl AT
|_=>.ok<|.bl Ch
def pz:D->D->Res D
|.str [c],.str t=>.ok<|.bl<|!(t.contains c)
|_,_=>.bad
def gq(x:D):γ D->ε Bool
|[]=>AC AT
|y::r=>match kB y x,gq x r with
 |some a,AC b=>AC<|a||b
 |_,_=>At
def yt:D->D->Res D
|x,.tup ys=>match gq x ys with
 |some b=>.ok<|.bl b
 |none=>.bad
|x,.lst ys=>match gq x ys with
 |some b=>.ok<|.bl b
 |none=>.bad
|_,_=>.bad
def kK:D->D->Res D
|x,.tup ys=>match gq x ys with
 |some b=>.ok<|.bl !b
 |none=>.bad
|x,.lst ys=>match gq x ys with
 |some b=>.ok<|.bl !b
 |none=>.bad
|_,_=>.bad
def cQ:D->Res D
|.str t=>guard (t.length<=line)<|.ok<|.int t.length
|.tup xs=>.ok<|.int xs.length
|.lst xs=>.ok<|.int xs.length
|_=>.bad
inductive Ty where
|bool|int|str|tuple|list|dict
def eI:Ty->D->Bool
|.bool,.bl _=>Ch
|.int,.bl _=>Ch
|.int,.int _=>Ch
|.str,.str _=>Ch
|.tuple,.tup _=>Ch
|.list,.lst _=>Ch
|.dict,.dct _ _=>Ch
|_,_=>AT
theorem tyR:eI .bool .non=AT/\(∀a,eI .bool (.bl a)=Ch)/\(∀a,eI .bool (.int a)=AT)/\(∀a,eI .bool (.str a)=AT)/\(∀a,eI .bool (.tup a)=AT)/\(∀a,eI .bool (.lst a)=AT)/\(∀a b,eI .bool (.dct a b)=AT)/\eI .int .non=AT/\(∀a,eI .int (.bl a)=Ch)/\(∀a,eI .int (.int a)=Ch)/\(∀a,eI .int (.str a)=AT)/\(∀a,eI .int (.tup a)=AT)/\(∀a,eI .int (.lst a)=AT)/\(∀a b,eI .int (.dct a b)=AT)/\eI .str .non=AT/\(∀a,eI .str (.bl a)=AT)/\(∀a,eI .str (.int a)=AT)/\(∀a,eI .str (.str a)=Ch)/\(∀a,eI .str (.tup a)=AT)/\(∀a,eI .str (.lst a)=AT)/\(∀a b,eI .str (.dct a b)=AT)/\eI .tuple .non=AT/\(∀a,eI .tuple (.bl a)=AT)/\(∀a,eI .tuple (.int a)=AT)/\(∀a,eI .tuple (.str a)=AT)/\(∀a,eI .tuple (.tup a)=Ch)/\(∀a,eI .tuple (.lst a)=AT)/\(∀a b,eI .tuple (.dct a b)=AT):=by and_intros<;>intros<;>rfl
def j'(t:Ty)(x:D):Res D:=.ok<|.bl<|eI t x
def xf(n:Nat)(i:Int):ε Nat:=if 0<=i then(if i<n then AC i.toNat else At)else if -(n:Int)<=i then AC (i+n).toNat else At
def aR:D->D->Res D
|.tup xs,.int i=>match (xf xs.length i).bind λ j=>xs[j]? with
 |some v=>.ok v
 |none=>.bad
|.lst xs,.int i=>match (xf xs.length i).bind λ j=>xs[j]? with
 |some v=>.ok v
 |none=>.bad
| .str cs,.int i=>guard (cs.length<=line) (match (xf cs.length i).bind λ j=>cs[j]? with
 |some c=>.ok<|.str [c]
 | none=>.bad)
|_,_=>.bad
def d_(n d:Nat):ε Int->Nat
|none=>d
|some i=>if i<0 then(i+n).toNat else min i.toNat n
def cut{α:Type}(xs:γ α)(lo hi:ε Int):γ α:=(xs.drop<|d_ xs.length 0 lo).take<|d_ xs.length xs.length hi-d_ xs.length 0 lo
abbrev PF:=Env->Res (ε Int)
def MN(_:Env):Res (ε Int):=.ok At
def r8(a:EF)(ρ:Env):Res (ε Int):=(a ρ).bind λ x=>match x with
|.int i=>.ok<|some i
|_=>.bad
def S8:D->ε Int->ε Int->Res D
|.str cs,lo,hi=>guard (cs.length<=line)<|.ok<|.str<|cut cs lo hi
|.tup xs,lo,hi=>.ok<|.tup<|cut xs lo hi
|_,_,_=>.bad
def HF(a:EF)(lo hi:PF)(ρ:Env):Res D:=(a ρ).bind λ x=>(lo ρ).bind λ l=>(hi ρ).bind λ h=>S8 x l h
def Nu(a:EF)(lo hi:PF)(ρ:Env):Res (γ D):=(a ρ).bind λ x=>(lo ρ).bind λ l=>(hi ρ).bind λ h=>match x with
|.lst xs=>.ok<|cut xs l h
|_=>.bad
def GG(a b:EF)(ρ:Env):Res (γ D):=(a ρ).bind λ x=>(b ρ).bind λ y=>match x,y with
|.lst xs,.lst ys=>guard (xs.length+ys.length<=line)<|.ok<|xs++ys
|_,_=>.bad
def allB:γ D->ε Bool
|[]=>AC Ch
|.bl b::r=>(allB r).map (b&&·)
|_::_=>At
def jz:D->Res D
|.lst xs=>match allB xs with
 |some b=>.ok<|.bl b
 |none=>.bad
|_=>.bad
def nF:D->Res (γ D)
|.tup xs=>.ok xs
|.lst xs=>.ok xs
|.str cs=>.ok<|cs.map λ c=>.str [c]
|_=>.bad
def eJ(a:EF)(ρ:Env):Res (γ D):=(a ρ).bind nF
def zints(lo:Int)(n:Nat):γ D:=(Ev n).map λ i=>D.int<|lo+(i:Nat)
def fT(a:EF)(ρ:Env):Res (γ D):=(a ρ).bind λ x=>match x with
|.int j=>.ok<|zints 0 j.toNat
|_=>.bad
def A0(a b:EF)(ρ:Env):Res (γ D):=(a ρ).bind λ x=>(b ρ).bind λ y=>match x,y with
|.int i,.int j=>.ok<|zints i (j-i).toNat
|_,_=>.bad
def aW(i:Nat)(d:D)(ρ:Env):Res Env:=.ok<|ρ.set i<|some<|.val d
def iG:γ Nat->γ D->Env->Res Env
|[],[],ρ=>.ok ρ
|i::is,d::ds,ρ=>iG is ds<|ρ.set i<|some<|.val d
|_,_,_=>.bad
def iA(is:γ Nat)(d:D)(ρ:Env):Res Env:=match d with
|.tup ds=>iG is ds ρ
|_=>.bad
def nL(ρ:Env)(i:Nat):ε L:=match ρ[i]? with
|some<|some<|.val d=>AC<|.val d
|some<|some<|.bor d=>AC<|.bor d
|some<|some<|.G3 ks=>AC<|.G3 ks
|_=>At
def fi(ρ:Env)(is:γ Nat):Env:=is.map<|nL ρ
def bY(g:GF)(t:TF)(e:EF)(ρ:Env):γ D->Res (γ D)
|[]=>.ok []
|d::r=>(g d ρ).bind λ ρ1=>(t ρ1).bind λ c=>if c then(e ρ1).bind λ y=>(bY g t e ρ r).bind λ ys=>.ok (y::ys)else bY g t e ρ r
def bS(it:LF)(n:Nat)(is:γ Nat)(g:GF)(t:TF)(e:EF)(ρ:Env):Res (γ D):=(it ρ).bind λ ds=>guard (ds.length<=line)<|bY g t e (Do n At++fi ρ is) ds
def bZ(_:Env):Res Bool:=.ok Ch
def bw(ρ:Env):Res Fl:=.ok<|.nx ρ
def aS(a b:SF)(ρ:Env):Res Fl:=(a ρ).bind λ fl=>match fl with
|.nx ρ'=>b ρ'
|o=>.ok o
def bc(i:Nat)(e:EF)(ρ:Env):Res Fl:=(e ρ).bind λ d=>.ok<|.nx<|ρ.set i<|some<|.val d
def nS(i:Nat)(e:LF)(ρ:Env):Res Fl:=(e ρ).bind λ xs=>.ok<|.nx<|ρ.set i<|some<|.own xs
def Mv(e:EF)(g:GF)(ρ:Env):Res Fl:=(e ρ).bind λ d=>(g d ρ).bind λ ρ'=>.ok<|.nx ρ'
def gU(t:TF)(a b:SF)(ρ:Env):Res Fl:=(t ρ).bind λ c=>if c then a ρ else b ρ
def a7(e:EF)(ρ:Env):Res Fl:=(e ρ).bind λ d=>.ok<|.rt d
def fF(i:Nat)(ρ:Env):Env:=match ρ[i]? with
|some<|some<|.own xs=>ρ.set i<|some<|.val<|.lst xs
|_=>ρ
def t9(i:Nat)(a:SF)(ρ:Env):Res Fl:=a<|fF i ρ
def dW(i:Nat)(e:EF)(ρ:Env):Res Fl:=(e ρ).bind λ d=>match ρ[i]? with
|some<|some<|.own xs=>guard (xs.length<line)<|.ok<|.nx<|ρ.set i<|some<|.own<|xs++[d]
|_=>.bad
def e_(g:GF)(b:SF):γ D->Env->Res Fl
|[],ρ=>.ok<|.nx ρ
|d::r,ρ=>(g d ρ).bind λ ρ1=>(b ρ1).bind λ fl=>match fl with
 |.nx ρ'=>e_ g b r ρ'
 |.ct ρ'=>e_ g b r ρ'
 |.bk ρ'=>.ok<|.nx ρ'
 |.rt d=>.ok<|.rt d
def i9(it:LF)(g:GF)(b:SF)(ρ:Env):Res Fl:=(it ρ).bind λ ds=>e_ g b ds ρ
def start(n:Nat)(ds:γ D):Env:=ds.map (λ d=>AC<|.val d)++Do (n-ds.length) At
def fn(ps n:Nat)(b:SF)(ds:γ D):Res D:=if ds.length=ps then(match b (start n ds)with
|.ok<|.rt d=>.ok d
|.ok<|.nx _=>.ok .non
| _=>.bad)else .bad
def sh:Bool->D->L
|true,.lst xs=>.bor<|.lst xs
|true,.dct ks vs=>.bor<|.dct ks vs
|_,d=>.val d
def startB(n:Nat)(bs:γ Bool)(ds:γ D):Env:=(ac (λ b d=>AC<|sh b d) bs ds)++Do (n-ds.length) At
def A9(bs:γ Bool)(n:Nat)(b:SF)(ds:γ D):Res D:=if ds.length=bs.length then(match b (startB n bs ds)with
|.ok<|.rt d=>.ok d
|.ok<|.nx _=>.ok .non
| _=>.bad)else .bad
end Z
open Z renaming Res.av→XV
set_option genSizeOf false
namespace Z
@[simp] theorem afI(d:D)(ρ:Env):eC d ρ=.ok d:=rfl
@[simp] theorem afJ(o:D->D->Res D)(a b:EF)(ρ:Env):eB o a b ρ=(a ρ).bind λ x=>(b ρ).bind λ y=>o x y:=rfl
@[simp] theorem afG(o:D->Res D)(a:EF)(ρ:Env):eU o a ρ=(a ρ).bind o:=rfl
@[simp] theorem afH(l:LF)(ρ:Env):eL l ρ=(l ρ).map D.lst:=rfl
@[simp] theorem aaU(ρ:Env):aC ρ=.ok []:=rfl
@[simp] theorem YJ(a:EF)(r:AF)(ρ:Env):aa a r ρ=(a ρ).bind λ x=>(r ρ).bind λ xs=>.ok (x::xs):=rfl
@[simp] theorem YC(f:γ D->Res D)(as:AF)(ρ:Env):aD f as ρ=(as ρ).bind f:=rfl
@[simp] theorem Xu(ρ:Env):bw ρ=.ok (.nx ρ):=rfl
@[simp] theorem Zh(i:Nat)(e:EF)(ρ:Env):bc i e ρ=(e ρ).bind λ d=>.ok (.nx<|ρ.set i<|some<|.val d):=rfl
@[simp] theorem Zj(i:Nat)(e:LF)(ρ:Env):nS i e ρ=(e ρ).bind λ d=>.ok (.nx<|ρ.set i<|some<|.own d):=rfl
@[simp] theorem Zi(e:EF)(ρ:Env):a7 e ρ=(e ρ).bind λ d=>.ok (.rt d):=rfl
@[simp] theorem abv(t:TF)(a b:SF)(ρ:Env):gU t a b ρ=(t ρ).bind λ c=>if c then a ρ else b ρ:=rfl
@[simp] theorem acK(t:TF)(a b:EF)(ρ:Env):YB t a b ρ=(t ρ).bind λ c=>if c then a ρ else b ρ:=rfl
@[simp] theorem Zm(it:LF)(g:GF)(b:SF)(ρ:Env):i9 it g b ρ=(it ρ).bind λ ds=>e_ g b ds ρ:=rfl
def Iz(b:SF):Fl->Res Fl
|.nx ρ'=>b ρ'
|o=>.ok o
@[simp] theorem Qn(a b:SF)(ρ:Env):aS a b ρ=(a ρ).bind (Iz b):=rfl
@[simp] theorem Xr(b:SF)(ρ:Env):Iz b (.nx ρ)=b ρ:=rfl
@[simp] theorem Xq(b:SF)(d:D):Iz b (.rt d)=.ok (.rt d):=rfl
@[simp] theorem Xt(b:SF)(ρ:Env):Iz b (.bk ρ)=.ok (.bk ρ):=rfl
@[simp] theorem Xs(b:SF)(ρ:Env):Iz b (.ct ρ)=.ok (.ct ρ):=rfl
def T4:D->Res Bool
|.bl c=>.ok c
|_=>.bad
@[simp] theorem adA(a:EF)(ρ:Env):tE a ρ=(a ρ).bind T4:=rfl
@[simp] theorem Xj(c:Bool):T4 (.bl c)=.ok c:=rfl
@[simp] theorem Xm(ρ:Env):bZ ρ=.ok Ch:=rfl
@[simp] theorem Zb(a b:TF)(ρ:Env):vw a b ρ=(a ρ).bind λ c=>if c then b ρ else .ok AT:=rfl
@[simp] theorem abn(a b:TF)(ρ:Env):BM a b ρ=(a ρ).bind λ c=>if c then .ok Ch else b ρ:=rfl
@[simp] theorem Y5(a:TF)(ρ:Env):fZ a ρ=(a ρ).bind λ c=>.ok !c:=rfl
def BE(f:Bool->Res D):D->Res D
|.bl c=>f c
|_=>.bad
@[simp] theorem WL(f:Bool->Res D)(c:Bool):BE f (.bl c)=f c:=rfl
@[simp] theorem aaF(a b:EF)(ρ:Env):uM a b ρ=(a ρ).bind (BE λ c=>if c then b ρ else .ok (.bl AT)):=rfl
@[simp] theorem acJ(a b:EF)(ρ:Env):Tv a b ρ=(a ρ).bind (BE λ c=>if c then .ok (.bl Ch)else b ρ):=rfl
@[simp] theorem aaE(a:EF)(ρ:Env):Oh a ρ=(a ρ).bind (BE λ c=>.ok<|.bl !c):=rfl
@[simp] theorem Wy(o o':D->D->Res D)(a b c:EF)(ρ:Env):iH o o' a b c ρ=(a ρ).bind λ x=>(b ρ).bind λ y=>(o x y).bind (BE λ k=>if k then(c ρ).bind λ w=>o' y w else .ok (.bl AT)):=rfl
@[simp] theorem U6(a b:Int):bK (.int a) (.int b)=.ok (.int<|a+b):=rfl
@[simp] theorem UQ(a b:Int):qB (.int a) (.int b)=.ok (.int<|a-b):=rfl
@[simp] theorem UT(a b:Int):fP (.int a) (.int b)=guard (bW a b) (.ok<|.int<|a*b):=rfl
@[simp] theorem U5(a b:Int):oDiv (.int a) (.int b)=guard (iU b) (.ok<|.int<|a / b):=rfl
@[simp] theorem UU(a b:Int):oMod (.int a) (.int b)=guard (0<b) (.ok<|.int<|a % b):=rfl
@[simp] theorem XO(a b:Int):oLt (.int a) (.int b)=.ok (.bl<|decide<|a<b):=rfl
@[simp] theorem XU(a b:Int):oLe (.int a) (.int b)=.ok (.bl<|decide<|a<=b):=rfl
@[simp] theorem XQ(a b:γ Nat):oLe (.str a) (.str b)=.ok (.bl<|!(Hy b a)):=rfl
@[simp] theorem XY(a b:Int):Gm (.int a) (.int b)=.ok (.bl<|decide<|b<a):=rfl
@[simp] theorem XZ(a b:Int):S? (.int a) (.int b)=.ok (.bl<|decide<|b<=a):=rfl
@[simp] theorem X4(a b:Int):oEq (.int a) (.int b)=.ok (.bl<|a==b):=rfl
@[simp] theorem ZU(a b:Bool):oEq (.bl a) (.bl b)=.ok (.bl<|a==b):=rfl
@[simp] theorem X3(a b:γ Nat):oEq (.str a) (.str b)=.ok (.bl<|a==b):=rfl
@[simp] theorem XM(a b:Int):oR (.int a) (.int b)=.ok (.bl<|!(a==b)):=rfl
@[simp] theorem ZR(a b:Bool):oR (.bl a) (.bl b)=.ok (.bl<|!(a==b)):=rfl
@[simp] theorem XJ(a b:γ Nat):oR (.str a) (.str b)=.ok (.bl<|!(a==b)):=rfl
@[simp] theorem UZ(a:γ Nat):cQ (.str a)=guard (a.length<=line) (.ok<|.int a.length):=rfl
@[simp] theorem UY(a:γ D):cQ (.tup a)=.ok (.int a.length):=rfl
@[simp] theorem U0(a:γ D):cQ (.lst a)=.ok (.int a.length):=rfl
@[simp] theorem XW(t:Ty)(x:D):j' t x=.ok (.bl<|eI t x):=rfl
@[simp] theorem abE(ρ:Env):MN ρ=.ok At:=rfl
def VA:D->Res (ε Int)
|.int i=>.ok<|some i
|_=>.bad
@[simp] theorem Vz(i:Int):VA (.int i)=.ok (AC i):=rfl
@[simp] theorem abF(a:EF)(ρ:Env):r8 a ρ=(a ρ).bind VA:=rfl
@[simp] theorem acI(a:EF)(lo hi:PF)(ρ:Env):HF a lo hi ρ=(a ρ).bind λ x=>(lo ρ).bind λ l=>(hi ρ).bind λ h=>S8 x l h:=rfl
@[simp] theorem _c(a:EF)(ρ:Env):eJ a ρ=(a ρ).bind nF:=rfl
def O_:D->Res (γ D)
|.int j=>.ok<|zints 0 j.toNat
|_=>.bad
@[simp] theorem Ye(a:EF)(ρ:Env):fT a ρ=(a ρ).bind O_:=rfl
@[simp] theorem S6(j:Int):O_ (.int j)=.ok (zints 0 j.toNat):=rfl
def O?:D->D->Res (γ D)
|.int i,.int j=>.ok<|zints i (j-i).toNat
|_,_=>.bad
@[simp] theorem Yd(a b:EF)(ρ:Env):A0 a b ρ=(a ρ).bind λ x=>(b ρ).bind λ y=>O? x y:=rfl
@[simp] theorem S5(i j:Int):O? (.int i) (.int j)=.ok (zints i (j-i).toNat):=rfl
@[simp] theorem Tb(xs:γ D):nF (.tup xs)=.ok xs:=rfl
@[simp] theorem Td(xs:γ D):nF (.lst xs)=.ok xs:=rfl
@[simp] theorem Tc(cs:γ Nat):nF (.str cs)=.ok (cs.map λ c=>.str [c]):=rfl
@[simp] theorem Yw(i:Nat)(d:D)(ρ:Env):aW i d ρ=.ok (ρ.set i<|some<|.val d):=rfl
theorem bu(it:LF)(n:Nat)(is:γ Nat)(g:GF)(t:TF)(e:EF)(ρ:Env):bS it n is g t e ρ=(it ρ).bind λ ds=>guard (ds.length<=line) (bY g t e (Do n At++fi ρ is) ds):=rfl
@[simp] theorem X'(as:AF)(ρ:Env):b? as ρ=(as ρ).bind λ xs=>guard (xs.length<=line) (.ok xs):=rfl
@[simp] theorem aaD(as:AF)(ρ:Env):eE as ρ=(as ρ).bind λ xs=>guard (xs.length<=line) (.ok<|.tup xs):=rfl
def bJ:Res Fl->Res D
|.ok<|.rt d=>.ok d
|.ok<|.nx _=>.ok .non
|_=>.bad
@[simp] theorem Xy(d:D):bJ (.ok<|.rt d)=.ok d:=rfl
@[simp] theorem Xz(ρ:Env):bJ (.ok<|.nx ρ)=.ok .non:=rfl
theorem cI(ps n:Nat)(b:SF)(ds:γ D)(h:ds.length=ps):fn ps n b ds=bJ (b<|start n ds):=by
 unfold fn;rw[M2 h];cases b _ with
 |bad=>rfl
 |ok f=>cases f<;>rfl
theorem dZ(h1:-18446744073709551616<a)(h2:a<18446744073709551616):bW a b:=by exact .inl ⟨h1,h2⟩
theorem f_(h1:-18446744073709551616<b)(h2:b<18446744073709551616):bW a b:=by exact .inr<|.inl ⟨h1,h2⟩
theorem bQ(h0:0<b)(h:b<1809251394333065553493296640760748560207343510400633813116524750123642650624):iU b:=⟨h0,h⟩
theorem uu(h0:0<=i)(h1:i<cs.length)(hl:cs.length<=line):∃c∈cs,aR (.str cs) (.int i)=.ok (.str [c]):=by
 have hj:i.toNat<cs.length:=by lia
 refine⟨cs[i.toNat],B27 hj,?_⟩;simp[aR,hl,xf,h0,h1]
theorem EX(h:(zints 0 n)[j]?=AC d):j<n/\d=.int (j):=by
 unfold zints at h;rw[A08]at h;cases q:(Ev n)[j]? with
 |none=>rw[q]at h;cases h
 |some i=>rw[q]at h;let⟨h1,h2⟩:=A07.mp q;rw[B28]at h1;rw[C05]at h2;subst h2;simp at h;exact⟨h1,h.symm⟩
@[simp] theorem gG(lo:Int)(n:Nat):(zints lo n).length=n:=by simp[zints]
theorem k9(xs:γ α)(lo hi:ε Int):(cut xs lo hi).length<=xs.length:=by unfold cut;rw[A24,B51];lia
theorem EM(h:x∈cut xs i j):x∈xs:=List.mem_of_mem_drop<|C06 h
@[simp] theorem abN(xs:γ D)(a:EF)(lo hi:PF)(ρ:Env)(h:a ρ=.ok (.lst xs)):Nu a lo hi ρ=(lo ρ).bind λ l=>(hi ρ).bind λ h=>.ok (cut xs l h):=by unfold Nu;rw[h];rfl
theorem uW:∀ds,(∀d∈ds,(g d ρ).bind e=.ok (h d))->bY g bZ e ρ ds=.ok (ds.map h)
|[],_=>rfl
|d::ds,k=>by have h1:=k d A11;have h2:=uW ds λ x hx=>k x<|A09 _ hx;let⟨ρ1,e1,e2⟩:=Res.av h1;simp[bY,e1,e2,h2]
theorem nK:∀ds,(∀d∈ds,∃ρ1,g d ρ=.ok ρ1/\t ρ1=.ok (p d)/\(p d=Ch->e ρ1=.ok (h d)))->bY g t e ρ ds=.ok ((ds.filter p).map h)
|[],_=>rfl
|d::ds,k=>by
 let⟨ρ1,e1,e2,e3⟩:=k d A11;have h2:=nK ds λ x hx=>k x<|A09 _ hx;cases hp:p d with
 |true=>simp[bY,e1,e2,hp,e3 hp,h2]
 |false=>simp[bY,e1,e2,hp,h2]
theorem zk:∀(bs:γ Bool),allB (bs.map D.bl)=AC (bs.all id)
|[]=>rfl
|b::bs=>by simp[allB,zk bs]
@[simp high] theorem gt0(a:α)(l:γ α):(a::l)[0]?=AC a:=rfl
@[simp high] theorem gtS(a:α)(l:γ α)(n:Nat):(a::l)[n+1]?=l[n]?:=rfl
@[simp high] theorem Hw(a x:α)(l:γ α):(a::l).set 0 x=x::l:=rfl
@[simp high] theorem stS(a x:α)(l:γ α)(n:Nat):(a::l).set (n+1) x=a::l.set n x:=rfl
end Z
namespace ZS
open L2
abbrev Fl(X:Cx)(x:Str):Prop:=X.fn x=Ch\/X.env.scope.names.lookup x=AC .local
end ZS
local macro_rules
| `(tactic|trivial)=>`(tactic|first|exact AC8 rfl|exact ol rfl)
open ZS (Fl)
namespace ZS
open L2
abbrev St:=L2.St
def GH:Sum Int (γ Nat)->Key
|.inl i=>.inl i
|.inr cs=>.inr ⟨cs.toArray⟩
def P4(K:Da)(H:Hp)(a:δ)(xs:γ V):Prop:=
 (∃ o,H a=AC (.fF o<|.lst xs)) \/
  ∃(o:μ)(bq:Array ζ)(n:Nat),K.lookup a=AC o/\o.cls=.type "list" /\ o.dict=At/\o.data=.seq bq n/\bq.size<=sizeLine/\Vals xs bq.toList
theorem P4.sq{K:Da}(h:P4 K H a xs):jw K H a xs:=by
 rcases h with⟨o,h⟩|h
 .exact .inl<|.inr ⟨o,h⟩
 .exact .inr h
structure g0(H H':Hp):Prop where
 tup:∀a xs,H a=AC (.tup xs)->H' a=AC (.tup xs)
 fF:∀a o u,H a=AC (.fF o u)->H' a=AC (.fF o u)
theorem g0.refl(H:Hp):g0 H H:=⟨λ _ _ h=>h,λ _ _ _ h=>h⟩
theorem g0.trans{H H1 H2:Hp}(a:g0 H H1)(b:g0 H1 H2):g0 H H2:=⟨λ c xs h=>b.tup c xs<|a.tup c xs h,λ c o u h=>b.fF c o u<|a.fF c o u h⟩
theorem ky(s:aJ H H'):g0 H H':=⟨λ _ _ h=>s _ _ h,λ _ _ _ h=>s _ _ h⟩
theorem mC(h:H p=AC o)(n1:∀xs,o≠.tup xs)(n2:∀ob x,o≠.fF ob x):g0 H (upd H p u):=
 ⟨λ a xs e=>by rw[aG (by rintro rfl;rw[h]at e;exact n1 xs<|A04 e)];exact e,λ a ob x e=>by rw[aG (by rintro rfl;rw[h]at e;exact n2 ob x<|A04 e)];exact e⟩
theorem jF(h:H p=AC (.lst xs)):g0 H (upd H p u):=mC h (λ _ z=>nomatch z) λ _ _ z=>nomatch z
theorem P4.mono{K:Da}(e:g0 H H')(h:P4 K H a xs):P4 K H' a xs:=by
 rcases h with⟨o,h⟩|h
 .exact .inl ⟨o,e.fF _ _ _ h⟩
 .exact .inr h
theorem fS{K:Da}(e:g0 H H')(h:mV K H a xs):mV K H' a xs:=by
 rcases h with(h|⟨o,h⟩)|h
 .exact .inl<|.inl<|e.tup _ _ h
 .exact .inl<|.inr ⟨o,e.fF _ _ _ h⟩
 .exact .inr h
mutual
def Den(K:Da)(H:Hp):Z.D->V->Prop
|.non,v=>v=.non
|.bl b,v=>v=.bl b
|.int i,v=>v=.int i
|.str cs,v=>v=.str ⟨cs.toArray⟩
|.tup ds,v=>∃a vs,v=.ref a/\mV K H a vs/\aE K H ds vs
|.lst ds,v=>∃a vs,v=.ref a/\P4 K H a vs/\aE K H ds vs
|.dct ks ds,v=>∃a o a9,v=.ref a/\H a=AC (.fF o<|.dK a9)/\a9.map (·.1)=ks.map GH/\aE K H ds (a9.map (·.2))/\∀i r,ks≠.inl i::r
def aE(K:Da)(H:Hp):γ Z.D->γ V->Prop
|[],vs=>vs=[]
|d::ds,vs=>∃v r,vs=v::r/\Den K H d v/\aE K H ds r
end
section
variable{K:Da}{H H':Hp}
mutual
theorem Den.mono(e:g0 H H'):∀(d:Z.D)(v:V),Den K H d v->Den K H' d v
|.non,v,h=>by simp only[Den]at h ⊢;exact h
|.bl b,v,h=>by simp only[Den]at h ⊢;exact h
|.int i,v,h=>by simp only[Den]at h ⊢;exact h
|.str cs,v,h=>by simp only[Den]at h ⊢;exact h
|.tup ds,v,h=>by simp only[Den]at h ⊢;let⟨a,vs,e1,q,r⟩:=h;exact⟨a,vs,e1,fS e q,aE.mono e ds vs r⟩
|.lst ds,v,h=>by simp only[Den]at h ⊢;let⟨a,vs,e1,q,r⟩:=h;exact⟨a,vs,e1,q.mono e,aE.mono e ds vs r⟩
|.dct ks ds,v,h=>by simp only[Den]at h ⊢;let⟨a,o,a9,e1,q,k,r,n⟩:=h;exact⟨a,o,a9,e1,e.fF _ _ _ q,k,aE.mono e ds _ r,n⟩
theorem aE.mono(e:g0 H H'):∀(ds:γ Z.D)(vs:γ V),aE K H ds vs->aE K H' ds vs
|[],vs,h=>by simp only[aE]at h ⊢;exact h
|d::ds,vs,h=>by simp only[aE]at h ⊢;let⟨v,r,e1,q,t⟩:=h;exact⟨v,r,e1,Den.mono e d v q,aE.mono e ds r t⟩
end
theorem Den.up(h:Den K H d v)(e:aJ H H'):Den K H' d v:=Den.mono (ky e) d v h
theorem Den.ups(h:Den K H d v)(e:g0 H H'):Den K H' d v:=Den.mono e d v h
theorem aE.ups(h:aE K H ds vs)(e:g0 H H'):aE K H' ds vs:=aE.mono e ds vs h
theorem aE.up(h:aE K H ds vs)(e:aJ H H'):aE K H' ds vs:=aE.mono (ky e) ds vs h
theorem aE.nil:aE K H [] []:=by simp only[aE]
theorem aE.cons{d:Z.D}{ds:γ Z.D}{v:V}{vs:γ V}(h:Den K H d v)(t:aE K H ds vs):aE K H (d::ds) (v::vs):=by simp only[aE];exact⟨v,vs,rfl,h,t⟩
theorem aE.length:∀{ds}{vs},aE K H ds vs->vs.length=ds.length
|[],vs,h=>by simp only[aE]at h;subst h;rfl
|d::ds,vs,h=>by simp only[aE]at h;let⟨v,r,rfl,_,t⟩:=h;simp[aE.length t]
theorem aE.get:∀{ds}{vs}{i:Nat}{d},aE K H ds vs->ds[i]?=AC d->∃v,vs[i]?=AC v/\Den K H d v
|[],_,_,_,_,e=>by simp at e
|x::ds,vs,0,d,h,e=>by simp only[aE]at h;let⟨v,r,rfl,q,_⟩:=h;simp at e;subst e;exact⟨v,rfl,q⟩
|x::ds,vs,i+1,d,h,e=>by simp only[aE]at h;let⟨v,r,rfl,_,t⟩:=h;let⟨u,h1,h2⟩:=aE.get t (by simpa using e);exact⟨u,by simpa using h1,h2⟩
theorem aE.append:∀{ds es}{vs us},aE K H ds vs->aE K H es us->aE K H (ds++es) (vs++us)
|[],_,_,_,h,g=>by simp only[aE]at h;subst h;exact g
|d::ds,es,vs,us,h,g=>by simp only[aE]at h;let⟨v,r,rfl,q,t⟩:=h;exact aE.cons q<|aE.append t g
theorem aE.drop:∀{ds}{vs} n,aE K H ds vs->aE K H (ds.drop n) (vs.drop n)
|_,_,0,h=>by simpa using h
|[],vs,_+1,h=>by simp only[aE]at h;subst h;simpa using aE.nil
|d::ds,vs,n+1,h=>by simp only[aE]at h;let⟨v,r,rfl,q,t⟩:=h;simpa using aE.drop n t
theorem aE.take:∀{ds}{vs} n,aE K H ds vs->aE K H (ds.take n) (vs.take n)
|_,_,0,h=>by simpa using aE.nil
|[],vs,_+1,h=>by simp only[aE]at h;subst h;simpa using aE.nil
|d::ds,vs,n+1,h=>by simp only[aE]at h;let⟨v,r,rfl,q,t⟩:=h;simpa using aE.cons q (aE.take n t)
theorem aE.zints:∀(ns:γ Int),aE K H (ns.map Z.D.int) (ns.map V.int)
|[]=>aE.nil
|n::ns=>aE.cons (by simp only[Den])<|aE.zints ns
def bR(K:Da)(H:Hp)(d:Z.D)(v:V):Prop:=Den K H d v\/∃ds a vs,d=.lst ds/\v=.ref a/\H a=AC (.lst vs)/\aE K H ds vs
theorem bR.up(h:bR K H d v)(e:aJ H H'):bR K H' d v:=by
 rcases h with h|⟨ds,a,vs,e1,e2,q,t⟩
 .exact .inl<|h.up e
 .exact .inr ⟨ds,a,vs,e1,e2,e _ _ q,t.up e⟩
theorem bR.nO(h:bR K H d v)(n:∀ds,d≠.lst ds):Den K H d v:=by
 rcases h with h|⟨ds,a,vs,e1,_⟩
 .exact h
 .exact absurd e1<|n ds
theorem bR.non(h:bR K H .non v):v=.non:=by have:=h.nO λ _ z=>nomatch z;simpa only[Den]using this
theorem bR.bl(h:bR K H (.bl b) v):v=.bl b:=by have:=h.nO λ _ z=>nomatch z;simpa only[Den]using this
theorem bR.int(h:bR K H (.int i) v):v=.int i:=by have:=h.nO λ _ z=>nomatch z;simpa only[Den]using this
theorem bR.str(h:bR K H (.str cs) v):v=.str ⟨cs.toArray⟩:=by have:=h.nO λ _ z=>nomatch z;simpa only[Den]using this
theorem bR.tup{ds:γ Z.D}{v:V}(h:bR K H (.tup ds) v):∃a vs,v=.ref a/\mV K H a vs/\aE K H ds vs:=by have:=h.nO λ _ z=>nomatch z;simpa only[Den]using this
theorem bR.lst{ds:γ Z.D}{v:V}(h:bR K H (.lst ds) v):∃a vs,v=.ref a/\jw K H a vs/\aE K H ds vs:=by
 rcases h with h|⟨es,a,vs,e1,e2,q,t⟩
 .simp only[Den]at h;let⟨a,vs,e,q,t⟩:=h;exact⟨a,vs,e,q.sq,t⟩
 .cases e1;exact⟨a,vs,e2,.inl<|.inl q,t⟩
theorem bR.dct(h:bR K H (.dct ks ds) v):∃a o a9,v=.ref a/\H a=AC (.fF o<|.dK a9)/\a9.map (·.1)=ks.map GH/\aE K H ds (a9.map (·.2))/\∀i r,ks≠.inl i::r:=by have:=h.nO λ _ z=>nomatch z;simpa only[Den]using this
theorem kY:Den K H .non .non:=by simp only[Den]
theorem c8:Den K H (.bl b) (.bl b):=by simp only[Den]
theorem c_:Den K H (.int i) (.int i):=by simp only[Den]
theorem kX:Den K H (.str cs) (.str ⟨cs.toArray⟩):=by simp only[Den]
theorem fL(h:mV K H a vs)(t:aE K H ds vs):Den K H (.tup ds) (.ref a):=by simp only[Den];exact⟨a,vs,rfl,h,t⟩
theorem y7(h:P4 K H a vs)(t:aE K H ds vs):Den K H (.lst ds) (.ref a):=by simp only[Den];exact⟨a,vs,rfl,h,t⟩
end
def sF(K:Da)(c:Str)(C:δ):Prop:=FB K mainGlobals c=AC (AC<|.ref C)/\HJ K C
def Hr(K:Da)(H:Hp)(kd:Nat)(ks:γ (γ Nat))(ds:γ Z.D)(u:HO):Prop:=
 (kd=0/\ks=Z.cV.take ks.length/\∃ C dx fs,u=.ins C dx fs/\sF K "Desk" C/\fs.map (·.1)=ks.map (λ c=>(⟨c.toArray⟩:Str))/\aE K H ds (fs.map (·.2))) \/
  kd=1/\∃a9:γ (Key×V),u=.dK a9/\a9.map (·.1)=ks.map (λ c=>(GE ⟨c.toArray⟩:Key))/\aE K H ds (a9.map (·.2))
theorem Hr.ups{K:Da}(h:Hr K H kd ks ds u)(e:g0 H H'):Hr K H' kd ks ds u:=by
 rcases h with⟨h0,hk,C,dx,fs,h1,h2,h3,h4⟩|⟨h0,a9,h1,h2,h3⟩
 .exact .inl ⟨h0,hk,C,dx,fs,h1,h2,h3,h4.ups e⟩
 .exact .inr ⟨h0,a9,h1,h2,h3.ups e⟩
def Thg(K:Da)(H:Hp)(d:Z.D)(v:V):Prop:=∃a kd ks ds u,d=Z.fR a kd ks ds/\v=.ref a/\H a=AC u/\Hr K H kd ks ds u
def jC(K:Da)(H:Hp)(d:Z.D)(v:V):Prop:=bR K H d v\/Thg K H d v
theorem jC.up{K:Da}(h:jC K H d v)(e:aJ H H'):jC K H' d v:=by
 rcases h with h|⟨a,kd,ks,ds,u,e1,e2,q,t⟩
 .exact .inl<|h.up e
 .exact .inr ⟨a,kd,ks,ds,u,e1,e2,e _ _ q,t.ups<|ky e⟩
def FD(K:Da)(H:Hp)(d:Z.D)(v:V):Prop:=bR K H d v\/∃a kd ks ds u,d=Z.fR a kd ks ds/\v=.ref a/\H a=AC u
theorem jC.z{K:Da}(h:jC K H d v):FD K H d v:=by
 rcases h with h|⟨a,kd,ks,ds,u,e1,e2,q,_⟩
 .exact .inl h
 .exact .inr ⟨a,kd,ks,ds,u,e1,e2,q⟩
theorem jC.fR{K:Da}(h:jC K H (.dct (.inl a::r) ds) v):Thg K H (.dct (.inl a::r) ds) v:=by
 rcases h with h|h
 .let⟨_,_,_,_,_,_,_,n⟩:=h.dct;exact absurd rfl<|n _ _
 .exact h
theorem FD.re{K:Da}(h:FD K H0 d v)(r:jC K H d v)(h0:aJ H0 H)(hs:aJ H0 H')(st:g0 H H'):jC K H' d v:=by
 rcases h with h|⟨a,kd,ks,ds,u,rfl,rfl,q⟩
 .exact .inl<|h.up hs
 .let⟨a',kd',ks',ds',u',e1,e2,q',t⟩:=r.fR;cases e2;have:=(h0 _ _ q).symm.trans q';cases this;exact .inr ⟨_,kd',ks',ds',u,e1,rfl,hs _ _ q,t.ups st⟩
theorem jC.lst{K:Da}{H:Hp}{ds:γ Z.D}{v:V}(h:jC K H (.lst ds) v):bR K H (.lst ds) v:=by
 rcases h with h|⟨a,kd,ks,es,u,e1,_⟩
 .exact h
 .cases e1
def aax(x:γ Int×δ×ζ):DictEntry:={hash:=reduceHash<|Builtin.Tuple.tupleHashOf<|x.1.map hashInt,key:=.ref x.2.1,val:=x.2.2}
def W!(a:δ)(ks:γ (γ Int))(as:γ δ)(h:ν):Prop:=ks.length<=sizeLine/\(a==sysModules)=AT/\∃(xs:γ (γ Int×δ×ζ))(o:μ)(es:Array DictEntry)(ep:Nat),xs.map (·.1)=ks/\xs.map (·.2.1)=as/\h.get? a=AC o/\o.ExactDict/\o.data=.dict es ep/\es.toList=xs.map aax/\ks.Nodup
abbrev W'(a:δ)(ks:γ (γ Int))(as:γ δ):HO:=.ext<|W! a ks as
def q?(K:Da)(H:Hp)(ks:γ (γ Int))(as:γ δ):Prop:=Paired (λ(k:γ Int)(b:δ)=>Den K H (.tup<|k.map .int)<|.ref b) ks as
def kvT(a9:γ (γ Nat×γ Nat)):γ (Key×V):=a9.map λ p=>(GE ⟨p.1.toArray⟩,V.str ⟨p.2.toArray⟩)
def DcO(a:δ):Z.DK->γ δ->HO
|.inl ks,as=>W' a ks as
|.inr a9,_=>.dK<|kvT a9
def YS(K:Da)(H:Hp):Z.DK->γ δ->Prop
|.inl ks,as=>q? K H ks as
|.inr _,_=>True
theorem Fj:DcO a k as≠.lst xs:=by cases k<;>exact λ z=>nomatch z
def kvI(ps:γ (Int×Int)):γ (Key×V):=ps.map λ p=>(al p.1,V.int p.2)
def zG(K:Da)(C:δ)(F:ClassData->δ->γ ζ->String->Bool):Bool:=match K.lookup C with
|some ⟨.type "type",_,.cls cd,sl⟩=>(match cd.mro,sl.toList with
 |.ref C'::tl,[_,_,_,_,AC (.builtin n),_]=>F cd C' tl n
 | _,_=>AT)
|_=>AT
def zA(K:Da)(C:δ):Bool:=zG K C λ cd C' tl n=>C'==C&&n=="ValueError.__new__" && !cd.hasDel&&tl.contains (.type "BaseException")
def XC(K:Da)(c:γ Nat)(C:δ):Prop:=FB K mainGlobals ⟨c.toArray⟩=AC (AC<|.ref C)/\zA K C=Ch
def XD(K:Da)(H:Hp):ε δ->γ (γ Nat×Z.D)->Prop
|none,fs=>fs=[]
|some dx,fs=>fs≠[]/\∃od a9,H dx=AC (.fF od<|.xd a9)/\Paired (λ(p:Str×V)(q:γ Nat×Z.D)=>p.1=⟨q.1.toArray⟩/\Den K H q.2 p.2) a9 fs
theorem XD.ups{K:Da}(h:XD K H dd fs)(e:g0 H H'):XD K H' dd fs:=by
 cases dd with
 |none=>exact h
 |some dx=>let⟨n,od,a9,q,p⟩:=h;exact⟨n,od,a9,e.fF _ _ _ q,Paired.Gy p λ _ _ z=>⟨z.1,z.2.ups e⟩⟩
def qY(K:Da)(H:Hp)(c:γ Nat×γ (γ Nat×Z.D))(C:δ)(dd:ε δ):Prop:=XC K c.1 C/\XD K H dd c.2
theorem qY.ups{K:Da}(h:qY K H c C dd)(e:g0 H H'):qY K H' c C dd:=⟨h.1,h.2.ups e⟩
def RL(K:Da)(H:Hp):Z.L->V->Prop
|.val d,v=>Den K H d v
|.own ds,v=>∃a vs,v=.ref a/\H a=AC (.lst vs)/\aE K H ds vs
|.bor d,v=>jC K H d v
|.dc k,v=>∃a as,v=.ref a/\H a=AC (DcO a k as)/\YS K H k as
|.G3 ks,v=>∃a o as,v=.ref a/\H a=AC (.fF o<|W' a ks as)/\q? K H ks as
|.RA ps,v=>∃a o,v=.ref a/\H a=AC (.fF o<|.dK<|kvI ps)
|.exc c,v=>∃a o u C,v=.ref a/\H a=AC (.fF o u)/\o.cls=.ref C/\(∃vs,o.data=.fields vs)/\qY K H c C o.dict
theorem q?.ups{K:Da}(h:q? K H ks as)(e:g0 H H'):q? K H' ks as:=Paired.Gy h λ _ _ d=>Den.ups d e
theorem YS.ups{K:Da}(h:YS K H k as)(e:g0 H H'):YS K H' k as:=by
 cases k with
 |inl ks=>exact q?.ups (h) e
 |inr _=>exact IR
structure RE(K:Da)(H:Hp)(σ:St)(ρ:Z.Env):Prop where
 len:ρ.length=σ.length
 get:∀(i:Nat)(l:Z.L),ρ[i]?=AC (AC l)->∃v,σ[i]?=AC (AC v)/\RL K H l v
 sep:∀(i j:Nat)(xs ys:List Z.D)(a:Addr),ρ[i]?=AC (AC<|.own xs)->ρ[j]?=AC (AC<|.own ys)->σ[i]?=AC (AC<|.ref a)->σ[j]?=AC (AC<|.ref a)->i=j
section
variable{K:Da}{H H':Hp}{σ:St}{ρ:Z.Env}
theorem RL.up(h:RL K H l v)(e:aJ H H'):RL K H' l v:=by
 cases l with
 |val d=>exact Den.up (h) e
 |own ds=>let⟨a,vs,e1,q,t⟩:=h;exact⟨a,vs,e1,e _ _ q,t.up e⟩
 |bor d=>exact jC.up (h) e
 |dc ks=>let⟨a,as,e1,q,t⟩:=h;exact⟨a,as,e1,e _ _ q,t.ups<|ky e⟩
 |G3 ks=>let⟨a,o,as,e1,q,t⟩:=h;exact⟨a,o,as,e1,e _ _ q,t.ups<|ky e⟩
 |RA ps=>let⟨a,o,e1,q⟩:=h;exact⟨a,o,e1,e _ _ q⟩
 |exc c=>let⟨a,o,u,C,e1,q,r1,r2,r3⟩:=h;exact⟨a,o,u,C,e1,e _ _ q,r1,r2,r3.ups<|ky e⟩
theorem RE.up(h:RE K H σ ρ)(e:aJ H H'):RE K H' σ ρ:=
 ⟨h.len,λ i l q=>let ⟨v,h1,h2⟩:=h.get i l q;⟨v,h1,h2.up e⟩,h.sep⟩
theorem cn(h:H a=At):aJ H (upd H a o):=λ b u e=>by rw[aG<|bj e h];exact e
end
def tZ(K:Da)(f:Z.EF):TE:=λ σ H Q=>∃ρ d,RE K H σ ρ/\f ρ=.ok d/\∀v H',aJ H H'->Den K H' d v->Q v H'
def O6(K:Da)(f:Z.EF):TE:=λ σ H Q=>∃ρ d,RE K H σ ρ/\f ρ=.ok d/\∀v H',aJ H H'->bR K H' d v->Q v H'
def tZl(K:Da)(f:Z.LF):TE:=λ σ H Q=>∃ρ ds,RE K H σ ρ/\f ρ=.ok ds/\∀a vs H',aJ H H'->H a=At->H' a=AC (.lst vs)->aE K H' ds vs->Q (.ref a) H'
def T7(K:Da)(f:Z.TF):TT:=λ σ H Q=>∃ρ b,RE K H σ ρ/\f ρ=.ok b/\∀H',aJ H H'->Q b H'
def tZa(K:Da)(f:Z.AF):TA:=λ σ H Q=>∃ρ ds,RE K H σ ρ/\f ρ=.ok ds/\∀vs H',aJ H H'->aE K H' ds vs->Q vs H'
def tZp(K:Da)(f:Z.PF):TO:=λ σ H Q=>∃ρ o,RE K H σ ρ/\f ρ=.ok o/\∀H',aJ H H'->Q o H'
abbrev DE(X:Cx)(e:ι)(f:Z.EF):Prop:=PE X e<|tZ X.K f
structure _root_.ZQ.QE(X:Cx)(e:Expr)(f:Z.EF):Prop where p:DE X e f
abbrev DW(X:Cx)(e:ι)(f:Z.EF):Prop:=PE X e<|O6 X.K f
structure _root_.ZQ.QW(X:Cx)(e:Expr)(f:Z.EF):Prop where p:DW X e f
abbrev DL(X:Cx)(e:ι)(f:Z.LF):Prop:=PE X e<|tZl X.K f
structure _root_.ZQ.QL(X:Cx)(e:Expr)(f:Z.LF):Prop where p:DL X e f
abbrev DT(X:Cx)(e:ι)(f:Z.TF):Prop:=PT X e<|T7 X.K f
structure _root_.ZQ.QT(X:Cx)(e:Expr)(f:Z.TF):Prop where p:DT X e f
abbrev DTW(X:Cx)(e:ι)(f:Z.TF):Prop:=PW X e<|T7 X.K f
structure _root_.ZQ.SK(X:Cx)(e:Expr)(f:Z.TF):Prop where p:DTW X e f
abbrev DA(X:Cx)(es:γ ι)(f:Z.AF):Prop:=PA X es<|tZa X.K f
structure _root_.ZQ.QA(X:Cx)(es:List Expr)(f:Z.AF):Prop where p:DA X es f
abbrev DP(X:Cx)(e:ε ι)(f:Z.PF):Prop:=PO X e<|tZp X.K f
structure _root_.ZQ.QP(X:Cx)(e:Option Expr)(f:Z.PF):Prop where p:DP X e f
section
variable{X:Cx}{e a b c:ι}{es:γ ι}{pos:Pos}{f fa fb fc:Z.EF}
theorem PE.imp(h:PE X e t)(k:∀σ H Q,t' σ H Q->t σ H Q):PE X e t':=λ χ s σ H Q I w=>h χ s σ H Q I<|k σ H Q w
theorem PT.imp(h:PT X e t)(k:∀σ H Q,t' σ H Q->t σ H Q):PT X e t':=λ χ s σ H Q I w=>h χ s σ H Q I<|k σ H Q w
theorem PW.imp(h:PW X e t)(k:∀σ H Q,t' σ H Q->t σ H Q):PW X e t':=λ whole χ s σ H Q I w=>h whole χ s σ H Q I<|k σ H Q w
theorem PA.imp(h:PA X es t)(k:∀σ H Q,t' σ H Q->t σ H Q):PA X es t':=λ p χ s σ H Q I w=>h p χ s σ H Q I<|k σ H Q w
theorem PO.imp(h:PO X o t)(k:∀σ H Q,t' σ H Q->t σ H Q):PO X o t':=λ χ s σ H Q I w=>h χ s σ H Q I<|k σ H Q w
theorem K5(h:PE X e (tC v))(hd:∀H,Den X.K H d v):DE X e (Z.eC d):=PE.imp h <|by rintro σ H Q ⟨ρ,d',_,e,k⟩;have e':=e;cases e';exact k v H (aJ.refl H)<|hd H
theorem _root_.ZQ.ag:ZQ.QE X (.Constant (.int i) j pos) (Z.eC<|.int i):=⟨K5 QD λ _=>c_⟩
theorem _root_.ZQ.eN:ZQ.QE X (.Constant (.bool x) j pos) (Z.eC<|.bl x):=⟨K5 UJ λ _=>c8⟩
theorem _root_.ZQ.oj:ZQ.QE X (.Constant .none j pos) (Z.eC .non):=⟨K5 yh λ _=>kY⟩
theorem _root_.ZQ.bB(h:x=⟨cs.toArray⟩:=by decide +kernel):ZQ.QE X (.Constant (.str x) j pos) (Z.eC<|.str cs):=⟨by subst h;exact K5 Qy λ _=>kX⟩
theorem Wv(h:Z.eV i ρ=.ok d):ρ[i]?=AC (AC<|.val d):=by
 unfold Z.eV at h;split at h
 .rename_i d' q;cases h;exact q
 .cases h
theorem Wu(h:Z.eW i ρ=.ok d):ρ[i]?=AC (AC<|.val d)\/(∃xs,ρ[i]?=AC (AC<|.own xs)/\d=.lst xs)\/∃xs,ρ[i]?=AC (AC<|.bor<|.lst xs)/\d=.lst xs:=by
 unfold Z.eW at h;split at h
 .rename_i d' q;cases h;exact .inl q
 .rename_i xs q;cases h;exact .inr<|.inl ⟨xs,q,rfl⟩
 .rename_i xs q;cases h;exact .inr<|.inr ⟨xs,q,rfl⟩
 .cases h
theorem Sl(h:PE X e (lS i)):DE X e (Z.eV i):=PE.imp h <|by rintro σ H Q ⟨ρ,d,r,e,k⟩;let⟨v,h1,h2⟩:=r.get i _ (Wv e);exact⟨v,h1,k v H (aJ.refl H) h2⟩
theorem Sf(h:PE X e (lS i)):DW X e (Z.eW i):=PE.imp h <|by
 rintro σ H Q ⟨ρ,d,r,e,k⟩;rcases Wu e with q|⟨xs,q,rfl⟩|⟨xs,q,rfl⟩
 rotate_left;rotate_left
 .let⟨v,h1,h2⟩:=r.get i _ q;exact⟨v,h1,k v H (aJ.refl H)<|jC.lst h2⟩
 .let⟨v,h1,h2⟩:=r.get i _ q;exact⟨v,h1,k v H (aJ.refl H)<|.inl h2⟩
 .let⟨v,h1,a,vs,rfl,h2,h3⟩:=r.get i _ q;exact⟨_,h1,k _ H (aJ.refl H)<|.inr ⟨xs,a,vs,rfl,rfl,h2,h3⟩⟩
theorem _root_.ZQ.au(hN:X.N[i]?=AC x:=by rfl)(hv:Hq X.env.scope x:=by first| exact AC8 rfl| exact ol<|Or.inl rfl| exact ol<|Or.inr rfl)(hd:(x==("__debug__"))=AT:=by decide +kernel)
 (nH:(x==("__classdict__"))=AT:=by decide +kernel):ZQ.QE X (.Name x pos) (Z.eV i):=⟨Sl<|kH hN hv hd nH⟩
theorem _root_.ZQ.ah(hN:X.N[i]?=AC x:=by rfl)(hv:Hq X.env.scope x:=by first| exact AC8 rfl| exact ol<|Or.inl rfl| exact ol<|Or.inr rfl)(hd:(x==("__debug__"))=AT:=by decide +kernel)
 (nH:(x==("__classdict__"))=AT:=by decide +kernel):ZQ.QW X (.Name x pos) (Z.eW i):=⟨Sf<|kH hN hv hd nH⟩
theorem Ou(hg:Gl X x)(hm:X.mg x=AC u)(r:RelV v u)(hd:∀H,Den X.K H d v)(hb:(x==("__debug__"))=AT:=by decide +kernel):DE X (.Name x pos) (Z.eC d):=
 K5 (ML hg hm r hb) hd
theorem _root_.ZQ.ai(h:ZQ.QE X e f):ZQ.QW X e f:=⟨PE.imp h.p <|by rintro σ H Q ⟨ρ,d,r,e,k⟩;exact⟨ρ,d,r,e,λ v H' s q=>k v H' s<|.inl q⟩⟩
theorem _root_.ZQ.eK(h:ZQ.QL X e l):ZQ.QW X e (Z.eL l):=⟨PE.imp h.p <|by
 rintro σ H Q ⟨ρ,d,r,e,k⟩;unfold Z.eL at e;cases q:l ρ with
 |bad=>rw[q]at e;cases e
 |ok ds=>rw[q]at e;cases e;exact⟨ρ,ds,r,q,λ a vs H' s hn h1 h2=>k _ H' s<|.inr ⟨ds,a,vs,rfl,rfl,h1,h2⟩⟩⟩
theorem n8(I:Inv X χ σ H s)(h:H p=AC (.lst xs)):∃o,Inv X χ σ (upd H p<|.fF o<|.lst xs) s:=by
 let⟨z,bq,n,r,ho⟩:=I.b9 p _ h;refine⟨_,I.un (H':=upd H p (.fF {cls:=.type "list",data:=.seq bq.toArray n} _)) ?_ ?_⟩
 .have ne:∀b,H b=At->b≠p:=λ b e q=>by rw[q,h]at e;cases e
  refine⟨λ b o q _ _ _=>q,λ b o q _ _ _=>⟨_,q⟩,λ b o q e _=>by rw[aG<|ne b e];exact e,λ b o q _=>⟨o,q⟩,λ b ys e=>?_,λ b o u e=>?_,λ b u pr e=>?_⟩
  .have:b≠p:=by rintro rfl;rw[h]at e;cases e
   rw[aG this];exact e
  .have:b≠p:=by rintro rfl;rw[h]at e;cases e
   rw[aG this];exact e
  .have:b≠p:=by rintro rfl;rw[h]at e;cases e;exact pr
   rw[aG this];exact e
 .intro b u e;by_cases hb:b=p
  .subst hb;rw[aO]at e;cases e;exact⟨ho,z,bq,n,r,ho⟩
  .rw[aG hb]at e;refine(I.b9 b u e).rZ (λ c w _ q=>q) (λ c q=>?_) (λ c ys q=>?_) λ c v pr q=>?_
   .have:c≠p:=by rintro rfl;rw[h]at q;cases q
    rw[aG this];exact q
   .have:c≠p:=by rintro rfl;rw[h]at q;cases q
    rw[aG this];exact q
   .have:c≠p:=by rintro rfl;rw[h]at q;cases q;exact pr
    rw[aG this];exact q
theorem IB(s:aJ H H1)(hn:H p=At):aJ H (upd H1 p<|.fF o<|.lst xs):=λ b u e=>by rw[aG<|bj e hn];exact s b u e
theorem _root_.ZQ.pW(h:ZQ.QL X e l):ZQ.QE X e (Z.eL l):=⟨by
 have h:=h.p;intro χ s σ H Q I w;let⟨ρ,d,r,e,k⟩:=w;unfold Z.eL at e;cases q:l ρ with
 |bad=>rw[q]at e;cases e
 |ok ds=>rw[q]at e;cases e;refine cA (h χ s σ H (λ v H1=>∃a vs,v=.ref a/\aJ H H1/\H a=At/\H1 a=AC (.lst vs)/\aE X.K H1 ds vs) I ⟨ρ,ds,r,q,λ a vs H1 s1 hn h1 h2=>⟨a,vs,rfl,s1,hn,h1,h2⟩⟩) ?_;rintro u s' ⟨v,H1,I1,rv,a,vs,rfl,s1,hn,h1,h2⟩;let⟨o,I2⟩:=n8 I1 h1;exact⟨_,_,I2,rv,k _ _ (IB s1 hn)<|y7 (.inl ⟨o,aO⟩)<|h2.ups<|jF h1⟩⟩
def Lv(K:Da)(r:R2)(o:Z.D->Z.D->Z.Res Z.D):Prop:=∀(x y:V)(dx dy d:Z.D)(H:Hp)(Q:VK),bR K H dx x->bR K H dy y->o dx dy=.ok d->(∀v H',aJ H H'->Den K H' d v->Q v H')->r x y H Q
theorem two(hz:Lv X.K r o):∀σ H Q,tZ X.K (Z.eB o fa fb) σ H Q->O7 r (O6 X.K fa) (O6 X.K fb) σ H Q:=by rintro σ H Q ⟨ρ,d,re,e,k⟩;let⟨x,ea,e⟩:=XV e;let⟨y,eb,e⟩:=XV e;exact⟨ρ,x,re,ea,λ v H1 s1 d1=>⟨ρ,y,re.up s1,eb,λ u H2 s2 d2=>hz _ _ _ _ _ H2 Q (d1.up s2) d2 e λ w H' s3 dw=>k w H' ((s1.trans s2).trans s3) dw⟩⟩
theorem xu(hr:jQ X (binaryOp op) r)(hz:Lv X.K r o)(ha:DW X a fa)(hb:DW X b fb):DE X (.BinOp a op b pos) (Z.eB o fa fb):=
 PE.imp (Ex hr ha hb)<|two hz
theorem o_{K:Da}{g:Int->Int->Int}(h:∀dx dy d,o dx dy=.ok d->∃i j,dx=.int i/\dy=.int j/\C i j/\d=.int (g i j)):Lv K (rI C λ i j=>.int<|g i j) o:=by intro x y dx dy d H Q h1 h2 e k;let⟨i,j,rfl,rfl,hc,rfl⟩:=h _ _ _ e;exact⟨i,j,h1.int,h2.int,hc,k _ H (aJ.refl H) c_⟩
theorem o?{K:Da}{gd:Int->Int->Z.D}(h:∀dx dy d,o dx dy=.ok d->∃i j,dx=.int i/\dy=.int j/\d=gd i j)(hg:∀i j H,Den K H (gd i j) (g i j)):Lv K (MB g) o:=by intro x y dx dy d H Q h1 h2 e k;let⟨i,j,rfl,rfl,rfl⟩:=h _ _ _ e;exact⟨i,j,h1.int,h2.int,k _ H (aJ.refl H)<|hg i j H⟩
theorem _root_.ZQ.mm(ha:ZQ.QW X a fa)(hb:ZQ.QW X b fb):ZQ.QE X (.BinOp a .Sub b pos) (Z.eB Z.qB fa fb):=⟨have ha:=ha.p;have hb:=hb.p;xu QU (o? (λ dx dy d e=>by
 unfold Z.qB at e;split at e
 .cases e;exact⟨_,_,rfl,rfl,rfl⟩
 .cases e) λ _ _ _=>c_) ha hb⟩
def LB(i j:Int):Prop:=IntMulOk i j
theorem MQ:jQ X (binaryOp .Mult) (rI LB λ i j=>.int<|i*j):=UP λ _ _ _ _ _ _ _ hc q=>mul_int q hc
theorem OI(i:Int):Z.bits i=Builtin.Int.intBits i:=by
 unfold Z.bits Builtin.Int.intBits;by_cases h:i=0
 .subst h;simp
 .first
   |(simp;done)
   |(rw[W1];simp;done)
theorem uk(h:Z.bW i j):IntMulOk i j:=by
 rcases h with h|h|⟨h1,h2⟩
 .exact IntMulOk.of_left<|intBits_le_64 ∅ ∅
 .exact IntMulOk.of_right<|intBits_le_64 ∅ ∅
 .rw[OI]at h1 h2;exact mulOk_of_bits h1 h2 ∅
theorem _root_.ZQ.eF(ha:ZQ.QW X a fa)(hb:ZQ.QW X b fb):ZQ.QE X (.BinOp a .Mult b pos) (Z.eB Z.fP fa fb):=⟨have ha:=ha.p;have hb:=hb.p;xu MQ (o_ λ dx dy d e=>by
 unfold Z.fP at e;split at e
 .unfold Z.guard at e;split at e
  .rename_i h;cases e;exact⟨_,_,rfl,rfl,uk h,rfl⟩
  .cases e
 .cases e) ha hb⟩
def W_(_ j:Int):Prop:=Z.iU j
theorem Ds(h:Z.iU j):0<j/\j.natAbs.log2<9000:=by
 have h0:=h.1;have h1:=h.2;have hn:j.natAbs≠0:=by lia
 have h2:j.natAbs<2^250:=by
  have:(2)^250=1809251394333065553493296640760748560207343510400633813116524750123642650624:=by decide
  lia
 have:=(Nat.log2_lt hn).mpr h2;exact⟨h0,by lia⟩
theorem MR:jQ X (binaryOp .FloorDiv) (rI W_ λ i j=>.int<|i / j):=UP λ i j _ _ _ _ _ hc q=>by let⟨h0,h1⟩:=Ds hc;have e:=Int.fdiv_eq_ediv_of_nonneg i<|Int.le_of_lt h0;exact floordiv_int (Int.ne_of_gt h0) (by rw[e];exact q)<|.inl<|PyProof.noPylong_of_log2 h1
theorem _root_.ZQ.dh(ha:ZQ.QW X a fa)(hb:ZQ.QW X b fb):ZQ.QE X (.BinOp a .FloorDiv b pos) (Z.eB Z.oDiv fa fb):=⟨have ha:=ha.p;have hb:=hb.p;xu MR (o_ λ dx dy d e=>by
 unfold Z.oDiv at e;split at e
 .unfold Z.guard at e;split at e
  .rename_i h;cases e;exact⟨_,_,rfl,rfl,h,rfl⟩
  .cases e
 .cases e) ha hb⟩
theorem _root_.ZQ.b!(ha:ZQ.QW X a fa)(hb:ZQ.QW X b fb):ZQ.QE X (.BinOp a .Mod b pos) (Z.eB Z.oMod fa fb):=⟨have ha:=ha.p;have hb:=hb.p;xu QY (o_ λ dx dy d e=>by
 unfold Z.oMod at e;split at e
 .unfold Z.guard at e;split at e
  .rename_i h;cases e;exact⟨_,_,rfl,rfl,h,rfl⟩
  .cases e
 .cases e) ha hb⟩
theorem _root_.ZQ.qS(ha:ZQ.QW X a fa)(hb:ZQ.QW X b fb):ZQ.QE X (.BinOp a .Pow b pos) (Z.eB Z.mY fa fb):=⟨have ha:=ha.p;have hb:=hb.p;xu QX (o_ λ dx dy d e=>by
 unfold Z.mY at e;split at e
 .unfold Z.guard at e;split at e
  .rename_i h;cases e;exact⟨_,_,rfl,rfl,h,rfl⟩
  .cases e
 .cases e) ha hb⟩
def UB(K:Da):R2:=λ x y H Q=>∃a b xs ys,x=.ref a/\y=.ref b/\mV K H a xs/\mV K H b ys/\xs.length+ys.length<=sizeLine /\
 (xs=[]->Q (.ref b) H)/\(ys=[]->Q (.ref a) H)/\(∀p,H p=At->Q (.ref p) (upd H p<|.tup<|xs++ys))
theorem MU:jQ X (binaryOp .Add) (UB X.K):=by
 intro χ s σ H x y v u Q I rx ry h;let⟨p,q,xs,ys,rfl,rfl,hp,hq,hz,q0,q1,q2⟩:=h;by_cases hx:xs=[]
 .cases rx;cases ry;let⟨bq,r1,ht,_⟩:=I.tuple hp;let⟨iz,r2,hb,_⟩:=I.tuple hq;let⟨⟨cls,dd,data,sl⟩,ho,hc,n,hd⟩:=id ht;let⟨⟨WE,Tw,data2,S0⟩,HB,yN,n2,hd2⟩:=id hb;simp only at hc hd yN hd2;subst hc hd yN hd2;have e0:=r1.sM.mpr hx;exact B50 ⟨_,ho,rfl⟩ ⟨_,HB,rfl⟩ B93 seq_tuple_add B95 B96 (B97 _ _)
   (tuple_addW0 p q _ _ n n2 dd Tw sl S0 (by simp[e0])) ⟨ho,HB,⟨.ref q,H,I,rfl,q0 hx⟩⟩
 .exact MV χ s σ H _ _ v u Q I rx ry ⟨p,q,xs,ys,rfl,rfl,hp,hq,hx,hz,q1,λ _=>q2⟩
theorem Mg(a b:γ Nat):(⟨a.toArray⟩)++(⟨b.toArray⟩:Str)=⟨(a++b).toArray⟩:=by show(⟨a.toArray++b.toArray⟩:Str)=_;simp
theorem _root_.ZQ.aZ(ha:ZQ.QW X a fa)(hb:ZQ.QW X b fb):ZQ.QE X (.BinOp a .Add b pos) (Z.eB Z.bK fa fb):=⟨have ha:=ha.p;have hb:=hb.p;xu (Q0.or<|Cz.or MU) (λ x y dx dy d H Q h1 h2 e k=>by
 unfold Z.bK at e;split at e
 .cases e;exact .inl ⟨_,_,h1.int,h2.int,k _ H (aJ.refl H) c_⟩
 .unfold Z.guard at e;split at e
  .rename_i as bs h;cases e;refine .inr<|.inl ⟨_,_,h1.str,h2.str,?_,?_⟩
   .show as.toArray.size+bs.toArray.size<=sizeLine;rw[A23];simpa using h
   .rw[Mg];exact k _ H (aJ.refl H) kX
  .cases e
 .unfold Z.guard at e;split at e
  .rename_i as bs h;cases e;let⟨p,xs,rfl,hp,t1⟩:=h1.tup;let⟨q,ys,rfl,hq,t2⟩:=h2.tup;refine .inr<|.inr ⟨p,q,xs,ys,rfl,rfl,hp,hq,?_,?_,?_,?_⟩
   .rw[t1.length,t2.length,A23];exact h
   .rintro rfl;have:=B55 (by rw[<-t1.length];rfl);subst this;exact k _ H (aJ.refl H)<|fL hq t2
   .rintro rfl;have:=B55 (by rw[<-t2.length];rfl);subst this;rw[A52]at k;exact k _ H (aJ.refl H)<|fL hp t1
   .intro z hn;have s1:aJ H (upd H z<|.tup<|xs++ys):=cn hn;exact k _ _ s1<|fL (.inl<|.inl aO)<|(t1.append t2).up s1
  .cases e
 .cases e) ha hb⟩
theorem _root_.ZQ.K2(ha:ZQ.QW X a fa):ZQ.QE X (.UnaryOp .USub a pos) (Z.eU Z.Jo fa):=⟨PE.imp (UG Qa ha.p) <|by
 rintro σ H Q ⟨ρ,d,r,e,k⟩;let⟨x,ea,e⟩:=XV e;refine⟨ρ,x,r,ea,λ v H1 s1 d1=>?_⟩;unfold Z.Jo at e;split at e
 .cases e;exact⟨_,d1.int,k _ H1 s1 c_⟩
 .cases e⟩
end
end ZS
namespace ZS
section
open Builtin Builtin.Str
theorem l4(t:γ Nat):(⟨t.toArray⟩:Str).length=t.length:=by simp[Str.length]
theorem ZP(t:γ Nat)(c:Nat):(!(Sc ⟨t.toArray⟩ ⟨#[c]⟩ 0 t.length 1).isEmpty)=t.contains c:=by have h:=StrLaws.found_one ⟨t.toArray⟩ c;rw[l4]at h;rw[h,A53];simp
theorem Fq(n d:Nat)(i:Int):max 0 (min (if i<0 then i+(n)else i)<|n)=((Z.d_ n d<|some i)):=by
 show max 0 (min (if i<0 then i+(n)else i)<|n)=(((if i<0 then(i+(n)).toNat else min _ n)))
 by_cases h:i<0
 .simp only[M2 h];lia
 .simp only[W1 h];lia
theorem slR(a b:Nat):sliceRange (a) (b) 1=(Ev<|b-a).map (λ k=>a+k):=by
 unfold sliceRange;simp only[show(1:Int)>0 by decide,A25];have e:(if(a)<(b:Int)then((b)-(a:Int)+1-1) / 1 else 0).toNat=b-a:=by
  split
  .rw[Int.ediv_one];lia
  .lia
 rw[e];apply B08;intro k _;lia
theorem idxs(lo hi:ε Int)(n:Nat):strSliceIndices lo hi 1 n=(Ev<|Z.d_ n n hi-Z.d_ n 0 lo).map (λ k=>Z.d_ n 0 lo+k):=by
 unfold strSliceIndices;simp only[show(1:Int)>0 by decide,A25];rw[<-slR];cases lo with
 |none=>
  cases hi with
  |none=>rfl
  |some j=>simp only[Fq n n j];rfl
 |some i=>
  cases hi with
  |none=>simp only[Fq n 0 i];rfl
  |some j=>simp only[Fq n 0 i,Fq n n j]
theorem yb(n d:Nat)(hd:d<=n)(o:ε Int):Z.d_ n d o<=n:=by
 cases o with
 |none=>exact hd
 |some v=>show(if v<0 then(v+(n)).toNat else min _ n)<=n;split<;>lia
theorem pick(cs:γ Nat):∀k a,a+k<=cs.length->((Ev k).map λ j=>a+j).filterMap (λ i=>cs.toArray[i]?)=(cs.drop a).take k:=by
 intro k
 induction k with
 |zero=>intro a _;simp
 |succ k ih=>
  intro a h;rw[A82,A39,List.filterMap_append,ih a ∅];have kz:a+k<cs.length:=by lia
  rw[List.take_succ];simp[kz]
theorem Ue(cs:γ Nat)(lo hi:ε Int):Txt.slice ⟨cs.toArray⟩ lo hi=⟨(Z.cut cs lo hi).toArray⟩:=by
 unfold Txt.slice;rw[l4,idxs];have h1:=yb _ cs.length (v4 _) hi;have h0:=yb cs.length 0 (A51 _) lo;have hp:((Ev<|Z.d_ cs.length cs.length hi-Z.d_ cs.length 0 lo).map λ k=>Z.d_ cs.length 0 lo+k).filterMap (λ i=>cs.toArray[i]?)=Z.cut cs lo hi:=by exact pick cs _ _ ∅
 split
 .rename_i hh;have ψ:(Ev<|Z.d_ cs.length cs.length hi-Z.d_ cs.length 0 lo).length=cs.length:=by simp only[A94,C07,A27,A06]at hh;exact hh
  rw[B28]at ψ;unfold Z.cut;have e0:Z.d_ cs.length 0 lo=0:=by lia
  have e1:Z.d_ cs.length cs.length hi-Z.d_ cs.length 0 lo=cs.length:=by lia
  rw[e1,e0];simp
 .rw[hp]
end
open L2
section
variable{X:Cx}
theorem Sn(hr:jQ X (compareOp op) r)(hz:Lv X.K r o)(ha:DW X a fa)(hb:DW X b fb)(hm:behindInMarks op b=AT):DE X (.Compare a [op] [b] pos) (Z.eB o fa fb):=
 PE.imp (Ez hr ha hb hm)<|two hz
theorem rM(h:PT X e (Ii t))(k:∀σ H Q,tZ X.K f σ H Q->t σ H Q):DT X e (Z.tE f):=PT.imp h <|by
 rintro σ H Q ⟨ρ,b,r,e,q⟩;let⟨x,ea,e⟩:=XV e;refine k σ H _ ⟨ρ,x,r,ea,λ v H' s d=>?_⟩;split at e
 .cases e;simp only[Den]at d;exact⟨_,d,q H' s⟩
 .cases e
theorem Si(hr:jQ X (compareOp op) r)(hz:Lv X.K r o)(ha:DW X a fa)(hb:DW X b fb)(hm:behindInMarks op b=AT):DT X (.Compare a [op] [b] pos) (Z.tE<|Z.eB o fa fb):=
 rM (yg hr ha hb hm)<|two hz
structure DZ(X:Cx)(op:CmpOp)(o:Z.D->Z.D->Z.Res Z.D):Prop where
 ex:∃r,jQ X (compareOp op) r/\Lv X.K r o
theorem _root_.ZQ.c9(h:DZ X op o)(ha:ZQ.QW X a fa)(hb:ZQ.QW X b fb)(hm:behindInMarks op b=AT:=by first|exact uj _|with_unfolding_all rfl):ZQ.QE X (.Compare a [op] [b] pos) (Z.eB o fa fb):=
 ⟨let ⟨_,hr,hz⟩:=h.ex;Sn hr hz ha.p hb.p hm⟩
theorem _root_.ZQ.aV(h:DZ X op o)(ha:ZQ.QW X a fa)(hb:ZQ.QW X b fb)(hm:behindInMarks op b=AT:=by first|exact uj _|with_unfolding_all rfl):ZQ.QT X (.Compare a [op] [b] pos) (Z.tE<|Z.eB o fa fb):=
 ⟨let ⟨_,hr,hz⟩:=h.ex;Si hr hz ha.p hb.p hm⟩
theorem xv(hz:Lv X.K r o)(VE:Lv X.K r' o'):∀σ H Q,tZ X.K (Z.iH o o' fa fb fc) σ H Q->Cg r r' (O6 X.K fa) (O6 X.K fb) (O6 X.K fc) σ H Q:=by
 rintro σ H Q ⟨ρ,d,re,e,k⟩;let⟨x,ea,e⟩:=XV e;let⟨y,eb,e⟩:=XV e;let⟨z,eo,e⟩:=XV e;refine⟨ρ,x,re,ea,λ v H1 s1 d1=>⟨ρ,y,re.up s1,eb,λ u H2 s2 d2=>hz _ _ _ _ _ H2 _ (d1.up s2) d2 eo λ w H3 s3 dw=>?_⟩⟩;have LG:=(s1.trans s2).trans s3;split at e
 .rename_i q;simp only[Den]at dw;refine⟨_,dw,?_⟩;cases q with
  |true=>simp only[A25]at e ⊢;let⟨t,ec,e⟩:=XV e;exact⟨ρ,t,re.up LG,ec,λ v' H4 s4 d4=>VE _ _ _ _ _ H4 Q ((d2.up s3).up s4) d4 e λ w' H5 s5 dw'=>k w' H5 ((LG.trans s4).trans s5) dw'⟩
  |false=>simp only[A48]at e ⊢;cases e;exact k _ H3 LG c8
 .cases e
theorem _root_.ZQ.Bu(h:DZ X op o)(h':DZ X Gg o')(ha:ZQ.QW X a fa)(hb:ZQ.QW X b fb)(hc:ZQ.QW X c fc)
 (hm:lastMarks [op,Gg] [b,c]=AT:=by with_unfolding_all rfl):ZQ.QE X (.Compare a [op,Gg] [b,c] pos) (Z.iH o o' fa fb fc):=
 ⟨let ⟨_,hr,hz⟩:=h.ex;let ⟨_,_s,VE⟩:=h'.ex;PE.imp (Ja hr _s ha.p hb.p hc.p hm) (xv hz VE)⟩
theorem _root_.ZQ.mi(h:DZ X op o)(h':DZ X Gg o')(ha:ZQ.QW X a fa)(hb:ZQ.QW X b fb)(hc:ZQ.QW X c fc)
 (hm:lastMarks [op,Gg] [b,c]=AT:=by with_unfolding_all rfl):ZQ.QT X (.Compare a [op,Gg] [b,c] pos) (Z.tE<|Z.iH o o' fa fb fc):=
 ⟨let ⟨_,hr,hz⟩:=h.ex;let ⟨_,_s,VE⟩:=h'.ex;rM (IS hr _s ha.p hb.p hc.p hm) (xv hz VE)⟩
theorem K_:DZ X .Lt Z.oLt:=⟨_,UK,o? (λ dx dy d e=>by
 unfold Z.oLt at e;split at e
 .cases e;exact⟨_,_,rfl,rfl,rfl⟩
 .cases e) λ _ _ _=>c8⟩
theorem we:DZ X .Gt Z.Gm:=⟨_,UM,o? (λ dx dy d e=>by
 unfold Z.Gm at e;split at e
 .cases e;exact⟨_,_,rfl,rfl,rfl⟩
 .cases e) λ _ _ _=>c8⟩
theorem WK:DZ X .GtE Z.S?:=⟨_,UN,o? (λ dx dy d e=>by
 unfold Z.S? at e;split at e
 .cases e;exact⟨_,_,rfl,rfl,rfl⟩
 .cases e) λ _ _ _=>c8⟩
theorem Gf:jQ X (compareOp .LtE) (λ x y H Q=>∃i j,x=.str i/\y=.str j/\Q (.bl<|!decide (j.cps.toList<i.cps.toList)) H):=by intro χ s σ H x y v u Q I rx ry h;let⟨i,j,rfl,rfl,q⟩:=h;let⟨t,rfl⟩:=rx;let⟨t',rfl⟩:=ry;exact PySem.P.le_str<|yR I q rfl
theorem JQ:∀a b,Z.Hy a b=decide (a<b)
|[],[]=>by simp[Z.Hy]
|[],_::_=>by simp[Z.Hy]
|_::_,[]=>by simp[Z.Hy]
|a::as,b::bs=>by
 unfold Z.Hy;rw[JQ];by_cases h:a<b
 .simp[C49]
 .by_cases h2:a=b
  .subst h2;simp
  .simp[C49]
theorem nc:DZ X .LtE Z.oLe:=⟨_,UL.or Gf,λ x y dx dy d H Q h1 h2 e k=>by
 unfold Z.oLe at e;split at e
 .cases e;exact .inl ⟨_,_,h1.int,h2.int,k _ H (aJ.refl H) c8⟩
 .cases e;refine .inr ⟨_,_,h1.str,h2.str,?_⟩;rename_i as bs;have q:=k (.bl<|!Z.Hy bs as) H (aJ.refl H) c8;rw[JQ]at q;exact q
 .cases e⟩
def Vy:Z.D->Bool
|.non=>Ch
|_=>AT
theorem Js{K:Da}(h:bR K H d v):decide (v=.non)=Vy d:=by
 cases d with
 |non=>rw[h.non];rfl
 |bl b=>rw[h.bl];rfl
 |int i=>rw[h.int];rfl
 |str cs=>rw[h.str];rfl
 |tup ds=>let⟨a,vs,rfl,_⟩:=h.tup;rfl
 |lst ds=>let⟨a,vs,rfl,_⟩:=h.lst;rfl
 |dct ks ds=>let⟨a,o,a9,rfl,_⟩:=h.dct;rfl
theorem NK:∀σ H Q,tZ X.K (Z.eU Z.gD fa) σ H Q->O7 (λ x y H Q=>y=.non/\Q (.bl<|decide<|x=.non) H) (O6 X.K fa) (tC .non) σ H Q:=by rintro σ H Q ⟨ρ,d,r,e,k⟩;let⟨x,ea,e⟩:=XV e;refine⟨ρ,x,r,ea,λ v H1 s1 d1=>⟨rfl,?_⟩⟩;rw[Js d1];cases x<;>(cases e;exact k _ H1 s1 c8)
theorem Jr:∀σ H Q,tZ X.K (Z.eU Z.lY fa) σ H Q->O7 (λ x y H Q=>y=.non/\Q (.bl<|!decide (x=.non)) H) (O6 X.K fa) (tC .non) σ H Q:=by rintro σ H Q ⟨ρ,d,r,e,k⟩;let⟨x,ea,e⟩:=XV e;refine⟨ρ,x,r,ea,λ v H1 s1 d1=>⟨rfl,?_⟩⟩;rw[Js d1];cases x<;>(cases e;exact k _ H1 s1 c8)
theorem _root_.ZQ.mh(ha:ZQ.QW X a fa):ZQ.QT X (.Compare a [.Is] [.Constant .none j pos'] pos) (Z.tE<|Z.eU Z.gD fa):=⟨rM (yg Jf ha.p yh<|uj _) NK⟩
theorem _root_.ZQ.Fe(ha:ZQ.QW X a fa):ZQ.QT X (.Compare a [.IsNot] [.Constant .none j pos'] pos) (Z.tE<|Z.eU Z.lY fa):=⟨rM (yg MP ha.p yh<|uj _) Jr⟩
theorem K?:DZ X .NotIn Z.pz:=⟨_,yk,λ x y dx dy d H Q h1 h2 e k=>by
 unfold Z.pz at e;split at e
 .cases e;refine⟨_,_,h1.str,h2.str,?_⟩;rename_i c t;rw[l4,ZP];exact k _ H (aJ.refl H) c8
 .cases e⟩
theorem _root_.ZQ.ji(h:ZQ.QE X a fa):ZQ.QE X (.BoolOp op [a] pos) fa:=⟨Qz h.p⟩
theorem _root_.ZQ.oq{rest:γ ι}(ha:ZQ.QE X a fa)(hb:ZQ.QE X (.BoolOp .And (b::rest) pos) fb):ZQ.QE X (.BoolOp .And (a::b::rest) pos) (Z.uM fa fb):=⟨PE.imp (QH ha.p hb.p) <|by
 rintro σ H Q ⟨ρ,d,r,e,k⟩;let⟨x,ea,e⟩:=XV e;refine⟨ρ,x,r,ea,λ v H1 s1 d1=>?_⟩;split at e
 .rename_i q;simp only[Den]at d1;refine⟨q,d1,?_⟩;cases q with
  |true=>simp only[A25]at e ⊢;exact⟨ρ,d,r.up s1,e,λ w H' s2 dw=>k w H' (s1.trans s2) dw⟩
  |false=>simp only[A48]at e ⊢;cases e;exact k _ H1 s1 c8
 .cases e⟩
theorem _root_.ZQ.Fh{rest:γ ι}(ha:ZQ.QE X a fa)(hb:ZQ.QE X (.BoolOp .Or (b::rest) pos) fb):ZQ.QE X (.BoolOp .Or (a::b::rest) pos) (Z.Tv fa fb):=⟨PE.imp (UH ha.p hb.p) <|by
 rintro σ H Q ⟨ρ,d,r,e,k⟩;let⟨x,ea,e⟩:=XV e;refine⟨ρ,x,r,ea,λ v H1 s1 d1=>?_⟩;split at e
 .rename_i q;simp only[Den]at d1;refine⟨q,d1,?_⟩;cases q with
  |false=>simp only[A48]at e ⊢;exact⟨ρ,d,r.up s1,e,λ w H' s2 dw=>k w H' (s1.trans s2) dw⟩
  |true=>simp only[A25]at e ⊢;cases e;exact k _ H1 s1 c8
 .cases e⟩
theorem _root_.ZQ.Sm(ha:ZQ.QE X a fa):ZQ.QE X (.UnaryOp .Not a pos) (Z.Oh fa):=⟨PE.imp (QB ha.p) <|by
 rintro σ H Q ⟨ρ,d,r,e,k⟩;let⟨x,ea,e⟩:=XV e;refine⟨ρ,x,r,ea,λ v H1 s1 d1=>?_⟩;split at e
 .simp only[Den]at d1;cases e;exact⟨_,d1,k _ H1 s1 c8⟩
 .cases e⟩
theorem Qj:∀σ H Q,T7 X.K (Z.tE f) σ H Q->tB (tZ X.K f) σ H Q:=by
 rintro σ H Q ⟨ρ,b,r,e,q⟩;let⟨x,ea,e⟩:=XV e;refine⟨ρ,x,r,ea,λ v H' s d=>?_⟩;split at e
 .cases e;simp only[Den]at d;exact⟨_,d,q H' s⟩
 .cases e
theorem _root_.ZQ.hV(h:ZQ.QE X e f)(he:∀whole,isTrue e X.env whole=(do let v ←whole;standAt e.pos;holding [v] (truthy v)):=by intro _;rfl):ZQ.QT X e (Z.tE f):=⟨PT.imp (IM h.p he) Qj⟩
theorem _root_.ZQ.cJ(h:ZQ.QT X a t):ZQ.QT X (.UnaryOp .Not a pos) (Z.fZ t):=⟨PT.imp (IP h.p) <|by rintro σ H Q ⟨ρ,b,r,e,q⟩;let⟨x,ea,e⟩:=XV e;cases e;exact⟨ρ,x,r,ea,λ H' s=>q H' s⟩⟩
theorem _root_.ZQ.sU(h:ZQ.QT X a t):ZQ.SK X (.BoolOp .And [a] pos) t:=⟨pw_and1 h.p⟩
theorem _root_.ZQ.jW(h:ZQ.QT X a t):ZQ.SK X (.BoolOp .Or [a] pos) t:=⟨pw_or1 h.p⟩
theorem _root_.ZQ.yZ{rest:γ ι}(ha:ZQ.QT X a t)(hb:ZQ.SK X (.BoolOp .And (b::rest) pos) u):ZQ.SK X (.BoolOp .And (a::b::rest) pos) (Z.vw t u):=⟨PW.imp (pw_and ha.p hb.p) <|by
 rintro σ H Q ⟨ρ,d,r,e,k⟩;let⟨x,ea,e⟩:=XV e;refine⟨ρ,x,r,ea,λ H1 s1=>?_⟩;cases x with
 |true=>simp only[A25]at e ⊢;exact⟨ρ,d,r.up s1,e,λ H' s2=>k H'<|s1.trans s2⟩
 |false=>simp only[A48]at e ⊢;cases e;exact k H1 s1⟩
theorem _root_.ZQ.mf{rest:γ ι}(ha:ZQ.QT X a t)(hb:ZQ.SK X (.BoolOp .Or (b::rest) pos) u):ZQ.SK X (.BoolOp .Or (a::b::rest) pos) (Z.BM t u):=⟨PW.imp (pw_or ha.p hb.p) <|by
 rintro σ H Q ⟨ρ,d,r,e,k⟩;let⟨x,ea,e⟩:=XV e;refine⟨ρ,x,r,ea,λ H1 s1=>?_⟩;cases x with
 |false=>simp only[A48]at e ⊢;exact⟨ρ,d,r.up s1,e,λ H' s2=>k H'<|s1.trans s2⟩
 |true=>simp only[A25]at e ⊢;cases e;exact k H1 s1⟩
theorem _root_.ZQ.Fd(h:ZQ.SK X e t):ZQ.QT X e t:=⟨h.p.pt⟩
theorem _root_.ZQ.Bt(hc:ZQ.QT X c t)(ha:ZQ.QE X a fa)(hb:ZQ.QE X b fb):ZQ.QE X (.IfExp c a b pos) (Z.YB t fa fb):=⟨PE.imp (I? hc.p ha.p hb.p) <|by
 rintro σ H Q ⟨ρ,d,r,e,k⟩;let⟨x,ea,e⟩:=XV e;refine⟨ρ,x,r,ea,λ H1 s1=>?_⟩;cases x with
 |true=>simp only[A25]at e ⊢;exact⟨ρ,d,r.up s1,e,λ w H' s2 dw=>k w H' (s1.trans s2) dw⟩
 |false=>simp only[A48]at e ⊢;exact⟨ρ,d,r.up s1,e,λ w H' s2 dw=>k w H' (s1.trans s2) dw⟩⟩
theorem _root_.ZQ.az:ZQ.QA X [] Z.aC:=⟨PA.imp cP <|by rintro σ H Q ⟨ρ,ds,r,e,k⟩;cases e;exact k [] H (aJ.refl H) aE.nil⟩
theorem iV(ha:DE X e f)(hr:DA X es g)(hs:Se e es X.env:=by rfl):DA X (e::es) (Z.aa f g):=PA.imp (bH ha hr hs) <|by rintro σ H Q ⟨ρ,ds,r,e,k⟩;let⟨x,ea,e⟩:=XV e;let⟨xs,eb,e⟩:=XV e;cases e;exact⟨ρ,x,r,ea,λ v H1 s1 d1=>⟨ρ,xs,r.up s1,eb,λ vs H2 s2 d2=>k _ H2 (s1.trans s2)<|aE.cons (d1.up s2) d2⟩⟩
theorem _root_.ZQ.cj(h:ZQ.QA X es g):ZQ.QE X (.Tuple es x1 pos) (Z.eE g):=⟨PE.imp (I0 h.p) <|by
 rintro σ H Q ⟨ρ,d,r,e,k⟩;let⟨xs,ea,e⟩:=XV e;unfold Z.guard at e;split at e
 .rename_i hl;cases e;refine⟨ρ,xs,r,ea,λ vs H1 s1 d1=>⟨by rw[d1.length,A23];exact hl,λ q hq=>?_⟩⟩;have s2:aJ H1 (upd H1 q<|.tup vs):=cn hq;exact k _ _ (s1.trans s2)<|fL (.inl<|.inl aO)<|d1.up s2
 .cases e⟩
theorem _root_.ZQ.br(h:ZQ.QA X es g):ZQ.QL X (.List es pos) (Z.b? g):=⟨PE.imp (QC h.p) <|by
 rintro σ H Q ⟨ρ,d,r,e,k⟩;let⟨xs,ea,e⟩:=XV e;unfold Z.guard at e;split at e
 .rename_i hl;cases e;refine⟨ρ,_,r,ea,λ vs H1 s1 d1=>⟨by rw[d1.length,A23];exact hl,λ q hq=>?_⟩⟩;have s2:aJ H1 (upd H1 q<|.lst vs):=cn hq;exact k q vs _ (s1.trans s2) (s1.free hq) aO<|d1.up s2
 .cases e⟩
end
end ZS
namespace ZS
open L2
def TZ:Z.Ty->String
|.bool=> "bool"|.int=> "int"|.str=> "str"|.tuple=> "tuple"|.list=> "list"|.dict=> "dict"
def tyD:Z.D->String
|.non=> "NoneType"|.bl _=> "bool"|.int _=> "int"|.str _=> "str"|.tup _=> "tuple"|.lst _=> "list"|.dct _ _=> "dict"
theorem Ny(K:Da)(t:Z.Ty)(d:Z.D):PySem.W.kitOne K (.type<|tyD d) (.type<|TZ t)=AC (Z.eI t d):=by cases t<;>cases d<;>kernel_rfl
theorem J3(t:Z.Ty)(I:Inv X χ σ H s)(hd:bR X.K H d v)(r:RelV v u)
 (h:∀tk,Q (.bool<|Z.eI t d) {s with toks:=tk}):EQ (model X.prog X.w) A (call (.builtin "isinstance") [u,.type (TZ t)]) Q E s:=by
 have e:=Ny X.K t d;cases d with
 |non=>rw[hd.non]at r;cases (r);exact A95 PySem.W.kitx_none I.lH IR e (λ z=>nomatch z) h
 |bl y=>rw[hd.bl]at r;cases (r);exact A95 PySem.W.kitx_bool I.lH IR e (λ z=>nomatch z) h
 |int i=>rw[hd.int]at r;obtain⟨t',q⟩:=(r);cases q;exact A95 PySem.W.kitx_int I.lH IR e (λ z=>nomatch z) h
 |str cs=>rw[hd.str]at r;obtain⟨t',q⟩:=(r);cases q;exact A95 PySem.W.kitx_str I.lH IR e (λ z=>nomatch z) h
 |tup ds=>let⟨a,vs,rfl,hq,_⟩:=hd.tup;cases (r);let⟨bq,_,⟨o,h1,h2,_⟩,_⟩:=I.tuple hq;exact A95 PySem.W.kitx_tuple I.lH ⟨o,h1,h2⟩ e (λ z=>nomatch z) h
 |lst ds=>let⟨a,vs,rfl,hq,_⟩:=hd.lst;cases (r);let⟨bq,_,⟨o,n,h1,h2,_⟩,_⟩:=I.list hq;exact A95 PySem.W.kitx_list I.lH ⟨o,h1,h2⟩ e (λ z=>nomatch z) h
 |dct ks ds=>
  let⟨a,o,a9,rfl,hq,_⟩:=hd.dct;cases (r);obtain⟨_,_,_,_,_,o',es,ep,h1,h2,_⟩:=(I.b9 a _ hq)
  exact A95 PySem.W.kitx_dict I.lH ⟨o',h1,h2.1⟩ e (λ z=>nomatch z) h
theorem _root_.ZQ.fM(t:Z.Ty)(hg:Gl X x)(hm:X.mg x=At)(hv:bootBuiltins x=AC (.builtin "isinstance"))(hg2:Gl X y)(hm2:X.mg y=At)(Tg:bootBuiltins y=AC (.type<|TZ t))(ha:ZQ.QW X a fa)
 (hn:x≠ "__name__":=by decide +kernel) (gQ:(x==("__debug__"))=AT:=by decide +kernel) (HD:y≠ "__name__":=by decide +kernel) (_2:(y==("__debug__"))=AT:=by decide +kernel)
 (he:starEach (a::[.Name y p2]) X.env=(AT,eval a X.env)::starEach [.Name y p2] X.env:=by rfl) (fQ:(backTo pos<|starEach [.Name y p2] X.env).any (·.1)=AT:=by rfl) (Pw:starEach ((.Name y p2)::[]) X.env=(AT,eval (.Name y p2) X.env)::starEach [] X.env:=by rfl) :
 ZQ.QE X (.Call (.Name x p1) [a,.Name y p2] [] pos) (Z.eU (Z.j' t) fa):=⟨by
 have hc:nM X (.builtin "isinstance") (λ xs H Q=>∃v d,xs=[v,.ty (TZ t)]/\bR X.K H d v/\Q (.bl<|Z.eI t d) H):=by intro χ s σ H xs us Q I r h;let⟨v,d,rfl,hd,q⟩:=h;let⟨u,w',rfl,r1,r2⟩:=vals2 r;cases (r2);exact J3 t I hd r1 λ tk=>⟨.bl _,H,I.tok _,rfl,q⟩
 refine PE.imp (j8 hc hg hm hv (bH ha.p (bH (MM (v:=.ty (TZ t)) hg2 hm2 Tg rfl HD _2) cP Pw) he) hn gQ he fQ) ?_;rintro σ H Q ⟨ρ,d,r,e,k⟩;let⟨x,ea,e⟩:=XV e;cases e;exact⟨ρ,x,r,ea,λ v H1 s1 d1=>⟨v,x,rfl,d1,k _ H1 s1 c8⟩⟩⟩
theorem _root_.ZQ.bN{x:Str}(hm:X.mg x=At)(ha:ZQ.QW X a fa)(hn:x≠ "__name__":=by decide +kernel)(gQ:(x == ("__debug__"))=AT:=by decide +kernel)(he:Se a [] X.env:=by rfl)(fQ:Pn pos [] X.env:=by rfl)(hg:Gl X x:=by rfl)(hv:bootBuiltins x=AC (.builtin "len"):=by kernel_rfl):ZQ.QE X (.Call (.Name x p1) [a] [] pos) (Z.eU Z.cQ fa):=
 ⟨PE.imp (j8 K' hg hm hv (bH ha.p cP he) hn gQ he fQ) <|by
  rintro σ H Q ⟨ρ,d,r,e,k⟩;let⟨x,ea,e⟩:=XV e;refine⟨ρ,x,r,ea,λ v H1 s1 d1=>?_⟩;unfold Z.cQ at e;split at e
  .unfold Z.guard at e;split at e
   .rename_i cs hl;cases e;rw[d1.str];refine⟨_,_,rfl,⟨?_,?_⟩,k _ H1 s1 c_⟩
    .show cs.toArray.size<=sizeLine;rw[A23];simpa using hl
    .show cs.length=cs.toArray.size;simp
   .cases e
  .cases e;let⟨q,vs,rfl,hq,t⟩:=d1.tup;refine⟨_,_,rfl,.inr ⟨vs,hq,rfl⟩,?_⟩;rw[t.length];exact k _ H1 s1 c_
  .cases e;let⟨q,vs,rfl,hq,t⟩:=d1.lst;refine⟨_,_,rfl,.inl ⟨vs,hq,rfl⟩,?_⟩;rw[t.length];exact k _ H1 s1 c_
  .cases e⟩
theorem Rx(n:Nat)(i:Int):Z.xf n i=Vu n i:=rfl
theorem atZ{K:Da}(t:aE K H ds vs)(h:((Z.xf ds.length i).bind λ j=>ds[j]?)=AC d):∃v,Sy vs i=AC v/\Den K H d v:=by
 unfold Sy;rw[t.length,<-Rx];cases q:Z.xf _ i with
 |none=>rw[q]at h;cases h
 |some j=>rw[q]at h;exact t.get h
theorem _root_.ZQ.aF(ha:ZQ.QW X a fa)(hb:ZQ.QW X b fb)(hs:FA b:=by intro _ _;rfl):ZQ.QE X (.Subscript a b pos) (Z.eB Z.aR fa fb):=⟨PE.imp (UI Rw ha.p hb.p hs) (two λ x y dx dy d H Q h1 h2 e k=>by
 unfold Z.aR at e;split at e
 .let⟨q,vs,rfl,hq,t⟩:=h1.tup;split at e
  .rename_i v hv;cases e;let⟨w,e1,dw⟩:=atZ t hv;exact .inr<|.inl ⟨q,vs,_,w,rfl,h2.int,hq,e1,k w H (aJ.refl H) dw⟩
  .cases e
 .let⟨q,vs,rfl,hq,t⟩:=h1.lst;split at e
  .rename_i v hv;cases e;let⟨w,e1,dw⟩:=atZ t hv;exact .inl ⟨q,vs,_,w,rfl,h2.int,hq,e1,k w H (aJ.refl H) dw⟩
  .cases e
 .unfold Z.guard at e;split at e
  .rename_i cs i hl;split at e
   .rename_i c hc;cases e;refine .inr<|.inr ⟨_,_,c,h1.str,h2.int,?_,?_,?_⟩
    .show cs.toArray.size<=sizeLine;rw[A23];simpa using hl
    .exact hc
    .exact k _ H (aJ.refl H)<|kX
   .cases e
  .cases e
 .cases e)⟩
theorem _root_.ZQ.Bo:ZQ.QP X At Z.MN:=⟨PO.imp MG <|by rintro σ H Q ⟨ρ,o,r,e,k⟩;cases e;exact k H<|aJ.refl H⟩
theorem _root_.ZQ.ka(h:ZQ.QW X e f):ZQ.QP X (AC e) (Z.r8 f):=⟨PO.imp (MF h.p) <|by
 rintro σ H Q ⟨ρ,o,r,e,k⟩;let⟨x,ea,e⟩:=XV e;refine⟨ρ,x,r,ea,λ v H1 s1 d1=>?_⟩;split at e
 .cases e;exact⟨_,d1.int,k H1 s1⟩
 .cases e⟩
theorem qw(n d:Nat)(o:ε Int):Z.d_ n d o=HT.d_ n d o:=by cases o<;>rfl
theorem Dw{K:Da}(t:aE K H ds vs)(lo hi:ε Int):aE K H (Z.cut ds lo hi) (wb vs lo hi):=by unfold Z.cut wb;rw[qw,qw,t.length];exact(t.drop _).take _
theorem He{lo hi:ε Int}(h1:HT.d_ xs.length 0 lo=0)(h2:HT.d_ xs.length xs.length hi=xs.length):Z.cut xs lo hi=xs:=by unfold Z.cut;rw[qw,qw,h1,h2];simp
def Zx(K:Da):V->ε Int->ε Int->Hp->VK->Prop:=λ x lo hi H Q=>∃a xs,x=.ref a/\mV K H a xs/\(wb xs lo hi=xs->Q (.ref a) H)/\∀p,H p=At->Q (.ref p) (upd H p<|.tup<|wb xs lo hi)
theorem m9{lo hi:ε Int}(ht:IsTup s.heap t items)(hs:s.heap.IsSliceOf sl vl vu .none)(pl:IsPart vl lo)(pu:IsPart vu hi)
 (hw:HT.d_ items.size 0 lo=0/\HT.d_ items.size items.size hi=items.size)
 (h:Q (.ref t) s):EQ (model prog w) A (getItem (.ref t)<|.ref sl) Q E s:=by
 let⟨os,RJ,E3,V6⟩:=id hs;have hTs:s.TypeIs (.ref sl) "slice":=⟨os,RJ,E3⟩
 unfold getItem
 try with_reducible refine A38 ?_
 first|refine T0<|P3 ?_|skip
 refine T0<|wpAny_sequenceKey ht.typeIs ∅ ?_;refine T0 (B03 (name:=Db "__getitem__") ht.typeIs B04
 <|B05 B04 ht.typeIs entry_tuple_getitem ?_<|args_tuple_getitem _ _)
 show EQ _ _ (Uf (.ref t)>>=_) _ _ s;refine T0<|tupleItemsOf_ ht ?_;refine T0<|wpAny_typeOf hTs ?_;rw[M2 ∅];refine T0<|HT.j5 hs pl pu ?_;have _g:(((HT.d_ items.size 0 lo):Int)==0&&(1:Int)==1&&(HT.d_ items.size items.size hi-HT.d_ items.size 0 lo)==items.size)=Ch:=by rw[hw.1,hw.2];simp
 show EQ _ _ (if(((HT.d_ items.size 0 lo:Nat):Int)==0&&(1:Int)==1&&(HT.d_ items.size items.size hi-HT.d_ items.size 0 lo)==items.size)=Ch then _ else _) _ _ s;rw[M2 _g];refine T0 ?_;unfold Builtin.Tuple.tupleIsExact;refine T0<|wpAny_typeOf ht.typeIs ?_;refine P3 ?_;rw[M2<|A94 _];refine T0<|B29 ?_;exact P3 ⟨.ref t,rfl,P3 h⟩
theorem Ml:OU X (Zx X.K):=by
 intro χ s σ H x v vl vu lo hi sl Q I rx hs pl pu h;let⟨a,xs,rfl,hx,q1,q2⟩:=h;by_cases hw:HT.d_ xs.length 0 lo=0/\HT.d_ xs.length xs.length hi=xs.length
 .cases rx;let⟨bq,r,ht,hz⟩:=I.tuple hx;have ψ:bq.toArray.size=xs.length:=by rw[A10];exact r.length.symm
  refine⟨"tuple",_,B04.lookup,ht.typeIs,?_⟩;refine m9 ht hs pl pu (by rw[ψ];exact hw) ⟨.ref a,H,I,rfl,q1 ?_⟩;have:=He hw.1 hw.2;unfold Z.cut at this;rw[qw,qw]at this;exact this
 .exact Ql χ s σ H _ v vl vu lo hi sl Q I rx hs pl pu ⟨a,xs,rfl,hx,hw,q2⟩
def Zz:V->ε Int->ε Int->Hp->VK->Prop:=λ x lo hi H Q=>∃z,x=.str z/\z.length<=sizeLine/\Q (.str<|Txt.slice z lo hi) H
theorem Jb(h:IsPart v o):∃q,v=partValue q/\q.map (·.1)=o:=by
 cases h with
 |none=>exact⟨At,rfl,rfl⟩
 |int i t=>exact⟨AC (i,t),rfl,rfl⟩
theorem Mm:OU X Zz:=by intro χ s σ H x v vl vu lo hi sl Q I rx hs pl pu h;let⟨z,rfl,hz,q⟩:=h;let⟨t,rfl⟩:=rx;let⟨ql,rfl,rfl⟩:=Jb pl;let⟨qu,rfl,rfl⟩:=Jb pu;refine⟨"str",_,F.slot_str_getitem.lookup,typeIs_str _ _ _,?_⟩;refine wpAny_getItem_str_slice (st:=At) hs rfl ?_;refine post_val_or_str ⟨A13 (Txt.slice_le z _ _) hz,λ t' k=>⟨.str _,H,I.tok _,⟨t',rfl⟩,q⟩⟩
theorem _root_.ZQ.ki{lo hi:ε ι}(ha:ZQ.QW X a fa)(hl:ZQ.QP X lo gl)(hh:ZQ.QP X hi gh):ZQ.QE X (.Subscript a (.Slice lo hi At p2) pos) (Z.HF fa gl gh):=
 ⟨have hl:=hl.p;PE.imp (Ai (Mm.or Ml) ha.p hl hh.p) <|by
  rintro σ H Q ⟨ρ,d,r,e,k⟩;let⟨x,ea,e⟩:=XV e;let⟨l,el,e⟩:=XV e;let⟨h,eh,e⟩:=XV e;refine⟨ρ,x,r,ea,λ v H1 s1 d1=>⟨ρ,l,r.up s1,el,λ H2 s2=>⟨ρ,h,(r.up s1).up s2,eh,λ H3 s3=>?_⟩⟩⟩;have LG:=(s1.trans s2).trans s3;have d3:=(d1.up s2).up s3;unfold Z.S8 at e;split at e
  .unfold Z.guard at e;split at e
   .rename_i cs _ _ hl;cases e;refine .inl ⟨_,d3.str,?_,?_⟩
    .show cs.toArray.size<=sizeLine;rw[A23];simpa using hl
    .rw[Ue];exact k _ H3 LG kX
   .cases e
  .cases e;let⟨q,vs,rfl,hq,t⟩:=d3.tup;refine .inr ⟨q,vs,rfl,hq,λ hw=>?_,λ z hz=>?_⟩
   .have:=Dw t l h;rw[hw]at this;exact k _ H3 LG<|fL hq this
   .have s4:aJ H3 (upd H3 z<|.tup<|wb vs l h):=cn hz;exact k _ _ (LG.trans s4)<|fL (.inl<|.inl aO)<|(Dw t l h).up s4
  .cases e⟩
theorem _root_.ZQ.uP{lo hi:ε ι}(ha:ZQ.QW X a fa)(hl:ZQ.QP X lo gl)(hh:ZQ.QP X hi gh):ZQ.QL X (.Subscript a (.Slice lo hi At p2) pos) (Z.Nu fa gl gh):=
 ⟨PE.imp (Ai Mn ha.p hl.p hh.p) <|by
  rintro σ H Q ⟨ρ,d,r,e,k⟩;let⟨x,ea,e⟩:=XV e;let⟨l,el,e⟩:=XV e;let⟨h,eh,e⟩:=XV e;refine⟨ρ,x,r,ea,λ v H1 s1 d1=>⟨ρ,l,r.up s1,el,λ H2 s2=>⟨ρ,h,(r.up s1).up s2,eh,λ H3 s3=>?_⟩⟩⟩;have LG:=(s1.trans s2).trans s3;have d3:=(d1.up s2).up s3;split at e
  .cases e;let⟨q,vs,rfl,hq,t⟩:=d3.lst;refine⟨q,vs,rfl,hq,λ z hz=>?_⟩;have s4:aJ H3 (upd H3 z<|.lst<|wb vs l h):=cn hz;exact k z _ _ (LG.trans s4) (LG.free hz) aO<|(Dw t l h).up s4
  .cases e⟩
def UD(K:Da):R2:=λ x y H Q=>∃l b xs zs,x=.ref l/\y=.ref b/\jw K H l xs/\jw K H b zs/\xs.length+zs.length<=sizeLine/\∀p,H p=At->Q (.ref p) (upd H p<|.lst<|xs++zs)
theorem MW:jQ X (binaryOp .Add) (UD X.K):=by
 intro χ s σ H x y v u Q I rx ry h;let⟨l,b,xs,zs,rfl,rfl,hH,hB,hz,q⟩:=h;cases rx;cases ry;let⟨bq,r,pl,_⟩:=I.list hH;let⟨iz,r2,pl2,_⟩:=I.list hB;have hl:=r.length;have NV:=r2.length;let⟨⟨cls,dd,data,sl⟩,ho,hc,n,hd⟩:=id pl.isList;let⟨⟨WE,Tw,data2,S0⟩,HB,yN,n2,hd2⟩:=id pl2.isList;simp only at hc hd yN hd2;subst hc hd yN hd2;have ea:bq.toArray++iz.toArray=(bq++iz).toArray:=by simp
 refine B50 ⟨_,ho,rfl⟩ ⟨_,HB,rfl⟩ noFill_list_add seq_list_add PySem.F.slot_list_add PySem.F.entry_list_add (PySem.F.args_list_add_2 _ _) (list_addW l b _ _ n n2 dd Tw sl S0 (by simp only[A10];lia)) ⟨ho,HB,?_⟩;rw[ea];exact⟨.ref _,_,I.Vm (r.append r2) (by rw[A30];lia),rfl,q _ I.fresh⟩
theorem _root_.ZQ.Dq(ha:ZQ.QW X a fa)(hb:ZQ.QW X b fb):ZQ.QL X (.BinOp a .Add b pos) (Z.GG fa fb):=⟨PE.imp (Ex MW ha.p hb.p) <|by
 rintro σ H Q ⟨ρ,d,r,e,k⟩;let⟨x,ea,e⟩:=XV e;let⟨y,eb,e⟩:=XV e;refine⟨ρ,x,r,ea,λ v H1 s1 d1=>⟨ρ,y,r.up s1,eb,λ u H2 s2 d2=>?_⟩⟩;have Up:=s1.trans s2;split at e
 .unfold Z.guard at e;split at e
  .rename_i xs ys hl;cases e;obtain⟨q,vs,rfl,hq,t⟩:=(d1.up s2).lst;let⟨q',vs',rfl,gv,t'⟩:=d2.lst;refine⟨q,q',vs,vs',rfl,rfl,hq,gv,by rw[t.length,t'.length,A23];exact hl,λ z hz=>?_⟩;have s3:aJ H2 (upd H2 z<|.lst<|vs++vs'):=cn hz;exact k z _ _ (Up.trans s3) (Up.free hz) aO<|(t.append t').up s3
  .cases e
 .cases e⟩
def zo(K:Da)(m:γ Z.D->Z.Res Z.D):Sp:=λ vs H Q _=>∃ds d,aE K H ds vs/\m ds=.ok d/\∀v H',aJ H H'->Den K H' d v->Q v H'
theorem Ox(F:ee X.prog X.w X.K X.mg X.base iK k g fd ps (zo X.K m))(hr:bG k X.A)(hg:Gl X x)(hm:X.mg x=AC (.ref g))(hk:FM X.K (.ref g)=Ch)(hb:Binds X.K fd ps [])
 (ha:DA X (e::es) ar) (gQ:(x==("__debug__"))=AT:=by decide +kernel) (he:Se e es X.env:=by rfl) (fQ:Pn pos es X.env:=by rfl) :
 DE X (.Call (.Name x p1) (e::es) [] pos) (Z.aD m ar):=
 PE.imp (yi F hr hg hm hk hb .nil t_ ha gQ he fQ) <|by rintro σ H Q ⟨ρ,d,r,e,k⟩;let⟨ds,ea,e⟩:=XV e;refine⟨ρ,ds,r,ea,λ vs H1 s1 d1=>?_⟩;show zo X.K m _ H1 Q E0;rw[A52];exact⟨ds,d,d1,e,λ v H' s2 dv=>k v H' (s1.trans s2) dv⟩
structure DX(K:Da)(J:It)(S:Hp->Prop)(ds:List Z.D):Prop where
 go:∀(i:Nat)(d:Z.D)(H1:Hp),S H1->ds[i]?=AC d->J.go i H1
 D3:∀(i:Nat)(d:Z.D)(H1 H2:Hp)(x:V),S H1->ds[i]?=AC d->J.D3 i H1 x H2->aJ H1 H2/\Den K H2 d x
 stop:∀(H1:Hp),S H1->J.stop ds.length H1
def tZi(K:Da)(f:Z.LF):TI:=λ σ H R=>∃ρ ds,RE K H σ ρ/\f ρ=.ok ds/\∀J H',aJ H H'->DX K J (aJ H') ds->R J H'
def tZj(K:Da)(f:Z.LF):TI:=λ σ H R=>∃ρ ds,RE K H σ ρ/\f ρ=.ok ds/\∀J H',aJ H H'->DX K J (g0 H') ds->R J H'
abbrev DI(X:Cx)(tg e:ι)(f:Z.LF):Prop:=PI X tg e<|tZi X.K f
structure _root_.ZQ.QI(X:Cx)(tg e:Expr)(f:Z.LF):Prop where p:DI X tg e f
abbrev DJ(X:Cx)(tg e:ι)(f:Z.LF):Prop:=PI X tg e<|tZj X.K f
structure _root_.ZQ.QJ(X:Cx)(tg e:Expr)(f:Z.LF):Prop where p:DJ X tg e f
section
variable{X:Cx}{tg e a b:ι}{es:γ ι}{pos p:Pos}{f fa fb:Z.EF}
theorem PI.imp(h:PI X tg e t)(k:∀σ H R,t' σ H R->t σ H R):PI X tg e t':=λ χ s σ H R I w=>h χ s σ H R I<|k σ H R w
theorem DX.imp{K:Da}(h:DX K J S ds)(k:∀H,S' H->S H):DX K J S' ds:=
 ⟨λ i d H1 s=>h.go i d H1<|k _ s,λ i d H1 H2 x s=>h.D3 i d H1 H2 x<|k _ s,λ H1 s=>h.stop H1<|k _ s⟩
theorem _root_.ZQ.Dt(h:ZQ.QJ X tg e g):ZQ.QI X tg e g:=⟨PI.imp h.p <|by rintro σ H R ⟨ρ,ds,r,e,k⟩;exact⟨ρ,ds,r,e,λ J H' s z=>k J H' s<|z.imp λ _ q=>ky q⟩⟩
theorem NH{K:Da}(h:mV K H q vs)(t:aE K H ds vs):DX K (Itt K q) (g0 H) ds where
 go:=λ i d H1 s hi=>by let⟨v,h1,_⟩:=t.get hi;exact⟨vs,v,fS s h,h1⟩
 D3:=λ i d H1 H2 x s hi y=>by let⟨e,y⟩:=y;let⟨v,h1,h2⟩:=t.get hi;have:=y vs<|fS s h;rw[h1]at this;cases this;subst e;exact⟨aJ.refl _,h2.ups s⟩
 stop:=λ H1 s=>⟨vs,fS s h,by rw[t.length];exact v4 _⟩
theorem NJ{K:Da}(h:∀H1,S H1->jw K H1 q vs)(t:∀H1,S H1->aE K H1 ds vs)(t0:aE K H ds vs):DX K (Itl K q) S ds where
 go:=λ i d H1 s hi=>by let⟨v,h1,_⟩:=t0.get hi;exact⟨vs,v,h H1 s,h1⟩
 D3:=λ i d H1 H2 x s hi y=>by let⟨e,y⟩:=y;obtain⟨v,h1,h2⟩:=(t H1 s).get hi;have:=y vs<|h H1 s;rw[h1]at this;cases this;subst e;exact⟨aJ.refl _,h2⟩
 stop:=λ H1 s=>⟨vs,h H1 s,by rw[t0.length];exact v4 _⟩
theorem ints_get(lo:Int)(n i:Nat)(d:Z.D)(h:(Z.zints lo n)[i]?=AC d):i<n/\d=.int (lo+i):=by
 unfold Z.zints at h;rw[A08]at h;cases q:(Ev n)[i]? with
 |none=>rw[q]at h;cases h
 |some j=>rw[q]at h;cases h;let⟨h1,h2⟩:=A07.mp q;rw[B28]at h1;rw[C05]at h2;subst h2;exact⟨h1,rfl⟩
theorem EW{K:Da}(lo:Int)(n:Nat):DX K (PZ lo n) S (Z.zints lo n) where
 go:=λ i d H1 s hi=>(ints_get lo n i d hi).1
 D3:=λ i d H1 H2 x s hi y=>by let⟨e,y⟩:=y;let⟨_,rfl⟩:=ints_get lo n i d hi;subst e;rw[y];exact⟨aJ.refl _,c_⟩
 stop:=λ H1 s=>by unfold Z.zints;rw[A06,B28];exact v4 _
theorem FY{K:Da}(it:δ)(lo:Int)(n:Nat):Turn P w K tg (PZ lo n) [it] it (λ i h=>IsLongIter h it (lo+(i)*1) ((n)-(i)) 1) where
 mem:=by simp
 obj:=λ i h st b hb=>by
  have e:b=it:=by simpa using hb
  subst e;exact⟨_,st,λ v z=>by have z':=z;cases z'⟩
 keep:=λ i h h' st k=>k it ∅ _ st
 item:=by intro X hP hw hK hc i χ s σ H E I hf st hg;subst hP hw hK;let⟨f0,f1,f2,f3,f4,f5⟩:=hf it ∅;have W:=Walks.longrange (prog:=X.prog) (w:=X.w) (I.ok.hd hc) it lo 1 n;refine W.item i s _ _ hg st λ v h' tk hv z6 kk=>?_;let⟨t,rfl⟩:=hv;have I1:Inv X χ σ H {s with heap:=h',toks:=tk}:=I.turned (λ b o hb e=>kk b o (by simpa using hb) e) f0 f1 f3 f4 f5;refine⟨_,rfl,A7 z6 rfl rfl ∅ ⟨.int _,H,I1,⟨t,?_⟩,⟨rfl,rfl⟩,z6,λ b hb=>(hf b hb).1⟩⟩;rw[B49]
 done:=by intro X hP hw hK hc i χ s σ H E I hf st hg;subst hP hw hK;let⟨f0,f1,f2,f3,f4,f5⟩:=hf it ∅;exact wpAny_pyNext_long_end (I.ok.hd hc) st (by have:n<=i:=hg;lia) λ h' eb=>⟨rfl,I.turned (λ b o hb e=>eb b o hb e) f0 f1 f3 f4 f5⟩
 self:=λ _ _ _ _ _ st h=>wpAny_pyIter_longiter st h
theorem range_any{lo hi:Int}{t u v:Tok}{tk:Nat}(I:Inv X χ σ H s)
 (q:R (PZ lo (hi-lo).toNat) H):EQ (model X.prog X.w) X.A (pyIter<|.ref s.heap.objs.size) (YO X χ σ tg R) E {s with heap:=s.heap.push {cls:=.type "range",data:=.fields #[.int lo t,.int hi u,.int 1 v]},toks:=tk}:=by
 have I1:Inv X χ σ H {s with heap:=s.heap.push {cls:=.type "range",data:=.fields #[.int lo t,.int hi u,.int 1 v]},toks:=tk}:=I.kept λ b o e=>v6 _ e;have e1:lo+((0:Nat):Int)*1=lo:=by simp
 have e2:(((hi-lo).toNat:Nat):Int)-((0:Nat):Int)=Builtin.Range.rangeSize lo hi 1:=by rw[rangeSize_one];split<;>lia
 cases hs:Builtin.Range.small lo hi 1 with
 |true=>
  refine wpAny_pyIter_range (IsRange.new ..) hs ?_;refine⟨(s.heap.push {cls:=.type "range",data:=.fields #[.int lo t,.int hi u,.int 1 v]}).objs.size,[(s.heap.push {cls:=.type "range",data:=.fields #[.int lo t,.int hi u,.int 1 v]}).objs.size],_,_,H,rfl,
   I1.kept (t':=tk) λ b o e=>v6 _ e,Cc _ lo (hi-lo).toNat,?_,λ b hb=>?_,q⟩
  .show IsRangeIter _ _ (lo+((0:Nat):Int)*1) ((((hi-lo).toNat:Nat):Int)-((0:Nat):Int)) 1;rw[e1,e2];exact A14 _ rfl
  .have e:b=(s.heap.push {cls:=.type "range",data:=.fields #[.int lo t,.int hi u,.int 1 v]}).objs.size:=by simpa using hb
   subst e;exact I1.vT (v4 _)<|I1.b9.fresh<|v4 _
 |false=>
  refine wpAny_pyIter_longrange (IsRange.new ..) hs ?_;refine⟨(s.heap.push {cls:=.type "range",data:=.fields #[.int lo t,.int hi u,.int 1 v]}).objs.size,[(s.heap.push {cls:=.type "range",data:=.fields #[.int lo t,.int hi u,.int 1 v]}).objs.size],_,_,H,rfl,
   I1.kept (t':=tk) λ b o e=>v6 _ e,FY _ lo (hi-lo).toNat,?_,λ b hb=>?_,q⟩
  .show IsLongIter _ _ (lo+((0:Nat):Int)*1) ((((hi-lo).toNat:Nat):Int)-((0:Nat):Int)) 1;rw[e1,e2];exact A14 _ rfl
  .have e:b=(s.heap.push {cls:=.type "range",data:=.fields #[.int lo t,.int hi u,.int 1 v]}).objs.size:=by simpa using hb
   subst e;exact I1.vT (v4 _)<|I1.b9.fresh<|v4 _
def WT(ta:TA):TI:=λ σ H R=>ta σ H λ vs H1=>∃j:Int,vs=[.int j]/\R (PZ 0 j.toNat) H1
def WS(ta:TA):TI:=λ σ H R=>ta σ H λ vs H1=>∃i j:Int,vs=[.int i,.int j]/\R (PZ i (j-i).toNat) H1
theorem MI(hg:Gl X "range")(hm:X.mg "range"=At)(ha:PA X [a] ta)(hs:starEach [a] X.env=[(AT,eval a X.env)]:=by rfl):PI X tg (.Call (.Name "range" p) [a] [] pos) (WT ta):=by
 intro χ s σ H R I h;refine Call_<|kM I hg hm boot_range<|B23 (cA (ha pos χ s σ H _ I h) ?_) hs rfl;rintro us s1 ⟨vs,H1,I1,r1,q1⟩;let⟨j,e,q⟩:=q1;subst e;cases r1 with
 |cons r rr=>cases rr;let⟨t,rfl⟩:=r;exact call_range_1<|range_any I1 (by simpa using q)
theorem MH(hg:Gl X "range")(hm:X.mg "range"=At)(ha:PA X [a,b] ta)(hs:starEach [a,b] X.env=[(AT,eval a X.env),(AT,eval b X.env)]:=by rfl)(yJ:starEach [b] X.env=[(AT,eval b X.env)]:=by rfl):
 PI X tg (.Call (.Name "range" p) [a,b] [] pos) (WS ta):=by
 intro χ s σ H R I h;refine Call_<|kM I hg hm boot_range<|B23 (cA (ha pos χ s σ H _ I h) ?_) (by rw[hs,yJ]) (by rw[yJ];rfl);rintro us s1 ⟨vs,H1,I1,r1,q1⟩;let⟨i,j,e,q⟩:=q1;subst e;cases r1 with
 |cons r rr=>
  cases rr with
  |cons r' rr=>cases rr;let⟨t,rfl⟩:=r;let⟨t',rfl⟩:=r';exact call_range_2<|range_any I1 q
theorem _root_.ZQ.c7(hm:X.mg "range"=At)(ha:ZQ.QE X a fa)(hs:starEach [a] X.env=[(AT,eval a X.env)]:=by rfl)(qb:Se a [] X.env:=by rfl)(hg:Gl X "range":=by rfl):ZQ.QJ X tg (.Call (.Name "range" p) [a] [] pos) (Z.fT fa):=
 ⟨PI.imp (MI hg hm (bH ha.p cP qb) hs) <|by
  rintro σ H R ⟨ρ,ds,r,e,k⟩;let⟨x,ea,e⟩:=XV e;refine⟨ρ,x,r,ea,λ v H1 s1 d1=>?_⟩;split at e
  .rename_i j;cases e;simp only[Den]at d1;exact⟨j,by rw[d1],k _ H1 s1<|EW 0 _⟩
  .cases e⟩
theorem _root_.ZQ.Bp(hm:X.mg "range"=At)(ha:ZQ.QE X a fa)(hb:ZQ.QE X b fb)(hs:starEach [a,b] X.env=[(AT,eval a X.env),(AT,eval b X.env)]:=by rfl)(yJ:starEach [b] X.env=[(AT,eval b X.env)]:=by rfl)(h1:Se a [b] X.env:=by rfl)(h2:Se b [] X.env:=by rfl)(hg:Gl X "range":=by rfl):ZQ.QJ X tg (.Call (.Name "range" p) [a,b] [] pos) (Z.A0 fa fb):=
 ⟨PI.imp (MH hg hm (bH ha.p (bH hb.p cP h2) h1) hs yJ) <|by
  rintro σ H R ⟨ρ,ds,r,e,k⟩;let⟨x,ea,e⟩:=XV e;let⟨y,eb,e⟩:=XV e;obtain⟨i,j,rfl,rfl,rfl⟩:∃i j,x=.int i/\y=.int j/\ds=Z.zints i (j-i).toNat:=by
   split at e
   .cases e;exact⟨_,_,rfl,rfl,rfl⟩
   .cases e
  refine⟨ρ,_,r,ea,λ v H1 s1 d1=>⟨ρ,_,r.up s1,eb,λ u H2 s2 d2=>?_⟩⟩;simp only[Den]at d1 d2;exact⟨i,j,by rw[d1,d2],k _ H2 (s1.trans s2)<|EW i (j-i).toNat⟩⟩
def Its(z:Str):It:=⟨λ i _=>i<z.cps.size,λ i H x H'=>H'=H/\∃c,z.cps[i]?=AC c/\x=.str ⟨#[c]⟩,λ i _=>i=z.cps.size⟩
theorem H!{K:Da}(z:Str)(it:δ)(n:String)(hn:["enumerate","zip","dict_itemiterator","dict_reverseitemiterator","odict_iterator","itertools.zip_longest","itertools.pairwise"].contains n=AT)(t:Tok)
 (W:∀A,A.handled=At->Walks P w A it [it] [it] z.cps.size (SignAt z) (λ i h=>h.IsStrIter it n z t i)) (self:∀A i s Q E,s.heap.IsStrIter it n z t i->Q (.ref it) s->EQ (model P w) A (pyIter<|.ref it) Q E s) :
 Turn P w K tg (Its z) [it] it (λ i h=>h.IsStrIter it n z t i) where
 mem:=by simp
 obj:=λ i h st b hb=>by
  have e:b=it:=by simpa using hb
  subst e;let⟨o,e,c,d⟩:=st;exact⟨o,e,λ v z=>by rw[d]at z;cases z⟩
 keep:=λ i h h' st k=>by let⟨o,e,c,d⟩:=st;exact⟨o,k it ∅ o e,c,d⟩
 item:=by intro X hP hw hK hc i χ s σ H E I hf st hg;subst hP hw hK;let⟨f0,f1,f2,f3,f4,f5⟩:=hf it ∅;refine(W X.A<|I.ok.hd hc).item i s _ _ hg st λ v h' tk hv z6 kk=>?_;let⟨c,u,Yq,rfl⟩:=hv;have I1:Inv X χ σ H {s with heap:=h',toks:=tk}:=I.turned (λ b o hb e=>kk b o (by simpa using hb) e) f0 f1 f3 f4 f5;let⟨o,e,c',d⟩:=id z6;exact⟨_,rfl,A7 e c' d hn ⟨.str ⟨#[c]⟩,H,I1,⟨u,rfl⟩,⟨rfl,c,Yq,rfl⟩,z6,λ b hb=>(hf b hb).1⟩⟩
 done:=by intro X hP hw hK hc i χ s σ H E I hf st hg;subst hP hw hK;let⟨f0,f1,f2,f3,f4,f5⟩:=hf it ∅;have _U:=hg;subst _U;exact(W X.A<|I.ok.hd hc).done s _ _ st λ h' tk kk=>⟨rfl,I.turned (λ b o hb e=>kk b o (by simpa using hb) e) f0 f1 f3 f4 f5⟩
 self:=self
theorem NI{K:Da}(cs:γ Nat):DX K (Its ⟨cs.toArray⟩) S (cs.map λ c=>.str [c]) where
 go:=λ i d H1 s hi=>by show i<cs.toArray.size;let⟨h1,_⟩:=A07.mp hi;simpa using h1
 D3:=λ i d H1 H2 x s hi y=>by
  let⟨e,c,hc,rfl⟩:=y;have sk:cs[i]?=AC c:=by simpa using hc
  rw[A08,sk]at hi;cases hi;subst e;exact⟨aJ.refl _,kX ⟩
 stop:=λ H1 s=>by show(cs.map λ c=>Z.D.str [c]).length=cs.toArray.size;simp
theorem Iy(I:Inv X χ σ H s)(rv:RelV v u)(hd:bR X.K H d v)(hi:Z.nF d=.ok ds)
 (hS:∀H1,S H1->g0 H H1) (hL:∀es q vs,d=.lst es->v=.ref q->jw X.K H q vs->∀H1,S H1->jw X.K H1 q vs)
 (k:∀J,DX X.K J S ds->R J H):EQ (model X.prog X.w) X.A (pyIter u) (YO X χ σ tg R) E s:=by
 unfold Z.nF at hi;split at hi
 .cases hi;let⟨q,vs,rfl,hq,t⟩:=hd.tup;cases rv;let⟨bq,r',pl,hz⟩:=I.tuple hq;refine B09 (pl) ?_;refine⟨s.heap.objs.size,[s.heap.objs.size],_,_,H,rfl,I.kept λ b o e=>v6 _ e,Cb q _,⟨_,A14 _ rfl,rfl,rfl⟩,λ b hb=>?_,k _<|(NH hq t).imp hS⟩;have e:b=s.heap.objs.size:=by simpa using hb
  subst e;exact I.vT (v4 _)<|I.b9.fresh<|v4 _
 .cases hi;let⟨q,vs,rfl,hq,t⟩:=hd.lst;cases rv;let⟨bq,r',pl,hz⟩:=I.list hq;refine A96 pl.isList ?_;refine⟨s.heap.objs.size,[s.heap.objs.size],_,_,H,rfl,I.kept λ b o e=>v6 _ e,FZ q _,⟨_,A14 _ rfl,rfl,rfl⟩,λ b hb=>?_,
   k _<|NJ (λ H1 s1=>hL _ q vs rfl rfl hq H1 s1) (λ H1 s1=>t.ups<|hS H1 s1) t⟩
  have e:b=s.heap.objs.size:=by simpa using hb
  subst e;exact I.vT (v4 _)<|I.b9.fresh<|v4 _
 .cases hi;rename_i cs;rw[hd.str]at rv;let⟨t,rfl⟩:=rv;have fin:∀n (hn:["enumerate","zip","dict_itemiterator","dict_reverseitemiterator","odict_iterator","itertools.zip_longest","itertools.pairwise"].contains n=AT)
   (W:∀A,A.handled=At->Walks X.prog X.w A s.heap.objs.size [s.heap.objs.size] [s.heap.objs.size] (⟨cs.toArray⟩:Str).cps.size (SignAt ⟨cs.toArray⟩) (λ i h=>h.IsStrIter s.heap.objs.size n ⟨cs.toArray⟩ t i))
   (self:∀A i s' Q E,s'.heap.IsStrIter s.heap.objs.size n ⟨cs.toArray⟩ t i->Q (.ref s.heap.objs.size) s'->EQ (model X.prog X.w) A (pyIter<|.ref s.heap.objs.size) Q E s'),
   YO X χ σ tg R (.ref s.heap.objs.size) {s with heap:=s.heap.push {cls:=.type n,data:=.fields #[.str ⟨cs.toArray⟩ t,.int 0 0]}}:=by
   intro n hn W self;refine⟨s.heap.objs.size,[s.heap.objs.size],_,_,H,rfl,I.kept λ b o e=>v6 _ e,H! ⟨cs.toArray⟩ _ n hn t W self,⟨_,A14 _ rfl,rfl,rfl⟩,λ b hb=>?_,k _<|NI cs⟩;have e:b=s.heap.objs.size:=by simpa using hb
   subst e;exact I.vT (v4 _)<|I.b9.fresh<|v4 _
  cases ha:(⟨cs.toArray⟩:Str).cps.all (· < 128)
  .exact wpAny_pyIter_wide ha<|fin "str_iterator" ∅ (λ A' hA=>Walks.strWide hA _ _ t) λ _ _ _ _ _ st hQ=>wpAny_pyIter_striter_wide st hQ
  .exact wpAny_pyIter_ascii ha<|fin "str_ascii_iterator" ∅ (λ A' hA=>Walks.strAscii hA _ _ t) λ _ _ _ _ _ st hQ=>wpAny_pyIter_striter_ascii st hQ
 .cases hi
theorem _root_.ZQ.cK(ha:ZQ.QW X a fa):ZQ.QI X tg a (Z.eJ fa):=⟨by intro χ s σ H R I w;let⟨ρ,ds,r,e,k⟩:=w;let⟨d,ea,e⟩:=XV e;refine cA (ha.p χ s σ H (λ v H1=>aJ H H1/\bR X.K H1 d v) I ⟨ρ,d,r,ea,λ v H1 s1 d1=>⟨s1,d1⟩⟩) ?_;rintro u s1 ⟨v,H1,I1,rv,sm,hd⟩;exact Iy I1 rv hd e (λ _ q=>ky q) (λ _ _ _ _ _ hq H2 s2=>s2.seq hq) λ J z=>k J H1 sm z⟩
theorem _root_.ZQ.uQ(ha:ZQ.QE X a fa):ZQ.QJ X tg a (Z.eJ fa):=⟨by intro χ s σ H R I w;let⟨ρ,ds,r,e,k⟩:=w;let⟨d,ea,e⟩:=XV e;refine cA (ha.p χ s σ H (λ v H1=>aJ H H1/\Den X.K H1 d v) I ⟨ρ,d,r,ea,λ v H1 s1 d1=>⟨s1,d1⟩⟩) ?_;rintro u s1 ⟨v,H1,I1,rv,sm,hd⟩;refine Iy I1 rv (.inl hd) e (λ _ q=>q) (λ es q vs e1 e2 hq H2 s2=>?_) λ J z=>k J H1 sm z;subst e1;simp only[Den]at hd;let⟨q',vs',e3,hz,_⟩:=hd;rw[e2]at e3;cases e3;rw[I1.pB hq hz.sq];exact(hz.mono s2).sq⟩
def ku(H0:Hp)(σ:St)(ρ:Z.Env):Prop:=(∀(i j:Nat)(ks ls:Z.DK)(a:δ),ρ[i]?=AC (AC<|.dc ks)->ρ[j]?=AC (AC<|.dc ls)->σ[i]?=AC (AC<|.ref a)->σ[j]?=AC (AC<|.ref a)->i=j) /\
 ∀(i:Nat)(ks:Z.DK)(q:δ),ρ[i]?=AC (AC<|.dc ks)->σ[i]?=AC (AC<|.ref q)->H0 q=At
theorem ku.non(h:∀(i:Nat)(ks:Z.DK),ρ[i]?≠AC (AC<|.dc ks)):ku H0 σ ρ:=⟨λ i _ ks _ _ e=>absurd e<|h i ks,λ i ks _ e=>absurd e<|h i ks⟩
structure RS(K:Da)(H0 H:Hp)(σ:St)(ρ:Z.Env):Prop where
 same:aJ H0 H
 re:RE K H σ ρ
 fresh:∀(i:Nat)(xs:List Z.D)(q:Addr),ρ[i]?=AC (AC<|.own xs)->σ[i]?=AC (AC<|.ref q)->H0 q=At
 p5:∀(i:Nat)(d:Z.D),ρ[i]?=AC (AC<|.bor d)->∃v,σ[i]?=AC (AC v)/\FD K H0 d v
 zr:ku H0 σ ρ
def Yx(K:Da)(H0 H:Hp)(D:Ends):Z.Fl->Prop
|.nx ρ'=>∀σ' H',g0 H H'->RS K H0 H' σ' ρ'->D.nx σ' H'
|.rt d=>∀v H',aJ H0 H'->Den K H' d v->D.rt v H'
|.bk ρ'=>∀σ' H',g0 H H'->RS K H0 H' σ' ρ'->D.bk σ' H'
|.ct ρ'=>∀σ' H',g0 H H'->RS K H0 H' σ' ρ'->D.ct σ' H'
def tS(K:Da)(H0:Hp)(g:Z.SF):TS:=λ D σ H=>∃ρ fl,RS K H0 H σ ρ/\g ρ=.ok fl/\Yx K H0 H D fl
abbrev DS(X:Cx)(H0:Hp)(st:θ)(g:Z.SF):Prop:=PS X st<|tS X.K H0 g
structure _root_.ZQ.QS(X:Cx)(H0:Hp)(st:Stmt)(g:Z.SF):Prop where p:DS X H0 st g
abbrev LY(X:Cx)(H0:Hp)(st:γ θ)(g:Z.SF):Prop:=qZ X st<|tS X.K H0 g
structure _root_.ZQ.BH(X:Cx)(H0:Hp)(st:List Stmt)(g:Z.SF):Prop where p:LY X H0 st g
theorem PS.imp{st:θ}(h:PS X st t)(k:∀D σ H,t' D σ H->t D σ H):PS X st t':=λ χ s σ H D I w=>h χ s σ H D I<|k D σ H w
theorem qZ.imp{st:γ θ}(h:qZ X st t)(k:∀D σ H,t' D σ H->t D σ H):qZ X st t':=λ χ s σ H D I w=>h χ s σ H D I<|k D σ H w
theorem RS.up{K:Da}(h:RS K H0 H σ ρ)(e:aJ H H'):RS K H0 H' σ ρ:=⟨h.same.trans e,h.re.up e,h.fresh,h.p5,h.zr⟩
theorem Yx.up{K:Da}(h:Yx K H0 H D fl)(e:g0 H H1):Yx K H0 H1 D fl:=by
 cases fl with
 |nx ρ'=>exact λ σ' H' s r=>h σ' H' (e.trans s) r
 |rt d=>exact h
 |bk ρ'=>exact λ σ' H' s r=>h σ' H' (e.trans s) r
 |ct ρ'=>exact λ σ' H' s r=>h σ' H' (e.trans s) r
theorem aQ{α:Type}{l:γ _}{x:ε α}{y:α}(h:(l.set i x)[j]?=AC (AC y)):(i=j/\i<l.length/\x=AC y)\/(i≠j/\l[j]?=AC (AC y)):=by
 by_cases sR:i=j
 .subst sR;by_cases hl:i<l.length
  .rw[A41 hl]at h;exact .inl ⟨rfl,hl,A04 h⟩
  .rw[B56 (by simpa using hl)]at h;cases h
 .rw[A29 sR]at h;exact .inr ⟨sR,h⟩
theorem ku.set(h:ku H0 σ ρ)(n:∀ks,l≠.dc ks):ku H0 (σ.set i<|some v) (ρ.set i<|some l):=by
 have get:∀(j:Nat) ks,(ρ.set i _)[j]?=AC _->ρ[j]?=AC _/\(σ.set i<|some v)[j]?=σ[j]?:=λ j ks e=>by
  rcases aQ e with⟨_,_,e⟩|⟨hj,e⟩
  .exact absurd (A04 e)<|n ks
  .exact⟨e,A29 hj⟩
 exact⟨λ j k ks ls a e1 e2 e3 e4=>h.1 j k ks ls a (get j ks e1).1 (get k ls e2).1 (by rw[<-(get j ks e1).2];exact e3) (by rw[<-(get k ls e2).2];exact e4),λ j ks q e1 e2=>h.2 j ks q (get j ks e1).1 (by rw[<-(get j ks e1).2];exact e2)⟩
theorem ku.Ui(h:ku H0 σ ρ)(n:∀ks,l≠.dc ks):ku H0 σ (ρ.set i<|some l):=by
 have get:∀(j:Nat) ks,(ρ.set i _)[j]?=AC _->ρ[j]?=AC _:=λ j ks e=>by
  rcases aQ e with⟨_,_,e⟩|⟨hj,e⟩
  .exact absurd (A04 e)<|n ks
  .exact e
 exact⟨λ j k ks ls a e1 e2 e3 e4=>h.1 j k ks ls a (get j ks e1) (get k ls e2) e3 e4,λ j ks q e1 e2=>h.2 j ks q (get j ks e1) e2⟩
theorem RS.vB{K:Fa}(h:RS K H0 H σ ρ)(hd:Den K H d v):RS K H0 H (σ.set i<|some v) (ρ.set i<|some<|.val d):=by
 have getσ:∀j,i≠j->(σ.set i<|some v)[j]?=σ[j]?:=λ j hj=>A29 hj;refine⟨h.same,⟨by simp[h.re.len],λ j l e=>?_,λ j k xs ys q e1 e2 e3 e4=>?_⟩,λ j xs q e1 e2=>?_,λ j xs e1=>?_,h.zr.set λ _ z=>nomatch z⟩
 .rcases aQ e with⟨rfl,hl,e⟩|⟨hj,e⟩
  .cases e;exact⟨v,A41 (by rw[<-h.re.len];exact hl),hd⟩
  .rw[getσ j hj];exact h.re.get j l e
 .rcases aQ e1 with⟨_,_,e⟩|⟨hj,e1⟩
  .cases e
  .rcases aQ e2 with⟨_,_,e⟩|⟨hk,e2⟩
   .cases e
   .rw[getσ j hj]at e3;rw[getσ k hk]at e4;exact h.re.sep j k xs ys q e1 e2 e3 e4
 .rcases aQ e1 with⟨_,_,e⟩|⟨hj,e1⟩
  .cases e
  .rw[getσ j hj]at e2;exact h.fresh j xs q e1 e2
 .rcases aQ e1 with⟨_,_,e⟩|⟨hj,e1⟩
  .cases e
  .rw[getσ j hj];exact h.p5 j xs e1
theorem RS.Uj{K:Fa}(h:RS K H0 H σ ρ)(hq:H q=AC (.lst vs))(t:aE K H ds vs)(h0:H0 q=At)
 (nq:∀j xs,j≠i->ρ[j]?=AC (AC<|.own xs)->σ[j]?≠AC (AC<|.ref q)):RS K H0 H (σ.set i<|some<|.ref q) (ρ.set i<|some<|.own ds):=by
 have getσ:∀j,i≠j->(σ.set i<|some<|V.ref q)[j]?=σ[j]?:=λ j hj=>A29 hj;refine⟨h.same,⟨by simp[h.re.len],λ j l e=>?_,λ j k xs ys p e1 e2 e3 e4=>?_⟩,λ j xs p e1 e2=>?_,λ j xs e1=>?_,h.zr.set λ _ z=>nomatch z⟩
 .rcases aQ e with⟨rfl,hl,e⟩|⟨hj,e⟩
  .cases e;exact⟨_,A41 (by rw[<-h.re.len];exact hl),q,vs,rfl,hq,t⟩
  .rw[getσ j hj];exact h.re.get j l e
 .rcases aQ e1 with⟨rfl,hl,_⟩|⟨hj,e1⟩
  .rcases aQ e2 with⟨rfl,_,_⟩|⟨hk,e2⟩
   .rfl
   .rw[A41 (by rw[<-h.re.len];exact hl)]at e3;cases e3;rw[getσ k hk]at e4;exact absurd e4<|nq k ys (A05 hk) e2
  .rcases aQ e2 with⟨rfl,hl,_⟩|⟨hk,e2⟩
   .rw[A41 (by rw[<-h.re.len];exact hl)]at e4;cases e4;rw[getσ j hj]at e3;exact absurd e3<|nq j xs (A05 hj) e1
   .rw[getσ j hj]at e3;rw[getσ k hk]at e4;exact h.re.sep j k xs ys p e1 e2 e3 e4
 .rcases aQ e1 with⟨rfl,hl,_⟩|⟨hj,e1⟩
  .rw[A41 (by rw[<-h.re.len];exact hl)]at e2;cases e2;exact h0
  .rw[getσ j hj]at e2;exact h.fresh j xs p e1 e2
 .rcases aQ e1 with⟨_,_,e⟩|⟨hj,e1⟩
  .cases e
  .rw[getσ j hj];exact h.p5 j xs e1
theorem RS.chg{K:Fa}(h:RS K H0 H σ ρ)(ei:ρ[i]?=AC (AC<|.own xs))(si:σ[i]?=AC (AC<|.ref q))(hq:H q=AC (.lst us))(t:aE K H ds vs):
 RS K H0 (upd H q<|.lst vs) σ (ρ.set i<|some<|.own ds):=by
 have st:g0 H (upd H q<|.lst vs):=jF hq;have h0:=h.fresh i xs q ei si;have hs:aJ H0 (upd H q<|.lst vs):=λ b u e=>by rw[aG<|bj e h0];exact h.same b u e
 refine⟨hs,⟨by simp[h.re.len],λ j l e=>?_,λ j k iX ys p e1 e2 e3 e4=>?_⟩,λ j iX p e1 e2=>?_,λ j iX e1=>?_,h.zr.Ui λ _ z=>nomatch z⟩
 .rcases aQ e with⟨rfl,hl,e⟩|⟨hj,e⟩
  .cases e;exact⟨.ref q,si,q,vs,rfl,aO,t.ups st⟩
  .let⟨v,e1,r⟩:=h.re.get j l e;refine⟨v,e1,?_⟩;cases l with
   |val d=>exact Den.ups (r) st
   |own zs=>
    let⟨q',ws,rfl,gv,t'⟩:=r;have:q'≠q:=by rintro rfl;exact hj<|h.re.sep i j xs zs q' ei e si e1
    exact⟨q',ws,rfl,by rw[aG this];exact gv,t'.ups st⟩
   |bor zs=>let⟨v',e2,r2⟩:=h.p5 j zs e;rw[e1]at e2;cases e2;exact r2.re r h.same hs st
   |dc ks=>
    let⟨q',as,rfl,gv,t'⟩:=r;have:q'≠q:=by rintro rfl;rw[hq]at gv;exact Fj (A04 gv).symm
    exact⟨q',as,rfl,by rw[aG this];exact gv,t'.ups st⟩
   |G3 ks=>let⟨q',o',as,rfl,gv,t'⟩:=r;exact⟨q',o',as,rfl,st.fF _ _ _ gv,t'.ups st⟩
   |RA ps=>let⟨q',o',rfl,gv⟩:=r;exact⟨q',o',rfl,st.fF _ _ _ gv⟩
   |exc c=>let⟨q',o',u',C',rfl,gv,r1,r2,r3⟩:=r;exact⟨q',o',u',C',rfl,st.fF _ _ _ gv,r1,r2,r3.ups st⟩
 .have old:∀{j:Nat}{zs},(ρ.set i<|some<|Z.L.own ds)[j]?=AC (AC<|.own zs)->∃zs',ρ[j]?=AC (AC<|.own zs'):=λ {j zs} e=>by
   rcases aQ e with⟨rfl,_,_⟩|⟨_,e⟩
   .exact⟨xs,ei⟩
   .exact⟨zs,e⟩
  let⟨_,o1⟩:=old e1;let⟨_,o2⟩:=old e2;exact h.re.sep j k _ _ p o1 o2 e3 e4
 .rcases aQ e1 with⟨rfl,_,_⟩|⟨_,e1⟩
  .exact h.fresh i xs p ei e2
  .exact h.fresh j iX p e1 e2
 .rcases aQ e1 with⟨_,_,e⟩|⟨_,e1⟩
  .cases e
  .exact h.p5 j iX e1
theorem RS.fF{K:Fa}{H0 H:Hp}{σ:St}{ρ:Z.Env}{i:Nat}{xs:γ Z.D}{q:δ}{us:γ V}{o:μ}(h:RS K H0 H σ ρ)(ei:ρ[i]?=AC (AC<|.own xs))(si:σ[i]?=AC (AC<|.ref q))(hq:H q=AC (.lst us))(t:aE K H xs us):
 RS K H0 (upd H q<|.fF o<|.lst us) σ (ρ.set i<|some<|.val<|.lst xs):=by
 have st:g0 H (upd H q<|.fF o<|.lst us):=jF hq;have h0:=h.fresh i xs q ei si;have hs:aJ H0 (upd H q<|.fF o<|.lst us):=λ b u e=>by rw[aG<|bj e h0];exact h.same b u e
 refine⟨hs,⟨by simp[h.re.len],λ j l e=>?_,λ j k iX ys p e1 e2 e3 e4=>?_⟩,λ j iX p e1 e2=>?_,λ j iX e1=>?_,h.zr.Ui λ _ z=>nomatch z⟩
 .rcases aQ e with⟨rfl,hl,e⟩|⟨hj,e⟩
  .cases e;exact⟨_,si,y7 (.inl ⟨o,aO⟩)<|t.ups st⟩
  .let⟨v,e1,r⟩:=h.re.get j l e;refine⟨v,e1,?_⟩;cases l with
   |val d=>exact Den.ups (r) st
   |own zs=>
    let⟨q',ws,rfl,gv,t'⟩:=r;have:q'≠q:=by rintro rfl;exact hj<|h.re.sep i j xs zs q' ei e si e1
    exact⟨q',ws,rfl,by rw[aG this];exact gv,t'.ups st⟩
   |bor zs=>let⟨v',e2,r2⟩:=h.p5 j zs e;rw[e1]at e2;cases e2;exact r2.re r h.same hs st
   |dc ks=>
    let⟨q',as,rfl,gv,t'⟩:=r;have:q'≠q:=by rintro rfl;rw[hq]at gv;exact Fj (A04 gv).symm
    exact⟨q',as,rfl,by rw[aG this];exact gv,t'.ups st⟩
   |G3 ks=>let⟨q',o',as,rfl,gv,t'⟩:=r;exact⟨q',o',as,rfl,st.fF _ _ _ gv,t'.ups st⟩
   |RA ps=>let⟨q',o',rfl,gv⟩:=r;exact⟨q',o',rfl,st.fF _ _ _ gv⟩
   |exc c=>let⟨q',o',u',C',rfl,gv,r1,r2,r3⟩:=r;exact⟨q',o',u',C',rfl,st.fF _ _ _ gv,r1,r2,r3.ups st⟩
 .rcases aQ e1 with⟨_,_,e⟩|⟨_,e1⟩
  .cases e
  .rcases aQ e2 with⟨_,_,e⟩|⟨_,e2⟩
   .cases e
   .exact h.re.sep j k _ _ p e1 e2 e3 e4
 .rcases aQ e1 with⟨_,_,e⟩|⟨_,e1⟩
  .cases e
  .exact h.fresh j iX p e1 e2
 .rcases aQ e1 with⟨_,_,e⟩|⟨_,e1⟩
  .cases e
  .exact h.p5 j iX e1
variable{H0:Hp}{st:θ}{zm:γ θ}{g u:Z.SF}
theorem _root_.ZQ.aT:ZQ.BH X H0 [] Z.bw:=⟨qZ.imp Es <|by rintro D σ H ⟨ρ,fl,rs,e,k⟩;cases e;exact k σ H (g0.refl H) rs⟩
theorem _root_.ZQ.aB(h:ZQ.QS X H0 st g):ZQ.BH X H0 [st] g:=⟨mF h.p⟩
theorem _root_.ZQ.aA(h1:ZQ.QS X H0 st g)(h2:ZQ.BH X H0 zm u):ZQ.BH X H0 (st::zm) (Z.aS g u):=⟨qZ.imp (i! h1.p h2.p) <|by
 rintro D σ H ⟨ρ,fl,rs,e,k⟩;let⟨f1,e1,e⟩:=XV e;refine⟨ρ,f1,rs,e1,?_⟩;cases f1 with
 |nx ρ'=>exact λ σ' H' s r=>⟨ρ',fl,r,e,k.up s⟩
 |rt d=>cases e;exact k
 |bk ρ'=>cases e;exact k
 |ct ρ'=>cases e;exact k⟩
theorem _root_.ZQ.aK(h:ZQ.QE X a fa):ZQ.QS X H0 (.Return (AC a) pos) (Z.a7 fa):=⟨PS.imp (IT h.p) <|by rintro D σ H ⟨ρ,fl,rs,e,k⟩;let⟨d,ea,e⟩:=XV e;cases e;exact⟨ρ,d,rs.re,ea,λ v H' s dv=>k v H' (rs.same.trans s) dv⟩⟩
theorem _root_.ZQ.bP(hc:ZQ.QT X c t)(h1:ZQ.BH X H0 b1 g)(h2:ZQ.BH X H0 b2 u):ZQ.QS X H0 (.If c b1 b2 pos) (Z.gU t g u):=⟨PS.imp (Et hc.p h1.p h2.p) <|by
 rintro D σ H ⟨ρ,fl,rs,e,k⟩;let⟨x,ea,e⟩:=XV e;refine⟨ρ,x,rs.re,ea,λ H1 s1=>?_⟩;cases x with
 |true=>simp only[A25]at e ⊢;exact⟨ρ,fl,rs.up s1,e,k.up<|ky s1⟩
 |false=>simp only[A48]at e ⊢;exact⟨ρ,fl,rs.up s1,e,k.up<|ky s1⟩⟩
theorem _root_.ZQ.aI(he:ZQ.QE X a fa)(hs:swapsWith a (AC<|.Name x pos') pos.line X.env=pure AT:=by rfl)(hf:Fl X x:=by trivial)(hN:X.N.Nodup:=by first|assumption|exact B30 (by kernel_rfl))(hi:X.N[i]?=AC x:=by rfl)(hx:Loc X.env.scope x:=by exact lo rfl):ZQ.QS X H0 (.Assign [.Name x pos'] a pos) (Z.bc i fa):=⟨PS.imp (nU hN hi hx he.p hs hf) <|by rintro D σ H ⟨ρ,fl,rs,e,k⟩;let⟨d,ea,e⟩:=XV e;cases e;exact⟨ρ,d,rs.re,ea,λ v H' s dv=>k _ H' (ky s)<|(rs.up s).vB dv⟩⟩
theorem RS.noq{K:Da}(h:RS K H1 H σ ρ)(hq:H q=At)(j:Nat)(xs:γ Z.D)(e:ρ[j]?=AC (AC<|.own xs)):σ[j]?≠AC (AC<|.ref q):=λ z=>by let⟨v,e1,q',vs,rfl,h2,_⟩:=h.re.get j _ e;rw[z]at e1;cases e1;rw[hq]at h2;cases h2
theorem _root_.ZQ.iq(he:ZQ.QL X a l)(hs:swapsWith a (AC<|.Name x pos') pos.line X.env=pure AT:=by rfl)(hf:Fl X x:=by trivial)(hN:X.N.Nodup:=by first|assumption|exact B30 (by kernel_rfl))(hi:X.N[i]?=AC x:=by rfl)(hx:Loc X.env.scope x:=by exact lo rfl):ZQ.QS X H0 (.Assign [.Name x pos'] a pos) (Z.nS i l):=⟨PS.imp (nU hN hi hx he.p hs hf) <|by rintro D σ H ⟨ρ,fl,rs,e,k⟩;let⟨d,ea,e⟩:=XV e;cases e;refine⟨ρ,d,rs.re,ea,λ q vs H' s hn h1 t=>k _ H' (ky s)<|(rs.up s).Uj h1 t (rs.same.free hn) λ j xs _ e=>?_⟩;exact rs.noq hn j xs e⟩
def tG(K:Da)(H0:Hp)(g:Z.GF):TG:=λ v σ H Q=>∃ρ d ρ',RS K H0 H σ ρ/\Den K H d v/\g d ρ=.ok ρ'/\∀σ' H',aJ H H'->RS K H0 H' σ' ρ'->Q σ' H'
def tGs(K:Da)(H0:Hp)(is:γ Nat):SI:=λ vs σ H Q=>∃ρ ds ρ',RS K H0 H σ ρ/\aE K H ds vs/\Z.iG is ds ρ=.ok ρ'/\∀σ' H',aJ H H'->RS K H0 H' σ' ρ'->Q σ' H'
abbrev DG(X:Cx)(H0:Hp)(tg:ι)(g:Z.GF):Prop:=PG X tg<|tG X.K H0 g
structure _root_.ZQ.QG(X:Cx)(H0:Hp)(tg:Expr)(g:Z.GF):Prop where p:DG X H0 tg g
abbrev DGs(X:Cx)(H0:Hp)(YZ:γ ι)(is:γ Nat):Prop:=Lu X YZ<|tGs X.K H0 is
structure _root_.ZQ.WZ(X:Cx)(H0:Hp)(YZ:List Expr)(is:List Nat):Prop where p:DGs X H0 YZ is
theorem PG.imp(h:PG X tg t)(k:∀v σ H Q,t' v σ H Q->t v σ H Q):PG X tg t':=λ χ s σ H v u Q I r w=>h χ s σ H v u Q I r<|k v σ H Q w
theorem Lu.imp(h:Lu X es t)(k:∀v σ H Q,t' v σ H Q->t v σ H Q):Lu X es t':=λ χ s σ H v u Q I r w=>h χ s σ H v u Q I r<|k v σ H Q w
theorem _root_.ZQ.bM(hf:Fl X x:=by trivial)(hN:X.N.Nodup:=by first|assumption|exact B30 (by kernel_rfl))(hi:X.N[i]?=AC x:=by rfl)(hx:Loc X.env.scope x:=by exact lo rfl):ZQ.QG X H0 (.Name x pos) (Z.aW i):=
 ⟨PG.imp (Ew hN hi hx hf) <|by rintro v σ H Q ⟨ρ,d,ρ',rs,hd,e,k⟩;cases e;exact k _ H (aJ.refl H)<|rs.vB hd⟩
theorem _root_.ZQ.gL:ZQ.WZ X H0 [] []:=⟨Lu.imp MJ <|by
 rintro vs σ H Q ⟨ρ,ds,ρ',rs,hd,e,k⟩;cases ds with
 |nil=>simp only[aE]at hd;cases e;exact⟨hd,k σ H (aJ.refl H) rs⟩
 |cons d ds=>cases e⟩
theorem _root_.ZQ.a!(h2:ZQ.WZ X H0 es is)(hs:(assignEach ((.Name x pos)::es) X.env).map (·.2)=assign (.Name x pos) X.env::(assignEach es X.env).map (·.2):=by rfl)(hf:Fl X x:=by trivial)(hN:X.N.Nodup:=by first|assumption|exact B30 (by kernel_rfl))(hi:X.N[i]?=AC x:=by rfl)(hx:Loc X.env.scope x:=by exact lo rfl):ZQ.WZ X H0 (.Name x pos::es) (i::is):=
 ⟨have h2:=h2.p;Lu.imp (IY (Ew hN hi hx hf) h2 hs) <|by
  rintro vs σ H Q ⟨ρ,ds,ρ',rs,hd,e,k⟩;cases ds with
  |nil=>cases e
  |cons d ds=>simp only[aE]at hd;let⟨v,r,rfl,h1,h2⟩:=hd;exact⟨v,r,rfl,_,ds,ρ',rs.vB h1,h2,e,k⟩⟩
theorem _root_.ZQ.mj(hc:X.calm=Ch)(h:ZQ.WZ X H0 es is)(hl:is.length=n)(hn:(assignEach es X.env).length=n:=by rfl)(pG:(assignEach es X.env).findIdx? (·.1)=At:=by rfl):ZQ.QG X H0 (.Tuple es x1 pos) (Z.iA is):=
 ⟨PG.imp (IZ hc h.p hn pG) <|by
  rintro v σ H Q ⟨ρ,d,ρ',rs,hd,e,k⟩;unfold Z.iA at e;split at e
  .rename_i ds;let⟨q,vs,rfl,hq,t⟩:=bR.tup (.inl hd);have ψ:∀is ds ρ ρ',Z.iG is ds ρ=.ok ρ'->ds.length=is.length:=by
    intro is
    induction is with
    |nil=>intro ds ρ ρ' e;cases ds with
     |nil=>rfl
     |cons d ds=>cases e
    |cons i is ih=>intro ds ρ ρ' e;cases ds with
     |nil=>cases e
     |cons d ds=>simp[ih ds _ _ e]
   exact⟨q,vs,rfl,hq,by rw[t.length,ψ is ds ρ ρ' e];exact hl,ρ,ds,ρ',rs,t,e,k⟩
  .cases e⟩
theorem _root_.ZQ.KQ{g:Z.GF}(he:ZQ.QE X a fa)(hg:ZQ.QG X H0 tg g)(hs:swapsWithSole [tg] a pos.line X.env=pure AT:=by rfl)(hw:swappedStores [tg] a X.env=pure At:=by rfl)
 (h1:(assignEach [tg] X.env).map (·.2)=[assign tg X.env]:=by rfl):ZQ.QS X H0 (.Assign [tg] a pos) (Z.Mv fa g):=⟨PS.imp (IV he.p hg.p hs hw h1) <|by
 rintro D σ H ⟨ρ,fl,rs,e,k⟩;let⟨d,ea,e⟩:=XV e;let⟨ρ',eb,e⟩:=XV e;cases e;exact⟨ρ,d,rs.re,ea,λ v H' s dv=>⟨ρ,d,ρ',rs.up s,dv,eb,λ σ2 H2 s2 r2=>k σ2 H2 ((ky s).trans<|ky s2) r2⟩⟩⟩
theorem _root_.ZQ.c!(hi:ZQ.QJ X tg iter it)(hg:ZQ.QG X H0 tg G)(hb:ZQ.BH X H0 body g)(hs:∀x,foldedSetIterable iter X.env x=pure x:=by intro _;rfl)(hp:PassesOwn (model X.prog X.w) X.A X.env X.xe:=by exact C08)(hc:X.calm=Ch:=by rfl):ZQ.QS X H0 (.For tg iter body [] pos) (Z.i9 it G g):=⟨PS.imp (IU hp hc hi.p hg.p hb.p hs) <|by
 rintro D σ H ⟨ρ,fl,rs,e,k⟩;let⟨ds,ei,e⟩:=XV e;refine⟨ρ,ds,rs.re,ei,λ J H1 s1 z=>?_⟩;refine⟨λ i m σ' H'=>m=ds.length-i/\i<=ds.length/\∃ρ',RS X.K H0 H' σ' ρ'/\g0 H1 H'/\Z.e_ G g (ds.drop i) ρ'=.ok fl,⟨ds.length,by simp,A51 _,ρ,rs.up s1,g0.refl H1,by simpa using e⟩,?_⟩;rintro i m σ2 H2 ⟨rfl,A1,ρ2,r2,s2,e2⟩;by_cases kz:i<ds.length
 .obtain⟨d,hd⟩:∃d,ds[i]?=AC d:=⟨ds[i],by simp[kz]⟩
  have pJ:ds.drop i=d::ds.drop (i+1):=by
   rw[A83 kz];have:ds[i]=d:=by have:=A03 kz;rw[this]at hd;exact A04 hd
   rw[this]
  rw[pJ]at e2;let⟨ρ3,eg,e2⟩:=XV e2;let⟨f3,eb,e2⟩:=XV e2;refine .inr ⟨z.go i d H2 s2 hd,λ σ' H'=>∃ρ',RS X.K H0 H' σ' ρ'/\g0 H1 H'/\Z.e_ G g _ ρ'=.ok fl,λ σ' H' w=>⟨_,by lia,rfl,kz,w⟩,λ x H3 y=>?_⟩;let⟨sy,dx⟩:=z.D3 i d H2 H3 x s2 hd y;replace s2:=s2.trans<|ky sy;refine⟨ρ2,d,ρ3,r2.up sy,dx,eg,λ σ4 H4 s4' r4=>⟨ρ3,f3,r4,eb,?_⟩⟩;have s4:=ky s4';cases f3 with
  |nx ρ5=>exact λ σ5 H5 s5 r5=>⟨ρ5,r5,(s2.trans s4).trans s5,e2⟩
  |ct ρ5=>exact λ σ5 H5 s5 r5=>⟨ρ5,r5,(s2.trans s4).trans s5,e2⟩
  |bk ρ5=>cases e2;exact λ σ5 H5 s5 r5=>k σ5 H5 ((ky s1).trans<|(s2.trans s4).trans s5) r5
  |rt d5=>cases e2;exact k
 .have:i=ds.length:=by lia
  subst this;rw[B57]at e2;cases e2;exact .inl ⟨z.stop H2 s2,k σ2 H2 ((ky s1).trans s2) r2⟩⟩
theorem _root_.ZQ.pV(h:ZQ.BH X H0 zm g):ZQ.BH X H0 zm (Z.t9 i g):=⟨by
 have h:=h.p;intro χ s σ H D I w;let⟨ρ,fl,rs,e,k⟩:=w;unfold Z.t9 Z.fF at e;split at e
 .rename_i xs ei;let⟨v,si,q,us,rfl,hq,t⟩:=rs.re.get i _ ei;let⟨o,I2⟩:=n8 I hq;exact h χ s σ _ D I2 ⟨_,fl,rs.fF ei si hq t,e,k.up<|jF hq⟩
 .exact h χ s σ H D I ⟨ρ,fl,rs,e,k⟩⟩
theorem G?(ho:PE X o (lS i))(ha:DE X a fa)(hs:swapsWith (.Call (.Attribute o "append" p1) [a] [] p2) At pos.line X.env=pure AT:=by rfl)(qb:Se a [] X.env:=by rfl)
 (_9:PE X (.Call (.Attribute o "append" p1) [a] [] p2) (Y? X.K "list" Er (lS i)<|Ij (tZ X.K fa) Md)) :
 DS X H0 (.Expr (.Call (.Attribute o "append" p1) [a] [] p2) pos) (Z.dW i fa):=PS.imp (sJ _9 hs) <| by
 rintro D σ H ⟨ρ,fl,rs,e,k⟩;let⟨d,ea,e⟩:=XV e;split at e
 .rename_i xs ei;unfold Z.guard at e;split at e
  .rename_i hl;cases e;let⟨v,si,q,us,rfl,hq,t⟩:=rs.re.get i _ ei;refine⟨_,si,.inl ⟨rfl,us,jw.of hq⟩,ρ,d,rs.re,ea,λ v' H1 s1 dv=>?_⟩;have RI:=s1 _ _ hq;refine⟨q,us,v',rfl,rfl,RI,by rw[t.length,A23];exact hl,?_⟩;exact k σ _ ((ky s1).trans<|jF RI)<|(rs.up s1).chg ei si RI<|(t.up s1).append<|aE.cons dv aE.nil
  .cases e
 .cases e
end
theorem oy:∀(names:γ (Str×NameKind)) acc,(∀y∈names,y.2=.free->∃c,env.cells.lookup y.1=AC c)->(∀x c,acc.lookup x=AC c->env.cells.lookup x=AC c) ->
 ∃cl,(forIn names acc λ(x)(cs:γ (Str×δ))=>(if(x.2==NameKind.free)=Ch then do let c ←cellOf env x.1;pure (GT<|(x.1,c)::cs)else pure (GT cs):Sem (ForInStep<|γ<|Str×δ)))=pure cl /\
  (∀x c,cl.lookup x=AC c->env.cells.lookup x=AC c)/\(∀x,(acc.lookup x).isSome=Ch->(cl.lookup x).isSome=Ch)/\(∀y∈names,y.2=.free->(cl.lookup y.1).isSome=Ch)
|[],acc,_,ha=>⟨acc,rfl,ha,λ _ h=>h,λ y hy=>by cases hy⟩
|(n,k)::r,acc,hn,ha=>by
 by_cases hk:k=.free
 .subst hk;let⟨c,hc⟩:=hn (n,.free) A11 rfl;have ha':∀x d,((n,c)::acc).lookup x=AC d->env.cells.lookup x=AC d:=λ x d e=>by
   rw[A73]at e;split at e
   .rename_i q;cases e;rw[A27.mp q];exact hc
   .exact ha x d e
  let⟨cl,e,h1,h2,h3⟩:=oy r ((n,c)::acc) (λ y hy=>hn y<|A09 _ hy) ha';have self:=h2 n (by rw[B31];rfl);refine⟨cl,?_,h1,λ x hx=>h2 x ?_,λ y hy hf=>?_⟩
  .rw[B32];simp only[A94,A25];have:cellOf env n=pure c:=by unfold cellOf;rw[hc]
   rw[this];exact e
  .rw[A73];split
   .rfl
   .exact hx
  .rcases A00.mp hy with rfl|hy
   .exact self
   .exact h3 y hy hf
 .let⟨cl,e,h1,h2,h3⟩:=oy r acc (λ y hy=>hn y<|A09 _ hy) ha;have hb:(k==NameKind.free)=AT:=by simpa using hk
  refine⟨cl,?_,h1,h2,λ y hy hf=>?_⟩
  .rw[B32];simp only[hb,A48,A59];exact e
  .rcases A00.mp hy with rfl|hy
   .exact absurd hf hk
   .exact h3 y hy hf
theorem jY(hn:∀y∈scope.names,y.2=.free->∃c,env.cells.lookup y.1=AC c):
 ∃cl,closureFor scope env=pure cl/\(∀x c,cl.lookup x=AC c->env.cells.lookup x=AC c)/\(∀y∈scope.names,y.2=.free->(cl.lookup y.1).isSome=Ch):=by
 let⟨cl,e,h1,_,h3⟩:=oy _ [] hn (λ x c e=>by cases e);refine⟨cl,?_,h1,h3⟩;unfold closureFor
 first
  |exact e
  |(simp only[bind_pure];exact e)
  |(rw[e];rfl)
theorem jc{env:Env}{x:Str}:∀(names:γ _),(names.map λ(n,k)=>if(k == NameKind.free&&env.scope.kind == .function&&env.kindOf n == AC .cell)=Ch then(n,NameKind.cell)else(n,k)).lookup x=(names.lookup x).map λ k=>if(k == NameKind.free&&env.scope.kind == .function&&env.kindOf x == AC .cell)=Ch then NameKind.cell else k
|[]=>rfl
|(n,k)::r=>by
 have ih:=@jc env x r;show Fk x ((if(k==NameKind.free&&env.scope.kind==.function&&env.kindOf n==AC .cell)=Ch then(n,NameKind.cell)else(n,k))::_)=_;by_cases hx:x=n
 .subst hx;by_cases hc:(k==NameKind.free&&env.scope.kind==.function&&env.kindOf x==AC .cell)=Ch
  .rw[M2 hc,B31,B31,A68,M2 hc]
  .rw[W1 hc,B31,B31,A68,W1 hc]
 .have hb:(x==n)=AT:=by simpa using hx
  by_cases hc:(k==NameKind.free&&env.scope.kind==.function&&env.kindOf n==AC .cell)=Ch
  .rw[M2 hc,A73,A73,hb];exact ih
  .rw[W1 hc,A73,A73,hb];exact ih
abbrev oz(X:Cx)(N':γ Str)(scope:τ)(cl:γ (Str×δ))(C:δ)(fp:γ δ)(s₂:η)(H₂:Hp):Cx:=
 {prog:=X.prog,w:=X.w,K:=X.K,mg:=X.mg,base:=X.base,A:=X.A,N:=N',s₀:=s₂,H₀:=H₂,env:=compEnvC scope cl C X.env,outer:=X.stack,stack:=X.stack,ex:=fp,fn:=λ _=>AT,calm:=X.calm,pn:=[],xe:=λ _ _=>False}
structure vj(N N':List Str)(n:Nat)(is:List Nat)(sc QR:Scope):Prop where
 kind:sc.kind=.function
 cell:∀y∈sc.names,y.2≠.cell
 loc:∀y∈sc.names,y.2=.local->sc.names.lookup y.1=AC .local
 free:∀y∈sc.names,y.2=.free->QR.names.lookup y.1=AC .cell\/QR.names.lookup y.1=AC .free
 len:N'.length=n+is.length
 cap:∀(j i:Nat),is[j]?=AC i->∃x,N'[n+j]?=AC x/\N[i]?=AC x/\sc.names.lookup x=AC .free
 own:∀(j:Nat),j<n->∃x,N'[j]?=AC x/\sc.names.lookup x=AC .local
section
variable{X:Cx}{tg e a b elt iter:ι}{ifs:γ ι}{pos:Pos}{N':γ Str}{n:Nat}{is:γ Nat}{scope:τ}
def nT(σ:St)(n:Nat)(is:γ Nat):St:=Do n At++is.map λ i=>(σ[i]?).join
theorem gj(n:Nat)(is:γ Nat)(ρ:Z.Env)(i:Nat)(xs:γ Z.D):(Do n At++Z.fi ρ is:Z.Env)[i]?≠AC (AC<|.own xs):=by
 intro e;by_cases hi:i<n
 .rw[A35 (by simpa using hi),A58]at e;split at e<;>cases e
 .rw[A45 (by simpa using hi)]at e;unfold Z.fi at e;rw[A08]at e;cases q:is[i-(Do n<|none).length]? with
  |none=>rw[q]at e;cases e
  |some j=>rw[q]at e;have e':=A04 e;unfold Z.nL at e';split at e'<;>cases e'
theorem qT(n:Nat)(is:γ Nat)(ρ:Z.Env)(i:Nat)(ks:Z.DK):(Do n At++Z.fi ρ is:Z.Env)[i]?≠AC (AC<|.dc ks):=by
 intro e;by_cases hi:i<n
 .rw[A35 (by simpa using hi),A58]at e;split at e<;>cases e
 .rw[A45 (by simpa using hi)]at e;unfold Z.fi at e;rw[A08]at e;cases q:is[i-(Do n<|none).length]? with
  |none=>rw[q]at e;cases e
  |some j=>rw[q]at e;have e':=A04 e;unfold Z.nL at e';split at e'<;>cases e'
theorem IK{K:Fa}(h:RE K H σ ρ)(s:aJ H H'):RS K H H' (nT σ n is) (Do n At++Z.fi ρ is):=by
 have key:∀(i:Nat) l,(Do n At++Z.fi ρ is)[i]?=AC (AC l)->∃v,(nT σ n is)[i]?=AC (AC v)/\RL K H l v:=?_;refine⟨s,⟨by simp[nT,Z.fi],λ i l e=>let ⟨v,h1,h2⟩:=key i l e;⟨v,h1,h2.up s⟩,λ i j xs ys q e1=>absurd e1<|gj n is ρ i xs⟩,λ i xs q e1=>absurd e1<|gj n is ρ i xs,λ i xs e1=>let ⟨v,h1,h2⟩:=key i _ e1;⟨v,h1,jC.z h2⟩,ku.non<|qT n is ρ⟩;intro i l e;by_cases hi:i<n
 .rw[A35 (by simpa using hi),A58]at e;split at e<;>cases e
 .rw[A45 (by simpa using hi)]at e;unfold nT;rw[A45 (by simpa using hi)];simp only[A80]at e ⊢;unfold Z.fi at e;rw[A08]at e ⊢;cases q:is[i-n]? with
  |none=>rw[q]at e;cases e
  |some j=>
   rw[q]at e;have e':=A04 e;unfold Z.nL at e';split at e'
   .rename_i d hd;cases e';let⟨v,h1,h2⟩:=h.get j _ hd;refine⟨v,?_,h2⟩;simp[h1]
   .rename_i d hd;cases e';let⟨v,h1,h2⟩:=h.get j _ hd;refine⟨v,?_,h2⟩;simp[h1]
   .rename_i d hd;cases e';let⟨v,h1,h2⟩:=h.get j _ hd;refine⟨v,?_,h2⟩;simp[h1]
   .cases e'
theorem m_(I:Nat->η->Prop)
 (turn:∀ n s,I n s->EQ (model prog w) A (pyNext it) (λ r s₁=>match r with
  |none=>R (.ok .next) s₁
  | some v=>EQ (model prog w) A (letOwnedTupleGo target it v) (λ _ s₁=>EQ (model prog w) A (assign target env v) (λ _ s₂=>
   EQ (model prog w) A (forIn ifs Ch λ c r=>if r=Ch then do let ok ←isTrue c env (eval c env);pure (GT ok)else pure (GT r)) (λ ok s₃=>
    if ok=Ch then EQ (model prog w) A (eval elt env) (λ x s₄=>EQ (model prog w) A (call (.builtin "list.append") [acc,x]) (λ _ s₅=>∃m,m<n/\I m s₅) (λ _ _=>False) s₄) (λ _ _=>False) s₃
    else ∃m,m<n/\I m s₃) (λ _ _=>False) s₂) (λ _ _=>False) s₁) (λ _ _=>False) s₁) (λ _ _=>False) s)
 (n:Nat) (h:I n s) :
 codeAny (model prog w) A (.compLoop (.ListComp elt [⟨target,iter,ifs,0⟩] scope pos) 0 it acc env) R s:=by
 refine codeAny_loop rfl I (λ n s hI=>?_) n h;refine wpAny_noted ?_;rw[compTurn_list];refine T0<|B33<|T0<|A21 (turn n s hI) (λ r s₁ h₁=>?_) λ _ _ h'=>h'.elim;cases r with
 |none=>exact P3 h₁
 |some v=>
  refine T0<|A21 h₁ (λ _ s₁ h₁=>?_) λ _ _ h'=>h'.elim;refine T0<|A21 h₁ (λ _ s₂ h₂=>T0<|A21 h₂ (λ ok s₃ h₃=>?_) λ _ _ h'=>h'.elim) λ _ _ h'=>h'.elim;cases ok with
  |false=>exact P3 ⟨rfl,h₃⟩
  |true=>exact T0<|T0<|A21 h₃ (λ x s₄ h₄=>T0<|A21 h₄ (λ _ s₅ h₅=>P3<|P3 ⟨rfl,h₅⟩) λ _ _ h'=>h'.elim) λ _ _ h'=>h'.elim
structure Off(X:Cx)(χ:List (Addr×Obj))(H:Hp)(C:Addr):Prop where
 free:H C=At
 loc:C≠X.env.locals
 new:X.s₀.heap.objs.size<=C
 cell:∀x c,X.env.cells.lookup x=AC c->c≠C
 pin:∀p∈X.pn++χ,p.1≠C
theorem Off.inv(o:Off X χ H C)(I:Inv X χ σ H s)(hs:IN C s.heap h'):Inv X χ σ H {s with heap:=h'}:=
 I.turned (λ b ob hb e=>(hs.2 b hb).trans e) o.free o.loc (.inr o.new) o.cell o.pin
def YK(X:Cx)(χ:γ (δ×μ))(σ:St)(H₂:Hp)(ys:γ Z.D)(acc:ζ)(C:δ)(s':η):Prop:=
 ∃D H' vs m,acc=.ref D/\s'.heap.Ns C m/\Inv X χ σ H' s'/\Off X χ H' C/\H₂ D=At/\aJ H₂ H'/\H' D=AC (.lst vs)/\aE X.K H' ys vs
theorem K8{it:δ}{fp:γ δ}{tn:Nat->ν->Prop}{J:It}{χ:γ (δ×μ)}{σ:St}{ρ:Z.Env}{H₂:Hp}{s₂:η}{E:ζ->η->Prop}{cl:γ (Str×δ)}{G:Z.GF}{t:Z.TF}{fe:Z.EF}{ds ys:γ Z.D}
 (cZ:X.calm=Ch) (B:vj X.N N' n is scope X.env.scope) (I2:Inv X χ σ H₂ s₂) (T:Turn X.prog X.w X.K tg J fp it tn) (Hw:tn 0 s₂.heap) (fo:∀b∈fp,p! X χ H₂ b) (z:DX X.K J (aJ H₂) ds) (re:RE X.K H₂ σ ρ)
 (jB:∀x c,cl.lookup x=AC c->X.env.cells.lookup x=AC c) (uA:∀y∈scope.names,y.2=.free->(cl.lookup y.1).isSome=Ch)
 (hG:∀d ρ ρ1,G d ρ=.ok ρ1->ρ1.length=ρ.length/\∀i,n<=i->ρ1[i]?=ρ[i]?)
 (hg:∀C s H H0,DG (oz X N' scope cl C fp s H) H0 tg G)
 (ht:∀ C s s' H nv (σ':St) (H':Hp) (Q:Bool->Hp->Prop),Inv (oz X N' scope cl C fp s H) nv σ' H' s'->T7 X.K t σ' H' Q ->
  EQ (model X.prog X.w) X.A (forIn ifs Ch λ c r=>if r=Ch then do let ok ←isTrue c (compEnvC scope cl C X.env) (eval c<|compEnvC scope cl C X.env);pure (GT ok)else pure (GT r)) (TP (oz X N' scope cl C fp s H) nv σ' Q) (λ _ _=>False) s')
 (he:∀C s H,DE (oz X N' scope cl C fp s H) elt fe) (ψ:ds.length<=Z.line) (ego:Z.bY G t fe (Do n At++Z.fi ρ is) ds=.ok ys) :
 EQ (model X.prog X.w) X.A (newList []) (λ acc s₃=>EQ (model X.prog X.w) X.A (newFunctionEnv scope X.env.globals cl [] X.env.qual At .none<|some X.env) (λ So s₄=>codeAny (model X.prog X.w) X.A (.compStart (.ListComp elt [⟨tg,iter,ifs,0⟩] scope pos) 0 (.ref it) acc {So with scope:=relabel scope X.env}) (λ r s'=>r=.ok .next/\YK X χ σ H₂ ys acc So.locals s') s₄) E s₃) E s₂:=by
 refine A67<|wpAny_newFunctionEnv B.cell (by intro y hy;simp at hy) (λ h₁ NS J9=>?_) B.kind;dsimp only at NS J9 ⊢;generalize Kf:s₂.heap.push {cls:=.type "list",dict:=At,data:=.seq ([]:γ ζ).toArray}=HH at NS J9 ⊢;have hC:HH.objs.size=s₂.heap.objs.size+1:=by rw[<-Kf,A50]
 have Yu:s₂.heap.objs.size≠HH.objs.size:=by rw[hC];exact A12<|A61 _
 have below:∀b,b<s₂.heap.objs.size->b≠HH.objs.size/\b≠s₂.heap.objs.size:=λ b hb=>⟨by rw[hC];exact A12<|B58 hb,A12 hb⟩
 have old:∀b o,s₂.heap.get? b=AC o->h₁.get? b=AC o:=λ b o e=>J9.extBut b o (below b<|A01 e).1<|v6 _<|Kf▸v6 _ e;have V_:h₁.get? s₂.heap.objs.size=AC {cls:=.type "list",data:=.seq ([]:γ ζ).toArray}:=J9.extBut _ _ Yu<|v6 _<|Kf▸A14 _ rfl;have fpo:∀b∈fp,∃o,s₂.heap.get? b=AC o/\∀v,o.data≠.cell v:=T.obj 0 _ Hw;have R!:∀b∈fp,b<s₂.heap.objs.size:=λ b hb=>let ⟨_,e,_⟩:=fpo b hb;A01 e;generalize hD:s₂.heap.objs.size=D at Yu below old V_ hC ⊢;generalize hCC:HH.objs.size=C at NS J9 Yu below hC ⊢;have LO:H₂ D=At:=I2.b9.fresh (by rw[hD];exact v4 _);have hCn:H₂ C=At:=I2.b9.fresh (by rw[hD,hC];exact A57 _)
 -- Qi YD context is in order
 have ok:(oz X N' scope cl C fp s₂ H₂).Ok:=by
  refine⟨I2.ok.mod,B.kind,I2.ok.glob,I2.ok.blt,by show s₂.heap.objs.size<=C;rw[hD,hC];exact A57 _,λ x y c e1 e2=>I2.ok.inj x y c (jB x c e1)<|jB y c e2,λ x hx=>?_,λ x c hf=>(by cases hf),I2.ok.hd,I2.ok.frames,.inl rfl,
   λ b hb=>⟨(below b (by rw[<-hD];exact R! b hb)).1,λ x c e=>(fo b hb).2.2.2.2.1 x c<|jB x c e⟩,I2.bs,A13 I2.ok.Lf I2.sz,λ b o e hb=>?_,λ b hb z=>?_,I2.stack,I2.sH⟩
  .have Hz:(relabel scope X.env).names.lookup x=AC .cell\/(relabel scope X.env).names.lookup x=AC .free:=hx;have e:=jc (env:=X.env) (x:=x) scope.names;have e':(relabel scope X.env).names.lookup x=_:=e;rw[e']at Hz;cases q:scope.names.lookup x with
   |none=>rw[q]at Hz;rcases Hz with h|h<;>cases h
   |some k=>
    have hm:=A66 q;have hk:k=.free:=by
     rw[q]at Hz;simp only[A68]at Hz;by_cases hc:(k==NameKind.free&&X.env.scope.kind==.function&&X.env.kindOf x==AC .cell)=Ch
     .rw[A46,A46]at hc;exact A27.mp hc.1.1
     .rw[W1 hc]at Hz;rcases Hz with h|h
      .exact absurd (A04 h)<|B.cell _ hm
      .exact A04 h
    subst hk;exact A91.mp<|uA _ hm rfl
  .rcases(fo b hb).2.2.2.1 with q|q
   .exact I2.ok.AB b o e q
   .exact absurd (A16 (A01 (I2.ok.bs b o e).1) q)<|A88 _
  .rcases A00.mp (I2.qr b z)with q|q
   .exact(fo b hb).2.1 q
   .exact(fo b hb).2.2.1 q
 have Hd:lM X.prog X.w (upd H₂ D<|.lst []) h₁:=I2.b9.laid old (by rw[hD];exact v4 _) ⟨A51 _,[],_,.nil,V_⟩;have ne2:∀b,b<s₂.heap.objs.size->b≠D:=λ b hb=>by rw[<-hD];exact A12 hb
 have uY:∀x c,X.env.cells.lookup x=AC c->c<s₂.heap.objs.size/\∀v,s₂.heap.IsCell c v->h₁.IsCell c v:=λ x c e=>by let⟨v,o,ho,hd⟩:=I2.cell x c e;exact⟨A01 ho,by rintro v' ⟨o',pI,qI⟩;exact⟨o',old c o' pI,qI⟩⟩
 have I4:Inv (oz X N' scope cl C fp s₂ H₂) [] (nT σ n is) (upd H₂ D<|.lst []) {s₂ with heap:=h₁,toks:=s₂.toks+([]:γ (Str×ζ)).length}:=by
  refine⟨ok,rfl,I2.bare,Un.laid old (by rw[hD];exact v4 _) LO,⟨_,NS,λ i x v e1 e2 e3=>?_⟩,λ x c e=>?_,by show upd H₂ D (.lst []) C=At;rw[aG<|A05 Yu];exact hCn,λ x c e=>?_,λ p hp=>absurd (show p∈([]:γ (δ×μ))from hp) ∅,Hd,by simp[nT,B.len],I2.tab.up λ b u _ e=>by rw[aG<|bj e LO];exact e⟩
  .unfold nT at e2;by_cases hi:i<n
   .rw[A35 (by simpa using hi),A58]at e2;split at e2<;>cases e2
   .rw [A45 (by simpa using hi),A08] at e2;simp only[A80]at e2;cases q:is[i-n]? with
    |none=>rw[q]at e2;cases e2
    |some j=>
     rw[q]at e2;simp only[A68]at e2;let⟨x',c1,c2,c3⟩:=B.cap (i-n) j q;have qH:n+(i-n)=i:=by lia
     rw[qH]at c1;have PL:N'[i]?=AC x:=e1;rw[c1]at PL;cases PL;have hσ:σ[j]?=AC (AC v):=by
      cases r:σ[j]? with
      |none=>rw[r]at e2;cases e2
      |some y=>
       rw[r]at e2;have:y=AC v:=by simpa using e2
       rw[this]
     let⟨m,hn,hl⟩:=I2.loc;have hm:=A66 c3;have hk:=B.free _ hm rfl;have RC:Hq X.env.scope x:=by
      rcases hk with k|k
      .exact .inr<|.inl k
      .exact .inr<|.inr k
     let⟨u,ru,lk⟩:=hl j x v c2 hσ RC;refine⟨u,ru,?_⟩;rcases lk with⟨k1,_⟩|⟨k1,c,hc,rF⟩
     .have NB:X.env.scope.names.lookup x=AC .local:=k1;rcases hk with k|k
      .rw[k]at NB;cases NB
      .rw[k]at NB;cases NB
     .let⟨c',sk⟩:=A91.mp (uA _ hm rfl);have:c'=c:=by have:=jB x c' sk;rw[hc]at this;exact(A04 this).symm
      subst this;refine .inr ⟨?_,c',sk,(uY x c' hc).2 _ rF⟩;show(relabel scope X.env).names.lookup x=AC .cell\/(relabel scope X.env).names.lookup x=AC .free;have e:=jc (env:=X.env) (x:=x) scope.names;have e':(relabel scope X.env).names.lookup x=_:=e;rw[e',c3];simp only[A68];split
      .exact .inl rfl
      .exact .inr rfl
  .let⟨v,hv⟩:=I2.cell x c (jB x c e);exact⟨v,(uY x c<|jB x c e).2 v hv⟩
  .have kz:=(uY x c<|jB x c e).1;rw[aG<|ne2 c kz];exact I2.gW x c<|jB x c e
 have rs4:RS X.K H₂ (upd H₂ D<|.lst []) (nT σ n is) (Do n At++Z.fi ρ is):=IK re<|cn LO;have st4:tn 0 h₁:=T.keep 0 _ _ Hw λ b hb o e=>old b o e;have fr4:∀b∈fp,(upd H₂ D<|.lst []) b=At:=λ b hb=>by rw[aG<|ne2 b<|R! b hb];exact(fo b hb).1
 -- YX stays true of Qi C3 objects
 have Ci:∀{H'},(∀b∈fp,H' b=At)->∀b∈fp,p! (oz X N' scope cl C fp s₂ H₂) [] H' b:=λ hn b hb=>by
  refine⟨hn b hb,(below b (by rw[<-hD];exact R! b hb)).1,?_,.inl hb,λ x c e=>(fo b hb).2.2.2.2.1 x c<|jB x c e,λ p hp=>absurd (show p∈([]:γ (δ×μ))from hp) ∅⟩;intro q;rcases A00.mp (I2.qr b q)with q|q
  .exact(fo b hb).2.1 q
  .exact(fo b hb).2.2.1 q
 have loop:codeAny (model X.prog X.w) X.A (.compLoop (.ListComp elt [⟨tg,iter,ifs,0⟩] scope pos) 0 (.ref it) (.ref D)<|compEnvC scope cl C X.env) (λ r s'=>r=.ok .next/\YK X χ σ H₂ ys (.ref D) C s')
  {s₂ with heap:=h₁,toks:=s₂.toks+([]:γ (Str×ζ)).length}:=by
  refine m_ (λ m s'=>∃i σ' H' vs zs,m=ds.length+1-i/\i<=ds.length/\vs.length<=i/\Inv (oz X N' scope cl C fp s₂ H₂) [] σ' H' s'/\tn i s'.heap/\(∀b∈fp,H' b=At)/\H' D=AC (.lst vs)/\aJ H₂ H' /\
   RS X.K H₂ H' σ' (Do n At++Z.fi ρ is)/\(∃rest,Z.bY G t fe (Do n At++Z.fi ρ is) (ds.drop i)=.ok rest/\zs++rest=ys)/\aE X.K H' zs vs) ?_ (ds.length+1)
   ⟨0,nT σ n is,_,[],[],rfl,A51 _,v4 _,I4,st4,fr4,aO,cn LO,rs4,⟨ys,by simpa using ego,rfl⟩,aE.nil⟩
  .rintro m s' ⟨i,σ3,H3,vs,zs,rfl,A1,Yi,I3,Io,Wj,Yv,Hx,Zt,⟨rest,er,ez⟩,dz⟩;by_cases kz:i<ds.length
   .obtain⟨d,hd⟩:∃d,ds[i]?=AC d:=⟨ds[i],by simp[kz]⟩
    have pJ:ds.drop i=d::ds.drop (i+1):=by
     rw[A83 kz];have:ds[i]=d:=by have:=A03 kz;rw[this]at hd;exact A04 hd
     rw[this]
    rw[pJ]at er;unfold Z.bY at er;let⟨ρ1,eg,er⟩:=XV er;let⟨c1,ec,er⟩:=XV er;refine cA (T.item (oz X N' scope cl C fp s₂ H₂) rfl rfl rfl cZ i [] s' σ3 H3 (λ _ _=>False) I3 (Ci Wj) Io<|z.go i d H3 Hx hd) ?_;rintro r s4 ⟨u,hr,h4⟩;subst hr;refine cA h4 ?_;rintro _ s5 ⟨x,H5,I5,r5,y5,xY,fr5⟩;let⟨sy,dx⟩:=z.D3 i d H3 H5 x Hx hd y5;replace Zt:=Zt.up sy;replace Hx:=Hx.trans sy;replace Yv:=sy _ _ Yv;replace dz:=dz.up sy;have I5':=I5.pinned (Ci fr5)<|T.obj _ _ xY;have rs5:RS X.K H₂ H5 σ3 (Do n At++Z.fi ρ is):=Zt;refine cA (hg C s₂ H₂ H₂ _ s5 σ3 H5 x u (λ σ6 H6=>aJ H5 H6/\RS X.K H₂ H6 σ6 ρ1) I5' r5 ⟨_,d,ρ1,rs5,dx,eg,λ σ' H' s' r'=>⟨s',r'⟩⟩) ?_;rintro _ s6 ⟨σ6,H6,I6,sm6,Xv⟩;refine cA (ht C s₂ s6 H₂ _ σ6 H6 (λ b H7=>b=c1/\aJ H6 H7) I6 ⟨ρ1,c1,Xv.re,ec,λ H7 s7=>⟨rfl,s7⟩⟩) ?_;rintro ok s7 ⟨H7,I7,e7,Zd⟩;subst e7;have Iq:aJ H5 H7:=sm6.trans Zd;have Zs:RE X.K H7 σ6 ρ1:=Xv.re.up Zd;have re0:∀{H9},aJ H7 H9->RS X.K H₂ H9 σ6 (Do n At++Z.fi ρ is):=λ {H9} s9=>by
     let⟨gl,gk⟩:=hG d _ ρ1 eg;refine⟨(Xv.same.trans Zd).trans s9,⟨by rw[<-gl];exact Zs.len,λ j l e=>?_,λ j k xs ys q e1=>absurd e1<|gj n is ρ j xs⟩,λ j xs q e1=>absurd e1<|gj n is ρ j xs,λ j xs e=>?_,ku.non<|qT n is ρ⟩;rotate_left
     .by_cases hj:n<=j
      .rw[<-gk j hj]at e;exact Xv.p5 j xs e
      .rw[A35 (by simp;lia),A58]at e;split at e<;>cases e
     by_cases hj:n<=j
     .rw[<-gk j hj]at e;exact(Zs.up s9).get j l e
     .rw[A35 (by simp;lia),A58]at e;split at e<;>cases e
    have fin:∀{H9}{s9} TU Xb,Inv (oz X N' scope cl C fp s₂ H₂) ([]++t? fp s5.heap) σ6 H9 s9->H9 D=AC (.lst TU)->TU.length<=i+1->aJ H₂ H9->RS X.K H₂ H9 σ6 (Do n At++Z.fi ρ is) ->
     (∃ rest,Z.bY G t fe (Do n At++Z.fi ρ is) (ds.drop<|i+1)=.ok rest/\Xb++rest=ys)->aE X.K H9 Xb TU->∃ m,m<ds.length+1-i/\∃ i σ' H' vs zs,m=ds.length+1-i/\i<=ds.length/\vs.length<=i/\Inv (oz X N' scope cl C fp s₂ H₂) [] σ' H' s9/\tn i s9.heap/\(∀ b∈fp,H' b=At)/\H' D=AC (.lst vs)/\aJ H₂ H' /\
      RS X.K H₂ H' σ' (Do n At++Z.fi ρ is)/\(∃rest,Z.bY G t fe (Do n At++Z.fi ρ is) (ds.drop i)=.ok rest/\zs++rest=ys)/\aE X.K H' zs vs:=by
     intro H9 s9 TU Xb I9 hD9 hv9 Uh re9 er9 dz9;refine⟨ds.length+1-(i+1),by lia,i+1,σ6,H9,TU,Xb,rfl,kz,hv9,I9.oW,T.keep _ _ _ xY λ b hb o e=>(I9.pin (b,o)<|A43 _<|A43 _<|kL hb e).1,λ b hb=>?_,hD9,Uh,re9,er9,dz9⟩;let⟨o,e,_⟩:=T.obj _ _ xY b hb;exact(I9.pin (b,o)<|A43 _<|A43 _<|kL hb e).2.1
    have hD7:H7 D=AC (.lst vs):=Iq _ _ Yv;cases ok with
    |false=>simp only[A48,A59]at er ⊢;exact fin vs zs I7 hD7 (B34 Yi) (Hx.trans Iq) (re0<|aJ.refl _) ⟨rest,er,ez⟩<|dz.up Iq
    |true=>
     simp only[A25]at er ⊢;let⟨y,ey,er⟩:=XV er;let⟨Ut,er2,er⟩:=XV er;cases er;refine cA (he C s₂ H₂ _ s7 σ6 H7 (λ v H8=>aJ H7 H8/\Den X.K H8 y v) I7 ⟨ρ1,y,Zs,ey,λ v H8 s8 d8=>⟨s8,d8⟩⟩) ?_;rintro u8 s8 ⟨v8,H8,I8,rv8,Xo,dy⟩;have hD8:H8 D=AC (.lst vs):=Xo _ _ hD7;have Ze:aJ H₂ H8:=(Hx.trans Iq).trans Xo;refine cA (wX (X:=oz X N' scope cl C fp s₂ H₂) _ s8 σ6 H8 (.ref D) [v8] (.ref D) [u8] (λ v H9=>v=.non/\H9=upd H8 D (.lst<|vs++[v8])) I8 rfl (.cons rv8 .nil) ⟨D,vs,v8,rfl,rfl,hD8,?_,rfl,rfl⟩) λ _ s9 ⟨v9,H9,I9,_,_,e9⟩=>?_
     .rw[A23];have:Z.line=16777216:=rfl;lia
     subst e9;have O9:g0 H8 (upd H8 D<|.lst<|vs++[v8]):=jF hD8;have Uh:aJ H₂ (upd H8 D<|.lst<|vs++[v8]):=λ b o e=>by rw[aG<|bj e LO];exact Ze b o e
     have S7:=re0 Xo;refine fin (vs++[v8]) (zs++[y]) I9 aO (by simp;lia) Uh ⟨Uh,⟨S7.re.len,λ j l e=>?_,λ j k xs ys q e1=>absurd e1<|gj n is ρ j xs⟩,λ j xs q e1=>absurd e1<|gj n is ρ j xs,S7.p5,S7.zr⟩ ⟨Ut,er2,by rw[B06];exact ez⟩<|(((dz.up Iq).up Xo).append<|aE.cons dy aE.nil).ups O9;let⟨v,h1,h2⟩:=S7.re.get j l e;refine⟨v,h1,?_⟩;cases l with
     |val dd=>exact Den.ups (show Den X.K H8 dd v from h2) O9
     |own xs=>exact absurd e<|gj n is ρ j xs
     |bor xs=>let⟨v',h3,h4⟩:=S7.p5 j xs e;rw[h1]at h3;cases h3;exact h4.re h2 S7.same Uh O9
     |dc ks=>exact absurd e<|qT n is ρ j ks
     |G3 ks=>let⟨q',o',as,rfl,gv,t'⟩:=h2;exact⟨q',o',as,rfl,O9.fF _ _ _ gv,t'.ups O9⟩
     |RA ps=>let⟨q',o',rfl,gv⟩:=h2;exact⟨q',o',rfl,O9.fF _ _ _ gv⟩
     |exc c=>let⟨q',o',u',C',rfl,gv,r1,r2,r3⟩:=h2;exact⟨q',o',u',C',rfl,O9.fF _ _ _ gv,r1,r2,r3.ups O9⟩
   .have:i=ds.length:=by lia
    subst this;rw[B57]at er;cases er;rw[A52]at ez;subst ez;refine cA (T.done (oz X N' scope cl C fp s₂ H₂) rfl rfl rfl cZ _ [] s' σ3 H3 (λ _ _=>False) I3 (Ci Wj) Io<|z.stop H3 Hx) ?_;rintro r s4 ⟨hr,J4⟩;subst hr;let⟨m',J?,_⟩:=J4.loc;have Jv:∀b o,s₂.heap.get? b=AC o->b≠C:=λ b o e=>(below b (by rw[<-hD];exact A01 e)).1;have I9:Inv X χ σ H3 s4:=I2.K! (s':=s4) J4.os J4.base J4.b9 J4.bare λ b hb=>⟨(fo b hb).2.2.2.1,(fo b hb).2.1,(fo b hb).2.2.2.2.1,(fo b hb).2.2.2.2.2⟩
    have Zc:s₂.heap.objs.size<=C:=by rw[hD,hC];exact A57 _
    refine⟨rfl,D,H3,vs,m',rfl,J?,I9,⟨J4.free,?_,A13 I2.sz Zc,λ x c e=>?_,λ p hp=>?_⟩,LO,Hx,Yv,dz⟩
    .exact A42<|A16 I2.lt Zc
    .exact A12<|A16 (uY x c e).1 Zc
    .exact Jv p.1 p.2 (I2.pin p hp).1
 have pG:codeAny (model X.prog X.w) X.A (.compStart (.ListComp elt [⟨tg,iter,ifs,0⟩] scope pos) 0 (.ref it) (.ref D)<|compEnvC scope cl C X.env) (λ r s'=>r=.ok .next/\YK X χ σ H₂ ys (.ref D) C s')
  {s₂ with heap:=h₁,toks:=s₂.toks+([]:γ (Str×ζ)).length}:=codeAny_compStart_list loop<|T.self _ 0 _ _ _ st4 loop
 exact pG
theorem fu(h:k<n)(d:Z.D)(ρ ρ1:Z.Env)(e:Z.aW k d ρ=.ok ρ1):ρ1.length=ρ.length/\∀i,n<=i->ρ1[i]?=ρ[i]?:=by cases e;exact⟨by simp,λ i hi=>A29 ∅⟩
theorem rJ:∀ks,(∀k∈ks,k<n)->∀ds ρ ρ1,Z.iG ks ds ρ=.ok ρ1->ρ1.length=ρ.length/\∀i,n<=i->ρ1[i]?=ρ[i]?
|[],_,[],ρ,ρ1,e=>by cases e;exact⟨rfl,λ _ _=>rfl⟩
|[],_,_::_,_,_,e=>by cases e
|_::_,_,[],_,_,e=>by cases e
|k::ks,h,d::ds,ρ,ρ1,e=>by let⟨h1,h2⟩:=rJ ks (λ k hk=>h k<|A09 _ hk) ds _ ρ1 e;refine⟨by rw[h1];simp,λ i hi=>?_⟩;rw[h2 i hi];have:=h k A11;exact A29 ∅
theorem mL(h:∀k∈ks,k<n)(d:Z.D)(ρ ρ1:Z.Env)(e:Z.iA ks d ρ=.ok ρ1):ρ1.length=ρ.length/\∀i,n<=i->ρ1[i]?=ρ[i]?:=by
 unfold Z.iA at e;split at e
 .exact rJ ks h _ ρ ρ1 e
 .cases e
def WV(X:Cx)(ifs:γ ι)(t:Z.TF):Prop:=∀(χ:γ (δ×μ))(s:η)(σ:St)(H:Hp)(Q:Bool->Hp->Prop),Inv X χ σ H s->T7 X.K t σ H Q ->
 EQ (model X.prog X.w) X.A (forIn ifs Ch λ c r=>if r=Ch then do let ok ←isTrue c X.env (eval c X.env);pure (GT ok)else pure (GT r)) (TP X χ σ Q) X.xe s
structure _root_.ZQ.OW(X:Cx)(ifs:List Expr)(t:Z.TF):Prop where p:WV X ifs t
theorem _root_.ZQ.tP:ZQ.OW X [] Z.bZ:=⟨by rintro χ s σ H Q I ⟨ρ,b,r,e,k⟩;cases e;exact wpAny_tests_nil ⟨H,I,k H<|aJ.refl H⟩⟩
theorem _root_.ZQ.jE(h:ZQ.QT X c t):ZQ.OW X [c] t:=⟨λ χ s σ H Q I w=>wpAny_tests_one<|h.p χ s σ H Q I w⟩
theorem Bv(cZ:X.calm=Ch)(hi:DI X tg iter it)(B:vj X.N N' n is scope X.env.scope)
 (hG:∀d ρ ρ1,G d ρ=.ok ρ1->ρ1.length=ρ.length/\∀i,n<=i->ρ1[i]?=ρ[i]?)
 (hg:∀cl C fp s H H0,DG (oz X N' scope cl C fp s H) H0 tg G) (ht:∀cl C fp s H,WV (oz X N' scope cl C fp s H) ifs t) (he:∀cl C fp s H,DE (oz X N' scope cl C fp s H) elt fe)
 (hs:∀x,foldedSetIterable iter X.env x=pure x)
 (I:Inv X χ σ H s) (re:RE X.K H σ ρ) (ec:Z.bS it n is G t fe ρ=.ok ys)
 (fin:∀acc C s' H₂,aJ H H₂->YK X χ σ H₂ ys acc C s'->compPost (model X.prog X.w) X.A X.xe use Q acc C (.ok .next) s') :
 EQ (model X.prog X.w) X.A (comprehension (.ListComp elt [⟨tg,iter,ifs,0⟩] scope pos) scope X.env ps (newList []) AT (eval iter X.env) use) Q X.xe s:=by
 let⟨ds,ei,ec⟩:=XV ec;unfold Z.guard at ec;split at ec
 .rename_i ψ;have rE:∀y∈scope.names,y.2=.free->∃c,X.env.cells.lookup y.1=AC c:=λ y hy hf=>I.ok.has y.1<|B.free y hy hf;let⟨cl,kA,jB,uA⟩:=jY rE;refine wpAny_comprehension_free rfl hs kA B.kind B.loc ?_;refine cA (hi χ s σ H (λ J H₂=>aJ H H₂/\DX X.K J _ ds) I ⟨ρ,ds,re,ei,λ J H' s' z=>⟨s',z⟩⟩) λ x s₁ h₁=>?_;refine cA h₁ ?_;rintro Z! s₂ ⟨it',fp,tn,J,H₂,e2,I2,T,Hw,fo,sm,z⟩;subst e2;refine cA (K8 (iter:=iter) (pos:=pos) cZ B I2 T Hw fo z (re.up sm) jB uA hG (λ C s H H0=>hg cl C fp s H H0) (λ C s s' H' nv σ' P0 Q' I' w=>ht cl C fp s H' nv s' σ' P0 Q' I' w) (λ C s H=>he cl C fp s H) ψ ec) λ acc s₃ h₃=>?_;refine cA h₃ λ So s₄ h₄=>A78 h₄ ?_;rintro r s' ⟨er,Uv⟩;subst er;exact fin acc _ s' H₂ sm Uv
 .cases ec
theorem _root_.ZQ.bF(hi:ZQ.QI X tg iter it)(he:∀{cl C fp s H},ZQ.QE (oz X N' scope cl C fp s H) elt fe)(ht:∀{cl C fp s H},ZQ.OW (oz X N' scope cl C fp s H) ifs t:=by exact tP)(hg:∀{cl C fp s H H0},ZQ.QG (oz X N' scope cl C fp s H) H0 tg G:=by exact bM)(cZ:X.calm=Ch:=by rfl)(B:vj X.N N' n is scope X.env.scope:=by exact ZS.vj.of (by kernel_rfl))(hG:∀d ρ ρ1,G d ρ=.ok ρ1->ρ1.length=ρ.length/\∀i,n<=i->ρ1[i]?=ρ[i]?:=by exact ZS.fu ∅)(hs:∀x,foldedSetIterable iter X.env x=pure x:=by intro _;rfl):ZQ.QL X (.ListComp elt [⟨tg,iter,ifs,0⟩] scope pos) (Z.bS it n is G t fe):=⟨by have hg:∀cl C fp s H H0,DG (oz X N' scope cl C fp s H) H0 tg G:=λ _ _ _ _ _ _=>hg.p;have ht:∀cl C fp s H,WV (oz X N' scope cl C fp s H) ifs t:=λ _ _ _ _ _=>ht.p;have he:∀cl C fp s H,DE (oz X N' scope cl C fp s H) elt fe:=λ _ _ _ _ _=>he.p;intro χ s σ H Q I w;let⟨ρ,ys,re,e,k⟩:=w;rw[eval_ListComp];refine Bv cZ hi.p B hG hg ht he hs I re e λ acc C s' H₂ sm Uv=>?_;let⟨D,H',vs,m,rfl,J!,I',off,LO,SX,hD,dz⟩:=Uv;exact⟨m,J!,λ h' BP=>⟨.ref D,H',off.inv I' BP,rfl,k D vs H' (sm.trans SX) (sm.free LO) hD dz⟩⟩⟩
theorem K7(cZ:X.calm=Ch)(hN:X.N.Nodup)(VU:X.N[i]?=AC x)(hx:Loc X.env.scope x)
 (VL:swapsWith (.ListComp elt [⟨tg,iter,ifs,0⟩] scope pos) (AC<|.Name x px) Ip.line X.env=pure Ch) (hi:DI X tg iter it) (B:vj X.N N' n is scope X.env.scope) (hG:∀d ρ ρ1,G d ρ=.ok ρ1->ρ1.length=ρ.length/\∀i,n<=i->ρ1[i]?=ρ[i]?)
 (hg:∀cl C fp s H H0,DG (oz X N' scope cl C fp s H) H0 tg G) (ht:∀cl C fp s H,WV (oz X N' scope cl C fp s H) ifs t) (he:∀cl C fp s H,DE (oz X N' scope cl C fp s H) elt fe)
 (hs:∀x,foldedSetIterable iter X.env x=pure x) (hf:X.fn x=Ch\/X.env.scope.names.lookup x=AC .local) (I:Inv X χ σ H s) (re:RE X.K H σ ρ) (e:Z.bS it n is G t fe ρ=.ok ys)
 (k:∀q vs H',aJ H H'->H q=At->H' q=AC (.lst vs)->aE X.K H' ys vs->∃P0,(∀s',Inv X χ (σ.set i<|some<|.ref q) H' s'->Inv X χ (σ.set i<|some<|.ref q) P0 s')/\D.nx (σ.set i<|some<|.ref q) P0) :
 EQ (model X.prog X.w) X.A (exec (.Assign [.Name x px] (.ListComp elt [⟨tg,iter,ifs,0⟩] scope pos) Ip) X.env) (SP X χ D) X.xe s:=by
 rw[exec_Assign_Name_used _ _ _ _ VL];refine T0<|B33<|T0 ?_;refine T0<|A21 (Bv cZ hi B hG hg ht he hs I re e λ acc C s' H₂ sm Uv=>?_) (λ _ s' hq=>P3<|P3 hq) λ _ _ e=>e;let⟨q,H',vs,m,rfl,J!,I',off,LO,SX,hD,dz⟩:=Uv;let⟨P0,hI,hnx⟩:=k q vs H' (sm.trans SX) (sm.free LO) hD dz;refine wpAny_assign_Name<|wI I' hN VU hx (v:=.ref q) rfl (?_) hf;rintro S4 I'' ⟨⟨a,sb,ha⟩,_⟩;have hCa:C≠a:=by
  rcases ha with rfl|ha
  .exact off.loc
  .exact λ z=>off.cell x a ha z.symm
 refine⟨m,J!.sameBut sb hCa,λ h' BP=>⟨_,P0,?_,hnx⟩⟩;exact hI _<|off.inv I'' BP
theorem Oj(cZ:X.calm=Ch)(hN:X.N.Nodup)(VU:X.N[i]?=AC x)(hx:Loc X.env.scope x)
 (hi:DI X tg iter it) (B:vj X.N N' n is scope X.env.scope) (hG:∀d ρ ρ1,G d ρ=.ok ρ1->ρ1.length=ρ.length/\∀i,n<=i->ρ1[i]?=ρ[i]?)
 (hg:∀cl C fp s H H0,DG (oz X N' scope cl C fp s H) H0 tg G) (ht:∀cl C fp s H,WV (oz X N' scope cl C fp s H) ifs t) (he:∀cl C fp s H,DE (oz X N' scope cl C fp s H) elt fe)
 (VL:swapsWith (.ListComp elt [⟨tg,iter,ifs,0⟩] scope pos) (AC<|.Name x px) Ip.line X.env=pure Ch:=by rfl)
 (hs:∀x,foldedSetIterable iter X.env x=pure x:=by intro _;rfl) (hf:Fl X x:=by trivial) :
 DS X H0 (.Assign [.Name x px] (.ListComp elt [⟨tg,iter,ifs,0⟩] scope pos) Ip) (Z.nS i<|Z.bS it n is G t fe):=by
 intro χ s σ H D I w;let⟨ρ,fl,rs,e,k⟩:=w;let⟨ys,ey,e⟩:=XV e;cases e;refine K7 cZ hN VU hx VL hi B hG hg ht he hs hf I rs.re ey λ q vs H' s' hn h1 t'=>⟨H',λ _ j=>j,?_⟩
 exact k _ H' (ky s')<|(rs.up s').Uj h1 t' (rs.same.free hn) λ j xs _ e=>rs.noq hn j xs e
theorem _root_.ZQ.kU(cZ:X.calm=Ch)(hN:X.N.Nodup)(VU:X.N[i]?=AC x)(hx:Loc X.env.scope x)
 (hi:ZQ.QI X tg iter it) (B:vj X.N N' n is scope X.env.scope) (hG:∀d ρ ρ1,G d ρ=.ok ρ1->ρ1.length=ρ.length/\∀i,n<=i->ρ1[i]?=ρ[i]?)
 (hg:∀cl C fp s H H0,ZQ.QG (oz X N' scope cl C fp s H) H0 tg G) (ht:∀cl C fp s H,ZQ.OW (oz X N' scope cl C fp s H) ifs t) (he:∀cl C fp s H,ZQ.QE (oz X N' scope cl C fp s H) elt fe)
 (VL:swapsWith (.ListComp elt [⟨tg,iter,ifs,0⟩] scope pos) (AC<|.Name x px) Ip.line X.env=pure Ch:=by rfl)
 (hs:∀x,foldedSetIterable iter X.env x=pure x:=by intro _;rfl) (hf:Fl X x:=by trivial) :
 ZQ.QS X H0 (.Assign [.Name x px] (.ListComp elt [⟨tg,iter,ifs,0⟩] scope pos) Ip) (Z.bc i<|Z.eL<|Z.bS it n is G t fe):=⟨by
 have hg:=λ y0 y1 y2 y3 y4 y5=>(hg y0 y1 y2 y3 y4 y5).p;have ht:=λ y0 y1 y2 y3 y4=>(ht y0 y1 y2 y3 y4).p;have he:=λ y0 y1 y2 y3 y4=>(he y0 y1 y2 y3 y4).p;have h1:DS X H0 _ _:=Oj cZ hN VU hx hi.p B hG hg ht he VL hs hf;intro χ s σ H D I w;let⟨ρ,fl,rs,e,k⟩:=w;let⟨d,ed,e⟩:=XV e;cases e;unfold Z.eL at ed;cases ey:Z.bS it n is G t fe ρ with
 |bad=>rw[ey]at ed;cases ed
 |ok ys=>
  rw[ey]at ed;cases ed;refine cA (h1 χ s σ H {D with nx:=λ σ' H'=>g0 H H'/\RS X.K H0 H' σ' _} I ⟨ρ,.nx<|ρ.set i<|some<|.own ys,rs,by show(Z.bS it n is G t fe ρ).bind _=_;rw[ey];rfl,λ σ' H' s' r'=>⟨s',r'⟩⟩) λ fl' s' h=>?_;cases fl' with
  |next=>
   let⟨σ',H',I',z6,Em⟩:=h;by_cases hl:i<ρ.length
   .have ei:(ρ.set i<|some<|Z.L.own ys)[i]?=AC (AC<|.own ys):=A41 hl;let⟨v,si,q,us,rfl,hq,t'⟩:=Em.re.get i _ ei;let⟨o,I2⟩:=n8 I' hq;have r2:=Em.fF (o:=o) ei si hq t';rw[List.set_set]at r2;exact⟨σ',_,I2,k σ' _ (z6.trans<|jF hq) r2⟩
   .have e0:ρ.set i (AC<|Z.L.own ys)=ρ:=C50 ∅;have e1:ρ.set i (AC<|Z.L.val<|.lst ys)=ρ:=C50 ∅;rw[e0]at Em;have k':=k;rw[e1]at k';exact⟨σ',H',I',k' σ' H' z6 Em⟩
  |brk=>exact h
  |cont=>exact h
  |ret u=>exact h⟩
end
section
variable{P:ο}{w:ξ}{K:Da}{mg:Str->ε ζ}{base:ν}
theorem mD(t:aE K H ds vs)(hl:vs.length<=N.length):RS K H H (L2.start N vs) (Z.start N.length ds):=by
 have AA:∀(i:Nat) xs,(Z.start N.length ds)[i]?≠AC (AC<|.own xs):=by
  intro i xs e;unfold Z.start at e;by_cases hi:i<ds.length
  .rw[A35 (by simpa using hi),A08]at e;cases q:ds[i]? with
   |none=>rw[q]at e;cases e
   |some d=>rw[q]at e;cases e
  .rw[A45 (by simpa using hi),A58]at e;split at e<;>cases e
 have U?:∀(i:Nat) xs,(Z.start N.length ds)[i]?≠AC (AC<|.bor xs):=by
  intro i xs e;unfold Z.start at e;by_cases hi:i<ds.length
  .rw[A35 (by simpa using hi),A08]at e;cases q:ds[i]? with
   |none=>rw[q]at e;cases e
   |some d=>rw[q]at e;cases e
  .rw[A45 (by simpa using hi),A58]at e;split at e<;>cases e
 have U!:∀(i:Nat) ks,(Z.start N.length ds)[i]?≠AC (AC<|.dc ks):=by
  intro i ks e;unfold Z.start at e;by_cases hi:i<ds.length
  .rw[A35 (by simpa using hi),A08]at e;cases q:ds[i]? with
   |none=>rw[q]at e;cases e
   |some d=>rw[q]at e;cases e
  .rw[A45 (by simpa using hi),A58]at e;split at e<;>cases e
 have ψ:=t.length;refine⟨aJ.refl H,⟨?_,λ i l e=>?_,λ i j xs ys q e1=>absurd e1<|AA i xs⟩,λ i xs q e1=>absurd e1<|AA i xs,λ i xs e1=>absurd e1<|U? i xs,ku.non U!⟩
 .unfold Z.start L2.start;simp;lia
 .unfold Z.start at e;by_cases hi:i<ds.length
  .rw[A35 (by simpa using hi),A08]at e;cases q:ds[i]? with
   |none=>rw[q]at e;cases e
   |some d=>rw[q]at e;cases e;let⟨v,h1,h2⟩:=t.get q;refine⟨v,?_,h2⟩;unfold L2.start;rw[A35 (by simp;lia),A08,h1];rfl
  .rw[A45 (by simpa using hi),A58]at e;split at e<;>cases e
theorem fnZ{st:θ}(F:BJ K x qual st f fd)(S:aY N ps (aj st))
 (hb:∀ ba A outer s H E,bG k (A.deeper<|envOfC qual (aj st) s.heap.objs.size f ba) ->
  LY (dU iK P w K mg base N qual (aj st) f ba A outer s H E).gE H (aL st) b):ee P w K mg base iK (k+1) f fd ps (zo K<|Z.fn ps.length N.length b):=by
 have ψ:∀vs H Q E,zo K (Z.fn ps.length N.length b) vs H Q E->vs.length=ps.length:=by
  rintro vs H Q E ⟨ds,d,t,e,_⟩;unfold Z.fn at e;split at e
  .rename_i h;rw[t.length];exact h
  .cases e
 refine F.ok S ψ λ ba A outer s H vs Q E hr h=>⟨_,hb ba A outer s H E hr,?_⟩;have hl:=ψ vs H Q E h;let⟨ds,d,t,e,k⟩:=h;have fQ:ps.length<=N.length:=by have:=A15 List.length S.pre;rw[A24]at this;lia
 have rs:RS K H H _ (Z.start N.length ds):=mD t ∅;unfold Z.fn at e;split at e
 .cases eb:b (Z.start N.length ds)with
  |bad=>rw[eb]at e;cases e
  |ok fl=>
   rw[eb]at e;refine⟨_,fl,rs,eb,?_⟩;cases fl with
   |rt d'=>cases e;exact λ v H' s' dv=>k v H' s' dv
   |nx ρ'=>cases e;exact λ σ' H' _ Em=>k .non H' Em.same kY
   |bk ρ'=>cases e
   |ct ρ'=>cases e
 .cases e
end
def PV(N N':γ Str)(n:Nat)(is:γ Nat)(sc QR:τ):Bool:=
 (sc.kind==.function)&&sc.names.all (λ y=>y.2 != .cell)&&sc.names.all (λ y=>y.2 != .local||sc.names.lookup y.1==AC .local) &&
 sc.names.all (λ y=>y.2 != .free||QR.names.lookup y.1==AC .cell||QR.names.lookup y.1==AC .free)&&(N'.length==n+is.length) &&
 (Ev is.length).all (λ j=>match is[j]?,N'[n+j]? with
  |some i,AC x=>N[i]?==AC x&&sc.names.lookup x==AC .free
  | _,_=>AT) &&
 (Ev n).all (λ j=>match N'[j]? with
  |some x=>sc.names.lookup x==AC .local
  | none=>AT)
theorem vj.of(h:PV N N' n is sc QR=Ch):vj N N' n is sc QR:=by
 unfold PV at h;simp only[A46,A36,A27,AA8,bne_iff_ne,A26]at h;let⟨⟨⟨⟨⟨⟨h1,h2⟩,h3⟩,h4⟩,h5⟩,h6⟩,h7⟩:=h;refine⟨h1,h2,λ y hy e=>?_,λ y hy e=>?_,h5,λ j i e=>?_,λ j hj=>?_⟩
 .rcases h3 y hy with q|q
  .exact absurd e q
  .exact q
 .rcases h4 y hy with(q|q)|q
  .exact absurd e q
  .exact .inl q
  .exact .inr q
 .have hj:=(A07.mp e).1;have q:=h6 j hj;rw[e]at q;cases r:N'[n+j]? with
  |none=>rw[r]at q;cases q
  |some x=>rw[r]at q;simp only[A46,A27]at q;exact⟨x,rfl,q.1,q.2⟩
 .have q:=h7 j hj;cases r:N'[j]? with
  |none=>rw[r]at q;cases q
  |some x=>rw[r]at q;exact⟨x,rfl,A27.mp q⟩
structure Def(K:Da)(mg:Str->Option Value)(x:Str)(st:Stmt)(ps:List Str):Prop where
 ex:∃f fd,BJ K x x st f fd/\mg x=AC (.ref f)/\Binds K fd ps []
structure ib(P:Program)(w:World)(K:Da)(mg:Str->Option Value)(base:Heap)(x:Str)(k:Nat)(ps:List Str)(m:List Z.D->Z.Res Z.D):Prop where
 ex:∃g fd,ee P w K mg base iK k g fd ps (zo K m)/\mg x=AC (.ref g)/\FM K (.ref g)=Ch/\Binds K fd ps []
theorem ib.mk'{K:Da}{st:θ}(d:Def K mg x st ps)(S:aY N ps (aj st))
 (hb:∀ f ba A outer s H E,bG k (A.deeper<|envOfC x (aj st) s.heap.objs.size f ba) ->
  LY (dU iK P w K mg base N x (aj st) f ba A outer s H E).gE H (aL st) b):ib P w K mg base x (k+1) ps (Z.fn ps.length N.length b):=by
 let⟨f,fd,F,hm,sS⟩:=d.ex;exact⟨f,fd,fnZ F S<|hb f,hm,F.kp,sS⟩
section
variable{X:Cx}{e:ι}{es:γ ι}{pos:Pos}
theorem _root_.ZQ.ay(C:ib X.prog X.w X.K X.mg X.base x k ps m)(ha:ZQ.QA X (e::es) ar)(gQ:(x==("__debug__"))=AT:=by decide +kernel)(he:Se e es X.env:=by rfl)(fQ:Pn pos es X.env:=by rfl)(hr:bG k X.A:=by first| assumption| exact L2.bG.mono (by assumption) (by first| decide| lia))(hg:Gl X x:=by rfl):ZQ.QE X (.Call (.Name x p1) (e::es) [] pos) (Z.aD m ar):=
 ⟨let ⟨_,_,F,hm,hk,hb⟩:=C.ex;Ox F hr hg hm hk hb ha.p gQ he fQ⟩
end
theorem _root_.ZQ.aN(hm:X.mg x=AC (.int i t))(hb:Nd x:=by decide +kernel)(hg:Gl X x:=by rfl):ZQ.QE X (.Name x pos) (Z.eC<|.int i):=
 ⟨Ou (v:=.int i) hg hm ⟨t,rfl⟩ (λ _=>c_) hb⟩
theorem Cp{K:Da}{ns:γ Int}(hO:OX H)(h:jw K H a (ns.map V.int)):Den K H (.lst<|ns.map Z.D.int) (.ref a):=by
 refine y7 ?_<|aE.zints ns;rcases h with(h|⟨o,h⟩)|h
 .rcases hO a with z|⟨o,xs,z⟩|⟨q,z⟩
  .rw[h]at z;cases z
  .rw[h]at z;cases z
  .rw[h]at z;cases z
 .exact .inl ⟨o,h⟩
 .exact .inr h
theorem Rm{K:Da}{ns:γ Int}(hO:OX H)(h:jw K H a (ns.map V.int))(e:m [.lst (ns.map .int)]=.ok (.bl Ch)):zo K m [.ref a] H (λ v _=>v=.bl Ch) λ _ _ _=>False:=
 ⟨_,_,aE.cons (Cp hO h) aE.nil,e,λ v H' _ d=>by simpa only[Den]using d⟩
section
variable{X:Cx}{e a b:ι}{pos:Pos}{f fa fb:Z.EF}
theorem zZ(x y:γ Nat):((⟨x.toArray⟩)==(⟨y.toArray⟩:Str))=(x==y):=by
 rw[A53,A27,A27];constructor
 .intro h;injection h with h;simpa using h
 .rintro rfl;rfl
theorem rcS{K:Da}(h:Z.Ts d1 d2=AC k)(h1:bR K H d1 v1)(h2:bR K H d2 v2)(r1:RelV v1 u1)(r2:RelV v2 u2):WP A s u1 u2 k/\Pi A s u1 u2 k/\TW A s u1 u2 (!k):=by
 unfold Z.Ts at h;split at h
 .cases h;rw[h1.non]at r1;rw[h2.non]at r2;cases r1;cases r2;exact⟨SeqAt.RcAt.none_none,C09 _,SeqAt.RcNeAt.none_none⟩
 .cases h;rw[h1.bl]at r1;rw[h2.bl]at r2;cases r1;cases r2;exact⟨SeqAt.RcAt.bool_bool _ _,SeqAt.EqAt.bool_bool _ _,SeqAt.RcNeAt.bool_bool _ _⟩
 .cases h;rw[h1.bl]at r1;rw[h2.int]at r2;cases r1;let⟨t,rfl⟩:=r2;exact⟨SeqAt.RcAt.bool_int _ _ _,SeqAt.EqAt.bool_int _ _ _,SeqAt.RcNeAt.bool_int _ _ _⟩
 .cases h;rw[h1.int]at r1;rw[h2.bl]at r2;cases r2;let⟨t,rfl⟩:=r1;exact⟨SeqAt.RcAt.int_bool _ _ _,SeqAt.EqAt.int_bool _ _ _,SeqAt.RcNeAt.int_bool _ _ _⟩
 .cases h;rw[h1.int]at r1;rw[h2.int]at r2;let⟨t,rfl⟩:=r1;let⟨t',rfl⟩:=r2;exact⟨SeqAt.RcAt.int_int _ _ _ _,SeqAt.EqAt.int_int _ _ _ _,SeqAt.RcNeAt.int_int _ _ _ _⟩
 .cases h;rw[h1.str]at r1;rw[h2.str]at r2;let⟨t,rfl⟩:=r1;let⟨t',rfl⟩:=r2;rw[<-zZ];exact⟨SeqAt.RcAt.str_str _ _ _ _,SeqAt.EqAt.str_str _ _ _ _,SeqAt.RcNeAt.str_str _ _ _ _⟩
 .cases h;rw[h1.non]at r1;rw[h2.bl]at r2;cases r1;cases r2;exact⟨SeqAt.RcAt.none_bool _,SeqAt.EqAt.none_bool _,SeqAt.RcNeAt.none_bool _⟩
 .cases h;rw[h1.non]at r1;rw[h2.int]at r2;cases r1;let⟨t,rfl⟩:=r2;exact⟨SeqAt.RcAt.none_int _ _,SeqAt.EqAt.none_int _ _,SeqAt.RcNeAt.none_int _ _⟩
 .cases h;rw[h1.non]at r1;rw[h2.str]at r2;cases r1;let⟨t,rfl⟩:=r2;exact⟨SeqAt.RcAt.none_str _ _,SeqAt.EqAt.none_str _ _,SeqAt.RcNeAt.none_str _ _⟩
 .cases h;rw[h1.bl]at r1;rw[h2.non]at r2;cases r1;cases r2;exact⟨SeqAt.RcAt.bool_none _,SeqAt.EqAt.bool_none _,SeqAt.RcNeAt.bool_none _⟩
 .cases h;rw[h1.bl]at r1;rw[h2.str]at r2;cases r1;let⟨t,rfl⟩:=r2;exact⟨SeqAt.RcAt.bool_str _ _ _,SeqAt.EqAt.bool_str _ _ _,SeqAt.RcNeAt.bool_str _ _ _⟩
 .cases h;rw[h1.int]at r1;rw[h2.non]at r2;cases r2;let⟨t,rfl⟩:=r1;exact⟨SeqAt.RcAt.int_none _ _,SeqAt.EqAt.int_none _ _,SeqAt.RcNeAt.int_none _ _⟩
 .cases h;rw[h1.int]at r1;rw[h2.str]at r2;let⟨t,rfl⟩:=r1;let⟨t',rfl⟩:=r2;exact⟨SeqAt.RcAt.int_str _ _ _ _,SeqAt.EqAt.int_str _ _ _ _,SeqAt.RcNeAt.int_str _ _ _ _⟩
 .cases h;rw[h1.str]at r1;rw[h2.non]at r2;cases r2;let⟨t,rfl⟩:=r1;exact⟨SeqAt.RcAt.str_none _ _,SeqAt.EqAt.str_none _ _,SeqAt.RcNeAt.str_none _ _⟩
 .cases h;rw[h1.str]at r1;rw[h2.bl]at r2;cases r2;let⟨t,rfl⟩:=r1;exact⟨SeqAt.RcAt.str_bool _ _ _,SeqAt.EqAt.str_bool _ _ _,SeqAt.RcNeAt.str_bool _ _ _⟩
 .cases h;rw[h1.str]at r1;rw[h2.int]at r2;let⟨t,rfl⟩:=r1;let⟨t',rfl⟩:=r2;exact⟨SeqAt.RcAt.str_int _ _ _ _,SeqAt.EqAt.str_int _ _ _ _,SeqAt.RcNeAt.str_int _ _ _ _⟩
 .cases h
def LQ(g:Z.D->Z.D->ε Bool)(as bs:γ Z.D)(j:Nat):Bool:=match as[j]?,bs[j]? with
|some x,AC y=>(g x y).getD AT
|_,_=>Ch
theorem mz:∀{as bs}{k},Z.allEq g as bs=AC k->k=((Ev<|min as.length bs.length).all (LQ g as bs)&&as.length == bs.length)/\∀j x y,as[j]?=AC x->bs[j]?=AC y->g x y=AC (LQ g as bs j)
|[],[],k,h=>by cases h;exact⟨rfl,λ j x y e=>by simp at e⟩
|[],_::_,k,h=>by cases h;exact⟨by simp,λ j x y e=>by simp at e⟩
|_::_,[],k,h=>by cases h;exact⟨by simp,λ j x y _ e=>by simp at e⟩
|a::as,b::bs,k,h=>by
 unfold Z.allEq at h;split at h
 .rename_i p q e1 e2;cases h;let⟨h1,h2⟩:=mz e2;refine⟨?_,λ j x y ex ey=>?_⟩
  .have:min (a::as).length (b::bs).length=min as.length bs.length+1:=by simp only[A34];lia
   rw[this,C51,C10,B59,h1];have e0:LQ g (a::as) (b::bs) 0=p:=by simp[LQ,e1]
   have es:(LQ g (a::as) (b::bs)∘Nat.succ)=LQ g as bs:=by funext j;simp[LQ]
   have el:((a::as).length==(b::bs).length)=(as.length==bs.length):=by rw[A53];simp
   rw[e0,es,el,AB9]
  .cases j with
   |zero=>simp at ex ey;subst ex ey;simp[LQ,e1]
   |succ j=>have:=h2 j x y (by simpa using ex) (by simpa using ey);simpa[LQ]using this
 .cases h
theorem AY(I:Inv X χ σ H s)(n:Nat)(hu:A.units+n<cLine)
 (ih:∀ {A}{d1 d2}{v1 v2}{u1 u2}{k},A.units+n<cLine->Z.iC n d1 d2=AC k->bR X.K H d1 v1->bR X.K H d2 v2->RelV v1 u1->RelV v2 u2->WP A s u1 u2 k/\Pi A s u1 u2 k/\TW A s u1 u2 (!k))
  (hk:Z.allEq (Z.iC n) as bs=AC k) (ta:aE X.K H as vs) (tb:aE X.K H bs ws) (ra:Vals vs bq) (rb:Vals ws iz) :
  ∀j h1 (h2:j<iz.toArray.size),Pi A s bq.toArray[j] iz.toArray[j] (LQ (Z.iC n) as bs j):=by
 intro j hj1 hj2;have la:=ta.length;have lb:=tb.length;have XB:=ra.length;have Zw:=rb.length;simp only[A10]at hj1 hj2;obtain⟨x,ex⟩:∃x,as[j]?=AC x:=⟨as[j]'∅,A03 ∅⟩
 obtain⟨y,ey⟩:∃y,bs[j]?=AC y:=⟨bs[j]'∅,A03 ∅⟩
 let⟨vx,evx,dx⟩:=ta.get ex;let⟨vy,PH,dy⟩:=tb.get ey;let⟨ux,eux,rx⟩:=ra.get evx;let⟨uy,euy,ry⟩:=rb.get PH;have e1:bq.toArray[j]=ux:=by have:=A03 hj1;rw[eux]at this;simpa using(A04 this).symm
 have e2:iz.toArray[j]=uy:=by have:=A03 hj2;rw[euy]at this;simpa using(A04 this).symm
 rw[e1,e2];exact(ih hu ((mz hk).2 j x y ex ey) (.inl dx) (.inl dy) rx ry).2.1
theorem Kx{K:Da}(h:Z.Ts d1 d2=AC k)(h1:bR K H d1 v)(h2:bR K H d2 v):k=Ch:=by
 unfold Z.Ts at h;split at h<;>first
  |(cases h;rfl)
  |(cases h;done)
  |(have e:=h1.bl.symm.trans h2.bl;cases h;injection e with e;subst e;simp)
  |(have e:=h1.int.symm.trans h2.int;cases h;injection e with e;subst e;simp)
  |(have e:=h1.str.symm.trans h2.str;cases h;injection e with e;rw[<-zZ,e];simp)
  |(have e:=h1.bl.symm.trans h2.int;cases e)
  |(have e:=h1.int.symm.trans h2.bl;cases e)
  |(have e:=h1.non.symm.trans h2.bl;cases e)
  |(have e:=h1.non.symm.trans h2.int;cases e)
  |(have e:=h1.non.symm.trans h2.str;cases e)
  |(have e:=h1.bl.symm.trans h2.non;cases e)
  |(have e:=h1.bl.symm.trans h2.str;cases e)
  |(have e:=h1.int.symm.trans h2.non;cases e)
  |(have e:=h1.int.symm.trans h2.str;cases e)
  |(have e:=h1.str.symm.trans h2.non;cases e)
  |(have e:=h1.str.symm.trans h2.bl;cases e)
  |(have e:=h1.str.symm.trans h2.int;cases e)
theorem uw{K:Da}(ih:∀{d1 d2}{v}{k},Z.iC n d1 d2=AC k->bR K H d1 v->bR K H d2 v->k=Ch)(h:Z.allEq (Z.iC n) as bs=AC k)(ta:aE K H as vs)(tb:aE K H bs vs):k=Ch:=by
 let⟨h1,h2⟩:=mz h;have la:=ta.length;have lb:=tb.length;rw[h1,show(as.length==bs.length)=Ch by simp;lia,AC4,A36];intro j hj;rw[A26]at hj;obtain⟨x,ex⟩:∃x,as[j]?=AC x:=⟨as[j]'∅,A03 ∅⟩
 obtain⟨y,ey⟩:∃y,bs[j]?=AC y:=⟨bs[j]'∅,A03 ∅⟩
 let⟨vx,evx,dx⟩:=ta.get ex;let⟨vy,PH,dy⟩:=tb.get ey;rw[evx]at PH;cases PH;exact ih (h2 j x y ex ey) (.inl dx)<|.inl dy
theorem yf{a:δ}(I:Inv X χ σ H s)(h:mV X.K H a xs)(h':jw X.K H a ys):False:=by let⟨bq,r,⟨o,e,c,n,d⟩,_⟩:=I.tuple h;let⟨AX,r',⟨o',n',e',c',_⟩,_⟩:=I.list h';rw[e]at e';cases e';rw[c]at c';injection c' with z;exact absurd z ∅
def sq:Z.D->Bool
|.tup _=>Ch
|.lst _=>Ch
|_=>AT
def dc:Z.D->Bool
|.dct _ _=>Ch
|_=>AT
theorem Ky(n:Nat)(h:(sq d1=AT/\sq d2=AT)\/dc d1=Ch\/dc d2=Ch):Z.iC n d1 d2=Z.Ts d1 d2:=by cases d1<;>cases d2<;>cases n<;>first|rfl|(simp[sq,dc]at h)
theorem G7(I:Inv X χ σ H s)(n:Nat)(ih:∀m,m<n->∀{d1 d2}{v}{k},Z.iC m d1 d2=AC k->bR X.K H d1 v->bR X.K H d2 v->k=Ch)(h:Z.iC n d1 d2=AC k)(h1:bR X.K H d1 v)(h2:bR X.K H d2 v):k=Ch:=by
 cases d1<;>cases d2
 case tup.tup=>
  cases n with
  |zero=>cases h
  |succ n=>let⟨_,_,e,q,ta⟩:=h1.tup;let⟨_,_,e',q',tb⟩:=h2.tup;rw[e]at e';cases e';have:=I.qq q q';subst this;exact uw (ih n<|A61 n) h ta tb
 case tup.lst=>let⟨_,_,e,q,_⟩:=h1.tup;let⟨_,_,e',q',_⟩:=h2.lst;rw[e]at e';cases e';exact(yf I q q').elim
 case lst.tup=>let⟨_,_,e,q,_⟩:=h1.lst;let⟨_,_,e',q',_⟩:=h2.tup;rw[e]at e';cases e';exact(yf I q' q).elim
 case lst.lst=>
  cases n with
  |zero=>cases h
  |succ n=>let⟨_,_,e,q,ta⟩:=h1.lst;let⟨_,_,e',q',tb⟩:=h2.lst;rw[e]at e';cases e';have:=I.pB q q';subst this;exact uw (ih n<|A61 n) h ta tb
 all_goals try (refine Kx ((Ky n ?_).symm.trans h) h1 h2;simp[sq,dc];done)
 all_goals first|(let⟨_,_,e,_⟩:=h2.tup;rw[e]at h1)|(let⟨_,_,e,_⟩:=h2.lst;rw[e]at h1)|(let⟨_,_,e,_⟩:=h1.tup;rw[e]at h2)|(let⟨_,_,e,_⟩:=h1.lst;rw[e]at h2)
 all_goals first|cases h1.non|cases h1.bl|cases h1.int|cases h1.str|cases h2.non|cases h2.bl|cases h2.int|cases h2.str
theorem Bk(I:Inv X χ σ H s)(n:Nat):∀{d1 d2}{v}{k},Z.iC n d1 d2=AC k->bR X.K H d1 v->bR X.K H d2 v->k=Ch:=by
 induction n using Nat.strongRecOn with
 |_ n ih=>exact G7 I n ih
theorem Zv(I:Inv X χ σ H s)(n:Nat)(ih:∀m,m<n->∀{A}{d1 d2}{v1 v2}{u1 u2}{k},A.units+m<cLine->Z.iC m d1 d2=AC k->bR X.K H d1 v1->bR X.K H d2 v2->RelV v1 u1->RelV v2 u2->WP A s u1 u2 k/\Pi A s u1 u2 k/\TW A s u1 u2 (!k))(hu:A.units+n<cLine)(h:Z.iC n d1 d2=AC k)(h1:bR X.K H d1 v1)(h2:bR X.K H d2 v2)(r1:RelV v1 u1)(r2:RelV v2 u2):
 WP A s u1 u2 k/\Pi A s u1 u2 k/\TW A s u1 u2 (!k):=by
 have gw:A.units<cLine:=by lia
 have vv:∀{ds}{v}{u},bR X.K H (.tup ds) v->RelV v u->∃q bq,u=.ref q/\s.heap.IsTuple q bq:=λ hd rv=>by let⟨q,vs,rfl,hq,_⟩:=hd.tup;cases rv;let⟨bq,_,p,_⟩:=I.tuple hq;exact⟨q,bq.toArray,rfl,p⟩
 have vN:∀{ds}{v}{u},bR X.K H (.lst ds) v->RelV v u->∃q bq,u=.ref q/\s.heap.IsList q bq:=λ hd rv=>by let⟨q,vs,rfl,hq,_⟩:=hd.lst;cases rv;let⟨bq,_,p,_⟩:=I.list hq;exact⟨q,bq.toArray,rfl,p.isList⟩
 cases d1<;>cases d2
 case non.tup=>
  obtain rfl:k=AT:=by cases n<;>cases h<;>rfl
  rw[h1.non]at r1;cases r1;let⟨q2,iz,rfl,p2⟩:=vv h2 r2;exact⟨SeqAt.RcAt.none_tuple p2 gw,SeqAt.EqAt.none_tuple p2 gw,SeqAt.RcNeAt.none_tuple p2 gw⟩
 case non.lst=>
  obtain rfl:k=AT:=by cases n<;>cases h<;>rfl
  rw[h1.non]at r1;cases r1;let⟨q2,iz,rfl,p2⟩:=vN h2 r2;exact⟨SeqAt.RcAt.none_list p2 gw,SeqAt.EqAt.none_list p2 gw,SeqAt.RcNeAt.none_list p2 gw⟩
 case bl.tup=>
  obtain rfl:k=AT:=by cases n<;>cases h<;>rfl
  rw[h1.bl]at r1;cases r1;let⟨q2,iz,rfl,p2⟩:=vv h2 r2;exact⟨SeqAt.RcAt.bool_tuple _ p2 gw,SeqAt.EqAt.bool_tuple _ p2 gw,SeqAt.RcNeAt.bool_tuple _ p2 gw⟩
 case bl.lst=>
  obtain rfl:k=AT:=by cases n<;>cases h<;>rfl
  rw[h1.bl]at r1;cases r1;let⟨q2,iz,rfl,p2⟩:=vN h2 r2;exact⟨SeqAt.RcAt.bool_list _ p2 gw,SeqAt.EqAt.bool_list _ p2 gw,SeqAt.RcNeAt.bool_list _ p2 gw⟩
 case int.tup=>
  obtain rfl:k=AT:=by cases n<;>cases h<;>rfl
  rw[h1.int]at r1;let⟨t1,rfl⟩:=r1;let⟨q2,iz,rfl,p2⟩:=vv h2 r2;exact⟨SeqAt.RcAt.int_tuple _ _ p2 gw,SeqAt.EqAt.int_tuple _ _ p2 gw,SeqAt.RcNeAt.int_tuple _ _ p2 gw⟩
 case int.lst=>
  obtain rfl:k=AT:=by cases n<;>cases h<;>rfl
  rw[h1.int]at r1;let⟨t1,rfl⟩:=r1;let⟨q2,iz,rfl,p2⟩:=vN h2 r2;exact⟨SeqAt.RcAt.int_list _ _ p2 gw,SeqAt.EqAt.int_list _ _ p2 gw,SeqAt.RcNeAt.int_list _ _ p2 gw⟩
 case str.tup=>
  obtain rfl:k=AT:=by cases n<;>cases h<;>rfl
  rw[h1.str]at r1;let⟨t1,rfl⟩:=r1;let⟨q2,iz,rfl,p2⟩:=vv h2 r2;exact⟨SeqAt.RcAt.str_tuple _ _ p2 gw,SeqAt.EqAt.str_tuple _ _ p2 gw,SeqAt.RcNeAt.str_tuple _ _ p2 gw⟩
 case str.lst=>
  obtain rfl:k=AT:=by cases n<;>cases h<;>rfl
  rw[h1.str]at r1;let⟨t1,rfl⟩:=r1;let⟨q2,iz,rfl,p2⟩:=vN h2 r2;exact⟨SeqAt.RcAt.str_list _ _ p2 gw,SeqAt.EqAt.str_list _ _ p2 gw,SeqAt.RcNeAt.str_list _ _ p2 gw⟩
 case tup.non=>
  obtain rfl:k=AT:=by cases n<;>cases h<;>rfl
  let⟨q1,yF,rfl,p1⟩:=vv h1 r1;rw[h2.non]at r2;cases r2;exact⟨SeqAt.RcAt.tuple_none p1 gw,SeqAt.EqAt.tuple_none p1 gw,SeqAt.RcNeAt.tuple_none p1 gw⟩
 case tup.bl=>
  obtain rfl:k=AT:=by cases n<;>cases h<;>rfl
  let⟨q1,yF,rfl,p1⟩:=vv h1 r1;rw[h2.bl]at r2;cases r2;exact⟨SeqAt.RcAt.tuple_bool _ p1 gw,SeqAt.EqAt.tuple_bool _ p1 gw,SeqAt.RcNeAt.tuple_bool _ p1 gw⟩
 case tup.int=>
  obtain rfl:k=AT:=by cases n<;>cases h<;>rfl
  let⟨q1,yF,rfl,p1⟩:=vv h1 r1;rw[h2.int]at r2;let⟨t2,rfl⟩:=r2;exact⟨SeqAt.RcAt.tuple_int _ _ p1 gw,SeqAt.EqAt.tuple_int _ _ p1 gw,SeqAt.RcNeAt.tuple_int _ _ p1 gw⟩
 case tup.str=>
  obtain rfl:k=AT:=by cases n<;>cases h<;>rfl
  let⟨q1,yF,rfl,p1⟩:=vv h1 r1;rw[h2.str]at r2;let⟨t2,rfl⟩:=r2;exact⟨SeqAt.RcAt.tuple_str _ _ p1 gw,SeqAt.EqAt.tuple_str _ _ p1 gw,SeqAt.RcNeAt.tuple_str _ _ p1 gw⟩
 case tup.lst=>
  obtain rfl:k=AT:=by cases n<;>cases h<;>rfl
  let⟨q1,yF,rfl,p1⟩:=vv h1 r1;let⟨q2,iz,rfl,p2⟩:=vN h2 r2;exact⟨SeqAt.RcAt.tuple_list p1 p2 gw,SeqAt.EqAt.tuple_list p1 p2 gw,SeqAt.RcNeAt.tuple_list p1 p2 gw⟩
 case lst.non=>
  obtain rfl:k=AT:=by cases n<;>cases h<;>rfl
  let⟨q1,yF,rfl,p1⟩:=vN h1 r1;rw[h2.non]at r2;cases r2;exact⟨SeqAt.RcAt.list_none p1 gw,SeqAt.EqAt.list_none p1 gw,SeqAt.RcNeAt.list_none p1 gw⟩
 case lst.bl=>
  obtain rfl:k=AT:=by cases n<;>cases h<;>rfl
  let⟨q1,yF,rfl,p1⟩:=vN h1 r1;rw[h2.bl]at r2;cases r2;exact⟨SeqAt.RcAt.list_bool _ p1 gw,SeqAt.EqAt.list_bool _ p1 gw,SeqAt.RcNeAt.list_bool _ p1 gw⟩
 case lst.int=>
  obtain rfl:k=AT:=by cases n<;>cases h<;>rfl
  let⟨q1,yF,rfl,p1⟩:=vN h1 r1;rw[h2.int]at r2;let⟨t2,rfl⟩:=r2;exact⟨SeqAt.RcAt.list_int _ _ p1 gw,SeqAt.EqAt.list_int _ _ p1 gw,SeqAt.RcNeAt.list_int _ _ p1 gw⟩
 case lst.str=>
  obtain rfl:k=AT:=by cases n<;>cases h<;>rfl
  let⟨q1,yF,rfl,p1⟩:=vN h1 r1;rw[h2.str]at r2;let⟨t2,rfl⟩:=r2;exact⟨SeqAt.RcAt.list_str _ _ p1 gw,SeqAt.EqAt.list_str _ _ p1 gw,SeqAt.RcNeAt.list_str _ _ p1 gw⟩
 case lst.tup=>
  obtain rfl:k=AT:=by cases n<;>cases h<;>rfl
  let⟨q1,yF,rfl,p1⟩:=vN h1 r1;let⟨q2,iz,rfl,p2⟩:=vv h2 r2;exact⟨SeqAt.RcAt.list_tuple p1 p2 gw,SeqAt.EqAt.list_tuple p1 p2 gw,SeqAt.RcNeAt.list_tuple p1 p2 gw⟩
 case tup.tup as bs=>
  cases n with
  |zero=>cases h
  |succ n=>
   have hk:=h;have hs:=λ(z:v1=v2)=>Bk I (n+1) (d1:=.tup as) (d2:=.tup bs) (v:=v1) h h1<|z▸h2;let⟨q,vs,rfl,hq,ta⟩:=h1.tup;let⟨q',ws,rfl,gv,tb⟩:=h2.tup;cases r1;cases r2;let⟨bq,ra,pa,_⟩:=I.tuple hq;let⟨iz,rb,pb,_⟩:=I.tuple gv;have hi:=AY I n (A:=A.in1) (show A.units+1+n<cLine by lia) (ih n<|A61 n) hk ta tb ra rb;have e:=(mz hk).1;have la:=ta.length;have lb:=tb.length;have XB:=ra.length;have Zw:=rb.length;have t1:=SeqAt.RcAt.tuples (s:=s) (A:=A) (pa) (pb) gw hi;have t2:=SeqAt.RcNeAt.tuples (s:=s) (A:=A) (pa) (pb) gw hi;simp only[A10]at t1 t2;rw[<-XB,<-Zw,la,lb,<-e]at t1 t2;refine⟨t1,?_,t2⟩;by_cases VO:q=q'
   .subst VO;rw[hs rfl];exact C09 _
   .exact SeqAt.EqAt.of_refs VO t1
 case lst.lst as bs=>
  cases n with
  |zero=>cases h
  |succ n=>
   have hk:=h;have hs:=λ(z:v1=v2)=>Bk I (n+1) (d1:=.lst as) (d2:=.lst bs) (v:=v1) h h1<|z▸h2;let⟨q,vs,rfl,hq,ta⟩:=h1.lst;let⟨q',ws,rfl,gv,tb⟩:=h2.lst;cases r1;cases r2;let⟨bq,ra,pa,_⟩:=I.list hq;let⟨iz,rb,pb,_⟩:=I.list gv;have e:=(mz hk).1;have la:=ta.length;have lb:=tb.length;have XB:=ra.length;have Zw:=rb.length;have t:WP A s (.ref q) (.ref q') k/\TW A s (.ref q) (.ref q') (!k):=by
    by_cases ψ:as.length=bs.length
    .have hi:=AY I n (A:=A.in1) (show A.units+1+n<cLine by lia) (ih n<|A61 n) hk ta tb ra rb;have t1:=SeqAt.RcAt.lists (s:=s) (A:=A) pa.isList pb.isList (by simp only[A10];lia) gw hi;have t2:=SeqAt.RcNeAt.lists (s:=s) (A:=A) pa.isList pb.isList (by simp only[A10];lia) gw hi;simp only[A10]at t1 t2;rw[<-XB,la]at t1 t2;rw[ψ,Nat.min_self,A94,AC4,<-ψ]at e;rw[<-e]at t1 t2;exact⟨t1,t2⟩
    .have:(as.length==bs.length)=AT:=by simpa using ψ
     rw[this,AC0]at e;subst e;exact⟨SeqAt.RcAt.lists_lengths pa.isList pb.isList (by simp only[A10,bne_iff_ne,ne_eq];lia) gw,SeqAt.RcNeAt.lists_lengths pa.isList pb.isList (by simp only[A10,bne_iff_ne,ne_eq];lia) gw⟩
   refine⟨t.1,?_,t.2⟩;by_cases VO:q=q'
   .subst VO;rw[hs rfl];exact C09 _
   .exact SeqAt.EqAt.of_refs VO t.1
 all_goals (refine rcS ((Ky n ?_).symm.trans h) h1 h2 r1 r2;simp[sq,dc])
theorem Uu(I:Inv X χ σ H s)(n:Nat):∀{A}{d1 d2}{v1 v2}{u1 u2}{k},A.units+n<cLine->Z.iC n d1 d2=AC k->bR X.K H d1 v1->bR X.K H d2 v2->RelV v1 u1->RelV v2 u2->WP A s u1 u2 k/\Pi A s u1 u2 k/\TW A s u1 u2 (!k):=by
 induction n using Nat.strongRecOn with
 |_ n ih=>exact Zv I n ih
theorem k!(hu:X.A.units+64<cLine):DZ X .Eq Z.oEq:=by
 have ho:jQ X (compareOp .Eq) (λ x y H Q=>∃d1 d2 k,bR X.K H d1 x/\bR X.K H d2 y/\Z.kB d1 d2=AC k/\Q (.bl k) H):=by intro χ s σ H x y v u Q I rx ry h;let⟨d1,d2,k,h1,h2,e,q⟩:=h;exact(Uu I 6 ∅ e h1 h2 rx ry).1 _ X.w X.xe _ ⟨.bl k,H,I,rfl,q⟩
 exact⟨_,ho,λ x y dx dy d H Q h1 h2 e k=>by
  unfold Z.oEq at e;split at e
  .rename_i z hz;cases e;exact⟨dx,dy,z,h1,h2,hz,k _ H (aJ.refl H) c8⟩
  .cases e⟩
theorem BB(hu:X.A.units+64<cLine):DZ X .NotEq Z.oR:=by
 have ho:jQ X (compareOp .NotEq) (λ x y H Q=>∃d1 d2 k,bR X.K H d1 x/\bR X.K H d2 y/\Z.kB d1 d2=AC k/\Q (.bl<|!k) H):=by intro χ s σ H x y v u Q I rx ry h;let⟨d1,d2,k,h1,h2,e,q⟩:=h;exact(Uu I 6 ∅ e h1 h2 rx ry).2.2 _ X.w X.xe _ ⟨.bl<|!k,H,I,rfl,q⟩
 exact⟨_,ho,λ x y dx dy d H Q h1 h2 e k=>by
  unfold Z.oR at e;split at e
  .rename_i z hz;cases e;exact⟨dx,dy,z,h1,h2,hz,k _ H (aJ.refl H) c8⟩
  .cases e⟩
theorem JX:∀{a b},GH a=GH b->a=b
|.inl a,.inl b,h=>by injection h with h;rw[h]
|.inl _,.inr _,h=>by cases h
|.inr _,.inl _,h=>by cases h
|.inr a,.inr b,h=>by
 injection h with h
 injection h with h
 have:a=b:=by simpa using A15 ZB h
 rw[this]
theorem w!:∀{a b:γ _},a.map GH=b.map GH->a=b
|[],[],_=>rfl
|[],_::_,h=>by cases h
|_::_,[],h=>by cases h
|a::as,b::bs,h=>by simp only[f8,A97]at h;rw[JX h.1,w! h.2]
theorem Fo{a:δ}(I:Inv X χ σ H s)(hq:H a=AC (.fF o<|.dK a9)):∃o',s.heap.get? a=AC o'/\o'.cls=.type "dict":=by
 obtain⟨_,_,_,_,_,o',es,ep,h1,h2,_⟩:=(I.b9 a _ hq)
 exact⟨o',h1,h2.1⟩
theorem II{a:δ}(I:Inv X χ σ H s)(h:mV X.K H a xs)(h':H a=AC (.fF o<|.dK a9)):False:=by let⟨bq,r,⟨o1,e,c,n,d⟩,_⟩:=I.tuple h;let⟨o2,e',c'⟩:=Fo I h';rw[e]at e';cases e';rw[c]at c';injection c' with z;exact absurd z ∅
theorem IJ{a:δ}(I:Inv X χ σ H s)(h:jw X.K H a xs)(h':H a=AC (.fF o<|.dK a9)):False:=by let⟨bq,r,⟨o1,n,e,c,_⟩,_⟩:=I.list h;let⟨o2,e',c'⟩:=Fo I h';rw[e]at e';cases e';rw[c]at c';injection c' with z;exact absurd z ∅
mutual
theorem Den.inj{χ:γ (δ×μ)}{σ:St}{H:Hp}{s:η}(I:Inv X χ σ H s):∀(d1 d2:Z.D)(v:V),Den X.K H d1 v->Den X.K H d2 v->d1=d2
|.non,d2,v,h1,h2=>by
 simp only[Den]at h1;subst h1;cases d2<;>simp only[Den]at h2<;>first|rfl|(cases h2;done)|skip
 case tup=>let⟨_,_,e,_⟩:=h2;cases e
 case lst=>let⟨_,_,e,_⟩:=h2;cases e
 case dct=>let⟨_,_,_,e,_⟩:=h2;cases e
|.bl b,d2,v,h1,h2=>by
 simp only[Den]at h1;subst h1;cases d2<;>simp only[Den]at h2<;>first|(injection h2 with h2;rw[h2])|(cases h2;done)|skip
 case tup=>let⟨_,_,e,_⟩:=h2;cases e
 case lst=>let⟨_,_,e,_⟩:=h2;cases e
 case dct=>let⟨_,_,_,e,_⟩:=h2;cases e
|.int i,d2,v,h1,h2=>by
 simp only[Den]at h1;subst h1;cases d2<;>simp only[Den]at h2<;>first|(injection h2 with h2;rw[h2])|(cases h2;done)|skip
 case tup=>let⟨_,_,e,_⟩:=h2;cases e
 case lst=>let⟨_,_,e,_⟩:=h2;cases e
 case dct=>let⟨_,_,_,e,_⟩:=h2;cases e
|.str cs,d2,v,h1,h2=>by
 simp only[Den]at h1;subst h1;cases d2<;>simp only[Den]at h2<;>first|(injection h2 with h2;injection h2 with h2;have:=A15 ZB h2;simp at this;rw[this])|(cases h2;done)|skip
 case tup=>let⟨_,_,e,_⟩:=h2;cases e
 case lst=>let⟨_,_,e,_⟩:=h2;cases e
 case dct=>let⟨_,_,_,e,_⟩:=h2;cases e
|.tup ds,d2,v,h1,h2=>by
 simp only[Den]at h1;let⟨a,vs,rfl,q,t⟩:=h1;cases d2<;>simp only[Den]at h2
 case tup es=>let⟨a',vs',e,q',t'⟩:=h2;cases e;rw[I.qq q' q]at t';rw[aE.inj I ds es vs t t']
 case lst es=>let⟨a',vs',e,q',t'⟩:=h2;cases e;exact(yf I q q'.sq).elim
 case dct ks es=>let⟨a',o,a9,e,q',_⟩:=h2;cases e;exact(II I q q').elim
 all_goals cases h2
|.lst ds,d2,v,h1,h2=>by
 simp only[Den]at h1;let⟨a,vs,rfl,q,t⟩:=h1;cases d2<;>simp only[Den]at h2
 case lst es=>let⟨a',vs',e,q',t'⟩:=h2;cases e;rw[I.pB q'.sq q.sq]at t';rw[aE.inj I ds es vs t t']
 case tup es=>let⟨a',vs',e,q',t'⟩:=h2;cases e;exact(yf I q' q.sq).elim
 case dct ks es=>let⟨a',o,a9,e,q',_⟩:=h2;cases e;exact(IJ I q.sq q').elim
 all_goals cases h2
|.dct ks ds,d2,v,h1,h2=>by
 simp only[Den]at h1;let⟨a,o,a9,rfl,q,hk,t,_⟩:=h1;cases d2<;>simp only[Den]at h2
 case lst es=>let⟨a',vs',e,q',t'⟩:=h2;cases e;exact(IJ I q'.sq q).elim
 case tup es=>let⟨a',vs',e,q',t'⟩:=h2;cases e;exact(II I q' q).elim
 case dct ks' es=>let⟨a',o',adV,e,q',Ti,t',_⟩:=h2;cases e;rw[q]at q';cases q';rw[aE.inj I ds es _ t t',w!<|hk.symm.trans Ti]
 all_goals cases h2
theorem aE.inj{χ:γ (δ×μ)}{σ:St}{H:Hp}{s:η}(I:Inv X χ σ H s):∀(d1 d2:γ Z.D)(v:γ V),aE X.K H d1 v->aE X.K H d2 v->d1=d2
|[],d2,v,h1,h2=>by
 simp only[aE]at h1;subst h1;cases d2 with
 |nil=>rfl
 |cons d ds=>simp only[aE]at h2;let⟨_,_,e,_⟩:=h2;cases e
|d::ds,d2,v,h1,h2=>by
 simp only[aE]at h1;let⟨u,r,rfl,q,t⟩:=h1;cases d2 with
 |nil=>simp only[aE]at h2;cases h2
 |cons d' ds'=>simp only[aE]at h2;let⟨u',r',e,q',t'⟩:=h2;cases e;rw[Den.inj I d d' u q q',aE.inj I ds ds' r t t']
end
theorem u?:∀{ys}{k},Z.gq x ys=AC k->k=ys.any (λ y=>(Z.kB y x).getD AT)/\∀y∈ys,Z.kB y x=AC ((Z.kB y x).getD AT)
|[],k,h=>by cases h;exact⟨rfl,λ y hy=>by cases hy⟩
|y::ys,k,h=>by
 unfold Z.gq at h;split at h
 .rename_i a b ea eb;cases h;let⟨h1,h2⟩:=u? eb;refine⟨by rw[B07,ea,h1];rfl,λ z hz=>?_⟩;rcases A00.mp hz with rfl|hz
  .rw[ea];rfl
  .exact h2 z hz
 .cases h
theorem yH(I:Inv X χ σ H s)(hu:A.units+60<cLine)(hx:bR X.K H x v)(rx:RelV v u):∀{ys}{vs}{us},aE X.K H ys vs->Vals vs us->(∀y∈ys,Z.kB y x=AC ((Z.kB y x).getD AT)) ->
 ∃e,(∀w∈us,Pi A s w u (e w))/\us.any e=ys.any (λ y=>(Z.kB y x).getD AT):=by
 intro ys vs us;have key:∀{ys}{vs}{us},aE X.K H ys vs->Vals vs us->(∀y∈ys,Z.kB y x=AC ((Z.kB y x).getD AT))->(∀w∈us,∃b,Pi A s w u b)/\∀e,(∀w∈us,∀y vy,Den X.K H y vy->RelV vy w->y∈ys->e w=(Z.kB y x).getD AT)->us.any e=ys.any (λ y=>(Z.kB y x).getD AT):=by
  intro ys
  induction ys with
  |nil=>intro vs us t r _;simp only[aE]at t;subst t;cases r;exact⟨λ w hw=>(by cases hw),λ _ _=>rfl⟩
  |cons y ys ih=>
   intro vs us t r hh;simp only[aE]at t;let⟨vy,vr,rfl,dy,tr⟩:=t;cases r with
   |cons ry rr=>
    let⟨h1,h2⟩:=ih tr rr (λ z hz=>hh z<|A09 _ hz);refine⟨λ w hw=>?_,λ e he=>?_⟩
    .rcases A00.mp hw with rfl|hw
     .exact⟨_,(Uu I 6 ∅ (hh y A11) (.inl dy) hx ry rx).2.1⟩
     .exact h1 w hw
    .rw[B07,B07,he _ A11 y vy dy ry A11,h2 e λ w hw z vz dz rz hz=>he w (A09 _ hw) z vz dz rz<|A09 _ hz]
 intro t r hh
 classical
 let e:=λ w=>if h:∃y vy,Den X.K H y vy/\RelV vy w/\y∈ys then(Z.kB h.choose x).getD AT else AT
 have he:∀w y vy,Den X.K H y vy->RelV vy w->y∈ys->e w=(Z.kB y x).getD AT:=by
  intro w y vy dy ry hy;have hex:∃y vy,Den X.K H y vy/\RelV vy w/\y∈ys:=⟨y,vy,dy,ry,hy⟩
  show(if h:_ then _ else _)=_;rw[A93 hex];let⟨vy',dy',Zq,J8⟩:=hex.choose_spec;have ev:=Zq.inj ry;subst ev;rw[Den.inj I _ _ _ dy' dy]
 refine⟨e,λ w hw=>?_,(key t r hh).2 e λ w hw y vy dy ry hy=>he w y vy dy ry hy⟩;let⟨j,hj,ej⟩:=lc hw;have hl:=r.length;have ht:=t.length;obtain⟨y,ey⟩:∃y,ys[j]?=AC y:=⟨ys[j]'∅,A03 ∅⟩
 let⟨vy,PH,dy⟩:=t.get ey;let⟨u',eu',Us⟩:=r.get PH;have:u'=w:=by have:=A03 hj;rw[eu',ej]at this;exact A04 this
 subst this;have hy:=A18 ey;rw[he _ y vy dy Us hy];exact(Uu I 6 ∅ (hh y hy) (.inl dy) hx Us rx).2.1
theorem QZ(hu:X.A.units+64<cLine):jQ X (compareOp .In) (λ x y H Q=>∃d ys q vs k,bR X.K H d x/\y=.ref q/\(jw X.K H q vs\/mV X.K H q vs)/\aE X.K H ys vs/\Z.gq d ys=AC k/\Q (.bl k) H):=by
 intro χ s σ H x y v u Q I rx ry h;let⟨d,ys,q,vs,k,hd,rfl,hq,t,e,k'⟩:=h;cases ry;let⟨e1,e2⟩:=u? e;subst e1;rcases hq with hq|hq
 .let⟨bq,r,pl,hz⟩:=I.list hq;let⟨f,hf,GW⟩:=yH I (A:=X.A.in1) (show X.A.units+1+60<cLine by lia) hd rx t r e2;refine SeqAt.in_listAt f pl.isList (λ w hw=>hf w (by simpa using hw)) ⟨.bl _,H,I,rfl,?_⟩;rw[show bq.toArray.any f=bq.any f by simp,GW];exact k'
 .let⟨bq,r,pl,hz⟩:=I.tuple hq;let⟨f,hf,GW⟩:=yH I (A:=X.A.in1) (show X.A.units+1+60<cLine by lia) hd rx t r e2;refine SeqAt.in_tupleAt f pl (λ w hw=>hf w (by simpa using hw)) ⟨.bl _,H,I,rfl,?_⟩;rw[show bq.toArray.any f=bq.any f by simp,GW];exact k'
theorem Ge(hu:X.A.units+64<cLine):jQ X (compareOp .NotIn) (λ x y H Q=>∃d ys q vs k,bR X.K H d x/\y=.ref q/\(jw X.K H q vs\/mV X.K H q vs)/\aE X.K H ys vs/\Z.gq d ys=AC k/\Q (.bl<|!k) H):=by
 intro χ s σ H x y v u Q I rx ry h;let⟨d,ys,q,vs,k,hd,rfl,hq,t,e,k'⟩:=h;cases ry;let⟨e1,e2⟩:=u? e;subst e1;rcases hq with hq|hq
 .let⟨bq,r,pl,hz⟩:=I.list hq;let⟨f,hf,GW⟩:=yH I (A:=X.A.in1) (show X.A.units+1+60<cLine by lia) hd rx t r e2;refine SeqAt.notIn_listAt f pl.isList (λ w hw=>hf w (by simpa using hw)) ⟨.bl _,H,I,rfl,?_⟩;rw[show bq.toArray.any f=bq.any f by simp,GW];exact k'
 .let⟨bq,r,pl,hz⟩:=I.tuple hq;let⟨f,hf,GW⟩:=yH I (A:=X.A.in1) (show X.A.units+1+60<cLine by lia) hd rx t r e2;refine SeqAt.notIn_tupleAt f pl (λ w hw=>hf w (by simpa using hw)) ⟨.bl _,H,I,rfl,?_⟩;rw[show bq.toArray.any f=bq.any f by simp,GW];exact k'
theorem La(hu:X.A.units+64<cLine):DZ X .In Z.yt:=⟨_,QZ hu,λ x y dx dy d H Q h1 h2 e k=>by
 unfold Z.yt at e;split at e
 .split at e
  .rename_i b hb;cases e;let⟨q,vs,rfl,hq,t⟩:=h2.tup;exact⟨dx,_,q,vs,b,h1,rfl,.inr hq,t,hb,k _ H (aJ.refl H) c8⟩
  .cases e
 .split at e
  .rename_i b hb;cases e;let⟨q,vs,rfl,hq,t⟩:=h2.lst;exact⟨dx,_,q,vs,b,h1,rfl,.inl hq,t,hb,k _ H (aJ.refl H) c8⟩
  .cases e
 .cases e⟩
theorem OG(hu:X.A.units+64<cLine):DZ X .NotIn Z.kK:=⟨_,Ge hu,λ x y dx dy d H Q h1 h2 e k=>by
 unfold Z.kK at e;split at e
 .split at e
  .rename_i b hb;cases e;let⟨q,vs,rfl,hq,t⟩:=h2.tup;exact⟨dx,_,q,vs,b,h1,rfl,.inr hq,t,hb,k _ H (aJ.refl H) c8⟩
  .cases e
 .split at e
  .rename_i b hb;cases e;let⟨q,vs,rfl,hq,t⟩:=h2.lst;exact⟨dx,_,q,vs,b,h1,rfl,.inl hq,t,hb,k _ H (aJ.refl H) c8⟩
  .cases e
 .cases e⟩
theorem Fx:∀{xs}{k},Z.allB xs=AC k->∃bs:γ Bool,xs=bs.map Z.D.bl/\k=bs.all id
|[],k,h=>by cases h;exact⟨[],rfl,rfl⟩
|x::xs,k,h=>by
 cases x with
 |bl b=>
  have h':(Z.allB xs).map _=AC k:=h;cases q:Z.allB xs with
  |none=>rw[q]at h';cases h'
  |some k'=>rw[q]at h';cases h';let⟨bs,rfl,rfl⟩:=Fx q;exact⟨b::bs,rfl,rfl⟩
 |non=>cases h
 |int _=>cases h
 |str _=>cases h
 |tup _=>cases h
 |lst _=>cases h
 |dct _ _=>cases h
theorem Bs{K:Da}:∀{bs:γ Bool}{vs},aE K H (bs.map Z.D.bl) vs->vs=bs.map V.bl
|[],vs,h=>by simp only[A32]at h;subst h;rfl
|b::bs,vs,h=>by simp only[f8]at h;let⟨v,r,rfl,hv,ht⟩:=h;simp only[Den]at hv;rw[hv,Bs ht];rfl
theorem all_range(bs:γ Bool):((Ev bs.length).all λ i=>bs[i]?.getD Ch)=bs.all id:=by
 induction bs with
 |nil=>rfl
 |cons b bs ih=>
  rw[A34,C51,C10,B59,C10];have:((λ i=>((b::bs)[i]?).getD Ch)∘Nat.succ)=λ i=>bs[i]?.getD Ch:=by funext i;simp
  rw[this,ih];simp
theorem Hk(hc:X.calm=Ch):nM X (.builtin "all") (λ xs H Q=>∃(q:δ)(bs:γ Bool),xs=[.ref q]/\jw X.K H q (bs.map V.bl)/\Q (.bl<|bs.all id) H):=by
 intro χ s σ H xs us Q I r h;let⟨q,bs,rfl,hq,k⟩:=h;let⟨u,rfl,ru⟩:=vals1 r;cases ru;let⟨bq,rv,pl,hz⟩:=I.list hq;have hl:=rv.length;rw[A06]at hl;have kz:q<s.heap.objs.size:=by let⟨_,e,_⟩:=pl.isList;exact A01 e
 have hh:X.A.in1.handled=At:=I.ok.hd hc;refine call_all_walk<|A96 pl.isList ?_;refine⟨_,[s.heap.objs.size,q],[s.heap.objs.size],_,_,_,λ i=>bs[i]?.getD Ch,rfl,Walks.list hh _ q (A12 kz) _,⟨⟨_,A14 _ rfl,rfl,rfl⟩,pl.isList.push _⟩,?_,λ h' tk hk=>?_⟩
 .intro i v s' Q' E' hv hQ;have hi:bq[i]?=AC v:=by simpa using hv
  let⟨_R,_⟩:=A07.mp hi;have hb:(bs.map V.bl)[i]?=AC (V.bl<|bs[i]'∅):=by rw[A08,A03];rfl
  let⟨u,hu,ru⟩:=rv.get hb;rw[hi]at hu;cases hu;cases ru;refine A56 ?_;have:bs[i]?.getD Ch=bs[i]'∅:=by rw[A03];rfl
  rw[<-this];exact hQ
 .have I1:Inv X χ σ H {s with heap:=s.heap.push {cls:=.type "list_iterator",data:=.fields #[.ref q,.int 0 0]}}:=I.kept λ b o e=>v6 _ e;let⟨f0,f1,f2,f3,f4,f5⟩:=I.vT (v4 s.heap.objs.size) I.fresh;have I2:=I1.turned (t':=tk) (λ b o hb e=>hk b o (by simpa using hb) e) f0 f1 f3 f4 f5;refine⟨.bl _,H,I2,rfl,?_⟩;have e:(Ev bq.toArray.size).all (λ i=>bs[i]?.getD Ch)=bs.all id:=by rw[A10,<-hl,all_range]
  rw[e];exact k
theorem _root_.ZQ.ir(hm:X.mg x=At)(ha:ZQ.QW X a fa)(hc:X.calm=Ch:=by rfl)(hn:x≠ "__name__":=by decide +kernel)(gQ:(x == ("__debug__"))=AT:=by decide +kernel)(he:Se a [] X.env:=by rfl)(fQ:Pn pos [] X.env:=by rfl)(hg:Gl X x:=by rfl)(hv:bootBuiltins x=AC (.builtin "all"):=by kernel_rfl):ZQ.QE X (.Call (.Name x p1) [a] [] pos) (Z.eU Z.jz fa):=
 ⟨PE.imp (j8 (Hk hc) hg hm hv (bH ha.p cP he) hn gQ he fQ) <|by
  rintro σ H Q ⟨ρ,d,r,e,k⟩;let⟨x,ea,e⟩:=XV e;refine⟨ρ,x,r,ea,λ v H1 s1 d1=>?_⟩;unfold Z.jz at e;split at e
  .split at e
   .rename_i xs k' hk;cases e;let⟨bs,rfl,rfl⟩:=Fx hk;let⟨q,vs,rfl,hq,t⟩:=d1.lst;rw[Bs t]at hq;exact⟨q,bs,rfl,hq,k _ H1 s1 c8⟩
   .cases e
  .cases e⟩
end
theorem _root_.ZQ.aq(ha:ZQ.QE X (.Constant v j p) f)(hr:ZQ.QA X es g):ZQ.QA X ((.Constant v j p)::es) (Z.aa f g):=⟨iV ha.p hr.p rfl⟩
theorem _root_.ZQ.ae(ha:ZQ.QE X (.Name x p) f)(hr:ZQ.QA X es g):ZQ.QA X ((.Name x p)::es) (Z.aa f g):=⟨iV ha.p hr.p rfl⟩
theorem _root_.ZQ.Hb(ha:ZQ.QE X (.Tuple xs j p) f)(hr:ZQ.QA X es g):ZQ.QA X ((.Tuple xs j p)::es) (Z.aa f g):=⟨iV ha.p hr.p rfl⟩
theorem _root_.ZQ.kj(ha:ZQ.QE X (.List xs p) f)(hr:ZQ.QA X es g):ZQ.QA X ((.List xs p)::es) (Z.aa f g):=⟨iV ha.p hr.p rfl⟩
theorem _root_.ZQ.cG(ha:ZQ.QE X (.BinOp x o y p) f)(hr:ZQ.QA X es g):ZQ.QA X ((.BinOp x o y p)::es) (Z.aa f g):=⟨iV ha.p hr.p rfl⟩
theorem _root_.ZQ.cD(ha:ZQ.QE X (.Call x xs ks p) f)(hr:ZQ.QA X es g):ZQ.QA X ((.Call x xs ks p)::es) (Z.aa f g):=⟨iV ha.p hr.p rfl⟩
theorem _root_.ZQ.bT(ha:ZQ.QE X (.Subscript x y p) f)(hr:ZQ.QA X es g):ZQ.QA X ((.Subscript x y p)::es) (Z.aa f g):=⟨iV ha.p hr.p rfl⟩
theorem _root_.ZQ.Fm{x os ys p}(ha:ZQ.QE X (.Compare x os ys p) f)(hr:ZQ.QA X es g):ZQ.QA X ((.Compare x os ys p)::es) (Z.aa f g):=⟨iV ha.p hr.p rfl⟩
theorem _root_.ZQ.eO(ha:ZQ.QE X (.Attribute x n p) f)(hr:ZQ.QA X es g):ZQ.QA X ((.Attribute x n p)::es) (Z.aa f g):=⟨iV ha.p hr.p rfl⟩
end ZS
namespace ZQ
open L2 ZS
theorem _root_.ZS.De(h1:sc.kind=.function:=by rfl)(h2:sc.isCoroutine=AT:=by rfl)(h3:sc.isGenerator=AT:=by rfl)(h4:N.Nodup:=by decide +kernel)(h5:N.take P.length=P:=by rfl)(h6:∀x∈P,sc.names.lookup x=AC .local\/sc.names.lookup x=AC .cell:=by decide +kernel)(h7:∀y∈sc.names,y.2≠.free:=by decide +kernel):aY N P sc:=⟨h1,h2,h3,h4,h5,h6,h7⟩
theorem bU{K:Da}{st:θ}(d:ZS.Def K mg x st ps)(hb:∀{f}{ba}{A}{outer}{s}{H}{E},N.Nodup->(A.deeper<|envOfC x (aj st) s.heap.objs.size f ba).units+64<cLine->bG k (A.deeper<|envOfC x (aj st) s.heap.objs.size f ba)->BH (dU iK P w K mg base N x (aj st) f ba A outer s H E).gE H (aL st) b)(S:aY N ps (aj st):=by exact ZS.De):ZS.ib P w K mg base x (k+1) ps (Z.fn ps.length N.length b):=ZS.ib.mk' d S λ f ba A outer s H E hr=>(hb S.nd hr.units hr).p
theorem aaq{K:Da}{st:θ}(F:BJ K x qual st f fd)(hb:∀{ba}{A}{outer}{s}{H}{E},N.Nodup->(A.deeper<|envOfC qual (aj st) s.heap.objs.size f ba).units+64<cLine->bG k (A.deeper<|envOfC qual (aj st) s.heap.objs.size f ba)->BH (dU iK P w K mg base N qual (aj st) f ba A outer s H E).gE H (aL st) b)(S:aY N ps (aj st):=by exact ZS.De):ee P w K mg base iK (k+1) f fd ps (ZS.zo K<|Z.fn ps.length N.length b):=ZS.fnZ F S λ ba A outer s H E hr=>(hb S.nd hr.units hr).p
end ZQ
namespace Z
def f7:D->Res D
|.lst xs=>.ok<|.tup xs
|.tup xs=>.ok<|.tup xs
|_=>.bad
@[simp] theorem Q6(xs:γ D):f7 (.lst xs)=.ok (.tup xs):=rfl
@[simp] theorem Q5(xs:γ D):f7 (.tup xs)=.ok (.tup xs):=rfl
def aX:γ Nat:=[97,98,99,100,101,102,103,104,105,106,107,108,109,110,111,112,113,114,115,116,117,118,119,120,121,122]
def signs:γ Nat:=[46,61,35,97,98,99,100,101,102,103,104,105,106,107,108,109,110,111,112,113,114,115,116,117,118,119,120,121,122]
def M4:D->D->Res D
|.int i,.int j=>.ok<|.int<|max i j
|_,_=>.bad
@[simp] theorem UX(i j:Int):M4 (.int i) (.int j)=.ok (.int<|max i j):=rfl
def M3:D->D->Res D
|.int i,.int j=>.ok<|.int<|min i j
|_,_=>.bad
@[simp] theorem UW(i j:Int):M3 (.int i) (.int j)=.ok (.int<|min i j):=rfl
def yq:D->Res D
|.int i=>.ok<|.int i
|.bl b=>.ok<|.int<|if b then 1 else 0
|_=>.bad
@[simp] theorem U3(i:Int):yq (.int i)=.ok (.int i):=rfl
@[simp] theorem XX(b:Bool):yq (.bl b)=.ok (.int<|if b then 1 else 0):=rfl
def uX(x:D):γ D->ε Nat
|[]=>AC 0
|y::r=>match kB y x,uX x r with
 |some a,AC b=>AC<|b+(if a then 1 else 0)
 |_,_=>At
def yv:D->D->Res D
|.lst ys,x=>match uX x ys with
 |some n=>.ok<|.int n
 |none=>.bad
|_,_=>.bad
def zX:γ D->ε Int
|[]=>AC 0
|.int i::r=>(zX r).map (i+·)
|_::_=>At
def Jm:D->Res D
|.lst xs=>match zX xs with
 |some i=>.ok<|.int i
 |none=>.bad
|_=>.bad
theorem wG:∀(ns:γ Int),zX (ns.map D.int)=AC ns.sum
|[]=>rfl
|n::ns=>by simp[zX,wG ns]
def F7(i:Nat)(l:LF)(ρ:Env):Res Fl:=(l ρ).bind λ ys=>match ρ[i]? with
|some<|some<|.own xs=>guard (xs.length+ys.length<=line)<|.ok<|.nx<|ρ.set i<|some<|.own<|xs++ys
|_=>.bad
def pair(a b:D):D:=.tup [a,b]
def lF(k:Nat):γ D->γ D
|[]=>[]
|d::ds=>pair (.int k) d::lF (k+1) ds
def jR:γ D->γ D->γ D
|a::as,b::bs=>pair a b::jR as bs
|_,_=>[]
def EZ(a:EF)(ρ:Env):Res (γ D):=(a ρ).bind λ x=>(nF x).bind λ ds=>.ok<|lF 0 ds
@[simp] theorem Yf(a:EF)(ρ:Env):EZ a ρ=(a ρ).bind λ x=>(nF x).bind λ ds=>.ok (lF 0 ds):=rfl
def Mt:D->Res (γ D)
|.tup xs=>.ok xs
|.lst xs=>.ok xs
|_=>.bad
@[simp] theorem Uk(xs:γ D):Mt (.tup xs)=.ok xs:=rfl
@[simp] theorem Ul(xs:γ D):Mt (.lst xs)=.ok xs:=rfl
def Qf:D->Res (γ D)
|.tup xs=>.ok xs
|_=>.bad
@[simp] theorem T3(xs:γ D):Qf (.tup xs)=.ok xs:=rfl
def J7(a b:EF)(ρ:Env):Res (γ D):=(a ρ).bind λ x=>(b ρ).bind λ y=>(Mt x).bind λ xs=>(Qf y).bind λ ys=>.ok<|jR xs ys
@[simp] theorem _b(a b:EF)(ρ:Env):J7 a b ρ=(a ρ).bind λ x=>(b ρ).bind λ y=>(Mt x).bind λ xs=>(Qf y).bind λ ys=>.ok (jR xs ys):=rfl
end Z
namespace ZS
open L2
section
variable{X:Cx}
theorem _root_.ZQ.eR(hm:X.mg x=At)(ha:ZQ.QW X a fa)(hn:x≠ "__name__":=by decide +kernel)(gQ:(x==("__debug__"))=AT:=by decide +kernel)(he:Se a [] X.env:=by rfl)(fQ:Pn pos [] X.env:=by rfl)(hg:Gl X x:=by rfl)(hv:bootBuiltins x=AC (.type "tuple"):=by kernel_rfl):ZQ.QE X (.Call (.Name x p1) [a] [] pos) (Z.eU Z.f7 fa):=
 ⟨PE.imp (wN wc hg hm hv (bH ha.p cP he) hn gQ he fQ) <|by
  rintro σ H Q ⟨ρ,d,r,e,k⟩;let⟨x,ea,e⟩:=XV e;refine⟨ρ,x,r,ea,λ v H1 s1 d1=>?_⟩;unfold Z.f7 at e;split at e
  .cases e;let⟨q,vs,rfl,hq,t⟩:=d1.lst;refine⟨q,vs,rfl,.inl ⟨hq,λ l hl=>?_⟩⟩;have s2:aJ H1 (upd H1 l<|.tup vs):=cn hl;exact k _ _ (s1.trans s2)<|fL (.inl<|.inl aO)<|t.up s2
  .cases e;let⟨q,vs,rfl,hq,t⟩:=d1.tup;exact⟨q,vs,rfl,.inr ⟨hq,k _ H1 s1<|fL hq t⟩⟩
  .cases e⟩
end
end ZS
namespace ZQ
open L2 ZS
theorem kW(ho:PE X o (lS i))(ha:QE X a fa)(hs:swapsWith (.Call (.Attribute o "append" p1) [a] [] p2) At pos.line X.env=pure AT:=by rfl)(qb:Se a [] X.env:=by rfl)
 (jf:attributeBase o "append" X.env (eval o X.env)=eval o X.env:=by rfl)
 (n!:((backTo p2<|starEach (a::[]) X.env).all (λ x=>!x.1)&&(backToKw p2<|keywordEach [] X.env).all (λ x=>x.1.isSome)
  && decide ((a::[]).length+([]:γ π).length+(if([]:γ π).isEmpty then 0 else 1)<30))=Ch:=by rfl)
 (je:(p1.endLine==p2.line)=Ch:=by rfl) (jd:Pn p2 [] X.env:=by rfl) :
 QS X H0 (.Expr (.Call (.Attribute o "append" p1) [a] [] p2) pos) (Z.dW i fa):=
 ⟨ZS.G? ho ha.p hs qb<|Aj C11 PySem.F.slot_list_append PySem.F.type_list_append wX ho (bH ha.p cP qb) jf n! je qb jd⟩
end ZQ
namespace ZS
open L2
section
variable{X:Cx}
theorem Rh(i j:Int):(if j>i then j else i)=max i j:=by split<;>lia
theorem Rf(i j:Int):(if j<i then j else i)=min i j:=by split<;>lia
theorem _root_.ZQ.Ot(hg:Gl X x)(hm:X.mg x=At)(hv:bootBuiltins x=AC (.builtin "max"))(ha:ZQ.QW X a fa)(hb:ZQ.QW X b fb)(hc:X.calm=Ch:=by rfl)(hn:x≠ "__name__":=by decide +kernel)(gQ:(x==("__debug__"))=AT:=by decide +kernel)
 (he:Se a [b] X.env:=by rfl) (Pw:Se b [] X.env:=by rfl) (fQ:(backTo pos<|starEach [b] X.env).any (·.1)=AT:=by rfl):ZQ.QE X (.Call (.Name x p1) [a,b] [] pos) (Z.eB Z.M4 fa fb):=
 ⟨PE.imp (j8 (Hi hc) hg hm hv (bH ha.p (bH hb.p cP Pw) he) hn gQ he fQ) <|by
  rintro σ H Q ⟨ρ,d,r,e,k⟩;let⟨x,ea,e⟩:=XV e;let⟨y,eb,e⟩:=XV e;refine⟨ρ,x,r,ea,λ v H1 s1 d1=>⟨ρ,y,r.up s1,eb,λ u H2 s2 d2=>?_⟩⟩;obtain⟨i,j,rfl,rfl,rfl⟩:∃i j,x=.int i/\y=.int j/\d=.int (max i j):=by
   unfold Z.M4 at e;split at e
   .cases e;exact⟨_,_,rfl,rfl,rfl⟩
   .cases e
  refine⟨i,j,by rw[d1.int,d2.int],?_⟩;rw[Rh];exact k _ H2 (s1.trans s2) c_⟩
theorem _root_.ZQ.Oq(hg:Gl X x)(hm:X.mg x=At)(hv:bootBuiltins x=AC (.builtin "min"))(ha:ZQ.QW X a fa)(hb:ZQ.QW X b fb)(hc:X.calm=Ch:=by rfl)(hn:x≠ "__name__":=by decide +kernel)(gQ:(x==("__debug__"))=AT:=by decide +kernel)
 (he:Se a [b] X.env:=by rfl) (Pw:Se b [] X.env:=by rfl) (fQ:(backTo pos<|starEach [b] X.env).any (·.1)=AT:=by rfl):ZQ.QE X (.Call (.Name x p1) [a,b] [] pos) (Z.eB Z.M3 fa fb):=
 ⟨PE.imp (j8 (Hh hc) hg hm hv (bH ha.p (bH hb.p cP Pw) he) hn gQ he fQ) <|by
  rintro σ H Q ⟨ρ,d,r,e,k⟩;let⟨x,ea,e⟩:=XV e;let⟨y,eb,e⟩:=XV e;refine⟨ρ,x,r,ea,λ v H1 s1 d1=>⟨ρ,y,r.up s1,eb,λ u H2 s2 d2=>?_⟩⟩;obtain⟨i,j,rfl,rfl,rfl⟩:∃i j,x=.int i/\y=.int j/\d=.int (min i j):=by
   unfold Z.M3 at e;split at e
   .cases e;exact⟨_,_,rfl,rfl,rfl⟩
   .cases e
  refine⟨i,j,by rw[d1.int,d2.int],?_⟩;rw[Rf];exact k _ H2 (s1.trans s2) c_⟩
theorem _root_.ZQ.y!(hg:Gl X x)(hm:X.mg x=At)(hv:bootBuiltins x=AC (.type "int"))(ha:ZQ.QW X a fa)(hn:x≠ "__name__":=by decide +kernel)(gQ:(x==("__debug__"))=AT:=by decide +kernel)
 (he:Se a [] X.env:=by rfl) (fQ:Pn pos [] X.env:=by rfl):ZQ.QE X (.Call (.Name x p1) [a] [] pos) (Z.eU Z.yq fa):=
 ⟨PE.imp (wN Hj hg hm hv (bH ha.p cP he) hn gQ he fQ) <|by
  rintro σ H Q ⟨ρ,d,r,e,k⟩;let⟨x,ea,e⟩:=XV e;refine⟨ρ,x,r,ea,λ v H1 s1 d1=>?_⟩;unfold Z.yq at e;split at e
  .cases e;exact .inl ⟨_,by rw[d1.int],k _ H1 s1 c_⟩
  .cases e;exact .inr ⟨_,by rw[d1.bl],k _ H1 s1 c_⟩
  .cases e⟩
theorem G!(hs:swapsWith (.Call (.Attribute o "extend" p1) [a] [] p2) At pos.line X.env=pure AT:=by rfl)
 (_9:PE X (.Call (.Attribute o "extend" p1) [a] [] p2) (Y? X.K "list" Ep (lS i)<|Ij (tZl X.K l) Md)) :
 DS X H0 (.Expr (.Call (.Attribute o "extend" p1) [a] [] p2) pos) (Z.F7 i l):=PS.imp (sJ _9 hs) <| by
 rintro D σ H ⟨ρ,fl,rs,e,k⟩;let⟨ys,ea,e⟩:=XV e;split at e
 .rename_i xs ei;unfold Z.guard at e;split at e
  .rename_i hl;cases e;let⟨v,si,q,us,rfl,hq,t⟩:=rs.re.get i _ ei;refine⟨_,si,.inl ⟨rfl,us,jw.of hq⟩,ρ,ys,rs.re,ea,λ c vs H1 s1 hn hc tc=>?_⟩;have RI:=s1 _ _ hq;refine⟨q,c,us,vs,rfl,rfl,RI,hc,by rw[t.length,tc.length,A23];exact hl,?_⟩;exact k σ _ ((ky s1).trans<|jF RI)<|(rs.up s1).chg ei si RI<|(t.up s1).append tc
  .cases e
 .cases e
theorem Bx:∀{ys}{k},Z.uX x ys=AC k->k=ys.countP (λ y=>(Z.kB y x).getD AT)/\∀y∈ys,Z.kB y x=AC ((Z.kB y x).getD AT)
|[],k,h=>by cases h;exact⟨rfl,λ y hy=>by cases hy⟩
|y::ys,k,h=>by
 unfold Z.uX at h;split at h
 .rename_i a b ea eb;cases h;let⟨h1,h2⟩:=Bx eb;refine⟨by rw[B35,ea,h1];rfl,λ z hz=>?_⟩;rcases A00.mp hz with rfl|hz
  .rw[ea];rfl
  .exact h2 z hz
 .cases h
theorem OC(I:Inv X χ σ H s)(hu:A.units+60<cLine)(hx:bR X.K H x v)(rx:RelV v u)(t:aE X.K H ys vs)(r:Vals vs us)(hh:∀y∈ys,Z.kB y x=AC ((Z.kB y x).getD AT)):
 ∃e,(∀w∈us,Pi A s w u (e w))/\us.countP e=ys.countP (λ y=>(Z.kB y x).getD AT):=by
 classical
 let e:=λ w=>if h:∃y vy,Den X.K H y vy/\RelV vy w/\y∈ys then(Z.kB h.choose x).getD AT else AT
 have he:∀w y vy,Den X.K H y vy->RelV vy w->y∈ys->e w=(Z.kB y x).getD AT:=by
  intro w y vy dy ry hy;have hex:∃y vy,Den X.K H y vy/\RelV vy w/\y∈ys:=⟨y,vy,dy,ry,hy⟩
  show(if h:_ then _ else _)=_;rw[A93 hex];let⟨vy',dy',Zq,J8⟩:=hex.choose_spec;have ev:=Zq.inj ry;subst ev;rw[Den.inj I _ _ _ dy' dy]
 have cnt:∀{zs}{vs}{us},aE X.K H zs vs->Vals vs us->(∀z∈zs,z∈ys)->us.countP e=zs.countP (λ y=>(Z.kB y x).getD AT):=by
  intro zs
  induction zs with
  |nil=>intro vs us t r _;simp only[aE]at t;subst t;cases r;rfl
  |cons z zs ih=>
   intro vs us t r hm;simp only[aE]at t;let⟨vy,vr,rfl,dy,tr⟩:=t;cases r with
   |cons ry rr=>rw[B35,B35,ih tr rr λ w hw=>hm w<|A09 _ hw,he _ z vy dy ry<|hm z A11]
 refine⟨e,λ w hw=>?_,cnt t r λ _ h=>h⟩;let⟨j,hj,ej⟩:=lc hw;have hl:=r.length;have ht:=t.length;obtain⟨y,ey⟩:∃y,ys[j]?=AC y:=⟨ys[j]'∅,A03 ∅⟩
 let⟨vy,PH,dy⟩:=t.get ey;let⟨u',eu',Us⟩:=r.get PH;have:u'=w:=by have:=A03 hj;rw[eu',ej]at this;exact A04 this
 subst this;have hy:=A18 ey;rw[he _ y vy dy Us hy];exact(Uu I 6 ∅ (hh y hy) (.inl dy) hx Us rx).2.1
def Qs(K:Da):V->γ V->Hp->VK->Prop:=λ x vs H Q=>∃d ys q us v k,x=.ref q/\vs=[v]/\jw K H q us/\aE K H ys us/\bR K H d v/\Z.uX d ys=AC k/\Q (.int k) H
theorem Jx(hu:X.A.units+64<cLine):W5 X "list.count" (Qs X.K):=by intro χ s σ H x vs v us Q I rx rv h;let⟨d,ys,q,us',v',k,rfl,rfl,hq,t,hd,e,k'⟩:=h;cases rx;let⟨u,rfl,ru⟩:=rv.one;let⟨e1,e2⟩:=Bx e;subst e1;let⟨bq,r,pl,hz⟩:=I.list hq;let⟨f,hf,GW⟩:=OC I (A:=X.A.in1) (show X.A.units+1+60<cLine by lia) hd ru t r e2;let⟨⟨cls,dd,data,sl⟩,ho,hc,n,qI⟩:=id pl.isList;simp only at hc qI;subst hc qI;refine A72 F.slot_list_count ⟨_,ho,rfl⟩ F.entry_list_count (F.args_list_count_2 _ _) (SeqAt.list_countAt q _ n dd sl u f) ⟨ho,λ w hw=>hf w (by simpa using hw),?_⟩;refine⟨.int _,H,I.tok _,⟨_,rfl⟩,?_⟩;rw[GW];exact k'
theorem _root_.ZQ.K3(hu:X.A.units+64<cLine)(ho:ZQ.QW X o fa)(hb:ZQ.QW X b fb)
 (jf:attributeBase o "count" X.env (eval o X.env)=eval o X.env:=by rfl)
 (n!:((backTo p2<|starEach (b::[]) X.env).all (λ x=>!x.1)&&(backToKw p2<|keywordEach [] X.env).all (λ x=>x.1.isSome)
  && decide ((b::[]).length+([]:γ π).length+(if([]:γ π).isEmpty then 0 else 1)<30))=Ch:=by rfl)
 (je:(p1.endLine==p2.line)=Ch:=by rfl) (qb:Se b [] X.env:=by rfl) (jd:Pn p2 [] X.env:=by rfl) :
 ZQ.QE X (.Call (.Attribute o "count" p1) [b] [] p2) (Z.eB Z.yv fa fb):=
 ⟨PE.imp (Aj C11 PySem.F.slot_list_count PySem.F.type_list_count (Jx hu) ho.p (bH hb.p cP qb) jf n! je qb jd) <|by
  rintro σ H Q ⟨ρ,d,r,e,k⟩;let⟨x,ea,e⟩:=XV e;let⟨y,eb,e⟩:=XV e;refine⟨ρ,x,r,ea,λ v H1 s1 d1=>?_⟩;unfold Z.yv at e;split at e
  .rename_i ys _;split at e
   .rename_i n hn;cases e;let⟨q,vs,rfl,hq,t⟩:=d1.lst;refine⟨.inl ⟨rfl,vs,hq⟩,ρ,y,r.up s1,eb,λ u H2 s2 d2=>?_⟩;exact⟨y,ys,q,vs,u,n,rfl,rfl,s2.seq hq,t.up s2,d2,hn,k _ H2 (s1.trans s2) c_⟩
   .cases e
  .cases e⟩
theorem Ed:∀{xs}{k},Z.zX xs=AC k->∃ns:γ Int,xs=ns.map Z.D.int/\k=ns.sum
|[],k,h=>by cases h;exact⟨[],rfl,rfl⟩
|x::xs,k,h=>by
 cases x with
 |int b=>
  have h':(Z.zX xs).map _=AC k:=h;cases q:Z.zX xs with
  |none=>rw[q]at h';cases h'
  |some k'=>rw[q]at h';cases h';let⟨bs,rfl,rfl⟩:=Ed q;exact⟨b::bs,rfl,rfl⟩
 |non=>cases h
 |bl _=>cases h
 |str _=>cases h
 |tup _=>cases h
 |lst _=>cases h
 |dct _ _=>cases h
theorem xt{K:Da}:∀{ns:γ Int}{vs},aE K H (ns.map Z.D.int) vs->vs=ns.map V.int
|[],vs,h=>by simp only[A32]at h;subst h;rfl
|b::bs,vs,h=>by simp only[f8]at h;let⟨v,r,rfl,hv,ht⟩:=h;simp only[Den]at hv;rw[hv,xt ht];rfl
theorem MD(ns:γ Int):preSum (λ i=>ns[i]?.getD 0) ns.length=ns.sum:=by
 have key:∀k,k<=ns.length->preSum (λ i=>ns[i]?.getD 0) k=(ns.take k).sum:=by
  intro k
  induction k with
  |zero=>intro _;simp[preSum]
  |succ k ih=>
   intro hk;have e:preSum (λ i=>ns[i]?.getD 0) (k+1)=preSum (λ i=>ns[i]?.getD 0) k+ns[k]?.getD 0:=rfl;have _l:∀(xs ys:γ Int),(xs++ys).sum=xs.sum+ys.sum:=λ xs ys=>by
    induction xs with
    |nil=>simp
    |cons x xs ih=>simp only[C12,List.sum_cons];lia
   rw[e,ih ∅,wT,_l,A03<|show k<ns.length by lia];simp
 have:=key _<|v4 _;rwa [B61]at this
theorem Hg(hc:X.calm=Ch):nM X (.builtin "sum") (λ xs H Q=>∃(q:δ)(ns:γ Int),xs=[.ref q]/\jw X.K H q (ns.map V.int)/\Q (.int ns.sum) H):=by
 intro χ s σ H xs us Q I r h;let⟨q,ns,rfl,hq,k⟩:=h;let⟨u,rfl,ru⟩:=vals1 r;cases ru;let⟨bq,rv,pl,hz⟩:=I.list hq;have hl:=rv.length;rw[A06]at hl;have kz:q<s.heap.objs.size:=by let⟨_,e,_⟩:=pl.isList;exact A01 e
 have hh:X.A.in1.handled=At:=I.ok.hd hc;refine call_sum_walkG<|A96 pl.isList ?_;refine⟨s.heap.objs.size,[s.heap.objs.size,q],[s.heap.objs.size],bq.toArray.size,_,_,λ i=>ns[i]?.getD 0,rfl,Walks.list hh s.heap.objs.size q (A12 kz) bq.toArray,⟨⟨_,A14 _ rfl,rfl,rfl⟩,pl.isList.push _⟩,?_,?_,λ h' tk t' hk=>?_⟩
 .intro b hb;rw[A50];rcases A00.mp hb with rfl|hb
  .exact A61 _
  .rw[A19.mp hb];exact B58 kz
 .intro i v hv;have hi:bq[i]?=AC v:=by simpa using hv
  let⟨_R,_⟩:=A07.mp hi;have hb:(ns.map V.int)[i]?=AC (V.int<|ns[i]'∅):=by rw[A08,A03];rfl
  let⟨u,hu,ru⟩:=rv.get hb;rw[hi]at hu;cases hu;let⟨t,rfl⟩:=ru;exact⟨t,by show Value.int _ t=Value.int (ns[i]?.getD 0) t;rw[A03];rfl⟩
 .have I1:Inv X χ σ H {s with heap:=s.heap.push {cls:=.type "list_iterator",data:=.fields #[.ref q,.int 0 0]}}:=I.kept λ b o e=>v6 _ e;let⟨f0,f1,f2,f3,f4,f5⟩:=I.vT (v4 s.heap.objs.size) I.fresh;have I2:=I1.turned (t':=tk) (λ b o hb e=>hk b o (by simpa using hb) e) f0 f1 f3 f4 f5;refine⟨.int _,H,I2,⟨t',rfl⟩,?_⟩;rw[A10,<-hl,MD];exact k
theorem _root_.ZQ.Fg(hm:X.mg x=At)(ha:ZQ.QW X a fa)(hc:X.calm=Ch:=by rfl)(hn:x≠ "__name__":=by decide +kernel)(gQ:(x == ("__debug__"))=AT:=by decide +kernel)(he:Se a [] X.env:=by rfl)(fQ:Pn pos [] X.env:=by rfl)(hg:Gl X x:=by rfl)(hv:bootBuiltins x=AC (.builtin "sum"):=by kernel_rfl):ZQ.QE X (.Call (.Name x p1) [a] [] pos) (Z.eU Z.Jm fa):=
 ⟨PE.imp (j8 (Hg hc) hg hm hv (bH ha.p cP he) hn gQ he fQ) <|by
  rintro σ H Q ⟨ρ,d,r,e,k⟩;let⟨x,ea,e⟩:=XV e;refine⟨ρ,x,r,ea,λ v H1 s1 d1=>?_⟩;unfold Z.Jm at e;split at e
  .split at e
   .rename_i xs k' hk;cases e;let⟨bs,rfl,rfl⟩:=Ed hk;let⟨q,vs,rfl,hq,t⟩:=d1.lst;rw[xt t]at hq;exact⟨q,bs,rfl,hq,k _ H1 s1 c_⟩
   .cases e
  .cases e⟩
end
end ZS
namespace ZQ
open L2 ZS
theorem Dn(ho:PE X o (lS i))(ha:QL X a l)(hs:swapsWith (.Call (.Attribute o "extend" p1) [a] [] p2) At pos.line X.env=pure AT:=by rfl)(qb:Se a [] X.env:=by rfl)
 (jf:attributeBase o "extend" X.env (eval o X.env)=eval o X.env:=by rfl)
 (n!:((backTo p2<|starEach (a::[]) X.env).all (λ x=>!x.1)&&(backToKw p2<|keywordEach [] X.env).all (λ x=>x.1.isSome)
  && decide ((a::[]).length+([]:γ π).length+(if([]:γ π).isEmpty then 0 else 1)<30))=Ch:=by rfl)
 (je:(p1.endLine==p2.line)=Ch:=by rfl) (jd:Pn p2 [] X.env:=by rfl) :
 QS X H0 (.Expr (.Call (.Attribute o "extend" p1) [a] [] p2) pos) (Z.F7 i l):=
 ⟨ZS.G! hs<|Aj C11 PySem.F.slot_list_extend PySem.F.type_list_extend Gw ho (bH ha.p cP qb) jf n! je qb jd⟩
end ZQ
namespace ZS
open L2 PySem.W
theorem rd:∀{ns:γ Int},i∈ns->UF (.int i)<=Tl (ns.map WData.int)
|[],h=>by cases h
|n::ns,h=>by
 rcases A00.mp h with rfl|h
 .simp only[f8,Tl];lia
 .have:=rd h;simp only[f8,Tl];lia
theorem BF{ns:γ Int}(h:WData.layableAll [WData.list (ns.map WData.int)]=Ch):∀i∈ns,Z.bits i<=2^20:=by
 intro i hi;have h1:=A36.mp h _ A11;unfold WData.layable at h1;rw[A46]at h1;have h3:UF (.list<|ns.map WData.int)=Tl (ns.map WData.int):=by simp only[UF]
 have h4:=rd hi;have h5:UF (.int i)=Z.bits i:=by
  simp only[UF];unfold Z.bits;by_cases hz:i=0
  .subst hz;rfl
  .rw[W1 hz,W1 (by simpa using hz)]
 lia
def Lw(q:ο)(K:Frag):Prop:=noTabs K=Ch/\(∀x∈dD,∀c P,tabIn K x=AC (c,P)->∃d,(recsOf q).find? (λ e=>e.name==x)=AC d) /\
 ∀x y c P c',x∈dD->y∈dD->tabIn K x=AC (c,P)->tabIn K y=AC (c',P)->x=y
theorem tR{K:Frag}(h:nsIn K mainGlobals x=AC (AC<|.ref f))(h2:K.lookup f=AC ⟨o1,d1,.func fd,s1⟩)(h3:fd.code=.ref c)
 (h4:K.lookup c=AC ⟨o2,d2,.fields vs,s2⟩) (h5:vs[11]?=AC (.ref p)):tabIn K x=AC (c,p):=by
 unfold tabIn;rw[h];dsimp only;rw[h2];dsimp only;rw[h3];dsimp only;rw[h4];dsimp only;rw[h5]
theorem gF{p:Str->Prop}(h1:p "best_among")(h2:p "paper_beside"):∀x∈dD,p x:=by
 intro x hx;rcases A00.mp hx with rfl|hx
 .exact h1
 .rw[A19.mp hx];exact h2
theorem Rn{K:Frag}(n:noTabs K=Ch)(h1:tabIn K "best_among"=r1)(h2:tabIn K "paper_beside"=r2)(g1:r1=At\/((recsOf q).find? λ e=>e.name==Db "best_among").isSome=Ch)(g2:r2=At\/((recsOf q).find? λ e=>e.name==Db "paper_beside").isSome=Ch)
 (ne:∀c P c' P',r1=AC (c,P)->r2=AC (c',P')->P≠P'):Lw q K:=by
 refine⟨n,gF (λ c P e=>?_) λ c P e=>?_,λ x y c P c' hx hy=>?_⟩
 .rcases g1 with z|z
  .rw[h1,z]at e;cases e
  .exact A91.mp z
 .rcases g2 with z|z
  .rw[h2,z]at e;cases e
  .exact A91.mp z
 .refine gF (p:=λ x=>tabIn K x=AC (c,P)->tabIn K y=AC (c',P)->x=y) (λ e1=>?_) (λ e1=>?_) x hx
  .refine gF (p:=λ y=>tabIn K y=AC (c',P)-> "best_among"=y) (λ _=>rfl) (λ e2=>?_) y hy;exact absurd rfl<|ne c P c' P (h1.symm.trans e1)<|h2.symm.trans e2
  .refine gF (p:=λ y=>tabIn K y=AC (c',P)-> "paper_beside"=y) (λ e2=>?_) (λ _=>rfl) y hy;exact absurd rfl<|ne c' P c P (h1.symm.trans e2)<|h2.symm.trans e1
theorem P8{l:OpenLaw}{n k:Nat}{q:ο}{loose:γ Str}{XP:(Str->ε ζ)->ν->Prop}{YP:ξ->ν->Prop}{d:DefRec}{K:Params->Frag}{m:γ Z.D->Z.Res Z.D}{x:Str}
 (hn:l.most=AC n) (HD:n<=sizeLine) (_1:d.params.defaults=[]) (hr:bG k callerA)
 (hY:∀w h,YP w h->(K w.params).In h)
 (F:∀ w mg fa h,(K w.params).In h->h.Ns mainGlobals mg->mg d.name=AC (.ref fa) ->
  ∃fd:υ,(∀(s:η)(u:ζ),BindsTo s fd ⟨[u],[]⟩ [(x,u)]) /\
   ∀base:ν,(K w.params).In base->base.Ns mainGlobals mg->ee l.prog w (K w.params) mg base iK k fa fd [x] (zo (K w.params) m)) (hL:∀w:ξ,Lw q (K w.params))
 (hold:∀ns:γ Int,ns.length<=n->(∀i∈ns,Z.bits i<=2^20)->m [.lst (ns.map .int)]=.ok (.bl Ch)) :
 WalkO q loose XP YP l.row.toRowW d [] (λ f vs=>PySem.call f vs):=by
 intro w s₀ s₁ mg mb G Y fa o pm cd doc dV kV ho hd nH hD _E hg args vals as NQ _I hrd _i _F;cases Dflts.none hD _1;cases Dflts.noKw hD;let⟨a,vs,ns,rfl,rfl,_y,hints,ψ⟩:=Att.F6 hn NQ _i;have KX:=hY w _ Y;let⟨fd,hb,hF⟩:=F w mg fa _ KX G.T.g _E;have C:=JU KX G.T.g G.T.b G.T.builtins G.T.nolimit hg _y hints (A13 ψ HD) hr hF hb (λ H hO hS=>Rm hO hS<|hold ns ψ<|BF _I) (λ H e s' z=>z)
  (hL w).2.2 (λ y hy c p e=>let ⟨d,hd⟩:=(hL w).2.1 y hy c p e;let T:=tab_of G.T KX hd e;⟨T,T.1.tab T.2⟩) G.T.bmain (hL w).1
 refine enter_call<|A78 C λ r s' hq=>?_;let⟨rfl,h2,h3,h4⟩:=hq;exact⟨.inl ⟨.bool Ch,.bool Ch,[],rfl,λ _=>rfl,.bool Ch,Att.F' l _,λ _=>⟨List.Pairwise.nil,λ _ hm=>(nomatch hm)⟩⟩,h2,h3,h4⟩
end ZS
namespace ZS
open L2
theorem CN(hit:s.heap.IsTupleIter it t i)(ht:s.heap.IsTuple t items)(hx:items[i]?=AC x)
 (hQ:∀h',h'.IsTupleIter it t (i+1)->IN it s.heap h'->Q x {s with heap:=h'}):EQ (model prog w) A (Gc<|.ref it) Q E s:=by
 let⟨ob,LM,kA,qe⟩:=id hit;let⟨ot,NR,_,nt,V5⟩:=ht;refine T0<|B03 hit.typeIs B62<|B05 B62 hit.typeIs C52 ?_<|C53 _;show EQ _ _ (field _ 0>>=_) _ _ _;refine T0<|A31 LM qe (x:=.ref t) rfl ?_;have HC:¬(Value.ref t==SZ)=Ch:=A89;rw[W1 HC];refine T0<|A31 LM qe rfl ?_;refine T0<|A44 NR V5 ?_;simp only[A98,hx];refine T0<|B63 LM qe ∅<|P3 ⟨x,rfl,P3<|hQ _ ⟨_,A84 _ LM<|B64<|A69 qe _,(C13 ..).trans kA,?_⟩<|Heap.SameBut.update ..⟩;rw[A69 qe];simp[rawInt]
theorem Gu(hh:A.handled=At)(hit:s.heap.IsTupleIter it t i)(ht:s.heap.IsTuple t items)(hx:items[i]?=At)
 (hE:∀h' e,ca it s.heap h'->(∃o,h'.get? e=AC o/\o.cls=.type "StopIteration")->E (.ref e) {s with heap:=h'}):EQ (model prog w) A (Gc<|.ref it) Q E s:=by
 let⟨ob,LM,kA,qe⟩:=id hit;let⟨ot,NR,_,nt,V5⟩:=ht;refine T0<|B03 hit.typeIs B62<|B05 B62 hit.typeIs C52 ?_<|C53 _;show EQ _ _ (field _ 0>>=_) _ _ _;refine T0<|A31 LM qe (x:=.ref t) rfl ?_;have HC:¬(Value.ref t==SZ)=Ch:=A89;rw[W1 HC];refine T0<|A31 LM qe rfl ?_;refine T0<|A44 NR V5 ?_;simp only[A98,hx];refine T0<|B29<|T0<|B63 LM qe ∅ ?_;refine T0 ?_;simp only[newExc,newTuple];refine T0<|A67 ?_ (by size_fits);refine T0<|wpAny_of_eq (by first|rfl|(simp only[firstArgMember];rfl)) ?_;refine A67 ?_ (by size_fits);simp only[raiseNew];refine T0<|wpAny_handled ?_
 first|rw[hh]|rw[hh]
 exact T0<|P3<|wpAny_throw<|hE _ _ (((Heap.SameBut.update ..).extBut.push _).push _) ⟨_,A14 _ rfl,rfl⟩
theorem Sk(hh:A.handled=At)(it t:δ)(qc:t≠it)(items:Array ζ):
 Draws prog w A it [it,t] items.size (λ i v=>items[i]?=AC v) (λ i h=>h.IsTupleIter it t i/\h.IsTuple t items) where
 live:=λ _ _ st=>let ⟨o,ho,_⟩:=st.1;⟨o,ho⟩
 frame:=λ _ _ _ st hk=>by let⟨⟨o,e,r⟩,⟨o2,e2,r2⟩⟩:=st;exact⟨⟨o,hk it ∅ o e,r⟩,⟨o2,hk t ∅ o2 e2,r2⟩⟩
 item:=λ i s Q E hi st hQ=>by refine CN st.1 st.2 (x:=items[i]) ∅ λ h' _O BP=>?_;exact hQ _ h' _ ∅ ⟨_O,st.2.extBut BP.extBut qc⟩ BP
 done:=λ s Q E st hE=>Gu hh st.1 st.2 ∅ hE
theorem D!{ch:γ δ}(I:Inv X χ σ H s)(k:∀b o,b∉ch->s.heap.get? b=AC o->h'.get? b=AC o)(hf:∀b∈ch,p! X χ H b):Inv X χ σ H {s with heap:=h',toks:=t'}:=by
 have AE:∀b u,H b=AC u->b∉ch:=λ b u e hb=>by rw[(hf b hb).1]at e;cases e
 refine I.step (λ b hb=>?_) (λ b o _ _ hc e _=>k b o hc e) (λ b o _ _ hc e _=>⟨_,k b o hc e⟩) (λ _ _ _ _ n=>n)
  (λ b o hc e=>⟨o,k b o hc e⟩) (λ _ _ e=>e) (λ _ _ _ e=>e) (λ _ _ _ e=>e) (λ m hm=>?_) (λ b u e=>?_) I.bare
 .let⟨f0,f1,f2,f3,f4,f5⟩:=hf b hb;exact⟨f3,f1,f4,f5⟩
 .let⟨o,es,ep,ho,r⟩:=hm;exact⟨o,es,ep,k _ o (λ hb=>(hf _ hb).2.1 rfl) ho,r⟩
 .refine(I.b9 b u e).rZ (λ c v hc q=>k c v ?_ q) (λ _ q=>q) (λ _ _ q=>q) λ _ _ _ q=>q;rcases hc with z|z
  .rw[z];exact AE b u e
  .exact AE c _ z
theorem D'{ch:γ δ}(I:Inv X χ σ H s)(k:∀b o,b∉ch->s.heap.get? b=AC o->h'.get? b=AC o)(hf:∀b∈ch,p! X χ H b)
 (hT:s.heap.objs.size<=T) (hTT:p9 h' T us.toArray) (r:Vals xs us) (hz:xs.length<=sizeLine):Inv X χ σ (upd H T<|.tup xs) {s with heap:=h',toks:=t'}:=by
 have hn:=I.b9.fresh hT;have AE:∀b u,H b=AC u->b∉ch:=λ b u e hb=>by rw[(hf b hb).1]at e;cases e
 have up:∀b u,H b=AC u->upd H T (.tup xs) b=AC u:=λ b u e=>by rw[aG<|bj e hn];exact e
 have lt:∀b o,s.heap.get? b=AC o->b≠T:=λ b o e z=>by rw[z]at e;exact absurd (A01 e)<|A85.mpr hT
 refine I.step (λ b hb=>?_) (λ b o _ _ hc e _=>k b o hc e) (λ b o _ _ hc e _=>⟨_,k b o hc e⟩) (λ b o _ e n=>by rw[aG<|lt b o e];exact n)
  (λ b o hc e=>⟨o,k b o hc e⟩) (λ b ys e=>up b _ e) (λ b o u e=>up b _ e) (λ b u _ e=>up b _ e) (λ m hm=>?_) (λ b u e=>?_) I.bare
 .let⟨f0,f1,f2,f3,f4,f5⟩:=hf b hb;exact⟨f3,f1,f4,f5⟩
 .let⟨o,es,ep,ho,q⟩:=hm;exact⟨o,es,ep,k _ o (λ hb=>(hf _ hb).2.1 rfl) ho,q⟩
 .by_cases hb:b=T
  .subst hb;rw[aO]at e;cases e;exact⟨hz,us,r,hTT⟩
  .rw[aG hb]at e;refine(I.b9 b u e).rZ (λ c v hc q=>k c v ?_ q) (λ c q=>?_) (λ c ys q=>up c _ q) λ c v _ q=>up c _ q
   .rcases hc with z|z
    .rw[z];exact AE b u e
    .exact AE c _ z
   .exact up c _ q
structure SQ where
 at_:Nat->Hp->V->Prop
 end_:Nat->Hp->Prop
def W7(J:SQ):It:=⟨λ i H=>∃y,J.at_ i H y,λ i H x H'=>∃T y,H T=At/\x=.ref T/\H'=upd H T (.tup [.int (i:Nat),y])/\J.at_ i H y,J.end_⟩
structure Src(P:Program)(w:World)(K:Da)(J:SQ)(it:Addr)(Rz:Nat->Heap->Prop):Prop where
 obj:∀i h,Rz i h->∃o,h.get? it=AC o/\(∀v,o.data≠.cell v)/\o.cls≠.type "enumerate" /\ o.cls≠.type "zip" /\ o.cls≠.type "tuple"
 keep:∀i h h',Rz i h->(∀o,h.get? it=AC o->h'.get? it=AC o)->Rz i h'
 draw:∀(X:Cx),X.prog=P->X.w=w->X.K=K->X.calm=Ch->∀(i:Nat)(χ:List (Addr×Obj))(s:Shared)(σ:St)(H:Hp),Inv X χ σ H s->Rz i s.heap->((∃y,J.at_ i H y)\/J.end_ i H) ->
  ∃(fp:List Addr)(n:Nat)(Pv:Nat->Value->Prop)(S:Nat->Heap->Prop),Draws P w X.A.in1 it fp n Pv S/\S i s.heap/\it∈fp/\(∀b∈fp,b=it\/∃o,s.heap.get? b=AC o/\o.cls≠.type "enumerate" /\ o.cls≠.type "zip" /\ (H b=At->∃o',K.lookup b=AC o')) /\
   ((∃y,J.at_ i H y)->i<n/\∀u,Pv i u->∃y,RelV y u/\J.at_ i H y)/\(J.end_ i H->i=n)/\∀j h,S j h->Rz j h
theorem qp{K:Fa}(S:Src P w K J it Rz)(V4:e≠it):
 Turn P w K (.Tuple elts x1 pos) (W7 J) [e,it] e (λ i h=>(∃old,IsEnum h e it i old)/\Rz i h) where
 mem:=by simp
 obj:=λ i h st b hb=>by
  rcases A00.mp hb with rfl|hb
  .let⟨⟨old,he⟩,_⟩:=st;exact⟨_,he,λ v z=>by have z':=z;cases z'⟩
  .rw[A19]at hb;subst hb;let⟨o,h1,h2,_⟩:=S.obj i h st.2;exact⟨o,h1,h2⟩
 keep:=λ i h h' st k=>⟨let ⟨old,he⟩:=st.1;⟨old,k e ∅ _ he⟩,S.keep i h h' st.2 λ o q=>k it ∅ o q⟩
 item:=by
  intro X hP hw hK hc i χ s σ H E I hf st hg;let⟨fp,n,Pv,St',D,_o,_Q,_V,__,_,qH⟩:=S.draw X hP hw hK hc i χ s σ H I st.2 (.inl hg);let⟨hi,hv⟩:=__ hg;subst hP hw hK;let⟨old,he⟩:=st.1;have Yp:e∉fp:=λ hb=>by
   rcases _V e hb with z|⟨o,q,qc,_⟩
   .exact V4 z
   .rw[he]at q;cases q;exact qc rfl
  have W:=WalksT.enumerateD (A:=X.A) D e V4 Yp _Q;have V3:=A01 he;have VX:it<s.heap.objs.size:=by let⟨o,q,_⟩:=S.obj _ _ st.2;exact A01 q
  refine wpAny_pyNext_enum_itemD D he _o hi V4 Yp λ u h' t' hu ho BP hTx E2 hk=>⟨.ref s.heap.objs.size,rfl,?_⟩
  have hT:s.heap.objs.size<=s.heap.objs.size:=v4 _;have kk:∀b o,b∉[e,it]->s.heap.get? b=AC o->h'.get? b=AC o:=λ b o hb y=>hk b o (λ e'=>hb (by simp[e'])) (λ e'=>hb (by simp[e'])) y;let⟨y,ry,hy⟩:=hv u hu;have hTw:s.heap.objs.size∉[e,it]:=by simp only[A00,A40,A49,A74];exact⟨A42 V3,A42 VX⟩
  refine W.go elts x1 pos i s.heap.objs.size _ _ _ ⟨⟨_,ho⟩,BP,A42 V3,A42 VX⟩ λ h2 RD kk2=>?_;have hTn:=I.b9.fresh hT;have aad:p9 h2 s.heap.objs.size [Value.int i t',u].toArray:=⟨_,kk2 _ _ hTw hTx⟩
  have I2:Inv X χ σ (upd H s.heap.objs.size<|.tup [.int (i:Nat),y]) {s with heap:=h2,toks:=t'+1}:=
   D' (ch:=[e,it]) I (λ b o hb q=>kk2 b o hb<|kk b o hb q) hf hT aad (.cons ⟨t',rfl⟩<|.cons ry .nil) (by show 2<=sizeLine;decide)
  refine⟨.ref s.heap.objs.size,_,I2,rfl,⟨s.heap.objs.size,y,hTn,rfl,rfl,hy⟩,⟨RD.1,qH _ _ RD.2⟩,λ b hb=>?_⟩;have _?:b≠s.heap.objs.size:=λ z=>hTw<|z▸hb;rw[aG _?];exact(hf b hb).1
 done:=by
  intro X hP hw hK hc i χ s σ H E I hf st hg;let⟨fp,n,Pv,St',D,_o,_Q,_V,_,RX,qH⟩:=S.draw X hP hw hK hc i χ s σ H I st.2 (.inr hg);have _P:=RX hg;subst hP hw hK _P;let⟨old,he⟩:=st.1;have Yp:e∉fp:=λ hb=>by
   rcases _V e hb with z|⟨o,q,qc,_⟩
   .exact V4 z
   .rw[he]at q;cases q;exact qc rfl
  have W:=WalksT.enumerateD (A:=X.A) D e V4 Yp _Q;exact W.done s _ _ ⟨⟨old,he⟩,_o⟩ λ h' tk kk=>⟨rfl,D! (ch:=[e,it]) I kk hf⟩
 self:=λ A i s Q E st hQ=>by let⟨old,he⟩:=st.1;exact B65 he hQ
def GQ(K:Da)(t:δ)(vs:γ V):SQ:=⟨λ i H y=>mV K H t vs/\vs[i]?=AC y,λ i H=>mV K H t vs/\vs.length=i⟩
def NN(K:Da)(t:δ)(vs:γ V):SQ:=⟨λ i H y=>jw K H t vs/\vs[i]?=AC y,λ i H=>jw K H t vs/\vs.length=i⟩
def J6(z:Str):SQ:=⟨λ i _ y=>∃c,z.cps[i]?=AC c/\y=.str ⟨#[c]⟩,λ i _=>i=z.cps.size⟩
theorem sI{K:Fa}:Src P w K (GQ K t xs) it (λ i h=>h.IsTupleIter it t i) where
 obj:=λ i h st=>by let⟨o,e,c,d⟩:=st;exact⟨o,e,λ v z=>(by rw[d]at z;cases z),by rw[c];decide,by rw[c];decide,by rw[c];decide⟩
 keep:=λ i h h' st k=>let ⟨o,e,r⟩:=st;⟨o,k o e,r⟩
 draw:=by
  intro X hP hw hK hc i χ s σ H I st hg;subst hP hw hK;have hq:mV X.K H t xs:=by rcases hg with⟨y,h,_⟩|⟨h,_⟩<;>exact h
  let⟨bq,r,p,hz⟩:=I.tuple hq;let⟨ot,NR,RY,nt,V5⟩:=id p;let⟨oi,VQ,V8,hdi⟩:=id st;have qc:t≠it:=by rintro rfl;rw[NR]at VQ;cases VQ;rw[RY]at V8;injection V8 with z;exact absurd z ∅
  refine⟨[it,t],_,_,_,Sk (A:=X.A.in1) (I.ok.hd hc) it t qc _,⟨st,p⟩,by simp,λ b hb=>?_,λ⟨y,_,VF⟩=>?_,λ⟨_,hl⟩=>?_,λ j h q=>q.1⟩
  .rcases A00.mp hb with rfl|hb
   .exact .inl rfl
   .rw[A19]at hb;subst hb;refine .inr ⟨ot,NR,by rw[RY];decide,by rw[RY];decide,λ hn=>?_⟩;rcases hq with(z|⟨o,z⟩)|⟨o,_,_,z,_⟩
    .rw[hn]at z;cases z
    .rw[hn]at z;cases z
    .exact⟨o,z⟩
  .let⟨u,hu,ru⟩:=r.get VF;refine⟨by rw[A10];exact(A07.mp hu).1,λ u' Th=>⟨y,?_,hq,VF⟩⟩;have:bq[i]?=AC u':=by simpa using Th
   rw[hu]at this;cases this;exact ru
  .rw[A10,<-r.length,hl]
theorem Eg{K:Fa}:Src P w K (NN K t xs) it (λ i h=>h.IsListIter it t i) where
 obj:=λ i h st=>by let⟨o,e,c,d⟩:=st;exact⟨o,e,λ v z=>(by rw[d]at z;cases z),by rw[c];decide,by rw[c];decide,by rw[c];decide⟩
 keep:=λ i h h' st k=>let ⟨o,e,r⟩:=st;⟨o,k o e,r⟩
 draw:=by
  intro X hP hw hK hc i χ s σ H I st hg;subst hP hw hK;have hq:jw X.K H t xs:=by rcases hg with⟨y,h,_⟩|⟨h,_⟩<;>exact h
  let⟨bq,r,p,hz⟩:=I.list hq;let⟨ot,NR,RY,nt,V5⟩:=id p.isList;let⟨oi,VQ,V8,hdi⟩:=id st;have qc:t≠it:=by rintro rfl;rw[NR]at VQ;cases VQ;rw[RY]at V8;injection V8 with z;exact absurd z ∅
  refine⟨[it,t],_,_,_,Draws.list (A:=X.A.in1) (I.ok.hd hc) it t qc _,⟨st,p.isList⟩,by simp,λ b hb=>?_,λ⟨y,_,VF⟩=>?_,λ⟨_,hl⟩=>?_,λ j h q=>q.1⟩
  .rcases A00.mp hb with rfl|hb
   .exact .inl rfl
   .rw[A19]at hb;subst hb;refine .inr ⟨ot,NR,by rw[RY];decide,by rw[RY];decide,λ hn=>?_⟩;rcases hq with(z|⟨o,z⟩)|⟨o,_,_,z,_⟩
    .rw[hn]at z;cases z
    .rw[hn]at z;cases z
    .exact⟨o,z⟩
  .let⟨u,hu,ru⟩:=r.get VF;refine⟨by rw[A10];exact(A07.mp hu).1,λ u' Th=>⟨y,?_,hq,VF⟩⟩;have:bq[i]?=AC u':=by simpa using Th
   rw[hu]at this;cases this;exact ru
  .rw[A10,<-r.length,hl]
theorem Mi{K:Fa}:Src P w K (J6 z) it (λ i h=>h.IsStrIter it (strIterType z) z tk i) where
 obj:=λ i h st=>by let⟨o,e,c,d⟩:=st;refine⟨o,e,λ v q=>(by rw[d]at q;cases q),?_,?_,?_⟩<;>(rw[c];unfold strIterType;split<;>decide)
 keep:=λ i h h' st k=>let ⟨o,e,r⟩:=st;⟨o,k o e,r⟩
 draw:=by
  intro X hP hw hK hc i χ s σ H I st hg;subst hP hw hK;have hh:X.A.in1.handled=At:=I.ok.hd hc;have fin:∀Pv,(∀i u,Pv i u->∃c t,z.cps[i]?=AC c/\u=.str ⟨#[c]⟩ t)->∀S,Draws X.prog X.w X.A.in1 it [it] z.cps.size Pv S->S i s.heap->(∀j h,S j h->h.IsStrIter it (strIterType z) z tk j) ->
   ∃fp n Pv S,Draws X.prog X.w X.A.in1 it fp n Pv S/\S i s.heap/\it∈fp/\(∀b∈fp,b=it\/∃o,s.heap.get? b=AC o/\o.cls≠.type "enumerate" /\ o.cls≠.type "zip" /\ (H b=At->∃o',X.K.lookup b=AC o')) /\
    ((∃y,(J6 z).at_ i H y)->i<n/\∀u,Pv i u->∃y,RelV y u/\(J6 z).at_ i H y)/\((J6 z).end_ i H->i=n)/\∀j h,S j h->h.IsStrIter it (strIterType z) z tk j:=by
   intro Pv hPv S D hs hS;refine⟨[it],z.cps.size,Pv,S,D,hs,by simp,λ b hb=>.inl (by simpa using hb),λ⟨y,c,hy,_⟩=>⟨?_,λ u hu=>?_⟩,λ q=>q,hS⟩
   .rcases Nat.lt_or_ge i z.cps.size with q|q
    .exact q
    .rw[Array.getElem?_eq_none q]at hy;cases hy
   .let⟨c',t',sk,rfl⟩:=hPv i u hu;exact⟨.str ⟨#[c']⟩,⟨t',rfl⟩,c',sk,rfl⟩
  cases ha:z.cps.all (· < 128)
  .have e:strIterType z="str_iterator":=by unfold strIterType;rw[ha];rfl
   exact fin _ (λ _ _ q=>q) _ (Draws.strWide hh it z tk) (by rw[<-e];exact st) λ j h q=>by rw[e];exact q
  .have e:strIterType z="str_ascii_iterator":=by unfold strIterType;rw[ha];rfl
   exact fin _ (λ _ _ q=>q) _ (Draws.strAscii hh it z tk) (by rw[<-e];exact st) λ j h q=>by rw[e];exact q
theorem AM(l:δ)(items:Array ζ)(n:Nat)(dct:ε δ)(sl:Array _):
 Meets (Builtin.«enumerate.__new__» ⟨[.type "enumerate",.ref l],[]⟩) (λ _ R s=>s.heap.get? l=AC {cls:=.type "tuple",dict:=dct,data:=.seq items n,slots:=sl} /\
  R (.ok<|.ret<|.ref (s.heap.push {cls:=.type "tuple_iterator",data:=.fields #[.ref l,.int 0 0]}).objs.size)
   {s with heap:=(s.heap.push {cls:=.type "tuple_iterator",data:=.fields #[.ref l,.int 0 0]}).push {cls:=.type "enumerate",data:=.fields #[.none,.bool AT,.ref s.heap.objs.size,rawInt 0,.none,.none]}}):=
 .of_wp λ prog w A R s h=>by
  let⟨hp,gs,dr,tk,os⟩:=s;let⟨hl,h⟩:=h;have _n:=sub_enumerate;have hL:tz _ l items:=⟨_,hl,rfl,n,rfl⟩
  wp_walk using C14 hl
  refine wpAny_stack_any λ st=>P3 ?_;split
  .rename_i c _ _ _ _ _;cases (c==Value.type "enumerate")<;>(wp_walk using C14 hl,B09 hL;exact⟨_,rfl,h⟩)
  .wp_walk using C14 hl,B09 hL
   exact⟨_,rfl,h⟩
theorem Dx(hL:s.heap.IsTuple l items)
 (h:∀h',IsEnum h' (s.heap.objs.size+1) s.heap.objs.size 0 .none->h'.IsTupleIter s.heap.objs.size l 0->(∀b o,s.heap.get? b=AC o->h'.get? b=AC o)->Q (.ref<|s.heap.objs.size+1) {s with heap:=h'}) :
 EQ (model prog w) A (call (.type "enumerate") [.ref l]) Q E s:=by
 let⟨⟨c,dct,dt,sl⟩,hl,hc,n,hd⟩:=hL;have sk:=hc;have qI:=hd;subst sk qI;refine callType_new F.called_enumerate ∅ (F.typeCall_enumerate_1 _) (F.newCall_enumerate_1 _) (λ obj=>F.args_object_init_2 obj _) F.entry_enumerate_new (AM l items n dct sl) ⟨hl,?_⟩;have hz:(s.heap.push {cls:=.type "tuple_iterator",data:=.fields #[.ref l,.int 0 0]}).objs.size=s.heap.objs.size+1:=A50 ..;have he:=A14 (s.heap.push {cls:=.type "tuple_iterator",data:=.fields #[.ref l,.int 0 0]}) (o:={cls:=.type "enumerate",data:=.fields #[.none,.bool AT,.ref s.heap.objs.size,rawInt 0,.none,.none]}) rfl;rw[hz]at he ⊢;exact⟨⟨_,he,rfl⟩,h _ he ⟨_,v6 _<|A14 _ rfl,rfl,rfl⟩ λ b o x=>v6 _<|v6 _ x⟩
theorem qR:∀ds k i,(Z.lF k ds)[i]?=(ds[i]?).map λ d=>Z.pair (.int<|(k+i:Nat)) d
|[],_,_=>by simp[Z.lF]
|d::ds,k,0=>by simp[Z.lF]
|d::ds,k,i+1=>by simp only[Z.lF,List.getElem?_cons_succ,qR ds _ i];rw[show k+1+i=k+(i+1)by lia]
theorem xo:∀ds k,(Z.lF k ds).length=ds.length
|[],_=>rfl
|d::ds,k=>by simp[Z.lF,xo ds]
theorem uv{K:Da}(h1:∀i d H1,S H1->ds[i]?=AC d->(∃y,J.at_ i H1 y)/\∀y,J.at_ i H1 y->Den K H1 d y)(h2:∀H1,S H1->J.end_ ds.length H1):DX K (W7 J) S (Z.lF 0 ds) where
 go:=λ i d H1 s hi=>by
  rw[qR]at hi;cases q:ds[i]? with
  |none=>rw[q]at hi;cases hi
  |some d0=>exact(h1 i d0 H1 s q).1
 D3:=λ i d H1 H2 x s hi y=>by
  let⟨T,y,hT,rfl,rfl,hy⟩:=y;rw[qR]at hi;cases q:ds[i]? with
  |none=>rw[q]at hi;cases hi
  |some d0=>rw[q]at hi;cases hi;have sm:aJ H1 (upd H1 T<|.tup [.int (i),y]):=cn hT;refine⟨sm,fL (.inl<|.inl aO)<|aE.cons ?_<|aE.cons (((h1 i d0 H1 s q).2 y hy).up sm) aE.nil⟩;rw[B10];exact c_
 stop:=λ H1 s=>by rw[xo];exact h2 H1 s
theorem Df(I:Inv X χ σ H s):∀b∈[s.heap.objs.size+1,s.heap.objs.size],p! X χ H b:=λ b hb=>by
 rcases A00.mp hb with rfl|hb
 .exact I.vT (A57 _)<|I.b9.fresh<|A57 _
 .rw[A19]at hb;subst hb;exact I.vT (v4 _)<|I.b9.fresh<|v4 _
theorem _root_.ZQ.Bq(hm:X.mg "enumerate"=At)(ha:ZQ.QE X a fa)(hs:starEach [a] X.env=[(AT,eval a X.env)]:=by rfl)(qb:Se a [] X.env:=by rfl)(hg:Gl X "enumerate":=by rfl):ZQ.QJ X (.Tuple elts x1 p2) (.Call (.Name "enumerate" p) [a] [] pos) (Z.EZ fa):=⟨by
 have ha:=ha.p;intro χ s σ H R I w;let⟨ρ,ds,r,e,k⟩:=w;let⟨d,ea,e⟩:=XV e;let⟨ds0,ei,e⟩:=XV e;cases e;refine Call_<|kM I hg hm PyProof.Rows.boot_enumerate<|B23 (cA ((bH ha cP qb) pos χ s σ H (λ vs H1=>∃v,vs=[v]/\aJ H H1/\Den X.K H1 d v) I ⟨ρ,d,r,ea,λ v H1 s1 d1=>⟨v,rfl,s1,d1⟩⟩) ?_) hs rfl;rintro us s1 ⟨vs,H1,I1,r1,q1⟩;let⟨v,rfl,sm,hd⟩:=q1;let⟨u,rfl,ru⟩:=vals1 r1;cases d with
 |tup YW=>
  cases ei;let⟨q,vs,rfl,hq,t⟩:=bR.tup (.inl hd);cases ru;let⟨bq,rv,pt,hz⟩:=I1.tuple hq;refine Dx pt λ h' he hit hk=>B65 he ?_;refine⟨_,[s1.heap.objs.size+1,s1.heap.objs.size],_,W7<|GQ X.K q vs,H1,rfl,I1.kept hk,qp sI<|C16 _,⟨⟨_,he⟩,hit⟩,Df I1,k _ H1 sm<|uv (λ i d0 H2 s2 hi=>?_) λ H2 s2=>?_⟩
  .let⟨y,hy,dy⟩:=t.get hi;refine⟨⟨y,fS s2 hq,hy⟩,λ y' J8=>?_⟩;have:=J8.2;rw[hy]at this;cases this;exact dy.ups s2
  .exact⟨fS s2 hq,t.length⟩
 |lst YW=>
  cases ei;simp only[Den]at hd;let⟨q,vs,rfl,hq,t⟩:=hd;cases ru;let⟨bq,rv,pt,hz⟩:=I1.list hq.sq;refine call_enumerate_list pt.isList λ h' he hit E2 hk=>B65 he ?_;refine⟨_,[s1.heap.objs.size+1,s1.heap.objs.size],_,W7<|NN X.K q vs,H1,rfl,I1.kept hk,qp Eg<|C16 _,⟨⟨_,he⟩,hit⟩,Df I1,k _ H1 sm<|uv (λ i d0 H2 s2 hi=>?_) λ H2 s2=>?_⟩
  .let⟨y,hy,dy⟩:=t.get hi;refine⟨⟨y,(hq.mono s2).sq,hy⟩,λ y' J8=>?_⟩;have:=J8.2;rw[hy]at this;cases this;exact dy.ups s2
  .exact⟨(hq.mono s2).sq,t.length⟩
 |str cs=>
  cases ei;simp only[Den]at hd;rw[hd]at ru;let⟨tk,rfl⟩:=ru;refine call_enumerate_str λ h' he hit E2 hk=>B65 he ?_;refine⟨_,[s1.heap.objs.size+1,s1.heap.objs.size],_,W7<|J6 ⟨cs.toArray⟩,H1,rfl,I1.kept hk,qp Mi<|C16 _,⟨⟨_,he⟩,hit⟩,Df I1,k _ H1 sm<|uv (λ i d0 H2 s2 hi=>?_) λ H2 s2=>?_⟩
  .rw[A08]at hi;cases hc:cs[i]? with
   |none=>rw[hc]at hi;cases hi
   |some c=>
    rw[hc]at hi;cases hi;refine⟨⟨_,c,by simpa using hc,rfl⟩,?_⟩;rintro y ⟨c',sk,hy⟩;have:cs[i]?=AC c':=by simpa using sk
    rw[hc]at this;cases this;rw[hy];exact kX
  .show(cs.map λ c=>Z.D.str [c]).length=cs.toArray.size;simp
 |non=>cases ei
 |bl _=>cases ei
 |int _=>cases ei
 |dct _ _=>cases ei⟩
structure Far(z TI TO i1 i2:Addr)(f1 f2:List Addr):Prop where
 ne:[z,TI,TO,i1,i2].Nodup
 a1:z∉f1/\TO∉f1/\i2∉f1
 a2:z∉f2/\TO∉f2/\i1∉f2
theorem FE{z TI TO i1 i2:δ}{Q:ζ->η->Prop}(F:Far z TI TO i1 i2 f1 f2)(D1:Draws prog w A i1 f1 n1 P1 S1)(D2:Draws prog w A i2 f2 n2 P2 S2)
 (hz:IsZip s.heap z TI TO .none) (GY:IsPair s.heap TI (.ref i1) (.ref i2)) (HE:IsPair s.heap TO a b) (h1:S1 k s.heap) (h2:S2 k s.heap) (Pu:k<n1) (hk2:k<n2)
 (hQ:∀x y h' tk,P1 k x->P2 k y->IsZip h' z TI TO (rawInt s.heap.objs.size)->IsPair h' TO x y->S1 (k+1) h'->S2 (k+1) h'->IsPair h' s.heap.objs.size x y->(∀c o,c∉[z,TO,i1,i2]->s.heap.get? c=AC o->h'.get? c=AC o)->Q (.ref s.heap.objs.size) {s with heap:=h',toks:=tk}) :
 EQ (model prog w) A (Builtin.«zip.__next__» ⟨[.ref z],[]⟩) (λ fin s'=>∃v,fin=.done (.ret v)/\Q v s') E s:=by
 have ne:=F.ne;simp only[A17,A00,A40,A49,A74,B11,B36,B37]at ne;let⟨⟨TQ,LC,O4,P5⟩,⟨TITO,TIi1,TIi2⟩,⟨TOi1,TOi2⟩,i12⟩:=ne;let⟨Xd,SG,VD⟩:=F.a1;let⟨Xc,OT,RB⟩:=F.a2;let⟨hp,gs,dr,tk0,os⟩:=s;show EQ _ _ (field (.ref z) 2>>=_) _ _ _;refine T0<|A31 hz rfl (x:=.bool AT) rfl ?_;show EQ _ _ (field (.ref z) 3>>=_) _ _ _;refine T0<|A31 hz rfl (x:=.ref TI) rfl<|T0<|A44 GY rfl ?_;show EQ _ _ (Go (.ref z)>>=_) _ _ _;refine T0 ?_;unfold Go;refine T0<|A31 hz rfl (x:=.none) rfl<|P3 ?_;simp only[A25];refine T0<|B29<|T0<|A31 hz rfl (x:=.ref TO) rfl<|T0<|B12 hz ∅ λ g1 Pt e1=>?_;have Pt:=Pt;have e1:=e1;refine T0 ?_;simp only[AA4,AB6,B32,AC2];refine T0<|T0<|B66 ?_;show EQ _ _ (Gc (.ref i1)>>=_) _ _ _;refine T0<|D1.item k _ _ _ Pu (D1.frame k hp g1 h1 λ c hc o q=>e1.extBut c o (λ y=>Xd<|y▸hc) q) λ x g2 t2 hx h12 e2=>P3 ?_;have e2:=e2;have Ke:=e2.extBut _ _ TOi1<|e1.extBut _ _ (A05 LC) HE;refine T0<|A44 Ke rfl<|T0<|C17 Ke λ g3 N3 e3=>?_;have N3:=N3;have e3:IN TO g2 g3:=e3;refine T0<|A64<|P3 ?_;refine T0<|T0<|B66 ?_;show EQ _ _ (Gc (.ref i2)>>=_) _ _ _;have h23:S2 k g3:=D2.frame k hp g3 h2 λ c hc o q=>e3.extBut c o (λ y=>OT<|y▸hc)<|e2.extBut c o (λ y=>RB<|y▸hc)<|e1.extBut c o (λ y=>Xc<|y▸hc) q;refine T0<|D2.item k _ _ _ hk2 h23 λ y g4 t4 hy h24 e4=>P3 ?_;have e4:IN i2 g3 g4:=e4;have Wa:IsPair g4 TO x b:=e4.extBut _ _ TOi2 N3;refine T0<|A44 Wa rfl<|T0<|C17 Wa λ g5 N2 e5=>?_;have N2:IsPair g5 TO x y:=N2;have e5:IN TO g4 g5:=e5;refine T0<|A64<|P3<|P3 ?_;refine T0<|A44 N2 rfl<|T0<|wpAny_newTuple ?_;have E2:g5.objs.size=hp.objs.size:=by rw[e5.1,e4.1,e3.1,e2.1,e1.1]
 have hz5:IsZip g5 z TI TO .ellipsis:=e5.extBut _ _ LC<|e4.extBut _ _ P5<|e3.extBut _ _ LC<|e2.extBut _ _ O4 Pt;have _d:z<g5.objs.size:=A01 hz5;show EQ _ _ (Re (.ref z) (.ref g5.objs.size)>>=_) _ _ _;refine T0 ?_;unfold Re;have hz6:IsZip (g5.push {cls:=.type "tuple",data:=.seq #[x,y]}) z TI TO .ellipsis:=v6 _ hz5;refine T0<|B12 hz6 ∅ λ g7 _e e7=>?_;have _e:IsZip g7 z TI TO (rawInt g5.objs.size):=_e;refine B12 _e ∅ λ g8 Yg e8=>?_;have Yg:IsZip g8 z TI TO (rawInt g5.objs.size):=Yg;have up:∀c o,c≠z->g5.get? c=AC o->g8.get? c=AC o:=λ c o h q=>e8.extBut _ _ h<|e7.extBut _ _ h<|v6 _ q;have hT8:IsPair g8 g5.objs.size x y:=e8.extBut _ _ (A42 _d)<|e7.extBut _ _ (A42 _d)<|A14 _ rfl;have s1:S1 (k+1) g8:=D1.frame _ g2 g8 h12 λ c hc o q=>up c o (λ y=>Xd<|y▸hc)<|e5.extBut c o (λ y=>SG<|y▸hc)<|e4.extBut c o (λ y=>VD<|y▸hc)<|e3.extBut c o (λ y=>SG<|y▸hc) q;have s2:S2 (k+1) g8:=D2.frame _ g4 g8 h24 λ c hc o q=>up c o (λ y=>Xc<|y▸hc)<|e5.extBut c o (λ y=>OT<|y▸hc) q;have kp:∀c o,c∉[z,TO,i1,i2]->hp.get? c=AC o->g8.get? c=AC o:=λ c o hc q=>by simp only[A00,A40,A49,A74]at hc;exact up c o hc.1<|e5.extBut _ _ hc.2.1<|e4.extBut _ _ hc.2.2.2<|e3.extBut _ _ hc.2.1<|e2.extBut _ _ hc.2.2.1<|e1.extBut _ _ hc.1 q
 rw[E2]at Yg hT8;refine P3 ⟨_,rfl,?_⟩;show Q (.ref g5.objs.size) _;rw[E2];exact hQ x y g8 t4 hx hy Yg (up _ _ (A05 LC) N2) s1 s2 hT8 kp
theorem HL{z TI TO i1 i2:δ}(F:Far z TI TO i1 i2 f1 f2)(D1:Draws prog w A i1 f1 n1 P1 S1)(D2:Draws prog w A i2 f2 n2 P2 S2)
 (hz:IsZip s.heap z TI TO .none) (GY:IsPair s.heap TI (.ref i1) (.ref i2)) (HE:IsPair s.heap TO a b) (h1:S1 k s.heap) (h2:S2 k s.heap) (RX:k=n1\/(k<n1/\k=n2))
 (hE:∀h' e tk,(∀c o,c∉[z,TO,i1,i2]->s.heap.get? c=AC o->h'.get? c=AC o)->(∃o,h'.get? e=AC o/\o.cls=.type "StopIteration")->E (.ref e) {s with heap:=h',toks:=tk}) :
 EQ (model prog w) A (Builtin.«zip.__next__» ⟨[.ref z],[]⟩) Q E s:=by
 have ne:=F.ne;simp only[A17,A00,A40,A49,A74,B11,B36,B37]at ne;let⟨⟨TQ,LC,O4,P5⟩,⟨TITO,TIi1,TIi2⟩,⟨TOi1,TOi2⟩,i12⟩:=ne;let⟨Xd,SG,VD⟩:=F.a1;let⟨Xc,OT,RB⟩:=F.a2;let⟨hp,gs,dr,tk0,os⟩:=s;show EQ _ _ (field (.ref z) 2>>=_) _ _ _;refine T0<|A31 hz rfl (x:=.bool AT) rfl ?_;show EQ _ _ (field (.ref z) 3>>=_) _ _ _;refine T0<|A31 hz rfl (x:=.ref TI) rfl<|T0<|A44 GY rfl ?_;show EQ _ _ (Go (.ref z)>>=_) _ _ _;refine T0 ?_;unfold Go;refine T0<|A31 hz rfl (x:=.none) rfl<|P3 ?_;simp only[A25];refine T0<|B29<|T0<|A31 hz rfl (x:=.ref TO) rfl<|T0<|B12 hz ∅ λ g1 Pt e1=>?_;have Pt:=Pt;have e1:=e1;refine T0 ?_;simp only[AA4,AB6,B32,AC2];refine T0<|T0<|B66 ?_;show EQ _ _ (Gc (.ref i1)>>=_) _ _ _;have h11:=D1.frame k hp g1 h1 λ c hc o q=>e1.extBut c o (λ y=>Xd<|y▸hc) q;rcases RX with rfl|⟨Pu,rfl⟩
 .refine T0<|D1.done _ _ _ h11 λ g2 e e2 he=>?_;let⟨oe,RN,V9⟩:=he;have e2:=e2;have Yh:IsZip g2 z TI TO .ellipsis:=e2 _ _ O4 Pt;have _Y:e≠z:=λ q=>by subst q;rw[Yh]at RN;cases RN;simp at V9
  refine B12 Yh ∅ λ g3 _ e3=>hE g3 e tk0 (λ c o hc q=>?_) ⟨oe,e3.extBut _ _ _Y RN,V9⟩;simp only[A00,A40,A49,A74]at hc;exact e3.extBut _ _ hc.1<|e2 _ _ hc.2.2.1<|e1.extBut _ _ hc.1 q
 .refine T0<|D1.item k _ _ _ Pu h11 λ x g2 t2 hx h12 e2=>P3 ?_;have e2:IN i1 g1 g2:=e2;have Ke:IsPair g2 TO a b:=e2.extBut _ _ TOi1<|e1.extBut _ _ (A05 LC) HE;refine T0<|A44 Ke rfl<|T0<|C17 Ke λ g3 N3 e3=>?_;have e3:IN TO g2 g3:=e3;refine T0<|A64<|P3 ?_;refine T0<|T0<|B66 ?_;show EQ _ _ (Gc (.ref i2)>>=_) _ _ _;have h23:S2 k g3:=D2.frame k hp g3 h2 λ c hc o q=>e3.extBut c o (λ y=>OT<|y▸hc)<|e2.extBut c o (λ y=>RB<|y▸hc)<|e1.extBut c o (λ y=>Xc<|y▸hc) q;refine T0<|D2.done _ _ _ h23 λ g4 e e4 he=>?_;let⟨oe,RN,V9⟩:=he;have e4:ca i2 g3 g4:=e4;have hz4:IsZip g4 z TI TO .ellipsis:=e4 _ _ P5<|e3.extBut _ _ LC<|e2.extBut _ _ O4 Pt;have _Y:e≠z:=λ q=>by subst q;rw[hz4]at RN;cases RN;simp at V9
  refine B12 hz4 ∅ λ g5 _ e5=>hE g5 e t2 (λ c o hc q=>?_) ⟨oe,e5.extBut _ _ _Y RN,V9⟩;simp only[A00,A40,A49,A74]at hc;exact e5.extBut _ _ hc.1<|e4 _ _ hc.2.2.2<|e3.extBut _ _ hc.2.1<|e2.extBut _ _ hc.2.2.1<|e1.extBut _ _ hc.1 q
def YR(J1 J2:SQ):It:=⟨λ i H=>(∃y,J1.at_ i H y)/\∃y,J2.at_ i H y,
 λ i H x H'=>∃T y1 y2,H T=At/\x=.ref T/\H'=upd H T (.tup [y1,y2])/\J1.at_ i H y1/\J2.at_ i H y2,
 λ i H=>(J1.end_ i H/\((∃y,J2.at_ i H y)\/J2.end_ i H))\/((∃y,J1.at_ i H y)/\J2.end_ i H)⟩
theorem U9(I:Inv X χ σ H s)(f:p! X χ H b)(h:X.K.lookup b=AC o):False:=by
 have hb:=I.ok.mod.LK b o h;rcases f.2.2.2.1 with z|z
 .exact I.ok.AB b o hb z
 .exact absurd (A01 (I.ok.bs b o hb).1)<|A85.mpr z
def tnZ(z TI TO i1 i2:δ)(n1 n2:Nat->ν->Prop)(i:Nat)(h:ν):Prop:=IsZip h z TI TO .none/\IsPair h TI (.ref i1) (.ref i2)/\(∃a b,IsPair h TO a b)/\n1 i h/\n2 i h
theorem Am(p:IsPair h T a b):∃o,h.get? T=AC o/\∀v,o.data≠.cell v:=
 ⟨_,p,λ v z=>by have z':=z;cases z'⟩
theorem zU{K:Fa}{z TI TO i1 i2:δ}(S1:Src P w K J1 i1 n1)(S2:Src P w K J2 i2 n2)(nd:[z,TI,TO,i1,i2].Nodup):
 Turn P w K (.Tuple elts x1 pos) (YR J1 J2) [z,TI,TO,i1,i2] z (tnZ z TI TO i1 i2 n1 n2):=by
 have Yz:∀{X}{χ}{σ}{H}{s}{f1 f2},X.K=K->Inv X χ σ H s->(∀b∈[z,TI,TO,i1,i2],p! X χ H b) ->
  (∀b∈f1,b=i1\/∃o,s.heap.get? b=AC o/\o.cls≠.type "enumerate" /\ o.cls≠.type "zip" /\ (H b=At->∃o',K.lookup b=AC o')) ->
  (∀b∈f2,b=i2\/∃o,s.heap.get? b=AC o/\o.cls≠.type "enumerate" /\ o.cls≠.type "zip" /\ (H b=At->∃o',K.lookup b=AC o'))->Far z TI TO i1 i2 f1 f2:=by
  intro X χ σ H s f1 f2 hK I hf g1 g2;subst hK;have nZ:=nd;simp only[A17,A00,A40,A49,A74,B11,B36,B37]at nZ;let⟨⟨TQ,LC,O4,P5⟩,⟨TITO,TIi1,TIi2⟩,⟨TOi1,TOi2⟩,i12⟩:=nZ;have Z0:∀b,b∈[z,TI,TO,i1,i2]->b≠i1->b∉f1:=λ b hb qc hm=>by
   rcases g1 b hm with q|⟨o,_,_,_,q⟩
   .exact qc q
   .let⟨o',h'⟩:=q (hf b hb).1;exact U9 I (hf b hb) h'
  have ZZ:∀b,b∈[z,TI,TO,i1,i2]->b≠i2->b∉f2:=λ b hb qc hm=>by
   rcases g2 b hm with q|⟨o,_,_,_,q⟩
   .exact qc q
   .let⟨o',h'⟩:=q (hf b hb).1;exact U9 I (hf b hb) h'
  exact⟨nd,⟨Z0 z ∅ O4,Z0 TO ∅ TOi1,Z0 i2 ∅<|A05 i12⟩,⟨ZZ z ∅ P5,ZZ TO ∅ TOi2,ZZ i1 ∅ i12⟩⟩
 refine⟨by simp,λ i h st b hb=>?_,λ i h h' st k=>?_,?_,?_,λ A i s Q E st hQ=>C18 st.1 hQ⟩
 .let⟨hz,GY,⟨a,b',HE⟩,h1,h2⟩:=st;simp only[A00,A40,A49]at hb;rcases hb with rfl|rfl|rfl|rfl|rfl
  .exact⟨_,hz,λ v z=>by have z':Data.fields _=Data.cell v:=z;cases z'⟩
  .exact Am GY
  .exact Am HE
  .let⟨o,q,r,_⟩:=S1.obj i h h1;exact⟨o,q,r⟩
  .let⟨o,q,r,_⟩:=S2.obj i h h2;exact⟨o,q,r⟩
 .let⟨hz,GY,⟨a,b',HE⟩,h1,h2⟩:=st;exact⟨k z ∅ _ hz,k TI ∅ _ GY,⟨a,b',k TO ∅ _ HE⟩,S1.keep i h h' h1 λ o q=>k i1 ∅ o q,S2.keep i h h' h2 λ o q=>k i2 ∅ o q⟩
 .intro X hP hw hK hc i χ s σ H E I hf st hg;let⟨hz,GY,⟨a,b',HE⟩,h1,h2⟩:=st;let⟨f1,m1,P1,T1,D1,qb,_,RW,R3,_,VW⟩:=S1.draw X hP hw hK hc i χ s σ H I h1 (.inl hg.1);let⟨f2,m2,P2,T2,D2,yJ,_,RV,V!,_,VV⟩:=S2.draw X hP hw hK hc i χ s σ H I h2 (.inl hg.2);let⟨_R,GR⟩:=R3 hg.1;let⟨hi2,Tg⟩:=V! hg.2;have FR:=Yz hK I hf RW RV;subst hP hw hK;have hT:s.TypeIs (.ref z) "zip":=⟨_,hz,rfl⟩
  unfold pyNext;refine T0<|wpAny_attempt<|B03 (name:=Db "__next__") hT B67<|B05 B67 hT F.entry_zip_next (FE FR D1 D2 hz GY HE qb yJ _R hi2 λ x y h' tk px py z' to' s1' s2' tt kp=>P3 ?_)<|F.args_zip_next_1 _;refine⟨_,rfl,?_⟩;let⟨y1,r1,a1⟩:=GR x px;let⟨y2,r2,a2⟩:=Tg y py;have lt:∀{c o},s.heap.get? c=AC o->c≠s.heap.objs.size:=λ q=>A12<|A01 q;have hTn:H s.heap.objs.size=At:=I.fresh;have hTz:s.heap.objs.size≠z:=(lt hz).symm;refine wpAny_letOwnedTupleGo_zip z' λ R5 Yh GU=>?_;have nZ:=nd;simp only[A17,A00,A40,A49,A74,B11,B36,B37]at nZ;let⟨⟨TQ,LC,O4,P5⟩,⟨TITO,TIi1,TIi2⟩,⟨TOi1,TOi2⟩,i12⟩:=nZ;have tt2:p9 R5 s.heap.objs.size [x,y].toArray:=⟨_,GU.extBut _ _ hTz tt⟩
  have I2:Inv X χ σ (upd H s.heap.objs.size<|.tup [y1,y2]) {s with heap:=R5,toks:=tk}:=
   D' (ch:=[z,TO,i1,i2]) I (λ b o hb q=>GU.extBut b o (λ e=>hb (by simp[e]))<|kp b o hb q) (λ b hb=>hf b (by simp only[A00,A40,A49]at hb ⊢;rcases hb with e|e|e|e<;>simp[e])) (v4 _) tt2 (.cons r1<|.cons r2 .nil) (by show 2<=sizeLine;decide)
  have k1:n1 (i+1) R5:=S1.keep _ _ _ (VW _ _ s1') λ o q=>GU.extBut i1 o (A05 O4) q;have k2:n2 (i+1) R5:=S2.keep _ _ _ (VV _ _ s2') λ o q=>GU.extBut i2 o (A05 P5) q;have kTI:IsPair R5 TI (.ref i1) (.ref i2):=GU.extBut _ _ (A05 TQ)<|kp TI _ (by simp only[A00,A40,A49,A74];exact⟨A05 TQ,TITO,TIi1,TIi2⟩) GY;refine⟨.ref _,_,I2,rfl,⟨_,y1,y2,hTn,rfl,rfl,a1,a2⟩,⟨Yh,kTI,⟨x,y,GU.extBut _ _ (A05 LC) to'⟩,k1,k2⟩,λ b hb=>?_⟩;have _?:b≠s.heap.objs.size:=by
   simp only[A00,A40,A49]at hb;rcases hb with rfl|rfl|rfl|rfl|rfl
   .exact lt hz
   .exact lt GY
   .exact lt HE
   .let⟨o,q,_⟩:=S1.obj i _ h1;exact lt q
   .let⟨o,q,_⟩:=S2.obj i _ h2;exact lt q
  rw[aG _?];exact(hf b hb).1
 .intro X hP hw hK hc i χ s σ H E I hf st hg;let⟨hz,GY,⟨a,b',HE⟩,h1,h2⟩:=st;have g1:(∃y,J1.at_ i H y)\/J1.end_ i H:=by
   rcases hg with⟨q,_⟩|⟨q,_⟩
   .exact .inr q
   .exact .inl q
  have g2:(∃y,J2.at_ i H y)\/J2.end_ i H:=by
   rcases hg with⟨_,q⟩|⟨_,q⟩
   .exact q
   .exact .inr q
  let⟨f1,m1,P1,T1,D1,qb,_,RW,R3,V2,VW⟩:=S1.draw X hP hw hK hc i χ s σ H I h1 g1;let⟨f2,m2,P2,T2,D2,yJ,_,RV,V!,V1,VV⟩:=S2.draw X hP hw hK hc i χ s σ H I h2 g2;have FR:=Yz hK I hf RW RV;have he:i=m1\/(i<m1/\i=m2):=by
   rcases hg with⟨q,_⟩|⟨q,q2⟩
   .exact .inl<|V2 q
   .exact .inr ⟨(R3 q).1,V1 q2⟩
  subst hP hw hK;have hT:s.TypeIs (.ref z) "zip":=⟨_,hz,rfl⟩
  unfold pyNext;refine T0<|wpAny_attempt<|B03 (name:=Db "__next__") hT B67<|B05 B67 hT F.entry_zip_next (HL FR D1 D2 hz GY HE qb yJ he λ h' e tk kp hx=>?_)<|F.args_zip_next_1 _;let⟨o,ho,Kd⟩:=hx;refine T0<|wpAny_isInstance (T:="StopIteration") (b:=Ch) ⟨o,ho,Kd⟩ isSubtype_stop<|P3 ⟨rfl,?_⟩;exact D! (ch:=[z,TO,i1,i2]) I kp λ b hb=>hf b (by simp only[A00,A40,A49]at hb ⊢;rcases hb with e| e| e| e<;>simp[e])
abbrev zh(T1 T2:String)(h:ν)(l1 l2:δ):ν:=((((h.push {cls:=.type T1,data:=.fields #[.ref l1,.int 0 0]}).push {cls:=.type T2,data:=.fields #[.ref l2,.int 0 0]}).push {cls:=.type "tuple",data:=.seq #[.ref h.objs.size,.ref (h.objs.size+1)]}).push {cls:=.type "tuple",data:=.seq #[.none,.none]}).push
 {cls:=.type "zip",data:=.fields #[.none,.bool AT,.bool AT,.ref (h.objs.size+2),.ref (h.objs.size+3)]}
theorem AK(l1 l2:δ)(xs ys:Array ζ):Meets (Builtin.«zip.__new__» ⟨[.type "zip",.ref l1,.ref l2],[]⟩) (λ _ R s=>s.heap.IsTuple l1 xs/\s.heap.IsTuple l2 ys/\R (.ok<|.ret<|.ref<|s.heap.objs.size+4) {s with heap:=zh "tuple_iterator" "tuple_iterator" s.heap l1 l2}):=
 .of_wp λ prog w A R s h=>by
  let⟨hp,gs,dr,tk,os⟩:=s;let⟨Yl,NV,h⟩:=h;have NP:=sub_zip;have q1:=Yl;have q2:tz (Shared.heap ⟨hp.push {cls:=.type "tuple_iterator",data:=.fields #[.ref l1,.int 0 0]},gs,dr,tk,os⟩) l2 ys:=Heap.IsTuple.push NV _
  wp_walk using B09 q1,B09 q2
  simp only[A50]at h ⊢;exact⟨_,rfl,h⟩
theorem AL(l1 l2:δ)(xs ys:Array ζ):Meets (Builtin.«zip.__new__» ⟨[.type "zip",.ref l1,.ref l2],[]⟩) (λ _ R s=>s.heap.IsList l1 xs/\s.heap.IsTuple l2 ys/\R (.ok<|.ret<|.ref<|s.heap.objs.size+4) {s with heap:=zh "list_iterator" "tuple_iterator" s.heap l1 l2}):=
 .of_wp λ prog w A R s h=>by
  let⟨hp,gs,dr,tk,os⟩:=s;let⟨Yl,NV,h⟩:=h;have NP:=sub_zip;have q1:=Yl;have q2:tz (Shared.heap ⟨hp.push {cls:=.type "list_iterator",data:=.fields #[.ref l1,.int 0 0]},gs,dr,tk,os⟩) l2 ys:=Heap.IsTuple.push NV _
  wp_walk using A96 q1,B09 q2
  simp only[A50]at h ⊢;exact⟨_,rfl,h⟩
theorem zu(T1 T2:String)(h:ν)(l1 l2:δ):IsZip (zh T1 T2 h l1 l2) (h.objs.size+4) (h.objs.size+2) (h.objs.size+3) .none/\IsPair (zh T1 T2 h l1 l2) (h.objs.size+2) (.ref h.objs.size) (.ref<|h.objs.size+1)/\IsPair (zh T1 T2 h l1 l2) (h.objs.size+3) .none .none /\
 (zh T1 T2 h l1 l2).get? h.objs.size=AC {cls:=.type T1,data:=.fields #[.ref l1,.int 0 0]}/\(zh T1 T2 h l1 l2).get? (h.objs.size+1)=AC {cls:=.type T2,data:=.fields #[.ref l2,.int 0 0]}/\∀c o,h.get? c=AC o->(zh T1 T2 h l1 l2).get? c=AC o:=by
 have z1:(h.push {cls:=.type T1,data:=.fields #[.ref l1,.int 0 0]}).objs.size=h.objs.size+1:=A50 ..;have z2:((h.push {cls:=.type T1,data:=.fields #[.ref l1,.int 0 0]}).push {cls:=.type T2,data:=.fields #[.ref l2,.int 0 0]}).objs.size=h.objs.size+2:=by rw[A50,z1]
 have z3:(((h.push {cls:=.type T1,data:=.fields #[.ref l1,.int 0 0]}).push {cls:=.type T2,data:=.fields #[.ref l2,.int 0 0]}).push {cls:=.type "tuple",data:=.seq #[.ref h.objs.size,.ref (h.objs.size+1)]}).objs.size=h.objs.size+3:=by rw[A50,z2]
 have z4:((((h.push {cls:=.type T1,data:=.fields #[.ref l1,.int 0 0]}).push {cls:=.type T2,data:=.fields #[.ref l2,.int 0 0]}).push {cls:=.type "tuple",data:=.seq #[.ref h.objs.size,.ref (h.objs.size+1)]}).push {cls:=.type "tuple",data:=.seq #[.none,.none]}).objs.size=h.objs.size+4:=by rw[A50,z3]
 refine⟨?_,?_,?_,?_,?_,λ c o q=>?_⟩
 .skip
  rw[<-z4];exact A14 _ rfl
 .skip
  rw[<-z2];exact v6 _<|v6 _<|A14 _ rfl
 .skip
  rw[<-z3];exact v6 _<|A14 _ rfl
 .exact v6 _<|v6 _<|v6 _<|v6 _<|A14 _ rfl
 .skip
  rw[<-z1];exact v6 _<|v6 _<|v6 _<|A14 _ rfl
 .exact v6 _<|v6 _<|v6 _<|v6 _<|v6 _ q
theorem sZ:∀xs ys (i:Nat),(Z.jR xs ys)[i]?=(xs[i]?).bind λ x=>(ys[i]?).map λ y=>Z.pair x y
|[],ys,i=>by cases ys<;>simp[Z.jR]
|x::xs,[],i=>by simp[Z.jR]
|x::xs,y::ys,0=>by simp[Z.jR]
|x::xs,y::ys,i+1=>by simp[Z.jR,sZ xs ys i]
theorem zt:∀xs ys,(Z.jR xs ys).length=min xs.length ys.length
|[],ys=>by cases ys<;>simp[Z.jR]
|x::xs,[]=>by simp[Z.jR]
|x::xs,y::ys=>by simp[Z.jR,zt xs ys]
structure Gives(K:Da)(J:SQ)(S:Hp->Prop)(ds:List Z.D):Prop where
 at_:∀(i:Nat) d H1,S H1->ds[i]?=AC d->(∃y,J.at_ i H1 y)/\∀y,J.at_ i H1 y->Den K H1 d y
 end_:∀H1,S H1->J.end_ ds.length H1
theorem EV{K:Fa}(g1:Gives K J1 S xs)(g2:Gives K J2 S ys):DX K (YR J1 J2) S (Z.jR xs ys) where
 go:=λ i d H1 s hi=>by
  rw[sZ]at hi;cases q:xs[i]? with
  |none=>rw[q]at hi;cases hi
  |some x=>
   rw[q]at hi;cases q2:ys[i]? with
   |none=>simp[q2]at hi
   |some y=>exact⟨(g1.at_ i x H1 s q).1,(g2.at_ i y H1 s q2).1⟩
 D3:=λ i d H1 H2 x s hi y=>by
  let⟨T,y1,y2,hT,rfl,rfl,a1,a2⟩:=y;rw[sZ]at hi;cases q:xs[i]? with
  |none=>rw[q]at hi;cases hi
  |some x=>
   rw[q]at hi;cases q2:ys[i]? with
   |none=>simp[q2]at hi
   |some y=>simp only[q2,C19,A68,B13]at hi;subst hi;have sm:aJ H1 (upd H1 T<|.tup [y1,y2]):=cn hT;exact⟨sm,fL (.inl<|.inl aO)<|aE.cons (((g1.at_ i x H1 s q).2 y1 a1).up sm)<|aE.cons (((g2.at_ i y H1 s q2).2 y2 a2).up sm) aE.nil⟩
 stop:=λ H1 s=>by
  rw[zt];have e1:=g1.end_ H1 s;have e2:=g2.end_ H1 s;rcases Nat.lt_trichotomy _ _ with h|h|h
  .rw[A70<|A76 h];exact .inl ⟨e1,.inl (g2.at_ _ _ H1 s<|A03 h).1⟩
  .rw[A70<|B86 h];rw[<-h]at e2;exact .inl ⟨e1,.inr e2⟩
  .rw[Nat.min_eq_right<|A76 h];exact .inr ⟨(g1.at_ _ _ H1 s<|A03 h).1,e2⟩
theorem qJ{K:Da}(h:mV K H q vs)(t:aE K H ds vs):Gives K (GQ K q vs) (g0 H) ds:=
 ⟨λ i d H1 s hi=>by let⟨y,hy,dy⟩:=t.get hi;refine⟨⟨y,fS s h,hy⟩,λ y' J8=>?_⟩;have:=J8.2;rw[hy]at this;cases this;exact dy.ups s,λ H1 s=>⟨fS s h,t.length⟩⟩
theorem G0{K:Da}(h:P4 K H q vs)(t:aE K H ds vs):Gives K (NN K q vs) (g0 H) ds:=
 ⟨λ i d H1 s hi=>by let⟨y,hy,dy⟩:=t.get hi;refine⟨⟨y,(h.mono s).sq,hy⟩,λ y' J8=>?_⟩;have:=J8.2;rw[hy]at this;cases this;exact dy.ups s,λ H1 s=>⟨(h.mono s).sq,t.length⟩⟩
section
variable{X:Cx}{a b:ι}{pos p p2:Pos}{fa fb:Z.EF}{elts:γ ι}{x1:Nat}
theorem E?(I:Inv X χ σ H s):∀b∈[s.heap.objs.size+4,s.heap.objs.size+2,s.heap.objs.size+3,s.heap.objs.size,s.heap.objs.size+1],p! X χ H b:=λ b hb=>by
 have h:s.heap.objs.size<=b:=by simp only[A00,A40]at hb;lia
 exact I.vT h<|I.b9.fresh h
theorem EE(n:Nat):[n+4,n+2,n+3,n,n+1].Nodup:=by simp only[A17,A00,A40,B11,B37];lia
theorem _root_.ZQ.y6(hm:X.mg "zip"=At)(ha:ZQ.QE X a fa)(hb:ZQ.QE X b fb)(hs:starEach [a,b] X.env=[(AT,eval a X.env),(AT,eval b X.env)]:=by rfl)(yJ:starEach [b] X.env=[(AT,eval b X.env)]:=by rfl)(h1:Se a [b] X.env:=by rfl)(h2:Se b [] X.env:=by rfl)(hg:Gl X "zip":=by rfl):ZQ.QJ X (.Tuple elts x1 p2) (.Call (.Name "zip" p) [a,b] [] pos) (Z.J7 fa fb):=⟨by
 intro χ s σ H R I w;let⟨ρ,ds,r,e,k⟩:=w;let⟨d1,ea,e⟩:=XV e;let⟨d2,eb,e⟩:=XV e;let⟨xs,ex,e⟩:=XV e;let⟨ys,ey,e⟩:=XV e;cases e;refine Call_<|kM I hg hm (by kernel_rfl:bootBuiltins "zip"=AC (.type "zip"))<|B23 (cA ((bH ha.p (bH hb.p cP h2) h1) pos χ s σ H (λ vs H1=>∃v u,vs=[v,u]/\aJ H H1/\Den X.K H1 d1 v/\Den X.K H1 d2 u) I ⟨ρ,d1,r,ea,λ v H1 s1 q1=>⟨ρ,d2,r.up s1,eb,λ u H2 s2 q2=>⟨v,u,rfl,s1.trans s2,q1.up s2,q2⟩⟩⟩) ?_) (by rw[hs,yJ]) (by rw[yJ];rfl);rintro us s1 ⟨vs,H1,I1,r1,q1⟩;let⟨v,u,rfl,sm,_4,hd2⟩:=q1;let⟨u1,u2,rfl,ru1,Ur⟩:=vals2 r1;have _3:∃YV,d2=.tup YV/\YV=ys:=by
  cases d2 with
  |tup YV=>cases ey;exact⟨_,rfl,rfl⟩
  |non=>cases ey
  |bl _=>cases ey
  |int _=>cases ey
  |str _=>cases ey
  |lst _=>cases ey
  |dct _ _=>cases ey
 let⟨_,rfl,rfl⟩:=_3;let⟨q2,Xe,rfl,_t,t2⟩:=bR.tup (.inl hd2);cases Ur;let⟨iz,rv2,pt2,_⟩:=I1.tuple _t;cases d1 with
 |tup YW=>cases ex;let⟨q,vs,rfl,hq,t⟩:=bR.tup (.inl _4);cases ru1;let⟨bq,rv,pt,hz⟩:=I1.tuple hq;let⟨f1,f2,f3,f4,f5,f6⟩:=zu "tuple_iterator" "tuple_iterator" s1.heap q q2;refine callType_new F.called_zip ∅ (F.typeCall_zip_2 _ _) (F.newCall_zip_2 _ _) (λ obj=>F.args_object_init_3 obj _ _) F.entry_zip_new (AK q q2 bq.toArray iz.toArray) ⟨pt,pt2,⟨_,f1,rfl⟩,C18 f1 ?_⟩;exact⟨_,[s1.heap.objs.size+4,s1.heap.objs.size+2,s1.heap.objs.size+3,s1.heap.objs.size,s1.heap.objs.size+1],_,YR (GQ X.K q vs)<|GQ X.K q2 Xe,H1,rfl,I1.kept f6,zU sI sI<|EE _,⟨f1,f2,⟨_,_,f3⟩,⟨_,f4,rfl,rfl⟩,⟨_,f5,rfl,rfl⟩⟩,E? I1,k _ H1 sm<|EV (qJ hq t)<|qJ _t t2⟩
 |lst YW=>cases ex;simp only[Den]at _4;let⟨q,vs,rfl,hq,t⟩:=_4;cases ru1;let⟨bq,rv,pt,hz⟩:=I1.list hq.sq;let⟨f1,f2,f3,f4,f5,f6⟩:=zu "list_iterator" "tuple_iterator" s1.heap q q2;refine callType_new F.called_zip ∅ (F.typeCall_zip_2 _ _) (F.newCall_zip_2 _ _) (λ obj=>F.args_object_init_3 obj _ _) F.entry_zip_new (AL q q2 bq.toArray iz.toArray) ⟨pt.isList,pt2,⟨_,f1,rfl⟩,C18 f1 ?_⟩;exact⟨_,[s1.heap.objs.size+4,s1.heap.objs.size+2,s1.heap.objs.size+3,s1.heap.objs.size,s1.heap.objs.size+1],_,YR (NN X.K q vs)<|GQ X.K q2 Xe,H1,rfl,I1.kept f6,zU Eg sI<|EE _,⟨f1,f2,⟨_,_,f3⟩,⟨_,f4,rfl,rfl⟩,⟨_,f5,rfl,rfl⟩⟩,E? I1,k _ H1 sm<|EV (G0 hq t)<|qJ _t t2⟩
 |non=>cases ex
 |bl _=>cases ex
 |int _=>cases ex
 |str _=>cases ex
 |dct _ _=>cases ex⟩
end
end ZS
namespace ZQ
open L2 ZS
end ZQ
namespace Z
end Z
namespace ZS
open L2
end ZS
namespace ZQ
open L2 ZS
end ZQ
namespace Z
def IH:D->D->Res (γ D)
|.lst [d],.int n=>guard (0<=n/\n<=16777216)<|.ok<|List.replicate n.toNat d
|_,_=>.bad
theorem Cs(d:D)(n:Int):IH (.lst [d]) (.int n)=guard (0<=n/\n<=16777216) (.ok<|List.replicate n.toNat d):=rfl
theorem Mz(h:IH x y=.ok ds):∃d n,x=.lst [d]/\y=.int n/\0<=n/\n<=16777216/\ds=Do n.toNat d:=by
 unfold IH at h;split at h
 .let⟨⟨h1,h2⟩,e⟩:=b7 h;cases e;exact⟨_,_,rfl,rfl,h1,h2,rfl⟩
 .cases h
def Nv(a:LF)(b:EF)(ρ:Env):Res (γ D):=(a ρ).bind λ xs=>(b ρ).bind λ y=>IH (.lst xs) y
@[simp] theorem Z6(a:LF)(b:EF)(ρ:Env):Nv a b ρ=(a ρ).bind λ xs=>(b ρ).bind λ y=>IH (.lst xs) y:=rfl
end Z
namespace ZS
open L2
section
variable{X:Cx}
theorem uT{K:Da}(h:Den K H d w):∀n,aE K H (Do n d) (Do n w)
|0=>aE.nil
|n+1=>aE.cons h<|uT h n
theorem A!{w:V}:∀n,(Do n [w]).flatten=Do n w
|0=>rfl
|n+1=>by rw[A81,B25,A!];rfl
theorem _root_.ZQ.KU(ha:ZQ.QL X a la)(hb:ZQ.QW X b fb):ZQ.QL X (.BinOp a .Mult b pos) (Z.Nv la fb):=⟨PE.imp (Ex L2.QV ha.p hb.p) <|by
 rintro σ H Q ⟨ρ,ds,r,e,k⟩;let⟨xs,ea,e⟩:=XV e;let⟨y,eb,e⟩:=XV e;let⟨d,n,hx,rfl,h0,h1,rfl⟩:=Z.Mz e;cases hx;refine⟨ρ,[d],r,ea,λ l vs H1 s1 hn hv t=>⟨ρ,_,r.up s1,eb,λ u H2 s2 d2=>?_⟩⟩;simp only[aE]at t;let⟨w,r',rfl,dw,rfl⟩:=t;refine⟨l,n,[w],rfl,d2.int,s2 _ _ hv,by lia,by lia,?_,λ z hz=>?_⟩
 .rw[A23];simp;lia
 .rw[A!];have Up:=s1.trans s2;have s3:aJ H2 (upd H2 z<|.lst<|List.replicate n.toNat w):=cn hz;exact k z _ _ (Up.trans s3) (Up.free hz) aO<|uT ((dw.up s2).up s3) _⟩
end
end ZS
namespace ZQ
open L2 ZS
end ZQ
namespace Z
theorem rK(bs:γ Bool)(n:Nat)(b:SF)(ds:γ D)(h:ds.length=bs.length):A9 bs n b ds=bJ (b<|startB n bs ds):=by
 unfold A9;rw[M2 h];cases b _ with
 |bad=>rfl
 |ok f=>cases f<;>rfl
def kF:γ D->ε (γ<|γ Nat)
|[]=>AC []
|.str c::r=>(kF r).map (c::·)
|_::_=>At
def n?(sep:γ Nat):γ (γ Nat)->γ Nat
|[]=>[]
|[x]=>x
|x::y::r=>x++sep++n? sep (y::r)
def rB:D->D->Res D
|.str sep,.lst xs=>match kF xs with
 |some ts=>guard ((ts.map List.length).sum+ts.length*sep.length<=line)<|.ok<|.str<|n? sep ts
 |none=>.bad
|_,_=>.bad
theorem Jp(h:rB x y=.ok d):∃sep xs ts,x=.str sep/\y=.lst xs/\kF xs=AC ts/\(ts.map List.length).sum+ts.length*sep.length<=16777216/\d=.str (n? sep ts):=by
 unfold rB at h;split at h
 .split at h
  .rename_i hs;let⟨h1,e⟩:=b7 h;cases e;exact⟨_,_,_,rfl,rfl,hs,h1,rfl⟩
  .cases h
 .cases h
theorem tQ:∀ts,kF (ts.map D.str)=AC ts
|[]=>rfl
|t::ts=>by simp[kF,tQ ts]
theorem xk:∀ts,n? [] ts=ts.flatten
|[]=>rfl
|[x]=>by simp[n?]
|x::y::r=>by rw[n?,xk];simp
theorem wR{ts:γ _}(h:ts.flatten.length<=16777216):rB (.str []) (.lst<|ts.map D.str)=.ok (.str ts.flatten):=by show(match kF _ with|some ts=>guard _ _|none=>Res.bad)=_;rw[tQ];simp only[xk];rw[guard_pos];rw[List.length_flatten]at h;simpa using h
def wU:D->D->Res D
|.str t,.str [c]=>.ok<|.int<|t.count c
|_,_=>.bad
@[simp] theorem X5(t:γ Nat)(c:Nat):wU (.str t) (.str [c])=.ok (.int<|t.count c):=rfl
theorem Jq(h:wU x y=.ok d):∃t c,x=.str t/\y=.str [c]/\d=.int (t.count c):=by
 unfold wU at h;split at h
 .cases h;exact⟨_,_,rfl,rfl,rfl⟩
 .cases h
def A8(is:γ Nat)(d:D)(ρ:Env):Res Env:=match d with
|.tup ds=>iG is ds ρ
|.lst ds=>iG is ds ρ
|_=>.bad
theorem uD(is:γ Nat)(ds:γ D)(ρ:Env):A8 is (.lst ds) ρ=iG is ds ρ:=rfl
end Z
namespace ZS
open L2
def O2(K:Da)(H:Hp)(b:Bool)(d:Z.D)(v:V):Prop:=if b=Ch then jC K H d v else Den K H d v
def ju(K:Da)(H:Hp):γ Bool->γ Z.D->γ V->Prop
|[],[],vs=>vs=[]
|b::bs,d::ds,vs=>∃v r,vs=v::r/\O2 K H b d v/\ju K H bs ds r
|_,_,_=>False
theorem ju.length{K:Da}:∀{bs}{ds}{vs},ju K H bs ds vs->vs.length=ds.length/\ds.length=bs.length
|[],[],vs,h=>by have:=h;subst this;exact⟨rfl,rfl⟩
|[],_::_,_,h=>h.elim
|_::_,[],_,h=>h.elim
|b::bs,d::ds,_,⟨v,r,e1,h1,h2⟩=>by have:=ju.length h2;subst e1;simp[this.1,this.2]
theorem ju.get{K:Da}{H:Hp}:∀{bs}{ds}{vs}{i:Nat}{b}{d},ju K H bs ds vs->bs[i]?=AC b->ds[i]?=AC d->∃v,vs[i]?=AC v/\O2 K H b d v
|[],[],_,_,_,_,_,e,_=>by simp at e
|[],_::_,_,_,_,_,h,_,_=>h.elim
|_::_,[],_,_,_,_,h,_,_=>h.elim
|b::bs,d::ds,_,0,b',d',⟨v,r,e1,h1,h2⟩,eb,ed=>by simp at eb ed;subst e1;subst eb;subst ed;exact⟨v,rfl,h1⟩
|b::bs,d::ds,_,i+1,b',d',⟨v,r,e1,h1,h2⟩,eb,ed=>by subst e1;let⟨u,q1,q2⟩:=ju.get h2 (by simpa using eb) (by simpa using ed);exact⟨u,by simpa using q1,q2⟩
def Y0(K:Da)(bs:γ Bool)(f:Z.AF):TA:=λ σ H Q=>∃ρ ds,RE K H σ ρ/\f ρ=.ok ds/\∀vs H',aJ H H'->ju K H' bs ds vs->Q vs H'
abbrev YT(X:Cx)(es:γ ι)(bs:γ Bool)(f:Z.AF):Prop:=PA X es<|Y0 X.K bs f
structure _root_.ZQ.LW(X:Cx)(es:List Expr)(bs:List Bool)(f:Z.AF):Prop where p:YT X es bs f
theorem _root_.ZQ.bX:ZQ.LW X [] [] Z.aC:=⟨PA.imp cP <|by rintro σ H Q ⟨ρ,ds,r,e,k⟩;cases e;exact k [] H (aJ.refl H) rfl⟩
theorem _root_.ZQ.a8(ha:ZQ.QE X e f)(hr:ZQ.LW X es bs g)(hs:Se e es X.env:=by rfl):ZQ.LW X (e::es) (AT::bs) (Z.aa f g):=⟨PA.imp (bH ha.p hr.p hs) <|by rintro σ H Q ⟨ρ,ds,r,e,k⟩;let⟨x,ea,e⟩:=XV e;let⟨xs,eb,e⟩:=XV e;cases e;exact⟨ρ,x,r,ea,λ v H1 s1 d1=>⟨ρ,xs,r.up s1,eb,λ vs H2 s2 t=>k _ H2 (s1.trans s2) ⟨v,vs,rfl,Den.up d1 s2,t⟩⟩⟩⟩
def Cj(K:Da)(bs:γ Bool)(m:γ Z.D->Z.Res Z.D):Sp:=λ vs H Q _=>∃ds d,ju K H bs ds vs/\m ds=.ok d/\∀v H',aJ H H'->Den K H' d v->Q v H'
theorem K4(F:ee X.prog X.w X.K X.mg X.base iK k g fd ps (Cj X.K bs m))(hr:bG k X.A)(hg:Gl X x)(hm:X.mg x=AC (.ref g))(hk:FM X.K (.ref g)=Ch)(hb:Binds X.K fd ps [])
 (ha:YT X (e::es) bs ar) (gQ:(x==("__debug__"))=AT:=by decide +kernel) (he:Se e es X.env:=by rfl) (fQ:Pn pos es X.env:=by rfl) :
 DE X (.Call (.Name x p1) (e::es) [] pos) (Z.aD m ar):=
 PE.imp (yi F hr hg hm hk hb .nil t_ ha gQ he fQ) <|by rintro σ H Q ⟨ρ,d,r,e,k⟩;let⟨ds,ea,e⟩:=XV e;refine⟨ρ,ds,r,ea,λ vs H1 s1 d1=>?_⟩;show Cj X.K bs m _ H1 Q E0;rw[A52];exact⟨ds,d,d1,e,λ v H' s2 dv=>k v H' (s1.trans s2) dv⟩
section
variable{K:Da}
theorem CT(b:Bool)(d:Z.D)(xs:γ Z.D):Z.sh b d≠.own xs:=by unfold Z.sh;split<;>intro h<;>cases h
theorem CU(b:Bool)(d:Z.D)(ks:Z.DK):Z.sh b d≠.dc ks:=by unfold Z.sh;split<;>intro h<;>cases h
theorem ER(h:O2 K H b d v):RL K H (Z.sh b d) v:=by
 cases b with
 |false=>exact(h)
 |true=>
  have h':=h;have st:(∀ds,d≠.lst ds)->(∀ks vs,d≠.dct ks vs)->Den K H d v:=λ n1 n2=>by
   rcases h' with h|⟨a,kd,ks,ds,u,e1,_⟩
   .exact h.nO n1
   .exact absurd e1<|n2 _ _
  cases d with
  |lst xs=>exact h'
  |non=>exact st (λ _ z=>nomatch z) λ _ _ z=>nomatch z
  |bl _=>exact st (λ _ z=>nomatch z) λ _ _ z=>nomatch z
  |int _=>exact st (λ _ z=>nomatch z) λ _ _ z=>nomatch z
  |str _=>exact st (λ _ z=>nomatch z) λ _ _ z=>nomatch z
  |tup _=>exact st (λ _ z=>nomatch z) λ _ _ z=>nomatch z
  |dct _ _=>exact h'
theorem nP(t:ju K H bs ds vs)(hl:vs.length<=N.length):RS K H H (L2.start N vs) (Z.startB N.length bs ds):=by
 let⟨ψ,hbl⟩:=t.length;have hz:(ac (λ b d=>AC<|Z.sh b d) bs ds).length=ds.length:=by simp[hbl]
 have key:∀(i:Nat) l,(Z.startB N.length bs ds)[i]?=AC (AC l)->∃b d,l=Z.sh b d/\∃v,(L2.start N vs)[i]?=AC (AC v)/\O2 K H b d v:=by
  intro i l e;unfold Z.startB at e;by_cases hi:i<ds.length
  .rw[A35 (by rw[hz];exact hi)]at e;have sS:i<bs.length:=by lia
   rw[List.getElem?_zipWith,A03 sS,A03 hi]at e;simp only at e;cases e;let⟨v,h1,h2⟩:=t.get (A03 sS) (A03 hi);refine⟨_,_,rfl,v,?_,h2⟩;unfold L2.start;rw[A35 (by simp;lia),A08,h1];rfl
  .rw[A45 (by rw[hz];lia),A58]at e;split at e<;>cases e
 have AA:∀(i:Nat) xs,(Z.startB N.length bs ds)[i]?≠AC (AC<|.own xs):=λ i xs e=>by let⟨b,d,h,_⟩:=key i _ e;exact CT b d xs h.symm
 refine⟨aJ.refl H,⟨?_,λ i l e=>?_,λ i j xs ys q e1=>absurd e1<|AA i xs⟩,λ i xs q e1=>absurd e1<|AA i xs,λ i xs e1=>?_,ku.non λ i ks e=>by let⟨b,d,h,_⟩:=key i _ e;exact CU b d ks h.symm⟩
 .unfold Z.startB L2.start;rw[A30,A30,hz,A80,A06,A80,ψ]
 .let⟨b,d,rfl,v,h1,h2⟩:=key i l e;exact⟨v,h1,ER h2⟩
 .let⟨b,d,h,v,h1,h2⟩:=key i _ e1;have:=ER h2;rw[<-h]at this;exact⟨v,h1,jC.z this⟩
theorem Wk{st:θ}{f:δ}{fd:υ}{N ps:γ Str}{bs:γ Bool}{k:Nat}{b:Z.SF}(qf:bs.length=ps.length)(F:BJ K x qual st f fd)(S:aY N ps (aj st))
 (hb:∀ ba A outer s H E,bG k (A.deeper<|envOfC qual (aj st) s.heap.objs.size f ba) ->
  LY (dU iK P w K mg base N qual (aj st) f ba A outer s H E).gE H (aL st) b):ee P w K mg base iK (k+1) f fd ps (Cj K bs<|Z.A9 bs N.length b):=by
 have ψ:∀vs H Q E,Cj K bs (Z.A9 bs N.length b) vs H Q E->vs.length=ps.length:=by rintro vs H Q E ⟨ds,d,t,e,_⟩;have:=t.length;lia
 refine F.ok S ψ λ ba A outer s H vs Q E hr h=>⟨_,hb ba A outer s H E hr,?_⟩;have hl:=ψ vs H Q E h;let⟨ds,d,t,e,k⟩:=h;have fQ:ps.length<=N.length:=by have:=A15 List.length S.pre;rw[A24]at this;lia
 have rs:RS K H H (L2.start N vs) (Z.startB N.length bs ds):=nP t ∅;unfold Z.A9 at e;split at e
 .cases eb:b (Z.startB N.length bs ds)with
  |bad=>rw[eb]at e;cases e
  |ok fl=>
   rw[eb]at e;refine⟨_,fl,rs,eb,?_⟩;cases fl with
   |rt d'=>cases e;exact λ v H' s' dv=>k v H' s' dv
   |nx ρ'=>cases e;exact λ σ' H' _ Em=>k .non H' Em.same kY
   |bk ρ'=>cases e
   |ct ρ'=>cases e
 .cases e
structure BL(P:Program)(w:World)(K:Da)(mg:Str->Option Value)(base:Heap)(x:Str)(k:Nat)(ps:List Str)(bs:List Bool)(m:List Z.D->Z.Res Z.D):Prop where
 ex:∃g fd,ee P w K mg base iK k g fd ps (Cj K bs m)/\mg x=AC (.ref g)/\FM K (.ref g)=Ch/\Binds K fd ps []
theorem BL.mk'{st:θ}(qf:bs.length=ps.length)(d:Def K mg x st ps)(S:aY N ps (aj st))
 (hb:∀ f ba A outer s H E,bG k (A.deeper<|envOfC x (aj st) s.heap.objs.size f ba) ->
  LY (dU iK P w K mg base N x (aj st) f ba A outer s H E).gE H (aL st) b):BL P w K mg base x (k+1) ps bs (Z.A9 bs N.length b):=by
 let⟨f,fd,F,hm,sS⟩:=d.ex;exact⟨f,fd,Wk qf F S<|hb f,hm,F.kp,sS⟩
end
theorem _root_.ZQ.pX(C:BL X.prog X.w X.K X.mg X.base x k ps bs m)(hr:bG k X.A)(hg:Gl X x)
 (ha:ZQ.LW X (e::es) bs ar) (gQ:(x==("__debug__"))=AT:=by decide +kernel) (he:Se e es X.env:=by rfl) (fQ:Pn pos es X.env:=by rfl) :
 ZQ.QE X (.Call (.Name x p1) (e::es) [] pos) (Z.aD m ar):=
 ⟨let ⟨_,_,F,hm,hk,hb⟩:=C.ex;K4 F hr hg hm hk hb ha.p gQ he fQ⟩
end ZS
namespace ZQ
open L2 ZS
theorem Dy{K:Da}{st:θ}(qf:bs.length=ps.length)(d:ZS.Def K mg x st ps)(hb:∀{f}{ba}{A}{outer}{s}{H}{E},N.Nodup->(A.deeper<|envOfC x (aj st) s.heap.objs.size f ba).units+64<cLine->bG k (A.deeper<|envOfC x (aj st) s.heap.objs.size f ba)->BH (dU iK P w K mg base N x (aj st) f ba A outer s H E).gE H (aL st) b)(S:aY N ps (aj st):=by exact ZS.De):ZS.BL P w K mg base x (k+1) ps bs (Z.A9 bs N.length b):=ZS.BL.mk' qf d S λ f ba A outer s H E hr=>(hb S.nd hr.units hr).p
end ZQ
namespace ZS
open L2
theorem uO(qc:l≠it):∀n i s Q,s.heap.IsListIter it l i->s.heap.IsList l items->i+n<=items.size ->
 (∀h',h'.IsListIter it l (i+n)->IN it s.heap h'->Q ((items.toList.drop i).take n) {s with heap:=h'})->EQ (model prog w) A (draw (.ref it) n) Q E s
|0,i,s,Q,hit,_,_,hQ=>by exact P3 (by simpa using hQ _ hit (Heap.SameBut.refl ..))
|n+1,i,s,Q,hit,ht,hle,hQ=>by
 have kz:i<items.size:=by lia
 refine T0<|wpAny_pyNext_list_item hit ht (x:=items[i]) (by simp[kz]) λ h₁ RR VJ=>?_;refine T0<|A38<|uO qc n _ _ _ RR (ht.extBut VJ.extBut qc) ∅ λ h₂ _N hs₂=>P3 ?_;have hd:items.toList.drop i=items[i]::items.toList.drop (i+1):=by simp[A83,kz]
 have:=hQ h₂ (by rw[show i+(n+1)=i+1+n by lia];exact _N)<|VJ.trans hs₂;rw[hd,List.take_succ_cons]at this;exact this
theorem oX(hh:A.handled=At)(ht:s.heap.IsList t items)
 (hQ:∀h',ca s.heap.objs.size s.heap h'->Q items.toList {s with heap:=h'}):EQ (model prog w) A (unpackItems (.ref t) items.size At) Q E s:=by
 have kz:t≠s.heap.objs.size:=by let⟨o,ho,_⟩:=ht;exact A12<|A01 ho
 refine T0 ?_
 .skip
  refine T0<|wpAny_specialOf ht.typeIs slot_list_iter.lookup ?_;refine P3 ?_;simp only[A48,A59];refine T0<|A38<|A96 ht ?_;refine T0<|A38<|uO kz _ 0 _ _ ⟨_,A14 _ rfl,rfl,rfl⟩ (ht.push _) ∅ λ h₁ RR VJ=>?_;have hall:List.take items.size (List.drop 0 items.toList)=items.toList:=by rw[List.drop_zero];exact C20 ∅
  rw[hall];rw[W1 ∅];have ht₁:=(ht.push _).extBut VJ.extBut kz;refine T0<|A38<|wpAny_pyNext_list_end hh RR ht₁ ∅ λ h₂ he₂=>?_;simp only[Option.isSome_none,A48,A59];refine P3<|hQ h₂ λ b o hb e=>he₂ b o hb<|VJ.extBut b o hb<|v6 _ e
theorem oM(hh:A.handled=At)(ht:s.heap.IsList t items)
 (hn:(assignEach elts env).length=items.size) (VM:(assignEach elts env).findIdx? (·.1)=At)
 (h:∀h',ca s.heap.objs.size s.heap h'->EQ (model prog w) A (assignInOrder ((assignEach elts env).map (·.2)) items.toList) Q E {s with heap:=h'}) :
 EQ (model prog w) A (assign (.Tuple elts x1 pos) env<|.ref t) Q E s:=by
 rw[assign_Tuple];refine T0<|B33 ?_;unfold unpack;rw[hn,VM];exact T0<|A38<|oX hh ht h
def We(K:Da)(n:Nat)(t:SI):TG:=λ v σ H Q=>∃a xs,v=.ref a/\jw K H a xs/\xs.length=n/\t xs σ H Q
theorem Qx(hc:X.calm=Ch)(h:Lu X es t)
 (hn:(assignEach es X.env).length=n:=by rfl) (pG:(assignEach es X.env).findIdx? (·.1)=At:=by rfl):PG X (.Tuple es k pos) (We X.K n t):=by
 intro χ s σ H v u Q I r hw;let⟨a,xs,e1,hq,hl,hw⟩:=hw;subst e1;cases r;let⟨bq,rv,ht,hz⟩:=I.list hq;refine oM (I.ok.hd hc) ht.isList (by simp[hn,<-hl,rv.length]) pG λ h' hx=>?_;have I1:=I.kept (t':=s.toks) λ b o e=>hx b o (A12<|A01 e) e;exact h χ _ σ H xs _ Q I1 (by simpa using rv) hw
theorem uE:∀is ds ρ ρ',Z.iG is ds ρ=.ok ρ'->ds.length=is.length:=by
 intro is
 induction is with
 |nil=>intro ds ρ ρ' e;cases ds with
  |nil=>rfl
  |cons d ds=>cases e
 |cons i is ih=>intro ds ρ ρ' e;cases ds with
  |nil=>cases e
  |cons d ds=>simp[ih ds _ _ e]
theorem _root_.ZQ.Du(hc:X.calm=Ch)(h:ZQ.WZ X H0 es is)(hl:is.length=n)(hn:(assignEach es X.env).length=n:=by rfl)(pG:(assignEach es X.env).findIdx? (·.1)=At:=by rfl):ZQ.QG X H0 (.Tuple es x1 pos) (Z.A8 is):=⟨by
 have h:=h.p;intro χ s σ H v u Q I r hw;let⟨ρ,d,ρ',rs,hd,e,k⟩:=hw;unfold Z.A8 at e;split at e
 .rename_i ds;let⟨q,vs,rfl,hq,t⟩:=bR.tup (.inl hd);exact IZ hc h hn pG χ s σ H _ u Q I r ⟨q,vs,rfl,hq,by rw[t.length,uE is ds ρ ρ' e];exact hl,ρ,ds,ρ',rs,t,e,k⟩
 .rename_i ds;let⟨q,vs,rfl,hq,t⟩:=bR.lst (.inl hd);exact Qx hc h hn pG χ s σ H _ u Q I r ⟨q,vs,rfl,hq,by rw[t.length,uE is ds ρ ρ' e];exact hl,ρ,ds,ρ',rs,t,e,k⟩
 .cases e⟩
theorem zH:∀{ts}{bq},Vals (ts.map V.str) bq->∃l,strValues l=bq/\l.map (·.1)=ts
|[],bq,h=>by cases h;exact⟨[],rfl,rfl⟩
|t::ts,bq,h=>by
 cases h with
 |cons r rr=>let⟨tk,rfl⟩:=r;let⟨l,rfl,h2⟩:=zH rr;exact⟨(t,tk)::l,rfl,by rw[<-h2];rfl⟩
def rJoin(K:Da):V->γ V->Hp->VK->Prop:=λ x vs H Q=>∃sep q ts,x=.str sep/\vs=[.ref q]/\jw K H q (ts.map V.str)/\JoinOk sep ts=Ch/\Q (.str<|Txt.join sep ts) H
theorem Nb:W5 X "str.join" (rJoin X.K):=by intro χ s σ H x vs v us Q I rx rv h;let⟨sep,q,ts,rfl,rfl,hq,b9,k⟩:=h;let⟨t,rfl⟩:=rx;let⟨u,rfl,ru⟩:=rv.one;cases ru;let⟨bq,r,pl,hz⟩:=I.list hq;let⟨l,rfl,hl⟩:=zH r;exact SC.join pl.isList hl b9 λ t' c=>⟨.str _,H,I.tok c,⟨t',rfl⟩,k⟩
def se(cs:γ Nat):Str:=⟨cs.toArray⟩
theorem uS{K:Fa}:∀{xs}{ts}{vs},Z.kF xs=AC ts->aE K H xs vs->vs=(ts.map se).map V.str
|[],ts,vs,e,h=>by cases e;simp only[aE]at h;subst h;rfl
|x::xs,ts,vs,e,h=>by
 cases x with
 |str c=>
  have e':(Z.kF xs).map _=AC ts:=e;cases q:Z.kF xs with
  |none=>rw[q]at e';cases e'
  |some Qg=>rw[q]at e';cases e';simp only[aE]at h;let⟨v,r,rfl,hv,ht⟩:=h;simp only[Den]at hv;rw[hv,uS q ht];rfl
 |non=>cases e
 |bl _=>cases e
 |int _=>cases e
 |tup _=>cases e
 |lst _=>cases e
 |dct _ _=>cases e
theorem EJ(cs:γ Nat):(se cs).length=cs.length:=by simp[se,Str.length]
theorem EK(a b:γ Nat):se a++se b=se (a++b):=by show(⟨a.toArray++b.toArray⟩:Str)=_;simp[se]
theorem ND(sep:γ Nat):∀ts,Txt.join (se sep) (ts.map se)=se (Z.n? sep ts):=by
 intro ts;show Builtin.Str.glued _ _=_;rw[StrLaws.glued_eq_join]
 induction ts with
 |nil=>rfl
 |cons x ts ih=>
  cases ts with
  |nil=>rfl
  |cons y r=>show se x++se sep++Str.join _ _=_;rw[ih,EK,EK];rfl
theorem NC{ts:γ _}(h:(ts.map List.length).sum+ts.length*sep.length<=16777216):JoinOk (se sep) (ts.map se)=Ch:=by
 unfold JoinOk;rw[StrLaws.joinTotal];have e:(ts.map se).map (·.length)=ts.map List.length:=by rw[A20];exact B08 λ x _=>EJ x
 rw[e,A06,EJ];simp only[Builtin.Str.tooLong,B68,decide_eq_false_iff_not,A85];rw[A23];exact h
theorem _root_.ZQ.Fi(ho:ZQ.QE X o fa)(hb:ZQ.QW X b fb)
 (jf:attributeBase o "join" X.env (eval o X.env)=eval o X.env:=by rfl)
 (n!:((backTo p2<|starEach (b::[]) X.env).all (λ x=>!x.1)&&(backToKw p2<|keywordEach [] X.env).all (λ x=>x.1.isSome)
  && decide ((b::[]).length+([]:γ π).length+(if([]:γ π).isEmpty then 0 else 1)<30))=Ch:=by rfl)
 (je:(p1.endLine==p2.line)=Ch:=by rfl) (qb:Se b [] X.env:=by rfl) (jd:Pn p2 [] X.env:=by rfl) :
 ZQ.QE X (.Call (.Attribute o "join" p1) [b] [] p2) (Z.eB Z.rB fa fb):=
 ⟨PE.imp (Aj C54 PySem.F.slot_str_join PySem.F.type_str_join Nb ho.p (bH hb.p cP qb) jf n! je qb jd) <|by rintro σ H Q ⟨ρ,d,r,e,k⟩;let⟨x,ea,e⟩:=XV e;let⟨y,eb,e⟩:=XV e;let⟨sep,xs,ts,rfl,rfl,et,hl,rfl⟩:=Z.Jp e;refine⟨ρ,_,r,ea,λ v H1 s1 d1=>?_⟩;simp only[Den]at d1;subst d1;refine⟨rfl,ρ,_,r.up s1,eb,λ u H2 s2 d2=>?_⟩;let⟨q,vs,rfl,hq,t⟩:=d2.lst;rw[uS et t]at hq;refine⟨se sep,q,ts.map se,rfl,rfl,hq,NC hl,?_⟩;rw[ND];exact k _ H2 (s1.trans s2) kX⟩
theorem MZ(x:Str)(c:Nat)(lim:Nat):∀n lo st,st.2<=lo->st.1.size+n<=lim->lo+n=x.length+1 ->
 (forIn (List.range' lo n) st<|StrLaws.occBody x ⟨#[c]⟩ x.length lim).run.fst.size=st.1.size+(x.cps.toList.drop lo).count c:=by
 intro n
 induction n with
 |zero=>intro lo st h1 h2 h3;have:x.cps.toList.drop lo=[]:=B38 (by simp;show x.length<=lo;lia);simp[this]
 |succ n ih=>
  intro lo st h1 h2 h3;rw[List.range'_succ,B32];by_cases _F:lo<x.length
  .have RQ:lo<x.cps.toList.length:=by rw[B47];exact _F
   have NP:TD x ⟨#[c]⟩ lo=decide (x.cps.toList[lo]=c):=by
    have so:=StrLaws.subAt_one x c lo;rw[A53,B14];constructor
    .intro h;have:=so.mp ⟨by show lo+1<=x.length;lia,h⟩;rw[A03 RQ]at this;exact A04 this
    .intro h;exact(so.mpr (by rw[A03 RQ,h])).2
   rw[A83 RQ];by_cases hc:x.cps.toList[lo]=c
   .have A2:((st.1.size<lim/\st.2<=lo)/\lo+(⟨#[c]⟩:Str).length<=x.length)/\TD x ⟨#[c]⟩ lo=Ch:=⟨⟨⟨by lia,h1⟩,by show lo+1<=x.length;lia⟩,by rw[NP];simp[hc]⟩
    have e:Op x ⟨#[c]⟩ x.length lim lo st=pure (GT (st.1.push lo,lo+1)):=by unfold Op;rw[M2 A2];rfl
    rw[e];have:=ih (lo+1) (st.1.push lo,lo+1) (v4 _) (by simp;lia) ∅;simp only[pure_bind];rw[this,hc,List.count_cons_self];simp only[Array.size_push];lia
   .have A2:¬(((st.1.size<lim/\st.2<=lo)/\lo+(⟨#[c]⟩:Str).length<=x.length)/\TD x ⟨#[c]⟩ lo=Ch):=λ z=>by rw[NP]at z;exact hc<|B30 z.2
    have e:Op x ⟨#[c]⟩ x.length lim lo st=pure (GT (st.1,st.2)):=by unfold Op;rw[W1 A2]
    rw[e];have:=ih (lo+1) (st.1,st.2) (by simp;lia) (by simp;lia) ∅;simp only[pure_bind];rw[this,List.count_cons_of_ne hc]
  .have A2:¬(((st.1.size<lim/\st.2<=lo)/\lo+(⟨#[c]⟩:Str).length<=x.length)/\TD x ⟨#[c]⟩ lo=Ch):=λ z=>_F (by have:=z.1.2;change lo+1<=x.length at this;lia);have e:Op x ⟨#[c]⟩ x.length lim lo st=pure (GT (st.1,st.2)):=by unfold Op;rw[W1 A2]
   rw[e];have:=ih (lo+1) (st.1,st.2) (by simp;lia) (by simp;lia) ∅;simp only[pure_bind];rw[this];have h5:x.cps.toList.drop lo=[]:=B38 (by simp;show x.length<=lo;lia);have h6:x.cps.toList.drop (lo+1)=[]:=B38 (by simp;show x.length<=lo+1;lia);rw[h5,h6]
theorem Gj(t:γ Nat)(c:Nat):(Sc (se t) ⟨#[c]⟩ 0 (se t).length<|(se t).length+1).length=t.count c:=by rw[StrLaws.occ_eq];have:=MZ (se t) c ((se t).length+1) ((se t).length+1) 0 (#[],0) (v4 _) ∅ ∅;simpa[se]using this
def UA:V->γ V->Hp->VK->Prop:=λ x vs H Q=>∃t c,x=.str (se t)/\vs=[.str ⟨#[c]⟩]/\Q (.int ((t.count c:Nat):Int)) H
theorem Nc:W5 X "str.count" UA:=by intro χ s σ H x vs v us Q I rx rv h;let⟨t,c,rfl,rfl,k⟩:=h;let⟨tk,rfl⟩:=rx;let⟨u,rfl,ru⟩:=rv.one;let⟨tk2,rfl⟩:=ru;refine call_gives F.slot_str_count (typeIs_str _ _ _) F.entry_str_count (F.args_str_count_2 _ _) (gives_str_count _ _ tk tk2) ?_;rw[Gj];exact⟨.int _,H,I.tok _,⟨_,rfl⟩,k⟩
theorem _root_.ZQ.Ow(ho:ZQ.QW X o fa)(hb:ZQ.QW X b fb)
 (jf:attributeBase o "count" X.env (eval o X.env)=eval o X.env:=by rfl)
 (n!:((backTo p2<|starEach (b::[]) X.env).all (λ x=>!x.1)&&(backToKw p2<|keywordEach [] X.env).all (λ x=>x.1.isSome)
  && decide ((b::[]).length+([]:γ π).length+(if([]:γ π).isEmpty then 0 else 1)<30))=Ch:=by rfl)
 (je:(p1.endLine==p2.line)=Ch:=by rfl) (qb:Se b [] X.env:=by rfl) (jd:Pn p2 [] X.env:=by rfl) :
 ZQ.QE X (.Call (.Attribute o "count" p1) [b] [] p2) (Z.eB Z.wU fa fb):=
 ⟨PE.imp (Aj C54 PySem.F.slot_str_count PySem.F.type_str_count Nc ho.p (bH hb.p cP qb) jf n! je qb jd) <|by rintro σ H Q ⟨ρ,d,r,e,k⟩;let⟨x,ea,e⟩:=XV e;let⟨y,eb,e⟩:=XV e;let⟨t,c,rfl,rfl,rfl⟩:=Z.Jq e;refine⟨ρ,_,r,ea,λ v H1 s1 d1=>?_⟩;have d1':=d1.str;subst d1';refine⟨rfl,ρ,_,r.up s1,eb,λ u H2 s2 d2=>?_⟩;have d2':=d2.str;subst d2';exact⟨t,c,rfl,rfl,k _ H2 (s1.trans s2) c_⟩⟩
end ZS
namespace ZQ
open L2 ZS
end ZQ
namespace ZS
open L2
section
variable{e st:ι}
end
end ZS
namespace ZQ
open L2 ZS
end ZQ
namespace Z
def lU(_:Env):Res Fl:=.bad
@[simp] theorem Zp(ρ:Env):lU ρ=.bad:=rfl
def EC:D->D->Res D
|.tup [d],.int n=>guard (0<=n/\n<=1000000)<|.ok<|.tup<|List.replicate n.toNat d
|_,_=>.bad
theorem Jn(h:EC x y=.ok d):∃e n,x=.tup [e]/\y=.int n/\0<=n/\n<=1000000/\d=.tup (Do n.toNat e):=by
 unfold EC at h;split at h
 .let⟨⟨h0,h1⟩,e⟩:=b7 h;cases e;exact⟨_,_,rfl,rfl,h0,h1,rfl⟩
 .cases h
end Z
namespace ZS
open L2
theorem _root_.ZQ.hX{st:θ}:ZQ.QS X H0 st Z.lU:=⟨by rintro _ _ _ _ _ _ ⟨_,_,_,e,_⟩;exact nomatch e⟩
theorem _root_.ZQ.Oi:ZQ.BH X H0 zm Z.lU:=⟨by rintro _ _ _ _ _ _ ⟨_,_,_,e,_⟩;exact nomatch e⟩
theorem Ss{K:Da}(C:ib P w K mg base x k ps m)(hm:∀ds d,m ds≠.ok d:=by intro ds d h;unfold Z.fn at h;split at h<;>cases h):ib P w K mg base x k ps (λ _=>.bad):=by
 let⟨g,fd,F,h⟩:=C.ex;have:zo K m=zo K λ _=>.bad:=by
  funext vs H Q E
  refine propext ⟨by rintro⟨ds,d,_,e,_⟩;exact absurd e<|hm ds d,by rintro⟨ds,d,_,e,_⟩;exact nomatch e⟩
 rw[this]at F;exact⟨g,fd,F,h⟩
structure O1(K:Da)(x qual:Str)(st:Stmt)(f:Addr)(fd:FuncData):Prop where
 ex:∃(oc:Value)(od:Option Addr)(dV kV doc pm:Value)(an:Option Addr)(ba ct:Value)(uc:Array (Option Value)),
  fd=NE x qual (bA st) (aL st) (aj st) dV kV doc pm an ba ct/\K.lookup f=AC ⟨oc,od,.func fd,uc⟩/\On K ba qual=Ch
 kp:FM K (.ref f)=Ch
section
variable{K:Da}
theorem O1.ok{st:θ}(F:O1 K x qual st f fd)(S:aY N ps (aj st))(len:∀vs H Q E,sp vs H Q E->vs.length=ps.length)
 (A3:∀ ba A outer s H vs Q E,bG k (A.deeper<|envOfC qual (aj st) s.heap.objs.size f ba)->sp vs H Q E ->
  ∃t,qZ (dU iK P w K mg base N qual (aj st) f ba A outer s H E).gE (aL st) t/\t {nx:=λ _ H'=>Q .non H',rt:=Q} (start N vs) H):ee P w K mg base iK (k+1) f fd ps sp:=by
 let⟨oc,od,dV,kV,doc,pm,an,ba,ct,uc,rfl,lk,nH⟩:=F.ex;refine uH lk nH S len λ A outer s H vs Q E hr BO=>?_;let⟨t,h,q⟩:=A3 ba A outer s H vs Q E hr BO;exact⟨t,h.gE,q⟩
theorem aao{st:θ}(F:O1 K x qual st f fd)(S:aY N ps (aj st))
 (hb:∀ ba A outer s H E,bG k (A.deeper<|envOfC qual (aj st) s.heap.objs.size f ba) ->
  LY (dU iK P w K mg base N qual (aj st) f ba A outer s H E).gE H (aL st) b):ee P w K mg base iK (k+1) f fd ps (zo K<|Z.fn ps.length N.length b):=by
 have ψ:∀vs H Q E,zo K (Z.fn ps.length N.length b) vs H Q E->vs.length=ps.length:=by
  rintro vs H Q E ⟨ds,d,t,e,_⟩;unfold Z.fn at e;split at e
  .rename_i h;rw[t.length];exact h
  .cases e
 refine F.ok S ψ λ ba A outer s H vs Q E hr h=>⟨_,hb ba A outer s H E hr,?_⟩;have hl:=ψ vs H Q E h;let⟨ds,d,t,e,k⟩:=h;have fQ:ps.length<=N.length:=by have:=A15 List.length S.pre;rw[A24]at this;lia
 have rs:RS K H H (L2.start N vs) (Z.start N.length ds):=mD t ∅;unfold Z.fn at e;split at e
 .cases eb:b (Z.start N.length ds)with
  |bad=>rw[eb]at e;cases e
  |ok fl=>
   rw[eb]at e;refine⟨_,fl,rs,eb,?_⟩;cases fl with
   |rt d'=>cases e;exact λ v H' s' dv=>k v H' s' dv
   |nx ρ'=>cases e;exact λ σ' H' _ Em=>k .non H' Em.same kY
   |bk ρ'=>cases e
   |ct ρ'=>cases e
 .cases e
structure Hu(K:Da)(mg:Str->Option Value)(x:Str)(st:Stmt)(ps:List Str):Prop where
 ex:∃f fd,O1 K x x st f fd/\mg x=AC (.ref f)/\Binds K fd ps []/\Binds K fd ps [.none]
structure wq(P:Program)(w:World)(K:Da)(mg:Str->Option Value)(base:Heap)(x:Str)(k:Nat)(ps:List Str)(m:List Z.D->Z.Res Z.D):Prop where
 ex:∃g fd,ee P w K mg base iK k g fd ps (zo K m)/\mg x=AC (.ref g)/\FM K (.ref g)=Ch/\Binds K fd ps []/\Binds K fd ps [.none]
theorem wq.full(C:wq P w K mg base x k ps m):ib P w K mg base x k ps m:=
 let ⟨g,fd,h1,h2,h3,h4,_⟩:=C.ex;⟨g,fd,h1,h2,h3,h4⟩
theorem wq.mk'{st:θ}(d:Hu K mg x st ps)(S:aY N ps (aj st))
 (hb:∀ f ba A outer s H E,bG k (A.deeper<|envOfC x (aj st) s.heap.objs.size f ba) ->
  LY (dU iK P w K mg base N x (aj st) f ba A outer s H E).gE H (aL st) b):wq P w K mg base x (k+1) ps (Z.fn ps.length N.length b):=by
 let⟨f,fd,F,hm,sS,Yr⟩:=d.ex;exact⟨f,fd,aao F S<|hb f,hm,F.kp,sS,Yr⟩
theorem Om{st:θ}{ps:γ Str}{f t:δ}{oc:ζ}{od an:ε δ}{uc:Array (ε ζ)}{kV doc pm ba ct tc:ζ}{td:ε δ}{tn:Nat}{tsl:Array (ε ζ)}
 (l:K.lookup f=AC ⟨oc,od,.func<|PySem.W.fnOf x x (bA st) (aL st) (aj st) (.ref t) kV doc pm an ba ct,uc⟩)
 (c:On K ba x=Ch) (k:FM K (.ref f)=Ch) (lt:K.lookup t=AC ⟨tc,td,.seq #[.none] tn,tsl⟩) (hm:mg x=AC (.ref f))
 (h1:∀us,us.length=ps.length->∃kk,bindArgs (NE x x (bA st) (aL st) (aj st) (.ref t) kV doc pm an ba ct) ⟨us,[]⟩=seqItems? (.ref t)>>=kk/\kk (AC #[.none])=pure (ps.zip us))
 (h2:∀us,us.length+1=ps.length->∃kk,bindArgs (NE x x (bA st) (aL st) (aj st) (.ref t) kV doc pm an ba ct) ⟨us,[]⟩=seqItems? (.ref t)>>=kk/\kk (AC #[.none])=pure (ps.zip<|us++[.none])):Hu K mg x st ps:=by
 refine⟨f,_,⟨⟨oc,od,.ref t,kV,doc,pm,an,ba,ct,uc,rfl,l,c⟩,k⟩,hm,λ s us hK hl=>?_,λ s us hK hl=>?_⟩
 .rw[A52]at hl ⊢;let⟨kk,e1,e2⟩:=h1 us hl;exact BindsTo.of_defaults (T:=t) (items:=#[.none]) rfl (hK t _ lt) rfl e1 e2
 .let⟨kk,e1,e2⟩:=h2 us (by simpa using hl);exact BindsTo.of_defaults (T:=t) (items:=#[.none]) rfl (hK t _ lt) rfl e1 e2
end
end ZS
namespace ZQ
open L2 ZS
theorem zc{K:Da}{st:θ}(d:ZS.Hu K mg x st ps)(hb:∀{f}{ba}{A}{outer}{s}{H}{E},N.Nodup->(A.deeper<|envOfC x (aj st) s.heap.objs.size f ba).units+64<cLine->bG k (A.deeper<|envOfC x (aj st) s.heap.objs.size f ba)->BH (dU iK P w K mg base N x (aj st) f ba A outer s H E).gE H (aL st) b)(S:aY N ps (aj st):=by exact ZS.De):ZS.wq P w K mg base x (k+1) ps (Z.fn ps.length N.length b):=ZS.wq.mk' d S λ f ba A outer s H E hr=>(hb S.nd hr.units hr).p
end ZQ
namespace PySem
open PySem.Sem (wp)
open Builtin
theorem qD:fillsNumberSlot (.type "tuple") "mul"=pure AT:=
 fillsNumberSlot_seq B39.lookup (by decide +kernel) F.slot_tuple_rmul.lookup (by decide +kernel)
theorem ye:seqRepeat? (.type "tuple")=pure (AC<|.builtin "tuple.__mul__"):=by unfold seqRepeat?;rw[seqSlot_of (name:="__mul__") B39.lookup (by decide +kernel),seqSlot_of (name:="__rmul__") F.slot_tuple_rmul.lookup (by decide +kernel)];rfl
theorem kO(a:Int)(t:Tok)(l:δ)(items:Array ζ)(n:Nat)(dd:ε δ)(sl:Array _):
 Meets (Builtin.«int.__rmul__» ⟨[.int a t,.ref l],[]⟩) (λ _ R s=>s.heap.get? l=AC {cls:=.type "tuple",dict:=dd,data:=.seq items n,slots:=sl}/\R (.ok<|.ret Value.notImplemented) s):=
 .of_wp λ prog w A R s h=>by let⟨hp,g,d,tk,os⟩:=s;let⟨hl,h⟩:=h;wp_walk;exact⟨_,rfl,h⟩
theorem rY(a:Int)(t:Tok)(l:δ)(x:ζ)(n:Nat)(dd:ε δ)(sl:Array _)(h0:a=0):
 Meets (Builtin.«tuple.__mul__» ⟨[.ref l,.int a t],[]⟩) (λ _ R s=>s.heap.get? l=AC {cls:=.type "tuple",dict:=dd,data:=.seq #[x] n,slots:=sl}/\R (.ok<|.ret<|.ref s.heap.objs.size) {s with heap:=s.heap.push {cls:=.type "tuple",data:=.seq #[]}}):=
 .of_wp λ prog w A R s h=>by
  let⟨hp,g,d,tk,os⟩:=s;let⟨hl,h⟩:=h;subst h0
  wp_walk
  exact⟨_,rfl,h⟩
theorem rX(a:Int)(t:Tok)(l:δ)(x:ζ)(n:Nat)(dd:ε δ)(sl:Array _)(h0:a=1):
 Meets (Builtin.«tuple.__mul__» ⟨[.ref l,.int a t],[]⟩) (λ _ R s=>s.heap.get? l=AC {cls:=.type "tuple",dict:=dd,data:=.seq #[x] n,slots:=sl}/\R (.ok<|.ret<|.ref l) s):=
 .of_wp λ prog w A R s h=>by
  let⟨hp,g,d,tk,os⟩:=s;let⟨hl,h⟩:=h;subst h0
  wp_walk
  exact⟨_,rfl,h⟩
theorem rW(a:Int)(t:Tok)(l:δ)(x:ζ)(n:Nat)(dd:ε δ)(sl:Array _)(h1:¬(decide (a < -(2^63))||decide (a≥2^63))=Ch)(h2:¬((#[x]).isEmpty||a==1)=Ch)(h3:¬(decide (a<=0)||(#[x]).isEmpty)=Ch)(h4:¬((#[x]).size)*a>(2^63-1) / 8)(h5:¬Tuple.tupleTooMany (((#[x]).size)*a)=Ch)(h6:((Do a.toNat #[x]).foldl (·++·) #[]).size<=sizeLine):
 Meets (Builtin.«tuple.__mul__» ⟨[.ref l,.int a t],[]⟩) (λ _ R s=>s.heap.get? l=AC {cls:=.type "tuple",dict:=dd,data:=.seq #[x] n,slots:=sl}/\R (.ok<|.ret<|.ref s.heap.objs.size) {s with heap:=s.heap.push {cls:=.type "tuple",data:=.seq ((Do a.toNat #[x]).foldl (·++·) #[])}}):=
 .of_wp λ prog w A R s h=>by
  let⟨hp,g,d,tk,os⟩:=s;let⟨hl,h⟩:=h
  wp_walk
  refine B40 (by simpa using h1) ?_
  wp_walk
  refine B40 (by simpa using h2) ?_
  wp_walk
  refine B40 (by simpa using h3) ?_
  wp_walk
  refine B40 (A28 h4) ?_
  wp_walk
  refine B40 (by simpa using h5) ?_
  wp_walk
  exact⟨_,rfl,h⟩
end PySem
namespace ZS
open L2
def Uw(K:Da):R2:=λ x y H Q=>∃l k w,x=.ref l/\y=.int k/\mV K H l [w]/\0<=k/\k<=1000000/\(k=1->Q (.ref l) H)/\(k≠1->∀p,H p=At->Q (.ref p) (upd H p<|.tup<|List.replicate k.toNat w))
theorem xl(v:ζ):∀k acc,AC1 (λ x1 x2=>x1++x2) acc (Do k #[v])=acc++(Do k v).toArray
|0,acc=>by simp
|k+1,acc=>by rw[A81,AB4,xl,A81];apply Array.toList_inj.mp;simp
theorem wD(r:RelV w u):∀k,Vals (Do k w) (Do k u)
|0=>.nil
|k+1=>.cons r<|wD r k
theorem MO:jQ X (binaryOp .Mult) (Uw X.K):=by
 intro χ s σ H x y v u Q I rx ry h;let⟨l,k,w,rfl,rfl,hq,h0,h1,q1,q2⟩:=h;cases rx;let⟨t,rfl⟩:=ry;let⟨bq,r,ht,hz⟩:=I.tuple hq;let⟨x,rfl,rx⟩:=vals1 r;let⟨⟨cls,dd,data,sl⟩,ho,hc,n,hd⟩:=id ht;simp only at hc hd;subst hc hd;have e:=ho;refine C47 ∅ ⟨_,e,rfl⟩ (λ s'=>B24 s' k t) qD F.fills_int_mul B54 ye F.slot_int_index.lookup
 <|A72 B54 (B24 s k t) F.entry_int_rmul (F.args_int_rmul_2 _ _) (kO k t l #[x] n dd sl) ⟨e,rfl,⟨_,e,rfl⟩,?_⟩
 by_cases Pu:k=1
 .exact A72 B39 ⟨_,e,rfl⟩ C21 (C22 _ _) (rX k t l x n dd sl Pu) ⟨e,⟨.ref l,H,I,rfl,q1 Pu⟩⟩
 .by_cases hk0:k=0
  .refine A72 B39 ⟨_,e,rfl⟩ C21 (C22 _ _) (rY k t l x n dd sl hk0) ⟨e,?_⟩;have q:=q2 Pu _<|I.b9.fresh<|v4 s.heap.objs.size;rw[hk0]at q;refine⟨.ref _,_,I.laid (λ b ob z=>v6 _ z) (v4 _) ?_,rfl,q⟩;exact⟨A51 _,[],.nil,p9.new _ _⟩
  .skip
   have hf:=xl x k.toNat #[];rw[Array.empty_append]at hf;have hs:(1000000)<=sizeLine:=by decide
   refine A72 B39 ⟨_,e,rfl⟩ C21 (C22 _ _) (rW k t l x n dd sl ?_ ?_ ?_ ?_ ?_ ?_) ⟨e,?_⟩
   .simp;lia
   .simp;lia
   .simp;lia
   .show ¬((1))*k>(2^63-1) / 8;lia
   .show ¬(decide<|((1))*k>(sizeLine))=Ch;rw[B14];have:=Int.ofNat_le.mpr hs;generalize (sizeLine)=z at this ⊢;lia
   .rw[hf,A10,A80];lia
   .rw[hf];refine⟨.ref _,_,I.laid (λ b ob z=>v6 _ z) (v4 _) ?_,rfl,q2 Pu _<|I.b9.fresh<|v4 _⟩;exact⟨by rw[A80];lia,_,wD rx k.toNat,p9.new _ _⟩
theorem _root_.ZQ.Oo(ha:ZQ.QW X a fa)(hb:ZQ.QW X b fb):ZQ.QE X (.BinOp a .Mult b pos) (Z.eB Z.EC fa fb):=⟨PE.imp (Ex MO ha.p hb.p) <|by
 rintro σ H Q ⟨ρ,d,r,e,k⟩;let⟨x,ea,e⟩:=XV e;let⟨y,eb,e⟩:=XV e;let⟨d0,n,rfl,rfl,h0,h1,rfl⟩:=Z.Jn e;refine⟨ρ,_,r,ea,λ v H1 s1 d1=>⟨ρ,_,r.up s1,eb,λ u H2 s2 d2=>?_⟩⟩;let⟨q,vs,rfl,hq,t⟩:=d1.tup;simp only[aE]at t;let⟨w,r',rfl,dw,rfl⟩:=t;refine⟨q,n,w,rfl,d2.int,?_,h0,h1,λ hn=>?_,λ hn p hp=>?_⟩
 .exact fS (ky s2) hq
 .subst hn;exact k _ H2 (s1.trans s2)<|fL (fS (ky s2) hq)<|aE.cons (dw.up s2) aE.nil
 .have s3:aJ H2 (upd H2 p<|.tup<|List.replicate n.toNat w):=cn hp;exact k _ _ ((s1.trans s2).trans s3)<|fL (mV.of aO)<|uT ((dw.up s2).up s3) _⟩
end ZS
namespace ZQ
open L2 ZS
end ZQ
namespace Z
end Z
namespace ZS
open L2
end ZS
namespace ZQ
open L2 ZS
end ZQ
namespace Z
end Z
namespace ZS
open L2
end ZS
namespace ZQ
open L2 ZS
end ZQ
namespace PySem
namespace F
end F
end PySem
namespace Z
end Z
namespace PySem
section
variable{prog:ο}{w:ξ}{A:ς}{s:η}{R:Result->η->Prop}
variable{I:δ}{fp wr:γ δ}{G:Array GenState->Array GenState->Prop}{n:Nat}{P:Nat->ζ->Prop}{St:Nat->η->Prop}
end
end PySem
namespace ZS
open L2
section
variable{X:Cx}{a:ι}{pos p p1 p2:Pos}{fa:Z.EF}
end
end ZS
namespace ZQ
open L2 ZS
end ZQ
namespace Z
end Z
namespace ZS
open L2
theorem HX{α:Type}{P:γ α->Prop}(h:P []):∀us:γ α,us.length=0->P us:=λ us e=>B55 e▸h
theorem lK{α:Type}{P:γ α->Prop}{n:Nat}(h:∀a (us:γ α),us.length=n->P (a::us)):∀us:γ α,us.length=n+1->P us:=by
 intro us e;cases us with
 |nil=>cases e
 |cons a t=>exact h a t<|Nat.succ.inj e
theorem bd1{ps:γ Str}(h:∀a0,bindArgs fd ⟨[a0],[]⟩=pure (ps.zip [a0])):∀us,us.length=1->bindArgs fd ⟨us,[]⟩=pure (ps.zip us):=lK λ a0=>HX<|h a0
theorem YE{ps:γ Str}(h:∀a0 a1,bindArgs fd ⟨[a0,a1],[]⟩=pure (ps.zip [a0,a1])):∀us,us.length=2->bindArgs fd ⟨us,[]⟩=pure (ps.zip us):=lK λ a0=>lK λ a1=>HX<|h a0 a1
theorem bd3{ps:γ Str}(h:∀a0 a1 a2,bindArgs fd ⟨[a0,a1,a2],[]⟩=pure (ps.zip [a0,a1,a2])):∀us,us.length=3->bindArgs fd ⟨us,[]⟩=pure (ps.zip us):=lK λ a0=>lK λ a1=>lK λ a2=>HX<|h a0 a1 a2
theorem bd4{ps:γ Str}(h:∀a0 a1 a2 a3,bindArgs fd ⟨[a0,a1,a2,a3],[]⟩=pure (ps.zip [a0,a1,a2,a3])):∀us,us.length=4->bindArgs fd ⟨us,[]⟩=pure (ps.zip us):=lK λ a0=>lK λ a1=>lK λ a2=>lK λ a3=>HX<|h a0 a1 a2 a3
theorem bd5{ps:γ Str}(h:∀a0 a1 a2 a3 a4,bindArgs fd ⟨[a0,a1,a2,a3,a4],[]⟩=pure (ps.zip [a0,a1,a2,a3,a4])):∀us,us.length=5->bindArgs fd ⟨us,[]⟩=pure (ps.zip us):=lK λ a0=>lK λ a1=>lK λ a2=>lK λ a3=>lK λ a4=>HX<|h a0 a1 a2 a3 a4
theorem bd6{ps:γ Str}(h:∀a0 a1 a2 a3 a4 a5,bindArgs fd ⟨[a0,a1,a2,a3,a4,a5],[]⟩=pure (ps.zip [a0,a1,a2,a3,a4,a5])):∀us,us.length=6->bindArgs fd ⟨us,[]⟩=pure (ps.zip us):=lK λ a0=>lK λ a1=>lK λ a2=>lK λ a3=>lK λ a4=>lK λ a5=>HX<|h a0 a1 a2 a3 a4 a5
def aaY(H0 H1:Hp):Hp->Prop:=λ H2=>g0 H1 H2/\aJ H0 H2
def tZk(K:Da)(H0:Hp)(f:Z.LF):TI:=λ σ H R=>∃ρ ds,RS K H0 H σ ρ/\f ρ=.ok ds/\∀J H',aJ H H'->DX K J (aaY H0 H') ds->R J H'
abbrev DK(X:Cx)(H0:Hp)(tg e:ι)(f:Z.LF):Prop:=PI X tg e<|tZk X.K H0 f
structure _root_.ZQ.QK(X:Cx)(H0:Hp)(tg e:Expr)(f:Z.LF):Prop where p:DK X H0 tg e f
end ZS
namespace ZQ
open L2 ZS
end ZQ
namespace Z
end Z
namespace ZS
open L2
end ZS
namespace ZQ
open L2 ZS
end ZQ
namespace ZS
open L2
section
variable{X:Cx}{a:ι}{pos:Pos}{fa:Z.EF}
end
end ZS
namespace ZQ
open L2 ZS
section
variable{X:Cx}{a:ι}{pos:Pos}{fa:Z.EF}{H0:Hp}
end
end ZQ
namespace Z
end Z
namespace ZS
open L2
section
variable{X:Cx}{H0:Hp}{pos:Pos}
end
end ZS
namespace ZQ
open L2 ZS
section
variable{X:Cx}{H0:Hp}{pos:Pos}
end
end ZQ
namespace Z
end Z
namespace ZS
open L2
theorem Ww(h:Z.eV i ρ=.ok d):ρ[i]?=AC (AC<|.val d):=by
 unfold Z.eV at h;split at h
 .rename_i e;cases h;exact e
 .cases h
theorem Sj(hN:X.N.Nodup)(hi:X.N[i]?=AC x)(hx:Loc X.env.scope x)(hr:jQ X (inplaceOp op) r)(hz:Lv X.K r o)(he:DE X a fa)(hf:X.fn x=Ch\/X.env.scope.names.lookup x=AC .local):
 DS X H0 (.AugAssign (.Name x pos') op a pos) (Z.bc i<|Z.eB o (Z.eV i) fa):=PS.imp (Qv hN hi hx he hr hf) <|by
 rintro D σ H ⟨ρ,fl,rs,e,k⟩;let⟨d,ea,e⟩:=XV e;cases e;let⟨dx,e1,ea⟩:=XV ea;let⟨dy,e2,ea⟩:=XV ea;let⟨v,si,dv⟩:=rs.re.get i _ (Ww e1);refine⟨v,si,ρ,dy,rs.re,e2,λ y H1 s1 dy1=>?_⟩;exact hz v y dx dy d H1 _ (.inl<|Den.up dv s1) (.inl dy1) ea λ z H2 s2 dz=>k _ H2 (ky<|s1.trans s2)<|(rs.up<|s1.trans s2).vB dz
theorem J5:jQ X (inplaceOp .Mult) (rI LB λ i j=>.int<|i*j):=UP λ _ _ _ _ _ _ _ hc q=>imul_int q hc
theorem QO{K:Da}:Lv K (rI LB λ i j=>.int<|i*j) Z.fP:=o_ λ dx dy d e=>by
 unfold Z.fP at e;split at e
 .unfold Z.guard at e;split at e
  .rename_i h;cases e;exact⟨_,_,rfl,rfl,uk h,rfl⟩
  .cases e
 .cases e
end ZS
namespace ZQ
open L2 ZS
theorem Ol(hN:X.N.Nodup)(hi:X.N[i]?=AC x)(hx:Loc X.env.scope x)(he:QE X a fa)(hf:Fl X x:=by trivial):
 QS X H0 (.AugAssign (.Name x pos') .Mult a pos) (Z.bc i<|Z.eB Z.fP (Z.eV i) fa):=⟨ZS.Sj hN hi hx J5 QO he.p hf⟩
end ZQ
namespace ZMx
section
variable{St:Nat->ν->Prop}
end
section
variable{St:Nat->ν->Prop}
end
end ZMx
namespace ZS
open L2
section
variable{X:Cx}
end
end ZS
namespace ZQ
open L2 ZS
end ZQ
namespace ZS
open L2
end ZS
namespace ZQ
open L2 ZS
end ZQ
namespace Z
def vO(e:EF)(ρ:Env)(d:D):Res Int:=(e<|some (.val d)::ρ).bind λ y=>match y with
|.int k=>.ok k
|_=>.bad
theorem NA(h:vO e ρ d=.ok k):e (AC (.val d)::ρ)=.ok (.int k):=by
 let⟨y,e1,e2⟩:=Res.av h;split at e2
 .cases e2;exact e1
 .cases e2
theorem JY(h:e (AC (.val d)::ρ)=.ok (.int k)):vO e ρ d=.ok k:=by unfold vO;rw[h];rfl
def HG(mx:Bool)(k kb:Int):Bool:=if mx=Ch then decide (k>kb)else decide (k<kb)
def Kk(mx:Bool)(e:D->Res Int)(b:D)(kb:Int):γ D->Res D
|[]=>.ok b
|d::r=>(e d).bind λ k=>if HG mx k kb=Ch then Kk mx e d k r else Kk mx e b kb r
def pickK(mx:Bool)(z:Res D)(e:D->Res Int):γ D->Res D
|[]=>z
|d::r=>(e d).bind λ k=>Kk mx e d k r
def yY(mx:Bool)(z:Res D)(a:EF)(is:γ Nat)(e:EF)(ρ:Env):Res D:=(a ρ).bind λ x=>match x with
|.lst ds=>pickK mx z (vO e<|fi ρ is) ds
|_=>.bad
end Z
namespace ZS
open L2 PySem.W
theorem Off.Q8(o:Off X χ H C)(ok:X.Ok):C∉X.fs:=λ hb=>by let⟨_,ob,ho,_⟩:=ok.m?.mem hb;exact absurd (A16 (A01 ho) o.new)<|A88 _
theorem Off.U'(o:Off X χ H C)(I:Inv X χ σ H s):C∉uG X.stack:=λ hb=>by
 rcases A00.mp (I.qr C hb)with z|z
 .exact o.loc z
 .exact o.Q8 I.ok z
theorem Off.up(o:Off X χ H C)(h:H' C=At):Off X χ H' C:=⟨h,o.loc,o.new,o.cell,o.pin⟩
theorem Off.fresh(I:Inv X χ σ H s)(hC:s.heap.objs.size<=C)(h:H' C=At):Off X χ H' C where
 free:=h
 loc:=A42<|A16 I.lt hC
 new:=A13 I.sz hC
 cell:=λ x c e=>by let⟨v,o,ho,_⟩:=I.cell x c e;exact A12<|A16 (A01 ho) hC
 pin:=λ p hp=>A12<|A16 (A01 (I.pin p hp).1) hC
theorem Hf{pos q:Pos}(l:γ ζ)(h:TriplesOk l)(e:codeAmong q (l++[rawInt pos.line,rawInt pos.col,c])=AC cv):codeAmong q l=AC cv\/cv=c:=by
 fun_induction TriplesOk l with
 |case1=>
  simp only[C01,codeAmong,rawInt]at e;split at e
  .cases e;exact .inr rfl
  .cases e
 |case2 a t b u x rest ih=>
  simp only[C12,codeAmong]at e ⊢;split at e
  .rename_i hc;rw[M2 hc];exact .inl e
  .rename_i hc;rw[W1 hc];exact ih h e
 |case3 l h1 h2=>exact h.elim
structure FC(X:Cx)(χ:List (Addr×Obj))(q:Str)(params:Arguments)(body:Expr)(scope:Scope)(cl:List (Str×Addr))(H:Hp)(s:Shared)(f c':Addr)(pm rO:Value):Prop where
 off:Off X χ H f
 obj:s.heap.get? f=AC (kla_obj "<lambda>" q params body scope cl pm c' rO)
 code:H c'=AC (.LS q)
theorem AU(hx:x∈dD)(ht:tabIn X.K x=AC (c,P))(Px:X.env.code=.ref c)(hq:X.env.qual++ "<lambda>"=jA x)
 (yM:defaultsOf params X.env=([],[])) (kA:closureFor scope X.env=pure cl) (I:Inv X χ σ H s) :
 EQ (model X.prog X.w) X.A (eval (.Lambda params body scope pos) X.env) (λ r s'=>∃f c' pm rO H',r=.ref f/\Inv X χ σ H' s'/\aJ H H'/\FC X χ (jA x) params body scope cl H' s' f c' pm rO) X.xe s:=by
 refine kla_eval yM ?_;rw[hq];let⟨hT,hC,bm,ob,b1,b2,b3,b4,b5,b6⟩:=I.tab x hx c P ht;let⟨ps,g,Xk,am⟩:=I.b9 P _ hT;have Ym:=I.mod.glob.keeps I.bk;have PX:∀b o,X.base.get? b=AC o->b≠P:=λ b o e z=>by have:=(I.bs b o e).2;rw[z,hT]at this;cases this
 have hgP:mainGlobals≠P:=by let⟨o,es,ep,e,_⟩:=I.mod.glob;exact PX _ _ e
 have hbG:bm≠mainGlobals:=λ z=>by let⟨o,es,ep,e,hd,_⟩:=I.mod.glob;rw[z,e]at b3;cases b3;rw[hd]at b6;cases b6
 have hB:s.heap.BuiltinsAt X.mg P:=⟨bm,ob,b1,b2,hbG,PX _ _ b3,I.bk _ _ b3,b4,b5,b6⟩
 cases hf:codeAmong pos ps.toList with
 | some cv=>let⟨c',rfl,sk⟩:=am pos cv hf;refine kla_makeFunctionHit (mg:=X.mg) kA I.ok.glob Ym Px (hC.keeps I.bk) g Xk hf hB λ rO h' tk hk E2=>?_;have I':Inv X χ σ H {s with heap:=h'.push<|kla_obj "<lambda>" (jA x) params body scope cl ((X.mg "__name__").getD .none) c' rO,toks:=tk}:=I.kept λ b u e=>v6 _<|hk b u e;exact⟨_,c',_,rO,H,rfl,I',aJ.refl H,⟨Off.fresh I E2<|I.b9.fresh E2,A14 _ rfl,sk⟩⟩
 |none=>
  refine kla_makeFunction (mg:=X.mg) kA I.ok.glob Ym Px (hC.keeps I.bk) g Xk hf hgP hB λ c' rO h' tk Hz Yn kz RH htb=>?_;have hn:H c'=At:=I.b9.fresh Yn;have kp:∀b o,b≠P->s.heap.get? b=AC o->(h'.push<|kla_obj "<lambda>" (jA x) params body scope cl ((X.mg "__name__").getD .none) c' rO).get? b=AC o:=λ b o hb e=>v6 _<|Hz b o hb e;have Z2:∀b,H b=At->b≠P:=λ b e z=>by rw[z,hT]at e;cases e
  have Q?:∀b u,H b=AC u->b≠c':=λ b u e=>bj e hn;have ltc:∀b o,s.heap.get? b=AC o->b≠c':=λ b o e=>A12<|A16 (A01 e) Yn;have hP:(h'.push<|kla_obj "<lambda>" (jA x) params body scope cl ((X.mg "__name__").getD .none) c' rO).get? P=AC (tabObj<|ps++#[rawInt pos.line,rawInt pos.col,.ref c']):=v6 _ htb;have un:Un X.fs [] H (upd H c'<|.LS<|jA x) s.heap (h'.push<|kla_obj "<lambda>" (jA x) params body scope cl ((X.mg "__name__").getD .none) c' rO):=by
   refine⟨λ b o e n _ _=>kp b o (Z2 b n) e,λ b o e n _ _=>⟨o.slots,kp b o (Z2 b n) e⟩,λ b o e n _=>by rw[aG<|ltc b o e];exact n,λ b o e _=>?_,λ b xs e=>by rw[aG<|Q? _ _ e];exact e,λ b o u e=>by rw[aG<|Q? _ _ e];exact e,λ b u _ e=>by rw[aG<|Q? _ _ e];exact e⟩;by_cases hb:b=P
   .exact⟨_,hb▸hP⟩
   .exact⟨o,kp b o hb e⟩
  have b9:lM X.prog X.w (upd H c'<|.LS<|jA x) (h'.push<|kla_obj "<lambda>" (jA x) params body scope cl ((X.mg "__name__").getD .none) c' rO):=λ b u e=>by
   by_cases hb:b=c'
   .subst hb;rw[aO]at e;cases e;let⟨c2,oc,vs,t,e2,Yj,r⟩:=RH;cases e2;exact⟨_,oc,vs,t,rfl,v6 _ Yj,r⟩
   .rw[aG hb]at e;by_cases hbP:b=P
    .subst hbP;rw[hT]at e;cases e;refine⟨_,hP,by rw[dL];exact TriplesOk_snoc _ _ _ _ Xk,λ p cv e2=>?_⟩;rw[dL]at e2;rcases Hf _ Xk e2 with z|rfl
     .let⟨c2,e3,e4⟩:=am p cv z;exact⟨c2,e3,by rw[aG<|Q? _ _ e4];exact e4⟩
     .exact⟨c',rfl,aO⟩
    .refine(I.b9 b u e).rZ (λ b2 v hc q=>kp b2 v ?_ q) (λ b2 q=>by rw[aG<|Q? _ _ q];exact q) (λ b2 xs q=>by rw[aG<|Q? _ _ q];exact q) λ b2 v _ q=>by rw[aG<|Q? _ _ q];exact q
     rcases hc with rfl|hc
     .exact hbP
     .exact Pf hc hT λ z=>nomatch z
  have V0:(upd H c'<|.LS<|jA x) h'.objs.size=At:=by rw[aG<|A42 kz];exact I.b9.fresh<|A76<|Nat.lt_of_le_of_lt Yn kz
  exact⟨_,c',_,rO,_,rfl,I.un (t':=tk) un b9,cn hn,⟨Off.fresh I (A76<|Nat.lt_of_le_of_lt Yn kz) V0,A14 _ rfl,aO⟩⟩
abbrev CW(X:Cx)(N':γ Str)(q:Str)(scope:τ)(cl:γ (Str×δ))(f c':δ)(s₂:η)(H₂:Hp):Cx:=
 {prog:=X.prog,w:=X.w,K:=X.K,mg:=X.mg,base:=X.base,A:=X.A.in1.deeper<|envX q scope s₂.heap.objs.size f (.ref c') cl,N:=N',s₀:=s₂,H₀:=H₂,env:=envX q scope s₂.heap.objs.size f (.ref c') cl,outer:=X.stack,stack:=envX q scope s₂.heap.objs.size f (.ref c') cl::X.stack,ex:=[],fn:=λ _=>AT,calm:=Ch,pn:=[],xe:=λ _ _=>False}
theorem Qq{K:Da}(h:RE K H σ ρ)(hd:Den K H d v):RE K H (AC v::nT σ 0 is) (AC (.val d)::Z.fi ρ is):=by
 have R:=IK (n:=0) (is:=is) h<|aJ.refl H;refine⟨by simp[nT,Z.fi],λ i l e=>?_,λ i j xs ys a e1=>?_⟩
 .cases i with
  |zero=>simp only[C55,B13]at e;subst e;exact⟨v,rfl,hd⟩
  |succ i=>let⟨u,h1,h2⟩:=R.re.get i l (by simpa using e);exact⟨u,by simpa using h1,h2⟩
 .cases i with
  |zero=>simp at e1
  |succ i=>exact absurd (by simpa using e1)<|gj 0 is ρ i xs
theorem AV(cZ:X.calm=Ch)(pH:X.A.in1.depth<recursionLimit)(B:vj X.N N' 1 is scope X.env.scope)(LL:N'[0]?=AC x)(yL:scope.isGenerator=AT)(Kd:scope.isCoroutine=AT)
 (l?:∀u,bindArgs (kla_fn "<lambda>" q params body scope cl pm (.ref c') rO) ⟨[u],[]⟩=pure [(x,u)])
 (jB:∀x c,cl.lookup x=AC c->X.env.cells.lookup x=AC c) (uA:∀y∈scope.names,y.2=.free->(cl.lookup y.1).isSome=Ch)
 (he:∀cl f c' s H,DE (CW X N' q scope cl f c' s H) body fe)
 (L:FC X χ q params body scope cl H s f c' pm rO) (I:Inv X χ σ H s) (re:RE X.K H σ ρ) (rv:RelV v u) (dv:Den X.K H d v) (ek:Z.vO fe (Z.fi ρ is) d=.ok k) :
 EQ (model X.prog X.w) X.A.in1 (call (.ref f) [u]) (λ r s'=>∃t H',r=.int k t/\aJ H H'/\Un (uG X.stack) [] H H' s.heap s'.heap/\lM X.prog X.w H' s'.heap/\AllBare s'.gens/\s'.os=s.os) E s:=by
 have RH:=I.b9 c' _ L.code;let⟨x0,VG,hxl⟩:=B.own 0 (Nat.zero_lt_one);rw[LL]at VG;cases VG;refine A90<|kla_callFunE pH L.obj rfl Kd yL rfl RH ?_;rw[l?];refine P3<|wpAny_newFunctionEnv B.cell (λ y hy=>by rw[A19.mp hy];exact hxl) (λ h₁ J! _n=>⟨I.nolimit.fresh _ _n,?_⟩) B.kind;show codeAny _ _ (.expr body<|envX q scope s.heap.objs.size f (.ref c') cl) _ _;have old:=λ b o e=>_n.extBut b o (A12<|A01 e)<|v6 _ e;have RU:=I.b9.fresh<|v4 _;have ok:(CW X N' q scope cl f c' s H).Ok:=by
  refine⟨I.ok.mod,B.kind,rfl,rfl,v4 _,λ x y c e1 e2=>I.ok.inj x y c (jB x c e1)<|jB y c e2,λ y hy=>?_,λ y c hf=>(by cases hf),λ _=>I.ok.hd cZ,Around.frames_deeper I.ok.frames,.inr ⟨rfl,rfl⟩,
   λ b hb=>absurd (show b∈([]:γ δ)from hb) ∅,I.bs,A13 I.ok.Lf I.sz,λ b o _ hb=>absurd (show b∈([]:γ δ)from hb) ∅,λ b hb=>absurd (show b∈([]:γ δ)from hb) ∅,I.stack,I.sH⟩
  have J8:=hy;rcases J8 with z|z
  .exact absurd rfl<|B.cell _<|A66 z
  .exact A91.mp<|uA _ (A66 z) rfl
 have uY:∀x c,X.env.cells.lookup x=AC c->c<s.heap.objs.size/\∀v,s.heap.IsCell c v->h₁.IsCell c v:=λ x c e=>by let⟨v,o,ho,hd⟩:=I.cell x c e;exact⟨A01 ho,by rintro v' ⟨o',pI,qI⟩;exact⟨o',old c o' pI,qI⟩⟩
 have I4:Inv (CW X N' q scope cl f c' s H) [] (AC v::nT σ 0 is) H {s with heap:=h₁,toks:=s.toks + [(x,u)].length}:=by
  refine⟨ok,rfl,I.bare,Un.kept old,⟨_,J!,λ i y w e1 e2 e3=>?_⟩,λ y c e=>?_,RU,λ y c e=>I.gW y c<|jB y c e,λ p hp=>absurd (show p∈([]:γ (δ×μ))from hp) ∅,I.b9.kept old,?_,I.tab⟩
  .cases i with
   |zero=>have PL:=e1;rw[LL]at PL;cases PL;simp only[C55,B13]at e2;subst e2;refine⟨u,rv,.inl ⟨hxl,?_⟩⟩;simp
   |succ i=>
    have LR:(nT σ 0 is)[i]?=AC (AC w):=by simpa using e2
    unfold nT at LR;simp only[List.replicate_zero,C01,A08]at LR;cases r:is[i]? with
    |none=>rw[r]at LR;cases LR
    |some j=>
     rw[r]at LR;simp only[A68]at LR;let⟨x',c1,c2,c3⟩:=B.cap i j r;have PL:=e1;rw[show i+1=1+i from A92 _ _,c1]at PL;cases PL;have hσ:σ[j]?=AC (AC w):=by
      cases r2:σ[j]? with
      |none=>rw[r2]at LR;cases LR
      |some z=>
       rw[r2]at LR;have:z=AC w:=by simpa using LR
       rw[this]
     let⟨m,hn,hl⟩:=I.loc;have hm:=A66 c3;have hk:=B.free _ hm rfl;have RC:Hq X.env.scope y:=by
      rcases hk with k|k
      .exact .inr<|.inl k
      .exact .inr<|.inr k
     let⟨u',ru,lk⟩:=hl j y w c2 hσ RC;refine⟨u',ru,?_⟩;rcases lk with⟨k1,_⟩|⟨k1,c,hc,rF⟩
     .have NB:X.env.scope.names.lookup y=AC .local:=k1;rcases hk with k|k
      .rw[k]at NB;cases NB
      .rw[k]at NB;cases NB
     .let⟨TC,sk⟩:=A91.mp (uA _ hm rfl);have:TC=c:=by have:=jB y TC sk;rw[hc]at this;exact(A04 this).symm
      subst this;exact .inr ⟨.inr c3,TC,sk,(uY y TC hc).2 _ rF⟩
  .let⟨v',hv⟩:=I.cell y c (jB y c e);exact⟨v',(uY y c<|jB y c e).2 v' hv⟩
  .have:=B.len;simp[nT,this,A92]
 refine kla_codeExpr<|A21 (he cl f c' s H [] _ _ H (λ v' H'=>aJ H H'/\v'=.int k) I4 ⟨_,_,Qq re dv,Z.NA ek,λ v' H' s' d'=>⟨s',by simpa only[Den]using d'⟩⟩) (λ r s' hq=>?_) λ e s' hq=>hq.elim;let⟨v',H',J,rv',sm,rfl⟩:=hq;let⟨t,rfl⟩:=rv';exact⟨t,H',rfl,sm,J.base,J.b9,J.bare,J.os⟩
abbrev held(b:ζ)(k:ζ)(c:Nat):μ:={cls:=.type "list",data:=.seq #[b,k] c}
structure KLp(X:Cx)(χ:List (Addr×Obj))(σ:St)(H₀:Hp)(l I S:Addr)(vs:List V)(H:Hp)(s:Shared)(j i:Nat)(kb:Int):Prop where
 inv:Inv X χ σ H s
 sm:aJ H₀ H
 it:s.heap.IsListIter I l j
 CI:Off X χ H I
 qA:Off X χ H S
 best:∃b v tb c,vs[i]?=AC v/\RelV v b/\s.heap.get? S=AC (held b (.int kb tb) c)
theorem pE(cZ:X.calm=Ch)(I1:Inv X χ σ H s)(hq:jw X.K H l vs)(it:s.heap.IsListIter I l j)(oI:Off X χ H I)(hj:j<vs.length)
 (h:∀u v h' tk,vs[j]?=AC v->RelV v u->Inv X χ σ H {s with heap:=h',toks:=tk}->h'.IsListIter I l (j+1)->(∀b o,b≠I->s.heap.get? b=AC o->h'.get? b=AC o)->Q (AC u) {s with heap:=h',toks:=tk}) :
 EQ (model X.prog X.w) X.A.in1 (pyNext<|.ref I) Q E s:=by
 let⟨bq,rv,pl,hz⟩:=I1.list hq;have hl:=rv.length;have hh:=I1.ok.hd cZ;have qc:l≠I:=by rintro rfl;let⟨o,e,hc,_⟩:=pl.isList;let⟨o2,e2,yN,_⟩:=it;rw[e]at e2;cases e2;rw[hc]at yN;exact absurd (Value.type.inj yN) ∅
 have W:=Walks.list (prog:=X.prog) (w:=X.w) (A:=X.A.in1) hh I l qc bq.toArray;refine W.item j s Q E (by rw[A10,<-hl];exact hj) ⟨it,pl.isList⟩ λ u h' tk pv st k1=>?_;have hv:bq[j]?=AC u:=by simpa using pv
 obtain⟨v,Tg⟩:∃v,vs[j]?=AC v:=⟨vs[j],by simp[hj]⟩
 let⟨u',Th,rvu⟩:=rv.get Tg;rw[hv]at Th;cases Th;have kp:=λ b o hb e=>k1 b o (by simpa using hb) e;exact h u v h' tk Tg rvu (I1.turned kp oI.free oI.loc (.inr oI.new) oI.cell oI.pin) st.1 kp
theorem uq(cZ:X.calm=Ch)(I1:Inv X χ σ H s)(hq:jw X.K H l vs)(it:s.heap.IsListIter I l j)(oI:Off X χ H I)(hj:j=vs.length)
 (h:∀h' tk,Inv X χ σ H {s with heap:=h',toks:=tk}->(∀b o,b≠I->s.heap.get? b=AC o->h'.get? b=AC o)->Q At {s with heap:=h',toks:=tk}) :
 EQ (model X.prog X.w) X.A.in1 (pyNext<|.ref I) Q E s:=by
 let⟨bq,rv,pl,hz⟩:=I1.list hq;have hl:=rv.length;have hh:=I1.ok.hd cZ;have qc:l≠I:=by rintro rfl;let⟨o,e,hc,_⟩:=pl.isList;let⟨o2,e2,yN,_⟩:=it;rw[e]at e2;cases e2;rw[hc]at yN;exact absurd (Value.type.inj yN) ∅
 have W:=Walks.list (prog:=X.prog) (w:=X.w) (A:=X.A.in1) hh I l qc bq.toArray;refine W.done s Q E ⟨by rw[A10,<-hl,<-hj];exact it,pl.isList⟩ λ h' tk k1=>?_;have kp:=λ b o hb e=>k1 b o (by simpa using hb) e;exact h h' tk (I1.turned kp oI.free oI.loc (.inr oI.new) oI.cell oI.pin) kp
def BI(X:Cx)(χ:γ (δ×μ))(σ:St)(H₀:Hp)(f:δ)(St:Hp->η->Prop)(e:Z.D->Z.Res Int):Prop:=
 ∀(H:Hp)(s:η)(u:ζ)(v:V)(d:Z.D)(k:Int),Inv X χ σ H s->aJ H₀ H->St H s->RelV v u->Den X.K H d v->e d=.ok k ->
  EQ (model X.prog X.w) X.A.in1 (call (.ref f) [u]) (λ r s'=>∃t H',r=.int k t/\aJ H H'/\Un (uG X.stack) [] H H' s.heap s'.heap/\lM X.prog X.w H' s'.heap/\AllBare s'.gens/\s'.os=s.os) (λ _ _=>False) s
structure Lr(X:Cx)(χ:List (Addr×Obj))(σ:St)(f:Addr)(St:Hp->Shared->Prop):Prop where
 off:∀H s,St H s->Off X χ H f
 un:∀H H' s s',Inv X χ σ H s->St H s->aJ H H'->H' f=At->(∀o,s.heap.get? f=AC o->s'.heap.get? f=AC o)->St H' s'
section
variable{St:Hp->η->Prop}
theorem HZ(h:Q (.bool<|decide<|k>kb) s):EQ (model prog w) A (richCompare .Gt (.int k t)<|.int kb tb) Q E s:=
 CmpOf.ints_gt (λ i=>if i=0 then k else kb) (λ i v h=>h) 0 1 _ _ _ _ _ ⟨t,rfl⟩ ⟨tb,rfl⟩ h
theorem FX(h:Q (.bool<|decide<|k<kb) s):EQ (model prog w) A (richCompare .Lt (.int k t)<|.int kb tb) Q E s:=
 CmpOf.ints_lt (λ i=>if i=0 then k else kb) (λ i v h=>h) 0 1 _ _ _ _ _ ⟨t,rfl⟩ ⟨tb,rfl⟩ h
theorem sQ(KO:BI X χ σ H₀ f St e)(SY:Lr X χ σ f St)(Iv:Inv X χ σ H s)(sm:aJ H₀ H)(st:St H s)(rv:RelV v u)(dv:Den X.K H d v)(ek:e d=.ok k)
 (oI:Off X χ H I) (oS:Off X χ H S){oi os:μ}(gI:s.heap.get? I=AC oi) (gS:s.heap.get? S=AC os) (gf:∃o,s.heap.get? f=AC o)
 (h:∀t H' s',Inv X χ σ H' s'->aJ H H'->St H' s'->Off X χ H' I->Off X χ H' S->s'.heap.get? I=AC oi->s'.heap.get? S=AC os->(∃o,s'.heap.get? f=AC o)->Q (.int k t) s') :
 EQ (model X.prog X.w) X.A.in1 (call (.ref f) [u]) Q E s:=by
 refine A21 (KO H s u v d k Iv sm st rv dv ek) (λ x s' hq=>?_) λ _ _ z=>z.elim;let⟨t,H',rfl,SX,un,b9,bare,ZN⟩:=hq;have Iv':=Iv.K! ZN un b9 bare λ b hb=>absurd hb ∅;have of:=SY.off H s st;have kp:∀{b}{o},Off X χ H b->s.heap.get? b=AC o->s'.heap.get? b=AC o/\H' b=At:=λ {b o} ob e=>⟨un.keep b o e ob.free (ob.U' Iv) ∅,un.free b o e ob.free ∅⟩
 let⟨fo,gf⟩:=gf;exact h t H' s' Iv' SX (SY.un H H' s s' Iv st SX (kp of gf).2 λ o e=>(kp of e).1) (oI.up (kp oI gI).2) (oS.up (kp oS gS).2) (kp oI gI).1 (kp oS gS).1 ⟨fo,(kp of gf).1⟩
theorem C0(cZ:X.calm=Ch)(KO:BI X χ σ H₀ f St e)(SY:Lr X χ σ f St)(yO:S≠I)(C!:f≠I)(C9:f≠S)(hl:jw X.K H₀ l vs)(dn:aE X.K H₀ ds vs)
 (fin:∀H s u v,Inv X χ σ H s->aJ H₀ H->RelV v u->Den X.K H r v->R (.ok<|.ret u) s) :
 ∀n j i H s kb db,ds.length=j+n->ds[i]?=AC db->Z.Kk Ch e db kb (ds.drop j)=.ok r->KLp X χ σ H₀ l I S vs H s j i kb->St H s->(∃o,s.heap.get? f=AC o) ->
  codeAny (model X.prog X.w) X.A (.builtin "max.loop" ⟨[.ref I,.ref f,.ref S],kw⟩) R s:=by
 have nm:(toString "max"++toString ".loop")="max.loop":=by decide
 have ψ:=dn.length;intro n
 induction n with
 |zero=>
  intro j i H s kb db hn gQ eg L st gf;let⟨b,v,tb,c,hv,rb,gS⟩:=L.best;refine B15 C23 ?_;rw[B16 A99 _];refine T0<|A44 gS rfl<|T0<|A54<|uq cZ L.inv (L.sm.seq hl) L.it L.CI ∅ λ h1 t1 I1 k1=>?_;have g1:=k1 S _ yO gS;refine T0<|B17 g1 rfl<|T0<|A64<|P3 ?_;have hr:db=r:=by rw[B38 ∅]at eg;unfold Z.Kk at eg;cases eg;rfl
  subst hr;let⟨v',yI,dv⟩:=dn.get gQ;rw[hv]at yI;cases yI;exact fin H _ b v (I1.turned (t':=t1) (λ b o hb e=>(A62 _ _<|A05 hb).trans e) L.qA.free L.qA.loc (.inr L.qA.new) L.qA.cell L.qA.pin) L.sm rb<|dv.up L.sm
 |succ n ih=>
  intro j i H s kb db hn gQ eg L st gf;let⟨b,v,tb,c,hv,rb,gS⟩:=L.best;have hj:j<ds.length:=by lia
  obtain⟨dj,NZ⟩:∃d,ds[j]?=AC d:=⟨ds[j],by simp[hj]⟩
  have pJ:ds.drop j=dj::ds.drop (j+1):=by
   rw[A83 hj];have:ds[j]=dj:=by have:=A03 hj;rw[this]at NZ;exact A04 NZ
   rw[this]
  rw[pJ]at eg;unfold Z.Kk at eg;let⟨k,ek,eg⟩:=XV eg;refine B15 C23 ?_;rw[B16 A99 _];refine T0<|A44 gS rfl<|T0<|A54<|pE cZ L.inv (L.sm.seq hl) L.it L.CI ∅ λ u v1 h1 t1 GR IC I1 Z? k1=>?_;have g1:=k1 S _ yO gS;let⟨oI,gI,rI⟩:=id Z?;let⟨of,gf⟩:=gf;have N5:=k1 f _ C! gf;let⟨v',yI,dv⟩:=dn.get NZ;rw[GR]at yI;cases yI;have Ef:St H {s with heap:=h1,toks:=t1}:=SY.un H H s _ L.inv st (aJ.refl H) (SY.off H s st).free λ o e=>k1 f o C! e;refine T0<|A54<|A38<|sQ KO SY I1 L.sm Ef IC (dv.up L.sm) ek L.CI L.qA gI g1 ⟨of,N5⟩ λ t2 H2 s2 I2 qt BN U4 CJ N7 R9 Wc=>?_;refine T0<|A54<|A38<|T0<|HZ<|T0<|A38<|A56<|T0<|A64<|P3 ?_;have Iu:=L.sm.trans qt;have Ry:s2.heap.IsListIter I l (j+1):=⟨oI,N7,rI⟩
  by_cases hb:k>kb
  .simp only[hb,decide_true,A25];refine T0<|B17 R9 rfl<|T0<|A64 ?_;rw[nm];rw[M2 (by unfold Z.HG;simpa using hb)]at eg;have kp:∀b o,b≠S->s2.heap.get? b=AC o->(s2.heap.update S<|Obj.mapSeq λ _=>#[u,.int k t2]).get? b=AC o:=λ b o hb e=>(A62 _ _<|A05 hb).trans e;have I3:=I2.turned (t':=s2.toks) kp CJ.free CJ.loc (.inr CJ.new) CJ.cell CJ.pin;refine P3 ⟨A86 A99 _,ih (j+1) j H2 _ k dj ∅ NZ eg ⟨I3,Iu,⟨oI,kp I _ (A05 yO) N7,rI⟩,U4,CJ,u,v1,t2,_,GR,IC,A84 _ R9 rfl⟩ (SY.un H2 H2 s2 _ I2 BN (aJ.refl H2) (SY.off H2 s2 BN).free λ o e=>kp f o C9 e)<|let ⟨o,e⟩:=Wc;⟨o,kp f o C9 e⟩⟩
  .simp only[hb,decide_false,A48,A59];refine T0<|A64 ?_;rw[nm];rw[W1 (by unfold Z.HG;simpa using hb)]at eg;exact P3 ⟨A86 A99 _,ih (j+1) i H2 s2 kb db ∅ gQ eg ⟨I2,Iu,Ry,U4,CJ,b,v,tb,c,hv,rb,R9⟩ BN Wc⟩
theorem CZ(cZ:X.calm=Ch)(KO:BI X χ σ H₀ f St e)(SY:Lr X χ σ f St)(yO:S≠I)(C!:f≠I)(C9:f≠S)(hl:jw X.K H₀ l vs)(dn:aE X.K H₀ ds vs)
 (fin:∀H s u v,Inv X χ σ H s->aJ H₀ H->RelV v u->Den X.K H r v->R (.ok<|.ret u) s) :
 ∀n j i H s kb db,ds.length=j+n->ds[i]?=AC db->Z.Kk AT e db kb (ds.drop j)=.ok r->KLp X χ σ H₀ l I S vs H s j i kb->St H s->(∃o,s.heap.get? f=AC o) ->
  codeAny (model X.prog X.w) X.A (.builtin "min.loop" ⟨[.ref I,.ref f,.ref S],kw⟩) R s:=by
 have nm:(toString "min"++toString ".loop")="min.loop":=by decide
 have ψ:=dn.length;intro n
 induction n with
 |zero=>
  intro j i H s kb db hn gQ eg L st gf;let⟨b,v,tb,c,hv,rb,gS⟩:=L.best;refine B15 C24 ?_;rw[B16 B00 _];refine T0<|A44 gS rfl<|T0<|A54<|uq cZ L.inv (L.sm.seq hl) L.it L.CI ∅ λ h1 t1 I1 k1=>?_;have g1:=k1 S _ yO gS;refine T0<|B17 g1 rfl<|T0<|A64<|P3 ?_;have hr:db=r:=by rw[B38 ∅]at eg;unfold Z.Kk at eg;cases eg;rfl
  subst hr;let⟨v',yI,dv⟩:=dn.get gQ;rw[hv]at yI;cases yI;exact fin H _ b v (I1.turned (λ b o hb e=>(A62 _ _<|A05 hb).trans e) L.qA.free L.qA.loc (.inr L.qA.new) L.qA.cell L.qA.pin) L.sm rb<|dv.up L.sm
 |succ n ih=>
  intro j i H s kb db hn gQ eg L st gf;let⟨b,v,tb,c,hv,rb,gS⟩:=L.best;have hj:j<ds.length:=by lia
  obtain⟨dj,NZ⟩:∃d,ds[j]?=AC d:=⟨ds[j],by simp[hj]⟩
  have pJ:ds.drop j=dj::ds.drop (j+1):=by
   rw[A83 hj];have:ds[j]=dj:=by have:=A03 hj;rw[this]at NZ;exact A04 NZ
   rw[this]
  rw[pJ]at eg;unfold Z.Kk at eg;let⟨k,ek,eg⟩:=XV eg;refine B15 C24 ?_;rw[B16 B00 _];refine T0<|A44 gS rfl<|T0<|A54<|pE cZ L.inv (L.sm.seq hl) L.it L.CI ∅ λ u v1 h1 t1 GR IC I1 Z? k1=>?_;have g1:=k1 S _ yO gS;let⟨oI,gI,rI⟩:=id Z?;let⟨of,gf⟩:=gf;have N5:=k1 f _ C! gf;let⟨v',yI,dv⟩:=dn.get NZ;rw[GR]at yI;cases yI;have Ef:St H {s with heap:=h1,toks:=t1}:=SY.un H H s _ L.inv st (aJ.refl H) (SY.off H s st).free λ o e=>k1 f o C! e;refine T0<|A54<|A38<|sQ KO SY I1 L.sm Ef IC (dv.up L.sm) ek L.CI L.qA gI g1 ⟨of,N5⟩ λ t2 H2 s2 I2 qt BN U4 CJ N7 R9 Wc=>?_;refine T0<|A54<|A38<|T0<|FX<|T0<|A38<|A56<|T0<|A64<|P3 ?_;have Iu:=L.sm.trans qt;have Ry:s2.heap.IsListIter I l (j+1):=⟨oI,N7,rI⟩
  by_cases hb:k<kb
  .simp only[hb,decide_true,A25];refine T0<|B17 R9 rfl<|T0<|A64 ?_;rw[nm];rw[M2 (by unfold Z.HG;simpa using hb)]at eg;have kp:∀b o,b≠S->s2.heap.get? b=AC o->(s2.heap.update S<|Obj.mapSeq λ _=>#[u,.int k t2]).get? b=AC o:=λ b o hb e=>(A62 _ _<|A05 hb).trans e;have I3:=I2.turned (t':=s2.toks) kp CJ.free CJ.loc (.inr CJ.new) CJ.cell CJ.pin;refine P3 ⟨A86 B00 _,ih (j+1) j H2 _ k dj ∅ NZ eg ⟨I3,Iu,⟨oI,kp I _ (A05 yO) N7,rI⟩,U4,CJ,u,v1,t2,_,GR,IC,A84 _ R9 rfl⟩ (SY.un H2 H2 s2 _ I2 BN (aJ.refl H2) (SY.off H2 s2 BN).free λ o e=>kp f o C9 e)<|let ⟨o,e⟩:=Wc;⟨o,kp f o C9 e⟩⟩
  .simp only[hb,decide_false,A48,A59];refine T0<|A64 ?_;rw[nm];rw[W1 (by unfold Z.HG;simpa using hb)]at eg;exact P3 ⟨A86 B00 _,ih (j+1) i H2 s2 kb db ∅ gQ eg ⟨I2,Iu,Ry,U4,CJ,b,v,tb,c,hv,rb,R9⟩ BN Wc⟩
end
def vc(X:Cx)(nm:Str):Prop:=∃c P,nm∈dD/\tabIn X.K nm=AC (c,P)/\X.env.code=.ref c/\X.env.qual++ "<lambda>"=jA nm
theorem Hm(a k:ζ):argsOk "max" ⟨[a],[(Db "key",k),(Db "default",.none)]⟩:=by kernel_rfl
theorem DD(k:ζ):Ix "max" ["key","default"] 0 ⟨[],[(Db "key",k),(Db "default",.none)]⟩=pure [AC k,AC .none]:=by kernel_rfl
section
variable{St:Hp->η->Prop}
theorem Od(cZ:X.calm=Ch)(KO:BI X χ σ H f St e)(SY:Lr X χ σ f St)(Iv:Inv X χ σ H s)(st:St H s)(gf:∃o,s.heap.get? f=AC o)(hl:jw X.K H l vs)(dn:aE X.K H ds vs)(ek:Z.pickK Ch (.ok .non) e ds=.ok r)
 (k:∀v H',aJ H H'->Den X.K H' r v->Q v H'):EQ (model X.prog X.w) X.A (call (.builtin "max") [.ref l]<|[(Db "key",.ref f),(Db "default",.none)]) (EP X χ σ Q) X.xe s:=by
 have nm:(toString "max"++toString ".loop")="max.loop":=by decide
 have ψ:=dn.length;let⟨fo,gf⟩:=gf;let⟨bq,rv,pl,hz⟩:=Iv.list hl;refine kmk_tree PySem.F.kind_max PySem.F.plain_max PySem.F.entry_max (Hm _ _) ?_;show EQ (model X.prog X.w) X.A.in1 (Ix "max" ["key","default"] 0 ⟨[],[(Db "key",.ref f),(Db "default",.none)]⟩>>=_) _ _ s;rw[DD];refine T0<|P3<|T0<|P3<|T0<|A96 pl.isList ?_;refine T0<|A67 ?_;rw[nm];generalize Kf:s.heap.push {cls:=.type "list_iterator",data:=.fields #[.ref l,.int 0 0]}=HH;have hS:HH.objs.size=s.heap.objs.size+1:=by rw[<-Kf,A50]
 have gI0:HH.get? s.heap.objs.size=AC {cls:=.type "list_iterator",data:=.fields #[.ref l,.int 0 0]}:=by rw[<-Kf];exact A14 _ rfl
 have Ro:∀b o,s.heap.get? b=AC o->(HH.push {cls:=.type "list",data:=.seq ([]).toArray}).get? b=AC o:=λ b o e=>v6 _ (by rw[<-Kf];exact v6 _ e);have I1:=Iv.kept (t':=s.toks) Ro;have oI:=Off.fresh Iv (v4 _)<|Iv.b9.fresh<|v4 _;have oS:Off X χ H HH.objs.size:=Off.fresh Iv (by rw[hS];exact A57 _)<|Iv.b9.fresh (by rw[hS];exact A57 _);have yO:HH.objs.size≠s.heap.objs.size:=by rw[hS];exact A42<|A61 _
 have C!:=A12<|A01 gf;have C9:f≠HH.objs.size:=by rw[hS];exact A12<|B58<|A01 gf
 have gS:(HH.push {cls:=.type "list",data:=.seq ([]).toArray}).get? HH.objs.size=AC {cls:=.type "list",data:=.seq ([]).toArray}:=A14 _ rfl;have gI:(HH.push {cls:=.type "list",data:=.seq ([]).toArray}).get? s.heap.objs.size=AC {cls:=.type "list_iterator",data:=.fields #[.ref l,.int 0 0]}:=v6 _ gI0;have Ef:St H {s with heap:=HH.push {cls:=.type "list",data:=.seq ([]).toArray}}:=SY.un H H s _ Iv st (aJ.refl H) (SY.off H s st).free λ o e=>Ro f o e;have N5:=Ro f fo gf;generalize hS2:HH.objs.size=S at oS yO C9 gS;generalize hI2:s.heap.objs.size=I at oI yO C! gI;generalize qb:({s with heap:=HH.push {cls:=.type "list",data:=.seq ([]).toArray}})=s1 at I1 Ef;have e1:HH.push {cls:=.type "list",data:=.seq ([]).toArray}=s1.heap:=by rw[<-qb]
 rw[e1]at gS gI N5;refine P3 ⟨A86 A99 _,?_⟩;refine B15 C23 ?_;rw[B16 A99 _];cases ds with
 |nil=>refine T0<|A44 gS rfl<|T0<|A54<|uq (j:=0) cZ I1 hl ⟨_,gI,rfl,rfl⟩ oI (by simp at ψ;simp[ψ]) λ h1 t1 I2 k1=>?_;refine T0<|B29<|P3 ?_;cases ek;exact⟨.non,H,I2,rfl,k .non H (aJ.refl H) kY⟩
 |cons d0 dr=>unfold Z.pickK at ek;let⟨k0,ek0,ek⟩:=XV ek;refine T0<|A44 gS rfl<|T0<|A54<|pE (j:=0) cZ I1 hl ⟨_,gI,rfl,rfl⟩ oI (by simp at ψ;lia) λ u v1 h1 t1 GR IC I2 Ry k1=>?_;have g1:=k1 S _ yO gS;let⟨oi,N7,rI⟩:=id Ry;let⟨v',yI,dv⟩:=dn.get (i:=0) (d:=d0) rfl;rw[GR]at yI;cases yI;have BN:St H {s1 with heap:=h1,toks:=t1}:=SY.un H H s1 _ I1 Ef (aJ.refl H) (SY.off H s1 Ef).free λ o e=>k1 f o C! e;refine T0<|A54<|A38<|sQ KO SY I2 (aJ.refl H) BN IC dv ek0 oI oS N7 g1 ⟨fo,k1 f _ C! N5⟩ λ t3 H3 s3 I3 Hx Io ZT Gk gI3 Wd gf3=>?_;refine T0<|B17 Wd rfl ?_;rw[nm];have kp:∀b o,b≠S->s3.heap.get? b=AC o->(s3.heap.update S<|Obj.mapSeq λ _=>#[u,.int k0 t3]).get? b=AC o:=λ b o hb e=>(A62 _ _<|A05 hb).trans e;have I4:=I3.turned (t':=s3.toks) kp Gk.free Gk.loc (.inr Gk.new) Gk.cell Gk.pin;exact P3 ⟨A86 A99 _,C0 cZ KO SY yO C! C9 hl dn (λ H5 s5 u5 v5 I5 Ir Qo Sg=>⟨v5,H5,I5,Qo,k v5 H5 Ir Sg⟩) dr.length 1 0 H3 _ k0 d0 (by simp;lia) rfl ek ⟨I4,Hx,⟨oi,kp _ _ (A05 yO) gI3,rI⟩,ZT,Gk,u,v1,t3,_,GR,IC,A84 _ Wd rfl⟩ (SY.un H3 H3 s3 _ I3 Io (aJ.refl H3) (SY.off H3 s3 Io).free λ o e=>kp f o C9 e)<|let ⟨o,e⟩:=gf3;⟨o,kp f o C9 e⟩⟩
end
theorem y9(hL:vc X nm)(pH:X.A.in1.depth<recursionLimit)(hg:Gl X x)(hm:X.mg x=At)(hv:bootBuiltins x=AC (.builtin "max"))(ha:DW X a fa)
 (B:vj X.N N' 1 is scope X.env.scope) (LL:N'[0]?=AC y) (he:∀cl f c' s H,DE (CW X N' (jA nm) scope cl f c' s H) body fe)
 (l?:∀q cl pm c' rO u,bindArgs (kla_fn "<lambda>" q params body scope cl pm (.ref c') rO) ⟨[u],[]⟩=pure [(y,u)])
 (yM:defaultsOf params X.env=([],[]):=by rfl) (yL:scope.isGenerator=AT:=by rfl) (Kd:scope.isCoroutine=AT:=by rfl)
 (hc:X.calm=Ch:=by rfl) (hn:x≠ "__name__":=by decide +kernel) (gQ:Nd x:=by decide +kernel)
 (RG:Se a [] X.env:=by rfl) (R1:backTo pos (starEach (a::[]) X.env)=(AT,eval a X.env)::backTo pos (starEach [] X.env):=by rfl) (fQ:(backTo pos<|starEach (a::[]) X.env).any (·.1)=AT:=by rfl) :
 DE X (.Call (.Name x p1) [a] [⟨AC<|Str.ofString "key",.Lambda params body scope lp,kp⟩,⟨AC<|Str.ofString "default",.Constant .none jj cp,kp2⟩] pos) (Z.yY Ch (.ok .non) fa is fe):=by
 intro χ s σ H Q I h;let⟨ρ,d,r,e,k⟩:=h;let⟨dx,ea,e⟩:=XV e;let⟨c,P,h1,h2,h3,h4⟩:=hL;split at e
 .rename_i ds;refine A79<|kM I hg hm hv ?_ hn gQ;refine callWith_kw ?_ R1 fQ;refine cA (bH ha cP RG pos χ s σ H (λ vs H1=>∃v,vs=[v]/\aJ H H1/\bR X.K H1 (.lst ds) v) I ⟨ρ,_,r,ea,λ v H1 s1 d1=>⟨v,rfl,s1,d1⟩⟩) ?_;rintro us s1 ⟨vs,H1,I1,r1,q1⟩;let⟨v,rfl,sm,d1⟩:=q1;let⟨u,rfl,ru⟩:=vals1 r1;have rE:∀y∈scope.names,y.2=.free->∃c,X.env.cells.lookup y.1=AC c:=λ y hy hf=>I1.ok.has y.1<|B.free y hy hf;let⟨cl,kA,jB,uA⟩:=jY rE;refine kws_cons<|cA (AU h1 h2 h3 h4 yM kA I1) ?_;rintro w s2 ⟨f,c',pm,rO,H2,ew,I2,qt,LA⟩;subst ew;refine kws_cons<|Constant_none<|kws_nil ?_;obtain⟨q,vs,rfl,hq,tt⟩:=(d1.up qt).lst;cases ru;have Zu:=(r.up sm).up qt;refine Od (St:=λ H s=>FC X χ (jA nm) params body scope cl H s f c' pm rO) hc (λ H5 s5 u5 v5 d5 k5 I5 Ir xY Qo Sg ek5=>?_) ⟨λ _ _ st=>st.off,λ H5 H6 s5 s6 I5 xY Ir _X _z=>⟨xY.off.up _X,_z _ xY.obj,Ir _ _ xY.code⟩⟩ I2 LA ⟨_,LA.obj⟩ hq tt e λ v' H' s' d'=>k v' H' ((sm.trans qt).trans s') d';exact AV (x:=y) hc pH B LL yL Kd (λ u=>l? _ _ _ _ _ u) jB uA he xY I5 (Zu.up Ir) Qo Sg ek5
 .cases e
theorem Hl(a k:ζ):argsOk "min" ⟨[a],[(Db "key",k)]⟩:=by kernel_rfl
theorem DC(k:ζ):Ix "min" ["key","default"] 0 ⟨[],[(Db "key",k)]⟩=pure [AC k,At]:=by kernel_rfl
section
variable{St:Hp->η->Prop}
theorem Oc(cZ:X.calm=Ch)(KO:BI X χ σ H f St e)(SY:Lr X χ σ f St)(Iv:Inv X χ σ H s)(st:St H s)(gf:∃o,s.heap.get? f=AC o)(hl:jw X.K H l vs)(dn:aE X.K H ds vs)(ek:Z.pickK AT .bad e ds=.ok r)
 (k:∀v H',aJ H H'->Den X.K H' r v->Q v H'):EQ (model X.prog X.w) X.A (call (.builtin "min") [.ref l]<|[(Db "key",.ref f)]) (EP X χ σ Q) X.xe s:=by
 have nm:(toString "min"++toString ".loop")="min.loop":=by decide
 have ψ:=dn.length;let⟨fo,gf⟩:=gf;let⟨bq,rv,pl,hz⟩:=Iv.list hl;refine kmk_tree PySem.F.kind_min PySem.F.plain_min PySem.F.entry_min (Hl _ _) ?_;show EQ (model X.prog X.w) X.A.in1 (Ix "min" ["key","default"] 0 ⟨[],[(Db "key",.ref f)]⟩>>=_) _ _ s;rw[DC];refine T0<|P3<|T0<|P3<|T0<|A96 pl.isList ?_;refine T0<|A67 ?_;rw[nm];generalize Kf:s.heap.push {cls:=.type "list_iterator",data:=.fields #[.ref l,.int 0 0]}=HH;have hS:HH.objs.size=s.heap.objs.size+1:=by rw[<-Kf,A50]
 have gI0:HH.get? s.heap.objs.size=AC {cls:=.type "list_iterator",data:=.fields #[.ref l,.int 0 0]}:=by rw[<-Kf];exact A14 _ rfl
 have Ro:∀b o,s.heap.get? b=AC o->(HH.push {cls:=.type "list",data:=.seq ([]).toArray}).get? b=AC o:=λ b o e=>v6 _ (by rw[<-Kf];exact v6 _ e);have I1:=Iv.kept (t':=s.toks) Ro;have oI:=Off.fresh Iv (v4 _)<|Iv.b9.fresh<|v4 _;have oS:Off X χ H HH.objs.size:=Off.fresh Iv (by rw[hS];exact A57 _)<|Iv.b9.fresh (by rw[hS];exact A57 _);have yO:HH.objs.size≠s.heap.objs.size:=by rw[hS];exact A42<|A61 _
 have C!:=A12<|A01 gf;have C9:f≠HH.objs.size:=by rw[hS];exact A12<|B58<|A01 gf
 have gS:(HH.push {cls:=.type "list",data:=.seq ([]).toArray}).get? HH.objs.size=AC {cls:=.type "list",data:=.seq ([]).toArray}:=A14 _ rfl;have gI:(HH.push {cls:=.type "list",data:=.seq ([]).toArray}).get? s.heap.objs.size=AC {cls:=.type "list_iterator",data:=.fields #[.ref l,.int 0 0]}:=v6 _ gI0;have Ef:St H {s with heap:=HH.push {cls:=.type "list",data:=.seq ([]).toArray}}:=SY.un H H s _ Iv st (aJ.refl H) (SY.off H s st).free λ o e=>Ro f o e;have N5:=Ro f fo gf;generalize hS2:HH.objs.size=S at oS yO C9 gS;generalize hI2:s.heap.objs.size=I at oI yO C! gI;generalize qb:({s with heap:=HH.push {cls:=.type "list",data:=.seq ([]).toArray}})=s1 at I1 Ef;have e1:HH.push {cls:=.type "list",data:=.seq ([]).toArray}=s1.heap:=by rw[<-qb]
 rw[e1]at gS gI N5;refine P3 ⟨A86 B00 _,?_⟩;refine B15 C24 ?_;rw[B16 B00 _];cases ds with
 |nil=>cases ek
 |cons d0 dr=>unfold Z.pickK at ek;let⟨k0,ek0,ek⟩:=XV ek;refine T0<|A44 gS rfl<|T0<|A54<|pE (j:=0) cZ I1 hl ⟨_,gI,rfl,rfl⟩ oI (by simp at ψ;lia) λ u v1 h1 t1 GR IC I2 Ry k1=>?_;have g1:=k1 S _ yO gS;let⟨oi,N7,rI⟩:=id Ry;let⟨v',yI,dv⟩:=dn.get (i:=0) (d:=d0) rfl;rw[GR]at yI;cases yI;have BN:St H {s1 with heap:=h1,toks:=t1}:=SY.un H H s1 _ I1 Ef (aJ.refl H) (SY.off H s1 Ef).free λ o e=>k1 f o C! e;refine T0<|A54<|A38<|sQ KO SY I2 (aJ.refl H) BN IC dv ek0 oI oS N7 g1 ⟨fo,k1 f _ C! N5⟩ λ t3 H3 s3 I3 Hx Io ZT Gk gI3 Wd gf3=>?_;refine T0<|B17 Wd rfl ?_;rw[nm];have kp:∀b o,b≠S->s3.heap.get? b=AC o->(s3.heap.update S<|Obj.mapSeq λ _=>#[u,.int k0 t3]).get? b=AC o:=λ b o hb e=>(A62 _ _<|A05 hb).trans e;have I4:=I3.turned (t':=s3.toks) kp Gk.free Gk.loc (.inr Gk.new) Gk.cell Gk.pin;exact P3 ⟨A86 B00 _,CZ cZ KO SY yO C! C9 hl dn (λ H5 s5 u5 v5 I5 Ir Qo Sg=>⟨v5,H5,I5,Qo,k v5 H5 Ir Sg⟩) dr.length 1 0 H3 _ k0 d0 (by simp;lia) rfl ek ⟨I4,Hx,⟨oi,kp _ _ (A05 yO) gI3,rI⟩,ZT,Gk,u,v1,t3,_,GR,IC,A84 _ Wd rfl⟩ (SY.un H3 H3 s3 _ I3 Io (aJ.refl H3) (SY.off H3 s3 Io).free λ o e=>kp f o C9 e)<|let ⟨o,e⟩:=gf3;⟨o,kp f o C9 e⟩⟩
end
theorem y8(hL:vc X nm)(pH:X.A.in1.depth<recursionLimit)(hg:Gl X x)(hm:X.mg x=At)(hv:bootBuiltins x=AC (.builtin "min"))(ha:DW X a fa)
 (B:vj X.N N' 1 is scope X.env.scope) (LL:N'[0]?=AC y) (he:∀cl f c' s H,DE (CW X N' (jA nm) scope cl f c' s H) body fe)
 (l?:∀q cl pm c' rO u,bindArgs (kla_fn "<lambda>" q params body scope cl pm (.ref c') rO) ⟨[u],[]⟩=pure [(y,u)])
 (yM:defaultsOf params X.env=([],[]):=by rfl) (yL:scope.isGenerator=AT:=by rfl) (Kd:scope.isCoroutine=AT:=by rfl)
 (hc:X.calm=Ch:=by rfl) (hn:x≠ "__name__":=by decide +kernel) (gQ:(x==("__debug__"))=AT:=by decide +kernel)
 (RG:Se a [] X.env:=by rfl) (R1:backTo pos (starEach (a::[]) X.env)=(AT,eval a X.env)::backTo pos (starEach [] X.env):=by rfl) (fQ:(backTo pos<|starEach (a::[]) X.env).any (·.1)=AT:=by rfl) :
 DE X (.Call (.Name x p1) [a] [⟨AC<|Str.ofString "key",.Lambda params body scope lp,kp⟩] pos) (Z.yY AT .bad fa is fe):=by
 intro χ s σ H Q I h;let⟨ρ,d,r,e,k⟩:=h;let⟨dx,ea,e⟩:=XV e;let⟨c,P,h1,h2,h3,h4⟩:=hL;split at e
 .rename_i ds;refine A79<|kM I hg hm hv ?_ hn gQ;refine callWith_kw ?_ R1 fQ;refine cA (bH ha cP RG pos χ s σ H (λ vs H1=>∃v,vs=[v]/\aJ H H1/\bR X.K H1 (.lst ds) v) I ⟨ρ,_,r,ea,λ v H1 s1 d1=>⟨v,rfl,s1,d1⟩⟩) ?_;rintro us s1 ⟨vs,H1,I1,r1,q1⟩;let⟨v,rfl,sm,d1⟩:=q1;let⟨u,rfl,ru⟩:=vals1 r1;have rE:∀y∈scope.names,y.2=.free->∃c,X.env.cells.lookup y.1=AC c:=λ y hy hf=>I1.ok.has y.1<|B.free y hy hf;let⟨cl,kA,jB,uA⟩:=jY rE;refine kws_cons<|cA (AU h1 h2 h3 h4 yM kA I1) ?_;rintro w s2 ⟨f,c',pm,rO,H2,ew,I2,qt,LA⟩;subst ew;refine kws_nil ?_;obtain⟨q,vs,rfl,hq,tt⟩:=(d1.up qt).lst;cases ru;have Zu:=(r.up sm).up qt;refine Oc (St:=λ H s=>FC X χ (jA nm) params body scope cl H s f c' pm rO) hc (λ H5 s5 u5 v5 d5 k5 I5 Ir xY Qo Sg ek5=>?_) ⟨λ _ _ st=>st.off,λ H5 H6 s5 s6 I5 xY Ir _X _z=>⟨xY.off.up _X,_z _ xY.obj,Ir _ _ xY.code⟩⟩ I2 LA ⟨_,LA.obj⟩ hq tt e λ v' H' s' d'=>k v' H' ((sm.trans qt).trans s') d';exact AV hc pH B LL yL Kd (λ u=>l? _ _ _ _ _ u) jB uA he xY I5 (Zu.up Ir) Qo Sg ek5
 .cases e
theorem Ab(r:bG (k+2) A)(env:PySem.Env):bG k (A.in1.deeper env):=(bG.in1 r).deeper env
theorem IG(r:bG k A):A.in1.depth<recursionLimit:=r.depth
def OY(K:Frag)(mg:Str->ε ζ)(x:Str):Prop:=∃c P,tabIn K x=AC (c,P)/\∀f fd oc od sl,mg x=AC (.ref f)->K.lookup f=AC ⟨oc,od,.func fd,sl⟩->fd.code=.ref c
theorem Nt{K:Frag}(X:K.In h)(G:h.Ns mainGlobals mg)(t:tabIn K x=AC (c,P)):OY K mg x:=⟨c,P,t,λ f fd oc od sl hm hl=>law_code X G t hm (X _ _ hl) rfl⟩
def SO(K:Frag)(x:Str)(ba:ζ):Prop:=∃c P,ba=.ref c/\tabIn K x=AC (c,P)
theorem ET{K:Frag}(h:SO K x cd)(hx:x∈dD):
 vc (dU CX P w K mg base N x scope f cd A outer s H E).gE x:=by
 let⟨c,p,e,t⟩:=h;exact⟨c,p,hx,t,e,rfl⟩
section
variable{K:Da}
theorem aan{st:θ}(F:BJ K x qual st f fd)(S:aY N ps (aj st))
 (hb:∀ A outer s H E,bG k (A.deeper<|envOfC qual (aj st) s.heap.objs.size f fd.code) ->
  LY (dU iK P w K mg base N qual (aj st) f fd.code A outer s H E).gE H (aL st) b):ee P w K mg base iK (k+1) f fd ps (zo K<|Z.fn ps.length N.length b):=by
 have ψ:∀vs H Q E,zo K (Z.fn ps.length N.length b) vs H Q E->vs.length=ps.length:=by
  rintro vs H Q E ⟨ds,d,t,e,_⟩;unfold Z.fn at e;split at e
  .rename_i h;rw[t.length];exact h
  .cases e
 let⟨oc,od,kV,doc,pm,an,ba,ct,uc,rfl,lk,nH⟩:=F.ex;refine uH lk nH S ψ λ A outer s H vs Q E hr h=>?_;refine⟨_,qZ.gE<|hb A outer s H E hr,?_⟩;have hl:=ψ vs H Q E h;let⟨ds,d,t,e,k⟩:=h;have fQ:ps.length<=N.length:=by have:=A15 List.length S.pre;rw[A24]at this;lia
 have rs:RS K H H (L2.start N vs) (Z.start N.length ds):=mD t ∅;unfold Z.fn at e;split at e
 .cases eb:b (Z.start N.length ds)with
  |bad=>rw[eb]at e;cases e
  |ok fl=>
   rw[eb]at e;refine⟨_,fl,rs,eb,?_⟩;cases fl with
   |rt d'=>cases e;exact λ v H' s' dv=>k v H' s' dv
   |nx ρ'=>cases e;exact λ σ' H' _ Em=>k .non H' Em.same kY
   |bk ρ'=>cases e
   |ct ρ'=>cases e
 .cases e
theorem aaO{st:θ}(d:Def K mg x st ps)(S:aY N ps (aj st))(L:OY K mg x)
 (hb:∀ f ba A outer s H E,SO K x ba->bG k (A.deeper<|envOfC x (aj st) s.heap.objs.size f ba) ->
  LY (dU iK P w K mg base N x (aj st) f ba A outer s H E).gE H (aL st) b):ib P w K mg base x (k+1) ps (Z.fn ps.length N.length b):=by
 let⟨f,fd,F,hm,sS⟩:=d.ex;let⟨c,p,t,hc⟩:=L;have hfd:fd.code=.ref c:=by let⟨oc,od,kV,doc,pm,an,ba,ct,uc,e,lk,nH⟩:=F.ex;exact hc f fd _ _ _ hm lk
 exact⟨f,fd,aan F S λ A outer s H E hr=>hb f _ A outer s H E ⟨c,p,hfd,t⟩ hr,hm,F.kp,sS⟩
end
end ZS
namespace ZQ
open L2 PySem.W ZS
theorem y9(hL:vc X nm)(pH:X.A.in1.depth<recursionLimit)(hg:Gl X x)(hm:X.mg x=At)(hv:bootBuiltins x=AC (.builtin "max"))(ha:QW X a fa)
 (B:vj X.N N' 1 is scope X.env.scope) (LL:N'[0]?=AC y) (he:∀cl f c' s H,QE (CW X N' (jA nm) scope cl f c' s H) body fe)
 (l?:∀q cl pm c' rO u,bindArgs (kla_fn "<lambda>" q params body scope cl pm (.ref c') rO) ⟨[u],[]⟩=pure [(y,u)])
 (yM:defaultsOf params X.env=([],[]):=by rfl) (yL:scope.isGenerator=AT:=by rfl) (Kd:scope.isCoroutine=AT:=by rfl)
 (hc:X.calm=Ch:=by rfl) (hn:x≠ "__name__":=by decide +kernel) (gQ:Nd x:=by decide +kernel)
 (RG:Se a [] X.env:=by rfl) (R1:backTo pos (starEach (a::[]) X.env)=(AT,eval a X.env)::backTo pos (starEach [] X.env):=by rfl) (fQ:(backTo pos<|starEach (a::[]) X.env).any (·.1)=AT:=by rfl) :
 QE X (.Call (.Name x p1) [a] [⟨AC<|Str.ofString "key",.Lambda params body scope lp,kp⟩,⟨AC<|Str.ofString "default",.Constant .none jj cp,kp2⟩] pos) (Z.yY Ch (.ok .non) fa is fe):=
 ⟨ZS.y9 hL pH hg hm hv ha.p B LL (λ cl f c' s H=>(he cl f c' s H).p) l? yM yL Kd hc hn gQ RG R1 fQ⟩
theorem y8(hL:vc X nm)(pH:X.A.in1.depth<recursionLimit)(hg:Gl X x)(hm:X.mg x=At)(hv:bootBuiltins x=AC (.builtin "min"))(ha:QW X a fa)
 (B:vj X.N N' 1 is scope X.env.scope) (LL:N'[0]?=AC y) (he:∀cl f c' s H,QE (CW X N' (jA nm) scope cl f c' s H) body fe)
 (l?:∀q cl pm c' rO u,bindArgs (kla_fn "<lambda>" q params body scope cl pm (.ref c') rO) ⟨[u],[]⟩=pure [(y,u)])
 (yM:defaultsOf params X.env=([],[]):=by rfl) (yL:scope.isGenerator=AT:=by rfl) (Kd:scope.isCoroutine=AT:=by rfl)
 (hc:X.calm=Ch:=by rfl) (hn:x≠ "__name__":=by decide +kernel) (gQ:(x==("__debug__"))=AT:=by decide +kernel)
 (RG:Se a [] X.env:=by rfl) (R1:backTo pos (starEach (a::[]) X.env)=(AT,eval a X.env)::backTo pos (starEach [] X.env):=by rfl) (fQ:(backTo pos<|starEach (a::[]) X.env).any (·.1)=AT:=by rfl) :
 QE X (.Call (.Name x p1) [a] [⟨AC<|Str.ofString "key",.Lambda params body scope lp,kp⟩] pos) (Z.yY AT .bad fa is fe):=
 ⟨ZS.y8 hL pH hg hm hv ha.p B LL (λ cl f c' s H=>(he cl f c' s H).p) l? yM yL Kd hc hn gQ RG R1 fQ⟩
theorem PR{K:Da}{st:θ}(d:ZS.Def K mg x st ps)(S:aY N ps (aj st))(L:ZS.OY K mg x)
 (hb:∀ f ba A outer s H E,ZS.SO K x ba->bG k (A.deeper<|envOfC x (aj st) s.heap.objs.size f ba) ->
  BH (dU iK P w K mg base N x (aj st) f ba A outer s H E).gE H (aL st) b):ZS.ib P w K mg base x (k+1) ps (Z.fn ps.length N.length b):=
 ZS.aaO d S L λ f ba A outer s H E hl hr=>(hb f ba A outer s H E hl hr).p
end ZQ
namespace ZS
open L2 PySem.W
def ck(K:Frag)(n:Str)(st:θ):Prop:=∃(f:δ)(od an:ε δ)(sl:Array (ε ζ))(oc kV dc pm cd ct:ζ),nsIn K mainGlobals n=AC (AC<|.ref f)/\K.lookup f=AC ⟨oc,od,.func<|fnOf n n (bA st) (aL st) (aj st) .none kV dc pm an cd ct,sl⟩/\codeIn K cd n=Ch/\keepIn K (.ref f)=Ch
def p?(K:Frag)(n:Str)(st:θ):Prop:=∃(f t:δ)(od an td:ε δ)(sl ts:Array (ε ζ))(tn:Nat)(oc kV dc pm cd ct tc:ζ),nsIn K mainGlobals n=AC (AC<|.ref f)/\K.lookup f=AC ⟨oc,od,.func<|fnOf n n (bA st) (aL st) (aj st) (.ref t) kV dc pm an cd ct,sl⟩/\codeIn K cd n=Ch/\keepIn K (.ref f)=Ch/\K.lookup t=AC ⟨tc,td,.seq #[.none] tn,ts⟩
def ve(K:Frag)(n:Str)(st:θ):Prop:=ck K n st/\∃c p,tabIn K n=AC (c,p)
section
variable{K:Frag}{st:θ}
theorem ck.mk'{oc kV dc pm cd ct:ζ}(a:nsIn K mainGlobals n=AC (AC<|.ref f))(l:K.lookup f=AC ⟨oc,od,.func<|fnOf n n (bA st) (aL st) (aj st) .none kV dc pm an cd ct,sl⟩)(c:codeIn K cd n=Ch)(k:keepIn K (.ref f)=Ch):ck K n st:=⟨f,od,an,sl,oc,kV,dc,pm,cd,ct,a,l,c,k⟩
theorem p?.mk'{oc kV dc pm cd ct tc:ζ}(a:nsIn K mainGlobals n=AC (AC<|.ref f))(l:K.lookup f=AC ⟨oc,od,.func<|fnOf n n (bA st) (aL st) (aj st) (.ref t) kV dc pm an cd ct,sl⟩)(c:codeIn K cd n=Ch)(k:keepIn K (.ref f)=Ch)(q:K.lookup t=AC ⟨tc,td,.seq #[.none] tn,ts⟩):p? K n st:=⟨f,t,od,an,td,sl,ts,tn,oc,kV,dc,pm,cd,ct,tc,a,l,c,k,q⟩
theorem ve.mk'{oc kV dc pm ct to:ζ}(a:nsIn K mainGlobals n=AC (AC<|.ref f))(l:K.lookup f=AC ⟨oc,od,.func<|fnOf n n (bA st) (aL st) (aj st) .none kV dc pm an (.ref cc) ct,sl⟩)(c:codeIn K (.ref cc) n=Ch)(k:keepIn K (.ref f)=Ch)(tl:K.lookup cc=AC ⟨to,td,.fields tv,ts⟩)(tp:tv[11]?=AC (.ref pp)):ve K n st:=⟨⟨f,od,an,sl,oc,kV,dc,pm,_,ct,a,l,c,k⟩,cc,pp,tR a l rfl tl tp⟩
theorem ck.df(d:ck K n st)(X:K.In h)(G:h.Ns mainGlobals mg)(hb:∀kV doc pm an ba ct us,us.length=ps.length->bindArgs (fnOf n n (bA st) (aL st) (aj st) .none kV doc pm an ba ct) ⟨us,[]⟩=pure (ps.zip us):=by intro _ _ _ _ _ _;first|exact ZS.bd1 λ _=>rfl|exact ZS.YE λ _ _=>rfl|exact ZS.bd3 λ _ _ _=>rfl|exact ZS.bd4 λ _ _ _ _=>rfl|exact ZS.bd5 λ _ _ _ _ _=>rfl|exact ZS.bd6 λ _ _ _ _ _ _=>rfl):Def K mg n st ps:=by let⟨f,od,an,sl,oc,kV,dc,pm,cd,ct,a,l,c,k⟩:=d;have F:=qK l c k;exact⟨f,_,F,mg_of X G a,F.binds hb⟩
theorem p?.df(d:p? K n st)(X:K.In h)(G:h.Ns mainGlobals mg)
 (h1:∀t kV doc pm an ba ct us,us.length=ps.length->∃kk,bindArgs (fnOf n n (bA st) (aL st) (aj st) (.ref t) kV doc pm an ba ct) ⟨us,[]⟩=seqItems? (.ref t)>>=kk/\kk (AC #[.none])=pure (ps.zip us))
 (h2:∀t kV doc pm an ba ct us,us.length+1=ps.length->∃kk,bindArgs (fnOf n n (bA st) (aL st) (aj st) (.ref t) kV doc pm an ba ct) ⟨us,[]⟩=seqItems? (.ref t)>>=kk/\kk (AC #[.none])=pure (ps.zip<|us++[.none])):Hu K mg n st ps:=by
 let⟨f,t,od,an,td,sl,ts,tn,oc,kV,dc,pm,cd,ct,tc,a,l,c,k,q⟩:=d;exact Om l c k q (mg_of X G a) (h1 t kV dc pm an cd ct)<|h2 t kV dc pm an cd ct
theorem ck.law(d:ck K n st)(X:K.In h)(G:h.Ns mainGlobals mg)(GW:mg n=AC (.ref fa))(hb:∀kV doc pm an ba ct s v,BindsTo s (fnOf n n (bA st) (aL st) (aj st) .none kV doc pm an ba ct) ⟨[v],[]⟩ [(x,v)]):∃fd,(∀s v,BindsTo s fd ⟨[v],[]⟩ [(x,v)])/\BJ K n n st fa fd:=by let⟨f,od,an,sl,oc,kV,dc,pm,cd,ct,a,l,c,k⟩:=d;have e:=GW.symm.trans<|mg_of X G a;cases e;exact⟨_,hb kV dc pm an cd ct,qK l c k⟩
theorem ve.lam(d:ve K n st)(X:K.In h)(G:h.Ns mainGlobals mg):OY K mg n:=let ⟨c,p,t⟩:=d.2;Nt X G t
end
end ZS
namespace ZQ
open L2
def Vl(sc:τ)(x:Str):Bool:=match sc.names.lookup x with
|some .local=>Ch
|some .cell=>Ch
|_=>AT
theorem lo(h:Vl sc x=Ch):Loc sc x:=by
 unfold Vl at h;split at h
 .rename_i e;exact .inl e
 .rename_i e;exact .inr e
 .cases h
end ZQ
namespace ZS
open L2
section
open PySem.SeqAt
open PySem.AutoSeq1 (wpAny_loadPart')
open PySem.MeetsSeq PySem.MeetsSeq2 PySem.MeetsSeq3
end
section
open PySem.SeqAt
open PySem.AutoSeq1 (wpAny_loadPart')
open PySem.MeetsSeq PySem.MeetsSeq2 PySem.MeetsSeq3
end
section
variable{X:Cx}
end
open PySem.W
structure KL0(X:Cx)(χ:List (Addr×Obj))(σ:St)(H:Hp)(l I S:Addr)(s:Shared)(j:Nat)(db:Z.D):Prop where
 inv:Inv X χ σ H s
 it:s.heap.IsListIter I l j
 CI:Off X χ H I
 qA:Off X χ H S
 best:∃b v c,Den X.K H db v/\RelV v b/\s.heap.get? S=AC (held b b c)
end ZS
namespace ZQ
open L2 ZS
end ZQ
namespace Z
abbrev XN:=γ Nat×γ (γ Nat×D)
abbrev XF:=Env->ε XN
def wu(_:Env):ε XN:=At
def f?(m:γ D->ε XN)(as:AF)(ρ:Env):ε XN:=match as ρ with
|.ok ds=>m ds
|.bad=>At
def jx(a:SF)(xa xb:XF)(ρ:Env):ε XN:=match xa ρ with
|some c=>AC c
|none=>match a ρ with
 |.ok<|.nx ρ'=>xb ρ'
 |_=>At
def BX(t:TF)(a b:XF)(ρ:Env):ε XN:=match t ρ with
|.ok c=>if c then a ρ else b ρ
|.bad=>At
def lN(c:γ Nat)(a:EF)(ρ:Env):ε XN:=match a ρ with
|.ok _=>AC (c,[])
|.bad=>At
def fx(ps n:Nat)(b:XF)(ds:γ D):ε XN:=if ds.length=ps then b (start n ds)else At
theorem Wg(ps n:Nat)(b:XF)(ds:γ D)(h:ds.length=ps):fx ps n b ds=b (start n ds):=M2 h
end Z
namespace ZS
open L2 PySem.W
theorem Jk(x:fD P w H h a o):∃ob,h.get? a=AC ob:=by
 cases o with
 |lst xs=>let⟨_,_,_,_,e⟩:=x;exact⟨_,e⟩
 |tup xs=>let⟨_,_,_,tn⟩:=x;let⟨ob,e,_⟩:=tn.is;exact⟨_,e⟩
 |dK a9=>let⟨_,_,_,_,o,_,_,e,_⟩:=x;exact⟨_,e⟩
 |dT a9=>let⟨_,_,_,_,o,_,_,e,_⟩:=x;exact⟨_,e⟩
 |set S n=>let⟨o,_,_,_,e,_⟩:=x;exact⟨_,e⟩
 |ins C dx fs=>let⟨_,_,_,e,_⟩:=x;exact⟨_,e⟩
 |own y=>let⟨_,e⟩:=x;exact⟨_,e⟩
 |xd fs=>let⟨_,⟨_,_,_,e,_⟩,_⟩:=x;exact⟨_,e⟩
 |Xx lo hi=>let⟨_,_,_,e⟩:=x;exact⟨_,e⟩
 |fF ob u=>let⟨e,_⟩:=x;exact⟨_,e⟩
 |Ia q=>let⟨_,e,_⟩:=x;exact⟨_,e⟩
 |LS q=>let⟨_,_,_,_,e1,e2,_⟩:=x;cases e1;exact⟨_,e2⟩
 |met f y=>exact⟨_,(x)⟩
 |ext φ=>let⟨_,⟨_,e⟩,_⟩:=x;exact⟨_,e⟩
section
variable{X:Cx}{χ:γ (δ×μ)}{σ:St}{H H':Hp}{s:η}{h':ν}
theorem Im{ch:γ δ}(I:Inv X χ σ H s)
 (BR:∀b∈ch,X.s₀.heap.get? b=At/\b≠X.env.locals/\(∀x c,X.env.cells.lookup x=AC c->c≠b)/\∀p∈X.pn++χ,p.1≠b)
 (keep:∀b o,b≠X.env.locals->b∉X.fs->b∉ch->s.heap.get? b=AC o->H b=At->h'.get? b=AC o)
 (slot:∀b o,b≠X.env.locals->b∈X.fs->b∉ch->s.heap.get? b=AC o->H b=At->∃sl,h'.get? b=AC {o with slots:=sl}) (free:∀b o,b∉ch->s.heap.get? b=AC o->H b=At->H' b=At)
 (there:∀b o,b∉ch->s.heap.get? b=AC o->∃o',h'.get? b=AC o')
 (tO:∀b xs,H b=AC (.tup xs)->H' b=AC (.tup xs)) (sv:∀b o u,H b=AC (.fF o u)->H' b=AC (.fF o u)) (o5:∀b u,TL u->H b=AC u->H' b=AC u)
 (ns:∀m,s.heap.Ns X.env.locals m->h'.Ns X.env.locals m) (b9:lM X.prog X.w H' h') (hg:AllBare g') :
 Inv X χ σ H' {s with heap:=h',gens:=g',drawn:=d',toks:=t'}:=by
 have U_:∀b o,X.s₀.heap.get? b=AC o->b≠X.env.locals:=λ b o e=>A12<|A16 (A01 e) I.ok.above;have Jv:∀b o,X.s₀.heap.get? b=AC o->b∉ch:=λ b o e hb=>by rw[(BR b hb).1]at e;cases e
 have cellK:∀x c,X.env.cells.lookup x=AC c->∀v,s.heap.IsCell c v->h'.IsCell c v:=by
  rintro x c e v ⟨o,ho,hd⟩;have AE:=λ z=>(BR c z).2.2.1 x c e rfl;by_cases hc:c∈X.fs
  .let⟨sl,q⟩:=slot c o (I.OD x c e) hc AE ho (I.gW x c e);exact⟨_,q,hd⟩
  .exact⟨o,keep c o (I.OD x c e) hc AE ho<|I.gW x c e,hd⟩
 refine⟨I.ok,I.os,hg,⟨λ b o e n hb hx=>?_,λ b o e n hb hx=>?_,λ b o e n hx=>?_,λ b o e hx=>?_,λ b xs e=>tO b xs<|I.base.tO b xs e,λ b o xs e=>sv b o xs<|I.base.sv b o xs e,λ b u p e=>o5 b u p<|I.base.o5 b u p e⟩,?_,λ x c e=>?_,?_,λ x c e=>?_,λ p hp=>?_,b9,I.len,I.tab.up o5⟩
 .exact keep b o (U_ b o e) hb (Jv b o e) (I.base.keep b o e n hb hx)<|I.base.free b o e n hx
 .let⟨sl,e1⟩:=I.base.slot b o e n hb hx;let⟨Zg,e2⟩:=slot b _ (U_ b o e) hb (Jv b o e) e1 (I.base.free b o e n hx);exact⟨Zg,e2⟩
 .let⟨o',e1⟩:=I.base.there b o e hx;exact free b o' (Jv b o e) e1<|I.base.free b o e n hx
 .let⟨o',e1⟩:=I.base.there b o e hx;exact there b o' (Jv b o e) e1
 .let⟨m,hn,hl⟩:=I.loc;refine⟨m,ns m hn,λ i x v e1 e2 e3=>?_⟩;let⟨u,r,l⟩:=hl i x v e1 e2 e3;refine⟨u,r,?_⟩;rcases l with l|⟨k,c,e,z⟩
  .exact .inl l
  .exact .inr ⟨k,c,e,cellK x c e _ z⟩
 .let⟨v,z⟩:=I.cell x c e;exact⟨v,cellK x c e v z⟩
 .let⟨m,⟨o,_,_,ho,_⟩,_⟩:=I.loc;exact free _ o (λ z=>(BR _ z).2.1 rfl) ho I.free
 .let⟨v,o,ho,hd⟩:=I.cell x c e;exact free c o (λ z=>(BR c z).2.2.1 x c e rfl) ho<|I.gW x c e
 .let⟨e,n,ne,nf,d⟩:=I.pin p hp;have AE:=λ z=>(BR p.1 z).2.2.2 p hp rfl;exact⟨keep p.1 p.2 ne nf AE e n,free p.1 p.2 AE e n,ne,nf,d⟩
structure oO(X:Cx)(χ:List (Addr×Obj))(H:Hp)(s:Shared)(a:Addr):Prop where
 free:H a=At
 new:X.s₀.heap.get? a=At
 pin:∀p∈X.pn++χ,p.1≠a
 Z_:∃o vs,s.heap.get? a=AC o/\o.data=.fields vs
theorem oO.loc(o:oO X χ H s a)(I:Inv X χ σ H s):a≠X.env.locals:=λ z=>by let⟨ob,vs,e,d⟩:=o.Z_;let⟨m,⟨o',es,ep,pI,qI,_⟩,_⟩:=I.loc;rw[z,pI]at e;cases e;rw[qI]at d;cases d
theorem oO.cell(o:oO X χ H s a)(I:Inv X χ σ H s)(x:Str)(c:δ)(hc:X.env.cells.lookup x=AC c):c≠a:=λ z=>by let⟨ob,vs,e,d⟩:=o.Z_;let⟨v,o',pI,qI⟩:=I.cell x c hc;rw[z,e]at pI;cases pI;rw[d]at qI;cases qI
theorem absent(I:Inv X χ σ H s)(h:s.heap.get? a=At):H a=At/\X.s₀.heap.get? a=At\/a∈X.ex:=by
 by_cases hx:a∈X.ex
 .exact .inr hx
 .refine .inl ⟨?_,?_⟩
  .cases e:H a with
   |none=>rfl
   |some u=>let⟨ob,q⟩:=Jk (I.b9 a u e);rw[h]at q;cases q
  .cases e:X.s₀.heap.get? a with
   |none=>rfl
   |some o=>let⟨o',q⟩:=I.base.there a o e hx;rw[h]at q;cases q
theorem Inv.snap(I:Inv X χ σ H s)(off:∀a∈l,oO X χ H s a)(k1:(hideAll s.heap<|uG X.stack++l).StaysIn h')
 (k4:∀b o,s.heap.get? b=AC o->(∀vs,o.data≠.fields vs)->∃sl,h'.get? b=AC {o with slots:=sl}):Inv X χ σ H {s with heap:=h',toks:=t'}:=by
 have Yc:=λ b o n1 n2 e=>k1 b o<|hideAll_get _ e λ z=>(A37.mp z).elim n1 n2;have Qh:∀b u,H b=AC u->b∉uG _/\b∉l:=λ b u e=>⟨λ z=>(by rw[I.sH b z]at e;cases e),λ z=>(by rw[(off b z).free]at e;cases e)⟩
 refine Im I (λ b hb=>⟨(off b hb).new,(off b hb).loc I,(off b hb).cell I,(off b hb).pin⟩) (λ b o hL hf hc e n=>Yc b o (λ z=>(A00.mp<|I.qr b z).elim hL hf) hc e) (λ b o hL hf hc e n=>?_) (λ _ _ _ _ n=>n) (λ b o hc e=>?_) (λ _ _ e=>e) (λ _ _ _ e=>e) (λ _ _ _ e=>e) (λ m hm=>?_) (λ b u e=>?_) I.bare
 .let⟨_,o',pI,qI⟩:=I.m?.mem hf;rw[e]at pI;cases pI;exact k4 b o e qI
 .by_cases hz:b∈uG X.stack
  .let⟨_,o',pI,qI⟩:=I.stack.mem hz;rw[e]at pI;cases pI;let⟨sl,q⟩:=k4 b o e qI;exact⟨_,q⟩
  .exact⟨o,Yc b o hz hc e⟩
 .let⟨o,es,ep,ho,hd,r⟩:=hm;let⟨sl,q⟩:=k4 _ o ho (λ vs z=>by rw[hd]at z;cases z);exact⟨_,es,ep,q,hd,r⟩
 .refine(I.b9 b u e).rZ (λ c v hc q=>?_) (λ _ q=>q) (λ _ _ q=>q) λ _ _ _ q=>q;rcases hc with rfl|hc
  .exact Yc c v (Qh c u e).1 (Qh c u e).2 q
  .exact Yc c v (Qh c _ hc).1 (Qh c _ hc).2 q
theorem z8(hex:X.ex=[])(I:Inv X χ σ H s)(off:∀a∈l,oO X χ H s a)(k2:h'.FunFrames (hideAll s.heap<|uG X.stack++l) X.stack)
 (hT:(hideAll s.heap<|uG X.stack++l).get? T=At) (hT':h'.get? T=AC oT) (hd:oT.data=.fields ts):H T=At/\X.s₀.heap.get? T=At/\∀p∈X.pn++χ,p.1≠T:=by
 have nst:T∉uG _:=λ z=>by let⟨_,o',pI,qI⟩:=k2.mem z;rw[hT']at pI;cases pI;exact qI ts hd
 by_cases hl:T∈l
 .exact⟨(off T hl).free,(off T hl).new,(off T hl).pin⟩
 .have hn:s.heap.get? T=At:=by
   cases e:s.heap.get? T with
   |none=>rfl
   |some o=>rw[hideAll_get _ e λ z=>(A37.mp z).elim nst hl]at hT;cases hT
  rcases absent I hn with z|z
  .exact⟨z.1,z.2,λ p hp q=>by rw[<-q,(I.pin p hp).1]at hn;cases hn⟩
  .rw[hex]at z;cases z
end
theorem KJ{rest:γ PySem.Env}
 (fr:A.frames=AC (env::rest)) (ff:s.heap.FunFrames ground (env::rest)) (el:env.frame=AC L) (ge:s.heap.get? e=AC oe) (st:ground.StaysIn s.heap) (ne:ground.get? e=At) (de:oe.data=.fields fl) (sz:1<fl.size)
 (k:∀ h' T oT ts,ground.StaysIn h'->h'.FunFrames ground (env::rest)->h'.get? e=AC (oe.mapFields (·.setIfInBounds 1<|.ref T))->ground.get? T=At->T≠e->h'.get? T=AC oT->oT.data=.fields ts->3<ts.size ->
  (∀b o,s.heap.get? b=AC o->(∀vs,o.data≠.fields vs)->∃sl,h'.get? b=AC {o with slots:=sl})->Q () {s with heap:=h'}) :
 EQ M A (do let a ←frameOf env;let pl ←entryPlaceOf L nx;let b ←EntryCells.newEntry hd0 a .none (rawInt L) .none pl;setField (.ref e) 1 b) Q E s:=by
 have out:e∉(env::rest).filterMap (·.frame):=λ z=>by let⟨_,o,go,no⟩:=ff.mem z;rw[ge]at go;cases go;exact no fl de
 refine T0<|wpAny_frameOf_fun fr ff el λ h1 so=>T0<|wpAny_entryPlaceOf λ pl ip=>?_;unfold EntryCells.newEntry newFields;refine T0<|A67 ?_<|ip.sizeOk5 _ _ _ _ _;generalize RO:({cls:=.type "traceback",dict:=At,data:=.fields ([hd0,.ref L,.none,rawInt L,.none]++(if pl.isEmpty then Do 6 SZ else pl)).toArray}:μ)=new;have WB:new.data=.fields ([hd0,.ref L,.none,rawInt L,.none]++(if pl.isEmpty then Do 6 SZ else pl)).toArray:=by rw[<-RO]
 have ge1:=(so.2.1 e out).trans ge;have Ef:ground.StaysIn h1:=λ b o q=>(so.2.1 b λ z=>by rw[(ff.mem z).1]at q;cases q).trans<|st b o q;have ge2:=v6 (h:=h1) new ge1;refine B63 ge2 de sz ?_;have Te:=A42<|A01 ge1;have d3:=A69 de (·.setIfInBounds 1<|Value.ref h1.objs.size);have ge3:=A84 (SB (·.setIfInBounds 1<|Value.ref h1.objs.size)) ge2<|B64 d3;have gT:=(A62 (h1.push new) (SB (·.setIfInBounds 1<|Value.ref h1.objs.size))<|A05 Te).trans<|A14 h1<|B64 WB;have hold:∀b o,b≠e->h1.get? b=AC o->((h1.push new).update e (SB (·.setIfInBounds 1<|Value.ref h1.objs.size))).get? b=AC o:=λ b o n q=>by rw[A62 _ _<|A05 n];exact v6 _ q
 have apart:∀b o,s.heap.get? b=AC o->(∀vs,o.data≠.fields vs)->b≠e:=λ b o q n z=>by rw[z,ge]at q;cases q;exact n fl de
 refine k _ h1.objs.size new _ (λ b o q=>hold b o (λ z=>by rw[z,ne]at q;cases q)<|Ef b o q) (ff.of_keeps λ b o q n=>?_) ge3 Ef.fresh Te gT WB (by simp only[A10,A30,A34,C02];lia) λ b o q n=>?_
 .let⟨sl,z⟩:=so.2.2 b o q;exact⟨_,hold b _ (apart b o q n) z,rfl⟩
 .let⟨sl,z⟩:=so.2.2 b o q;exact⟨sl,hold b _ (apart b o q n) z⟩
theorem l0(o:μ)(f:Array ζ->Array ζ):(o.mapFields f).dict=o.dict:=by let⟨_,_,d,_⟩:=o;cases d<;>rfl
structure OS(X:Cx)(χ:List (Addr×Obj))(H:Hp)(s:Shared)(e C:Addr)(dd:Option Addr):Prop where
 off:oO X χ H s e
 ex:∃oe vs,s.heap.get? e=AC oe/\oe.cls=.ref C/\oe.dict=dd/\oe.data=.fields vs/\(vs[1]?=AC .none\/∃T oT ts,vs[1]?=AC (.ref T)/\T≠e/\oO X χ H s T/\s.heap.get? T=AC oT/\oT.data=.fields ts/\ts[3]?=AC .none)
def aa3(h0:ν)(H':Hp)(h':ν)(e C:δ)(dd:ε δ):Prop:=h0.get? e=At/\H' e=At/\∃oe vs T oT ts,h'.get? e=AC oe/\oe.cls=.ref C/\oe.dict=dd/\oe.data=.fields vs/\vs[1]?=AC (.ref T)/\T≠e/\H' T=At/\h0.get? T=At/\h'.get? T=AC oT/\oT.data=.fields ts/\ts[3]?=AC .none
def vh(P:ο)(w:ξ):SV:=λ outer H s E ev s'=>∃e C dd H',ev=.ref e/\s'.os=s.os/\AllBare s'.gens/\Un (uG outer) [] H H' s.heap s'.heap/\lM P w H' s'.heap/\aa3 s.heap H' s'.heap e C dd/\E (.ref C) dd H'
theorem Il:∀env∈l,∀a,env.frame=AC a->a∈uG l++as:=λ env he a ha=>A77 _<|B77.mpr ⟨env,he,ha⟩
section
variable{X:Cx}{χ:γ (δ×μ)}{σ:St}{H:Hp}{s:η}
structure YU(X:Cx)(χ:List (Addr×Obj))(σ:St)(H:Hp)(s:Shared)(e C:Addr)(dd:Option Addr)(lands:Bool):Prop where
 inv:Inv X χ σ H s
 off:oO X χ H s e
 ex:∃oe vs T oT ts,s.heap.get? e=AC oe/\oe.cls=.ref C/\oe.dict=dd/\oe.data=.fields vs/\vs[1]?=AC (.ref T)/\T≠e/\oO X χ H s T/\s.heap.get? T=AC oT/\oT.data=.fields ts/\3<ts.size/\(lands=Ch->ts[3]?=AC .none)
theorem Ay(hex:X.ex=[])(pG:X.stack=X.env::X.outer)(LN:X.env.frame=AC X.env.locals)(I:Inv X χ σ H s)(t:OS X χ H s e C dd)
 (k:∀s',YU X χ σ H s' e C dd AT->Q () s'):EQ M X.A (noteFrame (.ref e) X.env) Q E s:=by
 let⟨oe,vs,he,kA,Tn,hd,h1⟩:=t.ex;have hfr:X.A.frames=AC (X.env::X.outer):=by rw[<-pG];exact I.ok.frames
 have LD:=I.stack;rw[pG]at LD;unfold noteFrame;simp only[LN];rcases h1 with h1|⟨T,oT,ts,h1,Ys,M1,gT,dT,h3⟩
 .have off:∀a∈[e],oO X χ H s a:=λ a ha=>by rw[A19.mp ha];exact t.off
  refine T0<|A31 he hd h1 ?_;rw[W1 ∅];refine KJ hfr (funFrames_hide LD Il) LN he (λ b o=>of_hideAll _) (B69 _<|A43 _<|A19.mpr rfl) hd (B41.mp h1).1 λ h' T' M1 Qg k1 k2 g1 g2 g3 g4 g5 g6 k4=>k _ ?_;rw[<-pG]at k1 k2 g2;have J:=Inv.snap (t':=s.toks) I off k1 k4;let⟨n1,n2,n3⟩:=z8 hex I off k2 g2 g4 g5;have sz:=(B41.mp h1).1;exact⟨J,⟨t.off.free,t.off.new,t.off.pin,_,_,g1,A69 hd _⟩,_,_,T',M1,Qg,g1,(C13 _ _).trans kA,(l0 _ _).trans Tn,A69 hd _,by simp[sz],g3,⟨n1,n2,n3,M1,Qg,g4,g5⟩,g4,g5,g6,λ z=>nomatch z⟩
 .have off:∀a∈[e,T],oO X χ H s a:=λ a ha=>by
   rcases A00.mp ha with rfl|ha
   .exact t.off
   .rw[A19.mp ha];exact M1
  refine T0<|A31 he hd h1 ?_;rw[M2 ∅];refine T0<|A31 gT dT h3 ?_;rw[W1 (by simp[rawInt])];refine T0<|B63 gT dT (B41.mp h3).1 ?_;have other:∀b,b≠T->(s.heap.update T (SB (·.setIfInBounds 3 SZ))).get? b=s.heap.get? b:=λ b hb=>A62 _ _<|A05 hb;have apart:∀b o,s.heap.get? b=AC o->(∀vs,o.data≠.fields vs)->b≠T:=λ b o q n z=>by rw[z,gT]at q;cases q;exact n ts dT
  have inT:T∈uG (X.env::X.outer)++[e,T]:=A43 _ ∅;refine KJ hfr ((funFrames_hide LD Il).of_keeps λ b o q n=>⟨o,(other b<|apart b o q n).trans q,rfl⟩) LN ((other e<|A05 Ys).trans he)
   (λ b o q=>(other b λ z=>by rw[z,B69 _ inT]at q;cases q).trans<|of_hideAll _ q) (B69 _<|A43 _ ∅) hd (B41.mp h1).1 λ h' T' oT2 Qg k1 k2 g1 g2 g3 g4 g5 g6 k4=>k _ ?_
  rw[<-pG]at k1 k2 g2;have J:=Inv.snap (t':=s.toks) I off k1 λ b o q n=>k4 b o ((other b<|apart b o q n).trans q) n;let⟨n1,n2,n3⟩:=z8 hex I off k2 g2 g4 g5;have sz:=(B41.mp h1).1;exact⟨J,⟨t.off.free,t.off.new,t.off.pin,_,_,g1,A69 hd _⟩,_,_,T',oT2,Qg,g1,(C13 _ _).trans kA,(l0 _ _).trans Tn,A69 hd _,by simp[sz],g3,⟨n1,n2,n3,oT2,Qg,g4,g5⟩,g4,g5,g6,λ z=>nomatch z⟩
theorem land(c:YU X χ σ H s e C dd l)(k:∀s',YU X χ σ H s' e C dd Ch->Q () s'):EQ M A (setFlight (.ref e) At) Q E s:=by
 let⟨oe,vs,T,oT,ts,he,kA,Tn,hd,h1,Ys,M1,gT,dT,h3,_⟩:=c.ex;refine wpAny_setFlight_none he hd h1 gT dT h3<|k _ ?_;have other:∀b o,b≠T->s.heap.get? b=AC o->(s.heap.update T (SB (·.setIfInBounds 3 .none))).get? b=AC o:=λ b o hb q=>(A62 _ _<|A05 hb).trans q;have gT2:=A84 (SB (·.setIfInBounds 3 SZ)) gT<|B64<|A69 dT _;have off:∀a∈[T],oO X χ H s a:=λ a ha=>by rw[A19.mp ha];exact M1
 have J:=Inv.snap (t':=s.toks) c.inv off (λ b o q=>by
  by_cases hb:b=T
  .rw[hb,B69 _<|A43 _<|A19.mpr rfl]at q;cases q
  .exact other b o hb<|of_hideAll _ q) λ b o q n=>⟨_,other b o (λ z=>by rw[z,gT]at q;cases q;exact n ts dT) q⟩
 have Pw:=other e oe (A05 Ys) he;exact⟨J,⟨c.off.free,c.off.new,c.off.pin,oe,vs,Pw,hd⟩,oe,vs,T,_,_,Pw,kA,Tn,hd,h1,Ys,⟨M1.free,M1.new,M1.pin,_,_,gT2,A69 dT _⟩,gT2,A69 dT _,by simpa using h3,λ _=>by simp[h3]⟩
end
theorem w8{K:Da}
 (I:Inv (dU (vh P w) P w K mg base N qual scope f cd A outer s0 H0 E) χ σ H s) (t:OS (dU (vh P w) P w K mg base N qual scope f cd A outer s0 H0 E) χ H s e C dd) (hE:E (.ref C) dd H) :
 (dU (vh P w) P w K mg base N qual scope f cd A outer s0 H0 E).xe (.ref e) s:=by
 show EQ _ (dU (vh P w) P w K mg base N qual scope f cd A outer s0 H0 E).A _ (λ _ S4=>vh P w outer H0 s0 E _ S4) _ s;refine T0<|Ay rfl rfl rfl I t λ s1 c1=>land c1 λ s2 c2=>?_;let⟨oe,vs,T,oT,ts,q1,q2,qd,q3,q4,q5,q6,q7,q8,q9,ZD⟩:=c2.ex;exact⟨e,C,dd,H,rfl,c2.inv.os,c2.inv.bare,c2.inv.base,c2.inv.b9,⟨c2.off.new,c2.off.free,oe,vs,T,oT,ts,q1,q2,qd,q3,q4,q5,q6.free,q6.new,q7,q8,ZD rfl⟩,hE⟩
theorem H_(hex:X.ex=[])(I:Inv X χ σ H s)(c:vh X.prog X.w X.stack H s E ev s'):
 ∃e C dd H',ev=.ref e/\Inv X χ σ H' s'/\OS X χ H' s' e C dd/\E (.ref C) dd H':=by
 let⟨e,C,dd,H',rfl,os,bare,un,b9,⟨ne,fe,oe,vs,T,oT,ts,q1,q2,qd,q3,q4,q5,q6,q7,q8,q9,ZD⟩,hE⟩:=c;have J:=I.K! os un b9 bare λ b hb=>absurd hb ∅;have ab:∀a,s.heap.get? a=At->X.s₀.heap.get? a=At/\∀p∈X.pn++χ,p.1≠a:=λ a h=>by
  rcases absent I h with z|z
  .exact⟨z.2,λ p hp q=>by rw[<-q,(I.pin p hp).1]at h;cases h⟩
  .rw[hex]at z;cases z
 exact⟨e,C,dd,H',rfl,J,⟨⟨fe,(ab e ne).1,(ab e ne).2,oe,vs,q1,q3⟩,oe,vs,q1,q2,qd,q3,.inr ⟨T,oT,ts,q4,q5,⟨q6,(ab T q7).1,(ab T q7).2,oT,ts,q8,q9⟩,q8,q9,ZD⟩⟩,hE⟩
theorem D?(hex:X.ex=[])(I:Inv X χ σ H s)(hm:ce s.heap h' e (.ref C) vs):
 Inv X χ σ H {s with heap:=h'}/\OS X χ H {s with heap:=h'} e C At:=by
 have J:=I.kept (t':=s.toks) hm.keeps;let⟨t,ht,_,_⟩:=hm.there;refine⟨J,?_⟩;rcases absent I hm.new with z|z
 .exact⟨⟨z.1,z.2,λ p hp q=>(by have:=(I.pin p hp).1;rw[q,hm.new]at this;cases this),_,_,ht,rfl⟩,_,_,ht,rfl,rfl,rfl,.inl rfl⟩
 .rw[hex]at z;cases z
theorem PA.gE(h:PA X.gE es t):PA X es t:=λ pos χ s σ H Q I hw=>A21 (h pos χ s σ H Q (I.wish _) hw) (by rintro _ _ ⟨vs,H',I',r,q⟩;exact⟨vs,H',I'.g9,r,q⟩) λ _ _ z=>GM z
theorem PS.gE{st:θ}(h:PS X.gE st t):PS X st t:=λ χ s σ H D I hw=>A21 (h χ s σ H D (I.wish _) hw) (λ _ _ q=>q.g9) λ _ _ z=>GM z
def WU(X:Cx)(σ:St)(H:Hp)(c:Z.XN):Prop:=∀χ H' s e C dd,aJ H H'->qY X.K H' c C dd->Inv X χ σ H' s->OS X χ H' s e C dd->X.xe (.ref e) s
def Xw(X:Cx)(H0:Hp)(c:Z.XN):Prop:=∀χ σ H' s e C dd,aJ H0 H'->qY X.K H' c C dd->Inv X χ σ H' s->OS X χ H' s e C dd->X.xe (.ref e) s
theorem WU.up(h:WU X σ H c)(e:aJ H H'):WU X σ H' c:=λ χ H2 s a C dd sm=>h χ H2 s a C dd<|e.trans sm
def xR(X:Cx)(f:Z.XF)(σ:St)(H:Hp):Prop:=∃ρ c,RE X.K H σ ρ/\f ρ=AC c/\WU X σ H c
abbrev XE(X:Cx)(e:ι)(f:Z.XF):Prop:=PE X e λ σ H _=>xR X f σ H
structure _root_.ZQ.WX(X:Cx)(e:Expr)(f:Z.XF):Prop where p:XE X e f
abbrev XA(X:Cx)(es:γ ι)(f:Z.XF):Prop:=PA X es λ σ H _=>xR X f σ H
structure _root_.ZQ.QXA(X:Cx)(es:List Expr)(f:Z.XF):Prop where p:XA X es f
abbrev XT(X:Cx)(e:ι)(f:Z.XF):Prop:=PT X e λ σ H _=>xR X f σ H
structure _root_.ZQ.QXT(X:Cx)(e:Expr)(f:Z.XF):Prop where p:XT X e f
abbrev XR(X:Cx)(st:θ)(f:Z.XF):Prop:=PS X st λ _ σ H=>xR X f σ H
structure _root_.ZQ.YL(X:Cx)(st:Stmt)(f:Z.XF):Prop where p:XR X st f
abbrev XRs(X:Cx)(zm:γ θ)(f:Z.XF):Prop:=qZ X zm λ _ σ H=>xR X f σ H
structure _root_.ZQ.OV(X:Cx)(zm:List Stmt)(f:Z.XF):Prop where p:XRs X zm f
def xS(X:Cx)(H0:Hp)(f:Z.XF)(σ:St)(H:Hp):Prop:=∃ρ c,RS X.K H0 H σ ρ/\f ρ=AC c/\Xw X H0 c
abbrev XS(X:Cx)(H0:Hp)(st:θ)(f:Z.XF):Prop:=PS X st λ _ σ H=>xS X H0 f σ H
structure _root_.ZQ.SJ(X:Cx)(H0:Hp)(st:Stmt)(f:Z.XF):Prop where p:XS X H0 st f
abbrev TK(X:Cx)(H0:Hp)(zm:γ θ)(f:Z.XF):Prop:=qZ X zm λ _ σ H=>xS X H0 f σ H
structure _root_.ZQ.zl(X:Cx)(H0:Hp)(zm:List Stmt)(f:Z.XF):Prop where p:TK X H0 zm f
theorem xS.r(h:xS X H0 f σ H):xR X f σ H:=by let⟨ρ,c,rs,e,k⟩:=h;exact⟨ρ,c,rs.re,e,λ χ H' s a C dd sm=>k χ σ H' s a C dd<|rs.same.trans sm⟩
def aba(C:δ)(h:ν):Prop:=∃(tl:γ ζ)(ns:δ)(nm qn:Str)(bs:γ ζ)(hd:Bool)(sn:γ Str)(sub:γ ζ)(ab:Bool)(col:ε Bool)(dd:ε δ)(s0 s1 s2 s3 s5:ε ζ),
 h.get? C=AC (excClassObj nm qn C ns bs tl hd sn sub ab col dd s0 s1 s2 s3 s5 "ValueError.__new__")/\tl.contains (.type "BaseException")=Ch
theorem zI{K:Fa}{F}(q:zG K C F=Ch):∃dd cd sl C' tl s0 s1 s2 s3 id s5,K.lookup C=AC ⟨.type "type",dd,.cls cd,sl⟩/\cd.mro=.ref C'::tl/\sl.toList=[s0,s1,s2,s3,AC (.builtin id),s5]/\F cd C' tl id=Ch:=by
 unfold zG at q;split at q
 .rename_i dd cd sl ho;split at q
  .rename_i C' tl s0 s1 s2 s3 id s5 e1 e2;exact⟨dd,cd,sl,C',tl,s0,s1,s2,s3,id,s5,ho,e1,e2,q⟩
  .cases q
 .cases q
theorem aaM{K:Fa}(X:K.In h)(xc:XC K c C):aba C h:=by
 obtain⟨dd,cd,sl,C',tl,s0,s1,s2,s3,id,s5,ho,e1,e2,q⟩:=zI xc.2
 simp only[A46,A27,B68]at q;let⟨⟨⟨rfl,rfl⟩,r1⟩,r2⟩:=q;cases cd;dsimp only at e1 r1;subst e1 r1;obtain rfl:sl=#[s0,s1,s2,s3,AC (.builtin "ValueError.__new__"),s5]:=by cases sl;simp only at e2;rw[e2]
 exact⟨tl,_,_,_,_,_,_,_,_,_,dd,s0,s1,s2,s3,s5,X _ _ ho,r2⟩
def abb(C:δ)(h:ν):Prop:=∃(tl:γ ζ)(ns:δ)(nm qn:Str)(bs:γ ζ)(hd:Bool)(sn:γ Str)(sub:γ ζ)(ab:Bool)(col:ε Bool)(dd:ε δ)(s0 s1 s2 s3 s5:ε ζ)(mN:Str->ε ζ),
 h.get? C=AC (excClassObj nm qn C ns bs tl hd sn sub ab col dd s0 s1 s2 s3 s5 "ValueError.__new__")/\h.Ns ns mN/\mN "__init__"=At/\OwnTail h [.type "ValueError",.type "Exception",.type "BaseException",.type "object"] tl
theorem aaN{K:Fa}(X:K.In h)(q:excIn K C [.type "ValueError",.type "Exception",.type "BaseException",.type "object"] "ValueError.__new__"=Ch):abb C h:=by
 obtain⟨dd,cd,sl,C',tl,s0,s1,s2,s3,id,s5,ho,e1,e2,q⟩:=zI (F:=λ cd C' bm n=>C'==C&&n=="ValueError.__new__" && !cd.hasDel&&tailIn K [.type "ValueError",.type "Exception",.type "BaseException",.type "object"] bm&&nsOkIn K cd.ns&&nsIn K cd.ns "__init__"==AC At) q
 simp only[A46,A27,B68]at q;let⟨⟨⟨⟨⟨rfl,rfl⟩,r1⟩,r2⟩,r3⟩,r4⟩:=q;cases cd;dsimp only at e1 r1 r3 r4;subst e1 r1;obtain rfl:sl=#[s0,s1,s2,s3,AC (.builtin "ValueError.__new__"),s5]:=by cases sl;simp only at e2;rw[e2]
 exact⟨tl,_,_,_,_,_,_,_,_,_,dd,s0,s1,s2,s3,s5,_,X _ _ ho,.of_isNs<|isNs_of_in X r3,nsMap_none_of_in X r3 r4,tail_of_in X r2⟩
def Xn(K:Da)(m:γ Z.D->ε Z.XN):Sp:=λ vs H _ E=>∃ds c,aE K H ds vs/\m ds=AC c/\∀C dd H',aJ H H'->qY K H' c C dd->E (.ref C) dd H'
structure vf(P:Program)(w:World)(K:Da)(mg:Str->Option Value)(base:Heap)(x:Str)(k:Nat)(ps:List Str)(m:List Z.D->Option Z.XN):Prop where
 ex:∃g fd,ee P w K mg base (vh P w) k g fd ps (Xn K m)/\mg x=AC (.ref g)/\FM K (.ref g)=Ch/\Binds K fd ps []
theorem _root_.ZQ.D6(C:vf X.prog X.w X.K X.mg X.base x k ps m)(hr:bG k X.A)(hg:Gl X x)
 (ha:ZQ.QA X.gE (e::es) ar) (hex:X.ex=[]:=by rfl) (gQ:(x==("__debug__"))=AT:=by decide +kernel) (he:Se e es X.env:=by rfl) (fQ:Pn pos es X.env:=by rfl) :
 ZQ.WX X (.Call (.Name x p1) (e::es) [] pos) (Z.f? m ar):=⟨by
 let⟨g,fd,F,hm,hk,hb⟩:=C.ex;intro χ s σ H Q I h;let⟨ρ,c,re,ec,kw⟩:=h;unfold Z.f? at ec;split at ec
 .rename_i ds ed;refine A79<|mK I hg hm ?_ gQ;refine B02 I.ok.mod.LK hk (cA (PA.gE ha.p pos χ s σ H (λ vs H1=>aJ H H1/\aE X.K H1 ds vs) I ⟨ρ,ds,re,ed,λ vs H1 s1 d1=>⟨s1,d1⟩⟩) λ us s1 ⟨vs,H1,I1,r,sm,d1⟩=>⟨I1.lH,?_⟩) he fQ;have BO:Xn X.K m vs H1 (λ _ _=>False) (λ cv dd H'=>∃C,cv=.ref C/\qY X.K H' c C dd/\aJ H1 H'):=⟨ds,c,d1,ec,λ C' dd H' s2 x2=>⟨C',rfl,x2,s2⟩⟩
  have hl:=F.len _ _ _ _ BO;refine A90<|A78 (F.run X.A X.stack s1 H1 ⟨us,[]⟩ us vs _ _ hr I1.KI (by have:=hb s1 us I1.lH (by rw[A52,<-r.length];exact hl);simpa using this) r BO) λ rr s' hq=>?_;cases rr with
  |ok fl=>
   cases fl with
   |ret u=>let⟨v,H2,_,_,_,_,_,q⟩:=hq;exact q.elim
   |_=>exact hq.elim
  |error ev=>have hq:vh X.prog X.w X.stack H1 s1 (λ cv dd H'=>∃C,cv=.ref C/\qY X.K H' c C dd/\aJ H1 H') ev s':=hq;let⟨a,C',dd,H',rfl,J,th,C2,hc,x2,s2⟩:=H_ hex I1 hq;cases hc;exact kw χ H' s' a C' dd (sm.trans s2) x2 J th
 .cases ec⟩
section
variable{st:θ}
theorem _root_.ZQ.xE{i:Nat}(hN:X.N.Nodup)(hi:X.N[i]?=AC x)(hx:Loc X.env.scope x)(h:ZQ.WX X a f)(hs:swapsWith a (AC<|.Name x pos') pos.line X.env=pure AT:=by rfl)(hf:Fl X x:=by trivial):ZQ.SJ X H0 (.Assign [.Name x pos'] a pos) f:=
 ⟨PS.imp (nU hN hi hx h.p hs hf) λ D σ H q=>q.r⟩
theorem _root_.ZQ.D5(h:ZQ.WX X a f)(hs:swapsWith a At pos.line X.env=pure AT:=by rfl):ZQ.YL X (.Expr a pos) f:=⟨sJ h.p hs⟩
theorem _root_.ZQ.zw(hc:ZQ.QT X.gE c t)(h1:ZQ.zl X H0 b1 xa)(h2:ZQ.zl X H0 b2 xb):ZQ.SJ X H0 (.If c b1 b2 pos) (Z.BX t xa xb):=⟨PS.imp (Et (PT.gE hc.p) h1.p h2.p) <|by
 rintro D σ H ⟨ρ,c,rs,ec,kw⟩;unfold Z.BX at ec;split at ec
 .rename_i b eb;refine⟨ρ,b,rs.re,eb,λ H1 s1=>?_⟩;cases b with
  |true=>exact⟨ρ,c,rs.up s1,by simpa using ec,kw⟩
  |false=>exact⟨ρ,c,rs.up s1,by simpa using ec,kw⟩
 .cases ec⟩
theorem _root_.ZQ.TR(hc:ZQ.QT X.gE c t)(h1:ZQ.OV X b1 xa)(h2:ZQ.OV X b2 xb):ZQ.YL X (.If c b1 b2 pos) (Z.BX t xa xb):=⟨PS.imp (Et (PT.gE hc.p) h1.p h2.p) <|by
 rintro D σ H ⟨ρ,c,re,ec,kw⟩;unfold Z.BX at ec;split at ec
 .rename_i b eb;refine⟨ρ,b,re,eb,λ H1 s1=>?_⟩;cases b with
  |true=>exact⟨ρ,c,re.up s1,by simpa using ec,kw.up s1⟩
  |false=>exact⟨ρ,c,re.up s1,by simpa using ec,kw.up s1⟩
 .cases ec⟩
theorem _root_.ZQ.D4:ZQ.SJ X H0 st Z.wu:=⟨by rintro _ _ _ _ _ _ ⟨_,_,_,e,_⟩;exact nomatch e⟩
theorem _root_.ZQ.jS:ZQ.zl X H0 zm Z.wu:=⟨by rintro _ _ _ _ _ _ ⟨_,_,_,e,_⟩;exact nomatch e⟩
theorem _root_.ZQ.mB(h:ZQ.SJ X H0 st f):ZQ.zl X H0 [st] f:=⟨mF h.p⟩
theorem _root_.ZQ.sG(h:ZQ.YL X st f):ZQ.OV X [st] f:=⟨mF h.p⟩
theorem _root_.ZQ.dX(h1:ZQ.QS X.gE H0 st g)(x1:ZQ.SJ X H0 st xa)(x2:ZQ.zl X H0 zm xb):ZQ.zl X H0 (st::zm) (Z.jx g xa xb):=⟨by
 have h1:=h1.p;have x2:=x2.p;intro χ s σ H D I h;let⟨ρ,c,rs,ec,kw⟩:=h;unfold Z.jx at ec;split at ec
 .rename_i c' e1;cases ec;exact i! x1.p x2 χ s σ H D I ⟨ρ,c,rs,e1,kw⟩
 .split at ec
  .rename_i ρ' e2;refine i! (PS.gE h1) x2 χ s σ H D I ⟨ρ,_,rs,e2,λ σ' H' _ Em=>⟨ρ',c,Em,ec,kw⟩⟩
  .cases ec⟩
theorem _root_.ZQ.s_(hc:X.calm=Ch)(hex:X.ex=[])(hg:Gl X x)(_5:(⟨c.toArray⟩)=x)(xc:XC X.K c C)(xi:excIn X.K C [.type "ValueError",.type "Exception",.type "BaseException",.type "object"] "ValueError.__new__"=Ch)(ha:ZQ.QE X.gE a fa)
 (gQ:(x==("__debug__"))=AT:=by decide +kernel) (he:Se a [] X.env:=by rfl) (fQ:(backTo gR<|starEach (a::[]) X.env).any (·.1)=AT:=by rfl) :
 ZQ.SJ X H0 (.Raise (AC<|.Call (.Name x np) [a] [] gR) At pos) (Z.lN c fa):=⟨by
 intro χ s σ H D I h;let⟨ρ,c',rs,ec,kw⟩:=h;unfold Z.lN at ec;split at ec
 .rename_i d ed;cases ec;have hm:X.mg x=AC (.ref C):=by have:=A22 I.lH (I.mod.glob.keeps I.bk) xc.1;rw[_5]at this;exact this
  let⟨tl,ns,nm,qn,bs,hd,sn,sub,ab,col,dd,s0,s1,s2,s3,s5,mN,hC,hN,_A,T⟩:=aaN I.mod.LK xi;refine wpAny_Raise_call_subT (nm:=nm) (q:=qn) (N:=ns) (bs:=bs) (bm:=tl) (hdct:=hd) (sn:=sn) (sub:=sub) (ab:=ab) (col:=col) (dd:=dd) (k0:=s0) (k1:=s1) (k2:=s2) (k3:=s3) (k5:=s5)
   F.excBase_ValueError (mN:=mN) (T.hasType F.excBase_ValueError.hasBase) (I.ok.hd hc) fQ _A<|mK I hg hm ⟨rfl,?_⟩ gQ
  have P:=bH (PE.gE ha.p) cP he gR χ s σ H (λ vs H1=>aJ H H1/\vs.length=1) I ⟨ρ,d,rs.re,ed,λ v H1 s1 d1=>⟨s1,rfl⟩⟩;rw[he]at P ⊢;refine B53<|A21 P (λ us s1 ⟨vs,H1,I1,r,sm,hl⟩=>⟨rfl,?_,I1.bk _ _ hC,hN.keeps I1.bk,T.keeps I1.bk,λ h' ex hmk=>?_⟩) λ _ _ z=>z
  .skip
   rw[<-r.length,hl,A23];decide
  .let⟨J,th⟩:=D? hex I1 hmk;exact kw χ σ H1 _ ex C At (rs.same.trans sm) ⟨xc,rfl⟩ J th
 .cases ec⟩
end
section
variable{K:Da}
theorem fnX{st:θ}{dV kV doc pm ba ct oc:ζ}
 (lk:K.lookup f=AC ⟨oc,od,.func<|PySem.W.fnOf name qual (bA st) (aL st) (aj st) dV kV doc pm an ba ct,uc⟩) (nH:On K ba qual=Ch) (S:aY N ps (aj st))
 (hb:∀ A outer s H E,bG k (A.deeper<|envOfC qual (aj st) s.heap.objs.size f ba) ->
  TK (dU (vh P w) P w K mg base N qual (aj st) f ba A outer s H E) H (aL st) xb):ee P w K mg base (vh P w) (k+1) f (NE name qual (bA st) (aL st) (aj st) dV kV doc pm an ba ct) ps (Xn K<|Z.fx ps.length N.length xb):=by
 have ψ:∀vs H Q E,Xn K (Z.fx ps.length N.length xb) vs H Q E->vs.length=ps.length:=by
  rintro vs H Q E ⟨ds,d,t,e,_⟩;unfold Z.fx at e;split at e
  .rename_i h;rw[t.length];exact h
  .cases e
 refine uH lk nH S ψ λ A outer s H vs Q E hr h=>?_;refine⟨_,hb A outer s H E hr,?_⟩;have hl:=ψ vs H Q E h;let⟨ds,c,t,e,k⟩:=h;have fQ:ps.length<=N.length:=by have:=A15 List.length S.pre;rw[A24]at this;lia
 have rs:RS K H H (L2.start N vs) (Z.start N.length ds):=mD t ∅;unfold Z.fx at e;split at e
 .exact⟨_,c,rs,e,λ χ σ H' s' a C dd sm xc I th=>w8 I th<|k C dd H' sm xc⟩
 .cases e
theorem vf.mk'{st:θ}(d:Def K mg x st ps)(S:aY N ps (aj st))
 (hb:∀ f ba A outer s H E,bG k (A.deeper<|envOfC x (aj st) s.heap.objs.size f ba) ->
  TK (dU (vh P w) P w K mg base N x (aj st) f ba A outer s H E) H (aL st) xb):vf P w K mg base x (k+1) ps (Z.fx ps.length N.length xb):=by
 let⟨f,fd,F,hm,sS⟩:=d.ex;have kp:=F.kp;let⟨oc,od,kV,doc,pm,an,ba,ct,uc,rfl,lk,nH⟩:=F.ex;exact⟨f,_,fnX lk nH S<|hb f ba,hm,kp,sS⟩
theorem vf.mkD{st:θ}(d:Hu K mg x st ps)(S:aY N ps (aj st))
 (hb:∀ f ba A outer s H E,bG k (A.deeper<|envOfC x (aj st) s.heap.objs.size f ba) ->
  TK (dU (vh P w) P w K mg base N x (aj st) f ba A outer s H E) H (aL st) xb):vf P w K mg base x (k+1) ps (Z.fx ps.length N.length xb):=by
 let⟨f,fd,F,hm,sS,_⟩:=d.ex;have kp:=F.kp;let⟨t,oc,od,kV,doc,pm,an,ba,ct,uc,rfl,lk,nH⟩:=F.ex;exact⟨f,_,fnX lk nH S<|hb f ba,hm,kp,sS⟩
end
abbrev F0(X:Cx)(pn:γ (δ×μ))(E:ζ->η->Prop):Cx:={X with pn:=pn,xe:=E}
abbrev N1(X:Cx)(ev:ζ):Cx:={X with A:=X.A.mark<|some ev,calm:=AT}
theorem Q1(ok:X.Ok)(pn:γ _)(E:ζ->η->Prop):(F0 X pn E).Ok:=
 ⟨ok.mod,ok.kind,ok.glob,ok.blt,ok.above,ok.inj,ok.has,ok.Su,ok.hd,ok.frames,ok.LD,ok.YA,ok.bs,ok.Lf,ok.AB,ok.G4,ok.m?,ok.N9⟩
theorem Q3(ok:X.Ok)(ev:ζ):(N1 X ev).Ok:=
 ⟨ok.mod,ok.kind,ok.glob,ok.blt,ok.above,ok.inj,ok.has,ok.Su,λ z=>(nomatch z),ok.frames,ok.LD,ok.YA,ok.bs,ok.Lf,ok.AB,ok.G4,ok.m?,ok.N9⟩
theorem NL(I:Inv X χ σ H s)(E:ζ->η->Prop):Inv (F0 X (X.pn++χ) E) [] σ H s:=⟨Q1 I.ok _ E,I.os,I.bare,I.base,I.loc,I.cell,I.free,I.gW,λ p hp=>I.pin p (by simpa using hp),I.b9,I.len,I.tab⟩
theorem C6(ok:X.Ok)(I:Inv (F0 X (X.pn++χ) E) nv σ H s):Inv X χ σ H s:=⟨ok,I.os,I.bare,I.base,I.loc,I.cell,I.free,I.gW,λ p hp=>I.pin p<|A77 _ hp,I.b9,I.len,I.tab⟩
theorem uf(o:oO (F0 X (X.pn++χ) E) nv H s a):oO X χ H s a:=⟨o.free,o.new,λ p hp=>o.pin p<|A77 _ hp,o.Z_⟩
theorem Cd(t:OS (F0 X (X.pn++χ) E) nv H s e C dd):OS X χ H s e C dd:=by
 let⟨oe,vs,he,kA,Tn,hd,h1⟩:=t.ex;refine⟨uf t.off,oe,vs,he,kA,Tn,hd,?_⟩;rcases h1 with h1|⟨T,oT,ts,h1,h2,h3,h4⟩
 .exact .inl h1
 .exact .inr ⟨T,oT,ts,h1,h2,uf h3,h4⟩
theorem NM(I:Inv X χ σ H s)(ev:ζ):Inv (N1 X ev).gE χ σ H s:=⟨(Q3 I.ok ev).wish _,I.os,I.bare,I.base,I.loc,I.cell,I.free,I.gW,I.pin,I.b9,I.len,I.tab⟩
theorem kN(ok:X.Ok)(I:Inv (N1 X ev).gE χ σ H s):Inv X χ σ H s:=⟨ok,I.os,I.bare,I.base,I.loc,I.cell,I.free,I.gW,I.pin,I.b9,I.len,I.tab⟩
theorem JT(I:Inv X χ σ H s)(hg:Gl X x)(hm:X.mg x=AC u)(h:Q u s)
 (hd:(x==("__debug__"))=AT):EQ M A (eval (.Name x pos) X.env) Q E s:=
 B76 I.ok.kind hg (Calls.loadGlobal_global (by rw[I.ok.glob];exact I.mod.glob.keeps I.bk) hm h) hd
structure aa9(K:Da)(C:Addr):Prop where
 ga:findIn K (.ref C) "__getattribute__"=AC (AC<|.builtin "BaseException.__getattribute__")
 gn:findIn K (.ref C) "__getattr__"=AC At
 cl:findIn K (.ref C) "__class__"=AC (AC<|.builtin "object.__class__")
 hn:specialIn K (.builtin "object.__class__") "__get__"=AC (AC<|.builtin "getset_descriptor.__get__")
 tk:takesIn K (.builtin "object.__class__")=AC Ch
 mo:mroIn K C (.type "object")=AC Ch
 mb:mroIn K C (.type "BaseException")=AC Ch
section
variable{K:Da}
end
section
variable{X:Cx}
end
structure WW(k:Nat)(A:Around):Prop where
 dp:A.depth+3*k+5<recursionLimit
 un:A.units+16*k+200<cLine
section
variable{K:Da}
def aaZ(P:ο)(w:ξ)(K:Da)(mg:Str->ε ζ)(base:ν)(k:Nat)(g:δ)(fd:υ)(ps:γ Str)(m:Z.XN->Z.Res Z.D):Prop:=
 ∀(A:ς)(outer:γ PySem.Env)(s:η)(H:Hp)(args:Args)(u:ζ)(v:V)(Q:VK)(c:Z.XN)(d:Z.D),WW k A->BK P w K mg base A outer s H->BindsTo s fd args (ps.zip [u])->RelV v u->RL K H (.exc c) v->m c=.ok d->(∀v' H',aJ H H'->Den K H' d v'->Q v' H') ->
  codeAny (model P w) A (.call (.ref g) args) (CR iK outer P w H s Q E0) s
structure af3(P:Program)(w:World)(K:Da)(mg:Str->Option Value)(base:Heap)(x:Str)(k:Nat)(ps:List Str)(m:Z.XN->Z.Res Z.D):Prop where
 ex:∃g fd,aaZ P w K mg base k g fd ps m/\mg x=AC (.ref g)/\FM K (.ref g)=Ch/\Binds K fd ps []/\ps.length=1
end
end ZS
namespace ZQ
open L2 ZS PySem.W
section
variable{K:Da}
theorem WH{st:θ}(d:Def K mg x st ps)(hb:∀{f}{ba}{A}{outer}{s}{H}{E},N.Nodup->(A.deeper<|envOfC x (aj st) s.heap.objs.size f ba).units+64<cLine->bG k (A.deeper<|envOfC x (aj st) s.heap.objs.size f ba)->zl (dU (vh P w) P w K mg base N x (aj st) f ba A outer s H E) H (aL st) xb)(S:aY N ps (aj st):=by exact ZS.De):vf P w K mg base x (k+1) ps (Z.fx ps.length N.length xb):=vf.mk' d S λ f ba A outer s H E hr=>(hb S.nd hr.units hr).p
theorem Sq{st:θ}(d:Hu K mg x st ps)(hb:∀{f}{ba}{A}{outer}{s}{H}{E},N.Nodup->(A.deeper<|envOfC x (aj st) s.heap.objs.size f ba).units+64<cLine->bG k (A.deeper<|envOfC x (aj st) s.heap.objs.size f ba)->zl (dU (vh P w) P w K mg base N x (aj st) f ba A outer s H E) H (aL st) xb)(S:aY N ps (aj st):=by exact ZS.De):vf P w K mg base x (k+1) ps (Z.fx ps.length N.length xb):=vf.mkD d S λ f ba A outer s H E hr=>(hb S.nd hr.units hr).p
end
end ZQ
namespace Z
end Z
namespace ZS
open L2 PySem.W
def tCs(vs:γ V):TA:=λ _ H Q=>Q vs H
def NoK(K:Da)(c0:γ Nat)(as:γ δ):Prop:=∃C,nsIn K mainGlobals ⟨c0.toArray⟩=AC (AC<|.ref C)/\aa9 K C/\kitAny K (.ref C) (as.map Value.ref)=AC AT
structure PCs(X:Cx)(c0:List Nat)(es:List Expr)(as:List Addr):Prop where
 pa:PA X es (tCs<|as.map V.ref)
 k:NoK X.K c0 as
end ZS
namespace ZQ
open L2 ZS PySem.W
end ZQ
namespace Z
end Z
namespace ZS
open L2 PySem.W
end ZS
namespace ZQ
open L2 ZS PySem.W
end ZQ
namespace ZS
open L2 PySem.W
def sL:γ ζ->Bool
|.ref _::r=>sL r
|l=>l==[.type "ValueError",.type "Exception",.type "BaseException",.type "object"]
theorem Ct(self:ζ)(e:sL l=Ch):refuseLoop self "__setattr__" l=pure ()/\l.contains (.type "object")=Ch/\l.isEmpty=AT:=by
 induction l with
 |nil=>cases e
 |cons a r ih=>
  unfold sL at e;split at e
  .rename_i c r' q;cases q;let⟨h1,h2,_⟩:=ih e;exact⟨by rw[refuseLoop_ref];exact h1,by rw[C25,h2,C26],rfl⟩
  .rw[A27.mp e];exact⟨PySem.F.store_ValueError.passes self,by decide +kernel,rfl⟩
structure vd(K:Frag)(C:Addr):Prop where
 sa:findIn K (.ref C) "__setattr__"=AC (AC<|.builtin "object.__setattr__")
 mr:(clsIn K C).any (λ cd=>sL cd.mro)=Ch
 hd:hasDictIn K C=Ch
section
variable{K:Frag}
theorem Bj(k:vd K C)(X:K.In s.heap)(I:InstAt s.heap x ox C od)(ht:findIn K (.ref C) name=AC At)
 (h:∀ b,EQ (model prog w) A.in1 (Builtin.ObjectAttr.storeInOwnDict (.ref x) (.ref C) (.str name tk) name v b)
  (λ fin s'=>match fin with| .done f=>R (.ok f) s'| .again c'=>c'.quiet=Ch/\codeAny (model prog w) A c' R s') (λ e s'=>R (.error e) s') s) :
 codeAny (model prog w) A (.call (.builtin "object.__setattr__") ⟨[.ref x,.str name tk,v],[]⟩) R s:=by
 have SF:=PySem.F.store_object;let⟨cd,hc,ho⟩:=any_some k.mr;let⟨r1,r2,r3⟩:=Ct (.ref x) ho;have sub:Looks (model prog w) _ (isInstance _ _) Ch:=I.type.andThen<|looks_mroIn X (by unfold mroIn;rw[hc,C19,W1 (by rw[r3];decide),r2]);have hm:Looks (model prog w) _ (mroOf<|.ref C) _:=(looks_clsIn X hc).andThen .now;refine codeAny_call_builtin SF.slot.plain SF.entry<|@check_slot (model prog w) _ _ s "object.__setattr__" "object" "__setattr__" (.ref x) [.str name tk,v] [] _ SF.kind SF.split sub (SF.args (.ref x) (.str name tk) v) ?_;rw[osa_eq,refuse_eq];refine T0<|T0<|I.type.here<|T0<|hm.here ?_;rw[r1];exact P3<|T0<|I.type.here<|T0<|(looks_findIn X ht).here<|T0<|P3<|h _
theorem Kw(k:vd K C)(X:K.In s.heap)(hx:s.heap.get? x=AC ox)(kA:ox.cls=.ref C)(hd:ox.dict=At)(qe:∃vs,ox.data=.fields vs)(ht:findIn K (.ref C) name=AC At)
 (h:∀h' dx,s.heap.objs.size<=dx->h'.get? x=AC {ox with dict:=AC dx}->h'.Ns1 dx (λ y=>if y=name then AC v else At)->(∀b o,b≠x->s.heap.get? b=AC o->h'.get? b=AC o)->∀tk,Q () {s with heap:=h',toks:=tk}) :
 EQ (model prog w) A (setAttr (.ref x) name v) Q E s:=by
 let⟨vs,qe⟩:=qe;have I:InstAt _ x ox C At:=⟨hx,kA,by unfold notCls;rw[qe],by rw[hd];trivial⟩
 refine B79 X I k.sa<|Bj k X I ht λ b=>?_;let⟨cd,hc,qI⟩:=any_some k.hd;let⟨oc,odi,oda,uc⟩:=ox;dsimp only at kA hd qe;subst kA hd qe;have hxs:=A12<|A01 hx;have VG:(s.heap.push {cls:=.type "dict",data:=.dict #[]}).get? x=AC _:=v6 _ hx;refine T0<|P3<|T0<|T0<|B80 hx<|T0<|B81 (B82 X hc) ?_;rw[qI];refine T0<|wpAny_alloc'<|T0<|wpAny_update' VG<|P3 ?_;have Yo:((s.heap.push {cls:=.type "dict",data:=.dict #[]}).update x λ o=>{cls:=o.cls,dict:=AC s.heap.objs.size,data:=o.data,slots:=o.slots}).get? s.heap.objs.size=AC {cls:=.type "dict",data:=.dict #[]}:=
  (io _ _ _ _ hxs.symm).trans<|Heap.get?_push_at rfl rfl
 have NT:((s.heap.push {cls:=.type "dict",data:=.dict #[]}).update x λ o=>{cls:=o.cls,dict:=AC s.heap.objs.size,data:=o.data,slots:=o.slots}).Ns s.heap.objs.size (λ _=>At):=⟨_,#[],_,Yo,rfl,λ e he=>absurd he ∅,λ _=>rfl⟩
 refine T0<|P3<|T0<|wpAny_nsSet1 (Heap.Ns1.of_empty NT) λ h' HD yJ=>?_;let⟨oD,esD,epD,VR,V7,V'⟩:=HD.count (Within.cons name v Within.nil);refine T0<|B84 VR (by rw[V7];exact B85<|A13 V' (by rw[A34,C02,A23];lia))<|P3 ?_;refine h h' s.heap.objs.size (v4 _) ((yJ.2 x hxs).trans<|A84 _ VG rfl) HD (λ b o hb q=>(yJ.2 b<|A12<|A01 q).trans<|(io _ _ _ _ hb).trans<|v6 _ q) _
theorem Kv(k:vd K C)(X:K.In s.heap)(hx:s.heap.get? x=AC ox)(kA:ox.cls=.ref C)(hd:ox.dict=AC dx)(qc:dx≠x)(qe:∃vs,ox.data=.fields vs)(ht:findIn K (.ref C) name=AC At)
 (hn:s.heap.Ns1 dx mA) (hw:Within mA ns) (hz:ns.length<=1000)
 (h:∀h',h'.Ns1 dx (λ y=>if y=name then AC v else mA y)->IN dx s.heap h'->∀tk,Q () {s with heap:=h',toks:=tk}) :
 EQ (model prog w) A (setAttr (.ref x) name v) Q E s:=by
 let⟨vs,qe⟩:=qe;let⟨o0,_,_,ho0,_⟩:=id hn;have I:InstAt _ x ox C (AC o0):=⟨hx,kA,by unfold notCls;rw[qe],by rw[hd];exact ho0⟩
 refine B79 X I k.sa<|Bj k X I ht λ b=>?_;let⟨cd,hc,qI⟩:=any_some k.hd;let⟨oc,odi,oda,uc⟩:=ox;dsimp only at kA hd qe;subst kA hd qe;refine T0<|P3<|T0<|T0<|B80 hx<|T0<|B81 (B82 X hc) ?_;rw[qI];refine P3<|T0<|P3<|T0<|wpAny_nsSet1 hn λ h' HD yJ=>?_;let⟨oD,esD,epD,VR,V7,V'⟩:=HD.count (Within.cons name v hw);exact T0<|B84 VR (by rw[V7];exact B85<|A13 V' (by rw[A34,A23];lia))<|P3<|h h' HD yJ _
end
abbrev M0(e:δ)(o:μ):HO:=.ext λ h=>h.get? e=AC o
abbrev SW(d:δ)(fs:γ (Str×V)):HO:=.ext λ h=>∃mA,h.Ns1 d mA/\(∀f,lJ (fs.lookup f) (mA f))/\Within mA (fs.map (·.1))
theorem Jl(q:h.get? e=AC o):fD P w H h e (M0 e o):=⟨q,⟨_,q⟩,λ _ _ z k=>k _ z⟩
theorem HN(q:h.Ns1 d mA)(r:∀f,lJ (fs.lookup f) (mA f))(wi:Within mA (fs.map (·.1))):fD P w H h d (SW d fs):=
 ⟨⟨mA,q,r,wi⟩,let ⟨o,_,_,e,_⟩:=q;⟨o,e⟩,by rintro _ _ ⟨mA,q,r⟩ k;exact⟨mA,q.at k,r⟩⟩
section
variable{σ:St}
theorem H?(I:Inv X χ σ H s)(hn:H a=At)(h0:X.s₀.heap.get? a=At)(hl:a≠X.env.locals)(hc:∀x c,X.env.cells.lookup x=AC c->c≠a)(hp:∀p∈X.pn++χ,p.1≠a)(ok:fD X.prog X.w (upd H a o) s.heap a o):Inv X χ σ (upd H a o) s:=by
 have ne:∀b u,H b=AC u->b≠a:=λ b u q=>bj q hn;refine Im I (λ b hb=>by rw[A19.mp hb];exact⟨h0,hl,hc,hp⟩) (λ b o _ _ _ q _=>q) (λ b o _ _ _ q _=>⟨_,q⟩)
  (λ b o hb q n=>by rw[aG λ z=>hb<|A19.mpr z];exact n) (λ b o _ q=>⟨o,q⟩) (λ b xs q=>by rw[aG<|ne b _ q];exact q) (λ b o u q=>by rw[aG<|ne b _ q];exact q) (λ b u _ q=>by rw[aG<|ne b _ q];exact q) (λ m hm=>hm) (λ b u q=>?_) I.bare
 by_cases hb:b=a
 .subst hb;rw[aO]at q;cases q;exact ok
 .rw[aG hb]at q;exact(I.b9 b u q).rZ (λ c v _ z=>z) (λ c z=>by rw[aG<|ne c _ z];exact z) (λ c xs z=>by rw[aG<|ne c _ z];exact z) λ c v _ z=>by rw[aG<|ne c _ z];exact z
theorem Yz{a:δ}(I:Inv X χ σ H s)(h:s.heap.objs.size<=a):H a=At/\X.s₀.heap.get? a=At/\a≠X.env.locals/\(∀x c,X.env.cells.lookup x=AC c->c≠a)/\∀p∈X.pn++χ,p.1≠a:=
 ⟨I.b9.fresh h,B46<|A13 I.sz h,A42<|A16 I.lt h,λ x c e z=>by let⟨w',o,q,_⟩:=I.cell x c e;exact absurd (A01 q)<|A85.mpr<|z▸h,λ p hp z=>absurd (A01 (I.pin p hp).1)<|A85.mpr<|z▸h⟩
def tF0(C:δ)(j i:Nat)(f:Str):TS:=λ D σ H=>∃e oe v,σ[j]?=AC (AC<|.ref e)/\σ[i]?=AC (AC v)/\H e=AC (M0 e oe)/\oe.cls=.ref C/\oe.dict=At/\(∃ws,oe.data=.fields ws) /\
 ∀dx,H dx=At->dx≠e->D.nx σ (upd (upd H e<|M0 e {oe with dict:=AC dx}) dx<|SW dx [(f,v)])
def tF1(C:δ)(j i:Nat)(f:Str):TS:=λ D σ H=>∃e oe v dx fs,σ[j]?=AC (AC<|.ref e)/\σ[i]?=AC (AC v)/\H e=AC (M0 e oe)/\oe.cls=.ref C/\oe.dict=AC dx/\(∃ws,oe.data=.fields ws)/\dx≠e/\H dx=AC (SW dx fs)/\fs.length<=100 /\
 D.nx σ (upd H dx<|SW dx<|jy f v fs)
theorem Pb(k:vd X.K C)(ht:findIn X.K (.ref C) f=AC At)(ho:PE X o (lS j))(hv:PE X value (lS i))(hs:swapsWith value (AC<|.Attribute o f pos') pos.line X.env=pure AT):PS X (.Assign [.Attribute o f pos'] value pos) (tF0 C j i f):=by
 rintro χ s σ H D I ⟨e,oe,v,hj,hi,he,kA,hd,qe,q⟩;refine B87 (cA (hv χ s σ H (λ y H1=>y=v/\H1=H) I ⟨v,hi,rfl,rfl⟩) λ u s1 ⟨y,H1,I1,ry,q1,q2⟩=>cA (ho χ s1 σ H1 (λ y' H2=>y'=.ref e/\H2=H) I1 ⟨_,by rw[hj],rfl,q2⟩) ?_) hs;rintro ov s2 ⟨y',H2,I2,rx,q3,q4⟩;subst q1 q3 q4;obtain rfl:ov=Value.ref e:=rx;have hx:=(I2.b9 e _ he).1;refine Kw k I2.lH hx kA hd qe ht λ h' dx Kc Hz J? kp tk=>?_;have J:Inv X χ σ _ {s2 with heap:=h',toks:=tk}:=I2.write (by rw[he];exact IR) (.inl rfl) (λ b o hb z=>kp b o hb z) ⟨_,Hz⟩<|Jl Hz;have ne:=A42<|A16 (A01 hx) Kc;let⟨f1,f2,f3,f4,f5⟩:=Yz I2 Kc;exact⟨σ,_,H? J (by rw[aG ne];exact f1) f2 f3 f4 f5 (HN (fs:=[(f,_)]) J? (λ g=>by
  by_cases z:g=f
  .subst z;simp only[A73,A94,A25];exact ry
  .simp only[A73,A71.mpr z,List.lookup_nil,W1 z];trivial)<|Within.cons f u Within.nil),q dx f1 ne⟩
theorem UE(k:vd X.K C)(ht:findIn X.K (.ref C) f=AC At)(ho:PE X o (lS j))(hv:PE X value (lS i))(hs:swapsWith value (AC<|.Attribute o f pos') pos.line X.env=pure AT):PS X (.Assign [.Attribute o f pos'] value pos) (tF1 C j i f):=by
 rintro χ s σ H D I ⟨e,oe,v,dx,fs,hj,hi,he,kA,hd,qe,ne,Kc,hl,q⟩;refine B87 (cA (hv χ s σ H (λ y H1=>y=v/\H1=H) I ⟨v,hi,rfl,rfl⟩) λ u s1 ⟨y,H1,I1,ry,q1,q2⟩=>cA (ho χ s1 σ H1 (λ y' H2=>y'=.ref e/\H2=H) I1 ⟨_,by rw[hj],rfl,q2⟩) ?_) hs;rintro ov s2 ⟨y',H2,I2,rx,q3,q4⟩;subst q1 q3 q4;obtain rfl:ov=Value.ref e:=rx;have hx:=(I2.b9 e _ he).1;obtain⟨mA,hn,hr,hw⟩:=(I2.b9 dx _ Kc).1;refine Kv k I2.lH hx kA hd ne qe ht hn hw (by rw[A06];lia) λ h' J? sb tk=>⟨σ,_,?_,q⟩
 refine I2.write (by rw[Kc];exact IR) (.inl rfl) (λ b o hb z=>(sb.2 b hb).trans z) (let ⟨o,_,_,e,_⟩:=J?;⟨o,e⟩)<|HN J? (λ g=>?_) λ g hg=>?_
 .rw[l3];by_cases z:g=f
  .rw[M2 z,M2 z];exact ry
  .rw[W1 z,W1 z];exact hr g
 .by_cases z:g=f
  .rw[z];exact(j! f _ fs).1
  .refine(j! f _ fs).2 g<|hw g λ y=>hg ?_;rw[W1 z];exact y
end
def Ug(C:δ)(fs:γ Str):Sp:=λ vs H Q _=>∃e oe as,vs=.ref e::as/\as.length=fs.length/\H e=AC (M0 e oe)/\oe.cls=.ref C/\oe.dict=At/\(∃ws,oe.data=.fields ws) /\
 ∀dx,H dx=At->dx≠e->Q .non (upd (upd H e<|M0 e {oe with dict:=AC dx}) dx<|SW dx<|fs.zip as)
theorem xI:upd (upd H a o) a o'=upd H a o':=funext λ b=>by
 by_cases h:b=a
 .subst h;rw[aO,aO]
 .rw[aG h,aG h,aG h]
section
variable{K:Frag}
theorem VC{st:θ}(k:vd K C)(ht:findIn K (.ref C) a=AC At)(F:BJ K "__init__" qual st f fd)(hb:aL st=[.Assign [.Attribute (.Name "self" p1) a p2] (.Name a p3) p4])
 (S:aY ["self",a] ["self",a] (aj st)) (hv:∀x∈(["self",a]:γ Str),Hq (aj st) x) (hd:(a==("__debug__"))=AT) (hc:(a==("__classdict__"))=AT):ee P w K mg base iK 1 f fd ["self",a] (Ug C [a]):=by
 let⟨oc,od,kV,doc,pm,an,ba,ct,uc,rfl,lk,nH⟩:=F.ex;refine uH lk nH S (by rintro vs H Q E ⟨e,oe,as,h,hl,_⟩;subst h;simp[hl]) ?_;rintro A outer s H vs Q E hr ⟨e,oe,as,h,hl,he,h1,h2,h3,q⟩;rw[hb];refine⟨_,mF<|Pb (j:=0) (i:=1) k ht (kH rfl (hv _<|.head _) ∅ ∅) (kH rfl (hv _<|.tail _<|.head _) hd hc) rfl,?_⟩;subst h
 match as,hl with
 |[v],_=>exact⟨e,oe,v,rfl,rfl,he,h1,h2,h3,q⟩
theorem VB{st:θ}(k:vd K C)(ht:findIn K (.ref C) a=AC At)(_k:findIn K (.ref C) b=AC At)(F:BJ K "__init__" qual st f fd)
 (hb:aL st=[.Assign [.Attribute (.Name "self" p1) a p2] (.Name a p3) p4,.Assign [.Attribute (.Name "self" q1) b q2] (.Name b q3) q4]) (qc:b≠a)
 (S:aY ["self",a,b] ["self",a,b] (aj st)) (hv:∀x∈(["self",a,b]:γ Str),Hq (aj st) x) (hd:∀x∈[a,b],(x==("__debug__"))=AT/\(x==("__classdict__"))=AT):ee P w K mg base iK 1 f fd ["self",a,b] (Ug C [a,b]):=by
 let⟨oc,od,kV,doc,pm,an,ba,ct,uc,rfl,lk,nH⟩:=F.ex;refine uH lk nH S (by rintro vs H Q E ⟨e,oe,as,h,hl,_⟩;subst h;simp[hl]) ?_;rintro A outer s H vs Q E hr ⟨e,oe,as,h,hl,he,h1,h2,h3,q⟩;rw[hb];refine⟨_,i! (Pb (j:=0) (i:=1) k ht (kH rfl (hv _<|.head _) ∅ ∅) (kH rfl (hv _<|.tail _<|.head _) (hd _<|.head _).1 (hd _<|.head _).2) rfl)
 <|mF<|UE (C:=C) (j:=0) (i:=2) k _k (kH rfl (hv _<|.head _) ∅ ∅) (kH rfl (hv _<|.tail _<|.tail _<|.head _) (hd _<|.tail _<|.head _).1 (hd _<|.tail _<|.head _).2) rfl,?_⟩
 subst h
 match as,hl with
 |[v,u],_=>
  refine⟨e,oe,v,rfl,rfl,he,h1,h2,h3,λ dx n ne=>⟨e,{oe with dict:=AC dx},u,dx,_,rfl,rfl,by rw[aG<|A05 ne,aO],h1,rfl,h3,ne,aO,by simp,?_⟩⟩;rw[xI];have:jy b u [(a,v)]=[a,b].zip [v,u]:=by unfold jy;rw[W1<|A05 qc];rfl
  rw[this];exact q dx n ne
end
abbrev TV:γ ζ:=[.type "ValueError",.type "Exception",.type "BaseException",.type "object"]
def BS(K:Frag)(C:δ):Bool:=match K.lookup C with
|some ⟨.type "type",_,.cls cd,sl⟩=>(match cd.mro,sl.toList with
 |.ref C'::bm,[_,_,_,_,AC (.builtin n),_]=>C'==C&&n=="ValueError.__new__" && !cd.hasDel&&tailIn K TV bm
 | _,_=>AT)
|_=>AT
def Ly(C:δ)(h:ν):Prop:=∃(tl:γ ζ)(ns:δ)(nm qn:Str)(bs:γ ζ)(hd:Bool)(sn:γ Str)(sub:γ ζ)(ab:Bool)(col:ε Bool)(dd:ε δ)(s0 s1 s2 s3 s5:ε ζ),
 h.get? C=AC (excClassObj nm qn C ns bs tl hd sn sub ab col dd s0 s1 s2 s3 s5 "ValueError.__new__")/\OwnTail h TV tl
theorem WD{K:Frag}(X:K.In h)(q:BS K C=Ch):Ly C h:=by
 unfold BS at q;split at q
 .rename_i dd cd sl ho;split at q
  .rename_i C' tl s0 s1 s2 s3 id s5 e1 e2;simp only[A46,A27,B68]at q;let⟨⟨⟨rfl,rfl⟩,r1⟩,r2⟩:=q;cases cd;dsimp only at e1 r1;subst e1 r1;obtain rfl:sl=#[s0,s1,s2,s3,AC (.builtin "ValueError.__new__"),s5]:=by cases sl;simp only at e2;rw[e2]
   exact⟨tl,_,_,_,_,_,_,_,_,_,dd,s0,s1,s2,s3,s5,X _ _ ho,tail_of_in X r2⟩
  .cases q
 .cases q
section
variable{K:Frag}
theorem G5{os:OsState}{rest:γ ζ}(X:K.In h)(q:Ly C h)(hi:findIn K (.ref C) "__init__"=AC (AC<|.ref fI))(hf:typeIn K (.ref fI)=AC (.type "function"))(l!:rest.length<=sizeLine)
 (hq:∀h' e,ce h h' e (.ref C) rest->EQ (model prog w) A (call (.ref fI)<|.ref e::rest) (λ r s'=>r=.none/\Q (.done<|.ret<|.ref e) s') E ⟨h',g,d,t,os⟩) :
 EQ (model prog w) A (Builtin.«type.__call__» ⟨.ref C::rest,[]⟩) Q E ⟨h,g,d,t,os⟩:=by
 let⟨tl,ns,nm,qn,bs,hd,sn,sub,ab,col,dd,s0,s1,s2,s3,s5,hC,T⟩:=q;have F:=C56
 repeat (first|with_reducible refine B01 hC ?_|with_reducible refine wpAny_madeBy_exc hC ?_|wp_step)
 refine codeAny_call_builtin_code (Code.quiet_builtin _ F.quiet)<|wpAny_check_new_subT F T hC<|codeAny_exc_new_subT F T hC ?_ l!;show EQ _ _ _ _ _ _;have kp:∀b o,h.get? b=AC o->((h.push {cls:=.type "tuple",data:=.seq rest.toArray}).push {cls:=.ref C,data:=.fields #[.ref h.objs.size,.none,.none,.none,.bool AT,.none]}).get? b=AC o:=λ b o z=>v6 _<|v6 _ z;have Tp:=kp _ _ hC;have X1:=X.keeps kp;have VY:((h.push {cls:=.type "tuple",data:=.seq rest.toArray}).push {cls:=.ref C,data:=.fields #[.ref h.objs.size,.none,.none,.none,.bool AT,.none]}).get? (h.objs.size+1)=AC {cls:=.ref C,data:=.fields #[.ref h.objs.size,.none,.none,.none,.bool AT,.none]}:=by heap_get
 have hcC:(Value.ref C::tl).contains (.ref C)=Ch:=by simp
 unfold isInstance
 repeat (first|with_reducible refine B01 VY ?_|(with_reducible refine C27 Tp ?_;rw[hcC])|wp_step)
 show EQ _ _ (typeLookup (.ref C) _) _ _ _;refine(looks_findIn (M:=model prog w) X1 hi).at ?_;refine A38<|T0<|(bind_fn (M:=model prog w) X1 _ hf).at ?_;refine T0<|A21 (hq _ (h.objs.size+1) ⟨kp,B46<|A57 _,h.objs.size,VY,B46<|v4 _,v6 _<|Heap.get?_push_at rfl rfl⟩) (λ r s' hr=>?_) λ _ _ x=>x;let⟨rfl,hQ⟩:=hr
 wp_walk
 exact hQ
theorem G6{rest:γ ζ}(X:K.In s.heap)(q:Ly C s.heap)(hi:findIn K (.ref C) "__init__"=AC (AC<|.ref fI))(hf:typeIn K (.ref fI)=AC (.type "function"))(l!:rest.length<=sizeLine)
 (hq:∀h' e,ce s.heap h' e (.ref C) rest->EQ (model prog w) (A.under<|.builtin "type.__call__" ⟨.ref C::rest,[]⟩) (call (.ref fI)<|.ref e::rest) (λ r s'=>r=.none/\Q (.ref e) s') E {s with heap:=h'}) :
 EQ (model prog w) A (call (.ref C) rest) Q E s:=by
 let⟨h,g,d,t,os⟩:=s;dsimp only at X q hq;let⟨tl,ns,nm,qn,bs,hd,sn,sub,ab,col,dd,s0,s1,s2,s3,s5,hC,T⟩:=id q;have f1:=tc_lookup;have f2:=tc_bind<|.ref C;have hT:(⟨h,g,d,t,os⟩:η).TypeIs (.ref C) "type":=⟨_,hC,rfl⟩
 refine A90<|codeAny_of_tree ?_
 repeat (any_goals (first|assumption|with_reducible refine B01 hC ?_|wp_step))
 exact⟨rfl,codeAny_call_builtin_at (Code.quiet_builtin _ (by decide +kernel)) entry_typeCall<|wpAny_check_type_call_sub hC<|G5 X q hi hf l! λ h' e hm=>hq h' e hm⟩
end
end ZS
namespace Z
def kE(c:γ Nat)(fs:γ (γ Nat))(as:AF)(ρ:Env):ε XN:=match as ρ with
|.ok ds=>if ds.length=fs.length then AC (c,fs.zip ds)else At
|.bad=>At
end Z
namespace ZS
open L2 PySem.W
section
variable{σ:St}
theorem L'(I:Inv X χ σ H s)(ha:H a=AC (.ext φ)):Inv X χ σ (λ b=>if b=a then At else H b) s:=by
 have ne:∀b u,H b=AC u->(∀φ,u≠.ext φ)->b≠a:=λ b u q z e=>by subst e;rw[ha]at q;cases q;exact z _ rfl
 have go:∀b u,H b=AC u->(∀φ,u≠.ext φ)->(λ b=>if b=a then At else H b) b=AC u:=λ b u q z=>by show(if b=a then At else H b)=_;rw[W1<|ne b u q z];exact q
 refine Im (ch:=[]) I (λ b hb=>nomatch hb) (λ b o _ _ _ q _=>q) (λ b o _ _ _ q _=>⟨_,q⟩)
  (λ b o _ q n=>by rw[n];split<;>rfl) (λ b o _ q=>⟨o,q⟩) (λ b xs q=>go b _ q λ _ z=>nomatch z) (λ b o u q=>go b _ q λ _ z=>nomatch z) (λ b u p q=>go b _ q λ φ z=>by subst z;exact p.elim) (λ m hm=>hm) (λ b u q=>?_) I.bare
 have q:=q;split at q
 .cases q
 .exact(I.b9 b u q).rZ (λ c v _ z=>z) (λ c z=>go c _ z λ _ y=>nomatch y) (λ c xs z=>go c _ z λ _ y=>nomatch y) λ c v p z=>go c _ z λ φ y=>by subst y;exact p.elim
theorem Mx(hex:X.ex=[])(q:Ly C s.heap)(hi:findIn X.K (.ref C) "__init__"=AC (AC<|.ref f))(hf:isFn X.K (.ref f)=Ch)(F:ee X.prog X.w X.K X.mg X.base iK k f fd ("self":: fs) (Ug C fs))
 (hb:Binds X.K fd ("self":: fs) []) (hr:bG (k+1) X.A) (I:Inv X χ σ H s) (r:Vals vs us) (hl:vs.length=fs.length) (hz:us.length<=100) :
 EQ (model X.prog X.w) X.A (call (.ref C) us) (λ v s'=>∃e dx od H',v=.ref e/\Inv X χ σ H' s'/\aJ H H'/\H' dx=AC (.fF od<|.xd<|fs.zip vs)/\OS X χ H' s' e C (AC dx)/\∃t,s'.heap.get? e=AC {cls:=.ref C,dict:=AC dx,data:=.fields #[.ref t,.none,.none,.none,.bool AT,.none]}) X.xe s:=by
 refine G6 I.lH q hi (A27.mp hf) (by rw[A23];lia) λ h' e hm=>?_;let⟨J,th⟩:=D? hex I hm;let⟨oe,ws,he,hc,hd,qe,_⟩:=th.ex;let⟨tt,htt,_,_⟩:=hm.there;have J2:=H? J th.off.free th.off.new (th.off.loc J) (th.off.cell J) th.off.pin<|Jl he;have BO:Ug C fs (.ref e::vs) (upd H e<|M0 e oe) (λ v H3=>v=.non/\∃dx,H dx=At/\dx≠e/\H3=upd (upd H e<|M0 e {oe with dict:=AC dx}) dx (SW dx<|fs.zip vs)) (λ _ _ _=>False):=
  ⟨e,oe,vs,rfl,hl,aO,hc,hd,⟨ws,qe⟩,λ dx hn ne=>⟨rfl,dx,by rw[aG ne]at hn;exact hn,ne,by rw[xI]⟩⟩
 have r2:Vals (V.ref e::vs) (Value.ref e::us):=.cons rfl r;have NV:(Value.ref e::us++[]).length=("self":: fs:γ Str).length:=by simp[<-r.length,hl]
 refine A90<|A78 (F.run _ X.stack _ _ ⟨Value.ref e::us,[]⟩ (Value.ref e::us) _ _ _ (hr.make C us []) (J2.KI.make C us []) (by have:=hb _ (Value.ref e::us) J2.lH NV;simpa using this) r2 BO) λ rr s' hq=>?_;cases rr with
 |error ev=>exact hq.elim
 |ok fl=>
  cases fl with
  |ret u=>
   let⟨v,H3,I3,rv,ev,dx,hn,ne,rfl⟩:=J2.after hq;subst ev;obtain⟨⟨mA,n1,rr,_⟩,⟨od,god⟩,_⟩:=(I3.b9 dx _ aO)
   have hx:=(show fD X.prog X.w _ s'.heap e (M0 e {oe with dict:=AC dx})from I3.b9 e _ (by rw[aG<|A05 ne,aO])).1;have I4:=I3.write (o:=.fF od (.xd<|fs.zip vs)) (t':=s'.toks) (h':=s'.heap) (by rw[aO];exact IR) (.inl rfl) (λ b o _ z=>z) ⟨_,god⟩ ⟨god,mA,n1,rr⟩;rw[xI]at I4;have I5:=L' (a:=e) I4 (by rw[aG<|A05 ne,aO]);obtain rfl:=A04 (he.symm.trans htt);cases qe;refine⟨rv,e,dx,od,_,rfl,I5,λ b o z=>?_,?_,⟨⟨?_,th.off.new,th.off.pin,_,_,hx,rfl⟩,_,_,hx,rfl,rfl,rfl,.inl rfl⟩,tt,hx⟩
   .show(if b=e then At else upd _ dx _ b)=_;rw[W1<|bj z th.off.free,aG<|bj z hn,aG<|bj z th.off.free];exact z
   .skip
    rw[W1 ne,aO]
   .skip
    rw[M2 rfl]
  |next=>exact hq.elim
  |brk=>exact hq.elim
  |cont=>exact hq.elim
theorem Qr(hh:A.handled=At)
 (h:EQ M A x (λ v s₁=>∃e dx t,v=.ref e/\Ly C s₁.heap/\s₁.heap.get? e=AC {cls:=.ref C,dict:=dx,data:=.fields #[.ref t,.none,.none,.none,.bool AT,.none]}/\E (.ref e) s₁) E s):EQ M A (raiseStmt env (AC x) At) Q E s:=by
 refine T0<|A21 h (λ v s₁ h₁=>?_) λ _ _ x=>x;let⟨e,dx,t,rfl,⟨tl,ns,nm,qn,bs,hd,sn,sub,ab,col,dd,s0,s1,s2,s3,s5,hC,T⟩,he,hE⟩:=h₁;have _8:(Value.ref C::tl).contains (.type "BaseException")=Ch:=by rw[C25,T.hasType C56.hasBase,C26]
 let⟨hp,g,d,tk,os⟩:=s₁
 repeat (first|with_reducible refine B01 he ?_|with_reducible refine B01 hC ?_|(with_reducible refine C27 hC ?_;rw[_8])|wp_step)
 exact wpAny_raiseNew_none hh hE
end
structure Lz(P:Program)(w:World)(K:Frag)(mg:Str->Option Value)(base:Heap)(C:Addr)(k:Nat)(fz:List (List Nat)):Prop where
 ex:∃f fd,BS K C=Ch/\keepIn K (.ref C)=Ch/\findIn K (.ref C) "__init__"=AC (AC<|.ref f)/\isFn K (.ref f)=Ch/\ee P w K mg base iK k f fd ("self":: fz.map λ f=>⟨f.toArray⟩) (Ug C<|fz.map λ f=>⟨f.toArray⟩)/\Binds K fd ("self":: fz.map λ f=>⟨f.toArray⟩) []
theorem ua{K:Frag}:∀{fz:γ (γ Nat)}{ds}{vs},ds.length=fz.length->aE K H ds vs->Paired (λ(p)(q)=>p.1=⟨q.1.toArray⟩/\Den K H q.2 p.2) ((fz.map λ f=>(⟨f.toArray⟩:Str)).zip vs) (fz.zip ds)
|[],[],vs,_,d=>.nil
|f::fz,d::ds,vs,h,dd=>by let⟨v,r,rfl,d1,d2⟩:=dd;exact .cons ⟨rfl,d1⟩<|ua (by simpa using h) d2
section
variable{H0:Hp}{pos:Pos}
theorem _root_.ZQ.qg{np gR:Pos}(hc:X.calm=Ch)(hex:X.ex=[])(hg:Gl X x)(_5:(⟨c.toArray⟩)=x)(xc:XC X.K c C)(J:Lz X.prog X.w X.K X.mg X.base C k fz)(hr:bG (k+1) X.A)(ha:ZQ.QA X.gE (e::es) ar)(hfz:fz≠[])(LN:fz.length<=100)
 (gQ:(x==("__debug__"))=AT:=by decide +kernel) (he:Se e es X.env:=by rfl) (fQ:Pn gR es X.env:=by rfl) :
 ZQ.SJ X H0 (.Raise (AC<|.Call (.Name x np) (e::es) [] gR) At pos) (Z.kE c fz ar):=⟨by
 let⟨f,fd,xj,hk,hi,hf,F,hb⟩:=J.ex;intro χ s σ H D I h;let⟨ρ,c',rs,ec,kw⟩:=h;unfold Z.kE at ec;split at ec
 .rename_i ds ed;split at ec
  .rename_i hl;cases ec;have hm:X.mg x=AC (.ref C):=by have:=A22 I.lH (I.mod.glob.keeps I.bk) xc.1;rw[_5]at this;exact this
   rw[arm_exec_Raise];refine T0<|B33<|Qr (C:=C) (I.ok.hd hc) ?_;refine T0<|A21 (A79<|mK I hg hm ?_ gQ) (λ v s₃ h₃=>T0<|B33<|P3 h₃) λ _ _ x=>x;refine B02 I.ok.mod.LK hk (cA (PA.gE ha.p gR χ s σ H (λ vs H1=>aJ H H1/\aE X.K H1 ds vs) I ⟨ρ,ds,rs.re,ed,λ vs H1 s1 d1=>⟨s1,d1⟩⟩) λ us s1 ⟨vs,H1,I1,r,sm,d1⟩=>⟨I1.lH,?_⟩) he fQ;have Yi:vs.length=fz.length:=by rw[<-hl];exact d1.length
   refine cA (Mx hex (WD I1.lH xj) hi hf F hb hr I1 r (by rw[Yi,A06]) (us:=us) (by rw[<-r.length,Yi];exact LN)) ?_;rintro v s2 ⟨e2,dx,od,H2,hv,I2,qt,Kc,th,t,LM⟩;exact⟨e2,AC dx,t,hv,WD I2.lH xj,LM,kw χ σ H2 s2 e2 C (AC dx) (rs.same.trans<|sm.trans qt) ⟨xc,by
    refine⟨?_,od,_,Kc,ua hl<|d1.up qt⟩;cases fz with
    |nil=>exact absurd rfl hfz
    |cons a l=>cases ds with
     |nil=>cases hl
     |cons b m=>exact λ z=>nomatch z⟩ I2 th⟩
  .cases ec
 .cases ec⟩
end
end ZS
namespace Z
end Z
namespace PySem
section
variable{K:Type}[DecidableEq K]{knd:KeyKind prog w K}
end
end PySem
namespace ZS
open L2
end ZS
namespace ZQ
open L2 ZS
end ZQ
namespace Z
end Z
namespace ZS
open L2 PySem.W
theorem _root_.ZQ.P6{i:Nat}(hN:X.N.Nodup)(hi:X.N[i]?=AC x)(hx:Loc X.env.scope x)(h:ZQ.WX X a f)(hs:swapsWith a (AC<|.Name x pos') pos.line X.env=pure AT:=by rfl)(hf:Fl X x:=by trivial):ZQ.YL X (.Assign [.Name x pos'] a pos) f:=⟨nU hN hi hx h.p hs hf⟩
end ZS
namespace ZQ
open L2 ZS PySem.W
end ZQ
namespace Z
def eM(kd i:Nat)(ρ:Env):Res D:=match ρ[i]? with
|some<|some<|.bor<|.dct (.inl a::.inl k::ks) vs=>if k=(kd:Int)then .ok (.dct (.inl a::.inl k::ks) vs)else .bad
|_=>.bad
def g_:γ (Sum Int<|γ Nat)->γ D->γ Nat->Res D
|.inr k::ks,v::vs,f=>if k=f then .ok v else g_ ks vs f
|_,_,_=>.bad
def eT(f:γ Nat):D->Res D
|.dct (.inl _::.inl _::ks) vs=>g_ ks vs f
|_=>.bad
def LP(bs:γ Bool)(n:Nat)(b:XF)(ds:γ D):ε XN:=if ds.length=bs.length then b (startB n bs ds)else At
theorem E8(bs:γ Bool)(n:Nat)(b:XF)(ds:γ D)(h:ds.length=bs.length):LP bs n b ds=b (startB n bs ds):=M2 h
inductive wm where
|nx (ρ:Env)
|rt (d:D) (ts:List D)
abbrev SM:=Env->Res wm
def Xl:ε (ε L)->D
|some<|some<|.bor d=>d
|_=>.non
def fm(ms:γ Nat)(ρ:Env):γ D:=ms.map λ i=>Xl ρ[i]?
def qG:ε L->Prop
|some<|.bor _=>True
|_=>False
def lL(ms:γ Nat):Nat->Env->Prop
|_,[]=>True
|k,x::r=>(qG x->k∈ms)/\lL ms (k+1) r
def cY(ms:γ Nat)(ρ ρ':Env):Prop:=(∀i∈ms,ρ'[i]?=ρ[i]?)/\lL ms 0 ρ'
def bC(ms:γ Nat)(g:SF)(ρ:Env):Res wm:=(g ρ).bind λ fl=>match fl with
|.nx ρ'=>guard (cY ms ρ ρ')<|.ok<|.nx ρ'
|.rt d=>.ok<|.rt d<|fm ms ρ
|_=>.bad
def cm(a b:SM)(ρ:Env):Res wm:=(a ρ).bind λ fl=>match fl with
|.nx ρ'=>b ρ'
|o=>.ok o
def fO(f:γ Nat)(d:D):γ (Sum Int<|γ Nat)->γ D->γ (Sum Int<|γ Nat)×γ D
|.inr k::ks,v::vs=>if k=f then(.inr k::ks,d::vs)else(.inr k::(fO f d ks vs).1,v::(fO f d ks vs).2)
|_,_=>([.inr f],[d])
def vC(f:γ Nat)(x:D)(t:ε (ε L)):Res L:=match t with
|some<|some<|.bor<|.dct (.inl a::.inl k::ks) vs=>guard (k=0/\(fO f x ks vs).1=(cV.take (fO f x ks vs).1.length).map .inr)<|.ok<|.bor<|.dct (.inl a::.inl k::(fO f x ks vs).1) (fO f x ks vs).2
|_=>.bad
def mZ(i:Nat)(f:γ Nat)(e:EF)(ρ:Env):Res wm:=(e ρ).bind λ d=>(vC f d ρ[i]?).bind λ l=>.ok<|.nx<|ρ.set i<|some l
def zp(ms:γ Nat)(bs:γ Bool)(n:Nat)(b:SM)(ds:γ D):Res (D×γ D):=if ds.length=bs.length then(match b (startB n bs ds)with
|.ok<|.rt d ts=>.ok (d,ts)
|.ok<|.nx ρ=>.ok (.non,fm ms ρ)
| _=>.bad)else .bad
theorem jM(ms:γ Nat)(bs:γ Bool)(n:Nat)(b:SM)(ds:γ D)(h:ds.length=bs.length):zp ms bs n b ds=(match b (startB n bs ds)with
|.ok<|.rt d ts=>.ok (d,ts)
|.ok<|.nx ρ=>.ok (.non,fm ms ρ)
| _=>.bad):=M2 h
open Classical in
def um(m:γ D->Res (D×γ D))(ds:γ D):Res (γ D):=if h:∃fs,∀x:Nat,m (fR x 0 [] []::ds)=.ok (.non,[fR x 0 cV fs])then .ok h.choose else .bad
theorem JJ(h:um m ds=.ok fs):∀x,m (fR x 0 [] []::ds)=.ok (.non,[fR x 0 cV fs]):=by
 unfold um at h;split at h
 .rename_i q;cases h;exact q.choose_spec
 .cases h
theorem JK(h:∀x,m (fR x 0 [] []::ds)=.ok (.non,[fR x 0 cV fs])):um m ds=.ok fs:=by
 have q:∃fs,∀x,m (fR x 0 [] []::ds)=.ok (.non,[fR x 0 cV fs]):=⟨fs,h⟩
 unfold um;rw[A93 q];have:=(q.choose_spec 0).symm.trans<|h 0;simp only[Res.ok.injEq,C28,true_and,A97,B36,fR,D.dct.injEq]at this;exact A15 _ this
open Classical in
def Lo(f:Nat->Res Fl):Res Fl:=if h:∃d,∀x,f x=.ok (.rt d)then .ok (.rt h.choose)else .bad
theorem OO(h:Lo f=.ok fl):∃d,fl=.rt d/\∀x,f x=.ok (.rt d):=by
 unfold Lo at h;split at h
 .rename_i q;cases h;exact⟨_,rfl,q.choose_spec⟩
 .cases h
theorem OP(h:∀x,f x=.ok (.rt d)):Lo f=.ok (.rt d):=by
 have q:∃d,∀x,f x=.ok (.rt d):=⟨d,h⟩
 unfold Lo;rw[A93 q];have:=(q.choose_spec 0).symm.trans<|h 0;simp only[Res.ok.injEq,Fl.rt.injEq]at this;exact A15 (λ d=>Res.ok _) this
open Classical in
def mkX(m:γ D->ε XN)(d:D):ε XN:=if h:∃c,∀x:Nat,m [fR x 0 [] [],d]=AC c then AC h.choose else At
abbrev LX:=Env->Res (D×Env)
def fq:γ Nat->γ D->Env->Env
|i::is,t::ts,ρ=>fq is ts<|ρ.set i<|some<|.bor t
|_,_,ρ=>ρ
def fE:Nat->γ Bool->γ Nat
|_,[]=>[]
|k,Ch::bs=>k::fE (k+1) bs
|k,AT::bs=>fE (k+1) bs
def Ce:γ Bool->γ D->γ D
|true::bs,d::ds=>d::Ce bs ds
|false::bs,_::ds=>Ce bs ds
|_,_=>[]
def mP(f:EF)(ρ:Env):Res (D×Env):=(f ρ).bind λ d=>.ok (d,ρ)
def fN(fn:γ D->Res (D×γ D))(bs:γ Bool)(is:γ Nat)(ar:AF)(ρ:Env):Res (D×Env):=(ar ρ).bind λ ds=>guard (Ce bs ds=fm is ρ)<|(fn ds).bind λ r=>guard (r.2.length=is.length)<|.ok (r.1,fq is r.2 ρ)
def mU(op:D->Res D)(a:LX)(ρ:Env):Res (D×Env):=(a ρ).bind λ x=>(op x.1).bind λ z=>.ok (z,x.2)
def GB(i:Nat)(e:LX)(ρ:Env):Res wm:=(e ρ).bind λ r=>.ok<|.nx<|r.2.set i<|some<|.val r.1
def AQ(e:LX)(ρ:Env):Res wm:=(e ρ).bind λ r=>.ok<|.nx r.2
def AO(ms:γ Nat)(e:LX)(ρ:Env):Res wm:=(e ρ).bind λ r=>.ok<|.rt r.1<|fm ms r.2
def nE(ρ:Env):Res wm:=.ok<|.nx ρ
abbrev SH:=Env->Res (Bool×Env)
abbrev Xa:=Env->Res (γ D×Env)
def Nf(t:TF)(ρ:Env):Res (Bool×Env):=(t ρ).bind λ b=>.ok (b,ρ)
def X8(e:LX)(ρ:Env):Res (Bool×Env):=(e ρ).bind λ x=>match x.1 with
|.bl c=>.ok (c,x.2)
|_=>.bad
def EI(t:SH)(ρ:Env):Res (Bool×Env):=(t ρ).bind λ x=>.ok (!x.1,x.2)
def xC(ρ:Env):Res (γ D×Env):=.ok ([],ρ)
def my(a:LX)(r:Xa)(ρ:Env):Res (γ D×Env):=(a ρ).bind λ x=>(r x.2).bind λ y=>.ok (x.1::y.1,y.2)
def GA(a:Xa)(ρ:Env):Res (D×Env):=(a ρ).bind λ x=>guard (x.1.length<=line)<|.ok (.tup x.1,x.2)
def sf(t:SH)(a b:SM)(ρ:Env):Res wm:=(t ρ).bind λ c=>if c.1 then a c.2 else b c.2
def ya(i:Nat)(m:γ D->Res (D×γ D))(a:EF)(r:SM)(ρ:Env):Res Fl:=(a ρ).bind λ d=>(um m [d]).bind λ fs=>guard (lL [i] 0<|ρ.set i<|some<|.bor<|.dct [] []) (Lo λ x=>(r<|ρ.set i<|some<|.bor<|fR x 0 cV fs).bind λ fl=>match fl with
|.rt d _=>.ok<|.rt d
| _=>.bad)
def Nj(ms:γ Nat)(e:LX)(g:GF)(ρ:Env):Res wm:=(e ρ).bind λ r=>(g r.1 r.2).bind λ ρ'=>guard (cY ms r.2 ρ')<|.ok<|.nx ρ'
def jU(ms:γ Nat)(g:GF)(b:SM):γ D->Env->Res wm
|[],ρ=>.ok<|.nx ρ
| d::r,ρ=>(g d ρ).bind λ ρ1=>guard (cY ms ρ ρ1) ((b ρ1).bind λ fl=>match fl with
 |.nx ρ'=>jU ms g b r ρ'
 | .rt d ts=>.ok<|.rt d ts)
def JO(ms:γ Nat)(it:LF)(g:GF)(b:SM)(ρ:Env):Res wm:=(it ρ).bind λ ds=>jU ms g b ds ρ
end Z
namespace ZS
open L2 PySem.W
def LV(K:Da)(H:Hp)(kd:Nat)(d:Z.D)(v:V):Prop:=∃a ks ds u,d=Z.fR a kd ks ds/\v=.ref a/\H a=AC u/\Hr K H kd ks ds u
theorem LV.b{K:Da}(h:LV K H kd d v):jC K H d v:=let ⟨a,ks,ds,u,h⟩:=h;.inr ⟨a,kd,ks,ds,u,h⟩
theorem LV.up{K:Da}(h:LV K H kd d v)(e:aJ H H'):LV K H' kd d v:=by let⟨a,ks,ds,u,e1,e2,q,t⟩:=h;exact⟨a,ks,ds,u,e1,e2,e _ _ q,t.ups<|ky e⟩
def tZm(K:Da)(kd:Nat)(f:Z.EF):TE:=λ σ H Q=>∃ρ d,RE K H σ ρ/\f ρ=.ok d/\∀v H',aJ H H'->LV K H' kd d v->Q v H'
abbrev DM(X:Cx)(kd:Nat)(e:ι)(f:Z.EF):Prop:=PE X e<|tZm X.K kd f
structure _root_.ZQ.QM(X:Cx)(kd:Nat)(e:Expr)(f:Z.EF):Prop where p:DM X kd e f
theorem Wx(h:Z.eM kd i ρ=.ok d):∃a ks vs,ρ[i]?=AC (AC<|.bor d)/\d=.dct (.inl a::.inl (kd)::ks) vs:=by
 unfold Z.eM at h;split at h
 .rename_i a k ks vs q;split at h
  .rename_i hk;subst hk;cases h;exact⟨a,ks,vs,q,rfl⟩
  .cases h
 .cases h
theorem K0{K:Da}{kd:Nat}(h:jC K H (.dct (.inl a::.inl (kd)::ks) vs) v):LV K H kd (.dct (.inl a::.inl (kd)::ks) vs) v:=by
 let⟨a',kd',ks',ds,u,e1,e2,q,t⟩:=h.fR;have:kd'=kd:=by
  injection e1 with e1 _
  injection e1 with _ e1
  injection e1 with e1 _
  injection e1 with e1
  exact(B42 e1).symm
 subst this;exact⟨a',ks',ds,u,e1,e2,q,t⟩
theorem _root_.ZQ.cf(h:PE X e (lS i)):ZQ.QM X kd e (Z.eM kd i):=⟨PE.imp h <|by rintro σ H Q ⟨ρ,d,r,e,k⟩;let⟨a,ks,vs,hi,rfl⟩:=Wx e;let⟨v,h1,h2⟩:=r.get i _ hi;exact⟨v,h1,k v H (aJ.refl H)<|K0 h2⟩⟩
theorem _root_.ZQ.d!(ha:ZQ.QM X kd e f)(hr:ZQ.LW X es bs g)(hs:Se e es X.env:=by rfl):ZQ.LW X (e::es) (Ch::bs) (Z.aa f g):=⟨PA.imp (bH ha.p hr.p hs) <|by rintro σ H Q ⟨ρ,ds,r,e,k⟩;let⟨x,ea,e⟩:=XV e;let⟨xs,eb,e⟩:=XV e;cases e;exact⟨ρ,x,r,ea,λ v H1 s1 d1=>⟨ρ,xs,r.up s1,eb,λ vs H2 s2 t=>k _ H2 (s1.trans s2) ⟨v,vs,rfl,(d1.up s2).b,t⟩⟩⟩⟩
theorem n4{a b:γ Nat}:((⟨a.toArray⟩:Str)=⟨b.toArray⟩)↔a=b:=⟨λ h=>by simpa using A15 (λ s=>s.cps.toList) h,λ h=>by rw[h]⟩
theorem E6{K:Da}{H:Hp}{f:γ Nat}{d:Z.D}:∀{ks:γ (γ Nat)}{ds:γ Z.D}{fs:γ (Str×V)},Z.g_ (ks.map .inr) ds f=.ok d->fs.map (·.1)=ks.map (λ c=>(⟨c.toArray⟩:Str))->aE K H ds (fs.map (·.2))->∃v,fs.lookup ⟨f.toArray⟩=AC v/\Den K H d v
|[],ds,fs,h,_,_=>by cases h
|k::ks,[],fs,h,_,_=>by cases h
|k::ks,x::ds,[],_,h2,_=>by cases h2
|k::ks,x::ds,(n,v)::fs,h,h2,h3=>by
 simp only[f8,A97]at h2;simp only[f8,aE]at h3;let⟨v',r,e1,h4,h5⟩:=h3;cases e1;let⟨e2,h2⟩:=h2;subst e2;simp only[f8,Z.g_]at h;by_cases hk:k=f
 .subst hk;rw[M2 rfl]at h;cases h;exact⟨v,by simp[Fk],h4⟩
 .rw[W1 hk]at h;let⟨w,q1,q2⟩:=E6 h h2 h5;refine⟨w,?_,q2⟩;have:((⟨f.toArray⟩:Str)==⟨k.toArray⟩)=AT:=A71.mpr λ z=>hk (n4.mp z).symm;simp only[Fk,this];exact q1
def TM(K:Da)(f:Str):Prop:=∃C,nsIn K mainGlobals "Desk"=AC (AC<|.ref C)/\findIn K (.ref C) f=AC At
theorem _root_.ZQ.cL(hn:TM X.K f)(ho:ZQ.QM X 0 o fo)(hf:(⟨fc.toArray⟩)=f)(hb:attributeBase o f X.env (eval o X.env)=eval o X.env:=by rfl):ZQ.QE X (.Attribute o f pos) (Z.eU (Z.eT fc) fo):=⟨PE.imp (QF ho.p hb) <|by
 rintro σ H Q ⟨ρ,d,r,e,k⟩;let⟨x,ea,e⟩:=XV e;refine⟨ρ,x,r,ea,λ v H1 s1 d1=>?_⟩;let⟨a,ks,ds,u,rfl,rfl,q,t⟩:=d1;rcases t with⟨_,_,C,dx,fs,rfl,hC,h3,h4⟩|⟨z,_⟩
 .let⟨v,q1,q2⟩:=E6 e h3 h4;let⟨C',e1,e2⟩:=hn;have:=e1.symm.trans hC.1;cases this;rw[hf]at q1;exact⟨a,C,dx,fs,v,rfl,q,hC.2,e2,q1,k v H1 s1 q2⟩
 .cases z⟩
theorem mJ{fs:γ (Str×V)}(h:fs.map (·.1)=(Z.cV.take n).map (λ c=>(⟨c.toArray⟩)))(hm:(Z.cV.map λ c=>(⟨c.toArray⟩)).contains m=AT):fs.lookup m=At:=by
 have hk:∀y∈fs.map _,(m==y)=AT:=λ y hy=>by rw[h]at hy;let⟨c,hc,rfl⟩:=A02.mp hy;have:(⟨_⟩)∈Z.cV.map (λ c=>(⟨c.toArray⟩:Str)):=A02.mpr ⟨c,C06 hc,rfl⟩;refine A71.mpr λ z=>?_;rw[<-z,<-List.contains_iff_mem,hm]at this;cases this
 clear h
 induction fs with
 |nil=>rfl
 |cons x r ih=>let⟨n,v⟩:=x;simp only[Fk,hk n ∅];exact ih λ y hy=>hk y (by simp;right;simpa using hy)
structure vg(P:Program)(w:World)(K:Da)(mg:Str->Option Value)(base:Heap)(m:Str)(k:Nat)(ps:List Str)(bs:List Bool)(fn:List Z.D->Z.Res Z.D):Prop where
 ex:∃C g fd,sF K "Desk" C/\Meth K C m g/\ee P w K mg base iK k g fd ps (Cj K bs fn)/\Binds K fd ps []
theorem _root_.ZQ.uU(C:vg X.prog X.w X.K X.mg X.base m k ps [Ch] fn)(hr:bG k X.A)(ho:ZQ.QM X 0 o fo)(hf:(Z.cV.map λ c=>(⟨c.toArray⟩)).contains m=AT)
 (ht:eval (.Call (.Attribute o m apos) [] [] pos) X.env=(do
  let ov ←eval o X.env
  standAt apos.atName
  let (f,first) ←holding [ov] (getMethod ov m pl)
  callWith pos f first (backTo pos<|starEach [] X.env) (backToKw pos<|keywordEach [] X.env)):=by rfl) :
 ZQ.QE X (.Call (.Attribute o m apos) [] [] pos) (Z.aD fn<|Z.aa fo Z.aC):=⟨by
 let⟨C,g,fd,hC,hm,F,hb⟩:=C.ex;refine PE.imp (I! ho.p hC.2 hm F hr hb .nil t_ ht) ?_;rintro σ H Q ⟨ρ,d,r,e,k⟩;let⟨ds,ea,e⟩:=XV e;let⟨x,ex,ea⟩:=XV ea;let⟨xs,en,ea⟩:=XV ea;cases en;cases ea;refine⟨ρ,x,r,ex,λ v H1 s1 d1=>?_⟩;let⟨a,ks,ds,u,rfl,rfl,q,t⟩:=id d1;rcases t with⟨_,hk,C',dx,fs,rfl,E5,h3,h4⟩|⟨z,_⟩
 .have:=E5.1.symm.trans hC.1;cases this;rw[hk]at h3;exact⟨a,dx,fs,rfl,q,mJ h3 hf,[Z.fR a 0 ks ds],d,⟨_,_,rfl,d1.b,rfl⟩,e,λ v H' s2 dv=>k v H' (s1.trans s2) dv⟩
 .cases z⟩
theorem _root_.ZQ.k8(C:vg X.prog X.w X.K X.mg X.base m k ps (Ch::bs) fn)(hr:bG k X.A)(ho:ZQ.QM X 0 o fo)(hf:(Z.cV.map λ c=>(⟨c.toArray⟩)).contains m=AT)(ha:ZQ.LW X (e::es) bs ar)
 (pG:Se e es X.env:=by rfl) (fQ:Pn pos es X.env:=by rfl)
 (ht:eval (.Call (.Attribute o m apos) (e::es) [] pos) X.env=(do
  let ov ←eval o X.env
  standAt apos.atName
  let (f,first) ←holding [ov] (getMethod ov m pl)
  callWith pos f first (backTo pos<|starEach (e::es) X.env) (backToKw pos<|keywordEach [] X.env)):=by rfl) :
 ZQ.QE X (.Call (.Attribute o m apos) (e::es) [] pos) (Z.aD fn<|Z.aa fo ar):=⟨by
 let⟨C,g,fd,hC,hm,F,hb⟩:=C.ex;refine PE.imp (Ey ho.p hC.2 hm F hr hb .nil t_ ha.p pG fQ ht) ?_;rintro σ H Q ⟨ρ,d,r,e,k⟩;let⟨ds,ea,e⟩:=XV e;let⟨x,ex,ea⟩:=XV ea;let⟨xs,en,ea⟩:=XV ea;cases ea;refine⟨ρ,x,r,ex,λ v H1 s1 d1=>?_⟩;let⟨a,ks,ds,u,rfl,rfl,q,t⟩:=id d1;rcases t with⟨_,hk,C',dx,fs,rfl,E5,h3,h4⟩|⟨z,_⟩
 .have:=E5.1.symm.trans hC.1;cases this;rw[hk]at h3;refine⟨a,dx,fs,rfl,q,mJ h3 hf,ρ,xs,r.up s1,en,λ vs H2 s2 d2=>?_⟩;show Cj X.K _ fn _ H2 Q E0;rw[A52];exact⟨Z.fR a 0 ks ds::xs,d,⟨_,_,rfl,(d1.up s2).b,d2⟩,e,λ v H' s3 dv=>k v H' ((s1.trans s2).trans s3) dv⟩
 .cases z⟩
structure DV(K:Da)(m qual:Str)(st:Stmt)(ps:List Str):Prop where
 ex:∃C f fd,sF K "Desk" C/\Meth K C m f/\BJ K m qual st f fd/\Binds K fd ps []
section
variable{K:Da}
theorem vg.mk'{st:θ}(qf:bs.length=ps.length)(d:DV K m qual st ps)(S:aY N ps (aj st))
 (hb:∀ f ba A outer s H E,bG k (A.deeper<|envOfC qual (aj st) s.heap.objs.size f ba) ->
  LY (dU iK P w K mg base N qual (aj st) f ba A outer s H E).gE H (aL st) b):vg P w K mg base m (k+1) ps bs (Z.A9 bs N.length b):=by
 let⟨C,f,fd,hC,hm,F,sS⟩:=d.ex;exact⟨C,f,fd,hC,hm,Wk qf F S<|hb f,sS⟩
end
def Ck(K:Da)(bs:γ Bool)(m:γ Z.D->ε Z.XN):Sp:=λ vs H _ E=>∃ds c,ju K H bs ds vs/\m ds=AC c/\∀C dd H',aJ H H'->qY K H' c C dd->E (.ref C) dd H'
section
variable{K:Da}
theorem aap{st:θ}{dV kV doc pm ba ct oc:ζ}(qf:bs.length=ps.length)
 (lk:K.lookup f=AC ⟨oc,od,.func<|PySem.W.fnOf name qual (bA st) (aL st) (aj st) dV kV doc pm an ba ct,uc⟩) (nH:On K ba qual=Ch) (S:aY N ps (aj st))
 (hb:∀ A outer s H E,bG k (A.deeper<|envOfC qual (aj st) s.heap.objs.size f ba) ->
  TK (dU (vh P w) P w K mg base N qual (aj st) f ba A outer s H E) H (aL st) xb):ee P w K mg base (vh P w) (k+1) f (NE name qual (bA st) (aL st) (aj st) dV kV doc pm an ba ct) ps (Ck K bs<|Z.LP bs N.length xb):=by
 have ψ:∀vs H Q E,Ck K bs (Z.LP bs N.length xb) vs H Q E->vs.length=ps.length:=by rintro vs H Q E ⟨ds,d,t,e,_⟩;have:=t.length;lia
 refine uH lk nH S ψ λ A outer s H vs Q E hr h=>?_;refine⟨_,hb A outer s H E hr,?_⟩;have hl:=ψ vs H Q E h;let⟨ds,c,t,e,k⟩:=h;have fQ:ps.length<=N.length:=by have:=A15 List.length S.pre;rw[A24]at this;lia
 have rs:RS K H H (L2.start N vs) (Z.startB N.length bs ds):=nP t ∅;unfold Z.LP at e;split at e
 .exact⟨_,c,rs,e,λ χ σ H' s' a C dd sm xc I th=>w8 I th<|k C dd H' sm xc⟩
 .cases e
structure ac1(P:Program)(w:World)(K:Da)(mg:Str->Option Value)(base:Heap)(x:Str)(k:Nat)(ps:List Str)(bs:List Bool)(m:List Z.D->Option Z.XN):Prop where
 ex:∃g fd,ee P w K mg base (vh P w) k g fd ps (Ck K bs m)/\mg x=AC (.ref g)/\FM K (.ref g)=Ch/\Binds K fd ps []
structure p_(P:Program)(w:World)(K:Da)(mg:Str->Option Value)(base:Heap)(m:Str)(k:Nat)(ps:List Str)(bs:List Bool)(fx:List Z.D->Option Z.XN):Prop where
 ex:∃C g fd,sF K "Desk" C/\Meth K C m g/\ee P w K mg base (vh P w) k g fd ps (Ck K bs fx)/\Binds K fd ps []
theorem p_.mk'{st:θ}(qf:bs.length=ps.length)(d:DV K m qual st ps)(S:aY N ps (aj st))
 (hb:∀ f ba A outer s H E,bG k (A.deeper<|envOfC qual (aj st) s.heap.objs.size f ba) ->
  TK (dU (vh P w) P w K mg base N qual (aj st) f ba A outer s H E) H (aL st) xb):p_ P w K mg base m (k+1) ps bs (Z.LP bs N.length xb):=by
 let⟨C,f,fd,hC,hm,F,sS⟩:=d.ex;let⟨oc,od,kV,doc,pm,an,ba,ct,uc,rfl,lk,nH⟩:=F.ex;exact⟨C,f,_,hC,hm,aap qf lk nH S<|hb f ba,sS⟩
end
theorem Uq
 (hex:X.ex=[]) (F:ee X.prog X.w X.K X.mg X.base (vh X.prog X.w) k g fd ps (Ck X.K bs m)) (hr:bG k X.A) (hb:Binds X.K fd ps []) (I:Inv X χ σ H s) (r:Vals vs us) (d1:ju X.K H bs ds vs) (ec:m ds=AC c) (kw:WU X σ H c) :
 EQ (model X.prog X.w) X.A (call (.ref g) us) Q X.xe s:=by
 have BO:Ck X.K bs m vs H (λ _ _=>False) (λ cv dd H'=>∃C,cv=.ref C/\qY X.K H' c C dd/\aJ H H'):=⟨ds,c,d1,ec,λ C' dd H' s2 x2=>⟨C',rfl,x2,s2⟩⟩
 have hl:=F.len _ _ _ _ BO;refine A90<|A78 (F.run X.A _ s H ⟨us,[]⟩ us vs _ _ hr I.KI (by have:=hb s us I.lH (by rw[A52,<-r.length];exact hl);simpa using this) r BO) λ rr s' hq=>?_;cases rr with
 |ok fl=>
  cases fl with
  |ret u=>let⟨v,H2,_,_,_,_,_,q⟩:=hq;exact q.elim
  |_=>exact hq.elim
 |error ev=>have hq:vh _ X.w _ H s (λ cv dd H'=>∃C,cv=.ref C/\qY X.K H' c C dd/\aJ H H') ev s':=hq;let⟨a,C',dd,H',rfl,J,th,C2,hc,x2,s2⟩:=H_ hex I hq;cases hc;exact kw χ H' s' a C' dd s2 x2 J th
theorem PAF.gE(h:YT X.gE es bs ar):YT X es bs ar:=PA.gE h
theorem _root_.ZQ.oU(C:p_ X.prog X.w X.K X.mg X.base m k ps (Ch::bs) fx)(hr:bG k X.A)(ho:ZQ.QM X 0 o fo)(hf:(Z.cV.map λ c=>(⟨c.toArray⟩)).contains m=AT)(ha:ZQ.LW X.gE (e::es) bs ar)
 (hex:X.ex=[]:=by rfl) (pG:Se e es X.env:=by rfl) (fQ:Pn pos es X.env:=by rfl)
 (ht:eval (.Call (.Attribute o m apos) (e::es) [] pos) X.env=(do
  let ov ←eval o X.env
  standAt apos.atName
  let (f,first) ←holding [ov] (getMethod ov m pl)
  callWith pos f first (backTo pos<|starEach (e::es) X.env) (backToKw pos<|keywordEach [] X.env)):=by rfl) :
 ZQ.WX X (.Call (.Attribute o m apos) (e::es) [] pos) (Z.f? fx<|Z.aa fo ar):=⟨by
 let⟨C,g,fd,hC,hm,F,hb⟩:=C.ex;intro χ s σ H Q I h;let⟨ρ,c,re,ec,kw⟩:=h;unfold Z.f? at ec;split at ec
 .rename_i ds ed;let⟨x,ex,ea⟩:=XV ed;let⟨xs,en,ea⟩:=XV ea;cases ea;refine B90 (cA (ho.p χ s σ H (λ v H1=>aJ H H1/\LV X.K H1 0 x v) I ⟨ρ,x,re,ex,λ v H1 s1 d1=>⟨s1,d1⟩⟩) ?_) ht;rintro u s1 ⟨v,H1,I1,rx,sm,d1⟩;let⟨a,ks,ds,u',rfl,rfl,q,t⟩:=id d1;obtain rfl:u=Value.ref a:=rx;rcases t with⟨_,hk,C',dx,fs,rfl,E5,h3,h4⟩|⟨z,_⟩
  .have:=E5.1.symm.trans hC.1;cases this;rw[hk]at h3;refine n_ I1 q hC.2 hm (mJ h3 hf) ?_;refine B02 I.ok.mod.LK hm.kp (cA (PAF.gE ha.p pos χ s1 σ H1 (λ vs H2=>aJ H1 H2/\ju X.K H2 bs xs vs) I1 ⟨ρ,xs,re.up sm,en,λ vs H2 s2 d2=>⟨s2,d2⟩⟩) λ us s2 ⟨vs,H2,I2,r,qt,d2⟩=>⟨I2.lH,?_⟩) pG fQ;exact Uq (vs:=.ref a::vs) (ds:=Z.fR a 0 ks ds::xs) hex F hr hb I2 (.cons rfl r) ⟨_,_,rfl,(d1.up qt).b,d2⟩ ec<|(kw.up sm).up qt
  .cases z
 .cases ec⟩
def over(H0 H:Hp)(as:γ δ):Hp:=λ b=>if b∈as then H b else H0 b
section
variable{K:Da}
theorem cE(h:a∈as):over H0 H as a=H a:=M2 h
theorem cW(h:a∉as):over H0 H as a=H0 a:=W1 h
theorem Jd(h:a∈as):over H0 (upd H a u) as=upd (over H0 H as) a u:=by
 funext b
 by_cases hb:b=a
 .subst hb;rw[cE h,aO,aO]
 .rw[aG hb];by_cases hm:b∈as
  .rw[cE hm,cE hm,aG hb]
  .rw[cW hm,cW hm]
theorem o4(h:Z.fR a kd ks vs=Z.fR a' kd' ks' vs'):a=a'/\kd=kd'/\ks=ks'/\vs=vs':=by
 injection h with h1 h2
 injection h1 with h1 h3
 injection h3 with h3 h4
 injection h1 with h1
 injection h3 with h3
 exact⟨B42 h1,B42 h3,(lw λ x y h=>by injection h).mp h4,h2⟩
theorem ie:∀{ρ}{k i}{x},Z.lL ms k ρ->ρ[i]?=AC x->Z.qG x->k+i∈ms
|[],_,_,_,_,e,_=>by simp at e
|y::r,k,0,x,h,e,t=>by simp at e;subst e;exact h.1 t
|y::r,k,i+1,x,h,e,t=>by have:=ie h.2 (by simpa using e) t;rw[show k+(i+1)=k+1+i from by lia];exact this
theorem qC:∀{ρ}{k},(∀i x,ρ[i]?=AC x->Z.qG x->k+i∈ms)->Z.lL ms k ρ
|[],_,_=>trivial
|y::r,k,h=>⟨λ t=>h 0 y rfl t,qC λ i x e t=>by have:=h (i+1) x (by simpa using e) t;rw[show k+1+i=k+(i+1)from by lia];exact this⟩
structure RM(K:Da)(H0:Hp)(ms:List Nat)(as:List Addr)(H:Hp)(σ:St)(ρ:Z.Env):Prop where
 rs:RS K (over H0 H as) H σ ρ
 at_:Paired (λ(i:Nat)(a:Addr)=>∃kd ks vs,ρ[i]?=AC (AC<|.bor<|Z.fR a kd ks vs)) ms as
 no:Z.lL ms 0 ρ
 nd:as.Nodup
 h0:∀a∈as,H0 a=At
theorem eA:∀{l}{m}{x},Paired R l m->x∈l->∃y∈m,R x y
|_,_,_,.nil,h=>by simp at h
|_,_,x,.cons r t,h=>by
 rcases A00.mp h with rfl|h
 .exact⟨_,by simp,r⟩
 .let⟨y,h1,h2⟩:=eA t h;exact⟨y,by simp[h1],h2⟩
theorem ro(hf:∀i a b,R i a->R i b->a=b):∀{l}{m}{i j}{a},Paired R l m->m.Nodup->i∈l->j∈l->R i a->R j a->i=j
|_,_,_,_,_,.nil,_,h,_,_,_=>by simp at h
|_,_,i,j,a,.cons r t,nd,hi,hj,ri,rj=>by
 have nZ:=A17.mp nd;rcases A00.mp hi with ei|yK
 .rcases A00.mp hj with ej|BQ
  .exact ei.trans ej.symm
  .let⟨z,hz,rz⟩:=eA t BQ;subst ei;have e1:=hf _ _ _ r ri;have e2:=hf _ _ _ rz rj;subst e1;subst e2;exact absurd hz nZ.1
 .rcases A00.mp hj with ej|BQ
  .let⟨z,hz,rz⟩:=eA t yK;subst ej;have e1:=hf _ _ _ r rj;have e2:=hf _ _ _ rz ri;subst e1;subst e2;exact absurd hz nZ.1
  .exact ro hf t nZ.2 yK BQ ri rj
theorem DO{ρ:Z.Env}(i:Nat)(a b:δ)(h1:∃kd ks vs,ρ[i]?=AC (AC<|.bor<|Z.fR a kd ks vs))(h2:∃kd ks vs,ρ[i]?=AC (AC<|.bor<|Z.fR b kd ks vs)):a=b:=by
 let⟨_,_,_,h1⟩:=h1;let⟨_,_,_,h2⟩:=h2;rw[h1]at h2;injection h2 with h2;injection h2 with h2;injection h2 with h2
 exact(o4 h2).1
theorem RM.Yb(h:RM K H0 ms as H σ ρ)(hi:ρ[i]?=AC (AC<|.bor<|Z.fR a kd ks vs)):i∈ms:=by have:=ie h.no hi trivial;simpa using this
theorem RM.mem(h:RM K H0 ms as H σ ρ){i:Nat}(hi:ρ[i]?=AC (AC<|.bor<|Z.fR a kd ks vs)):a∈as:=by let⟨y,hy,r⟩:=eA h.at_ (h.Yb hi);have:=DO i _ _ ⟨_,_,_,hi⟩ r;subst this;exact hy
theorem RM.uniq(h:RM K H0 ms as H σ ρ){i j kd kd':Nat}(hi:ρ[i]?=AC (AC<|.bor<|Z.fR a kd ks vs))(hj:ρ[j]?=AC (AC<|.bor<|Z.fR a kd' ks' vs')):i=j:=
 ro (λ i a b=>DO i a b) h.at_ h.nd (h.Yb hi) (h.Yb hj) ⟨_,_,_,hi⟩ ⟨_,_,_,hj⟩
theorem RM.thing(h:RM K H0 ms as H σ ρ){i:Nat}(hi:ρ[i]?=AC (AC<|.bor<|Z.fR a kd ks vs)):σ[i]?=AC (AC<|.ref a)/\∃u,H a=AC u/\Hr K H kd ks vs u:=by let⟨v,h1,h2⟩:=h.rs.re.get i _ hi;let⟨a',ks',ds,u,e1,rfl,q,t⟩:=K0 h2;let⟨rfl,_,rfl,rfl⟩:=o4 e1;exact⟨h1,u,q,t⟩
theorem Hr.mb(t:Hr K H kd ks vs u):(∀xs,u≠.tup xs)/\(∀o x,u≠.fF o x)/\∀xs,u≠.lst xs:=by
 rcases t with⟨_,_,C,dx,fs,rfl,_⟩|⟨_,a9,rfl,_⟩
 .exact⟨λ _ z=>(nomatch z),λ _ _ z=>(nomatch z),λ _ z=>(nomatch z)⟩
 .exact⟨λ _ z=>(nomatch z),λ _ _ z=>(nomatch z),λ _ z=>(nomatch z)⟩
theorem RM.write(h:RM K H0 ms as H σ ρ)(hi:ρ[i]?=AC (AC<|.bor<|Z.fR a kd ks vs))(t:Hr K (upd H a u') kd' ks' vs' u'):
 g0 H (upd H a u')/\RM K H0 ms as (upd H a u') σ (ρ.set i<|some<|.bor<|Z.fR a kd' ks' vs'):=by
 have ha:=h.mem hi;let⟨hs,u,hu,t0⟩:=h.thing hi;have st:g0 H (upd H a u'):=mC hu t0.mb.1 t0.mb.2.1;have ou:over H0 H as a=AC u:=by rw[cE ha];exact hu
 have BN:g0 (over H0 H as) (upd (over H0 H as) a u'):=mC ou t0.mb.1 t0.mb.2.1;have A1:=(A07.mp hi).1;have bor:∀{j}{d}{v}{G},i≠j->ρ[j]?=AC (AC<|.bor d)->g0 G (upd G a u')->G a=AC u->jC K G d v->jC K (upd G a u') d v:=λ {j d v G} hj e sg ga hb=>by
  rcases hb with(hb|⟨ds,q,ws,e1,e2,q1,t1⟩)|⟨a2,Vt,Vq,ds2,u2,e1,e2,q2,t2⟩
  .exact .inl<|.inl<|hb.ups sg
  .have:q≠a:=by rintro rfl;rw[ga]at q1;exact t0.mb.2.2 _<|A04 q1
   exact .inl<|.inr ⟨ds,q,ws,e1,e2,by rw[aG this];exact q1,t1.ups sg⟩
  .have:a2≠a:=by rintro rfl;rw[e1]at e;exact hj<|h.uniq hi e
   exact .inr ⟨a2,Vt,Vq,ds2,u2,e1,e2,by rw[aG this];exact q2,t2.ups sg⟩
 have own:∀{q},over H0 H as q=At->q≠a:=λ e z=>by rw[z,ou]at e;cases e
 refine⟨st,⟨?_,?_,?_,h.nd,h.h0⟩⟩
 .rw [Jd ha];refine⟨λ b o e=>?_,⟨by simp[h.rs.re.len],λ j l e=>?_,λ j k xs ys q e1 e2 e3 e4=>?_⟩,λ j xs q e1 e2=>?_,λ j d e1=>?_,?_⟩
  .by_cases hb:b=a
   .subst hb;rw[aO]at e ⊢;exact e
   .rw[aG hb]at e ⊢;exact h.rs.same b o e
  .rcases aQ e with⟨rfl,hl,e⟩|⟨hj,e⟩
   .cases e;exact⟨.ref a,hs,.inr ⟨a,kd',ks',vs',u',rfl,rfl,aO,t⟩⟩
   .let⟨v,e1,r⟩:=h.rs.re.get j l e;refine⟨v,e1,?_⟩;cases l with
    |val d=>exact Den.ups (r) st
    |own zs=>let⟨q',ws,rfl,gv,t'⟩:=r;exact⟨q',ws,rfl,by rw[aG<|own<|h.rs.fresh j zs q' e e1];exact gv,t'.ups st⟩
    |bor d=>exact bor hj e st hu r
    |dc ks=>let⟨q',wg,rfl,gv,t'⟩:=r;exact⟨q',wg,rfl,by rw[aG<|own<|h.rs.zr.2 j ks q' e e1];exact gv,t'.ups st⟩
    |G3 ks=>let⟨q',o',wg,rfl,gv,t'⟩:=r;exact⟨q',o',wg,rfl,st.fF _ _ _ gv,t'.ups st⟩
    |RA ps=>let⟨q',o',rfl,gv⟩:=r;exact⟨q',o',rfl,st.fF _ _ _ gv⟩
    |exc c=>let⟨q',o',u',C',rfl,gv,r1,r2,r3⟩:=r;exact⟨q',o',u',C',rfl,st.fF _ _ _ gv,r1,r2,r3.ups st⟩
  .rcases aQ e1 with⟨_,_,e⟩|⟨_,e1⟩
   .cases e
   .rcases aQ e2 with⟨_,_,e⟩|⟨_,e2⟩
    .cases e
    .exact h.rs.re.sep j k xs ys q e1 e2 e3 e4
  .rcases aQ e1 with⟨_,_,e⟩|⟨_,e1⟩
   .cases e
   .have:=h.rs.fresh j xs q e1 e2;rw[aG<|own this];exact this
  .rcases aQ e1 with⟨rfl,_,e⟩|⟨hj,e9⟩
   .cases e;exact⟨.ref a,hs,.inr ⟨a,kd',ks',vs',u',rfl,rfl,aO⟩⟩
   .let⟨v,q1,q2⟩:=h.rs.p5 j d e9;refine⟨v,q1,?_⟩;rcases q2 with(hb|⟨ds,q,ws,g1,g2,q1,t1⟩)|⟨a2,Vt,Vq,ds2,u2,g1,g2,q2⟩
    .exact .inl<|.inl<|hb.ups BN
    .have:q≠a:=by rintro rfl;rw[ou]at q1;exact t0.mb.2.2 _<|A04 q1
     exact .inl<|.inr ⟨ds,q,ws,g1,g2,by rw[aG this];exact q1,t1.ups BN⟩
    .have:a2≠a:=by rintro rfl;rw[g1]at e9;exact hj<|h.uniq hi e9
     exact .inr ⟨a2,Vt,Vq,ds2,u2,g1,g2,by rw[aG this];exact q2⟩
  .refine⟨λ j k ks ls q e1 e2 e3 e4=>?_,λ j ks q e1 e2=>?_⟩
   .rcases aQ e1 with⟨_,_,e⟩|⟨_,e1⟩
    .cases e
    .rcases aQ e2 with⟨_,_,e⟩|⟨_,e2⟩
     .cases e
     .exact h.rs.zr.1 j k ks ls q e1 e2 e3 e4
   .rcases aQ e1 with⟨_,_,e⟩|⟨_,e1⟩
    .cases e
    .have:=h.rs.zr.2 j ks q e1 e2;rw[aG<|own this];exact this
 .refine Paired.Gy h.at_ λ j b hj=>?_;let⟨Vt,Vq,Xe,hj⟩:=hj;by_cases sR:i=j
  .subst sR;rw[hi]at hj;injection hj with hj;injection hj with hj;injection hj with hj
   let⟨rfl,_⟩:=o4 hj;exact⟨kd',ks',vs',A41 A1⟩
  .exact⟨Vt,Vq,Xe,by rw[A29 sR];exact hj⟩
 .refine qC λ j x e tx=>?_;by_cases sR:i=j
  .subst sR;rw[B10];exact h.Yb hi
  .rw[A29 sR]at e;exact ie h.no e tx
theorem RM.tracked(h:RM K H0 ms as H σ ρ)(ha:a∈as):∃u,H a=AC u:=by
 have key:∀{l}{m},Paired (λ(i:Nat)(a)=>∃kd ks vs,ρ[i]?=AC (AC<|.bor<|Z.fR a kd ks vs)) l m->a∈m->∃u,H a=AC u:=by
  intro l m p
  induction p with
  |nil=>intro h;simp at h
  |cons r t ih=>
   intro hm;rcases A00.mp hm with rfl|hm
   .let⟨_,_,_,hi⟩:=r;let⟨_,u,q,_⟩:=h.thing hi;exact⟨u,q⟩
   .exact ih hm
 exact key h.at_ ha
theorem RM.same(h:RM K H0 ms as H σ ρ):aJ H0 H:=λ b o e=>h.rs.same b o (by rw[cW λ z=>by rw[h.h0 b z]at e;cases e];exact e)
theorem RM.wQ(h:RM K H0 ms as H σ ρ)(s:∀a∈as,H' a=H a):over H0 H' as=over H0 H as:=by
 funext b
 by_cases hb:b∈as
 .rw[cE hb,cE hb,s b hb]
 .rw[cW hb,cW hb]
theorem RM.up(h:RM K H0 ms as H σ ρ)(s:aJ H H'):RM K H0 ms as H' σ ρ:=by
 have e:=h.wQ λ a ha=>by let⟨u,q⟩:=h.tracked ha;rw[q];exact s _ _ q
 refine⟨?_,h.at_,h.no,h.nd,h.h0⟩;rw[e];exact h.rs.up s
def xX:ε HO->Prop
|some<|.tup _=>True
|some<|.fF _ _=>True
|_=>False
open Classical in
noncomputable def ov(H0 H:Hp)(as:γ δ):Hp:=λ b=>if b∈as\/xX (H b)then H b else H0 b
theorem Je(h:a∈as):ov H0 H as a=H a:=M2<|.inl h
theorem Cy(h:xX (H b)):ov H0 H as b=H b:=M2<|.inr h
theorem Ga(h:b∉as)(n:¬xX (H b)):ov H0 H as b=H0 b:=W1 λ z=>z.elim h n
theorem RM.ovR(h:RM K H0 ms as H σ ρ):RS K (ov H0 H as) H σ ρ:=by
 have sm:aJ (over H0 H as) (ov H0 H as):=λ b o e=>by
  by_cases hb:b∈as
  .rw[cE hb]at e;rw[Je hb];exact e
  .rw[cW hb]at e;by_cases hs:xX (H b)
   .rw[Cy hs];exact h.same b o e
   .rw[Ga hb hs];exact e
 have non:∀{q}{u},over H0 H as q=At->H q=AC u->¬xX _->ov H0 H as q=At:=λ {q u} e hq n=>by
  have hb:q∉as:=λ z=>by rw[cE z,hq]at e;cases e
  rw[Ga hb (by rw[hq];exact n)];rw[cW hb]at e;exact e
 refine⟨λ b o e=>?_,h.rs.re,λ i xs q e1 e2=>?_,λ i d e1=>?_,⟨h.rs.zr.1,λ i ks q e1 e2=>?_⟩⟩
 .by_cases hb:b∈as\/xX (H b)
  .rcases hb with hb|hb
   .rw[Je hb]at e;exact e
   .rw[Cy hb]at e;exact e
  .rw[Ga (λ z=>hb<|.inl z) λ z=>hb<|.inr z]at e;exact h.same b o e
 .let⟨v,h1,a,vs,e,h2,_⟩:=h.rs.re.get i _ e1;rw[e2]at h1;cases h1;cases e;exact non (h.rs.fresh i xs _ e1 e2) h2 λ z=>z
 .let⟨v,h1,h2⟩:=h.rs.p5 i d e1;refine⟨v,h1,?_⟩;rcases h2 with h2|⟨a,kd,ks,ds,u,g1,g2,g3⟩
  .exact .inl<|h2.up sm
  .exact .inr ⟨a,kd,ks,ds,u,g1,g2,sm _ _ g3⟩
 .let⟨v,h1,a,wg,e,h2,_⟩:=h.rs.re.get i _ e1;rw[e2]at h1;cases h1;cases e;refine non (h.rs.zr.2 i ks _ e1 e2) h2 λ z=>?_;cases ks<;>exact z
theorem QQ(s:aJ (ov H0 H as) H'):g0 H H':=⟨λ b xs e=>s _ _ (by rw[Cy (by rw[e];trivial)];exact e),λ b o x e=>s _ _ (by rw[Cy (by rw[e];trivial)];exact e)⟩
theorem dB:∀{l}{m},Paired R l m->(∀x∈l,∀y,R x y->S x y)->Paired S l m
|_,_,.nil,_=>.nil
|_,_,.cons r t,f=>.cons (f _ ∅ _ r)<|dB t λ x hx=>f x (by simp[hx])
theorem RM.back(h:RM K H0 ms as H σ ρ)(kt:Z.cY ms ρ ρ')(r:RS K (ov H0 H as) H' σ' ρ'):RM K H0 ms as H' σ' ρ':=by
 have ha:∀a∈as,H' a=H a:=λ a z=>by let⟨u,q⟩:=h.tracked z;rw[q];exact r.same _ _ (by rw[Je z];exact q)
 have e:=h.wQ ha;have at':Paired (λ(i)(a)=>∃kd ks vs,ρ'[i]?=AC _) ms as:=dB h.at_ <|by rintro i hi a ⟨kd,ks,vs,q⟩;exact⟨kd,ks,vs,by rw[kt.1 i hi];exact q⟩
 have down:∀{q},ov H0 H as q=At->over H0 H as q=At:=λ {q} z=>by
  by_cases hb:q∈as
  .rw[Je hb]at z;rw[cE hb];exact z
  .rw[cW hb];by_cases hs:xX (H q)
   .rw[Cy hs]at z;rw[z]at hs;exact hs.elim
   .rw[Ga hb hs]at z;exact z
 refine⟨?_,at',kt.2,h.nd,h.h0⟩;rw[e];refine⟨λ b o q=>?_,r.re,λ i xs q e1 e2=>down<|r.fresh i xs q e1 e2,λ i d e1=>?_,⟨r.zr.1,λ i ks q e1 e2=>down<|r.zr.2 i ks q e1 e2⟩⟩
 .by_cases hb:b∈as
  .rw[cE hb]at q;rw[ha b hb];exact q
  .rw[cW hb]at q;refine r.same b o ?_;by_cases hs:xX (H b)
   .rw[Cy hs];exact h.same b o q
   .rw[Ga hb hs];exact q
 .let⟨v,h1,h2⟩:=r.p5 i d e1;have hi:i∈ms:=by have:=ie kt.2 e1 trivial;simpa using this
  let⟨a,hm,kd,ks,vs,q⟩:=eA at' hi;rw[e1]at q;injection q with q;injection q with q;injection q with q
  subst q;refine⟨v,h1,?_⟩;rcases h2 with h2|⟨a',kd',ks',ds,u,g1,g2,g3⟩
  .let⟨_,_,_,_,_,_,_,n⟩:=h2.dct;exact absurd rfl<|n _ _
  .let⟨rfl,rfl,rfl,rfl⟩:=o4 g1;let⟨u',q'⟩:=h.tracked hm;exact .inr ⟨a,kd,ks,vs,u',rfl,g2,by rw[cE hm];exact q'⟩
def TH(K:Da)(H:Hp)(as:γ δ)(ts:γ Z.D):Prop:=Paired (λ(a:δ)(t:Z.D)=>∃kd ks vs u,t=Z.fR a kd ks vs/\H a=AC u/\Hr K H kd ks vs u) as ts
theorem RM.YY(h:RM K H0 ms as H σ ρ):TH K H as (Z.fm ms ρ):=by
 have key:∀{l}{m},Paired (λ(i)(a)=>∃kd ks vs,ρ[i]?=AC (AC<|.bor<|Z.fR a kd ks vs)) l m->TH K H m (Z.fm l ρ):=by
  intro l m p
  induction p with
  |nil=>exact .nil
  |cons r t ih=>let⟨kd,ks,vs,hi⟩:=r;let⟨_,u,q,th⟩:=h.thing hi;exact .cons ⟨kd,ks,vs,u,by show Z.Xl _=_;rw[hi];rfl,q,th⟩ ih
 exact key h.at_
theorem TH.ups(h:TH K H as ts)(s:∀a∈as,H' a=H a)(st:g0 H H'):TH K H' as ts:=dB h <|by rintro a ha t ⟨kd,ks,vs,u,e,q,th⟩;exact⟨kd,ks,vs,u,e,by rw[s a ha];exact q,th.ups st⟩
end
def Yy(K:Da)(H0:Hp)(ms:γ Nat)(as:γ δ)(H:Hp)(D:Ends):Z.wm->Prop
|.nx ρ'=>∀σ' H',g0 H H'->RM K H0 ms as H' σ' ρ'->D.nx σ' H'
|.rt d ts=>∀v H',aJ H0 H'->TH K H' as ts->Den K H' d v->D.rt v H'
def tM(K:Da)(H0:Hp)(ms:γ Nat)(as:γ δ)(g:Z.SM):TS:=λ D σ H=>∃ρ fl,RM K H0 ms as H σ ρ/\g ρ=.ok fl/\Yy K H0 ms as H D fl
abbrev MS(X:Cx)(H0:Hp)(ms:γ Nat)(as:γ δ)(st:θ)(g:Z.SM):Prop:=PS X st<|tM X.K H0 ms as g
structure _root_.ZQ.HI(X:Cx)(H0:Hp)(ms:List Nat)(as:List Addr)(st:Stmt)(g:Z.SM):Prop where p:MS X H0 ms as st g
abbrev W6(X:Cx)(H0:Hp)(ms:γ Nat)(as:γ δ)(st:γ θ)(g:Z.SM):Prop:=qZ X st<|tM X.K H0 ms as g
structure _root_.ZQ.oN(X:Cx)(H0:Hp)(ms:List Nat)(as:List Addr)(st:List Stmt)(g:Z.SM):Prop where p:W6 X H0 ms as st g
theorem Yy.up{K:Da}(h:Yy K H0 ms as H D fl)(e:g0 H H1):Yy K H0 ms as H1 D fl:=by
 cases fl with
 |nx ρ'=>exact λ σ' H' s r=>h σ' H' (e.trans s) r
 |rt d ts=>exact h
section
variable{st:θ}
theorem bz(h:∀H1,DS X H1 st g):MS X H0 ms as st (Z.bC ms g):=by
 intro χ s σ H D I w;let⟨ρ,fl,rm,e,k⟩:=w;let⟨f1,e1,e⟩:=XV e;refine h _ χ s σ H D I ⟨ρ,f1,rm.ovR,e1,?_⟩;cases f1 with
 |nx ρ'=>let⟨kt,e⟩:=Z.b7 e;cases e;exact λ σ' H' st r=>k σ' H' st<|rm.back kt r
 |rt d=>
  cases e;intro v H' sm dv;have ha:∀a∈as,H' a=H a:=λ a z=>by let⟨u,q⟩:=rm.tracked z;rw[q];exact sm _ _ (by rw[Je z];exact q)
  refine k v H' (λ b o q=>?_) (rm.YY.ups ha<|QQ sm) dv;refine sm b o ?_;have nb:b∉as:=λ z=>by rw[rm.h0 b z]at q;cases q
  by_cases hs:xX (H b)
  .rw[Cy hs];exact rm.same b o q
  .rw[Ga nb hs];exact q
 |bk _=>cases e
 |ct _=>cases e
theorem _root_.ZQ.cw(h:ZQ.HI X H0 ms as st g):ZQ.oN X H0 ms as [st] g:=⟨mF h.p⟩
theorem _root_.ZQ.aU(h1:ZQ.HI X H0 ms as st g)(h2:ZQ.oN X H0 ms as zm u):ZQ.oN X H0 ms as (st::zm) (Z.cm g u):=⟨qZ.imp (i! h1.p h2.p) <|by
 rintro D σ H ⟨ρ,fl,rs,e,k⟩;let⟨f1,e1,e⟩:=XV e;refine⟨ρ,f1,rs,e1,?_⟩;cases f1 with
 |nx ρ'=>exact λ σ' H' s r=>⟨ρ',fl,r,e,k.up s⟩
 |rt d ts=>cases e;exact k⟩
theorem Ek{K:Da}{H:Hp}{f:γ Nat}{d:Z.D}{y:V}(hd:Den K H d y):∀{ks:γ (γ Nat)}{ds:γ Z.D}{fs:γ (Str×V)},fs.map (·.1)=ks.map (λ c=>(⟨c.toArray⟩:Str))->aE K H ds (fs.map (·.2)) ->
 ∃ks':γ (γ Nat),(Z.fO f d (ks.map .inr) ds).1=ks'.map .inr/\(jy ⟨f.toArray⟩ y fs).map (·.1)=ks'.map (λ c=>(⟨c.toArray⟩:Str))/\aE K H (Z.fO f d (ks.map .inr) ds).2 ((jy ⟨f.toArray⟩ y fs).map (·.2))
|[],ds,fs,h2,h3=>by
 have:fs=[]:=by simpa using h2
 subst this;refine⟨[f],?_,rfl,?_⟩
 .cases ds<;>rfl
 .have:(Z.fO f d ([].map .inr) ds).2=[d]:=by cases ds<;>rfl
  rw[this];exact aE.cons hd aE.nil
|k::ks,ds,[],h2,_=>by cases h2
|k::ks,[],(n,v)::fs,_,h3=>by simp only[f8,aE]at h3;cases h3
|k::ks,x::ds,(n,v)::fs,h2,h3=>by
 simp only[f8,A97]at h2;simp only[f8,aE]at h3;let⟨v',r,e1,h4,h5⟩:=h3;cases e1;let⟨e2,h2⟩:=h2;subst e2;simp only[f8,Z.fO,jy];by_cases hk:k=f
 .subst hk;rw[M2 rfl,M2 rfl];exact⟨k::ks,rfl,by simp[h2],aE.cons hd h5⟩
 .rw[W1 hk,W1 λ z=>hk<|n4.mp z];let⟨ks',q1,q2,q3⟩:=Ek hd h2 h5;exact⟨k::ks',by simp[q1],by simp[q2],aE.cons h4 q3⟩
theorem Ms(h:Z.vC f x t=.ok l):∃a ks vs,t=AC (AC<|.bor<|.dct (.inl a::.inl 0::ks) vs)/\(Z.fO f x ks vs).1=(Z.cV.take (Z.fO f x ks vs).1.length).map .inr/\l=.bor (.dct (.inl a::.inl 0::(Z.fO f x ks vs).1) (Z.fO f x ks vs).2):=by
 unfold Z.vC at h;split at h
 .rename_i a k ks vs;let⟨⟨rfl,q⟩,h⟩:=Z.b7 h;cases h;exact⟨a,ks,vs,rfl,q,rfl⟩
 .cases h
theorem RM.tagged{K:Da}(h:RM K H0 ms as H σ ρ){i:Nat}(hi:ρ[i]?=AC (AC<|.bor d)):∃a kd ks vs,d=Z.fR a kd ks vs:=by
 have hm:i∈ms:=by have:=ie h.no hi trivial;simpa using this
 let⟨a,_,kd,ks,vs,q⟩:=eA h.at_ hm;rw[hi]at q;injection q with q;injection q with q;injection q with q
 exact⟨a,kd,ks,vs,q⟩
theorem _root_.ZQ.jb(hn:TM X.K f)(ho:PE X o (lS i))(he:ZQ.QE X value fe)(hf:(⟨fc.toArray⟩)=f)(hs:swapsWith value (AC<|.Attribute o f pos') pos.line X.env=pure AT:=by rfl):
 ZQ.HI X H0 ms as (.Assign [.Attribute o f pos'] value pos) (Z.mZ i fc fe):=⟨PS.imp (Qu ho he.p hs) <|by
 rintro D σ H ⟨ρ,fl,rm,e,k⟩;let⟨d,ed,e⟩:=XV e;let⟨l,el,e⟩:=XV e;cases e;refine⟨ρ,d,rm.rs.re,ed,λ y H1 s1 dy=>?_⟩;have oQ:=rm.up s1;let⟨a0,Vr,vs,hi,hk,rfl⟩:=Ms el;let⟨a,kd,ks,vs',e1⟩:=oQ.tagged hi;injection e1 with e1 e2
 injection e1 with e1 e3
 injection e3 with e3 e4
 injection e1 with e1
 injection e3 with e3
 subst e1 e2 e4;have:=(B42 e3.symm)
 subst this;have yK:=hi;let⟨GS,u,hu,th⟩:=oQ.thing yK;rcases th with⟨_,_K,C,dx,fs,rfl,hC,h3,h4⟩|⟨z,_⟩
 .let⟨C',g1,g2⟩:=hn;have:=g1.symm.trans hC.1;cases this;have hl:fs.length<1000:=by
   have q1:fs.length=ks.length:=by simpa using A15 List.length h3
   have q2:ks.length<=4:=by
    have:=A15 List.length _K;rw[A24]at this;have:ks.length<=Z.cV.length:=by lia
    exact this
   lia
  let⟨ks',q1,q2,q3⟩:=Ek (f:=fc) dy h3 h4;have Hw:g0 H1 (upd H1 a<|.ins C dx<|jy f y fs):=mC hu (λ _ z=>nomatch z) λ _ _ z=>nomatch z;rw[q1]at hk;rw[hf]at q2 q3;have Ti:ks'=Z.cV.take ks'.length:=by rw[A06]at hk;exact(lw λ x y h=>by injection h).mp hk
  let⟨st,Eo⟩:=oQ.write yK (.inl ⟨rfl,Ti,C,dx,_,rfl,hC,q2,q3.ups Hw⟩);refine⟨.ref a,GS,a,C,dx,fs,rfl,hu,hC.2,g2,hl,k σ _ ((ky s1).trans st) ?_⟩;rw[q1];exact Eo
 .cases z⟩
end
def wipe(H:Hp)(as:γ δ):Hp:=λ b=>if b∈as then At else H b
theorem F_:over (wipe H as) H as=H:=by
 funext b
 by_cases hb:b∈as
 .rw[cE hb]
 .rw[cW hb];exact W1 hb
def O!(K:Da)(ms:γ Nat)(bs:γ Bool)(n:Nat)(fn:γ Z.D->Z.Res (Z.D×γ Z.D)):Sp:=λ vs H Q _=>∃ds as d ts,ju K H bs ds vs/\as.Nodup/\Paired (λ(i:Nat)(a:δ)=>∃kd ks vs,(Z.startB n bs ds)[i]?=AC (AC<|.bor<|Z.fR a kd ks vs)) ms as/\Z.lL ms 0 (Z.startB n bs ds) /\
 fn ds=.ok (d,ts)/\∀v H',aJ (wipe H as) H'->TH K H' as ts->Den K H' d v->Q v H'
section
variable{K:Da}
theorem R?{st:θ}(qf:bs.length=ps.length)(F:BJ K x qual st f fd)(S:aY N ps (aj st))
 (hb:∀ ba A outer s H H0 as E,bG k (A.deeper<|envOfC qual (aj st) s.heap.objs.size f ba) ->
  W6 (dU iK P w K mg base N qual (aj st) f ba A outer s H E).gE H0 ms as (aL st) b):ee P w K mg base iK (k+1) f fd ps (O! K ms bs N.length<|Z.zp ms bs N.length b):=by
 have ψ:∀vs H Q E,O! K ms bs N.length (Z.zp ms bs N.length b) vs H Q E->vs.length=ps.length:=by rintro vs H Q E ⟨ds,as,d,ts,t,_⟩;have:=t.length;lia
 refine F.ok S ψ λ ba A outer s H vs Q E hr h=>?_;have hl:=ψ vs H Q E h;let⟨ds,as,d,ts,t,nd,__,HC,e,k⟩:=h;refine⟨_,hb ba A outer s H (wipe H as) as E hr,?_⟩;have fQ:ps.length<=N.length:=by have:=A15 List.length S.pre;rw[A24]at this;lia
 have rs:RS K H H (L2.start N vs) (Z.startB N.length bs ds):=nP t ∅;have rm:RM K (wipe H as) ms as H (L2.start N vs) (Z.startB N.length bs ds):=⟨by rw[F_];exact rs,__,HC,nd,λ a ha=>M2 ha⟩
 unfold Z.zp at e;split at e
 .cases eb:b (Z.startB N.length bs ds)with
  |bad=>rw[eb]at e;cases e
  |ok fl=>
   rw[eb]at e;refine⟨_,fl,rm,eb,?_⟩;cases fl with
   |rt d' Qg=>cases e;exact λ v H' s' th dv=>k v H' s' th dv
   |nx ρ'=>cases e;exact λ σ' H' _ rm'=>k .non H' rm'.same rm'.YY kY
 .cases e
end
structure SR(K:Da)(st:Stmt)(ps:List Str):Prop where
 ex:∃C f fd,sF K "Desk" C/\Mk K C f/\BJ K "__init__" "Desk.__init__" st f fd/\Binds K fd ps []
structure Hv(P:Program)(w:World)(K:Da)(mg:Str->Option Value)(base:Heap)(k:Nat)(ps:List Str)(n:Nat)(fn:List Z.D->Z.Res (Z.D×List Z.D)):Prop where
 ex:∃C f fd,sF K "Desk" C/\Mk K C f/\ee P w K mg base iK k f fd ps (O! K [0] [Ch,AT] n fn)/\Binds K fd ps []
structure ac0(P:Program)(w:World)(K:Da)(mg:Str->Option Value)(base:Heap)(k:Nat)(ps:List Str)(fx:List Z.D->Option Z.XN):Prop where
 ex:∃C f fd,sF K "Desk" C/\Mk K C f/\ee P w K mg base (vh P w) k f fd ps (Ck K [Ch,AT] fx)/\Binds K fd ps []
section
variable{K:Da}
theorem Hv.mk'{st:θ}(qf:ps.length=2)(d:SR K st ps)(S:aY N ps (aj st))
 (hb:∀ f ba A outer s H H0 as E,bG k (A.deeper<|envOfC "Desk.__init__" (aj st) s.heap.objs.size f ba) ->
  W6 (dU iK P w K mg base N "Desk.__init__" (aj st) f ba A outer s H E).gE H0 [0] as (aL st) b):Hv P w K mg base (k+1) ps N.length (Z.zp [0] [Ch,AT] N.length b):=by
 let⟨C,f,fd,hC,M,F,sS⟩:=d.ex;exact⟨C,f,fd,hC,M,R? qf.symm F S<|hb f,sS⟩
end
theorem yx:∀m k,Z.lL ms k (Do m At)
|0,_=>trivial
|m+1,k=>⟨λ z=>z.elim,yx m _⟩
theorem Gz(hx:H x=At)(Kc:H dx=At):aJ H (upd (upd H dx<|.own x) x<|.ins C dx []):=λ b o e=>by rw[aG<|bj e hx,aG<|bj e Kc];exact e
theorem RS.vC{K:Fa}(h:RS K H0 H σ ρ)(hx:H x=At)(s:aJ H H')(hu:H' x=AC u)(t:Hr K H' kd ks vs u)(A1:i<ρ.length):
 RS K (upd H0 x u) H' (σ.set i<|some<|.ref x) (ρ.set i<|some<|.bor<|Z.fR x kd ks vs):=by
 have h1:=h.up s;have n0:H0 x=At:=by
  cases e:H0 x with
  |none=>rfl
  |some o=>rw[h.same _ _ e]at hx;cases hx
 have ne:∀{q}{o},H q=AC o->q≠x:=λ e=>bj e hx;have getσ:∀j,i≠j->(σ.set i<|some<|V.ref x)[j]?=σ[j]?:=λ j hj=>A29 hj;have si:(σ.set i<|some<|V.ref x)[i]?=AC (AC<|.ref x):=A41 (by rw[<-h.re.len];exact A1);refine⟨λ b o e=>?_,⟨by simp[h.re.len],λ j l e=>?_,λ j k xs ys q e1 e2 e3 e4=>?_⟩,λ j xs q e1 e2=>?_,λ j d e1=>?_,⟨λ j k ks ls q e1 e2 e3 e4=>?_,λ j ks q e1 e2=>?_⟩⟩
 .by_cases hb:b=x
  .subst hb;rw[aO]at e;rw[hu];exact e
  .rw[aG hb]at e;exact h1.same b o e
 .rcases aQ e with⟨rfl,hl,e⟩|⟨hj,e⟩
  .cases e;exact⟨.ref x,si,.inr ⟨x,kd,ks,vs,u,rfl,rfl,hu,t⟩⟩
  .rw[getσ j hj];exact h1.re.get j l e
 .rcases aQ e1 with⟨_,_,e⟩|⟨hj,e1⟩
  .cases e
  .rcases aQ e2 with⟨_,_,e⟩|⟨hk,e2⟩
   .cases e
   .rw[getσ j hj]at e3;rw[getσ k hk]at e4;exact h.re.sep j k xs ys q e1 e2 e3 e4
 .rcases aQ e1 with⟨_,_,e⟩|⟨hj,e1⟩
  .cases e
  .rw[getσ j hj]at e2;let⟨v,g1,a,ws,e,g2,_⟩:=h.re.get j _ e1;rw[e2]at g1;cases g1;cases e;rw[aG<|ne g2];exact h.fresh j xs q e1 e2
 .rcases aQ e1 with⟨rfl,_,e⟩|⟨hj,e1⟩
  .cases e;exact⟨.ref x,si,.inr ⟨x,kd,ks,vs,u,rfl,rfl,aO⟩⟩
  .rw[getσ j hj];let⟨v,g1,g2⟩:=h.p5 j d e1;refine⟨v,g1,?_⟩;rcases g2 with g2|⟨a,kd',ks',ds,u',q1,q2,q3⟩
   .exact .inl<|g2.up<|cn n0
   .exact .inr ⟨a,kd',ks',ds,u',q1,q2,cn n0 _ _ q3⟩
 .rcases aQ e1 with⟨_,_,e⟩|⟨hj,e1⟩
  .cases e
  .rcases aQ e2 with⟨_,_,e⟩|⟨hk,e2⟩
   .cases e
   .rw[getσ j hj]at e3;rw[getσ k hk]at e4;exact h.zr.1 j k ks ls q e1 e2 e3 e4
 .rcases aQ e1 with⟨_,_,e⟩|⟨hj,e1⟩
  .cases e
  .rw[getσ j hj]at e2;let⟨v,g1,a,ws,e,g2,_⟩:=h.re.get j _ e1;rw[e2]at g1;cases g1;cases e;rw[aG<|ne g2];exact h.zr.2 j ks q e1 e2
section
variable{rest:γ θ}
theorem Ng{K:Da}(hC:sF K "Desk" C):jC K (upd (upd H dx<|.own x) x<|.ins C dx []) (Z.fR x 0 [] []) (.ref x):=.inr ⟨x,0,[],[],_,rfl,rfl,aO,.inl ⟨rfl,rfl,C,dx,[],rfl,hC,rfl,aE.nil⟩⟩
end
def clsAt(s:θ)(j:Nat):θ:=match s with
|.ClassDef _ _ _ b _ _ _ _ _ _ _=>b.getD j<|.Pass ⟨0,0,0,0⟩
|s=>s
def gu(K:Frag)(C:δ)(m q:Str)(st:θ):Prop:=∃(f:δ)(od an:ε δ)(sl:Array (ε ζ))(oc kV dc pm cd ct:ζ),findIn K (.ref C) m=AC (AC<|.ref f)/\K.lookup f=AC ⟨oc,od,.func<|fnOf m q (bA st) (aL st) (aj st) .none kV dc pm an cd ct,sl⟩/\codeIn K cd q=Ch/\keepIn K (.ref f)=Ch/\isFn K (.ref f)=Ch
section
variable{K:Frag}{st:θ}
theorem gu.mk'{oc kV dc pm cd ct:ζ}(a:findIn K (.ref C) m=AC (AC<|.ref f))(l:K.lookup f=AC ⟨oc,od,.func<|fnOf m q (bA st) (aL st) (aj st) .none kV dc pm an cd ct,sl⟩)(c:codeIn K cd q=Ch)(k:keepIn K (.ref f)=Ch)(i:isFn K (.ref f)=Ch):gu K C m q st:=⟨f,od,an,sl,oc,kV,dc,pm,cd,ct,a,l,c,k,i⟩
theorem gu.df(d:gu K C m q st)(hC:sF K "Desk" C)(hb:∀kV doc pm an ba ct us,us.length=ps.length->bindArgs (fnOf m q (bA st) (aL st) (aj st) .none kV doc pm an ba ct) ⟨us,[]⟩=pure (ps.zip us):=by intro _ _ _ _ _ _;first| exact ZS.bd1 λ _=>rfl| exact ZS.YE λ _ _=>rfl| exact ZS.bd3 λ _ _ _=>rfl| exact ZS.bd4 λ _ _ _ _=>rfl| exact ZS.bd5 λ _ _ _ _ _=>rfl| exact ZS.bd6 λ _ _ _ _ _ _=>rfl):DV K m q st ps:=by let⟨f,od,an,sl,oc,kV,dc,pm,cd,ct,a,l,c,k,i⟩:=d;have F:=qK l c k;exact⟨C,f,_,hC,⟨a,i,k⟩,F,F.binds hb⟩
theorem gu.di(d:gu K C "__init__" "Desk.__init__" st)(hC:sF K "Desk" C)(mk:makesIn K C=Ch)(kp:keepIn K (.ref C)=Ch)(hb:∀kV doc pm an ba ct us,us.length=ps.length->bindArgs (fnOf "__init__" "Desk.__init__" (bA st) (aL st) (aj st) .none kV doc pm an ba ct) ⟨us,[]⟩=pure (ps.zip us)):SR K st ps:=by let⟨f,od,an,sl,oc,kV,dc,pm,cd,ct,a,l,c,k,i⟩:=d;have F:=qK l c k;exact⟨C,f,_,hC,⟨mk,a,i,kp⟩,F,F.binds hb⟩
end
end ZS
namespace ZQ
open L2 ZS PySem.W
section
variable{st:θ}
theorem bz(h:∀H1,QS X H1 st g):HI X H0 ms as st (Z.bC ms g):=⟨ZS.bz λ H1=>(h H1).p⟩
end
section
variable{K:Da}
theorem uZ{st:θ}(qf:bs.length=ps.length)(d:DV K m qual st ps)(hb:∀{f}{ba}{A}{outer}{s}{H}{E},N.Nodup->(A.deeper<|envOfC qual (aj st) s.heap.objs.size f ba).units+64<cLine->bG k (A.deeper<|envOfC qual (aj st) s.heap.objs.size f ba)->BH (dU iK P w K mg base N qual (aj st) f ba A outer s H E).gE H (aL st) b)(S:aY N ps (aj st):=by exact ZS.De):vg P w K mg base m (k+1) ps bs (Z.A9 bs N.length b):=vg.mk' qf d S λ f ba A outer s H E hr=>(hb S.nd hr.units hr).p
theorem y_{st:θ}(qf:bs.length=ps.length)(d:DV K m qual st ps)(hb:∀{f}{ba}{A}{outer}{s}{H}{E},N.Nodup->(A.deeper<|envOfC qual (aj st) s.heap.objs.size f ba).units+64<cLine->bG k (A.deeper<|envOfC qual (aj st) s.heap.objs.size f ba)->zl (dU (vh P w) P w K mg base N qual (aj st) f ba A outer s H E) H (aL st) xb)(S:aY N ps (aj st):=by exact ZS.De):p_ P w K mg base m (k+1) ps bs (Z.LP bs N.length xb):=p_.mk' qf d S λ f ba A outer s H E hr=>(hb S.nd hr.units hr).p
theorem Sr{st:θ}(qf:ps.length=2)(d:SR K st ps)(hb:∀{f}{ba}{A}{outer}{s}{H H0}{as}{E},N.Nodup->(A.deeper<|envOfC "Desk.__init__" (aj st) s.heap.objs.size f ba).units+64<cLine->bG k (A.deeper<|envOfC "Desk.__init__" (aj st) s.heap.objs.size f ba)->oN (dU iK P w K mg base N "Desk.__init__" (aj st) f ba A outer s H E).gE H0 [0] as (aL st) b)(S:aY N ps (aj st):=by exact ZS.De):Hv P w K mg base (k+1) ps N.length (Z.zp [0] [Ch,AT] N.length b):=Hv.mk' qf d S λ f ba A outer s H H0 as E hr=>(hb S.nd hr.units hr).p
end
end ZQ
namespace ZS
open L2 PySem.W
section
variable{K:Frag}{st:θ}
theorem WJ(d:gu K C "__init__" q st)(xj:BS K C=Ch)(kp:keepIn K (.ref C)=Ch)(ef:vd K C)(ht:findIn K (.ref C) as=AC At)(ha:(⟨a.toArray⟩)=as)
 (hb:aL st=[.Assign [.Attribute (.Name "self" p1) as p2] (.Name as p3) p4])
 (_':∀kV doc pm an ba ct us,us.length=2->bindArgs (fnOf "__init__" q (bA st) (aL st) (aj st) .none kV doc pm an ba ct) ⟨us,[]⟩=pure ((["self",as]:γ Str).zip us))
 (S:aY ["self",as] ["self",as] (aj st)) (hv:∀x∈(["self",as]:γ Str),Hq (aj st) x) (hd:(as==("__debug__"))=AT) (hc:(as==("__classdict__"))=AT):Lz P w K mg base C 1 [a]:=by
 let⟨f,od,an,sl,oc,kV,dc,pm,cd,ct,e1,l,c,k,i⟩:=d;have F:=qK l c k;refine⟨f,fnOf "__init__" q (bA st) (aL st) (aj st) .none kV dc pm an cd ct,xj,kp,e1,i,?_,?_⟩
 .rw[f8,A32,ha];exact VC ef ht F hb S hv hd hc
 .rw[f8,A32,ha];exact F.binds _'
theorem WI(d:gu K C "__init__" q st)(xj:BS K C=Ch)(kp:keepIn K (.ref C)=Ch)(ef:vd K C)(ht:findIn K (.ref C) as=AC At)(_k:findIn K (.ref C) bs=AC At)(ha:(⟨a.toArray⟩)=as)(Yr:(⟨b.toArray⟩)=bs)
 (hb:aL st=[.Assign [.Attribute (.Name "self" p1) as p2] (.Name as p3) p4,.Assign [.Attribute (.Name "self" q1) bs q2] (.Name bs q3) q4]) (qc:bs≠as)
 (_':∀kV doc pm an ba ct us,us.length=3->bindArgs (fnOf "__init__" q (bA st) (aL st) (aj st) .none kV doc pm an ba ct) ⟨us,[]⟩=pure ((["self",as,bs]:γ Str).zip us))
 (S:aY ["self",as,bs] ["self",as,bs] (aj st)) (hv:∀x∈(["self",as,bs]:γ Str),Hq (aj st) x) (hd:∀x∈[as,bs],(x==("__debug__"))=AT/\(x==("__classdict__"))=AT):Lz P w K mg base C 1 [a,b]:=by
 let⟨f,od,an,sl,oc,kV,dc,pm,cd,ct,e1,l,c,k,i⟩:=d;have F:=qK l c k;refine⟨f,fnOf "__init__" q (bA st) (aL st) (aj st) .none kV dc pm an cd ct,xj,kp,e1,i,?_,?_⟩
 .rw[f8,f8,A32,ha,Yr];exact VB ef ht _k F hb qc S hv hd
 .rw[f8,f8,A32,ha,Yr];exact F.binds _'
theorem D9{l:γ Str}(h:∀x∈l,sc.names.lookup x=AC .local):∀x∈l,Hq sc x:=λ x hx=>.inl<|h x hx
end
theorem wK:∀is ts ρ,(Z.fq is ts ρ).length=ρ.length
|[],_,_=>rfl
|_::_,[],_=>rfl
|i::is,t::ts,ρ=>by show(Z.fq is ts _).length=_;rw[wK];simp
theorem j6:∀is ts ρ {j},j∉is->(Z.fq is ts ρ)[j]?=ρ[j]?
|[],_,_,_,_=>rfl
|_::_,[],_,_,_=>rfl
|i::is,t::ts,ρ,j,h=>by show(Z.fq is ts _)[j]?=_;rw[j6 is ts _ λ z=>h<|A09 _ z,A29 λ z=>h (by rw[z];simp)]
theorem Ac{S:δ->Z.D->Prop}:∀{is}{as}{ts}{ρ}{j},is.Nodup->(∀i∈is,i<ρ.length)->Paired R is as->Paired S as ts->j∈is->∃a t,a∈as/\R j a/\S a t/\(Z.fq is ts ρ)[j]?=AC (AC<|.bor t)
|[],_,_,_,_,_,_,_,_,h=>by simp at h
|i::is,_,_,ρ,j,nd,hl,.cons (b:=a) r tr,.cons (b:=t) s tS,h=>by
 have nZ:=A17.mp nd;rcases A00.mp h with e|h
 .subst e;refine⟨a,t,by simp,r,s,?_⟩;show(Z.fq is _ _)[j]?=_;rw[j6 is _ _ nZ.1,A41<|hl j ∅]
 .let⟨a',t',h1,h2,h3,h4⟩:=Ac (ρ:=ρ.set i (AC<|.bor t)) nZ.2 (λ k hk=>by simpa using hl k (by simp[hk])) tr tS h;exact⟨a',t',by simp[h1],h2,h3,h4⟩
section
variable{K:Da}
abbrev TN(ρ:Z.Env)(i:Nat)(a:δ):Prop:=∃kd ks vs,ρ[i]?=AC (AC<|.bor<|Z.fR a kd ks vs)
theorem jG:∀{l}{m}{y},Paired R l m->y∈m->∃x∈l,R x y
|_,_,_,.nil,h=>by simp at h
|_,_,y,.cons r t,h=>by
 rcases A00.mp h with rfl|h
 .exact⟨_,by simp,r⟩
 .let⟨x,h1,h2⟩:=jG t h;exact⟨x,by simp[h1],h2⟩
theorem RM.pick(h:RM K H0 ms as H σ ρ):∀{is},(∀i∈is,i∈ms)->is.Nodup->∃wg,Paired (TN ρ) is wg/\wg.Nodup/\∀a∈wg,a∈as
|[],_,_=>⟨[],.nil,by simp,λ a h=>by simp at h⟩
|i::is,hs,nd=>by
 have nZ:=A17.mp nd;let⟨wg,p,n,s⟩:=h.pick (λ k hk=>hs k (by simp[hk])) nZ.2;let⟨a,ha,r⟩:=eA h.at_ (hs i ∅);refine⟨a::wg,.cons r p,A17.mpr ⟨λ z=>?_,n⟩,λ b hb=>?_⟩
 .let⟨j,hj,r2⟩:=jG p z;let⟨_,_,_,r⟩:=r;let⟨_,_,_,r2⟩:=r2;have:=h.uniq r r2;subst this;exact nZ.1 hj
 .rcases A00.mp hb with rfl|hb
  .exact ha
  .exact s b hb
theorem RM.Pd(h:RM K H0 ms as H σ ρ)(hb:b∈as):(∀xs,H b≠AC (.tup xs))/\∀o u,H b≠AC (.fF o u):=by let⟨i,_,_,_,_,hi⟩:=jG h.at_ hb;let⟨_,u,q,t⟩:=h.thing hi;exact⟨λ xs z=>t.mb.1 xs<|A04<|q.symm.trans z,λ o x z=>t.mb.2.1 o x<|A04<|q.symm.trans z⟩
def vm(as:γ δ)(H H':Hp):Prop:=∀b o,b∉as->H b=AC o->H' b=AC o
theorem vm.refl:vm as H H:=λ _ _ _ h=>h
theorem vm.of(s:aJ H H'):vm as H H':=λ b o _ e=>s b o e
theorem vm.trans{H2:Hp}(a:vm as H H')(b:vm as H' H2):vm as H H2:=λ c o hc e=>b c o hc<|a c o hc e
theorem RM.ky(h:RM K H0 ms as H σ ρ)(s:vm as H H'):g0 H H':=⟨λ b xs e=>s b _ (λ z=>(h.Pd z).1 xs e) e,λ b o u e=>s b _ (λ z=>(h.Pd z).2 o u e) e⟩
theorem RM.call(h:RM K H0 ms as H σ ρ)(hs:∀i∈is,i∈ms)(nd:is.Nodup)(p:Paired (TN ρ) is wg)(sub:∀a∈wg,a∈as)(sm:aJ (wipe H wg) H')(th:TH K H' wg ts):
 vm as H H'/\RM K H0 ms as H' σ (Z.fq is ts ρ):=by
 have keep:∀b o,b∉wg->H b=AC o->H' b=AC o:=λ b o n e=>sm b o (by show(if b∈wg then At else H b)=_;rw[W1 n];exact e);have m1:vm as H H':=λ b o n e=>keep b o (λ z=>n<|sub b z) e;have st:=h.ky m1;have hl:∀i∈is,i<ρ.length:=λ i hi=>by let⟨a,_,_,_,_,q⟩:=eA p hi;exact(A07.mp q).1
 have new:∀{j},j∈is->∃a kd ks vs u,a∈wg/\TN ρ j a/\H' a=AC u/\Hr K H' kd ks vs u/\(Z.fq is ts ρ)[j]?=AC (AC<|.bor<|Z.fR a kd ks vs):=λ {j} hj=>by let⟨a,t,ha,r,⟨kd,ks,vs,u,e,q,o⟩,g⟩:=Ac (ρ:=ρ) nd hl p th hj;subst e;exact⟨a,kd,ks,vs,u,ha,r,q,o,g⟩
 have old:∀{j}{l},(Z.fq is ts ρ)[j]?=AC (AC l)->j∉is->ρ[j]?=AC (AC l):=λ {j l} e hj=>by rw[j6 is ts ρ hj]at e;exact e
 have off:∀{j:Nat}{a:δ},j∉is->TN ρ j a->a∉wg:=λ {j a} hj ⟨_,_,_,r⟩ z=>by let⟨i,hi,_,_,_,r2⟩:=jG p z;exact hj (by rw[h.uniq r r2];exact hi)
 have fr:∀{q:δ},over H0 H as q=At->q∉as/\over H0 H' as q=At:=λ {q} e=>by
  have n:q∉as:=λ z=>by let⟨u,hu⟩:=h.tracked z;rw[cE z,hu]at e;cases e
  exact⟨n,by rw[cW n]at e ⊢;exact e⟩
 have thing:∀{j:Nat}{d:Z.D},ρ[j]?=AC (AC<|.bor d)->∃a kd ks vs,d=Z.fR a kd ks vs:=λ {j d} hj=>by
  have hm:j∈ms:=by have:=ie h.no hj trivial;simpa using this
  let⟨a,_,kd,ks,vs,q⟩:=eA h.at_ hm;rw[hj]at q;injection q with q;injection q with q;injection q with q
  exact⟨a,kd,ks,vs,q⟩
 have σat:∀{j:Nat}{a:δ},TN ρ j a->σ[j]?=AC (AC<|.ref a):=λ⟨_,_,_,q⟩=>(h.thing q).1;refine⟨m1,⟨?_,?_,?_,h.nd,h.h0⟩⟩
 .refine⟨λ b o e=>?_,⟨by rw[wK];exact h.rs.re.len,λ j l e=>?_,λ j k xs ys q e1 e2 e3 e4=>?_⟩,λ j xs q e1 e2=>?_,λ j d e1=>?_,⟨λ j k ks ls q e1 e2 e3 e4=>?_,λ j ks q e1 e2=>?_⟩⟩
  .by_cases hb:b∈as
   .rw[cE hb]at e;exact e
   .rw[cW hb]at e;exact m1 b o hb<|h.same b o e
  .by_cases hj:j∈is
   .let⟨a,kd,ks,vs,u,ha,r,q,o,g⟩:=new hj;rw[g]at e;cases e;exact⟨.ref a,σat r,.inr ⟨a,kd,ks,vs,u,rfl,rfl,q,o⟩⟩
   .have e:=old e hj;let⟨v,e1,r⟩:=h.rs.re.get j l e;refine⟨v,e1,?_⟩;cases l with
    |val d=>exact Den.ups (show Den K H d v from r) st
    |own zs=>let⟨q',ws,rfl,gv,t'⟩:=r;exact⟨q',ws,rfl,m1 _ _ (fr<|h.rs.fresh j zs q' e e1).1 gv,t'.ups st⟩
    |bor d=>let⟨a,kd,ks,vs,rfl⟩:=thing e;let⟨s1,u,q,t⟩:=h.thing e;rw[s1]at e1;cases e1;exact .inr ⟨a,kd,ks,vs,u,rfl,rfl,keep _ _ (off hj ⟨_,_,_,e⟩) q,t.ups st⟩
    |dc ks=>let⟨q',as2,rfl,gv,t'⟩:=r;exact⟨q',as2,rfl,m1 _ _ (fr<|h.rs.zr.2 j ks q' e e1).1 gv,t'.ups st⟩
    |G3 ks=>let⟨q',o',as2,rfl,gv,t'⟩:=r;exact⟨q',o',as2,rfl,st.fF _ _ _ gv,t'.ups st⟩
    |RA ps=>let⟨q',o',rfl,gv⟩:=r;exact⟨q',o',rfl,st.fF _ _ _ gv⟩
    |exc c=>let⟨q',o',u',C',rfl,gv,r1,r2,r3⟩:=r;exact⟨q',o',u',C',rfl,st.fF _ _ _ gv,r1,r2,r3.ups st⟩
  .have no:∀{j:Nat}{zs:γ Z.D},(Z.fq is ts ρ)[j]?=AC (AC<|.own zs)->ρ[j]?=AC (AC<|.own zs):=λ {j zs} e=>old e λ hj=>by let⟨a,kd,ks,vs,u,ha,r,q,o,g⟩:=new hj;rw[g]at e;cases e
   exact h.rs.re.sep j k xs ys q (no e1) (no e2) e3 e4
  .have hj:j∉is:=λ hj=>by let⟨a,kd,ks,vs,u,ha,r,q,o,g⟩:=new hj;rw[g]at e1;cases e1
   exact(fr<|h.rs.fresh j xs q (old e1 hj) e2).2
  .by_cases hj:j∈is
   .let⟨a,kd,ks,vs,u,ha,r,q,o,g⟩:=new hj;rw[g]at e1;cases e1;exact⟨.ref a,σat r,.inr ⟨a,kd,ks,vs,u,rfl,rfl,by rw[cE<|sub a ha];exact q⟩⟩
   .have e:=old e1 hj;let⟨a,kd,ks,vs,rfl⟩:=thing e;let⟨s1,u,q,t⟩:=h.thing e;exact⟨.ref a,s1,.inr ⟨a,kd,ks,vs,u,rfl,rfl,by rw[cE<|h.mem e];exact keep _ _ (off hj ⟨_,_,_,e⟩) q⟩⟩
  .have no:∀{j:Nat}{zs:Z.DK},(Z.fq is ts ρ)[j]?=AC (AC<|.dc zs)->ρ[j]?=AC (AC<|.dc zs):=λ {j zs} e=>old e λ hj=>by let⟨a,kd,ks,vs,u,ha,r,q,o,g⟩:=new hj;rw[g]at e;cases e
   exact h.rs.zr.1 j k ks ls q (no e1) (no e2) e3 e4
  .have hj:j∉is:=λ hj=>by let⟨a,kd,ks,vs,u,ha,r,q,o,g⟩:=new hj;rw[g]at e1;cases e1
   exact(fr<|h.rs.zr.2 j ks q (old e1 hj) e2).2
 .refine dB h.at_ λ i hi a r=>?_;by_cases hj:i∈is
  .let⟨a2,kd,ks,vs,u,ha,r2,q,o,g⟩:=new hj;have:=DO i _ _ r r2;subst this;exact⟨kd,ks,vs,g⟩
  .let⟨kd,ks,vs,r⟩:=r;exact⟨kd,ks,vs,by rw[j6 is ts ρ hj];exact r⟩
 .refine qC λ j x e t=>?_;rw[B10];by_cases hj:j∈is
  .exact hs j hj
  .rw[j6 is ts ρ hj]at e;have:=ie h.no e t;simpa using this
end
theorem tW:∀k {bs}{ds}{as},ds.length=bs.length->Paired (λ(d)(a:δ)=>∃kd ks vs,d=Z.fR a kd ks vs) (Z.Ce bs ds) as ->
 Paired (λ(i)(a)=>∃kd ks vs,k<=i/\(ac (λ b d=>AC<|Z.sh b d) bs ds)[i-k]?=AC (AC<|.bor<|Z.fR a kd ks vs)) (Z.fE k bs) as
|k,[],[],_,_,.nil=>.nil
|k,Ch::bs,d::ds,_,hl,.cons r t=>by
 let⟨kd,ks,vs,rfl⟩:=r;refine .cons ⟨kd,ks,vs,v4 _,by simp[Z.fR,Z.sh]⟩ ?_;refine dB (tW _ (by simpa using hl) t) λ i _ a ⟨kd,ks,vs,h1,h2⟩=>⟨kd,ks,vs,by lia,?_⟩
 rw[show i-k=(i-(k+1))+1 from by lia];simpa using h2
|k,AT::bs,d::ds,_,hl,p=>by
 refine dB (tW (k+1) (by simpa using hl) p) λ i _ a ⟨kd,ks,vs,h1,h2⟩=>⟨kd,ks,vs,by lia,?_⟩
 rw[show i-k=(i-(k+1))+1 from by lia];simpa using h2
theorem ED:∀{a}{k},Z.lL ms k a->Z.lL ms (k+a.length) b->Z.lL ms k (a++b)
|[],_,_,h=>h
|x::a,k,h,g=>⟨h.1,ED h.2 (by rw[show k+1+a.length=k+(x::a).length from by simp;lia];exact g)⟩
theorem yw:∀k bs ds ms,(∀i∈Z.fE k bs,i∈ms)->Z.lL ms k (ac (λ b d=>AC<|Z.sh b d) bs ds)
|_,[],_,_,_=>by simp[Z.lL]
|_,_::_,[],_,_=>by simp[Z.lL]
|k,Ch::bs,d::ds,ms,h=>⟨λ _=>h k (by simp[Z.fE]),yw _ bs ds ms λ i hi=>h i (by simp[Z.fE,hi])⟩
|k,AT::bs,d::ds,ms,h=>⟨λ z=>by
 have:Z.sh AT d=.val d:=by cases d<;>rfl
 change Z.qG (AC _)at z;rw[this]at z;exact z.elim,yw _ bs ds ms λ i hi=>h i (by simpa[Z.fE]using hi)⟩
def Y6(K:Da)(H0:Hp)(ms:γ Nat)(as:γ δ)(f:Z.LX):TE:=λ σ H Q=>∃ρ d ρ',RM K H0 ms as H σ ρ/\f ρ=.ok (d,ρ')/\∀v H',vm as H H'->RM K H0 ms as H' σ ρ'->Den K H' d v->Q v H'
def tMT(K:Da)(H0:Hp)(ms:γ Nat)(as:γ δ)(f:Z.SH):TT:=λ σ H Q=>∃ρ b ρ',RM K H0 ms as H σ ρ/\f ρ=.ok (b,ρ')/\∀H',vm as H H'->RM K H0 ms as H' σ ρ'->Q b H'
def tMA(K:Da)(H0:Hp)(ms:γ Nat)(as:γ δ)(f:Z.Xa):TA:=λ σ H Q=>∃ρ ds ρ',RM K H0 ms as H σ ρ/\f ρ=.ok (ds,ρ')/\∀vs H',vm as H H'->RM K H0 ms as H' σ ρ'->aE K H' ds vs->Q vs H'
abbrev ME(X:Cx)(H0:Hp)(ms:γ Nat)(as:γ δ)(e:ι)(f:Z.LX):Prop:=PE X e<|Y6 X.K H0 ms as f
structure _root_.ZQ.Hs(X:Cx)(H0:Hp)(ms:List Nat)(as:List Addr)(e:Expr)(f:Z.LX):Prop where p:ME X H0 ms as e f
abbrev MT(X:Cx)(H0:Hp)(ms:γ Nat)(as:γ δ)(e:ι)(f:Z.SH):Prop:=PT X e<|tMT X.K H0 ms as f
structure _root_.ZQ.WY(X:Cx)(H0:Hp)(ms:List Nat)(as:List Addr)(e:Expr)(f:Z.SH):Prop where p:MT X H0 ms as e f
abbrev MTW(X:Cx)(H0:Hp)(ms:γ Nat)(as:γ δ)(e:ι)(f:Z.SH):Prop:=PW X e<|tMT X.K H0 ms as f
structure _root_.ZQ.afT(X:Cx)(H0:Hp)(ms:List Nat)(as:List Addr)(e:Expr)(f:Z.SH):Prop where p:MTW X H0 ms as e f
abbrev MA(X:Cx)(H0:Hp)(ms:γ Nat)(as:γ δ)(es:γ ι)(f:Z.Xa):Prop:=PA X es<|tMA X.K H0 ms as f
structure qa(P:Program)(w:World)(K:Da)(mg:Str->Option Value)(base:Heap)(x:Str)(k:Nat)(ps:List Str)(bs:List Bool)(n:Nat)(fn:List Z.D->Z.Res (Z.D×List Z.D)):Prop where
 ex:∃g fd,ee P w K mg base iK k g fd ps (O! K (Z.fE 0 bs) bs n fn)/\mg x=AC (.ref g)/\FM K (.ref g)=Ch/\Binds K fd ps []
structure rR(P:Program)(w:World)(K:Da)(mg:Str->Option Value)(base:Heap)(m:Str)(k:Nat)(ps:List Str)(bs:List Bool)(n:Nat)(fn:List Z.D->Z.Res (Z.D×List Z.D)):Prop where
 ex:∃C g fd,sF K "Desk" C/\Meth K C m g/\ee P w K mg base iK k g fd ps (O! K (Z.fE 0 bs) bs n fn)/\Binds K fd ps []
section
variable{K:Da}
theorem qa.mk'{st:θ}(qf:bs.length=ps.length)(d:Def K mg x st ps)(S:aY N ps (aj st))
 (hb:∀ f ba A outer s H H0 as E,bG k (A.deeper<|envOfC x (aj st) s.heap.objs.size f ba) ->
  W6 (dU iK P w K mg base N x (aj st) f ba A outer s H E).gE H0 (Z.fE 0 bs) as (aL st) b):qa P w K mg base x (k+1) ps bs N.length (Z.zp (Z.fE 0 bs) bs N.length b):=by
 let⟨f,fd,F,hm,sS⟩:=d.ex;exact⟨f,fd,R? qf F S<|hb f,hm,F.kp,sS⟩
theorem rR.mk'{st:θ}(qf:bs.length=ps.length)(d:DV K m qual st ps)(S:aY N ps (aj st))
 (hb:∀ f ba A outer s H H0 as E,bG k (A.deeper<|envOfC qual (aj st) s.heap.objs.size f ba) ->
  W6 (dU iK P w K mg base N qual (aj st) f ba A outer s H E).gE H0 (Z.fE 0 bs) as (aL st) b):rR P w K mg base m (k+1) ps bs N.length (Z.zp (Z.fE 0 bs) bs N.length b):=by
 let⟨C,f,fd,hC,hm,F,sS⟩:=d.ex;exact⟨C,f,fd,hC,hm,R? qf F S<|hb f,sS⟩
end
section
variable{X:Cx}
theorem _root_.ZQ.Vj(h:ZQ.QE X e f):ZQ.Hs X H0 ms as e (Z.mP f):=⟨PE.imp h.p <|by rintro σ H Q ⟨ρ,d,ρ',rm,e,k⟩;let⟨x,ea,e⟩:=XV e;cases e;exact⟨ρ,d,rm.rs.re,ea,λ v H1 s1 d1=>k v H1 (vm.of s1) (rm.up s1) d1⟩⟩
theorem BA{K:Fa}(rm:RM K H0 ms as H σ ρ)(hs:∀i∈is,i∈ms)(nd:is.Nodup)(d1:ju K H bs ds vs)(VI:Z.Ce bs ds=Z.fm is ρ)(er:fn ds=.ok r)
 (k:∀v H',vm as H H'->RM K H0 ms as H' σ (Z.fq is r.2 ρ)->Den K H' r.1 v->Q v H'):O! K (Z.fE 0 bs) bs n fn vs H Q E:=by
 let⟨wg,p,n',sub⟩:=rm.pick hs nd;have p2:Paired (λ(d)(a)=>∃kd ks vs,d=Z.fR a kd ks vs) (Z.Ce bs ds) wg:=by
  rw[VI];have key:∀{l}{m},Paired (TN ρ) l m->Paired (λ(d)(a)=>∃kd ks vs,d=Z.fR a kd ks vs) (Z.fm l ρ) m:=by
   intro l m q
   induction q with
   |nil=>exact .nil
   |cons r t ih=>let⟨kd,ks,vs,hi⟩:=r;exact .cons ⟨kd,ks,vs,by show Z.Xl _=_;rw[hi];rfl⟩ ih
  exact key p
 let⟨Yl,NV⟩:=d1.length;have st:=tW 0 NV p2;refine⟨ds,wg,r.1,r.2,d1,n',dB st λ i _ a ⟨kd,ks,vs,_,q⟩=>⟨kd,ks,vs,?_⟩,?_,er,λ v H' s2 th dv=>?_⟩
 .rw[Nat.sub_zero]at q;unfold Z.startB;rw[A35 (A07.mp q).1];exact q
 .exact ED (yw 0 bs ds _ λ i h=>h)<|yx _ _
 .let⟨m1,Eo⟩:=rm.call hs nd p sub s2 th;exact k v H' m1 Eo dv
theorem _root_.ZQ.sO(C:qa X.prog X.w X.K X.mg X.base x k ps bs n fn)(hr:bG k X.A)(hg:Gl X x)(hs:∀i∈is,i∈ms)(nd:is.Nodup)
 (ha:ZQ.LW X (e::es) bs ar) (gQ:(x==("__debug__"))=AT:=by decide +kernel) (he:Se e es X.env:=by rfl) (fQ:Pn pos es X.env:=by rfl) :
 ZQ.Hs X H0 ms as (.Call (.Name x p1) (e::es) [] pos) (Z.fN fn bs is ar):=⟨by
 let⟨g,fd,F,hm,hk,hb⟩:=C.ex;refine PE.imp (yi F hr hg hm hk hb .nil t_ ha.p gQ he fQ) ?_;rintro σ H Q ⟨ρ,d,ρ',rm,e,k⟩;let⟨ds,ea,e⟩:=XV e;let⟨VI,e⟩:=Z.b7 e;let⟨r,er,e⟩:=XV e;let⟨ψ,e⟩:=Z.b7 e;cases e;refine⟨ρ,ds,rm.rs.re,ea,λ vs H1 s1 d1=>?_⟩;show O! X.K _ bs n fn _ H1 Q E0;rw[A52];exact BA (rm.up s1) hs nd d1 VI er λ v H' m1 Eo dv=>k v H' ((vm.of s1).trans m1) Eo dv⟩
theorem _root_.ZQ.pA(C:rR X.prog X.w X.K X.mg X.base m k ps (Ch::bs) n fn)(hr:bG k X.A)(ho:ZQ.QM X 0 o fo)(hf:(Z.cV.map λ c=>(⟨c.toArray⟩)).contains m=AT)(hs:∀i∈is,i∈ms)(nd:is.Nodup)(ha:ZQ.LW X (e::es) bs ar)
 (pG:Se e es X.env:=by rfl) (fQ:Pn pos es X.env:=by rfl)
 (ht:eval (.Call (.Attribute o m apos) (e::es) [] pos) X.env=(do
  let ov ←eval o X.env
  standAt apos.atName
  let (f,first) ←holding [ov] (getMethod ov m pl)
  callWith pos f first (backTo pos<|starEach (e::es) X.env) (backToKw pos<|keywordEach [] X.env)):=by rfl) :
 ZQ.Hs X H0 ms as (.Call (.Attribute o m apos) (e::es) [] pos) (Z.fN fn (Ch::bs) is<|Z.aa fo ar):=⟨by
 let⟨C,g,fd,hC,hm,F,hb⟩:=C.ex;refine PE.imp (Ey ho.p hC.2 hm F hr hb .nil t_ ha.p pG fQ ht) ?_;rintro σ H Q ⟨ρ,d,ρ',rm,e,k⟩;let⟨ds,ea,e⟩:=XV e;let⟨VI,e⟩:=Z.b7 e;let⟨r,er,e⟩:=XV e;let⟨ψ,e⟩:=Z.b7 e;cases e;let⟨x,ex,ea⟩:=XV ea;let⟨xs,en,ea⟩:=XV ea;cases ea;refine⟨ρ,x,rm.rs.re,ex,λ v H1 s1 d1=>?_⟩;let⟨a,ks,ds,u,rfl,rfl,q,t⟩:=id d1;rcases t with⟨_,hk,C',dx,fs,rfl,E5,h3,h4⟩|⟨z,_⟩
 .have:=E5.1.symm.trans hC.1;cases this;rw[hk]at h3;refine⟨a,dx,fs,rfl,q,mJ h3 hf,ρ,xs,rm.rs.re.up s1,en,λ vs H2 s2 d2=>?_⟩;show O! X.K (Z.fE 0<|true::bs) (Ch::bs) n fn (.ref a::(vs++[])) H2 Q E0;rw[A52];exact BA ((rm.up s1).up s2) hs nd (ds:=Z.fR a 0 ks ds::xs) ⟨_,_,rfl,(d1.up s2).b,d2⟩ VI er λ v H' m1 Eo dv=>k v H' (((vm.of s1).trans<|vm.of s2).trans m1) Eo dv
 .cases z⟩
theorem JF:∀σ H Q,Y6 X.K H0 ms as (Z.mU Z.gD fa) σ H Q->O7 (λ x y H Q=>y=.non/\Q (.bl<|decide<|x=.non) H) (Y6 X.K H0 ms as fa) (tC .non) σ H Q:=by
 rintro σ H Q ⟨ρ,d,ρ',rm,e,k⟩;let⟨⟨x,ρ1⟩,ea,e⟩:=XV e;let⟨y,eo,e⟩:=XV e;cases e;refine⟨ρ,x,ρ1,rm,ea,λ v H1 m1 oQ d1=>⟨rfl,?_⟩⟩;have h1:d=Z.D.bl (decide<|v=V.non):=by
  cases x with
  |non=>simp only[Den]at d1;subst d1;cases eo;rfl
  |bl b=>simp only[Den]at d1;subst d1;cases eo;rfl
  |int i=>simp only[Den]at d1;subst d1;cases eo;rfl
  |str cs=>simp only[Den]at d1;subst d1;cases eo;rfl
  |tup ds=>simp only[Den]at d1;let⟨a,vs,rfl,_⟩:=d1;cases eo;rfl
  |lst ds=>simp only[Den]at d1;let⟨a,vs,rfl,_⟩:=d1;cases eo;rfl
  |dct ks ds=>simp only[Den]at d1;let⟨a,o,a9,rfl,_⟩:=d1;cases eo;rfl
 subst h1;exact k _ H1 m1 oQ c8
theorem _root_.ZQ.JH(ha:ZQ.Hs X H0 ms as a fa):ZQ.Hs X H0 ms as (.Compare a [.Is] [.Constant .none j pos'] pos) (Z.mU Z.gD fa):=⟨PE.imp (Ez Jf ha.p yh<|uj _) JF⟩
theorem _root_.ZQ.Na(h:ZQ.QT X e t):ZQ.WY X H0 ms as e (Z.Nf t):=⟨PT.imp h.p <|by rintro σ H Q ⟨ρ,d,ρ',rm,e,k⟩;let⟨x,ea,e⟩:=XV e;cases e;exact⟨ρ,d,rm.rs.re,ea,λ H1 s1=>k H1 (vm.of s1)<|rm.up s1⟩⟩
theorem _root_.ZQ.Z3(h:ZQ.Hs X H0 ms as e fa)(he:∀whole,isTrue e X.env whole=(do let v ←whole;standAt e.pos;holding [v] (truthy v)):=by intro _;rfl):ZQ.WY X H0 ms as e (Z.X8 fa):=⟨PT.imp (IM h.p he) <|by
 rintro σ H Q ⟨ρ,b,ρ',rm,e,q⟩;let⟨⟨x,ρ1⟩,ea,e⟩:=XV e;refine⟨ρ,x,ρ1,rm,ea,λ v H' m oQ d=>?_⟩;dsimp only at e;split at e
 .cases e;simp only[Den]at d;exact⟨_,d,q H' m oQ⟩
 .cases e⟩
theorem _root_.ZQ.Ra(h:ZQ.WY X H0 ms as a ta):ZQ.WY X H0 ms as (.UnaryOp .Not a pos) (Z.EI ta):=⟨PT.imp (IP h.p) <|by rintro σ H Q ⟨ρ,b,ρ',rm,e,q⟩;let⟨⟨x,ρ1⟩,ea,e⟩:=XV e;cases e;exact⟨ρ,x,ρ1,rm,ea,λ H' m oQ=>q H' m oQ⟩⟩
end
section
variable{K:Da}
theorem RM.vB(h:RM K H0 ms as H σ ρ)(hd:Den K H d v)(hi:i∉ms):RM K H0 ms as H (σ.set i<|some v) (ρ.set i<|some<|.val d):=by
 refine⟨h.rs.vB hd,dB h.at_ λ j hj a ⟨kd,ks,vs,q⟩=>⟨kd,ks,vs,?_⟩,qC λ j x e t=>?_,h.nd,h.h0⟩
 .rw[A29 λ z=>hi (by rw[z];exact hj)];exact q
 .by_cases sR:i=j
  .subst sR;by_cases hl:i<ρ.length
   .rw[A41 hl]at e;cases e;exact t.elim
   .rw[B56 (by simpa using hl)]at e;cases e
  .rw[A29 sR]at e;exact ie h.no e t
end
section
variable{st:θ}
theorem _root_.ZQ.sN:ZQ.oN X H0 ms as [] Z.nE:=⟨qZ.imp Es <|by rintro D σ H ⟨ρ,fl,rm,e,k⟩;cases e;exact k σ H (g0.refl H) rm⟩
theorem _root_.ZQ.JA(hN:X.N.Nodup)(hi:X.N[i]?=AC x)(hx:Loc X.env.scope x)(hm:i∉ms)(he:ZQ.Hs X H0 ms as a fa)(hs:swapsWith a (AC<|.Name x pos') pos.line X.env=pure AT:=by rfl)(hf:Fl X x:=by trivial):
 ZQ.HI X H0 ms as (.Assign [.Name x pos'] a pos) (Z.GB i fa):=⟨PS.imp (nU hN hi hx he.p hs hf) <|by
 rintro D σ H ⟨ρ,fl,rm,e,k⟩;let⟨⟨d,ρ'⟩,ea,e⟩:=XV e;cases e;exact⟨ρ,d,ρ',rm,ea,λ v H' m oQ dv=>k _ H' (rm.ky m)<|oQ.vB dv hm⟩⟩
theorem _root_.ZQ.yB(h:ZQ.Hs X H0 ms as a fa)(hs:swapsWith a At pos.line X.env=pure AT:=by rfl):ZQ.HI X H0 ms as (.Expr a pos) (Z.AQ fa):=⟨PS.imp (sJ h.p hs) <|by rintro D σ H ⟨ρ,fl,rm,e,k⟩;let⟨⟨d,ρ'⟩,ea,e⟩:=XV e;cases e;exact⟨ρ,d,ρ',rm,ea,λ v H' m oQ dv=>k σ H' (rm.ky m) oQ⟩⟩
theorem _root_.ZQ.CO(h:ZQ.Hs X H0 ms as a fa):ZQ.HI X H0 ms as (.Return (AC a) pos) (Z.AO ms fa):=⟨PS.imp (IT h.p) <|by rintro D σ H ⟨ρ,fl,rm,e,k⟩;let⟨⟨d,ρ'⟩,ea,e⟩:=XV e;cases e;exact⟨ρ,d,ρ',rm,ea,λ v H' m oQ dv=>k v H' oQ.same oQ.YY dv⟩⟩
theorem _root_.ZQ.AH(hc:ZQ.WY X H0 ms as c t)(h1:ZQ.oN X H0 ms as b1 g)(h2:ZQ.oN X H0 ms as b2 u):ZQ.HI X H0 ms as (.If c b1 b2 pos) (Z.sf t g u):=⟨PS.imp (Et hc.p h1.p h2.p) <|by
 rintro D σ H ⟨ρ,fl,rm,e,k⟩;let⟨⟨x,ρ1⟩,ea,e⟩:=XV e;refine⟨ρ,x,ρ1,rm,ea,λ H1 m1 oQ=>?_⟩;dsimp only at e;cases x with
 |true=>simp only[A25]at e ⊢;exact⟨ρ1,fl,oQ,e,k.up<|rm.ky m1⟩
 |false=>simp only[A48]at e ⊢;exact⟨ρ1,fl,oQ,e,k.up<|rm.ky m1⟩⟩
def tMG(K:Da)(H0:Hp)(ms:γ Nat)(as:γ δ)(g:Z.GF):TG:=λ v σ H Q=>∃ρ d ρ',RM K H0 ms as H σ ρ/\Den K H d v/\g d ρ=.ok ρ'/\Z.cY ms ρ ρ'/\∀σ' H',g0 H H'->RM K H0 ms as H' σ' ρ'->Q σ' H'
theorem EL(h:∀H1,DG X H1 tg G):PG X tg (tMG X.K H0 ms as G):=by intro χ s σ H v u Q I r w;let⟨ρ,d,ρ',rm,hd,e,kt,k⟩:=w;exact h _ χ s σ H v u Q I r ⟨ρ,d,ρ',rm.ovR,hd,e,λ σ' H' s r'=>k σ' H' (ky s)<|rm.back kt r'⟩
theorem _root_.ZQ.Rc(he:ZQ.Hs X H0 ms as a fa)(hg:∀H1,ZQ.QG X H1 tg G)(hs:swapsWithSole [tg] a pos.line X.env=pure AT:=by rfl)(hw:swappedStores [tg] a X.env=pure At:=by rfl)
 (h1:(assignEach [tg] X.env).map (·.2)=[assign tg X.env]:=by rfl):ZQ.HI X H0 ms as (.Assign [tg] a pos) (Z.Nj ms fa G):=⟨have hg:=λ H1=>(hg H1).p;PS.imp (IV he.p (EL hg) hs hw h1) <|by
 rintro D σ H ⟨ρ,fl,rm,e,k⟩;let⟨⟨d,ρ1⟩,ea,e⟩:=XV e;let⟨ρ2,eb,e⟩:=XV e;let⟨kt,e⟩:=Z.b7 e;cases e;exact⟨ρ,d,ρ1,rm,ea,λ v H' m oQ dv=>⟨ρ1,d,ρ2,oQ,dv,eb,kt,λ σ2 H2 s2 r2=>k σ2 H2 ((rm.ky m).trans s2) r2⟩⟩⟩
theorem _root_.ZQ.JB(hp:PassesOwn (model X.prog X.w) X.A X.env X.xe)(hc:X.calm=Ch)(hi:ZQ.QJ X tg iter it)(hg:∀H1,ZQ.QG X H1 tg G)(hb:ZQ.oN X H0 ms as body g)
 (hs:∀x,foldedSetIterable iter X.env x=pure x:=by intro _;rfl):ZQ.HI X H0 ms as (.For tg iter body [] pos) (Z.JO ms it G g):=⟨have hg:=λ H1=>(hg H1).p;PS.imp (IU hp hc hi.p (EL hg) hb.p hs) <|by
 rintro D σ H ⟨ρ,fl,rm,e,k⟩;let⟨ds,ei,e⟩:=XV e;refine⟨ρ,ds,rm.rs.re,ei,λ J H1 s1 z=>?_⟩;refine⟨λ i m σ' H'=>m=ds.length-i/\i<=ds.length/\∃ρ',RM X.K H0 ms as H' σ' ρ'/\g0 H1 H'/\Z.jU ms G g (ds.drop i) ρ'=.ok fl,⟨ds.length,by simp,A51 _,ρ,rm.up s1,g0.refl H1,by simpa using e⟩,?_⟩;rintro i m σ2 H2 ⟨rfl,A1,ρ2,r2,s2,e2⟩;by_cases kz:i<ds.length
 .obtain⟨d,hd⟩:∃d,ds[i]?=AC d:=⟨ds[i],by simp[kz]⟩
  have pJ:ds.drop i=d::ds.drop (i+1):=by
   rw[A83 kz];have:ds[i]=d:=by have:=A03 kz;rw[this]at hd;exact A04 hd
   rw[this]
  rw[pJ]at e2;let⟨ρ3,eg,e2⟩:=XV e2;let⟨kt,e2⟩:=Z.b7 e2;let⟨f3,eb,e2⟩:=XV e2;refine .inr ⟨z.go i d H2 s2 hd,λ σ' H'=>∃ρ',RM X.K H0 ms as H' σ' ρ'/\g0 H1 H'/\Z.jU ms G g _ ρ'=.ok fl,λ σ' H' w=>⟨_,by lia,rfl,kz,w⟩,λ x H3 y=>?_⟩;let⟨sy,dx⟩:=z.D3 i d H2 H3 x s2 hd y;replace s2:=s2.trans<|ky sy;refine⟨ρ2,d,ρ3,r2.up sy,dx,eg,kt,λ σ4 H4 s4 r4=>⟨ρ3,f3,r4,eb,?_⟩⟩;cases f3 with
  |nx ρ5=>exact λ σ5 H5 s5 r5=>⟨ρ5,r5,(s2.trans s4).trans s5,e2⟩
  |rt d5 ts5=>cases e2;exact k
 .have:i=ds.length:=by lia
  subst this;rw[B57]at e2;cases e2;exact .inl ⟨z.stop H2 s2,k σ2 H2 ((ky s1).trans s2) r2⟩⟩
theorem _root_.ZQ.G'{rest:γ θ}(C:Hv X.prog X.w X.K X.mg X.base k ps n fn)(hr:bG (k+1) X.A)(hg:Gl X "Desk")(hN:X.N.Nodup)(hi:X.N[i]?=AC y)(hy:Loc X.env.scope y)
 (he:ZQ.QE X e fe) (l!:∀H1 as,ZQ.oN X H1 [i] as rest r) (hs:swapsWith (.Call (.Name "Desk" p1) [e] [] gR) (AC<|.Name y pos') pos.line X.env=pure AT:=by rfl) (hf:X.fn y=Ch\/X.env.scope.names.lookup y=AC .local:=by first| exact .inl rfl| exact .inr rfl| assumption)
 (h1:Se e [] X.env:=by rfl) (fQ:Pn gR [] X.env:=by rfl) :
 ZQ.BH X H0 (.Assign [.Name y pos'] (.Call (.Name "Desk" p1) [e] [] gR) pos::rest) (Z.ya i fn fe r):=⟨by
 have l!:=λ H1 as=>(l! H1 as).p;let⟨C,f,fd,hC,M,F,hb⟩:=C.ex;intro χ s σ H D I w;have hm:=A22 (mg:=X.mg) (h:=s.heap) I.lH (I.mod.glob.keeps I.bk) hC.1;have hR:qZ X rest (λ D σ H=>∃H1 as,tM X.K H1 [i] as r D σ H):=by rintro χ s σ H D I ⟨H1,as,w⟩;exact l! H1 as χ s σ H D I w
 let⟨ρ,fl,rs,e,k⟩:=w;let⟨d,ed,e⟩:=XV e;let⟨fs,ef,e⟩:=XV e;let⟨HC,e⟩:=Z.b7 e;have ef:=Z.JJ ef;let⟨dr,rfl,er⟩:=Z.OO e;have A1:i<ρ.length:=by rw[rs.re.len,I.len];exact(A07.mp hi).1
 refine i! (nU hN hi hy (MK M F hr hg hm hb .nil t_ (bH he.p cP h1) (by decide +kernel) h1 fQ) hs hf) hR χ s σ H D I ?_;refine⟨ρ,d,rs.re,ed,λ v H1 s1 dv x dx hx Kc ne=>?_⟩;have sm:=Gz (C:=C) hx Kc;refine⟨[Z.fR x 0 [] [],d],[x],.non,[Z.fR x 0 Z.cV fs],⟨_,_,rfl,Ng hC,_,_,rfl,Den.up dv sm,rfl⟩,by simp,.cons ⟨0,[],[],rfl⟩ .nil,⟨λ _=>by simp,λ z=>z.elim,yx _ _⟩,ef x,λ v' H' s2 th dn=>?_⟩;refine⟨by simpa only[Den]using dn,?_⟩;have nx:H x=At:=by
  cases q:H x with
  |none=>rfl
  |some o=>rw[s1 _ _ q]at hx;cases hx
 have s3:aJ H H':=λ b o q=>s2 b o (by have hb:b≠x:=bj q nx;show(if b∈[x]then At else _)=_;rw[W1 (by simpa using hb)];exact sm _ _<|s1 _ _ q)
 have n0:H0 x=At:=by
  cases e:H0 x with
  |none=>rfl
  |some o=>rw[rs.same _ _ e]at nx;cases nx
 cases th with
 |cons r0 _=>
  let⟨kd,ks,vs,u,e1,hu,t⟩:=r0;let⟨_,rfl,rfl,rfl⟩:=o4 e1;have rs2:=rs.vC (i:=i) nx s3 hu t A1;have _v:over H0 H' [x]=upd H0 x u:=by
   funext b
   by_cases hb:b=x
   .subst hb;rw[cE ∅,aO];exact hu
   .rw[cW (by simpa using hb),aG hb]
  have rm:RM X.K H0 [i] [x] H' (σ.set i<|some<|.ref x) (ρ.set i<|some<|.bor<|Z.fR x 0 Z.cV fs):=by
   refine⟨by rw[_v];exact rs2,.cons ⟨0,Z.cV,fs,A41 A1⟩ .nil,qC λ j y e t=>?_,by simp,λ a ha=>by rw[A19.mp ha];exact n0⟩;by_cases sR:i=j
   .subst sR;simp
   .rw[A29 sR]at e;have:=ie HC (i:=j) (x:=y) (by rw[A29 sR];exact e) t;exact this
  have er:=er x;let⟨fl2,e3,er⟩:=XV er;cases fl2 with
  |nx ρ'=>cases er
  |rt d2 ts=>cases er;exact⟨H0,[x],_,.rt dr ts,rm,e3,λ v P0 s4 _ d4=>k v P0 s4 d4⟩⟩
end
theorem zy{K:Frag}(h:(⟨c.toArray⟩)=x)(w:nsIn K mainGlobals x=AC (AC<|.ref C))(q:zA K C=Ch):XC K c C:=⟨by rw[h];exact w,q⟩
end ZS
namespace ZQ
open L2 ZS PySem.W
section
variable{K:Da}
theorem zb{st:θ}(qf:bs.length=ps.length)(d:DV K m qual st ps)(hb:∀{f}{ba}{A}{outer}{s}{H H0}{as}{E},N.Nodup->(A.deeper<|envOfC qual (aj st) s.heap.objs.size f ba).units+64<cLine->bG k (A.deeper<|envOfC qual (aj st) s.heap.objs.size f ba)->oN (dU iK P w K mg base N qual (aj st) f ba A outer s H E).gE H0 (Z.fE 0 bs) as (aL st) b)(S:aY N ps (aj st):=by exact ZS.De):rR P w K mg base m (k+1) ps bs N.length (Z.zp (Z.fE 0 bs) bs N.length b):=rR.mk' qf d S λ f ba A outer s H H0 as E hr=>(hb S.nd hr.units hr).p
theorem sV{st:θ}(qf:bs.length=ps.length)(d:Def K mg x st ps)(hb:∀{f}{ba}{A}{outer}{s}{H H0}{as}{E},N.Nodup->(A.deeper<|envOfC x (aj st) s.heap.objs.size f ba).units+64<cLine->bG k (A.deeper<|envOfC x (aj st) s.heap.objs.size f ba)->oN (dU iK P w K mg base N x (aj st) f ba A outer s H E).gE H0 (Z.fE 0 bs) as (aL st) b)(S:aY N ps (aj st):=by exact ZS.De):qa P w K mg base x (k+1) ps bs N.length (Z.zp (Z.fE 0 bs) bs N.length b):=qa.mk' qf d S λ f ba A outer s H H0 as E hr=>(hb S.nd hr.units hr).p
end
end ZQ
namespace Z
end Z
namespace ZS
open L2 PySem.W
section
variable{X:Cx}
end
end ZS
namespace ZQ
open L2 ZS
end ZQ
namespace Z
def R4(f:γ Nat->ε Bool)(h:SM)(r:XN->SM)(c:XN)(ρ:Env):Res wm:=match f c.1 with
|some Ch=>h ρ
|some AT=>r c ρ
|none=>.bad
def hNo(_:XN)(_:Env):Res wm:=.bad
def GL(l:γ (γ Nat×Bool))(c:γ Nat):ε Bool:=l.lookup c
def AN(b:SM)(xb:XF)(hs:XN->SM)(ρ:Env):Res wm:=match xb ρ with
|some c=>hs c ρ
|none=>b ρ
end Z
namespace ZS
open L2 PySem.W
def Lq(K:Frag)(l:γ (γ Nat×Bool))(D:δ):Prop:=∀p∈l,∃C,nsIn K mainGlobals ⟨p.1.toArray⟩=AC (AC<|.ref C)/\mroIn K C (.ref D)=AC p.2
theorem zY{K:Frag}:Lq K [] D:=λ _ h=>nomatch h
theorem wH{K:Frag}(h1:nsIn K mainGlobals ⟨c.toArray⟩=AC (AC<|.ref C))(h2:mroIn K C (.ref D)=AC b)(t:Lq K l D):Lq K ((c,b)::l) D:=λ p hp=>by
 rcases A00.mp hp with rfl|hp
 .exact⟨C,h1,h2⟩
 .exact t p hp
theorem Ee{K:Frag}(h:Lq K l D)(e:l.lookup c=AC b)(xc:XC K c C):mroIn K C (.ref D)=AC b:=by
 have hm:(c,b)∈l:=by
  clear h
  induction l with
  |nil=>cases e
  |cons p l ih=>
   rw[A73]at e;by_cases z:c=p.1
   .rw[A27.mpr z]at e;cases e;subst z;exact .head _
   .rw[A71.mpr z]at e;exact .tail _<|ih e
 let⟨C',h1,h2⟩:=h _ hm;have:=h1.symm.trans xc.1;cases this;exact h2
theorem Wn{K:Frag}(X:K.In s.heap)(xd:XC K c D)(he:s.heap.get? e=AC oe)(hc:oe.cls=.ref C)(hm:mroIn K C (.ref D)=AC b)(hq:Q b s):
 EQ M A (excMatches (.ref e)<|.ref D) Q E s:=by
 let⟨tl,ns,nm,qn,bs,hd,sn,sub,ab,col,PQ,s0',s1',s2',s3',s5',hC,qf⟩:=aaM X xd;let⟨h,g,d,t,os⟩:=s;have _8:(Value.ref D::tl).contains (.type "BaseException")=Ch:=by rw[C25,qf,C26]
 have L:=looks_mroIn (M:=M) X hm;have f:=tc_notTuple;cases b<;>(repeat (first|(with_reducible refine B01 he ?_;rw[hc])|with_reducible refine B01 hC ?_|(with_reducible refine C27 hC ?_;rw[_8])|with_reducible refine L.at ?_|wp_step))<;>exact hq
section
variable{K:Frag}
end
structure _root_.ZQ.YM(X:Cx)(H0:Hp)(ms:List Nat)(as:List Addr)(hs:List ExceptHandler)(g:Z.XN->Z.SM):Prop where
 p:∀(ex C:Addr)(dd:Option Addr)(c:Z.XN)(l:Bool)(χ:List (Addr×Obj))(s:Shared)(σ:St)(H:Hp)(D:Ends),YU X χ σ H s ex C dd l->qY X.K H c C dd->tM X.K H0 ms as (g c) D σ H->EQ (model X.prog X.w) X.A (handleBy (.ref ex) X.env hs) (SP X χ D) X.xe s
theorem _root_.ZQ.Ph:ZQ.YM X H0 ms as [] Z.hNo:=⟨by rintro _ _ _ _ _ _ _ _ _ _ _ _ ⟨_,_,_,e,_⟩;exact nomatch e⟩
theorem _root_.ZQ.Pg{rest:γ ExceptHandler}(hg:Gl X x)(hm:X.mg x=AC (.ref D0))(xd:XC X.K c0 D0)(E3:Lq X.K l D0)
 (hh:∀ev,ZQ.oN (N1 X ev).gE H0 ms as (b0::Ud) h) (hr:ZQ.YM X H0 ms as rest r) (gQ:(x==("__debug__"))=AT:=by decide +kernel) :
 ZQ.YM X H0 ms as (.ExceptHandler (AC<|.Name x np) At (b0::Ud) aer::rest) (Z.R4 (Z.GL l) h r):=⟨by
 rintro ex C dd c lb χ s σ H D c3 xr ⟨ρ,fl,rm,e,k⟩;have hh:=λ ev=>(hh ev).p;let⟨oe,vs,_,_,_,he,kA,_⟩:=c3.ex;refine wpAny_handleBy_cons (codeAny_handlers_test<|JT c3.inv hg hm ?_ gQ) (by intro q;cases q);unfold Z.R4 at e;split at e
 .rename_i ef;refine Wn c3.inv.lH xd he kA (Ee E3 ef xr.1) ?_;refine codeAny_handlers_suite<|land c3 λ s4 c4=>?_;refine A21 (hh (.ref ex) χ s4 σ H D (NM c4.inv _) ⟨ρ,fl,rm,e,k⟩) (λ f s6 q=>?_) λ _ _ z=>z.elim;cases f with
  |next=>let⟨σ',H2,I6,q⟩:=q;exact⟨_,H2,kN c3.inv.ok I6,q⟩
  |brk=>let⟨σ',H2,I6,q⟩:=q;exact⟨_,H2,kN c3.inv.ok I6,q⟩
  |cont=>let⟨σ',H2,I6,q⟩:=q;exact⟨_,H2,kN c3.inv.ok I6,q⟩
  |ret u=>let⟨v,σ',H2,I6,rv,q⟩:=q;exact⟨v,_,H2,kN c3.inv.ok I6,rv,q⟩
 .rename_i ef;exact Wn c3.inv.lH xd he kA (Ee E3 ef xr.1)<|hr.p ex C dd c lb χ s σ H D c3 xr ⟨ρ,fl,rm,e,k⟩
 .cases e⟩
theorem _root_.ZQ.Jz(hex:X.ex=[])(pG:X.stack=X.env::X.outer)(LN:X.env.frame=AC X.env.locals)
 (hb:ZQ.oN X.gE H0 ms as body b) (_h:∀pn E,ZQ.OV (F0 X pn E) body xb) (hh:ZQ.YM X H0 ms as (h0::hs) g):ZQ.HI X H0 ms as (.Try body (h0::hs) [] [] pos) (Z.AN b xb g):=⟨by
 have hb:=hb.p;have _h:=λ pn E=>(_h pn E).p;rintro χ s σ H D I ⟨ρ,fl,rm,e,k⟩;refine wpAny_Try_except ?_;unfold Z.AN at e;split at e
 .rename_i c ec;refine A21 (_h (X.pn++χ) _ [] s σ H {nx:=λ _ _=>False,rt:=λ _ _=>False} (NL I _) ⟨ρ,c,rm.rs.re,ec,λ nv H' s' ex C dd sm xr J1 th1=>?_⟩) (λ f s1 q=>?_) λ _ _ z=>z;rotate_left
  .cases f with
   |next=>let⟨_,_,_,z⟩:=q;exact z.elim
   |brk=>let⟨_,_,_,z⟩:=q;exact z.elim
   |cont=>let⟨_,_,_,z⟩:=q;exact z.elim
   |ret u=>let⟨_,_,_,_,_,z⟩:=q;exact z.elim
  exact Ay hex pG LN (C6 I.ok J1) (Cd th1) λ s2 c2=>land c2 λ s3 c3=>hh.p ex C dd c Ch χ s3 σ H' D c3 xr ⟨ρ,fl,rm.up sm,e,k.up<|ky sm⟩
 .refine A21 (hb χ s σ H D (I.wish _) ⟨ρ,fl,rm,e,k⟩) (λ f s1 q=>?_) λ _ _ z=>z.elim;have q:=q.g9;cases f with
  |next=>exact B48 q
  |brk=>exact q
  |cont=>exact q
  |ret u=>exact q⟩
end ZS
namespace Z
def yr(b:Bool)(x t:D):Res D:=match x,t with
| .str c,.dct (.inl _::.inl k::ks) vs=>guard (k=1) (.ok (.bl (match g_ ks vs c with
 |.ok _=>b
 | .bad=>!b)))
|_,_=>.bad
def ug(t x:D):Res D:=match t,x with
| .dct (.inl _::.inl k::ks) vs,.str c=>guard (k=1) (match g_ ks vs c with
 |.ok d=>.ok d
 | .bad=>.ok .non)
|_,_=>.bad
end Z
namespace ZS
open L2 PySem.W
theorem N6{K:Frag}:∀{ks:γ (γ Nat)}{ds}{a9:γ (Key×V)},a9.map (·.1)=ks.map (λ c=>(GE ⟨c.toArray⟩:Key))->aE K H ds (a9.map (·.2)) ->
 (∃d v,Z.g_ (ks.map .inr) ds c=.ok d/\qj a9 (.inr ⟨c.toArray⟩)=AC v/\Den K H d v)\/(Z.g_ (ks.map .inr) ds c=.bad/\qj a9 (.inr ⟨c.toArray⟩)=At)
|[],ds,[],_,_=>.inr ⟨rfl,rfl⟩
|[],ds,_::_,h,_=>by cases h
|k::ks,ds,[],h,_=>by cases h
|k::ks,ds,(n,v)::a9,h,hd=>by
 simp only[f8,A97]at h;let⟨rfl,h⟩:=h;cases ds with
 |nil=>simp[aE]at hd
 |cons d ds=>
  simp only[f8,aE]at hd;let⟨v',r,e1,h4,h5⟩:=hd;cases e1;by_cases hk:k=c
  .subst hk;exact .inl ⟨d,v,by simp[Z.g_],oV rfl,h4⟩
  .have nk:¬(GE ⟨k.toArray⟩:Key)=GE ⟨c.toArray⟩:=λ z=>hk<|n4.mp<|A75 z;rcases N6 (c:=c) h h5 with⟨d',v',e1,e2,e3⟩|⟨e1,e2⟩
   .exact .inl ⟨d',v',by simp only[f8,Z.g_,W1 hk];exact e1,by rw[lP nk];exact e2,e3⟩
   .exact .inr ⟨by simp only[f8,Z.g_,W1 hk];exact e1,by rw[lP nk];exact e2⟩
theorem T5{K:Frag}(h:LV K H 1 d v):∃(a:δ)(ks:γ _)(ds:γ Z.D)(a9:γ _),d=.dct (.inl (a)::.inl 1::ks.map .inr) ds/\v=.ref a/\H a=AC (.dK a9)/\a9.map (·.1)=ks.map (λ c=>(GE ⟨c.toArray⟩))/\aE K H ds (a9.map (·.2)):=by
 let⟨a,ks,ds,u,rfl,rfl,q,t⟩:=h;rcases t with⟨z,_⟩|⟨_,a9,rfl,h2,h3⟩
 .cases z
 .exact⟨a,ks,ds,a9,rfl,rfl,q,h2,h3⟩
section
variable{X:Cx}
theorem EY:∀σ H Q,tZ X.K (Z.eB (Z.yr b) fa fo) σ H Q->(λ σ H Q=>tZ X.K fa σ H λ y H1=>tZm X.K 1 fo σ H1 λ x H2=>∃a o,x=.ref a/\Lx H2 a y o/\Q (.bl<|o.isSome==b) H2) σ H Q:=by
 rintro σ H Q ⟨ρ,d,r,e,k⟩;let⟨x,ex,e⟩:=XV e;let⟨t,et,e⟩:=XV e;refine⟨ρ,x,r,ex,λ y H1 s1 d1=>⟨ρ,t,r.up s1,et,λ u H2 s2 d2=>?_⟩⟩;let⟨a,ks,ds,a9,rfl,rfl,q,h2,h3⟩:=T5 d2;have hc:∃c,x=.str c:=by
  unfold Z.yr at e;split at e
  .exact⟨_,rfl⟩
  .cases e
 let⟨c,rfl⟩:=hc;have hy:y=kV (.inr ⟨c.toArray⟩):=by simp only[Den]at d1;exact d1
 have e:=e;let⟨_,e⟩:=Z.b7 e;cases e;refine⟨a,_,rfl,.inl ⟨a9,_,.inl q,hy,rfl⟩,?_⟩;have k:=k _ H2 (s1.trans s2) c8;rcases N6 h2 h3 with⟨_,_,e1,e2,_⟩|⟨e1,e2⟩
 .rw[e1]at k;rw[e2];cases b<;>exact k
 .rw[e1]at k;rw[e2];cases b<;>exact k
theorem _root_.ZQ.Sh(hu:X.A.units+64<cLine)(ha:ZQ.QE X a fa)(ho:ZQ.QM X 1 o fo)(hm:behindInMarks .In o=AT:=by with_unfolding_all rfl):ZQ.QT X (.Compare a [.In] [o] pos) (Z.tE<|Z.eB (Z.yr Ch) fa fo):=
 ⟨rM (IQ (QN ∅ ha.p ho.p) hm) λ σ H Q h=>by have:=EY σ H Q h;simp only[beq_true]at this;exact this⟩
theorem _root_.ZQ.G9(hu:X.A.units+64<cLine)(ha:ZQ.QE X a fa)(ho:ZQ.QM X 1 o fo)(hm:behindInMarks .NotIn o=AT:=by with_unfolding_all rfl):ZQ.QT X (.Compare a [.NotIn] [o] pos) (Z.tE<|Z.eB (Z.yr AT) fa fo):=
 ⟨rM (IQ (F? ∅ ha.p ho.p) hm) λ σ H Q h=>by have:=EY σ H Q h;simp only[beq_false]at this;exact this⟩
theorem _root_.ZQ.Ov{apos gR:Pos}(ho:ZQ.QM X 1 o fo)(ha:ZQ.QE X a fa)
 (jf:attributeBase o "get" X.env (eval o X.env)=eval o X.env:=by rfl)
 (n!:((backTo gR<|starEach [a] X.env).all (λ x=>!x.1)&&(backToKw gR<|keywordEach [] X.env).all (λ x=>x.1.isSome)
  && decide (([a]).length+([]:γ π).length+(if([]:γ π).isEmpty then 0 else 1)<30))=Ch:=by rfl)
 (je:(apos.endLine==gR.line)=Ch:=by rfl) (ht:backTo gR (starEach [a] X.env)=[(AT,eval a X.env)]:=by rfl) :
 ZQ.QE X (.Call (.Attribute o "get" apos) [a] [] gR) (Z.eB Z.ug fo fa):=⟨by
 have ha:=ha.p;intro χ s σ H Q I w;let⟨ρ,d,r,e,k⟩:=w;let⟨t,et,e⟩:=XV e;let⟨x,ex,e⟩:=XV e;refine B99 jf n! je ht<|cA (ho.p χ s σ H (λ v H1=>aJ H H1/\LV X.K H1 1 t v) I ⟨ρ,t,r,et,λ v H1 s1 d1=>⟨s1,d1⟩⟩) ?_;rintro u s1 ⟨v1,H1,I1,ru,Zf,th⟩;let⟨q,ks,ds,a9,rfl,rfl,hq,h2,h3⟩:=T5 th;obtain rfl:u=Value.ref q:=ru;obtain⟨_,_,_,_,oo,_,_,g1,gx,_⟩:=(I1.b9 q _ hq)
 refine⟨"dict","dict.get",C57,C58,PySem.F.type_dict_get,⟨oo,g1,gx.1⟩,λ b eb=>?_,?_⟩
 .cases eb;exact⟨oo,g1,gx.2.1⟩
 refine C00 rfl<|B53<|B89<|cA (ha χ s1 σ H1 (λ v H2=>aJ H1 H2/\Den X.K H2 x v) I1 ⟨ρ,_,r.up Zf,ex,λ v H2 s2 dv=>⟨s2,dv⟩⟩) ?_;rintro u2 s2 ⟨v2,H2,I2,Ur,qt,Wz⟩;refine B88 ?_;have hc:∃c,x=.str c:=by
  unfold Z.ug at e;split at e
  .exact⟨_,rfl⟩
  .cases e
 let⟨c,rfl⟩:=hc;simp only[Den]at Wz;subst Wz;have e:=e;let⟨_,e⟩:=Z.b7 e;have Wb:=h3.up qt;obtain⟨hz,hd,vs,rel,dd⟩:=(I2.b9 q _<|qt _ _ hq)
 refine call_meetsIn C58 dd.typeIs PySem.F.entry_dict_get (PySem.F.args_dict_get_2 _ _) (meets_dict_get (e! X.prog X.w) q (w_ (k:=.inr ⟨c.toArray⟩) Ur) hd) ⟨_,dd.mapOf,?_⟩;rcases N6 (c:=c) h2 Wb with⟨d',v,e1,e2,e3⟩|⟨e1,e2⟩
 .rw[e1]at e;cases e;let⟨w',hw,Mw⟩:=lJ.some_of (v:=v) (o:=valueAt vs (.inr ⟨c.toArray⟩)) (by rw[<-e2];exact rel.val _);rw[hw];exact⟨v,H2,I2.tok _,Mw,k _ _ (Zf.trans qt) e3⟩
 .rw[e1]at e;cases e;have hw:=lJ.none_of (by rw[<-e2];exact rel.val _);rw[hw];exact⟨.non,H2,I2.tok _,rfl,k _ _ (Zf.trans qt) (by simp only[Den])⟩⟩
end
end ZS
namespace Z
def Ad(x d:D)(t:ε (ε L)):Res L:=match x,t with
|.str c,AC<|some<|.bor<|.dct (.inl a::.inl k::ks) vs=>guard (k=1/\ks.length<1000/\ks.Nodup)<|.ok<|.bor<|.dct (.inl a::.inl k::(fO c d ks vs).1) (fO c d ks vs).2
|_,_=>.bad
def Rj(i:Nat)(k e:EF)(ρ:Env):Res wm:=(e ρ).bind λ d=>(k ρ).bind λ x=>(Ad x d ρ[i]?).bind λ l=>.ok<|.nx<|ρ.set i<|some l
def gZ(c:γ Nat):γ (Sum Int<|γ Nat)->γ D->γ (Sum Int<|γ Nat)×γ D
|k::ks,v::vs=>if k=.inr c then(ks,vs)else(k::(gZ c ks vs).1,v::(gZ c ks vs).2)
|ks,vs=>(ks,vs)
def Ag(x:D)(t:ε (ε L)):Res (D×L):=match x,t with
|.str c,AC<|some<|.bor<|.dct (.inl a::.inl k::ks) vs=>guard (k=1/\ks.Nodup)<|(g_ ks vs c).bind λ d=>.ok (d,.bor<|.dct (.inl a::.inl k::(gZ c ks vs).1) (gZ c ks vs).2)
|_,_=>.bad
def Rk(i:Nat)(k:EF)(ρ:Env):Res (D×Env):=(k ρ).bind λ x=>(Ag x ρ[i]?).bind λ r=>.ok (r.1,ρ.set i<|some r.2)
end Z
namespace ZS
open L2 PySem.W
theorem Ae{a9:γ (Key×V)}(h:∀p∈a9,p.1≠k):putK ((k,v)::a9) k y=(k,y)::a9:=by
 unfold putK;rw[M2 ∅,f8,M2 rfl]
 congr 1
 induction a9 with
 |nil=>rfl
 |cons p l ih=>rw[f8,W1<|h p<|.head _,ih λ q hq=>h q<|.tail _ hq]
theorem wL{a9:γ (Key×V)}(h:n≠k):putK ((n,v)::a9) k y=(n,v)::putK a9 k y:=by
 unfold putK;have e:(((n,v)::a9).any λ kv=>decide<|kv.1=k)=a9.any λ kv=>decide (kv.1=k):=by simp[h]
 rw[e];split
 .rw[f8,W1 h]
 .rfl
theorem vB{K:Frag}{H:Hp}{c:γ Nat}{d:Z.D}{y:V}(hy:Den K H d y):∀{ks:γ (γ Nat)}{ds:γ Z.D}{a9:γ (Key×V)},ks.Nodup->a9.map (·.1)=ks.map (λ c=>(GE ⟨c.toArray⟩:Key))->aE K H ds (a9.map (·.2)) ->
 ∃ks':γ (γ Nat),(Z.fO c d (ks.map .inr) ds).1=ks'.map .inr/\(putK a9 (.inr ⟨c.toArray⟩) y).map (·.1)=ks'.map (λ c=>(GE ⟨c.toArray⟩:Key))/\aE K H (Z.fO c d (ks.map .inr) ds).2 ((putK a9 (.inr ⟨c.toArray⟩) y).map (·.2))
|[],ds,[],_,_,hd=>⟨[c],by simp[Z.fO],by simp[putK],by simp only[A32,Z.fO,putK];exact aE.cons hy aE.nil⟩
|[],ds,_::_,_,h,_=>by cases h
|k::ks,ds,[],_,h,_=>by cases h
|k::ks,ds,(n,v)::a9,nd,h,hd=>by
 simp only[f8,A97]at h;let⟨rfl,h⟩:=h;cases ds with
 |nil=>simp[aE]at hd
 |cons d0 ds=>
  simp only[f8,aE]at hd;let⟨v',r,e1,h4,h5⟩:=hd;cases e1;let⟨nk,nd⟩:=A17.mp nd;by_cases hk:k=c
  .subst hk;have hh:∀p∈a9,p.1≠(GE ⟨k.toArray⟩:Key):=λ p hp z=>by have:p.1∈a9.map (·.1):=C29 hp;rw[h,z]at this;let⟨c',sk,e⟩:=A02.mp this;exact nk<|n4.mp (A75 e)▸sk
   refine⟨k::ks,by simp[Z.fO],?_,?_⟩
   .rw[Ae hh];simp[h]
   .rw[Ae hh];simp only[f8,Z.fO,M2 rfl];exact aE.cons hy h5
  .have ne:(GE ⟨k.toArray⟩:Key)≠GE ⟨c.toArray⟩:=λ z=>hk<|n4.mp<|A75 z;let⟨ks',q1,q2,q3⟩:=vB (c:=c) hy nd h h5;refine⟨k::ks',?_,?_,?_⟩
   .simp only[f8,Z.fO,W1 hk,q1]
   .rw[wL ne];simp[q2]
   .rw[wL ne];simp only[f8,Z.fO,W1 hk];exact aE.cons h4 q3
theorem wV{ks:γ _}(h:(ks.map GE:γ (Sum Int<|γ Nat)).Nodup):ks.Nodup:=by
 induction ks with
 |nil=>exact B11
 |cons a l ih=>rw[f8]at h;let⟨h1,h2⟩:=A17.mp h;exact A17.mpr ⟨λ z=>h1<|C29 z,ih h2⟩
section
variable{H0:Hp}{ms:γ Nat}{as:γ δ}
theorem IL(h:Z.Ad x d t=.ok l):∃c a ks vs,x=.str c/\t=AC (AC<|.bor<|.dct (.inl a::.inl 1::ks) vs)/\(ks.length<1000/\ks.Nodup)/\l=.bor (.dct (.inl a::.inl 1::(Z.fO c d ks vs).1) (Z.fO c d ks vs).2):=by
 unfold Z.Ad at h;split at h
 .rename_i c a k ks vs;let⟨⟨rfl,q⟩,h⟩:=Z.b7 h;cases h;exact⟨c,a,ks,vs,rfl,rfl,q,rfl⟩
 .cases h
theorem RM.dict{K:Frag}{i:Nat}{a0:Int}{Vr:γ (Sum Int<|γ Nat)}{vs:γ Z.D}(rm:RM K H0 ms as H σ ρ)(hi:ρ[i]?=AC (AC<|.bor<|.dct (.inl a0::.inl 1::Vr) vs)):
 ∃(p:δ)(ks:γ (γ Nat))(a9:γ (Key×V)),a0=(p:Nat)/\Vr=ks.map .inr/\ρ[i]?=AC (AC<|.bor<|Z.fR p 1 ks vs)/\σ[i]?=AC (AC<|.ref p)/\H p=AC (.dK a9)/\a9.map (·.1)=ks.map (λ c=>(GE ⟨c.toArray⟩:Key))/\aE K H vs (a9.map (·.2)):=by
 let⟨p,kd,ks,vs',e1⟩:=rm.tagged hi;unfold Z.fR at e1;injection e1 with e1 e2
 injection e1 with e1 e3
 injection e3 with e3 e4
 injection e1 with e1
 injection e3 with e3
 subst e1 e2 e4;have:kd=1:=(B42 e3.symm)
 subst this;have yK:ρ[i]?=AC (AC<|.bor<|Z.fR p 1 ks vs):=hi;let⟨GS,u,hu,th⟩:=rm.thing yK;rcases th with⟨z,_⟩|⟨_,a9,rfl,h2,h3⟩
 .cases z
 .exact⟨p,ks,a9,rfl,rfl,yK,GS,hu,h2,h3⟩
theorem _root_.ZQ.Rb(hu:X.A.units+64<cLine)(ho:PE X o (lS i))(hk:ZQ.QE X a fk)(he:ZQ.QE X value fe)(hs:swapsWith value (AC<|.Subscript o a pos') pos.line X.env=pure AT:=by rfl):
 ZQ.HI X H0 ms as (.Assign [.Subscript o a pos'] value pos) (Z.Rj i fk fe):=⟨PS.imp (MC ∅ ho hk.p he.p hs) <|by
 rintro D σ H ⟨ρ,fl,rm,e,k⟩;let⟨d,ed,e⟩:=XV e;let⟨x,ex,e⟩:=XV e;let⟨l,el,e⟩:=XV e;cases e;let⟨c,a0,Vr,vs,rfl,hi,⟨ψ,NT⟩,rfl⟩:=IL el;refine⟨ρ,d,rm.rs.re,ed,λ y H1 s1 dy=>?_⟩;have oQ:=rm.up s1;let⟨p,_,_,_,_,_,GS,_⟩:=oQ.dict hi;refine⟨_,GS,ρ,_,oQ.rs.re,ex,λ z H2 s2 dz=>?_⟩;have Eo:=oQ.up s2;let⟨p',ks,a9,e1,rfl,yK,C7,hp,h2,h3⟩:=Eo.dict hi;have:p'=p:=by rw[GS]at C7;injection C7 with q;injection q with q;injection q with q;exact q.symm
 subst this;have hz:z=kV (.inr ⟨c.toArray⟩):=by simp only[Den]at dz;exact dz
 let⟨ks',q1,q2,q3⟩:=vB (c:=c) (dy.up s2) (wV NT) h2 h3;have Hw:g0 H2 (upd H2 p'<|.dK<|putK a9 (.inr ⟨c.toArray⟩) y):=mC hp (λ _ z=>nomatch z) λ _ _ z=>nomatch z;let⟨st,Zr⟩:=Eo.write yK (.inr ⟨rfl,_,rfl,q2,q3.ups Hw⟩);refine⟨p',_,rfl,.inl ⟨a9,.inr ⟨c.toArray⟩,hp,hz,?_,rfl⟩,k σ _ (((ky s1).trans<|ky s2).trans st) ?_⟩
 .have e1:=A15 List.length h2;simp only[A06]at e1 ψ;rw[A23];lia
 .rw[q1,e1];exact Zr⟩
theorem IW(h:Z.Ag x t=.ok r):∃c a ks vs,x=.str c/\t=AC (AC<|.bor<|.dct (.inl a::.inl 1::ks) vs)/\ks.Nodup/\Z.g_ ks vs c=.ok r.1/\r.2=.bor (.dct (.inl a::.inl 1::(Z.gZ c ks vs).1) (Z.gZ c ks vs).2):=by
 unfold Z.Ag at h;split at h
 .rename_i c a k ks vs;let⟨⟨rfl,q⟩,h⟩:=Z.b7 h;let⟨d,e1,h⟩:=XV h;cases h;exact⟨c,a,ks,vs,rfl,rfl,q,e1,rfl⟩
 .cases h
theorem Dp{k:Key}:∀{a9},(∀p∈a9,p.1≠k)->iD a9 k=a9:=λ {a9} h=>by unfold iD;rw[A87];exact λ p hp=>by simpa using h p hp
theorem PM{K:Frag}{H:Hp}{c:γ Nat}:∀{ks:γ (γ Nat)}{ds:γ Z.D}{a9:γ (Key×V)},ks.Nodup->a9.map (·.1)=ks.map (λ c=>(GE ⟨c.toArray⟩:Key))->aE K H ds (a9.map (·.2)) ->
 ∃ks':γ (γ Nat),(Z.gZ c (ks.map .inr) ds).1=ks'.map .inr/\(iD a9<|.inr ⟨c.toArray⟩).map (·.1)=ks'.map (λ c=>(GE ⟨c.toArray⟩:Key))/\aE K H (Z.gZ c (ks.map .inr) ds).2 ((iD a9<|.inr ⟨c.toArray⟩).map (·.2))
|[],ds,[],_,_,hd=>⟨[],by simp[Z.gZ],by simp[iD],by simpa[Z.gZ,iD]using hd⟩
|[],ds,_::_,_,h,_=>by cases h
|k::ks,ds,[],_,h,_=>by cases h
|k::ks,ds,(n,v)::a9,nd,h,hd=>by
 simp only[f8,A97]at h;let⟨rfl,h⟩:=h;cases ds with
 |nil=>simp[aE]at hd
 |cons d0 ds=>
  simp only[f8,aE]at hd;let⟨v',r,e1,h4,h5⟩:=hd;cases e1;let⟨nk,nd⟩:=A17.mp nd;by_cases hk:k=c
  .subst hk;have hh:∀p∈a9,p.1≠(GE ⟨k.toArray⟩:Key):=λ p hp z=>by have:p.1∈a9.map (·.1):=C29 hp;rw[h,z]at this;let⟨c',sk,e⟩:=A02.mp this;exact nk<|n4.mp (A75 e)▸sk
   have e2:iD ((GE ⟨k.toArray⟩,v)::a9) (.inr ⟨k.toArray⟩)=a9:=by rw[<-Dp hh];simp[iD]
   rw[e2];refine⟨ks,?_,h,?_⟩
   .simp[Z.gZ]
   .simpa[Z.gZ]using h5
  .have ne:(GE ⟨k.toArray⟩:Key)≠GE ⟨c.toArray⟩:=λ z=>hk<|n4.mp<|A75 z;have nk2:¬(GE k:Sum Int (γ Nat))=.inr c:=λ z=>hk<|A75 z;let⟨ks',q1,q2,q3⟩:=PM (c:=c) nd h h5;have e2:iD ((GE ⟨k.toArray⟩,v)::a9) (.inr ⟨c.toArray⟩)=(GE ⟨k.toArray⟩,v)::iD a9 (.inr ⟨c.toArray⟩):=by unfold iD;rw[B70 (by simpa using ne)]
   rw[e2];refine⟨k::ks',?_,?_,?_⟩
   .simp only[f8,Z.gZ,W1 nk2,q1]
   .simp[q2]
   .simp only[f8,Z.gZ,W1 nk2];exact aE.cons h4 q3
theorem _root_.ZQ.Rg{apos gR:Pos}(ho:PE X o (lS i))(ha:ZQ.QE X a fk)
 (jf:attributeBase o "pop" X.env (eval o X.env)=eval o X.env:=by rfl)
 (n!:((backTo gR<|starEach [a] X.env).all (λ x=>!x.1)&&(backToKw gR<|keywordEach [] X.env).all (λ x=>x.1.isSome)
  && decide (([a]).length+([]:γ π).length+(if([]:γ π).isEmpty then 0 else 1)<30))=Ch:=by rfl)
 (je:(apos.endLine==gR.line)=Ch:=by rfl) (ht:backTo gR (starEach [a] X.env)=[(AT,eval a X.env)]:=by rfl) :
 ZQ.Hs X H0 ms as (.Call (.Attribute o "pop" apos) [a] [] gR) (Z.Rk i fk):=⟨by
 have ha:=ha.p;intro χ s σ H Q I w;let⟨ρ,d,ρ',rm,e,k⟩:=w;let⟨x,ex,e⟩:=XV e;let⟨r,er,e⟩:=XV e;cases e;let⟨c,a0,Vr,vs0,rfl,hi,NT,eg,el⟩:=IW er;let⟨p,ks,a9,e1,rfl,yK,GS,hp,h2,h3⟩:=rm.dict hi;refine B99 jf n! je ht<|cA (ho χ s σ H (λ v H1=>v=.ref p/\H1=H) I ⟨_,GS,rfl,rfl⟩) ?_;rintro u s1 ⟨v1,H1,I1,ru,rfl,rfl⟩;obtain rfl:u=Value.ref p:=ru;obtain⟨_,_,_,_,oo,_,_,g1,gx,_⟩:=(I1.b9 p _ hp)
 refine⟨"dict","dict.pop",C57,C48,PySem.F.type_dict_pop,⟨oo,g1,gx.1⟩,λ b eb=>?_,?_⟩
 .cases eb;exact⟨oo,g1,gx.2.1⟩
 refine C00 rfl<|B53<|B89<|cA (ha χ s1 σ H1 (λ v H2=>aJ H1 H2/\Den X.K H2 (.str c) v) I1 ⟨ρ,_,rm.rs.re,ex,λ v H2 s2 dv=>⟨s2,dv⟩⟩) ?_;rintro u2 s2 ⟨v2,H2,I2,Ur,qt,Wz⟩;refine B88 ?_;simp only[Den]at Wz;subst Wz;have Eo:=rm.up qt;have hp2:=qt _ _ hp;have h32:=h3.up qt;rcases N6 h2 h32 with⟨d',v,q1,q2,q3⟩|⟨q1,_⟩
 .rw[q1]at eg;cases eg;let⟨ks',w1,w2,w3⟩:=PM (c:=c) (wV NT) h2 h32;have Hw:g0 H2 (upd H2 p<|.dK<|iD a9<|.inr ⟨c.toArray⟩):=mC hp2 (λ _ z=>nomatch z) λ _ _ z=>nomatch z;let⟨st,Zr⟩:=Eo.write (u':=.dK (iD a9<|.inr ⟨c.toArray⟩)) (kd':=1) (ks':=ks') (vs':=(Z.gZ c (ks.map .inr) vs0).2) yK (.inr ⟨rfl,_,rfl,w2,w3.ups Hw⟩);refine WC I2 hp2 (k:=.inr ⟨c.toArray⟩) Ur q2 (.inl rfl) λ w' s3 I3 Mw=>⟨v,_,I3,Mw,k v _ (λ b o hb q=>?_) ?_<|q3.ups Hw⟩
  .rw[aG λ z=>hb (by rw[z];exact rm.mem yK)];exact qt b o q
  .rw[el,w1,e1];exact Zr
 .rw[q1]at eg;cases eg⟩
end
end ZS
namespace Z
open Classical in
def allM(f:Nat->Res wm):Res wm:=if h:∃r:D×γ D,∀x,f x=.ok (.rt r.1 r.2)then .ok (.rt h.choose.1 h.choose.2)else .bad
theorem OR(h:allM f=.ok fl):∃d ts,fl=.rt d ts/\∀x,f x=.ok (.rt d ts):=by
 unfold allM at h;split at h
 .rename_i q;cases h;exact⟨_,_,rfl,q.choose_spec⟩
 .cases h
theorem allM_mk(h:∀x,f x=.ok (.rt d ts)):allM f=.ok (.rt d ts):=by
 have q:∃r:D×γ D,∀x,f x=.ok (.rt r.1 r.2):=⟨(d,ts),h⟩
 unfold allM;rw[A93 q];have:=(q.choose_spec 0).symm.trans<|h 0;simp only[Res.ok.injEq,wm.rt.injEq]at this;rw[this.1,this.2]
def EN(ms:γ Nat)(i:Nat)(r:SM)(ρ:Env):Res wm:=guard (i∉ms) (allM λ x=>(r<|ρ.set i<|some<|.bor<|fR x 1 [] []).bind λ fl=>match fl with
|.rt d ts=>guard (ts.length=ms.length+1)<|.ok<|.rt d<|ts.take ms.length
| _=>.bad)
end Z
namespace ZS
open L2 PySem.W
theorem ub:∀{l}{m}{x}{y},Paired R l m->R x y->Paired R (l++[x]) (m++[y])
|_,_,_,_,.nil,r=>.cons r .nil
|_,_,_,_,.cons a t,r=>.cons a<|ub t r
theorem rp:∀{l}{m}{x},Paired R (l++[x]) m->Paired R l (m.take l.length)
|[],m,x,h=>by simpa using Paired.nil
|a::l,_,x,.cons r t=>by simpa using Paired.cons r (rp t)
section
variable{K:Frag}
theorem RM.grow(h:RM K H0 ms as H σ ρ)(hp:H p=At)(hi:i∉ms)(A1:i<ρ.length)(t:Hr K (upd H p u) kd ks vs u):
 RM K H0 (ms++[i]) (as++[p]) (upd H p u) (σ.set i<|some<|.ref p) (ρ.set i<|some<|.bor<|Z.fR p kd ks vs):=by
 have pn:p∉as:=λ z=>by let⟨u',q⟩:=h.tracked z;rw[hp]at q;cases q
 have n0:H0 p=At:=by
  cases q:H0 p with
  |none=>rfl
  |some o=>rw[h.same _ _ q]at hp;cases hp
 have _v:over H0 (upd H p u) (as++[p])=upd (over H0 H as) p u:=by
  funext b
  by_cases hb:b=p
  .subst hb;rw[cE ∅,aO,aO]
  .rw[aG hb];by_cases hm:b∈as
   .rw[cE<|A77 _ hm,cE hm,aG hb]
   .rw[cW (by simp[hm,hb]),cW hm]
 refine⟨by rw[_v];exact h.rs.vC hp (cn hp) aO t A1,ub (dB h.at_ <|by rintro j hj a ⟨kd,ks,vs,q⟩;exact⟨kd,ks,vs,by rw[A29 λ z=>hi (by rw[z];exact hj)];exact q⟩) ⟨kd,ks,vs,A41 A1⟩,qC λ j x e tt=>?_,?_,λ a ha=>?_⟩
 .by_cases sR:i=j
  .subst sR;simp
  .rw[A29 sR]at e;exact A77 _<|ie h.no e tt
 .refine C30.mpr ⟨h.nd,by simp,λ a ha b hb=>?_⟩;rw[A19.mp hb];exact λ z=>pn<|z▸ha
 .rcases A37.mp ha with ha|ha
  .exact h.h0 a ha
  .rw[A19.mp ha];exact n0
end
section
variable{rest:γ θ}{pos pos' WA:Pos}
theorem _root_.ZQ.Jy(hN:X.N.Nodup)(hi:X.N[i]?=AC y)(hy:Loc X.env.scope y)(l!:∀p,ZQ.oN X H0 (ms++[i]) (as++[p]) rest r)
 (hs:swapsWith (.Dict [] [] WA) (AC<|.Name y pos') pos.line X.env=pure AT:=by rfl) (hf:X.fn y=Ch\/X.env.scope.names.lookup y=AC .local:=by first|exact .inl rfl|exact .inr rfl|assumption) :
 ZQ.oN X H0 ms as (.Assign [.Name y pos'] (.Dict [] [] WA) pos::rest) (Z.EN ms i r):=⟨by
 have l!:=λ p=>(l! p).p;have hR:qZ X rest (λ D σ H=>∃p,tM X.K H0 _ _ r D σ H):=λ χ s σ H D I ⟨p,w⟩=>l! p χ s σ H D I w;rintro χ s σ H D I ⟨ρ,fl,rm,e,k⟩;let⟨him,e⟩:=Z.b7 e;let⟨d,ts,rfl,er⟩:=Z.OR e;have A1:i<ρ.length:=by rw[rm.rs.re.len,I.len];exact(A07.mp hi).1
 refine i! (nU hN hi hy I_ hs hf) hR χ s σ H D I λ p hp=>⟨p,?_⟩
 let⟨f1,e1,e2⟩:=XV (er p);cases f1 with
 |nx _=>cases e2
 |rt d1 ts1=>let⟨hl,e2⟩:=Z.b7 e2;cases e2;refine⟨_,_,rm.grow hp him A1<|.inr ⟨rfl,[],rfl,rfl,aE.nil⟩,e1,λ v H' sm th dv=>k v H' sm ?_ dv⟩;have:=rp<|th;have ll:=(B45 rm.at_).symm;rw[ll]at this;exact this⟩
structure _root_.ZQ.YN(X:Cx)(H0:Hp)(ms:List Nat)(as:List Addr)(es:List Expr)(f:Z.Xa):Prop where p:MA X H0 ms as es f
theorem _root_.ZQ.JM:ZQ.YN X H0 ms as [] Z.xC:=⟨PA.imp cP <|by rintro σ H Q ⟨ρ,d,ρ',rm,e,k⟩;cases e;exact k [] H vm.refl rm aE.nil⟩
theorem _root_.ZQ.sP(ha:ZQ.Hs X H0 ms as e fa)(hr:ZQ.YN X H0 ms as es r)(he:Se e es X.env:=by rfl):ZQ.YN X H0 ms as (e::es) (Z.my fa r):=⟨PA.imp (bH ha.p hr.p he) <|by rintro σ H Q ⟨ρ,ds,ρ',rm,e,k⟩;let⟨⟨x,ρ1⟩,ea,e⟩:=XV e;let⟨⟨xs,ρ2⟩,eb,e⟩:=XV e;cases e;exact⟨ρ,x,ρ1,rm,ea,λ v H1 m1 oQ d1=>⟨ρ1,xs,ρ2,oQ,eb,λ vs H2 m2 Eo d2=>k _ H2 (m1.trans m2) Eo<|aE.cons (d1.ups<|oQ.ky m2) d2⟩⟩⟩
theorem _root_.ZQ.JG(h:ZQ.YN X H0 ms as es g):ZQ.Hs X H0 ms as (.Tuple es x1 pos) (Z.GA g):=⟨PE.imp (I0 h.p) <|by rintro σ H Q ⟨ρ,d,ρ',rm,e,k⟩;let⟨⟨xs,ρ1⟩,ea,e⟩:=XV e;let⟨hl,e⟩:=Z.b7 e;cases e;refine⟨ρ,xs,ρ1,rm,ea,λ vs H1 m1 oQ d1=>⟨by rw[d1.length,A23];exact hl,λ q hq=>?_⟩⟩;have s2:aJ H1 (upd H1 q<|.tup vs):=cn hq;exact k _ _ (m1.trans<|vm.of s2) (oQ.up s2)<|fL (.inl<|.inl aO)<|d1.up s2⟩
end
end ZS
namespace Z
def Ok{α:Type}(r:Res α)(Q:α->Prop):Prop:=∃a,r=.ok a/\Q a
theorem Ok.imp(h:Ok r P)(k:∀a,P a->Q a):Ok r Q:=let ⟨a,e,p⟩:=h;⟨a,e,k a p⟩
theorem Ok.eq(h:Ok r λ x=>x=a):r=.ok a:=by let⟨x,e,rfl⟩:=h;exact e
@[simp] theorem W0(a:α)(Q:α->Prop):Ok (.ok a) Q↔Q a:=⟨by rintro⟨_,e,q⟩;cases e;exact q,λ q=>⟨a,rfl,q⟩⟩
@[simp] theorem aa2(Q:α->Prop):Ok (.bad) Q↔False:=⟨by rintro⟨_,e,_⟩;exact(by cases e),GM⟩
@[simp] theorem YQ(r:Res α)(f:α->Res β)(Q:β->Prop):Ok (r.bind f) Q↔Ok r λ a=>Ok (f a) Q:=by
 cases r with
 |ok a=>simp
 |bad=>simp
@[simp] theorem aa0(r:Res α)(f:α->β)(Q:β->Prop):Ok (r.map f) Q↔Ok r λ a=>Q (f a):=by
 cases r with
 |ok a=>simp
 |bad=>simp
@[simp] theorem W3(p:Prop)(r:Res α)(Q:α->Prop):Ok (guard p r) Q↔p/\Ok r Q:=by
 constructor
 .rintro⟨a,e,q⟩;let⟨h,e⟩:=b7 e;exact⟨h,a,e,q⟩
 .rintro⟨h,k⟩;rw[guard_pos h];exact k
@[simp] theorem aa1[Decidable c](r r':Res α)(Q:α->Prop):Ok (if c then r else r') Q↔if c then Ok r Q else Ok r' Q:=by split<;>rfl
abbrev v(d:D):ε L:=AC<|.val d
abbrev vi(i:Int):ε L:=AC<|.val<|.int i
abbrev vs(cs:γ Nat):ε L:=AC<|.val<|.str cs
abbrev ow(xs:γ D):ε L:=AC<|.own xs
def WO:ε (ε L)->Res D
|some<|some<|.val d=>.ok d
|some<|some<|.own xs=>.ok<|.lst xs
|some<|some<|.bor<|.lst xs=>.ok<|.lst xs
|_=>.bad
def asV:ε (ε L)->Res D
|some<|some<|.val d=>.ok d
|_=>.bad
@[simp] theorem afE(i:Nat)(ρ:Env):eW i ρ=WO ρ[i]?:=by
 unfold eW WO;cases ρ[i]? with
 |none=>rfl
 |some o=>cases o with
  |none=>rfl
  |some l=>cases l<;>rfl
@[simp] theorem afF(i:Nat)(ρ:Env):eV i ρ=asV ρ[i]?:=by
 unfold eV asV;cases ρ[i]? with
 |none=>rfl
 |some o=>cases o with
  |none=>rfl
  |some l=>cases l<;>rfl
@[simp] theorem YF(d:D):WO (AC<|some<|.val d)=.ok d:=rfl
@[simp] theorem YG(xs:γ D):WO (AC<|some<|.own xs)=.ok (.lst xs):=rfl
@[simp] theorem YH(xs:γ D):WO (AC<|some<|.bor<|.lst xs)=.ok (.lst xs):=rfl
@[simp] theorem YI(d:D):asV (AC<|some<|.val d)=.ok d:=rfl
theorem aP{b:SF}(h:Ok (b ρ) λ fl=>bJ (.ok fl)=.ok d):bJ (b ρ)=.ok d:=by let⟨fl,e,q⟩:=h;rw[e,q]
theorem qy{b:SF}(h:Ok (b ρ) λ fl=>Ok (bJ<|.ok fl) P):Ok (bJ<|b ρ) P:=by let⟨fl,e,q⟩:=h;rw[e];exact q
@[simp] theorem Zk(e:EF)(g:GF)(ρ:Env):Mv e g ρ=(e ρ).bind λ d=>(g d ρ).bind λ ρ'=>.ok (.nx ρ'):=rfl
@[simp] theorem acB(i j:Nat)(a b:D)(ρ:Env):iA [i,j] (.tup [a,b]) ρ=.ok ((ρ.set i<|v a).set j<|v b):=rfl
def WR(i:Nat)(ρ:Env)(d:D):ε (ε L)->Res Fl
|some<|some<|.own xs=>guard (xs.length<line)<|.ok<|.nx<|ρ.set i<|ow<|xs++[d]
|_=>.bad
@[simp] theorem S3(i:Nat)(e:EF)(ρ:Env):dW i e ρ=(e ρ).bind λ d=>WR i ρ d ρ[i]?:=rfl
@[simp] theorem WQ(i:Nat)(ρ:Env)(d:D)(xs:γ D):WR i ρ d (AC<|some<|.own xs)=guard (xs.length<line) (.ok<|.nx<|ρ.set i<|ow<|xs++[d]):=rfl
def Wm(i:Nat)(ρ:Env)(ys:γ D):ε (ε L)->Res Fl
|some<|some<|.own xs=>guard (xs.length+ys.length<=line)<|.ok<|.nx<|ρ.set i<|ow<|xs++ys
|_=>.bad
@[simp] theorem Zo(i:Nat)(l:LF)(ρ:Env):F7 i l ρ=(l ρ).bind λ ys=>Wm i ρ ys ρ[i]?:=rfl
@[simp] theorem Wl(i:Nat)(ρ:Env)(ys xs:γ D):Wm i ρ ys (AC<|some<|.own xs)=guard (xs.length+ys.length<=line) (.ok<|.nx<|ρ.set i<|ow<|xs++ys):=rfl
def Ko(i:Nat)(ρ:Env):ε (ε L)->Env
|some<|some<|.own xs=>ρ.set i<|v<|.lst xs
|_=>ρ
@[simp] theorem Zl(i:Nat)(a:SF)(ρ:Env):t9 i a ρ=a (Ko i ρ ρ[i]?):=by
 unfold t9 fF Ko;cases ρ[i]? with
 |none=>rfl
 |some o=>cases o with
  |none=>rfl
  |some l=>cases l<;>rfl
@[simp] theorem Wi(i:Nat)(ρ:Env)(xs:γ D):Ko i ρ (AC<|some<|.own xs)=ρ.set i (v<|.lst xs):=rfl
@[simp] theorem Wh(i:Nat)(ρ:Env)(d:D):Ko i ρ (AC<|some<|.val d)=ρ:=rfl
@[simp] theorem Tq(i:Nat)(ρ:Env):Ko i ρ (AC At)=ρ:=rfl
def K9:D->D->Res (γ D)
|.lst xs,.lst ys=>guard (xs.length+ys.length<=line)<|.ok<|xs++ys
|_,_=>.bad
theorem CY(a b:EF)(ρ:Env):GG a b ρ=(a ρ).bind λ x=>(b ρ).bind λ y=>K9 x y:=rfl
@[simp] theorem WG(xs ys:γ D):K9 (.lst xs) (.lst ys)=guard (xs.length+ys.length<=line) (.ok<|xs++ys):=rfl
def slK(l h:ε Int):D->Res (γ D)
|.lst xs=>.ok<|cut xs l h
|_=>.bad
theorem Pm(a:EF)(lo hi:PF)(ρ:Env):Nu a lo hi ρ=(a ρ).bind λ x=>(lo ρ).bind λ l=>(hi ρ).bind λ h=>slK l h x:=rfl
@[simp] theorem Xp(l h:ε Int)(xs:γ D):slK l h (.lst xs)=.ok (cut xs l h):=rfl
@[simp] theorem XI(xs:γ D)(l h:ε Int):S8 (.tup xs) l h=.ok (.tup<|cut xs l h):=rfl
@[simp] theorem UR(cs:γ Nat)(l h:ε Int):S8 (.str cs) l h=guard (cs.length<=line) (.ok<|.str<|cut cs l h):=rfl
@[simp] theorem Ta(a b:γ Nat):bK (.str a) (.str b)=guard (a.length+b.length<=line) (.ok<|.str<|a++b):=rfl
@[simp] theorem S_(a b:γ D):bK (.tup a) (.tup b)=guard (a.length+b.length<=line) (.ok<|.tup<|a++b):=rfl
@[simp] theorem US(a:Int):Jo (.int a)=.ok (.int<|-a):=rfl
@[simp] theorem U2:gD .non=.ok (.bl Ch):=rfl
@[simp] theorem U1(xs:γ D):gD (.tup xs)=.ok (.bl AT):=rfl
@[simp] theorem S!:lY .non=.ok (.bl AT):=rfl
@[simp] theorem S9(xs:γ D):lY (.tup xs)=.ok (.bl Ch):=rfl
theorem ja(a b:Nat)(hb:b<=1000000)(ha:a<18446744073709551616):mY (.int<|a) (.int<|b)=.ok (.int<|(a^b:Nat)):=by
 have h:(0:Int)<=b/\(b:Int)<=1000000/\(a:Int).natAbs<2^64:=⟨by lia,by lia,by rw[Int.natAbs_natCast];exact ha⟩
 show guard _ _=_;rw[guard_pos h,A98,Int.natCast_pow]
@[simp] theorem ZH:mY (.int 10) (.int 60)=.ok (.int 1000000000000000000000000000000000000000000000000000000000000):=ja 10 60 ∅ ∅
@[simp] theorem ZI:mY (.int 10) (.int 59)=.ok (.int 100000000000000000000000000000000000000000000000000000000000):=ja 10 59 ∅ ∅
@[simp] theorem ZJ:mY (.int 10) (.int 55)=.ok (.int 10000000000000000000000000000000000000000000000000000000):=ja 10 55 ∅ ∅
@[simp] theorem ZK:mY (.int 10) (.int 50)=.ok (.int 100000000000000000000000000000000000000000000000000):=ja 10 50 ∅ ∅
@[simp] theorem XG:mY (.int 7919) (.int 9)=.ok (.int 122470950010456506152021579891552879):=ja 7919 9 ∅ ∅
def atK:ε D->Res D
|some d=>.ok d
|none=>.bad
@[simp] theorem WN(d:D):atK (AC d)=.ok d:=rfl
theorem M5(xs:γ D)(i:Int):aR (.tup xs) (.int i)=atK ((xf xs.length i).bind λ j=>xs[j]?):=by show(match (xf _ i).bind λ j=>xs[j]? with|some v=>Res.ok v|none=>.bad)=_;cases (xf _ i).bind λ j=>xs[j]?<;>rfl
theorem M6(xs:γ D)(i:Int):aR (.lst xs) (.int i)=atK ((xf xs.length i).bind λ j=>xs[j]?):=by show(match (xf _ i).bind λ j=>xs[j]? with|some v=>Res.ok v|none=>.bad)=_;cases (xf _ i).bind λ j=>xs[j]?<;>rfl
theorem iM{i:Int}{j:Nat}(h:i=j)(e:xs[j]?=AC d):aR (.tup xs) (.int i)=.ok d/\aR (.lst xs) (.int i)=.ok d:=by
 subst h;have hj:=(A07.mp e).1;have:xf xs.length (j)=AC j:=by simp[xf,hj]
 rw[M5,M6,this];simp[e]
theorem pF{i:Int}{j c:Nat}(h:i=j)(e:cs[j]?=AC c)(hl:cs.length<=line):aR (.str cs) (.int i)=.ok (.str [c]):=by
 subst h;have hj:=(A07.mp e).1;have:xf cs.length (j)=AC j:=by simp[xf,hj]
 show guard _ _=_;rw[guard_pos hl,this];simp[e]
theorem EU(h0:0<=i)(h1:i<xs.length):∃d∈xs,aR (.lst xs) (.int i)=.ok d/\aR (.tup xs) (.int i)=.ok d:=by
 have hj:i.toNat<xs.length:=by lia
 refine⟨xs[i.toNat],B27 hj,?_⟩;have:=iM (i:=i) ∅<|A03 hj;exact⟨this.2,this.1⟩
def turn(I:Env->Prop)(Q:Fl->Prop):Fl->Prop
|.nx ρ=>I ρ
|.ct ρ=>I ρ
|.bk ρ=>Q<|.nx ρ
|.rt d=>Q<|.rt d
@[simp] theorem Xg(I:Env->Prop)(Q:Fl->Prop)(ρ:Env):turn I Q (.nx ρ)↔I ρ:=Iff.rfl
@[simp] theorem Xh(I:Env->Prop)(Q:Fl->Prop)(ρ:Env):turn I Q (.ct ρ)↔I ρ:=Iff.rfl
@[simp] theorem Xi(I:Env->Prop)(Q:Fl->Prop)(ρ:Env):turn I Q (.bk ρ)↔Q (.nx ρ):=Iff.rfl
@[simp] theorem Xf(I:Env->Prop)(Q:Fl->Prop)(d:D):turn I Q (.rt d)↔Q (.rt d):=Iff.rfl
theorem Kp(I:Nat->Env->Prop):∀ds ρ i,I i ρ->(∀j d ρ,ds[j]?=AC d->I (i+j) ρ->Ok (g d ρ) λ ρ1=>Ok (b ρ1) (turn (I<|i+j+1) Q))->(∀ρ,I (i+ds.length) ρ->Q (.nx ρ))->Ok (e_ g b ds ρ) Q
|[],ρ,i,h,_,e=>by simpa[e_]using e ρ h
|d::ds,ρ,i,h,k,e=>by
 let⟨ρ1,e1,fl,e2,t⟩:=k 0 d ρ rfl h;have ih:=λ ρ' (h')=>Kp I ds ρ' (i+1) h' (λ j x ρ hj hP=>by have:=k (j+1) x ρ (by simpa using hj) (by simpa[C31,A92 1 j]using hP);simpa[C31,A92 1 j]using this) λ ρ hP=>e ρ (by simpa[C31,A92 1]using hP)
 unfold e_;rw[e1,Res.mH,e2,Res.mH];cases fl with
 |nx ρ'=>exact ih ρ' (by simpa using t)
 |ct ρ'=>exact ih ρ' (by simpa using t)
 |bk ρ'=>simpa using t
 |rt d=>simpa using t
theorem f9(I:Nat->Env->Prop)(h0:I 0 ρ)(hs:∀j d ρ,ds[j]?=AC d->I j ρ->Ok (g d ρ) λ ρ1=>Ok (b ρ1) (turn (I<|j+1) Q))(he:∀ρ,I ds.length ρ->Q (.nx ρ)):Ok (e_ g b ds ρ) Q:=
 Kp I ds ρ 0 h0 (λ j d ρ hd hI=>by rw[B10]at hI ⊢;exact hs j d ρ hd hI) λ ρ h=>he ρ (by rwa [B10]at h)
theorem N!(I:Env->Prop)(h0:I ρ)(hs:∀d∈ds,∀ρ,I ρ->Ok (g d ρ) λ ρ1=>Ok (b ρ1) (turn I Q))(he:∀ρ,I ρ->Q (.nx ρ)):Ok (e_ g b ds ρ) Q:=
 f9 (λ _=>I) h0 (λ j d ρ hd hI=>hs d (A18 hd) ρ hI) he
theorem Fn(p:D->Bool)(h:D->D)(hs:∀d∈ds,Ok (g d ρ) λ ρ1=>Ok (t ρ1) λ c=>c=p d/\(p d=Ch->Ok (e ρ1) λ y=>y=h d))(hq:Q ((ds.filter p).map h)):Ok (bY g t e ρ ds) Q:=by refine⟨_,nK ds λ d hd=>?_,hq⟩;let⟨ρ1,e1,c,e2,hc,k⟩:=hs d hd;exact⟨ρ1,e1,by rw[e2,hc],λ hp=>(k hp).eq⟩
theorem comp_map(h:D->D)(hs:∀d∈ds,Ok (g d ρ) λ ρ1=>Ok (e ρ1) λ y=>y=h d)(hq:Q (ds.map h)):Ok (bY g bZ e ρ ds) Q:=by refine⟨_,uW ds λ d hd=>?_,hq⟩;let⟨ρ1,e1,k⟩:=hs d hd;rw[e1];exact k.eq
theorem b8{α:Type}(enc:α->D)(f:α->Bool)(h:α->D):∀{xs:γ α}{Q},(∀x∈xs,Ok (g (enc x) ρ) λ ρ1=>Ok (t ρ1) λ c=>c=f x/\(f x=Ch->Ok (e ρ1) λ y=>y=h x))->Q ((xs.filter f).map h)->Ok (bY g t e ρ<|xs.map enc) Q:=by
 intro xs Q hs hq;refine⟨_,?_,hq⟩;clear hq
 induction xs with
 |nil=>rfl
 |cons x xs ih=>
  let⟨ρ1,e1,c,e2,hc,k⟩:=hs x A11;have ih':=ih λ y hy=>hs y<|A09 _ hy;cases hf:f x with
  |true=>rw[hf]at hc;have:=(k hf).eq;simp[bY,e1,e2,hc,this,ih',hf]
  |false=>rw[hf]at hc;simp[bY,e1,e2,hc,ih',hf]
theorem qX{α:Type}[DecidableEq α]{h:α->D}(k:∀x y,f (h x) (h y)=AC (decide<|x=y)):∀(xs ys:γ α),allEq f (xs.map h) (ys.map h)=AC (decide<|xs=ys)
|[],[]=>rfl
|[],_::_=>rfl
|_::_,[]=>rfl
|x::xs,y::ys=>by simp[allEq,k,qX k xs ys]
end Z
end S0
open ZS renaming ck→bn,ib→bv,vj.of→gt,k!→ii,nc→im,lK→lf,gu→lv,we→pc,BB→pi,fu→rc,zA→sB,XC→sK,zy→sw,K_→ul,La→ut,HX→xL,vg→xz
local macro_rules
| `(tactic|trivial)=>`(tactic|first|exact AC8 rfl|exact ol rfl)
open ZS (Fl)
set_option maxRecDepth 4000
namespace KA
open Z
def fC:SF:=(a7<|uM (eB oEq (eU cQ<|eW 0)<|eC<|.int 1)<|iH oLe oLe (eC<|.str [97]) (eW 0)<|eC<|.str [122])
def cS:γ D->Res D:=fn 1 1 fC
theorem kS(x0:D):cS [x0]=bJ (fC [AC (.val x0)]):=cI _ _ _ _ rfl
def iZ:SF:=(a7<|Tv (eB yt (eW 0)<|eE<|aa (eC<|.str [46])<|aa (eC<|.str [61])<|aa (eC<|.str [35]) aC)<|aD cS<|aa (eV 0) aC)
def jh:γ D->Res D:=fn 1 1 iZ
theorem Dk(x0:D):jh [x0]=bJ (iZ [AC (.val x0)]):=cI _ _ _ _ rfl
def fB:SF:=(aS (gU (BM (fZ<|tE<|eU (j' .str)<|eW 0)<|fZ<|tE<|iH oLe oLe (eC<|.int 1) (eU cQ<|eW 0)<|eC<|.int 12) (a7<|eC<|.bl AT) bw)<|a7<|eU jz<|eL<|bS (eJ<|eW 0) 1 [] (aW 0) bZ<|aD jh<|aa (eV 0) aC)
def iY:γ D->Res D:=fn 1 1 fB
theorem hU(x0:D):iY [x0]=bJ (fB [AC (.val x0)]):=cI _ _ _ _ rfl
def du:SF:=(aS (gU (BM (fZ<|tE<|eU (j' .tuple)<|eW 0)<|fZ<|tE<|iH oLe oLe (eC<|.int 1) (eU cQ<|eW 0)<|eC<|.int 6) (a7<|eC<|.bl AT) bw)<|aS (gU (fZ<|tE<|eU jz<|eL<|bS (eJ<|eW 0) 1 [] (aW 0) bZ<|aD iY<|aa (eV 0) aC) (a7<|eC<|.bl AT) bw)<|a7<|eU jz<|eL<|bS (eJ<|eW 0) 1 [0] (aW 0) bZ<|eB oEq (eU cQ<|eW 0)<|eU cQ<|eB aR (eW 1)<|eC<|.int 0)
def hJ:γ D->Res D:=fn 1 1 du
theorem f'(x0:D):hJ [x0]=bJ (du [AC (.val x0)]):=cI _ _ _ _ rfl
end KA
set_option maxRecDepth 8000
namespace KA
open Z
abbrev Rows:=γ<|γ Nat
structure Hall(R L:Nat)(rows:Rows):Prop where
 r1:1<=R
 r2:R<=6
 l1:1<=L
 l2:L<=12
 len:rows.length=R
 each:∀x∈rows,x.length=L
 sg:∀x∈rows,∀c∈x,c∈signs
theorem nG(c:Nat):cS [.str [c]]=.ok (.bl<|decide (97<=c)&&decide (c<=122)):=by
 rw[kS];refine aP ?_;by_cases h1:c<97
 .simp[fC,Hy,line,Nat.not_le.mpr h1]
 .by_cases h2:122<c
  .simp[fC,Hy,line,h2,A85.mp h1]
  .simp[fC,Hy,line,A85.mp h1,A85.mp h2]
theorem Gx(c:Nat):decide (c∈signs)=(c==46||c==61||c==35||(decide (97<=c)&&decide (c<=122))):=by
 by_cases h:c<128
 .exact(by decide:∀c<128,decide _=(c==46||c==61||c==35||(decide _&&decide (c<=122)))) c h
 .have h1:c∉signs:=λ m=>h<|(by decide:∀c∈signs,c<128) c m;have h2:¬c<=122:=by lia
  have h3:c≠46:=by lia
  have h4:c≠61:=by lia
  have h5:c≠35:=by lia
  simp[h1,h2,h3,h4,h5]
theorem Oe(s t:γ Nat):kB (.str s) (.str t)=AC (s==t):=rfl
theorem AZ(c:Nat):jh [.str [c]]=.ok (.bl<|decide<|c∈signs):=by
 rw[Dk,Gx];refine aP ?_;have e:=nG c;by_cases h1:c=46
 .subst h1;simp[iZ,line,yt,gq,Oe]
 .by_cases h2:c=61
  .subst h2;simp[iZ,line,yt,gq,Oe]
  .by_cases h3:c=35
   .subst h3;simp[iZ,line,yt,gq,Oe]
   .simp[iZ,yt,gq,Oe,e,h1,h2,h3];lia
theorem all_map{α:Type}(f:α->Bool)(xs:γ α):allB (xs.map λ x=>D.bl<|f x)=AC (xs.all f):=by
 have:=zk<|xs.map f;rw[A20]at this;rw[show(xs.map λ x=>D.bl _)=xs.map (D.bl∘f)from rfl,this]
 congr 1
 induction xs with
 |nil=>rfl
 |cons x xs ih=>simp
def IF(cs:γ Nat):Bool:=decide (1<=cs.length/\cs.length<=12)&&cs.all λ c=>decide (c∈signs)
theorem IE(cs:γ Nat):Ok (bY (aW 0) bZ (aD jh<|aa (eV 0) aC) [At]<|cs.map λ c=>.str [c]) λ ds=>ds=cs.map λ c=>D.bl (decide<|c∈signs):=
 b8 (λ c=>D.str [c]) (λ _=>Ch) (λ c=>.bl<|decide<|c∈signs) (λ c _=>by simp[AZ]) (by rw[A87.mpr λ _ _=>rfl])
theorem C4(cs:γ Nat)(h:cs.length<=1000):iY [.str cs]=.ok (.bl<|IF cs):=by
 have hl:cs.length<=16777216:=by lia
 rw[hU];refine aP ?_;unfold IF;by_cases h1:1<=cs.length
 .by_cases h2:cs.length<=12
  .have e1:(1)<=(cs.length:Int):=by lia
   have e2:(cs.length:Int)<=12:=by lia
   simp[fB,tyR,hl,h1,h2,e1,e2,bu];refine(IE cs).imp ?_;rintro ds rfl;simp[jz,all_map]
  .have e2:¬(cs.length:Int)<=12:=by lia
   simp[fB,tyR,hl,h1,h2,e2,line]
 .have e1:¬(1)<=(cs.length:Int):=by lia
  simp[fB,tyR,hl,h1,e1,line]
def o9:D->Bool
|.str cs=>IF cs
|_=>AT
def Fit(d:D):Prop:=∀cs,d=.str cs->cs.length<=1000
theorem GK(d:D)(h:Fit d):iY [d]=.ok (.bl<|o9 d):=by
 cases d with
 |str cs=>exact C4 cs<|h cs rfl
 |non=>rw[hU];exact aP (by simp[fB,tyR,o9])
 |bl _=>rw[hU];exact aP (by simp[fB,tyR,o9])
 |int _=>rw[hU];exact aP (by simp[fB,tyR,o9])
 |tup _=>rw[hU];exact aP (by simp[fB,tyR,o9])
 |lst _=>rw[hU];exact aP (by simp[fB,tyR,o9])
 |dct _ _=>rw[hU];exact aP (by simp[fB,tyR,o9])
def CV:D->Nat
|.str cs=>cs.length
|_=>0
def A5(xs:γ D):Bool:=decide (1<=xs.length/\xs.length<=6)&&xs.all o9&&xs.all λ d=>CV d==CV (xs.headD .non)
def rG:D->Bool
|.tup xs=>A5 xs
|_=>AT
theorem C_(xs:γ D)(h:∀d∈xs,Fit d):Ok (bY (aW 0) bZ (aD iY<|aa (eV 0) aC) [At] xs) λ ds=>ds=xs.map λ d=>D.bl (o9 d):=
 comp_map (λ d=>.bl _) (λ d hd=>by simp[GK d<|h d hd]) rfl
theorem ES(h:o9 d=Ch):cQ d=.ok (.int<|CV d):=by
 cases d with
 |str cs=>
  have:cs.length<=16777216:=by simp only[o9,IF,B14]at h;lia
  simp[CV,this]
 |_=>cases h
theorem C?(h:∀d∈xs,o9 d=Ch):Ok (bY (aW 0) bZ (eB oEq (eU cQ<|eW 0)<|eU cQ<|eB aR (eW 1)<|eC<|.int 0) [At,v (.tup xs)] xs) λ ds=>ds=xs.map λ d=>D.bl (CV d==CV (xs.headD .non)):=
 comp_map (λ d=>.bl _) (λ d hd=>by
  cases xs with
  |nil=>cases hd
  | cons x xs=>have e0:aR (.tup<|x::xs) (.int 0)=.ok x:=(iM rfl rfl).1;have e1:=ES<|h d hd;have e2:=ES<|h x A11;simp[e0,e1,e2];exact A53.mpr (by simp;lia)) rfl
theorem C5(d:D)(h:∀xs,d=.tup xs->xs.length<=1000/\∀x∈xs,Fit x):hJ [d]=.ok (.bl<|rG d):=by
 cases d with
 |tup xs=>
  let⟨h1,h2⟩:=h xs rfl;have hl:xs.length<=16777216:=by lia
  rw[f'];refine aP ?_;simp only[rG,A5];by_cases q1:1<=xs.length
  .by_cases q2:xs.length<=6
   .have e1:(1)<=(xs.length:Int):=by lia
    have e2:(xs.length:Int)<=6:=by lia
    have c1:=C_ xs h2;cases q3:xs.all o9 with
    |false=>simp[du,tyR,hl,q1,q2,e1,e2,line,bu,fi];refine c1.imp ?_;rintro ds rfl;simp[jz,all_map,q3]
    |true=>have q4:=A36.mp q3;have c2:=C? q4;simp[du,tyR,hl,q1,q2,e1,e2,line,bu,fi];refine c1.imp ?_;rintro ds rfl;simp[jz,all_map,q3];refine c2.imp ?_;rintro ds rfl;simp[jz,all_map]
   .have e2:¬(xs.length:Int)<=6:=by lia
    simp[du,tyR,hl,q1,q2,e2,line]
  .have e1:¬(1)<=(xs.length:Int):=by lia
   simp[du,tyR,hl,q1,e1,line]
 |str _=>rw[f'];exact aP (by simp[du,tyR,rG])
 |non=>rw[f'];exact aP (by simp[du,tyR,rG])
 |bl _=>rw[f'];exact aP (by simp[du,tyR,rG])
 |int _=>rw[f'];exact aP (by simp[du,tyR,rG])
 |lst _=>rw[f'];exact aP (by simp[du,tyR,rG])
 |dct _ _=>rw[f'];exact aP (by simp[du,tyR,rG])
theorem Hall.b{R L:Nat}(H:Hall R L rows):A5 (rows.map .str)=Ch:=by
 unfold A5;have h1:=H.r1;have h2:=H.r2;have h3:=H.l1;have h4:=H.l2;simp only[A46,B14,A06,H.len,A36];refine⟨⟨⟨h1,h2⟩,λ d hd=>?_⟩,λ d hd=>?_⟩
 .let⟨r,hr,rfl⟩:=A02.mp hd;simp only[o9,IF,A46,B14,A36,H.each r hr];exact⟨⟨h3,h4⟩,H.sg r hr⟩
 .let⟨r,hr,rfl⟩:=A02.mp hd;cases rows with
  |nil=>cases hr
  |cons x xs=>simp[CV,H.each r hr,H.each x _]
end KA
set_option maxRecDepth 4000
namespace KS
open Z KA
def jm:SF:=(a7<|uM (eU (j' .int)<|eW 0)<|Oh<|eU (j' .bool)<|eW 0)
def gi:γ D->Res D:=fn 1 1 jm
theorem Bh(x0:D):gi [x0]=bJ (jm [AC (.val x0)]):=cI _ _ _ _ rfl
def cH:SF:=(a7<|uM (aD gi<|aa (eV 0) aC)<|iH oLe oLe (eW 1) (eW 0)<|eW 2)
def bp:γ D->Res D:=fn 3 3 cH
theorem oh(x0 x1 x2:D):bp [x0,x1,x2]=bJ (cH [AC (.val x0),AC (.val x1),AC (.val x2)]):=cI _ _ _ _ rfl
def km:SF:=(aS (gU (BM (fZ<|tE<|eU (j' .str)<|eW 0)<|fZ<|tE<|iH oLe oLe (eC<|.int 1) (eU cQ<|eW 0)<|eC<|.int 8) (a7<|eC<|.bl AT) bw)<|a7<|eU jz<|eL<|bS (eJ<|eW 0) 1 [] (aW 0) bZ<|aD KA.cS<|aa (eV 0) aC)
def c6:γ D->Res D:=fn 1 1 km
theorem Dl(x0:D):c6 [x0]=bJ (km [AC (.val x0)]):=cI _ _ _ _ rfl
def mR:SF:=(a7<|uM (eU (j' .str)<|eW 0)<|Tv (eB oEq (eW 0)<|eC<|.str [])<|aD KA.cS<|aa (eV 0) aC)
def kR:γ D->Res D:=fn 1 1 mR
theorem Dm(x0:D):kR [x0]=bJ (mR [AC (.val x0)]):=cI _ _ _ _ rfl
def mv:SF:=(a7<|aD bp<|aa (eV 0)<|aa (eV 1)<|aa (eB qB (eB mY (eC<|.int 10)<|eC<|.int 60)<|eC<|.int 1) aC)
def gK:γ D->Res D:=fn 2 2 mv
theorem yW(x0 x1:D):gK [x0,x1]=bJ (mv [AC (.val x0),AC (.val x1)]):=cI _ _ _ _ rfl
def qV:SF:=(aS (gU (BM (fZ<|tE<|eU (j' .tuple)<|eW 0)<|tE<|eB oR (eU cQ<|eW 0)<|eC<|.int 2) (a7<|eC<|.bl AT) bw)<|a7<|uM (aD bp<|aa (eB aR (eW 0)<|eC<|.int 0)<|aa (eC<|.int 0)<|aa (eC<|.int 5) aC)<|aD gK<|aa (eB aR (eW 0)<|eC<|.int 1)<|aa (eC<|.int 1) aC)
def jg:γ D->Res D:=fn 1 1 qV
theorem Dj(x0:D):jg [x0]=bJ (qV [AC (.val x0)]):=cI _ _ _ _ rfl
def lu:SF:=(aS (gU (BM (fZ<|tE<|eU (j' .tuple)<|eW 0)<|fZ<|tE<|eU jz<|eL<|bS (eJ<|eW 0) 1 [] (aW 0) bZ<|aD jg<|aa (eV 0) aC) (a7<|eC<|.bl AT) bw)<|a7<|eU jz<|eL<|bS (fT<|eB qB (eU cQ<|eW 0)<|eC<|.int 1) 1 [0] (aW 0) bZ<|eB oLt (eB aR (eB aR (eW 1)<|eW 0)<|eC<|.int 0)<|eB aR (eB aR (eW 1)<|eB bK (eW 0)<|eC<|.int 1)<|eC<|.int 0)
def ij:γ D->Res D:=fn 1 1 lu
theorem v!(x0:D):ij [x0]=bJ (lu [AC (.val x0)]):=cI _ _ _ _ rfl
def h!:SF:=(aS (gU (fZ<|tE<|aD bp<|aa (eB aR (eW 0)<|eC<|.int 1)<|aa (eC<|.int 1)<|aa (eC<|.int 12) aC) (a7<|eC<|.bl AT) bw)<|aS (gU (fZ<|tE<|aD bp<|aa (eB aR (eW 0)<|eC<|.int 2)<|aa (eC<|.int 1)<|aa (eC<|.int 3) aC) (a7<|eC<|.bl AT) bw)<|aS (gU (fZ<|tE<|aD bp<|aa (eB aR (eW 0)<|eC<|.int 4)<|aa (eC<|.int 0)<|aa (eB fP (eB aR (eW 0)<|eC<|.int 1)<|eB aR (eW 0)<|eC<|.int 2) aC) (a7<|eC<|.bl AT) bw)<|a7<|uM (aD kR<|aa (eB aR (eW 0)<|eC<|.int 3) aC)<|aD bp<|aa (eB aR (eW 0)<|eC<|.int 5)<|aa (eC<|.int 0)<|aa (eC<|.int 6) aC)
def fg:γ D->Res D:=fn 1 1 h!
theorem pR(x0:D):fg [x0]=bJ (h! [AC (.val x0)]):=cI _ _ _ _ rfl
def oK:SF:=(aS (gU (BM (fZ<|tE<|eU (j' .tuple)<|eW 0)<|tE<|eB oR (eU cQ<|eW 0)<|eC<|.int 8) (a7<|eC<|.bl AT) bw)<|aS (gU (BM (fZ<|tE<|aD c6<|aa (eB aR (eW 0)<|eC<|.int 0) aC)<|fZ<|tE<|aD fg<|aa (eV 0) aC) (a7<|eC<|.bl AT) bw)<|a7<|uM (aD gK<|aa (eB aR (eW 0)<|eC<|.int 6)<|aa (eC<|.int 0) aC)<|aD ij<|aa (eB aR (eW 0)<|eC<|.int 7) aC)
def cU:γ D->Res D:=fn 1 1 oK
theorem Bi(x0:D):cU [x0]=bJ (oK [AC (.val x0)]):=cI _ _ _ _ rfl
end KS
set_option maxRecDepth 8000
namespace KS
open Z KA
set_option genInjectivity false in
structure Gp where
 nm:List Nat
 w:Nat
 d:Nat
 kd:List Nat
 wi:Nat
 ga:Nat
 wo:Nat
 ws:List (Nat×Nat)
def jV(p:Nat×Nat):D:=.tup [.int p.1,.int p.2]
def fh(g:Gp):D:=.tup [.str g.nm,.int g.w,.int g.d,.str g.kd,.int g.wi,.int g.ga,.int g.wo,.tup (g.ws.map jV)]
structure DY(g:Gp):Prop where
 n1:1<=g.nm.length
 n2:g.nm.length<=8
 nl:∀c∈g.nm,c∈aX
 w1:1<=g.w
 w2:g.w<=12
 d1:1<=g.d
 d2:g.d<=3
 kd:g.kd=[]\/∃c∈aX,g.kd=[c]
 wi:g.wi<=g.w*g.d
 ga:g.ga<=6
 wo:g.wo<10^60
 wl:g.ws.length<=6
 wr:∀p∈g.ws,p.1<=5/\1<=p.2/\p.2<10^60
 up:(g.ws.map (·.1)).Pairwise (· < ·)
theorem Cn(h:Ok (a ρ) λ fl=>fl=.nx ρ1)(k:Ok (b ρ1) Q):Ok (aS a b ρ) Q:=by let⟨fl,e,rfl⟩:=h;rw[Qn,e,Res.mH];exact k
theorem ex0:aR (fh g) (.int 0)=.ok (.str g.nm):=rfl
theorem ex1:aR (fh g) (.int 1)=.ok (.int g.w):=rfl
theorem ex2:aR (fh g) (.int 2)=.ok (.int g.d):=rfl
theorem ex3:aR (fh g) (.int 3)=.ok (.str g.kd):=rfl
theorem ex4:aR (fh g) (.int 4)=.ok (.int g.wi):=rfl
theorem ex5:aR (fh g) (.int 5)=.ok (.int g.ga):=rfl
theorem ex6:aR (fh g) (.int 6)=.ok (.int g.wo):=rfl
theorem ex7:aR (fh g) (.int 7)=.ok (.tup<|g.ws.map jV):=rfl
theorem Vn{n:Nat}(h:n<10^60):(n:Int)<=10^60-1:=by
 have h2:(n:Int)<10^60:=by exact_mod_cast h
 exact Int.le_sub_one_of_lt h2
theorem wA(n:Int):gi [.int n]=.ok (.bl Ch):=by rw[Bh];exact aP (by simp[jm,tyR])
theorem within_int(n a b:Int):bp [.int n,.int a,.int b]=.ok (.bl<|decide<|a<=n/\n<=b):=by
 rw[oh];refine aP ?_;by_cases h1:a<=n
 .simp[cH,wA,h1]
 .simp[cH,wA,h1]
theorem u_(n a:Int):gK [.int n,.int a]=.ok (.bl<|decide<|a<=n/\n<=10^60-1):=by rw[yW];refine aP ?_;simp[mv,within_int]
theorem Nm(c:Nat):decide (c∈aX)=(decide (97<=c)&&decide (c<=122)):=by
 by_cases h:c<128
 .exact(by decide:∀c<128,decide _=(decide _&&decide (c<=122))) c h
 .have h1:c∉aX:=λ m=>h<|(by decide:∀c∈aX,c<128) c m;have h2:¬c<=122:=by lia
  simp[h1,h2]
theorem uo(c:Nat):cS [.str [c]]=.ok (.bl<|decide<|c∈aX):=by rw[nG,Nm]
theorem Gv(cs:γ Nat):Ok (bY (aW 0) bZ (aD KA.cS<|aa (eV 0) aC) [At]<|cs.map λ c=>.str [c]) λ ds=>ds=cs.map λ c=>D.bl (decide<|c∈aX):=
 b8 (λ c=>D.str [c]) (λ _=>Ch) (λ c=>.bl<|decide<|c∈aX) (λ c _=>by simp[uo]) (by rw[A87.mpr λ _ _=>rfl])
def wW(cs:γ Nat):Bool:=decide (1<=cs.length/\cs.length<=8)&&cs.all λ c=>decide (c∈aX)
theorem EG(cs:γ Nat)(h:cs.length<=16777216):c6 [.str cs]=.ok (.bl<|wW cs):=by
 rw[Dl];refine aP ?_;unfold wW;by_cases h1:1<=cs.length
 .by_cases h2:cs.length<=8
  .have e1:(1)<=(cs.length:Int):=by lia
   have e2:(cs.length:Int)<=8:=by lia
   simp[km,tyR,h,h1,h2,e1,e2,bu,fi];refine(Gv cs).imp ?_;rintro ds rfl;simp[jz,all_map]
  .have e2:¬(cs.length:Int)<=8:=by lia
   simp[km,tyR,h,h1,h2,e2,line]
 .have e1:¬(1)<=(cs.length:Int):=by lia
  simp[km,tyR,h,h1,e1,line]
def kindB(cs:γ Nat):Bool:=cs==[]||(decide (cs.length=1)&&cs.all λ c=>decide (c∈aX))
theorem GD(cs:γ Nat)(h:cs.length<=16777216):cS [.str cs]=.ok (.bl<|decide (cs.length=1)&&cs.all λ c=>decide (c∈aX)):=by
 cases cs with
 |nil=>rw[kS];exact aP (by simp[fC])
 |cons c r=>
  cases r with
  |nil=>rw[uo];simp
  |cons c' r=>
   rw[kS];refine aP ?_;have e:¬((r.length:Int)+1+1=1):=by lia
   have h':r.length+1+1<=16777216:=by simpa using h
   simp[fC,h',e]
theorem Nz(cs:γ Nat)(h:cs.length<=16777216):kR [.str cs]=.ok (.bl<|kindB cs):=by
 have hl:=GD cs h;rw[Dm];refine aP ?_;unfold kindB;have en:oEq (.str cs) (.str [])=.ok (.bl<|decide<|cs=[]):=by cases cs<;>rfl
 by_cases h0:cs=[]
 .subst h0;have en':oEq (.str []) (.str [])=.ok _:=rfl;simp[mR,tyR]
 .have hb:(cs==[])=AT:=by simpa using h0
  simp[mR,tyR,hl,hb]
section
variable{g:Gp}
theorem L5(h:p.1<=5/\1<=p.2/\p.2<10^60):jg [jV p]=.ok (.bl Ch):=by have i0:aR (jV p) (.int 0)=.ok _:=rfl;have i1:aR (jV p) (.int 1)=.ok _:=rfl;have w1:=within_int p.1 0 5;have w2:=u_ p.2 1;have q1:decide ((0)<=(p.1:Int)/\(p.1:Int)<=5)=Ch:=A47 ∅;have q2:decide ((1)<=(p.2:Int)/\(p.2:Int)<=10^60-1)=Ch:=A47 ⟨by lia,Vn h.2.2⟩;rw[q1]at w1;rw[q2]at w2;rw[Dj];refine aP ?_;have ty:eI .tuple (jV p)=Ch:=rfl;have ln:cQ (jV p)=.ok _:=rfl;simp[qV,ty,ln,i0,i1,w1,w2]
theorem FI(hw:∀p∈g.ws,p.1<=5/\1<=p.2/\p.2<10^60):Ok (bY (aW 0) bZ (aD jg<|aa (eV 0) aC) [At]<|g.ws.map jV) λ ds=>ds=g.ws.map λ _=>D.bl Ch:=
 b8 jV (λ _=>Ch) (λ _=>.bl Ch) (λ p hp=>by simp[L5<|hw p hp]) (by rw[A87.mpr λ _ _=>rfl])
theorem F9(hu:(g.ws.map (·.1)).Pairwise (· < ·)):Ok (bY (aW 0) bZ (eB oLt (eB aR (eB aR (eW 1)<|eW 0)<|eC<|.int 0)<|eB aR (eB aR (eW 1)<|eB bK (eW 0)<|eC<|.int 1)<|eC<|.int 0) [At,v (.tup<|g.ws.map jV)]<|(Ev<|g.ws.length-1).map λ n=>D.int (n:Nat)) λ ds=>ds=(Ev<|g.ws.length-1).map λ _=>D.bl Ch:=
 b8 (λ n=>D.int (n:Nat)) (λ _=>Ch) (λ _=>.bl Ch) (λ n hn=>by
  have J?:=A26.mp hn;have l1:n<g.ws.length:=by lia
  have l2:n+1<g.ws.length:=by lia
  have i1:aR (.tup<|g.ws.map jV) (.int<|n)=.ok (jV g.ws[n]):=(iM rfl (by rw[A08,A03];rfl)).1;have i2:aR (.tup<|g.ws.map jV) (.int<|(n)+1)=.ok (jV g.ws[n+1]):=(iM (j:=n+1) ∅ (by rw[A08,A03 l2];rfl)).1;have j1:∀p,aR (jV p) (.int 0)=.ok (.int p.1):=λ p=>rfl;have lt:g.ws[n].1<g.ws[n+1].1:=by have:=C32.mp hu n (n+1) (by simp;lia) (by simp;lia) ∅;simpa using this
  have lt':((g.ws[n].1))<(g.ws[n+1].1):=by lia
  simp[i1,i2,j1,lt']) (by rw[A87.mpr λ _ _=>rfl])
theorem all_true{α:Type}(xs:γ α):jz (.lst<|xs.map λ _=>D.bl Ch)=.ok (.bl Ch):=by have:=all_map (λ _=>Ch) xs;simp only[jz,this];simp
theorem B0(k:DY g):ij [.tup (g.ws.map jV)]=.ok (.bl Ch):=by
 have hl:g.ws.length<=16777216:=by have:=k.wl;lia
 have e1:«zints» 0 (g.ws.length-1)=(Ev<|g.ws.length-1).map λ n=>D.int (n:Nat):=by exact B08 λ n _=>by simp
 rw[v!];refine aP ?_;simp[lu,tyR,hl,bu];refine(FI k.wr).imp ?_;rintro ds rfl;rw[all_true];simp[hl];rw[e1];refine⟨by lia,(F9 k.up).imp ?_⟩;rintro ds rfl;rw[all_true];simp
theorem OM(k:DY g):fg [fh g]=.ok (.bl Ch):=by
 have w1:=within_int g.w 1 12;have w2:=within_int g.d 1 3;have w3:=within_int g.wi 0<|(g.w)*(g.d);have w4:=within_int g.ga 0 6;rw[A47<|⟨by have:=k.w1;lia,by have:=k.w2;lia⟩]at w1;rw[A47<|⟨by have:=k.d1;lia,by have:=k.d2;lia⟩]at w2;rw[A47<|⟨by lia,by have:=k.wi;exact_mod_cast this⟩]at w3;rw[A47<|⟨by lia,by have:=k.ga;lia⟩]at w4;have wk:=Nz g.kd (by rcases k.kd with h|⟨c,_,h⟩<;>rw[h]<;>simp);have wk':kindB g.kd=Ch:=by
  rcases k.kd with h|⟨c,hc,h⟩<;>rw[h]
  .rfl
  .simp[kindB,hc]
 rw[wk']at wk;have m:bW (g.w) (g.d):=dZ ∅ (by have:=k.w2;lia);rw[pR];refine aP ?_;simp[h!,ex1,ex2,ex3,ex4,ex5,w1,w2,w3,w4,wk,m]
theorem Kh(k:DY g):cU [fh g]=.ok (.bl Ch):=by
 have hn:=EG g.nm (by have:=k.n2;lia);have J?:wW g.nm=Ch:=by unfold wW;rw[A47 ⟨k.n1,k.n2⟩,C07,A36];exact λ c hc=>A47<|k.nl c hc
 rw[J?]at hn;have ha:=OM k;have hw:=B0 k;have ho:=u_ g.wo 0;rw[A47<|⟨by lia,Vn k.wo⟩]at ho;have ty:eI .tuple (fh g)=Ch:=rfl;have ln:cQ (fh g)=.ok _:=rfl;rw[Bi];refine aP ?_;simp[oK,ty,ln,ex0,ex6,ex7,hn,ha,ho,hw]
end
def Ht(nm:γ Nat):Prop:=1<=nm.length/\nm.length<=8/\∀c∈nm,c∈aX
structure BG(n:Nat)(ws:List (Nat×Nat)):Prop where
 l:ws.length<=n
 r:∀p∈ws,p.1<n/\1<=p.2/\p.2<10^60
 up:(ws.map (·.1)).Pairwise (· < ·)
theorem BG.next(h:BG n ws):BG (n+1) ws:=⟨by have:=h.l;lia,λ p hp=>by let⟨a,b⟩:=h.r p hp;exact⟨by lia,b⟩,h.up⟩
theorem BG.snoc(h:BG n ws)(h1:1<=a)(h2:a<10^60):BG (n+1) (ws++[(n,a)]):=by
 refine⟨by have:=h.l;simp;lia,λ p hp=>?_,?_⟩
 .rcases A37.mp hp with hp|hp
  .let⟨a,b⟩:=h.r p hp;exact⟨by lia,b⟩
  .rw[A19.mp hp];exact⟨by lia,h1,h2⟩
 .rw[A39,C33];refine⟨h.up,by simp,λ x hx y hy=>?_⟩;let⟨p,hp,rfl⟩:=A02.mp hx;simp at hy;rw[hy];exact(h.r p hp).1
end KS
set_option maxRecDepth 4000
namespace KG
open Z
def sX:SF:=(a7<|Tv (eB yt (eW 0)<|eE<|aa (eC<|.str [46])<|aa (eC<|.str [61]) aC)<|eB oEq (eW 0)<|eW 1)
def pL:γ D->Res D:=fn 2 2 sX
theorem Ks(x0 x1:D):pL [x0,x1]=bJ (sX [AC (.val x0),AC (.val x1)]):=cI _ _ _ _ rfl
def oF:SF:=(aS (nS 2<|b? aC)<|aS (i9 (A0 (eB aR (eW 1)<|eC<|.int 0)<|eB bK (eB aR (eW 1)<|eC<|.int 0)<|eB aR (eW 0)<|eC<|.int 2) (aW 3)<|F7 2<|bS (A0 (eB aR (eW 1)<|eC<|.int 1)<|eB bK (eB aR (eW 1)<|eC<|.int 1)<|eB aR (eW 0)<|eC<|.int 1) 1 [3] (aW 0) bZ<|eE<|aa (eV 1)<|aa (eV 0) aC)<|a7<|eU f7<|eW 2)
def jK:γ D->Res D:=fn 2 4 oF
theorem Bb(x0 x1:D):jK [x0,x1]=bJ (oF [AC (.val x0),AC (.val x1),At,At]):=cI _ _ _ _ rfl
def iw:SF:=(aS (gU (tE<|eB oLt (eW 1)<|eU cQ<|eW 0) (a7<|eB aR (eW 0)<|eW 1) bw)<|a7<|eC<|.int 0)
def bV:γ D->Res D:=fn 2 2 iw
theorem md(x0 x1:D):bV [x0,x1]=bJ (iw [AC (.val x0),AC (.val x1)]):=cI _ _ _ _ rfl
def h9:SF:=(aS (bc 2<|eB aR (eW 1)<|eC<|.int 0)<|aS (bc 3<|eB aR (eW 1)<|eC<|.int 1)<|aS (gU (vw (tE<|iH oLe oLt (eC<|.int 0) (eW 2)<|eU cQ<|eW 0)<|tE<|iH oLe oLt (eC<|.int 0) (eW 3)<|eU cQ<|eB aR (eW 0)<|eC<|.int 0) (a7<|eB aR (eB aR (eW 0)<|eW 2)<|eW 3) bw)<|a7<|eC .non)
def kP:γ D->Res D:=fn 2 4 h9
theorem Dh(x0 x1:D):kP [x0,x1]=bJ (h9 [AC (.val x0),AC (.val x1),At,At]):=cI _ _ _ _ rfl
def DN:SF:=(aS (bc 3<|eL<|bS (eJ<|aD jK<|aa (eV 1)<|aa (eV 2) aC) 1 [0] (aW 0) bZ<|aD kP<|aa (eV 1)<|aa (eV 0) aC)<|aS (gU (fZ<|tE<|eU jz<|eL<|bS (eJ<|eW 3) 1 [1] (aW 0) bZ<|aD pL<|aa (eV 0)<|aa (eB aR (eW 1)<|eC<|.int 3) aC) (a7<|eC<|.bl AT) bw)<|a7<|eB S? (eB yv (eW 3)<|eC<|.str [61])<|eB aR (eW 1)<|eC<|.int 4)
def pM:γ D->Res D:=fn 3 4 DN
theorem N_(x0 x1 x2:D):pM [x0,x1,x2]=bJ (DN [AC (.val x0),AC (.val x1),AC (.val x2),At]):=cI _ _ _ _ rfl
def mn:SF:=(aS (nS 2<|b? aC)<|aS (i9 (fT<|eU cQ<|eW 0) (aW 3)<|F7 2<|bS (fT<|eU cQ<|eB aR (eW 0)<|eW 3) 1 [0,1,3] (aW 0) (tE<|aD pM<|aa (eV 1)<|aa (eV 2)<|aa (eE<|aa (eV 3)<|aa (eV 0) aC) aC)<|eE<|aa (eV 3)<|aa (eV 0) aC)<|a7<|eU f7<|eW 2)
def fH:γ D->Res D:=fn 2 4 mn
theorem yS(x0 x1:D):fH [x0,x1]=bJ (mn [AC (.val x0),AC (.val x1),At,At]):=cI _ _ _ _ rfl
def mS:SF:=(aS (gU (BM (tE<|eB oLe (eB bK (eB aR (eW 1)<|eC<|.int 0)<|eB aR (eW 0)<|eC<|.int 2)<|eB aR (eW 3)<|eC<|.int 0)<|tE<|eB oLe (eB bK (eB aR (eW 3)<|eC<|.int 0)<|eB aR (eW 2)<|eC<|.int 2)<|eB aR (eW 1)<|eC<|.int 0) (a7<|eC<|.bl Ch) bw)<|aS (bc 4<|eB M4 (eB aR (eW 0)<|eC<|.int 5)<|eB aR (eW 2)<|eC<|.int 5)<|a7<|Tv (eB oLe (eB bK (eB bK (eB aR (eW 1)<|eC<|.int 1)<|eB aR (eW 0)<|eC<|.int 1)<|eW 4)<|eB aR (eW 3)<|eC<|.int 1)<|eB oLe (eB bK (eB bK (eB aR (eW 3)<|eC<|.int 1)<|eB aR (eW 2)<|eC<|.int 1)<|eW 4)<|eB aR (eW 1)<|eC<|.int 1)
def pO:γ D->Res D:=fn 4 5 mS
theorem Ku(x0 x1 x2 x3:D):pO [x0,x1,x2,x3]=bJ (mS [AC (.val x0),AC (.val x1),AC (.val x2),AC (.val x3),At]):=cI _ _ _ _ rfl
def hZ:SF:=(a7<|eL<|bS (J7 (eV 0)<|eV 1) 2 [] (iA [0,1]) (tE<|eU lY<|eW 1)<|eE<|aa (eV 0)<|aa (eV 1) aC)
def cb:γ D->Res D:=fn 2 2 hZ
theorem pQ(x0 x1:D):cb [x0,x1]=bJ (hZ [AC (.val x0),AC (.val x1)]):=cI _ _ _ _ rfl
def h_:SF:=(a7<|eU jz<|eL<|bS (eJ<|eW 2) 2 [0,1] (iA [0,1]) bZ<|aD pO<|aa (eV 2)<|aa (eV 3)<|aa (eV 0)<|aa (eV 1) aC)
def dM:γ D->Res D:=fn 3 3 h_
theorem pS(x0 x1 x2:D):dM [x0,x1,x2]=bJ (h_ [AC (.val x0),AC (.val x1),AC (.val x2)]):=cI _ _ _ _ rfl
def zg:SF:=(aS (bc 3<|aD cb<|aa (eV 1)<|aa (eV 2) aC)<|aS (gU (fZ<|tE<|eU jz<|eL<|bS (eJ<|eW 3) 2 [0] (iA [0,1]) bZ<|aD pM<|aa (eV 2)<|aa (eV 0)<|aa (eV 1) aC) (a7<|eC<|.bl AT) bw)<|a7<|eU jz<|eL<|bS (fT<|eU cQ<|eW 3) 1 [3] (aW 0) bZ<|aD dM<|aa (eB aR (eB aR (eW 1)<|eW 0)<|eC<|.int 0)<|aa (eB aR (eB aR (eW 1)<|eW 0)<|eC<|.int 1)<|aa (eL<|Nu (eW 1) MN<|r8<|eW 0) aC)
def ma:γ D->Res D:=fn 3 4 zg
theorem Kt(x0 x1 x2:D):ma [x0,x1,x2]=bJ (zg [AC (.val x0),AC (.val x1),AC (.val x2),At]):=cI _ _ _ _ rfl
abbrev Rows:=γ<|γ Nat
abbrev Pl:=Int×Int
structure Hall(rows:Rows)(C:Nat):Prop where
 r1:1<=rows.length
 r2:rows.length<=100
 c1:1<=C
 c2:C<=100
 len:∀x∈rows,x.length=C
set_option genInjectivity false in
structure G where
 name:List Nat
 w:Nat
 d:Nat
 kind:List Nat
 wide:Nat
 gap:Nat
 worth:D
 qh:D
structure GOk(g:G):Prop where
 w1:1<=g.w
 w2:g.w<=13
 d1:1<=g.d
 d2:g.d<=4
 kd:g.kind.length<=1
 wd:g.wide<=100
 gp:g.gap<=100
def bg(rows:Rows):D:=.tup<|rows.map .str
def bh(p:Pl):D:=.tup [.int p.1,.int p.2]
def a6(g:G):D:=.tup [.str g.name,.int g.w,.int g.d,.str g.kind,.int g.wide,.int g.gap,g.worth,g.qh]
def fh:ε Nat->D
|some c=>.str [c]
|none=>.non
@[simp] theorem abD(p:Pl):aR (bh p) (.int 0)=.ok (.int p.1):=rfl
@[simp] theorem abC(p:Pl):aR (bh p) (.int 1)=.ok (.int p.2):=rfl
@[simp] theorem acA(g:G):aR (a6 g) (.int 0)=.ok (.str g.name):=rfl
@[simp] theorem acz(g:G):aR (a6 g) (.int 1)=.ok (.int g.w):=rfl
@[simp] theorem acy(g:G):aR (a6 g) (.int 2)=.ok (.int g.d):=rfl
@[simp] theorem acx(g:G):aR (a6 g) (.int 3)=.ok (.str g.kind):=rfl
@[simp] theorem acw(g:G):aR (a6 g) (.int 4)=.ok (.int g.wide):=rfl
@[simp] theorem acv(g:G):aR (a6 g) (.int 5)=.ok (.int g.gap):=rfl
@[simp] theorem acu(g:G):aR (a6 g) (.int 6)=.ok g.worth:=rfl
@[simp] theorem acs(g:G):aR (a6 g) (.int 7)=.ok g.qh:=rfl
@[simp] theorem acg(rows:Rows):cQ (bg rows)=.ok (.int rows.length):=by simp[bg]
@[simp] theorem abj(a b:Int):D.tup [.int a,.int b]=bh (a,b):=rfl
theorem eX(ρ:Env)(is:γ Nat):fi ρ is=is.map (nL ρ):=rfl
def Bz:ε (ε L)->ε L
|some<|some<|.val d=>AC<|.val d
|some<|some<|.bor d=>AC<|.bor d
|some<|some<|.G3 ks=>AC<|.G3 ks
|_=>At
theorem dN(ρ:Env)(i:Nat):nL ρ i=Bz ρ[i]?:=by
 unfold nL Bz;cases ρ[i]? with
 |none=>rfl
 |some o=>cases o with
  |none=>rfl
  |some l=>cases l<;>rfl
@[simp] theorem TB(d:D):Bz (AC<|some<|.bor d)=AC (.bor d):=rfl
@[simp] theorem Tz(ks:γ _):Bz (AC<|some<|.G3 ks)=AC (.G3 ks):=rfl
@[simp] theorem Tx(d:D):Bz (AC<|some<|.val d)=AC (.val d):=rfl
theorem Hall.row(H:Hall rows C)(h:r<rows.length):∃row,rows[r]?=AC row/\row.length=C/\aR (bg rows) (.int r)=.ok (.str row):=by refine⟨rows[r],A03 h,H.len _<|B27 h,(iM rfl ?_).1⟩;rw[A08,A03];rfl
theorem Hall.My(H:Hall rows C):∃row,row.length=C/\aR (bg rows) (.int 0)=.ok (.str row):=by let⟨row,_,h1,h2⟩:=H.row H.r1;exact⟨row,h1,h2⟩
def b_(rows:Rows)(p:Pl):ε Nat:=if 0<=p.1/\0<=p.2 then(rows[p.1.toNat]?).bind (λ r=>r[p.2.toNat]?)else At
theorem Mp(H:Hall rows C){p:Pl}(h1:0<=p.1)(h2:p.1<rows.length)(h3:0<=p.2)(h4:p.2<C):∃row c,aR (bg rows) (.int p.1)=.ok (.str row)/\row.length=C/\aR (.str row) (.int p.2)=.ok (.str [c])/\b_ rows p=AC c:=by
 let⟨row,e1,hl,e2⟩:=H.row (r:=p.1.toNat) ∅;rw[Int.toNat_of_nonneg h1]at e2;have hc:p.2.toNat<row.length:=by lia
 have Ka:=H.c2;refine⟨row,row[p.2.toNat],e2,hl,pF ∅ (A03 hc) (by simp only[line];lia),?_⟩;simp[b_,h1,h3,e1]
theorem t5(H:Hall rows C){p:Pl}(h:¬(0<=p.1/\p.1<rows.length/\0<=p.2/\p.2<C)):b_ rows p=At:=by
 unfold b_;by_cases h0:0<=p.1/\0<=p.2
 .rw[M2 h0];cases e:rows[p.1.toNat]? with
  |none=>rfl
  |some row=>let⟨h1,h2⟩:=A07.mp e;have:=H.len row<|A18 e;simp only[C19];exact B56 ∅
 .rw[W1 h0]
theorem Mo(H:Hall rows C)(p:Pl):kP [bg rows,bh p]=.ok (fh<|b_ rows p):=by
 rw[Dh];refine aP ?_;let⟨My,NW,e0⟩:=H.My;have yN:=H.c2;have NU:C<=line:=by simp only[line];lia
 by_cases h:0<=p.1/\p.1<rows.length/\0<=p.2/\p.2<C
 .let⟨row,c,e1,_,e2,e3⟩:=Mp H h.1 h.2.1 h.2.2.1 h.2.2.2;simp[h9,e0,NW,NU,h.1,h.2.1,h.2.2.1,h.2.2.2,e1,e2,e3,fh]
 .rw [t5 H h];by_cases a1:0<=p.1
  .by_cases a2:p.1<rows.length
   .by_cases a3:0<=p.2
    .have a4:¬p.2<C:=λ z=>h ⟨a1,a2,a3,z⟩;simp[h9,e0,NW,NU,a1,a2,a3,a4,fh]
    .simp[h9,e0,NW,NU,a1,a2,a3,fh]
   .simp[h9,e0,NW,NU,a1,a2,fh]
  .simp[h9,e0,NW,NU,a1,fh]
def cq(kind:γ Nat):ε Nat->Bool
|some c=>decide<|c=46\/c=61\/kind=[c]
|none=>AT
theorem Sd(c:γ Nat):kB (.str c) .non=AC AT:=rfl
theorem KD(c:γ Nat):kB .non (.str c)=AC AT:=rfl
theorem Kz(a b:γ Nat):kB (.str a) (.str b)=AC (a==b):=rfl
theorem in2(c:Nat):yt (.str [c]) (.tup [.str [46],.str [61]])=.ok (.bl<|decide<|c=46\/c=61):=by
 simp only[yt,gq,Kz];by_cases h1:c=46
 .subst h1;rfl
 .by_cases h2:c=61
  .subst h2;rfl
  .have h1':¬46=c:=λ h=>h1 h.symm;have R5:¬61=c:=λ h=>h2 h.symm;simp[h1,h2,h1',R5]
theorem Ib(s:ε Nat)(k:γ Nat):pL [fh s,.str k]=.ok (.bl<|cq k s):=by
 rw[Ks];refine aP ?_;cases s with
 |none=>simp[sX,fh,cq,line,yt,gq,KD,Sd,oEq]
 |some c=>
  simp[sX,fh,cq,line,in2];by_cases h1:c=46
  .simp[h1]
  .by_cases h2:c=61
   .simp[h2]
   .by_cases h3:k=[c]
    .subst h3;simp[h1,h2]
    .have Wb:¬[c]=k:=λ h=>h3 h.symm;simp[h1,h2,h3,Wb]
def gC(w:Nat)(r c:Int):γ Pl:=(Ev w).map λ j=>(r,c+(j:Nat))
def iE(w:Nat)(p:Pl)(n:Nat):γ Pl:=(Ev n).flatMap λ i=>gC w (p.1+(i:Nat)) p.2
def seats(g:G)(p:Pl):γ Pl:=iE g.w p g.d
theorem lT(w:Nat)(p:Pl)(n:Nat):iE w p (n+1)=iE w p n++gC w (p.1+(n)) p.2:=by simp[iE,A82]
theorem yc(w:Nat)(r c:Int):(gC w r c).length=w:=by simp[gC]
theorem nR(w:Nat)(p:Pl)(n:Nat):(iE w p n).length=n*w:=by
 induction n with
 |zero=>simp[iE]
 |succ n ih=>rw[lT,A30,ih,yc,B26]
theorem ints_map(lo:Int)(n:Nat):zints lo n=(Ev n).map λ i=>D.int (lo+(i:Nat)):=rfl
theorem ints_get(h:(zints lo n)[j]?=AC d):j<n/\d=.int (lo+(j)):=by
 rw[ints_map,A08]at h;cases q:(Ev n)[j]? with
 |none=>rw[q]at h;cases h
 |some i=>rw[q]at h;let⟨h1,h2⟩:=A07.mp q;rw[B28]at h1;rw[C05]at h2;subst h2;simp at h;exact⟨h1,h.symm⟩
theorem toNat_sub(a:Int)(n:Nat):(a+(n)-a).toNat=n:=by lia
theorem IA(k:GOk g)(p:Pl):jK [a6 g,bh p]=.ok (.tup<|(seats g p).map bh):=by
 rw[Bb];refine aP ?_;have hw:=k.w2;have hd:=k.d2;simp[oF,toNat_sub];refine f9 (λ i ρ=>∃x,ρ=[v _,v _,ow ((iE g.w p i).map bh),x]) ⟨At,rfl⟩ ?_ ?_
 .rintro j d ρ hj ⟨x,rfl⟩;let⟨hj,rfl⟩:=ints_get hj;simp[bu,toNat_sub,eX,dN];refine⟨by lia,comp_map (λ d=>.tup [.int (p.1+(j)),d]) ?_ ?_⟩
  .rintro d hd;let⟨i,hi⟩:=B18 hd;let⟨_,rfl⟩:=ints_get hi;simp[line]
  .refine⟨?_,?_⟩
   .rw[A06,nR,gG];have:j*g.w<=4*13:=A65 ∅ hw;lia
   .simp[lT,gC,ints_map]
 .rintro ρ ⟨x,rfl⟩;simp[seats]
def wx(rows:Rows)(s:Pl):Bool:=b_ rows s==AC 61
def cO(rows:Rows)(g:G)(p:Pl):Bool:=(seats g p).all (λ s=>cq g.kind<|b_ rows s)&&decide (g.wide<=(seats g p).countP (wx rows))
theorem Bw(rows:Rows):∀(ss:γ Pl),uX (.str [61]) (ss.map λ s=>fh<|b_ rows s)=AC (ss.countP<|wx rows)
|[]=>rfl
|s::ss=>by
 rw[f8,uX,Bw,B35];cases e:b_ rows s with
 |none=>simp[fh,wx,e,KD]
 |some c=>simp[fh,wx,e,Kz]
theorem all_map{α:Type}(f:α->Bool)(xs:γ α):allB (xs.map λ x=>D.bl<|f x)=AC (xs.all f):=by
 have:=zk<|xs.map f;rw[A20]at this;rw[show(xs.map λ x=>D.bl _)=xs.map (D.bl∘f)from rfl,this]
 congr 1
 induction xs with
 |nil=>rfl
 |cons x xs ih=>simp
theorem E_(H:Hall rows C)(k:GOk g)(p:Pl):pM [bg rows,a6 g,bh p]=.ok (.bl<|cO rows g p):=by
 rw[N_];refine aP ?_;have ψ:(seats g p).length<=16777216:=by rw[seats,nR];have:=A65 k.d2 k.w2;lia
 simp[DN,bu,IA k,line,eX,dN,ψ];refine comp_map (λ d=>match d with|.tup [.int a,.int b]=>fh<|b_ rows (a,b)|_=>.non) ?_ ?_
 .intro d hd;let⟨q,_,rfl⟩:=A02.mp hd;simp[Mo H];rfl
 .have e1:(List.map bh<|seats g p).map (λ d=>match d with|.tup [.int a,.int b]=>fh<|b_ rows (a,b)|_=>.non)=(seats g p).map λ s=>fh (b_ rows s):=by rw[A20];rfl
  rw[e1];simp[bu,line,ψ,eX,dN];refine comp_map (λ d=>match d with|.str [c]=>.bl<|cq g.kind<|some c|_=>.bl AT) ?_ ?_
  .intro d hd;let⟨q,_,rfl⟩:=A02.mp hd;simp[Ib];cases b_ rows q<;>rfl
  .have e2:((seats g p).map λ s=>fh<|b_ rows s).map (λ d=>match d with|.str [c]=>D.bl<|cq g.kind<|some c|_=>D.bl AT)=(seats g p).map λ s=>D.bl (cq g.kind<|b_ rows s):=by rw[A20];apply B08;intro s _;show(match fh (b_ rows s)with|.str [c]=>D.bl<|cq g.kind<|some c|_=>D.bl AT)=_;cases b_ rows s<;>rfl
   rw[e2];simp only[jz,all_map,W0];cases ha:(seats g p).all λ s=>cq g.kind (b_ rows s)with
   |false=>simp[cO,ha]
   |true=>simp[cO,ha,yv,Bw]
def XH(rows:Rows)(g:G)(s:Pl):Bool:=cq g.kind<|b_ rows s
theorem all_false{α:Type}{f:α->Bool}{xs:γ α}{x:α}(h:x∈xs)(e:f x=AT):xs.all f=AT:=by rw[Bool.eq_false_iff];intro z;rw[A36]at z;rw[z x h]at e;cases e
theorem Ni(h:j<w):(r,c+(j))∈gC w r c:=A02.mpr ⟨j,A26.mpr h,rfl⟩
theorem wY(hi:i<g.d)(hj:j<g.w):(p.1+(i),p.2+(j))∈seats g p:=
 B19.mpr ⟨i,A26.mpr hi,Ni hj⟩
theorem uJ(h:s∈seats g p)(e:XH rows g s=AT):cO rows g p=AT:=by unfold cO;have:=all_false h e;rw[show(seats g p).all (λ s=>cq _ _)=(seats g p).all (XH rows g)from rfl,this];rfl
def eu(r C:Nat):γ Pl:=(Ev C).map λ(c:Nat)=>(((r:Nat):Int),((c:Nat):Int))
def gP(n C:Nat):γ Pl:=(Ev n).flatMap λ r=>eu r C
theorem jr(n C:Nat):gP (n+1) C=gP n C++eu n C:=by simp[gP,A82]
theorem qx(r C:Nat):(eu r C).length=C:=by simp[eu]
theorem mT(n C:Nat):(gP n C).length=n*C:=by
 induction n with
 |zero=>simp[gP]
 |succ n ih=>rw[jr,A30,ih,qx,B26]
def places(rows:Rows)(C:Nat)(g:G):γ Pl:=(gP rows.length C).filter<|cO rows g
theorem places_of_ok(H:Hall rows C)(k:GOk g):fH [bg rows,a6 g]=.ok (.tup<|(places rows C g).map bh):=by
 rw[yS];refine aP ?_;have yN:=H.c2;have hr2:=H.r2;simp[mn,line];refine f9 (λ i ρ=>i<=rows.length/\∃x,ρ=[v _,v _,ow (((gP i C).filter<|cO rows g).map bh),x]) ⟨A51 _,At,rfl⟩ ?_ ?_
 .rintro i d ρ hi ⟨_,x,rfl⟩;let⟨yK,rfl⟩:=ints_get hi;let⟨row,_,hl,e1⟩:=H.row yK;have NU:C<=16777216:=by lia
  simp[e1,hl,bu,line,eX,dN,NU];refine Fn (λ d=>match d with|.int c=>cO rows g ((i),c)|_=>AT) (λ d=>.tup [.int (i),d]) ?_ ?_
  .intro d hd;let⟨c,hc⟩:=B18 hd;let⟨_,rfl⟩:=ints_get hc;simp[line,E_ H k]
  .have e2:((zints 0 C).filter λ d=>match d with|.int c=>cO rows g ((i),c)|_=>AT).map (λ d=>D.tup [.int (i),d])=((eu i C).filter<|cO rows g).map bh:=by
    rw[ints_map,eu,AB3,AB3,A20,A20]
    congr 1
    .funext c;simp
    .congr 1;funext c;simp
   rw[e2,jr,B43,A39];have h1:=A63 (cO rows g)<|gP i C;have h2:=A63 (cO rows g)<|eu i C;rw[mT]at h1;rw[qx]at h2;have h3:i*C<=100*100:=A65 ∅ yN;refine⟨?_,by lia,rfl⟩;rw[A06];lia
 .rintro ρ ⟨_,x,rfl⟩;simp[places]
def d?(g:G)(p:Pl)(h:G)(q:Pl):Bool:=decide<|p.1+g.d<=q.1\/q.1+h.d<=p.1\/p.2+g.w+max (g.gap:Int) (h.gap:Int)<=q.2\/q.2+h.w+max (g.gap:Int) (h.gap:Int)<=p.2
theorem Lm(g:G)(p:Pl)(h:G)(q:Pl):pO [a6 g,bh p,a6 h,bh q]=.ok (.bl<|d? g p h q):=by
 rw[Ku];refine aP ?_;by_cases h1:p.1+g.d<=q.1
 .simp[mS,d?,h1]
 .by_cases h2:q.1+h.d<=p.1
  .simp[mS,d?,h2]
  .by_cases h3:p.2+g.w+max (g.gap:Int) h.gap<=q.2
   .simp[mS,d?,h1,h2,h3]
   .simp[mS,d?,h1,h2,h3]
def Bd(ns:γ Int):Prop:=∀i∈ns,bits i<=2^20
theorem pY(hb:Bd ns)(h:0<=k):∃c,bV [.lst (ns.map .int),.int k]=.ok (.int c)/\bits c<=2^20:=by
 by_cases hk:k<ns.length
 .have hj:k.toNat<ns.length:=by lia
  have e:=(iM (xs:=ns.map D.int) (i:=k) (j:=k.toNat) (d:=.int ns[k.toNat]) ∅ ∅).2;refine⟨ns[k.toNat],?_,hb _<|B27 hj⟩;rw[md];refine aP ?_;simp[iw,hk,e]
 .refine⟨0,?_,by decide⟩;rw[md];refine aP ?_;simp[iw,hk]
theorem w6(z:Int):∃q∈aX,aR (.str aX) (.int<|z % 26)=.ok (.str [q]):=
 uu ∅ (by simp[aX];lia) ∅
theorem pD(h:q∈aX):q∈signs:=(by decide:∀q∈aX,q∈signs) q h
structure W8(rows:Rows)(C:Nat):Prop extends Hall rows C where
 r6:rows.length<=6
 c12:C<=12
 sg:∀x∈rows,∀c∈x,c∈signs
theorem V?(h1:1<=rows.length)(h2:rows.length<=6)(h3:1<=C)(h4:C<=12)(h:∀x∈rows,x.length=C/\∀c∈x,c∈signs):W8 rows C:=
 ⟨⟨h1,by lia,h3,by lia,λ x hx=>(h x hx).1⟩,h2,h4,λ x hx=>(h x hx).2⟩
def j2(C i:Nat)(rows:Rows):Prop:=rows.length=i/\∀x∈rows,x.length=C/\∀c∈x,c∈signs
def SN(j:Nat)(ln:γ Nat):Prop:=ln.length=j/\∀c∈ln,c∈signs
theorem j2.nil(C:Nat):j2 C 0 []:=⟨rfl,λ c h=>by cases h⟩
theorem j2.add(h:j2 C i rows)(hl:SN C ln):j2 C (i+1) (rows++[ln]):=
 ⟨by simp [h.1],λ c hc=>by
  rcases A37.mp hc with hc|hc
  .exact h.2 c hc
  .rw[A19.mp hc];exact hl⟩
theorem g?{z:Int}(h:0<=z):∃n:Nat,z=n:=⟨z.toNat,by lia⟩
theorem n6(h0:0<=i)(h1:i<xs.length)(h:∀d∈xs,Q d):Ok (aR (.lst xs)<|.int i) Q:=by let⟨d,hd,e,_⟩:=EU h0 h1;exact⟨d,e,h d hd⟩
theorem Qe(a b:D)(p:Prop)[Decidable p]:aR (.lst [a,b]) (.int<|if p then 1 else 0)=.ok (if p then b else a):=by
 by_cases h:p
 .rw[M2 h,M2 h];rfl
 .rw[W1 h,W1 h];rfl
structure GrpG(g:G):Prop extends GOk g where
 w12:g.w<=12
 d3:g.d<=3
 kl:g.kind=[]\/∃c∈aX,g.kind=[c]
 wdd:g.wide<=g.w*g.d
 g6:g.gap<=6
 wsh:∃(wt:Int)(ws:List Pl),ws.length<=6/\g.worth=.int wt/\g.qh=.tup (ws.map bh)
theorem aah(h1:1<=g.w)(h2:g.w<=12)(h3:1<=g.d)(h4:g.d<=3)(h5:g.kind=[]\/∃c∈aX,g.kind=[c])(h6:g.wide<=g.w*g.d)(h7:g.gap<=6)(h8:∃(wt:Int)(ws:γ Pl),ws.length<=6/\g.worth=.int wt/\g.qh=.tup (ws.map bh)):GrpG g:=
 ⟨⟨h1,by lia,h3,by lia,by rcases h5 with h|⟨c,_,h⟩<;>rw [h]<;>simp,by have:=A65 h2 h4;lia,by lia⟩,h2,h4,h5,h6,h7,h8⟩
@[simp] theorem Ya(b:Bool):eI .bool (.bl b)=Ch:=rfl
@[simp] theorem Vw(xs:γ D):eI .tuple (.tup xs)=Ch:=rfl
@[simp] theorem _a(p:Pl):eI .tuple (bh p)=Ch:=rfl
@[simp] theorem Vx(i:Int):eI .int (.int i)=Ch:=rfl
@[simp] theorem Tf(i:Int):eI .bool (.int i)=AT:=rfl
theorem eqP(n:Nat)(p q:Pl):iC (n+1) (bh p) (bh q)=AC (decide<|p=q):=by
 show allEq _ [.int p.1,.int p.2] [.int q.1,.int q.2]=_;have e:∀a b,iC n (.int a) (.int b)=AC (decide<|a=b):=λ a b=>by cases n<;>rfl
 simp only[allEq,e]
 congr 1
 rw[A53];simp[Prod.ext_iff]
theorem Sb(n:Nat)(ps qs:γ Pl):allEq (iC<|n+1) (ps.map bh) (qs.map bh)=AC (decide<|ps=qs):=qX (eqP n) ps qs
theorem aav(n:Nat)(ps qs:γ Int):allEq (iC n) (ps.map D.int) (qs.map D.int)=AC (decide<|ps=qs):=qX (λ a b=>by cases n<;>rfl) ps qs
@[simp] theorem Z2(ps qs:γ Pl):oR (.lst<|ps.map bh) (.lst<|qs.map bh)=.ok (.bl<|!decide (ps=qs)):=by have:kB (.lst _) (.lst _)=AC _:=Sb 4 ps qs;unfold oR;rw[this]
@[simp] theorem afy(ps qs:γ Pl):oEq (.lst<|ps.map bh) (.lst<|qs.map bh)=.ok (.bl<|decide<|ps=qs):=by have:kB (.lst _) (.lst _)=AC _:=Sb 4 ps qs;unfold oEq;rw[this]
@[simp] theorem afx(ps qs:γ Pl):oEq (.tup<|ps.map bh) (.tup<|qs.map bh)=.ok (.bl<|decide<|ps=qs):=by have:kB (.tup _) (.tup _)=AC _:=Sb 4 ps qs;unfold oEq;rw[this]
@[simp] theorem neI(ps qs:γ Int):oR (.lst<|ps.map D.int) (.lst<|qs.map D.int)=.ok (.bl<|!decide (ps=qs)):=by have:kB (.lst _) (.lst _)=AC _:=aav 5 ps qs;unfold oR;rw[this]
theorem SE(p:Pl):∀(qs:γ Pl),gq (bh p) (qs.map bh)=AC (decide<|p∈qs)
|[]=>rfl
|q::qs=>by
 rw[f8,gq,SE,show kB _ _=AC _ from eqP 5 q p];show AC _=_
 congr 1
 rw[A53];simp only[AA8,B14,A00];exact⟨λ h=>h.imp Eq.symm id,λ h=>h.imp Eq.symm id⟩
@[simp] theorem ad5(p:Pl)(qs:γ Pl):yt (bh p) (.tup<|qs.map bh)=.ok (.bl<|decide<|p∈qs):=by simp only[yt,SE]
@[simp] theorem X7(p:Pl)(qs:γ Pl):kK (bh p) (.tup<|qs.map bh)=.ok (.bl<|!decide (p∈qs)):=by simp only[kK,SE]
def JP(p q:Pl):Prop:=p.1<q.1\/p.1=q.1/\p.2<q.2
theorem yd(r C:Nat):(eu r C).Pairwise JP:=by unfold eu;rw[B71];refine(C34).imp ?_;intro a b h;exact .inr ⟨rfl,by lia⟩
theorem wZ(h:p∈eu r C):p.1=r/\0<=p.2/\p.2<C:=by let⟨c,hc,rfl⟩:=A02.mp h;rw[A26]at hc;exact⟨rfl,by lia,by lia⟩
theorem w5:p∈gP n C↔0<=p.1/\p.1<n/\0<=p.2/\p.2<C:=by
 constructor
 .intro h;let⟨r,hr,h⟩:=B19.mp h;rw[A26]at hr;let⟨h1,h2,h3⟩:=wZ h;exact⟨by lia,by lia,h2,h3⟩
 .rintro⟨h1,h2,h3,h4⟩;refine B19.mpr ⟨p.1.toNat,A26.mpr ∅,A02.mpr ⟨p.2.toNat,A26.mpr ∅,?_⟩⟩;apply Prod.ext
  .lia
  .lia
theorem zj(n C:Nat):(gP n C).Pairwise JP:=by
 induction n with
 |zero=>simp[gP]
 |succ n ih=>rw[jr,C33];refine⟨ih,yd n C,λ a ha b hb=>?_⟩;have h1:=w5.mp ha;have h2:=wZ hb;exact .inl ∅
theorem vD(rows:Rows)(C:Nat)(g:G):(places rows C g).Pairwise JP:=(zj _ _).filter _
theorem take_snoc{α:Type}{xs:γ α}{x:α}(h:xs[i]?=AC x):xs.take (i+1)=xs.take i++[x]:=by rw[wT,h];rfl
theorem places_len(H:Hall rows C)(g:G):(places rows C g).length<=10000:=by have h1:=A63 (cO rows g)<|gP rows.length C;rw[mT]at h1;have:=A65 H.r2 H.c2;unfold places;lia
end KG
set_option maxRecDepth 4000
namespace KG
open Z
abbrev GP:=G×Pl
abbrev GO:=G×ε Pl
def cy:ε Pl->D
|none=>.non
|some p=>bh p
@[simp] theorem Tt(p:Pl):cy (AC p)=bh p:=rfl
@[simp] theorem Tu:cy At=.non:=rfl
def pU(x:GP):D:=.tup [a6 x.1,bh x.2]
def KL(x:GO):D:=.tup [a6 x.1,cy x.2]
theorem O3:∀(xs:γ GO),jR (xs.map λ x=>a6 x.1) (xs.map λ x=>cy x.2)=xs.map KL
|[]=>rfl
|x::xs=>by simp[jR,O3 xs];rfl
@[simp] theorem ZX(o:ε Pl):lY (cy o)=.ok (.bl o.isSome):=by cases o<;>rfl
@[simp] theorem abS(o:ε Pl):gD (cy o)=.ok (.bl o.isNone):=by cases o<;>rfl
@[simp] theorem gX(x:GP)(i j:Nat)(ρ:Env):iA [i,j] (pU x) ρ=.ok ((ρ.set i<|v<|a6 x.1).set j<|v<|bh x.2):=rfl
@[simp] theorem gY(x:GO)(i j:Nat)(ρ:Env):iA [i,j] (KL x) ρ=.ok ((ρ.set i<|v<|a6 x.1).set j<|v<|cy x.2):=rfl
theorem kT{α:Type}(xs:γ α):xs.filter (λ _=>Ch)=xs:=A87.mpr λ _ _=>rfl
def mX:γ GO->γ GP
|[]=>[]
|(g,AC p)::xs=>(g,p)::mX xs
|(_,At)::xs=>mX xs
theorem x!:∀xs,(xs.filter λ x=>x.2.isSome).map KL=(mX xs).map pU
|[]=>rfl
|(g,AC p)::xs=>by rw[B70 (by rfl)];simp only[f8,x! xs];rfl
|(g,At)::xs=>by rw[B20 ∅];simp only[mX,x! xs]
theorem mE:∀xs,(mX xs).length<=xs.length
|[]=>v4 _
|(g,AC p)::xs=>by have:=mE xs;simp only[mX,A34];lia
|(g,At)::xs=>by have:=mE xs;simp only[mX,A34];lia
theorem iO:∀{xs}{y},y∈mX xs↔(y.1,AC y.2)∈xs
|[],y=>by simp[mX]
|(g,AC p)::xs,y=>by
 simp only[mX,A00,iO,C28,B13];constructor
 .rintro(rfl|h)
  .exact .inl ⟨rfl,rfl⟩
  .exact .inr h
 .rintro(⟨h1,h2⟩|h)
  .left;rw[<-h1,<-h2]
  .exact .inr h
|(g,At)::xs,y=>by simp only[mX,A00,iO,C28,reduceCtorEq,and_false,false_or]
theorem o3(h:xs.length<=16777216):cb [.tup (xs.map λ x=>a6 x.1),.tup (xs.map λ x=>cy x.2)]=.ok (.lst<|(mX xs).map pU):=by
 rw[pQ];refine aP ?_;simp[hZ,bu,O3,h];refine b8 KL (λ x=>x.2.isSome) KL ?_ ?_
 .intro x hx;simp;exact λ _=>⟨by decide,rfl⟩
 .rw[x!]
theorem uh{α:Type}(f:α->Bool)(xs:γ α):jz (.lst<|xs.map λ x=>D.bl<|f x)=.ok (.bl<|xs.all f):=by simp only[jz,all_map]
theorem Lp(g:G)(p:Pl){xs:γ GP}(h:xs.length<=16777216):dM [a6 g,bh p,.lst (xs.map pU)]=.ok (.bl<|xs.all λ x=>d? g p x.1 x.2):=by
 rw[pS];refine aP ?_;simp[h_,bu,eX,dN,h];refine b8 pU (λ _=>Ch) (λ x=>.bl<|d? g p x.1 x.2) ?_ ?_
 .intro x hx;simp[Lm]
 .rw[kT,uh];simp
theorem uV(xs:γ α)(h:k<=xs.length):cut xs At (AC<|k)=xs.take k:=by
 have:¬(k:Int)<0:=by lia
 simp[cut,d_,this]
def ur(ss:γ GP)(k:Nat):Bool:=match ss[k]? with
|some x=>(ss.take k).all λ y=>d? x.1 x.2 y.1 y.2
|none=>Ch
def qF(rows:Rows)(ss:γ GP):Bool:=(ss.all λ x=>cO rows x.1 x.2)&&(Ev ss.length).all (ur ss)
theorem JZ(H:Hall rows C)(h6:xs.length<=6)(hg:∀x∈xs,GOk x.1):ma [bg rows,.tup (xs.map λ x=>a6 x.1),.tup (xs.map λ x=>cy x.2)]=.ok (.bl<|qF rows<|mX xs):=by
 rw[Kt];refine aP ?_;have NW:=mE xs;have hl:(mX xs).length<=16777216:=by lia
 have VS:xs.length<=16777216:=by lia
 have hk:∀x∈mX xs,GOk x.1:=λ x hx=>hg _<|iO.mp hx;generalize hss:mX xs=ss at NW hl hk;simp[zg,bu,line,eX,dN,o3 VS,hss,hl];refine b8 pU (λ _=>Ch) (λ x=>.bl<|cO rows x.1 x.2) ?_ ?_
 .intro x hx;simp[E_ H<|hk x hx]
 .rw [kT,uh];cases e:(ss.all λ x=>cO rows x.1 x.2)with
  |false=>simp[qF,e]
  |true=>
   simp[hl];refine Z.comp_map (λ d=>match d with|.int c=>.bl<|ur ss c.toNat|d=>d) ?_ ?_
   .intro d hd;let⟨j,hj⟩:=B18 hd;let⟨BQ,rfl⟩:=ints_get hj;obtain⟨x,ex⟩:∃x,ss[j]?=AC x:=⟨_,A03 BQ⟩
    have i1:=(iM (d:=pU x) rfl (by rw[A08,ex];rfl)).2;have i2:aR (pU x) (.int 0)=.ok (a6 x.1):=rfl;have i3:aR (pU x) (.int 1)=.ok (bh x.2):=rfl;have ct:=uV (ss.map pU) (k:=j) (by rw[A06];lia);have af:=Lp x.1 x.2 (xs:=ss.take j) (by rw[A24];lia);rw[C35]at af;rw[Int.zero_add];simp[i1,i2,i3,Pm,ct,af,ur,ex]
   .have:(zints 0 ss.length).map (λ d=>match d with|.int c=>.bl<|ur ss c.toNat|d=>d)=(Ev ss.length).map λ j=>D.bl (ur ss j):=by rw[ints_map,A20];refine B08 λ j _=>?_;simp
    rw[this,uh];simp[qF,e]
theorem C1:qF rows ss=Ch↔(∀x∈ss,cO rows x.1 x.2=Ch)/\ss.Pairwise λ a b=>d? b.1 b.2 a.1 a.2=Ch:=by
 unfold qF;rw[A46,A36,A36,C32];refine and_congr_right λ _=>?_;constructor
 .intro h i j hi hj sR;have:=h j<|A26.mpr hj;rw[ur,A03]at this;rw[A36]at this;exact this ss[i]<|List.mem_iff_getElem.mpr ⟨i,by rw[A24];lia,by rw[wP]⟩
 .intro h k hk;rw[A26]at hk;rw[ur,A03];rw[A36];intro y hy;let⟨i,hi,rfl⟩:=List.mem_iff_getElem.mp hy;rw[A24]at hi;rw[wP];exact h i k ∅ hk ∅
theorem Hn(g:G)(p:Pl)(h:G)(q:Pl):d? g p h q=d? h q g p:=by unfold d?;rw[decide_eq_decide,Int.max_comm];lia
theorem tY:∀{xs},(mX xs).Pairwise R↔xs.Pairwise λ a b=>∀p q,a.2=AC p->b.2=AC q->R (a.1,p) (b.1,q)
|[]=>by simp[mX]
|(g,AC p)::xs=>by
 simp only[mX,C36,tY];refine and_congr_left λ _=>?_;constructor
 .intro h b hb p' q hp hq;cases hp;exact h (b.1,q)<|iO.mpr (by simp only[<-hq];exact hb)
 .intro h y hy;exact h _ (iO.mp hy) p y.2 rfl rfl
|(g,At)::xs=>by simp only[mX,C36,tY];exact⟨λ h=>⟨λ b hb p q hp=>(by cases hp),h⟩,λ h=>h.2⟩
end KG
set_option maxRecDepth 4000
namespace KH
open Z KG
def k_:SF:=(a7<|eB bK (eB bK (HF (eW 0) MN<|r8<|eW 1)<|eE<|aa (eV 2) aC)<|HF (eW 0) (r8<|eB bK (eW 1)<|eC<|.int 1) MN)
def cx:γ D->Res D:=fn 3 3 k_
theorem vV(x0 x1 x2:D):cx [x0,x1,x2]=bJ (k_ [AC (.val x0),AC (.val x1),AC (.val x2)]):=cI _ _ _ _ rfl
def lj:SF:=(a7<|eU f7<|eL<|bS (eJ<|eW 0) 1 [1,2] (aW 0) (tE<|aD KG.dM<|aa (eV 1)<|aa (eV 0)<|aa (eV 2) aC)<|eV 0)
def eP:γ D->Res D:=fn 3 3 lj
theorem vW(x0 x1 x2:D):eP [x0,x1,x2]=bJ (lj [AC (.val x0),AC (.val x1),AC (.val x2)]):=cI _ _ _ _ rfl
def lr:SF:=(aS (nS 2<|b? aC)<|aS (i9 (eJ<|eV 1) (aW 3)<|aS (dW 2<|eB oMod (eW 0)<|eW 3)<|bc 0<|eB oDiv (eW 0)<|eW 3)<|t9 2<|a7<|eV 2)
def dP:γ D->Res D:=fn 2 4 lr
theorem v7(x0 x1:D):dP [x0,x1]=bJ (lr [AC (.val x0),AC (.val x1),At,At]):=cI _ _ _ _ rfl
def oG:SF:=(a7<|eB bK (eB bK (HF (eW 0) MN<|r8<|eW 1)<|eE<|aa (eV 2) aC)<|HF (eW 0) (r8<|eB bK (eW 1)<|eC<|.int 1) MN)
def l_:γ D->Res D:=fn 3 3 oG
theorem Bc(x0 x1 x2:D):l_ [x0,x1,x2]=bJ (oG [AC (.val x0),AC (.val x1),AC (.val x2)]):=cI _ _ _ _ rfl
end KH
set_option maxRecDepth 8000
namespace KH
open Z KG
def jX:Int->γ Int->γ Int
|_,[]=>[]
|c,s::ss=>c % s::jX (c / s) ss
def LU:Int->γ Int->Int
|c,[]=>c
|c,s::ss=>LU (c / s) ss
theorem Br:∀c a b,jX c (a++b)=jX c a++jX (LU c a) b
|c,[],b=>rfl
|c,s::a,b=>by simp[jX,LU,Br _ a b]
theorem Fy:∀c a b,LU c (a++b)=LU (LU c a) b
|c,[],b=>rfl
|c,s::a,b=>by simp[LU,Fy _ a b]
theorem uR:∀c a,(jX c a).length=a.length
|c,[]=>rfl
|c,s::a=>by simp[jX,uR _ a]
def Szs(ss:γ Int):Prop:=ss.length<=100/\∀s∈ss,0<s/\s<=1000000000000000000000000000000000000000000000000000000000000
theorem mM(h:Szs ss)(c:Int):dP [.int c,.lst (ss.map .int)]=.ok (.lst<|(jX c ss).map .int):=by
 rw[v7];refine aP ?_;simp[lr];refine f9 (λ i ρ=>∃x,ρ=[vi (LU c<|ss.take i),v (.lst<|ss.map .int),ow ((jX c<|ss.take i).map .int),x]) ⟨At,by simp[LU,jX]⟩ ?_ ?_
 .rintro j d ρ hj ⟨x,rfl⟩;rw[A08]at hj;cases e:ss[j]? with
  |none=>rw[e]at hj;cases hj
  |some s=>
   rw[e]at hj;cases hj;let⟨h1,h2⟩:=h.2 s (A18 e);have hl:(jX c<|ss.take j).length<16777216:=by rw[uR,A24];have:=h.1;lia
   simp[h1,hl,bQ h1 ∅,take_snoc e,Br,Fy,jX,LU]
 .rintro ρ ⟨x,rfl⟩;simp
theorem Ff:∀c ss m,(∀s∈ss,0<s/\s<=m)->∀x∈jX c ss,0<=x/\x<m
|c,[],m,_=>by simp[jX]
|c,s::ss,m,h=>by
 intro x hx;simp only[jX,A00]at hx;rcases hx with rfl|hx
 .let⟨h1,h2⟩:=h s A11;have:=B72 c h1;exact⟨B73 _ ∅,by lia⟩
 .exact Ff _ ss m (λ t ht=>h t<|A09 _ ht) x hx
theorem Dv(xs:γ α)(h:(r+1)*c<=xs.length):(cut xs (AC<|(r)*c)<|some<|((r)+1)*c).length=c:=by
 have h1:((r)*c)=((r*c:Nat):Int):=by push_cast;rfl
 have h2:(((r)+1)*c)=(((r+1)*c:Nat):Int):=by push_cast;rfl
 rw[h1,h2];have h3:(r+1)*c=r*c+c:=B26 ..;have n1:¬((r*c:Nat):Int)<0:=by lia
 have n2:¬(((r+1)*c:Nat):Int)<0:=by lia
 have a2:=A70 h;have a1:=A70<|A13 (B21 c<|A57 r) h;simp only[cut,d_,n1,n2,A59,A98,A24,B51,a1,a2];rw[h3,C37];exact A70<|Nat.le_sub_of_add_le (by rw[A92,<-h3];exact h)
theorem OB(f:α->β)(xs:γ α)(l h:ε Int):cut (xs.map f) l h=(cut xs l h).map f:=by simp[cut,C38]
theorem F4:signs.length=29:=by decide
theorem Mf(h:n<=100):Szs (Do n 29):=⟨by simpa using h,λ s hs=>by rw[C59 hs];decide⟩
@[simp] theorem ZL:mY (.int 10) (.int 40)=.ok (.int 10000000000000000000000000000000000000000):=ja 10 40 ∅ ∅
@[simp] theorem ZM:mY (.int 10) (.int 39)=.ok (.int 1000000000000000000000000000000000000000):=ja 10 39 ∅ ∅
def ZE:Nat->Int
|0=>1
|1=>2
|2=>4
|3=>8
|4=>16
|_=>32
theorem OA(row:γ Nat)(h:c+w<=row.length):cut row (AC<|c) (AC<|(c)+w)=(row.drop c).take w:=by
 have n1:¬(c:Int)<0:=by lia
 have n2:¬(c:Int)+w<0:=by lia
 have e:((c:Int)+w).toNat=c+w:=by lia
 simp only[cut,d_,n1,n2,A59,A98,e];rw[A70 h,A70 ∅,C37]
theorem F8(H:Hall rows C){r c w:Nat}(hr:rows[r]?=AC row)(h:c+w<=C):((row.drop c).take w).map AC=(gC w (r)<|c).map (b_ rows):=by
 have hl:=H.len row<|A18 hr;apply B74;intro j;simp only[A08,gC,List.getElem?_take,C39];by_cases hj:j<w
 .rw[M2 hj,jp hj];have hc:c+j<row.length:=by lia
  rw[A03 hc];simp only[A68,b_];have e1:((c)+(j:Int)).toNat=c+j:=by lia
  rw[M2 ⟨by lia,by lia⟩];simp[hr,e1]
 .rw[W1 hj,B56 (by simp;lia)];rfl
theorem aaQ(k:γ Nat)(c:Nat):(!(c == 46)&&(!(c == 61)&& !([c] == k)))= !cq k (AC c):=by
 by_cases h1:c=46
 .simp[cq,h1]
 .by_cases h2:c=61
  .simp[cq,h2]
  .by_cases h3:k=[c]
   .subst h3;simp[cq]
   .have Wb:¬[c]=k:=λ h=>h3 h.symm;simp[cq,h1,h2,h3,Wb]
def ZO(xs:γ GO)(g:G)(k:Nat)(p:Pl)(j:Nat):Bool:=decide (j=k)||match xs[j]? with
|some (h,AC q)=>d? g p h q
|_=>Ch
def openAt(xs:γ GO)(g:G)(k:Nat)(p:Pl):Bool:=(Ev xs.length).all<|ZO xs g k p
def da(rows:Rows)(C:Nat)(xs:γ GO)(g:G)(k:Nat):γ Pl:=(places rows C g).filter<|openAt xs g k
def aM(xs:γ GO):D:=.tup<|xs.map λ x=>a6 x.1
def aH(xs:γ GO):D:=.tup<|xs.map λ x=>cy x.2
theorem Eh{k:Nat}(h:k<ds.length)(d:D):cut ds At (AC<|k)++(d::cut ds (AC<|(k)+1) At)=ds.set k d:=by
 have e1:cut ds At _=ds.take k:=uV ds ∅;have e2:cut ds (AC<|(k)+1) At=ds.drop (k+1):=by
  have:¬(k:Int)+1<0:=by lia
  have h3:((k:Int)+1).toNat=k+1:=by lia
  have h4:min (k+1) ds.length=k+1:=by lia
  simp[cut,d_,this,h4];rw[C20 ∅]
 rw[e1,e2,List.set_eq_take_append_cons_drop,M2 h]
theorem L4(h:k<ds.length)(hl:ds.length<=1000)(d:D):l_ [.tup ds,.int (k:Nat),d]=.ok (.tup<|ds.set k d):=by
 rw[Bc];refine aP ?_;have c1:=k9 ds At<|some<|k;have c2:=k9 ds (AC<|(k)+1) At;have g1:(cut ds At<|some<|k).length+1<=16777216:=by lia
 have g2:(cut ds At<|some<|k).length+1+(cut ds (AC<|(k)+1) At).length<=16777216:=by lia
 simp[oG,line,g1,g2,Eh h]
theorem vn(h:k<ds.length)(hl:ds.length<=1000)(d:D):cx [.tup ds,.int (k:Nat),d]=.ok (.tup<|ds.set k d):=by
 rw[vV];refine aP ?_;have c1:=k9 ds At<|some<|k;have c2:=k9 ds (AC<|(k)+1) At;have g1:(cut ds At<|some<|k).length+1<=16777216:=by lia
 have g2:(cut ds At<|some<|k).length+1+(cut ds (AC<|(k)+1) At).length<=16777216:=by lia
 simp[k_,line,g1,g2,Eh h]
theorem G8(xs:γ GO)(k:Nat)(g:G)(o:ε Pl):aH (xs.set k (g,o))=.tup ((xs.map λ x=>cy x.2).set k<|cy o):=by simp[aH]
theorem xp(h:xs[k]?=AC x)(o:ε Pl):aM (xs.set k (x.1,o))=aM xs:=by
 have hk:=(A07.mp h).1;have e:x=xs[k]:=by rw[A03]at h;exact(A04 h).symm
 unfold aM;rw[C40]
 congr 1
 subst e;apply AA1 ∅;intro i h1 h2;rw[AA3];split
 .rename_i e;subst e;simp
 .rfl
def Good(rows:Rows)(xs:γ GO):Prop:=∀(i:Nat)(g:G)(p:Pl),xs[i]?=AC (g,AC p)->cO rows g p=Ch/\∀(j:Nat)(h:G)(q:Pl),xs[j]?=AC (h,AC q)->j≠i->d? g p h q=Ch
theorem nW:openAt xs g k p=Ch↔∀(j:Nat) h q,xs[j]?=AC (h,AC q)->j≠k->d? g p h q=Ch:=by
 unfold openAt;rw[A36];constructor
 .intro h j hh q e hj;have hl:=(A07.mp e).1;have:=h j<|A26.mpr hl;simpa[ZO,e,hj]using this
 .intro h j hj;unfold ZO;by_cases hk:j=k
  .simp[hk]
  .cases e:xs[j]? with
   |none=>simp
   |some y=>
    let⟨hh,o⟩:=y;cases o with
    |none=>simp
    |some q=>simp[h j hh q e hk]
theorem Good.put(h:Good rows xs)(hk:xs[k]?=AC x)(hf:cO rows x.1 p=Ch)(ho:openAt xs x.1 k p=Ch):Good rows (xs.set k (x.1,AC p)):=by
 rw[nW]at ho;have hl:=(A07.mp hk).1;intro i g q e;rw[A33]at e;by_cases hi:k=i
 .subst hi;rw[M2 rfl,M2 hl]at e;cases e;refine⟨hf,λ j hh r ej hj=>?_⟩;rw[A33,W1 λ z=>hj z.symm]at ej;exact ho j hh r ej hj
 .rw[W1 hi]at e;let⟨h1,h2⟩:=h i g q e;refine⟨h1,λ j hh r ej hj=>?_⟩;rw[A33]at ej;by_cases BQ:k=j
  .subst BQ;rw[M2 rfl,M2 hl]at ej;cases ej;rw[Hn];exact ho i g q e λ z=>hi z.symm
  .rw[W1 BQ]at ej;exact h2 j hh r ej hj
theorem Good.sub{xs ys:γ GO}(h:Good rows xs)(hs:∀(i:Nat) g p,ys[i]?=AC (g,AC p)->xs[i]?=AC (g,AC p)):Good rows ys:=by intro i g p e;let⟨h1,h2⟩:=h i g p (hs i g p e);exact⟨h1,λ j hh q ej hj=>h2 j hh q (hs j hh q ej) hj⟩
theorem Good.keeps(h:Good rows xs):qF rows (mX xs)=Ch:=by
 rw[C1];constructor
 .intro y hy;let⟨i,hi⟩:=B18 (iO.mp hy);exact(h i y.1 y.2 hi).1
 .rw[tY,C32];intro i j hi hj sR p q ep eq;have e1:xs[i]?=AC (xs[i].1,AC p):=by rw[A03,<-ep]
  have e2:xs[j]?=AC (xs[j].1,AC q):=by rw[A03,<-eq]
  exact(h j _ q e2).2 i _ p e1 ∅
theorem ny(ps:γ Pl)(g:G){ss:γ GP}(hp:ps.length<=10000)(hs:ss.length<=6):eP [.tup (ps.map bh),a6 g,.lst (ss.map pU)]=.ok (.tup<|(ps.filter λ p=>ss.all λ x=>d? g p x.1 x.2).map bh):=by
 rw[vW];refine aP ?_;have hp':ps.length<=16777216:=by lia
 simp[lj,bu,eX,dN,hp'];refine b8 bh (λ p=>ss.all λ x=>d? g p x.1 x.2) bh ?_ ?_
 .intro p hp;simp[Lp g p (xs:=ss) ∅]
 .rfl
theorem z!(hk:xs[k]?=AC x)(p:Pl):((mX<|xs.set k (x.1,At)).all λ y=>d? g p y.1 y.2)=openAt xs g k p:=by
 rw[A53,nW,A36];have hl:=(A07.mp hk).1;constructor
 .intro h j hh q e hj;have hm:(hh,AC q)∈xs.set k (x.1,At):=by refine A18 (i:=j) ?_;rw[A33,W1 λ z=>hj z.symm];exact e
  exact h (hh,q)<|iO.mpr hm
 .intro h y hy;let⟨j,e⟩:=B18 (iO.mp hy);rw[A33]at e;by_cases hj:k=j
  .rw[M2 hj]at e;subst hj;rw[M2 hl]at e;exact nomatch A15 Prod.snd (A04 e)
  .rw[W1 hj]at e;exact h j y.1 y.2 e λ z=>hj z.symm
theorem nD(h:p∈places rows C g):cO rows g p=Ch:=(A60.mp h).2
structure af0(g:G):Prop extends GrpG g where
 pos:∃(wt:Int)(ws:List Pl),ws.length<=6/\0<=wt/\(∀p∈ws,0<=p.2)/\g.worth=.int wt/\g.qh=.tup (ws.map bh)
end KH
set_option maxRecDepth 4000
namespace KB
open Z KG KH
def oC:SF:=(a7<|eB bK (eB aR (eW 0)<|eC<|.int 6)<|eU Jm<|eL<|bS (eJ<|eB aR (eW 0)<|eC<|.int 7) 1 [1] (aW 0) (tE<|eB oEq (eB aR (eW 0)<|eC<|.int 0)<|eW 1)<|eB aR (eW 0)<|eC<|.int 1)
def jI:γ D->Res D:=fn 2 2 oC
theorem A_(x0 x1:D):jI [x0,x1]=bJ (oC [AC (.val x0),AC (.val x1)]):=cI _ _ _ _ rfl
def oB:SF:=(a7<|eU Jm<|eL<|bS (eJ<|aD KG.cb<|aa (eV 0)<|aa (eV 1) aC) 2 [] (iA [0,1]) bZ<|aD jI<|aa (eV 0)<|aa (eB aR (eW 1)<|eC<|.int 0) aC)
def cC:γ D->Res D:=fn 2 2 oB
theorem A?(x0 x1:D):cC [x0,x1]=bJ (oB [AC (.val x0),AC (.val x1)]):=cI _ _ _ _ rfl
def jn:SF:=(aS (bc 3<|YB (tE<|eU gD<|eW 2) (eB EC (eE<|aa (eC .non) aC)<|eU cQ<|eW 1)<|eV 2)<|aS (gU (fZ<|tE<|aD KG.ma<|aa (eV 0)<|aa (eV 1)<|aa (eV 3) aC) lU bw)<|a7<|eV 3)
def bE:γ D->Res D:=fn 3 4 jn
theorem sA(x0 x1 x2:D):bE [x0,x1,x2]=bJ (jn [AC (.val x0),AC (.val x1),AC (.val x2),At]):=cI _ _ _ _ rfl
def DH:SF:=(aS (bc 3<|eC<|.int 1)<|aS (i9 (J7 (eV 1)<|aD bE<|aa (eV 0)<|aa (eV 1)<|aa (eV 2) aC) (iA [4,5])<|gU (tE<|eU gD<|eW 5) (bc 3<|eB fP (eV 3)<|eB bK (eU cQ<|aD KG.fH<|aa (eV 0)<|aa (eV 4) aC)<|eC<|.int 1) bw)<|a7<|eV 3)
def jJ:γ D->Res D:=fn 3 6 DH
theorem N?(x0 x1 x2:D):jJ [x0,x1,x2]=bJ (DH [AC (.val x0),AC (.val x1),AC (.val x2),At,At,At]):=cI _ _ _ _ rfl
def jZ:SF:=(aS (bc 3<|aD jJ<|aa (eV 0)<|aa (eV 1)<|aa (eV 2) aC)<|aS (gU (tE<|eB Gm (eW 3)<|eC<|.int 2000) lU bw)<|a7<|aD bE<|aa (eV 0)<|aa (eV 1)<|aa (eV 2) aC)
def d6:γ D->Res D:=fn 3 4 jZ
theorem uK(x0 x1 x2:D):d6 [x0,x1,x2]=bJ (jZ [AC (.val x0),AC (.val x1),AC (.val x2),At]):=cI _ _ _ _ rfl
def iI:SF:=(aS (bc 5<|aD KG.fH<|aa (eV 0)<|aa (eB aR (eW 1)<|eW 3) aC)<|aS (nS 6<|b? aC)<|aS (i9 (eJ<|eV 2) (aW 7)<|aS (bc 8<|aD KG.cb<|aa (eV 1)<|aa (eV 7) aC)<|aS (F7 6<|bS (eJ<|aD KH.eP<|aa (eV 5)<|aa (eB aR (eW 1)<|eW 3)<|aa (eV 8) aC) 1 [7,3] (aW 0) bZ<|aD KH.cx<|aa (eV 1)<|aa (eV 2)<|aa (eV 0) aC)<|gU (tE<|eV 4) (dW 6<|eV 7) bw)<|t9 6<|a7<|eV 6)
def fG:γ D->Res D:=fn 5 9 iI
theorem qO(x0 x1 x2 x3 x4:D):fG [x0,x1,x2,x3,x4]=bJ (iI [AC (.val x0),AC (.val x1),AC (.val x2),AC (.val x3),AC (.val x4),At,At,At,At]):=cI _ _ _ _ rfl
def iJ:SF:=(aS (bc 4<|eL<|b?<|aa (eV 2) aC)<|aS (i9 (fT<|eU cQ<|eW 1) (aW 5)<|gU (tE<|eU gD<|eB aR (eW 2)<|eW 5) (bc 4<|aD fG<|aa (eV 0)<|aa (eV 1)<|aa (eV 4)<|aa (eV 5)<|aa (eV 3) aC) bw)<|a7<|eV 4)
def d9:γ D->Res D:=fn 4 6 iJ
theorem qP(x0 x1 x2 x3:D):d9 [x0,x1,x2,x3]=bJ (iJ [AC (.val x0),AC (.val x1),AC (.val x2),AC (.val x3),At,At]):=cI _ _ _ _ rfl
def gO:SF:=(a7<|yY Ch (.ok .non) (eW 1) [0]<|aD cC<|aa (eV 1)<|aa (eV 0) aC)
def fU:γ D->Res D:=fn 2 2 gO
theorem nJ(x0 x1:D):fU [x0,x1]=bJ (gO [AC (.val x0),AC (.val x1)]):=cI _ _ _ _ rfl
def iy:SF:=(aS (bc 3<|aD d6<|aa (eV 0)<|aa (eV 1)<|aa (eV 2) aC)<|a7<|aD fU<|aa (eV 1)<|aa (aD d9<|aa (eV 0)<|aa (eV 1)<|aa (eV 3)<|aa (eC<|.bl AT) aC) aC)
def bf:γ D->Res D:=fn 3 4 iy
theorem me(x0 x1 x2:D):bf [x0,x1,x2]=bJ (iy [AC (.val x0),AC (.val x1),AC (.val x2),At]):=cI _ _ _ _ rfl
end KB
set_option maxRecDepth 8000
namespace KB
open Z KG
open KH
theorem Gd(H:Hall rows C)(xs:γ GO)(g:G)(k:Nat):(da rows C xs g k).length<=10000:=A13 (A63 _ _)<|places_len H g
theorem Ru(H:Hall rows C)(h6:xs.length<=6)(hg:∀x∈xs,GOk x.1)(hk:Good rows xs):KG.ma [bg rows,aM xs,aH xs]=.ok (.bl Ch):=by have:=JZ H h6 hg;rw[hk.keeps]at this;exact this
theorem xm(H:Hall rows C)(h6:xs.length<=6)(hg:∀x∈xs,GOk x.1)(hk:Good rows xs):bE [bg rows,aM xs,aH xs]=.ok (aH xs):=by rw[sA];refine aP ?_;have hN:gD (aH xs)=.ok _:=rfl;simp[jn,hN,Ru H h6 hg hk]
def wtD:D->Int
|.int w=>w
|_=>0
def ZG:D->Pl
|.tup [.int a,.int b]=>(a,b)
|_=>(0,0)
def wsD:D->γ Pl
|.tup ds=>ds.map ZG
|_=>[]
def more(ws:γ Pl)(row:Int):Int:=((ws.filter λ p=>decide<|p.1=row).map (·.2)).sum
def P9(g:G)(row:Int):Int:=wtD g.worth+more (wsD g.qh) row
def wO(x:GO):Int:=match x.2 with
|none=>0
|some p=>P9 x.1 p.1
theorem L3(ws:γ Pl):wsD (.tup<|ws.map bh)=ws:=by show(ws.map bh).map ZG=ws;rw[A20];have:(ZG∘bh)=id:=funext λ p=>rfl;rw[this,List.map_id]
theorem Pc(ns:γ Int):Jm (.lst<|ns.map D.int)=.ok (.int ns.sum):=by show(match zX _ with|some i=>Res.ok _|none=>.bad)=_;rw[wG]
theorem zC(h:GrpG g)(row:Int):jI [a6 g,.int row]=.ok (.int<|P9 g row):=by
 let⟨wt,ws,hl,e1,e2⟩:=h.wsh;rw[A_];refine aP ?_;have Ka:ws.length<=16777216:=by lia
 have e3:P9 g row=wt+more ws row:=by unfold P9;rw[e1,e2,L3];rfl
 rw[e3];simp[oC,bu,eX,dN,e1,e2,Ka];refine b8 bh (λ p=>decide<|p.1=row) (λ p=>.int p.2) (λ p _=>?_) ?_
 .simp;rfl
 .rw[show(ws.filter λ p=>decide _).map (λ p=>D.int p.2)=((ws.filter λ p=>decide _).map _).map D.int from by rw[A20];rfl,Pc];simp[more]
theorem xW:∀xs,((mX xs).map λ y=>P9 y.1 y.2.1).sum=(xs.map wO).sum
|[]=>rfl
|(g,At)::xs=>by simp[mX,wO,xW xs]
|(g,AC p)::xs=>by simp[mX,wO,xW xs]
theorem zB{xs:γ GO}(h:xs.length<=6)(hg:∀x∈xs,GrpG x.1):cC [.tup (xs.map λ x=>a6 x.1),.tup (xs.map λ x=>cy x.2)]=.ok (.int (xs.map wO).sum):=by
 rw[A?];refine aP ?_;have et:=o3 (xs:=xs) ∅;have GS:=mE xs;have C7:(mX xs).length<=16777216:=by lia
 simp[oB,et,bu,C7];refine b8 pU (λ _=>Ch) (λ y=>.int<|P9 y.1 y.2.1) (λ y hy=>?_) ?_
 .have:=zC (hg _<|iO.mp hy) y.2.1;have gX:∀ρ,iA [0,1] (pU y) ρ=.ok _:=λ ρ=>rfl;simp[this]
 .rw[kT,show(mX xs).map (λ y=>D.int _)=((mX xs).map λ y=>P9 y.1 y.2.1).map D.int from by rw[A20];rfl,Pc,xW];simp
theorem Mr{xs:γ GO}:(xs.set k x).length=xs.length:=AB5
theorem tw{xs:γ GO}(h6:xs.length<=6){k:Nat}(hk:xs[k]?=AC (g,o))(p:Pl):KH.cx [aH xs,.int (k),bh p]=.ok (aH<|xs.set k (g,AC p))/\KH.l_ [aH xs,.int (k),bh p]=.ok (aH<|xs.set k (g,AC p)):=by have hl:=(A07.mp hk).1;have h1:=vn (ds:=xs.map λ x=>cy x.2) (k:=k) (by simp;lia) (by simp;lia)<|bh p;have h2:=L4 (ds:=xs.map λ x=>cy x.2) (k:=k) (by simp;lia) (by simp;lia)<|bh p;rw[G8];exact⟨h1,h2⟩
theorem Iw{C:Nat}(hr:∀x∈rows,x.length=C)(h:b_ rows s=AC c):0<=s.1/\s.1<rows.length/\0<=s.2/\s.2<C:=by
 unfold b_ at h;split at h
 .rename_i z;cases e:rows[s.1.toNat]? with
  |none=>rw[e]at h;cases h
  |some r=>rw[e]at h;have h:=h;have h1:=(A07.mp h).1;have h2:=(A07.mp e).1;have hl:=hr r<|A18 e;lia
 .cases h
theorem Um(k:GOk g)(p:Pl):p∈seats g p:=by have hw:=k.w1;have hd:=k.d1;unfold seats iE gC;simp only[B19,A26,A02];exact⟨0,by lia,0,by lia,by simp⟩
theorem Kq(H:Hall rows C)(k:GOk g)(h:cO rows g p=Ch):p∈places rows C g:=by
 refine A60.mpr ⟨w5.mpr ?_,h⟩;unfold cO at h;rw[A46,A36]at h;have:=h.1 p<|Um k p;cases e:b_ rows p with
 |none=>rw[e]at this;cases this
 |some c=>exact Iw H.len e
structure Ext(cs hs:List GO):Prop where
 gs:cs.map (·.1)=hs.map (·.1)
 sub:∀(i:Nat)(g:G)(p:Pl),cs[i]?=AC (g,AC p)->hs[i]?=AC (g,AC p)
theorem Ext.len(e:Ext cs hs):cs.length=hs.length:=by have:=A15 List.length e.gs;rwa [A06,A06]at this
theorem Ext.at(e:Ext cs hs){k:Nat}(h:cs[k]?=AC (g,o)):∃o',hs[k]?=AC (g,o')/\(∀p,o=AC p->o'=AC p):=by
 have hl:=(A07.mp h).1;rw[e.len]at hl;obtain⟨⟨g',o'⟩,e'⟩:∃x,hs[k]?=AC x:=⟨_,A03 hl⟩
 have z:=A15 (λ l=>l[k]?) e.gs;simp only[A08,h,e',A68,B13]at z;subst z;refine⟨o',e',λ p hp=>?_⟩;subst hp;have:=e.sub k g p h;rw[e']at this;exact(Prod.mk.inj<|A04 this).2
theorem zip_map{α:Type}(f h:α->D):∀xs:γ α,jR (xs.map f) (xs.map h)=xs.map λ x=>.tup [f x,h x]
|[]=>rfl
|x::xs=>by simp[jR,zip_map f h xs];rfl
open KH
def cN:γ Nat->Nat
|[]=>1
|n::r=>n*cN r
theorem kG:∀a b,cN (a++b)=cN a*cN b
|[],b=>by simp[cN]
|n::a,b=>by simp[cN,kG a b,Nat.mul_assoc]
theorem wM:∀{l},(∀n∈l,0<n)->0<cN l
|[],_=>Nat.one_pos
|n::l,h=>Nat.mul_pos (h n A11)<|wM λ m hm=>h m<|A09 _ hm
def gA(rows:Rows)(C:Nat)(x:GO):Nat:=match x.2 with
|none=>(places rows C x.1).length+1
|some _=>1
theorem tD(rows:Rows)(C:Nat)(x:GO):0<gA rows C x:=by unfold gA;split<;>lia
def cB(rows:Rows)(C:Nat)(xs:γ GO):Nat:=cN<|xs.map<|gA rows C
theorem HR(xs:γ GO):0<cN (xs.map<|gA rows C):=wM λ n hn=>by let⟨x,_,rfl⟩:=A02.mp hn;exact tD rows C x
theorem FJ(xs:γ GO)(j:Nat):cN ((xs.take j).map<|gA rows C)<=cB rows C xs:=by
 unfold cB;have e:xs.map (gA rows C)=(xs.take j).map (gA rows C)++(xs.drop j).map (gA rows C):=by rw[<-A39,C60]
 rw[e,kG];exact Nat.le_mul_of_pos_right _<|HR _
theorem qi{xs:γ GO}(h:xs[j]?=AC x):cN ((xs.take<|j+1).map<|gA rows C)=cN ((xs.take j).map<|gA rows C)*gA rows C x:=by rw[take_snoc h,A39,kG];simp[cN]
theorem D7(H:Hall rows C)(h6:xs.length<=6)(hg:∀x∈xs,GOk x.1)(ef:bE [bg rows,aM xs,fd]=.ok (aH xs)):jJ [bg rows,aM xs,fd]=.ok (.int<|cB rows C xs):=by
 rw[N?];refine aP ?_;simp[DH,ef];unfold aM aH at *;simp[zip_map];refine f9 (λ i ρ=>∃x4 x5,ρ=[v _,v _,v fd,vi (cN<|(xs.take i).map<|gA rows C),x4,x5]) ⟨At,At,rfl⟩ ?_ ?_
 .rintro j d ρ hj ⟨x4,x5,rfl⟩;rw[A08]at hj;let⟨⟨g,o⟩,hx,rfl⟩:=C61.mp hj;have gX:∀ρ,iA [4,5] (.tup [a6 g,cy o]) ρ=.ok _:=λ ρ=>rfl;rw[qi hx];generalize cN _=m;cases o with
  |some p=>have en:gD (bh p)=.ok _:=rfl;simp[gX,cy,en,gA]
  |none=>have pl:=places_of_ok H<|hg _<|A18 hx;have fQ:=places_len H g;rw[show gA rows C (g,At)=(places rows C g).length+1 from rfl];generalize places rows C g=ps at pl fQ ⊢;have q1:bW (m) ((ps.length)+1):=ol<|Or.inl ⟨by lia,by lia⟩;simp[gX,cy,pl,q1]
 .rintro ρ ⟨x4,x5,rfl⟩;rw[A06,B61];simp[cB]
theorem z9(H:Hall rows C)(h6:xs.length<=6)(hg:∀x∈xs,GOk x.1)(ef:bE [bg rows,aM xs,fd]=.ok (aH xs))(hw:cB rows C xs<=2000):d6 [bg rows,aM xs,fd]=.ok (aH xs):=by
 have ew:=D7 H h6 hg ef;rw[uK];refine aP ?_;have:¬(2000:Int)<(cB rows C xs):=by lia
 simp[jZ,ew,ef,this]
def j4(rows:Rows)(C:Nat)(sm:Bool)(g:G)(k:Nat)(cs:γ GO):γ (γ GO):=(da rows C cs g k).map (λ p=>cs.set k (g,AC p))++if sm then[cs]else[]
theorem z5:(j4 rows C sm g k cs).length<=(places rows C g).length+1:=by have:=A63 (openAt cs g k)<|places rows C g;unfold j4 da;cases sm<;>simp<;>lia
theorem uI{α β:Type}{f:α->γ β}:∀{L:γ α},(∀x∈L,(f x).length<=m)->(L.flatMap f).length<=L.length*m
|[],_=>by simp
|x::L,h=>by have:=uI λ y hy=>h y<|A09 _ hy;have hx:=h x A11;rw[List.flatMap_cons,A30,A34,Nat.add_mul,Nat.one_mul];lia
theorem Kg(h:cs.map (·.1)=xs.map (·.1)):aM cs=aM xs:=by have:=A15 (List.map a6) h;rw[A20,A20]at this;exact A15 D.tup this
theorem Gb(H:Hall rows C){cs:γ GO}(h6:cs.length<=6){k:Nat}(hk:cs[k]?=AC (g,At)):KH.eP [.tup ((places rows C g).map bh),a6 g,.lst ((mX cs).map pU)]=.ok (.tup<|(da rows C cs g k).map bh):=by
 have hl:=(A07.mp hk).1;have GS:=mE cs;have ho:=ny _ g (ss:=mX cs) (places_len H g) ∅;have RF:cs.set k (g,At)=cs:=by have:=(A07.mp hk).2;rw[<-this];exact C62 hl
 have he:(places rows C g).filter (λ p=>(mX cs).all λ x=>d? g p x.1 x.2)=da rows C cs g k:=by refine wE λ p _=>?_;have:=z! (g:=g) hk p;simp only at this;rw[RF]at this;exact this
 rw[he]at ho;exact ho
theorem An(H:Hall rows C){xs:γ GO}(h6:xs.length<=6)(hg:∀x∈xs,GOk x.1){k:Nat}{g:G}(hk:xs[k]?=AC (g,At))(sm:Bool){L:γ (γ GO)}(hL:∀cs∈L,cs.map (·.1)=xs.map (·.1)/\cs[k]?=AC (g,At))(hB:L.length*((places rows C g).length+1)<=1000000):
 fG [bg rows,aM xs,.lst (L.map aH),.int (k:Nat),.bl sm]=.ok (.lst<|(L.flatMap<|j4 rows C sm g k).map aH):=by
 rw[qO];refine aP ?_;have ixg:aR (aM xs) (.int (k:Nat))=.ok (a6 g):=(iM (xs:=xs.map λ y:GO=>a6 y.1) (i:=k) (j:=k) rfl (by rw[A08,hk];rfl)).1;have pl:=places_of_ok H<|hg _<|A18 hk;simp[iI,ixg,pl,line];refine f9 (λ i ρ=>∃x7 x8,ρ=[v (bg rows),v (aM xs),v (.lst<|L.map aH),vi (k:Nat),v (.bl sm),v (.tup<|(places rows C g).map bh),ow (((L.take i).flatMap<|j4 rows C sm g k).map aH),x7,x8]) ⟨At,At,by simp⟩ ?_ ?_
 .rintro i d ρ hi ⟨x7,x8,rfl⟩;rw[A08]at hi;let⟨cs,E3,rfl⟩:=C61.mp hi;let⟨e1,e2⟩:=hL cs (A18 E3);have kA:cs.length<=6:=by have:=A15 List.length e1;rw[A06,A06]at this;lia
  have ht:=o3 (xs:=cs) ∅;rw[show D.tup (cs.map λ x=>a6 x.1)=aM cs from rfl,show D.tup (cs.map λ x=>cy x.2)=aH cs from rfl,Kg e1]at ht;have ho:=Gb H kA e2;have A1:i<L.length:=(A07.mp E3).1;have LN:((L.take i).flatMap<|j4 rows C sm g k).length<=(L.take i).length*((places rows C g).length+1):=uI λ x _=>z5;rw[A24,A70<|A76 A1]at LN;have aeM:i*((places rows C g).length+1)+((places rows C g).length+1)<=L.length*((places rows C g).length+1):=by rw[<-B26];exact B21 _ A1
  rw[take_snoc E3,List.flatMap_append];generalize (L.take i).flatMap (j4 rows C sm g k)=fs at LN;have _w:=A63 (openAt cs g k)<|places rows C g;have RK:(da rows C cs g k).length<=(places rows C g).length:=_w;have HB:(da rows C cs g k).length<=16777216:=by lia
  have ho3:fs.length+(da rows C cs g k).length<=16777216:=by lia
  have ho4:fs.length+(da rows C cs g k).length<16777216:=by lia
  simp[ht,ixg,ho,bu,eX,dN,line,HB];refine b8 bh (λ _=>Ch) (λ p=>aH<|cs.set k (g,AC p)) (λ p hp=>?_) ?_
  .simp[(tw kA e2 p).1]
  .rw[kT];cases sm with
   |true=>simp[line,ho3,ho4,j4]
   |false=>simp[line,ho3,j4]
 .rintro ρ ⟨x7,x8,rfl⟩;rw[A06,B61];simp
open KH
def cM(rows:Rows)(C:Nat)(sm:Bool)(xs:γ GO):Nat->γ (γ GO)
|0=>[xs]
|j+1=>match xs[j]? with
 |some (g,At)=>(cM rows C sm xs j).flatMap<|j4 rows C sm g j
 |_=>cM rows C sm xs j
section
variable{rows:Rows}{C:Nat}{sm:Bool}{xs:γ GO}
theorem i8{j:Nat}(h:xs[j]?=AC (g,At)):cM rows C sm xs (j+1)=(cM rows C sm xs j).flatMap (j4 rows C sm g j):=by simp only[cM,h]
theorem i7{j:Nat}(h:xs[j]?=AC (g,AC p)):cM rows C sm xs (j+1)=cM rows C sm xs j:=by simp only[cM,h]
theorem wJ:∀{j},j<=xs.length->(cM rows C sm xs j).length<=cN ((xs.take j).map<|gA rows C)
|0,_=>by simp[cM,cN]
|j+1,hj=>by
 have ih:=wJ (j:=j) ∅;obtain⟨⟨g,o⟩,e⟩:∃x,xs[j]?=AC x:=⟨_,A03 ∅⟩
 rw[qi e];cases o with
 |some p=>rw[i7 e,show gA rows C (g,AC p)=1 from rfl,Nat.mul_one];exact ih
 |none=>rw[i8 e];exact A13 (uI λ x _=>z5)<|B21 _ ih
structure Fz(rows:Rows)(sm:Bool)(xs:List GO)(j:Nat)(z:List GO):Prop where
 gs:z.map (·.1)=xs.map (·.1)
 rest:∀i:Nat,j<=i->z[i]?=xs[i]?
 ext:Ext xs z
 good:Good rows z
 full:sm=AT->∀(i:Nat)(g:G),i<j->z[i]?≠AC (g,At)
theorem Mh{j:Nat}(e:xs[j]?=AC (g,At))(h:Fz rows sm xs j z)(hy:y∈j4 rows C sm g j z):Fz rows sm xs (j+1) y:=by
 have hz:=(h.rest j<|v4 _).trans e;have hl:=(A07.mp hz).1;rcases A37.mp hy with hy|hy
 .let⟨p,hp,rfl⟩:=A02.mp hy;let⟨h1,h2⟩:=A60.mp hp;have gs:(z.set j (g,AC p)).map (·.1)=xs.map (·.1):=by
   rw[<-h.gs];refine B74 λ i=>?_;rw[A08,A08,A33];split
   .rename_i ei;subst ei;rw[hz];rfl
   .rfl
  refine⟨gs,λ i hi=>?_,⟨gs.symm,λ i g' q ei=>?_⟩,h.good.put hz (KH.nD h1) h2,λ hs i g' hi=>?_⟩
  .rw[A33,W1 ∅];exact h.rest i ∅
  .have:=h.ext.sub i g' q ei;rw[A33];split
   .rename_i ej;subst ej;rw[hz]at this;cases this
   .exact this
  .rw[A33];split
   .rename_i ej;subst ej;intro q;cases q
   .exact h.full hs i g' ∅
 .cases sm with
  |false=>simp at hy
  |true=>
   have:y=z:=by simpa using hy
   subst this;exact⟨h.gs,λ i hi=>h.rest i ∅,h.ext,h.good,λ hs=>nomatch hs⟩
theorem o8(hk:Good rows xs):∀{j},j<=xs.length->∀z∈cM rows C sm xs j,Fz rows sm xs j z
|0,_,z,hz=>by
 have:z=xs:=by simpa[cM]using hz
 subst this;exact⟨rfl,λ _ _=>rfl,⟨rfl,λ _ _ _ e=>e⟩,hk,λ _ i g hi=>absurd hi<|Nat.not_lt_zero _⟩
|j+1,hj,z,hz=>by
 obtain⟨⟨g,o⟩,e⟩:∃x,xs[j]?=AC x:=⟨_,A03 ∅⟩
 have ih:=o8 hk (j:=j) ∅;cases o with
 |some p=>
  rw[i7 e]at hz;have h:=ih z hz;refine⟨h.gs,λ i hi=>h.rest i ∅,h.ext,h.good,λ hs i g' hi=>?_⟩;by_cases sR:i=j
  .subst sR;rw[h.rest i<|v4 _,e];intro q;cases q
  .exact h.full hs i g' ∅
 |none=>rw[i8 e]at hz;let⟨y,hy,hzy⟩:=B19.mp hz;exact Mh e (ih y hy) hzy
theorem Aa(H:Hall rows C)(hg:∀x∈xs,GOk x.1)(e:Ext xs z)(hz:Good rows z)(hs:sm=Ch\/∀(i:Nat) g,z[i]?≠AC (g,At)):∀{j},j<=xs.length->z.take j++xs.drop j∈cM rows C sm xs j
|0,_=>by simp[cM]
|j+1,hj=>by
 have ih:=Aa H hg e hz hs (j:=j) ∅;have _d:=e.len;obtain⟨⟨g,o⟩,ex⟩:∃x,xs[j]?=AC x:=⟨_,A03 ∅⟩
 let⟨o',ez,ho⟩:=e.at ex;have hjl:j<xs.length:=by lia
 have hjz:j<z.length:=by lia
 have d1:xs.drop j=(g,o)::xs.drop (j+1):=by rw[A83 hjl];rw[A03 hjl]at ex;rw[A04 ex]
 have t1:=take_snoc ez;have tl:(z.take j).length=j:=by rw[A24];lia
 cases o with
 |some p=>rw[ho p rfl]at t1;rw[i7 ex,t1,B06];rw[d1]at ih;exact ih
 |none=>
  rw[i8 ex];refine B19.mpr ⟨_,ih,?_⟩;rw[d1];cases o' with
  |none=>
   rcases hs with rfl|hs
   .refine A43 _ ?_;rw[t1,B06];simp
   .exact absurd ez<|hs j g
  |some p=>
   refine A77 _<|A02.mpr ⟨p,?_,?_⟩
   .let⟨f,ap⟩:=hz j g p ez;refine A60.mpr ⟨Kq H (hg _<|A18 ex) f,nW.mpr λ i g' q ei ne=>?_⟩;rw[<-d1]at ei;refine ap i g' q ?_ ne;by_cases hi:i<j
    .rw[A35 (by rw[tl];exact hi),C46 hi]at ei;exact ei
    .rw[A45 (by rw[tl];lia),C39,tl,show j+(i-j)=i by lia]at ei;exact e.sub i g' q ei
   .rw[t1,B06,List.set_append_right _ _ (by rw[tl];exact v4 _),tl,Nat.sub_self];rfl
theorem t6(H:Hall rows C)(hg:∀x∈xs,GOk x.1)(e:Ext xs z)(hz:Good rows z)(hs:sm=Ch\/∀(i:Nat) g,z[i]?≠AC (g,At)):z∈cM rows C sm xs xs.length:=by have:=Aa H hg e hz hs<|v4 _;rw[B57,A52,e.len,B61]at this;rw[e.len];exact this
theorem E!(H:Hall rows C)(h6:xs.length<=6)(hg:∀x∈xs,GOk x.1)(hk:Good rows xs)(hw:cB rows C xs<=2000):d9 [bg rows,aM xs,aH xs,.bl sm]=.ok (.lst<|(cM rows C sm xs xs.length).map aH):=by
 rw[qP];refine aP ?_;have hl:cQ (aM xs)=.ok (.int xs.length):=by simp[aM]
 simp[iJ,hl,line];refine f9 (λ i ρ=>∃x5,ρ=[v (bg rows),v (aM xs),v (aH xs),v (.bl sm),v (.lst<|(cM rows C sm xs i).map aH),x5]) ⟨At,rfl⟩ ?_ ?_
 .rintro j d ρ hj ⟨x5,rfl⟩;let⟨BQ,rfl⟩:=ints_get hj;obtain⟨⟨g,o⟩,e⟩:∃x,xs[j]?=AC x:=⟨_,A03 BQ⟩
  have ix:aR (aH xs) (.int<|j)=.ok (cy o):=(iM rfl (by rw[A08,e];rfl)).1;cases o with
  |some p=>have en:gD (bh p)=.ok (.bl AT):=rfl;rw[i7 e];simp[ix,cy,en]
  |none=>
   have hi:=o8 (C:=C) (sm:=sm) hk (j:=j) ∅;have ψ:=wJ (rows:=rows) (C:=C) (sm:=sm) (xs:=xs) (j:=j) ∅;have h1:=FJ (rows:=rows) (C:=C) xs<|j+1;rw[qi e,show gA rows C (g,At)=(places rows C g).length+1 from rfl]at h1;have hB:(cM rows C sm xs j).length*((places rows C g).length+1)<=1000000:=by have:=B21 ((places rows C g).length+1) ψ;lia
   have om:=An H h6 hg e sm (L:=cM rows C sm xs j) (λ cs E3=>⟨(hi cs E3).gs,((hi cs E3).rest j<|v4 _).trans e⟩) hB;rw[i8 e];simp[ix,cy,om]
 .rintro ρ ⟨x5,rfl⟩;rw[gG];simp
def dY{α:Type}(mx:Bool)(w:α->Int)(b:α):γ α->α
|[]=>b
|x::r=>if HG mx (w x) (w b)=Ch then dY mx w x r else dY mx w b r
theorem o!{enc:α->D}:∀r b,(∀x∈r,e (enc x)=.ok (w x))->Kk mx e (enc b) (w b) (r.map enc)=.ok (enc<|dY mx w b r)
|[],b,_=>rfl
|x::r,b,h=>by
 have hx:=h x A11;have hr:=λ y hy=>h y<|A09 _ hy;rw[f8];unfold Kk dY;rw[hx];simp only[Res.mH];split
 .exact o! r x hr
 .exact o! r b hr
theorem mG{w:α->Int}:∀r b,dY mx w b r=b\/dY mx w b r∈r
|[],b=>.inl rfl
|x::r,b=>by
 unfold dY;split
 .rcases mG r x with h|h
  .rw[h];exact .inr A11
  .exact .inr<|A09 _ h
 .rcases mG r b with h|h
  .exact .inl h
  .exact .inr<|A09 _ h
theorem j7{w:α->Int}:∀r b,w b<=w (dY Ch w b r)/\∀x∈r,w x<=w (dY Ch w b r)
|[],b=>⟨Int.le_refl _,λ x h=>by cases h⟩
|x::r,b=>by
 unfold dY;by_cases hb:HG Ch (w x) (w b)=Ch
 .rw[M2 hb];let⟨h1,h2⟩:=j7 (w:=w) r x;have:w b<w x:=by simpa[HG]using hb
  exact⟨by lia,λ y hy=>by
   rcases A00.mp hy with rfl|hy
   .exact h1
   .exact h2 y hy⟩
 .rw[W1 hb];let⟨h1,h2⟩:=j7 (w:=w) r b;have:w x<=w b:=by simpa[HG]using hb
  exact⟨h1,λ y hy=>by
   rcases A00.mp hy with rfl|hy
   .lia
   .exact h2 y hy⟩
def wS(z:γ GO):Int:=(z.map wO).sum
theorem R7{z:γ GO}(hg:∀x∈xs,GrpG x.1)(h:z.map (·.1)=xs.map (·.1)):∀x∈z,GrpG x.1:=λ x hx=>by
 have:x.1∈xs.map (·.1):=by rw[<-h];exact A02.mpr ⟨x,hx,rfl⟩
 let⟨y,hy,e⟩:=A02.mp this;rw[<-e];exact hg y hy
theorem JR{z:γ GO}(h:z.map (·.1)=xs.map (·.1)):z.length=xs.length:=by have:=A15 List.length h;rwa [A06,A06]at this
theorem tq(h6:xs.length<=6)(hg:∀x∈xs,GrpG x.1)(h:z.map (·.1)=xs.map (·.1)):cC [aM xs,aH z]=.ok (.int<|wS z):=by have:=zB (by rw[JR h];exact h6)<|R7 hg h;rw[show D.tup _=aM z from rfl,Kg h]at this;exact this
theorem Ln(h6:xs.length<=6)(hg:∀x∈xs,GrpG x.1)(hL:∀z∈b::r,z.map (·.1)=xs.map (·.1)):fU [aM xs,.lst ((b::r).map aH)]=.ok (aH<|dY Ch wS b r):=by
 rw[nJ];refine aP ?_;have ke:∀z∈b::r,vO (aD cC<|aa (eV 1)<|aa (eV 0) aC) [v (aM xs)] (aH z)=.ok (wS z):=λ z hz=>by refine JY ?_;simp[tq h6 hg<|hL z hz]
 have pk:=o! (mx:=Ch) r b λ z hz=>ke z<|A09 _ hz;have kb:=ke b A11;have e:yY Ch (.ok .non) (eW 1) [0] (aD cC<|aa (eV 1)<|aa (eV 0) aC) [v (aM xs),v (.lst<|(b::r).map aH)]=.ok (aH<|dY Ch wS b r):=by show pickK Ch (.ok .non) (vO _ [v _]) (aH b::r.map aH)=_;unfold pickK;dsimp only;rw[kb];exact pk
 simp only[f8]at e;simp[gO,e]
theorem Ho:fU [aM xs,.lst []]=.ok .non:=by rw[nJ];refine aP ?_;have e:yY Ch _ (eW 1) [0] (aD cC<|aa (eV 1)<|aa (eV 0) aC) [v (aM xs),v (.lst [])]=.ok .non:=rfl;simp[gO,e]
end
open KH
open KH
open KH
open KH
def ltO:ε Pl->ε Pl->Prop
|some p,AC q=>JP p q
|some _,At=>True
|_,_=>False
def Pj(a b:γ GO):Prop:=∃(i:Nat)(g:G)(o o':ε Pl),(∀j,j<i->a[j]?=b[j]?)/\a[i]?=AC (g,o)/\b[i]?=AC (g,o')/\ltO o o'
theorem EO(p:Pl):¬JP p p:=by unfold JP;lia
theorem Rl(h:ltO o o'):o≠o':=by
 rintro rfl;cases o with
 |none=>exact h
 |some p=>exact EO p h
section
variable{C:Nat}{sm:Bool}
theorem yj(cs:γ GO)(g:G)(k:Nat):(da rows C cs g k).Pairwise JP:=(vD rows C g).filter _
theorem z0{cs:γ GO}{k:Nat}(hk:cs[k]?=AC (g,At)):(j4 rows C sm g k cs).Pairwise Pj:=by
 have hl:=(A07.mp hk).1;have at_:∀p,(cs.set k (g,AC p))[k]?=AC (g,AC p):=λ p=>by rw[A33,M2 rfl,M2 hl]
 have off:∀p j,j<k->(cs.set k (g,AC p))[j]?=cs[j]?:=λ p j hj=>by rw[A33,W1 ∅]
 refine C33.mpr ⟨?_,?_,?_⟩
 .rw[B71];exact(yj cs g k).imp λ {p q} h=>⟨k,g,_,_,λ j hj=>by rw[off p j hj,off q j hj],at_ p,at_ q,h⟩
 .cases sm<;>simp
 .intro a ha b hb;let⟨p,_,rfl⟩:=A02.mp ha;cases sm with
  |false=>simp at hb
  |true=>
   have:b=cs:=by simpa using hb
   subst this;exact⟨k,g,_,At,λ j hj=>off p j hj,at_ p,hk,trivial⟩
theorem step_at(h:y∈j4 rows C sm g k cs)(j:Nat)(hj:j≠k):y[j]?=cs[j]?:=by
 rcases A37.mp h with h|h
 .let⟨p,_,rfl⟩:=A02.mp h;rw[A33,W1<|A05 hj]
 .cases sm with
  |false=>simp at h
  |true=>
   have:y=cs:=by simpa using h
   rw[this]
theorem rl(hk:Good rows xs):∀{j},j<=xs.length->(cM rows C sm xs j).Pairwise Pj
|0,_=>by simp[cM]
|j+1,hj=>by
 have ih:=rl hk (j:=j) ∅;have hi:=o8 (C:=C) (sm:=sm) hk (j:=j) ∅;obtain⟨⟨g,o⟩,e⟩:∃x,xs[j]?=AC x:=⟨_,A03 ∅⟩
 cases o with
 |some p=>rw[i7 e];exact ih
 |none=>
  rw[i8 e];refine List.pairwise_flatMap.mpr ⟨λ a ha=>z0<|((hi a ha).rest j<|v4 _).trans e,C63 ?_ ih⟩;rintro a b ha hb ⟨i,g',o,o',h1,h2,h3,h4⟩ x hx y hy;have sR:i<j:=by refine Nat.lt_of_not_le λ z=>?_;have e1:=(hi a ha).rest i z;have e2:=(hi b hb).rest i z;rw[h2]at e1;rw[h3,<-e1]at e2;exact Rl h4 (Prod.mk.inj<|A04 e2).2.symm
  refine⟨i,g',o,o',λ m hm=>?_,?_,?_,h4⟩
  .rw[step_at hx m ∅,step_at hy m ∅];exact h1 m hm
  .rw[step_at hx i ∅];exact h2
  .rw[step_at hy i ∅];exact h3
end
open Classical in
noncomputable def pC(le:Bool):γ Pl->γ Pl->Bool
|[],[]=>le
|[],_::_=>Ch
|_::_,[]=>AT
|p::ps,q::qs=>if p=q then pC le ps qs else decide (JP p q)
def nr(z:γ GO):γ Pl:=z.filterMap (·.2)
def Full(z:γ GO):Prop:=∀(i:Nat)(g:G),z[i]?≠AC (g,At)
theorem E9(h:Full (x::z)):(∃p,x.2=AC p)/\Full z:=by
 refine⟨?_,λ i g e=>h (i+1) g (by simpa using e)⟩;let⟨g,o⟩:=x;cases o with
 |none=>exact absurd rfl<|h 0 g
 |some p=>exact⟨p,rfl⟩
open Classical in
theorem yD(le:Bool):∀{a b},Full a->Full b->Pj a b->pC le (nr a) (nr b)=Ch/\pC le (nr b) (nr a)=AT
|[],b,_,_,⟨i,g,o,o',_,h,_⟩=>by simp at h
|_::_,[],_,_,⟨i,g,o,o',_,_,h,_⟩=>by simp at h
|(ga,oa)::a,(gb,ob)::b,fa,fb,⟨i,g,o,o',h1,h2,h3,h4⟩=>by
 let⟨⟨p,e1⟩,fa'⟩:=E9 fa;let⟨⟨q,e2⟩,fb'⟩:=E9 fb;cases e1;cases e2;have ea:nr ((ga,AC p)::a)=p::nr a:=by simp[nr]
 have eb:nr ((gb,AC q)::b)=q::nr b:=by simp[nr]
 rw[ea,eb];cases i with
 |zero=>
  simp at h2 h3;let⟨rfl,rfl⟩:=h2;let⟨_,rfl⟩:=h3;have _u:JP p q:=h4;have ne:p≠q:=λ z=>EO q<|z▸_u;have nq:¬JP q p:=by unfold JP at _u ⊢;lia
  simp[pC,ne,A05 ne,_u,nq]
 |succ i=>have h0:=h1 0<|Nat.succ_pos _;simp at h0;let⟨rfl,rfl⟩:=h0;let⟨r1,r2⟩:=yD le fa' fb' ⟨i,g,o,o',λ j hj=>by simpa using h1 (j+1) ∅,by simpa using h2,by simpa using h3,h4⟩;simp only[pC,A25];exact⟨r1,r2⟩
theorem N8(h:Fz rows AT xs xs.length z):Full z:=λ i g e=>by have hl:=(A07.mp e).1;rw[JR h.gs]at hl;exact h.full rfl i g hl e
open KH
theorem nV(w:α->Int):∀r b,∃t,(b::r).filter (λ z=>decide<|w z=w (dY Ch w b r))=dY Ch w b r::t
|[],b=>⟨[],by simp[dY]⟩
|x::r,b=>by
 unfold dY;by_cases hb:HG Ch (w x) (w b)=Ch
 .rw[M2 hb];let⟨t,e⟩:=nV w r x;have h1:=(j7 (w:=w) r x).1;have kz:w b<w x:=by simpa[HG]using hb
  have:¬w b=w (dY Ch w x r):=by lia
  exact⟨t,by rw[B20 (by simpa using this)];exact e⟩
 .rw[W1 hb];let⟨t,e⟩:=nV w r b;have h1:=(j7 (w:=w) r b).1;have hle:w x<=w b:=by simpa[HG]using hb
  by_cases he:w b=w (dY Ch w b r)
  .rw[B70 (by simpa using he)]at e ⊢;injection e with e1 e2
   exact⟨_,by rw[<-e1]⟩
  .rw[B20 (by simpa using he)]at e;have hx:¬w x=w (dY Ch w b r):=by lia
   exact⟨t,by rw[B20 (by simpa using he),B20 (by simpa using hx)];exact e⟩
theorem Cw(so:(b::r).Pairwise Pj):∀z∈b::r,wS z=wS (dY Ch wS b r)->z=dY Ch wS b r\/Pj (dY Ch wS b r) z:=by
 let⟨t,ht⟩:=nV wS r b;intro z hz he;have so2:=so.filter λ z=>decide<|wS z=wS (dY Ch wS b r);have hm:z∈(b::r).filter (λ z=>decide<|wS z=wS _):=A60.mpr ⟨hz,by simpa using he⟩;rw[ht]at so2 hm;rcases A00.mp hm with h|h
 .exact .inl h
 .exact .inr<|(C36.mp so2).1 z h
theorem Nk(fa:Full a)(fb:Full b)(h1:Pj a b)(h2:Pj b a):False:=by have e1:=(yD AT fa fb h1).1;have e2:=(yD AT fb fa h2).2;rw[e1]at e2;cases e2
structure oP(rows:Rows)(C:Nat)(xs m:List GO):Prop where
 ext:Ext xs m
 good:Good rows m
 full:Full m
 most:∀z,Ext xs z->Good rows z->Full z->wS z<=wS m/\(wS z=wS m->z=m\/Pj m z)
theorem uF(H:Hall rows C)(hg:∀x∈xs,GOk x.1)(e:Ext xs z)(gz:Good rows z)(fz:Full z):z∈cM rows C AT xs xs.length:=t6 H hg e gz<|.inr fz
theorem Fu(H:Hall rows C)(hg:∀x∈xs,GOk x.1)(hk:Good rows xs)(e:cM rows C AT xs xs.length=b::r):oP rows C xs (dY Ch wS b r):=by
 have hi:=o8 (C:=C) (sm:=AT) hk<|v4 _;have so:=rl (C:=C) (sm:=AT) hk<|v4 _;rw[e]at hi so;have RP:dY Ch wS b r∈b::r:=by
  rcases mG r b with h|h
  .rw[h];exact A11
  .exact A09 _ h
 let⟨h1,h2⟩:=j7 (w:=wS) r b;refine⟨(hi _ RP).ext,(hi _ RP).good,N8<|hi _ RP,λ z ez gz fz=>?_⟩;have hz:=uF H hg ez gz fz;rw[e]at hz;refine⟨?_,Cw so z hz⟩;rcases A00.mp hz with rfl|h
 .exact h1
 .exact h2 z h
theorem oP.uniq(h:oP rows C xs m)(h':oP rows C xs m'):m'=m:=by
 have a:=h.most m' h'.ext h'.good h'.full;have b:=h'.most m h.ext h.good h.full;have e:wS m'=wS m:=by lia
 rcases a.2 e with z|z
 .exact z
 .rcases b.2 e.symm with y|y
  .exact y.symm
  .exact(Nk h.full h'.full z y).elim
end KB
set_option maxRecDepth 4000
namespace KC
open Z KG KH KB
def jm:SF:=(a7<|uM (eU (j' .int)<|eW 0)<|Oh<|eU (j' .bool)<|eW 0)
def gi:γ D->Res D:=fn 1 1 jm
def cH:SF:=(a7<|uM (aD gi<|aa (eV 0) aC)<|iH oLe oLe (eW 1) (eW 0)<|eW 2)
def bp:γ D->Res D:=fn 3 3 cH
def gN:SF:=(aS (bc 3<|aD KB.d9<|aa (eV 0)<|aa (eV 1)<|aa (aD KB.d6<|aa (eV 0)<|aa (eV 1)<|aa (eV 2) aC)<|aa (eC<|.bl AT) aC)<|a7<|YB (tE<|eB Gm (eU cQ<|eW 3)<|eC<|.int 0) (eB aR (eW 3)<|eC<|.int 0)<|eC .non)
def fW:γ D->Res D:=fn 3 4 gN
theorem sx(x0 x1 x2:D):fW [x0,x1,x2]=bJ (gN [AC (.val x0),AC (.val x1),AC (.val x2),At]):=cI _ _ _ _ rfl
def lx:SF:=(a7<|eL<|bS (eJ<|eW 1) 1 [0] (aW 0) bZ<|aD KG.fH<|aa (eV 1)<|aa (eV 0) aC)
def ik:γ D->Res D:=fn 2 2 lx
theorem v?(x0 x1:D):ik [x0,x1]=bJ (lx [AC (.val x0),AC (.val x1)]):=cI _ _ _ _ rfl
def oE:SF:=(a7<|aD KH.eP<|aa (eB aR (eW 1)<|eW 3)<|aa (eB aR (eW 0)<|eW 3)<|aa (aD KG.cb<|aa (eV 0)<|aa (eV 2) aC) aC)
def cT:γ D->Res D:=fn 4 4 oE
theorem Ba(x0 x1 x2 x3:D):cT [x0,x1,x2,x3]=bJ (oE [AC (.val x0),AC (.val x1),AC (.val x2),AC (.val x3)]):=cI _ _ _ _ rfl
def fA(self:γ D->Res D):SF:=(aS (bc 3<|eL<|bS (fT<|eU cQ<|eW 0) 1 [2] (aW 0) (tE<|eU gD<|eB aR (eW 1)<|eW 0)<|eV 0)<|aS (bc 4<|yY AT .bad (eW 3) [0,1,2]<|eU cQ<|aD cT<|aa (eV 1)<|aa (eV 2)<|aa (eV 3)<|aa (eV 0) aC)<|aS (bc 5<|aD cT<|aa (eV 0)<|aa (eV 1)<|aa (eV 2)<|aa (eV 4) aC)<|aS (gU (tE<|eB oEq (eW 5)<|eE aC) (a7<|eE<|aa (eC<|.str [115,116,117,99,107])<|aa (eV 4) aC) bw)<|aS (bc 6<|eL<|bS (eJ<|eW 5) 1 [0,1,2,4] (aW 0) bZ<|aD self<|aa (eV 1)<|aa (eV 2)<|aa (aD KH.cx<|aa (eV 3)<|aa (eV 4)<|aa (eV 0) aC) aC)<|a7<|eE<|aa (eC<|.str [101,97,99,104])<|aa (eV 4)<|aa (eU f7<|eW 6) aC)
def bD:Nat->γ D->Res D
|0=>λ _=>.bad
|k+1=>fn 3 7<|fA<|bD k
theorem lD(k:Nat)(x0 x1 x2:D):bD (k+1) [x0,x1,x2]=bJ (fA (bD k) [AC (.val x0),AC (.val x1),AC (.val x2),At,At,At,At]):=cI _ _ _ _ rfl
def lh:SF:=(aS (gU (tE<|eU lY<|aD fW<|aa (eV 0)<|aa (eV 1)<|aa (eV 2) aC) (a7<|eC .non) bw)<|a7<|aD (bD 9)<|aa (eV 1)<|aa (aD ik<|aa (eV 0)<|aa (eV 1) aC)<|aa (aD KB.bE<|aa (eV 0)<|aa (eV 1)<|aa (eV 2) aC) aC)
def gg:γ D->Res D:=fn 3 3 lh
theorem rL(x0 x1 x2:D):gg [x0,x1,x2]=bJ (lh [AC (.val x0),AC (.val x1),AC (.val x2)]):=cI _ _ _ _ rfl
end KC
set_option maxRecDepth 8000
namespace KC
open Z KG KB
open KH
def Ik:γ Nat:=[115,116,117,99,107]
def PK:γ Nat:=[101,97,99,104]
def Al(_:Rows)(_ _:Nat)(_:γ GO)(_:D):Bool:=Ch
def dA(rows:Rows)(C:Nat)(xs:γ GO):D:=.lst<|xs.map λ x=>.tup<|(places rows C x.1).map bh
theorem z7{rows:Rows}{C:Nat}(H:Hall rows C){xs:γ GO}(h6:xs.length<=6){k:Nat}{g:G}(hk:xs[k]?=AC (g,At)):cT [aM xs,dA rows C xs,aH xs,.int (k:Nat)]=.ok (.tup<|(da rows C xs g k).map bh):=by
 rw[Ba];refine aP ?_;have hl:k<xs.length:=(A07.mp hk).1;have i1:aR (dA rows C xs) (.int (k:Nat))=.ok (.tup<|(places rows C g).map bh):=(iM (xs:=xs.map λ y:GO=>D.tup ((places rows C y.1).map bh)) (i:=(k:Nat)) (j:=k) rfl (by rw[A08,hk];rfl)).2;have i2:aR (aM xs) (.int (k:Nat))=.ok (a6 g):=(iM (xs:=xs.map λ y:GO=>a6 y.1) (i:=(k:Nat)) (j:=k) rfl (by rw[A08,hk];rfl)).1;have ht:=o3 (xs:=xs) ∅;rw[show D.tup (xs.map λ x=>a6 x.1)=aM xs from rfl,show D.tup (xs.map λ x=>cy x.2)=aH xs from rfl]at ht;have GS:=mE xs;have ho:=ny (places rows C g) g (ss:=mX xs) (places_len H g) ∅;have RF:xs.set k (g,At)=xs:=by have:xs[k]=(g,At):=(A07.mp hk).2;rw[<-this];exact C62 hl
 have he:(places rows C g).filter (λ p=>(mX xs).all λ x=>d? g p x.1 x.2)=da rows C xs g k:=by unfold da;refine wE λ p _=>?_;have:=z! (g:=g) hk p;simp only at this;rw[RF]at this;exact this
 rw[he]at ho;simp[oE,i1,i2,ht,ho]
def nN(xs:γ GO):Nat:=xs.countP λ x=>x.2.isNone
theorem Jw:∀{xs:γ GO}{k:Nat}{g} p,xs[k]?=AC (g,At)->nN (xs.set k (g,AC p))+1=nN xs
|[],_,_,_,h=>by simp at h
|(h,o)::xs,0,g,p,e=>by simp at e;let⟨rfl,rfl⟩:=e;simp[nN]
|(h,o)::xs,k+1,g,p,e=>by have:=Jw p (by simpa using e);simp only[nN,nw,B35]at this ⊢;lia
def Ls:Nat->D->Prop
|0,_=>True
|n+1,d=>(∃xs,d=.lst xs)\/(∃w,d=.tup [.str w])\/(∃w b,d=.tup [.str w,b])\/∃w b c,d=.tup [.str w,b,c]/\∀ps,c=.tup ps->ps.length<=100000/\∀p∈ps,Ls n p
theorem Ah(h:xs[k]?=AC x)(o:ε Pl):dA rows C (xs.set k (x.1,o))=dA rows C xs:=by
 have e:=(A07.mp h).2;unfold dA;rw[C40]
 congr 1
 refine AA1 ∅ λ i h1 h2=>?_;rw[AA3];split
 .rename_i q;subst q;simp[e]
 .rfl
theorem wj(H:Hall rows C)(h6:xs.length<=6)(hg:∀x∈xs,GOk x.1):ik [bg rows,aM xs]=.ok (dA rows C xs):=by
 rw[v?];refine aP ?_;have hl:xs.length<=16777216:=by lia
 unfold aM;simp[lx,bu,eX,dN,hl];refine b8 (λ x:GO=>a6 x.1) (λ _=>Ch) (λ x=>.tup<|(places rows C x.1).map bh) ?_ ?_
 .intro x hx;simp[places_of_ok H<|hg x hx]
 .rw[kT];rfl
theorem Kr(H:Hall rows C)(h6:xs.length<=6)(hg:∀x∈xs,GOk x.1)(hk:Good rows xs)(hw:cB rows C xs<=2000)(ef:bE [bg rows,aM xs,fd]=.ok (aH xs)):
 fW [bg rows,aM xs,fd]=.ok (match cM rows C AT xs xs.length with|[]=>.non|z::_=>aH z):=by
 have fr:=E! (sm:=AT) H h6 hg hk hw;have sm:=z9 H h6 hg ef hw;rw[sx];refine aP ?_;cases e:cM rows C AT xs _ with
 |nil=>rw[e]at fr;simp only[A32]at fr;simp[gN,sm,fr]
 |cons z r=>
  rw[e]at fr;simp only[f8]at fr;have i0:=(iM (xs:=aH z::r.map aH) (i:=0) rfl rfl).2;have hl:(0)<(r.length)+1:=by lia
  simp[gN,sm,fr,i0]
def vb(rows:Rows)(xs:γ GO):Prop:=∀z,Ext xs z->Good rows z->∃(i:Nat)(g:G),z[i]?=AC (g,At)
theorem Gs(H:Hall rows C)(hg:∀x∈xs,GOk x.1)(h:cM rows C AT xs xs.length=[]):vb rows xs:=by intro z e gz;refine Classical.byContradiction λ hn=>?_;have:=t6 (sm:=AT) H hg e gz<|.inr λ i g q=>hn ⟨i,g,q⟩;rw[h]at this;cases this
theorem Ob{cs:γ GO}{k:Nat}(hk:cs[k]?=AC (g,At))(p:Pl):Ext cs (cs.set k (g,AC p)):=by
 have hl:=(A07.mp hk).1;refine⟨?_,λ i g' q hi=>?_⟩
 .refine B74 λ i=>?_;rw[A08,A08,A33];split
  .rename_i ei;subst ei;rw[hk];rfl
  .rfl
 .rw[A33];split
  .rename_i ej;subst ej;rw[hk]at hi;cases hi
  .exact hi
theorem vb.put(h:vb rows xs){k:Nat}(hk:xs[k]?=AC (g,At))(p:Pl):vb rows (xs.set k (g,AC p)):=λ z e gz=>
 have e1:=Ob hk p
 h z ⟨e1.gs.trans e.gs,λ i g p q=>e.sub i g p<|e1.sub i g p q⟩ gz
def lO(xs:γ GO)(k:Nat):Bool:=match xs[k]? with
|some (_,At)=>Ch
|_=>AT
theorem zG(h:lO xs k=Ch):∃g,xs[k]?=AC (g,At):=by
 unfold lO at h;split at h
 .rename_i g e;exact⟨g,e⟩
 .cases h
def opens(rows:Rows)(C:Nat)(xs:γ GO)(k:Nat):γ Pl:=match xs[k]? with
|some (g,_)=>da rows C xs g k
|none=>[]
theorem Wr(ps:γ Pl):oEq (.tup<|ps.map bh) (.tup [])=.ok (.bl ps.isEmpty):=by cases ps<;>rfl
theorem Jc(H:Hall rows C):∀(n:Nat)(xs:γ GO),xs.length<=6->(∀x∈xs,GOk x.1)->nN xs<n->Good rows xs->vb rows xs ->
 ∃d,bD n [aM xs,dA rows C xs,aH xs]=.ok d/\(∀m,Ls m d)/\Al rows C n xs d=Ch/\lY d=.ok (.bl Ch):=by
 intro n
 induction n with
 |zero=>intro xs _ _ h;lia
 |succ n ih=>
  intro xs h6 hg hn Yo HC;have NY:cQ (aM xs)=.ok (.int xs.length):=by simp[aM]
  have hl:xs.length<=16777216:=by lia
  -- who abh
  have qc:(Ev xs.length).filter (lO xs)≠[]:=λ z=>by let⟨i,g,e⟩:=HC xs ⟨rfl,λ _ _ _ e=>e⟩ Yo;have hi:i<xs.length:=(A07.mp e).1;have:i∈(Ev xs.length).filter (lO xs):=A60.mpr ⟨A26.mpr hi,by unfold lO;rw[e]⟩;rw[z]at this;cases this
  have hall:∀k∈(Ev xs.length).filter (lO xs),lO xs k=Ch:=λ k hk=>(A60.mp hk).2;generalize _K:(Ev xs.length).filter (lO xs)=ks at qc hall;cases ks with
  |nil=>exact absurd rfl qc
  |cons k0 kr=>
   have key:∀k∈k0::kr,vO (eU cQ<|aD cT<|aa (eV 1)<|aa (eV 2)<|aa (eV 3)<|aa (eV 0) aC) [v (aM xs),v (dA rows C xs),v (aH xs)] (.int (k:Nat))=.ok ((opens rows C xs k).length:Int):=λ k hk=>by let⟨g,e⟩:=zG (hall k hk);have so:=z7 H h6 e;refine JY ?_;simp[so,opens,e]
   have pk:=o! (mx:=AT) (e:=vO (eU cQ<|aD cT<|aa (eV 1)<|aa (eV 2)<|aa (eV 3)<|aa (eV 0) aC) [v (aM xs),v (dA rows C xs),v (aH xs)]) (enc:=λ k=>D.int (k:Nat)) (w:=λ k=>((opens rows C xs k).length:Int)) kr k0 λ k hk=>key k<|A09 _ hk;have mem:dY AT (λ k=>((opens rows C xs k).length:Int)) k0 kr∈k0::kr:=by
    rcases mG (mx:=AT) (w:=λ k=>((opens rows C xs k).length:Int)) kr k0 with h|h
    .rw[h];exact A11
    .exact A09 _ h
   generalize dY AT (λ k=>((opens rows C xs k).length:Int)) k0 kr=k at pk mem;let⟨g,hk⟩:=zG (hall k mem);have ex:∀x4 x5 x6,yY AT .bad (eW 3) [0,1,2] (eU cQ<|aD cT<|aa (eV 1)<|aa (eV 2)<|aa (eV 3)<|aa (eV 0) aC) [v (aM xs),v (dA rows C xs),v (aH xs),v (.lst<|(k0::kr).map λ k=>D.int (k:Nat)),x4,x5,x6]=.ok (.int (k:Nat)):=λ x4 x5 x6=>by show pickK AT .bad (vO (eU cQ<|aD cT<|aa (eV 1)<|aa (eV 2)<|aa (eV 3)<|aa (eV 0) aC) [v (aM xs),v (dA rows C xs),v (aH xs)]) (D.int (k0:Nat)::kr.map λ k=>D.int (k:Nat))=_;unfold pickK;dsimp only;rw[key k0 A11];exact pk
   have so:=z7 H h6 hk;have _w:=Gd H xs g k;have hop:∀p∈da rows C xs g k,cO rows g p=Ch/\openAt xs g k p=Ch:=λ p hp=>by let⟨h1,h2⟩:=A60.mp hp;exact⟨KH.nD h1,h2⟩
   have kg:=hg _<|A18 hk;have step:∀p∈da rows C xs g k,∃d,bD n [aM xs,dA rows C xs,aH (xs.set k (g,AC p))]=.ok d/\(∀m,Ls m d)/\Al rows C n (xs.set k (g,AC p)) d=Ch:=λ p hp=>by
    have n1:=Jw p hk;let⟨f1,f2⟩:=hop p hp;let⟨d,e1,e2,e3,_⟩:=ih (xs.set k (g,AC p)) (by rw[Mr];exact h6) (λ x hx=>by
     rcases C64 hx with z|z
     .exact hg x z
     .rw[z];exact kg) ∅ (Yo.put hk f1 f2) (HC.put hk p)
    rw[show aM (xs.set k (g,AC p))=aM xs from xp hk<|some p,show dA rows C (xs.set k (g,AC p))=dA rows C xs from Ah hk<|some p]at e1;exact⟨d,e1,e2,e3⟩
   obtain⟨f,hf⟩:∃f:Pl->D,∀p∈da rows C xs g k,bD n [aM xs,dA rows C xs,aH (xs.set k (g,AC p))]=.ok (f p)/\(∀m,Ls m (f p))/\Al rows C n (xs.set k (g,AC p)) (f p)=Ch:=by
    classical
    exact⟨λ p=>if h:p∈da rows C xs g k then(step p h).choose else .non,λ p hp=>by simp only[hp,A93];exact(step p hp).choose_spec⟩
   have start:∀Q,(∀x5 x6,Ok ((aS (bc 5<|aD cT<|aa (eV 0)<|aa (eV 1)<|aa (eV 2)<|aa (eV 4) aC)<|aS (gU (tE<|eB oEq (eW 5)<|eE aC) (a7<|eE<|aa (eC<|.str [115,116,117,99,107])<|aa (eV 4) aC) bw)<|aS (bc 6<|eL<|bS (eJ<|eW 5) 1 [0,1,2,4] (aW 0) bZ<|aD (bD n)<|aa (eV 1)<|aa (eV 2)<|aa (aD KH.cx<|aa (eV 3)<|aa (eV 4)<|aa (eV 0) aC) aC)<|a7<|eE<|aa (eC<|.str [101,97,99,104])<|aa (eV 4)<|aa (eU f7<|eW 6) aC) [v (aM xs),v (dA rows C xs),v (aH xs),v (.lst<|(k0::kr).map λ k=>D.int (k:Nat)),vi (k:Nat),x5,x6]) Q)->Ok (fA (bD n) [v (aM xs),v (dA rows C xs),v (aH xs),At,At,At,At]) Q:=λ Q hQ=>by
    have el:zints 0 xs.length=(Ev xs.length).map λ k=>D.int (k:Nat):=by rw[ints_map];exact B08 λ j _=>by rw[Int.zero_add]
    simp[fA,bu,eX,dN,line,NY,hl];rw[el];refine b8 (λ k:Nat=>D.int (k:Nat)) (lO xs) (λ k=>D.int (k:Nat)) (xs:=Ev xs.length) (λ j hj=>?_) ?_
    .have BQ:j<xs.length:=A26.mp hj;obtain⟨⟨g',o⟩,e⟩:∃x,xs[j]?=AC x:=⟨_,A03 BQ⟩
     have ix:aR (aH xs) (.int (j:Nat))=.ok (cy o):=(iM (xs:=xs.map λ y:GO=>cy y.2) (i:=j) (j:=j) rfl (by rw[A08,e];rfl)).1;cases o with
     |none=>simp[ix,cy,lO,e]
     |some p=>have en:gD (bh p)=.ok (.bl AT):=rfl;simp[ix,cy,en,lO,e]
    .rw[_K];have:=hQ At At;have e4:=ex At At At;simp only[f8]at this e4 ⊢;simp[e4];simpa[bu,eX,dN,line]using this
   by_cases h0:da rows C xs g k=[]
   .refine⟨.tup [.str Ik,.int (k:Nat)],?_,λ m=>?_,?_,rfl⟩
    .rw[lD];refine aP<|start _ λ x5 x6=>?_;rw[h0]at so;have e0:=Wr [];simp only[A32,List.isEmpty_nil]at so e0;simp[so,e0,line];rfl
    .cases m with
     |zero=>trivial
     |succ m=>exact .inr<|.inr<|.inl ⟨_,_,rfl⟩
    .rfl
   .have _B:(da rows C xs g k).isEmpty=AT:=by
     cases q:da rows C xs g k with
     |nil=>exact absurd q h0
     |cons a r=>rfl
    refine⟨.tup [.str PK,.int (k:Nat),.tup ((da rows C xs g k).map f)],?_,λ m=>?_,?_,rfl⟩
    .rw[lD];refine aP<|start _ λ x5 x6=>?_;have e0:=Wr<|da rows C xs g k;rw[_B]at e0;have RK:(da rows C xs g k).length<=16777216:=by lia
     generalize da rows C xs g k=op at so _w hf e0 RK;simp[so,e0,line,bu,eX,dN,RK];refine b8 bh (λ _=>Ch) f (xs:=op) (λ p hp=>?_) ?_
     .simp[(tw h6 hk p).1,(hf p hp).1]
     .rw[kT];simp[line];rfl
    .cases m with
     |zero=>trivial
     |succ m=>refine .inr<|.inr<|.inr ⟨_,_,_,rfl,λ ps e=>?_⟩;cases e;refine⟨by rw[A06];lia,λ q hq=>?_⟩;let⟨p,hp,rfl⟩:=A02.mp hq;exact(hf p hp).2.1 m
    .rfl
theorem Ak(H:Hall rows C)(h6:xs.length<=6)(hg:∀x∈xs,GOk x.1)(hk:Good rows xs)(hw:cB rows C xs<=2000)(ef:bE [bg rows,aM xs,fd]=.ok (aH xs)):
 (cM rows C AT xs xs.length≠[]/\gg [bg rows,aM xs,fd]=.ok .non)\/(cM rows C AT xs xs.length=[]/\∃d,gg [bg rows,aM xs,fd]=.ok d/\(∀m,Ls m d)/\Al rows C 9 xs d=Ch/\lY d=.ok (.bl Ch)):=by
 have fo:=Kr H h6 hg hk hw ef;have ap:=wj H h6 hg;cases e:cM rows C AT xs _ with
 |cons z r=>rw[e]at fo;dsimp only at fo;refine .inl ⟨by simp,?_⟩;rw[rL];refine aP ?_;have en:lY (aH z)=.ok _:=rfl;simp[lh,fo,en]
 |nil=>
  rw[e]at fo;dsimp only at fo;have hn:nN xs<9:=by have:nN xs<=xs.length:=List.countP_le_length;lia
  let⟨d,e1,e2,e3,e4⟩:=Jc H 9 xs h6 hg hn hk (Gs H hg e);refine .inr ⟨rfl,d,?_,e2,e3,e4⟩;rw[rL];refine aP ?_;have en:lY D.non=.ok _:=rfl;simp[lh,fo,ap,ef,e1]
end KC
namespace KB
open Z KG
open KH
variable{k:Nat}
theorem Fv(H:Hall rows C)(h6:xs.length<=6)(hg:∀x∈xs,GrpG x.1)(hk:Good rows xs)(hw:cB rows C xs<=2000)(ef:bE [bg rows,aM xs,fd]=.ok (aH xs)):
 (cM rows C AT xs xs.length=[]/\bf [bg rows,aM xs,fd]=.ok .non)\/∃m,bf [bg rows,aM xs,fd]=.ok (aH m)/\oP rows C xs m:=by
 have NX:=λ x hx=>(hg x hx).toGOk;have hi:=o8 (C:=C) (sm:=AT) hk<|v4 _;have fr:=E! (sm:=AT) H h6 NX hk hw;have sm:=z9 H h6 NX ef hw;cases e:cM rows C AT xs _ with
 |nil=>rw[e]at fr;simp only[A32]at fr;refine .inl ⟨rfl,?_⟩;rw[me];refine aP ?_;simp[iy,sm,fr,Ho]
 |cons b r=>refine .inr ⟨_,?_,Fu H NX hk e⟩;rw[e]at hi fr;have am:=Ln h6 hg λ z hz=>(hi z hz).gs;rw[me];refine aP ?_;simp only[f8]at am fr;simp[iy,sm,fr,am]
theorem Ext.good(e:Ext xs m)(h:Good rows m):Good rows xs:=h.sub e.sub
theorem Ext.put(e:Ext xs m)(hk:m[k]?=AC (g,o)):Ext (xs.set k (g,o)) m:=by
 have hl:=(A07.mp hk).1;have VS:k<xs.length:=by rw[e.len];exact hl
 refine⟨?_,λ i g' p h=>?_⟩
 .rw[<-e.gs,C40];have h1:(xs.map (·.1))[k]?=AC g:=by rw[e.gs,A08,hk];rfl
  refine B74 λ i=>?_;rw[A33];split
  .rename_i q;subst q;rw[M2 (by rw[A06];exact VS),h1]
  .rfl
 .rw[A33]at h;split at h
  .rename_i q;subst q;first|(rw[M2]at h;rw[hk,h])|rw[hk,h]
  .exact e.sub i g' p h
theorem Ext.Q4(e:Ext xs m)(hk:m[k]?=AC (g,o))(h:Ext (xs.set k (g,o)) z):Ext xs z:=by
 have hl:=(A07.mp hk).1;have VS:k<xs.length:=by rw[e.len];exact hl
 refine⟨?_,λ i g' p q=>?_⟩
 .rw[e.gs,<-(e.put hk).gs,h.gs]
 .by_cases c:k=i
  .subst c;have:=e.sub k g' p q;rw[hk]at this;refine h.sub k g' p ?_;rw[A33,M2 rfl,M2 VS,this]
  .exact h.sub i g' p (by rw[A33,W1 c];exact q)
theorem oP.put(h:oP rows C xs m)(hk:m[k]?=AC (g,o)):oP rows C (xs.set k (g,o)) m:=
 ⟨h.ext.put hk,h.good,h.full,λ z e gz fz=>h.most z (h.ext.Q4 hk e) gz fz⟩
theorem p8{α:Type}(l:γ α)(k j:Nat):(l.eraseIdx k)[j]?=l[if j<k then j else j+1]?:=by rw[List.getElem?_eraseIdx];split<;>rfl
theorem n5{α β:Type}(f:α->β):∀(l:γ α) k,(l.eraseIdx k).map f=(l.map f).eraseIdx k
|[],_=>rfl
|_::_,0=>rfl
|a::l,k+1=>A15 _<|n5 f l k
theorem Ext.erase(e:Ext xs m)(k:Nat):Ext (xs.eraseIdx k) (m.eraseIdx k):=by refine⟨by rw[n5,n5,e.gs],λ i g p h=>?_⟩;rw[p8]at h ⊢;exact e.sub _ g p h
theorem uC(h:Good rows m)(k:Nat):Good rows (m.eraseIdx k):=by intro i g p e;rw[p8]at e;let⟨h1,h2⟩:=h _ g p e;refine⟨h1,λ j g' q ej ne=>?_⟩;rw[p8]at ej;refine h2 _ g' q ej ?_;split<;>split<;>lia
theorem Full.erase(h:Full m)(k:Nat):Full (m.eraseIdx k):=λ i g e=>by rw[p8]at e;exact h _ g e
theorem rn:∀l k,(∀n∈l,0<n)->cN (l.eraseIdx k)<=cN l
|[],_,_=>v4 _
|n::l,0,h=>by rw[List.eraseIdx_cons_zero];exact Nat.le_mul_of_pos_left _<|h n A11
|n::l,k+1,h=>by rw[C65];exact Nat.mul_le_mul_left _<|rn l k λ q hq=>h q<|A09 _ hq
theorem B1(xs:γ GO)(k:Nat):cB rows C (xs.eraseIdx k)<=cB rows C xs:=by
 unfold cB;rw[n5];exact rn _ _ λ n hn=>by let⟨x,_,rfl⟩:=A02.mp hn;exact tD rows C x
theorem zF:∀{xs}{k}{x} p,xs[k]?=AC x->cB rows C (xs.set k (x.1,AC p))<=cB rows C xs
|[],_,_,_,h=>by cases h
|y::r,0,x,p,h=>by show cN _<=cN (gA rows C y::r.map _);have:gA rows C (x.1,AC p)=1:=rfl;simp only[cN];exact B21 _<|tD rows C y
|y::r,k+1,x,p,h=>by exact Nat.mul_le_mul_left _<|zF p h
theorem Cr(H:Hall rows C)(hg:∀x∈xs,GOk x.1)(h:oP rows C xs m)(k:Nat):cM rows C AT (xs.eraseIdx k) (xs.eraseIdx k).length≠[]:=by intro e;have:=uF H (λ x hx=>hg x<|B44 hx) (h.ext.erase k) (uC h.good k)<|Full.erase h.full k;rw[e]at this;cases this
structure lI(rows:Rows)(C:Nat)(xs m:List GO):Prop where
 six:xs.length<=6
 Py:∀x∈xs,GrpG x.1
 names:(xs.map (·.1.name)).Nodup
 few:cB rows C xs<=250
 best:oP rows C xs m
theorem lI.good(s:lI rows C xs m):Good rows xs:=s.best.ext.good s.best.good
theorem lI.tell(H:Hall rows C)(s:lI rows C xs m):bf [bg rows,aM xs,aH xs]=.ok (aH m):=by
 have NX:=λ x hx=>(s.Py x hx).toGOk;rcases Fv H s.six s.Py s.good (A13 s.few ∅) (xm H s.six NX s.good)with⟨e,_⟩|⟨m',e,b⟩
 .have:=uF H NX s.best.ext s.best.good s.best.full;rw[e]at this;cases this
 .rw[e,s.best.uniq b]
theorem lI.fast(s:lI rows C xs m)(hk:m[k]?=AC (g,AC p)):lI rows C (xs.set k (g,AC p)) m:=by
 obtain⟨x,hx⟩:∃x,xs[k]?=AC x:=by
  have:k<xs.length:=by rw[s.best.ext.len];exact(A07.mp hk).1
  exact⟨_,A03 this⟩
 have ex:x.1=g:=by have:=A15 (λ l=>l[k]?) s.best.ext.gs;simp only[A08,hx,hk,A68,B13]at this;exact this
 subst ex;have em:(xs.set k (x.1,AC p)).map (·.1)=xs.map (·.1):=by rw[(s.best.ext.put hk).gs,s.best.ext.gs]
 refine⟨by rw[AB5];exact s.six,λ y hy=>?_,?_,A13 (zF p hx) s.few,s.best.put hk⟩
 .have:y.1∈(xs.set k (x.1,AC p)).map _:=A02.mpr ⟨y,hy,rfl⟩;rw[em]at this;let⟨z,hz,e⟩:=A02.mp this;rw[<-e];exact s.Py z hz
 .have e2:(xs.set k (x.1,AC p)).map (·.1.name)=((xs.set k (x.1,AC p)).map (·.1)).map (·.name):=by rw[A20];rfl
  rw[e2,em,A20];exact s.names
theorem lI.away(H:Hall rows C)(s:lI rows C xs m)(k:Nat):∃m',lI rows C (xs.eraseIdx k) m':=by
 have NX:=λ x hx=>(s.Py x hx).toGOk;have _U:∀x∈xs.eraseIdx k,GOk x.1:=λ x hx=>NX x<|B44 hx;have gd:=uC s.good k;have nz:=Cr H NX s.best k;cases e:cM rows C AT _ (xs.eraseIdx k).length with
 |nil=>exact(nz e).elim
 |cons b r=>refine⟨_,A13 (by rw[List.length_eraseIdx];split<;>lia) s.six,λ x hx=>s.Py x<|B44 hx,?_,A13 (B1 xs k) s.few,Fu H _U gd e⟩;rw[n5];exact s.names.sublist<|List.eraseIdx_sublist ..
end KB
set_option maxRecDepth 4000
namespace KM
open Z KG KH
def gm:SF:=(aS (bc 2<|eB bK (eC<|.int 1)<|eB oMod (eW 0)<|eC<|.int 2147483646)<|aS (nS 3<|b? aC)<|aS (i9 (fT<|eV 1) (aW 4)<|aS (bc 2<|eB oMod (eB fP (eW 2)<|eC<|.int 16807)<|eC<|.int 2147483647)<|dW 3<|eB oMod (eB fP (eB oMod (eB fP (eB bK (eW 2)<|eC<|.int 7)<|eC<|.int 69621)<|eC<|.int 2147483629)<|eC<|.int 39373)<|eC<|.int 2147483587)<|t9 3<|a7<|eV 3)
def dI:γ D->Res D:=fn 2 5 gm
theorem yU(x0 x1:D):dI [x0,x1]=bJ (gm [AC (.val x0),AC (.val x1),At,At,At]):=cI _ _ _ _ rfl
def fV:SF:=(aS (bc 1<|eC<|.str aX)<|a7<|eB bK (eB aR (eW 1)<|eB oMod (eW 0)<|eC<|.int 26)<|eB aR (eW 1)<|eB oMod (eB bK (eB bK (eW 0)<|eC<|.int 1)<|eB oMod (eB oDiv (eW 0)<|eC<|.int 26)<|eC<|.int 25)<|eC<|.int 26)
def c5:γ D->Res D:=fn 1 2 fV
theorem uL(x0:D):c5 [x0]=bJ (fV [AC (.val x0),At]):=cI _ _ _ _ rfl
end KM
set_option maxRecDepth 8000
namespace KM
open Z KG KH
theorem t!{nums:γ Int}(hs:sg.length<=100)(hsg:∀c∈sg,c∈signs)(hn:∀x∈nums,0<=x/\x<sg.length)(hl:nums.length=R*C)(hR:R<=6)(hC:C<=12){b:SF}{Q:Fl->Prop}
 (hb:b=dW 7 (eB rB (eC<|.str [])<|eL<|bS (eJ<|eL<|Nu (eW 6) (r8<|eB fP (eW 8)<|eW 3)<|r8<|eB fP (eB bK (eW 8)<|eC<|.int 1)<|eW 3) 1 [5] (aW 0) bZ<|eB aR (eW 1)<|eW 0))
 (x0 x1 x2 x4:ε L) (hQ:∀rows x,j2 C R rows->Q (.nx [x0,x1,x2,vi C,x4,vs sg,v (.lst<|nums.map .int),ow (rows.map .str),x])) :
 Ok (e_ (aW 8) b (zints 0 R) [x0,x1,x2,vi C,x4,vs sg,v (.lst<|nums.map .int),ow [],At]) Q:=by
 subst hb;refine f9 (λ i ρ=>∃rows x,j2 C i rows/\ρ=[x0,x1,x2,vi C,x4,vs sg,v (.lst<|nums.map .int),ow (rows.map .str),x]) ⟨[],At,j2.nil C,rfl⟩ ?_ ?_
 .rintro i d ρ hi ⟨rows,x,j_,rfl⟩;let⟨yK,rfl⟩:=ints_get hi;have q1:bW (i:Int) (C:Int):=dZ ∅ ∅;have q2:bW ((i:Int)+1) (C:Int):=dZ ∅ ∅;have hle:(i+1)*C<=nums.length:=by rw[hl];exact B21 C yK
  have kA:=Dv nums hle;have RZ:(cut nums (AC<|(i:Int)*C)<|some<|((i:Int)+1)*C).length<=16777216:=by lia
  have hrl:rows.length<16777216:=by rw[j_.1];lia
  simp[bu,Pm,q1,q2,line,eX,dN,OB,RZ];generalize J!:cut nums (AC<|(i:Int)*C) (AC<|((i:Int)+1)*C)=ns at kA RZ;have key:∀x:Int,∃q,(0<=x/\x<sg.length)->q∈signs/\aR (.str sg) (.int x)=.ok (.str [q]):=λ x=>by
   by_cases h:0<=x/\x<sg.length
   .let⟨c,hc,e⟩:=uu h.1 h.2 (by simp only[line];lia);exact⟨c,λ _=>⟨hsg c hc,e⟩⟩
   .exact⟨0,λ h'=>absurd h' h⟩
  have kq:∃q:Int->Nat,∀x:Int,(0<=x/\x<sg.length)->q x∈signs/\aR (.str sg) (.int x)=.ok (.str [q x]):=⟨λ x=>(key x).choose,λ x=>(key x).choose_spec⟩
  let⟨q,hq⟩:=kq;have qH:∀x∈ns,0<=x/\x<sg.length:=λ x hx=>hn x<|Z.EM<|J!▸hx;refine b8 D.int (λ _=>Ch) (λ x=>.str [q x]) ?_ ?_
  .intro x hx;simp[(hq x<|qH x hx).2]
  .rw[kT];have e1:ns.map (λ x=>D.str [q x])=(ns.map λ x=>[q x]).map D.str:=by rw[A20];rfl
   have e2:(ns.map λ x=>[q x]).flatten=ns.map q:=by
    clear kA RZ J! qH e1
    induction ns with
    |nil=>rfl
    |cons a as ih=>simp[ih]
   rw[e1,wR (by rw[e2,A06];lia),e2];simp[hrl];refine⟨rows++[ns.map q],j_.add ⟨by rw[A06];exact kA,?_⟩,by simp⟩;intro c hc;let⟨x,hx,rfl⟩:=A02.mp hc;exact(hq x<|qH x hx).1
 .rintro ρ ⟨rows,x,j_,rfl⟩;rw[gG]at j_;exact hQ rows x j_
theorem JD(c:Int)(hn:n<=1000):∃ms:γ Int,ms.length=n/\(∀m∈ms,0<=m/\m<2147483587)/\dI [.int c,.int n]=.ok (.lst<|ms.map .int):=by
 have q1:∀x,bW x 16807:=λ x=>f_ ∅ ∅;have q2:∀x,bW x 69621:=λ x=>f_ ∅ ∅;have q3:∀x,bW x 39373:=λ x=>f_ ∅ ∅;have:Ok (bJ<|gm [v (.int c),v (.int n),At,At,At]) λ d=>∃ms:γ Int,ms.length=n/\(∀m∈ms,0<=m/\m<2147483587)/\d=.lst (ms.map .int):=by
  refine qy ?_;simp[gm];refine f9 (λ i ρ=>∃ms z x,ms.length=i/\(∀m∈ms,0<=m/\m<2147483587)/\ρ=[vi c,vi n,vi z,ow (ms.map .int),x]) ⟨[],_,At,rfl,by simp,rfl⟩ ?_ ?_
  .rintro i d ρ hi ⟨ms,z,x,hl,hp,rfl⟩;let⟨yK,rfl⟩:=ints_get hi;have kz:ms.length<16777216:=by lia
   simp[q1,q2,q3,line,kz];refine⟨ms++[(z*16807 % 2147483647+7)*69621 % 2147483629*39373 % 2147483587],by simp[hl],?_,by rw[A39];rfl⟩;intro m hm;rcases A37.mp hm with h|h
   .exact hp m h
   .simp at h;rw[h];lia
  .rintro ρ ⟨ms,z,x,hl,hp,rfl⟩;rw[gG]at hl;simp;exact⟨ms,hl,hp,rfl⟩
 rw[<-yU]at this;let⟨d,e,ms,h1,h2,rfl⟩:=this;exact⟨ms,h1,h2,e⟩
theorem AR(z:Int):∃a b,a∈aX/\b∈aX/\c5 [.int z]=.ok (.str [a,b]):=by let⟨a,ha,ea⟩:=w6 z;let⟨b,hb,eb⟩:=w6 (z+1+z / 26 % 25);refine⟨a,b,ha,hb,?_⟩;rw[uL];refine aP ?_;simp[fV,bQ,ea,eb,line]
end KM
set_option maxRecDepth 4000
namespace KN
open Z KG KH KM
def gM:SF:=(aS (nS 2<|b? aC)<|aS (i9 (fT<|eB bK (eB qB (eU cQ<|eW 0)<|eB aR (eW 1)<|eC<|.int 2)<|eC<|.int 1) (aW 3)<|i9 (fT<|eB bK (eB qB (eU cQ<|eB aR (eW 0)<|eC<|.int 0)<|eB aR (eW 1)<|eC<|.int 1)<|eC<|.int 1) (aW 4)<|aS (bc 5<|eB rB (eC<|.str [])<|eL<|bS (eJ<|HF (eW 0) (r8<|eW 3)<|r8<|eB bK (eW 3)<|eB aR (eW 1)<|eC<|.int 2) 1 [4,1] (aW 0) bZ<|HF (eW 0) (r8<|eW 1)<|r8<|eB bK (eW 1)<|eB aR (eW 2)<|eC<|.int 1)<|aS (bc 6<|eL<|bS (eJ<|eW 5) 1 [1] (aW 0) (vw (tE<|eB pz (eW 0)<|eC<|.str [46,61])<|tE<|eB oR (eW 0)<|eB aR (eW 1)<|eC<|.int 3)<|eV 0)<|gU (vw (tE<|eB oEq (eW 6)<|eL<|b? aC)<|tE<|eB S? (eB wU (eW 5)<|eC<|.str [61])<|eB aR (eW 1)<|eC<|.int 4) (dW 2<|eE<|aa (eV 3)<|aa (eV 4) aC) bw)<|t9 2<|a7<|eV 2)
def dO:γ D->Res D:=fn 2 7 gM
theorem vY(x0 x1:D):dO [x0,x1]=bJ (gM [AC (.val x0),AC (.val x1),At,At,At,At,At]):=cI _ _ _ _ rfl
end KN
set_option maxRecDepth 8000
namespace KN
open Z KG KH KM
theorem M'{α:Type}{xs:γ α}(h:xs.length=9):∃a b c d e f g i j,xs=[a,b,c,d,e,f,g,i,j]:=by
 match xs,h with
 |[a,b,c,d,e,f,g,i,j],_=>exact⟨a,b,c,d,e,f,g,i,j,rfl⟩
theorem Ju(H:Hall rows C)(k:GOk g){r c:Nat}(h:(rows.length)<(r:Int)+g.d\/(C)<(c:Int)+g.w):cO rows g ((r),(c))=AT:=by
 have w1:=k.w1;have d1:=k.d1;rcases h with h1|h2
 .refine uJ (s:=((r)+((g.d-1:Nat)),(c)+((0)))) (wY (p:=((r),(c))) (i:=g.d-1) (j:=0) ∅ ∅) ?_;unfold XH;rw[t5 H (by simp only;lia)];rfl
 .refine uJ (s:=((r)+((0)),(c)+((g.w-1:Nat)))) (wY (p:=((r),(c))) (i:=0) (j:=g.w-1) ∅ ∅) ?_;unfold XH;rw[t5 H (by simp only;lia)];rfl
theorem En(f:Pl->Bool)(r:Nat){n:Nat}:∀m,n<=m->(∀c,n<=c->c<m->f ((r),(c))=AT)->(eu r m).filter f=(eu r n).filter f:=by
 intro m
 induction m with
 |zero=>
  intro h _;have:n=0:=by lia
  subst this;rfl
 |succ m ih=>
  intro h hf;by_cases e:n=m+1
  .rw[e]
  .have e3:eu r (m+1)=eu r m++[((r:Int),(m:Int))]:=by simp[eu,A82]
   rw[e3,B43,ih ∅ λ c h1 h2=>hf c h1 ∅];simp[hf m ∅ ∅]
theorem ON(f:Pl->Bool)(C:Nat){n:Nat}:∀m,n<=m->(∀r c,n<=r->r<m->c<C->f ((r),(c))=AT)->(gP m C).filter f=(gP n C).filter f:=by
 intro m
 induction m with
 |zero=>
  intro h _;have:n=0:=by lia
  subst this;rfl
 |succ m ih=>
  intro h hf;by_cases e:n=m+1
  .rw[e]
  .rw[jr,B43,ih ∅ λ r c h1 h2=>hf r c h1 ∅];have:(eu m C).filter f=[]:=by rw[En f m C (A51 _) λ c _ h2=>hf m c ∅ ∅ h2];rfl
   rw[this,A52]
def seen(rows:Rows)(r c w d:Nat):γ Nat:=(((rows.drop r).take d).map λ row=>(row.drop c).take w).flatten
theorem F5(h:rows[r+d]?=AC row):seen rows r c w (d+1)=seen rows r c w d++(row.drop c).take w:=by unfold seen;rw[take_snoc (by rw[C39];exact h),A39,List.flatten_append];simp
theorem nQ(H:Hall rows C)(hc:c+w<=C):∀d,r+d<=rows.length->(seen rows r c w d).map AC=(iE w ((r),(c)) d).map (b_ rows)
|0,_=>by simp[seen,iE]
|d+1,hd=>by
 let⟨row,er,hl,_⟩:=H.row (r:=r+d) ∅;have rs:=F8 H er hc;have e:((r+d:Nat))=(r:Int)+(d):=by lia
 rw[e]at rs;rw[F5 er,A39,nQ H hc d ∅,rs,lT,A39]
theorem Wt(xs:γ D):oEq (.lst xs) (.lst [])=.ok (.bl xs.isEmpty):=by cases xs<;>rfl
theorem G2(H:Hall rows C)(hr:r+g.d<=rows.length)(hc:c+g.w<=C):cO rows g ((r),(c))=(((seen rows r c g.w g.d).filter λ x=>!cq g.kind (AC x)).isEmpty&&decide (g.wide<=(seen rows r c g.w g.d).count 61)):=by
 have hs:=nQ H hc g.d hr;generalize seen rows r c g.w g.d=sg at hs ⊢;unfold cO;have aaC:(seats g ((r),(c))).all (λ s=>cq g.kind<|b_ rows s)=sg.all λ c=>cq g.kind (AC c):=by
  have h1:(seats g ((r),(c))).all (λ s=>cq g.kind<|b_ rows s)=((seats g ((r),(c))).map<|b_ rows).all (cq g.kind):=by rw[B59];rfl
  rw[h1,show seats g ((r),(c))=iE g.w ((r),(c)) g.d from rfl,<-hs,B59];rfl
 have aaA:(seats g ((r),(c))).countP (wx rows)=sg.count 61:=by
  have h1:(seats g ((r),(c))).countP (wx rows)=((seats g ((r),(c))).map<|b_ rows).countP (λ o=>o==AC 61):=by rw[AB2];rfl
  rw[h1,show seats g ((r),(c))=iE g.w ((r),(c)) g.d from rfl,<-hs,AB2,List.count];refine List.countP_congr λ x _=>?_;simp
 rw[aaC,aaA]
 congr 1
 rw[A53,A36,List.isEmpty_iff,List.filter_eq_nil_iff];exact⟨λ h x hx=>by simp[h x hx],λ h x hx=>by have:=h x hx;simpa using this⟩
theorem K6{rows:Rows}(h:r+d<=rows.length):cut (rows.map D.str) (AC<|r) (AC<|(r)+d)=((rows.drop r).take d).map D.str:=by
 have n1:¬(r:Int)<0:=by lia
 have n2:¬(r:Int)+d<0:=by lia
 have e:((r:Int)+d).toNat=r+d:=by lia
 simp only[cut,d_,n1,n2,A59,A98,e,A06];rw[A70 ∅,A70 ∅,C37,C35,C38]
theorem Ic(k:γ Nat)(c:Nat):(!([46,61]).contains c&&!([c]==k))=!cq k (AC c):=by
 have:=aaQ k c;rw[<-this];have e1:∀n,(c==n)=decide (c=n):=λ n=>by rw[A53];simp
 rw[e1,e1];simp[AB9]
theorem qE(H:Hall rows C)(k:GOk g):dO [bg rows,a6 g]=.ok (.lst<|(places rows C g).map bh):=by
 rw[vY];refine aP ?_;have yN:=H.c2;have hr2:=H.r2;have w1:=k.w1;have d1:=k.d1;have w2:=k.w2;have d2:=k.d2;let⟨My,NW,e0⟩:=H.My;have NU:C<=16777216:=by lia
 have hrn:rows.length<=16777216:=by lia
 obtain⟨R',To⟩:∃R',((rows.length:Int)-g.d+1).toNat=R':=⟨_,rfl⟩
 obtain⟨C',E5⟩:∃C',((C:Int)-g.w+1).toNat=C':=⟨_,rfl⟩
 simp[gM,line,hrn,To];refine f9 (λ i ρ=>i<=R'/\∃x y z t,ρ=[v (bg rows),v (a6 g),ow (((gP i C).filter<|cO rows g).map bh),x,y,z,t]) ⟨A51 _,At,At,At,At,rfl⟩ ?_ ?_
 .rintro i d ρ hi ⟨_,x,y,z,t,rfl⟩;let⟨yK,rfl⟩:=ints_get hi;simp[e0,NW,line,NU,E5];refine f9 (λ j ρ=>j<=C'/\∃y z t,ρ=[v (bg rows),v (a6 g),ow (((gP i C++eu i j).filter<|cO rows g).map bh),vi (i:Nat),y,z,t]) ⟨A51 _,y,z,t,by simp[eu]⟩ ?_ ?_
  .rintro j d ρ hj ⟨_,y,z,t,rfl⟩;let⟨BQ,rfl⟩:=ints_get hj;have e3:eu i (j+1)=eu i j++[((i:Int),(j:Int))]:=by simp[eu,A82]
   have h1:=A63 (cO rows g)<|gP i C++eu i j;rw[A30,mT,qx]at h1;have h3:i*C<=100*100:=A65 ∅ yN;rw[e3,<-B06,B43<|gP i C++eu i j];generalize (gP i C++eu i j).filter (cO rows g)=fs at h1 ⊢;have _q:i+g.d<=rows.length:=by lia
   have hcj:j+g.w<=C:=by lia
   have VZ:=G2 H (g:=g) _q hcj;have ec:=K6 _q;have esl:S8 (bg rows) (AC (i:Int)) (AC<|(i:Int)+g.d)=.ok (.tup<|((rows.drop i).take g.d).map D.str):=by show Res.ok (D.tup<|cut (rows.map D.str) _ _)=_;rw[ec]
   have GS:(seen rows i j g.w g.d).length=g.d*g.w:=by have:=A15 List.length<|nQ H hcj g.d _q;simpa[nR]using this
   have hm:=A65 d2 w2;have hdl:((rows.drop i).take g.d).length<=16777216:=by rw[A24];lia
   have _0:min g.d (rows.length-i)<=16777216:=by lia
   simp[esl,bu,eX,dN,line,_0];rw[<-C38,<-C35];refine b8 D.str (λ _=>Ch) (λ row=>.str<|(row.drop j).take g.w) (xs:=(rows.drop i).take g.d) (λ row j_=>?_) ?_
   .have hrl:=H.len row<|List.mem_of_mem_drop<|C06 j_;have er:=OA row (c:=j) (w:=g.w) ∅;have _p:row.length<=16777216:=by lia
    simp[line,er,_p]
   .rw [kT];have e1:((rows.drop i).take g.d).map (λ row=>D.str<|(row.drop j).take g.w)=(((rows.drop i).take g.d).map λ row=>(row.drop j).take g.w).map D.str:=by rw[A20];rfl
    have ej:=wR (ts:=((rows.drop i).take g.d).map λ row=>(row.drop j).take g.w) (by show(seen rows i j g.w g.d).length<=_;lia)
    rw[e1,ej];change Ok _ _;rw[show(((rows.drop i).take g.d).map λ row=>(row.drop j).take g.w).flatten=seen rows i j g.w g.d from rfl];have C7:(seen rows i j g.w g.d).length<=16777216:=by lia
    generalize seen rows i j g.w g.d=sg at VZ GS C7 ⊢;simp[bu,eX,dN,line,C7];refine b8 (λ c=>.str [c]) (λ c=>!cq g.kind (AC c)) (λ c=>.str [c]) (xs:=sg) (λ x hx=>?_) ?_
    .have:=Ic g.kind x;have en:pz (.str [x]) (.str [46,61])=.ok (.bl<|!([46,61]:γ Nat).contains x):=rfl;have em:oR (.str [x]) (.str g.kind)=.ok (.bl<|!([x]==g.kind)):=rfl;rw[<-this];clear this;generalize (([46,61]:γ Nat).contains x)=bb at en ⊢;generalize ([x]==g.kind)=b2 at em ⊢;cases bb<;>cases b2<;>simp[en,em]
    .rw[Wt,VZ];have _Z:(((sg.filter λ c=>!cq g.kind (AC c)).map λ c=>D.str [c]).isEmpty)=(sg.filter λ c=>!cq g.kind (AC c)).isEmpty:=by cases sg.filter λ c=>!cq g.kind (AC c)<;>rfl
     rw[_Z];cases h1:(sg.filter λ c=>!cq g.kind (AC c)).isEmpty with
     |false=>simp;lia
     |true=>
      rw[h1,C07]at VZ;by_cases h2:g.wide<=sg.count 61
      .rw[A47 h2]at VZ;simp[h2,VZ];lia
      .simp[h2];lia
  .rintro ρ ⟨_,y,z,t,rfl⟩;simp only[gG];simp;refine⟨by lia,?_⟩;rw[jr];have:(eu i C).filter (cO rows g)=(eu i C').filter (cO rows g):=En _ i C ∅ λ c h1 h2=>Ju H k<|.inr ∅;rw[B43,this,A39]
 .rintro ρ ⟨_,x,y,z,t,rfl⟩;simp only[gG];simp[places];rw[ON (n:=R') (cO rows g) C rows.length ∅ λ r c h1 h2 h3=>Ju H k<|.inl ∅]
end KN
set_option maxRecDepth 4000
namespace jt
open Z KG KH KB KC KA KS
def Mb:γ Nat:=[103,114,111,117,112,115,32,97,108,111,110,101,32,109,97,121,32,97,115,107]
def t_1:γ Nat:=[111,110,101,32,111,102,32,116,104,105,115,32,110,97,109,101,32,105,115,32,97,116,32,104,97,110,100]
def t_2:γ Nat:=[110,111,98,111,100,121,32,111,102,32,116,104,105,115,32,110,97,109,101,32,105,115,32,97,116,32,104,97,110,100]
def qU:SF:=(a7<|eB bK (HF (eW 0) MN<|r8<|eW 1)<|HF (eW 0) (r8<|eB bK (eW 1)<|eC<|.int 1) MN)
def eD:γ D->Res D:=fn 2 2 qU
theorem Dg(x0 x1:D):eD [x0,x1]=bJ (qU [AC (.val x0),AC (.val x1)]):=cI _ _ _ _ rfl
def mw:SM:=(cm (bC [0]<|gU (fZ<|tE<|aD KA.hJ<|aa (eV 1) aC) lU bw)<|cm (mZ 0 [104,97,108,108]<|eV 1)<|cm (mZ 0 [103,117,101,115,116,115]<|eE aC)<|cm (mZ 0 [104,101,108,100]<|eE aC)<|mZ 0 [112,108,97,99,101,115]<|eE aC)
def iT:γ D->Res (D×γ D):=zp [0] [Ch,AT] 2 mw
def ia:SF:=(aS (gU (tE<|aD KS.c6<|aa (eV 1) aC) (i9 (EZ<|eU (eT [103,117,101,115,116,115])<|eM 0 0) (iA [2,3])<|gU (tE<|eB oEq (eB aR (eW 3)<|eC<|.int 0)<|eW 1) (a7<|eV 2) bw) bw) lU)
def a_:γ D->Res D:=A9 [Ch,AT] 4 ia
theorem pT(k0:γ (Sum Int<|γ Nat))(v0:γ D)(x1:D):a_ [.dct k0 v0,x1]=bJ (ia [AC (.bor<|.dct k0 v0),AC (.val x1),At,At]):=rK _ _ _ _ rfl
def u!:SM:=(cm (bC (fE 0 [Ch,AT])<|gU (fZ<|tE<|aD KS.cU<|aa (eV 1) aC) lU bw)<|cm (bC (fE 0 [Ch,AT])<|gU (tE<|eB yt (eB aR (eW 1)<|eC<|.int 0)<|eL<|bS (eJ<|eU (eT [103,117,101,115,116,115])<|eM 0 0) 1 [] (aW 0) bZ<|eB aR (eW 0)<|eC<|.int 0) lU bw)<|cm (bC (fE 0 [Ch,AT])<|bc 2<|eB bK (eU (eT [103,117,101,115,116,115])<|eM 0 0)<|eE<|aa (eV 1) aC)<|cm (bC (fE 0 [Ch,AT])<|gU (tE<|eB Gm (eU cQ<|eW 2)<|eC<|.int 6) lU bw)<|cm (bC (fE 0 [Ch,AT])<|bc 3<|eB bK (eU (eT [104,101,108,100])<|eM 0 0)<|eE<|aa (eC .non) aC)<|cm (bC (fE 0 [Ch,AT])<|bc 4<|aD KB.bf<|aa (eU (eT [104,97,108,108])<|eM 0 0)<|aa (eV 2)<|aa (eV 3) aC)<|cm (bC (fE 0 [Ch,AT])<|gU (tE<|eU gD<|eW 4) lU bw)<|cm (mZ 0 [103,117,101,115,116,115]<|eV 2)<|cm (mZ 0 [104,101,108,100]<|eV 3)<|cm (mZ 0 [112,108,97,99,101,115]<|eV 4)<|bC (fE 0 [Ch,AT])<|a7<|eB aR (eW 4)<|eU Jo<|eC<|.int 1)
def iB:γ D->Res (D×γ D):=zp (fE 0 [Ch,AT]) [Ch,AT] 5 u!
def rP:SM:=(cm (bC (fE 0 [Ch,AT])<|bc 2<|aD a_<|aa (eM 0 0)<|aa (eV 1) aC)<|mZ 0 [104,101,108,100]<|aD KH.cx<|aa (eU (eT [104,101,108,100])<|eM 0 0)<|aa (eV 2)<|aa (eB aR (eU (eT [112,108,97,99,101,115])<|eM 0 0)<|eW 2) aC)
def fJ:γ D->Res (D×γ D):=zp (fE 0 [Ch,AT]) [Ch,AT] 3 rP
def rQ:SM:=(cm (bC (fE 0 [Ch,AT])<|bc 2<|aD a_<|aa (eM 0 0)<|aa (eV 1) aC)<|cm (mZ 0 [103,117,101,115,116,115]<|aD eD<|aa (eU (eT [103,117,101,115,116,115])<|eM 0 0)<|aa (eV 2) aC)<|cm (mZ 0 [104,101,108,100]<|aD eD<|aa (eU (eT [104,101,108,100])<|eM 0 0)<|aa (eV 2) aC)<|mZ 0 [112,108,97,99,101,115]<|aD KB.bf<|aa (eU (eT [104,97,108,108])<|eM 0 0)<|aa (eU (eT [103,117,101,115,116,115])<|eM 0 0)<|aa (eU (eT [104,101,108,100])<|eM 0 0) aC)
def fK:γ D->Res (D×γ D):=zp (fE 0 [Ch,AT]) [Ch,AT] 3 rQ
def lz:SF:=(a7<|eB aR (eU (eT [112,108,97,99,101,115])<|eM 0 0)<|aD a_<|aa (eM 0 0)<|aa (eV 1) aC)
def dR:γ D->Res D:=A9 [Ch,AT] 2 lz
theorem wa(k0:γ (Sum Int<|γ Nat))(v0:γ D)(x1:D):dR [.dct k0 v0,x1]=bJ (lz [AC (.bor<|.dct k0 v0),AC (.val x1)]):=rK _ _ _ _ rfl
def jq:SF:=(a7<|eU (eT [103,117,101,115,116,115])<|eM 0 0)
def fY:γ D->Res D:=A9 [Ch] 1 jq
theorem sD(k0:γ (Sum Int<|γ Nat))(v0:γ D):fY [.dct k0 v0]=bJ (jq [AC (.bor<|.dct k0 v0)]):=rK _ _ _ _ rfl
def jo:SF:=(a7<|eU (eT [112,108,97,99,101,115])<|eM 0 0)
def fX:γ D->Res D:=A9 [Ch] 1 jo
theorem sC(k0:γ (Sum Int<|γ Nat))(v0:γ D):fX [.dct k0 v0]=bJ (jo [AC (.bor<|.dct k0 v0)]):=rK _ _ _ _ rfl
def ly:SF:=(a7<|aD KB.cC<|aa (eU (eT [103,117,101,115,116,115])<|eM 0 0)<|aa (eU (eT [112,108,97,99,101,115])<|eM 0 0) aC)
def il:γ D->Res D:=A9 [Ch] 1 ly
theorem v_(k0:γ (Sum Int<|γ Nat))(v0:γ D):il [.dct k0 v0]=bJ (ly [AC (.bor<|.dct k0 v0)]):=rK _ _ _ _ rfl
def gm:SF:=(aS (bc 2<|eB bK (eC<|.int 1)<|eB oMod (eW 0)<|eC<|.int 2147483646)<|aS (nS 3<|b? aC)<|aS (i9 (fT<|eV 1) (aW 4)<|aS (bc 2<|eB oMod (eB fP (eW 2)<|eC<|.int 16807)<|eC<|.int 2147483647)<|dW 3<|eB oMod (eB fP (eB oMod (eB fP (eB bK (eW 2)<|eC<|.int 7)<|eC<|.int 69621)<|eC<|.int 2147483629)<|eC<|.int 39373)<|eC<|.int 2147483587)<|t9 3<|a7<|eV 3)
def dI:γ D->Res D:=fn 2 5 gm
def jO:SF:=(aS (bc 2<|eC<|.str aX)<|aS (bc 3<|eB bK (eC<|.int 1)<|eB oMod (eW 0)<|eC<|.int 8)<|aS (bc 4<|eB oMod (eB oDiv (eW 0)<|eC<|.int 8)<|eW 3)<|aS (bc 5<|eB aR (eL<|b?<|aa (eC<|.int 1)<|aa (eC<|.int 3)<|aa (eC<|.int 5)<|aa (eC<|.int 7)<|aa (eC<|.int 9)<|aa (eC<|.int 11) aC)<|eB oMod (eB oDiv (eW 0)<|eC<|.int 64)<|eC<|.int 6)<|aS (nS 6<|b? aC)<|aS (i9 (fT<|eV 1) (aW 7)<|aS (bc 8<|eC<|.str [])<|aS (i9 (fT<|eV 3) (aW 9)<|aS (bc 10<|eB fP (eB fP (eW 5)<|eW 7)<|eU yq<|eB oEq (eW 9)<|eW 4)<|bc 8<|eB bK (eW 8)<|eB aR (eW 2)<|eB oMod (eB bK (eB oDiv (eW 0)<|eB bK (eC<|.int 400)<|eB fP (eB fP (eC<|.int 30)<|eW 9)<|eW 9)<|eW 10)<|eC<|.int 26)<|dW 6<|eV 8)<|t9 6<|a7<|eV 6)
def iR:γ D->Res D:=fn 2 11 jO
theorem yT(x0 x1:D):iR [x0,x1]=bJ (jO [AC (.val x0),AC (.val x1),At,At,At,At,At,At,At,At,At]):=cI _ _ _ _ rfl
def fV:SF:=(aS (bc 1<|eC<|.str aX)<|a7<|eB bK (eB aR (eW 1)<|eB oMod (eW 0)<|eC<|.int 26)<|eB aR (eW 1)<|eB oMod (eB bK (eB bK (eW 0)<|eC<|.int 1)<|eB oMod (eB oDiv (eW 0)<|eC<|.int 26)<|eC<|.int 25)<|eC<|.int 26)
def c5:γ D->Res D:=fn 1 2 fV
def jk:SF:=(aS (Mv (aD KH.dP<|aa (aD KG.bV<|aa (eV 0)<|aa (eC<|.int 0) aC)<|aa (eL<|b?<|aa (eC<|.int 2)<|aa (eC<|.int 6)<|aa (eC<|.int 12)<|aa (eB mY (eC<|.int 10)<|eC<|.int 60) aC) aC)<|A8 [1,2,3,4])<|aS (bc 2<|eB bK (eW 2)<|eC<|.int 1)<|aS (bc 3<|eB bK (eW 3)<|eC<|.int 1)<|aS (bc 5<|eC<|.str signs)<|aS (bc 6<|aD KH.dP<|aa (aD KG.bV<|aa (eV 0)<|aa (eC<|.int 1) aC)<|aa (eL<|Nv (b?<|aa (eC<|.int 29) aC)<|eB fP (eW 2)<|eW 3) aC)<|aS (gU (tE<|eB oEq (eW 1)<|eC<|.int 0) (aS (bc 2<|eB aR (eL<|b?<|aa (eC<|.int 1)<|aa (eC<|.int 2)<|aa (eC<|.int 1)<|aa (eC<|.int 2)<|aa (eC<|.int 3)<|aa (eC<|.int 2) aC)<|eB qB (eW 2)<|eC<|.int 1)<|aS (bc 3<|eB aR (eL<|b?<|aa (eC<|.int 3)<|aa (eC<|.int 4)<|aa (eC<|.int 5)<|aa (eC<|.int 2)<|aa (eC<|.int 1)<|aa (eC<|.int 4)<|aa (eC<|.int 6)<|aa (eC<|.int 3)<|aa (eC<|.int 2)<|aa (eC<|.int 3)<|aa (eC<|.int 4)<|aa (eC<|.int 5) aC)<|eB qB (eW 3)<|eC<|.int 1)<|aS (bc 5<|eB bK (eC<|.str [46,46,46,46,46,61,35])<|aD c5<|aa (eV 4) aC)<|bc 6<|eL<|bS (eJ<|aD dI<|aa (aD KG.bV<|aa (eV 0)<|aa (eC<|.int 1) aC)<|aa (eB fP (eW 2)<|eW 3) aC) 1 [] (aW 0) bZ<|eB oMod (eB oDiv (eW 0)<|eC<|.int 3)<|eC<|.int 9) bw)<|aS (nS 7<|b? aC)<|aS (i9 (fT<|eV 2) (aW 8)<|dW 7<|eB rB (eC<|.str [])<|eL<|bS (eJ<|eL<|Nu (eW 6) (r8<|eB fP (eW 8)<|eW 3)<|r8<|eB fP (eB bK (eW 8)<|eC<|.int 1)<|eW 3) 1 [5] (aW 0) bZ<|eB aR (eW 1)<|eW 0)<|a7<|eU f7<|eW 7)
def jL:γ D->Res D:=fn 1 9 jk
theorem Bf(x0:D):jL [x0]=bJ (jk [AC (.val x0),At,At,At,At,At,At,At,At]):=cI _ _ _ _ rfl
def mQ:SF:=(aS (Mv (aD KH.dP<|aa (eV 1)<|aa (eL<|b?<|aa (eC<|.int 12)<|aa (eC<|.int 3)<|aa (eC<|.int 27)<|aa (eC<|.int 7)<|aa (eC<|.int 64)<|aa (eC<|.int 37) aC) aC)<|A8 [2,3,4,5,6,7])<|aS (bc 8<|aD KH.dP<|aa (eB oDiv (eW 1)<|eC<|.int 16111872)<|aa (eL<|GG (eL<|b?<|aa (eB mY (eC<|.int 10)<|eC<|.int 60) aC)<|eL<|Nv (b?<|aa (eB qB (eB mY (eC<|.int 10)<|eC<|.int 60)<|eC<|.int 1) aC)<|eC<|.int 6) aC)<|aS (bc 7<|eB oMod (eW 7)<|eB bK (eB fP (eB bK (eW 2)<|eC<|.int 1)<|eB bK (eW 3)<|eC<|.int 1)<|eC<|.int 1)<|aS (bc 4<|eB aR (eL<|b?<|aa (eC<|.str [])<|aa (eB aR (eC<|.str aX)<|eB qB (eW 4)<|eC<|.int 1) aC)<|eU yq<|eB Gm (eW 4)<|eC<|.int 0)<|aS (bc 9<|eL<|bS (fT<|eC<|.int 6) 1 [6,8] (aW 0) (tE<|eB oEq (eB oMod (eB oDiv (eW 1)<|eB aR (eL<|b?<|aa (eC<|.int 1)<|aa (eC<|.int 2)<|aa (eC<|.int 4)<|aa (eC<|.int 8)<|aa (eC<|.int 16)<|aa (eC<|.int 32) aC)<|eW 0)<|eC<|.int 2)<|eC<|.int 1)<|eE<|aa (eV 0)<|aa (eB bK (eC<|.int 1)<|eB aR (eW 2)<|eB bK (eC<|.int 1)<|eW 0) aC)<|a7<|eE<|aa (eV 0)<|aa (eB bK (eW 2)<|eC<|.int 1)<|aa (eB bK (eW 3)<|eC<|.int 1)<|aa (eV 4)<|aa (eV 7)<|aa (eV 5)<|aa (eB aR (eW 8)<|eC<|.int 0)<|aa (eU f7<|eW 9) aC)
def kQ:γ D->Res D:=fn 2 10 mQ
theorem Di(x0 x1:D):kQ [x0,x1]=bJ (mQ [AC (.val x0),AC (.val x1),At,At,At,At,At,At,At,At]):=cI _ _ _ _ rfl
def jP:SF:=(aS (bc 3<|aD dI<|aa (eV 1)<|aa (eC<|.int 9) aC)<|aS (bc 4<|eB aR (eL<|b?<|aa (eC<|.int 1)<|aa (eC<|.int 2)<|aa (eC<|.int 1)<|aa (eC<|.int 3)<|aa (eC<|.int 2)<|aa (eC<|.int 1)<|aa (eC<|.int 2)<|aa (eC<|.int 1) aC)<|eB oMod (eB oDiv (eB aR (eW 3)<|eC<|.int 0)<|eC<|.int 5)<|eC<|.int 8)<|aS (bc 5<|eB aR (eL<|b?<|aa (eC<|.int 1)<|aa (eC<|.int 1)<|aa (eC<|.int 2)<|aa (eC<|.int 1)<|aa (eC<|.int 1)<|aa (eC<|.int 1)<|aa (eC<|.int 1)<|aa (eC<|.int 2) aC)<|eB oMod (eB oDiv (eB aR (eW 3)<|eC<|.int 1)<|eC<|.int 5)<|eC<|.int 8)<|aS (bc 6<|eB aR (eL<|b?<|aa (eC<|.str [])<|aa (eC<|.str [])<|aa (eC<|.str [])<|aa (eB aR (eW 2)<|eC<|.int 0)<|aa (eC<|.str [])<|aa (eB aR (eW 2)<|eC<|.int 1) aC)<|eB oMod (eB oDiv (eB aR (eW 3)<|eC<|.int 2)<|eC<|.int 5)<|eC<|.int 6)<|aS (bc 7<|eB M3 (eB aR (eL<|b?<|aa (eC<|.int 0)<|aa (eC<|.int 0)<|aa (eC<|.int 1)<|aa (eC<|.int 0)<|aa (eC<|.int 0)<|aa (eC<|.int 0) aC)<|eB oMod (eB oDiv (eB aR (eW 3)<|eC<|.int 3)<|eC<|.int 5)<|eC<|.int 6)<|eB fP (eW 4)<|eW 5)<|aS (bc 8<|eB aR (eL<|b?<|aa (eC<|.int 0)<|aa (eC<|.int 1)<|aa (eC<|.int 0)<|aa (eC<|.int 0)<|aa (eC<|.int 1)<|aa (eC<|.int 0)<|aa (eC<|.int 0)<|aa (eC<|.int 2) aC)<|eB oMod (eB oDiv (eB aR (eW 3)<|eC<|.int 4)<|eC<|.int 5)<|eC<|.int 8)<|aS (bc 9<|eB aR (eL<|b?<|aa (eB oMod (eB oDiv (eB aR (eW 3)<|eC<|.int 5)<|eC<|.int 5)<|eC<|.int 4)<|aa (eB fP (eB aR (eW 3)<|eC<|.int 6)<|eB mY (eC<|.int 10)<|eC<|.int 50) aC)<|eU yq<|eB oEq (eB oMod (eB oDiv (eB aR (eW 3)<|eC<|.int 5)<|eC<|.int 20)<|eC<|.int 6)<|eC<|.int 5)<|aS (nS 10<|b? aC)<|aS (i9 (fT<|eC<|.int 6) (aW 11)<|gU (tE<|eB oEq (eB oMod (eB oDiv (eB aR (eW 3)<|eC<|.int 7)<|eB bK (eC<|.int 3)<|eB fP (eC<|.int 2)<|eW 11)<|eC<|.int 4)<|eC<|.int 1) (dW 10<|eE<|aa (eV 11)<|aa (eB bK (eC<|.int 1)<|eB oMod (eB oDiv (eB aR (eW 3)<|eC<|.int 8)<|eB bK (eC<|.int 2)<|eW 11)<|eC<|.int 3) aC) bw)<|a7<|eE<|aa (eV 0)<|aa (eV 4)<|aa (eV 5)<|aa (eV 6)<|aa (eV 7)<|aa (eV 8)<|aa (eV 9)<|aa (eU f7<|eW 10) aC)
def iS:γ D->Res D:=fn 3 12 jP
theorem yV(x0 x1 x2:D):iS [x0,x1,x2]=bJ (jP [AC (.val x0),AC (.val x1),AC (.val x2),At,At,At,At,At,At,At,At,At]):=cI _ _ _ _ rfl
def iW:SF:=(aS (bc 3<|aD c5<|aa (eB oMod (eB oDiv (aD KG.bV<|aa (eV 0)<|aa (eC<|.int 0) aC)<|eC<|.int 144)<|eB mY (eC<|.int 10)<|eC<|.int 60) aC)<|aS (nS 4<|b? aC)<|aS (i9 (fT<|eU cQ<|eW 2) (aW 5)<|aS (bc 6<|aD KG.bV<|aa (eV 0)<|aa (eB bK (eW 1)<|eW 5) aC)<|gU (vw (tE<|eB oEq (eB oMod (aD KG.bV<|aa (eV 0)<|aa (eC<|.int 0) aC)<|eC<|.int 2)<|eC<|.int 1)<|tE<|eB Gm (eB oMod (eW 6)<|eC<|.int 3)<|eC<|.int 0) (dW 4<|aD kQ<|aa (eB aR (eW 2)<|eW 5)<|aa (eB oDiv (eW 6)<|eC<|.int 3) aC)<|dW 4<|aD iS<|aa (eB aR (eW 2)<|eW 5)<|aa (eB bK (eB oDiv (eW 6)<|eC<|.int 3)<|eB fP (eB fP (eC<|.int 7)<|eW 5)<|eW 5)<|aa (eV 3) aC)<|a7<|eU f7<|eW 4)
def ig:γ D->Res D:=fn 3 7 iW
theorem vZ(x0 x1 x2:D):ig [x0,x1,x2]=bJ (iW [AC (.val x0),AC (.val x1),AC (.val x2),At,At,At,At]):=cI _ _ _ _ rfl
def gM:SF:=(aS (nS 2<|b? aC)<|aS (i9 (fT<|eB bK (eB qB (eU cQ<|eW 0)<|eB aR (eW 1)<|eC<|.int 2)<|eC<|.int 1) (aW 3)<|i9 (fT<|eB bK (eB qB (eU cQ<|eB aR (eW 0)<|eC<|.int 0)<|eB aR (eW 1)<|eC<|.int 1)<|eC<|.int 1) (aW 4)<|aS (bc 5<|eB rB (eC<|.str [])<|eL<|bS (eJ<|HF (eW 0) (r8<|eW 3)<|r8<|eB bK (eW 3)<|eB aR (eW 1)<|eC<|.int 2) 1 [4,1] (aW 0) bZ<|HF (eW 0) (r8<|eW 1)<|r8<|eB bK (eW 1)<|eB aR (eW 2)<|eC<|.int 1)<|aS (bc 6<|eL<|bS (eJ<|eW 5) 1 [1] (aW 0) (vw (tE<|eB pz (eW 0)<|eC<|.str [46,61])<|tE<|eB oR (eW 0)<|eB aR (eW 1)<|eC<|.int 3)<|eV 0)<|gU (vw (tE<|eB oEq (eW 6)<|eL<|b? aC)<|tE<|eB S? (eB wU (eW 5)<|eC<|.str [61])<|eB aR (eW 1)<|eC<|.int 4) (dW 2<|eE<|aa (eV 3)<|aa (eV 4) aC) bw)<|t9 2<|a7<|eV 2)
def dO:γ D->Res D:=fn 2 7 gM
def oH:SF:=(aS (bc 3<|eC<|.int 1)<|aS (i9 (eJ<|eV 1) (aW 4)<|gU (tE<|eB (yr AT) (eB aR (eW 4)<|eC<|.int 0)<|eM 1 2) (bc 3<|eB fP (eW 3)<|eB bK (eC<|.int 1)<|eU cQ<|aD dO<|aa (eV 0)<|aa (eV 4) aC) bw)<|a7<|eV 3)
def fv:γ D->Res D:=A9 [AT,AT,Ch] 5 oH
theorem Be(x0:D)(x1:D)(k2:γ (Sum Int<|γ Nat))(v2:γ D):fv [x0,x1,.dct k2 v2]=bJ (oH [AC (.val x0),AC (.val x1),AC (.bor<|.dct k2 v2),At,At]):=rK _ _ _ _ rfl
def i4:XF:=(jx (bc 3<|aD KB.jJ<|aa (eV 0)<|aa (eV 1)<|aa (eV 2) aC) wu<|jx (gU (tE<|eB Gm (eW 3)<|eC<|.int 2000) lU bw) (BX (tE<|eB Gm (eW 3)<|eC<|.int 2000) (kE [84,111,111,71,114,101,97,116] [[109,97,110,121],[109,111,115,116]]<|aa (eV 3)<|aa (eC<|.int 2000) aC) wu) wu)
def gH:γ D->ε XN:=fx 3 4 i4
theorem sr(x0 x1 x2:D):gH [x0,x1,x2]=i4 [AC (.val x0),AC (.val x1),AC (.val x2),At]:=Wg _ _ _ _ rfl
def i5:XF:=(jx (bc 3<|aD KB.d6<|aa (eV 0)<|aa (eV 1)<|aa (eV 2) aC) (f? gH<|aa (eV 0)<|aa (eV 1)<|aa (eV 2) aC) wu)
def gJ:γ D->ε XN:=fx 3 4 i5
theorem su(x0 x1 x2:D):gJ [x0,x1,x2]=i5 [AC (.val x0),AC (.val x1),AC (.val x2),At]:=Wg _ _ _ _ rfl
def jD:XF:=(jx (gU (fZ<|tE<|aD KS.cU<|aa (eV 1) aC) lU bw) (BX (fZ<|tE<|aD KS.cU<|aa (eV 1) aC) (lN [78,111,71,114,111,117,112]<|eC<|.str Mb) wu)<|jx (gU (tE<|eB yt (eB aR (eW 1)<|eC<|.int 0)<|eL<|bS (eJ<|eU (eT [103,117,101,115,116,115])<|eM 0 0) 1 [] (aW 0) bZ<|eB aR (eW 0)<|eC<|.int 0) lU bw) (BX (tE<|eB yt (eB aR (eW 1)<|eC<|.int 0)<|eL<|bS (eJ<|eU (eT [103,117,101,115,116,115])<|eM 0 0) 1 [] (aW 0) bZ<|eB aR (eW 0)<|eC<|.int 0) (lN [84,119,105,99,101]<|eC<|.str t_1) wu)<|jx (bc 2<|eB bK (eU (eT [103,117,101,115,116,115])<|eM 0 0)<|eE<|aa (eV 1) aC) wu<|jx (gU (tE<|eB Gm (eU cQ<|eW 2)<|eC<|.int 6) lU bw) (BX (tE<|eB Gm (eU cQ<|eW 2)<|eC<|.int 6) (kE [84,111,111,71,114,101,97,116] [[109,97,110,121],[109,111,115,116]]<|aa (eU cQ<|eW 2)<|aa (eC<|.int 6) aC) wu)<|jx (bc 3<|eB bK (eU (eT [104,101,108,100])<|eM 0 0)<|eE<|aa (eC .non) aC) wu<|jx (bc 4<|aD KB.bf<|aa (eU (eT [104,97,108,108])<|eM 0 0)<|aa (eV 2)<|aa (eV 3) aC) (f? gJ<|aa (eU (eT [104,97,108,108])<|eM 0 0)<|aa (eV 2)<|aa (eV 3) aC)<|jx (gU (tE<|eU gD<|eW 4) lU bw) (BX (tE<|eU gD<|eW 4) (kE [70,117,108,108] [[112,97,112,101,114]]<|aa (aD KC.gg<|aa (eU (eT [104,97,108,108])<|eM 0 0)<|aa (eV 2)<|aa (eV 3) aC) aC) wu) wu)
def gc:γ D->ε XN:=LP [Ch,AT] 5 jD
theorem yQ(k0:γ (Sum Int<|γ Nat))(v0:γ D)(x1:D):gc [.dct k0 v0,x1]=jD [AC (.bor<|.dct k0 v0),AC (.val x1),At,At,At]:=E8 _ _ _ _ rfl
def mq:SM:=(cm (bC (fE 0 [Ch,AT])<|bc 2<|eC .non)<|cm (AN (GB 2<|fN iB [Ch,AT] [0]<|aa (eM 0 0)<|aa (eV 1) aC) (f? gc<|aa (eM 0 0)<|aa (eV 1) aC)<|R4 (GL [([70,117,108,108],Ch)]) (bC (fE 0 [Ch,AT])<|bc 2<|eC<|.str [102,117,108,108]) hNo)<|bC (fE 0 [Ch,AT])<|a7<|eV 2)
def dJ:γ D->Res (D×γ D):=zp (fE 0 [Ch,AT]) [Ch,AT] 3 mq
def oJ:SF:=(a7<|eU f7<|eL<|bS (eJ<|eW 0) 1 [1] (aW 0) bZ<|eB ug (eM 1 1)<|eB aR (eW 0)<|eC<|.int 0)
def fy:γ D->Res D:=A9 [AT,Ch] 2 oJ
theorem Bg(x0:D)(k1:γ (Sum Int<|γ Nat))(v1:γ D):fy [x0,.dct k1 v1]=bJ (oJ [AC (.val x0),AC (.bor<|.dct k1 v1)]):=rK _ _ _ _ rfl
def mO:SM:=(cm (bC (fE 0 [Ch,AT,AT,Ch,AT])<|bc 5<|eB bK (eW 2)<|eE<|aa (eV 4) aC)<|cm (bC (fE 0 [Ch,AT,AT,Ch,AT])<|gU (tE<|eB Gm (aD fv<|aa (eV 1)<|aa (eV 5)<|aa (eM 1 3) aC)<|eC<|.int 250) (a7<|eE<|aa (eV 2)<|aa (eC<|.bl Ch) aC) bw)<|cm (bC (fE 0 [Ch,AT,AT,Ch,AT])<|bc 6<|aD KB.bf<|aa (eV 1)<|aa (eV 5)<|aa (aD fy<|aa (eV 5)<|aa (eM 1 3) aC) aC)<|cm (GB 7<|fN dJ [Ch,AT] [0]<|aa (eM 0 0)<|aa (eV 4) aC)<|cm (bC (fE 0 [Ch,AT,AT,Ch,AT])<|gU (tE<|eU gD<|eW 6) (a7<|eE<|aa (eV 2)<|aa (eB oEq (eW 7)<|eC<|.str [102,117,108,108]) aC) bw)<|bC (fE 0 [Ch,AT,AT,Ch,AT])<|a7<|eE<|aa (eV 5)<|aa (eB oEq (eW 7)<|eB aR (eW 6)<|eU Jo<|eC<|.int 1) aC)
def dQ:γ D->Res (D×γ D):=zp (fE 0 [Ch,AT,AT,Ch,AT]) [Ch,AT,AT,Ch,AT] 8 mO
def gy:XF:=(jx (gU (tE<|aD KS.c6<|aa (eV 1) aC) (i9 (EZ<|eU (eT [103,117,101,115,116,115])<|eM 0 0) (iA [2,3])<|gU (tE<|eB oEq (eB aR (eW 3)<|eC<|.int 0)<|eW 1) (a7<|eV 2) bw) bw) wu<|lN [78,111,78,97,109,101]<|eC<|.str t_2)
def bL:γ D->ε XN:=LP [Ch,AT] 4 gy
theorem og(k0:γ (Sum Int<|γ Nat))(v0:γ D)(x1:D):bL [.dct k0 v0,x1]=gy [AC (.bor<|.dct k0 v0),AC (.val x1),At,At]:=E8 _ _ _ _ rfl
def kD:XF:=(jx (bc 2<|aD a_<|aa (eM 0 0)<|aa (eV 1) aC) (f? bL<|aa (eM 0 0)<|aa (eV 1) aC) wu)
def iQ:γ D->ε XN:=LP [Ch,AT] 3 kD
theorem vS(k0:γ (Sum Int<|γ Nat))(v0:γ D)(x1:D):iQ [.dct k0 v0,x1]=kD [AC (.bor<|.dct k0 v0),AC (.val x1),At]:=E8 _ _ _ _ rfl
def kC:XF:=(jx (bc 2<|aD a_<|aa (eM 0 0)<|aa (eV 1) aC) (f? bL<|aa (eM 0 0)<|aa (eV 1) aC) wu)
def iP:γ D->ε XN:=LP [Ch,AT] 3 kC
theorem vR(k0:γ (Sum Int<|γ Nat))(v0:γ D)(x1:D):iP [.dct k0 v0,x1]=kC [AC (.bor<|.dct k0 v0),AC (.val x1),At]:=E8 _ _ _ _ rfl
def j0:SM:=(cm (bC (fE 0 [Ch,AT,AT])<|bc 3<|eC<|.bl AT)<|cm (AN (sf (Nf<|tE<|eB oEq (eW 1)<|eC<|.int 0) (AQ<|fN fJ [Ch,AT] [0]<|aa (eM 0 0)<|aa (eV 2) aC)<|AQ<|fN fK [Ch,AT] [0]<|aa (eM 0 0)<|aa (eV 2) aC) (BX (tE<|eB oEq (eW 1)<|eC<|.int 0) (f? iP<|aa (eM 0 0)<|aa (eV 2) aC)<|f? iQ<|aa (eM 0 0)<|aa (eV 2) aC)<|R4 (GL [([78,111,78,97,109,101],Ch)]) (bC (fE 0 [Ch,AT,AT])<|bc 3<|eC<|.bl Ch) hNo)<|bC (fE 0 [Ch,AT,AT])<|a7<|eV 3)
def fw:γ D->Res (D×γ D):=zp (fE 0 [Ch,AT,AT]) [Ch,AT,AT] 4 j0
def jl:SM:=(cm (bC (fE 0 [Ch,AT,AT,Ch,AT,AT])<|bc 6<|eB aR (eW 4)<|eB oMod (eB oDiv (eW 5)<|eC<|.int 8)<|eC<|.int 12)<|cm (bC (fE 0 [Ch,AT,AT,Ch,AT,AT])<|bc 7<|eL<|bS (eJ<|eW 2) 1 [] (aW 0) bZ<|eB aR (eW 0)<|eC<|.int 0)<|cm (sf (Nf<|tE<|eB kK (eB aR (eW 6)<|eC<|.int 0)<|eW 7) (cm (JO (fE 0 [Ch,AT,AT,Ch,AT,AT]) (eJ<|eB aR (eL<|b?<|aa (eL<|b? aC)<|aa (eL<|b?<|aa (eC<|.int 0) aC)<|aa (eL<|b?<|aa (eC<|.int 0)<|aa (eC<|.int 1) aC)<|aa (eL<|b?<|aa (eC<|.int 1)<|aa (eC<|.int 0) aC) aC)<|eB oMod (eB oDiv (eW 5)<|eC<|.int 96)<|eC<|.int 4) (aW 8)<|sf (EI<|X8<|fN fw [Ch,AT,AT] [0]<|aa (eM 0 0)<|aa (eV 8)<|aa (eB aR (eW 6)<|eC<|.int 0) aC) (bC (fE 0 [Ch,AT,AT,Ch,AT,AT])<|a7<|eE<|aa (eV 2)<|aa (eC<|.bl AT) aC) nE)<|AO (fE 0 [Ch,AT,AT,Ch,AT,AT])<|fN dQ [Ch,AT,AT,Ch,AT] [0,3]<|aa (eM 0 0)<|aa (eV 1)<|aa (eV 2)<|aa (eM 1 3)<|aa (eV 6) aC) nE)<|cm (sf (Nf<|tE<|eB oLt (eB oMod (eW 5)<|eC<|.int 8)<|eC<|.int 4) (cm (Rj 3 (eB aR (eW 6)<|eC<|.int 0)<|aD dR<|aa (eM 0 0)<|aa (eB aR (eW 6)<|eC<|.int 0) aC)<|AO (fE 0 [Ch,AT,AT,Ch,AT,AT])<|GA<|my (mP<|eV 2)<|my (mU gD<|fN fJ [Ch,AT] [0]<|aa (eM 0 0)<|aa (eB aR (eW 6)<|eC<|.int 0) aC) xC) nE)<|cm (sf (Nf<|tE<|eB (yr Ch) (eB aR (eW 6)<|eC<|.int 0)<|eM 1 3) (AQ<|Rk 3<|eB aR (eW 6)<|eC<|.int 0) nE)<|cm (bC (fE 0 [Ch,AT,AT,Ch,AT,AT])<|bc 9<|eU f7<|eL<|bS (eJ<|eW 2) 1 [6] (aW 0) (tE<|eB oR (eB aR (eW 0)<|eC<|.int 0)<|eB aR (eW 1)<|eC<|.int 0)<|eV 0)<|AO (fE 0 [Ch,AT,AT,Ch,AT,AT])<|GA<|my (mP<|eV 9)<|my (mU gD<|fN fK [Ch,AT] [0]<|aa (eM 0 0)<|aa (eB aR (eW 6)<|eC<|.int 0) aC) xC)
def bO:γ D->Res (D×γ D):=zp (fE 0 [Ch,AT,AT,Ch,AT,AT]) [Ch,AT,AT,Ch,AT,AT] 10 jl
def lq:SF:=(aS (bc 4<|aD KB.bf<|aa (eV 1)<|aa (eV 2)<|aa (aD fy<|aa (eV 2)<|aa (eM 1 3) aC) aC)<|aS (gU (BM (tE<|eB oR (aD fY<|aa (eM 0 0) aC)<|eW 2)<|BM (tE<|eB oR (aD fX<|aa (eM 0 0) aC)<|eW 4)<|tE<|eB oR (aD il<|aa (eM 0 0) aC)<|aD KB.cC<|aa (eV 2)<|aa (eV 4) aC) (a7<|eC<|.bl AT) bw)<|aS (i9 (J7 (eV 2)<|eV 4) (iA [5,6])<|gU (tE<|eB oR (aD dR<|aa (eM 0 0)<|aa (eB aR (eW 5)<|eC<|.int 0) aC)<|eW 6) (a7<|eC<|.bl AT) bw)<|a7<|eC<|.bl Ch)
def eQ:γ D->Res D:=A9 [Ch,AT,AT,Ch] 7 lq
theorem vX(k0:γ (Sum Int<|γ Nat))(v0:γ D)(x1:D)(x2:D)(k3:γ (Sum Int<|γ Nat))(v3:γ D):eQ [.dct k0 v0,x1,x2,.dct k3 v3]=bJ (lq [AC (.bor<|.dct k0 v0),AC (.val x1),AC (.val x2),AC (.bor<|.dct k3 v3),At,At,At]):=rK _ _ _ _ rfl
def Li:SF:=(aS (bc 1<|aD jL<|aa (eV 0) aC)<|aS (bc 2<|aD iR<|aa (aD KG.bV<|aa (eV 0)<|aa (eC<|.int 2) aC)<|aa (eC<|.int 6) aC)<|aS (bc 3<|aD ig<|aa (eV 0)<|aa (eC<|.int 3)<|aa (eL<|GG (eW 2)<|eW 2) aC)<|ya 4 iT (eV 1)<|cm (bC [4]<|bc 5<|eE aC)<|EN [4] 6<|cm (JO ([4]++[6]) (eJ<|eL<|GG (eL<|b?<|aa (eC<|.int 0)<|aa (eC<|.int 9)<|aa (eC<|.int 16) aC)<|eL<|Nu (eW 0) (r8<|eC<|.int 15)<|r8<|eC<|.int 28) (aW 7)<|cm (Nj ([4]++[6]) (fN bO [Ch,AT,AT,Ch,AT,AT] [4,6]<|aa (eM 0 4)<|aa (eV 1)<|aa (eV 5)<|aa (eM 1 6)<|aa (eV 3)<|aa (eV 7) aC)<|A8 [5,8])<|bC ([4]++[6])<|gU (BM (fZ<|tE<|eV 8)<|fZ<|tE<|aD eQ<|aa (eM 0 4)<|aa (eV 1)<|aa (eV 5)<|aa (eM 1 6) aC) (a7<|eC<|.bl AT) bw)<|bC ([4]++[6])<|a7<|eC<|.bl Ch)
def qL:γ D->Res D:=fn 1 9 Li
theorem R_(x0:D):qL [x0]=bJ (Li [AC (.val x0),At,At,At,At,At,At,At,At]):=cI _ _ _ _ rfl
end jt
set_option maxRecDepth 8000
namespace jt
open Z
abbrev Le:γ Nat:=[78,111,78,97,109,101]
abbrev PU:γ Nat:=[70,117,108,108]
abbrev dk(x:Nat)(hall gs hl ps:D):D:=.dct [.inl (x:Int),.inl 0,.inr [104,97,108,108],.inr [103,117,101,115,116,115],.inr [104,101,108,100],.inr [112,108,97,99,101,115]] [hall,gs,hl,ps]
theorem eqT(s t:γ Nat):oEq (.str s) (.str t)=.ok (.bl<|decide<|s=t):=by have:kB (.str s) (.str t)=AC _:=rfl;unfold oEq;rw[this];simp only[Res.ok.injEq,D.bl.injEq];exact A53.mpr ∅
def eZ(d:D):γ Nat:=match aR d (.int 0)with
|.ok<|.str n=>n
|_=>[]
def sE(g:D):Prop:=aR g (.int 0)=.ok (.str<|eZ g)
abbrev Gn:SF:=gU (tE<|eB oEq (eB aR (eW 3)<|eC<|.int 0)<|eW 1) (a7<|eV 2) bw
theorem ui(h:sE g)(i:Nat)(d:D)(a b:ε L)(r:γ D):e_ (iA [2,3]) Gn (pair (.int<|i) g::r) [AC (.bor d),v (.str n),a,b]=if eZ g=n then .ok (.rt<|.int<|i)else e_ (iA [2,3]) Gn r [AC (.bor d),v (.str n),v (.int<|i),v g]:=by
 have gX:∀ρ,iA [2,3] (.tup [.int (i),g]) ρ=.ok _:=λ ρ=>rfl;by_cases c:eZ g=n
 .rw[M2 c];simp[e_,pair,Gn,(show aR g _=.ok _ from h),eqT,c]
 .rw[W1 c];simp[e_,pair,gX,Gn,(show aR g _=.ok _ from h),eqT,c]
theorem M7(h:∀d∈as++g::bs,sE d)(hm:∀a∈as,eZ a≠n)(hg:eZ g=n)(d:D):∀i a b,e_ (iA [2,3]) Gn (lF i<|as++g::bs) [AC (.bor d),v (.str n),a,b]=.ok (.rt<|.int<|(i+as.length:Nat)):=by
 induction as with
 |nil=>intro i a b;exact(ui (h g ∅) i d a b _).trans<|M2 hg
 |cons y as ih=>intro i a b;refine(ui (h y ∅) i d a b _).trans ?_;rw[W1<|hm y A11];refine(ih (λ z hz=>h z<|A09 _ hz) (λ z hz=>hm z<|A09 _ hz) _ _ _).trans ?_;rw[A34,show i+1+as.length=i+(as.length+1)by lia]
theorem Ax(d:D):∀gs i a b,(∀g∈gs,sE g)->(∀a∈gs,eZ a≠n)->∃a' b',e_ (iA [2,3]) Gn (lF i gs) [AC (.bor d),v (.str n),a,b]=.ok (.nx [AC (.bor d),v (.str n),a',b'])
|[],i,a,b,_,_=>⟨a,b,rfl⟩
|y::gs,i,a,b,h,hm=>by let⟨a',b',e⟩:=Ax d gs (i+1) (v<|.int<|i) (v y) (λ z hz=>h z<|A09 _ hz) (λ z hz=>hm z<|A09 _ hz);refine⟨a',b',(ui (h y A11) i d a b _).trans ?_⟩;rw[W1<|hm y A11];exact e
theorem Q7(e:KS.c6 [.str n]=.ok (.bl Ch))(h:∀d∈as++g::bs,sE d)(hm:∀a∈as,eZ a≠n)(hg:eZ g=n):a_ [dk x hall (.tup<|as++g::bs) hl ps,.str n]=.ok (.int<|as.length):=by rw[pT];refine aP ?_;have:=M7 h hm hg (dk x hall (.tup<|as++g::bs) hl ps) 0 At At;rw[B10]at this;simp[ia,e,eM,eT,g_,this]
theorem U7(e:KS.c6 [.str n]=.ok (.bl Ch))(h:∀g∈gs,sE g)(hm:∀a∈gs,eZ a≠n):bL [dk x hall (.tup gs) hl ps,.str n]=AC (Le,[]):=by rw[og];let⟨a',b',q⟩:=Ax (dk x hall (.tup gs) hl ps) gs 0 At At h hm;simp[gy,jx,lN,wu,e,eM,eT,g_,q]
theorem Sa(h:bL [dk x hall gs hl ps,.str n]=AC m):iP [dk x hall gs hl ps,.str n]=AC m:=by rw[vR];simp[kC,jx,f?,eM,h]
theorem Sx(h:bL [dk x hall gs hl ps,.str n]=AC m):iQ [dk x hall gs hl ps,.str n]=AC m:=by rw[vS];simp[kD,jx,f?,eM,h]
theorem N0:fY [dk x hall gs hl ps]=.ok gs:=by rw[sD];refine aP ?_;simp[jq,eM,eT,g_]
theorem Co:fX [dk x hall gs hl ps]=.ok ps:=by rw[sC];refine aP ?_;simp[jo,eM,eT,g_]
theorem HQ(h:KB.cC [gs,ps]=.ok w):il [dk x hall gs hl ps]=.ok w:=by rw[v_];refine aP ?_;simp[ly,eM,eT,g_,h]
theorem zE(h:a_ [dk x hall gs hl ps,.str n]=.ok k)(hp:aR ps k=.ok d):dR [dk x hall gs hl ps,.str n]=.ok d:=by rw[wa];refine aP ?_;simp[lz,eM,eT,g_,h,hp]
theorem Oa(h:a_ [dk x hall gs hl ps,.str n]=.ok k)(hp:aR ps k=.ok d)(hw:KH.cx [hl,k,d]=.ok Ka):fJ [dk x hall gs hl ps,.str n]=.ok (.non,[dk x hall gs Ka ps]):=by unfold fJ;rw[jM _ _ _ _ _ rfl];have s0:startB 3 [Ch,AT] [dk x hall gs hl ps,.str n]=[AC (.bor _),v _,At]:=rfl;rw[s0];simp[rP,cm,bC,mZ,h,hw,hp,eM,eT,g_,vC,fO,cV,cY,lL,qG,line,guard_pos,fE];rfl
theorem OK(h:a_ [dk x hall gs hl ps,.str n]=.ok k)(h1:eD [gs,k]=.ok GZ)(h2:eD [hl,k]=.ok Ka)(h3:KB.bf [hall,GZ,Ka]=.ok Af):fK [dk x hall gs hl ps,.str n]=.ok (.non,[dk x hall GZ Ka Af]):=by unfold fK;rw[jM _ _ _ _ _ rfl];have s0:startB 3 [Ch,AT] [dk x hall gs hl ps,.str n]=[AC (.bor _),v _,At]:=rfl;rw[s0];simp[rQ,cm,bC,mZ,h,h1,h2,h3,eM,eT,g_,vC,fO,cV,cY,lL,qG,line,guard_pos,fE];rfl
section
variable{gs hs:γ D}
theorem Mj(h:KB.jJ [a,b,c]=.ok (.int W))(hW:W<=2000):gH [a,b,c]=At:=by rw[sr];have:decide (2000<W)=AT:=A28 ∅;simp[i4,jx,BX,wu,h,this]
theorem Sw(h:KB.jJ [a,b,c]=.ok (.int W))(hW:W<=2000):gJ [a,b,c]=At:=by have:=Mj h hW;rw[su];simp[i5,jx,f?,this];split<;>first|rfl|(split<;>rfl)
theorem lZ(h:∀g∈gs,sE g)(ρ:Env)(hρ:ρ.length=1):bY (aW 0) bZ (eB aR (eW 0)<|eC<|.int 0) ρ gs=.ok (gs.map λ g=>.str<|eZ g):=by
 have:Ok (bY (aW 0) bZ (eB aR (eW 0)<|eC<|.int 0) ρ gs) λ ds=>ds=gs.map λ g=>.str (eZ g):=by
  match ρ,hρ with
  |[a],_=>refine comp_map _ (λ d hd=>?_) rfl;have:=h d hd;unfold sE at this;simp[this]
 exact this.eq
theorem xB(n:γ Nat):∀ms:γ _,gq (.str n) (ms.map .str)=AC (decide<|n∈ms)
|[]=>rfl
|m::ms=>by
 have e:kB (.str m) (.str n)=AC _:=rfl;have ih:=xB n ms;by_cases c:n=m
 .subst c;simp[gq,e,ih]
 .simp[gq,e,ih,c,A05 c]
theorem uz(n:γ Nat)(ms:γ _):yt (.str n) (.lst<|ms.map .str)=.ok (.bl<|decide<|n∈ms)/\kK (.str n) (.lst<|ms.map .str)=.ok (.bl<|!decide (n∈ms)):=by
 have:=xB n ms;constructor
 .simp[yt,this]
 .simp[kK,this]
theorem Fw(hg:KS.cU [g]=.ok (.bl Ch))(e0:sE g)(hn:∀g∈gs,sE g)(hm:∀y∈gs,eZ y≠eZ g):yt (.str<|eZ g) (.lst<|gs.map λ g=>.str<|eZ g)=.ok (.bl AT):=by have:=(uz (eZ g)<|gs.map eZ).1;rw[A20]at this;refine this.trans ?_;rw[A28];intro h;let⟨y,hy,e⟩:=A02.mp h;exact hm y hy e
theorem Sz(hg:KS.cU [g]=.ok (.bl Ch))(e0:sE g)(hn:∀g∈gs,sE g)(hm:∀y∈gs,eZ y≠eZ g)(h5:gs.length<=5)(h5':hs.length<=5)(hb:KB.bf [hall,.tup (gs++[g]),.tup (hs++[.non])]=.ok Af)(hp:gD Af=.ok (.bl AT))(hd:aR Af (.int<|-1)=.ok d):
 iB [dk x hall (.tup gs) (.tup hs) ps,g]=.ok (d,[dk x hall (.tup<|gs++[g]) (.tup<|hs++[.non]) Af]):=by
 have Fc:aR g (.int 0)=.ok (.str<|eZ g):=e0;have qH:=Fw hg e0 hn hm;have cg:=λ ρ hρ=>lZ hn ρ hρ;unfold iB;rw[jM _ _ _ _ _ rfl];have s0:startB 5 [Ch,AT] [dk x hall (.tup gs) (.tup hs) ps,g]=[AC (.bor<|dk x hall (.tup gs) (.tup hs) ps),v g,At,At,At]:=rfl;rw[s0];have l6:decide (6<(((gs++[g]).length)))=AT:=A28 (by rw[A30];simp;lia);have q0:gs.length<=16777216:=by lia
 have q1:gs.length<=16777215:=by lia
 have q2:hs.length<=16777215:=by lia
 have q3:decide (6<(gs.length:Int)+1)=AT:=A28 ∅;simp[u!,cm,bC,mZ,hg,Fc,hd,hb,hp,qH,bu,fi,cg,q0,q1,q2,q3,l6,eM,eT,g_,vC,fO,cV,cY,lL,qG,line,guard_pos,fE];rfl
theorem PY{r:ε XN}(hg:KS.cU [g]=.ok (.bl Ch))(e0:sE g)(hn:∀g∈gs,sE g)(hm:∀y∈gs,eZ y≠eZ g)(h5:gs.length<=5)(h5':hs.length<=5)(hw:KB.jJ [hall,.tup (gs++[g]),.tup (hs++[.non])]=.ok (.int W))(hW:W<=2000)(hb:KB.bf [hall,.tup (gs++[g]),.tup (hs++[.non])]=.ok Af)
 (hr:(gD Af=.ok (.bl AT)/\r=At)\/∃pp,Af=.non/\KC.gg [hall,.tup (gs++[g]),.tup (hs++[.non])]=.ok pp/\r=AC (PU,[([112,97,112,101,114],pp)])):gc [dk x hall (.tup gs) (.tup hs) ps,g]=r:=by
 have Fc:aR g (.int 0)=.ok (.str<|eZ g):=e0;have qH:=Fw hg e0 hn hm;have cg:=λ ρ hρ=>lZ hn ρ hρ;have bx:=Sw hw hW;have q0:gs.length<=16777216:=by lia
 have q1:gs.length<=16777215:=by lia
 have q2:hs.length<=16777215:=by lia
 have q3:decide (6<(gs.length:Int)+1)=AT:=A28 ∅;rw[yQ];rcases hr with⟨hp,rfl⟩|⟨pp,rfl,hpp,rfl⟩
 .simp[jD,jx,BX,wu,f?,lN,kE,hg,Fc,qH,hb,hp,bx,bu,fi,cg,q0,q1,q2,q3,eM,eT,g_,cV,line,guard_pos]
 .have hp:gD .non=.ok (.bl Ch):=rfl;simp[jD,jx,BX,wu,f?,lN,kE,hg,Fc,qH,hb,hp,hpp,bx,bu,fi,cg,q0,q1,q2,q3,eM,eT,g_,cV,line,guard_pos]
theorem gB(d:D):Xl (AC<|some<|.bor d)=d:=rfl
theorem Lj{gs hs ps d SS:D}(hx:gc [dk x hall gs hs ps,g]=At)(h:iB [dk x hall gs hs ps,g]=.ok (d,[SS])):dJ [dk x hall gs hs ps,g]=.ok (d,[SS]):=by unfold dJ;rw[jM _ _ _ _ _ rfl];have s0:startB 3 [Ch,AT] [dk x hall gs hs ps,g]=[AC (.bor _),v g,At]:=rfl;rw[s0];simp[mq,cm,bC,AN,GB,fN,f?,hx,h,eM,cV,cY,lL,qG,line,guard_pos,fE,Ce,fm,fq,gB]
theorem DQ{gs hs ps:D}(hx:gc [dk x hall gs hs ps,g]=AC m)(hm:m.1=PU):dJ [dk x hall gs hs ps,g]=.ok (.str [102,117,108,108],[dk x hall gs hs ps]):=by unfold dJ;rw[jM _ _ _ _ _ rfl];have s0:startB 3 [Ch,AT] [dk x hall gs hs ps,g]=[AC (.bor _),v g,At]:=rfl;rw[s0];let⟨c,fs⟩:=m;cases hm;simp[mq,cm,bC,AN,R4,GL,f?,hx,eM,cV,cY,lL,qG,line,guard_pos,fE,fm,gB]
end
end jt
namespace jt
open Z
open KG (G GO Pl Rows Hall GrpG GOk a6 bh cy bg places)
open KH (aM aH Good)
open KB (cB gA cN)
abbrev js:=γ<|γ Nat×D
abbrev dd(a:Nat)(kv:js):D:=.dct (.inl a::.inl 1::kv.map λ p=>.inr p.1) (kv.map (·.2))
theorem sT(c:γ Nat):∀kv:js,g_ (kv.map λ p=>.inr p.1) (kv.map (·.2)) c=match kv.lookup c with|some d=>.ok d|none=>.bad
|[]=>rfl
|(k,d)::kv=>by
 have ih:=sT c kv;by_cases h:k=c
 .subst h;simp[g_]
 .have:(c==k)=AT:=by simpa using A05 h
  simp[g_,h,ih,Fk,this]
def bo(c:γ Nat)(d:D):js->js
|[]=>[(c,d)]
|(k,e)::r=>if k=c then(k,d)::r else(k,e)::bo c d r
theorem El(c:γ Nat)(d:D):∀kv,fO c d (kv.map λ p=>.inr p.1) (kv.map (·.2))=((bo c d kv).map λ p=>.inr p.1,(bo c d kv).map (·.2))
|[]=>rfl
|(k,e)::kv=>by
 have ih:=El c d kv;by_cases h:k=c
 .simp[fO,bo,h]
 .simp[fO,bo,h,ih]
theorem Ej(c:γ Nat)(d:D)(n:γ Nat):∀kv,(bo c d kv).lookup n=if n=c then AC d else kv.lookup n
|[]=>by
 by_cases h:n=c
 .simp[bo,h]
 .have:(n==c)=AT:=by simpa using h
  simp[bo,h]
|(k,e)::kv=>by
 have ih:=Ej c d n kv;by_cases h:k=c
 .subst h;by_cases q:n=k
  .subst q;simp[bo]
  .have:(n==k)=AT:=by simpa using q
   simp[bo,Fk,this,q]
 .by_cases q:n=k
  .subst q;simp[bo,h]
  .have:(n==k)=AT:=by simpa using q
   simp[bo,h,Fk,this,ih]
theorem z?(c:γ Nat)(d:D)(n:γ Nat):∀kv,n∈(bo c d kv).map (·.1)->n=c\/n∈kv.map (·.1)
|[],h=>by simpa[bo]using h
|(k,e)::kv,h=>by
 by_cases q:k=c
 .simp[bo,q]at h;rcases h with h|h
  .exact .inl h
  .exact .inr (by simp;exact .inr h)
 .simp[bo,q]at h;rcases h with h|h
  .exact .inr (by simp[h])
  .rcases z? c d n kv (by simpa using h)with h|h
   .exact .inl h
   .exact .inr<|A09 _ h
theorem Ei(c:γ Nat)(d:D):∀kv,(kv.map (·.1)).Nodup->((bo c d kv).map (·.1)).Nodup
|[],_=>by simp[bo]
|(k,e)::kv,h=>by
 have h':=A17.mp h;by_cases q:k=c
 .simpa[bo,q]using(by simpa[q]using h)
 .rw[show bo c d _=(k,e)::bo c d kv by simp[bo,q]];refine A17.mpr ⟨λ m=>?_,Ei c d kv h'.2⟩;rcases z? c d k kv m with z|z
  .exact q z
  .exact h'.1 z
theorem z_(c:γ Nat)(d:D):∀kv,(bo c d kv).length<=kv.length+1
|[]=>by simp[bo]
|(k,e)::kv=>by
 have:=z_ c d kv;by_cases q:k=c
 .simp[bo,q]
 .simp[bo,q];lia
def bI(c:γ Nat):js->js
|[]=>[]
|(k,e)::r=>if k=c then r else(k,e)::bI c r
theorem Bn(c:γ Nat):∀kv,gZ c (kv.map λ p=>.inr p.1) (kv.map (·.2))=((bI c kv).map λ p=>.inr p.1,(bI c kv).map (·.2))
|[]=>rfl
|(k,e)::kv=>by
 have ih:=Bn c kv;by_cases h:k=c
 .simp[gZ,bI,h]
 .simp[gZ,bI,h,ih]
theorem xq(c:γ Nat):∀kv,(bI c kv).Sublist kv
|[]=>.slnil
|(k,e)::kv=>by
 by_cases h:k=c
 .simp[bI,h]
 .simp[bI,h];exact xq c kv
theorem Bm(c n:γ Nat):∀kv,(kv.map (·.1)).Nodup->(bI c kv).lookup n=if n=c then At else kv.lookup n
|[],_=>by simp[bI]
|(k,e)::kv,h=>by
 have h':=A17.mp h;have ih:=Bm c n kv h'.2;by_cases q:k=c
 .subst q;by_cases z:n=k
  .subst z;rw[show bI n _=kv by simp[bI],M2 rfl];exact List.lookup_eq_none_iff.mpr λ p hp=>by have:p.1≠n:=λ w=>h'.1<|w▸A02.mpr ⟨p,hp,rfl⟩;simpa using A05 this
  .have:(n==k)=AT:=by simpa using z
   simp[bI,Fk,this,z]
 .by_cases z:n=k
  .subst z;simp[bI,q]
  .have:(n==k)=AT:=by simpa using z
   simp[bI,q,Fk,this,ih]
def uB:γ GO->γ Nat->ε D
|[],_=>At
|x::r,c=>if x.1.name=c then x.2.map bh else uB r c
abbrev nms(xs:γ GO):γ (γ Nat):=xs.map (·.1.name)
theorem A6:∀{xs},c∉nms xs->uB xs c=At
|[],_=>rfl
|x::r,h=>by have h1:x.1.name≠c:=λ z=>h (by simp[z]);simp only[uB,W1 h1];exact A6 λ z=>h<|A09 _ z
theorem Dc:∀{xs},(nms xs).Nodup->∀x∈xs,uB xs x.1.name=x.2.map bh
|[],_,_,h=>by cases h
|y::r,nd,x,h=>by
 have nZ:=A17.mp nd;rcases A00.mp h with rfl|h
 .simp[uB]
 .have:y.1.name≠x.1.name:=λ z=>nZ.1<|A02.mpr ⟨x,h,z.symm⟩;simp only[uB,W1 this];exact Dc nZ.2 x h
theorem N4(h:g.name∉nms xs)(c:γ Nat):uB (xs++[(g,At)]) c=uB xs c:=by
 induction xs with
 |nil=>simp[uB]
 |cons x r ih=>simp only[C12,uB];rw[ih λ z=>h<|A09 _ z]
theorem E4:∀{xs}{k:Nat}{g}{o} p,(nms xs).Nodup->xs[k]?=AC (g,o)->∀c,uB (xs.set k (g,AC p)) c=if c=g.name then AC (bh p)else uB xs c
|[],_,_,_,_,_,h,_=>by cases h
|x::r,0,g,o,p,nd,h,c=>by
 have:=A04 h;subst this;by_cases q:c=g.name
 .subst q;simp[uB]
 .simp[uB,q,A05 q]
|x::r,k+1,g,o,p,nd,h,c=>by
 have nZ:=A17.mp nd;have h':=h;have ih:=E4 p nZ.2 h' c;have ne:x.1.name≠g.name:=λ z=>nZ.1<|A02.mpr ⟨(g,o),A18 h',z.symm⟩;rw[nw];by_cases q:x.1.name=c
 .have:c≠g.name:=λ z=>ne<|q.trans z;simp[uB,q,this]
 .simp[uB,q,ih]
theorem xh:∀{xs}{k}{x},(nms xs).Nodup->xs[k]?=AC x->∀c,uB (xs.eraseIdx k) c=if c=x.1.name then At else uB xs c
|[],_,_,_,h,_=>by cases h
|y::r,0,x,nd,h,c=>by
 have:=A04 h;subst this;have nZ:=A17.mp nd;by_cases q:c=y.1.name
 .subst q;simp[A6 nZ.1]
 .simp[uB,q,A05 q]
|y::r,k+1,x,nd,h,c=>by
 have nZ:=A17.mp nd;have h':=h;have ih:=xh nZ.2 h' c;have ne:y.1.name≠x.1.name:=λ z=>nZ.1<|A02.mpr ⟨x,A18 h',z.symm⟩;rw[C65];by_cases q:y.1.name=c
 .have:c≠x.1.name:=λ z=>ne<|q.trans z;simp[uB,q,this]
 .simp[uB,q,ih]
structure O0(kv:js)(xs:List GO):Prop where
 nd:(kv.map (·.1)).Nodup
 eq:∀c,kv.lookup c=uB xs c
theorem yP(g:G):aR (a6 g) (.int 0)=.ok (.str g.name):=rfl
theorem yy(g:G):eZ (a6 g)=g.name:=rfl
theorem nY(g:G):sE (a6 g):=rfl
theorem R8(a:Nat)(kv:js)(c:γ Nat):ug (dd a kv) (.str c)=.ok ((kv.lookup c).getD .non):=by simp only[ug,guard_pos,sT];cases kv.lookup c<;>rfl
theorem Pr(b:Bool)(a:Nat)(kv:js)(c:γ Nat):yr b (.str c) (dd a kv)=.ok (.bl<|if(kv.lookup c).isSome then b else !b):=by simp only[yr,guard_pos,sT];cases kv.lookup c<;>rfl
theorem Of(o:ε Pl):((o.map bh).getD .non)=cy o:=by cases o<;>rfl
theorem Fb(h6:xs.length<=6)(nd:(nms xs).Nodup)(h:O0 kv xs):fy [aM xs,dd a kv]=.ok (aH xs):=by
 rw[Bg];refine aP ?_;have c:∀ρ,ρ.length=2->ρ[1]?=AC (AC<|.bor<|dd a kv)->bY (aW 0) bZ (eB ug (eM 1 1)<|eB aR (eW 0)<|eC<|.int 0) ρ (xs.map λ x=>a6 x.1)=.ok (xs.map λ x=>cy x.2):=by
  intro ρ hl h1;have:Ok (bY (aW 0) bZ (eB ug (eM 1 1)<|eB aR (eW 0)<|eC<|.int 0) ρ<|xs.map λ x=>a6 x.1) λ ds=>ds=xs.map λ x=>cy x.2:=by
   match ρ,hl with
   |[p,q],_=>have:=A04 h1;subst this;refine b8 (λ x:GO=>a6 x.1) (λ _=>Ch) (λ x=>cy x.2) (λ x hx=>?_) (by rw[A87.mpr λ _ _=>rfl]);have e:=R8 a kv x.1.name;rw[h.eq,Dc nd x hx,Of]at e;simp[eM,yP,e]
  exact this.eq
 have q0:xs.length<=16777216:=by lia
 simp[oJ,aM,aH,bu,fi,nL,line,c,q0,guard_pos]
theorem F!(H:Hall rows C)(k:GOk g):dO [bg rows,a6 g]=.ok (.lst<|(places rows C g).map bh):=KN.qE H k
theorem Cv(H:Hall rows C)(g:G):(places rows C g).length<=10000:=by
 have h1:(places rows C g).length<=rows.length*C:=by rw[<-KG.mT];exact A63 _ _
 have:=A65 H.r2 H.c2;lia
abbrev HU:SF:=gU (tE<|eB (yr AT) (eB aR (eW 4)<|eC<|.int 0)<|eM 1 2) (bc 3<|eB fP (eW 3)<|eB bK (eC<|.int 1)<|eU cQ<|aD dO<|aa (eV 0)<|aa (eV 4) aC) bw
theorem xF(H:Hall rows C)(X1:D):∀ys n l,(∀x∈ys,GOk x.1)->(∀x∈ys,kv.lookup x.1.name=x.2.map bh)->∃l',e_ (aW 4) HU (ys.map λ x=>a6 x.1) [v (bg rows),v X1,AC (.bor<|dd a kv),v (.int (n:Nat)),l]=.ok (.nx [v (bg rows),v X1,AC (.bor<|dd a kv),v (.int<|(n*cB rows C ys:Nat)),l'])
|[],n,l,_,_=>⟨l,by simp[e_,cB,cN]⟩
|y::ys,n,l,hg,hh=>by
 have pl:=F! H<|hg y A11;have pf:=Cv H y.1;have ei:=Pr AT a kv y.1.name;rw[hh y A11]at ei;have hy:=λ z hz=>hg z<|A09 _ hz;have hk:=λ z hz=>hh z<|A09 _ hz;cases e:y.2 with
 |some p=>
  rw[e]at ei;let⟨l',q⟩:=xF H (a:=a) X1 ys n (v<|a6 y.1) hy hk;refine⟨l',?_⟩;have ew:cB rows C (y::ys)=cB rows C ys:=by simp[cB,cN,gA,e]
  rw[ew,<-q];simp[e_,HU,eM,yP,ei]
 |none=>
  rw[e]at ei;let⟨l',q⟩:=xF H (a:=a) (kv:=kv) X1 ys (n*((places rows C y.1).length+1)) (v<|a6 y.1) hy hk;refine⟨l',?_⟩;have ew:n*cB rows C (y::ys)=n*((places rows C y.1).length+1)*cB rows C ys:=by simp[cB,cN,gA,e,Nat.mul_assoc]
  rw[ew,<-q];have big:bW (n) (1+((places rows C y.1).length)):=f_ ∅ ∅;have em:(n)*(1+((places rows C y.1).length))=((n*((places rows C y.1).length+1)):Int):=by push_cast;rw[Int.add_comm]
  simp[e_,HU,eM,yP,ei,pl,line,big,em]
theorem HS(H:Hall rows C)(h6:xs.length<=6)(hg:∀x∈xs,GOk x.1)(nd:(nms xs).Nodup)(h:O0 kv xs):fv [bg rows,aM xs,dd a kv]=.ok (.int<|cB rows C xs):=by rw[Be];refine aP ?_;let⟨l',q⟩:=xF H (a:=a) (kv:=kv) (aM xs) xs 1 At hg (λ x hx=>by rw[h.eq];exact Dc nd x hx);rw[Nat.one_mul]at q;simp only[aM]at q ⊢;simp[oH,q];exact⟨_,q,by simp ⟩
theorem zD{ds:γ D}(h:k<ds.length):cut ds At (AC<|k)++cut ds (AC<|(k)+1) At=ds.eraseIdx k:=by
 have e1:cut ds At _=ds.take k:=KG.uV ds ∅;have e2:cut ds (AC<|(k)+1) At=ds.drop (k+1):=by
  have:¬(k:Int)+1<0:=by lia
  have h3:((k:Int)+1).toNat=k+1:=by lia
  have h4:min (k+1) ds.length=k+1:=by lia
  simp[cut,d_,this,h4];rw[C20 ∅]
 rw[e1,e2,List.eraseIdx_eq_take_drop_succ]
theorem tu(h:k<ds.length)(hl:ds.length<=1000):eD [.tup ds,.int (k:Nat)]=.ok (.tup<|ds.eraseIdx k):=by
 rw[Dg];refine aP ?_;have c1:=k9 ds At<|some<|k;have c2:=k9 ds (AC<|(k)+1) At;have g2:(cut ds At<|some<|k).length+(cut ds (AC<|(k)+1) At).length<=16777216:=by lia
 simp[qU,g2,zD h]
end jt
namespace jt
open Z
theorem qW:startB 8 [Ch,AT,AT,Ch,AT] [dk x hall (.tup gs) hs ps,hall,.tup gs,dd a kv,g]=[AC (.bor<|dk x hall (.tup gs) hs ps),v hall,v (.tup gs),AC (.bor<|dd a kv),v g,At,At,At]:=rfl
theorem Lk(hl:gs.length<=6)(hw:fv [hall,.tup (gs++[g]),dd a kv]=.ok (.int w))(h:250<w):dQ [dk x hall (.tup gs) hs ps,hall,.tup gs,dd a kv,g]=.ok (.tup [.tup gs,.bl Ch],[dk x hall (.tup gs) hs ps,dd a kv]):=by
 unfold dQ;rw[jM _ _ _ _ _ rfl,qW];have q1:gs.length<=16777215:=by lia
 have q2:=A47 h;simp[mO,cm,bC,hw,q1,q2,eM,cY,lL,qG,line,guard_pos,fE,fm,gB]
theorem Ll(hl:gs.length<=6)(hw:fv [hall,.tup (gs++[g]),dd a kv]=.ok (.int w))(h:w<=250)(hf:fy [.tup (gs++[g]),dd a kv]=.ok fd)(hb:KB.bf [hall,.tup (gs++[g]),fd]=.ok .non)(hk:dJ [dk x hall (.tup gs) hs ps,g]=.ok (.str [102,117,108,108],[dk x hall (.tup gs) hs ps])):dQ [dk x hall (.tup gs) hs ps,hall,.tup gs,dd a kv,g]=.ok (.tup [.tup gs,.bl Ch],[dk x hall (.tup gs) hs ps,dd a kv]):=by
 unfold dQ;rw[jM _ _ _ _ _ rfl,qW];have q1:gs.length<=16777215:=by lia
 have q2:decide (250<w)=AT:=A28 ∅;have n1:gD .non=.ok _:=rfl;simp[mO,cm,bC,GB,fN,hw,hf,hb,hk,n1,q1,q2,eqT,eM,cY,lL,qG,line,guard_pos,fE,Ce,fm,fq,gB]
theorem SA(hl:gs.length<=6)(hw:fv [hall,.tup (gs++[g]),dd a kv]=.ok (.int w))(h:w<=250)(hf:fy [.tup (gs++[g]),dd a kv]=.ok fd)(hb:KB.bf [hall,.tup (gs++[g]),fd]=.ok Af)(hp:gD Af=.ok (.bl AT))(hd:aR Af (.int<|-1)=.ok d)(he:oEq d d=.ok (.bl Ch))(hk:dJ [dk x hall (.tup gs) hs ps,g]=.ok (d,[dk x hall GZ BP Af])):dQ [dk x hall (.tup gs) hs ps,hall,.tup gs,dd a kv,g]=.ok (.tup [.tup (gs++[g]),.bl Ch],[dk x hall GZ BP Af,dd a kv]):=by
 unfold dQ;rw[jM _ _ _ _ _ rfl,qW];have q1:gs.length<=16777215:=by lia
 have q2:decide (250<w)=AT:=A28 ∅;simp[mO,cm,bC,GB,fN,hw,hf,hb,hk,hp,hd,he,q1,q2,eM,cY,lL,qG,line,guard_pos,fE,Ce,fm,fq,gB]
theorem CL(hx:bL [dk x hall gs hs ps,.str n]=AC (Le,[]))(hw:w=0\/w=1):fw [dk x hall gs hs ps,.int w,.str n]=.ok (.bl Ch,[dk x hall gs hs ps]):=by
 have f1:=Sa hx;have a1:=Sx hx;unfold fw;rw[jM _ _ _ _ _ rfl];have s0:startB 4 [Ch,AT,AT] [dk x hall gs hs ps,.int w,.str n]=[AC (.bor _),v _,v _,At]:=rfl;rw[s0];rcases hw with rfl|rfl
 .simp[j0,cm,bC,AN,R4,GL,BX,f?,f1,Fk,eM,cY,lL,qG,line,guard_pos,fE,fm,gB]
 .simp[j0,cm,bC,AN,R4,GL,BX,f?,a1,Fk,eM,cY,lL,qG,line,guard_pos,fE,fm,gB]
abbrev dE(DK hall gs dct S:D)(c:Int)(g:D)(ns:D)(l8 l9:ε L):Env:=[AC (.bor DK),v hall,v gs,AC (.bor dct),v S,v (.int c),v g,v ns,l8,l9]
abbrev wB:SM:=sf (EI<|X8<|fN fw [Ch,AT,AT] [0]<|aa (eM 0 0)<|aa (eV 8)<|aa (eB aR (eW 6)<|eC<|.int 0) aC) (bC [0,3]<|a7<|eE<|aa (eV 2)<|aa (eC<|.bl AT) aC) nE
theorem wC(hx:bL [dk x hall gs hs ps,.str n]=AC (Le,[]))(e0:aR g (.int 0)=.ok (.str n))(N:D):∀(ws:γ Int) l8,qG l8=False->(∀w∈ws,w=0\/w=1)->∃LI,qG LI=False/\jU [0,3] (aW 8) wB (ws.map .int) (dE (dk x hall gs hs ps) hall gs (dd a kv) S c g N l8 At)=.ok (.nx<|dE (dk x hall gs hs ps) hall gs (dd a kv) S c g N LI At)
|[],l8,h8,_=>⟨l8,h8,rfl⟩
|w::ws,l8,h8,h=>by have nn:=CL hx<|h w A11;let⟨LI,h8',q⟩:=wC hx e0 N ws (v<|.int w) (by simp[qG]) λ z hz=>h z (A09 _ hz);refine⟨LI,h8',?_⟩;rw[<-q];simp[jU,wB,dE,sf,EI,X8,fN,nn,e0,eM,cY,lL,qG,line,guard_pos,fE,Ce,fm,fq,gB,h8,nE]
theorem kZ(gr:D):startB 10 [Ch,AT,AT,Ch,AT,AT] [dk x hall gs hs ps,hall,gs,dd a kv,S,.int c]=[AC (.bor<|dk x hall gs hs ps),v hall,v gs,AC (.bor<|dd a kv),v S,v (.int c),At,At,At,At]:=rfl
theorem FK(c:Int):∃ws:γ Int,(∀w∈ws,w=0\/w=1)/\aR (.lst [.lst [],.lst [.int 0],.lst [.int 0,.int 1],.lst [.int 1,.int 0]]) (.int<|c / 96 % 4)=.ok (.lst<|ws.map .int):=by
 have h0:0<=c / 96 % 4:=by lia
 have h1:c / 96 % 4<4:=by lia
 generalize c / 96 % 4=j at *;obtain h|h|h|h:j=0\/j=1\/j=2\/j=3:=by lia
 all_goals subst h
 .exact⟨[],by simp,rfl⟩
 .exact⟨[0],by simp,rfl⟩
 .exact⟨[0,1],by simp,rfl⟩
 .exact⟨[1,0],by simp,rfl⟩
theorem K1(hl:gl.length<=6)(hS:aR S (.int<|c / 8 % 12)=.ok g)(hn:∀y∈gl,sE y)(e0:sE g)(hm:∀y∈gl,eZ y≠eZ g)(C8:KS.c6 [.str (eZ g)]=.ok (.bl Ch))(hr:dQ [dk x hall (.tup gl) hs ps,hall,.tup gl,dd a kv,g]=.ok (r,[dk x hall GZ BP Af,dd a w9])):bO [dk x hall (.tup gl) hs ps,hall,.tup gl,dd a kv,S,.int c]=.ok (r,[dk x hall GZ BP Af,dd a w9]):=by
 have Fc:aR g (.int 0)=.ok (.str<|eZ g):=e0;have nx:=U7 (x:=x) (hall:=hall) (hl:=hs) (ps:=ps) C8 hn hm;let⟨ws,hws,ew⟩:=FK c;let⟨l8,h8,lp⟩:=wC (a:=a) (kv:=kv) (S:=S) (c:=c) nx Fc (.lst<|gl.map λ g=>.str<|eZ g) ws At (by simp[qG]) hws;have qH:=(uz (eZ g)<|gl.map eZ).2;rw[A20]at qH;have _A:eZ g∉gl.map eZ:=λ h=>by let⟨y,hy,e⟩:=A02.mp h;exact hm y hy e
 rw[A28 _A]at qH;have qH:kK (.str<|eZ g) (.lst<|gl.map λ g=>.str<|eZ g)=.ok (.bl Ch):=qH;have cg:=λ ρ hρ=>lZ hn ρ hρ;have q0:gl.length<=16777216:=by lia
 unfold bO;rw[jM _ _ _ _ _ rfl,kZ g];simp[jl,cm,bC,sf,Nf,JO,AO,fN,lp,hr,h8,hS,Fc,bu,fi,cg,q0,qH,ew,bQ,eM,cY,lL,qG,line,guard_pos,fE,Ce,fm,fq,gB]
section
variable{gl:γ D}
theorem JV:∀{kv:js},(kv.map (·.1)).Nodup->(kv.map λ p=>(GE p.1:Sum Int _)).Nodup
|[],_=>.nil
|q::kv,h=>by have h':=A17.mp h;refine A17.mpr ⟨λ m=>h'.1 ?_,JV h'.2⟩;let⟨y,hy,e⟩:=A02.mp m;exact A02.mpr ⟨y,hy,A75 e⟩
theorem Qt(h:(kv.map (·.1)).Nodup)(hl:kv.length<1000):Ad (.str n) d (AC<|some<|.bor<|dd a kv)=.ok (.bor<|dd a<|bo n d kv):=by have nd:=JV h;have e:=El n d kv;simp only[Ad];rw[guard_pos ⟨trivial,by rw[A06];exact hl,nd⟩,e]
theorem Qw(h:(kv.map (·.1)).Nodup)(hd:kv.lookup n=AC d):Ag (.str n) (AC<|some<|.bor<|dd a kv)=.ok (d,.bor<|dd a<|bI n kv):=by have nd:=JV h;have e:=Bn n kv;have f:=sT n kv;rw[hd]at f;simp only[Ag];rw[guard_pos ⟨trivial,nd⟩,f,e];rfl
theorem zV(hn:∀y∈gl,sE y)(h:∃y∈gl,eZ y=n):kK (.str n) (.lst<|gl.map λ g=>.str<|eZ g)=.ok (.bl AT):=by have qH:=(uz n<|gl.map eZ).2;rw[A20]at qH;refine qH.trans ?_;let⟨y,hy,e⟩:=h;rw[A47<|A02.mpr ⟨y,hy,e⟩];rfl
theorem G_(hl:gl.length<=6)(hS:aR S (.int<|c / 8 % 12)=.ok g)(hn:∀y∈gl,sE y)(e0:sE g)(hm:∃y∈gl,eZ y=eZ g)(hc:c % 8<4)(NT:(kv.map (·.1)).Nodup)(hkl:kv.length<1000)(hw:dR [dk x hall (.tup gl) hs ps,.str (eZ g)]=.ok p)(hf:fJ [dk x hall (.tup gl) hs ps,.str (eZ g)]=.ok (.non,[dk x hall (.tup gl) BP ps])):bO [dk x hall (.tup gl) hs ps,hall,.tup gl,dd a kv,S,.int c]=.ok (.tup [.tup gl,.bl Ch],[dk x hall (.tup gl) BP ps,dd a (bo (eZ g) p kv)]):=by
 have Fc:aR g _=.ok _:=e0;have qH:=zV hn hm;have cg:=λ ρ hρ=>lZ hn ρ hρ;have q0:gl.length<=16777216:=by lia
 have pt:=Qt (a:=a) (n:=eZ g) (d:=p) NT hkl;have n1:gD .non=.ok _:=rfl;unfold bO;rw[jM _ _ _ _ _ rfl,kZ g];simp[jl,cm,bC,sf,Nf,nE,AO,fN,Rj,GA,my,xC,mP,mU,hS,Fc,bu,fi,cg,q0,qH,hc,hw,hf,pt,n1,bQ,eM,cY,lL,qG,line,guard_pos,fE,Ce,fm,fq,gB]
theorem Np(hl:gl.length<=6)(hn:∀y∈gl,sE y)(e0:sE g)(ρ:Env)(h2:ρ.length=2)(hρ:ρ[1]?=AC (v g)):bY (aW 0) (tE<|eB oR (eB aR (eW 0)<|eC<|.int 0)<|eB aR (eW 1)<|eC<|.int 0) (eV 0) ρ gl=.ok (gl.filter λ y=>!decide (eZ y=eZ g)):=by
 have Fc:aR g _=.ok _:=e0;have:Ok (bY (aW 0) (tE<|eB oR (eB aR (eW 0)<|eC<|.int 0)<|eB aR (eW 1)<|eC<|.int 0) (eV 0) ρ gl) λ ds=>ds=gl.filter λ y=>!decide (eZ y=eZ g):=by
  match ρ,h2 with
  |[p,q],_=>
   have:=A04 hρ;subst this;refine Fn (λ y=>!decide _) (λ y=>y) (λ y hy=>?_) (by rw[List.map_id']);have:=hn y hy;unfold sE at this;have ne:oR (.str<|eZ y) (.str<|eZ g)=.ok (.bl<|!decide (eZ y=eZ g)):=by have e:=eqT (eZ y)<|eZ g;unfold oR;have q:kB (.str<|eZ y) (.str<|eZ g)=AC (eZ y==eZ g):=rfl;rw[q];simp only[Res.ok.injEq,D.bl.injEq];exact A53.mpr ∅
   simp[this,Fc,ne]
 exact this.eq
theorem uN:∀{kv},kv.lookup n=At->bI n kv=kv
|[],_=>rfl
|(k,e)::kv,h=>by
 by_cases q:n=k
 .subst q;simp at h
 .have b:(n==k)=AT:=by simpa using q
  simp only[Fk,b]at h;simp[bI,A05 q,uN h]
theorem Ha(hl:gl.length<=6)(hS:aR S (.int<|c / 8 % 12)=.ok g)(hn:∀y∈gl,sE y)(e0:sE g)(hm:∃y∈gl,eZ y=eZ g)(hc:4<=c % 8)(NT:(kv.map (·.1)).Nodup)(hf:fK [dk x hall (.tup gl) hs ps,.str (eZ g)]=.ok (.non,[dk x hall GZ BP Af])):bO [dk x hall (.tup gl) hs ps,hall,.tup gl,dd a kv,S,.int c]=.ok (.tup [.tup (gl.filter λ y=>!decide (eZ y=eZ g)),.bl Ch],[dk x hall GZ BP Af,dd a (bI (eZ g) kv)]):=by
 have Fc:aR g (.int 0)=.ok (.str<|eZ g):=e0;have qH:=zV hn hm;have cg:=λ ρ hρ=>lZ hn ρ hρ;have lg:=λ ρ h2 hρ=>Np hl hn e0 ρ h2 hρ;have q0:gl.length<=16777216:=by lia
 have q1:(gl.filter λ y=>!decide (eZ y=eZ g)).length<=16777216:=A13 (A63 _ _) q0;have n1:gD .non=.ok (.bl Ch):=rfl;have sk:¬c % 8<4:=by lia
 have ei:=Pr Ch a kv<|eZ g;cases e:kv.lookup (eZ g)with
 |none=>rw[e]at ei;rw[uN e];unfold bO;rw[jM _ _ _ _ _ rfl,kZ g];simp[jl,cm,bC,sf,Nf,nE,AO,fN,GA,my,xC,mP,mU,hS,Fc,bu,fi,nL,cg,lg,q0,q1,qH,sk,hf,ei,n1,bQ,eM,cY,lL,qG,line,guard_pos,fE,Ce,fm,fq,gB]
 |some p=>rw[e]at ei;have pp:=Qw (a:=a) NT e;unfold bO;rw[jM _ _ _ _ _ rfl,kZ g];simp[jl,cm,bC,sf,Nf,nE,AO,fN,AQ,Rk,GA,my,xC,mP,mU,hS,Fc,bu,fi,nL,cg,lg,q0,q1,qH,sk,hf,ei,pp,n1,bQ,eM,cY,lL,qG,line,guard_pos,fE,Ce,fm,fq,gB]
end
end jt
namespace jt
open Z
open KG (G GO Pl Rows Hall GrpG GOk a6 bh cy bg places)
open KH (aM aH Good)
open KB (cB gA cN lI oP Ext Full)
def Dr(g:G):Prop:=GrpG g/\KS.cU [a6 g]=.ok (.bl Ch)/\KS.c6 [.str g.name]=.ok (.bl Ch)
structure I(rows:Rows)(C:Nat)(N:List (List Nat))(xs m:List GO)(kv:js)(j:Nat):Prop where
 s:lI rows C xs m
 h:O0 kv xs
 l:kv.length<=j
 dr:∀x∈xs,Dr x.1
 nm:∀x∈xs,x.1.name∈N
theorem nC:∀(l:γ _)(N:γ (γ Nat)),l.Nodup->(∀x∈l,x∈N)->l.length<=N.length
|[],_,_,_=>A51 _
|y::l,N,h,hs=>by have h':=A17.mp h;have hy:=hs y A11;have ih:=nC l _ h'.2 λ z hz=>(List.mem_erase_of_ne λ(e:z=y)=>h'.1<|e▸hz).mpr<|hs z<|A09 _ hz;rw[List.length_erase_of_mem hy]at ih;have:=List.length_pos_of_mem hy;rw[A34];lia
theorem CM(xs:γ GO):∀y∈xs.map (λ x=>a6 x.1),sE y:=λ y hy=>by let⟨z,_,rfl⟩:=A02.mp hy;exact nY z.1
theorem Kj(h:Good rows xs)(g:G):Good rows (xs++[(g,At)]):=by
 have key:∀i g' p,(xs++[(g,At)])[i]?=AC (g',AC p)->xs[i]?=AC (g',AC p):=λ i g' p e=>by
  by_cases c:i<xs.length
  .rwa [A35 c]at e
  .rw[A45 ∅]at e;cases q:i-xs.length with
   |zero=>rw[q]at e;cases e
   |succ n=>rw[q]at e;cases e
 intro i g' p e;let⟨h1,h2⟩:=h i g' p (key i g' p e);exact⟨h1,λ j g2 q ej ne=>h2 j g2 q (key j g2 q ej) ne⟩
theorem Nq(d:D)(ds:γ D)(h:ds.length<=100):aR (.tup<|ds++[d]) (.int<|-1)=.ok d:=by
 have e:xf (ds.length+1) (-1)=AC ds.length:=by unfold xf;simp;lia
 simp[aR,e,guard_pos]
theorem G1(f:Full m)(h:m≠[])(hl:m.length<=6):∃p,aR (aH m) (.int<|-1)=.ok (bh p):=by
 obtain⟨r,y,rfl⟩:∃r y,m=r++[y]:=⟨_,_,(List.dropLast_concat_getLast h).symm⟩
 cases e:y.2 with
 |none=>exact(f _ y.1 (by rw[A45<|v4 _,Nat.sub_self,<-e];rfl)).elim
 |some p=>refine⟨p,?_⟩;unfold aH;rw[A39,f8,A32,e];exact Nq _ _ (by rw[A06];simp at hl;lia)
theorem PJ(n:Nat)(z:Int):iC n (.int z) (.int z)=AC Ch:=by
 have:iC n (.int z) (.int z)=AC (z==z):=by cases n<;>rfl
 rw[this,A94]
theorem Ws(n:Nat)(z:γ Nat):iC n (.str z) (.str z)=AC Ch:=by
 have:iC n (.str z) (.str z)=AC (z==z):=by cases n<;>rfl
 rw[this,A94]
theorem qQ:∀ds,(∀d∈ds,f d d=AC Ch)->allEq f ds ds=AC Ch
|[],_=>rfl
|d::ds,h=>by simp only[allEq,h d A11,qQ ds λ z hz=>h z<|A09 _ hz];rfl
theorem yX(n:Nat)(p:Pl):iC (n+1) (bh p) (bh p)=AC Ch:=qQ _ λ d hd=>by
 rcases A00.mp hd with rfl|hd
 .exact PJ _ _
 .rw[A19.mp hd];exact PJ _ _
theorem eqG(h:GrpG g):iC 5 (a6 g) (a6 g)=AC Ch:=by
 let⟨wt,ws,_,e1,e2⟩:=h.wsh;refine qQ _ λ d hd=>?_;simp only[A00,A40,A49]at hd;rcases hd with rfl|rfl|rfl|rfl|rfl|rfl|rfl|rfl
 .exact Ws _ _
 .exact PJ _ _
 .exact PJ _ _
 .exact Ws _ _
 .exact PJ _ _
 .exact PJ _ _
 .rw[e1];exact PJ _ _
 .rw[e2];refine qQ _ λ d hd=>?_;let⟨p,_,rfl⟩:=A02.mp hd;exact yX _ p
theorem yu(h:kB d d=AC Ch):oEq d d=.ok (.bl Ch)/\oR d d=.ok (.bl AT):=⟨by unfold oEq;rw[h],by unfold oR;rw[h];rfl⟩
theorem xn(p:Pl):oEq (bh p) (bh p)=.ok (.bl Ch)/\oR (bh p) (bh p)=.ok (.bl AT):=yu<|yX 5 p
theorem Wq(h:∀x∈xs,GrpG x.1):oR (aM xs) (aM xs)=.ok (.bl AT):=by
 have:=qQ _ λ d hd=>by let⟨y,hy,rfl⟩:=A02.mp hd;exact eqG<|h y hy
 exact(yu (d:=aM xs) this).2
theorem Wo(xs:γ GO):oR (aH xs) (aH xs)=.ok (.bl AT):=by
 have:allEq (iC 5) _ (xs.map λ x=>cy x.2)=AC Ch:=qQ _ λ d hd=>by
  let⟨y,hy,rfl⟩:=A02.mp hd;cases y.2 with
  |none=>rfl
  |some p=>exact yX _ p
 exact(yu (d:=aH xs) this).2
theorem step_ask(H:Hall rows C)(hN:N.length=6)(i:I rows C N xs m kv j)(dg:Dr g)(gn:g.name∈N)(hS:aR S (.int<|c / 8 % 12)=.ok (a6 g))(hg:g.name∉nms xs):
 ∃iX m' w9,I rows C N iX m' w9 (j+1)/\∀x a,bO [dk x (bg rows) (aM xs) (aH xs) (aH m),bg rows,aM xs,dd a kv,S,.int c]=.ok (.tup [aM iX,.bl Ch],[dk x (bg rows) (aM iX) (aH iX) (aH m'),dd a w9]):=by
 have h5:xs.length<=5:=by
  have:=nC (g.name::nms xs) N (A17.mpr ⟨hg,i.s.names⟩) λ y hy=>by
   rcases A00.mp hy with rfl|hy
   .exact gn
   .let⟨z,hz,rfl⟩:=A02.mp hy;exact i.nm z hz
  simp[nms]at this;lia
 have hm:∀y∈xs.map (λ x=>a6 x.1),eZ y≠eZ (a6 g):=λ y hy e=>by let⟨z,hz,rfl⟩:=A02.mp hy;exact hg<|A02.mpr ⟨z,hz,e⟩
 have l5:(xs.map λ x=>a6 x.1).length<=5:=by rw[A06];exact h5
 have Z7:(xs.map λ x=>cy x.2).length<=5:=by rw[A06];exact h5
 have eg:aM (xs++[(g,At)])=.tup ((xs.map λ x=>a6 x.1)++[a6 g]):=by simp[aM]
 have eo:aH (xs++[(g,At)])=.tup ((xs.map λ x=>cy x.2)++[.non]):=by simp[aH,cy]
 have k6:(xs++[(g,At)]).length<=6:=by simp;lia
 have kg:∀y∈xs++[(g,At)],GrpG y.1:=λ y hy=>by
  rcases A37.mp hy with hy|hy
  .exact i.s.Py y hy
  .rw[A19.mp hy];exact dg.1
 have ko:=λ y hy=>(kg y hy).toGOk;have kn:(nms<|xs++[(g,At)]).Nodup:=by
  simp only[nms,A39,f8,A32];exact C30.mpr ⟨i.s.names,by simp,λ a ha b hb e=>by rw[A19.mp hb]at e;exact hg<|e▸ha⟩
 have kh:O0 kv (xs++[(g,At)]):=⟨i.h.nd,λ c=>by rw[i.h.eq,N4 hg]⟩
 have Z9:=Kj i.s.good g;have hw:=λ a=>HS H (a:=a) k6 ko kn kh;have hf:=λ a=>Fb (a:=a) k6 kn kh;simp only[eg]at hw hf;refine(λ(z:∃iX m',I rows C N iX m' kv (j+1)/\∀x a,dQ [dk x (bg rows) (aM xs) (aH xs) (aH m),bg rows,aM xs,dd a kv,a6 g]=.ok (.tup [aM iX,.bl Ch],[dk x (bg rows) (aM iX) (aH iX) (aH m'),dd a kv]))=>?_) ?_
 .let⟨iX,m',i',e⟩:=z;exact⟨iX,m',kv,i',λ x a=>K1 ∅ hS (CM xs) (nY g) hm dg.2.2<|e x a⟩
 by_cases big:cB rows C (xs++[(g,At)])<=250
 .have ef:=KB.xm H k6 ko Z9;have wy:=KB.D7 H k6 ko ef;rw[eg,eo]at wy;have W2:((cB rows C<|xs++[(g,At)]):Int)<=2000:=by lia
  rcases KB.Fv H k6 kg Z9 (A13 big ∅) ef with⟨e,b⟩|⟨m',b,bb⟩
  .rcases KC.Ak H k6 ko Z9 (A13 big ∅) ef with⟨q,_⟩|⟨_,pp,q,_⟩
   .exact(q e).elim
   .rw[eg,eo]at b q;have ax:=λ x=>PY (x:=x) (ps:=aH m) dg.2.1 (nY g) (CM xs) hm l5 Z7 wy W2 b<|.inr ⟨pp,rfl,q,rfl⟩;have ak:=λ x=>DQ (ax x) rfl;simp only[eo]at hf;exact⟨xs,m,⟨i.s,i.h,B34 i.l,i.dr,i.nm⟩,λ x a=>Ll ∅ (hw a) ∅ (hf a) b<|ak x⟩
  .have ml:m'.length=xs.length+1:=by have:=bb.ext.len;simp at this;lia
   let⟨p,hp⟩:=G1 bb.full (λ e=>by rw[e]at ml;simp at ml) ∅;have nn:gD (aH m')=.ok (.bl AT):=rfl;rw[eg,eo]at b;have ax:=λ x=>PY (x:=x) (ps:=aH m) dg.2.1 (nY g) (CM xs) hm l5 Z7 wy W2 b<|.inl ⟨nn,rfl⟩;have ao:=λ x=>Sz (x:=x) (ps:=aH m) dg.2.1 (nY g) (CM xs) hm l5 Z7 b nn hp;have ak:=λ x=>Lj (ax x)<|ao x;simp only[eo]at hf;refine⟨xs++[(g,At)],m',⟨⟨k6,kg,kn,big,bb⟩,kh,B34 i.l,λ y hy=>?_,λ y hy=>?_⟩,?_⟩
   .rcases A37.mp hy with hy|hy
    .exact i.dr y hy
    .rw[A19.mp hy];exact dg
   .rcases A37.mp hy with hy|hy
    .exact i.nm y hy
    .rw[A19.mp hy];exact gn
   .intro x a;rw[eg,eo];exact SA ∅ (hw a) ∅ (hf a) b nn hp (xn p).1<|ak x
 .exact⟨xs,m,⟨i.s,i.h,B34 i.l,i.dr,i.nm⟩,λ x a=>Lk ∅ (hw a) ∅⟩
variable{j k x a:Nat}{g:G}
theorem CK(nd:(nms xs).Nodup)(dr:∀x∈xs,Dr x.1)(hk:xs[k]?=AC y):a_ [dk x hall (aM xs) hl ps,.str y.1.name]=.ok (.int<|k):=by
 let⟨h1,h2⟩:=A07.mp hk;have sp:xs=xs.take k++y::xs.drop (k+1):=by rw[<-h2,List.getElem_cons_drop,C60]
 have Ka:(xs.take k).length=k:=by rw[A24];lia
 have e:aM xs=.tup ((xs.take k).map (λ x=>a6 x.1)++a6 y.1::(xs.drop<|k+1).map λ x=>a6 x.1):=by rw[<-f8 (f:=λ x=>a6 x.1) (a:=y),<-A39,<-sp];rfl
 rw[e];have r:=Q7 (x:=x) (hall:=hall) (hl:=hl) (ps:=ps) (dr y<|A18 hk).2.2 (by
  rw[<-f8,<-A39,<-sp];exact CM xs) (λ d hd=>by
  let⟨q,hq,rfl⟩:=A02.mp hd;intro eq;rw[sp]at nd;simp only[A39]at nd;exact(C30.mp nd).2.2 q.1.name (A02.mpr ⟨q,hq,rfl⟩) y.1.name A11 eq) rfl
 rw[A06,Ka]at r;exact r
theorem Pq(hk:m[k]?=AC z):aR (aH m) (.int<|k)=.ok (cy z.2):=by
 have e:(m.map λ x=>cy x.2)[k]?=AC (cy z.2):=by rw[A08,hk];rfl
 exact(iM rfl e).1
theorem Mu(s:lI rows C xs m)(hk:xs[k]?=AC y):∃p,m[k]?=AC (y.1,AC p):=by
 let⟨o',e,_⟩:=s.best.ext.at hk;cases o' with
 |none=>exact(s.best.full k y.1 e).elim
 |some p=>exact⟨p,e⟩
theorem EH(h:g.name∈nms xs):∃(k:Nat)(y:GO),xs[k]?=AC y/\y.1.name=g.name:=by let⟨y,hy,e⟩:=A02.mp h;let⟨k,hk⟩:=B18 hy;exact⟨k,y,hk,e⟩
theorem JS(s:lI rows C xs m):(xs.map λ x=>a6 x.1).length<=6:=by rw[A06];exact s.six
theorem F1(i:I rows C N xs m kv j)(hj:j<900)(hS:aR S (.int<|c / 8 % 12)=.ok (a6 g))(hg:g.name∈nms xs)(hc:c % 8<4):
 ∃iX m' w9,I rows C N iX m' w9 (j+1)/\∀x a,bO [dk x (bg rows) (aM xs) (aH xs) (aH m),bg rows,aM xs,dd a kv,S,.int c]=.ok (.tup [aM iX,.bl Ch],[dk x (bg rows) (aM iX) (aH iX) (aH m'),dd a w9]):=by
 let⟨k,y,hk,en⟩:=EH hg;let⟨p,hp⟩:=Mu i.s hk;have nu:=λ x=>CK (x:=x) (hall:=bg rows) (hl:=aH xs) (ps:=aH m) i.s.names i.dr hk;simp only[en]at nu;have px:=Pq hp;have wh:=λ x=>zE (nu x) px;have wp:=(KB.tw i.s.six hk p).1;have fa:=λ x=>Oa (nu x) px wp;have eg:=KH.xp hk<|some p;have df:=λ x a=>G_ (a:=a) (JS i.s) hS (CM xs) (nY g) ⟨_,A02.mpr ⟨y,A18 hk,rfl⟩,en⟩ hc i.h.nd (by have:=i.l;lia) (wh x)<|fa x;have mem:∀z∈xs.set k (y.1,AC p),∃w∈xs,w.1=z.1:=λ z hz=>by
  rcases C64 hz with h|h
  .exact⟨z,h,rfl⟩
  .exact⟨y,A18 hk,by rw[h]⟩
 refine⟨xs.set k (y.1,AC p),m,bo g.name (bh p) kv,⟨i.s.fast hp,⟨Ei _ _ _ i.h.nd,λ n=>?_⟩,?_,λ z hz=>?_,λ z hz=>?_⟩,?_⟩
 .rw[Ej,E4 p i.s.names hk,i.h.eq,en]
 .have:=z_ g.name (bh p) kv;have:=i.l;lia
 .let⟨w,hw,e⟩:=mem z hz;rw[<-e];exact i.dr w hw
 .let⟨w,hw,e⟩:=mem z hz;rw[<-e];exact i.nm w hw
 .rw[eg];exact df
theorem pP:∀{xs}{k}{y},(nms xs).Nodup->xs[k]?=AC y->(xs.map λ x=>a6 x.1).filter (λ d=>!decide (eZ d=y.1.name))=(xs.eraseIdx k).map λ x=>a6 x.1
|[],_,_,_,h=>by cases h
|q::r,0,y,nd,h=>by have:=A04 h;subst this;have nZ:=A17.mp nd;rw[f8,B20 (by simp[yy])];refine A87.mpr λ d hd=>?_;let⟨z,hz,rfl⟩:=A02.mp hd;have:z.1.name≠q.1.name:=λ e=>nZ.1<|A02.mpr ⟨z,hz,e⟩;simp[yy,this]
|q::r,k+1,y,nd,h=>by have nZ:=A17.mp nd;have h':=h;have:q.1.name≠y.1.name:=λ e=>nZ.1<|A02.mpr ⟨y,A18 h',e.symm⟩;rw[f8,B70 (by simp[yy,this]),pP nZ.2 h'];rfl
theorem BZ(h:k<xs.length)(h6:xs.length<=6):eD [aM xs,.int (k)]=.ok (aM<|xs.eraseIdx k):=by have e:=tu (ds:=xs.map λ x=>a6 x.1) (by rw[A06];exact h) (by rw[A06];lia);unfold aM;rw[KB.n5];exact e
theorem BY(h:k<xs.length)(h6:xs.length<=6):eD [aH xs,.int (k)]=.ok (aH<|xs.eraseIdx k):=by have e:=tu (ds:=xs.map λ x=>cy x.2) (by rw[A06];exact h) (by rw[A06];lia);unfold aH;rw[KB.n5];exact e
theorem F2(H:Hall rows C)(i:I rows C N xs m kv j)(hS:aR S (.int<|c / 8 % 12)=.ok (a6 g))(hg:g.name∈nms xs)(hc:4<=c % 8):
 ∃iX m' w9,I rows C N iX m' w9 (j+1)/\∀x a,bO [dk x (bg rows) (aM xs) (aH xs) (aH m),bg rows,aM xs,dd a kv,S,.int c]=.ok (.tup [aM iX,.bl Ch],[dk x (bg rows) (aM iX) (aH iX) (aH m'),dd a w9]):=by
 let⟨k,y,hk,en⟩:=EH hg;let⟨m',s'⟩:=i.s.away H k;have kl:=(A07.mp hk).1;have nu:=λ x=>CK (x:=x) (hall:=bg rows) (hl:=aH xs) (ps:=aH m) i.s.names i.dr hk;simp only[en]at nu;have w1:=BZ kl i.s.six;have w2:=BY kl i.s.six;have aw:=λ x=>OK (nu x) w1 w2<|s'.tell H;have df:=λ x a=>Ha (a:=a) (JS i.s) hS (CM xs) (nY g) ⟨_,A02.mpr ⟨y,A18 hk,rfl⟩,en⟩ hc i.h.nd<|aw x;have fe:=pP i.s.names hk;rw[en]at fe;have he:∀n,(bI _ kv).lookup n=uB _ n:=λ n=>by rw[xh i.s.names hk,en,Bm _ _ _ i.h.nd,i.h.eq]
 have hs:(bI g.name kv).Sublist kv:=xq _ _;refine⟨_,m',_,⟨s',⟨i.h.nd.sublist<|hs.map _,he⟩,A13 hs.length_le<|B34 i.l,λ z hz=>i.dr z<|B44 hz,λ z hz=>i.nm z<|B44 hz⟩,?_⟩;have fe:(xs.map λ x=>a6 x.1).filter (λ y=>!decide (eZ y=eZ (a6 g)))=(xs.eraseIdx k).map λ x=>a6 x.1:=fe;rw[fe]at df;exact df
theorem step(H:Hall rows C)(hN:N.length=6)(i:I rows C N xs m kv j)(hj:j<900)(dg:Dr g)(gn:g.name∈N)(hS:aR S (.int<|c / 8 % 12)=.ok (a6 g)):
 ∃iX m' w9,I rows C N iX m' w9 (j+1)/\∀x a,bO [dk x (bg rows) (aM xs) (aH xs) (aH m),bg rows,aM xs,dd a kv,S,.int c]=.ok (.tup [aM iX,.bl Ch],[dk x (bg rows) (aM iX) (aH iX) (aH m'),dd a w9]):=by
 by_cases h:g.name∈nms xs
 .by_cases hc:c % 8<4
  .exact F1 i hj hS h hc
  .exact F2 H i hS h ∅
 .exact step_ask H hN i dg gn hS h
end jt
namespace jt
open Z
open KG (G GO Pl Rows Hall GrpG GOk a6 bh cy bg places)
open KH (aM aH Good)
open KB (cB gA cN lI oP Ext Full)
theorem HK:∀{xs m:γ GO}{d},d∈jR (xs.map λ x=>a6 x.1) (m.map λ x=>cy x.2)->∃(k:Nat)(y z:GO),xs[k]?=AC y/\m[k]?=AC z/\d=.tup [a6 y.1,cy z.2]
|[],_,_,h=>by simp[jR]at h
|_::_,[],_,h=>by simp[jR]at h
|y::xs,z::m,d,h=>by
 simp only[f8]at h;rcases A00.mp h with rfl|h
 .exact⟨0,y,z,rfl,rfl,rfl⟩
 .let⟨k,y',z',h1,h2,h3⟩:=HK h;exact⟨k+1,y',z',h1,h2,h3⟩
theorem Z1(o:ε Pl):oR (cy o) (cy o)=.ok (.bl AT):=by
 cases o with
 |none=>rfl
 |some p=>exact(xn p).2
abbrev stB:SF:=gU (tE<|eB oR (aD dR<|aa (eM 0 0)<|aa (eB aR (eW 5)<|eC<|.int 0) aC)<|eW 6) (a7<|eC<|.bl AT) bw
theorem F3(H:Hall rows C)(i:I rows C N xs m kv j):eQ [dk x (bg rows) (aM xs) (aH xs) (aH m),bg rows,aM xs,dd a kv]=.ok (.bl Ch):=by
 have hf:=Fb (a:=a) i.s.six i.s.names i.h;have hb:=i.s.tell H;have hw:=KB.tq i.s.six i.s.Py i.s.best.ext.gs.symm;have ha:=N0 (x:=x) (hall:=bg rows) (gs:=aM xs) (hl:=aH xs) (ps:=aH m);have hs:=Co (x:=x) (hall:=bg rows) (gs:=aM xs) (hl:=aH xs) (ps:=aH m);have ho:=HQ (x:=x) (hall:=bg rows) (hl:=aH xs) hw;have n1:=Wq i.s.Py;have n2:=Wo m;have n3:=(yu (d:=.int (KB.wS m))<|PJ 6 _).2;have lp:∀ρ,(∃l5 l6,ρ=[AC (.bor<|dk x (bg rows) (aM xs) (aH xs)<|aH m),v (bg rows),v (aM xs),AC (.bor<|dd a kv),v (aH m),l5,l6])->Ok (e_ (iA [5,6]) stB (jR (xs.map λ x=>a6 x.1)<|m.map λ x=>cy x.2) ρ) λ fl=>∃ρ',fl=.nx ρ':=by
  intro ρ h;refine N! (λ ρ=>∃l5 l6,ρ=[AC (.bor<|dk x (bg rows) (aM xs) (aH xs)<|aH m),v (bg rows),v (aM xs),AC (.bor<|dd a kv),v (aH m),l5,l6]) h (λ d hd ρ hρ=>?_) λ ρ _=>⟨ρ,rfl⟩
  let⟨k,y,z,h1,h2,rfl⟩:=HK hd;let⟨l5,l6,rfl⟩:=hρ;have nu:=CK (x:=x) (hall:=bg rows) (hl:=aH xs) (ps:=aH m) i.s.names i.dr h1;have wh:=zE nu<|Pq h2;have e0:=yP y.1;have ne:=Z1 z.2;have gX:∀ρ,iA [5,6] (.tup [a6 y.1,cy z.2]) ρ=.ok ((ρ.set 5<|v<|a6 y.1).set 6<|v<|cy z.2):=λ ρ=>rfl;rw[gX];simp[stB,eM,e0,wh,ne,turn]
 generalize bg rows=hh at *;rw[vX];refine aP ?_;let⟨fl,e,ρ',rfl⟩:=lp _ ⟨At,At,rfl⟩;simp[lq,hf,hb,ha,hs,ho,hw,n1,n2,n3,eM,line];exact⟨_,rfl,_,rfl,_,e,by simp[bJ]⟩
abbrev lE(X0 hall X2 S DK gs dct:D)(l7 l8:ε L):Env:=[v X0,v hall,v X2,v S,AC (.bor DK),v gs,AC (.bor dct),l7,l8]
abbrev lB:SM:=cm (Nj [4,6] (fN bO [Ch,AT,AT,Ch,AT,AT] [4,6]<|aa (eM 0 4)<|aa (eV 1)<|aa (eV 5)<|aa (eM 1 6)<|aa (eV 3)<|aa (eV 7) aC)<|A8 [5,8])<|bC [4,6]<|gU (BM (fZ<|tE<|eV 8)<|fZ<|tE<|aD eQ<|aa (eM 0 4)<|aa (eV 1)<|aa (eV 5)<|aa (eM 1 6) aC) (a7<|eC<|.bl AT) bw
def Vo(l:ε L):Prop:=l=At\/∃d,l=v d
theorem one{DK SS hall gs GZ dct Oy:D}(e0:DK=.dct (.inl a0::.inl 0::k0) v0)(e1:SS=.dct (.inl a1::.inl 0::k1) v1)(e2:dct=.dct (.inl a2::.inl 1::k2) v2)(e3:Oy=.dct (.inl a3::.inl 1::k3) v3)(hd:bO [DK,hall,gs,dct,S,.int c]=.ok (.tup [GZ,.bl Ch],[SS,Oy]))(hs:eQ [SS,hall,GZ,Oy]=.ok (.bl Ch))(h7:Vo l7)(h8:Vo l8)(r:γ D):jU [4,6] (aW 7) lB (.int c::r) (lE X0 hall X2 S DK gs dct l7 l8)=jU [4,6] (aW 7) lB r (lE X0 hall X2 S SS GZ Oy (v<|.int c)<|v<|.bl Ch):=by
 subst e0 e1 e2 e3;have gX:∀ρ,A8 [5,8] (.tup [GZ,.bl Ch]) ρ=.ok _:=λ ρ=>rfl;rcases h7 with rfl|⟨d7,rfl⟩<;>rcases h8 with rfl|⟨d8,rfl⟩ <;>
 simp[jU,lB,lE,cm,Nj,bC,fN,hd,hs,gX,eM,cY,lL,qG,line,guard_pos,Ce,fm,fq,gB]
theorem loop(H:Hall rows C)(hN:N.length=6)(hS:∀c,∃g,Dr g/\g.name∈N/\aR S (.int<|c / 8 % 12)=.ok (a6 g)):∀(cs:γ Int) xs m kv j l7 l8,I rows C N xs m kv j->j+cs.length<900->Vo l7->Vo l8->∃iX m' w9 Vp LI,∀x a,jU [4,6] (aW 7) lB (cs.map .int) (lE X0 (bg rows) X2 S (dk x (bg rows) (aM xs) (aH xs)<|aH m) (aM xs) (dd a kv) l7 l8)=.ok (.nx<|lE X0 (bg rows) X2 S (dk x (bg rows) (aM iX) (aH iX)<|aH m') (aM iX) (dd a w9) Vp LI)
|[],xs,m,kv,j,l7,l8,i,_,_,_=>⟨xs,m,kv,l7,l8,λ _ _=>rfl⟩
|c::cs,xs,m,kv,j,l7,l8,i,hj,h7,h8=>by rw[A34]at hj;let⟨g,dg,gn,eS⟩:=hS c;let⟨iX,m',w9,i',e⟩:=step H hN i ∅ dg gn eS;have st:=λ x a=>F3 (x:=x) (a:=a) H i';let⟨xs2,m2,kv2,Vp,LI,q⟩:=loop H hN hS cs iX m' w9 (j+1) (v<|.int c) (v<|.bl Ch) i' ∅ (.inr ⟨_,rfl⟩) (.inr ⟨_,rfl⟩);exact⟨xs2,m2,kv2,Vp,LI,λ x a=>(one rfl rfl rfl rfl (e x a) (st x a) h7 h8 _).trans<|q x a⟩
end jt
namespace jt
open Z KG
open KH
theorem AS(z:Int):∃a b,a∈aX/\b∈aX/\c5 [.int z]=.ok (.str [a,b]):=KM.AR z
theorem JE(c:Int)(hn:n<=1000):∃ms:γ Int,ms.length=n/\(∀m∈ms,0<=m/\m<2147483587)/\dI [.int c,.int n]=.ok (.lst<|ms.map .int):=KM.JD c hn
theorem A4(hb:Bd ns):∃rows R C,j2 C R rows/\1<=R/\R<=6/\1<=C/\C<=12/\jL [.lst (ns.map .int)]=.ok (bg rows):=by
 let⟨f,ef,hf⟩:=pY hb (k:=0) ∅;let⟨c1,ec1,_⟩:=pY hb (k:=1) ∅;have hz:Szs [2,6,12,1000000000000000000000000000000000000000000000000000000000000]:=⟨by decide,by decide⟩
 have dg0:=mM hz f;simp only[f8,A32,jX]at dg0;let⟨R,hR⟩:=g? (z:=f / 2 % 6+1) ∅;let⟨C,hC⟩:=g? (z:=f / 2 / 6 % 12+1) ∅;have Yt:1<=R/\R<=6:=by lia
 have Tp:1<=C/\C<=12:=by lia
 have q1:bW (R) (C):=dZ ∅ ∅;have hrc:R*C<=100:=A13 (A65 Yt.2 Tp.2) ∅;obtain⟨N,VN,hN⟩:∃N:Nat,(R:Int)*C=(N:Int)/\N=R*C:=⟨R*C,by push_cast;rfl,rfl⟩
 rw[<-hN]at hrc;have dg:=mM (Mf hrc) c1;rw[List.map_replicate]at dg;have hg:N<=16777216:=by lia
 let⟨la,lb,_J,_H,el⟩:=AS (f / 2 / 6 / 12 % 1000000000000000000000000000000000000000000000000000000000000);have key:Ok (bJ<|jk [v (.lst<|ns.map .int),At,At,At,At,At,At,At,At]) λ d=>∃rows R C,j2 C R rows/\1<=R/\R<=6/\1<=C/\C<=12/\d=bg rows:=by
  refine qy ?_;by_cases hm:f % 2=0
  .simp[jk,ef,ec1,line,dg0,uD,iG,hR,hC,q1,Cs,VN,hg,dg,hm];refine⟨by lia,?_⟩;refine n6 ∅ (by simp;lia) ?_;intro d hd;obtain⟨R',rfl,To⟩:∃R':Nat,d=.int R'/\1<=R'/\R'<=6:=by
    simp at hd;rcases hd with rfl|rfl|rfl|rfl|rfl|rfl
    all_goals first|exact⟨1,rfl,by decide⟩|exact⟨2,rfl,by decide⟩|exact⟨3,rfl,by decide⟩|exact⟨4,rfl,by decide⟩|exact⟨6,rfl,by decide⟩
   refine n6 ∅ (by simp;lia) ?_;intro d hd;obtain⟨C',rfl,E5⟩:∃C':Nat,d=.int C'/\1<=C'/\C'<=12:=by
    simp at hd;rcases hd with rfl|rfl|rfl|rfl|rfl|rfl|rfl|rfl|rfl|rfl|rfl|rfl
    all_goals first|exact⟨1,rfl,by decide⟩|exact⟨2,rfl,by decide⟩|exact⟨3,rfl,by decide⟩|exact⟨4,rfl,by decide⟩|exact⟨5,rfl,by decide⟩|exact⟨6,rfl,by decide⟩|exact⟨7,rfl,by decide⟩|exact⟨8,rfl,by decide⟩|exact⟨12,rfl,by decide⟩
   have p1:bW (R':Int) (C':Int):=dZ ∅ ∅;have prc:R'*C'<=100:=A13 (A65 To.2 E5.2) ∅;obtain⟨N',ZF,pN⟩:∃N:Nat,(R':Int)*C'=(N:Int)/\N=R'*C':=⟨R'*C',by push_cast;rfl,rfl⟩
   let⟨ms,Yk,_C,em⟩:=JE c1 (n:=N') ∅;have _D:ms.length<=16777216:=by lia
   rw[el];simp[line,bu,eX,ec1,p1,ZF,em,_D];refine b8 D.int (λ _=>Ch) (λ x=>.int<|x / 3 % 9) (xs:=ms) (λ x hx=>?_) ?_
   .simp[bQ]
   .rw[kT];have e1:ms.map (λ x=>D.int<|x / 3 % 9)=(ms.map λ x=>x / 3 % 9).map D.int:=by rw[A20];rfl
    rw[e1];obtain⟨nums,J'⟩:∃nums,nums=ms.map λ x=>x / 3 % 9:=⟨_,rfl⟩
    rw[<-J'];have k46:46∈signs:=by decide
    have k61:61∈signs:=by decide
    have k35:35∈signs:=by decide
    refine KM.t! (sg:=[46,46,46,46,46,61,35,la,lb]) (nums:=nums) (R:=R') (C:=C') ∅ (by simp[k46,k61,k35,pD _J,pD _H]) ?_ (by simp[J',Yk,pN]) To.2 E5.2 rfl _ _ _ _ ?_
    .intro x hx;rw[J']at hx;let⟨j,_,rfl⟩:=A02.mp hx;simp;lia
    .intro rows x j_;simp[line];exact⟨rows,R',C',j_,To.1,To.2,E5.1,E5.2,rfl⟩
  .simp[jk,ef,ec1,line,dg0,uD,iG,hR,hC,q1,Cs,VN,hg,dg,hm];refine⟨by lia,?_⟩;refine KM.t! (sg:=signs) (nums:=jX c1 (Do N 29)) (R:=R) (C:=C) ∅ (λ c hc=>hc) ?_ (by rw[uR,A80];exact hN) Yt.2 Tp.2 rfl _ _ _ _ ?_
   .intro x hx;have:=Ff c1 _ 29 (λ s hs=>by rw[C59 hs];decide) x hx;rw[F4];exact this
   .intro rows x j_;simp[line];exact⟨rows,R,C,j_,Yt.1,Yt.2,Tp.1,Tp.2,rfl⟩
 let⟨d,e,rows,R',C',j_,r1,r2,c1',TC,rfl⟩:=key;exact⟨rows,R',C',j_,r1,r2,c1',TC,by rw[Bf];exact e⟩
end jt
namespace jt
open Z
def CS(z:Int):Nat:=aX.getD (z % 26).toNat 0
theorem Pk(z:Int):CS z∈aX/\aR (.str aX) (.int<|z % 26)=.ok (.str [CS z]):=by
 have h26:aX.length=26:=rfl;have hj:(z % 26).toNat<aX.length:=by lia
 have e:aX[(z % 26).toNat]?=AC (CS z):=by unfold CS;rw[List.getD_eq_getElem?_getD,A03 hj];rfl
 exact⟨A18 e,pF ∅ e ∅⟩
theorem Nn(h:CS a=CS b):a % 26=b % 26:=by
 have q:∀i<26,∀j<26,aX.getD i 0=aX.getD j 0->i=j:=by decide
 have:=q (a % 26).toNat ∅ (b % 26).toNat ∅ h;lia
def LH(c at' st:Int)(k j:Nat):Nat:=CS<|c / (400+30*(j:Int)*(j:Int))+st*(k:Int)*(if(j:Int)=at' then 1 else 0)
theorem yz(c:Int):∃nms:γ (γ Nat),nms.length=6/\nms.Nodup/\(∀n∈nms,KS.Ht n)/\iR [.int c,.int 6]=.ok (.lst<|nms.map .str):=by
 obtain⟨st,pG,est⟩:∃s,s∈([1,3,5,7,9,11]:γ Nat)/\aR (.lst [.int 1,.int 3,.int 5,.int 7,.int 9,.int 11]) (.int<|c / 64 % 6)=.ok (.int s):=by let⟨d,hd,e,_⟩:=EU (xs:=([1,3,5,7,9,11]:γ Nat).map λ n=>D.int (n:Nat)) (i:=c / 64 % 6) ∅ (by simp;lia);let⟨s,hs,rfl⟩:=A02.mp hd;exact⟨s,hs,e⟩
 obtain⟨n,hn⟩:∃n:Nat,1+c % 8=n:=⟨(1+c % 8).toNat,by lia⟩
 have h1:1<=n:=by lia
 have h8:n<=8:=by lia
 have hn0:(0:Int)<n:=by lia
 have fd:∀j:Nat,j<8->iU (400+30*(j:Int)*(j:Int)):=by unfold iU;decide
 have f30:∀x,bW 30 x:=λ x=>dZ ∅ ∅;have fj:∀x (j:Nat),j<100->bW x (j:Int):=λ x j hj=>f_ ∅ ∅;have f0:∀x,bW x 0:=λ x=>f_ ∅ ∅;have f1:∀x,bW x 1:=λ x=>f_ ∅ ∅;obtain⟨a,ha⟩:∃a:Int,c / 8 % n=a:=⟨_,rfl⟩
 have ha0:0<=a:=by rw[<-ha];exact B73 _ ∅
 have han:a<n:=by rw[<-ha];exact B72 _ hn0
 have:Ok (bJ<|jO [v (.int c),v (.int 6),At,At,At,At,At,At,At,At,At]) λ d=>d=.lst ((Ev 6).map λ k=>.str<|(Ev n).map<|LH c a st k):=by
  refine qy ?_;simp[jO,bQ,hn,hn0,est,line,h1,ha];refine⟨by lia,?_⟩;refine f9 (λ i ρ=>∃x7 x8 x9 P7,ρ=[vi c,vi 6,vs aX,vi n,vi a,vi st,ow ((Ev i).map λ k=>.str<|(Ev n).map<|LH c a st k),x7,x8,x9,P7]) ⟨At,At,At,At,rfl⟩ ?_ ?_
  .rintro i d ρ hd ⟨x7,x8,x9,P7,rfl⟩;let⟨hi,rfl⟩:=EX hd;simp;refine f9 (λ j ρ=>∃x9 P7,ρ=[vi c,vi 6,vs aX,vi n,vi a,vi st,ow ((Ev i).map λ k=>.str<|(Ev n).map<|LH c a st k),vi (i:Nat),vs ((Ev j).map<|LH c a st i),x9,P7]) ⟨_,_,rfl⟩ ?_ ?_
   .rintro j d ρ hj ⟨x9,P7,rfl⟩;let⟨hj,rfl⟩:=EX hj;have hj8:j<8:=by lia
    let⟨hq,eq⟩:=Pk (c / (400+30*(j:Int)*(j:Int))+st*(i:Int)*(if(j:Int)=a then 1 else 0));by_cases he:(j:Int)=a
    .rw[M2 he,B49]at eq;have ht:((j:Int)=a)=True:=eq_true he;simp[f0,f1,f30,fj _ j ∅,fj _ i ∅,fd j hj8,ht,yq,line,eq];simp[A82,LH,ht];lia
    .rw[W1 he,Int.mul_zero,Int.add_zero]at eq;simp[f0,f1,f30,fj _ j ∅,fj _ i ∅,fd j hj8,he,yq,line,eq];simp[A82,LH,he];lia
   .rintro ρ ⟨x9,P7,rfl⟩;rw[gG];simp[line,A82];lia
  .rintro ρ ⟨x7,x8,x9,P7,rfl⟩;rw[gG];simp
 have RD:1<=st/\st<=11:=(by decide:∀s∈([1,3,5,7,9,11]:γ Nat),1<=s/\s<=11) st pG;rw[<-yT]at this;let⟨d,e,rfl⟩:=this;have nk:∀k,KS.Ht ((Ev n).map<|LH c a st k):=λ k=>⟨by simp;lia,by simp;lia,λ q hq=>by let⟨j,_,rfl⟩:=A02.mp hq;exact(Pk _).1⟩
 refine⟨(Ev 6).map λ k=>(Ev n).map<|LH c a st k,by simp,?_,λ q hq=>?_,by rw[e,A20];rfl⟩
 .refine B71.mpr<|C63 (λ {k k'} hk Ti (lt:k<k') z=>?_) C34;rw[A26]at hk Ti;have ha':a.toNat<n:=by lia
  have g:∀k,((Ev n).map<|LH c a st k)[a.toNat]?=AC (LH c a st k a.toNat):=λ k=>by rw[A08,jp ha'];rfl
  have z2:=(g k).symm.trans<|(A15 (λ l:γ Nat=>l[a.toNat]?) z).trans<|g k';have z3:=Nn<|A04 z2;have ea:((a.toNat:Nat):Int)=a:=by lia
  rw[M2 ea]at z3;generalize c / (400+30*((a.toNat:Nat):Int)*((a.toNat:Nat):Int))=y at z3;simp only[B49]at z3;have fin:∀s∈([1,3,5,7,9,11]:γ Nat),∀k<6,∀k'<6,k<k'->(s*k) % 26≠(s*k') % 26:=by decide
  have:=fin st pG k hk k' Ti lt;have e1:(st:Int)*(k:Int)=((st*k:Nat):Int):=by push_cast;rfl
  have e2:(st:Int)*(k':Int)=((st*k':Nat):Int):=by push_cast;rfl
  rw[e1,e2]at z3;generalize st*k=p at *;generalize st*k'=q at *;lia
 .let⟨k,_,rfl⟩:=A02.mp hq;exact nk k
end jt
namespace jt
open Z KG
open KH
theorem Ki(z:Int){nm:γ Nat}(C8:KS.Ht nm){a b:Nat}(ha:a∈aX)(hb:b∈aX):∃s:KS.Gp,KS.DY s/\s.nm=nm/\iS [.str nm,.int z,.str [a,b]]=.ok (KS.fh s):=by
 let⟨ms,Yk,_C,em⟩:=JE z (n:=9) ∅;let⟨m0,m1,m2,m3,m4,m5,m6,m7,m8,rfl⟩:=KN.M' Yk;have i0:aR (.str [a,b]) (.int 0)=.ok (.str [a]):=pF (j:=0) rfl rfl (by simp[line]);have i1:aR (.str [a,b]) (.int 1)=.ok (.str [b]):=pF (j:=1) rfl rfl (by simp[line]);have n9:∀a b c d e f g i j,aR (.lst [a,b,c,d,e,f,g,i,j]) (.int 0)=.ok a/\aR (.lst [a,b,c,d,e,f,g,i,j]) (.int 1)=.ok b/\aR (.lst [a,b,c,d,e,f,g,i,j]) (.int 2)=.ok c/\aR (.lst [a,b,c,d,e,f,g,i,j]) (.int 3)=.ok d/\aR (.lst [a,b,c,d,e,f,g,i,j]) (.int 4)=.ok e/\aR (.lst [a,b,c,d,e,f,g,i,j]) (.int 5)=.ok f/\aR (.lst [a,b,c,d,e,f,g,i,j]) (.int 6)=.ok g/\aR (.lst [a,b,c,d,e,f,g,i,j]) (.int 7)=.ok i/\aR (.lst [a,b,c,d,e,f,g,i,j]) (.int 8)=.ok j:=λ _ _ _ _ _ _ _ _ _=>⟨rfl,rfl,rfl,rfl,rfl,rfl,rfl,rfl,rfl⟩
 simp only[f8,A32]at em;replace em:dI [.int z,.int 9]=.ok (.lst [.int m0,.int m1,.int m2,.int m3,.int m4,.int m5,.int m6,.int m7,.int m8]):=em;have fin:∀x0 x1 x2 x4 x5 x6 x7 x8 x9,Ok (e_ (aW 11) (gU (tE<|eB oEq (eB oMod (eB oDiv (eB aR (eW 3)<|eC<|.int 7)<|eB bK (eC<|.int 3)<|eB fP (eC<|.int 2)<|eW 11)<|eC<|.int 4)<|eC<|.int 1) (dW 10<|eE<|aa (eV 11)<|aa (eB bK (eC<|.int 1)<|eB oMod (eB oDiv (eB aR (eW 3)<|eC<|.int 8)<|eB bK (eC<|.int 2)<|eW 11)<|eC<|.int 3) aC) bw) («zints» 0 6) [x0,x1,x2,v (.lst [.int m0,.int m1,.int m2,.int m3,.int m4,.int m5,.int m6,.int m7,.int m8]),x4,x5,x6,x7,x8,x9,ow [],At]) λ fl=>∃wl x,KS.BG 6 wl/\fl=.nx [x0,x1,x2,v (.lst [.int m0,.int m1,.int m2,.int m3,.int m4,.int m5,.int m6,.int m7,.int m8]),x4,x5,x6,x7,x8,x9,ow (wl.map KS.jV),x]:=by
  intro x0 x1 x2 x4 x5 x6 x7 x8 x9;refine f9 (λ i ρ=>∃wl x,KS.BG i wl/\ρ=[x0,x1,x2,v (.lst [.int m0,.int m1,.int m2,.int m3,.int m4,.int m5,.int m6,.int m7,.int m8]),x4,x5,x6,x7,x8,x9,ow (wl.map KS.jV),x]) ⟨[],At,⟨by simp,by simp,by simp⟩,rfl⟩ ?_ ?_
  .rintro j y ρ hj ⟨wl,x,hl,rfl⟩;let⟨BQ,rfl⟩:=ints_get hj;have q1:bW 2 (j:Int):=dZ ∅ ∅;have q2:iU (3+2*(j:Int)):=bQ ∅ ∅;have q3:iU (2+(j:Int)):=bQ ∅ ∅;have hll:wl.length<16777216:=by have:=hl.l;lia
   let⟨u,hu⟩:=g? (z:=1+m8 / (2+(j:Int)) % 3) ∅;by_cases h:m7 / (3+2*(j:Int)) % 4=1
   .simp[line,n9,q1,q2,q3,h,hll];rw[hu];have hu4:u<4:=by lia
    exact⟨wl++[(j,u)],hl.snoc ∅<|A16 hu4 ∅,by simp[KS.jV]⟩
   .simp[line,n9,q1,q2,h];exact⟨wl,hl.next,rfl⟩
  .rintro ρ ⟨wl,x,hl,rfl⟩;exact⟨wl,x,by simpa using hl,rfl⟩
 rw[yV];have:Ok (bJ<|jP [v (.str nm),v (.int z),v (.str [a,b]),At,At,At,At,At,At,At,At,At]) λ x=>∃s,KS.DY s/\s.nm=nm/\x=KS.fh s:=by
  refine qy ?_;simp[jP,bQ,em,n9,line,i0,i1];refine n6 ∅ (by simp;lia) ?_;intro x hx;obtain⟨w,rfl,w1,w2⟩:∃d:Nat,x=.int d/\1<=d/\d<=12:=by
   simp at hx;rcases hx with rfl|rfl|rfl|rfl|rfl|rfl|rfl|rfl
   all_goals first|exact⟨1,rfl,by decide,by decide⟩|exact⟨2,rfl,by decide,by decide⟩|exact⟨3,rfl,by decide,by decide⟩|exact⟨4,rfl,by decide,by decide⟩
  refine n6 ∅ (by simp;lia) ?_;intro x hx;obtain⟨d,rfl,d1,d2⟩:∃d:Nat,x=.int d/\1<=d/\d<=3:=by
   simp at hx;rcases hx with rfl|rfl|rfl|rfl|rfl|rfl|rfl|rfl
   all_goals first|exact⟨1,rfl,by decide,by decide⟩|exact⟨2,rfl,by decide,by decide⟩|exact⟨3,rfl,by decide,by decide⟩
  refine n6 ∅ (by simp;lia) ?_;intro x hx;obtain⟨kd,rfl,_M⟩:∃kd,x=.str kd/\(kd=[]\/∃c∈aX,kd=[c]):=by
   simp at hx;rcases hx with rfl|rfl|rfl|rfl|rfl|rfl
   all_goals first|exact⟨[],rfl,.inl rfl⟩|exact⟨_,rfl,.inr ⟨_,ha,rfl⟩⟩|exact⟨_,rfl,.inr ⟨_,hb,rfl⟩⟩
  refine n6 ∅ (by simp;lia) ?_;intro x hx;obtain⟨wz,rfl⟩:∃wd:Nat,x=.int wd:=by
   simp at hx;rcases hx with rfl|rfl|rfl|rfl|rfl|rfl
   all_goals first|exact⟨0,rfl⟩|exact⟨1,rfl⟩|exact⟨2,rfl⟩
  have p1:bW (w:Int) (d:Int):=dZ ∅ ∅;obtain⟨wd,_j,VH⟩:∃wd:Nat,min (wz:Int) ((w:Int)*d)=(wd:Int)/\wd<=w*d:=⟨min wz<|w*d,by
   have hN:((w*d:Nat):Int)=(w:Int)*d:=by push_cast;rfl
   rw[<-hN];lia,Nat.min_le_right _ _⟩
  simp[p1,_j];refine n6 ∅ (by simp;lia) ?_;intro x hx;obtain⟨gp,rfl,_S⟩:∃gp:Nat,x=.int gp/\gp<=6:=by
   simp at hx;rcases hx with rfl|rfl|rfl|rfl|rfl|rfl|rfl|rfl
   all_goals first|exact⟨0,rfl,by decide⟩|exact⟨1,rfl,by decide⟩|exact⟨2,rfl,by decide⟩|exact⟨6,rfl,by decide⟩
  have p6:bW m6 100000000000000000000000000000000000000000000000000:=by have:=_C m6 ∅;exact dZ ∅ ∅
  refine⟨p6,?_⟩;rw[Qe];obtain⟨wt,hwt,hwb⟩:∃wt:Nat,(if m5 / 20 % 6=5 then D.int (m6*100000000000000000000000000000000000000000000000000)else D.int (m5 / 5 % 4))=.int (wt:Nat)/\wt<10^60:=by
   have h6:=_C m6 ∅;by_cases h:m5 / 20 % 6=5
   .let⟨u,hu⟩:=g? (z:=m6*100000000000000000000000000000000000000000000000000) ∅;have kz:u<2147483587*100000000000000000000000000000000000000000000000000:=by lia
    exact⟨u,by rw[M2 h,hu],A16 kz ∅⟩
   .let⟨u,hu⟩:=g? (z:=m5 / 5 % 4) ∅;have kz:u<4:=by lia
    exact⟨u,by rw[W1 h,hu],A16 kz ∅⟩
  rw[hwt];simp;refine(fin _ _ _ _ _ _ _ _ _).imp ?_;rintro fl ⟨wl,x,hl,rfl⟩;simp[line];refine⟨⟨nm,w,d,kd,wd,gp,wt,wl⟩,⟨C8.1,C8.2.1,C8.2.2,w1,w2,d1,d2,_M,VH,_S,hwb,hl.l,λ p hp=>?_,hl.up⟩,rfl,rfl⟩;let⟨h1,h2,h3⟩:=hl.r p hp;exact⟨by lia,h2,h3⟩
 let⟨x,e,g,hg,hn,rfl⟩:=this;exact⟨g,hg,hn,e⟩
theorem oA(z:Int){K:Nat}(h:0<K):∃u:Nat,z % (K)=(u)/\u<K:=by let⟨u,hu⟩:=g? (z:=z % (K)) (B73 _ ∅);have:=B72 z (show(0)<(K:Int)by lia);exact⟨u,hu,by lia⟩
theorem SD(c:Int)(C8:KS.Ht nm):∃s,KS.DY s/\s.nm=nm/\kQ [.str nm,.int c]=.ok (KS.fh s):=by
 have dg:=mM (ss:=[12,3,27,7,64,37]) ⟨by decide,by decide⟩ c;let⟨w,hw⟩:=g? (z:=c % 12) ∅;let⟨d,hd⟩:=g? (z:=c / 12 % 3) ∅;let⟨kd,_M⟩:=g? (z:=c / 12 / 3 % 27) ∅;let⟨gp,_S⟩:=g? (z:=c / 12 / 3 / 27 % 7) ∅;let⟨bt,hbt⟩:=g? (z:=c / 12 / 3 / 27 / 7 % 64) ∅;let⟨wz,hwz⟩:=g? (z:=c / 12 / 3 / 27 / 7 / 64 % 37) ∅;have ed:jX c [12,3,27,7,64,37]=[(w:Int),d,kd,gp,bt,wz]:=by simp only[jX,hw,hd,_M,_S,hbt,hwz]
 rw[ed]at dg;simp only[f8,A32]at dg;obtain⟨M,hM,hM2⟩:∃M:Nat,((w:Int)+1)*((d:Int)+1)=(M:Int)/\M=(w+1)*(d+1):=⟨(w+1)*(d+1),by push_cast;rfl,rfl⟩
 have hM3:M<=36:=by rw[hM2];exact A13 (A65 (by lia:w+1<=12) (by lia:d+1<=3)) ∅
 let⟨wd,_j⟩:=g? (z:=(wz:Int) % ((M:Int)+1)) (B73 _ ∅);have VH:wd<=M:=by have:=B72 (wz:Int) (show(0:Int)<(M:Int)+1 by lia);lia
 have q1:bW ((w:Int)+1) ((d:Int)+1):=dZ ∅ ∅;have q3:(0:Int)<(M:Int)+1:=by lia
 have dg2:=mM (ss:=[1000000000000000000000000000000000000000000000000000000000000,999999999999999999999999999999999999999999999999999999999999,999999999999999999999999999999999999999999999999999999999999,999999999999999999999999999999999999999999999999999999999999,999999999999999999999999999999999999999999999999999999999999,999999999999999999999999999999999999999999999999999999999999,999999999999999999999999999999999999999999999999999999999999]) ⟨by decide,by decide⟩<|c / 16111872;obtain⟨u0,h0,b0⟩:∃u:Nat,c / 16111872 % 1000000000000000000000000000000000000000000000000000000000000=(u:Int)/\u<1000000000000000000000000000000000000000000000000000000000000:=oA _ ∅;obtain⟨u1,h1,b1⟩:∃u:Nat,c / 16111872 / 1000000000000000000000000000000000000000000000000000000000000 % 999999999999999999999999999999999999999999999999999999999999=(u:Int)/\u<999999999999999999999999999999999999999999999999999999999999:=oA _ ∅;obtain⟨u2,h2,b2⟩:∃u:Nat,c / 16111872 / 1000000000000000000000000000000000000000000000000000000000000 / 999999999999999999999999999999999999999999999999999999999999 % 999999999999999999999999999999999999999999999999999999999999=(u:Int)/\u<999999999999999999999999999999999999999999999999999999999999:=oA _ ∅;obtain⟨u3,h3,b3⟩:∃u:Nat,c / 16111872 / 1000000000000000000000000000000000000000000000000000000000000 / 999999999999999999999999999999999999999999999999999999999999 / 999999999999999999999999999999999999999999999999999999999999 % 999999999999999999999999999999999999999999999999999999999999=(u:Int)/\u<999999999999999999999999999999999999999999999999999999999999:=oA _ ∅;obtain⟨u4,h4,b4⟩:∃u:Nat,c / 16111872 / 1000000000000000000000000000000000000000000000000000000000000 / 999999999999999999999999999999999999999999999999999999999999 / 999999999999999999999999999999999999999999999999999999999999 / 999999999999999999999999999999999999999999999999999999999999 % 999999999999999999999999999999999999999999999999999999999999=(u:Int)/\u<999999999999999999999999999999999999999999999999999999999999:=oA _ ∅;obtain⟨u5,h5,b5⟩:∃u:Nat,c / 16111872 / 1000000000000000000000000000000000000000000000000000000000000 / 999999999999999999999999999999999999999999999999999999999999 / 999999999999999999999999999999999999999999999999999999999999 / 999999999999999999999999999999999999999999999999999999999999 / 999999999999999999999999999999999999999999999999999999999999 % 999999999999999999999999999999999999999999999999999999999999=(u:Int)/\u<999999999999999999999999999999999999999999999999999999999999:=oA _ ∅;obtain⟨u6,h6,b6⟩:∃u:Nat,c / 16111872 / 1000000000000000000000000000000000000000000000000000000000000 / 999999999999999999999999999999999999999999999999999999999999 / 999999999999999999999999999999999999999999999999999999999999 / 999999999999999999999999999999999999999999999999999999999999 / 999999999999999999999999999999999999999999999999999999999999 / 999999999999999999999999999999999999999999999999999999999999 % 999999999999999999999999999999999999999999999999999999999999=(u:Int)/\u<999999999999999999999999999999999999999999999999999999999999:=oA _ ∅;have ed2:jX (c / 16111872) [1000000000000000000000000000000000000000000000000000000000000,999999999999999999999999999999999999999999999999999999999999,999999999999999999999999999999999999999999999999999999999999,999999999999999999999999999999999999999999999999999999999999,999999999999999999999999999999999999999999999999999999999999,999999999999999999999999999999999999999999999999999999999999,999999999999999999999999999999999999999999999999999999999999]=[(u0:Int),u1,u2,u3,u4,u5,u6]:=by simp only[jX,h0,h1,h2,h3,h4,h5,h6]
 rw[ed2]at dg2;simp only[f8,A32]at dg2;obtain⟨kc,hkc,ekc⟩:∃kc∈aX,aR (.str aX) (.int<|(kd:Int)-1)=.ok (.str [kc]):=by
  by_cases h:kd=0
  .subst h;exact⟨122,by decide,by simp[aR,xf,aX,line,guard_pos]⟩
  .exact uu ∅ (by simp[aX];lia) ∅
 obtain⟨kx,hkx,ekx⟩:∃kx,(kx=[]\/∃c∈aX,kx=[c])/\aR (.lst [.str [],.str [kc]]) (.int<|if 0<kd then 1 else 0)=.ok (.str kx):=by
  by_cases h:0<kd
  .exact⟨[kc],.inr ⟨kc,hkc,rfl⟩,by rw[M2 h];rfl⟩
  .exact⟨[],.inl rfl,by rw[W1 h];rfl⟩
 rw[Di];have:Ok (bJ<|mQ [v (.str nm),v (.int c),At,At,At,At,At,At,At,At]) λ x=>x=KS.fh ⟨nm,w+1,d+1,kx,wd,gp,u0,((Ev 6).filter λ i=>decide<|(bt:Int) / ZE i % 2=1).map λ i=>(i,1+([u1,u2,u3,u4,u5,u6][i]?.getD 0))⟩:=by
  refine qy ?_;simp[mQ,line,CY,dg,uD,iG,bQ,q1,hM,q3,_j,Cs,dg2,bu,eX,dN,ekc,ekx];have e6:«zints» 0 6=(Ev 6).map λ i=>D.int ((i:Nat):Int):=by simp[«zints»]
  have i0:aR (.lst [.int (u0:Nat),.int (u1:Nat),.int (u2:Nat),.int (u3:Nat),.int (u4:Nat),.int (u5:Nat),.int (u6:Nat)]) (.int 0)=.ok (.int (u0:Nat)):=rfl;rw[e6];refine b8 (λ i=>D.int ((i:Nat):Int)) (λ i=>decide<|(bt:Int) / ZE i % 2=1) (λ i=>KS.jV (i,1+([u1,u2,u3,u4,u5,u6][i]?.getD 0))) (λ i hi=>?_) ?_
  .have t2:∀a b c d e f,aR (.lst [a,b,c,d,e,f]) (.int 0)=.ok a/\aR (.lst [a,b,c,d,e,f]) (.int 1)=.ok b/\aR (.lst [a,b,c,d,e,f]) (.int 2)=.ok c/\aR (.lst [a,b,c,d,e,f]) (.int 3)=.ok d/\aR (.lst [a,b,c,d,e,f]) (.int 4)=.ok e/\aR (.lst [a,b,c,d,e,f]) (.int 5)=.ok f:=λ _ _ _ _ _ _=>⟨rfl,rfl,rfl,rfl,rfl,rfl⟩
   have t7:∀o a b c d e f,aR (.lst [o,a,b,c,d,e,f]) (.int 1)=.ok a/\aR (.lst [o,a,b,c,d,e,f]) (.int 2)=.ok b/\aR (.lst [o,a,b,c,d,e,f]) (.int 3)=.ok c/\aR (.lst [o,a,b,c,d,e,f]) (.int 4)=.ok d/\aR (.lst [o,a,b,c,d,e,f]) (.int 5)=.ok e/\aR (.lst [o,a,b,c,d,e,f]) (.int 6)=.ok f:=λ _ _ _ _ _ _ _=>⟨rfl,rfl,rfl,rfl,rfl,rfl⟩
   have hi:=A26.mp hi;obtain h|h|h|h|h|h:i=0\/i=1\/i=2\/i=3\/i=4\/i=5:=by lia
   all_goals subst h
   all_goals
    simp[line,bQ,t2,t7,ZE,KS.jV]
    try (rw[A53];simp)
  .rw[i0];simp[KS.fh]
 let⟨x,e,rfl⟩:=this;refine⟨_,⟨C8.1,C8.2.1,C8.2.2,by show 1<=w+1;lia,by show w+1<=12;lia,by show 1<=d+1;lia,by show d+1<=3;lia,hkx,by show wd<=(w+1)*(d+1);lia,by show gp<=6;lia,?_,?_,?_,?_⟩,rfl,e⟩
 .exact A16 b0 ∅
 .show(((Ev 6).filter _).map _).length<=6;rw[A06];exact A13 (A63 _ _) ∅
 .intro p hp;let⟨i,hi,rfl⟩:=A02.mp hp;have hi:=A26.mp (A60.mp hi).1;refine⟨by show i<=5;lia,by show 1<=1+_;lia,?_⟩;have key:∀u∈[u1,u2,u3,u4,u5,u6],u<999999999999999999999999999999999999999999999999999999999999:=by simp[b1,b2,b3,b4,b5,b6]
  have:[u1,u2,u3,u4,u5,u6][i]?.getD 0<999999999999999999999999999999999999999999999999999999999999:=by
   cases q:[u1,u2,u3,u4,u5,u6][i]? with
   |none=>decide
   |some u=>exact key u<|A18 q
  exact A16 (show 1+[u1,u2,u3,u4,u5,u6][i]?.getD 0<1000000000000000000000000000000000000000000000000000000000000 by lia) ∅
 .show((((Ev 6).filter _).map _).map _).Pairwise _;rw[A20];refine B71.mpr<|(C34.filter _).imp λ h=>h
def W9(N:γ (γ Nat))(g:G):Prop:=Dr g/\g.name∈N
theorem Vv(h:KS.Ht nm):KS.c6 [.str nm]=.ok (.bl Ch):=by
 rw[KS.EG nm (by have:=h.2.1;lia)];have:KS.wW nm=Ch:=by simp[KS.wW,h.1,h.2.1];exact h.2.2
 rw[this]
theorem drawn(k:KS.DY s)(hn:s.nm∈N):∃g,KS.fh s=a6 g/\W9 N g:=by refine⟨⟨s.nm,s.w,s.d,s.kd,s.wi,s.ga,_,_⟩,rfl,⟨aah k.w1 k.w2 k.d1 k.d2 k.kd k.wi k.ga ⟨(s.wo),s.ws.map λ p=>((p.1),(p.2)),by rw[A06];exact k.wl,rfl,by rw[A20];rfl⟩,KS.Kh k,Vv ⟨k.n1,k.n2,k.nl⟩⟩,hn⟩
theorem vQ(hb:Bd ns){st:Int}(pG:0<=st){nms N:γ (γ Nat)}(hl:nms.length<=12)(hN:∀n∈nms,n∈N/\KS.Ht n):∃gs:γ G,gs.length=nms.length/\(∀g∈gs,W9 N g)/\ig [.lst (ns.map .int),.int st,.lst (nms.map .str)]=.ok (.tup<|gs.map a6):=by
 let⟨f,ef,hf⟩:=pY hb (k:=0) ∅;let⟨la,lb,_J,_H,el⟩:=AS (f / 144 % 1000000000000000000000000000000000000000000000000000000000000);have hlm:nms.length<=16777216:=by lia
 have:Ok (bJ<|iW [v (.lst<|ns.map .int),v (.int st),v (.lst<|nms.map .str),At,At,At,At]) λ d=>∃gs:γ G,gs.length=nms.length/\(∀g∈gs,W9 N g)/\d=.tup (gs.map a6):=by
  refine qy ?_;simp[iW,ef,bQ,el,line,hlm];refine f9 (λ i ρ=>∃gs x5 x6,gs.length=i/\(∀g∈gs,W9 N g)/\ρ=[v (.lst<|ns.map .int),v (.int st),v (.lst<|nms.map .str),vs [la,lb],ow (gs.map a6),x5,x6]) ⟨[],At,At,rfl,by simp,rfl⟩ ?_ ?_
  .rintro j d ρ hj ⟨gs,x5,x6,NY,hg,rfl⟩;let⟨BQ,rfl⟩:=ints_get hj;let⟨c,ec,_⟩:=pY hb (k:=st+(j:Int)) ∅;obtain⟨nm,C8⟩:∃nm,nms[j]?=AC nm:=⟨_,A03 BQ⟩
   have en:aR (.lst<|nms.map .str) (.int (j:Int))=.ok (.str nm):=(iM (j:=j) rfl (by simp[C8])).2;have RT:gs.length<16777216:=by lia
   have q1:bW 7 (j:Int):=dZ ∅ ∅;have q2:bW (7*(j:Int)) (j:Int):=f_ ∅ ∅;by_cases h:f % 2=1/\c % 3>0
   .let⟨s,hs,_m,eg⟩:=SD (c / 3) (hN nm<|A18 C8).2;let⟨g,eG,_T⟩:=drawn hs (_m▸(hN nm<|A18 C8).1);rw[eG]at eg;simp[ef,ec,en,bQ,h.1,h.2,eg,line,RT];refine⟨gs++[g],by simp[NY],?_,by simp⟩;intro y hy;rcases A37.mp hy with hy|hy
    .exact hg y hy
    .rw[A19]at hy;subst hy;exact _T
   .let⟨s,hs,_m,eg⟩:=Ki (c / 3+7*(j:Int)*(j:Int)) (hN nm<|A18 C8).2 _J _H;let⟨g,eG,_T⟩:=drawn hs (_m▸(hN nm<|A18 C8).1);rw[eG]at eg;have fin:∃R6:γ G,R6.length=j+1/\(∀g∈R6,W9 N g)/\gs.map a6++[a6 g]=R6.map a6:=by
     refine⟨gs++[g],by simp[NY],?_,by simp⟩;intro y hy;rcases A37.mp hy with hy|hy
     .exact hg y hy
     .rw[A19]at hy;subst hy;exact _T
    by_cases h1:f % 2=1
    .have h2:¬0<c % 3:=λ h2=>h ⟨h1,h2⟩;simp[ef,ec,en,bQ,h1,h2,eg,line,RT,q1,q2];exact fin
    .simp[ef,ec,en,bQ,h1,eg,line,RT,q1,q2];exact fin
  .rintro ρ ⟨gs,x5,x6,NY,hg,rfl⟩;rw[gG]at NY;simp;exact⟨gs,NY,hg,rfl⟩
 rw[<-vZ]at this;let⟨d,e,gs,h1,h2,rfl⟩:=this;exact⟨gs,h1,h2,e⟩
end jt
namespace jt
open Z
open KG (G GO Pl Rows Hall GrpG GOk a6 bh cy bg places)
open KH (aM aH Good)
open KB (cB gA cN lI oP Ext Full)
theorem NO{R L:Nat}{rows:Rows}(H:KA.Hall R L rows):um iT [bg rows]=.ok [bg rows,.tup [],.tup [],.tup []]:=by
 have e:KA.hJ [.tup (rows.map .str)]=.ok (.bl Ch):=by
  have:=KA.C5 (.tup<|rows.map .str) λ xs e=>by cases e;refine⟨by have:=H.len;have:=H.r2;simp;lia,λ x hx=>?_⟩;let⟨r,hr,rfl⟩:=A02.mp hx;have hl:=H.each r hr;have:=H.l2;exact λ cs e=>by cases e;lia
  rw[this];show Res.ok (D.bl<|KA.A5 _)=_;rw[H.b]
 have e:KA.hJ [bg rows]=.ok (.bl Ch):=e;generalize bg rows=hh at *;refine JK λ x=>?_;unfold iT;rw[jM _ _ _ _ _ rfl];have:mw (startB 2 [Ch,AT] [fR x 0 [] [],hh])=.ok (.nx [AC (.bor<|fR x 0 cV [hh,.tup [],.tup [],.tup []]),v hh]):=by have s0:startB 2 [Ch,AT] [fR x 0 [] [],hh]=[AC (.bor<|fR x 0 [] []),v hh]:=rfl;rw[s0];simp[mw,cm,bC,mZ,e,vC,fR,fO,cV,cY,lL,qG,line,guard_pos]
 rw[this];rfl
theorem JL{d dd:D}(ha:a ρ=.ok d)(hm:um m [d]=.ok fs)(hT:lL [i] 0 (ρ.set i<|some<|.bor<|.dct [] []))(hr:∀x,∃ts,r (ρ.set i<|some<|.bor<|fR x 0 cV fs)=.ok (.rt dd ts)):ya i m a r ρ=.ok (.rt dd):=by unfold ya;rw[ha,Res.mH,hm,Res.mH,guard_pos hT];refine OP λ x=>?_;let⟨ts,e⟩:=hr x;rw[e];rfl
theorem Vi(h1:a ρ=.ok (.nx ρ1))(h2:b ρ1=r):cm a b ρ=r:=by unfold cm;rw[h1];exact h2
theorem M!(hi:i∉ms)(hl:ts.length=ms.length)(h:∀x,∃t,r (ρ.set i<|some<|.bor<|fR x 1 [] [])=.ok (.rt d<|ts++[t])):EN ms i r ρ=.ok (.rt d ts):=by unfold EN;rw[guard_pos hi];refine allM_mk λ x=>?_;let⟨t,e⟩:=h x;rw[e];show guard _ _=_;rw[guard_pos (by rw[A30,hl];rfl),<-hl,List.take_left' rfl]
theorem i0(rows:Rows)(C:Nat)(N:γ _):I rows C N [] [] [] 0:=by refine⟨⟨by simp,by simp,by simp,by show 1<=250;decide,⟨⟨rfl,λ i g p h=>(by cases h)⟩,λ i g p h=>(by cases h),λ i g h=>(by cases h),λ z e _ _=>?_⟩⟩,⟨by simp,λ c=>rfl⟩,v4 _,by simp,by simp⟩;have:=B55 (by rw[<-e.len];rfl);subst this;exact⟨Int.le_refl _,λ _=>.inl rfl⟩
theorem ints_of:∀{l:γ D},(∀d∈l,∃i,d=.int i)->∃cs:γ Int,l=cs.map .int
|[],_=>⟨[],rfl⟩
|d::l,h=>by let⟨i,rfl⟩:=h d A11;let⟨cs,rfl⟩:=ints_of λ z hz=>h z (A09 _ hz);exact⟨i::cs,rfl⟩
theorem holds(ns:γ Int)(hn:ns.length<=63)(hb:∀i∈ns,bits i<=2^20):qL [.lst (ns.map .int)]=.ok (.bl Ch):=by
 have B:=hb;let⟨rows,R,C,j_,r1,r2,c1,c2,eh⟩:=A4 B;have H:=(KG.V? (by rw[j_.1];exact r1) (by rw[j_.1];exact r2) c1 c2 j_.2).toHall;have HA:KA.Hall R C rows:=⟨r1,r2,c1,c2,j_.1,λ x hx=>(j_.2 x hx).1,λ x hx=>(j_.2 x hx).2⟩
 let⟨k2,e2,_⟩:=KG.pY B (k:=2) ∅;let⟨nms,hl6,nd,nok,en⟩:=yz k2;let⟨gs,NY,Ym,eg⟩:=vQ (N:=nms) B (st:=3) ∅ (nms:=nms++nms) (by rw[A30];lia) λ n h=>by
  have:n∈nms:=by rcases A37.mp h with h|h<;>exact h
  exact⟨this,nok n this⟩
 have hS:∀c,∃g,Dr g/\g.name∈nms/\aR (.tup<|gs.map a6) (.int<|c / 8 % 12)=.ok (a6 g):=λ c=>by
  have hj:(c / 8 % 12).toNat<gs.length:=by rw[NY,A30];lia
  have h:=Ym _<|B27 hj;refine⟨gs[(c / 8 % 12).toNat],h.1,h.2,(iM (j:=(c / 8 % 12).toNat) ∅ ?_).1⟩;rw[A08,A03 hj];rfl
 have hi:=NO HA;obtain⟨ms,hms⟩:∃ms:γ Int,cut (ns.map D.int) (AC 15) (AC 28)=ms.map .int:=ints_of λ d hd=>by have:=EM hd;let⟨i,_,rfl⟩:=A02.mp this;exact⟨i,rfl⟩
 have Yk:ms.length<=63:=by have:=k9 (ns.map D.int) (AC 15)<|some 28;rw[hms,A06,A06]at this;lia
 let⟨iX,m',w9,Vp,LI,lp⟩:=loop (X0:=.lst (ns.map .int)) (X2:=.lst (nms.map .str)) (S:=.tup (gs.map a6)) H hl6 hS ([0,9,16]++ms) [] [] [] 0 At At (i0 rows C nms) (by simp;lia) (.inl rfl) (.inl rfl);have ad:K9 (.lst<|nms.map .str) (.lst<|nms.map .str)=.ok ((nms++nms).map .str):=by
  have:nms.length+nms.length<=16777216:=by lia
  simp[K9,line,guard_pos,this]
 rw[A39]at eg ad;rw[R_];refine aP ?_;unfold Li;refine KS.Cn (ρ1:=[v (.lst<|ns.map .int),v (bg rows),At,At,At,At,At,At,At]) (by simp[eh]) ?_;refine KS.Cn (ρ1:=[v (.lst<|ns.map .int),v (bg rows),v (.lst<|nms.map .str),At,At,At,At,At,At]) (by simp[e2,en]) ?_;refine KS.Cn (ρ1:=[v (.lst<|ns.map .int),v (bg rows),v (.lst<|nms.map .str),v (.tup<|gs.map a6),At,At,At,At,At]) (by simp[CY,ad,eg]) ?_;refine⟨.rt<|.bl Ch,JL (d:=bg rows) ∅ hi (by simp[lL,qG]) λ x=>?_,rfl⟩;have l1:bC [4] (bc 5<|eE aC) [v (.lst<|ns.map .int),v (bg rows),v (.lst<|nms.map .str),v (.tup<|gs.map a6),AC (.bor<|fR x 0 cV [bg rows,.tup [],.tup [],.tup []]),At,At,At,At]=.ok (.nx [v (.lst<|ns.map .int),v (bg rows),v (.lst<|nms.map .str),v (.tup<|gs.map a6),AC (.bor<|fR x 0 cV [bg rows,.tup [],.tup [],.tup []]),v (.tup []),At,At,At]):=by simp[bC,cY,lL,qG,line,guard_pos]
 refine⟨[dk x (bg rows) (aM iX) (aH iX) (aH m')],Vi l1<|M! ∅ rfl λ a=>⟨dd a w9,?_⟩⟩;refine Vi (ρ1:=lE (.lst<|ns.map .int) (bg rows) (.lst<|nms.map .str) (.tup<|gs.map a6) (dk x (bg rows) (aM iX) (aH iX)<|aH m') (aM iX) (dd a w9) Vp LI) ?_ ?_
 .unfold JO;have it:∀ρ,ρ[0]?=AC (v<|.lst<|ns.map .int)->eJ (eL<|GG (eL<|b?<|aa (eC<|.int 0)<|aa (eC<|.int 9)<|aa (eC<|.int 16) aC)<|eL<|Nu (eW 0) (r8<|eC<|.int 15)<|r8<|eC<|.int 28) ρ=.ok (([0,9,16]++ms).map .int):=λ ρ h=>by
   have q:3+ms.length<=16777216:=by lia
   simp[CY,h,hms,K9,line,guard_pos,q,nF]
  rw[it _ rfl];exact lp x a
 .simp[bC,lE,guard_pos,fm,gB]
end jt
set_option maxRecDepth 100000
namespace jt
open PySem PySem.Spec PyProof.Rows L2 ZQ KG KH KB KC KA KS
def top(i:Nat):θ:=PySem.Challenge.pw_besideseats_k81_seated_as_the_best.main.body.getD i<|.Pass ⟨0,0,0,0⟩
abbrev vk(i j:Nat):θ:=ZS.clsAt (top i) j
theorem OJ:bootBuiltins "bool"=AC (.type "bool"):=by kernel_rfl
theorem zf:bootBuiltins "int"=AC (.type "int"):=by kernel_rfl
theorem cz:bootBuiltins "isinstance"=AC (.builtin "isinstance"):=by kernel_rfl
theorem Lh:bootBuiltins "max"=AC (.builtin "max"):=by kernel_rfl
theorem Lg:bootBuiltins "min"=AC (.builtin "min"):=by kernel_rfl
theorem DF:bootBuiltins "str"=AC (.type "str"):=by kernel_rfl
theorem p7:bootBuiltins "tuple"=AC (.type "tuple"):=by kernel_rfl
abbrev x_:θ:=top 66
theorem nj:aY ["groups","seatings"] ["groups","seatings"] (aj x_):=ZS.De
abbrev t8:θ:=top 71
theorem lA:aY ["groups","places","seating","waiting","k","spots","papers"] ["groups","places","seating"] (aj t8):=ZS.De
set_option genInjectivity false in
structure Fs(K:Da)(mg:Str->Option Value)(h:Heap)where
 X:K.In h
 G:h.Ns mainGlobals mg
 {dm:Addr}
 B_:bn K "is_whole" (top 11)
 oY:bn K "is_whole_within" (top 12)
 zQ:bn K "is_letter" (top 13)
 FU:bn K "is_name" (top 29)
 FV:bn K "is_kind" (top 30)
 zR:bn K "is_amount" (top 31)
 FQ:bn K "is_wish" (top 32)
 xQ:bn K "are_wishes" (top 33)
 qm:bn K "asks_for_seats" (top 34)
 Ca:bn K "is_group" (top 35)
 B5:bn K "worth_in" (top 36)
 FT:bn K "is_sign" (top 40)
 HY:bn K "is_row" (top 41)
 FW:bn K "is_hall" (top 42)
 FN:bn K "sign_at" (top 43)
 L!:bn K "takes" (top 45)
 B7:bn K "seats_of" (top 46)
 Qc:bn K "fits" (top 47)
 zL:bn K "places_of" (top 48)
 L_:bn K "apart" (top 50)
 qk:bn K "those_that_sit" (top 51)
 qo:bn K "apart_from_all" (top 52)
 L?:bn K "keeps" (top 53)
 B4:bn K "worth_of" (top 54)
 tJ:bn K "fast_seating" (top 57)
 Qb:ZS.p? K "ways" (top 58)
 ng:bn K "small_start" (top 59)
 xJ:bn K "with_place" (top 60)
 xK:bn K "open_among" (top 61)
 rS:bn K "with_one_more" (top 62)
 rT:bn K "seatings_from" (top 63)
 tI:ZS.p? K "first_of_all" (top 64)
 oZ:ZS.ve K "best_among" (top 66)
 nh:ZS.p? K "best_of_all" (top 67)
 xT:bn K "all_places" (top 69)
 B6:bn K "spots_of" (top 70)
 i6:ZS.ve K "paper_beside" (top 71)
 B8:ZS.p? K "paper_of" (top 72)
 FL:bn K "without" (top 75)
 zT:lv K dm "__init__" "Desk.__init__" (vk 76 0)
 j3:lv K dm "number_of" "Desk.number_of" (vk 76 1)
 tN:lv K dm "ask" "Desk.ask" (vk 76 2)
 rf:lv K dm "fast" "Desk.fast" (vk 76 3)
 rg:lv K dm "away" "Desk.away" (vk 76 4)
 xV:lv K dm "where" "Desk.where" (vk 76 5)
 tL:lv K dm "at_hand" "Desk.at_hand" (vk 76 6)
 tK:lv K dm "seating" "Desk.seating" (vk 76 7)
 xU:lv K dm "worth" "Desk.worth" (vk 76 8)
 vt:bn K "_law_cell_at" (top 78)
 zN:bn K "_law_mixed" (top 79)
 xP:bn K "_law_digits" (top 80)
 zM:bn K "_law_names" (top 81)
 vq:bn K "_law_letters" (top 82)
 B':bn K "_law_hall" (top 83)
 FP:bn K "_law_any" (top 84)
 zO:bn K "_law_group" (top 85)
 xO:bn K "_law_groups" (top 86)
 xN:bn K "_law_places" (top 87)
 B9:bn K "_law_ways" (top 88)
 zP:bn K "_law_asked" (top 89)
 B!:bn K "_law_fast" (top 90)
 FO:bn K "_law_ask" (top 91)
 vp:bn K "_law_no_name" (top 92)
 B?:bn K "_law_deed" (top 93)
 xM:bn K "_law_stands" (top 94)
 TY:bn K "law" (top 95)
 Vh:FB K mainGlobals "all"=AC At
 Q_:FB K mainGlobals "bool"=AC At
 AG:FB K mainGlobals "enumerate"=AC At
 Vg:FB K mainGlobals "int"=AC At
 yA:FB K mainGlobals "isinstance"=AC At
 Vf:FB K mainGlobals "len"=AC At
 Ve:FB K mainGlobals "max"=AC At
 Vd:FB K mainGlobals "min"=AC At
 M_:FB K mainGlobals "range"=AC At
 Vc:FB K mainGlobals "str"=AC At
 Vb:FB K mainGlobals "sum"=AC At
 M?:FB K mainGlobals "tuple"=AC At
 Va:FB K mainGlobals "zip"=AC At
 {Ec:Tok}
 L9:FB K mainGlobals "DEPTH"=AC (AC<|.int 2 Ec)
 {O5:Tok}
 TX:FB K mainGlobals "GAP"=AC (AC<|.int 5 O5)
 {Ih:Tok}
 P_:FB K mainGlobals "KIND"=AC (AC<|.int 3 Ih)
 {tU:Tok}
 B3:FB K mainGlobals "LAST_ROW"=AC (AC<|.int 5 tU)
 {lR:Tok}
 tH:FB K mainGlobals "MOST_COLUMNS"=AC (AC<|.int 12 lR)
 {o7:Tok}
 xH:FB K mainGlobals "MOST_DEPTH"=AC (AC<|.int 3 o7)
 {tT:Tok}
 B2:FB K mainGlobals "MOST_GAP"=AC (AC<|.int 6 tT)
 {ni:Tok}
 vo:FB K mainGlobals "MOST_GUESTS"=AC (AC<|.int 6 ni)
 {lQ:Tok}
 tF:FB K mainGlobals "MOST_LETTERS"=AC (AC<|.int 8 lQ)
 {rk:Tok}
 zK:FB K mainGlobals "MOST_ROWS"=AC (AC<|.int 6 rk)
 {rh:Tok}
 zJ:FB K mainGlobals "MOST_WAYS"=AC (AC<|.int 2000 rh)
 {o6:Tok}
 xG:FB K mainGlobals "MOST_WIDTH"=AC (AC<|.int 12 o6)
 {Ig:Tok}
 P?:FB K mainGlobals "NAME"=AC (AC<|.int 0 Ig)
 {Eb:Tok}
 L8:FB K mainGlobals "PARTS"=AC (AC<|.int 8 Eb)
 {Ie:Tok}
 P!:FB K mainGlobals "WIDE"=AC (AC<|.int 4 Ie)
 {Ea:Tok}
 L7:FB K mainGlobals "WIDTH"=AC (AC<|.int 1 Ea)
 {zW:Tok}
 HW:FB K mainGlobals "WISHES"=AC (AC<|.int 7 zW)
 {D_:Tok}
 L6:FB K mainGlobals "WORTH"=AC (AC<|.int 6 D_)
 w_Desk:FB K mainGlobals "Desk"=AC (AC<|.ref dm)
 {iL:Addr}
 w_Full:FB K mainGlobals "Full"=AC (AC<|.ref iL)
 {mW:Addr}
 w_NoGroup:FB K mainGlobals "NoGroup"=AC (AC<|.ref mW)
 {jv:Addr}
 w_NoName:FB K mainGlobals "NoName"=AC (AC<|.ref jv)
 {dS:Addr}
 w_TooGreat:FB K mainGlobals "TooGreat"=AC (AC<|.ref dS)
 {sY:Addr}
 w_Twice:FB K mainGlobals "Twice"=AC (AC<|.ref sY)
 L0:sB K iL=Ch
 BV:sB K mW=Ch
 FG:sB K jv=Ch
 zz:sB K dS=Ch
 HP:sB K sY=Ch
 BU:li K mW [.type "ValueError",.type "Exception",.type "BaseException",.type "object"] "ValueError.__new__"=Ch
 FF:li K jv [.type "ValueError",.type "Exception",.type "BaseException",.type "object"] "ValueError.__new__"=Ch
 HM:li K sY [.type "ValueError",.type "Exception",.type "BaseException",.type "object"] "ValueError.__new__"=Ch
 OE:HJ K dm
 Nh:bd K dm=Ch
 Nx:FM K (.ref dm)=Ch
 Gr:FS K (.ref dm) "guests"=AC At
 M9:FS K (.ref dm) "hall"=AC At
 M8:FS K (.ref dm) "held"=AC At
 Gq:FS K (.ref dm) "places"=AC At
 Og:ZS.vd K iL
 Bl:ZS.vd K dS
 vU:FS K (.ref iL) "paper"=AC At
 qN:FS K (.ref dS) "many"=AC At
 qM:FS K (.ref dS) "most"=AC At
 x?:lm K iL (.ref iL)=AC Ch
 qv:lm K jv (.ref jv)=AC Ch
 zS:lv K iL "__init__" "Full.__init__" (vk 8 0)
 LZ:ZS.BS K iL=Ch
 Nw:FM K (.ref iL)=Ch
 rV:lv K dS "__init__" "TooGreat.__init__" (vk 9 0)
 zx:ZS.BS K dS=Ch
 AW:FM K (.ref dS)=Ch
section
variable{P:ο}{w:ξ}{K:Da}{mg:Str->ε ζ}{base h:ν}(z:Fs K mg h)
include z
theorem Fs.nI:mg "all"=At:=A55 z.X z.G z.Vh
theorem Fs.g_bool:mg "bool"=At:=A55 z.X z.G z.Q_
theorem Fs.rH:mg "enumerate"=At:=A55 z.X z.G z.AG
theorem Fs.E7:mg "int"=At:=A55 z.X z.G z.Vg
theorem Fs.cR:mg "isinstance"=At:=A55 z.X z.G z.yA
theorem Fs.dH:mg "len"=At:=A55 z.X z.G z.Vf
theorem Fs.PD:mg "max"=At:=A55 z.X z.G z.Ve
theorem Fs.PB:mg "min"=At:=A55 z.X z.G z.Vd
theorem Fs.dG:mg "range"=At:=A55 z.X z.G z.M_
theorem Fs.Kn:mg "str"=At:=A55 z.X z.G z.Vc
theorem Fs.Pz:mg "sum"=At:=A55 z.X z.G z.Vb
theorem Fs.e?:mg "tuple"=At:=A55 z.X z.G z.M?
theorem Fs.Km:mg "zip"=At:=A55 z.X z.G z.Va
theorem Fs.p0:mg "DEPTH"=AC (.int 2 z.Ec):=A22 z.X z.G z.L9
theorem Fs.Ld:mg "GAP"=AC (.int 5 z.O5):=A22 z.X z.G z.TX
theorem Fs.Lc:mg "KIND"=AC (.int 3 z.Ih):=A22 z.X z.G z.P_
theorem Fs.DB:mg "LAST_ROW"=AC (.int 5 z.tU):=A22 z.X z.G z.B3
theorem Fs.u9:mg "MOST_COLUMNS"=AC (.int 12 z.lR):=A22 z.X z.G z.tH
theorem Fs.ze:mg "MOST_DEPTH"=AC (.int 3 z.o7):=A22 z.X z.G z.xH
theorem Fs.Dz:mg "MOST_GAP"=AC (.int 6 z.tT):=A22 z.X z.G z.B2
theorem Fs.iu:mg "MOST_GUESTS"=AC (.int 6 z.ni):=A22 z.X z.G z.vo
theorem Fs.u7:mg "MOST_LETTERS"=AC (.int 8 z.lQ):=A22 z.X z.G z.tF
theorem Fs.BD:mg "MOST_ROWS"=AC (.int 6 z.rk):=A22 z.X z.G z.zK
theorem Fs.jN:mg "MOST_WAYS"=AC (.int 2000 z.rh):=A22 z.X z.G z.zJ
theorem Fs.zd:mg "MOST_WIDTH"=AC (.int 12 z.o6):=A22 z.X z.G z.xG
theorem Fs.k?:mg "NAME"=AC (.int 0 z.Ig):=A22 z.X z.G z.P?
theorem Fs.OH:mg "PARTS"=AC (.int 8 z.Eb):=A22 z.X z.G z.L8
theorem Fs.Lb:mg "WIDE"=AC (.int 4 z.Ie):=A22 z.X z.G z.P!
theorem Fs.pZ:mg "WIDTH"=AC (.int 1 z.Ea):=A22 z.X z.G z.L7
theorem Fs.BC:mg "WISHES"=AC (.int 7 z.zW):=A22 z.X z.G z.HW
theorem Fs.Ft:mg "WORTH"=AC (.int 6 z.D_):=A22 z.X z.G z.L6
theorem Fs.Ri:mg "Full"=AC (.ref z.iL):=A22 z.X z.G z.w_Full
theorem Fs.JN:mg "NoName"=AC (.ref z.jv):=A22 z.X z.G z.w_NoName
theorem Fs.BW:sK K [70,117,108,108] z.iL:=sw (by decide +kernel) z.w_Full z.L0
theorem Fs.FH:sK K [78,111,71,114,111,117,112] z.mW:=sw (by decide +kernel) z.w_NoGroup z.BV
theorem Fs.tm:sK K [78,111,78,97,109,101] z.jv:=sw (by decide +kernel) z.w_NoName z.FG
theorem Fs.tj:sK K [84,111,111,71,114,101,97,116] z.dS:=sw (by decide +kernel) z.w_TooGreat z.zz
theorem Fs.L1:sK K [84,119,105,99,101] z.sY:=sw (by decide +kernel) z.w_Twice z.HP
theorem Fs.hC:ZS.sF K "Desk" z.dm:=⟨z.w_Desk,z.OE⟩
theorem Fs.cF:ZS.TM K "guests":=⟨z.dm,z.w_Desk,z.Gr⟩
theorem Fs.mI:ZS.TM K "hall":=⟨z.dm,z.w_Desk,z.M9⟩
theorem Fs.iN:ZS.TM K "held":=⟨z.dm,z.w_Desk,z.M8⟩
theorem Fs.g!:ZS.TM K "places":=⟨z.dm,z.w_Desk,z.Gq⟩
theorem Jg:ZS.Lz P w K mg base z.iL 1 [[112,97,112,101,114]]:=ZS.WJ z.zS z.LZ z.Nw z.Og z.vU (by decide +kernel) rfl (λ _ _ _ _ _ _=>ZS.YE λ _ _=>rfl) ZS.De (ZS.D9 (by decide +kernel)) (by decide +kernel) (by decide +kernel)
theorem pd:ZS.Lz P w K mg base z.dS 1 [[109,97,110,121],[109,111,115,116]]:=ZS.WI z.rV z.zx z.AW z.Bl z.qN z.qM (by decide +kernel) (by decide +kernel) rfl (by decide +kernel) (λ _ _ _ _ _ _=>ZS.bd3 λ _ _ _=>rfl) ZS.De (ZS.D9 (by decide +kernel)) (by decide +kernel)
theorem Av:bv P w K mg base "is_whole" 1 ["thing"] (KC.gi):=bU (N:=["thing"]) (z.B_.df z.X z.G) λ nd hu hr=>(aB<|aK<|oq (fM .int rfl z.cR cz rfl z.E7 zf ah)<|ji<|Sm<|fM .bool rfl z.cR cz rfl z.g_bool OJ ah)
theorem cu:bv P w K mg base "is_whole_within" 2 ["thing","least","most"] (KC.bp):=bU (N:=["thing","least","most"]) (z.oY.df z.X z.G) λ nd hu hr=>(aB<|aK<|oq (ay (Av z)<|ae au az)<|ji<|Bu im im ah ah ah)
theorem kJ:bv P w K mg base "is_letter" 1 ["text"] (KA.cS):=bU (N:=["text"]) (z.zQ.df z.X z.G) λ nd hu hr=>(aB<|aK<|oq (c9 (ii hu) (ai<|bN z.dH ah)<|ai ag)<|ji<|Bu im im (ai bB) ah<|ai bB)
theorem nX:bv P w K mg base "is_name" 2 ["thing"] (KS.c6):=bU (N:=["thing"]) (z.FU.df z.X z.G) λ nd hu hr=>(aA (bP (Fd<|mf (cJ<|hV<|fM .str rfl z.cR cz rfl z.Kn DF ah)<|jW<|cJ<|mi im im (ai ag) (ai<|bN z.dH ah)<|ai<|aN z.u7) (aB<|aK eN) aT)<|aB<|aK<|ir z.nI<|eK<|bF (cK ah) (N':=["sign"])<|ay (kJ z)<|ae au az)
theorem CG:bv P w K mg base "is_kind" 2 ["thing"] (KS.kR):=bU (N:=["thing"]) (z.FV.df z.X z.G) λ nd hu hr=>(aB<|aK<|oq (fM .str rfl z.cR cz rfl z.Kn DF ah)<|ji<|Fh (c9 (ii hu) ah<|ai bB)<|ji<|ay (kJ z)<|ae au az)
theorem ph:bv P w K mg base "is_amount" 3 ["thing","least"] (KS.gK):=bU (N:=["thing","least"]) (z.zR.df z.X z.G) λ nd hu hr=>(aB<|aK<|ay (cu z)<|ae au<|ae au<|cG (mm (ai<|qS (ai ag)<|ai ag)<|ai ag) az)
theorem CD:bv P w K mg base "is_wish" 4 ["thing"] (KS.jg):=bU (N:=["thing"]) (z.FQ.df z.X z.G) λ nd hu hr=>(aA (bP (Fd<|mf (cJ<|hV<|fM .tuple rfl z.cR cz rfl z.e? p7 ah)<|jW<|aV (pi hu) (ai<|bN z.dH ah)<|ai ag) (aB<|aK eN) aT)<|aB<|aK<|oq (ay (cu z)<|bT (aF ah<|ai ag)<|aq ag<|ae (aN z.DB) az)<|ji<|ay (ph z)<|bT (aF ah<|ai ag)<|aq ag az)
theorem vK:bv P w K mg base "are_wishes" 5 ["thing"] (KS.ij):=bU (N:=["thing"]) (z.xQ.df z.X z.G) λ nd hu hr=>(aA (bP (Fd<|mf (cJ<|hV<|fM .tuple rfl z.cR cz rfl z.e? p7 ah)<|jW<|cJ<|hV<|ir z.nI<|eK<|bF (cK ah) (N':=["wish"])<|ay (CD z)<|ae au az) (aB<|aK eN) aT)<|aB<|aK<|ir z.nI<|eK<|bF (Dt<|c7 z.dG<|mm (ai<|bN z.dH ah)<|ai ag) (N':=["k","thing"])<|c9 ul (ai<|aF (ai<|aF ah ah)<|ai ag)<|ai<|aF (ai<|aF ah<|ai<|aZ ah<|ai ag)<|ai ag)
theorem pj:bv P w K mg base "asks_for_seats" 3 ["parts"] (KS.fg):=bU (N:=["parts"]) (z.qm.df z.X z.G) λ nd hu hr=>(aA (bP (cJ<|hV<|ay (cu z)<|bT (aF ah<|ai<|aN z.pZ)<|aq ag<|ae (aN z.zd) az) (aB<|aK eN) aT)<|aA (bP (cJ<|hV<|ay (cu z)<|bT (aF ah<|ai<|aN z.p0)<|aq ag<|ae (aN z.ze) az) (aB<|aK eN) aT)<|aA (bP (cJ<|hV<|ay (cu z)<|bT (aF ah<|ai<|aN z.Lb)<|aq ag<|cG (eF (ai<|aF ah<|ai<|aN z.pZ)<|ai<|aF ah<|ai<|aN z.p0) az) (aB<|aK eN) aT)<|aB<|aK<|oq (ay (CG z)<|bT (aF ah<|ai<|aN z.Lc) az)<|ji<|ay (cu z)<|bT (aF ah<|ai<|aN z.Ld)<|aq ag<|ae (aN z.Dz) az)
theorem lX:bv P w K mg base "is_group" 6 ["thing"] (KS.cU):=bU (N:=["thing"]) (z.Ca.df z.X z.G) λ nd hu hr=>(aA (bP (Fd<|mf (cJ<|hV<|fM .tuple rfl z.cR cz rfl z.e? p7 ah)<|jW<|aV (pi hu) (ai<|bN z.dH ah)<|ai<|aN z.OH) (aB<|aK eN) aT)<|aA (bP (Fd<|mf (cJ<|hV<|ay (nX z)<|bT (aF ah<|ai<|aN z.k?) az)<|jW<|cJ<|hV<|ay (pj z)<|ae au az) (aB<|aK eN) aT)<|aB<|aK<|oq (ay (ph z)<|bT (aF ah<|ai<|aN z.Ft)<|aq ag az)<|ji<|ay (vK z)<|bT (aF ah<|ai<|aN z.BC) az)
theorem Ao:bv P w K mg base "worth_in" 1 ["group","row"] (KB.jI):=bU (N:=["group","row"]) (z.B5.df z.X z.G) λ nd hu hr=>(aB<|aK<|aZ (ai<|aF ah<|ai<|aN z.Ft)<|ai<|Fg z.Pz<|eK<|bF (cK<|ai<|aF ah<|ai<|aN z.BC) (N':=["wish","row"]) (aF ah<|ai ag) (ht:=(jE<|aV (ii hu) (ai<|aF ah<|ai ag) ah)))
theorem CF:bv P w K mg base "is_sign" 2 ["text"] (KA.jh):=bU (N:=["text"]) (z.FT.df z.X z.G) λ nd hu hr=>(aB<|aK<|Fh (c9 (ut hu) ah<|ai<|cj<|aq bB<|aq bB<|aq bB az)<|ji<|ay (kJ z)<|ae au az)
theorem Gh:bv P w K mg base "is_row" 3 ["thing"] (KA.iY):=bU (N:=["thing"]) (z.HY.df z.X z.G) λ nd hu hr=>(aA (bP (Fd<|mf (cJ<|hV<|fM .str rfl z.cR cz rfl z.Kn DF ah)<|jW<|cJ<|mi im im (ai ag) (ai<|bN z.dH ah)<|ai<|aN z.u9) (aB<|aK eN) aT)<|aB<|aK<|ir z.nI<|eK<|bF (cK ah) (N':=["sign"])<|ay (CF z)<|ae au az)
theorem CH:bv P w K mg base "is_hall" 4 ["thing"] (KA.hJ):=bU (N:=["thing"]) (z.FW.df z.X z.G) λ nd hu hr=>(aA (bP (Fd<|mf (cJ<|hV<|fM .tuple rfl z.cR cz rfl z.e? p7 ah)<|jW<|cJ<|mi im im (ai ag) (ai<|bN z.dH ah)<|ai<|aN z.BD) (aB<|aK eN) aT)<|aA (bP (cJ<|hV<|ir z.nI<|eK<|bF (cK ah) (N':=["row"])<|ay (Gh z)<|ae au az) (aB<|aK eN) aT)<|aB<|aK<|ir z.nI<|eK<|bF (cK ah) (N':=["row","thing"])<|c9 (ii hu) (ai<|bN z.dH ah)<|ai<|bN z.dH<|ai<|aF ah<|ai ag)
theorem CA:bv P w K mg base "sign_at" 1 ["hall","seat"] (KG.kP):=bU (N:=["hall","seat","row","column"]) (z.FN.df z.X z.G) λ nd hu hr=>(aA (aI<|aF ah<|ai ag)<|aA (aI<|aF ah<|ai ag)<|aA (bP (Fd<|yZ (mi im ul (ai ag) ah<|ai<|bN z.dH ah)<|sU<|mi im ul (ai ag) ah<|ai<|bN z.dH<|ai<|aF ah<|ai ag) (aB<|aK<|aF (ai<|aF ah ah) ah) aT)<|aB<|aK oj)
theorem Jh:bv P w K mg base "takes" 1 ["sign","kind"] (KG.pL):=bU (N:=["sign","kind"]) (z.L!.df z.X z.G) λ nd hu hr=>(aB<|aK<|Fh (c9 (ut hu) ah<|ai<|cj<|aq bB<|aq bB az)<|ji<|c9 (ii hu) ah ah)
theorem Ap:bv P w K mg base "seats_of" 1 ["group","place"] (KG.jK):=bU (N:=["group","place","seats","row"]) (z.B7.df z.X z.G) λ nd hu hr=>(aA (iq<|br az)<|aA (c! (Bp z.dG (aF ah<|ai ag)<|aZ (ai<|aF ah<|ai ag)<|ai<|aF ah<|ai<|aN z.p0) bM<|aB<|Dn (i:=2) (pv 2)<|bF (Dt<|Bp z.dG (aF ah<|ai ag)<|aZ (ai<|aF ah<|ai ag)<|ai<|aF ah<|ai<|aN z.pZ) (N':=["column","row"])<|cj<|ae au<|ae au az)<|aB<|aK<|eR z.e? ah)
theorem EB:bv P w K mg base "fits" 2 ["hall","group","place"] (KG.pM):=bU (N:=["hall","group","place","signs"]) (z.Qc.df z.X z.G) λ nd hu hr=>(aA (kU (i:=3) rfl nd rfl (lo rfl) (cK<|ai<|ay (Ap z)<|ae au<|ae au az) (N':=["seat","hall"]) (n:=1) (is:=[0]) (gt (by kernel_rfl)) (rc ∅) (λ _ _ _ _ _ _=>bM) (λ _ _ _ _ _=>tP) λ _ _ _ _ _=>(ay (CA z)<|ae au<|ae au az))<|aA (bP (cJ<|hV<|ir z.nI<|eK<|bF (cK ah) (N':=["sign","group"])<|ay (Jh z)<|ae au<|bT (aF ah<|ai<|aN z.Lc) az) (aB<|aK eN) aT)<|aB<|aK<|c9 ZS.WK (ai<|K3 hu ah<|ai bB)<|ai<|aF ah<|ai<|aN z.Lb)
theorem kI:bv P w K mg base "places_of" 3 ["hall","group"] (KG.fH):=bU (N:=["hall","group","places","row"]) (z.zL.df z.X z.G) λ nd hu hr=>(aA (iq<|br az)<|aA (c! (c7 z.dG<|bN z.dH ah) bM<|aB<|Dn (i:=2) (pv 2)<|bF (Dt<|c7 z.dG<|bN z.dH<|ai<|aF ah ah) (N':=["column","hall","group","row"]) (cj<|ae au<|ae au az) (ht:=(jE<|hV<|ay (EB z)<|ae au<|ae au<|Hb (cj<|ae au<|ae au az) az)))<|aB<|aK<|eR z.e? ah)
theorem Jj:bv P w K mg base "apart" 1 ["one","here","other","there"] (KG.pO):=bU (N:=["one","here","other","there","gap"]) (z.L_.df z.X z.G) λ nd hu hr=>(aA (bP (Fd<|mf (aV im (ai<|aZ (ai<|aF ah<|ai ag)<|ai<|aF ah<|ai<|aN z.p0)<|ai<|aF ah<|ai ag)<|jW<|aV im (ai<|aZ (ai<|aF ah<|ai ag)<|ai<|aF ah<|ai<|aN z.p0)<|ai<|aF ah<|ai ag) (aB<|aK eN) aT)<|aA (aI<|Ot rfl z.PD Lh (ai<|aF ah<|ai<|aN z.Ld)<|ai<|aF ah<|ai<|aN z.Ld)<|aB<|aK<|Fh (c9 im (ai<|aZ (ai<|aZ (ai<|aF ah<|ai ag)<|ai<|aF ah<|ai<|aN z.pZ) ah)<|ai<|aF ah<|ai ag)<|ji<|c9 im (ai<|aZ (ai<|aZ (ai<|aF ah<|ai ag)<|ai<|aF ah<|ai<|aN z.pZ) ah)<|ai<|aF ah<|ai ag)
theorem eY:bv P w K mg base "those_that_sit" 1 ["groups","seating"] (KG.cb):=bU (N:=["groups","seating"]) (z.qk.df z.X z.G) λ nd hu hr=>(aB<|aK<|pW<|bF (Dt<|y6 z.Km au au) (N':=["group","place"]) (cj<|ae au<|ae au az) (ht:=(jE<|Fe ah)) (hg:=(mj rfl (a!<|a! gL) rfl)) (hG:=(ZS.mL ∅)))
theorem jH:bv P w K mg base "apart_from_all" 2 ["group","place","seated"] (KG.dM):=bU (N:=["group","place","seated"]) (z.qo.df z.X z.G) λ nd hu hr=>(aB<|aK<|ir z.nI<|eK<|bF (cK ah) (N':=["other","there","group","place"]) (ay (Jj z)<|ae au<|ae au<|ae au<|ae au az) (hg:=(mj rfl (a!<|a! gL) rfl)) (hG:=(ZS.mL ∅)))
theorem Ji:bv P w K mg base "keeps" 3 ["hall","groups","seating"] (KG.ma):=bU (N:=["hall","groups","seating","seated"]) (z.L?.df z.X z.G) λ nd hu hr=>(aA (aI<|ay (eY z)<|ae au<|ae au az)<|aA (bP (cJ<|hV<|ir z.nI<|eK<|bF (cK ah) (N':=["group","place","hall"]) (ay (EB z)<|ae au<|ae au<|ae au az) (hg:=(mj rfl (a!<|a! gL) rfl)) (hG:=(ZS.mL ∅))) (aB<|aK eN) aT)<|aB<|aK<|ir z.nI<|eK<|bF (Dt<|c7 z.dG<|bN z.dH ah) (N':=["k","seated"])<|ay (jH z)<|bT (aF (ai<|aF ah ah)<|ai ag)<|bT (aF (ai<|aF ah ah)<|ai ag)<|bT (pW<|uP ah Bo<|ka ah) az)
theorem lV:bv P w K mg base "worth_of" 2 ["groups","seating"] (KB.cC):=bU (N:=["groups","seating"]) (z.B4.df z.X z.G) λ nd hu hr=>(aB<|aK<|Fg z.Pz<|eK<|bF (cK<|ai<|ay (eY z)<|ae au<|ae au az) (N':=["group","place"]) (ay (Ao z)<|ae au<|bT (aF ah<|ai ag) az) (hg:=(mj rfl (a!<|a! gL) rfl)) (hG:=(ZS.mL ∅)))
theorem iF:bv P w K mg base "fast_seating" 4 ["hall","groups","fast"] (KB.bE):=bU (N:=["hall","groups","fast","seating"]) (z.tJ.df z.X z.G) λ nd hu hr=>(aA (aI<|Bt (mh ah) (Oo (ai<|cj<|aq oj az)<|ai<|bN z.dH ah) au)<|aA (bP (cJ<|hV<|ay (Ji z)<|ae au<|ae au<|ae au az) (aB hX) aT)<|aB<|aK au)
theorem EA:ZS.wq P w K mg base "ways" 5 ["hall","groups","fast"] (KB.jJ):=zc (N:=["hall","groups","fast","many","group","place"]) (z.Qb.df z.X z.G (λ _ _ _ _ _ _ _=>lf λ _=>lf λ _=>lf λ _=>xL ⟨_,rfl,rfl⟩) λ _ _ _ _ _ _ _ us hl=>match us,hl with| [_,_],_=>⟨_,rfl,rfl⟩) λ nd hu hr=>(aA (aI ag)<|aA (c! (y6 z.Km au<|ay (iF z)<|ae au<|ae au<|ae au az) (mj rfl (a!<|a! gL) rfl)<|aB<|bP (mh ah) (aB<|Ol (i:=3) nd rfl (lo rfl)<|aZ (ai<|bN z.dH<|ai<|ay (kI z)<|ae au<|ae au az)<|ai ag) aT)<|aB<|aK au)
theorem i_:bv P w K mg base "small_start" 6 ["hall","groups","fast"] (KB.d6):=bU (N:=["hall","groups","fast","many"]) (z.ng.df z.X z.G) λ nd hu hr=>(aA (aI<|ay (EA z).full<|ae au<|ae au<|ae au az)<|aA (bP (aV pc ah<|ai<|aN z.jN) (aB hX) aT)<|aB<|aK<|ay (iF z)<|ae au<|ae au<|ae au az)
theorem r9:ZS.vf P w K mg base "small_start" 6 ["hall","groups","fast"] gH:=WH (N:=["hall","groups","fast","many"]) (z.ng.df z.X z.G) λ nd hu hr=>(dX (aI<|ay (EA z).full<|ae au<|ae au<|ae au az) D4<|dX (bP (aV pc ah<|ai<|aN z.jN) (aB hX) aT) (zw (aV pc ah<|ai<|aN z.jN) (mB<|qg rfl rfl rfl (by decide +kernel) z.tj (pd z) (hr.mono ∅) (ae au<|ae (aN z.jN) az) ∅ ∅) jS) jS)
theorem jT:bv P w K mg base "with_place" 1 ["seating","k","place"] (KH.cx):=bU (N:=["seating","k","place"]) (z.xJ.df z.X z.G) λ nd hu hr=>(aB<|aK<|aZ (ai<|aZ (ai<|ki ah Bo<|ka ah)<|ai<|cj<|ae au az)<|ai<|ki ah (ka<|ai<|aZ ah<|ai ag) Bo)
theorem nA:bv P w K mg base "open_among" 3 ["places","group","seated"] (KH.eP):=bU (N:=["places","group","seated"]) (z.xK.df z.X z.G) λ nd hu hr=>(aB<|aK<|eR z.e?<|eK<|bF (cK ah) (N':=["place","group","seated"]) au (ht:=(jE<|hV<|ay (jH z)<|ae au<|ae au<|ae au az)))
theorem qz:bv P w K mg base "with_one_more" 4 ["hall","groups","seatings","k","some"] (KB.fG):=bU (N:=["hall","groups","seatings","k","some","places","wider","seating","seated"]) (z.rS.df z.X z.G) λ nd hu hr=>(aA (aI<|ay (kI z)<|ae au<|bT (aF ah ah) az)<|aA (iq<|br az)<|aA (c! (uQ au) bM<|aA (aI<|ay (eY z)<|ae au<|ae au az)<|aA (Dn (i:=6) (pv 6)<|bF (cK<|ai<|ay (nA z)<|ae au<|bT (aF ah ah)<|ae au az) (N':=["place","seating","k"])<|ay (jT z)<|ae au<|ae au<|ae au az)<|aB<|bP (hV au) (aB<|kW (i:=6) (pv 6) au) aT)<|pV (i:=6)<|aB<|aK au)
theorem j9:bv P w K mg base "seatings_from" 5 ["hall","groups","start","some"] (KB.d9):=bU (N:=["hall","groups","start","some","seatings","k"]) (z.rT.df z.X z.G) λ nd hu hr=>(aA (aI<|pW<|br<|ae au az)<|aA (c! (c7 z.dG<|bN z.dH ah) bM<|aB<|bP (mh<|ai<|aF ah ah) (aB<|aI<|ay (qz z)<|ae au<|ae au<|ae au<|ae au<|ae au az) aT)<|aB<|aK au)
theorem r?:ZS.wq P w K mg base "first_of_all" 7 ["hall","groups","fast"] (KC.fW):=zc (N:=["hall","groups","fast","seatings"]) (z.tI.df z.X z.G (λ _ _ _ _ _ _ _=>lf λ _=>lf λ _=>lf λ _=>xL ⟨_,rfl,rfl⟩) λ _ _ _ _ _ _ _ us hl=>match us,hl with| [_,_],_=>⟨_,rfl,rfl⟩) λ nd hu hr=>(aA (aI<|ay (j9 z)<|ae au<|ae au<|cD (ay (i_ z)<|ae au<|ae au<|ae au az)<|aq eN az)<|aB<|aK<|Bt (aV pc (ai<|bN z.dH ah)<|ai ag) (aF ah<|ai ag) oj)
theorem vJ:bv P w K mg base "best_among" 5 ["groups","seatings"] (KB.fU):=PR (N:=["groups","seatings"]) (b:=KB.gO) (z.oZ.1.df z.X z.G) nj (z.oZ.lam z.X z.G) λ _ _ _ _ _ _ _ hl hr=>have nd:=nj.nd;have hu:=hr.units;have _r:=λ env=>ZS.Ab (k:=2) (hr.mono ∅) env;(aB<|aK<|y9 (ZS.ET hl (by decide +kernel)) (ZS.IG hr) rfl z.PD Lh ah (N':=["seating","groups"]) (is:=[0]) (gt (by kernel_rfl)) rfl (λ _ _ _ _ _=>(ay (lV z) (ae au<|ae au az) (hr:=((_r _).mono ∅)))) λ _ _ _ _ _ _=>rfl)
theorem ft:ZS.wq P w K mg base "best_of_all" 7 ["hall","groups","fast"] (KB.bf):=zc (N:=["hall","groups","fast","start"]) (z.nh.df z.X z.G (λ _ _ _ _ _ _ _=>lf λ _=>lf λ _=>lf λ _=>xL ⟨_,rfl,rfl⟩) λ _ _ _ _ _ _ _ us hl=>match us,hl with| [_,_],_=>⟨_,rfl,rfl⟩) λ nd hu hr=>(aA (aI<|ay (i_ z)<|ae au<|ae au<|ae au az)<|aB<|aK<|ay (vJ z)<|ae au<|cD (ay (j9 z)<|ae au<|ae au<|ae au<|aq eN az) az)
theorem r!:ZS.vf P w K mg base "best_of_all" 7 ["hall","groups","fast"] gJ:=Sq (N:=["hall","groups","fast","start"]) (z.nh.df z.X z.G (λ _ _ _ _ _ _ _=>lf λ _=>lf λ _=>lf λ _=>xL ⟨_,rfl,rfl⟩) λ _ _ _ _ _ _ _ us hl=>match us,hl with| [_,_],_=>⟨_,rfl,rfl⟩) λ nd hu hr=>(dX (aI<|ay (i_ z)<|ae au<|ae au<|ae au az) (xE (i:=3) nd rfl (lo rfl)<|D6 (r9 z) (hr.mono ∅) rfl<|ae au<|ae au<|ae au az) jS)
theorem vL:bv P w K mg base "all_places" 4 ["hall","groups"] (KC.ik):=bU (N:=["hall","groups"]) (z.xT.df z.X z.G) λ nd hu hr=>(aB<|aK<|pW<|bF (cK ah) (N':=["group","hall"])<|ay (kI z)<|ae au<|ae au az)
theorem rq:bv P w K mg base "spots_of" 4 ["groups","places","seating","k"] (KC.cT):=bU (N:=["groups","places","seating","k"]) (z.B6.df z.X z.G) λ nd hu hr=>(aB<|aK<|ay (nA z)<|bT (aF ah ah)<|bT (aF ah ah)<|cD (ay (eY z)<|ae au<|ae au az) az)
theorem lC:∀j,bv P w K mg base "paper_beside" (7+j) ["groups","places","seating"] (KC.bD j)
| 0=>ZS.Ss<|bU (k:=6) (N:=["groups","places","seating","waiting","k","spots","papers"]) (b:=Z.lU) (z.i6.1.df z.X z.G) λ _ _ _=>Oi
| j+1=>PR (k:=7+j) (N:=["groups","places","seating","waiting","k","spots","papers"]) (b:=KC.fA (KC.bD j)) (z.i6.1.df z.X z.G) lA (z.i6.lam z.X z.G) λ _ _ _ _ _ _ _ hl hr=>have SU:=lC j;have nd:=lA.nd;have hu:=hr.units;have _r:=λ env=>ZS.Ab (k:=4) (hr.mono ∅) env;(aA (kU (i:=3) rfl nd rfl (lo rfl) (Dt<|c7 z.dG<|bN z.dH ah) (N':=["k","seating"]) (n:=1) (is:=[2]) (gt (by kernel_rfl)) (rc ∅) (λ _ _ _ _ _ _=>bM) (λ _ _ _ _ _=>(jE<|mh<|ai<|aF ah ah)) λ _ _ _ _ _=>au)<|aA (aI<|y8 (ZS.ET hl (by decide +kernel)) (ZS.IG hr) rfl z.PB Lg ah (N':=["j","groups","places","seating"]) (is:=[0,1,2]) (gt (by kernel_rfl)) rfl (λ _ _ _ _ _=>(bN z.dH<|ai<|ay (rq z) (ae au<|ae au<|ae au<|ae au az) (hr:=((_r _).mono (by omega))))) λ _ _ _ _ _ _=>rfl)<|aA (aI<|ay (rq z)<|ae au<|ae au<|ae au<|ae au az)<|aA (bP (aV (ii hu) ah<|ai<|cj az) (aB<|aK<|cj<|aq bB<|ae au az) aT)<|aA (kU (i:=6) rfl nd rfl (lo rfl) (cK ah) (N':=["place","groups","places","seating","k"]) (n:=1) (is:=[0,1,2,4]) (gt (by kernel_rfl)) (rc ∅) (λ _ _ _ _ _ _=>bM) (λ _ _ _ _ _=>tP) λ _ _ _ _ _=>(ay SU (ae au<|ae au<|cD (ay (jT z)<|ae au<|ae au<|ae au az) az) (hr:=(hr.mono<|v4 _))))<|aB<|aK<|cj<|aq bB<|ae au<|cD (eR z.e? ah) az)
theorem Aq:ZS.wq P w K mg base "paper_of" 17 ["hall","groups","fast"] (KC.gg):=zc (N:=["hall","groups","fast"]) (z.B8.df z.X z.G (λ _ _ _ _ _ _ _=>lf λ _=>lf λ _=>lf λ _=>xL ⟨_,rfl,rfl⟩) λ _ _ _ _ _ _ _ us hl=>match us,hl with| [_,_],_=>⟨_,rfl,rfl⟩) λ nd hu hr=>(aA (bP (Fe<|ai<|ay (r? z).full<|ae au<|ae au<|ae au az) (aB<|aK oj) aT)<|aB<|aK<|ay (lC z 9)<|ae au<|cD (ay (vL z)<|ae au<|ae au az)<|cD (ay (iF z)<|ae au<|ae au<|ae au az) az)
theorem ud:bv P w K mg base "without" 1 ["things","k"] (eD):=bU (N:=["things","k"]) (z.FL.df z.X z.G) λ nd hu hr=>(aB<|aK<|aZ (ai<|ki ah Bo<|ka ah)<|ai<|ki ah (ka<|ai<|aZ ah<|ai ag) Bo)
theorem yp:ZS.Hv P w K mg base 5 ["self","hall"] 2 iT:=Sr (N:=["self","hall"]) rfl (z.zT.di z.hC z.Nh z.Nx λ _ _ _ _ _ _=>ZS.YE λ _ _=>rfl) λ nd hu hr=>(aU (bz λ _=>(bP (cJ<|hV<|ay (CH z)<|ae au az) (aB hX) aT))<|aU (jb z.mI (pv 0) au (by decide +kernel))<|aU (jb z.cF (pv 0) (cj az) (by decide +kernel))<|aU (jb z.iN (pv 0) (cj az) (by decide +kernel))<|cw<|jb z.g! (pv 0) (cj az) (by decide +kernel))
theorem dC:xz P w K mg base "number_of" 3 ["self","name"] [Ch,AT] (a_):=uZ rfl (N:=["self","name","k","guest"]) (z.j3.df z.hC) λ nd hu hr=>(aA (bP (hV<|ay (nX z)<|ae au az) (aB<|c! (Bq z.rH<|cL z.cF (cf<|pv 0) (by decide +kernel)) (mj rfl (a!<|a! gL) rfl)<|aB<|bP (aV (ii hu) (ai<|aF ah<|ai<|aN z.k?) ah) (aB<|aK au) aT) aT)<|aB hX)
theorem i?:ZS.p_ P w K mg base "number_of" 3 ["self","name"] [Ch,AT] bL:=y_ rfl (N:=["self","name","k","guest"]) (z.j3.df z.hC) λ nd hu hr=>(dX (bP (hV<|ay (nX z)<|ae au az) (aB<|c! (Bq z.rH<|cL z.cF (cf<|pv 0) (by decide +kernel)) (mj rfl (a!<|a! gL) rfl)<|aB<|bP (aV (ii hu) (ai<|aF ah<|ai<|aN z.k?) ah) (aB<|aK au) aT) aT) D4<|mB<|s_ rfl rfl rfl (by decide +kernel) z.tm z.FF bB)
theorem Aw:ZS.rR P w K mg base "ask" 18 ["self","group"] [Ch,AT] 5 iB:=zb rfl (N:=["self","group","guests","held","places"]) (z.tN.df z.hC) λ nd hu hr=>(aU (bz λ _=>(bP (cJ<|hV<|ay (lX z)<|ae au az) (aB hX) aT))<|aU (bz λ _=>(bP (aV (ut hu) (ai<|aF ah<|ai<|aN z.k?)<|eK<|bF (cK<|ai<|cL z.cF (cf<|pv 0) (by decide +kernel)) (N':=["guest"])<|aF ah<|ai<|aN z.k?) (aB hX) aT))<|aU (bz λ _=>(aI<|aZ (ai<|cL z.cF (cf<|pv 0) (by decide +kernel))<|ai<|cj<|ae au az))<|aU (bz λ _=>(bP (aV pc (ai<|bN z.dH ah)<|ai<|aN z.iu) (aB hX) aT))<|aU (bz λ _=>(aI<|aZ (ai<|cL z.iN (cf<|pv 0) (by decide +kernel))<|ai<|cj<|aq oj az))<|aU (bz λ _=>(aI<|ay (ft z).full<|eO (cL z.mI (cf<|pv 0) (by decide +kernel))<|ae au<|ae au az))<|aU (bz λ _=>(bP (mh ah) (aB hX) aT))<|aU (jb z.cF (pv 0) au (by decide +kernel))<|aU (jb z.iN (pv 0) au (by decide +kernel))<|aU (jb z.g! (pv 0) au (by decide +kernel))<|cw<|bz λ _=>(aK<|aF ah<|ai<|K2<|ai ag))
theorem yl:ZS.p_ P w K mg base "ask" 18 ["self","group"] [Ch,AT] gc:=y_ rfl (N:=["self","group","guests","held","places"]) (z.tN.df z.hC) λ nd hu hr=>(dX (bP (cJ<|hV<|ay (lX z)<|ae au az) (aB hX) aT) (zw (cJ<|hV<|ay (lX z)<|ae au az) (mB<|s_ rfl rfl rfl (by decide +kernel) z.FH z.BU bB) jS)<|dX (bP (aV (ut hu) (ai<|aF ah<|ai<|aN z.k?)<|eK<|bF (cK<|ai<|cL z.cF (cf<|pv 0) (by decide +kernel)) (N':=["guest"])<|aF ah<|ai<|aN z.k?) (aB hX) aT) (zw (aV (ut hu) (ai<|aF ah<|ai<|aN z.k?)<|eK<|bF (cK<|ai<|cL z.cF (cf<|pv 0) (by decide +kernel)) (N':=["guest"])<|aF ah<|ai<|aN z.k?) (mB<|s_ rfl rfl rfl (by decide +kernel) z.L1 z.HM bB) jS)<|dX (aI<|aZ (ai<|cL z.cF (cf<|pv 0) (by decide +kernel))<|ai<|cj<|ae au az) D4<|dX (bP (aV pc (ai<|bN z.dH ah)<|ai<|aN z.iu) (aB hX) aT) (zw (aV pc (ai<|bN z.dH ah)<|ai<|aN z.iu) (mB<|qg rfl rfl rfl (by decide +kernel) z.tj (pd z) (hr.mono ∅) (cD (bN z.dH ah)<|ae (aN z.iu) az) ∅ ∅) jS)<|dX (aI<|aZ (ai<|cL z.iN (cf<|pv 0) (by decide +kernel))<|ai<|cj<|aq oj az) D4<|dX (aI<|ay (ft z).full<|eO (cL z.mI (cf<|pv 0) (by decide +kernel))<|ae au<|ae au az) (xE (i:=4) nd rfl (lo rfl)<|D6 (r! z) (hr.mono ∅) rfl<|eO (cL z.mI (cf<|pv 0) (by decide +kernel))<|ae au<|ae au az)<|dX (bP (mh ah) (aB hX) aT) (zw (mh ah) (mB<|qg rfl rfl rfl (by decide +kernel) z.BW (Jg z) (hr.mono ∅) (cD (ay (Aq z).full<|eO (cL z.mI (cf<|pv 0) (by decide +kernel))<|ae au<|ae au az) az) ∅ ∅) jS) jS)
theorem pq:ZS.rR P w K mg base "fast" 4 ["self","name"] [Ch,AT] 3 fJ:=zb rfl (N:=["self","name","k"]) (z.rf.df z.hC) λ nd hu hr=>(aU (bz λ _=>(aI<|k8 (dC z) (hr.mono ∅) (cf<|pv 0) (by decide +kernel)<|a8 au bX))<|cw<|jb z.iN (pv 0) (ay (jT z)<|eO (cL z.iN (cf<|pv 0) (by decide +kernel))<|ae au<|bT (aF (ai<|cL z.g! (cf<|pv 0) (by decide +kernel)) ah) az) (by decide +kernel))
theorem vE:ZS.p_ P w K mg base "fast" 4 ["self","name"] [Ch,AT] iP:=y_ rfl (N:=["self","name","k"]) (z.rf.df z.hC) λ nd hu hr=>(dX (aI<|k8 (dC z) (hr.mono ∅) (cf<|pv 0) (by decide +kernel)<|a8 au bX) (xE (i:=2) nd rfl (lo rfl)<|oU (i? z) (hr.mono ∅) (cf<|pv 0) (by decide +kernel)<|a8 au bX) jS)
theorem pw:ZS.rR P w K mg base "away" 8 ["self","name"] [Ch,AT] 3 fK:=zb rfl (N:=["self","name","k"]) (z.rg.df z.hC) λ nd hu hr=>(aU (bz λ _=>(aI<|k8 (dC z) (hr.mono ∅) (cf<|pv 0) (by decide +kernel)<|a8 au bX))<|aU (jb z.cF (pv 0) (ay (ud z)<|eO (cL z.cF (cf<|pv 0) (by decide +kernel))<|ae au az) (by decide +kernel))<|aU (jb z.iN (pv 0) (ay (ud z)<|eO (cL z.iN (cf<|pv 0) (by decide +kernel))<|ae au az) (by decide +kernel))<|cw<|jb z.g! (pv 0) (ay (ft z).full<|eO (cL z.mI (cf<|pv 0) (by decide +kernel))<|eO (cL z.cF (cf<|pv 0) (by decide +kernel))<|eO (cL z.iN (cf<|pv 0) (by decide +kernel)) az) (by decide +kernel))
theorem vF:ZS.p_ P w K mg base "away" 8 ["self","name"] [Ch,AT] iQ:=y_ rfl (N:=["self","name","k"]) (z.rg.df z.hC) λ nd hu hr=>(dX (aI<|k8 (dC z) (hr.mono ∅) (cf<|pv 0) (by decide +kernel)<|a8 au bX) (xE (i:=2) nd rfl (lo rfl)<|oU (i? z) (hr.mono ∅) (cf<|pv 0) (by decide +kernel)<|a8 au bX) jS)
theorem nB:xz P w K mg base "where" 4 ["self","name"] [Ch,AT] (dR):=uZ rfl (N:=["self","name"]) (z.xV.df z.hC) λ nd hu hr=>(aB<|aK<|aF (ai<|cL z.g! (cf<|pv 0) (by decide +kernel))<|ai<|k8 (dC z) (hr.mono ∅) (cf<|pv 0) (by decide +kernel)<|a8 au bX)
theorem sd:xz P w K mg base "at_hand" 1 ["self"] [Ch] (fY):=uZ rfl (N:=["self"]) (z.tL.df z.hC) λ nd hu hr=>(aB<|aK<|cL z.cF (cf<|pv 0) (by decide +kernel))
theorem r_:xz P w K mg base "seating" 1 ["self"] [Ch] (fX):=uZ rfl (N:=["self"]) (z.tK.df z.hC) λ nd hu hr=>(aB<|aK<|cL z.g! (cf<|pv 0) (by decide +kernel))
theorem vM:xz P w K mg base "worth" 3 ["self"] [Ch] (il):=uZ rfl (N:=["self"]) (z.xU.df z.hC) λ nd hu hr=>(aB<|aK<|ay (lV z)<|eO (cL z.cF (cf<|pv 0) (by decide +kernel))<|eO (cL z.g! (cf<|pv 0) (by decide +kernel)) az)
theorem cX:bv P w K mg base "_law_cell_at" 1 ["_law_script","_law_k"] (KG.bV):=bU (N:=["_law_script","_law_k"]) (z.vt.df z.X z.G) λ nd hu hr=>(aA (bP (aV ul ah<|ai<|bN z.dH ah) (aB<|aK<|aF ah ah) aT)<|aB<|aK ag)
theorem pe:bv P w K mg base "_law_mixed" 1 ["_law_cell","_law_many"] (dI):=bU (N:=["_law_cell","_law_many","_law_number","_law_found","_law_k"]) (z.zN.df z.X z.G) λ nd hu hr=>(aA (aI<|aZ (ai ag)<|ai<|b! ah<|ai ag)<|aA (iq<|br az)<|aA (c! (c7 z.dG au) bM<|aA (aI<|b! (ai<|eF ah<|ai ag)<|ai ag)<|aB<|kW (i:=3) (pv 3)<|b! (ai<|eF (ai<|b! (ai<|eF (ai<|aZ ah<|ai ag)<|ai ag)<|ai ag)<|ai ag)<|ai ag)<|pV (i:=3)<|aB<|aK au)
theorem ic:bv P w K mg base "_law_digits" 1 ["_law_cell","_law_sizes"] (KH.dP):=bU (N:=["_law_cell","_law_sizes","_law_found","_law_size"]) (z.xP.df z.X z.G) λ nd hu hr=>(aA (iq<|br az)<|aA (c! (uQ au) bM<|aA (kW (i:=2) (pv 2)<|b! ah ah)<|aB<|aI<|dh ah ah)<|pV (i:=2)<|aB<|aK au)
theorem ym:bv P w K mg base "_law_names" 1 ["_law_cell","_law_many"] (iR):=bU (N:=["_law_cell","_law_many","_law_letters_here","_law_size","_law_at","_law_step","_law_names_here","_law_k","_law_name","_law_j","_law_turn"]) (z.zM.df z.X z.G) λ nd hu hr=>(aA (aI bB)<|aA (aI<|aZ (ai ag)<|ai<|b! ah<|ai ag)<|aA (aI<|b! (ai<|dh ah<|ai ag) ah)<|aA (aI<|aF (eK<|br<|aq ag<|aq ag<|aq ag<|aq ag<|aq ag<|aq ag az)<|ai<|b! (ai<|dh ah<|ai ag)<|ai ag)<|aA (iq<|br az)<|aA (c! (c7 z.dG au) bM<|aA (aI bB)<|aA (c! (c7 z.dG au) bM<|aA (aI<|eF (ai<|eF ah ah)<|ai<|y! rfl z.E7 zf<|ai<|c9 (ii hu) ah ah)<|aB<|aI<|aZ ah<|ai<|aF ah<|ai<|b! (ai<|aZ (ai<|dh ah<|ai<|aZ (ai ag)<|ai<|eF (ai<|eF (ai ag) ah) ah) ah)<|ai ag)<|aB<|kW (i:=6) (pv 6) au)<|pV (i:=6)<|aB<|aK au)
theorem lW:bv P w K mg base "_law_letters" 1 ["_law_cell"] (c5):=bU (N:=["_law_cell","_law_letters_here"]) (z.vq.df z.X z.G) λ nd hu hr=>(aA (aI bB)<|aB<|aK<|aZ (ai<|aF ah<|ai<|b! ah<|ai ag)<|ai<|aF ah<|ai<|b! (ai<|aZ (ai<|aZ ah<|ai ag)<|ai<|b! (ai<|dh ah<|ai ag)<|ai ag)<|ai ag)
theorem As:bv P w K mg base "_law_hall" 2 ["_law_script"] (jL):=bU (N:=["_law_script","_law_way","_law_many","_law_columns","_law_rest","_law_signs","_law_numbers","_law_rows","_law_r"]) (z.B'.df z.X z.G) λ nd hu hr=>(aA (KQ (ay (ic z)<|cD (ay (cX z)<|ae au<|aq ag az)<|kj (pW<|br<|aq ag<|aq ag<|aq ag<|cG (qS (ai ag)<|ai ag) az) az)<|Du rfl (a!<|a!<|a!<|a! gL) rfl)<|aA (aI<|aZ ah<|ai ag)<|aA (aI<|aZ ah<|ai ag)<|aA (aI bB)<|aA (aI<|ay (ic z)<|cD (ay (cX z)<|ae au<|aq ag az)<|cG (pW<|KU (br<|aq ag az)<|ai<|eF ah ah) az)<|aA (bP (aV (ii hu) ah<|ai ag) (aA (aI<|aF (eK<|br<|aq ag<|aq ag<|aq ag<|aq ag<|aq ag<|aq ag az)<|ai<|mm ah<|ai ag)<|aA (aI<|aF (eK<|br<|aq ag<|aq ag<|aq ag<|aq ag<|aq ag<|aq ag<|aq ag<|aq ag<|aq ag<|aq ag<|aq ag<|aq ag az)<|ai<|mm ah<|ai ag)<|aA (aI<|aZ (ai bB)<|ai<|ay (lW z)<|ae au az)<|aB<|kU (i:=6) rfl nd rfl (lo rfl) (cK<|ai<|ay (pe z)<|cD (ay (cX z)<|ae au<|aq ag az)<|cG (eF ah ah) az) (N':=["_law_number"]) (n:=1) (is:=[]) (gt (by kernel_rfl)) (rc ∅) (λ _ _ _ _ _ _=>bM) (λ _ _ _ _ _=>tP) λ _ _ _ _ _=>(b! (ai<|dh ah<|ai ag)<|ai ag)) aT)<|aA (iq<|br az)<|aA (c! (c7 z.dG au) bM<|aB<|kW (i:=7) (pv 7)<|Fi bB<|eK<|bF (cK<|eK<|uP ah (ka<|ai<|eF ah ah)<|ka<|ai<|eF (ai<|aZ ah<|ai ag) ah) (N':=["_law_number","_law_signs"])<|aF ah ah)<|aB<|aK<|eR z.e? ah)
theorem CC:bv P w K mg base "_law_any" 2 ["_law_name","_law_cell"] (kQ):=bU (N:=["_law_name","_law_cell","_law_width","_law_depth","_law_kind","_law_gap","_law_bits","_law_wide","_law_sums","_law_wishes"]) (z.FP.df z.X z.G) λ nd hu hr=>(aA (KQ (ay (ic z)<|ae au<|kj (pW<|br<|aq ag<|aq ag<|aq ag<|aq ag<|aq ag<|aq ag az) az)<|Du rfl (a!<|a!<|a!<|a!<|a!<|a! gL) rfl)<|aA (aI<|ay (ic z)<|cG (dh ah<|ai ag)<|cG (pW<|Dq (eK<|br<|cG (qS (ai ag)<|ai ag) az)<|eK<|KU (br<|cG (mm (ai<|qS (ai ag)<|ai ag)<|ai ag) az)<|ai ag) az)<|aA (aI<|b! ah<|ai<|aZ (ai<|eF (ai<|aZ ah<|ai ag)<|ai<|aZ ah<|ai ag)<|ai ag)<|aA (aI<|aF (eK<|br<|aq bB<|bT (aF (ai bB)<|ai<|mm ah<|ai ag) az)<|ai<|y! rfl z.E7 zf<|ai<|c9 pc ah<|ai ag)<|aA (kU (i:=9) rfl nd rfl (lo rfl) (Dt<|c7 z.dG ag) (N':=["_law_r","_law_bits","_law_sums"]) (n:=1) (is:=[6,8]) (gt (by kernel_rfl)) (rc ∅) (λ _ _ _ _ _ _=>bM) (λ _ _ _ _ _=>(jE<|aV (ii hu) (ai<|b! (ai<|dh ah<|ai<|aF (eK<|br<|aq ag<|aq ag<|aq ag<|aq ag<|aq ag<|aq ag az) ah)<|ai ag)<|ai ag)) λ _ _ _ _ _=>(cj<|ae au<|cG (aZ (ai ag)<|ai<|aF ah<|ai<|aZ (ai ag) ah) az))<|aB<|aK<|cj<|ae au<|cG (aZ ah<|ai ag)<|cG (aZ ah<|ai ag)<|ae au<|ae au<|ae au<|bT (aF ah<|ai ag)<|cD (eR z.e? ah) az)
theorem yn:bv P w K mg base "_law_group" 2 ["_law_name","_law_cell","_law_letters_here"] (iS):=bU (N:=["_law_name","_law_cell","_law_letters_here","_law_xs","_law_width","_law_depth","_law_kind","_law_wide","_law_gap","_law_worth","_law_wishes","_law_r"]) (z.zO.df z.X z.G) λ nd hu hr=>(aA (aI<|ay (pe z)<|ae au<|aq ag az)<|aA (aI<|aF (eK<|br<|aq ag<|aq ag<|aq ag<|aq ag<|aq ag<|aq ag<|aq ag<|aq ag az)<|ai<|b! (ai<|dh (ai<|aF ah<|ai ag)<|ai ag)<|ai ag)<|aA (aI<|aF (eK<|br<|aq ag<|aq ag<|aq ag<|aq ag<|aq ag<|aq ag<|aq ag<|aq ag az)<|ai<|b! (ai<|dh (ai<|aF ah<|ai ag)<|ai ag)<|ai ag)<|aA (aI<|aF (eK<|br<|aq bB<|aq bB<|aq bB<|bT (aF ah<|ai ag)<|aq bB<|bT (aF ah<|ai ag) az)<|ai<|b! (ai<|dh (ai<|aF ah<|ai ag)<|ai ag)<|ai ag)<|aA (aI<|Oq rfl z.PB Lg (ai<|aF (eK<|br<|aq ag<|aq ag<|aq ag<|aq ag<|aq ag<|aq ag az)<|ai<|b! (ai<|dh (ai<|aF ah<|ai ag)<|ai ag)<|ai ag)<|ai<|eF ah ah)<|aA (aI<|aF (eK<|br<|aq ag<|aq ag<|aq ag<|aq ag<|aq ag<|aq ag<|aq ag<|aq ag az)<|ai<|b! (ai<|dh (ai<|aF ah<|ai ag)<|ai ag)<|ai ag)<|aA (aI<|aF (eK<|br<|cG (b! (ai<|dh (ai<|aF ah<|ai ag)<|ai ag)<|ai ag)<|cG (eF (ai<|aF ah<|ai ag)<|ai<|qS (ai ag)<|ai ag) az)<|ai<|y! rfl z.E7 zf<|ai<|c9 (ii hu) (ai<|b! (ai<|dh (ai<|aF ah<|ai ag)<|ai ag)<|ai ag)<|ai ag)<|aA (iq<|br az)<|aA (c! (c7 z.dG ag) bM<|aB<|bP (aV (ii hu) (ai<|b! (ai<|dh (ai<|aF ah<|ai ag)<|ai<|aZ (ai ag)<|ai<|eF (ai ag) ah)<|ai ag)<|ai ag) (aB<|kW (i:=10) (pv 10)<|cj<|ae au<|cG (aZ (ai ag)<|ai<|b! (ai<|dh (ai<|aF ah<|ai ag)<|ai<|aZ (ai ag) ah)<|ai ag) az) aT)<|aB<|aK<|cj<|ae au<|ae au<|ae au<|ae au<|ae au<|ae au<|ae au<|cD (eR z.e? ah) az)
theorem vI:bv P w K mg base "_law_groups" 3 ["_law_script","_law_start","_law_names_here"] (ig):=bU (N:=["_law_script","_law_start","_law_names_here","_law_letters_here","_law_found","_law_k","_law_cell"]) (z.xO.df z.X z.G) λ nd hu hr=>(aA (aI<|ay (lW z)<|cG (b! (ai<|dh (ai<|ay (cX z)<|ae au<|aq ag az)<|ai ag)<|ai<|qS (ai ag)<|ai ag) az)<|aA (iq<|br az)<|aA (c! (c7 z.dG<|bN z.dH ah) bM<|aA (aI<|ay (cX z)<|ae au<|cG (aZ ah ah) az)<|aB<|bP (Fd<|yZ (aV (ii hu) (ai<|b! (ai<|ay (cX z)<|ae au<|aq ag az)<|ai ag)<|ai ag)<|sU<|aV pc (ai<|b! ah<|ai ag)<|ai ag) (aB<|kW (i:=4) (pv 4)<|ay (CC z)<|bT (aF ah ah)<|cG (dh ah<|ai ag) az)<|aB<|kW (i:=4) (pv 4)<|ay (yn z)<|bT (aF ah ah)<|cG (aZ (ai<|dh ah<|ai ag)<|ai<|eF (ai<|eF (ai ag) ah) ah)<|ae au az)<|aB<|aK<|eR z.e? ah)
theorem vH:bv P w K mg base "_law_places" 1 ["_law_hall_here","_law_group_here"] (dO):=bU (N:=["_law_hall_here","_law_group_here","_law_found","_law_r","_law_c","_law_signs","_law_bad"]) (z.xN.df z.X z.G) λ nd hu hr=>(aA (iq<|br az)<|aA (c! (c7 z.dG<|aZ (ai<|mm (ai<|bN z.dH ah)<|ai<|aF ah<|ai ag)<|ai ag) bM<|aB<|c! (c7 z.dG<|aZ (ai<|mm (ai<|bN z.dH<|ai<|aF ah<|ai ag)<|ai<|aF ah<|ai ag)<|ai ag) bM<|aA (aI<|Fi bB<|eK<|bF (cK<|ai<|ki ah (ka ah)<|ka<|ai<|aZ ah<|ai<|aF ah<|ai ag) (N':=["_law_row","_law_c","_law_group_here"])<|ki ah (ka ah)<|ka<|ai<|aZ ah<|ai<|aF ah<|ai ag)<|aA (kU (i:=6) rfl nd rfl (lo rfl) (cK ah) (N':=["_law_sign","_law_group_here"]) (n:=1) (is:=[1]) (gt (by kernel_rfl)) (rc ∅) (λ _ _ _ _ _ _=>bM) (λ _ _ _ _ _=>(jE<|Fd<|yZ (aV ZS.K? ah<|ai bB)<|sU<|aV (pi hu) ah<|ai<|aF ah<|ai ag)) λ _ _ _ _ _=>au)<|aB<|bP (Fd<|yZ (aV (ii hu) ah<|eK<|br az)<|sU<|aV ZS.WK (ai<|Ow ah<|ai bB)<|ai<|aF ah<|ai ag) (aB<|kW (i:=2) (pv 2)<|cj<|ae au<|ae au az) aT)<|pV (i:=2)<|aB<|aK au)
theorem Ar:ZS.BL P w K mg base "_law_ways" 2 ["_law_hall_here","_law_groups_here","_law_held"] [AT,AT,Ch] (fv):=Dy rfl (N:=["_law_hall_here","_law_groups_here","_law_held","_law_found","_law_group_here"]) (z.B9.df z.X z.G) λ nd hu hr=>(aA (aI ag)<|aA (c! (uQ au) bM<|aB<|bP (G9 hu (aF ah<|ai ag)<|cf<|pv 2) (aB<|aI<|eF ah<|ai<|aZ (ai ag)<|ai<|bN z.dH<|ai<|ay (vH z)<|ae au<|ae au az) aT)<|aB<|aK au)
theorem yo:ZS.qa P w K mg base "_law_asked" 19 ["_law_desk","_law_group_here"] [Ch,AT] 3 dJ:=sV rfl (N:=["_law_desk","_law_group_here","_law_found"]) (z.zP.df z.X z.G) λ nd hu hr=>(aU (bz λ _=>(aI oj))<|aU (Jz rfl rfl rfl (cw<|JA (i:=2) nd rfl (lo rfl) ∅<|pA (Aw z) (hr.mono ∅) (cf<|pv 0) (by decide +kernel) ∅ ∅<|a8 au bX) (λ _ _=>(sG<|P6 (i:=2) nd rfl (lo rfl)<|oU (yl z) (hr.mono ∅) (cf<|pv 0) (by decide +kernel)<|a8 au bX))<|Pg rfl z.Ri z.BW (ZS.wH z.BW.1 z.x? ZS.zY) (λ _=>(cw<|bz λ _=>(aI bB))) Ph)<|cw<|bz λ _=>(aK au))
theorem rA:ZS.BL P w K mg base "_law_fast" 1 ["_law_groups_here","_law_held"] [AT,Ch] (fy):=Dy rfl (N:=["_law_groups_here","_law_held"]) (z.B!.df z.X z.G) λ nd hu hr=>(aB<|aK<|eR z.e?<|eK<|bF (cK ah) (N':=["_law_group_here","_law_held"])<|Ov (cf<|pv 1)<|aF ah<|ai ag)
theorem CB:ZS.qa P w K mg base "_law_ask" 20 ["_law_desk","_law_hall_here","_law_groups_here","_law_held","_law_group_here"] [Ch,AT,AT,Ch,AT] 8 dQ:=sV rfl (N:=["_law_desk","_law_hall_here","_law_groups_here","_law_held","_law_group_here","_law_wider","_law_due","_law_found"]) (z.FO.df z.X z.G) λ nd hu hr=>(aU (bz λ _=>(aI<|aZ ah<|ai<|cj<|ae au az))<|aU (bz λ _=>(bP (aV pc (ai<|pX (Ar z) (hr.mono ∅) rfl<|a8 au<|a8 au<|d! (cf<|pv 3) bX)<|ai ag) (aB<|aK<|cj<|ae au<|aq eN az) aT))<|aU (bz λ _=>(aI<|ay (ft z).full<|ae au<|ae au<|cD (pX (rA z) (hr.mono ∅) rfl<|a8 au<|d! (cf<|pv 3) bX) az))<|aU (JA (i:=7) nd rfl (lo rfl) ∅<|sO (yo z) (hr.mono ∅) rfl ∅ ∅<|d! (cf<|pv 0)<|a8 au bX)<|aU (bz λ _=>(bP (mh ah) (aB<|aK<|cj<|ae au<|Fm (c9 (ii hu) ah<|ai bB) az) aT))<|cw<|bz λ _=>(aK<|cj<|ae au<|Fm (c9 (ii hu) ah<|ai<|aF ah<|ai<|K2<|ai ag) az))
theorem ue:ZS.qa P w K mg base "_law_no_name" 9 ["_law_desk","_law_way","_law_name"] [Ch,AT,AT] 4 fw:=sV rfl (N:=["_law_desk","_law_way","_law_name","_law_found"]) (z.vp.df z.X z.G) λ nd hu hr=>(aU (bz λ _=>(aI eN))<|aU (Jz rfl rfl rfl (cw<|AH (Na<|aV (ii hu) ah<|ai ag) (cw<|yB<|pA (pq z) (hr.mono ∅) (cf<|pv 0) (by decide +kernel) ∅ ∅<|a8 au bX)<|cw<|yB<|pA (pw z) (hr.mono ∅) (cf<|pv 0) (by decide +kernel) ∅ ∅<|a8 au bX) (λ _ _=>(sG<|TR (aV (ii hu) ah<|ai ag) (sG<|D5<|oU (vE z) (hr.mono ∅) (cf<|pv 0) (by decide +kernel)<|a8 au bX)<|sG<|D5<|oU (vF z) (hr.mono ∅) (cf<|pv 0) (by decide +kernel)<|a8 au bX))<|Pg rfl z.JN z.tm (ZS.wH z.tm.1 z.qv ZS.zY) (λ _=>(cw<|bz λ _=>(aI eN))) Ph)<|cw<|bz λ _=>(aK au))
theorem Au:ZS.qa P w K mg base "_law_deed" 21 ["_law_desk","_law_hall_here","_law_groups_here","_law_held","_law_some","_law_cell"] [Ch,AT,AT,Ch,AT,AT] 10 bO:=sV rfl (N:=["_law_desk","_law_hall_here","_law_groups_here","_law_held","_law_some","_law_cell","_law_group_here","_law_there","_law_way","_law_less"]) (z.B?.df z.X z.G) λ nd hu hr=>(aU (bz λ _=>(aI<|aF ah<|ai<|b! (ai<|dh ah<|ai ag)<|ai ag))<|aU (bz λ _=>(kU (i:=7) rfl nd rfl (lo rfl) (cK ah) (N':=["_law_one"]) (n:=1) (is:=[]) (gt (by kernel_rfl)) (rc ∅) (λ _ _ _ _ _ _=>bM) (λ _ _ _ _ _=>tP) λ _ _ _ _ _=>(aF ah<|ai ag)))<|aU (AH (Na<|aV (ZS.OG hu) (ai<|aF ah<|ai ag) ah) (aU (JB C08 rfl (uQ<|aF (eK<|br<|kj (pW<|br az)<|kj (pW<|br<|aq ag az)<|kj (pW<|br<|aq ag<|aq ag az)<|kj (pW<|br<|aq ag<|aq ag az) az)<|ai<|b! (ai<|dh ah<|ai ag)<|ai ag) (λ _=>bM)<|cw<|AH (Ra<|Z3<|sO (ue z) (hr.mono ∅) rfl ∅ ∅<|d! (cf<|pv 0)<|a8 au<|a8 (aF ah<|ai ag) bX) (cw<|bz λ _=>(aK<|cj<|ae au<|aq eN az)) sN)<|cw<|CO<|sO (CB z) (hr.mono ∅) rfl ∅ ∅<|d! (cf<|pv 0)<|a8 au<|a8 au<|d! (cf<|pv 3)<|a8 au bX) sN)<|aU (AH (Na<|aV ul (ai<|b! ah<|ai ag)<|ai ag) (aU (Rb hu (pv 3) (aF ah<|ai ag)<|k8 (nB z) (hr.mono ∅) (cf<|pv 0) (by decide +kernel)<|a8 (aF ah<|ai ag) bX)<|cw<|CO<|JG<|sP (Vj au)<|sP (JH<|pA (pq z) (hr.mono ∅) (cf<|pv 0) (by decide +kernel) ∅ ∅<|a8 (aF ah<|ai ag) bX) JM) sN)<|aU (AH (Na<|Sh hu (aF ah<|ai ag)<|cf<|pv 3) (cw<|yB<|Rg (pv 3)<|aF ah<|ai ag) sN)<|aU (bz λ _=>(aI<|eR z.e?<|eK<|bF (cK ah) (N':=["_law_one","_law_group_here"]) au (ht:=(jE<|aV (pi hu) (ai<|aF ah<|ai ag)<|ai<|aF ah<|ai ag))))<|cw<|CO<|JG<|sP (Vj au)<|sP (JH<|pA (pw z) (hr.mono ∅) (cf<|pv 0) (by decide +kernel) ∅ ∅<|a8 (aF ah<|ai ag) bX) JM)
theorem vG:ZS.BL P w K mg base "_law_stands" 8 ["_law_desk","_law_hall_here","_law_groups_here","_law_held"] [Ch,AT,AT,Ch] (eQ):=Dy rfl (N:=["_law_desk","_law_hall_here","_law_groups_here","_law_held","_law_due","_law_group_here","_law_place"]) (z.xM.df z.X z.G) λ nd hu hr=>(aA (aI<|ay (ft z).full<|ae au<|ae au<|cD (pX (rA z) (hr.mono ∅) rfl<|a8 au<|d! (cf<|pv 3) bX) az)<|aA (bP (Fd<|mf (aV (pi hu) (ai<|uU (sd z) (hr.mono ∅) (cf<|pv 0) (by decide +kernel)) ah)<|mf (aV (pi hu) (ai<|uU (r_ z) (hr.mono ∅) (cf<|pv 0) (by decide +kernel)) ah)<|jW<|aV (pi hu) (ai<|uU (vM z) (hr.mono ∅) (cf<|pv 0) (by decide +kernel))<|ai<|ay (lV z)<|ae au<|ae au az) (aB<|aK eN) aT)<|aA (c! (y6 z.Km au au) (mj rfl (a!<|a! gL) rfl)<|aB<|bP (aV (pi hu) (ai<|k8 (nB z) (hr.mono ∅) (cf<|pv 0) (by decide +kernel)<|a8 (aF ah<|ai ag) bX) ah) (aB<|aK eN) aT)<|aB<|aK eN)
theorem Q2{f:δ}{fd:υ}(F:BJ K "law" "law" (top 95) f fd):ee P w K mg base iK 22 f fd ["_law_script"] (ZS.zo K qL):=aaq (N:=["_law_script","_law_hall_here","_law_names_here","_law_some","_law_desk","_law_groups_here","_law_held","_law_cell","_law_right"]) F λ nd hu hr=>(aA (aI<|ay (As z)<|ae au az)<|aA (aI<|ay (ym z)<|cD (ay (cX z)<|ae au<|aq ag az)<|aq ag az)<|aA (aI<|ay (vI z)<|ae au<|aq ag<|cG (pW<|Dq ah ah) az)<|G' (i:=4) (yp z) (hr.mono ∅) rfl nd rfl (lo rfl) au λ _ _=>(aU (bz λ _=>(aI<|cj az))<|Jy (i:=6) nd rfl (lo rfl) λ _=>(aU (JB C08 rfl (uQ<|pW<|Dq (eK<|br<|aq ag<|aq ag<|aq ag az)<|eK<|uP ah (ka<|ai ag)<|ka<|ai ag) (λ _=>bM)<|aU (Rc (sO (Au z) (hr.mono ∅) rfl ∅ ∅<|d! (cf<|pv 4)<|a8 au<|a8 au<|d! (cf<|pv 6)<|a8 au<|a8 au bX) λ _=>(Du rfl (a!<|a! gL) rfl))<|cw<|bz λ _=>(bP (Fd<|mf (cJ<|hV au)<|jW<|cJ<|hV<|pX (vG z) (hr.mono ∅) rfl<|d! (cf<|pv 4)<|a8 au<|a8 au<|d! (cf<|pv 6) bX) (aB<|aK eN) aT))<|cw<|bz λ _=>(aK eN))))
end
theorem all_mk{l:AB8}{w:ξ}{K:Da}{h:ν}{mg:Str->ε ζ}{fa:δ}(GW:mg "law"=AC (.ref fa))(z:Fs K mg h):
 ∃fd:υ,(∀(s:η)(v:ζ),BindsTo s fd ⟨[v],[]⟩ [("_law_script",v)])/\∀base:ν,K.In base->base.Ns mainGlobals mg->ee l.prog w K mg base iK 22 fa fd ["_law_script"] (ZS.zo K qL):=by
 let⟨fd,hb,F⟩:=z.TY.law z.X z.G GW (x:="_law_script") λ _ _ _ _ _ _ _ _=>.of_eq rfl;exact⟨fd,hb,λ base _ _=>Q2 z F⟩
theorem walk{l:AB8}{q:ο}{loose:γ Str}{XP:(Str->ε ζ)->ν->Prop}{YP:ξ->ν->Prop}{d:DefRec}{K:Params->Fa}(hn:l.most=AC 63)(_1:d.params.defaults=[])
 (hY:∀(w:ξ)(h:ν),YP w h->(K w.params).In h)
 (F:∀ (w:ξ)(mg:Str->ε ζ)(fa:δ)(h:ν),(K w.params).In h->h.Ns mainGlobals mg->mg d.name=AC (.ref fa) ->
  ∃fd:υ,(∀(s:η)(u:ζ),BindsTo s fd ⟨[u],[]⟩ [("_law_script",u)])/\∀base:ν,(K w.params).In base->base.Ns mainGlobals mg->ee l.prog w (K w.params) mg base iK 22 fa fd ["_law_script"] (ZS.zo (K w.params) qL)) (hL:∀w:ξ,ZS.Lw q (K w.params)) :
 PySem.W.WalkO q loose XP YP l.row.toRowW d [] (λ f vs=>PySem.call f vs):=
 ZS.P8 (n:=63) (k:=22) (x:="_law_script") (m:=qL) hn ∅ _1 ⟨rfl,by decide,by decide⟩ hY F hL holds
end jt
namespace jt
open PySem PySem.Spec PyProof.Rows L2
abbrev km0:String:="besideseats.errors"
abbrev Z8:String:="besideseats.plain"
abbrev Pp:String:="besideseats.groups"
abbrev X_:String:="besideseats.halls"
abbrev X?:String:="besideseats.places"
abbrev Vs:String:="besideseats.seatings"
abbrev Po:String:="besideseats.rooms"
abbrev km7:String:="besideseats.best"
abbrev X!:String:="besideseats.papers"
abbrev LJ:String:="besideseats.desk"
abbrev lG:String:="law_besideseats_k81_seated_as_the_best"
noncomputable def kd(P:Params)(n:String)(t:Nat)(v:ζ):DictEntry:={hash:=PyData.keyHash P<|Str.ofString n,key:=.str (Db n) t,val:=v}
noncomputable def kc(n:String)(t l:Nat)(a b c d e f g h i j:ζ)(u:Nat):μ:={cls:=.type "code",data:=.fields #[.str (Db n) t,.str (Db n) (t+1),.str (Db "/claim/cut.py") (t+2),.int l 0,a,.int 0 0,.int 0 0,b,c,.bool Ch,d,e,f,g,h,i,j,.int l 0,.str (Db "/claim/cut.py") u]}
noncomputable def J0(n q:String)(t l:Nat)(a b c d e f g h i j:ζ)(u:Nat):μ:={cls:=.type "code",data:=.fields #[.str (Db n) t,.str (Db q) (t+1),.str (Db "/claim/cut.py") (t+2),.int l 0,a,.int 0 0,.int 0 0,b,c,.bool Ch,d,e,f,g,h,i,j,.int l 0,.str (Db "/claim/cut.py") u]}
noncomputable def JW(n q:String)(s:θ)(m:String)(t c:Nat)(v:ζ:=.none):μ:={cls:=.type "function",data:=.func {name:=Db n,qualname:=Db q,params:=bA s,body:=.stmts<|aL s,scope:=aj s,globals:=3,closure:=[],defaults:=v,kwdefaults:=.none,pyModule:=.str (Db m) t,code:=.ref c}}
noncomputable def kf(n:String)(i:Nat)(m:String)(t c:Nat)(v:ζ:=.none):μ:={cls:=.type "function",data:=.func {name:=Db n,qualname:=Db n,params:=bA<|top i,body:=.stmts<|aL<|top i,scope:=aj<|top i,globals:=3,closure:=[],defaults:=v,kwdefaults:=.none,pyModule:=.str (Db m) t,code:=.ref c}}
noncomputable def k7(n:String)(t l i r j u:Nat):μ:=kc n t l (.int i 0) (.int 3 0) (.ref r) (.int 181 0) (.ref<|r+1) .none (.ref<|r+2) (.ref<|r+3) (.ref<|r+4) (.int j 0) u
noncomputable def k5(n:String)(t l i r j u:Nat):μ:=kc n t l (.int i 0) (.int 3 0) (.ref r) (.int 181 0) (.ref<|r+1) .none .none .none (.ref<|r+2) (.int j 0) u
noncomputable def KK(P:Params):Da:=(λ(_:Db "a"=Str.mk #[97])=>(nat_lit 3,{cls:=.type "dict",data:=.dict #[kd P "__name__" 165 (.str (Db "law_besideseats_k81_seated_as_the_best") 819),kd P "__doc__" 166 .none,kd P "__package__" 167 .none,kd P "__loader__" 168 (.builtin "__main__.__loader__#opaque"),kd P "__spec__" 169 .none,kd P "__annotations__" 170 (.ref 6),kd P "__builtins__" 171 (.ref 4),kd P "__file__" 173 (.str (Db "/claim/cut.py") 172),kd P "__cached__" 174 .none,kd P "_wall" 193 (.ref 21),kd P "SeatError" 213 (.ref 31),kd P "NoHall" 229 (.ref 44),kd P "NoGroup" 245 (.ref 56),kd P "NoSeating" 261 (.ref 68),kd P "NoName" 277 (.ref 80),kd P "Twice" 293 (.ref 92),kd P "Full" 318 (.ref 111),kd P "TooGreat" 345 (.ref 130),kd P "is_whole" 354 (.ref 139),kd P "is_whole_within" 363 (.ref 146),kd P "is_letter" 370 (.ref 153),kd P "NAME" 374 (.int 0 373),kd P "WIDTH" 376 (.int 1 375),kd P "DEPTH" 378 (.int 2 377),kd P "KIND" 380 (.int 3 379),kd P "WIDE" 382 (.int 4 381),kd P "GAP" 384 (.int 5 383),kd P "WORTH" 386 (.int 6 385),kd P "WISHES" 388 (.int 7 387),kd P "PARTS" 390 (.int 8 389),kd P "MOST_LETTERS" 392 (.int 8 391),kd P "MOST_WIDTH" 394 (.int 12 393),kd P "MOST_DEPTH" 396 (.int 3 395),kd P "MOST_GAP" 398 (.int 6 397),kd P "LAST_ROW" 400 (.int 5 399),kd P "is_name" 406 (.ref 158),kd P "is_kind" 413 (.ref 165),kd P "is_amount" 421 (.ref 172),kd P "is_wish" 428 (.ref 179),kd P "are_wishes" 434 (.ref 184),kd P "asks_for_seats" 441 (.ref 191),kd P "is_group" 448 (.ref 198),kd P "worth_in" 454 (.ref 203),kd P "MOST_ROWS" 458 (.int 6 457),kd P "MOST_COLUMNS" 460 (.int 12 459),kd P "is_sign" 467 (.ref 210),kd P "is_row" 473 (.ref 215),kd P "is_hall" 479 (.ref 220),kd P "sign_at" 489 (.ref 227),kd P "takes" 499 (.ref 234),kd P "seats_of" 505 (.ref 239),kd P "fits" 511 (.ref 244),kd P "places_of" 517 (.ref 249),kd P "apart" 530 (.ref 256),kd P "those_that_sit" 536 (.ref 261),kd P "apart_from_all" 542 (.ref 266),kd P "keeps" 548 (.ref 271),kd P "worth_of" 554 (.ref 276),kd P "MOST_WAYS" 558 (.int 2000 557),kd P "fast_seating" 568 (.ref 283),kd P "ways" 580 (.ref 291),kd P "small_start" 590 (.ref 298),kd P "with_place" 599 (.ref 305),kd P "open_among" 605 (.ref 310),kd P "with_one_more" 611 (.ref 315),kd P "seatings_from" 623 (.ref 322),kd P "first_of_all" 633 (.ref 330),kd P "best_among" 644 (.ref 337),kd P "best_of_all" 654 (.ref 345),kd P "all_places" 662 (.ref 350),kd P "spots_of" 672 (.ref 357),kd P "paper_beside" 678 (.ref 362),kd P "paper_of" 687 (.ref 370),kd P "MOST_GUESTS" 691 (.int 6 690),kd P "without" 699 (.ref 377),kd P "Desk" 818 (.ref 469),kd P "_law_cell_at" 828 (.ref 480),kd P "_law_mixed" 839 (.ref 487),kd P "_law_digits" 849 (.ref 494),kd P "_law_names" 866 (.ref 501),kd P "_law_letters" 874 (.ref 508),kd P "_law_hall" 880 (.ref 513),kd P "_law_any" 886 (.ref 518),kd P "_law_group" 904 (.ref 525),kd P "_law_groups" 917 (.ref 532),kd P "_law_places" 923 (.ref 537),kd P "_law_ways" 934 (.ref 544),kd P "_law_asked" 943 (.ref 551),kd P "_law_fast" 949 (.ref 556),kd P "_law_ask" 963 (.ref 563),kd P "_law_no_name" 973 (.ref 570),kd P "_law_deed" 979 (.ref 575),kd P "_law_stands" 992 (.ref 582),kd P "law" 1007 (.ref 589)] 94}) ::
 (nat_lit 20,k7 "_wall" 187 1 1 15 191 192) ::
 (nat_lit 30,{cls:=.type "dict",data:=.dict #[kd P "__module__" 203 (.str (Db "besideseats.errors") 194),kd P "__firstlineno__" 207 (.int 5 206),kd P "__static_attributes__" 208 (.ref 29),kd P "__weakref__" 210 (.ref 32),kd P "__doc__" 211 .none] 3}) ::
 (nat_lit 31,{cls:=.type "type",data:=.cls {name:=Db "SeatError",bases:=[.type "ValueError"],mro:=[.ref 31,.type "ValueError",.type "Exception",.type "BaseException",.type "object"],ns:=30,qualname:=Db "SeatError",subclasses:=[.ref 44,.ref 56,.ref 68,.ref 80,.ref 92,.ref 111,.ref 130]},slots:=#[AC (.ref 22),At,AC (.str (Db "SeatError") 196),AC (.str (Db "SeatError") 204),AC (.builtin "ValueError.__new__"),AC (.bool Ch)]}) ::
 (nat_lit 43,{cls:=.type "dict",data:=.dict #[kd P "__module__" 221 (.str (Db "besideseats.errors") 194),kd P "__firstlineno__" 225 (.int 7 224),kd P "__static_attributes__" 226 (.ref 42),kd P "__doc__" 227 .none] 2}) ::
 (nat_lit 44,{cls:=.type "type",data:=.cls {name:=Db "NoHall",bases:=[.ref 31],mro:=[.ref 44,.ref 31,.type "ValueError",.type "Exception",.type "BaseException",.type "object"],ns:=43,qualname:=Db "NoHall"},slots:=#[AC (.ref 35),At,AC (.str (Db "NoHall") 214),AC (.str (Db "NoHall") 222),AC (.builtin "ValueError.__new__"),AC (.bool Ch)]}) ::
 (nat_lit 55,{cls:=.type "dict",data:=.dict #[kd P "__module__" 237 (.str (Db "besideseats.errors") 194),kd P "__firstlineno__" 241 (.int 9 240),kd P "__static_attributes__" 242 (.ref 54),kd P "__doc__" 243 .none] 2}) ::
 (nat_lit 56,{cls:=.type "type",data:=.cls {name:=Db "NoGroup",bases:=[.ref 31],mro:=[.ref 56,.ref 31,.type "ValueError",.type "Exception",.type "BaseException",.type "object"],ns:=55,qualname:=Db "NoGroup"},slots:=#[AC (.ref 47),At,AC (.str (Db "NoGroup") 230),AC (.str (Db "NoGroup") 238),AC (.builtin "ValueError.__new__"),AC (.bool Ch)]}) ::
 (nat_lit 67,{cls:=.type "dict",data:=.dict #[kd P "__module__" 253 (.str (Db "besideseats.errors") 194),kd P "__firstlineno__" 257 (.int 11 256),kd P "__static_attributes__" 258 (.ref 66),kd P "__doc__" 259 .none] 2}) ::
 (nat_lit 68,{cls:=.type "type",data:=.cls {name:=Db "NoSeating",bases:=[.ref 31],mro:=[.ref 68,.ref 31,.type "ValueError",.type "Exception",.type "BaseException",.type "object"],ns:=67,qualname:=Db "NoSeating"},slots:=#[AC (.ref 59),At,AC (.str (Db "NoSeating") 246),AC (.str (Db "NoSeating") 254),AC (.builtin "ValueError.__new__"),AC (.bool Ch)]}) ::
 (nat_lit 79,{cls:=.type "dict",data:=.dict #[kd P "__module__" 269 (.str (Db "besideseats.errors") 194),kd P "__firstlineno__" 273 (.int 13 272),kd P "__static_attributes__" 274 (.ref 78),kd P "__doc__" 275 .none] 2}) ::
 (nat_lit 80,{cls:=.type "type",data:=.cls {name:=Db "NoName",bases:=[.ref 31],mro:=[.ref 80,.ref 31,.type "ValueError",.type "Exception",.type "BaseException",.type "object"],ns:=79,qualname:=Db "NoName"},slots:=#[AC (.ref 71),At,AC (.str (Db "NoName") 262),AC (.str (Db "NoName") 270),AC (.builtin "ValueError.__new__"),AC (.bool Ch)]}) ::
 (nat_lit 91,{cls:=.type "dict",data:=.dict #[kd P "__module__" 285 (.str (Db "besideseats.errors") 194),kd P "__firstlineno__" 289 (.int 15 288),kd P "__static_attributes__" 290 (.ref 90),kd P "__doc__" 291 .none] 2}) ::
 (nat_lit 92,{cls:=.type "type",data:=.cls {name:=Db "Twice",bases:=[.ref 31],mro:=[.ref 92,.ref 31,.type "ValueError",.type "Exception",.type "BaseException",.type "object"],ns:=91,qualname:=Db "Twice"},slots:=#[AC (.ref 83),At,AC (.str (Db "Twice") 278),AC (.str (Db "Twice") 286),AC (.builtin "ValueError.__new__"),AC (.bool Ch)]}) ::
 (nat_lit 107,J0 "__init__" "Full.__init__" 306 19 (.int 2 0) (.int 3 0) (.ref 102) (.int 181 0) (.ref 103) .none (.ref 104) (.ref 105) (.ref 106) (.int 311 0) 312) ::
 (nat_lit 108,JW "__init__" "Full.__init__" (vk 8 0) km0 194 107) ::
 (nat_lit 110,{cls:=.type "dict",data:=.dict #[kd P "__module__" 301 (.str (Db "besideseats.errors") 194),kd P "__firstlineno__" 305 (.int 17 304),kd P "__init__" 313 (.ref 108),kd P "__static_attributes__" 315 (.ref 109),kd P "__doc__" 316 .none] 2}) ::
 (nat_lit 111,{cls:=.type "type",data:=.cls {name:=Db "Full",bases:=[.ref 31],mro:=[.ref 111,.ref 31,.type "ValueError",.type "Exception",.type "BaseException",.type "object"],ns:=110,qualname:=Db "Full"},slots:=#[AC (.ref 95),At,AC (.str (Db "Full") 294),AC (.str (Db "Full") 302),AC (.builtin "ValueError.__new__"),AC (.bool Ch)]}) ::
 (nat_lit 126,J0 "__init__" "TooGreat.__init__" 331 23 (.int 3 0) (.int 3 0) (.ref 121) (.int 181 0) (.ref 122) .none (.ref 123) (.ref 124) (.ref 125) (.int 337 0) 338) ::
 (nat_lit 127,JW "__init__" "TooGreat.__init__" (vk 9 0) km0 194 126) ::
 (nat_lit 129,{cls:=.type "dict",data:=.dict #[kd P "__module__" 326 (.str (Db "besideseats.errors") 194),kd P "__firstlineno__" 330 (.int 21 329),kd P "__init__" 339 (.ref 127),kd P "__static_attributes__" 342 (.ref 128),kd P "__doc__" 343 .none] 2}) ::
 (nat_lit 130,{cls:=.type "type",data:=.cls {name:=Db "TooGreat",bases:=[.ref 31],mro:=[.ref 130,.ref 31,.type "ValueError",.type "Exception",.type "BaseException",.type "object"],ns:=129,qualname:=Db "TooGreat"},slots:=#[AC (.ref 114),At,AC (.str (Db "TooGreat") 319),AC (.str (Db "TooGreat") 327),AC (.builtin "ValueError.__new__"),AC (.bool Ch)]}) ::
 (nat_lit 138,k7 "is_whole" 348 27 1 133 352 353) ::
 (nat_lit 139,kf "is_whole" 11 Z8 346 138) ::
 (nat_lit 145,k7 "is_whole_within" 355 29 3 140 361 362) ::
 (nat_lit 146,kf "is_whole_within" 12 Z8 346 145) ::
 (nat_lit 152,k7 "is_letter" 364 31 1 147 368 369) ::
 (nat_lit 153,kf "is_letter" 13 Z8 346 152) ::
 (nat_lit 157,k5 "is_name" 401 48 1 154 404 405) ::
 (nat_lit 158,kf "is_name" 29 Pp 371 157) ::
 (nat_lit 164,k7 "is_kind" 407 52 1 159 411 412) ::
 (nat_lit 165,kf "is_kind" 30 Pp 371 164) ::
 (nat_lit 171,k7 "is_amount" 414 54 2 166 419 420) ::
 (nat_lit 172,kf "is_amount" 31 Pp 371 171) ::
 (nat_lit 178,k7 "is_wish" 422 56 1 173 426 427) ::
 (nat_lit 179,kf "is_wish" 32 Pp 371 178) ::
 (nat_lit 183,k5 "are_wishes" 429 60 1 180 432 433) ::
 (nat_lit 184,kf "are_wishes" 33 Pp 371 183) ::
 (nat_lit 190,k7 "asks_for_seats" 435 64 1 185 439 440) ::
 (nat_lit 191,kf "asks_for_seats" 34 Pp 371 190) ::
 (nat_lit 197,k7 "is_group" 442 72 1 192 446 447) ::
 (nat_lit 198,kf "is_group" 35 Pp 371 197) ::
 (nat_lit 202,k5 "worth_in" 449 78 2 199 452 453) ::
 (nat_lit 203,kf "worth_in" 36 Pp 371 202) ::
 (nat_lit 209,k7 "is_sign" 461 83 1 204 465 466) ::
 (nat_lit 210,kf "is_sign" 40 X_ 455 209) ::
 (nat_lit 214,k5 "is_row" 468 85 1 211 471 472) ::
 (nat_lit 215,kf "is_row" 41 X_ 455 214) ::
 (nat_lit 219,k5 "is_hall" 474 89 1 216 477 478) ::
 (nat_lit 220,kf "is_hall" 42 X_ 455 219) ::
 (nat_lit 226,k7 "sign_at" 480 95 2 221 487 488) ::
 (nat_lit 227,kf "sign_at" 43 X_ 455 226) ::
 (nat_lit 233,k7 "takes" 492 102 2 228 497 498) ::
 (nat_lit 234,kf "takes" 45 X? 490 233) ::
 (nat_lit 238,k5 "seats_of" 500 104 2 235 503 504) ::
 (nat_lit 239,kf "seats_of" 46 X? 490 238) ::
 (nat_lit 243,k5 "fits" 506 109 3 240 509 510) ::
 (nat_lit 244,kf "fits" 47 X? 490 243) ::
 (nat_lit 248,k5 "places_of" 512 114 2 245 515 516) ::
 (nat_lit 249,kf "places_of" 48 X? 490 248) ::
 (nat_lit 255,k7 "apart" 520 120 4 250 528 529) ::
 (nat_lit 256,kf "apart" 50 Vs 518 255) ::
 (nat_lit 260,k5 "those_that_sit" 531 125 2 257 534 535) ::
 (nat_lit 261,kf "those_that_sit" 51 Vs 518 260) ::
 (nat_lit 265,k5 "apart_from_all" 537 127 3 262 540 541) ::
 (nat_lit 266,kf "apart_from_all" 52 Vs 518 265) ::
 (nat_lit 270,k5 "keeps" 543 129 3 267 546 547) ::
 (nat_lit 271,kf "keeps" 53 Vs 518 270) ::
 (nat_lit 275,k5 "worth_of" 549 134 2 272 552 553) ::
 (nat_lit 276,kf "worth_of" 54 Vs 518 275) ::
 (nat_lit 282,k7 "fast_seating" 559 138 3 277 566 567) ::
 (nat_lit 283,kf "fast_seating" 57 Po 555 282) ::
 (nat_lit 290,k7 "ways" 569 143 3 285 578 579) ::
 (nat_lit 291,kf "ways" 58 Po 555 290<|.ref 284) ::
 (nat_lit 297,k7 "small_start" 581 149 3 292 588 589) ::
 (nat_lit 298,kf "small_start" 59 Po 555 297) ::
 (nat_lit 304,k7 "with_place" 591 154 3 299 597 598) ::
 (nat_lit 305,kf "with_place" 60 Po 555 304) ::
 (nat_lit 309,k5 "open_among" 600 156 3 306 603 604) ::
 (nat_lit 310,kf "open_among" 61 Po 555 309) ::
 (nat_lit 314,k5 "with_one_more" 606 158 5 311 609 610) ::
 (nat_lit 315,kf "with_one_more" 62 Po 555 314) ::
 (nat_lit 321,k7 "seatings_from" 612 167 4 316 621 622) ::
 (nat_lit 322,kf "seatings_from" 63 Po 555 321) ::
 (nat_lit 329,k7 "first_of_all" 624 173 3 324 631 632) ::
 (nat_lit 330,kf "first_of_all" 64 Po 555 329<|.ref 323) ::
 (nat_lit 336,k7 "best_among" 636 177 2 331 642 643) ::
 (nat_lit 337,kf "best_among" 66 km7 634 336) ::
 (nat_lit 344,k7 "best_of_all" 645 179 3 339 652 653) ::
 (nat_lit 345,kf "best_of_all" 67 km7 634 344<|.ref 338) ::
 (nat_lit 349,k5 "all_places" 657 183 2 346 660 661) ::
 (nat_lit 350,kf "all_places" 69 X! 655 349) ::
 (nat_lit 356,k7 "spots_of" 663 185 4 351 670 671) ::
 (nat_lit 357,kf "spots_of" 70 X! 655 356) ::
 (nat_lit 361,k5 "paper_beside" 673 187 3 358 676 677) ::
 (nat_lit 362,kf "paper_beside" 71 X! 655 361) ::
 (nat_lit 369,k7 "paper_of" 679 195 3 364 685 686) ::
 (nat_lit 370,kf "paper_of" 72 X! 655 369<|.ref 363) ::
 (nat_lit 376,k7 "without" 692 201 2 371 697 698) ::
 (nat_lit 377,kf "without" 75 LJ 688 376) ::
 (nat_lit 390,J0 "__init__" "Desk.__init__" 712 205 (.int 2 0) (.int 3 0) (.ref 385) (.int 181 0) (.ref 386) .none (.ref 387) (.ref 388) (.ref 389) (.int 717 0) 718) ::
 (nat_lit 391,JW "__init__" "Desk.__init__" (vk 76 0) LJ 688 390) ::
 (nat_lit 397,J0 "number_of" "Desk.number_of" 720 213 (.int 2 0) (.int 3 0) (.ref 392) (.int 181 0) (.ref 393) .none (.ref 394) (.ref 395) (.ref 396) (.int 727 0) 728) ::
 (nat_lit 398,JW "number_of" "Desk.number_of" (vk 76 1) LJ 688 397) ::
 (nat_lit 402,J0 "ask" "Desk.ask" 730 220 (.int 2 0) (.int 3 0) (.ref 399) (.int 181 0) (.ref 400) .none .none .none (.ref 401) (.int 733 0) 734) ::
 (nat_lit 403,JW "ask" "Desk.ask" (vk 76 2) LJ 688 402) ::
 (nat_lit 409,J0 "fast" "Desk.fast" 736 237 (.int 2 0) (.int 3 0) (.ref 404) (.int 181 0) (.ref 405) .none (.ref 406) (.ref 407) (.ref 408) (.int 742 0) 743) ::
 (nat_lit 410,JW "fast" "Desk.fast" (vk 76 3) LJ 688 409) ::
 (nat_lit 416,J0 "away" "Desk.away" 745 241 (.int 2 0) (.int 3 0) (.ref 411) (.int 181 0) (.ref 412) .none (.ref 413) (.ref 414) (.ref 415) (.int 751 0) 752) ::
 (nat_lit 417,JW "away" "Desk.away" (vk 76 4) LJ 688 416) ::
 (nat_lit 423,J0 "where" "Desk.where" 754 247 (.int 2 0) (.int 3 0) (.ref 418) (.int 181 0) (.ref 419) .none (.ref 420) (.ref 421) (.ref 422) (.int 759 0) 760) ::
 (nat_lit 424,JW "where" "Desk.where" (vk 76 5) LJ 688 423) ::
 (nat_lit 430,J0 "at_hand" "Desk.at_hand" 762 250 (.int 1 0) (.int 3 0) (.ref 425) (.int 181 0) (.ref 426) .none (.ref 427) (.ref 428) (.ref 429) (.int 766 0) 767) ::
 (nat_lit 431,JW "at_hand" "Desk.at_hand" (vk 76 6) LJ 688 430) ::
 (nat_lit 437,J0 "seating" "Desk.seating" 769 253 (.int 1 0) (.int 3 0) (.ref 432) (.int 181 0) (.ref 433) .none (.ref 434) (.ref 435) (.ref 436) (.int 773 0) 774) ::
 (nat_lit 438,JW "seating" "Desk.seating" (vk 76 7) LJ 688 437) ::
 (nat_lit 444,J0 "worth" "Desk.worth" 776 256 (.int 1 0) (.int 3 0) (.ref 439) (.int 181 0) (.ref 440) .none (.ref 441) (.ref 442) (.ref 443) (.int 780 0) 781) ::
 (nat_lit 445,JW "worth" "Desk.worth" (vk 76 8) LJ 688 444) ::
 (nat_lit 468,{cls:=.type "dict",data:=.dict #[kd P "__module__" 707 (.str (Db "besideseats.desk") 688),kd P "__firstlineno__" 711 (.int 203 710),kd P "__init__" 719 (.ref 391),kd P "number_of" 729 (.ref 398),kd P "ask" 735 (.ref 403),kd P "fast" 744 (.ref 410),kd P "away" 753 (.ref 417),kd P "where" 761 (.ref 424),kd P "at_hand" 768 (.ref 431),kd P "seating" 775 (.ref 438),kd P "worth" 782 (.ref 445),kd P "show_all" 789 (.ref 452),kd P "say" 797 (.ref 459),kd P "do" 806 (.ref 466),kd P "__static_attributes__" 811 (.ref 467),kd P "__dict__" 813 (.ref 470),kd P "__weakref__" 815 (.ref 471),kd P "__doc__" 816 .none] 4}) ::
 (nat_lit 469,{cls:=.type "type",data:=.cls {name:=Db "Desk",bases:=[.type "object"],mro:=[.ref 469,.type "object"],ns:=468,qualname:=Db "Desk"},slots:=#[At,At,AC (.str (Db "Desk") 700),AC (.str (Db "Desk") 708),AC (.builtin "object.__new__"),AC (.bool Ch)]}) ::
 (nat_lit 479,k7 "_law_cell_at" 821 268 2 474 826 827) ::
 (nat_lit 480,kf "_law_cell_at" 78 lG 819 479) ::
 (nat_lit 486,k7 "_law_mixed" 829 272 2 481 837 838) ::
 (nat_lit 487,kf "_law_mixed" 79 lG 819 486) ::
 (nat_lit 493,k7 "_law_digits" 840 279 2 488 847 848) ::
 (nat_lit 494,kf "_law_digits" 80 lG 819 493) ::
 (nat_lit 500,k7 "_law_names" 850 285 2 495 864 865) ::
 (nat_lit 501,kf "_law_names" 81 lG 819 500) ::
 (nat_lit 507,k7 "_law_letters" 867 298 1 502 872 873) ::
 (nat_lit 508,kf "_law_letters" 82 lG 819 507) ::
 (nat_lit 512,k5 "_law_hall" 875 301 1 509 878 879) ::
 (nat_lit 513,kf "_law_hall" 83 lG 819 512) ::
 (nat_lit 517,k5 "_law_any" 881 316 2 514 884 885) ::
 (nat_lit 518,kf "_law_any" 84 lG 819 517) ::
 (nat_lit 524,k7 "_law_group" 887 323 3 519 902 903) ::
 (nat_lit 525,kf "_law_group" 85 lG 819 524) ::
 (nat_lit 531,k7 "_law_groups" 905 336 3 526 915 916) ::
 (nat_lit 532,kf "_law_groups" 86 lG 819 531) ::
 (nat_lit 536,k5 "_law_places" 918 346 2 533 921 922) ::
 (nat_lit 537,kf "_law_places" 87 lG 819 536) ::
 (nat_lit 543,k7 "_law_ways" 924 355 3 538 932 933) ::
 (nat_lit 544,kf "_law_ways" 88 lG 819 543) ::
 (nat_lit 550,k7 "_law_asked" 935 361 2 545 941 942) ::
 (nat_lit 551,kf "_law_asked" 89 lG 819 550) ::
 (nat_lit 555,k5 "_law_fast" 944 368 2 552 947 948) ::
 (nat_lit 556,kf "_law_fast" 90 lG 819 555) ::
 (nat_lit 562,k7 "_law_ask" 950 370 5 557 961 962) ::
 (nat_lit 563,kf "_law_ask" 91 lG 819 562) ::
 (nat_lit 569,k7 "_law_no_name" 964 379 3 564 971 972) ::
 (nat_lit 570,kf "_law_no_name" 92 lG 819 569) ::
 (nat_lit 574,k5 "_law_deed" 974 389 6 571 977 978) ::
 (nat_lit 575,kf "_law_deed" 93 lG 819 574) ::
 (nat_lit 581,k7 "_law_stands" 980 404 4 576 990 991) ::
 (nat_lit 582,kf "_law_stands" 94 lG 819 581) ::
 (nat_lit 588,k7 "law" 993 412 1 583 1005 1006) ::
 (nat_lit 589,kf "law" 95 lG 819 588) ::
 (nat_lit 284,{cls:=.type "tuple",data:=.seq #[.none]}) ::
 (nat_lit 323,{cls:=.type "tuple",data:=.seq #[.none]}) ::
 (nat_lit 338,{cls:=.type "tuple",data:=.seq #[.none]}) ::
 (nat_lit 363,{cls:=.type "tuple",data:=.seq #[.none]})::[]) (by kernel_rfl)
def KA:γ δ:=[nat_lit 3,nat_lit 20,nat_lit 30,nat_lit 31,nat_lit 43,nat_lit 44,nat_lit 55,nat_lit 56,nat_lit 67,nat_lit 68,nat_lit 79,nat_lit 80,nat_lit 91,nat_lit 92,nat_lit 107,nat_lit 108,nat_lit 110,nat_lit 111,nat_lit 126,nat_lit 127,nat_lit 129,nat_lit 130,nat_lit 138,nat_lit 139,nat_lit 145,nat_lit 146,nat_lit 152,nat_lit 153,nat_lit 157,nat_lit 158,nat_lit 164,nat_lit 165,nat_lit 171,nat_lit 172,nat_lit 178,nat_lit 179,nat_lit 183,nat_lit 184,nat_lit 190,nat_lit 191,nat_lit 197,nat_lit 198,nat_lit 202,nat_lit 203,nat_lit 209,nat_lit 210,nat_lit 214,nat_lit 215,nat_lit 219,nat_lit 220,nat_lit 226,nat_lit 227,nat_lit 233,nat_lit 234,nat_lit 238,nat_lit 239,nat_lit 243,nat_lit 244,nat_lit 248,nat_lit 249,nat_lit 255,nat_lit 256,nat_lit 260,nat_lit 261,nat_lit 265,nat_lit 266,nat_lit 270,nat_lit 271,nat_lit 275,nat_lit 276,nat_lit 282,nat_lit 283,nat_lit 290,nat_lit 291,nat_lit 297,nat_lit 298,nat_lit 304,nat_lit 305,nat_lit 309,nat_lit 310,nat_lit 314,nat_lit 315,nat_lit 321,nat_lit 322,nat_lit 329,nat_lit 330,nat_lit 336,nat_lit 337,nat_lit 344,nat_lit 345,nat_lit 349,nat_lit 350,nat_lit 356,nat_lit 357,nat_lit 361,nat_lit 362,nat_lit 369,nat_lit 370,nat_lit 376,nat_lit 377,nat_lit 390,nat_lit 391,nat_lit 397,nat_lit 398,nat_lit 402,nat_lit 403,nat_lit 409,nat_lit 410,nat_lit 416,nat_lit 417,nat_lit 423,nat_lit 424,nat_lit 430,nat_lit 431,nat_lit 437,nat_lit 438,nat_lit 444,nat_lit 445,nat_lit 468,nat_lit 469,nat_lit 479,nat_lit 480,nat_lit 486,nat_lit 487,nat_lit 493,nat_lit 494,nat_lit 500,nat_lit 501,nat_lit 507,nat_lit 508,nat_lit 512,nat_lit 513,nat_lit 517,nat_lit 518,nat_lit 524,nat_lit 525,nat_lit 531,nat_lit 532,nat_lit 536,nat_lit 537,nat_lit 543,nat_lit 544,nat_lit 550,nat_lit 551,nat_lit 555,nat_lit 556,nat_lit 562,nat_lit 563,nat_lit 569,nat_lit 570,nat_lit 574,nat_lit 575,nat_lit 581,nat_lit 582,nat_lit 588,nat_lit 589,nat_lit 284,nat_lit 323,nat_lit 338,nat_lit 363]
end jt
namespace PySem.W.Fast
def tw12706138078113524923:=()
def tw14021018468919521754:=()
def tw1543626550067036347:=()
def tw17945491467836975151:=()
def tw4188210310680363223:=()
def tw5619850186646991297:=()
def tw819894514776967980:=()
omit env_41 heap_46 heap_661 o_43 o_45 o_46 o_49 o_51 o_53 o_54 o_55 o_56 o_57 o_58 o_59 o_60 o_61 o_63 o_64 o_65 o_66 o_67 o_68 o_69 o_70 o_71 o_73 o_74 o_75 o_76 o_77 o_79 o_80 o_81 o_82 o_83 o_84 o_85 o_86 o_88 o_89 o_90 o_91 o_92 o_94 o_95 o_96 o_97 o_98 o_99 o_100 o_101 o_103 o_104 o_105 o_106 o_107 o_109 o_110 o_111 o_112 o_113 o_114 o_115 o_116 o_118 o_119 o_120 o_121 o_122 o_124 o_125 o_126 o_127 o_128 o_129 o_130 o_131 o_133 o_134 o_135 o_136 o_137 o_139 o_140 o_141 o_142 o_143 o_144 o_145 o_146 o_148 o_149 o_150 o_151 o_152 o_154 o_155 o_156 o_158 o_159 o_160 o_161 o_162 o_163 o_164 o_165 o_166 o_167 o_168 o_170 o_171 o_172 o_173 o_174 o_176 o_177 o_178 o_180 o_181 o_182 o_183 o_184 o_185 o_186 o_187 o_188 o_189 o_190 o_192 o_193 o_194 o_195 o_196 o_197 o_199 o_200 o_201 o_202 o_203 o_204 o_206 o_207 o_208 o_209 o_210 o_211 o_213 o_215 o_216 o_217 o_218 o_220 o_221 o_222 o_223 o_224 o_225 o_227 o_228 o_229 o_230 o_231 o_232 o_234 o_235 o_236 o_237 o_238 o_239 o_241 o_242 o_243 o_244 o_246 o_247 o_248 o_249 o_250 o_251 o_253 o_254 o_255 o_256 o_257 o_258 o_260 o_261 o_262 o_263 o_265 o_266 o_267 o_268 o_269 o_270 o_272 o_273 o_274 o_275 o_277 o_279 o_280 o_281 o_282 o_284 o_285 o_286 o_287 o_288 o_289 o_291 o_292 o_293 o_294 o_295 o_296 o_298 o_299 o_300 o_301 o_303 o_304 o_305 o_306 o_308 o_309 o_310 o_311 o_313 o_314 o_315 o_316 o_317 o_318 o_320 o_321 o_322 o_323 o_325 o_326 o_327 o_328 o_330 o_331 o_332 o_333 o_335 o_336 o_337 o_338 o_340 o_341 o_342 o_343 o_344 o_345 o_347 o_348 o_350 o_351 o_352 o_353 o_354 o_355 o_357 o_358 o_359 o_360 o_361 o_362 o_364 o_365 o_366 o_367 o_368 o_369 o_371 o_372 o_373 o_374 o_376 o_377 o_378 o_379 o_381 o_382 o_383 o_384 o_385 o_386 o_387 o_389 o_390 o_391 o_392 o_393 o_394 o_396 o_397 o_398 o_399 o_400 o_401 o_402 o_404 o_405 o_406 o_407 o_408 o_409 o_411 o_412 o_413 o_414 o_416 o_417 o_418 o_419 o_420 o_421 o_423 o_424 o_425 o_426 o_428 o_429 o_431 o_432 o_433 o_434 o_435 o_436 o_438 o_439 o_440 o_441 o_442 o_443 o_445 o_446 o_447 o_448 o_450 o_451 o_452 o_454 o_455 o_456 o_457 o_458 o_459 o_461 o_462 o_463 o_464 o_465 o_466 o_468 o_469 o_470 o_471 o_473 o_474 o_475 o_476 o_477 o_478 o_480 o_481 o_482 o_483 o_484 o_485 o_487 o_488 o_489 o_490 o_491 o_492 o_494 o_495 o_496 o_497 o_498 o_499 o_501 o_502 o_503 o_504 o_505 o_506 o_508 o_509 o_510 o_511 o_512 o_513 o_515 o_516 o_517 o_518 o_519 o_520 o_522 o_523 o_524 o_525 o_526 o_527 o_529 o_530 o_531 o_532 o_533 o_534 o_535 o_536 o_537 o_538 o_539 o_540 o_541 o_543 o_545 o_546 o_547 o_548 o_549 o_550 o_552 o_553 o_554 o_555 o_556 o_557 o_559 o_560 o_561 o_562 o_563 o_564 o_566 o_567 o_568 o_569 o_570 o_571 o_573 o_574 o_575 o_576 o_577 o_578 o_580 o_581 o_582 o_583 o_585 o_586 o_587 o_588 o_590 o_591 o_592 o_593 o_594 o_595 o_597 o_598 o_599 o_600 o_601 o_602 o_604 o_605 o_606 o_607 o_609 o_610 o_611 o_612 o_613 o_614 o_616 o_617 o_618 o_619 o_620 o_621 o_623 o_625 o_626 o_627 o_628 o_630 o_631 o_632 o_633 o_634 o_635 o_637 o_638 o_639 o_640 o_641 o_642 o_644 o_645 o_646 o_647 o_649 o_650 o_651 o_652 o_653 o_654 o_656 o_657 o_658 o_659 o_660 sts_49 sts_71 sts_86 sts_101 sts_116 sts_131 sts_146 sts_168 sts_211 sts_275 sts_345 sts_426 sts_443 sts_541 sts_621 tree_47 tree_70 tree_85 tree_100 tree_115 tree_130 tree_145 tree_167 tree_210 tree_274 tree_344 tree_425 tree_442 tree_540 tree_620 tree_660 view_39
end PySem.W.Fast
open PySem PySem.W PyProof.Rows
set_option maxRecDepth 100000 in
set_option maxHeartbeats 0 in
theorem PySem.Challenge.cw_besideseats_k81_seated_as_the_best_holds : PySem.Challenge.rw_besideseats_k81_seated_as_the_best.Holds := by
 w_on;o_law;o_head (PySem.W.kHook jt.KK jt.KA (λ _=>by kernel_rfl));(case hw=>w_witness2)
 k_fill
 refine jt.walk (l:=PySem.Challenge.rw_besideseats_k81_seated_as_the_best) rfl rfl (λ w h Y=>PySem.W.kIn_of Y) ?F ?L
 case L=>
  intro w;refine' ZS.Rn (r1:=_) (r2:=_) ?n ?h1 ?h2 ?g1 ?g2 ?ne
  (case n=>kernel_rfl)
  (case h1=>refine' ZS.tR ?a1 ?l1 ?e1 ?tl1 ?tp1;(case a1=>k_is);(case l1=>k_is);(case e1=>exact rfl);(case tl1=>k_is);(case tp1=>exact rfl))
  (case g1=>exact .inr rfl)
  (case h2=>refine' ZS.tR ?a2 ?l2 ?e2 ?tl2 ?tp2;(case a2=>k_is);(case l2=>k_is);(case e2=>exact rfl);(case tl2=>k_is);(case tp2=>exact rfl))
  (case g2=>exact .inr rfl)
  (case ne=>exact λ c P c' P' e1 e2=>by first|(cases e1;done)|(cases e2;done)|(cases e1;cases e2;decide))
 case F=>
  intro w mg fa h KX G _E;refine' jt.all_mk _E ⟨KX,G,?_,?_,?_,?_,?_,?_,?_,?_,?_,?_,?_,?_,?_,?_,?_,?_,?_,?_,?_,?_,?_,?_,?_,?_,?_,?fw27,?_,?_,?_,?_,?_,?fw33,?fw34,?fw35,?_,?_,?fw38,?fw39,?_,?fw41,?fw42,?fw43,?fw44,?fw45,?fw46,?fw47,?fw48,?fw49,?_,?_,?_,?_,?_,?_,?_,?_,?_,?_,?_,?_,?_,?_,?_,?_,?_,?_,?_,?_,?_,?_,?_,?_,?_,?_,?_,?_,?_,?_,?_,?fw81,?fw82,?fw83,?fw84,?fw85,?fw86,?fw87,?fw88,?fw89,?fw90,?fw91,?fw92,?fw93,?fw94,?fw95,?fw96,?fw97,?fw98,?fw99,?fw100,?fw101,?fw102,?fw103,?fw104,?fw105,?fw106,?fw107,?fw108,?fw109,?fw110,?fw111,?fw112,?fw113,?fw114,?fw115,?fw116,?fw117,?fw118,?fw119,?fw120,?fw121,?fw122,?fw123,?fw124,?fw125,?fw126,?fw127,?fw128,?fw129,?fw130,?fw131,?fw132⟩
  (case fw81|fw82|fw83|fw84|fw85|fw86|fw87|fw88|fw89|fw90|fw91|fw92|fw93|fw94|fw95|fw96|fw97|fw98|fw99|fw100|fw101|fw102|fw103|fw104=>k_is)
  (case fw113=>refine' ⟨?_,?_,?_,?_⟩<;>kernel_rfl)
  (case fw120|fw121=>refine' ⟨?_,?_,?_⟩<;>kernel_rfl)
  (case fw105|fw106|fw107|fw108|fw109|fw110|fw111|fw112|fw114|fw115|fw116|fw117|fw118|fw119|fw122|fw123|fw124|fw125|fw126|fw128|fw129|fw131|fw132=>kernel_rfl)
  (case fw27|fw33|fw35|fw39=>refine' ZS.p?.mk' ?a ?l ?c ?k ?dq;(case a=>k_is);(case l=>k_is);(case c=>k_is);(case k=>k_is);(case dq=>k_is))
  (case fw41|fw42|fw43|fw44|fw45|fw46|fw47|fw48|fw49|fw127|fw130=>refine' ZS.gu.mk' ?a ?l ?c ?k ?i;(case a=>k_is);(case l=>k_is);(case c=>k_is);(case k=>k_is);(case i=>k_is))
  (case fw34|fw38=>refine' ZS.ve.mk' ?a ?l ?c ?k ?tl ?tp;(case a=>k_is);(case l=>k_is);(case c=>k_is);(case k=>k_is);(case tl=>k_is);(case tp=>exact rfl))
  all_goals first|k_is|(refine' ZS.ck.mk' ?a ?l ?c ?k;(case a=>k_is);(case l=>k_is);(case c=>k_is);(case k=>k_is))
#print axioms PySem.Challenge.cw_besideseats_k81_seated_as_the_best_holds
