import PyProof.Rows.All
import Wide.All
import OpenK.AllK
import Wide.FinOn
import Lean
import KE.KMinKey
import PyProof.WalkInts
import PyProof.SeqI3
import PyProof.Rows.CallKwBuiltin
import KE.KIsAll
import PyProof.StrBlock
import PyProof.Rows.StrLen
import KE.KIntText
import PyProof.StrLawsFirst
import PyProof.StrLawsIn
import PyProof.InstStoreFacts
import PyProof.DictWalks
import PyProof.EqAt
import PyProof.EqKinds
import PyProof.TupleCall
import KE.KLam
import PySem.Challenge.RW_besideseats_k96_whole_desk_played
set_option Elab.async false
set_option linter.all false
set_option maxRecDepth 100000
set_option genSizeOf false
set_option compiler.extract_closed false
set_option bootstrap.genMatcherCode false
noncomputable section
local macro_rules|`(command|omit $xs*)=>do return Lean.mkNullNode (<-xs.mapM λ x=>`(command|def $(Lean.mkIdent<|.mkSimple s!"tw{(`PySem.Challenge.cw_besideseats_k96_whole_desk_played_holds++x.raw.getId).hash}"):ident:=()))
set_option maxHeartbeats 4000000
local macro_rules|`(∅)=>`(by first|decide|lia|simp)
def pt:Nat->Lean.Syntax->Lean.MacroM (Lean.TSyntax `rcasesPat)
|n+1,s=>match s with
 |`(⟨$xs,*⟩)=>do let ys<-xs.getElems.mapM (λ x=>do `(Lean.Parser.Tactic.rcasesPatLo|$(<-pt n x):rcasesPat));`(rcasesPat|⟨$[$ys],*⟩)
 |`($i:ident)=>`(rcasesPat|$i:ident)
 |_=>`(rcasesPat|_)
|_,_=>Lean.Macro.throwUnsupported
local macro_rules|`(tactic|let $p:term:=$e)=>do `(tactic|obtain $(<-pt 9 p):rcasesPat:=$e)
open Option renaming some→AC,none→Ch,getD_none→AB8
open Bool renaming false→AT,true→Da,and_assoc→AD1,and_false→AD2,and_true→AD6
open PySem.W renaming Frag→Db,nsIn→FM,Frag→FS,keepIn→Fa,findIn→GE,fnOf→PP,tabIn→Re,emptyDict→Rs,codeIn→SB,instObj→TW,plainGet→UV,lookIn→XV,hasDictIn→ac,makesIn→ce,takerIn→ci,hideAll_none→io,tabObj→jp,looks_clsIn→pc,isFn→AA3,plainOver→AA4,set_plain→AA5,handedIn→AB9,OpenLaw→AD0,CodeHd→AD5,mroIn→AD8
open List renaming replicate→Do,range→FB,lookup→Fk,zipWith→bv,getElem_toArray→im,getElem?_range→nw,map_inj_right→sK,set_cons_succ→sw,filter_congr→xz,findIdx_cons→zn,flatMap_cons→AA0,getElem_take→AA1,ext_getElem→AB2,filter_cons→AB3,getElem_set→AB4,isEmpty_iff→AB5,zipIdx_cons→AB6,countP_map→AC4,filter_map→AC5,foldl_cons→AC6,length_set→AC7,zipIdx_nil→AC8,foldl→AD3,forIn_nil→AD4
open PySem.Str renaming ofString→EQ
open PySem renaming wpAny→Ev,Within→AA6,Str→AE0
open False renaming elim→GM
open Sum renaming inr→GT,inl→ca
open ForInStep renaming yield→Gc
open PySem.Builtin.SmallTypes renaming nextOf→Go,ownedTupleIsFree→IN,ownedTupleHandOut→SZ
open PySem.Builtin.Str renaming occurrences→IR,strSub→No,occurrences→Os,subAt→Tl
open PySem.Heap renaming SameBut→Ix,ExtBut→gt,MadeExcOf→ii,get?_update_ne→mo,IsTuple→wv
open True renaming intro→KF
open PySem.Builtin.Builtins renaming bindParams→NE
open PySem.Builtin.Slice renaming slicePlaces→On,sliceAdjust→SL,sliceApplied→WP
open PySem.Builtin.Tuple renaming tupleExact→Op,tupleItemsOf→Wp
open PySem.SeqAt renaming EqAt→Pi,RcNeAt→UF,RcAt→ZB
open PySem.StrLaws renaming occBody→Ps
open PySem.Builtin.List renaming listTooLong→Sc
open PySem.Obj renaming mapFields→TD
open PySem.Value renaming none→Tk,isStrOf→AD9
open PySem.W.WData renaming weightAll→Uf,weight→WF
open Array renaming toList→bi,toList_append→lc
open Or renaming inr→tz,inl→AE3
namespace Lake
abbrev γ:=@List
abbrev δ:=@PySem.Addr
abbrev ε:=@Option
abbrev ζ:=@PySem.Value
abbrev η:=@PySem.Shared
abbrev θ:=@PySem.Expr
abbrev ι:=@PySem.Stmt
abbrev μ:=@PySem.Obj
abbrev ν:=@PySem.Heap
abbrev ξ:=@PySem.World
abbrev ο:=@PySem.Program
abbrev π:=@PySem.Keyword
abbrev ς:=@PySem.Scope
abbrev τ:=@PySem.Around
abbrev υ:=@PySem.FuncData
def T0:=@PySem.wpAny_bind
def o0:=@if_neg
def W1:=@if_pos
def M2:=@Nat.le_refl
def P3:=@PySem.wpAny_pure
def v4:=@List.map_cons
def v6:=@List.mem_map
def f8:=@PySem.Heap.get?_push_of_some
def A00:=@List.getElem?_eq_getElem
def A01:=@List.mem_cons
def A02:=@PySem.Heap.lt_size
def A03:=@List.getElem?_eq_some_iff
def A04:=@List.length_map
def A05:=@Option.some.inj
def A06:=@List.getElem?_map
def A07:=@List.mem_cons_of_mem
def A08:=@List.mem_cons_self
def A09:=@Ne.symm
def A10:=@List.size_toArray
def A11:=@Nat.le_trans
def A12:=@congrArg
def A13:=@Nat.ne_of_lt
def A14:=@List.nodup_cons
def A15:=@List.mem_singleton
def A16:=@List.map_map
def A17:=@PySem.Heap.get?_push_size
def A18:=@List.mem_of_getElem?
def A19:=@Nat.lt_of_lt_of_le
def A20:=@PySem.wpAny_mono
def A21:=@List.getElem?_append_left
def A22:=@PySem.W.mg_of
def A23:=@List.map_append
def A24:=@List.mem_range
def A25:=@PySem.sizeLine_eq
def A26:=@beq_iff_eq
def A27:=@List.length_cons
def A28:=@List.length_append
def A29:=@if_true
def A30:=@List.length_take
def A31:=@List.all_eq_true
def A32:=@decide_eq_false
def A33:=@List.getElem?_set_ne
def A34:=@PySem.wpAny_field
def A35:=@List.map_nil
def A36:=@List.getElem?_set
def A37:=@List.mem_append
def A38:=@Bool.and_eq_true
def A39:=@decide_eq_true
def A40:=@List.not_mem_nil
def A41:=@List.getElem?_set_self
def A42:=@List.mem_append_right
def A43:=@List.getElem?_append_right
def A44:=@List.mem_filter
def A45:=@Nat.ne_of_gt
def A46:=@or_false
def A47:=@Nat.zero_le
def A48:=@List.append_nil
def A49:=@List.getElem?_replicate
def A50:=@List.length_filter_le
def A51:=@Bool.eq_iff_iff
def A52:=@Bool.false_eq_true
def A53:=@PySem.W.mg_none_of
def A54:=@PySem.Heap.size_push
def A55:=@PySem.wpAny_holding
def A56:=@PySem.wpAny_seqItems
def A57:=@Nat.mul_le_mul
def A58:=@PySem.wpAny_truthy_bool
def A59:=@Nat.le_succ
def A60:=@if_false
def A61:=@PySem.call_meets
def A62:=@Option.map_some
def A63:=@Nat.lt_succ_self
def A64:=@PySem.mem_of_lookup
def A65:=@PySem.Obj.data_mapFields
def A66:=@Nat.min_eq_left
def A67:=@beq_eq_false_iff_ne
def A68:=@Option.isSome_iff_exists
def A69:=@PySem.wpAny_newObj_type
def A70:=@List.append_assoc
def A71:=@List.lookup_cons
def A72:=@not_or
def A73:=@List.getElem?_of_mem
def A74:=@Sum.inr.inj
def A75:=@Nat.le_of_lt
def A76:=@List.mem_append_left
def A77:=@List.length_replicate
def A78:=@List.replicate_succ
def A79:=@PySem.Heap.get?_update_other
def A80:=@List.eq_nil_of_length_eq_zero
def A81:=@List.range_succ
def A82:=@Nat.not_lt
def A83:=@List.filter_eq_self
def A84:=@List.filter_cons_of_neg
def A85:=@Nat.lt_irrefl
def A86:=@Bool.false_ne_true
def A87:=@PySem.codeAny_mono
def A88:=@PySem.wpAny_Call_Name_kw
def A89:=@Nat.add_comm
def A90:=@dif_pos
def A91:=@beq_self_eq_true
def A92:=@PySem.W.kia_one
def A93:=@List.drop_eq_getElem_cons
def A94:=@List.cons.injEq
def A95:=@Int.toNat_natCast
def A96:=@Nat.zero_add
def A97:=@PySem.wpAny_letGo
def A98:=@Option.some.injEq
def A99:=@PySem.wpAny_tryCatch
def B00:=@PySem.wpAny_loadPart_at
def B01:=@List.mem_flatMap
def B02:=@Nat.mul_le_mul_right
def B03:=@PySem.wpAny_call
def B04:=@PySem.wpAny_callSpecial?_slot
def B05:=@PyProof.Rows.slot_tuple_getitem
def B06:=@PySem.wpAny_call_entry
def B07:=@List.any_cons
def B08:=@List.map_congr_left
def B09:=@PySem.wpAny_pyIter_tuple
def B10:=@PySem.wpAny_pyIter_list
def B11:=@of_decide_eq_true
def B12:=@Nat.le_succ_of_le
def B13:=@PySem.Heap.get?_update_self
def B14:=@List.nodup_nil
def B15:=@PySem.wpAny_setField_rec
def B16:=@Int.toNat_of_nonneg
def B17:=@List.filter_cons_of_pos
def B18:=@List.filter_append
def B19:=@PySem.wpAny_passesOwn
def B20:=@PySem.W.callWith_K
def B21:=@PyProof.Rows.callWith_type1
def B22:=@PySem.typeIs_str
def B23:=@PySem.typeIs_int
def B24:=@List.flatten_cons
def B25:=@Nat.succ_mul
def B26:=@List.getElem_mem
def B27:=@List.length_range
def B28:=@PySem.wpAny_rule
def B29:=@List.getElem?_eq_none
def B30:=@List.lookup_cons_self
def B31:=@List.forIn_cons
def B32:=@PySem.wpAny_standAt
def B33:=@List.countP_cons
def B34:=@and_true
def B35:=@not_false_eq_true
def B36:=@List.take_of_length_le
def B37:=@decide_eq_true_eq
def B38:=@PySem.F.slot_tuple_mul
def B39:=@PySem.wpAny_ite_false
def B40:=@Array.getElem?_eq_some_iff
def B41:=@Int.ofNat.inj
def B42:=@List.pairwise_map
def B43:=@List.mem_of_mem_eraseIdx
def B44:=@PySem.Paired.length
def B45:=@PySem.Heap.get?_none_of_le
def B46:=@Array.length_toList
def B47:=@PySem.wpAny_execs_nil
def B48:=@Int.mul_one
def B49:=@PySem.concat_meets
def B50:=@List.length_drop
def B51:=@List.nil_append
def B52:=@PySem.F.slot_int_rmul
def B53:=@Option.map_eq_some_iff
def B54:=@PySem.tupleKind_room_in1
def B55:=@List.drop_length
def B56:=@List.all_map
def B58:=@PySem.F.plainAttrs_list
def B59:=@List.sum_cons
def B60:=@List.take_length
def B61:=@PySem.F.slot_tuple_iterator_next
def B62:=@PySem.wpAny_setField
def B63:=@PySem.Obj.isFreed_of_fields
def B64:=@PySem.wpAny_pyIter_enum
def B65:=@PySem.wpAny_onRaise
def B66:=@PySem.F.slot_zip_next
def B67:=@Bool.not_eq_true'
def B68:=@List.drop_eq_nil_of_le
def B69:=@PySem.plainId_quiet
def B70:=@io
def B71:=@List.nodup_append
def B72:=@Int.emod_lt_of_pos
def B73:=@Int.emod_nonneg
def B74:=@List.ext_getElem?
def B75:=@List.filterMap_cons
def B76:=@PySem.Calls.Name_function_global
def B77:=@List.mem_filterMap
def B78:=@PySem.W.plainGet_of
def B79:=@Nat.le_of_eq
def B80:=@PySem.W.methodCall_KW
def B81:=@List.of_mem_zip
def B82:=@PySem.wpAny_loadPart'
def B83:=@PySem.noFill_tuple_add
def B85:=@PySem.F.slot_tuple_add
def B86:=@PySem.F.entry_tuple_add
def B87:=@PySem.F.args_tuple_add_2
def B89:=@PySem.Calls.evalArgs_plain
def B90:=@List.length_singleton
def B91:=@List.length_nil
def B92:=@Option.isSome_map
def B93:=@List.getElem_range
def B94:=@List.mem_of_mem_take
def B95:=@Bool.true_and
def B96:=@PySem.PassesOwn.never
def B97:=@Nat.lt_succ_of_lt
def B98:=@PySem.SeqAt.EqAt.same
def B99:=@List.all_cons
def C00:=@List.getElem_of_mem
def C01:=@List.cons_append
def C02:=@List.take_add_one
def C03:=@PySem.Obj.cls_mapFields
def C04:=@PySem.AutoSeq1.wpAny_loadPart'
def C06:=@Nat.succ_ne_self
def C07:=@PySem.wpAny_updateSeq_pair
def C08:=@PySem.wpAny_pyIter_zip
def C09:=@Option.bind_some
def C10:=@PySem.F.plainAttrs_str
def C11:=@PySem.F.entry_tuple_mul
def C12:=@PySem.F.args_tuple_mul_2
def C13:=@PySem.codeAny_builtin
def C14:=@PySem.Around.under_plainId
def C15:=@PySem.wpAny_updateSeq
def C16:=@List.contains_cons
def C17:=@Bool.or_true
def C18:=@PySem.wpAny_isSubtype_exc
def C19:=@Prod.mk.injEq
def C20:=@List.mem_map_of_mem
def C21:=@Nat.add_assoc
def C22:=@List.pairwise_iff_getElem
def C23:=@List.pairwise_append
def C24:=@List.pairwise_lt_range
def C25:=@List.map_take
def C26:=@List.pairwise_cons
def C27:=@Nat.add_sub_cancel_left
def C28:=@List.map_drop
def C29:=@List.getElem?_drop
def C30:=@List.map_set
def C31:=@List.take_append_drop
def C36:=@PySem.plainObj_wpAny_Assign_Attribute
def C37:=@PySem.W.cellsFrom_some
def C38:=@List.getElem?_take_of_lt
def C41:=@PySem.wpAny_binaryOp_repeat_ref
def C42:=@PySem.F.slot_dict_pop
def C43:=@List.cons_lt_cons_iff
def C44:=@List.set_eq_of_length_le
def C45:=@List.range_succ_eq_map
def C46:=@PySem.F.entry_tuple_iterator_next
def C47:=@PySem.F.args_tuple_iterator_next_1
def C48:=@List.getElem?_cons_succ
def C49:=@List.getElem?_cons_zero
def C50:=@PySem.F.excBase_ValueError
def C51:=@List.eq_of_mem_replicate
def C52:=@Nat.le_mul_of_pos_right
def C53:=@List.set_getElem_self
def C54:=@List.pairwise_flatMap
def C55:=@List.Pairwise.imp_of_mem
def C56:=@List.mem_or_eq_of_mem_set
def C57:=@List.eraseIdx_cons_succ
def C58:=@List.dropLast_concat_getLast
def C59:=@List.pairwise_singleton
def C60:=@List.filter_eq_nil_iff
def C61:=@List.getElem_cons_drop
def C62:=@Int.mul_le_mul_of_nonneg_right
section S0
open PySem PySem.Spec PyProof.Rows
namespace L2
abbrev Se(a:θ)(es:γ θ)(E:PySem.Env):Prop:=starEach (a::es) E=(AT,eval a E)::starEach es E
abbrev Nd(x:Str):Prop:=(x==("__debug__":Str))=AT
abbrev Pn(p:Pos)(es:γ θ)(E:PySem.Env):Prop:=(backTo p<|starEach es E).any (·.1)=AT
end L2
open L2 (Se Nd Pn)
namespace L2
abbrev Mt(o:θ)(m:Str)(apos:Pos)(es:γ θ)(pos:Pos)(pl:Sem Bool)(E:PySem.Env):Prop:=eval (.Call (.Attribute o m apos) es [] pos) E=(do
 let ov ←eval o E
 standAt apos.atName
 let (f,first) ←holding [ov] (getMethod ov m pl)
 callWith pos f first (backTo pos<|starEach es E) (backToKw pos<|keywordEach [] E))
abbrev Fi(i:θ)(E:PySem.Env):Prop:=∀x,foldedSetIterable i E x=pure x
abbrev Sw(e t i:θ)(f:γ θ)(s:PySem.Scope)(p:Pos)(x:Str)(q r:Pos)(E:PySem.Env):Prop:=swapsWith (.ListComp e [⟨t,i,f,0⟩] s p) (AC<|.Name x q) r.line E=pure Da
abbrev Bk(p:Pos)(a:θ)(E:PySem.Env):Prop:=backTo p (starEach (a::[]) E)=(AT,eval a E)::backTo p (starEach [] E)
abbrev Sn(a:θ)(x:Str)(q p:Pos)(E:PySem.Env):Prop:=swapsWith a (AC<|.Name x q) p.line E=pure AT
end L2
open L2 (Mt Fi Sw Bk Sn)
namespace L2
abbrev Key:=Sum Int Str
def v?:Key->ζ->Bool
|.inl k,v=>Value.isInt k v
|.inr x,v=>AD9 x v
def aa8(w:ξ):Key->Int
|.inl k=>hashInt k
|.inr x=>hashStr w x
theorem cL:∀{k}{v},v? k v=Da->(∃i t,k=ca i/\v=Value.int i t)\/(∃x t,k=GT x/\v=Value.str x t)
|.inl i,v,h=>by let⟨t,e⟩:=Value.isInt_shape h;exact .inl ⟨i,t,rfl,e⟩
|.inr x,v,h=>by let⟨t,e⟩:=Value.isStrOf_shape h;exact .inr ⟨x,t,rfl,e⟩
theorem Gf(i:Int)(t:Tok):v? (.inl i) (.int i t)=Da:=by simp[v?,Value.isInt]
theorem Ge(x:Str)(t:Tok):v? (.inr x) (.str x t)=Da:=by simp[v?,AD9]
theorem TB(a b:Int):decide ((ca a:Key)=ca b)=(a==b):=by
 by_cases e:a=b
 .subst e;simp
 .have h:¬(ca a:Key)=ca b:=λ q=>e<|Sum.inl.inj q;rw[A32 h];exact(A67.mpr e).symm
theorem Tw(a b:Str):decide ((GT a:Key)=GT b)=decide (a=b):=by
 by_cases e:a=b
 .subst e;simp
 .have h:¬(GT a:Key)=GT b:=λ q=>e<|A74 q;rw[A32 h,A32 e]
theorem Tz(a:Int)(b:Str):decide ((ca a)=GT b)=AT:=A32 λ q=>nomatch q
theorem Tx(a:Str)(b:Int):decide ((GT a)=ca b)=AT:=A32 λ q=>nomatch q
def d?(prog:ο)(w:ξ):PySem.KeyKind prog w Key where
 is:=v?
 hash:=aa8 w
 inj:=λ v a b ha hb=>by
  rcases cL ha with⟨i,t,rfl,rfl⟩|⟨x,t,rfl,rfl⟩
  .rcases cL hb with⟨j,u,rfl,e⟩|⟨y,u,rfl,e⟩
   .injection e with e1 _;rw[e1]
   .exact nomatch e
  .rcases cL hb with⟨j,u,rfl,e⟩|⟨y,u,rfl,e⟩
   .exact nomatch e
   .injection e with e1 _;rw[e1]
 byValue:=λ k v h=>by rcases cL h with⟨i,t,rfl,rfl⟩|⟨x,t,rfl,rfl⟩<;>rfl
 pyHash:=λ hv h=>by
  rcases cL hv with⟨i,t,rfl,rfl⟩|⟨x,t,rfl,rfl⟩
  .exact wpAny_pyHash_int h
  .exact wpAny_pyHash_str h
 eqBool:=λ hu hv h=>by
  rcases cL hu with⟨i,t,rfl,rfl⟩|⟨x,t,rfl,rfl⟩
  .rcases cL hv with⟨j,u,rfl,rfl⟩|⟨y,u,rfl,rfl⟩
   .rw[TB]at h;exact wpAny_eqBool_int h
   .rw[Tz]at h;exact SeqAt.EqAt.int_str i t y u _ _ _ _ h
  .rcases cL hv with⟨j,u,rfl,rfl⟩|⟨y,u,rfl,rfl⟩
   .rw[Tx]at h;exact SeqAt.EqAt.str_int x t j u _ _ _ _ h
   .rw[Tw]at h;exact wpAny_eqBool_str h
 «strs»:=λ k x t v h=>by
  rcases cL h with⟨i,u,rfl,e⟩|⟨y,u,rfl,e⟩
  .exact nomatch e
  .injection e with e1 _
   subst e1;cases v<;>rfl
theorem z8(prog:ο)(w:ξ)(i:Int)(t:Tok):(d? prog w).is (.inl i) (.int i t)=Da:=Gf i t
theorem z7(prog:ο)(w:ξ)(x:Str)(t:Tok):(d? prog w).is (.inr x) (.str x t)=Da:=Ge x t
inductive V where
|non|bl (b:Bool)|int (i:Int)|str (x:Str)|VY (b:Array UInt8)|_I (b:UInt64)|ref (a:Addr)|ty (n:String)
deriving DecidableEq
def RelV:V->ζ->Prop
|.non,u=>u=Tk
|.bl b,u=>u=Value.bool b
|.int i,u=>∃t,u=Value.int i t
|.str x,u=>∃t,u=Value.str x t
|.VY b,u=>∃t,u=Value.bytes b t
|._I b,u=>∃t,u=Value.float b t
|.ref a,u=>u=Value.ref a
|.ty n,u=>u=Value.type n
abbrev Vals:γ V->γ ζ->Prop:=Paired RelV
theorem Vals.length(r:Vals xs us):xs.length=us.length:=B44 r
theorem Vals.get:∀{xs}{us}{i:Nat}{x},Vals xs us->xs[i]?=AC x->∃u,us[i]?=AC u/\RelV x u
|_,_,_,_,.nil,e=>by simp at e
|_,_,0,_,.cons r _,e=>by simp at e;subst e;exact⟨_,rfl,r⟩
|_,_,i+1,x,.cons _ t,e=>by let⟨u,h1,h2⟩:=Vals.get (i:=i) (x:=x) t (by simpa using e);exact⟨u,by simpa using h1,h2⟩
theorem Vals.append:∀{xs ys}{us ws},Vals xs us->Vals ys ws->Vals (xs++ys) (us++ws):=by
 intro xs ys us ws h s
 induction h with
 |nil=>exact s
 |cons r t ih=>exact .cons r ih
theorem Vals.take:∀{xs}{us} n,Vals xs us->Vals (xs.take n) (us.take n)
|_,_,0,_=>.nil
|_,_,_+1,.nil=>.nil
|_,_,n+1,.cons r t=>.cons r<|Vals.take n t
theorem Vals.drop:∀{xs}{us} n,Vals xs us->Vals (xs.drop n) (us.drop n)
|_,_,0,r=>r
|_,_,_+1,.nil=>.nil
|_,_,n+1,.cons _ t=>Vals.drop n t
def kQ:ε V->ε ζ->Prop
|some v,AC u=>RelV v u
|none,Ch=>True
|_,_=>False
def KV{κ:Type}:γ (κ×V)->γ (κ×ζ)->Prop:=Paired λ(p:κ×V)(q:κ×ζ)=>p.1=q.1/\RelV p.2 q.2
def kV:Key->V
|.inl i=>.int i
|.inr x=>.str x
inductive HO where
|lst (xs:List V)
|tup (xs:List V)
|dK (aO:List (Key×V))|dT (aO:List (List Key×V))
|set (S:Int->Bool) (n:Nat)
|ins (C dx:Addr) (fs:List (Str×V))
|own (x:Addr)
|xd (fs:List (Str×V))
|met (f x:Addr)
|ZW (lo hi:Int)
|eJ (o:Obj) (u:HO)
|HX (q:Str)
|Md (q:Str)
 |ext (φ:Heap->Prop)
abbrev Hp:=δ->ε HO
def V0:HO->Prop
|.HX _=>True
|.Md _=>True
|_=>False
def upd(H:Hp)(a:δ)(o:HO):Hp:=λ b=>if b=a then AC o else H b
theorem aA:upd H a o a=AC o:=by unfold upd;rw[W1 rfl]
theorem au(h:b≠a):upd H a o b=H b:=by unfold upd;rw[o0 h]
theorem QY{H:Hp}(h:H a=AC o)(h':H b=AC u)(d:o≠u):a≠b:=by intro e;subst e;rw[h]at h';exact d<|A05 h'
theorem aT{H:Hp}(h:H a=AC o)(h':H b=Ch):a≠b:=by intro e;subst e;rw[h]at h';cases h'
section
variable(P:ο)(w:ξ)
def pq(h:ν)(a:δ)(xs:Array ζ):Prop:=∃n,h.get? a=AC {cls:=.type "tuple",data:=.seq xs n}
theorem pq.is(p:pq h a xs):IsTup h a xs:=by let⟨n,e⟩:=p;exact⟨_,e,rfl,n,rfl⟩
theorem pq.new(h:ν)(xs:Array ζ):pq (h.push {cls:=.type "tuple",data:=.seq xs}) h.objs.size xs:=⟨_,A17 _ rfl⟩
def d7(H:Hp)(h:ν)(a:δ):HO->Prop
|.lst xs=>xs.length<=sizeLine/\∃(aW:γ ζ)(n:Nat),Vals xs aW/\h.get? a=AC {cls:=.type "list",data:=.seq aW.toArray n}
|.tup xs=>xs.length<=sizeLine/\∃aW:γ ζ,Vals xs aW/\pq h a aW.toArray
|.dK aO=>aO.length<=sizeLine/\(a==sysModules)=AT/\∃vs,KV aO vs/\h.DictOf (d? P w) a vs
|.dT aO=>aO.length<=sizeLine/\(a==sysModules)=AT/\∃xs:γ (γ Key×δ×ζ),
 Paired (λ(p:γ Key×V)(q:γ Key×δ×ζ)=>p.1=q.1/\H q.2.1=AC (.tup<|p.1.map kV)/\RelV p.2 q.2.2) aO xs /\
 ∃o es ep,h.get? a=AC o/\o.ExactDict/\o.data=.dict es ep/\es.toList=xs.map (entryOfKey<|tupleKind<|d? P w)/\(xs.map (·.1)).Nodup
|.set S n=>h.SetOf (intKind P w) a S n
|.ins C dx fs=>H dx=AC (.own a)/\fs.length<=1000/\dx≠a/\h.get? a=AC (TW C dx) /\
 ∃mA,h.Ns1 dx mA/\(∀f,kQ (fs.lookup f) (mA f))/\AA6 mA (fs.map (·.1))
|.own _=>∃o,h.get? a=AC o
|.xd fs=>∃mA,h.Ns1 a mA/\∀f,kQ (fs.lookup f) (mA f)
|.ZW lo hi=>∃t u v,h.get? a=AC {cls:=.type "range",data:=.fields #[.int lo t,.int hi u,.int 1 v]}
|.eJ o u=>h.get? a=AC o/\d7 H h a u
|.HX q=>∃ps:Array ζ,h.get? a=AC {cls:=.none,data:=.fields ps}/\TriplesOk ps.toList/\∀pos cv,codeAmong pos ps.toList=AC cv->∃c,cv=.ref c/\H c=AC (.Md q)
|.Md q=>h.CodeRec (.ref a) q
|.met f x=>h.get? a=AC (PySem.W.methodObj (.ref f)<|.ref x)
|.ext φ=>φ h/\(∃o,h.get? a=AC o)/\∀h1 h2:ν,φ h1->(∀o,h1.get? a=AC o->h2.get? a=AC o)->φ h2
def kR(H:Hp)(h:ν):Prop:=∀a o,H a=AC o->d7 P w H h a o
end
theorem d7.lt(x:d7 P w H h a o):a<h.objs.size:=by
 cases o with
 |lst xs=>let⟨_,_,_,_,e⟩:=x;exact A02 e
 |tup xs=>let⟨_,_,_,p⟩:=x;exact p.is.lt
 |dK aO=>let⟨_,_,_,_,o,_,_,e,_⟩:=x;exact A02 e
 |dT aO=>let⟨_,_,_,_,o,_,_,e,_⟩:=x;exact A02 e
 |set S n=>let⟨o,_,_,_,e,_⟩:=x;exact A02 e
 |ins C dx fs=>let⟨_,_,_,e,_⟩:=x;exact A02 e
 |own y=>let⟨_,e⟩:=x;exact A02 e
 |xd fs=>let⟨_,⟨_,_,_,e,_⟩,_⟩:=x;exact A02 e
 |ZW lo hi=>let⟨_,_,_,e⟩:=x;exact A02 e
 |eJ ob u=>let⟨e,_⟩:=x;exact A02 e
 |HX q=>let⟨_,e,_⟩:=x;exact A02 e
 |Md q=>let⟨_,_,_,_,e1,e2,_⟩:=x;cases e1;exact A02 e2
 |met f y=>exact A02<|x
 |ext φ=>let⟨_,⟨_,e⟩,_⟩:=x;exact A02 e
theorem Paired.JC:∀{l₁}{l₂},Paired F l₁ l₂->(∀a b,F a b->G a b)->Paired G l₁ l₂:=by
 intro a b h f
 induction h with
 |nil=>exact .nil
 |cons r t ih=>exact .cons (f _ _ r) ih
theorem d7.rh(x:d7 P w H h a o)(k:∀b u,(b=a\/H b=AC (.own a))->h.get? b=AC u->h'.get? b=AC u)
 (ho:∀b,H b=AC (.own a)->H' b=AC (.own a)) (ht:∀b xs,H b=AC (.tup xs)->H' b=AC (.tup xs)) (hp:∀b u,V0 u->H b=AC u->H' b=AC u):d7 P w H' h' a o:=by
 induction o with
 |lst xs=>let⟨z,aW,n,r,e⟩:=x;exact⟨z,aW,n,r,k _ _ (.inl rfl) e⟩
 |tup xs=>let⟨z,aW,r,ob,e⟩:=x;exact⟨z,aW,r,ob,k _ _ (.inl rfl) e⟩
 |dK aO=>let⟨z,y,vs,r,ob,es,ep,e,c⟩:=x;exact⟨z,y,vs,r,ob,es,ep,k _ _ (.inl rfl) e,c⟩
 |dT aO=>let⟨z,y,xs,r,ob,es,ep,e,c⟩:=x;exact⟨z,y,xs,Paired.JC r λ p q z=>⟨z.1,ht _ _ z.2.1,z.2.2⟩,ob,es,ep,k _ _ (.inl rfl) e,c⟩
 |set S n=>let⟨ob,es,ep,t,e,c⟩:=x;exact⟨ob,es,ep,t,k _ _ (.inl rfl) e,c⟩
 |ins C dx fs=>let⟨d,z,ne,e,mA,⟨od,es,ep,e2,c⟩,r⟩:=x;exact⟨ho _ d,z,ne,k _ _ (.inl rfl) e,mA,⟨od,es,ep,k _ _ (.inr d) e2,c⟩,r⟩
 |own y=>let⟨ob,e⟩:=x;exact⟨ob,k _ _ (.inl rfl) e⟩
 |xd fs=>let⟨mA,⟨od,es,ep,e,c⟩,r⟩:=x;exact⟨mA,⟨od,es,ep,k _ _ (.inl rfl) e,c⟩,r⟩
 |ZW lo hi=>let⟨t,u,v,e⟩:=x;exact⟨t,u,v,k _ _ (.inl rfl) e⟩
 |eJ ob u ih=>let⟨e,q⟩:=x;exact⟨k _ _ (.inl rfl) e,ih q⟩
 |HX q=>let⟨ps,e,t,g⟩:=x;exact⟨ps,k a _ (.inl rfl) e,t,λ pos cv r=>let ⟨c,e1,e2⟩:=g pos cv r;⟨c,e1,hp c _ trivial e2⟩⟩
 |Md q=>let⟨c,oc,vs,t,e1,e2,r⟩:=x;cases e1;exact⟨a,oc,vs,t,rfl,k a _ (.inl rfl) e2,r⟩
 |met f y=>have e:=x;exact k a _ (.inl rfl) e
 |ext φ=>let⟨p,⟨o,e⟩,st⟩:=x;exact⟨st _ _ p λ o q=>k _ _ (.inl rfl) q,⟨o,k _ _ (.inl rfl) e⟩,st⟩
theorem kR.lt(x:kR P w H h)(e:H a=AC o):a<h.objs.size:=(x a o e).lt
theorem kR.fresh(x:kR P w H h)(e:h.objs.size<=a):H a=Ch:=by
 cases q:H a with
 |none=>rfl
 |some u=>exact absurd (A19 (x.lt q) e)<|A85 _
theorem kR.kept(x:kR P w H h)(k:∀b u,h.get? b=AC u->h'.get? b=AC u):kR P w H h':=λ a o e=>(x a o e).rh (λ b u _ q=>k b u q) (λ _ q=>q) (λ _ _ q=>q) λ _ _ _ q=>q
theorem kR.laid(x:kR P w H h)(k:∀b u,h.get? b=AC u->h'.get? b=AC u)(hp:h.objs.size<=a)(new:d7 P w (upd H a o) h' a o):kR P w (upd H a o) h':=λ b u e=>by
 have hn:=x.fresh hp;by_cases hb:b=a
 .subst hb;rw[aA]at e;cases e;exact new
 .rw[au hb]at e;exact(x b u e).rh (λ c v _ q=>k c v q) (λ c q=>by rw[au<|aT q hn];exact q) (λ c xs q=>by rw[au<|aT q hn];exact q) λ c v _ q=>by rw[au<|aT q hn];exact q
def Rd(H:Hp)(a:δ)(u:HO):Prop:=H a=AC u\/∃o,H a=AC (.eJ o u)
theorem Rd.ok(r:Rd H a u)(x:kR P w H h):d7 P w H h a u:=by
 rcases r with r|⟨o,r⟩
 .exact x a u r
 .let⟨_,q⟩:=x a _ r;exact q
def Zq:ε HO->Prop
|some<|.lst _=>True
|some<|.dK _=>True
|some<|.dT _=>True
|some<|.set _ _=>True
|some<|.ins _ _ _=>True
|some<|.ext _=>True
|_=>False
theorem kR.write(ok:kR P w H h)(mu:Zq (H x))(he:e=x\/H e=AC (.own x))(k:∀ b u,b≠e->h.get? b=AC u->h'.get? b=AC u)(VN:∃ u,h'.get? e=AC u)
 (new:d7 P w (upd H x o') h' x o'):kR P w (upd H x o') h':=λ b u q=>by
 have Xj:∀c y,H c=AC (.own y)->c≠x:=λ c y r z=>by subst z;rw[r]at mu;exact mu
 have aaR:∀c xs,H c=AC (.tup xs)->c≠x:=λ c xs r z=>by subst z;rw[r]at mu;exact mu
 have aaS:∀c u,V0 u->H c=AC u->c≠x:=λ c u p r z=>by subst z;rw[r]at mu;cases u<;>first|exact p|exact mu
 by_cases hb:b=x
 .subst hb;rw[aA]at q;cases q;exact new
 .rw[au hb]at q;by_cases Uh:b=e
  .have q':H b=AC (.own x):=by
    rcases he with z|z
    .exact absurd (Uh.trans z) hb
    .rw[Uh];exact z
   rw[q]at q';cases q';let⟨v,hv⟩:=VN;exact⟨v,by rw[Uh];exact hv⟩
  .refine(ok b u q).rh (λ c v hc r=>k c v ?_ r) (λ c r=>by rw[au<|Xj c b r];exact r) (λ c xs r=>by rw[au<|aaR c xs r];exact r) λ c v p r=>by rw[au<|aaS c v p r];exact r
   rcases hc with rfl|hc
   .exact Uh
   .rintro rfl;rcases he with z|z
    .exact Xj c b hc z
    .rw[hc]at z;cases z;exact hb rfl
structure Un(fs ex:List Addr)(H H':Hp)(h h':Heap):Prop where
 keep:∀b o,h.get? b=AC o->H b=Ch->b∉fs->b∉ex->h'.get? b=AC o
 slot:∀b o,h.get? b=AC o->H b=Ch->b∈fs->b∉ex->∃sl,h'.get? b=AC {o with slots:=sl}
 free:∀b o,h.get? b=AC o->H b=Ch->b∉ex->H' b=Ch
 there:∀b o,h.get? b=AC o->b∉ex->∃o',h'.get? b=AC o'
 sI:∀b xs,H b=AC (.tup xs)->H' b=AC (.tup xs)
 rC:∀b o u,H b=AC (.eJ o u)->H' b=AC (.eJ o u)
 n6:∀b u,V0 u->H b=AC u->H' b=AC u
theorem Un.any(u:Un fs ex H H1 h h1)(q:h.get? b=AC ob)(n:H b=Ch)(hx:b∉ex):∃sl,h1.get? b=AC {ob with slots:=sl}:=by
 by_cases hb:b∈fs
 .exact u.slot b ob q n hb hx
 .exact⟨_,u.keep b ob q n hb hx⟩
theorem Un.kept(k:∀b u,h.get? b=AC u->h'.get? b=AC u):Un fs ex H H h h':=
 ⟨λ b ob q _ _ _=>k b ob q,λ b ob q _ _ _=>⟨_,k b ob q⟩,λ _ _ _ n _=>n,λ b ob q _=>⟨ob,k b ob q⟩,λ _ _ q=>q,λ _ _ _ q=>q,λ _ _ _ q=>q⟩
theorem Un.refl:Un fs ex H H h h:=Un.kept λ _ _ q=>q
theorem Un.laid(k:∀b u,h.get? b=AC u->h'.get? b=AC u)(hp:h.objs.size<=a)(hn:H a=Ch):Un fs ex H (upd H a o) h h' where
 keep:=λ b u q _ _ _=>k b u q
 slot:=λ b u q _ _ _=>⟨_,k b u q⟩
 free:=λ b u q n _=>by rw[au<|A13<|A19 (A02 q) hp];exact n
 there:=λ b u q _=>⟨u,k b u q⟩
 sI:=λ b xs q=>by rw[au<|aT q hn];exact q
 rC:=λ b u xs q=>by rw[au<|aT q hn];exact q
 n6:=λ b u _ q=>by rw[au<|aT q hn];exact q
theorem Un.write(mu:Zq (H x))(he:e=x\/H e=AC (.own x))(k:∀b u,b≠e->h.get? b=AC u->h'.get? b=AC u)(VN:∃u,h'.get? e=AC u):Un fs ex H (upd H x o) h h':=by
 have hx:∀b,H b=Ch->b≠x:=λ b n z=>by subst z;rw[n]at mu;exact mu
 have hb:∀b,H b=Ch->b≠e:=λ b n z=>by
  subst z;rcases he with r|r
  .exact hx b n r
  .rw[n]at r;cases r
 have hm:∀b u,H b=AC u->¬Zq (AC u)->b≠x:=λ b u q nm z=>by subst z;rw[q]at mu;exact nm mu
 refine⟨λ b u q n _ _=>k b u (hb b n) q,λ b u q n _ _=>⟨_,k b u (hb b n) q⟩,λ b u q n _=>by rw[au<|hx b n];exact n,λ b u q _=>?_,
  λ b xs q=>by rw[au<|hm b _ q λ z=>z];exact q,λ b u xs q=>by rw[au<|hm b _ q λ z=>z];exact q,λ b u p q=>by rw[au<|hm b _ q λ z=>by cases u<;>first|exact p|exact z];exact q⟩
 by_cases Uh:b=e
 .subst Uh;exact VN
 .exact⟨u,k b u Uh q⟩
def RR(h:ν)(H:Hp):γ δ:=(FB h.objs.size).filter λ a=>(H a).isSome
def u7(h:ν)(H:Hp):ν:=PySem.W.hideAll h<|RR h H
theorem Gs(h:ν)(H:Hp):(u7 h H).objs.size=h.objs.size:=PySem.W.hideAll_size _ _
theorem J_(e:h.get? b=AC o)(n:H b=Ch):(u7 h H).get? b=AC o:=
 PySem.W.hideAll_get _ e λ hm=>by have q:=(A44.mp hm).2;rw[n]at q;simp at q
theorem NH(e:(u7 h H).get? b=AC o):h.get? b=AC o/\H b=Ch:=by
 have e':=PySem.W.of_hideAll _ e;refine⟨e',?_⟩;cases q:H b with
 |none=>rfl
 |some x=>have hm:b∈RR h H:=A44.mpr ⟨A24.mpr<|A02 e',by simp[q]⟩;have z:(u7 h H).get? b=Ch:=io _ hm;rw[z]at e;cases e
def P7(g h:ν)(L:δ):γ (δ×μ):=(FB h.objs.size).filterMap λ a=>if a=L\/(g.get? a).isSome=Da then Ch else(h.get? a).map λ o=>(a,o)
def rest(g h:ν)(L d:δ):γ (δ×μ):=(P7 g h L).filter λ p=>decide<|p.1≠d
structure Mod(K:Db)(mg:Str->Option Value)(base:Heap):Prop where
 Og:K.In base
 glob:base.Ns mainGlobals mg
 blt:∃mb,base.Ns builtinsNs mb/\∀x:Str,x≠ "__name__" -> mb x=bootBuiltins x
 nolimit:base.NoLimit
def cK:γ Str:=["best_among","paper_beside"]
def iW(x:Str):Str:=x++ ".<locals>."++ "<lambda>"
def BMain(mg:Str->ε ζ)(base:ν):Prop:=∃bm ob,mg "__builtins__"=AC (.ref bm)/\bm≠builtinsNs/\base.get? bm=AC ob/\ob.cls=.type "module" /\ ob.dict=AC builtinsNs/\ob.data=.plain
def wV(K:Db)(mg:Str->ε ζ)(base:ν)(H:Hp):Prop:=∀x∈cK,∀c P,Re K x=AC (c,P)->H P=AC (.HX<|iW x)/\AD5 base c P/\BMain mg base
theorem wV.up{K:Db}(t:wV K mg base H)(u:∀b o,V0 o->H b=AC o->H' b=AC o):wV K mg base H':=λ x hx c P e=>⟨u _ _ trivial (t x hx c P e).1,(t x hx c P e).2⟩
structure Cx where
 prog:Program
 w:World
 K:Db
 mg:Str->Option Value
 base:Heap
 A:Around
 N:List Str
 s₀:Shared
 H₀:Hp
 env:Env
 outer:List Env
 stack:List Env
 ex:List Addr
 fn:Str->Bool
 calm:Bool
 pn:List (Addr×Obj)
 xe:Value->Shared->Prop
def t_(l:γ Env):γ δ:=l.filterMap (·.frame)
abbrev Cx.fs(X:Cx):γ δ:=t_ X.outer
def LG(sc:ς)(x:Str):Prop:=sc.names.lookup x=AC .local\/sc.names.lookup x=AC .cell\/sc.names.lookup x=AC .free
def Loc(sc:ς)(x:Str):Prop:=sc.names.lookup x=AC .local\/sc.names.lookup x=AC .cell
def Look(env:Env)(h:ν)(m:Str->ε ζ)(x:Str)(u:ζ):Prop:=
 (env.kindOf x=AC .local/\m x=AC u)\/((env.kindOf x=AC .cell\/env.kindOf x=AC .free)/\∃c,env.cells.lookup x=AC c/\h.IsCell c (AC u))
structure Cx.Ok(X:Cx):Prop where
 mod:Mod X.K X.mg X.base
 kind:X.env.scope.kind=.function
 glob:X.env.globals=mainGlobals
 blt:X.env.builtins=builtinsNs
 above:X.s₀.heap.objs.size<=X.env.locals
 inj:∀x y c,X.env.cells.lookup x=AC c->X.env.cells.lookup y=AC c->x=y
 has:∀x,(X.env.kindOf x=AC .cell\/X.env.kindOf x=AC .free)->∃c,X.env.cells.lookup x=AC c
 U4:∀x c,X.fn x=Da->X.env.cells.lookup x=AC c->X.s₀.heap.objs.size<=c
 hd:X.calm=Da->X.A.handled=Ch
 frames:X.A.frames=AC X.stack
 LR:X.stack=X.outer\/(X.stack=X.env::X.outer/\X.env.frame=AC X.env.locals)
 _N:∀b∈X.ex,b≠X.env.locals/\∀x c,X.env.cells.lookup x=AC c->c≠b
 bs:∀b o,X.base.get? b=AC o->X.s₀.heap.get? b=AC o/\X.H₀ b=Ch
 Lq:X.base.objs.size<=X.s₀.heap.objs.size
 zY:∀b o,X.base.get? b=AC o->b∉X.ex
 GC:∀b∈X.ex,b∉X.fs
 mw:X.s₀.heap.FunFrames X.base X.outer
 OV:∀b∈X.fs,X.H₀ b=Ch
structure Inv(X:Cx)(χ:List (Addr×Obj))(σ:List (Option V))(H:Hp)(s:Shared):Prop where
 ok:X.Ok
 os:s.os=X.s₀.os
 bare:AllBare s.gens
 base:Un X.fs X.ex X.H₀ H X.s₀.heap s.heap
 loc:∃m,s.heap.Ns X.env.locals m/\∀(i:Nat)(x:Str)(v:V),X.N[i]?=AC x->σ[i]?=AC (AC v)->LG X.env.scope x->∃u,RelV v u/\Look X.env s.heap m x u
 cell:∀x c,X.env.cells.lookup x=AC c->∃v,s.heap.IsCell c v
 free:H X.env.locals=Ch
 gq:∀x c,X.env.cells.lookup x=AC c->H c=Ch
 pin:∀p∈X.pn++χ,s.heap.get? p.1=AC p.2/\H p.1=Ch/\p.1≠X.env.locals/\p.1∉X.fs/\∀v,p.2.data≠.cell v
 bG:kR X.prog X.w H s.heap
 len:σ.length=X.N.length
 tab:wV X.K X.mg X.base H
section
variable{X:Cx}
theorem Cx.Ok.aaV(ok:X.Ok)(e:X.base.get? b=AC o):b∉X.fs:=λ hb=>by have:=(ok.mw.mem hb).1;rw[e]at this;cases this
theorem Inv.bs(I:Inv X χ σ H s):∀b o,X.base.get? b=AC o->s.heap.get? b=AC o/\H b=Ch:=λ b o e=>⟨I.base.keep b o (I.ok.bs b o e).1 (I.ok.bs b o e).2 (I.ok.aaV e)<|I.ok.zY b o e,I.base.free b o (I.ok.bs b o e).1 (I.ok.bs b o e).2<|I.ok.zY b o e⟩
theorem Inv.bk(I:Inv X χ σ H s):∀b o,X.base.get? b=AC o->s.heap.get? b=AC o:=λ b o e=>(I.bs b o e).1
theorem Inv.mod(I:Inv X χ σ H s):Mod X.K X.mg X.base:=I.ok.mod
theorem Inv.lX(I:Inv X χ σ H s):X.K.In s.heap:=I.ok.mod.Og.keeps I.bk
theorem Inv.nolimit(I:Inv X χ σ H s):s.heap.NoLimit:=I.ok.mod.nolimit.keeps I.bk
theorem Inv.lt(I:Inv X χ σ H s):X.env.locals<s.heap.objs.size:=by let⟨_,hn,_⟩:=I.loc;exact hn.lt
theorem Inv.sz(I:Inv X χ σ H s):X.s₀.heap.objs.size<=s.heap.objs.size:=A11 I.ok.above<|A75 I.lt
theorem Inv.S6(I:Inv X χ σ H s)(h:s.heap.objs.size<=a):a∉X.fs:=λ hb=>by let⟨_,o,ho,_⟩:=I.ok.mw.mem hb;exact absurd (A19 (A02 ho)<|A11 I.sz h)<|A85 _
theorem Inv.PJ(I:Inv X χ σ H s):∀x c,X.env.cells.lookup x=AC c->c≠X.env.locals:=λ x c e z=>by let⟨v,o,ho,hd⟩:=I.cell x c e;let⟨m,⟨o',es,ep,oM,pC,_⟩,_⟩:=I.loc;rw[z,oM]at ho;cases ho;rw[pC]at hd;cases hd
theorem Inv.mw(I:Inv X χ σ H s):s.heap.FunFrames X.base X.outer:=by
 have all:∀l,(∀b∈t_ l,b∈X.fs)->X.s₀.heap.FunFrames X.base l->s.heap.FunFrames X.base l:=by
  intro l
  induction l with
  |nil=>intro _ _;trivial
  |cons env r ih=>intro hs hl;let⟨hk,⟨L,o,hf,hn,ho,hd⟩,hr⟩:=hl;have hL:=hs L (by unfold t_;rw[B75,hf];exact A08);let⟨sl,e⟩:=I.base.slot L o ho (I.ok.OV L hL) hL λ z=>I.ok.GC L z hL;exact⟨hk,⟨L,_,hf,hn,e,hd⟩,ih (λ b hb=>hs b (by unfold t_;rw[B75,hf];exact A07 _ hb)) hr⟩
 exact all _ (λ _ hb=>hb) I.ok.mw
theorem Inv.stack(I:Inv X χ σ H s):s.heap.FunFrames X.base X.stack:=by
 rcases I.ok.LR with e|⟨e,hf⟩
 .rw[e];exact I.mw
 .rw[e];let⟨m,hn,_⟩:=I.loc;refine .cons (by rw[I.ok.kind];decide) hf hn ?_ I.mw;exact B45<|A11 I.ok.Lq I.ok.above
theorem Inv.pL(I:Inv X χ σ H s):∀b∈t_ X.stack,b∈X.env.locals::X.fs:=λ b hb=>by
 rcases I.ok.LR with e|⟨e,hf⟩
 .rw[e]at hb;exact A07 _ hb
 .rw[e]at hb;unfold t_ at hb;rw[B75,hf]at hb;exact hb
theorem Inv.rJ(I:Inv X χ σ H s):∀b∈t_ X.stack,H b=Ch:=λ b hb=>by
 rcases A01.mp (I.pL b hb)with e|hb
 .rw[e];exact I.free
 .let⟨_,o,ho,_⟩:=I.ok.mw.mem hb;exact I.base.free b o ho (I.ok.OV b hb) λ z=>I.ok.GC b z hb
theorem Inv.step{ch:γ δ}(I:Inv X χ σ H s)
 (Bb:∀b∈ch,(b∈X.ex\/X.s₀.heap.objs.size<=b)/\b≠X.env.locals/\(∀x c,X.env.cells.lookup x=AC c->c≠b)/\∀p∈X.pn++χ,p.1≠b)
 (keep:∀b o,b≠X.env.locals->b∉X.fs->b∉ch->s.heap.get? b=AC o->H b=Ch->h'.get? b=AC o)
 (slot:∀b o,b≠X.env.locals->b∈X.fs->b∉ch->s.heap.get? b=AC o->H b=Ch->∃sl,h'.get? b=AC {o with slots:=sl}) (free:∀b o,b∉ch->s.heap.get? b=AC o->H b=Ch->H' b=Ch)
 (there:∀b o,b∉ch->s.heap.get? b=AC o->∃o',h'.get? b=AC o')
 (sI:∀b xs,H b=AC (.tup xs)->H' b=AC (.tup xs)) (rC:∀b o u,H b=AC (.eJ o u)->H' b=AC (.eJ o u)) (n6:∀b u,V0 u->H b=AC u->H' b=AC u)
 (ns:∀m,s.heap.Ns X.env.locals m->h'.Ns X.env.locals m) (bG:kR X.prog X.w H' h') (hg:AllBare g') :
 Inv X χ σ H' {s with heap:=h',gens:=g',drawn:=d',toks:=t'}:=by
 have Xo:∀b o,X.s₀.heap.get? b=AC o->b≠X.env.locals:=λ b o e=>A13<|A19 (A02 e) I.ok.above;have Jq:∀b o,X.s₀.heap.get? b=AC o->b∉X.ex->b∉ch:=λ b o e hx hb=>by
  rcases(Bb b hb).1 with z|z
  .exact hx z
  .exact absurd (A19 (A02 e) z)<|A85 _
 have cellK:∀x c,X.env.cells.lookup x=AC c->∀v,s.heap.IsCell c v->h'.IsCell c v:=by
  rintro x c e v ⟨o,ho,hd⟩;have z5:=λ z=>(Bb c z).2.2.1 x c e rfl;by_cases hc:c∈X.fs
  .let⟨sl,q⟩:=slot c o (I.PJ x c e) hc z5 ho (I.gq x c e);exact⟨_,q,hd⟩
  .exact⟨o,keep c o (I.PJ x c e) hc z5 ho<|I.gq x c e,hd⟩
 refine⟨I.ok,I.os,hg,⟨λ b o e n hb hx=>?_,λ b o e n hb hx=>?_,λ b o e n hx=>?_,λ b o e hx=>?_,λ b xs e=>sI b xs<|I.base.sI b xs e,λ b o xs e=>rC b o xs<|I.base.rC b o xs e,λ b u p e=>n6 b u p<|I.base.n6 b u p e⟩,?_,λ x c e=>?_,?_,λ x c e=>?_,λ p hp=>?_,bG,I.len,I.tab.up n6⟩
 .exact keep b o (Xo b o e) hb (Jq b o e hx) (I.base.keep b o e n hb hx)<|I.base.free b o e n hx
 .let⟨sl,e1⟩:=I.base.slot b o e n hb hx;let⟨sl',e2⟩:=slot b _ (Xo b o e) hb (Jq b o e hx) e1 (I.base.free b o e n hx);exact⟨sl',e2⟩
 .let⟨o',e1⟩:=I.base.there b o e hx;exact free b o' (Jq b o e hx) e1<|I.base.free b o e n hx
 .let⟨o',e1⟩:=I.base.there b o e hx;exact there b o' (Jq b o e hx) e1
 .let⟨m,hn,hl⟩:=I.loc;refine⟨m,ns m hn,λ i x v e1 e2 e3=>?_⟩;let⟨u,r,l⟩:=hl i x v e1 e2 e3;refine⟨u,r,?_⟩;rcases l with l|⟨k,c,e,z⟩
  .exact .inl l
  .exact .inr ⟨k,c,e,cellK x c e _ z⟩
 .let⟨v,z⟩:=I.cell x c e;exact⟨v,cellK x c e v z⟩
 .let⟨m,⟨o,_,_,ho,_⟩,_⟩:=I.loc;exact free _ o (λ z=>(Bb _ z).2.1 rfl) ho I.free
 .let⟨v,o,ho,hd⟩:=I.cell x c e;exact free c o (λ z=>(Bb c z).2.2.1 x c e rfl) ho<|I.gq x c e
 .let⟨e,n,ne,nf,d⟩:=I.pin p hp;have z5:=λ z=>(Bb p.1 z).2.2.2 p hp rfl;exact⟨keep p.1 p.2 ne nf z5 e n,free p.1 p.2 z5 e n,ne,nf,d⟩
theorem Inv.un(I:Inv X χ σ H s)(u:Un X.fs [] H H' s.heap h')(bG:kR X.prog X.w H' h'):Inv X χ σ H' {s with heap:=h',toks:=t'}:=by
 let⟨m,⟨o,es,ep,ho,r⟩,_⟩:=id I.loc;let⟨sl,hL⟩:=u.any ho I.free ∅;exact I.step (ch:=[]) (λ _ z=>nomatch z) (λ b o _ hb _ e n=>u.keep b o e n hb ∅) (λ b o _ hb _ e n=>u.slot b o e n hb ∅) (λ b o _ e n=>u.free b o e n ∅) (λ b o _ e=>u.there b o e ∅) u.sI u.rC u.n6 (λ m' hm=>by let⟨o',es',ep',oM,r'⟩:=hm;rw[ho]at oM;cases oM;exact⟨_,es',ep',hL,r'⟩) bG I.bare
theorem Inv.call(I:Inv X χ σ H s)(u:Un (t_ X.stack) ch H H' s.heap h')(bG:kR X.prog X.w H' h')(hg:AllBare g')
 (Bb:∀b∈ch,(b∈X.ex\/X.s₀.heap.objs.size<=b)/\b≠X.env.locals/\(∀x c,X.env.cells.lookup x=AC c->c≠b)/\∀p∈X.pn++χ,p.1≠b) :
 Inv X χ σ H' {s with heap:=h',gens:=g',drawn:=d',toks:=t'}:=by
 let⟨m,⟨o,es,ep,ho,r⟩,_⟩:=id I.loc;let⟨sl,hL⟩:=u.any ho I.free λ z=>(Bb _ z).2.1 rfl;exact I.step Bb (λ b o hL hb hc e n=>u.keep b o e n (λ z=>(A01.mp<|I.pL b z).elim hL hb) hc) (λ b o _ _ hc e n=>u.any e n hc) (λ b o hc e n=>u.free b o e n hc) (λ b o hc e=>u.there b o e hc) u.sI u.rC u.n6 (λ m' hm=>by let⟨o',es',ep',oM,r'⟩:=hm;rw[ho]at oM;cases oM;exact⟨_,es',ep',hL,r'⟩) bG hg
theorem Inv.turned(I:Inv X χ σ H s)(k:∀b o,b≠it->s.heap.get? b=AC o->h'.get? b=AC o)(hn:H it=Ch)(hL:it≠X.env.locals)
 (h1:it∈X.ex\/X.s₀.heap.objs.size<=it) (h2:∀x c,X.env.cells.lookup x=AC c->c≠it) (h3:∀p∈X.pn++χ,p.1≠it):Inv X χ σ H {s with heap:=h',toks:=t'}:=by
 have nit:∀b u,H b=AC u->b≠it:=λ b u e z=>by rw[z,hn]at e;cases e
 refine I.step (ch:=[it]) (λ b hb=>?_) (λ b o _ _ hc e _=>k b o (λ z=>hc (by simp[z])) e) (λ b o _ _ hc e _=>⟨_,k b o (λ z=>hc (by simp[z])) e⟩) (λ _ _ _ _ n=>n)
  (λ b o hc e=>⟨o,k b o (λ z=>hc (by simp[z])) e⟩) (λ _ _ e=>e) (λ _ _ _ e=>e) (λ _ _ _ e=>e) (λ m hm=>?_) (λ b u e=>?_) I.bare
 .have e:b=it:=by simpa using hb
  subst e;exact⟨h1,hL,h2,h3⟩
 .let⟨o,es,ep,ho,r⟩:=hm;exact⟨o,es,ep,k _ o (A09 hL) ho,r⟩
 .refine(I.bG b u e).rh (λ c v hc q=>k c v ?_ q) (λ _ q=>q) (λ _ _ q=>q) λ _ _ _ q=>q;rcases hc with z|z
  .rw[z];exact nit b u e
  .exact nit c _ z
theorem Inv.tok(I:Inv X χ σ H s)(t:Nat):Inv X χ σ H {s with toks:=t}:=I.un Un.refl I.bG
theorem Inv.kept(I:Inv X χ σ H s)(k:∀b u,s.heap.get? b=AC u->h'.get? b=AC u):Inv X χ σ H {s with heap:=h',toks:=t'}:=I.un (Un.kept k)<|I.bG.kept k
theorem Inv.laid(I:Inv X χ σ H s)(k:∀b u,s.heap.get? b=AC u->h'.get? b=AC u)(hp:s.heap.objs.size<=a)(new:d7 X.prog X.w (upd H a o) h' a o):
 Inv X χ σ (upd H a o) {s with heap:=h',toks:=t'}:=I.un (Un.laid k hp<|I.bG.fresh hp)<|I.bG.laid k hp new
theorem Inv.write(I:Inv X χ σ H s)(mu:Zq (H x))(he:e=x\/H e=AC (.own x))(k:∀b u,b≠e->s.heap.get? b=AC u->h'.get? b=AC u)(VN:∃u,h'.get? e=AC u)
 (new:d7 X.prog X.w (upd H x o) h' x o):Inv X χ σ (upd H x o) {s with heap:=h',toks:=t'}:=I.un (Un.write mu he k VN)<|I.bG.write mu he k VN new
theorem Inv.DN(I:Inv X χ σ H s)(h:∀p∈mG,s.heap.get? p.1=AC p.2/\H p.1=Ch/\p.1≠X.env.locals/\p.1∉X.fs/\∀v,p.2.data≠.cell v):Inv X mG σ H s:=
 ⟨I.ok,I.os,I.bare,I.base,I.loc,I.cell,I.free,I.gq,λ p hp=>(A37.mp hp).elim (λ z=>I.pin p<|A76 _ z)<|h p,I.bG,I.len,I.tab⟩
theorem zZ{N:γ Str}(hN:N.Nodup){i j:Nat}(a:N[i]?=AC x)(b:N[j]?=AC x):i=j:=by let⟨h1,e1⟩:=A03.mp a;let⟨h2,e2⟩:=A03.mp b;exact(List.getElem_inj hN).mp<|e1.trans e2.symm
theorem vJ(I:Inv X χ σ H s)(hN:X.N.Nodup)(hi:X.N[i]?=AC x)(hx:Loc X.env.scope x)(r:RelV v u)
 (h:∀s',Inv X χ (σ.set i<|some v) H s'->(∃a,Ix a s.heap s'.heap/\(a=X.env.locals\/X.env.cells.lookup x=AC a))/\(X.env.scope.names.lookup x=AC .local->s.toks<s'.toks)->Q () s') (hf:X.fn x=Da\/X.env.scope.names.lookup x=AC .local:=by first|exact .inl rfl|exact .inr rfl|assumption):Ev M A (storeName X.env x u) Q E s:=by
 let⟨m,hn,hl⟩:=id I.loc;have ab4:(X.env.scope.kind==.class||(X.env.scope.kind==.module&&X.env.locals != X.env.globals))=AT:=by rw[I.ok.kind];rfl
 have hiσ:i<σ.length:=by rw[I.len];exact(A03.mp hi).1
 have PJ:=I.PJ;have tracked:∀{a}{h'},(∃o,s.heap.get? a=AC o/\H a=Ch)->Ix a s.heap h'->kR X.prog X.w H h':=λ {a h'} ha hs b ob e=>by
  let⟨_,_,qO⟩:=ha;refine(I.bG b ob e).rh (λ c w' hc q=>(hs.2 c ?_).trans q) (λ _ q=>q) (λ _ _ q=>q) λ _ _ _ q=>q;rintro rfl;rcases hc with rfl|hc
  .rw[qO]at e;cases e
  .rw[qO]at hc;cases hc
 rcases hx with hk|hk
 .refine wpAny_storeName_local hk hn (λ h' Q5 hs=>?_) ab4;let⟨oL,_,_,hoL,_⟩:=id hn;refine h _ ⟨I.ok,I.os,I.bare,⟨λ b o e n hb hx=>?_,λ b o e n hb hx=>?_,I.base.free,λ b o e hx=>?_,I.base.sI,I.base.rC,I.base.n6⟩,⟨_,Q5,λ j y v' e1 e2 e3=>?_⟩,λ y c e=>?_,I.free,I.gq,λ p hp=>?_,tracked ⟨oL,hoL,I.free⟩ hs,by simpa using I.len,I.tab⟩ ⟨⟨_,hs,.inl rfl⟩,λ _=>A63 _⟩
  .exact(hs.2 b<|A13<|A19 (A02 e) I.ok.above).trans<|I.base.keep b o e n hb hx
  .let⟨sl,e1⟩:=I.base.slot b o e n hb hx;exact⟨sl,(hs.2 b<|A13<|A19 (A02 e) I.ok.above).trans e1⟩
  .let⟨o',e1⟩:=I.base.there b o e hx;exact⟨o',(hs.2 b<|A13<|A19 (A02 e) I.ok.above).trans e1⟩
  .by_cases hj:j=i
   .subst hj;rw[hi]at e1;cases e1;rw[A41 hiσ]at e2;cases e2;exact⟨u,r,.inl ⟨hk,by simp⟩⟩
   .rw[A33<|A09 hj]at e2;let⟨u',r',q⟩:=hl j y v' e1 e2 e3;refine⟨u',r',?_⟩;rcases q with⟨k,e⟩|⟨k,c,e,z⟩
    .refine .inl ⟨k,?_⟩;have:y≠x:=λ e=>hj<|zZ hN e1<|e▸hi;simp[this,e]
    .exact .inr ⟨k,c,e,z.sameBut hs<|PJ y c e⟩
  .let⟨w',z⟩:=I.cell y c e;exact⟨w',z.sameBut hs<|PJ y c e⟩
  .let⟨e,n,ne,nf,d⟩:=I.pin p hp;exact⟨(hs.2 p.1 ne).trans e,n,ne,nf,d⟩
 .have Yp:X.fn x=Da:=by
   rcases hf with z|z
   .exact z
   .rw[z]at hk;cases hk
  let⟨c,hc⟩:=I.ok.has x (.inl hk);let⟨w',z⟩:=I.cell x c hc;refine wpAny_storeName_cell I.ok.kind hk hc z λ h' qQ hs=>?_;let⟨oc,_t,abv⟩:=id z;refine h {s with heap:=h'} ⟨I.ok,I.os,I.bare,⟨λ b o e n hb hx=>?_,λ b o e n hb hx=>?_,I.base.free,λ b o e hx=>?_,I.base.sI,I.base.rC,I.base.n6⟩,⟨m,hn.sameBut hs<|A09<|PJ x c hc,λ j y v' e1 e2 e3=>?_⟩,λ y c' e=>?_,I.free,I.gq,λ p hp=>?_,tracked ⟨oc,_t,I.gq x c hc⟩ hs,by simpa using I.len,I.tab⟩ ⟨⟨c,hs,.inr hc⟩,λ z=>absurd (hk.symm.trans z) ∅⟩
  .exact(hs.2 b<|A13<|A19 (A02 e)<|I.ok.U4 x c Yp hc).trans<|I.base.keep b o e n hb hx
  .let⟨sl,e1⟩:=I.base.slot b o e n hb hx;exact⟨sl,(hs.2 b<|A13<|A19 (A02 e)<|I.ok.U4 x c Yp hc).trans e1⟩
  .let⟨o',e1⟩:=I.base.there b o e hx;exact⟨o',(hs.2 b<|A13<|A19 (A02 e)<|I.ok.U4 x c Yp hc).trans e1⟩
  .by_cases hj:j=i
   .subst hj;rw[hi]at e1;cases e1;rw[A41 hiσ]at e2;cases e2;exact⟨u,r,.inr ⟨.inl hk,c,hc,qQ⟩⟩
   .rw[A33<|A09 hj]at e2;let⟨u',r',q⟩:=hl j y v' e1 e2 e3;refine⟨u',r',?_⟩;rcases q with q|⟨k,c',e,z'⟩
    .exact .inl q
    .refine .inr ⟨k,c',e,z'.sameBut hs ?_⟩;rintro rfl;exact hj<|zZ hN e1<|I.ok.inj _ _ _ e hc▸hi
  .by_cases _B:c'=c
   .subst _B;exact⟨_,qQ⟩
   .let⟨w2,z2⟩:=I.cell y c' e;exact⟨w2,z2.sameBut hs _B⟩
  .let⟨e,n,ne,nf,d⟩:=I.pin p hp;refine⟨(hs.2 p.1 ?_).trans e,n,ne,nf,d⟩;intro q;rw[q,_t]at e;have q':=A05 e;exact d w' (by rw[<-q'];exact abv)
theorem sN(I:Inv X χ σ H s)(hN:X.N.Nodup)(hi:X.N[i]?=AC x)(hx:Loc X.env.scope x)(r:RelV v u)
 (h:∀s',Inv X χ (σ.set i<|some v) H s'->Q () s') (hf:X.fn x=Da\/X.env.scope.names.lookup x=AC .local:=by first|exact .inl rfl|exact .inr rfl|assumption):Ev M A (storeName X.env x u) Q E s:=
 vJ I hN hi hx r (λ s' I' _=>h s' I') hf
theorem Inv.Ln(I:Inv X χ σ H s)(ho:s'.os=s.os)(u:Un (t_ X.stack) ch H H' s.heap s'.heap)(bG:kR X.prog X.w H' s'.heap)(hg:AllBare s'.gens)
 (Bb:∀b∈ch,(b∈X.ex\/X.s₀.heap.objs.size<=b)/\b≠X.env.locals/\(∀x c,X.env.cells.lookup x=AC c->c≠b)/\∀p∈X.pn++χ,p.1≠b):Inv X χ σ H' s':=by
 let⟨h',g',d',t',o'⟩:=s';have e:=ho;subst e;exact I.call u bG hg Bb
end
abbrev XK:=ζ->ε δ->Hp->Prop
abbrev St:=γ<|ε V
abbrev VK:=V->Hp->Prop
abbrev TE:=St->Hp->VK->Prop
abbrev TT:=St->Hp->(Bool->Hp->Prop)->Prop
abbrev TA:=St->Hp->(γ V->Hp->Prop)->Prop
structure Ends where
 nx:St->Hp->Prop
 rt:VK
 bk:St->Hp->Prop:=λ _ _=>False
 ct:St->Hp->Prop:=λ _ _=>False
abbrev TS:=Ends->St->Hp->Prop
def EP(X:Cx)(χ:γ (δ×μ))(σ:St)(Q:VK)(u:ζ)(s':η):Prop:=∃v H',Inv X χ σ H' s'/\RelV v u/\Q v H'
def TP(X:Cx)(χ:γ (δ×μ))(σ:St)(Q:Bool->Hp->Prop)(b:Bool)(s':η):Prop:=∃H',Inv X χ σ H' s'/\Q b H'
def AP(X:Cx)(χ:γ (δ×μ))(σ:St)(Q:γ V->Hp->Prop)(us:γ ζ)(s':η):Prop:=∃vs H',Inv X χ σ H' s'/\Vals vs us/\Q vs H'
def SP(X:Cx)(χ:γ (δ×μ))(D:Ends)(f:Flow)(s':η):Prop:=
 match f with
 |.next=>∃σ' H',Inv X χ σ' H' s'/\D.nx σ' H'
 |.brk=>∃σ' H',Inv X χ σ' H' s'/\D.bk σ' H'
 |.cont=>∃σ' H',Inv X χ σ' H' s'/\D.ct σ' H'
 |.ret u=>∃v σ' H',Inv X χ σ' H' s'/\RelV v u/\D.rt v H'
def PE(X:Cx)(e:θ)(t:TE):Prop:=
 ∀(χ:γ (δ×μ))(s:η)(σ:St)(H:Hp)(Q:VK),Inv X χ σ H s->t σ H Q->Ev (model X.prog X.w) X.A (eval e X.env) (EP X χ σ Q) X.xe s
def PT(X:Cx)(e:θ)(t:TT):Prop:=
 ∀(χ:γ (δ×μ))(s:η)(σ:St)(H:Hp)(Q:Bool->Hp->Prop),Inv X χ σ H s->t σ H Q->Ev (model X.prog X.w) X.A (isTrue e X.env<|eval e X.env) (TP X χ σ Q) X.xe s
def PW(X:Cx)(e:θ)(t:TT):Prop:=
 ∀(whole:Sem ζ)(χ:γ (δ×μ))(s:η)(σ:St)(H:Hp)(Q:Bool->Hp->Prop),Inv X χ σ H s->t σ H Q->Ev (model X.prog X.w) X.A (isTrue e X.env whole) (TP X χ σ Q) X.xe s
theorem PW.pt(h:PW X e t):PT X e t:=h _
def PA(X:Cx)(es:γ θ)(t:TA):Prop:=
 ∀(pos:Pos)(χ:γ (δ×μ))(s:η)(σ:St)(H:Hp)(Q:γ V->Hp->Prop),Inv X χ σ H s->t σ H Q->Ev (model X.prog X.w) X.A (spliced<|backTo pos<|starEach es X.env) (AP X χ σ Q) X.xe s
def PS(X:Cx)(st:ι)(t:TS):Prop:=
 ∀(χ:γ (δ×μ))(s:η)(σ:St)(H:Hp)(D:Ends),Inv X χ σ H s->t D σ H->Ev (model X.prog X.w) X.A (exec st X.env) (SP X χ D) X.xe s
def qp(X:Cx)(st:γ ι)(t:TS):Prop:=
 ∀(χ:γ (δ×μ))(s:η)(σ:St)(H:Hp)(D:Ends),Inv X χ σ H s->t D σ H->Ev (model X.prog X.w) X.A (execs st X.env) (SP X χ D) X.xe s
theorem b!{M:Model}{A:τ}{E:ζ->η->Prop}{s:η}(h:Ev M A t Q E s)(hQ:∀a s,Q a s->Q' a s):Ev M A t Q' E s:=A20 h hQ λ _ _ x=>x
section
def mS(i:Nat):TE:=λ σ H Q=>∃v,σ[i]?=AC (AC v)/\Q v H
def tC(v:V):TE:=λ _ H Q=>Q v H
theorem sX(hN:X.N[i]?=AC x)(hv:LG X.env.scope x)(hd:Nd x:=by decide)(rT:(x==("__classdict__"))=AT:=by decide):PE X (.Name x pos) (mS i):=by
 intro χ s σ H Q I h;let⟨v,e,h⟩:=h;let⟨m,hn,hl⟩:=I.loc;let⟨u,r,l⟩:=hl i x v hN e hv;have fin:EP X χ σ Q u s:=⟨v,H,I,r,h⟩
 rcases l with⟨hk,hm⟩|⟨hk,c,hc,qP⟩
 .exact wpAny_Name (wpAny_loadName_local I.ok.kind hk hn hm fin) hd
 .rcases hk with hk|hk
  .exact wpAny_Name (wpAny_loadName_cell I.ok.kind hk hc qP fin) hd
  .exact wpAny_Name (wpAny_loadName_free I.ok.kind hk hc qP fin rT) hd
theorem Sj:PE X (.Constant (.int i) j pos) (tC<|.int i):=λ _ _ _ H _ I h=>wpAny_Constant_int ⟨.int i,H,I.tok _,⟨_,rfl⟩,h⟩
theorem WX:PE X (.Constant (.bool b) j pos) (tC<|.bl b):=λ _ _ _ H _ I h=>Constant_bool ⟨.bl b,H,I,rfl,h⟩
theorem BX:PE X (.Constant .none j pos) (tC .non):=λ _ _ _ H _ I h=>Constant_none ⟨.non,H,I,rfl,h⟩
theorem Sf:PE X (.Constant (.str x) j pos) (tC<|.str x):=λ _ _ _ H _ I h=>Calls.Constant_str ⟨.str x,H,I.tok _,⟨_,rfl⟩,h⟩
def Gl(X:Cx)(x:Str):Prop:=X.env.kindOf x=AC .globalImplicit
theorem oG(I:Inv X χ σ H s)(hg:Gl X x)(hm:X.mg x=AC u)(h:Q u s)
 (hd:Nd x:=by decide):Ev (model X.prog X.w) X.A (eval (.Name x pos) X.env) Q E s:=
 B76 I.ok.kind hg (Calls.loadGlobal_global (by rw[I.ok.glob];exact I.mod.glob.keeps I.bk) hm h) hd
theorem j0(I:Inv X χ σ H s)(hg:Gl X x)(hm:X.mg x=Ch)(hv:bootBuiltins x=AC u)(h:Q u s)
 (hn:x≠ "__name__":=by decide) (hd:Nd x:=by decide):Ev (model X.prog X.w) X.A (eval (.Name x pos) X.env) Q E s:=by
 let⟨mb,h1,h2⟩:=I.mod.blt;exact B76 I.ok.kind hg (Calls.loadGlobal_builtin (by rw[I.ok.glob];exact I.mod.glob.keeps I.bk) hm (by rw[I.ok.blt];exact h1.keeps I.bk) ((h2 x hn).trans hv) h) hd
theorem DU(hg:Gl X x)(hm:X.mg x=AC u)(r:RelV v u)(hd:Nd x:=by decide):PE X (.Name x pos) (tC v):=
 λ _ _ _ H _ I h=>oG I hg hm ⟨v,H,I,r,h⟩ hd
theorem Ni(hg:Gl X x)(hm:X.mg x=Ch)(hv:bootBuiltins x=AC u)(r:RelV v u)(hn:x≠ "__name__":=by decide)(hd:Nd x:=by decide):PE X (.Name x pos) (tC v):=
 λ _ _ _ H _ I h=>j0 I hg hm hv ⟨v,H,I,r,h⟩ hn hd
def PC(X:Cx)(op:CmpOp)(a b:θ)(t:TE):Prop:=
 ∀ (χ:γ (δ×μ))(s:η)(σ:St)(H:Hp)(Q:VK),Inv X χ σ H s->t σ H Q ->
  Ev (model X.prog X.w) X.A (eval a X.env) (λ v s₁=>Ev (model X.prog X.w) X.A (eval b X.env) (λ u s₂=>Ev (model X.prog X.w) X.A (compareOp op v u) (EP X χ σ Q) X.xe s₂) X.xe s₁) X.xe s
theorem Jn(b:θ)(h:op≠.In)(h2:op≠.NotIn):behindInMarks op b=AT:=by
 have e1:(op==CmpOp.In)=AT:=by cases op<;>first|rfl|exact absurd rfl h
 have e2:(op==CmpOp.NotIn)=AT:=by cases op<;>first|rfl|exact absurd rfl h2
 cases b<;>simp[behindInMarks,e1,e2]
def tB(t:TE):TT:=λ σ H Q=>t σ H λ x H1=>∃c,x=.bl c/\Q c H1
theorem IF(h:PC X op a b t)(h1:behindInMarks op b=AT:=by first|exact Jn _ ∅ ∅|rfl):PT X (.Compare a [op] [b] pos) (tB t):=by intro χ s σ H Q I hw;refine wpAny_isTrue_Compare1 (b! (h χ s σ H _ I hw) λ v s1 h1=>b! h1 λ u s2 h2=>b! h2 ?_) h1;rintro c s3 ⟨x,H1,I1,r1,q1⟩;let⟨d,rfl,q⟩:=q1;cases r1;exact A58 ⟨H1,I1,q⟩
theorem R8(h:PE X e t)(he:∀whole,isTrue e X.env whole=(do let v ←whole;standAt e.pos;holding [v] (truthy v)):=by intro _;rfl):PT X e (tB t):=by intro χ s σ H Q I hw;refine isTrue_plain (b! (h χ s σ H _ I hw) ?_)<|he _;rintro v s1 ⟨x,H1,I1,r1,q1⟩;let⟨d,rfl,q⟩:=q1;cases r1;exact A58 ⟨H1,I1,q⟩
variable{rest:γ θ}
def xn(t u:TT):TT:=λ σ H Q=>t σ H λ c H1=>if c=Da then u σ H1 Q else Q AT H1
def vG(t u:TT):TT:=λ σ H Q=>t σ H λ c H1=>if c=Da then Q Da H1 else u σ H1 Q
def fL(t:TT):TT:=λ σ H Q=>t σ H λ c H1=>Q (!c) H1
theorem pw_and1(ha:PT X a tA):PW X (.BoolOp .And [a] pos) tA:=by
 intro wh χ s σ H Q I h;refine isTrue_and<|b! (ha χ s σ H Q I h) λ c s1 e=>?_;cases c with
 |true=>exact isTrue_and_nil e
 |false=>exact e
theorem pw_or1(ha:PT X a tA):PW X (.BoolOp .Or [a] pos) tA:=by
 intro wh χ s σ H Q I h;refine isTrue_or<|b! (ha χ s σ H Q I h) λ c s1 e=>?_;cases c with
 |false=>exact isTrue_or_nil e
 |true=>exact e
theorem pw_and(ha:PT X a tA)(hb:PW X (.BoolOp .And (b::rest) pos) tB'):PW X (.BoolOp .And (a::b::rest) pos) (xn tA tB'):=by
 intro wh χ s σ H Q I h;refine isTrue_and<|b! (ha χ s σ H _ I h) ?_;rintro c s1 ⟨H1,I1,q1⟩;cases c with
 |true=>exact hb wh χ s1 σ H1 Q I1 q1
 |false=>exact⟨H1,I1,q1⟩
theorem pw_or(ha:PT X a tA)(hb:PW X (.BoolOp .Or (b::rest) pos) tB'):PW X (.BoolOp .Or (a::b::rest) pos) (vG tA tB'):=by
 intro wh χ s σ H Q I h;refine isTrue_or<|b! (ha χ s σ H _ I h) ?_;rintro c s1 ⟨H1,I1,q1⟩;cases c with
 |true=>exact⟨H1,I1,q1⟩
 |false=>exact hb wh χ s1 σ H1 Q I1 q1
theorem R9(ha:PT X a tA):PT X (.UnaryOp .Not a pos) (fL tA):=by intro χ s σ H Q I h;exact isTrue_not<|ha χ s σ H (λ c H1=>Q (!c) H1) I h
def Wr(ta tb:TE):TE:=λ σ H Q=>ta σ H λ x H1=>∃c,x=.bl c/\if c=Da then tb σ H1 Q else Q (.bl AT) H1
def aad(ta tb:TE):TE:=λ σ H Q=>ta σ H λ x H1=>∃c,x=.bl c/\if c=Da then Q (.bl Da) H1 else tb σ H1 Q
def Wi(ta:TE):TE:=λ σ H Q=>ta σ H λ x H1=>∃c,x=.bl c/\Q (.bl<|!c) H1
theorem Sg(h:PE X a t):PE X (.BoolOp op [a] pos) t:=λ χ s σ H Q I hw=>BoolOp_one<|h χ s σ H Q I hw
theorem Sl(ha:PE X a ta)(hb:PE X (.BoolOp .And (b::rest) pos) tb):PE X (.BoolOp .And (a::b::rest) pos) (Wr ta tb):=by
 intro χ s σ H Q I h;refine BoolOp_and<|b! (ha χ s σ H _ I h) ?_;rintro v s1 ⟨x,H1,I1,r1,q1⟩;let⟨c,rfl,q1⟩:=q1;cases r1;refine A58 ?_;cases c with
 |true=>exact hb χ s1 σ H1 Q I1 q1
 |false=>exact⟨.bl AT,H1,I1,rfl,q1⟩
theorem WW(ha:PE X a ta)(hb:PE X (.BoolOp .Or (b::rest) pos) tb):PE X (.BoolOp .Or (a::b::rest) pos) (aad ta tb):=by
 intro χ s σ H Q I h;refine BoolOp_or<|b! (ha χ s σ H _ I h) ?_;rintro v s1 ⟨x,H1,I1,r1,q1⟩;let⟨c,rfl,q1⟩:=q1;cases r1;refine A58 ?_;cases c with
 |false=>exact hb χ s1 σ H1 Q I1 q1
 |true=>exact⟨.bl Da,H1,I1,rfl,q1⟩
theorem Sh(ha:PE X a ta):PE X (.UnaryOp .Not a pos) (Wi ta):=by intro χ s σ H Q I h;refine UnaryOp_<|b! (ha χ s σ H _ I h) ?_;rintro v s1 ⟨x,H1,I1,r1,q1⟩;let⟨c,rfl,q1⟩:=q1;cases r1;exact not_of<|A58 ⟨.bl<|!c,H1,I1,rfl,q1⟩
def tIf(t:TT)(ta tb:TE):TE:=λ σ H Q=>t σ H λ c H1=>if c=Da then ta σ H1 Q else tb σ H1 Q
theorem IS(hc:PT X c tA)(ha:PE X a ta)(hb:PE X b tb):PE X (.IfExp c a b pos) (tIf tA ta tb):=by
 intro χ s σ H Q I h;refine wpAny_IfExp<|b! (hc χ s σ H _ I h) ?_;rintro d s1 ⟨H1,I1,q1⟩;cases d with
 |true=>exact ha χ s1 σ H1 Q I1 q1
 |false=>exact hb χ s1 σ H1 Q I1 q1
end
def i4(K:Db)(H:Hp)(a:δ)(xs:γ V):Prop:=
 Rd H a (.lst xs) \/
  ∃(o:μ)(aW:Array ζ)(n:Nat),K.lookup a=AC o/\o.cls=.type "list" /\ o.dict=Ch/\o.data=.seq aW n/\aW.size<=sizeLine/\Vals xs aW.toList
def mi(K:Db)(H:Hp)(a:δ)(xs:γ V):Prop:=
 Rd H a (.tup xs) \/
  ∃(o:μ)(aW:Array ζ)(n:Nat),K.lookup a=AC o/\o.cls=.type "tuple" /\ (o.data=.seq aW n/\o.dict=Ch/\o.slots=#[])/\aW.size<=sizeLine/\Vals xs aW.toList
def acW:ζ->ε V
|.none=>AC .non
|.bool b=>AC<|.bl b
|.int i _=>AC<|.int i
|.str x _=>AC<|.str x
|.bytes b _=>AC<|.VY b
|.float b _=>AC<|._I b
|.ref a=>AC<|.ref a
|.type n=>AC<|.ty n
|_=>Ch
theorem RelV.abs(r:RelV x u):acW u=AC x:=by
 cases x with
 |non=>cases r;rfl
 |bl _=>cases r;rfl
 |int _=>let⟨t,rfl⟩:=r;rfl
 |str _=>let⟨t,rfl⟩:=r;rfl
 |VY _=>let⟨t,rfl⟩:=r;rfl
 |_I _=>let⟨t,rfl⟩:=r;rfl
 |ref _=>cases r;rfl
 |ty _=>cases r;rfl
theorem RelV.inj(r:RelV x u)(q:RelV y u):x=y:=A05<|r.abs.symm.trans q.abs
theorem Vals.inj:∀{xs ys}{us},Vals xs us->Vals ys us->xs=ys:=by
 intro xs ys us h
 induction h generalizing ys with
 |nil=>intro h;cases h;rfl
 |cons r t ih=>intro h;cases h with|cons r' t'=>rw[r.inj r',ih t']
theorem i4.of{K:Db}(h:H a=AC (.lst xs)):i4 K H a xs:=.inl<|.inl h
theorem mi.of{K:Db}(h:H a=AC (.tup xs)):mi K H a xs:=.inl<|.inl h
theorem Inv.list(I:Inv X χ σ H s)(h:i4 X.K H a xs):∃aW,Vals xs aW/\PlainL s.heap a aW.toArray/\xs.length<=sizeLine:=by
 rcases h with h|⟨o,aW,n,hk,hc,hd,hs,hz,r⟩
 .let⟨z,aW,n,r,e⟩:=h.ok I.bG;exact⟨aW,r,⟨_,n,e,rfl,rfl,rfl⟩,z⟩
 .refine⟨_,r,⟨o,n,I.lX a o hk,hc,hd,by simpa using hs⟩,?_⟩;have e:=r.length;simp only[B46]at e;lia
theorem Inv.tuple(I:Inv X χ σ H s)(h:mi X.K H a xs):∃aW,Vals xs aW/\IsTup s.heap a aW.toArray/\xs.length<=sizeLine:=by
 rcases h with h|⟨o,aW,n,hk,hc,hs,hz,r⟩
 .let⟨z,aW,r,p⟩:=h.ok I.bG;exact⟨aW,r,p.is,z⟩
 .refine⟨_,r,⟨o,I.lX a o hk,hc,n,by simpa using hs.1⟩,?_⟩;have e:=r.length;simp only[B46]at e;lia
theorem Inv.oC(I:Inv X χ σ H s)(h:i4 X.K H a xs)(h':i4 X.K H a ys):xs=ys:=by
 let⟨aW,r,⟨o,n,e,_,_,d⟩,_⟩:=I.list h;let⟨Ah,r',⟨o',n',e',_,_,d'⟩,_⟩:=I.list h';rw[e]at e';cases e';rw[d]at d';injection d' with d1 _
 have:aW=Ah:=by simpa using A12 bi d1
 subst this;exact r.inj r'
theorem Inv.pK(I:Inv X χ σ H s)(h:mi X.K H a xs)(h':mi X.K H a ys):xs=ys:=by
 let⟨aW,r,⟨o,e,_,n,d⟩,_⟩:=I.tuple h;let⟨Ah,r',⟨o',e',_,n',d'⟩,_⟩:=I.tuple h';rw[e]at e';cases e';rw[d]at d';injection d' with d1 _
 have:aW=Ah:=by simpa using A12 bi d1
 subst this;exact r.inj r'
abbrev Cx.kU(X:Cx)(E:ζ->η->Prop):Cx:={X with xe:=E}
abbrev Cx.fP(X:Cx):Cx:=X.kU λ _ _=>False
theorem Cx.Ok.kU{X:Cx}(ok:X.Ok)(E:ζ->η->Prop):(X.kU E).Ok:=
 ⟨ok.mod,ok.kind,ok.glob,ok.blt,ok.above,ok.inj,ok.has,ok.U4,ok.hd,ok.frames,ok.LR,ok._N,ok.bs,ok.Lq,ok.zY,ok.GC,ok.mw,ok.OV⟩
theorem Cx.Ok.fK{X:Cx}(ok:(X.kU E).Ok):X.Ok:=
 ⟨ok.mod,ok.kind,ok.glob,ok.blt,ok.above,ok.inj,ok.has,ok.U4,ok.hd,ok.frames,ok.LR,ok._N,ok.bs,ok.Lq,ok.zY,ok.GC,ok.mw,ok.OV⟩
theorem Inv.kU(I:Inv X χ σ H s)(E:ζ->η->Prop):Inv (X.kU E) χ σ H s:=⟨I.ok.kU E,I.os,I.bare,I.base,I.loc,I.cell,I.free,I.gq,I.pin,I.bG,I.len,I.tab⟩
theorem Inv.fK(I:Inv (X.kU E) χ σ H s):Inv X χ σ H s:=⟨I.ok.fK,I.os,I.bare,I.base,I.loc,I.cell,I.free,I.gq,I.pin,I.bG,I.len,I.tab⟩
theorem SP.fK(h:SP (X.kU E) χ D f s'):SP X χ D f s':=by
 cases f with
 |next=>let⟨σ',H',I,q⟩:=h;exact⟨σ',H',I.fK,q⟩
 |brk=>let⟨σ',H',I,q⟩:=h;exact⟨σ',H',I.fK,q⟩
 |cont=>let⟨σ',H',I,q⟩:=h;exact⟨σ',H',I.fK,q⟩
 |ret u=>let⟨v,σ',H',I,r,q⟩:=h;exact⟨v,σ',H',I.fK,r,q⟩
theorem PE.fP(h:PE X.fP e t):PE X e t:=λ χ s σ H Q I hw=>A20 (h χ s σ H Q (I.kU _) hw) (by rintro _ _ ⟨v,H',I',r,q⟩;exact⟨v,H',I'.fK,r,q⟩) λ _ _ z=>GM z
theorem PT.fP(h:PT X.fP e t):PT X e t:=λ χ s σ H Q I hw=>A20 (h χ s σ H Q (I.kU _) hw) (by rintro _ _ ⟨H',I',q⟩;exact⟨H',I'.fK,q⟩) λ _ _ z=>GM z
theorem qp.fP{st:γ ι}(h:qp X.fP st t):qp X st t:=λ χ s σ H D I hw=>A20 (h χ s σ H D (I.kU _) hw) (λ _ _ q=>q.fK) λ _ _ z=>GM z
section
variable{st:ι}{rest:γ ι}
def Wj:TS:=λ D σ H=>D.nx σ H
def aab(t u:TS):TS:=λ D σ H=>t {D with nx:=u D} σ H
theorem DF:qp X [] Wj:=λ _ _ σ H _ I h=>B47 ⟨σ,H,I,h⟩
theorem jA(h1:PS X st t)(h2:qp X rest u):qp X (st::rest) (aab t u):=by
 intro χ s σ H D I h;refine wpAny_execs_cons<|b! (h1 χ s σ H {D with nx:=u D} I h) λ f s1 q=>?_;cases f with
 |next=>let⟨σ',H',I',q⟩:=q;exact h2 χ s1 σ' H' D I' q
 |ret v=>exact q
 |brk=>exact q
 |cont=>exact q
theorem og(h1:PS X st t):qp X [st] t:=by
 intro χ s σ H D I h;refine wpAny_execs_cons<|b! (h1 χ s σ H D I h) λ f s1 q=>?_;cases f with
 |next=>exact B47 q
 |ret v=>exact q
 |brk=>exact q
 |cont=>exact q
theorem Inv.quiet(I:Inv X χ σ H s):interactive X.env=AT:=by simp[interactive,I.ok.kind]
def Wm(te:TE):TS:=λ D σ H=>te σ H λ _ H1=>D.nx σ H1
theorem oh(he:PE X e te)(hs:swapsWith e Ch pos.line X.env=pure AT:=by rfl):PS X (.Expr e pos) (Wm te):=by intro χ s σ H D I h;exact wpAny_Expr_any (b! (he χ s σ H _ I h) <|by rintro v s1 ⟨x,H1,I1,r1,q1⟩;exact⟨σ,H1,I1,q1⟩) I.quiet hs
def aac(te:TE):TS:=λ D σ H=>te σ H D.rt
theorem BU(he:PE X e te):PS X (.Return (AC e) pos) (aac te):=by intro χ s σ H D I h;exact wpAny_Return_some<|b! (he χ s σ H _ I h) <|by rintro v s1 ⟨x,H1,I1,r1,q1⟩;exact⟨x,σ,H1,I1,r1,q1⟩
def aaf(c:TT)(t u:TS):TS:=λ D σ H=>c σ H λ b H1=>if b=Da then t D σ H1 else u D σ H1
theorem IH(hc:PT X c tc)(ha:qp X a t)(hb:qp X b u):PS X (.If c a b pos) (aaf tc t u):=by
 intro χ s σ H D I h;refine wpAny_If<|b! (hc χ s σ H _ I h) ?_;rintro d s1 ⟨H1,I1,q1⟩;cases d with
 |true=>exact ha χ s1 σ H1 D I1 q1
 |false=>exact hb χ s1 σ H1 D I1 q1
end
abbrev TG:=V->St->Hp->(St->Hp->Prop)->Prop
abbrev Ve:=γ V->St->Hp->(St->Hp->Prop)->Prop
def PG(X:Cx)(target:θ)(t:TG):Prop:=
 ∀ (χ:γ (δ×μ))(s:η)(σ:St)(H:Hp)(v:V)(u:ζ)(Q:St->Hp->Prop),Inv X χ σ H s->RelV v u->t v σ H Q ->
  Ev (model X.prog X.w) X.A (assign target X.env u) (λ _ s'=>∃σ' H',Inv X χ σ' H' s'/\Q σ' H') X.xe s
def LJ(X:Cx)(ts:γ θ)(t:Ve):Prop:=
 ∀ (χ:γ (δ×μ))(s:η)(σ:St)(H:Hp)(vs:γ V)(us:γ ζ)(Q:St->Hp->Prop),Inv X χ σ H s->Vals vs us->t vs σ H Q ->
  Ev (model X.prog X.w) X.A (assignInOrder ((assignEach ts X.env).map (·.2)) us) (λ _ s'=>∃σ' H',Inv X χ σ' H' s'/\Q σ' H') X.xe s
abbrev TIp:=V->V->Hp->VK->Prop
def PIp(X:Cx)(op:Operator)(t:TIp):Prop:=
 ∀ (χ:γ (δ×μ))(s:η)(σ:St)(H:Hp)(x y:V)(v u:ζ)(Q:VK),Inv X χ σ H s->RelV x v->RelV y u->t x y H Q ->
  Ev (model X.prog X.w) X.A (inplaceOp op v u) (EP X χ σ Q) X.xe s
def aG(i:Nat):TG:=λ v σ H Q=>Q (σ.set i<|some v) H
theorem DO(hN:X.N.Nodup)(hi:X.N[i]?=AC x)(hx:Loc X.env.scope x)(hf:X.fn x=Da\/X.env.scope.names.lookup x=AC .local:=by first|exact .inl rfl|exact .inr rfl|assumption):PG X (.Name x pos) (aG i):=by intro χ s σ H v u Q I r h;exact wpAny_assign_Name<|sN I hN hi hx r (λ s' I'=>⟨_,H,I',h⟩) hf
def acq:Ve:=λ vs σ H Q=>vs=[]/\Q σ H
def YI(t:TG)(u:Ve):Ve:=λ vs σ H Q=>∃v r,vs=v::r/\t v σ H λ σ' H'=>u r σ' H' Q
theorem Nf:LJ X [] acq:=by intro χ s σ H vs us Q I r h;let⟨e,h⟩:=h;subst e;cases r;exact assignInOrder_nil ⟨σ,H,I,h⟩
theorem IL(h1:PG X e t)(h2:LJ X es u)
 (hs:(assignEach (e::es) X.env).map (·.2)=assign e X.env::(assignEach es X.env).map (·.2):=by rfl):LJ X (e::es) (YI t u):=by
 intro χ s σ H vs us Q I r h;let⟨v,vr,e1,h⟩:=h;subst e1;cases r with
 |cons r rr=>rw[hs];refine assignInOrder_cons<|b! (h1 χ s σ H _ _ _ I r h) ?_;rintro _ s1 ⟨σ1,H1,I1,q1⟩;exact h2 χ s1 σ1 H1 _ _ Q I1 rr q1
def dE(K:Db)(n:Nat)(t:Ve):TG:=λ v σ H Q=>∃a xs,v=.ref a/\mi K H a xs/\xs.length=n/\t xs σ H Q
theorem IM(hc:X.calm=Da)(h:LJ X es t)
 (hn:(assignEach es X.env).length=n:=by rfl) (oJ:(assignEach es X.env).findIdx? (·.1)=Ch:=by rfl):PG X (.Tuple es k pos) (dE X.K n t):=by
 intro χ s σ H v u Q I r hw;let⟨a,xs,e1,hq,hl,hw⟩:=hw;subst e1;cases r;let⟨aW,rv,ht,hz⟩:=I.tuple hq;refine assign_Tuple_tuple (I.ok.hd hc) ht (by simp[hn,<-hl,rv.length]) oJ λ h' hx=>?_;have I1:=I.kept (t':=s.toks) λ b o e=>hx b o (A13<|A02 e) e;exact h χ _ σ H xs _ Q I1 (by simpa using rv) hw
def Wq(te:TE)(g:TG):TS:=λ D σ H=>te σ H λ x H1=>g x σ H1 D.nx
theorem R_(he:PE X e te)(hg:PG X tg g)(hs:swapsWithSole [tg] e pos.line X.env=pure AT:=by rfl)(hw:swappedStores [tg] e X.env=pure Ch:=by rfl)
 (h1:(assignEach [tg] X.env).map (·.2)=[assign tg X.env]:=by rfl):PS X (.Assign [tg] e pos) (Wq te g):=by
 intro χ s σ H D I h;refine wpAny_Assign_stores (b! (he χ s σ H _ I h) ?_) hs hw;rintro v s1 ⟨x,H1,I1,r1,q1⟩;rw[h1];exact b! (hg χ s1 σ H1 x v _ I1 r1 q1) λ _ s2 q=>q
theorem mZ(hN:X.N.Nodup)(hi:X.N[i]?=AC x)(hx:Loc X.env.scope x)(he:PE X e te)(hs:swapsWith e (AC<|.Name x pos') pos.line X.env=pure AT:=by rfl)(hf:X.fn x=Da\/X.env.scope.names.lookup x=AC .local:=by first|exact .inl rfl|exact .inr rfl|assumption):
 PS X (.Assign [.Name x pos'] e pos) (Wq te<|aG i):=by
 intro χ s σ H D I h;refine wpAny_Assign_Name (b! (he χ s σ H _ I h) ?_) hs;rintro v s1 ⟨y,H1,I1,r1,q1⟩;exact sN I1 hN hi hx r1 (λ s2 I2=>⟨_,H1,I2,q1⟩) hf
def aal(i:Nat)(te:TE)(ti:TIp):TS:=λ D σ H=>∃x,σ[i]?=AC (AC x)/\te σ H λ y H1=>ti x y H1 λ z H2=>D.nx (σ.set i<|some z) H2
theorem R?(hN:X.N.Nodup)(hi:X.N[i]?=AC x)(hx:Loc X.env.scope x)(he:PE X e te)(ho:PIp X op ti)(hf:X.fn x=Da\/X.env.scope.names.lookup x=AC .local:=by first|exact .inl rfl|exact .inr rfl|assumption) :
 PS X (.AugAssign (.Name x pos') op e pos) (aal i te ti):=by
 intro χ s σ H D I h;let⟨v,e1,h⟩:=h;let⟨m,hn,hl⟩:=I.loc;have vis:LG X.env.scope x:=by rcases hx with k|k;exact .inl k;exact .inr<|.inl k
 let⟨u,r,l⟩:=hl i x v hi e1 vis;refine wpAny_AugAssign_Name ?_;have go:Ev (model X.prog X.w) X.A (eval e X.env) (λ w s₂=>Ev (model X.prog X.w) X.A (inplaceOp op u w) (λ r s₃=>Ev (model X.prog X.w) X.A (storeName X.env x r) (λ _=>SP X χ D .next) X.xe s₃) X.xe s₂) X.xe s:=by refine b! (he χ s σ H _ I h) ?_;rintro w s1 ⟨y,H1,I1,r1,q1⟩;refine b! (ho χ s1 σ H1 v y u w _ I1 r r1 q1) ?_;rintro z s2 ⟨zv,H2,I2,r2,q2⟩;exact sN I2 hN hi hx r2 (λ s3 I3=>⟨_,H2,I3,q2⟩) hf
 rcases l with⟨hk,hm⟩|⟨hk,c,hc,qP⟩
 .exact wpAny_loadName_local I.ok.kind hk hn hm go
 .rcases hk with hk|hk
  .exact wpAny_loadName_cell I.ok.kind hk hc qP go
  .rcases hx with k|k
   .have:X.env.scope.names.lookup x=AC .free:=hk;rw[k]at this;cases this
   .have:X.env.scope.names.lookup x=AC .free:=hk;rw[k]at this;cases this
structure It where
 go:Nat->Hp->Prop
 Be:Nat->Hp->V->Hp->Prop
 stop:Nat->Hp->Prop
def pw(X:Cx)(χ:γ (δ×μ))(H:Hp)(b:δ):Prop:=
 H b=Ch/\b≠X.env.locals/\b∉X.fs/\(b∈X.ex\/X.s₀.heap.objs.size<=b)/\(∀x c,X.env.cells.lookup x=AC c->c≠b)/\∀p∈X.pn++χ,p.1≠b
theorem Inv.u?(I:Inv X χ σ H s)(hb:s.heap.objs.size<=b)(hn:H' b=Ch):pw X χ H' b:=by
 refine⟨hn,A45<|A19 I.lt hb,I.S6 hb,.inr<|A11 I.sz hb,λ x c e z=>?_,λ p hp z=>?_⟩
 .let⟨v,q⟩:=I.cell x c e;exact absurd (A19 q.lt (by rw[z];exact hb))<|A85 _
 .exact absurd (A19 (A02 (I.pin p hp).1) (by rw[z];exact hb))<|A85 _
structure Turn(P:Program)(w:World)(K:Db)(tg:Expr)(J:It)(fp:List Addr)(it:Addr)(tn:Nat->Heap->Prop):Prop where
 mem:it∈fp
 obj:∀i h,tn i h->∀b∈fp,∃o,h.get? b=AC o/\∀v,o.data≠.cell v
 keep:∀i h h',tn i h->(∀b∈fp,∀o,h.get? b=AC o->h'.get? b=AC o)->tn i h'
 item:∀(X:Cx),X.prog=P->X.w=w->X.K=K->X.calm=Da->∀(i:Nat)(χ:List (Addr×Obj))(s:Shared)(σ:St)(H:Hp)(E:Value->Shared->Prop),Inv X χ σ H s->(∀b∈fp,pw X χ H b)->tn i s.heap->J.go i H ->
  Ev (model P w) X.A (pyNext<|.ref it) (λ r s1=>∃u,r=AC u /\
   Ev (model P w) X.A (letOwnedTupleGo tg (.ref it) u) (λ _ s2=>∃x H',Inv X χ σ H' s2/\RelV x u/\J.Be i H x H'/\tn (i+1) s2.heap/\∀b∈fp,H' b=Ch) E s1) E s
 done:∀(X:Cx),X.prog=P->X.w=w->X.K=K->X.calm=Da->∀(i:Nat)(χ:List (Addr×Obj))(s:Shared)(σ:St)(H:Hp)(E:Value->Shared->Prop),Inv X χ σ H s->(∀b∈fp,pw X χ H b)->tn i s.heap->J.stop i H ->
  Ev (model P w) X.A (pyNext<|.ref it) (λ r s1=>r=Ch/\Inv X χ σ H s1) E s
 self:∀(A:Around)(i:Nat)(s:Shared)(Q:Value->Shared->Prop)(E:Value->Shared->Prop),tn i s.heap->Q (.ref it) s->Ev (model P w) A (pyIter<|.ref it) Q E s
abbrev TI:=St->Hp->(It->Hp->Prop)->Prop
def _W(X:Cx)(χ:γ (δ×μ))(σ:St)(tg:θ)(R:It->Hp->Prop)(itv:ζ)(s2:η):Prop:=
 ∃(it:δ)(fp:γ δ)(tn:Nat->ν->Prop)(J:It)(H':Hp),itv=.ref it/\Inv X χ σ H' s2/\Turn X.prog X.w X.K tg J fp it tn/\tn 0 s2.heap/\(∀b∈fp,pw X χ H' b)/\R J H'
def PI(X:Cx)(tg iter:θ)(wi:TI):Prop:=
 ∀ (χ:γ (δ×μ))(s:η)(σ:St)(H:Hp)(R:It->Hp->Prop),Inv X χ σ H s->wi σ H R ->
  Ev (model X.prog X.w) X.A (eval iter X.env) (λ v s1=>Ev (model X.prog X.w) X.A (pyIter v) (_W X χ σ tg R) X.xe s1) X.xe s
theorem As(ho:s.heap.get? it=AC o)(hc:o.cls=.type n)(hd:o.data=.fields vs)
    (hn:["enumerate","zip","dict_itemiterator","dict_reverseitemiterator","odict_iterator","itertools.zip_longest","itertools.pairwise"].contains n=AT) (hQ:Q () s):Ev M A (letOwnedTupleGo tg (.ref it) u) Q E s:=by
  cases tg<;>first
    |exact P3 hQ
    | (cases u<;>first
        |exact P3 hQ
        | (refine T0<|wpAny_load ho ?_
           rw[hc,hd];show Ev M A (if(["enumerate","zip","dict_itemiterator","dict_reverseitemiterator","odict_iterator","itertools.zip_longest","itertools.pairwise"].contains n&&vs[0]?==AC _)=Da then _ else _) Q E s;rw[o0 (by intro h;rw[hn,Bool.false_and]at h;cases h)];exact P3 hQ))
def Itl(K:Db)(a:δ):It:=
 ⟨λ i H=>∃xs x,i4 K H a xs/\xs[i]?=AC x,λ i H x H'=>H'=H/\∀xs,i4 K H a xs->xs[i]?=AC x,λ i H=>∃xs,i4 K H a xs/\xs.length<=i⟩
def Itt(K:Db)(a:δ):It:=
 ⟨λ i H=>∃xs x,mi K H a xs/\xs[i]?=AC x,λ i H x H'=>H'=H/\∀xs,mi K H a xs->xs[i]?=AC x,λ i H=>∃xs,mi K H a xs/\xs.length<=i⟩
def Rt(lo:Int)(n:Nat):It:=⟨λ i _=>i<n,λ i H x H'=>H'=H/\x=.int (lo+i),λ i _=>n<=i⟩
theorem Fw{K:Db}(a it:δ):Turn P w K tg (Itl K a) [it] it (λ i h=>h.IsListIter it a i) where
 mem:=by simp
 obj:=λ i h st b hb=>by
  have e:b=it:=by simpa using hb
  subst e;let⟨o,e,c,d⟩:=st;exact⟨o,e,λ v z=>by rw[d]at z;cases z⟩
 keep:=λ i h h' st k=>st.at λ o e=>k it ∅ o e
 item:=by intro X hP hw hK hc i χ s σ H E I hf st hg;subst hP hw hK;let⟨xs,x,hq,hx⟩:=hg;let⟨aW,rv,p,hz⟩:=I.list hq;let⟨u,hu,ru⟩:=rv.get hx;let⟨f0,f1,f2,f3,f4,f5⟩:=hf it ∅;refine wpAny_pyNext_list_item st p.isList (by simpa using hu) λ h' yH sb=>?_;have I1:=I.turned (t':=s.toks) (λ b o hb e=>(sb.2 b hb).trans e) f0 f1 f3 f4 f5;let⟨o,e,c,d⟩:=id yH;exact⟨u,rfl,As e c d ∅ ⟨x,H,I1,ru,⟨rfl,λ ys hy=>by rw[I.oC hy hq];exact hx⟩,yH,λ b hb=>(hf b hb).1⟩⟩
 done:=by intro X hP hw hK hc i χ s σ H E I hf st hg;subst hP hw hK;let⟨xs,hq,hx⟩:=hg;let⟨aW,rv,p,hz⟩:=I.list hq;let⟨f0,f1,f2,f3,f4,f5⟩:=hf it ∅;have hl:=rv.length;exact wpAny_pyNext_list_end (I.ok.hd hc) st p.isList (by simp;lia) λ h' eb=>⟨rfl,I.turned (λ b o hb e=>eb b o hb e) f0 f1 f3 f4 f5⟩
 self:=λ _ _ _ _ _ st h=>wpAny_pyIter_listiter st h
theorem Bz{K:Db}(a it:δ):Turn P w K tg (Itt K a) [it] it (λ i h=>h.IsTupleIter it a i) where
 mem:=by simp
 obj:=λ i h st b hb=>by
  have e:b=it:=by simpa using hb
  subst e;let⟨o,e,c,d⟩:=st;exact⟨o,e,λ v z=>by rw[d]at z;cases z⟩
 keep:=λ i h h' st k=>st.at λ o e=>k it ∅ o e
 item:=by intro X hP hw hK hc i χ s σ H E I hf st hg;subst hP hw hK;let⟨xs,x,hq,hx⟩:=hg;let⟨aW,rv,p,hz⟩:=I.tuple hq;let⟨u,hu,ru⟩:=rv.get hx;let⟨f0,f1,f2,f3,f4,f5⟩:=hf it ∅;refine wpAny_pyNext_tuple_item st (p) (by simpa using hu) λ h' yH sb=>?_;have I1:=I.turned (t':=s.toks) (λ b o hb e=>(sb.2 b hb).trans e) f0 f1 f3 f4 f5;let⟨o,e,c,d⟩:=id yH;exact⟨u,rfl,As e c d ∅ ⟨x,H,I1,ru,⟨rfl,λ ys hy=>by rw[I.pK hy hq];exact hx⟩,yH,λ b hb=>(hf b hb).1⟩⟩
 done:=by intro X hP hw hK hc i χ s σ H E I hf st hg;subst hP hw hK;let⟨xs,hq,hx⟩:=hg;let⟨aW,rv,p,hz⟩:=I.tuple hq;let⟨f0,f1,f2,f3,f4,f5⟩:=hf it ∅;have hl:=rv.length;exact wpAny_pyNext_tuple_end (I.ok.hd hc) st (p) (by simp;lia) λ h' eb=>⟨rfl,I.turned (λ b o hb e=>eb b o hb e) f0 f1 f3 f4 f5⟩
 self:=λ _ _ _ _ _ st h=>wpAny_pyIter_tupleiter st h
theorem BA{K:Db}(it:δ)(lo:Int)(n:Nat):Turn P w K tg (Rt lo n) [it] it (λ i h=>IsRangeIter h it (lo+(i)*1) ((n)-(i)) 1) where
 mem:=by simp
 obj:=λ i h st b hb=>by
  have e:b=it:=by simpa using hb
  subst e;exact⟨_,st,λ v z=>by have z':=z;cases z'⟩
 keep:=λ i h h' st k=>k it ∅ _ st
 item:=by intro X hP hw hK hc i χ s σ H E I hf st hg;subst hP hw hK;let⟨f0,f1,f2,f3,f4,f5⟩:=hf it ∅;have W:=Walks.range (prog:=X.prog) (w:=X.w) (I.ok.hd hc) it lo 1 n;refine W.item i s _ _ hg st λ v h' tk hv yH kk=>?_;let⟨t,rfl⟩:=hv;have I1:Inv X χ σ H {s with heap:=h',toks:=tk}:=I.turned (λ b o hb e=>kk b o (by simpa using hb) e) f0 f1 f3 f4 f5;refine⟨_,rfl,As yH rfl rfl ∅ ⟨.int<|lo+i,H,I1,⟨t,?_⟩,⟨rfl,rfl⟩,yH,λ b hb=>(hf b hb).1⟩⟩;rw[B48]
 done:=by intro X hP hw hK hc i χ s σ H E I hf st hg;subst hP hw hK;let⟨f0,f1,f2,f3,f4,f5⟩:=hf it ∅;exact wpAny_pyNext_range_end (I.ok.hd hc) st (by have:n<=i:=hg;lia) λ h' eb=>⟨rfl,I.turned (λ b o hb e=>eb b o hb e) f0 f1 f3 f4 f5⟩
 self:=λ _ _ _ _ _ st h=>wpAny_pyIter_rangeiter st h
def dR(ta:TA):TI:=λ σ H R=>ta σ H λ vs H1=>∃j:Int,vs=[.int j]/\-(2^62)<=j/\j<2^62/\R (Rt 0 j.toNat) H1
def Ak(ta:TA):TI:=λ σ H R=>ta σ H λ vs H1=>∃i j:Int,vs=[.int i,.int j]/\(-(2^62)<=i/\i<2^62/\-(2^62)<=j/\j<2^62)/\R (Rt i (j-i).toNat) H1
def aag(wi:TI)(g:TG)(tb:TS):TS:=λ D σ H=>wi σ H λ J H1=>∃W:Nat->Nat->St->Hp->Prop,(∃m,W 0 m σ H1)/\∀i m σ H,W i m σ H ->
 (J.stop i H/\D.nx σ H)\/(J.go i H/\∃N:St->Hp->Prop,(∀σ' H',N σ' H'->∃m',m'<m/\W (i+1) m' σ' H')/\∀x H',J.Be i H x H'->g x σ H' λ σ2 H2=>tb {D with nx:=N,ct:=N,bk:=D.nx} σ2 H2)
def sV(fp:γ δ)(h:ν):γ (δ×μ):=fp.filterMap λ b=>(h.get? b).map λ o=>(b,o)
theorem jY(hb:b∈fp)(e:h.get? b=AC o):(b,o)∈sV fp h:=B77.mpr ⟨b,hb,by rw[e];rfl⟩
theorem FZ(hp:p∈sV fp h):p.1∈fp/\h.get? p.1=AC p.2:=by
 let⟨b,hb,e⟩:=B77.mp hp;cases q:h.get? b with
 |none=>rw[q]at e;cases e
 |some o=>rw[q]at e;have e':=A05 e;subst e';exact⟨hb,q⟩
theorem Inv.pinned(I:Inv X χ σ H s)(hf:∀b∈fp,pw X χ H b)(ho:∀b∈fp,∃o,s.heap.get? b=AC o/\∀v,o.data≠.cell v):Inv X (χ++sV fp s.heap) σ H s:=
 I.DN λ p hp=>(A37.mp hp).elim (λ z=>I.pin p<|A42 _ z) λ z=>by let⟨hb,e⟩:=FZ z;let⟨f0,f1,f2,_⟩:=hf p.1 hb;let⟨o,e',d⟩:=ho p.1 hb;rw[e]at e';cases e';exact⟨e,f0,f1,f2,d⟩
theorem Inv.nV(I:Inv X (χ++pl) σ H s):Inv X χ σ H s:=I.DN λ p hp=>I.pin p<|A42 _<|A76 _ hp
theorem II(hp:PassesOwn (model X.prog X.w) X.A X.env X.xe)(hc:X.calm=Da)(hi:PI X tg iter wi)(hg:PG X tg g)(hb:qp X body tb)
 (hs:Fi iter X.env:=by intro _;rfl):PS X (.For tg iter body [] pos) (aag wi g tb):=by
 intro χ s σ H D I h;refine wpAny_For (b! (hi χ s σ H _ I h) λ v s1 h1=>b! h1 λ itv s2 h2=>?_) hs;let⟨it,fp,tn,J,H2,e,I2,T,LS,f2,W,⟨m0,w0⟩,turn⟩:=h2;subst e
 -- _7 stays true of RU Cj objects through RU loop
 have BH:∀{H'},(∀b∈fp,H' b=Ch)->∀b∈fp,pw X χ H' b:=λ hn b hb=>⟨hn b hb,(f2 b hb).2⟩
 refine codeAny_forLoop_any (λ n s'=>∃i σ' H',Inv X χ σ' H' s'/\tn i s'.heap/\(∀b∈fp,H' b=Ch)/\W i n σ' H') ?_ m0 ⟨0,σ,H2,I2,LS,λ b hb=>(f2 b hb).1,w0⟩;rintro n s3 ⟨i,σ3,H3,I3,Qs,YK,w3⟩;rcases turn i n σ3 H3 w3 with⟨stop,qn⟩|⟨go,N,hN,step⟩
 .refine B19 hp<|b! (T.done X rfl rfl rfl hc i χ s3 σ3 H3 X.xe I3 (BH YK) Qs stop) ?_;rintro r s4 ⟨hr,I4⟩;subst hr;exact B47 ⟨σ3,H3,I4,qn⟩
 .refine B19 hp<|b! (T.item X rfl rfl rfl hc i χ s3 σ3 H3 X.xe I3 (BH YK) Qs go) ?_;rintro r s4 ⟨u,hr,h4⟩;subst hr;refine B19 hp<|b! h4 ?_;rintro _ s5 ⟨x,H5,I5,r5,y5,xq,fr5⟩;have I5':=I5.pinned (BH fr5)<|T.obj _ _ xq;refine B19 hp<|b! (hg _ s5 σ3 H5 x u _ I5' r5<|step x H5 y5) ?_;rintro _ s6 ⟨σ6,H6,I6,q6⟩;refine B19 hp<|b! (hb _ s6 σ6 H6 _ I6 q6) λ f s7 q7=>?_;have again:∀{σ7}{H7},Inv X (χ++sV fp s5.heap) σ7 H7 s7->N σ7 H7->∃m,m<n/\∃i σ' H',Inv X χ σ' H' s7/\tn i s7.heap/\(∀b∈fp,H' b=Ch)/\W i m σ' H':=λ {σ7 H7} I7 n7=>by let⟨m',hm,w7⟩:=hN σ7 H7 n7;refine⟨m',hm,i+1,σ7,H7,I7.nV,T.keep _ _ _ xq λ b hb o e=>(I7.pin (b,o)<|A42 _<|A42 _<|jY hb e).1,λ b hb=>?_,w7⟩;let⟨o,e,d⟩:=T.obj _ _ xq b hb;exact(I7.pin (b,o)<|A42 _<|A42 _<|jY hb e).2.1
  cases f with
  |next=>let⟨σ7,H7,I7,n7⟩:=q7;exact again I7 n7
  |cont=>let⟨σ7,H7,I7,n7⟩:=q7;exact again I7 n7
  |brk=>let⟨σ7,H7,I7,q7⟩:=q7;exact⟨σ7,H7,I7.nV,q7⟩
  |ret v=>let⟨x7,σ7,H7,I7,r7,q7⟩:=q7;exact⟨x7,σ7,H7,I7.nV,r7,q7⟩
abbrev R2:=V->V->Hp->VK->Prop
def jk(X:Cx)(f:ζ->ζ->Sem ζ)(r:R2):Prop:=
 ∀ (χ:γ (δ×μ))(s:η)(σ:St)(H:Hp)(x y:V)(v u:ζ)(Q:VK),Inv X χ σ H s->RelV x v->RelV y u->r x y H Q ->
  Ev (model X.prog X.w) X.A (f v u) (EP X χ σ Q) X.xe s
def UnR(X:Cx)(f:ζ->Sem ζ)(r:V->Hp->VK->Prop):Prop:=
 ∀ (χ:γ (δ×μ))(s:η)(σ:St)(H:Hp)(x:V)(v:ζ)(Q:VK),Inv X χ σ H s->RelV x v->r x H Q ->
  Ev (model X.prog X.w) X.A (f v) (EP X χ σ Q) X.xe s
def lO(X:Cx)(f:ζ)(r:γ V->Hp->VK->Prop):Prop:=
 ∀ (χ:γ (δ×μ))(s:η)(σ:St)(H:Hp)(xs:γ V)(us:γ ζ)(Q:VK),Inv X χ σ H s->Vals xs us->r xs H Q ->
  Ev (model X.prog X.w) X.A (call f us) (EP X χ σ Q) X.xe s
def Qp(r:R2)(ta tb:TE):TE:=λ σ H Q=>ta σ H λ x H1=>tb σ H1 λ y H2=>r x y H2 Q
def tUn(r:V->Hp->VK->Prop)(ta:TE):TE:=λ σ H Q=>ta σ H λ x H1=>r x H1 Q
def rI(C:Int->Int->Prop)(g:Int->Int->V):R2:=λ x y H Q=>∃i j,x=.int i/\y=.int j/\C i j/\Q (g i j) H
def M'(g:Int->Int->V):R2:=λ x y H Q=>∃i j,x=.int i/\y=.int j/\Q (g i j) H
def rU(g:Int->V):V->Hp->VK->Prop:=λ x H Q=>∃i,x=.int i/\Q (g i) H
theorem U8(ha:PE X a ta)(hb:PE X b tb){R:V->V->Hp->Prop}(I:Inv X χ σ H s)
 (h:ta σ H λ x H1=>tb σ H1 λ y H2=>R x y H2){f:ζ->ζ->Sem ζ}
 (hf:∀v u s2 x y H2,Inv X χ σ H2 s2->RelV x v->RelV y u->R x y H2->Ev (model X.prog X.w) X.A (f v u) Q X.xe s2) :
 Ev (model X.prog X.w) X.A (eval a X.env) (λ v s₁=>Ev (model X.prog X.w) X.A (eval b X.env) (λ u s₂=>Ev (model X.prog X.w) X.A (f v u) Q X.xe s₂) X.xe s₁) X.xe s:=by
 refine b! (ha χ s σ H _ I h) ?_;rintro v s1 ⟨x,H1,I1,r1,q1⟩;refine b! (hb χ s1 σ H1 _ I1 q1) ?_;rintro u s2 ⟨y,H2,I2,r2,q2⟩;exact hf v u s2 x y H2 I2 r1 r2 q2
theorem DQ(ho:jk X (binaryOp op) r)(ha:PE X a ta)(hb:PE X b tb):PE X (.BinOp a op b pos) (Qp r ta tb):=by intro χ s σ H Q I h;exact wpAny_BinOp<|U8 ha hb I h λ v u s2 x y H2 I2 rx ry q=>ho χ s2 σ H2 x y v u Q I2 rx ry q
theorem WV(ho:UnR X (unaryOp op) r)(ha:PE X a ta):PE X (.UnaryOp op a pos) (tUn r ta):=by intro χ s σ H Q I h;exact UnaryOp_<|b! (ha χ s σ H _ I h) <|by rintro v s1 ⟨x,H1,I1,r1,q1⟩;exact ho χ s1 σ H1 x v Q I1 r1 q1
theorem W4{g:Int->Int->Int}
 (rule:∀i j t u s Q E,C i j->Q (.int (g i j) s.toks) {s with toks:=s.toks+1}->Ev (model X.prog X.w) X.A (f (.int i t)<|.int j u) Q E s) :
 jk X f (rI C λ i j=>.int<|g i j):=by
 intro χ s σ H x y v u Q I rx ry h;let⟨i,j,rfl,rfl,hc,q⟩:=h;let⟨t,rfl⟩:=rx;let⟨t',rfl⟩:=ry;exact rule i j t t' s _ _ hc ⟨.int _,H,I.tok _,⟨_,rfl⟩,q⟩
theorem W3{g:Int->Int->Int}
 (rule:∀i j t u s Q E,Q (.int (g i j) s.toks) {s with toks:=s.toks+1}->Ev (model X.prog X.w) X.A (f (.int i t)<|.int j u) Q E s) :
 jk X f (M' λ i j=>.int<|g i j):=by
 intro χ s σ H x y v u Q I rx ry h;let⟨i,j,rfl,rfl,q⟩:=h;let⟨t,rfl⟩:=rx;let⟨t',rfl⟩:=ry;exact rule i j t t' s _ _ ⟨.int _,H,I.tok _,⟨_,rfl⟩,q⟩
theorem Nt{g:Int->Int->Bool}
 (rule:∀i j t u s Q E,Q (.bool<|g i j) s->Ev (model X.prog X.w) X.A (f (.int i t)<|.int j u) Q E s) :
 jk X f (M' λ i j=>.bl<|g i j):=by
 intro χ s σ H x y v u Q I rx ry h;let⟨i,j,rfl,rfl,q⟩:=h;let⟨t,rfl⟩:=rx;let⟨t',rfl⟩:=ry;exact rule i j t t' s _ _ ⟨.bl _,H,I,rfl,q⟩
def ade(i j:Int):Prop:=0<=j/\j<=1000000/\i.natAbs<2^64
theorem SA:jk X (binaryOp .Add) (M' λ i j=>.int<|i+j):=W3 λ _ _ _ _ _ _ _ q=>add_int q
theorem Ss:jk X (binaryOp .Sub) (M' λ i j=>.int<|i-j):=W3 λ _ _ _ _ _ _ _ q=>sub_int q
theorem Sx:jk X (binaryOp .Mod) (rI (λ _ j=>0<j) λ i j=>.int<|i % j):=W4 λ i j _ _ _ _ _ hc q=>by exact mod_int' ∅ (by rw[Int.fmod_eq_emod_of_nonneg i ∅];exact q)
theorem Sv:jk X (binaryOp .Pow) (rI ade λ i j=>.int<|i^j.toNat):=W4 λ _ _ _ _ _ _ _ hc q=>pow_int_small hc.1 hc.2.1 hc.2.2 q
theorem unI{g:Int->Int}
 (rule:∀i t s Q E,Q (.int (g i) s.toks) {s with toks:=s.toks+1}->Ev (model X.prog X.w) X.A (f<|.int i t) Q E s) :
 UnR X f (rU λ i=>.int<|g i):=by
 intro χ s σ H x v Q I rx h;let⟨i,rfl,q⟩:=h;let⟨t,rfl⟩:=rx;exact rule i t s _ _ ⟨.int _,H,I.tok _,⟨_,rfl⟩,q⟩
theorem RJ:UnR X (unaryOp .USub) (rU λ i=>.int<|-i):=unI λ _ _ _ _ _ q=>neg_int q
theorem yh(I:Inv X χ σ H s)(q:Q (.bl k) H)(e:k=k'):EP X χ σ Q (.bool k') s:=by subst e;exact⟨.bl k,H,I,rfl,q⟩
theorem WY:jk X (compareOp .Lt) (M' λ i j=>.bl<|decide<|i<j):=Nt λ _ _ _ _ _ _ _ q=>lt_int q
theorem WZ:jk X (compareOp .LtE) (M' λ i j=>.bl<|decide<|i<=j):=Nt λ _ _ _ _ _ _ _ q=>le_int q
theorem W0:jk X (compareOp .Gt) (M' λ i j=>.bl<|decide<|j<i):=Nt λ _ _ _ _ _ _ _ q=>gt_int q
theorem W2:jk X (compareOp .GtE) (M' λ i j=>.bl<|decide<|j<=i):=Nt λ _ _ _ _ _ _ _ q=>ge_int q
theorem Sy:jk X (compareOp .Is) (λ x y H Q=>y=.non/\Q (.bl<|decide<|x=.non) H):=by
 intro χ s σ H x y v u Q I rx ry h;let⟨rfl,q⟩:=h;cases ry;refine is_none_gen<|yh I q ?_;cases x<;>first
  |(cases rx;rfl)
  |(let⟨t,rfl⟩:=rx;rfl)
theorem Nl:jk X (compareOp .IsNot) (λ x y H Q=>y=.non/\Q (.bl<|!decide (x=.non)) H):=by
 intro χ s σ H x y v u Q I rx ry h;let⟨rfl,q⟩:=h;cases ry;refine isnot_none_gen<|yh I q ?_;cases x<;>first
  |(cases rx;rfl)
  |(let⟨t,rfl⟩:=rx;rfl)
theorem xH:jk X (compareOp .NotIn) (λ x y H Q=>∃i j,x=.str i/\y=.str j/\Q (.bl<|!(!(IR j i 0 j.length 1).isEmpty)) H):=by intro χ s σ H x y v u Q I rx ry h;let⟨i,j,rfl,rfl,q⟩:=h;let⟨t,rfl⟩:=rx;let⟨t',rfl⟩:=ry;exact notIn_str<|yh I q rfl
theorem jk.or(h:jk X f r)(h':jk X f r'):jk X f (λ x y H Q=>r x y H Q\/r' x y H Q):=by
 intro χ s σ H x y v u Q I rx ry q;rcases q with q|q
 .exact h χ s σ H x y v u Q I rx ry q
 .exact h' χ s σ H x y v u Q I rx ry q
theorem jn(b:θ)(h:op≠.In:=by decide)(h2:op≠.NotIn:=by decide):behindInMarks op b=AT:=by
 have e1:(op==CmpOp.In)=AT:=by cases op<;>first|rfl|exact absurd rfl h
 have e2:(op==CmpOp.NotIn)=AT:=by cases op<;>first|rfl|exact absurd rfl h2
 cases b<;>simp[behindInMarks,e1,e2]
theorem DV(ho:jk X (compareOp op) r)(ha:PE X a ta)(hb:PE X b tb)(hm:behindInMarks op b=AT):PE X (.Compare a [op] [b] pos) (Qp r ta tb):=by intro χ s σ H Q I h;exact wpAny_Compare1 (U8 ha hb I h λ v u s2 x y H2 I2 rx ry q=>ho χ s2 σ H2 x y v u Q I2 rx ry q) hm
def Dk(t:TE):TT:=λ σ H Q=>t σ H λ x H'=>∃k,x=.bl k/\Q k H'
theorem rL(ho:jk X (compareOp op) r)(ha:PE X a ta)(hb:PE X b tb)(hm:behindInMarks op b=AT):PT X (.Compare a [op] [b] pos) (Dk<|Qp r ta tb):=by
 intro χ s σ H Q I h;refine wpAny_isTrue_Compare1 (b! (ha χ s σ H _ I h) λ v s1 ⟨x,H1,I1,r1,q1⟩=>b! (hb χ s1 σ H1 _ I1 q1) λ u s2 ⟨y,H2,I2,r2,q2⟩=>b! (ho χ s2 σ H2 x y v u _ I2 r1 r2 q2) ?_) hm;rintro c s3 ⟨z,H3,I3,r3,k,e,q3⟩
 subst e;cases r3;exact A58 ⟨H3,I3,q3⟩
def BE(r r':R2)(ta tb tc:TE):TE:=λ σ H Q=>ta σ H λ x H1=>tb σ H1 λ y H2=>r x y H2 λ z H3=>∃k,z=.bl k /\
 (if k=Da then tc σ H3 λ w' H4=>r' y w' H4 Q else Q (.bl AT) H3)
theorem IU(ho:jk X (compareOp op) r)(oM:jk X (compareOp FU) r')(ha:PE X a ta)(hb:PE X b tb)(hc:PE X c tc)
 (hm:lastMarks [op,FU] [b,c]=AT:=by with_unfolding_all rfl):PE X (.Compare a [op,FU] [b,c] pos) (BE r r' ta tb tc):=by
 intro χ s σ H Q I h;refine Compare_chain (b! (ha χ s σ H _ I h) λ v s1 ⟨x,H1,I1,r1,q1⟩=>chain_link<|b! (hb χ s1 σ H1 _ I1 q1) λ u s2 ⟨y,H2,I2,r2,q2⟩=>b! (ho χ s2 σ H2 x y v u _ I2 r1 r2 q2) ?_) hm;rintro d s3 ⟨z,H3,I3,r3,k,e,q3⟩
 subst e;cases r3;refine A58 ?_;cases k with
 |false=>exact ite_ff ⟨.bl AT,H3,I3,rfl,q3⟩
 |true=>exact ite_tt<|chain_last<|b! (hc χ s3 σ H3 _ I3 q3) <|by rintro w' s4 ⟨z',H4,I4,r4,q4⟩;exact oM χ s4 σ H4 y z' u w' Q I4 r2 r4 q4
theorem IG(ho:jk X (compareOp op) r)(oM:jk X (compareOp FU) r')(ha:PE X a ta)(hb:PE X b tb)(hc:PE X c tc)
 (hm:lastMarks [op,FU] [b,c]=AT:=by with_unfolding_all rfl):PT X (.Compare a [op,FU] [b,c] pos) (Dk<|BE r r' ta tb tc):=by
 intro χ s σ H Q I h;refine isTrue_chain (b! (ha χ s σ H _ I h) λ v s1 ⟨x,H1,I1,r1,q1⟩=>test_link<|b! (hb χ s1 σ H1 _ I1 q1) λ u s2 ⟨y,H2,I2,r2,q2⟩=>b! (ho χ s2 σ H2 x y v u _ I2 r1 r2 q2) ?_) hm;rintro d s3 ⟨z,H3,I3,r3,k,e,q3⟩
 subst e;cases r3;refine A58 ?_;cases k with
 |false=>let⟨k',e',q'⟩:=q3;cases e';exact ite_ff ⟨H3,I3,q'⟩
 |true=>refine ite_tt<|test_last<|b! (hc χ s3 σ H3 _ I3 q3) λ w' s4 ⟨z',H4,I4,r4,q4⟩=>b! (oM χ s4 σ H4 y z' u w' _ I4 r2 r4 q4) ?_;rintro d' s5 ⟨z2,H5,I5,r5,k2,e2,q5⟩;subst e2;cases r5;exact A58 ⟨H5,I5,q5⟩
theorem xX:(sizeLine)<2^63:=by rw[A25];decide
theorem B0:jk X (binaryOp .Add) (λ x y H Q=>∃i j,x=.str i/\y=.str j/\i.length+j.length<=sizeLine/\Q (.str<|i++j) H):=by intro χ s σ H x y v u Q I rx ry h;let⟨i,j,rfl,rfl,hz,q⟩:=h;let⟨t,rfl⟩:=rx;let⟨t',rfl⟩:=ry;exact add_str (λ t' tk=>⟨.str _,H,I.tok _,⟨_,rfl⟩,q⟩) hz
theorem vals1(r:Vals [x] us):∃u,us=[u]/\RelV x u:=by
 cases r with
 |cons r1 r2=>cases r2;exact⟨_,rfl,r1⟩
theorem vals2(r:Vals [x,y] us):∃u w',us=[u,w']/\RelV x u/\RelV y w':=by
 cases r with
 |cons r1 r2=>
  cases r2 with
  |cons r3 r4=>cases r4;exact⟨_,_,rfl,r1,r3⟩
theorem G6(hc:X.calm=Da):lO X (.builtin "max") (λ xs H Q=>∃i j,xs=[.int i,.int j]/\Q (.int<|if j>i then j else i) H):=by
 intro χ s σ H xs us Q I r h;let⟨i,j,rfl,q⟩:=h;let⟨u,w',rfl,⟨t,rfl⟩,⟨t',rfl⟩⟩:=vals2 r;refine max_two_ints (I.ok.hd hc) λ h' tk k=>⟨_,H,I.kept k,?_,q⟩
 by_cases hj:j>i
 .rw[W1 hj,W1 hj];exact⟨_,rfl⟩
 .rw[o0 hj,o0 hj];exact⟨_,rfl⟩
theorem G5(hc:X.calm=Da):lO X (.builtin "min") (λ xs H Q=>∃i j,xs=[.int i,.int j]/\Q (.int<|if j<i then j else i) H):=by
 intro χ s σ H xs us Q I r h;let⟨i,j,rfl,q⟩:=h;let⟨u,w',rfl,⟨t,rfl⟩,⟨t',rfl⟩⟩:=vals2 r;refine min_two_ints (I.ok.hd hc) λ h' tk k=>⟨_,H,I.kept k,?_,q⟩
 by_cases hj:j<i
 .rw[W1 hj,W1 hj];exact⟨_,rfl⟩
 .rw[o0 hj,o0 hj];exact⟨_,rfl⟩
theorem wK:lO X (.type "int") (λ xs H Q=>(∃i,xs=[.int i]/\Q (.int i) H)\/∃k,xs=[.bl k]/\Q (.int<|if k then 1 else 0) H):=by
 intro χ s σ H xs us Q I r h;rcases h with⟨i,rfl,q⟩|⟨k,rfl,q⟩
 .let⟨u,rfl,t,rfl⟩:=vals1 r;exact call_int_int ⟨.int i,H,I,⟨_,rfl⟩,q⟩
 .let⟨u,rfl,r1⟩:=vals1 r;cases r1;exact call_int_bool ⟨.int _,H,I.tok _,⟨_,rfl⟩,q⟩
def ac6(K:Db)(x:V)(H:Hp)(n:Nat):Prop:=
 match x with
 |.str y=>y.length<=sizeLine/\n=y.length
 |.VY y=>y.size<=sizeLine/\n=y.size
 |.ref p=>(∃xs,i4 K H p xs/\n=xs.length)\/∃xs,mi K H p xs/\n=xs.length
 |_=>False
theorem Lm:lO X (.builtin "len") (λ xs H Q=>∃x n,xs=[x]/\ac6 X.K x H n/\Q (.int n) H):=by
 intro χ s σ H xs us Q I r h;let⟨x,n,rfl,e,q⟩:=h;let⟨u,rfl,rx⟩:=vals1 r;have hl:=xX;have hs:=A25;cases x with
 |str y=>let⟨t,rfl⟩:=rx;obtain⟨hy,e'⟩:y.length<=sizeLine/\n=y.length:=e;subst e';exact len_str ∅ ⟨.int _,H,I.tok _,⟨_,rfl⟩,q⟩
 |VY y=>let⟨t,rfl⟩:=rx;obtain⟨hy,e'⟩:y.size<=sizeLine/\n=y.size:=e;subst e';exact PySem.W.len_bytes ∅ ⟨.int _,H,I.tok _,⟨_,rfl⟩,q⟩
 |ref p=>
  cases rx;have e':=e;rcases e' with⟨xs,hx,e'⟩|⟨xs,hx,e'⟩
  .subst e';let⟨aW,r',pl,hz⟩:=I.list hx;have ψ:=r'.length;exact Calls.call_len_list pl.isList (by simp only[A10];lia) ⟨.int _,H,I.tok _,⟨_,by simp only[A10];rw[ψ]⟩,q⟩
  .subst e';let⟨aW,r',pl,hz⟩:=I.tuple hx;have ψ:=r'.length;exact len_tuple pl (by simp only[A10];lia) ⟨.int _,H,I.tok _,⟨_,by simp only[A10];rw[ψ]⟩,q⟩
 |_=>exact(e).elim
structure C6(h:Heap)(x dx C:Addr)(mA:Str->Option Value):Prop where
 obj:h.get? x=AC (TW C dx)
 ns:h.Ns1 dx mA
 ne:dx≠x
theorem F!{h:ν}(n:h.Ns1 dx mA):∃od,h.get? dx=AC od/\∀name,XV name od=AC (mA name):=by
 let⟨o,es,ep,ho,hd,hk,_,hm⟩:=n;refine⟨o,ho,λ name=>?_⟩;have e:=hm name;unfold nsFind findBy at e;rw[<-Array.find?_toList]at e;unfold XV;rw[hd];dsimp only;split
 .rename_i y q;rw[q]at e;exact A12 AC e
 .rename_i q;rw[q]at e;have a:es.toList.any (·.refKey)=AT:=by rw[List.any_eq_false];intro y hy;let⟨z,t,abK⟩:=hk y (Array.mem_toList_iff.mp hy);simp[DictEntry.refKey,abK]
  have a':¬es.toList.any (·.refKey)=Da:=by rw[a];exact A86
  rw[o0 a'];exact A12 AC e
theorem C6.look(I:C6 h x dx C mA):∃od,PySem.W.InstAt h x (TW C dx) C (AC od)/\∀name,XV name od=AC (mA name):=
 let ⟨od,ho,hl⟩:=F! I.ns
 ⟨od,⟨I.obj,rfl,rfl,ho⟩,hl⟩
section
variable{K:Db}
theorem get_map(X:K.In s.heap)(I:C6 s.heap x dx C mA)(hg:UV K C name=Da)(hh:ac K C=Da)
 (ha:GE K (.ref C) name=AC Ch) (hv:mA name=AC v) (L':AB9 v=Da) (h:Q v {s with toks:=s.toks+1}) :
 Ev (model prog w) A (getAttr (.ref x) name expr) Q E s:=by
 let⟨od,J,hl⟩:=I.look;exact PySem.W.get_value X J (B78 hg).1 (PySem.W.findObj_own hh ha rfl (by rw[hl,hv])) L' h
theorem Ki(X:K.In s.heap)(I:C6 s.heap x dx C mA)(hg:UV K C name=Da)
 (hf:GE K (.ref C) name=AC (AC<|.ref f)) (ht:AA3 K (.ref f)=Da) (hv:mA name=Ch) (h:Q (.ref f,[.ref x]) s) :
 Ev (model prog w) A (getMethod (.ref x) name pl) Q E s:=by
 let⟨od,J,hl⟩:=I.look;exact PySem.W.method_fn X J (B78 hg).1 (B78 hg).2 hf (A26.mp ht) (by show(XV name od).map _=AC AT;rw[hl,hv];rfl) h
theorem MY(X:K.In s.heap)(I:C6 s.heap x dx C mA)
 (hs:GE K (.ref C) "__setattr__"=AC (AC<|.builtin "object.__setattr__")) (hp:AA4 K C=Da) (ht:ci K C name=AC Ch) (hh:ac K C=Da)
 (hw:AA6 mA ns) (Co:ns.length<=sizeLine)
 (h:∀h',C6 h' x dx C (λ y=>if y=name then AC v else mA y)->Ix dx s.heap h'->Q () {s with heap:=h',toks:=s.toks+2}) :
 Ev (model prog w) A (setAttr (.ref x) name v) Q E s:=by
 let⟨od,J,hl⟩:=I.look;refine AA5 X J hs<|PySem.W.osa_open X J hp ht λ b=>?_;let⟨cd,hc,pC⟩:=PySem.W.any_some hh;have hx:=I.obj;refine T0<|P3<|T0<|T0<|wpAny_loadPart hx<|T0<|PySem.W.Looks.here (pc X hc) ?_;rw[pC];refine P3<|T0<|P3<|T0 ?_;refine wpAny_nsSet1 I.ns λ h' OH Al=>?_;let⟨oD,esD,epD,hoD,hdD,hcD⟩:=OH.count (PySem.Within.cons name v hw);refine T0<|wpAny_lookBehind hoD (by rw[hdD];exact pastItsLine_dict<|A11 hcD (by rw[A27];lia)) ?_;exact P3<|h _ ⟨(Al.2 _<|A09 I.ne).trans I.obj,OH,I.ne⟩ Al
theorem JD(X:K.In s.heap)(hm:ce K C=Da)
 (hi:GE K (.ref C) "__init__"=AC (AC<|.ref f)) (hf:PySem.W.typeIn K (.ref f)=AC (.type "function"))
 (h:codeAny (model prog w) (A.under<|.builtin "type.__call__" ⟨.ref C::vs,kw⟩) (.call (.ref f) ⟨.ref (s.heap.objs.size+1)::vs,kw⟩) (PySem.W.InitBack (s.heap.objs.size+1) R)
  {s with heap:=(s.heap.push Rs).push<|PySem.W.instObj C s.heap.objs.size}) :
 codeAny (model prog w) A (.call (.ref C) ⟨vs,kw⟩) R s:=by
 let⟨hh,g,d,t,os⟩:=s;exact PySem.W.make_core (PySem.W.makes_of X hm) (PySem.W.looks_findIn X hi) (λ self=>PySem.W.bind_fn X self hf) (.inl rfl) h
end
def jW(f:Str)(v:V):γ (Str×V)->γ (Str×V)
|[]=>[(f,v)]
|(g,x)::r=>if g=f then(g,v)::r else(g,x)::jW f v r
theorem qJ(f g:Str)(v:V):∀ fs,(jW f v fs).lookup g=if g=f then AC v else fs.lookup g
|[]=>by
 show Fk g [(f,v)]=_;by_cases h:g=f
 .have hb:=A26.mpr h;simp only[Fk,hb,W1 h]
 .have hb:=A67.mpr h;simp only[Fk,hb,o0 h]
|(k,x)::r=>by
 have ih:=qJ f g v r;rw[show jW f v _=(if k=f then(k,v)::r else(k,x)::jW f v r)from rfl];by_cases hk:k=f
 .rw[W1 hk];by_cases h:g=k
  .have hb:=A26.mpr h;simp only[Fk,hb,W1<|h.trans hk]
  .have hb:=A67.mpr h;simp only[Fk,hb,o0 λ e:g=f=>h<|e.trans hk.symm]
 .rw[o0 hk];by_cases h:g=k
  .have hb:=A26.mpr h;simp only[Fk,hb,o0 λ e=>hk<|h.symm.trans e]
  .have hb:=A67.mpr h;simp only[Fk,hb];exact ih
theorem p5(f:Str)(v:V):∀ fs,f∈(jW f v fs).map (·.1)/\∀ g,g∈fs.map (·.1)->g∈(jW f v fs).map (·.1)
|[]=>⟨by simp[jW],λ g h=>by simp at h⟩
|(k,x)::r=>by
 let⟨i1,i2⟩:=p5 f v r;rw[show jW f v _=(if k=f then(k,v)::r else(k,x)::jW f v r)from rfl];by_cases hk:k=f
 .rw[W1 hk];subst hk;exact⟨by simp,λ g h=>by simpa using h⟩
 .rw[o0 hk];refine⟨?_,λ g h=>?_⟩
  .rw[v4];exact A07 _ i1
  .rw[v4]at h ⊢;rcases A01.mp h with e|e
   .exact A01.mpr<|.inl e
   .exact A07 _<|i2 g e
theorem qL(f:Str)(v:V):∀fs,(jW f v fs).length<=fs.length+1
|[]=>by simp[jW]
|(k,x)::r=>by
 have ih:=qL f v r;rw[show jW f v _=(if k=f then(k,v)::r else(k,x)::jW f v r)from rfl];by_cases hk:k=f
 .rw[W1 hk,A27,A27];lia
 .rw[o0 hk,A27,A27];lia
theorem kQ.some_of(r:kQ (AC v) o):∃u,o=AC u/\RelV v u:=by
 cases o with
 |none=>exact(r).elim
 |some u=>exact⟨u,rfl,r⟩
theorem kQ.none_of(r:kQ Ch o):o=Ch:=by
 cases o with
 |none=>rfl
 |some u=>exact(r).elim
theorem Gu(r:RelV v u):AB9 u=Da:=by
 cases v with
 |non=>cases (r);rfl
 |bl b=>cases (r);rfl
 |int i=>obtain⟨t,e⟩:=(r);cases e;rfl
 |str x=>obtain⟨t,e⟩:=(r);cases e;rfl
 |VY b=>obtain⟨t,e⟩:=(r);cases e;rfl
 |_I b=>obtain⟨t,e⟩:=(r);cases e;rfl
 |ref a=>cases (r);rfl
 |ty n=>cases (r);rfl
theorem x!(bG:kR P w H h)(e:H a=AC (.ins C dx fs)):∃mA,C6 h a dx C mA/\(∀f,kQ (fs.lookup f) (mA f))/\AA6 mA (fs.map (·.1))/\fs.length<=1000/\H dx=AC (.own a):=by
 obtain⟨d,z,ne,ob,mA,n,r,q⟩:=(bG a _ e)
 exact⟨mA,⟨ob,n,ne⟩,r,q,z,d⟩
structure LO(K:Db)(C:Addr):Prop where
 pg:UV K C Str.empty=Da
 hd:ac K C=Da
 po:AA4 K C=Da
 sa:GE K (.ref C) "__setattr__"=AC (AC<|.builtin "object.__setattr__")
theorem LO.get{K:Db}(c:LO K C)(f:Str):UV K C f=Da:=c.pg
def qq(K:Db)(C:δ)(f:Str):Prop:=GE K (.ref C) f=AC Ch
theorem qq.Wf{K:Db}(n:qq K C f):ci K C f=AC Ch:=by unfold ci;rw[n];rfl
structure Meth(K:Db)(C:Addr)(m:Str)(f:Addr):Prop where
 at_:GE K (.ref C) m=AC (AC<|.ref f)
 fn:AA3 K (.ref f)=Da
 kp:Fa K (.ref f)=Da
theorem Cu(I:Inv X χ σ H s)(e:H a=AC (.ins C dx fs))(c:LO X.K C)(n:qq X.K C f)(l:fs.lookup f=AC v)
 (h:∀u s',Inv X χ σ H s'->RelV v u->Q u s'):Ev (model X.prog X.w) A (getAttr (.ref a) f b) Q E s:=by
 let⟨mA,O,r,_,_,_⟩:=x! I.bG e;let⟨u,hu,ru⟩:=kQ.some_of (v:=v) (o:=mA f) (by rw[<-l];exact r f);exact get_map I.lX O (c.get f) c.hd n hu (Gu ru)<|h u _ (I.tok _) ru
theorem nv(I:Inv X χ σ H s)(e:H a=AC (.ins C dx fs))(c:LO X.K C)(k:Meth X.K C m g)(l:fs.lookup m=Ch)
 (h:Q (.ref g,[.ref a]) s):Ev (model X.prog X.w) A (getMethod (.ref a) m pl) Q E s:=by
 let⟨mA,O,r,_,_,_⟩:=x! I.bG e;have hn:=kQ.none_of (by rw[<-l];exact r m);exact Ki I.lX O (c.get m) k.at_ k.fn hn h
theorem BK(I:Inv X χ σ H s)(e:H a=AC (.ins C dx fs))(c:LO X.K C)(n:qq X.K C f)(hl:fs.length<1000)(ry:RelV y u)
 (h:∀s',Inv X χ σ (upd H a<|.ins C dx<|jW f y fs) s'->Q () s'):Ev (model X.prog X.w) A (setAttr (.ref a) f u) Q E s:=by
 let⟨mA,O,r,wi,_,ho⟩:=x! I.bG e;have hz:(fs.map (·.1)).length<=sizeLine:=by rw[A04,A25];lia
 refine MY I.lX O c.sa c.po n.Wf c.hd wi hz λ h' O' sb=>h _ ?_;have hd:∃o,h'.get? dx=AC o:=let ⟨o,_,_,e',_⟩:=O'.ns;⟨o,e'⟩;refine I.write (by rw[e];exact KF) (.inr ho) (λ b q hb z=>(sb.2 b hb).trans z) hd ?_;refine⟨by rw[au O.ne];exact ho,?_,O.ne,O'.obj,_,O'.ns,λ g=>?_,λ g hg=>?_⟩
 .have:=qL f y fs;lia
 .skip
  rw[qJ];by_cases q:g=f
  .rw[W1 q,W1 q];exact ry
  .rw[o0 q,o0 q];exact r g
 .by_cases q:g=f
  .rw[q];exact(p5 f y fs).1
  .refine(p5 f y fs).2 g<|wi g λ z=>hg ?_;show(if g=f then AC u else mA g)=Ch;rw[o0 q];exact z
theorem Inv.made(I:Inv X χ σ H s):Inv X χ σ (upd (upd H s.heap.objs.size<|.own<|s.heap.objs.size+1) (s.heap.objs.size+1)<|.ins C s.heap.objs.size [])
 {s with heap:=(s.heap.push Rs).push<|PySem.W.instObj C s.heap.objs.size}:=by
 have e1:(s.heap.push _).get? _=AC Rs:=A17 _ rfl;have e2:((s.heap.push Rs).push<|PySem.W.instObj C s.heap.objs.size).get? (s.heap.objs.size+1)=AC (TW C s.heap.objs.size):=by have:=A17 (s.heap.push Rs) (o:=TW C s.heap.objs.size) rfl;rwa [A54]at this
 have e3:(s.heap.push _).Ns _ (λ _=>Ch):=⟨_,#[],_,e1,rfl,(λ e he=>absurd he ∅),λ _=>rfl⟩
 have I1:=I.laid (o:=.own (s.heap.objs.size+1)) (t':=s.toks) (λ b u q=>f8 _ q) (M2 _) ⟨_,e1⟩;refine I1.laid (λ b u q=>f8 _ q) (B79<|A54 _ _) ?_;have ne:s.heap.objs.size≠s.heap.objs.size+1:=A13<|A63 _;refine⟨by rw[au ne,aA],A47 _,ne,e2,λ _=>Ch,(Heap.Ns1.of_empty e3).at λ o q=>f8 _ q,λ _=>KF,λ y hy=>absurd rfl hy⟩
theorem PZ(hb:attributeBase e f env (eval e env)=eval e env)
 (h:Ev (model prog w) A (eval e env) (λ o s₁=>Ev (model prog w) A (getAttr o f Da) Q E s₁) E s):Ev (model prog w) A (eval (.Attribute e f pos) env) Q E s:=
 Attribute_any_ h (by rw[arm_eval_Attribute,hb])
def aah(K:Db)(ta:TE)(f:Str):TE:=λ σ H Q=>ta σ H λ x H1=>∃a C dx fs v,x=.ref a/\H1 a=AC (.ins C dx fs)/\LO K C/\qq K C f/\fs.lookup f=AC v/\Q v H1
def aar(K:Db)(ta tv:TE)(f:Str):TS:=λ D σ H=>tv σ H λ y H1=>ta σ H1 λ x H2=>∃a C dx fs,x=.ref a/\H2 a=AC (.ins C dx fs)/\LO K C/\qq K C f/\fs.length<1000 /\
 D.nx σ (upd H2 a<|.ins C dx<|jW f y fs)
theorem Sk(he:PE X e ta)(hb:attributeBase e f X.env (eval e X.env)=eval e X.env):PE X (.Attribute e f pos) (aah X.K ta f):=by intro χ s σ H Q I h;refine PZ hb<|b! (he χ s σ H _ I h) ?_;rintro u s1 ⟨x,H1,I1,rx,a,C,dx,fs,v,ex,ea,c,n,l,q⟩;subst ex;obtain rfl:u=Value.ref a:=rx;exact Cu I1 ea c n l λ u' s2 I2 ru=>⟨v,H1,I2,ru,q⟩
theorem R!(ha:PE X o ta)(hv:PE X value tv)(hs:swapsWith value (AC<|.Attribute o f pos') pos.line X.env=pure AT):PS X (.Assign [.Attribute o f pos'] value pos) (aar X.K ta tv f):=by intro χ s σ H D I h;refine C36 (b! (hv χ s σ H _ I h) λ u s1 ⟨y,H1,I1,ry,q⟩=>b! (ha χ s1 σ H1 _ I1 q) ?_) hs;rintro ov s2 ⟨x,H2,I2,rx,a,C,dx,fs,ex,ea,c,n,l,q2⟩;subst ex;obtain rfl:ov=Value.ref a:=rx;exact BK I2 ea c n l ry λ s3 I3=>⟨σ,_,I3,q2⟩
structure bh(k:Nat)(A:Around):Prop where
 hd:A.handled=Ch
 dp:A.depth+3*k+5<recursionLimit
 un:A.units+16*k+200<cLine
theorem bh.mono(r:bh k A)(h:j<=k):bh j A:=⟨r.hd,by have:=r.dp;lia,by have:=r.un;lia⟩
theorem bh.deeper(r:bh (k+1) A)(env:Env):bh k (A.deeper env):=
 ⟨r.hd,by have:=r.dp;show A.depth+1+3*k+5<_;lia,by have:=r.un;show A.units+3+16*k+200<_;lia⟩
theorem bh.in1(r:bh (k+1) A):bh k A.in1:=
 ⟨r.hd,by have:=r.dp;lia,by have:=r.un;lia⟩
theorem B'{A:τ}{C:δ}{us:γ ζ}{kw:γ (Str×ζ)}:(A.under<|.builtin "type.__call__" ⟨.ref C::us,kw⟩).depth=A.depth+1:=by first| rfl| simp[Around.under,Code.weight,Code.isCreation,Code.isGuard,Code.isCaller,Code.frames,Code.isFrame,guardIds]
theorem B9{A:τ}:(A.under<|.builtin "type.__call__" ⟨.ref C::us,kw⟩).units=A.units+1:=by first| rfl| simp[Around.under,Code.cUnits,Code.frames,Code.isFrame]
theorem bh.make(r:bh (k+1) A)(C:δ)(us:γ ζ)(kw:γ _):bh k (A.under<|.builtin "type.__call__" ⟨.ref C::us,kw⟩):=
 ⟨r.hd,by have:=r.dp;rw[B'];lia,by have:=r.un;rw[B9];lia⟩
theorem bh.depth(r:bh k A):A.depth<recursionLimit:=by have:=r.dp;lia
theorem bh.units(r:bh k A):A.units+64<cLine:=by have:=r.un;lia
def MI:TA:=λ _ H Q=>Q [] H
def Ia(ta:TE)(tr:TA):TA:=λ σ H Q=>ta σ H λ x H1=>tr σ H1 λ xs H2=>Q (x::xs) H2
theorem bV:PA X [] MI:=λ _ _ _ _ H Q I h=>Calls.spliced_nil ⟨[],H,I,.nil,h⟩
theorem a6(ha:PE X e te)(hr:PA X es t)(hs:Se e es X.env:=by rfl):PA X (e::es) (Ia te t):=by intro pos χ s σ H Q I h;rw[hs];refine Calls.spliced_cons<|b! (ha χ s σ H _ I h) ?_;rintro u s1 ⟨x,H1,I1,r1,q1⟩;exact b! (hr pos χ s1 σ H1 _ I1 q1) <|by rintro us s2 ⟨xs,H2,I2,r2,q2⟩;exact⟨x::xs,H2,I2,.cons r1 r2,q2⟩
def aaa(t:TA):TE:=λ σ H Q=>t σ H λ xs H1=>xs.length<=sizeLine/\∀p,H1 p=Ch->Q (.ref p) (upd H1 p<|.tup xs)
def aae(t:TA):TE:=λ σ H Q=>t σ H λ xs H1=>xs.length<=sizeLine/\∀p,H1 p=Ch->Q (.ref p) (upd H1 p<|.lst xs)
theorem Sd(h:PA X es t):PE X (.Tuple es x1 pos) (aaa t):=by intro χ s σ H Q I hq;refine wpAny_Tuple_spliced<|b! (h pos χ s σ H _ I hq) λ us s1 ⟨xs,H1,I1,r,z,q⟩=>⟨by rw[<-r.length];exact z,?_⟩;have hf:=I1.bG.fresh<|M2 _;refine⟨.ref _,_,I1.laid (λ b u e=>f8 _ e) (M2 _) ?_,rfl,q _ hf⟩;exact⟨z,us,r,pq.new _ _⟩
theorem Si(h:PA X es t):PE X (.List es pos) (aae t):=by intro χ s σ H Q I hq;refine wpAny_List_spliced<|b! (h pos χ s σ H _ I hq) λ us s1 ⟨xs,H1,I1,r,z,q⟩=>⟨by rw[<-r.length];exact z,?_⟩;have hf:=I1.bG.fresh<|M2 _;refine⟨.ref _,_,I1.laid (λ b u e=>f8 _ e) (M2 _) ?_,rfl,q _ hf⟩;exact⟨z,us,0,r,A17 _ rfl⟩
abbrev Sp:=γ V->Hp->VK->XK->Prop
abbrev Vp:=γ Env->Hp->η->XK->ζ->η->Prop
structure C9(P:Program)(w:World)(K:Db)(mg:Str->Option Value)(base:Heap)(A:Around)(outer:List Env)(s:Shared)(H:Hp):Prop where
 frames:A.frames=AC outer
 mod:Mod K mg base
 bs:∀b o,base.get? b=AC o->s.heap.get? b=AC o/\H b=Ch
 Lq:base.objs.size<=s.heap.objs.size
 mw:s.heap.FunFrames base outer
 OV:∀b∈t_ outer,H b=Ch
 bG:kR P w H s.heap
 bare:AllBare s.gens
 tab:wV K mg base H
def CE(outer:γ Env)(P:ο)(w:ξ)(H:Hp)(s:η)(Q:VK)(u:ζ)(s':η):Prop:=
 ∃v H',s'.os=s.os/\AllBare s'.gens/\Un (t_ outer) [] H H' s.heap s'.heap/\kR P w H' s'.heap/\RelV v u/\Q v H'
def CR(CX:Vp)(outer:γ Env)(P:ο)(w:ξ)(H:Hp)(s:η)(Q:VK)(E:XK)(r:Result)(s':η):Prop:=
 match r with
 |.ok<|.ret u=>CE outer P w H s Q u s'
 |.ok _=>False
 |.error e=>CX outer H s E e s'
structure d9(P:Program)(w:World)(K:Db)(mg:Str->Option Value)(base:Heap)(CX:Vp)(k:Nat)(f:Addr)(fd:FuncData)(ps:List Str)(sp:Sp):Prop where
 len:∀vs H Q E,sp vs H Q E->vs.length=ps.length
 run:∀(A:Around)(outer:List Env)(s:Shared)(H:Hp)(args:Args)(us:List Value)(vs:List V)(Q:VK)(E:XK),bh k A->C9 P w K mg base A outer s H->BindsTo s fd args (ps.zip us)->Vals vs us->sp vs H Q E ->
  codeAny (model P w) A (.call (.ref f) args) (CR CX outer P w H s Q E) s
theorem C9.make{K:Db}(e:C9 P w K mg base A outer s H)(C:δ)(us:γ ζ)(kw:γ _):
 C9 P w K mg base (A.under<|.builtin "type.__call__" ⟨.ref C::us,kw⟩) outer s H:=⟨by first| exact e.frames| (simpa[Around.under,Code.envs,Code.isFrame,pushEnvs]using e.frames),e.mod,e.bs,e.Lq,e.mw,e.OV,e.bG,e.bare,e.tab⟩
theorem Inv.O3(I:Inv X χ σ H s):C9 X.prog X.w X.K X.mg X.base X.A X.stack s H:=
 ⟨I.ok.frames,I.ok.mod,I.bs,A11 I.ok.Lq I.sz,I.stack,I.rJ,I.bG,I.bare,I.tab⟩
theorem Inv.after(I:Inv X χ σ H s)(h:CE X.stack X.prog X.w H s Q u s'):EP X χ σ Q u s':=by let⟨v,H',os,bare,un,bG,r,q⟩:=h;let⟨hh,g,d,t,os'⟩:=s';obtain rfl:os'=s.os:=os;exact⟨v,H',I.call un bG bare λ b z=>absurd z ∅,r,q⟩
def Wo(sp:Sp)(yN:γ V)(E:XK)(t:TA):TE:=λ σ H Q=>t σ H λ vs H1=>sp (vs++yN) H1 Q E
def Qq(C:δ)(m:Str)(sp:Sp)(yN:γ V)(E:XK)(ta:TE)(t:TA):TE:=λ σ H Q=>ta σ H λ x H1=>∃a dx fs,x=.ref a/\H1 a=AC (.ins C dx fs)/\fs.lookup m=Ch /\
 t σ H1 λ vs H2=>sp (x::(vs++yN)) H2 Q E
def Wk(C:δ)(sp:Sp)(yN:γ V)(E:XK)(t:TA):TE:=λ σ H Q=>t σ H λ vs H1=>∀x dx,H1 x=Ch->H1 dx=Ch->dx≠x ->
 sp (.ref x::(vs++yN)) (upd (upd H1 dx<|.own x) x<|.ins C dx []) (λ v H2=>v=.non/\Q (.ref x) H2) E
def Binds(K:Db)(fd:υ)(ps:γ Str)(ds:γ ζ):Prop:=
 ∀(s:η)(us:γ ζ),K.In s.heap->(us++ds).length=ps.length->BindsTo s fd ⟨us,[]⟩ (ps.zip<|us++ds)
theorem Binds.all{K:Db}(h:∀us,us.length=ps.length->bindArgs fd ⟨us,[]⟩=pure (ps.zip us)):Binds K fd ps []:=λ s us _ hl=>by rw[A48]at hl ⊢;exact .of_eq<|h us hl
def Passes(CX:Vp)(X:Cx)(E:XK):Prop:=∀(χ:γ (δ×μ))(σ:St)(H:Hp)(s:η)(e:ζ)(s':η),Inv X χ σ H s->CX X.stack H s E e s'->X.xe e s'
theorem BP(F:d9 X.prog X.w X.K X.mg X.base CX k f fd ps sp)(hr:bh k X.A)(hb:Binds X.K fd ps ds)(hd:Vals yN ds)(hx:Passes CX X E)
 (I:Inv X χ σ H s) (r:Vals vs us) (h:sp (vs++yN) H Q E):Ev (model X.prog X.w) X.A (call (.ref f) us) (EP X χ σ Q) X.xe s:=by
 have r2:=r.append hd;have hl:(us++ds).length=ps.length:=by rw[<-r2.length];exact F.len _ _ _ _ h
 refine B03<|A87 (F.run X.A _ s H ⟨us,[]⟩ _ _ Q E hr I.O3 (hb s us I.lX hl) r2 h) λ r s' hq=>?_;cases r with
 |error e=>exact hx χ σ H s e s' I hq
 |ok fl=>
  cases fl with
  |ret u=>exact I.after hq
  |next=>exact GM hq
  |brk=>exact GM hq
  |cont=>exact GM hq
theorem rM(F:d9 X.prog X.w X.K X.mg X.base CX k f fd ps sp)(hr:bh k X.A)(hg:Gl X x)(hm:X.mg x=AC (.ref f))(hk:Fa X.K (.ref f)=Da)(hb:Binds X.K fd ps ds)(hd:Vals yN ds)(hx:Passes CX X E)
 (ha:PA X (e::es) t) (gi:Nd x:=by decide) (he:Se e es X.env:=by rfl) (d!:Pn pos es X.env:=by rfl) :
 PE X (.Call (.Name x p) (e::es) [] pos) (Wo sp yN E t):=by
 intro χ s σ H Q I h;refine A88<|oG I hg hm ?_ gi;refine B20 I.ok.mod.Og hk (b! (ha pos χ s σ H _ I h) λ us s1 ⟨vs,H1,I1,r,q⟩=>⟨I1.lX,?_⟩) he d!;exact BP F hr hb hd hx I1 r q
theorem DR(he:PE X o ta)(c:LO X.K C)(hm:Meth X.K C m f)(F:d9 X.prog X.w X.K X.mg X.base CX k f fd ps sp)(hr:bh k X.A)(hb:Binds X.K fd ps ds)(hd:Vals yN ds)(hx:Passes CX X E)(ha:PA X (e::es) t)
 (oJ:Se e es X.env:=by rfl) (d!:Pn pos es X.env:=by rfl)
 (ht:Mt o m apos (e::es) pos pl X.env:=by rfl) :
 PE X (.Call (.Attribute o m apos) (e::es) [] pos) (Qq C m sp yN E ta t):=by
 intro χ s σ H Q I h;refine B80 (b! (he χ s σ H _ I h) ?_) ht;rintro u s1 ⟨x,H1,I1,rx,a,dx,fs,ex,ea,l,q⟩;subst ex;obtain rfl:u=Value.ref a:=rx;refine nv I1 ea c hm l ?_;refine B20 I.ok.mod.Og hm.kp (b! (ha pos χ s1 σ H1 _ I1 q) λ us s2 ⟨vs,H2,I2,r,q2⟩=>⟨I2.lX,?_⟩) oJ d!;exact BP (vs:=.ref a::vs) F hr hb hd hx I2 (.cons rfl r) q2
theorem IP(he:PE X o ta)(c:LO X.K C)(hm:Meth X.K C m f)(F:d9 X.prog X.w X.K X.mg X.base CX k f fd ps sp)(hr:bh k X.A)(hb:Binds X.K fd ps ds)(hd:Vals yN ds)(hx:Passes CX X E)
 (ht:Mt o m apos [] pos pl X.env:=by rfl) :
 PE X (.Call (.Attribute o m apos) [] [] pos) (Qq C m sp yN E ta MI):=by
 intro χ s σ H Q I h;refine B80 (b! (he χ s σ H _ I h) ?_) ht;rintro u s1 ⟨x,H1,I1,rx,a,dx,fs,ex,ea,l,q⟩;subst ex;obtain rfl:u=Value.ref a:=rx;refine nv I1 ea c hm l ?_;exact PySem.W.callWith_K0 I1.lX hm.kp<|BP (vs:=[.ref a]) F hr hb hd hx I1 (.cons rfl .nil) q
structure Mk(K:Db)(C f:Addr):Prop where
 makes:ce K C=Da
 init:GE K (.ref C) "__init__"=AC (AC<|.ref f)
 fn:AA3 K (.ref f)=Da
 kp:Fa K (.ref C)=Da
theorem Iq(M:Mk X.K C f)(F:d9 X.prog X.w X.K X.mg X.base CX k f fd ps sp)(hr:bh (k+1) X.A)(hb:Binds X.K fd ps ds)(hd:Vals yN ds)
 (hx:Passes CX X E) (I:Inv X χ σ H s) (r:Vals vs us)
 (h:∀x dx,H x=Ch->H dx=Ch->dx≠x->sp (.ref x::(vs++yN)) (upd (upd H dx<|.own x) x<|.ins C dx []) (λ v H2=>v=.non/\Q (.ref x) H2) E) :
 Ev (model X.prog X.w) X.A (call (.ref C) us) (EP X χ σ Q) X.xe s:=by
 have hq:=h _ _ (I.bG.fresh<|A59 _) (I.bG.fresh<|M2 _)<|A13<|A63 _;have I2:=Inv.made (C:=C) I;have r2:Vals (V.ref (s.heap.objs.size+1)::(vs++yN)) _:=.cons rfl<|r.append hd;have hl:(Value.ref (s.heap.objs.size+1)::us++ds).length=ps.length:=by have e:=r2.length;rw[F.len _ _ _ _ hq]at e;exact e.symm
 refine B03 (JD I.lX M.makes M.init (A26.mp M.fn) (A87 (F.run _ X.stack _ _ ⟨Value.ref (s.heap.objs.size+1)::us,[]⟩ (Value.ref (s.heap.objs.size+1)::(us++ds)) _ _ E (hr.make C us [])
  (I2.O3.make C us []) (hb _ (Value.ref (s.heap.objs.size+1)::us) I2.lX hl) r2 hq) λ r s' fE=>?_))
 cases r with
 |error e=>exact hx χ σ _ _ e s' I2 fE
 |ok fl=>
  cases fl with
  |ret u=>let⟨v,H',I3,rv,ev,q3⟩:=I2.after fE;subst ev;exact⟨rv,⟨V.ref<|s.heap.objs.size+1,H',I3,rfl,q3⟩⟩
  |next=>exact GM fE
  |brk=>exact GM fE
  |cont=>exact GM fE
theorem Ng(M:Mk X.K C f)(F:d9 X.prog X.w X.K X.mg X.base CX k f fd ps sp)(hr:bh (k+1) X.A)(hg:Gl X x)(hm:X.mg x=AC (.ref C))(hb:Binds X.K fd ps ds)(hd:Vals yN ds)(hx:Passes CX X E)
 (ha:PA X (e::es) t) (gi:Nd x:=by decide) (he:Se e es X.env:=by rfl) (d!:Pn pos es X.env:=by rfl) :
 PE X (.Call (.Name x p) (e::es) [] pos) (Wk C sp yN E t):=by
 intro χ s σ H Q I h;refine A88<|oG I hg hm ?_ gi;refine B20 I.ok.mod.Og M.kp (b! (ha pos χ s σ H _ I h) λ us s1 ⟨vs,H1,I1,r,q⟩=>⟨I1.lX,?_⟩) he d!;exact Iq M F hr hb hd hx I1 r q
structure a8(N P:List Str)(sc:Scope):Prop where
 kind:sc.kind=.function
 co:sc.isCoroutine=AT
 gen:sc.isGenerator=AT
 nd:N.Nodup
 pre:N.take P.length=P
 par:∀x∈P,sc.names.lookup x=AC .local\/sc.names.lookup x=AC .cell
 S7:∀y∈sc.names,y.2≠.free
theorem wL{kindOf:Str->ε NameKind}:∀{binds}{m},(∀v,(x,v)∉binds)->bindL kindOf binds m x=m x
|[],_,_=>rfl
|(n,v)::r,m,h=>by
 unfold bindL;rw[wL λ w hw=>h w<|A07 _ hw];split
 .have:x≠n:=by rintro rfl;exact h v A08
  simp[this]
 .rfl
theorem wN{kindOf:Str->ε NameKind}:∀{binds}{m},(∀v,(x,v)∉binds)->bindC kindOf binds m x=m x
|[],_,_=>rfl
|(n,v)::r,m,h=>by
 unfold bindC;rw[wN λ w hw=>h w<|A07 _ hw];split
 .rfl
 .have:x≠n:=by rintro rfl;exact h v A08
  simp[this]
theorem wM{kindOf:Str->ε NameKind}{x:Str}{v:ζ}:∀{P:γ Str}{vs}{i:Nat}{m},P.Nodup->P[i]?=AC x->vs[i]?=AC v->kindOf x=AC .local ->
 bindL kindOf (P.zip vs) m x=AC v
|[],_,_,_,_,h,_,_=>by simp at h
|_::_,[],_,_,_,_,h,_=>by simp at h
|p::P,w::vs,0,m,nd,h1,h2,hk=>by simp at h1 h2;subst h1;subst h2;show bindL kindOf ((p,w)::P.zip vs) m p=_;unfold bindL;rw[wL λ v hv=>(A14.mp nd).1 (B81 hv).1,W1 hk];simp
|p::P,w::vs,i+1,m,nd,h1,h2,hk=>by show bindL kindOf ((p,w)::P.zip vs) m x=_;unfold bindL;exact wM (i:=i) (A14.mp nd).2 (by simpa using h1) (by simpa using h2) hk
theorem wQ{kindOf:Str->ε NameKind}{x:Str}{v:ζ}:∀{P:γ Str}{vs:γ ζ}{i:Nat}{m:Str->ε ζ},P.Nodup->P[i]?=AC x->vs[i]?=AC v->kindOf x≠AC .local ->
 bindC kindOf (P.zip vs) m x=AC v
|[],_,_,_,_,h,_,_=>by simp at h
|_::_,[],_,_,_,_,h,_=>by simp at h
|p::P,w::vs,0,m,nd,h1,h2,hk=>by simp at h1 h2;subst h1;subst h2;show bindC kindOf ((p,w)::P.zip vs) m p=_;unfold bindC;rw[wN λ v hv=>(A14.mp nd).1 (B81 hv).1,o0 hk];simp
|p::P,w::vs,i+1,m,nd,h1,h2,hk=>by show bindC kindOf ((p,w)::P.zip vs) m x=_;unfold bindC;exact wQ (i:=i) (A14.mp nd).2 (by simpa using h1) (by simpa using h2) hk
def start(N:γ Str)(vs:γ V):St:=vs.map AC++Do (N.length-vs.length) Ch
def dM(CX:Vp)(P:ο)(w:ξ)(K:Db)(mg:Str->ε ζ)(base:ν)(N:γ Str)(qual:Str)(scope:ς)(f:δ)(cd:ζ)(A:τ)(outer:γ Env)(s:η)(H:Hp)(E:XK):Cx where
 prog:=P
 w:=w
 K:=K
 mg:=mg
 base:=base
 A:=A.deeper<|envOfC qual scope s.heap.objs.size f cd
 N:=N
 s₀:=s
 H₀:=H
 env:=envOfC qual scope s.heap.objs.size f cd
 outer:=outer
 stack:=envOfC qual scope s.heap.objs.size f cd::outer
 ex:=[]
 calm:=Da
 fn:=λ _=>Da
 pn:=[]
 xe:=λ e s'=>Ev (model P w) (A.deeper<|envOfC qual scope s.heap.objs.size f cd) (leaving (envOfC qual scope s.heap.objs.size f cd) e) (λ _ Vt=>CX outer H s E e Vt) (λ e' Vt=>CX outer H s E e' Vt) s'
theorem A0{sc:ς}(h:sc.names.lookup x=AC .cell):∃c,(cellsFrom n sc.names []).lookup x=AC c:=by have q:=C37 _ n []<|.inl h;exact A68.mp q
theorem Gh{K:FS}
 (S:a8 N ps scope) (hd:A.handled=Ch) (e0:C9 P w K mg base A outer s H) (hl:vs.length=ps.length) (r:Vals vs us)
 (x:InCallC s s.heap.objs.size (bindL (envOfC qual scope s.heap.objs.size f cd).kindOf (ps.zip us) λ _=>Ch) (cellsFrom (s.heap.objs.size+1) scope.names []) (bindC (envOfC qual scope s.heap.objs.size f cd).kindOf (ps.zip us) λ _=>Ch) s1) :
 Inv (dM CX P w K mg base N qual scope f cd A outer s H E) [] (start N vs) H s1:=by
 have d!:ps.length<=N.length:=by have:=A12 List.length S.pre;rw[A30]at this;lia
 let⟨h1,tk,rfl,hk⟩:=x.done;have S8:∀b,b∉(dM CX P w K mg base N qual scope f cd A outer s H E).ex:=λ b z=>absurd (show b∈([]:γ δ)from z) ∅;refine⟨⟨e0.mod,S.kind,rfl,rfl,M2 _,λ y z c h1 h2=>?_,λ y hy=>?_,λ y c _ h=>?_,λ _=>hd,Around.frames_deeper e0.frames,.inr ⟨rfl,rfl⟩,λ b z=>absurd z<|S8 b,e0.bs,e0.Lq,λ b _ _=>S8 b,λ b z=>absurd z<|S8 b,e0.mw,e0.OV⟩,
  rfl,e0.bare,Un.kept hk,⟨_,x.toInCall.ns,λ i y v h1 h2 h3=>?_⟩,λ y c h=>⟨_,x.cell y c h⟩,e0.bG.fresh<|M2 _,λ y c h=>?_,λ p hp=>absurd (show p∈([]:γ (δ×μ))from hp) ∅,e0.bG.kept hk,?_,e0.tab⟩
 .exact name_of_addr x.apart (A64 h1)<|A64 h2
 .have hy:=hy;rcases hy with hy|hy
  .exact A0 hy
  .exact absurd rfl<|S.S7 _<|A64 hy
 .exact A75<|x.above y c<|A64 h
 .have hi:i<vs.length:=by
   unfold start at h2;by_cases hi:i<vs.length
   .exact hi
   .rw[A43 (by simpa using hi)]at h2;rw[A49]at h2;split at h2<;>cases h2
  have ha:vs[i]?=AC v:=by
   unfold start at h2;rw[A21 (by simpa using hi),A06]at h2;cases e:vs[i]? with
   |none=>rw[e]at h2;cases h2
   |some a=>rw[e]at h2;cases h2;rfl
  let⟨u,hu,rv⟩:=r.get ha;have hp:ps[i]?=AC y:=by rw[<-S.pre,C38 ∅];exact h1
  have ndP:ps.Nodup:=by rw[<-S.pre];exact S.nd.sublist<|List.take_sublist _ _
  refine⟨u,rv,?_⟩;rcases S.par y (A18 hp)with k|k
  .exact .inl ⟨k,wM ndP hp hu k⟩
  .let⟨c,e⟩:=A0 (n:=s.heap.objs.size+1) k;refine .inr ⟨.inl k,c,e,?_⟩;have q:=x.cell y c e;rw[wQ ndP hp hu (by show scope.names.lookup y≠_;rw[k];decide)]at q;exact q
 .exact e0.bG.fresh<|A75<|x.above y c<|A64 h
 .unfold start;show _=N.length;rw[A28,A04,A77];lia
theorem Av{K:Db}{dV kV doc pm a9 ct oc:ζ}
 (lk:K.lookup f=AC ⟨oc,od,.func<|PySem.W.fnOf name qual params body scope dV kV doc pm an a9 ct,yK⟩) (rT:SB K a9 qual=Da) (S:a8 N ps scope)
 (len:∀vs H Q E,sp vs H Q E->vs.length=ps.length)
 (Ao:∀A outer s H vs Q E,bh k (A.deeper<|envOfC qual scope s.heap.objs.size f a9)->sp vs H Q E ->
  ∃t,qp (dM CX P w K mg base N qual scope f a9 A outer s H E) body t/\t {nx:=λ _ H'=>Q .non H',rt:=Q} (start N vs) H) :
 d9 P w K mg base CX (k+1) f (PP name qual params body scope dV kV doc pm an a9 ct) ps sp:=by
 refine⟨len,λ A outer s H args us vs Q E hr e0 hb r Gj=>?_⟩;have hl:=len _ _ _ _ Gj;have KX:=e0.mod.Og.keeps λ b o e=>(e0.bs b o e).1;have lim:=e0.mod.nolimit.keeps λ b o e=>(e0.bs b o e).1;have Yj:∀y∈ps.zip us,scope.names.lookup y.1=AC .local\/(scope.names.lookup y.1=AC .cell/\((cellsFrom (s.heap.objs.size+1) scope.names []).lookup y.1).isSome=Da):=by
  rintro⟨n,v⟩ hy;rcases S.par n (B81 hy).1 with q|q
  .exact .inl q
  .exact .inr ⟨q,C37 _ _ _<|.inl q⟩
 refine codeAny_call_function hr.depth (KX _ _ lk) rfl S.co S.gen rfl (PySem.W.codeRec_of KX rT)<|hb _ _ _ _ ?_;refine wpAny_newFunctionEnv_cells S.kind Yj λ env he s1 x=>?_;subst he;refine⟨lim.keeps x.toInCall.keep,codeAny_func ?_⟩;let⟨t,ht,hq⟩:=Ao A outer s H vs Q E (hr.deeper _) Gj;have I:Inv (dM CX P w K mg base N qual scope f a9 A outer s H E) [] (start N vs) H s1:=Gh S hr.hd e0 hl r x;refine A20 (ht [] s1 (start N vs) H _ I hq) (λ fl s' hs=>?_) λ e s' hs=>hs;have fin:∀{σ'}{H'}{v}{u},Inv (dM CX P w K mg base N qual scope f a9 A outer s H E) [] σ' H' s'->RelV v u->Q v H'->CE outer P w H s Q u s':=
  λ {σ' H' v u} J rv q=>⟨v,H',J.os,J.bare,J.base,J.bG,rv,q⟩
 cases fl with
 |ret u=>let⟨v,σ',H',J,rv,q⟩:=hs;exact fin J rv q
 |next=>let⟨σ',H',J,q⟩:=hs;exact fin (v:=V.non) (u:=Tk) J rfl q
 |brk=>let⟨_,_,_,q⟩:=hs;exact GM q
 |cont=>let⟨_,_,_,q⟩:=hs;exact GM q
section
variable{id T:String}
def tCB(r:γ V->Hp->VK->Prop)(t:TA):TE:=λ σ H Q=>t σ H λ vs H1=>r vs H1 Q
theorem jD(hc:lO X (.builtin id) r)(hg:Gl X x)(hm:X.mg x=Ch)(hv:bootBuiltins x=AC (.builtin id))(ha:PA X (e::es) t)(hn:x≠ "__name__":=by decide)(gi:Nd x:=by decide)
 (he:Se e es X.env:=by rfl) (d!:Pn pos es X.env:=by rfl):PE X (.Call (.Name x p) (e::es) [] pos) (tCB r t):=by
 intro χ s σ H Q I h;refine A88<|j0 I hg hm hv ?_ hn gi;exact PyProof.Rows.callWith_builtin1 (b! (ha pos χ s σ H _ I h) <|by rintro us s1 ⟨vs,H1,I1,r1,q1⟩;exact hc χ s1 σ H1 vs us Q I1 r1 q1) he d!
theorem lT(hc:lO X (.type T) r)(hg:Gl X x)(hm:X.mg x=Ch)(hv:bootBuiltins x=AC (.type T))(ha:PA X (e::es) t)(hn:x≠ "__name__":=by decide)(gi:Nd x:=by decide)
 (he:Se e es X.env:=by rfl) (d!:Pn pos es X.env:=by rfl):PE X (.Call (.Name x p) (e::es) [] pos) (tCB r t):=by
 intro χ s σ H Q I h;refine A88<|j0 I hg hm hv ?_ hn gi;exact B21 (b! (ha pos χ s σ H _ I h) <|by rintro us s1 ⟨vs,H1,I1,r1,q1⟩;exact hc χ s1 σ H1 vs us Q I1 r1 q1) he d!
end
end L2
namespace HT
theorem PL(ht:IsTup s.heap t vs.toArray)(hb:IsTup s.heap b ws.toArray)(hv:vs≠[])
 (h1:ws=[]->Q (.ref t) s) (h2:ws≠[]->Q (.ref s.heap.objs.size) {s with heap:=s.heap.push {cls:=.type "tuple",data:=.seq (vs++ws).toArray}})
 (Co:vs.length+ws.length<=sizeLine):Ev (model prog w) A (binaryOp .Add (.ref t)<|.ref b) Q E s:=by
 let⟨⟨cls,dd,data,sl⟩,ho,hc,n,hd⟩:=id ht;let⟨⟨Y',VV,data2,Vr⟩,Hw,yc,n2,hd2⟩:=id hb;simp only at hc hd yc hd2;subst hc hd yc hd2;have e:vs.toArray++ws.toArray=(vs++ws).toArray:=by simp
 by_cases hw:ws=[]
 .exact B49 ⟨_,ho,rfl⟩ ⟨_,Hw,rfl⟩ B83 seq_tuple_add B85 B86 (B87 _ _)
   (tuple_addW1 t b _ _ n n2 dd VV sl Vr (by simpa using hv) (by simp[hw])) ⟨ho,Hw,h1 hw⟩
 .refine B49 ⟨_,ho,rfl⟩ ⟨_,Hw,rfl⟩ B83 seq_tuple_add B85 B86 (B87 _ _)
   (tuple_addW2 t b vs.toArray ws.toArray n n2 dd VV sl Vr (by simpa using hv) (by simpa using hw) (by rw[A10,A10];exact Co)) ⟨ho,Hw,?_⟩
  rw[e];exact h2 hw
def c9(n d:Nat):ε Int->Nat
|none=>d
|some v=>if v<0 then(v+(n:Int)).toNat else min v.toNat n
theorem xy(n d:Nat)(hd:d<=n)(o:ε Int):c9 n d o<=n:=by
 cases o with
 |none=>exact hd
 |some v=>
  show(if v<0 then(v+(n)).toNat else min _ n)<=n;by_cases hv:v<0
  .rw[W1 hv];lia
  .rw[o0 hv];exact Nat.min_le_right _ _
theorem EX(v:Int)(n d:Nat):(if v<0 then max (v+(n)) 0 else min v (n))=((c9 n d<|some v)):=by
 show(if v<0 then max _ 0 else min v (n))=(((if v<0 then(v+(n)).toNat else min _ n)))
 by_cases hv:v<0
 .simp only[W1 hv];lia
 .simp only[o0 hv];lia
theorem C4(lo hi:ε Int)(n:Nat):SL lo hi 1 (n)=(((c9 n 0 lo):Int),((c9 n n hi):Int)):=by
 have h1:¬((1)<0):=by lia
 unfold SL;simp only[A60];refine Prod.ext ?_ ?_
 .cases lo with
  |none=>rfl
  |some v=>exact EX v n 0
 .cases hi with
  |none=>rfl
  |some v=>exact EX v n n
theorem BV(i j:Nat):On (i) (j) 1=j-i:=by
 unfold On;have h1:(1)>0:=by lia
 simp only[Int.ediv_one];split<;>lia
theorem sP(p:IsPart v o)(h:Q o s):Ev (model prog w) A (Builtin.Slice.slicePartIndex v) Q E s:=by
 cases p with
 |none=>exact slicePart_none h
 |int i t=>exact slicePart_int h
theorem jy{lo hi:ε Int}{Q:Int×Int×Nat->η->Prop}(hs:s.heap.IsSliceOf sl vl vu .none)(pl:IsPart vl lo)(pu:IsPart vu hi)
 (h:Q (((c9 n 0 lo)),1,c9 n n hi-c9 n 0 lo) s):Ev (model prog w) A (WP (.ref sl)<|pure<|n) Q E s:=by
 let⟨os,T4,Ez,Yv⟩:=id hs;unfold WP Builtin.Slice.sliceFields;refine T0<|T0<|A34 T4 Yv rfl<|T0<|A34 T4 Yv rfl<|T0<|A34 T4 Yv rfl<|P3 ?_;refine T0<|slicePart_none ?_;rw[o0 ∅];refine T0<|sP pl<|T0<|sP pu<|T0<|P3 ?_;show Ev _ _ (match SL lo hi 1 (n)with|(lo,hi)=>pure (lo,(1:Int),On lo hi 1)) _ _ s;rw[C4];show Ev _ _ (pure (((c9 n 0 lo):Int),(1),On ((c9 n 0 lo)) ((c9 n n hi)) 1)) _ _ s;rw[BV];exact P3 h
theorem IK(xs:Array ζ)(i k:Nat):((FB k).filterMap λ(m:Nat)=>xs[((i)+(m:Int)*1).toNat]?).toArray=((xs.toList.drop i).take k).toArray:=by
 have e:(λ(m:Nat)=>xs[((i)+(m:Int)*1).toNat]?)=λ m=>xs[i+m]?:=by
  funext m
  have:((i)+(m:Int)*1).toNat=i+m:=by lia
  rw[this]
 rw[e];have:=pick_run xs i k;rw[List.filterMap_map]at this;have e2:((λ x=>xs[x]?)∘λ x=>i+x)=λ m=>xs[i+m]?:=rfl;rw[e2]at this;rw[this]
theorem oO{lo hi:ε Int}(ht:IsTup s.heap t items)(hs:s.heap.IsSliceOf sl vl vu .none)(pl:IsPart vl lo)(pu:IsPart vu hi)
 (hw:¬(c9 items.size 0 lo=0/\c9 items.size items.size hi=items.size))
 (h:Q (.ref s.heap.objs.size) {s with heap:=s.heap.push {cls:=.type "tuple",data:=.seq ((items.toList.drop<|c9 items.size 0 lo).take<|c9 items.size items.size hi-c9 items.size 0 lo).toArray}})
 (Co:items.size<=sizeLine):Ev (model prog w) A (getItem (.ref t)<|.ref sl) Q E s:=by
 have Ey:sizeOk (.seq ((items.toList.drop<|c9 items.size 0 lo).take<|c9 items.size items.size hi-c9 items.size 0 lo).toArray):=by show((items.toList.drop<|c9 items.size 0 lo).take<|c9 items.size items.size hi-c9 items.size 0 lo).toArray.size<=sizeLine;rw[A10,A30,B50,B46];lia
 have hj:c9 items.size items.size hi<=items.size:=xy _ _ (M2 _) hi;let⟨os,T4,Ez,Yv⟩:=id hs;have hTs:s.TypeIs (.ref sl) "slice":=⟨os,T4,Ez⟩
 unfold getItem
 try with_reducible refine A55 ?_
 first|refine T0<|P3 ?_|skip
 refine T0<|wpAny_sequenceKey ht.typeIs ∅ ?_;refine T0 (B04 (name:=EQ "__getitem__") ht.typeIs B05
  <|B06 B05 ht.typeIs entry_tuple_getitem ?_<|args_tuple_getitem _ _)
 show Ev _ _ (Wp (.ref t)>>=_) _ _ s;refine T0<|tupleItemsOf_ ht ?_;refine T0<|wpAny_typeOf hTs ?_;rw[W1 ∅];refine T0<|jy hs pl pu ?_;have Hx:¬((((c9 items.size 0 lo:Nat):Int)==0&&(1:Int)==1&&(c9 items.size items.size hi-c9 items.size 0 lo)==items.size)=Da):=by intro q;rw[A38,A38]at q;have q1:((c9 items.size 0 lo:Nat):Int)=0:=eq_of_beq q.1.1;have q2:c9 items.size items.size hi-c9 items.size 0 lo=items.size:=eq_of_beq q.2;exact hw ⟨by lia,by lia⟩
 show Ev _ _ (if(((c9 items.size 0 lo:Nat):Int)==0&&(1:Int)==1&&(c9 items.size items.size hi-c9 items.size 0 lo)==items.size)=Da then _ else _) _ _ s;rw[o0 Hx,IK]
 first
  |exact T0 (m:=Op _)<|A69 (P3 ⟨_,rfl,P3 h⟩) Ey
  |exact T0 (m:=Op _)<|A69 (T0<|P3<|P3 ⟨_,rfl,P3 h⟩) Ey
  |exact T0<|T0 (m:=Op _)<|A69 (P3<|P3 ⟨_,rfl,P3 h⟩) Ey
  |exact T0<|T0 (m:=Op _)<|A69 (P3 ⟨_,rfl,P3 h⟩) Ey
end HT
namespace L2
abbrev TO:=St->Hp->(ε Int->Hp->Prop)->Prop
def PO(X:Cx)(e:ε θ)(t:TO):Prop:=
 ∀ (χ:γ (δ×μ))(s:η)(σ:St)(H:Hp)(Q:ε Int->Hp->Prop),Inv X χ σ H s->t σ H Q ->
  Ev (model X.prog X.w) X.A (evalPart e X.env) (λ u s'=>∃o H',Inv X χ σ H' s'/\IsPart u o/\Q o H') X.xe s
def MH:TO:=λ _ H Q=>Q Ch H
def Wh(t:TE):TO:=λ σ H Q=>t σ H λ x H1=>∃i,x=.int i/\Q (AC i) H1
section
variable{lo hi:ε θ}
theorem Na:PO X Ch MH:=by intro χ s σ H Q I h;rw[evalPart_none];exact P3 ⟨Ch,H,I,.none,h⟩
theorem M_(h:PE X e te):PO X (AC e) (Wh te):=by intro χ s σ H Q I hw;rw[evalPart_some];refine b! (h χ s σ H _ I hw) ?_;rintro u s1 ⟨x,H1,I1,r1,q1⟩;let⟨i,rfl,q⟩:=q1;let⟨t,rfl⟩:=r1;exact⟨_,H1,I1,.int i t,q⟩
def P_(X:Cx)(r:V->ε Int->ε Int->Hp->VK->Prop):Prop:=
 ∀ (χ:γ (δ×μ))(s:η)(σ:St)(H:Hp)(x:V)(v vl vu:ζ)(lo hi:ε Int)(sl:δ)(Q:VK),Inv X χ σ H s->RelV x v->s.heap.IsSliceOf sl vl vu .none->IsPart vl lo->IsPart vu hi->r x lo hi H Q ->
  ∃T id,typeLookup (.type T) "__getitem__"=pure (AC<|.builtin id)/\s.TypeIs v T/\Ev (model X.prog X.w) X.A (getItem v<|.ref sl) (EP X χ σ Q) X.xe s
theorem P_.or(h:P_ X r)(h':P_ X r'):P_ X (λ x lo hi H Q=>r x lo hi H Q\/r' x lo hi H Q):=by
 intro χ s σ H x v vl vu lo hi sl Q I rx hs pl pu q;rcases q with q|q
 .exact h χ s σ H x v vl vu lo hi sl Q I rx hs pl pu q
 .exact h' χ s σ H x v vl vu lo hi sl Q I rx hs pl pu q
def tSl(r:V->ε Int->ε Int->Hp->VK->Prop)(te:TE)(tl th:TO):TE:=λ σ H Q=>te σ H λ x H1=>tl σ H1 λ l H2=>th σ H2 λ u H3=>r x l u H3 Q
theorem zL(hr:P_ X r)(he:PE X e te)(hl:PO X lo tl)(hu:PO X hi th):PE X (.Subscript e (.Slice lo hi Ch p2) pos) (tSl r te tl th):=by intro χ s σ H Q I h;refine Subscript_<|b! (he χ s σ H _ I h) ?_;rintro v s1 ⟨x,H1,I1,r1,q1⟩;refine wpAny_Slice<|b! (hl χ s1 σ H1 _ I1 q1) λ vl s2 ⟨l,H2,I2,pl,q2⟩=>b! (hu χ s2 σ H2 _ I2 q2) ?_;rintro vu s3 ⟨u,H3,I3,pu,q3⟩;rw[evalPart_none];refine P3 ?_;have I4:Inv X χ σ H3 {s3 with heap:=s3.heap.push {cls:=.type "slice",data:=.fields #[vl,vu,.none]}}:=I3.kept λ b ob q=>f8 _ q;let⟨T,id,hT,ht,hg⟩:=hr χ {s3 with heap:=s3.heap.push {cls:=.type "slice",data:=.fields #[vl,vu,.none]}} σ H3 x v vl vu l u _ Q I4 r1 (Heap.IsSliceOf.new ..) pl pu q3;exact tail_any ht hT hg (by with_unfolding_all rfl)
def vn(xs:γ V)(lo hi:ε Int):γ V:=(xs.drop<|HT.c9 xs.length 0 lo).take<|HT.c9 xs.length xs.length hi-HT.c9 xs.length 0 lo
theorem qW(xs:γ V)(lo hi:ε Int):(vn xs lo hi).length<=xs.length:=by unfold vn;rw[A30,B50];lia
def aaB(K:Db):V->ε Int->ε Int->Hp->VK->Prop:=λ x lo hi H Q=>∃a xs,x=.ref a/\mi K H a xs /\
 ¬(HT.c9 xs.length 0 lo=0/\HT.c9 xs.length xs.length hi=xs.length)/\∀p,H p=Ch->Q (.ref p) (upd H p<|.tup<|vn xs lo hi)
theorem RY:P_ X (aaB X.K):=by
 intro χ s σ H x v vl vu lo hi sl Q I rx hs pl pu h;let⟨a,xs,rfl,hx,hw,q⟩:=h;cases rx;let⟨aW,r,ht,hz⟩:=I.tuple hx;have ψ:aW.toArray.size=xs.length:=by rw[A10];exact r.length.symm
 refine⟨"tuple",_,B05.lookup,ht.typeIs,?_⟩;refine HT.oO ht hs pl pu (by rw[ψ];exact hw) ?_ (by rw[ψ];exact hz);rw[ψ];refine⟨.ref _,_,I.laid (λ b ob q=>f8 _ q) (M2 _) ?_,rfl,q _<|I.bG.fresh<|M2 _⟩;exact⟨A11 (qW xs lo hi) hz,_,(r.drop _).take _,pq.new _ _⟩
def WS(K:Db):R2:=λ x y H Q=>∃a b xs ys,x=.ref a/\y=.ref b/\mi K H a xs/\mi K H b ys/\xs≠[]/\xs.length+ys.length<=sizeLine /\
 (ys=[]->Q (.ref a) H)/\(ys≠[]->∀p,H p=Ch->Q (.ref p) (upd H p<|.tup<|xs++ys))
theorem Vals.rO(r:Vals xs us):us=[]↔xs=[]:=by
 cases r with
 |nil=>simp
 |cons _ _=>simp
theorem Nq:jk X (binaryOp .Add) (WS X.K):=by intro χ s σ H x y v u Q I rx ry h;let⟨a,b,xs,ys,rfl,rfl,ha,hb,hx,hz,q1,q2⟩:=h;cases rx;cases ry;let⟨aW,r1,p1,_⟩:=I.tuple ha;let⟨gV,r2,p2,_⟩:=I.tuple hb;refine HT.PL p1 p2 (λ z=>hx<|r1.rO.mp z) (λ z=>⟨.ref a,H,I,rfl,q1<|r2.rO.mp z⟩) (λ z=>?_) (by rw[<-r1.length,<-r2.length];exact hz);refine⟨.ref _,_,I.laid (λ b ob q=>f8 _ q) (M2 _) ?_,rfl,q2 (λ w=>z<|r2.rO.mpr w) _<|I.bG.fresh<|M2 _⟩;exact⟨by rw[A28];exact hz,_,r1.append r2,pq.new _ _⟩
end
def XZ(n:Nat)(i:Int):ε Nat:=if 0<=i then(if i<n then AC i.toNat else Ch)else if -(n:Int)<=i then AC (i+n).toNat else Ch
def U!{α:Type}(xs:γ α)(i:Int):ε α:=(XZ xs.length i).bind λ j=>xs[j]?
theorem Oq(h:XZ n i=AC j):seqIndex? i n=AC j/\j<n/\-(n)<=i/\i<n:=by
 unfold XZ at h;by_cases h0:0<=i
 .rw[W1 h0]at h;by_cases h1:i<n
  .rw[W1 h1]at h;have e:=A05 h;exact⟨by rw[seqIndex_of h0 h1,e],by lia,by lia,h1⟩
  .rw[o0 h1]at h;cases h
 .rw[o0 h0]at h;by_cases h1:-(n)<=i
  .rw[W1 h1]at h;have e:=A05 h;exact⟨by rw[seqIndex_neg ∅ h1,e],by lia,h1,by lia⟩
  .rw[o0 h1]at h;cases h
theorem yD(h:U! xs i=AC v):∃j,seqIndex? i xs.length=AC j/\xs[j]?=AC v/\j<xs.length/\-(xs.length)<=i/\i<xs.length:=by
 unfold U! at h;cases e:XZ _ i with
 |none=>rw[e]at h;cases h
 |some j=>rw[e]at h;let⟨h1,h2,h3,h4⟩:=Oq e;exact⟨j,h1,h,h2,h3,h4⟩
def r8(b:θ):Prop:=∀o i,subscripted b AT o i=operate [o,i] (getItem o i)
def Mf(X:Cx)(r:R2):Prop:=
 ∀ (value slice:θ)(χ:γ (δ×μ))(s:η)(σ:St)(H:Hp)(x y:V)(v u:ζ)(Q:VK),Inv X χ σ H s->RelV x v->RelV y u->r x y H Q ->
  subscripted slice AT v u=operate [v,u] (getItem v u)->Ev (model X.prog X.w) X.A (subscriptTail value slice v u) (EP X χ σ Q) X.xe s
def Vh(X:Cx)(id:String)(r:V->γ V->Hp->VK->Prop):Prop:=
 ∀ (χ:γ (δ×μ))(s:η)(σ:St)(H:Hp)(x:V)(xs:γ V)(v:ζ)(us:γ ζ)(Q:VK),Inv X χ σ H s->RelV x v->Vals xs us->r x xs H Q ->
  Ev (model X.prog X.w) X.A (call (.builtin id)<|v::us) (EP X χ σ Q) X.xe s
section
theorem Mf.or(h:Mf X r)(h':Mf X r'):Mf X (λ x y H Q=>r x y H Q\/r' x y H Q):=by
 intro value slice χ s σ H x y v u Q I rx ry q hs;rcases q with q|q
 .exact h value slice χ s σ H x y v u Q I rx ry q hs
 .exact h' value slice χ s σ H x y v u Q I rx ry q hs
theorem IQ(hr:Mf X r)(ha:PE X a ta)(hb:PE X b tb)(hs:r8 b):PE X (.Subscript a b pos) (Qp r ta tb):=by intro χ s σ H Q I h;exact Subscript_<|U8 ha hb I h λ v u s2 x y H2 I2 rx ry q=>hr a b χ s2 σ H2 x y v u Q I2 rx ry q<|hs _ _
def WO(K:Db):R2:=λ x y H Q=>∃p xs i v,x=.ref p/\y=.int i/\i4 K H p xs/\U! xs i=AC v/\Q v H
def WM(K:Db):R2:=λ x y H Q=>∃p xs i v,x=.ref p/\y=.int i/\mi K H p xs/\U! xs i=AC v/\Q v H
def WN:R2:=λ x y H Q=>∃z i c,x=.str z/\y=.int i/\z.length<=sizeLine/\U! z.cps.toList i=AC c/\Q (.str ⟨#[c]⟩) H
theorem Om:Mf X (WO X.K):=by
 intro value slice χ s σ H x y v u Q I rx ry h hs;let⟨p,xs,i,z,rfl,rfl,hq,he,q⟩:=h;cases rx;let⟨t,rfl⟩:=ry;let⟨aW,r,pl,hz⟩:=I.list hq;let⟨j,h1,h2,h3,h4,h5⟩:=yD he;let⟨w,ew,FG⟩:=r.get h2;have hl:=r.length;have hn:=xX;have fin:EP X χ σ Q w s:=⟨z,H,I,FG,q⟩
 by_cases h0:0<=i
 .have hj:i.toNat=j:=by rw[seqIndex_of h0 h5]at h1;exact A05 h1
  exact item_listR pl.isList h0 ∅ (by rw[hj];simpa using ew) fin hs
 .have hj:(i+(aW.toArray.size)).toNat=j:=by rw[seqIndex_neg ∅ h4]at h1;rw[A10,<-hl];exact A05 h1
  exact subscriptTail_builtinR pl.isList.typeIs slot_list_getitem.lookup
   (wpAny_getItem_list_neg pl.isList ∅ (by rw[A10]<;>lia) ∅ (by rw[hj];simpa using ew) ⟨rfl,fin⟩) hs
theorem TJ:Mf X (WM X.K):=by
 intro value slice χ s σ H x y v u Q I rx ry h hs;let⟨p,xs,i,z,rfl,rfl,hq,he,q⟩:=h;cases rx;let⟨t,rfl⟩:=ry;let⟨aW,r,pl,hz⟩:=I.tuple hq;let⟨j,h1,h2,h3,h4,h5⟩:=yD he;let⟨w,ew,FG⟩:=r.get h2;have hl:=r.length;have hn:=xX;have fin:EP X χ σ Q w s:=⟨z,H,I,FG,q⟩
 exact subscriptTail_builtinR pl.typeIs slot_tuple_getitem.lookup
  (getItem_tuple pl ∅ ∅ (by rw[A10,<-hl];exact h1) (by simpa using ew) ⟨rfl,fin⟩) hs
theorem tO:Mf X WN:=by
 intro value slice χ s σ H x y v u Q I rx ry h hs;let⟨z,i,c,rfl,rfl,hz,he,q⟩:=h;let⟨t,rfl⟩:=rx;let⟨t',rfl⟩:=ry;let⟨j,h1,h2,h3,h4,h5⟩:=yD he;have hl:z.cps.toList.length=z.length:=by simp[Str.length]
 rw[hl]at h1 h4 h5;have hn:=xX;exact tail_any (B22 s z t) slot_str_getitem.lookup (getItem_str (by have e1:decide (i < -(2^63))=AT:=A32 ∅;have e2:decide (i≥2^63)=AT:=A32 ∅;rw[e1,e2,Bool.or_false]) (by rw[h1];simpa using h2) ⟨.str ⟨#[c]⟩,H,I.tok _,⟨_,rfl⟩,q⟩) hs
def rIx(K:Db):R2:=λ x y H Q=>WO K x y H Q\/WM K x y H Q\/WN x y H Q
theorem JV:Mf X (rIx X.K):=Om.or<|TJ.or tO
theorem xt(lo hi:ε Int)(n:Nat):(sliceBounds lo hi Ch n).1=((HT.c9 n 0 lo))/\(sliceBounds lo hi Ch n).2.1=((HT.c9 n n hi))/\(sliceBounds lo hi Ch n).2.2=1:=by
 refine⟨?_,?_,rfl⟩
 .cases lo with
  |none=>simp[sliceBounds,HT.c9]
  |some i=>
   simp only[sliceBounds,HT.c9,AB8,A29];by_cases h:i<0
   .simp only[h]<;>lia
   .simp only[h,A60]<;>lia
 .cases hi with
  |none=>simp[sliceBounds,HT.c9]
  |some i=>
   simp only[sliceBounds,HT.c9,AB8,show(1)>0 by decide,A29];by_cases h:i<0
   .simp only[h,A29]<;>lia
   .simp only[h,A60]<;>lia
theorem uS(aW:γ ζ)(lo hi:ε Int):slicePick aW.toArray lo hi Ch=((aW.drop<|HT.c9 aW.length 0 lo).take<|HT.c9 aW.length aW.length hi-HT.c9 aW.length 0 lo).toArray:=by let⟨h1,h2,h3⟩:=xt lo hi aW.toArray.size;unfold slicePick;rw[h1,h2,h3];simp only[sliceRange_one,pick_run]<;>rfl
def aaD(K:Db):V->ε Int->ε Int->Hp->VK->Prop:=λ x lo hi H Q=>∃a xs,x=.ref a/\i4 K H a xs/\∀p,H p=Ch->Q (.ref p) (upd H p<|.lst<|vn xs lo hi)
theorem MV:P_ X (aaD X.K):=by intro χ s σ H x v vl vu lo hi sl Q I rx hs pl pu h;let⟨a,xs,rfl,hx,q⟩:=h;cases rx;let⟨aW,r,ht,hz⟩:=I.list hx;have ψ:=r.length;refine⟨"list",_,slot_list_getitem.lookup,ht.isList.typeIs,?_⟩;refine wpAny_getItem_list_slice ht.isList hs pl pu .none ∅ ?_ (by rw[A10]<;>lia);rw[uS,<-ψ];refine⟨.ref _,_,I.laid (λ b ob q=>f8 _ q) (M2 _) ?_,rfl,q _<|I.bG.fresh<|M2 _⟩;exact⟨A11 (qW xs lo hi) hz,_,0,(r.drop _).take _,A17 _ rfl⟩
theorem vo:lO X (.type "tuple") (λ xs H Q=>∃p ys,xs=[.ref p]/\((i4 X.K H p ys/\∀l,H l=Ch->Q (.ref l) (upd H l<|.tup ys))\/(mi X.K H p ys/\Q (.ref p) H))):=by
 intro χ s σ H xs us Q I r h;let⟨p,ys,rfl,h⟩:=h;let⟨u,rfl,rx⟩:=vals1 r;cases rx;rcases h with⟨hq,q⟩|⟨hq,q⟩
 .let⟨aW,r',pl,hz⟩:=I.list hq;have ψ:=r'.length;refine call_tuple_list pl.isList (λ h' kp=>?_) (by simp only[A10]<;>lia);have I1:=I.kept (t':=s.toks) kp;have I2:=
   I1.laid (t':=s.toks) (λ b o e=>f8 _ e) (M2 _)<|show d7 _ X.w _ _ _ (.tup ys)from⟨hz,aW,r',pq.new _ _⟩
  exact⟨.ref _,_,I2,rfl,q _<|I1.bG.fresh<|M2 _⟩
 .let⟨aW,r',pl,hz⟩:=I.tuple hq;exact call_tuple_same pl ⟨.ref p,H,I,rfl,q⟩
def tyV(K:Db)(T:String)(x:V)(H:Hp):Prop:=match x with
|.str _=>T="str"
|.int _=>T="int"
| .ref p=>(T="list" /\ ∃xs,i4 K H p xs)\/(T="tuple" /\ ∃o,K.lookup p=AC o/\o.cls=.type "tuple" /\ o.dict=Ch) \/
 (T="dict" /\ ((∃aO,H p=AC (.dK aO))\/∃aO,H p=AC (.dT aO)))\/(T="set" /\ ∃S n,H p=AC (.set S n))
|_=>False
theorem RO(I:Inv X χ σ H s)(r:RelV x v)(ty:tyV X.K T x H) :
 s.TypeIs v T/\∀a,v=.ref a->∃ob,s.heap.get? a=AC ob/\ob.dict=Ch:=by
 cases x with
 |str z=>let⟨t,rfl⟩:=r;cases (ty);exact⟨B22 s z t,λ _ e=>nomatch e⟩
 |int i=>let⟨t,rfl⟩:=r;cases (ty);exact⟨B23 s i t,λ _ e=>nomatch e⟩
 |ref p=>
  cases r;rcases ty with⟨rfl,xs,hq⟩|⟨rfl,o,hk,hc,hd⟩|⟨rfl,hk⟩|⟨rfl,S,n,hk⟩
  .let⟨aW,_,pl,_⟩:=I.list hq;refine⟨pl.isList.typeIs,λ a e=>?_⟩;cases e;let⟨o,n,e,c,hd,_⟩:=pl;exact⟨o,e,hd⟩
  .refine⟨⟨o,I.lX p o hk,hc⟩,λ a e=>?_⟩;cases e;exact⟨o,I.lX _ o hk,hd⟩
  .have z:∃o,s.heap.get? p=AC o/\o.ExactDict:=by
    rcases hk with⟨aO,hk⟩|⟨aO,hk⟩
    .let⟨_,_,_,_,o,_,_,e,ex,_⟩:=I.bG p _ hk;exact⟨o,e,ex⟩
    .let⟨_,_,_,_,o,_,_,e,ex,_⟩:=I.bG p _ hk;exact⟨o,e,ex⟩
   let⟨o,e,ex⟩:=z;refine⟨⟨o,e,ex.1⟩,λ a e2=>?_⟩;cases e2;exact⟨o,e,ex.2.1⟩
  .let⟨o,_,_,_,e,ex,_⟩:=I.bG p _ hk;refine⟨⟨o,e,ex.1⟩,λ a e2=>?_⟩;cases e2;exact⟨o,e,ex.2.1⟩
 |_=>exact GM ty
def tBM(K:Db)(T:String)(r:V->γ V->Hp->VK->Prop)(to:TE)(t:TA):TE:=λ σ H Q=>to σ H λ x H1=>tyV K T x H1/\t σ H1 λ xs H2=>r x xs H2 Q
variable{T id:String}
theorem sY(pa:PlainAttrs T)(slot:Slot T name id)(hty:typeOf (.builtin id)=pure (.type "method_descriptor"))(hm:Vh X id r)(ho:PE X o to)(ha:PA X (e::es) t)
 (gZ:attributeBase o name X.env (eval o X.env)=eval o X.env:=by rfl)
 (lx:((backTo iZ<|starEach (e::es) X.env).all (λ x=>!x.1)&&(backToKw iZ<|keywordEach [] X.env).all (λ x=>x.1.isSome)
  && decide ((e::es).length+([]:γ π).length+(if([]:γ π).isEmpty then 0 else 1)<30))=Da:=by rfl)
 (gW:(apos.endLine==iZ.line)=Da:=by rfl) (hs:Se e es X.env:=by rfl) (fh:Pn iZ es X.env:=by rfl) :
 PE X (.Call (.Attribute o name apos) (e::es) [] iZ) (tBM X.K T r to t):=by
 intro χ s σ H Q I h;refine wpAny_Call_method_late gZ lx gW rfl<|b! (ho χ s σ H _ I h) ?_;rintro v s1 ⟨x,H1,I1,r1,ty,q1⟩;let⟨h1,h2⟩:=RO I1 r1 ty;refine⟨T,id,pa,slot,hty,h1,h2,?_⟩;have hA:=ha iZ χ s1 σ H1 _ I1 q1;rw[hs]at hA ⊢;refine Calls.callWith_builtin (by show(AT||(backTo iZ _).any _)=AT;rw[fh]<;>rfl)<|B89 ?_;exact b! hA <|by rintro us s2 ⟨vs,H2,I2,r2,q2⟩;exact hm χ s2 σ H2 x vs v us Q I2 r1 r2 q2
/- xs.append(e),list.index on a Jy tuple .. are Vh facts of 06m -/
end
def MtM(X:Cx)(id:String)(r:V->γ V->Hp->VK->Prop):Prop:=
 ∀ (χ:γ (δ×μ))(s:η)(σ:St)(H:Hp)(x:V)(xs:γ V)(v:ζ)(us:γ ζ)(Q:VK),Inv X χ σ H s->RelV x v->Vals xs us->r x xs H Q ->
  Ev (model X.prog X.w) X.A (call (.builtin id)<|v::us) (EP X χ σ Q) X.xe s
theorem Vals.one:∀{x}{us},Vals [x] us->∃u,us=[u]/\RelV x u:=by intro x us h;cases h with|cons r h=>cases h;exact⟨_,rfl,r⟩
theorem Vals.rep(h:Vals xs us):∀k,Vals (Do k xs).flatten (Do k us).flatten
|0=>.nil
|k+1=>by rw[A78,A78,B24,B24];exact Vals.append h<|Vals.rep h k
theorem foldl_rep(aW:γ ζ):∀k acc,
 AD3 (λ x1 x2=>x1++x2) acc.toArray (Do k aW.toArray)=(acc++(Do k aW).flatten).toArray
|0,acc=>by simp
|k+1,acc=>by
 have e:acc.toArray++aW.toArray=(acc++aW).toArray:=by simp
 have e2:(acc++aW)++(Do k aW).flatten=acc++(Do (k+1) aW).flatten:=by rw[A78,B24,A70]
 rw[<-e2,<-foldl_rep,<-e,A78,AC6]
theorem Inv.XG{aW Ah:γ ζ}(I:Inv X χ σ H s)(hH:H l=AC (.lst xs))
 (e:s.heap.get? l=AC {cls:=.type "list",data:=.seq aW.toArray n}) (hf:f aW.toArray=Ah.toArray) (hv:Vals ys Ah) (hz:ys.length<=sizeLine) :
 Inv X χ σ (upd H l<|.lst ys) {s with heap:=s.heap.update l<|Obj.mapSeq f,toks:=t'}:=by
 have q:=PySem.IsL.update e f;rw[hf]at q;refine I.write (by rw[hH];exact trivial) (.inl rfl) (λ b' u hb hu=>(A79 _ _<|A09 hb).trans hu) ⟨_,q⟩ ?_;exact⟨hz,Ah,_,hv,q⟩
theorem Inv.XI(I:Inv X χ σ H s)(hv:Vals ys aW)(hz:ys.length<=sizeLine):
 Inv X χ σ (upd H s.heap.objs.size<|.lst ys) {s with heap:=s.heap.push {cls:=.type "list",data:=.seq aW.toArray},toks:=t'}:=
 I.laid (λ _ _ q=>f8 _ q) (M2 _) ⟨hz,aW,0,hv,A17 _ rfl⟩
theorem Inv.fresh(I:Inv X χ σ H s):H s.heap.objs.size=Ch:=I.bG.fresh<|M2 _
theorem Inv.N4(I:Inv X χ σ H s)(hH:H l=AC (.lst xs)):xs.length<=sizeLine/\∃aW n,Vals xs aW/\xs.length=aW.length/\s.heap.get? l=AC {cls:=.type "list",data:=.seq aW.toArray n}:=by let⟨z,aW,n,r,e⟩:=I.bG l _ hH;exact⟨z,aW,n,r,r.length,e⟩
theorem zW(h:n<=sizeLine):Sc n=AT:=by exact A32 ∅
def DD:V->γ V->Hp->VK->Prop:=λ x vs H Q=>∃l xs y,x=.ref l/\vs=[y]/\H l=AC (.lst xs)/\xs.length<sizeLine/\Q .non (upd H l<|.lst<|xs++[y])
theorem vX:MtM X "list.append" DD:=by intro χ s σ H x vs v us Q I rx rv h;let⟨l,xs,y,rfl,rfl,hH,hz,q⟩:=h;cases rx;let⟨u,rfl,ru⟩:=rv.one;let⟨z,aW,n,r,hl,e⟩:=I.N4 hH;refine A61 F.slot_list_append ⟨_,e,rfl⟩ F.entry_list_append (F.args_list_append_2 _ _) (PySem.list_append l _ n u (by rw[A10];lia)) ⟨e,?_⟩;refine⟨.non,_,I.XG hH e ∅ (r.append<|.cons ru .nil) ?_,rfl,q⟩;rw[A28,B90];lia
def DC:V->γ V->Hp->VK->Prop:=λ x vs H Q=>∃l b xs zs,x=.ref l/\vs=[.ref b]/\H l=AC (.lst xs)/\H b=AC (.lst zs)/\xs.length+zs.length<=sizeLine/\Q .non (upd H l<|.lst<|xs++zs)
theorem F8:MtM X "list.extend" DC:=by
 intro χ s σ H x vs v us Q I rx rv h;let⟨l,b,xs,zs,rfl,rfl,hH,hB,hz,q⟩:=h;cases rx;let⟨u,rfl,ru⟩:=rv.one;cases ru;let⟨z,aW,n,r,hl,e⟩:=I.N4 hH;let⟨z2,gV,n2,r2,OJ,e2⟩:=I.N4 hB;have Co:aW.toArray.size+gV.toArray.size<=sizeLine:=by rw[A10,A10];lia
 have J?:¬(!aW.toArray.isEmpty&&Sc (aW.toArray.size+gV.toArray.size))=Da:=by rw[zW Co,AD2];exact A86
 refine A61 F.slot_list_extend ⟨_,e,rfl⟩ F.entry_list_extend (F.args_list_extend_2 _ _)
  (AutoSeq1.list_extend_list_list_0 l _ n b _ n2 J? (by rw[A10];lia) ∅) ⟨e,e2,?_⟩
 refine⟨.non,_,I.XG hH e ∅ (r.append r2) ?_,rfl,q⟩;rw[A28];lia
def aaE:R2:=λ x y H Q=>∃l k xs,x=.ref l/\y=.int k/\H l=AC (.lst xs)/\-(2^63)<=k/\k<2^63/\xs.length*k.toNat<=sizeLine /\
 ∀p,H p=Ch->Q (.ref p) (upd H p<|.lst (Do k.toNat xs).flatten)
theorem len_rep{α:Type}(xs:γ α)(k:Nat):(Do k xs).flatten.length=k*xs.length:=by
 induction k with
 |zero=>simp
 |succ k ih=>rw[A78,B24,A28,ih,B25,A89]
theorem Su:jk X (binaryOp .Mult) aaE:=by
 intro χ s σ H x y v u Q I rx ry h;let⟨l,k,xs,rfl,rfl,hH,h1,h2,hz,q⟩:=h;cases rx;let⟨t,rfl⟩:=ry;let⟨z,aW,n,r,hl,e⟩:=I.N4 hH;have ψ:aW.toArray.size*k.toNat<=sizeLine:=by rw[A10,<-hl];exact hz
 have ab5:¬aW.toArray.size*k.toNat>(2^63-1) / 8:=by
  have:(sizeLine)<=(2^63-1) / 8:=by decide
  lia
 have abT:¬(!Builtin.List.listFitsIndex k)=Da:=by rw[fitsIndex_both h1 h2];exact A86
 have J?:¬Sc (aW.toArray.size*k.toNat)=Da:=by rw[zW ψ];exact A86
 have T7:AD3 (λ x1 x2=>x1++x2) #[] (Do (if aW.toArray.isEmpty=Da then 0 else k.toNat) aW.toArray)=(Do k.toNat aW).flatten.toArray:=by
  have f0:=λ m=>by have:=foldl_rep aW m [];rw[B51]at this;exact this
  rw[f0];cases aW with
  |nil=>simp
  |cons a r'=>rw[o0 ∅]
 refine C41 ∅ ⟨_,e,rfl⟩ (λ s'=>B23 s' k t) noFill_list_mul F.fills_int_mul B52 repeat_list F.slot_int_index.lookup
  (A61 B52 (B23 s k t) F.entry_int_rmul (F.args_int_rmul_2 _ _) (int___rmul___int_list k t l aW.toArray n)
   ⟨e,rfl,⟨_,e,rfl⟩,A61 F.slot_list_mul ⟨_,e,rfl⟩ F.entry_list_mul (F.args_list_mul_2 _ _) (AutoListH.list___mul___list_int_3 l aW.toArray n k t abT ab5 J?) ⟨e,?_⟩⟩)
 rw[T7];exact⟨.ref _,_,I.XI (r.rep k.toNat) (by rw[len_rep,Nat.mul_comm];exact hz),rfl,q _ I.fresh⟩
end L2
namespace Att
open PySem.W PySem.Calls
theorem rA:∀ns vs,WellAll P h vs (ns.map WData.int)->IntsAre vs ns:=by
 intro ns
 induction ns with
 |nil=>intro vs w;rw[A35]at w;cases w;exact .nil
 |cons n ns ih=>
  intro vs w;rw[v4]at w;cases w with
  |cons a b=>cases a;exact .cons _ _<|ih _ b
theorem FD{l:OpenLaw}(hn:l.most=AC n)
 (OD:l.row.toRowW.claim.pre args=Da) (hwl:WellAll P h vals args) :
 ∃a vs ns,vals=[Value.ref a]/\args=[WData.list (ns.map WData.int)]/\h.get? a=AC {cls:=.type "list",data:=.seq vs.toArray}/\IntsAre vs ns/\ns.length<=n:=by
 have hsh:=(pre_splitW OD).1;have hc:l.pre.holds [] {args:=args}=Da:=(pre_splitW OD).2;let⟨d,r,rfl,h1,h2⟩:=hasAllW_cons hsh;obtain rfl:=hasAllW_nil h2;let⟨xs,rfl,h3⟩:=hasW_list h1;let⟨ns,rfl⟩:=items_int h3;have ψ:ns.length<=n:=by
  have h4:(WTm.not<|.lt (.lit<|.int<|n)<|.len<|.arg 0).holds [] {args:=[.list (ns.map .int)]}=Da:=by have h4:=(holds_andW hc).1;rw[hn]at h4;exact h4
  have h5:=condW_of h4<|w_not<|w_lt w_lit<|w_len_list<|w_arg rfl;rw[A04]at h5;refine Nat.le_of_not_lt λ q=>?_;have q':(n)<((ns.length)):=by lia
  first
   |(rw[A39 q']at h5;exact absurd h5 ∅)
   |(simp at h5;lia)
 cases hwl with
 |cons w1 w2=>
  cases w2;cases w1 with
  |list ho hall=>exact⟨_,_,ns,rfl,rfl,ho,rA ns _ hall,ψ⟩
theorem FJ(l:OpenLaw)(args:γ WData):l.row.toRowW.claim.post args (.bool Da) args=Da:=
 postW_of
  (show WShape.has [] _ .bool=Da by first|rfl|decide|simp[WShape.armsAll])
  (w_eq_bool (w_res rfl) w_lit) rfl
end Att
namespace L2
theorem vE:∀{vs}{ns},IntsAre vs ns->Vals (ns.map V.int) vs
|_,_,.nil=>.nil
|_,_,.cons n t h=>.cons ⟨t,rfl⟩<|vE h
def Qd(H:Hp):Prop:=∀b,H b=Ch\/(∃o xs,H b=AC (.eJ o<|.lst xs))\/∃q,H b=AC (.HX q)
def TabAt(K:Db)(x:Str)(b:δ):Prop:=x∈cK/\∃c,Re K x=AC (c,b)
theorem N?{K:Db}(one:∀x y c P c',x∈cK->y∈cK->Re K x=AC (c,P)->Re K y=AC (c',P)->x=y)(h:TabAt K x b)(g:TabAt K y b):x=y:=by let⟨h1,c,h2⟩:=h;let⟨g1,d,g2⟩:=g;exact one x y c b d h1 g1 h2 g2
open Classical in
noncomputable def BD(K:Db)(a:δ)(u:HO)(s:Bool):Hp:=λ b=>if h:∃x,TabAt K x b then AC (.HX<|iW h.choose)else if s=Da/\b=a then AC u else Ch
theorem JO{P:ο}{w:ξ}{K:FS}{mg mb:Str->ε ζ}{CX:Vp}{k:Nat}{fa a:δ}{fd:υ}{x:Str}{sp:Sp}{s₁:η}{vs:γ ζ}{ns:γ Int}
 (KX:K.In s₁.heap) (J':s₁.heap.Ns mainGlobals mg) (hb:s₁.heap.Ns builtinsNs mb) (hbb:∀x:Str,x≠ "__name__" -> mb x=bootBuiltins x) (abF:s₁.heap.NoLimit) (hg:s₁.gens=#[])
 (ha:s₁.heap.get? a=AC {cls:=.type "list",data:=.seq vs.toArray}) (hi:IntsAre vs ns) (hl:ns.length<=sizeLine) (hr:bh k callerA)
 (F:∀base:ν,K.In base->base.Ns mainGlobals mg->d9 P w K mg base CX k fa fd [x] sp) (ly:∀(s:η)(u:ζ),BindsTo s fd ⟨[u],[]⟩ [(x,u)])
 (Gj:∀H:Hp,Qd H->i4 K H a (ns.map V.int)->sp [.ref a] H (λ v _=>v=.bl Da) λ _ _ _=>False)
 (hCX:∀H e s',CX [] H s₁ (λ _ _ _=>False) e s'->False)
 (one:∀x y c P c',x∈cK->y∈cK->Re K x=AC (c,P)->Re K y=AC (c',P)->x=y)
 (tab:∀x∈cK,∀c P,Re K x=AC (c,P)->(AD5 s₁.heap c P/\s₁.heap.get? P=AC (jp #[]))/\s₁.heap.TableAt c P #[]) (bm:BMain mg s₁.heap) (iE:PySem.W.noTabs K=Da) :
 codeAny (model P w) callerA (.call (.ref fa) ⟨[.ref a],[]⟩) (λ r s'=>r=.ok (.ret<|.bool Da)/\OldK s₁.heap s'.heap/\s'.os=s₁.os/\AllBare s'.gens) s₁:=by
 have rv:=vE hi;have aa0:=hi.length;have MG:∀{b}{y},TabAt K y b->s₁.heap.get? b=AC (jp #[]):=λ {b y} ⟨h1,c,h2⟩=>(tab y h1 c b h2).1.2;have QX:∀{b}{o},s₁.heap.get? b=AC o->o≠jp #[]->¬∃y,TabAt K y b:=λ {b o} e n ⟨y,h⟩=>by have:=MG h;rw[e]at this;exact n<|A05 this
 have at1:∀{b}{u}{q}{y},TabAt K y b->BD K a u q b=AC (.HX<|iW y):=λ {b u q y} h=>by
  have hh:∃x,TabAt K x b:=⟨y,h⟩
  unfold BD;rw[A90 hh];rw[N? one hh.choose_spec h]
 have at2:∀{b}{u}{q},(¬∃y,TabAt K y b)->BD K a u q b=if q=Da/\b=a then AC u else Ch:=λ {b u q} h=>by unfold BD;rw[dif_neg h]
 -- from an abstract heap in adg nothing but RU RZ and RU tables may be tracked
 have core:∀u q,(∃o xs,u=.eJ o (.lst xs))->i4 K (BD K a u q) a (ns.map V.int)->(q=Da->d7 P w (BD K a u q) s₁.heap a u)->(q=Da->K.lookup a=Ch) ->
  codeAny (model P w) callerA (.call (.ref fa) ⟨[.ref a],[]⟩) (λ r s'=>r=.ok (.ret<|.bool Da)/\OldK s₁.heap s'.heap/\s'.os=s₁.os/\AllBare s'.gens) s₁:=by
  intro u q hu hS hua hK;generalize hHH:BD K a u q=H at hS hua;have na:¬∃y,TabAt K y a:=QX ha λ z=>by cases z
  have of:∀{b}{v},H b=AC v->(∃y,TabAt K y b/\v=.HX (iW y))\/(q=Da/\b=a/\v=u):=λ {b v} e=>by
   by_cases hb:∃y,TabAt K y b
   .let⟨y,hy⟩:=hb;rw[<-hHH,at1 hy]at e;cases e;exact .inl ⟨y,hy,rfl⟩
   .rw[<-hHH,at2 hb]at e;split at e
    .rename_i hc;cases e;exact .inr ⟨hc.1,hc.2,rfl⟩
    .cases e
  have bG:kR P w H s₁.heap:=λ b v e=>by
   rcases of e with⟨y,hy,rfl⟩|⟨hq,rfl,rfl⟩
   .exact⟨#[],MG hy,trivial,λ pos cv z=>nomatch z⟩
   .exact hua hq
  have hO:Qd H:=λ b=>by
   cases e:H b with
   |none=>exact .inl rfl
   |some v=>
    rcases of e with⟨y,_,rfl⟩|⟨_,_,rfl⟩
    .exact .inr<|.inr ⟨_,rfl⟩
    .let⟨o,xs,rfl⟩:=hu;exact .inr<|.inl ⟨o,xs,rfl⟩
  have rY:∀{b}{o},s₁.heap.get? b=AC o->H b=Ch->(u7 s₁.heap H).get? b=AC o:=λ e n=>J_ e n;have S8:∀{b}{o},s₁.heap.get? b=AC o->(∀xs n,o.data≠.seq xs n)->(∀xs,o.data≠.fields xs\/o.cls≠.none)->H b=Ch:=λ {b o} e d d2=>by
   cases r:H b with
   |none=>rfl
   |some v=>
    rcases of r with⟨y,hy,_⟩|⟨_,hba,_⟩
    .rw[MG hy]at e;cases e;rcases d2 #[]with z|z
     .exact absurd rfl z
     .exact absurd rfl z
    .rw[hba,ha]at e;cases e;exact absurd rfl<|d _ _
  have _b:∀{b:δ}{m:Str->ε ζ},s₁.heap.Ns b m->(u7 s₁.heap H).Ns b m:=λ {b m} ⟨o,es,ep,e,d,r⟩=>⟨o,es,ep,rY e (S8 e (λ xs n z=>by rw[d]at z;cases z) λ xs=>.inl λ z=>by rw[d]at z;cases z),d,r⟩
  have hKb:K.In (u7 s₁.heap H):=λ b o e=>rY (KX b o e) (by
   cases r:H b with
   |none=>rfl
   |some v=>
    rcases of r with⟨y,hy,_⟩|⟨hq,hba,_⟩
    .have e2:=KX b o e;rw[MG hy]at e2;cases e2;have h2:=A31.mp iE _<|PySem.W.mem_of_lookupK e;exact absurd (show AT=Da from h2) A86
    .rw[hba,hK hq]at e;cases e)
  have hM:Mod K mg (u7 s₁.heap H):=⟨hKb,_b J',⟨mb,_b hb,hbb⟩,let ⟨mc,h1,h2⟩:=abF;⟨mc,_b h1,h2⟩⟩
  have hT:wV K mg (u7 s₁.heap H) H:=λ y hy c p e=>by let⟨⟨⟨o,vs,file,tf,flags,tg,inF,text,tt,e1,e2,e3,r⟩,_⟩,_⟩:=tab y hy c p e;let⟨bmA,ob,b1,b2,b3,b4,b5,b6⟩:=bm;refine⟨by rw[<-hHH];exact at1 ⟨hy,c,e⟩,⟨o,vs,file,tf,flags,tg,inF,text,tt,rY e1 (S8 e1 (λ xs n z=>by rw[e3]at z;cases z) λ xs=>.inr λ z=>by rw[e2]at z;cases z),e2,e3,r⟩,bmA,ob,b1,b2,rY b3 (S8 b3 (λ xs n z=>by rw[b6]at z;cases z) λ xs=>.inr λ z=>by rw[b4]at z;cases z),b4,b5,b6⟩
  have e0:C9 P w K mg (u7 s₁.heap H) callerA [] s₁ H:=⟨rfl,hM,λ b o e=>NH e,B79<|Gs _ _,trivial,λ b hb=>absurd (show b∈([]:γ δ)from hb) ∅,bG,.of_eq hg,hT⟩
  refine A87 ((F _ hKb<|_b J').run callerA [] s₁ H ⟨[.ref a],[]⟩ [.ref a] [.ref a] _ _ hr e0 (ly s₁<|.ref a) (.cons rfl .nil)<|Gj H hO hS) λ r s' h=>?_;cases r with
  |error e=>exact(hCX H e s' h).elim
  |ok fl=>
   cases fl with
   |next=>exact GM h
   |brk=>exact GM h
   |cont=>exact GM h
   |ret u'=>
    let⟨v,H',os,bare,un,Yg,r',q'⟩:=h;have q':v=.bl Da:=q';subst q';obtain rfl:u'=Value.bool Da:=r';refine⟨rfl,⟨λ b o e=>?_,λ b o e=>un.there b o e ∅⟩,os,bare⟩;cases r:H b with
    |none=>exact .inl<|un.keep b o e r (by intro z;exact absurd (show b∈([]:γ δ)from z) ∅) ∅
    |some v=>
     rcases of r with⟨y,hy,rfl⟩|⟨_,_,rfl⟩
     .have r2:=un.n6 b (.HX<|iW y) trivial r;let⟨ps,g1,_⟩:=Yg b _ r2;let⟨h1,c,h2⟩:=hy;have tb:=(tab y h1 c b h2).2;have e3:o={cls:=.none,data:=.fields #[]}:=A05<|e.symm.trans tb.2;subst e3;exact .inr<|.inl ⟨tb.isCodeTable,rfl,#[],ps,rfl,by rw[g1];simp⟩
     .let⟨ob,xs,rfl⟩:=hu;have z2:=un.rC b ob _ r;let⟨e1,_⟩:=bG b _ r;let⟨e2,_⟩:=Yg b _ z2;rw[e]at e1;cases e1;exact .inl e2
 have na:¬∃y,TabAt K y a:=QX ha λ z=>by cases z
 cases hk:K.lookup a with
 |some o=>
  -- RU RZ is one of RU Jy own objects
  have e:=KX a o hk;rw[ha]at e;cases e;exact core (.eJ {cls:=.type "list",data:=.seq vs.toArray}<|.lst []) AT ⟨_,_,rfl⟩ (.inr ⟨_,vs.toArray,_,hk,rfl,rfl,rfl,by rw[A10,aa0];exact hl,by simpa using rv⟩) (λ z=>nomatch z) λ z=>nomatch z
 | none=>refine core (.eJ {cls:=.type "list",data:=.seq vs.toArray}<|.lst<|ns.map V.int) Da ⟨_,_,rfl⟩ (.inl<|.inr ⟨{cls:=.type "list",data:=.seq vs.toArray},by rw[at2 na];exact W1 ⟨rfl,rfl⟩⟩) (λ _=>⟨ha,by rw[A04];exact hl,vs,_,rv,ha⟩) λ _=>hk
def br(s:ι):Arguments:=match s with
|.FunctionDef _ a _ _ _ _ _ _ _ _=>a
|_=>{posonlyargs:=[],args:=[],vararg:=Ch,kwonlyargs:=[],kw_defaults:=[],kwarg:=Ch,defaults:=[]}
def az(s:ι):γ ι:=match s with
|.FunctionDef _ _ b _ _ _ _ _ _ _=>b
|_=>[]
def ae(s:ι):ς:=match s with
|.FunctionDef _ _ _ _ _ _ sc _ _ _=>sc
|_=>{kind:=.function,names:=[],isGenerator:=AT,isCoroutine:=AT}
abbrev il:Vp:=λ _ _ _ _ _ _=>False
abbrev E0:XK:=λ _ _ _=>False
theorem qD:Passes il X E0:=λ _ _ _ _ _ _ _ h=>h.elim
structure Bc(K:Db)(x qual:Str)(st:Stmt)(f:Addr)(fd:FuncData):Prop where
 ex:∃(oc:Value)(od:Option Addr)(kV doc pm:Value)(an:Option Addr)(a9 ct:Value)(yK:Array (Option Value)),
  fd=PP x qual (br st) (az st) (ae st) .none kV doc pm an a9 ct/\K.lookup f=AC ⟨oc,od,.func fd,yK⟩/\SB K a9 qual=Da
 kp:Fa K (.ref f)=Da
section
variable{K:Db}
theorem Bc.ok{st:ι}(F:Bc K x qual st f fd)(S:a8 N ps (ae st))(len:∀vs H Q E,sp vs H Q E->vs.length=ps.length)
 (Ao:∀a9 A outer s H vs Q E,bh k (A.deeper<|envOfC qual (ae st) s.heap.objs.size f a9)->sp vs H Q E ->
  ∃t,qp (dM il P w K mg base N qual (ae st) f a9 A outer s H E).fP (az st) t/\t {nx:=λ _ H'=>Q .non H',rt:=Q} (start N vs) H):d9 P w K mg base il (k+1) f fd ps sp:=by
 let⟨oc,od,kV,doc,pm,an,a9,ct,yK,rfl,lk,rT⟩:=F.ex;refine Av lk rT S len λ A outer s H vs Q E hr Gj=>?_;let⟨t,h,q⟩:=Ao a9 A outer s H vs Q E hr Gj;exact⟨t,h.fP,q⟩
theorem Bc.binds{st:ι}(F:Bc K x qual st f fd)
 (h:∀kV doc pm an a9 ct us,us.length=ps.length->bindArgs (PP x qual (br st) (az st) (ae st) .none kV doc pm an a9 ct) ⟨us,[]⟩=pure (ps.zip us)):Binds K fd ps []:=by
 let⟨oc,od,kV,doc,pm,an,a9,ct,yK,rfl,lk,rT⟩:=F.ex;exact .all<|h kV doc pm an a9 ct
theorem t?{st:ι}{kV doc pm a9 ct:ζ}(l:K.lookup f=AC ⟨oc,od,.func<|PySem.W.fnOf x qual (br st) (az st) (ae st) .none kV doc pm an a9 ct,yK⟩)
 (c:SB K a9 qual=Da) (k:Fa K (.ref f)=Da):Bc K x qual st f (PP x qual (br st) (az st) (ae st) .none kV doc pm an a9 ct):=⟨⟨oc,od,kV,doc,pm,an,a9,ct,yK,rfl,l,c⟩,k⟩
end
theorem pv(i:Nat)(hN:X.N[i]?=AC x:=by rfl)(hv:LG X.env.scope x:=by first|exact AE3 rfl|exact tz<|Or.inl rfl|exact tz<|Or.inr rfl)(hd:Nd x:=by decide)
 (rT:(x==("__classdict__"))=AT:=by decide):PE X (.Name x pos) (mS i):=sX hN hv hd rT
def aw(H H':Hp):Prop:=∀b o,H b=AC o->H' b=AC o
theorem aw.refl(H:Hp):aw H H:=λ _ _ h=>h
theorem aw.trans(a:aw H H1)(b:aw H1 H2):aw H H2:=λ c o h=>b c o<|a c o h
theorem aw.free(e:aw H H')(h:H' l=Option.none):H l=Option.none:=by
 cases q:H l with
 |none=>rfl
 |some o=>rw[e l o q]at h;cases h
theorem aw.seq{K:Db}(e:aw H H')(h:i4 K H a xs):i4 K H' a xs:=by
 rcases h with(h|⟨o,h⟩)|h
 .exact .inl<|.inl<|e _ _ h
 .exact .inl<|.inr ⟨o,e _ _ h⟩
 .exact .inr h
section
variable{κ:Type}[DecidableEq κ]
def pF(aO:γ (κ×V))(k:κ):ε V:=(aO.find? λ kv=>decide<|kv.1=k).map (·.2)
def putK(aO:γ (κ×V))(k:κ)(v:V):γ (κ×V):=
 if(aO.any λ kv=>decide<|kv.1=k)=Da then aO.map (λ kv=>if kv.1=k then(kv.1,v)else kv)else aO++[(k,v)]
def g!(aO:γ (κ×V))(k:κ):γ (κ×V):=aO.filter λ kv=>decide<|kv.1≠k
theorem nU{k:κ}(e:p.1=k):pF (p::r) k=AC p.2:=by simp[pF,e]
theorem kZ{k:κ}(e:¬p.1=k):pF (p::r) k=pF r k:=by simp[pF,e]
theorem y9(k:κ):∀aO,(aO.any λ kv=>decide<|kv.1=k)=(pF aO k).isSome
|[]=>rfl
|p::r=>by
 rw[B07];by_cases e:p.1=k
 .simp only[nU e,A39 e,Bool.true_or,Option.isSome_some]
 .rw[kZ e,A32 e,Bool.false_or];exact y9 k r
theorem qK(aO:γ _)(k:κ)(v:V):(putK aO k v).length<=aO.length+1:=by
 unfold putK;split
 .rw[A04];lia
 .rw[A28,A27,B91];lia
theorem kQ.jJ(r:kQ o u):o.isSome=u.isSome:=by
 cases o with
 |none=>cases u with
  |none=>rfl
  |some _=>exact(r).elim
 |some _=>cases u with
  |none=>exact(r).elim
  |some _=>rfl
theorem KV.val(r:KV aO vs)(k:κ):kQ (pF aO k) (valueAt vs k):=by
 induction r with
 |nil=>exact KF
 |@cons p q ps qs h t ih=>
  let⟨h1,h2⟩:=h;by_cases e:p.1=k
  .have e':=h1.symm.trans e;have b:valueAt (q::qs) k=AC q.2:=by simp[valueAt,e']
   rw[nU e,b];exact h2
  .have e':¬q.1=k:=λ z=>e<|h1.trans z;have b:valueAt (q::qs) k=valueAt qs k:=by simp[valueAt,e']
   rw[kZ e,b];exact ih
theorem KV.any(r:KV aO vs)(k:κ):(aO.any λ kv=>decide<|kv.1=k)=vs.any λ kv=>decide (kv.1=k):=by
 induction r with
 |nil=>rfl
 |cons h t ih=>rw[B07,B07,ih,h.1]
theorem KV.R1(r:KV aO vs)(k:κ)(ry:RelV y u):
 KV (aO.map λ kv=>if kv.1=k then(kv.1,y)else kv) (vs.map λ kv=>if kv.1=k then(kv.1,u)else kv):=by
 induction r with
 |nil=>exact .nil
 |@cons p q ps qs h t ih=>
  rw[v4,v4];refine .cons ?_ ih;let⟨h1,h2⟩:=h;by_cases e:p.1=k
  .rw[W1 e,W1<|h1.symm.trans e];exact⟨h1,ry⟩
  .rw[o0 e,o0 λ z=>e<|h1.trans z];exact⟨h1,h2⟩
theorem KV.put(r:KV aO vs)(k:κ)(ry:RelV y u):KV (putK aO k y) (stored vs k u):=by
 unfold putK stored;rw[r.any];by_cases e:(vs.any λ kv=>decide<|kv.1=k)=Da
 .rw[W1 e,W1 e];exact r.R1 k ry
 .rw[o0 e,o0 e];exact Paired.snoc r ⟨rfl,ry⟩
theorem KV.drop(r:KV aO vs)(k:κ):KV (g! aO k) (without vs k):=by
 unfold g! without
 induction r with
 |nil=>exact .nil
 |@cons p q ps qs h t ih=>
  let⟨h1,h2⟩:=h;rw[AB3,AB3];by_cases e:p.1=k
  .have a:¬decide (p.1≠k)=Da:=by simp[e]
   have b:¬decide (q.1≠k)=Da:=by simp[h1.symm.trans e]
   rw[o0 a,o0 b];exact ih
  .have e':¬q.1=k:=λ z=>e<|h1.trans z;have a:decide (p.1≠k)=Da:=by simp[e]
   have b:decide (q.1≠k)=Da:=by simp[e']
   rw[W1 a,W1 b];exact .cons ⟨h1,h2⟩ ih
theorem KV.length{vs:γ (κ×ζ)}(r:KV aO vs):aO.length=vs.length:=B44 r
theorem KU(aO:γ _)(k:κ):(g! aO k).length<=aO.length:=A50 _ _
end
theorem v_(r:RelV (kV k) u):(d? P w).is k u=Da:=by
 cases k with
 |inl i=>obtain⟨t,e⟩:=(r);subst e;exact z8 P w i t
 |inr x=>obtain⟨t,e⟩:=(r);subst e;exact z7 P w x t
theorem wc:∀{ks}{us},Vals (ks.map kV) us->ItemsAre (d? P w) ks us
|[],_,r=>by rw[A35]at r;cases r;exact .nil
|k::ks,_,r=>by
 rw[v4]at r;cases r with
 |cons h t=>exact .cons (v_ h)<|wc t
abbrev KT(H:Hp):γ (γ Key×V)->γ (γ Key×δ×ζ)->Prop:=Paired λ p q=>p.1=q.1/\H q.2.1=AC (.tup<|p.1.map kV)/\RelV p.2 q.2.2
theorem KT.val(r:KT H aO xs)(k:γ Key):kQ (pF aO k) ((atKey xs k).map (·.2)):=by
 induction r with
 |nil=>exact KF
 |@cons p q ps qs h t ih=>
  let⟨h1,_,h2⟩:=h;by_cases e:p.1=k
  .have e':=h1.symm.trans e;have b:atKey (q::qs) k=AC q.2:=by simp[atKey,e']
   rw[nU e,b];exact h2
  .have e':¬q.1=k:=λ z=>e<|h1.trans z;have b:atKey (q::qs) k=atKey qs k:=by simp[atKey,e']
   rw[kZ e,b];exact ih
theorem KT.R1(r:KT H aO xs)(k:γ Key)(ry:RelV y u):
 KT H (aO.map λ kv=>if kv.1=k then(kv.1,y)else kv) (xs.map<|putAt k u):=by
 induction r with
 |nil=>exact .nil
 |@cons p q ps qs h t ih=>
  rw[v4,v4];refine .cons ?_ ih;let⟨h1,h2,h3⟩:=h;unfold putAt;by_cases e:p.1=k
  .rw[W1 e,W1<|h1.symm.trans e];exact⟨h1,h2,ry⟩
  .rw[o0 e,o0 λ z=>e<|h1.trans z];exact⟨h1,h2,h3⟩
theorem KT.put(r:KT H aO xs)(k:γ Key)(hb:H b=AC (.tup<|k.map kV))(ry:RelV y u):
 KT H (putK aO k y) (storedH xs k b u):=by
 have e:(aO.any λ kv=>decide<|kv.1=k)=(atKey xs k).isSome:=by rw[y9,(r.val k).jJ,B92]
 unfold putK storedH;rw[e];by_cases q:(atKey xs k).isSome=Da
 .rw[W1 q,W1 q];exact r.R1 k ry
 .rw[o0 q,o0 q];exact Paired.snoc r ⟨rfl,hb,ry⟩
theorem KT.keeps(r:KT H aO xs)(ht:∀b ys,H b=AC (.tup ys)->H' b=AC (.tup ys)):KT H' aO xs:=
 Paired.JC r λ _ _ z=>⟨z.1,ht _ _ z.2.1,z.2.2⟩
section
variable{P:ο}{w:ξ}{H:Hp}{h:ν}{a:δ}
theorem Qx(ok:kR P w H h)(e:Rd H a u):d7 P w H h a u:=e.ok ok
theorem AS(ok:kR P w H h)(e:Rd H a (.dK aO)):aO.length<=sizeLine/\(a==sysModules)=AT/\∃vs,KV aO vs/\h.DictOf (d? P w) a vs:=
 Qx ok e
theorem Ri(ok:kR P w H h)(e:H a=AC (.dK aO)):aO.length<=sizeLine/\(a==sysModules)=AT/\∃vs,KV aO vs/\h.DictOf (d? P w) a vs:=AS ok<|.inl e
theorem tL(ok:kR P w H h)(e:H a=AC (.tup<|ks.map kV)):(tupleKind<|d? P w).is h ks a:=by
 obtain⟨_,aW,r,tn⟩:=(ok a _ e)
 let⟨o,h1,h2,n,h3⟩:=tn.is;exact⟨o,_,n,h1,h2,h3,by simpa using wc r⟩
theorem AN(ok:kR P w H h)(e:Rd H a (.dT aO)):aO.length<=sizeLine/\(a == sysModules)=AT /\
 ∃xs,KT H aO xs/\h.DictOfH (tupleKind<|d? P w) a xs:=by
 obtain⟨z,y,xs,r,o,es,ep,h1,h2,h3,h4,h5⟩:=(Qx ok e)
 refine⟨z,y,xs,r,o,es,ep,h1,h2,h3,h4,λ x hx=>?_,h5⟩;have all:∀{l}{m},KT H l m->∀x∈m,(tupleKind<|d? P w).is h x.1 x.2.1:=by
  intro l m q
  induction q with
  |nil=>intro x hx;exact nomatch hx
  |@cons p q ps qs hq t ih=>
   intro x hx;rcases A01.mp hx with e|hx
   .subst e;exact tL ok (by rw[<-hq.1];exact hq.2.1)
   .exact ih x hx
 exact all r x hx
theorem qV(ok:kR P w H h)(e:H a=AC (.dT aO)):aO.length<=sizeLine/\(a==sysModules)=AT /\
 ∃xs,KT H aO xs/\h.DictOfH (tupleKind<|d? P w) a xs:=AN ok<|.inl e
end
def A8(H:Hp)(a:δ)(y:V)(r:ε V):Prop:=
 (∃aO k,Rd H a (.dK aO)/\y=kV k/\r=pF aO k)\/∃aO k b,Rd H a (.dT aO)/\y=.ref b/\H b=AC (.tup<|k.map kV)/\r=pF aO k
def Zx(H:Hp)(a:δ)(y v:V)(H':Hp):Prop:=
 (∃aO k,H a=AC (.dK aO)/\y=kV k/\aO.length<sizeLine/\H'=upd H a (.dK<|putK aO k v)) \/
 ∃aO k b,H a=AC (.dT aO)/\y=.ref b/\H b=AC (.tup<|k.map kV)/\aO.length<sizeLine/\H'=upd H a (.dT<|putK aO k v)
section
variable{X:Cx}{χ:γ (δ×μ)}{σ:St}{H:Hp}{s:η}{a:δ}{y v:V}{u r:ζ}{o:ε V}{A:τ}{E:ζ->η->Prop}
theorem Inv.big(I:Inv X χ σ H s):sysModules<s.heap.objs.size:=by have h:=(I.mod.glob.keeps I.bk).lt;exact Nat.lt_trans ∅ h
theorem GY(hu:A.units+1<cLine)(I:Inv X χ σ H s)(g:A8 H a y (AC v))(ry:RelV y u)(h:∀w' s',Inv X χ σ H s'->RelV v w'->Q w' s'):
 Ev (model X.prog X.w) A (getItem (.ref a) u) Q E s:=by
 rcases g with⟨aO,k,e,ey,l⟩|⟨aO,k,b,e,ey,eb,l⟩
 .subst ey;let⟨z,hd,vs,rel,dd⟩:=AS I.bG e;let⟨w',hw,FG⟩:=kQ.some_of (v:=v) (o:=valueAt vs k) (by rw[l];exact rel.val k);exact wpAny_getItem_of (v_ ry) dd.mapOf hw<|h w' _ (I.tok _) FG
 .subst ey;cases (ry);let⟨z,hd,xs,rel,dd⟩:=AN I.bG e;let⟨w',hw,FG⟩:=kQ.some_of (v:=v) (o:=(atKey xs k).map (·.2)) (by rw[l];exact rel.val k);let⟨p,hp,_s⟩:=B53.mp hw;refine wpAny_getItem_heap (B54 hu) (tL I.bG eb) dd hp ?_;rw[_s];exact h w' _ (I.tok _) FG
theorem acN(hu:A.units+1<cLine)(I:Inv X χ σ H s)(g:A8 H a y o)(ry:RelV y u)(h:∀s',Inv X χ σ H s'->Q (.bool o.isSome) s'):
 Ev (model X.prog X.w) A (compareOp .In u<|.ref a) Q E s:=by
 rcases g with⟨aO,k,e,ey,l⟩|⟨aO,k,b,e,ey,eb,l⟩
 .subst ey;let⟨z,hd,vs,rel,dd⟩:=AS I.bG e;refine wpAny_in_of (v_ ry) hd dd.mapOf ?_;rw[<-(rel.val k).jJ,<-l];exact h _<|I.tok _
 .subst ey;cases (ry);let⟨z,hd,xs,rel,dd⟩:=AN I.bG e;refine wpAny_in_heap (B54 hu) (tL I.bG eb) hd dd ?_;have q:=(rel.val k).jJ;rw[B92]at q;rw[<-q,<-l];exact h _<|I.tok _
theorem Pz(hu:A.units+1<cLine)(I:Inv X χ σ H s)(g:A8 H a y o)(ry:RelV y u)(h:∀s',Inv X χ σ H s'->Q (.bool<|!o.isSome) s'):
 Ev (model X.prog X.w) A (compareOp .NotIn u<|.ref a) Q E s:=by
 rcases g with⟨aO,k,e,ey,l⟩|⟨aO,k,b,e,ey,eb,l⟩
 .subst ey;let⟨z,hd,vs,rel,dd⟩:=AS I.bG e;refine wpAny_notIn_of (v_ ry) hd dd.mapOf ?_;rw[<-(rel.val k).jJ,<-l];exact h _<|I.tok _
 .subst ey;cases (ry);let⟨z,hd,xs,rel,dd⟩:=AN I.bG e;refine wpAny_notIn_heap (B54 hu) (tL I.bG eb) hd dd ?_;have q:=(rel.val k).jJ;rw[B92]at q;rw[<-q,<-l];exact h _<|I.tok _
theorem yx(I:Inv X χ σ H s)(mu:Zq (H a))(hs:Ix a s.heap h')(he:∃q,h'.get? a=AC q)(new:d7 X.prog X.w (upd H a ob) h' a ob):
 Inv X χ σ (upd H a ob) {s with heap:=h',toks:=t'}:=
 I.write mu (.inl rfl) (λ b q hb z=>(hs.2 b hb).trans z) he new
theorem K0(z:aO.length<=sizeLine)(hd:(a==sysModules)=AT)(rel:KV aO vs)(dd:h'.DictOf (d? P w) a vs):
 d7 P w H' h' a (.dK aO):=⟨z,hd,vs,rel,dd⟩
theorem GX(hu:A.units+1<cLine)(I:Inv X χ σ H s)(g:Zx H a y v H')(ry:RelV y u)(rv:RelV v r)(h:∀s',Inv X χ σ H' s'->Q () s'):
 Ev (model X.prog X.w) A (setItem (.ref a) u r) Q E s:=by
 rcases g with⟨aO,k,e,ey,l,eH⟩|⟨aO,k,b,e,ey,eb,l,eH⟩
 .subst ey eH;let⟨z,hd,vs,rel,dd⟩:=Ri I.bG e;have hz:vs.length<=sizeLine:=by rw[<-rel.length];exact z
  have hl:(putK aO k v).length<=sizeLine:=by have:=qK aO k v;lia
  refine wpAny_setItem_pairs (v_ ry) dd λ h' Rj hs=>h _ ?_;have he:∃q,h'.get? a=AC q:=let ⟨q,_,_,hq,_⟩:=Rj;⟨q,hq⟩;exact yx I (by rw[e];exact KF) hs he<|K0 hl hd (rel.put k rv) Rj
 .subst ey eH;cases (ry);let⟨z,hd,xs,rel,dd⟩:=qV I.bG e;have hz:xs.length<=sizeLine:=by rw[<-B44 rel];exact z
  have hl:(putK aO k v).length<=sizeLine:=by have:=qK aO k v;lia
  refine wpAny_setItem_heap (B54 hu) (tL I.bG eb) dd λ h' Rj hs=>h _ ?_;let⟨q,es,ep,hq,h2,h3,h4,_,h5⟩:=Rj;refine yx I (by rw[e];exact KF) hs ⟨q,hq⟩ ⟨hl,hd,_,(rel.put k eb rv).keeps λ c ys ec=>?_,q,es,ep,hq,h2,h3,h4,h5⟩;rw[au<|QY ec e λ z=>nomatch z];exact ec
end
section
variable{X:Cx}{σ:St}{H:Hp}{s:η}{a:δ}{aO:γ (Key×V)}{k:Key}{u:ζ}{A:τ}{E:ζ->η->Prop}
theorem Y8(I:Inv X χ σ H s)(e:H a=AC (.dK aO))(ry:RelV (kV k) u)(l:pF aO k=AC v)(hm:more=[]\/∃x,more=[x])
 (h:∀w' s',Inv X χ σ (upd H a<|.dK<|g! aO k) s'->RelV v w'->Q w' s'):Ev (model X.prog X.w) A (call (.builtin "dict.pop")<|.ref a::u::more) Q E s:=by
 let⟨z,hd,vs,rel,dd⟩:=Ri I.bG e;let⟨w',hw,FG⟩:=kQ.some_of (v:=v) (o:=valueAt vs k) (by rw[<-l];exact rel.val k);have hp:(keyPart u).isSome=Da:=by
  cases k with
  |inl i=>obtain⟨t,q⟩:=(ry);subst q;rfl
  |inr x=>obtain⟨t,q⟩:=(ry);subst q;rfl
 have ha:argsOk "dict.pop" ⟨.ref a::u::more,[]⟩:=by
  rcases hm with q|⟨x,q⟩
  .subst q;exact PySem.F.args_dict_pop_2 _ _
  .subst q;exact PySem.F.args_dict_pop_3 _ _ _
 refine call_meetsIn C42 dd.typeIs PySem.F.entry_dict_pop ha (meets_dict_pop_there _ a (v_ ry) more hm hp)
  ⟨vs,w',dd,by rw[<-rel.length];exact z,hw,λ h' Rj hs=>h w' _ ?_ FG⟩
 have he:∃q,h'.get? a=AC q:=let ⟨q,_,_,hq,_⟩:=Rj;⟨q,hq⟩;exact yx I (by rw[e];exact KF) hs he<|K0 (A11 (KU aO k) z) hd (rel.drop k) Rj
end
def Vg(i:θ):Prop:=∀ov iv,subscripted i AT ov iv=operate [ov,iv] (getItem ov iv)
theorem ML{T id:String}
 (hl:typeLookup (.type T) "__getitem__"=pure (AC<|.builtin id)) (hs:Vg slice)
 (h:Ev (model prog w) A (eval value env) (λ o s₁=>Ev (model prog w) A (eval slice env) (λ i s₂=>s₂.TypeIs o T/\Ev (model prog w) A (getItem o i) Q E s₂) E s₁) E s) :
 Ev (model prog w) A (eval (.Subscript value slice pos) env) Q E s:=by
 refine Subscript_<|A20 h (λ o s₁ h₁=>A20 h₁ (λ i s₂ h₂=>?_) λ _ _ x=>x) λ _ _ x=>x;let⟨hT,h₂⟩:=h₂;refine T0 ?_;rw[getitemInPython_of_ne hT.not_modules];refine T0<|wpAny_specialOf hT hl ?_;have fin:Ev (model prog w) A (subscripted slice AT o i) (λ r s₃=>Ev (model prog w) A (letTemporaryGo value o r>>=λ _=>pure r) Q E s₃) E s₂:=by rw[hs];exact wpAny_operating<|A20 h₂ (λ r s₃ h₃=>T0<|wpAny_letTemporaryGo<|P3 h₃) λ _ _ x=>x
 first
  |exact P3<|T0 fin
  |exact T0 _
  |exact T0 fin
theorem AW(I:Inv X χ σ H s)(g:A8 H a y o):s.TypeIs (.ref a) "dict":=by
 rcases g with⟨aO,k,e,_,_⟩|⟨aO,k,b,e,_,_,_⟩
 .let⟨_,_,vs,_,dd⟩:=AS I.bG e;exact dd.typeIs
 .let⟨_,_,xs,_,dd⟩:=AN I.bG e;exact dd.typeIs
def Wn(td ty:TE):TE:=λ σ H Q=>td σ H λ x H1=>ty σ H1 λ y H2=>∃a v,x=.ref a/\A8 H2 a y (AC v)/\Q v H2
def aai(ty td:TE):TE:=λ σ H Q=>ty σ H λ y H1=>td σ H1 λ x H2=>∃a o,x=.ref a/\A8 H2 a y o/\Q (.bl o.isSome) H2
def MJ(ty td:TE):TE:=λ σ H Q=>ty σ H λ y H1=>td σ H1 λ x H2=>∃a o,x=.ref a/\A8 H2 a y o/\Q (.bl<|!o.isSome) H2
def WB(td ty tv:TE):TS:=λ D σ H=>tv σ H λ v H1=>td σ H1 λ x H2=>ty σ H2 λ y H3=>∃a H4,x=.ref a/\Zx H3 a y v H4/\D.nx σ H4
section
variable{X:Cx}{o i e value:θ}{pos pos' afe:Pos}{td ty tv:TE}
theorem Nh(hu:X.A.units+1<cLine)(ho:PE X o td)(hi:PE X i ty)(hs:Vg i):PE X (.Subscript o i pos) (Wn td ty):=by intro χ s σ H Q I h;refine ML PySem.F.slot_dict_getitem.lookup hs<|b! (ho χ s σ H _ I h) λ u s1 ⟨x,H1,I1,rx,q1⟩=>b! (hi χ s1 σ H1 _ I1 q1) ?_;rintro iv s2 ⟨y,H2,I2,ry,a,v,ex,g,q2⟩;subst ex;obtain rfl:u=Value.ref a:=rx;exact⟨AW I2 g,GY hu I2 g ry λ w' s3 I3 FG=>⟨v,H2,I3,FG,q2⟩⟩
theorem Sm(hu:X.A.units+1<cLine)(hi:PE X i ty)(ho:PE X o td):PC X .In i o (aai ty td):=by intro χ s σ H Q I h;refine b! (hi χ s σ H _ I h) λ iv s1 ⟨y,H1,I1,ry,q1⟩=>b! (ho χ s1 σ H1 _ I1 q1) ?_;rintro u s2 ⟨x,H2,I2,rx,a,ov,ex,g,q2⟩;subst ex;obtain rfl:u=Value.ref a:=rx;exact acN hu I2 g ry λ s3 I3=>⟨.bl _,H2,I3,rfl,q2⟩
theorem FK(hu:X.A.units+1<cLine)(hi:PE X i ty)(ho:PE X o td):PC X .NotIn i o (MJ ty td):=by intro χ s σ H Q I h;refine b! (hi χ s σ H _ I h) λ iv s1 ⟨y,H1,I1,ry,q1⟩=>b! (ho χ s1 σ H1 _ I1 q1) ?_;rintro u s2 ⟨x,H2,I2,rx,a,ov,ex,g,q2⟩;subst ex;obtain rfl:u=Value.ref a:=rx;exact Pz hu I2 g ry λ s3 I3=>⟨.bl _,H2,I3,rfl,q2⟩
theorem M!(hu:X.A.units+1<cLine)(ho:PE X o td)(hi:PE X i ty)(hv:PE X value tv)(hs:swapsWith value (AC<|.Subscript o i pos') pos.line X.env=pure AT):
 PS X (.Assign [.Subscript o i pos'] value pos) (WB td ty tv):=by
 intro χ s σ H D I h;refine wpAny_Assign_Subscript (b! (hv χ s σ H _ I h) λ r s1 ⟨v,H1,I1,rv,q1⟩=>b! (ho χ s1 σ H1 _ I1 q1) λ u s2 ⟨x,H2,I2,rx,q2⟩=>b! (hi χ s2 σ H2 _ I2 q2) ?_) hs;rintro iv s3 ⟨y,H3,I3,ry,a,H4,ex,g,q3⟩;subst ex;obtain rfl:u=Value.ref a:=rx;exact GX hu I3 g ry rv λ s4 I4=>⟨σ,H4,I4,q3⟩
end
theorem K1(h:ν)(hb:sysModules<h.objs.size):d7 P w H (h.push {cls:=.type "dict",data:=.dict #[]}) h.objs.size (.dK []):=
 ⟨A47 _,A67.mpr<|A09<|A13 hb,[],.nil,Heap.DictOf.new h⟩
def RW:TE:=λ _ H Q=>∀p,H p=Ch->Q (.ref p) (upd H p<|.dK [])
theorem IT:PE X (.Dict [] [] pos) RW:=λ χ s σ H Q I h=>wpAny_Dict_empty ⟨.ref _,_,I.laid (λ _ _ q=>f8 _ q) (M2 _)<|K1 _ I.big,rfl,h _<|I.bG.fresh<|M2 _⟩
end L2
set_option genSizeOf true
namespace Z
inductive D where
|non
|bl (b:Bool)
|int (i:Int)
|str (cs:List Nat)
|tup (xs:List D)
|lst (xs:List D)
|dct (ks:List (Sum Int<|List Nat)) (vs:List D)
inductive Res(α:Type) where
|ok (a:α)
|bad
namespace Res
noncomputable def bind{α β:Type}(r:Res α)(f:α->Res β):Res β:=
 match r with
 |ok a=>f a
 |bad=>bad
@[simp] theorem jX(a:α)(f:α->Res β):(Res.ok a).bind f=f a:=rfl
@[simp] theorem Zc(f:α->Res β):(Res.bad).bind f=bad:=rfl
noncomputable def map{α β:Type}(f:α->β)(r:Res α):Res β:=
 match r with
 |ok a=>ok<|f a
 |bad=>bad
@[simp] theorem aaZ(a:α)(f:α->β):(Res.ok a).map f=ok (f a):=rfl
@[simp] theorem _e(f:α->β):(Res.bad).map f=bad:=rfl
theorem aa{f:α->Res β}(h:r.bind f=ok b):∃a,r=ok a/\f a=ok b:=by
 cases r with
 |ok a=>exact⟨a,rfl,h⟩
 |bad=>cases h
end Res
open Classical in
def guard{α:Type}(p:Prop)(r:Res α):Res α:=if p then r else .bad
@[simp] theorem guard_true(r:Res α):guard True r=r:=by exact W1 trivial
theorem guard_pos{r:Res α}(h:p):guard p r=r:=by exact W1 h
theorem bw{a:α}(h:guard p r=.ok a):p/\r=.ok a:=by
 unfold guard at h;split at h
 .rename_i q;exact⟨q,h⟩
 .cases h
inductive L where
|val (d:D)
|own (xs:List D)
|bor (d:D)
|dc (k:List (List Int) ⊕ List (List Nat×List Nat))
|Kq (ks:List (List Int))
|TM (ps:List (Int×Int))
|exc (c:List Nat×List (List Nat×D))
abbrev DK:=γ (γ Int) ⊕ γ (γ Nat×γ Nat)
abbrev Env:=γ<|ε L
abbrev EF:=Env->Res D
abbrev LF:=Env->Res (γ D)
abbrev TF:=Env->Res Bool
abbrev AF:=Env->Res (γ D)
inductive Fl where
|nx (ρ:Env)
|rt (d:D)
|bk (ρ:Env)
|ct (ρ:Env)
abbrev SF:=Env->Res Fl
abbrev GF:=D->Env->Res Env
abbrev line:Nat:=16777216
noncomputable def cf:γ (γ Nat):=[[104,97,108,108],[103,117,101,115,116,115],[104,101,108,100],[112,108,97,99,101,115]]
def e!(a kd:Nat)(ks:γ (γ Nat))(vs:γ D):D:=.dct (.inl a::.inl kd::ks.map .inr) vs
@[simp] def eC(d:D)(_:Env):Res D:=.ok d
def eV(i:Nat)(ρ:Env):Res D:=match ρ[i]? with
|some<|some<|.val d=>.ok d
|_=>.bad
noncomputable def eW(i:Nat)(ρ:Env):Res D:=match ρ[i]? with
|some<|some<|.val d=>.ok d
|some<|some<|.own xs=>.ok<|.lst xs
|some<|some<|.bor<|.lst xs=>.ok<|.lst xs
|_=>.bad
abbrev eI(n:Int):EF:=eC<|.int n
@[simp] def eB(op:D->D->Res D)(a b:EF)(ρ:Env):Res D:=(a ρ).bind λ x=>(b ρ).bind λ y=>op x y
@[simp] def eU(op:D->Res D)(a:EF)(ρ:Env):Res D:=(a ρ).bind op
def ue(a b:EF)(ρ:Env):Res D:=(a ρ).bind λ x=>match x with
|.bl c=>if c then b ρ else .ok (.bl AT)
|_=>.bad
def Uv(a b:EF)(ρ:Env):Res D:=(a ρ).bind λ x=>match x with
|.bl c=>if c then .ok (.bl Da)else b ρ
|_=>.bad
def O5(a:EF)(ρ:Env):Res D:=(a ρ).bind λ x=>match x with
|.bl c=>.ok<|.bl !c
|_=>.bad
noncomputable def hW(op FU:D->D->Res D)(a b c:EF)(ρ:Env):Res D:=(a ρ).bind λ x=>(b ρ).bind λ y=>(op x y).bind λ z=>match z with
|.bl k=>if k then(c ρ).bind λ w=>FU y w else .ok (.bl AT)
|_=>.bad
@[simp] def eIf(t:TF)(a b:EF)(ρ:Env):Res D:=(t ρ).bind λ c=>if c then a ρ else b ρ
@[simp] def eL(l:LF)(ρ:Env):Res D:=(l ρ).map D.lst
@[simp] def ah(_:Env):Res (γ D):=.ok []
@[simp] def ag(a:EF)(r:AF)(ρ:Env):Res (γ D):=(a ρ).bind λ x=>(r ρ).bind λ xs=>.ok<|x::xs
@[simp] def bu(as:AF)(ρ:Env):Res (γ D):=(as ρ).bind λ xs=>guard (xs.length<=line)<|.ok xs
@[simp] def cq(as:AF)(ρ:Env):Res D:=(as ρ).bind λ xs=>guard (xs.length<=line)<|.ok<|.tup xs
abbrev aV(i:Nat):=ag<|eV i
abbrev aI(n:Int):=ag<|eI n
@[simp] def aj(f:γ D->Res D)(as:AF)(ρ:Env):Res D:=(as ρ).bind f
def tE(a:EF)(ρ:Env):Res Bool:=(a ρ).bind λ x=>match x with
|.bl c=>.ok c
|_=>.bad
@[simp] def xn(a b:TF)(ρ:Env):Res Bool:=(a ρ).bind λ c=>if c then b ρ else .ok AT
@[simp] def vG(a b:TF)(ρ:Env):Res Bool:=(a ρ).bind λ c=>if c then .ok Da else b ρ
@[simp] def fL(a:TF)(ρ:Env):Res Bool:=(a ρ).bind λ c=>.ok !c
def bits(a:Int):Nat:=if a=0 then 0 else a.natAbs.log2+1
def aL:D->D->Res D
|.int a,.int b=>.ok<|.int<|a+b
|.str a,.str b=>guard (a.length+b.length<=line)<|.ok<|.str<|a++b
|.tup a,.tup b=>guard (a.length+b.length<=line)<|.ok<|.tup<|a++b
|_,_=>.bad
def pU:D->D->Res D
|.int a,.int b=>.ok<|.int<|a-b
|_,_=>.bad
def bA(a b:Int):Prop:=((-18446744073709551616<a/\a<18446744073709551616)\/(-18446744073709551616<b/\b<18446744073709551616)\/(bits a<=16777216/\bits b<=16777216))
def eO:D->D->Res D
|.int a,.int b=>guard (bA a b)<|.ok<|.int<|a*b
|_,_=>.bad
def ij(b:Int):Prop:=0<b/\b<1809251394333065553493296640760748560207343510400633813116524750123642650624
def oDiv:D->D->Res D
|.int a,.int b=>guard (ij b)<|.ok<|.int<|a / b
|_,_=>.bad
def oMod:D->D->Res D
|.int a,.int b=>guard (0<b)<|.ok<|.int<|a % b
|_,_=>.bad
def m_:D->D->Res D
|.int a,.int b=>guard (0<=b/\b<=1000000/\a.natAbs<2^64)<|.ok<|.int<|a^b.toNat
|_,_=>.bad
def Jg:D->Res D
|.int a=>.ok<|.int<|-a
|_=>.bad
def Hu:γ Nat->γ Nat->Bool
|[],[]=>AT
|[],_::_=>Da
|_::_,[]=>AT
|a::as,b::bs=>if a<b then Da else if a=b then Hu as bs else AT
def oLt:D->D->Res D
|.int a,.int b=>.ok<|.bl<|decide<|a<b
|_,_=>.bad
noncomputable def oLe:D->D->Res D
|.int a,.int b=>.ok<|.bl<|decide<|a<=b
|.str a,.str b=>.ok<|.bl<|!(Hu b a)
|_,_=>.bad
def D5:D->D->Res D
|.int a,.int b=>.ok<|.bl<|decide<|b<a
|_,_=>.bad
def VB:D->D->Res D
|.int a,.int b=>.ok<|.bl<|decide<|b<=a
|_,_=>.bad
noncomputable def VS:D->D->ε Bool
|.non,.non=>AC Da
|.bl a,.bl b=>AC<|a==b
|.bl a,.int b=>AC<|(if a then 1 else 0)==b
|.int a,.bl b=>AC<|a==(if b then 1 else 0)
|.int a,.int b=>AC<|a==b
|.str a,.str b=>AC<|a==b
|.non,.bl _=>AC AT
|.non,.int _=>AC AT
|.non,.str _=>AC AT
|.bl _,.non=>AC AT
|.bl _,.str _=>AC AT
|.int _,.non=>AC AT
|.int _,.str _=>AC AT
|.str _,.non=>AC AT
|.str _,.bl _=>AC AT
|.str _,.int _=>AC AT
|_,_=>Ch
noncomputable def allEq(f:D->D->ε Bool):γ D->γ D->ε Bool
|[],[]=>AC Da
|[],_::_=>AC AT
|_::_,[]=>AC AT
|a::as,b::bs=>match f a b,allEq f as bs with
 |some x,AC y=>AC<|x&&y
 |_,_=>Ch
noncomputable def iY:Nat->D->D->ε Bool
|n+1,.tup a,.tup b=>allEq (iY n) a b
|n+1,.lst a,.lst b=>allEq (iY n) a b
|_,.tup _,.lst _=>AC AT
|_,.lst _,.tup _=>AC AT
|_,.tup _,.non=>AC AT
|_,.tup _,.bl _=>AC AT
|_,.tup _,.int _=>AC AT
|_,.tup _,.str _=>AC AT
|_,.non,.tup _=>AC AT
|_,.bl _,.tup _=>AC AT
|_,.int _,.tup _=>AC AT
|_,.str _,.tup _=>AC AT
|_,.lst _,.non=>AC AT
|_,.lst _,.bl _=>AC AT
|_,.lst _,.int _=>AC AT
|_,.lst _,.str _=>AC AT
|_,.non,.lst _=>AC AT
|_,.bl _,.lst _=>AC AT
|_,.int _,.lst _=>AC AT
|_,.str _,.lst _=>AC AT
|_,x,y=>VS x y
def jS:D->D->ε Bool:=iY 6
def oEq(a b:D):Res D:=match jS a b with
|some x=>.ok<|.bl x
|none=>.bad
def jF(a b:D):Res D:=match jS a b with
|some x=>.ok<|.bl !x
|none=>.bad
def fO:D->Res D
|.non=>.ok<|.bl Da
|_=>.ok<|.bl AT
def tm:D->Res D
|.non=>.ok<|.bl AT
|_=>.ok<|.bl Da
def oz:D->D->Res D
|.str [c],.str t=>.ok<|.bl<|!(t.contains c)
|_,_=>.bad
def gu(x:D):γ D->ε Bool
|[]=>AC AT
|y::r=>match jS y x,gu x r with
 |some a,AC b=>AC<|a||b
 |_,_=>Ch
def A_:D->D->Res D
|x,.tup ys=>match gu x ys with
 |some b=>.ok<|.bl b
 |none=>.bad
|x,.lst ys=>match gu x ys with
 |some b=>.ok<|.bl b
 |none=>.bad
|_,_=>.bad
def iD:D->D->Res D
|x,.tup ys=>match gu x ys with
 |some b=>.ok<|.bl !b
 |none=>.bad
|x,.lst ys=>match gu x ys with
 |some b=>.ok<|.bl !b
 |none=>.bad
|_,_=>.bad
def cm:D->Res D
|.str t=>guard (t.length<=line)<|.ok<|.int t.length
|.tup xs=>.ok<|.int xs.length
|.lst xs=>.ok<|.int xs.length
|_=>.bad
inductive Ty where
|bool|int|str|tuple|list|dict
noncomputable def fT:Ty->D->Bool
|.bool,.bl _=>Da
|.int,.bl _=>Da
|.int,.int _=>Da
|.str,.str _=>Da
|.tuple,.tup _=>Da
|.list,.lst _=>Da
|.dict,.dct _ _=>Da
|_,_=>AT
@[simp] def jb(t:Ty)(x:D):Res D:=.ok<|.bl<|fT t x
noncomputable def wa(n:Nat)(i:Int):ε Nat:=if 0<=i then(if i<n then AC i.toNat else Ch)else if -(n:Int)<=i then AC (i+n).toNat else Ch
def aZ:D->D->Res D
|.tup xs,.int i=>match (wa xs.length i).bind λ j=>xs[j]? with
 |some v=>.ok v
 |none=>.bad
|.lst xs,.int i=>match (wa xs.length i).bind λ j=>xs[j]? with
 |some v=>.ok v
 |none=>.bad
| .str cs,.int i=>guard (cs.length<=line) (match (wa cs.length i).bind λ j=>cs[j]? with
 |some c=>.ok<|.str [c]
 | none=>.bad)
|_,_=>.bad
abbrev eX(i n:Nat):=eB aZ (eW i)<|eI n
abbrev aX(i n:Nat):=ag<|eX i n
abbrev eY(i j:Nat):=eB aZ (eW i)<|eW j
def c9(n d:Nat):ε Int->Nat
|none=>d
|some i=>if i<0 then(i+n).toNat else min i.toNat n
def cut{α:Type}(xs:γ α)(lo hi:ε Int):γ α:=(xs.drop<|c9 xs.length 0 lo).take<|c9 xs.length xs.length hi-c9 xs.length 0 lo
abbrev PF:=Env->Res (ε Int)
@[simp] def Qy(_:Env):Res (ε Int):=.ok Ch
def rk(a:EF)(ρ:Env):Res (ε Int):=(a ρ).bind λ x=>match x with
|.int i=>.ok<|some i
|_=>.bad
def W':D->ε Int->ε Int->Res D
|.str cs,lo,hi=>guard (cs.length<=line)<|.ok<|.str<|cut cs lo hi
|.tup xs,lo,hi=>.ok<|.tup<|cut xs lo hi
|_,_,_=>.bad
@[simp] def KI(a:EF)(lo hi:PF)(ρ:Env):Res D:=(a ρ).bind λ x=>(lo ρ).bind λ l=>(hi ρ).bind λ h=>W' x l h
def Oa(a:EF)(lo hi:PF)(ρ:Env):Res (γ D):=(a ρ).bind λ x=>(lo ρ).bind λ l=>(hi ρ).bind λ h=>match x with
|.lst xs=>.ok<|cut xs l h
|_=>.bad
def Gb(a b:EF)(ρ:Env):Res (γ D):=(a ρ).bind λ x=>(b ρ).bind λ y=>match x,y with
|.lst xs,.lst ys=>guard (xs.length+ys.length<=line)<|.ok<|xs++ys
|_,_=>.bad
def allB:γ D->ε Bool
|[]=>AC Da
|.bl b::r=>(allB r).map (b&&·)
|_::_=>Ch
def iV:D->Res D
|.lst xs=>match allB xs with
 |some b=>.ok<|.bl b
 |none=>.bad
|_=>.bad
def jI:D->Res (γ D)
|.tup xs=>.ok xs
|.lst xs=>.ok xs
|.str cs=>.ok<|cs.map λ c=>.str [c]
|_=>.bad
@[simp] def cZ(a:EF)(ρ:Env):Res (γ D):=(a ρ).bind jI
def zints(lo:Int)(n:Nat):γ D:=(FB n).map λ i=>D.int<|lo+(i:Nat)
def dR(a:EF)(ρ:Env):Res (γ D):=(a ρ).bind λ x=>match x with
|.int j=>.ok<|zints 0 j.toNat
|_=>.bad
def Ak(a b:EF)(ρ:Env):Res (γ D):=(a ρ).bind λ x=>(b ρ).bind λ y=>match x,y with
|.int i,.int j=>.ok<|zints i (j-i).toNat
|_,_=>.bad
@[simp] def aG(i:Nat)(d:D)(ρ:Env):Res Env:=.ok<|ρ.set i<|some<|.val d
def hU:γ Nat->γ D->Env->Res Env
|[],[],ρ=>.ok ρ
|i::is,d::ds,ρ=>hU is ds<|ρ.set i<|some<|.val d
|_,_,_=>.bad
def dE(is:γ Nat)(d:D)(ρ:Env):Res Env:=match d with
|.tup ds=>hU is ds ρ
|_=>.bad
noncomputable def o_(ρ:Env)(i:Nat):ε L:=match ρ[i]? with
|some<|some<|.val d=>AC<|.val d
|some<|some<|.bor d=>AC<|.bor d
|some<|some<|.Kq ks=>AC<|.Kq ks
|some<|some<|.own xs=>AC<|.bor<|.lst xs
|_=>Ch
def c!(ρ:Env)(is:γ Nat):Env:=is.map<|o_ ρ
noncomputable def bC(g:GF)(t:TF)(e:EF)(ρ:Env):γ D->Res (γ D)
|[]=>.ok []
|d::r=>(g d ρ).bind λ ρ1=>(t ρ1).bind λ c=>if c then(e ρ1).bind λ y=>(bC g t e ρ r).bind λ ys=>.ok (y::ys)else bC g t e ρ r
def bf(it:LF)(n:Nat)(is:γ Nat)(g:GF)(t:TF)(e:EF)(ρ:Env):Res (γ D):=(it ρ).bind λ ds=>guard (ds.length<=line)<|bC g t e (Do n Ch++c! ρ is) ds
@[simp] def bI(_:Env):Res Bool:=.ok Da
@[simp] def aJ(ρ:Env):Res Fl:=.ok<|.nx ρ
def aB(a b:SF)(ρ:Env):Res Fl:=(a ρ).bind λ fl=>match fl with
|.nx ρ'=>b ρ'
|o=>.ok o
@[simp] def aK(i:Nat)(e:EF)(ρ:Env):Res Fl:=(e ρ).bind λ d=>.ok<|.nx<|ρ.set i<|some<|.val d
@[simp] def mm(i:Nat)(e:LF)(ρ:Env):Res Fl:=(e ρ).bind λ xs=>.ok<|.nx<|ρ.set i<|some<|.own xs
@[simp] def zF(e:EF)(g:GF)(ρ:Env):Res Fl:=(e ρ).bind λ d=>(g d ρ).bind λ ρ'=>.ok<|.nx ρ'
@[simp] def dH(t:TF)(a b:SF)(ρ:Env):Res Fl:=(t ρ).bind λ c=>if c then a ρ else b ρ
@[simp] def aF(e:EF)(ρ:Env):Res Fl:=(e ρ).bind λ d=>.ok<|.rt d
def Dy(e:EF)(ρ:Env):Res Fl:=(e ρ).bind λ _=>.ok<|.nx ρ
noncomputable def eJ(i:Nat)(ρ:Env):Env:=match ρ[i]? with
|some<|some<|.own xs=>ρ.set i<|some<|.val<|.lst xs
|_=>ρ
def pQ(i:Nat)(a:SF)(ρ:Env):Res Fl:=a<|eJ i ρ
def cC(i:Nat)(e:EF)(ρ:Env):Res Fl:=(e ρ).bind λ d=>match ρ[i]? with
|some<|some<|.own xs=>guard (xs.length<line)<|.ok<|.nx<|ρ.set i<|some<|.own<|xs++[d]
|_=>.bad
def cb(g:GF)(b:SF):γ D->Env->Res Fl
|[],ρ=>.ok<|.nx ρ
|d::r,ρ=>(g d ρ).bind λ ρ1=>(b ρ1).bind λ fl=>match fl with
 |.nx ρ'=>cb g b r ρ'
 |.ct ρ'=>cb g b r ρ'
 |.bk ρ'=>.ok<|.nx ρ'
 |.rt d=>.ok<|.rt d
@[simp] def gg(it:LF)(g:GF)(b:SF)(ρ:Env):Res Fl:=(it ρ).bind λ ds=>cb g b ds ρ
def start(n:Nat)(ds:γ D):Env:=ds.map (λ d=>AC<|.val d)++Do (n-ds.length) Ch
noncomputable def fn(ps n:Nat)(b:SF)(ds:γ D):Res D:=if ds.length=ps then(match b (start n ds)with
|.ok<|.rt d=>.ok d
|.ok<|.nx _=>.ok .non
| _=>.bad)else .bad
def rp:Bool->D->L
|true,.lst xs=>.bor<|.lst xs
|true,.dct ks vs=>.bor<|.dct ks vs
|_,d=>.val d
def startB(n:Nat)(bs:γ Bool)(ds:γ D):Env:=(bv (λ b d=>AC<|rp b d) bs ds)++Do (n-ds.length) Ch
noncomputable def Aw(bs:γ Bool)(n:Nat)(b:SF)(ds:γ D):Res D:=if ds.length=bs.length then(match b (startB n bs ds)with
|.ok<|.rt d=>.ok d
|.ok<|.nx _=>.ok .non
| _=>.bad)else .bad
end Z
open Z renaming Res.aa→al
set_option genSizeOf false
namespace Z
def M3(b:SF):Fl->Res Fl
|.nx ρ'=>b ρ'
|o=>.ok o
@[simp] theorem R0(a b:SF)(ρ:Env):aB a b ρ=(a ρ).bind (M3 b):=rfl
@[simp] theorem ZT(b:SF)(ρ:Env):M3 b (.nx ρ)=b ρ:=rfl
@[simp] theorem ZR(b:SF)(d:D):M3 b (.rt d)=.ok (.rt d):=rfl
@[simp] theorem ZU(b:SF)(ρ:Env):M3 b (.ct ρ)=.ok (.ct ρ):=rfl
def Wd:D->Res Bool
|.bl c=>.ok c
|_=>.bad
@[simp] theorem afw(a:EF)(ρ:Env):tE a ρ=(a ρ).bind Wd:=rfl
@[simp] theorem ZK(c:Bool):Wd (.bl c)=.ok c:=rfl
def A4(f:Bool->Res D):D->Res D
|.bl c=>f c
|_=>.bad
@[simp] theorem Za(f:Bool->Res D)(c:Bool):A4 f (.bl c)=f c:=rfl
@[simp] theorem acH(a b:EF)(ρ:Env):ue a b ρ=(a ρ).bind (A4 λ c=>if c then b ρ else .ok (.bl AT)):=rfl
@[simp] theorem aeJ(a b:EF)(ρ:Env):Uv a b ρ=(a ρ).bind (A4 λ c=>if c then .ok (.bl Da)else b ρ):=rfl
@[simp] theorem acF(a:EF)(ρ:Env):O5 a ρ=(a ρ).bind (A4 λ c=>.ok<|.bl !c):=rfl
@[simp] theorem YY(o o':D->D->Res D)(a b c:EF)(ρ:Env):hW o o' a b c ρ=(a ρ).bind λ x=>(b ρ).bind λ y=>(o x y).bind (A4 λ k=>if k then(c ρ).bind λ w=>o' y w else .ok (.bl AT)):=rfl
@[simp] theorem Xh(a b:Int):aL (.int a) (.int b)=.ok (.int<|a+b):=rfl
@[simp] theorem W8(a b:Int):pU (.int a) (.int b)=.ok (.int<|a-b):=rfl
@[simp] theorem W?(a b:Int):eO (.int a) (.int b)=guard (bA a b) (.ok<|.int<|a*b):=rfl
@[simp] theorem Xg(a b:Int):oDiv (.int a) (.int b)=guard (ij b) (.ok<|.int<|a / b):=rfl
@[simp] theorem W_(a b:Int):oMod (.int a) (.int b)=guard (0<b) (.ok<|.int<|a % b):=rfl
@[simp] theorem Z6(a b:Int):oLt (.int a) (.int b)=.ok (.bl<|decide<|a<b):=rfl
@[simp] theorem Z8(a b:Int):oLe (.int a) (.int b)=.ok (.bl<|decide<|a<=b):=rfl
@[simp] theorem Z7(a b:γ Nat):oLe (.str a) (.str b)=.ok (.bl<|!(Hu b a)):=rfl
@[simp] theorem Z'(a b:Int):D5 (.int a) (.int b)=.ok (.bl<|decide<|b<a):=rfl
@[simp] theorem Z!(a b:Int):VB (.int a) (.int b)=.ok (.bl<|decide<|b<=a):=rfl
@[simp] theorem Z_(a b:Int):oEq (.int a) (.int b)=.ok (.bl<|a==b):=rfl
@[simp] theorem Z?(a b:γ Nat):oEq (.str a) (.str b)=.ok (.bl<|a==b):=rfl
@[simp] theorem Z5(a b:Int):jF (.int a) (.int b)=.ok (.bl<|!(a==b)):=rfl
@[simp] theorem Z4(a b:γ Nat):jF (.str a) (.str b)=.ok (.bl<|!(a==b)):=rfl
@[simp] theorem Xd(a:γ Nat):cm (.str a)=guard (a.length<=line) (.ok<|.int a.length):=rfl
@[simp] theorem Xc(a:γ D):cm (.tup a)=.ok (.int a.length):=rfl
@[simp] theorem Xe(a:γ D):cm (.lst a)=.ok (.int a.length):=rfl
def X7:D->Res (ε Int)
|.int i=>.ok<|some i
|_=>.bad
@[simp] theorem X6(i:Int):X7 (.int i)=.ok (AC i):=rfl
@[simp] theorem adE(a:EF)(ρ:Env):rk a ρ=(a ρ).bind X7:=rfl
def Qw:D->Res (γ D)
|.int j=>.ok<|zints 0 j.toNat
|_=>.bad
@[simp] theorem _o(a:EF)(ρ:Env):dR a ρ=(a ρ).bind Qw:=rfl
@[simp] theorem Vv(j:Int):Qw (.int j)=.ok (zints 0 j.toNat):=rfl
def Qv:D->D->Res (γ D)
|.int i,.int j=>.ok<|zints i (j-i).toNat
|_,_=>.bad
@[simp] theorem _n(a b:EF)(ρ:Env):Ak a b ρ=(a ρ).bind λ x=>(b ρ).bind λ y=>Qv x y:=rfl
@[simp] theorem Vu(i j:Int):Qv (.int i) (.int j)=.ok (zints i (j-i).toNat):=rfl
@[simp] theorem VF(xs:γ D):jI (.tup xs)=.ok xs:=rfl
@[simp] theorem VH(xs:γ D):jI (.lst xs)=.ok xs:=rfl
@[simp] theorem VG(cs:γ Nat):jI (.str cs)=.ok (cs.map λ c=>.str [c]):=rfl
theorem aQ(it:LF)(n:Nat)(is:γ Nat)(g:GF)(t:TF)(e:EF)(ρ:Env):bf it n is g t e ρ=(it ρ).bind λ ds=>guard (ds.length<=line) (bC g t e (Do n Ch++c! ρ is) ds):=rfl
def bc:Res Fl->Res D
|.ok<|.rt d=>.ok d
|.ok<|.nx _=>.ok .non
|_=>.bad
@[simp] theorem ZX(d:D):bc (.ok<|.rt d)=.ok d:=rfl
theorem bW(ps n:Nat)(b:SF)(ds:γ D)(h:ds.length=ps):fn ps n b ds=bc (b<|start n ds):=by
 unfold fn;rw[W1 h];cases b _ with
 |bad=>rfl
 |ok f=>cases f<;>rfl
theorem cY(h1:-18446744073709551616<a)(h2:a<18446744073709551616):bA a b:=by exact .inl ⟨h1,h2⟩
theorem fv(h1:-18446744073709551616<b)(h2:b<18446744073709551616):bA a b:=by exact .inr<|.inl ⟨h1,h2⟩
theorem bO(h0:0<b)(h:b<1809251394333065553493296640760748560207343510400633813116524750123642650624):ij b:=⟨h0,h⟩
theorem tO(h0:0<=i)(h1:i<cs.length)(hl:cs.length<=line):∃c∈cs,aZ (.str cs) (.int i)=.ok (.str [c]):=by
 have hj:i.toNat<cs.length:=by lia
 refine⟨cs[i.toNat],B26 hj,?_⟩;simp[aZ,hl,wa,h0,h1]
theorem Et(h:(zints 0 n)[j]?=AC d):j<n/\d=.int (j):=by
 unfold zints at h;rw[A06]at h;cases q:(FB n)[j]? with
 |none=>rw[q]at h;cases h
 |some i=>rw[q]at h;let⟨h1,h2⟩:=A03.mp q;rw[B27]at h1;rw[B93]at h2;subst h2;simp at h;exact⟨h1,h.symm⟩
@[simp] theorem fU(lo:Int)(n:Nat):(zints lo n).length=n:=by simp[zints]
theorem ku(xs:γ α)(lo hi:ε Int):(cut xs lo hi).length<=xs.length:=by unfold cut;rw[A30,B50];lia
theorem Eb(h:x∈cut xs i j):x∈xs:=List.mem_of_mem_drop<|B94 h
@[simp] theorem adO(xs:γ D)(a:EF)(lo hi:PF)(ρ:Env)(h:a ρ=.ok (.lst xs)):Oa a lo hi ρ=(lo ρ).bind λ l=>(hi ρ).bind λ h=>.ok (cut xs l h):=by unfold Oa;rw[h];rfl
theorem uv:∀ds,(∀d∈ds,(g d ρ).bind e=.ok (h d))->bC g bI e ρ ds=.ok (ds.map h)
|[],_=>rfl
|d::ds,k=>by have h1:=k d A08;have h2:=uv ds λ x hx=>k x<|A07 _ hx;let⟨ρ1,e1,e2⟩:=Res.aa h1;simp[bC,e1,e2,h2]
theorem mO:∀ds,(∀d∈ds,∃ρ1,g d ρ=.ok ρ1/\t ρ1=.ok (p d)/\(p d=Da->e ρ1=.ok (h d)))->bC g t e ρ ds=.ok ((ds.filter p).map h)
|[],_=>rfl
|d::ds,k=>by
 let⟨ρ1,e1,e2,e3⟩:=k d A08;have h2:=mO ds λ x hx=>k x<|A07 _ hx;cases hp:p d with
 |true=>simp[bC,e1,e2,hp,e3 hp,h2]
 |false=>simp[bC,e1,e2,hp,h2]
theorem yF:∀(bs:γ Bool),allB (bs.map D.bl)=AC (bs.all id)
|[]=>rfl
|b::bs=>by simp[allB,yF bs]
@[simp high] theorem gt0(a:α)(l:γ α):(a::l)[0]?=AC a:=rfl
@[simp high] theorem gtS(a:α)(l:γ α)(n:Nat):(a::l)[n+1]?=l[n]?:=rfl
@[simp high] theorem Ho(a x:α)(l:γ α):(a::l).set 0 x=x::l:=rfl
@[simp high] theorem stS(a x:α)(l:γ α)(n:Nat):(a::l).set (n+1) x=a::l.set n x:=rfl
end Z
namespace ZS
open L2
abbrev Fl(X:Cx)(x:Str):Prop:=X.fn x=Da\/X.env.scope.names.lookup x=AC .local
end ZS
local macro_rules
| `(tactic|trivial)=>`(tactic|first|exact AE3 rfl|exact tz rfl)
open ZS (Fl)
namespace ZS
open L2
abbrev Gk(G:Z.GF)(n:Nat):Prop:=∀d ρ ρ1,G d ρ=.ok ρ1->ρ1.length=ρ.length/\∀i,n<=i->ρ1[i]?=ρ[i]?
abbrev Dn(m:Str):Prop:=(Z.cf.map λ c=>(⟨c.toArray⟩)).contains m=AT
end ZS
open ZS (Gk Dn)
namespace ZS
open L2
abbrev St:=L2.St
def Gd:Sum Int (γ Nat)->Key
|.inl i=>.inl i
|.inr cs=>.inr ⟨cs.toArray⟩
def Rv(K:Db)(H:Hp)(a:δ)(xs:γ V):Prop:=
 (∃ o,H a=AC (.eJ o<|.lst xs)) \/
  ∃(o:μ)(aW:Array ζ)(n:Nat),K.lookup a=AC o/\o.cls=.type "list" /\ o.dict=Ch/\o.data=.seq aW n/\aW.size<=sizeLine/\Vals xs aW.toList
theorem Rv.sq{K:Db}(h:Rv K H a xs):i4 K H a xs:=by
 rcases h with⟨o,h⟩|h
 .exact .inl<|.inr ⟨o,h⟩
 .exact .inr h
structure gv(H H':Hp):Prop where
 tup:∀a xs,H a=AC (.tup xs)->H' a=AC (.tup xs)
 eJ:∀a o u,H a=AC (.eJ o u)->H' a=AC (.eJ o u)
theorem gv.refl(H:Hp):gv H H:=⟨λ _ _ h=>h,λ _ _ _ h=>h⟩
theorem gv.trans{H H1 H2:Hp}(a:gv H H1)(b:gv H1 H2):gv H H2:=⟨λ c xs h=>b.tup c xs<|a.tup c xs h,λ c o u h=>b.eJ c o u<|a.eJ c o u h⟩
theorem jR(s:aw H H'):gv H H':=⟨λ _ _ h=>s _ _ h,λ _ _ _ h=>s _ _ h⟩
theorem lR(h:H p=AC o)(n1:∀xs,o≠.tup xs)(n2:∀ob x,o≠.eJ ob x):gv H (upd H p u):=
 ⟨λ a xs e=>by rw[au (by rintro rfl;rw[h]at e;exact n1 xs<|A05 e)];exact e,λ a ob x e=>by rw[au (by rintro rfl;rw[h]at e;exact n2 ob x<|A05 e)];exact e⟩
theorem i?(h:H p=AC (.lst xs)):gv H (upd H p u):=lR h (λ _ z=>nomatch z) λ _ _ z=>nomatch z
theorem Rv.mono{K:Db}(e:gv H H')(h:Rv K H a xs):Rv K H' a xs:=by
 rcases h with⟨o,h⟩|h
 .exact .inl ⟨o,e.eJ _ _ _ h⟩
 .exact .inr h
theorem eP{K:Db}(e:gv H H')(h:mi K H a xs):mi K H' a xs:=by
 rcases h with(h|⟨o,h⟩)|h
 .exact .inl<|.inl<|e.tup _ _ h
 .exact .inl<|.inr ⟨o,e.eJ _ _ _ h⟩
 .exact .inr h
mutual
def Den(K:Db)(H:Hp):Z.D->V->Prop
|.non,v=>v=.non
|.bl b,v=>v=.bl b
|.int i,v=>v=.int i
|.str cs,v=>v=.str ⟨cs.toArray⟩
|.tup ds,v=>∃a vs,v=.ref a/\mi K H a vs/\aq K H ds vs
|.lst ds,v=>∃a vs,v=.ref a/\Rv K H a vs/\aq K H ds vs
|.dct ks ds,v=>∃a o aO,v=.ref a/\H a=AC (.eJ o<|.dK aO)/\aO.map (·.1)=ks.map Gd/\aq K H ds (aO.map (·.2))/\∀i r,ks≠.inl i::r
def aq(K:Db)(H:Hp):γ Z.D->γ V->Prop
|[],vs=>vs=[]
|d::ds,vs=>∃v r,vs=v::r/\Den K H d v/\aq K H ds r
end
section
variable{K:Db}{H H':Hp}
mutual
theorem Den.mono(e:gv H H'):∀(d:Z.D)(v:V),Den K H d v->Den K H' d v
|.non,v,h=>by simp only[Den]at h ⊢;exact h
|.bl b,v,h=>by simp only[Den]at h ⊢;exact h
|.int i,v,h=>by simp only[Den]at h ⊢;exact h
|.str cs,v,h=>by simp only[Den]at h ⊢;exact h
|.tup ds,v,h=>by simp only[Den]at h ⊢;let⟨a,vs,e1,q,r⟩:=h;exact⟨a,vs,e1,eP e q,aq.mono e ds vs r⟩
|.lst ds,v,h=>by simp only[Den]at h ⊢;let⟨a,vs,e1,q,r⟩:=h;exact⟨a,vs,e1,q.mono e,aq.mono e ds vs r⟩
|.dct ks ds,v,h=>by simp only[Den]at h ⊢;let⟨a,o,aO,e1,q,k,r,n⟩:=h;exact⟨a,o,aO,e1,e.eJ _ _ _ q,k,aq.mono e ds _ r,n⟩
theorem aq.mono(e:gv H H'):∀(ds:γ Z.D)(vs:γ V),aq K H ds vs->aq K H' ds vs
|[],vs,h=>by simp only[aq]at h ⊢;exact h
|d::ds,vs,h=>by simp only[aq]at h ⊢;let⟨v,r,e1,q,t⟩:=h;exact⟨v,r,e1,Den.mono e d v q,aq.mono e ds r t⟩
end
theorem Den.up(h:Den K H d v)(e:aw H H'):Den K H' d v:=Den.mono (jR e) d v h
theorem Den.ups(h:Den K H d v)(e:gv H H'):Den K H' d v:=Den.mono e d v h
theorem aq.ups(h:aq K H ds vs)(e:gv H H'):aq K H' ds vs:=aq.mono e ds vs h
theorem aq.up(h:aq K H ds vs)(e:aw H H'):aq K H' ds vs:=aq.mono (jR e) ds vs h
theorem aq.nil:aq K H [] []:=by simp only[aq]
theorem aq.cons{d:Z.D}{ds:γ Z.D}{v:V}{vs:γ V}(h:Den K H d v)(t:aq K H ds vs):aq K H (d::ds) (v::vs):=by simp only[aq];exact⟨v,vs,rfl,h,t⟩
theorem aq.length:∀{ds}{vs},aq K H ds vs->vs.length=ds.length
|[],vs,h=>by simp only[aq]at h;subst h;rfl
|d::ds,vs,h=>by simp only[aq]at h;let⟨v,r,rfl,_,t⟩:=h;simp[aq.length t]
theorem aq.get:∀{ds}{vs}{i:Nat}{d},aq K H ds vs->ds[i]?=AC d->∃v,vs[i]?=AC v/\Den K H d v
|[],_,_,_,_,e=>by simp at e
|x::ds,vs,0,d,h,e=>by simp only[aq]at h;let⟨v,r,rfl,q,_⟩:=h;simp at e;subst e;exact⟨v,rfl,q⟩
|x::ds,vs,i+1,d,h,e=>by simp only[aq]at h;let⟨v,r,rfl,_,t⟩:=h;let⟨u,h1,h2⟩:=aq.get t (by simpa using e);exact⟨u,by simpa using h1,h2⟩
theorem aq.append:∀{ds es}{vs us},aq K H ds vs->aq K H es us->aq K H (ds++es) (vs++us)
|[],_,_,_,h,g=>by simp only[aq]at h;subst h;exact g
|d::ds,es,vs,us,h,g=>by simp only[aq]at h;let⟨v,r,rfl,q,t⟩:=h;exact aq.cons q<|aq.append t g
theorem aq.drop:∀{ds}{vs} n,aq K H ds vs->aq K H (ds.drop n) (vs.drop n)
|_,_,0,h=>by simpa using h
|[],vs,_+1,h=>by simp only[aq]at h;subst h;simpa using aq.nil
|d::ds,vs,n+1,h=>by simp only[aq]at h;let⟨v,r,rfl,q,t⟩:=h;simpa using aq.drop n t
theorem aq.take:∀{ds}{vs} n,aq K H ds vs->aq K H (ds.take n) (vs.take n)
|_,_,0,h=>by simpa using aq.nil
|[],vs,_+1,h=>by simp only[aq]at h;subst h;simpa using aq.nil
|d::ds,vs,n+1,h=>by simp only[aq]at h;let⟨v,r,rfl,q,t⟩:=h;simpa using aq.cons q (aq.take n t)
theorem aq.zints:∀(ns:γ Int),aq K H (ns.map Z.D.int) (ns.map V.int)
|[]=>aq.nil
|n::ns=>aq.cons (by simp only[Den])<|aq.zints ns
def bp(K:Db)(H:Hp)(d:Z.D)(v:V):Prop:=Den K H d v\/∃ds a vs,d=.lst ds/\v=.ref a/\H a=AC (.lst vs)/\aq K H ds vs
theorem bp.up(h:bp K H d v)(e:aw H H'):bp K H' d v:=by
 rcases h with h|⟨ds,a,vs,e1,e2,q,t⟩
 .exact .inl<|h.up e
 .exact .inr ⟨ds,a,vs,e1,e2,e _ _ q,t.up e⟩
theorem bp.mT(h:bp K H d v)(n:∀ds,d≠.lst ds):Den K H d v:=by
 rcases h with h|⟨ds,a,vs,e1,_⟩
 .exact h
 .exact absurd e1<|n ds
theorem bp.non(h:bp K H .non v):v=.non:=by have:=h.mT λ _ z=>nomatch z;simpa only[Den]using this
theorem bp.bl(h:bp K H (.bl b) v):v=.bl b:=by have:=h.mT λ _ z=>nomatch z;simpa only[Den]using this
theorem bp.int(h:bp K H (.int i) v):v=.int i:=by have:=h.mT λ _ z=>nomatch z;simpa only[Den]using this
theorem bp.str(h:bp K H (.str cs) v):v=.str ⟨cs.toArray⟩:=by have:=h.mT λ _ z=>nomatch z;simpa only[Den]using this
theorem bp.tup{ds:γ Z.D}{v:V}(h:bp K H (.tup ds) v):∃a vs,v=.ref a/\mi K H a vs/\aq K H ds vs:=by have:=h.mT λ _ z=>nomatch z;simpa only[Den]using this
theorem bp.lst{ds:γ Z.D}{v:V}(h:bp K H (.lst ds) v):∃a vs,v=.ref a/\i4 K H a vs/\aq K H ds vs:=by
 rcases h with h|⟨es,a,vs,e1,e2,q,t⟩
 .simp only[Den]at h;let⟨a,vs,e,q,t⟩:=h;exact⟨a,vs,e,q.sq,t⟩
 .cases e1;exact⟨a,vs,e2,.inl<|.inl q,t⟩
theorem bp.dct(h:bp K H (.dct ks ds) v):∃a o aO,v=.ref a/\H a=AC (.eJ o<|.dK aO)/\aO.map (·.1)=ks.map Gd/\aq K H ds (aO.map (·.2))/\∀i r,ks≠.inl i::r:=by have:=h.mT λ _ z=>nomatch z;simpa only[Den]using this
theorem ka:Den K H .non .non:=by simp only[Den]
theorem cE:Den K H (.bl b) (.bl b):=by simp only[Den]
theorem bZ:Den K H (.int i) (.int i):=by simp only[Den]
theorem e_:Den K H (.str cs) (.str ⟨cs.toArray⟩):=by simp only[Den]
theorem eD(h:mi K H a vs)(t:aq K H ds vs):Den K H (.tup ds) (.ref a):=by simp only[Den];exact⟨a,vs,rfl,h,t⟩
theorem yr(h:Rv K H a vs)(t:aq K H ds vs):Den K H (.lst ds) (.ref a):=by simp only[Den];exact⟨a,vs,rfl,h,t⟩
end
def uI(K:Db)(c:Str)(C:δ):Prop:=FM K mainGlobals c=AC (AC<|.ref C)/\LO K C
def Hc(K:Db)(H:Hp)(kd:Nat)(ks:γ (γ Nat))(ds:γ Z.D)(u:HO):Prop:=
 (kd=0/\ks=Z.cf.take ks.length/\∃ C dx fs,u=.ins C dx fs/\uI K "Desk" C/\fs.map (·.1)=ks.map (λ c=>(⟨c.toArray⟩:Str))/\aq K H ds (fs.map (·.2))) \/
  kd=1/\∃aO:γ (Key×V),u=.dK aO/\aO.map (·.1)=ks.map (λ c=>(GT ⟨c.toArray⟩:Key))/\aq K H ds (aO.map (·.2))
theorem Hc.ups{K:Db}(h:Hc K H kd ks ds u)(e:gv H H'):Hc K H' kd ks ds u:=by
 rcases h with⟨h0,hk,C,dx,fs,h1,h2,h3,h4⟩|⟨h0,aO,h1,h2,h3⟩
 .exact .inl ⟨h0,hk,C,dx,fs,h1,h2,h3,h4.ups e⟩
 .exact .inr ⟨h0,aO,h1,h2,h3.ups e⟩
def Thg(K:Db)(H:Hp)(d:Z.D)(v:V):Prop:=∃a kd ks ds u,d=Z.e! a kd ks ds/\v=.ref a/\H a=AC u/\Hc K H kd ks ds u
def i5(K:Db)(H:Hp)(d:Z.D)(v:V):Prop:=bp K H d v\/Thg K H d v
theorem i5.up{K:Db}(h:i5 K H d v)(e:aw H H'):i5 K H' d v:=by
 rcases h with h|⟨a,kd,ks,ds,u,e1,e2,q,t⟩
 .exact .inl<|h.up e
 .exact .inr ⟨a,kd,ks,ds,u,e1,e2,e _ _ q,t.ups<|jR e⟩
def E9(K:Db)(H:Hp)(d:Z.D)(v:V):Prop:=bp K H d v\/∃a kd ks ds u,d=Z.e! a kd ks ds/\v=.ref a/\H a=AC u
theorem i5.z{K:Db}(h:i5 K H d v):E9 K H d v:=by
 rcases h with h|⟨a,kd,ks,ds,u,e1,e2,q,_⟩
 .exact .inl h
 .exact .inr ⟨a,kd,ks,ds,u,e1,e2,q⟩
theorem i5.e!{K:Db}(h:i5 K H (.dct (.inl a::r) ds) v):Thg K H (.dct (.inl a::r) ds) v:=by
 rcases h with h|h
 .let⟨_,_,_,_,_,_,_,n⟩:=h.dct;exact absurd rfl<|n _ _
 .exact h
theorem E9.re{K:Db}(h:E9 K H0 d v)(r:i5 K H d v)(h0:aw H0 H)(hs:aw H0 H')(st:gv H H'):i5 K H' d v:=by
 rcases h with h|⟨a,kd,ks,ds,u,rfl,rfl,q⟩
 .exact .inl<|h.up hs
 .let⟨a',kd',ks',ds',u',e1,e2,q',t⟩:=r.e!;cases e2;have:=(h0 _ _ q).symm.trans q';cases this;exact .inr ⟨_,kd',ks',ds',u,e1,rfl,hs _ _ q,t.ups st⟩
theorem i5.lst{K:Db}{H:Hp}{ds:γ Z.D}{v:V}(h:i5 K H (.lst ds) v):bp K H (.lst ds) v:=by
 rcases h with h|⟨a,kd,ks,es,u,e1,_⟩
 .exact h
 .cases e1
def acA(x:γ Int×δ×ζ):DictEntry:={hash:=reduceHash<|Builtin.Tuple.tupleHashOf<|x.1.map hashInt,key:=.ref x.2.1,val:=x.2.2}
def Zw(a:δ)(ks:γ (γ Int))(as:γ δ)(h:ν):Prop:=ks.length<=sizeLine/\(a==sysModules)=AT/\∃(xs:γ (γ Int×δ×ζ))(o:μ)(es:Array DictEntry)(ep:Nat),xs.map (·.1)=ks/\xs.map (·.2.1)=as/\h.get? a=AC o/\o.ExactDict/\o.data=.dict es ep/\es.toList=xs.map acA/\ks.Nodup
abbrev Zv(a:δ)(ks:γ (γ Int))(as:γ δ):HO:=.ext<|Zw a ks as
def qr(K:Db)(H:Hp)(ks:γ (γ Int))(as:γ δ):Prop:=Paired (λ(k:γ Int)(b:δ)=>Den K H (.tup<|k.map .int)<|.ref b) ks as
def kvT(aO:γ (γ Nat×γ Nat)):γ (Key×V):=aO.map λ p=>(GT ⟨p.1.toArray⟩,V.str ⟨p.2.toArray⟩)
def DcO(a:δ):Z.DK->γ δ->HO
|.inl ks,as=>Zv a ks as
|.inr aO,_=>.dK<|kvT aO
def _Z(K:Db)(H:Hp):Z.DK->γ δ->Prop
|.inl ks,as=>qr K H ks as
|.inr _,_=>True
theorem ES:DcO a k as≠.lst xs:=by cases k<;>exact λ z=>nomatch z
def kvI(ps:γ (Int×Int)):γ (Key×V):=ps.map λ p=>(ca p.1,V.int p.2)
abbrev V!:γ ζ:=[.type "ValueError",.type "Exception",.type "BaseException",.type "object"]
noncomputable def wcB{α:Type}(f:α->Bool):ε α->Bool
|none=>AT
|some a=>f a
noncomputable def wcC(f:ζ->γ ζ->Bool):γ ζ->Bool
|[]=>AT
|a::t=>f a t
noncomputable def wcD:Data->ε ClassData
|.cls c=>some c
|_=>none
noncomputable def wcA(K:Db)(C:δ)(B:γ ζ->δ->Bool):Bool:=wcB (λ o=>wcB (λ c=>wcC (λ a t=>o.cls==.type "type"&&a==.ref C&&o.slots.toList.length==6&&o.slots.toList[4]?==some (some (.builtin "ValueError.__new__"))&&!c.hasDel&&B t c.ns) c.mro) (wcD o.data)) (K.lookup C)
noncomputable def HI(K:Db)(C:δ):Bool:=wcA K C λ t _=>t.contains (.type "BaseException")
noncomputable def wcE(K:Db)(C:δ):Bool:=wcA K C λ t n=>PySem.W.tailIn K V! t&&PySem.W.nsOkIn K n&&PySem.W.nsIn K n "__init__"==some none
def XC(K:Db)(c:γ Nat)(C:δ):Prop:=FM K mainGlobals ⟨c.toArray⟩=AC (AC<|.ref C)/\HI K C=Da
def XD(K:Db)(H:Hp):ε δ->γ (γ Nat×Z.D)->Prop
|none,fs=>fs=[]
|some dx,fs=>fs≠[]/\∃od aO,H dx=AC (.eJ od<|.xd aO)/\Paired (λ(p:Str×V)(q:γ Nat×Z.D)=>p.1=⟨q.1.toArray⟩/\Den K H q.2 p.2) aO fs
theorem XD.ups{K:Db}(h:XD K H dd fs)(e:gv H H'):XD K H' dd fs:=by
 cases dd with
 |none=>exact h
 |some dx=>let⟨n,od,aO,q,p⟩:=h;exact⟨n,od,aO,e.eJ _ _ _ q,Paired.JC p λ _ _ z=>⟨z.1,z.2.ups e⟩⟩
def vw(K:Db)(H:Hp)(c:γ Nat×γ (γ Nat×Z.D))(C:δ)(dd:ε δ):Prop:=XC K c.1 C/\XD K H dd c.2
theorem vw.ups{K:Db}(h:vw K H c C dd)(e:gv H H'):vw K H' c C dd:=⟨h.1,h.2.ups e⟩
def RL(K:Db)(H:Hp):Z.L->V->Prop
|.val d,v=>Den K H d v
|.own ds,v=>∃a vs,v=.ref a/\H a=AC (.lst vs)/\aq K H ds vs
|.bor d,v=>i5 K H d v
|.dc k,v=>∃a as,v=.ref a/\H a=AC (DcO a k as)/\_Z K H k as
|.Kq ks,v=>∃a o as,v=.ref a/\H a=AC (.eJ o<|Zv a ks as)/\qr K H ks as
|.TM ps,v=>∃a o,v=.ref a/\H a=AC (.eJ o<|.dK<|kvI ps)
|.exc c,v=>∃a o u C,v=.ref a/\H a=AC (.eJ o u)/\o.cls=.ref C/\(∃vs,o.data=.fields vs)/\vw K H c C o.dict
theorem qr.ups{K:Db}(h:qr K H ks as)(e:gv H H'):qr K H' ks as:=Paired.JC h λ _ _ d=>Den.ups d e
theorem _Z.ups{K:Db}(h:_Z K H k as)(e:gv H H'):_Z K H' k as:=by
 cases k with
 |inl ks=>exact qr.ups (h) e
 |inr _=>exact KF
structure RE(K:Db)(H:Hp)(σ:St)(ρ:Z.Env):Prop where
 len:ρ.length=σ.length
 get:∀(i:Nat)(l:Z.L),ρ[i]?=AC (AC l)->∃v,σ[i]?=AC (AC v)/\RL K H l v
 sep:∀(i j:Nat)(xs ys:List Z.D)(a:Addr),ρ[i]?=AC (AC<|.own xs)->ρ[j]?=AC (AC<|.own ys)->σ[i]?=AC (AC<|.ref a)->σ[j]?=AC (AC<|.ref a)->i=j
section
variable{K:Db}{H H':Hp}{σ:St}{ρ:Z.Env}
theorem RL.up(h:RL K H l v)(e:aw H H'):RL K H' l v:=by
 cases l with
 |val d=>exact Den.up (h) e
 |own ds=>let⟨a,vs,e1,q,t⟩:=h;exact⟨a,vs,e1,e _ _ q,t.up e⟩
 |bor d=>exact i5.up (h) e
 |dc ks=>let⟨a,as,e1,q,t⟩:=h;exact⟨a,as,e1,e _ _ q,t.ups<|jR e⟩
 |Kq ks=>let⟨a,o,as,e1,q,t⟩:=h;exact⟨a,o,as,e1,e _ _ q,t.ups<|jR e⟩
 |TM ps=>let⟨a,o,e1,q⟩:=h;exact⟨a,o,e1,e _ _ q⟩
 |exc c=>let⟨a,o,u,C,e1,q,r1,r2,r3⟩:=h;exact⟨a,o,u,C,e1,e _ _ q,r1,r2,r3.ups<|jR e⟩
theorem RE.up(h:RE K H σ ρ)(e:aw H H'):RE K H' σ ρ:=
 ⟨h.len,λ i l q=>let ⟨v,h1,h2⟩:=h.get i l q;⟨v,h1,h2.up e⟩,h.sep⟩
theorem bT(h:H a=Ch):aw H (upd H a o):=λ b u e=>by rw[au<|aT e h];exact e
end
def tZ(K:Db)(f:Z.EF):TE:=λ σ H Q=>∃ρ d,RE K H σ ρ/\f ρ=.ok d/\∀v H',aw H H'->Den K H' d v->Q v H'
def Qo(K:Db)(f:Z.EF):TE:=λ σ H Q=>∃ρ d,RE K H σ ρ/\f ρ=.ok d/\∀v H',aw H H'->bp K H' d v->Q v H'
def tZl(K:Db)(f:Z.LF):TE:=λ σ H Q=>∃ρ ds,RE K H σ ρ/\f ρ=.ok ds/\∀a vs H',aw H H'->H a=Ch->H' a=AC (.lst vs)->aq K H' ds vs->Q (.ref a) H'
def Wg(K:Db)(f:Z.TF):TT:=λ σ H Q=>∃ρ b,RE K H σ ρ/\f ρ=.ok b/\∀H',aw H H'->Q b H'
def tZa(K:Db)(f:Z.AF):TA:=λ σ H Q=>∃ρ ds,RE K H σ ρ/\f ρ=.ok ds/\∀vs H',aw H H'->aq K H' ds vs->Q vs H'
def tZp(K:Db)(f:Z.PF):TO:=λ σ H Q=>∃ρ o,RE K H σ ρ/\f ρ=.ok o/\∀H',aw H H'->Q o H'
abbrev DE(X:Cx)(e:θ)(f:Z.EF):Prop:=PE X e<|tZ X.K f
structure _root_.Lake.ZQ.QE(X:Cx)(e:Expr)(f:Z.EF):Prop where p:DE X e f
abbrev DW(X:Cx)(e:θ)(f:Z.EF):Prop:=PE X e<|Qo X.K f
structure _root_.Lake.ZQ.QW(X:Cx)(e:Expr)(f:Z.EF):Prop where p:DW X e f
abbrev DL(X:Cx)(e:θ)(f:Z.LF):Prop:=PE X e<|tZl X.K f
structure _root_.Lake.ZQ.QL(X:Cx)(e:Expr)(f:Z.LF):Prop where p:DL X e f
abbrev DT(X:Cx)(e:θ)(f:Z.TF):Prop:=PT X e<|Wg X.K f
structure _root_.Lake.ZQ.QT(X:Cx)(e:Expr)(f:Z.TF):Prop where p:DT X e f
abbrev DTW(X:Cx)(e:θ)(f:Z.TF):Prop:=PW X e<|Wg X.K f
structure _root_.Lake.ZQ.Rr(X:Cx)(e:Expr)(f:Z.TF):Prop where p:DTW X e f
abbrev DA(X:Cx)(es:γ θ)(f:Z.AF):Prop:=PA X es<|tZa X.K f
structure _root_.Lake.ZQ.QA(X:Cx)(es:List Expr)(f:Z.AF):Prop where p:DA X es f
abbrev DP(X:Cx)(e:ε θ)(f:Z.PF):Prop:=PO X e<|tZp X.K f
structure _root_.Lake.ZQ.QP(X:Cx)(e:Option Expr)(f:Z.PF):Prop where p:DP X e f
section
variable{X:Cx}{e a b c:θ}{es:γ θ}{pos:Pos}{f fa fb fc:Z.EF}
theorem PE.imp(h:PE X e t)(k:∀σ H Q,t' σ H Q->t σ H Q):PE X e t':=λ χ s σ H Q I w=>h χ s σ H Q I<|k σ H Q w
theorem PT.imp(h:PT X e t)(k:∀σ H Q,t' σ H Q->t σ H Q):PT X e t':=λ χ s σ H Q I w=>h χ s σ H Q I<|k σ H Q w
theorem PW.imp(h:PW X e t)(k:∀σ H Q,t' σ H Q->t σ H Q):PW X e t':=λ whole χ s σ H Q I w=>h whole χ s σ H Q I<|k σ H Q w
theorem PA.imp(h:PA X es t)(k:∀σ H Q,t' σ H Q->t σ H Q):PA X es t':=λ p χ s σ H Q I w=>h p χ s σ H Q I<|k σ H Q w
theorem PO.imp(h:PO X o t)(k:∀σ H Q,t' σ H Q->t σ H Q):PO X o t':=λ χ s σ H Q I w=>h χ s σ H Q I<|k σ H Q w
theorem GW(h:PE X e (tC v))(hd:∀H,Den X.K H d v):DE X e (Z.eC d):=PE.imp h <|by rintro σ H Q ⟨ρ,d',_,e,k⟩;have e':=e;cases e';exact k v H (aw.refl H)<|hd H
theorem _root_.Lake.ZQ.c6:ZQ.QE X (.Constant (.int i) j pos) (Z.eI i):=⟨GW Sj λ _=>bZ⟩
theorem _root_.Lake.ZQ.wI:ZQ.QE X (.Constant (.bool x) j pos) (Z.eC<|.bl x):=⟨GW WX λ _=>cE⟩
theorem _root_.Lake.ZQ.UP:ZQ.QE X (.Constant .none j pos) (Z.eC .non):=⟨GW BX λ _=>ka⟩
theorem _root_.Lake.ZQ.km(h:x=⟨cs.toArray⟩:=by decide +kernel):ZQ.QE X (.Constant (.str x) j pos) (Z.eC<|.str cs):=⟨by subst h;exact GW Sf λ _=>e_⟩
theorem YV(h:Z.eV i ρ=.ok d):ρ[i]?=AC (AC<|.val d):=by
 unfold Z.eV at h;split at h
 .rename_i d' q;cases h;exact q
 .cases h
theorem YU(h:Z.eW i ρ=.ok d):ρ[i]?=AC (AC<|.val d)\/(∃xs,ρ[i]?=AC (AC<|.own xs)/\d=.lst xs)\/∃xs,ρ[i]?=AC (AC<|.bor<|.lst xs)/\d=.lst xs:=by
 unfold Z.eW at h;split at h
 .rename_i d' q;cases h;exact .inl q
 .rename_i xs q;cases h;exact .inr<|.inl ⟨xs,q,rfl⟩
 .rename_i xs q;cases h;exact .inr<|.inr ⟨xs,q,rfl⟩
 .cases h
theorem UK(h:PE X e (mS i)):DE X e (Z.eV i):=PE.imp h <|by rintro σ H Q ⟨ρ,d,r,e,k⟩;let⟨v,h1,h2⟩:=r.get i _ (YV e);exact⟨v,h1,k v H (aw.refl H) h2⟩
theorem Uw(h:PE X e (mS i)):DW X e (Z.eW i):=PE.imp h <|by
 rintro σ H Q ⟨ρ,d,r,e,k⟩;rcases YU e with q|⟨xs,q,rfl⟩|⟨xs,q,rfl⟩
 rotate_left;rotate_left
 .let⟨v,h1,h2⟩:=r.get i _ q;exact⟨v,h1,k v H (aw.refl H)<|i5.lst h2⟩
 .let⟨v,h1,h2⟩:=r.get i _ q;exact⟨v,h1,k v H (aw.refl H)<|.inl h2⟩
 .let⟨v,h1,a,vs,rfl,h2,h3⟩:=r.get i _ q;exact⟨_,h1,k _ H (aw.refl H)<|.inr ⟨xs,a,vs,rfl,rfl,h2,h3⟩⟩
theorem _root_.Lake.ZQ.cX(hN:X.N[i]?=AC x:=by rfl)(hv:LG X.env.scope x:=by first|exact AE3 rfl|exact tz<|Or.inl rfl|exact tz<|Or.inr rfl)(hd:Nd x:=by kernel_rfl)
 (rT:(x==("__classdict__"))=AT:=by kernel_rfl):ZQ.QE X (.Name x pos) (Z.eV i):=⟨UK<|sX hN hv hd rT⟩
theorem _root_.Lake.ZQ.dG(hN:X.N[i]?=AC x:=by rfl)(hv:LG X.env.scope x:=by first|exact AE3 rfl|exact tz<|Or.inl rfl|exact tz<|Or.inr rfl)(hd:Nd x:=by kernel_rfl)
 (rT:(x==("__classdict__"))=AT:=by kernel_rfl):ZQ.QW X (.Name x pos) (Z.eW i):=⟨Uw<|sX hN hv hd rT⟩
theorem Pu(hg:Gl X x)(hm:X.mg x=AC u)(r:RelV v u)(hd:∀H,Den X.K H d v)(hb:Nd x:=by kernel_rfl):DE X (.Name x pos) (Z.eC d):=
 GW (DU hg hm r hb) hd
theorem _root_.Lake.ZQ.ig(h:ZQ.QE X e f):ZQ.QW X e f:=⟨PE.imp h.p <|by rintro σ H Q ⟨ρ,d,r,e,k⟩;exact⟨ρ,d,r,e,λ v H' s q=>k v H' s<|.inl q⟩⟩
theorem _root_.Lake.ZQ.Ux(h:ZQ.QL X e l):ZQ.QW X e (Z.eL l):=⟨PE.imp h.p <|by
 rintro σ H Q ⟨ρ,d,r,e,k⟩;unfold Z.eL at e;cases q:l ρ with
 |bad=>rw[q]at e;cases e
 |ok ds=>rw[q]at e;cases e;exact⟨ρ,ds,r,q,λ a vs H' s hn h1 h2=>k _ H' s<|.inr ⟨ds,a,vs,rfl,rfl,h1,h2⟩⟩⟩
theorem nr(I:Inv X χ σ H s)(h:H p=AC (.lst xs)):∃o,Inv X χ σ (upd H p<|.eJ o<|.lst xs) s:=by
 let⟨z,aW,n,r,ho⟩:=I.bG p _ h;refine⟨_,I.un (H':=upd H p (.eJ {cls:=.type "list",data:=.seq aW.toArray n} _)) ?_ ?_⟩
 .have ne:∀b,H b=Ch->b≠p:=λ b e q=>by rw[q,h]at e;cases e
  refine⟨λ b o q _ _ _=>q,λ b o q _ _ _=>⟨_,q⟩,λ b o q e _=>by rw[au<|ne b e];exact e,λ b o q _=>⟨o,q⟩,λ b ys e=>?_,λ b o u e=>?_,λ b u pr e=>?_⟩
  .have:b≠p:=by rintro rfl;rw[h]at e;cases e
   rw[au this];exact e
  .have:b≠p:=by rintro rfl;rw[h]at e;cases e
   rw[au this];exact e
  .have:b≠p:=by rintro rfl;rw[h]at e;cases e;exact pr
   rw[au this];exact e
 .intro b u e;by_cases hb:b=p
  .subst hb;rw[aA]at e;cases e;exact⟨ho,z,aW,n,r,ho⟩
  .rw[au hb]at e;refine(I.bG b u e).rh (λ c w _ q=>q) (λ c q=>?_) (λ c ys q=>?_) λ c v pr q=>?_
   .have:c≠p:=by rintro rfl;rw[h]at q;cases q
    rw[au this];exact q
   .have:c≠p:=by rintro rfl;rw[h]at q;cases q
    rw[au this];exact q
   .have:c≠p:=by rintro rfl;rw[h]at q;cases q;exact pr
    rw[au this];exact q
theorem Ip(s:aw H H1)(hn:H p=Ch):aw H (upd H1 p<|.eJ o<|.lst xs):=λ b u e=>by rw[au<|aT e hn];exact s b u e
theorem _root_.Lake.ZQ.US(h:ZQ.QL X e l):ZQ.QE X e (Z.eL l):=⟨by
 have h:=h.p;intro χ s σ H Q I w;let⟨ρ,d,r,e,k⟩:=w;unfold Z.eL at e;cases q:l ρ with
 |bad=>rw[q]at e;cases e
 |ok ds=>rw[q]at e;cases e;refine b! (h χ s σ H (λ v H1=>∃a vs,v=.ref a/\aw H H1/\H a=Ch/\H1 a=AC (.lst vs)/\aq X.K H1 ds vs) I ⟨ρ,ds,r,q,λ a vs H1 s1 hn h1 h2=>⟨a,vs,rfl,s1,hn,h1,h2⟩⟩) ?_;rintro u s' ⟨v,H1,I1,rv,a,vs,rfl,s1,hn,h1,h2⟩;let⟨o,I2⟩:=nr I1 h1;exact⟨_,_,I2,rv,k _ _ (Ip s1 hn)<|yr (.inl ⟨o,aA⟩)<|h2.ups<|i? h1⟩⟩
def Hf(K:Db)(r:R2)(o:Z.D->Z.D->Z.Res Z.D):Prop:=∀(x y:V)(dx dy d:Z.D)(H:Hp)(Q:VK),bp K H dx x->bp K H dy y->o dx dy=.ok d->(∀v H',aw H H'->Den K H' d v->Q v H')->r x y H Q
theorem two(hz:Hf X.K r o):∀σ H Q,tZ X.K (Z.eB o fa fb) σ H Q->Qp r (Qo X.K fa) (Qo X.K fb) σ H Q:=by rintro σ H Q ⟨ρ,d,re,e,k⟩;let⟨x,ea,e⟩:=al e;let⟨y,eb,e⟩:=al e;exact⟨ρ,x,re,ea,λ v H1 s1 d1=>⟨ρ,y,re.up s1,eb,λ u H2 s2 d2=>hz _ _ _ _ _ H2 Q (d1.up s2) d2 e λ w H' s3 dw=>k w H' ((s1.trans s2).trans s3) dw⟩⟩
theorem wG(hr:jk X (binaryOp op) r)(hz:Hf X.K r o)(ha:DW X a fa)(hb:DW X b fb):DE X (.BinOp a op b pos) (Z.eB o fa fb):=
 PE.imp (DQ hr ha hb)<|two hz
theorem oy{K:Db}{g:Int->Int->Int}(h:∀dx dy d,o dx dy=.ok d->∃i j,dx=.int i/\dy=.int j/\C i j/\d=.int (g i j)):Hf K (rI C λ i j=>.int<|g i j) o:=by intro x y dx dy d H Q h1 h2 e k;let⟨i,j,rfl,rfl,hc,rfl⟩:=h _ _ _ e;exact⟨i,j,h1.int,h2.int,hc,k _ H (aw.refl H) bZ⟩
theorem oq{K:Db}{gd:Int->Int->Z.D}(h:∀dx dy d,o dx dy=.ok d->∃i j,dx=.int i/\dy=.int j/\d=gd i j)(hg:∀i j H,Den K H (gd i j) (g i j)):Hf K (M' g) o:=by intro x y dx dy d H Q h1 h2 e k;let⟨i,j,rfl,rfl,rfl⟩:=h _ _ _ e;exact⟨i,j,h1.int,h2.int,k _ H (aw.refl H)<|hg i j H⟩
theorem _root_.Lake.ZQ.UL(ha:ZQ.QW X a fa)(hb:ZQ.QW X b fb):ZQ.QE X (.BinOp a .Sub b pos) (Z.eB Z.pU fa fb):=⟨have ha:=ha.p;have hb:=hb.p;wG Ss (oq (λ dx dy d e=>by
 unfold Z.pU at e;split at e
 .cases e;exact⟨_,_,rfl,rfl,rfl⟩
 .cases e) λ _ _ _=>bZ) ha hb⟩
def LP(i j:Int):Prop:=IntMulOk i j
theorem Nm:jk X (binaryOp .Mult) (rI LP λ i j=>.int<|i*j):=W4 λ _ _ _ _ _ _ _ hc q=>mul_int q hc
theorem PV(i:Int):Z.bits i=Builtin.Int.intBits i:=by
 unfold Z.bits Builtin.Int.intBits;by_cases h:i=0
 .subst h;simp
 .first
   |(simp;done)
   |(rw[o0];simp;done)
theorem tF(h:Z.bA i j):IntMulOk i j:=by
 rcases h with h|h|⟨h1,h2⟩
 .exact IntMulOk.of_left<|intBits_le_64 ∅ ∅
 .exact IntMulOk.of_right<|intBits_le_64 ∅ ∅
 .rw[PV]at h1 h2;exact mulOk_of_bits h1 h2 ∅
theorem _root_.Lake.ZQ.UR(ha:ZQ.QW X a fa)(hb:ZQ.QW X b fb):ZQ.QE X (.BinOp a .Mult b pos) (Z.eB Z.eO fa fb):=⟨have ha:=ha.p;have hb:=hb.p;wG Nm (oy λ dx dy d e=>by
 unfold Z.eO at e;split at e
 .unfold Z.guard at e;split at e
  .rename_i h;cases e;exact⟨_,_,rfl,rfl,tF h,rfl⟩
  .cases e
 .cases e) ha hb⟩
def Zy(_ j:Int):Prop:=Z.ij j
theorem CK(h:Z.ij j):0<j/\j.natAbs.log2<9000:=by
 have h0:=h.1;have h1:=h.2;have hn:j.natAbs≠0:=by lia
 have h2:j.natAbs<2^250:=by
  have:(2)^250=1809251394333065553493296640760748560207343510400633813116524750123642650624:=by decide
  lia
 have:=(Nat.log2_lt hn).mpr h2;exact⟨h0,by lia⟩
theorem Nn:jk X (binaryOp .FloorDiv) (rI Zy λ i j=>.int<|i / j):=W4 λ i j _ _ _ _ _ hc q=>by let⟨h0,h1⟩:=CK hc;have e:=Int.fdiv_eq_ediv_of_nonneg i<|Int.le_of_lt h0;exact floordiv_int (Int.ne_of_gt h0) (by rw[e];exact q)<|.inl<|PyProof.noPylong_of_log2 h1
theorem _root_.Lake.ZQ.La(ha:ZQ.QW X a fa)(hb:ZQ.QW X b fb):ZQ.QE X (.BinOp a .FloorDiv b pos) (Z.eB Z.oDiv fa fb):=⟨have ha:=ha.p;have hb:=hb.p;wG Nn (oy λ dx dy d e=>by
 unfold Z.oDiv at e;split at e
 .unfold Z.guard at e;split at e
  .rename_i h;cases e;exact⟨_,_,rfl,rfl,h,rfl⟩
  .cases e
 .cases e) ha hb⟩
theorem _root_.Lake.ZQ.ur(ha:ZQ.QW X a fa)(hb:ZQ.QW X b fb):ZQ.QE X (.BinOp a .Mod b pos) (Z.eB Z.oMod fa fb):=⟨have ha:=ha.p;have hb:=hb.p;wG Sx (oy λ dx dy d e=>by
 unfold Z.oMod at e;split at e
 .unfold Z.guard at e;split at e
  .rename_i h;cases e;exact⟨_,_,rfl,rfl,h,rfl⟩
  .cases e
 .cases e) ha hb⟩
theorem _root_.Lake.ZQ.UM(ha:ZQ.QW X a fa)(hb:ZQ.QW X b fb):ZQ.QE X (.BinOp a .Pow b pos) (Z.eB Z.m_ fa fb):=⟨have ha:=ha.p;have hb:=hb.p;wG Sv (oy λ dx dy d e=>by
 unfold Z.m_ at e;split at e
 .unfold Z.guard at e;split at e
  .rename_i h;cases e;exact⟨_,_,rfl,rfl,h,rfl⟩
  .cases e
 .cases e) ha hb⟩
def WR(K:Db):R2:=λ x y H Q=>∃a b xs ys,x=.ref a/\y=.ref b/\mi K H a xs/\mi K H b ys/\xs.length+ys.length<=sizeLine /\
 (xs=[]->Q (.ref b) H)/\(ys=[]->Q (.ref a) H)/\(∀p,H p=Ch->Q (.ref p) (upd H p<|.tup<|xs++ys))
theorem Np:jk X (binaryOp .Add) (WR X.K):=by
 intro χ s σ H x y v u Q I rx ry h;let⟨p,q,xs,ys,rfl,rfl,hp,hq,hz,q0,q1,q2⟩:=h;by_cases hx:xs=[]
 .cases rx;cases ry;let⟨aW,r1,ht,_⟩:=I.tuple hp;let⟨gV,r2,hb,_⟩:=I.tuple hq;let⟨⟨cls,dd,data,sl⟩,ho,hc,n,hd⟩:=id ht;let⟨⟨Y',VV,data2,Vr⟩,Hw,yc,n2,hd2⟩:=id hb;simp only at hc hd yc hd2;subst hc hd yc hd2;have e0:=r1.rO.mpr hx;exact B49 ⟨_,ho,rfl⟩ ⟨_,Hw,rfl⟩ B83 seq_tuple_add B85 B86 (B87 _ _)
   (tuple_addW0 p q _ _ n n2 dd VV sl Vr (by simp[e0])) ⟨ho,Hw,⟨.ref q,H,I,rfl,q0 hx⟩⟩
 .exact Nq χ s σ H _ _ v u Q I rx ry ⟨p,q,xs,ys,rfl,rfl,hp,hq,hx,hz,q1,λ _=>q2⟩
theorem MM(a b:γ Nat):(⟨a.toArray⟩)++(⟨b.toArray⟩:Str)=⟨(a++b).toArray⟩:=by show(⟨a.toArray++b.toArray⟩:Str)=_;simp
theorem _root_.Lake.ZQ.UZ(ha:ZQ.QW X a fa)(hb:ZQ.QW X b fb):ZQ.QE X (.BinOp a .Add b pos) (Z.eB Z.aL fa fb):=⟨have ha:=ha.p;have hb:=hb.p;wG (SA.or<|B0.or Np) (λ x y dx dy d H Q h1 h2 e k=>by
 unfold Z.aL at e;split at e
 .cases e;exact .inl ⟨_,_,h1.int,h2.int,k _ H (aw.refl H) bZ⟩
 .unfold Z.guard at e;split at e
  .rename_i as bs h;cases e;refine .inr<|.inl ⟨_,_,h1.str,h2.str,?_,?_⟩
   .show as.toArray.size+bs.toArray.size<=sizeLine;rw[A25];simpa using h
   .rw[MM];exact k _ H (aw.refl H) e_
  .cases e
 .unfold Z.guard at e;split at e
  .rename_i as bs h;cases e;let⟨p,xs,rfl,hp,t1⟩:=h1.tup;let⟨q,ys,rfl,hq,t2⟩:=h2.tup;refine .inr<|.inr ⟨p,q,xs,ys,rfl,rfl,hp,hq,?_,?_,?_,?_⟩
   .rw[t1.length,t2.length,A25];exact h
   .rintro rfl;have:=A80 (by rw[<-t1.length];rfl);subst this;exact k _ H (aw.refl H)<|eD hq t2
   .rintro rfl;have:=A80 (by rw[<-t2.length];rfl);subst this;rw[A48]at k;exact k _ H (aw.refl H)<|eD hp t1
   .intro z hn;have s1:aw H (upd H z<|.tup<|xs++ys):=bT hn;exact k _ _ s1<|eD (.inl<|.inl aA)<|(t1.append t2).up s1
  .cases e
 .cases e) ha hb⟩
theorem _root_.Lake.ZQ.UQ(ha:ZQ.QW X a fa):ZQ.QE X (.UnaryOp .USub a pos) (Z.eU Z.Jg fa):=⟨PE.imp (WV RJ ha.p) <|by
 rintro σ H Q ⟨ρ,d,r,e,k⟩;let⟨x,ea,e⟩:=al e;refine⟨ρ,x,r,ea,λ v H1 s1 d1=>?_⟩;unfold Z.Jg at e;split at e
 .cases e;exact⟨_,d1.int,k _ H1 s1 bZ⟩
 .cases e⟩
end
end ZS
namespace ZS
section
open Builtin Builtin.Str
theorem lq(t:γ Nat):(⟨t.toArray⟩:Str).length=t.length:=by simp[Str.length]
theorem aaQ(t:γ Nat)(c:Nat):(!(IR ⟨t.toArray⟩ ⟨#[c]⟩ 0 t.length 1).isEmpty)=t.contains c:=by have h:=StrLaws.found_one ⟨t.toArray⟩ c;rw[lq]at h;rw[h,A51];simp
theorem EY(n d:Nat)(i:Int):max 0 (min (if i<0 then i+(n)else i)<|n)=((Z.c9 n d<|some i)):=by
 show max 0 (min (if i<0 then i+(n)else i)<|n)=(((if i<0 then(i+(n)).toNat else min _ n)))
 by_cases h:i<0
 .simp only[W1 h];lia
 .simp only[o0 h];lia
theorem slR(a b:Nat):sliceRange (a) (b) 1=(FB<|b-a).map (λ k=>a+k):=by
 unfold sliceRange;simp only[show(1:Int)>0 by decide,A29];have e:(if(a)<(b:Int)then((b)-(a:Int)+1-1) / 1 else 0).toNat=b-a:=by
  split
  .rw[Int.ediv_one];lia
  .lia
 rw[e];apply B08;intro k _;lia
theorem idxs(lo hi:ε Int)(n:Nat):strSliceIndices lo hi 1 n=(FB<|Z.c9 n n hi-Z.c9 n 0 lo).map (λ k=>Z.c9 n 0 lo+k):=by
 unfold strSliceIndices;simp only[show(1:Int)>0 by decide,A29];rw[<-slR];cases lo with
 |none=>
  cases hi with
  |none=>rfl
  |some j=>simp only[EY n n j];rfl
 |some i=>
  cases hi with
  |none=>simp only[EY n 0 i];rfl
  |some j=>simp only[EY n 0 i,EY n n j]
theorem xy(n d:Nat)(hd:d<=n)(o:ε Int):Z.c9 n d o<=n:=by
 cases o with
 |none=>exact hd
 |some v=>show(if v<0 then(v+(n)).toNat else min _ n)<=n;split<;>lia
theorem pick(cs:γ Nat):∀k a,a+k<=cs.length->((FB k).map λ j=>a+j).filterMap (λ i=>cs.toArray[i]?)=(cs.drop a).take k:=by
 intro k
 induction k with
 |zero=>intro a _;simp
 |succ k ih=>
  intro a h;rw[A81,A23,List.filterMap_append,ih a ∅];have jc:a+k<cs.length:=by lia
  rw[List.take_succ];simp[jc]
theorem Wt(cs:γ Nat)(lo hi:ε Int):Txt.slice ⟨cs.toArray⟩ lo hi=⟨(Z.cut cs lo hi).toArray⟩:=by
 unfold Txt.slice;rw[lq,idxs];have h1:=xy _ cs.length (M2 _) hi;have h0:=xy cs.length 0 (A47 _) lo;have hp:((FB<|Z.c9 cs.length cs.length hi-Z.c9 cs.length 0 lo).map λ k=>Z.c9 cs.length 0 lo+k).filterMap (λ i=>cs.toArray[i]?)=Z.cut cs lo hi:=by exact pick cs _ _ ∅
 split
 .rename_i hh;have ψ:(FB<|Z.c9 cs.length cs.length hi-Z.c9 cs.length 0 lo).length=cs.length:=by simp only[A91,B95,A26,A04]at hh;exact hh
  rw[B27]at ψ;unfold Z.cut;have e0:Z.c9 cs.length 0 lo=0:=by lia
  have e1:Z.c9 cs.length cs.length hi-Z.c9 cs.length 0 lo=cs.length:=by lia
  rw[e1,e0];simp
 .rw[hp]
end
open L2
section
variable{X:Cx}
theorem UW(hr:jk X (compareOp op) r)(hz:Hf X.K r o)(ha:DW X a fa)(hb:DW X b fb)(hm:behindInMarks op b=AT):DE X (.Compare a [op] [b] pos) (Z.eB o fa fb):=
 PE.imp (DV hr ha hb hm)<|two hz
theorem qV(h:PT X e (Dk t))(k:∀σ H Q,tZ X.K f σ H Q->t σ H Q):DT X e (Z.tE f):=PT.imp h <|by
 rintro σ H Q ⟨ρ,b,r,e,q⟩;let⟨x,ea,e⟩:=al e;refine k σ H _ ⟨ρ,x,r,ea,λ v H' s d=>?_⟩;split at e
 .cases e;simp only[Den]at d;exact⟨_,d,q H' s⟩
 .cases e
theorem UA(hr:jk X (compareOp op) r)(hz:Hf X.K r o)(ha:DW X a fa)(hb:DW X b fb)(hm:behindInMarks op b=AT):DT X (.Compare a [op] [b] pos) (Z.tE<|Z.eB o fa fb):=
 qV (rL hr ha hb hm)<|two hz
structure A9(X:Cx)(op:CmpOp)(o:Z.D->Z.D->Z.Res Z.D):Prop where
 ex:∃r,jk X (compareOp op) r/\Hf X.K r o
theorem _root_.Lake.ZQ.Lc(h:A9 X op o)(ha:ZQ.QW X a fa)(hb:ZQ.QW X b fb)(hm:behindInMarks op b=AT:=by first|exact jn _|with_unfolding_all rfl):ZQ.QE X (.Compare a [op] [b] pos) (Z.eB o fa fb):=
 ⟨let ⟨_,hr,hz⟩:=h.ex;UW hr hz ha.p hb.p hm⟩
theorem _root_.Lake.ZQ.iK(h:A9 X op o)(ha:ZQ.QW X a fa)(hb:ZQ.QW X b fb)(hm:behindInMarks op b=AT:=by first|exact jn _|with_unfolding_all rfl):ZQ.QT X (.Compare a [op] [b] pos) (Z.tE<|Z.eB o fa fb):=
 ⟨let ⟨_,hr,hz⟩:=h.ex;UA hr hz ha.p hb.p hm⟩
theorem wJ(hz:Hf X.K r o)(X':Hf X.K r' o'):∀σ H Q,tZ X.K (Z.hW o o' fa fb fc) σ H Q->BE r r' (Qo X.K fa) (Qo X.K fb) (Qo X.K fc) σ H Q:=by
 rintro σ H Q ⟨ρ,d,re,e,k⟩;let⟨x,ea,e⟩:=al e;let⟨y,eb,e⟩:=al e;let⟨z,eo,e⟩:=al e;refine⟨ρ,x,re,ea,λ v H1 s1 d1=>⟨ρ,y,re.up s1,eb,λ u H2 s2 d2=>hz _ _ _ _ _ H2 _ (d1.up s2) d2 eo λ w H3 s3 dw=>?_⟩⟩;have LV:=(s1.trans s2).trans s3;split at e
 .rename_i q;simp only[Den]at dw;refine⟨_,dw,?_⟩;cases q with
  |true=>simp only[A29]at e ⊢;let⟨t,ec,e⟩:=al e;exact⟨ρ,t,re.up LV,ec,λ v' H4 s4 d4=>X' _ _ _ _ _ H4 Q ((d2.up s3).up s4) d4 e λ w' H5 s5 dw'=>k w' H5 ((LV.trans s4).trans s5) dw'⟩
  |false=>simp only[A52]at e ⊢;cases e;exact k _ H3 LV cE
 .cases e
theorem _root_.Lake.ZQ.Ld(h:A9 X op o)(h':A9 X FU o')(ha:ZQ.QW X a fa)(hb:ZQ.QW X b fb)(hc:ZQ.QW X c fc)
 (hm:lastMarks [op,FU] [b,c]=AT:=by with_unfolding_all rfl):ZQ.QE X (.Compare a [op,FU] [b,c] pos) (Z.hW o o' fa fb fc):=
 ⟨let ⟨_,hr,hz⟩:=h.ex;let ⟨_,hr',X'⟩:=h'.ex;PE.imp (IU hr hr' ha.p hb.p hc.p hm) (wJ hz X')⟩
theorem _root_.Lake.ZQ.KQ(h:A9 X op o)(h':A9 X FU o')(ha:ZQ.QW X a fa)(hb:ZQ.QW X b fb)(hc:ZQ.QW X c fc)
 (hm:lastMarks [op,FU] [b,c]=AT:=by with_unfolding_all rfl):ZQ.QT X (.Compare a [op,FU] [b,c] pos) (Z.tE<|Z.hW o o' fa fb fc):=
 ⟨let ⟨_,hr,hz⟩:=h.ex;let ⟨_,hr',X'⟩:=h'.ex;qV (IG hr hr' ha.p hb.p hc.p hm) (wJ hz X')⟩
theorem G8:A9 X .Lt Z.oLt:=⟨_,WY,oq (λ dx dy d e=>by
 unfold Z.oLt at e;split at e
 .cases e;exact⟨_,_,rfl,rfl,rfl⟩
 .cases e) λ _ _ _=>cE⟩
theorem CQ:A9 X .Gt Z.D5:=⟨_,W0,oq (λ dx dy d e=>by
 unfold Z.D5 at e;split at e
 .cases e;exact⟨_,_,rfl,rfl,rfl⟩
 .cases e) λ _ _ _=>cE⟩
theorem G!:A9 X .GtE Z.VB:=⟨_,W2,oq (λ dx dy d e=>by
 unfold Z.VB at e;split at e
 .cases e;exact⟨_,_,rfl,rfl,rfl⟩
 .cases e) λ _ _ _=>cE⟩
theorem FT:jk X (compareOp .LtE) (λ x y H Q=>∃i j,x=.str i/\y=.str j/\Q (.bl<|!decide (j.cps.toList<i.cps.toList)) H):=by intro χ s σ H x y v u Q I rx ry h;let⟨i,j,rfl,rfl,q⟩:=h;let⟨t,rfl⟩:=rx;let⟨t',rfl⟩:=ry;exact PySem.P.le_str<|yh I q rfl
theorem JK:∀a b,Z.Hu a b=decide (a<b)
|[],[]=>by simp[Z.Hu]
|[],_::_=>by simp[Z.Hu]
|_::_,[]=>by simp[Z.Hu]
|a::as,b::bs=>by
 unfold Z.Hu;rw[JK];by_cases h:a<b
 .simp[C43]
 .by_cases h2:a=b
  .subst h2;simp
  .simp[C43]
theorem G9:A9 X .LtE Z.oLe:=⟨_,WZ.or FT,λ x y dx dy d H Q h1 h2 e k=>by
 unfold Z.oLe at e;split at e
 .cases e;exact .inl ⟨_,_,h1.int,h2.int,k _ H (aw.refl H) cE⟩
 .cases e;refine .inr ⟨_,_,h1.str,h2.str,?_⟩;rename_i as bs;have q:=k (.bl<|!Z.Hu bs as) H (aw.refl H) cE;rw[JK]at q;exact q
 .cases e⟩
def X5:Z.D->Bool
|.non=>Da
|_=>AT
theorem Jm{K:Db}(h:bp K H d v):decide (v=.non)=X5 d:=by
 cases d with
 |non=>rw[h.non];rfl
 |bl b=>rw[h.bl];rfl
 |int i=>rw[h.int];rfl
 |str cs=>rw[h.str];rfl
 |tup ds=>let⟨a,vs,rfl,_⟩:=h.tup;rfl
 |lst ds=>let⟨a,vs,rfl,_⟩:=h.lst;rfl
 |dct ks ds=>let⟨a,o,aO,rfl,_⟩:=h.dct;rfl
theorem Ow:∀σ H Q,tZ X.K (Z.eU Z.fO fa) σ H Q->Qp (λ x y H Q=>y=.non/\Q (.bl<|decide<|x=.non) H) (Qo X.K fa) (tC .non) σ H Q:=by rintro σ H Q ⟨ρ,d,r,e,k⟩;let⟨x,ea,e⟩:=al e;refine⟨ρ,x,r,ea,λ v H1 s1 d1=>⟨rfl,?_⟩⟩;rw[Jm d1];cases x<;>(cases e;exact k _ H1 s1 cE)
theorem Jl:∀σ H Q,tZ X.K (Z.eU Z.tm fa) σ H Q->Qp (λ x y H Q=>y=.non/\Q (.bl<|!decide (x=.non)) H) (Qo X.K fa) (tC .non) σ H Q:=by rintro σ H Q ⟨ρ,d,r,e,k⟩;let⟨x,ea,e⟩:=al e;refine⟨ρ,x,r,ea,λ v H1 s1 d1=>⟨rfl,?_⟩⟩;rw[Jm d1];cases x<;>(cases e;exact k _ H1 s1 cE)
theorem _root_.Lake.ZQ.CF(ha:ZQ.QW X a fa):ZQ.QT X (.Compare a [.Is] [.Constant .none j pos'] pos) (Z.tE<|Z.eU Z.fO fa):=⟨qV (rL Sy ha.p BX<|jn _) Ow⟩
theorem _root_.Lake.ZQ.O7(ha:ZQ.QW X a fa):ZQ.QT X (.Compare a [.IsNot] [.Constant .none j pos'] pos) (Z.tE<|Z.eU Z.tm fa):=⟨qV (rL Nl ha.p BX<|jn _) Jl⟩
theorem jN:A9 X .NotIn Z.oz:=⟨_,xH,λ x y dx dy d H Q h1 h2 e k=>by
 unfold Z.oz at e;split at e
 .cases e;refine⟨_,_,h1.str,h2.str,?_⟩;rename_i c t;rw[lq,aaQ];exact k _ H (aw.refl H) cE
 .cases e⟩
theorem _root_.Lake.ZQ.UN(h:ZQ.QE X a fa):ZQ.QE X (.BoolOp op [a] pos) fa:=⟨Sg h.p⟩
theorem _root_.Lake.ZQ.UY{rest:γ θ}(ha:ZQ.QE X a fa)(hb:ZQ.QE X (.BoolOp .And (b::rest) pos) fb):ZQ.QE X (.BoolOp .And (a::b::rest) pos) (Z.ue fa fb):=⟨PE.imp (Sl ha.p hb.p) <|by
 rintro σ H Q ⟨ρ,d,r,e,k⟩;let⟨x,ea,e⟩:=al e;refine⟨ρ,x,r,ea,λ v H1 s1 d1=>?_⟩;split at e
 .rename_i q;simp only[Den]at d1;refine⟨q,d1,?_⟩;cases q with
  |true=>simp only[A29]at e ⊢;exact⟨ρ,d,r.up s1,e,λ w H' s2 dw=>k w H' (s1.trans s2) dw⟩
  |false=>simp only[A52]at e ⊢;cases e;exact k _ H1 s1 cE
 .cases e⟩
theorem _root_.Lake.ZQ.Y7{rest:γ θ}(ha:ZQ.QE X a fa)(hb:ZQ.QE X (.BoolOp .Or (b::rest) pos) fb):ZQ.QE X (.BoolOp .Or (a::b::rest) pos) (Z.Uv fa fb):=⟨PE.imp (WW ha.p hb.p) <|by
 rintro σ H Q ⟨ρ,d,r,e,k⟩;let⟨x,ea,e⟩:=al e;refine⟨ρ,x,r,ea,λ v H1 s1 d1=>?_⟩;split at e
 .rename_i q;simp only[Den]at d1;refine⟨q,d1,?_⟩;cases q with
  |false=>simp only[A52]at e ⊢;exact⟨ρ,d,r.up s1,e,λ w H' s2 dw=>k w H' (s1.trans s2) dw⟩
  |true=>simp only[A29]at e ⊢;cases e;exact k _ H1 s1 cE
 .cases e⟩
theorem _root_.Lake.ZQ.UO(ha:ZQ.QE X a fa):ZQ.QE X (.UnaryOp .Not a pos) (Z.O5 fa):=⟨PE.imp (Sh ha.p) <|by
 rintro σ H Q ⟨ρ,d,r,e,k⟩;let⟨x,ea,e⟩:=al e;refine⟨ρ,x,r,ea,λ v H1 s1 d1=>?_⟩;split at e
 .simp only[Den]at d1;cases e;exact⟨_,d1,k _ H1 s1 cE⟩
 .cases e⟩
theorem RV:∀σ H Q,Wg X.K (Z.tE f) σ H Q->tB (tZ X.K f) σ H Q:=by
 rintro σ H Q ⟨ρ,b,r,e,q⟩;let⟨x,ea,e⟩:=al e;refine⟨ρ,x,r,ea,λ v H' s d=>?_⟩;split at e
 .cases e;simp only[Den]at d;exact⟨_,d,q H' s⟩
 .cases e
theorem _root_.Lake.ZQ.acI(h:ZQ.QE X e f)(he:∀whole,isTrue e X.env whole=(do let v ←whole;standAt e.pos;holding [v] (truthy v)):=by intro _;rfl):ZQ.QT X e (Z.tE f):=⟨PT.imp (R8 h.p he) RV⟩
theorem _root_.Lake.ZQ.Uy(h:ZQ.QT X a t):ZQ.QT X (.UnaryOp .Not a pos) (Z.fL t):=⟨PT.imp (R9 h.p) <|by rintro σ H Q ⟨ρ,b,r,e,q⟩;let⟨x,ea,e⟩:=al e;cases e;exact⟨ρ,x,r,ea,λ H' s=>q H' s⟩⟩
theorem _root_.Lake.ZQ.O8(h:ZQ.QT X a t):ZQ.Rr X (.BoolOp .And [a] pos) t:=⟨pw_and1 h.p⟩
theorem _root_.Lake.ZQ.KL(h:ZQ.QT X a t):ZQ.Rr X (.BoolOp .Or [a] pos) t:=⟨pw_or1 h.p⟩
theorem _root_.Lake.ZQ.UB{rest:γ θ}(ha:ZQ.QT X a t)(hb:ZQ.Rr X (.BoolOp .And (b::rest) pos) u):ZQ.Rr X (.BoolOp .And (a::b::rest) pos) (Z.xn t u):=⟨PW.imp (pw_and ha.p hb.p) <|by
 rintro σ H Q ⟨ρ,d,r,e,k⟩;let⟨x,ea,e⟩:=al e;refine⟨ρ,x,r,ea,λ H1 s1=>?_⟩;cases x with
 |true=>simp only[A29]at e ⊢;exact⟨ρ,d,r.up s1,e,λ H' s2=>k H'<|s1.trans s2⟩
 |false=>simp only[A52]at e ⊢;cases e;exact k H1 s1⟩
theorem _root_.Lake.ZQ.KP{rest:γ θ}(ha:ZQ.QT X a t)(hb:ZQ.Rr X (.BoolOp .Or (b::rest) pos) u):ZQ.Rr X (.BoolOp .Or (a::b::rest) pos) (Z.vG t u):=⟨PW.imp (pw_or ha.p hb.p) <|by
 rintro σ H Q ⟨ρ,d,r,e,k⟩;let⟨x,ea,e⟩:=al e;refine⟨ρ,x,r,ea,λ H1 s1=>?_⟩;cases x with
 |false=>simp only[A52]at e ⊢;exact⟨ρ,d,r.up s1,e,λ H' s2=>k H'<|s1.trans s2⟩
 |true=>simp only[A29]at e ⊢;cases e;exact k H1 s1⟩
theorem _root_.Lake.ZQ.dtw(h:ZQ.Rr X e t):ZQ.QT X e t:=⟨h.p.pt⟩
theorem _root_.Lake.ZQ.K?(hc:ZQ.QT X c t)(ha:ZQ.QE X a fa)(hb:ZQ.QE X b fb):ZQ.QE X (.IfExp c a b pos) (Z.eIf t fa fb):=⟨PE.imp (IS hc.p ha.p hb.p) <|by
 rintro σ H Q ⟨ρ,d,r,e,k⟩;let⟨x,ea,e⟩:=al e;refine⟨ρ,x,r,ea,λ H1 s1=>?_⟩;cases x with
 |true=>simp only[A29]at e ⊢;exact⟨ρ,d,r.up s1,e,λ w H' s2 dw=>k w H' (s1.trans s2) dw⟩
 |false=>simp only[A52]at e ⊢;exact⟨ρ,d,r.up s1,e,λ w H' s2 dw=>k w H' (s1.trans s2) dw⟩⟩
theorem _root_.Lake.ZQ.c7:ZQ.QA X [] Z.ah:=⟨PA.imp bV <|by rintro σ H Q ⟨ρ,ds,r,e,k⟩;cases e;exact k [] H (aw.refl H) aq.nil⟩
theorem jg(ha:DE X e f)(hr:DA X es g)(hs:Se e es X.env:=by rfl):DA X (e::es) (Z.ag f g):=PA.imp (a6 ha hr hs) <|by rintro σ H Q ⟨ρ,ds,r,e,k⟩;let⟨x,ea,e⟩:=al e;let⟨xs,eb,e⟩:=al e;cases e;exact⟨ρ,x,r,ea,λ v H1 s1 d1=>⟨ρ,xs,r.up s1,eb,λ vs H2 s2 d2=>k _ H2 (s1.trans s2)<|aq.cons (d1.up s2) d2⟩⟩
theorem _root_.Lake.ZQ.nA(h:ZQ.QA X es g):ZQ.QE X (.Tuple es x1 pos) (Z.cq g):=⟨PE.imp (Sd h.p) <|by
 rintro σ H Q ⟨ρ,d,r,e,k⟩;let⟨xs,ea,e⟩:=al e;unfold Z.guard at e;split at e
 .rename_i hl;cases e;refine⟨ρ,xs,r,ea,λ vs H1 s1 d1=>⟨by rw[d1.length,A25];exact hl,λ q hq=>?_⟩⟩;have s2:aw H1 (upd H1 q<|.tup vs):=bT hq;exact k _ _ (s1.trans s2)<|eD (.inl<|.inl aA)<|d1.up s2
 .cases e⟩
theorem _root_.Lake.ZQ.EM(h:ZQ.QA X es g):ZQ.QL X (.List es pos) (Z.bu g):=⟨PE.imp (Si h.p) <|by
 rintro σ H Q ⟨ρ,d,r,e,k⟩;let⟨xs,ea,e⟩:=al e;unfold Z.guard at e;split at e
 .rename_i hl;cases e;refine⟨ρ,_,r,ea,λ vs H1 s1 d1=>⟨by rw[d1.length,A25];exact hl,λ q hq=>?_⟩⟩;have s2:aw H1 (upd H1 q<|.lst vs):=bT hq;exact k q vs _ (s1.trans s2) (s1.free hq) aA<|d1.up s2
 .cases e⟩
end
end ZS
namespace ZS
open L2
def Wa:Z.Ty->String
|.bool=> "bool"|.int=> "int"|.str=> "str"|.tuple=> "tuple"|.list=> "list"|.dict=> "dict"
def tyD:Z.D->String
|.non=> "NoneType"|.bl _=> "bool"|.int _=> "int"|.str _=> "str"|.tup _=> "tuple"|.lst _=> "list"|.dct _ _=> "dict"
theorem Oe(K:Db)(t:Z.Ty)(d:Z.D):PySem.W.kitOne K (.type<|tyD d) (.type<|Wa t)=AC (Z.fT t d):=by cases t<;>cases d<;>kernel_rfl
theorem JX(t:Z.Ty)(I:Inv X χ σ H s)(hd:bp X.K H d v)(r:RelV v u)
 (h:∀tk,Q (.bool<|Z.fT t d) {s with toks:=tk}):Ev (model X.prog X.w) A (call (.builtin "isinstance") [u,.type (Wa t)]) Q E s:=by
 have e:=Oe X.K t d;cases d with
 |non=>rw[hd.non]at r;cases (r);exact A92 PySem.W.kitx_none I.lX KF e (λ z=>nomatch z) h
 |bl y=>rw[hd.bl]at r;cases (r);exact A92 PySem.W.kitx_bool I.lX KF e (λ z=>nomatch z) h
 |int i=>rw[hd.int]at r;obtain⟨t',q⟩:=(r);cases q;exact A92 PySem.W.kitx_int I.lX KF e (λ z=>nomatch z) h
 |str cs=>rw[hd.str]at r;obtain⟨t',q⟩:=(r);cases q;exact A92 PySem.W.kitx_str I.lX KF e (λ z=>nomatch z) h
 |tup ds=>let⟨a,vs,rfl,hq,_⟩:=hd.tup;cases (r);let⟨aW,_,⟨o,h1,h2,_⟩,_⟩:=I.tuple hq;exact A92 PySem.W.kitx_tuple I.lX ⟨o,h1,h2⟩ e (λ z=>nomatch z) h
 |lst ds=>let⟨a,vs,rfl,hq,_⟩:=hd.lst;cases (r);let⟨aW,_,⟨o,n,h1,h2,_⟩,_⟩:=I.list hq;exact A92 PySem.W.kitx_list I.lX ⟨o,h1,h2⟩ e (λ z=>nomatch z) h
 |dct ks ds=>
  let⟨a,o,aO,rfl,hq,_⟩:=hd.dct;cases (r);obtain⟨_,_,_,_,_,o',es,ep,h1,h2,_⟩:=(I.bG a _ hq)
  exact A92 PySem.W.kitx_dict I.lX ⟨o',h1,h2.1⟩ e (λ z=>nomatch z) h
theorem _root_.Lake.ZQ.l4(t:Z.Ty)(hg:Gl X x)(hm:X.mg x=Ch)(hv:bootBuiltins x=AC (.builtin "isinstance"))(hg2:Gl X y)(hm2:X.mg y=Ch)(VJ:bootBuiltins y=AC (.type<|Wa t))(ha:ZQ.QW X a fa)
 (hn:x≠ "__name__":=by decide +kernel) (gi:Nd x:=by kernel_rfl) (OH:y≠ "__name__":=by decide +kernel) (abZ:Nd y:=by kernel_rfl)
 (he:starEach (a::[.Name y p2]) X.env=(AT,eval a X.env)::starEach [.Name y p2] X.env:=by rfl) (d!:(backTo pos<|starEach [.Name y p2] X.env).any (·.1)=AT:=by rfl) (Q7:starEach ((.Name y p2)::[]) X.env=(AT,eval (.Name y p2) X.env)::starEach [] X.env:=by rfl) :
 ZQ.QE X (.Call (.Name x p1) [a,.Name y p2] [] pos) (Z.eU (Z.jb t) fa):=⟨by
 have hc:lO X (.builtin "isinstance") (λ xs H Q=>∃v d,xs=[v,.ty (Wa t)]/\bp X.K H d v/\Q (.bl<|Z.fT t d) H):=by intro χ s σ H xs us Q I r h;let⟨v,d,rfl,hd,q⟩:=h;let⟨u,w',rfl,r1,r2⟩:=vals2 r;cases (r2);exact JX t I hd r1 λ tk=>⟨.bl _,H,I.tok _,rfl,q⟩
 refine PE.imp (jD hc hg hm hv (a6 ha.p (a6 (Ni (v:=.ty (Wa t)) hg2 hm2 VJ rfl OH abZ) bV Q7) he) hn gi he d!) ?_;rintro σ H Q ⟨ρ,d,r,e,k⟩;let⟨x,ea,e⟩:=al e;cases e;exact⟨ρ,x,r,ea,λ v H1 s1 d1=>⟨v,x,rfl,d1,k _ H1 s1 cE⟩⟩⟩
theorem _root_.Lake.ZQ.yv{x:Str}(hm:X.mg x=Ch)(ha:ZQ.QW X a fa)(hn:x≠ "__name__":=by decide +kernel)(gi:Nd x:=by kernel_rfl)(he:Se a [] X.env:=by rfl)(d!:Pn pos [] X.env:=by rfl)(hg:Gl X x:=by rfl)(hv:bootBuiltins x=AC (.builtin "len"):=by kernel_rfl):ZQ.QE X (.Call (.Name x p1) [a] [] pos) (Z.eU Z.cm fa):=
 ⟨PE.imp (jD Lm hg hm hv (a6 ha.p bV he) hn gi he d!) <|by
  rintro σ H Q ⟨ρ,d,r,e,k⟩;let⟨x,ea,e⟩:=al e;refine⟨ρ,x,r,ea,λ v H1 s1 d1=>?_⟩;unfold Z.cm at e;split at e
  .unfold Z.guard at e;split at e
   .rename_i cs hl;cases e;rw[d1.str];refine⟨_,_,rfl,⟨?_,?_⟩,k _ H1 s1 bZ⟩
    .show cs.toArray.size<=sizeLine;rw[A25];simpa using hl
    .show cs.length=cs.toArray.size;simp
   .cases e
  .cases e;let⟨q,vs,rfl,hq,t⟩:=d1.tup;refine⟨_,_,rfl,.inr ⟨vs,hq,rfl⟩,?_⟩;rw[t.length];exact k _ H1 s1 bZ
  .cases e;let⟨q,vs,rfl,hq,t⟩:=d1.lst;refine⟨_,_,rfl,.inl ⟨vs,hq,rfl⟩,?_⟩;rw[t.length];exact k _ H1 s1 bZ
  .cases e⟩
theorem TK(n:Nat)(i:Int):Z.wa n i=XZ n i:=rfl
theorem atZ{K:Db}(t:aq K H ds vs)(h:((Z.wa ds.length i).bind λ j=>ds[j]?)=AC d):∃v,U! vs i=AC v/\Den K H d v:=by
 unfold U!;rw[t.length,<-TK];cases q:Z.wa _ i with
 |none=>rw[q]at h;cases h
 |some j=>rw[q]at h;exact t.get h
theorem Qz:∃r,Mf X r/\Hf X.K r Z.aZ:=⟨_,JV,λ x y dx dy d H Q h1 h2 e k=>by
 unfold Z.aZ at e;split at e
 .let⟨q,vs,rfl,hq,t⟩:=h1.tup;split at e
  .rename_i v hv;cases e;let⟨w,e1,dw⟩:=atZ t hv;exact .inr<|.inl ⟨q,vs,_,w,rfl,h2.int,hq,e1,k w H (aw.refl H) dw⟩
  .cases e
 .let⟨q,vs,rfl,hq,t⟩:=h1.lst;split at e
  .rename_i v hv;cases e;let⟨w,e1,dw⟩:=atZ t hv;exact .inl ⟨q,vs,_,w,rfl,h2.int,hq,e1,k w H (aw.refl H) dw⟩
  .cases e
 .unfold Z.guard at e;split at e
  .rename_i cs i hl;split at e
   .rename_i c hc;cases e;refine .inr<|.inr ⟨_,_,c,h1.str,h2.int,?_,?_,?_⟩
    .show cs.toArray.size<=sizeLine;rw[A25];simpa using hl
    .exact hc
    .exact k _ H (aw.refl H)<|e_
   .cases e
  .cases e
 .cases e⟩
theorem _root_.Lake.ZQ.wH(ha:ZQ.QW X a fa)(hb:ZQ.QW X b fb)(hs:r8 b:=by intro _ _;rfl):ZQ.QE X (.Subscript a b pos) (Z.eB Z.aZ fa fb):=⟨by let⟨_,h,o⟩:=Qz;exact PE.imp (IQ h ha.p hb.p hs)<|two o⟩
theorem _root_.Lake.ZQ.Y3:ZQ.QP X Ch Z.Qy:=⟨PO.imp Na <|by rintro σ H Q ⟨ρ,o,r,e,k⟩;cases e;exact k H<|aw.refl H⟩
theorem _root_.Lake.ZQ.KW(h:ZQ.QW X e f):ZQ.QP X (AC e) (Z.rk f):=⟨PO.imp (M_ h.p) <|by
 rintro σ H Q ⟨ρ,o,r,e,k⟩;let⟨x,ea,e⟩:=al e;refine⟨ρ,x,r,ea,λ v H1 s1 d1=>?_⟩;split at e
 .cases e;exact⟨_,d1.int,k H1 s1⟩
 .cases e⟩
theorem pP(n d:Nat)(o:ε Int):Z.c9 n d o=HT.c9 n d o:=by cases o<;>rfl
theorem CO{K:Db}(t:aq K H ds vs)(lo hi:ε Int):aq K H (Z.cut ds lo hi) (vn vs lo hi):=by unfold Z.cut vn;rw[pP,pP,t.length];exact(t.drop _).take _
theorem GZ{lo hi:ε Int}(h1:HT.c9 xs.length 0 lo=0)(h2:HT.c9 xs.length xs.length hi=xs.length):Z.cut xs lo hi=xs:=by unfold Z.cut;rw[pP,pP,h1,h2];simp
def aaA(K:Db):V->ε Int->ε Int->Hp->VK->Prop:=λ x lo hi H Q=>∃a xs,x=.ref a/\mi K H a xs/\(vn xs lo hi=xs->Q (.ref a) H)/\∀p,H p=Ch->Q (.ref p) (upd H p<|.tup<|vn xs lo hi)
theorem mv{lo hi:ε Int}(ht:IsTup s.heap t items)(hs:s.heap.IsSliceOf sl vl vu .none)(pl:IsPart vl lo)(pu:IsPart vu hi)
 (hw:HT.c9 items.size 0 lo=0/\HT.c9 items.size items.size hi=items.size)
 (h:Q (.ref t) s):Ev (model prog w) A (getItem (.ref t)<|.ref sl) Q E s:=by
 let⟨os,T4,Ez,Yv⟩:=id hs;have hTs:s.TypeIs (.ref sl) "slice":=⟨os,T4,Ez⟩
 unfold getItem
 try with_reducible refine A55 ?_
 first|refine T0<|P3 ?_|skip
 refine T0<|wpAny_sequenceKey ht.typeIs ∅ ?_;refine T0 (B04 (name:=EQ "__getitem__") ht.typeIs B05
 <|B06 B05 ht.typeIs entry_tuple_getitem ?_<|args_tuple_getitem _ _)
 show Ev _ _ (Wp (.ref t)>>=_) _ _ s;refine T0<|tupleItemsOf_ ht ?_;refine T0<|wpAny_typeOf hTs ?_;rw[W1 ∅];refine T0<|HT.jy hs pl pu ?_;have abf:(((HT.c9 items.size 0 lo):Int)==0&&(1:Int)==1&&(HT.c9 items.size items.size hi-HT.c9 items.size 0 lo)==items.size)=Da:=by rw[hw.1,hw.2];simp
 show Ev _ _ (if(((HT.c9 items.size 0 lo:Nat):Int)==0&&(1:Int)==1&&(HT.c9 items.size items.size hi-HT.c9 items.size 0 lo)==items.size)=Da then _ else _) _ _ s;rw[W1 abf];refine T0 ?_;unfold Builtin.Tuple.tupleIsExact;refine T0<|wpAny_typeOf ht.typeIs ?_;refine P3 ?_;rw[W1<|A91 _];refine T0<|B28 ?_;exact P3 ⟨.ref t,rfl,P3 h⟩
theorem MR:P_ X (aaA X.K):=by
 intro χ s σ H x v vl vu lo hi sl Q I rx hs pl pu h;let⟨a,xs,rfl,hx,q1,q2⟩:=h;by_cases hw:HT.c9 xs.length 0 lo=0/\HT.c9 xs.length xs.length hi=xs.length
 .cases rx;let⟨aW,r,ht,hz⟩:=I.tuple hx;have ψ:aW.toArray.size=xs.length:=by rw[A10];exact r.length.symm
  refine⟨"tuple",_,B05.lookup,ht.typeIs,?_⟩;refine mv ht hs pl pu (by rw[ψ];exact hw) ⟨.ref a,H,I,rfl,q1 ?_⟩;have:=GZ hw.1 hw.2;unfold Z.cut at this;rw[pP,pP]at this;exact this
 .exact RY χ s σ H _ v vl vu lo hi sl Q I rx hs pl pu ⟨a,xs,rfl,hx,hw,q2⟩
def aaC:V->ε Int->ε Int->Hp->VK->Prop:=λ x lo hi H Q=>∃z,x=.str z/\z.length<=sizeLine/\Q (.str<|Txt.slice z lo hi) H
theorem IW(h:IsPart v o):∃q,v=partValue q/\q.map (·.1)=o:=by
 cases h with
 |none=>exact⟨Ch,rfl,rfl⟩
 |int i t=>exact⟨AC (i,t),rfl,rfl⟩
theorem MU:P_ X aaC:=by intro χ s σ H x v vl vu lo hi sl Q I rx hs pl pu h;let⟨z,rfl,hz,q⟩:=h;let⟨t,rfl⟩:=rx;let⟨ql,rfl,rfl⟩:=IW pl;let⟨qu,rfl,rfl⟩:=IW pu;refine⟨"str",_,F.slot_str_getitem.lookup,B22 _ _ _,?_⟩;refine wpAny_getItem_str_slice (st:=Ch) hs rfl ?_;refine post_val_or_str ⟨A11 (Txt.slice_le z _ _) hz,λ t' k=>⟨.str _,H,I.tok _,⟨t',rfl⟩,q⟩⟩
theorem _root_.Lake.ZQ.K'{lo hi:ε θ}(ha:ZQ.QW X a fa)(hl:ZQ.QP X lo gl)(hh:ZQ.QP X hi gh):ZQ.QE X (.Subscript a (.Slice lo hi Ch p2) pos) (Z.KI fa gl gh):=
 ⟨have hl:=hl.p;PE.imp (zL (MU.or MR) ha.p hl hh.p) <|by
  rintro σ H Q ⟨ρ,d,r,e,k⟩;let⟨x,ea,e⟩:=al e;let⟨l,el,e⟩:=al e;let⟨h,eh,e⟩:=al e;refine⟨ρ,x,r,ea,λ v H1 s1 d1=>⟨ρ,l,r.up s1,el,λ H2 s2=>⟨ρ,h,(r.up s1).up s2,eh,λ H3 s3=>?_⟩⟩⟩;have LV:=(s1.trans s2).trans s3;have d3:=(d1.up s2).up s3;unfold Z.W' at e;split at e
  .unfold Z.guard at e;split at e
   .rename_i cs _ _ hl;cases e;refine .inl ⟨_,d3.str,?_,?_⟩
    .show cs.toArray.size<=sizeLine;rw[A25];simpa using hl
    .rw[Wt];exact k _ H3 LV e_
   .cases e
  .cases e;let⟨q,vs,rfl,hq,t⟩:=d3.tup;refine .inr ⟨q,vs,rfl,hq,λ hw=>?_,λ z hz=>?_⟩
   .have:=CO t l h;rw[hw]at this;exact k _ H3 LV<|eD hq this
   .have s4:aw H3 (upd H3 z<|.tup<|vn vs l h):=bT hz;exact k _ _ (LV.trans s4)<|eD (.inl<|.inl aA)<|(CO t l h).up s4
  .cases e⟩
theorem _root_.Lake.ZQ.AR{lo hi:ε θ}(ha:ZQ.QW X a fa)(hl:ZQ.QP X lo gl)(hh:ZQ.QP X hi gh):ZQ.QL X (.Subscript a (.Slice lo hi Ch p2) pos) (Z.Oa fa gl gh):=
 ⟨PE.imp (zL MV ha.p hl.p hh.p) <|by
  rintro σ H Q ⟨ρ,d,r,e,k⟩;let⟨x,ea,e⟩:=al e;let⟨l,el,e⟩:=al e;let⟨h,eh,e⟩:=al e;refine⟨ρ,x,r,ea,λ v H1 s1 d1=>⟨ρ,l,r.up s1,el,λ H2 s2=>⟨ρ,h,(r.up s1).up s2,eh,λ H3 s3=>?_⟩⟩⟩;have LV:=(s1.trans s2).trans s3;have d3:=(d1.up s2).up s3;split at e
  .cases e;let⟨q,vs,rfl,hq,t⟩:=d3.lst;refine⟨q,vs,rfl,hq,λ z hz=>?_⟩;have s4:aw H3 (upd H3 z<|.lst<|vn vs l h):=bT hz;exact k z _ _ (LV.trans s4) (LV.free hz) aA<|(CO t l h).up s4
  .cases e⟩
def WT(K:Db):R2:=λ x y H Q=>∃l b xs zs,x=.ref l/\y=.ref b/\i4 K H l xs/\i4 K H b zs/\xs.length+zs.length<=sizeLine/\∀p,H p=Ch->Q (.ref p) (upd H p<|.lst<|xs++zs)
theorem Nr:jk X (binaryOp .Add) (WT X.K):=by
 intro χ s σ H x y v u Q I rx ry h;let⟨l,b,xs,zs,rfl,rfl,hH,hB,hz,q⟩:=h;cases rx;cases ry;let⟨aW,r,pl,_⟩:=I.list hH;let⟨gV,r2,pl2,_⟩:=I.list hB;have hl:=r.length;have OJ:=r2.length;let⟨⟨cls,dd,data,sl⟩,ho,hc,n,hd⟩:=id pl.isList;let⟨⟨Y',VV,data2,Vr⟩,Hw,yc,n2,hd2⟩:=id pl2.isList;simp only at hc hd yc hd2;subst hc hd yc hd2;have ea:aW.toArray++gV.toArray=(aW++gV).toArray:=by simp
 refine B49 ⟨_,ho,rfl⟩ ⟨_,Hw,rfl⟩ noFill_list_add seq_list_add PySem.F.slot_list_add PySem.F.entry_list_add (PySem.F.args_list_add_2 _ _) (list_addW l b _ _ n n2 dd VV sl Vr (by simp only[A10];lia)) ⟨ho,Hw,?_⟩;rw[ea];exact⟨.ref _,_,I.XI (r.append r2) (by rw[A28];lia),rfl,q _ I.fresh⟩
theorem _root_.Lake.ZQ.CJ(ha:ZQ.QW X a fa)(hb:ZQ.QW X b fb):ZQ.QL X (.BinOp a .Add b pos) (Z.Gb fa fb):=⟨PE.imp (DQ Nr ha.p hb.p) <|by
 rintro σ H Q ⟨ρ,d,r,e,k⟩;let⟨x,ea,e⟩:=al e;let⟨y,eb,e⟩:=al e;refine⟨ρ,x,r,ea,λ v H1 s1 d1=>⟨ρ,y,r.up s1,eb,λ u H2 s2 d2=>?_⟩⟩;have WC:=s1.trans s2;split at e
 .unfold Z.guard at e;split at e
  .rename_i xs ys hl;cases e;obtain⟨q,vs,rfl,hq,t⟩:=(d1.up s2).lst;let⟨q',vs',rfl,fE,t'⟩:=d2.lst;refine⟨q,q',vs,vs',rfl,rfl,hq,fE,by rw[t.length,t'.length,A25];exact hl,λ z hz=>?_⟩;have s3:aw H2 (upd H2 z<|.lst<|vs++vs'):=bT hz;exact k z _ _ (WC.trans s3) (WC.free hz) aA<|(t.append t').up s3
  .cases e
 .cases e⟩
def yI(K:Db)(m:γ Z.D->Z.Res Z.D):Sp:=λ vs H Q _=>∃ds d,aq K H ds vs/\m ds=.ok d/\∀v H',aw H H'->Den K H' d v->Q v H'
theorem Px(F:d9 X.prog X.w X.K X.mg X.base il k g fd ps (yI X.K m))(hr:bh k X.A)(hg:Gl X x)(hm:X.mg x=AC (.ref g))(hk:Fa X.K (.ref g)=Da)(hb:Binds X.K fd ps [])
 (ha:DA X (e::es) ar) (gi:Nd x:=by kernel_rfl) (he:Se e es X.env:=by rfl) (d!:Pn pos es X.env:=by rfl) :
 DE X (.Call (.Name x p1) (e::es) [] pos) (Z.aj m ar):=
 PE.imp (rM F hr hg hm hk hb .nil qD ha gi he d!) <|by rintro σ H Q ⟨ρ,d,r,e,k⟩;let⟨ds,ea,e⟩:=al e;refine⟨ρ,ds,r,ea,λ vs H1 s1 d1=>?_⟩;show yI X.K m _ H1 Q E0;rw[A48];exact⟨ds,d,d1,e,λ v H' s2 dv=>k v H' (s1.trans s2) dv⟩
structure E8(K:Db)(J:It)(S:Hp->Prop)(ds:List Z.D):Prop where
 go:∀(i:Nat)(d:Z.D)(H1:Hp),S H1->ds[i]?=AC d->J.go i H1
 Be:∀(i:Nat)(d:Z.D)(H1 H2:Hp)(x:V),S H1->ds[i]?=AC d->J.Be i H1 x H2->aw H1 H2/\Den K H2 d x
 stop:∀(H1:Hp),S H1->J.stop ds.length H1
def tZi(K:Db)(f:Z.LF):TI:=λ σ H R=>∃ρ ds,RE K H σ ρ/\f ρ=.ok ds/\∀J H',aw H H'->E8 K J (aw H') ds->R J H'
def tZj(K:Db)(f:Z.LF):TI:=λ σ H R=>∃ρ ds,RE K H σ ρ/\f ρ=.ok ds/\∀J H',aw H H'->E8 K J (gv H') ds->R J H'
abbrev DI(X:Cx)(tg e:θ)(f:Z.LF):Prop:=PI X tg e<|tZi X.K f
structure _root_.Lake.ZQ.QI(X:Cx)(tg e:Expr)(f:Z.LF):Prop where p:DI X tg e f
abbrev DJ(X:Cx)(tg e:θ)(f:Z.LF):Prop:=PI X tg e<|tZj X.K f
structure _root_.Lake.ZQ.QJ(X:Cx)(tg e:Expr)(f:Z.LF):Prop where p:DJ X tg e f
section
variable{X:Cx}{tg e a b:θ}{es:γ θ}{pos p:Pos}{f fa fb:Z.EF}
theorem PI.imp(h:PI X tg e t)(k:∀σ H R,t' σ H R->t σ H R):PI X tg e t':=λ χ s σ H R I w=>h χ s σ H R I<|k σ H R w
theorem E8.imp{K:Db}(h:E8 K J S ds)(k:∀H,S' H->S H):E8 K J S' ds:=
 ⟨λ i d H1 s=>h.go i d H1<|k _ s,λ i d H1 H2 x s=>h.Be i d H1 H2 x<|k _ s,λ H1 s=>h.stop H1<|k _ s⟩
theorem _root_.Lake.ZQ.Y6(h:ZQ.QJ X tg e g):ZQ.QI X tg e g:=⟨PI.imp h.p <|by rintro σ H R ⟨ρ,ds,r,e,k⟩;exact⟨ρ,ds,r,e,λ J H' s z=>k J H' s<|z.imp λ _ q=>jR q⟩⟩
theorem Ot{K:Db}(h:mi K H q vs)(t:aq K H ds vs):E8 K (Itt K q) (gv H) ds where
 go:=λ i d H1 s hi=>by let⟨v,h1,_⟩:=t.get hi;exact⟨vs,v,eP s h,h1⟩
 Be:=λ i d H1 H2 x s hi y=>by let⟨e,y⟩:=y;let⟨v,h1,h2⟩:=t.get hi;have:=y vs<|eP s h;rw[h1]at this;cases this;subst e;exact⟨aw.refl _,h2.ups s⟩
 stop:=λ H1 s=>⟨vs,eP s h,by rw[t.length];exact M2 _⟩
theorem Ov{K:Db}(h:∀H1,S H1->i4 K H1 q vs)(t:∀H1,S H1->aq K H1 ds vs)(t0:aq K H ds vs):E8 K (Itl K q) S ds where
 go:=λ i d H1 s hi=>by let⟨v,h1,_⟩:=t0.get hi;exact⟨vs,v,h H1 s,h1⟩
 Be:=λ i d H1 H2 x s hi y=>by let⟨e,y⟩:=y;obtain⟨v,h1,h2⟩:=(t H1 s).get hi;have:=y vs<|h H1 s;rw[h1]at this;cases this;subst e;exact⟨aw.refl _,h2⟩
 stop:=λ H1 s=>⟨vs,h H1 s,by rw[t0.length];exact M2 _⟩
theorem ints_get(lo:Int)(n i:Nat)(d:Z.D)(h:(Z.zints lo n)[i]?=AC d):i<n/\d=.int (lo+i):=by
 unfold Z.zints at h;rw[A06]at h;cases q:(FB n)[i]? with
 |none=>rw[q]at h;cases h
 |some j=>rw[q]at h;cases h;let⟨h1,h2⟩:=A03.mp q;rw[B27]at h1;rw[B93]at h2;subst h2;exact⟨h1,rfl⟩
theorem Es{K:Db}(lo:Int)(n:Nat):E8 K (Rt lo n) S (Z.zints lo n) where
 go:=λ i d H1 s hi=>(ints_get lo n i d hi).1
 Be:=λ i d H1 H2 x s hi y=>by let⟨e,y⟩:=y;let⟨_,rfl⟩:=ints_get lo n i d hi;subst e;rw[y];exact⟨aw.refl _,bZ⟩
 stop:=λ H1 s=>by unfold Z.zints;rw[A04,B27];exact M2 _
theorem Fv{K:Db}(it:δ)(lo:Int)(n:Nat):Turn P w K tg (Rt lo n) [it] it (λ i h=>IsLongIter h it (lo+(i)*1) ((n)-(i)) 1) where
 mem:=by simp
 obj:=λ i h st b hb=>by
  have e:b=it:=by simpa using hb
  subst e;exact⟨_,st,λ v z=>by have z':=z;cases z'⟩
 keep:=λ i h h' st k=>k it ∅ _ st
 item:=by intro X hP hw hK hc i χ s σ H E I hf st hg;subst hP hw hK;let⟨f0,f1,f2,f3,f4,f5⟩:=hf it ∅;have W:=Walks.longrange (prog:=X.prog) (w:=X.w) (I.ok.hd hc) it lo 1 n;refine W.item i s _ _ hg st λ v h' tk hv yH kk=>?_;let⟨t,rfl⟩:=hv;have I1:Inv X χ σ H {s with heap:=h',toks:=tk}:=I.turned (λ b o hb e=>kk b o (by simpa using hb) e) f0 f1 f3 f4 f5;refine⟨_,rfl,As yH rfl rfl ∅ ⟨.int _,H,I1,⟨t,?_⟩,⟨rfl,rfl⟩,yH,λ b hb=>(hf b hb).1⟩⟩;rw[B48]
 done:=by intro X hP hw hK hc i χ s σ H E I hf st hg;subst hP hw hK;let⟨f0,f1,f2,f3,f4,f5⟩:=hf it ∅;exact wpAny_pyNext_long_end (I.ok.hd hc) st (by have:n<=i:=hg;lia) λ h' eb=>⟨rfl,I.turned (λ b o hb e=>eb b o hb e) f0 f1 f3 f4 f5⟩
 self:=λ _ _ _ _ _ st h=>wpAny_pyIter_longiter st h
theorem range_any{lo hi:Int}{t u v:Tok}{tk:Nat}(I:Inv X χ σ H s)
 (q:R (Rt lo (hi-lo).toNat) H):Ev (model X.prog X.w) X.A (pyIter<|.ref s.heap.objs.size) (_W X χ σ tg R) E {s with heap:=s.heap.push {cls:=.type "range",data:=.fields #[.int lo t,.int hi u,.int 1 v]},toks:=tk}:=by
 have I1:Inv X χ σ H {s with heap:=s.heap.push {cls:=.type "range",data:=.fields #[.int lo t,.int hi u,.int 1 v]},toks:=tk}:=I.kept λ b o e=>f8 _ e;have e1:lo+((0:Nat):Int)*1=lo:=by simp
 have e2:(((hi-lo).toNat:Nat):Int)-((0:Nat):Int)=Builtin.Range.rangeSize lo hi 1:=by rw[rangeSize_one];split<;>lia
 cases hs:Builtin.Range.small lo hi 1 with
 |true=>
  refine wpAny_pyIter_range (IsRange.new ..) hs ?_;refine⟨(s.heap.push {cls:=.type "range",data:=.fields #[.int lo t,.int hi u,.int 1 v]}).objs.size,[(s.heap.push {cls:=.type "range",data:=.fields #[.int lo t,.int hi u,.int 1 v]}).objs.size],_,_,H,rfl,
   I1.kept (t':=tk) λ b o e=>f8 _ e,BA _ lo (hi-lo).toNat,?_,λ b hb=>?_,q⟩
  .show IsRangeIter _ _ (lo+((0:Nat):Int)*1) ((((hi-lo).toNat:Nat):Int)-((0:Nat):Int)) 1;rw[e1,e2];exact A17 _ rfl
  .have e:b=(s.heap.push {cls:=.type "range",data:=.fields #[.int lo t,.int hi u,.int 1 v]}).objs.size:=by simpa using hb
   subst e;exact I1.u? (M2 _)<|I1.bG.fresh<|M2 _
 |false=>
  refine wpAny_pyIter_longrange (IsRange.new ..) hs ?_;refine⟨(s.heap.push {cls:=.type "range",data:=.fields #[.int lo t,.int hi u,.int 1 v]}).objs.size,[(s.heap.push {cls:=.type "range",data:=.fields #[.int lo t,.int hi u,.int 1 v]}).objs.size],_,_,H,rfl,
   I1.kept (t':=tk) λ b o e=>f8 _ e,Fv _ lo (hi-lo).toNat,?_,λ b hb=>?_,q⟩
  .show IsLongIter _ _ (lo+((0:Nat):Int)*1) ((((hi-lo).toNat:Nat):Int)-((0:Nat):Int)) 1;rw[e1,e2];exact A17 _ rfl
  .have e:b=(s.heap.push {cls:=.type "range",data:=.fields #[.int lo t,.int hi u,.int 1 v]}).objs.size:=by simpa using hb
   subst e;exact I1.u? (M2 _)<|I1.bG.fresh<|M2 _
def Zh(ta:TA):TI:=λ σ H R=>ta σ H λ vs H1=>∃j:Int,vs=[.int j]/\R (Rt 0 j.toNat) H1
def Zg(ta:TA):TI:=λ σ H R=>ta σ H λ vs H1=>∃i j:Int,vs=[.int i,.int j]/\R (Rt i (j-i).toNat) H1
theorem Nc(hg:Gl X "range")(hm:X.mg "range"=Ch)(ha:PA X [a] ta)(hs:starEach [a] X.env=[(AT,eval a X.env)]:=by rfl):PI X tg (.Call (.Name "range" p) [a] [] pos) (Zh ta):=by
 intro χ s σ H R I h;refine Call_<|j0 I hg hm boot_range<|B21 (b! (ha pos χ s σ H _ I h) ?_) hs rfl;rintro us s1 ⟨vs,H1,I1,r1,q1⟩;let⟨j,e,q⟩:=q1;subst e;cases r1 with
 |cons r rr=>cases rr;let⟨t,rfl⟩:=r;exact call_range_1<|range_any I1 (by simpa using q)
theorem Nb(hg:Gl X "range")(hm:X.mg "range"=Ch)(ha:PA X [a,b] ta)(hs:starEach [a,b] X.env=[(AT,eval a X.env),(AT,eval b X.env)]:=by rfl)(Al:starEach [b] X.env=[(AT,eval b X.env)]:=by rfl):
 PI X tg (.Call (.Name "range" p) [a,b] [] pos) (Zg ta):=by
 intro χ s σ H R I h;refine Call_<|j0 I hg hm boot_range<|B21 (b! (ha pos χ s σ H _ I h) ?_) (by rw[hs,Al]) (by rw[Al];rfl);rintro us s1 ⟨vs,H1,I1,r1,q1⟩;let⟨i,j,e,q⟩:=q1;subst e;cases r1 with
 |cons r rr=>
  cases rr with
  |cons r' rr=>cases rr;let⟨t,rfl⟩:=r;let⟨t',rfl⟩:=r';exact call_range_2<|range_any I1 q
theorem _root_.Lake.ZQ.AU(hm:X.mg "range"=Ch)(ha:ZQ.QE X a fa)(hs:starEach [a] X.env=[(AT,eval a X.env)]:=by rfl)(mL:Se a [] X.env:=by rfl)(hg:Gl X "range":=by rfl):ZQ.QJ X tg (.Call (.Name "range" p) [a] [] pos) (Z.dR fa):=
 ⟨PI.imp (Nc hg hm (a6 ha.p bV mL) hs) <|by
  rintro σ H R ⟨ρ,ds,r,e,k⟩;let⟨x,ea,e⟩:=al e;refine⟨ρ,x,r,ea,λ v H1 s1 d1=>?_⟩;split at e
  .rename_i j;cases e;simp only[Den]at d1;exact⟨j,by rw[d1],k _ H1 s1<|Es 0 _⟩
  .cases e⟩
theorem _root_.Lake.ZQ.K3(hm:X.mg "range"=Ch)(ha:ZQ.QE X a fa)(hb:ZQ.QE X b fb)(hs:starEach [a,b] X.env=[(AT,eval a X.env),(AT,eval b X.env)]:=by rfl)(Al:starEach [b] X.env=[(AT,eval b X.env)]:=by rfl)(h1:Se a [b] X.env:=by rfl)(h2:Se b [] X.env:=by rfl)(hg:Gl X "range":=by rfl):ZQ.QJ X tg (.Call (.Name "range" p) [a,b] [] pos) (Z.Ak fa fb):=
 ⟨PI.imp (Nb hg hm (a6 ha.p (a6 hb.p bV h2) h1) hs Al) <|by
  rintro σ H R ⟨ρ,ds,r,e,k⟩;let⟨x,ea,e⟩:=al e;let⟨y,eb,e⟩:=al e;obtain⟨i,j,rfl,rfl,rfl⟩:∃i j,x=.int i/\y=.int j/\ds=Z.zints i (j-i).toNat:=by
   split at e
   .cases e;exact⟨_,_,rfl,rfl,rfl⟩
   .cases e
  refine⟨ρ,_,r,ea,λ v H1 s1 d1=>⟨ρ,_,r.up s1,eb,λ u H2 s2 d2=>?_⟩⟩;simp only[Den]at d1 d2;exact⟨i,j,by rw[d1,d2],k _ H2 (s1.trans s2)<|Es i (j-i).toNat⟩⟩
def Its(z:Str):It:=⟨λ i _=>i<z.cps.size,λ i H x H'=>H'=H/\∃c,z.cps[i]?=AC c/\x=.str ⟨#[c]⟩,λ i _=>i=z.cps.size⟩
theorem HU{K:Db}(z:Str)(it:δ)(n:String)(hn:["enumerate","zip","dict_itemiterator","dict_reverseitemiterator","odict_iterator","itertools.zip_longest","itertools.pairwise"].contains n=AT)(t:Tok)
 (W:∀A,A.handled=Ch->Walks P w A it [it] [it] z.cps.size (SignAt z) (λ i h=>h.IsStrIter it n z t i)) (self:∀A i s Q E,s.heap.IsStrIter it n z t i->Q (.ref it) s->Ev (model P w) A (pyIter<|.ref it) Q E s) :
 Turn P w K tg (Its z) [it] it (λ i h=>h.IsStrIter it n z t i) where
 mem:=by simp
 obj:=λ i h st b hb=>by
  have e:b=it:=by simpa using hb
  subst e;let⟨o,e,c,d⟩:=st;exact⟨o,e,λ v z=>by rw[d]at z;cases z⟩
 keep:=λ i h h' st k=>by let⟨o,e,c,d⟩:=st;exact⟨o,k it ∅ o e,c,d⟩
 item:=by intro X hP hw hK hc i χ s σ H E I hf st hg;subst hP hw hK;let⟨f0,f1,f2,f3,f4,f5⟩:=hf it ∅;refine(W X.A<|I.ok.hd hc).item i s _ _ hg st λ v h' tk hv yH kk=>?_;let⟨c,u,_B,rfl⟩:=hv;have I1:Inv X χ σ H {s with heap:=h',toks:=tk}:=I.turned (λ b o hb e=>kk b o (by simpa using hb) e) f0 f1 f3 f4 f5;let⟨o,e,c',d⟩:=id yH;exact⟨_,rfl,As e c' d hn ⟨.str ⟨#[c]⟩,H,I1,⟨u,rfl⟩,⟨rfl,c,_B,rfl⟩,yH,λ b hb=>(hf b hb).1⟩⟩
 done:=by intro X hP hw hK hc i χ s σ H E I hf st hg;subst hP hw hK;let⟨f0,f1,f2,f3,f4,f5⟩:=hf it ∅;have hg':=hg;subst hg';exact(W X.A<|I.ok.hd hc).done s _ _ st λ h' tk kk=>⟨rfl,I.turned (λ b o hb e=>kk b o (by simpa using hb) e) f0 f1 f3 f4 f5⟩
 self:=self
theorem Ou{K:Db}(cs:γ Nat):E8 K (Its ⟨cs.toArray⟩) S (cs.map λ c=>.str [c]) where
 go:=λ i d H1 s hi=>by show i<cs.toArray.size;let⟨h1,_⟩:=A03.mp hi;simpa using h1
 Be:=λ i d H1 H2 x s hi y=>by
  let⟨e,c,hc,rfl⟩:=y;have qQ:cs[i]?=AC c:=by simpa using hc
  rw[A06,qQ]at hi;cases hi;subst e;exact⟨aw.refl _,e_ ⟩
 stop:=λ H1 s=>by show(cs.map λ c=>Z.D.str [c]).length=cs.toArray.size;simp
theorem Il(I:Inv X χ σ H s)(rv:RelV v u)(hd:bp X.K H d v)(hi:Z.jI d=.ok ds)
 (hS:∀H1,S H1->gv H H1) (hL:∀es q vs,d=.lst es->v=.ref q->i4 X.K H q vs->∀H1,S H1->i4 X.K H1 q vs)
 (k:∀J,E8 X.K J S ds->R J H):Ev (model X.prog X.w) X.A (pyIter u) (_W X χ σ tg R) E s:=by
 unfold Z.jI at hi;split at hi
 .cases hi;let⟨q,vs,rfl,hq,t⟩:=hd.tup;cases rv;let⟨aW,r',pl,hz⟩:=I.tuple hq;refine B09 (pl) ?_;refine⟨s.heap.objs.size,[s.heap.objs.size],_,_,H,rfl,I.kept λ b o e=>f8 _ e,Bz q _,⟨_,A17 _ rfl,rfl,rfl⟩,λ b hb=>?_,k _<|(Ot hq t).imp hS⟩;have e:b=s.heap.objs.size:=by simpa using hb
  subst e;exact I.u? (M2 _)<|I.bG.fresh<|M2 _
 .cases hi;let⟨q,vs,rfl,hq,t⟩:=hd.lst;cases rv;let⟨aW,r',pl,hz⟩:=I.list hq;refine B10 pl.isList ?_;refine⟨s.heap.objs.size,[s.heap.objs.size],_,_,H,rfl,I.kept λ b o e=>f8 _ e,Fw q _,⟨_,A17 _ rfl,rfl,rfl⟩,λ b hb=>?_,
   k _<|Ov (λ H1 s1=>hL _ q vs rfl rfl hq H1 s1) (λ H1 s1=>t.ups<|hS H1 s1) t⟩
  have e:b=s.heap.objs.size:=by simpa using hb
  subst e;exact I.u? (M2 _)<|I.bG.fresh<|M2 _
 .cases hi;rename_i cs;rw[hd.str]at rv;let⟨t,rfl⟩:=rv;have fin:∀n (hn:["enumerate","zip","dict_itemiterator","dict_reverseitemiterator","odict_iterator","itertools.zip_longest","itertools.pairwise"].contains n=AT)
   (W:∀A,A.handled=Ch->Walks X.prog X.w A s.heap.objs.size [s.heap.objs.size] [s.heap.objs.size] (⟨cs.toArray⟩:Str).cps.size (SignAt ⟨cs.toArray⟩) (λ i h=>h.IsStrIter s.heap.objs.size n ⟨cs.toArray⟩ t i))
   (self:∀A i s' Q E,s'.heap.IsStrIter s.heap.objs.size n ⟨cs.toArray⟩ t i->Q (.ref s.heap.objs.size) s'->Ev (model X.prog X.w) A (pyIter<|.ref s.heap.objs.size) Q E s'),
   _W X χ σ tg R (.ref s.heap.objs.size) {s with heap:=s.heap.push {cls:=.type n,data:=.fields #[.str ⟨cs.toArray⟩ t,.int 0 0]}}:=by
   intro n hn W self;refine⟨s.heap.objs.size,[s.heap.objs.size],_,_,H,rfl,I.kept λ b o e=>f8 _ e,HU ⟨cs.toArray⟩ _ n hn t W self,⟨_,A17 _ rfl,rfl,rfl⟩,λ b hb=>?_,k _<|Ou cs⟩;have e:b=s.heap.objs.size:=by simpa using hb
   subst e;exact I.u? (M2 _)<|I.bG.fresh<|M2 _
  cases ha:(⟨cs.toArray⟩:Str).cps.all (· < 128)
  .exact wpAny_pyIter_wide ha<|fin "str_iterator" ∅ (λ A' hA=>Walks.strWide hA _ _ t) λ _ _ _ _ _ st hQ=>wpAny_pyIter_striter_wide st hQ
  .exact wpAny_pyIter_ascii ha<|fin "str_ascii_iterator" ∅ (λ A' hA=>Walks.strAscii hA _ _ t) λ _ _ _ _ _ st hQ=>wpAny_pyIter_striter_ascii st hQ
 .cases hi
theorem _root_.Lake.ZQ.K5(ha:ZQ.QW X a fa):ZQ.QI X tg a (Z.cZ fa):=⟨by intro χ s σ H R I w;let⟨ρ,ds,r,e,k⟩:=w;let⟨d,ea,e⟩:=al e;refine b! (ha.p χ s σ H (λ v H1=>aw H H1/\bp X.K H1 d v) I ⟨ρ,d,r,ea,λ v H1 s1 d1=>⟨s1,d1⟩⟩) ?_;rintro u s1 ⟨v,H1,I1,rv,sm,hd⟩;exact Il I1 rv hd e (λ _ q=>jR q) (λ _ _ _ _ _ hq H2 s2=>s2.seq hq) λ J z=>k J H1 sm z⟩
theorem _root_.Lake.ZQ.K2(ha:ZQ.QE X a fa):ZQ.QJ X tg a (Z.cZ fa):=⟨by intro χ s σ H R I w;let⟨ρ,ds,r,e,k⟩:=w;let⟨d,ea,e⟩:=al e;refine b! (ha.p χ s σ H (λ v H1=>aw H H1/\Den X.K H1 d v) I ⟨ρ,d,r,ea,λ v H1 s1 d1=>⟨s1,d1⟩⟩) ?_;rintro u s1 ⟨v,H1,I1,rv,sm,hd⟩;refine Il I1 rv (.inl hd) e (λ _ q=>q) (λ es q vs e1 e2 hq H2 s2=>?_) λ J z=>k J H1 sm z;subst e1;simp only[Den]at hd;let⟨q',vs',e3,hz,_⟩:=hd;rw[e2]at e3;cases e3;rw[I1.oC hq hz.sq];exact(hz.mono s2).sq⟩
def jP(H0:Hp)(σ:St)(ρ:Z.Env):Prop:=(∀(i j:Nat)(ks ls:Z.DK)(a:δ),ρ[i]?=AC (AC<|.dc ks)->ρ[j]?=AC (AC<|.dc ls)->σ[i]?=AC (AC<|.ref a)->σ[j]?=AC (AC<|.ref a)->i=j) /\
 ∀(i:Nat)(ks:Z.DK)(q:δ),ρ[i]?=AC (AC<|.dc ks)->σ[i]?=AC (AC<|.ref q)->H0 q=Ch
theorem jP.non(h:∀(i:Nat)(ks:Z.DK),ρ[i]?≠AC (AC<|.dc ks)):jP H0 σ ρ:=⟨λ i _ ks _ _ e=>absurd e<|h i ks,λ i ks _ e=>absurd e<|h i ks⟩
structure RS(K:Db)(H0 H:Hp)(σ:St)(ρ:Z.Env):Prop where
 same:aw H0 H
 re:RE K H σ ρ
 fresh:∀(i:Nat)(xs:List Z.D)(q:Addr),ρ[i]?=AC (AC<|.own xs)->σ[i]?=AC (AC<|.ref q)->H0 q=Ch
 ph:∀(i:Nat)(d:Z.D),ρ[i]?=AC (AC<|.bor d)->∃v,σ[i]?=AC (AC v)/\E9 K H0 d v
 yO:jP H0 σ ρ
def _J(K:Db)(H0 H:Hp)(D:Ends):Z.Fl->Prop
|.nx ρ'=>∀σ' H',gv H H'->RS K H0 H' σ' ρ'->D.nx σ' H'
|.rt d=>∀v H',aw H0 H'->Den K H' d v->D.rt v H'
|.bk ρ'=>∀σ' H',gv H H'->RS K H0 H' σ' ρ'->D.bk σ' H'
|.ct ρ'=>∀σ' H',gv H H'->RS K H0 H' σ' ρ'->D.ct σ' H'
def tS(K:Db)(H0:Hp)(g:Z.SF):TS:=λ D σ H=>∃ρ fl,RS K H0 H σ ρ/\g ρ=.ok fl/\_J K H0 H D fl
abbrev DS(X:Cx)(H0:Hp)(st:ι)(g:Z.SF):Prop:=PS X st<|tS X.K H0 g
structure _root_.Lake.ZQ.QS(X:Cx)(H0:Hp)(st:Stmt)(g:Z.SF):Prop where p:DS X H0 st g
abbrev Mg(X:Cx)(H0:Hp)(st:γ ι)(g:Z.SF):Prop:=qp X st<|tS X.K H0 g
structure _root_.Lake.ZQ.yP(X:Cx)(H0:Hp)(st:List Stmt)(g:Z.SF):Prop where p:Mg X H0 st g
theorem PS.imp{st:ι}(h:PS X st t)(k:∀D σ H,t' D σ H->t D σ H):PS X st t':=λ χ s σ H D I w=>h χ s σ H D I<|k D σ H w
theorem qp.imp{st:γ ι}(h:qp X st t)(k:∀D σ H,t' D σ H->t D σ H):qp X st t':=λ χ s σ H D I w=>h χ s σ H D I<|k D σ H w
theorem RS.up{K:Db}(h:RS K H0 H σ ρ)(e:aw H H'):RS K H0 H' σ ρ:=⟨h.same.trans e,h.re.up e,h.fresh,h.ph,h.yO⟩
theorem _J.up{K:Db}(h:_J K H0 H D fl)(e:gv H H1):_J K H0 H1 D fl:=by
 cases fl with
 |nx ρ'=>exact λ σ' H' s r=>h σ' H' (e.trans s) r
 |rt d=>exact h
 |bk ρ'=>exact λ σ' H' s r=>h σ' H' (e.trans s) r
 |ct ρ'=>exact λ σ' H' s r=>h σ' H' (e.trans s) r
theorem aC{α:Type}{l:γ _}{x:ε α}{y:α}(h:(l.set i x)[j]?=AC (AC y)):(i=j/\i<l.length/\x=AC y)\/(i≠j/\l[j]?=AC (AC y)):=by
 by_cases rS:i=j
 .subst rS;by_cases hl:i<l.length
  .rw[A41 hl]at h;exact .inl ⟨rfl,hl,A05 h⟩
  .rw[B29 (by simpa using hl)]at h;cases h
 .rw[A33 rS]at h;exact .inr ⟨rS,h⟩
theorem jP.set(h:jP H0 σ ρ)(n:∀ks,l≠.dc ks):jP H0 (σ.set i<|some v) (ρ.set i<|some l):=by
 have get:∀(j:Nat) ks,(ρ.set i _)[j]?=AC _->ρ[j]?=AC _/\(σ.set i<|some v)[j]?=σ[j]?:=λ j ks e=>by
  rcases aC e with⟨_,_,e⟩|⟨hj,e⟩
  .exact absurd (A05 e)<|n ks
  .exact⟨e,A33 hj⟩
 exact⟨λ j k ks ls a e1 e2 e3 e4=>h.1 j k ks ls a (get j ks e1).1 (get k ls e2).1 (by rw[<-(get j ks e1).2];exact e3) (by rw[<-(get k ls e2).2];exact e4),λ j ks q e1 e2=>h.2 j ks q (get j ks e1).1 (by rw[<-(get j ks e1).2];exact e2)⟩
theorem jP.Ww(h:jP H0 σ ρ)(n:∀ks,l≠.dc ks):jP H0 σ (ρ.set i<|some l):=by
 have get:∀(j:Nat) ks,(ρ.set i _)[j]?=AC _->ρ[j]?=AC _:=λ j ks e=>by
  rcases aC e with⟨_,_,e⟩|⟨hj,e⟩
  .exact absurd (A05 e)<|n ks
  .exact e
 exact⟨λ j k ks ls a e1 e2 e3 e4=>h.1 j k ks ls a (get j ks e1) (get k ls e2) e3 e4,λ j ks q e1 e2=>h.2 j ks q (get j ks e1) e2⟩
theorem RS.uT{K:FS}(h:RS K H0 H σ ρ)(hd:Den K H d v):RS K H0 H (σ.set i<|some v) (ρ.set i<|some<|.val d):=by
 have getσ:∀j,i≠j->(σ.set i<|some v)[j]?=σ[j]?:=λ j hj=>A33 hj;refine⟨h.same,⟨by simp[h.re.len],λ j l e=>?_,λ j k xs ys q e1 e2 e3 e4=>?_⟩,λ j xs q e1 e2=>?_,λ j xs e1=>?_,h.yO.set λ _ z=>nomatch z⟩
 .rcases aC e with⟨rfl,hl,e⟩|⟨hj,e⟩
  .cases e;exact⟨v,A41 (by rw[<-h.re.len];exact hl),hd⟩
  .rw[getσ j hj];exact h.re.get j l e
 .rcases aC e1 with⟨_,_,e⟩|⟨hj,e1⟩
  .cases e
  .rcases aC e2 with⟨_,_,e⟩|⟨hk,e2⟩
   .cases e
   .rw[getσ j hj]at e3;rw[getσ k hk]at e4;exact h.re.sep j k xs ys q e1 e2 e3 e4
 .rcases aC e1 with⟨_,_,e⟩|⟨hj,e1⟩
  .cases e
  .rw[getσ j hj]at e2;exact h.fresh j xs q e1 e2
 .rcases aC e1 with⟨_,_,e⟩|⟨hj,e1⟩
  .cases e
  .rw[getσ j hj];exact h.ph j xs e1
theorem RS.Wx{K:FS}(h:RS K H0 H σ ρ)(hq:H q=AC (.lst vs))(t:aq K H ds vs)(h0:H0 q=Ch)
 (nq:∀j xs,j≠i->ρ[j]?=AC (AC<|.own xs)->σ[j]?≠AC (AC<|.ref q)):RS K H0 H (σ.set i<|some<|.ref q) (ρ.set i<|some<|.own ds):=by
 have getσ:∀j,i≠j->(σ.set i<|some<|V.ref q)[j]?=σ[j]?:=λ j hj=>A33 hj;refine⟨h.same,⟨by simp[h.re.len],λ j l e=>?_,λ j k xs ys p e1 e2 e3 e4=>?_⟩,λ j xs p e1 e2=>?_,λ j xs e1=>?_,h.yO.set λ _ z=>nomatch z⟩
 .rcases aC e with⟨rfl,hl,e⟩|⟨hj,e⟩
  .cases e;exact⟨_,A41 (by rw[<-h.re.len];exact hl),q,vs,rfl,hq,t⟩
  .rw[getσ j hj];exact h.re.get j l e
 .rcases aC e1 with⟨rfl,hl,_⟩|⟨hj,e1⟩
  .rcases aC e2 with⟨rfl,_,_⟩|⟨hk,e2⟩
   .rfl
   .rw[A41 (by rw[<-h.re.len];exact hl)]at e3;cases e3;rw[getσ k hk]at e4;exact absurd e4<|nq k ys (A09 hk) e2
  .rcases aC e2 with⟨rfl,hl,_⟩|⟨hk,e2⟩
   .rw[A41 (by rw[<-h.re.len];exact hl)]at e4;cases e4;rw[getσ j hj]at e3;exact absurd e3<|nq j xs (A09 hj) e1
   .rw[getσ j hj]at e3;rw[getσ k hk]at e4;exact h.re.sep j k xs ys p e1 e2 e3 e4
 .rcases aC e1 with⟨rfl,hl,_⟩|⟨hj,e1⟩
  .rw[A41 (by rw[<-h.re.len];exact hl)]at e2;cases e2;exact h0
  .rw[getσ j hj]at e2;exact h.fresh j xs p e1 e2
 .rcases aC e1 with⟨_,_,e⟩|⟨hj,e1⟩
  .cases e
  .rw[getσ j hj];exact h.ph j xs e1
theorem RS.chg{K:FS}(h:RS K H0 H σ ρ)(ei:ρ[i]?=AC (AC<|.own xs))(si:σ[i]?=AC (AC<|.ref q))(hq:H q=AC (.lst us))(t:aq K H ds vs):
 RS K H0 (upd H q<|.lst vs) σ (ρ.set i<|some<|.own ds):=by
 have st:gv H (upd H q<|.lst vs):=i? hq;have h0:=h.fresh i xs q ei si;have hs:aw H0 (upd H q<|.lst vs):=λ b u e=>by rw[au<|aT e h0];exact h.same b u e
 refine⟨hs,⟨by simp[h.re.len],λ j l e=>?_,λ j k jv ys p e1 e2 e3 e4=>?_⟩,λ j jv p e1 e2=>?_,λ j jv e1=>?_,h.yO.Ww λ _ z=>nomatch z⟩
 .rcases aC e with⟨rfl,hl,e⟩|⟨hj,e⟩
  .cases e;exact⟨.ref q,si,q,vs,rfl,aA,t.ups st⟩
  .let⟨v,e1,r⟩:=h.re.get j l e;refine⟨v,e1,?_⟩;cases l with
   |val d=>exact Den.ups (r) st
   |own zs=>
    let⟨q',ws,rfl,fE,t'⟩:=r;have:q'≠q:=by rintro rfl;exact hj<|h.re.sep i j xs zs q' ei e si e1
    exact⟨q',ws,rfl,by rw[au this];exact fE,t'.ups st⟩
   |bor zs=>let⟨v',e2,r2⟩:=h.ph j zs e;rw[e1]at e2;cases e2;exact r2.re r h.same hs st
   |dc ks=>
    let⟨q',as,rfl,fE,t'⟩:=r;have:q'≠q:=by rintro rfl;rw[hq]at fE;exact ES (A05 fE).symm
    exact⟨q',as,rfl,by rw[au this];exact fE,t'.ups st⟩
   |Kq ks=>let⟨q',o',as,rfl,fE,t'⟩:=r;exact⟨q',o',as,rfl,st.eJ _ _ _ fE,t'.ups st⟩
   |TM ps=>let⟨q',o',rfl,fE⟩:=r;exact⟨q',o',rfl,st.eJ _ _ _ fE⟩
   |exc c=>let⟨q',o',u',C',rfl,fE,r1,r2,r3⟩:=r;exact⟨q',o',u',C',rfl,st.eJ _ _ _ fE,r1,r2,r3.ups st⟩
 .have old:∀{j:Nat}{zs},(ρ.set i<|some<|Z.L.own ds)[j]?=AC (AC<|.own zs)->∃zs',ρ[j]?=AC (AC<|.own zs'):=λ {j zs} e=>by
   rcases aC e with⟨rfl,_,_⟩|⟨_,e⟩
   .exact⟨xs,ei⟩
   .exact⟨zs,e⟩
  let⟨_,o1⟩:=old e1;let⟨_,o2⟩:=old e2;exact h.re.sep j k _ _ p o1 o2 e3 e4
 .rcases aC e1 with⟨rfl,_,_⟩|⟨_,e1⟩
  .exact h.fresh i xs p ei e2
  .exact h.fresh j jv p e1 e2
 .rcases aC e1 with⟨_,_,e⟩|⟨_,e1⟩
  .cases e
  .exact h.ph j jv e1
theorem RS.eJ{K:FS}{H0 H:Hp}{σ:St}{ρ:Z.Env}{i:Nat}{xs:γ Z.D}{q:δ}{us:γ V}{o:μ}(h:RS K H0 H σ ρ)(ei:ρ[i]?=AC (AC<|.own xs))(si:σ[i]?=AC (AC<|.ref q))(hq:H q=AC (.lst us))(t:aq K H xs us):
 RS K H0 (upd H q<|.eJ o<|.lst us) σ (ρ.set i<|some<|.val<|.lst xs):=by
 have st:gv H (upd H q<|.eJ o<|.lst us):=i? hq;have h0:=h.fresh i xs q ei si;have hs:aw H0 (upd H q<|.eJ o<|.lst us):=λ b u e=>by rw[au<|aT e h0];exact h.same b u e
 refine⟨hs,⟨by simp[h.re.len],λ j l e=>?_,λ j k jv ys p e1 e2 e3 e4=>?_⟩,λ j jv p e1 e2=>?_,λ j jv e1=>?_,h.yO.Ww λ _ z=>nomatch z⟩
 .rcases aC e with⟨rfl,hl,e⟩|⟨hj,e⟩
  .cases e;exact⟨_,si,yr (.inl ⟨o,aA⟩)<|t.ups st⟩
  .let⟨v,e1,r⟩:=h.re.get j l e;refine⟨v,e1,?_⟩;cases l with
   |val d=>exact Den.ups (r) st
   |own zs=>
    let⟨q',ws,rfl,fE,t'⟩:=r;have:q'≠q:=by rintro rfl;exact hj<|h.re.sep i j xs zs q' ei e si e1
    exact⟨q',ws,rfl,by rw[au this];exact fE,t'.ups st⟩
   |bor zs=>let⟨v',e2,r2⟩:=h.ph j zs e;rw[e1]at e2;cases e2;exact r2.re r h.same hs st
   |dc ks=>
    let⟨q',as,rfl,fE,t'⟩:=r;have:q'≠q:=by rintro rfl;rw[hq]at fE;exact ES (A05 fE).symm
    exact⟨q',as,rfl,by rw[au this];exact fE,t'.ups st⟩
   |Kq ks=>let⟨q',o',as,rfl,fE,t'⟩:=r;exact⟨q',o',as,rfl,st.eJ _ _ _ fE,t'.ups st⟩
   |TM ps=>let⟨q',o',rfl,fE⟩:=r;exact⟨q',o',rfl,st.eJ _ _ _ fE⟩
   |exc c=>let⟨q',o',u',C',rfl,fE,r1,r2,r3⟩:=r;exact⟨q',o',u',C',rfl,st.eJ _ _ _ fE,r1,r2,r3.ups st⟩
 .rcases aC e1 with⟨_,_,e⟩|⟨_,e1⟩
  .cases e
  .rcases aC e2 with⟨_,_,e⟩|⟨_,e2⟩
   .cases e
   .exact h.re.sep j k _ _ p e1 e2 e3 e4
 .rcases aC e1 with⟨_,_,e⟩|⟨_,e1⟩
  .cases e
  .exact h.fresh j jv p e1 e2
 .rcases aC e1 with⟨_,_,e⟩|⟨_,e1⟩
  .cases e
  .exact h.ph j jv e1
variable{H0:Hp}{st:ι}{yG:γ ι}{g u:Z.SF}
theorem _root_.Lake.ZQ.rX:ZQ.yP X H0 [] Z.aJ:=⟨qp.imp DF <|by rintro D σ H ⟨ρ,fl,rs,e,k⟩;cases e;exact k σ H (gv.refl H) rs⟩
theorem _root_.Lake.ZQ.lZ(h:ZQ.QS X H0 st g):ZQ.yP X H0 [st] g:=⟨og h.p⟩
theorem _root_.Lake.ZQ.f7(h1:ZQ.QS X H0 st g)(h2:ZQ.yP X H0 yG u):ZQ.yP X H0 (st::yG) (Z.aB g u):=⟨qp.imp (jA h1.p h2.p) <|by
 rintro D σ H ⟨ρ,fl,rs,e,k⟩;let⟨f1,e1,e⟩:=al e;refine⟨ρ,f1,rs,e1,?_⟩;cases f1 with
 |nx ρ'=>exact λ σ' H' s r=>⟨ρ',fl,r,e,k.up s⟩
 |rt d=>cases e;exact k
 |bk ρ'=>cases e;exact k
 |ct ρ'=>cases e;exact k⟩
theorem _root_.Lake.ZQ.j_(h:ZQ.QE X a fa):ZQ.QS X H0 (.Return (AC a) pos) (Z.aF fa):=⟨PS.imp (BU h.p) <|by rintro D σ H ⟨ρ,fl,rs,e,k⟩;let⟨d,ea,e⟩:=al e;cases e;exact⟨ρ,d,rs.re,ea,λ v H' s dv=>k v H' (rs.same.trans s) dv⟩⟩
theorem _root_.Lake.ZQ.Pc(h:ZQ.QE X a fa)(hs:swapsWith a Ch pos.line X.env=pure AT:=by rfl):ZQ.QS X H0 (.Expr a pos) (Z.Dy fa):=⟨PS.imp (oh h.p hs) <|by rintro D σ H ⟨ρ,fl,rs,e,k⟩;let⟨d,ea,e⟩:=al e;cases e;exact⟨ρ,d,rs.re,ea,λ v H' s dv=>k σ H' (jR s)<|rs.up s⟩⟩
theorem _root_.Lake.ZQ.EL(hc:ZQ.QT X c t)(h1:ZQ.yP X H0 b1 g)(h2:ZQ.yP X H0 b2 u):ZQ.QS X H0 (.If c b1 b2 pos) (Z.dH t g u):=⟨PS.imp (IH hc.p h1.p h2.p) <|by
 rintro D σ H ⟨ρ,fl,rs,e,k⟩;let⟨x,ea,e⟩:=al e;refine⟨ρ,x,rs.re,ea,λ H1 s1=>?_⟩;cases x with
 |true=>simp only[A29]at e ⊢;exact⟨ρ,fl,rs.up s1,e,k.up<|jR s1⟩
 |false=>simp only[A52]at e ⊢;exact⟨ρ,fl,rs.up s1,e,k.up<|jR s1⟩⟩
theorem _root_.Lake.ZQ.j?(he:ZQ.QE X a fa)(hs:Sn a x pos' pos X.env:=by rfl)(hf:Fl X x:=by trivial)(hN:X.N.Nodup:=by first|assumption|exact B11 (by kernel_rfl))(hi:X.N[i]?=AC x:=by rfl)(hx:Loc X.env.scope x:=by exact lo rfl):ZQ.QS X H0 (.Assign [.Name x pos'] a pos) (Z.aK i fa):=⟨PS.imp (mZ hN hi hx he.p hs hf) <|by rintro D σ H ⟨ρ,fl,rs,e,k⟩;let⟨d,ea,e⟩:=al e;cases e;exact⟨ρ,d,rs.re,ea,λ v H' s dv=>k _ H' (jR s)<|(rs.up s).uT dv⟩⟩
theorem RS.noq{K:Db}(h:RS K H1 H σ ρ)(hq:H q=Ch)(j:Nat)(xs:γ Z.D)(e:ρ[j]?=AC (AC<|.own xs)):σ[j]?≠AC (AC<|.ref q):=λ z=>by let⟨v,e1,q',vs,rfl,h2,_⟩:=h.re.get j _ e;rw[z]at e1;cases e1;rw[hq]at h2;cases h2
theorem _root_.Lake.ZQ.O?(he:ZQ.QL X a l)(hs:Sn a x pos' pos X.env:=by rfl)(hf:Fl X x:=by trivial)(hN:X.N.Nodup:=by first|assumption|exact B11 (by kernel_rfl))(hi:X.N[i]?=AC x:=by rfl)(hx:Loc X.env.scope x:=by exact lo rfl):ZQ.QS X H0 (.Assign [.Name x pos'] a pos) (Z.mm i l):=⟨PS.imp (mZ hN hi hx he.p hs hf) <|by rintro D σ H ⟨ρ,fl,rs,e,k⟩;let⟨d,ea,e⟩:=al e;cases e;refine⟨ρ,d,rs.re,ea,λ q vs H' s hn h1 t=>k _ H' (jR s)<|(rs.up s).Wx h1 t (rs.same.free hn) λ j xs _ e=>?_⟩;exact rs.noq hn j xs e⟩
def tG(K:Db)(H0:Hp)(g:Z.GF):TG:=λ v σ H Q=>∃ρ d ρ',RS K H0 H σ ρ/\Den K H d v/\g d ρ=.ok ρ'/\∀σ' H',aw H H'->RS K H0 H' σ' ρ'->Q σ' H'
def tGs(K:Db)(H0:Hp)(is:γ Nat):Ve:=λ vs σ H Q=>∃ρ ds ρ',RS K H0 H σ ρ/\aq K H ds vs/\Z.hU is ds ρ=.ok ρ'/\∀σ' H',aw H H'->RS K H0 H' σ' ρ'->Q σ' H'
abbrev DG(X:Cx)(H0:Hp)(tg:θ)(g:Z.GF):Prop:=PG X tg<|tG X.K H0 g
structure _root_.Lake.ZQ.QG(X:Cx)(H0:Hp)(tg:Expr)(g:Z.GF):Prop where p:DG X H0 tg g
abbrev DGs(X:Cx)(H0:Hp)(_?:γ θ)(is:γ Nat):Prop:=LJ X _?<|tGs X.K H0 is
structure _root_.Lake.ZQ.Zn(X:Cx)(H0:Hp)(_?:List Expr)(is:List Nat):Prop where p:DGs X H0 _? is
theorem PG.imp(h:PG X tg t)(k:∀v σ H Q,t' v σ H Q->t v σ H Q):PG X tg t':=λ χ s σ H v u Q I r w=>h χ s σ H v u Q I r<|k v σ H Q w
theorem LJ.imp(h:LJ X es t)(k:∀v σ H Q,t' v σ H Q->t v σ H Q):LJ X es t':=λ χ s σ H v u Q I r w=>h χ s σ H v u Q I r<|k v σ H Q w
theorem _root_.Lake.ZQ.lH(hf:Fl X x:=by trivial)(hN:X.N.Nodup:=by first|assumption|exact B11 (by kernel_rfl))(hi:X.N[i]?=AC x:=by rfl)(hx:Loc X.env.scope x:=by exact lo rfl):ZQ.QG X H0 (.Name x pos) (Z.aG i):=
 ⟨PG.imp (DO hN hi hx hf) <|by rintro v σ H Q ⟨ρ,d,ρ',rs,hd,e,k⟩;cases e;exact k _ H (aw.refl H)<|rs.uT hd⟩
theorem _root_.Lake.ZQ.EO:ZQ.Zn X H0 [] []:=⟨LJ.imp Nf <|by
 rintro vs σ H Q ⟨ρ,ds,ρ',rs,hd,e,k⟩;cases ds with
 |nil=>simp only[aq]at hd;cases e;exact⟨hd,k σ H (aw.refl H) rs⟩
 |cons d ds=>cases e⟩
theorem _root_.Lake.ZQ.l3(h2:ZQ.Zn X H0 es is)(hs:(assignEach ((.Name x pos)::es) X.env).map (·.2)=assign (.Name x pos) X.env::(assignEach es X.env).map (·.2):=by rfl)(hf:Fl X x:=by trivial)(hN:X.N.Nodup:=by first|assumption|exact B11 (by kernel_rfl))(hi:X.N[i]?=AC x:=by rfl)(hx:Loc X.env.scope x:=by exact lo rfl):ZQ.Zn X H0 (.Name x pos::es) (i::is):=
 ⟨have h2:=h2.p;LJ.imp (IL (DO hN hi hx hf) h2 hs) <|by
  rintro vs σ H Q ⟨ρ,ds,ρ',rs,hd,e,k⟩;cases ds with
  |nil=>cases e
  |cons d ds=>simp only[aq]at hd;let⟨v,r,rfl,h1,h2⟩:=hd;exact⟨v,r,rfl,_,ds,ρ',rs.uT h1,h2,e,k⟩⟩
theorem _root_.Lake.ZQ.UJ(hc:X.calm=Da)(h:ZQ.Zn X H0 es is)(hl:is.length=n)(hn:(assignEach es X.env).length=n:=by rfl)(oJ:(assignEach es X.env).findIdx? (·.1)=Ch:=by rfl):ZQ.QG X H0 (.Tuple es x1 pos) (Z.dE is):=
 ⟨PG.imp (IM hc h.p hn oJ) <|by
  rintro v σ H Q ⟨ρ,d,ρ',rs,hd,e,k⟩;unfold Z.dE at e;split at e
  .rename_i ds;let⟨q,vs,rfl,hq,t⟩:=bp.tup (.inl hd);have ψ:∀is ds ρ ρ',Z.hU is ds ρ=.ok ρ'->ds.length=is.length:=by
    intro is
    induction is with
    |nil=>intro ds ρ ρ' e;cases ds with
     |nil=>rfl
     |cons d ds=>cases e
    |cons i is ih=>intro ds ρ ρ' e;cases ds with
     |nil=>cases e
     |cons d ds=>simp[ih ds _ _ e]
   exact⟨q,vs,rfl,hq,by rw[t.length,ψ is ds ρ ρ' e];exact hl,ρ,ds,ρ',rs,t,e,k⟩
  .cases e⟩
theorem _root_.Lake.ZQ.KR{g:Z.GF}(he:ZQ.QE X a fa)(hg:ZQ.QG X H0 tg g)(hs:swapsWithSole [tg] a pos.line X.env=pure AT:=by rfl)(hw:swappedStores [tg] a X.env=pure Ch:=by rfl)
 (h1:(assignEach [tg] X.env).map (·.2)=[assign tg X.env]:=by rfl):ZQ.QS X H0 (.Assign [tg] a pos) (Z.zF fa g):=⟨PS.imp (R_ he.p hg.p hs hw h1) <|by
 rintro D σ H ⟨ρ,fl,rs,e,k⟩;let⟨d,ea,e⟩:=al e;let⟨ρ',eb,e⟩:=al e;cases e;exact⟨ρ,d,rs.re,ea,λ v H' s dv=>⟨ρ,d,ρ',rs.up s,dv,eb,λ σ2 H2 s2 r2=>k σ2 H2 ((jR s).trans<|jR s2) r2⟩⟩⟩
theorem _root_.Lake.ZQ.Pb(hi:ZQ.QJ X tg iter it)(hg:ZQ.QG X H0 tg G)(hb:ZQ.yP X H0 body g)(hs:Fi iter X.env:=by intro _;rfl)(hp:PassesOwn (model X.prog X.w) X.A X.env X.xe:=by exact B96)(hc:X.calm=Da:=by rfl):ZQ.QS X H0 (.For tg iter body [] pos) (Z.gg it G g):=⟨PS.imp (II hp hc hi.p hg.p hb.p hs) <|by
 rintro D σ H ⟨ρ,fl,rs,e,k⟩;let⟨ds,ei,e⟩:=al e;refine⟨ρ,ds,rs.re,ei,λ J H1 s1 z=>?_⟩;refine⟨λ i m σ' H'=>m=ds.length-i/\i<=ds.length/\∃ρ',RS X.K H0 H' σ' ρ'/\gv H1 H'/\Z.cb G g (ds.drop i) ρ'=.ok fl,⟨ds.length,by simp,A47 _,ρ,rs.up s1,gv.refl H1,by simpa using e⟩,?_⟩;rintro i m σ2 H2 ⟨rfl,Am,ρ2,r2,s2,e2⟩;by_cases jc:i<ds.length
 .obtain⟨d,hd⟩:∃d,ds[i]?=AC d:=⟨ds[i],by simp[jc]⟩
  have tU:ds.drop i=d::ds.drop (i+1):=by
   rw[A93 jc];have:ds[i]=d:=by have:=A00 jc;rw[this]at hd;exact A05 hd
   rw[this]
  rw[tU]at e2;let⟨ρ3,eg,e2⟩:=al e2;let⟨f3,eb,e2⟩:=al e2;refine .inr ⟨z.go i d H2 s2 hd,λ σ' H'=>∃ρ',RS X.K H0 H' σ' ρ'/\gv H1 H'/\Z.cb G g _ ρ'=.ok fl,λ σ' H' w=>⟨_,by lia,rfl,jc,w⟩,λ x H3 y=>?_⟩;let⟨sy,dx⟩:=z.Be i d H2 H3 x s2 hd y;replace s2:=s2.trans<|jR sy;refine⟨ρ2,d,ρ3,r2.up sy,dx,eg,λ σ4 H4 s4' r4=>⟨ρ3,f3,r4,eb,?_⟩⟩;have s4:=jR s4';cases f3 with
  |nx ρ5=>exact λ σ5 H5 s5 r5=>⟨ρ5,r5,(s2.trans s4).trans s5,e2⟩
  |ct ρ5=>exact λ σ5 H5 s5 r5=>⟨ρ5,r5,(s2.trans s4).trans s5,e2⟩
  |bk ρ5=>cases e2;exact λ σ5 H5 s5 r5=>k σ5 H5 ((jR s1).trans<|(s2.trans s4).trans s5) r5
  |rt d5=>cases e2;exact k
 .have:i=ds.length:=by lia
  subst this;rw[B55]at e2;cases e2;exact .inl ⟨z.stop H2 s2,k σ2 H2 ((jR s1).trans s2) r2⟩⟩
theorem _root_.Lake.ZQ.O9(h:ZQ.yP X H0 yG g):ZQ.yP X H0 yG (Z.pQ i g):=⟨by
 have h:=h.p;intro χ s σ H D I w;let⟨ρ,fl,rs,e,k⟩:=w;unfold Z.pQ Z.eJ at e;split at e
 .rename_i xs ei;let⟨v,si,q,us,rfl,hq,t⟩:=rs.re.get i _ ei;let⟨o,I2⟩:=nr I hq;exact h χ s σ _ D I2 ⟨_,fl,rs.eJ ei si hq t,e,k.up<|i? hq⟩
 .exact h χ s σ H D I ⟨ρ,fl,rs,e,k⟩⟩
theorem GR(ho:PE X o (mS i))(ha:DE X a fa)(hs:swapsWith (.Call (.Attribute o "append" p1) [a] [] p2) Ch pos.line X.env=pure AT:=by rfl)(mL:Se a [] X.env:=by rfl)
 (hbm:PE X (.Call (.Attribute o "append" p1) [a] [] p2) (tBM X.K "list" DD (mS i)<|Ia (tZ X.K fa) MI)) :
 DS X H0 (.Expr (.Call (.Attribute o "append" p1) [a] [] p2) pos) (Z.cC i fa):=PS.imp (oh hbm hs) <| by
 rintro D σ H ⟨ρ,fl,rs,e,k⟩;let⟨d,ea,e⟩:=al e;split at e
 .rename_i xs ei;unfold Z.guard at e;split at e
  .rename_i hl;cases e;let⟨v,si,q,us,rfl,hq,t⟩:=rs.re.get i _ ei;refine⟨_,si,.inl ⟨rfl,us,i4.of hq⟩,ρ,d,rs.re,ea,λ v' H1 s1 dv=>?_⟩;have T3:=s1 _ _ hq;refine⟨q,us,v',rfl,rfl,T3,by rw[t.length,A25];exact hl,?_⟩;exact k σ _ ((jR s1).trans<|i? T3)<|(rs.up s1).chg ei si T3<|(t.up s1).append<|aq.cons dv aq.nil
  .cases e
 .cases e
end
theorem nB:∀(names:γ (Str×NameKind)) acc,(∀y∈names,y.2=.free->∃c,env.cells.lookup y.1=AC c)->(∀x c,acc.lookup x=AC c->env.cells.lookup x=AC c) ->
 ∃cl,(forIn names acc λ(x)(cs:γ (Str×δ))=>(if(x.2==NameKind.free)=Da then do let c ←cellOf env x.1;pure (Gc<|(x.1,c)::cs)else pure (Gc cs):Sem (ForInStep<|γ<|Str×δ)))=pure cl /\
  (∀x c,cl.lookup x=AC c->env.cells.lookup x=AC c)/\(∀x,(acc.lookup x).isSome=Da->(cl.lookup x).isSome=Da)/\(∀y∈names,y.2=.free->(cl.lookup y.1).isSome=Da)
|[],acc,_,ha=>⟨acc,rfl,ha,λ _ h=>h,λ y hy=>by cases hy⟩
|(n,k)::r,acc,hn,ha=>by
 by_cases hk:k=.free
 .subst hk;let⟨c,hc⟩:=hn (n,.free) A08 rfl;have ha':∀x d,((n,c)::acc).lookup x=AC d->env.cells.lookup x=AC d:=λ x d e=>by
   rw[A71]at e;split at e
   .rename_i q;cases e;rw[A26.mp q];exact hc
   .exact ha x d e
  let⟨cl,e,h1,h2,h3⟩:=nB r ((n,c)::acc) (λ y hy=>hn y<|A07 _ hy) ha';have self:=h2 n (by rw[B30];rfl);refine⟨cl,?_,h1,λ x hx=>h2 x ?_,λ y hy hf=>?_⟩
  .rw[B31];simp only[A91,A29];have:cellOf env n=pure c:=by unfold cellOf;rw[hc]
   rw[this];exact e
  .rw[A71];split
   .rfl
   .exact hx
  .rcases A01.mp hy with rfl|hy
   .exact self
   .exact h3 y hy hf
 .let⟨cl,e,h1,h2,h3⟩:=nB r acc (λ y hy=>hn y<|A07 _ hy) ha;have hb:(k==NameKind.free)=AT:=by simpa using hk
  refine⟨cl,?_,h1,h2,λ y hy hf=>?_⟩
  .rw[B31];simp only[hb,A52,A60];exact e
  .rcases A01.mp hy with rfl|hy
   .exact absurd hf hk
   .exact h3 y hy hf
theorem jr(hn:∀y∈scope.names,y.2=.free->∃c,env.cells.lookup y.1=AC c):
 ∃cl,closureFor scope env=pure cl/\(∀x c,cl.lookup x=AC c->env.cells.lookup x=AC c)/\(∀y∈scope.names,y.2=.free->(cl.lookup y.1).isSome=Da):=by
 let⟨cl,e,h1,_,h3⟩:=nB _ [] hn (λ x c e=>by cases e);refine⟨cl,?_,h1,h3⟩;unfold closureFor
 first
  |exact e
  |(simp only[bind_pure];exact e)
  |(rw[e];rfl)
theorem iF{env:Env}{x:Str}:∀(names:γ _),(names.map λ(n,k)=>if(k == NameKind.free&&env.scope.kind == .function&&env.kindOf n == AC .cell)=Da then(n,NameKind.cell)else(n,k)).lookup x=(names.lookup x).map λ k=>if(k == NameKind.free&&env.scope.kind == .function&&env.kindOf x == AC .cell)=Da then NameKind.cell else k
|[]=>rfl
|(n,k)::r=>by
 have ih:=@iF env x r;show Fk x ((if(k==NameKind.free&&env.scope.kind==.function&&env.kindOf n==AC .cell)=Da then(n,NameKind.cell)else(n,k))::_)=_;by_cases hx:x=n
 .subst hx;by_cases hc:(k==NameKind.free&&env.scope.kind==.function&&env.kindOf x==AC .cell)=Da
  .rw[W1 hc,B30,B30,A62,W1 hc]
  .rw[o0 hc,B30,B30,A62,o0 hc]
 .have hb:(x==n)=AT:=by simpa using hx
  by_cases hc:(k==NameKind.free&&env.scope.kind==.function&&env.kindOf n==AC .cell)=Da
  .rw[W1 hc,A71,A71,hb];exact ih
  .rw[o0 hc,A71,A71,hb];exact ih
noncomputable abbrev kP(X:Cx)(N':γ Str)(scope:ς)(cl:γ (Str×δ))(C:δ)(fp:γ δ)(s₂:η)(H₂:Hp):Cx:=
 {prog:=X.prog,w:=X.w,K:=X.K,mg:=X.mg,base:=X.base,A:=X.A,N:=N',s₀:=s₂,H₀:=H₂,env:=compEnvC scope cl C X.env,outer:=X.stack,stack:=X.stack,ex:=fp,fn:=λ _=>AT,calm:=X.calm,pn:=[],xe:=λ _ _=>False}
structure uK(N N':List Str)(n:Nat)(is:List Nat)(sc Sr:Scope):Prop where
 kind:sc.kind=.function
 cell:∀y∈sc.names,y.2≠.cell
 loc:∀y∈sc.names,y.2=.local->sc.names.lookup y.1=AC .local
 free:∀y∈sc.names,y.2=.free->Sr.names.lookup y.1=AC .cell\/Sr.names.lookup y.1=AC .free
 len:N'.length=n+is.length
 cap:∀(j i:Nat),is[j]?=AC i->∃x,N'[n+j]?=AC x/\N[i]?=AC x/\sc.names.lookup x=AC .free
 own:∀(j:Nat),j<n->∃x,N'[j]?=AC x/\sc.names.lookup x=AC .local
section
variable{X:Cx}{tg e a b elt iter:θ}{ifs:γ θ}{pos:Pos}{N':γ Str}{n:Nat}{is:γ Nat}{scope:ς}
def mY(σ:St)(n:Nat)(is:γ Nat):St:=Do n Ch++is.map λ i=>(σ[i]?).join
theorem fA(n:Nat)(is:γ Nat)(ρ:Z.Env)(i:Nat)(xs:γ Z.D):(Do n Ch++Z.c! ρ is:Z.Env)[i]?≠AC (AC<|.own xs):=by
 intro e;by_cases hi:i<n
 .rw[A21 (by simpa using hi),A49]at e;split at e<;>cases e
 .rw[A43 (by simpa using hi)]at e;unfold Z.c! at e;rw[A06]at e;cases q:is[i-(Do n<|none).length]? with
  |none=>rw[q]at e;cases e
  |some j=>rw[q]at e;have e':=A05 e;unfold Z.o_ at e';split at e'<;>cases e'
theorem qf(n:Nat)(is:γ Nat)(ρ:Z.Env)(i:Nat)(ks:Z.DK):(Do n Ch++Z.c! ρ is:Z.Env)[i]?≠AC (AC<|.dc ks):=by
 intro e;by_cases hi:i<n
 .rw[A21 (by simpa using hi),A49]at e;split at e<;>cases e
 .rw[A43 (by simpa using hi)]at e;unfold Z.c! at e;rw[A06]at e;cases q:is[i-(Do n<|none).length]? with
  |none=>rw[q]at e;cases e
  |some j=>rw[q]at e;have e':=A05 e;unfold Z.o_ at e';split at e'<;>cases e'
theorem IC{K:FS}(h:RE K H σ ρ)(s:aw H H'):RS K H H' (mY σ n is) (Do n Ch++Z.c! ρ is):=by
 have key:∀(i:Nat) l,(Do n Ch++Z.c! ρ is)[i]?=AC (AC l)->∃v,(mY σ n is)[i]?=AC (AC v)/\RL K H l v:=?_;refine⟨s,⟨by simp[mY,Z.c!],λ i l e=>let ⟨v,h1,h2⟩:=key i l e;⟨v,h1,h2.up s⟩,λ i j xs ys q e1=>absurd e1<|fA n is ρ i xs⟩,λ i xs q e1=>absurd e1<|fA n is ρ i xs,λ i xs e1=>let ⟨v,h1,h2⟩:=key i _ e1;⟨v,h1,i5.z h2⟩,jP.non<|qf n is ρ⟩;intro i l e;by_cases hi:i<n
 .rw[A21 (by simpa using hi),A49]at e;split at e<;>cases e
 .rw[A43 (by simpa using hi)]at e;unfold mY;rw[A43 (by simpa using hi)];simp only[A77]at e ⊢;unfold Z.c! at e;rw[A06]at e ⊢;cases q:is[i-n]? with
  |none=>rw[q]at e;cases e
  |some j=>
   rw[q]at e;have e':=A05 e;unfold Z.o_ at e';split at e'
   .rename_i d hd;cases e';let⟨v,h1,h2⟩:=h.get j _ hd;refine⟨v,?_,h2⟩;simp[h1]
   .rename_i d hd;cases e';let⟨v,h1,h2⟩:=h.get j _ hd;refine⟨v,?_,h2⟩;simp[h1]
   .rename_i d hd;cases e';let⟨v,h1,h2⟩:=h.get j _ hd;refine⟨v,?_,h2⟩;simp[h1]
   .rename_i xs hd;cases e';let⟨v,h1,a,vs,rfl,h3,h4⟩:=h.get j _ hd;refine⟨_,?_,.inl<|.inr ⟨xs,a,vs,rfl,rfl,h3,h4⟩⟩;simp[h1]
   .cases e'
theorem mz(I:Nat->η->Prop)
 (turn:∀ n s,I n s->Ev (model prog w) A (pyNext it) (λ r s₁=>match r with
  |none=>R (.ok .next) s₁
  | some v=>Ev (model prog w) A (letOwnedTupleGo target it v) (λ _ s₁=>Ev (model prog w) A (assign target env v) (λ _ s₂=>
   Ev (model prog w) A (forIn ifs Da λ c r=>if r=Da then do let ok ←isTrue c env (eval c env);pure (Gc ok)else pure (Gc r)) (λ ok s₃=>
    if ok=Da then Ev (model prog w) A (eval elt env) (λ x s₄=>Ev (model prog w) A (call (.builtin "list.append") [acc,x]) (λ _ s₅=>∃m,m<n/\I m s₅) (λ _ _=>False) s₄) (λ _ _=>False) s₃
    else ∃m,m<n/\I m s₃) (λ _ _=>False) s₂) (λ _ _=>False) s₁) (λ _ _=>False) s₁) (λ _ _=>False) s)
 (n:Nat) (h:I n s) :
 codeAny (model prog w) A (.compLoop (.ListComp elt [⟨target,iter,ifs,0⟩] scope pos) 0 it acc env) R s:=by
 refine codeAny_loop rfl I (λ n s hI=>?_) n h;refine wpAny_noted ?_;rw[compTurn_list];refine T0<|B32<|T0<|A20 (turn n s hI) (λ r s₁ h₁=>?_) λ _ _ h'=>h'.elim;cases r with
 |none=>exact P3 h₁
 |some v=>
  refine T0<|A20 h₁ (λ _ s₁ h₁=>?_) λ _ _ h'=>h'.elim;refine T0<|A20 h₁ (λ _ s₂ h₂=>T0<|A20 h₂ (λ ok s₃ h₃=>?_) λ _ _ h'=>h'.elim) λ _ _ h'=>h'.elim;cases ok with
  |false=>exact P3 ⟨rfl,h₃⟩
  |true=>exact T0<|T0<|A20 h₃ (λ x s₄ h₄=>T0<|A20 h₄ (λ _ s₅ h₅=>P3<|P3 ⟨rfl,h₅⟩) λ _ _ h'=>h'.elim) λ _ _ h'=>h'.elim
structure Off(X:Cx)(χ:List (Addr×Obj))(H:Hp)(C:Addr):Prop where
 free:H C=Ch
 loc:C≠X.env.locals
 new:X.s₀.heap.objs.size<=C
 cell:∀x c,X.env.cells.lookup x=AC c->c≠C
 pin:∀p∈X.pn++χ,p.1≠C
theorem Off.inv(o:Off X χ H C)(I:Inv X χ σ H s)(hs:Ix C s.heap h'):Inv X χ σ H {s with heap:=h'}:=
 I.turned (λ b ob hb e=>(hs.2 b hb).trans e) o.free o.loc (.inr o.new) o.cell o.pin
def _U(X:Cx)(χ:γ (δ×μ))(σ:St)(H₂:Hp)(ys:γ Z.D)(acc:ζ)(C:δ)(s':η):Prop:=
 ∃D H' vs m,acc=.ref D/\s'.heap.Ns C m/\Inv X χ σ H' s'/\Off X χ H' C/\H₂ D=Ch/\aw H₂ H'/\H' D=AC (.lst vs)/\aq X.K H' ys vs
def tGR(K:Db)(R:Hp->Z.D->V->Prop)(H0:Hp)(g:Z.GF):TG:=λ v σ H Q=>∃ρ d ρ',RS K H0 H σ ρ/\R H d v/\g d ρ=.ok ρ'/\∀σ' H',aw H H'->RS K H0 H' σ' ρ'->Q σ' H'
theorem Lk{R:Hp->Z.D->V->Prop}{it:δ}{fp:γ δ}{tn:Nat->ν->Prop}{J:It}{χ:γ (δ×μ)}{σ:St}{ρ:Z.Env}{H₂:Hp}{s₂:η}{E:ζ->η->Prop}{cl:γ (Str×δ)}{G:Z.GF}{t:Z.TF}{fe:Z.EF}{ds ys:γ Z.D}
 (cM:X.calm=Da) (B:uK X.N N' n is scope X.env.scope) (I2:Inv X χ σ H₂ s₂) (T:Turn X.prog X.w X.K tg J fp it tn) (Ho:tn 0 s₂.heap) (fo:∀b∈fp,pw X χ H₂ b) (zg:∀(i:Nat)(d:Z.D)(H1:Hp),aw H₂ H1->ds[i]?=AC d->J.go i H1) (zy:∀(i:Nat)(d:Z.D)(H1 H2:Hp)(x:V),aw H₂ H1->ds[i]?=AC d->J.Be i H1 x H2->aw H1 H2/\R H2 d x) (zst:∀(H1:Hp),aw H₂ H1->J.stop ds.length H1) (re:RE X.K H₂ σ ρ)
 (iX:∀x c,cl.lookup x=AC c->X.env.cells.lookup x=AC c) (tW:∀y∈scope.names,y.2=.free->(cl.lookup y.1).isSome=Da)
 (hG:Gk G n)
 (hg:∀C s H H0,PG (kP X N' scope cl C fp s H) tg (tGR X.K R H0 G))
 (ht:∀ C s s' H mG (σ':St) (H':Hp) (Q:Bool->Hp->Prop),Inv (kP X N' scope cl C fp s H) mG σ' H' s'->Wg X.K t σ' H' Q ->
  Ev (model X.prog X.w) X.A (forIn ifs Da λ c r=>if r=Da then do let ok ←isTrue c (compEnvC scope cl C X.env) (eval c<|compEnvC scope cl C X.env);pure (Gc ok)else pure (Gc r)) (TP (kP X N' scope cl C fp s H) mG σ' Q) (λ _ _=>False) s')
 (he:∀C s H,DE (kP X N' scope cl C fp s H) elt fe) (ψ:ds.length<=Z.line) (ego:Z.bC G t fe (Do n Ch++Z.c! ρ is) ds=.ok ys) :
 Ev (model X.prog X.w) X.A (newList []) (λ acc s₃=>Ev (model X.prog X.w) X.A (newFunctionEnv scope X.env.globals cl [] X.env.qual Ch .none<|some X.env) (λ U1 s₄=>codeAny (model X.prog X.w) X.A (.compStart (.ListComp elt [⟨tg,iter,ifs,0⟩] scope pos) 0 (.ref it) acc {U1 with scope:=relabel scope X.env}) (λ r s'=>r=.ok .next/\_U X χ σ H₂ ys acc U1.locals s') s₄) E s₃) E s₂:=by
 refine A69<|wpAny_newFunctionEnv B.cell (by intro y hy;simp at hy) (λ h₁ OF J8=>?_) B.kind;dsimp only at OF J8 ⊢;generalize Uk:s₂.heap.push {cls:=.type "list",dict:=Ch,data:=.seq ([]:γ ζ).toArray}=HH at OF J8 ⊢;have hC:HH.objs.size=s₂.heap.objs.size+1:=by rw[<-Uk,A54]
 have _E:s₂.heap.objs.size≠HH.objs.size:=by rw[hC];exact A13<|A63 _
 have below:∀b,b<s₂.heap.objs.size->b≠HH.objs.size/\b≠s₂.heap.objs.size:=λ b hb=>⟨by rw[hC];exact A13<|B97 hb,A13 hb⟩
 have old:∀b o,s₂.heap.get? b=AC o->h₁.get? b=AC o:=λ b o e=>J8.extBut b o (below b<|A02 e).1<|f8 _<|Uk▸f8 _ e;have YB:h₁.get? s₂.heap.objs.size=AC {cls:=.type "list",data:=.seq ([]:γ ζ).toArray}:=J8.extBut _ _ _E<|f8 _<|Uk▸A17 _ rfl;have fpo:∀b∈fp,∃o,s₂.heap.get? b=AC o/\∀v,o.data≠.cell v:=T.obj 0 _ Ho;have Uq:∀b∈fp,b<s₂.heap.objs.size:=λ b hb=>let ⟨_,e,_⟩:=fpo b hb;A02 e;generalize hD:s₂.heap.objs.size=D at _E below old YB hC ⊢;generalize hCC:HH.objs.size=C at OF J8 _E below hC ⊢;have Ma:H₂ D=Ch:=I2.bG.fresh (by rw[hD];exact M2 _);have hCn:H₂ C=Ch:=I2.bG.fresh (by rw[hD,hC];exact A59 _)
 -- RU _O context is in order
 have ok:(kP X N' scope cl C fp s₂ H₂).Ok:=by
  refine⟨I2.ok.mod,B.kind,I2.ok.glob,I2.ok.blt,by show s₂.heap.objs.size<=C;rw[hD,hC];exact A59 _,λ x y c e1 e2=>I2.ok.inj x y c (iX x c e1)<|iX y c e2,λ x hx=>?_,λ x c hf=>(by cases hf),I2.ok.hd,I2.ok.frames,.inl rfl,
   λ b hb=>⟨(below b (by rw[<-hD];exact Uq b hb)).1,λ x c e=>(fo b hb).2.2.2.2.1 x c<|iX x c e⟩,I2.bs,A11 I2.ok.Lq I2.sz,λ b o e hb=>?_,λ b hb z=>?_,I2.stack,I2.rJ⟩
  .have Hv:(relabel scope X.env).names.lookup x=AC .cell\/(relabel scope X.env).names.lookup x=AC .free:=hx;have e:=iF (env:=X.env) (x:=x) scope.names;have e':(relabel scope X.env).names.lookup x=_:=e;rw[e']at Hv;cases q:scope.names.lookup x with
   |none=>rw[q]at Hv;rcases Hv with h|h<;>cases h
   |some k=>
    have hm:=A64 q;have hk:k=.free:=by
     rw[q]at Hv;simp only[A62]at Hv;by_cases hc:(k==NameKind.free&&X.env.scope.kind==.function&&X.env.kindOf x==AC .cell)=Da
     .rw[A38,A38]at hc;exact A26.mp hc.1.1
     .rw[o0 hc]at Hv;rcases Hv with h|h
      .exact absurd (A05 h)<|B.cell _ hm
      .exact A05 h
    subst hk;exact A68.mp<|tW _ hm rfl
  .rcases(fo b hb).2.2.2.1 with q|q
   .exact I2.ok.zY b o e q
   .exact absurd (A19 (A02 (I2.ok.bs b o e).1) q)<|A85 _
  .rcases A01.mp (I2.pL b z)with q|q
   .exact(fo b hb).2.1 q
   .exact(fo b hb).2.2.1 q
 have Hd:kR X.prog X.w (upd H₂ D<|.lst []) h₁:=I2.bG.laid old (by rw[hD];exact M2 _) ⟨A47 _,[],_,.nil,YB⟩;have ne2:∀b,b<s₂.heap.objs.size->b≠D:=λ b hb=>by rw[<-hD];exact A13 hb
 have uz:∀x c,X.env.cells.lookup x=AC c->c<s₂.heap.objs.size/\∀v,s₂.heap.IsCell c v->h₁.IsCell c v:=λ x c e=>by let⟨v,o,ho,hd⟩:=I2.cell x c e;exact⟨A02 ho,by rintro v' ⟨o',oM,pC⟩;exact⟨o',old c o' oM,pC⟩⟩
 have I4:Inv (kP X N' scope cl C fp s₂ H₂) [] (mY σ n is) (upd H₂ D<|.lst []) {s₂ with heap:=h₁,toks:=s₂.toks+([]:γ (Str×ζ)).length}:=by
  refine⟨ok,rfl,I2.bare,Un.laid old (by rw[hD];exact M2 _) Ma,⟨_,OF,λ i x v e1 e2 e3=>?_⟩,λ x c e=>?_,by show upd H₂ D (.lst []) C=Ch;rw[au<|A09 _E];exact hCn,λ x c e=>?_,λ p hp=>absurd (show p∈([]:γ (δ×μ))from hp) ∅,Hd,by simp[mY,B.len],I2.tab.up λ b u _ e=>by rw[au<|aT e Ma];exact e⟩
  .unfold mY at e2;by_cases hi:i<n
   .rw[A21 (by simpa using hi),A49]at e2;split at e2<;>cases e2
   .rw [A43 (by simpa using hi),A06] at e2;simp only[A77]at e2;cases q:is[i-n]? with
    |none=>rw[q]at e2;cases e2
    |some j=>
     rw[q]at e2;simp only[A62]at e2;let⟨x',c1,c2,c3⟩:=B.cap (i-n) j q;have oN:n+(i-n)=i:=by lia
     rw[oN]at c1;have Rg:N'[i]?=AC x:=e1;rw[c1]at Rg;cases Rg;have hσ:σ[j]?=AC (AC v):=by
      cases r:σ[j]? with
      |none=>rw[r]at e2;cases e2
      |some y=>
       rw[r]at e2;have:y=AC v:=by simpa using e2
       rw[this]
     let⟨m,hn,hl⟩:=I2.loc;have hm:=A64 c3;have hk:=B.free _ hm rfl;have TQ:LG X.env.scope x:=by
      rcases hk with k|k
      .exact .inr<|.inl k
      .exact .inr<|.inr k
     let⟨u,ru,lk⟩:=hl j x v c2 hσ TQ;refine⟨u,ru,?_⟩;rcases lk with⟨k1,_⟩|⟨k1,c,hc,qP⟩
     .have Oi:X.env.scope.names.lookup x=AC .local:=k1;rcases hk with k|k
      .rw[k]at Oi;cases Oi
      .rw[k]at Oi;cases Oi
     .let⟨c',qQ⟩:=A68.mp (tW _ hm rfl);have:c'=c:=by have:=iX x c' qQ;rw[hc]at this;exact(A05 this).symm
      subst this;refine .inr ⟨?_,c',qQ,(uz x c' hc).2 _ qP⟩;show(relabel scope X.env).names.lookup x=AC .cell\/(relabel scope X.env).names.lookup x=AC .free;have e:=iF (env:=X.env) (x:=x) scope.names;have e':(relabel scope X.env).names.lookup x=_:=e;rw[e',c3];simp only[A62];split
      .exact .inl rfl
      .exact .inr rfl
  .let⟨v,hv⟩:=I2.cell x c (iX x c e);exact⟨v,(uz x c<|iX x c e).2 v hv⟩
  .have jc:=(uz x c<|iX x c e).1;rw[au<|ne2 c jc];exact I2.gq x c<|iX x c e
 have rs4:RS X.K H₂ (upd H₂ D<|.lst []) (mY σ n is) (Do n Ch++Z.c! ρ is):=IC re<|bT Ma;have st4:tn 0 h₁:=T.keep 0 _ _ Ho λ b hb o e=>old b o e;have fr4:∀b∈fp,(upd H₂ D<|.lst []) b=Ch:=λ b hb=>by rw[au<|ne2 b<|Uq b hb];exact(fo b hb).1
 -- _7 stays true of RU Cj objects
 have BH:∀{H'},(∀b∈fp,H' b=Ch)->∀b∈fp,pw (kP X N' scope cl C fp s₂ H₂) [] H' b:=λ hn b hb=>by
  refine⟨hn b hb,(below b (by rw[<-hD];exact Uq b hb)).1,?_,.inl hb,λ x c e=>(fo b hb).2.2.2.2.1 x c<|iX x c e,λ p hp=>absurd (show p∈([]:γ (δ×μ))from hp) ∅⟩;intro q;rcases A01.mp (I2.pL b q)with q|q
  .exact(fo b hb).2.1 q
  .exact(fo b hb).2.2.1 q
 have loop:codeAny (model X.prog X.w) X.A (.compLoop (.ListComp elt [⟨tg,iter,ifs,0⟩] scope pos) 0 (.ref it) (.ref D)<|compEnvC scope cl C X.env) (λ r s'=>r=.ok .next/\_U X χ σ H₂ ys (.ref D) C s')
  {s₂ with heap:=h₁,toks:=s₂.toks+([]:γ (Str×ζ)).length}:=by
  refine mz (λ m s'=>∃i σ' H' vs zs,m=ds.length+1-i/\i<=ds.length/\vs.length<=i/\Inv (kP X N' scope cl C fp s₂ H₂) [] σ' H' s'/\tn i s'.heap/\(∀b∈fp,H' b=Ch)/\H' D=AC (.lst vs)/\aw H₂ H' /\
   RS X.K H₂ H' σ' (Do n Ch++Z.c! ρ is)/\(∃rest,Z.bC G t fe (Do n Ch++Z.c! ρ is) (ds.drop i)=.ok rest/\zs++rest=ys)/\aq X.K H' zs vs) ?_ (ds.length+1)
   ⟨0,mY σ n is,_,[],[],rfl,A47 _,M2 _,I4,st4,fr4,aA,bT Ma,rs4,⟨ys,by simpa using ego,rfl⟩,aq.nil⟩
  .rintro m s' ⟨i,σ3,H3,vs,zs,rfl,Am,_r,I3,Qs,YK,_F,LU,re3,⟨rest,er,ez⟩,dz⟩;by_cases jc:i<ds.length
   .obtain⟨d,hd⟩:∃d,ds[i]?=AC d:=⟨ds[i],by simp[jc]⟩
    have tU:ds.drop i=d::ds.drop (i+1):=by
     rw[A93 jc];have:ds[i]=d:=by have:=A00 jc;rw[this]at hd;exact A05 hd
     rw[this]
    rw[tU]at er;unfold Z.bC at er;let⟨ρ1,eg,er⟩:=al er;let⟨c1,ec,er⟩:=al er;refine b! (T.item (kP X N' scope cl C fp s₂ H₂) rfl rfl rfl cM i [] s' σ3 H3 (λ _ _=>False) I3 (BH YK) Qs<|zg i d H3 LU hd) ?_;rintro r s4 ⟨u,hr,h4⟩;subst hr;refine b! h4 ?_;rintro _ s5 ⟨x,H5,I5,r5,y5,xq,fr5⟩;let⟨sy,dx⟩:=zy i d H3 H5 x LU hd y5;replace re3:=re3.up sy;replace LU:=LU.trans sy;replace _F:=sy _ _ _F;replace dz:=dz.up sy;have I5':=I5.pinned (BH fr5)<|T.obj _ _ xq;have rs5:RS X.K H₂ H5 σ3 (Do n Ch++Z.c! ρ is):=re3;refine b! (hg C s₂ H₂ H₂ _ s5 σ3 H5 x u (λ σ6 H6=>aw H5 H6/\RS X.K H₂ H6 σ6 ρ1) I5' r5 ⟨_,d,ρ1,rs5,dx,eg,λ σ' H' s' r'=>⟨s',r'⟩⟩) ?_;rintro _ s6 ⟨σ6,H6,I6,sm6,ZV⟩;refine b! (ht C s₂ s6 H₂ _ σ6 H6 (λ b H7=>b=c1/\aw H6 H7) I6 ⟨ρ1,c1,ZV.re,ec,λ H7 s7=>⟨rfl,s7⟩⟩) ?_;rintro ok s7 ⟨H7,I7,e7,sm7⟩;subst e7;have Ij:aw H5 H7:=sm6.trans sm7;have re7:RE X.K H7 σ6 ρ1:=ZV.re.up sm7;have re0:∀{H9},aw H7 H9->RS X.K H₂ H9 σ6 (Do n Ch++Z.c! ρ is):=λ {H9} s9=>by
     let⟨gl,gk⟩:=hG d _ ρ1 eg;refine⟨(ZV.same.trans sm7).trans s9,⟨by rw[<-gl];exact re7.len,λ j l e=>?_,λ j k xs ys q e1=>absurd e1<|fA n is ρ j xs⟩,λ j xs q e1=>absurd e1<|fA n is ρ j xs,λ j xs e=>?_,jP.non<|qf n is ρ⟩;rotate_left
     .by_cases hj:n<=j
      .rw[<-gk j hj]at e;exact ZV.ph j xs e
      .rw[A21 (by simp;lia),A49]at e;split at e<;>cases e
     by_cases hj:n<=j
     .rw[<-gk j hj]at e;exact(re7.up s9).get j l e
     .rw[A21 (by simp;lia),A49]at e;split at e<;>cases e
    have fin:∀{H9}{s9} V' Zz,Inv (kP X N' scope cl C fp s₂ H₂) ([]++sV fp s5.heap) σ6 H9 s9->H9 D=AC (.lst V')->V'.length<=i+1->aw H₂ H9->RS X.K H₂ H9 σ6 (Do n Ch++Z.c! ρ is) ->
     (∃ rest,Z.bC G t fe (Do n Ch++Z.c! ρ is) (ds.drop<|i+1)=.ok rest/\Zz++rest=ys)->aq X.K H9 Zz V'->∃ m,m<ds.length+1-i/\∃ i σ' H' vs zs,m=ds.length+1-i/\i<=ds.length/\vs.length<=i/\Inv (kP X N' scope cl C fp s₂ H₂) [] σ' H' s9/\tn i s9.heap/\(∀ b∈fp,H' b=Ch)/\H' D=AC (.lst vs)/\aw H₂ H' /\
      RS X.K H₂ H' σ' (Do n Ch++Z.c! ρ is)/\(∃rest,Z.bC G t fe (Do n Ch++Z.c! ρ is) (ds.drop i)=.ok rest/\zs++rest=ys)/\aq X.K H' zs vs:=by
     intro H9 s9 V' Zz I9 hD9 hv9 Wu re9 er9 dz9;refine⟨ds.length+1-(i+1),by lia,i+1,σ6,H9,V',Zz,rfl,jc,hv9,I9.nV,T.keep _ _ _ xq λ b hb o e=>(I9.pin (b,o)<|A42 _<|A42 _<|jY hb e).1,λ b hb=>?_,hD9,Wu,re9,er9,dz9⟩;let⟨o,e,_⟩:=T.obj _ _ xq b hb;exact(I9.pin (b,o)<|A42 _<|A42 _<|jY hb e).2.1
    have hD7:H7 D=AC (.lst vs):=Ij _ _ _F;cases ok with
    |false=>simp only[A52,A60]at er ⊢;exact fin vs zs I7 hD7 (B12 _r) (LU.trans Ij) (re0<|aw.refl _) ⟨rest,er,ez⟩<|dz.up Ij
    |true=>
     simp only[A29]at er ⊢;let⟨y,ey,er⟩:=al er;let⟨WI,er2,er⟩:=al er;cases er;refine b! (he C s₂ H₂ _ s7 σ6 H7 (λ v H8=>aw H7 H8/\Den X.K H8 y v) I7 ⟨ρ1,y,re7,ey,λ v H8 s8 d8=>⟨s8,d8⟩⟩) ?_;rintro u8 s8 ⟨v8,H8,I8,rv8,ZO,dy⟩;have hD8:H8 D=AC (.lst vs):=ZO _ _ hD7;have aao:aw H₂ H8:=(LU.trans Ij).trans ZO;refine b! (vX (X:=kP X N' scope cl C fp s₂ H₂) _ s8 σ6 H8 (.ref D) [v8] (.ref D) [u8] (λ v H9=>v=.non/\H9=upd H8 D (.lst<|vs++[v8])) I8 rfl (.cons rv8 .nil) ⟨D,vs,v8,rfl,rfl,hD8,?_,rfl,rfl⟩) λ _ s9 ⟨v9,H9,I9,_,_,e9⟩=>?_
     .rw[A25];have:Z.line=16777216:=rfl;lia
     subst e9;have Qr:gv H8 (upd H8 D<|.lst<|vs++[v8]):=i? hD8;have Wu:aw H₂ (upd H8 D<|.lst<|vs++[v8]):=λ b o e=>by rw[au<|aT e Ma];exact aao b o e
     have Vw:=re0 ZO;refine fin (vs++[v8]) (zs++[y]) I9 aA (by simp;lia) Wu ⟨Wu,⟨Vw.re.len,λ j l e=>?_,λ j k xs ys q e1=>absurd e1<|fA n is ρ j xs⟩,λ j xs q e1=>absurd e1<|fA n is ρ j xs,Vw.ph,Vw.yO⟩ ⟨WI,er2,by rw[A70];exact ez⟩<|(((dz.up Ij).up ZO).append<|aq.cons dy aq.nil).ups Qr;let⟨v,h1,h2⟩:=Vw.re.get j l e;refine⟨v,h1,?_⟩;cases l with
     |val dd=>exact Den.ups (show Den X.K H8 dd v from h2) Qr
     |own xs=>exact absurd e<|fA n is ρ j xs
     |bor xs=>let⟨v',h3,h4⟩:=Vw.ph j xs e;rw[h1]at h3;cases h3;exact h4.re h2 Vw.same Wu Qr
     |dc ks=>exact absurd e<|qf n is ρ j ks
     |Kq ks=>let⟨q',o',as,rfl,fE,t'⟩:=h2;exact⟨q',o',as,rfl,Qr.eJ _ _ _ fE,t'.ups Qr⟩
     |TM ps=>let⟨q',o',rfl,fE⟩:=h2;exact⟨q',o',rfl,Qr.eJ _ _ _ fE⟩
     |exc c=>let⟨q',o',u',C',rfl,fE,r1,r2,r3⟩:=h2;exact⟨q',o',u',C',rfl,Qr.eJ _ _ _ fE,r1,r2,r3.ups Qr⟩
   .have:i=ds.length:=by lia
    subst this;rw[B55]at er;cases er;rw[A48]at ez;subst ez;refine b! (T.done (kP X N' scope cl C fp s₂ H₂) rfl rfl rfl cM _ [] s' σ3 H3 (λ _ _=>False) I3 (BH YK) Qs<|zst H3 LU) ?_;rintro r s4 ⟨hr,J4⟩;subst hr;let⟨m',Q5,_⟩:=J4.loc;have Jq:∀b o,s₂.heap.get? b=AC o->b≠C:=λ b o e=>(below b (by rw[<-hD];exact A02 e)).1;have I9:Inv X χ σ H3 s4:=I2.Ln (s':=s4) J4.os J4.base J4.bG J4.bare λ b hb=>⟨(fo b hb).2.2.2.1,(fo b hb).2.1,(fo b hb).2.2.2.2.1,(fo b hb).2.2.2.2.2⟩
    have szC:s₂.heap.objs.size<=C:=by rw[hD,hC];exact A59 _
    refine⟨rfl,D,H3,vs,m',rfl,Q5,I9,⟨J4.free,?_,A11 I2.sz szC,λ x c e=>?_,λ p hp=>?_⟩,Ma,LU,_F,dz⟩
    .exact A45<|A19 I2.lt szC
    .exact A13<|A19 (uz x c e).1 szC
    .exact Jq p.1 p.2 (I2.pin p hp).1
 have oJ:codeAny (model X.prog X.w) X.A (.compStart (.ListComp elt [⟨tg,iter,ifs,0⟩] scope pos) 0 (.ref it) (.ref D)<|compEnvC scope cl C X.env) (λ r s'=>r=.ok .next/\_U X χ σ H₂ ys (.ref D) C s')
  {s₂ with heap:=h₁,toks:=s₂.toks+([]:γ (Str×ζ)).length}:=codeAny_compStart_list loop<|T.self _ 0 _ _ _ st4 loop
 exact oJ
theorem j5(h:k<n)(d:Z.D)(ρ ρ1:Z.Env)(e:Z.aG k d ρ=.ok ρ1):ρ1.length=ρ.length/\∀i,n<=i->ρ1[i]?=ρ[i]?:=by cases e;exact⟨by simp,λ i hi=>A33 ∅⟩
theorem qS:∀ks,(∀k∈ks,k<n)->∀ds ρ ρ1,Z.hU ks ds ρ=.ok ρ1->ρ1.length=ρ.length/\∀i,n<=i->ρ1[i]?=ρ[i]?
|[],_,[],ρ,ρ1,e=>by cases e;exact⟨rfl,λ _ _=>rfl⟩
|[],_,_::_,_,_,e=>by cases e
|_::_,_,[],_,_,e=>by cases e
|k::ks,h,d::ds,ρ,ρ1,e=>by let⟨h1,h2⟩:=qS ks (λ k hk=>h k<|A07 _ hk) ds _ ρ1 e;refine⟨by rw[h1];simp,λ i hi=>?_⟩;rw[h2 i hi];have:=h k A08;exact A33 ∅
theorem Gx(h:∀k∈ks,k<n)(d:Z.D)(ρ ρ1:Z.Env)(e:Z.dE ks d ρ=.ok ρ1):ρ1.length=ρ.length/\∀i,n<=i->ρ1[i]?=ρ[i]?:=by
 unfold Z.dE at e;split at e
 .exact qS ks h _ ρ ρ1 e
 .cases e
def Zj(X:Cx)(ifs:γ θ)(t:Z.TF):Prop:=∀(χ:γ (δ×μ))(s:η)(σ:St)(H:Hp)(Q:Bool->Hp->Prop),Inv X χ σ H s->Wg X.K t σ H Q ->
 Ev (model X.prog X.w) X.A (forIn ifs Da λ c r=>if r=Da then do let ok ←isTrue c X.env (eval c X.env);pure (Gc ok)else pure (Gc r)) (TP X χ σ Q) X.xe s
structure _root_.Lake.ZQ.He(X:Cx)(ifs:List Expr)(t:Z.TF):Prop where p:Zj X ifs t
theorem _root_.Lake.ZQ.BB:ZQ.He X [] Z.bI:=⟨by rintro χ s σ H Q I ⟨ρ,b,r,e,k⟩;cases e;exact wpAny_tests_nil ⟨H,I,k H<|aw.refl H⟩⟩
theorem _root_.Lake.ZQ.De(h:ZQ.QT X c t):ZQ.He X [c] t:=⟨λ χ s σ H Q I w=>wpAny_tests_one<|h.p χ s σ H Q I w⟩
theorem AY(cM:X.calm=Da)(hi:DI X tg iter it)(B:uK X.N N' n is scope X.env.scope)
 (hG:Gk G n)
 (hg:∀cl C fp s H H0,DG (kP X N' scope cl C fp s H) H0 tg G) (ht:∀cl C fp s H,Zj (kP X N' scope cl C fp s H) ifs t) (he:∀cl C fp s H,DE (kP X N' scope cl C fp s H) elt fe)
 (hs:Fi iter X.env)
 (I:Inv X χ σ H s) (re:RE X.K H σ ρ) (ec:Z.bf it n is G t fe ρ=.ok ys)
 (fin:∀acc C s' H₂,aw H H₂->_U X χ σ H₂ ys acc C s'->compPost (model X.prog X.w) X.A X.xe use Q acc C (.ok .next) s') :
 Ev (model X.prog X.w) X.A (comprehension (.ListComp elt [⟨tg,iter,ifs,0⟩] scope pos) scope X.env ps (newList []) AT (eval iter X.env) use) Q X.xe s:=by
 let⟨ds,ei,ec⟩:=al ec;unfold Z.guard at ec;split at ec
 .rename_i ψ;have qO:∀y∈scope.names,y.2=.free->∃c,X.env.cells.lookup y.1=AC c:=λ y hy hf=>I.ok.has y.1<|B.free y hy hf;let⟨cl,lY,iX,tW⟩:=jr qO;refine wpAny_comprehension_free rfl hs lY B.kind B.loc ?_;refine b! (hi χ s σ H (λ J H₂=>aw H H₂/\E8 X.K J _ ds) I ⟨ρ,ds,re,ei,λ J H' s' z=>⟨s',z⟩⟩) λ x s₁ h₁=>?_;refine b! h₁ ?_;rintro itv s₂ ⟨it',fp,tn,J,H₂,e2,I2,T,Ho,fo,sm,z⟩;subst e2;refine b! (Lk (R:=Den X.K) (iter:=iter) (pos:=pos) cM B I2 T Ho fo z.go z.Be z.stop (re.up sm) iX tW hG (λ C s H H0=>hg cl C fp s H H0) (λ C s s' H' mG σ' Ru Q' I' w=>ht cl C fp s H' mG s' σ' Ru Q' I' w) (λ C s H=>he cl C fp s H) ψ ec) λ acc s₃ h₃=>?_;refine b! h₃ λ U1 s₄ h₄=>A87 h₄ ?_;rintro r s' ⟨er,WJ⟩;subst er;exact fin acc _ s' H₂ sm WJ
 .cases ec
theorem _root_.Lake.ZQ.KZ(hi:ZQ.QI X tg iter it)(he:∀{cl C fp s H},ZQ.QE (kP X N' scope cl C fp s H) elt fe)(ht:∀{cl C fp s H},ZQ.He (kP X N' scope cl C fp s H) ifs t:=by exact BB)(hg:∀{cl C fp s H H0},ZQ.QG (kP X N' scope cl C fp s H) H0 tg G:=by exact lH)(cM:X.calm=Da:=by rfl)(B:uK X.N N' n is scope X.env.scope:=by exact ZS.uK.of (by kernel_rfl))(hG:Gk G n:=by exact ZS.j5 ∅)(hs:Fi iter X.env:=by intro _;rfl):ZQ.QL X (.ListComp elt [⟨tg,iter,ifs,0⟩] scope pos) (Z.bf it n is G t fe):=⟨by have hg:∀cl C fp s H H0,DG (kP X N' scope cl C fp s H) H0 tg G:=λ _ _ _ _ _ _=>hg.p;have ht:∀cl C fp s H,Zj (kP X N' scope cl C fp s H) ifs t:=λ _ _ _ _ _=>ht.p;have he:∀cl C fp s H,DE (kP X N' scope cl C fp s H) elt fe:=λ _ _ _ _ _=>he.p;intro χ s σ H Q I w;let⟨ρ,ys,re,e,k⟩:=w;rw[eval_ListComp];refine AY cM hi.p B hG hg ht he hs I re e λ acc C s' H₂ sm WJ=>?_;let⟨D,H',vs,m,rfl,J',I',off,Ma,Vq,hD,dz⟩:=WJ;exact⟨m,J',λ h' we=>⟨.ref D,H',off.inv I' we,rfl,k D vs H' (sm.trans Vq) (sm.free Ma) hD dz⟩⟩⟩
theorem Lj(cM:X.calm=Da)(hN:X.N.Nodup)(Gr:X.N[i]?=AC x)(hx:Loc X.env.scope x)
 (TU:Sw elt tg iter ifs scope pos x px BI X.env) (hi:DI X tg iter it) (B:uK X.N N' n is scope X.env.scope) (hG:Gk G n)
 (hg:∀cl C fp s H H0,DG (kP X N' scope cl C fp s H) H0 tg G) (ht:∀cl C fp s H,Zj (kP X N' scope cl C fp s H) ifs t) (he:∀cl C fp s H,DE (kP X N' scope cl C fp s H) elt fe)
 (hs:Fi iter X.env) (hf:X.fn x=Da\/X.env.scope.names.lookup x=AC .local) (I:Inv X χ σ H s) (re:RE X.K H σ ρ) (e:Z.bf it n is G t fe ρ=.ok ys)
 (k:∀q vs H',aw H H'->H q=Ch->H' q=AC (.lst vs)->aq X.K H' ys vs->∃Ru,(∀s',Inv X χ (σ.set i<|some<|.ref q) H' s'->Inv X χ (σ.set i<|some<|.ref q) Ru s')/\D.nx (σ.set i<|some<|.ref q) Ru) :
 Ev (model X.prog X.w) X.A (exec (.Assign [.Name x px] (.ListComp elt [⟨tg,iter,ifs,0⟩] scope pos) BI) X.env) (SP X χ D) X.xe s:=by
 rw[exec_Assign_Name_used _ _ _ _ TU];refine T0<|B32<|T0 ?_;refine T0<|A20 (AY cM hi B hG hg ht he hs I re e λ acc C s' H₂ sm WJ=>?_) (λ _ s' hq=>P3<|P3 hq) λ _ _ e=>e;let⟨q,H',vs,m,rfl,J',I',off,Ma,Vq,hD,dz⟩:=WJ;let⟨Ru,hI,hnx⟩:=k q vs H' (sm.trans Vq) (sm.free Ma) hD dz;refine wpAny_assign_Name<|vJ I' hN Gr hx (v:=.ref q) rfl (λ Vt I'' ⟨⟨a,sb,ha⟩,_⟩=>?_) hf;have hCa:C≠a:=by
  rcases ha with rfl|ha
  .exact off.loc
  .exact λ z=>off.cell x a ha z.symm
 refine⟨m,J'.sameBut sb hCa,λ h' we=>⟨_,Ru,?_,hnx⟩⟩;exact hI _<|off.inv I'' we
theorem O_(cM:X.calm=Da)(hN:X.N.Nodup)(Gr:X.N[i]?=AC x)(hx:Loc X.env.scope x)
 (hi:DI X tg iter it) (B:uK X.N N' n is scope X.env.scope) (hG:Gk G n)
 (hg:∀cl C fp s H H0,DG (kP X N' scope cl C fp s H) H0 tg G) (ht:∀cl C fp s H,Zj (kP X N' scope cl C fp s H) ifs t) (he:∀cl C fp s H,DE (kP X N' scope cl C fp s H) elt fe)
 (TU:Sw elt tg iter ifs scope pos x px BI X.env:=by rfl)
 (hs:Fi iter X.env:=by intro _;rfl) (hf:Fl X x:=by trivial) :
 DS X H0 (.Assign [.Name x px] (.ListComp elt [⟨tg,iter,ifs,0⟩] scope pos) BI) (Z.mm i<|Z.bf it n is G t fe):=by
 intro χ s σ H D I w;let⟨ρ,fl,rs,e,k⟩:=w;let⟨ys,ey,e⟩:=al e;cases e;refine Lj cM hN Gr hx TU hi B hG hg ht he hs hf I rs.re ey λ q vs H' s' hn h1 t'=>⟨H',λ _ j=>j,?_⟩
 exact k _ H' (jR s')<|(rs.up s').Wx h1 t' (rs.same.free hn) λ j xs _ e=>rs.noq hn j xs e
theorem _root_.Lake.ZQ.yq(cM:X.calm=Da)(hN:X.N.Nodup)(Gr:X.N[i]?=AC x)(hx:Loc X.env.scope x)
 (hi:ZQ.QI X tg iter it) (B:uK X.N N' n is scope X.env.scope) (hG:Gk G n)
 (hg:∀cl C fp s H H0,ZQ.QG (kP X N' scope cl C fp s H) H0 tg G) (ht:∀cl C fp s H,ZQ.He (kP X N' scope cl C fp s H) ifs t) (he:∀cl C fp s H,ZQ.QE (kP X N' scope cl C fp s H) elt fe)
 (TU:Sw elt tg iter ifs scope pos x px BI X.env:=by rfl)
 (hs:Fi iter X.env:=by intro _;rfl) (hf:Fl X x:=by trivial) :
 ZQ.QS X H0 (.Assign [.Name x px] (.ListComp elt [⟨tg,iter,ifs,0⟩] scope pos) BI) (Z.aK i<|Z.eL<|Z.bf it n is G t fe):=⟨by
 have hg:=λ y0 y1 y2 y3 y4 y5=>(hg y0 y1 y2 y3 y4 y5).p;have ht:=λ y0 y1 y2 y3 y4=>(ht y0 y1 y2 y3 y4).p;have he:=λ y0 y1 y2 y3 y4=>(he y0 y1 y2 y3 y4).p;have h1:DS X H0 _ _:=O_ cM hN Gr hx hi.p B hG hg ht he TU hs hf;intro χ s σ H D I w;let⟨ρ,fl,rs,e,k⟩:=w;let⟨d,ed,e⟩:=al e;cases e;unfold Z.eL at ed;cases ey:Z.bf it n is G t fe ρ with
 |bad=>rw[ey]at ed;cases ed
 |ok ys=>
  rw[ey]at ed;cases ed;refine b! (h1 χ s σ H {D with nx:=λ σ' H'=>gv H H'/\RS X.K H0 H' σ' _} I ⟨ρ,.nx<|ρ.set i<|some<|.own ys,rs,by show(Z.bf it n is G t fe ρ).bind _=_;rw[ey];rfl,λ σ' H' s' r'=>⟨s',r'⟩⟩) λ fl' s' h=>?_;cases fl' with
  |next=>
   let⟨σ',H',I',yH,Dz⟩:=h;by_cases hl:i<ρ.length
   .have ei:(ρ.set i<|some<|Z.L.own ys)[i]?=AC (AC<|.own ys):=A41 hl;let⟨v,si,q,us,rfl,hq,t'⟩:=Dz.re.get i _ ei;let⟨o,I2⟩:=nr I' hq;have r2:=Dz.eJ (o:=o) ei si hq t';rw[List.set_set]at r2;exact⟨σ',_,I2,k σ' _ (yH.trans<|i? hq) r2⟩
   .have e0:ρ.set i (AC<|Z.L.own ys)=ρ:=C44 ∅;have e1:ρ.set i (AC<|Z.L.val<|.lst ys)=ρ:=C44 ∅;rw[e0]at Dz;have k':=k;rw[e1]at k';exact⟨σ',H',I',k' σ' H' yH Dz⟩
  |brk=>exact h
  |cont=>exact h
  |ret u=>exact h⟩
end
section
variable{P:ο}{w:ξ}{K:Db}{mg:Str->ε ζ}{base:ν}
theorem pM(t:aq K H ds vs)(hl:vs.length<=N.length):RS K H H (L2.start N vs) (Z.start N.length ds):=by
 have zX:∀(i:Nat) xs,(Z.start N.length ds)[i]?≠AC (AC<|.own xs):=by
  intro i xs e;unfold Z.start at e;by_cases hi:i<ds.length
  .rw[A21 (by simpa using hi),A06]at e;cases q:ds[i]? with
   |none=>rw[q]at e;cases e
   |some d=>rw[q]at e;cases e
  .rw[A43 (by simpa using hi),A49]at e;split at e<;>cases e
 have Xn:∀(i:Nat) xs,(Z.start N.length ds)[i]?≠AC (AC<|.bor xs):=by
  intro i xs e;unfold Z.start at e;by_cases hi:i<ds.length
  .rw[A21 (by simpa using hi),A06]at e;cases q:ds[i]? with
   |none=>rw[q]at e;cases e
   |some d=>rw[q]at e;cases e
  .rw[A43 (by simpa using hi),A49]at e;split at e<;>cases e
 have Xm:∀(i:Nat) ks,(Z.start N.length ds)[i]?≠AC (AC<|.dc ks):=by
  intro i ks e;unfold Z.start at e;by_cases hi:i<ds.length
  .rw[A21 (by simpa using hi),A06]at e;cases q:ds[i]? with
   |none=>rw[q]at e;cases e
   |some d=>rw[q]at e;cases e
  .rw[A43 (by simpa using hi),A49]at e;split at e<;>cases e
 have ψ:=t.length;refine⟨aw.refl H,⟨?_,λ i l e=>?_,λ i j xs ys q e1=>absurd e1<|zX i xs⟩,λ i xs q e1=>absurd e1<|zX i xs,λ i xs e1=>absurd e1<|Xn i xs,jP.non Xm⟩
 .unfold Z.start L2.start;simp;lia
 .unfold Z.start at e;by_cases hi:i<ds.length
  .rw[A21 (by simpa using hi),A06]at e;cases q:ds[i]? with
   |none=>rw[q]at e;cases e
   |some d=>rw[q]at e;cases e;let⟨v,h1,h2⟩:=t.get q;refine⟨v,?_,h2⟩;unfold L2.start;rw[A21 (by simp;lia),A06,h1];rfl
  .rw[A43 (by simpa using hi),A49]at e;split at e<;>cases e
theorem fnZ{st:ι}(F:Bc K x qual st f fd)(S:a8 N ps (ae st))
 (hb:∀ a9 A outer s H E,bh k (A.deeper<|envOfC qual (ae st) s.heap.objs.size f a9) ->
  Mg (dM il P w K mg base N qual (ae st) f a9 A outer s H E).fP H (az st) b):d9 P w K mg base il (k+1) f fd ps (yI K<|Z.fn ps.length N.length b):=by
 have ψ:∀vs H Q E,yI K (Z.fn ps.length N.length b) vs H Q E->vs.length=ps.length:=by
  rintro vs H Q E ⟨ds,d,t,e,_⟩;unfold Z.fn at e;split at e
  .rename_i h;rw[t.length];exact h
  .cases e
 refine F.ok S ψ λ a9 A outer s H vs Q E hr h=>⟨_,hb a9 A outer s H E hr,?_⟩;have hl:=ψ vs H Q E h;let⟨ds,d,t,e,k⟩:=h;have d!:ps.length<=N.length:=by have:=A12 List.length S.pre;rw[A30]at this;lia
 have rs:RS K H H _ (Z.start N.length ds):=pM t ∅;unfold Z.fn at e;split at e
 .cases eb:b (Z.start N.length ds)with
  |bad=>rw[eb]at e;cases e
  |ok fl=>
   rw[eb]at e;refine⟨_,fl,rs,eb,?_⟩;cases fl with
   |rt d'=>cases e;exact λ v H' s' dv=>k v H' s' dv
   |nx ρ'=>cases e;exact λ σ' H' _ Dz=>k .non H' Dz.same ka
   |bk ρ'=>cases e
   |ct ρ'=>cases e
 .cases e
end
noncomputable def Ro(N N':γ Str)(n:Nat)(is:γ Nat)(sc Sr:ς):Bool:=
 (sc.kind==.function)&&sc.names.all (λ y=>y.2 != .cell)&&sc.names.all (λ y=>y.2 != .local||sc.names.lookup y.1==AC .local) &&
 sc.names.all (λ y=>y.2 != .free||Sr.names.lookup y.1==AC .cell||Sr.names.lookup y.1==AC .free)&&(N'.length==n+is.length) &&
 (FB is.length).all (λ j=>match is[j]?,N'[n+j]? with
  |some i,AC x=>N[i]?==AC x&&sc.names.lookup x==AC .free
  | _,_=>AT) &&
 (FB n).all (λ j=>match N'[j]? with
  |some x=>sc.names.lookup x==AC .local
  | none=>AT)
theorem uK.of(h:Ro N N' n is sc Sr=Da):uK N N' n is sc Sr:=by
 unfold Ro at h;simp only[A38,A31,A26,Bool.or_eq_true,bne_iff_ne,A24]at h;let⟨⟨⟨⟨⟨⟨h1,h2⟩,h3⟩,h4⟩,h5⟩,h6⟩,h7⟩:=h;refine⟨h1,h2,λ y hy e=>?_,λ y hy e=>?_,h5,λ j i e=>?_,λ j hj=>?_⟩
 .rcases h3 y hy with q|q
  .exact absurd e q
  .exact q
 .rcases h4 y hy with(q|q)|q
  .exact absurd e q
  .exact .inl q
  .exact .inr q
 .have hj:=(A03.mp e).1;have q:=h6 j hj;rw[e]at q;cases r:N'[n+j]? with
  |none=>rw[r]at q;cases q
  |some x=>rw[r]at q;simp only[A38,A26]at q;exact⟨x,rfl,q.1,q.2⟩
 .have q:=h7 j hj;cases r:N'[j]? with
  |none=>rw[r]at q;cases q
  |some x=>rw[r]at q;exact⟨x,rfl,A26.mp q⟩
structure Def(K:Db)(mg:Str->Option Value)(x:Str)(st:Stmt)(ps:List Str):Prop where
 ex:∃f fd,Bc K x x st f fd/\mg x=AC (.ref f)/\Binds K fd ps []
structure fD(P:Program)(w:World)(K:Db)(mg:Str->Option Value)(base:Heap)(x:Str)(k:Nat)(ps:List Str)(m:List Z.D->Z.Res Z.D):Prop where
 ex:∃g fd,d9 P w K mg base il k g fd ps (yI K m)/\mg x=AC (.ref g)/\Fa K (.ref g)=Da/\Binds K fd ps []
theorem fD.mk'{K:Db}{st:ι}(d:Def K mg x st ps)(S:a8 N ps (ae st))
 (hb:∀ f a9 A outer s H E,bh k (A.deeper<|envOfC x (ae st) s.heap.objs.size f a9) ->
  Mg (dM il P w K mg base N x (ae st) f a9 A outer s H E).fP H (az st) b):fD P w K mg base x (k+1) ps (Z.fn ps.length N.length b):=by
 let⟨f,fd,F,hm,wj⟩:=d.ex;exact⟨f,fd,fnZ F S<|hb f,hm,F.kp,wj⟩
section
variable{X:Cx}{e:θ}{es:γ θ}{pos:Pos}
theorem _root_.Lake.ZQ.cH(C:fD X.prog X.w X.K X.mg X.base x k ps m)(ha:ZQ.QA X (e::es) ar)(gi:Nd x:=by kernel_rfl)(he:Se e es X.env:=by rfl)(d!:Pn pos es X.env:=by rfl)(hr:bh k X.A:=by first|assumption|exact L2.bh.mono (by assumption) (by first|decide|lia))(hg:Gl X x:=by rfl):ZQ.QE X (.Call (.Name x p1) (e::es) [] pos) (Z.aj m ar):=
 ⟨by let⟨_,_,F,hm,hk,hb⟩:=C.ex;exact Px F hr hg hm hk hb ha.p gi he d!⟩
end
theorem _root_.Lake.ZQ.GV(hm:X.mg x=AC (.int i t))(hb:Nd x:=by kernel_rfl)(hg:Gl X x:=by rfl):ZQ.QE X (.Name x pos) (Z.eI i):=
 ⟨Pu (v:=.int i) hg hm ⟨t,rfl⟩ (λ _=>bZ) hb⟩
theorem BN{K:Db}{ns:γ Int}(hO:Qd H)(h:i4 K H a (ns.map V.int)):Den K H (.lst<|ns.map Z.D.int) (.ref a):=by
 refine yr ?_<|aq.zints ns;rcases h with(h|⟨o,h⟩)|h
 .rcases hO a with z|⟨o,xs,z⟩|⟨q,z⟩
  .rw[h]at z;cases z
  .rw[h]at z;cases z
  .rw[h]at z;cases z
 .exact .inl ⟨o,h⟩
 .exact .inr h
theorem Ts{K:Db}{ns:γ Int}(hO:Qd H)(h:i4 K H a (ns.map V.int))(e:m [.lst (ns.map .int)]=.ok (.bl Da)):yI K m [.ref a] H (λ v _=>v=.bl Da) λ _ _ _=>False:=
 ⟨_,_,aq.cons (BN hO h) aq.nil,e,λ v H' _ d=>by simpa only[Den]using d⟩
section
variable{X:Cx}{e a b:θ}{pos:Pos}{f fa fb:Z.EF}
theorem zt(x y:γ Nat):((⟨x.toArray⟩)==(⟨y.toArray⟩:Str))=(x==y):=by
 rw[A51,A26,A26];constructor
 .intro h;injection h with h;simpa using h
 .rintro rfl;rfl
theorem wc9{α:Type}{p:Prop}{x:α}(h:(none:ε α)=some x):p:=by cases h
theorem rcS{K:Db}(h:Z.VS d1 d2=AC k)(h1:bp K H d1 v1)(h2:bp K H d2 v2)(r1:RelV v1 u1)(r2:RelV v2 u2):ZB A s u1 u2 k/\Pi A s u1 u2 k/\UF A s u1 u2 (!k):=by
 cases d1 with
 |non=>rw[h1.non]at r1;cases r1;cases d2 with
  |non=>obtain rfl:=A05 h;rw[h2.non]at r2;cases r2;exact⟨SeqAt.RcAt.none_none,B98 _,SeqAt.RcNeAt.none_none⟩
  |bl=>obtain rfl:=A05 h;rw[h2.bl]at r2;cases r2;exact⟨SeqAt.RcAt.none_bool _,SeqAt.EqAt.none_bool _,SeqAt.RcNeAt.none_bool _⟩
  |int=>obtain rfl:=A05 h;rw[h2.int]at r2;obtain ⟨t2,rfl⟩:=r2;exact⟨SeqAt.RcAt.none_int _ _,SeqAt.EqAt.none_int _ _,SeqAt.RcNeAt.none_int _ _⟩
  |str=>obtain rfl:=A05 h;rw[h2.str]at r2;obtain ⟨t2,rfl⟩:=r2;exact⟨SeqAt.RcAt.none_str _ _,SeqAt.EqAt.none_str _ _,SeqAt.RcNeAt.none_str _ _⟩
  |_=>exact wc9 h
 |bl=>rw[h1.bl]at r1;cases r1;cases d2 with
  |non=>obtain rfl:=A05 h;rw[h2.non]at r2;cases r2;exact⟨SeqAt.RcAt.bool_none _,SeqAt.EqAt.bool_none _,SeqAt.RcNeAt.bool_none _⟩
  |bl=>obtain rfl:=A05 h;rw[h2.bl]at r2;cases r2;exact⟨SeqAt.RcAt.bool_bool _ _,SeqAt.EqAt.bool_bool _ _,SeqAt.RcNeAt.bool_bool _ _⟩
  |int=>obtain rfl:=A05 h;rw[h2.int]at r2;obtain ⟨t2,rfl⟩:=r2;exact⟨SeqAt.RcAt.bool_int _ _ _,SeqAt.EqAt.bool_int _ _ _,SeqAt.RcNeAt.bool_int _ _ _⟩
  |str=>obtain rfl:=A05 h;rw[h2.str]at r2;obtain ⟨t2,rfl⟩:=r2;exact⟨SeqAt.RcAt.bool_str _ _ _,SeqAt.EqAt.bool_str _ _ _,SeqAt.RcNeAt.bool_str _ _ _⟩
  |_=>exact wc9 h
 |int=>rw[h1.int]at r1;obtain ⟨t1,rfl⟩:=r1;cases d2 with
  |non=>obtain rfl:=A05 h;rw[h2.non]at r2;cases r2;exact⟨SeqAt.RcAt.int_none _ _,SeqAt.EqAt.int_none _ _,SeqAt.RcNeAt.int_none _ _⟩
  |bl=>obtain rfl:=A05 h;rw[h2.bl]at r2;cases r2;exact⟨SeqAt.RcAt.int_bool _ _ _,SeqAt.EqAt.int_bool _ _ _,SeqAt.RcNeAt.int_bool _ _ _⟩
  |int=>obtain rfl:=A05 h;rw[h2.int]at r2;obtain ⟨t2,rfl⟩:=r2;exact⟨SeqAt.RcAt.int_int _ _ _ _,SeqAt.EqAt.int_int _ _ _ _,SeqAt.RcNeAt.int_int _ _ _ _⟩
  |str=>obtain rfl:=A05 h;rw[h2.str]at r2;obtain ⟨t2,rfl⟩:=r2;exact⟨SeqAt.RcAt.int_str _ _ _ _,SeqAt.EqAt.int_str _ _ _ _,SeqAt.RcNeAt.int_str _ _ _ _⟩
  |_=>exact wc9 h
 |str=>rw[h1.str]at r1;obtain ⟨t1,rfl⟩:=r1;cases d2 with
  |non=>obtain rfl:=A05 h;rw[h2.non]at r2;cases r2;exact⟨SeqAt.RcAt.str_none _ _,SeqAt.EqAt.str_none _ _,SeqAt.RcNeAt.str_none _ _⟩
  |bl=>obtain rfl:=A05 h;rw[h2.bl]at r2;cases r2;exact⟨SeqAt.RcAt.str_bool _ _ _,SeqAt.EqAt.str_bool _ _ _,SeqAt.RcNeAt.str_bool _ _ _⟩
  |int=>obtain rfl:=A05 h;rw[h2.int]at r2;obtain ⟨t2,rfl⟩:=r2;exact⟨SeqAt.RcAt.str_int _ _ _ _,SeqAt.EqAt.str_int _ _ _ _,SeqAt.RcNeAt.str_int _ _ _ _⟩
  |str=>obtain rfl:=A05 h;rw[h2.str]at r2;obtain ⟨t2,rfl⟩:=r2;rw[<-zt];exact⟨SeqAt.RcAt.str_str _ _ _ _,SeqAt.EqAt.str_str _ _ _ _,SeqAt.RcNeAt.str_str _ _ _ _⟩
  |_=>exact wc9 h
 |_=>exact wc9 h
def Mb(g:Z.D->Z.D->ε Bool)(as bs:γ Z.D)(j:Nat):Bool:=match as[j]?,bs[j]? with
|some x,AC y=>(g x y).getD AT
|_,_=>Da
theorem lN:∀{as bs}{k},Z.allEq g as bs=AC k->k=((FB<|min as.length bs.length).all (Mb g as bs)&&as.length == bs.length)/\∀j x y,as[j]?=AC x->bs[j]?=AC y->g x y=AC (Mb g as bs j)
|[],[],k,h=>by cases h;exact⟨rfl,λ j x y e=>by simp at e⟩
|[],_::_,k,h=>by cases h;exact⟨by simp,λ j x y e=>by simp at e⟩
|_::_,[],k,h=>by cases h;exact⟨by simp,λ j x y _ e=>by simp at e⟩
|a::as,b::bs,k,h=>by
 unfold Z.allEq at h;split at h
 .rename_i p q e1 e2;cases h;let⟨h1,h2⟩:=lN e2;refine⟨?_,λ j x y ex ey=>?_⟩
  .have:min (a::as).length (b::bs).length=min as.length bs.length+1:=by simp only[A27];lia
   rw[this,C45,B99,B56,h1];have e0:Mb g (a::as) (b::bs) 0=p:=by simp[Mb,e1]
   have es:(Mb g (a::as) (b::bs)∘Nat.succ)=Mb g as bs:=by funext j;simp[Mb]
   have el:((a::as).length==(b::bs).length)=(as.length==bs.length):=by rw[A51];simp
   rw[e0,es,el,AD1]
  .cases j with
   |zero=>simp at ex ey;subst ex ey;simp[Mb,e1]
   |succ j=>have:=h2 j x y (by simpa using ex) (by simpa using ey);simpa[Mb]using this
 .cases h
theorem Ai(I:Inv X χ σ H s)(n:Nat)(hu:A.units+n<cLine)
 (ih:∀ {A}{d1 d2}{v1 v2}{u1 u2}{k},A.units+n<cLine->Z.iY n d1 d2=AC k->bp X.K H d1 v1->bp X.K H d2 v2->RelV v1 u1->RelV v2 u2->ZB A s u1 u2 k/\Pi A s u1 u2 k/\UF A s u1 u2 (!k))
  (hk:Z.allEq (Z.iY n) as bs=AC k) (ta:aq X.K H as vs) (tb:aq X.K H bs ws) (ra:Vals vs aW) (rb:Vals ws gV) :
  ∀j h1 (h2:j<gV.toArray.size),Pi A s aW.toArray[j] gV.toArray[j] (Mb (Z.iY n) as bs j):=by
 intro j hj1 hj2;have la:=ta.length;have lb:=tb.length;have ZY:=ra.length;have rb':=rb.length;simp only[A10]at hj1 hj2;obtain⟨x,ex⟩:∃x,as[j]?=AC x:=⟨as[j]'∅,A00 ∅⟩
 obtain⟨y,ey⟩:∃y,bs[j]?=AC y:=⟨bs[j]'∅,A00 ∅⟩
 let⟨vx,evx,dx⟩:=ta.get ex;let⟨vy,HB,dy⟩:=tb.get ey;let⟨ux,eux,rx⟩:=ra.get evx;let⟨uy,euy,ry⟩:=rb.get HB;have e1:aW.toArray[j]=ux:=by have:=A00 hj1;rw[eux]at this;simpa using(A05 this).symm
 have e2:gV.toArray[j]=uy:=by have:=A00 hj2;rw[euy]at this;simpa using(A05 this).symm
 rw[e1,e2];exact(ih hu ((lN hk).2 j x y ex ey) (.inl dx) (.inl dy) rx ry).2.1
theorem Kv{K:Db}(h:Z.VS d1 d2=AC k)(h1:bp K H d1 v)(h2:bp K H d2 v):k=Da:=by
 cases d1 with
 |non=>have e:=h1.non;cases d2 with
  |non=>exact (A05 h).symm
  |bl=>cases e.symm.trans h2.bl
  |int=>cases e.symm.trans h2.int
  |str=>cases e.symm.trans h2.str
  |_=>exact wc9 h
 |bl=>have e:=h1.bl;cases d2 with
  |non=>cases e.symm.trans h2.non
  |bl=>have e:=e.symm.trans h2.bl;injection e with e;rw[<-A05 h,e];exact beq_self_eq_true _
  |int=>cases e.symm.trans h2.int
  |str=>cases e.symm.trans h2.str
  |_=>exact wc9 h
 |int=>have e:=h1.int;cases d2 with
  |non=>cases e.symm.trans h2.non
  |bl=>cases e.symm.trans h2.bl
  |int=>have e:=e.symm.trans h2.int;injection e with e;rw[<-A05 h,e];exact beq_self_eq_true _
  |str=>cases e.symm.trans h2.str
  |_=>exact wc9 h
 |str=>have e:=h1.str;cases d2 with
  |non=>cases e.symm.trans h2.non
  |bl=>cases e.symm.trans h2.bl
  |int=>cases e.symm.trans h2.int
  |str=>have e:=e.symm.trans h2.str;injection e with e;rw[<-A05 h,<-zt,e];exact beq_self_eq_true _
  |_=>exact wc9 h
 |_=>exact wc9 h
theorem tQ{K:Db}(ih:∀{d1 d2}{v}{k},Z.iY n d1 d2=AC k->bp K H d1 v->bp K H d2 v->k=Da)(h:Z.allEq (Z.iY n) as bs=AC k)(ta:aq K H as vs)(tb:aq K H bs vs):k=Da:=by
 let⟨h1,h2⟩:=lN h;have la:=ta.length;have lb:=tb.length;rw[h1,show(as.length==bs.length)=Da by simp;lia,AD6,A31];intro j hj;rw[A24]at hj;obtain⟨x,ex⟩:∃x,as[j]?=AC x:=⟨as[j]'∅,A00 ∅⟩
 obtain⟨y,ey⟩:∃y,bs[j]?=AC y:=⟨bs[j]'∅,A00 ∅⟩
 let⟨vx,evx,dx⟩:=ta.get ex;let⟨vy,HB,dy⟩:=tb.get ey;rw[evx]at HB;cases HB;exact ih (h2 j x y ex ey) (.inl dx)<|.inl dy
theorem xD{a:δ}(I:Inv X χ σ H s)(h:mi X.K H a xs)(h':i4 X.K H a ys):False:=by let⟨aW,r,⟨o,e,c,n,d⟩,_⟩:=I.tuple h;let⟨Ah,r',⟨o',n',e',c',_⟩,_⟩:=I.list h';rw[e]at e';cases e';rw[c]at c';injection c' with z;exact absurd z ∅
def sq:Z.D->Bool
|.tup _=>Da
|.lst _=>Da
|_=>AT
def dc:Z.D->Bool
|.dct _ _=>Da
|_=>AT
theorem Kw(n:Nat)(h:(sq d1=AT/\sq d2=AT)\/dc d1=Da\/dc d2=Da):Z.iY n d1 d2=Z.VS d1 d2:=by cases d1<;>cases d2<;>cases n<;>first|rfl|(simp[sq,dc]at h)
theorem GI(I:Inv X χ σ H s)(n:Nat)(ih:∀m,m<n->∀{d1 d2}{v}{k},Z.iY m d1 d2=AC k->bp X.K H d1 v->bp X.K H d2 v->k=Da)(h:Z.iY n d1 d2=AC k)(h1:bp X.K H d1 v)(h2:bp X.K H d2 v):k=Da:=by
 cases d1<;>cases d2
 case tup.tup=>
  cases n with
  |zero=>cases h
  |succ n=>let⟨_,_,e,q,ta⟩:=h1.tup;let⟨_,_,e',q',tb⟩:=h2.tup;rw[e]at e';cases e';have:=I.pK q q';subst this;exact tQ (ih n<|A63 n) h ta tb
 case tup.lst=>let⟨_,_,e,q,_⟩:=h1.tup;let⟨_,_,e',q',_⟩:=h2.lst;rw[e]at e';cases e';exact(xD I q q').elim
 case lst.tup=>let⟨_,_,e,q,_⟩:=h1.lst;let⟨_,_,e',q',_⟩:=h2.tup;rw[e]at e';cases e';exact(xD I q' q).elim
 case lst.lst=>
  cases n with
  |zero=>cases h
  |succ n=>let⟨_,_,e,q,ta⟩:=h1.lst;let⟨_,_,e',q',tb⟩:=h2.lst;rw[e]at e';cases e';have:=I.oC q q';subst this;exact tQ (ih n<|A63 n) h ta tb
 all_goals try (refine Kv ((Kw n ?_).symm.trans h) h1 h2;simp[sq,dc];done)
 all_goals first|(let⟨_,_,e,_⟩:=h2.tup;rw[e]at h1)|(let⟨_,_,e,_⟩:=h2.lst;rw[e]at h1)|(let⟨_,_,e,_⟩:=h1.tup;rw[e]at h2)|(let⟨_,_,e,_⟩:=h1.lst;rw[e]at h2)
 all_goals first|cases h1.non|cases h1.bl|cases h1.int|cases h1.str|cases h2.non|cases h2.bl|cases h2.int|cases h2.str
theorem AM(I:Inv X χ σ H s)(n:Nat):∀{d1 d2}{v}{k},Z.iY n d1 d2=AC k->bp X.K H d1 v->bp X.K H d2 v->k=Da:=by
 induction n using Nat.strongRecOn with
 |_ n ih=>exact GI I n ih
theorem aay(I:Inv X χ σ H s)(n:Nat)(ih:∀m,m<n->∀{A}{d1 d2}{v1 v2}{u1 u2}{k},A.units+m<cLine->Z.iY m d1 d2=AC k->bp X.K H d1 v1->bp X.K H d2 v2->RelV v1 u1->RelV v2 u2->ZB A s u1 u2 k/\Pi A s u1 u2 k/\UF A s u1 u2 (!k))(hu:A.units+n<cLine)(h:Z.iY n d1 d2=AC k)(h1:bp X.K H d1 v1)(h2:bp X.K H d2 v2)(r1:RelV v1 u1)(r2:RelV v2 u2):
 ZB A s u1 u2 k/\Pi A s u1 u2 k/\UF A s u1 u2 (!k):=by
 have fH:A.units<cLine:=by lia
 have uR:∀{ds}{v}{u},bp X.K H (.tup ds) v->RelV v u->∃q aW,u=.ref q/\s.heap.IsTuple q aW:=λ hd rv=>by let⟨q,vs,rfl,hq,_⟩:=hd.tup;cases rv;let⟨aW,_,p,_⟩:=I.tuple hq;exact⟨q,aW.toArray,rfl,p⟩
 have uY:∀{ds}{v}{u},bp X.K H (.lst ds) v->RelV v u->∃q aW,u=.ref q/\s.heap.IsList q aW:=λ hd rv=>by let⟨q,vs,rfl,hq,_⟩:=hd.lst;cases rv;let⟨aW,_,p,_⟩:=I.list hq;exact⟨q,aW.toArray,rfl,p.isList⟩
 cases d1<;>cases d2
 case non.tup=>
  obtain rfl:k=AT:=by cases n<;>cases h<;>rfl
  rw[h1.non]at r1;cases r1;let⟨q2,gV,rfl,p2⟩:=uR h2 r2;exact⟨SeqAt.RcAt.none_tuple p2 fH,SeqAt.EqAt.none_tuple p2 fH,SeqAt.RcNeAt.none_tuple p2 fH⟩
 case non.lst=>
  obtain rfl:k=AT:=by cases n<;>cases h<;>rfl
  rw[h1.non]at r1;cases r1;let⟨q2,gV,rfl,p2⟩:=uY h2 r2;exact⟨SeqAt.RcAt.none_list p2 fH,SeqAt.EqAt.none_list p2 fH,SeqAt.RcNeAt.none_list p2 fH⟩
 case bl.tup=>
  obtain rfl:k=AT:=by cases n<;>cases h<;>rfl
  rw[h1.bl]at r1;cases r1;let⟨q2,gV,rfl,p2⟩:=uR h2 r2;exact⟨SeqAt.RcAt.bool_tuple _ p2 fH,SeqAt.EqAt.bool_tuple _ p2 fH,SeqAt.RcNeAt.bool_tuple _ p2 fH⟩
 case bl.lst=>
  obtain rfl:k=AT:=by cases n<;>cases h<;>rfl
  rw[h1.bl]at r1;cases r1;let⟨q2,gV,rfl,p2⟩:=uY h2 r2;exact⟨SeqAt.RcAt.bool_list _ p2 fH,SeqAt.EqAt.bool_list _ p2 fH,SeqAt.RcNeAt.bool_list _ p2 fH⟩
 case int.tup=>
  obtain rfl:k=AT:=by cases n<;>cases h<;>rfl
  rw[h1.int]at r1;let⟨t1,rfl⟩:=r1;let⟨q2,gV,rfl,p2⟩:=uR h2 r2;exact⟨SeqAt.RcAt.int_tuple _ _ p2 fH,SeqAt.EqAt.int_tuple _ _ p2 fH,SeqAt.RcNeAt.int_tuple _ _ p2 fH⟩
 case int.lst=>
  obtain rfl:k=AT:=by cases n<;>cases h<;>rfl
  rw[h1.int]at r1;let⟨t1,rfl⟩:=r1;let⟨q2,gV,rfl,p2⟩:=uY h2 r2;exact⟨SeqAt.RcAt.int_list _ _ p2 fH,SeqAt.EqAt.int_list _ _ p2 fH,SeqAt.RcNeAt.int_list _ _ p2 fH⟩
 case str.tup=>
  obtain rfl:k=AT:=by cases n<;>cases h<;>rfl
  rw[h1.str]at r1;let⟨t1,rfl⟩:=r1;let⟨q2,gV,rfl,p2⟩:=uR h2 r2;exact⟨SeqAt.RcAt.str_tuple _ _ p2 fH,SeqAt.EqAt.str_tuple _ _ p2 fH,SeqAt.RcNeAt.str_tuple _ _ p2 fH⟩
 case str.lst=>
  obtain rfl:k=AT:=by cases n<;>cases h<;>rfl
  rw[h1.str]at r1;let⟨t1,rfl⟩:=r1;let⟨q2,gV,rfl,p2⟩:=uY h2 r2;exact⟨SeqAt.RcAt.str_list _ _ p2 fH,SeqAt.EqAt.str_list _ _ p2 fH,SeqAt.RcNeAt.str_list _ _ p2 fH⟩
 case tup.non=>
  obtain rfl:k=AT:=by cases n<;>cases h<;>rfl
  let⟨q1,xZ,rfl,p1⟩:=uR h1 r1;rw[h2.non]at r2;cases r2;exact⟨SeqAt.RcAt.tuple_none p1 fH,SeqAt.EqAt.tuple_none p1 fH,SeqAt.RcNeAt.tuple_none p1 fH⟩
 case tup.bl=>
  obtain rfl:k=AT:=by cases n<;>cases h<;>rfl
  let⟨q1,xZ,rfl,p1⟩:=uR h1 r1;rw[h2.bl]at r2;cases r2;exact⟨SeqAt.RcAt.tuple_bool _ p1 fH,SeqAt.EqAt.tuple_bool _ p1 fH,SeqAt.RcNeAt.tuple_bool _ p1 fH⟩
 case tup.int=>
  obtain rfl:k=AT:=by cases n<;>cases h<;>rfl
  let⟨q1,xZ,rfl,p1⟩:=uR h1 r1;rw[h2.int]at r2;let⟨t2,rfl⟩:=r2;exact⟨SeqAt.RcAt.tuple_int _ _ p1 fH,SeqAt.EqAt.tuple_int _ _ p1 fH,SeqAt.RcNeAt.tuple_int _ _ p1 fH⟩
 case tup.str=>
  obtain rfl:k=AT:=by cases n<;>cases h<;>rfl
  let⟨q1,xZ,rfl,p1⟩:=uR h1 r1;rw[h2.str]at r2;let⟨t2,rfl⟩:=r2;exact⟨SeqAt.RcAt.tuple_str _ _ p1 fH,SeqAt.EqAt.tuple_str _ _ p1 fH,SeqAt.RcNeAt.tuple_str _ _ p1 fH⟩
 case tup.lst=>
  obtain rfl:k=AT:=by cases n<;>cases h<;>rfl
  let⟨q1,xZ,rfl,p1⟩:=uR h1 r1;let⟨q2,gV,rfl,p2⟩:=uY h2 r2;exact⟨SeqAt.RcAt.tuple_list p1 p2 fH,SeqAt.EqAt.tuple_list p1 p2 fH,SeqAt.RcNeAt.tuple_list p1 p2 fH⟩
 case lst.non=>
  obtain rfl:k=AT:=by cases n<;>cases h<;>rfl
  let⟨q1,xZ,rfl,p1⟩:=uY h1 r1;rw[h2.non]at r2;cases r2;exact⟨SeqAt.RcAt.list_none p1 fH,SeqAt.EqAt.list_none p1 fH,SeqAt.RcNeAt.list_none p1 fH⟩
 case lst.bl=>
  obtain rfl:k=AT:=by cases n<;>cases h<;>rfl
  let⟨q1,xZ,rfl,p1⟩:=uY h1 r1;rw[h2.bl]at r2;cases r2;exact⟨SeqAt.RcAt.list_bool _ p1 fH,SeqAt.EqAt.list_bool _ p1 fH,SeqAt.RcNeAt.list_bool _ p1 fH⟩
 case lst.int=>
  obtain rfl:k=AT:=by cases n<;>cases h<;>rfl
  let⟨q1,xZ,rfl,p1⟩:=uY h1 r1;rw[h2.int]at r2;let⟨t2,rfl⟩:=r2;exact⟨SeqAt.RcAt.list_int _ _ p1 fH,SeqAt.EqAt.list_int _ _ p1 fH,SeqAt.RcNeAt.list_int _ _ p1 fH⟩
 case lst.str=>
  obtain rfl:k=AT:=by cases n<;>cases h<;>rfl
  let⟨q1,xZ,rfl,p1⟩:=uY h1 r1;rw[h2.str]at r2;let⟨t2,rfl⟩:=r2;exact⟨SeqAt.RcAt.list_str _ _ p1 fH,SeqAt.EqAt.list_str _ _ p1 fH,SeqAt.RcNeAt.list_str _ _ p1 fH⟩
 case lst.tup=>
  obtain rfl:k=AT:=by cases n<;>cases h<;>rfl
  let⟨q1,xZ,rfl,p1⟩:=uY h1 r1;let⟨q2,gV,rfl,p2⟩:=uR h2 r2;exact⟨SeqAt.RcAt.list_tuple p1 p2 fH,SeqAt.EqAt.list_tuple p1 p2 fH,SeqAt.RcNeAt.list_tuple p1 p2 fH⟩
 case tup.tup as bs=>
  cases n with
  |zero=>cases h
  |succ n=>
   have hk:=h;have hs:=λ(z:v1=v2)=>AM I (n+1) (d1:=.tup as) (d2:=.tup bs) (v:=v1) h h1<|z▸h2;let⟨q,vs,rfl,hq,ta⟩:=h1.tup;let⟨q',ws,rfl,fE,tb⟩:=h2.tup;cases r1;cases r2;let⟨aW,ra,pa,_⟩:=I.tuple hq;let⟨gV,rb,pb,_⟩:=I.tuple fE;have hi:=Ai I n (A:=A.in1) (show A.units+1+n<cLine by lia) (ih n<|A63 n) hk ta tb ra rb;have e:=(lN hk).1;have la:=ta.length;have lb:=tb.length;have ZY:=ra.length;have rb':=rb.length;have t1:=SeqAt.RcAt.tuples (s:=s) (A:=A) (pa) (pb) fH hi;have t2:=SeqAt.RcNeAt.tuples (s:=s) (A:=A) (pa) (pb) fH hi;simp only[A10]at t1 t2;rw[<-ZY,<-rb',la,lb,<-e]at t1 t2;refine⟨t1,?_,t2⟩;by_cases Ye:q=q'
   .subst Ye;rw[hs rfl];exact B98 _
   .exact SeqAt.EqAt.of_refs Ye t1
 case lst.lst as bs=>
  cases n with
  |zero=>cases h
  |succ n=>
   have hk:=h;have hs:=λ(z:v1=v2)=>AM I (n+1) (d1:=.lst as) (d2:=.lst bs) (v:=v1) h h1<|z▸h2;let⟨q,vs,rfl,hq,ta⟩:=h1.lst;let⟨q',ws,rfl,fE,tb⟩:=h2.lst;cases r1;cases r2;let⟨aW,ra,pa,_⟩:=I.list hq;let⟨gV,rb,pb,_⟩:=I.list fE;have e:=(lN hk).1;have la:=ta.length;have lb:=tb.length;have ZY:=ra.length;have rb':=rb.length;have t:ZB A s (.ref q) (.ref q') k/\UF A s (.ref q) (.ref q') (!k):=by
    by_cases ψ:as.length=bs.length
    .have hi:=Ai I n (A:=A.in1) (show A.units+1+n<cLine by lia) (ih n<|A63 n) hk ta tb ra rb;have t1:=SeqAt.RcAt.lists (s:=s) (A:=A) pa.isList pb.isList (by simp only[A10];lia) fH hi;have t2:=SeqAt.RcNeAt.lists (s:=s) (A:=A) pa.isList pb.isList (by simp only[A10];lia) fH hi;simp only[A10]at t1 t2;rw[<-ZY,la]at t1 t2;rw[ψ,Nat.min_self,A91,AD6,<-ψ]at e;rw[<-e]at t1 t2;exact⟨t1,t2⟩
    .have:(as.length==bs.length)=AT:=by simpa using ψ
     rw[this,AD2]at e;subst e;exact⟨SeqAt.RcAt.lists_lengths pa.isList pb.isList (by simp only[A10,bne_iff_ne,ne_eq];lia) fH,SeqAt.RcNeAt.lists_lengths pa.isList pb.isList (by simp only[A10,bne_iff_ne,ne_eq];lia) fH⟩
   refine⟨t.1,?_,t.2⟩;by_cases Ye:q=q'
   .subst Ye;rw[hs rfl];exact B98 _
   .exact SeqAt.EqAt.of_refs Ye t.1
 all_goals (refine rcS ((Kw n ?_).symm.trans h) h1 h2 r1 r2;simp[sq,dc])
theorem Vx(I:Inv X χ σ H s)(n:Nat):∀{A}{d1 d2}{v1 v2}{u1 u2}{k},A.units+n<cLine->Z.iY n d1 d2=AC k->bp X.K H d1 v1->bp X.K H d2 v2->RelV v1 u1->RelV v2 u2->ZB A s u1 u2 k/\Pi A s u1 u2 k/\UF A s u1 u2 (!k):=by
 induction n using Nat.strongRecOn with
 |_ n ih=>exact aay I n ih
theorem vp(hu:X.A.units+64<cLine):A9 X .Eq Z.oEq:=by
 have ho:jk X (compareOp .Eq) (λ x y H Q=>∃d1 d2 k,bp X.K H d1 x/\bp X.K H d2 y/\Z.jS d1 d2=AC k/\Q (.bl k) H):=by intro χ s σ H x y v u Q I rx ry h;let⟨d1,d2,k,h1,h2,e,q⟩:=h;exact(Vx I 6 ∅ e h1 h2 rx ry).1 _ X.w X.xe _ ⟨.bl k,H,I,rfl,q⟩
 exact⟨_,ho,λ x y dx dy d H Q h1 h2 e k=>by
  unfold Z.oEq at e;split at e
  .rename_i z hz;cases e;exact⟨dx,dy,z,h1,h2,hz,k _ H (aw.refl H) cE⟩
  .cases e⟩
theorem qh(hu:X.A.units+64<cLine):A9 X .NotEq Z.jF:=by
 have ho:jk X (compareOp .NotEq) (λ x y H Q=>∃d1 d2 k,bp X.K H d1 x/\bp X.K H d2 y/\Z.jS d1 d2=AC k/\Q (.bl<|!k) H):=by intro χ s σ H x y v u Q I rx ry h;let⟨d1,d2,k,h1,h2,e,q⟩:=h;exact(Vx I 6 ∅ e h1 h2 rx ry).2.2 _ X.w X.xe _ ⟨.bl<|!k,H,I,rfl,q⟩
 exact⟨_,ho,λ x y dx dy d H Q h1 h2 e k=>by
  unfold Z.jF at e;split at e
  .rename_i z hz;cases e;exact⟨dx,dy,z,h1,h2,hz,k _ H (aw.refl H) cE⟩
  .cases e⟩
theorem JS:∀{a b},Gd a=Gd b->a=b
|.inl a,.inl b,h=>by injection h with h;rw[h]
|.inl _,.inr _,h=>by cases h
|.inr _,.inl _,h=>by cases h
|.inr a,.inr b,h=>by
 injection h with h
 injection h with h
 have:a=b:=by simpa using A12 bi h
 rw[this]
theorem v!:∀{a b:γ _},a.map Gd=b.map Gd->a=b
|[],[],_=>rfl
|[],_::_,h=>by cases h
|_::_,[],h=>by cases h
|a::as,b::bs,h=>by simp only[v4,A94]at h;rw[JS h.1,v! h.2]
theorem EW{a:δ}(I:Inv X χ σ H s)(hq:H a=AC (.eJ o<|.dK aO)):∃o',s.heap.get? a=AC o'/\o'.cls=.type "dict":=by
 obtain⟨_,_,_,_,_,o',es,ep,h1,h2,_⟩:=(I.bG a _ hq)
 exact⟨o',h1,h2.1⟩
theorem IA{a:δ}(I:Inv X χ σ H s)(h:mi X.K H a xs)(h':H a=AC (.eJ o<|.dK aO)):False:=by let⟨aW,r,⟨o1,e,c,n,d⟩,_⟩:=I.tuple h;let⟨o2,e',c'⟩:=EW I h';rw[e]at e';cases e';rw[c]at c';injection c' with z;exact absurd z ∅
theorem IB{a:δ}(I:Inv X χ σ H s)(h:i4 X.K H a xs)(h':H a=AC (.eJ o<|.dK aO)):False:=by let⟨aW,r,⟨o1,n,e,c,_⟩,_⟩:=I.list h;let⟨o2,e',c'⟩:=EW I h';rw[e]at e';cases e';rw[c]at c';injection c' with z;exact absurd z ∅
mutual
theorem Den.inj{χ:γ (δ×μ)}{σ:St}{H:Hp}{s:η}(I:Inv X χ σ H s):∀(d1 d2:Z.D)(v:V),Den X.K H d1 v->Den X.K H d2 v->d1=d2
|.non,d2,v,h1,h2=>by
 simp only[Den]at h1;subst h1;cases d2<;>simp only[Den]at h2<;>first|rfl|(cases h2;done)|skip
 case tup=>let⟨_,_,e,_⟩:=h2;cases e
 case lst=>let⟨_,_,e,_⟩:=h2;cases e
 case dct=>let⟨_,_,_,e,_⟩:=h2;cases e
|.bl b,d2,v,h1,h2=>by
 simp only[Den]at h1;subst h1;cases d2<;>simp only[Den]at h2<;>first|(injection h2 with h2;rw[h2])|(cases h2;done)|skip
 case tup=>let⟨_,_,e,_⟩:=h2;cases e
 case lst=>let⟨_,_,e,_⟩:=h2;cases e
 case dct=>let⟨_,_,_,e,_⟩:=h2;cases e
|.int i,d2,v,h1,h2=>by
 simp only[Den]at h1;subst h1;cases d2<;>simp only[Den]at h2<;>first|(injection h2 with h2;rw[h2])|(cases h2;done)|skip
 case tup=>let⟨_,_,e,_⟩:=h2;cases e
 case lst=>let⟨_,_,e,_⟩:=h2;cases e
 case dct=>let⟨_,_,_,e,_⟩:=h2;cases e
|.str cs,d2,v,h1,h2=>by
 simp only[Den]at h1;subst h1;cases d2<;>simp only[Den]at h2<;>first|(injection h2 with h2;injection h2 with h2;have:=A12 bi h2;simp at this;rw[this])|(cases h2;done)|skip
 case tup=>let⟨_,_,e,_⟩:=h2;cases e
 case lst=>let⟨_,_,e,_⟩:=h2;cases e
 case dct=>let⟨_,_,_,e,_⟩:=h2;cases e
|.tup ds,d2,v,h1,h2=>by
 simp only[Den]at h1;let⟨a,vs,rfl,q,t⟩:=h1;cases d2<;>simp only[Den]at h2
 case tup es=>let⟨a',vs',e,q',t'⟩:=h2;cases e;rw[I.pK q' q]at t';rw[aq.inj I ds es vs t t']
 case lst es=>let⟨a',vs',e,q',t'⟩:=h2;cases e;exact(xD I q q'.sq).elim
 case dct ks es=>let⟨a',o,aO,e,q',_⟩:=h2;cases e;exact(IA I q q').elim
 all_goals cases h2
|.lst ds,d2,v,h1,h2=>by
 simp only[Den]at h1;let⟨a,vs,rfl,q,t⟩:=h1;cases d2<;>simp only[Den]at h2
 case lst es=>let⟨a',vs',e,q',t'⟩:=h2;cases e;rw[I.oC q'.sq q.sq]at t';rw[aq.inj I ds es vs t t']
 case tup es=>let⟨a',vs',e,q',t'⟩:=h2;cases e;exact(xD I q' q.sq).elim
 case dct ks es=>let⟨a',o,aO,e,q',_⟩:=h2;cases e;exact(IB I q.sq q').elim
 all_goals cases h2
|.dct ks ds,d2,v,h1,h2=>by
 simp only[Den]at h1;let⟨a,o,aO,rfl,q,hk,t,_⟩:=h1;cases d2<;>simp only[Den]at h2
 case lst es=>let⟨a',vs',e,q',t'⟩:=h2;cases e;exact(IB I q'.sq q).elim
 case tup es=>let⟨a',vs',e,q',t'⟩:=h2;cases e;exact(IA I q' q).elim
 case dct ks' es=>let⟨a',o',afR,e,q',VM,t',_⟩:=h2;cases e;rw[q]at q';cases q';rw[aq.inj I ds es _ t t',v!<|hk.symm.trans VM]
 all_goals cases h2
theorem aq.inj{χ:γ (δ×μ)}{σ:St}{H:Hp}{s:η}(I:Inv X χ σ H s):∀(d1 d2:γ Z.D)(v:γ V),aq X.K H d1 v->aq X.K H d2 v->d1=d2
|[],d2,v,h1,h2=>by
 simp only[aq]at h1;subst h1;cases d2 with
 |nil=>rfl
 |cons d ds=>simp only[aq]at h2;let⟨_,_,e,_⟩:=h2;cases e
|d::ds,d2,v,h1,h2=>by
 simp only[aq]at h1;let⟨u,r,rfl,q,t⟩:=h1;cases d2 with
 |nil=>simp only[aq]at h2;cases h2
 |cons d' ds'=>simp only[aq]at h2;let⟨u',r',e,q',t'⟩:=h2;cases e;rw[Den.inj I d d' u q q',aq.inj I ds ds' r t t']
end
theorem uD:∀{ys}{k},Z.gu x ys=AC k->k=ys.any (λ y=>(Z.jS y x).getD AT)/\∀y∈ys,Z.jS y x=AC ((Z.jS y x).getD AT)
|[],k,h=>by cases h;exact⟨rfl,λ y hy=>by cases hy⟩
|y::ys,k,h=>by
 unfold Z.gu at h;split at h
 .rename_i a b ea eb;cases h;let⟨h1,h2⟩:=uD eb;refine⟨by rw[B07,ea,h1];rfl,λ z hz=>?_⟩;rcases A01.mp hz with rfl|hz
  .rw[ea];rfl
  .exact h2 z hz
 .cases h
theorem x?(I:Inv X χ σ H s)(hu:A.units+60<cLine)(hx:bp X.K H x v)(rx:RelV v u):∀{ys}{vs}{us},aq X.K H ys vs->Vals vs us->(∀y∈ys,Z.jS y x=AC ((Z.jS y x).getD AT)) ->
 ∃e,(∀w∈us,Pi A s w u (e w))/\us.any e=ys.any (λ y=>(Z.jS y x).getD AT):=by
 intro ys vs us;have key:∀{ys}{vs}{us},aq X.K H ys vs->Vals vs us->(∀y∈ys,Z.jS y x=AC ((Z.jS y x).getD AT))->(∀w∈us,∃b,Pi A s w u b)/\∀e,(∀w∈us,∀y vy,Den X.K H y vy->RelV vy w->y∈ys->e w=(Z.jS y x).getD AT)->us.any e=ys.any (λ y=>(Z.jS y x).getD AT):=by
  intro ys
  induction ys with
  |nil=>intro vs us t r _;simp only[aq]at t;subst t;cases r;exact⟨λ w hw=>(by cases hw),λ _ _=>rfl⟩
  |cons y ys ih=>
   intro vs us t r hh;simp only[aq]at t;let⟨vy,vr,rfl,dy,tr⟩:=t;cases r with
   |cons ry rr=>
    let⟨h1,h2⟩:=ih tr rr (λ z hz=>hh z<|A07 _ hz);refine⟨λ w hw=>?_,λ e he=>?_⟩
    .rcases A01.mp hw with rfl|hw
     .exact⟨_,(Vx I 6 ∅ (hh y A08) (.inl dy) hx ry rx).2.1⟩
     .exact h1 w hw
    .rw[B07,B07,he _ A08 y vy dy ry A08,h2 e λ w hw z vz dz rz hz=>he w (A07 _ hw) z vz dz rz<|A07 _ hz]
 intro t r hh
 classical
 let e:=λ w=>if h:∃y vy,Den X.K H y vy/\RelV vy w/\y∈ys then(Z.jS h.choose x).getD AT else AT
 have he:∀w y vy,Den X.K H y vy->RelV vy w->y∈ys->e w=(Z.jS y x).getD AT:=by
  intro w y vy dy ry hy;have hex:∃y vy,Den X.K H y vy/\RelV vy w/\y∈ys:=⟨y,vy,dy,ry,hy⟩
  show(if h:_ then _ else _)=_;rw[A90 hex];let⟨vy',YZ,WD,J7⟩:=hex.choose_spec;have ev:=WD.inj ry;subst ev;rw[Den.inj I _ _ _ YZ dy]
 refine⟨e,λ w hw=>?_,(key t r hh).2 e λ w hw y vy dy ry hy=>he w y vy dy ry hy⟩;let⟨j,hj,ej⟩:=C00 hw;have hl:=r.length;have ht:=t.length;obtain⟨y,ey⟩:∃y,ys[j]?=AC y:=⟨ys[j]'∅,A00 ∅⟩
 let⟨vy,HB,dy⟩:=t.get ey;let⟨u',O0,LW⟩:=r.get HB;have:u'=w:=by have:=A00 hj;rw[O0,ej]at this;exact A05 this
 subst this;have hy:=A18 ey;rw[he _ y vy dy LW hy];exact(Vx I 6 ∅ (hh y hy) (.inl dy) hx LW rx).2.1
theorem Sz(hu:X.A.units+64<cLine):jk X (compareOp .In) (λ x y H Q=>∃d ys q vs k,bp X.K H d x/\y=.ref q/\(i4 X.K H q vs\/mi X.K H q vs)/\aq X.K H ys vs/\Z.gu d ys=AC k/\Q (.bl k) H):=by
 intro χ s σ H x y v u Q I rx ry h;let⟨d,ys,q,vs,k,hd,rfl,hq,t,e,k'⟩:=h;cases ry;let⟨e1,e2⟩:=uD e;subst e1;rcases hq with hq|hq
 .let⟨aW,r,pl,hz⟩:=I.list hq;let⟨f,hf,Cq⟩:=x? I (A:=X.A.in1) (show X.A.units+1+60<cLine by lia) hd rx t r e2;refine SeqAt.in_listAt f pl.isList (λ w hw=>hf w (by simpa using hw)) ⟨.bl _,H,I,rfl,?_⟩;rw[show aW.toArray.any f=aW.any f by simp,Cq];exact k'
 .let⟨aW,r,pl,hz⟩:=I.tuple hq;let⟨f,hf,Cq⟩:=x? I (A:=X.A.in1) (show X.A.units+1+60<cLine by lia) hd rx t r e2;refine SeqAt.in_tupleAt f pl (λ w hw=>hf w (by simpa using hw)) ⟨.bl _,H,I,rfl,?_⟩;rw[show aW.toArray.any f=aW.any f by simp,Cq];exact k'
theorem FQ(hu:X.A.units+64<cLine):jk X (compareOp .NotIn) (λ x y H Q=>∃d ys q vs k,bp X.K H d x/\y=.ref q/\(i4 X.K H q vs\/mi X.K H q vs)/\aq X.K H ys vs/\Z.gu d ys=AC k/\Q (.bl<|!k) H):=by
 intro χ s σ H x y v u Q I rx ry h;let⟨d,ys,q,vs,k,hd,rfl,hq,t,e,k'⟩:=h;cases ry;let⟨e1,e2⟩:=uD e;subst e1;rcases hq with hq|hq
 .let⟨aW,r,pl,hz⟩:=I.list hq;let⟨f,hf,Cq⟩:=x? I (A:=X.A.in1) (show X.A.units+1+60<cLine by lia) hd rx t r e2;refine SeqAt.notIn_listAt f pl.isList (λ w hw=>hf w (by simpa using hw)) ⟨.bl _,H,I,rfl,?_⟩;rw[show aW.toArray.any f=aW.any f by simp,Cq];exact k'
 .let⟨aW,r,pl,hz⟩:=I.tuple hq;let⟨f,hf,Cq⟩:=x? I (A:=X.A.in1) (show X.A.units+1+60<cLine by lia) hd rx t r e2;refine SeqAt.notIn_tupleAt f pl (λ w hw=>hf w (by simpa using hw)) ⟨.bl _,H,I,rfl,?_⟩;rw[show aW.toArray.any f=aW.any f by simp,Cq];exact k'
theorem G'(hu:X.A.units+64<cLine):A9 X .In Z.A_:=⟨_,Sz hu,λ x y dx dy d H Q h1 h2 e k=>by
 unfold Z.A_ at e;split at e
 .split at e
  .rename_i b hb;cases e;let⟨q,vs,rfl,hq,t⟩:=h2.tup;exact⟨dx,_,q,vs,b,h1,rfl,.inr hq,t,hb,k _ H (aw.refl H) cE⟩
  .cases e
 .split at e
  .rename_i b hb;cases e;let⟨q,vs,rfl,hq,t⟩:=h2.lst;exact⟨dx,_,q,vs,b,h1,rfl,.inl hq,t,hb,k _ H (aw.refl H) cE⟩
  .cases e
 .cases e⟩
theorem l?(hu:X.A.units+64<cLine):A9 X .NotIn Z.iD:=⟨_,FQ hu,λ x y dx dy d H Q h1 h2 e k=>by
 unfold Z.iD at e;split at e
 .split at e
  .rename_i b hb;cases e;let⟨q,vs,rfl,hq,t⟩:=h2.tup;exact⟨dx,_,q,vs,b,h1,rfl,.inr hq,t,hb,k _ H (aw.refl H) cE⟩
  .cases e
 .split at e
  .rename_i b hb;cases e;let⟨q,vs,rfl,hq,t⟩:=h2.lst;exact⟨dx,_,q,vs,b,h1,rfl,.inl hq,t,hb,k _ H (aw.refl H) cE⟩
  .cases e
 .cases e⟩
theorem E4:∀{xs}{k},Z.allB xs=AC k->∃bs:γ Bool,xs=bs.map Z.D.bl/\k=bs.all id
|[],k,h=>by cases h;exact⟨[],rfl,rfl⟩
|x::xs,k,h=>by
 cases x with
 |bl b=>
  have h':(Z.allB xs).map _=AC k:=h;cases q:Z.allB xs with
  |none=>rw[q]at h';cases h'
  |some k'=>rw[q]at h';cases h';let⟨bs,rfl,rfl⟩:=E4 q;exact⟨b::bs,rfl,rfl⟩
 |non=>cases h
 |int _=>cases h
 |str _=>cases h
 |tup _=>cases h
 |lst _=>cases h
 |dct _ _=>cases h
theorem AX{K:Db}:∀{bs:γ Bool}{vs},aq K H (bs.map Z.D.bl) vs->vs=bs.map V.bl
|[],vs,h=>by simp only[A35]at h;subst h;rfl
|b::bs,vs,h=>by simp only[v4]at h;let⟨v,r,rfl,hv,ht⟩:=h;simp only[Den]at hv;rw[hv,AX ht];rfl
theorem all_range(bs:γ Bool):((FB bs.length).all λ i=>bs[i]?.getD Da)=bs.all id:=by
 induction bs with
 |nil=>rfl
 |cons b bs ih=>
  rw[A27,C45,B99,B56,B99];have:((λ i=>((b::bs)[i]?).getD Da)∘Nat.succ)=λ i=>bs[i]?.getD Da:=by funext i;simp
  rw[this,ih];simp
theorem G7(hc:X.calm=Da):lO X (.builtin "all") (λ xs H Q=>∃(q:δ)(bs:γ Bool),xs=[.ref q]/\i4 X.K H q (bs.map V.bl)/\Q (.bl<|bs.all id) H):=by
 intro χ s σ H xs us Q I r h;let⟨q,bs,rfl,hq,k⟩:=h;let⟨u,rfl,ru⟩:=vals1 r;cases ru;let⟨aW,rv,pl,hz⟩:=I.list hq;have hl:=rv.length;rw[A04]at hl;have jc:q<s.heap.objs.size:=by let⟨_,e,_⟩:=pl.isList;exact A02 e
 have hh:X.A.in1.handled=Ch:=I.ok.hd hc;refine call_all_walk<|B10 pl.isList ?_;refine⟨_,[s.heap.objs.size,q],[s.heap.objs.size],_,_,_,λ i=>bs[i]?.getD Da,rfl,Walks.list hh _ q (A13 jc) _,⟨⟨_,A17 _ rfl,rfl,rfl⟩,pl.isList.push _⟩,?_,λ h' tk hk=>?_⟩
 .intro i v s' Q' E' hv hQ;have hi:aW[i]?=AC v:=by simpa using hv
  let⟨hi1,_⟩:=A03.mp hi;have hb:(bs.map V.bl)[i]?=AC (V.bl<|bs[i]'∅):=by rw[A06,A00];rfl
  let⟨u,hu,ru⟩:=rv.get hb;rw[hi]at hu;cases hu;cases ru;refine A58 ?_;have:bs[i]?.getD Da=bs[i]'∅:=by rw[A00];rfl
  rw[<-this];exact hQ
 .have I1:Inv X χ σ H {s with heap:=s.heap.push {cls:=.type "list_iterator",data:=.fields #[.ref q,.int 0 0]}}:=I.kept λ b o e=>f8 _ e;let⟨f0,f1,f2,f3,f4,f5⟩:=I.u? (M2 s.heap.objs.size) I.fresh;have I2:=I1.turned (t':=tk) (λ b o hb e=>hk b o (by simpa using hb) e) f0 f1 f3 f4 f5;refine⟨.bl _,H,I2,rfl,?_⟩;have e:(FB aW.toArray.size).all (λ i=>bs[i]?.getD Da)=bs.all id:=by rw[A10,<-hl,all_range]
  rw[e];exact k
theorem _root_.Lake.ZQ.Py(hm:X.mg x=Ch)(ha:ZQ.QW X a fa)(hc:X.calm=Da:=by rfl)(hn:x≠ "__name__":=by decide +kernel)(gi:Nd x:=by kernel_rfl)(he:Se a [] X.env:=by rfl)(d!:Pn pos [] X.env:=by rfl)(hg:Gl X x:=by rfl)(hv:bootBuiltins x=AC (.builtin "all"):=by kernel_rfl):ZQ.QE X (.Call (.Name x p1) [a] [] pos) (Z.eU Z.iV fa):=
 ⟨PE.imp (jD (G7 hc) hg hm hv (a6 ha.p bV he) hn gi he d!) <|by
  rintro σ H Q ⟨ρ,d,r,e,k⟩;let⟨x,ea,e⟩:=al e;refine⟨ρ,x,r,ea,λ v H1 s1 d1=>?_⟩;unfold Z.iV at e;split at e
  .split at e
   .rename_i xs k' hk;cases e;let⟨bs,rfl,rfl⟩:=E4 hk;let⟨q,vs,rfl,hq,t⟩:=d1.lst;rw[AX t]at hq;exact⟨q,bs,rfl,hq,k _ H1 s1 cE⟩
   .cases e
  .cases e⟩
end
theorem _root_.Lake.ZQ.dJ(ha:ZQ.QE X (.Constant v j p) f)(hr:ZQ.QA X es g):ZQ.QA X ((.Constant v j p)::es) (Z.ag f g):=⟨jg ha.p hr.p rfl⟩
theorem _root_.Lake.ZQ.bo(ha:ZQ.QE X (.Name x p) f)(hr:ZQ.QA X es g):ZQ.QA X ((.Name x p)::es) (Z.ag f g):=⟨jg ha.p hr.p rfl⟩
theorem _root_.Lake.ZQ.qe(ha:ZQ.QE X (.Tuple xs j p) f)(hr:ZQ.QA X es g):ZQ.QA X ((.Tuple xs j p)::es) (Z.ag f g):=⟨jg ha.p hr.p rfl⟩
theorem _root_.Lake.ZQ.Lg(ha:ZQ.QE X (.List xs p) f)(hr:ZQ.QA X es g):ZQ.QA X ((.List xs p)::es) (Z.ag f g):=⟨jg ha.p hr.p rfl⟩
theorem _root_.Lake.ZQ.ET(ha:ZQ.QE X (.BinOp x o y p) f)(hr:ZQ.QA X es g):ZQ.QA X ((.BinOp x o y p)::es) (Z.ag f g):=⟨jg ha.p hr.p rfl⟩
theorem _root_.Lake.ZQ.o!(ha:ZQ.QE X (.Call x xs ks p) f)(hr:ZQ.QA X es g):ZQ.QA X ((.Call x xs ks p)::es) (Z.ag f g):=⟨jg ha.p hr.p rfl⟩
theorem _root_.Lake.ZQ.yw(ha:ZQ.QE X (.Subscript x y p) f)(hr:ZQ.QA X es g):ZQ.QA X ((.Subscript x y p)::es) (Z.ag f g):=⟨jg ha.p hr.p rfl⟩
theorem _root_.Lake.ZQ.Lh(ha:ZQ.QE X (.Attribute x n p) f)(hr:ZQ.QA X es g):ZQ.QA X ((.Attribute x n p)::es) (Z.ag f g):=⟨jg ha.p hr.p rfl⟩
end ZS
namespace ZQ
open L2 ZS
theorem _root_.Lake.ZS.Hz(h:(sc.kind=.function/\sc.isCoroutine=AT/\sc.isGenerator=AT)/\N.take P.length=P:=by exact⟨⟨rfl,rfl,rfl⟩,rfl⟩)(h4:decide (N.Nodup/\(∀x∈P,sc.names.lookup x=AC .local\/sc.names.lookup x=AC .cell)/\∀y∈sc.names,y.2≠.free)=Da:=by kernel_rfl):a8 N P sc:=have q:=B11 h4;⟨h.1.1,h.1.2.1,h.1.2.2,q.1,h.2,q.2.1,q.2.2⟩
theorem bg{K:Db}{st:ι}(d:ZS.Def K mg x st ps)(hb:∀{f}{a9}{A}{outer}{s}{H}{E},N.Nodup->(A.deeper<|envOfC x (ae st) s.heap.objs.size f a9).units+64<cLine->bh k (A.deeper<|envOfC x (ae st) s.heap.objs.size f a9)->yP (dM il P w K mg base N x (ae st) f a9 A outer s H E).fP H (az st) b)(S:a8 N ps (ae st):=by exact ZS.Hz):ZS.fD P w K mg base x (k+1) ps (Z.fn ps.length N.length b):=ZS.fD.mk' d S λ f a9 A outer s H E hr=>(hb S.nd hr.units hr).p
theorem acw{K:Db}{st:ι}(F:Bc K x qual st f fd)(hb:∀{a9}{A}{outer}{s}{H}{E},N.Nodup->(A.deeper<|envOfC qual (ae st) s.heap.objs.size f a9).units+64<cLine->bh k (A.deeper<|envOfC qual (ae st) s.heap.objs.size f a9)->yP (dM il P w K mg base N qual (ae st) f a9 A outer s H E).fP H (az st) b)(S:a8 N ps (ae st):=by exact ZS.Hz):d9 P w K mg base il (k+1) f fd ps (ZS.yI K<|Z.fn ps.length N.length b):=ZS.fnZ F S λ a9 A outer s H E hr=>(hb S.nd hr.units hr).p
end ZQ
namespace Z
def gw:D->Res D
|.lst xs=>.ok<|.tup xs
|.tup xs=>.ok<|.tup xs
|_=>.bad
@[simp] theorem S0(xs:γ D):gw (.lst xs)=.ok (.tup xs):=rfl
noncomputable def aH:γ Nat:=[97,98,99,100,101,102,103,104,105,106,107,108,109,110,111,112,113,114,115,116,117,118,119,120,121,122]
noncomputable def signs:γ Nat:=[46,61,35,97,98,99,100,101,102,103,104,105,106,107,108,109,110,111,112,113,114,115,116,117,118,119,120,121,122]
def Jh:D->D->Res D
|.int i,.int j=>.ok<|.int<|max i j
|_,_=>.bad
@[simp] theorem Xb(i j:Int):Jh (.int i) (.int j)=.ok (.int<|max i j):=rfl
def NK:D->D->Res D
|.int i,.int j=>.ok<|.int<|min i j
|_,_=>.bad
@[simp] theorem Xa(i j:Int):NK (.int i) (.int j)=.ok (.int<|min i j):=rfl
def pV:D->Res D
|.int i=>.ok<|.int i
|.bl b=>.ok<|.int<|if b then 1 else 0
|_=>.bad
@[simp] theorem Z9(b:Bool):pV (.bl b)=.ok (.int<|if b then 1 else 0):=rfl
noncomputable def mQ(x:D):γ D->ε Nat
|[]=>AC 0
|y::r=>match jS y x,mQ x r with
 |some a,AC b=>AC<|b+(if a then 1 else 0)
 |_,_=>Ch
def xN:D->D->Res D
|.lst ys,x=>match mQ x ys with
 |some n=>.ok<|.int n
 |none=>.bad
|_,_=>.bad
def zq:γ D->ε Int
|[]=>AC 0
|.int i::r=>(zq r).map (i+·)
|_::_=>Ch
def Jd:D->Res D
|.lst xs=>match zq xs with
 |some i=>.ok<|.int i
 |none=>.bad
|_=>.bad
theorem vH:∀(ns:γ Int),zq (ns.map D.int)=AC ns.sum
|[]=>rfl
|n::ns=>by simp[zq,vH ns]
def FF(i:Nat)(l:LF)(ρ:Env):Res Fl:=(l ρ).bind λ ys=>match ρ[i]? with
|some<|some<|.own xs=>guard (xs.length+ys.length<=line)<|.ok<|.nx<|ρ.set i<|some<|.own<|xs++ys
|_=>.bad
def pair(a b:D):D:=.tup [a,b]
def lG(k:Nat):γ D->γ D
|[]=>[]
|d::ds=>pair (.int k) d::lG (k+1) ds
def kS:γ D->γ D->γ D
|a::as,b::bs=>pair a b::kS as bs
|_,_=>[]
@[simp] def Ew(a:EF)(ρ:Env):Res (γ D):=(a ρ).bind λ x=>(jI x).bind λ ds=>.ok<|lG 0 ds
def Wz:D->Res (γ D)
|.tup xs=>.ok xs
|.lst xs=>.ok xs
|_=>.bad
@[simp] theorem Wy(xs:γ D):Wz (.tup xs)=.ok xs:=rfl
def Wc:D->Res (γ D)
|.tup xs=>.ok xs
|_=>.bad
@[simp] theorem Wb(xs:γ D):Wc (.tup xs)=.ok xs:=rfl
@[simp] def J6(a b:EF)(ρ:Env):Res (γ D):=(a ρ).bind λ x=>(b ρ).bind λ y=>(Wz x).bind λ xs=>(Wc y).bind λ ys=>.ok<|kS xs ys
end Z
namespace ZS
open L2
section
variable{X:Cx}
theorem _root_.Lake.ZQ.wF(hm:X.mg x=Ch)(ha:ZQ.QW X a fa)(hn:x≠ "__name__":=by decide +kernel)(gi:Nd x:=by kernel_rfl)(he:Se a [] X.env:=by rfl)(d!:Pn pos [] X.env:=by rfl)(hg:Gl X x:=by rfl)(hv:bootBuiltins x=AC (.type "tuple"):=by kernel_rfl):ZQ.QE X (.Call (.Name x p1) [a] [] pos) (Z.eU Z.gw fa):=
 ⟨PE.imp (lT vo hg hm hv (a6 ha.p bV he) hn gi he d!) <|by
  rintro σ H Q ⟨ρ,d,r,e,k⟩;let⟨x,ea,e⟩:=al e;refine⟨ρ,x,r,ea,λ v H1 s1 d1=>?_⟩;unfold Z.gw at e;split at e
  .cases e;let⟨q,vs,rfl,hq,t⟩:=d1.lst;refine⟨q,vs,rfl,.inl ⟨hq,λ l hl=>?_⟩⟩;have s2:aw H1 (upd H1 l<|.tup vs):=bT hl;exact k _ _ (s1.trans s2)<|eD (.inl<|.inl aA)<|t.up s2
  .cases e;let⟨q,vs,rfl,hq,t⟩:=d1.tup;exact⟨q,vs,rfl,.inr ⟨hq,k _ H1 s1<|eD hq t⟩⟩
  .cases e⟩
end
end ZS
namespace ZQ
open L2 ZS
theorem UG(ho:PE X o (mS i))(ha:QE X a fa)(hs:swapsWith (.Call (.Attribute o "append" p1) [a] [] p2) Ch pos.line X.env=pure AT:=by rfl)(mL:Se a [] X.env:=by rfl)
 (gZ:attributeBase o "append" X.env (eval o X.env)=eval o X.env:=by rfl)
 (lx:((backTo p2<|starEach (a::[]) X.env).all (λ x=>!x.1)&&(backToKw p2<|keywordEach [] X.env).all (λ x=>x.1.isSome)
  && decide ((a::[]).length+([]:γ π).length+(if([]:γ π).isEmpty then 0 else 1)<30))=Da:=by rfl)
 (gW:(p1.endLine==p2.line)=Da:=by rfl) (fh:Pn p2 [] X.env:=by rfl) :
 QS X H0 (.Expr (.Call (.Attribute o "append" p1) [a] [] p2) pos) (Z.cC i fa):=
 ⟨ZS.GR ho ha.p hs mL<|sY B58 PySem.F.slot_list_append PySem.F.type_list_append vX ho (a6 ha.p bV mL) gZ lx gW mL fh⟩
end ZQ
namespace ZS
open L2
section
variable{X:Cx}
theorem Ti(i j:Int):(if j>i then j else i)=max i j:=by split<;>lia
theorem Tf(i j:Int):(if j<i then j else i)=min i j:=by split<;>lia
theorem _root_.Lake.ZQ.Pq(hg:Gl X x)(hm:X.mg x=Ch)(hv:bootBuiltins x=AC (.builtin "max"))(ha:ZQ.QW X a fa)(hb:ZQ.QW X b fb)(hc:X.calm=Da:=by rfl)(hn:x≠ "__name__":=by decide +kernel)(gi:Nd x:=by kernel_rfl)
 (he:Se a [b] X.env:=by rfl) (Q7:Se b [] X.env:=by rfl) (d!:(backTo pos<|starEach [b] X.env).any (·.1)=AT:=by rfl):ZQ.QE X (.Call (.Name x p1) [a,b] [] pos) (Z.eB Z.Jh fa fb):=
 ⟨PE.imp (jD (G6 hc) hg hm hv (a6 ha.p (a6 hb.p bV Q7) he) hn gi he d!) <|by
  rintro σ H Q ⟨ρ,d,r,e,k⟩;let⟨x,ea,e⟩:=al e;let⟨y,eb,e⟩:=al e;refine⟨ρ,x,r,ea,λ v H1 s1 d1=>⟨ρ,y,r.up s1,eb,λ u H2 s2 d2=>?_⟩⟩;obtain⟨i,j,rfl,rfl,rfl⟩:∃i j,x=.int i/\y=.int j/\d=.int (max i j):=by
   unfold Z.Jh at e;split at e
   .cases e;exact⟨_,_,rfl,rfl,rfl⟩
   .cases e
  refine⟨i,j,by rw[d1.int,d2.int],?_⟩;rw[Ti];exact k _ H2 (s1.trans s2) bZ⟩
theorem _root_.Lake.ZQ.Po(hg:Gl X x)(hm:X.mg x=Ch)(hv:bootBuiltins x=AC (.builtin "min"))(ha:ZQ.QW X a fa)(hb:ZQ.QW X b fb)(hc:X.calm=Da:=by rfl)(hn:x≠ "__name__":=by decide +kernel)(gi:Nd x:=by kernel_rfl)
 (he:Se a [b] X.env:=by rfl) (Q7:Se b [] X.env:=by rfl) (d!:(backTo pos<|starEach [b] X.env).any (·.1)=AT:=by rfl):ZQ.QE X (.Call (.Name x p1) [a,b] [] pos) (Z.eB Z.NK fa fb):=
 ⟨PE.imp (jD (G5 hc) hg hm hv (a6 ha.p (a6 hb.p bV Q7) he) hn gi he d!) <|by
  rintro σ H Q ⟨ρ,d,r,e,k⟩;let⟨x,ea,e⟩:=al e;let⟨y,eb,e⟩:=al e;refine⟨ρ,x,r,ea,λ v H1 s1 d1=>⟨ρ,y,r.up s1,eb,λ u H2 s2 d2=>?_⟩⟩;obtain⟨i,j,rfl,rfl,rfl⟩:∃i j,x=.int i/\y=.int j/\d=.int (min i j):=by
   unfold Z.NK at e;split at e
   .cases e;exact⟨_,_,rfl,rfl,rfl⟩
   .cases e
  refine⟨i,j,by rw[d1.int,d2.int],?_⟩;rw[Tf];exact k _ H2 (s1.trans s2) bZ⟩
theorem _root_.Lake.ZQ.Pt(hg:Gl X x)(hm:X.mg x=Ch)(hv:bootBuiltins x=AC (.type "int"))(ha:ZQ.QW X a fa)(hn:x≠ "__name__":=by decide +kernel)(gi:Nd x:=by kernel_rfl)
 (he:Se a [] X.env:=by rfl) (d!:Pn pos [] X.env:=by rfl):ZQ.QE X (.Call (.Name x p1) [a] [] pos) (Z.eU Z.pV fa):=
 ⟨PE.imp (lT wK hg hm hv (a6 ha.p bV he) hn gi he d!) <|by
  rintro σ H Q ⟨ρ,d,r,e,k⟩;let⟨x,ea,e⟩:=al e;refine⟨ρ,x,r,ea,λ v H1 s1 d1=>?_⟩;unfold Z.pV at e;split at e
  .cases e;exact .inl ⟨_,by rw[d1.int],k _ H1 s1 bZ⟩
  .cases e;exact .inr ⟨_,by rw[d1.bl],k _ H1 s1 bZ⟩
  .cases e⟩
theorem GQ(hs:swapsWith (.Call (.Attribute o "extend" p1) [a] [] p2) Ch pos.line X.env=pure AT:=by rfl)
 (hbm:PE X (.Call (.Attribute o "extend" p1) [a] [] p2) (tBM X.K "list" DC (mS i)<|Ia (tZl X.K l) MI)) :
 DS X H0 (.Expr (.Call (.Attribute o "extend" p1) [a] [] p2) pos) (Z.FF i l):=PS.imp (oh hbm hs) <| by
 rintro D σ H ⟨ρ,fl,rs,e,k⟩;let⟨ys,ea,e⟩:=al e;split at e
 .rename_i xs ei;unfold Z.guard at e;split at e
  .rename_i hl;cases e;let⟨v,si,q,us,rfl,hq,t⟩:=rs.re.get i _ ei;refine⟨_,si,.inl ⟨rfl,us,i4.of hq⟩,ρ,ys,rs.re,ea,λ c vs H1 s1 hn hc tc=>?_⟩;have T3:=s1 _ _ hq;refine⟨q,c,us,vs,rfl,rfl,T3,hc,by rw[t.length,tc.length,A25];exact hl,?_⟩;exact k σ _ ((jR s1).trans<|i? T3)<|(rs.up s1).chg ei si T3<|(t.up s1).append tc
  .cases e
 .cases e
theorem uw:∀{ys}{k},Z.mQ x ys=AC k->k=ys.countP (λ y=>(Z.jS y x).getD AT)/\∀y∈ys,Z.jS y x=AC ((Z.jS y x).getD AT)
|[],k,h=>by cases h;exact⟨rfl,λ y hy=>by cases hy⟩
|y::ys,k,h=>by
 unfold Z.mQ at h;split at h
 .rename_i a b ea eb;cases h;let⟨h1,h2⟩:=uw eb;refine⟨by rw[B33,ea,h1];rfl,λ z hz=>?_⟩;rcases A01.mp hz with rfl|hz
  .rw[ea];rfl
  .exact h2 z hz
 .cases h
theorem PH(I:Inv X χ σ H s)(hu:A.units+60<cLine)(hx:bp X.K H x v)(rx:RelV v u)(t:aq X.K H ys vs)(r:Vals vs us)(hh:∀y∈ys,Z.jS y x=AC ((Z.jS y x).getD AT)):
 ∃e,(∀w∈us,Pi A s w u (e w))/\us.countP e=ys.countP (λ y=>(Z.jS y x).getD AT):=by
 classical
 let e:=λ w=>if h:∃y vy,Den X.K H y vy/\RelV vy w/\y∈ys then(Z.jS h.choose x).getD AT else AT
 have he:∀w y vy,Den X.K H y vy->RelV vy w->y∈ys->e w=(Z.jS y x).getD AT:=by
  intro w y vy dy ry hy;have hex:∃y vy,Den X.K H y vy/\RelV vy w/\y∈ys:=⟨y,vy,dy,ry,hy⟩
  show(if h:_ then _ else _)=_;rw[A90 hex];let⟨vy',YZ,WD,J7⟩:=hex.choose_spec;have ev:=WD.inj ry;subst ev;rw[Den.inj I _ _ _ YZ dy]
 have cnt:∀{zs}{vs}{us},aq X.K H zs vs->Vals vs us->(∀z∈zs,z∈ys)->us.countP e=zs.countP (λ y=>(Z.jS y x).getD AT):=by
  intro zs
  induction zs with
  |nil=>intro vs us t r _;simp only[aq]at t;subst t;cases r;rfl
  |cons z zs ih=>
   intro vs us t r hm;simp only[aq]at t;let⟨vy,vr,rfl,dy,tr⟩:=t;cases r with
   |cons ry rr=>rw[B33,B33,ih tr rr λ w hw=>hm w<|A07 _ hw,he _ z vy dy ry<|hm z A08]
 refine⟨e,λ w hw=>?_,cnt t r λ _ h=>h⟩;let⟨j,hj,ej⟩:=C00 hw;have hl:=r.length;have ht:=t.length;obtain⟨y,ey⟩:∃y,ys[j]?=AC y:=⟨ys[j]'∅,A00 ∅⟩
 let⟨vy,HB,dy⟩:=t.get ey;let⟨u',O0,LW⟩:=r.get HB;have:u'=w:=by have:=A00 hj;rw[O0,ej]at this;exact A05 this
 subst this;have hy:=A18 ey;rw[he _ y vy dy LW hy];exact(Vx I 6 ∅ (hh y hy) (.inl dy) hx LW rx).2.1
def R6(K:Db):V->γ V->Hp->VK->Prop:=λ x vs H Q=>∃d ys q us v k,x=.ref q/\vs=[v]/\i4 K H q us/\aq K H ys us/\bp K H d v/\Z.mQ d ys=AC k/\Q (.int k) H
theorem Jt(hu:X.A.units+64<cLine):Vh X "list.count" (R6 X.K):=by intro χ s σ H x vs v us Q I rx rv h;let⟨d,ys,q,us',v',k,rfl,rfl,hq,t,hd,e,k'⟩:=h;cases rx;let⟨u,rfl,ru⟩:=rv.one;let⟨e1,e2⟩:=uw e;subst e1;let⟨aW,r,pl,hz⟩:=I.list hq;let⟨f,hf,Cq⟩:=PH I (A:=X.A.in1) (show X.A.units+1+60<cLine by lia) hd ru t r e2;let⟨⟨cls,dd,data,sl⟩,ho,hc,n,pC⟩:=id pl.isList;simp only at hc pC;subst hc pC;refine A61 F.slot_list_count ⟨_,ho,rfl⟩ F.entry_list_count (F.args_list_count_2 _ _) (SeqAt.list_countAt q _ n dd sl u f) ⟨ho,λ w hw=>hf w (by simpa using hw),?_⟩;refine⟨.int _,H,I.tok _,⟨_,rfl⟩,?_⟩;rw[Cq];exact k'
theorem _root_.Lake.ZQ.Lb(hu:X.A.units+64<cLine)(ho:ZQ.QW X o fa)(hb:ZQ.QW X b fb)
 (gZ:attributeBase o "count" X.env (eval o X.env)=eval o X.env:=by rfl)
 (lx:((backTo p2<|starEach (b::[]) X.env).all (λ x=>!x.1)&&(backToKw p2<|keywordEach [] X.env).all (λ x=>x.1.isSome)
  && decide ((b::[]).length+([]:γ π).length+(if([]:γ π).isEmpty then 0 else 1)<30))=Da:=by rfl)
 (gW:(p1.endLine==p2.line)=Da:=by rfl) (mL:Se b [] X.env:=by rfl) (fh:Pn p2 [] X.env:=by rfl) :
 ZQ.QE X (.Call (.Attribute o "count" p1) [b] [] p2) (Z.eB Z.xN fa fb):=
 ⟨PE.imp (sY B58 PySem.F.slot_list_count PySem.F.type_list_count (Jt hu) ho.p (a6 hb.p bV mL) gZ lx gW mL fh) <|by
  rintro σ H Q ⟨ρ,d,r,e,k⟩;let⟨x,ea,e⟩:=al e;let⟨y,eb,e⟩:=al e;refine⟨ρ,x,r,ea,λ v H1 s1 d1=>?_⟩;unfold Z.xN at e;split at e
  .rename_i ys _;split at e
   .rename_i n hn;cases e;let⟨q,vs,rfl,hq,t⟩:=d1.lst;refine⟨.inl ⟨rfl,vs,hq⟩,ρ,y,r.up s1,eb,λ u H2 s2 d2=>?_⟩;exact⟨y,ys,q,vs,u,n,rfl,rfl,s2.seq hq,t.up s2,d2,hn,k _ H2 (s1.trans s2) bZ⟩
   .cases e
  .cases e⟩
theorem Dl:∀{xs}{k},Z.zq xs=AC k->∃ns:γ Int,xs=ns.map Z.D.int/\k=ns.sum
|[],k,h=>by cases h;exact⟨[],rfl,rfl⟩
|x::xs,k,h=>by
 cases x with
 |int b=>
  have h':(Z.zq xs).map _=AC k:=h;cases q:Z.zq xs with
  |none=>rw[q]at h';cases h'
  |some k'=>rw[q]at h';cases h';let⟨bs,rfl,rfl⟩:=Dl q;exact⟨b::bs,rfl,rfl⟩
 |non=>cases h
 |bl _=>cases h
 |str _=>cases h
 |tup _=>cases h
 |lst _=>cases h
 |dct _ _=>cases h
theorem wD{K:Db}:∀{ns:γ Int}{vs},aq K H (ns.map Z.D.int) vs->vs=ns.map V.int
|[],vs,h=>by simp only[A35]at h;subst h;rfl
|b::bs,vs,h=>by simp only[v4]at h;let⟨v,r,rfl,hv,ht⟩:=h;simp only[Den]at hv;rw[hv,wD ht];rfl
theorem M?(ns:γ Int):preSum (λ i=>ns[i]?.getD 0) ns.length=ns.sum:=by
 have key:∀k,k<=ns.length->preSum (λ i=>ns[i]?.getD 0) k=(ns.take k).sum:=by
  intro k
  induction k with
  |zero=>intro _;simp[preSum]
  |succ k ih=>
   intro hk;have e:preSum (λ i=>ns[i]?.getD 0) (k+1)=preSum (λ i=>ns[i]?.getD 0) k+ns[k]?.getD 0:=rfl;have abj:∀(xs ys:γ Int),(xs++ys).sum=xs.sum+ys.sum:=λ xs ys=>by
    induction xs with
    |nil=>simp
    |cons x xs ih=>simp only[C01,B59];lia
   rw[e,ih ∅,C02,abj,A00<|show k<ns.length by lia];simp
 have:=key _<|M2 _;rwa [B60]at this
theorem G3(hc:X.calm=Da):lO X (.builtin "sum") (λ xs H Q=>∃(q:δ)(ns:γ Int),xs=[.ref q]/\i4 X.K H q (ns.map V.int)/\Q (.int ns.sum) H):=by
 intro χ s σ H xs us Q I r h;let⟨q,ns,rfl,hq,k⟩:=h;let⟨u,rfl,ru⟩:=vals1 r;cases ru;let⟨aW,rv,pl,hz⟩:=I.list hq;have hl:=rv.length;rw[A04]at hl;have jc:q<s.heap.objs.size:=by let⟨_,e,_⟩:=pl.isList;exact A02 e
 have hh:X.A.in1.handled=Ch:=I.ok.hd hc;refine call_sum_walkG<|B10 pl.isList ?_;refine⟨s.heap.objs.size,[s.heap.objs.size,q],[s.heap.objs.size],aW.toArray.size,_,_,λ i=>ns[i]?.getD 0,rfl,Walks.list hh s.heap.objs.size q (A13 jc) aW.toArray,⟨⟨_,A17 _ rfl,rfl,rfl⟩,pl.isList.push _⟩,?_,?_,λ h' tk t' hk=>?_⟩
 .intro b hb;rw[A54];rcases A01.mp hb with rfl|hb
  .exact A63 _
  .rw[A15.mp hb];exact B97 jc
 .intro i v hv;have hi:aW[i]?=AC v:=by simpa using hv
  let⟨hi1,_⟩:=A03.mp hi;have hb:(ns.map V.int)[i]?=AC (V.int<|ns[i]'∅):=by rw[A06,A00];rfl
  let⟨u,hu,ru⟩:=rv.get hb;rw[hi]at hu;cases hu;let⟨t,rfl⟩:=ru;exact⟨t,by show Value.int _ t=Value.int (ns[i]?.getD 0) t;rw[A00];rfl⟩
 .have I1:Inv X χ σ H {s with heap:=s.heap.push {cls:=.type "list_iterator",data:=.fields #[.ref q,.int 0 0]}}:=I.kept λ b o e=>f8 _ e;let⟨f0,f1,f2,f3,f4,f5⟩:=I.u? (M2 s.heap.objs.size) I.fresh;have I2:=I1.turned (t':=tk) (λ b o hb e=>hk b o (by simpa using hb) e) f0 f1 f3 f4 f5;refine⟨.int _,H,I2,⟨t',rfl⟩,?_⟩;rw[A10,<-hl,M?];exact k
theorem _root_.Lake.ZQ.Pj(hm:X.mg x=Ch)(ha:ZQ.QW X a fa)(hc:X.calm=Da:=by rfl)(hn:x≠ "__name__":=by decide +kernel)(gi:Nd x:=by kernel_rfl)(he:Se a [] X.env:=by rfl)(d!:Pn pos [] X.env:=by rfl)(hg:Gl X x:=by rfl)(hv:bootBuiltins x=AC (.builtin "sum"):=by kernel_rfl):ZQ.QE X (.Call (.Name x p1) [a] [] pos) (Z.eU Z.Jd fa):=
 ⟨PE.imp (jD (G3 hc) hg hm hv (a6 ha.p bV he) hn gi he d!) <|by
  rintro σ H Q ⟨ρ,d,r,e,k⟩;let⟨x,ea,e⟩:=al e;refine⟨ρ,x,r,ea,λ v H1 s1 d1=>?_⟩;unfold Z.Jd at e;split at e
  .split at e
   .rename_i xs k' hk;cases e;let⟨bs,rfl,rfl⟩:=Dl hk;let⟨q,vs,rfl,hq,t⟩:=d1.lst;rw[wD t]at hq;exact⟨q,bs,rfl,hq,k _ H1 s1 bZ⟩
   .cases e
  .cases e⟩
end
end ZS
namespace ZQ
open L2 ZS
theorem UC(ho:PE X o (mS i))(ha:QL X a l)(hs:swapsWith (.Call (.Attribute o "extend" p1) [a] [] p2) Ch pos.line X.env=pure AT:=by rfl)(mL:Se a [] X.env:=by rfl)
 (gZ:attributeBase o "extend" X.env (eval o X.env)=eval o X.env:=by rfl)
 (lx:((backTo p2<|starEach (a::[]) X.env).all (λ x=>!x.1)&&(backToKw p2<|keywordEach [] X.env).all (λ x=>x.1.isSome)
  && decide ((a::[]).length+([]:γ π).length+(if([]:γ π).isEmpty then 0 else 1)<30))=Da:=by rfl)
 (gW:(p1.endLine==p2.line)=Da:=by rfl) (fh:Pn p2 [] X.env:=by rfl) :
 QS X H0 (.Expr (.Call (.Attribute o "extend" p1) [a] [] p2) pos) (Z.FF i l):=
 ⟨ZS.GQ hs<|sY B58 PySem.F.slot_list_extend PySem.F.type_list_extend F8 ho (a6 ha.p bV mL) gZ lx gW mL fh⟩
end ZQ
namespace ZS
open L2 PySem.W
theorem qt:∀{ns:γ Int},i∈ns->WF (.int i)<=Uf (ns.map WData.int)
|[],h=>by cases h
|n::ns,h=>by
 rcases A01.mp h with rfl|h
 .simp only[v4,Uf];lia
 .have:=qt h;simp only[v4,Uf];lia
theorem A5{ns:γ Int}(h:WData.layableAll [WData.list (ns.map WData.int)]=Da):∀i∈ns,Z.bits i<=2^20:=by
 intro i hi;have h1:=A31.mp h _ A08;unfold WData.layable at h1;rw[A38]at h1;have h3:WF (.list<|ns.map WData.int)=Uf (ns.map WData.int):=by simp only[WF]
 have h4:=qt hi;have h5:WF (.int i)=Z.bits i:=by
  simp only[WF];unfold Z.bits;by_cases hz:i=0
  .subst hz;rfl
  .rw[o0 hz,o0 (by simpa using hz)]
 lia
def LK(q:ο)(K:Frag):Prop:=noTabs K=Da/\(∀x∈cK,∀c P,tabIn K x=AC (c,P)->∃d,(recsOf q).find? (λ e=>e.name==x)=AC d) /\
 ∀x y c P c',x∈cK->y∈cK->tabIn K x=AC (c,P)->tabIn K y=AC (c',P)->x=y
theorem sJ{K:Frag}(h:nsIn K mainGlobals x=AC (AC<|.ref f))(h2:K.lookup f=AC ⟨o1,d1,.func fd,s1⟩)(h3:fd.code=.ref c)
 (h4:K.lookup c=AC ⟨o2,d2,.fields vs,s2⟩) (h5:vs[11]?=AC (.ref p)):tabIn K x=AC (c,p):=by
 unfold tabIn;rw[h];dsimp only;rw[h2];dsimp only;rw[h3];dsimp only;rw[h4];dsimp only;rw[h5]
theorem fS{p:Str->Prop}(h1:p "best_among")(h2:p "paper_beside"):∀x∈cK,p x:=by
 intro x hx;rcases A01.mp hx with rfl|hx
 .exact h1
 .rw[A15.mp hx];exact h2
theorem Tt{K:Frag}(n:noTabs K=Da)(h1:tabIn K "best_among"=r1)(h2:tabIn K "paper_beside"=r2)(g1:r1=Ch\/((recsOf q).find? λ e=>e.name==EQ "best_among").isSome=Da)(g2:r2=Ch\/((recsOf q).find? λ e=>e.name==EQ "paper_beside").isSome=Da)
 (ne:∀c P c' P',r1=AC (c,P)->r2=AC (c',P')->P≠P'):LK q K:=by
 refine⟨n,fS (λ c P e=>?_) λ c P e=>?_,λ x y c P c' hx hy=>?_⟩
 .rcases g1 with z|z
  .rw[h1,z]at e;cases e
  .exact A68.mp z
 .rcases g2 with z|z
  .rw[h2,z]at e;cases e
  .exact A68.mp z
 .refine fS (p:=λ x=>tabIn K x=AC (c,P)->tabIn K y=AC (c',P)->x=y) (λ e1=>?_) (λ e1=>?_) x hx
  .refine fS (p:=λ y=>tabIn K y=AC (c',P)-> "best_among"=y) (λ _=>rfl) (λ e2=>?_) y hy;exact absurd rfl<|ne c P c' P (h1.symm.trans e1)<|h2.symm.trans e2
  .refine fS (p:=λ y=>tabIn K y=AC (c',P)-> "paper_beside"=y) (λ e2=>?_) (λ _=>rfl) y hy;exact absurd rfl<|ne c' P c P (h1.symm.trans e2)<|h2.symm.trans e1
theorem RF{l:OpenLaw}{n k:Nat}{q:ο}{loose:γ Str}{XP:(Str->ε ζ)->ν->Prop}{YP:ξ->ν->Prop}{d:DefRec}{K:Params->Frag}{m:γ Z.D->Z.Res Z.D}{x:Str}
 (hn:l.most=AC n) (OH:n<=sizeLine) (hdf:d.params.defaults=[]) (hr:bh k callerA)
 (hY:∀w h,YP w h->(K w.params).In h)
 (F:∀ w mg fa h,(K w.params).In h->h.Ns mainGlobals mg->mg d.name=AC (.ref fa) ->
  ∃fd:υ,(∀(s:η)(u:ζ),BindsTo s fd ⟨[u],[]⟩ [(x,u)]) /\
   ∀base:ν,(K w.params).In base->base.Ns mainGlobals mg->d9 l.prog w (K w.params) mg base il k fa fd [x] (yI (K w.params) m)) (hL:∀w:ξ,LK q (K w.params))
 (hold:∀ns:γ Int,ns.length<=n->(∀i∈ns,Z.bits i<=2^20)->m [.lst (ns.map .int)]=.ok (.bl Da)) :
 WalkO q loose XP YP l.row.toRowW d [] (λ f vs=>PySem.call f vs):=by
 intro w s₀ s₁ mg mb G Y fa o pm cd doc dV kV ho hd rT hD hmg hg args vals as OD abH hrd hwl hlo;cases Dflts.none hD hdf;cases Dflts.noKw hD;let⟨a,vs,ns,rfl,rfl,abw,hints,ψ⟩:=Att.FD hn OD hwl;have KX:=hY w _ Y;let⟨fd,hb,hF⟩:=F w mg fa _ KX G.T.g hmg;have C:=JO KX G.T.g G.T.b G.T.builtins G.T.nolimit hg abw hints (A11 ψ OH) hr hF hb (λ H hO hS=>Ts hO hS<|hold ns ψ<|A5 abH) (λ H e s' z=>z)
  (hL w).2.2 (λ y hy c p e=>let ⟨d,hd⟩:=(hL w).2.1 y hy c p e;let T:=tab_of G.T KX hd e;⟨T,T.1.tab T.2⟩) G.T.bmain (hL w).1
 refine enter_call<|A87 C λ r s' hq=>?_;let⟨rfl,h2,h3,h4⟩:=hq;exact⟨.inl ⟨.bool Da,.bool Da,[],rfl,λ _=>rfl,.bool Da,Att.FJ l _,λ _=>⟨List.Pairwise.nil,λ _ hm=>(nomatch hm)⟩⟩,h2,h3,h4⟩
end ZS
namespace ZS
open L2
theorem B6(hit:s.heap.IsTupleIter it t i)(ht:s.heap.IsTuple t items)(hx:items[i]?=AC x)
 (hQ:∀h',h'.IsTupleIter it t (i+1)->Ix it s.heap h'->Q x {s with heap:=h'}):Ev (model prog w) A (Go<|.ref it) Q E s:=by
 let⟨ob,L?,lY,wg⟩:=id hit;let⟨ot,OE,_,nt,Yu⟩:=ht;refine T0<|B04 hit.typeIs B61<|B06 B61 hit.typeIs C46 ?_<|C47 _;show Ev _ _ (field _ 0>>=_) _ _ _;refine T0<|A34 L? wg (x:=.ref t) rfl ?_;have Hx:¬(Value.ref t==Tk)=Da:=A86;rw[o0 Hx];refine T0<|A34 L? wg rfl ?_;refine T0<|A56 OE Yu ?_;simp only[A95,hx];refine T0<|B62 L? wg ∅<|P3 ⟨x,rfl,P3<|hQ _ ⟨_,B13 _ L?<|B63<|A65 wg _,(C03 ..).trans lY,?_⟩<|Heap.SameBut.update ..⟩;rw[A65 wg];simp[rawInt]
theorem F6(hh:A.handled=Ch)(hit:s.heap.IsTupleIter it t i)(ht:s.heap.IsTuple t items)(hx:items[i]?=Ch)
 (hE:∀h' e,gt it s.heap h'->(∃o,h'.get? e=AC o/\o.cls=.type "StopIteration")->E (.ref e) {s with heap:=h'}):Ev (model prog w) A (Go<|.ref it) Q E s:=by
 let⟨ob,L?,lY,wg⟩:=id hit;let⟨ot,OE,_,nt,Yu⟩:=ht;refine T0<|B04 hit.typeIs B61<|B06 B61 hit.typeIs C46 ?_<|C47 _;show Ev _ _ (field _ 0>>=_) _ _ _;refine T0<|A34 L? wg (x:=.ref t) rfl ?_;have Hx:¬(Value.ref t==Tk)=Da:=A86;rw[o0 Hx];refine T0<|A34 L? wg rfl ?_;refine T0<|A56 OE Yu ?_;simp only[A95,hx];refine T0<|B28<|T0<|B62 L? wg ∅ ?_;refine T0 ?_;simp only[newExc,newTuple];refine T0<|A69 ?_ (by size_fits);refine T0<|wpAny_of_eq (by first|rfl|(simp only[firstArgMember];rfl)) ?_;refine A69 ?_ (by size_fits);simp only[raiseNew];refine T0<|wpAny_handled ?_
 first|rw[hh]|rw[hh]
 exact T0<|P3<|wpAny_throw<|hE _ _ (((Heap.SameBut.update ..).extBut.push _).push _) ⟨_,A17 _ rfl,rfl⟩
theorem UH(hh:A.handled=Ch)(it t:δ)(tT:t≠it)(items:Array ζ):
 Draws prog w A it [it,t] items.size (λ i v=>items[i]?=AC v) (λ i h=>h.IsTupleIter it t i/\h.IsTuple t items) where
 live:=λ _ _ st=>let ⟨o,ho,_⟩:=st.1;⟨o,ho⟩
 frame:=λ _ _ _ st hk=>by let⟨⟨o,e,r⟩,⟨o2,e2,r2⟩⟩:=st;exact⟨⟨o,hk it ∅ o e,r⟩,⟨o2,hk t ∅ o2 e2,r2⟩⟩
 item:=λ i s Q E hi st hQ=>by refine B6 st.1 st.2 (x:=items[i]) ∅ λ h' abM we=>?_;exact hQ _ h' _ ∅ ⟨abM,st.2.extBut we.extBut tT⟩ we
 done:=λ s Q E st hE=>F6 hh st.1 st.2 ∅ hE
theorem Dd{ch:γ δ}(I:Inv X χ σ H s)(k:∀b o,b∉ch->s.heap.get? b=AC o->h'.get? b=AC o)(hf:∀b∈ch,pw X χ H b):Inv X χ σ H {s with heap:=h',toks:=t'}:=by
 have z5:∀b u,H b=AC u->b∉ch:=λ b u e hb=>by rw[(hf b hb).1]at e;cases e
 refine I.step (λ b hb=>?_) (λ b o _ _ hc e _=>k b o hc e) (λ b o _ _ hc e _=>⟨_,k b o hc e⟩) (λ _ _ _ _ n=>n)
  (λ b o hc e=>⟨o,k b o hc e⟩) (λ _ _ e=>e) (λ _ _ _ e=>e) (λ _ _ _ e=>e) (λ m hm=>?_) (λ b u e=>?_) I.bare
 .let⟨f0,f1,f2,f3,f4,f5⟩:=hf b hb;exact⟨f3,f1,f4,f5⟩
 .let⟨o,es,ep,ho,r⟩:=hm;exact⟨o,es,ep,k _ o (λ hb=>(hf _ hb).2.1 rfl) ho,r⟩
 .refine(I.bG b u e).rh (λ c v hc q=>k c v ?_ q) (λ _ q=>q) (λ _ _ q=>q) λ _ _ _ q=>q;rcases hc with z|z
  .rw[z];exact z5 b u e
  .exact z5 c _ z
theorem Dc{ch:γ δ}(I:Inv X χ σ H s)(k:∀b o,b∉ch->s.heap.get? b=AC o->h'.get? b=AC o)(hf:∀b∈ch,pw X χ H b)
 (hT:s.heap.objs.size<=T) (hTT:pq h' T us.toArray) (r:Vals xs us) (hz:xs.length<=sizeLine):Inv X χ σ (upd H T<|.tup xs) {s with heap:=h',toks:=t'}:=by
 have hn:=I.bG.fresh hT;have z5:∀b u,H b=AC u->b∉ch:=λ b u e hb=>by rw[(hf b hb).1]at e;cases e
 have up:∀b u,H b=AC u->upd H T (.tup xs) b=AC u:=λ b u e=>by rw[au<|aT e hn];exact e
 have lt:∀b o,s.heap.get? b=AC o->b≠T:=λ b o e z=>by rw[z]at e;exact absurd (A02 e)<|A82.mpr hT
 refine I.step (λ b hb=>?_) (λ b o _ _ hc e _=>k b o hc e) (λ b o _ _ hc e _=>⟨_,k b o hc e⟩) (λ b o _ e n=>by rw[au<|lt b o e];exact n)
  (λ b o hc e=>⟨o,k b o hc e⟩) (λ b ys e=>up b _ e) (λ b o u e=>up b _ e) (λ b u _ e=>up b _ e) (λ m hm=>?_) (λ b u e=>?_) I.bare
 .let⟨f0,f1,f2,f3,f4,f5⟩:=hf b hb;exact⟨f3,f1,f4,f5⟩
 .let⟨o,es,ep,ho,q⟩:=hm;exact⟨o,es,ep,k _ o (λ hb=>(hf _ hb).2.1 rfl) ho,q⟩
 .by_cases hb:b=T
  .subst hb;rw[aA]at e;cases e;exact⟨hz,us,r,hTT⟩
  .rw[au hb]at e;refine(I.bG b u e).rh (λ c v hc q=>k c v ?_ q) (λ c q=>?_) (λ c ys q=>up c _ q) λ c v _ q=>up c _ q
   .rcases hc with z|z
    .rw[z];exact z5 b u e
    .exact z5 c _ z
   .exact up c _ q
structure Vk where
 at_:Nat->Hp->V->Prop
 end_:Nat->Hp->Prop
def Zs(J:Vk):It:=⟨λ i H=>∃y,J.at_ i H y,λ i H x H'=>∃T y,H T=Ch/\x=.ref T/\H'=upd H T (.tup [.int (i:Nat),y])/\J.at_ i H y,J.end_⟩
structure Src(P:Program)(w:World)(K:Db)(J:Vk)(it:Addr)(TL:Nat->Heap->Prop):Prop where
 obj:∀i h,TL i h->∃o,h.get? it=AC o/\(∀v,o.data≠.cell v)/\o.cls≠.type "enumerate" /\ o.cls≠.type "zip" /\ o.cls≠.type "tuple"
 keep:∀i h h',TL i h->(∀o,h.get? it=AC o->h'.get? it=AC o)->TL i h'
 draw:∀(X:Cx),X.prog=P->X.w=w->X.K=K->X.calm=Da->∀(i:Nat)(χ:List (Addr×Obj))(s:Shared)(σ:St)(H:Hp),Inv X χ σ H s->TL i s.heap->((∃y,J.at_ i H y)\/J.end_ i H) ->
  ∃(fp:List Addr)(n:Nat)(Pv:Nat->Value->Prop)(S:Nat->Heap->Prop),Draws P w X.A.in1 it fp n Pv S/\S i s.heap/\it∈fp/\(∀b∈fp,b=it\/∃o,s.heap.get? b=AC o/\o.cls≠.type "enumerate" /\ o.cls≠.type "zip" /\ (H b=Ch->∃o',K.lookup b=AC o')) /\
   ((∃y,J.at_ i H y)->i<n/\∀u,Pv i u->∃y,RelV y u/\J.at_ i H y)/\(J.end_ i H->i=n)/\∀j h,S j h->TL j h
theorem pJ{K:FS}(S:Src P w K J it TL)(Yt:e≠it):
 Turn P w K (.Tuple elts x1 pos) (Zs J) [e,it] e (λ i h=>(∃old,IsEnum h e it i old)/\TL i h) where
 mem:=by simp
 obj:=λ i h st b hb=>by
  rcases A01.mp hb with rfl|hb
  .let⟨⟨old,he⟩,_⟩:=st;exact⟨_,he,λ v z=>by have z':=z;cases z'⟩
  .rw[A15]at hb;subst hb;let⟨o,h1,h2,_⟩:=S.obj i h st.2;exact⟨o,h1,h2⟩
 keep:=λ i h h' st k=>⟨by let⟨old,he⟩:=st.1;exact⟨old,k e ∅ _ he⟩,S.keep i h h' st.2 λ o q=>k it ∅ o q⟩
 item:=by
  intro X hP hw hK hc i χ s σ H E I hf st hg;let⟨fp,n,Pv,St',D,L!,hif,hfp,hat,_,oN⟩:=S.draw X hP hw hK hc i χ s σ H I st.2 (.inl hg);let⟨hi,hv⟩:=hat hg;subst hP hw hK;let⟨old,he⟩:=st.1;have _z:e∉fp:=λ hb=>by
   rcases hfp e hb with z|⟨o,q,tT,_⟩
   .exact Yt z
   .rw[he]at q;cases q;exact tT rfl
  have W:=WalksT.enumerateD (A:=X.A) D e Yt _z hif;have Ys:=A02 he;have Ym:it<s.heap.objs.size:=by let⟨o,q,_⟩:=S.obj _ _ st.2;exact A02 q
  refine wpAny_pyNext_enum_itemD D he L! hi Yt _z λ u h' t' hu ho we hTx Co hk=>⟨.ref s.heap.objs.size,rfl,?_⟩
  have hT:s.heap.objs.size<=s.heap.objs.size:=M2 _;have kk:∀b o,b∉[e,it]->s.heap.get? b=AC o->h'.get? b=AC o:=λ b o hb y=>hk b o (λ e'=>hb (by simp[e'])) (λ e'=>hb (by simp[e'])) y;let⟨y,ry,hy⟩:=hv u hu;have hTw:s.heap.objs.size∉[e,it]:=by simp only[A01,A40,A46,A72];exact⟨A45 Ys,A45 Ym⟩
  refine W.go elts x1 pos i s.heap.objs.size _ _ _ ⟨⟨_,ho⟩,we,A45 Ys,A45 Ym⟩ λ h2 TV kk2=>?_;have hTn:=I.bG.fresh hT;have aci:pq h2 s.heap.objs.size [Value.int i t',u].toArray:=⟨_,kk2 _ _ hTw hTx⟩
  have I2:Inv X χ σ (upd H s.heap.objs.size<|.tup [.int (i:Nat),y]) {s with heap:=h2,toks:=t'+1}:=
   Dc (ch:=[e,it]) I (λ b o hb q=>kk2 b o hb<|kk b o hb q) hf hT aci (.cons ⟨t',rfl⟩<|.cons ry .nil) (by show 2<=sizeLine;decide)
  refine⟨.ref s.heap.objs.size,_,I2,rfl,⟨s.heap.objs.size,y,hTn,rfl,rfl,hy⟩,⟨TV.1,oN _ _ TV.2⟩,λ b hb=>?_⟩;have hbT:b≠s.heap.objs.size:=λ z=>hTw<|z▸hb;rw[au hbT];exact(hf b hb).1
 done:=by
  intro X hP hw hK hc i χ s σ H E I hf st hg;let⟨fp,n,Pv,St',D,L!,hif,hfp,_,Ud,oN⟩:=S.draw X hP hw hK hc i χ s σ H I st.2 (.inr hg);have abN:=Ud hg;subst hP hw hK abN;let⟨old,he⟩:=st.1;have _z:e∉fp:=λ hb=>by
   rcases hfp e hb with z|⟨o,q,tT,_⟩
   .exact Yt z
   .rw[he]at q;cases q;exact tT rfl
  have W:=WalksT.enumerateD (A:=X.A) D e Yt _z hif;exact W.done s _ _ ⟨⟨old,he⟩,L!⟩ λ h' tk kk=>⟨rfl,Dd (ch:=[e,it]) I kk hf⟩
 self:=λ A i s Q E st hQ=>by let⟨old,he⟩:=st.1;exact B64 he hQ
def Gi(K:Db)(t:δ)(vs:γ V):Vk:=⟨λ i H y=>mi K H t vs/\vs[i]?=AC y,λ i H=>mi K H t vs/\vs.length=i⟩
def Oz(K:Db)(t:δ)(vs:γ V):Vk:=⟨λ i H y=>i4 K H t vs/\vs[i]?=AC y,λ i H=>i4 K H t vs/\vs.length=i⟩
def J0(z:Str):Vk:=⟨λ i _ y=>∃c,z.cps[i]?=AC c/\y=.str ⟨#[c]⟩,λ i _=>i=z.cps.size⟩
theorem rK{K:FS}:Src P w K (Gi K t xs) it (λ i h=>h.IsTupleIter it t i) where
 obj:=λ i h st=>by let⟨o,e,c,d⟩:=st;exact⟨o,e,λ v z=>(by rw[d]at z;cases z),by rw[c];decide,by rw[c];decide,by rw[c];decide⟩
 keep:=λ i h h' st k=>let ⟨o,e,r⟩:=st;⟨o,k o e,r⟩
 draw:=by
  intro X hP hw hK hc i χ s σ H I st hg;subst hP hw hK;have hq:mi X.K H t xs:=by rcases hg with⟨y,h,_⟩|⟨h,_⟩<;>exact h
  let⟨aW,r,p,hz⟩:=I.tuple hq;let⟨ot,OE,Ue,nt,Yu⟩:=id p;let⟨oi,Yh,Yw,hdi⟩:=id st;have tT:t≠it:=by rintro rfl;rw[OE]at Yh;cases Yh;rw[Ue]at Yw;injection Yw with z;exact absurd z ∅
  refine⟨[it,t],_,_,_,UH (A:=X.A.in1) (I.ok.hd hc) it t tT _,⟨st,p⟩,by simp,λ b hb=>?_,λ⟨y,_,X!⟩=>?_,λ⟨_,hl⟩=>?_,λ j h q=>q.1⟩
  .rcases A01.mp hb with rfl|hb
   .exact .inl rfl
   .rw[A15]at hb;subst hb;refine .inr ⟨ot,OE,by rw[Ue];decide,by rw[Ue];decide,λ hn=>?_⟩;rcases hq with(z|⟨o,z⟩)|⟨o,_,_,z,_⟩
    .rw[hn]at z;cases z
    .rw[hn]at z;cases z
    .exact⟨o,z⟩
  .let⟨u,hu,ru⟩:=r.get X!;refine⟨by rw[A10];exact(A03.mp hu).1,λ u' VL=>⟨y,?_,hq,X!⟩⟩;have:aW[i]?=AC u':=by simpa using VL
   rw[hu]at this;cases this;exact ru
  .rw[A10,<-r.length,hl]
theorem Dq{K:FS}:Src P w K (Oz K t xs) it (λ i h=>h.IsListIter it t i) where
 obj:=λ i h st=>by let⟨o,e,c,d⟩:=st;exact⟨o,e,λ v z=>(by rw[d]at z;cases z),by rw[c];decide,by rw[c];decide,by rw[c];decide⟩
 keep:=λ i h h' st k=>let ⟨o,e,r⟩:=st;⟨o,k o e,r⟩
 draw:=by
  intro X hP hw hK hc i χ s σ H I st hg;subst hP hw hK;have hq:i4 X.K H t xs:=by rcases hg with⟨y,h,_⟩|⟨h,_⟩<;>exact h
  let⟨aW,r,p,hz⟩:=I.list hq;let⟨ot,OE,Ue,nt,Yu⟩:=id p.isList;let⟨oi,Yh,Yw,hdi⟩:=id st;have tT:t≠it:=by rintro rfl;rw[OE]at Yh;cases Yh;rw[Ue]at Yw;injection Yw with z;exact absurd z ∅
  refine⟨[it,t],_,_,_,Draws.list (A:=X.A.in1) (I.ok.hd hc) it t tT _,⟨st,p.isList⟩,by simp,λ b hb=>?_,λ⟨y,_,X!⟩=>?_,λ⟨_,hl⟩=>?_,λ j h q=>q.1⟩
  .rcases A01.mp hb with rfl|hb
   .exact .inl rfl
   .rw[A15]at hb;subst hb;refine .inr ⟨ot,OE,by rw[Ue];decide,by rw[Ue];decide,λ hn=>?_⟩;rcases hq with(z|⟨o,z⟩)|⟨o,_,_,z,_⟩
    .rw[hn]at z;cases z
    .rw[hn]at z;cases z
    .exact⟨o,z⟩
  .let⟨u,hu,ru⟩:=r.get X!;refine⟨by rw[A10];exact(A03.mp hu).1,λ u' VL=>⟨y,?_,hq,X!⟩⟩;have:aW[i]?=AC u':=by simpa using VL
   rw[hu]at this;cases this;exact ru
  .rw[A10,<-r.length,hl]
theorem MO{K:FS}:Src P w K (J0 z) it (λ i h=>h.IsStrIter it (strIterType z) z tk i) where
 obj:=λ i h st=>by let⟨o,e,c,d⟩:=st;refine⟨o,e,λ v q=>(by rw[d]at q;cases q),?_,?_,?_⟩<;>(rw[c];unfold strIterType;split<;>decide)
 keep:=λ i h h' st k=>let ⟨o,e,r⟩:=st;⟨o,k o e,r⟩
 draw:=by
  intro X hP hw hK hc i χ s σ H I st hg;subst hP hw hK;have hh:X.A.in1.handled=Ch:=I.ok.hd hc;have fin:∀Pv,(∀i u,Pv i u->∃c t,z.cps[i]?=AC c/\u=.str ⟨#[c]⟩ t)->∀S,Draws X.prog X.w X.A.in1 it [it] z.cps.size Pv S->S i s.heap->(∀j h,S j h->h.IsStrIter it (strIterType z) z tk j) ->
   ∃fp n Pv S,Draws X.prog X.w X.A.in1 it fp n Pv S/\S i s.heap/\it∈fp/\(∀b∈fp,b=it\/∃o,s.heap.get? b=AC o/\o.cls≠.type "enumerate" /\ o.cls≠.type "zip" /\ (H b=Ch->∃o',X.K.lookup b=AC o')) /\
    ((∃y,(J0 z).at_ i H y)->i<n/\∀u,Pv i u->∃y,RelV y u/\(J0 z).at_ i H y)/\((J0 z).end_ i H->i=n)/\∀j h,S j h->h.IsStrIter it (strIterType z) z tk j:=by
   intro Pv hPv S D hs hS;refine⟨[it],z.cps.size,Pv,S,D,hs,by simp,λ b hb=>.inl (by simpa using hb),λ⟨y,c,hy,_⟩=>⟨?_,λ u hu=>?_⟩,λ q=>q,hS⟩
   .rcases Nat.lt_or_ge i z.cps.size with q|q
    .exact q
    .rw[Array.getElem?_eq_none q]at hy;cases hy
   .let⟨c',t',qQ,rfl⟩:=hPv i u hu;exact⟨.str ⟨#[c']⟩,⟨t',rfl⟩,c',qQ,rfl⟩
  cases ha:z.cps.all (· < 128)
  .have e:strIterType z="str_iterator":=by unfold strIterType;rw[ha];rfl
   exact fin _ (λ _ _ q=>q) _ (Draws.strWide hh it z tk) (by rw[<-e];exact st) λ j h q=>by rw[e];exact q
  .have e:strIterType z="str_ascii_iterator":=by unfold strIterType;rw[ha];rfl
   exact fin _ (λ _ _ q=>q) _ (Draws.strAscii hh it z tk) (by rw[<-e];exact st) λ j h q=>by rw[e];exact q
theorem z?(l:δ)(items:Array ζ)(n:Nat)(dct:ε δ)(sl:Array _):
 Meets (Builtin.«enumerate.__new__» ⟨[.type "enumerate",.ref l],[]⟩) (λ _ R s=>s.heap.get? l=AC {cls:=.type "tuple",dict:=dct,data:=.seq items n,slots:=sl} /\
  R (.ok<|.ret<|.ref (s.heap.push {cls:=.type "tuple_iterator",data:=.fields #[.ref l,.int 0 0]}).objs.size)
   {s with heap:=(s.heap.push {cls:=.type "tuple_iterator",data:=.fields #[.ref l,.int 0 0]}).push {cls:=.type "enumerate",data:=.fields #[.none,.bool AT,.ref s.heap.objs.size,rawInt 0,.none,.none]}}):=
 .of_wp λ prog w A R s h=>by
  let⟨hp,gs,dr,tk,os⟩:=s;let⟨hl,h⟩:=h;have hsb:=sub_enumerate;have hL:wv _ l items:=⟨_,hl,rfl,n,rfl⟩
  wp_walk using C04 hl
  refine wpAny_stack_any λ st=>P3 ?_;split
  .rename_i c _ _ _ _ _;cases (c==Value.type "enumerate")<;>(wp_walk using C04 hl,B09 hL;exact⟨_,rfl,h⟩)
  .wp_walk using C04 hl,B09 hL
   exact⟨_,rfl,h⟩
theorem CP(hL:s.heap.IsTuple l items)
 (h:∀h',IsEnum h' (s.heap.objs.size+1) s.heap.objs.size 0 .none->h'.IsTupleIter s.heap.objs.size l 0->(∀b o,s.heap.get? b=AC o->h'.get? b=AC o)->Q (.ref<|s.heap.objs.size+1) {s with heap:=h'}) :
 Ev (model prog w) A (call (.type "enumerate") [.ref l]) Q E s:=by
 let⟨⟨c,dct,dt,sl⟩,hl,hc,n,hd⟩:=hL;have qQ:=hc;have pC:=hd;subst qQ pC;refine callType_new F.called_enumerate ∅ (F.typeCall_enumerate_1 _) (F.newCall_enumerate_1 _) (λ obj=>F.args_object_init_2 obj _) F.entry_enumerate_new (z? l items n dct sl) ⟨hl,?_⟩;have hz:(s.heap.push {cls:=.type "tuple_iterator",data:=.fields #[.ref l,.int 0 0]}).objs.size=s.heap.objs.size+1:=A54 ..;have he:=A17 (s.heap.push {cls:=.type "tuple_iterator",data:=.fields #[.ref l,.int 0 0]}) (o:={cls:=.type "enumerate",data:=.fields #[.none,.bool AT,.ref s.heap.objs.size,rawInt 0,.none,.none]}) rfl;rw[hz]at he ⊢;exact⟨⟨_,he,rfl⟩,h _ he ⟨_,f8 _<|A17 _ rfl,rfl,rfl⟩ λ b o x=>f8 _<|f8 _ x⟩
theorem qb:∀ds k i,(Z.lG k ds)[i]?=(ds[i]?).map λ d=>Z.pair (.int<|(k+i:Nat)) d
|[],_,_=>by simp[Z.lG]
|d::ds,k,0=>by simp[Z.lG]
|d::ds,k,i+1=>by simp only[Z.lG,C48,qb ds _ i];rw[show k+1+i=k+(i+1)by lia]
theorem wA:∀ds k,(Z.lG k ds).length=ds.length
|[],_=>rfl
|d::ds,k=>by simp[Z.lG,wA ds]
theorem tP{K:Db}(h1:∀i d H1,S H1->ds[i]?=AC d->(∃y,J.at_ i H1 y)/\∀y,J.at_ i H1 y->Den K H1 d y)(h2:∀H1,S H1->J.end_ ds.length H1):E8 K (Zs J) S (Z.lG 0 ds) where
 go:=λ i d H1 s hi=>by
  rw[qb]at hi;cases q:ds[i]? with
  |none=>rw[q]at hi;cases hi
  |some d0=>exact(h1 i d0 H1 s q).1
 Be:=λ i d H1 H2 x s hi y=>by
  let⟨T,y,hT,rfl,rfl,hy⟩:=y;rw[qb]at hi;cases q:ds[i]? with
  |none=>rw[q]at hi;cases hi
  |some d0=>rw[q]at hi;cases hi;have sm:aw H1 (upd H1 T<|.tup [.int (i),y]):=bT hT;refine⟨sm,eD (.inl<|.inl aA)<|aq.cons ?_<|aq.cons (((h1 i d0 H1 s q).2 y hy).up sm) aq.nil⟩;rw[A96];exact bZ
 stop:=λ H1 s=>by rw[wA];exact h2 H1 s
theorem Cv(I:Inv X χ σ H s):∀b∈[s.heap.objs.size+1,s.heap.objs.size],pw X χ H b:=λ b hb=>by
 rcases A01.mp hb with rfl|hb
 .exact I.u? (A59 _)<|I.bG.fresh<|A59 _
 .rw[A15]at hb;subst hb;exact I.u? (M2 _)<|I.bG.fresh<|M2 _
theorem _root_.Lake.ZQ.K4(hm:X.mg "enumerate"=Ch)(ha:ZQ.QE X a fa)(hs:starEach [a] X.env=[(AT,eval a X.env)]:=by rfl)(mL:Se a [] X.env:=by rfl)(hg:Gl X "enumerate":=by rfl):ZQ.QJ X (.Tuple elts x1 p2) (.Call (.Name "enumerate" p) [a] [] pos) (Z.Ew fa):=⟨by
 have ha:=ha.p;intro χ s σ H R I w;let⟨ρ,ds,r,e,k⟩:=w;let⟨d,ea,e⟩:=al e;let⟨ds0,ei,e⟩:=al e;cases e;refine Call_<|j0 I hg hm PyProof.Rows.boot_enumerate<|B21 (b! ((a6 ha bV mL) pos χ s σ H (λ vs H1=>∃v,vs=[v]/\aw H H1/\Den X.K H1 d v) I ⟨ρ,d,r,ea,λ v H1 s1 d1=>⟨v,rfl,s1,d1⟩⟩) ?_) hs rfl;rintro us s1 ⟨vs,H1,I1,r1,q1⟩;let⟨v,rfl,sm,hd⟩:=q1;let⟨u,rfl,ru⟩:=vals1 r1;cases d with
 |tup _3=>
  cases ei;let⟨q,vs,rfl,hq,t⟩:=bp.tup (.inl hd);cases ru;let⟨aW,rv,pt,hz⟩:=I1.tuple hq;refine CP pt λ h' he hit hk=>B64 he ?_;refine⟨_,[s1.heap.objs.size+1,s1.heap.objs.size],_,Zs<|Gi X.K q vs,H1,rfl,I1.kept hk,pJ rK<|C06 _,⟨⟨_,he⟩,hit⟩,Cv I1,k _ H1 sm<|tP (λ i d0 H2 s2 hi=>?_) λ H2 s2=>?_⟩
  .let⟨y,hy,dy⟩:=t.get hi;refine⟨⟨y,eP s2 hq,hy⟩,λ y' J7=>?_⟩;have:=J7.2;rw[hy]at this;cases this;exact dy.ups s2
  .exact⟨eP s2 hq,t.length⟩
 |lst _3=>
  cases ei;simp only[Den]at hd;let⟨q,vs,rfl,hq,t⟩:=hd;cases ru;let⟨aW,rv,pt,hz⟩:=I1.list hq.sq;refine call_enumerate_list pt.isList λ h' he hit Co hk=>B64 he ?_;refine⟨_,[s1.heap.objs.size+1,s1.heap.objs.size],_,Zs<|Oz X.K q vs,H1,rfl,I1.kept hk,pJ Dq<|C06 _,⟨⟨_,he⟩,hit⟩,Cv I1,k _ H1 sm<|tP (λ i d0 H2 s2 hi=>?_) λ H2 s2=>?_⟩
  .let⟨y,hy,dy⟩:=t.get hi;refine⟨⟨y,(hq.mono s2).sq,hy⟩,λ y' J7=>?_⟩;have:=J7.2;rw[hy]at this;cases this;exact dy.ups s2
  .exact⟨(hq.mono s2).sq,t.length⟩
 |str cs=>
  cases ei;simp only[Den]at hd;rw[hd]at ru;let⟨tk,rfl⟩:=ru;refine call_enumerate_str λ h' he hit Co hk=>B64 he ?_;refine⟨_,[s1.heap.objs.size+1,s1.heap.objs.size],_,Zs<|J0 ⟨cs.toArray⟩,H1,rfl,I1.kept hk,pJ MO<|C06 _,⟨⟨_,he⟩,hit⟩,Cv I1,k _ H1 sm<|tP (λ i d0 H2 s2 hi=>?_) λ H2 s2=>?_⟩
  .rw[A06]at hi;cases hc:cs[i]? with
   |none=>rw[hc]at hi;cases hi
   |some c=>
    rw[hc]at hi;cases hi;refine⟨⟨_,c,by simpa using hc,rfl⟩,?_⟩;rintro y ⟨c',qQ,hy⟩;have:cs[i]?=AC c':=by simpa using qQ
    rw[hc]at this;cases this;rw[hy];exact e_
  .show(cs.map λ c=>Z.D.str [c]).length=cs.toArray.size;simp
 |non=>cases ei
 |bl _=>cases ei
 |int _=>cases ei
 |dct _ _=>cases ei⟩
structure Far(z TI TO i1 i2:Addr)(f1 f2:List Addr):Prop where
 ne:[z,TI,TO,i1,i2].Nodup
 a1:z∉f1/\TO∉f1/\i2∉f1
 a2:z∉f2/\TO∉f2/\i1∉f2
theorem E!{z TI TO i1 i2:δ}{Q:ζ->η->Prop}(F:Far z TI TO i1 i2 f1 f2)(D1:Draws prog w A i1 f1 n1 P1 S1)(D2:Draws prog w A i2 f2 n2 P2 S2)
 (hz:IsZip s.heap z TI TO .none) (Gv:IsPair s.heap TI (.ref i1) (.ref i2)) (Hy:IsPair s.heap TO a b) (h1:S1 k s.heap) (h2:S2 k s.heap) (Q6:k<n1) (hk2:k<n2)
 (hQ:∀x y h' tk,P1 k x->P2 k y->IsZip h' z TI TO (rawInt s.heap.objs.size)->IsPair h' TO x y->S1 (k+1) h'->S2 (k+1) h'->IsPair h' s.heap.objs.size x y->(∀c o,c∉[z,TO,i1,i2]->s.heap.get? c=AC o->h'.get? c=AC o)->Q (.ref s.heap.objs.size) {s with heap:=h',toks:=tk}) :
 Ev (model prog w) A (Builtin.«zip.__next__» ⟨[.ref z],[]⟩) (λ fin s'=>∃v,fin=.done (.ret v)/\Q v s') E s:=by
 have ne:=F.ne;simp only[A14,A01,A40,A46,A72,B14,B34,B35]at ne;let⟨⟨V4,LQ,Qk,Rw⟩,⟨TITO,TIi1,TIi2⟩,⟨TOi1,TOi2⟩,i12⟩:=ne;let⟨ZC,Vc,X9⟩:=F.a1;let⟨ZA,P?,TN⟩:=F.a2;let⟨hp,gs,dr,tk0,os⟩:=s;show Ev _ _ (field (.ref z) 2>>=_) _ _ _;refine T0<|A34 hz rfl (x:=.bool AT) rfl ?_;show Ev _ _ (field (.ref z) 3>>=_) _ _ _;refine T0<|A34 hz rfl (x:=.ref TI) rfl<|T0<|A56 Gv rfl ?_;show Ev _ _ (IN (.ref z)>>=_) _ _ _;refine T0 ?_;unfold IN;refine T0<|A34 hz rfl (x:=.none) rfl<|P3 ?_;simp only[A29];refine T0<|B28<|T0<|A34 hz rfl (x:=.ref TO) rfl<|T0<|B15 hz ∅ λ g1 Q4 e1=>?_;have Q4:=Q4;have e1:=e1;refine T0 ?_;simp only[AB6,AC8,B31,AD4];refine T0<|T0<|B65 ?_;show Ev _ _ (Go (.ref i1)>>=_) _ _ _;refine T0<|D1.item k _ _ _ Q6 (D1.frame k hp g1 h1 λ c hc o q=>e1.extBut c o (λ y=>ZC<|y▸hc) q) λ x g2 t2 hx h12 e2=>P3 ?_;have e2:=e2;have Kb:=e2.extBut _ _ TOi1<|e1.extBut _ _ (A09 LQ) Hy;refine T0<|A56 Kb rfl<|T0<|C07 Kb λ g3 OQ e3=>?_;have OQ:=OQ;have e3:Ix TO g2 g3:=e3;refine T0<|A97<|P3 ?_;refine T0<|T0<|B65 ?_;show Ev _ _ (Go (.ref i2)>>=_) _ _ _;have h23:S2 k g3:=D2.frame k hp g3 h2 λ c hc o q=>e3.extBut c o (λ y=>P?<|y▸hc)<|e2.extBut c o (λ y=>TN<|y▸hc)<|e1.extBut c o (λ y=>ZA<|y▸hc) q;refine T0<|D2.item k _ _ _ hk2 h23 λ y g4 t4 hy h24 e4=>P3 ?_;have e4:Ix i2 g3 g4:=e4;have YC:IsPair g4 TO x b:=e4.extBut _ _ TOi2 OQ;refine T0<|A56 YC rfl<|T0<|C07 YC λ g5 OP e5=>?_;have OP:IsPair g5 TO x y:=OP;have e5:Ix TO g4 g5:=e5;refine T0<|A97<|P3<|P3 ?_;refine T0<|A56 OP rfl<|T0<|wpAny_newTuple ?_;have Co:g5.objs.size=hp.objs.size:=by rw[e5.1,e4.1,e3.1,e2.1,e1.1]
 have hz5:IsZip g5 z TI TO .ellipsis:=e5.extBut _ _ LQ<|e4.extBut _ _ Rw<|e3.extBut _ _ LQ<|e2.extBut _ _ Qk Q4;have hzl:z<g5.objs.size:=A02 hz5;show Ev _ _ (SZ (.ref z) (.ref g5.objs.size)>>=_) _ _ _;refine T0 ?_;unfold SZ;have hz6:IsZip (g5.push {cls:=.type "tuple",data:=.seq #[x,y]}) z TI TO .ellipsis:=f8 _ hz5;refine T0<|B15 hz6 ∅ λ g7 hz7 e7=>?_;have hz7:IsZip g7 z TI TO (rawInt g5.objs.size):=hz7;refine B15 hz7 ∅ λ g8 _p e8=>?_;have _p:IsZip g8 z TI TO (rawInt g5.objs.size):=_p;have up:∀c o,c≠z->g5.get? c=AC o->g8.get? c=AC o:=λ c o h q=>e8.extBut _ _ h<|e7.extBut _ _ h<|f8 _ q;have hT8:IsPair g8 g5.objs.size x y:=e8.extBut _ _ (A45 hzl)<|e7.extBut _ _ (A45 hzl)<|A17 _ rfl;have s1:S1 (k+1) g8:=D1.frame _ g2 g8 h12 λ c hc o q=>up c o (λ y=>ZC<|y▸hc)<|e5.extBut c o (λ y=>Vc<|y▸hc)<|e4.extBut c o (λ y=>X9<|y▸hc)<|e3.extBut c o (λ y=>Vc<|y▸hc) q;have s2:S2 (k+1) g8:=D2.frame _ g4 g8 h24 λ c hc o q=>up c o (λ y=>ZA<|y▸hc)<|e5.extBut c o (λ y=>P?<|y▸hc) q;have kp:∀c o,c∉[z,TO,i1,i2]->hp.get? c=AC o->g8.get? c=AC o:=λ c o hc q=>by simp only[A01,A40,A46,A72]at hc;exact up c o hc.1<|e5.extBut _ _ hc.2.1<|e4.extBut _ _ hc.2.2.2<|e3.extBut _ _ hc.2.1<|e2.extBut _ _ hc.2.2.1<|e1.extBut _ _ hc.1 q
 rw[Co]at _p hT8;refine P3 ⟨_,rfl,?_⟩;show Q (.ref g5.objs.size) _;rw[Co];exact hQ x y g8 t4 hx hy _p (up _ _ (A09 LQ) OP) s1 s2 hT8 kp
theorem HD{z TI TO i1 i2:δ}(F:Far z TI TO i1 i2 f1 f2)(D1:Draws prog w A i1 f1 n1 P1 S1)(D2:Draws prog w A i2 f2 n2 P2 S2)
 (hz:IsZip s.heap z TI TO .none) (Gv:IsPair s.heap TI (.ref i1) (.ref i2)) (Hy:IsPair s.heap TO a b) (h1:S1 k s.heap) (h2:S2 k s.heap) (Ud:k=n1\/(k<n1/\k=n2))
 (hE:∀h' e tk,(∀c o,c∉[z,TO,i1,i2]->s.heap.get? c=AC o->h'.get? c=AC o)->(∃o,h'.get? e=AC o/\o.cls=.type "StopIteration")->E (.ref e) {s with heap:=h',toks:=tk}) :
 Ev (model prog w) A (Builtin.«zip.__next__» ⟨[.ref z],[]⟩) Q E s:=by
 have ne:=F.ne;simp only[A14,A01,A40,A46,A72,B14,B34,B35]at ne;let⟨⟨V4,LQ,Qk,Rw⟩,⟨TITO,TIi1,TIi2⟩,⟨TOi1,TOi2⟩,i12⟩:=ne;let⟨ZC,Vc,X9⟩:=F.a1;let⟨ZA,P?,TN⟩:=F.a2;let⟨hp,gs,dr,tk0,os⟩:=s;show Ev _ _ (field (.ref z) 2>>=_) _ _ _;refine T0<|A34 hz rfl (x:=.bool AT) rfl ?_;show Ev _ _ (field (.ref z) 3>>=_) _ _ _;refine T0<|A34 hz rfl (x:=.ref TI) rfl<|T0<|A56 Gv rfl ?_;show Ev _ _ (IN (.ref z)>>=_) _ _ _;refine T0 ?_;unfold IN;refine T0<|A34 hz rfl (x:=.none) rfl<|P3 ?_;simp only[A29];refine T0<|B28<|T0<|A34 hz rfl (x:=.ref TO) rfl<|T0<|B15 hz ∅ λ g1 Q4 e1=>?_;have Q4:=Q4;have e1:=e1;refine T0 ?_;simp only[AB6,AC8,B31,AD4];refine T0<|T0<|B65 ?_;show Ev _ _ (Go (.ref i1)>>=_) _ _ _;have h11:=D1.frame k hp g1 h1 λ c hc o q=>e1.extBut c o (λ y=>ZC<|y▸hc) q;rcases Ud with rfl|⟨Q6,rfl⟩
 .refine T0<|D1.done _ _ _ h11 λ g2 e e2 he=>?_;let⟨oe,T6,Yx⟩:=he;have e2:=e2;have _q:IsZip g2 z TI TO .ellipsis:=e2 _ _ Qk Q4;have hez:e≠z:=λ q=>by subst q;rw[_q]at T6;cases T6;simp at Yx
  refine B15 _q ∅ λ g3 _ e3=>hE g3 e tk0 (λ c o hc q=>?_) ⟨oe,e3.extBut _ _ hez T6,Yx⟩;simp only[A01,A40,A46,A72]at hc;exact e3.extBut _ _ hc.1<|e2 _ _ hc.2.2.1<|e1.extBut _ _ hc.1 q
 .refine T0<|D1.item k _ _ _ Q6 h11 λ x g2 t2 hx h12 e2=>P3 ?_;have e2:Ix i1 g1 g2:=e2;have Kb:IsPair g2 TO a b:=e2.extBut _ _ TOi1<|e1.extBut _ _ (A09 LQ) Hy;refine T0<|A56 Kb rfl<|T0<|C07 Kb λ g3 OQ e3=>?_;have e3:Ix TO g2 g3:=e3;refine T0<|A97<|P3 ?_;refine T0<|T0<|B65 ?_;show Ev _ _ (Go (.ref i2)>>=_) _ _ _;have h23:S2 k g3:=D2.frame k hp g3 h2 λ c hc o q=>e3.extBut c o (λ y=>P?<|y▸hc)<|e2.extBut c o (λ y=>TN<|y▸hc)<|e1.extBut c o (λ y=>ZA<|y▸hc) q;refine T0<|D2.done _ _ _ h23 λ g4 e e4 he=>?_;let⟨oe,T6,Yx⟩:=he;have e4:gt i2 g3 g4:=e4;have hz4:IsZip g4 z TI TO .ellipsis:=e4 _ _ Rw<|e3.extBut _ _ LQ<|e2.extBut _ _ Qk Q4;have hez:e≠z:=λ q=>by subst q;rw[hz4]at T6;cases T6;simp at Yx
  refine B15 hz4 ∅ λ g5 _ e5=>hE g5 e t2 (λ c o hc q=>?_) ⟨oe,e5.extBut _ _ hez T6,Yx⟩;simp only[A01,A40,A46,A72]at hc;exact e5.extBut _ _ hc.1<|e4 _ _ hc.2.2.2<|e3.extBut _ _ hc.2.1<|e2.extBut _ _ hc.2.2.1<|e1.extBut _ _ hc.1 q
def _Y(J1 J2:Vk):It:=⟨λ i H=>(∃y,J1.at_ i H y)/\∃y,J2.at_ i H y,
 λ i H x H'=>∃T y1 y2,H T=Ch/\x=.ref T/\H'=upd H T (.tup [y1,y2])/\J1.at_ i H y1/\J2.at_ i H y2,
 λ i H=>(J1.end_ i H/\((∃y,J2.at_ i H y)\/J2.end_ i H))\/((∃y,J1.at_ i H y)/\J2.end_ i H)⟩
theorem Xk(I:Inv X χ σ H s)(f:pw X χ H b)(h:X.K.lookup b=AC o):False:=by
 have hb:=I.ok.mod.Og b o h;rcases f.2.2.2.1 with z|z
 .exact I.ok.zY b o hb z
 .exact absurd (A02 (I.ok.bs b o hb).1)<|A82.mpr z
def tnZ(z TI TO i1 i2:δ)(n1 n2:Nat->ν->Prop)(i:Nat)(h:ν):Prop:=IsZip h z TI TO .none/\IsPair h TI (.ref i1) (.ref i2)/\(∃a b,IsPair h TO a b)/\n1 i h/\n2 i h
theorem zO(p:IsPair h T a b):∃o,h.get? T=AC o/\∀v,o.data≠.cell v:=
 ⟨_,p,λ v z=>by have z':=z;cases z'⟩
theorem zo{K:FS}{z TI TO i1 i2:δ}(S1:Src P w K J1 i1 n1)(S2:Src P w K J2 i2 n2)(nd:[z,TI,TO,i1,i2].Nodup):
 Turn P w K (.Tuple elts x1 pos) (_Y J1 J2) [z,TI,TO,i1,i2] z (tnZ z TI TO i1 i2 n1 n2):=by
 have _M:∀{X}{χ}{σ}{H}{s}{f1 f2},X.K=K->Inv X χ σ H s->(∀b∈[z,TI,TO,i1,i2],pw X χ H b) ->
  (∀b∈f1,b=i1\/∃o,s.heap.get? b=AC o/\o.cls≠.type "enumerate" /\ o.cls≠.type "zip" /\ (H b=Ch->∃o',K.lookup b=AC o')) ->
  (∀b∈f2,b=i2\/∃o,s.heap.get? b=AC o/\o.cls≠.type "enumerate" /\ o.cls≠.type "zip" /\ (H b=Ch->∃o',K.lookup b=AC o'))->Far z TI TO i1 i2 f1 f2:=by
  intro X χ σ H s f1 f2 hK I hf g1 g2;subst hK;have lU:=nd;simp only[A14,A01,A40,A46,A72,B14,B34,B35]at lU;let⟨⟨V4,LQ,Qk,Rw⟩,⟨TITO,TIi1,TIi2⟩,⟨TOi1,TOi2⟩,i12⟩:=lU;have no1:∀b,b∈[z,TI,TO,i1,i2]->b≠i1->b∉f1:=λ b hb tT hm=>by
   rcases g1 b hm with q|⟨o,_,_,_,q⟩
   .exact tT q
   .let⟨o',h'⟩:=q (hf b hb).1;exact Xk I (hf b hb) h'
  have no2:∀b,b∈[z,TI,TO,i1,i2]->b≠i2->b∉f2:=λ b hb tT hm=>by
   rcases g2 b hm with q|⟨o,_,_,_,q⟩
   .exact tT q
   .let⟨o',h'⟩:=q (hf b hb).1;exact Xk I (hf b hb) h'
  exact⟨nd,⟨no1 z ∅ Qk,no1 TO ∅ TOi1,no1 i2 ∅<|A09 i12⟩,⟨no2 z ∅ Rw,no2 TO ∅ TOi2,no2 i1 ∅ i12⟩⟩
 refine⟨by simp,λ i h st b hb=>?_,λ i h h' st k=>?_,?_,?_,λ A i s Q E st hQ=>C08 st.1 hQ⟩
 .let⟨hz,Gv,⟨a,b',Hy⟩,h1,h2⟩:=st;simp only[A01,A40,A46]at hb;rcases hb with rfl|rfl|rfl|rfl|rfl
  .exact⟨_,hz,λ v z=>by have z':Data.fields _=Data.cell v:=z;cases z'⟩
  .exact zO Gv
  .exact zO Hy
  .let⟨o,q,r,_⟩:=S1.obj i h h1;exact⟨o,q,r⟩
  .let⟨o,q,r,_⟩:=S2.obj i h h2;exact⟨o,q,r⟩
 .let⟨hz,Gv,⟨a,b',Hy⟩,h1,h2⟩:=st;exact⟨k z ∅ _ hz,k TI ∅ _ Gv,⟨a,b',k TO ∅ _ Hy⟩,S1.keep i h h' h1 λ o q=>k i1 ∅ o q,S2.keep i h h' h2 λ o q=>k i2 ∅ o q⟩
 .intro X hP hw hK hc i χ s σ H E I hf st hg;let⟨hz,Gv,⟨a,b',Hy⟩,h1,h2⟩:=st;let⟨f1,m1,P1,T1,D1,mL,_,Ua,Uj,_,Yl⟩:=S1.draw X hP hw hK hc i χ s σ H I h1 (.inl hg.1);let⟨f2,m2,P2,T2,D2,Al,_,T_,Yy,_,Yk⟩:=S2.draw X hP hw hK hc i χ s σ H I h2 (.inl hg.2);let⟨hi1,TR⟩:=Uj hg.1;let⟨hi2,VJ⟩:=Yy hg.2;have FR:=_M hK I hf Ua T_;subst hP hw hK;have hT:s.TypeIs (.ref z) "zip":=⟨_,hz,rfl⟩
  unfold pyNext;refine T0<|wpAny_attempt<|B04 (name:=EQ "__next__") hT B66<|B06 B66 hT F.entry_zip_next (E! FR D1 D2 hz Gv Hy mL Al hi1 hi2 λ x y h' tk px py z' to' s1' s2' tt kp=>P3 ?_)<|F.args_zip_next_1 _;refine⟨_,rfl,?_⟩;let⟨y1,r1,a1⟩:=TR x px;let⟨y2,r2,a2⟩:=VJ y py;have lt:∀{c o},s.heap.get? c=AC o->c≠s.heap.objs.size:=λ q=>A13<|A02 q;have hTn:H s.heap.objs.size=Ch:=I.fresh;have hTz:s.heap.objs.size≠z:=(lt hz).symm;refine wpAny_letOwnedTupleGo_zip z' λ Ul _q Gn=>?_;have lU:=nd;simp only[A14,A01,A40,A46,A72,B14,B34,B35]at lU;let⟨⟨V4,LQ,Qk,Rw⟩,⟨TITO,TIi1,TIi2⟩,⟨TOi1,TOi2⟩,i12⟩:=lU;have tt2:pq Ul s.heap.objs.size [x,y].toArray:=⟨_,Gn.extBut _ _ hTz tt⟩
  have I2:Inv X χ σ (upd H s.heap.objs.size<|.tup [y1,y2]) {s with heap:=Ul,toks:=tk}:=
   Dc (ch:=[z,TO,i1,i2]) I (λ b o hb q=>Gn.extBut b o (λ e=>hb (by simp[e]))<|kp b o hb q) (λ b hb=>hf b (by simp only[A01,A40,A46]at hb ⊢;rcases hb with e|e|e|e<;>simp[e])) (M2 _) tt2 (.cons r1<|.cons r2 .nil) (by show 2<=sizeLine;decide)
  have k1:n1 (i+1) Ul:=S1.keep _ _ _ (Yl _ _ s1') λ o q=>Gn.extBut i1 o (A09 Qk) q;have k2:n2 (i+1) Ul:=S2.keep _ _ _ (Yk _ _ s2') λ o q=>Gn.extBut i2 o (A09 Rw) q;have kTI:IsPair Ul TI (.ref i1) (.ref i2):=Gn.extBut _ _ (A09 V4)<|kp TI _ (by simp only[A01,A40,A46,A72];exact⟨A09 V4,TITO,TIi1,TIi2⟩) Gv;refine⟨.ref _,_,I2,rfl,⟨_,y1,y2,hTn,rfl,rfl,a1,a2⟩,⟨_q,kTI,⟨x,y,Gn.extBut _ _ (A09 LQ) to'⟩,k1,k2⟩,λ b hb=>?_⟩;have hbT:b≠s.heap.objs.size:=by
   simp only[A01,A40,A46]at hb;rcases hb with rfl|rfl|rfl|rfl|rfl
   .exact lt hz
   .exact lt Gv
   .exact lt Hy
   .let⟨o,q,_⟩:=S1.obj i _ h1;exact lt q
   .let⟨o,q,_⟩:=S2.obj i _ h2;exact lt q
  rw[au hbT];exact(hf b hb).1
 .intro X hP hw hK hc i χ s σ H E I hf st hg;let⟨hz,Gv,⟨a,b',Hy⟩,h1,h2⟩:=st;have g1:(∃y,J1.at_ i H y)\/J1.end_ i H:=by
   rcases hg with⟨q,_⟩|⟨q,_⟩
   .exact .inr q
   .exact .inl q
  have g2:(∃y,J2.at_ i H y)\/J2.end_ i H:=by
   rcases hg with⟨_,q⟩|⟨_,q⟩
   .exact q
   .exact .inr q
  let⟨f1,m1,P1,T1,D1,mL,_,Ua,Uj,Yr,Yl⟩:=S1.draw X hP hw hK hc i χ s σ H I h1 g1;let⟨f2,m2,P2,T2,D2,Al,_,T_,Yy,Yq,Yk⟩:=S2.draw X hP hw hK hc i χ s σ H I h2 g2;have FR:=_M hK I hf Ua T_;have he:i=m1\/(i<m1/\i=m2):=by
   rcases hg with⟨q,_⟩|⟨q,q2⟩
   .exact .inl<|Yr q
   .exact .inr ⟨(Uj q).1,Yq q2⟩
  subst hP hw hK;have hT:s.TypeIs (.ref z) "zip":=⟨_,hz,rfl⟩
  unfold pyNext;refine T0<|wpAny_attempt<|B04 (name:=EQ "__next__") hT B66<|B06 B66 hT F.entry_zip_next (HD FR D1 D2 hz Gv Hy mL Al he λ h' e tk kp hx=>?_)<|F.args_zip_next_1 _;let⟨o,ho,Ka⟩:=hx;refine T0<|wpAny_isInstance (T:="StopIteration") (b:=Da) ⟨o,ho,Ka⟩ isSubtype_stop<|P3 ⟨rfl,?_⟩;exact Dd (ch:=[z,TO,i1,i2]) I kp λ b hb=>hf b (by simp only[A01,A40,A46]at hb ⊢;rcases hb with e| e| e| e<;>simp[e])
noncomputable abbrev zh(T1 T2:String)(h:ν)(l1 l2:δ):ν:=((((h.push {cls:=.type T1,data:=.fields #[.ref l1,.int 0 0]}).push {cls:=.type T2,data:=.fields #[.ref l2,.int 0 0]}).push {cls:=.type "tuple",data:=.seq #[.ref h.objs.size,.ref (h.objs.size+1)]}).push {cls:=.type "tuple",data:=.seq #[.none,.none]}).push
 {cls:=.type "zip",data:=.fields #[.none,.bool AT,.bool AT,.ref (h.objs.size+2),.ref (h.objs.size+3)]}
theorem z9(l1 l2:δ)(xs ys:Array ζ):Meets (Builtin.«zip.__new__» ⟨[.type "zip",.ref l1,.ref l2],[]⟩) (λ _ R s=>s.heap.IsTuple l1 xs/\s.heap.IsTuple l2 ys/\R (.ok<|.ret<|.ref<|s.heap.objs.size+4) {s with heap:=zh "tuple_iterator" "tuple_iterator" s.heap l1 l2}):=
 .of_wp λ prog w A R s h=>by
  let⟨hp,gs,dr,tk,os⟩:=s;let⟨_v,OJ,h⟩:=h;have OC:=sub_zip;have q1:=_v;have q2:wv (Shared.heap ⟨hp.push {cls:=.type "tuple_iterator",data:=.fields #[.ref l1,.int 0 0]},gs,dr,tk,os⟩) l2 ys:=Heap.IsTuple.push OJ _
  wp_walk using B09 q1,B09 q2
  simp only[A54]at h ⊢;exact⟨_,rfl,h⟩
theorem z!(l1 l2:δ)(xs ys:Array ζ):Meets (Builtin.«zip.__new__» ⟨[.type "zip",.ref l1,.ref l2],[]⟩) (λ _ R s=>s.heap.IsList l1 xs/\s.heap.IsTuple l2 ys/\R (.ok<|.ret<|.ref<|s.heap.objs.size+4) {s with heap:=zh "list_iterator" "tuple_iterator" s.heap l1 l2}):=
 .of_wp λ prog w A R s h=>by
  let⟨hp,gs,dr,tk,os⟩:=s;let⟨_v,OJ,h⟩:=h;have OC:=sub_zip;have q1:=_v;have q2:wv (Shared.heap ⟨hp.push {cls:=.type "list_iterator",data:=.fields #[.ref l1,.int 0 0]},gs,dr,tk,os⟩) l2 ys:=Heap.IsTuple.push OJ _
  wp_walk using B10 q1,B09 q2
  simp only[A54]at h ⊢;exact⟨_,rfl,h⟩
theorem yS(T1 T2:String)(h:ν)(l1 l2:δ):IsZip (zh T1 T2 h l1 l2) (h.objs.size+4) (h.objs.size+2) (h.objs.size+3) .none/\IsPair (zh T1 T2 h l1 l2) (h.objs.size+2) (.ref h.objs.size) (.ref<|h.objs.size+1)/\IsPair (zh T1 T2 h l1 l2) (h.objs.size+3) .none .none /\
 (zh T1 T2 h l1 l2).get? h.objs.size=AC {cls:=.type T1,data:=.fields #[.ref l1,.int 0 0]}/\(zh T1 T2 h l1 l2).get? (h.objs.size+1)=AC {cls:=.type T2,data:=.fields #[.ref l2,.int 0 0]}/\∀c o,h.get? c=AC o->(zh T1 T2 h l1 l2).get? c=AC o:=by
 have z1:(h.push {cls:=.type T1,data:=.fields #[.ref l1,.int 0 0]}).objs.size=h.objs.size+1:=A54 ..;have z2:((h.push {cls:=.type T1,data:=.fields #[.ref l1,.int 0 0]}).push {cls:=.type T2,data:=.fields #[.ref l2,.int 0 0]}).objs.size=h.objs.size+2:=by rw[A54,z1]
 have z3:(((h.push {cls:=.type T1,data:=.fields #[.ref l1,.int 0 0]}).push {cls:=.type T2,data:=.fields #[.ref l2,.int 0 0]}).push {cls:=.type "tuple",data:=.seq #[.ref h.objs.size,.ref (h.objs.size+1)]}).objs.size=h.objs.size+3:=by rw[A54,z2]
 have z4:((((h.push {cls:=.type T1,data:=.fields #[.ref l1,.int 0 0]}).push {cls:=.type T2,data:=.fields #[.ref l2,.int 0 0]}).push {cls:=.type "tuple",data:=.seq #[.ref h.objs.size,.ref (h.objs.size+1)]}).push {cls:=.type "tuple",data:=.seq #[.none,.none]}).objs.size=h.objs.size+4:=by rw[A54,z3]
 refine⟨?_,?_,?_,?_,?_,λ c o q=>?_⟩
 .skip
  rw[<-z4];exact A17 _ rfl
 .skip
  rw[<-z2];exact f8 _<|f8 _<|A17 _ rfl
 .skip
  rw[<-z3];exact f8 _<|A17 _ rfl
 .exact f8 _<|f8 _<|f8 _<|f8 _<|A17 _ rfl
 .skip
  rw[<-z1];exact f8 _<|f8 _<|f8 _<|A17 _ rfl
 .exact f8 _<|f8 _<|f8 _<|f8 _<|f8 _ q
theorem r9:∀xs ys (i:Nat),(Z.kS xs ys)[i]?=(xs[i]?).bind λ x=>(ys[i]?).map λ y=>Z.pair x y
|[],ys,i=>by cases ys<;>simp[Z.kS]
|x::xs,[],i=>by simp[Z.kS]
|x::xs,y::ys,0=>by simp[Z.kS]
|x::xs,y::ys,i+1=>by simp[Z.kS,r9 xs ys i]
theorem yR:∀xs ys,(Z.kS xs ys).length=min xs.length ys.length
|[],ys=>by cases ys<;>simp[Z.kS]
|x::xs,[]=>by simp[Z.kS]
|x::xs,y::ys=>by simp[Z.kS,yR xs ys]
structure Gives(K:Db)(J:Vk)(S:Hp->Prop)(ds:List Z.D):Prop where
 at_:∀(i:Nat) d H1,S H1->ds[i]?=AC d->(∃y,J.at_ i H1 y)/\∀y,J.at_ i H1 y->Den K H1 d y
 end_:∀H1,S H1->J.end_ ds.length H1
theorem Er{K:FS}(g1:Gives K J1 S xs)(g2:Gives K J2 S ys):E8 K (_Y J1 J2) S (Z.kS xs ys) where
 go:=λ i d H1 s hi=>by
  rw[r9]at hi;cases q:xs[i]? with
  |none=>rw[q]at hi;cases hi
  |some x=>
   rw[q]at hi;cases q2:ys[i]? with
   |none=>simp[q2]at hi
   |some y=>exact⟨(g1.at_ i x H1 s q).1,(g2.at_ i y H1 s q2).1⟩
 Be:=λ i d H1 H2 x s hi y=>by
  let⟨T,y1,y2,hT,rfl,rfl,a1,a2⟩:=y;rw[r9]at hi;cases q:xs[i]? with
  |none=>rw[q]at hi;cases hi
  |some x=>
   rw[q]at hi;cases q2:ys[i]? with
   |none=>simp[q2]at hi
   |some y=>simp only[q2,C09,A62,A98]at hi;subst hi;have sm:aw H1 (upd H1 T<|.tup [y1,y2]):=bT hT;exact⟨sm,eD (.inl<|.inl aA)<|aq.cons (((g1.at_ i x H1 s q).2 y1 a1).up sm)<|aq.cons (((g2.at_ i y H1 s q2).2 y2 a2).up sm) aq.nil⟩
 stop:=λ H1 s=>by
  rw[yR];have e1:=g1.end_ H1 s;have e2:=g2.end_ H1 s;rcases Nat.lt_trichotomy _ _ with h|h|h
  .rw[A66<|A75 h];exact .inl ⟨e1,.inl (g2.at_ _ _ H1 s<|A00 h).1⟩
  .rw[A66<|B79 h];rw[<-h]at e2;exact .inl ⟨e1,.inr e2⟩
  .rw[Nat.min_eq_right<|A75 h];exact .inr ⟨(g1.at_ _ _ H1 s<|A00 h).1,e2⟩
theorem p8{K:Db}(h:mi K H q vs)(t:aq K H ds vs):Gives K (Gi K q vs) (gv H) ds:=
 ⟨λ i d H1 s hi=>by let⟨y,hy,dy⟩:=t.get hi;refine⟨⟨y,eP s h,hy⟩,λ y' J7=>?_⟩;have:=J7.2;rw[hy]at this;cases this;exact dy.ups s,λ H1 s=>⟨eP s h,t.length⟩⟩
theorem Gw{K:Db}(h:Rv K H q vs)(t:aq K H ds vs):Gives K (Oz K q vs) (gv H) ds:=
 ⟨λ i d H1 s hi=>by let⟨y,hy,dy⟩:=t.get hi;refine⟨⟨y,(h.mono s).sq,hy⟩,λ y' J7=>?_⟩;have:=J7.2;rw[hy]at this;cases this;exact dy.ups s,λ H1 s=>⟨(h.mono s).sq,t.length⟩⟩
section
variable{X:Cx}{a b:θ}{pos p p2:Pos}{fa fb:Z.EF}{elts:γ θ}{x1:Nat}
theorem EI(I:Inv X χ σ H s):∀b∈[s.heap.objs.size+4,s.heap.objs.size+2,s.heap.objs.size+3,s.heap.objs.size,s.heap.objs.size+1],pw X χ H b:=λ b hb=>by
 have h:s.heap.objs.size<=b:=by simp only[A01,A40]at hb;lia
 exact I.u? h<|I.bG.fresh h
theorem D'(n:Nat):[n+4,n+2,n+3,n,n+1].Nodup:=by simp only[A14,A01,A40,B14,B35];lia
theorem _root_.Lake.ZQ.Pf(hm:X.mg "zip"=Ch)(ha:ZQ.QE X a fa)(hb:ZQ.QE X b fb)(hs:starEach [a,b] X.env=[(AT,eval a X.env),(AT,eval b X.env)]:=by rfl)(Al:starEach [b] X.env=[(AT,eval b X.env)]:=by rfl)(h1:Se a [b] X.env:=by rfl)(h2:Se b [] X.env:=by rfl)(hg:Gl X "zip":=by rfl):ZQ.QJ X (.Tuple elts x1 p2) (.Call (.Name "zip" p) [a,b] [] pos) (Z.J6 fa fb):=⟨by
 intro χ s σ H R I w;let⟨ρ,ds,r,e,k⟩:=w;let⟨d1,ea,e⟩:=al e;let⟨d2,eb,e⟩:=al e;let⟨xs,ex,e⟩:=al e;let⟨ys,ey,e⟩:=al e;cases e;refine Call_<|j0 I hg hm (by kernel_rfl:bootBuiltins "zip"=AC (.type "zip"))<|B21 (b! ((a6 ha.p (a6 hb.p bV h2) h1) pos χ s σ H (λ vs H1=>∃v u,vs=[v,u]/\aw H H1/\Den X.K H1 d1 v/\Den X.K H1 d2 u) I ⟨ρ,d1,r,ea,λ v H1 s1 q1=>⟨ρ,d2,r.up s1,eb,λ u H2 s2 q2=>⟨v,u,rfl,s1.trans s2,q1.up s2,q2⟩⟩⟩) ?_) (by rw[hs,Al]) (by rw[Al];rfl);rintro us s1 ⟨vs,H1,I1,r1,q1⟩;let⟨v,u,rfl,sm,hd1,hd2⟩:=q1;let⟨u1,u2,rfl,ru1,ru2⟩:=vals2 r1;have ab1:∃_2,d2=.tup _2/\_2=ys:=by
  cases d2 with
  |tup _2=>cases ey;exact⟨_,rfl,rfl⟩
  |non=>cases ey
  |bl _=>cases ey
  |int _=>cases ey
  |str _=>cases ey
  |lst _=>cases ey
  |dct _ _=>cases ey
 let⟨_,rfl,rfl⟩:=ab1;let⟨q2,ZF,rfl,hq2,t2⟩:=bp.tup (.inl hd2);cases ru2;let⟨gV,rv2,pt2,_⟩:=I1.tuple hq2;cases d1 with
 |tup _3=>cases ex;let⟨q,vs,rfl,hq,t⟩:=bp.tup (.inl hd1);cases ru1;let⟨aW,rv,pt,hz⟩:=I1.tuple hq;let⟨f1,f2,f3,f4,f5,f6⟩:=yS "tuple_iterator" "tuple_iterator" s1.heap q q2;refine callType_new F.called_zip ∅ (F.typeCall_zip_2 _ _) (F.newCall_zip_2 _ _) (λ obj=>F.args_object_init_3 obj _ _) F.entry_zip_new (z9 q q2 aW.toArray gV.toArray) ⟨pt,pt2,⟨_,f1,rfl⟩,C08 f1 ?_⟩;exact⟨_,[s1.heap.objs.size+4,s1.heap.objs.size+2,s1.heap.objs.size+3,s1.heap.objs.size,s1.heap.objs.size+1],_,_Y (Gi X.K q vs)<|Gi X.K q2 ZF,H1,rfl,I1.kept f6,zo rK rK<|D' _,⟨f1,f2,⟨_,_,f3⟩,⟨_,f4,rfl,rfl⟩,⟨_,f5,rfl,rfl⟩⟩,EI I1,k _ H1 sm<|Er (p8 hq t)<|p8 hq2 t2⟩
 |lst _3=>cases ex;simp only[Den]at hd1;let⟨q,vs,rfl,hq,t⟩:=hd1;cases ru1;let⟨aW,rv,pt,hz⟩:=I1.list hq.sq;let⟨f1,f2,f3,f4,f5,f6⟩:=yS "list_iterator" "tuple_iterator" s1.heap q q2;refine callType_new F.called_zip ∅ (F.typeCall_zip_2 _ _) (F.newCall_zip_2 _ _) (λ obj=>F.args_object_init_3 obj _ _) F.entry_zip_new (z! q q2 aW.toArray gV.toArray) ⟨pt.isList,pt2,⟨_,f1,rfl⟩,C08 f1 ?_⟩;exact⟨_,[s1.heap.objs.size+4,s1.heap.objs.size+2,s1.heap.objs.size+3,s1.heap.objs.size,s1.heap.objs.size+1],_,_Y (Oz X.K q vs)<|Gi X.K q2 ZF,H1,rfl,I1.kept f6,zo Dq rK<|D' _,⟨f1,f2,⟨_,_,f3⟩,⟨_,f4,rfl,rfl⟩,⟨_,f5,rfl,rfl⟩⟩,EI I1,k _ H1 sm<|Er (Gw hq t)<|p8 hq2 t2⟩
 |non=>cases ex
 |bl _=>cases ex
 |int _=>cases ex
 |str _=>cases ex
 |dct _ _=>cases ex⟩
end
end ZS
namespace Z
def M9:D->D->Res (γ D)
|.lst [d],.int n=>guard (0<=n/\n<=16777216)<|.ok<|List.replicate n.toNat d
|_,_=>.bad
theorem BR(d:D)(n:Int):M9 (.lst [d]) (.int n)=guard (0<=n/\n<=16777216) (.ok<|List.replicate n.toNat d):=rfl
theorem M8(h:M9 x y=.ok ds):∃d n,x=.lst [d]/\y=.int n/\0<=n/\n<=16777216/\ds=Do n.toNat d:=by
 unfold M9 at h;split at h
 .let⟨⟨h1,h2⟩,e⟩:=bw h;cases e;exact⟨_,_,rfl,rfl,h1,h2,rfl⟩
 .cases h
@[simp] def Tu(a:LF)(b:EF)(ρ:Env):Res (γ D):=(a ρ).bind λ xs=>(b ρ).bind λ y=>M9 (.lst xs) y
end Z
namespace ZS
open L2
section
variable{X:Cx}
theorem uo{K:Db}(h:Den K H d w):∀n,aq K H (Do n d) (Do n w)
|0=>aq.nil
|n+1=>aq.cons h<|uo h n
theorem Ax{w:V}:∀n,(Do n [w]).flatten=Do n w
|0=>rfl
|n+1=>by rw[A78,B24,Ax];rfl
theorem _root_.Lake.ZQ.UI(ha:ZQ.QL X a la)(hb:ZQ.QW X b fb):ZQ.QL X (.BinOp a .Mult b pos) (Z.Tu la fb):=⟨PE.imp (DQ L2.Su ha.p hb.p) <|by
 rintro σ H Q ⟨ρ,ds,r,e,k⟩;let⟨xs,ea,e⟩:=al e;let⟨y,eb,e⟩:=al e;let⟨d,n,hx,rfl,h0,h1,rfl⟩:=Z.M8 e;cases hx;refine⟨ρ,[d],r,ea,λ l vs H1 s1 hn hv t=>⟨ρ,_,r.up s1,eb,λ u H2 s2 d2=>?_⟩⟩;simp only[aq]at t;let⟨w,r',rfl,dw,rfl⟩:=t;refine⟨l,n,[w],rfl,d2.int,s2 _ _ hv,by lia,by lia,?_,λ z hz=>?_⟩
 .rw[A25];simp;lia
 .rw[Ax];have WC:=s1.trans s2;have s3:aw H2 (upd H2 z<|.lst<|List.replicate n.toNat w):=bT hz;exact k z _ _ (WC.trans s3) (WC.free hz) aA<|uo ((dw.up s2).up s3) _⟩
end
end ZS
namespace Z
theorem qT(bs:γ Bool)(n:Nat)(b:SF)(ds:γ D)(h:ds.length=bs.length):Aw bs n b ds=bc (b<|startB n bs ds):=by
 unfold Aw;rw[W1 h];cases b _ with
 |bad=>rfl
 |ok f=>cases f<;>rfl
noncomputable def jm:γ D->ε (γ<|γ Nat)
|[]=>AC []
|.str c::r=>(jm r).map (c::·)
|_::_=>Ch
def iG(sep:γ Nat):γ (γ Nat)->γ Nat
|[]=>[]
|[x]=>x
|x::y::r=>x++sep++iG sep (y::r)
def kL:D->D->Res D
|.str sep,.lst xs=>match jm xs with
 |some ts=>guard ((ts.map List.length).sum+ts.length*sep.length<=line)<|.ok<|.str<|iG sep ts
 |none=>.bad
|_,_=>.bad
theorem Ji(h:kL x y=.ok d):∃sep xs ts,x=.str sep/\y=.lst xs/\jm xs=AC ts/\(ts.map List.length).sum+ts.length*sep.length<=16777216/\d=.str (iG sep ts):=by
 unfold kL at h;split at h
 .split at h
  .rename_i hs;let⟨h1,e⟩:=bw h;cases e;exact⟨_,_,_,rfl,rfl,hs,h1,rfl⟩
  .cases h
 .cases h
theorem mR:∀ts,jm (ts.map D.str)=AC ts
|[]=>rfl
|t::ts=>by simp[jm,mR ts]
theorem wq:∀ts,iG [] ts=ts.flatten
|[]=>rfl
|[x]=>by simp[iG]
|x::y::r=>by rw[iG,wq];simp
theorem vR{ts:γ _}(h:ts.flatten.length<=16777216):kL (.str []) (.lst<|ts.map D.str)=.ok (.str ts.flatten):=by show(match jm _ with|some ts=>guard _ _|none=>Res.bad)=_;rw[mR];simp only[wq];rw[guard_pos];rw[List.length_flatten]at h;simpa using h
noncomputable def vS:D->D->Res D
|.str t,.str [c]=>.ok<|.int<|t.count c
|_,_=>.bad
@[simp] theorem _a(t:γ Nat)(c:Nat):vS (.str t) (.str [c])=.ok (.int<|t.count c):=rfl
theorem Jj(h:vS x y=.ok d):∃t c,x=.str t/\y=.str [c]/\d=.int (t.count c):=by
 unfold vS at h;split at h
 .cases h;exact⟨_,_,rfl,rfl,rfl⟩
 .cases h
def t8(is:γ Nat)(d:D)(ρ:Env):Res Env:=match d with
|.tup ds=>hU is ds ρ
|.lst ds=>hU is ds ρ
|_=>.bad
theorem t6(is:γ Nat)(ds:γ D)(ρ:Env):t8 is (.lst ds) ρ=hU is ds ρ:=rfl
end Z
namespace ZS
open L2
def Qh(K:Db)(H:Hp)(b:Bool)(d:Z.D)(v:V):Prop:=if b=Da then i5 K H d v else Den K H d v
def iT(K:Db)(H:Hp):γ Bool->γ Z.D->γ V->Prop
|[],[],vs=>vs=[]
|b::bs,d::ds,vs=>∃v r,vs=v::r/\Qh K H b d v/\iT K H bs ds r
|_,_,_=>False
theorem iT.length{K:Db}:∀{bs}{ds}{vs},iT K H bs ds vs->vs.length=ds.length/\ds.length=bs.length
|[],[],vs,h=>by have:=h;subst this;exact⟨rfl,rfl⟩
|[],_::_,_,h=>h.elim
|_::_,[],_,h=>h.elim
|b::bs,d::ds,_,⟨v,r,e1,h1,h2⟩=>by have:=iT.length h2;subst e1;simp[this.1,this.2]
theorem iT.get{K:Db}{H:Hp}:∀{bs}{ds}{vs}{i:Nat}{b}{d},iT K H bs ds vs->bs[i]?=AC b->ds[i]?=AC d->∃v,vs[i]?=AC v/\Qh K H b d v
|[],[],_,_,_,_,_,e,_=>by simp at e
|[],_::_,_,_,_,_,h,_,_=>h.elim
|_::_,[],_,_,_,_,h,_,_=>h.elim
|b::bs,d::ds,_,0,b',d',⟨v,r,e1,h1,h2⟩,eb,ed=>by simp at eb ed;subst e1;subst eb;subst ed;exact⟨v,rfl,h1⟩
|b::bs,d::ds,_,i+1,b',d',⟨v,r,e1,h1,h2⟩,eb,ed=>by subst e1;let⟨u,q1,q2⟩:=iT.get h2 (by simpa using eb) (by simpa using ed);exact⟨u,by simpa using q1,q2⟩
def __(K:Db)(bs:γ Bool)(f:Z.AF):TA:=λ σ H Q=>∃ρ ds,RE K H σ ρ/\f ρ=.ok ds/\∀vs H',aw H H'->iT K H' bs ds vs->Q vs H'
abbrev _0(X:Cx)(es:γ θ)(bs:γ Bool)(f:Z.AF):Prop:=PA X es<|__ X.K bs f
structure _root_.Lake.ZQ.LI(X:Cx)(es:List Expr)(bs:List Bool)(f:Z.AF):Prop where p:_0 X es bs f
theorem _root_.Lake.ZQ.l!:ZQ.LI X [] [] Z.ah:=⟨PA.imp bV <|by rintro σ H Q ⟨ρ,ds,r,e,k⟩;cases e;exact k [] H (aw.refl H) rfl⟩
theorem _root_.Lake.ZQ.f9(ha:ZQ.QE X e f)(hr:ZQ.LI X es bs g)(hs:Se e es X.env:=by rfl):ZQ.LI X (e::es) (AT::bs) (Z.ag f g):=⟨PA.imp (a6 ha.p hr.p hs) <|by rintro σ H Q ⟨ρ,ds,r,e,k⟩;let⟨x,ea,e⟩:=al e;let⟨xs,eb,e⟩:=al e;cases e;exact⟨ρ,x,r,ea,λ v H1 s1 d1=>⟨ρ,xs,r.up s1,eb,λ vs H2 s2 t=>k _ H2 (s1.trans s2) ⟨v,vs,rfl,Den.up d1 s2,t⟩⟩⟩⟩
def BJ(K:Db)(bs:γ Bool)(m:γ Z.D->Z.Res Z.D):Sp:=λ vs H Q _=>∃ds d,iT K H bs ds vs/\m ds=.ok d/\∀v H',aw H H'->Den K H' d v->Q v H'
theorem Le(F:d9 X.prog X.w X.K X.mg X.base il k g fd ps (BJ X.K bs m))(hr:bh k X.A)(hg:Gl X x)(hm:X.mg x=AC (.ref g))(hk:Fa X.K (.ref g)=Da)(hb:Binds X.K fd ps [])
 (ha:_0 X (e::es) bs ar) (gi:Nd x:=by kernel_rfl) (he:Se e es X.env:=by rfl) (d!:Pn pos es X.env:=by rfl) :
 DE X (.Call (.Name x p1) (e::es) [] pos) (Z.aj m ar):=
 PE.imp (rM F hr hg hm hk hb .nil qD ha gi he d!) <|by rintro σ H Q ⟨ρ,d,r,e,k⟩;let⟨ds,ea,e⟩:=al e;refine⟨ρ,ds,r,ea,λ vs H1 s1 d1=>?_⟩;show BJ X.K bs m _ H1 Q E0;rw[A48];exact⟨ds,d,d1,e,λ v H' s2 dv=>k v H' (s1.trans s2) dv⟩
section
variable{K:Db}
theorem B?(b:Bool)(d:Z.D)(xs:γ Z.D):Z.rp b d≠.own xs:=by unfold Z.rp;split<;>intro h<;>cases h
theorem B_(b:Bool)(d:Z.D)(ks:Z.DK):Z.rp b d≠.dc ks:=by unfold Z.rp;split<;>intro h<;>cases h
theorem Ei(h:Qh K H b d v):RL K H (Z.rp b d) v:=by
 cases b with
 |false=>exact(h)
 |true=>
  have h':=h;have st:(∀ds,d≠.lst ds)->(∀ks vs,d≠.dct ks vs)->Den K H d v:=λ n1 n2=>by
   rcases h' with h|⟨a,kd,ks,ds,u,e1,_⟩
   .exact h.mT n1
   .exact absurd e1<|n2 _ _
  cases d with
  |lst xs=>exact h'
  |non=>exact st (λ _ z=>nomatch z) λ _ _ z=>nomatch z
  |bl _=>exact st (λ _ z=>nomatch z) λ _ _ z=>nomatch z
  |int _=>exact st (λ _ z=>nomatch z) λ _ _ z=>nomatch z
  |str _=>exact st (λ _ z=>nomatch z) λ _ _ z=>nomatch z
  |tup _=>exact st (λ _ z=>nomatch z) λ _ _ z=>nomatch z
  |dct _ _=>exact h'
theorem mV(t:iT K H bs ds vs)(hl:vs.length<=N.length):RS K H H (L2.start N vs) (Z.startB N.length bs ds):=by
 let⟨ψ,hbl⟩:=t.length;have hz:(bv (λ b d=>AC<|Z.rp b d) bs ds).length=ds.length:=by simp[hbl]
 have key:∀(i:Nat) l,(Z.startB N.length bs ds)[i]?=AC (AC l)->∃b d,l=Z.rp b d/\∃v,(L2.start N vs)[i]?=AC (AC v)/\Qh K H b d v:=by
  intro i l e;unfold Z.startB at e;by_cases hi:i<ds.length
  .rw[A21 (by rw[hz];exact hi)]at e;have wj:i<bs.length:=by lia
   rw[List.getElem?_zipWith,A00 wj,A00 hi]at e;simp only at e;cases e;let⟨v,h1,h2⟩:=t.get (A00 wj) (A00 hi);refine⟨_,_,rfl,v,?_,h2⟩;unfold L2.start;rw[A21 (by simp;lia),A06,h1];rfl
  .rw[A43 (by rw[hz];lia),A49]at e;split at e<;>cases e
 have zX:∀(i:Nat) xs,(Z.startB N.length bs ds)[i]?≠AC (AC<|.own xs):=λ i xs e=>by let⟨b,d,h,_⟩:=key i _ e;exact B? b d xs h.symm
 refine⟨aw.refl H,⟨?_,λ i l e=>?_,λ i j xs ys q e1=>absurd e1<|zX i xs⟩,λ i xs q e1=>absurd e1<|zX i xs,λ i xs e1=>?_,jP.non λ i ks e=>by let⟨b,d,h,_⟩:=key i _ e;exact B_ b d ks h.symm⟩
 .unfold Z.startB L2.start;rw[A28,A28,hz,A77,A04,A77,ψ]
 .let⟨b,d,rfl,v,h1,h2⟩:=key i l e;exact⟨v,h1,Ei h2⟩
 .let⟨b,d,h,v,h1,h2⟩:=key i _ e1;have:=Ei h2;rw[<-h]at this;exact⟨v,h1,i5.z this⟩
theorem YL{st:ι}{f:δ}{fd:υ}{N ps:γ Str}{bs:γ Bool}{k:Nat}{b:Z.SF}(pD:bs.length=ps.length)(F:Bc K x qual st f fd)(S:a8 N ps (ae st))
 (hb:∀ a9 A outer s H E,bh k (A.deeper<|envOfC qual (ae st) s.heap.objs.size f a9) ->
  Mg (dM il P w K mg base N qual (ae st) f a9 A outer s H E).fP H (az st) b):d9 P w K mg base il (k+1) f fd ps (BJ K bs<|Z.Aw bs N.length b):=by
 have ψ:∀vs H Q E,BJ K bs (Z.Aw bs N.length b) vs H Q E->vs.length=ps.length:=by rintro vs H Q E ⟨ds,d,t,e,_⟩;have:=t.length;lia
 refine F.ok S ψ λ a9 A outer s H vs Q E hr h=>⟨_,hb a9 A outer s H E hr,?_⟩;have hl:=ψ vs H Q E h;let⟨ds,d,t,e,k⟩:=h;have d!:ps.length<=N.length:=by have:=A12 List.length S.pre;rw[A30]at this;lia
 have rs:RS K H H (L2.start N vs) (Z.startB N.length bs ds):=mV t ∅;unfold Z.Aw at e;split at e
 .cases eb:b (Z.startB N.length bs ds)with
  |bad=>rw[eb]at e;cases e
  |ok fl=>
   rw[eb]at e;refine⟨_,fl,rs,eb,?_⟩;cases fl with
   |rt d'=>cases e;exact λ v H' s' dv=>k v H' s' dv
   |nx ρ'=>cases e;exact λ σ' H' _ Dz=>k .non H' Dz.same ka
   |bk ρ'=>cases e
   |ct ρ'=>cases e
 .cases e
structure A!(P:Program)(w:World)(K:Db)(mg:Str->Option Value)(base:Heap)(x:Str)(k:Nat)(ps:List Str)(bs:List Bool)(m:List Z.D->Z.Res Z.D):Prop where
 ex:∃g fd,d9 P w K mg base il k g fd ps (BJ K bs m)/\mg x=AC (.ref g)/\Fa K (.ref g)=Da/\Binds K fd ps []
theorem A!.mk'{st:ι}(pD:bs.length=ps.length)(d:Def K mg x st ps)(S:a8 N ps (ae st))
 (hb:∀ f a9 A outer s H E,bh k (A.deeper<|envOfC x (ae st) s.heap.objs.size f a9) ->
  Mg (dM il P w K mg base N x (ae st) f a9 A outer s H E).fP H (az st) b):A! P w K mg base x (k+1) ps bs (Z.Aw bs N.length b):=by
 let⟨f,fd,F,hm,wj⟩:=d.ex;exact⟨f,fd,YL pD F S<|hb f,hm,F.kp,wj⟩
end
theorem _root_.Lake.ZQ.Lf(C:A! X.prog X.w X.K X.mg X.base x k ps bs m)(hr:bh k X.A)(hg:Gl X x)
 (ha:ZQ.LI X (e::es) bs ar) (gi:Nd x:=by kernel_rfl) (he:Se e es X.env:=by rfl) (d!:Pn pos es X.env:=by rfl) :
 ZQ.QE X (.Call (.Name x p1) (e::es) [] pos) (Z.aj m ar):=
 ⟨by let⟨_,_,F,hm,hk,hb⟩:=C.ex;exact Le F hr hg hm hk hb ha.p gi he d!⟩
end ZS
namespace ZQ
open L2 ZS
theorem Lo{K:Db}{st:ι}(pD:bs.length=ps.length)(d:ZS.Def K mg x st ps)(hb:∀{f}{a9}{A}{outer}{s}{H}{E},N.Nodup->(A.deeper<|envOfC x (ae st) s.heap.objs.size f a9).units+64<cLine->bh k (A.deeper<|envOfC x (ae st) s.heap.objs.size f a9)->yP (dM il P w K mg base N x (ae st) f a9 A outer s H E).fP H (az st) b)(S:a8 N ps (ae st):=by exact ZS.Hz):ZS.A! P w K mg base x (k+1) ps bs (Z.Aw bs N.length b):=ZS.A!.mk' pD d S λ f a9 A outer s H E hr=>(hb S.nd hr.units hr).p
end ZQ
namespace ZS
open L2
theorem ug(tT:l≠it):∀n i s Q,s.heap.IsListIter it l i->s.heap.IsList l items->i+n<=items.size ->
 (∀h',h'.IsListIter it l (i+n)->Ix it s.heap h'->Q ((items.toList.drop i).take n) {s with heap:=h'})->Ev (model prog w) A (draw (.ref it) n) Q E s
|0,i,s,Q,hit,_,_,hQ=>by exact P3 (by simpa using hQ _ hit (Heap.SameBut.refl ..))
|n+1,i,s,Q,hit,ht,hle,hQ=>by
 have jc:i<items.size:=by lia
 refine T0<|wpAny_pyNext_list_item hit ht (x:=items[i]) (by simp[jc]) λ h₁ T9 Yb=>?_;refine T0<|A55<|ug tT n _ _ _ T9 (ht.extBut Yb.extBut tT) ∅ λ h₂ abL hs₂=>P3 ?_;have hd:items.toList.drop i=items[i]::items.toList.drop (i+1):=by simp[A93,jc]
 have:=hQ h₂ (by rw[show i+(n+1)=i+1+n by lia];exact abL)<|Yb.trans hs₂;rw[hd,List.take_succ_cons]at this;exact this
theorem nW(hh:A.handled=Ch)(ht:s.heap.IsList t items)
 (hQ:∀h',gt s.heap.objs.size s.heap h'->Q items.toList {s with heap:=h'}):Ev (model prog w) A (unpackItems (.ref t) items.size Ch) Q E s:=by
 have jc:t≠s.heap.objs.size:=by let⟨o,ho,_⟩:=ht;exact A13<|A02 ho
 refine T0 ?_
 .skip
  refine T0<|wpAny_specialOf ht.typeIs slot_list_iter.lookup ?_;refine P3 ?_;simp only[A52,A60];refine T0<|A55<|B10 ht ?_;refine T0<|A55<|ug jc _ 0 _ _ ⟨_,A17 _ rfl,rfl,rfl⟩ (ht.push _) ∅ λ h₁ T9 Yb=>?_;have hall:List.take items.size (List.drop 0 items.toList)=items.toList:=by rw[List.drop_zero];exact B36 ∅
  rw[hall];rw[o0 ∅];have ht₁:=(ht.push _).extBut Yb.extBut jc;refine T0<|A55<|wpAny_pyNext_list_end hh T9 ht₁ ∅ λ h₂ he₂=>?_;simp only[Option.isSome_none,A52,A60];refine P3<|hQ h₂ λ b o hb e=>he₂ b o hb<|Yb.extBut b o hb<|f8 _ e
theorem nL(hh:A.handled=Ch)(ht:s.heap.IsList t items)
 (hn:(assignEach elts env).length=items.size) (Yc:(assignEach elts env).findIdx? (·.1)=Ch)
 (h:∀h',gt s.heap.objs.size s.heap h'->Ev (model prog w) A (assignInOrder ((assignEach elts env).map (·.2)) items.toList) Q E {s with heap:=h'}) :
 Ev (model prog w) A (assign (.Tuple elts x1 pos) env<|.ref t) Q E s:=by
 rw[assign_Tuple];refine T0<|B32 ?_;unfold unpack;rw[hn,Yc];exact T0<|A55<|nW hh ht h
def YH(K:Db)(n:Nat)(t:Ve):TG:=λ v σ H Q=>∃a xs,v=.ref a/\i4 K H a xs/\xs.length=n/\t xs σ H Q
theorem Sb(hc:X.calm=Da)(h:LJ X es t)
 (hn:(assignEach es X.env).length=n:=by rfl) (oJ:(assignEach es X.env).findIdx? (·.1)=Ch:=by rfl):PG X (.Tuple es k pos) (YH X.K n t):=by
 intro χ s σ H v u Q I r hw;let⟨a,xs,e1,hq,hl,hw⟩:=hw;subst e1;cases r;let⟨aW,rv,ht,hz⟩:=I.list hq;refine nL (I.ok.hd hc) ht.isList (by simp[hn,<-hl,rv.length]) oJ λ h' hx=>?_;have I1:=I.kept (t':=s.toks) λ b o e=>hx b o (A13<|A02 e) e;exact h χ _ σ H xs _ Q I1 (by simpa using rv) hw
theorem t9:∀is ds ρ ρ',Z.hU is ds ρ=.ok ρ'->ds.length=is.length:=by
 intro is
 induction is with
 |nil=>intro ds ρ ρ' e;cases ds with
  |nil=>rfl
  |cons d ds=>cases e
 |cons i is ih=>intro ds ρ ρ' e;cases ds with
  |nil=>cases e
  |cons d ds=>simp[ih ds _ _ e]
theorem _root_.Lake.ZQ.K6(hc:X.calm=Da)(h:ZQ.Zn X H0 es is)(hl:is.length=n)(hn:(assignEach es X.env).length=n:=by rfl)(oJ:(assignEach es X.env).findIdx? (·.1)=Ch:=by rfl):ZQ.QG X H0 (.Tuple es x1 pos) (Z.t8 is):=⟨by
 have h:=h.p;intro χ s σ H v u Q I r hw;let⟨ρ,d,ρ',rs,hd,e,k⟩:=hw;unfold Z.t8 at e;split at e
 .rename_i ds;let⟨q,vs,rfl,hq,t⟩:=bp.tup (.inl hd);exact IM hc h hn oJ χ s σ H _ u Q I r ⟨q,vs,rfl,hq,by rw[t.length,t9 is ds ρ ρ' e];exact hl,ρ,ds,ρ',rs,t,e,k⟩
 .rename_i ds;let⟨q,vs,rfl,hq,t⟩:=bp.lst (.inl hd);exact Sb hc h hn oJ χ s σ H _ u Q I r ⟨q,vs,rfl,hq,by rw[t.length,t9 is ds ρ ρ' e];exact hl,ρ,ds,ρ',rs,t,e,k⟩
 .cases e⟩
theorem y8:∀{ts}{aW},Vals (ts.map V.str) aW->∃l,strValues l=aW/\l.map (·.1)=ts
|[],aW,h=>by cases h;exact⟨[],rfl,rfl⟩
|t::ts,aW,h=>by
 cases h with
 |cons r rr=>let⟨tk,rfl⟩:=r;let⟨l,rfl,h2⟩:=y8 rr;exact⟨(t,tk)::l,rfl,by rw[<-h2];rfl⟩
def rJoin(K:Db):V->γ V->Hp->VK->Prop:=λ x vs H Q=>∃sep q ts,x=.str sep/\vs=[.ref q]/\i4 K H q (ts.map V.str)/\JoinOk sep ts=Da/\Q (.str<|Txt.join sep ts) H
theorem NW:Vh X "str.join" (rJoin X.K):=by intro χ s σ H x vs v us Q I rx rv h;let⟨sep,q,ts,rfl,rfl,hq,bG,k⟩:=h;let⟨t,rfl⟩:=rx;let⟨u,rfl,ru⟩:=rv.one;cases ru;let⟨aW,r,pl,hz⟩:=I.list hq;let⟨l,rfl,hl⟩:=y8 r;exact SC.join pl.isList hl bG λ t' c=>⟨.str _,H,I.tok c,⟨t',rfl⟩,k⟩
def g?(cs:γ Nat):Str:=⟨cs.toArray⟩
theorem um{K:FS}:∀{xs}{ts}{vs},Z.jm xs=AC ts->aq K H xs vs->vs=(ts.map g?).map V.str
|[],ts,vs,e,h=>by cases e;simp only[aq]at h;subst h;rfl
|x::xs,ts,vs,e,h=>by
 cases x with
 |str c=>
  have e':(Z.jm xs).map _=AC ts:=e;cases q:Z.jm xs with
  |none=>rw[q]at e';cases e'
  |some RQ=>rw[q]at e';cases e';simp only[aq]at h;let⟨v,r,rfl,hv,ht⟩:=h;simp only[Den]at hv;rw[hv,um q ht];rfl
 |non=>cases e
 |bl _=>cases e
 |int _=>cases e
 |tup _=>cases e
 |lst _=>cases e
 |dct _ _=>cases e
theorem rR(cs:γ Nat):(g? cs).length=cs.length:=by simp[g?,Str.length]
theorem D_(a b:γ Nat):g? a++g? b=g? (a++b):=by show(⟨a.toArray++b.toArray⟩:Str)=_;simp[g?]
theorem Ol(sep:γ Nat):∀ts,Txt.join (g? sep) (ts.map g?)=g? (Z.iG sep ts):=by
 intro ts;show Builtin.Str.glued _ _=_;rw[StrLaws.glued_eq_join]
 induction ts with
 |nil=>rfl
 |cons x ts ih=>
  cases ts with
  |nil=>rfl
  |cons y r=>show g? x++g? sep++Str.join _ _=_;rw[ih,D_,D_];rfl
theorem Oj{ts:γ _}(h:(ts.map List.length).sum+ts.length*sep.length<=16777216):JoinOk (g? sep) (ts.map g?)=Da:=by
 unfold JoinOk;rw[StrLaws.joinTotal];have e:(ts.map g?).map (·.length)=ts.map List.length:=by rw[A16];exact B08 λ x _=>rR x
 rw[e,A04,rR];simp only[Builtin.Str.tooLong,B67,decide_eq_false_iff_not,A82];rw[A25];exact h
theorem _root_.Lake.ZQ.Pr(ho:ZQ.QE X o fa)(hb:ZQ.QW X b fb)
 (gZ:attributeBase o "join" X.env (eval o X.env)=eval o X.env:=by rfl)
 (lx:((backTo p2<|starEach (b::[]) X.env).all (λ x=>!x.1)&&(backToKw p2<|keywordEach [] X.env).all (λ x=>x.1.isSome)
  && decide ((b::[]).length+([]:γ π).length+(if([]:γ π).isEmpty then 0 else 1)<30))=Da:=by rfl)
 (gW:(p1.endLine==p2.line)=Da:=by rfl) (mL:Se b [] X.env:=by rfl) (fh:Pn p2 [] X.env:=by rfl) :
 ZQ.QE X (.Call (.Attribute o "join" p1) [b] [] p2) (Z.eB Z.kL fa fb):=
 ⟨PE.imp (sY C10 PySem.F.slot_str_join PySem.F.type_str_join NW ho.p (a6 hb.p bV mL) gZ lx gW mL fh) <|by rintro σ H Q ⟨ρ,d,r,e,k⟩;let⟨x,ea,e⟩:=al e;let⟨y,eb,e⟩:=al e;let⟨sep,xs,ts,rfl,rfl,et,hl,rfl⟩:=Z.Ji e;refine⟨ρ,_,r,ea,λ v H1 s1 d1=>?_⟩;simp only[Den]at d1;subst d1;refine⟨rfl,ρ,_,r.up s1,eb,λ u H2 s2 d2=>?_⟩;let⟨q,vs,rfl,hq,t⟩:=d2.lst;rw[um et t]at hq;refine⟨g? sep,q,ts.map g?,rfl,rfl,hq,Oj hl,?_⟩;rw[Ol];exact k _ H2 (s1.trans s2) e_⟩
theorem xK(x:Str)(c:Nat)(lim:Nat):∀n lo st,st.2<=lo->st.1.size+n<=lim->lo+n=x.length+1 ->
 (forIn (List.range' lo n) st<|StrLaws.occBody x ⟨#[c]⟩ x.length lim).run.fst.size=st.1.size+(x.cps.toList.drop lo).count c:=by
 intro n
 induction n with
 |zero=>intro lo st h1 h2 h3;have:x.cps.toList.drop lo=[]:=B68 (by simp;show x.length<=lo;lia);simp[this]
 |succ n ih=>
  intro lo st h1 h2 h3;rw[List.range'_succ,B31];by_cases hlo:lo<x.length
  .have T8:lo<x.cps.toList.length:=by rw[B46];exact hlo
   have OC:Tl x ⟨#[c]⟩ lo=decide (x.cps.toList[lo]=c):=by
    have so:=StrLaws.subAt_one x c lo;rw[A51,B37];constructor
    .intro h;have:=so.mp ⟨by show lo+1<=x.length;lia,h⟩;rw[A00 T8]at this;exact A05 this
    .intro h;exact(so.mpr (by rw[A00 T8,h])).2
   rw[A93 T8];by_cases hc:x.cps.toList[lo]=c
   .have An:((st.1.size<lim/\st.2<=lo)/\lo+(⟨#[c]⟩:Str).length<=x.length)/\Tl x ⟨#[c]⟩ lo=Da:=⟨⟨⟨by lia,h1⟩,by show lo+1<=x.length;lia⟩,by rw[OC];simp[hc]⟩
    have e:Ps x ⟨#[c]⟩ x.length lim lo st=pure (Gc (st.1.push lo,lo+1)):=by unfold Ps;rw[W1 An];rfl
    rw[e];have:=ih (lo+1) (st.1.push lo,lo+1) (M2 _) (by simp;lia) ∅;simp only[pure_bind];rw[this,hc,List.count_cons_self];simp only[Array.size_push];lia
   .have An:¬(((st.1.size<lim/\st.2<=lo)/\lo+(⟨#[c]⟩:Str).length<=x.length)/\Tl x ⟨#[c]⟩ lo=Da):=λ z=>by rw[OC]at z;exact hc<|B11 z.2
    have e:Ps x ⟨#[c]⟩ x.length lim lo st=pure (Gc (st.1,st.2)):=by unfold Ps;rw[o0 An]
    rw[e];have:=ih (lo+1) (st.1,st.2) (by simp;lia) (by simp;lia) ∅;simp only[pure_bind];rw[this,List.count_cons_of_ne hc]
  .have An:¬(((st.1.size<lim/\st.2<=lo)/\lo+(⟨#[c]⟩:Str).length<=x.length)/\Tl x ⟨#[c]⟩ lo=Da):=λ z=>hlo (by have:=z.1.2;change lo+1<=x.length at this;lia);have e:Ps x ⟨#[c]⟩ x.length lim lo st=pure (Gc (st.1,st.2)):=by unfold Ps;rw[o0 An]
   rw[e];have:=ih (lo+1) (st.1,st.2) (by simp;lia) (by simp;lia) ∅;simp only[pure_bind];rw[this];have h5:x.cps.toList.drop lo=[]:=B68 (by simp;show x.length<=lo;lia);have h6:x.cps.toList.drop (lo+1)=[]:=B68 (by simp;show x.length<=lo+1;lia);rw[h5,h6]
theorem F0(t:γ Nat)(c:Nat):(IR (g? t) ⟨#[c]⟩ 0 (g? t).length<|(g? t).length+1).length=t.count c:=by rw[StrLaws.occ_eq];have:=xK (g? t) c ((g? t).length+1) ((g? t).length+1) 0 (#[],0) (M2 _) ∅ ∅;simpa[g?]using this
def WQ:V->γ V->Hp->VK->Prop:=λ x vs H Q=>∃t c,x=.str (g? t)/\vs=[.str ⟨#[c]⟩]/\Q (.int ((t.count c:Nat):Int)) H
theorem NX:Vh X "str.count" WQ:=by intro χ s σ H x vs v us Q I rx rv h;let⟨t,c,rfl,rfl,k⟩:=h;let⟨tk,rfl⟩:=rx;let⟨u,rfl,ru⟩:=rv.one;let⟨_',rfl⟩:=ru;refine call_gives F.slot_str_count (B22 _ _ _) F.entry_str_count (F.args_str_count_2 _ _) (gives_str_count _ _ tk _') ?_;rw[F0];exact⟨.int _,H,I.tok _,⟨_,rfl⟩,k⟩
theorem _root_.Lake.ZQ.Pw(ho:ZQ.QW X o fa)(hb:ZQ.QW X b fb)
 (gZ:attributeBase o "count" X.env (eval o X.env)=eval o X.env:=by rfl)
 (lx:((backTo p2<|starEach (b::[]) X.env).all (λ x=>!x.1)&&(backToKw p2<|keywordEach [] X.env).all (λ x=>x.1.isSome)
  && decide ((b::[]).length+([]:γ π).length+(if([]:γ π).isEmpty then 0 else 1)<30))=Da:=by rfl)
 (gW:(p1.endLine==p2.line)=Da:=by rfl) (mL:Se b [] X.env:=by rfl) (fh:Pn p2 [] X.env:=by rfl) :
 ZQ.QE X (.Call (.Attribute o "count" p1) [b] [] p2) (Z.eB Z.vS fa fb):=
 ⟨PE.imp (sY C10 PySem.F.slot_str_count PySem.F.type_str_count NX ho.p (a6 hb.p bV mL) gZ lx gW mL fh) <|by rintro σ H Q ⟨ρ,d,r,e,k⟩;let⟨x,ea,e⟩:=al e;let⟨y,eb,e⟩:=al e;let⟨t,c,rfl,rfl,rfl⟩:=Z.Jj e;refine⟨ρ,_,r,ea,λ v H1 s1 d1=>?_⟩;have d1':=d1.str;subst d1';refine⟨rfl,ρ,_,r.up s1,eb,λ u H2 s2 d2=>?_⟩;have d2':=d2.str;subst d2';exact⟨t,c,rfl,rfl,k _ H2 (s1.trans s2) bZ⟩⟩
end ZS
namespace Z
@[simp] def jV(_:Env):Res Fl:=.bad
@[simp] def KJ(_:Env):Res D:=.bad
def D4:D->D->Res D
|.tup [d],.int n=>guard (0<=n/\n<=1000000)<|.ok<|.tup<|List.replicate n.toNat d
|_,_=>.bad
theorem Je(h:D4 x y=.ok d):∃e n,x=.tup [e]/\y=.int n/\0<=n/\n<=1000000/\d=.tup (Do n.toNat e):=by
 unfold D4 at h;split at h
 .let⟨⟨h0,h1⟩,e⟩:=bw h;cases e;exact⟨_,_,rfl,rfl,h0,h1,rfl⟩
 .cases h
end Z
namespace ZS
open L2
theorem _root_.Lake.ZQ.UD{st:ι}:ZQ.QS X H0 st Z.jV:=⟨by rintro _ _ _ _ _ _ ⟨_,_,_,e,_⟩;exact nomatch e⟩
theorem _root_.Lake.ZQ.O!:ZQ.yP X H0 yG Z.jV:=⟨by rintro _ _ _ _ _ _ ⟨_,_,_,e,_⟩;exact nomatch e⟩
theorem _root_.Lake.ZQ.UX:ZQ.QE X e Z.KJ:=⟨by rintro _ _ _ _ _ _ ⟨_,_,_,e,_⟩;exact nomatch e⟩
theorem U3{K:Db}(C:fD P w K mg base x k ps m)(hm:∀ds d,m ds≠.ok d:=by intro ds d h;unfold Z.fn at h;split at h<;>cases h):fD P w K mg base x k ps (λ _=>.bad):=by
 let⟨g,fd,F,h⟩:=C.ex;have:yI K m=yI K λ _=>.bad:=by
  funext vs H Q E
  refine propext ⟨by rintro⟨ds,d,_,e,_⟩;exact absurd e<|hm ds d,by rintro⟨ds,d,_,e,_⟩;exact nomatch e⟩
 rw[this]at F;exact⟨g,fd,F,h⟩
structure Qf(K:Db)(x qual:Str)(st:Stmt)(f:Addr)(fd:FuncData):Prop where
 ex:∃(oc:Value)(od:Option Addr)(dV kV doc pm:Value)(an:Option Addr)(a9 ct:Value)(yK:Array (Option Value)),
  fd=PP x qual (br st) (az st) (ae st) dV kV doc pm an a9 ct/\K.lookup f=AC ⟨oc,od,.func fd,yK⟩/\SB K a9 qual=Da
 kp:Fa K (.ref f)=Da
section
variable{K:Db}
theorem Qf.ok{st:ι}(F:Qf K x qual st f fd)(S:a8 N ps (ae st))(len:∀vs H Q E,sp vs H Q E->vs.length=ps.length)
 (Ao:∀ a9 A outer s H vs Q E,bh k (A.deeper<|envOfC qual (ae st) s.heap.objs.size f a9)->sp vs H Q E ->
  ∃t,qp (dM il P w K mg base N qual (ae st) f a9 A outer s H E).fP (az st) t/\t {nx:=λ _ H'=>Q .non H',rt:=Q} (start N vs) H):d9 P w K mg base il (k+1) f fd ps sp:=by
 let⟨oc,od,dV,kV,doc,pm,an,a9,ct,yK,rfl,lk,rT⟩:=F.ex;refine Av lk rT S len λ A outer s H vs Q E hr Gj=>?_;let⟨t,h,q⟩:=Ao a9 A outer s H vs Q E hr Gj;exact⟨t,h.fP,q⟩
theorem acu{st:ι}(F:Qf K x qual st f fd)(S:a8 N ps (ae st))
 (hb:∀ a9 A outer s H E,bh k (A.deeper<|envOfC qual (ae st) s.heap.objs.size f a9) ->
  Mg (dM il P w K mg base N qual (ae st) f a9 A outer s H E).fP H (az st) b):d9 P w K mg base il (k+1) f fd ps (yI K<|Z.fn ps.length N.length b):=by
 have ψ:∀vs H Q E,yI K (Z.fn ps.length N.length b) vs H Q E->vs.length=ps.length:=by
  rintro vs H Q E ⟨ds,d,t,e,_⟩;unfold Z.fn at e;split at e
  .rename_i h;rw[t.length];exact h
  .cases e
 refine F.ok S ψ λ a9 A outer s H vs Q E hr h=>⟨_,hb a9 A outer s H E hr,?_⟩;have hl:=ψ vs H Q E h;let⟨ds,d,t,e,k⟩:=h;have d!:ps.length<=N.length:=by have:=A12 List.length S.pre;rw[A30]at this;lia
 have rs:RS K H H (L2.start N vs) (Z.start N.length ds):=pM t ∅;unfold Z.fn at e;split at e
 .cases eb:b (Z.start N.length ds)with
  |bad=>rw[eb]at e;cases e
  |ok fl=>
   rw[eb]at e;refine⟨_,fl,rs,eb,?_⟩;cases fl with
   |rt d'=>cases e;exact λ v H' s' dv=>k v H' s' dv
   |nx ρ'=>cases e;exact λ σ' H' _ Dz=>k .non H' Dz.same ka
   |bk ρ'=>cases e
   |ct ρ'=>cases e
 .cases e
structure Qi(K:Db)(mg:Str->Option Value)(x:Str)(st:Stmt)(ps:List Str):Prop where
 ex:∃f fd,Qf K x x st f fd/\mg x=AC (.ref f)/\Binds K fd ps []/\Binds K fd ps [.none]
structure uJ(P:Program)(w:World)(K:Db)(mg:Str->Option Value)(base:Heap)(x:Str)(k:Nat)(ps:List Str)(m:List Z.D->Z.Res Z.D):Prop where
 ex:∃g fd,d9 P w K mg base il k g fd ps (yI K m)/\mg x=AC (.ref g)/\Fa K (.ref g)=Da/\Binds K fd ps []/\Binds K fd ps [.none]
theorem uJ.full(C:uJ P w K mg base x k ps m):fD P w K mg base x k ps m:=
 by let⟨g,fd,h1,h2,h3,h4,_⟩:=C.ex;exact⟨g,fd,h1,h2,h3,h4⟩
theorem uJ.mk'{st:ι}(d:Qi K mg x st ps)(S:a8 N ps (ae st))
 (hb:∀ f a9 A outer s H E,bh k (A.deeper<|envOfC x (ae st) s.heap.objs.size f a9) ->
  Mg (dM il P w K mg base N x (ae st) f a9 A outer s H E).fP H (az st) b):uJ P w K mg base x (k+1) ps (Z.fn ps.length N.length b):=by
 let⟨f,fd,F,hm,wj,hb2⟩:=d.ex;exact⟨f,fd,acu F S<|hb f,hm,F.kp,wj,hb2⟩
theorem Pg{st:ι}{ps:γ Str}{f t:δ}{oc:ζ}{od an:ε δ}{yK:Array (ε ζ)}{kV doc pm a9 ct tc:ζ}{td:ε δ}{tn:Nat}{tsl:Array (ε ζ)}
 (l:K.lookup f=AC ⟨oc,od,.func<|PySem.W.fnOf x x (br st) (az st) (ae st) (.ref t) kV doc pm an a9 ct,yK⟩)
 (c:SB K a9 x=Da) (k:Fa K (.ref f)=Da) (lt:K.lookup t=AC ⟨tc,td,.seq #[.none] tn,tsl⟩) (hm:mg x=AC (.ref f))
 (h1:∀us,us.length=ps.length->∃kk,bindArgs (PP x x (br st) (az st) (ae st) (.ref t) kV doc pm an a9 ct) ⟨us,[]⟩=seqItems? (.ref t)>>=kk/\kk (AC #[.none])=pure (ps.zip us))
 (h2:∀us,us.length+1=ps.length->∃kk,bindArgs (PP x x (br st) (az st) (ae st) (.ref t) kV doc pm an a9 ct) ⟨us,[]⟩=seqItems? (.ref t)>>=kk/\kk (AC #[.none])=pure (ps.zip<|us++[.none])):Qi K mg x st ps:=by
 refine⟨f,_,⟨⟨oc,od,.ref t,kV,doc,pm,an,a9,ct,yK,rfl,l,c⟩,k⟩,hm,λ s us hK hl=>?_,λ s us hK hl=>?_⟩
 .rw[A48]at hl ⊢;let⟨kk,e1,e2⟩:=h1 us hl;exact BindsTo.of_defaults (T:=t) (items:=#[.none]) rfl (hK t _ lt) rfl e1 e2
 .let⟨kk,e1,e2⟩:=h2 us (by simpa using hl);exact BindsTo.of_defaults (T:=t) (items:=#[.none]) rfl (hK t _ lt) rfl e1 e2
end
end ZS
namespace ZQ
open L2 ZS
theorem yy{K:Db}{st:ι}(d:ZS.Qi K mg x st ps)(hb:∀{f}{a9}{A}{outer}{s}{H}{E},N.Nodup->(A.deeper<|envOfC x (ae st) s.heap.objs.size f a9).units+64<cLine->bh k (A.deeper<|envOfC x (ae st) s.heap.objs.size f a9)->yP (dM il P w K mg base N x (ae st) f a9 A outer s H E).fP H (az st) b)(S:a8 N ps (ae st):=by exact ZS.Hz):ZS.uJ P w K mg base x (k+1) ps (Z.fn ps.length N.length b):=ZS.uJ.mk' d S λ f a9 A outer s H E hr=>(hb S.nd hr.units hr).p
end ZQ
section
open PySem
open PySem.Sem (wp)
open PySem.Builtin
theorem pX:fillsNumberSlot (.type "tuple") "mul"=pure AT:=
 PySem.fillsNumberSlot_seq B38.lookup (by decide +kernel) F.slot_tuple_rmul.lookup (by decide +kernel)
theorem xC:seqRepeat? (.type "tuple")=pure (AC<|.builtin "tuple.__mul__"):=by unfold seqRepeat?;rw[PySem.seqSlot_of (name:="__mul__") B38.lookup (by decide +kernel),PySem.seqSlot_of (name:="__rmul__") F.slot_tuple_rmul.lookup (by decide +kernel)];rfl
theorem j4(a:Int)(t:Tok)(l:δ)(items:Array ζ)(n:Nat)(dd:ε δ)(sl:Array _):
 Meets (Builtin.«int.__rmul__» ⟨[.int a t,.ref l],[]⟩) (λ _ R s=>s.heap.get? l=AC {cls:=.type "tuple",dict:=dd,data:=.seq items n,slots:=sl}/\R (.ok<|.ret Value.notImplemented) s):=
 .of_wp λ prog w A R s h=>by let⟨hp,g,d,tk,os⟩:=s;let⟨hl,h⟩:=h;wp_walk;exact⟨_,rfl,h⟩
theorem rg(a:Int)(t:Tok)(l:δ)(x:ζ)(n:Nat)(dd:ε δ)(sl:Array _)(h0:a=0):
 Meets (Builtin.«tuple.__mul__» ⟨[.ref l,.int a t],[]⟩) (λ _ R s=>s.heap.get? l=AC {cls:=.type "tuple",dict:=dd,data:=.seq #[x] n,slots:=sl}/\R (.ok<|.ret<|.ref s.heap.objs.size) {s with heap:=s.heap.push {cls:=.type "tuple",data:=.seq #[]}}):=
 .of_wp λ prog w A R s h=>by
  let⟨hp,g,d,tk,os⟩:=s;let⟨hl,h⟩:=h;subst h0
  wp_walk
  exact⟨_,rfl,h⟩
theorem rf(a:Int)(t:Tok)(l:δ)(x:ζ)(n:Nat)(dd:ε δ)(sl:Array _)(h0:a=1):
 Meets (Builtin.«tuple.__mul__» ⟨[.ref l,.int a t],[]⟩) (λ _ R s=>s.heap.get? l=AC {cls:=.type "tuple",dict:=dd,data:=.seq #[x] n,slots:=sl}/\R (.ok<|.ret<|.ref l) s):=
 .of_wp λ prog w A R s h=>by
  let⟨hp,g,d,tk,os⟩:=s;let⟨hl,h⟩:=h;subst h0
  wp_walk
  exact⟨_,rfl,h⟩
theorem rd(a:Int)(t:Tok)(l:δ)(x:ζ)(n:Nat)(dd:ε δ)(sl:Array _)(h1:¬(decide (a < -(2^63))||decide (a≥2^63))=Da)(h2:¬((#[x]).isEmpty||a==1)=Da)(h3:¬(decide (a<=0)||(#[x]).isEmpty)=Da)(h4:¬((#[x]).size)*a>(2^63-1) / 8)(h5:¬Tuple.tupleTooMany (((#[x]).size)*a)=Da)(h6:((Do a.toNat #[x]).foldl (·++·) #[]).size<=sizeLine):
 Meets (Builtin.«tuple.__mul__» ⟨[.ref l,.int a t],[]⟩) (λ _ R s=>s.heap.get? l=AC {cls:=.type "tuple",dict:=dd,data:=.seq #[x] n,slots:=sl}/\R (.ok<|.ret<|.ref s.heap.objs.size) {s with heap:=s.heap.push {cls:=.type "tuple",data:=.seq ((Do a.toNat #[x]).foldl (·++·) #[])}}):=
 .of_wp λ prog w A R s h=>by
  let⟨hp,g,d,tk,os⟩:=s;let⟨hl,h⟩:=h
  wp_walk
  refine B39 (by simpa using h1) ?_
  wp_walk
  refine B39 (by simpa using h2) ?_
  wp_walk
  refine B39 (by simpa using h3) ?_
  wp_walk
  refine B39 (A32 h4) ?_
  wp_walk
  refine B39 (by simpa using h5) ?_
  wp_walk
  exact⟨_,rfl,h⟩
end
namespace ZS
open L2
def WK(K:Db):R2:=λ x y H Q=>∃l k w,x=.ref l/\y=.int k/\mi K H l [w]/\0<=k/\k<=1000000/\(k=1->Q (.ref l) H)/\(k≠1->∀p,H p=Ch->Q (.ref p) (upd H p<|.tup<|List.replicate k.toNat w))
theorem wx(v:ζ):∀k acc,AD3 (λ x1 x2=>x1++x2) acc (Do k #[v])=acc++(Do k v).toArray
|0,acc=>by simp
|k+1,acc=>by rw[A78,AC6,wx,A78];apply Array.toList_inj.mp;simp
theorem vD(r:RelV w u):∀k,Vals (Do k w) (Do k u)
|0=>.nil
|k+1=>.cons r<|vD r k
theorem Nk:jk X (binaryOp .Mult) (WK X.K):=by
 intro χ s σ H x y v u Q I rx ry h;let⟨l,k,w,rfl,rfl,hq,h0,h1,q1,q2⟩:=h;cases rx;let⟨t,rfl⟩:=ry;let⟨aW,r,ht,hz⟩:=I.tuple hq;let⟨x,rfl,rx⟩:=vals1 r;let⟨⟨cls,dd,data,sl⟩,ho,hc,n,hd⟩:=id ht;simp only at hc hd;subst hc hd;have e:=ho;refine C41 ∅ ⟨_,e,rfl⟩ (λ s'=>B23 s' k t) pX F.fills_int_mul B52 xC F.slot_int_index.lookup
 <|A61 B52 (B23 s k t) F.entry_int_rmul (F.args_int_rmul_2 _ _) (j4 k t l #[x] n dd sl) ⟨e,rfl,⟨_,e,rfl⟩,?_⟩
 by_cases Q6:k=1
 .exact A61 B38 ⟨_,e,rfl⟩ C11 (C12 _ _) (rf k t l x n dd sl Q6) ⟨e,⟨.ref l,H,I,rfl,q1 Q6⟩⟩
 .by_cases hk0:k=0
  .refine A61 B38 ⟨_,e,rfl⟩ C11 (C12 _ _) (rg k t l x n dd sl hk0) ⟨e,?_⟩;have q:=q2 Q6 _<|I.bG.fresh<|M2 s.heap.objs.size;rw[hk0]at q;refine⟨.ref _,_,I.laid (λ b ob z=>f8 _ z) (M2 _) ?_,rfl,q⟩;exact⟨A47 _,[],.nil,pq.new _ _⟩
  .skip
   have hf:=wx x k.toNat #[];rw[Array.empty_append]at hf;have hs:(1000000)<=sizeLine:=by decide
   refine A61 B38 ⟨_,e,rfl⟩ C11 (C12 _ _) (rd k t l x n dd sl ?_ ?_ ?_ ?_ ?_ ?_) ⟨e,?_⟩
   .simp;lia
   .simp;lia
   .simp;lia
   .show ¬((1))*k>(2^63-1) / 8;lia
   .show ¬(decide<|((1))*k>(sizeLine))=Da;rw[B37];have:=Int.ofNat_le.mpr hs;generalize (sizeLine)=z at this ⊢;lia
   .rw[hf,A10,A77];lia
   .rw[hf];refine⟨.ref _,_,I.laid (λ b ob z=>f8 _ z) (M2 _) ?_,rfl,q2 Q6 _<|I.bG.fresh<|M2 _⟩;exact⟨by rw[A77];lia,_,vD rx k.toNat,pq.new _ _⟩
theorem _root_.Lake.ZQ.Pk(ha:ZQ.QW X a fa)(hb:ZQ.QW X b fb):ZQ.QE X (.BinOp a .Mult b pos) (Z.eB Z.D4 fa fb):=⟨PE.imp (DQ Nk ha.p hb.p) <|by
 rintro σ H Q ⟨ρ,d,r,e,k⟩;let⟨x,ea,e⟩:=al e;let⟨y,eb,e⟩:=al e;let⟨d0,n,rfl,rfl,h0,h1,rfl⟩:=Z.Je e;refine⟨ρ,_,r,ea,λ v H1 s1 d1=>⟨ρ,_,r.up s1,eb,λ u H2 s2 d2=>?_⟩⟩;let⟨q,vs,rfl,hq,t⟩:=d1.tup;simp only[aq]at t;let⟨w,r',rfl,dw,rfl⟩:=t;refine⟨q,n,w,rfl,d2.int,?_,h0,h1,λ hn=>?_,λ hn p hp=>?_⟩
 .exact eP (jR s2) hq
 .subst hn;exact k _ H2 (s1.trans s2)<|eD (eP (jR s2) hq)<|aq.cons (dw.up s2) aq.nil
 .have s3:aw H2 (upd H2 p<|.tup<|List.replicate n.toNat w):=bT hp;exact k _ _ ((s1.trans s2).trans s3)<|eD (mi.of aA)<|uo ((dw.up s2).up s3) _⟩
end ZS
namespace ZS
open L2
theorem _9{α:Type}{P:γ α->Prop}(h:P []):∀us:γ α,us.length=0->P us:=λ us e=>A80 e▸h
theorem _8{α:Type}{P:γ α->Prop}{n:Nat}(h:∀a (us:γ α),us.length=n->P (a::us)):∀us:γ α,us.length=n+1->P us:=by
 intro us e;cases us with
 |nil=>cases e
 |cons a t=>exact h a t<|Nat.succ.inj e
theorem _P{p:Prop}(h:p:=by repeat' first|exact ZS._9 rfl|exact ZS._9 ⟨_,rfl,rfl⟩|refine ZS._8 λ _=>?_|intro _):p:=h
theorem Zb{ps:γ Str}(h:∀a0 a1,bindArgs fd ⟨[a0,a1],[]⟩=pure (ps.zip [a0,a1])):∀us,us.length=2->bindArgs fd ⟨us,[]⟩=pure (ps.zip us):=_8 λ a0=>_8 λ a1=>_9<|h a0 a1
def ac1(H0 H1:Hp):Hp->Prop:=λ H2=>gv H1 H2/\aw H0 H2
def tZk(K:Db)(H0:Hp)(f:Z.LF):TI:=λ σ H R=>∃ρ ds,RS K H0 H σ ρ/\f ρ=.ok ds/\∀J H',aw H H'->E8 K J (ac1 H0 H') ds->R J H'
abbrev DK(X:Cx)(H0:Hp)(tg e:θ)(f:Z.LF):Prop:=PI X tg e<|tZk X.K H0 f
end ZS
namespace ZS
open L2
theorem YW(h:Z.eV i ρ=.ok d):ρ[i]?=AC (AC<|.val d):=by
 unfold Z.eV at h;split at h
 .rename_i e;cases h;exact e
 .cases h
theorem UE(hN:X.N.Nodup)(hi:X.N[i]?=AC x)(hx:Loc X.env.scope x)(hr:jk X (inplaceOp op) r)(hz:Hf X.K r o)(he:DE X a fa)(hf:X.fn x=Da\/X.env.scope.names.lookup x=AC .local):
 DS X H0 (.AugAssign (.Name x pos') op a pos) (Z.aK i<|Z.eB o (Z.eV i) fa):=PS.imp (R? hN hi hx he hr hf) <|by
 rintro D σ H ⟨ρ,fl,rs,e,k⟩;let⟨d,ea,e⟩:=al e;cases e;let⟨dx,e1,ea⟩:=al ea;let⟨dy,e2,ea⟩:=al ea;let⟨v,si,dv⟩:=rs.re.get i _ (YW e1);refine⟨v,si,ρ,dy,rs.re,e2,λ y H1 s1 dy1=>?_⟩;exact hz v y dx dy d H1 _ (.inl<|Den.up dv s1) (.inl dy1) ea λ z H2 s2 dz=>k _ H2 (jR<|s1.trans s2)<|(rs.up<|s1.trans s2).uT dz
theorem JZ:jk X (inplaceOp .Mult) (rI LP λ i j=>.int<|i*j):=W4 λ _ _ _ _ _ _ _ hc q=>imul_int q hc
theorem So{K:Db}:Hf K (rI LP λ i j=>.int<|i*j) Z.eO:=oy λ dx dy d e=>by
 unfold Z.eO at e;split at e
 .unfold Z.guard at e;split at e
  .rename_i h;cases e;exact⟨_,_,rfl,rfl,tF h,rfl⟩
  .cases e
 .cases e
end ZS
namespace ZQ
open L2 ZS
theorem Pa(hN:X.N.Nodup)(hi:X.N[i]?=AC x)(hx:Loc X.env.scope x)(he:QE X a fa)(hf:Fl X x:=by trivial):
 QS X H0 (.AugAssign (.Name x pos') .Mult a pos) (Z.aK i<|Z.eB Z.eO (Z.eV i) fa):=⟨ZS.UE hN hi hx JZ So he.p hf⟩
end ZQ
namespace Z
def uZ(e:EF)(ρ:Env)(d:D):Res Int:=(e<|some (.val d)::ρ).bind λ y=>match y with
|.int k=>.ok k
|_=>.bad
theorem Oh(h:uZ e ρ d=.ok k):e (AC (.val d)::ρ)=.ok (.int k):=by
 let⟨y,e1,e2⟩:=Res.aa h;split at e2
 .cases e2;exact e1
 .cases e2
theorem JT(h:e (AC (.val d)::ρ)=.ok (.int k)):uZ e ρ d=.ok k:=by unfold uZ;rw[h];rfl
def G?(mx:Bool)(k kb:Int):Bool:=if mx=Da then decide (k>kb)else decide (k<kb)
noncomputable def Q_(mx:Bool)(e:D->Res Int)(b:D)(kb:Int):γ D->Res D
|[]=>.ok b
|d::r=>(e d).bind λ k=>if G? mx k kb=Da then Q_ mx e d k r else Q_ mx e b kb r
def pickK(mx:Bool)(z:Res D)(e:D->Res Int):γ D->Res D
|[]=>z
|d::r=>(e d).bind λ k=>Q_ mx e d k r
def yp(mx:Bool)(z:Res D)(a:EF)(is:γ Nat)(e:EF)(ρ:Env):Res D:=(a ρ).bind λ x=>match x with
|.lst ds=>pickK mx z (uZ e<|c! ρ is) ds
|_=>.bad
end Z
namespace ZS
open L2 PySem.W
theorem Off.S6(o:Off X χ H C)(ok:X.Ok):C∉X.fs:=λ hb=>by let⟨_,ob,ho,_⟩:=ok.mw.mem hb;exact absurd (A19 (A02 ho) o.new)<|A85 _
theorem Off.Xl(o:Off X χ H C)(I:Inv X χ σ H s):C∉t_ X.stack:=λ hb=>by
 rcases A01.mp (I.pL C hb)with z|z
 .exact o.loc z
 .exact o.S6 I.ok z
theorem Off.up(o:Off X χ H C)(h:H' C=Ch):Off X χ H' C:=⟨h,o.loc,o.new,o.cell,o.pin⟩
theorem Off.fresh(I:Inv X χ σ H s)(hC:s.heap.objs.size<=C)(h:H' C=Ch):Off X χ H' C where
 free:=h
 loc:=A45<|A19 I.lt hC
 new:=A11 I.sz hC
 cell:=λ x c e=>by let⟨v,o,ho,_⟩:=I.cell x c e;exact A13<|A19 (A02 ho) hC
 pin:=λ p hp=>A13<|A19 (A02 (I.pin p hp).1) hC
theorem G2{pos q:Pos}(l:γ ζ)(h:TriplesOk l)(e:codeAmong q (l++[rawInt pos.line,rawInt pos.col,c])=AC cv):codeAmong q l=AC cv\/cv=c:=by
 fun_induction TriplesOk l with
 |case1=>
  simp only[B51,codeAmong,rawInt]at e;split at e
  .cases e;exact .inr rfl
  .cases e
 |case2 a t b u x rest ih=>
  simp only[C01,codeAmong]at e ⊢;split at e
  .rename_i hc;rw[W1 hc];exact .inl e
  .rename_i hc;rw[o0 hc];exact ih h e
 |case3 l h1 h2=>exact h.elim
structure E7(X:Cx)(χ:List (Addr×Obj))(q:Str)(params:Arguments)(body:Expr)(scope:Scope)(cl:List (Str×Addr))(H:Hp)(s:Shared)(f c':Addr)(pm qX:Value):Prop where
 off:Off X χ H f
 obj:s.heap.get? f=AC (kla_obj "<lambda>" q params body scope cl pm c' qX)
 code:H c'=AC (.Md q)
theorem Ad(hx:x∈cK)(ht:tabIn X.K x=AC (c,P))(Q9:X.env.code=.ref c)(hq:X.env.qual++ "<lambda>"=iW x)
 (yb:defaultsOf params X.env=([],[])) (lY:closureFor scope X.env=pure cl) (I:Inv X χ σ H s) :
 Ev (model X.prog X.w) X.A (eval (.Lambda params body scope pos) X.env) (λ r s'=>∃f c' pm qX H',r=.ref f/\Inv X χ σ H' s'/\aw H H'/\E7 X χ (iW x) params body scope cl H' s' f c' pm qX) X.xe s:=by
 refine kla_eval yb ?_;rw[hq];let⟨hT,hC,bm,ob,b1,b2,b3,b4,b5,b6⟩:=I.tab x hx c P ht;let⟨ps,g,ZL,am⟩:=I.bG P _ hT;have _w:=I.mod.glob.keeps I.bk;have Rp:∀b o,X.base.get? b=AC o->b≠P:=λ b o e z=>by have:=(I.bs b o e).2;rw[z,hT]at this;cases this
 have hgP:mainGlobals≠P:=by let⟨o,es,ep,e,_⟩:=I.mod.glob;exact Rp _ _ e
 have hbG:bm≠mainGlobals:=λ z=>by let⟨o,es,ep,e,hd,_⟩:=I.mod.glob;rw[z,e]at b3;cases b3;rw[hd]at b6;cases b6
 have hB:s.heap.BuiltinsAt X.mg P:=⟨bm,ob,b1,b2,hbG,Rp _ _ b3,I.bk _ _ b3,b4,b5,b6⟩
 cases hf:codeAmong pos ps.toList with
 | some cv=>let⟨c',rfl,qQ⟩:=am pos cv hf;refine kla_makeFunctionHit (mg:=X.mg) lY I.ok.glob _w Q9 (hC.keeps I.bk) g ZL hf hB λ qX h' tk hk Co=>?_;have I':Inv X χ σ H {s with heap:=h'.push<|kla_obj "<lambda>" (iW x) params body scope cl ((X.mg "__name__").getD .none) c' qX,toks:=tk}:=I.kept λ b u e=>f8 _<|hk b u e;exact⟨_,c',_,qX,H,rfl,I',aw.refl H,⟨Off.fresh I Co<|I.bG.fresh Co,A17 _ rfl,qQ⟩⟩
 |none=>
  refine kla_makeFunction (mg:=X.mg) lY I.ok.glob _w Q9 (hC.keeps I.bk) g ZL hf hgP hB λ c' qX h' tk Hv _x jc TZ htb=>?_;have hn:H c'=Ch:=I.bG.fresh _x;have kp:∀b o,b≠P->s.heap.get? b=AC o->(h'.push<|kla_obj "<lambda>" (iW x) params body scope cl ((X.mg "__name__").getD .none) c' qX).get? b=AC o:=λ b o hb e=>f8 _<|Hv b o hb e;have neP:∀b,H b=Ch->b≠P:=λ b e z=>by rw[z,hT]at e;cases e
  have S9:∀b u,H b=AC u->b≠c':=λ b u e=>aT e hn;have ltc:∀b o,s.heap.get? b=AC o->b≠c':=λ b o e=>A13<|A19 (A02 e) _x;have hP:(h'.push<|kla_obj "<lambda>" (iW x) params body scope cl ((X.mg "__name__").getD .none) c' qX).get? P=AC (tabObj<|ps++#[rawInt pos.line,rawInt pos.col,.ref c']):=f8 _ htb;have un:Un X.fs [] H (upd H c'<|.Md<|iW x) s.heap (h'.push<|kla_obj "<lambda>" (iW x) params body scope cl ((X.mg "__name__").getD .none) c' qX):=by
   refine⟨λ b o e n _ _=>kp b o (neP b n) e,λ b o e n _ _=>⟨o.slots,kp b o (neP b n) e⟩,λ b o e n _=>by rw[au<|ltc b o e];exact n,λ b o e _=>?_,λ b xs e=>by rw[au<|S9 _ _ e];exact e,λ b o u e=>by rw[au<|S9 _ _ e];exact e,λ b u _ e=>by rw[au<|S9 _ _ e];exact e⟩;by_cases hb:b=P
   .exact⟨_,hb▸hP⟩
   .exact⟨o,kp b o hb e⟩
  have bG:kR X.prog X.w (upd H c'<|.Md<|iW x) (h'.push<|kla_obj "<lambda>" (iW x) params body scope cl ((X.mg "__name__").getD .none) c' qX):=λ b u e=>by
   by_cases hb:b=c'
   .subst hb;rw[aA]at e;cases e;let⟨c2,oc,vs,t,e2,_t,r⟩:=TZ;cases e2;exact⟨_,oc,vs,t,rfl,f8 _ _t,r⟩
   .rw[au hb]at e;by_cases hbP:b=P
    .subst hbP;rw[hT]at e;cases e;refine⟨_,hP,by rw[lc];exact TriplesOk_snoc _ _ _ _ ZL,λ p cv e2=>?_⟩;rw[lc]at e2;rcases G2 _ ZL e2 with z|rfl
     .let⟨c2,e3,e4⟩:=am p cv z;exact⟨c2,e3,by rw[au<|S9 _ _ e4];exact e4⟩
     .exact⟨c',rfl,aA⟩
    .refine(I.bG b u e).rh (λ b2 v hc q=>kp b2 v ?_ q) (λ b2 q=>by rw[au<|S9 _ _ q];exact q) (λ b2 xs q=>by rw[au<|S9 _ _ q];exact q) λ b2 v _ q=>by rw[au<|S9 _ _ q];exact q
     rcases hc with rfl|hc
     .exact hbP
     .exact QY hc hT λ z=>nomatch z
  have Yp:(upd H c'<|.Md<|iW x) h'.objs.size=Ch:=by rw[au<|A45 jc];exact I.bG.fresh<|A75<|Nat.lt_of_le_of_lt _x jc
  exact⟨_,c',_,qX,_,rfl,I.un (t':=tk) un bG,bT hn,⟨Off.fresh I (A75<|Nat.lt_of_le_of_lt _x jc) Yp,A17 _ rfl,aA⟩⟩
noncomputable abbrev Cd(X:Cx)(N':γ Str)(q:Str)(scope:ς)(cl:γ (Str×δ))(f c':δ)(s₂:η)(H₂:Hp):Cx:=
 {prog:=X.prog,w:=X.w,K:=X.K,mg:=X.mg,base:=X.base,A:=X.A.in1.deeper<|envX q scope s₂.heap.objs.size f (.ref c') cl,N:=N',s₀:=s₂,H₀:=H₂,env:=envX q scope s₂.heap.objs.size f (.ref c') cl,outer:=X.stack,stack:=envX q scope s₂.heap.objs.size f (.ref c') cl::X.stack,ex:=[],fn:=λ _=>AT,calm:=Da,pn:=[],xe:=λ _ _=>False}
theorem R3{K:Db}(h:RE K H σ ρ)(hd:Den K H d v):RE K H (AC v::mY σ 0 is) (AC (.val d)::Z.c! ρ is):=by
 have R:=IC (n:=0) (is:=is) h<|aw.refl H;refine⟨by simp[mY,Z.c!],λ i l e=>?_,λ i j xs ys a e1=>?_⟩
 .cases i with
  |zero=>simp only[C49,A98]at e;subst e;exact⟨v,rfl,hd⟩
  |succ i=>let⟨u,h1,h2⟩:=R.re.get i l (by simpa using e);exact⟨u,by simpa using h1,h2⟩
 .cases i with
  |zero=>simp at e1
  |succ i=>exact absurd (by simpa using e1)<|fA 0 is ρ i xs
theorem Ae(cM:X.calm=Da)(oK:X.A.in1.depth<recursionLimit)(B:uK X.N N' 1 is scope X.env.scope)(L9:N'[0]?=AC x)(ya:scope.isGenerator=AT)(Ka:scope.isCoroutine=AT)
 (ly:∀u,bindArgs (kla_fn "<lambda>" q params body scope cl pm (.ref c') qX) ⟨[u],[]⟩=pure [(x,u)])
 (iX:∀x c,cl.lookup x=AC c->X.env.cells.lookup x=AC c) (tW:∀y∈scope.names,y.2=.free->(cl.lookup y.1).isSome=Da)
 (he:∀cl f c' s H,DE (Cd X N' q scope cl f c' s H) body fe)
 (L:E7 X χ q params body scope cl H s f c' pm qX) (I:Inv X χ σ H s) (re:RE X.K H σ ρ) (rv:RelV v u) (dv:Den X.K H d v) (ek:Z.uZ fe (Z.c! ρ is) d=.ok k) :
 Ev (model X.prog X.w) X.A.in1 (call (.ref f) [u]) (λ r s'=>∃t H',r=.int k t/\aw H H'/\Un (t_ X.stack) [] H H' s.heap s'.heap/\kR X.prog X.w H' s'.heap/\AllBare s'.gens/\s'.os=s.os) E s:=by
 have TZ:=I.bG c' _ L.code;let⟨x0,X?,hxl⟩:=B.own 0 (Nat.zero_lt_one);rw[L9]at X?;cases X?;refine B03<|kla_callFunE oK L.obj rfl Ka ya rfl TZ ?_;rw[ly];refine P3<|wpAny_newFunctionEnv B.cell (λ y hy=>by rw[A15.mp hy];exact hxl) (λ h₁ J' hsb=>⟨I.nolimit.fresh _ hsb,?_⟩) B.kind;show codeAny _ _ (.expr body<|envX q scope s.heap.objs.size f (.ref c') cl) _ _;have old:=λ b o e=>hsb.extBut b o (A13<|A02 e)<|f8 _ e;have T?:=I.bG.fresh<|M2 _;have ok:(Cd X N' q scope cl f c' s H).Ok:=by
  refine⟨I.ok.mod,B.kind,rfl,rfl,M2 _,λ x y c e1 e2=>I.ok.inj x y c (iX x c e1)<|iX y c e2,λ y hy=>?_,λ y c hf=>(by cases hf),λ _=>I.ok.hd cM,Around.frames_deeper I.ok.frames,.inr ⟨rfl,rfl⟩,
   λ b hb=>absurd (show b∈([]:γ δ)from hb) ∅,I.bs,A11 I.ok.Lq I.sz,λ b o _ hb=>absurd (show b∈([]:γ δ)from hb) ∅,λ b hb=>absurd (show b∈([]:γ δ)from hb) ∅,I.stack,I.rJ⟩
  have J7:=hy;rcases J7 with z|z
  .exact absurd rfl<|B.cell _<|A64 z
  .exact A68.mp<|tW _ (A64 z) rfl
 have uz:∀x c,X.env.cells.lookup x=AC c->c<s.heap.objs.size/\∀v,s.heap.IsCell c v->h₁.IsCell c v:=λ x c e=>by let⟨v,o,ho,hd⟩:=I.cell x c e;exact⟨A02 ho,by rintro v' ⟨o',oM,pC⟩;exact⟨o',old c o' oM,pC⟩⟩
 have I4:Inv (Cd X N' q scope cl f c' s H) [] (AC v::mY σ 0 is) H {s with heap:=h₁,toks:=s.toks + [(x,u)].length}:=by
  refine⟨ok,rfl,I.bare,Un.kept old,⟨_,J',λ i y w e1 e2 e3=>?_⟩,λ y c e=>?_,T?,λ y c e=>I.gq y c<|iX y c e,λ p hp=>absurd (show p∈([]:γ (δ×μ))from hp) ∅,I.bG.kept old,?_,I.tab⟩
  .cases i with
   |zero=>have Rg:=e1;rw[L9]at Rg;cases Rg;simp only[C49,A98]at e2;subst e2;refine⟨u,rv,.inl ⟨hxl,?_⟩⟩;simp
   |succ i=>
    have Mc:(mY σ 0 is)[i]?=AC (AC w):=by simpa using e2
    unfold mY at Mc;simp only[List.replicate_zero,B51,A06]at Mc;cases r:is[i]? with
    |none=>rw[r]at Mc;cases Mc
    |some j=>
     rw[r]at Mc;simp only[A62]at Mc;let⟨x',c1,c2,c3⟩:=B.cap i j r;have Rg:=e1;rw[show i+1=1+i from A89 _ _,c1]at Rg;cases Rg;have hσ:σ[j]?=AC (AC w):=by
      cases r2:σ[j]? with
      |none=>rw[r2]at Mc;cases Mc
      |some z=>
       rw[r2]at Mc;have:z=AC w:=by simpa using Mc
       rw[this]
     let⟨m,hn,hl⟩:=I.loc;have hm:=A64 c3;have hk:=B.free _ hm rfl;have TQ:LG X.env.scope y:=by
      rcases hk with k|k
      .exact .inr<|.inl k
      .exact .inr<|.inr k
     let⟨u',ru,lk⟩:=hl j y w c2 hσ TQ;refine⟨u',ru,?_⟩;rcases lk with⟨k1,_⟩|⟨k1,c,hc,qP⟩
     .have Oi:X.env.scope.names.lookup y=AC .local:=k1;rcases hk with k|k
      .rw[k]at Oi;cases Oi
      .rw[k]at Oi;cases Oi
     .let⟨VX,qQ⟩:=A68.mp (tW _ hm rfl);have:VX=c:=by have:=iX y VX qQ;rw[hc]at this;exact(A05 this).symm
      subst this;exact .inr ⟨.inr c3,VX,qQ,(uz y VX hc).2 _ qP⟩
  .let⟨v',hv⟩:=I.cell y c (iX y c e);exact⟨v',(uz y c<|iX y c e).2 v' hv⟩
  .have:=B.len;simp[mY,this,A89]
 refine kla_codeExpr<|A20 (he cl f c' s H [] _ _ H (λ v' H'=>aw H H'/\v'=.int k) I4 ⟨_,_,R3 re dv,Z.Oh ek,λ v' H' s' d'=>⟨s',by simpa only[Den]using d'⟩⟩) (λ r s' hq=>?_) λ e s' hq=>hq.elim;let⟨v',H',J,rv',sm,rfl⟩:=hq;let⟨t,rfl⟩:=rv';exact⟨t,H',rfl,sm,J.base,J.bG,J.bare,J.os⟩
noncomputable abbrev held(b:ζ)(k:ζ)(c:Nat):μ:={cls:=.type "list",data:=.seq #[b,k] c}
structure KLp(X:Cx)(χ:List (Addr×Obj))(σ:St)(H₀:Hp)(l I S:Addr)(vs:List V)(H:Hp)(s:Shared)(j i:Nat)(kb:Int):Prop where
 inv:Inv X χ σ H s
 sm:aw H₀ H
 it:s.heap.IsListIter I l j
 SW:Off X χ H I
 FY:Off X χ H S
 best:∃b v tb c,vs[i]?=AC v/\RelV v b/\s.heap.get? S=AC (held b (.int kb tb) c)
theorem Ag(cM:X.calm=Da)(I1:Inv X χ σ H s)(hq:i4 X.K H l vs)(it:s.heap.IsListIter I l j)(oI:Off X χ H I)(hj:j<vs.length)
 (h:∀u v h' tk,vs[j]?=AC v->RelV v u->Inv X χ σ H {s with heap:=h',toks:=tk}->h'.IsListIter I l (j+1)->(∀b o,b≠I->s.heap.get? b=AC o->h'.get? b=AC o)->Q (AC u) {s with heap:=h',toks:=tk}) :
 Ev (model X.prog X.w) X.A.in1 (pyNext<|.ref I) Q E s:=by
 let⟨aW,rv,pl,hz⟩:=I1.list hq;have hl:=rv.length;have hh:=I1.ok.hd cM;have tT:l≠I:=by rintro rfl;let⟨o,e,hc,_⟩:=pl.isList;let⟨o2,e2,yc,_⟩:=it;rw[e]at e2;cases e2;rw[hc]at yc;exact absurd (Value.type.inj yc) ∅
 have W:=Walks.list (prog:=X.prog) (w:=X.w) (A:=X.A.in1) hh I l tT aW.toArray;refine W.item j s Q E (by rw[A10,<-hl];exact hj) ⟨it,pl.isList⟩ λ u h' tk pv st k1=>?_;have hv:aW[j]?=AC u:=by simpa using pv
 obtain⟨v,VJ⟩:∃v,vs[j]?=AC v:=⟨vs[j],by simp[hj]⟩
 let⟨u',VL,rvu⟩:=rv.get VJ;rw[hv]at VL;cases VL;have kp:=λ b o hb e=>k1 b o (by simpa using hb) e;exact h u v h' tk VJ rvu (I1.turned kp oI.free oI.loc (.inr oI.new) oI.cell oI.pin) st.1 kp
theorem Af(cM:X.calm=Da)(I1:Inv X χ σ H s)(hq:i4 X.K H l vs)(it:s.heap.IsListIter I l j)(oI:Off X χ H I)(hj:j=vs.length)
 (h:∀h' tk,Inv X χ σ H {s with heap:=h',toks:=tk}->(∀b o,b≠I->s.heap.get? b=AC o->h'.get? b=AC o)->Q Ch {s with heap:=h',toks:=tk}) :
 Ev (model X.prog X.w) X.A.in1 (pyNext<|.ref I) Q E s:=by
 let⟨aW,rv,pl,hz⟩:=I1.list hq;have hl:=rv.length;have hh:=I1.ok.hd cM;have tT:l≠I:=by rintro rfl;let⟨o,e,hc,_⟩:=pl.isList;let⟨o2,e2,yc,_⟩:=it;rw[e]at e2;cases e2;rw[hc]at yc;exact absurd (Value.type.inj yc) ∅
 have W:=Walks.list (prog:=X.prog) (w:=X.w) (A:=X.A.in1) hh I l tT aW.toArray;refine W.done s Q E ⟨by rw[A10,<-hl,<-hj];exact it,pl.isList⟩ λ h' tk k1=>?_;have kp:=λ b o hb e=>k1 b o (by simpa using hb) e;exact h h' tk (I1.turned kp oI.free oI.loc (.inr oI.new) oI.cell oI.pin) kp
def LL(X:Cx)(χ:γ (δ×μ))(σ:St)(H₀:Hp)(f:δ)(St:Hp->η->Prop)(e:Z.D->Z.Res Int):Prop:=
 ∀(H:Hp)(s:η)(u:ζ)(v:V)(d:Z.D)(k:Int),Inv X χ σ H s->aw H₀ H->St H s->RelV v u->Den X.K H d v->e d=.ok k ->
  Ev (model X.prog X.w) X.A.in1 (call (.ref f) [u]) (λ r s'=>∃t H',r=.int k t/\aw H H'/\Un (t_ X.stack) [] H H' s.heap s'.heap/\kR X.prog X.w H' s'.heap/\AllBare s'.gens/\s'.os=s.os) (λ _ _=>False) s
structure Vf(X:Cx)(χ:List (Addr×Obj))(σ:St)(f:Addr)(St:Hp->Shared->Prop):Prop where
 off:∀H s,St H s->Off X χ H f
 un:∀H H' s s',Inv X χ σ H s->St H s->aw H H'->H' f=Ch->(∀o,s.heap.get? f=AC o->s'.heap.get? f=AC o)->St H' s'
section
variable{St:Hp->η->Prop}
theorem HS(h:Q (.bool<|decide<|k>kb) s):Ev (model prog w) A (richCompare .Gt (.int k t)<|.int kb tb) Q E s:=
 CmpOf.ints_gt (λ i=>if i=0 then k else kb) (λ i v h=>h) 0 1 _ _ _ _ _ ⟨t,rfl⟩ ⟨tb,rfl⟩ h
theorem Fu(h:Q (.bool<|decide<|k<kb) s):Ev (model prog w) A (richCompare .Lt (.int k t)<|.int kb tb) Q E s:=
 CmpOf.ints_lt (λ i=>if i=0 then k else kb) (λ i v h=>h) 0 1 _ _ _ _ _ ⟨t,rfl⟩ ⟨tb,rfl⟩ h
theorem Eo(KO:LL X χ σ H₀ f St e)(SY:Vf X χ σ f St)(Iv:Inv X χ σ H s)(sm:aw H₀ H)(st:St H s)(rv:RelV v u)(dv:Den X.K H d v)(ek:e d=.ok k)
 (oI:Off X χ H I) (oS:Off X χ H S){oi os:μ}(gI:s.heap.get? I=AC oi) (gS:s.heap.get? S=AC os) (gf:∃o,s.heap.get? f=AC o)
 (h:∀t H' s',Inv X χ σ H' s'->aw H H'->St H' s'->Off X χ H' I->Off X χ H' S->s'.heap.get? I=AC oi->s'.heap.get? S=AC os->(∃o,s'.heap.get? f=AC o)->Q (.int k t) s') :
 Ev (model X.prog X.w) X.A.in1 (call (.ref f) [u]) Q E s:=by
 refine A20 (KO H s u v d k Iv sm st rv dv ek) (λ x s' hq=>?_) λ _ _ z=>z.elim;let⟨t,H',rfl,Vq,un,bG,bare,os'⟩:=hq;have Iv':=Iv.Ln os' un bG bare λ b hb=>absurd hb ∅;have of:=SY.off H s st;have kp:∀{b}{o},Off X χ H b->s.heap.get? b=AC o->s'.heap.get? b=AC o/\H' b=Ch:=λ {b o} ob e=>⟨un.keep b o e ob.free (ob.Xl Iv) ∅,un.free b o e ob.free ∅⟩
 let⟨fo,gf⟩:=gf;exact h t H' s' Iv' Vq (SY.un H H' s s' Iv st Vq (kp of gf).2 λ o e=>(kp of e).1) (oI.up (kp oI gI).2) (oS.up (kp oS gS).2) (kp oI gI).1 (kp oS gS).1 ⟨fo,(kp of gf).1⟩
end
noncomputable def _d:String->CmpOp->Builtin:=(λ(B:String->CmpOp->Builtin)(_:B "max" .Gt=Builtin.«max.loop»)=>B) _ rfl
section
variable{St:Hp->η->Prop}{nm:String}{op:CmpOp}{mx:Bool}
theorem Tv(he:entryFor table (toString nm++toString ".loop")=AC (_d nm op))(hp:plainId (toString nm++toString ".loop")=Da)(Yf:∀{A k t kb tb E Q s},Q (.bool<|Z.G? mx k kb) s->Ev (model X.prog X.w) A (richCompare op (.int k t)<|.int kb tb) Q E s)(cM:X.calm=Da)(KO:LL X χ σ H₀ f St e)(SY:Vf X χ σ f St)(OR:S≠I)(Uc:f≠I)(Ub:f≠S)(hl:i4 X.K H₀ l vs)(dn:aq X.K H₀ ds vs)
 (fin:∀H s u v,Inv X χ σ H s->aw H₀ H->RelV v u->Den X.K H r v->R (.ok<|.ret u) s) :
 ∀n j i H s kb db,ds.length=j+n->ds[i]?=AC db->Z.Q_ mx e db kb (ds.drop j)=.ok r->KLp X χ σ H₀ l I S vs H s j i kb->St H s->(∃o,s.heap.get? f=AC o) ->
  codeAny (model X.prog X.w) X.A (.builtin (toString nm++toString ".loop") ⟨[.ref I,.ref f,.ref S],kw⟩) R s:=by
 have ψ:=dn.length;intro n
 induction n with
 |zero=>
  intro j i H s kb db hn gi eg L st gf;let⟨b,v,tb,c,hv,rb,gS⟩:=L.best;refine C13 he ?_;rw[C14 hp _];refine T0<|A56 gS rfl<|T0<|A99<|Af cM L.inv (L.sm.seq hl) L.it L.SW ∅ λ h1 t1 I1 k1=>?_;have g1:=k1 S _ OR gS;refine T0<|C15 g1 rfl<|T0<|A97<|P3 ?_;have hr:db=r:=by rw[B68 ∅]at eg;unfold Z.Q_ at eg;cases eg;rfl
  subst hr;let⟨v',L',dv⟩:=dn.get gi;rw[hv]at L';cases L';exact fin H _ b v (I1.turned (t':=t1) (λ b o hb e=>(A79 _ _<|A09 hb).trans e) L.FY.free L.FY.loc (.inr L.FY.new) L.FY.cell L.FY.pin) L.sm rb<|dv.up L.sm
 |succ n ih=>
  intro j i H s kb db hn gi eg L st gf;let⟨b,v,tb,c,hv,rb,gS⟩:=L.best;have hj:j<ds.length:=by lia
  obtain⟨dj,_A⟩:∃d,ds[j]?=AC d:=⟨ds[j],by simp[hj]⟩
  have tU:ds.drop j=dj::ds.drop (j+1):=by
   rw[A93 hj];have:ds[j]=dj:=by have:=A00 hj;rw[this]at _A;exact A05 _A
   rw[this]
  rw[tU]at eg;unfold Z.Q_ at eg;let⟨k,ek,eg⟩:=al eg;refine C13 he ?_;rw[C14 hp _];refine T0<|A56 gS rfl<|T0<|A99<|Ag cM L.inv (L.sm.seq hl) L.it L.SW ∅ λ u v1 h1 t1 TR WG I1 it1 k1=>?_;have g1:=k1 S _ OR gS;let⟨oI,gI,rI⟩:=id it1;let⟨of,gf⟩:=gf;have _G:=k1 f _ Uc gf;let⟨v',L',dv⟩:=dn.get _A;rw[TR]at L';cases L';have Qt:St H {s with heap:=h1,toks:=t1}:=SY.un H H s _ L.inv st (aw.refl H) (SY.off H s st).free λ o e=>k1 f o Uc e;refine T0<|A99<|A55<|Eo KO SY I1 L.sm Qt WG (dv.up L.sm) ek L.SW L.FY gI g1 ⟨of,_G⟩ λ t2 H2 s2 I2 vK LS oI2 S3 _H gS2 gf2=>?_;refine T0<|A99<|A55<|T0<|Yf<|T0<|A55<|A58<|T0<|A97<|P3 ?_;have Wv:=L.sm.trans vK;have it2:s2.heap.IsListIter I l (j+1):=⟨oI,_H,rI⟩
  by_cases hb:Z.G? mx k kb=Da
  .simp only[hb,A29];refine T0<|C15 gS2 rfl<|T0<|A97 ?_;rw[W1 hb]at eg;have kp:∀b o,b≠S->s2.heap.get? b=AC o->(s2.heap.update S<|Obj.mapSeq λ _=>#[u,.int k t2]).get? b=AC o:=λ b o hb e=>(A79 _ _<|A09 hb).trans e;have I3:=I2.turned (t':=s2.toks) kp S3.free S3.loc (.inr S3.new) S3.cell S3.pin;refine P3 ⟨B69 hp _,ih (j+1) j H2 _ k dj ∅ _A eg ⟨I3,Wv,⟨oI,kp I _ (A09 OR) _H,rI⟩,oI2,S3,u,v1,t2,_,TR,WG,B13 _ gS2 rfl⟩ (SY.un H2 H2 s2 _ I2 LS (aw.refl H2) (SY.off H2 s2 LS).free λ o e=>kp f o Ub e)<|let ⟨o,e⟩:=gf2;⟨o,kp f o Ub e⟩⟩
  .simp only[hb,A60];refine T0<|A97 ?_;rw[o0 hb]at eg;exact P3 ⟨B69 hp _,ih (j+1) i H2 s2 kb db ∅ gi eg ⟨I2,Wv,it2,oI2,S3,b,v,tb,c,hv,rb,gS2⟩ LS gf2⟩
end
theorem Q?:entryFor table (toString "max"++toString ".loop")=AC (_d "max" .Gt)/\plainId (toString "max"++toString ".loop")=Da:=by rw[show(toString "max"++toString ".loop")="max.loop" by decide];exact⟨PySem.F.entry_max_loop,PySem.F.plain_max_loop⟩
theorem Q!:entryFor table (toString "min"++toString ".loop")=AC (_d "min" .Lt)/\plainId (toString "min"++toString ".loop")=Da:=by rw[show(toString "min"++toString ".loop")="min.loop" by decide];exact⟨PySem.F.entry_min_loop,PySem.F.plain_min_loop⟩
def uG(X:Cx)(nm:Str):Prop:=∃c P,nm∈cK/\tabIn X.K nm=AC (c,P)/\X.env.code=.ref c/\X.env.qual++ "<lambda>"=iW nm
theorem Ha(a k:ζ):argsOk "max" ⟨[a],[(EQ "key",k),(EQ "default",.none)]⟩:=by kernel_rfl
theorem CV(k:ζ):NE "max" ["key","default"] 0 ⟨[],[(EQ "key",k),(EQ "default",.none)]⟩=pure [AC k,AC .none]:=by kernel_rfl
noncomputable def mmB:String->Builtin:=(λ(B:String->Builtin)(_:B "max"=Builtin.max)=>B) _ rfl
section
variable{St:Hp->η->Prop}{nm:String}{op:CmpOp}{mx:Bool}{kw:γ (Str×ζ)}
theorem Kr(hk:builtinKind nm=Ch)(hp:plainId nm=Da)(hB:entryFor table nm=AC (mmB nm))(he:entryFor table (toString nm++toString ".loop")=AC (_d nm op))(rB:plainId (toString nm++toString ".loop")=Da)(Yf:∀{A k t kb tb E Q s},Q (.bool<|Z.G? mx k kb) s->Ev (model X.prog X.w) A (richCompare op (.int k t)<|.int kb tb) Q E s)
 (Yz:argsOk nm ⟨[.ref l],kw⟩) (hbd:NE nm ["key","default"] 0 ⟨[],kw⟩=pure [AC (.ref f),df]) (hnz:∀r,dz=.ok r->df=AC .none/\r=.non)
 (cM:X.calm=Da) (KO:LL X χ σ H f St e) (SY:Vf X χ σ f St) (Iv:Inv X χ σ H s) (st:St H s) (gf:∃o,s.heap.get? f=AC o) (hl:i4 X.K H l vs) (dn:aq X.K H ds vs) (ek:Z.pickK mx dz e ds=.ok r)
 (k:∀v H',aw H H'->Den X.K H' r v->Q v H'):Ev (model X.prog X.w) X.A (call (.builtin nm) [.ref l] kw) (EP X χ σ Q) X.xe s:=by
 have ψ:=dn.length;let⟨fo,gf⟩:=gf;let⟨aW,rv,pl,hz⟩:=Iv.list hl;refine kmk_tree hk hp hB Yz ?_;show Ev (model X.prog X.w) X.A.in1 (NE nm ["key","default"] 0 ⟨[],kw⟩>>=_) _ _ s;rw[hbd];refine T0<|P3<|T0<|P3<|T0<|B10 pl.isList ?_;refine T0<|A69 ?_;generalize Uk:s.heap.push {cls:=.type "list_iterator",data:=.fields #[.ref l,.int 0 0]}=HH;have hS:HH.objs.size=s.heap.objs.size+1:=by rw[<-Uk,A54]
 have gI0:HH.get? s.heap.objs.size=AC {cls:=.type "list_iterator",data:=.fields #[.ref l,.int 0 0]}:=by rw[<-Uk];exact A17 _ rfl
 have kp0:∀b o,s.heap.get? b=AC o->(HH.push {cls:=.type "list",data:=.seq ([]).toArray}).get? b=AC o:=λ b o e=>f8 _ (by rw[<-Uk];exact f8 _ e);have I1:=Iv.kept (t':=s.toks) kp0;have oI:=Off.fresh Iv (M2 _)<|Iv.bG.fresh<|M2 _;have oS:Off X χ H HH.objs.size:=Off.fresh Iv (by rw[hS];exact A59 _)<|Iv.bG.fresh (by rw[hS];exact A59 _);have OR:HH.objs.size≠s.heap.objs.size:=by rw[hS];exact A45<|A63 _
 have Uc:=A13<|A02 gf;have Ub:f≠HH.objs.size:=by rw[hS];exact A13<|B97<|A02 gf
 have gS:(HH.push {cls:=.type "list",data:=.seq ([]).toArray}).get? HH.objs.size=AC {cls:=.type "list",data:=.seq ([]).toArray}:=A17 _ rfl;have gI:(HH.push {cls:=.type "list",data:=.seq ([]).toArray}).get? s.heap.objs.size=AC {cls:=.type "list_iterator",data:=.fields #[.ref l,.int 0 0]}:=f8 _ gI0;have Qt:St H {s with heap:=HH.push {cls:=.type "list",data:=.seq ([]).toArray}}:=SY.un H H s _ Iv st (aw.refl H) (SY.off H s st).free λ o e=>kp0 f o e;have _G:=kp0 f fo gf;generalize hS2:HH.objs.size=S at oS OR Ub gS;generalize hI2:s.heap.objs.size=I at oI OR Uc gI;generalize mL:({s with heap:=HH.push {cls:=.type "list",data:=.seq ([]).toArray}})=s1 at I1 Qt;have e1:HH.push {cls:=.type "list",data:=.seq ([]).toArray}=s1.heap:=by rw[<-mL]
 rw[e1]at gS gI _G;refine P3 ⟨B69 rB _,?_⟩;refine C13 he ?_;rw[C14 rB _];cases ds with
 |nil=>let⟨rfl,rfl⟩:=hnz _ ek;refine T0<|A56 gS rfl<|T0<|A99<|Af (j:=0) cM I1 hl ⟨_,gI,rfl,rfl⟩ oI (by simp at ψ;simp[ψ]) λ h1 t1 I2 k1=>?_;refine T0<|B28<|P3 ?_;exact⟨.non,H,I2,rfl,k .non H (aw.refl H) ka⟩
 |cons d0 dr=>unfold Z.pickK at ek;let⟨k0,ek0,ek⟩:=al ek;refine T0<|A56 gS rfl<|T0<|A99<|Ag (j:=0) cM I1 hl ⟨_,gI,rfl,rfl⟩ oI (by simp at ψ;lia) λ u v1 h1 t1 TR WG I2 it2 k1=>?_;have g1:=k1 S _ OR gS;let⟨oi,_H,rI⟩:=id it2;let⟨v',L',dv⟩:=dn.get (i:=0) (d:=d0) rfl;rw[TR]at L';cases L';have LS:St H {s1 with heap:=h1,toks:=t1}:=SY.un H H s1 _ I1 Qt (aw.refl H) (SY.off H s1 Qt).free λ o e=>k1 f o Uc e;refine T0<|A99<|A55<|Eo KO SY I2 (aw.refl H) LS WG dv ek0 oI oS _H g1 ⟨fo,k1 f _ Uc _G⟩ λ t3 H3 s3 I3 LU Qs oI3 Vz gI3 gS3 gf3=>?_;refine T0<|C15 gS3 rfl ?_;have kp:∀b o,b≠S->s3.heap.get? b=AC o->(s3.heap.update S<|Obj.mapSeq λ _=>#[u,.int k0 t3]).get? b=AC o:=λ b o hb e=>(A79 _ _<|A09 hb).trans e;have I4:=I3.turned (t':=s3.toks) kp Vz.free Vz.loc (.inr Vz.new) Vz.cell Vz.pin;exact P3 ⟨B69 rB _,Tv he rB Yf cM KO SY OR Uc Ub hl dn (λ H5 s5 u5 v5 I5 MQ WE Y0=>⟨v5,H5,I5,WE,k v5 H5 MQ Y0⟩) dr.length 1 0 H3 _ k0 d0 (by simp;lia) rfl ek ⟨I4,LU,⟨oi,kp _ _ (A09 OR) gI3,rI⟩,oI3,Vz,u,v1,t3,_,TR,WG,B13 _ gS3 rfl⟩ (SY.un H3 H3 s3 _ I3 Qs (aw.refl H3) (SY.off H3 s3 Qs).free λ o e=>kp f o Ub e)<|let ⟨o,e⟩:=gf3;⟨o,kp f o Ub e⟩⟩
end
theorem yu(hL:uG X nm)(oK:X.A.in1.depth<recursionLimit)(hg:Gl X x)(hm:X.mg x=Ch)(hv:bootBuiltins x=AC (.builtin "max"))(ha:DW X a fa)
 (B:uK X.N N' 1 is scope X.env.scope) (L9:N'[0]?=AC y) (he:∀cl f c' s H,DE (Cd X N' (iW nm) scope cl f c' s H) body fe)
 (ly:∀q cl pm c' qX u,bindArgs (kla_fn "<lambda>" q params body scope cl pm (.ref c') qX) ⟨[u],[]⟩=pure [(y,u)])
 (yb:defaultsOf params X.env=([],[]):=by rfl) (ya:scope.isGenerator=AT:=by rfl) (Ka:scope.isCoroutine=AT:=by rfl)
 (hc:X.calm=Da:=by rfl) (hn:x≠ "__name__":=by decide +kernel) (gi:Nd x:=by kernel_rfl)
 (TY:Se a [] X.env:=by rfl) (Ui:Bk pos a X.env:=by rfl) (d!:(backTo pos<|starEach (a::[]) X.env).any (·.1)=AT:=by rfl) :
 DE X (.Call (.Name x p1) [a] [⟨AC<|Str.ofString "key",.Lambda params body scope lp,kp⟩,⟨AC<|Str.ofString "default",.Constant .none jj cp,kp2⟩] pos) (Z.yp Da (.ok .non) fa is fe):=by
 intro χ s σ H Q I h;let⟨ρ,d,r,e,k⟩:=h;let⟨dx,ea,e⟩:=al e;let⟨c,P,h1,h2,h3,h4⟩:=hL;split at e
 .rename_i ds;refine A88<|j0 I hg hm hv ?_ hn gi;refine callWith_kw ?_ Ui d!;refine b! (a6 ha bV TY pos χ s σ H (λ vs H1=>∃v,vs=[v]/\aw H H1/\bp X.K H1 (.lst ds) v) I ⟨ρ,_,r,ea,λ v H1 s1 d1=>⟨v,rfl,s1,d1⟩⟩) ?_;rintro us s1 ⟨vs,H1,I1,r1,q1⟩;let⟨v,rfl,sm,d1⟩:=q1;let⟨u,rfl,ru⟩:=vals1 r1;have qO:∀y∈scope.names,y.2=.free->∃c,X.env.cells.lookup y.1=AC c:=λ y hy hf=>I1.ok.has y.1<|B.free y hy hf;let⟨cl,lY,iX,tW⟩:=jr qO;refine kws_cons<|b! (Ad h1 h2 h3 h4 yb lY I1) ?_;rintro w s2 ⟨f,c',pm,qX,H2,ew,I2,vK,LA⟩;subst ew;refine kws_cons<|Constant_none<|kws_nil ?_;obtain⟨q,vs,rfl,hq,tt⟩:=(d1.up vK).lst;cases ru;have re2:=(r.up sm).up vK;refine Kr PySem.F.kind_max PySem.F.plain_max PySem.F.entry_max Q?.1 Q?.2 HS (Ha _ _) (CV _) (by intro r h;cases h;exact⟨rfl,rfl⟩) (St:=λ H s=>E7 X χ (iW nm) params body scope cl H s f c' pm qX) hc (λ H5 s5 u5 v5 d5 k5 I5 MQ xq WE Y0 ek5=>?_) ⟨λ _ _ st=>st.off,λ H5 H6 s5 s6 I5 xq MQ hf5 ho5=>⟨xq.off.up hf5,ho5 _ xq.obj,MQ _ _ xq.code⟩⟩ I2 LA ⟨_,LA.obj⟩ hq tt e λ v' H' s' d'=>k v' H' ((sm.trans vK).trans s') d';exact Ae (x:=y) hc oK B L9 ya Ka (λ u=>ly _ _ _ _ _ u) iX tW he xq I5 (re2.up MQ) WE Y0 ek5
 .cases e
theorem G_(a k:ζ):argsOk "min" ⟨[a],[(EQ "key",k)]⟩:=by kernel_rfl
theorem CU(k:ζ):NE "min" ["key","default"] 0 ⟨[],[(EQ "key",k)]⟩=pure [AC k,Ch]:=by kernel_rfl
theorem yt(hL:uG X nm)(oK:X.A.in1.depth<recursionLimit)(hg:Gl X x)(hm:X.mg x=Ch)(hv:bootBuiltins x=AC (.builtin "min"))(ha:DW X a fa)
 (B:uK X.N N' 1 is scope X.env.scope) (L9:N'[0]?=AC y) (he:∀cl f c' s H,DE (Cd X N' (iW nm) scope cl f c' s H) body fe)
 (ly:∀q cl pm c' qX u,bindArgs (kla_fn "<lambda>" q params body scope cl pm (.ref c') qX) ⟨[u],[]⟩=pure [(y,u)])
 (yb:defaultsOf params X.env=([],[]):=by rfl) (ya:scope.isGenerator=AT:=by rfl) (Ka:scope.isCoroutine=AT:=by rfl)
 (hc:X.calm=Da:=by rfl) (hn:x≠ "__name__":=by decide +kernel) (gi:Nd x:=by kernel_rfl)
 (TY:Se a [] X.env:=by rfl) (Ui:Bk pos a X.env:=by rfl) (d!:(backTo pos<|starEach (a::[]) X.env).any (·.1)=AT:=by rfl) :
 DE X (.Call (.Name x p1) [a] [⟨AC<|Str.ofString "key",.Lambda params body scope lp,kp⟩] pos) (Z.yp AT .bad fa is fe):=by
 intro χ s σ H Q I h;let⟨ρ,d,r,e,k⟩:=h;let⟨dx,ea,e⟩:=al e;let⟨c,P,h1,h2,h3,h4⟩:=hL;split at e
 .rename_i ds;refine A88<|j0 I hg hm hv ?_ hn gi;refine callWith_kw ?_ Ui d!;refine b! (a6 ha bV TY pos χ s σ H (λ vs H1=>∃v,vs=[v]/\aw H H1/\bp X.K H1 (.lst ds) v) I ⟨ρ,_,r,ea,λ v H1 s1 d1=>⟨v,rfl,s1,d1⟩⟩) ?_;rintro us s1 ⟨vs,H1,I1,r1,q1⟩;let⟨v,rfl,sm,d1⟩:=q1;let⟨u,rfl,ru⟩:=vals1 r1;have qO:∀y∈scope.names,y.2=.free->∃c,X.env.cells.lookup y.1=AC c:=λ y hy hf=>I1.ok.has y.1<|B.free y hy hf;let⟨cl,lY,iX,tW⟩:=jr qO;refine kws_cons<|b! (Ad h1 h2 h3 h4 yb lY I1) ?_;rintro w s2 ⟨f,c',pm,qX,H2,ew,I2,vK,LA⟩;subst ew;refine kws_nil ?_;obtain⟨q,vs,rfl,hq,tt⟩:=(d1.up vK).lst;cases ru;have re2:=(r.up sm).up vK;refine Kr PySem.F.kind_min PySem.F.plain_min PySem.F.entry_min Q!.1 Q!.2 Fu (G_ _ _) (CU _) (by intro r h;cases h) (St:=λ H s=>E7 X χ (iW nm) params body scope cl H s f c' pm qX) hc (λ H5 s5 u5 v5 d5 k5 I5 MQ xq WE Y0 ek5=>?_) ⟨λ _ _ st=>st.off,λ H5 H6 s5 s6 I5 xq MQ hf5 ho5=>⟨xq.off.up hf5,ho5 _ xq.obj,MQ _ _ xq.code⟩⟩ I2 LA ⟨_,LA.obj⟩ hq tt e λ v' H' s' d'=>k v' H' ((sm.trans vK).trans s') d';exact Ae hc oK B L9 ya Ka (λ u=>ly _ _ _ _ _ u) iX tW he xq I5 (re2.up MQ) WE Y0 ek5
 .cases e
theorem zG(r:bh (k+2) A)(env:PySem.Env):bh k (A.in1.deeper env):=(bh.in1 r).deeper env
theorem Iy(r:bh k A):A.in1.depth<recursionLimit:=r.depth
def Qe(K:Frag)(mg:Str->ε ζ)(x:Str):Prop:=∃c P,tabIn K x=AC (c,P)/\∀f fd oc od sl,mg x=AC (.ref f)->K.lookup f=AC ⟨oc,od,.func fd,sl⟩->fd.code=.ref c
theorem N_{K:Frag}(X:K.In h)(G:h.Ns mainGlobals mg)(t:tabIn K x=AC (c,P)):Qe K mg x:=⟨c,P,t,λ f fd oc od sl hm hl=>law_code X G t hm (X _ _ hl) rfl⟩
def Vj(K:Frag)(x:Str)(a9:ζ):Prop:=∃c P,a9=.ref c/\tabIn K x=AC (c,P)
theorem El{K:Frag}(h:Vj K x cd)(hx:x∈cK):
 uG (dM CX P w K mg base N x scope f cd A outer s H E).fP x:=by
 let⟨c,p,e,t⟩:=h;exact⟨c,p,hx,t,e,rfl⟩
section
variable{K:Db}
theorem acs{st:ι}(F:Bc K x qual st f fd)(S:a8 N ps (ae st))
 (hb:∀ A outer s H E,bh k (A.deeper<|envOfC qual (ae st) s.heap.objs.size f fd.code) ->
  Mg (dM il P w K mg base N qual (ae st) f fd.code A outer s H E).fP H (az st) b):d9 P w K mg base il (k+1) f fd ps (yI K<|Z.fn ps.length N.length b):=by
 have ψ:∀vs H Q E,yI K (Z.fn ps.length N.length b) vs H Q E->vs.length=ps.length:=by
  rintro vs H Q E ⟨ds,d,t,e,_⟩;unfold Z.fn at e;split at e
  .rename_i h;rw[t.length];exact h
  .cases e
 let⟨oc,od,kV,doc,pm,an,a9,ct,yK,rfl,lk,rT⟩:=F.ex;refine Av lk rT S ψ λ A outer s H vs Q E hr h=>?_;refine⟨_,qp.fP<|hb A outer s H E hr,?_⟩;have hl:=ψ vs H Q E h;let⟨ds,d,t,e,k⟩:=h;have d!:ps.length<=N.length:=by have:=A12 List.length S.pre;rw[A30]at this;lia
 have rs:RS K H H (L2.start N vs) (Z.start N.length ds):=pM t ∅;unfold Z.fn at e;split at e
 .cases eb:b (Z.start N.length ds)with
  |bad=>rw[eb]at e;cases e
  |ok fl=>
   rw[eb]at e;refine⟨_,fl,rs,eb,?_⟩;cases fl with
   |rt d'=>cases e;exact λ v H' s' dv=>k v H' s' dv
   |nx ρ'=>cases e;exact λ σ' H' _ Dz=>k .non H' Dz.same ka
   |bk ρ'=>cases e
   |ct ρ'=>cases e
 .cases e
theorem acS{st:ι}(d:Def K mg x st ps)(S:a8 N ps (ae st))(L:Qe K mg x)
 (hb:∀ f a9 A outer s H E,Vj K x a9->bh k (A.deeper<|envOfC x (ae st) s.heap.objs.size f a9) ->
  Mg (dM il P w K mg base N x (ae st) f a9 A outer s H E).fP H (az st) b):fD P w K mg base x (k+1) ps (Z.fn ps.length N.length b):=by
 let⟨f,fd,F,hm,wj⟩:=d.ex;let⟨c,p,t,hc⟩:=L;have hfd:fd.code=.ref c:=by let⟨oc,od,kV,doc,pm,an,a9,ct,yK,e,lk,rT⟩:=F.ex;exact hc f fd _ _ _ hm lk
 exact⟨f,fd,acs F S λ A outer s H E hr=>hb f _ A outer s H E ⟨c,p,hfd,t⟩ hr,hm,F.kp,wj⟩
end
end ZS
namespace ZQ
open L2 PySem.W ZS
theorem yu(hL:uG X nm)(oK:X.A.in1.depth<recursionLimit)(hg:Gl X x)(hm:X.mg x=Ch)(hv:bootBuiltins x=AC (.builtin "max"))(ha:QW X a fa)
 (B:uK X.N N' 1 is scope X.env.scope) (L9:N'[0]?=AC y) (he:∀cl f c' s H,QE (Cd X N' (iW nm) scope cl f c' s H) body fe)
 (ly:∀q cl pm c' qX u,bindArgs (kla_fn "<lambda>" q params body scope cl pm (.ref c') qX) ⟨[u],[]⟩=pure [(y,u)])
 (yb:defaultsOf params X.env=([],[]):=by rfl) (ya:scope.isGenerator=AT:=by rfl) (Ka:scope.isCoroutine=AT:=by rfl)
 (hc:X.calm=Da:=by rfl) (hn:x≠ "__name__":=by decide +kernel) (gi:Nd x:=by kernel_rfl)
 (TY:Se a [] X.env:=by rfl) (Ui:Bk pos a X.env:=by rfl) (d!:(backTo pos<|starEach (a::[]) X.env).any (·.1)=AT:=by rfl) :
 QE X (.Call (.Name x p1) [a] [⟨AC<|Str.ofString "key",.Lambda params body scope lp,kp⟩,⟨AC<|Str.ofString "default",.Constant .none jj cp,kp2⟩] pos) (Z.yp Da (.ok .non) fa is fe):=
 ⟨ZS.yu hL oK hg hm hv ha.p B L9 (λ cl f c' s H=>(he cl f c' s H).p) ly yb ya Ka hc hn gi TY Ui d!⟩
theorem yt(hL:uG X nm)(oK:X.A.in1.depth<recursionLimit)(hg:Gl X x)(hm:X.mg x=Ch)(hv:bootBuiltins x=AC (.builtin "min"))(ha:QW X a fa)
 (B:uK X.N N' 1 is scope X.env.scope) (L9:N'[0]?=AC y) (he:∀cl f c' s H,QE (Cd X N' (iW nm) scope cl f c' s H) body fe)
 (ly:∀q cl pm c' qX u,bindArgs (kla_fn "<lambda>" q params body scope cl pm (.ref c') qX) ⟨[u],[]⟩=pure [(y,u)])
 (yb:defaultsOf params X.env=([],[]):=by rfl) (ya:scope.isGenerator=AT:=by rfl) (Ka:scope.isCoroutine=AT:=by rfl)
 (hc:X.calm=Da:=by rfl) (hn:x≠ "__name__":=by decide +kernel) (gi:Nd x:=by kernel_rfl)
 (TY:Se a [] X.env:=by rfl) (Ui:Bk pos a X.env:=by rfl) (d!:(backTo pos<|starEach (a::[]) X.env).any (·.1)=AT:=by rfl) :
 QE X (.Call (.Name x p1) [a] [⟨AC<|Str.ofString "key",.Lambda params body scope lp,kp⟩] pos) (Z.yp AT .bad fa is fe):=
 ⟨ZS.yt hL oK hg hm hv ha.p B L9 (λ cl f c' s H=>(he cl f c' s H).p) ly yb ya Ka hc hn gi TY Ui d!⟩
theorem Rl{K:Db}{st:ι}(d:ZS.Def K mg x st ps)(S:a8 N ps (ae st))(L:ZS.Qe K mg x)
 (hb:∀ f a9 A outer s H E,ZS.Vj K x a9->bh k (A.deeper<|envOfC x (ae st) s.heap.objs.size f a9) ->
  yP (dM il P w K mg base N x (ae st) f a9 A outer s H E).fP H (az st) b):ZS.fD P w K mg base x (k+1) ps (Z.fn ps.length N.length b):=
 ZS.acS d S L λ f a9 A outer s H E hl hr=>(hb f a9 A outer s H E hl hr).p
end ZQ
namespace ZS
open L2 PySem.W
def bD(K:Frag)(n:Str)(st:ι):Prop:=∃(f:δ)(od an:ε δ)(sl:Array (ε ζ))(oc kV dc pm cd ct:ζ),nsIn K mainGlobals n=AC (AC<|.ref f)/\K.lookup f=AC ⟨oc,od,.func<|fnOf n n (br st) (az st) (ae st) .none kV dc pm an cd ct,sl⟩/\codeIn K cd n=Da/\keepIn K (.ref f)=Da
def pz(K:Frag)(n:Str)(st:ι):Prop:=∃(f t:δ)(od an td:ε δ)(sl ts:Array (ε ζ))(tn:Nat)(oc kV dc pm cd ct tc:ζ),nsIn K mainGlobals n=AC (AC<|.ref f)/\K.lookup f=AC ⟨oc,od,.func<|fnOf n n (br st) (az st) (ae st) (.ref t) kV dc pm an cd ct,sl⟩/\codeIn K cd n=Da/\keepIn K (.ref f)=Da/\K.lookup t=AC ⟨tc,td,.seq #[.none] tn,ts⟩
def uH(K:Frag)(n:Str)(st:ι):Prop:=bD K n st/\∃c p,tabIn K n=AC (c,p)
section
variable{K:Frag}{st:ι}
theorem bD.mk'{oc kV dc pm cd ct:ζ}(a:nsIn K mainGlobals n=AC (AC<|.ref f))(l:K.lookup f=AC ⟨oc,od,.func<|fnOf n n (br st) (az st) (ae st) .none kV dc pm an cd ct,sl⟩)(c:codeIn K cd n=Da)(k:keepIn K (.ref f)=Da):bD K n st:=⟨f,od,an,sl,oc,kV,dc,pm,cd,ct,a,l,c,k⟩
theorem pz.mk'{oc kV dc pm cd ct tc:ζ}(a:nsIn K mainGlobals n=AC (AC<|.ref f))(l:K.lookup f=AC ⟨oc,od,.func<|fnOf n n (br st) (az st) (ae st) (.ref t) kV dc pm an cd ct,sl⟩)(c:codeIn K cd n=Da)(k:keepIn K (.ref f)=Da)(q:K.lookup t=AC ⟨tc,td,.seq #[.none] tn,ts⟩):pz K n st:=⟨f,t,od,an,td,sl,ts,tn,oc,kV,dc,pm,cd,ct,tc,a,l,c,k,q⟩
theorem uH.mk'{oc kV dc pm ct to:ζ}(a:nsIn K mainGlobals n=AC (AC<|.ref f))(l:K.lookup f=AC ⟨oc,od,.func<|fnOf n n (br st) (az st) (ae st) .none kV dc pm an (.ref cc) ct,sl⟩)(c:codeIn K (.ref cc) n=Da)(k:keepIn K (.ref f)=Da)(tl:K.lookup cc=AC ⟨to,td,.fields tv,ts⟩)(tp:tv[11]?=AC (.ref pp)):uH K n st:=⟨⟨f,od,an,sl,oc,kV,dc,pm,_,ct,a,l,c,k⟩,cc,pp,sJ a l rfl tl tp⟩
theorem bD.df(d:bD K n st)(X:K.In h)(G:h.Ns mainGlobals mg)(hb:∀kV doc pm an a9 ct us,us.length=ps.length->bindArgs (fnOf n n (br st) (az st) (ae st) .none kV doc pm an a9 ct) ⟨us,[]⟩=pure (ps.zip us):=by exact ZS._P):Def K mg n st ps:=by let⟨f,od,an,sl,oc,kV,dc,pm,cd,ct,a,l,c,k⟩:=d;have F:=t? l c k;exact⟨f,_,F,mg_of X G a,F.binds hb⟩
theorem pz.df(d:pz K n st)(X:K.In h)(G:h.Ns mainGlobals mg)
 (h1:∀t kV doc pm an a9 ct us,us.length=ps.length->∃kk,bindArgs (fnOf n n (br st) (az st) (ae st) (.ref t) kV doc pm an a9 ct) ⟨us,[]⟩=seqItems? (.ref t)>>=kk/\kk (AC #[.none])=pure (ps.zip us):=by exact ZS._P)
 (h2:∀t kV doc pm an a9 ct us,us.length=ps.tail.length->∃kk,bindArgs (fnOf n n (br st) (az st) (ae st) (.ref t) kV doc pm an a9 ct) ⟨us,[]⟩=seqItems? (.ref t)>>=kk/\kk (AC #[.none])=pure (ps.zip<|us++[.none]):=by exact ZS._P):Qi K mg n st ps:=by
 let⟨f,t,od,an,td,sl,ts,tn,oc,kV,dc,pm,cd,ct,tc,a,l,c,k,q⟩:=d;exact Pg l c k q (mg_of X G a) (h1 t kV dc pm an cd ct) λ us e=>h2 t kV dc pm an cd ct us (by simp;lia)
theorem bD.law(d:bD K n st)(X:K.In h)(G:h.Ns mainGlobals mg)(Cq:mg n=AC (.ref fa))(hb:∀kV doc pm an a9 ct s v,BindsTo s (fnOf n n (br st) (az st) (ae st) .none kV doc pm an a9 ct) ⟨[v],[]⟩ [(x,v)]):∃fd,(∀s v,BindsTo s fd ⟨[v],[]⟩ [(x,v)])/\Bc K n n st fa fd:=by let⟨f,od,an,sl,oc,kV,dc,pm,cd,ct,a,l,c,k⟩:=d;have e:=Cq.symm.trans<|mg_of X G a;cases e;exact⟨_,hb kV dc pm an cd ct,t? l c k⟩
theorem uH.lam(d:uH K n st)(X:K.In h)(G:h.Ns mainGlobals mg):Qe K mg n:=by let⟨c,p,t⟩:=d.2;exact N_ X G t
end
end ZS
namespace ZQ
open L2
noncomputable def XH(sc:ς)(x:Str):Bool:=match sc.names.lookup x with
|some .local=>Da
|some .cell=>Da
|_=>AT
theorem lo(h:XH sc x=Da):Loc sc x:=by
 unfold XH at h;split at h
 .rename_i e;exact .inl e
 .rename_i e;exact .inr e
 .cases h
end ZQ
namespace Z
abbrev XN:=γ Nat×γ (γ Nat×D)
abbrev XF:=Env->ε XN
def nP(_:Env):ε XN:=Ch
def eE(m:γ D->ε XN)(as:AF)(ρ:Env):ε XN:=match as ρ with
|.ok ds=>m ds
|.bad=>Ch
def ZE(a:EF)(r:XF)(ρ:Env):ε XN:=match a ρ with
|.ok _=>r ρ
|.bad=>Ch
def fJ(a:SF)(xa xb:XF)(ρ:Env):ε XN:=match xa ρ with
|some c=>AC c
|none=>match a ρ with
 |.ok<|.nx ρ'=>xb ρ'
 |_=>Ch
def Hl(t:TF)(a b:XF)(ρ:Env):ε XN:=match t ρ with
|.ok c=>if c then a ρ else b ρ
|.bad=>Ch
def wY(c:γ Nat)(a:EF)(ρ:Env):ε XN:=match a ρ with
|.ok _=>AC (c,[])
|.bad=>Ch
end Z
namespace ZS
open L2 PySem.W
theorem Jb(x:d7 P w H h a o):∃ob,h.get? a=AC ob:=by
 cases o with
 |lst xs=>let⟨_,_,_,_,e⟩:=x;exact⟨_,e⟩
 |tup xs=>let⟨_,_,_,tn⟩:=x;let⟨ob,e,_⟩:=tn.is;exact⟨_,e⟩
 |dK aO=>let⟨_,_,_,_,o,_,_,e,_⟩:=x;exact⟨_,e⟩
 |dT aO=>let⟨_,_,_,_,o,_,_,e,_⟩:=x;exact⟨_,e⟩
 |set S n=>let⟨o,_,_,_,e,_⟩:=x;exact⟨_,e⟩
 |ins C dx fs=>let⟨_,_,_,e,_⟩:=x;exact⟨_,e⟩
 |own y=>let⟨_,e⟩:=x;exact⟨_,e⟩
 |xd fs=>let⟨_,⟨_,_,_,e,_⟩,_⟩:=x;exact⟨_,e⟩
 |ZW lo hi=>let⟨_,_,_,e⟩:=x;exact⟨_,e⟩
 |eJ ob u=>let⟨e,_⟩:=x;exact⟨_,e⟩
 |HX q=>let⟨_,e,_⟩:=x;exact⟨_,e⟩
 |Md q=>let⟨_,_,_,_,e1,e2,_⟩:=x;cases e1;exact⟨_,e2⟩
 |met f y=>exact⟨_,(x)⟩
 |ext φ=>let⟨_,⟨_,e⟩,_⟩:=x;exact⟨_,e⟩
section
variable{X:Cx}{χ:γ (δ×μ)}{σ:St}{H H':Hp}{s:η}{h':ν}
theorem Ig{ch:γ δ}(I:Inv X χ σ H s)
 (Bb:∀b∈ch,X.s₀.heap.get? b=Ch/\b≠X.env.locals/\(∀x c,X.env.cells.lookup x=AC c->c≠b)/\∀p∈X.pn++χ,p.1≠b)
 (keep:∀b o,b≠X.env.locals->b∉X.fs->b∉ch->s.heap.get? b=AC o->H b=Ch->h'.get? b=AC o)
 (slot:∀b o,b≠X.env.locals->b∈X.fs->b∉ch->s.heap.get? b=AC o->H b=Ch->∃sl,h'.get? b=AC {o with slots:=sl}) (free:∀b o,b∉ch->s.heap.get? b=AC o->H b=Ch->H' b=Ch)
 (there:∀b o,b∉ch->s.heap.get? b=AC o->∃o',h'.get? b=AC o')
 (sI:∀b xs,H b=AC (.tup xs)->H' b=AC (.tup xs)) (rC:∀b o u,H b=AC (.eJ o u)->H' b=AC (.eJ o u)) (n6:∀b u,V0 u->H b=AC u->H' b=AC u)
 (ns:∀m,s.heap.Ns X.env.locals m->h'.Ns X.env.locals m) (bG:kR X.prog X.w H' h') (hg:AllBare g') :
 Inv X χ σ H' {s with heap:=h',gens:=g',drawn:=d',toks:=t'}:=by
 have Xo:∀b o,X.s₀.heap.get? b=AC o->b≠X.env.locals:=λ b o e=>A13<|A19 (A02 e) I.ok.above;have Jq:∀b o,X.s₀.heap.get? b=AC o->b∉ch:=λ b o e hb=>by rw[(Bb b hb).1]at e;cases e
 have cellK:∀x c,X.env.cells.lookup x=AC c->∀v,s.heap.IsCell c v->h'.IsCell c v:=by
  rintro x c e v ⟨o,ho,hd⟩;have z5:=λ z=>(Bb c z).2.2.1 x c e rfl;by_cases hc:c∈X.fs
  .let⟨sl,q⟩:=slot c o (I.PJ x c e) hc z5 ho (I.gq x c e);exact⟨_,q,hd⟩
  .exact⟨o,keep c o (I.PJ x c e) hc z5 ho<|I.gq x c e,hd⟩
 refine⟨I.ok,I.os,hg,⟨λ b o e n hb hx=>?_,λ b o e n hb hx=>?_,λ b o e n hx=>?_,λ b o e hx=>?_,λ b xs e=>sI b xs<|I.base.sI b xs e,λ b o xs e=>rC b o xs<|I.base.rC b o xs e,λ b u p e=>n6 b u p<|I.base.n6 b u p e⟩,?_,λ x c e=>?_,?_,λ x c e=>?_,λ p hp=>?_,bG,I.len,I.tab.up n6⟩
 .exact keep b o (Xo b o e) hb (Jq b o e) (I.base.keep b o e n hb hx)<|I.base.free b o e n hx
 .let⟨sl,e1⟩:=I.base.slot b o e n hb hx;let⟨sl',e2⟩:=slot b _ (Xo b o e) hb (Jq b o e) e1 (I.base.free b o e n hx);exact⟨sl',e2⟩
 .let⟨o',e1⟩:=I.base.there b o e hx;exact free b o' (Jq b o e) e1<|I.base.free b o e n hx
 .let⟨o',e1⟩:=I.base.there b o e hx;exact there b o' (Jq b o e) e1
 .let⟨m,hn,hl⟩:=I.loc;refine⟨m,ns m hn,λ i x v e1 e2 e3=>?_⟩;let⟨u,r,l⟩:=hl i x v e1 e2 e3;refine⟨u,r,?_⟩;rcases l with l|⟨k,c,e,z⟩
  .exact .inl l
  .exact .inr ⟨k,c,e,cellK x c e _ z⟩
 .let⟨v,z⟩:=I.cell x c e;exact⟨v,cellK x c e v z⟩
 .let⟨m,⟨o,_,_,ho,_⟩,_⟩:=I.loc;exact free _ o (λ z=>(Bb _ z).2.1 rfl) ho I.free
 .let⟨v,o,ho,hd⟩:=I.cell x c e;exact free c o (λ z=>(Bb c z).2.2.1 x c e rfl) ho<|I.gq x c e
 .let⟨e,n,ne,nf,d⟩:=I.pin p hp;have z5:=λ z=>(Bb p.1 z).2.2.2 p hp rfl;exact⟨keep p.1 p.2 ne nf z5 e n,free p.1 p.2 z5 e n,ne,nf,d⟩
structure nO(X:Cx)(χ:List (Addr×Obj))(H:Hp)(s:Shared)(a:Addr):Prop where
 free:H a=Ch
 new:X.s₀.heap.get? a=Ch
 pin:∀p∈X.pn++χ,p.1≠a
 isr:∃o vs,s.heap.get? a=AC o/\o.data=.fields vs
theorem nO.loc(o:nO X χ H s a)(I:Inv X χ σ H s):a≠X.env.locals:=λ z=>by let⟨ob,vs,e,d⟩:=o.isr;let⟨m,⟨o',es,ep,oM,pC,_⟩,_⟩:=I.loc;rw[z,oM]at e;cases e;rw[pC]at d;cases d
theorem nO.cell(o:nO X χ H s a)(I:Inv X χ σ H s)(x:Str)(c:δ)(hc:X.env.cells.lookup x=AC c):c≠a:=λ z=>by let⟨ob,vs,e,d⟩:=o.isr;let⟨v,o',oM,pC⟩:=I.cell x c hc;rw[z,e]at oM;cases oM;rw[d]at pC;cases pC
theorem absent(I:Inv X χ σ H s)(h:s.heap.get? a=Ch):H a=Ch/\X.s₀.heap.get? a=Ch\/a∈X.ex:=by
 by_cases hx:a∈X.ex
 .exact .inr hx
 .refine .inl ⟨?_,?_⟩
  .cases e:H a with
   |none=>rfl
   |some u=>let⟨ob,q⟩:=Jb (I.bG a u e);rw[h]at q;cases q
  .cases e:X.s₀.heap.get? a with
   |none=>rfl
   |some o=>let⟨o',q⟩:=I.base.there a o e hx;rw[h]at q;cases q
theorem Inv.snap(I:Inv X χ σ H s)(off:∀a∈l,nO X χ H s a)(k1:(hideAll s.heap<|t_ X.stack++l).StaysIn h')
 (k4:∀b o,s.heap.get? b=AC o->(∀vs,o.data≠.fields vs)->∃sl,h'.get? b=AC {o with slots:=sl}):Inv X χ σ H {s with heap:=h',toks:=t'}:=by
 have _m:=λ b o n1 n2 e=>k1 b o<|hideAll_get _ e λ z=>(A37.mp z).elim n1 n2;have RR:∀b u,H b=AC u->b∉t_ _/\b∉l:=λ b u e=>⟨λ z=>(by rw[I.rJ b z]at e;cases e),λ z=>(by rw[(off b z).free]at e;cases e)⟩
 refine Ig I (λ b hb=>⟨(off b hb).new,(off b hb).loc I,(off b hb).cell I,(off b hb).pin⟩) (λ b o hL hf hc e n=>_m b o (λ z=>(A01.mp<|I.pL b z).elim hL hf) hc e) (λ b o hL hf hc e n=>?_) (λ _ _ _ _ n=>n) (λ b o hc e=>?_) (λ _ _ e=>e) (λ _ _ _ e=>e) (λ _ _ _ e=>e) (λ m hm=>?_) (λ b u e=>?_) I.bare
 .let⟨_,o',oM,pC⟩:=I.mw.mem hf;rw[e]at oM;cases oM;exact k4 b o e pC
 .by_cases hz:b∈t_ X.stack
  .let⟨_,o',oM,pC⟩:=I.stack.mem hz;rw[e]at oM;cases oM;let⟨sl,q⟩:=k4 b o e pC;exact⟨_,q⟩
  .exact⟨o,_m b o hz hc e⟩
 .let⟨o,es,ep,ho,hd,r⟩:=hm;let⟨sl,q⟩:=k4 _ o ho (λ vs z=>by rw[hd]at z;cases z);exact⟨_,es,ep,q,hd,r⟩
 .refine(I.bG b u e).rh (λ c v hc q=>?_) (λ _ q=>q) (λ _ _ q=>q) λ _ _ _ q=>q;rcases hc with rfl|hc
  .exact _m c v (RR c u e).1 (RR c u e).2 q
  .exact _m c v (RR c _ hc).1 (RR c _ hc).2 q
theorem zz(hex:X.ex=[])(I:Inv X χ σ H s)(off:∀a∈l,nO X χ H s a)(k2:h'.FunFrames (hideAll s.heap<|t_ X.stack++l) X.stack)
 (hT:(hideAll s.heap<|t_ X.stack++l).get? T=Ch) (hT':h'.get? T=AC oT) (hd:oT.data=.fields ts):H T=Ch/\X.s₀.heap.get? T=Ch/\∀p∈X.pn++χ,p.1≠T:=by
 have nst:T∉t_ _:=λ z=>by let⟨_,o',oM,pC⟩:=k2.mem z;rw[hT']at oM;cases oM;exact pC ts hd
 by_cases hl:T∈l
 .exact⟨(off T hl).free,(off T hl).new,(off T hl).pin⟩
 .have hn:s.heap.get? T=Ch:=by
   cases e:s.heap.get? T with
   |none=>rfl
   |some o=>rw[hideAll_get _ e λ z=>(A37.mp z).elim nst hl]at hT;cases hT
  rcases absent I hn with z|z
  .exact⟨z.1,z.2,λ p hp q=>by rw[<-q,(I.pin p hp).1]at hn;cases hn⟩
  .rw[hex]at z;cases z
end
theorem Kz{rest:γ PySem.Env}
 (fr:A.frames=AC (env::rest)) (ff:s.heap.FunFrames ground (env::rest)) (el:env.frame=AC L) (ge:s.heap.get? e=AC oe) (st:ground.StaysIn s.heap) (ne:ground.get? e=Ch) (de:oe.data=.fields fl) (sz:1<fl.size)
 (k:∀ h' T oT ts,ground.StaysIn h'->h'.FunFrames ground (env::rest)->h'.get? e=AC (oe.mapFields (·.setIfInBounds 1<|.ref T))->ground.get? T=Ch->T≠e->h'.get? T=AC oT->oT.data=.fields ts->3<ts.size ->
  (∀b o,s.heap.get? b=AC o->(∀vs,o.data≠.fields vs)->∃sl,h'.get? b=AC {o with slots:=sl})->Q () {s with heap:=h'}) :
 Ev M A (do let a ←frameOf env;let pl ←entryPlaceOf L nx;let b ←EntryCells.newEntry hd0 a .none (rawInt L) .none pl;setField (.ref e) 1 b) Q E s:=by
 have out:e∉(env::rest).filterMap (·.frame):=λ z=>by let⟨_,o,go,no⟩:=ff.mem z;rw[ge]at go;cases go;exact no fl de
 refine T0<|wpAny_frameOf_fun fr ff el λ h1 so=>T0<|wpAny_entryPlaceOf λ pl ip=>?_;unfold EntryCells.newEntry newFields;refine T0<|A69 ?_<|ip.sizeOk5 _ _ _ _ _;generalize T7:({cls:=.type "traceback",dict:=Ch,data:=.fields ([hd0,.ref L,.none,rawInt L,.none]++(if pl.isEmpty then Do 6 Tk else pl)).toArray}:μ)=new;have Y4:new.data=.fields ([hd0,.ref L,.none,rawInt L,.none]++(if pl.isEmpty then Do 6 Tk else pl)).toArray:=by rw[<-T7]
 have ge1:=(so.2.1 e out).trans ge;have Qt:ground.StaysIn h1:=λ b o q=>(so.2.1 b λ z=>by rw[(ff.mem z).1]at q;cases q).trans<|st b o q;have ge2:=f8 (h:=h1) new ge1;refine B62 ge2 de sz ?_;have Te:=A45<|A02 ge1;have d3:=A65 de (·.setIfInBounds 1<|Value.ref h1.objs.size);have ge3:=B13 (TD (·.setIfInBounds 1<|Value.ref h1.objs.size)) ge2<|B63 d3;have gT:=(A79 (h1.push new) (TD (·.setIfInBounds 1<|Value.ref h1.objs.size))<|A09 Te).trans<|A17 h1<|B63 Y4;have hold:∀b o,b≠e->h1.get? b=AC o->((h1.push new).update e (TD (·.setIfInBounds 1<|Value.ref h1.objs.size))).get? b=AC o:=λ b o n q=>by rw[A79 _ _<|A09 n];exact f8 _ q
 have apart:∀b o,s.heap.get? b=AC o->(∀vs,o.data≠.fields vs)->b≠e:=λ b o q n z=>by rw[z,ge]at q;cases q;exact n fl de
 refine k _ h1.objs.size new _ (λ b o q=>hold b o (λ z=>by rw[z,ne]at q;cases q)<|Qt b o q) (ff.of_keeps λ b o q n=>?_) ge3 Qt.fresh Te gT Y4 (by simp only[A10,A28,A27,B91];lia) λ b o q n=>?_
 .let⟨sl,z⟩:=so.2.2 b o q;exact⟨_,hold b _ (apart b o q n) z,rfl⟩
 .let⟨sl,z⟩:=so.2.2 b o q;exact⟨sl,hold b _ (apart b o q n) z⟩
theorem lj(o:μ)(f:Array ζ->Array ζ):(o.mapFields f).dict=o.dict:=by let⟨_,_,d,_⟩:=o;cases d<;>rfl
structure P9(X:Cx)(χ:List (Addr×Obj))(H:Hp)(s:Shared)(e C:Addr)(dd:Option Addr):Prop where
 off:nO X χ H s e
 ex:∃oe vs,s.heap.get? e=AC oe/\oe.cls=.ref C/\oe.dict=dd/\oe.data=.fields vs/\(vs[1]?=AC .none\/∃T oT ts,vs[1]?=AC (.ref T)/\T≠e/\nO X χ H s T/\s.heap.get? T=AC oT/\oT.data=.fields ts/\ts[3]?=AC .none)
def ac5(h0:ν)(H':Hp)(h':ν)(e C:δ)(dd:ε δ):Prop:=h0.get? e=Ch/\H' e=Ch/\∃oe vs T oT ts,h'.get? e=AC oe/\oe.cls=.ref C/\oe.dict=dd/\oe.data=.fields vs/\vs[1]?=AC (.ref T)/\T≠e/\H' T=Ch/\h0.get? T=Ch/\h'.get? T=AC oT/\oT.data=.fields ts/\ts[3]?=AC .none
def Hk(P:ο)(w:ξ):Vp:=λ outer H s E ev s'=>∃e C dd H',ev=.ref e/\s'.os=s.os/\AllBare s'.gens/\Un (t_ outer) [] H H' s.heap s'.heap/\kR P w H' s'.heap/\ac5 s.heap H' s'.heap e C dd/\E (.ref C) dd H'
theorem Ie:∀env∈l,∀a,env.frame=AC a->a∈t_ l++as:=λ env he a ha=>A76 _<|B77.mpr ⟨env,he,ha⟩
section
variable{X:Cx}{χ:γ (δ×μ)}{σ:St}{H:Hp}{s:η}
structure _1(X:Cx)(χ:List (Addr×Obj))(σ:St)(H:Hp)(s:Shared)(e C:Addr)(dd:Option Addr)(lands:Bool):Prop where
 inv:Inv X χ σ H s
 off:nO X χ H s e
 ex:∃oe vs T oT ts,s.heap.get? e=AC oe/\oe.cls=.ref C/\oe.dict=dd/\oe.data=.fields vs/\vs[1]?=AC (.ref T)/\T≠e/\nO X χ H s T/\s.heap.get? T=AC oT/\oT.data=.fields ts/\3<ts.size/\(lands=Da->ts[3]?=AC .none)
theorem zV(hex:X.ex=[])(oJ:X.stack=X.env::X.outer)(L_:X.env.frame=AC X.env.locals)(I:Inv X χ σ H s)(t:P9 X χ H s e C dd)
 (k:∀s',_1 X χ σ H s' e C dd AT->Q () s'):Ev M X.A (noteFrame (.ref e) X.env) Q E s:=by
 let⟨oe,vs,he,lY,VO,hd,h1⟩:=t.ex;have hfr:X.A.frames=AC (X.env::X.outer):=by rw[<-oJ];exact I.ok.frames
 have LR:=I.stack;rw[oJ]at LR;unfold noteFrame;simp only[L_];rcases h1 with h1|⟨T,oT,ts,h1,_C,NI,gT,dT,h3⟩
 .have off:∀a∈[e],nO X χ H s a:=λ a ha=>by rw[A15.mp ha];exact t.off
  refine T0<|A34 he hd h1 ?_;rw[o0 ∅];refine Kz hfr (funFrames_hide LR Ie) L_ he (λ b o=>of_hideAll _) (B70 _<|A42 _<|A15.mpr rfl) hd (B40.mp h1).1 λ h' T' NI RQ k1 k2 g1 g2 g3 g4 g5 g6 k4=>k _ ?_;rw[<-oJ]at k1 k2 g2;have J:=Inv.snap (t':=s.toks) I off k1 k4;let⟨n1,n2,n3⟩:=zz hex I off k2 g2 g4 g5;have sz:=(B40.mp h1).1;exact⟨J,⟨t.off.free,t.off.new,t.off.pin,_,_,g1,A65 hd _⟩,_,_,T',NI,RQ,g1,(C03 _ _).trans lY,(lj _ _).trans VO,A65 hd _,by simp[sz],g3,⟨n1,n2,n3,NI,RQ,g4,g5⟩,g4,g5,g6,λ z=>nomatch z⟩
 .have off:∀a∈[e,T],nO X χ H s a:=λ a ha=>by
   rcases A01.mp ha with rfl|ha
   .exact t.off
   .rw[A15.mp ha];exact NI
  refine T0<|A34 he hd h1 ?_;rw[W1 ∅];refine T0<|A34 gT dT h3 ?_;rw[o0 (by simp[rawInt])];refine T0<|B62 gT dT (B40.mp h3).1 ?_;have other:∀b,b≠T->(s.heap.update T (TD (·.setIfInBounds 3 Tk))).get? b=s.heap.get? b:=λ b hb=>A79 _ _<|A09 hb;have apart:∀b o,s.heap.get? b=AC o->(∀vs,o.data≠.fields vs)->b≠T:=λ b o q n z=>by rw[z,gT]at q;cases q;exact n ts dT
  have inT:T∈t_ (X.env::X.outer)++[e,T]:=A42 _ ∅;refine Kz hfr ((funFrames_hide LR Ie).of_keeps λ b o q n=>⟨o,(other b<|apart b o q n).trans q,rfl⟩) L_ ((other e<|A09 _C).trans he)
   (λ b o q=>(other b λ z=>by rw[z,B70 _ inT]at q;cases q).trans<|of_hideAll _ q) (B70 _<|A42 _ ∅) hd (B40.mp h1).1 λ h' T' oT2 RQ k1 k2 g1 g2 g3 g4 g5 g6 k4=>k _ ?_
  rw[<-oJ]at k1 k2 g2;have J:=Inv.snap (t':=s.toks) I off k1 λ b o q n=>k4 b o ((other b<|apart b o q n).trans q) n;let⟨n1,n2,n3⟩:=zz hex I off k2 g2 g4 g5;have sz:=(B40.mp h1).1;exact⟨J,⟨t.off.free,t.off.new,t.off.pin,_,_,g1,A65 hd _⟩,_,_,T',oT2,RQ,g1,(C03 _ _).trans lY,(lj _ _).trans VO,A65 hd _,by simp[sz],g3,⟨n1,n2,n3,oT2,RQ,g4,g5⟩,g4,g5,g6,λ z=>nomatch z⟩
theorem land(c:_1 X χ σ H s e C dd l)(k:∀s',_1 X χ σ H s' e C dd Da->Q () s'):Ev M A (setFlight (.ref e) Ch) Q E s:=by
 let⟨oe,vs,T,oT,ts,he,lY,VO,hd,h1,_C,NI,gT,dT,h3,_⟩:=c.ex;refine wpAny_setFlight_none he hd h1 gT dT h3<|k _ ?_;have other:∀b o,b≠T->s.heap.get? b=AC o->(s.heap.update T (TD (·.setIfInBounds 3 .none))).get? b=AC o:=λ b o hb q=>(A79 _ _<|A09 hb).trans q;have gT2:=B13 (TD (·.setIfInBounds 3 Tk)) gT<|B63<|A65 dT _;have off:∀a∈[T],nO X χ H s a:=λ a ha=>by rw[A15.mp ha];exact NI
 have J:=Inv.snap (t':=s.toks) c.inv off (λ b o q=>by
  by_cases hb:b=T
  .rw[hb,B70 _<|A42 _<|A15.mpr rfl]at q;cases q
  .exact other b o hb<|of_hideAll _ q) λ b o q n=>⟨_,other b o (λ z=>by rw[z,gT]at q;cases q;exact n ts dT) q⟩
 have Q7:=other e oe (A09 _C) he;exact⟨J,⟨c.off.free,c.off.new,c.off.pin,oe,vs,Q7,hd⟩,oe,vs,T,_,_,Q7,lY,VO,hd,h1,_C,⟨NI.free,NI.new,NI.pin,_,_,gT2,A65 dT _⟩,gT2,A65 dT _,by simpa using h3,λ _=>by simp[h3]⟩
end
theorem F_{K:Db}
 (I:Inv (dM (Hk P w) P w K mg base N qual scope f cd A outer s0 H0 E) χ σ H s) (t:P9 (dM (Hk P w) P w K mg base N qual scope f cd A outer s0 H0 E) χ H s e C dd) (hE:E (.ref C) dd H) :
 (dM (Hk P w) P w K mg base N qual scope f cd A outer s0 H0 E).xe (.ref e) s:=by
 show Ev _ (dM (Hk P w) P w K mg base N qual scope f cd A outer s0 H0 E).A _ (λ _ Vt=>Hk P w outer H0 s0 E _ Vt) _ s;refine T0<|zV rfl rfl rfl I t λ s1 c1=>land c1 λ s2 c2=>?_;let⟨oe,vs,T,oT,ts,q1,q2,qd,q3,q4,q5,q6,q7,q8,q9,q10⟩:=c2.ex;exact⟨e,C,dd,H,rfl,c2.inv.os,c2.inv.bare,c2.inv.base,c2.inv.bG,⟨c2.off.new,c2.off.free,oe,vs,T,oT,ts,q1,q2,qd,q3,q4,q5,q6.free,q6.new,q7,q8,q10 rfl⟩,hE⟩
theorem RT(hex:X.ex=[])(I:Inv X χ σ H s)(c:Hk X.prog X.w X.stack H s E ev s'):
 ∃e C dd H',ev=.ref e/\Inv X χ σ H' s'/\P9 X χ H' s' e C dd/\E (.ref C) dd H':=by
 let⟨e,C,dd,H',rfl,os,bare,un,bG,⟨ne,fe,oe,vs,T,oT,ts,q1,q2,qd,q3,q4,q5,q6,q7,q8,q9,q10⟩,hE⟩:=c;have J:=I.Ln os un bG bare λ b hb=>absurd hb ∅;have ab:∀a,s.heap.get? a=Ch->X.s₀.heap.get? a=Ch/\∀p∈X.pn++χ,p.1≠a:=λ a h=>by
  rcases absent I h with z|z
  .exact⟨z.2,λ p hp q=>by rw[<-q,(I.pin p hp).1]at h;cases h⟩
  .rw[hex]at z;cases z
 exact⟨e,C,dd,H',rfl,J,⟨⟨fe,(ab e ne).1,(ab e ne).2,oe,vs,q1,q3⟩,oe,vs,q1,q2,qd,q3,.inr ⟨T,oT,ts,q4,q5,⟨q6,(ab T q7).1,(ab T q7).2,oT,ts,q8,q9⟩,q8,q9,q10⟩⟩,hE⟩
theorem Df(hex:X.ex=[])(I:Inv X χ σ H s)(hm:ii s.heap h' e (.ref C) vs):
 Inv X χ σ H {s with heap:=h'}/\P9 X χ H {s with heap:=h'} e C Ch:=by
 have J:=I.kept (t':=s.toks) hm.keeps;let⟨t,ht,_,_⟩:=hm.there;refine⟨J,?_⟩;rcases absent I hm.new with z|z
 .exact⟨⟨z.1,z.2,λ p hp q=>(by have:=(I.pin p hp).1;rw[q,hm.new]at this;cases this),_,_,ht,rfl⟩,_,_,ht,rfl,rfl,rfl,.inl rfl⟩
 .rw[hex]at z;cases z
theorem PA.fP(h:PA X.fP es t):PA X es t:=λ pos χ s σ H Q I hw=>A20 (h pos χ s σ H Q (I.kU _) hw) (by rintro _ _ ⟨vs,H',I',r,q⟩;exact⟨vs,H',I'.fK,r,q⟩) λ _ _ z=>GM z
theorem PS.fP{st:ι}(h:PS X.fP st t):PS X st t:=λ χ s σ H D I hw=>A20 (h χ s σ H D (I.kU _) hw) (λ _ _ q=>q.fK) λ _ _ z=>GM z
def Zi(X:Cx)(σ:St)(H:Hp)(c:Z.XN):Prop:=∀χ H' s e C dd,aw H H'->vw X.K H' c C dd->Inv X χ σ H' s->P9 X χ H' s e C dd->X.xe (.ref e) s
def Xw(X:Cx)(H0:Hp)(c:Z.XN):Prop:=∀χ σ H' s e C dd,aw H0 H'->vw X.K H' c C dd->Inv X χ σ H' s->P9 X χ H' s e C dd->X.xe (.ref e) s
theorem Zi.up(h:Zi X σ H c)(e:aw H H'):Zi X σ H' c:=λ χ H2 s a C dd sm=>h χ H2 s a C dd<|e.trans sm
def xR(X:Cx)(f:Z.XF)(σ:St)(H:Hp):Prop:=∃ρ c,RE X.K H σ ρ/\f ρ=AC c/\Zi X σ H c
abbrev XE(X:Cx)(e:θ)(f:Z.XF):Prop:=PE X e λ σ H _=>xR X f σ H
structure _root_.Lake.ZQ.Qb(X:Cx)(e:Expr)(f:Z.XF):Prop where p:XE X e f
abbrev XA(X:Cx)(es:γ θ)(f:Z.XF):Prop:=PA X es λ σ H _=>xR X f σ H
structure _root_.Lake.ZQ.QXA(X:Cx)(es:List Expr)(f:Z.XF):Prop where p:XA X es f
abbrev XR(X:Cx)(st:ι)(f:Z.XF):Prop:=PS X st λ _ σ H=>xR X f σ H
structure _root_.Lake.ZQ.QXR(X:Cx)(st:Stmt)(f:Z.XF):Prop where p:XR X st f
abbrev XRs(X:Cx)(yG:γ ι)(f:Z.XF):Prop:=qp X yG λ _ σ H=>xR X f σ H
structure _root_.Lake.ZQ.Zm(X:Cx)(yG:List Stmt)(f:Z.XF):Prop where p:XRs X yG f
def xS(X:Cx)(H0:Hp)(f:Z.XF)(σ:St)(H:Hp):Prop:=∃ρ c,RS X.K H0 H σ ρ/\f ρ=AC c/\Xw X H0 c
abbrev XS(X:Cx)(H0:Hp)(st:ι)(f:Z.XF):Prop:=PS X st λ _ σ H=>xS X H0 f σ H
structure _root_.Lake.ZQ.Qa(X:Cx)(H0:Hp)(st:Stmt)(f:Z.XF):Prop where p:XS X H0 st f
abbrev XSs(X:Cx)(H0:Hp)(yG:γ ι)(f:Z.XF):Prop:=qp X yG λ _ σ H=>xS X H0 f σ H
structure _root_.Lake.ZQ.C5(X:Cx)(H0:Hp)(yG:List Stmt)(f:Z.XF):Prop where p:XSs X H0 yG f
theorem xS.r(h:xS X H0 f σ H):xR X f σ H:=by let⟨ρ,c,rs,e,k⟩:=h;exact⟨ρ,c,rs.re,e,λ χ H' s a C dd sm=>k χ σ H' s a C dd<|rs.same.trans sm⟩
def wcF(C:δ)(h:ν)(P:γ ζ->δ->Prop):Prop:=∃(tl:γ ζ)(ns:δ)(nm qn:Str)(bs:γ ζ)(hd:Bool)(sn:γ Str)(sub:γ ζ)(ab:Bool)(col:ε Bool)(dd:ε δ)(s0 s1 s2 s3 s5:ε ζ),
 h.get? C=AC (excClassObj nm qn C ns bs tl hd sn sub ab col dd s0 s1 s2 s3 s5 "ValueError.__new__")/\P tl ns
theorem wc0{p:Prop}(h:AT=Da):p:=_root_.Bool.noConfusion h
theorem wc1{α:Type}{p:Prop}{x:α}(h:(none:ε α)=some x):p:=by cases h
theorem wc2{d:Data}{cd:ClassData}:wcD d=some cd->d=.cls cd:=by
 cases d<;>first|exact λ h=>congrArg _ (_root_.Option.some.inj h)|exact wc1
theorem wc3{α:Type}{l:γ α}(h:l.length=6):∃a b c d e f,l=[a,b,c,d,e,f]:=by
 obtain ⟨a,l,rfl⟩:=_root_.List.exists_cons_of_length_eq_add_one h
 obtain ⟨b,l,rfl⟩:=_root_.List.exists_cons_of_length_eq_add_one (Nat.succ.inj h)
 obtain ⟨c,l,rfl⟩:=_root_.List.exists_cons_of_length_eq_add_one (Nat.succ.inj (Nat.succ.inj h))
 obtain ⟨d,l,rfl⟩:=_root_.List.exists_cons_of_length_eq_add_one (Nat.succ.inj (Nat.succ.inj (Nat.succ.inj h)))
 obtain ⟨e,l,rfl⟩:=_root_.List.exists_cons_of_length_eq_add_one (Nat.succ.inj (Nat.succ.inj (Nat.succ.inj (Nat.succ.inj h))))
 obtain ⟨f,l,rfl⟩:=_root_.List.exists_cons_of_length_eq_add_one (Nat.succ.inj (Nat.succ.inj (Nat.succ.inj (Nat.succ.inj (Nat.succ.inj h)))))
 cases l with
 |nil=>exact⟨_,_,_,_,_,_,rfl⟩
 |cons _ _=>exact Nat.noConfusion (Nat.succ.inj (Nat.succ.inj (Nat.succ.inj (Nat.succ.inj (Nat.succ.inj (Nat.succ.inj h))))))
theorem wc4{α:Type}{f:α->Bool}{x:ε α}(h:wcB f x=Da):∃a,x=some a/\f a=Da:=by
 cases x with
 |none=>exact wc0 h
 |some a=>exact⟨a,rfl,h⟩
theorem wc5{f:ζ->γ ζ->Bool}{x:γ ζ}(h:wcC f x=Da):∃a t,x=a::t/\f a t=Da:=by
 cases x with
 |nil=>exact wc0 h
 |cons a t=>exact⟨a,t,rfl,h⟩
theorem wc6{o:Obj}{a:ζ}{d:Data}{l:γ (ε ζ)}(h1:o.cls=a)(h2:o.data=d)(h3:o.slots.toList=l):o=⟨a,o.dict,d,⟨l⟩⟩:=by subst h1 h2 h3;rfl
theorem wc7{c:ClassData}{m:γ ζ}{b:Bool}(h1:c.mro=m)(h2:c.hasDel=b):c={c with mro:=m,hasDel:=b}:=by subst h1 h2;rfl
theorem wc8{K:FS}{B:γ ζ->δ->Bool}{P:γ ζ->δ->Prop}(X:K.In h)(q:wcA K C B=Da)(k:∀t n,B t n=Da->P t n):wcF C h P:=by
 obtain ⟨o,ho,q⟩:=wc4 q
 obtain ⟨cd,hd,q⟩:=wc4 q
 obtain ⟨a,tl,hm,q⟩:=wc5 q
 obtain ⟨q,r2⟩:=_root_.Bool.and_eq_true_iff.mp q
 obtain ⟨q,r1⟩:=_root_.Bool.and_eq_true_iff.mp q
 obtain ⟨q,q4⟩:=_root_.Bool.and_eq_true_iff.mp q
 obtain ⟨q,q3⟩:=_root_.Bool.and_eq_true_iff.mp q
 obtain ⟨q1,q2⟩:=_root_.Bool.and_eq_true_iff.mp q
 obtain ⟨s0,s1,s2,s3,s4,s5,e⟩:=wc3 (eq_of_beq q3)
 have p4:=eq_of_beq q4
 rw [e] at p4
 obtain rfl:=_root_.Option.some.inj p4
 obtain rfl:=eq_of_beq q2
 exact⟨tl,cd.ns,_,_,_,_,_,_,_,_,o.dict,s0,s1,s2,s3,s5,(X _ _ ho).trans (congrArg _root_.Option.some (wc6 (eq_of_beq q1) ((wc2 hd).trans (congrArg Data.cls (wc7 hm ((_root_.Bool.not_eq_true' _).mp r1)))) e)),k _ _ r2⟩
def ada(C:δ)(h:ν):Prop:=wcF C h λ t _=>t.contains (.type "BaseException")=Da
theorem acQ{K:FS}(X:K.In h)(xc:XC K c C):ada C h:=wc8 X xc.2 λ _ _ r=>r
def adb(C:δ)(h:ν):Prop:=wcF C h λ t n=>∃m:Str->ε ζ,h.Ns n m/\m "__init__"=none/\OwnTail h V! t
theorem acR{K:FS}(X:K.In h)(q:wcE K C=Da):adb C h:=wc8 X q λ t n r=>by
 obtain ⟨r,r4⟩:=_root_.Bool.and_eq_true_iff.mp r
 obtain ⟨r2,r3⟩:=_root_.Bool.and_eq_true_iff.mp r
 exact⟨_,.of_isNs (isNs_of_in X r3),nsMap_none_of_in X r3 (eq_of_beq r4),tail_of_in X r2⟩
theorem _root_.Lake.ZQ.V8(h:ZQ.Qb X e f)(ha:ZQ.QA X.fP es ar)(he:Se e es X.env:=by rfl):ZQ.QXA X (e::es) f:=⟨a6 h.p (PA.fP ha.p) he⟩
theorem _root_.Lake.ZQ.RB(C:fD X.prog X.w X.K X.mg X.base x k ps m)(hr:bh k X.A)(hg:Gl X x)(ha:ZQ.QXA X (e::es) f)
 (gi:Nd x:=by kernel_rfl) (he:Se e es X.env:=by rfl) (d!:Pn pos es X.env:=by rfl):ZQ.Qb X (.Call (.Name x p1) (e::es) [] pos) f:=⟨by
 let⟨g,fd,F,hm,hk,hb⟩:=C.ex;exact rM F hr hg hm hk hb .nil qD ha.p gi he d!⟩
section
variable{st:ι}
theorem _root_.Lake.ZQ.Ry{i:Nat}(hN:X.N.Nodup)(hi:X.N[i]?=AC x)(hx:Loc X.env.scope x)(h:ZQ.Qb X a f)(hs:Sn a x pos' pos X.env:=by rfl)(hf:Fl X x:=by trivial):ZQ.Qa X H0 (.Assign [.Name x pos'] a pos) f:=
 ⟨PS.imp (mZ hN hi hx h.p hs hf) λ D σ H q=>q.r⟩
theorem _root_.Lake.ZQ.Rz(h:ZQ.Qb X a f):ZQ.Qa X H0 (.Return (AC a) pos) f:=⟨PS.imp (BU h.p) λ D σ H q=>q.r⟩
theorem _root_.Lake.ZQ.Mi(h:ZQ.Qb X a f)(hs:swapsWith a Ch pos.line X.env=pure AT:=by rfl):ZQ.Qa X H0 (.Expr a pos) f:=⟨PS.imp (oh h.p hs) λ D σ H q=>q.r⟩
theorem _root_.Lake.ZQ.V6(hc:ZQ.QT X.fP c t)(h1:ZQ.C5 X H0 b1 xa)(h2:ZQ.C5 X H0 b2 xb):ZQ.Qa X H0 (.If c b1 b2 pos) (Z.Hl t xa xb):=⟨PS.imp (IH (PT.fP hc.p) h1.p h2.p) <|by
 rintro D σ H ⟨ρ,c,rs,ec,kw⟩;unfold Z.Hl at ec;split at ec
 .rename_i b eb;refine⟨ρ,b,rs.re,eb,λ H1 s1=>?_⟩;cases b with
  |true=>exact⟨ρ,c,rs.up s1,by simpa using ec,kw⟩
  |false=>exact⟨ρ,c,rs.up s1,by simpa using ec,kw⟩
 .cases ec⟩
theorem _root_.Lake.ZQ.V5:ZQ.Qa X H0 st Z.nP:=⟨by rintro _ _ _ _ _ _ ⟨_,_,_,e,_⟩;exact nomatch e⟩
theorem _root_.Lake.ZQ.Rx:ZQ.C5 X H0 yG Z.nP:=⟨by rintro _ _ _ _ _ _ ⟨_,_,_,e,_⟩;exact nomatch e⟩
theorem _root_.Lake.ZQ.Mh(h:ZQ.Qa X H0 st f):ZQ.C5 X H0 [st] f:=⟨og h.p⟩
theorem _root_.Lake.ZQ.Mj(h:ZQ.QXR X st f):ZQ.Zm X [st] f:=⟨og h.p⟩
theorem _root_.Lake.ZQ.HE(h1:ZQ.QS X.fP H0 st g)(x1:ZQ.Qa X H0 st xa)(x2:ZQ.C5 X H0 yG xb):ZQ.C5 X H0 (st::yG) (Z.fJ g xa xb):=⟨by
 have h1:=h1.p;have x2:=x2.p;intro χ s σ H D I h;let⟨ρ,c,rs,ec,kw⟩:=h;unfold Z.fJ at ec;split at ec
 .rename_i c' e1;cases ec;exact jA x1.p x2 χ s σ H D I ⟨ρ,c,rs,e1,kw⟩
 .split at ec
  .rename_i ρ' e2;refine jA (PS.fP h1) x2 χ s σ H D I ⟨ρ,_,rs,e2,λ σ' H' _ Dz=>⟨ρ',c,Dz,ec,kw⟩⟩
  .cases ec⟩
theorem _root_.Lake.ZQ.HF(hc:X.calm=Da)(hex:X.ex=[])(hg:Gl X x)(hcx:(⟨c.toArray⟩)=x)(xc:XC X.K c C)(xi:wcE X.K C=Da)(ha:ZQ.QE X.fP a fa)
 (gi:Nd x:=by kernel_rfl) (he:Se a [] X.env:=by rfl) (d!:(backTo iZ<|starEach (a::[]) X.env).any (·.1)=AT:=by rfl) :
 ZQ.Qa X H0 (.Raise (AC<|.Call (.Name x np) [a] [] iZ) Ch pos) (Z.wY c fa):=⟨by
 intro χ s σ H D I h;let⟨ρ,c',rs,ec,kw⟩:=h;unfold Z.wY at ec;split at ec
 .rename_i d ed;cases ec;have hm:X.mg x=AC (.ref C):=by have:=A22 I.lX (I.mod.glob.keeps I.bk) xc.1;rw[hcx]at this;exact this
  let⟨tl,ns,nm,qn,bs,hd,sn,sub,ab,col,dd,s0,s1,s2,s3,s5,hC,mN,hN,hni,T⟩:=acR I.mod.Og xi;refine wpAny_Raise_call_subT (nm:=nm) (q:=qn) (N:=ns) (bs:=bs) (bm:=tl) (hdct:=hd) (sn:=sn) (sub:=sub) (ab:=ab) (col:=col) (dd:=dd) (k0:=s0) (k1:=s1) (k2:=s2) (k3:=s3) (k5:=s5)
   F.excBase_ValueError (mN:=mN) (T.hasType F.excBase_ValueError.hasBase) (I.ok.hd hc) d! hni<|oG I hg hm ⟨rfl,?_⟩ gi
  have P:=a6 (PE.fP ha.p) bV he iZ χ s σ H (λ vs H1=>aw H H1/\vs.length=1) I ⟨ρ,d,rs.re,ed,λ v H1 s1 d1=>⟨s1,rfl⟩⟩;rw[he]at P ⊢;refine B89<|A20 P (λ us s1 ⟨vs,H1,I1,r,sm,hl⟩=>⟨rfl,?_,I1.bk _ _ hC,hN.keeps I1.bk,T.keeps I1.bk,λ h' ex hmk=>?_⟩) λ _ _ z=>z
  .skip
   rw[<-r.length,hl,A25];decide
  .let⟨J,th⟩:=Df hex I1 hmk;exact kw χ σ H1 _ ex C Ch (rs.same.trans sm) ⟨xc,rfl⟩ J th
 .cases ec⟩
end
noncomputable abbrev Fx(X:Cx)(pn:γ (δ×μ))(E:ζ->η->Prop):Cx:={X with pn:=pn,xe:=E}
noncomputable abbrev OO(X:Cx)(ev:ζ):Cx:={X with A:=X.A.mark<|some ev,calm:=AT}
theorem SE(ok:X.Ok)(pn:γ _)(E:ζ->η->Prop):(Fx X pn E).Ok:=
 ⟨ok.mod,ok.kind,ok.glob,ok.blt,ok.above,ok.inj,ok.has,ok.U4,ok.hd,ok.frames,ok.LR,ok._N,ok.bs,ok.Lq,ok.zY,ok.GC,ok.mw,ok.OV⟩
theorem SU(ok:X.Ok)(ev:ζ):(OO X ev).Ok:=
 ⟨ok.mod,ok.kind,ok.glob,ok.blt,ok.above,ok.inj,ok.has,ok.U4,λ z=>(nomatch z),ok.frames,ok.LR,ok._N,ok.bs,ok.Lq,ok.zY,ok.GC,ok.mw,ok.OV⟩
theorem Ox(I:Inv X χ σ H s)(E:ζ->η->Prop):Inv (Fx X (X.pn++χ) E) [] σ H s:=⟨SE I.ok _ E,I.os,I.bare,I.base,I.loc,I.cell,I.free,I.gq,λ p hp=>I.pin p (by simpa using hp),I.bG,I.len,I.tab⟩
theorem Cn(ok:X.Ok)(I:Inv (Fx X (X.pn++χ) E) mG σ H s):Inv X χ σ H s:=⟨ok,I.os,I.bare,I.base,I.loc,I.cell,I.free,I.gq,λ p hp=>I.pin p<|A76 _ hp,I.bG,I.len,I.tab⟩
theorem s_(o:nO (Fx X (X.pn++χ) E) mG H s a):nO X χ H s a:=⟨o.free,o.new,λ p hp=>o.pin p<|A76 _ hp,o.isr⟩
theorem BC(t:P9 (Fx X (X.pn++χ) E) mG H s e C dd):P9 X χ H s e C dd:=by
 let⟨oe,vs,he,lY,VO,hd,h1⟩:=t.ex;refine⟨s_ t.off,oe,vs,he,lY,VO,hd,?_⟩;rcases h1 with h1|⟨T,oT,ts,h1,h2,h3,h4⟩
 .exact .inl h1
 .exact .inr ⟨T,oT,ts,h1,h2,s_ h3,h4⟩
theorem Oy(I:Inv X χ σ H s)(ev:ζ):Inv (OO X ev).fP χ σ H s:=⟨(SU I.ok ev).kU _,I.os,I.bare,I.base,I.loc,I.cell,I.free,I.gq,I.pin,I.bG,I.len,I.tab⟩
theorem j3(ok:X.Ok)(I:Inv (OO X ev).fP χ σ H s):Inv X χ σ H s:=⟨ok,I.os,I.bare,I.base,I.loc,I.cell,I.free,I.gq,I.pin,I.bG,I.len,I.tab⟩
theorem JN(I:Inv X χ σ H s)(hg:Gl X x)(hm:X.mg x=AC u)(h:Q u s)
 (hd:Nd x):Ev M A (eval (.Name x pos) X.env) Q E s:=
 B76 I.ok.kind hg (Calls.loadGlobal_global (by rw[I.ok.glob];exact I.mod.glob.keeps I.bk) hm h) hd
end ZS
namespace Z
noncomputable def iC(c:Nat)(cs:γ Nat):γ Nat×γ Nat×γ Nat:=match Os ⟨cs.toArray⟩ ⟨#[c]⟩ 0 cs.length 1 with
|i::_=>(cs.take i,[c],cs.drop<|i+1)
|[]=>(cs,[],[])
def tj:D->D->Res D
|.str cs,.str [c]=>guard (cs.length<=line)<|.ok<|.tup [.str (iC c cs).1,.str (iC c cs).2.1,.str (iC c cs).2.2]
|_,_=>.bad
end Z
namespace ZS
open L2 PySem.W
theorem Ib(cs:γ Nat)(i:Nat):No ⟨cs.toArray⟩ 0 i=g? (cs.take i):=by unfold No g?;simp
theorem Ic(cs:γ Nat)(i:Nat):No ⟨cs.toArray⟩ i cs.length=g? (cs.drop i):=by unfold No g?;simp;exact B36 ∅
def WL:V->γ V->Hp->VK->Prop:=λ x vs H Q=>∃cs c,x=.str (g? cs)/\vs=[.str ⟨#[c]⟩]/\cs.length<=sizeLine/\∀q,H q=Ch->Q (.ref q) (upd H q<|.tup [.str (g? (Z.iC c cs).1),.str (g? (Z.iC c cs).2.1),.str (g? (Z.iC c cs).2.2)])
theorem NV:Vh X "str.partition" WL:=by
 intro χ s σ H x vs v us Q I rx rv h;let⟨cs,c,rfl,rfl,hl,k⟩:=h;let⟨tk,rfl⟩:=rx;let⟨u,rfl,ru⟩:=rv.one;let⟨_',rfl⟩:=ru;refine A61 F.slot_str_partition (B22 _ _ _) F.entry_str_partition (F.args_str_partition_2 _ _) (meets_str_partition _ ⟨#[c]⟩ tk _' rfl (by rw[rR];exact hl)) ?_;unfold Z.iC at k;have lm:=rR cs;rw[lm];have fin:∀a b d t1 t2 t3 kk,(∀q,H q=Ch->Q (.ref q) (upd H q<|.tup [.str (g? a),.str (g? b),.str (g? d)])) ->
  EP X χ σ Q (.ref s.heap.objs.size) {s with toks:=kk,heap:=s.heap.push {cls:=.type "tuple",data:=.seq [.str (g? a) t1,.str (g? b) t2,.str (g? d) t3].toArray}}:=λ a b d t1 t2 t3 kk q=>
  ⟨.ref _,_,I.laid (o:=.tup [.str (g? a),.str (g? b),.str (g? d)]) (λ b ob q=>f8 _ q) (M2 _) ⟨by show 3<=sizeLine;decide,_,.cons ⟨t1,rfl⟩<|.cons ⟨t2,rfl⟩<|.cons ⟨t3,rfl⟩ .nil,_,A17 _ rfl⟩,rfl,q _<|I.bG.fresh<|M2 _⟩
 cases e:IR (g? cs) ⟨#[c]⟩ 0 cs.length 1 with
 |nil=>have e':IR ⟨cs.toArray⟩ ⟨#[c]⟩ 0 cs.length 1=[]:=e;rw[e']at k;exact fin cs [] [] tk _ _ _ k
 |cons i r=>have e':IR ⟨cs.toArray⟩ ⟨#[c]⟩ 0 cs.length 1=i::r:=e;rw[e']at k;dsimp only;have a1:No (g? cs) 0 i=g? (cs.take i):=Ib cs i;have a2:No (g? cs) (i+Str.length ⟨#[c]⟩) cs.length=g? (cs.drop<|i+1):=Ic cs<|i+1;rw[a1,a2];exact fin (cs.take i) [c] (cs.drop<|i+1) _ _ _ _ k
theorem Jf(h:Z.tj x y=.ok d):∃cs c,x=.str cs/\y=.str [c]/\cs.length<=Z.line/\d=.tup [.str (Z.iC c cs).1,.str (Z.iC c cs).2.1,.str (Z.iC c cs).2.2]:=by
 unfold Z.tj at h;split at h
 .rename_i cs c;let⟨h1,h2⟩:=Z.bw h;cases h2;exact⟨cs,c,rfl,rfl,h1,rfl⟩
 .cases h
theorem _root_.Lake.ZQ.Pm(ho:ZQ.QW X o fa)(hb:ZQ.QW X b fb)
 (gZ:attributeBase o "partition" X.env (eval o X.env)=eval o X.env:=by rfl)
 (lx:((backTo p2<|starEach (b::[]) X.env).all (λ x=>!x.1)&&(backToKw p2<|keywordEach [] X.env).all (λ x=>x.1.isSome)
  && decide ((b::[]).length+([]:γ π).length+(if([]:γ π).isEmpty then 0 else 1)<30))=Da:=by rfl)
 (gW:(p1.endLine==p2.line)=Da:=by rfl) (mL:Se b [] X.env:=by rfl) (fh:Pn p2 [] X.env:=by rfl) :
 ZQ.QE X (.Call (.Attribute o "partition" p1) [b] [] p2) (Z.eB Z.tj fa fb):=
 ⟨PE.imp (sY C10 PySem.F.slot_str_partition PySem.F.type_str_partition NV ho.p (a6 hb.p bV mL) gZ lx gW mL fh) <|by rintro σ H Q ⟨ρ,d,r,e,k⟩;let⟨x,ea,e⟩:=al e;let⟨y,eb,e⟩:=al e;let⟨cs,c,rfl,rfl,hl,rfl⟩:=Jf e;refine⟨ρ,_,r,ea,λ v H1 s1 d1=>?_⟩;have d1':=d1.str;subst d1';refine⟨rfl,ρ,_,r.up s1,eb,λ u H2 s2 d2=>?_⟩;have d2':=d2.str;subst d2';refine⟨cs,c,rfl,rfl,by rw[A25];exact hl,λ q hq=>?_⟩;have s3:aw H2 (upd H2 q<|.tup [.str (g? (Z.iC c cs).1),.str (g? (Z.iC c cs).2.1),.str (g? (Z.iC c cs).2.2)]):=bT hq;exact k _ _ ((s1.trans s2).trans s3)<|eD (.inl<|.inl aA)<|aq.cons e_<|aq.cons e_<|aq.cons e_ aq.nil⟩
end ZS
namespace Z
def fF(m:Nat):γ Nat:=(Nat.toDigits 10 m).map Char.toNat
def hJ:D->Res D
|.int n=>guard (0<=n/\n<10^70)<|.ok<|.str<|fF n.toNat
|_=>.bad
theorem NJ(h:hJ x=.ok d):∃n:Nat,x=.int n/\(n:Int)<10^70/\d=.str (fF n):=by
 unfold hJ at h;split at h
 .rename_i n;let⟨h1,h2⟩:=bw h;cases h2;exact⟨_,by rw[B16 h1.1],by rw[B16 h1.1];exact h1.2,rfl⟩
 .cases h
theorem B4(n:Nat)(h:(n:Int)<10^70):hJ (.int n)=.ok (.str<|fF n):=by show guard _ _=_;rw[guard_pos ⟨Int.natCast_nonneg n,h⟩,A95]
end Z
namespace ZS
open L2 PySem.W
theorem Ph(n:Nat):EQ (toString ((n):Int))=g? (Z.fF n):=by
 have h:=KIN.signs_num n;have:(EQ _)=⟨(EQ<|toString ((n):Int)).cps⟩:=rfl;rw[this];show(⟨_⟩:Str)=⟨(Z.fF n).toArray⟩
 unfold Z.fF;rw[<-h]
theorem Tr{n:Nat}(h:(n:Int)<10^70):((n):Int).natAbs.log2<1920:=by
 rw[Int.natAbs_natCast];have h1:n<2^1920:=by
  have:n<10^70:=by exact_mod_cast h
  exact Nat.lt_trans this<|A19 (show 10^70<2^256 by decide)<|Nat.pow_le_pow_right ∅ ∅
 by_cases h0:n=0
 .subst h0;decide
 .exact(Nat.log2_lt h0).mpr h1
theorem G4:lO X (.type "str") (λ xs H Q=>∃n:Nat,xs=[.int n]/\(n:Int)<10^70/\Q (.str<|g?<|Z.fF n) H):=by intro χ s σ H xs us Q I r h;let⟨n,rfl,hn,q⟩:=h;let⟨u,rfl,ru⟩:=r.one;let⟨t,rfl⟩:=ru;refine PySem.P.str_of_int (Tr hn) ?_;refine⟨.str _,H,I.tok _,⟨s.toks,?_⟩,q⟩;rw[<-Ph]
theorem _root_.Lake.ZQ.uq{x:Str}(hm:X.mg x=Ch)(ha:ZQ.QW X a fa)(hn:x≠ "__name__":=by decide +kernel)(gi:Nd x:=by kernel_rfl)(he:Se a [] X.env:=by rfl)(d!:Pn pos [] X.env:=by rfl)(hg:Gl X x:=by rfl)(hv:bootBuiltins x=AC (.type "str"):=by kernel_rfl):ZQ.QE X (.Call (.Name x p1) [a] [] pos) (Z.eU Z.hJ fa):=
 ⟨PE.imp (lT G4 hg hm hv (a6 ha.p bV he) hn gi he d!) <|by rintro σ H Q ⟨ρ,d,r,e,k⟩;let⟨x,ea,e⟩:=al e;let⟨n,rfl,hl,rfl⟩:=Z.NJ e;refine⟨ρ,_,r,ea,λ v H1 s1 d1=>?_⟩;exact⟨n,by rw[d1.int],hl,k _ H1 s1 e_⟩⟩
end ZS
namespace ZS
open L2 PySem.W
noncomputable def rN:γ ζ->Bool
|.ref _::r=>rN r
|l=>l==[.type "ValueError",.type "Exception",.type "BaseException",.type "object"]
theorem BS(self:ζ)(e:rN l=Da):refuseLoop self "__setattr__" l=pure ()/\l.contains (.type "object")=Da/\l.isEmpty=AT:=by
 induction l with
 |nil=>cases e
 |cons a r ih=>
  unfold rN at e;split at e
  .rename_i c r' q;cases q;let⟨h1,h2,_⟩:=ih e;exact⟨by rw[refuseLoop_ref];exact h1,by rw[C16,h2,C17],rfl⟩
  .rw[A26.mp e];exact⟨PySem.F.store_ValueError.passes self,by decide +kernel,rfl⟩
structure Hh(K:Frag)(C:Addr):Prop where
 sa:findIn K (.ref C) "__setattr__"=AC (AC<|.builtin "object.__setattr__")
 mr:(clsIn K C).any (λ cd=>rN cd.mro)=Da
 hd:hasDictIn K C=Da
section
variable{K:Frag}
theorem Kt(k:Hh K C)(X:K.In s.heap)(I:InstAt s.heap x ox C od)(ht:findIn K (.ref C) name=AC Ch)
 (h:∀ b,Ev (model prog w) A.in1 (Builtin.ObjectAttr.storeInOwnDict (.ref x) (.ref C) (.str name tk) name v b)
  (λ fin s'=>match fin with| .done f=>R (.ok f) s'| .again c'=>c'.quiet=Da/\codeAny (model prog w) A c' R s') (λ e s'=>R (.error e) s') s) :
 codeAny (model prog w) A (.call (.builtin "object.__setattr__") ⟨[.ref x,.str name tk,v],[]⟩) R s:=by
 have SF:=PySem.F.store_object;let⟨cd,hc,ho⟩:=any_some k.mr;let⟨r1,r2,r3⟩:=BS (.ref x) ho;have sub:Looks (model prog w) _ (isInstance _ _) Da:=I.type.andThen<|looks_mroIn X (by unfold mroIn;rw[hc,C09,o0 (by rw[r3];decide),r2]);have hm:Looks (model prog w) _ (mroOf<|.ref C) _:=(looks_clsIn X hc).andThen .now;refine codeAny_call_builtin SF.slot.plain SF.entry<|@check_slot (model prog w) _ _ s "object.__setattr__" "object" "__setattr__" (.ref x) [.str name tk,v] [] _ SF.kind SF.split sub (SF.args (.ref x) (.str name tk) v) ?_;rw[osa_eq,refuse_eq];refine T0<|T0<|I.type.here<|T0<|hm.here ?_;rw[r1];exact P3<|T0<|I.type.here<|T0<|(looks_findIn X ht).here<|T0<|P3<|h _
theorem Ks(k:Hh K C)(X:K.In s.heap)(hx:s.heap.get? x=AC ox)(lY:ox.cls=.ref C)(hd:ox.dict=Ch)(wg:∃vs,ox.data=.fields vs)(ht:findIn K (.ref C) name=AC Ch)
 (h:∀h' dx,s.heap.objs.size<=dx->h'.get? x=AC {ox with dict:=AC dx}->h'.Ns1 dx (λ y=>if y=name then AC v else Ch)->(∀b o,b≠x->s.heap.get? b=AC o->h'.get? b=AC o)->∀tk,Q () {s with heap:=h',toks:=tk}) :
 Ev (model prog w) A (setAttr (.ref x) name v) Q E s:=by
 let⟨vs,wg⟩:=wg;have I:InstAt _ x ox C Ch:=⟨hx,lY,by unfold notCls;rw[wg],by rw[hd];trivial⟩
 refine AA5 X I k.sa<|Kt k X I ht λ b=>?_;let⟨cd,hc,pC⟩:=any_some k.hd;let⟨oc,odi,oda,yK⟩:=ox;dsimp only at lY hd wg;subst lY hd wg;have hxs:=A13<|A02 hx;have X?:(s.heap.push {cls:=.type "dict",data:=.dict #[]}).get? x=AC _:=f8 _ hx;refine T0<|P3<|T0<|T0<|wpAny_loadPart hx<|T0<|PySem.W.Looks.here (pc X hc) ?_;rw[pC];refine T0<|wpAny_alloc'<|T0<|wpAny_update' X?<|P3 ?_;have _y:((s.heap.push {cls:=.type "dict",data:=.dict #[]}).update x λ o=>{cls:=o.cls,dict:=AC s.heap.objs.size,data:=o.data,slots:=o.slots}).get? s.heap.objs.size=AC {cls:=.type "dict",data:=.dict #[]}:=
  (mo _ _ _ _ hxs.symm).trans<|Heap.get?_push_at rfl rfl
 have OG:((s.heap.push {cls:=.type "dict",data:=.dict #[]}).update x λ o=>{cls:=o.cls,dict:=AC s.heap.objs.size,data:=o.data,slots:=o.slots}).Ns s.heap.objs.size (λ _=>Ch):=⟨_,#[],_,_y,rfl,λ e he=>absurd he ∅,λ _=>rfl⟩
 refine T0<|P3<|T0<|wpAny_nsSet1 (Heap.Ns1.of_empty OG) λ h' OH Al=>?_;let⟨oD,esD,epD,hoD,hdD,hcD⟩:=OH.count (Within.cons name v Within.nil);refine T0<|wpAny_lookBehind hoD (by rw[hdD];exact pastItsLine_dict<|A11 hcD (by rw[A27,B91,A25];lia))<|P3 ?_;refine h h' s.heap.objs.size (M2 _) ((Al.2 x hxs).trans<|B13 _ X? rfl) OH (λ b o hb q=>(Al.2 b<|A13<|A02 q).trans<|(mo _ _ _ _ hb).trans<|f8 _ q) _
end
abbrev QR(e:δ)(o:μ):HO:=.ext λ h=>h.get? e=AC o
abbrev ZD(d:δ)(fs:γ (Str×V)):HO:=.ext λ h=>∃mA,h.Ns1 d mA/\(∀f,kQ (fs.lookup f) (mA f))/\Within mA (fs.map (·.1))
theorem Jc(q:h.get? e=AC o):d7 P w H h e (QR e o):=⟨q,⟨_,q⟩,λ _ _ z k=>k _ z⟩
theorem RC(q:h.Ns1 d mA)(r:∀f,kQ (fs.lookup f) (mA f))(wi:Within mA (fs.map (·.1))):d7 P w H h d (ZD d fs):=
 ⟨⟨mA,q,r,wi⟩,let ⟨o,_,_,e,_⟩:=q;⟨o,e⟩,by rintro _ _ ⟨mA,q,r⟩ k;exact⟨mA,q.at k,r⟩⟩
section
variable{σ:St}
theorem HV(I:Inv X χ σ H s)(hn:H a=Ch)(h0:X.s₀.heap.get? a=Ch)(hl:a≠X.env.locals)(hc:∀x c,X.env.cells.lookup x=AC c->c≠a)(hp:∀p∈X.pn++χ,p.1≠a)(ok:d7 X.prog X.w (upd H a o) s.heap a o):Inv X χ σ (upd H a o) s:=by
 have ne:∀b u,H b=AC u->b≠a:=λ b u q=>aT q hn;refine Ig I (λ b hb=>by rw[A15.mp hb];exact⟨h0,hl,hc,hp⟩) (λ b o _ _ _ q _=>q) (λ b o _ _ _ q _=>⟨_,q⟩)
  (λ b o hb q n=>by rw[au λ z=>hb<|A15.mpr z];exact n) (λ b o _ q=>⟨o,q⟩) (λ b xs q=>by rw[au<|ne b _ q];exact q) (λ b o u q=>by rw[au<|ne b _ q];exact q) (λ b u _ q=>by rw[au<|ne b _ q];exact q) (λ m hm=>hm) (λ b u q=>?_) I.bare
 by_cases hb:b=a
 .subst hb;rw[aA]at q;cases q;exact ok
 .rw[au hb]at q;exact(I.bG b u q).rh (λ c v _ z=>z) (λ c z=>by rw[au<|ne c _ z];exact z) (λ c xs z=>by rw[au<|ne c _ z];exact z) λ c v _ z=>by rw[au<|ne c _ z];exact z
theorem _M{a:δ}(I:Inv X χ σ H s)(h:s.heap.objs.size<=a):H a=Ch/\X.s₀.heap.get? a=Ch/\a≠X.env.locals/\(∀x c,X.env.cells.lookup x=AC c->c≠a)/\∀p∈X.pn++χ,p.1≠a:=
 ⟨I.bG.fresh h,B45<|A11 I.sz h,A45<|A19 I.lt h,λ x c e z=>by let⟨w',o,q,_⟩:=I.cell x c e;exact absurd (A02 q)<|A82.mpr<|z▸h,λ p hp z=>absurd (A02 (I.pin p hp).1)<|A82.mpr<|z▸h⟩
def tF0(C:δ)(j i:Nat)(f:Str):TS:=λ D σ H=>∃e oe v,σ[j]?=AC (AC<|.ref e)/\σ[i]?=AC (AC v)/\H e=AC (QR e oe)/\oe.cls=.ref C/\oe.dict=Ch/\(∃ws,oe.data=.fields ws) /\
 ∀dx,H dx=Ch->dx≠e->D.nx σ (upd (upd H e<|QR e {oe with dict:=AC dx}) dx<|ZD dx [(f,v)])
theorem WU(k:Hh X.K C)(ht:findIn X.K (.ref C) f=AC Ch)(ho:PE X o (mS j))(hv:PE X value (mS i))(hs:swapsWith value (AC<|.Attribute o f pos') pos.line X.env=pure AT):PS X (.Assign [.Attribute o f pos'] value pos) (tF0 C j i f):=by
 rintro χ s σ H D I ⟨e,oe,v,hj,hi,he,lY,hd,wg,q⟩;refine C36 (b! (hv χ s σ H (λ y H1=>y=v/\H1=H) I ⟨v,hi,rfl,rfl⟩) λ u s1 ⟨y,H1,I1,ry,q1,q2⟩=>b! (ho χ s1 σ H1 (λ y' H2=>y'=.ref e/\H2=H) I1 ⟨_,by rw[hj],rfl,q2⟩) ?_) hs;rintro ov s2 ⟨y',H2,I2,rx,q3,q4⟩;subst q1 q3 q4;obtain rfl:ov=Value.ref e:=rx;have hx:=(I2.bG e _ he).1;refine Ks k I2.lX hx lY hd wg ht λ h' dx Q8 Hv Q5 kp tk=>?_;have J:Inv X χ σ _ {s2 with heap:=h',toks:=tk}:=I2.write (by rw[he];exact KF) (.inl rfl) (λ b o hb z=>kp b o hb z) ⟨_,Hv⟩<|Jc Hv;have ne:=A45<|A19 (A02 hx) Q8;let⟨f1,f2,f3,f4,f5⟩:=_M I2 Q8;exact⟨σ,_,HV J (by rw[au ne];exact f1) f2 f3 f4 f5 (RC (fs:=[(f,_)]) Q5 (λ g=>by
  by_cases z:g=f
  .subst z;simp only[A71,A91,A29];exact ry
  .simp only[A71,A67.mpr z,List.lookup_nil,o0 z];trivial)<|Within.cons f u Within.nil),q dx f1 ne⟩
end
def ZN(C:δ)(fs:γ Str):Sp:=λ vs H Q _=>∃e oe as,vs=.ref e::as/\as.length=fs.length/\H e=AC (QR e oe)/\oe.cls=.ref C/\oe.dict=Ch/\(∃ws,oe.data=.fields ws) /\
 ∀dx,H dx=Ch->dx≠e->Q .non (upd (upd H e<|QR e {oe with dict:=AC dx}) dx<|ZD dx<|fs.zip as)
theorem C?:upd (upd H a o) a o'=upd H a o':=funext λ b=>by
 by_cases h:b=a
 .subst h;rw[aA,aA]
 .rw[au h,au h,au h]
section
variable{K:Frag}
theorem X8{st:ι}(k:Hh K C)(ht:findIn K (.ref C) a=AC Ch)(F:Bc K "__init__" qual st f fd)(hb:az st=[.Assign [.Attribute (.Name "self" p1) a p2] (.Name a p3) p4])
 (S:a8 ["self",a] ["self",a] (ae st)) (hv:∀x∈(["self",a]:γ Str),LG (ae st) x) (hd:Nd a) (hc:(a==("__classdict__"))=AT):d9 P w K mg base il 1 f fd ["self",a] (ZN C [a]):=by
 let⟨oc,od,kV,doc,pm,an,a9,ct,yK,rfl,lk,rT⟩:=F.ex;refine Av lk rT S (by rintro vs H Q E ⟨e,oe,as,h,hl,_⟩;subst h;simp[hl]) ?_;rintro A outer s H vs Q E hr ⟨e,oe,as,h,hl,he,h1,h2,h3,q⟩;rw[hb];refine⟨_,og<|WU (j:=0) (i:=1) k ht (sX rfl (hv _<|.head _) ∅ ∅) (sX rfl (hv _<|.tail _<|.head _) hd hc) rfl,?_⟩;subst h;cases as with|nil=>cases hl|cons v as=>obtain rfl:=A80 (show as.length=0 by simpa using hl);exact⟨e,oe,v,rfl,rfl,he,h1,h2,h3,q⟩
end
noncomputable def HG(K:Frag)(C:δ):Bool:=wcA K C λ t _=>tailIn K V! t
def LN(C:δ)(h:ν):Prop:=wcF C h λ t _=>OwnTail h V! t
theorem Y9{K:Frag}(X:K.In h)(q:HG K C=Da):LN C h:=wc8 X q λ _ _ r=>tail_of_in X r
section
variable{K:Frag}
theorem GD{os:OsState}{rest:γ ζ}(X:K.In h)(q:LN C h)(hi:findIn K (.ref C) "__init__"=AC (AC<|.ref fI))(hf:typeIn K (.ref fI)=AC (.type "function"))(lu:rest.length<=sizeLine)
 (hq:∀h' e,ii h h' e (.ref C) rest->Ev (model prog w) A (call (.ref fI)<|.ref e::rest) (λ r s'=>r=.none/\Q (.done<|.ret<|.ref e) s') E ⟨h',g,d,t,os⟩) :
 Ev (model prog w) A (Builtin.«type.__call__» ⟨.ref C::rest,[]⟩) Q E ⟨h,g,d,t,os⟩:=by
 let⟨tl,ns,nm,qn,bs,hd,sn,sub,ab,col,dd,s0,s1,s2,s3,s5,hC,T⟩:=q;have F:=C50
 repeat (first|with_reducible refine B00 hC ?_|with_reducible refine wpAny_madeBy_exc hC ?_|wp_step)
 refine codeAny_call_builtin_code (Code.quiet_builtin _ F.quiet)<|wpAny_check_new_subT F T hC<|codeAny_exc_new_subT F T hC ?_ lu;show Ev _ _ _ _ _ _;have kp:∀b o,h.get? b=AC o->((h.push {cls:=.type "tuple",data:=.seq rest.toArray}).push {cls:=.ref C,data:=.fields #[.ref h.objs.size,.none,.none,.none,.bool AT,.none]}).get? b=AC o:=λ b o z=>f8 _<|f8 _ z;have VR:=kp _ _ hC;have X1:=X.keeps kp;have Yn:((h.push {cls:=.type "tuple",data:=.seq rest.toArray}).push {cls:=.ref C,data:=.fields #[.ref h.objs.size,.none,.none,.none,.bool AT,.none]}).get? (h.objs.size+1)=AC {cls:=.ref C,data:=.fields #[.ref h.objs.size,.none,.none,.none,.bool AT,.none]}:=by heap_get
 have hcC:(Value.ref C::tl).contains (.ref C)=Da:=by simp
 unfold isInstance
 repeat (first|with_reducible refine B00 Yn ?_|(with_reducible refine C18 VR ?_;rw[hcC])|wp_step)
 show Ev _ _ (typeLookup (.ref C) _) _ _ _;refine(looks_findIn (M:=model prog w) X1 hi).at ?_;refine A55<|T0<|(bind_fn (M:=model prog w) X1 _ hf).at ?_;refine T0<|A20 (hq _ (h.objs.size+1) ⟨kp,B45<|A59 _,h.objs.size,Yn,B45<|M2 _,f8 _<|Heap.get?_push_at rfl rfl⟩) (λ r s' hr=>?_) λ _ _ x=>x;let⟨rfl,hQ⟩:=hr
 wp_walk
 exact hQ
theorem GG{rest:γ ζ}(X:K.In s.heap)(q:LN C s.heap)(hi:findIn K (.ref C) "__init__"=AC (AC<|.ref fI))(hf:typeIn K (.ref fI)=AC (.type "function"))(lu:rest.length<=sizeLine)
 (hq:∀h' e,ii s.heap h' e (.ref C) rest->Ev (model prog w) (A.under<|.builtin "type.__call__" ⟨.ref C::rest,[]⟩) (call (.ref fI)<|.ref e::rest) (λ r s'=>r=.none/\Q (.ref e) s') E {s with heap:=h'}) :
 Ev (model prog w) A (call (.ref C) rest) Q E s:=by
 let⟨h,g,d,t,os⟩:=s;dsimp only at X q hq;let⟨tl,ns,nm,qn,bs,hd,sn,sub,ab,col,dd,s0,s1,s2,s3,s5,hC,T⟩:=id q;have f1:=tc_lookup;have f2:=tc_bind<|.ref C;have hT:(⟨h,g,d,t,os⟩:η).TypeIs (.ref C) "type":=⟨_,hC,rfl⟩
 refine B03<|codeAny_of_tree ?_
 repeat (any_goals (first|assumption|with_reducible refine B00 hC ?_|wp_step))
 exact⟨rfl,codeAny_call_builtin_at (Code.quiet_builtin _ (by decide +kernel)) entry_typeCall<|wpAny_check_type_call_sub hC<|GD X q hi hf lu λ h' e hm=>hq h' e hm⟩
end
end ZS
namespace Z
noncomputable def nR(c:γ Nat)(fs:γ (γ Nat))(as:AF)(ρ:Env):ε XN:=match as ρ with
|.ok ds=>if ds.length=fs.length then AC (c,fs.zip ds)else Ch
|.bad=>Ch
end Z
namespace ZS
open L2 PySem.W
section
variable{σ:St}
theorem Mz(I:Inv X χ σ H s)(ha:H a=AC (.ext φ)):Inv X χ σ (λ b=>if b=a then Ch else H b) s:=by
 have ne:∀b u,H b=AC u->(∀φ,u≠.ext φ)->b≠a:=λ b u q z e=>by subst e;rw[ha]at q;cases q;exact z _ rfl
 have go:∀b u,H b=AC u->(∀φ,u≠.ext φ)->(λ b=>if b=a then Ch else H b) b=AC u:=λ b u q z=>by show(if b=a then Ch else H b)=_;rw[o0<|ne b u q z];exact q
 refine Ig (ch:=[]) I (λ b hb=>nomatch hb) (λ b o _ _ _ q _=>q) (λ b o _ _ _ q _=>⟨_,q⟩)
  (λ b o _ q n=>by rw[n];split<;>rfl) (λ b o _ q=>⟨o,q⟩) (λ b xs q=>go b _ q λ _ z=>nomatch z) (λ b o u q=>go b _ q λ _ z=>nomatch z) (λ b u p q=>go b _ q λ φ z=>by subst z;exact p.elim) (λ m hm=>hm) (λ b u q=>?_) I.bare
 have q:=q;split at q
 .cases q
 .exact(I.bG b u q).rh (λ c v _ z=>z) (λ c z=>go c _ z λ _ y=>nomatch y) (λ c xs z=>go c _ z λ _ y=>nomatch y) λ c v p z=>go c _ z λ φ y=>by subst y;exact p.elim
theorem M6(hex:X.ex=[])(q:LN C s.heap)(hi:findIn X.K (.ref C) "__init__"=AC (AC<|.ref f))(hf:isFn X.K (.ref f)=Da)(F:d9 X.prog X.w X.K X.mg X.base il k f fd ("self":: fs) (ZN C fs))
 (hb:Binds X.K fd ("self":: fs) []) (hr:bh (k+1) X.A) (I:Inv X χ σ H s) (r:Vals vs us) (hl:vs.length=fs.length) (hz:us.length<=100) :
 Ev (model X.prog X.w) X.A (call (.ref C) us) (λ v s'=>∃e dx od H',v=.ref e/\Inv X χ σ H' s'/\aw H H'/\H' dx=AC (.eJ od<|.xd<|fs.zip vs)/\P9 X χ H' s' e C (AC dx)/\∃t,s'.heap.get? e=AC {cls:=.ref C,dict:=AC dx,data:=.fields #[.ref t,.none,.none,.none,.bool AT,.none]}) X.xe s:=by
 refine GG I.lX q hi (A26.mp hf) (by rw[A25];lia) λ h' e hm=>?_;let⟨J,th⟩:=Df hex I hm;let⟨oe,ws,he,hc,hd,wg,_⟩:=th.ex;let⟨tt,htt,_,_⟩:=hm.there;have J2:=HV J th.off.free th.off.new (th.off.loc J) (th.off.cell J) th.off.pin<|Jc he;have Gj:ZN C fs (.ref e::vs) (upd H e<|QR e oe) (λ v H3=>v=.non/\∃dx,H dx=Ch/\dx≠e/\H3=upd (upd H e<|QR e {oe with dict:=AC dx}) dx (ZD dx<|fs.zip vs)) (λ _ _ _=>False):=
  ⟨e,oe,vs,rfl,hl,aA,hc,hd,⟨ws,wg⟩,λ dx hn ne=>⟨rfl,dx,by rw[au ne]at hn;exact hn,ne,by rw[C?]⟩⟩
 have r2:Vals (V.ref e::vs) (Value.ref e::us):=.cons rfl r;have OJ:(Value.ref e::us++[]).length=("self":: fs:γ Str).length:=by simp[<-r.length,hl]
 refine B03<|A87 (F.run _ X.stack _ _ ⟨Value.ref e::us,[]⟩ (Value.ref e::us) _ _ _ (hr.make C us []) (J2.O3.make C us []) (by have:=hb _ (Value.ref e::us) J2.lX OJ;simpa using this) r2 Gj) λ rr s' hq=>?_;cases rr with
 |error ev=>exact hq.elim
 |ok fl=>
  cases fl with
  |ret u=>
   let⟨v,H3,I3,rv,ev,dx,hn,ne,rfl⟩:=J2.after hq;subst ev;obtain⟨⟨mA,n1,rr,_⟩,⟨od,god⟩,_⟩:=(I3.bG dx _ aA)
   have hx:=(show d7 X.prog X.w _ s'.heap e (QR e {oe with dict:=AC dx})from I3.bG e _ (by rw[au<|A09 ne,aA])).1;have I4:=I3.write (o:=.eJ od (.xd<|fs.zip vs)) (t':=s'.toks) (h':=s'.heap) (by rw[aA];exact KF) (.inl rfl) (λ b o _ z=>z) ⟨_,god⟩ ⟨god,mA,n1,rr⟩;rw[C?]at I4;have I5:=Mz (a:=e) I4 (by rw[au<|A09 ne,aA]);obtain rfl:=A05 (he.symm.trans htt);cases wg;refine⟨rv,e,dx,od,_,rfl,I5,λ b o z=>?_,?_,⟨⟨?_,th.off.new,th.off.pin,_,_,hx,rfl⟩,_,_,hx,rfl,rfl,rfl,.inl rfl⟩,tt,hx⟩
   .show(if b=e then Ch else upd _ dx _ b)=_;rw[o0<|aT z th.off.free,au<|aT z hn,au<|aT z th.off.free];exact z
   .skip
    rw[o0 ne,aA]
   .skip
    rw[W1 rfl]
  |next=>exact hq.elim
  |brk=>exact hq.elim
  |cont=>exact hq.elim
theorem R4(hh:A.handled=Ch)
 (h:Ev M A x (λ v s₁=>∃e dx t,v=.ref e/\LN C s₁.heap/\s₁.heap.get? e=AC {cls:=.ref C,dict:=dx,data:=.fields #[.ref t,.none,.none,.none,.bool AT,.none]}/\E (.ref e) s₁) E s):Ev M A (raiseStmt env (AC x) Ch) Q E s:=by
 refine T0<|A20 h (λ v s₁ h₁=>?_) λ _ _ x=>x;let⟨e,dx,t,rfl,⟨tl,ns,nm,qn,bs,hd,sn,sub,ab,col,dd,s0,s1,s2,s3,s5,hC,T⟩,he,hE⟩:=h₁;have hcB:(Value.ref C::tl).contains (.type "BaseException")=Da:=by rw[C16,T.hasType C50.hasBase,C17]
 let⟨hp,g,d,tk,os⟩:=s₁
 repeat (first|with_reducible refine B00 he ?_|with_reducible refine B00 hC ?_|(with_reducible refine C18 hC ?_;rw[hcB])|wp_step)
 exact wpAny_raiseNew_none hh hE
end
structure Vm(P:Program)(w:World)(K:Frag)(mg:Str->Option Value)(base:Heap)(C:Addr)(k:Nat)(fz:List (List Nat)):Prop where
 ex:∃f fd,HG K C=Da/\keepIn K (.ref C)=Da/\findIn K (.ref C) "__init__"=AC (AC<|.ref f)/\isFn K (.ref f)=Da/\d9 P w K mg base il k f fd ("self":: fz.map λ f=>⟨f.toArray⟩) (ZN C<|fz.map λ f=>⟨f.toArray⟩)/\Binds K fd ("self":: fz.map λ f=>⟨f.toArray⟩) []
theorem sZ{K:Frag}:∀{fz:γ (γ Nat)}{ds}{vs},ds.length=fz.length->aq K H ds vs->Paired (λ(p)(q)=>p.1=⟨q.1.toArray⟩/\Den K H q.2 p.2) ((fz.map λ f=>(⟨f.toArray⟩:Str)).zip vs) (fz.zip ds)
|[],[],vs,_,d=>.nil
|f::fz,d::ds,vs,h,dd=>by let⟨v,r,rfl,d1,d2⟩:=dd;exact .cons ⟨rfl,d1⟩<|sZ (by simpa using h) d2
section
variable{H0:Hp}{pos:Pos}
theorem _root_.Lake.ZQ.E?{np iZ:Pos}(hc:X.calm=Da)(hex:X.ex=[])(hg:Gl X x)(hcx:(⟨c.toArray⟩)=x)(xc:XC X.K c C)(J:Vm X.prog X.w X.K X.mg X.base C k fz)(hr:bh (k+1) X.A)(ha:ZQ.QA X.fP (e::es) ar)(hfz:fz≠[])(L_:fz.length<=100)
 (gi:Nd x:=by kernel_rfl) (he:Se e es X.env:=by rfl) (d!:Pn iZ es X.env:=by rfl) :
 ZQ.Qa X H0 (.Raise (AC<|.Call (.Name x np) (e::es) [] iZ) Ch pos) (Z.nR c fz ar):=⟨by
 let⟨f,fd,xj,hk,hi,hf,F,hb⟩:=J.ex;intro χ s σ H D I h;let⟨ρ,c',rs,ec,kw⟩:=h;unfold Z.nR at ec;split at ec
 .rename_i ds ed;split at ec
  .rename_i hl;cases ec;have hm:X.mg x=AC (.ref C):=by have:=A22 I.lX (I.mod.glob.keeps I.bk) xc.1;rw[hcx]at this;exact this
   rw[arm_exec_Raise];refine T0<|B32<|R4 (C:=C) (I.ok.hd hc) ?_;refine T0<|A20 (A88<|oG I hg hm ?_ gi) (λ v s₃ h₃=>T0<|B32<|P3 h₃) λ _ _ x=>x;refine B20 I.ok.mod.Og hk (b! (PA.fP ha.p iZ χ s σ H (λ vs H1=>aw H H1/\aq X.K H1 ds vs) I ⟨ρ,ds,rs.re,ed,λ vs H1 s1 d1=>⟨s1,d1⟩⟩) λ us s1 ⟨vs,H1,I1,r,sm,d1⟩=>⟨I1.lX,?_⟩) he d!;have _r:vs.length=fz.length:=by rw[<-hl];exact d1.length
   refine b! (M6 hex (Y9 I1.lX xj) hi hf F hb hr I1 r (by rw[_r,A04]) (us:=us) (by rw[<-r.length,_r];exact L_)) ?_;rintro v s2 ⟨e2,dx,od,H2,hv,I2,vK,Q8,th,t,L?⟩;exact⟨e2,AC dx,t,hv,Y9 I2.lX xj,L?,kw χ σ H2 s2 e2 C (AC dx) (rs.same.trans<|sm.trans vK) ⟨xc,by
    refine⟨?_,od,_,Q8,sZ hl<|d1.up vK⟩;cases fz with
    |nil=>exact absurd rfl hfz
    |cons a l=>cases ds with
     |nil=>cases hl
     |cons b m=>exact λ z=>nomatch z⟩ I2 th⟩
  .cases ec
 .cases ec⟩
end
end ZS
namespace ZS
open L2 PySem.W
theorem _root_.Lake.ZQ.RA{i:Nat}(hN:X.N.Nodup)(hi:X.N[i]?=AC x)(hx:Loc X.env.scope x)(h:ZQ.Qb X a f)(hs:Sn a x pos' pos X.env:=by rfl)(hf:Fl X x:=by trivial):ZQ.QXR X (.Assign [.Name x pos'] a pos) f:=⟨mZ hN hi hx h.p hs hf⟩
end ZS
namespace Z
theorem wd0{p:Prop}{α:Type}{d:α}(h:Res.bad=.ok d):p:=by cases h
noncomputable def wdM{β:Type}(t:D)(f:Int->Int->γ (Sum Int<|γ Nat)->γ D->β)(b:β):β:=match t with
|.dct (.inl a::.inl k::ks) vs=>f a k ks vs
|_=>b
theorem wd1(t:D):(∃a k ks vs,t=.dct (.inl a::.inl k::ks) vs)\/∀{β:Type}(f)(b:β),wdM t f b=b:=by
 cases t with
 |dct ks vs=>cases ks with
  |nil=>exact .inr λ _ _=>rfl
  |cons a ks=>cases a with
   |inr _=>exact .inr λ _ _=>rfl
   |inl a=>cases ks with
    |nil=>exact .inr λ _ _=>rfl
    |cons k ks=>cases k with
     |inr _=>exact .inr λ _ _=>rfl
     |inl k=>exact .inl ⟨a,k,ks,vs,rfl⟩
 |_=>exact .inr λ _ _=>rfl
noncomputable def wdT{β:Type}(t:ε (ε L))(f:Int->Int->γ (Sum Int<|γ Nat)->γ D->β)(b:β):β:=match t with
|some<|some<|.bor d=>wdM d f b
|_=>b
theorem wd2(t:ε (ε L)):(∃a k ks vs,t=AC (AC<|.bor<|.dct (.inl a::.inl k::ks) vs))\/∀{β:Type}(f)(b:β),wdT t f b=b:=by
 cases t with
 |none=>exact .inr λ _ _=>rfl
 |some t=>cases t with
  |none=>exact .inr λ _ _=>rfl
  |some l=>cases l with
   |bor d=>rcases wd1 d with ⟨a,k,ks,vs,rfl⟩|h
           ·exact .inl ⟨a,k,ks,vs,rfl⟩
           ·exact .inr h
   |_=>exact .inr λ _ _=>rfl
@[simp] theorem wd3{β:Type}(f)(b:β):wdT (AC<|some<|.bor<|.dct (.inl a::.inl k::ks) vs) f b=f a k ks vs:=rfl
noncomputable def eM(kd i:Nat)(ρ:Env):Res D:=wdT ρ[i]? (λ a k ks vs=>if k=(kd:Int)then .ok (.dct (.inl a::.inl k::ks) vs)else .bad) .bad
noncomputable def fi:γ (Sum Int<|γ Nat)->γ D->γ Nat->Res D
|.inr k::ks,v::vs,f=>if k=f then .ok v else fi ks vs f
|_,_,_=>.bad
noncomputable def cR(f:γ Nat):D->Res D
|.dct (.inl _::.inl _::ks) vs=>fi ks vs f
|_=>.bad
def Gy(bs:γ Bool)(n:Nat)(b:XF)(ds:γ D):ε XN:=if ds.length=bs.length then b (startB n bs ds)else Ch
theorem wu(bs:γ Bool)(n:Nat)(b:XF)(ds:γ D)(h:ds.length=bs.length):Gy bs n b ds=b (startB n bs ds):=W1 h
inductive wW where
|nx (ρ:Env)
|rt (d:D) (ts:List D)
abbrev SM:=Env->Res wW
def ZM:ε (ε L)->D
|some<|some<|.bor d=>d
|_=>.non
def b7(ms:γ Nat)(ρ:Env):γ D:=ms.map λ i=>ZM ρ[i]?
def lr:ε L->Prop
|some<|.bor _=>True
|_=>False
def iE(ms:γ Nat):Nat->Env->Prop
|_,[]=>True
|k,x::r=>(lr x->k∈ms)/\iE ms (k+1) r
def bq(ms:γ Nat)(ρ ρ':Env):Prop:=(∀i∈ms,ρ'[i]?=ρ[i]?)/\iE ms 0 ρ'
def aE(ms:γ Nat)(g:SF)(ρ:Env):Res wW:=(g ρ).bind λ fl=>match fl with
|.nx ρ'=>guard (bq ms ρ ρ')<|.ok<|.nx ρ'
|.rt d=>.ok<|.rt d<|b7 ms ρ
|_=>.bad
def aU(a b:SM)(ρ:Env):Res wW:=(a ρ).bind λ fl=>match fl with
|.nx ρ'=>b ρ'
|o=>.ok o
noncomputable def eK(f:γ Nat)(d:D):γ (Sum Int<|γ Nat)->γ D->γ (Sum Int<|γ Nat)×γ D
|.inr k::ks,v::vs=>if k=f then(.inr k::ks,d::vs)else(.inr k::(eK f d ks vs).1,v::(eK f d ks vs).2)
|_,_=>([.inr f],[d])
noncomputable def uU(f:γ Nat)(x:D)(t:ε (ε L)):Res L:=wdT t (λ a k ks vs=>guard (k=0/\(eK f x ks vs).1=(cf.take (eK f x ks vs).1.length).map .inr)<|.ok<|.bor<|.dct (.inl a::.inl k::(eK f x ks vs).1) (eK f x ks vs).2) .bad
def mq(i:Nat)(f:γ Nat)(e:EF)(ρ:Env):Res wW:=(e ρ).bind λ d=>(uU f d ρ[i]?).bind λ l=>.ok<|.nx<|ρ.set i<|some l
noncomputable def u_(ms:γ Nat)(bs:γ Bool)(n:Nat)(b:SM)(ds:γ D):Res (D×γ D):=if ds.length=bs.length then(match b (startB n bs ds)with
|.ok<|.rt d ts=>.ok (d,ts)
|.ok<|.nx ρ=>.ok (.non,b7 ms ρ)
| _=>.bad)else .bad
theorem dX(ms:γ Nat)(bs:γ Bool)(n:Nat)(b:SM)(ds:γ D)(h:ds.length=bs.length):u_ ms bs n b ds=(match b (startB n bs ds)with
|.ok<|.rt d ts=>.ok (d,ts)
|.ok<|.nx ρ=>.ok (.non,b7 ms ρ)
| _=>.bad):=W1 h
open Classical in
def tH(m:γ D->Res (D×γ D))(ds:γ D):Res (γ D):=if h:∃fs,∀x:Nat,m (e! x 0 [] []::ds)=.ok (.non,[e! x 0 cf fs])then .ok h.choose else .bad
theorem JE(h:tH m ds=.ok fs):∀x,m (e! x 0 [] []::ds)=.ok (.non,[e! x 0 cf fs]):=by
 unfold tH at h;split at h
 .rename_i q;cases h;exact q.choose_spec
 .cases h
theorem JF(h:∀x,m (e! x 0 [] []::ds)=.ok (.non,[e! x 0 cf fs])):tH m ds=.ok fs:=by
 have q:∃fs,∀x,m (e! x 0 [] []::ds)=.ok (.non,[e! x 0 cf fs]):=⟨fs,h⟩
 unfold tH;rw[A90 q];have:=(q.choose_spec 0).symm.trans<|h 0;simp only[Res.ok.injEq,C19,true_and,A94,B34,e!,D.dct.injEq]at this;exact A12 _ this
open Classical in
def LC(f:Nat->Res Fl):Res Fl:=if h:∃d,∀x,f x=.ok (.rt d)then .ok (.rt h.choose)else .bad
theorem P5(h:LC f=.ok fl):∃d,fl=.rt d/\∀x,f x=.ok (.rt d):=by
 unfold LC at h;split at h
 .rename_i q;cases h;exact⟨_,rfl,q.choose_spec⟩
 .cases h
theorem P6(h:∀x,f x=.ok (.rt d)):LC f=.ok (.rt d):=by
 have q:∃d,∀x,f x=.ok (.rt d):=⟨d,h⟩
 unfold LC;rw[A90 q];have:=(q.choose_spec 0).symm.trans<|h 0;simp only[Res.ok.injEq,Fl.rt.injEq]at this;exact A12 (λ d=>Res.ok _) this
abbrev Qg:=Env->Res (D×Env)
def b?:γ Nat->γ D->Env->Env
|i::is,t::ts,ρ=>b? is ts<|ρ.set i<|some<|.bor t
|_,_,ρ=>ρ
def ir:Nat->γ Bool->γ Nat
|_,[]=>[]
|k,Da::bs=>k::ir (k+1) bs
|k,AT::bs=>ir (k+1) bs
abbrev i1:=ir 0 [Da,AT]
abbrev i2:=ir 0 [Da,AT,AT,Da,AT]
abbrev i3:=ir 0 [Da,AT,AT,Da,AT,AT]
noncomputable def qy:γ Bool->γ D->γ D
|true::bs,d::ds=>d::qy bs ds
|false::bs,_::ds=>qy bs ds
|_,_=>[]
def mP(f:EF)(ρ:Env):Res (D×Env):=(f ρ).bind λ d=>.ok (d,ρ)
def bB(fn:γ D->Res (D×γ D))(bs:γ Bool)(is:γ Nat)(ar:AF)(ρ:Env):Res (D×Env):=(ar ρ).bind λ ds=>guard (qy bs ds=b7 is ρ)<|(fn ds).bind λ r=>guard (r.2.length=is.length)<|.ok (r.1,b? is r.2 ρ)
def mB(op:D->D->Res D)(a b:Qg)(ρ:Env):Res (D×Env):=(a ρ).bind λ x=>(b x.2).bind λ y=>(op x.1 y.1).bind λ z=>.ok (z,y.2)
def mU(op:D->Res D)(a:Qg)(ρ:Env):Res (D×Env):=(a ρ).bind λ x=>(op x.1).bind λ z=>.ok (z,x.2)
def tI(i:Nat)(e:Qg)(ρ:Env):Res wW:=(e ρ).bind λ r=>.ok<|.nx<|r.2.set i<|some<|.val r.1
def tJ(e:Qg)(ρ:Env):Res wW:=(e ρ).bind λ r=>.ok<|.nx r.2
def oB(ms:γ Nat)(e:Qg)(ρ:Env):Res wW:=(e ρ).bind λ r=>.ok<|.rt r.1<|b7 ms r.2
def cW(ρ:Env):Res wW:=.ok<|.nx ρ
abbrev Vd:=Env->Res (Bool×Env)
def qI(t:TF)(ρ:Env):Res (Bool×Env):=(t ρ).bind λ b=>.ok (b,ρ)
def yM(e:Qg)(ρ:Env):Res (Bool×Env):=(e ρ).bind λ x=>match x.1 with
|.bl c=>.ok (c,x.2)
|_=>.bad
def kM(a b:Vd)(ρ:Env):Res (Bool×Env):=(a ρ).bind λ x=>if x.1 then b x.2 else .ok (AT,x.2)
def fR(t:Vd)(a b:SM)(ρ:Env):Res wW:=(t ρ).bind λ c=>if c.1 then a c.2 else b c.2
def xx(i:Nat)(m:γ D->Res (D×γ D))(a:EF)(r:SM)(ρ:Env):Res Fl:=(a ρ).bind λ d=>(tH m [d]).bind λ fs=>guard (iE [i] 0<|ρ.set i<|some<|.bor<|.dct [] []) (LC λ x=>(r<|ρ.set i<|some<|.bor<|e! x 0 cf fs).bind λ fl=>match fl with
|.rt d _=>.ok<|.rt d
| _=>.bad)
def jq(ms:γ Nat)(g:GF)(b:SM):γ D->Env->Res wW
|[],ρ=>.ok<|.nx ρ
| d::r,ρ=>(g d ρ).bind λ ρ1=>guard (bq ms ρ ρ1) ((b ρ1).bind λ fl=>match fl with
 |.nx ρ'=>jq ms g b r ρ'
 | .rt d ts=>.ok<|.rt d ts)
def Tp(ms:γ Nat)(it:LF)(g:GF)(b:SM)(ρ:Env):Res wW:=(it ρ).bind λ ds=>jq ms g b ds ρ
end Z
namespace ZS
open L2 PySem.W
def P!(K:Db)(H:Hp)(kd:Nat)(d:Z.D)(v:V):Prop:=∃a ks ds u,d=Z.e! a kd ks ds/\v=.ref a/\H a=AC u/\Hc K H kd ks ds u
theorem P!.b{K:Db}(h:P! K H kd d v):i5 K H d v:=by let⟨a,ks,ds,u,h⟩:=h;exact .inr ⟨a,kd,ks,ds,u,h⟩
theorem P!.up{K:Db}(h:P! K H kd d v)(e:aw H H'):P! K H' kd d v:=by let⟨a,ks,ds,u,e1,e2,q,t⟩:=h;exact⟨a,ks,ds,u,e1,e2,e _ _ q,t.ups<|jR e⟩
def tZm(K:Db)(kd:Nat)(f:Z.EF):TE:=λ σ H Q=>∃ρ d,RE K H σ ρ/\f ρ=.ok d/\∀v H',aw H H'->P! K H' kd d v->Q v H'
abbrev DM(X:Cx)(kd:Nat)(e:θ)(f:Z.EF):Prop:=PE X e<|tZm X.K kd f
structure _root_.Lake.ZQ.QM(X:Cx)(kd:Nat)(e:Expr)(f:Z.EF):Prop where p:DM X kd e f
theorem YX(h:Z.eM kd i ρ=.ok d):∃a ks vs,ρ[i]?=AC (AC<|.bor d)/\d=.dct (.inl a::.inl (kd)::ks) vs:=by
 unfold Z.eM at h;rcases Z.wd2 ρ[i]? with ⟨a,k,ks,vs,e⟩|hb
 ·rw[e]at h;by_cases hk:k=kd
  ·subst hk;have h:=(if_pos rfl).symm.trans h;cases h;exact⟨a,ks,vs,e,rfl⟩
  ·exact Z.wd0 ((if_neg hk).symm.trans h)
 ·rw[hb]at h;exact Z.wd0 h
theorem K8{K:Db}{kd:Nat}(h:i5 K H (.dct (.inl a::.inl (kd)::ks) vs) v):P! K H kd (.dct (.inl a::.inl (kd)::ks) vs) v:=by
 let⟨a',kd',ks',ds,u,e1,e2,q,t⟩:=h.e!;have:kd'=kd:=by
  injection e1 with e1 _
  injection e1 with _ e1
  injection e1 with e1 _
  injection e1 with e1
  exact(B41 e1).symm
 subst this;exact⟨a',ks',ds,u,e1,e2,q,t⟩
theorem _root_.Lake.ZQ.ui(h:PE X e (mS i)):ZQ.QM X kd e (Z.eM kd i):=⟨PE.imp h <|by rintro σ H Q ⟨ρ,d,r,e,k⟩;let⟨a,ks,vs,hi,rfl⟩:=YX e;let⟨v,h1,h2⟩:=r.get i _ hi;exact⟨v,h1,k v H (aw.refl H)<|K8 h2⟩⟩
theorem _root_.Lake.ZQ.qc(ha:ZQ.QM X kd e f)(hr:ZQ.LI X es bs g)(hs:Se e es X.env:=by rfl):ZQ.LI X (e::es) (Da::bs) (Z.ag f g):=⟨PA.imp (a6 ha.p hr.p hs) <|by rintro σ H Q ⟨ρ,ds,r,e,k⟩;let⟨x,ea,e⟩:=al e;let⟨xs,eb,e⟩:=al e;cases e;exact⟨ρ,x,r,ea,λ v H1 s1 d1=>⟨ρ,xs,r.up s1,eb,λ vs H2 s2 t=>k _ H2 (s1.trans s2) ⟨v,vs,rfl,(d1.up s2).b,t⟩⟩⟩⟩
theorem nh{a b:γ Nat}:((⟨a.toArray⟩:Str)=⟨b.toArray⟩)↔a=b:=⟨λ h=>by simpa using A12 (λ s=>s.cps.toList) h,λ h=>by rw[h]⟩
theorem ED{K:Db}{H:Hp}{f:γ Nat}{d:Z.D}:∀{ks:γ (γ Nat)}{ds:γ Z.D}{fs:γ (Str×V)},Z.fi (ks.map .inr) ds f=.ok d->fs.map (·.1)=ks.map (λ c=>(⟨c.toArray⟩:Str))->aq K H ds (fs.map (·.2))->∃v,fs.lookup ⟨f.toArray⟩=AC v/\Den K H d v
|[],ds,fs,h,_,_=>by cases h
|k::ks,[],fs,h,_,_=>by cases h
|k::ks,x::ds,[],_,h2,_=>by cases h2
|k::ks,x::ds,(n,v)::fs,h,h2,h3=>by
 simp only[v4,A94]at h2;simp only[v4,aq]at h3;let⟨v',r,e1,h4,h5⟩:=h3;cases e1;let⟨e2,h2⟩:=h2;subst e2;simp only[v4,Z.fi]at h;by_cases hk:k=f
 .subst hk;rw[W1 rfl]at h;cases h;exact⟨v,by simp[Fk],h4⟩
 .rw[o0 hk]at h;let⟨w,q1,q2⟩:=ED h h2 h5;refine⟨w,?_,q2⟩;have:((⟨f.toArray⟩:Str)==⟨k.toArray⟩)=AT:=A67.mpr λ z=>hk (nh.mp z).symm;simp only[Fk,this];exact q1
def V1(K:Db)(f:Str):Prop:=∃C,nsIn K mainGlobals "Desk"=AC (AC<|.ref C)/\findIn K (.ref C) f=AC Ch
theorem _root_.Lake.ZQ.UU(hn:V1 X.K f)(ho:ZQ.QM X 0 o fo)(hf:(⟨fc.toArray⟩)=f)(hb:attributeBase o f X.env (eval o X.env)=eval o X.env:=by rfl):ZQ.QE X (.Attribute o f pos) (Z.eU (Z.cR fc) fo):=⟨PE.imp (Sk ho.p hb) <|by
 rintro σ H Q ⟨ρ,d,r,e,k⟩;let⟨x,ea,e⟩:=al e;refine⟨ρ,x,r,ea,λ v H1 s1 d1=>?_⟩;let⟨a,ks,ds,u,rfl,rfl,q,t⟩:=d1;rcases t with⟨_,_,C,dx,fs,rfl,hC,h3,h4⟩|⟨z,_⟩
 .let⟨v,q1,q2⟩:=ED e h3 h4;let⟨C',e1,e2⟩:=hn;have:=e1.symm.trans hC.1;cases this;rw[hf]at q1;exact⟨a,C,dx,fs,v,rfl,q,hC.2,e2,q1,k v H1 s1 q2⟩
 .cases z⟩
theorem lW{fs:γ (Str×V)}(h:fs.map (·.1)=(Z.cf.take n).map (λ c=>(⟨c.toArray⟩)))(hm:Dn m):fs.lookup m=Ch:=by
 have hk:∀y∈fs.map _,(m==y)=AT:=λ y hy=>by rw[h]at hy;let⟨c,hc,rfl⟩:=v6.mp hy;have:(⟨_⟩)∈Z.cf.map (λ c=>(⟨c.toArray⟩:Str)):=v6.mpr ⟨c,B94 hc,rfl⟩;refine A67.mpr λ z=>?_;rw[<-z,<-List.contains_iff_mem,hm]at this;cases this
 clear h
 induction fs with
 |nil=>rfl
 |cons x r ih=>let⟨n,v⟩:=x;simp only[Fk,hk n ∅];exact ih λ y hy=>hk y (by simp;right;simpa using hy)
structure pA(P:Program)(w:World)(K:Db)(mg:Str->Option Value)(base:Heap)(m:Str)(k:Nat)(ps:List Str)(bs:List Bool)(fn:List Z.D->Z.Res Z.D):Prop where
 ex:∃C g fd,uI K "Desk" C/\Meth K C m g/\d9 P w K mg base il k g fd ps (BJ K bs fn)/\Binds K fd ps []
theorem _root_.Lake.ZQ.o6(C:pA X.prog X.w X.K X.mg X.base m k ps [Da] fn)(hr:bh k X.A)(ho:ZQ.QM X 0 o fo)(hf:Dn m)
 (ht:Mt o m apos [] pos pl X.env:=by rfl) :
 ZQ.QE X (.Call (.Attribute o m apos) [] [] pos) (Z.aj fn<|Z.ag fo Z.ah):=⟨by
 let⟨C,g,fd,hC,hm,F,hb⟩:=C.ex;refine PE.imp (IP ho.p hC.2 hm F hr hb .nil qD ht) ?_;rintro σ H Q ⟨ρ,d,r,e,k⟩;let⟨ds,ea,e⟩:=al e;let⟨x,ex,ea⟩:=al ea;let⟨xs,en,ea⟩:=al ea;cases en;cases ea;refine⟨ρ,x,r,ex,λ v H1 s1 d1=>?_⟩;let⟨a,ks,ds,u,rfl,rfl,q,t⟩:=id d1;rcases t with⟨_,hk,C',dx,fs,rfl,EB,h3,h4⟩|⟨z,_⟩
 .have:=EB.1.symm.trans hC.1;cases this;rw[hk]at h3;exact⟨a,dx,fs,rfl,q,lW h3 hf,[Z.e! a 0 ks ds],d,⟨_,_,rfl,d1.b,rfl⟩,e,λ v H' s2 dv=>k v H' (s1.trans s2) dv⟩
 .cases z⟩
theorem _root_.Lake.ZQ.Pp(C:pA X.prog X.w X.K X.mg X.base m k ps (Da::bs) fn)(hr:bh k X.A)(ho:ZQ.QM X 0 o fo)(hf:Dn m)(ha:ZQ.LI X (e::es) bs ar)
 (oJ:Se e es X.env:=by rfl) (d!:Pn pos es X.env:=by rfl)
 (ht:Mt o m apos (e::es) pos pl X.env:=by rfl) :
 ZQ.QE X (.Call (.Attribute o m apos) (e::es) [] pos) (Z.aj fn<|Z.ag fo ar):=⟨by
 let⟨C,g,fd,hC,hm,F,hb⟩:=C.ex;refine PE.imp (DR ho.p hC.2 hm F hr hb .nil qD ha.p oJ d! ht) ?_;rintro σ H Q ⟨ρ,d,r,e,k⟩;let⟨ds,ea,e⟩:=al e;let⟨x,ex,ea⟩:=al ea;let⟨xs,en,ea⟩:=al ea;cases ea;refine⟨ρ,x,r,ex,λ v H1 s1 d1=>?_⟩;let⟨a,ks,ds,u,rfl,rfl,q,t⟩:=id d1;rcases t with⟨_,hk,C',dx,fs,rfl,EB,h3,h4⟩|⟨z,_⟩
 .have:=EB.1.symm.trans hC.1;cases this;rw[hk]at h3;refine⟨a,dx,fs,rfl,q,lW h3 hf,ρ,xs,r.up s1,en,λ vs H2 s2 d2=>?_⟩;show BJ X.K _ fn _ H2 Q E0;rw[A48];exact⟨Z.e! a 0 ks ds::xs,d,⟨_,_,rfl,(d1.up s2).b,d2⟩,e,λ v H' s3 dv=>k v H' ((s1.trans s2).trans s3) dv⟩
 .cases z⟩
structure C7(K:Db)(m qual:Str)(st:Stmt)(ps:List Str):Prop where
 ex:∃C f fd,uI K "Desk" C/\Meth K C m f/\Bc K m qual st f fd/\Binds K fd ps []
section
variable{K:Db}
theorem pA.mk'{st:ι}(pD:bs.length=ps.length)(d:C7 K m qual st ps)(S:a8 N ps (ae st))
 (hb:∀ f a9 A outer s H E,bh k (A.deeper<|envOfC qual (ae st) s.heap.objs.size f a9) ->
  Mg (dM il P w K mg base N qual (ae st) f a9 A outer s H E).fP H (az st) b):pA P w K mg base m (k+1) ps bs (Z.Aw bs N.length b):=by
 let⟨C,f,fd,hC,hm,F,wj⟩:=d.ex;exact⟨C,f,fd,hC,hm,YL pD F S<|hb f,wj⟩
end
def Ii(K:Db)(bs:γ Bool)(m:γ Z.D->ε Z.XN):Sp:=λ vs H _ E=>∃ds c,iT K H bs ds vs/\m ds=AC c/\∀C dd H',aw H H'->vw K H' c C dd->E (.ref C) dd H'
section
variable{K:Db}
theorem acv{st:ι}{dV kV doc pm a9 ct oc:ζ}(pD:bs.length=ps.length)
 (lk:K.lookup f=AC ⟨oc,od,.func<|PySem.W.fnOf name qual (br st) (az st) (ae st) dV kV doc pm an a9 ct,yK⟩) (rT:SB K a9 qual=Da) (S:a8 N ps (ae st))
 (hb:∀ A outer s H E,bh k (A.deeper<|envOfC qual (ae st) s.heap.objs.size f a9) ->
  XSs (dM (Hk P w) P w K mg base N qual (ae st) f a9 A outer s H E) H (az st) xb):d9 P w K mg base (Hk P w) (k+1) f (PP name qual (br st) (az st) (ae st) dV kV doc pm an a9 ct) ps (Ii K bs<|Z.Gy bs N.length xb):=by
 have ψ:∀vs H Q E,Ii K bs (Z.Gy bs N.length xb) vs H Q E->vs.length=ps.length:=by rintro vs H Q E ⟨ds,d,t,e,_⟩;have:=t.length;lia
 refine Av lk rT S ψ λ A outer s H vs Q E hr h=>?_;refine⟨_,hb A outer s H E hr,?_⟩;have hl:=ψ vs H Q E h;let⟨ds,c,t,e,k⟩:=h;have d!:ps.length<=N.length:=by have:=A12 List.length S.pre;rw[A30]at this;lia
 have rs:RS K H H (L2.start N vs) (Z.startB N.length bs ds):=mV t ∅;unfold Z.Gy at e;split at e
 .exact⟨_,c,rs,e,λ χ σ H' s' a C dd sm xc I th=>F_ I th<|k C dd H' sm xc⟩
 .cases e
structure jQ(P:Program)(w:World)(K:Db)(mg:Str->Option Value)(base:Heap)(m:Str)(k:Nat)(ps:List Str)(bs:List Bool)(fx:List Z.D->Option Z.XN):Prop where
 ex:∃C g fd,uI K "Desk" C/\Meth K C m g/\d9 P w K mg base (Hk P w) k g fd ps (Ii K bs fx)/\Binds K fd ps []
theorem jQ.mk'{st:ι}(pD:bs.length=ps.length)(d:C7 K m qual st ps)(S:a8 N ps (ae st))
 (hb:∀ f a9 A outer s H E,bh k (A.deeper<|envOfC qual (ae st) s.heap.objs.size f a9) ->
  XSs (dM (Hk P w) P w K mg base N qual (ae st) f a9 A outer s H E) H (az st) xb):jQ P w K mg base m (k+1) ps bs (Z.Gy bs N.length xb):=by
 let⟨C,f,fd,hC,hm,F,wj⟩:=d.ex;let⟨oc,od,kV,doc,pm,an,a9,ct,yK,rfl,lk,rT⟩:=F.ex;exact⟨C,f,_,hC,hm,acv pD lk rT S<|hb f a9,wj⟩
end
theorem PE.aaT(h:PE X.fP e t):PE X e t:=λ χ s σ H Q I hw=>A20 (h χ s σ H Q (I.kU _) hw) (by rintro _ _ ⟨v,H',I',r,q⟩;exact⟨v,H',I'.fK,r,q⟩) λ _ _ z=>GM z
theorem WH
 (hex:X.ex=[]) (F:d9 X.prog X.w X.K X.mg X.base (Hk X.prog X.w) k g fd ps (Ii X.K bs m)) (hr:bh k X.A) (hb:Binds X.K fd ps []) (I:Inv X χ σ H s) (r:Vals vs us) (d1:iT X.K H bs ds vs) (ec:m ds=AC c) (kw:Zi X σ H c) :
 Ev (model X.prog X.w) X.A (call (.ref g) us) Q X.xe s:=by
 have Gj:Ii X.K bs m vs H (λ _ _=>False) (λ cv dd H'=>∃C,cv=.ref C/\vw X.K H' c C dd/\aw H H'):=⟨ds,c,d1,ec,λ C' dd H' s2 x2=>⟨C',rfl,x2,s2⟩⟩
 have hl:=F.len _ _ _ _ Gj;refine B03<|A87 (F.run X.A _ s H ⟨us,[]⟩ us vs _ _ hr I.O3 (by have:=hb s us I.lX (by rw[A48,<-r.length];exact hl);simpa using this) r Gj) λ rr s' hq=>?_;cases rr with
 |ok fl=>
  cases fl with
  |ret u=>let⟨v,H2,_,_,_,_,_,q⟩:=hq;exact q.elim
  |_=>exact hq.elim
 |error ev=>have hq:Hk _ X.w _ H s (λ cv dd H'=>∃C,cv=.ref C/\vw X.K H' c C dd/\aw H H') ev s':=hq;let⟨a,C',dd,H',rfl,J,th,C2,hc,x2,s2⟩:=RT hex I hq;cases hc;exact kw χ H' s' a C' dd s2 x2 J th
theorem PAF.fP(h:_0 X.fP es bs ar):_0 X es bs ar:=PA.fP h
theorem _root_.Lake.ZQ.Mm(C:jQ X.prog X.w X.K X.mg X.base m k ps (Da::bs) fx)(hr:bh k X.A)(ho:ZQ.QM X 0 o fo)(hf:Dn m)(ha:ZQ.LI X.fP (e::es) bs ar)
 (hex:X.ex=[]:=by rfl) (oJ:Se e es X.env:=by rfl) (d!:Pn pos es X.env:=by rfl)
 (ht:Mt o m apos (e::es) pos pl X.env:=by rfl) :
 ZQ.Qb X (.Call (.Attribute o m apos) (e::es) [] pos) (Z.eE fx<|Z.ag fo ar):=⟨by
 let⟨C,g,fd,hC,hm,F,hb⟩:=C.ex;intro χ s σ H Q I h;let⟨ρ,c,re,ec,kw⟩:=h;unfold Z.eE at ec;split at ec
 .rename_i ds ed;let⟨x,ex,ea⟩:=al ed;let⟨xs,en,ea⟩:=al ea;cases ea;refine B80 (b! (ho.p χ s σ H (λ v H1=>aw H H1/\P! X.K H1 0 x v) I ⟨ρ,x,re,ex,λ v H1 s1 d1=>⟨s1,d1⟩⟩) ?_) ht;rintro u s1 ⟨v,H1,I1,rx,sm,d1⟩;let⟨a,ks,ds,u',rfl,rfl,q,t⟩:=id d1;obtain rfl:u=Value.ref a:=rx;rcases t with⟨_,hk,C',dx,fs,rfl,EB,h3,h4⟩|⟨z,_⟩
  .have:=EB.1.symm.trans hC.1;cases this;rw[hk]at h3;refine nv I1 q hC.2 hm (lW h3 hf) ?_;refine B20 I.ok.mod.Og hm.kp (b! (PAF.fP ha.p pos χ s1 σ H1 (λ vs H2=>aw H1 H2/\iT X.K H2 bs xs vs) I1 ⟨ρ,xs,re.up sm,en,λ vs H2 s2 d2=>⟨s2,d2⟩⟩) λ us s2 ⟨vs,H2,I2,r,vK,d2⟩=>⟨I2.lX,?_⟩) oJ d!;exact WH (vs:=.ref a::vs) (ds:=Z.e! a 0 ks ds::xs) hex F hr hb I2 (.cons rfl r) ⟨_,_,rfl,(d1.up vK).b,d2⟩ ec<|(kw.up sm).up vK
  .cases z
 .cases ec⟩
theorem _root_.Lake.ZQ.V7(ha:ZQ.QW X.fP a fa)(hb:ZQ.Qb X b f)(hs:r8 b:=by intro _ _;rfl):ZQ.Qb X (.Subscript a b pos) (Z.ZE fa f):=⟨PE.imp (IQ JV (PE.aaT ha.p) hb.p hs) <|by
 rintro σ H Q ⟨ρ,c,re,ec,kw⟩;unfold Z.ZE at ec;split at ec
 .rename_i d ed;exact⟨ρ,d,re,ed,λ v H1 s1 d1=>⟨ρ,c,re.up s1,ec,kw.up s1⟩⟩
 .cases ec⟩
noncomputable def over(H0 H:Hp)(as:γ δ):Hp:=λ b=>if b∈as then H b else H0 b
section
variable{K:Db}
theorem b_(h:a∈as):over H0 H as a=H a:=W1 h
theorem cy(h:a∉as):over H0 H as a=H0 a:=o0 h
theorem IY(h:a∈as):over H0 (upd H a u) as=upd (over H0 H as) a u:=by
 funext b
 by_cases hb:b=a
 .subst hb;rw[b_ h,aA,aA]
 .rw[au hb];by_cases hm:b∈as
  .rw[b_ hm,b_ hm,au hb]
  .rw[cy hm,cy hm]
theorem n5(h:Z.e! a kd ks vs=Z.e! a' kd' ks' vs'):a=a'/\kd=kd'/\ks=ks'/\vs=vs':=by
 injection h with h1 h2
 injection h1 with h1 h3
 injection h3 with h3 h4
 injection h1 with h1
 injection h3 with h3
 exact⟨B41 h1,B41 h3,(sK λ x y h=>by injection h).mp h4,h2⟩
theorem gK:∀{ρ}{k i}{x},Z.iE ms k ρ->ρ[i]?=AC x->Z.lr x->k+i∈ms
|[],_,_,_,_,e,_=>by simp at e
|y::r,k,0,x,h,e,t=>by simp at e;subst e;exact h.1 t
|y::r,k,i+1,x,h,e,t=>by have:=gK h.2 (by simpa using e) t;rw[show k+(i+1)=k+1+i from by lia];exact this
theorem pW:∀{ρ}{k},(∀i x,ρ[i]?=AC x->Z.lr x->k+i∈ms)->Z.iE ms k ρ
|[],_,_=>trivial
|y::r,k,h=>⟨λ t=>h 0 y rfl t,pW λ i x e t=>by have:=h (i+1) x (by simpa using e) t;rw[show k+1+i=k+(i+1)from by lia];exact this⟩
structure RM(K:Db)(H0:Hp)(ms:List Nat)(as:List Addr)(H:Hp)(σ:St)(ρ:Z.Env):Prop where
 rs:RS K (over H0 H as) H σ ρ
 at_:Paired (λ(i:Nat)(a:Addr)=>∃kd ks vs,ρ[i]?=AC (AC<|.bor<|Z.e! a kd ks vs)) ms as
 no:Z.iE ms 0 ρ
 nd:as.Nodup
 h0:∀a∈as,H0 a=Ch
theorem dQ:∀{l}{m}{x},Paired R l m->x∈l->∃y∈m,R x y:=by
 intro l m x p h
 induction p with
 |nil=>cases h
 |cons r t ih=>
  rcases A01.mp h with rfl|h
  .exact⟨_,.head _,r⟩
  .let⟨y,h1,h2⟩:=ih h;exact⟨y,.tail _ h1,h2⟩
theorem zN(hf:∀i a b,R i a->R i b->a=b):∀{l}{m}{i j}{a},Paired R l m->m.Nodup->i∈l->j∈l->R i a->R j a->i=j:=by
 intro l m i j a p nd hi hj ri rj
 induction p with
 |nil=>cases hi
 |cons r t ih=>
  have lU:=A14.mp nd;rcases A01.mp hi with ei|x_
  .rcases A01.mp hj with ej|Ba
   .exact ei.trans ej.symm
   .let⟨z,hz,rz⟩:=dQ t Ba;subst ei;have e1:=hf _ _ _ r ri;have e2:=hf _ _ _ rz rj;subst e1;subst e2;exact absurd hz lU.1
  .rcases A01.mp hj with ej|Ba
   .let⟨z,hz,rz⟩:=dQ t x_;subst ej;have e1:=hf _ _ _ r rj;have e2:=hf _ _ _ rz ri;subst e1;subst e2;exact absurd hz lU.1
   .exact ih lU.2 x_ Ba
theorem C1{ρ:Z.Env}(i:Nat)(a b:δ)(h1:∃kd ks vs,ρ[i]?=AC (AC<|.bor<|Z.e! a kd ks vs))(h2:∃kd ks vs,ρ[i]?=AC (AC<|.bor<|Z.e! b kd ks vs)):a=b:=by
 let⟨_,_,_,h1⟩:=h1;let⟨_,_,_,h2⟩:=h2;rw[h1]at h2;injection h2 with h2;injection h2 with h2;injection h2 with h2
 exact(n5 h2).1
theorem RM._l(h:RM K H0 ms as H σ ρ)(hi:ρ[i]?=AC (AC<|.bor<|Z.e! a kd ks vs)):i∈ms:=by have:=gK h.no hi trivial;simpa using this
theorem RM.mem(h:RM K H0 ms as H σ ρ){i:Nat}(hi:ρ[i]?=AC (AC<|.bor<|Z.e! a kd ks vs)):a∈as:=by let⟨y,hy,r⟩:=dQ h.at_ (h._l hi);have:=C1 i _ _ ⟨_,_,_,hi⟩ r;subst this;exact hy
theorem RM.uniq(h:RM K H0 ms as H σ ρ){i j kd kd':Nat}(hi:ρ[i]?=AC (AC<|.bor<|Z.e! a kd ks vs))(hj:ρ[j]?=AC (AC<|.bor<|Z.e! a kd' ks' vs')):i=j:=
 zN (λ i a b=>C1 i a b) h.at_ h.nd (h._l hi) (h._l hj) ⟨_,_,_,hi⟩ ⟨_,_,_,hj⟩
theorem RM.thing(h:RM K H0 ms as H σ ρ){i:Nat}(hi:ρ[i]?=AC (AC<|.bor<|Z.e! a kd ks vs)):σ[i]?=AC (AC<|.ref a)/\∃u,H a=AC u/\Hc K H kd ks vs u:=by let⟨v,h1,h2⟩:=h.rs.re.get i _ hi;let⟨a',ks',ds,u,e1,rfl,q,t⟩:=K8 h2;let⟨rfl,_,rfl,rfl⟩:=n5 e1;exact⟨h1,u,q,t⟩
theorem Hc.mb(t:Hc K H kd ks vs u):(∀xs,u≠.tup xs)/\(∀o x,u≠.eJ o x)/\∀xs,u≠.lst xs:=by
 rcases t with⟨_,_,C,dx,fs,rfl,_⟩|⟨_,aO,rfl,_⟩
 .exact⟨λ _ z=>(nomatch z),λ _ _ z=>(nomatch z),λ _ z=>(nomatch z)⟩
 .exact⟨λ _ z=>(nomatch z),λ _ _ z=>(nomatch z),λ _ z=>(nomatch z)⟩
theorem RM.write(h:RM K H0 ms as H σ ρ)(hi:ρ[i]?=AC (AC<|.bor<|Z.e! a kd ks vs))(t:Hc K (upd H a u') kd' ks' vs' u'):
 gv H (upd H a u')/\RM K H0 ms as (upd H a u') σ (ρ.set i<|some<|.bor<|Z.e! a kd' ks' vs'):=by
 have ha:=h.mem hi;let⟨hs,u,hu,t0⟩:=h.thing hi;have st:gv H (upd H a u'):=lR hu t0.mb.1 t0.mb.2.1;have ou:over H0 H as a=AC u:=by rw[b_ ha];exact hu
 have LS:gv (over H0 H as) (upd (over H0 H as) a u'):=lR ou t0.mb.1 t0.mb.2.1;have Am:=(A03.mp hi).1;have bor:∀{j}{d}{v}{G},i≠j->ρ[j]?=AC (AC<|.bor d)->gv G (upd G a u')->G a=AC u->i5 K G d v->i5 K (upd G a u') d v:=λ {j d v G} hj e sg ga hb=>by
  rcases hb with(hb|⟨ds,q,ws,e1,e2,q1,t1⟩)|⟨a2,XX,XT,ds2,u2,e1,e2,q2,t2⟩
  .exact .inl<|.inl<|hb.ups sg
  .have:q≠a:=by rintro rfl;rw[ga]at q1;exact t0.mb.2.2 _<|A05 q1
   exact .inl<|.inr ⟨ds,q,ws,e1,e2,by rw[au this];exact q1,t1.ups sg⟩
  .have:a2≠a:=by rintro rfl;rw[e1]at e;exact hj<|h.uniq hi e
   exact .inr ⟨a2,XX,XT,ds2,u2,e1,e2,by rw[au this];exact q2,t2.ups sg⟩
 have own:∀{q},over H0 H as q=Ch->q≠a:=λ e z=>by rw[z,ou]at e;cases e
 refine⟨st,⟨?_,?_,?_,h.nd,h.h0⟩⟩
 .rw [IY ha];refine⟨λ b o e=>?_,⟨by simp[h.rs.re.len],λ j l e=>?_,λ j k xs ys q e1 e2 e3 e4=>?_⟩,λ j xs q e1 e2=>?_,λ j d e1=>?_,?_⟩
  .by_cases hb:b=a
   .subst hb;rw[aA]at e ⊢;exact e
   .rw[au hb]at e ⊢;exact h.rs.same b o e
  .rcases aC e with⟨rfl,hl,e⟩|⟨hj,e⟩
   .cases e;exact⟨.ref a,hs,.inr ⟨a,kd',ks',vs',u',rfl,rfl,aA,t⟩⟩
   .let⟨v,e1,r⟩:=h.rs.re.get j l e;refine⟨v,e1,?_⟩;cases l with
    |val d=>exact Den.ups (r) st
    |own zs=>let⟨q',ws,rfl,fE,t'⟩:=r;exact⟨q',ws,rfl,by rw[au<|own<|h.rs.fresh j zs q' e e1];exact fE,t'.ups st⟩
    |bor d=>exact bor hj e st hu r
    |dc ks=>let⟨q',vt,rfl,fE,t'⟩:=r;exact⟨q',vt,rfl,by rw[au<|own<|h.rs.yO.2 j ks q' e e1];exact fE,t'.ups st⟩
    |Kq ks=>let⟨q',o',vt,rfl,fE,t'⟩:=r;exact⟨q',o',vt,rfl,st.eJ _ _ _ fE,t'.ups st⟩
    |TM ps=>let⟨q',o',rfl,fE⟩:=r;exact⟨q',o',rfl,st.eJ _ _ _ fE⟩
    |exc c=>let⟨q',o',u',C',rfl,fE,r1,r2,r3⟩:=r;exact⟨q',o',u',C',rfl,st.eJ _ _ _ fE,r1,r2,r3.ups st⟩
  .rcases aC e1 with⟨_,_,e⟩|⟨_,e1⟩
   .cases e
   .rcases aC e2 with⟨_,_,e⟩|⟨_,e2⟩
    .cases e
    .exact h.rs.re.sep j k xs ys q e1 e2 e3 e4
  .rcases aC e1 with⟨_,_,e⟩|⟨_,e1⟩
   .cases e
   .have:=h.rs.fresh j xs q e1 e2;rw[au<|own this];exact this
  .rcases aC e1 with⟨rfl,_,e⟩|⟨hj,e9⟩
   .cases e;exact⟨.ref a,hs,.inr ⟨a,kd',ks',vs',u',rfl,rfl,aA⟩⟩
   .let⟨v,q1,q2⟩:=h.rs.ph j d e9;refine⟨v,q1,?_⟩;rcases q2 with(hb|⟨ds,q,ws,g1,g2,q1,t1⟩)|⟨a2,XX,XT,ds2,u2,g1,g2,q2⟩
    .exact .inl<|.inl<|hb.ups LS
    .have:q≠a:=by rintro rfl;rw[ou]at q1;exact t0.mb.2.2 _<|A05 q1
     exact .inl<|.inr ⟨ds,q,ws,g1,g2,by rw[au this];exact q1,t1.ups LS⟩
    .have:a2≠a:=by rintro rfl;rw[g1]at e9;exact hj<|h.uniq hi e9
     exact .inr ⟨a2,XX,XT,ds2,u2,g1,g2,by rw[au this];exact q2⟩
  .refine⟨λ j k ks ls q e1 e2 e3 e4=>?_,λ j ks q e1 e2=>?_⟩
   .rcases aC e1 with⟨_,_,e⟩|⟨_,e1⟩
    .cases e
    .rcases aC e2 with⟨_,_,e⟩|⟨_,e2⟩
     .cases e
     .exact h.rs.yO.1 j k ks ls q e1 e2 e3 e4
   .rcases aC e1 with⟨_,_,e⟩|⟨_,e1⟩
    .cases e
    .have:=h.rs.yO.2 j ks q e1 e2;rw[au<|own this];exact this
 .refine Paired.JC h.at_ λ j b hj=>?_;let⟨XX,XT,ZF,hj⟩:=hj;by_cases rS:i=j
  .subst rS;rw[hi]at hj;injection hj with hj;injection hj with hj;injection hj with hj
   let⟨rfl,_⟩:=n5 hj;exact⟨kd',ks',vs',A41 Am⟩
  .exact⟨XX,XT,ZF,by rw[A33 rS];exact hj⟩
 .refine pW λ j x e tx=>?_;by_cases rS:i=j
  .subst rS;rw[A96];exact h._l hi
  .rw[A33 rS]at e;exact gK h.no e tx
theorem RM.tracked(h:RM K H0 ms as H σ ρ)(ha:a∈as):∃u,H a=AC u:=by
 have key:∀{l}{m},Paired (λ(i:Nat)(a)=>∃kd ks vs,ρ[i]?=AC (AC<|.bor<|Z.e! a kd ks vs)) l m->a∈m->∃u,H a=AC u:=by
  intro l m p
  induction p with
  |nil=>intro h;simp at h
  |cons r t ih=>
   intro hm;rcases A01.mp hm with rfl|hm
   .let⟨_,_,_,hi⟩:=r;let⟨_,u,q,_⟩:=h.thing hi;exact⟨u,q⟩
   .exact ih hm
 exact key h.at_ ha
theorem RM.same(h:RM K H0 ms as H σ ρ):aw H0 H:=λ b o e=>h.rs.same b o (by rw[cy λ z=>by rw[h.h0 b z]at e;cases e];exact e)
theorem RM.vQ(h:RM K H0 ms as H σ ρ)(s:∀a∈as,H' a=H a):over H0 H' as=over H0 H as:=by
 funext b
 by_cases hb:b∈as
 .rw[b_ hb,b_ hb,s b hb]
 .rw[cy hb,cy hb]
theorem RM.up(h:RM K H0 ms as H σ ρ)(s:aw H H'):RM K H0 ms as H' σ ρ:=by
 have e:=h.vQ λ a ha=>by let⟨u,q⟩:=h.tracked ha;rw[q];exact s _ _ q
 refine⟨?_,h.at_,h.no,h.nd,h.h0⟩;rw[e];exact h.rs.up s
def xp:ε HO->Prop
|some<|.tup _=>True
|some<|.eJ _ _=>True
|_=>False
open Classical in
noncomputable def ov(H0 H:Hp)(as:γ δ):Hp:=λ b=>if b∈as\/xp (H b)then H b else H0 b
theorem IZ(h:a∈as):ov H0 H as a=H a:=W1<|.inl h
theorem BZ(h:xp (H b)):ov H0 H as b=H b:=W1<|.inr h
theorem FN(h:b∉as)(n:¬xp (H b)):ov H0 H as b=H0 b:=o0 λ z=>z.elim h n
theorem RM.ovR(h:RM K H0 ms as H σ ρ):RS K (ov H0 H as) H σ ρ:=by
 have sm:aw (over H0 H as) (ov H0 H as):=λ b o e=>by
  by_cases hb:b∈as
  .rw[b_ hb]at e;rw[IZ hb];exact e
  .rw[cy hb]at e;by_cases hs:xp (H b)
   .rw[BZ hs];exact h.same b o e
   .rw[FN hb hs];exact e
 have non:∀{q}{u},over H0 H as q=Ch->H q=AC u->¬xp _->ov H0 H as q=Ch:=λ {q u} e hq n=>by
  have hb:q∉as:=λ z=>by rw[b_ z,hq]at e;cases e
  rw[FN hb (by rw[hq];exact n)];rw[cy hb]at e;exact e
 refine⟨λ b o e=>?_,h.rs.re,λ i xs q e1 e2=>?_,λ i d e1=>?_,⟨h.rs.yO.1,λ i ks q e1 e2=>?_⟩⟩
 .by_cases hb:b∈as\/xp (H b)
  .rcases hb with hb|hb
   .rw[IZ hb]at e;exact e
   .rw[BZ hb]at e;exact e
  .rw[FN (λ z=>hb<|.inl z) λ z=>hb<|.inr z]at e;exact h.same b o e
 .let⟨v,h1,a,vs,e,h2,_⟩:=h.rs.re.get i _ e1;rw[e2]at h1;cases h1;cases e;exact non (h.rs.fresh i xs _ e1 e2) h2 λ z=>z
 .let⟨v,h1,h2⟩:=h.rs.ph i d e1;refine⟨v,h1,?_⟩;rcases h2 with h2|⟨a,kd,ks,ds,u,g1,g2,g3⟩
  .exact .inl<|h2.up sm
  .exact .inr ⟨a,kd,ks,ds,u,g1,g2,sm _ _ g3⟩
 .let⟨v,h1,a,vt,e,h2,_⟩:=h.rs.re.get i _ e1;rw[e2]at h1;cases h1;cases e;refine non (h.rs.yO.2 i ks _ e1 e2) h2 λ z=>?_;cases ks<;>exact z
theorem Sq(s:aw (ov H0 H as) H'):gv H H':=⟨λ b xs e=>s _ _ (by rw[BZ (by rw[e];trivial)];exact e),λ b o x e=>s _ _ (by rw[BZ (by rw[e];trivial)];exact e)⟩
theorem da:∀{l}{m},Paired R l m->(∀x∈l,∀y,R x y->S x y)->Paired S l m:=by
 intro l m p f
 induction p with
 |nil=>exact .nil
 |cons r t ih=>exact .cons (f _ (.head _) _ r)<|ih λ x hx=>f x<|.tail _ hx
theorem RM.back(h:RM K H0 ms as H σ ρ)(kt:Z.bq ms ρ ρ')(r:RS K (ov H0 H as) H' σ' ρ'):RM K H0 ms as H' σ' ρ':=by
 have ha:∀a∈as,H' a=H a:=λ a z=>by let⟨u,q⟩:=h.tracked z;rw[q];exact r.same _ _ (by rw[IZ z];exact q)
 have e:=h.vQ ha;have at':Paired (λ(i)(a)=>∃kd ks vs,ρ'[i]?=AC _) ms as:=da h.at_ <|by rintro i hi a ⟨kd,ks,vs,q⟩;exact⟨kd,ks,vs,by rw[kt.1 i hi];exact q⟩
 have down:∀{q},ov H0 H as q=Ch->over H0 H as q=Ch:=λ {q} z=>by
  by_cases hb:q∈as
  .rw[IZ hb]at z;rw[b_ hb];exact z
  .rw[cy hb];by_cases hs:xp (H q)
   .rw[BZ hs]at z;rw[z]at hs;exact hs.elim
   .rw[FN hb hs]at z;exact z
 refine⟨?_,at',kt.2,h.nd,h.h0⟩;rw[e];refine⟨λ b o q=>?_,r.re,λ i xs q e1 e2=>down<|r.fresh i xs q e1 e2,λ i d e1=>?_,⟨r.yO.1,λ i ks q e1 e2=>down<|r.yO.2 i ks q e1 e2⟩⟩
 .by_cases hb:b∈as
  .rw[b_ hb]at q;rw[ha b hb];exact q
  .rw[cy hb]at q;refine r.same b o ?_;by_cases hs:xp (H b)
   .rw[BZ hs];exact h.same b o q
   .rw[FN hb hs];exact q
 .let⟨v,h1,h2⟩:=r.ph i d e1;have hi:i∈ms:=by have:=gK kt.2 e1 trivial;simpa using this
  let⟨a,hm,kd,ks,vs,q⟩:=dQ at' hi;rw[e1]at q;injection q with q;injection q with q;injection q with q
  subst q;refine⟨v,h1,?_⟩;rcases h2 with h2|⟨a',kd',ks',ds,u,g1,g2,g3⟩
  .let⟨_,_,_,_,_,_,_,n⟩:=h2.dct;exact absurd rfl<|n _ _
  .let⟨rfl,rfl,rfl,rfl⟩:=n5 g1;let⟨u',q'⟩:=h.tracked hm;exact .inr ⟨a,kd,ks,vs,u',rfl,g2,by rw[b_ hm];exact q'⟩
def TH(K:Db)(H:Hp)(as:γ δ)(ts:γ Z.D):Prop:=Paired (λ(a:δ)(t:Z.D)=>∃kd ks vs u,t=Z.e! a kd ks vs/\H a=AC u/\Hc K H kd ks vs u) as ts
theorem RM._!(h:RM K H0 ms as H σ ρ):TH K H as (Z.b7 ms ρ):=by
 have key:∀{l}{m},Paired (λ(i)(a)=>∃kd ks vs,ρ[i]?=AC (AC<|.bor<|Z.e! a kd ks vs)) l m->TH K H m (Z.b7 l ρ):=by
  intro l m p
  induction p with
  |nil=>exact .nil
  |cons r t ih=>let⟨kd,ks,vs,hi⟩:=r;let⟨_,u,q,th⟩:=h.thing hi;exact .cons ⟨kd,ks,vs,u,by show Z.ZM _=_;rw[hi];rfl,q,th⟩ ih
 exact key h.at_
theorem TH.ups(h:TH K H as ts)(s:∀a∈as,H' a=H a)(st:gv H H'):TH K H' as ts:=da h <|by rintro a ha t ⟨kd,ks,vs,u,e,q,th⟩;exact⟨kd,ks,vs,u,e,by rw[s a ha];exact q,th.ups st⟩
end
def _K(K:Db)(H0:Hp)(ms:γ Nat)(as:γ δ)(H:Hp)(D:Ends):Z.wW->Prop
|.nx ρ'=>∀σ' H',gv H H'->RM K H0 ms as H' σ' ρ'->D.nx σ' H'
|.rt d ts=>∀v H',aw H0 H'->TH K H' as ts->Den K H' d v->D.rt v H'
def tM(K:Db)(H0:Hp)(ms:γ Nat)(as:γ δ)(g:Z.SM):TS:=λ D σ H=>∃ρ fl,RM K H0 ms as H σ ρ/\g ρ=.ok fl/\_K K H0 ms as H D fl
abbrev MS(X:Cx)(H0:Hp)(ms:γ Nat)(as:γ δ)(st:ι)(g:Z.SM):Prop:=PS X st<|tM X.K H0 ms as g
structure _root_.Lake.ZQ.HC(X:Cx)(H0:Hp)(ms:List Nat)(as:List Addr)(st:Stmt)(g:Z.SM):Prop where p:MS X H0 ms as st g
abbrev Zr(X:Cx)(H0:Hp)(ms:γ Nat)(as:γ δ)(st:γ ι)(g:Z.SM):Prop:=qp X st<|tM X.K H0 ms as g
structure _root_.Lake.ZQ.nM(X:Cx)(H0:Hp)(ms:List Nat)(as:List Addr)(st:List Stmt)(g:Z.SM):Prop where p:Zr X H0 ms as st g
theorem _K.up{K:Db}(h:_K K H0 ms as H D fl)(e:gv H H1):_K K H0 ms as H1 D fl:=by
 cases fl with
 |nx ρ'=>exact λ σ' H' s r=>h σ' H' (e.trans s) r
 |rt d ts=>exact h
section
variable{st:ι}
theorem gL(h:∀H1,DS X H1 st g):MS X H0 ms as st (Z.aE ms g):=by
 intro χ s σ H D I w;let⟨ρ,fl,rm,e,k⟩:=w;let⟨f1,e1,e⟩:=al e;refine h _ χ s σ H D I ⟨ρ,f1,rm.ovR,e1,?_⟩;cases f1 with
 |nx ρ'=>let⟨kt,e⟩:=Z.bw e;cases e;exact λ σ' H' st r=>k σ' H' st<|rm.back kt r
 |rt d=>
  cases e;intro v H' sm dv;have ha:∀a∈as,H' a=H a:=λ a z=>by let⟨u,q⟩:=rm.tracked z;rw[q];exact sm _ _ (by rw[IZ z];exact q)
  refine k v H' (λ b o q=>?_) (rm._!.ups ha<|Sq sm) dv;refine sm b o ?_;have nb:b∉as:=λ z=>by rw[rm.h0 b z]at q;cases q
  by_cases hs:xp (H b)
  .rw[BZ hs];exact rm.same b o q
  .rw[FN nb hs];exact q
 |bk _=>cases e
 |ct _=>cases e
theorem _root_.Lake.ZQ.lV(h:ZQ.HC X H0 ms as st g):ZQ.nM X H0 ms as [st] g:=⟨og h.p⟩
theorem _root_.Lake.ZQ.fQ(h1:ZQ.HC X H0 ms as st g)(h2:ZQ.nM X H0 ms as yG u):ZQ.nM X H0 ms as (st::yG) (Z.aU g u):=⟨qp.imp (jA h1.p h2.p) <|by
 rintro D σ H ⟨ρ,fl,rs,e,k⟩;let⟨f1,e1,e⟩:=al e;refine⟨ρ,f1,rs,e1,?_⟩;cases f1 with
 |nx ρ'=>exact λ σ' H' s r=>⟨ρ',fl,r,e,k.up s⟩
 |rt d ts=>cases e;exact k⟩
theorem Dw{K:Db}{H:Hp}{f:γ Nat}{d:Z.D}{y:V}(hd:Den K H d y):∀{ks:γ (γ Nat)}{ds:γ Z.D}{fs:γ (Str×V)},fs.map (·.1)=ks.map (λ c=>(⟨c.toArray⟩:Str))->aq K H ds (fs.map (·.2)) ->
 ∃ks':γ (γ Nat),(Z.eK f d (ks.map .inr) ds).1=ks'.map .inr/\(jW ⟨f.toArray⟩ y fs).map (·.1)=ks'.map (λ c=>(⟨c.toArray⟩:Str))/\aq K H (Z.eK f d (ks.map .inr) ds).2 ((jW ⟨f.toArray⟩ y fs).map (·.2))
|[],ds,fs,h2,h3=>by
 have:fs=[]:=by simpa using h2
 subst this;refine⟨[f],?_,rfl,?_⟩
 .cases ds<;>rfl
 .have:(Z.eK f d ([].map .inr) ds).2=[d]:=by cases ds<;>rfl
  rw[this];exact aq.cons hd aq.nil
|k::ks,ds,[],h2,_=>by cases h2
|k::ks,[],(n,v)::fs,_,h3=>by simp only[v4,aq]at h3;cases h3
|k::ks,x::ds,(n,v)::fs,h2,h3=>by
 simp only[v4,A94]at h2;simp only[v4,aq]at h3;let⟨v',r,e1,h4,h5⟩:=h3;cases e1;let⟨e2,h2⟩:=h2;subst e2;simp only[v4,Z.eK,jW];by_cases hk:k=f
 .subst hk;rw[W1 rfl,W1 rfl];exact⟨k::ks,rfl,by simp[h2],aq.cons hd h5⟩
 .rw[o0 hk,o0 λ z=>hk<|nh.mp z];let⟨ks',q1,q2,q3⟩:=Dw hd h2 h5;exact⟨k::ks',by simp[q1],by simp[q2],aq.cons h4 q3⟩
theorem M0(h:Z.uU f x t=.ok l):∃a ks vs,t=AC (AC<|.bor<|.dct (.inl a::.inl 0::ks) vs)/\(Z.eK f x ks vs).1=(Z.cf.take (Z.eK f x ks vs).1.length).map .inr/\l=.bor (.dct (.inl a::.inl 0::(Z.eK f x ks vs).1) (Z.eK f x ks vs).2):=by
 unfold Z.uU at h;rcases Z.wd2 t with ⟨a,k,ks,vs,rfl⟩|hb
 ·let⟨⟨rfl,q⟩,h⟩:=Z.bw h;cases h;exact⟨a,ks,vs,rfl,q,rfl⟩
 ·rw[hb]at h;exact Z.wd0 h
theorem RM.tagged{K:Db}(h:RM K H0 ms as H σ ρ){i:Nat}(hi:ρ[i]?=AC (AC<|.bor d)):∃a kd ks vs,d=Z.e! a kd ks vs:=by
 have hm:i∈ms:=by have:=gK h.no hi trivial;simpa using this
 let⟨a,_,kd,ks,vs,q⟩:=dQ h.at_ hm;rw[hi]at q;injection q with q;injection q with q;injection q with q
 exact⟨a,kd,ks,vs,q⟩
theorem _root_.Lake.ZQ.Tc(hn:V1 X.K f)(ho:PE X o (mS i))(he:ZQ.QE X value fe)(hf:(⟨fc.toArray⟩)=f)(hs:swapsWith value (AC<|.Attribute o f pos') pos.line X.env=pure AT:=by rfl):
 ZQ.HC X H0 ms as (.Assign [.Attribute o f pos'] value pos) (Z.mq i fc fe):=⟨PS.imp (R! ho he.p hs) <|by
 rintro D σ H ⟨ρ,fl,rm,e,k⟩;let⟨d,ed,e⟩:=al e;let⟨l,el,e⟩:=al e;cases e;refine⟨ρ,d,rm.rs.re,ed,λ y H1 s1 dy=>?_⟩;have pB:=rm.up s1;let⟨a0,XU,vs,hi,hk,rfl⟩:=M0 el;let⟨a,kd,ks,vs',e1⟩:=pB.tagged hi;injection e1 with e1 e2
 injection e1 with e1 e3
 injection e3 with e3 e4
 injection e1 with e1
 injection e3 with e3
 subst e1 e2 e4;have:=(B41 e3.symm)
 subst this;have x_:=hi;let⟨Gm,u,hu,th⟩:=pB.thing x_;rcases th with⟨_,hks,C,dx,fs,rfl,hC,h3,h4⟩|⟨z,_⟩
 .let⟨C',g1,g2⟩:=hn;have:=g1.symm.trans hC.1;cases this;have hl:fs.length<1000:=by
   have q1:fs.length=ks.length:=by simpa using A12 List.length h3
   have q2:ks.length<=4:=by
    have:=A12 List.length hks;rw[A30]at this;have:ks.length<=Z.cf.length:=by lia
    exact this
   lia
  let⟨ks',q1,q2,q3⟩:=Dw (f:=fc) dy h3 h4;have Ho:gv H1 (upd H1 a<|.ins C dx<|jW f y fs):=lR hu (λ _ z=>nomatch z) λ _ _ z=>nomatch z;rw[q1]at hk;rw[hf]at q2 q3;have VM:ks'=Z.cf.take ks'.length:=by rw[A04]at hk;exact(sK λ x y h=>by injection h).mp hk
  let⟨st,A?⟩:=pB.write x_ (.inl ⟨rfl,VM,C,dx,_,rfl,hC,q2,q3.ups Ho⟩);refine⟨.ref a,Gm,a,C,dx,fs,rfl,hu,hC.2,g2,hl,k σ _ ((jR s1).trans st) ?_⟩;rw[q1];exact A?
 .cases z⟩
end
def wipe(H:Hp)(as:γ δ):Hp:=λ b=>if b∈as then Ch else H b
theorem FL:over (wipe H as) H as=H:=by
 funext b
 by_cases hb:b∈as
 .rw[b_ hb]
 .rw[cy hb];exact o0 hb
def Qu(K:Db)(ms:γ Nat)(bs:γ Bool)(n:Nat)(fn:γ Z.D->Z.Res (Z.D×γ Z.D)):Sp:=λ vs H Q _=>∃ds as d ts,iT K H bs ds vs/\as.Nodup/\Paired (λ(i:Nat)(a:δ)=>∃kd ks vs,(Z.startB n bs ds)[i]?=AC (AC<|.bor<|Z.e! a kd ks vs)) ms as/\Z.iE ms 0 (Z.startB n bs ds) /\
 fn ds=.ok (d,ts)/\∀v H',aw (wipe H as) H'->TH K H' as ts->Den K H' d v->Q v H'
section
variable{K:Db}
theorem Ur{st:ι}(pD:bs.length=ps.length)(F:Bc K x qual st f fd)(S:a8 N ps (ae st))
 (hb:∀ a9 A outer s H H0 as E,bh k (A.deeper<|envOfC qual (ae st) s.heap.objs.size f a9) ->
  Zr (dM il P w K mg base N qual (ae st) f a9 A outer s H E).fP H0 ms as (az st) b):d9 P w K mg base il (k+1) f fd ps (Qu K ms bs N.length<|Z.u_ ms bs N.length b):=by
 have ψ:∀vs H Q E,Qu K ms bs N.length (Z.u_ ms bs N.length b) vs H Q E->vs.length=ps.length:=by rintro vs H Q E ⟨ds,as,d,ts,t,_⟩;have:=t.length;lia
 refine F.ok S ψ λ a9 A outer s H vs Q E hr h=>?_;have hl:=ψ vs H Q E h;let⟨ds,as,d,ts,t,nd,hat,Hx,e,k⟩:=h;refine⟨_,hb a9 A outer s H (wipe H as) as E hr,?_⟩;have d!:ps.length<=N.length:=by have:=A12 List.length S.pre;rw[A30]at this;lia
 have rs:RS K H H (L2.start N vs) (Z.startB N.length bs ds):=mV t ∅;have rm:RM K (wipe H as) ms as H (L2.start N vs) (Z.startB N.length bs ds):=⟨by rw[FL];exact rs,hat,Hx,nd,λ a ha=>W1 ha⟩
 unfold Z.u_ at e;split at e
 .cases eb:b (Z.startB N.length bs ds)with
  |bad=>rw[eb]at e;cases e
  |ok fl=>
   rw[eb]at e;refine⟨_,fl,rm,eb,?_⟩;cases fl with
   |rt d' RQ=>cases e;exact λ v H' s' th dv=>k v H' s' th dv
   |nx ρ'=>cases e;exact λ σ' H' _ rm'=>k .non H' rm'.same rm'._! ka
 .cases e
end
structure Vl(K:Db)(st:Stmt)(ps:List Str):Prop where
 ex:∃C f fd,uI K "Desk" C/\Mk K C f/\Bc K "__init__" "Desk.__init__" st f fd/\Binds K fd ps []
structure Hj(P:Program)(w:World)(K:Db)(mg:Str->Option Value)(base:Heap)(k:Nat)(ps:List Str)(n:Nat)(fn:List Z.D->Z.Res (Z.D×List Z.D)):Prop where
 ex:∃C f fd,uI K "Desk" C/\Mk K C f/\d9 P w K mg base il k f fd ps (Qu K [0] [Da,AT] n fn)/\Binds K fd ps []
section
variable{K:Db}
theorem Hj.mk'{st:ι}(pD:ps.length=2)(d:Vl K st ps)(S:a8 N ps (ae st))
 (hb:∀ f a9 A outer s H H0 as E,bh k (A.deeper<|envOfC "Desk.__init__" (ae st) s.heap.objs.size f a9) ->
  Zr (dM il P w K mg base N "Desk.__init__" (ae st) f a9 A outer s H E).fP H0 [0] as (az st) b):Hj P w K mg base (k+1) ps N.length (Z.u_ [0] [Da,AT] N.length b):=by
 let⟨C,f,fd,hC,M,F,wj⟩:=d.ex;exact⟨C,f,fd,hC,M,Ur pD.symm F S<|hb f,wj⟩
end
theorem xP:∀m k,Z.iE ms k (Do m Ch)
|0,_=>trivial
|m+1,k=>⟨λ z=>z.elim,xP m _⟩
theorem F'(hx:H x=Ch)(Q8:H dx=Ch):aw H (upd (upd H dx<|.own x) x<|.ins C dx []):=λ b o e=>by rw[au<|aT e hx,au<|aT e Q8];exact e
theorem RS.uU{K:FS}(h:RS K H0 H σ ρ)(hx:H x=Ch)(s:aw H H')(hu:H' x=AC u)(t:Hc K H' kd ks vs u)(Am:i<ρ.length):
 RS K (upd H0 x u) H' (σ.set i<|some<|.ref x) (ρ.set i<|some<|.bor<|Z.e! x kd ks vs):=by
 have h1:=h.up s;have n0:H0 x=Ch:=by
  cases e:H0 x with
  |none=>rfl
  |some o=>rw[h.same _ _ e]at hx;cases hx
 have ne:∀{q}{o},H q=AC o->q≠x:=λ e=>aT e hx;have getσ:∀j,i≠j->(σ.set i<|some<|V.ref x)[j]?=σ[j]?:=λ j hj=>A33 hj;have si:(σ.set i<|some<|V.ref x)[i]?=AC (AC<|.ref x):=A41 (by rw[<-h.re.len];exact Am);refine⟨λ b o e=>?_,⟨by simp[h.re.len],λ j l e=>?_,λ j k xs ys q e1 e2 e3 e4=>?_⟩,λ j xs q e1 e2=>?_,λ j d e1=>?_,⟨λ j k ks ls q e1 e2 e3 e4=>?_,λ j ks q e1 e2=>?_⟩⟩
 .by_cases hb:b=x
  .subst hb;rw[aA]at e;rw[hu];exact e
  .rw[au hb]at e;exact h1.same b o e
 .rcases aC e with⟨rfl,hl,e⟩|⟨hj,e⟩
  .cases e;exact⟨.ref x,si,.inr ⟨x,kd,ks,vs,u,rfl,rfl,hu,t⟩⟩
  .rw[getσ j hj];exact h1.re.get j l e
 .rcases aC e1 with⟨_,_,e⟩|⟨hj,e1⟩
  .cases e
  .rcases aC e2 with⟨_,_,e⟩|⟨hk,e2⟩
   .cases e
   .rw[getσ j hj]at e3;rw[getσ k hk]at e4;exact h.re.sep j k xs ys q e1 e2 e3 e4
 .rcases aC e1 with⟨_,_,e⟩|⟨hj,e1⟩
  .cases e
  .rw[getσ j hj]at e2;let⟨v,g1,a,ws,e,g2,_⟩:=h.re.get j _ e1;rw[e2]at g1;cases g1;cases e;rw[au<|ne g2];exact h.fresh j xs q e1 e2
 .rcases aC e1 with⟨rfl,_,e⟩|⟨hj,e1⟩
  .cases e;exact⟨.ref x,si,.inr ⟨x,kd,ks,vs,u,rfl,rfl,aA⟩⟩
  .rw[getσ j hj];let⟨v,g1,g2⟩:=h.ph j d e1;refine⟨v,g1,?_⟩;rcases g2 with g2|⟨a,kd',ks',ds,u',q1,q2,q3⟩
   .exact .inl<|g2.up<|bT n0
   .exact .inr ⟨a,kd',ks',ds,u',q1,q2,bT n0 _ _ q3⟩
 .rcases aC e1 with⟨_,_,e⟩|⟨hj,e1⟩
  .cases e
  .rcases aC e2 with⟨_,_,e⟩|⟨hk,e2⟩
   .cases e
   .rw[getσ j hj]at e3;rw[getσ k hk]at e4;exact h.yO.1 j k ks ls q e1 e2 e3 e4
 .rcases aC e1 with⟨_,_,e⟩|⟨hj,e1⟩
  .cases e
  .rw[getσ j hj]at e2;let⟨v,g1,a,ws,e,g2,_⟩:=h.re.get j _ e1;rw[e2]at g1;cases g1;cases e;rw[au<|ne g2];exact h.yO.2 j ks q e1 e2
section
variable{rest:γ ι}
theorem NZ{K:Db}(hC:uI K "Desk" C):i5 K (upd (upd H dx<|.own x) x<|.ins C dx []) (Z.e! x 0 [] []) (.ref x):=.inr ⟨x,0,[],[],_,rfl,rfl,aA,.inl ⟨rfl,rfl,C,dx,[],rfl,hC,rfl,aq.nil⟩⟩
end
def clsAt(s:ι)(j:Nat):ι:=match s with
|.ClassDef _ _ _ b _ _ _ _ _ _ _=>b.getD j<|.Pass ⟨0,0,0,0⟩
|s=>s
def eZ(K:Frag)(C:δ)(m q:Str)(st:ι):Prop:=∃(f:δ)(od an:ε δ)(sl:Array (ε ζ))(oc kV dc pm cd ct:ζ),findIn K (.ref C) m=AC (AC<|.ref f)/\K.lookup f=AC ⟨oc,od,.func<|fnOf m q (br st) (az st) (ae st) .none kV dc pm an cd ct,sl⟩/\codeIn K cd q=Da/\keepIn K (.ref f)=Da/\isFn K (.ref f)=Da
section
variable{K:Frag}{st:ι}
theorem eZ.mk'{oc kV dc pm cd ct:ζ}(a:findIn K (.ref C) m=AC (AC<|.ref f))(l:K.lookup f=AC ⟨oc,od,.func<|fnOf m q (br st) (az st) (ae st) .none kV dc pm an cd ct,sl⟩)(c:codeIn K cd q=Da)(k:keepIn K (.ref f)=Da)(i:isFn K (.ref f)=Da):eZ K C m q st:=⟨f,od,an,sl,oc,kV,dc,pm,cd,ct,a,l,c,k,i⟩
theorem eZ.df(d:eZ K C m q st)(hC:uI K "Desk" C)(hb:∀kV doc pm an a9 ct us,us.length=ps.length->bindArgs (fnOf m q (br st) (az st) (ae st) .none kV doc pm an a9 ct) ⟨us,[]⟩=pure (ps.zip us):=by exact ZS._P):C7 K m q st ps:=by let⟨f,od,an,sl,oc,kV,dc,pm,cd,ct,a,l,c,k,i⟩:=d;have F:=t? l c k;exact⟨C,f,_,hC,⟨a,i,k⟩,F,F.binds hb⟩
theorem eZ.di(d:eZ K C "__init__" "Desk.__init__" st)(hC:uI K "Desk" C)(mk:makesIn K C=Da)(kp:keepIn K (.ref C)=Da)(hb:∀kV doc pm an a9 ct us,us.length=ps.length->bindArgs (fnOf "__init__" "Desk.__init__" (br st) (az st) (ae st) .none kV doc pm an a9 ct) ⟨us,[]⟩=pure (ps.zip us)):Vl K st ps:=by let⟨f,od,an,sl,oc,kV,dc,pm,cd,ct,a,l,c,k,i⟩:=d;have F:=t? l c k;exact⟨C,f,_,hC,⟨mk,a,i,kp⟩,F,F.binds hb⟩
end
end ZS
namespace ZQ
open L2 ZS PySem.W
section
variable{st:ι}
theorem gL(h:∀H1,QS X H1 st g):HC X H0 ms as st (Z.aE ms g):=⟨ZS.gL λ H1=>(h H1).p⟩
end
section
variable{K:Db}
theorem qg{st:ι}(pD:bs.length=ps.length)(d:C7 K m qual st ps)(hb:∀{f}{a9}{A}{outer}{s}{H}{E},N.Nodup->(A.deeper<|envOfC qual (ae st) s.heap.objs.size f a9).units+64<cLine->bh k (A.deeper<|envOfC qual (ae st) s.heap.objs.size f a9)->yP (dM il P w K mg base N qual (ae st) f a9 A outer s H E).fP H (az st) b)(S:a8 N ps (ae st):=by exact ZS.Hz):pA P w K mg base m (k+1) ps bs (Z.Aw bs N.length b):=pA.mk' pD d S λ f a9 A outer s H E hr=>(hb S.nd hr.units hr).p
theorem nC{st:ι}(pD:bs.length=ps.length)(d:C7 K m qual st ps)(hb:∀{f}{a9}{A}{outer}{s}{H}{E},N.Nodup->(A.deeper<|envOfC qual (ae st) s.heap.objs.size f a9).units+64<cLine->bh k (A.deeper<|envOfC qual (ae st) s.heap.objs.size f a9)->C5 (dM (Hk P w) P w K mg base N qual (ae st) f a9 A outer s H E) H (az st) xb)(S:a8 N ps (ae st):=by exact ZS.Hz):jQ P w K mg base m (k+1) ps bs (Z.Gy bs N.length xb):=jQ.mk' pD d S λ f a9 A outer s H E hr=>(hb S.nd hr.units hr).p
theorem U2{st:ι}(pD:ps.length=2)(d:Vl K st ps)(hb:∀{f}{a9}{A}{outer}{s}{H H0}{as}{E},N.Nodup->(A.deeper<|envOfC "Desk.__init__" (ae st) s.heap.objs.size f a9).units+64<cLine->bh k (A.deeper<|envOfC "Desk.__init__" (ae st) s.heap.objs.size f a9)->nM (dM il P w K mg base N "Desk.__init__" (ae st) f a9 A outer s H E).fP H0 [0] as (az st) b)(S:a8 N ps (ae st):=by exact ZS.Hz):Hj P w K mg base (k+1) ps N.length (Z.u_ [0] [Da,AT] N.length b):=Hj.mk' pD d S λ f a9 A outer s H H0 as E hr=>(hb S.nd hr.units hr).p
end
end ZQ
namespace ZS
open L2 PySem.W
section
variable{K:Frag}{st:ι}
theorem Y?(d:eZ K C "__init__" q st)(xj:HG K C=Da)(kp:keepIn K (.ref C)=Da)(ef:Hh K C)(ht:findIn K (.ref C) as=AC Ch)(ha:(⟨a.toArray⟩)=as)
 (hb:az st=[.Assign [.Attribute (.Name "self" p1) as p2] (.Name as p3) p4])
 (hbd:∀kV doc pm an a9 ct us,us.length=2->bindArgs (fnOf "__init__" q (br st) (az st) (ae st) .none kV doc pm an a9 ct) ⟨us,[]⟩=pure ((["self",as]:γ Str).zip us))
 (S:a8 ["self",as] ["self",as] (ae st)) (hv:∀x∈(["self",as]:γ Str),LG (ae st) x) (hd:Nd as) (hc:(as==("__classdict__"))=AT):Vm P w K mg base C 1 [a]:=by
 let⟨f,od,an,sl,oc,kV,dc,pm,cd,ct,e1,l,c,k,i⟩:=d;have F:=t? l c k;refine⟨f,fnOf "__init__" q (br st) (az st) (ae st) .none kV dc pm an cd ct,xj,kp,e1,i,?_,?_⟩
 .rw[v4,A35,ha];exact X8 ef ht F hb S hv hd hc
 .rw[v4,A35,ha];exact F.binds hbd
theorem Ms{l:γ Str}(h:∀x∈l,sc.names.lookup x=AC .local):∀x∈l,LG sc x:=λ x hx=>.inl<|h x hx
end
theorem vM:∀is ts ρ,(Z.b? is ts ρ).length=ρ.length
|[],_,_=>rfl
|_::_,[],_=>rfl
|i::is,t::ts,ρ=>by show(Z.b? is ts _).length=_;rw[vM];simp
theorem jz:∀is ts ρ {j},j∉is->(Z.b? is ts ρ)[j]?=ρ[j]?
|[],_,_,_,_=>rfl
|_::_,[],_,_,_=>rfl
|i::is,t::ts,ρ,j,h=>by show(Z.b? is ts _)[j]?=_;rw[jz is ts _ λ z=>h<|A07 _ z,A33 λ z=>h (by rw[z];simp)]
theorem ID{S:δ->Z.D->Prop}:∀{is}{as}{ts}{ρ}{j},is.Nodup->(∀i∈is,i<ρ.length)->Paired R is as->Paired S as ts->j∈is->∃a t,a∈as/\R j a/\S a t/\(Z.b? is ts ρ)[j]?=AC (AC<|.bor t):=by
 intro is as ts ρ j nd hl p q h
 induction p generalizing ts ρ with
 |nil=>cases h
 |@cons i a is as r tr ih=>
  cases q with|@cons _ t _ ts s tS=>
  have lU:=A14.mp nd;rcases A01.mp h with e|h
  .subst e;refine⟨a,t,.head _,r,s,?_⟩;show(Z.b? is _ _)[j]?=_;rw[jz is _ _ lU.1,A41<|hl j ∅]
  .let⟨a',t',h1,h2,h3,h4⟩:=ih (ρ:=ρ.set i (AC<|.bor t)) lU.2 (λ k hk=>by simpa using hl k (by simp[hk])) tS h;exact⟨a',t',.tail _ h1,h2,h3,h4⟩
section
variable{K:Db}
abbrev V2(ρ:Z.Env)(i:Nat)(a:δ):Prop:=∃kd ks vs,ρ[i]?=AC (AC<|.bor<|Z.e! a kd ks vs)
theorem k_:∀{l}{m}{y},Paired R l m->y∈m->∃x∈l,R x y:=by
 intro l m y p h
 induction p with
 |nil=>cases h
 |cons r t ih=>
  rcases A01.mp h with rfl|h
  .exact⟨_,.head _,r⟩
  .let⟨x,h1,h2⟩:=ih h;exact⟨x,.tail _ h1,h2⟩
theorem RM.pick(h:RM K H0 ms as H σ ρ):∀{is},(∀i∈is,i∈ms)->is.Nodup->∃vt,Paired (V2 ρ) is vt/\vt.Nodup/\∀a∈vt,a∈as
|[],_,_=>⟨[],.nil,by simp,λ a h=>by simp at h⟩
|i::is,hs,nd=>by
 have lU:=A14.mp nd;let⟨vt,p,n,s⟩:=h.pick (λ k hk=>hs k (by simp[hk])) lU.2;let⟨a,ha,r⟩:=dQ h.at_ (hs i ∅);refine⟨a::vt,.cons r p,A14.mpr ⟨λ z=>?_,n⟩,λ b hb=>?_⟩
 .let⟨j,hj,r2⟩:=k_ p z;let⟨_,_,_,r⟩:=r;let⟨_,_,_,r2⟩:=r2;have:=h.uniq r r2;subst this;exact lU.1 hj
 .rcases A01.mp hb with rfl|hb
  .exact ha
  .exact s b hb
theorem RM.QV(h:RM K H0 ms as H σ ρ)(hb:b∈as):(∀xs,H b≠AC (.tup xs))/\∀o u,H b≠AC (.eJ o u):=by let⟨i,_,_,_,_,hi⟩:=k_ h.at_ hb;let⟨_,u,q,t⟩:=h.thing hi;exact⟨λ xs z=>t.mb.1 xs<|A05<|q.symm.trans z,λ o x z=>t.mb.2.1 o x<|A05<|q.symm.trans z⟩
def yQ(as:γ δ)(H H':Hp):Prop:=∀b o,b∉as->H b=AC o->H' b=AC o
theorem yQ.of(s:aw H H'):yQ as H H':=λ b o _ e=>s b o e
theorem yQ.trans{H2:Hp}(a:yQ as H H')(b:yQ as H' H2):yQ as H H2:=λ c o hc e=>b c o hc<|a c o hc e
theorem RM.jR(h:RM K H0 ms as H σ ρ)(s:yQ as H H'):gv H H':=⟨λ b xs e=>s b _ (λ z=>(h.QV z).1 xs e) e,λ b o u e=>s b _ (λ z=>(h.QV z).2 o u e) e⟩
theorem RM.call(h:RM K H0 ms as H σ ρ)(hs:∀i∈is,i∈ms)(nd:is.Nodup)(p:Paired (V2 ρ) is vt)(sub:∀a∈vt,a∈as)(sm:aw (wipe H vt) H')(th:TH K H' vt ts):
 yQ as H H'/\RM K H0 ms as H' σ (Z.b? is ts ρ):=by
 have keep:∀b o,b∉vt->H b=AC o->H' b=AC o:=λ b o n e=>sm b o (by show(if b∈vt then Ch else H b)=_;rw[o0 n];exact e);have m1:yQ as H H':=λ b o n e=>keep b o (λ z=>n<|sub b z) e;have st:=h.jR m1;have hl:∀i∈is,i<ρ.length:=λ i hi=>by let⟨a,_,_,_,_,q⟩:=dQ p hi;exact(A03.mp q).1
 have new:∀{j},j∈is->∃a kd ks vs u,a∈vt/\V2 ρ j a/\H' a=AC u/\Hc K H' kd ks vs u/\(Z.b? is ts ρ)[j]?=AC (AC<|.bor<|Z.e! a kd ks vs):=λ {j} hj=>by let⟨a,t,ha,r,⟨kd,ks,vs,u,e,q,o⟩,g⟩:=ID (ρ:=ρ) nd hl p th hj;subst e;exact⟨a,kd,ks,vs,u,ha,r,q,o,g⟩
 have old:∀{j}{l},(Z.b? is ts ρ)[j]?=AC (AC l)->j∉is->ρ[j]?=AC (AC l):=λ {j l} e hj=>by rw[jz is ts ρ hj]at e;exact e
 have off:∀{j:Nat}{a:δ},j∉is->V2 ρ j a->a∉vt:=λ {j a} hj ⟨_,_,_,r⟩ z=>by let⟨i,hi,_,_,_,r2⟩:=k_ p z;exact hj (by rw[h.uniq r r2];exact hi)
 have fr:∀{q:δ},over H0 H as q=Ch->q∉as/\over H0 H' as q=Ch:=λ {q} e=>by
  have n:q∉as:=λ z=>by let⟨u,hu⟩:=h.tracked z;rw[b_ z,hu]at e;cases e
  exact⟨n,by rw[cy n]at e ⊢;exact e⟩
 have thing:∀{j:Nat}{d:Z.D},ρ[j]?=AC (AC<|.bor d)->∃a kd ks vs,d=Z.e! a kd ks vs:=λ {j d} hj=>by
  have hm:j∈ms:=by have:=gK h.no hj trivial;simpa using this
  let⟨a,_,kd,ks,vs,q⟩:=dQ h.at_ hm;rw[hj]at q;injection q with q;injection q with q;injection q with q
  exact⟨a,kd,ks,vs,q⟩
 have σat:∀{j:Nat}{a:δ},V2 ρ j a->σ[j]?=AC (AC<|.ref a):=λ⟨_,_,_,q⟩=>(h.thing q).1;refine⟨m1,⟨?_,?_,?_,h.nd,h.h0⟩⟩
 .refine⟨λ b o e=>?_,⟨by rw[vM];exact h.rs.re.len,λ j l e=>?_,λ j k xs ys q e1 e2 e3 e4=>?_⟩,λ j xs q e1 e2=>?_,λ j d e1=>?_,⟨λ j k ks ls q e1 e2 e3 e4=>?_,λ j ks q e1 e2=>?_⟩⟩
  .by_cases hb:b∈as
   .rw[b_ hb]at e;exact e
   .rw[cy hb]at e;exact m1 b o hb<|h.same b o e
  .by_cases hj:j∈is
   .let⟨a,kd,ks,vs,u,ha,r,q,o,g⟩:=new hj;rw[g]at e;cases e;exact⟨.ref a,σat r,.inr ⟨a,kd,ks,vs,u,rfl,rfl,q,o⟩⟩
   .have e:=old e hj;let⟨v,e1,r⟩:=h.rs.re.get j l e;refine⟨v,e1,?_⟩;cases l with
    |val d=>exact Den.ups (show Den K H d v from r) st
    |own zs=>let⟨q',ws,rfl,fE,t'⟩:=r;exact⟨q',ws,rfl,m1 _ _ (fr<|h.rs.fresh j zs q' e e1).1 fE,t'.ups st⟩
    |bor d=>let⟨a,kd,ks,vs,rfl⟩:=thing e;let⟨s1,u,q,t⟩:=h.thing e;rw[s1]at e1;cases e1;exact .inr ⟨a,kd,ks,vs,u,rfl,rfl,keep _ _ (off hj ⟨_,_,_,e⟩) q,t.ups st⟩
    |dc ks=>let⟨q',as2,rfl,fE,t'⟩:=r;exact⟨q',as2,rfl,m1 _ _ (fr<|h.rs.yO.2 j ks q' e e1).1 fE,t'.ups st⟩
    |Kq ks=>let⟨q',o',as2,rfl,fE,t'⟩:=r;exact⟨q',o',as2,rfl,st.eJ _ _ _ fE,t'.ups st⟩
    |TM ps=>let⟨q',o',rfl,fE⟩:=r;exact⟨q',o',rfl,st.eJ _ _ _ fE⟩
    |exc c=>let⟨q',o',u',C',rfl,fE,r1,r2,r3⟩:=r;exact⟨q',o',u',C',rfl,st.eJ _ _ _ fE,r1,r2,r3.ups st⟩
  .have no:∀{j:Nat}{zs:γ Z.D},(Z.b? is ts ρ)[j]?=AC (AC<|.own zs)->ρ[j]?=AC (AC<|.own zs):=λ {j zs} e=>old e λ hj=>by let⟨a,kd,ks,vs,u,ha,r,q,o,g⟩:=new hj;rw[g]at e;cases e
   exact h.rs.re.sep j k xs ys q (no e1) (no e2) e3 e4
  .have hj:j∉is:=λ hj=>by let⟨a,kd,ks,vs,u,ha,r,q,o,g⟩:=new hj;rw[g]at e1;cases e1
   exact(fr<|h.rs.fresh j xs q (old e1 hj) e2).2
  .by_cases hj:j∈is
   .let⟨a,kd,ks,vs,u,ha,r,q,o,g⟩:=new hj;rw[g]at e1;cases e1;exact⟨.ref a,σat r,.inr ⟨a,kd,ks,vs,u,rfl,rfl,by rw[b_<|sub a ha];exact q⟩⟩
   .have e:=old e1 hj;let⟨a,kd,ks,vs,rfl⟩:=thing e;let⟨s1,u,q,t⟩:=h.thing e;exact⟨.ref a,s1,.inr ⟨a,kd,ks,vs,u,rfl,rfl,by rw[b_<|h.mem e];exact keep _ _ (off hj ⟨_,_,_,e⟩) q⟩⟩
  .have no:∀{j:Nat}{zs:Z.DK},(Z.b? is ts ρ)[j]?=AC (AC<|.dc zs)->ρ[j]?=AC (AC<|.dc zs):=λ {j zs} e=>old e λ hj=>by let⟨a,kd,ks,vs,u,ha,r,q,o,g⟩:=new hj;rw[g]at e;cases e
   exact h.rs.yO.1 j k ks ls q (no e1) (no e2) e3 e4
  .have hj:j∉is:=λ hj=>by let⟨a,kd,ks,vs,u,ha,r,q,o,g⟩:=new hj;rw[g]at e1;cases e1
   exact(fr<|h.rs.yO.2 j ks q (old e1 hj) e2).2
 .refine da h.at_ λ i hi a r=>?_;by_cases hj:i∈is
  .let⟨a2,kd,ks,vs,u,ha,r2,q,o,g⟩:=new hj;have:=C1 i _ _ r r2;subst this;exact⟨kd,ks,vs,g⟩
  .let⟨kd,ks,vs,r⟩:=r;exact⟨kd,ks,vs,by rw[jz is ts ρ hj];exact r⟩
 .refine pW λ j x e t=>?_;rw[A96];by_cases hj:j∈is
  .exact hs j hj
  .rw[jz is ts ρ hj]at e;have:=gK h.no e t;simpa using this
end
theorem sO:∀k {bs}{ds}{as},ds.length=bs.length->Paired (λ(d)(a:δ)=>∃kd ks vs,d=Z.e! a kd ks vs) (Z.qy bs ds) as ->
 Paired (λ(i)(a)=>∃kd ks vs,k<=i/\(bv (λ b d=>AC<|Z.rp b d) bs ds)[i-k]?=AC (AC<|.bor<|Z.e! a kd ks vs)) (Z.ir k bs) as
|k,[],[],_,_,.nil=>.nil
|k,Da::bs,d::ds,_,hl,.cons r t=>by
 let⟨kd,ks,vs,rfl⟩:=r;refine .cons ⟨kd,ks,vs,M2 _,by simp[Z.e!,Z.rp]⟩ ?_;refine da (sO _ (by simpa using hl) t) λ i _ a ⟨kd,ks,vs,h1,h2⟩=>⟨kd,ks,vs,by lia,?_⟩
 rw[show i-k=(i-(k+1))+1 from by lia];simpa using h2
|k,AT::bs,d::ds,_,hl,p=>by
 refine da (sO (k+1) (by simpa using hl) p) λ i _ a ⟨kd,ks,vs,h1,h2⟩=>⟨kd,ks,vs,by lia,?_⟩
 rw[show i-k=(i-(k+1))+1 from by lia];simpa using h2
theorem D7:∀{a}{k},Z.iE ms k a->Z.iE ms (k+a.length) b->Z.iE ms k (a++b)
|[],_,_,h=>h
|x::a,k,h,g=>⟨h.1,D7 h.2 (by rw[show k+1+a.length=k+(x::a).length from by simp;lia];exact g)⟩
theorem xO:∀k bs ds ms,(∀i∈Z.ir k bs,i∈ms)->Z.iE ms k (bv (λ b d=>AC<|Z.rp b d) bs ds)
|_,[],_,_,_=>by simp[Z.iE]
|_,_::_,[],_,_=>by simp[Z.iE]
|k,Da::bs,d::ds,ms,h=>⟨λ _=>h k (by simp[Z.ir]),xO _ bs ds ms λ i hi=>h i (by simp[Z.ir,hi])⟩
|k,AT::bs,d::ds,ms,h=>⟨λ z=>by
 have:Z.rp AT d=.val d:=by cases d<;>rfl
 change Z.lr (AC _)at z;rw[this]at z;exact z.elim,xO _ bs ds ms λ i hi=>h i (by simpa[Z.ir]using hi)⟩
def Wl(K:Db)(H0:Hp)(ms:γ Nat)(as:γ δ)(f:Z.Qg):TE:=λ σ H Q=>∃ρ d ρ',RM K H0 ms as H σ ρ/\f ρ=.ok (d,ρ')/\∀v H',yQ as H H'->RM K H0 ms as H' σ ρ'->Den K H' d v->Q v H'
def tMT(K:Db)(H0:Hp)(ms:γ Nat)(as:γ δ)(f:Z.Vd):TT:=λ σ H Q=>∃ρ b ρ',RM K H0 ms as H σ ρ/\f ρ=.ok (b,ρ')/\∀H',yQ as H H'->RM K H0 ms as H' σ ρ'->Q b H'
abbrev ME(X:Cx)(H0:Hp)(ms:γ Nat)(as:γ δ)(e:θ)(f:Z.Qg):Prop:=PE X e<|Wl X.K H0 ms as f
structure _root_.Lake.ZQ.A7(X:Cx)(H0:Hp)(ms:List Nat)(as:List Addr)(e:Expr)(f:Z.Qg):Prop where p:ME X H0 ms as e f
abbrev MT(X:Cx)(H0:Hp)(ms:γ Nat)(as:γ δ)(e:θ)(f:Z.Vd):Prop:=PT X e<|tMT X.K H0 ms as f
structure _root_.Lake.ZQ.VZ(X:Cx)(H0:Hp)(ms:List Nat)(as:List Addr)(e:Expr)(f:Z.Vd):Prop where p:MT X H0 ms as e f
abbrev MTW(X:Cx)(H0:Hp)(ms:γ Nat)(as:γ δ)(e:θ)(f:Z.Vd):Prop:=PW X e<|tMT X.K H0 ms as f
structure _root_.Lake.ZQ.Qc(X:Cx)(H0:Hp)(ms:List Nat)(as:List Addr)(e:Expr)(f:Z.Vd):Prop where p:MTW X H0 ms as e f
structure lQ(P:Program)(w:World)(K:Db)(mg:Str->Option Value)(base:Heap)(x:Str)(k:Nat)(ps:List Str)(bs:List Bool)(n:Nat)(fn:List Z.D->Z.Res (Z.D×List Z.D)):Prop where
 ex:∃g fd,d9 P w K mg base il k g fd ps (Qu K (Z.ir 0 bs) bs n fn)/\mg x=AC (.ref g)/\Fa K (.ref g)=Da/\Binds K fd ps []
structure lP(P:Program)(w:World)(K:Db)(mg:Str->Option Value)(base:Heap)(m:Str)(k:Nat)(ps:List Str)(bs:List Bool)(n:Nat)(fn:List Z.D->Z.Res (Z.D×List Z.D)):Prop where
 ex:∃C g fd,uI K "Desk" C/\Meth K C m g/\d9 P w K mg base il k g fd ps (Qu K (Z.ir 0 bs) bs n fn)/\Binds K fd ps []
section
variable{K:Db}
theorem lQ.mk'{st:ι}(pD:bs.length=ps.length)(d:Def K mg x st ps)(S:a8 N ps (ae st))
 (hb:∀ f a9 A outer s H H0 as E,bh k (A.deeper<|envOfC x (ae st) s.heap.objs.size f a9) ->
  Zr (dM il P w K mg base N x (ae st) f a9 A outer s H E).fP H0 (Z.ir 0 bs) as (az st) b):lQ P w K mg base x (k+1) ps bs N.length (Z.u_ (Z.ir 0 bs) bs N.length b):=by
 let⟨f,fd,F,hm,wj⟩:=d.ex;exact⟨f,fd,Ur pD F S<|hb f,hm,F.kp,wj⟩
theorem lP.mk'{st:ι}(pD:bs.length=ps.length)(d:C7 K m qual st ps)(S:a8 N ps (ae st))
 (hb:∀ f a9 A outer s H H0 as E,bh k (A.deeper<|envOfC qual (ae st) s.heap.objs.size f a9) ->
  Zr (dM il P w K mg base N qual (ae st) f a9 A outer s H E).fP H0 (Z.ir 0 bs) as (az st) b):lP P w K mg base m (k+1) ps bs N.length (Z.u_ (Z.ir 0 bs) bs N.length b):=by
 let⟨C,f,fd,hC,hm,F,wj⟩:=d.ex;exact⟨C,f,fd,hC,hm,Ur pD F S<|hb f,wj⟩
end
section
variable{X:Cx}
theorem _root_.Lake.ZQ.JB(h:ZQ.QE X e f):ZQ.A7 X H0 ms as e (Z.mP f):=⟨PE.imp h.p <|by rintro σ H Q ⟨ρ,d,ρ',rm,e,k⟩;let⟨x,ea,e⟩:=al e;cases e;exact⟨ρ,d,rm.rs.re,ea,λ v H1 s1 d1=>k v H1 (yQ.of s1) (rm.up s1) d1⟩⟩
theorem A1{K:FS}(rm:RM K H0 ms as H σ ρ)(hs:∀i∈is,i∈ms)(nd:is.Nodup)(d1:iT K H bs ds vs)(Ya:Z.qy bs ds=Z.b7 is ρ)(er:fn ds=.ok r)
 (k:∀v H',yQ as H H'->RM K H0 ms as H' σ (Z.b? is r.2 ρ)->Den K H' r.1 v->Q v H'):Qu K (Z.ir 0 bs) bs n fn vs H Q E:=by
 let⟨vt,p,n',sub⟩:=rm.pick hs nd;have p2:Paired (λ(d)(a)=>∃kd ks vs,d=Z.e! a kd ks vs) (Z.qy bs ds) vt:=by
  rw[Ya];have key:∀{l}{m},Paired (V2 ρ) l m->Paired (λ(d)(a)=>∃kd ks vs,d=Z.e! a kd ks vs) (Z.b7 l ρ) m:=by
   intro l m q
   induction q with
   |nil=>exact .nil
   |cons r t ih=>let⟨kd,ks,vs,hi⟩:=r;exact .cons ⟨kd,ks,vs,by show Z.ZM _=_;rw[hi];rfl⟩ ih
  exact key p
 let⟨_v,OJ⟩:=d1.length;have st:=sO 0 OJ p2;refine⟨ds,vt,r.1,r.2,d1,n',da st λ i _ a ⟨kd,ks,vs,_,q⟩=>⟨kd,ks,vs,?_⟩,?_,er,λ v H' s2 th dv=>?_⟩
 .rw[Nat.sub_zero]at q;unfold Z.startB;rw[A21 (A03.mp q).1];exact q
 .exact D7 (xO 0 bs ds _ λ i h=>h)<|xP _ _
 .let⟨m1,A?⟩:=rm.call hs nd p sub s2 th;exact k v H' m1 A? dv
theorem _root_.Lake.ZQ.Ed(C:lQ X.prog X.w X.K X.mg X.base x k ps bs n fn)(hr:bh k X.A)(hg:Gl X x)(hs:∀i∈is,i∈ms)(nd:is.Nodup)
 (ha:ZQ.LI X (e::es) bs ar) (gi:Nd x:=by kernel_rfl) (he:Se e es X.env:=by rfl) (d!:Pn pos es X.env:=by rfl) :
 ZQ.A7 X H0 ms as (.Call (.Name x p1) (e::es) [] pos) (Z.bB fn bs is ar):=⟨by
 let⟨g,fd,F,hm,hk,hb⟩:=C.ex;refine PE.imp (rM F hr hg hm hk hb .nil qD ha.p gi he d!) ?_;rintro σ H Q ⟨ρ,d,ρ',rm,e,k⟩;let⟨ds,ea,e⟩:=al e;let⟨Ya,e⟩:=Z.bw e;let⟨r,er,e⟩:=al e;let⟨ψ,e⟩:=Z.bw e;cases e;refine⟨ρ,ds,rm.rs.re,ea,λ vs H1 s1 d1=>?_⟩;show Qu X.K _ bs n fn _ H1 Q E0;rw[A48];exact A1 (rm.up s1) hs nd d1 Ya er λ v H' m1 A? dv=>k v H' ((yQ.of s1).trans m1) A? dv⟩
theorem _root_.Lake.ZQ.oA(C:lP X.prog X.w X.K X.mg X.base m k ps (Da::bs) n fn)(hr:bh k X.A)(ho:ZQ.QM X 0 o fo)(hf:Dn m)(hs:∀i∈is,i∈ms)(nd:is.Nodup)(ha:ZQ.LI X (e::es) bs ar)
 (oJ:Se e es X.env:=by rfl) (d!:Pn pos es X.env:=by rfl)
 (ht:Mt o m apos (e::es) pos pl X.env:=by rfl) :
 ZQ.A7 X H0 ms as (.Call (.Attribute o m apos) (e::es) [] pos) (Z.bB fn (Da::bs) is<|Z.ag fo ar):=⟨by
 let⟨C,g,fd,hC,hm,F,hb⟩:=C.ex;refine PE.imp (DR ho.p hC.2 hm F hr hb .nil qD ha.p oJ d! ht) ?_;rintro σ H Q ⟨ρ,d,ρ',rm,e,k⟩;let⟨ds,ea,e⟩:=al e;let⟨Ya,e⟩:=Z.bw e;let⟨r,er,e⟩:=al e;let⟨ψ,e⟩:=Z.bw e;cases e;let⟨x,ex,ea⟩:=al ea;let⟨xs,en,ea⟩:=al ea;cases ea;refine⟨ρ,x,rm.rs.re,ex,λ v H1 s1 d1=>?_⟩;let⟨a,ks,ds,u,rfl,rfl,q,t⟩:=id d1;rcases t with⟨_,hk,C',dx,fs,rfl,EB,h3,h4⟩|⟨z,_⟩
 .have:=EB.1.symm.trans hC.1;cases this;rw[hk]at h3;refine⟨a,dx,fs,rfl,q,lW h3 hf,ρ,xs,rm.rs.re.up s1,en,λ vs H2 s2 d2=>?_⟩;show Qu X.K (Z.ir 0<|true::bs) (Da::bs) n fn (.ref a::(vs++[])) H2 Q E0;rw[A48];exact A1 ((rm.up s1).up s2) hs nd (ds:=Z.e! a 0 ks ds::xs) ⟨_,_,rfl,(d1.up s2).b,d2⟩ Ya er λ v H' m1 A? dv=>k v H' (((yQ.of s1).trans<|yQ.of s2).trans m1) A? dv
 .cases z⟩
theorem S?(hz:Hf X.K r o):∀σ H Q,Wl X.K H0 ms as (Z.mB o fa fb) σ H Q->Qp r (Wl X.K H0 ms as fa) (Wl X.K H0 ms as fb) σ H Q:=by rintro σ H Q ⟨ρ,d,ρ',rm,e,k⟩;let⟨⟨x,ρ1⟩,ea,e⟩:=al e;let⟨⟨y,ρ2⟩,eb,e⟩:=al e;let⟨z,eo,e⟩:=al e;cases e;exact⟨ρ,x,ρ1,rm,ea,λ v H1 m1 pB d1=>⟨ρ1,y,ρ2,pB,eb,λ u H2 m2 A? d2=>hz _ _ _ _ _ H2 Q (.inl<|d1.ups<|pB.jR m2) (.inl d2) eo λ w H' s3 dw=>k w H' ((m1.trans m2).trans<|yQ.of s3) (A?.up s3) dw⟩⟩
theorem _root_.Lake.ZQ.Ec(h:A9 X op o)(ha:ZQ.A7 X H0 ms as a fa)(hb:ZQ.A7 X H0 ms as b fb)(hm:behindInMarks op b=AT):ZQ.A7 X H0 ms as (.Compare a [op] [b] pos) (Z.mB o fa fb):=
 ⟨by let⟨_,hr,hz⟩:=h.ex;exact PE.imp (DV hr ha.p hb.p hm)<|S? hz⟩
theorem Xy(h:PT X e (Dk t))(k:∀σ H Q,Wl X.K H0 ms as fa σ H Q->t σ H Q):MT X H0 ms as e (Z.yM fa):=PT.imp h <|by
 rintro σ H Q ⟨ρ,b,ρ',rm,e,q⟩;let⟨⟨x,ρ1⟩,ea,e⟩:=al e;refine k σ H _ ⟨ρ,x,ρ1,rm,ea,λ v H' m pB d=>?_⟩;dsimp only at e;split at e
 .cases e;simp only[Den]at d;exact⟨_,d,q H' m pB⟩
 .cases e
theorem _root_.Lake.ZQ.rP(h:A9 X op o)(ha:ZQ.A7 X H0 ms as a fa)(hb:ZQ.A7 X H0 ms as b fb)(hm:behindInMarks op b=AT):ZQ.VZ X H0 ms as (.Compare a [op] [b] pos) (Z.yM<|Z.mB o fa fb):=
 ⟨by let⟨_,hr,hz⟩:=h.ex;exact Xy (rL hr ha.p hb.p hm)<|S? hz⟩
theorem _root_.Lake.ZQ.S_(h:ZQ.QT X e t):ZQ.VZ X H0 ms as e (Z.qI t):=⟨PT.imp h.p <|by rintro σ H Q ⟨ρ,d,ρ',rm,e,k⟩;let⟨x,ea,e⟩:=al e;cases e;exact⟨ρ,d,rm.rs.re,ea,λ H1 s1=>k H1 (yQ.of s1)<|rm.up s1⟩⟩
theorem _root_.Lake.ZQ.xW(h:ZQ.VZ X H0 ms as a ta):ZQ.Qc X H0 ms as (.BoolOp .And [a] pos) ta:=⟨pw_and1 h.p⟩
theorem _root_.Lake.ZQ.B7{rest:γ θ}(ha:ZQ.VZ X H0 ms as a ta)(hb:ZQ.Qc X H0 ms as (.BoolOp .And (b::rest) pos) tb):ZQ.Qc X H0 ms as (.BoolOp .And (a::b::rest) pos) (Z.kM ta tb):=⟨PW.imp (pw_and ha.p hb.p) <|by
 rintro σ H Q ⟨ρ,d,ρ',rm,e,k⟩;let⟨⟨x,ρ1⟩,ea,e⟩:=al e;refine⟨ρ,x,ρ1,rm,ea,λ H1 m1 pB=>?_⟩;dsimp only at e;cases x with
 |true=>simp only[A29]at e ⊢;exact⟨ρ1,d,ρ',pB,e,λ H' m2 A?=>k H' (m1.trans m2) A?⟩
 |false=>simp only[A52]at e ⊢;cases e;exact k H1 m1 pB⟩
theorem _root_.Lake.ZQ.mtw(h:ZQ.Qc X H0 ms as e ta):ZQ.VZ X H0 ms as e ta:=⟨h.p.pt⟩
end
section
variable{K:Db}
theorem RM.uT(h:RM K H0 ms as H σ ρ)(hd:Den K H d v)(hi:i∉ms):RM K H0 ms as H (σ.set i<|some v) (ρ.set i<|some<|.val d):=by
 refine⟨h.rs.uT hd,da h.at_ λ j hj a ⟨kd,ks,vs,q⟩=>⟨kd,ks,vs,?_⟩,pW λ j x e t=>?_,h.nd,h.h0⟩
 .rw[A33 λ z=>hi (by rw[z];exact hj)];exact q
 .by_cases rS:i=j
  .subst rS;by_cases hl:i<ρ.length
   .rw[A41 hl]at e;cases e;exact t.elim
   .rw[B29 (by simpa using hl)]at e;cases e
  .rw[A33 rS]at e;exact gK h.no e t
end
section
variable{st:ι}
theorem _root_.Lake.ZQ.rQ:ZQ.nM X H0 ms as [] Z.cW:=⟨qp.imp DF <|by rintro D σ H ⟨ρ,fl,rm,e,k⟩;cases e;exact k σ H (gv.refl H) rm⟩
theorem _root_.Lake.ZQ.Td:ZQ.HC X H0 ms as st (λ _=>.bad):=⟨by rintro _ _ _ _ _ _ ⟨_,_,_,e,_⟩;exact nomatch e⟩
theorem _root_.Lake.ZQ.Jv(hN:X.N.Nodup)(hi:X.N[i]?=AC x)(hx:Loc X.env.scope x)(hm:i∉ms)(he:ZQ.A7 X H0 ms as a fa)(hs:Sn a x pos' pos X.env:=by rfl)(hf:Fl X x:=by trivial):
 ZQ.HC X H0 ms as (.Assign [.Name x pos'] a pos) (Z.tI i fa):=⟨PS.imp (mZ hN hi hx he.p hs hf) <|by
 rintro D σ H ⟨ρ,fl,rm,e,k⟩;let⟨⟨d,ρ'⟩,ea,e⟩:=al e;cases e;exact⟨ρ,d,ρ',rm,ea,λ v H' m pB dv=>k _ H' (rm.jR m)<|pB.uT dv hm⟩⟩
theorem _root_.Lake.ZQ.NY(h:ZQ.A7 X H0 ms as a fa)(hs:swapsWith a Ch pos.line X.env=pure AT:=by rfl):ZQ.HC X H0 ms as (.Expr a pos) (Z.tJ fa):=⟨PS.imp (oh h.p hs) <|by rintro D σ H ⟨ρ,fl,rm,e,k⟩;let⟨⟨d,ρ'⟩,ea,e⟩:=al e;cases e;exact⟨ρ,d,ρ',rm,ea,λ v H' m pB dv=>k σ H' (rm.jR m) pB⟩⟩
theorem _root_.Lake.ZQ.Jw(h:ZQ.A7 X H0 ms as a fa):ZQ.HC X H0 ms as (.Return (AC a) pos) (Z.oB ms fa):=⟨PS.imp (BU h.p) <|by rintro D σ H ⟨ρ,fl,rm,e,k⟩;let⟨⟨d,ρ'⟩,ea,e⟩:=al e;cases e;exact⟨ρ,d,ρ',rm,ea,λ v H' m pB dv=>k v H' pB.same pB._! dv⟩⟩
theorem _root_.Lake.ZQ.D?(hc:ZQ.VZ X H0 ms as c t)(h1:ZQ.nM X H0 ms as b1 g)(h2:ZQ.nM X H0 ms as b2 u):ZQ.HC X H0 ms as (.If c b1 b2 pos) (Z.fR t g u):=⟨PS.imp (IH hc.p h1.p h2.p) <|by
 rintro D σ H ⟨ρ,fl,rm,e,k⟩;let⟨⟨x,ρ1⟩,ea,e⟩:=al e;refine⟨ρ,x,ρ1,rm,ea,λ H1 m1 pB=>?_⟩;dsimp only at e;cases x with
 |true=>simp only[A29]at e ⊢;exact⟨ρ1,fl,pB,e,k.up<|rm.jR m1⟩
 |false=>simp only[A52]at e ⊢;exact⟨ρ1,fl,pB,e,k.up<|rm.jR m1⟩⟩
def tMG(K:Db)(H0:Hp)(ms:γ Nat)(as:γ δ)(g:Z.GF):TG:=λ v σ H Q=>∃ρ d ρ',RM K H0 ms as H σ ρ/\Den K H d v/\g d ρ=.ok ρ'/\Z.bq ms ρ ρ'/\∀σ' H',gv H H'->RM K H0 ms as H' σ' ρ'->Q σ' H'
theorem N1(h:∀H1,DG X H1 tg G):PG X tg (tMG X.K H0 ms as G):=by intro χ s σ H v u Q I r w;let⟨ρ,d,ρ',rm,hd,e,kt,k⟩:=w;exact h _ χ s σ H v u Q I r ⟨ρ,d,ρ',rm.ovR,hd,e,λ σ' H' s r'=>k σ' H' (jR s)<|rm.back kt r'⟩
theorem _root_.Lake.ZQ.Jx(hp:PassesOwn (model X.prog X.w) X.A X.env X.xe)(hc:X.calm=Da)(hi:ZQ.QJ X tg iter it)(hg:∀H1,ZQ.QG X H1 tg G)(hb:ZQ.nM X H0 ms as body g)
 (hs:Fi iter X.env:=by intro _;rfl):ZQ.HC X H0 ms as (.For tg iter body [] pos) (Z.Tp ms it G g):=⟨have hg:=λ H1=>(hg H1).p;PS.imp (II hp hc hi.p (N1 hg) hb.p hs) <|by
 rintro D σ H ⟨ρ,fl,rm,e,k⟩;let⟨ds,ei,e⟩:=al e;refine⟨ρ,ds,rm.rs.re,ei,λ J H1 s1 z=>?_⟩;refine⟨λ i m σ' H'=>m=ds.length-i/\i<=ds.length/\∃ρ',RM X.K H0 ms as H' σ' ρ'/\gv H1 H'/\Z.jq ms G g (ds.drop i) ρ'=.ok fl,⟨ds.length,by simp,A47 _,ρ,rm.up s1,gv.refl H1,by simpa using e⟩,?_⟩;rintro i m σ2 H2 ⟨rfl,Am,ρ2,r2,s2,e2⟩;by_cases jc:i<ds.length
 .obtain⟨d,hd⟩:∃d,ds[i]?=AC d:=⟨ds[i],by simp[jc]⟩
  have tU:ds.drop i=d::ds.drop (i+1):=by
   rw[A93 jc];have:ds[i]=d:=by have:=A00 jc;rw[this]at hd;exact A05 hd
   rw[this]
  rw[tU]at e2;let⟨ρ3,eg,e2⟩:=al e2;let⟨kt,e2⟩:=Z.bw e2;let⟨f3,eb,e2⟩:=al e2;refine .inr ⟨z.go i d H2 s2 hd,λ σ' H'=>∃ρ',RM X.K H0 ms as H' σ' ρ'/\gv H1 H'/\Z.jq ms G g _ ρ'=.ok fl,λ σ' H' w=>⟨_,by lia,rfl,jc,w⟩,λ x H3 y=>?_⟩;let⟨sy,dx⟩:=z.Be i d H2 H3 x s2 hd y;replace s2:=s2.trans<|jR sy;refine⟨ρ2,d,ρ3,r2.up sy,dx,eg,kt,λ σ4 H4 s4 r4=>⟨ρ3,f3,r4,eb,?_⟩⟩;cases f3 with
  |nx ρ5=>exact λ σ5 H5 s5 r5=>⟨ρ5,r5,(s2.trans s4).trans s5,e2⟩
  |rt d5 ts5=>cases e2;exact k
 .have:i=ds.length:=by lia
  subst this;rw[B55]at e2;cases e2;exact .inl ⟨z.stop H2 s2,k σ2 H2 ((jR s1).trans s2) r2⟩⟩
theorem _root_.Lake.ZQ.GN{rest:γ ι}(C:Hj X.prog X.w X.K X.mg X.base k ps n fn)(hr:bh (k+1) X.A)(hg:Gl X "Desk")(hN:X.N.Nodup)(hi:X.N[i]?=AC y)(hy:Loc X.env.scope y)
 (he:ZQ.QE X e fe) (lu:∀H1 as,ZQ.nM X H1 [i] as rest r) (hs:swapsWith (.Call (.Name "Desk" p1) [e] [] iZ) (AC<|.Name y pos') pos.line X.env=pure AT:=by rfl) (hf:X.fn y=Da\/X.env.scope.names.lookup y=AC .local:=by first| exact .inl rfl| exact .inr rfl| assumption)
 (h1:Se e [] X.env:=by rfl) (d!:Pn iZ [] X.env:=by rfl) :
 ZQ.yP X H0 (.Assign [.Name y pos'] (.Call (.Name "Desk" p1) [e] [] iZ) pos::rest) (Z.xx i fn fe r):=⟨by
 have lu:=λ H1 as=>(lu H1 as).p;let⟨C,f,fd,hC,M,F,hb⟩:=C.ex;intro χ s σ H D I w;have hm:=A22 (mg:=X.mg) (h:=s.heap) I.lX (I.mod.glob.keeps I.bk) hC.1;have hR:qp X rest (λ D σ H=>∃H1 as,tM X.K H1 [i] as r D σ H):=by rintro χ s σ H D I ⟨H1,as,w⟩;exact lu H1 as χ s σ H D I w
 let⟨ρ,fl,rs,e,k⟩:=w;let⟨d,ed,e⟩:=al e;let⟨fs,ef,e⟩:=al e;let⟨Hx,e⟩:=Z.bw e;have ef:=Z.JE ef;let⟨dr,rfl,er⟩:=Z.P5 e;have Am:i<ρ.length:=by rw[rs.re.len,I.len];exact(A03.mp hi).1
 refine jA (mZ hN hi hy (Ng M F hr hg hm hb .nil qD (a6 he.p bV h1) (by decide +kernel) h1 d!) hs hf) hR χ s σ H D I ?_;refine⟨ρ,d,rs.re,ed,λ v H1 s1 dv x dx hx Q8 ne=>?_⟩;have sm:=F' (C:=C) hx Q8;refine⟨[Z.e! x 0 [] [],d],[x],.non,[Z.e! x 0 Z.cf fs],⟨_,_,rfl,NZ hC,_,_,rfl,Den.up dv sm,rfl⟩,by simp,.cons ⟨0,[],[],rfl⟩ .nil,⟨λ _=>by simp,λ z=>z.elim,xP _ _⟩,ef x,λ v' H' s2 th dn=>?_⟩;refine⟨by simpa only[Den]using dn,?_⟩;have nx:H x=Ch:=by
  cases q:H x with
  |none=>rfl
  |some o=>rw[s1 _ _ q]at hx;cases hx
 have s3:aw H H':=λ b o q=>s2 b o (by have hb:b≠x:=aT q nx;show(if b∈[x]then Ch else _)=_;rw[o0 (by simpa using hb)];exact sm _ _<|s1 _ _ q)
 have n0:H0 x=Ch:=by
  cases e:H0 x with
  |none=>rfl
  |some o=>rw[rs.same _ _ e]at nx;cases nx
 cases th with
 |cons r0 _=>
  let⟨kd,ks,vs,u,e1,hu,t⟩:=r0;let⟨_,rfl,rfl,rfl⟩:=n5 e1;have rs2:=rs.uU (i:=i) nx s3 hu t Am;have hov:over H0 H' [x]=upd H0 x u:=by
   funext b
   by_cases hb:b=x
   .subst hb;rw[b_ ∅,aA];exact hu
   .rw[cy (by simpa using hb),au hb]
  have rm:RM X.K H0 [i] [x] H' (σ.set i<|some<|.ref x) (ρ.set i<|some<|.bor<|Z.e! x 0 Z.cf fs):=by
   refine⟨by rw[hov];exact rs2,.cons ⟨0,Z.cf,fs,A41 Am⟩ .nil,pW λ j y e t=>?_,by simp,λ a ha=>by rw[A15.mp ha];exact n0⟩;by_cases rS:i=j
   .subst rS;simp
   .rw[A33 rS]at e;have:=gK Hx (i:=j) (x:=y) (by rw[A33 rS];exact e) t;exact this
  have er:=er x;let⟨fl2,e3,er⟩:=al er;cases fl2 with
  |nx ρ'=>cases er
  |rt d2 ts=>cases er;exact⟨H0,[x],_,.rt dr ts,rm,e3,λ v Ru s4 _ d4=>k v Ru s4 d4⟩⟩
end
theorem Ql{K:Frag}(h:(⟨c.toArray⟩)=x)(w:nsIn K mainGlobals x=AC (AC<|.ref C))(q:HI K C=Da):XC K c C:=⟨by rw[h];exact w,q⟩
end ZS
namespace ZQ
open L2 ZS PySem.W
section
variable{K:Db}
theorem pd{st:ι}(pD:bs.length=ps.length)(d:C7 K m qual st ps)(hb:∀{f}{a9}{A}{outer}{s}{H H0}{as}{E},N.Nodup->(A.deeper<|envOfC qual (ae st) s.heap.objs.size f a9).units+64<cLine->bh k (A.deeper<|envOfC qual (ae st) s.heap.objs.size f a9)->nM (dM il P w K mg base N qual (ae st) f a9 A outer s H E).fP H0 (Z.ir 0 bs) as (az st) b)(S:a8 N ps (ae st):=by exact ZS.Hz):lP P w K mg base m (k+1) ps bs N.length (Z.u_ (Z.ir 0 bs) bs N.length b):=lP.mk' pD d S λ f a9 A outer s H H0 as E hr=>(hb S.nd hr.units hr).p
theorem pe{st:ι}(pD:bs.length=ps.length)(d:Def K mg x st ps)(hb:∀{f}{a9}{A}{outer}{s}{H H0}{as}{E},N.Nodup->(A.deeper<|envOfC x (ae st) s.heap.objs.size f a9).units+64<cLine->bh k (A.deeper<|envOfC x (ae st) s.heap.objs.size f a9)->nM (dM il P w K mg base N x (ae st) f a9 A outer s H E).fP H0 (Z.ir 0 bs) as (az st) b)(S:a8 N ps (ae st):=by exact ZS.Hz):lQ P w K mg base x (k+1) ps bs N.length (Z.u_ (Z.ir 0 bs) bs N.length b):=lQ.mk' pD d S λ f a9 A outer s H H0 as E hr=>(hb S.nd hr.units hr).p
end
end ZQ
namespace ZS
open L2 PySem.W
def Qm:ζ->ε (γ Nat)
|.str ⟨cs⟩ _=>AC cs.toList
|_=>Ch
noncomputable def xm:γ ζ->ε (γ<|γ Nat)
|[]=>AC []
|u::us=>match Qm u,xm us with
 |some c,AC r=>AC<|c::r
 |_,_=>Ch
noncomputable def MF(K:Frag)(a:δ):ε (γ<|γ Nat):=match K.lookup a with
|some o=>match o.cls==.type "tuple" && o.dict.isNone&&o.slots.isEmpty,o.data with
 |true,.seq aW _=>if aW.size<=1000 then xm aW.toList else Ch
 |_,_=>Ch
|none=>Ch
theorem C_:∀{us}{ts},xm us=AC ts->Vals (ts.map λ cs=>V.str ⟨cs.toArray⟩) us
|[],ts,h=>by cases h;exact .nil
|u::us,ts,h=>by
 unfold xm at h;split at h
 .rename_i c r e1 e2;cases h;refine .cons ?_<|C_ e2;unfold Qm at e1;split at e1
  .rename_i cs t;cases e1;exact⟨t,by simp⟩
  .cases e1
 .cases h
theorem K7{K:Frag}(h:MF K a=AC ts):Den K H (.tup<|ts.map .str) (.ref a):=by
 unfold MF at h;split at h
 .rename_i o e;split at h
  .rename_i aW n e1 e2;split at h
   .rename_i hz;simp only[A38,A26]at e1;have z1:=Option.isNone_iff_eq_none.mp e1.1.2;have z2:=Array.isEmpty_iff.mp e1.2;have dd:∀l:γ _,aq K H (l.map .str) (l.map λ cs=>V.str ⟨cs.toArray⟩):=by
     intro l
     induction l with
     |nil=>simp[aq]
     |cons c l ih=>simp only[v4];exact⟨_,_,rfl,e_,ih⟩
    simp only[Den];refine⟨a,_,rfl,.inr ⟨o,aW,n,e,e1.1.1,by first|exact e2|exact⟨e2,z1,z2⟩,A11 hz ∅,C_ h⟩,dd ts⟩
   .cases h
  .cases h
 .cases h
theorem _root_.Lake.ZQ.K_(hg:Gl X x)(hm:X.mg x=AC (.ref a))(hk:MF X.K a=AC ts)(hb:Nd x:=by kernel_rfl):ZQ.QE X (.Name x pos) (Z.eC<|.tup<|ts.map .str):=⟨GW (DU (v:=.ref a) hg hm rfl hb) λ _=>K7 hk⟩
end ZS
namespace Z
def VP(f:γ Nat->ε Bool)(h:SM)(r:XN->SM)(c:XN)(ρ:Env):Res wW:=match f c.1 with
|some Da=>h ρ
|some AT=>r c ρ
|none=>.bad
def hNo(_:XN)(_:Env):Res wW:=.bad
def JY(l:γ (γ Nat×Bool))(c:γ Nat):ε Bool:=l.lookup c
def z_(b:SM)(xb:XF)(hs:XN->SM)(ρ:Env):Res wW:=match xb ρ with
|some c=>hs c ρ
|none=>b ρ
end Z
namespace ZS
open L2 PySem.W
def LH(K:Frag)(l:γ (γ Nat×Bool))(D:δ):Prop:=∀p∈l,∃C,nsIn K mainGlobals ⟨p.1.toArray⟩=AC (AC<|.ref C)/\mroIn K C (.ref D)=AC p.2
theorem zr{K:Frag}:LH K [] D:=λ _ h=>nomatch h
theorem vI{K:Frag}(h1:nsIn K mainGlobals ⟨c.toArray⟩=AC (AC<|.ref C))(h2:mroIn K C (.ref D)=AC b)(t:LH K l D):LH K ((c,b)::l) D:=λ p hp=>by
 rcases A01.mp hp with rfl|hp
 .exact⟨C,h1,h2⟩
 .exact t p hp
theorem Dm{K:Frag}(h:LH K l D)(e:l.lookup c=AC b)(xc:XC K c C):mroIn K C (.ref D)=AC b:=by
 have hm:(c,b)∈l:=by
  clear h
  induction l with
  |nil=>cases e
  |cons p l ih=>
   rw[A71]at e;by_cases z:c=p.1
   .rw[A26.mpr z]at e;cases e;subst z;exact .head _
   .rw[A67.mpr z]at e;exact .tail _<|ih e
 let⟨C',h1,h2⟩:=h _ hm;have:=h1.symm.trans xc.1;cases this;exact h2
theorem YO{K:Frag}(X:K.In s.heap)(xd:XC K c D)(he:s.heap.get? e=AC oe)(hc:oe.cls=.ref C)(hm:mroIn K C (.ref D)=AC b)(hq:Q b s):
 Ev M A (excMatches (.ref e)<|.ref D) Q E s:=by
 let⟨tl,ns,nm,qn,bs,hd,sn,sub,ab,col,Rj,s0',s1',s2',s3',s5',hC,pD⟩:=acQ X xd;let⟨h,g,d,t,os⟩:=s;have hcB:(Value.ref D::tl).contains (.type "BaseException")=Da:=by rw[C16,pD,C17]
 have L:=looks_mroIn (M:=M) X hm;have f:=tc_notTuple;cases b<;>(repeat (first|(with_reducible refine B00 he ?_;rw[hc])|with_reducible refine B00 hC ?_|(with_reducible refine C18 hC ?_;rw[hcB])|with_reducible refine L.at ?_|wp_step))<;>exact hq
structure _root_.Lake.ZQ._V(X:Cx)(H0:Hp)(ms:List Nat)(as:List Addr)(hs:List ExceptHandler)(g:Z.XN->Z.SM):Prop where
 p:∀(ex C:Addr)(dd:Option Addr)(c:Z.XN)(l:Bool)(χ:List (Addr×Obj))(s:Shared)(σ:St)(H:Hp)(D:Ends),_1 X χ σ H s ex C dd l->vw X.K H c C dd->tM X.K H0 ms as (g c) D σ H->Ev (model X.prog X.w) X.A (handleBy (.ref ex) X.env hs) (SP X χ D) X.xe s
theorem _root_.Lake.ZQ.Xz:ZQ._V X H0 ms as [] Z.hNo:=⟨by rintro _ _ _ _ _ _ _ _ _ _ _ _ ⟨_,_,_,e,_⟩;exact nomatch e⟩
theorem _root_.Lake.ZQ.QZ{rest:γ ExceptHandler}(hg:Gl X x)(hm:X.mg x=AC (.ref D0))(xd:XC X.K c0 D0)(Ez:LH X.K l D0)
 (hh:∀ev,ZQ.nM (OO X ev).fP H0 ms as (b0::Ws) h) (hr:ZQ._V X H0 ms as rest r) (gi:Nd x:=by kernel_rfl) :
 ZQ._V X H0 ms as (.ExceptHandler (AC<|.Name x np) Ch (b0::Ws) agn::rest) (Z.VP (Z.JY l) h r):=⟨by
 rintro ex C dd c lb χ s σ H D c3 xr ⟨ρ,fl,rm,e,k⟩;have hh:=λ ev=>(hh ev).p;let⟨oe,vs,_,_,_,he,lY,_⟩:=c3.ex;refine wpAny_handleBy_cons (codeAny_handlers_test<|JN c3.inv hg hm ?_ gi) (by intro q;cases q);unfold Z.VP at e;split at e
 .rename_i ef;refine YO c3.inv.lX xd he lY (Dm Ez ef xr.1) ?_;refine codeAny_handlers_suite<|land c3 λ s4 c4=>?_;refine A20 (hh (.ref ex) χ s4 σ H D (Oy c4.inv _) ⟨ρ,fl,rm,e,k⟩) (λ f s6 q=>?_) λ _ _ z=>z.elim;cases f with
  |next=>let⟨σ',H2,I6,q⟩:=q;exact⟨_,H2,j3 c3.inv.ok I6,q⟩
  |brk=>let⟨σ',H2,I6,q⟩:=q;exact⟨_,H2,j3 c3.inv.ok I6,q⟩
  |cont=>let⟨σ',H2,I6,q⟩:=q;exact⟨_,H2,j3 c3.inv.ok I6,q⟩
  |ret u=>let⟨v,σ',H2,I6,rv,q⟩:=q;exact⟨v,_,H2,j3 c3.inv.ok I6,rv,q⟩
 .rename_i ef;exact YO c3.inv.lX xd he lY (Dm Ez ef xr.1)<|hr.p ex C dd c lb χ s σ H D c3 xr ⟨ρ,fl,rm,e,k⟩
 .cases e⟩
theorem _root_.Lake.ZQ.Ta(hex:X.ex=[])(oJ:X.stack=X.env::X.outer)(L_:X.env.frame=AC X.env.locals)
 (hb:ZQ.nM X.fP H0 ms as body b) (hxb:∀pn E,ZQ.Zm (Fx X pn E) body xb) (hh:ZQ._V X H0 ms as (h0::hs) g):ZQ.HC X H0 ms as (.Try body (h0::hs) [] [] pos) (Z.z_ b xb g):=⟨by
 have hb:=hb.p;have hxb:=λ pn E=>(hxb pn E).p;rintro χ s σ H D I ⟨ρ,fl,rm,e,k⟩;refine wpAny_Try_except ?_;unfold Z.z_ at e;split at e
 .rename_i c ec;refine A20 (hxb (X.pn++χ) _ [] s σ H {nx:=λ _ _=>False,rt:=λ _ _=>False} (Ox I _) ⟨ρ,c,rm.rs.re,ec,λ mG H' s' ex C dd sm xr J1 th1=>?_⟩) (λ f s1 q=>?_) λ _ _ z=>z;rotate_left
  .cases f with
   |next=>let⟨_,_,_,z⟩:=q;exact z.elim
   |brk=>let⟨_,_,_,z⟩:=q;exact z.elim
   |cont=>let⟨_,_,_,z⟩:=q;exact z.elim
   |ret u=>let⟨_,_,_,_,_,z⟩:=q;exact z.elim
  exact zV hex oJ L_ (Cn I.ok J1) (BC th1) λ s2 c2=>land c2 λ s3 c3=>hh.p ex C dd c Da χ s3 σ H' D c3 xr ⟨ρ,fl,rm.up sm,e,k.up<|jR sm⟩
 .refine A20 (hb χ s σ H D (I.kU _) ⟨ρ,fl,rm,e,k⟩) (λ f s1 q=>?_) λ _ _ z=>z.elim;have q:=q.fK;cases f with
  |next=>exact B47 q
  |brk=>exact q
  |cont=>exact q
  |ret u=>exact q⟩
end ZS
namespace Z
def tq(b:Bool)(x t:D):Res D:=match x,t with
| .str c,.dct (.inl _::.inl k::ks) vs=>guard (k=1) (.ok (.bl (match fi ks vs c with
 |.ok _=>b
 | .bad=>!b)))
|_,_=>.bad
def F1(t x:D):Res D:=match t,x with
|.dct (.inl _::.inl k::ks) vs,.str c=>guard (k=1)<|fi ks vs c
|_,_=>.bad
end Z
namespace ZS
open L2 PySem.W
theorem OT{K:Frag}:∀{ks:γ (γ Nat)}{ds}{aO:γ (Key×V)},aO.map (·.1)=ks.map (λ c=>(GT ⟨c.toArray⟩:Key))->aq K H ds (aO.map (·.2)) ->
 (∃d v,Z.fi (ks.map .inr) ds c=.ok d/\pF aO (.inr ⟨c.toArray⟩)=AC v/\Den K H d v)\/(Z.fi (ks.map .inr) ds c=.bad/\pF aO (.inr ⟨c.toArray⟩)=Ch)
|[],ds,[],_,_=>.inr ⟨rfl,rfl⟩
|[],ds,_::_,h,_=>by cases h
|k::ks,ds,[],h,_=>by cases h
|k::ks,ds,(n,v)::aO,h,hd=>by
 simp only[v4,A94]at h;let⟨rfl,h⟩:=h;cases ds with
 |nil=>simp[aq]at hd
 |cons d ds=>
  simp only[v4,aq]at hd;let⟨v',r,e1,h4,h5⟩:=hd;cases e1;by_cases hk:k=c
  .subst hk;exact .inl ⟨d,v,by simp[Z.fi],nU rfl,h4⟩
  .have nk:¬(GT ⟨k.toArray⟩:Key)=GT ⟨c.toArray⟩:=λ z=>hk<|nh.mp<|A74 z;rcases OT (c:=c) h h5 with⟨d',v',e1,e2,e3⟩|⟨e1,e2⟩
   .exact .inl ⟨d',v',by simp only[v4,Z.fi,o0 hk];exact e1,by rw[kZ nk];exact e2,e3⟩
   .exact .inr ⟨by simp only[v4,Z.fi,o0 hk];exact e1,by rw[kZ nk];exact e2⟩
theorem We{K:Frag}(h:P! K H 1 d v):∃(a:δ)(ks:γ _)(ds:γ Z.D)(aO:γ _),d=.dct (.inl (a)::.inl 1::ks.map .inr) ds/\v=.ref a/\H a=AC (.dK aO)/\aO.map (·.1)=ks.map (λ c=>(GT ⟨c.toArray⟩))/\aq K H ds (aO.map (·.2)):=by
 let⟨a,ks,ds,u,rfl,rfl,q,t⟩:=h;rcases t with⟨z,_⟩|⟨_,aO,rfl,h2,h3⟩
 .cases z
 .exact⟨a,ks,ds,aO,rfl,rfl,q,h2,h3⟩
section
variable{X:Cx}
theorem Eu:∀σ H Q,tZ X.K (Z.eB (Z.tq b) fa fo) σ H Q->(λ σ H Q=>tZ X.K fa σ H λ y H1=>tZm X.K 1 fo σ H1 λ x H2=>∃a o,x=.ref a/\A8 H2 a y o/\Q (.bl<|o.isSome==b) H2) σ H Q:=by
 rintro σ H Q ⟨ρ,d,r,e,k⟩;let⟨x,ex,e⟩:=al e;let⟨t,et,e⟩:=al e;refine⟨ρ,x,r,ex,λ y H1 s1 d1=>⟨ρ,t,r.up s1,et,λ u H2 s2 d2=>?_⟩⟩;let⟨a,ks,ds,aO,rfl,rfl,q,h2,h3⟩:=We d2;have hc:∃c,x=.str c:=by
  cases x with
  |str c=>exact⟨_,rfl⟩
  |_=>exact Z.wd0 e
 let⟨c,rfl⟩:=hc;have hy:y=kV (.inr ⟨c.toArray⟩):=by simp only[Den]at d1;exact d1
 have e:=e;let⟨_,e⟩:=Z.bw e;cases e;refine⟨a,_,rfl,.inl ⟨aO,_,.inl q,hy,rfl⟩,?_⟩;have k:=k _ H2 (s1.trans s2) cE;rcases OT h2 h3 with⟨_,_,e1,e2,_⟩|⟨e1,e2⟩
 .rw[e1]at k;rw[e2];cases b<;>exact k
 .rw[e1]at k;rw[e2];cases b<;>exact k
theorem _root_.Lake.ZQ.Uz(hu:X.A.units+64<cLine)(ha:ZQ.QE X a fa)(ho:ZQ.QM X 1 o fo)(hm:behindInMarks .In o=AT:=by with_unfolding_all rfl):ZQ.QT X (.Compare a [.In] [o] pos) (Z.tE<|Z.eB (Z.tq Da) fa fo):=
 ⟨qV (IF (Sm ∅ ha.p ho.p) hm) λ σ H Q h=>by have:=Eu σ H Q h;simp only[beq_true]at this;exact this⟩
theorem _root_.Lake.ZQ.GL(hu:X.A.units+64<cLine)(ha:ZQ.QE X a fa)(ho:ZQ.QM X 1 o fo)(hm:behindInMarks .NotIn o=AT:=by with_unfolding_all rfl):ZQ.QT X (.Compare a [.NotIn] [o] pos) (Z.tE<|Z.eB (Z.tq AT) fa fo):=
 ⟨qV (IF (FK ∅ ha.p ho.p) hm) λ σ H Q h=>by have:=Eu σ H Q h;simp only[beq_false]at this;exact this⟩
theorem _root_.Lake.ZQ.UT(hu:X.A.units+64<cLine)(ho:ZQ.QM X 1 o fo)(ha:ZQ.QE X a fa)(hs:Vg a:=by intro _ _;rfl):ZQ.QE X (.Subscript o a pos) (Z.eB Z.F1 fo fa):=
 ⟨PE.imp (Nh ∅ ho.p ha.p hs) <|by
  rintro σ H Q ⟨ρ,d,r,e,k⟩;let⟨t,et,e⟩:=al e;let⟨x,ex,e⟩:=al e;refine⟨ρ,t,r,et,λ u H1 s1 d1=>⟨ρ,x,r.up s1,ex,λ y H2 s2 d2=>?_⟩⟩;let⟨a,ks,ds,aO,rfl,rfl,q,h2,h3⟩:=We (d1.up s2);have hc:∃c,x=.str c:=by
   cases x with
   |str c=>exact⟨_,rfl⟩
   |_=>exact Z.wd0 e
  let⟨c,rfl⟩:=hc;have hy:y=kV (.inr ⟨c.toArray⟩):=by simp only[Den]at d2;exact d2
  have e:=e;let⟨_,e⟩:=Z.bw e;rcases OT h2 h3 with⟨d',v,e1,e2,e3⟩|⟨e1,_⟩
  .rw[e1]at e;cases e;exact⟨a,v,rfl,.inl ⟨aO,_,.inl q,hy,e2.symm⟩,k v H2 (s1.trans s2) e3⟩
  .rw[e1]at e;cases e⟩
end
end ZS
namespace Z
noncomputable def zH(x d:D)(t:ε (ε L)):Res L:=match x with
|.str c=>wdT t (λ a k ks vs=>guard (k=1/\ks.length<1000/\ks.Nodup)<|.ok<|.bor<|.dct (.inl a::.inl k::(eK c d ks vs).1) (eK c d ks vs).2) .bad
|_=>.bad
def Tn(i:Nat)(k e:EF)(ρ:Env):Res wW:=(e ρ).bind λ d=>(k ρ).bind λ x=>(zH x d ρ[i]?).bind λ l=>.ok<|.nx<|ρ.set i<|some l
noncomputable def gr(c:γ Nat):γ (Sum Int<|γ Nat)->γ D->γ (Sum Int<|γ Nat)×γ D
|k::ks,v::vs=>if k=.inr c then(ks,vs)else(k::(gr c ks vs).1,v::(gr c ks vs).2)
|ks,vs=>(ks,vs)
noncomputable def zJ(x:D)(t:ε (ε L)):Res (D×L):=match x with
|.str c=>wdT t (λ a k ks vs=>guard (k=1/\ks.Nodup)<|(fi ks vs c).bind λ d=>.ok (d,.bor<|.dct (.inl a::.inl k::(gr c ks vs).1) (gr c ks vs).2)) .bad
|_=>.bad
def To(i:Nat)(k:EF)(ρ:Env):Res (D×Env):=(k ρ).bind λ x=>(zJ x ρ[i]?).bind λ r=>.ok (r.1,ρ.set i<|some r.2)
end Z
namespace ZS
open L2 PySem.W
theorem zI{aO:γ (Key×V)}(h:∀p∈aO,p.1≠k):putK ((k,v)::aO) k y=(k,y)::aO:=by
 unfold putK;rw[W1 ∅,v4,W1 rfl]
 congr 1
 induction aO with
 |nil=>rfl
 |cons p l ih=>rw[v4,o0<|h p<|.head _,ih λ q hq=>h q<|.tail _ hq]
theorem vN{aO:γ (Key×V)}(h:n≠k):putK ((n,v)::aO) k y=(n,v)::putK aO k y:=by
 unfold putK;have e:(((n,v)::aO).any λ kv=>decide<|kv.1=k)=aO.any λ kv=>decide (kv.1=k):=by simp[h]
 rw[e];split
 .rw[v4,o0 h]
 .rfl
theorem uT{K:Frag}{H:Hp}{c:γ Nat}{d:Z.D}{y:V}(hy:Den K H d y):∀{ks:γ (γ Nat)}{ds:γ Z.D}{aO:γ (Key×V)},ks.Nodup->aO.map (·.1)=ks.map (λ c=>(GT ⟨c.toArray⟩:Key))->aq K H ds (aO.map (·.2)) ->
 ∃ks':γ (γ Nat),(Z.eK c d (ks.map .inr) ds).1=ks'.map .inr/\(putK aO (.inr ⟨c.toArray⟩) y).map (·.1)=ks'.map (λ c=>(GT ⟨c.toArray⟩:Key))/\aq K H (Z.eK c d (ks.map .inr) ds).2 ((putK aO (.inr ⟨c.toArray⟩) y).map (·.2))
|[],ds,[],_,_,hd=>⟨[c],by simp[Z.eK],by simp[putK],by simp only[A35,Z.eK,putK];exact aq.cons hy aq.nil⟩
|[],ds,_::_,_,h,_=>by cases h
|k::ks,ds,[],_,h,_=>by cases h
|k::ks,ds,(n,v)::aO,nd,h,hd=>by
 simp only[v4,A94]at h;let⟨rfl,h⟩:=h;cases ds with
 |nil=>simp[aq]at hd
 |cons d0 ds=>
  simp only[v4,aq]at hd;let⟨v',r,e1,h4,h5⟩:=hd;cases e1;let⟨nk,nd⟩:=A14.mp nd;by_cases hk:k=c
  .subst hk;have hh:∀p∈aO,p.1≠(GT ⟨k.toArray⟩:Key):=λ p hp z=>by have:p.1∈aO.map (·.1):=C20 hp;rw[h,z]at this;let⟨c',qQ,e⟩:=v6.mp this;exact nk<|nh.mp (A74 e)▸qQ
   refine⟨k::ks,by simp[Z.eK],?_,?_⟩
   .rw[zI hh];simp[h]
   .rw[zI hh];simp only[v4,Z.eK,W1 rfl];exact aq.cons hy h5
  .have ne:(GT ⟨k.toArray⟩:Key)≠GT ⟨c.toArray⟩:=λ z=>hk<|nh.mp<|A74 z;let⟨ks',q1,q2,q3⟩:=uT (c:=c) hy nd h h5;refine⟨k::ks',?_,?_,?_⟩
   .simp only[v4,Z.eK,o0 hk,q1]
   .rw[vN ne];simp[q2]
   .rw[vN ne];simp only[v4,Z.eK,o0 hk];exact aq.cons h4 q3
theorem vT{ks:γ _}(h:(ks.map GT:γ (Sum Int<|γ Nat)).Nodup):ks.Nodup:=by
 induction ks with
 |nil=>exact B14
 |cons a l ih=>rw[v4]at h;let⟨h1,h2⟩:=A14.mp h;exact A14.mpr ⟨λ z=>h1<|C20 z,ih h2⟩
section
variable{H0:Hp}{ms:γ Nat}{as:γ δ}
theorem IE(h:Z.zH x d t=.ok l):∃c a ks vs,x=.str c/\t=AC (AC<|.bor<|.dct (.inl a::.inl 1::ks) vs)/\(ks.length<1000/\ks.Nodup)/\l=.bor (.dct (.inl a::.inl 1::(Z.eK c d ks vs).1) (Z.eK c d ks vs).2):=by
 cases x with
 |str c=>unfold Z.zH at h;rcases Z.wd2 t with ⟨a,k,ks,vs,rfl⟩|hb
         ·let⟨⟨rfl,q⟩,h⟩:=Z.bw h;cases h;exact⟨c,a,ks,vs,rfl,rfl,q,rfl⟩
         ·exact Z.wd0 ((hb _ _).symm.trans h)
 |_=>exact Z.wd0 h
theorem RM.dict{K:Frag}{i:Nat}{a0:Int}{XU:γ (Sum Int<|γ Nat)}{vs:γ Z.D}(rm:RM K H0 ms as H σ ρ)(hi:ρ[i]?=AC (AC<|.bor<|.dct (.inl a0::.inl 1::XU) vs)):
 ∃(p:δ)(ks:γ (γ Nat))(aO:γ (Key×V)),a0=(p:Nat)/\XU=ks.map .inr/\ρ[i]?=AC (AC<|.bor<|Z.e! p 1 ks vs)/\σ[i]?=AC (AC<|.ref p)/\H p=AC (.dK aO)/\aO.map (·.1)=ks.map (λ c=>(GT ⟨c.toArray⟩:Key))/\aq K H vs (aO.map (·.2)):=by
 let⟨p,kd,ks,vs',e1⟩:=rm.tagged hi;unfold Z.e! at e1;injection e1 with e1 e2
 injection e1 with e1 e3
 injection e3 with e3 e4
 injection e1 with e1
 injection e3 with e3
 subst e1 e2 e4;have:kd=1:=(B41 e3.symm)
 subst this;have x_:ρ[i]?=AC (AC<|.bor<|Z.e! p 1 ks vs):=hi;let⟨Gm,u,hu,th⟩:=rm.thing x_;rcases th with⟨z,_⟩|⟨_,aO,rfl,h2,h3⟩
 .cases z
 .exact⟨p,ks,aO,rfl,rfl,x_,Gm,hu,h2,h3⟩
theorem _root_.Lake.ZQ.Tb(hu:X.A.units+64<cLine)(ho:PE X o (mS i))(hk:ZQ.QE X a fk)(he:ZQ.QE X value fe)(hs:swapsWith value (AC<|.Subscript o a pos') pos.line X.env=pure AT:=by rfl):
 ZQ.HC X H0 ms as (.Assign [.Subscript o a pos'] value pos) (Z.Tn i fk fe):=⟨PS.imp (M! ∅ ho hk.p he.p hs) <|by
 rintro D σ H ⟨ρ,fl,rm,e,k⟩;let⟨d,ed,e⟩:=al e;let⟨x,ex,e⟩:=al e;let⟨l,el,e⟩:=al e;cases e;let⟨c,a0,XU,vs,rfl,hi,⟨ψ,OG⟩,rfl⟩:=IE el;refine⟨ρ,d,rm.rs.re,ed,λ y H1 s1 dy=>?_⟩;have pB:=rm.up s1;let⟨p,_,_,_,_,_,Gm,_⟩:=pB.dict hi;refine⟨_,Gm,ρ,_,pB.rs.re,ex,λ z H2 s2 dz=>?_⟩;have A?:=pB.up s2;let⟨p',ks,aO,e1,rfl,x_,Cp,hp,h2,h3⟩:=A?.dict hi;have:p'=p:=by rw[Gm]at Cp;injection Cp with q;injection q with q;injection q with q;exact q.symm
 subst this;have hz:z=kV (.inr ⟨c.toArray⟩):=by simp only[Den]at dz;exact dz
 let⟨ks',q1,q2,q3⟩:=uT (c:=c) (dy.up s2) (vT OG) h2 h3;have Ho:gv H2 (upd H2 p'<|.dK<|putK aO (.inr ⟨c.toArray⟩) y):=lR hp (λ _ z=>nomatch z) λ _ _ z=>nomatch z;let⟨st,rm3⟩:=A?.write x_ (.inr ⟨rfl,_,rfl,q2,q3.ups Ho⟩);refine⟨p',_,rfl,.inl ⟨aO,.inr ⟨c.toArray⟩,hp,hz,?_,rfl⟩,k σ _ (((jR s1).trans<|jR s2).trans st) ?_⟩
 .have e1:=A12 List.length h2;simp only[A04]at e1 ψ;rw[A25];lia
 .rw[q1,e1];exact rm3⟩
theorem IJ(h:Z.zJ x t=.ok r):∃c a ks vs,x=.str c/\t=AC (AC<|.bor<|.dct (.inl a::.inl 1::ks) vs)/\ks.Nodup/\Z.fi ks vs c=.ok r.1/\r.2=.bor (.dct (.inl a::.inl 1::(Z.gr c ks vs).1) (Z.gr c ks vs).2):=by
 cases x with
 |str c=>unfold Z.zJ at h;rcases Z.wd2 t with ⟨a,k,ks,vs,rfl⟩|hb
         ·let⟨⟨rfl,q⟩,h⟩:=Z.bw h;let⟨d,e1,h⟩:=al h;cases h;exact⟨c,a,ks,vs,rfl,rfl,q,e1,rfl⟩
         ·exact Z.wd0 ((hb _ _).symm.trans h)
 |_=>exact Z.wd0 h
theorem CG{k:Key}:∀{aO},(∀p∈aO,p.1≠k)->g! aO k=aO:=λ {aO} h=>by unfold g!;rw[A83];exact λ p hp=>by simpa using h p hp
theorem Rh{K:Frag}{H:Hp}{c:γ Nat}:∀{ks:γ (γ Nat)}{ds:γ Z.D}{aO:γ (Key×V)},ks.Nodup->aO.map (·.1)=ks.map (λ c=>(GT ⟨c.toArray⟩:Key))->aq K H ds (aO.map (·.2)) ->
 ∃ks':γ (γ Nat),(Z.gr c (ks.map .inr) ds).1=ks'.map .inr/\(g! aO<|.inr ⟨c.toArray⟩).map (·.1)=ks'.map (λ c=>(GT ⟨c.toArray⟩:Key))/\aq K H (Z.gr c (ks.map .inr) ds).2 ((g! aO<|.inr ⟨c.toArray⟩).map (·.2))
|[],ds,[],_,_,hd=>⟨[],by simp[Z.gr],by simp[g!],by simpa[Z.gr,g!]using hd⟩
|[],ds,_::_,_,h,_=>by cases h
|k::ks,ds,[],_,h,_=>by cases h
|k::ks,ds,(n,v)::aO,nd,h,hd=>by
 simp only[v4,A94]at h;let⟨rfl,h⟩:=h;cases ds with
 |nil=>simp[aq]at hd
 |cons d0 ds=>
  simp only[v4,aq]at hd;let⟨v',r,e1,h4,h5⟩:=hd;cases e1;let⟨nk,nd⟩:=A14.mp nd;by_cases hk:k=c
  .subst hk;have hh:∀p∈aO,p.1≠(GT ⟨k.toArray⟩:Key):=λ p hp z=>by have:p.1∈aO.map (·.1):=C20 hp;rw[h,z]at this;let⟨c',qQ,e⟩:=v6.mp this;exact nk<|nh.mp (A74 e)▸qQ
   have e2:g! ((GT ⟨k.toArray⟩,v)::aO) (.inr ⟨k.toArray⟩)=aO:=by rw[<-CG hh];simp[g!]
   rw[e2];refine⟨ks,?_,h,?_⟩
   .simp[Z.gr]
   .simpa[Z.gr]using h5
  .have ne:(GT ⟨k.toArray⟩:Key)≠GT ⟨c.toArray⟩:=λ z=>hk<|nh.mp<|A74 z;have nk2:¬(GT k:Sum Int (γ Nat))=.inr c:=λ z=>hk<|A74 z;let⟨ks',q1,q2,q3⟩:=Rh (c:=c) nd h h5;have e2:g! ((GT ⟨k.toArray⟩,v)::aO) (.inr ⟨c.toArray⟩)=(GT ⟨k.toArray⟩,v)::g! aO (.inr ⟨c.toArray⟩):=by unfold g!;rw[B17 (by simpa using ne)]
   rw[e2];refine⟨k::ks',?_,?_,?_⟩
   .simp only[v4,Z.gr,o0 nk2,q1]
   .simp[q2]
   .simp only[v4,Z.gr,o0 nk2];exact aq.cons h4 q3
theorem _root_.Lake.ZQ.Tg{apos iZ:Pos}(ho:PE X o (mS i))(ha:ZQ.QE X a fk)
 (gZ:attributeBase o "pop" X.env (eval o X.env)=eval o X.env:=by rfl)
 (lx:((backTo iZ<|starEach [a] X.env).all (λ x=>!x.1)&&(backToKw iZ<|keywordEach [] X.env).all (λ x=>x.1.isSome)
  && decide (([a]).length+([]:γ π).length+(if([]:γ π).isEmpty then 0 else 1)<30))=Da:=by rfl)
 (gW:(apos.endLine==iZ.line)=Da:=by rfl) (ht:backTo iZ (starEach [a] X.env)=[(AT,eval a X.env)]:=by rfl) :
 ZQ.A7 X H0 ms as (.Call (.Attribute o "pop" apos) [a] [] iZ) (Z.To i fk):=⟨by
 have ha:=ha.p;intro χ s σ H Q I w;let⟨ρ,d,ρ',rm,e,k⟩:=w;let⟨x,ex,e⟩:=al e;let⟨r,er,e⟩:=al e;cases e;let⟨c,a0,XU,vs0,rfl,hi,OG,eg,el⟩:=IJ er;let⟨p,ks,aO,e1,rfl,x_,Gm,hp,h2,h3⟩:=rm.dict hi;refine wpAny_Call_method_late gZ lx gW ht<|b! (ho χ s σ H (λ v H1=>v=.ref p/\H1=H) I ⟨_,Gm,rfl,rfl⟩) ?_;rintro u s1 ⟨v1,H1,I1,ru,rfl,rfl⟩;obtain rfl:u=Value.ref p:=ru;obtain⟨_,_,_,_,oo,_,_,g1,gx,_⟩:=(I1.bG p _ hp)
 refine⟨"dict","dict.pop",PySem.F.plainAttrs_dict,C42,PySem.F.type_dict_pop,⟨oo,g1,gx.1⟩,λ b eb=>?_,?_⟩
 .cases eb;exact⟨oo,g1,gx.2.1⟩
 refine Calls.callWith_builtin rfl<|B89<|Calls.spliced_cons<|b! (ha χ s1 σ H1 (λ v H2=>aw H1 H2/\Den X.K H2 (.str c) v) I1 ⟨ρ,_,rm.rs.re,ex,λ v H2 s2 dv=>⟨s2,dv⟩⟩) ?_;rintro u2 s2 ⟨v2,H2,I2,ru2,vK,dv2⟩;refine Calls.spliced_nil ?_;simp only[Den]at dv2;subst dv2;have A?:=rm.up vK;have _s:=vK _ _ hp;have h32:=h3.up vK;rcases OT h2 h32 with⟨d',v,q1,q2,q3⟩|⟨q1,_⟩
 .rw[q1]at eg;cases eg;let⟨ks',w1,w2,w3⟩:=Rh (c:=c) (vT OG) h2 h32;have Ho:gv H2 (upd H2 p<|.dK<|g! aO<|.inr ⟨c.toArray⟩):=lR _s (λ _ z=>nomatch z) λ _ _ z=>nomatch z;let⟨st,rm3⟩:=A?.write (u':=.dK (g! aO<|.inr ⟨c.toArray⟩)) (kd':=1) (ks':=ks') (vs':=(Z.gr c (ks.map .inr) vs0).2) x_ (.inr ⟨rfl,_,rfl,w2,w3.ups Ho⟩);refine Y8 I2 _s (k:=.inr ⟨c.toArray⟩) ru2 q2 (.inl rfl) λ w' s3 I3 FG=>⟨v,_,I3,FG,k v _ (λ b o hb q=>?_) ?_<|q3.ups Ho⟩
  .rw[au λ z=>hb (by rw[z];exact rm.mem x_)];exact vK b o q
  .rw[el,w1,e1];exact rm3
 .rw[q1]at eg;cases eg⟩
end
end ZS
namespace Z
open Classical in
def allM(f:Nat->Res wW):Res wW:=if h:∃r:D×γ D,∀x,f x=.ok (.rt r.1 r.2)then .ok (.rt h.choose.1 h.choose.2)else .bad
theorem P8(h:allM f=.ok fl):∃d ts,fl=.rt d ts/\∀x,f x=.ok (.rt d ts):=by
 unfold allM at h;split at h
 .rename_i q;cases h;exact⟨_,_,rfl,q.choose_spec⟩
 .cases h
theorem allM_mk(h:∀x,f x=.ok (.rt d ts)):allM f=.ok (.rt d ts):=by
 have q:∃r:D×γ D,∀x,f x=.ok (.rt r.1 r.2):=⟨(d,ts),h⟩
 unfold allM;rw[A90 q];have:=(q.choose_spec 0).symm.trans<|h 0;simp only[Res.ok.injEq,wW.rt.injEq]at this;rw[this.1,this.2]
def Ee(ms:γ Nat)(i:Nat)(r:SM)(ρ:Env):Res wW:=guard (i∉ms) (allM λ x=>(r<|ρ.set i<|some<|.bor<|e! x 1 [] []).bind λ fl=>match fl with
|.rt d ts=>guard (ts.length=ms.length+1)<|.ok<|.rt d<|ts.take ms.length
| _=>.bad)
end Z
namespace ZS
open L2 PySem.W
theorem BY:∀{l}{m}{x}{y},Paired R l m->R x y->Paired R (l++[x]) (m++[y]):=by
 intro l m x y p r
 induction p with
 |nil=>exact .cons r .nil
 |cons a t ih=>exact .cons a ih
theorem qE:∀{l}{m}{x},Paired R (l++[x]) m->Paired R l (m.take l.length)
|[],m,x,h=>by simpa using Paired.nil
|a::l,_,x,.cons r t=>by simpa using Paired.cons r (qE t)
section
variable{K:Frag}
theorem RM.grow(h:RM K H0 ms as H σ ρ)(hp:H p=Ch)(hi:i∉ms)(Am:i<ρ.length)(t:Hc K (upd H p u) kd ks vs u):
 RM K H0 (ms++[i]) (as++[p]) (upd H p u) (σ.set i<|some<|.ref p) (ρ.set i<|some<|.bor<|Z.e! p kd ks vs):=by
 have pn:p∉as:=λ z=>by let⟨u',q⟩:=h.tracked z;rw[hp]at q;cases q
 have n0:H0 p=Ch:=by
  cases q:H0 p with
  |none=>rfl
  |some o=>rw[h.same _ _ q]at hp;cases hp
 have hov:over H0 (upd H p u) (as++[p])=upd (over H0 H as) p u:=by
  funext b
  by_cases hb:b=p
  .subst hb;rw[b_ ∅,aA,aA]
  .rw[au hb];by_cases hm:b∈as
   .rw[b_<|A76 _ hm,b_ hm,au hb]
   .rw[cy (by simp[hm,hb]),cy hm]
 refine⟨by rw[hov];exact h.rs.uU hp (bT hp) aA t Am,BY (da h.at_ <|by rintro j hj a ⟨kd,ks,vs,q⟩;exact⟨kd,ks,vs,by rw[A33 λ z=>hi (by rw[z];exact hj)];exact q⟩) ⟨kd,ks,vs,A41 Am⟩,pW λ j x e tt=>?_,?_,λ a ha=>?_⟩
 .by_cases rS:i=j
  .subst rS;simp
  .rw[A33 rS]at e;exact A76 _<|gK h.no e tt
 .refine B71.mpr ⟨h.nd,by simp,λ a ha b hb=>?_⟩;rw[A15.mp hb];exact λ z=>pn<|z▸ha
 .rcases A37.mp ha with ha|ha
  .exact h.h0 a ha
  .rw[A15.mp ha];exact n0
end
section
variable{rest:γ ι}{pos pos' Y2:Pos}
theorem _root_.Lake.ZQ.Ju(hN:X.N.Nodup)(hi:X.N[i]?=AC y)(hy:Loc X.env.scope y)(lu:∀p,ZQ.nM X H0 (ms++[i]) (as++[p]) rest r)
 (hs:swapsWith (.Dict [] [] Y2) (AC<|.Name y pos') pos.line X.env=pure AT:=by rfl) (hf:X.fn y=Da\/X.env.scope.names.lookup y=AC .local:=by first|exact .inl rfl|exact .inr rfl|assumption) :
 ZQ.nM X H0 ms as (.Assign [.Name y pos'] (.Dict [] [] Y2) pos::rest) (Z.Ee ms i r):=⟨by
 have lu:=λ p=>(lu p).p;have hR:qp X rest (λ D σ H=>∃p,tM X.K H0 _ _ r D σ H):=λ χ s σ H D I ⟨p,w⟩=>lu p χ s σ H D I w;rintro χ s σ H D I ⟨ρ,fl,rm,e,k⟩;let⟨him,e⟩:=Z.bw e;let⟨d,ts,rfl,er⟩:=Z.P8 e;have Am:i<ρ.length:=by rw[rm.rs.re.len,I.len];exact(A03.mp hi).1
 refine jA (mZ hN hi hy IT hs hf) hR χ s σ H D I λ p hp=>⟨p,?_⟩
 let⟨f1,e1,e2⟩:=al (er p);cases f1 with
 |nx _=>cases e2
 |rt d1 ts1=>let⟨hl,e2⟩:=Z.bw e2;cases e2;refine⟨_,_,rm.grow hp him Am<|.inr ⟨rfl,[],rfl,rfl,aq.nil⟩,e1,λ v H' sm th dv=>k v H' sm ?_ dv⟩;have:=qE<|th;have ll:=(B44 rm.at_).symm;rw[ll]at this;exact this⟩
end
end ZS
namespace Z
abbrev eqB(x y:D):Bool:=(jS y x).getD AT
def xM:D->D->Res D
|.lst ys,x=>guard ((mQ x ys).isSome=Da/\ys.findIdx (eqB x)<ys.length)<|.ok<|.int (ys.findIdx (eqB x):Nat)
|_,_=>.bad
end Z
namespace ZS
open L2 PySem.W
theorem OB(I:Inv X χ σ H s)(hu:A.units+60<cLine)(hx:bp X.K H x v)(rx:RelV v u)(t:aq X.K H ys vs)(r:Vals vs us)(hh:∀y∈ys,Z.jS y x=AC (Z.eqB x y)):
 ∃e:ζ->Bool,(∀w∈us,Pi A s w u (e w))/\∀(j:Nat) y w,ys[j]?=AC y->us[j]?=AC w->e w=Z.eqB x y:=by
 classical
 have he:∀(j:Nat) y w,ys[j]?=AC y->us[j]?=AC w->(λ w=>decide<|∃y vy,Den X.K H y vy/\RelV vy w/\Z.eqB x y=Da) w=Z.eqB x y:=by
  intro j y w hy hw;let⟨vy,HB,dy⟩:=t.get hy;let⟨u',O0,LW⟩:=r.get HB;rw[hw]at O0;cases O0;have key:(∃y vy,Den X.K H y vy/\RelV vy w/\Z.eqB x y=Da)↔Z.eqB x y=Da:=by refine⟨?_,λ h=>⟨y,vy,dy,LW,h⟩⟩;rintro⟨y',vy',YZ,WD,h⟩;have ev:=WD.inj LW;subst ev;rw[Den.inj I _ _ _ dy YZ];exact h
  cases hb:Z.eqB x y with
  |true=>exact A39<|key.mpr hb
  |false=>exact A32 λ z=>by rw[key.mp z]at hb;cases hb
 refine⟨_,λ w hw=>?_,he⟩;let⟨j,hj,ej⟩:=C00 hw;have hl:=r.length;have ht:=t.length;obtain⟨y,ey⟩:∃y,ys[j]?=AC y:=⟨ys[j]'∅,A00 ∅⟩
 have hw':us[j]?=AC w:=by rw[A00 hj,ej]
 let⟨vy,HB,dy⟩:=t.get ey;let⟨u',O0,LW⟩:=r.get HB;rw[hw']at O0;cases O0;have h2:=he j y w ey hw';dsimp only at h2 ⊢;rw[h2];exact(Vx I 6 ∅ (hh y<|A18 ey) (.inl dy) hx LW rx).2.1
def R5(K:Db):V->γ V->Hp->VK->Prop:=λ x vs H Q=>∃d ys q us v,x=.ref q/\vs=[v]/\i4 K H q us/\aq K H ys us/\bp K H d v/\(∀y∈ys,Z.jS y d=AC (Z.eqB d y))/\ys.findIdx (Z.eqB d)<ys.length/\Q (.int (ys.findIdx (Z.eqB d):Nat)) H
theorem Js(hu:X.A.units+64<cLine):Vh X "list.index" (R5 X.K):=by
 intro χ s σ H x vs v us Q I rx rv h;let⟨d,ys,q,us',v',rfl,rfl,hq,t,hd,e2,hj,k'⟩:=h;cases rx;let⟨u,rfl,ru⟩:=rv.one;let⟨aW,r,pl,hz⟩:=I.list hq;let⟨f,hf,Cq⟩:=OB I (A:=X.A.in1) (show X.A.units+1+60<cLine by lia) hd ru t r e2;let⟨⟨cls,dd,data,sl⟩,ho,hc,n,pC⟩:=id pl.isList;simp only at hc pC;subst hc pC;have hl:=r.length;have ht:=t.length;have Co:aW.length<=16777216:=by first|(have:=hz;simp only[sizeLine]at this;lia)|(rw[<-hl];have:=hz;simp only[sizeLine]at this;lia)
 have at_:=λ m hm hm'=>Cq m _ _ (A00 hm')<|A00 hm;refine A61 F.slot_list_index ⟨_,ho,rfl⟩ F.entry_list_index (F.args_list_index_2 _ _) (SeqAt.list_indexAt q _ n dd sl u f (ys.findIdx<|Z.eqB d) (by simp;lia) ∅ ?_ ?_) ⟨ho,λ w hw=>hf w (by simpa using hw),?_⟩
 .rw[im,at_ _ ∅ hj];exact List.findIdx_getElem
 .intro m hm jc;have hm':m<aW.length:=by simpa using hm
  rw[im,at_];exact List.not_of_lt_findIdx jc
 .exact⟨.int _,H,I.tok _,⟨_,rfl⟩,k'⟩
theorem _root_.Lake.ZQ.K!(hu:X.A.units+64<cLine)(ho:ZQ.QW X o fa)(hb:ZQ.QW X b fb)
 (gZ:attributeBase o "index" X.env (eval o X.env)=eval o X.env:=by rfl)
 (lx:((backTo p2<|starEach (b::[]) X.env).all (λ x=>!x.1)&&(backToKw p2<|keywordEach [] X.env).all (λ x=>x.1.isSome)
  && decide ((b::[]).length+([]:γ π).length+(if([]:γ π).isEmpty then 0 else 1)<30))=Da:=by rfl)
 (gW:(p1.endLine==p2.line)=Da:=by rfl) (mL:Se b [] X.env:=by rfl) (fh:Pn p2 [] X.env:=by rfl) :
 ZQ.QE X (.Call (.Attribute o "index" p1) [b] [] p2) (Z.eB Z.xM fa fb):=
 ⟨PE.imp (sY B58 PySem.F.slot_list_index PySem.F.type_list_index (Js hu) ho.p (a6 hb.p bV mL) gZ lx gW mL fh) <|by
  rintro σ H Q ⟨ρ,d,r,e,k⟩;let⟨x,ea,e⟩:=al e;let⟨y,eb,e⟩:=al e;refine⟨ρ,x,r,ea,λ v H1 s1 d1=>?_⟩;have hc:∃ys,x=.lst ys:=by
   cases x with
   |lst ys=>exact⟨ys,rfl⟩
   |_=>cases e
  let⟨ys,rfl⟩:=hc;let⟨⟨h1,h2⟩,e'⟩:=Z.bw e;cases e';let⟨n,hn⟩:=A68.mp h1;let⟨q,vs,rfl,hq,t⟩:=d1.lst;refine⟨.inl ⟨rfl,vs,hq⟩,ρ,y,r.up s1,eb,λ u H2 s2 d2=>?_⟩;exact⟨y,ys,q,vs,u,rfl,rfl,s2.seq hq,t.up s2,d2,(uw hn).2,h2,k _ H2 (s1.trans s2) bZ⟩⟩
section
variable{X:Cx}
theorem _root_.Lake.ZQ.XB(ha:ZQ.A7 X H0 ms as a fa)(hb:ZQ.A7 X H0 ms as b fb)(hs:r8 b:=by intro _ _;rfl):ZQ.A7 X H0 ms as (.Subscript a b pos) (Z.mB Z.aZ fa fb):=⟨by let⟨_,h,o⟩:=Qz;exact PE.imp (IQ h ha.p hb.p hs)<|S? o⟩
theorem _root_.Lake.ZQ.Th(hg:Gl X x)(hm:X.mg x=Ch)(hv:bootBuiltins x=AC (.type "int"))(ha:ZQ.A7 X H0 ms as a fa)(hn:x≠ "__name__":=by decide +kernel)(gi:Nd x:=by kernel_rfl)
 (he:Se a [] X.env:=by rfl) (d!:Pn pos [] X.env:=by rfl):ZQ.A7 X H0 ms as (.Call (.Name x p1) [a] [] pos) (Z.mU Z.pV fa):=
 ⟨PE.imp (lT wK hg hm hv (a6 ha.p bV he) hn gi he d!) <|by
  rintro σ H Q ⟨ρ,d,ρ',rm,e,k⟩;let⟨⟨x,ρ1⟩,ea,e⟩:=al e;let⟨z,eo,e⟩:=al e;cases e;refine⟨ρ,x,ρ1,rm,ea,λ v H1 m1 pB d1=>?_⟩;dsimp only[Z.pV]at eo;split at eo
  .cases eo;simp only[Den]at d1;exact .inl ⟨_,by rw[d1],k _ H1 m1 pB bZ⟩
  .cases eo;simp only[Den]at d1;exact .inr ⟨_,by rw[d1],k _ H1 m1 pB bZ⟩
  .cases eo⟩
end
def Rk(tg:θ)(is:γ Nat)(N:γ Str):γ Str:=(match tg with
|.Name x _=>[x]
|.Tuple es _ _=>es.filterMap λ e=>match e with
 |.Name x _=>AC x
 |_=>Ch
| _=>[])++is.filterMap (N[·]?)
theorem _root_.Lake.ZQ.Y5(hi:ZQ.QI X tg iter it)(he:∀{cl C fp s H},ZQ.QE (kP X (Rk tg is X.N) scope cl C fp s H) elt fe)(ht:∀{cl C fp s H},ZQ.He (kP X (Rk tg is X.N) scope cl C fp s H) ifs t)(hg:∀{cl C fp s H H0},ZQ.QG (kP X (Rk tg is X.N) scope cl C fp s H) H0 tg G)(hG:Gk G n)(cM:X.calm=Da:=by rfl)(B:uK X.N (Rk tg is X.N) n is scope X.env.scope:=by refine ZS.uK.of ?_;kernel_rfl)(hs:Fi iter X.env:=by intro _;rfl):ZQ.QL X (.ListComp elt [⟨tg,iter,ifs,0⟩] scope pos) (Z.bf it n is G t fe):=ZQ.KZ hi he ht hg cM B hG hs
theorem _root_.Lake.ZQ.Y1{X:Cx}(cM:X.calm=Da)(hN:X.N.Nodup)(Gr:X.N[i]?=AC x)(hx:Loc X.env.scope x)
 (hi:ZQ.QI X tg iter it) (hG:Gk G n)
 (hg:∀{cl C fp s H H0},ZQ.QG (kP X (Rk tg is X.N) scope cl C fp s H) H0 tg G) (ht:∀{cl C fp s H},ZQ.He (kP X (Rk tg is X.N) scope cl C fp s H) ifs t) (he:∀{cl C fp s H},ZQ.QE (kP X (Rk tg is X.N) scope cl C fp s H) elt fe) (B:uK X.N (Rk tg is X.N) n is scope X.env.scope:=by refine ZS.uK.of ?_;kernel_rfl)
 (TU:Sw elt tg iter ifs scope pos x px BI X.env:=by rfl)
 (hs:Fi iter X.env:=by intro _;rfl) (hf:Fl X x:=by trivial) :
 ZQ.QS X H0 (.Assign [.Name x px] (.ListComp elt [⟨tg,iter,ifs,0⟩] scope pos) BI) (Z.aK i<|Z.eL<|Z.bf it n is G t fe):=ZQ.yq cM hN Gr hx hi B hG (λ _ _ _ _ _ _=>hg) (λ _ _ _ _ _=>ht) (λ _ _ _ _ _=>he) TU hs hf
end ZS
theorem ZS.hv{p q:Prop}(h:p)(k:p->q):q:=k h
namespace Z
def Ok{α:Type}(r:Res α)(Q:α->Prop):Prop:=∃a,r=.ok a/\Q a
theorem Ok.imp(h:Ok r P)(k:∀a,P a->Q a):Ok r Q:=by let⟨a,e,p⟩:=h;exact⟨a,e,k a p⟩
theorem Ok.eq(h:Ok r λ x=>x=a):r=.ok a:=by let⟨x,e,rfl⟩:=h;exact e
@[simp] theorem Zo(a:α)(Q:α->Prop):Ok (.ok a) Q↔Q a:=⟨by rintro⟨_,e,q⟩;cases e;exact q,λ q=>⟨a,rfl,q⟩⟩
@[simp] theorem ac4(Q:α->Prop):Ok (.bad) Q↔False:=⟨by rintro⟨_,e,_⟩;exact(by cases e),GM⟩
@[simp] theorem _X(r:Res α)(f:α->Res β)(Q:β->Prop):Ok (r.bind f) Q↔Ok r λ a=>Ok (f a) Q:=by
 cases r with
 |ok a=>simp
 |bad=>simp
@[simp] theorem ac2(r:Res α)(f:α->β)(Q:β->Prop):Ok (r.map f) Q↔Ok r λ a=>Q (f a):=by
 cases r with
 |ok a=>simp
 |bad=>simp
@[simp] theorem Zp(p:Prop)(r:Res α)(Q:α->Prop):Ok (guard p r) Q↔p/\Ok r Q:=by
 constructor
 .rintro⟨a,e,q⟩;let⟨h,e⟩:=bw e;exact⟨h,a,e,q⟩
 .rintro⟨h,k⟩;rw[guard_pos h];exact k
@[simp] theorem ac3[Decidable c](r r':Res α)(Q:α->Prop):Ok (if c then r else r') Q↔if c then Ok r Q else Ok r' Q:=by split<;>rfl
abbrev v(d:D):ε L:=AC<|.val d
abbrev vi(i:Int):ε L:=AC<|.val<|.int i
abbrev vs(cs:γ Nat):ε L:=AC<|.val<|.str cs
abbrev ow(xs:γ D):ε L:=AC<|.own xs
noncomputable def _S:ε (ε L)->Res D
|some<|some<|.val d=>.ok d
|some<|some<|.own xs=>.ok<|.lst xs
|some<|some<|.bor<|.lst xs=>.ok<|.lst xs
|_=>.bad
def asV:ε (ε L)->Res D
|some<|some<|.val d=>.ok d
|_=>.bad
@[simp] theorem ahF(i:Nat)(ρ:Env):eW i ρ=_S ρ[i]?:=by
 unfold eW _S;cases ρ[i]? with
 |none=>rfl
 |some o=>cases o with
  |none=>rfl
  |some l=>cases l<;>rfl
@[simp] theorem ahG(i:Nat)(ρ:Env):eV i ρ=asV ρ[i]?:=by
 unfold eV asV;cases ρ[i]? with
 |none=>rfl
 |some o=>cases o with
  |none=>rfl
  |some l=>cases l<;>rfl
@[simp] theorem _Q(d:D):_S (AC<|some<|.val d)=.ok d:=rfl
@[simp] theorem _R(xs:γ D):_S (AC<|some<|.own xs)=.ok (.lst xs):=rfl
@[simp] theorem _T(d:D):asV (AC<|some<|.val d)=.ok d:=rfl
theorem ay{b:SF}(h:Ok (b ρ) λ fl=>bc (.ok fl)=.ok d):bc (b ρ)=.ok d:=by let⟨fl,e,q⟩:=h;rw[e,q]
theorem pS{b:SF}(h:Ok (b ρ) λ fl=>Ok (bc<|.ok fl) P):Ok (bc<|b ρ) P:=by let⟨fl,e,q⟩:=h;rw[e];exact q
@[simp] theorem aeE(i j:Nat)(a b:D)(ρ:Env):dE [i,j] (.tup [a,b]) ρ=.ok ((ρ.set i<|v a).set j<|v b):=rfl
def Zf(i:Nat)(ρ:Env)(d:D):ε (ε L)->Res Fl
|some<|some<|.own xs=>guard (xs.length<line)<|.ok<|.nx<|ρ.set i<|ow<|xs++[d]
|_=>.bad
@[simp] theorem Vs(i:Nat)(e:EF)(ρ:Env):cC i e ρ=(e ρ).bind λ d=>Zf i ρ d ρ[i]?:=rfl
@[simp] theorem Ze(i:Nat)(ρ:Env)(d:D)(xs:γ D):Zf i ρ d (AC<|some<|.own xs)=guard (xs.length<line) (.ok<|.nx<|ρ.set i<|ow<|xs++[d]):=rfl
def YN(i:Nat)(ρ:Env)(ys:γ D):ε (ε L)->Res Fl
|some<|some<|.own xs=>guard (xs.length+ys.length<=line)<|.ok<|.nx<|ρ.set i<|ow<|xs++ys
|_=>.bad
@[simp] theorem aas(i:Nat)(l:LF)(ρ:Env):FF i l ρ=(l ρ).bind λ ys=>YN i ρ ys ρ[i]?:=rfl
@[simp] theorem YM(i:Nat)(ρ:Env)(ys xs:γ D):YN i ρ ys (AC<|some<|.own xs)=guard (xs.length+ys.length<=line) (.ok<|.nx<|ρ.set i<|ow<|xs++ys):=rfl
noncomputable def Up(i:Nat)(ρ:Env):ε (ε L)->Env
|some<|some<|.own xs=>ρ.set i<|v<|.lst xs
|_=>ρ
@[simp] theorem aaq(i:Nat)(a:SF)(ρ:Env):pQ i a ρ=a (Up i ρ ρ[i]?):=by
 unfold pQ eJ Up;cases ρ[i]? with
 |none=>rfl
 |some o=>cases o with
  |none=>rfl
  |some l=>cases l<;>rfl
@[simp] theorem YJ(i:Nat)(ρ:Env)(xs:γ D):Up i ρ (AC<|some<|.own xs)=ρ.set i (v<|.lst xs):=rfl
def Ll:D->D->Res (γ D)
|.lst xs,.lst ys=>guard (xs.length+ys.length<=line)<|.ok<|xs++ys
|_,_=>.bad
theorem Ce(a b:EF)(ρ:Env):Gb a b ρ=(a ρ).bind λ x=>(b ρ).bind λ y=>Ll x y:=rfl
@[simp] theorem Y!(xs ys:γ D):Ll (.lst xs) (.lst ys)=guard (xs.length+ys.length<=line) (.ok<|xs++ys):=rfl
def slK(l h:ε Int):D->Res (γ D)
|.lst xs=>.ok<|cut xs l h
|_=>.bad
theorem Q1(a:EF)(lo hi:PF)(ρ:Env):Oa a lo hi ρ=(a ρ).bind λ x=>(lo ρ).bind λ l=>(hi ρ).bind λ h=>slK l h x:=rfl
@[simp] theorem ZP(l h:ε Int)(xs:γ D):slK l h (.lst xs)=.ok (cut xs l h):=rfl
@[simp] theorem Z3(xs:γ D)(l h:ε Int):W' (.tup xs) l h=.ok (.tup<|cut xs l h):=rfl
@[simp] theorem W9(cs:γ Nat)(l h:ε Int):W' (.str cs) l h=guard (cs.length<=line) (.ok<|.str<|cut cs l h):=rfl
@[simp] theorem VD(a b:γ Nat):aL (.str a) (.str b)=guard (a.length+b.length<=line) (.ok<|.str<|a++b):=rfl
@[simp] theorem VC(a b:γ D):aL (.tup a) (.tup b)=guard (a.length+b.length<=line) (.ok<|.tup<|a++b):=rfl
@[simp] theorem W!(a:Int):Jg (.int a)=.ok (.int<|-a):=rfl
@[simp] theorem Xf:fO .non=.ok (.bl Da):=rfl
@[simp] theorem VA:tm .non=.ok (.bl AT):=rfl
theorem jE(a b:Nat)(hb:b<=1000000)(ha:a<18446744073709551616):m_ (.int<|a) (.int<|b)=.ok (.int<|(a^b:Nat)):=by
 have h:(0:Int)<=b/\(b:Int)<=1000000/\(a:Int).natAbs<2^64:=⟨by lia,by lia,by rw[Int.natAbs_natCast];exact ha⟩
 show guard _ _=_;rw[guard_pos h,A95,Int.natCast_pow]
@[simp] theorem aaJ:m_ (.int 10) (.int 60)=.ok (.int 1000000000000000000000000000000000000000000000000000000000000):=jE 10 60 ∅ ∅
@[simp] theorem aaK:m_ (.int 10) (.int 55)=.ok (.int 10000000000000000000000000000000000000000000000000000000):=jE 10 55 ∅ ∅
@[simp] theorem aaL:m_ (.int 10) (.int 50)=.ok (.int 100000000000000000000000000000000000000000000000000):=jE 10 50 ∅ ∅
@[simp] theorem ZZ:m_ (.int 7919) (.int 9)=.ok (.int 122470950010456506152021579891552879):=jE 7919 9 ∅ ∅
def atK:ε D->Res D
|some d=>.ok d
|none=>.bad
@[simp] theorem Zd(d:D):atK (AC d)=.ok d:=rfl
theorem NL(xs:γ D)(i:Int):aZ (.tup xs) (.int i)=atK ((wa xs.length i).bind λ j=>xs[j]?):=by show(match (wa _ i).bind λ j=>xs[j]? with|some v=>Res.ok v|none=>.bad)=_;cases (wa _ i).bind λ j=>xs[j]?<;>rfl
theorem NM(xs:γ D)(i:Int):aZ (.lst xs) (.int i)=atK ((wa xs.length i).bind λ j=>xs[j]?):=by show(match (wa _ i).bind λ j=>xs[j]? with|some v=>Res.ok v|none=>.bad)=_;cases (wa _ i).bind λ j=>xs[j]?<;>rfl
theorem gm{i:Int}{j:Nat}(h:i=j)(e:xs[j]?=AC d):aZ (.tup xs) (.int i)=.ok d/\aZ (.lst xs) (.int i)=.ok d:=by
 subst h;have hj:=(A03.mp e).1;have:wa xs.length (j)=AC j:=by simp[wa,hj]
 rw[NL,NM,this];simp[e]
theorem oH{i:Int}{j c:Nat}(h:i=j)(e:cs[j]?=AC c)(hl:cs.length<=line):aZ (.str cs) (.int i)=.ok (.str [c]):=by
 subst h;have hj:=(A03.mp e).1;have:wa cs.length (j)=AC j:=by simp[wa,hj]
 show guard _ _=_;rw[guard_pos hl,this];simp[e]
theorem Ep(h0:0<=i)(h1:i<xs.length):∃d∈xs,aZ (.lst xs) (.int i)=.ok d/\aZ (.tup xs) (.int i)=.ok d:=by
 have hj:i.toNat<xs.length:=by lia
 refine⟨xs[i.toNat],B26 hj,?_⟩;have:=gm (i:=i) ∅<|A00 hj;exact⟨this.2,this.1⟩
def turn(I:Env->Prop)(Q:Fl->Prop):Fl->Prop
|.nx ρ=>I ρ
|.ct ρ=>I ρ
|.bk ρ=>Q<|.nx ρ
|.rt d=>Q<|.rt d
@[simp] theorem ZH(I:Env->Prop)(Q:Fl->Prop)(ρ:Env):turn I Q (.nx ρ)↔I ρ:=Iff.rfl
@[simp] theorem ZI(I:Env->Prop)(Q:Fl->Prop)(ρ:Env):turn I Q (.ct ρ)↔I ρ:=Iff.rfl
@[simp] theorem ZJ(I:Env->Prop)(Q:Fl->Prop)(ρ:Env):turn I Q (.bk ρ)↔Q (.nx ρ):=Iff.rfl
@[simp] theorem ZG(I:Env->Prop)(Q:Fl->Prop)(d:D):turn I Q (.rt d)↔Q (.rt d):=Iff.rfl
theorem Kl(I:Nat->Env->Prop):∀ds ρ i,I i ρ->(∀j d ρ,ds[j]?=AC d->I (i+j) ρ->Ok (g d ρ) λ ρ1=>Ok (b ρ1) (turn (I<|i+j+1) Q))->(∀ρ,I (i+ds.length) ρ->Q (.nx ρ))->Ok (cb g b ds ρ) Q
|[],ρ,i,h,_,e=>by simpa[cb]using e ρ h
|d::ds,ρ,i,h,k,e=>by
 let⟨ρ1,e1,fl,e2,t⟩:=k 0 d ρ rfl h;have ih:=λ ρ' (h')=>Kl I ds ρ' (i+1) h' (λ j x ρ hj hP=>by have:=k (j+1) x ρ (by simpa using hj) (by simpa[C21,A89 1 j]using hP);simpa[C21,A89 1 j]using this) λ ρ hP=>e ρ (by simpa[C21,A89 1]using hP)
 unfold cb;rw[e1,Res.jX,e2,Res.jX];cases fl with
 |nx ρ'=>exact ih ρ' (by simpa using t)
 |ct ρ'=>exact ih ρ' (by simpa using t)
 |bk ρ'=>simpa using t
 |rt d=>simpa using t
theorem fq(I:Nat->Env->Prop)(h0:I 0 ρ)(hs:∀j d ρ,ds[j]?=AC d->I j ρ->Ok (g d ρ) λ ρ1=>Ok (b ρ1) (turn (I<|j+1) Q))(he:∀ρ,I ds.length ρ->Q (.nx ρ)):Ok (cb g b ds ρ) Q:=
 Kl I ds ρ 0 h0 (λ j d ρ hd hI=>by rw[A96]at hI ⊢;exact hs j d ρ hd hI) λ ρ h=>he ρ (by rwa [A96]at h)
theorem EU(p:D->Bool)(h:D->D)(hs:∀d∈ds,Ok (g d ρ) λ ρ1=>Ok (t ρ1) λ c=>c=p d/\(p d=Da->Ok (e ρ1) λ y=>y=h d))(hq:Q ((ds.filter p).map h)):Ok (bC g t e ρ ds) Q:=by refine⟨_,mO ds λ d hd=>?_,hq⟩;let⟨ρ1,e1,c,e2,hc,k⟩:=hs d hd;exact⟨ρ1,e1,by rw[e2,hc],λ hp=>(k hp).eq⟩
theorem comp_map(h:D->D)(hs:∀d∈ds,Ok (g d ρ) λ ρ1=>Ok (e ρ1) λ y=>y=h d)(hq:Q (ds.map h)):Ok (bC g bI e ρ ds) Q:=by refine⟨_,uv ds λ d hd=>?_,hq⟩;let⟨ρ1,e1,k⟩:=hs d hd;rw[e1];exact k.eq
theorem bz{α:Type}(enc:α->D)(f:α->Bool)(h:α->D):∀{xs:γ α}{Q},(∀x∈xs,Ok (g (enc x) ρ) λ ρ1=>Ok (t ρ1) λ c=>c=f x/\(f x=Da->Ok (e ρ1) λ y=>y=h x))->Q ((xs.filter f).map h)->Ok (bC g t e ρ<|xs.map enc) Q:=by
 intro xs Q hs hq;refine⟨_,?_,hq⟩;clear hq
 induction xs with
 |nil=>rfl
 |cons x xs ih=>
  let⟨ρ1,e1,c,e2,hc,k⟩:=hs x A08;have ih':=ih λ y hy=>hs y<|A07 _ hy;cases hf:f x with
  |true=>rw[hf]at hc;have:=(k hf).eq;simp[bC,e1,e2,hc,this,ih',hf]
  |false=>rw[hf]at hc;simp[bC,e1,e2,hc,ih',hf]
end Z
end S0
open ZS renaming hv→bn,bD→cr,fD→dL,eZ→lf,qh→li,uK.of→lw,vp→ol,pA→pi,jQ→rc,CQ→sB,lP→ul,lQ→ut,G!→wE,G'→wP,G9→wT,G8→wf,l?→wn,jN→ww
local macro_rules
| `(tactic|trivial)=>`(tactic|first|exact AE3 rfl|exact tz rfl)
open ZS (Fl)
open ZS (Gk Dn)
set_option maxRecDepth 4000
namespace KA
open Z
def d6:SF:=(aF<|ue (eB oEq (eU cm<|eW 0)<|eI 1)<|hW oLe oLe (eC<|.str [97]) (eW 0)<|eC<|.str [122])
def cn:γ D->Res D:=fn 1 1 d6
theorem j9(x0:D):cn [x0]=bc (d6 [AC (.val x0)]):=bW _ _ _ _ rfl
def iw:SF:=(aF<|Uv (eB A_ (eW 0)<|cq<|ag (eC<|.str [46])<|ag (eC<|.str [61])<|ag (eC<|.str [35]) ah)<|aj cn<|aV 0 ah)
def iJ:γ D->Res D:=fn 1 1 iw
theorem CB(x0:D):iJ [x0]=bc (iw [AC (.val x0)]):=bW _ _ _ _ rfl
def dZ:SF:=(aB (dH (vG (fL<|tE<|eU (jb .str)<|eW 0)<|fL<|tE<|hW oLe oLe (eI 1) (eU cm<|eW 0)<|eI 12) (aF<|eC<|.bl AT) aJ)<|aF<|eU iV<|eL<|bf (cZ<|eW 0) 1 [] (aG 0) bI<|aj iJ<|aV 0 ah)
def iu:γ D->Res D:=fn 1 1 dZ
theorem gB(x0:D):iu [x0]=bc (dZ [AC (.val x0)]):=bW _ _ _ _ rfl
def cI:SF:=(aB (dH (vG (fL<|tE<|eU (jb .tuple)<|eW 0)<|fL<|tE<|hW oLe oLe (eI 1) (eU cm<|eW 0)<|eI 6) (aF<|eC<|.bl AT) aJ)<|aB (dH (fL<|tE<|eU iV<|eL<|bf (cZ<|eW 0) 1 [] (aG 0) bI<|aj iu<|aV 0 ah) (aF<|eC<|.bl AT) aJ)<|aF<|eU iV<|eL<|bf (cZ<|eW 0) 1 [0] (aG 0) bI<|eB oEq (eU cm<|eW 0)<|eU cm<|eX 1 0)
def gA:γ D->Res D:=fn 1 1 cI
theorem fu(x0:D):gA [x0]=bc (cI [AC (.val x0)]):=bW _ _ _ _ rfl
end KA
set_option maxRecDepth 8000
namespace Z
theorem qx:(∀a,fT .bool (.int a)=AT)/\fT .int .non=AT/\(∀a,fT .int (.int a)=Da)/\fT .str .non=AT/\(∀a,fT .str (.bl a)=AT)/\(∀a,fT .str (.int a)=AT)/\(∀a,fT .str (.str a)=Da)/\(∀a,fT .str (.tup a)=AT)/\(∀a,fT .str (.lst a)=AT)/\(∀a b,fT .str (.dct a b)=AT)/\fT .tuple .non=AT/\(∀a,fT .tuple (.bl a)=AT)/\(∀a,fT .tuple (.int a)=AT)/\(∀a,fT .tuple (.str a)=AT)/\(∀a,fT .tuple (.tup a)=Da)/\(∀a,fT .tuple (.lst a)=AT)/\(∀a b,fT .tuple (.dct a b)=AT):=⟨λ _=>rfl,rfl,λ _=>rfl,rfl,λ _=>rfl,λ _=>rfl,λ _=>rfl,λ _=>rfl,λ _=>rfl,λ _ _=>rfl,rfl,λ _=>rfl,λ _=>rfl,λ _=>rfl,λ _=>rfl,λ _=>rfl,λ _ _=>rfl⟩
end Z
namespace KA
open Z
abbrev Rows:=γ<|γ Nat
structure Hall(R L:Nat)(rows:Rows):Prop where
 r1:1<=R
 r2:R<=6
 l1:1<=L
 l2:L<=12
 len:rows.length=R
 each:∀x∈rows,x.length=L
 sg:∀x∈rows,∀c∈x,c∈signs
theorem mK(c:Nat):cn [.str [c]]=.ok (.bl<|decide (97<=c)&&decide (c<=122)):=by
 rw[j9];refine ay ?_;by_cases h1:c<97
 .simp[d6,Hu,line,Nat.not_le.mpr h1]
 .by_cases h2:122<c
  .simp[d6,Hu,line,h2,A82.mp h1]
  .simp[d6,Hu,line,A82.mp h1,A82.mp h2]
theorem F9(c:Nat):decide (c∈signs)=(c==46||c==61||c==35||(decide (97<=c)&&decide (c<=122))):=by
 by_cases h:c<128
 .exact(by decide:∀c<128,decide _=(c==46||c==61||c==35||(decide _&&decide (c<=122)))) c h
 .have h1:c∉signs:=λ m=>h<|(by decide:∀c∈signs,c<128) c m;have h2:¬c<=122:=by lia
  have h3:c≠46:=by lia
  have h4:c≠61:=by lia
  have h5:c≠35:=by lia
  simp[h1,h2,h3,h4,h5]
theorem O2(s t:γ Nat):jS (.str s) (.str t)=AC (s==t):=rfl
theorem Aj(c:Nat):iJ [.str [c]]=.ok (.bl<|decide<|c∈signs):=by
 rw[CB,F9];refine ay ?_;have e:=mK c;by_cases h1:c=46
 .subst h1;simp[iw,line,A_,gu,O2]
 .by_cases h2:c=61
  .subst h2;simp[iw,line,A_,gu,O2]
  .by_cases h3:c=35
   .subst h3;simp[iw,line,A_,gu,O2]
   .simp[iw,A_,gu,O2,e,h1,h2,h3];lia
theorem all_map{α:Type}(f:α->Bool)(xs:γ α):allB (xs.map λ x=>D.bl<|f x)=AC (xs.all f):=by
 have:=yF<|xs.map f;rw[A16]at this;rw[show(xs.map λ x=>D.bl _)=xs.map (D.bl∘f)from rfl,this]
 congr 1
 induction xs with
 |nil=>rfl
 |cons x xs ih=>simp
def Iw(cs:γ Nat):Bool:=decide (1<=cs.length/\cs.length<=12)&&cs.all λ c=>decide (c∈signs)
theorem Iu(cs:γ Nat):Ok (bC (aG 0) bI (aj iJ<|aV 0 ah) [Ch]<|cs.map λ c=>.str [c]) λ ds=>ds=cs.map λ c=>D.bl (decide<|c∈signs):=
 bz (λ c=>D.str [c]) (λ _=>Da) (λ c=>.bl<|decide<|c∈signs) (λ c _=>by simp[Aj]) (by rw[A83.mpr λ _ _=>rfl])
theorem Ck(cs:γ Nat)(h:cs.length<=1000):iu [.str cs]=.ok (.bl<|Iw cs):=by
 have hl:cs.length<=16777216:=by lia
 rw[gB];refine ay ?_;unfold Iw;by_cases h1:1<=cs.length
 .by_cases h2:cs.length<=12
  .have e1:(1)<=(cs.length:Int):=by lia
   have e2:(cs.length:Int)<=12:=by lia
   simp[dZ,Z.qx,hl,h1,h2,e1,e2,aQ];refine(Iu cs).imp ?_;rintro ds rfl;simp[iV,all_map]
  .have e2:¬(cs.length:Int)<=12:=by lia
   simp[dZ,Z.qx,hl,h1,h2,e2,line]
 .have e1:¬(1)<=(cs.length:Int):=by lia
  simp[dZ,Z.qx,hl,h1,e1,line]
def n_:D->Bool
|.str cs=>Iw cs
|_=>AT
def Fit(d:D):Prop:=∀cs,d=.str cs->cs.length<=1000
theorem Gg(d:D)(h:Fit d):iu [d]=.ok (.bl<|n_ d):=by
 cases d with
 |str cs=>exact Ck cs<|h cs rfl
 |non=>rw[gB];exact ay (by simp[dZ,Z.qx,n_])
 |bl _=>rw[gB];exact ay (by simp[dZ,Z.qx,n_])
 |int _=>rw[gB];exact ay (by simp[dZ,Z.qx,n_])
 |tup _=>rw[gB];exact ay (by simp[dZ,Z.qx,n_])
 |lst _=>rw[gB];exact ay (by simp[dZ,Z.qx,n_])
 |dct _ _=>rw[gB];exact ay (by simp[dZ,Z.qx,n_])
def Ca:D->Nat
|.str cs=>cs.length
|_=>0
noncomputable def Aq(xs:γ D):Bool:=decide (1<=xs.length/\xs.length<=6)&&xs.all n_&&xs.all λ d=>Ca d==Ca (xs.headD .non)
def qR:D->Bool
|.tup xs=>Aq xs
|_=>AT
theorem Cs(xs:γ D)(h:∀d∈xs,Fit d):Ok (bC (aG 0) bI (aj iu<|aV 0 ah) [Ch] xs) λ ds=>ds=xs.map λ d=>D.bl (n_ d):=
 comp_map (λ d=>.bl _) (λ d hd=>by simp[Gg d<|h d hd]) rfl
theorem Ej(h:n_ d=Da):cm d=.ok (.int<|Ca d):=by
 cases d with
 |str cs=>
  have:cs.length<=16777216:=by simp only[n_,Iw,B37]at h;lia
  simp[Ca,this]
 |_=>cases h
theorem Cr(h:∀d∈xs,n_ d=Da):Ok (bC (aG 0) bI (eB oEq (eU cm<|eW 0)<|eU cm<|eX 1 0) [Ch,v (.tup xs)] xs) λ ds=>ds=xs.map λ d=>D.bl (Ca d==Ca (xs.headD .non)):=
 comp_map (λ d=>.bl _) (λ d hd=>by
  cases xs with
  |nil=>cases hd
  | cons x xs=>have e0:aZ (.tup<|x::xs) (.int 0)=.ok x:=(gm rfl rfl).1;have e1:=Ej<|h d hd;have e2:=Ej<|h x A08;simp[e0,e1,e2];exact A51.mpr (by simp;lia)) rfl
theorem Cm(d:D)(h:∀xs,d=.tup xs->xs.length<=1000/\∀x∈xs,Fit x):gA [d]=.ok (.bl<|qR d):=by
 cases d with
 |tup xs=>
  let⟨h1,h2⟩:=h xs rfl;have hl:xs.length<=16777216:=by lia
  rw[fu];refine ay ?_;simp only[qR,Aq];by_cases q1:1<=xs.length
  .by_cases q2:xs.length<=6
   .have e1:(1)<=(xs.length:Int):=by lia
    have e2:(xs.length:Int)<=6:=by lia
    have c1:=Cs xs h2;cases q3:xs.all n_ with
    |false=>simp[cI,Z.qx,hl,q1,q2,e1,e2,line,aQ,c!];refine c1.imp ?_;rintro ds rfl;simp[iV,all_map,q3]
    |true=>have q4:=A31.mp q3;have c2:=Cr q4;simp[cI,Z.qx,hl,q1,q2,e1,e2,line,aQ,c!];refine c1.imp ?_;rintro ds rfl;simp[iV,all_map,q3];refine c2.imp ?_;rintro ds rfl;simp[iV,all_map]
   .have e2:¬(xs.length:Int)<=6:=by lia
    simp[cI,Z.qx,hl,q1,q2,e2,line]
  .have e1:¬(1)<=(xs.length:Int):=by lia
   simp[cI,Z.qx,hl,q1,e1,line]
 |str _=>rw[fu];exact ay (by simp[cI,Z.qx,qR])
 |non=>rw[fu];exact ay (by simp[cI,Z.qx,qR])
 |bl _=>rw[fu];exact ay (by simp[cI,Z.qx,qR])
 |int _=>rw[fu];exact ay (by simp[cI,Z.qx,qR])
 |lst _=>rw[fu];exact ay (by simp[cI,Z.qx,qR])
 |dct _ _=>rw[fu];exact ay (by simp[cI,Z.qx,qR])
theorem Hall.b{R L:Nat}(H:Hall R L rows):Aq (rows.map .str)=Da:=by
 unfold Aq;have h1:=H.r1;have h2:=H.r2;have h3:=H.l1;have h4:=H.l2;simp only[A38,B37,A04,H.len,A31];refine⟨⟨⟨h1,h2⟩,λ d hd=>?_⟩,λ d hd=>?_⟩
 .let⟨r,hr,rfl⟩:=v6.mp hd;simp only[n_,Iw,A38,B37,A31,H.each r hr];exact⟨⟨h3,h4⟩,H.sg r hr⟩
 .let⟨r,hr,rfl⟩:=v6.mp hd;cases rows with
  |nil=>cases hr
  |cons x xs=>simp[Ca,H.each r hr,H.each x _]
end KA
set_option maxRecDepth 4000
namespace KS
open Z KA
def iN:SF:=(aF<|ue (eU (jb .int)<|eW 0)<|O5<|eU (jb .bool)<|eW 0)
def fy:γ D->Res D:=fn 1 1 iN
theorem AK(x0:D):fy [x0]=bc (iN [AC (.val x0)]):=bW _ _ _ _ rfl
noncomputable def cj:SF:=(aF<|ue (aj fy<|aV 0 ah)<|hW oLe oLe (eW 1) (eW 0)<|eW 2)
def a5:γ D->Res D:=fn 3 3 cj
theorem ny(x0 x1 x2:D):a5 [x0,x1,x2]=bc (cj [AC (.val x0),AC (.val x1),AC (.val x2)]):=bW _ _ _ _ rfl
def jO:SF:=(aB (dH (vG (fL<|tE<|eU (jb .str)<|eW 0)<|fL<|tE<|hW oLe oLe (eI 1) (eU cm<|eW 0)<|eI 8) (aF<|eC<|.bl AT) aJ)<|aF<|eU iV<|eL<|bf (cZ<|eW 0) 1 [] (aG 0) bI<|aj KA.cn<|aV 0 ah)
def cB:γ D->Res D:=fn 1 1 jO
theorem CC(x0:D):cB [x0]=bc (jO [AC (.val x0)]):=bW _ _ _ _ rfl
def md:SF:=(aF<|ue (eU (jb .str)<|eW 0)<|Uv (eB oEq (eW 0)<|eC<|.str [])<|aj KA.cn<|aV 0 ah)
def j8:γ D->Res D:=fn 1 1 md
theorem CD(x0:D):j8 [x0]=bc (md [AC (.val x0)]):=bW _ _ _ _ rfl
def lL:SF:=(aF<|aj a5<|aV 0<|aV 1<|ag (eB pU (eB m_ (eI 10)<|eI 60)<|eI 1) ah)
def fX:γ D->Res D:=fn 2 2 lL
theorem yn(x0 x1:D):fX [x0,x1]=bc (lL [AC (.val x0),AC (.val x1)]):=bW _ _ _ _ rfl
def qk:SF:=(aB (dH (vG (fL<|tE<|eU (jb .tuple)<|eW 0)<|tE<|eB jF (eU cm<|eW 0)<|eI 2) (aF<|eC<|.bl AT) aJ)<|aF<|ue (aj a5<|aX 0 0<|aI 0<|aI 5 ah)<|aj fX<|aX 0 1<|aI 1 ah)
def iI:γ D->Res D:=fn 1 1 qk
theorem CA(x0:D):iI [x0]=bc (qk [AC (.val x0)]):=bW _ _ _ _ rfl
def kF:SF:=(aB (dH (vG (fL<|tE<|eU (jb .tuple)<|eW 0)<|fL<|tE<|eU iV<|eL<|bf (cZ<|eW 0) 1 [] (aG 0) bI<|aj iI<|aV 0 ah) (aF<|eC<|.bl AT) aJ)<|aF<|eU iV<|eL<|bf (dR<|eB pU (eU cm<|eW 0)<|eI 1) 1 [0] (aG 0) bI<|eB oLt (eB aZ (eY 1 0)<|eI 0)<|eB aZ (eB aZ (eW 1)<|eB aL (eW 0)<|eI 1)<|eI 0)
def gO:γ D->Res D:=fn 1 1 kF
theorem vh(x0:D):gO [x0]=bc (kF [AC (.val x0)]):=bW _ _ _ _ rfl
def gF:SF:=(aB (dH (fL<|tE<|aj a5<|aX 0 1<|aI 1<|aI 12 ah) (aF<|eC<|.bl AT) aJ)<|aB (dH (fL<|tE<|aj a5<|aX 0 2<|aI 1<|aI 3 ah) (aF<|eC<|.bl AT) aJ)<|aB (dH (fL<|tE<|aj a5<|aX 0 4<|aI 0<|ag (eB eO (eX 0 1)<|eX 0 2) ah) (aF<|eC<|.bl AT) aJ)<|aF<|ue (aj j8<|aX 0 3 ah)<|aj a5<|aX 0 5<|aI 0<|aI 6 ah)
def dO:γ D->Res D:=fn 1 1 gF
theorem oZ(x0:D):dO [x0]=bc (gF [AC (.val x0)]):=bW _ _ _ _ rfl
def nK:SF:=(aB (dH (vG (fL<|tE<|eU (jb .tuple)<|eW 0)<|tE<|eB jF (eU cm<|eW 0)<|eI 8) (aF<|eC<|.bl AT) aJ)<|aB (dH (vG (fL<|tE<|aj cB<|aX 0 0 ah)<|fL<|tE<|aj dO<|aV 0 ah) (aF<|eC<|.bl AT) aJ)<|aF<|ue (aj fX<|aX 0 6<|aI 0 ah)<|aj gO<|aX 0 7 ah)
def cP:γ D->Res D:=fn 1 1 nK
theorem AL(x0:D):cP [x0]=bc (nK [AC (.val x0)]):=bW _ _ _ _ rfl
end KS
set_option maxRecDepth 8000
namespace KS
open Z KA
theorem ER(hk:0<k)(h:n<10^k):(fF n).length<=k:=by unfold fF;rw[A04];exact(Nat.length_toDigits_le_iff ∅ hk).mpr h
structure Gp where
 nm:List Nat
 w:Nat
 d:Nat
 kd:List Nat
 wi:Nat
 ga:Nat
 wo:Nat
 ws:List (Nat×Nat)
def hV(p:Nat×Nat):D:=.tup [.int p.1,.int p.2]
noncomputable def dP(g:Gp):D:=.tup [.str g.nm,.int g.w,.int g.d,.str g.kd,.int g.wi,.int g.ga,.int g.wo,.tup (g.ws.map hV)]
structure C8(g:Gp):Prop where
 n1:1<=g.nm.length
 n2:g.nm.length<=8
 nl:∀c∈g.nm,c∈aH
 w1:1<=g.w
 w2:g.w<=12
 d1:1<=g.d
 d2:g.d<=3
 kd:g.kd=[]\/∃c∈aH,g.kd=[c]
 wi:g.wi<=g.w*g.d
 ga:g.ga<=6
 wo:g.wo<10^60
 wl:g.ws.length<=6
 wr:∀p∈g.ws,p.1<=5/\1<=p.2/\p.2<10^60
 up:(g.ws.map (·.1)).Pairwise (· < ·)
theorem BL(h:Ok (a ρ) λ fl=>fl=.nx ρ1)(k:Ok (b ρ1) Q):Ok (aB a b ρ) Q:=by let⟨fl,e,rfl⟩:=h;rw[R0,e,Res.jX];exact k
theorem ex0:aZ (dP g) (.int 0)=.ok (.str g.nm):=rfl
theorem ex1:aZ (dP g) (.int 1)=.ok (.int g.w):=rfl
theorem ex2:aZ (dP g) (.int 2)=.ok (.int g.d):=rfl
theorem ex3:aZ (dP g) (.int 3)=.ok (.str g.kd):=rfl
theorem ex4:aZ (dP g) (.int 4)=.ok (.int g.wi):=rfl
theorem ex5:aZ (dP g) (.int 5)=.ok (.int g.ga):=rfl
theorem ex6:aZ (dP g) (.int 6)=.ok (.int g.wo):=rfl
theorem ex7:aZ (dP g) (.int 7)=.ok (.tup<|g.ws.map hV):=rfl
theorem XJ{n:Nat}(h:n<10^60):(n:Int)<=10^60-1:=by
 have h2:(n:Int)<10^60:=by exact_mod_cast h
 exact Int.le_sub_one_of_lt h2
theorem vB(n:Int):fy [.int n]=.ok (.bl Da):=by rw[AK];exact ay (by simp[iN,Z.qx])
theorem within_int(n a b:Int):a5 [.int n,.int a,.int b]=.ok (.bl<|decide<|a<=n/\n<=b):=by
 rw[ny];refine ay ?_;by_cases h1:a<=n
 .simp[cj,vB,h1]
 .simp[cj,vB,h1]
theorem uE(n a:Int):fX [.int n,.int a]=.ok (.bl<|decide<|a<=n/\n<=10^60-1):=by rw[yn];refine ay ?_;simp[lL,within_int]
theorem N6(c:Nat):decide (c∈aH)=(decide (97<=c)&&decide (c<=122)):=by
 by_cases h:c<128
 .exact(by decide:∀c<128,decide _=(decide _&&decide (c<=122))) c h
 .have h1:c∉aH:=λ m=>h<|(by decide:∀c∈aH,c<128) c m;have h2:¬c<=122:=by lia
  simp[h1,h2]
theorem tK(c:Nat):cn [.str [c]]=.ok (.bl<|decide<|c∈aH):=by rw[mK,N6]
theorem F7(cs:γ Nat):Ok (bC (aG 0) bI (aj KA.cn<|aV 0 ah) [Ch]<|cs.map λ c=>.str [c]) λ ds=>ds=cs.map λ c=>D.bl (decide<|c∈aH):=
 bz (λ c=>D.str [c]) (λ _=>Da) (λ c=>.bl<|decide<|c∈aH) (λ c _=>by simp[tK]) (by rw[A83.mpr λ _ _=>rfl])
def vW(cs:γ Nat):Bool:=decide (1<=cs.length/\cs.length<=8)&&cs.all λ c=>decide (c∈aH)
theorem D!(cs:γ Nat)(h:cs.length<=16777216):cB [.str cs]=.ok (.bl<|vW cs):=by
 rw[CC];refine ay ?_;unfold vW;by_cases h1:1<=cs.length
 .by_cases h2:cs.length<=8
  .have e1:(1)<=(cs.length:Int):=by lia
   have e2:(cs.length:Int)<=8:=by lia
   simp[jO,Z.qx,h,h1,h2,e1,e2,aQ,c!];refine(F7 cs).imp ?_;rintro ds rfl;simp[iV,all_map]
  .have e2:¬(cs.length:Int)<=8:=by lia
   simp[jO,Z.qx,h,h1,h2,e2,line]
 .have e1:¬(1)<=(cs.length:Int):=by lia
  simp[jO,Z.qx,h,h1,e1,line]
def kindB(cs:γ Nat):Bool:=cs==[]||(decide (cs.length=1)&&cs.all λ c=>decide (c∈aH))
theorem F?(cs:γ Nat)(h:cs.length<=16777216):cn [.str cs]=.ok (.bl<|decide (cs.length=1)&&cs.all λ c=>decide (c∈aH)):=by
 cases cs with
 |nil=>rw[j9];exact ay (by simp[d6])
 |cons c r=>
  cases r with
  |nil=>rw[tK];simp
  |cons c' r=>
   rw[j9];refine ay ?_;have e:¬((r.length:Int)+1+1=1):=by lia
   have h':r.length+1+1<=16777216:=by simpa using h
   simp[d6,h',e]
theorem Of(cs:γ Nat)(h:cs.length<=16777216):j8 [.str cs]=.ok (.bl<|kindB cs):=by
 have hl:=F? cs h;rw[CD];refine ay ?_;unfold kindB;have en:oEq (.str cs) (.str [])=.ok (.bl<|decide<|cs=[]):=by cases cs<;>rfl
 by_cases h0:cs=[]
 .subst h0;have en':oEq (.str []) (.str [])=.ok _:=rfl;simp[md,Z.qx]
 .have hb:(cs==[])=AT:=by simpa using h0
  simp[md,Z.qx,hl,hb]
section
variable{g:Gp}
theorem Mp(h:p.1<=5/\1<=p.2/\p.2<10^60):iI [hV p]=.ok (.bl Da):=by have i0:aZ (hV p) (.int 0)=.ok _:=rfl;have i1:aZ (hV p) (.int 1)=.ok _:=rfl;have w1:=within_int p.1 0 5;have w2:=uE p.2 1;have q1:decide ((0)<=(p.1:Int)/\(p.1:Int)<=5)=Da:=A39 ∅;have q2:decide ((1)<=(p.2:Int)/\(p.2:Int)<=10^60-1)=Da:=A39 ⟨by lia,XJ h.2.2⟩;rw[q1]at w1;rw[q2]at w2;rw[CA];refine ay ?_;have ty:fT .tuple (hV p)=Da:=rfl;have ln:cm (hV p)=.ok _:=rfl;simp[qk,ty,ln,i0,i1,w1,w2]
theorem Fd(hw:∀p∈g.ws,p.1<=5/\1<=p.2/\p.2<10^60):Ok (bC (aG 0) bI (aj iI<|aV 0 ah) [Ch]<|g.ws.map hV) λ ds=>ds=g.ws.map λ _=>D.bl Da:=
 bz hV (λ _=>Da) (λ _=>.bl Da) (λ p hp=>by simp[Mp<|hw p hp]) (by rw[A83.mpr λ _ _=>rfl])
theorem FI(hu:(g.ws.map (·.1)).Pairwise (· < ·)):Ok (bC (aG 0) bI (eB oLt (eB aZ (eY 1 0)<|eI 0)<|eB aZ (eB aZ (eW 1)<|eB aL (eW 0)<|eI 1)<|eI 0) [Ch,v (.tup<|g.ws.map hV)]<|(FB<|g.ws.length-1).map λ n=>D.int (n:Nat)) λ ds=>ds=(FB<|g.ws.length-1).map λ _=>D.bl Da:=
 bz (λ n=>D.int (n:Nat)) (λ _=>Da) (λ _=>.bl Da) (λ n hn=>by
  have Q5:=A24.mp hn;have l1:n<g.ws.length:=by lia
  have l2:n+1<g.ws.length:=by lia
  have i1:aZ (.tup<|g.ws.map hV) (.int<|n)=.ok (hV g.ws[n]):=(gm rfl (by rw[A06,A00];rfl)).1;have i2:aZ (.tup<|g.ws.map hV) (.int<|(n)+1)=.ok (hV g.ws[n+1]):=(gm (j:=n+1) ∅ (by rw[A06,A00 l2];rfl)).1;have j1:∀p,aZ (hV p) (.int 0)=.ok (.int p.1):=λ p=>rfl;have lt:g.ws[n].1<g.ws[n+1].1:=by have:=C22.mp hu n (n+1) (by simp;lia) (by simp;lia) ∅;simpa using this
  have lt':((g.ws[n].1))<(g.ws[n+1].1):=by lia
  simp[i1,i2,j1,lt']) (by rw[A83.mpr λ _ _=>rfl])
theorem all_true{α:Type}(xs:γ α):iV (.lst<|xs.map λ _=>D.bl Da)=.ok (.bl Da):=by have:=all_map (λ _=>Da) xs;simp only[iV,this];simp
theorem Bi(k:C8 g):gO [.tup (g.ws.map hV)]=.ok (.bl Da):=by
 have hl:g.ws.length<=16777216:=by have:=k.wl;lia
 have e1:«zints» 0 (g.ws.length-1)=(FB<|g.ws.length-1).map λ n=>D.int (n:Nat):=by exact B08 λ n _=>by simp
 rw[vh];refine ay ?_;simp[kF,Z.qx,hl,aQ];refine(Fd k.wr).imp ?_;rintro ds rfl;rw[all_true];simp[hl];rw[e1];refine⟨by lia,(FI k.up).imp ?_⟩;rintro ds rfl;rw[all_true];simp
theorem P0(k:C8 g):dO [dP g]=.ok (.bl Da):=by
 have w1:=within_int g.w 1 12;have w2:=within_int g.d 1 3;have w3:=within_int g.wi 0<|(g.w)*(g.d);have w4:=within_int g.ga 0 6;rw[A39<|⟨by have:=k.w1;lia,by have:=k.w2;lia⟩]at w1;rw[A39<|⟨by have:=k.d1;lia,by have:=k.d2;lia⟩]at w2;rw[A39<|⟨by lia,by have:=k.wi;exact_mod_cast this⟩]at w3;rw[A39<|⟨by lia,by have:=k.ga;lia⟩]at w4;have wk:=Of g.kd (by rcases k.kd with h|⟨c,_,h⟩<;>rw[h]<;>simp);have wk':kindB g.kd=Da:=by
  rcases k.kd with h|⟨c,hc,h⟩<;>rw[h]
  .rfl
  .simp[kindB,hc]
 rw[wk']at wk;have m:bA (g.w) (g.d):=cY ∅ (by have:=k.w2;lia);rw[oZ];refine ay ?_;simp[gF,ex1,ex2,ex3,ex4,ex5,w1,w2,w3,w4,wk,m]
theorem Ke(k:C8 g):cP [dP g]=.ok (.bl Da):=by
 have hn:=D! g.nm (by have:=k.n2;lia);have Q5:vW g.nm=Da:=by unfold vW;rw[A39 ⟨k.n1,k.n2⟩,B95,A31];exact λ c hc=>A39<|k.nl c hc
 rw[Q5]at hn;have ha:=P0 k;have hw:=Bi k;have ho:=uE g.wo 0;rw[A39<|⟨by lia,XJ k.wo⟩]at ho;have ty:fT .tuple (dP g)=Da:=rfl;have ln:cm (dP g)=.ok _:=rfl;rw[AL];refine ay ?_;simp[nK,ty,ln,ex0,ex6,ex7,hn,ha,ho,hw]
theorem C0(cs:γ Nat)(c i:Nat):PySem.StrLaws.At (⟨cs.toArray⟩) ⟨#[c]⟩ (⟨cs.toArray⟩:AE0).length i↔cs[i]?=AC c:=by have:=PySem.StrLaws.subAt_one (⟨cs.toArray⟩) c i;rw[show(⟨_⟩:AE0).cps.toList=cs from rfl]at this;exact this
theorem xK(cs:γ Nat)(c:Nat):(Os ⟨cs.toArray⟩ ⟨#[c]⟩ 0 cs.length 1=[]/\c∉cs)\/∃i r,Os ⟨cs.toArray⟩ ⟨#[c]⟩ 0 cs.length 1=i::r/\cs[i]?=AC c/\∀k,k<i->cs[k]?≠AC c:=by
 have hl:(⟨cs.toArray⟩:AE0).length=cs.length:=by show cs.toArray.size=cs.length;simp
 rcases PySem.StrLaws.occ_head (⟨_⟩) ⟨#[c]⟩ 1 (M2 _)with⟨h,hn⟩|⟨i,r,h,ha,hn⟩
 .left;rw[hl]at h;refine⟨h,λ m=>?_⟩;let⟨i,hi⟩:=List.mem_iff_getElem?.mp m;exact hn i<|(C0 cs c i).mpr hi
 .right;rw[hl]at h;exact⟨i,r,h,(C0 cs c i).mp ha,λ k hk z=>hn k hk<|(C0 cs c k).mpr z⟩
theorem Nj(h:c∉a):iC c (a++c::b)=(a,[c],b):=by
 have ha:(a++c::b)[a.length]?=AC c:=by simp
 unfold iC;rcases xK (a++c::b) c with⟨_,hn⟩|⟨i,r,e,hi,hm⟩
 .exact absurd (A37.mpr<|.inr A08) hn
 .rw[e];have e1:i=a.length:=by
   rcases Nat.lt_trichotomy i _ with jc|heq|hgt
   .rw[A21 jc]at hi;exact absurd (A18 hi) h
   .exact heq
   .exact absurd ha<|hm _ hgt
  subst e1;simp
end
def Hg(nm:γ Nat):Prop:=1<=nm.length/\nm.length<=8/\∀c∈nm,c∈aH
structure A6(n:Nat)(ws:List (Nat×Nat)):Prop where
 l:ws.length<=n
 r:∀p∈ws,p.1<n/\1<=p.2/\p.2<10^60
 up:(ws.map (·.1)).Pairwise (· < ·)
theorem A6.next(h:A6 n ws):A6 (n+1) ws:=⟨by have:=h.l;lia,λ p hp=>by let⟨a,b⟩:=h.r p hp;exact⟨by lia,b⟩,h.up⟩
theorem A6.snoc(h:A6 n ws)(h1:1<=a)(h2:a<10^60):A6 (n+1) (ws++[(n,a)]):=by
 refine⟨by have:=h.l;simp;lia,λ p hp=>?_,?_⟩
 .rcases A37.mp hp with hp|hp
  .let⟨a,b⟩:=h.r p hp;exact⟨by lia,b⟩
  .rw[A15.mp hp];exact⟨by lia,h1,h2⟩
 .rw[A23,C23];refine⟨h.up,by simp,λ x hx y hy=>?_⟩;let⟨p,hp,rfl⟩:=v6.mp hx;simp at hy;rw[hy];exact(h.r p hp).1
end KS
set_option maxRecDepth 4000
namespace KG
open Z
def rZ:SF:=(aF<|Uv (eB A_ (eW 0)<|cq<|ag (eC<|.str [46])<|ag (eC<|.str [61]) ah)<|eB oEq (eW 0)<|eW 1)
def oR:γ D->Res D:=fn 2 2 rZ
theorem Kn(x0 x1:D):oR [x0,x1]=bc (rZ [AC (.val x0),AC (.val x1)]):=bW _ _ _ _ rfl
def nG:SF:=(aB (mm 2<|bu ah)<|aB (gg (Ak (eX 1 0)<|eB aL (eX 1 0)<|eX 0 2) (aG 3)<|FF 2<|bf (Ak (eX 1 1)<|eB aL (eX 1 1)<|eX 0 1) 1 [3] (aG 0) bI<|cq<|aV 1<|aV 0 ah)<|aF<|eU gw<|eW 2)
def je:γ D->Res D:=fn 2 4 nG
theorem AD(x0 x1:D):je [x0,x1]=bc (nG [AC (.val x0),AC (.val x1),Ch,Ch]):=bW _ _ _ _ rfl
def gR:SF:=(aB (dH (tE<|eB oLt (eW 1)<|eU cm<|eW 0) (aF<|eY 0 1) aJ)<|aF<|eI 0)
def bx:γ D->Res D:=fn 2 2 gR
theorem lD(x0 x1:D):bx [x0,x1]=bc (gR [AC (.val x0),AC (.val x1)]):=bW _ _ _ _ rfl
def gD:SF:=(aB (aK 2<|eX 1 0)<|aB (aK 3<|eX 1 1)<|aB (dH (xn (tE<|hW oLe oLt (eI 0) (eW 2)<|eU cm<|eW 0)<|tE<|hW oLe oLt (eI 0) (eW 3)<|eU cm<|eX 0 0) (aF<|eB aZ (eY 0 2)<|eW 3) aJ)<|aF<|eC .non)
def j6:γ D->Res D:=fn 2 4 gD
theorem Cy(x0 x1:D):j6 [x0,x1]=bc (gD [AC (.val x0),AC (.val x1),Ch,Ch]):=bW _ _ _ _ rfl
def CZ:SF:=(aB (aK 3<|eL<|bf (cZ<|aj je<|aV 1<|aV 2 ah) 1 [0] (aG 0) bI<|aj j6<|aV 1<|aV 0 ah)<|aB (dH (fL<|tE<|eU iV<|eL<|bf (cZ<|eW 3) 1 [1] (aG 0) bI<|aj oR<|aV 0<|aX 1 3 ah) (aF<|eC<|.bl AT) aJ)<|aF<|eB VB (eB xN (eW 3)<|eC<|.str [61])<|eX 1 4)
def oU:γ D->Res D:=fn 3 4 CZ
theorem OX(x0 x1 x2:D):oU [x0,x1,x2]=bc (CZ [AC (.val x0),AC (.val x1),AC (.val x2),Ch]):=bW _ _ _ _ rfl
def lI:SF:=(aB (mm 2<|bu ah)<|aB (gg (dR<|eU cm<|eW 0) (aG 3)<|FF 2<|bf (dR<|eU cm<|eY 0 3) 1 [0,1,3] (aG 0) (tE<|aj oU<|aV 1<|aV 2<|ag (cq<|aV 3<|aV 0 ah) ah)<|cq<|aV 3<|aV 0 ah)<|aF<|eU gw<|eW 2)
def ee:γ D->Res D:=fn 2 4 lI
theorem yi(x0 x1:D):ee [x0,x1]=bc (lI [AC (.val x0),AC (.val x1),Ch,Ch]):=bW _ _ _ _ rfl
def me:SF:=(aB (dH (vG (tE<|eB oLe (eB aL (eX 1 0)<|eX 0 2)<|eX 3 0)<|tE<|eB oLe (eB aL (eX 3 0)<|eX 2 2)<|eX 1 0) (aF<|eC<|.bl Da) aJ)<|aB (aK 4<|eB Jh (eX 0 5)<|eX 2 5)<|aF<|Uv (eB oLe (eB aL (eB aL (eX 1 1)<|eX 0 1)<|eW 4)<|eX 3 1)<|eB oLe (eB aL (eB aL (eX 3 1)<|eX 2 1)<|eW 4)<|eX 1 1)
def oV:γ D->Res D:=fn 4 5 me
theorem Kp(x0 x1 x2 x3:D):oV [x0,x1,x2,x3]=bc (me [AC (.val x0),AC (.val x1),AC (.val x2),AC (.val x3),Ch]):=bW _ _ _ _ rfl
def gC:SF:=(aF<|eL<|bf (J6 (eV 0)<|eV 1) 2 [] (dE [0,1]) (tE<|eU tm<|eW 1)<|cq<|aV 0<|aV 1 ah)
def bN:γ D->Res D:=fn 2 2 gC
theorem oY(x0 x1:D):bN [x0,x1]=bc (gC [AC (.val x0),AC (.val x1)]):=bW _ _ _ _ rfl
def gG:SF:=(aF<|eU iV<|eL<|bf (cZ<|eW 2) 2 [0,1] (dE [0,1]) bI<|aj oV<|aV 2<|aV 3<|aV 0<|aV 1 ah)
def cQ:γ D->Res D:=fn 3 3 gG
theorem o3(x0 x1 x2:D):cQ [x0,x1,x2]=bc (gG [AC (.val x0),AC (.val x1),AC (.val x2)]):=bW _ _ _ _ rfl
def yC:SF:=(aB (aK 3<|aj bN<|aV 1<|aV 2 ah)<|aB (dH (fL<|tE<|eU iV<|eL<|bf (cZ<|eW 3) 2 [0] (dE [0,1]) bI<|aj oU<|aV 2<|aV 0<|aV 1 ah) (aF<|eC<|.bl AT) aJ)<|aF<|eU iV<|eL<|bf (dR<|eU cm<|eW 3) 1 [3] (aG 0) bI<|aj cQ<|ag (eB aZ (eY 1 0)<|eI 0)<|ag (eB aZ (eY 1 0)<|eI 1)<|ag (eL<|Oa (eW 1) Qy<|rk<|eW 0) ah)
def lC:γ D->Res D:=fn 3 4 yC
theorem Ko(x0 x1 x2:D):lC [x0,x1,x2]=bc (yC [AC (.val x0),AC (.val x1),AC (.val x2),Ch]):=bW _ _ _ _ rfl
abbrev Rows:=γ<|γ Nat
abbrev Pl:=Int×Int
structure Hall(rows:Rows)(C:Nat):Prop where
 r1:1<=rows.length
 r2:rows.length<=100
 c1:1<=C
 c2:C<=100
 len:∀x∈rows,x.length=C
structure G where
 name:List Nat
 w:Nat
 d:Nat
 kind:List Nat
 wide:Nat
 gap:Nat
 worth:D
 sf:D
structure GOk(g:G):Prop where
 w1:1<=g.w
 w2:g.w<=13
 d1:1<=g.d
 d2:g.d<=4
 kd:g.kind.length<=1
 wd:g.wide<=100
 gp:g.gap<=100
def aS(rows:Rows):D:=.tup<|rows.map .str
def aN(p:Pl):D:=.tup [.int p.1,.int p.2]
noncomputable def aD(g:G):D:=.tup [.str g.name,.int g.w,.int g.d,.str g.kind,.int g.wide,.int g.gap,g.worth,g.sf]
noncomputable def dP:ε Nat->D
|some c=>.str [c]
|none=>.non
@[simp] theorem adD(p:Pl):aZ (aN p) (.int 0)=.ok (.int p.1):=rfl
@[simp] theorem adC(p:Pl):aZ (aN p) (.int 1)=.ok (.int p.2):=rfl
@[simp] theorem aeD(g:G):aZ (aD g) (.int 0)=.ok (.str g.name):=rfl
@[simp] theorem aeC(g:G):aZ (aD g) (.int 1)=.ok (.int g.w):=rfl
@[simp] theorem aeB(g:G):aZ (aD g) (.int 2)=.ok (.int g.d):=rfl
@[simp] theorem aeA(g:G):aZ (aD g) (.int 3)=.ok (.str g.kind):=rfl
@[simp] theorem aez(g:G):aZ (aD g) (.int 4)=.ok (.int g.wide):=rfl
@[simp] theorem aey(g:G):aZ (aD g) (.int 5)=.ok (.int g.gap):=rfl
@[simp] theorem aex(g:G):aZ (aD g) (.int 6)=.ok g.worth:=rfl
@[simp] theorem aew(g:G):aZ (aD g) (.int 7)=.ok g.sf:=rfl
@[simp] theorem aek(rows:Rows):cm (aS rows)=.ok (.int rows.length):=by simp[aS]
@[simp] theorem adk(a b:Int):D.tup [.int a,.int b]=aN (a,b):=rfl
theorem dC(ρ:Env)(is:γ Nat):c! ρ is=is.map (o_ ρ):=rfl
noncomputable def EZ:ε (ε L)->ε L
|some<|some<|.val d=>AC<|.val d
|some<|some<|.bor d=>AC<|.bor d
|some<|some<|.Kq ks=>AC<|.Kq ks
|some<|some<|.own xs=>AC<|.bor<|.lst xs
|_=>Ch
theorem cD(ρ:Env)(i:Nat):o_ ρ i=EZ ρ[i]?:=by
 unfold o_ EZ;cases ρ[i]? with
 |none=>rfl
 |some o=>cases o with
  |none=>rfl
  |some l=>cases l<;>rfl
@[simp] theorem VW(d:D):EZ (AC<|some<|.val d)=AC (.val d):=rfl
theorem Hall.row(H:Hall rows C)(h:r<rows.length):∃row,rows[r]?=AC row/\row.length=C/\aZ (aS rows) (.int r)=.ok (.str row):=by refine⟨rows[r],A00 h,H.len _<|B26 h,(gm rfl ?_).1⟩;rw[A06,A00];rfl
theorem Hall.M7(H:Hall rows C):∃row,row.length=C/\aZ (aS rows) (.int 0)=.ok (.str row):=by let⟨row,_,h1,h2⟩:=H.row H.r1;exact⟨row,h1,h2⟩
noncomputable def bL(rows:Rows)(p:Pl):ε Nat:=if 0<=p.1/\0<=p.2 then(rows[p.1.toNat]?).bind (λ r=>r[p.2.toNat]?)else Ch
theorem MX(H:Hall rows C){p:Pl}(h1:0<=p.1)(h2:p.1<rows.length)(h3:0<=p.2)(h4:p.2<C):∃row c,aZ (aS rows) (.int p.1)=.ok (.str row)/\row.length=C/\aZ (.str row) (.int p.2)=.ok (.str [c])/\bL rows p=AC c:=by
 let⟨row,e1,hl,e2⟩:=H.row (r:=p.1.toNat) ∅;rw[B16 h1]at e2;have hc:p.2.toNat<row.length:=by lia
 have rB:=H.c2;refine⟨row,row[p.2.toNat],e2,hl,oH ∅ (A00 hc) (by simp only[line];lia),?_⟩;simp[bL,h1,h3,e1]
theorem sR(H:Hall rows C){p:Pl}(h:¬(0<=p.1/\p.1<rows.length/\0<=p.2/\p.2<C)):bL rows p=Ch:=by
 unfold bL;by_cases h0:0<=p.1/\0<=p.2
 .rw[W1 h0];cases e:rows[p.1.toNat]? with
  |none=>rfl
  |some row=>let⟨h1,h2⟩:=A03.mp e;have:=H.len row<|A18 e;simp only[C09];exact B29 ∅
 .rw[o0 h0]
theorem MW(H:Hall rows C)(p:Pl):j6 [aS rows,aN p]=.ok (dP<|bL rows p):=by
 rw[Cy];refine ay ?_;let⟨M7,OK,e0⟩:=H.M7;have yc:=H.c2;have OI:C<=line:=by simp only[line];lia
 by_cases h:0<=p.1/\p.1<rows.length/\0<=p.2/\p.2<C
 .let⟨row,c,e1,_,e2,e3⟩:=MX H h.1 h.2.1 h.2.2.1 h.2.2.2;simp[gD,e0,OK,OI,h.1,h.2.1,h.2.2.1,h.2.2.2,e1,e2,e3,dP]
 .rw [sR H h];by_cases a1:0<=p.1
  .by_cases a2:p.1<rows.length
   .by_cases a3:0<=p.2
    .have a4:¬p.2<C:=λ z=>h ⟨a1,a2,a3,z⟩;simp[gD,e0,OK,OI,a1,a2,a3,a4,dP]
    .simp[gD,e0,OK,OI,a1,a2,a3,dP]
   .simp[gD,e0,OK,OI,a1,a2,dP]
  .simp[gD,e0,OK,OI,a1,dP]
noncomputable def bU(kind:γ Nat):ε Nat->Bool
|some c=>decide<|c=46\/c=61\/kind=[c]
|none=>AT
theorem Uu(c:γ Nat):jS (.str c) .non=AC AT:=rfl
theorem Ky(c:γ Nat):jS .non (.str c)=AC AT:=rfl
theorem Kx(a b:γ Nat):jS (.str a) (.str b)=AC (a==b):=rfl
theorem in2(c:Nat):A_ (.str [c]) (.tup [.str [46],.str [61]])=.ok (.bl<|decide<|c=46\/c=61):=by
 simp only[A_,gu,Kx];by_cases h1:c=46
 .subst h1;rfl
 .by_cases h2:c=61
  .subst h2;rfl
  .have h1':¬46=c:=λ h=>h1 h.symm;have Ul:¬61=c:=λ h=>h2 h.symm;simp[h1,h2,h1',Ul]
theorem HY(s:ε Nat)(k:γ Nat):oR [dP s,.str k]=.ok (.bl<|bU k s):=by
 rw[Kn];refine ay ?_;cases s with
 |none=>simp[rZ,dP,bU,line,A_,gu,Ky,Uu,oEq]
 |some c=>
  simp[rZ,dP,bU,line,in2];by_cases h1:c=46
  .simp[h1]
  .by_cases h2:c=61
   .simp[h2]
   .by_cases h3:k=[c]
    .subst h3;simp[h1,h2]
    .have h3':¬[c]=k:=λ h=>h3 h.symm;simp[h1,h2,h3,h3']
def fM(w:Nat)(r c:Int):γ Pl:=(FB w).map λ j=>(r,c+(j:Nat))
def g_(w:Nat)(p:Pl)(n:Nat):γ Pl:=(FB n).flatMap λ i=>fM w (p.1+(i:Nat)) p.2
def seats(g:G)(p:Pl):γ Pl:=g_ g.w p g.d
theorem k?(w:Nat)(p:Pl)(n:Nat):g_ w p (n+1)=g_ w p n++fM w (p.1+(n)) p.2:=by simp[g_,A81]
theorem xA(w:Nat)(r c:Int):(fM w r c).length=w:=by simp[fM]
theorem mX(w:Nat)(p:Pl)(n:Nat):(g_ w p n).length=n*w:=by
 induction n with
 |zero=>simp[g_]
 |succ n ih=>rw[k?,A28,ih,xA,B25]
theorem ints_map(lo:Int)(n:Nat):zints lo n=(FB n).map λ i=>D.int (lo+(i:Nat)):=rfl
theorem ints_get(h:(zints lo n)[j]?=AC d):j<n/\d=.int (lo+(j)):=by
 rw[ints_map,A06]at h;cases q:(FB n)[j]? with
 |none=>rw[q]at h;cases h
 |some i=>rw[q]at h;let⟨h1,h2⟩:=A03.mp q;rw[B27]at h1;rw[B93]at h2;subst h2;simp at h;exact⟨h1,h.symm⟩
theorem toNat_sub(a:Int)(n:Nat):(a+(n)-a).toNat=n:=by lia
theorem Im(k:GOk g)(p:Pl):je [aD g,aN p]=.ok (.tup<|(seats g p).map aN):=by
 rw[AD];refine ay ?_;have hw:=k.w2;have hd:=k.d2;simp[nG,toNat_sub];refine fq (λ i ρ=>∃x,ρ=[v _,v _,ow ((g_ g.w p i).map aN),x]) ⟨Ch,rfl⟩ ?_ ?_
 .rintro j d ρ hj ⟨x,rfl⟩;let⟨hj,rfl⟩:=ints_get hj;simp[aQ,toNat_sub,dC,cD];refine⟨by lia,comp_map (λ d=>.tup [.int (p.1+(j)),d]) ?_ ?_⟩
  .rintro d hd;let⟨i,hi⟩:=A73 hd;let⟨_,rfl⟩:=ints_get hi;simp[line]
  .refine⟨?_,?_⟩
   .rw[A04,mX,fU];have:j*g.w<=4*13:=A57 ∅ hw;lia
   .simp[k?,fM,ints_map]
 .rintro ρ ⟨x,rfl⟩;simp[seats]
def vA(rows:Rows)(s:Pl):Bool:=bL rows s==AC 61
def bR(rows:Rows)(g:G)(p:Pl):Bool:=(seats g p).all (λ s=>bU g.kind<|bL rows s)&&decide (g.wide<=(seats g p).countP (vA rows))
theorem AZ(rows:Rows):∀(ss:γ Pl),mQ (.str [61]) (ss.map λ s=>dP<|bL rows s)=AC (ss.countP<|vA rows)
|[]=>rfl
|s::ss=>by
 rw[v4,mQ,AZ,B33];cases e:bL rows s with
 |none=>simp[dP,vA,e,Ky]
 |some c=>simp[dP,vA,e,Kx]
theorem all_map{α:Type}(f:α->Bool)(xs:γ α):allB (xs.map λ x=>D.bl<|f x)=AC (xs.all f):=by
 have:=yF<|xs.map f;rw[A16]at this;rw[show(xs.map λ x=>D.bl _)=xs.map (D.bl∘f)from rfl,this]
 congr 1
 induction xs with
 |nil=>rfl
 |cons x xs ih=>simp
theorem EJ(H:Hall rows C)(k:GOk g)(p:Pl):oU [aS rows,aD g,aN p]=.ok (.bl<|bR rows g p):=by
 rw[OX];refine ay ?_;have ψ:(seats g p).length<=16777216:=by rw[seats,mX];have:=A57 k.d2 k.w2;lia
 simp[CZ,aQ,Im k,line,dC,cD,ψ];refine comp_map (λ d=>match d with|.tup [.int a,.int b]=>dP<|bL rows (a,b)|_=>.non) ?_ ?_
 .intro d hd;let⟨q,_,rfl⟩:=v6.mp hd;simp[MW H];rfl
 .have e1:(List.map aN<|seats g p).map (λ d=>match d with|.tup [.int a,.int b]=>dP<|bL rows (a,b)|_=>.non)=(seats g p).map λ s=>dP (bL rows s):=by rw[A16];rfl
  rw[e1];simp[aQ,line,ψ,dC,cD];refine comp_map (λ d=>match d with|.str [c]=>.bl<|bU g.kind<|some c|_=>.bl AT) ?_ ?_
  .intro d hd;let⟨q,_,rfl⟩:=v6.mp hd;simp[HY];cases bL rows q<;>rfl
  .have e2:((seats g p).map λ s=>dP<|bL rows s).map (λ d=>match d with|.str [c]=>D.bl<|bU g.kind<|some c|_=>D.bl AT)=(seats g p).map λ s=>D.bl (bU g.kind<|bL rows s):=by rw[A16];apply B08;intro s _;show(match dP (bL rows s)with|.str [c]=>D.bl<|bU g.kind<|some c|_=>D.bl AT)=_;cases bL rows s<;>rfl
   rw[e2];simp only[iV,all_map,Zo];cases ha:(seats g p).all λ s=>bU g.kind (bL rows s)with
   |false=>simp[bR,ha]
   |true=>simp[bR,ha,xN,AZ]
def Z2(rows:Rows)(g:G)(s:Pl):Bool:=bU g.kind<|bL rows s
theorem all_false{α:Type}{f:α->Bool}{xs:γ α}{x:α}(h:x∈xs)(e:f x=AT):xs.all f=AT:=by rw[Bool.eq_false_iff];intro z;rw[A31]at z;rw[z x h]at e;cases e
theorem N2(h:j<w):(r,c+(j))∈fM w r c:=v6.mpr ⟨j,A24.mpr h,rfl⟩
theorem vY(hi:i<g.d)(hj:j<g.w):(p.1+(i),p.2+(j))∈seats g p:=
 B01.mpr ⟨i,A24.mpr hi,N2 hj⟩
theorem ub(h:s∈seats g p)(e:Z2 rows g s=AT):bR rows g p=AT:=by unfold bR;have:=all_false h e;rw[show(seats g p).all (λ s=>bU _ _)=(seats g p).all (Z2 rows g)from rfl,this];rfl
def c_(r C:Nat):γ Pl:=(FB C).map λ(c:Nat)=>(((r:Nat):Int),((c:Nat):Int))
def gc(n C:Nat):γ Pl:=(FB n).flatMap λ r=>c_ r C
theorem iR(n C:Nat):gc (n+1) C=gc n C++c_ n C:=by simp[gc,A81]
theorem pR(r C:Nat):(c_ r C).length=C:=by simp[c_]
theorem mh(n C:Nat):(gc n C).length=n*C:=by
 induction n with
 |zero=>simp[gc]
 |succ n ih=>rw[iR,A28,ih,pR,B25]
def places(rows:Rows)(C:Nat)(g:G):γ Pl:=(gc rows.length C).filter<|bR rows g
theorem places_of_ok(H:Hall rows C)(k:GOk g):ee [aS rows,aD g]=.ok (.tup<|(places rows C g).map aN):=by
 rw[yi];refine ay ?_;have yc:=H.c2;have hr2:=H.r2;simp[lI,line];refine fq (λ i ρ=>i<=rows.length/\∃x,ρ=[v _,v _,ow (((gc i C).filter<|bR rows g).map aN),x]) ⟨A47 _,Ch,rfl⟩ ?_ ?_
 .rintro i d ρ hi ⟨_,x,rfl⟩;let⟨x_,rfl⟩:=ints_get hi;let⟨row,_,hl,e1⟩:=H.row x_;have OI:C<=16777216:=by lia
  simp[e1,hl,aQ,line,dC,cD,OI];refine EU (λ d=>match d with|.int c=>bR rows g ((i),c)|_=>AT) (λ d=>.tup [.int (i),d]) ?_ ?_
  .intro d hd;let⟨c,hc⟩:=A73 hd;let⟨_,rfl⟩:=ints_get hc;simp[line,EJ H k]
  .have e2:((zints 0 C).filter λ d=>match d with|.int c=>bR rows g ((i),c)|_=>AT).map (λ d=>D.tup [.int (i),d])=((c_ i C).filter<|bR rows g).map aN:=by
    rw[ints_map,c_,AC5,AC5,A16,A16]
    congr 1
    .funext c;simp
    .congr 1;funext c;simp
   rw[e2,iR,B18,A23];have h1:=A50 (bR rows g)<|gc i C;have h2:=A50 (bR rows g)<|c_ i C;rw[mh]at h1;rw[pR]at h2;have h3:i*C<=100*100:=A57 ∅ yc;refine⟨?_,by lia,rfl⟩;rw[A04];lia
 .rintro ρ ⟨_,x,rfl⟩;simp[places]
noncomputable def bH(g:G)(p:Pl)(h:G)(q:Pl):Bool:=decide<|p.1+g.d<=q.1\/q.1+h.d<=p.1\/p.2+g.w+max (g.gap:Int) (h.gap:Int)<=q.2\/q.2+h.w+max (g.gap:Int) (h.gap:Int)<=p.2
theorem Lz(g:G)(p:Pl)(h:G)(q:Pl):oV [aD g,aN p,aD h,aN q]=.ok (.bl<|bH g p h q):=by
 rw[Kp];refine ay ?_;by_cases h1:p.1+g.d<=q.1
 .simp[me,bH,h1]
 .by_cases h2:q.1+h.d<=p.1
  .simp[me,bH,h2]
  .by_cases h3:p.2+g.w+max (g.gap:Int) h.gap<=q.2
   .simp[me,bH,h1,h2,h3]
   .simp[me,bH,h1,h2,h3]
def Bd(ns:γ Int):Prop:=∀i∈ns,bits i<=2^20
theorem o?(hb:Bd ns)(h:0<=k):∃c,bx [.lst (ns.map .int),.int k]=.ok (.int c)/\bits c<=2^20:=by
 by_cases hk:k<ns.length
 .have hj:k.toNat<ns.length:=by lia
  have e:=(gm (xs:=ns.map D.int) (i:=k) (j:=k.toNat) (d:=.int ns[k.toNat]) ∅ ∅).2;refine⟨ns[k.toNat],?_,hb _<|B26 hj⟩;rw[lD];refine ay ?_;simp[gR,hk,e]
 .refine⟨0,?_,by decide⟩;rw[lD];refine ay ?_;simp[gR,hk]
theorem v7(z:Int):∃q∈aH,aZ (.str aH) (.int<|z % 26)=.ok (.str [q]):=
 tO ∅ (by simp[aH];lia) ∅
theorem oF(h:q∈aH):q∈signs:=(by decide:∀q∈aH,q∈signs) q h
structure Zt(rows:Rows)(C:Nat):Prop extends Hall rows C where
 r6:rows.length<=6
 c12:C<=12
 sg:∀x∈rows,∀c∈x,c∈signs
theorem YA(h1:1<=rows.length)(h2:rows.length<=6)(h3:1<=C)(h4:C<=12)(h:∀x∈rows,x.length=C/\∀c∈x,c∈signs):Zt rows C:=
 ⟨⟨h1,by lia,h3,by lia,λ x hx=>(h x hx).1⟩,h2,h4,λ x hx=>(h x hx).2⟩
def jt(C i:Nat)(rows:Rows):Prop:=rows.length=i/\∀x∈rows,x.length=C/\∀c∈x,c∈signs
def Vi(j:Nat)(ln:γ Nat):Prop:=ln.length=j/\∀c∈ln,c∈signs
theorem jt.nil(C:Nat):jt C 0 []:=⟨rfl,λ c h=>by cases h⟩
theorem jt.add(h:jt C i rows)(hl:Vi C ln):jt C (i+1) (rows++[ln]):=
 ⟨by simp [h.1],λ c hc=>by
  rcases A37.mp hc with hc|hc
  .exact h.2 c hc
  .rw[A15.mp hc];exact hl⟩
theorem ng{z:Int}(h:0<=z):∃n:Nat,z=n:=⟨z.toNat,by lia⟩
theorem nj(h0:0<=i)(h1:i<xs.length)(h:∀d∈xs,Q d):Ok (aZ (.lst xs)<|.int i) Q:=by let⟨d,hd,e,_⟩:=Ep h0 h1;exact⟨d,e,h d hd⟩
theorem RP(a b:D)(p:Prop)[Decidable p]:aZ (.lst [a,b]) (.int<|if p then 1 else 0)=.ok (if p then b else a):=by
 by_cases h:p
 .rw[W1 h,W1 h];rfl
 .rw[o0 h,o0 h];rfl
structure fG(g:G):Prop extends GOk g where
 w12:g.w<=12
 d3:g.d<=3
 kl:g.kind=[]\/∃c∈aH,g.kind=[c]
 wdd:g.wide<=g.w*g.d
 g6:g.gap<=6
 _6:∃(wt:Int)(ws:List Pl),ws.length<=6/\g.worth=.int wt/\g.sf=.tup (ws.map aN)
theorem aco(h1:1<=g.w)(h2:g.w<=12)(h3:1<=g.d)(h4:g.d<=3)(h5:g.kind=[]\/∃c∈aH,g.kind=[c])(h6:g.wide<=g.w*g.d)(h7:g.gap<=6)(h8:∃(wt:Int)(ws:γ Pl),ws.length<=6/\g.worth=.int wt/\g.sf=.tup (ws.map aN)):fG g:=
 ⟨⟨h1,by lia,h3,by lia,by rcases h5 with h|⟨c,_,h⟩<;>rw [h]<;>simp,by have:=A57 h2 h4;lia,by lia⟩,h2,h4,h5,h6,h7,h8⟩
@[simp] theorem X4(i:Int):fT .int (.int i)=Da:=rfl
@[simp] theorem VI(i:Int):fT .bool (.int i)=AT:=rfl
def Ht(p q:Pl):Prop:=p.1<q.1\/p.1=q.1/\p.2<q.2
theorem xB(r C:Nat):(c_ r C).Pairwise Ht:=by unfold c_;rw[B42];refine(C24).imp ?_;intro a b h;exact .inr ⟨rfl,by lia⟩
theorem vZ(h:p∈c_ r C):p.1=r/\0<=p.2/\p.2<C:=by let⟨c,hc,rfl⟩:=v6.mp h;rw[A24]at hc;exact⟨rfl,by lia,by lia⟩
theorem pY:p∈gc n C↔0<=p.1/\p.1<n/\0<=p.2/\p.2<C:=by
 constructor
 .intro h;let⟨r,hr,h⟩:=B01.mp h;rw[A24]at hr;let⟨h1,h2,h3⟩:=vZ h;exact⟨by lia,by lia,h2,h3⟩
 .rintro⟨h1,h2,h3,h4⟩;refine B01.mpr ⟨p.1.toNat,A24.mpr ∅,v6.mpr ⟨p.2.toNat,A24.mpr ∅,?_⟩⟩;apply Prod.ext
  .lia
  .lia
theorem yE(n C:Nat):(gc n C).Pairwise Ht:=by
 induction n with
 |zero=>simp[gc]
 |succ n ih=>rw[iR,C23];refine⟨ih,xB n C,λ a ha b hb=>?_⟩;have h1:=pY.mp ha;have h2:=vZ hb;exact .inl ∅
theorem mF(rows:Rows)(C:Nat)(g:G):(places rows C g).Pairwise Ht:=(yE _ _).filter _
theorem take_snoc{α:Type}{xs:γ α}{x:α}(h:xs[i]?=AC x):xs.take (i+1)=xs.take i++[x]:=by rw[C02,h];rfl
theorem places_len(H:Hall rows C)(g:G):(places rows C g).length<=10000:=by have h1:=A50 (bR rows g)<|gc rows.length C;rw[mh]at h1;have:=A57 H.r2 H.c2;unfold places;lia
end KG
set_option maxRecDepth 4000
namespace KG
open Z
abbrev GP:=G×Pl
abbrev GO:=G×ε Pl
def bP:ε Pl->D
|none=>.non
|some p=>aN p
@[simp] theorem VT(p:Pl):bP (AC p)=aN p:=rfl
@[simp] theorem VU:bP Ch=.non:=rfl
def o5(x:GP):D:=.tup [aD x.1,aN x.2]
def KD(x:GO):D:=.tup [aD x.1,bP x.2]
theorem Qj:∀(xs:γ GO),kS (xs.map λ x=>aD x.1) (xs.map λ x=>bP x.2)=xs.map KD
|[]=>rfl
|x::xs=>by simp[kS,Qj xs];rfl
@[simp] theorem aaU(o:ε Pl):tm (bP o)=.ok (.bl o.isSome):=by cases o<;>rfl
@[simp] theorem adT(o:ε Pl):fO (bP o)=.ok (.bl o.isNone):=by cases o<;>rfl
@[simp] theorem gX(x:GP)(i j:Nat)(ρ:Env):dE [i,j] (o5 x) ρ=.ok ((ρ.set i<|v<|aD x.1).set j<|v<|aN x.2):=rfl
@[simp] theorem gY(x:GO)(i j:Nat)(ρ:Env):dE [i,j] (KD x) ρ=.ok ((ρ.set i<|v<|aD x.1).set j<|v<|bP x.2):=rfl
theorem j!{α:Type}(xs:γ α):xs.filter (λ _=>Da)=xs:=A83.mpr λ _ _=>rfl
noncomputable def mj:γ GO->γ GP
|[]=>[]
|(g,AC p)::xs=>(g,p)::mj xs
|(_,Ch)::xs=>mj xs
theorem xu:∀xs,(xs.filter λ x=>x.2.isSome).map KD=(mj xs).map o5
|[]=>rfl
|(g,AC p)::xs=>by rw[B17 (by rfl)];simp only[v4,xu xs];rfl
|(g,Ch)::xs=>by rw[A84 ∅];simp only[mj,xu xs]
theorem lS:∀xs,(mj xs).length<=xs.length
|[]=>M2 _
|(g,AC p)::xs=>by have:=lS xs;simp only[mj,A27];lia
|(g,Ch)::xs=>by have:=lS xs;simp only[mj,A27];lia
theorem h_:∀{xs}{y},y∈mj xs↔(y.1,AC y.2)∈xs
|[],y=>by simp[mj]
|(g,AC p)::xs,y=>by
 simp only[mj,A01,h_,C19,A98];constructor
 .rintro(rfl|h)
  .exact .inl ⟨rfl,rfl⟩
  .exact .inr h
 .rintro(⟨h1,h2⟩|h)
  .left;rw[<-h1,<-h2]
  .exact .inr h
|(g,Ch)::xs,y=>by simp only[mj,A01,h_,C19,reduceCtorEq,and_false,false_or]
theorem n4(h:xs.length<=16777216):bN [.tup (xs.map λ x=>aD x.1),.tup (xs.map λ x=>bP x.2)]=.ok (.lst<|(mj xs).map o5):=by
 rw[oY];refine ay ?_;simp[gC,aQ,Qj,h];refine bz KD (λ x=>x.2.isSome) KD ?_ ?_
 .intro x hx;simp;exact λ _=>⟨by decide,rfl⟩
 .rw[xu]
theorem tu{α:Type}(f:α->Bool)(xs:γ α):iV (.lst<|xs.map λ x=>D.bl<|f x)=.ok (.bl<|xs.all f):=by simp only[iV,all_map]
theorem LD(g:G)(p:Pl){xs:γ GP}(h:xs.length<=16777216):cQ [aD g,aN p,.lst (xs.map o5)]=.ok (.bl<|xs.all λ x=>bH g p x.1 x.2):=by
 rw[o3];refine ay ?_;simp[gG,aQ,dC,cD,h];refine bz o5 (λ _=>Da) (λ x=>.bl<|bH g p x.1 x.2) ?_ ?_
 .intro x hx;simp[Lz]
 .rw[j!,tu];simp
theorem uu(xs:γ α)(h:k<=xs.length):cut xs Ch (AC<|k)=xs.take k:=by
 have:¬(k:Int)<0:=by lia
 simp[cut,c9,this]
def tN(ss:γ GP)(k:Nat):Bool:=match ss[k]? with
|some x=>(ss.take k).all λ y=>bH x.1 x.2 y.1 y.2
|none=>Da
def p7(rows:Rows)(ss:γ GP):Bool:=(ss.all λ x=>bR rows x.1 x.2)&&(FB ss.length).all (tN ss)
theorem JU(H:Hall rows C)(h6:xs.length<=6)(hg:∀x∈xs,GOk x.1):lC [aS rows,.tup (xs.map λ x=>aD x.1),.tup (xs.map λ x=>bP x.2)]=.ok (.bl<|p7 rows<|mj xs):=by
 rw[Ko];refine ay ?_;have OK:=lS xs;have hl:(mj xs).length<=16777216:=by lia
 have Yi:xs.length<=16777216:=by lia
 have hk:∀x∈mj xs,GOk x.1:=λ x hx=>hg _<|h_.mp hx;generalize hss:mj xs=ss at OK hl hk;simp[yC,aQ,line,dC,cD,n4 Yi,hss,hl];refine bz o5 (λ _=>Da) (λ x=>.bl<|bR rows x.1 x.2) ?_ ?_
 .intro x hx;simp[EJ H<|hk x hx]
 .rw [j!,tu];cases e:(ss.all λ x=>bR rows x.1 x.2)with
  |false=>simp[p7,e]
  |true=>
   simp[hl];refine Z.comp_map (λ d=>match d with|.int c=>.bl<|tN ss c.toNat|d=>d) ?_ ?_
   .intro d hd;let⟨j,hj⟩:=A73 hd;let⟨Ba,rfl⟩:=ints_get hj;obtain⟨x,ex⟩:∃x,ss[j]?=AC x:=⟨_,A00 Ba⟩
    have i1:=(gm (d:=o5 x) rfl (by rw[A06,ex];rfl)).2;have i2:aZ (o5 x) (.int 0)=.ok (aD x.1):=rfl;have i3:aZ (o5 x) (.int 1)=.ok (aN x.2):=rfl;have ct:=uu (ss.map o5) (k:=j) (by rw[A04];lia);have af:=LD x.1 x.2 (xs:=ss.take j) (by rw[A30];lia);rw[C25]at af;rw[Int.zero_add];simp[i1,i2,i3,Q1,ct,af,tN,ex]
   .have:(zints 0 ss.length).map (λ d=>match d with|.int c=>.bl<|tN ss c.toNat|d=>d)=(FB ss.length).map λ j=>D.bl (tN ss j):=by rw[ints_map,A16];refine B08 λ j _=>?_;simp
    rw[this,tu];simp[p7,e]
theorem Ci:p7 rows ss=Da↔(∀x∈ss,bR rows x.1 x.2=Da)/\ss.Pairwise λ a b=>bH b.1 b.2 a.1 a.2=Da:=by
 unfold p7;rw[A38,A31,A31,C22];refine and_congr_right λ _=>?_;constructor
 .intro h i j hi hj rS;have:=h j<|A24.mpr hj;rw[tN,A00]at this;rw[A31]at this;exact this ss[i]<|List.mem_iff_getElem.mpr ⟨i,by rw[A30];lia,by rw[AA1]⟩
 .intro h k hk;rw[A24]at hk;rw[tN,A00];rw[A31];intro y hy;let⟨i,hi,rfl⟩:=List.mem_iff_getElem.mp hy;rw[A30]at hi;rw[AA1];exact h i k ∅ hk ∅
theorem qo(g:G)(p:Pl)(h:G)(q:Pl):bH g p h q=bH h q g p:=by unfold bH;rw[decide_eq_decide,Int.max_comm];lia
theorem sQ:∀{xs},(mj xs).Pairwise R↔xs.Pairwise λ a b=>∀p q,a.2=AC p->b.2=AC q->R (a.1,p) (b.1,q)
|[]=>by simp[mj]
|(g,AC p)::xs=>by
 simp only[mj,C26,sQ];refine and_congr_left λ _=>?_;constructor
 .intro h b hb p' q hp hq;cases hp;exact h (b.1,q)<|h_.mpr (by simp only[<-hq];exact hb)
 .intro h y hy;exact h _ (h_.mp hy) p y.2 rfl rfl
|(g,Ch)::xs=>by simp only[mj,C26,sQ];exact⟨λ h=>⟨λ b hb p q hp=>(by cases hp),h⟩,λ h=>h.2⟩
end KG
set_option maxRecDepth 4000
namespace KH
open Z KG
def ky:SF:=(aF<|eB aL (eB aL (KI (eW 0) Qy<|rk<|eW 1)<|cq<|aV 2 ah)<|KI (eW 0) (rk<|eB aL (eW 1)<|eI 1) Qy)
def bX:γ D->Res D:=fn 3 3 ky
theorem vb(x0 x1 x2:D):bX [x0,x1,x2]=bc (ky [AC (.val x0),AC (.val x1),AC (.val x2)]):=bW _ _ _ _ rfl
def kA:SF:=(aF<|eU gw<|eL<|bf (cZ<|eW 0) 1 [1,2] (aG 0) (tE<|aj KG.cQ<|aV 1<|aV 0<|aV 2 ah)<|eV 0)
def dI:γ D->Res D:=fn 3 3 kA
theorem vd(x0 x1 x2:D):dI [x0,x1,x2]=bc (kA [AC (.val x0),AC (.val x1),AC (.val x2)]):=bW _ _ _ _ rfl
def kC:SF:=(aB (mm 2<|bu ah)<|aB (gg (cZ<|eV 1) (aG 3)<|aB (cC 2<|eB oMod (eW 0)<|eW 3)<|aK 0<|eB oDiv (eW 0)<|eW 3)<|pQ 2<|aF<|eV 2)
def cT:γ D->Res D:=fn 2 4 kC
theorem vg(x0 x1:D):cT [x0,x1]=bc (kC [AC (.val x0),AC (.val x1),Ch,Ch]):=bW _ _ _ _ rfl
def fC:SF:=(aB (dH (vG (tE<|eB oLe (eB aL (eX 1 0)<|eX 0 2)<|eX 3 0)<|tE<|eB oLe (eB aL (eX 3 0)<|eX 2 2)<|eX 1 0) (aF<|eC<|.bl Da) aJ)<|aB (aK 4<|eB Jh (eX 0 5)<|eX 2 5)<|aF<|Uv (eB oLe (eB aL (eB aL (eX 1 1)<|eX 0 1)<|eW 4)<|eX 3 1)<|eB oLe (eB aL (eB aL (eX 3 1)<|eX 2 1)<|eW 4)<|eX 1 1)
def fW:γ D->Res D:=fn 4 5 fC
theorem ym(x0 x1 x2 x3:D):fW [x0,x1,x2,x3]=bc (fC [AC (.val x0),AC (.val x1),AC (.val x2),AC (.val x3),Ch]):=bW _ _ _ _ rfl
def nI:SF:=(aF<|eB aL (eB aL (KI (eW 0) Qy<|rk<|eW 1)<|cq<|aV 2 ah)<|KI (eW 0) (rk<|eB aL (eW 1)<|eI 1) Qy)
def lA:γ D->Res D:=fn 3 3 nI
theorem AG(x0 x1 x2:D):lA [x0,x1,x2]=bc (nI [AC (.val x0),AC (.val x1),AC (.val x2)]):=bW _ _ _ _ rfl
end KH
set_option maxRecDepth 8000
namespace KH
open Z KG
def jM:Int->γ Int->γ Int
|_,[]=>[]
|c,s::ss=>c % s::jM (c / s) ss
def Me:Int->γ Int->Int
|c,[]=>c
|c,s::ss=>Me (c / s) ss
theorem AV:∀c a b,jM c (a++b)=jM c a++jM (Me c a) b
|c,[],b=>rfl
|c,s::a,b=>by simp[jM,Me,AV _ a b]
theorem E5:∀c a b,Me c (a++b)=Me (Me c a) b
|c,[],b=>rfl
|c,s::a,b=>by simp[Me,E5 _ a b]
theorem uk:∀c a,(jM c a).length=a.length
|c,[]=>rfl
|c,s::a=>by simp[jM,uk _ a]
def Szs(ss:γ Int):Prop:=ss.length<=100/\∀s∈ss,0<s/\s<=1000000000000000000000000000000000000000000000000000000000000
theorem l0(h:Szs ss)(c:Int):cT [.int c,.lst (ss.map .int)]=.ok (.lst<|(jM c ss).map .int):=by
 rw[vg];refine ay ?_;simp[kC];refine fq (λ i ρ=>∃x,ρ=[vi (Me c<|ss.take i),v (.lst<|ss.map .int),ow ((jM c<|ss.take i).map .int),x]) ⟨Ch,by simp[Me,jM]⟩ ?_ ?_
 .rintro j d ρ hj ⟨x,rfl⟩;rw[A06]at hj;cases e:ss[j]? with
  |none=>rw[e]at hj;cases hj
  |some s=>
   rw[e]at hj;cases hj;let⟨h1,h2⟩:=h.2 s (A18 e);have hl:(jM c<|ss.take j).length<16777216:=by rw[uk,A30];have:=h.1;lia
   simp[h1,hl,bO h1 ∅,take_snoc e,AV,E5,jM,Me]
 .rintro ρ ⟨x,rfl⟩;simp
theorem EN:∀c ss m,(∀s∈ss,0<s/\s<=m)->∀x∈jM c ss,0<=x/\x<m
|c,[],m,_=>by simp[jM]
|c,s::ss,m,h=>by
 intro x hx;simp only[jM,A01]at hx;rcases hx with rfl|hx
 .let⟨h1,h2⟩:=h s A08;have:=B72 c h1;exact⟨B73 _ ∅,by lia⟩
 .exact EN _ ss m (λ t ht=>h t<|A07 _ ht) x hx
theorem CN(xs:γ α)(h:(r+1)*c<=xs.length):(cut xs (AC<|(r)*c)<|some<|((r)+1)*c).length=c:=by
 have h1:((r)*c)=((r*c:Nat):Int):=by push_cast;rfl
 have h2:(((r)+1)*c)=(((r+1)*c:Nat):Int):=by push_cast;rfl
 rw[h1,h2];have h3:(r+1)*c=r*c+c:=B25 ..;have n1:¬((r*c:Nat):Int)<0:=by lia
 have n2:¬(((r+1)*c:Nat):Int)<0:=by lia
 have a2:=A66 h;have a1:=A66<|A11 (B02 c<|A59 r) h;simp only[cut,c9,n1,n2,A60,A95,A30,B50,a1,a2];rw[h3,C27];exact A66<|Nat.le_sub_of_add_le (by rw[A89,<-h3];exact h)
theorem PD(f:α->β)(xs:γ α)(l h:ε Int):cut (xs.map f) l h=(cut xs l h).map f:=by simp[cut,C28]
theorem FA:signs.length=29:=by decide
theorem MK(h:n<=100):Szs (Do n 29):=⟨by simpa using h,λ s hs=>by rw[C51 hs];decide⟩
@[simp] theorem aaM:m_ (.int 10) (.int 40)=.ok (.int 10000000000000000000000000000000000000000):=jE 10 40 ∅ ∅
@[simp] theorem aaN:m_ (.int 10) (.int 39)=.ok (.int 1000000000000000000000000000000000000000):=jE 10 39 ∅ ∅
noncomputable def pw2:Nat->Int
|0=>1
|1=>2
|2=>4
|3=>8
|4=>16
|_=>32
theorem PB(row:γ Nat)(h:c+w<=row.length):cut row (AC<|c) (AC<|(c)+w)=(row.drop c).take w:=by
 have n1:¬(c:Int)<0:=by lia
 have n2:¬(c:Int)+w<0:=by lia
 have e:((c:Int)+w).toNat=c+w:=by lia
 simp only[cut,c9,n1,n2,A60,A95,e];rw[A66 h,A66 ∅,C27]
theorem FH(H:Hall rows C){r c w:Nat}(hr:rows[r]?=AC row)(h:c+w<=C):((row.drop c).take w).map AC=(fM w (r)<|c).map (bL rows):=by
 have hl:=H.len row<|A18 hr;apply B74;intro j;simp only[A06,fM,List.getElem?_take,C29];by_cases hj:j<w
 .rw[W1 hj,nw hj];have hc:c+j<row.length:=by lia
  rw[A00 hc];simp only[A62,bL];have e1:((c)+(j:Int)).toNat=c+j:=by lia
  rw[W1 ⟨by lia,by lia⟩];simp[hr,e1]
 .rw[o0 hj,B29 (by simp;lia)];rfl
theorem acT(k:γ Nat)(c:Nat):(!(c == 46)&&(!(c == 61)&& !([c] == k)))= !bU k (AC c):=by
 by_cases h1:c=46
 .simp[bU,h1]
 .by_cases h2:c=61
  .simp[bU,h2]
  .by_cases h3:k=[c]
   .subst h3;simp[bU]
   .have h3':¬[c]=k:=λ h=>h3 h.symm;simp[bU,h1,h2,h3,h3']
theorem rq(g:G)(p:Pl)(h:G)(q:Pl):fW [aD g,aN p,aD h,aN q]=.ok (.bl<|bH g p h q):=by
 rw[ym];refine ay ?_;by_cases h1:p.1+g.d<=q.1
 .simp[fC,bH,h1]
 .by_cases h2:q.1+h.d<=p.1
  .simp[fC,bH,h2]
  .by_cases h3:p.2+g.w+max (g.gap:Int) h.gap<=q.2
   .simp[fC,bH,h1,h2,h3]
   .simp[fC,bH,h1,h2,h3]
noncomputable def okJ(xs:γ GO)(g:G)(k:Nat)(p:Pl)(j:Nat):Bool:=decide (j=k)||match xs[j]? with
|some (h,AC q)=>bH g p h q
|_=>Da
def openAt(xs:γ GO)(g:G)(k:Nat)(p:Pl):Bool:=(FB xs.length).all<|okJ xs g k p
def dD(rows:Rows)(C:Nat)(xs:γ GO)(g:G)(k:Nat):γ Pl:=(places rows C g).filter<|openAt xs g k
def av(xs:γ GO):D:=.tup<|xs.map λ x=>aD x.1
def ai(xs:γ GO):D:=.tup<|xs.map λ x=>bP x.2
theorem Dt{k:Nat}(h:k<ds.length)(d:D):cut ds Ch (AC<|k)++(d::cut ds (AC<|(k)+1) Ch)=ds.set k d:=by
 have e1:cut ds Ch _=ds.take k:=uu ds ∅;have e2:cut ds (AC<|(k)+1) Ch=ds.drop (k+1):=by
  have:¬(k:Int)+1<0:=by lia
  have h3:((k:Int)+1).toNat=k+1:=by lia
  have h4:min (k+1) ds.length=k+1:=by lia
  simp[cut,c9,this,h4];rw[B36 ∅]
 rw[e1,e2,List.set_eq_take_append_cons_drop,W1 h]
theorem Mo(h:k<ds.length)(hl:ds.length<=1000)(d:D):lA [.tup ds,.int (k:Nat),d]=.ok (.tup<|ds.set k d):=by
 rw[AG];refine ay ?_;have c1:=ku ds Ch<|some<|k;have c2:=ku ds (AC<|(k)+1) Ch;have g1:(cut ds Ch<|some<|k).length+1<=16777216:=by lia
 have g2:(cut ds Ch<|some<|k).length+1+(cut ds (AC<|(k)+1) Ch).length<=16777216:=by lia
 simp[nI,line,g1,g2,Dt h]
theorem uL(h:k<ds.length)(hl:ds.length<=1000)(d:D):bX [.tup ds,.int (k:Nat),d]=.ok (.tup<|ds.set k d):=by
 rw[vb];refine ay ?_;have c1:=ku ds Ch<|some<|k;have c2:=ku ds (AC<|(k)+1) Ch;have g1:(cut ds Ch<|some<|k).length+1<=16777216:=by lia
 have g2:(cut ds Ch<|some<|k).length+1+(cut ds (AC<|(k)+1) Ch).length<=16777216:=by lia
 simp[ky,line,g1,g2,Dt h]
theorem GJ(xs:γ GO)(k:Nat)(g:G)(o:ε Pl):ai (xs.set k (g,o))=.tup ((xs.map λ x=>bP x.2).set k<|bP o):=by simp[ai]
theorem wB(h:xs[k]?=AC x)(o:ε Pl):av (xs.set k (x.1,o))=av xs:=by
 have hk:=(A03.mp h).1;have e:x=xs[k]:=by rw[A00]at h;exact(A05 h).symm
 unfold av;rw[C30]
 congr 1
 subst e;apply AB2 ∅;intro i h1 h2;rw[AB4];split
 .rename_i e;subst e;simp
 .rfl
def Good(rows:Rows)(xs:γ GO):Prop:=∀(i:Nat)(g:G)(p:Pl),xs[i]?=AC (g,AC p)->bR rows g p=Da/\∀(j:Nat)(h:G)(q:Pl),xs[j]?=AC (h,AC q)->j≠i->bH g p h q=Da
theorem m?:openAt xs g k p=Da↔∀(j:Nat) h q,xs[j]?=AC (h,AC q)->j≠k->bH g p h q=Da:=by
 unfold openAt;rw[A31];constructor
 .intro h j hh q e hj;have hl:=(A03.mp e).1;have:=h j<|A24.mpr hl;simpa[okJ,e,hj]using this
 .intro h j hj;unfold okJ;by_cases hk:j=k
  .simp[hk]
  .cases e:xs[j]? with
   |none=>simp
   |some y=>
    let⟨hh,o⟩:=y;cases o with
    |none=>simp
    |some q=>simp[h j hh q e hk]
theorem Good.put(h:Good rows xs)(hk:xs[k]?=AC x)(hf:bR rows x.1 p=Da)(ho:openAt xs x.1 k p=Da):Good rows (xs.set k (x.1,AC p)):=by
 rw[m?]at ho;have hl:=(A03.mp hk).1;intro i g q e;rw[A36]at e;by_cases hi:k=i
 .subst hi;rw[W1 rfl,W1 hl]at e;cases e;refine⟨hf,λ j hh r ej hj=>?_⟩;rw[A36,o0 λ z=>hj z.symm]at ej;exact ho j hh r ej hj
 .rw[o0 hi]at e;let⟨h1,h2⟩:=h i g q e;refine⟨h1,λ j hh r ej hj=>?_⟩;rw[A36]at ej;by_cases Ba:k=j
  .subst Ba;rw[W1 rfl,W1 hl]at ej;cases ej;rw[qo];exact ho i g q e λ z=>hi z.symm
  .rw[o0 Ba]at ej;exact h2 j hh r ej hj
theorem Good.sub{xs ys:γ GO}(h:Good rows xs)(hs:∀(i:Nat) g p,ys[i]?=AC (g,AC p)->xs[i]?=AC (g,AC p)):Good rows ys:=by intro i g p e;let⟨h1,h2⟩:=h i g p (hs i g p e);exact⟨h1,λ j hh q ej hj=>h2 j hh q (hs j hh q ej) hj⟩
theorem Good.keeps(h:Good rows xs):p7 rows (mj xs)=Da:=by
 rw[Ci];constructor
 .intro y hy;let⟨i,hi⟩:=A73 (h_.mp hy);exact(h i y.1 y.2 hi).1
 .rw[sQ,C22];intro i j hi hj rS p q ep eq;have e1:xs[i]?=AC (xs[i].1,AC p):=by rw[A00,<-ep]
  have e2:xs[j]?=AC (xs[j].1,AC q):=by rw[A00,<-eq]
  exact(h j _ q e2).2 i _ p e1 ∅
theorem mH(ps:γ Pl)(g:G){ss:γ GP}(hp:ps.length<=10000)(hs:ss.length<=6):dI [.tup (ps.map aN),aD g,.lst (ss.map o5)]=.ok (.tup<|(ps.filter λ p=>ss.all λ x=>bH g p x.1 x.2).map aN):=by
 rw[vd];refine ay ?_;have hp':ps.length<=16777216:=by lia
 simp[kA,aQ,dC,cD,hp'];refine bz aN (λ p=>ss.all λ x=>bH g p x.1 x.2) aN ?_ ?_
 .intro p hp;simp[LD g p (xs:=ss) ∅]
 .rfl
theorem zB(hk:xs[k]?=AC x)(p:Pl):((mj<|xs.set k (x.1,Ch)).all λ y=>bH g p y.1 y.2)=openAt xs g k p:=by
 rw[A51,m?,A31];have hl:=(A03.mp hk).1;constructor
 .intro h j hh q e hj;have hm:(hh,AC q)∈xs.set k (x.1,Ch):=by refine A18 (i:=j) ?_;rw[A36,o0 λ z=>hj z.symm];exact e
  exact h (hh,q)<|h_.mpr hm
 .intro h y hy;let⟨j,e⟩:=A73 (h_.mp hy);rw[A36]at e;by_cases hj:k=j
  .rw[W1 hj]at e;subst hj;rw[W1 hl]at e;exact nomatch A12 Prod.snd (A05 e)
  .rw[o0 hj]at e;exact h j y.1 y.2 e λ z=>hj z.symm
theorem mJ(h:p∈places rows C g):bR rows g p=Da:=(A44.mp h).2
end KH
set_option maxRecDepth 4000
namespace KB
open Z KG KH
def nE:SF:=(aF<|eB aL (eX 0 6)<|eU Jd<|eL<|bf (cZ<|eX 0 7) 1 [1] (aG 0) (tE<|eB oEq (eX 0 0)<|eW 1)<|eX 0 1)
def jd:γ D->Res D:=fn 2 2 nE
theorem AA(x0 x1:D):jd [x0,x1]=bc (nE [AC (.val x0),AC (.val x1)]):=bW _ _ _ _ rfl
def nD:SF:=(aF<|eU Jd<|eL<|bf (cZ<|aj KG.bN<|aV 0<|aV 1 ah) 2 [] (dE [0,1]) bI<|aj jd<|aV 0<|aX 1 0 ah)
def b9:γ D->Res D:=fn 2 2 nD
theorem Az(x0 x1:D):b9 [x0,x1]=bc (nD [AC (.val x0),AC (.val x1)]):=bW _ _ _ _ rfl
def iO:SF:=(aB (aK 3<|eIf (tE<|eU fO<|eW 2) (eB D4 (cq<|ag (eC .non) ah)<|eU cm<|eW 1)<|eV 2)<|aB (dH (fL<|tE<|aj KG.lC<|aV 0<|aV 1<|aV 3 ah) jV aJ)<|aF<|eV 3)
def ba:γ D->Res D:=fn 3 4 iO
theorem rF(x0 x1 x2:D):ba [x0,x1,x2]=bc (iO [AC (.val x0),AC (.val x1),AC (.val x2),Ch]):=bW _ _ _ _ rfl
def CY:SF:=(aB (aK 3<|eI 1)<|aB (gg (J6 (eV 1)<|aj ba<|aV 0<|aV 1<|aV 2 ah) (dE [4,5])<|dH (tE<|eU fO<|eW 5) (aK 3<|eB eO (eV 3)<|eB aL (eU cm<|aj KG.ee<|aV 0<|aV 4 ah)<|eI 1) aJ)<|aF<|eV 3)
def rW:γ D->Res D:=fn 3 6 CY
theorem OW(x0 x1 x2:D):rW [x0,x1,x2]=bc (CY [AC (.val x0),AC (.val x1),AC (.val x2),Ch,Ch,Ch]):=bW _ _ _ _ rfl
def js:SF:=(aB (aK 3<|aj rW<|aV 0<|aV 1<|aV 2 ah)<|aB (dH (tE<|eB D5 (eW 3)<|eI 2000) jV aJ)<|aF<|aj ba<|aV 0<|aV 1<|aV 2 ah)
def dU:γ D->Res D:=fn 3 4 js
theorem uc(x0 x1 x2:D):dU [x0,x1,x2]=bc (js [AC (.val x0),AC (.val x1),AC (.val x2),Ch]):=bW _ _ _ _ rfl
def hX:SF:=(aB (aK 5<|aj KG.ee<|aV 0<|ag (eY 1 3) ah)<|aB (mm 6<|bu ah)<|aB (gg (cZ<|eV 2) (aG 7)<|aB (aK 8<|aj KG.bN<|aV 1<|aV 7 ah)<|aB (FF 6<|bf (cZ<|aj KH.dI<|aV 5<|ag (eY 1 3)<|aV 8 ah) 1 [7,3] (aG 0) bI<|aj KH.bX<|aV 1<|aV 2<|aV 0 ah)<|dH (tE<|eV 4) (cC 6<|eV 7) aJ)<|pQ 6<|aF<|eV 6)
def d_:γ D->Res D:=fn 5 9 hX
theorem p?(x0 x1 x2 x3 x4:D):d_ [x0,x1,x2,x3,x4]=bc (hX [AC (.val x0),AC (.val x1),AC (.val x2),AC (.val x3),AC (.val x4),Ch,Ch,Ch,Ch]):=bW _ _ _ _ rfl
def hZ:SF:=(aB (aK 4<|eL<|bu<|aV 2 ah)<|aB (gg (dR<|eU cm<|eW 1) (aG 5)<|dH (tE<|eU fO<|eY 2 5) (aK 4<|aj d_<|aV 0<|aV 1<|aV 4<|aV 5<|aV 3 ah) aJ)<|aF<|eV 4)
def c5:γ D->Res D:=fn 4 6 hZ
theorem p_(x0 x1 x2 x3:D):c5 [x0,x1,x2,x3]=bc (hZ [AC (.val x0),AC (.val x1),AC (.val x2),AC (.val x3),Ch,Ch]):=bW _ _ _ _ rfl
def f_:SF:=(aF<|yp Da (.ok .non) (eW 1) [0]<|aj b9<|aV 1<|aV 0 ah)
def eQ:γ D->Res D:=fn 2 2 f_
theorem mM(x0 x1:D):eQ [x0,x1]=bc (f_ [AC (.val x0),AC (.val x1)]):=bW _ _ _ _ rfl
def iL:SF:=(aB (aK 2<|eX 0 6)<|aB (gg (cZ<|eX 0 7) (dE [3,4])<|dH (tE<|eB oEq (eW 3)<|eW 1) (aK 2<|eB aL (eW 2)<|eW 4) aJ)<|aF<|eV 2)
def dF:γ D->Res D:=fn 2 5 iL
theorem rD(x0 x1:D):dF [x0,x1]=bc (iL [AC (.val x0),AC (.val x1),Ch,Ch,Ch]):=bW _ _ _ _ rfl
def gU:SF:=(aB (aK 3<|aj dU<|aV 0<|aV 1<|aV 2 ah)<|aF<|aj eQ<|aV 1<|ag (aj c5<|aV 0<|aV 1<|aV 3<|ag (eC<|.bl AT) ah) ah)
def bj:γ D->Res D:=fn 3 4 gU
theorem lF(x0 x1 x2:D):bj [x0,x1,x2]=bc (gU [AC (.val x0),AC (.val x1),AC (.val x2),Ch]):=bW _ _ _ _ rfl
end KB
set_option maxRecDepth 8000
namespace KB
open Z KG
open KH
theorem FP(H:Hall rows C)(xs:γ GO)(g:G)(k:Nat):(dD rows C xs g k).length<=10000:=A11 (A50 _ _)<|places_len H g
theorem TC(H:Hall rows C)(h6:xs.length<=6)(hg:∀x∈xs,GOk x.1)(hk:Good rows xs):KG.lC [aS rows,av xs,ai xs]=.ok (.bl Da):=by have:=JU H h6 hg;rw[hk.keeps]at this;exact this
theorem wy(H:Hall rows C)(h6:xs.length<=6)(hg:∀x∈xs,GOk x.1)(hk:Good rows xs):ba [aS rows,av xs,ai xs]=.ok (ai xs):=by rw[rF];refine ay ?_;have hN:fO (ai xs)=.ok _:=rfl;simp[iO,hN,TC H h6 hg hk]
def wtD:D->Int
|.int w=>w
|_=>0
noncomputable def plD:D->Pl
|.tup [.int a,.int b]=>(a,b)
|_=>(0,0)
def V9:D->γ Pl
|.tup ds=>ds.map plD
|_=>[]
def more(ws:γ Pl)(row:Int):Int:=((ws.filter λ p=>decide<|p.1=row).map (·.2)).sum
def y7(g:G)(row:Int):Int:=wtD g.worth+more (V9 g.sf) row
def wO(x:GO):Int:=match x.2 with
|none=>0
|some p=>y7 x.1 p.1
theorem wZ(ws:γ Pl):V9 (.tup<|ws.map aN)=ws:=by show(ws.map aN).map plD=ws;rw[A16];have:(plD∘aN)=id:=funext λ p=>rfl;rw[this,List.map_id]
theorem QU(ns:γ Int):Jd (.lst<|ns.map D.int)=.ok (.int ns.sum):=by show(match zq _ with|some i=>Res.ok _|none=>.bad)=_;rw[vH]
theorem yV(h:fG g)(row:Int):jd [aD g,.int row]=.ok (.int<|y7 g row):=by
 let⟨wt,ws,hl,e1,e2⟩:=h._6;rw[AA];refine ay ?_;have rB:ws.length<=16777216:=by lia
 have e3:y7 g row=wt+more ws row:=by unfold y7;rw[e1,e2,wZ];rfl
 rw[e3];simp[nE,aQ,dC,cD,e1,e2,rB];refine bz aN (λ p=>decide<|p.1=row) (λ p=>.int p.2) (λ p _=>?_) ?_
 .simp;rfl
 .rw[show(ws.filter λ p=>decide _).map (λ p=>D.int p.2)=((ws.filter λ p=>decide _).map _).map D.int from by rw[A16];rfl,QU];simp[more]
theorem xo:∀xs,((mj xs).map λ y=>y7 y.1 y.2.1).sum=(xs.map wO).sum
|[]=>rfl
|(g,Ch)::xs=>by simp[mj,wO,xo xs]
|(g,AC p)::xs=>by simp[mj,wO,xo xs]
theorem yU{xs:γ GO}(h:xs.length<=6)(hg:∀x∈xs,fG x.1):b9 [.tup (xs.map λ x=>aD x.1),.tup (xs.map λ x=>bP x.2)]=.ok (.int (xs.map wO).sum):=by
 rw[Az];refine ay ?_;have et:=n4 (xs:=xs) ∅;have Gm:=lS xs;have Cp:(mj xs).length<=16777216:=by lia
 simp[nD,et,aQ,Cp];refine bz o5 (λ _=>Da) (λ y=>.int<|y7 y.1 y.2.1) (λ y hy=>?_) ?_
 .have:=yV (hg _<|h_.mp hy) y.2.1;have gX:∀ρ,dE [0,1] (o5 y) ρ=.ok _:=λ ρ=>rfl;simp[this]
 .rw[j!,show(mj xs).map (λ y=>D.int _)=((mj xs).map λ y=>y7 y.1 y.2.1).map D.int from by rw[A16];rfl,QU,xo];simp
theorem MZ{xs:γ GO}:(xs.set k x).length=xs.length:=AC7
theorem se{xs:γ GO}(h6:xs.length<=6){k:Nat}(hk:xs[k]?=AC (g,o))(p:Pl):KH.bX [ai xs,.int (k),aN p]=.ok (ai<|xs.set k (g,AC p))/\KH.lA [ai xs,.int (k),aN p]=.ok (ai<|xs.set k (g,AC p)):=by have hl:=(A03.mp hk).1;have h1:=uL (ds:=xs.map λ x=>bP x.2) (k:=k) (by simp;lia) (by simp;lia)<|aN p;have h2:=Mo (ds:=xs.map λ x=>bP x.2) (k:=k) (by simp;lia) (by simp;lia)<|aN p;rw[GJ];exact⟨h1,h2⟩
theorem Ik{C:Nat}(hr:∀x∈rows,x.length=C)(h:bL rows s=AC c):0<=s.1/\s.1<rows.length/\0<=s.2/\s.2<C:=by
 unfold bL at h;split at h
 .rename_i z;cases e:rows[s.1.toNat]? with
  |none=>rw[e]at h;cases h
  |some r=>rw[e]at h;have h:=h;have h1:=(A03.mp h).1;have h2:=(A03.mp e).1;have hl:=hr r<|A18 e;lia
 .cases h
theorem WA(k:GOk g)(p:Pl):p∈seats g p:=by have hw:=k.w1;have hd:=k.d1;unfold seats g_ fM;simp only[B01,A24,v6];exact⟨0,by lia,0,by lia,by simp⟩
theorem ua(H:Hall rows C)(k:GOk g)(h:bR rows g p=Da):p∈places rows C g:=by
 refine A44.mpr ⟨pY.mpr ?_,h⟩;unfold bR at h;rw[A38,A31]at h;have:=h.1 p<|WA k p;cases e:bL rows p with
 |none=>rw[e]at this;cases this
 |some c=>exact Ik H.len e
structure Ext(cs hs:List GO):Prop where
 gs:cs.map (·.1)=hs.map (·.1)
 sub:∀(i:Nat)(g:G)(p:Pl),cs[i]?=AC (g,AC p)->hs[i]?=AC (g,AC p)
theorem Ext.len(e:Ext cs hs):cs.length=hs.length:=by have:=A12 List.length e.gs;rwa [A04,A04]at this
theorem Ext.at(e:Ext cs hs){k:Nat}(h:cs[k]?=AC (g,o)):∃o',hs[k]?=AC (g,o')/\(∀p,o=AC p->o'=AC p):=by
 have hl:=(A03.mp h).1;rw[e.len]at hl;obtain⟨⟨g',o'⟩,e'⟩:∃x,hs[k]?=AC x:=⟨_,A00 hl⟩
 have z:=A12 (λ l=>l[k]?) e.gs;simp only[A06,h,e',A62,A98]at z;subst z;refine⟨o',e',λ p hp=>?_⟩;subst hp;have:=e.sub k g p h;rw[e']at this;exact(Prod.mk.inj<|A05 this).2
theorem Ga(k:fG g)(row:Int):dF [aD g,.int row]=.ok (.int<|y7 g row):=by
 let⟨wt,ws,hl,e1,e2⟩:=k._6;have i6:aZ (aD g) (.int 6)=.ok (.int wt):=by rw[<-e1];rfl
 have i7:aZ (aD g) (.int 7)=.ok (.tup<|ws.map aN):=by rw[<-e2];rfl
 have e3:y7 g row=wt+more ws row:=by unfold y7;rw[e1,e2,wZ];rfl
 rw[rD,e3];refine ay ?_;simp[iL,i6,i7];refine fq (λ i ρ=>∃x3 x4,ρ=[v (aD g),vi row,vi (wt+more (ws.take i) row),x3,x4]) ⟨Ch,Ch,by simp[more]⟩ ?_ ?_
 .rintro j d ρ hj ⟨x3,x4,rfl⟩;rw[A06]at hj;let⟨p,hp,rfl⟩:=B53.mp hj;have gX:∀ρ,dE [3,4] (aN p) ρ=.ok _:=λ ρ=>rfl;have ft:more (ws.take<|j+1) row=more (ws.take j) row+if p.1=row then p.2 else 0:=by unfold more;rw[C02,hp,B18,A23,List.sum_append];by_cases h:p.1=row<;>simp[h]
  generalize more (ws.take<|j+1) row=ta at ft ⊢;generalize more (ws.take j) row=tb at ft ⊢;by_cases h:p.1=row
  .rw[W1 h]at ft;simp[gX,h];lia
  .rw[o0 h]at ft;simp[gX,h];lia
 .rintro ρ ⟨x3,x4,rfl⟩;rw[A04,B36<|M2 _];simp
theorem zip_map{α:Type}(f h:α->D):∀xs:γ α,kS (xs.map f) (xs.map h)=xs.map λ x=>.tup [f x,h x]
|[]=>rfl
|x::xs=>by simp[kS,zip_map f h xs];rfl
open KH
def bQ:γ Nat->Nat
|[]=>1
|n::r=>n*bQ r
theorem fN:∀a b,bQ (a++b)=bQ a*bQ b
|[],b=>by simp[bQ]
|n::a,b=>by simp[bQ,fN a b,Nat.mul_assoc]
theorem vO:∀{l},(∀n∈l,0<n)->0<bQ l
|[],_=>Nat.one_pos
|n::l,h=>Nat.mul_pos (h n A08)<|vO λ m hm=>h m<|A07 _ hm
def du(rows:Rows)(C:Nat)(x:GO):Nat:=match x.2 with
|none=>(places rows C x.1).length+1
|some _=>1
theorem sk(rows:Rows)(C:Nat)(x:GO):0<du rows C x:=by unfold du;split<;>lia
def a!(rows:Rows)(C:Nat)(xs:γ GO):Nat:=bQ<|xs.map<|du rows C
theorem yZ(xs:γ GO):0<bQ (xs.map<|du rows C):=vO λ n hn=>by let⟨x,_,rfl⟩:=v6.mp hn;exact sk rows C x
theorem Fe(xs:γ GO)(j:Nat):bQ ((xs.take j).map<|du rows C)<=a! rows C xs:=by
 unfold a!;have e:xs.map (du rows C)=(xs.take j).map (du rows C)++(xs.drop j).map (du rows C):=by rw[<-A23,C31]
 rw[e,fN];exact C52 _<|yZ _
theorem pE{xs:γ GO}(h:xs[j]?=AC x):bQ ((xs.take<|j+1).map<|du rows C)=bQ ((xs.take j).map<|du rows C)*du rows C x:=by rw[take_snoc h,A23,fN];simp[bQ]
theorem Mq(H:Hall rows C)(h6:xs.length<=6)(hg:∀x∈xs,GOk x.1)(ef:ba [aS rows,av xs,fd]=.ok (ai xs)):rW [aS rows,av xs,fd]=.ok (.int<|a! rows C xs):=by
 rw[OW];refine ay ?_;simp[CY,ef];unfold av ai at *;simp[zip_map];refine fq (λ i ρ=>∃x4 x5,ρ=[v _,v _,v fd,vi (bQ<|(xs.take i).map<|du rows C),x4,x5]) ⟨Ch,Ch,rfl⟩ ?_ ?_
 .rintro j d ρ hj ⟨x4,x5,rfl⟩;rw[A06]at hj;let⟨⟨g,o⟩,hx,rfl⟩:=B53.mp hj;have gX:∀ρ,dE [4,5] (.tup [aD g,bP o]) ρ=.ok _:=λ ρ=>rfl;rw[pE hx];generalize bQ _=m;cases o with
  |some p=>have en:fO (aN p)=.ok _:=rfl;simp[gX,bP,en,du]
  |none=>have pl:=places_of_ok H<|hg _<|A18 hx;have d!:=places_len H g;rw[show du rows C (g,Ch)=(places rows C g).length+1 from rfl];generalize places rows C g=ps at pl d! ⊢;have q1:bA (m) ((ps.length)+1):=tz<|Or.inl ⟨by lia,by lia⟩;simp[gX,bP,pl,q1]
 .rintro ρ ⟨x4,x5,rfl⟩;rw[A04,B60];simp[a!]
theorem zA(H:Hall rows C)(h6:xs.length<=6)(hg:∀x∈xs,GOk x.1)(ef:ba [aS rows,av xs,fd]=.ok (ai xs))(hw:a! rows C xs<=2000):dU [aS rows,av xs,fd]=.ok (ai xs):=by
 have ew:=Mq H h6 hg ef;rw[uc];refine ay ?_;have:¬(2000:Int)<(a! rows C xs):=by lia
 simp[js,ew,ef,this]
def jx(rows:Rows)(C:Nat)(sm:Bool)(g:G)(k:Nat)(cs:γ GO):γ (γ GO):=(dD rows C cs g k).map (λ p=>cs.set k (g,AC p))++if sm then[cs]else[]
theorem zw:(jx rows C sm g k cs).length<=(places rows C g).length+1:=by have:=A50 (openAt cs g k)<|places rows C g;unfold jx dD;cases sm<;>simp<;>lia
theorem oW{α β:Type}{f:α->γ β}:∀{L:γ α},(∀x∈L,(f x).length<=m)->(L.flatMap f).length<=L.length*m
|[],_=>by simp
|x::L,h=>by have:=oW λ y hy=>h y<|A07 _ hy;have hx:=h x A08;rw[AA0,A28,A27,Nat.add_mul,Nat.one_mul];lia
theorem Kc(h:cs.map (·.1)=xs.map (·.1)):av cs=av xs:=by have:=A12 (List.map aD) h;rw[A16,A16]at this;exact A12 D.tup this
theorem FO(H:Hall rows C){cs:γ GO}(h6:cs.length<=6){k:Nat}(hk:cs[k]?=AC (g,Ch)):KH.dI [.tup ((places rows C g).map aN),aD g,.lst ((mj cs).map o5)]=.ok (.tup<|(dD rows C cs g k).map aN):=by
 have hl:=(A03.mp hk).1;have Gm:=lS cs;have ho:=mH _ g (ss:=mj cs) (places_len H g) ∅;have TX:cs.set k (g,Ch)=cs:=by have:=(A03.mp hk).2;rw[<-this];exact C53 hl
 have he:(places rows C g).filter (λ p=>(mj cs).all λ x=>bH g p x.1 x.2)=dD rows C cs g k:=by refine xz λ p _=>?_;have:=zB (g:=g) hk p;simp only at this;rw[TX]at this;exact this
 rw[he]at ho;exact ho
theorem zP(H:Hall rows C){xs:γ GO}(h6:xs.length<=6)(hg:∀x∈xs,GOk x.1){k:Nat}{g:G}(hk:xs[k]?=AC (g,Ch))(sm:Bool){L:γ (γ GO)}(hL:∀cs∈L,cs.map (·.1)=xs.map (·.1)/\cs[k]?=AC (g,Ch))(hB:L.length*((places rows C g).length+1)<=1000000):
 d_ [aS rows,av xs,.lst (L.map ai),.int (k:Nat),.bl sm]=.ok (.lst<|(L.flatMap<|jx rows C sm g k).map ai):=by
 rw[p?];refine ay ?_;have ixg:aZ (av xs) (.int (k:Nat))=.ok (aD g):=(gm (xs:=xs.map λ y:GO=>aD y.1) (i:=k) (j:=k) rfl (by rw[A06,hk];rfl)).1;have pl:=places_of_ok H<|hg _<|A18 hk;simp[hX,ixg,pl,line];refine fq (λ i ρ=>∃x7 x8,ρ=[v (aS rows),v (av xs),v (.lst<|L.map ai),vi (k:Nat),v (.bl sm),v (.tup<|(places rows C g).map aN),ow (((L.take i).flatMap<|jx rows C sm g k).map ai),x7,x8]) ⟨Ch,Ch,by simp⟩ ?_ ?_
 .rintro i d ρ hi ⟨x7,x8,rfl⟩;rw[A06]at hi;let⟨cs,Ez,rfl⟩:=B53.mp hi;let⟨e1,e2⟩:=hL cs (A18 Ez);have lY:cs.length<=6:=by have:=A12 List.length e1;rw[A04,A04]at this;lia
  have ht:=n4 (xs:=cs) ∅;rw[show D.tup (cs.map λ x=>aD x.1)=av cs from rfl,show D.tup (cs.map λ x=>bP x.2)=ai cs from rfl,Kc e1]at ht;have ho:=FO H lY e2;have Am:i<L.length:=(A03.mp Ez).1;have L_:((L.take i).flatMap<|jx rows C sm g k).length<=(L.take i).length*((places rows C g).length+1):=oW λ x _=>zw;rw[A30,A66<|A75 Am]at L_;have agK:i*((places rows C g).length+1)+((places rows C g).length+1)<=L.length*((places rows C g).length+1):=by rw[<-B25];exact B02 _ Am
  rw[take_snoc Ez,List.flatMap_append];generalize (L.take i).flatMap (jx rows C sm g k)=fs at L_;have hol:=A50 (openAt cs g k)<|places rows C g;have T5:(dD rows C cs g k).length<=(places rows C g).length:=hol;have Hw:(dD rows C cs g k).length<=16777216:=by lia
  have ho3:fs.length+(dD rows C cs g k).length<=16777216:=by lia
  have ho4:fs.length+(dD rows C cs g k).length<16777216:=by lia
  simp[ht,ixg,ho,aQ,dC,cD,line,Hw];refine bz aN (λ _=>Da) (λ p=>ai<|cs.set k (g,AC p)) (λ p hp=>?_) ?_
  .simp[(se lY e2 p).1]
  .rw[j!];cases sm with
   |true=>simp[line,ho3,ho4,jx]
   |false=>simp[line,ho3,jx]
 .rintro ρ ⟨x7,x8,rfl⟩;rw[A04,B60];simp
open KH
noncomputable def cu(rows:Rows)(C:Nat)(sm:Bool)(xs:γ GO):Nat->γ (γ GO)
|0=>[xs]
|j+1=>match xs[j]? with
 |some (g,Ch)=>(cu rows C sm xs j).flatMap<|jx rows C sm g j
 |_=>cu rows C sm xs j
section
variable{rows:Rows}{C:Nat}{sm:Bool}{xs:γ GO}
theorem iB{j:Nat}(h:xs[j]?=AC (g,Ch)):cu rows C sm xs (j+1)=(cu rows C sm xs j).flatMap (jx rows C sm g j):=by simp only[cu,h]
theorem iA{j:Nat}(h:xs[j]?=AC (g,AC p)):cu rows C sm xs (j+1)=cu rows C sm xs j:=by simp only[cu,h]
theorem vL:∀{j},j<=xs.length->(cu rows C sm xs j).length<=bQ ((xs.take j).map<|du rows C)
|0,_=>by simp[cu,bQ]
|j+1,hj=>by
 have ih:=vL (j:=j) ∅;obtain⟨⟨g,o⟩,e⟩:∃x,xs[j]?=AC x:=⟨_,A00 ∅⟩
 rw[pE e];cases o with
 |some p=>rw[iA e,show du rows C (g,AC p)=1 from rfl,Nat.mul_one];exact ih
 |none=>rw[iB e];exact A11 (oW λ x _=>zw)<|B02 _ ih
structure E6(rows:Rows)(sm:Bool)(xs:List GO)(j:Nat)(z:List GO):Prop where
 gs:z.map (·.1)=xs.map (·.1)
 rest:∀i:Nat,j<=i->z[i]?=xs[i]?
 ext:Ext xs z
 good:Good rows z
 full:sm=AT->∀(i:Nat)(g:G),i<j->z[i]?≠AC (g,Ch)
theorem MN{j:Nat}(e:xs[j]?=AC (g,Ch))(h:E6 rows sm xs j z)(hy:y∈jx rows C sm g j z):E6 rows sm xs (j+1) y:=by
 have hz:=(h.rest j<|M2 _).trans e;have hl:=(A03.mp hz).1;rcases A37.mp hy with hy|hy
 .let⟨p,hp,rfl⟩:=v6.mp hy;let⟨h1,h2⟩:=A44.mp hp;have gs:(z.set j (g,AC p)).map (·.1)=xs.map (·.1):=by
   rw[<-h.gs];refine B74 λ i=>?_;rw[A06,A06,A36];split
   .rename_i ei;subst ei;rw[hz];rfl
   .rfl
  refine⟨gs,λ i hi=>?_,⟨gs.symm,λ i g' q ei=>?_⟩,h.good.put hz (KH.mJ h1) h2,λ hs i g' hi=>?_⟩
  .rw[A36,o0 ∅];exact h.rest i ∅
  .have:=h.ext.sub i g' q ei;rw[A36];split
   .rename_i ej;subst ej;rw[hz]at this;cases this
   .exact this
  .rw[A36];split
   .rename_i ej;subst ej;intro q;cases q
   .exact h.full hs i g' ∅
 .cases sm with
  |false=>simp at hy
  |true=>
   have:y=z:=by simpa using hy
   subst this;exact⟨h.gs,λ i hi=>h.rest i ∅,h.ext,h.good,λ hs=>nomatch hs⟩
theorem n?(hk:Good rows xs):∀{j},j<=xs.length->∀z∈cu rows C sm xs j,E6 rows sm xs j z
|0,_,z,hz=>by
 have:z=xs:=by simpa[cu]using hz
 subst this;exact⟨rfl,λ _ _=>rfl,⟨rfl,λ _ _ _ e=>e⟩,hk,λ _ i g hi=>absurd hi<|Nat.not_lt_zero _⟩
|j+1,hj,z,hz=>by
 obtain⟨⟨g,o⟩,e⟩:∃x,xs[j]?=AC x:=⟨_,A00 ∅⟩
 have ih:=n? hk (j:=j) ∅;cases o with
 |some p=>
  rw[iA e]at hz;have h:=ih z hz;refine⟨h.gs,λ i hi=>h.rest i ∅,h.ext,h.good,λ hs i g' hi=>?_⟩;by_cases rS:i=j
  .subst rS;rw[h.rest i<|M2 _,e];intro q;cases q
  .exact h.full hs i g' ∅
 |none=>rw[iB e]at hz;let⟨y,hy,hzy⟩:=B01.mp hz;exact MN e (ih y hy) hzy
theorem zE(H:Hall rows C)(hg:∀x∈xs,GOk x.1)(e:Ext xs z)(hz:Good rows z)(hs:sm=Da\/∀(i:Nat) g,z[i]?≠AC (g,Ch)):∀{j},j<=xs.length->z.take j++xs.drop j∈cu rows C sm xs j
|0,_=>by simp[cu]
|j+1,hj=>by
 have ih:=zE H hg e hz hs (j:=j) ∅;have hzl:=e.len;obtain⟨⟨g,o⟩,ex⟩:∃x,xs[j]?=AC x:=⟨_,A00 ∅⟩
 let⟨o',ez,ho⟩:=e.at ex;have hjl:j<xs.length:=by lia
 have hjz:j<z.length:=by lia
 have d1:xs.drop j=(g,o)::xs.drop (j+1):=by rw[A93 hjl];rw[A00 hjl]at ex;rw[A05 ex]
 have t1:=take_snoc ez;have tl:(z.take j).length=j:=by rw[A30];lia
 cases o with
 |some p=>rw[ho p rfl]at t1;rw[iA ex,t1,A70];rw[d1]at ih;exact ih
 |none=>
  rw[iB ex];refine B01.mpr ⟨_,ih,?_⟩;rw[d1];cases o' with
  |none=>
   rcases hs with rfl|hs
   .refine A42 _ ?_;rw[t1,A70];simp
   .exact absurd ez<|hs j g
  |some p=>
   refine A76 _<|v6.mpr ⟨p,?_,?_⟩
   .let⟨f,ap⟩:=hz j g p ez;refine A44.mpr ⟨ua H (hg _<|A18 ex) f,m?.mpr λ i g' q ei ne=>?_⟩;rw[<-d1]at ei;refine ap i g' q ?_ ne;by_cases hi:i<j
    .rw[A21 (by rw[tl];exact hi),C38 hi]at ei;exact ei
    .rw[A43 (by rw[tl];lia),C29,tl,show j+(i-j)=i by lia]at ei;exact e.sub i g' q ei
   .rw[t1,A70,List.set_append_right _ _ (by rw[tl];exact M2 _),tl,Nat.sub_self];rfl
theorem sS(H:Hall rows C)(hg:∀x∈xs,GOk x.1)(e:Ext xs z)(hz:Good rows z)(hs:sm=Da\/∀(i:Nat) g,z[i]?≠AC (g,Ch)):z∈cu rows C sm xs xs.length:=by have:=zE H hg e hz hs<|M2 _;rw[B55,A48,e.len,B60]at this;rw[e.len];exact this
theorem EH(H:Hall rows C)(h6:xs.length<=6)(hg:∀x∈xs,GOk x.1)(hk:Good rows xs)(hw:a! rows C xs<=2000):c5 [aS rows,av xs,ai xs,.bl sm]=.ok (.lst<|(cu rows C sm xs xs.length).map ai):=by
 rw[p_];refine ay ?_;have hl:cm (av xs)=.ok (.int xs.length):=by simp[av]
 simp[hZ,hl,line];refine fq (λ i ρ=>∃x5,ρ=[v (aS rows),v (av xs),v (ai xs),v (.bl sm),v (.lst<|(cu rows C sm xs i).map ai),x5]) ⟨Ch,rfl⟩ ?_ ?_
 .rintro j d ρ hj ⟨x5,rfl⟩;let⟨Ba,rfl⟩:=ints_get hj;obtain⟨⟨g,o⟩,e⟩:∃x,xs[j]?=AC x:=⟨_,A00 Ba⟩
  have ix:aZ (ai xs) (.int<|j)=.ok (bP o):=(gm rfl (by rw[A06,e];rfl)).1;cases o with
  |some p=>have en:fO (aN p)=.ok (.bl AT):=rfl;rw[iA e];simp[ix,bP,en]
  |none=>
   have hi:=n? (C:=C) (sm:=sm) hk (j:=j) ∅;have ψ:=vL (rows:=rows) (C:=C) (sm:=sm) (xs:=xs) (j:=j) ∅;have h1:=Fe (rows:=rows) (C:=C) xs<|j+1;rw[pE e,show du rows C (g,Ch)=(places rows C g).length+1 from rfl]at h1;have hB:(cu rows C sm xs j).length*((places rows C g).length+1)<=1000000:=by have:=B02 ((places rows C g).length+1) ψ;lia
   have om:=zP H h6 hg e sm (L:=cu rows C sm xs j) (λ cs Ez=>⟨(hi cs Ez).gs,((hi cs Ez).rest j<|M2 _).trans e⟩) hB;rw[iB e];simp[ix,bP,om]
 .rintro ρ ⟨x5,rfl⟩;rw[fU];simp
noncomputable def bM{α:Type}(mx:Bool)(w:α->Int)(b:α):γ α->α
|[]=>b
|x::r=>if G? mx (w x) (w b)=Da then bM mx w x r else bM mx w b r
theorem oj{enc:α->D}:∀r b,(∀x∈r,e (enc x)=.ok (w x))->Q_ mx e (enc b) (w b) (r.map enc)=.ok (enc<|bM mx w b r)
|[],b,_=>rfl
|x::r,b,h=>by
 have hx:=h x A08;have hr:=λ y hy=>h y<|A07 _ hy;rw[v4];unfold Q_ bM;rw[hx];simp only[Res.jX];split
 .exact oj r x hr
 .exact oj r b hr
theorem jC{w:α->Int}:∀r b,bM mx w b r=b\/bM mx w b r∈r
|[],b=>.inl rfl
|x::r,b=>by
 unfold bM;split
 .rcases jC r x with h|h
  .rw[h];exact .inr A08
  .exact .inr<|A07 _ h
 .rcases jC r b with h|h
  .exact .inl h
  .exact .inr<|A07 _ h
theorem iq{w:α->Int}:∀r b,w b<=w (bM Da w b r)/\∀x∈r,w x<=w (bM Da w b r)
|[],b=>⟨Int.le_refl _,λ x h=>by cases h⟩
|x::r,b=>by
 unfold bM;by_cases hb:G? Da (w x) (w b)=Da
 .rw[W1 hb];let⟨h1,h2⟩:=iq (w:=w) r x;have:w b<w x:=by simpa[G?]using hb
  exact⟨by lia,λ y hy=>by
   rcases A01.mp hy with rfl|hy
   .exact h1
   .exact h2 y hy⟩
 .rw[o0 hb];let⟨h1,h2⟩:=iq (w:=w) r b;have:w x<=w b:=by simpa[G?]using hb
  exact⟨h1,λ y hy=>by
   rcases A01.mp hy with rfl|hy
   .lia
   .exact h2 y hy⟩
def wS(z:γ GO):Int:=(z.map wO).sum
theorem Uo{z:γ GO}(hg:∀x∈xs,fG x.1)(h:z.map (·.1)=xs.map (·.1)):∀x∈z,fG x.1:=λ x hx=>by
 have:x.1∈xs.map (·.1):=by rw[<-h];exact v6.mpr ⟨x,hx,rfl⟩
 let⟨y,hy,e⟩:=v6.mp this;rw[<-e];exact hg y hy
theorem JL{z:γ GO}(h:z.map (·.1)=xs.map (·.1)):z.length=xs.length:=by have:=A12 List.length h;rwa [A04,A04]at this
theorem r_(h6:xs.length<=6)(hg:∀x∈xs,fG x.1)(h:z.map (·.1)=xs.map (·.1)):b9 [av xs,ai z]=.ok (.int<|wS z):=by have:=yU (by rw[JL h];exact h6)<|Uo hg h;rw[show D.tup _=av z from rfl,Kc h]at this;exact this
theorem LB(h6:xs.length<=6)(hg:∀x∈xs,fG x.1)(hL:∀z∈b::r,z.map (·.1)=xs.map (·.1)):eQ [av xs,.lst ((b::r).map ai)]=.ok (ai<|bM Da wS b r):=by
 rw[mM];refine ay ?_;have ke:∀z∈b::r,uZ (aj b9<|aV 1<|aV 0 ah) [v (av xs)] (ai z)=.ok (wS z):=λ z hz=>by refine JT ?_;simp[r_ h6 hg<|hL z hz]
 have pk:=oj (mx:=Da) r b λ z hz=>ke z<|A07 _ hz;have kb:=ke b A08;have e:yp Da (.ok .non) (eW 1) [0] (aj b9<|aV 1<|aV 0 ah) [v (av xs),v (.lst<|(b::r).map ai)]=.ok (ai<|bM Da wS b r):=by show pickK Da (.ok .non) (uZ _ [v _]) (ai b::r.map ai)=_;unfold pickK;dsimp only;rw[kb];exact pk
 simp only[v4]at e;simp[f_,e]
theorem Hb:eQ [av xs,.lst []]=.ok .non:=by rw[mM];refine ay ?_;have e:yp Da _ (eW 1) [0] (aj b9<|aV 1<|aV 0 ah) [v (av xs),v (.lst [])]=.ok .non:=rfl;simp[f_,e]
end
open KH
open KH
open KH
open KH
def ltO:ε Pl->ε Pl->Prop
|some p,AC q=>Ht p q
|some _,Ch=>True
|_,_=>False
def JJ(a b:γ GO):Prop:=∃(i:Nat)(g:G)(o o':ε Pl),(∀j,j<i->a[j]?=b[j]?)/\a[i]?=AC (g,o)/\b[i]?=AC (g,o')/\ltO o o'
theorem Ef(p:Pl):¬Ht p p:=by unfold Ht;lia
theorem Tq(h:ltO o o'):o≠o':=by
 rintro rfl;cases o with
 |none=>exact h
 |some p=>exact Ef p h
section
variable{C:Nat}{sm:Bool}
theorem xG(cs:γ GO)(g:G)(k:Nat):(dD rows C cs g k).Pairwise Ht:=(mF rows C g).filter _
theorem zu{cs:γ GO}{k:Nat}(hk:cs[k]?=AC (g,Ch)):(jx rows C sm g k cs).Pairwise JJ:=by
 have hl:=(A03.mp hk).1;have at_:∀p,(cs.set k (g,AC p))[k]?=AC (g,AC p):=λ p=>by rw[A36,W1 rfl,W1 hl]
 have off:∀p j,j<k->(cs.set k (g,AC p))[j]?=cs[j]?:=λ p j hj=>by rw[A36,o0 ∅]
 refine C23.mpr ⟨?_,?_,?_⟩
 .rw[B42];exact(xG cs g k).imp λ {p q} h=>⟨k,g,_,_,λ j hj=>by rw[off p j hj,off q j hj],at_ p,at_ q,h⟩
 .cases sm<;>simp
 .intro a ha b hb;let⟨p,_,rfl⟩:=v6.mp ha;cases sm with
  |false=>simp at hb
  |true=>
   have:b=cs:=by simpa using hb
   subst this;exact⟨k,g,_,Ch,λ j hj=>off p j hj,at_ p,hk,trivial⟩
theorem step_at(h:y∈jx rows C sm g k cs)(j:Nat)(hj:j≠k):y[j]?=cs[j]?:=by
 rcases A37.mp h with h|h
 .let⟨p,_,rfl⟩:=v6.mp h;rw[A36,o0<|A09 hj]
 .cases sm with
  |false=>simp at h
  |true=>
   have:y=cs:=by simpa using h
   rw[this]
theorem qB(hk:Good rows xs):∀{j},j<=xs.length->(cu rows C sm xs j).Pairwise JJ
|0,_=>by simp[cu]
|j+1,hj=>by
 have ih:=qB hk (j:=j) ∅;have hi:=n? (C:=C) (sm:=sm) hk (j:=j) ∅;obtain⟨⟨g,o⟩,e⟩:∃x,xs[j]?=AC x:=⟨_,A00 ∅⟩
 cases o with
 |some p=>rw[iA e];exact ih
 |none=>
  rw[iB e];refine C54.mpr ⟨λ a ha=>zu<|((hi a ha).rest j<|M2 _).trans e,C55 ?_ ih⟩;rintro a b ha hb ⟨i,g',o,o',h1,h2,h3,h4⟩ x hx y hy;have rS:i<j:=by refine Nat.lt_of_not_le λ z=>?_;have e1:=(hi a ha).rest i z;have e2:=(hi b hb).rest i z;rw[h2]at e1;rw[h3,<-e1]at e2;exact Tq h4 (Prod.mk.inj<|A05 e2).2.symm
  refine⟨i,g',o,o',λ m hm=>?_,?_,?_,h4⟩
  .rw[step_at hx m ∅,step_at hy m ∅];exact h1 m hm
  .rw[step_at hx i ∅];exact h2
  .rw[step_at hy i ∅];exact h3
end
open Classical in
noncomputable def oE(le:Bool):γ Pl->γ Pl->Bool
|[],[]=>le
|[],_::_=>Da
|_::_,[]=>AT
|p::ps,q::qs=>if p=q then oE le ps qs else decide (Ht p q)
def mE(z:γ GO):γ Pl:=z.filterMap (·.2)
def Full(z:γ GO):Prop:=∀(i:Nat)(g:G),z[i]?≠AC (g,Ch)
theorem EG(h:Full (x::z)):(∃p,x.2=AC p)/\Full z:=by
 refine⟨?_,λ i g e=>h (i+1) g (by simpa using e)⟩;let⟨g,o⟩:=x;cases o with
 |none=>exact absurd rfl<|h 0 g
 |some p=>exact⟨p,rfl⟩
open Classical in
theorem Eh(le:Bool):∀{a b},Full a->Full b->JJ a b->oE le (mE a) (mE b)=Da/\oE le (mE b) (mE a)=AT:=by
 intro a
 induction a with
 |nil=>rintro b _ _ ⟨i,g,o,o',_,h,_⟩;simp at h
 |cons x a ih=>
  intro b fa fb h;cases b with
  |nil=>let⟨i,g,o,o',_,_,h,_⟩:=h;simp at h
  |cons y b=>
   let⟨ga,oa⟩:=x;let⟨gb,ob⟩:=y;let⟨i,g,o,o',h1,h2,h3,h4⟩:=h;let⟨⟨p,e1⟩,fa'⟩:=EG fa;let⟨⟨q,e2⟩,fb'⟩:=EG fb;cases e1;cases e2;have ea:mE ((ga,AC p)::a)=p::mE a:=by simp[mE]
   have eb:mE ((gb,AC q)::b)=q::mE b:=by simp[mE]
   rw[ea,eb];cases i with
   |zero=>
    simp at h2 h3;let⟨rfl,rfl⟩:=h2;let⟨_,rfl⟩:=h3;have hpq:Ht p q:=h4;have ne:p≠q:=λ z=>Ef q<|z▸hpq;have nq:¬Ht q p:=by unfold Ht at hpq ⊢;lia
    simp[oE,ne,A09 ne,hpq,nq]
   |succ i=>have h0:=h1 0<|Nat.succ_pos _;simp at h0;let⟨rfl,rfl⟩:=h0;let⟨r1,r2⟩:=ih fa' fb' ⟨i,g,o,o',λ j hj=>by simpa using h1 (j+1) ∅,by simpa using h2,by simpa using h3,h4⟩;simp only[oE,A29];exact⟨r1,r2⟩
theorem OU(h:E6 rows AT xs xs.length z):Full z:=λ i g e=>by have hl:=(A03.mp e).1;rw[JL h.gs]at hl;exact h.full rfl i g hl e
open KH
theorem m9(w:α->Int):∀r b,∃t,(b::r).filter (λ z=>decide<|w z=w (bM Da w b r))=bM Da w b r::t
|[],b=>⟨[],by simp[bM]⟩
|x::r,b=>by
 unfold bM;by_cases hb:G? Da (w x) (w b)=Da
 .rw[W1 hb];let⟨t,e⟩:=m9 w r x;have h1:=(iq (w:=w) r x).1;have jc:w b<w x:=by simpa[G?]using hb
  have:¬w b=w (bM Da w x r):=by lia
  exact⟨t,by rw[A84 (by simpa using this)];exact e⟩
 .rw[o0 hb];let⟨t,e⟩:=m9 w r b;have h1:=(iq (w:=w) r b).1;have hle:w x<=w b:=by simpa[G?]using hb
  by_cases he:w b=w (bM Da w b r)
  .rw[B17 (by simpa using he)]at e ⊢;injection e with e1 e2
   exact⟨_,by rw[<-e1]⟩
  .rw[A84 (by simpa using he)]at e;have hx:¬w x=w (bM Da w b r):=by lia
   exact⟨t,by rw[A84 (by simpa using he),A84 (by simpa using hx)];exact e⟩
theorem sW(so:(b::r).Pairwise JJ):∀z∈b::r,wS z=wS (bM Da wS b r)->z=bM Da wS b r\/JJ (bM Da wS b r) z:=by
 let⟨t,ht⟩:=m9 wS r b;intro z hz he;have so2:=so.filter λ z=>decide<|wS z=wS (bM Da wS b r);have hm:z∈(b::r).filter (λ z=>decide<|wS z=wS _):=A44.mpr ⟨hz,by simpa using he⟩;rw[ht]at so2 hm;rcases A01.mp hm with h|h
 .exact .inl h
 .exact .inr<|(C26.mp so2).1 z h
theorem N3(fa:Full a)(fb:Full b)(h1:JJ a b)(h2:JJ b a):False:=by have e1:=(Eh AT fa fb h1).1;have e2:=(Eh AT fb fa h2).2;rw[e1]at e2;cases e2
structure ju(rows:Rows)(C:Nat)(xs m:List GO):Prop where
 ext:Ext xs m
 good:Good rows m
 full:Full m
 most:∀z,Ext xs z->Good rows z->Full z->wS z<=wS m/\(wS z=wS m->z=m\/JJ m z)
theorem oQ(H:Hall rows C)(hg:∀x∈xs,GOk x.1)(e:Ext xs z)(gz:Good rows z)(fz:Full z):z∈cu rows C AT xs xs.length:=sS H hg e gz<|.inr fz
theorem E1(H:Hall rows C)(hg:∀x∈xs,GOk x.1)(hk:Good rows xs)(e:cu rows C AT xs xs.length=b::r):ju rows C xs (bM Da wS b r):=by
 have hi:=n? (C:=C) (sm:=AT) hk<|M2 _;have so:=qB (C:=C) (sm:=AT) hk<|M2 _;rw[e]at hi so;have J!:bM Da wS b r∈b::r:=by
  rcases jC r b with h|h
  .rw[h];exact A08
  .exact A07 _ h
 let⟨h1,h2⟩:=iq (w:=wS) r b;refine⟨(hi _ J!).ext,(hi _ J!).good,OU<|hi _ J!,λ z ez gz fz=>?_⟩;have hz:=oQ H hg ez gz fz;rw[e]at hz;refine⟨?_,sW so z hz⟩;rcases A01.mp hz with rfl|h
 .exact h1
 .exact h2 z h
theorem ju.uniq(h:ju rows C xs m)(h':ju rows C xs m'):m'=m:=by
 have a:=h.most m' h'.ext h'.good h'.full;have b:=h'.most m h.ext h.good h.full;have e:wS m'=wS m:=by lia
 rcases a.2 e with z|z
 .exact z
 .rcases b.2 e.symm with y|y
  .exact y.symm
  .exact(N3 h.full h'.full z y).elim
end KB
set_option maxRecDepth 4000
namespace KC
open Z KG KH KB
def iN:SF:=(aF<|ue (eU (jb .int)<|eW 0)<|O5<|eU (jb .bool)<|eW 0)
def fy:γ D->Res D:=fn 1 1 iN
noncomputable def cj:SF:=(aF<|ue (aj fy<|aV 0 ah)<|hW oLe oLe (eW 1) (eW 0)<|eW 2)
def a5:γ D->Res D:=fn 3 3 cj
def f?:SF:=(aB (aK 3<|aj KB.c5<|aV 0<|aV 1<|ag (aj KB.dU<|aV 0<|aV 1<|aV 2 ah)<|ag (eC<|.bl AT) ah)<|aF<|eIf (tE<|eB D5 (eU cm<|eW 3)<|eI 0) (eX 3 0)<|eC .non)
def e?:γ D->Res D:=fn 3 4 f?
theorem rE(x0 x1 x2:D):e? [x0,x1,x2]=bc (f? [AC (.val x0),AC (.val x1),AC (.val x2),Ch]):=bW _ _ _ _ rfl
def kG:SF:=(aF<|eL<|bf (cZ<|eW 1) 1 [0] (aG 0) bI<|aj KG.ee<|aV 1<|aV 0 ah)
def gP:γ D->Res D:=fn 2 2 kG
theorem vj(x0 x1:D):gP [x0,x1]=bc (kG [AC (.val x0),AC (.val x1)]):=bW _ _ _ _ rfl
def nF:SF:=(aF<|aj KH.dI<|ag (eY 1 3)<|ag (eY 0 3)<|ag (aj KG.bN<|aV 0<|aV 2 ah) ah)
def cw:γ D->Res D:=fn 4 4 nF
theorem AB(x0 x1 x2 x3:D):cw [x0,x1,x2,x3]=bc (nF [AC (.val x0),AC (.val x1),AC (.val x2),AC (.val x3)]):=bW _ _ _ _ rfl
def dY(self:γ D->Res D):SF:=(aB (aK 3<|eL<|bf (dR<|eU cm<|eW 0) 1 [2] (aG 0) (tE<|eU fO<|eY 1 0)<|eV 0)<|aB (aK 4<|yp AT .bad (eW 3) [0,1,2]<|eU cm<|aj cw<|aV 1<|aV 2<|aV 3<|aV 0 ah)<|aB (aK 5<|aj cw<|aV 0<|aV 1<|aV 2<|aV 4 ah)<|aB (dH (tE<|eB oEq (eW 5)<|cq ah) (aF<|cq<|ag (eC<|.str [115,116,117,99,107])<|aV 4 ah) aJ)<|aB (aK 6<|eL<|bf (cZ<|eW 5) 1 [0,1,2,4] (aG 0) bI<|aj self<|aV 1<|aV 2<|ag (aj KH.bX<|aV 3<|aV 4<|aV 0 ah) ah)<|aF<|cq<|ag (eC<|.str [101,97,99,104])<|aV 4<|ag (eU gw<|eW 6) ah)
def a_:Nat->γ D->Res D
|0=>λ _=>.bad
|k+1=>fn 3 7<|dY<|a_ k
theorem kO(k:Nat)(x0 x1 x2:D):a_ (k+1) [x0,x1,x2]=bc (dY (a_ k) [AC (.val x0),AC (.val x1),AC (.val x2),Ch,Ch,Ch,Ch]):=bW _ _ _ _ rfl
def nH:SF:=(aB (dH (tE<|eU tm<|aj e?<|aV 0<|aV 1<|aV 2 ah) (aF<|eC .non) aJ)<|aF<|aj (a_ 9)<|aV 1<|ag (aj gP<|aV 0<|aV 1 ah)<|ag (aj KB.ba<|aV 0<|aV 1<|aV 2 ah) ah)
def g0:γ D->Res D:=fn 3 3 nH
theorem AE(x0 x1 x2:D):g0 [x0,x1,x2]=bc (nH [AC (.val x0),AC (.val x1),AC (.val x2)]):=bW _ _ _ _ rfl
end KC
set_option maxRecDepth 8000
namespace KC
open Z KG KB
open KH
def RX:γ Nat:=[115,116,117,99,107]
def YT:γ Nat:=[101,97,99,104]
def cJ(rows:Rows)(C:Nat)(xs:γ GO):D:=.lst<|xs.map λ x=>.tup<|(places rows C x.1).map aN
theorem zx{rows:Rows}{C:Nat}(H:Hall rows C){xs:γ GO}(h6:xs.length<=6){k:Nat}{g:G}(hk:xs[k]?=AC (g,Ch)):cw [av xs,cJ rows C xs,ai xs,.int (k:Nat)]=.ok (.tup<|(dD rows C xs g k).map aN):=by
 rw[AB];refine ay ?_;have hl:k<xs.length:=(A03.mp hk).1;have i1:aZ (cJ rows C xs) (.int (k:Nat))=.ok (.tup<|(places rows C g).map aN):=(gm (xs:=xs.map λ y:GO=>D.tup ((places rows C y.1).map aN)) (i:=(k:Nat)) (j:=k) rfl (by rw[A06,hk];rfl)).2;have i2:aZ (av xs) (.int (k:Nat))=.ok (aD g):=(gm (xs:=xs.map λ y:GO=>aD y.1) (i:=(k:Nat)) (j:=k) rfl (by rw[A06,hk];rfl)).1;have ht:=n4 (xs:=xs) ∅;rw[show D.tup (xs.map λ x=>aD x.1)=av xs from rfl,show D.tup (xs.map λ x=>bP x.2)=ai xs from rfl]at ht;have Gm:=lS xs;have ho:=mH (places rows C g) g (ss:=mj xs) (places_len H g) ∅;have TX:xs.set k (g,Ch)=xs:=by have:xs[k]=(g,Ch):=(A03.mp hk).2;rw[<-this];exact C53 hl
 have he:(places rows C g).filter (λ p=>(mj xs).all λ x=>bH g p x.1 x.2)=dD rows C xs g k:=by unfold dD;refine xz λ p _=>?_;have:=zB (g:=g) hk p;simp only at this;rw[TX]at this;exact this
 rw[he]at ho;simp[nF,i1,i2,ht,ho]
def nN(xs:γ GO):Nat:=xs.countP λ x=>x.2.isNone
theorem Jr:∀{xs:γ GO}{k:Nat}{g} p,xs[k]?=AC (g,Ch)->nN (xs.set k (g,AC p))+1=nN xs
|[],_,_,_,h=>by simp at h
|(h,o)::xs,0,g,p,e=>by simp at e;let⟨rfl,rfl⟩:=e;simp[nN]
|(h,o)::xs,k+1,g,p,e=>by have:=Jr p (by simpa using e);simp only[nN,sw,B33]at this ⊢;lia
theorem zK(h:xs[k]?=AC x)(o:ε Pl):cJ rows C (xs.set k (x.1,o))=cJ rows C xs:=by
 have e:=(A03.mp h).2;unfold cJ;rw[C30]
 congr 1
 refine AB2 ∅ λ i h1 h2=>?_;rw[AB4];split
 .rename_i q;subst q;simp[e]
 .rfl
theorem vv(H:Hall rows C)(h6:xs.length<=6)(hg:∀x∈xs,GOk x.1):gP [aS rows,av xs]=.ok (cJ rows C xs):=by
 rw[vj];refine ay ?_;have hl:xs.length<=16777216:=by lia
 unfold av;simp[kG,aQ,dC,cD,hl];refine bz (λ x:GO=>aD x.1) (λ _=>Da) (λ x=>.tup<|(places rows C x.1).map aN) ?_ ?_
 .intro x hx;simp[places_of_ok H<|hg x hx]
 .rw[j!];rfl
theorem Km(H:Hall rows C)(h6:xs.length<=6)(hg:∀x∈xs,GOk x.1)(hk:Good rows xs)(hw:a! rows C xs<=2000)(ef:ba [aS rows,av xs,fd]=.ok (ai xs)):
 e? [aS rows,av xs,fd]=.ok (match cu rows C AT xs xs.length with|[]=>.non|z::_=>ai z):=by
 have fr:=EH (sm:=AT) H h6 hg hk hw;have sm:=zA H h6 hg ef hw;rw[rE];refine ay ?_;cases e:cu rows C AT xs _ with
 |nil=>rw[e]at fr;simp only[A35]at fr;simp[f?,sm,fr]
 |cons z r=>
  rw[e]at fr;simp only[v4]at fr;have i0:=(gm (xs:=ai z::r.map ai) (i:=0) rfl rfl).2;have hl:(0)<(r.length)+1:=by lia
  simp[f?,sm,fr,i0]
def uF(rows:Rows)(xs:γ GO):Prop:=∀z,Ext xs z->Good rows z->∃(i:Nat)(g:G),z[i]?=AC (g,Ch)
theorem F5(H:Hall rows C)(hg:∀x∈xs,GOk x.1)(h:cu rows C AT xs xs.length=[]):uF rows xs:=by intro z e gz;refine Classical.byContradiction λ hn=>?_;have:=sS (sm:=AT) H hg e gz<|.inr λ i g q=>hn ⟨i,g,q⟩;rw[h]at this;cases this
theorem OZ{cs:γ GO}{k:Nat}(hk:cs[k]?=AC (g,Ch))(p:Pl):Ext cs (cs.set k (g,AC p)):=by
 have hl:=(A03.mp hk).1;refine⟨?_,λ i g' q hi=>?_⟩
 .refine B74 λ i=>?_;rw[A06,A06,A36];split
  .rename_i ei;subst ei;rw[hk];rfl
  .rfl
 .rw[A36];split
  .rename_i ej;subst ej;rw[hk]at hi;cases hi
  .exact hi
theorem uF.put(h:uF rows xs){k:Nat}(hk:xs[k]?=AC (g,Ch))(p:Pl):uF rows (xs.set k (g,AC p)):=λ z e gz=>
 have e1:=OZ hk p
 h z ⟨e1.gs.trans e.gs,λ i g p q=>e.sub i g p<|e1.sub i g p q⟩ gz
def kW(xs:γ GO)(k:Nat):Bool:=match xs[k]? with
|some (_,Ch)=>Da
|_=>AT
theorem y6(h:kW xs k=Da):∃g,xs[k]?=AC (g,Ch):=by
 unfold kW at h;split at h
 .rename_i g e;exact⟨g,e⟩
 .cases h
def opens(rows:Rows)(C:Nat)(xs:γ GO)(k:Nat):γ Pl:=match xs[k]? with
|some (g,_)=>dD rows C xs g k
|none=>[]
theorem YS(ps:γ Pl):oEq (.tup<|ps.map aN) (.tup [])=.ok (.bl ps.isEmpty):=by cases ps<;>rfl
theorem IX(H:Hall rows C):∀(n:Nat)(xs:γ GO),xs.length<=6->(∀x∈xs,GOk x.1)->nN xs<n->Good rows xs->uF rows xs ->
 ∃d,a_ n [av xs,cJ rows C xs,ai xs]=.ok d:=by
 intro n
 induction n with
 |zero=>intro xs _ _ h;lia
 |succ n ih=>
  intro xs h6 hg hn _y Hx;have OM:cm (av xs)=.ok (.int xs.length):=by simp[av]
  have hl:xs.length<=16777216:=by lia
  -- who adh
  have tT:(FB xs.length).filter (kW xs)≠[]:=λ z=>by let⟨i,g,e⟩:=Hx xs ⟨rfl,λ _ _ _ e=>e⟩ _y;have hi:i<xs.length:=(A03.mp e).1;have:i∈(FB xs.length).filter (kW xs):=A44.mpr ⟨A24.mpr hi,by unfold kW;rw[e]⟩;rw[z]at this;cases this
  have hall:∀k∈(FB xs.length).filter (kW xs),kW xs k=Da:=λ k hk=>(A44.mp hk).2;generalize hks:(FB xs.length).filter (kW xs)=ks at tT hall;cases ks with
  |nil=>exact absurd rfl tT
  |cons k0 kr=>
   have key:∀k∈k0::kr,uZ (eU cm<|aj cw<|aV 1<|aV 2<|aV 3<|aV 0 ah) [v (av xs),v (cJ rows C xs),v (ai xs)] (.int (k:Nat))=.ok ((opens rows C xs k).length:Int):=λ k hk=>by let⟨g,e⟩:=y6 (hall k hk);have so:=zx H h6 e;refine JT ?_;simp[so,opens,e]
   have pk:=oj (mx:=AT) (e:=uZ (eU cm<|aj cw<|aV 1<|aV 2<|aV 3<|aV 0 ah) [v (av xs),v (cJ rows C xs),v (ai xs)]) (enc:=λ k=>D.int (k:Nat)) (w:=λ k=>((opens rows C xs k).length:Int)) kr k0 λ k hk=>key k<|A07 _ hk;have mem:bM AT (λ k=>((opens rows C xs k).length:Int)) k0 kr∈k0::kr:=by
    rcases jC (mx:=AT) (w:=λ k=>((opens rows C xs k).length:Int)) kr k0 with h|h
    .rw[h];exact A08
    .exact A07 _ h
   generalize bM AT (λ k=>((opens rows C xs k).length:Int)) k0 kr=k at pk mem;let⟨g,hk⟩:=y6 (hall k mem);have ex:∀x4 x5 x6,yp AT .bad (eW 3) [0,1,2] (eU cm<|aj cw<|aV 1<|aV 2<|aV 3<|aV 0 ah) [v (av xs),v (cJ rows C xs),v (ai xs),v (.lst<|(k0::kr).map λ k=>D.int (k:Nat)),x4,x5,x6]=.ok (.int (k:Nat)):=λ x4 x5 x6=>by show pickK AT .bad (uZ (eU cm<|aj cw<|aV 1<|aV 2<|aV 3<|aV 0 ah) [v (av xs),v (cJ rows C xs),v (ai xs)]) (D.int (k0:Nat)::kr.map λ k=>D.int (k:Nat))=_;unfold pickK;dsimp only;rw[key k0 A08];exact pk
   have so:=zx H h6 hk;have hol:=FP H xs g k;have Yf:∀p∈dD rows C xs g k,bR rows g p=Da/\openAt xs g k p=Da:=λ p hp=>by let⟨h1,h2⟩:=A44.mp hp;exact⟨KH.mJ h1,h2⟩
   have kg:=hg _<|A18 hk;have step:∀p∈dD rows C xs g k,∃d,a_ n [av xs,cJ rows C xs,ai (xs.set k (g,AC p))]=.ok d:=λ p hp=>by
    have n1:=Jr p hk;let⟨f1,f2⟩:=Yf p hp;let⟨d,e1⟩:=ih (xs.set k (g,AC p)) (by rw[MZ];exact h6) (λ x hx=>by
     rcases C56 hx with z|z
     .exact hg x z
     .rw[z];exact kg) ∅ (_y.put hk f1 f2) (Hx.put hk p)
    rw[show av (xs.set k (g,AC p))=av xs from wB hk<|some p,show cJ rows C (xs.set k (g,AC p))=cJ rows C xs from zK hk<|some p]at e1;exact⟨d,e1⟩
   obtain⟨f,hf⟩:∃f:Pl->D,∀p∈dD rows C xs g k,a_ n [av xs,cJ rows C xs,ai (xs.set k (g,AC p))]=.ok (f p):=by
    classical
    exact⟨λ p=>if h:p∈dD rows C xs g k then(step p h).choose else .non,λ p hp=>by simp only[hp,A90];exact(step p hp).choose_spec⟩
   have start:∀Q,(∀x5 x6,Ok ((aB (aK 5<|aj cw<|aV 0<|aV 1<|aV 2<|aV 4 ah)<|aB (dH (tE<|eB oEq (eW 5)<|cq ah) (aF<|cq<|ag (eC<|.str [115,116,117,99,107])<|aV 4 ah) aJ)<|aB (aK 6<|eL<|bf (cZ<|eW 5) 1 [0,1,2,4] (aG 0) bI<|aj (a_ n)<|aV 1<|aV 2<|ag (aj KH.bX<|aV 3<|aV 4<|aV 0 ah) ah)<|aF<|cq<|ag (eC<|.str [101,97,99,104])<|aV 4<|ag (eU gw<|eW 6) ah) [v (av xs),v (cJ rows C xs),v (ai xs),v (.lst<|(k0::kr).map λ k=>D.int (k:Nat)),vi (k:Nat),x5,x6]) Q)->Ok (dY (a_ n) [v (av xs),v (cJ rows C xs),v (ai xs),Ch,Ch,Ch,Ch]) Q:=λ Q hQ=>by
    have el:«zints» 0 xs.length=(FB xs.length).map λ k=>D.int (k:Nat):=by rw[ints_map];exact B08 λ j _=>by rw[Int.zero_add]
    simp[dY,aQ,dC,cD,line,OM,hl];rw[el];refine bz (λ k:Nat=>D.int (k:Nat)) (kW xs) (λ k=>D.int (k:Nat)) (xs:=FB xs.length) (λ j hj=>?_) ?_
    .have Ba:j<xs.length:=A24.mp hj;obtain⟨⟨g',o⟩,e⟩:∃x,xs[j]?=AC x:=⟨_,A00 Ba⟩
     have ix:aZ (ai xs) (.int (j:Nat))=.ok (bP o):=(gm (xs:=xs.map λ y:GO=>bP y.2) (i:=j) (j:=j) rfl (by rw[A06,e];rfl)).1;cases o with
     |none=>simp[ix,bP,kW,e]
     |some p=>have en:fO (aN p)=.ok (.bl AT):=rfl;simp[ix,bP,en,kW,e]
    .rw[hks];have:=hQ Ch Ch;have e4:=ex Ch Ch Ch;simp only[v4]at this e4 ⊢;simp[e4];simpa[aQ,dC,cD,line]using this
   by_cases h0:dD rows C xs g k=[]
   .refine⟨.tup [.str RX,.int (k:Nat)],?_⟩
    .rw[kO];refine ay<|start _ λ x5 x6=>?_;rw[h0]at so;have e0:=YS [];simp only[A35,List.isEmpty_nil]at so e0;simp[so,e0,line];rfl
   .have abA:(dD rows C xs g k).isEmpty=AT:=by
     cases q:dD rows C xs g k with
     |nil=>exact absurd q h0
     |cons a r=>rfl
    refine⟨.tup [.str YT,.int (k:Nat),.tup ((dD rows C xs g k).map f)],?_⟩
    .rw[kO];refine ay<|start _ λ x5 x6=>?_;have e0:=YS<|dD rows C xs g k;rw[abA]at e0;have T5:(dD rows C xs g k).length<=16777216:=by lia
     generalize dD rows C xs g k=op at so hol hf e0 T5;simp[so,e0,line,aQ,dC,cD,T5];refine bz aN (λ _=>Da) f (xs:=op) (λ p hp=>?_) ?_
     .simp[(se h6 hk p).1,hf p hp]
     .rw[j!];simp[line];rfl
theorem zM(H:Hall rows C)(h6:xs.length<=6)(hg:∀x∈xs,GOk x.1)(hk:Good rows xs)(hw:a! rows C xs<=2000)(ef:ba [aS rows,av xs,fd]=.ok (ai xs))(e:cu rows C AT xs xs.length=[]):∃d,g0 [aS rows,av xs,fd]=.ok d:=by
 have fo:=Km H h6 hg hk hw ef;have ap:=vv H h6 hg;rw[e]at fo;dsimp only at fo;let⟨d,e1⟩:=IX H 9 xs h6 hg (by have:nN xs<=xs.length:=List.countP_le_length;lia) hk (F5 H hg e)
 refine⟨d,?_⟩;rw[AE];refine ay ?_;have en:tm D.non=.ok _:=rfl;simp[nH,fo,ap,ef,e1]
end KC
namespace KB
open Z KG
open KH
variable{k:Nat}
theorem E2(H:Hall rows C)(h6:xs.length<=6)(hg:∀x∈xs,fG x.1)(hk:Good rows xs)(hw:a! rows C xs<=2000)(ef:ba [aS rows,av xs,fd]=.ok (ai xs)):
 (cu rows C AT xs xs.length=[]/\bj [aS rows,av xs,fd]=.ok .non)\/∃m,bj [aS rows,av xs,fd]=.ok (ai m)/\ju rows C xs m:=by
 have OL:=λ x hx=>(hg x hx).toGOk;have hi:=n? (C:=C) (sm:=AT) hk<|M2 _;have fr:=EH (sm:=AT) H h6 OL hk hw;have sm:=zA H h6 OL ef hw;cases e:cu rows C AT xs _ with
 |nil=>rw[e]at fr;simp only[A35]at fr;refine .inl ⟨rfl,?_⟩;rw[lF];refine ay ?_;simp[gU,sm,fr,Hb]
 |cons b r=>refine .inr ⟨_,?_,E1 H OL hk e⟩;rw[e]at hi fr;have am:=LB h6 hg λ z hz=>(hi z hz).gs;rw[lF];refine ay ?_;simp only[v4]at am fr;simp[gU,sm,fr,am]
theorem Ext.good(e:Ext xs m)(h:Good rows m):Good rows xs:=h.sub e.sub
theorem Ext.put(e:Ext xs m)(hk:m[k]?=AC (g,o)):Ext (xs.set k (g,o)) m:=by
 have hl:=(A03.mp hk).1;have Yi:k<xs.length:=by rw[e.len];exact hl
 refine⟨?_,λ i g' p h=>?_⟩
 .rw[<-e.gs,C30];have h1:(xs.map (·.1))[k]?=AC g:=by rw[e.gs,A06,hk];rfl
  refine B74 λ i=>?_;rw[A36];split
  .rename_i q;subst q;rw[W1 (by rw[A04];exact Yi),h1]
  .rfl
 .rw[A36]at h;split at h
  .rename_i q;subst q;first|(rw[W1]at h;rw[hk,h])|rw[hk,h]
  .exact e.sub i g' p h
theorem Ext.SX(e:Ext xs m)(hk:m[k]?=AC (g,o))(h:Ext (xs.set k (g,o)) z):Ext xs z:=by
 have hl:=(A03.mp hk).1;have Yi:k<xs.length:=by rw[e.len];exact hl
 refine⟨?_,λ i g' p q=>?_⟩
 .rw[e.gs,<-(e.put hk).gs,h.gs]
 .by_cases c:k=i
  .subst c;have:=e.sub k g' p q;rw[hk]at this;refine h.sub k g' p ?_;rw[A36,W1 rfl,W1 Yi,this]
  .exact h.sub i g' p (by rw[A36,o0 c];exact q)
theorem ju.put(h:ju rows C xs m)(hk:m[k]?=AC (g,o)):ju rows C (xs.set k (g,o)) m:=
 ⟨h.ext.put hk,h.good,h.full,λ z e gz fz=>h.most z (h.ext.SX hk e) gz fz⟩
theorem pj{α:Type}(l:γ α)(k j:Nat):(l.eraseIdx k)[j]?=l[if j<k then j else j+1]?:=by rw[List.getElem?_eraseIdx];split<;>rfl
theorem ni{α β:Type}(f:α->β):∀(l:γ α) k,(l.eraseIdx k).map f=(l.map f).eraseIdx k
|[],_=>rfl
|_::_,0=>rfl
|a::l,k+1=>A12 _<|ni f l k
theorem Ext.erase(e:Ext xs m)(k:Nat):Ext (xs.eraseIdx k) (m.eraseIdx k):=by refine⟨by rw[ni,ni,e.gs],λ i g p h=>?_⟩;rw[pj]at h ⊢;exact e.sub _ g p h
theorem t5(h:Good rows m)(k:Nat):Good rows (m.eraseIdx k):=by intro i g p e;rw[pj]at e;let⟨h1,h2⟩:=h _ g p e;refine⟨h1,λ j g' q ej ne=>?_⟩;rw[pj]at ej;refine h2 _ g' q ej ?_;split<;>split<;>lia
theorem Full.erase(h:Full m)(k:Nat):Full (m.eraseIdx k):=λ i g e=>by rw[pj]at e;exact h _ g e
theorem qC:∀l k,(∀n∈l,0<n)->bQ (l.eraseIdx k)<=bQ l
|[],_,_=>M2 _
|n::l,0,h=>by rw[List.eraseIdx_cons_zero];exact Nat.le_mul_of_pos_left _<|h n A08
|n::l,k+1,h=>by rw[C57];exact Nat.mul_le_mul_left _<|qC l k λ q hq=>h q<|A07 _ hq
theorem Bj(xs:γ GO)(k:Nat):a! rows C (xs.eraseIdx k)<=a! rows C xs:=by
 unfold a!;rw[ni];exact qC _ _ λ n hn=>by let⟨x,_,rfl⟩:=v6.mp hn;exact sk rows C x
theorem yY:∀{xs}{k}{x} p,xs[k]?=AC x->a! rows C (xs.set k (x.1,AC p))<=a! rows C xs
|[],_,_,_,h=>by cases h
|y::r,0,x,p,h=>by show bQ _<=bQ (du rows C y::r.map _);have:du rows C (x.1,AC p)=1:=rfl;simp only[bQ];exact B02 _<|sk rows C y
|y::r,k+1,x,p,h=>by exact Nat.mul_le_mul_left _<|yY p h
theorem BQ(H:Hall rows C)(hg:∀x∈xs,GOk x.1)(h:ju rows C xs m)(k:Nat):cu rows C AT (xs.eraseIdx k) (xs.eraseIdx k).length≠[]:=by intro e;have:=oQ H (λ x hx=>hg x<|B43 hx) (h.ext.erase k) (t5 h.good k)<|Full.erase h.full k;rw[e]at this;cases this
structure iS(rows:Rows)(C:Nat)(xs m:List GO):Prop where
 six:xs.length<=6
 Kd:∀x∈xs,fG x.1
 names:(xs.map (·.1.name)).Nodup
 _L:a! rows C xs<=250
 best:ju rows C xs m
theorem iS.good(s:iS rows C xs m):Good rows xs:=s.best.ext.good s.best.good
theorem iS.tell(H:Hall rows C)(s:iS rows C xs m):bj [aS rows,av xs,ai xs]=.ok (ai m):=by
 have OL:=λ x hx=>(s.Kd x hx).toGOk;rcases E2 H s.six s.Kd s.good (A11 s._L ∅) (wy H s.six OL s.good)with⟨e,_⟩|⟨m',e,b⟩
 .have:=oQ H OL s.best.ext s.best.good s.best.full;rw[e]at this;cases this
 .rw[e,s.best.uniq b]
theorem iS.fast(s:iS rows C xs m)(hk:m[k]?=AC (g,AC p)):iS rows C (xs.set k (g,AC p)) m:=by
 obtain⟨x,hx⟩:∃x,xs[k]?=AC x:=by
  have:k<xs.length:=by rw[s.best.ext.len];exact(A03.mp hk).1
  exact⟨_,A00 this⟩
 have ex:x.1=g:=by have:=A12 (λ l=>l[k]?) s.best.ext.gs;simp only[A06,hx,hk,A62,A98]at this;exact this
 subst ex;have em:(xs.set k (x.1,AC p)).map (·.1)=xs.map (·.1):=by rw[(s.best.ext.put hk).gs,s.best.ext.gs]
 refine⟨by rw[AC7];exact s.six,λ y hy=>?_,?_,A11 (yY p hx) s._L,s.best.put hk⟩
 .have:y.1∈(xs.set k (x.1,AC p)).map _:=v6.mpr ⟨y,hy,rfl⟩;rw[em]at this;let⟨z,hz,e⟩:=v6.mp this;rw[<-e];exact s.Kd z hz
 .have e2:(xs.set k (x.1,AC p)).map (·.1.name)=((xs.set k (x.1,AC p)).map (·.1)).map (·.name):=by rw[A16];rfl
  rw[e2,em,A16];exact s.names
theorem iS.away(H:Hall rows C)(s:iS rows C xs m)(k:Nat):∃m',iS rows C (xs.eraseIdx k) m':=by
 have OL:=λ x hx=>(s.Kd x hx).toGOk;have hg':∀x∈xs.eraseIdx k,GOk x.1:=λ x hx=>OL x<|B43 hx;have gd:=t5 s.good k;have nz:=BQ H OL s.best k;cases e:cu rows C AT _ (xs.eraseIdx k).length with
 |nil=>exact(nz e).elim
 |cons b r=>refine⟨_,A11 (by rw[List.length_eraseIdx];split<;>lia) s.six,λ x hx=>s.Kd x<|B43 hx,?_,A11 (Bj xs k) s._L,E1 H hg' gd e⟩;rw[ni];exact s.names.sublist<|List.eraseIdx_sublist ..
end KB
namespace KB
open Z KG
open KH
variable{rows:Rows}{C:Nat}{xs m z y:γ GO}{k:Nat}{g:G}{x:GO}{p:Pl}
def yJ(rows:Rows)(C:Nat)(x:GO):γ Pl:=match x.2 with
|some p=>[p]
|none=>places rows C x.1
def yL(z:γ GO)(g:G)(p:Pl):Bool:=z.all λ y=>match y.2 with
|some q=>bH y.1 q g p
|none=>Da
def S4(rows:Rows)(C:Nat)(L:γ (γ GO))(x:GO):γ (γ GO):=L.flatMap λ z=>((yJ rows C x).filter<|yL z x.1).map λ p=>z++[(x.1,AC p)]
def gy(rows:Rows)(C:Nat)(xs:γ GO):γ (γ GO):=xs.foldl (S4 rows C) [[]]
theorem bS{α:Type}{l:γ α}{a b:α}{i:Nat}:(l++[a])[i]?=AC b↔l[i]?=AC b\/(i=l.length/\a=b):=by
 by_cases h:i<l.length
 .rw[A21 h];exact⟨.inl,λ q=>q.elim id λ q=>by lia⟩
 .rw[A43 ∅,B29 (l:=l) ∅];cases e:i-l.length with
  |zero=>exact⟨λ q=>.inr ⟨by lia,A05 q⟩,λ q=>q.elim (λ q=>by cases q) λ q=>by rw[q.2];rfl⟩
  |succ n=>exact⟨λ q=>(by cases q),λ q=>q.elim (λ q=>by cases q) λ q=>by lia⟩
theorem i_{α:Type}{P:γ α->Prop}(h0:P [])(h1:∀l a,P l->P (l++[a]))(l:γ α):P l:=by
 rw[<-l.reverse_reverse]
 induction l.reverse with
 |nil=>exact h0
 |cons a l ih=>rw[List.reverse_cons];exact h1 _ _ ih
theorem jH(xs:γ GO)(x:GO):gy rows C (xs++[x])=S4 rows C (gy rows C xs) x:=by simp[gy,List.foldl_append]
theorem Ea{L:γ (γ GO)}:z∈S4 rows C L x↔∃y∈L,∃p,p∈yJ rows C x/\yL y x.1 p=Da/\z=y++[(x.1,AC p)]:=by
 simp only[S4,B01,v6,A44];constructor
 .rintro⟨y,hy,p,⟨h1,h2⟩,rfl⟩;exact⟨y,hy,p,h1,h2,rfl⟩
 .rintro⟨y,hy,p,h1,h2,rfl⟩;exact⟨y,hy,p,⟨h1,h2⟩,rfl⟩
theorem B3(h:yL y g p=Da){i:Nat}{h':G}{q:Pl}(e:y[i]?=AC (h',AC q)):bH h' q g p=Da:=A31.mp h _<|A18 e
theorem Good.init(h:Good rows (xs++[x])):Good rows xs:=λ i g p e=>by let⟨h1,h2⟩:=h i g p (bS.mpr<|.inl e);exact⟨h1,λ j g' q ej ne=>h2 j g' q (bS.mpr<|.inl ej) ne⟩
theorem Fz(hy:Good rows y)(hf:bR rows g p=Da)(ho:yL y g p=Da):Good rows (y++[(g,AC p)]):=λ i g1 p1 e=>by
 rcases bS.mp e with e1|⟨e0,e1⟩
 .refine⟨(hy i g1 p1 e1).1,λ j g2 q ej ne=>?_⟩;rcases bS.mp ej with e2|⟨_,e2⟩
  .exact(hy i g1 p1 e1).2 j g2 q e2 ne
  .cases e2;exact B3 ho e1
 .cases e1;refine⟨hf,λ j g2 q ej ne=>?_⟩;rcases bS.mp ej with e2|⟨e3,_⟩
  .rw[qo];exact B3 ho e2
  .exact(ne<|e3.trans e0.symm).elim
theorem Cc:∀{xs:γ GO},Good rows xs->∀z∈gy rows C xs,Ext xs z/\Good rows z/\Full z:=by
 intro xs
 induction xs using i_ with
 |h0=>intro _ z hz;rw[A15.mp hz];exact⟨⟨rfl,λ i g p e=>by cases e⟩,λ i g p e=>(by cases e),λ i g e=>by cases e⟩
 |h1 xs x ih=>
  intro hk z hz;rw[jH]at hz;let⟨y,hy,p,hp,ho,rfl⟩:=Ea.mp hz;let⟨e1,e2,e3⟩:=ih (Good.init hk) y hy;have hf:bR rows x.1 p=Da:=by
   unfold yJ at hp;split at hp
   .rename_i q e;rw[A15.mp hp];exact(hk xs.length x.1 q<|bS.mpr<|.inr ⟨rfl,by rw[<-e]⟩).1
   .exact(A44.mp hp).2
  refine⟨⟨by simp[e1.gs],λ i g q e=>?_⟩,Fz e2 hf ho,λ i g e=>?_⟩
  .rcases bS.mp e with h|⟨h,h'⟩
   .exact bS.mpr<|.inl<|e1.sub i g q h
   .subst h';rw[A15.mp hp];exact bS.mpr<|.inr ⟨h.trans e1.len,rfl⟩
  .rcases bS.mp e with h|⟨_,h⟩
   .exact e3 i g h
   .cases h
theorem Ek(H:Hall rows C):∀{xs:γ GO}(z:γ GO),(∀x∈xs,GOk x.1)->Ext xs z->Good rows z->Full z->z∈gy rows C xs:=by
 intro xs
 induction xs using i_ with
 |h0=>intro z _ e _ _;rw[A80 e.len.symm];exact A15.mpr rfl
 |h1 xs x ih=>
  intro z hg e gz fz;have hl:=e.len;rw[A28,B90]at hl;obtain⟨y,w,rfl⟩:∃y w,z=y++[w]:=⟨z.dropLast,z.getLast (λ h=>by rw[h]at hl;cases hl),(C58 _).symm⟩
  have rB:xs.length=y.length:=by simpa using hl
  have eg:xs.map (·.1)=y.map (·.1)/\x.1=w.1:=by have:=e.gs;simp only[A23,v4,A35]at this;have:=List.append_inj this (by simpa using rB);exact⟨this.1,by simpa using this.2⟩
  let⟨g,o⟩:=w;cases o with
  |none=>exact(fz y.length g<|bS.mpr<|.inr ⟨rfl,rfl⟩).elim
  |some p=>
   let⟨f,ap⟩:=gz y.length g p (bS.mpr<|.inr ⟨rfl,rfl⟩);have hx:x.1=g:=eg.2;rw[jH];refine Ea.mpr ⟨y,ih y (λ a ha=>hg a (by simp[ha])) ⟨eg.1,λ i g' q ei=>?_⟩ (Good.init gz) λ i g' ei=>fz i g'<|bS.mpr<|.inl ei,p,?_,?_,by rw[hx]⟩
   .rcases bS.mp (e.sub i g' q<|bS.mpr<|.inl ei)with h|⟨rfl,_⟩
    .exact h
    .have:=(A03.mp ei).1;lia
   .unfold yJ;split
    .rename_i q eq;rcases bS.mp (e.sub xs.length x.1 q<|bS.mpr<|.inr ⟨rfl,by rw[<-eq]⟩)with h|⟨_,h⟩
     .have:=(A03.mp h).1;lia
     .cases h;exact A15.mpr rfl
    .rw[hx];exact ua H (by rw[<-hx];exact hg x ∅) f
   .refine A31.mpr λ a ha=>?_;let⟨i,hi⟩:=A73 ha;let⟨g',o'⟩:=a;cases o' with
    |none=>rfl
    |some q=>have:=ap i g' q (bS.mpr<|.inl hi) (λ h=>by have:=(A03.mp hi).1;lia);rw[qo]at this;rw[hx];exact this
theorem MP{a b:γ GO}(x y:GO)(h:JJ a b):JJ (a++[x]) (b++[y]):=by let⟨i,g,o,o',h1,h2,h3,h4⟩:=h;have l1:=(A03.mp h2).1;have l2:=(A03.mp h3).1;exact⟨i,g,o,o',λ j hj=>by rw[A21 ∅,A21 ∅];exact h1 j hj,bS.mpr<|.inl h2,bS.mpr<|.inl h3,h4⟩
theorem Cb:∀xs:γ GO,(gy rows C xs).Pairwise JJ:=by
 intro xs
 induction xs using i_ with
 |h0=>exact C59 _ _
 |h1 xs x ih=>
  rw[jH];refine C54.mpr ⟨λ y _=>?_,ih.imp λ {a b} h u hu v hv=>?_⟩
  .refine B42.mpr<|List.Pairwise.filter _ ?_;have hs:(yJ rows C x).Pairwise Ht:=by
    unfold yJ;split
    .exact C59 _ _
    .exact mF _ _ _
   exact hs.imp λ {p q} h=>⟨y.length,x.1,AC p,AC q,λ j hj=>by rw[A21 hj,A21 hj],bS.mpr<|.inr ⟨rfl,rfl⟩,bS.mpr<|.inr ⟨rfl,rfl⟩,h⟩
  .let⟨p,_,rfl⟩:=v6.mp hu;let⟨q,_,rfl⟩:=v6.mp hv;exact MP _ _ h
theorem Ac(H:Hall rows C)(hg:∀x∈xs,GOk x.1)(hk:Good rows xs){b:γ GO}{r:γ (γ GO)}(e:gy rows C xs=b::r):ju rows C xs (bM Da wS b r):=by
 have hi:=Cc (C:=C) hk;have so:=Cb (rows:=rows) (C:=C) xs;rw[e]at hi so;have J!:bM Da wS b r∈b::r:=by
  rcases jC r b with h|h
  .rw[h];exact A08
  .exact A07 _ h
 let⟨h1,h2⟩:=iq (w:=wS) r b;let⟨a1,a2,a3⟩:=hi _ J!;refine⟨a1,a2,a3,λ z ez gz fz=>?_⟩;have hz:=Ek H z hg ez gz fz;rw[e]at hz;refine⟨?_,sW so z hz⟩;rcases A01.mp hz with rfl|h
 .exact h1
 .exact h2 z h
theorem Mr(z:γ GO)(g:G)(p:Pl):wS (z++[(g,AC p)])=wS z+y7 g p.1:=by simp[wS,wO]
end KB
set_option maxRecDepth 4000
namespace KM
open Z KG KH
def fB:SF:=(aB (aK 2<|eB aL (eI 1)<|eB oMod (eW 0)<|eI 2147483646)<|aB (mm 3<|bu ah)<|aB (gg (dR<|eV 1) (aG 4)<|aB (aK 2<|eB oMod (eB eO (eW 2)<|eI 16807)<|eI 2147483647)<|cC 3<|eB oMod (eB eO (eB oMod (eB eO (eB aL (eW 2)<|eI 7)<|eI 69621)<|eI 2147483629)<|eI 39373)<|eI 2147483587)<|pQ 3<|aF<|eV 3)
def cN:γ D->Res D:=fn 2 5 fB
theorem yk(x0 x1:D):cN [x0,x1]=bc (fB [AC (.val x0),AC (.val x1),Ch,Ch,Ch]):=bW _ _ _ _ rfl
def eR:SF:=(aB (aK 1<|eC<|.str aH)<|aF<|eB aL (eB aZ (eW 1)<|eB oMod (eW 0)<|eI 26)<|eB aZ (eW 1)<|eB oMod (eB aL (eB aL (eW 0)<|eI 1)<|eB oMod (eB oDiv (eW 0)<|eI 26)<|eI 25)<|eI 26)
def cA:γ D->Res D:=fn 1 2 eR
theorem ud(x0:D):cA [x0]=bc (eR [AC (.val x0),Ch]):=bW _ _ _ _ rfl
end KM
set_option maxRecDepth 8000
namespace KM
open Z KG KH
theorem sU{nums:γ Int}(hs:sg.length<=100)(hsg:∀c∈sg,c∈signs)(hn:∀x∈nums,0<=x/\x<sg.length)(hl:nums.length=R*C)(hR:R<=6)(hC:C<=12){b:SF}{Q:Fl->Prop}
 (hb:b=cC 7 (eB kL (eC<|.str [])<|eL<|bf (cZ<|eL<|Oa (eW 6) (rk<|eB eO (eW 8)<|eW 3)<|rk<|eB eO (eB aL (eW 8)<|eI 1)<|eW 3) 1 [5] (aG 0) bI<|eY 1 0))
 (x0 x1 x2 x4:ε L) (hQ:∀rows x,jt C R rows->Q (.nx [x0,x1,x2,vi C,x4,vs sg,v (.lst<|nums.map .int),ow (rows.map .str),x])) :
 Ok (cb (aG 8) b (zints 0 R) [x0,x1,x2,vi C,x4,vs sg,v (.lst<|nums.map .int),ow [],Ch]) Q:=by
 subst hb;refine fq (λ i ρ=>∃rows x,jt C i rows/\ρ=[x0,x1,x2,vi C,x4,vs sg,v (.lst<|nums.map .int),ow (rows.map .str),x]) ⟨[],Ch,jt.nil C,rfl⟩ ?_ ?_
 .rintro i d ρ hi ⟨rows,x,jK,rfl⟩;let⟨x_,rfl⟩:=ints_get hi;have q1:bA (i:Int) (C:Int):=cY ∅ ∅;have q2:bA ((i:Int)+1) (C:Int):=cY ∅ ∅;have hle:(i+1)*C<=nums.length:=by rw[hl];exact B02 C x_
  have lY:=CN nums hle;have Ug:(cut nums (AC<|(i:Int)*C)<|some<|((i:Int)+1)*C).length<=16777216:=by lia
  have hrl:rows.length<16777216:=by rw[jK.1];lia
  simp[aQ,Q1,q1,q2,line,dC,cD,PD,Ug];generalize J':cut nums (AC<|(i:Int)*C) (AC<|((i:Int)+1)*C)=ns at lY Ug;have key:∀x:Int,∃q,(0<=x/\x<sg.length)->q∈signs/\aZ (.str sg) (.int x)=.ok (.str [q]):=λ x=>by
   by_cases h:0<=x/\x<sg.length
   .let⟨c,hc,e⟩:=tO h.1 h.2 (by simp only[line];lia);exact⟨c,λ _=>⟨hsg c hc,e⟩⟩
   .exact⟨0,λ h'=>absurd h' h⟩
  have kq:∃q:Int->Nat,∀x:Int,(0<=x/\x<sg.length)->q x∈signs/\aZ (.str sg) (.int x)=.ok (.str [q x]):=⟨λ x=>(key x).choose,λ x=>(key x).choose_spec⟩
  let⟨q,hq⟩:=kq;have oN:∀x∈ns,0<=x/\x<sg.length:=λ x hx=>hn x<|Z.Eb<|J'▸hx;refine bz D.int (λ _=>Da) (λ x=>.str [q x]) ?_ ?_
  .intro x hx;simp[(hq x<|oN x hx).2]
  .rw[j!];have e1:ns.map (λ x=>D.str [q x])=(ns.map λ x=>[q x]).map D.str:=by rw[A16];rfl
   have e2:(ns.map λ x=>[q x]).flatten=ns.map q:=by
    clear lY Ug J' oN e1
    induction ns with
    |nil=>rfl
    |cons a as ih=>simp[ih]
   rw[e1,vR (by rw[e2,A04];lia),e2];simp[hrl];refine⟨rows++[ns.map q],jK.add ⟨by rw[A04];exact lY,?_⟩,by simp⟩;intro c hc;let⟨x,hx,rfl⟩:=v6.mp hc;exact(hq x<|oN x hx).1
 .rintro ρ ⟨rows,x,jK,rfl⟩;rw[fU]at jK;exact hQ rows x jK
theorem Jz(c:Int)(hn:n<=1000):∃ms:γ Int,ms.length=n/\(∀m∈ms,0<=m/\m<2147483587)/\cN [.int c,.int n]=.ok (.lst<|ms.map .int):=by
 have q1:∀x,bA x 16807:=λ x=>fv ∅ ∅;have q2:∀x,bA x 69621:=λ x=>fv ∅ ∅;have q3:∀x,bA x 39373:=λ x=>fv ∅ ∅;have:Ok (bc<|fB [v (.int c),v (.int n),Ch,Ch,Ch]) λ d=>∃ms:γ Int,ms.length=n/\(∀m∈ms,0<=m/\m<2147483587)/\d=.lst (ms.map .int):=by
  refine pS ?_;simp[fB];refine fq (λ i ρ=>∃ms z x,ms.length=i/\(∀m∈ms,0<=m/\m<2147483587)/\ρ=[vi c,vi n,vi z,ow (ms.map .int),x]) ⟨[],_,Ch,rfl,by simp,rfl⟩ ?_ ?_
  .rintro i d ρ hi ⟨ms,z,x,hl,hp,rfl⟩;let⟨x_,rfl⟩:=ints_get hi;have jc:ms.length<16777216:=by lia
   simp[q1,q2,q3,line,jc];refine⟨ms++[(z*16807 % 2147483647+7)*69621 % 2147483629*39373 % 2147483587],by simp[hl],?_,by rw[A23];rfl⟩;intro m hm;rcases A37.mp hm with h|h
   .exact hp m h
   .simp at h;rw[h];lia
  .rintro ρ ⟨ms,z,x,hl,hp,rfl⟩;rw[fU]at hl;simp;exact⟨ms,hl,hp,rfl⟩
 rw[<-yk]at this;let⟨d,e,ms,h1,h2,rfl⟩:=this;exact⟨ms,h1,h2,e⟩
theorem Aa(z:Int):∃a b,a∈aH/\b∈aH/\cA [.int z]=.ok (.str [a,b]):=by let⟨a,ha,ea⟩:=v7 z;let⟨b,hb,eb⟩:=v7 (z+1+z / 26 % 25);refine⟨a,b,ha,hb,?_⟩;rw[ud];refine ay ?_;simp[eR,bO,ea,eb,line]
end KM
set_option maxRecDepth 4000
namespace KN
open Z KG KH KM
def f':SF:=(aB (mm 2<|bu ah)<|aB (gg (dR<|eB aL (eB pU (eU cm<|eW 0)<|eX 1 2)<|eI 1) (aG 3)<|gg (dR<|eB aL (eB pU (eU cm<|eX 0 0)<|eX 1 1)<|eI 1) (aG 4)<|aB (aK 5<|eB kL (eC<|.str [])<|eL<|bf (cZ<|KI (eW 0) (rk<|eW 3)<|rk<|eB aL (eW 3)<|eX 1 2) 1 [4,1] (aG 0) bI<|KI (eW 0) (rk<|eW 1)<|rk<|eB aL (eW 1)<|eX 2 1)<|aB (aK 6<|eL<|bf (cZ<|eW 5) 1 [1] (aG 0) (xn (tE<|eB oz (eW 0)<|eC<|.str [46,61])<|tE<|eB jF (eW 0)<|eX 1 3)<|eV 0)<|dH (xn (tE<|eB oEq (eW 6)<|eL<|bu ah)<|tE<|eB VB (eB vS (eW 5)<|eC<|.str [61])<|eX 1 4) (cC 2<|cq<|aV 3<|aV 4 ah) aJ)<|pQ 2<|aF<|eV 2)
def bY:γ D->Res D:=fn 2 7 f'
theorem ve(x0 x1:D):bY [x0,x1]=bc (f' [AC (.val x0),AC (.val x1),Ch,Ch,Ch,Ch,Ch]):=bW _ _ _ _ rfl
end KN
set_option maxRecDepth 8000
namespace KN
open Z KG KH KM
theorem NP{α:Type}{xs:γ α}(h:xs.length=9):∃a b c d e f g i j,xs=[a,b,c,d,e,f,g,i,j]:=by
 match xs,h with
 |[a,b,c,d,e,f,g,i,j],_=>exact⟨a,b,c,d,e,f,g,i,j,rfl⟩
theorem Jo(H:Hall rows C)(k:GOk g){r c:Nat}(h:(rows.length)<(r:Int)+g.d\/(C)<(c:Int)+g.w):bR rows g ((r),(c))=AT:=by
 have w1:=k.w1;have d1:=k.d1;rcases h with h1|h2
 .refine ub (s:=((r)+((g.d-1:Nat)),(c)+((0)))) (vY (p:=((r),(c))) (i:=g.d-1) (j:=0) ∅ ∅) ?_;unfold Z2;rw[sR H (by simp only;lia)];rfl
 .refine ub (s:=((r)+((0)),(c)+((g.w-1:Nat)))) (vY (p:=((r),(c))) (i:=0) (j:=g.w-1) ∅ ∅) ?_;unfold Z2;rw[sR H (by simp only;lia)];rfl
theorem DB(f:Pl->Bool)(r:Nat){n:Nat}:∀m,n<=m->(∀c,n<=c->c<m->f ((r),(c))=AT)->(c_ r m).filter f=(c_ r n).filter f:=by
 intro m
 induction m with
 |zero=>
  intro h _;have:n=0:=by lia
  subst this;rfl
 |succ m ih=>
  intro h hf;by_cases e:n=m+1
  .rw[e]
  .have e3:c_ r (m+1)=c_ r m++[((r:Int),(m:Int))]:=by simp[c_,A81]
   rw[e3,B18,ih ∅ λ c h1 h2=>hf c h1 ∅];simp[hf m ∅ ∅]
theorem P4(f:Pl->Bool)(C:Nat){n:Nat}:∀m,n<=m->(∀r c,n<=r->r<m->c<C->f ((r),(c))=AT)->(gc m C).filter f=(gc n C).filter f:=by
 intro m
 induction m with
 |zero=>
  intro h _;have:n=0:=by lia
  subst this;rfl
 |succ m ih=>
  intro h hf;by_cases e:n=m+1
  .rw[e]
  .rw[iR,B18,ih ∅ λ r c h1 h2=>hf r c h1 ∅];have:(c_ m C).filter f=[]:=by rw[DB f m C (A47 _) λ c _ h2=>hf m c ∅ ∅ h2];rfl
   rw[this,A48]
def seen(rows:Rows)(r c w d:Nat):γ Nat:=(((rows.drop r).take d).map λ row=>(row.drop c).take w).flatten
theorem FC(h:rows[r+d]?=AC row):seen rows r c w (d+1)=seen rows r c w d++(row.drop c).take w:=by unfold seen;rw[take_snoc (by rw[C29];exact h),A23,List.flatten_append];simp
theorem mW(H:Hall rows C)(hc:c+w<=C):∀d,r+d<=rows.length->(seen rows r c w d).map AC=(g_ w ((r),(c)) d).map (bL rows)
|0,_=>by simp[seen,g_]
|d+1,hd=>by
 let⟨row,er,hl,_⟩:=H.row (r:=r+d) ∅;have rs:=FH H er hc;have e:((r+d:Nat))=(r:Int)+(d):=by lia
 rw[e]at rs;rw[FC er,A23,mW H hc d ∅,rs,k?,A23]
theorem Rc(xs:γ D):oEq (.lst xs) (.lst [])=.ok (.bl xs.isEmpty):=by cases xs<;>rfl
theorem GB(H:Hall rows C)(hr:r+g.d<=rows.length)(hc:c+g.w<=C):bR rows g ((r),(c))=(((seen rows r c g.w g.d).filter λ x=>!bU g.kind (AC x)).isEmpty&&decide (g.wide<=(seen rows r c g.w g.d).count 61)):=by
 have hs:=mW H hc g.d hr;generalize seen rows r c g.w g.d=sg at hs ⊢;unfold bR;have acE:(seats g ((r),(c))).all (λ s=>bU g.kind<|bL rows s)=sg.all λ c=>bU g.kind (AC c):=by
  have h1:(seats g ((r),(c))).all (λ s=>bU g.kind<|bL rows s)=((seats g ((r),(c))).map<|bL rows).all (bU g.kind):=by rw[B56];rfl
  rw[h1,show seats g ((r),(c))=g_ g.w ((r),(c)) g.d from rfl,<-hs,B56];rfl
 have acC:(seats g ((r),(c))).countP (vA rows)=sg.count 61:=by
  have h1:(seats g ((r),(c))).countP (vA rows)=((seats g ((r),(c))).map<|bL rows).countP (λ o=>o==AC 61):=by rw[AC4];rfl
  rw[h1,show seats g ((r),(c))=g_ g.w ((r),(c)) g.d from rfl,<-hs,AC4,List.count];refine List.countP_congr λ x _=>?_;simp
 rw[acE,acC]
 congr 1
 rw[A51,A31,AB5,C60];exact⟨λ h x hx=>by simp[h x hx],λ h x hx=>by have:=h x hx;simpa using this⟩
theorem Li{rows:Rows}(h:r+d<=rows.length):cut (rows.map D.str) (AC<|r) (AC<|(r)+d)=((rows.drop r).take d).map D.str:=by
 have n1:¬(r:Int)<0:=by lia
 have n2:¬(r:Int)+d<0:=by lia
 have e:((r:Int)+d).toNat=r+d:=by lia
 simp only[cut,c9,n1,n2,A60,A95,e,A04];rw[A66 ∅,A66 ∅,C27,C25,C28]
theorem HZ(k:γ Nat)(c:Nat):(!([46,61]).contains c&&!([c]==k))=!bU k (AC c):=by
 have:=acT k c;rw[<-this];have e1:∀n,(c==n)=decide (c=n):=λ n=>by rw[A51];simp
 rw[e1,e1];simp[AD1]
theorem pZ(H:Hall rows C)(k:GOk g):bY [aS rows,aD g]=.ok (.lst<|(places rows C g).map aN):=by
 rw[ve];refine ay ?_;have yc:=H.c2;have hr2:=H.r2;have w1:=k.w1;have d1:=k.d1;have w2:=k.w2;have d2:=k.d2;let⟨M7,OK,e0⟩:=H.M7;have OI:C<=16777216:=by lia
 have hrn:rows.length<=16777216:=by lia
 obtain⟨R',VQ⟩:∃R',((rows.length:Int)-g.d+1).toNat=R':=⟨_,rfl⟩
 obtain⟨C',EB⟩:∃C',((C:Int)-g.w+1).toNat=C':=⟨_,rfl⟩
 simp[f',line,hrn,VQ];refine fq (λ i ρ=>i<=R'/\∃x y z t,ρ=[v (aS rows),v (aD g),ow (((gc i C).filter<|bR rows g).map aN),x,y,z,t]) ⟨A47 _,Ch,Ch,Ch,Ch,rfl⟩ ?_ ?_
 .rintro i d ρ hi ⟨_,x,y,z,t,rfl⟩;let⟨x_,rfl⟩:=ints_get hi;simp[e0,OK,line,OI,EB];refine fq (λ j ρ=>j<=C'/\∃y z t,ρ=[v (aS rows),v (aD g),ow (((gc i C++c_ i j).filter<|bR rows g).map aN),vi (i:Nat),y,z,t]) ⟨A47 _,y,z,t,by simp[c_]⟩ ?_ ?_
  .rintro j d ρ hj ⟨_,y,z,t,rfl⟩;let⟨Ba,rfl⟩:=ints_get hj;have e3:c_ i (j+1)=c_ i j++[((i:Int),(j:Int))]:=by simp[c_,A81]
   have h1:=A50 (bR rows g)<|gc i C++c_ i j;rw[A28,mh,pR]at h1;have h3:i*C<=100*100:=A57 ∅ yc;rw[e3,<-A70,B18<|gc i C++c_ i j];generalize (gc i C++c_ i j).filter (bR rows g)=fs at h1 ⊢;have hri:i+g.d<=rows.length:=by lia
   have hcj:j+g.w<=C:=by lia
   have Yo:=GB H (g:=g) hri hcj;have ec:=Li hri;have esl:W' (aS rows) (AC (i:Int)) (AC<|(i:Int)+g.d)=.ok (.tup<|((rows.drop i).take g.d).map D.str):=by show Res.ok (D.tup<|cut (rows.map D.str) _ _)=_;rw[ec]
   have Gm:(seen rows i j g.w g.d).length=g.d*g.w:=by have:=A12 List.length<|mW H hcj g.d hri;simpa[mX]using this
   have hm:=A57 d2 w2;have hdl:((rows.drop i).take g.d).length<=16777216:=by rw[A30];lia
   have abX:min g.d (rows.length-i)<=16777216:=by lia
   simp[esl,aQ,dC,cD,line,abX];rw[<-C28,<-C25];refine bz D.str (λ _=>Da) (λ row=>.str<|(row.drop j).take g.w) (xs:=(rows.drop i).take g.d) (λ row jK=>?_) ?_
   .have hrl:=H.len row<|List.mem_of_mem_drop<|B94 jK;have er:=PB row (c:=j) (w:=g.w) ∅;have abm:row.length<=16777216:=by lia
    simp[line,er,abm]
   .rw [j!];have e1:((rows.drop i).take g.d).map (λ row=>D.str<|(row.drop j).take g.w)=(((rows.drop i).take g.d).map λ row=>(row.drop j).take g.w).map D.str:=by rw[A16];rfl
    have ej:=vR (ts:=((rows.drop i).take g.d).map λ row=>(row.drop j).take g.w) (by show(seen rows i j g.w g.d).length<=_;lia)
    rw[e1,ej];change Ok _ _;rw[show(((rows.drop i).take g.d).map λ row=>(row.drop j).take g.w).flatten=seen rows i j g.w g.d from rfl];have Cp:(seen rows i j g.w g.d).length<=16777216:=by lia
    generalize seen rows i j g.w g.d=sg at Yo Gm Cp ⊢;simp[aQ,dC,cD,line,Cp];refine bz (λ c=>.str [c]) (λ c=>!bU g.kind (AC c)) (λ c=>.str [c]) (xs:=sg) (λ x hx=>?_) ?_
    .have:=HZ g.kind x;have en:oz (.str [x]) (.str [46,61])=.ok (.bl<|!([46,61]:γ Nat).contains x):=rfl;have em:jF (.str [x]) (.str g.kind)=.ok (.bl<|!([x]==g.kind)):=rfl;rw[<-this];clear this;generalize (([46,61]:γ Nat).contains x)=bb at en ⊢;generalize ([x]==g.kind)=b2 at em ⊢;cases bb<;>cases b2<;>simp[en,em]
    .rw[Rc,Yo];have abW:(((sg.filter λ c=>!bU g.kind (AC c)).map λ c=>D.str [c]).isEmpty)=(sg.filter λ c=>!bU g.kind (AC c)).isEmpty:=by cases sg.filter λ c=>!bU g.kind (AC c)<;>rfl
     rw[abW];cases h1:(sg.filter λ c=>!bU g.kind (AC c)).isEmpty with
     |false=>simp;lia
     |true=>
      rw[h1,B95]at Yo;by_cases h2:g.wide<=sg.count 61
      .rw[A39 h2]at Yo;simp[h2,Yo];lia
      .simp[h2];lia
  .rintro ρ ⟨_,y,z,t,rfl⟩;simp only[fU];simp;refine⟨by lia,?_⟩;rw[iR];have:(c_ i C).filter (bR rows g)=(c_ i C').filter (bR rows g):=DB _ i C ∅ λ c h1 h2=>Jo H k<|.inr ∅;rw[B18,this,A23]
 .rintro ρ ⟨_,x,y,z,t,rfl⟩;simp only[fU];simp[places];rw[P4 (n:=R') (bR rows g) C rows.length ∅ λ r c h1 h2 h3=>Jo H k<|.inl ∅]
end KN
set_option maxRecDepth 4000
namespace gj
open Z KG KH KB KC KA KS
noncomputable def t_1:γ Nat:=[110,111,98,111,100,121,32,111,102,32,116,104,105,115,32,110,97,109,101,32,105,115,32,97,116,32,104,97,110,100]
def qi:SF:=(aF<|eB aL (KI (eW 0) Qy<|rk<|eW 1)<|KI (eW 0) (rk<|eB aL (eW 1)<|eI 1) Qy)
def dA:γ D->Res D:=fn 2 2 qi
theorem Cw(x0 x1:D):dA [x0,x1]=bc (qi [AC (.val x0),AC (.val x1)]):=bW _ _ _ _ rfl
def kz:SF:=(aF<|eB aL (eB aL (eU hJ<|eX 0 0)<|eC<|.str [32])<|eU hJ<|eX 0 1)
def bJ:γ D->Res D:=fn 1 1 kz
theorem vc(x0:D):bJ [x0]=bc (kz [AC (.val x0)]):=bW _ _ _ _ rfl
def lM:SM:=(aU (aE [0]<|dH (fL<|tE<|aj KA.gA<|aV 1 ah) jV aJ)<|aU (mq 0 [104,97,108,108]<|eV 1)<|aU (mq 0 [103,117,101,115,116,115]<|cq ah)<|aU (mq 0 [104,101,108,100]<|cq ah)<|mq 0 [112,108,97,99,101,115]<|cq ah)
def ie:γ D->Res (D×γ D):=u_ [0] [Da,AT] 2 lM
def gH:SF:=(aB (dH (tE<|aj KS.cB<|aV 1 ah) (gg (Ew<|eU (cR [103,117,101,115,116,115])<|eM 0 0) (dE [2,3])<|dH (tE<|eB oEq (eX 3 0)<|eW 1) (aF<|eV 2) aJ) aJ) jV)
def aM:γ D->Res D:=Aw [Da,AT] 4 gH
theorem o4(k0:γ (Sum Int<|γ Nat))(v0:γ D)(x1:D):aM [.dct k0 v0,x1]=bc (gH [AC (.bor<|.dct k0 v0),AC (.val x1),Ch,Ch]):=qT _ _ _ _ rfl
def uC:SM:=(aU (aE i1<|dH (fL<|tE<|aj KS.cP<|aV 1 ah) jV aJ)<|aU (aE i1<|dH (tE<|eB A_ (eX 1 0)<|eL<|bf (cZ<|eU (cR [103,117,101,115,116,115])<|eM 0 0) 1 [] (aG 0) bI<|eX 0 0) jV aJ)<|aU (aE i1<|aK 2<|eB aL (eU (cR [103,117,101,115,116,115])<|eM 0 0)<|cq<|aV 1 ah)<|aU (aE i1<|dH (tE<|eB D5 (eU cm<|eW 2)<|eI 6) jV aJ)<|aU (aE i1<|aK 3<|eB aL (eU (cR [104,101,108,100])<|eM 0 0)<|cq<|ag (eC .non) ah)<|aU (aE i1<|aK 4<|aj KB.bj<|ag (eU (cR [104,97,108,108])<|eM 0 0)<|aV 2<|aV 3 ah)<|aU (aE i1<|dH (tE<|eU fO<|eW 4) jV aJ)<|aU (mq 0 [103,117,101,115,116,115]<|eV 2)<|aU (mq 0 [104,101,108,100]<|eV 3)<|aU (mq 0 [112,108,97,99,101,115]<|eV 4)<|aE i1<|aF<|eB aZ (eW 4)<|eU Jg<|eI 1)
def g9:γ D->Res (D×γ D):=u_ i1 [Da,AT] 5 uC
def qY:SM:=(aU (aE i1<|aK 2<|aj aM<|ag (eM 0 0)<|aV 1 ah)<|mq 0 [104,101,108,100]<|aj KH.bX<|ag (eU (cR [104,101,108,100])<|eM 0 0)<|aV 2<|ag (eB aZ (eU (cR [112,108,97,99,101,115])<|eM 0 0)<|eW 2) ah)
def fY:γ D->Res (D×γ D):=u_ i1 [Da,AT] 3 qY
def qZ:SM:=(aU (aE i1<|aK 2<|aj aM<|ag (eM 0 0)<|aV 1 ah)<|aU (mq 0 [103,117,101,115,116,115]<|aj dA<|ag (eU (cR [103,117,101,115,116,115])<|eM 0 0)<|aV 2 ah)<|aU (mq 0 [104,101,108,100]<|aj dA<|ag (eU (cR [104,101,108,100])<|eM 0 0)<|aV 2 ah)<|mq 0 [112,108,97,99,101,115]<|aj KB.bj<|ag (eU (cR [104,97,108,108])<|eM 0 0)<|ag (eU (cR [103,117,101,115,116,115])<|eM 0 0)<|ag (eU (cR [104,101,108,100])<|eM 0 0) ah)
def fZ:γ D->Res (D×γ D):=u_ i1 [Da,AT] 3 qZ
def kI:SF:=(aF<|eB aZ (eU (cR [112,108,97,99,101,115])<|eM 0 0)<|aj aM<|ag (eM 0 0)<|aV 1 ah)
def cV:γ D->Res D:=Aw [Da,AT] 2 kI
theorem vm(k0:γ (Sum Int<|γ Nat))(v0:γ D)(x1:D):cV [.dct k0 v0,x1]=bc (kI [AC (.bor<|.dct k0 v0),AC (.val x1)]):=qT _ _ _ _ rfl
def iQ:SF:=(aF<|eU (cR [103,117,101,115,116,115])<|eM 0 0)
def cG:γ D->Res D:=Aw [Da] 1 iQ
theorem rH(k0:γ (Sum Int<|γ Nat))(v0:γ D):cG [.dct k0 v0]=bc (iQ [AC (.bor<|.dct k0 v0)]):=qT _ _ _ _ rfl
def iP:SF:=(aF<|eU (cR [112,108,97,99,101,115])<|eM 0 0)
def cF:γ D->Res D:=Aw [Da] 1 iP
theorem rG(k0:γ (Sum Int<|γ Nat))(v0:γ D):cF [.dct k0 v0]=bc (iP [AC (.bor<|.dct k0 v0)]):=qT _ _ _ _ rfl
def kH:SF:=(aF<|aj KB.b9<|ag (eU (cR [103,117,101,115,116,115])<|eM 0 0)<|ag (eU (cR [112,108,97,99,101,115])<|eM 0 0) ah)
def bK:γ D->Res D:=Aw [Da] 1 kH
theorem vk(k0:γ (Sum Int<|γ Nat))(v0:γ D):bK [.dct k0 v0]=bc (kH [AC (.bor<|.dct k0 v0)]):=qT _ _ _ _ rfl
def fg:SF:=(aB (dH (tE<|eB oEq (eU (cR [103,117,101,115,116,115])<|eM 0 0)<|cq ah) (aF<|eC<|.str [110,111,98,111,100,121]) aJ)<|aF<|eB kL (eC<|.str [59,32])<|eL<|bf (J6 (eU (cR [103,117,101,115,116,115])<|eM 0 0)<|eU (cR [112,108,97,99,101,115])<|eM 0 0) 2 [] (dE [0,1]) bI<|eB aL (eB aL (eX 0 0)<|eC<|.str [32])<|aj bJ<|aV 1 ah)
def cx:γ D->Res D:=Aw [Da] 1 fg
theorem jL(k0:γ (Sum Int<|γ Nat))(v0:γ D):cx [.dct k0 v0]=bc (fg [AC (.bor<|.dct k0 v0)]):=qT _ _ _ _ rfl
def mf:SM:=(aU (fR (qI<|tE<|eB oEq (eW 1)<|eC<|.str [97,115,107]) (λ _=>.bad) cW)<|aU (aE (ir 0 [Da,AT,AT])<|dH (tE<|eB oEq (eW 1)<|eC<|.str [119,104,101,114,101]) (aF<|aj bJ<|ag (aj cV<|ag (eM 0 0)<|aV 2 ah) ah) aJ)<|aU (fR (qI<|tE<|eB oEq (eW 1)<|eC<|.str [102,97,115,116]) (tJ<|bB fY [Da,AT] [0]<|ag (eM 0 0)<|aV 2 ah)<|tJ<|bB fZ [Da,AT] [0]<|ag (eM 0 0)<|aV 2 ah)<|aE (ir 0 [Da,AT,AT])<|aF<|eC<|.str [111,107])
def dB:γ D->Res (D×γ D):=u_ (ir 0 [Da,AT,AT]) [Da,AT,AT] 3 mf
def kJ:SM:=(aU (aE i1<|dH (fL<|tE<|eU (jb .str)<|eW 1) jV aJ)<|aU (aE i1<|dH (tE<|eB oEq (eW 1)<|eC<|.str [97,108,108]) (aF<|aj cx<|ag (eM 0 0) ah) aJ)<|aU (aE i1<|dH (tE<|eB oEq (eW 1)<|eC<|.str [119,111,114,116,104]) (aF<|eU hJ<|aj bK<|ag (eM 0 0) ah) aJ)<|aU (aE i1<|aK 2<|eB tj (eW 1)<|eC<|.str [32])<|aU (aE i1<|dH (vG (tE<|eB iD (eX 2 0)<|eC<|.tup [.str [97,115,107],.str [102,97,115,116],.str [97,119,97,121],.str [119,104,101,114,101]])<|tE<|eB oEq (eX 2 1)<|eC<|.str []) jV aJ)<|oB i1<|bB dB [Da,AT,AT] [0]<|ag (eM 0 0)<|aX 2 0<|aX 2 2 ah)
def aP:γ D->Res (D×γ D):=u_ i1 [Da,AT] 3 kJ
def fB:SF:=(aB (aK 2<|eB aL (eI 1)<|eB oMod (eW 0)<|eI 2147483646)<|aB (mm 3<|bu ah)<|aB (gg (dR<|eV 1) (aG 4)<|aB (aK 2<|eB oMod (eB eO (eW 2)<|eI 16807)<|eI 2147483647)<|cC 3<|eB oMod (eB eO (eB oMod (eB eO (eB aL (eW 2)<|eI 7)<|eI 69621)<|eI 2147483629)<|eI 39373)<|eI 2147483587)<|pQ 3<|aF<|eV 3)
def cN:γ D->Res D:=fn 2 5 fB
def jh:SF:=(aB (aK 2<|eC<|.str aH)<|aB (aK 3<|eB aL (eI 1)<|eB oMod (eW 0)<|eI 8)<|aB (aK 4<|eB oMod (eB oDiv (eW 0)<|eI 8)<|eW 3)<|aB (aK 5<|eB aZ (eL<|bu<|aI 1<|aI 3<|aI 5<|aI 7<|aI 9<|aI 11 ah)<|eB oMod (eB oDiv (eW 0)<|eI 64)<|eI 6)<|aB (mm 6<|bu ah)<|aB (gg (dR<|eV 1) (aG 7)<|aB (aK 8<|eC<|.str [])<|aB (gg (dR<|eV 3) (aG 9)<|aB (aK 10<|eB eO (eB eO (eW 5)<|eW 7)<|eU pV<|eB oEq (eW 9)<|eW 4)<|aK 8<|eB aL (eW 8)<|eB aZ (eW 2)<|eB oMod (eB aL (eB oDiv (eW 0)<|eB aL (eI 400)<|eB eO (eB eO (eI 30)<|eW 9)<|eW 9)<|eW 10)<|eI 26)<|cC 6<|eV 8)<|pQ 6<|aF<|eV 6)
def ib:γ D->Res D:=fn 2 11 jh
theorem yj(x0 x1:D):ib [x0,x1]=bc (jh [AC (.val x0),AC (.val x1),Ch,Ch,Ch,Ch,Ch,Ch,Ch,Ch,Ch]):=bW _ _ _ _ rfl
def eR:SF:=(aB (aK 1<|eC<|.str aH)<|aF<|eB aL (eB aZ (eW 1)<|eB oMod (eW 0)<|eI 26)<|eB aZ (eW 1)<|eB oMod (eB aL (eB aL (eW 0)<|eI 1)<|eB oMod (eB oDiv (eW 0)<|eI 26)<|eI 25)<|eI 26)
def cA:γ D->Res D:=fn 1 2 eR
def iM:SF:=(aB (zF (aj KH.cT<|ag (aj KG.bx<|aV 0<|aI 0 ah)<|ag (eL<|bu<|aI 2<|aI 6<|aI 12<|ag (eB m_ (eI 10)<|eI 60) ah) ah)<|t8 [1,2,3,4])<|aB (aK 2<|eB aL (eW 2)<|eI 1)<|aB (aK 3<|eB aL (eW 3)<|eI 1)<|aB (aK 5<|eC<|.str signs)<|aB (aK 6<|aj KH.cT<|ag (aj KG.bx<|aV 0<|aI 1 ah)<|ag (eL<|Tu (bu<|aI 29 ah)<|eB eO (eW 2)<|eW 3) ah)<|aB (dH (tE<|eB oEq (eW 1)<|eI 0) (aB (aK 2<|eB aZ (eL<|bu<|aI 1<|aI 2<|aI 1<|aI 2<|aI 3<|aI 2 ah)<|eB pU (eW 2)<|eI 1)<|aB (aK 3<|eB aZ (eL<|bu<|aI 3<|aI 4<|aI 5<|aI 2<|aI 1<|aI 4<|aI 6<|aI 3<|aI 2<|aI 3<|aI 4<|aI 5 ah)<|eB pU (eW 3)<|eI 1)<|aB (aK 5<|eB aL (eC<|.str [46,46,46,46,46,61,35])<|aj cA<|aV 4 ah)<|aK 6<|eL<|bf (cZ<|aj cN<|ag (aj KG.bx<|aV 0<|aI 1 ah)<|ag (eB eO (eW 2)<|eW 3) ah) 1 [] (aG 0) bI<|eB oMod (eB oDiv (eW 0)<|eI 3)<|eI 9) aJ)<|aB (mm 7<|bu ah)<|aB (gg (dR<|eV 2) (aG 8)<|cC 7<|eB kL (eC<|.str [])<|eL<|bf (cZ<|eL<|Oa (eW 6) (rk<|eB eO (eW 8)<|eW 3)<|rk<|eB eO (eB aL (eW 8)<|eI 1)<|eW 3) 1 [5] (aG 0) bI<|eY 1 0)<|aF<|eU gw<|eW 7)
def jf:γ D->Res D:=fn 1 9 iM
theorem AI(x0:D):jf [x0]=bc (iM [AC (.val x0),Ch,Ch,Ch,Ch,Ch,Ch,Ch,Ch]):=bW _ _ _ _ rfl
def ma:SF:=(aB (zF (aj KH.cT<|aV 1<|ag (eL<|bu<|aI 12<|aI 3<|aI 27<|aI 7<|aI 64<|aI 37 ah) ah)<|t8 [2,3,4,5,6,7])<|aB (aK 8<|aj KH.cT<|ag (eB oDiv (eW 1)<|eI 16111872)<|ag (eL<|Gb (eL<|bu<|ag (eB m_ (eI 10)<|eI 60) ah)<|eL<|Tu (bu<|ag (eB pU (eB m_ (eI 10)<|eI 60)<|eI 1) ah)<|eI 6) ah)<|aB (aK 7<|eB oMod (eW 7)<|eB aL (eB eO (eB aL (eW 2)<|eI 1)<|eB aL (eW 3)<|eI 1)<|eI 1)<|aB (aK 4<|eB aZ (eL<|bu<|ag (eC<|.str [])<|ag (eB aZ (eC<|.str aH)<|eB pU (eW 4)<|eI 1) ah)<|eU pV<|eB D5 (eW 4)<|eI 0)<|aB (aK 9<|eL<|bf (dR<|eI 6) 1 [6,8] (aG 0) (tE<|eB oEq (eB oMod (eB oDiv (eW 1)<|eB aZ (eL<|bu<|aI 1<|aI 2<|aI 4<|aI 8<|aI 16<|aI 32 ah)<|eW 0)<|eI 2)<|eI 1)<|cq<|aV 0<|ag (eB aL (eI 1)<|eB aZ (eW 2)<|eB aL (eI 1)<|eW 0) ah)<|aF<|cq<|aV 0<|ag (eB aL (eW 2)<|eI 1)<|ag (eB aL (eW 3)<|eI 1)<|aV 4<|aV 7<|aV 5<|aX 8 0<|ag (eU gw<|eW 9) ah)
def j7:γ D->Res D:=fn 2 10 ma
theorem Cz(x0 x1:D):j7 [x0,x1]=bc (ma [AC (.val x0),AC (.val x1),Ch,Ch,Ch,Ch,Ch,Ch,Ch,Ch]):=bW _ _ _ _ rfl
def ji:SF:=(aB (aK 3<|aj cN<|aV 1<|aI 9 ah)<|aB (aK 4<|eB aZ (eL<|bu<|aI 1<|aI 2<|aI 1<|aI 3<|aI 2<|aI 1<|aI 2<|aI 1 ah)<|eB oMod (eB oDiv (eX 3 0)<|eI 5)<|eI 8)<|aB (aK 5<|eB aZ (eL<|bu<|aI 1<|aI 1<|aI 2<|aI 1<|aI 1<|aI 1<|aI 1<|aI 2 ah)<|eB oMod (eB oDiv (eX 3 1)<|eI 5)<|eI 8)<|aB (aK 6<|eB aZ (eL<|bu<|ag (eC<|.str [])<|ag (eC<|.str [])<|ag (eC<|.str [])<|aX 2 0<|ag (eC<|.str [])<|aX 2 1 ah)<|eB oMod (eB oDiv (eX 3 2)<|eI 5)<|eI 6)<|aB (aK 7<|eB NK (eB aZ (eL<|bu<|aI 0<|aI 0<|aI 1<|aI 0<|aI 0<|aI 0 ah)<|eB oMod (eB oDiv (eX 3 3)<|eI 5)<|eI 6)<|eB eO (eW 4)<|eW 5)<|aB (aK 8<|eB aZ (eL<|bu<|aI 0<|aI 1<|aI 0<|aI 0<|aI 1<|aI 0<|aI 0<|aI 2 ah)<|eB oMod (eB oDiv (eX 3 4)<|eI 5)<|eI 8)<|aB (aK 9<|eB aZ (eL<|bu<|ag (eB oMod (eB oDiv (eX 3 5)<|eI 5)<|eI 4)<|ag (eB eO (eX 3 6)<|eB m_ (eI 10)<|eI 50) ah)<|eU pV<|eB oEq (eB oMod (eB oDiv (eX 3 5)<|eI 20)<|eI 6)<|eI 5)<|aB (mm 10<|bu ah)<|aB (gg (dR<|eI 6) (aG 11)<|dH (tE<|eB oEq (eB oMod (eB oDiv (eX 3 7)<|eB aL (eI 3)<|eB eO (eI 2)<|eW 11)<|eI 4)<|eI 1) (cC 10<|cq<|aV 11<|ag (eB aL (eI 1)<|eB oMod (eB oDiv (eX 3 8)<|eB aL (eI 2)<|eW 11)<|eI 3) ah) aJ)<|aF<|cq<|aV 0<|aV 4<|aV 5<|aV 6<|aV 7<|aV 8<|aV 9<|ag (eU gw<|eW 10) ah)
def ic:γ D->Res D:=fn 3 12 ji
theorem yl(x0 x1 x2:D):ic [x0,x1,x2]=bc (ji [AC (.val x0),AC (.val x1),AC (.val x2),Ch,Ch,Ch,Ch,Ch,Ch,Ch,Ch,Ch]):=bW _ _ _ _ rfl
def ik:SF:=(aB (aK 3<|aj cA<|ag (eB oMod (eB oDiv (aj KG.bx<|aV 0<|aI 0 ah)<|eI 144)<|eB m_ (eI 10)<|eI 60) ah)<|aB (mm 4<|bu ah)<|aB (gg (dR<|eU cm<|eW 2) (aG 5)<|aB (aK 6<|aj KG.bx<|aV 0<|ag (eB aL (eW 1)<|eW 5) ah)<|dH (xn (tE<|eB oEq (eB oMod (aj KG.bx<|aV 0<|aI 0 ah)<|eI 2)<|eI 1)<|tE<|eB D5 (eB oMod (eW 6)<|eI 3)<|eI 0) (cC 4<|aj j7<|ag (eY 2 5)<|ag (eB oDiv (eW 6)<|eI 3) ah)<|cC 4<|aj ic<|ag (eY 2 5)<|ag (eB aL (eB oDiv (eW 6)<|eI 3)<|eB eO (eB eO (eI 7)<|eW 5)<|eW 5)<|aV 3 ah)<|aF<|eU gw<|eW 4)
def gN:γ D->Res D:=fn 3 7 ik
theorem vf(x0 x1 x2:D):gN [x0,x1,x2]=bc (ik [AC (.val x0),AC (.val x1),AC (.val x2),Ch,Ch,Ch,Ch]):=bW _ _ _ _ rfl
def f':SF:=(aB (mm 2<|bu ah)<|aB (gg (dR<|eB aL (eB pU (eU cm<|eW 0)<|eX 1 2)<|eI 1) (aG 3)<|gg (dR<|eB aL (eB pU (eU cm<|eX 0 0)<|eX 1 1)<|eI 1) (aG 4)<|aB (aK 5<|eB kL (eC<|.str [])<|eL<|bf (cZ<|KI (eW 0) (rk<|eW 3)<|rk<|eB aL (eW 3)<|eX 1 2) 1 [4,1] (aG 0) bI<|KI (eW 0) (rk<|eW 1)<|rk<|eB aL (eW 1)<|eX 2 1)<|aB (aK 6<|eL<|bf (cZ<|eW 5) 1 [1] (aG 0) (xn (tE<|eB oz (eW 0)<|eC<|.str [46,61])<|tE<|eB jF (eW 0)<|eX 1 3)<|eV 0)<|dH (xn (tE<|eB oEq (eW 6)<|eL<|bu ah)<|tE<|eB VB (eB vS (eW 5)<|eC<|.str [61])<|eX 1 4) (cC 2<|cq<|aV 3<|aV 4 ah) aJ)<|pQ 2<|aF<|eV 2)
def bY:γ D->Res D:=fn 2 7 f'
def nJ:SF:=(aB (aK 3<|eI 1)<|aB (gg (cZ<|eV 1) (aG 4)<|dH (tE<|eB (tq AT) (eX 4 0)<|eM 1 2) (aK 3<|eB eO (eW 3)<|eB aL (eI 1)<|eU cm<|aj bY<|aV 0<|aV 4 ah) aJ)<|aF<|eV 3)
def dW:γ D->Res D:=Aw [AT,AT,Da] 5 nJ
theorem AH(x0:D)(x1:D)(k2:γ (Sum Int<|γ Nat))(v2:γ D):dW [x0,x1,.dct k2 v2]=bc (nJ [AC (.val x0),AC (.val x1),AC (.bor<|.dct k2 v2),Ch,Ch]):=qT _ _ _ _ rfl
def kD:SF:=(aB (aK 3<|eL<|bu<|ag (cq<|ag (cq ah)<|aI 0 ah) ah)<|aB (gg (cZ<|eV 1) (aG 4)<|aB (aK 5<|aj bY<|aV 0<|aV 4 ah)<|aB (dH (tE<|eB (tq Da) (eX 4 0)<|eM 1 2) (aK 5<|eL<|bu<|ag (eB F1 (eM 1 2)<|eX 4 0) ah) aJ)<|aB (mm 6<|bu ah)<|aB (gg (cZ<|eV 3) (dE [7,8])<|gg (cZ<|eV 5) (aG 9)<|aB (aK 10<|eL<|bf (dR<|eU cm<|eW 7) 1 [1,7,4,9] (aG 0) (fL<|tE<|aj KH.fW<|ag (eY 1 0)<|ag (eY 2 0)<|aV 3<|aV 4 ah)<|eV 0)<|dH (tE<|eB oEq (eW 10)<|eL<|bu ah) (cC 6<|cq<|ag (eB aL (eW 7)<|cq<|aV 9 ah)<|ag (eB aL (eW 8)<|aj KB.dF<|aV 4<|aX 9 0 ah) ah) aJ)<|pQ 6<|aK 3<|eV 6)<|aB (aK 11<|eC .non)<|aB (gg (cZ<|eV 3) (dE [7,8])<|dH (vG (tE<|eU fO<|eW 11)<|tE<|eB D5 (eW 8)<|eX 11 1) (aK 11<|cq<|aV 7<|aV 8 ah) aJ)<|aF<|eV 11)
def dm:γ D->Res D:=Aw [AT,AT,Da] 12 kD
theorem AJ(x0:D)(x1:D)(k2:γ (Sum Int<|γ Nat))(v2:γ D):dm [x0,x1,.dct k2 v2]=bc (kD [AC (.val x0),AC (.val x1),AC (.bor<|.dct k2 v2),Ch,Ch,Ch,Ch,Ch,Ch,Ch,Ch,Ch]):=qT _ _ _ _ rfl
def i!:XF:=(fJ (dH (fL<|tE<|aj KS.cP<|aV 1 ah) jV aJ) nP<|fJ (dH (tE<|eB A_ (eX 1 0)<|eL<|bf (cZ<|eU (cR [103,117,101,115,116,115])<|eM 0 0) 1 [] (aG 0) bI<|eX 0 0) jV aJ) nP<|fJ (aK 2<|eB aL (eU (cR [103,117,101,115,116,115])<|eM 0 0)<|cq<|aV 1 ah) nP<|fJ (dH (tE<|eB D5 (eU cm<|eW 2)<|eI 6) jV aJ) nP<|fJ (aK 3<|eB aL (eU (cR [104,101,108,100])<|eM 0 0)<|cq<|ag (eC .non) ah) nP<|fJ (aK 4<|aj KB.bj<|ag (eU (cR [104,97,108,108])<|eM 0 0)<|aV 2<|aV 3 ah) nP<|fJ (dH (tE<|eU fO<|eW 4) jV aJ) (Hl (tE<|eU fO<|eW 4) (nR [70,117,108,108] [[112,97,112,101,114]]<|ag (aj KC.g0<|ag (eU (cR [104,97,108,108])<|eM 0 0)<|aV 2<|aV 3 ah) ah) nP) nP)
def dS:γ D->ε XN:=Gy [Da,AT] 5 i!
theorem yg(k0:γ (Sum Int<|γ Nat))(v0:γ D)(x1:D):dS [.dct k0 v0,x1]=i! [AC (.bor<|.dct k0 v0),AC (.val x1),Ch,Ch,Ch]:=wu _ _ _ _ rfl
def dN:XF:=(fJ (dH (tE<|aj KS.cB<|aV 1 ah) (gg (Ew<|eU (cR [103,117,101,115,116,115])<|eM 0 0) (dE [2,3])<|dH (tE<|eB oEq (eX 3 0)<|eW 1) (aF<|eV 2) aJ) aJ) nP<|wY [78,111,78,97,109,101]<|eC<|.str t_1)
def aR:γ D->ε XN:=Gy [Da,AT] 4 dN
theorem iH(k0:γ (Sum Int<|γ Nat))(v0:γ D)(x1:D):aR [.dct k0 v0,x1]=dN [AC (.bor<|.dct k0 v0),AC (.val x1),Ch,Ch]:=wu _ _ _ _ rfl
def wX:XF:=(fJ (aK 2<|aj aM<|ag (eM 0 0)<|aV 1 ah) (eE aR<|ag (eM 0 0)<|aV 1 ah) nP)
def oP:γ D->ε XN:=Gy [Da,AT] 3 wX
def jT:XF:=(fJ (aK 2<|aj aM<|ag (eM 0 0)<|aV 1 ah) (eE aR<|ag (eM 0 0)<|aV 1 ah) nP)
def fV:γ D->ε XN:=Gy [Da,AT] 3 jT
theorem u!(k0:γ (Sum Int<|γ Nat))(v0:γ D)(x1:D):fV [.dct k0 v0,x1]=jT [AC (.bor<|.dct k0 v0),AC (.val x1),Ch]:=wu _ _ _ _ rfl
def jl:XF:=(ZE (eU (cR [112,108,97,99,101,115])<|eM 0 0)<|eE aR<|ag (eM 0 0)<|aV 1 ah)
def gM:γ D->ε XN:=Gy [Da,AT] 2 jl
theorem t!(k0:γ (Sum Int<|γ Nat))(v0:γ D)(x1:D):gM [.dct k0 v0,x1]=jl [AC (.bor<|.dct k0 v0),AC (.val x1)]:=wu _ _ _ _ rfl
def iy:XF:=(fJ (dH (tE<|eB oEq (eW 1)<|eC<|.str [97,115,107]) (aF<|aj bJ<|ag KJ ah) aJ) (Hl (tE<|eB oEq (eW 1)<|eC<|.str [97,115,107]) (eE dS<|ag (eM 0 0)<|ag KJ ah) nP)<|fJ (dH (tE<|eB oEq (eW 1)<|eC<|.str [119,104,101,114,101]) (aF<|aj bJ<|ag (aj cV<|ag (eM 0 0)<|aV 2 ah) ah) aJ) (Hl (tE<|eB oEq (eW 1)<|eC<|.str [119,104,101,114,101]) (eE gM<|ag (eM 0 0)<|aV 2 ah) nP)<|fJ (dH (tE<|eB oEq (eW 1)<|eC<|.str [102,97,115,116]) (Dy KJ)<|Dy KJ) (Hl (tE<|eB oEq (eW 1)<|eC<|.str [102,97,115,116]) (eE fV<|ag (eM 0 0)<|aV 2 ah)<|eE oP<|ag (eM 0 0)<|aV 2 ah) nP)
def fm:γ D->ε XN:=Gy [Da,AT,AT] 3 iy
theorem lz(k0:γ (Sum Int<|γ Nat))(v0:γ D)(x1:D)(x2:D):fm [.dct k0 v0,x1,x2]=iy [AC (.bor<|.dct k0 v0),AC (.val x1),AC (.val x2)]:=wu _ _ _ _ rfl
def kT:XF:=(fJ (dH (fL<|tE<|eU (jb .str)<|eW 1) jV aJ) nP<|fJ (dH (tE<|eB oEq (eW 1)<|eC<|.str [97,108,108]) (aF<|aj cx<|ag (eM 0 0) ah) aJ) nP<|fJ (dH (tE<|eB oEq (eW 1)<|eC<|.str [119,111,114,116,104]) (aF<|eU hJ<|aj bK<|ag (eM 0 0) ah) aJ) nP<|fJ (aK 2<|eB tj (eW 1)<|eC<|.str [32]) nP<|fJ (dH (vG (tE<|eB iD (eX 2 0)<|eC<|.tup [.str [97,115,107],.str [102,97,115,116],.str [97,119,97,121],.str [119,104,101,114,101]])<|tE<|eB oEq (eX 2 1)<|eC<|.str []) jV aJ) nP<|eE fm<|ag (eM 0 0)<|aX 2 0<|aX 2 2 ah)
def fw:γ D->ε XN:=Gy [Da,AT] 3 kT
theorem yf(k0:γ (Sum Int<|γ Nat))(v0:γ D)(x1:D):fw [.dct k0 v0,x1]=kT [AC (.bor<|.dct k0 v0),AC (.val x1),Ch]:=wu _ _ _ _ rfl
def qj:SM:=(aU (aE i1<|aK 2<|eC .non)<|aU (z_ (tI 2<|bB aP [Da,AT] [0]<|ag (eM 0 0)<|aV 1 ah) (eE fw<|ag (eM 0 0)<|aV 1 ah)<|VP (JY [([78,111,78,97,109,101],Da)]) (aE i1<|aK 2<|eC<|.str [110,111,32,110,97,109,101]) hNo)<|aE i1<|aF<|eV 2)
def cz:γ D->Res (D×γ D):=u_ i1 [Da,AT] 3 qj
def lK:SM:=(aU (aE i1<|aK 2<|eC .non)<|aU (z_ (tI 2<|bB g9 [Da,AT] [0]<|ag (eM 0 0)<|aV 1 ah) (eE dS<|ag (eM 0 0)<|aV 1 ah)<|VP (JY [([70,117,108,108],Da)]) (aE i1<|aK 2<|eC<|.str [102,117,108,108]) hNo)<|aE i1<|aF<|eV 2)
def cO:γ D->Res (D×γ D):=u_ i1 [Da,AT] 3 lK
def kB:SF:=(aB (dH (tE<|eB oEq (eW 0)<|cq ah) (aF<|eC<|.str [110,111,98,111,100,121]) aJ)<|aF<|eB kL (eC<|.str [59,32])<|eL<|bf (J6 (eV 0)<|eV 1) 2 [] (dE [0,1]) bI<|eB aL (eB aL (eB aL (eB aL (eX 0 0)<|eC<|.str [32])<|eU hJ<|eX 1 0)<|eC<|.str [32])<|eU hJ<|eX 1 1)
def dh:γ D->Res D:=fn 2 2 kB
theorem qU(x0 x1:D):dh [x0,x1]=bc (kB [AC (.val x0),AC (.val x1)]):=bW _ _ _ _ rfl
def l_:SM:=(aU (aE i2<|zF (eV 2)<|t8 [5,6,7])<|aU (aE i2<|aK 8<|eB aL (eW 5)<|cq<|aV 4 ah)<|aU (aE i2<|dH (tE<|eB D5 (aj dW<|aV 1<|aV 8<|ag (eM 1 3) ah)<|eI 120) (aF<|eV 2) aJ)<|aU (aE i2<|aK 9<|aj dm<|aV 1<|aV 8<|ag (eM 1 3) ah)<|aU (tI 10<|bB cO [Da,AT] [0]<|ag (eM 0 0)<|aV 4 ah)<|aU (aE i2<|dH (tE<|eU fO<|eW 9) (aF<|eB aZ (eL<|bu<|ag (eC .non)<|aV 2 ah)<|eU pV<|eB oEq (eW 10)<|eC<|.str [102,117,108,108]) aJ)<|aU (aE i2<|dH (tE<|eB jF (eW 10)<|eB aZ (eX 9 0)<|eU Jg<|eI 1) (aF<|eC .non) aJ)<|aE i2<|aF<|cq<|aV 8<|aX 9 0<|aX 9 1 ah)
def cU:γ D->Res (D×γ D):=u_ i2 [Da,AT,AT,Da,AT] 11 l_
def lJ:SM:=(aU (aE i2<|zF (eV 2)<|t8 [5,6,7])<|aU (fR (qI<|tE<|eB (tq Da) (eV 4)<|eM 1 3) (tJ<|To 3<|eV 4) cW)<|aU (aE i2<|aK 8<|eU gw<|eL<|bf (cZ<|eW 5) 1 [4] (aG 0) (tE<|eB jF (eX 0 0)<|eW 1)<|eV 0)<|aU (fR (yM<|mB jF (bB aP [Da,AT] [0]<|ag (eM 0 0)<|ag (eB aL (eC<|.str [97,119,97,121,32])<|eW 4) ah)<|mP<|eC<|.str [111,107]) (aE i2<|aF<|eC .non) cW)<|aU (aE i2<|aK 9<|aj dm<|aV 1<|aV 8<|ag (eM 1 3) ah)<|aE i2<|aF<|cq<|aV 8<|aX 9 0<|aX 9 1 ah)
def eu:γ D->Res (D×γ D):=u_ i2 [Da,AT,AT,Da,AT] 10 lJ
def gE:SM:=(aU (aE i3<|zF (eV 2)<|t8 [6,7,8])<|aU (aE i3<|aK 9<|eL<|bf (cZ<|eW 6) 1 [] (aG 0) bI<|eX 0 0)<|aU (fR (qI<|tE<|eB iD (eX 4 0)<|eW 9) (aU (fR (kM (qI<|tE<|eB oEq (eB oMod (eW 5)<|eI 2)<|eI 1)<|yM<|mB jF (bB cz [Da,AT] [0]<|ag (eM 0 0)<|ag (eB aL (eC<|.str [119,104,101,114,101,32])<|eX 4 0) ah)<|mP<|eC<|.str [110,111,32,110,97,109,101]) (aE i3<|aF<|eC .non) cW)<|oB i3<|bB cU [Da,AT,AT,Da,AT] [0,3]<|ag (eM 0 0)<|aV 1<|aV 2<|ag (eM 1 3)<|aV 4 ah) cW)<|aU (aE i3<|aK 10<|eB aZ (eW 7)<|eB xM (eW 9)<|eX 4 0)<|aU (fR (qI<|tE<|eB oLt (eW 5)<|eI 3) (aU (Tn 3 (eX 4 0)<|eV 10)<|oB i3<|mB aZ (mP<|eL<|bu<|ag (eC .non)<|aV 2 ah)<|mU pV<|mB oEq (bB cz [Da,AT] [0]<|ag (eM 0 0)<|ag (eB aL (eC<|.str [102,97,115,116,32])<|eX 4 0) ah)<|mP<|eC<|.str [111,107]) cW)<|aU (fR (qI<|tE<|eB oLt (eW 5)<|eI 6) (oB i3<|bB eu [Da,AT,AT,Da,AT] [0,3]<|ag (eM 0 0)<|aV 1<|aV 2<|ag (eM 1 3)<|aX 4 0 ah) cW)<|oB i3<|mB aZ (mP<|eL<|bu<|ag (eC .non)<|aV 2 ah)<|mU pV<|mB oEq (bB cz [Da,AT] [0]<|ag (eM 0 0)<|ag (eB aL (eC<|.str [119,104,101,114,101,32])<|eX 4 0) ah)<|mP<|eB aL (eB aL (eU hJ<|eX 10 0)<|eC<|.str [32])<|eU hJ<|eX 10 1)
def bF:γ D->Res (D×γ D):=u_ i3 [Da,AT,AT,Da,AT,AT] 11 gE
def Lv:SF:=(aB (aK 1<|aj jf<|aV 0 ah)<|aB (aK 2<|aj ib<|ag (aj KG.bx<|aV 0<|aI 2 ah)<|aI 6 ah)<|aB (aK 3<|aj gN<|aV 0<|aI 3<|ag (eL<|Gb (eW 2)<|eW 2) ah)<|xx 4 ie (eV 1)<|aU (aE [4]<|aK 5<|cq<|ag (cq ah)<|ag (cq ah)<|aI 0 ah)<|Ee [4] 6<|aU (Tp ([4]++[6]) (cZ<|eL<|Gb (eL<|bu<|aI 0<|aI 8<|aI 17 ah)<|eL<|Oa (eW 0) (rk<|eI 15)<|rk<|eI 45) (aG 7)<|aU (tI 5<|bB bF [Da,AT,AT,Da,AT,AT] [4,6]<|ag (eM 0 4)<|aV 1<|aV 5<|ag (eM 1 6)<|ag (eB aZ (eW 3)<|eB oMod (eB oDiv (eW 7)<|eI 8)<|eI 12)<|ag (eB oMod (eW 7)<|eI 8) ah)<|aU (aE ([4]++[6])<|dH (tE<|eU fO<|eW 5) (aF<|eC<|.bl AT) aJ)<|aU (aE ([4]++[6])<|zF (eV 5)<|t8 [8,9,10])<|aU (aE ([4]++[6])<|dH (vG (tE<|eB jF (aj cG<|ag (eM 0 4) ah)<|eW 8)<|vG (tE<|eB jF (aj cF<|ag (eM 0 4) ah)<|eW 9)<|tE<|eB jF (aj bK<|ag (eM 0 4) ah)<|eW 10) (aF<|eC<|.bl AT) aJ)<|aU (fR (kM (qI<|tE<|eB oEq (eB oMod (eW 7)<|eI 8)<|eI 7)<|yM<|mB jF (bB aP [Da,AT] [4]<|ag (eM 0 4)<|ag (eC<|.str [97,108,108]) ah)<|mP<|aj dh<|aV 8<|aV 9 ah) (aE ([4]++[6])<|aF<|eC<|.bl AT) cW)<|fR (kM (qI<|tE<|eB D5 (eB oMod (eW 7)<|eI 8)<|eI 5)<|yM<|mB jF (bB aP [Da,AT] [4]<|ag (eM 0 4)<|ag (eC<|.str [119,111,114,116,104]) ah)<|mP<|eU hJ<|eW 10) (aE ([4]++[6])<|aF<|eC<|.bl AT) cW)<|aU (fR (yM<|mB jF (bB aP [Da,AT] [4]<|ag (eM 0 4)<|ag (eC<|.str [97,108,108]) ah)<|mP<|aj dh<|aX 5 0<|aX 5 1 ah) (aE ([4]++[6])<|aF<|eC<|.bl AT) cW)<|oB ([4]++[6])<|mB oEq (bB aP [Da,AT] [4]<|ag (eM 0 4)<|ag (eC<|.str [119,111,114,116,104]) ah)<|mP<|eU hJ<|eX 5 2)
def p!:γ D->Res D:=fn 1 11 Lv
theorem Us(x0:D):p! [x0]=bc (Lv [AC (.val x0),Ch,Ch,Ch,Ch,Ch,Ch,Ch,Ch,Ch,Ch]):=bW _ _ _ _ rfl
end gj
set_option maxRecDepth 8000
namespace gj
open Z
abbrev Rm:γ Nat:=[78,111,78,97,109,101]
abbrev Rn:γ Nat:=[70,117,108,108]
noncomputable abbrev dk(x:Nat)(hall gs hl ps:D):D:=.dct [.inl (x:Int),.inl 0,.inr [104,97,108,108],.inr [103,117,101,115,116,115],.inr [104,101,108,100],.inr [112,108,97,99,101,115]] [hall,gs,hl,ps]
theorem eqT(s t:γ Nat):oEq (.str s) (.str t)=.ok (.bl<|decide<|s=t):=by have:jS (.str s) (.str t)=AC _:=rfl;unfold oEq;rw[this];simp only[Res.ok.injEq,D.bl.injEq];exact A51.mpr ∅
def cS(d:D):γ Nat:=match aZ d (.int 0)with
|.ok<|.str n=>n
|_=>[]
def nQ(g:D):Prop:=aZ g (.int 0)=.ok (.str<|cS g)
abbrev F2:SF:=dH (tE<|eB oEq (eX 3 0)<|eW 1) (aF<|eV 2) aJ
theorem tw(h:nQ g)(i:Nat)(d:D)(a b:ε L)(r:γ D):cb (dE [2,3]) F2 (pair (.int<|i) g::r) [AC (.bor d),v (.str n),a,b]=if cS g=n then .ok (.rt<|.int<|i)else cb (dE [2,3]) F2 r [AC (.bor d),v (.str n),v (.int<|i),v g]:=by
 have gX:∀ρ,dE [2,3] (.tup [.int (i),g]) ρ=.ok _:=λ ρ=>rfl;by_cases c:cS g=n
 .rw[W1 c];simp[cb,pair,F2,(show aZ g _=.ok _ from h),eqT,c]
 .rw[o0 c];simp[cb,pair,gX,F2,(show aZ g _=.ok _ from h),eqT,c]
theorem D6(h:∀d∈as++g::bs,nQ d)(hm:∀a∈as,cS a≠n)(hg:cS g=n)(d:D):∀i a b,cb (dE [2,3]) F2 (lG i<|as++g::bs) [AC (.bor d),v (.str n),a,b]=.ok (.rt<|.int<|(i+as.length:Nat)):=by
 induction as with
 |nil=>intro i a b;exact(tw (h g ∅) i d a b _).trans<|W1 hg
 |cons y as ih=>intro i a b;refine(tw (h y ∅) i d a b _).trans ?_;rw[o0<|hm y A08];refine(ih (λ z hz=>h z<|A07 _ hz) (λ z hz=>hm z<|A07 _ hz) _ _ _).trans ?_;rw[A27,show i+1+as.length=i+(as.length+1)by lia]
theorem zT(d:D):∀gs i a b,(∀g∈gs,nQ g)->(∀a∈gs,cS a≠n)->∃a' b',cb (dE [2,3]) F2 (lG i gs) [AC (.bor d),v (.str n),a,b]=.ok (.nx [AC (.bor d),v (.str n),a',b'])
|[],i,a,b,_,_=>⟨a,b,rfl⟩
|y::gs,i,a,b,h,hm=>by let⟨a',b',e⟩:=zT d gs (i+1) (v<|.int<|i) (v y) (λ z hz=>h z<|A07 _ hz) (λ z hz=>hm z<|A07 _ hz);refine⟨a',b',(tw (h y A08) i d a b _).trans ?_⟩;rw[o0<|hm y A08];exact e
theorem S5(e:KS.cB [.str n]=.ok (.bl Da))(h:∀d∈as++g::bs,nQ d)(hm:∀a∈as,cS a≠n)(hg:cS g=n):aM [dk x hall (.tup<|as++g::bs) hl ps,.str n]=.ok (.int<|as.length):=by rw[o4];refine ay ?_;have:=D6 h hm hg (dk x hall (.tup<|as++g::bs) hl ps) 0 Ch Ch;rw[A96]at this;simp[gH,e,eM,cR,fi,this]
theorem Xi(e:KS.cB [.str n]=.ok (.bl Da))(h:∀g∈gs,nQ g)(hm:∀a∈gs,cS a≠n):aR [dk x hall (.tup gs) hl ps,.str n]=AC (Rm,[]):=by rw[iH];let⟨a',b',q⟩:=zT (dk x hall (.tup gs) hl ps) gs 0 Ch Ch h hm;simp[dN,fJ,wY,nP,e,eM,cR,fi,q]
theorem ON:cG [dk x hall gs hl ps]=.ok gs:=by rw[rH];refine ay ?_;simp[iQ,eM,cR,fi]
theorem BM:cF [dk x hall gs hl ps]=.ok ps:=by rw[rG];refine ay ?_;simp[iP,eM,cR,fi]
theorem yT(h:KB.b9 [gs,ps]=.ok w):bK [dk x hall gs hl ps]=.ok w:=by rw[vk];refine ay ?_;simp[kH,eM,cR,fi,h]
theorem yX(h:aM [dk x hall gs hl ps,.str n]=.ok k)(hp:aZ ps k=.ok d):cV [dk x hall gs hl ps,.str n]=.ok d:=by rw[vm];refine ay ?_;simp[kI,eM,cR,fi,h,hp]
theorem OY(h:aM [dk x hall gs hl ps,.str n]=.ok k)(hp:aZ ps k=.ok d)(hw:KH.bX [hl,k,d]=.ok rB):fY [dk x hall gs hl ps,.str n]=.ok (.non,[dk x hall gs rB ps]):=by unfold fY;rw[dX _ _ _ _ _ rfl];have s0:startB 3 [Da,AT] [dk x hall gs hl ps,.str n]=[AC (.bor _),v _,Ch]:=rfl;rw[s0];simp[qY,aU,aE,mq,h,hw,hp,eM,cR,fi,uU,eK,cf,bq,iE,lr,line,guard_pos,ir];rfl
theorem PY(h:aM [dk x hall gs hl ps,.str n]=.ok k)(h1:dA [gs,k]=.ok tY)(h2:dA [hl,k]=.ok rB)(h3:KB.bj [hall,tY,rB]=.ok jB):fZ [dk x hall gs hl ps,.str n]=.ok (.non,[dk x hall tY rB jB]):=by unfold fZ;rw[dX _ _ _ _ _ rfl];have s0:startB 3 [Da,AT] [dk x hall gs hl ps,.str n]=[AC (.bor _),v _,Ch]:=rfl;rw[s0];simp[qZ,aU,aE,mq,h,h1,h2,h3,eM,cR,fi,uU,eK,cf,bq,iE,lr,line,guard_pos,ir];rfl
section
variable{gs hs:γ D}
theorem jG(h:∀g∈gs,nQ g)(ρ:Env)(hρ:ρ.length=1):bC (aG 0) bI (eX 0 0) ρ gs=.ok (gs.map λ g=>.str<|cS g):=by
 have:Ok (bC (aG 0) bI (eX 0 0) ρ gs) λ ds=>ds=gs.map λ g=>.str (cS g):=by
  match ρ,hρ with
  |[a],_=>refine comp_map _ (λ d hd=>?_) rfl;have:=h d hd;unfold nQ at this;simp[this]
 exact this.eq
theorem wR(n:γ Nat):∀ms:γ _,gu (.str n) (ms.map .str)=AC (decide<|n∈ms)
|[]=>rfl
|m::ms=>by
 have e:jS (.str m) (.str n)=AC _:=rfl;have ih:=wR n ms;by_cases c:n=m
 .subst c;simp[gu,e,ih]
 .simp[gu,e,ih,c,A09 c]
theorem tR(n:γ Nat)(ms:γ _):A_ (.str n) (.lst<|ms.map .str)=.ok (.bl<|decide<|n∈ms)/\iD (.str n) (.lst<|ms.map .str)=.ok (.bl<|!decide (n∈ms)):=by
 have:=wR n ms;constructor
 .simp[A_,this]
 .simp[iD,this]
theorem E3(hg:KS.cP [g]=.ok (.bl Da))(e0:nQ g)(hn:∀g∈gs,nQ g)(hm:∀y∈gs,cS y≠cS g):A_ (.str<|cS g) (.lst<|gs.map λ g=>.str<|cS g)=.ok (.bl AT):=by have:=(tR (cS g)<|gs.map cS).1;rw[A16]at this;refine this.trans ?_;rw[A32];intro h;let⟨y,hy,e⟩:=v6.mp h;exact hm y hy e
theorem U?(hg:KS.cP [g]=.ok (.bl Da))(e0:nQ g)(hn:∀g∈gs,nQ g)(hm:∀y∈gs,cS y≠cS g)(h5:gs.length<=5)(h5':hs.length<=5)(hb:KB.bj [hall,.tup (gs++[g]),.tup (hs++[.non])]=.ok jB)(hp:fO jB=.ok (.bl AT))(hd:aZ jB (.int<|-1)=.ok d):
 g9 [dk x hall (.tup gs) (.tup hs) ps,g]=.ok (d,[dk x hall (.tup<|gs++[g]) (.tup<|hs++[.non]) jB]):=by
 have GK:aZ g (.int 0)=.ok (.str<|cS g):=e0;have oN:=E3 hg e0 hn hm;have cg:=λ ρ hρ=>jG hn ρ hρ;unfold g9;rw[dX _ _ _ _ _ rfl];have s0:startB 5 [Da,AT] [dk x hall (.tup gs) (.tup hs) ps,g]=[AC (.bor<|dk x hall (.tup gs) (.tup hs) ps),v g,Ch,Ch,Ch]:=rfl;rw[s0];have l6:decide (6<(((gs++[g]).length)))=AT:=A32 (by rw[A28];simp;lia);have q0:gs.length<=16777216:=by lia
 have q1:gs.length<=16777215:=by lia
 have q2:hs.length<=16777215:=by lia
 have q3:decide (6<(gs.length:Int)+1)=AT:=A32 ∅;simp[uC,aU,aE,mq,hg,GK,hd,hb,hp,oN,aQ,c!,cg,q0,q1,q2,q3,l6,eM,cR,fi,uU,eK,cf,bq,iE,lr,line,guard_pos,ir];rfl
theorem b8(d:D):ZM (AC<|some<|.bor d)=d:=rfl
theorem Lw{gs hs ps d Hi:D}(hx:dS [dk x hall gs hs ps,g]=Ch)(h:g9 [dk x hall gs hs ps,g]=.ok (d,[Hi])):cO [dk x hall gs hs ps,g]=.ok (d,[Hi]):=by unfold cO;rw[dX _ _ _ _ _ rfl];have s0:startB 3 [Da,AT] [dk x hall gs hs ps,g]=[AC (.bor _),v g,Ch]:=rfl;rw[s0];simp[lK,aU,aE,z_,tI,bB,eE,hx,h,eM,cf,bq,iE,lr,line,guard_pos,ir,qy,b7,b?,b8]
theorem C3{gs hs ps:D}(hx:dS [dk x hall gs hs ps,g]=AC m)(hm:m.1=Rn):cO [dk x hall gs hs ps,g]=.ok (.str [102,117,108,108],[dk x hall gs hs ps]):=by unfold cO;rw[dX _ _ _ _ _ rfl];have s0:startB 3 [Da,AT] [dk x hall gs hs ps,g]=[AC (.bor _),v g,Ch]:=rfl;rw[s0];let⟨c,fs⟩:=m;cases hm;simp[lK,aU,aE,z_,VP,JY,eE,hx,eM,cf,bq,iE,lr,line,guard_pos,ir,b7,b8]
end
end gj
namespace gj
open Z
open KG (G GO Pl Rows Hall fG GOk aD aN bP aS places)
open KH (av ai Good)
open KB (a! du bQ)
abbrev c8:=γ<|γ Nat×D
noncomputable abbrev dd(a:Nat)(kv:c8):D:=.dct (.inl a::.inl 1::kv.map λ p=>.inr p.1) (kv.map (·.2))
theorem rV(c:γ Nat):∀kv:c8,fi (kv.map λ p=>.inr p.1) (kv.map (·.2)) c=match kv.lookup c with|some d=>.ok d|none=>.bad
|[]=>rfl
|(k,d)::kv=>by
 have ih:=rV c kv;by_cases h:k=c
 .subst h;simp[fi]
 .have:(c==k)=AT:=by simpa using A09 h
  simp[fi,h,ih,Fk,this]
def aY(c:γ Nat)(d:D):c8->c8
|[]=>[(c,d)]
|(k,e)::r=>if k=c then(k,d)::r else(k,e)::aY c d r
theorem Dx(c:γ Nat)(d:D):∀kv,eK c d (kv.map λ p=>.inr p.1) (kv.map (·.2))=((aY c d kv).map λ p=>.inr p.1,(aY c d kv).map (·.2))
|[]=>rfl
|(k,e)::kv=>by
 have ih:=Dx c d kv;by_cases h:k=c
 .simp[eK,aY,h]
 .simp[eK,aY,h,ih]
theorem Dv(c:γ Nat)(d:D)(n:γ Nat):∀kv,(aY c d kv).lookup n=if n=c then AC d else kv.lookup n
|[]=>by
 by_cases h:n=c
 .simp[aY,h]
 .have:(n==c)=AT:=by simpa using h
  simp[aY,h]
|(k,e)::kv=>by
 have ih:=Dv c d n kv;by_cases h:k=c
 .subst h;by_cases q:n=k
  .subst q;simp[aY]
  .have:(n==k)=AT:=by simpa using q
   simp[aY,Fk,this,q]
 .by_cases q:n=k
  .subst q;simp[aY,h]
  .have:(n==k)=AT:=by simpa using q
   simp[aY,h,Fk,this,ih]
theorem zC(c:γ Nat)(d:D)(n:γ Nat):∀kv,n∈(aY c d kv).map (·.1)->n=c\/n∈kv.map (·.1)
|[],h=>by simpa[aY]using h
|(k,e)::kv,h=>by
 by_cases q:k=c
 .simp[aY,q]at h;rcases h with h|h
  .exact .inl h
  .exact .inr (by simp;exact .inr h)
 .simp[aY,q]at h;rcases h with h|h
  .exact .inr (by simp[h])
  .rcases zC c d n kv (by simpa using h)with h|h
   .exact .inl h
   .exact .inr<|A07 _ h
theorem Du(c:γ Nat)(d:D):∀kv,(kv.map (·.1)).Nodup->((aY c d kv).map (·.1)).Nodup
|[],_=>by simp[aY]
|(k,e)::kv,h=>by
 have h':=A14.mp h;by_cases q:k=c
 .simpa[aY,q]using(by simpa[q]using h)
 .rw[show aY c d _=(k,e)::aY c d kv by simp[aY,q]];refine A14.mpr ⟨λ m=>?_,Du c d kv h'.2⟩;rcases zC c d k kv m with z|z
  .exact q z
  .exact h'.1 z
theorem zD(c:γ Nat)(d:D):∀kv,(aY c d kv).length<=kv.length+1
|[]=>by simp[aY]
|(k,e)::kv=>by
 have:=zD c d kv;by_cases q:k=c
 .simp[aY,q]
 .simp[aY,q];lia
def a7(c:γ Nat):c8->c8
|[]=>[]
|(k,e)::r=>if k=c then r else(k,e)::a7 c r
theorem AQ(c:γ Nat):∀kv,gr c (kv.map λ p=>.inr p.1) (kv.map (·.2))=((a7 c kv).map λ p=>.inr p.1,(a7 c kv).map (·.2))
|[]=>rfl
|(k,e)::kv=>by
 have ih:=AQ c kv;by_cases h:k=c
 .simp[gr,a7,h]
 .simp[gr,a7,h,ih]
theorem wC(c:γ Nat):∀kv,(a7 c kv).Sublist kv
|[]=>.slnil
|(k,e)::kv=>by
 by_cases h:k=c
 .simp[a7,h]
 .simp[a7,h];exact wC c kv
theorem AO(c n:γ Nat):∀kv,(kv.map (·.1)).Nodup->(a7 c kv).lookup n=if n=c then Ch else kv.lookup n
|[],_=>by simp[a7]
|(k,e)::kv,h=>by
 have h':=A14.mp h;have ih:=AO c n kv h'.2;by_cases q:k=c
 .subst q;by_cases z:n=k
  .subst z;rw[show a7 n _=kv by simp[a7],W1 rfl];exact List.lookup_eq_none_iff.mpr λ p hp=>by have:p.1≠n:=λ w=>h'.1<|w▸v6.mpr ⟨p,hp,rfl⟩;simpa using A09 this
  .have:(n==k)=AT:=by simpa using z
   simp[a7,Fk,this,z]
 .by_cases z:n=k
  .subst z;simp[a7,q]
  .have:(n==k)=AT:=by simpa using z
   simp[a7,q,Fk,this,ih]
noncomputable def tX:γ GO->γ Nat->ε D
|[],_=>Ch
|x::r,c=>if x.1.name=c then x.2.map aN else tX r c
abbrev nms(xs:γ GO):γ (γ Nat):=xs.map (·.1.name)
theorem Ar:∀{xs},c∉nms xs->tX xs c=Ch
|[],_=>rfl
|x::r,h=>by have h1:x.1.name≠c:=λ z=>h (by simp[z]);simp only[tX,o0 h1];exact Ar λ z=>h<|A07 _ z
theorem Ct:∀{xs},(nms xs).Nodup->∀x∈xs,tX xs x.1.name=x.2.map aN
|[],_,_,h=>by cases h
|y::r,nd,x,h=>by
 have lU:=A14.mp nd;rcases A01.mp h with rfl|h
 .simp[tX]
 .have:y.1.name≠x.1.name:=λ z=>lU.1<|v6.mpr ⟨x,h,z.symm⟩;simp only[tX,o0 this];exact Ct lU.2 x h
theorem OS(h:g.name∉nms xs)(c:γ Nat):tX (xs++[(g,Ch)]) c=tX xs c:=by
 induction xs with
 |nil=>simp[tX]
 |cons x r ih=>simp only[C01,tX];rw[ih λ z=>h<|A07 _ z]
theorem EA:∀{xs}{k:Nat}{g}{o} p,(nms xs).Nodup->xs[k]?=AC (g,o)->∀c,tX (xs.set k (g,AC p)) c=if c=g.name then AC (aN p)else tX xs c
|[],_,_,_,_,_,h,_=>by cases h
|x::r,0,g,o,p,nd,h,c=>by
 have:=A05 h;subst this;by_cases q:c=g.name
 .subst q;simp[tX]
 .simp[tX,q,A09 q]
|x::r,k+1,g,o,p,nd,h,c=>by
 have lU:=A14.mp nd;have h':=h;have ih:=EA p lU.2 h' c;have ne:x.1.name≠g.name:=λ z=>lU.1<|v6.mpr ⟨(g,o),A18 h',z.symm⟩;rw[sw];by_cases q:x.1.name=c
 .have:c≠g.name:=λ z=>ne<|q.trans z;simp[tX,q,this]
 .simp[tX,q,ih]
theorem wm:∀{xs}{k}{x},(nms xs).Nodup->xs[k]?=AC x->∀c,tX (xs.eraseIdx k) c=if c=x.1.name then Ch else tX xs c
|[],_,_,_,h,_=>by cases h
|y::r,0,x,nd,h,c=>by
 have:=A05 h;subst this;have lU:=A14.mp nd;by_cases q:c=y.1.name
 .subst q;simp[Ar lU.1]
 .simp[tX,q,A09 q]
|y::r,k+1,x,nd,h,c=>by
 have lU:=A14.mp nd;have h':=h;have ih:=wm lU.2 h' c;have ne:y.1.name≠x.1.name:=λ z=>lU.1<|v6.mpr ⟨x,A18 h',z.symm⟩;rw[C57];by_cases q:y.1.name=c
 .have:c≠x.1.name:=λ z=>ne<|q.trans z;simp[tX,q,this]
 .simp[tX,q,ih]
structure LM(kv:c8)(xs:List GO):Prop where
 nd:(kv.map (·.1)).Nodup
 eq:∀c,kv.lookup c=tX xs c
theorem p9(g:G):aZ (aD g) (.int 0)=.ok (.str g.name):=rfl
theorem xQ(g:G):cS (aD g)=g.name:=rfl
theorem lh(g:G):nQ (aD g):=rfl
theorem J5(b:Bool)(a:Nat)(kv:c8)(c:γ Nat):tq b (.str c) (dd a kv)=.ok (.bl<|if(kv.lookup c).isSome then b else !b):=by refine (guard_pos rfl).trans ?_;rw[rV];cases kv.lookup c<;>rfl
theorem vP(H:Hall rows C)(k:GOk g):bY [aS rows,aD g]=.ok (.lst<|(places rows C g).map aN):=KN.pZ H k
theorem BW(H:Hall rows C)(g:G):(places rows C g).length<=10000:=by
 have h1:(places rows C g).length<=rows.length*C:=by rw[<-KG.mh];exact A50 _ _
 have:=A57 H.r2 H.c2;lia
abbrev HM:SF:=dH (tE<|eB (tq AT) (eX 4 0)<|eM 1 2) (aK 3<|eB eO (eW 3)<|eB aL (eI 1)<|eU cm<|aj bY<|aV 0<|aV 4 ah) aJ
theorem w5(H:Hall rows C)(X1:D):∀ys n l,(∀x∈ys,GOk x.1)->(∀x∈ys,kv.lookup x.1.name=x.2.map aN)->∃l',cb (aG 4) HM (ys.map λ x=>aD x.1) [v (aS rows),v X1,AC (.bor<|dd a kv),v (.int (n:Nat)),l]=.ok (.nx [v (aS rows),v X1,AC (.bor<|dd a kv),v (.int<|(n*a! rows C ys:Nat)),l'])
|[],n,l,_,_=>⟨l,by simp[cb,a!,bQ]⟩
|y::ys,n,l,hg,hh=>by
 have pl:=vP H<|hg y A08;have pf:=BW H y.1;have ei:=J5 AT a kv y.1.name;rw[hh y A08]at ei;have hy:=λ z hz=>hg z<|A07 _ hz;have hk:=λ z hz=>hh z<|A07 _ hz;cases e:y.2 with
 |some p=>
  rw[e]at ei;let⟨l',q⟩:=w5 H (a:=a) X1 ys n (v<|aD y.1) hy hk;refine⟨l',?_⟩;have ew:a! rows C (y::ys)=a! rows C ys:=by simp[a!,bQ,du,e]
  rw[ew,<-q];simp[cb,HM,eM,p9,ei]
 |none=>
  rw[e]at ei;let⟨l',q⟩:=w5 H (a:=a) (kv:=kv) X1 ys (n*((places rows C y.1).length+1)) (v<|aD y.1) hy hk;refine⟨l',?_⟩;have ew:n*a! rows C (y::ys)=n*((places rows C y.1).length+1)*a! rows C ys:=by simp[a!,bQ,du,e,Nat.mul_assoc]
  rw[ew,<-q];have big:bA (n) (1+((places rows C y.1).length)):=fv ∅ ∅;have em:(n)*(1+((places rows C y.1).length))=((n*((places rows C y.1).length+1)):Int):=by push_cast;rw[Int.add_comm]
  simp[cb,HM,eM,p9,ei,pl,line,big,em]
theorem HL(H:Hall rows C)(h6:xs.length<=6)(hg:∀x∈xs,GOk x.1)(nd:(nms xs).Nodup)(h:LM kv xs):dW [aS rows,av xs,dd a kv]=.ok (.int<|a! rows C xs):=by rw[AH];refine ay ?_;let⟨l',q⟩:=w5 H (a:=a) (kv:=kv) (av xs) xs 1 Ch hg (λ x hx=>by rw[h.eq];exact Ct nd x hx);rw[Nat.one_mul]at q;simp only[av]at q ⊢;simp[nJ,q];exact⟨_,q,by simp ⟩
theorem yW{ds:γ D}(h:k<ds.length):cut ds Ch (AC<|k)++cut ds (AC<|(k)+1) Ch=ds.eraseIdx k:=by
 have e1:cut ds Ch _=ds.take k:=KG.uu ds ∅;have e2:cut ds (AC<|(k)+1) Ch=ds.drop (k+1):=by
  have:¬(k:Int)+1<0:=by lia
  have h3:((k:Int)+1).toNat=k+1:=by lia
  have h4:min (k+1) ds.length=k+1:=by lia
  simp[cut,c9,this,h4];rw[B36 ∅]
 rw[e1,e2,List.eraseIdx_eq_take_drop_succ]
theorem sd(h:k<ds.length)(hl:ds.length<=1000):dA [.tup ds,.int (k:Nat)]=.ok (.tup<|ds.eraseIdx k):=by
 rw[Cw];refine ay ?_;have c1:=ku ds Ch<|some<|k;have c2:=ku ds (AC<|(k)+1) Ch;have g2:(cut ds Ch<|some<|k).length+(cut ds (AC<|(k)+1) Ch).length<=16777216:=by lia
 simp[qi,g2,yW h]
end gj
namespace gj
open Z
section
variable{gl:γ D}
theorem JR:∀{kv:c8},(kv.map (·.1)).Nodup->(kv.map λ p=>(GT p.1:Sum Int _)).Nodup
|[],_=>.nil
|q::kv,h=>by have h':=A14.mp h;refine A14.mpr ⟨λ m=>h'.1 ?_,JR h'.2⟩;let⟨y,hy,e⟩:=v6.mp m;exact v6.mpr ⟨y,hy,A74 e⟩
theorem R7(h:(kv.map (·.1)).Nodup)(hl:kv.length<1000):zH (.str n) d (AC<|some<|.bor<|dd a kv)=.ok (.bor<|dd a<|aY n d kv):=by have nd:=JR h;have e:=Dx n d kv;refine (guard_pos ⟨rfl,by rw[A04];exact hl,nd⟩).trans ?_;rw[e]
theorem Sa(h:(kv.map (·.1)).Nodup)(hd:kv.lookup n=AC d):zJ (.str n) (AC<|some<|.bor<|dd a kv)=.ok (d,.bor<|dd a<|a7 n kv):=by have nd:=JR h;have e:=AQ n kv;have f:=rV n kv;rw[hd]at f;refine (guard_pos ⟨rfl,nd⟩).trans ?_;rw[f,e];rfl
theorem HW(hn:∀y∈gl,nQ y)(h:∃y∈gl,cS y=n):iD (.str n) (.lst<|gl.map λ g=>.str<|cS g)=.ok (.bl AT):=by have oN:=(tR n<|gl.map cS).2;rw[A16]at oN;refine oN.trans ?_;let⟨y,hy,e⟩:=h;rw[A39<|v6.mpr ⟨y,hy,e⟩];rfl
theorem uf:∀{kv},kv.lookup n=Ch->a7 n kv=kv
|[],_=>rfl
|(k,e)::kv,h=>by
 by_cases q:n=k
 .subst q;simp at h
 .have b:(n==k)=AT:=by simpa using q
  simp only[Fk,b]at h;simp[a7,A09 q,uf h]
end
end gj
namespace gj
open Z
open KG (G GO Pl Rows Hall fG GOk aD aN bP aS places)
open KH (av ai Good)
open KB (a! du bQ iS ju Ext Full)
def Dr(g:G):Prop:=fG g/\KS.cP [aD g]=.ok (.bl Da)/\KS.cB [.str g.name]=.ok (.bl Da)
def Ex(g:G):Prop:=g.name.length<=9/\∀r,0<=KB.y7 g r/\KB.y7 g r<10^62
structure I(rows:Rows)(C:Nat)(N:List (List Nat))(xs m:List GO)(kv:c8)(j:Nat):Prop where
 s:iS rows C xs m
 h:LM kv xs
 l:kv.length<=j
 dr:∀x∈xs,Dr x.1
 nm:∀x∈xs,x.1.name∈N/\Ex x.1
theorem mI:∀(l:γ _)(N:γ (γ Nat)),l.Nodup->(∀x∈l,x∈N)->l.length<=N.length
|[],_,_,_=>A47 _
|y::l,N,h,hs=>by have h':=A14.mp h;have hy:=hs y A08;have ih:=mI l _ h'.2 λ z hz=>(List.mem_erase_of_ne λ(e:z=y)=>h'.1<|e▸hz).mpr<|hs z<|A07 _ hz;rw[List.length_erase_of_mem hy]at ih;have:=List.length_pos_of_mem hy;rw[A27];lia
theorem tD(xs:γ GO):∀y∈xs.map (λ x=>aD x.1),nQ y:=λ y hy=>by let⟨z,_,rfl⟩:=v6.mp hy;exact lh z.1
theorem Kh(h:Good rows xs)(g:G):Good rows (xs++[(g,Ch)]):=by
 have key:∀i g' p,(xs++[(g,Ch)])[i]?=AC (g',AC p)->xs[i]?=AC (g',AC p):=λ i g' p e=>by
  by_cases c:i<xs.length
  .rwa [A21 c]at e
  .rw[A43 ∅]at e;cases q:i-xs.length with
   |zero=>rw[q]at e;cases e
   |succ n=>rw[q]at e;cases e
 intro i g' p e;let⟨h1,h2⟩:=h i g' p (key i g' p e);exact⟨h1,λ j g2 q ej ne=>h2 j g2 q (key j g2 q ej) ne⟩
theorem N!(d:D)(ds:γ D)(h:ds.length<=100):aZ (.tup<|ds++[d]) (.int<|-1)=.ok d:=by
 have e:wa (ds.length+1) (-1)=AC ds.length:=by unfold wa;simp;lia
 simp[aZ,e,guard_pos]
theorem Gz(f:Full m)(h:m≠[])(hl:m.length<=6):∃p,aZ (ai m) (.int<|-1)=.ok (aN p):=by
 obtain⟨r,y,rfl⟩:∃r y,m=r++[y]:=⟨_,_,(C58 h).symm⟩
 cases e:y.2 with
 |none=>exact(f _ y.1 (by rw[A43<|M2 _,Nat.sub_self,<-e];rfl)).elim
 |some p=>refine⟨p,?_⟩;unfold ai;rw[A23,v4,A35,e];exact N! _ _ (by rw[A04];simp at hl;lia)
theorem Rf(n:Nat)(z:Int):iY n (.int z) (.int z)=AC Da:=by
 have:iY n (.int z) (.int z)=AC (z==z):=by cases n<;>rfl
 rw[this,A91]
theorem Ku(n:Nat)(z:γ Nat):iY n (.str z) (.str z)=AC Da:=by
 have:iY n (.str z) (.str z)=AC (z==z):=by cases n<;>rfl
 rw[this,A91]
theorem qa:∀ds,(∀d∈ds,f d d=AC Da)->allEq f ds ds=AC Da
|[],_=>rfl
|d::ds,h=>by simp only[allEq,h d A08,qa ds λ z hz=>h z<|A07 _ hz];rfl
theorem yo(n:Nat)(p:Pl):iY (n+1) (aN p) (aN p)=AC Da:=qa _ λ d hd=>by
 rcases A01.mp hd with rfl|hd
 .exact Rf _ _
 .rw[A15.mp hd];exact Rf _ _
theorem eqG(h:fG g):iY 5 (aD g) (aD g)=AC Da:=by
 let⟨wt,ws,_,e1,e2⟩:=h._6;refine qa _ λ d hd=>?_;simp only[A01,A40,A46]at hd;rcases hd with rfl|rfl|rfl|rfl|rfl|rfl|rfl|rfl
 .exact Ku _ _
 .exact Rf _ _
 .exact Rf _ _
 .exact Ku _ _
 .exact Rf _ _
 .exact Rf _ _
 .rw[e1];exact Rf _ _
 .rw[e2];refine qa _ λ d hd=>?_;let⟨p,_,rfl⟩:=v6.mp hd;exact yo _ p
theorem nc(h:jS d d=AC Da):oEq d d=.ok (.bl Da)/\jF d d=.ok (.bl AT):=⟨by unfold oEq;rw[h],by unfold jF;rw[h];rfl⟩
theorem GH(p:Pl):oEq (aN p) (aN p)=.ok (.bl Da)/\jF (aN p) (aN p)=.ok (.bl AT):=nc<|yo 5 p
theorem YR(h:∀x∈xs,fG x.1):jF (av xs) (av xs)=.ok (.bl AT):=by
 have:=qa _ λ d hd=>by let⟨y,hy,rfl⟩:=v6.mp hd;exact eqG<|h y hy
 exact(nc (d:=av xs) this).2
theorem YQ(xs:γ GO):jF (ai xs) (ai xs)=.ok (.bl AT):=by
 have:allEq (iY 5) _ (xs.map λ x=>bP x.2)=AC Da:=qa _ λ d hd=>by
  let⟨y,hy,rfl⟩:=v6.mp hd;cases y.2 with
  |none=>rfl
  |some p=>exact yo _ p
 exact(nc (d:=ai xs) this).2
variable{j k x a:Nat}{g:G}
theorem B5(nd:(nms xs).Nodup)(dr:∀x∈xs,Dr x.1)(hk:xs[k]?=AC y):aM [dk x hall (av xs) hl ps,.str y.1.name]=.ok (.int<|k):=by
 let⟨h1,h2⟩:=A03.mp hk;have sp:xs=xs.take k++y::xs.drop (k+1):=by rw[<-h2,C61,C31]
 have rB:(xs.take k).length=k:=by rw[A30];lia
 have e:av xs=.tup ((xs.take k).map (λ x=>aD x.1)++aD y.1::(xs.drop<|k+1).map λ x=>aD x.1):=by rw[<-v4 (f:=λ x=>aD x.1) (a:=y),<-A23,<-sp];rfl
 rw[e];have r:=S5 (x:=x) (hall:=hall) (hl:=hl) (ps:=ps) (dr y<|A18 hk).2.2 (by
  rw[<-v4,<-A23,<-sp];exact tD xs) (λ d hd=>by
  let⟨q,hq,rfl⟩:=v6.mp hd;intro eq;rw[sp]at nd;simp only[A23]at nd;exact(B71.mp nd).2.2 q.1.name (v6.mpr ⟨q,hq,rfl⟩) y.1.name A08 eq) rfl
 rw[A04,rB]at r;exact r
theorem JW(hk:m[k]?=AC z):aZ (ai m) (.int<|k)=.ok (bP z.2):=by
 have e:(m.map λ x=>bP x.2)[k]?=AC (bP z.2):=by rw[A06,hk];rfl
 exact(gm rfl e).1
theorem M4(s:iS rows C xs m)(hk:xs[k]?=AC y):∃p,m[k]?=AC (y.1,AC p):=by
 let⟨o',e,_⟩:=s.best.ext.at hk;cases o' with
 |none=>exact(s.best.full k y.1 e).elim
 |some p=>exact⟨p,e⟩
theorem NS(h:g.name∈nms xs):∃(k:Nat)(y:GO),xs[k]?=AC y/\y.1.name=g.name:=by let⟨y,hy,e⟩:=v6.mp h;let⟨k,hk⟩:=A73 hy;exact⟨k,y,hk,e⟩
theorem xY(s:iS rows C xs m):(xs.map λ x=>aD x.1).length<=6:=by rw[A04];exact s.six
theorem oX:∀{xs}{k}{y},(nms xs).Nodup->xs[k]?=AC y->(xs.map λ x=>aD x.1).filter (λ d=>!decide (cS d=y.1.name))=(xs.eraseIdx k).map λ x=>aD x.1
|[],_,_,_,h=>by cases h
|q::r,0,y,nd,h=>by have:=A05 h;subst this;have lU:=A14.mp nd;rw[v4,A84 (by simp[xQ])];refine A83.mpr λ d hd=>?_;let⟨z,hz,rfl⟩:=v6.mp hd;have:z.1.name≠q.1.name:=λ e=>lU.1<|v6.mpr ⟨z,hz,e⟩;simp[xQ,this]
|q::r,k+1,y,nd,h=>by have lU:=A14.mp nd;have h':=h;have:q.1.name≠y.1.name:=λ e=>lU.1<|v6.mpr ⟨y,A18 h',e.symm⟩;rw[v4,B17 (by simp[xQ,this]),oX lU.2 h'];rfl
theorem Bh(h:k<xs.length)(h6:xs.length<=6):dA [av xs,.int (k)]=.ok (av<|xs.eraseIdx k):=by have e:=sd (ds:=xs.map λ x=>aD x.1) (by rw[A04];exact h) (by rw[A04];lia);unfold av;rw[KB.ni];exact e
theorem Bg(h:k<xs.length)(h6:xs.length<=6):dA [ai xs,.int (k)]=.ok (ai<|xs.eraseIdx k):=by have e:=sd (ds:=xs.map λ x=>bP x.2) (by rw[A04];exact h) (by rw[A04];lia);unfold ai;rw[KB.ni];exact e
end gj
namespace gj
open Z
open KG (G GO Pl Rows Hall fG GOk aD aN bP aS places bH)
open KH (av ai Good)
open KB (a! du bQ iS ju Ext Full yJ yL S4 gy wS y7 bM)
variable{rows:Rows}{C:Nat}{xs z all:γ GO}{g:G}{p:Pl}{hall dct:D}{x3 x5 x8:ε L}
abbrev eF(z:γ GO):D:=.tup [ai z,.int (wS z)]
abbrev nrT:TF:=fL<|tE<|aj KH.fW<|ag (eY 1 0)<|ag (eY 2 0)<|aV 3<|aV 4 ah
abbrev _c:LF:=bf (dR<|eU cm<|eW 7) 1 [1,7,4,9] (aG 0) nrT<|eV 0
noncomputable abbrev bE(hall:D)(all:γ GO)(dct:D)(x3 x4 x5 x6 x7 x8 x9 x10 x11:ε L):Env:=[v hall,v (av all),AC (.bor dct),x3,x4,x5,x6,x7,x8,x9,x10,x11]
def Pre(all z:γ GO):Prop:=Full z/\∀(i:Nat)(x:GO),z[i]?=AC x->∃o,all[i]?=AC (x.1,o)
noncomputable def z0(z:γ GO)(g:G)(p:Pl)(k:Nat):Bool:=match z[k]? with
|some (h,AC q)=>!bH h q g p
|_=>AT
theorem NR(h:Pre all z)(h6:z.length<=6){x6 x10 x11:ε L}:Ok (_c<|bE hall all dct x3 (v<|aD g) x5 x6 (v<|ai z) x8 (v<|aN p) x10 x11) λ l=>l.isEmpty=yL z g p:=by
 have q0:z.length<=16777216:=by lia
 have e7:cm (ai z)=.ok (.int (z.length:Nat)):=by simp[ai]
 simp[aQ,KG.dC,KG.cD,KG.EZ,line,e7,q0,KG.ints_map];refine bz (λ k:Nat=>.int (k:Nat)) (z0 z g p) (λ k=>.int (k:Nat)) (xs:=FB z.length) (λ k hk=>?_) ?_
 .have hk:=A24.mp hk;obtain⟨⟨a,o⟩,ek⟩:∃x,z[k]?=AC x:=⟨_,A00 hk⟩
  cases o with
  |none=>exact(h.1 k a ek).elim
  |some q=>let⟨o,ea⟩:=h.2 k _ ek;have i1:aZ (av all) (.int (k:Nat))=.ok (aD a):=(gm (j:=k) rfl (by rw[A06,ea];rfl)).1;have i2:aZ (ai z) (.int (k:Nat))=.ok (aN q):=(gm (j:=k) rfl (by rw[A06,ek];rfl)).1;have ap:=KH.rq a q g p;simp[i1,i2,ap,z0,ek]
 .rw[A51];simp only[AB5,List.map_eq_nil_iff,C60,A24];constructor
  .intro hn;refine A31.mpr λ a ha=>?_;let⟨k,hk⟩:=A73 ha;have:=hn k (A03.mp hk).1;let⟨b,o⟩:=a;cases o with
   |none=>rfl
   |some q=>simpa[z0,hk]using this
  .intro ho k hk;obtain⟨⟨a,o⟩,ek⟩:∃x,z[k]?=AC x:=⟨_,A00 hk⟩
   cases o with
   |none=>simp[z0,ek]
   |some q=>simp[z0,ek,KB.B3 ho ek]
abbrev plB:SF:=aB (aK 10<|eL _c)<|dH (tE<|eB oEq (eW 10)<|eL<|bu ah) (cC 6<|cq<|ag (eB aL (eW 7)<|cq<|aV 9 ah)<|ag (eB aL (eW 8)<|aj KB.dF<|aV 4<|aX 9 0 ah) ah) aJ
theorem O6(z:γ GO)(g:G)(p:Pl):eF (z++[(g,AC p)])=.tup [.tup ((z.map λ x=>bP x.2)++[aN p]),.int (wS z+y7 g p.1)]:=by rw[eF,KB.Mr];simp[ai,bP]
theorem xF(h:Pre all z)(h6:z.length<=6)(kg:fG g){x11:ε L}:∀(ps:γ Pl)(acc:γ D)(x9 x10:ε L),acc.length+ps.length<=3000->Ok (cb (aG 9) plB (ps.map aN)<|bE hall all dct x3 (v<|aD g) x5 (ow acc) (v<|ai z) (v<|.int<|wS z) x9 x10 x11) λ fl=>∃HJ r?,fl=.nx (bE hall all dct x3 (v<|aD g) x5 (ow<|acc++((ps.filter<|yL z g).map λ p=>eF<|z++[(g,AC p)])) (v<|ai z) (v<|.int<|wS z) HJ r? x11)
|[],acc,x9,x10,_=>⟨_,rfl,x9,x10,by simp⟩
|p::ps,acc,x9,x10,hl=>by
 rw[A27]at hl;let⟨l,el,hn⟩:=NR (hall:=hall) (dct:=dct) (x3:=x3) (x5:=x5) (x8:=v (.int<|wS z)) (g:=g) (p:=p) h h6 (x6:=ow acc) (x10:=x10) (x11:=x11);have eN:=KN.Rc l;have w1:=KB.Ga kg p.1;have i0:aZ (aN p) (.int 0)=.ok (.int p.1):=rfl;have ad:aL (ai z) (.tup [aN p])=.ok (.tup<|(z.map λ x=>bP x.2)++[aN p]):=by
  have:z.length+1<=16777216:=by lia
  simp[ai,line,this]
 have q1:acc.length<16777216:=by lia
 cases c:yL z g p with
 |true=>
  rw[hn,c]at eN;let⟨fl,e,HJ,r?,rfl⟩:=xF h h6 kg (x11:=x11) ps (acc++[eF (z++[(g,AC p)])]) (v<|aN p) (v<|.lst l) (by simp;lia);refine⟨_,?_,HJ,r?,rfl⟩;have e2:acc++(((p::ps).filter<|yL z g).map λ p=>eF<|z++[(g,AC p)])=(acc++[eF (z++[(g,AC p)])])++((ps.filter<|yL z g).map λ p=>eF<|z++[(g,AC p)]):=by rw[B17 c,v4,A70];rfl
  rw[e2,<-e,O6];simp only[_c]at el;simp[cb,el,eN,w1,i0,ad,q1,line]
 |false=>rw[hn,c]at eN;let⟨fl,e,HJ,r?,rfl⟩:=xF h h6 kg (x11:=x11) ps acc (v<|aN p) (v<|.lst l) ∅;refine⟨_,?_,HJ,r?,rfl⟩;rw[A84 (by simp[c]),<-e];simp only[_c]at el;simp[cb,el,eN,line]
abbrev stB:SF:=gg (cZ<|eV 5) (aG 9) plB
theorem Dp(kg:fG g)(ps:γ Pl){x11:ε L}:∀(M:γ (γ GO))(acc:γ D)(x7 x8 x9 x10:ε L),(∀z∈M,Pre all z/\z.length<=6)->acc.length+M.length*ps.length<=3000->Ok (cb (dE [7,8]) stB (M.map eF)<|bE hall all dct x3 (v<|aD g) (v<|.lst<|ps.map aN) (ow acc) x7 x8 x9 x10 x11) λ fl=>∃Hn Hm HJ r?,fl=.nx (bE hall all dct x3 (v<|aD g) (v<|.lst<|ps.map aN) (ow<|acc++(M.flatMap λ z=>(ps.filter<|yL z g).map λ p=>z++[(g,AC p)]).map eF) Hn Hm HJ r? x11)
|[],acc,x7,x8,x9,x10,_,_=>⟨_,rfl,x7,x8,x9,x10,by simp⟩
|z::M,acc,x7,x8,x9,x10,hz,hl=>by
 rw[A27,Nat.add_mul,Nat.one_mul]at hl;let⟨h1,h2⟩:=hz z A08;let⟨fl,e,HJ,r?,rfl⟩:=xF (hall:=hall) (dct:=dct) (x3:=x3) (x5:=v (.lst<|ps.map aN)) h1 h2 kg (x11:=x11) ps acc x9 x10 ∅;have hf:=A50 (yL z g) ps;let⟨fl,e',Hn,Hm,RD,HK,rfl⟩:=Dp kg ps (x11:=x11) M (acc++((ps.filter<|yL z g).map λ p=>eF<|z++[(g,AC p)])) (v<|ai z) (v<|.int<|wS z) HJ r? (λ y hy=>hz y<|A07 _ hy) (by simp;lia);refine⟨_,?_,Hn,Hm,RD,HK,rfl⟩;have e2:acc++((z::M).flatMap λ z=>(ps.filter<|yL z g).map λ p=>z++[(g,AC p)]).map eF=(acc++((ps.filter<|yL z g).map λ p=>eF<|z++[(g,AC p)]))++(M.flatMap λ z=>(ps.filter<|yL z g).map λ p=>z++[(g,AC p)]).map eF:=by rw[AA0,A23,A16,A70];rfl
 have gX:∀ρ:Env,dE [7,8] (eF z) ρ=.ok ((ρ.set 7<|v<|ai z).set 8<|v<|.int<|wS z):=λ ρ=>rfl;rw[e2,<-e'];simp only[bE]at e;simp[cb,gX,e]
theorem Kg{ys:γ GO}(h:Good rows (xs++ys)):Good rows xs:=by
 have up:∀{i:Nat}{x:GO},xs[i]?=AC x->(xs++ys)[i]?=AC x:=λ {i x} e=>by rw[A21 (A03.mp e).1];exact e
 intro i g p e;let⟨h1,h2⟩:=h i g p (up e);exact⟨h1,λ j g' q ej ne=>h2 j g' q (up ej) ne⟩
theorem N9{pre ys:γ GO}(hk:Good rows (pre++ys))(h6:(pre++ys).length<=6):∀z∈gy rows C pre,Pre (pre++ys) z/\z.length<=6:=λ z hz=>by
 let⟨e1,_,e3⟩:=KB.Cc (Kg hk) z hz;rw[A28]at h6;have hl:=e1.len;refine⟨⟨e3,λ i x ei=>?_⟩,by lia⟩;have hi:=(A03.mp ei).1;obtain⟨y,ey⟩:∃y,pre[i]?=AC y:=⟨_,A00 ∅⟩
 have:=A12 (λ l=>l[i]?) e1.gs;simp only[A06,ei,ey,A62,A98]at this;exact⟨y.2,by rw[A21 ∅,ey,<-this]⟩
theorem DH(x:GO):(yJ rows C x).length<=du rows C x:=by
 unfold yJ du;cases x.2 with
 |none=>exact A59 _
 |some p=>exact M2 _
theorem sj(pre:γ GO)(x:GO):a! rows C (pre++[x])=a! rows C pre*du rows C x:=by simp[a!,KB.fN,bQ]
theorem JP(pre:γ GO):(gy rows C pre).length<=a! rows C pre:=by
 induction pre using KB.i_ with
 |h0=>exact M2 _
 |h1 pre x ih=>rw[KB.jH,sj];refine A11 (KB.oW (m:=du rows C x) λ z hz=>?_)<|B02 _ ih;rw[A04];exact A11 (A50 _ _)<|DH x
abbrev grB:SF:=aB (aK 5<|aj bY<|aV 0<|aV 4 ah)<|aB (dH (tE<|eB (tq Da) (eX 4 0)<|eM 1 2) (aK 5<|eL<|bu<|ag (eB F1 (eM 1 2)<|eX 4 0) ah) aJ)<|aB (mm 6<|bu ah)<|aB (gg (cZ<|eV 3) (dE [7,8]) stB)<|pQ 6<|aK 3<|eV 6
theorem Oo(a:Nat){kv:c8}{c:γ Nat}{d:D}(h:kv.lookup c=AC d):F1 (dd a kv) (.str c)=.ok d:=by refine (guard_pos rfl).trans ?_;rw[rV,h]
theorem EC(H:Hall rows C){a:Nat}{kv:c8}{x11:ε L}:∀(ys pre:γ GO)(x4 x5 x6 x7 x8 x9 x10:ε L),all=pre++ys->all.length<=6->Good rows all->(∀x∈all,fG x.1)->(∀x∈all,kv.lookup x.1.name=x.2.map aN)->a! rows C all<=2000->Ok (cb (aG 4) grB (ys.map λ x=>aD x.1)<|bE (aS rows) all (dd a kv) (v<|.lst<|(gy rows C pre).map eF) x4 x5 x6 x7 x8 x9 x10 x11) λ fl=>∃x4 x5 x6 x7 x8 x9 x10,fl=.nx (bE (aS rows) all (dd a kv) (v<|.lst<|(gy rows C all).map eF) x4 x5 x6 x7 x8 x9 x10 x11)
|[],pre,x4,x5,x6,x7,x8,x9,x10,e,_,_,_,_,_=>by rw[A48]at e;subst e;exact⟨_,rfl,x4,x5,x6,x7,x8,x9,x10,rfl⟩
|y::ys,pre,x4,x5,x6,x7,x8,x9,x10,e,h6,hk,hg,hh,hw=>by
 have my:y∈all:=by rw[e];simp
 have pl:=vP H (hg y my).toGOk;have ei:=J5 Da a kv y.1.name;rw[hh y my]at ei;have hl:(gy rows C pre).length*(yJ rows C y).length<=2000:=by
  have h1:=A57 (JP (rows:=rows) (C:=C) pre)<|DH (rows:=rows) (C:=C) y;have h2:a! rows C all=a! rows C pre*du rows C y*a! rows C ys:=by rw[e,<-List.singleton_append,<-A70,a!,A23,KB.fN,<-sj];rfl
  have h3:=KB.yZ (rows:=rows) (C:=C) ys;have h4:a! rows C pre*du rows C y<=a! rows C all:=by rw[h2];exact C52 _ h3
  lia
 have hp:∀z∈gy rows C pre,Pre all z/\z.length<=6:=by rw[e]at hk h6 ⊢;exact N9 hk h6
 have nx:S4 rows C (gy rows C pre) y=gy rows C (pre++[y]):=(KB.jH _ _).symm;let⟨fl,e1,Hn,Hm,HJ,r?,rfl⟩:=Dp (hall:=aS rows) (dct:=dd a kv) (x3:=v (.lst<|(gy rows C pre).map eF)) (hg y my) (yJ rows C y) (x11:=x11) (gy rows C pre) [] x7 x8 x9 x10 hp (by simp;lia);let⟨fl,e2,x4',x5',x6',_5,_4,RD,HK,rfl⟩:=EC H (a:=a) (kv:=kv) (x11:=x11) ys (pre++[y]) (v<|aD y.1) (v<|.lst<|(yJ rows C y).map aN) (v<|.lst<|(gy rows C<|pre++[y]).map eF) Hn Hm HJ r? (by rw[e];simp) h6 hk hg hh hw;refine⟨_,?_,x4',x5',x6',_5,_4,RD,HK,rfl⟩;rw[<-e2];rw[B51]at e1;simp only[bE]at e1 ⊢;have nx:((gy rows C pre).flatMap λ z=>((yJ rows C y).filter<|yL z y.1).map λ p=>z++[(y.1,AC p)])=gy rows C (pre++[y]):=nx;rw[nx]at e1;cases c:y.2 with
 |none=>
  rw[c]at ei;have ep:yJ rows C y=places rows C y.1:=by simp[yJ,c]
  rw[ep]at e1 ⊢;simp[cb,eM,p9,ei,pl,line,e1,jI]
 |some p=>
  rw[c]at ei;have ep:yJ rows C y=[p]:=by simp[yJ,c]
  rw[ep]at e1 ⊢;have ix:=Oo a (kv:=kv) (c:=y.1.name) (d:=aN p) (by rw[hh y my,c];rfl);simp only[v4,A35]at e1 ⊢;simp[cb,eM,p9,ei,pl,ix,line,e1,jI]
end gj
namespace gj
open Z
open KG (G GO Pl Rows Hall fG GOk aD aN bP aS places bH)
open KH (av ai Good)
open KB (a! du bQ iS ju Ext Full yJ yL S4 gy wS y7 bM)
variable{rows:Rows}{C:Nat}{xs m all:γ GO}{hall dct:D}{x3 x4 x5 x6 x9 x10:ε L}
abbrev bsB:SF:=dH (vG (tE<|eU fO<|eW 11)<|tE<|eB D5 (eW 8)<|eX 11 1) (aK 11<|cq<|aV 7<|aV 8 ah) aJ
theorem yB:∀(r:γ (γ GO))(b:γ GO)(x7 x8:ε L),∃Hn Hm,cb (dE [7,8]) bsB (r.map eF) (bE hall all dct x3 x4 x5 x6 x7 x8 x9 x10<|v<|eF b)=.ok (.nx<|bE hall all dct x3 x4 x5 x6 Hn Hm x9 x10<|v<|eF<|bM Da wS b r)
|[],b,x7,x8=>⟨x7,x8,rfl⟩
|y::r,b,x7,x8=>by
 have gX:∀ρ:Env,dE [7,8] (eF y) ρ=.ok ((ρ.set 7<|v<|ai y).set 8<|v<|.int<|wS y):=λ ρ=>rfl;have i1:aZ (eF b) (.int 1)=.ok (.int<|wS b):=rfl;have n1:fO (eF b)=.ok (.bl AT):=rfl;by_cases c:wS b<wS y
 .let⟨Hn,Hm,e⟩:=yB r y (v<|ai y) (v<|.int<|wS y);refine⟨Hn,Hm,?_⟩;rw[show bM Da wS b (y::r)=bM Da wS y r by simp[bM,G?,c],<-e];simp[cb,gX,i1,n1,c,line]
 .let⟨Hn,Hm,e⟩:=yB r b (v<|ai y) (v<|.int<|wS y);refine⟨Hn,Hm,?_⟩;rw[show bM Da wS b (y::r)=bM Da wS b r by simp[bM,G?,c],<-e];simp[cb,gX,i1,n1,c,line]
noncomputable def lB?(rows:Rows)(C:Nat)(xs:γ GO):D:=match gy rows C xs with
|[]=>.non
|b::r=>eF<|bM Da wS b r
theorem qN(H:Hall rows C){a:Nat}{kv:c8}(h6:xs.length<=6)(hg:∀x∈xs,fG x.1)(hk:Good rows xs)(nd:(nms xs).Nodup)(h:LM kv xs)(hw:a! rows C xs<=2000):dm [aS rows,av xs,dd a kv]=.ok (lB? rows C xs):=by
 rw[AJ];refine ay ?_;let⟨fl,e,x4,x5,x6,x7,x8,x9,x10,rfl⟩:=EC (all:=xs) H (a:=a) (kv:=kv) (x11:=Ch) xs [] Ch Ch Ch Ch Ch Ch Ch rfl h6 hk hg (λ x hx=>by rw[h.eq];exact Ct nd x hx) hw;have e0:((gy rows C []).map eF)=[.tup [.tup [],.int 0]]:=rfl;rw[e0]at e;generalize aS rows=hh at *;simp only[bE,av]at e;unfold lB?;cases c:gy rows C xs with
 |nil=>rw[c]at e;simp only[A35]at e;simp[kD,av,e,line,cb,jI]
 |cons b r=>rw[c]at e;let⟨Hn,Hm,e2⟩:=yB (hall:=hh) (all:=xs) (dct:=dd a kv) (x3:=v (.lst<|(b::r).map eF)) (x4:=x4) (x5:=x5) (x6:=x6) (x9:=x9) (x10:=x10) r b (v<|ai b) (v<|.int<|wS b);have gX:∀ρ:Env,dE [7,8] (eF b) ρ=.ok ((ρ.set 7<|v<|ai b).set 8<|v<|.int<|wS b):=λ ρ=>rfl;have n1:fO .non=.ok (.bl Da):=rfl;simp only[bE,av,v4]at e e2;simp[kD,av,e,e2,gX,n1,line,cb,jI]
theorem Ob(H:Hall rows C)(hg:∀x∈xs,GOk x.1)(hk:Good rows xs)(h:KB.cu rows C AT xs xs.length=[]):lB? rows C xs=.non:=by
 unfold lB?;cases c:gy rows C xs with
 |nil=>rfl
 |cons b r=>let⟨e1,e2,e3⟩:=KB.Cc (C:=C) hk b (by rw[c];simp);have:=KB.oQ H hg e1 e2 e3;rw[h]at this;cases this
theorem Em(H:Hall rows C)(hg:∀x∈xs,GOk x.1)(hk:Good rows xs)(h:ju rows C xs m):lB? rows C xs=eF m:=by
 unfold lB?;cases c:gy rows C xs with
 |nil=>have:=KB.Ek H m hg h.ext h.good h.full;rw[c]at this;cases this
 |cons b r=>exact A12 eF<|h.uniq<|KB.Ac H hg hk c
end gj
namespace gj
open Z
abbrev sr:γ Nat:=[102,97,115,116]
abbrev vC:γ Nat:=[97,119,97,121]
abbrev kY:γ Nat:=[119,104,101,114,101]
section
variable{x:Nat}{hall gs hl ps d p t tY rB jB:D}{n w:γ Nat}{m:XN}
theorem IV(hw:w=sr\/w=vC\/w=kY)(hn:n.length<=9):tj (.str<|w++32::n) (.str [32])=.ok (.tup [.str w,.str [32],.str n]):=by
 have h:(w++32::n).length<=16777216:=by rcases hw with rfl|rfl|rfl<;>simp<;>lia
 have e:=KS.Nj (c:=32) (a:=w) (b:=n) (by rcases hw with rfl|rfl|rfl<;>decide);simp only[tj,line,guard_pos h,e]
theorem inW(hw:w=sr\/w=vC\/w=kY):iD (.str w) (.tup [.str [97,115,107],.str [102,97,115,116],.str [97,119,97,121],.str [119,104,101,114,101]])=.ok (.bl AT):=by rcases hw with rfl|rfl|rfl<;>rfl
theorem Ir(hw:w=sr\/w=vC\/w=kY):w++32::n≠[97,108,108]/\w++32::n≠[119,111,114,116,104]:=by rcases hw with rfl|rfl|rfl<;>simp
theorem BO(hw:w=sr\/w=vC\/w=kY)(hn:n.length<=9)(h:dB [dk x hall gs hl ps,.str w,.str n]=.ok (d,[dk x hall tY rB jB])):aP [dk x hall gs hl ps,.str (w++32::n)]=.ok (d,[dk x hall tY rB jB]):=by have e:=IV hw hn;have i:=inW hw;let⟨n1,n2⟩:=Ir (n:=n) hw;generalize w++32::n=r at *;have ty:fT .str (.str r)=Da:=rfl;have i0:aZ (.tup [.str w,.str [32],.str n]) (.int 0)=.ok (.str w):=rfl;have i1:aZ (.tup [.str w,.str [32],.str n]) (.int 1)=.ok (.str [32]):=rfl;have i2:aZ (.tup [.str w,.str [32],.str n]) (.int 2)=.ok (.str n):=rfl;unfold aP;rw[dX _ _ _ _ _ rfl];have s0:startB 3 [Da,AT] [dk x hall gs hl ps,.str r]=[AC (.bor<|dk x hall gs hl ps),v (.str r),Ch]:=rfl;rw[s0];simp[kJ,aU,aE,oB,bB,ty,eqT,n1,n2,e,i,i0,i1,i2,h,eM,bq,iE,lr,line,guard_pos,ir,qy,b7,b?,b8]
theorem Io(hw:w=sr\/w=vC\/w=kY)(hn:n.length<=9):fw [dk x hall gs hl ps,.str (w++32::n)]=fm [dk x hall gs hl ps,.str w,.str n]:=by have e:=IV hw hn;have i:=inW hw;let⟨n1,n2⟩:=Ir (n:=n) hw;generalize w++32::n=r at *;have ty:fT .str (.str r)=Da:=rfl;have i0:aZ (.tup [.str w,.str [32],.str n]) (.int 0)=.ok (.str w):=rfl;have i1:aZ (.tup [.str w,.str [32],.str n]) (.int 1)=.ok (.str [32]):=rfl;have i2:aZ (.tup [.str w,.str [32],.str n]) (.int 2)=.ok (.str n):=rfl;rw[yf];simp[kT,fJ,Hl,nP,eE,eM,ty,eqT,n1,n2,e,i,i0,i1,i2]
theorem uh:startB 3 [Da,AT,AT] [dk x hall gs hl ps,.str w,.str n]=[AC (.bor<|dk x hall gs hl ps),v (.str w),v (.str n)]:=rfl
theorem KY(h:cV [dk x hall gs hl ps,.str n]=.ok p)(hs:bJ [p]=.ok d):dB [dk x hall gs hl ps,.str kY,.str n]=.ok (d,[dk x hall gs hl ps]):=by unfold dB;rw[dX _ _ _ _ _ rfl,uh];simp[mf,aU,aE,fR,qI,cW,eqT,h,hs,eM,bq,iE,lr,guard_pos,ir,b7,b8]
theorem Pd(h:fY [dk x hall gs hl ps,.str n]=.ok (d,[dk x hall tY rB jB])):dB [dk x hall gs hl ps,.str sr,.str n]=.ok (.str [111,107],[dk x hall tY rB jB]):=by unfold dB;rw[dX _ _ _ _ _ rfl,uh];simp[mf,aU,aE,fR,qI,cW,tJ,bB,eqT,h,eM,bq,iE,lr,guard_pos,ir,qy,b7,b?,b8]
theorem Pe(h:fZ [dk x hall gs hl ps,.str n]=.ok (d,[dk x hall tY rB jB])):dB [dk x hall gs hl ps,.str vC,.str n]=.ok (.str [111,107],[dk x hall tY rB jB]):=by unfold dB;rw[dX _ _ _ _ _ rfl,uh];simp[mf,aU,aE,fR,qI,cW,tJ,bB,eqT,h,eM,bq,iE,lr,guard_pos,ir,qy,b7,b?,b8]
theorem C!{r:ε XN}(h:aR [dk x hall gs hl ps,.str n]=r):gM [dk x hall gs hl ps,.str n]=r:=by rw[t!];simp[jl,ZE,eE,eM,cR,fi,cf,h]
theorem CH(h:aR [dk x hall gs hl ps,.str n]=AC m):fm [dk x hall gs hl ps,.str kY,.str n]=AC m:=by rw[lz];simp[iy,fJ,Hl,nP,eE,eM,eqT,C! h]
theorem CI(h:aR [dk x hall gs hl ps,.str n]=Ch)(h1:cV [dk x hall gs hl ps,.str n]=.ok p)(hs:bJ [p]=.ok d):fm [dk x hall gs hl ps,.str kY,.str n]=Ch:=by rw[lz];simp[iy,fJ,Hl,nP,eE,eM,eqT,C! h,h1,hs]
theorem Ut(h:aR [dk x hall gs hl ps,.str n]=Ch)(h1:aM [dk x hall gs hl ps,.str n]=.ok p):fV [dk x hall gs hl ps,.str n]=Ch:=by rw[u!];simp[jT,fJ,nP,eE,eM,h,h1]
theorem GS(h:fV [dk x hall gs hl ps,.str n]=Ch):fm [dk x hall gs hl ps,.str sr,.str n]=Ch:=by rw[lz];simp[iy,fJ,Hl,nP,eE,Dy,eM,eqT,h]
theorem Jk{gl as bs:γ D}{g:D}(e:KS.cB [.str n]=.ok (.bl Da))(h:∀d∈as++g::bs,nQ d)(hm:∀a∈as,cS a≠n)(hg:cS g=n):aR [dk x hall (.tup<|as++g::bs) hl ps,.str n]=Ch:=by rw[iH];have:=D6 h hm hg (dk x hall (.tup<|as++g::bs) hl ps) 0 Ch Ch;rw[A96]at this;simp[dN,fJ,nP,e,eM,cR,fi,cf,Ew,jI,line,this]
theorem jZ{r:γ Nat}:startB 3 [Da,AT] [dk x hall gs hl ps,.str r]=[AC (.bor<|dk x hall gs hl ps),v (.str r),Ch]:=rfl
theorem Eg{r:γ Nat}(hx:fw [dk x hall gs hl ps,.str r]=Ch)(h:aP [dk x hall gs hl ps,.str r]=.ok (d,[dk x hall tY rB jB])):cz [dk x hall gs hl ps,.str r]=.ok (d,[dk x hall tY rB jB]):=by unfold cz;rw[dX _ _ _ _ _ rfl,jZ];simp[qj,aU,aE,z_,tI,bB,eE,hx,h,eM,cf,bq,iE,lr,line,guard_pos,ir,qy,b7,b?,b8]
theorem N5{r:γ Nat}(hx:fw [dk x hall gs hl ps,.str r]=AC (Rm,[])):cz [dk x hall gs hl ps,.str r]=.ok (.str [110,111,32,110,97,109,101],[dk x hall gs hl ps]):=by unfold cz;rw[dX _ _ _ _ _ rfl,jZ];simp[qj,aU,aE,z_,VP,JY,eE,hx,Fk,eM,cf,bq,iE,lr,line,guard_pos,ir,b7,b8]
theorem FE{w t:D}(h:bK [dk x hall gs hl ps]=.ok w)(hs:hJ w=.ok t):aP [dk x hall gs hl ps,.str [119,111,114,116,104]]=.ok (t,[dk x hall gs hl ps]):=by unfold aP;rw[dX _ _ _ _ _ rfl,jZ];have ty:fT .str (.str [119,111,114,116,104])=Da:=rfl;simp[kJ,aU,aE,ty,eqT,h,hs,eM,bq,iE,lr,line,guard_pos,ir,b7,b8]
theorem M5{t:D}(h:cx [dk x hall gs hl ps]=.ok t):aP [dk x hall gs hl ps,.str [97,108,108]]=.ok (t,[dk x hall gs hl ps]):=by unfold aP;rw[dX _ _ _ _ _ rfl,jZ];have ty:fT .str (.str [97,108,108])=Da:=rfl;simp[kJ,aU,aE,ty,eqT,h,eM,bq,iE,lr,line,guard_pos,ir,b7,b8]
end
end gj
namespace gj
open Z
theorem EK(n t:γ Nat):eqB (.str n) (.str t)=decide (t=n):=by have:jS (.str t) (.str n)=AC _:=rfl;unfold eqB;rw[this];exact A51.mpr ∅
theorem EV(n:γ Nat):∀ns:γ _,(mQ (.str n)<|ns.map .str).isSome=Da
|[]=>rfl
|t::ns=>by have e:jS (.str t) (.str n)=AC _:=rfl;let⟨k,hk⟩:=A68.mp (EV n ns);rw[v4,mQ,e,hk];rfl
theorem Ay(n:γ Nat):∀{ns:γ _}{k},ns.Nodup->ns[k]?=AC n->(ns.map D.str).findIdx (eqB<|.str n)=k
|[],_,_,h=>by cases h
|t::ns,0,nd,h=>by
 have:t=n:=by simpa using h
 rw[v4,zn,EK,this];simp
|t::ns,k+1,nd,h=>by
 have lU:=A14.mp nd;have h':ns[k]?=AC n:=by simpa using h
 have ne:¬t=n:=λ e=>lU.1<|e▸A18 h';rw[v4,zn,EK,Ay n lU.2 h'];simp[ne]
theorem J3{ns:γ _}(nd:ns.Nodup)(hk:ns[k]?=AC n):xM (.lst<|ns.map .str) (.str n)=.ok (.int (k:Nat)):=by
 have e:=Ay n nd hk;have hl:=(A03.mp hk).1;have h1:(ns.map D.str).findIdx (eqB<|.str n)<(ns.map D.str).length:=by rw[e,A04];exact hl
 refine(guard_pos ⟨EV n ns,h1⟩).trans ?_;rw[e]
section
variable{x a:Nat}{hall hs ps we jB g d p t lb:D}{gs gl:γ D}{kv:c8}{w w':Int}{tY:D}{n:γ Nat}
theorem Rq{gs hs:γ D}{r:ε XN}(hg:KS.cP [g]=.ok (.bl Da))(e0:nQ g)(hn:∀g∈gs,nQ g)(hm:∀y∈gs,cS y≠cS g)(h5:gs.length<=5)(h5':hs.length<=5)(hb:KB.bj [hall,.tup (gs++[g]),.tup (hs++[.non])]=.ok jB)
 (hr:(fO jB=.ok (.bl AT)/\r=Ch)\/∃pp,jB=.non/\KC.g0 [hall,.tup (gs++[g]),.tup (hs++[.non])]=.ok pp/\r=AC (Rn,[([112,97,112,101,114],pp)])):dS [dk x hall (.tup gs) (.tup hs) ps,g]=r:=by
 have GK:aZ g (.int 0)=.ok (.str<|cS g):=e0;have oN:=E3 hg e0 hn hm;have cg:=λ ρ hρ=>jG hn ρ hρ;have q0:gs.length<=16777216:=by lia
 have q1:gs.length<=16777215:=by lia
 have q2:hs.length<=16777215:=by lia
 have q3:decide (6<(gs.length:Int)+1)=AT:=A32 ∅;rw[yg];rcases hr with⟨hp,rfl⟩|⟨pp,rfl,hpp,rfl⟩
 .simp[i!,fJ,Hl,nP,nR,hg,GK,oN,hb,hp,aQ,c!,cg,q0,q1,q2,q3,eM,cR,fi,cf,line,guard_pos]
 .have hp:fO .non=.ok (.bl Da):=rfl;simp[i!,fJ,Hl,nP,nR,hg,GK,oN,hb,hp,hpp,aQ,c!,cg,q0,q1,q2,q3,eM,cR,fi,cf,line,guard_pos]
abbrev gJ(gs ps:D)(w:Int):D:=.tup [gs,ps,.int w]
theorem jU(i j k:Nat)(gs ps:D)(w:Int)(ρ:Env):t8 [i,j,k] (gJ gs ps w) ρ=.ok (((ρ.set i<|v gs).set j<|v ps).set k<|v<|.int w):=rfl
theorem qm:startB 11 [Da,AT,AT,Da,AT] [dk x hall (.tup gs) hs ps,hall,gJ (.tup gs) ps w,dd a kv,g]=[AC (.bor<|dk x hall (.tup gs) hs ps),v hall,v (gJ (.tup gs) ps w),AC (.bor<|dd a kv),v g,Ch,Ch,Ch,Ch,Ch,Ch]:=rfl
theorem Lx(hl:gs.length<=6)(hw:dW [hall,.tup (gs++[g]),dd a kv]=.ok (.int w'))(h:120<w'):cU [dk x hall (.tup gs) hs ps,hall,gJ (.tup gs) ps w,dd a kv,g]=.ok (gJ (.tup gs) ps w,[dk x hall (.tup gs) hs ps,dd a kv]):=by
 unfold cU;rw[dX _ _ _ _ _ rfl,qm];have q1:gs.length<=16777215:=by lia
 have q2:decide (120<w')=Da:=A39 h;have gX:=jU 5 6 7 (.tup gs) ps w;simp[l_,aU,aE,hw,q1,q2,gX,eM,bq,iE,lr,line,guard_pos,ir,b7,b8]
theorem Ly(hl:gs.length<=6)(hw:dW [hall,.tup (gs++[g]),dd a kv]=.ok (.int w'))(h:w'<=120)(hb:dm [hall,.tup (gs++[g]),dd a kv]=.ok .non)(hk:cO [dk x hall (.tup gs) hs ps,g]=.ok (.str [102,117,108,108],[dk x hall (.tup gs) hs ps])):cU [dk x hall (.tup gs) hs ps,hall,gJ (.tup gs) ps w,dd a kv,g]=.ok (gJ (.tup gs) ps w,[dk x hall (.tup gs) hs ps,dd a kv]):=by
 unfold cU;rw[dX _ _ _ _ _ rfl,qm];have q1:gs.length<=16777215:=by lia
 have q2:decide (120<w')=AT:=A32 ∅;have n1:fO .non=.ok (.bl Da):=rfl;have gX:=jU 5 6 7 (.tup gs) ps w;have ix:aZ (.lst [.non,gJ (.tup gs) ps w]) (.int 1)=.ok (gJ (.tup gs) ps w):=rfl;simp[l_,aU,aE,tI,bB,hw,hb,hk,n1,q1,q2,gX,ix,eqT,eM,bq,iE,lr,line,guard_pos,ir,qy,b7,b?,b8]
theorem U_(hl:gs.length<=6)(hw:dW [hall,.tup (gs++[g]),dd a kv]=.ok (.int w'))(h:w'<=120){wb:Int}(hb:dm [hall,.tup (gs++[g]),dd a kv]=.ok (.tup [jB,.int wb]))(hd:aZ jB (.int<|-1)=.ok d)(he:jF d d=.ok (.bl AT))(hk:cO [dk x hall (.tup gs) hs ps,g]=.ok (d,[dk x hall tY we jB])):cU [dk x hall (.tup gs) hs ps,hall,gJ (.tup gs) ps w,dd a kv,g]=.ok (gJ (.tup<|gs++[g]) jB wb,[dk x hall tY we jB,dd a kv]):=by
 unfold cU;rw[dX _ _ _ _ _ rfl,qm];have q1:gs.length<=16777215:=by lia
 have q2:decide (120<w')=AT:=A32 ∅;have n1:fO (.tup [jB,.int wb])=.ok (.bl AT):=rfl;have gX:=jU 5 6 7 (.tup gs) ps w;have i0:aZ (.tup [jB,.int wb]) (.int 0)=.ok jB:=rfl;have i1:aZ (.tup [jB,.int wb]) (.int 1)=.ok (.int wb):=rfl;simp[l_,aU,aE,tI,bB,hw,hb,hk,n1,hd,he,q1,q2,gX,i0,i1,eM,bq,iE,lr,line,guard_pos,ir,qy,b7,b?,b8]
theorem N8(hn:∀y∈gl,nQ y)(ρ:Env)(h2:ρ.length=2)(hρ:ρ[1]?=AC (v<|.str n)):bC (aG 0) (tE<|eB jF (eX 0 0)<|eW 1) (eV 0) ρ gl=.ok (gl.filter λ y=>!decide (cS y=n)):=by
 have:Ok (bC (aG 0) (tE<|eB jF (eX 0 0)<|eW 1) (eV 0) ρ gl) λ ds=>ds=gl.filter λ y=>!decide (cS y=n):=by
  cases ρ with|nil=>cases h2|cons p t=>
  cases t with|nil=>cases h2|cons q t=>
   obtain rfl:=A80 (show t.length=0 by simpa using h2);have:q=v (.str n):=A05 hρ;subst this;refine EU (λ y=>!decide (cS y=n)) (λ y=>y) (λ y hy=>?_) (by rw[List.map_id']);have:=hn y hy;unfold nQ at this;have ne:jF (.str<|cS y) (.str n)=.ok (.bl<|!decide (cS y=n)):=by have q:jS (.str<|cS y) (.str n)=AC (cS y==n):=rfl;unfold jF;rw[q];simp only[Res.ok.injEq,D.bl.injEq];exact A51.mpr ∅
   simp[this,ne]
 exact this.eq
theorem qM:startB 10 [Da,AT,AT,Da,AT] [dk x hall (.tup gl) hs ps,hall,gJ (.tup gl) ps w,dd a kv,.str n]=[AC (.bor<|dk x hall (.tup gl) hs ps),v hall,v (gJ (.tup gl) ps w),AC (.bor<|dd a kv),v (.str n),Ch,Ch,Ch,Ch,Ch]:=rfl
theorem JM(hl:gl.length<=6)(hn:∀y∈gl,nQ y)(h9:n.length<=9)(OG:(kv.map (·.1)).Nodup)(hf:aP [dk x hall (.tup gl) hs ps,.str (97::119::97::121::32::n)]=.ok (.str [111,107],[dk x hall tY we jB])){wb:Int}(hb:dm [hall,.tup (gl.filter λ y=>!decide (cS y=n)),dd a (a7 n kv)]=.ok (.tup [jB,.int wb])):eu [dk x hall (.tup gl) hs ps,hall,gJ (.tup gl) ps w,dd a kv,.str n]=.ok (gJ (.tup<|gl.filter λ y=>!decide (cS y=n)) jB wb,[dk x hall tY we jB,dd a (a7 n kv)]):=by
 have lg:=λ ρ h2 hρ=>N8 (n:=n) hn ρ h2 hρ;have q0:gl.length<=16777216:=by lia
 have q1:(gl.filter λ y=>!decide (cS y=n)).length<=16777216:=A11 (A50 _ _) q0;have q5:5+n.length<=16777216:=by lia
 have ei:=J5 Da a kv n;have gX:=jU 5 6 7 (.tup gl) ps w;have i0:aZ (.tup [jB,.int wb]) (.int 0)=.ok jB:=rfl;have i1:aZ (.tup [jB,.int wb]) (.int 1)=.ok (.int wb):=rfl;have ne:jF (.str [111,107]) (.str [111,107])=.ok (.bl AT):=rfl;generalize (gl.filter λ y=>!decide (cS y=n))=ll at *;cases e:kv.lookup n with
 |none=>rw[e]at ei;rw[uf e]at hb ⊢;unfold eu;rw[dX _ _ _ _ _ rfl,qM];simp[lJ,aU,aE,fR,qI,yM,mB,cW,bB,mP,gX,i0,i1,ne,aQ,c!,o_,lg,q0,q1,q5,hf,hb,ei,eM,bq,iE,lr,line,guard_pos,ir,qy,b7,b?,b8]
 |some p=>rw[e]at ei;have pp:=Sa (a:=a) OG e;unfold eu;rw[dX _ _ _ _ _ rfl,qM];simp[lJ,aU,aE,fR,qI,yM,mB,cW,tJ,To,bB,mP,gX,i0,i1,ne,aQ,c!,o_,lg,q0,q1,q5,hf,hb,ei,pp,eM,bq,iE,lr,line,guard_pos,ir,qy,b7,b?,b8]
end
section
variable{x a k:Nat}{hall hs ps we jB g d p r:D}{gl:γ D}{kv Cg:c8}{w c:Int}{tY:D}{s1 s2:γ Nat}
theorem kj:startB 11 [Da,AT,AT,Da,AT,AT] [dk x hall (.tup gl) hs ps,hall,gJ (.tup gl) ps w,dd a kv,g,.int c]=[AC (.bor<|dk x hall (.tup gl) hs ps),v hall,v (gJ (.tup gl) ps w),AC (.bor<|dd a kv),v g,v (.int c),Ch,Ch,Ch,Ch,Ch]:=rfl
theorem K9(hl:gl.length<=6)(hn:∀y∈gl,nQ y)(e0:nQ g)(hm:∀y∈gl,cS y≠cS g)(h9:(cS g).length<=9)(L!:cz [dk x hall (.tup gl) hs ps,.str (119::104::101::114::101::32::cS g)]=.ok (.str [110,111,32,110,97,109,101],[dk x hall (.tup gl) hs ps]))(hr:cU [dk x hall (.tup gl) hs ps,hall,gJ (.tup gl) ps w,dd a kv,g]=.ok (r,[dk x hall tY we jB,dd a Cg])):bF [dk x hall (.tup gl) hs ps,hall,gJ (.tup gl) ps w,dd a kv,g,.int c]=.ok (r,[dk x hall tY we jB,dd a Cg]):=by
 have GK:aZ g (.int 0)=.ok (.str<|cS g):=e0;have oN:=(tR (cS g)<|gl.map cS).2;rw[A16]at oN;have hni:cS g∉gl.map cS:=λ h=>by let⟨y,hy,e⟩:=v6.mp h;exact hm y hy e
 rw[A32 hni]at oN;have oN:iD (.str<|cS g) (.lst<|gl.map λ g=>.str<|cS g)=.ok (.bl Da):=oN;have cg:=λ ρ hρ=>jG hn ρ hρ;have q0:gl.length<=16777216:=by lia
 have q5:6+(cS g).length<=16777216:=by lia
 have gX:=jU 6 7 8 (.tup gl) ps w;have ne:jF (.str [110,111,32,110,97,109,101]) (.str [110,111,32,110,97,109,101])=.ok (.bl AT):=rfl;unfold bF;rw[dX _ _ _ _ _ rfl,kj];by_cases hc:c % 2=1
 .simp[gE,aU,aE,fR,qI,kM,yM,mB,cW,oB,bB,mP,hc,L!,hr,gX,ne,GK,aQ,c!,cg,q0,q5,oN,eM,bq,iE,lr,line,guard_pos,ir,qy,b7,b?,b8]
 .simp[gE,aU,aE,fR,qI,kM,yM,mB,cW,oB,bB,mP,hc,L!,hr,gX,ne,GK,aQ,c!,cg,q0,q5,oN,eM,bq,iE,lr,line,guard_pos,ir,qy,b7,b?,b8]
theorem there{n:γ Nat}(hn:∀y∈gl,nQ y)(nd:(gl.map cS).Nodup)(hk:(gl.map cS)[k]?=AC n):iD (.str n) (.lst<|gl.map λ g=>.str<|cS g)=.ok (.bl AT)/\xM (.lst<|gl.map λ g=>.str<|cS g) (.str n)=.ok (.int (k:Nat)):=by
 refine⟨HW hn ?_,?_⟩
 .let⟨y,hy,e⟩:=v6.mp (A18 hk);exact⟨y,hy,e⟩
 .have:=J3 nd hk;rw[A16]at this;exact this
theorem GU(hl:gl.length<=6)(hn:∀y∈gl,nQ y)(e0:nQ g)(nd:(gl.map cS).Nodup)(hk:(gl.map cS)[k]?=AC (cS g))(hp:aZ ps (.int (k:Nat))=.ok p)(hc:c<3)(h9:(cS g).length<=9)(OG:(kv.map (·.1)).Nodup)(hkl:kv.length<1000)(L!:cz [dk x hall (.tup gl) hs ps,.str (102::97::115::116::32::cS g)]=.ok (.str [111,107],[dk x hall tY we jB])):bF [dk x hall (.tup gl) hs ps,hall,gJ (.tup gl) ps w,dd a kv,g,.int c]=.ok (gJ (.tup gl) ps w,[dk x hall tY we jB,dd a (aY (cS g) p kv)]):=by
 have GK:aZ g (.int 0)=.ok (.str<|cS g):=e0;let⟨oN,Gr⟩:=there hn nd hk;have cg:=λ ρ hρ=>jG hn ρ hρ;have q0:gl.length<=16777216:=by lia
 have q5:5+(cS g).length<=16777216:=by lia
 have gX:=jU 6 7 8 (.tup gl) ps w;have pt:=R7 (a:=a) (n:=cS g) (d:=p) OG hkl;have eq:oEq (.str [111,107]) (.str [111,107])=.ok (.bl Da):=rfl;have ix:aZ (.lst [.non,gJ (.tup gl) ps w]) (.int 1)=.ok (gJ (.tup gl) ps w):=rfl;unfold bF;rw[dX _ _ _ _ _ rfl,kj];simp[gE,aU,aE,fR,qI,mB,mU,cW,oB,bB,Tn,mP,hc,hp,L!,Gr,gX,eq,ix,pt,GK,aQ,c!,cg,q0,q5,oN,eM,bq,iE,lr,line,guard_pos,ir,qy,b7,b?,b8]
theorem CM(hl:gl.length<=6)(hn:∀y∈gl,nQ y)(e0:nQ g)(nd:(gl.map cS).Nodup)(hk:(gl.map cS)[k]?=AC (cS g))(hp:aZ ps (.int (k:Nat))=.ok p)(hc:3<=c)(qQ:c<6)(hr:eu [dk x hall (.tup gl) hs ps,hall,gJ (.tup gl) ps w,dd a kv,.str (cS g)]=.ok (r,[dk x hall tY we jB,dd a Cg])):bF [dk x hall (.tup gl) hs ps,hall,gJ (.tup gl) ps w,dd a kv,g,.int c]=.ok (r,[dk x hall tY we jB,dd a Cg]):=by
 have GK:aZ g (.int 0)=.ok (.str<|cS g):=e0;let⟨oN,Gr⟩:=there hn nd hk;have cg:=λ ρ hρ=>jG hn ρ hρ;have q0:gl.length<=16777216:=by lia
 have gX:=jU 6 7 8 (.tup gl) ps w;have hc0:¬c<3:=by lia
 unfold bF;rw[dX _ _ _ _ _ rfl,kj];simp[gE,aU,aE,fR,qI,cW,oB,bB,hc0,qQ,hp,hr,Gr,gX,GK,aQ,c!,cg,q0,oN,eM,bq,iE,lr,line,guard_pos,ir,qy,b7,b?,b8]
theorem CL(hl:gl.length<=6)(hn:∀y∈gl,nQ y)(e0:nQ g)(nd:(gl.map cS).Nodup)(hk:(gl.map cS)[k]?=AC (cS g)){p0 p1:D}(hp:aZ ps (.int (k:Nat))=.ok p)(i0:aZ p (.int 0)=.ok p0)(i1:aZ p (.int 1)=.ok p1)(t0:hJ p0=.ok (.str s1))(t1:hJ p1=.ok (.str s2))(l1:s1.length<=100)(l2:s2.length<=100)(hc:6<=c)(h9:(cS g).length<=9)(L!:cz [dk x hall (.tup gl) hs ps,.str (119::104::101::114::101::32::cS g)]=.ok (.str<|s1++[32]++s2,[dk x hall (.tup gl) hs ps])):bF [dk x hall (.tup gl) hs ps,hall,gJ (.tup gl) ps w,dd a kv,g,.int c]=.ok (gJ (.tup gl) ps w,[dk x hall (.tup gl) hs ps,dd a kv]):=by
 have GK:aZ g (.int 0)=.ok (.str<|cS g):=e0;let⟨oN,Gr⟩:=there hn nd hk;have cg:=λ ρ hρ=>jG hn ρ hρ;have q0:gl.length<=16777216:=by lia
 have q5:6+(cS g).length<=16777216:=by lia
 have q6:s1.length+1<=16777216:=by lia
 have q7:s1.length+1+s2.length<=16777216:=by lia
 have q8:s1.length+(s2.length+1)<=16777216:=by lia
 have gX:=jU 6 7 8 (.tup gl) ps w;have hc0:¬c<3:=by lia
 have hc1:¬c<6:=by lia
 have eq:=eqT (s1++[32]++s2)<|s1++[32]++s2;rw[A39 rfl]at eq;have ix:aZ (.lst [.non,gJ (.tup gl) ps w]) (.int 1)=.ok (gJ (.tup gl) ps w):=rfl;have ad1:aL (.str s1) (.str [32])=.ok (.str<|s1++[32]):=by simp[line,q6]
 have ad2:aL (.str<|s1++[32]) (.str s2)=.ok (.str<|s1++[32]++s2):=by simp only[aL,line,A28,B90,guard_pos q7]
 generalize s1++[32]++s2=sx at *;generalize s1++[32]=sy at *;unfold bF;rw[dX _ _ _ _ _ rfl,kj];simp[gE,aU,aE,fR,qI,mB,mU,cW,oB,bB,mP,hc0,hc1,hp,i0,i1,t0,t1,ad1,ad2,L!,Gr,gX,eq,ix,GK,aQ,c!,cg,q0,q5,oN,eM,bq,iE,lr,line,guard_pos,ir,qy,b7,b?,b8]
end
end gj
namespace gj
open Z
open KG (G GO Pl Rows Hall fG GOk aD aN bP aS places bR)
open KH (av ai Good)
open KB (a! du bQ iS ju Ext Full wS)
variable{rows:Rows}{C:Nat}{N:γ (γ Nat)}{xs m:γ GO}{kv:c8}{j k:Nat}{g:G}{c:Int}{y z:GO}{hall hl ps:D}{p:Pl}
theorem Ih(nd:(nms xs).Nodup)(hk:xs[k]?=AC y):∃as bs,av xs=.tup (as++aD y.1::bs)/\(∀d∈as++aD y.1::bs,nQ d)/\∀d∈as,cS d≠y.1.name:=by
 let⟨h1,h2⟩:=A03.mp hk;have sp:xs=xs.take k++y::xs.drop (k+1):=by rw[<-h2,C61,C31]
 have e:xs.map (λ x=>aD x.1)=(xs.take k).map (λ x=>aD x.1)++aD y.1::(xs.drop<|k+1).map λ x=>aD x.1:=by rw[<-v4 (f:=λ x:GO=>aD x.1) (a:=y),<-A23,<-sp]
 refine⟨_,_,A12 D.tup e,by rw[<-e];exact tD xs,λ d hd=>?_⟩;let⟨q,hq,rfl⟩:=v6.mp hd;intro eq;rw[sp]at nd;simp only[nms,A23,v4]at nd;exact(B71.mp nd).2.2 q.1.name (v6.mpr ⟨q,hq,rfl⟩) y.1.name A08 eq
theorem zU(nd:(nms xs).Nodup)(dr:∀x∈xs,Dr x.1)(hk:xs[k]?=AC y){x:Nat}:aR [dk x hall (av xs) hl ps,.str y.1.name]=Ch:=by let⟨as,bs,e,h1,h2⟩:=Ih nd hk;rw[e];exact Jk (gl:=[]) (dr y<|A18 hk).2.2 h1 h2 rfl
abbrev Zk(rows:Rows)(C:Nat)(N:γ (γ Nat))(xs m:γ GO)(kv:c8)(j:Nat)(g:G)(c:Int):Prop:=
 ∃jv m' Cg,I rows C N jv m' Cg (j+1)/\∀x a:Nat,bF [dk x (aS rows) (av xs) (ai xs) (ai m),aS rows,gJ (av xs) (ai m) (wS m),dd a kv,aD g,.int c]=.ok (gJ (av jv) (ai m')<|wS m',[dk x (aS rows) (av jv) (ai jv) (ai m'),dd a Cg])
theorem step_ask(H:Hall rows C)(hN:N.length=6)(i:I rows C N xs m kv j)(dg:Dr g)(gn:g.name∈N/\Ex g)(hg:g.name∉nms xs):Zk rows C N xs m kv j g c:=by
 have h5:xs.length<=5:=by
  have:=mI (g.name::nms xs) N (A14.mpr ⟨hg,i.s.names⟩) λ y hy=>by
   rcases A01.mp hy with rfl|hy
   .exact gn.1
   .let⟨z,hz,rfl⟩:=v6.mp hy;exact(i.nm z hz).1
  simp[nms]at this;lia
 have hm:∀y∈xs.map (λ x=>aD x.1),cS y≠cS (aD g):=λ y hy e=>by let⟨z,hz,rfl⟩:=v6.mp hy;exact hg<|v6.mpr ⟨z,hz,e⟩
 have l5:(xs.map λ x=>aD x.1).length<=5:=by rw[A04];exact h5
 have l5':(xs.map λ x=>bP x.2).length<=5:=by rw[A04];exact h5
 have eg:av (xs++[(g,Ch)])=.tup ((xs.map λ x=>aD x.1)++[aD g]):=by simp[av]
 have eo:ai (xs++[(g,Ch)])=.tup ((xs.map λ x=>bP x.2)++[.non]):=by simp[ai,bP]
 have k6:(xs++[(g,Ch)]).length<=6:=by simp;lia
 have kg:∀y∈xs++[(g,Ch)],fG y.1:=λ y hy=>by
  rcases A37.mp hy with hy|hy
  .exact i.s.Kd y hy
  .rw[A15.mp hy];exact dg.1
 have ko:∀y∈xs++[(g,Ch)],GOk y.1:=λ y hy=>(kg y hy).toGOk;have kn:(nms<|xs++[(g,Ch)]).Nodup:=by
  simp only[nms,A23,v4,A35];exact B71.mpr ⟨i.s.names,by simp,λ a ha b hb e=>by rw[A15.mp hb]at e;exact hg<|e▸ha⟩
 have kh:LM kv (xs++[(g,Ch)]):=⟨i.h.nd,λ c=>by rw[i.h.eq,OS hg]⟩
 have VE:=Kh i.s.good g;have hw:=λ a:Nat=>HL H (a:=a) k6 ko kn kh;simp only[eg]at hw;have no:=λ x:Nat=>N5<|(Io (.inr<|.inr rfl) gn.2.1).trans<|CH<|Xi (x:=x) (hall:=aS rows) (hl:=ai xs) (ps:=ai m) dg.2.2 (tD xs) hm;refine(λ(z:∃jv m',I rows C N jv m' kv (j+1)/\∀x a:Nat,cU [dk x (aS rows) (av xs) (ai xs) (ai m),aS rows,gJ (av xs) (ai m) (wS m),dd a kv,aD g]=.ok (gJ (av jv) (ai m')<|wS m',[dk x (aS rows) (av jv) (ai jv) (ai m'),dd a kv]))=>?_) ?_
 .let⟨jv,m',i',e⟩:=z;exact⟨jv,m',kv,i',λ x a=>K9 ∅ (tD xs) (lh g) hm gn.2.1 (no x)<|e x a⟩
 by_cases big:a! rows C (xs++[(g,Ch)])<=120
 .have w2:a! rows C (xs++[(g,Ch)])<=2000:=A11 big ∅;have ef:=KB.wy H k6 ko VE;have hb:=λ a:Nat=>qN H (a:=a) k6 kg VE kn kh w2;simp only[eg]at hb;rcases KB.E2 H k6 kg VE w2 ef with⟨e,b⟩|⟨m',b,bb⟩
  .let⟨pp,q⟩:=KC.zM H k6 ko VE w2 ef e;rw[eg,eo]at b q;have ax:=λ x:Nat=>Rq (x:=x) (ps:=ai m) dg.2.1 (lh g) (tD xs) hm l5 l5' b<|.inr ⟨pp,rfl,q,rfl⟩;have ak:=λ x:Nat=>C3 (ax x) rfl;rw[Ob H ko VE e]at hb;exact⟨xs,m,⟨i.s,i.h,B12 i.l,i.dr,i.nm⟩,λ x a=>Ly ∅ (hw a) ∅ (hb a)<|ak x⟩
  .have ml:m'.length=xs.length+1:=by have:=bb.ext.len;simp at this;lia
   let⟨p,hp⟩:=Gz bb.full (λ e=>by rw[e]at ml;simp at ml) ∅;have nn:fO (ai m')=.ok (.bl AT):=rfl;rw[eg,eo]at b;have ax:=λ x:Nat=>Rq (x:=x) (ps:=ai m) dg.2.1 (lh g) (tD xs) hm l5 l5' b<|.inl ⟨nn,rfl⟩;have ao:=λ x:Nat=>U? (x:=x) (ps:=ai m) dg.2.1 (lh g) (tD xs) hm l5 l5' b nn hp;have ak:=λ x:Nat=>Lw (ax x)<|ao x;rw[Em H ko VE bb]at hb;refine⟨xs++[(g,Ch)],m',⟨⟨k6,kg,kn,A11 big ∅,bb⟩,kh,B12 i.l,λ y hy=>?_,λ y hy=>?_⟩,?_⟩
   .rcases A37.mp hy with hy|hy
    .exact i.dr y hy
    .rw[A15.mp hy];exact dg
   .rcases A37.mp hy with hy|hy
    .exact i.nm y hy
    .rw[A15.mp hy];exact gn
   .intro x a;rw[eg,eo];exact U_ ∅ (hw a) ∅ (hb a) hp (GH p).2<|ak x
 .exact⟨xs,m,⟨i.s,i.h,B12 i.l,i.dr,i.nm⟩,λ x a=>Lx ∅ (hw a) ∅⟩
theorem xT(xs:γ GO):(xs.map λ x=>aD x.1).map cS=nms xs:=by rw[A16];rfl
theorem Jp(hk:xs[k]?=AC y)(en:y.1.name=g.name):((xs.map λ x=>aD x.1).map cS)[k]?=AC (cS<|aD g):=by rw[xT,A06,hk];exact A12 AC en
theorem Fy(i:I rows C N xs m kv j)(hj:j<900)(gn:Ex g)(hk:xs[k]?=AC y)(en:y.1.name=g.name)(hp:m[k]?=AC (y.1,AC p))(hc:c<3):Zk rows C N xs m kv j g c:=by
 have nu:=λ x:Nat=>B5 (x:=x) (hall:=aS rows) (hl:=ai xs) (ps:=ai m) i.s.names i.dr hk;have nn:=λ x:Nat=>zU (x:=x) (hall:=aS rows) (hl:=ai xs) (ps:=ai m) i.s.names i.dr hk;simp only[en]at nu nn;have px:=JW hp;have wp:=(KB.se i.s.six (g:=y.1) (o:=y.2) hk p).1;have sy:=λ x:Nat=>Eg ((Io (.inl rfl) gn.1).trans<|GS<|Ut (nn x)<|nu x)<|BO (.inl rfl) gn.1<|Pd<|OY (nu x) px wp;have eg:av (xs.set k (y.1,AC p))=av xs:=KH.wB hk<|some p;have df:=λ x a:Nat=>GU (a:=a) (kv:=kv) (w:=wS m) (c:=c) (xY i.s) (tD xs) (lh g) (by rw[xT];exact i.s.names) (Jp hk en) px hc gn.1 i.h.nd (by have:=i.l;lia)<|sy x;have mem:∀z∈xs.set k (y.1,AC p),∃w∈xs,w.1=z.1:=λ z hz=>by
  rcases C56 hz with h|h
  .exact⟨z,h,rfl⟩
  .exact⟨y,A18 hk,by rw[h]⟩
 refine⟨xs.set k (y.1,AC p),m,aY g.name (aN p) kv,⟨i.s.fast hp,⟨Du _ _ _ i.h.nd,λ n=>?_⟩,?_,λ z hz=>?_,λ z hz=>?_⟩,?_⟩
 .rw[Dv,EA p i.s.names (o:=y.2) hk,i.h.eq,en]
 .have:=zD g.name (aN p) kv;have:=i.l;lia
 .let⟨w,hw,e⟩:=mem z hz;rw[<-e];exact i.dr w hw
 .let⟨w,hw,e⟩:=mem z hz;rw[<-e];exact i.nm w hw
 .rw[eg];exact df
theorem BG(H:Hall rows C)(i:I rows C N xs m kv j)(gn:Ex g)(hk:xs[k]?=AC y)(en:y.1.name=g.name)(hp:m[k]?=AC (y.1,AC p))(hc:3<=c)(qQ:c<6):Zk rows C N xs m kv j g c:=by
 let⟨m',s'⟩:=i.s.away H k;have kl:k<xs.length:=(A03.mp hk).1;have nu:=λ x:Nat=>B5 (x:=x) (hall:=aS rows) (hl:=ai xs) (ps:=ai m) i.s.names i.dr hk;simp only[en]at nu;have w1:=Bh kl i.s.six;have w2:=Bg kl i.s.six;have sy:=λ x:Nat=>BO (.inr<|.inl rfl) gn.1<|Pe<|PY (nu x) w1 w2<|s'.tell H;have fe:=oX i.s.names hk;rw[en]at fe;have he:∀n,(a7 g.name kv).lookup n=tX (xs.eraseIdx k) n:=λ n=>by rw[wm i.s.names hk,en,AO _ _ _ i.h.nd,i.h.eq]
 have hs:(a7 g.name kv).Sublist kv:=wC _ _;have kh:LM (a7 g.name kv) (xs.eraseIdx k):=⟨i.h.nd.sublist<|hs.map _,he⟩
 have hb:=λ a:Nat=>qN H (a:=a) s'.six s'.Kd s'.good s'.names kh<|A11 s'._L ∅;rw[Em H (λ x hx=>(s'.Kd x hx).toGOk) s'.good s'.best]at hb;have fe:(xs.map λ x=>aD x.1).filter (λ y=>!decide (cS y=cS (aD g)))=(xs.eraseIdx k).map λ x=>aD x.1:=fe;have lv:=λ x a:Nat=>JM (x:=x) (a:=a) (kv:=kv) (n:=cS (aD g)) (w:=wS m) (xY i.s) (tD xs) gn.1 i.h.nd (sy x) (by rw[fe];exact hb a);have df:=λ x a:Nat=>CM (xY i.s) (tD xs) (lh g) (by rw[xT];exact i.s.names) (Jp hk en) (JW hp) hc qQ<|lv x a;rw[fe]at df;exact⟨xs.eraseIdx k,m',a7 g.name kv,⟨s',kh,A11 hs.length_le<|B12 i.l,λ z hz=>i.dr z<|B43 hz,λ z hz=>i.nm z<|B43 hz⟩,df⟩
abbrev pT(p:Pl):γ Nat:=fF p.1.toNat++[32]++fF p.2.toNat
structure Zl(p:Pl):Prop where
 l1:(fF p.1.toNat).length<=100
 l2:(fF p.2.toNat).length<=100
 t1:hJ (.int p.1)=.ok (.str<|fF p.1.toNat)
 t2:hJ (.int p.2)=.ok (.str<|fF p.2.toNat)
theorem Ds(h1:0<=p.1)(h2:p.1<100)(h3:0<=p.2)(h4:p.2<100):Zl p:=by have l1:=KS.ER (k:=2) (n:=p.1.toNat) ∅ ∅;have l2:=KS.ER (k:=2) (n:=p.2.toNat) ∅ ∅;have t1:=B4 p.1.toNat ∅;have t2:=B4 p.2.toNat ∅;rw[B16 (by assumption)]at t1 t2;exact⟨by lia,by lia,t1,t2⟩
theorem Zl.pl(s:Zl p):bJ [aN p]=.ok (.str<|pT p):=by
 have i0:aZ (aN p) (.int 0)=.ok (.int p.1):=rfl;have i1:aZ (aN p) (.int 1)=.ok (.int p.2):=rfl;have l1:=s.l1;have l2:=s.l2;have q1:(fF p.1.toNat).length+1<=16777216:=by lia
 have q2:(fF p.1.toNat).length+1+(fF p.2.toNat).length<=16777216:=by lia
 have q3:(fF p.1.toNat).length+(1+(fF p.2.toNat).length)<=16777216:=by lia
 rw[vc];refine ay ?_;simp[kz,i0,i1,s.t1,s.t2,line,q1,q2,q3]
theorem Iz(H:Hall rows C)(s:iS rows C xs m)(hp:m[k]?=AC z)(e:z.2=AC p):0<=p.1/\p.1<100/\0<=p.2/\p.2<100:=by
 let⟨g,o⟩:=z;cases e;have hx:GOk g:=by
  have:g∈xs.map (·.1):=by rw[s.best.ext.gs];exact v6.mpr ⟨_,A18 hp,rfl⟩
  let⟨q,hq,rfl⟩:=v6.mp this;exact(s.Kd q hq).toGOk
 have:=KG.pY.mp (A44.mp<|KB.ua H hx (s.best.good k g p hp).1).1;have:=H.r2;have:=H.c2;lia
theorem BF(H:Hall rows C)(i:I rows C N xs m kv j)(gn:Ex g)(hk:xs[k]?=AC y)(en:y.1.name=g.name)(hp:m[k]?=AC (y.1,AC p))(hc:6<=c):Zk rows C N xs m kv j g c:=by have nu:=λ x:Nat=>B5 (x:=x) (hall:=aS rows) (hl:=ai xs) (ps:=ai m) i.s.names i.dr hk;have nn:=λ x:Nat=>zU (x:=x) (hall:=aS rows) (hl:=ai xs) (ps:=ai m) i.s.names i.dr hk;simp only[en]at nu nn;have px:=JW hp;let⟨r1,r2,r3,r4⟩:=Iz H i.s hp rfl;have s:=Ds r1 r2 r3 r4;have sh:=s.pl;have sy:=λ x:Nat=>Eg ((Io (.inr<|.inr rfl) gn.1).trans<|CI (nn x) (yX (nu x) px) sh)<|BO (.inr<|.inr rfl) gn.1<|KY (yX (nu x) px) sh;exact⟨xs,m,kv,⟨i.s,i.h,B12 i.l,i.dr,i.nm⟩,λ x a=>CL (xY i.s) (tD xs) (lh g) (by rw[xT];exact i.s.names) (Jp hk en) px rfl rfl s.t1 s.t2 s.l1 s.l2 hc gn.1<|sy x⟩
theorem step(H:Hall rows C)(hN:N.length=6)(i:I rows C N xs m kv j)(hj:j<900)(dg:Dr g)(gn:g.name∈N/\Ex g):Zk rows C N xs m kv j g c:=by
 by_cases h:g.name∈nms xs
 .let⟨k,y,hk,en⟩:=NS h;let⟨p,hp⟩:=M4 i.s hk;by_cases h3:c<3
  .exact Fy i hj gn.2 hk en hp h3
  .by_cases h6:c<6
   .exact BG H i gn.2 hk en hp ∅ h6
   .exact BF H i gn.2 hk en hp ∅
 .exact step_ask H hN i dg gn h
end gj
namespace gj
open Z KG
open KH
theorem Ab(z:Int):∃a b,a∈aH/\b∈aH/\cA [.int z]=.ok (.str [a,b]):=KM.Aa z
theorem JA(c:Int)(hn:n<=1000):∃ms:γ Int,ms.length=n/\(∀m∈ms,0<=m/\m<2147483587)/\cN [.int c,.int n]=.ok (.lst<|ms.map .int):=KM.Jz c hn
theorem Ap(hb:Bd ns):∃rows R C,jt C R rows/\1<=R/\R<=6/\1<=C/\C<=12/\jf [.lst (ns.map .int)]=.ok (aS rows):=by
 let⟨f,ef,hf⟩:=o? hb (k:=0) ∅;let⟨c1,ec1,_⟩:=o? hb (k:=1) ∅;have hz:Szs [2,6,12,1000000000000000000000000000000000000000000000000000000000000]:=⟨by decide,by decide⟩
 have dg0:=l0 hz f;simp only[v4,A35,jM]at dg0;let⟨R,hR⟩:=ng (z:=f / 2 % 6+1) ∅;let⟨C,hC⟩:=ng (z:=f / 2 / 6 % 12+1) ∅;have _D:1<=R/\R<=6:=by lia
 have VR:1<=C/\C<=12:=by lia
 have q1:bA (R) (C):=cY ∅ ∅;have hrc:R*C<=100:=A11 (A57 _D.2 VR.2) ∅;obtain⟨N,Yd,hN⟩:∃N:Nat,(R:Int)*C=(N:Int)/\N=R*C:=⟨R*C,by push_cast;rfl,rfl⟩
 rw[<-hN]at hrc;have dg:=l0 (MK hrc) c1;rw[List.map_replicate]at dg;have hg:N<=16777216:=by lia
 let⟨la,lb,hla,hlb,el⟩:=Ab (f / 2 / 6 / 12 % 1000000000000000000000000000000000000000000000000000000000000);have key:Ok (bc<|iM [v (.lst<|ns.map .int),Ch,Ch,Ch,Ch,Ch,Ch,Ch,Ch]) λ d=>∃rows R C,jt C R rows/\1<=R/\R<=6/\1<=C/\C<=12/\d=aS rows:=by
  refine pS ?_;by_cases hm:f % 2=0
  .simp[iM,ef,ec1,line,dg0,t6,hU,hR,hC,q1,BR,Yd,hg,dg,hm];refine⟨by lia,?_⟩;refine nj ∅ (by simp;lia) ?_;intro d hd;obtain⟨R',rfl,VQ⟩:∃R':Nat,d=.int R'/\1<=R'/\R'<=6:=by
    simp at hd;rcases hd with rfl|rfl|rfl|rfl|rfl|rfl
    all_goals first|exact⟨1,rfl,by decide⟩|exact⟨2,rfl,by decide⟩|exact⟨3,rfl,by decide⟩|exact⟨4,rfl,by decide⟩|exact⟨6,rfl,by decide⟩
   refine nj ∅ (by simp;lia) ?_;intro d hd;obtain⟨C',rfl,EB⟩:∃C':Nat,d=.int C'/\1<=C'/\C'<=12:=by
    simp at hd;rcases hd with rfl|rfl|rfl|rfl|rfl|rfl|rfl|rfl|rfl|rfl|rfl|rfl
    all_goals first|exact⟨1,rfl,by decide⟩|exact⟨2,rfl,by decide⟩|exact⟨3,rfl,by decide⟩|exact⟨4,rfl,by decide⟩|exact⟨5,rfl,by decide⟩|exact⟨6,rfl,by decide⟩|exact⟨7,rfl,by decide⟩|exact⟨8,rfl,by decide⟩|exact⟨12,rfl,by decide⟩
   have p1:bA (R':Int) (C':Int):=cY ∅ ∅;have prc:R'*C'<=100:=A11 (A57 VQ.2 EB.2) ∅;obtain⟨N',aaH,pN⟩:∃N:Nat,(R':Int)*C'=(N:Int)/\N=R'*C':=⟨R'*C',by push_cast;rfl,rfl⟩
   let⟨ms,_u,hmp,em⟩:=JA c1 (n:=N') ∅;have abC:ms.length<=16777216:=by lia
   rw[el];simp[line,aQ,dC,ec1,p1,aaH,em,abC];refine bz D.int (λ _=>Da) (λ x=>.int<|x / 3 % 9) (xs:=ms) (λ x hx=>?_) ?_
   .simp[bO]
   .rw[j!];have e1:ms.map (λ x=>D.int<|x / 3 % 9)=(ms.map λ x=>x / 3 % 9).map D.int:=by rw[A16];rfl
    rw[e1];obtain⟨nums,J9⟩:∃nums,nums=ms.map λ x=>x / 3 % 9:=⟨_,rfl⟩
    rw[<-J9];have k46:46∈signs:=by decide
    have k61:61∈signs:=by decide
    have k35:35∈signs:=by decide
    refine KM.sU (sg:=[46,46,46,46,46,61,35,la,lb]) (nums:=nums) (R:=R') (C:=C') ∅ (by simp[k46,k61,k35,oF hla,oF hlb]) ?_ (by simp[J9,_u,pN]) VQ.2 EB.2 rfl _ _ _ _ ?_
    .intro x hx;rw[J9]at hx;let⟨j,_,rfl⟩:=v6.mp hx;simp;lia
    .intro rows x jK;simp[line];exact⟨rows,R',C',jK,VQ.1,VQ.2,EB.1,EB.2,rfl⟩
  .simp[iM,ef,ec1,line,dg0,t6,hU,hR,hC,q1,BR,Yd,hg,dg,hm];refine⟨by lia,?_⟩;refine KM.sU (sg:=signs) (nums:=jM c1 (Do N 29)) (R:=R) (C:=C) ∅ (λ c hc=>hc) ?_ (by rw[uk,A77];exact hN) _D.2 VR.2 rfl _ _ _ _ ?_
   .intro x hx;have:=EN c1 _ 29 (λ s hs=>by rw[C51 hs];decide) x hx;rw[FA];exact this
   .intro rows x jK;simp[line];exact⟨rows,R,C,jK,_D.1,_D.2,VR.1,VR.2,rfl⟩
 let⟨d,e,rows,R',C',jK,r1,r2,c1',VX,rfl⟩:=key;exact⟨rows,R',C',jK,r1,r2,c1',VX,by rw[AI];exact e⟩
end gj
namespace gj
open Z
def B!(z:Int):Nat:=aH.getD (z % 26).toNat 0
theorem Q0(z:Int):B! z∈aH/\aZ (.str aH) (.int<|z % 26)=.ok (.str [B! z]):=by
 have h26:aH.length=26:=rfl;have hj:(z % 26).toNat<aH.length:=by lia
 have e:aH[(z % 26).toNat]?=AC (B! z):=by unfold B!;rw[List.getD_eq_getElem?_getD,A00 hj];rfl
 exact⟨A18 e,oH ∅ e ∅⟩
theorem N7(h:B! a=B! b):a % 26=b % 26:=by
 have q:∀i<26,∀j<26,aH.getD i 0=aH.getD j 0->i=j:=by decide
 have:=q (a % 26).toNat ∅ (b % 26).toNat ∅ h;lia
noncomputable def L8(c at' st:Int)(k j:Nat):Nat:=B!<|c / (400+30*(j:Int)*(j:Int))+st*(k:Int)*(if(j:Int)=at' then 1 else 0)
theorem xU(c:Int):∃nms:γ (γ Nat),nms.length=6/\nms.Nodup/\(∀n∈nms,KS.Hg n)/\ib [.int c,.int 6]=.ok (.lst<|nms.map .str):=by
 obtain⟨st,oJ,est⟩:∃s,s∈([1,3,5,7,9,11]:γ Nat)/\aZ (.lst [.int 1,.int 3,.int 5,.int 7,.int 9,.int 11]) (.int<|c / 64 % 6)=.ok (.int s):=by let⟨d,hd,e,_⟩:=Ep (xs:=([1,3,5,7,9,11]:γ Nat).map λ n=>D.int (n:Nat)) (i:=c / 64 % 6) ∅ (by simp;lia);let⟨s,hs,rfl⟩:=v6.mp hd;exact⟨s,hs,e⟩
 obtain⟨n,hn⟩:∃n:Nat,1+c % 8=n:=⟨(1+c % 8).toNat,by lia⟩
 have h1:1<=n:=by lia
 have h8:n<=8:=by lia
 have hn0:(0:Int)<n:=by lia
 have fd:∀j:Nat,j<8->ij (400+30*(j:Int)*(j:Int)):=by unfold ij;decide
 have f30:∀x,bA 30 x:=λ x=>cY ∅ ∅;have fj:∀x (j:Nat),j<100->bA x (j:Int):=λ x j hj=>fv ∅ ∅;have f0:∀x,bA x 0:=λ x=>fv ∅ ∅;have f1:∀x,bA x 1:=λ x=>fv ∅ ∅;obtain⟨a,ha⟩:∃a:Int,c / 8 % n=a:=⟨_,rfl⟩
 have ha0:0<=a:=by rw[<-ha];exact B73 _ ∅
 have han:a<n:=by rw[<-ha];exact B72 _ hn0
 have:Ok (bc<|jh [v (.int c),v (.int 6),Ch,Ch,Ch,Ch,Ch,Ch,Ch,Ch,Ch]) λ d=>d=.lst ((FB 6).map λ k=>.str<|(FB n).map<|L8 c a st k):=by
  refine pS ?_;simp[jh,bO,hn,hn0,est,line,h1,ha];refine⟨by lia,?_⟩;refine fq (λ i ρ=>∃x7 x8 x9 x10,ρ=[vi c,vi 6,vs aH,vi n,vi a,vi st,ow ((FB i).map λ k=>.str<|(FB n).map<|L8 c a st k),x7,x8,x9,x10]) ⟨Ch,Ch,Ch,Ch,rfl⟩ ?_ ?_
  .rintro i d ρ hd ⟨x7,x8,x9,x10,rfl⟩;let⟨hi,rfl⟩:=Et hd;simp;refine fq (λ j ρ=>∃x9 x10,ρ=[vi c,vi 6,vs aH,vi n,vi a,vi st,ow ((FB i).map λ k=>.str<|(FB n).map<|L8 c a st k),vi (i:Nat),vs ((FB j).map<|L8 c a st i),x9,x10]) ⟨_,_,rfl⟩ ?_ ?_
   .rintro j d ρ hj ⟨x9,x10,rfl⟩;let⟨hj,rfl⟩:=Et hj;have hj8:j<8:=by lia
    let⟨hq,eq⟩:=Q0 (c / (400+30*(j:Int)*(j:Int))+st*(i:Int)*(if(j:Int)=a then 1 else 0));by_cases he:(j:Int)=a
    .rw[W1 he,B48]at eq;have ht:((j:Int)=a)=True:=eq_true he;simp[f0,f1,f30,fj _ j ∅,fj _ i ∅,fd j hj8,ht,pV,line,eq];simp[A81,L8,ht];lia
    .rw[o0 he,Int.mul_zero,Int.add_zero]at eq;simp[f0,f1,f30,fj _ j ∅,fj _ i ∅,fd j hj8,he,pV,line,eq];simp[A81,L8,he];lia
   .rintro ρ ⟨x9,x10,rfl⟩;rw[fU];simp[line,A81];lia
  .rintro ρ ⟨x7,x8,x9,x10,rfl⟩;rw[fU];simp
 have TV:1<=st/\st<=11:=(by decide:∀s∈([1,3,5,7,9,11]:γ Nat),1<=s/\s<=11) st oJ;rw[<-yj]at this;let⟨d,e,rfl⟩:=this;have nk:∀k,KS.Hg ((FB n).map<|L8 c a st k):=λ k=>⟨by simp;lia,by simp;lia,λ q hq=>by let⟨j,_,rfl⟩:=v6.mp hq;exact(Q0 _).1⟩
 refine⟨(FB 6).map λ k=>(FB n).map<|L8 c a st k,by simp,?_,λ q hq=>?_,by rw[e,A16];rfl⟩
 .refine B42.mpr<|C55 (λ {k k'} hk VM (lt:k<k') z=>?_) C24;rw[A24]at hk VM;have ha':a.toNat<n:=by lia
  have g:∀k,((FB n).map<|L8 c a st k)[a.toNat]?=AC (L8 c a st k a.toNat):=λ k=>by rw[A06,nw ha'];rfl
  have z2:=(g k).symm.trans<|(A12 (λ l:γ Nat=>l[a.toNat]?) z).trans<|g k';have z3:=N7<|A05 z2;have ea:((a.toNat:Nat):Int)=a:=by lia
  rw[W1 ea]at z3;generalize c / (400+30*((a.toNat:Nat):Int)*((a.toNat:Nat):Int))=y at z3;simp only[B48]at z3;have fin:∀s∈([1,3,5,7,9,11]:γ Nat),∀k<6,∀k'<6,k<k'->(s*k) % 26≠(s*k') % 26:=by decide
  have:=fin st oJ k hk k' VM lt;have e1:(st:Int)*(k:Int)=((st*k:Nat):Int):=by push_cast;rfl
  have e2:(st:Int)*(k':Int)=((st*k':Nat):Int):=by push_cast;rfl
  rw[e1,e2]at z3;generalize st*k=p at *;generalize st*k'=q at *;lia
 .let⟨k,_,rfl⟩:=v6.mp hq;exact nk k
end gj
namespace gj
open Z KG
open KH
theorem Kf(z:Int){nm:γ Nat}(Gq:KS.Hg nm){a b:Nat}(ha:a∈aH)(hb:b∈aH):∃s:KS.Gp,KS.C8 s/\s.nm=nm/\ic [.str nm,.int z,.str [a,b]]=.ok (KS.dP s):=by
 let⟨ms,_u,hmp,em⟩:=JA z (n:=9) ∅;let⟨m0,m1,m2,m3,m4,m5,m6,m7,m8,rfl⟩:=KN.NP _u;have i0:aZ (.str [a,b]) (.int 0)=.ok (.str [a]):=oH (j:=0) rfl rfl (by simp[line]);have i1:aZ (.str [a,b]) (.int 1)=.ok (.str [b]):=oH (j:=1) rfl rfl (by simp[line]);have n9:∀a b c d e f g i j,aZ (.lst [a,b,c,d,e,f,g,i,j]) (.int 0)=.ok a/\aZ (.lst [a,b,c,d,e,f,g,i,j]) (.int 1)=.ok b/\aZ (.lst [a,b,c,d,e,f,g,i,j]) (.int 2)=.ok c/\aZ (.lst [a,b,c,d,e,f,g,i,j]) (.int 3)=.ok d/\aZ (.lst [a,b,c,d,e,f,g,i,j]) (.int 4)=.ok e/\aZ (.lst [a,b,c,d,e,f,g,i,j]) (.int 5)=.ok f/\aZ (.lst [a,b,c,d,e,f,g,i,j]) (.int 6)=.ok g/\aZ (.lst [a,b,c,d,e,f,g,i,j]) (.int 7)=.ok i/\aZ (.lst [a,b,c,d,e,f,g,i,j]) (.int 8)=.ok j:=λ _ _ _ _ _ _ _ _ _=>⟨rfl,rfl,rfl,rfl,rfl,rfl,rfl,rfl,rfl⟩
 simp only[v4,A35]at em;replace em:cN [.int z,.int 9]=.ok (.lst [.int m0,.int m1,.int m2,.int m3,.int m4,.int m5,.int m6,.int m7,.int m8]):=em;have fin:∀x0 x1 x2 x4 x5 x6 x7 x8 x9,Ok (cb (aG 11) (dH (tE<|eB oEq (eB oMod (eB oDiv (eX 3 7)<|eB aL (eI 3)<|eB eO (eI 2)<|eW 11)<|eI 4)<|eI 1) (cC 10<|cq<|aV 11<|ag (eB aL (eI 1)<|eB oMod (eB oDiv (eX 3 8)<|eB aL (eI 2)<|eW 11)<|eI 3) ah) aJ) («zints» 0 6) [x0,x1,x2,v (.lst [.int m0,.int m1,.int m2,.int m3,.int m4,.int m5,.int m6,.int m7,.int m8]),x4,x5,x6,x7,x8,x9,ow [],Ch]) λ fl=>∃wl x,KS.A6 6 wl/\fl=.nx [x0,x1,x2,v (.lst [.int m0,.int m1,.int m2,.int m3,.int m4,.int m5,.int m6,.int m7,.int m8]),x4,x5,x6,x7,x8,x9,ow (wl.map KS.hV),x]:=by
  intro x0 x1 x2 x4 x5 x6 x7 x8 x9;refine fq (λ i ρ=>∃wl x,KS.A6 i wl/\ρ=[x0,x1,x2,v (.lst [.int m0,.int m1,.int m2,.int m3,.int m4,.int m5,.int m6,.int m7,.int m8]),x4,x5,x6,x7,x8,x9,ow (wl.map KS.hV),x]) ⟨[],Ch,⟨by simp,by simp,by simp⟩,rfl⟩ ?_ ?_
  .rintro j y ρ hj ⟨wl,x,hl,rfl⟩;let⟨Ba,rfl⟩:=ints_get hj;have q1:bA 2 (j:Int):=cY ∅ ∅;have q2:ij (3+2*(j:Int)):=bO ∅ ∅;have q3:ij (2+(j:Int)):=bO ∅ ∅;have hll:wl.length<16777216:=by have:=hl.l;lia
   let⟨u,hu⟩:=ng (z:=1+m8 / (2+(j:Int)) % 3) ∅;by_cases h:m7 / (3+2*(j:Int)) % 4=1
   .simp[line,n9,q1,q2,q3,h,hll];rw[hu];have hu4:u<4:=by lia
    exact⟨wl++[(j,u)],hl.snoc ∅<|A19 hu4 ∅,by simp[KS.hV]⟩
   .simp[line,n9,q1,q2,h];exact⟨wl,hl.next,rfl⟩
  .rintro ρ ⟨wl,x,hl,rfl⟩;exact⟨wl,x,by simpa using hl,rfl⟩
 rw[yl];have:Ok (bc<|ji [v (.str nm),v (.int z),v (.str [a,b]),Ch,Ch,Ch,Ch,Ch,Ch,Ch,Ch,Ch]) λ x=>∃s,KS.C8 s/\s.nm=nm/\x=KS.dP s:=by
  refine pS ?_;simp[ji,bO,em,n9,line,i0,i1];refine nj ∅ (by simp;lia) ?_;intro x hx;obtain⟨w,rfl,w1,w2⟩:∃d:Nat,x=.int d/\1<=d/\d<=12:=by
   simp at hx;rcases hx with rfl|rfl|rfl|rfl|rfl|rfl|rfl|rfl
   all_goals first|exact⟨1,rfl,by decide,by decide⟩|exact⟨2,rfl,by decide,by decide⟩|exact⟨3,rfl,by decide,by decide⟩|exact⟨4,rfl,by decide,by decide⟩
  refine nj ∅ (by simp;lia) ?_;intro x hx;obtain⟨d,rfl,d1,d2⟩:∃d:Nat,x=.int d/\1<=d/\d<=3:=by
   simp at hx;rcases hx with rfl|rfl|rfl|rfl|rfl|rfl|rfl|rfl
   all_goals first|exact⟨1,rfl,by decide,by decide⟩|exact⟨2,rfl,by decide,by decide⟩|exact⟨3,rfl,by decide,by decide⟩
  refine nj ∅ (by simp;lia) ?_;intro x hx;obtain⟨kd,rfl,hkd⟩:∃kd,x=.str kd/\(kd=[]\/∃c∈aH,kd=[c]):=by
   simp at hx;rcases hx with rfl|rfl|rfl|rfl|rfl|rfl
   all_goals first|exact⟨[],rfl,.inl rfl⟩|exact⟨_,rfl,.inr ⟨_,ha,rfl⟩⟩|exact⟨_,rfl,.inr ⟨_,hb,rfl⟩⟩
  refine nj ∅ (by simp;lia) ?_;intro x hx;obtain⟨wz,rfl⟩:∃wd:Nat,x=.int wd:=by
   simp at hx;rcases hx with rfl|rfl|rfl|rfl|rfl|rfl
   all_goals first|exact⟨0,rfl⟩|exact⟨1,rfl⟩|exact⟨2,rfl⟩
  have p1:bA (w:Int) (d:Int):=cY ∅ ∅;obtain⟨wd,hwd,X_⟩:∃wd:Nat,min (wz:Int) ((w:Int)*d)=(wd:Int)/\wd<=w*d:=⟨min wz<|w*d,by
   have hN:((w*d:Nat):Int)=(w:Int)*d:=by push_cast;rfl
   rw[<-hN];lia,Nat.min_le_right _ _⟩
  simp[p1,hwd];refine nj ∅ (by simp;lia) ?_;intro x hx;obtain⟨gp,rfl,hgp⟩:∃gp:Nat,x=.int gp/\gp<=6:=by
   simp at hx;rcases hx with rfl|rfl|rfl|rfl|rfl|rfl|rfl|rfl
   all_goals first|exact⟨0,rfl,by decide⟩|exact⟨1,rfl,by decide⟩|exact⟨2,rfl,by decide⟩|exact⟨6,rfl,by decide⟩
  have p6:bA m6 100000000000000000000000000000000000000000000000000:=by have:=hmp m6 ∅;exact cY ∅ ∅
  refine⟨p6,?_⟩;rw[RP];obtain⟨wt,hwt,hwb⟩:∃wt:Nat,(if m5 / 20 % 6=5 then D.int (m6*100000000000000000000000000000000000000000000000000)else D.int (m5 / 5 % 4))=.int (wt:Nat)/\wt<10^60:=by
   have h6:=hmp m6 ∅;by_cases h:m5 / 20 % 6=5
   .let⟨u,hu⟩:=ng (z:=m6*100000000000000000000000000000000000000000000000000) ∅;have jc:u<2147483587*100000000000000000000000000000000000000000000000000:=by lia
    exact⟨u,by rw[W1 h,hu],A19 jc ∅⟩
   .let⟨u,hu⟩:=ng (z:=m5 / 5 % 4) ∅;have jc:u<4:=by lia
    exact⟨u,by rw[o0 h,hu],A19 jc ∅⟩
  rw[hwt];simp;refine(fin _ _ _ _ _ _ _ _ _).imp ?_;rintro fl ⟨wl,x,hl,rfl⟩;simp[line];refine⟨⟨nm,w,d,kd,wd,gp,wt,wl⟩,⟨Gq.1,Gq.2.1,Gq.2.2,w1,w2,d1,d2,hkd,X_,hgp,hwb,hl.l,λ p hp=>?_,hl.up⟩,rfl,rfl⟩;let⟨h1,h2,h3⟩:=hl.r p hp;exact⟨by lia,h2,h3⟩
 let⟨x,e,g,hg,hn,rfl⟩:=this;exact⟨g,hg,hn,e⟩
theorem U9(z:Int){K:Nat}(h:0<K):∃u:Nat,z % (K)=(u)/\u<K:=by let⟨u,hu⟩:=ng (z:=z % (K)) (B73 _ ∅);have:=B72 z (show(0)<(K:Int)by lia);exact⟨u,hu,by lia⟩
theorem uj:∀(ss:γ Nat)(c:Int),(∀s∈ss,0<s)->∃us:γ Nat,us.length=ss.length/\jM c (ss.map Nat.cast)=us.map Nat.cast/\∀(i:Nat) s u,ss[i]?=AC s->us[i]?=AC u->u<s
|[],c,_=>⟨[],rfl,rfl,by simp⟩
|s::ss,c,h=>by
 let⟨u,hu,hb⟩:=U9 c (h s A08);let⟨us,h1,h2,h3⟩:=uj ss (c / s) λ z hz=>h z (A07 _ hz);refine⟨u::us,by simp[h1],?_,λ i s' u'=>?_⟩
 .show c % s::jM (c / s) (ss.map _)=_;rw[hu,h2];rfl
 .cases i with
  |zero=>simp;rintro rfl rfl;exact hb
  |succ i=>simpa using h3 i s' u'
theorem Va(c:Int)(Gq:KS.Hg nm):∃s,KS.C8 s/\s.nm=nm/\j7 [.str nm,.int c]=.ok (KS.dP s):=by
 let⟨us,l6,ed,bd⟩:=uj [12,3,27,7,64,37] c ∅;have dg:=l0 (ss:=[12,3,27,7,64,37]) ⟨by decide,by decide⟩ c;rw[show jM c [12,3,27,7,64,37]=_ from ed]at dg;rcases us with _|⟨w,_|⟨d,_|⟨kd,_|⟨gp,_|⟨bt,_|⟨wz,_|_⟩⟩⟩⟩⟩⟩<;>simp at l6
 have w12:=bd 0 _ _ rfl rfl;have d3:=bd 1 _ _ rfl rfl;have k27:=bd 2 _ _ rfl rfl;have g7:=bd 3 _ _ rfl rfl;simp only[v4,A35]at dg;obtain⟨M,hM,hM2⟩:∃M:Nat,((w:Int)+1)*((d:Int)+1)=(M:Int)/\M=(w+1)*(d+1):=⟨(w+1)*(d+1),by push_cast;rfl,rfl⟩
 have hM3:M<=36:=by rw[hM2];exact A11 (A57 (by lia:w+1<=12) (by lia:d+1<=3)) ∅
 let⟨wd,hwd⟩:=ng (z:=(wz:Int) % ((M:Int)+1)) (B73 _ ∅);have X_:wd<=M:=by have:=B72 (wz:Int) (show(0:Int)<(M:Int)+1 by lia);lia
 have q1:bA ((w:Int)+1) ((d:Int)+1):=cY ∅ ∅;have q3:(0:Int)<(M:Int)+1:=by lia
 let⟨vs,l7,ed2,Zb⟩:=uj (10^60::Do 6 (10^60-1)) (c / 16111872) ∅;have dg2:=l0 (ss:=(10^60::Do 6 (10^60-1):γ Nat).map Nat.cast) ⟨by decide,by decide⟩<|c / 16111872;rw[ed2]at dg2;rcases vs with _|⟨u0,_|⟨u1,_|⟨u2,_|⟨u3,_|⟨u4,_|⟨u5,_|⟨u6,_|_⟩⟩⟩⟩⟩⟩⟩<;>simp at l7
 simp[Do]at dg2;obtain⟨kc,hkc,ekc⟩:∃kc∈aH,aZ (.str aH) (.int<|(kd:Int)-1)=.ok (.str [kc]):=by
  by_cases h:kd=0
  .subst h;exact⟨122,by decide,by simp[aZ,wa,aH,line,guard_pos]⟩
  .exact tO ∅ (by simp[aH];lia) ∅
 obtain⟨kx,hkx,ekx⟩:∃kx,(kx=[]\/∃c∈aH,kx=[c])/\aZ (.lst [.str [],.str [kc]]) (.int<|if 0<kd then 1 else 0)=.ok (.str kx):=by
  by_cases h:0<kd
  .exact⟨[kc],.inr ⟨kc,hkc,rfl⟩,by rw[W1 h];rfl⟩
  .exact⟨[],.inl rfl,by rw[o0 h];rfl⟩
 rw[Cz];have:Ok (bc<|ma [v (.str nm),v (.int c),Ch,Ch,Ch,Ch,Ch,Ch,Ch,Ch]) λ x=>x=KS.dP ⟨nm,w+1,d+1,kx,wd,gp,u0,((FB 6).filter λ i=>decide<|(bt:Int) / pw2 i % 2=1).map λ i=>(i,1+([u1,u2,u3,u4,u5,u6][i]?.getD 0))⟩:=by
  refine pS ?_;simp[ma,line,Ce,dg,t6,hU,bO,q1,hM,q3,hwd,BR,dg2,aQ,dC,cD,ekc,ekx];have e6:«zints» 0 6=(FB 6).map λ i=>D.int ((i:Nat):Int):=by simp[«zints»]
  have i0:aZ (.lst [.int (u0:Nat),.int (u1:Nat),.int (u2:Nat),.int (u3:Nat),.int (u4:Nat),.int (u5:Nat),.int (u6:Nat)]) (.int 0)=.ok (.int (u0:Nat)):=rfl;rw[e6];refine bz (λ i=>D.int ((i:Nat):Int)) (λ i=>decide<|(bt:Int) / pw2 i % 2=1) (λ i=>KS.hV (i,1+([u1,u2,u3,u4,u5,u6][i]?.getD 0))) (λ i hi=>?_) ?_
  .have t2:∀a b c d e f,aZ (.lst [a,b,c,d,e,f]) (.int 0)=.ok a/\aZ (.lst [a,b,c,d,e,f]) (.int 1)=.ok b/\aZ (.lst [a,b,c,d,e,f]) (.int 2)=.ok c/\aZ (.lst [a,b,c,d,e,f]) (.int 3)=.ok d/\aZ (.lst [a,b,c,d,e,f]) (.int 4)=.ok e/\aZ (.lst [a,b,c,d,e,f]) (.int 5)=.ok f:=λ _ _ _ _ _ _=>⟨rfl,rfl,rfl,rfl,rfl,rfl⟩
   have t7:∀o a b c d e f,aZ (.lst [o,a,b,c,d,e,f]) (.int 1)=.ok a/\aZ (.lst [o,a,b,c,d,e,f]) (.int 2)=.ok b/\aZ (.lst [o,a,b,c,d,e,f]) (.int 3)=.ok c/\aZ (.lst [o,a,b,c,d,e,f]) (.int 4)=.ok d/\aZ (.lst [o,a,b,c,d,e,f]) (.int 5)=.ok e/\aZ (.lst [o,a,b,c,d,e,f]) (.int 6)=.ok f:=λ _ _ _ _ _ _ _=>⟨rfl,rfl,rfl,rfl,rfl,rfl⟩
   have hi:=A24.mp hi;obtain h|h|h|h|h|h:i=0\/i=1\/i=2\/i=3\/i=4\/i=5:=by lia
   all_goals subst h
   all_goals
    simp[line,bO,t2,t7,pw2,KS.hV]
    try (rw[A51];simp)
  .rw[i0];simp[KS.dP]
 let⟨x,e,rfl⟩:=this;refine⟨_,⟨Gq.1,Gq.2.1,Gq.2.2,by show 1<=w+1;lia,by show w+1<=12;lia,by show 1<=d+1;lia,by show d+1<=3;lia,hkx,by show wd<=(w+1)*(d+1);lia,by show gp<=6;lia,?_,?_,?_,?_⟩,rfl,e⟩
 .exact Zb 0 _ _ rfl rfl
 .show(((FB 6).filter _).map _).length<=6;rw[A04];exact A11 (A50 _ _) ∅
 .intro p hp;let⟨i,hi,rfl⟩:=v6.mp hp;have hi:=A24.mp (A44.mp hi).1;refine⟨by show i<=5;lia,by show 1<=1+_;lia,?_⟩;show 1+[u1,u2,u3,u4,u5,u6][i]?.getD 0<10^60;obtain⟨u,hu⟩:∃u,[u1,u2,u3,u4,u5,u6][i]?=AC u:=⟨_,A00 (by simpa using hi)⟩
  rw[hu];exact Nat.add_lt_of_lt_sub'<|Zb (i+1) _ u (by rw[C48,A49,W1 hi]) hu
 .show((((FB 6).filter _).map _).map _).Pairwise _;rw[A16];refine B42.mpr<|(C24.filter _).imp λ h=>h
def Zu(N:γ (γ Nat))(g:G):Prop:=Dr g/\g.name∈N/\Ex g
theorem X3(h:KS.Hg nm):KS.cB [.str nm]=.ok (.bl Da):=by
 rw[KS.D! nm (by have:=h.2.1;lia)];have:KS.vW nm=Da:=by simp[KS.vW,h.1,h.2.1];exact h.2.2
 rw[this]
theorem more_le(r B:Int):∀ws:γ Pl,(∀p∈ws,0<=p.2/\p.2<B)->0<=KB.more ws r/\KB.more ws r<=ws.length*B
|[],_=>by simp[KB.more]
|p::ws,h=>by
 let⟨a,b⟩:=more_le r B ws λ q hq=>h q (A07 _ hq);have hp:=h p A08;unfold KB.more at *;rw[A27,Int.natCast_succ,Int.add_mul,Int.one_mul];by_cases c:p.1=r
 .rw[B17 (by simp[c]),v4,B59];lia
 .rw[A84 (by simp[c])];lia
theorem drawn(k:KS.C8 s)(hn:s.nm∈N):∃g,KS.dP s=aD g/\Zu N g:=by
 refine⟨⟨s.nm,s.w,s.d,s.kd,s.wi,s.ga,.int s.wo,.tup<|s.ws.map KS.hV⟩,rfl,⟨aco k.w1 k.w2 k.d1 k.d2 k.kd k.wi k.ga ⟨(s.wo),s.ws.map λ p=>((p.1),(p.2)),by rw[A04];exact k.wl,rfl,by rw[A16];rfl⟩,KS.Ke k,X3 ⟨k.n1,k.n2,k.nl⟩⟩,hn,by have:=k.n2;show s.nm.length<=9;lia,λ r=>?_⟩;have e:KB.V9 (.tup<|s.ws.map KS.hV)=s.ws.map λ p=>((p.1:Int),(p.2:Int)):=by rw[<-KB.wZ<|s.ws.map _,A16];rfl
 let⟨a,b⟩:=more_le r (10^60) (s.ws.map λ p=>((p.1:Int),(p.2:Int))) λ p hp=>by let⟨q,hq,rfl⟩:=v6.mp hp;have:=(k.wr q hq).2;exact⟨Int.natCast_nonneg _,by have:=this.2;show(q.2:Int)<10^60;exact_mod_cast this⟩
 have wo:=k.wo;have wl:=k.wl;rw[A04]at b;have h2:(s.wo:Int)<10^60:=by exact_mod_cast wo
 have h3:(s.ws.length:Int)*10^60<=6*10^60:=C62 ∅ ∅;have h4:(10:Int)^62=100*10^60:=by decide
 show 0<=(s.wo:Int)+KB.more (KB.V9<|.tup<|s.ws.map KS.hV) r/\(s.wo:Int)+KB.more (KB.V9<|.tup<|s.ws.map KS.hV) r<10^62;rw[e,h4];generalize (10:Int)^60=B at *;lia
theorem u9(hb:Bd ns){st:Int}(oJ:0<=st){nms N:γ (γ Nat)}(hl:nms.length<=12)(hN:∀n∈nms,n∈N/\KS.Hg n):∃gs:γ G,gs.length=nms.length/\(∀g∈gs,Zu N g)/\gN [.lst (ns.map .int),.int st,.lst (nms.map .str)]=.ok (.tup<|gs.map aD):=by
 let⟨f,ef,hf⟩:=o? hb (k:=0) ∅;let⟨la,lb,hla,hlb,el⟩:=Ab (f / 144 % 1000000000000000000000000000000000000000000000000000000000000);have hlm:nms.length<=16777216:=by lia
 have:Ok (bc<|ik [v (.lst<|ns.map .int),v (.int st),v (.lst<|nms.map .str),Ch,Ch,Ch,Ch]) λ d=>∃gs:γ G,gs.length=nms.length/\(∀g∈gs,Zu N g)/\d=.tup (gs.map aD):=by
  refine pS ?_;simp[ik,ef,bO,el,line,hlm];refine fq (λ i ρ=>∃gs x5 x6,gs.length=i/\(∀g∈gs,Zu N g)/\ρ=[v (.lst<|ns.map .int),v (.int st),v (.lst<|nms.map .str),vs [la,lb],ow (gs.map aD),x5,x6]) ⟨[],Ch,Ch,rfl,by simp,rfl⟩ ?_ ?_
  .rintro j d ρ hj ⟨gs,x5,x6,OM,hg,rfl⟩;let⟨Ba,rfl⟩:=ints_get hj;let⟨c,ec,_⟩:=o? hb (k:=st+(j:Int)) ∅;obtain⟨nm,Gq⟩:∃nm,nms[j]?=AC nm:=⟨_,A00 Ba⟩
   have en:aZ (.lst<|nms.map .str) (.int (j:Int))=.ok (.str nm):=(gm (j:=j) rfl (by simp[Gq])).2;have T!:gs.length<16777216:=by lia
   have q1:bA 7 (j:Int):=cY ∅ ∅;have q2:bA (7*(j:Int)) (j:Int):=fv ∅ ∅;by_cases h:f % 2=1/\c % 3>0
   .let⟨s,hs,hsn,eg⟩:=Va (c / 3) (hN nm<|A18 Gq).2;let⟨g,eG,hgg⟩:=drawn hs (hsn▸(hN nm<|A18 Gq).1);rw[eG]at eg;simp[ef,ec,en,bO,h.1,h.2,eg,line,T!];refine⟨gs++[g],by simp[OM],?_,by simp⟩;intro y hy;rcases A37.mp hy with hy|hy
    .exact hg y hy
    .rw[A15]at hy;subst hy;exact hgg
   .let⟨s,hs,hsn,eg⟩:=Kf (c / 3+7*(j:Int)*(j:Int)) (hN nm<|A18 Gq).2 hla hlb;let⟨g,eG,hgg⟩:=drawn hs (hsn▸(hN nm<|A18 Gq).1);rw[eG]at eg;have fin:∃Um:γ G,Um.length=j+1/\(∀g∈Um,Zu N g)/\gs.map aD++[aD g]=Um.map aD:=by
     refine⟨gs++[g],by simp[OM],?_,by simp⟩;intro y hy;rcases A37.mp hy with hy|hy
     .exact hg y hy
     .rw[A15]at hy;subst hy;exact hgg
    by_cases h1:f % 2=1
    .have h2:¬0<c % 3:=λ h2=>h ⟨h1,h2⟩;simp[ef,ec,en,bO,h1,h2,eg,line,T!,q1,q2];exact fin
    .simp[ef,ec,en,bO,h1,eg,line,T!,q1,q2];exact fin
  .rintro ρ ⟨gs,x5,x6,OM,hg,rfl⟩;rw[fU]at OM;simp;exact⟨gs,OM,hg,rfl⟩
 rw[<-vf]at this;let⟨d,e,gs,h1,h2,rfl⟩:=this;exact⟨gs,h1,h2,e⟩
end gj
namespace gj
open Z
open KG (G GO Pl Rows Hall fG GOk aD aN bP aS places)
open KH (av ai Good)
open KB (a! du bQ iS ju Ext Full)
theorem OA{R L:Nat}{rows:Rows}(H:KA.Hall R L rows):tH ie [aS rows]=.ok [aS rows,.tup [],.tup [],.tup []]:=by
 have e:KA.gA [.tup (rows.map .str)]=.ok (.bl Da):=by
  have:=KA.Cm (.tup<|rows.map .str) λ xs e=>by cases e;refine⟨by have:=H.len;have:=H.r2;simp;lia,λ x hx=>?_⟩;let⟨r,hr,rfl⟩:=v6.mp hx;have hl:=H.each r hr;have:=H.l2;exact λ cs e=>by cases e;lia
  rw[this];show Res.ok (D.bl<|KA.Aq _)=_;rw[H.b]
 have e:KA.gA [aS rows]=.ok (.bl Da):=e;generalize aS rows=hh at *;refine JF λ x=>?_;unfold ie;rw[dX _ _ _ _ _ rfl];have:lM (startB 2 [Da,AT] [e! x 0 [] [],hh])=.ok (.nx [AC (.bor<|e! x 0 cf [hh,.tup [],.tup [],.tup []]),v hh]):=by have s0:startB 2 [Da,AT] [e! x 0 [] [],hh]=[AC (.bor<|e! x 0 [] []),v hh]:=rfl;rw[s0];simp[lM,aU,aE,mq,e,uU,e!,eK,cf,bq,iE,lr,line,guard_pos]
 rw[this];rfl
theorem JG{d dd:D}(ha:a ρ=.ok d)(hm:tH m [d]=.ok fs)(hT:iE [i] 0 (ρ.set i<|some<|.bor<|.dct [] []))(hr:∀x,∃ts,r (ρ.set i<|some<|.bor<|e! x 0 cf fs)=.ok (.rt dd ts)):xx i m a r ρ=.ok (.rt dd):=by unfold xx;rw[ha,Res.jX,hm,Res.jX,guard_pos hT];refine P6 λ x=>?_;let⟨ts,e⟩:=hr x;rw[e];rfl
theorem B8(h1:a ρ=.ok (.nx ρ1))(h2:b ρ1=r):aU a b ρ=r:=by unfold aU;rw[h1];exact h2
theorem NQ(hi:i∉ms)(hl:ts.length=ms.length)(h:∀x,∃t,r (ρ.set i<|some<|.bor<|e! x 1 [] [])=.ok (.rt d<|ts++[t])):Ee ms i r ρ=.ok (.rt d ts):=by unfold Ee;rw[guard_pos hi];refine allM_mk λ x=>?_;let⟨t,e⟩:=h x;rw[e];show guard _ _=_;rw[guard_pos (by rw[A28,hl];rfl),<-hl,List.take_left' rfl]
theorem i0(rows:Rows)(C:Nat)(N:γ _):I rows C N [] [] [] 0:=by refine⟨⟨by simp,by simp,by simp,by show 1<=250;decide,⟨⟨rfl,λ i g p h=>(by cases h)⟩,λ i g p h=>(by cases h),λ i g h=>(by cases h),λ z e _ _=>?_⟩⟩,⟨by simp,λ c=>rfl⟩,M2 _,by simp,by simp⟩;have:=A80 (by rw[<-e.len];rfl);subst this;exact⟨Int.le_refl _,λ _=>.inl rfl⟩
theorem ints_of:∀{l:γ D},(∀d∈l,∃i,d=.int i)->∃cs:γ Int,l=cs.map .int
|[],_=>⟨[],rfl⟩
|d::l,h=>by let⟨i,rfl⟩:=h d A08;let⟨cs,rfl⟩:=ints_of λ z hz=>h z (A07 _ hz);exact⟨i::cs,rfl⟩
end gj
namespace gj
open Z
open KG (G GO Pl Rows Hall fG GOk aD aN bP aS places bR)
open KH (av ai Good)
open KB (a! du bQ iS ju Ext Full wS wO y7)
variable{rows:Rows}{C:Nat}{N:γ (γ Nat)}{xs m:γ GO}{kv:c8}{j:Nat}
noncomputable def txt(z:GO):γ Nat:=z.1.name++[32]++match z.2 with
|some p=>pT p
|none=>[]
theorem XY{ts:γ (γ Nat)}(hl:ts.length<=6)(h:∀x∈ts,x.length<=1000):kL (.str [59,32]) (.lst<|ts.map .str)=.ok (.str<|iG [59,32] ts):=by
 have h1:(ts.map List.length).sum<=ts.length*1000:=by
  clear hl
  induction ts with
  |nil=>simp
  |cons x r ih=>have:=ih λ y hy=>h y<|A07 _ hy;have:=h x A08;simp only[v4,B59,A27];lia
 show(match jm _ with|some ts=>guard ((ts.map _).sum+ts.length*2<=line) _|none=>Res.bad)=_;rw[mR];simp only;rw[guard_pos];simp only[line];lia
theorem item(H:Hall rows C)(i:I rows C N xs m kv j)(z:GO)(hz:z∈m):∃p,z.2=AC p/\Zl p/\z.1.name.length<=9:=by
 let⟨k,hk⟩:=A73 hz;cases e:z.2 with
 |none=>exact(i.s.best.full k z.1 (by rw[hk,<-e])).elim
 |some p=>
  let⟨r1,r2,r3,r4⟩:=Iz H i.s hk e;refine⟨p,rfl,Ds r1 r2 r3 r4,?_⟩;have:z.1∈xs.map (·.1):=by rw[i.s.best.ext.gs];exact v6.mpr ⟨_,hz,rfl⟩
  let⟨q,hq,e⟩:=v6.mp this;rw[<-e];exact(i.nm q hq).2.1
theorem V3(i:I rows C N xs m kv j):kS (xs.map λ x=>aD x.1) (m.map λ x=>bP x.2)=m.map λ z=>.tup [aD z.1,bP z.2]:=by
 have:xs.map (λ x=>aD x.1)=m.map λ x=>aD x.1:=by have:=A12 (List.map aD) i.s.best.ext.gs;rw[A16,A16]at this;exact this
 rw[this];exact KB.zip_map _ _ _
theorem HR(H:Hall rows C)(i:I rows C N xs m kv j)(e:EF)(he:∀z∈m,∀p,z.2=AC p->Zl p->z.1.name.length<=9->e [v (aD z.1),v (aN p)]=.ok (.str<|z.1.name++[32]++pT p))(ρ:Env)(hρ:ρ.length=2):bC (dE [0,1]) bI e ρ (m.map λ z=>.tup [aD z.1,bP z.2])=.ok ((m.map txt).map .str):=by
 have:Ok (bC (dE [0,1]) bI e ρ<|m.map λ z=>.tup [aD z.1,bP z.2]) λ ds=>ds=(m.map txt).map .str:=by
  match ρ,hρ with
  |[a,b],_=>refine bz (λ z:GO=>.tup [aD z.1,bP z.2]) (λ _=>Da) (λ z=>.str<|txt z) (λ z hz=>?_) (by rw[A83.mpr λ _ _=>rfl,A16];rfl);let⟨p,e1,s,l⟩:=item H i z hz;have gX:∀ρ:Env,dE [0,1] (.tup [aD z.1,bP z.2]) ρ=.ok ((ρ.set 0<|v<|aD z.1).set 1<|v<|bP z.2):=λ ρ=>rfl;have q:=he z hz p e1 s l;rw[gX,e1];simp[txt,e1,bP,q]
 exact this.eq
theorem wU(a b:γ Nat)(h:a.length+b.length<=1000):aL (.str a) (.str b)=.ok (.str<|a++b):=by
 have:a.length+b.length<=16777216:=by lia
 simp[line,this]
theorem JH(i:I rows C N xs m kv j):m.length=xs.length:=i.s.best.ext.len.symm
theorem YD(H:Hall rows C)(i:I rows C N xs m kv j):kL (.str [59,32]) (.lst<|(m.map txt).map .str)=.ok (.str<|iG [59,32]<|m.map txt):=XY (by rw[A04,JH i];exact i.s.six) λ x hx=>by let⟨z,hz,rfl⟩:=v6.mp hx;let⟨p,e1,s,l⟩:=item H i z hz;have:=s.l1;have:=s.l2;simp[txt,e1];lia
def allT_K96?(m:γ GO):γ Nat:=if m=[]then[110,111,98,111,100,121]else iG [59,32] (m.map txt)
theorem Vb(H:Hall rows C)(i:I rows C N xs m kv j):(∀x:Nat,cx [dk x (aS rows) (av xs) (ai xs) (ai m)]=.ok (.str<|allT_K96? m))/\dh [av xs,ai m]=.ok (.str<|allT_K96? m):=by
 have ml:=JH i;have h6:=i.s.six;have q0:m.length<=16777216:=by lia
 have zm:=V3 i;have gk:=YD H i;cases xs with
 |nil=>
  have:m=[]:=A80 ml;subst this;refine⟨λ x=>?_,?_⟩
  .generalize aS rows=hh at *;rw[jL];refine ay ?_;have e:oEq (.tup []) (.tup [])=.ok (.bl Da):=rfl;simp[fg,av,eM,cR,fi,cf,e,allT_K96?,line]
  .rw[qU];refine ay ?_;have e:oEq (.tup []) (.tup [])=.ok (.bl Da):=rfl;simp[kB,av,e,allT_K96?,line]
 |cons y r=>
  have mn:m≠[]:=λ e=>by rw[e]at ml;cases ml
  have eA:allT_K96? m=iG [59,32] (m.map txt):=o0 mn;rw[eA];have c1:=HR H i (eB aL (eB aL (eX 0 0)<|eC<|.str [32])<|aj bJ<|aV 1 ah) λ z hz p e1 s l=>by have:=s.l1;have:=s.l2;have a1:=wU z.1.name [32] (by simp;lia);have a2:=wU (z.1.name++[32]) (pT p) (by simp;lia);have sp:=s.pl;generalize z.1.name++[32]++pT p=R at *;generalize z.1.name++[32]=A at *;generalize pT p=T at *;simp[p9,sp,a1,a2]
  have c2:=HR H i (eB aL (eB aL (eB aL (eB aL (eX 0 0)<|eC<|.str [32])<|eU hJ<|eX 1 0)<|eC<|.str [32])<|eU hJ<|eX 1 1) λ z hz p e1 s l=>by have:=s.l1;have:=s.l2;have i0:aZ (aN p) (.int 0)=.ok (.int p.1):=rfl;have i1:aZ (aN p) (.int 1)=.ok (.int p.2):=rfl;have a1:=wU z.1.name [32] (by simp;lia);have a2:=wU (z.1.name++[32]) (fF p.1.toNat) (by simp;lia);have a3:=wU (z.1.name++[32]++fF p.1.toNat) [32] (by simp;lia);have a4:=wU (z.1.name++[32]++fF p.1.toNat++[32]) (fF p.2.toNat) (by simp;lia);rw[show z.1.name++[32]++pT p=z.1.name++[32]++fF p.1.toNat++[32]++fF p.2.toNat by simp];generalize z.1.name++[32]++fF p.1.toNat++[32]++fF p.2.toNat=R at *;generalize z.1.name++[32]++fF p.1.toNat++[32]=B at *;generalize z.1.name++[32]++fF p.1.toNat=A at *;generalize z.1.name++[32]=A' at *;simp[p9,i0,i1,s.t1,s.t2,a1,a2,a3,a4]
  refine⟨λ x=>?_,?_⟩
  .generalize aS rows=hh at *;rw[jL];refine ay ?_;have e:oEq (.tup<|(y::r).map λ x=>aD x.1) (.tup [])=.ok (.bl AT):=rfl;have c1:=c1 [Ch,Ch] rfl;simp only[av,ai];generalize ((y::r).map λ x=>aD x.1)=G0 at *;generalize (m.map txt).map D.str=TS at *;simp[fg,eM,cR,fi,cf,e,aQ,c!,zm,c1,gk,q0,line]
  .rw[qU];refine ay ?_;have e:oEq (.tup<|(y::r).map λ x=>aD x.1) (.tup [])=.ok (.bl AT):=rfl;have c2:=c2 [Ch,Ch] rfl;simp only[av,ai];generalize ((y::r).map λ x=>aD x.1)=G0 at *;generalize (m.map txt).map D.str=TS at *;simp[kB,e,aQ,c!,zm,c2,gk,q0,line]
theorem HN:∀{m:γ GO},(∀z∈m,Ex z.1)->0<=wS m/\wS m<=m.length*10^62
|[],_=>by simp[wS]
|z::m,h=>by
 let⟨a,b⟩:=HN λ y hy=>h y (A07 _ hy);have hz:0<=wO z/\wO z<=10^62:=by
  let⟨g,o⟩:=z;cases o with
  |none=>exact⟨(by decide:(0:Int)<=0),(by decide:(0:Int)<=10^62)⟩
  |some p=>have:=(h _ A08).2 p.1;exact⟨this.1,Int.le_of_lt this.2⟩
 unfold wS at *;rw[v4,B59,A27,Int.natCast_succ,Int.add_mul,Int.one_mul];generalize (10:Int)^62=B at *;lia
theorem Fc(i:I rows C N xs m kv j):∃t:γ Nat,hJ (.int<|wS m)=.ok (.str t):=by
 let⟨a,b⟩:=HN (m:=m) λ z hz=>by
  have:z.1∈xs.map (·.1):=by rw[i.s.best.ext.gs];exact v6.mpr ⟨_,hz,rfl⟩
  let⟨q,hq,e⟩:=v6.mp this;rw[<-e];exact(i.nm q hq).2
 have h6:=i.s.six;rw[<-JH i]at h6;have:(m.length:Int)*10^62<=6*10^62:=C62 ∅ ∅;have h:wS m<10^70:=Int.lt_of_le_of_lt (Int.le_trans b this) ∅;have:=B4 (wS m).toNat (by rw[B16 a];exact h);rw[B16 a]at this;exact⟨_,this⟩
end gj
namespace gj
open Z
open KG (G GO Pl Rows Hall fG GOk aD aN bP aS places bR)
open KH (av ai Good)
open KB (a! du bQ iS ju Ext Full wS)
variable{rows:Rows}{C:Nat}{N:γ (γ Nat)}{xs m:γ GO}{kv:c8}{j:Nat}{S X0 X2:D}
def Vo(l:ε L):Prop:=l=Ch\/∃d,l=v d
noncomputable abbrev lE(X0 hall X2 S DK st dct:D)(l7 l8 l9 Cf:ε L):Env:=[v X0,v hall,v X2,v S,AC (.bor DK),v st,AC (.bor dct),l7,l8,l9,Cf]
abbrev lB1:SM:=tI 5<|bB bF [Da,AT,AT,Da,AT,AT] [4,6]<|ag (eM 0 4)<|aV 1<|aV 5<|ag (eM 1 6)<|ag (eB aZ (eW 3)<|eB oMod (eB oDiv (eW 7)<|eI 8)<|eI 12)<|ag (eB oMod (eW 7)<|eI 8) ah
abbrev lB2:SM:=aE ([4]++[6])<|dH (tE<|eU fO<|eW 5) (aF<|eC<|.bl AT) aJ
abbrev lB3:SM:=aE ([4]++[6])<|zF (eV 5)<|t8 [8,9,10]
abbrev lB4:SM:=aE ([4]++[6])<|dH (vG (tE<|eB jF (aj cG<|ag (eM 0 4) ah)<|eW 8)<|vG (tE<|eB jF (aj cF<|ag (eM 0 4) ah)<|eW 9)<|tE<|eB jF (aj bK<|ag (eM 0 4) ah)<|eW 10) (aF<|eC<|.bl AT) aJ
abbrev _h:SM:=fR (kM (qI<|tE<|eB oEq (eB oMod (eW 7)<|eI 8)<|eI 7)<|yM<|mB jF (bB aP [Da,AT] [4]<|ag (eM 0 4)<|ag (eC<|.str [97,108,108]) ah)<|mP<|aj dh<|aV 8<|aV 9 ah) (aE ([4]++[6])<|aF<|eC<|.bl AT) cW
abbrev _g:SM:=fR (kM (qI<|tE<|eB D5 (eB oMod (eW 7)<|eI 8)<|eI 5)<|yM<|mB jF (bB aP [Da,AT] [4]<|ag (eM 0 4)<|ag (eC<|.str [119,111,114,116,104]) ah)<|mP<|eU hJ<|eW 10) (aE ([4]++[6])<|aF<|eC<|.bl AT) cW
abbrev lB:SM:=aU lB1<|aU lB2<|aU lB3<|aU lB4<|aU _h _g
theorem GA{ms:γ Nat}{B:SM}{ρ ρ':Env}{d:D}(hk:bq ms ρ (ρ.set 7<|v d))(hB:B (ρ.set 7<|v d)=.ok (.nx ρ'))(r:γ D):jq ms (aG 7) B (d::r) ρ=jq ms (aG 7) B r ρ':=by simp only[jq,aG,Res.jX,guard_pos hk,hB]
section
variable{DK Hi hall st yH gs ps dct U0 g:D}{c w:Int}{k0 k1 k2 k3:γ (Sum Int<|γ Nat)}{a0 a1 a2 a3:Int}{v0 v1 v2 v3:γ D}{l7 l8 l9 Cf:ε L}{t t2:γ Nat}
theorem one(e0:DK=.dct (.inl a0::.inl 0::k0) v0)(e1:Hi=.dct (.inl a1::.inl 0::k1) v1)(e2:dct=.dct (.inl a2::.inl 1::k2) v2)(e3:U0=.dct (.inl a3::.inl 1::k3) v3)(hS:aZ S (.int<|c / 8 % 12)=.ok g)(hd:bF [DK,hall,st,dct,g,.int (c % 8)]=.ok (gJ gs ps w,[Hi,U0]))(h1:cG [Hi]=.ok gs)(h2:cF [Hi]=.ok ps)(h3:bK [Hi]=.ok (.int w))(n1:jF gs gs=.ok (.bl AT))(n2:jF ps ps=.ok (.bl AT))(n3:jF (.int w) (.int w)=.ok (.bl AT))(h4:aP [Hi,.str [97,108,108]]=.ok (.str t,[Hi]))(h5:dh [gs,ps]=.ok (.str t))(h6:aP [Hi,.str [119,111,114,116,104]]=.ok (.str t2,[Hi]))(h7:hJ (.int w)=.ok (.str t2))(o7:Vo l7)(o8:Vo l8)(o9:Vo l9)(o10:Vo Cf)(r:γ D):jq ([4]++[6]) (aG 7) lB (.int c::r) (lE X0 hall X2 S DK st dct l7 l8 l9 Cf)=jq ([4]++[6]) (aG 7) lB r (lE X0 hall X2 S Hi (gJ gs ps w) U0 (v<|.int c) (v gs) (v ps)<|v<|.int w):=by
 subst e0 e1 e2 e3;have gX:=jU 8 9 10 gs ps w;have nT:∀t:γ Nat,jF (.str t) (.str t)=.ok (.bl AT):=λ t=>(nc<|Ku 6 t).2;have nS:fO (gJ gs ps w)=.ok (.bl AT):=rfl;have k7:=nT t;have k8:=nT t2;have V:∀{l},Vo l->lr l=False:=λ {l} h=>by rcases h with rfl|⟨d,rfl⟩<;>simp[lr]
 have tB:∀d,lr (AC<|.bor d)=True:=λ _=>rfl;have tV:∀d,lr (AC<|.val d)=False:=λ _=>rfl;have i7:=V o7;have i8:=V o8;have i9:=V o9;have i10:=V o10;have s1:lB1 (lE X0 hall X2 S (.dct (.inl a0::.inl 0::k0) v0) st (.dct (.inl a2::.inl 1::k2) v2) (v<|.int c) l8 l9 Cf)=.ok (.nx<|lE X0 hall X2 S (.dct (.inl a1::.inl 0::k1) v1) (gJ gs ps w) (.dct (.inl a3::.inl 1::k3) v3) (v<|.int c) l8 l9 Cf):=by simp[lB1,lE,tI,bB,hS,hd,eM,bO,guard_pos,qy,b7,b?,b8]
 have s2:lB2 (lE X0 hall X2 S (.dct (.inl a1::.inl 0::k1) v1) (gJ gs ps w) (.dct (.inl a3::.inl 1::k3) v3) (v<|.int c) l8 l9 Cf)=.ok (.nx<|lE X0 hall X2 S (.dct (.inl a1::.inl 0::k1) v1) (gJ gs ps w) (.dct (.inl a3::.inl 1::k3) v3) (v<|.int c) l8 l9 Cf):=by simp[lB2,lE,aE,nS,eM,bq,iE,tB,tV,i8,i9,i10,guard_pos]
 have s3:lB3 (lE X0 hall X2 S (.dct (.inl a1::.inl 0::k1) v1) (gJ gs ps w) (.dct (.inl a3::.inl 1::k3) v3) (v<|.int c) l8 l9 Cf)=.ok (.nx<|lE X0 hall X2 S (.dct (.inl a1::.inl 0::k1) v1) (gJ gs ps w) (.dct (.inl a3::.inl 1::k3) v3) (v<|.int c) (v gs) (v ps)<|v<|.int w):=by simp[lB3,lE,aE,gX,bq,iE,tB,tV,i8,i9,i10,guard_pos]
 have s4:lB4 (lE X0 hall X2 S (.dct (.inl a1::.inl 0::k1) v1) (gJ gs ps w) (.dct (.inl a3::.inl 1::k3) v3) (v<|.int c) (v gs) (v ps)<|v<|.int w)=.ok (.nx<|lE X0 hall X2 S (.dct (.inl a1::.inl 0::k1) v1) (gJ gs ps w) (.dct (.inl a3::.inl 1::k3) v3) (v<|.int c) (v gs) (v ps)<|v<|.int w):=by simp[lB4,lE,aE,h1,h2,h3,n1,n2,n3,eM,bq,iE,lr,guard_pos]
 have s5:_h (lE X0 hall X2 S (.dct (.inl a1::.inl 0::k1) v1) (gJ gs ps w) (.dct (.inl a3::.inl 1::k3) v3) (v<|.int c) (v gs) (v ps)<|v<|.int w)=.ok (.nx<|lE X0 hall X2 S (.dct (.inl a1::.inl 0::k1) v1) (gJ gs ps w) (.dct (.inl a3::.inl 1::k3) v3) (v<|.int c) (v gs) (v ps)<|v<|.int w):=by
  by_cases q:c % 8=7
  .simp[_h,lE,fR,kM,qI,yM,mB,mP,bB,cW,q,h4,h5,k7,eM,guard_pos,qy,b7,b?,b8]
  .simp[_h,lE,fR,kM,qI,yM,mB,mP,bB,cW,q,h4,h5,k7,eM,guard_pos,qy,b7,b?,b8]
 have s6:_g (lE X0 hall X2 S (.dct (.inl a1::.inl 0::k1) v1) (gJ gs ps w) (.dct (.inl a3::.inl 1::k3) v3) (v<|.int c) (v gs) (v ps)<|v<|.int w)=.ok (.nx<|lE X0 hall X2 S (.dct (.inl a1::.inl 0::k1) v1) (gJ gs ps w) (.dct (.inl a3::.inl 1::k3) v3) (v<|.int c) (v gs) (v ps)<|v<|.int w):=by
  by_cases q:5<c % 8
  .simp[_g,lE,fR,kM,qI,yM,mB,mP,bB,cW,q,h6,h7,k8,eM,guard_pos,qy,b7,b?,b8]
  .simp[_g,lE,fR,kM,qI,yM,mB,mP,bB,cW,q,h6,h7,k8,eM,guard_pos,qy,b7,b?,b8]
 exact GA (by simp[lE,bq,iE,tB,tV,i7,i8,i9,i10]) (B8 s1<|B8 s2<|B8 s3<|B8 s4<|B8 s5 s6) r
end
theorem tells(H:Hall rows C)(i:I rows C N xs m kv j):∃t t2:γ Nat,hJ (.int<|wS m)=.ok (.str t2)/\dh [av xs,ai m]=.ok (.str t)/\∀x:Nat,bK [dk x (aS rows) (av xs) (ai xs) (ai m)]=.ok (.int<|wS m)/\aP [dk x (aS rows) (av xs) (ai xs) (ai m),.str [97,108,108]]=.ok (.str t,[dk x (aS rows) (av xs) (ai xs) (ai m)])/\aP [dk x (aS rows) (av xs) (ai xs) (ai m),.str [119,111,114,116,104]]=.ok (.str t2,[dk x (aS rows) (av xs) (ai xs) (ai m)]):=by let⟨h1,h2⟩:=Vb H i;let⟨t2,h3⟩:=Fc i;have hw:KB.b9 [av xs,ai m]=.ok (.int<|wS m):=KB.r_ i.s.six i.s.Kd i.s.best.ext.gs.symm;exact⟨_,t2,h3,h2,λ x=>⟨yT hw,M5<|h1 x,FE (yT hw) h3⟩⟩
theorem loop(H:Hall rows C)(hN:N.length=6)(hS:∀c:Int,∃g,Dr g/\(g.name∈N/\Ex g)/\aZ S (.int<|c / 8 % 12)=.ok (aD g)):∀(cs:γ Int)(xs m:γ GO)(kv:c8)(j:Nat)(l7 l8 l9 Cf:ε L),I rows C N xs m kv j->j+cs.length<900->Vo l7->Vo l8->Vo l9->Vo Cf->∃jv m' Cg j' XQ XO XM JQ,I rows C N jv m' Cg j'/\∀x a:Nat,jq ([4]++[6]) (aG 7) lB (cs.map .int) (lE X0 (aS rows) X2 S (dk x (aS rows) (av xs) (ai xs)<|ai m) (gJ (av xs) (ai m)<|wS m) (dd a kv) l7 l8 l9 Cf)=.ok (.nx<|lE X0 (aS rows) X2 S (dk x (aS rows) (av jv) (ai jv)<|ai m') (gJ (av jv) (ai m')<|wS m') (dd a Cg) XQ XO XM JQ):=by
 intro cs
 induction cs with
 |nil=>intro xs m kv j l7 l8 l9 Cf i _ _ _ _ _;exact⟨xs,m,kv,j,l7,l8,l9,Cf,i,λ _ _=>rfl⟩
 |cons c cs ih=>intro xs m kv j l7 l8 l9 Cf i hj h7 h8 h9 h10;rw[A27]at hj;let⟨g,dg,gn,eS⟩:=hS c;let⟨jv,m',Cg,i',e⟩:=step (c:=c % 8) H hN i ∅ dg gn;let⟨t,t2,a1,a2,a3⟩:=tells H i';have n1:=YR i'.s.Kd;have n2:=YQ m';have n3:=(nc (d:=.int (wS m'))<|Rf 6 _).2;let⟨xs2,m2,kv2,j2,XQ,XO,XM,JQ,i2,q⟩:=ih jv m' Cg (j+1) (v<|.int c) (v<|av jv) (v<|ai m') (v<|.int<|wS m') i' ∅ (.inr ⟨_,rfl⟩) (.inr ⟨_,rfl⟩) (.inr ⟨_,rfl⟩) (.inr ⟨_,rfl⟩);exact⟨xs2,m2,kv2,j2,XQ,XO,XM,JQ,i2,λ x a=>(one rfl rfl rfl rfl eS (e x a) ON BM (a3 x).1 n1 n2 n3 (a3 x).2.1 a2 (a3 x).2.2 a1 h7 h8 h9 h10 _).trans<|q x a⟩
end gj
namespace gj
open Z
open KG (G GO Pl Rows Hall fG GOk aD aN bP aS places)
open KH (av ai Good)
open KB (a! du bQ iS ju Ext Full wS)
theorem holds(ns:γ Int)(hn:ns.length<=63)(hb:∀i∈ns,bits i<=2^20):p! [.lst (ns.map .int)]=.ok (.bl Da):=by
 have B:KG.Bd ns:=hb;let⟨rows,R,C,jK,r1,r2,c1,c2,eh⟩:=Ap B;have H:Hall rows C:=(KG.YA (by rw[jK.1];exact r1) (by rw[jK.1];exact r2) c1 c2 jK.2).toHall;have HA:KA.Hall R C rows:=⟨r1,r2,c1,c2,jK.1,λ x hx=>(jK.2 x hx).1,λ x hx=>(jK.2 x hx).2⟩
 let⟨k2,e2,_⟩:=KG.o? B (k:=2) ∅;let⟨nms,hl6,nd,nok,en⟩:=xU k2;let⟨gs,OM,_w,eg⟩:=u9 (N:=nms) B (st:=3) ∅ (nms:=nms++nms) (by rw[A28];lia) λ n h=>by
  have:n∈nms:=by rcases A37.mp h with h|h<;>exact h
  exact⟨this,nok n this⟩
 have hS:∀c:Int,∃g,Dr g/\(g.name∈nms/\Ex g)/\aZ (.tup<|gs.map aD) (.int<|c / 8 % 12)=.ok (aD g):=λ c=>by
  have hj:(c / 8 % 12).toNat<gs.length:=by rw[OM,A28];lia
  have h:=_w _<|B26 hj;refine⟨gs[(c / 8 % 12).toNat],h.1,h.2,(gm (j:=(c / 8 % 12).toNat) ∅ ?_).1⟩;rw[A06,A00 hj];rfl
 have hi:=OA HA;obtain⟨ms,hms⟩:∃ms:γ Int,cut (ns.map D.int) (AC 15) (AC 45)=ms.map .int:=ints_of λ d hd=>by have:=Eb hd;let⟨i,_,rfl⟩:=v6.mp this;exact⟨i,rfl⟩
 have _u:ms.length<=63:=by have:=ku (ns.map D.int) (AC 15)<|some 45;rw[hms,A04,A04]at this;lia
 let⟨jv,m',Cg,j',XQ,XO,XM,JQ,i',lp⟩:=loop (X0:=.lst (ns.map .int)) (X2:=.lst (nms.map .str)) (S:=.tup (gs.map aD)) H hl6 hS ([0,8,17]++ms) [] [] [] 0 Ch Ch Ch Ch (i0 rows C nms) (by simp;lia) (.inl rfl) (.inl rfl) (.inl rfl) (.inl rfl);let⟨t,t2,a1,a2,a3⟩:=tells H i';have ad:Ll (.lst<|nms.map .str) (.lst<|nms.map .str)=.ok ((nms++nms).map .str):=by
  have:nms.length+nms.length<=16777216:=by lia
  simp[Ll,line,guard_pos,this]
 rw[A23]at eg ad;rw[Us];refine ay ?_;unfold Lv;refine KS.BL (ρ1:=[v (.lst<|ns.map .int),v (aS rows),Ch,Ch,Ch,Ch,Ch,Ch,Ch,Ch,Ch]) (by simp[eh]) ?_;refine KS.BL (ρ1:=[v (.lst<|ns.map .int),v (aS rows),v (.lst<|nms.map .str),Ch,Ch,Ch,Ch,Ch,Ch,Ch,Ch]) (by simp[e2,en]) ?_;refine KS.BL (ρ1:=[v (.lst<|ns.map .int),v (aS rows),v (.lst<|nms.map .str),v (.tup<|gs.map aD),Ch,Ch,Ch,Ch,Ch,Ch,Ch]) (by simp[Ce,ad,eg]) ?_;refine⟨.rt<|.bl Da,JG (d:=aS rows) ∅ hi (by simp[iE,lr]) λ x=>?_,rfl⟩;have l1:aE [4] (aK 5<|cq<|ag (cq ah)<|ag (cq ah)<|aI 0 ah) [v (.lst<|ns.map .int),v (aS rows),v (.lst<|nms.map .str),v (.tup<|gs.map aD),AC (.bor<|e! x 0 cf [aS rows,.tup [],.tup [],.tup []]),Ch,Ch,Ch,Ch,Ch,Ch]=.ok (.nx [v (.lst<|ns.map .int),v (aS rows),v (.lst<|nms.map .str),v (.tup<|gs.map aD),AC (.bor<|e! x 0 cf [aS rows,.tup [],.tup [],.tup []]),v (gJ (.tup []) (.tup []) 0),Ch,Ch,Ch,Ch,Ch]):=by simp[aE,bq,iE,lr,line,guard_pos]
 refine⟨[dk x (aS rows) (av jv) (ai jv) (ai m')],B8 l1<|NQ ∅ rfl λ a=>⟨dd a Cg,?_⟩⟩;refine B8 (ρ1:=lE (.lst<|ns.map .int) (aS rows) (.lst<|nms.map .str) (.tup<|gs.map aD) (dk x (aS rows) (av jv) (ai jv)<|ai m') (gJ (av jv) (ai m')<|wS m') (dd a Cg) XQ XO XM JQ) ?_ ?_
 .unfold Tp;have it:∀ρ:Env,ρ[0]?=AC (v<|.lst<|ns.map .int)->cZ (eL<|Gb (eL<|bu<|aI 0<|aI 8<|aI 17 ah)<|eL<|Oa (eW 0) (rk<|eI 15)<|rk<|eI 45) ρ=.ok (([0,8,17]++ms).map .int):=λ ρ h=>by
   have q:3+ms.length<=16777216:=by lia
   simp[Ce,h,hms,Ll,line,guard_pos,q,jI]
  rw[it _ rfl];exact lp x a
 .let⟨w1,w2,w3⟩:=a3 x;have nT:jF (.str t) (.str t)=.ok (.bl AT):=(nc<|Ku 6 t).2;have eT:oEq (.str t2) (.str t2)=.ok (.bl Da):=(nc<|Ku 6 t2).1;have i0:aZ (gJ (av jv) (ai m')<|wS m') (.int 0)=.ok (av jv):=rfl;have i1:aZ (gJ (av jv) (ai m')<|wS m') (.int 1)=.ok (ai m'):=rfl;have i2:aZ (gJ (av jv) (ai m')<|wS m') (.int 2)=.ok (.int<|wS m'):=rfl;generalize av jv=G1 at *;generalize ai m'=M1 at *;generalize ai jv=O1 at *;generalize aS rows=hh at *;simp[aU,lE,fR,yM,mB,mP,bB,cW,oB,w2,w3,a1,a2,i0,i1,i2,nT,eT,eM,guard_pos,qy,b7,b?,b8]
end gj
set_option maxRecDepth 100000
namespace gj
open PySem PySem.Spec PyProof.Rows L2 ZQ KG KH KB KC KA KS
def top(i:Nat):ι:=PySem.Challenge.pw_besideseats_k96_whole_desk_played.main.body.getD i<|.Pass ⟨0,0,0,0⟩
abbrev qH(i j:Nat):ι:=ZS.clsAt (top i) j
theorem PX:bootBuiltins "bool"=AC (.type "bool"):=by kernel_rfl
theorem CW:bootBuiltins "int"=AC (.type "int"):=by kernel_rfl
theorem gQ:bootBuiltins "isinstance"=AC (.builtin "isinstance"):=by kernel_rfl
theorem Lu:bootBuiltins "max"=AC (.builtin "max"):=by kernel_rfl
theorem Ls:bootBuiltins "min"=AC (.builtin "min"):=by kernel_rfl
theorem U':bootBuiltins "str"=AC (.type "str"):=by kernel_rfl
theorem Lr:bootBuiltins "tuple"=AC (.type "tuple"):=by kernel_rfl
abbrev xw:ι:=top 67
theorem mD:a8 ["groups","seatings"] ["groups","seatings"] (ae xw):=ZS.Hz
abbrev sT:ι:=top 72
theorem kK:a8 ["groups","places","seating","waiting","k","spots","papers"] ["groups","places","seating"] (ae sT):=ZS.Hz
set_option genInjectivity false in
structure Fs(K:Db)(mg:Str->Option Value)(h:Heap)where
 X:K.In h
 G:h.Ns mainGlobals mg
 {ck:Addr}
 Bx:cr K "is_whole" (top 12)
 nX:cr K "is_whole_within" (top 13)
 zi:cr K "is_letter" (top 14)
 Fp:cr K "is_name" (top 30)
 Fq:cr K "is_kind" (top 31)
 zj:cr K "is_amount" (top 32)
 Fn:cr K "is_wish" (top 33)
 xh:cr K "are_wishes" (top 34)
 pH:cr K "asks_for_seats" (top 35)
 By:cr K "is_group" (top 36)
 Bo:cr K "worth_in" (top 37)
 Fo:cr K "is_sign" (top 41)
 HQ:cr K "is_row" (top 42)
 Ft:cr K "is_hall" (top 43)
 Fg:cr K "sign_at" (top 44)
 MA:cr K "takes" (top 46)
 Bq:cr K "seats_of" (top 47)
 RN:cr K "fits" (top 48)
 y_:cr K "places_of" (top 49)
 MC:cr K "apart" (top 51)
 pG:cr K "those_that_sit" (top 52)
 pI:cr K "apart_from_all" (top 53)
 MB:cr K "keeps" (top 54)
 Bn:cr K "worth_of" (top 55)
 sD:cr K "fast_seating" (top 58)
 RK:ZS.pz K "ways" (top 59)
 uN:cr K "small_start" (top 60)
 w9:cr K "with_place" (top 61)
 w?:cr K "open_among" (top 62)
 q!:cr K "with_one_more" (top 63)
 q?:cr K "seatings_from" (top 64)
 sC:ZS.pz K "first_of_all" (top 65)
 nY:ZS.uH K "best_among" (top 67)
 uQ:ZS.pz K "best_of_all" (top 68)
 xk:cr K "all_places" (top 70)
 Bp:cr K "spots_of" (top 71)
 iz:ZS.uH K "paper_beside" (top 72)
 Br:ZS.pz K "paper_of" (top 73)
 Ff:cr K "without" (top 85)
 w!:cr K "show_place" (top 86)
 zl:lf K ck "__init__" "Desk.__init__" (qH 87 0)
 jw:lf K ck "number_of" "Desk.number_of" (qH 87 1)
 sH:lf K ck "ask" "Desk.ask" (qH 87 2)
 qv:lf K ck "fast" "Desk.fast" (qH 87 3)
 qw:lf K ck "away" "Desk.away" (qH 87 4)
 nZ:lf K ck "where" "Desk.where" (qH 87 5)
 sG:lf K ck "at_hand" "Desk.at_hand" (qH 87 6)
 sE:lf K ck "seating" "Desk.seating" (qH 87 7)
 xl:lf K ck "worth" "Desk.worth" (qH 87 8)
 q_:lf K ck "show_all" "Desk.show_all" (qH 87 9)
 vF:lf K ck "do" "Desk.do" (qH 87 11)
 sF:lf K ck "say" "Desk.say" (qH 87 10)
 uP:cr K "_law_cell_at" (top 89)
 zb:cr K "_law_mixed" (top 90)
 xg:cr K "_law_digits" (top 91)
 za:cr K "_law_names" (top 92)
 uO:cr K "_law_letters" (top 93)
 Bu:cr K "_law_hall" (top 94)
 Fm:cr K "_law_any" (top 95)
 zd:cr K "_law_group" (top 96)
 xf:cr K "_law_groups" (top 97)
 w_:cr K "_law_places" (top 98)
 Bs:cr K "_law_ways" (top 99)
 zf:cr K "_law_apart" (top 100)
 sA:cr K "_law_worth_in" (top 101)
 Bw:cr K "_law_best" (top 102)
 Fh:cr K "_law_say" (top 103)
 ze:cr K "_law_asked" (top 104)
 Bt:cr K "_law_text" (top 105)
 Fj:cr K "_law_ask" (top 106)
 zc:cr K "_law_leave" (top 107)
 Bv:cr K "_law_deed" (top 108)
 V_:cr K "law" (top 109)
 Xx:FM K mainGlobals "all"=AC Ch
 S!:FM K mainGlobals "bool"=AC Ch
 z6:FM K mainGlobals "enumerate"=AC Ch
 Xv:FM K mainGlobals "int"=AC Ch
 xV:FM K mainGlobals "isinstance"=AC Ch
 Xu:FM K mainGlobals "len"=AC Ch
 Xt:FM K mainGlobals "max"=AC Ch
 Xs:FM K mainGlobals "min"=AC Ch
 NU:FM K mainGlobals "range"=AC Ch
 Xr:FM K mainGlobals "str"=AC Ch
 Xq:FM K mainGlobals "sum"=AC Ch
 NT:FM K mainGlobals "tuple"=AC Ch
 Xp:FM K mainGlobals "zip"=AC Ch
 {Dj:Tok}
 My:FM K mainGlobals "DEPTH"=AC (AC<|.int 2 Dj)
 {Qn:Tok}
 V?:FM K mainGlobals "GAP"=AC (AC<|.int 5 Qn)
 {H_:Tok}
 RI:FM K mainGlobals "KIND"=AC (AC<|.int 3 H_)
 {sM:Tok}
 Bm:FM K mainGlobals "LAST_ROW"=AC (AC<|.int 5 sM)
 {k!:Tok}
 sv:FM K mainGlobals "MOST_COLUMNS"=AC (AC<|.int 12 k!)
 {n!:Tok}
 w8:FM K mainGlobals "MOST_DEPTH"=AC (AC<|.int 3 n!)
 {sL:Tok}
 Bl:FM K mainGlobals "MOST_GAP"=AC (AC<|.int 6 sL)
 {mC:Tok}
 uM:FM K mainGlobals "MOST_GUESTS"=AC (AC<|.int 6 mC)
 {k9:Tok}
 su:FM K mainGlobals "MOST_LETTERS"=AC (AC<|.int 8 k9)
 {qA:Tok}
 y?:FM K mainGlobals "MOST_ROWS"=AC (AC<|.int 6 qA)
 {qz:Tok}
 y!:FM K mainGlobals "MOST_WAYS"=AC (AC<|.int 2000 qz)
 {n8:Tok}
 w6:FM K mainGlobals "MOST_WIDTH"=AC (AC<|.int 12 n8)
 {H?:Tok}
 RH:FM K mainGlobals "NAME"=AC (AC<|.int 0 H?)
 {Di:Tok}
 Mx:FM K mainGlobals "PARTS"=AC (AC<|.int 8 Di)
 {H!:Tok}
 RG:FM K mainGlobals "WIDE"=AC (AC<|.int 4 H!)
 {Dh:Tok}
 Mw:FM K mainGlobals "WIDTH"=AC (AC<|.int 1 Dh)
 {zp:Tok}
 HP:FM K mainGlobals "WISHES"=AC (AC<|.int 7 zp)
 {xE:Addr}
 Mv:FM K mainGlobals "WORDS"=AC (AC<|.ref xE)
 MD:ZS.MF K xE=AC [[97,115,107],[102,97,115,116],[97,119,97,121],[119,104,101,114,101]]
 {Dg:Tok}
 Mu:FM K mainGlobals "WORTH"=AC (AC<|.int 6 Dg)
 w_Desk:FM K mainGlobals "Desk"=AC (AC<|.ref ck)
 {h!:Addr}
 w_Full:FM K mainGlobals "Full"=AC (AC<|.ref h!)
 {iU:Addr}
 w_NoName:FM K mainGlobals "NoName"=AC (AC<|.ref iU)
 Mn:ZS.HI K h!=Da
 Fb:ZS.HI K iU=Da
 E_:ZS.wcE K iU=Da
 PK:LO K ck
 N0:ce K ck=Da
 Od:Fa K (.ref ck)=Da
 F4:GE K (.ref ck) "guests"=AC Ch
 NO:GE K (.ref ck) "hall"=AC Ch
 NN:GE K (.ref ck) "held"=AC Ch
 F3:GE K (.ref ck) "places"=AC Ch
 O4:ZS.Hh K h!
 va:GE K (.ref h!) "paper"=AC Ch
 xv:AD8 K h! (.ref h!)=AC Da
 pO:AD8 K iU (.ref iU)=AC Da
 zk:lf K h! "__init__" "Full.__init__" (qH 9 0)
 Ml:ZS.HG K h!=Da
 Oc:Fa K (.ref h!)=Da
section
variable{P:ο}{w:ξ}{K:Db}{mg:Str->ε ζ}{base h:ν}(z:Fs K mg h)
include z
theorem Fs.YG:mg "all"=Ch:=A53 z.X z.G z.Xx
theorem Fs.g_bool:mg "bool"=Ch:=A53 z.X z.G z.S!
theorem Fs.Au:mg "enumerate"=Ch:=A53 z.X z.G z.z6
theorem Fs.Kk:mg "int"=Ch:=A53 z.X z.G z.Xv
theorem Fs.ia:mg "isinstance"=Ch:=A53 z.X z.G z.xV
theorem Fs.Kj:mg "len"=Ch:=A53 z.X z.G z.Xu
theorem Fs.Rb:mg "max"=Ch:=A53 z.X z.G z.Xt
theorem Fs.Ra:mg "min"=Ch:=A53 z.X z.G z.Xs
theorem Fs.ye:mg "range"=Ch:=A53 z.X z.G z.NU
theorem Fs.EE:mg "str"=Ch:=A53 z.X z.G z.Xr
theorem Fs.YF:mg "sum"=Ch:=A53 z.X z.G z.Xq
theorem Fs.yd:mg "tuple"=Ch:=A53 z.X z.G z.NT
theorem Fs.YE:mg "zip"=Ch:=A53 z.X z.G z.Xp
theorem Fs.PU:mg "DEPTH"=AC (.int 2 z.Dj):=A22 z.X z.G z.My
theorem Fs.Y_:mg "GAP"=AC (.int 5 z.Qn):=A22 z.X z.G z.V?
theorem Fs.U7:mg "KIND"=AC (.int 3 z.H_):=A22 z.X z.G z.RI
theorem Fs.CT:mg "LAST_ROW"=AC (.int 5 z.sM):=A22 z.X z.G z.Bm
theorem Fs.uB:mg "MOST_COLUMNS"=AC (.int 12 z.k!):=A22 z.X z.G z.sv
theorem Fs.yA:mg "MOST_DEPTH"=AC (.int 3 z.n!):=A22 z.X z.G z.w8
theorem Fs.CS:mg "MOST_GAP"=AC (.int 6 z.sL):=A22 z.X z.G z.Bl
theorem Fs.vq:mg "MOST_GUESTS"=AC (.int 6 z.mC):=A22 z.X z.G z.uM
theorem Fs.uA:mg "MOST_LETTERS"=AC (.int 8 z.k9):=A22 z.X z.G z.su
theorem Fs.A3:mg "MOST_ROWS"=AC (.int 6 z.qA):=A22 z.X z.G z.y?
theorem Fs.A2:mg "MOST_WAYS"=AC (.int 2000 z.qz):=A22 z.X z.G z.y!
theorem Fs.yz:mg "MOST_WIDTH"=AC (.int 12 z.n8):=A22 z.X z.G z.w6
theorem Fs.U6:mg "NAME"=AC (.int 0 z.H?):=A22 z.X z.G z.RH
theorem Fs.PR:mg "PARTS"=AC (.int 8 z.Di):=A22 z.X z.G z.Mx
theorem Fs.U5:mg "WIDE"=AC (.int 4 z.H!):=A22 z.X z.G z.RG
theorem Fs.PQ:mg "WIDTH"=AC (.int 1 z.Dh):=A22 z.X z.G z.Mw
theorem Fs.Lp:mg "WISHES"=AC (.int 7 z.zp):=A22 z.X z.G z.HP
theorem Fs.PN:mg "WORDS"=AC (.ref z.xE):=A22 z.X z.G z.Mv
theorem Fs.PM:mg "WORTH"=AC (.int 6 z.Dg):=A22 z.X z.G z.Mu
theorem Fs.Tj:mg "Full"=AC (.ref z.h!):=A22 z.X z.G z.w_Full
theorem Fs.JI:mg "NoName"=AC (.ref z.iU):=A22 z.X z.G z.w_NoName
theorem Fs.Bf:ZS.XC K [70,117,108,108] z.h!:=ZS.Ql (by decide +kernel) z.w_Full z.Mn
theorem Fs.r!:ZS.XC K [78,111,78,97,109,101] z.iU:=ZS.Ql (by decide +kernel) z.w_NoName z.Fb
theorem Fs.hC:ZS.uI K "Desk" z.ck:=⟨z.w_Desk,z.PK⟩
theorem Fs.vV:ZS.V1 K "guests":=⟨z.ck,z.w_Desk,z.F4⟩
theorem Fs.D9:ZS.V1 K "hall":=⟨z.ck,z.w_Desk,z.NO⟩
theorem Fs.D8:ZS.V1 K "held":=⟨z.ck,z.w_Desk,z.NN⟩
theorem Fs.vU:ZS.V1 K "places":=⟨z.ck,z.w_Desk,z.F3⟩
theorem I!:ZS.Vm P w K mg base z.h! 1 [[112,97,112,101,114]]:=ZS.Y? z.zk z.Ml z.Oc z.O4 z.va (by decide +kernel) rfl (λ _ _ _ _ _ _=>ZS.Zb λ _ _=>rfl) ZS.Hz (ZS.Ms (by decide +kernel)) (by decide +kernel) (by decide +kernel)
theorem SK{f:δ}{fd:υ}(F:Bc K "law" "law" (top 109) f fd):d9 P w K mg base il 23 f fd ["_law_script"] (ZS.yI K p!):=by
 refine
 bn (p:=dL P w K mg base "is_whole" 1 ["thing"] (KC.fy)) (bg (N:=["thing"]) (z.Bx.df z.X z.G) λ nd hu hr=>?_) λ QN=>
 bn (p:=dL P w K mg base "is_whole_within" 2 ["thing","least","most"] (KC.a5)) (bg (N:=["thing","least","most"]) (z.nX.df z.X z.G) λ nd hu hr=>?_) λ B2=>
 bn (p:=dL P w K mg base "is_letter" 1 ["text"] (KA.cn)) (bg (N:=["text"]) (z.zi.df z.X z.G) λ nd hu hr=>?_) λ NC=>
 bn (p:=dL P w K mg base "is_name" 2 ["thing"] (KS.cB)) (bg (N:=["thing"]) (z.Fp.df z.X z.G) λ nd hu hr=>?_) λ SQ=>
 bn (p:=dL P w K mg base "is_kind" 2 ["thing"] (KS.j8)) (bg (N:=["thing"]) (z.Fq.df z.X z.G) λ nd hu hr=>?_) λ SR=>
 bn (p:=dL P w K mg base "is_amount" 3 ["thing","least"] (KS.fX)) (bg (N:=["thing","least"]) (z.zj.df z.X z.G) λ nd hu hr=>?_) λ ND=>
 bn (p:=dL P w K mg base "is_wish" 4 ["thing"] (KS.iI)) (bg (N:=["thing"]) (z.Fn.df z.X z.G) λ nd hu hr=>?_) λ SN=>
 bn (p:=dL P w K mg base "are_wishes" 5 ["thing"] (KS.gO)) (bg (N:=["thing"]) (z.xh.df z.X z.G) λ nd hu hr=>?_) λ L5=>
 bn (p:=dL P w K mg base "asks_for_seats" 3 ["parts"] (KS.dO)) (bg (N:=["parts"]) (z.pH.df z.X z.G) λ nd hu hr=>?_) λ DY=>
 bn (p:=dL P w K mg base "is_group" 6 ["thing"] (KS.cP)) (bg (N:=["thing"]) (z.By.df z.X z.G) λ nd hu hr=>?_) λ QO=>
 bn (p:=dL P w K mg base "worth_in" 1 ["group","row"] (KB.jd)) (bg (N:=["group","row"]) (z.Bo.df z.X z.G) λ nd hu hr=>?_) λ QC=>
 bn (p:=dL P w K mg base "is_sign" 2 ["text"] (KA.iJ)) (bg (N:=["text"]) (z.Fo.df z.X z.G) λ nd hu hr=>?_) λ SO=>
 bn (p:=dL P w K mg base "is_row" 3 ["thing"] (KA.iu)) (bg (N:=["thing"]) (z.HQ.df z.X z.G) λ nd hu hr=>?_) λ Vy=>
 bn (p:=dL P w K mg base "is_hall" 4 ["thing"] (KA.gA)) (bg (N:=["thing"]) (z.Ft.df z.X z.G) λ nd hu hr=>?_) λ SS=>
 bn (p:=dL P w K mg base "sign_at" 1 ["hall","seat"] (KG.j6)) (bg (N:=["hall","seat","row","column"]) (z.Fg.df z.X z.G) λ nd hu hr=>?_) λ SG=>
 bn (p:=dL P w K mg base "takes" 1 ["sign","kind"] (KG.oR)) (bg (N:=["sign","kind"]) (z.MA.df z.X z.G) λ nd hu hr=>?_) λ W5=>
 bn (p:=dL P w K mg base "seats_of" 1 ["group","place"] (KG.je)) (bg (N:=["group","place","seats","row"]) (z.Bq.df z.X z.G) λ nd hu hr=>?_) λ QD=>
 bn (p:=dL P w K mg base "fits" 2 ["hall","group","place"] (KG.oU)) (bg (N:=["hall","group","place","signs"]) (z.RN.df z.X z.G) λ nd hu hr=>?_) λ Z1=>
 bn (p:=dL P w K mg base "places_of" 3 ["hall","group"] (KG.ee)) (bg (N:=["hall","group","places","row"]) (z.y_.df z.X z.G) λ nd hu hr=>?_) λ Nw=>
 bn (p:=dL P w K mg base "apart" 1 ["one","here","other","there"] (KG.oV)) (bg (N:=["one","here","other","there","gap"]) (z.MC.df z.X z.G) λ nd hu hr=>?_) λ W7=>
 bn (p:=dL P w K mg base "those_that_sit" 1 ["groups","seating"] (KG.bN)) (bg (N:=["groups","seating"]) (z.pG.df z.X z.G) λ nd hu hr=>?_) λ DX=>
 bn (p:=dL P w K mg base "apart_from_all" 2 ["group","place","seated"] (KG.cQ)) (bg (N:=["group","place","seated"]) (z.pI.df z.X z.G) λ nd hu hr=>?_) λ DZ=>
 bn (p:=dL P w K mg base "keeps" 3 ["hall","groups","seating"] (KG.lC)) (bg (N:=["hall","groups","seating","seated"]) (z.MB.df z.X z.G) λ nd hu hr=>?_) λ W6=>
 bn (p:=dL P w K mg base "worth_of" 2 ["groups","seating"] (KB.b9)) (bg (N:=["groups","seating"]) (z.Bn.df z.X z.G) λ nd hu hr=>?_) λ zQ=>
 bn (p:=dL P w K mg base "fast_seating" 4 ["hall","groups","fast"] (KB.ba)) (bg (N:=["hall","groups","fast","seating"]) (z.sD.df z.X z.G) λ nd hu hr=>?_) λ Hs=>
 bn (p:=ZS.uJ P w K mg base "ways" 5 ["hall","groups","fast"] (KB.rW)) (yy (N:=["hall","groups","fast","many","group","place"]) (z.RK.df z.X z.G) λ nd hu hr=>?_) λ Z0=>
 bn (p:=dL P w K mg base "small_start" 6 ["hall","groups","fast"] (KB.dU)) (bg (N:=["hall","groups","fast","many"]) (z.uN.df z.X z.G) λ nd hu hr=>?_) λ I?=>
 bn (p:=dL P w K mg base "with_place" 1 ["seating","k","place"] (KH.bX)) (bg (N:=["seating","k","place"]) (z.w9.df z.X z.G) λ nd hu hr=>?_) λ uV=>
 bn (p:=dL P w K mg base "open_among" 3 ["places","group","seated"] (KH.dI)) (bg (N:=["places","group","seated"]) (z.w?.df z.X z.G) λ nd hu hr=>?_) λ L0=>
 bn (p:=dL P w K mg base "with_one_more" 4 ["hall","groups","seatings","k","some"] (KB.d_)) (bg (N:=["hall","groups","seatings","k","some","places","wider","seating","seated"]) (z.q!.df z.X z.G) λ nd hu hr=>?_) λ FV=>
 bn (p:=dL P w K mg base "seatings_from" 5 ["hall","groups","start","some"] (KB.c5)) (bg (N:=["hall","groups","start","some","seatings","k"]) (z.q?.df z.X z.G) λ nd hu hr=>?_) λ FW=>
 bn (p:=ZS.uJ P w K mg base "first_of_all" 7 ["hall","groups","fast"] (KC.e?)) (yy (N:=["hall","groups","fast","seatings"]) (z.sC.df z.X z.G) λ nd hu hr=>?_) λ Hr=>
 bn (p:=dL P w K mg base "best_among" 5 ["groups","seatings"] (KB.eQ)) (Rl (N:=["groups","seatings"]) (b:=KB.f_) (z.nY.1.df z.X z.G) mD (z.nY.lam z.X z.G) λ _ _ _ _ _ _ _ hl hr=>have nd:=mD.nd;have hu:=hr.units;have hrL:=λ env=>ZS.zG (k:=2) (hr.mono ∅) env;(lZ<|j_<|yu (ZS.El hl (by decide +kernel)) (ZS.Iy hr) rfl z.Rb Lu dG (N':=["seating","groups"]) (is:=[0]) (lw (by kernel_rfl)) rfl (λ _ _ _ _ _=>(cH zQ (bo cX<|bo cX c7) (hr:=((hrL _).mono ∅)))) λ _ _ _ _ _ _=>rfl)) λ L4=>
 bn (p:=ZS.uJ P w K mg base "best_of_all" 7 ["hall","groups","fast"] (KB.bj)) (yy (N:=["hall","groups","fast","start"]) (z.uQ.df z.X z.G) λ nd hu hr=>?_) λ Ja=>
 bn (p:=dL P w K mg base "all_places" 4 ["hall","groups"] (KC.gP)) (bg (N:=["hall","groups"]) (z.xk.df z.X z.G) λ nd hu hr=>?_) λ L6=>
 bn (p:=dL P w K mg base "spots_of" 4 ["groups","places","seating","k"] (KC.cw)) (bg (N:=["groups","places","seating","k"]) (z.Bp.df z.X z.G) λ nd hu hr=>?_) λ qF=>
 bn (p:=∀j,dL P w K mg base "paper_beside" (7+j) ["groups","places","seating"] (KC.a_ j)) (λ j=>by induction j with| zero=>exact ZS.U3<|bg (k:=6) (N:=["groups","places","seating","waiting","k","spots","papers"]) (b:=Z.jV) (z.iz.1.df z.X z.G) λ _ _ _=>O!| succ j Vn=>exact Rl (k:=7+j) (N:=["groups","places","seating","waiting","k","spots","papers"]) (b:=KC.dY (KC.a_ j)) (z.iz.1.df z.X z.G) kK (z.iz.lam z.X z.G) λ _ _ _ _ _ _ _ hl hr=>have nd:=kK.nd;have hu:=hr.units;have hrL:=λ env=>ZS.zG (k:=4) (hr.mono ∅) env;(f7 (yq (i:=3) rfl nd rfl (lo rfl) (Y6<|AU z.ye<|yv z.Kj dG) (N':=["k","seating"]) (n:=1) (is:=[2]) (lw (by kernel_rfl)) (ZS.j5 ∅) (λ _ _ _ _ _ _=>lH) (λ _ _ _ _ _=>(De<|CF<|ig<|wH dG dG)) λ _ _ _ _ _=>cX)<|f7 (j?<|yt (ZS.El hl (by decide +kernel)) (ZS.Iy hr) rfl z.Ra Ls dG (N':=["j","groups","places","seating"]) (is:=[0,1,2]) (lw (by kernel_rfl)) rfl (λ _ _ _ _ _=>(yv z.Kj<|ig<|cH qF (bo cX<|bo cX<|bo cX<|bo cX c7) (hr:=((hrL _).mono (by omega))))) λ _ _ _ _ _ _=>rfl)<|f7 (j?<|cH qF<|bo cX<|bo cX<|bo cX<|bo cX c7)<|f7 (EL (iK (ol hu) dG<|ig<|nA c7) (lZ<|j_<|nA<|dJ km<|bo cX c7) rX)<|f7 (yq (i:=6) rfl nd rfl (lo rfl) (K5 dG) (N':=["place","groups","places","seating","k"]) (n:=1) (is:=[0,1,2,4]) (lw (by kernel_rfl)) (ZS.j5 ∅) (λ _ _ _ _ _ _=>lH) (λ _ _ _ _ _=>BB) λ _ _ _ _ _=>(cH Vn (bo cX<|bo cX<|o! (cH uV<|bo cX<|bo cX<|bo cX c7) c7) (hr:=(hr.mono<|M2 _))))<|lZ<|j_<|nA<|dJ km<|bo cX<|o! (wF z.yd dG) c7)) λ rl=>
 bn (p:=ZS.uJ P w K mg base "paper_of" 17 ["hall","groups","fast"] (KC.g0)) (yy (N:=["hall","groups","fast"]) (z.Br.df z.X z.G) λ nd hu hr=>?_) λ QF=>
 bn (p:=dL P w K mg base "without" 1 ["things","k"] (dA)) (bg (N:=["things","k"]) (z.Ff.df z.X z.G) λ nd hu hr=>?_) λ SD=>
 bn (p:=dL P w K mg base "show_place" 1 ["place"] (bJ)) (bg (N:=["place"]) (z.w!.df z.X z.G) λ nd hu hr=>?_) λ LZ=>
 bn (p:=ZS.Hj P w K mg base 5 ["self","hall"] 2 ie) (U2 (N:=["self","hall"]) rfl (z.zl.di z.hC z.N0 z.Od λ _ _ _ _ _ _=>ZS.Zb λ _ _=>rfl) λ nd hu hr=>?_) λ xJ=>
 bn (p:=pi P w K mg base "number_of" 3 ["self","name"] [Da,AT] (aM)) (qg rfl (N:=["self","name","k","guest"]) (z.jw.df z.hC) λ nd hu hr=>?_) λ D3=>
 bn (p:=rc P w K mg base "number_of" 3 ["self","name"] [Da,AT] aR) (nC rfl (N:=["self","name","k","guest"]) (z.jw.df z.hC) λ nd hu hr=>?_) λ B1=>
 bn (p:=ul P w K mg base "ask" 18 ["self","group"] [Da,AT] 5 g9) (pd rfl (N:=["self","group","guests","held","places"]) (z.sH.df z.hC) λ nd hu hr=>?_) λ QQ=>
 bn (p:=rc P w K mg base "ask" 18 ["self","group"] [Da,AT] dS) (nC rfl (N:=["self","group","guests","held","places"]) (z.sH.df z.hC) λ nd hu hr=>?_) λ Nv=>
 bn (p:=ul P w K mg base "fast" 4 ["self","name"] [Da,AT] 3 fY) (pd rfl (N:=["self","name","k"]) (z.qv.df z.hC) λ nd hu hr=>?_) λ NF=>
 bn (p:=rc P w K mg base "fast" 4 ["self","name"] [Da,AT] fV) (nC rfl (N:=["self","name","k"]) (z.qv.df z.hC) λ nd hu hr=>?_) λ LX=>
 bn (p:=ul P w K mg base "away" 8 ["self","name"] [Da,AT] 3 fZ) (pd rfl (N:=["self","name","k"]) (z.qw.df z.hC) λ nd hu hr=>?_) λ NG=>
 bn (p:=rc P w K mg base "away" 8 ["self","name"] [Da,AT] oP) (nC rfl (N:=["self","name","k"]) (z.qw.df z.hC) λ nd hu hr=>?_) λ LY=>
 bn (p:=pi P w K mg base "where" 4 ["self","name"] [Da,AT] (cV)) (qg rfl (N:=["self","name"]) (z.nZ.df z.hC) λ nd hu hr=>?_) λ L7=>
 bn (p:=rc P w K mg base "where" 4 ["self","name"] [Da,AT] gM) (nC rfl (N:=["self","name"]) (z.nZ.df z.hC) λ nd hu hr=>?_) λ I0=>
 bn (p:=pi P w K mg base "at_hand" 1 ["self"] [Da] (cG)) (qg rfl (N:=["self"]) (z.sG.df z.hC) λ nd hu hr=>?_) λ ro=>
 bn (p:=pi P w K mg base "seating" 1 ["self"] [Da] (cF)) (qg rfl (N:=["self"]) (z.sE.df z.hC) λ nd hu hr=>?_) λ rn=>
 bn (p:=pi P w K mg base "worth" 3 ["self"] [Da] (bK)) (qg rfl (N:=["self"]) (z.xl.df z.hC) λ nd hu hr=>?_) λ uX=>
 bn (p:=pi P w K mg base "show_all" 2 ["self"] [Da] (cx)) (qg rfl (N:=["self"]) (z.q_.df z.hC) λ nd hu hr=>?_) λ FX=>
 bn (p:=ul P w K mg base "do" 19 ["self","word","rest"] [Da,AT,AT] 3 dB) (pd rfl (N:=["self","word","rest"]) (z.vF.df z.hC) λ nd hu hr=>?_) λ SV=>
 bn (p:=rc P w K mg base "do" 19 ["self","word","rest"] [Da,AT,AT] fm) (nC rfl (N:=["self","word","rest"]) (z.vF.df z.hC) λ nd hu hr=>?_) λ QB=>
 bn (p:=ul P w K mg base "say" 20 ["self","row"] [Da,AT] 3 aP) (pd rfl (N:=["self","row","parts"]) (z.sF.df z.hC) λ nd hu hr=>?_) λ ja=>
 bn (p:=rc P w K mg base "say" 20 ["self","row"] [Da,AT] fw) (nC rfl (N:=["self","row","parts"]) (z.sF.df z.hC) λ nd hu hr=>?_) λ Nu=>
 bn (p:=dL P w K mg base "_law_cell_at" 1 ["_law_script","_law_k"] (KG.bx)) (bg (N:=["_law_script","_law_k"]) (z.uP.df z.X z.G) λ nd hu hr=>?_) λ s?=>
 bn (p:=dL P w K mg base "_law_mixed" 1 ["_law_cell","_law_many"] (cN)) (bg (N:=["_law_cell","_law_many","_law_number","_law_found","_law_k"]) (z.zb.df z.X z.G) λ nd hu hr=>?_) λ Nx=>
 bn (p:=dL P w K mg base "_law_digits" 1 ["_law_cell","_law_sizes"] (KH.cT)) (bg (N:=["_law_cell","_law_sizes","_law_found","_law_size"]) (z.xg.df z.X z.G) λ nd hu hr=>?_) λ L3=>
 bn (p:=dL P w K mg base "_law_names" 1 ["_law_cell","_law_many"] (ib)) (bg (N:=["_law_cell","_law_many","_law_letters_here","_law_size","_law_at","_law_step","_law_names_here","_law_k","_law_name","_law_j","_law_turn"]) (z.za.df z.X z.G) λ nd hu hr=>?_) λ xI=>
 bn (p:=dL P w K mg base "_law_letters" 1 ["_law_cell"] (cA)) (bg (N:=["_law_cell","_law_letters_here"]) (z.uO.df z.X z.G) λ nd hu hr=>?_) λ I_=>
 bn (p:=dL P w K mg base "_law_hall" 2 ["_law_script"] (jf)) (bg (N:=["_law_script","_law_way","_law_many","_law_columns","_law_rest","_law_signs","_law_numbers","_law_rows","_law_r"]) (z.Bu.df z.X z.G) λ nd hu hr=>?_) λ zR=>
 bn (p:=dL P w K mg base "_law_any" 2 ["_law_name","_law_cell"] (j7)) (bg (N:=["_law_name","_law_cell","_law_width","_law_depth","_law_kind","_law_gap","_law_bits","_law_wide","_law_sums","_law_wishes"]) (z.Fm.df z.X z.G) λ nd hu hr=>?_) λ SJ=>
 bn (p:=dL P w K mg base "_law_group" 2 ["_law_name","_law_cell","_law_letters_here"] (ic)) (bg (N:=["_law_name","_law_cell","_law_letters_here","_law_xs","_law_width","_law_depth","_law_kind","_law_wide","_law_gap","_law_worth","_law_wishes","_law_r"]) (z.zd.df z.X z.G) λ nd hu hr=>?_) λ Nz=>
 bn (p:=dL P w K mg base "_law_groups" 3 ["_law_script","_law_start","_law_names_here"] (gN)) (bg (N:=["_law_script","_law_start","_law_names_here","_law_letters_here","_law_found","_law_k","_law_cell"]) (z.xf.df z.X z.G) λ nd hu hr=>?_) λ uW=>
 bn (p:=dL P w K mg base "_law_places" 1 ["_law_hall_here","_law_group_here"] (bY)) (bg (N:=["_law_hall_here","_law_group_here","_law_found","_law_r","_law_c","_law_signs","_law_bad"]) (z.w_.df z.X z.G) λ nd hu hr=>?_) λ L1=>
 bn (p:=ZS.A! P w K mg base "_law_ways" 2 ["_law_hall_here","_law_groups_here","_law_held"] [AT,AT,Da] (dW)) (Lo rfl (N:=["_law_hall_here","_law_groups_here","_law_held","_law_found","_law_group_here"]) (z.Bs.df z.X z.G) λ nd hu hr=>?_) λ QH=>
 bn (p:=dL P w K mg base "_law_apart" 1 ["_law_one","_law_here","_law_other","_law_there"] (KH.fW)) (bg (N:=["_law_one","_law_here","_law_other","_law_there","_law_gap"]) (z.zf.df z.X z.G) λ nd hu hr=>?_) λ NB=>
 bn (p:=dL P w K mg base "_law_worth_in" 1 ["_law_group_here","_law_row"] (KB.dF)) (bg (N:=["_law_group_here","_law_row","_law_worth","_law_wished","_law_more"]) (z.sA.df z.X z.G) λ nd hu hr=>?_) λ Hq=>
 bn (p:=ZS.A! P w K mg base "_law_best" 2 ["_law_hall_here","_law_groups_here","_law_held"] [AT,AT,Da] (dm)) (Lo rfl (N:=["_law_hall_here","_law_groups_here","_law_held","_law_found","_law_group_here","_law_places_here","_law_longer","_law_sits","_law_worth","_law_place","_law_near","_law_best_here"]) (z.Bw.df z.X z.G) λ nd hu hr=>?_) λ QK=>
 bn (p:=ut P w K mg base "_law_say" 21 ["_law_desk","_law_row"] [Da,AT] 3 cz) (pe rfl (N:=["_law_desk","_law_row","_law_found"]) (z.Fh.df z.X z.G) λ nd hu hr=>?_) λ SH=>
 bn (p:=ut P w K mg base "_law_asked" 19 ["_law_desk","_law_group_here"] [Da,AT] 3 cO) (pe rfl (N:=["_law_desk","_law_group_here","_law_found"]) (z.ze.df z.X z.G) λ nd hu hr=>?_) λ NA=>
 bn (p:=dL P w K mg base "_law_text" 1 ["_law_groups_here","_law_sits"] (dh)) (bg (N:=["_law_groups_here","_law_sits"]) (z.Bt.df z.X z.G) λ nd hu hr=>?_) λ qG=>
 bn (p:=ut P w K mg base "_law_ask" 20 ["_law_desk","_law_hall_here","_law_state","_law_held","_law_group_here"] [Da,AT,AT,Da,AT] 11 cU) (pe rfl (N:=["_law_desk","_law_hall_here","_law_state","_law_held","_law_group_here","_law_groups_here","_law_sits","_law_worth","_law_wider","_law_best_here","_law_found"]) (z.Fj.df z.X z.G) λ nd hu hr=>?_) λ SI=>
 bn (p:=ut P w K mg base "_law_leave" 21 ["_law_desk","_law_hall_here","_law_state","_law_held","_law_name"] [Da,AT,AT,Da,AT] 10 eu) (pe rfl (N:=["_law_desk","_law_hall_here","_law_state","_law_held","_law_name","_law_groups_here","_law_sits","_law_worth","_law_less","_law_best_here"]) (z.zc.df z.X z.G) λ nd hu hr=>?_) λ Ny=>
 bn (p:=ut P w K mg base "_law_deed" 22 ["_law_desk","_law_hall_here","_law_state","_law_held","_law_group_here","_law_way"] [Da,AT,AT,Da,AT,AT] 11 bF) (pe rfl (N:=["_law_desk","_law_hall_here","_law_state","_law_held","_law_group_here","_law_way","_law_groups_here","_law_sits","_law_worth","_law_names_here","_law_place"]) (z.Bv.df z.X z.G) λ nd hu hr=>?_) λ zS=>
 acw (N:=["_law_script","_law_hall_here","_law_names_here","_law_some","_law_desk","_law_state","_law_held","_law_cell","_law_groups_here","_law_sits","_law_worth"]) F λ nd hu hr=>(f7 (j?<|cH zR<|bo cX c7)<|f7 (j?<|cH xI<|o! (cH s?<|bo cX<|dJ c6 c7)<|dJ c6 c7)<|f7 (j?<|cH uW<|bo cX<|dJ c6<|ET (US<|CJ dG dG) c7)<|GN (i:=4) xJ (hr.mono ∅) rfl nd rfl (lo rfl) cX λ _ _=>(fQ (gL λ _=>(j?<|nA<|qe (nA c7)<|qe (nA c7)<|dJ c6 c7))<|Ju (i:=6) nd rfl (lo rfl) λ _=>(fQ (Jx B96 rfl (K2<|US<|CJ (Ux<|EM<|dJ c6<|dJ c6<|dJ c6 c7)<|Ux<|AR dG (KW<|ig c6)<|KW<|ig c6) (λ _=>lH)<|fQ (Jv (i:=5) nd rfl (lo rfl) ∅<|Ed zS (hr.mono ∅) rfl ∅ ∅<|qc (ui<|pv 4)<|f9 cX<|f9 cX<|qc (ui<|pv 6)<|f9 (wH dG<|ig<|ur (ig<|La dG<|ig c6)<|ig c6)<|f9 (ur dG<|ig c6) l!)<|fQ (gL λ _=>(EL (CF dG) (lZ<|j_ wI) rX))<|fQ (gL λ _=>(KR cX<|K6 rfl (l3<|l3<|l3 EO) rfl))<|fQ (gL λ _=>(EL (dtw<|KP (iK (li hu) (ig<|o6 ro (hr.mono ∅) (ui<|pv 4) (by decide +kernel)) dG)<|KP (iK (li hu) (ig<|o6 rn (hr.mono ∅) (ui<|pv 4) (by decide +kernel)) dG)<|KL<|iK (li hu) (ig<|o6 uX (hr.mono ∅) (ui<|pv 4) (by decide +kernel)) dG) (lZ<|j_ wI) rX))<|fQ (D? (mtw<|B7 (S_<|iK (ol hu) (ig<|ur dG<|ig c6)<|ig c6)<|xW<|rP (li hu) (oA ja (hr.mono ∅) (ui<|pv 4) (by decide +kernel) ∅ ∅<|f9 km l!) (JB<|cH qG<|bo cX<|bo cX c7)<|jn _) (lV<|gL λ _=>(j_ wI)) rQ)<|lV<|D? (mtw<|B7 (S_<|iK sB (ig<|ur dG<|ig c6)<|ig c6)<|xW<|rP (li hu) (oA ja (hr.mono ∅) (ui<|pv 4) (by decide +kernel) ∅ ∅<|f9 km l!) (JB<|uq z.EE dG)<|jn _) (lV<|gL λ _=>(j_ wI)) rQ)<|fQ (D? (rP (li hu) (oA ja (hr.mono ∅) (ui<|pv 4) (by decide +kernel) ∅ ∅<|f9 km l!) (JB<|cH qG<|yw (wH dG<|ig c6)<|yw (wH dG<|ig c6) c7)<|jn _) (lV<|gL λ _=>(j_ wI)) rQ)<|lV<|Jw<|Ec (ol hu) (oA ja (hr.mono ∅) (ui<|pv 4) (by decide +kernel) ∅ ∅<|f9 km l!) (JB<|uq z.EE<|ig<|wH dG<|ig c6)<|jn _)))
 all_goals repeat' first
 |(refine(?_:QW _ _ _);first|exact dG|refine Ux ?_|refine ig ?_)
 |(refine(?_:QE _ _ _);first|(refine(?_:QE _ (.Name _ _) _);first|exact cX|exact GV (by first|exact z.PU|exact z.Y_|exact z.U7|exact z.CT|exact z.uB|exact z.yA|exact z.CS|exact z.vq|exact z.uA|exact z.A3|exact z.A2|exact z.yz|exact z.U6|exact z.PR|exact z.U5|exact z.PQ|exact z.Lp|exact z.PM)|exact K_ (ts:=[[97,115,107],[102,97,115,116],[97,119,97,121],[119,104,101,114,101]]) rfl z.PN z.MD)|(refine(?_:QE _ (.Constant _ _ _) _);first|exact c6|exact km|exact wI|exact UP)|(refine(?_:QE _ (.BinOp _ _ _ _) _);first|refine UZ ?_ ?_|refine ur ?_ ?_|refine La ?_ ?_|refine UR ?_ ?_|refine UL ?_ ?_|refine UM ?_ ?_|refine Pk ?_ ?_)|(refine(?_:QE _ (.Subscript _ _ _) _);first|refine wH ?_ ?_|refine K' ?_ ?_ ?_|refine UT hu ?_ ?_)|(refine(?_:QE _ (.Attribute _ _ _) _);refine UU (by first|exact z.vV|exact z.D9|exact z.D8|exact z.vU) ?_ (by decide +kernel))|(refine(?_:QE _ (.Compare _ _ _ _) _);first|refine Lc (by first|exact ol hu|exact wE |exact sB|exact wP hu|exact wT|exact wf|exact li hu|exact wn hu|exact ww) ?_ ?_|refine Ld (by first|exact ol hu|exact wE |exact sB|exact wP hu|exact wT|exact wf|exact li hu|exact wn hu|exact ww) (by first|exact ol hu|exact wE |exact sB|exact wP hu|exact wT|exact wf|exact li hu|exact wn hu|exact ww) ?_ ?_ ?_)|(refine(?_:QE _ (.BoolOp _ _ _) _);first|refine UN ?_|refine UY ?_ ?_|refine Y7 ?_ ?_)|(refine(?_:QE _ (.UnaryOp _ _ _) _);first|refine UQ ?_|refine UO ?_)|(refine(?_:QE _ (.Tuple _ _ _) _);refine nA ?_)|(refine(?_:QE _ (.IfExp _ _ _ _) _);refine K? ?_ ?_ ?_)|(refine(?_:QE _ (.Call _ _ _ _) _);first|refine yv z.Kj ?_|refine cH (by first|(refine(?_:dL P w K mg base _ _ _ _);first|with_reducible assumption|assumption)|exact ZS.uJ.full (by assumption)|exact rl _) ?_|refine Py z.YG ?_|refine wF z.yd ?_|refine uq z.EE ?_|refine Pp (by refine(?_:pi P w K mg base _ _ _ _ _);first|with_reducible assumption|assumption) (hr.mono ∅) ?_ (by decide +kernel) ?_|refine l4 .bool rfl z.ia gQ rfl z.g_bool PX ?_|refine l4 .int rfl z.ia gQ rfl z.Kk CW ?_|refine l4 .str rfl z.ia gQ rfl z.EE U' ?_|refine l4 .tuple rfl z.ia gQ rfl z.yd Lr ?_|refine Pr ?_ ?_|refine o6 (by refine(?_:pi P w K mg base _ _ _ _ _);first|with_reducible assumption|assumption) (hr.mono ∅) ?_ (by decide +kernel)|refine Pt rfl z.Kk CW ?_|refine Lf (by refine(?_:ZS.A! P w K mg base _ _ _ _ _);first|with_reducible assumption|assumption) (hr.mono ∅) rfl ?_|refine Pj z.YF ?_|refine Pq rfl z.Rb Lu ?_ ?_|refine Po rfl z.Ra Ls ?_ ?_|refine Pm ?_ ?_|refine Lb hu ?_ ?_|refine Pw ?_ ?_|refine K! hu ?_ ?_)|exact UX|refine US ?_)
 |(refine(?_:QT _ _ _);first|(refine(?_:QT _ (.Compare _ _ _ _) _);first|refine iK (by first|exact ol hu|exact wE |exact sB|exact wP hu|exact wT|exact wf|exact li hu|exact wn hu|exact ww) ?_ ?_|refine CF ?_|refine KQ (by first|exact ol hu|exact wE |exact sB|exact wP hu|exact wT|exact wf|exact li hu|exact wn hu|exact ww) (by first|exact ol hu|exact wE |exact sB|exact wP hu|exact wT|exact wf|exact li hu|exact wn hu|exact ww) ?_ ?_ ?_|refine O7 ?_|refine Uz hu ?_ ?_|refine GL hu ?_ ?_)|(refine(?_:QT _ (.UnaryOp _ _ _) _);refine Uy ?_)|(refine(?_:QT _ (.BoolOp _ _ _) _);refine dtw ?_)|refine acI ?_)
 |(refine(?_:Rr _ _ _);first|refine KL ?_|refine KP ?_ ?_|refine O8 ?_|refine UB ?_ ?_)
 |(refine(?_:QA _ _ _);first|exact c7|refine bo ?_ ?_|refine dJ ?_ ?_|refine yw ?_ ?_|refine ET ?_ ?_|refine o! ?_ ?_|refine Lh ?_ ?_|refine qe ?_ ?_|refine Lg ?_ ?_)
 |(refine(?_:yP _ _ _ _);first|refine O9 ?_|exact rX|refine lZ ?_|refine f7 ?_ ?_)
 |(refine(?_:QS _ _ _ _);first|exact UD|refine j_ ?_|refine Y1 rfl nd rfl (lo rfl) ?_ ?_ ?_ ?_ ?_|refine j? ?_|refine EL ?_ ?_ ?_|refine Pb ?_ ?_ ?_|refine O? ?_|refine KR ?_ ?_|refine UG (pv _) ?_|refine UC (pv _) ?_|refine Pc ?_|refine Pa nd rfl (lo rfl) ?_)
 |(refine(?_:QL _ _ _);first|refine EM ?_|refine Y5 ?_ ?_ ?_ ?_ ?_|refine AR ?_ ?_ ?_|refine UI ?_ ?_|refine CJ ?_ ?_)
 |(refine(?_:QI _ _ _ _);first|refine K5 ?_|refine Y6 ?_)
 |(refine(?_:LI _ _ _ _);first|exact l! |refine f9 ?_ ?_|refine qc (ui<|pv _) ?_)
 |exact ZS.j5 ∅
 |exact ZS.Gx ∅
 |intro _
 |exact ui<|pv _
 |exact lH
 |exact EO
 |exact V5
 |exact Rx
 |exact rQ
 |exact Y3
 |exact BB
 |exact Xz
 |exact Td
 |refine lV ?_
 |refine fQ ?_ ?_
 |refine l3 ?_
 |refine gL λ _=>?_
 |refine Mh ?_
 |refine HE ?_ ?_ ?_
 |refine AU z.ye ?_
 |refine UJ rfl ?_ rfl
 |refine KW ?_
 |refine Tc (by first|exact z.vV|exact z.D9|exact z.D8|exact z.vU) (pv 0) ?_ (by decide +kernel)
 |refine Mm (by refine(?_:rc P w K mg base _ _ _ _ _);first|with_reducible assumption|assumption) (hr.mono ∅) ?_ (by decide +kernel) ?_
 |refine De ?_
 |refine K2 ?_
 |refine D? ?_ ?_ ?_
 |refine oA (by refine(?_:ul P w K mg base _ _ _ _ _ _);first|with_reducible assumption|assumption) (hr.mono ∅) ?_ (by decide +kernel) ∅ ∅ ?_
 |refine Ed (by refine(?_:ut P w K mg base _ _ _ _ _ _);first|with_reducible assumption|assumption) (hr.mono ∅) rfl ∅ ∅ ?_
 |refine Jw ?_
 |refine K6 rfl ?_ rfl
 |refine Pf z.YE ?_ ?_
 |refine V6 ?_ ?_ ?_
 |refine Rz ?_
 |refine NY ?_
 |refine K3 z.ye ?_ ?_
 |refine K4 z.Au ?_
 |refine Ry (i:=2) nd rfl (lo rfl) ?_
 |refine V8 ?_ c7
 |refine RB (by refine(?_:dL P w K mg base _ _ _ _);first|with_reducible assumption|assumption) (hr.mono ∅) rfl ?_
 |refine Mi ?_
 |refine Jv nd rfl (lo rfl) ∅ ?_
 |refine RA (i:=2) nd rfl (lo rfl) ?_
 |refine Mj ?_
 |refine Ta rfl rfl rfl ?_ (λ _ _=>?_) ?_
 |refine rP (li hu) ?_ ?_<|jn _
 |refine Ec (ol hu) ?_ ?_<|jn _
 |refine Th rfl z.Kk CW ?_
 |refine XB ?_ ?_
 |refine HF rfl rfl rfl (by decide +kernel) z.r! z.E_ ?_
 |refine E? rfl rfl rfl (by decide +kernel) z.Bf (I! z) (hr.mono ∅) ?_ ∅ ∅
 |refine V7 ?_ ?_
 |refine QZ rfl z.Tj z.Bf (ZS.vI z.Bf.1 z.xv ZS.zr) (λ _=>?_) ?_
 |refine QZ rfl z.JI z.r! (ZS.vI z.r!.1 z.pO ZS.zr) (λ _=>?_) ?_
 |refine Tg (pv _) ?_
 |refine xW ?_
 |refine B7 ?_ ?_
 |refine Tb hu (pv _) ?_ ?_
 |refine Jx B96 rfl ?_ (λ _=>?_) ?_
 |refine S_ ?_
 |refine JB ?_
 |refine mtw ?_
end
theorem all_mk{l:AD0}{w:ξ}{K:Db}{h:ν}{mg:Str->ε ζ}{fa:δ}(Cq:mg "law"=AC (.ref fa))(z:Fs K mg h):
 ∃fd:υ,(∀(s:η)(v:ζ),BindsTo s fd ⟨[v],[]⟩ [("_law_script",v)])/\∀base:ν,K.In base->base.Ns mainGlobals mg->d9 l.prog w K mg base il 23 fa fd ["_law_script"] (ZS.yI K p!):=by
 let⟨fd,hb,F⟩:=z.V_.law z.X z.G Cq (x:="_law_script") λ _ _ _ _ _ _ _ _=>.of_eq rfl;exact⟨fd,hb,λ base _ _=>SK z F⟩
theorem walk{l:AD0}{q:ο}{loose:γ Str}{XP:(Str->ε ζ)->ν->Prop}{YP:ξ->ν->Prop}{d:DefRec}{K:Params->FS}(hn:l.most=AC 63)(hdf:d.params.defaults=[])
 (hY:∀(w:ξ)(h:ν),YP w h->(K w.params).In h)
 (F:∀ (w:ξ)(mg:Str->ε ζ)(fa:δ)(h:ν),(K w.params).In h->h.Ns mainGlobals mg->mg d.name=AC (.ref fa) ->
  ∃fd:υ,(∀(s:η)(u:ζ),BindsTo s fd ⟨[u],[]⟩ [("_law_script",u)])/\∀base:ν,(K w.params).In base->base.Ns mainGlobals mg->d9 l.prog w (K w.params) mg base il 23 fa fd ["_law_script"] (ZS.yI (K w.params) p!)) (hL:∀w:ξ,ZS.LK q (K w.params)) :
 PySem.W.WalkO q loose XP YP l.row.toRowW d [] (λ f vs=>PySem.call f vs):=
 ZS.RF (n:=63) (k:=23) (x:="_law_script") (m:=p!) hn ∅ hdf ⟨rfl,by decide,by decide⟩ hY F hL holds
end gj
namespace gj
open PySem PySem.Spec PyProof.Rows L2
abbrev km0:String:="besideseats.errors"
abbrev km1:String:="besideseats.plain"
abbrev Q3:String:="besideseats.groups"
abbrev _k:String:="besideseats.halls"
abbrev _j:String:="besideseats.places"
abbrev XW:String:="besideseats.seatings"
abbrev Q2:String:="besideseats.rooms"
abbrev km7:String:="besideseats.best"
abbrev _i:String:="besideseats.papers"
abbrev En:String:="besideseats.desk"
abbrev jo:String:="law_besideseats_k96_whole_desk_played"
noncomputable def kd(P:Params)(n:String)(t:Nat)(v:ζ):DictEntry:={hash:=PyData.keyHash P<|Str.ofString n,key:=.str (EQ n) t,val:=v}
noncomputable def kc(n:String)(t l:Nat)(a b c d e f g h i j:ζ)(u:Nat):μ:={cls:=.type "code",data:=.fields #[.str (EQ n) t,.str (EQ n) (t+1),.str (EQ "/claim/cut.py") (t+2),.int l 0,a,.int 0 0,.int 0 0,b,c,.bool Da,d,e,f,g,h,i,j,.int l 0,.str (EQ "/claim/cut.py") u]}
noncomputable def kcq(n q:String)(t l:Nat)(a b c d e f g h i j:ζ)(u:Nat):μ:={cls:=.type "code",data:=.fields #[.str (EQ n) t,.str (EQ q) (t+1),.str (EQ "/claim/cut.py") (t+2),.int l 0,a,.int 0 0,.int 0 0,b,c,.bool Da,d,e,f,g,h,i,j,.int l 0,.str (EQ "/claim/cut.py") u]}
noncomputable def kfm(n q:String)(s:ι)(m:String)(t c:Nat)(v:ζ:=.none):μ:={cls:=.type "function",data:=.func {name:=EQ n,qualname:=EQ q,params:=br s,body:=.stmts<|az s,scope:=ae s,globals:=3,closure:=[],defaults:=v,kwdefaults:=.none,pyModule:=.str (EQ m) t,code:=.ref c}}
noncomputable def kf(n:String)(i:Nat)(m:String)(t c:Nat)(v:ζ:=.none):μ:={cls:=.type "function",data:=.func {name:=EQ n,qualname:=EQ n,params:=br<|top i,body:=.stmts<|az<|top i,scope:=ae<|top i,globals:=3,closure:=[],defaults:=v,kwdefaults:=.none,pyModule:=.str (EQ m) t,code:=.ref c}}
noncomputable def k7(n q:String)(t l i a j:Nat):μ:=kcq n q t l (.int i 0) (.int 3 0) (.ref<|a-5) (.int 181 0) (.ref<|a-4) .none (.ref<|a-3) (.ref<|a-2) (.ref<|a-1) (.int j 0)<|j+1
noncomputable def k5(n q:String)(t l i a j:Nat):μ:=kcq n q t l (.int i 0) (.int 3 0) (.ref<|a-3) (.int 181 0) (.ref<|a-2) .none .none .none (.ref<|a-1) (.int j 0)<|j+1
noncomputable def kr(P:Params)(n:String)(t r:Nat):DictEntry:=kd P n t<|.ref r
noncomputable def ki(P:Params)(n:String)(t i:Nat):DictEntry:=kd P n t<|.int i<|t-1
noncomputable def kN:μ:={cls:=.type "tuple",data:=.seq #[.none]}
noncomputable def kE(P:Params)(m:String)(u t l s:Nat):μ:={cls:=.type "dict",data:=.dict #[kd P "__module__" t (.str (EQ m) u),kd P "__firstlineno__" (t+4) (.int l<|t+3),kr P "__static_attributes__" (t+5) s,kd P "__doc__" (t+6) .none] 2}
noncomputable def kX(n:String)(d b s t:Nat):μ:={cls:=.type "type",data:=.cls {name:=EQ n,bases:=[.ref b],mro:=[.ref (d+1),.ref b,.type "ValueError",.type "Exception",.type "BaseException",.type "object"],ns:=d,qualname:=EQ n},slots:=#[AC (.ref s),Ch,AC (.str (EQ n) t),AC (.str (EQ n)<|t+8),AC (.builtin "ValueError.__new__"),AC (.bool Da)]}
local macro_rules
| `(#[$f:ident,$a:num,$n,$t,$l,$i,$j,$p,$m,$c] :: $r)=>`((nat_lit $a,$f $n $n $t $l $i $a $j)::(nat_lit $(Lean.quote (a.getNat+1)),kf $n $p $m $c $a) :: $r)
| `(#[$f:ident,$a:num,$n,$q,$t,$l,$i,$j,$p,$m,$c] :: $r)=>`((nat_lit $a,$f $n $q $t $l $i $a $j)::(nat_lit $(Lean.quote (a.getNat+1)),kfm $n $q $p $m $c $a) :: $r)
noncomputable def KK(P:Params):Db:=(λ(_:EQ "a"=Str.mk #[97])=>(nat_lit 3,{cls:=.type "dict",data:=.dict #[kd P "__name__" 165 (.str (EQ "law_besideseats_k96_whole_desk_played") 905),kd P "__doc__" 166 .none,kd P "__package__" 167 .none,kd P "__loader__" 168 (.builtin "__main__.__loader__#opaque"),kd P "__spec__" 169 .none,kr P "__annotations__" 170 6,kr P "__builtins__" 171 4,kd P "__file__" 173 (.str (EQ "/claim/cut.py") 172),kd P "__cached__" 174 .none,kr P "SeatError" 206 24,kr P "NoHall" 222 37,kr P "NoGroup" 238 49,kr P "NoText" 254 61,kr P "NoSeating" 270 73,kr P "NoRow" 286 85,kr P "NoName" 302 97,kr P "Twice" 318 109,kr P "Full" 343 128,kr P "TooGreat" 370 147,kr P "is_whole" 379 156,kr P "is_whole_within" 388 163,kr P "is_letter" 395 170,ki P "NAME" 399 0,ki P "WIDTH" 401 1,ki P "DEPTH" 403 2,ki P "KIND" 405 3,ki P "WIDE" 407 4,ki P "GAP" 409 5,ki P "WORTH" 411 6,ki P "WISHES" 413 7,ki P "PARTS" 415 8,ki P "MOST_LETTERS" 417 8,ki P "MOST_WIDTH" 419 12,ki P "MOST_DEPTH" 421 3,ki P "MOST_GAP" 423 6,ki P "LAST_ROW" 425 5,kr P "is_name" 431 175,kr P "is_kind" 438 182,kr P "is_amount" 446 189,kr P "is_wish" 453 196,kr P "are_wishes" 459 201,kr P "asks_for_seats" 466 208,kr P "is_group" 473 215,kr P "worth_in" 479 220,ki P "MOST_ROWS" 483 6,ki P "MOST_COLUMNS" 485 12,kr P "is_sign" 492 227,kr P "is_row" 498 232,kr P "is_hall" 504 237,kr P "sign_at" 514 244,kr P "takes" 524 251,kr P "seats_of" 530 256,kr P "fits" 536 261,kr P "places_of" 542 266,kr P "apart" 555 273,kr P "those_that_sit" 561 278,kr P "apart_from_all" 567 283,kr P "keeps" 573 288,kr P "worth_of" 579 293,ki P "MOST_WAYS" 583 2000,kr P "fast_seating" 593 300,kr P "ways" 605 308,kr P "small_start" 615 315,kr P "with_place" 624 322,kr P "open_among" 630 327,kr P "with_one_more" 636 332,kr P "seatings_from" 648 339,kr P "first_of_all" 658 347,kr P "best_among" 669 354,kr P "best_of_all" 679 362,kr P "all_places" 687 367,kr P "spots_of" 697 374,kr P "paper_beside" 703 379,kr P "paper_of" 712 387,kd P "FIGURES" 716 (.str (EQ "0123456789") 715),ki P "MOST_FIGURES" 718 60,kr P "show_group" 729 394,kr P "number_in" 735 399,kr P "wishes_in" 741 404,kr P "group_in" 752 411,kr P "read_group" 761 418,ki P "MOST_GUESTS" 765 6,kr P "WORDS" 770 419,kr P "without" 778 426,kr P "show_place" 785 433,kr P "Desk" 904 523,kr P "_law_cell_at" 914 534,kr P "_law_mixed" 925 541,kr P "_law_digits" 935 548,kr P "_law_names" 952 555,kr P "_law_letters" 960 562,kr P "_law_hall" 966 567,kr P "_law_any" 972 572,kr P "_law_group" 990 579,kr P "_law_groups" 1003 586,kr P "_law_places" 1009 591,kr P "_law_ways" 1020 598,kr P "_law_apart" 1031 605,kr P "_law_worth_in" 1042 612,kr P "_law_best" 1048 617,kr P "_law_say" 1057 624,kr P "_law_asked" 1066 631,kr P "_law_text" 1072 636,kr P "_law_ask" 1089 643,kr P "_law_leave" 1095 648,kr P "_law_deed" 1101 653,kr P "law" 1118 660] 107}) ::
 (nat_lit 23,{cls:=.type "dict",data:=.dict #[kd P "__module__" 196 (.str (EQ "besideseats.errors") 187),ki P "__firstlineno__" 200 2,kr P "__static_attributes__" 201 22,kr P "__weakref__" 203 25,kd P "__doc__" 204 .none] 3}) ::
 (nat_lit 24,{cls:=.type "type",data:=.cls {name:=EQ "SeatError",bases:=[.type "ValueError"],mro:=[.ref 24,.type "ValueError",.type "Exception",.type "BaseException",.type "object"],ns:=23,qualname:=EQ "SeatError",subclasses:=[.ref 37,.ref 49,.ref 61,.ref 73,.ref 85,.ref 97,.ref 109,.ref 128,.ref 147]},slots:=#[AC (.ref 15),Ch,AC (.str (EQ "SeatError") 189),AC (.str (EQ "SeatError") 197),AC (.builtin "ValueError.__new__"),AC (.bool Da)]}) ::
 (nat_lit 36,kE P "besideseats.errors" 187 214 4 35) ::
 (nat_lit 37,kX "NoHall" 36 24 28 207) ::
 (nat_lit 48,kE P "besideseats.errors" 187 230 6 47) ::
 (nat_lit 49,kX "NoGroup" 48 24 40 223) ::
 (nat_lit 60,kE P "besideseats.errors" 187 246 8 59) ::
 (nat_lit 61,kX "NoText" 60 24 52 239) ::
 (nat_lit 72,kE P "besideseats.errors" 187 262 10 71) ::
 (nat_lit 73,kX "NoSeating" 72 24 64 255) ::
 (nat_lit 84,kE P "besideseats.errors" 187 278 12 83) ::
 (nat_lit 85,kX "NoRow" 84 24 76 271) ::
 (nat_lit 96,kE P "besideseats.errors" 187 294 14 95) ::
 (nat_lit 97,kX "NoName" 96 24 88 287) ::
 (nat_lit 108,kE P "besideseats.errors" 187 310 16 107) ::
 (nat_lit 109,kX "Twice" 108 24 100 303) ::
 #[k7,124,"__init__","Full.__init__",331,20,2,336,(qH 9 0),km0,187] ::
 (nat_lit 127,{cls:=.type "dict",data:=.dict #[kd P "__module__" 326 (.str (EQ "besideseats.errors") 187),ki P "__firstlineno__" 330 18,kr P "__init__" 338 125,kr P "__static_attributes__" 340 126,kd P "__doc__" 341 .none] 2}) ::
 (nat_lit 128,kX "Full" 127 24 112 319) ::
 (nat_lit 146,{cls:=.type "dict",data:=.dict #[kd P "__module__" 351 (.str (EQ "besideseats.errors") 187),ki P "__firstlineno__" 355 22,kr P "__init__" 364 144,kr P "__static_attributes__" 367 145,kd P "__doc__" 368 .none] 2}) ::
 (nat_lit 147,kX "TooGreat" 146 24 131 344) ::
 #[k7,155,"is_whole",373,28,1,377,12,km1,371] ::
 #[k7,162,"is_whole_within",380,30,3,386,13,km1,371] ::
 #[k7,169,"is_letter",389,32,1,393,14,km1,371] ::
 #[k5,174,"is_name",426,49,1,429,30,Q3,396] ::
 #[k7,181,"is_kind",432,53,1,436,31,Q3,396] ::
 #[k7,188,"is_amount",439,55,2,444,32,Q3,396] ::
 #[k7,195,"is_wish",447,57,1,451,33,Q3,396] ::
 #[k5,200,"are_wishes",454,61,1,457,34,Q3,396] ::
 #[k7,207,"asks_for_seats",460,65,1,464,35,Q3,396] ::
 #[k7,214,"is_group",467,73,1,471,36,Q3,396] ::
 #[k5,219,"worth_in",474,79,2,477,37,Q3,396] ::
 #[k7,226,"is_sign",486,84,1,490,41,_k,480] ::
 #[k5,231,"is_row",493,86,1,496,42,_k,480] ::
 #[k5,236,"is_hall",499,90,1,502,43,_k,480] ::
 #[k7,243,"sign_at",505,96,2,512,44,_k,480] ::
 #[k7,250,"takes",517,103,2,522,46,_j,515] ::
 #[k5,255,"seats_of",525,105,2,528,47,_j,515] ::
 #[k5,260,"fits",531,110,3,534,48,_j,515] ::
 #[k5,265,"places_of",537,115,2,540,49,_j,515] ::
 #[k7,272,"apart",545,121,4,553,51,XW,543] ::
 #[k5,277,"those_that_sit",556,126,2,559,52,XW,543] ::
 #[k5,282,"apart_from_all",562,128,3,565,53,XW,543] ::
 #[k5,287,"keeps",568,130,3,571,54,XW,543] ::
 #[k5,292,"worth_of",574,135,2,577,55,XW,543] ::
 #[k7,299,"fast_seating",584,139,3,591,58,Q2,580] ::
 (nat_lit 307,k7 "ways" "ways" 594 144 3 307 603) ::
 (nat_lit 308,kf "ways" 59 Q2 580 307<|.ref 301) ::
 #[k7,314,"small_start",606,150,3,613,60,Q2,580] ::
 #[k7,321,"with_place",616,155,3,622,61,Q2,580] ::
 #[k5,326,"open_among",625,157,3,628,62,Q2,580] ::
 #[k5,331,"with_one_more",631,159,5,634,63,Q2,580] ::
 #[k7,338,"seatings_from",637,168,4,646,64,Q2,580] ::
 (nat_lit 346,k7 "first_of_all" "first_of_all" 649 174 3 346 656) ::
 (nat_lit 347,kf "first_of_all" 65 Q2 580 346<|.ref 340) ::
 #[k7,353,"best_among",661,178,2,667,67,km7,659] ::
 (nat_lit 361,k7 "best_of_all" "best_of_all" 670 180 3 361 677) ::
 (nat_lit 362,kf "best_of_all" 68 km7 659 361<|.ref 355) ::
 #[k5,366,"all_places",682,184,2,685,70,_i,680] ::
 #[k7,373,"spots_of",688,186,4,695,71,_i,680] ::
 #[k5,378,"paper_beside",698,188,3,701,72,_i,680] ::
 (nat_lit 386,k7 "paper_of" "paper_of" 704 196 3 386 710) ::
 (nat_lit 387,kf "paper_of" 73 _i 680 386<|.ref 380) ::
 #[k7,425,"without",771,241,2,776,85,En,762] ::
 #[k7,432,"show_place",779,243,1,783,86,En,762] ::
 #[k7,446,"__init__","Desk.__init__",798,247,2,803,(qH 87 0),En,762] ::
 #[k7,453,"number_of","Desk.number_of",806,255,2,813,(qH 87 1),En,762] ::
 #[k5,458,"ask","Desk.ask",816,262,2,819,(qH 87 2),En,762] ::
 #[k7,465,"fast","Desk.fast",822,279,2,828,(qH 87 3),En,762] ::
 #[k7,472,"away","Desk.away",831,283,2,837,(qH 87 4),En,762] ::
 #[k7,479,"where","Desk.where",840,289,2,845,(qH 87 5),En,762] ::
 #[k7,486,"at_hand","Desk.at_hand",848,292,1,852,(qH 87 6),En,762] ::
 #[k7,493,"seating","Desk.seating",855,295,1,859,(qH 87 7),En,762] ::
 #[k7,500,"worth","Desk.worth",862,298,1,866,(qH 87 8),En,762] ::
 #[k5,505,"show_all","Desk.show_all",869,301,1,872,(qH 87 9),En,762] ::
 #[k7,512,"say","Desk.say",875,306,2,881,(qH 87 10),En,762] ::
 #[k7,519,"do","Desk.do",884,318,3,890,(qH 87 11),En,762] ::
 (nat_lit 522,{cls:=.type "dict",data:=.dict #[kd P "__module__" 793 (.str (EQ "besideseats.desk") 762),ki P "__firstlineno__" 797 245,kr P "__init__" 805 447,kr P "number_of" 815 454,kr P "ask" 821 459,kr P "fast" 830 466,kr P "away" 839 473,kr P "where" 847 480,kr P "at_hand" 854 487,kr P "seating" 861 494,kr P "worth" 868 501,kr P "show_all" 874 506,kr P "say" 883 513,kr P "do" 892 520,kr P "__static_attributes__" 897 521,kr P "__dict__" 899 524,kr P "__weakref__" 901 525,kd P "__doc__" 902 .none] 4}) ::
 (nat_lit 523,{cls:=.type "type",data:=.cls {name:=EQ "Desk",bases:=[.type "object"],mro:=[.ref 523,.type "object"],ns:=522,qualname:=EQ "Desk"},slots:=#[Ch,Ch,AC (.str (EQ "Desk") 786),AC (.str (EQ "Desk") 794),AC (.builtin "object.__new__"),AC (.bool Da)]}) ::
 #[k7,533,"_law_cell_at",907,329,2,912,89,jo,905] ::
 #[k7,540,"_law_mixed",915,333,2,923,90,jo,905] ::
 #[k7,547,"_law_digits",926,340,2,933,91,jo,905] ::
 #[k7,554,"_law_names",936,346,2,950,92,jo,905] ::
 #[k7,561,"_law_letters",953,359,1,958,93,jo,905] ::
 #[k5,566,"_law_hall",961,362,1,964,94,jo,905] ::
 #[k5,571,"_law_any",967,377,2,970,95,jo,905] ::
 #[k7,578,"_law_group",973,384,3,988,96,jo,905] ::
 #[k7,585,"_law_groups",991,397,3,1001,97,jo,905] ::
 #[k5,590,"_law_places",1004,407,2,1007,98,jo,905] ::
 #[k7,597,"_law_ways",1010,416,3,1018,99,jo,905] ::
 #[k7,604,"_law_apart",1021,422,4,1029,100,jo,905] ::
 #[k7,611,"_law_worth_in",1032,427,2,1040,101,jo,905] ::
 #[k5,616,"_law_best",1043,433,3,1046,102,jo,905] ::
 #[k7,623,"_law_say",1049,451,2,1055,103,jo,905] ::
 #[k7,630,"_law_asked",1058,458,2,1064,104,jo,905] ::
 #[k5,635,"_law_text",1067,465,2,1070,105,jo,905] ::
 #[k7,642,"_law_ask",1073,469,5,1087,106,jo,905] ::
 #[k5,647,"_law_leave",1090,481,5,1093,107,jo,905] ::
 #[k5,652,"_law_deed",1096,490,6,1099,108,jo,905] ::
 #[k7,659,"law",1102,504,1,1116,109,jo,905] ::
 (nat_lit 301,kN) ::
 (nat_lit 340,kN) ::
 (nat_lit 355,kN) ::
 (nat_lit 380,kN) ::
 (nat_lit 419,{cls:=.type "tuple",data:=.seq #[(.str (EQ "ask") 766),(.str (EQ "fast") 767),(.str (EQ "away") 768),(.str (EQ "where") 769)]})::[]) (by kernel_rfl)
noncomputable def KA:γ δ:=3::[23,36,48,60,72,84,96,108,124,127,146,155,162,169,174,181,188,195,200,207,214,219,226,231,236,243,250,255,260,265,272,277,282,287,292,299,307,314,321,326,331,338,346,353,361,366,373,378,386,425,432,446,453,458,465,472,479,486,493,500,505,512,519,522,533,540,547,554,561,566,571,578,585,590,597,604,611,616,623,630,635,642,647,652,659].flatMap (λ a=>[a,a+1])++[301,340,355,380,419]
end gj
end Lake
namespace PySem.W.Fast
def tw6128730439685254440:=()
def tw7770482236974091620:=()
omit env_41 heap_46 heap_738 o_45 o_46 o_49 o_51 o_52 o_53 o_56 o_57 o_59 o_60 o_61 o_62 o_63 o_64 o_66 o_67 o_68 o_69 o_72 o_73 o_75 o_76 o_77 o_78 o_79 o_81 o_82 o_83 o_84 o_87 o_88 o_90 o_91 o_92 o_93 o_94 o_96 o_97 o_98 o_99 o_102 o_103 o_105 o_106 o_107 o_108 o_109 o_111 o_112 o_113 o_114 o_117 o_118 o_120 o_121 o_122 o_123 o_124 o_126 o_127 o_128 o_129 o_132 o_133 o_135 o_136 o_137 o_138 o_139 o_141 o_142 o_143 o_144 o_147 o_148 o_150 o_151 o_152 o_153 o_154 o_156 o_157 o_158 o_159 o_162 o_163 o_165 o_166 o_167 o_168 o_169 o_171 o_172 o_173 o_174 o_177 o_178 o_181 o_183 o_184 o_185 o_186 o_187 o_188 o_189 o_190 o_191 o_193 o_194 o_195 o_196 o_199 o_200 o_203 o_205 o_206 o_207 o_208 o_209 o_210 o_211 o_212 o_215 o_217 o_218 o_219 o_222 o_224 o_225 o_226 o_229 o_231 o_232 o_233 o_234 o_238 o_239 o_240 o_243 o_245 o_246 o_247 o_250 o_252 o_253 o_254 o_257 o_259 o_260 o_261 o_264 o_265 o_266 o_269 o_271 o_272 o_273 o_276 o_278 o_279 o_280 o_283 o_284 o_285 o_288 o_290 o_291 o_292 o_295 o_296 o_297 o_298 o_302 o_303 o_304 o_307 o_309 o_310 o_311 o_314 o_316 o_317 o_318 o_321 o_322 o_323 o_326 o_327 o_328 o_331 o_332 o_333 o_336 o_338 o_339 o_340 o_343 o_344 o_345 o_348 o_349 o_350 o_353 o_354 o_355 o_358 o_359 o_360 o_363 o_365 o_366 o_367 o_368 o_370 o_373 o_375 o_376 o_377 o_380 o_382 o_383 o_384 o_387 o_389 o_390 o_391 o_394 o_395 o_396 o_399 o_400 o_401 o_404 o_406 o_407 o_408 o_409 o_412 o_414 o_415 o_416 o_419 o_420 o_421 o_422 o_423 o_424 o_427 o_429 o_430 o_431 o_434 o_435 o_436 o_439 o_441 o_442 o_443 o_446 o_447 o_448 o_449 o_451 o_454 o_456 o_457 o_458 o_461 o_463 o_464 o_465 o_468 o_469 o_470 o_473 o_474 o_475 o_478 o_480 o_481 o_482 o_485 o_487 o_488 o_489 o_490 o_493 o_495 o_496 o_497 o_500 o_502 o_503 o_504 o_505 o_508 o_509 o_512 o_513 o_516 o_518 o_519 o_520 o_523 o_525 o_526 o_527 o_530 o_531 o_532 o_535 o_537 o_538 o_539 o_542 o_544 o_545 o_546 o_549 o_551 o_552 o_553 o_556 o_558 o_559 o_560 o_563 o_565 o_566 o_567 o_570 o_572 o_573 o_574 o_577 o_578 o_579 o_582 o_584 o_585 o_586 o_589 o_591 o_592 o_593 o_594 o_595 o_596 o_597 o_598 o_599 o_600 o_601 o_605 o_607 o_608 o_609 o_612 o_614 o_615 o_616 o_619 o_621 o_622 o_623 o_626 o_628 o_629 o_630 o_633 o_635 o_636 o_637 o_640 o_641 o_642 o_645 o_646 o_647 o_650 o_652 o_653 o_654 o_657 o_659 o_660 o_661 o_664 o_665 o_666 o_669 o_671 o_672 o_673 o_676 o_678 o_679 o_680 o_681 o_685 o_687 o_688 o_689 o_692 o_693 o_694 o_697 o_699 o_700 o_701 o_704 o_706 o_707 o_708 o_711 o_712 o_713 o_716 o_718 o_719 o_720 o_723 o_724 o_725 o_728 o_729 o_730 o_733 o_735 o_736 o_737 sts_49 sts_64 sts_79 sts_94 sts_109 sts_124 sts_139 sts_154 sts_169 sts_191 sts_234 sts_298 sts_368 sts_449 sts_505 sts_601 sts_681 tree_47 tree_63 tree_78 tree_93 tree_108 tree_123 tree_138 tree_153 tree_168 tree_190 tree_233 tree_297 tree_367 tree_448 tree_504 tree_600 tree_680 tree_737 view_39
end PySem.W.Fast
open Lake PySem PySem.W PyProof.Rows
set_option maxRecDepth 100000 in
set_option maxHeartbeats 0 in
theorem PySem.Challenge.cw_besideseats_k96_whole_desk_played_holds : PySem.Challenge.rw_besideseats_k96_whole_desk_played.Holds := by
 w_on;o_law;o_head (PySem.W.kHook gj.KK gj.KA (λ _=>by kernel_rfl));(case hw=>w_witness2)
 k_fill
 refine gj.walk (l:=PySem.Challenge.rw_besideseats_k96_whole_desk_played) rfl rfl (λ w h Y=>PySem.W.kIn_of Y) ?F ?L
 case L=>
  intro w;refine' ZS.Tt (r1:=_) (r2:=_) ?n ?h1 ?h2 ?g1 ?g2 ?ne
  (case n=>kernel_rfl)
  (case h1=>refine' ZS.sJ ?a1 ?l1 ?e1 ?tl1 ?tp1;(case a1=>k_is);(case l1=>k_is);(case e1=>exact rfl);(case tl1=>k_is);(case tp1=>exact rfl))
  (case g1=>exact .inr rfl)
  (case h2=>refine' ZS.sJ ?a2 ?l2 ?e2 ?tl2 ?tp2;(case a2=>k_is);(case l2=>k_is);(case e2=>exact rfl);(case tl2=>k_is);(case tp2=>exact rfl))
  (case g2=>exact .inr rfl)
  (case ne=>exact λ c P c' P' e1 e2=>by first|(cases e1;done)|(cases e2;done)|(cases e1;cases e2;decide))
 case F=>
  intro w mg fa h KX G hmg;refine' gj.all_mk hmg ⟨KX,G,?_,?_,?_,?_,?_,?_,?_,?_,?_,?_,?_,?_,?_,?_,?_,?_,?_,?_,?_,?_,?_,?_,?_,?_,?_,?fw27,?_,?_,?_,?_,?_,?fw33,?fw34,?fw35,?_,?_,?fw38,?fw39,?_,?_,?fw42,?fw43,?fw44,?fw45,?fw46,?fw47,?fw48,?fw49,?fw50,?fw51,?fw52,?fw53,?_,?_,?_,?_,?_,?_,?_,?_,?_,?_,?_,?_,?_,?_,?_,?_,?_,?_,?_,?_,?_,?_,?_,?_,?_,?_,?_,?_,?_,?_,?_,?_,?_,?_,?fw88,?fw89,?fw90,?fw91,?fw92,?fw93,?fw94,?fw95,?fw96,?fw97,?fw98,?fw99,?fw100,?fw101,?fw102,?fw103,?fw104,?fw105,?fw106,?fw107,?fw108,?fw109,?fw110,?fw111,?fw112,?fw113,?fw114,?fw115,?fw116,?fw117,?fw118,?fw119,?fw120,?fw121,?fw122,?fw123,?fw124,?fw125,?fw126,?fw127⟩
  (case fw88|fw89|fw90|fw91|fw92|fw93|fw94|fw95|fw96|fw97|fw98|fw99|fw100|fw101|fw102|fw103|fw104|fw105|fw107|fw108|fw109|fw110=>k_is)
  (case fw106=>first|rfl|kernel_rfl|decide +kernel)
  (case fw114=>refine' ⟨?_,?_,?_,?_⟩<;>kernel_rfl)
  (case fw121=>refine' ⟨?_,?_,?_⟩<;>kernel_rfl)
  (case fw111|fw112|fw113|fw115|fw116|fw117|fw118|fw119|fw120|fw122|fw123|fw124|fw126|fw127=>kernel_rfl)
  (case fw27|fw33|fw35|fw39=>refine' ZS.pz.mk' ?a ?l ?c ?k ?dq;(case a=>k_is);(case l=>k_is);(case c=>k_is);(case k=>k_is);(case dq=>k_is))
  (case fw42|fw43|fw44|fw45|fw46|fw47|fw48|fw49|fw50|fw51|fw52|fw53|fw125=>refine' ZS.eZ.mk' ?a ?l ?c ?k ?i;(case a=>k_is);(case l=>k_is);(case c=>k_is);(case k=>k_is);(case i=>k_is))
  (case fw34|fw38=>refine' ZS.uH.mk' ?a ?l ?c ?k ?tl ?tp;(case a=>k_is);(case l=>k_is);(case c=>k_is);(case k=>k_is);(case tl=>k_is);(case tp=>exact rfl))
  all_goals first|k_is|(refine' ZS.bD.mk' ?a ?l ?c ?k;(case a=>k_is);(case l=>k_is);(case c=>k_is);(case k=>k_is))
#print axioms PySem.Challenge.cw_besideseats_k96_whole_desk_played_holds
