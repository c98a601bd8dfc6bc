import PyProof.Rows.All
import Wide.All
import OpenK.AllK
import Wide.FinOn
import Lean
import KE.KMinKey
import PyProof.WalkInts
import PyProof.SeqI3
import PyProof.Rows.CallKwBuiltin
import KE.KIsAll
import PyProof.StrBlock
import PyProof.Rows.StrLen
import KE.KIntText
import PyProof.StrLawsFirst
import PyProof.StrLawsIn
import PyProof.InstStoreFacts
import PyProof.DictWalks
import PyProof.EqAt
import PyProof.EqKinds
import PyProof.TupleCall
import KE.KLam
import PySem.Challenge.RW_besideseats_k83_fast_ones_stay
set_option Elab.async false
set_option linter.all false
set_option maxRecDepth 100000
set_option genSizeOf false
set_option compiler.extract_closed false
set_option bootstrap.genMatcherCode false
noncomputable section
local macro_rules|`(command|omit $xs*)=>do return Lean.mkNullNode (<-xs.mapM λ x=>`(command|def $(Lean.mkIdent<|.mkSimple s!"tw{(`PySem.Challenge.cw_besideseats_k83_fast_ones_stay_holds++x.raw.getId).hash}"):ident:=()))
set_option maxHeartbeats 4000000
local macro_rules|`(∅)=>`(by first|decide|lia|simp)
def pt:Nat->Lean.Syntax->Lean.MacroM (Lean.TSyntax `rcasesPat)
|n+1,s=>match s with
 |`(⟨$xs,*⟩)=>do let ys<-xs.getElems.mapM (λ x=>do `(Lean.Parser.Tactic.rcasesPatLo|$(<-pt n x):rcasesPat));`(rcasesPat|⟨$[$ys],*⟩)
 |`($i:ident)=>`(rcasesPat|$i:ident)
 |_=>`(rcasesPat|_)
|_,_=>Lean.Macro.throwUnsupported
local macro_rules|`(tactic|let $p:term:=$e)=>do `(tactic|obtain $(<-pt 9 p):rcasesPat:=$e)
open Option renaming some→AC,none→At,getD_none→AA8
open Bool renaming false→AT,true→Ch,or_eq_true→AB0,and_assoc→AC1,and_false→AC2,and_true→AC7
open PySem.W renaming Frag→Da,nsIn→FB,keepIn→FM,Frag→FS,findIn→Fk,fnOf→NE,codeIn→On,tabIn→PP,emptyDict→Pi,instObj→SL,plainGet→Tk,lookIn→WF,hasDictIn→Wp,makesIn→bn,takerIn→bv,hideAll_none→gt,tabObj→im,excIn→lv,isFn→ww,plainOver→xL,handedIn→AA9,OpenLaw→AC0,CodeHd→AC5,mroIn→AC9
open PySem.Str renaming ofString→Db
open List renaming replicate→Do,range→Ev,lookup→Fa,zipWith→al,getElem_toArray→dL,getElem?_range→li,map_inj_right→mo,pairwise_cons→nw,set_cons_succ→ol,filter_congr→wT,findIdx_cons→wf,getElem_take→wn,take_add_one→wv,ext_getElem→AA3,filter_cons→AA4,getElem_set→AA5,zipIdx_cons→AA6,countP_map→AB4,filter_map→AB5,foldl_cons→AB6,length_set→AB7,zipIdx_nil→AB8,foldl→AC3,forIn_nil→AC4
open PySem renaming wpAny→EQ,Within→xz
open Sum renaming inr→GE,inl→bi
open False renaming elim→GM
open ForInStep renaming yield→GT
open PySem.Builtin.SmallTypes renaming nextOf→Gc,ownedTupleIsFree→Go,ownedTupleHandOut→Re
open PySem.Heap renaming SameBut→IN,ExtBut→ci,MadeExcOf→cr,get?_update_ne→lf,IsTuple→ut
open True renaming intro→IR
open PySem.Builtin.Builtins renaming bindParams→Ix
open PySem.Builtin.Slice renaming slicePlaces→KF,sliceAdjust→Ps,sliceApplied→UV
open PySem.Builtin.Tuple renaming tupleExact→No,tupleItemsOf→Uf
open PySem.SeqAt renaming EqAt→Op,RcNeAt→TW,RcAt→WP
open PySem.StrLaws renaming occBody→Os
open PySem.Builtin.List renaming listTooLong→Rs
open PySem.Obj renaming mapFields→SB
open PySem.Value renaming none→SZ,isStrOf→AD0
open PySem.Builtin.Str renaming occurrences→Sc,subAt→TD
open PySem.W.WData renaming weightAll→Tl,weight→UF
open Array renaming toList→ZB,toList_append→io
open Or renaming inr→pc,inl→AD3
abbrev γ:=@List
abbrev δ:=@PySem.Addr
abbrev ε:=@Option
abbrev ζ:=@PySem.Value
abbrev η:=@PySem.Stmt
abbrev θ:=@PySem.Shared
abbrev ι:=@PySem.Expr
abbrev μ:=@PySem.Obj
abbrev ν:=@PySem.Heap
abbrev ξ:=@PySem.World
abbrev ο:=@PySem.Program
abbrev π:=@PySem.Keyword
abbrev ς:=@PySem.Scope
abbrev τ:=@PySem.Around
abbrev υ:=@PySem.FuncData
def T0:=@PySem.wpAny_bind
def W1:=@if_neg
def M2:=@if_pos
def P3:=@PySem.wpAny_pure
def v4:=@Nat.le_refl
def v6:=@PySem.Heap.get?_push_of_some
def f8:=@List.map_cons
def A00:=@PySem.Heap.lt_size
def A01:=@List.getElem?_eq_getElem
def A02:=@List.mem_cons
def A03:=@List.mem_map
def A04:=@Option.some.inj
def A05:=@List.length_map
def A06:=@List.getElem?_map
def A07:=@Ne.symm
def A08:=@List.getElem?_eq_some_iff
def A09:=@List.mem_cons_of_mem
def A10:=@List.size_toArray
def A11:=@congrArg
def A12:=@List.mem_cons_self
def A13:=@Nat.ne_of_lt
def A14:=@PySem.Heap.get?_push_size
def A15:=@Nat.le_trans
def A16:=@List.map_map
def A17:=@List.nodup_cons
def A18:=@Nat.lt_of_lt_of_le
def A19:=@PySem.wpAny_mono
def A20:=@List.mem_of_getElem?
def A21:=@List.mem_singleton
def A22:=@PySem.W.mg_of
def A23:=@PySem.sizeLine_eq
def A24:=@List.length_take
def A25:=@if_true
def A26:=@List.mem_range
def A27:=@beq_iff_eq
def A28:=@decide_eq_false
def A29:=@List.getElem?_set_ne
def A30:=@List.length_append
def A31:=@PySem.wpAny_field
def A32:=@List.not_mem_nil
def A33:=@List.length_cons
def A34:=@List.getElem?_append_left
def A35:=@List.map_nil
def A36:=@List.all_eq_true
def A37:=@List.getElem?_set_self
def A38:=@PySem.wpAny_holding
def A39:=@List.map_append
def A40:=@or_false
def A41:=@List.mem_append
def A42:=@Nat.ne_of_gt
def A43:=@List.mem_append_right
def A44:=@decide_eq_true
def A45:=@Bool.false_eq_true
def A46:=@PySem.wpAny_seqItems
def A47:=@Nat.zero_le
def A48:=@List.getElem?_append_right
def A49:=@Bool.and_eq_true
def A50:=@PySem.Heap.size_push
def A51:=@List.append_nil
def A52:=@List.getElem?_replicate
def A53:=@Bool.eq_iff_iff
def A54:=@Option.map_some
def A55:=@PySem.wpAny_tryCatch
def A56:=@List.getElem?_set
def A57:=@PySem.W.mg_none_of
def A58:=@PySem.wpAny_truthy_bool
def A59:=@Nat.le_succ
def A60:=@if_false
def A61:=@beq_eq_false_iff_ne
def A62:=@Nat.lt_succ_self
def A63:=@PySem.Heap.get?_update_other
def A64:=@PySem.wpAny_letGo
def A65:=@Nat.mul_le_mul
def A66:=@List.mem_filter
def A67:=@PySem.mem_of_lookup
def A68:=@PySem.wpAny_newObj_type
def A69:=@PySem.call_meets
def A70:=@List.length_filter_le
def A71:=@List.lookup_cons
def A72:=@PySem.Obj.data_mapFields
def A73:=@Nat.min_eq_left
def A74:=@PySem.codeAny_mono
def A75:=@Option.isSome_iff_exists
def A76:=@not_or
def A77:=@Sum.inr.inj
def A78:=@Nat.le_of_lt
def A79:=@List.mem_append_left
def A80:=@PySem.wpAny_Call_Name_kw
def A81:=@List.length_replicate
def A82:=@List.replicate_succ
def A83:=@List.range_succ
def A84:=@List.drop_eq_getElem_cons
def A85:=@PySem.Heap.get?_update_self
def A86:=@Nat.not_lt
def A87:=@PySem.plainId_quiet
def A88:=@List.getElem?_of_mem
def A89:=@Nat.lt_irrefl
def A90:=@Bool.false_ne_true
def A91:=@PySem.wpAny_call
def A92:=@Nat.add_comm
def A93:=@dif_pos
def A94:=@beq_self_eq_true
def A95:=@PySem.W.kia_one
def A96:=@PySem.wpAny_pyIter_list
def A97:=@List.cons.injEq
def A98:=@Option.some.injEq
def A99:=@PySem.F.plain_max_loop
def B00:=@PySem.F.plain_min_loop
def B01:=@PySem.wpAny_loadPart_at
def B02:=@PySem.W.callWith_K
def B03:=@PySem.wpAny_callSpecial?_slot
def B04:=@PyProof.Rows.slot_tuple_getitem
def B05:=@PySem.wpAny_call_entry
def B06:=@List.append_assoc
def B07:=@List.any_cons
def B08:=@List.map_congr_left
def B09:=@PySem.wpAny_pyIter_tuple
def B10:=@Int.toNat_natCast
def B11:=@Nat.zero_add
def B12:=@List.nodup_nil
def B13:=@PySem.wpAny_setField_rec
def B14:=@decide_eq_true_eq
def B15:=@PySem.codeAny_builtin
def B16:=@PySem.Around.under_plainId
def B17:=@PySem.wpAny_updateSeq
def B18:=@List.filter_eq_self
def B19:=@List.mem_flatMap
def B20:=@Nat.mul_le_mul_right
def B21:=@PySem.wpAny_passesOwn
def B22:=@PyProof.Rows.callWith_type1
def B23:=@PySem.typeIs_int
def B24:=@List.flatten_cons
def B25:=@Nat.succ_mul
def B26:=@List.getElem_mem
def B27:=@List.length_range
def B28:=@PySem.wpAny_rule
def B29:=@of_decide_eq_true
def B30:=@List.lookup_cons_self
def B31:=@List.forIn_cons
def B32:=@PySem.wpAny_standAt
def B33:=@List.countP_cons
def B34:=@and_true
def B35:=@not_false_eq_true
def B36:=@List.drop_eq_nil_of_le
def B37:=@PySem.F.slot_tuple_mul
def B38:=@PySem.wpAny_ite_false
def B39:=@Array.getElem?_eq_some_iff
def B40:=@Int.ofNat.inj
def B41:=@List.filter_append
def B42:=@PySem.Paired.length
def B43:=@PySem.Heap.get?_none_of_le
def B44:=@Array.length_toList
def B45:=@PySem.wpAny_execs_nil
def B46:=@Int.mul_one
def B47:=@PySem.concat_meets
def B48:=@List.length_drop
def B50:=@PySem.F.slot_int_rmul
def B51:=@Option.map_eq_some_iff
def B52:=@PySem.tupleKind_room_in1
def B53:=@List.getElem?_eq_none
def B54:=@List.drop_length
def B55:=@Nat.lt_succ_of_lt
def B56:=@Nat.le_succ_of_le
def B57:=@List.all_map
def B59:=@PySem.F.plainAttrs_list
def B60:=@List.take_length
def B61:=@PySem.F.slot_tuple_iterator_next
def B62:=@PySem.wpAny_setField
def B63:=@PySem.Obj.isFreed_of_fields
def B64:=@PySem.wpAny_pyIter_enum
def B65:=@PySem.wpAny_onRaise
def B66:=@PySem.F.slot_zip_next
def B67:=@Bool.not_eq_true'
def B68:=@gt
def B69:=@Int.emod_lt_of_pos
def B70:=@Int.emod_nonneg
def B71:=@List.ext_getElem?
def B72:=@List.mem_of_mem_eraseIdx
def B73:=@List.filterMap_cons
def B74:=@PySem.Calls.Name_function_global
def B75:=@List.mem_filterMap
def B76:=@PySem.W.plainGet_of
def B77:=@PySem.W.set_plain
def B78:=@PySem.wpAny_loadPart
def B79:=@PySem.W.Looks.here
def B80:=@PySem.W.looks_clsIn
def B82:=@PySem.wpAny_lookBehind
def B83:=@PySem.pastItsLine_dict
def B84:=@Nat.le_of_eq
def B85:=@PySem.plainObj_wpAny_Assign_Attribute
def B86:=@PySem.W.methodCall_KW
def B87:=@List.of_mem_zip
def B88:=@PySem.wpAny_loadPart'
def B89:=@PySem.noFill_tuple_add
def B91:=@PySem.F.slot_tuple_add
def B92:=@PySem.F.entry_tuple_add
def B93:=@PySem.F.args_tuple_add_2
def B95:=@PySem.Calls.evalArgs_plain
def B96:=@List.nil_append
def B97:=@List.length_nil
def B98:=@Option.isSome_map
def B99:=@List.getElem_range
def C00:=@List.mem_of_mem_take
def C01:=@List.eq_nil_of_length_eq_zero
def C02:=@Bool.true_and
def C03:=@PySem.PassesOwn.never
def C04:=@PySem.SeqAt.EqAt.same
def C05:=@List.all_cons
def C06:=@List.getElem_of_mem
def C07:=@List.cons_append
def C08:=@PySem.Obj.cls_mapFields
def C09:=@PySem.AutoSeq1.wpAny_loadPart'
def C11:=@Nat.succ_ne_self
def C12:=@PySem.wpAny_updateSeq_pair
def C13:=@PySem.wpAny_pyIter_zip
def C14:=@Option.bind_some
def C15:=@List.take_of_length_le
def C16:=@PySem.F.entry_tuple_mul
def C17:=@PySem.F.args_tuple_mul_2
def C18:=@PySem.F.entry_max_loop
def C19:=@PySem.F.entry_min_loop
def C20:=@List.contains_cons
def C21:=@Bool.or_true
def C22:=@PySem.wpAny_isSubtype_exc
def C23:=@Prod.mk.injEq
def C24:=@List.mem_map_of_mem
def C25:=@List.nodup_append
def C26:=@Nat.add_assoc
def C27:=@List.pairwise_iff_getElem
def C28:=@List.map_take
def C29:=@Nat.add_sub_cancel_left
def C30:=@List.map_drop
def C31:=@List.getElem?_drop
def C32:=@List.map_set
def C37:=@PySem.W.cellsFrom_some
def C38:=@List.getElem?_take_of_lt
def C41:=@PySem.wpAny_binaryOp_repeat_ref
def C42:=@PySem.F.slot_dict_pop
def C43:=@List.cons_lt_cons_iff
def C44:=@List.set_eq_of_length_le
def C45:=@List.range_succ_eq_map
def C46:=@PySem.F.entry_tuple_iterator_next
def C47:=@PySem.F.args_tuple_iterator_next_1
def C48:=@List.getElem?_cons_succ
def C49:=@PySem.F.plainAttrs_str
def C50:=@List.getElem?_cons_zero
def C51:=@PySem.F.excBase_ValueError
def C52:=@List.filter_cons_of_pos
def C53:=@List.eq_of_mem_replicate
def C54:=@List.take_append_drop
def C55:=@List.set_getElem_self
def C56:=@List.mem_or_eq_of_mem_set
def C57:=@List.eraseIdx_cons_succ
def C58:=@List.pairwise_lt_range
section S0
open PySem PySem.Spec PyProof.Rows
namespace L2
abbrev Se(a:ι)(es:γ ι)(E:PySem.Env):Prop:=starEach (a::es) E=(AT,eval a E)::starEach es E
abbrev Nd(x:Str):Prop:=(x==("__debug__":Str))=AT
abbrev Pn(p:Pos)(es:γ ι)(E:PySem.Env):Prop:=(backTo p<|starEach es E).any (·.1)=AT
end L2
open L2 (Se Nd Pn)
namespace L2
abbrev Key:=Sum Int Str
def xl:Key->ζ->Bool
|.inl k,v=>Value.isInt k v
|.inr x,v=>AD0 x v
def _m(w:ξ):Key->Int
|.inl k=>hashInt k
|.inr x=>hashStr w x
theorem c9:∀{k}{v},xl k v=Ch->(∃i t,k=bi i/\v=Value.int i t)\/(∃x t,k=GE x/\v=Value.str x t)
|.inl i,v,h=>by let⟨t,e⟩:=Value.isInt_shape h;exact .inl ⟨i,t,rfl,e⟩
|.inr x,v,h=>by let⟨t,e⟩:=Value.isStrOf_shape h;exact .inr ⟨x,t,rfl,e⟩
theorem GH(i:Int)(t:Tok):xl (.inl i) (.int i t)=Ch:=by simp[xl,Value.isInt]
theorem GG(x:Str)(t:Tok):xl (.inr x) (.str x t)=Ch:=by simp[xl,AD0]
theorem RA(a b:Int):decide ((bi a:Key)=bi b)=(a==b):=by
 by_cases e:a=b
 .subst e;simp
 .have h:¬(bi a:Key)=bi b:=λ q=>e<|Sum.inl.inj q;rw[A28 h];exact(A61.mpr e).symm
theorem Rx(a b:Str):decide ((GE a:Key)=GE b)=decide (a=b):=by
 by_cases e:a=b
 .subst e;simp
 .have h:¬(GE a:Key)=GE b:=λ q=>e<|A77 q;rw[A28 h,A28 e]
theorem Rz(a:Int)(b:Str):decide ((bi a)=GE b)=AT:=A28 λ q=>nomatch q
theorem Ry(a:Str)(b:Int):decide ((GE a)=bi b)=AT:=A28 λ q=>nomatch q
def eR(prog:ο)(w:ξ):PySem.KeyKind prog w Key where
 is:=xl
 hash:=_m w
 inj:=λ v a b ha hb=>by
  rcases c9 ha with⟨i,t,rfl,rfl⟩|⟨x,t,rfl,rfl⟩
  .rcases c9 hb with⟨j,u,rfl,e⟩|⟨y,u,rfl,e⟩
   .injection e with e1 _;rw[e1]
   .exact nomatch e
  .rcases c9 hb with⟨j,u,rfl,e⟩|⟨y,u,rfl,e⟩
   .exact nomatch e
   .injection e with e1 _;rw[e1]
 byValue:=λ k v h=>by rcases c9 h with⟨i,t,rfl,rfl⟩|⟨x,t,rfl,rfl⟩<;>rfl
 pyHash:=λ hv h=>by
  rcases c9 hv with⟨i,t,rfl,rfl⟩|⟨x,t,rfl,rfl⟩
  .exact wpAny_pyHash_int h
  .exact wpAny_pyHash_str h
 eqBool:=λ hu hv h=>by
  rcases c9 hu with⟨i,t,rfl,rfl⟩|⟨x,t,rfl,rfl⟩
  .rcases c9 hv with⟨j,u,rfl,rfl⟩|⟨y,u,rfl,rfl⟩
   .rw[RA]at h;exact wpAny_eqBool_int h
   .rw[Rz]at h;exact SeqAt.EqAt.int_str i t y u _ _ _ _ h
  .rcases c9 hv with⟨j,u,rfl,rfl⟩|⟨y,u,rfl,rfl⟩
   .rw[Ry]at h;exact SeqAt.EqAt.str_int x t j u _ _ _ _ h
   .rw[Rx]at h;exact wpAny_eqBool_str h
 «strs»:=λ k x t v h=>by
  rcases c9 h with⟨i,u,rfl,e⟩|⟨y,u,rfl,e⟩
  .exact nomatch e
  .injection e with e1 _
   subst e1;cases v<;>rfl
theorem AM(prog:ο)(w:ξ)(i:Int)(t:Tok):(eR prog w).is (.inl i) (.int i t)=Ch:=GH i t
theorem AL(prog:ο)(w:ξ)(x:Str)(t:Tok):(eR prog w).is (.inr x) (.str x t)=Ch:=GG x t
inductive V where
|non|bl (b:Bool)|int (i:Int)|str (x:Str)|TY (b:Array UInt8)|YJ (b:UInt64)|ref (a:Addr)|ty (n:String)
deriving DecidableEq
def RelV:V->ζ->Prop
|.non,u=>u=SZ
|.bl b,u=>u=Value.bool b
|.int i,u=>∃t,u=Value.int i t
|.str x,u=>∃t,u=Value.str x t
|.TY b,u=>∃t,u=Value.bytes b t
|.YJ b,u=>∃t,u=Value.float b t
|.ref a,u=>u=Value.ref a
|.ty n,u=>u=Value.type n
abbrev Vals:γ V->γ ζ->Prop:=Paired RelV
theorem Vals.length(r:Vals xs us):xs.length=us.length:=B42 r
theorem Vals.get:∀{xs}{us}{i:Nat}{x},Vals xs us->xs[i]?=AC x->∃u,us[i]?=AC u/\RelV x u
|_,_,_,_,.nil,e=>by simp at e
|_,_,0,_,.cons r _,e=>by simp at e;subst e;exact⟨_,rfl,r⟩
|_,_,i+1,x,.cons _ t,e=>by let⟨u,h1,h2⟩:=Vals.get (i:=i) (x:=x) t (by simpa using e);exact⟨u,by simpa using h1,h2⟩
theorem Vals.append:∀{xs ys}{us ws},Vals xs us->Vals ys ws->Vals (xs++ys) (us++ws)
|_,_,_,_,.nil,s=>s
|_,_,_,_,.cons r t,s=>.cons r<|Vals.append t s
theorem Vals.take:∀{xs}{us} n,Vals xs us->Vals (xs.take n) (us.take n)
|_,_,0,_=>.nil
|_,_,_+1,.nil=>.nil
|_,_,n+1,.cons r t=>.cons r<|Vals.take n t
theorem Vals.drop:∀{xs}{us} n,Vals xs us->Vals (xs.drop n) (us.drop n)
|_,_,0,r=>r
|_,_,_+1,.nil=>.nil
|_,_,n+1,.cons _ t=>Vals.drop n t
def l4:ε V->ε ζ->Prop
|some v,AC u=>RelV v u
|none,At=>True
|_,_=>False
def KV{κ:Type}:γ (κ×V)->γ (κ×ζ)->Prop:=Paired λ(p:κ×V)(q:κ×ζ)=>p.1=q.1/\RelV p.2 q.2
def kV:Key->V
|.inl i=>.int i
|.inr x=>.str x
inductive HO where
|lst (xs:List V)
|tup (xs:List V)
|dK (aV:List (Key×V))|dT (aV:List (List Key×V))
|set (S:Int->Bool) (n:Nat)
|ins (C dx:Addr) (fs:List (Str×V))
|own (x:Addr)
|xd (fs:List (Str×V))
|met (f x:Addr)
|XT (lo hi:Int)
|eJ (o:Obj) (u:HO)
|HV (q:Str)
|LL (q:Str)
 |ext (φ:Heap->Prop)
abbrev Hp:=δ->ε HO
def SS:HO->Prop
|.HV _=>True
|.LL _=>True
|_=>False
def upd(H:Hp)(a:δ)(o:HO):Hp:=λ b=>if b=a then AC o else H b
theorem aM:upd H a o a=AC o:=by unfold upd;rw[M2 rfl]
theorem aD(h:b≠a):upd H a o b=H b:=by unfold upd;rw[W1 h]
theorem Pq{H:Hp}(h:H a=AC o)(h':H b=AC u)(d:o≠u):a≠b:=by intro e;subst e;rw[h]at h';exact d<|A04 h'
theorem bh{H:Hp}(h:H a=AC o)(h':H b=At):a≠b:=by intro e;subst e;rw[h]at h';cases h'
section
variable(P:ο)(w:ξ)
def qp(h:ν)(a:δ)(xs:Array ζ):Prop:=∃n,h.get? a=AC {cls:=.type "tuple",data:=.seq xs n}
theorem qp.is(p:qp h a xs):IsTup h a xs:=by let⟨n,e⟩:=p;exact⟨_,e,rfl,n,rfl⟩
theorem qp.new(h:ν)(xs:Array ζ):qp (h.push {cls:=.type "tuple",data:=.seq xs}) h.objs.size xs:=⟨_,A14 _ rfl⟩
def eF(H:Hp)(h:ν)(a:δ):HO->Prop
|.lst xs=>xs.length<=sizeLine/\∃(bp:γ ζ)(n:Nat),Vals xs bp/\h.get? a=AC {cls:=.type "list",data:=.seq bp.toArray n}
|.tup xs=>xs.length<=sizeLine/\∃bp:γ ζ,Vals xs bp/\qp h a bp.toArray
|.dK aV=>aV.length<=sizeLine/\(a==sysModules)=AT/\∃vs,KV aV vs/\h.DictOf (eR P w) a vs
|.dT aV=>aV.length<=sizeLine/\(a==sysModules)=AT/\∃xs:γ (γ Key×δ×ζ),
 Paired (λ(p:γ Key×V)(q:γ Key×δ×ζ)=>p.1=q.1/\H q.2.1=AC (.tup<|p.1.map kV)/\RelV p.2 q.2.2) aV xs /\
 ∃o es ep,h.get? a=AC o/\o.ExactDict/\o.data=.dict es ep/\es.toList=xs.map (entryOfKey<|tupleKind<|eR P w)/\(xs.map (·.1)).Nodup
|.set S n=>h.SetOf (intKind P w) a S n
|.ins C dx fs=>H dx=AC (.own a)/\fs.length<=1000/\dx≠a/\h.get? a=AC (SL C dx) /\
 ∃mA,h.Ns1 dx mA/\(∀f,l4 (fs.lookup f) (mA f))/\xz mA (fs.map (·.1))
|.own _=>∃o,h.get? a=AC o
|.xd fs=>∃mA,h.Ns1 a mA/\∀f,l4 (fs.lookup f) (mA f)
|.XT lo hi=>∃t u v,h.get? a=AC {cls:=.type "range",data:=.fields #[.int lo t,.int hi u,.int 1 v]}
|.eJ o u=>h.get? a=AC o/\eF H h a u
|.HV q=>∃ps:Array ζ,h.get? a=AC {cls:=.none,data:=.fields ps}/\TriplesOk ps.toList/\∀pos cv,codeAmong pos ps.toList=AC cv->∃c,cv=.ref c/\H c=AC (.LL q)
|.LL q=>h.CodeRec (.ref a) q
|.met f x=>h.get? a=AC (PySem.W.methodObj (.ref f)<|.ref x)
|.ext φ=>φ h/\(∃o,h.get? a=AC o)/\∀h1 h2:ν,φ h1->(∀o,h1.get? a=AC o->h2.get? a=AC o)->φ h2
def l0(H:Hp)(h:ν):Prop:=∀a o,H a=AC o->eF P w H h a o
end
theorem eF.lt(x:eF P w H h a o):a<h.objs.size:=by
 cases o with
 |lst xs=>let⟨_,_,_,_,e⟩:=x;exact A00 e
 |tup xs=>let⟨_,_,_,p⟩:=x;exact p.is.lt
 |dK aV=>let⟨_,_,_,_,o,_,_,e,_⟩:=x;exact A00 e
 |dT aV=>let⟨_,_,_,_,o,_,_,e,_⟩:=x;exact A00 e
 |set S n=>let⟨o,_,_,_,e,_⟩:=x;exact A00 e
 |ins C dx fs=>let⟨_,_,_,e,_⟩:=x;exact A00 e
 |own y=>let⟨_,e⟩:=x;exact A00 e
 |xd fs=>let⟨_,⟨_,_,_,e,_⟩,_⟩:=x;exact A00 e
 |XT lo hi=>let⟨_,_,_,e⟩:=x;exact A00 e
 |eJ ob u=>let⟨e,_⟩:=x;exact A00 e
 |HV q=>let⟨_,e,_⟩:=x;exact A00 e
 |LL q=>let⟨_,_,_,_,e1,e2,_⟩:=x;cases e1;exact A00 e2
 |met f y=>exact A00<|x
 |ext φ=>let⟨_,⟨_,e⟩,_⟩:=x;exact A00 e
theorem Paired.Gy:∀{l₁}{l₂},Paired F l₁ l₂->(∀a b,F a b->G a b)->Paired G l₁ l₂
|_,_,.nil,_=>.nil
|_,_,.cons r t,f=>.cons (f _ _ r)<|Paired.Gy t f
theorem eF.pC(x:eF P w H h a o)(k:∀b u,(b=a\/H b=AC (.own a))->h.get? b=AC u->h'.get? b=AC u)
 (ho:∀b,H b=AC (.own a)->H' b=AC (.own a)) (ht:∀b xs,H b=AC (.tup xs)->H' b=AC (.tup xs)) (hp:∀b u,SS u->H b=AC u->H' b=AC u):eF P w H' h' a o:=by
 induction o with
 |lst xs=>let⟨z,bp,n,r,e⟩:=x;exact⟨z,bp,n,r,k _ _ (.inl rfl) e⟩
 |tup xs=>let⟨z,bp,r,ob,e⟩:=x;exact⟨z,bp,r,ob,k _ _ (.inl rfl) e⟩
 |dK aV=>let⟨z,y,vs,r,ob,es,ep,e,c⟩:=x;exact⟨z,y,vs,r,ob,es,ep,k _ _ (.inl rfl) e,c⟩
 |dT aV=>let⟨z,y,xs,r,ob,es,ep,e,c⟩:=x;exact⟨z,y,xs,Paired.Gy r λ p q z=>⟨z.1,ht _ _ z.2.1,z.2.2⟩,ob,es,ep,k _ _ (.inl rfl) e,c⟩
 |set S n=>let⟨ob,es,ep,t,e,c⟩:=x;exact⟨ob,es,ep,t,k _ _ (.inl rfl) e,c⟩
 |ins C dx fs=>let⟨d,z,ne,e,mA,⟨od,es,ep,e2,c⟩,r⟩:=x;exact⟨ho _ d,z,ne,k _ _ (.inl rfl) e,mA,⟨od,es,ep,k _ _ (.inr d) e2,c⟩,r⟩
 |own y=>let⟨ob,e⟩:=x;exact⟨ob,k _ _ (.inl rfl) e⟩
 |xd fs=>let⟨mA,⟨od,es,ep,e,c⟩,r⟩:=x;exact⟨mA,⟨od,es,ep,k _ _ (.inl rfl) e,c⟩,r⟩
 |XT lo hi=>let⟨t,u,v,e⟩:=x;exact⟨t,u,v,k _ _ (.inl rfl) e⟩
 |eJ ob u ih=>let⟨e,q⟩:=x;exact⟨k _ _ (.inl rfl) e,ih q⟩
 |HV q=>let⟨ps,e,t,g⟩:=x;exact⟨ps,k a _ (.inl rfl) e,t,λ pos cv r=>let ⟨c,e1,e2⟩:=g pos cv r;⟨c,e1,hp c _ trivial e2⟩⟩
 |LL q=>let⟨c,oc,vs,t,e1,e2,r⟩:=x;cases e1;exact⟨a,oc,vs,t,rfl,k a _ (.inl rfl) e2,r⟩
 |met f y=>have e:=x;exact k a _ (.inl rfl) e
 |ext φ=>let⟨p,⟨o,e⟩,st⟩:=x;exact⟨st _ _ p λ o q=>k _ _ (.inl rfl) q,⟨o,k _ _ (.inl rfl) e⟩,st⟩
theorem l0.lt(x:l0 P w H h)(e:H a=AC o):a<h.objs.size:=(x a o e).lt
theorem l0.fresh(x:l0 P w H h)(e:h.objs.size<=a):H a=At:=by
 cases q:H a with
 |none=>rfl
 |some u=>exact absurd (A18 (x.lt q) e)<|A89 _
theorem l0.kept(x:l0 P w H h)(k:∀b u,h.get? b=AC u->h'.get? b=AC u):l0 P w H h':=λ a o e=>(x a o e).pC (λ b u _ q=>k b u q) (λ _ q=>q) (λ _ _ q=>q) λ _ _ _ q=>q
theorem l0.laid(x:l0 P w H h)(k:∀b u,h.get? b=AC u->h'.get? b=AC u)(hp:h.objs.size<=a)(new:eF P w (upd H a o) h' a o):l0 P w (upd H a o) h':=λ b u e=>by
 have hn:=x.fresh hp;by_cases hb:b=a
 .subst hb;rw[aM]at e;cases e;exact new
 .rw[aD hb]at e;exact(x b u e).pC (λ c v _ q=>k c v q) (λ c q=>by rw[aD<|bh q hn];exact q) (λ c xs q=>by rw[aD<|bh q hn];exact q) λ c v _ q=>by rw[aD<|bh q hn];exact q
def Rd(H:Hp)(a:δ)(u:HO):Prop:=H a=AC u\/∃o,H a=AC (.eJ o u)
theorem Rd.ok(r:Rd H a u)(x:l0 P w H h):eF P w H h a u:=by
 rcases r with r|⟨o,r⟩
 .exact x a u r
 .let⟨_,q⟩:=x a _ r;exact q
def Xd:ε HO->Prop
|some<|.lst _=>True
|some<|.dK _=>True
|some<|.dT _=>True
|some<|.set _ _=>True
|some<|.ins _ _ _=>True
|some<|.ext _=>True
|_=>False
theorem l0.write(ok:l0 P w H h)(mu:Xd (H x))(he:e=x\/H e=AC (.own x))(k:∀ b u,b≠e->h.get? b=AC u->h'.get? b=AC u)(Tv:∃ u,h'.get? e=AC u)
 (new:eF P w (upd H x o') h' x o'):l0 P w (upd H x o') h':=λ b u q=>by
 have Vi:∀c y,H c=AC (.own y)->c≠x:=λ c y r z=>by subst z;rw[r]at mu;exact mu
 have Z8:∀c xs,H c=AC (.tup xs)->c≠x:=λ c xs r z=>by subst z;rw[r]at mu;exact mu
 have Z9:∀c u,SS u->H c=AC u->c≠x:=λ c u p r z=>by subst z;rw[r]at mu;cases u<;>first|exact p|exact mu
 by_cases hb:b=x
 .subst hb;rw[aM]at q;cases q;exact new
 .rw[aD hb]at q;by_cases R6:b=e
  .have q':H b=AC (.own x):=by
    rcases he with z|z
    .exact absurd (R6.trans z) hb
    .rw[R6];exact z
   rw[q]at q';cases q';let⟨v,hv⟩:=Tv;exact⟨v,by rw[R6];exact hv⟩
  .refine(ok b u q).pC (λ c v hc r=>k c v ?_ r) (λ c r=>by rw[aD<|Vi c b r];exact r) (λ c xs r=>by rw[aD<|Z8 c xs r];exact r) λ c v p r=>by rw[aD<|Z9 c v p r];exact r
   rcases hc with rfl|hc
   .exact R6
   .rintro rfl;rcases he with z|z
    .exact Vi c b hc z
    .rw[hc]at z;cases z;exact hb rfl
structure Un(fs ex:List Addr)(H H':Hp)(h h':Heap):Prop where
 keep:∀b o,h.get? b=AC o->H b=At->b∉fs->b∉ex->h'.get? b=AC o
 slot:∀b o,h.get? b=AC o->H b=At->b∈fs->b∉ex->∃sl,h'.get? b=AC {o with slots:=sl}
 free:∀b o,h.get? b=AC o->H b=At->b∉ex->H' b=At
 there:∀b o,h.get? b=AC o->b∉ex->∃o',h'.get? b=AC o'
 sh:∀b xs,H b=AC (.tup xs)->H' b=AC (.tup xs)
 qX:∀b o u,H b=AC (.eJ o u)->H' b=AC (.eJ o u)
 oa:∀b u,SS u->H b=AC u->H' b=AC u
theorem Un.any(u:Un fs ex H H1 h h1)(q:h.get? b=AC ob)(n:H b=At)(hx:b∉ex):∃sl,h1.get? b=AC {ob with slots:=sl}:=by
 by_cases hb:b∈fs
 .exact u.slot b ob q n hb hx
 .exact⟨_,u.keep b ob q n hb hx⟩
theorem Un.kept(k:∀b u,h.get? b=AC u->h'.get? b=AC u):Un fs ex H H h h':=
 ⟨λ b ob q _ _ _=>k b ob q,λ b ob q _ _ _=>⟨_,k b ob q⟩,λ _ _ _ n _=>n,λ b ob q _=>⟨ob,k b ob q⟩,λ _ _ q=>q,λ _ _ _ q=>q,λ _ _ _ q=>q⟩
theorem Un.refl:Un fs ex H H h h:=Un.kept λ _ _ q=>q
theorem Un.laid(k:∀b u,h.get? b=AC u->h'.get? b=AC u)(hp:h.objs.size<=a)(hn:H a=At):Un fs ex H (upd H a o) h h' where
 keep:=λ b u q _ _ _=>k b u q
 slot:=λ b u q _ _ _=>⟨_,k b u q⟩
 free:=λ b u q n _=>by rw[aD<|A13<|A18 (A00 q) hp];exact n
 there:=λ b u q _=>⟨u,k b u q⟩
 sh:=λ b xs q=>by rw[aD<|bh q hn];exact q
 qX:=λ b u xs q=>by rw[aD<|bh q hn];exact q
 oa:=λ b u _ q=>by rw[aD<|bh q hn];exact q
theorem Un.write(mu:Xd (H x))(he:e=x\/H e=AC (.own x))(k:∀b u,b≠e->h.get? b=AC u->h'.get? b=AC u)(Tv:∃u,h'.get? e=AC u):Un fs ex H (upd H x o) h h':=by
 have hx:∀b,H b=At->b≠x:=λ b n z=>by subst z;rw[n]at mu;exact mu
 have hb:∀b,H b=At->b≠e:=λ b n z=>by
  subst z;rcases he with r|r
  .exact hx b n r
  .rw[n]at r;cases r
 have hm:∀b u,H b=AC u->¬Xd (AC u)->b≠x:=λ b u q nm z=>by subst z;rw[q]at mu;exact nm mu
 refine⟨λ b u q n _ _=>k b u (hb b n) q,λ b u q n _ _=>⟨_,k b u (hb b n) q⟩,λ b u q n _=>by rw[aD<|hx b n];exact n,λ b u q _=>?_,
  λ b xs q=>by rw[aD<|hm b _ q λ z=>z];exact q,λ b u xs q=>by rw[aD<|hm b _ q λ z=>z];exact q,λ b u p q=>by rw[aD<|hm b _ q λ z=>by cases u<;>first|exact p|exact z];exact q⟩
 by_cases R6:b=e
 .subst R6;exact Tv
 .exact⟨u,k b u R6 q⟩
def Qo(h:ν)(H:Hp):γ δ:=(Ev h.objs.size).filter λ a=>(H a).isSome
def vZ(h:ν)(H:Hp):ν:=PySem.W.hideAll h<|Qo h H
theorem GS(h:ν)(H:Hp):(vZ h H).objs.size=h.objs.size:=PySem.W.hideAll_size _ _
theorem J5(e:h.get? b=AC o)(n:H b=At):(vZ h H).get? b=AC o:=
 PySem.W.hideAll_get _ e λ hm=>by have q:=(A66.mp hm).2;rw[n]at q;simp at q
theorem MU(e:(vZ h H).get? b=AC o):h.get? b=AC o/\H b=At:=by
 have e':=PySem.W.of_hideAll _ e;refine⟨e',?_⟩;cases q:H b with
 |none=>rfl
 |some x=>have hm:b∈Qo h H:=A66.mpr ⟨A26.mpr<|A00 e',by simp[q]⟩;have z:(vZ h H).get? b=At:=gt _ hm;rw[z]at e;cases e
def OS(g h:ν)(L:δ):γ (δ×μ):=(Ev h.objs.size).filterMap λ a=>if a=L\/(g.get? a).isSome=Ch then At else(h.get? a).map λ o=>(a,o)
def rest(g h:ν)(L d:δ):γ (δ×μ):=(OS g h L).filter λ p=>decide<|p.1≠d
structure Mod(K:Da)(mg:Str->Option Value)(base:Heap):Prop where
 Lx:K.In base
 glob:base.Ns mainGlobals mg
 blt:∃mb,base.Ns builtinsNs mb/\∀x:Str,x≠ "__name__" -> mb x=bootBuiltins x
 nolimit:base.NoLimit
def dM:γ Str:=["best_among","paper_beside"]
def jK(x:Str):Str:=x++ ".<locals>."++ "<lambda>"
def BMain(mg:Str->ε ζ)(base:ν):Prop:=∃bm ob,mg "__builtins__"=AC (.ref bm)/\bm≠builtinsNs/\base.get? bm=AC ob/\ob.cls=.type "module" /\ ob.dict=AC builtinsNs/\ob.data=.plain
def xM(K:Da)(mg:Str->ε ζ)(base:ν)(H:Hp):Prop:=∀x∈dM,∀c P,PP K x=AC (c,P)->H P=AC (.HV<|jK x)/\AC5 base c P/\BMain mg base
theorem xM.up{K:Da}(t:xM K mg base H)(u:∀b o,SS o->H b=AC o->H' b=AC o):xM K mg base H':=λ x hx c P e=>⟨u _ _ trivial (t x hx c P e).1,(t x hx c P e).2⟩
set_option genInjectivity false in
structure Cx where
 prog:Program
 w:World
 K:Da
 mg:Str->Option Value
 base:Heap
 A:Around
 N:List Str
 s₀:Shared
 H₀:Hp
 env:Env
 outer:List Env
 stack:List Env
 ex:List Addr
 fn:Str->Bool
 calm:Bool
 pn:List (Addr×Obj)
 xe:Value->Shared->Prop
def uM(l:γ Env):γ δ:=l.filterMap (·.frame)
abbrev Cx.fs(X:Cx):γ δ:=uM X.outer
def Hl(sc:ς)(x:Str):Prop:=sc.names.lookup x=AC .local\/sc.names.lookup x=AC .cell\/sc.names.lookup x=AC .free
def Loc(sc:ς)(x:Str):Prop:=sc.names.lookup x=AC .local\/sc.names.lookup x=AC .cell
def Look(env:Env)(h:ν)(m:Str->ε ζ)(x:Str)(u:ζ):Prop:=
 (env.kindOf x=AC .local/\m x=AC u)\/((env.kindOf x=AC .cell\/env.kindOf x=AC .free)/\∃c,env.cells.lookup x=AC c/\h.IsCell c (AC u))
structure Cx.Ok(X:Cx):Prop where
 mod:Mod X.K X.mg X.base
 kind:X.env.scope.kind=.function
 glob:X.env.globals=mainGlobals
 blt:X.env.builtins=builtinsNs
 above:X.s₀.heap.objs.size<=X.env.locals
 inj:∀x y c,X.env.cells.lookup x=AC c->X.env.cells.lookup y=AC c->x=y
 has:∀x,(X.env.kindOf x=AC .cell\/X.env.kindOf x=AC .free)->∃c,X.env.cells.lookup x=AC c
 Sz:∀x c,X.fn x=Ch->X.env.cells.lookup x=AC c->X.s₀.heap.objs.size<=c
 hd:X.calm=Ch->X.A.handled=At
 frames:X.A.frames=AC X.stack
 Lr:X.stack=X.outer\/(X.stack=X.env::X.outer/\X.env.frame=AC X.env.locals)
 YN:∀b∈X.ex,b≠X.env.locals/\∀x c,X.env.cells.lookup x=AC c->c≠b
 bs:∀b o,X.base.get? b=AC o->X.s₀.heap.get? b=AC o/\X.H₀ b=At
 HB:X.base.objs.size<=X.s₀.heap.objs.size
 AG:∀b o,X.base.get? b=AC o->b∉X.ex
 G0:∀b∈X.ex,b∉X.fs
 mG:X.s₀.heap.FunFrames X.base X.outer
 Kj:∀b∈X.fs,X.H₀ b=At
structure Inv(X:Cx)(χ:List (Addr×Obj))(σ:List (Option V))(H:Hp)(s:Shared):Prop where
 ok:X.Ok
 os:s.os=X.s₀.os
 bare:AllBare s.gens
 base:Un X.fs X.ex X.H₀ H X.s₀.heap s.heap
 loc:∃m,s.heap.Ns X.env.locals m/\∀(i:Nat)(x:Str)(v:V),X.N[i]?=AC x->σ[i]?=AC (AC v)->Hl X.env.scope x->∃u,RelV v u/\Look X.env s.heap m x u
 cell:∀x c,X.env.cells.lookup x=AC c->∃v,s.heap.IsCell c v
 free:H X.env.locals=At
 g0:∀x c,X.env.cells.lookup x=AC c->H c=At
 pin:∀p∈X.pn++χ,s.heap.get? p.1=AC p.2/\H p.1=At/\p.1≠X.env.locals/\p.1∉X.fs/\∀v,p.2.data≠.cell v
 bY:l0 X.prog X.w H s.heap
 len:σ.length=X.N.length
 tab:xM X.K X.mg X.base H
section
variable{X:Cx}
theorem Cx.Ok.Z?(ok:X.Ok)(e:X.base.get? b=AC o):b∉X.fs:=λ hb=>by have:=(ok.mG.mem hb).1;rw[e]at this;cases this
theorem Inv.bs(I:Inv X χ σ H s):∀b o,X.base.get? b=AC o->s.heap.get? b=AC o/\H b=At:=λ b o e=>⟨I.base.keep b o (I.ok.bs b o e).1 (I.ok.bs b o e).2 (I.ok.Z? e)<|I.ok.AG b o e,I.base.free b o (I.ok.bs b o e).1 (I.ok.bs b o e).2<|I.ok.AG b o e⟩
theorem Inv.bk(I:Inv X χ σ H s):∀b o,X.base.get? b=AC o->s.heap.get? b=AC o:=λ b o e=>(I.bs b o e).1
theorem Inv.mod(I:Inv X χ σ H s):Mod X.K X.mg X.base:=I.ok.mod
theorem Inv.l3(I:Inv X χ σ H s):X.K.In s.heap:=I.ok.mod.Lx.keeps I.bk
theorem Inv.nolimit(I:Inv X χ σ H s):s.heap.NoLimit:=I.ok.mod.nolimit.keeps I.bk
theorem Inv.lt(I:Inv X χ σ H s):X.env.locals<s.heap.objs.size:=let ⟨_,hn,_⟩:=I.loc;hn.lt
theorem Inv.sz(I:Inv X χ σ H s):X.s₀.heap.objs.size<=s.heap.objs.size:=A15 I.ok.above<|A78 I.lt
theorem Inv.Rh(I:Inv X χ σ H s)(h:s.heap.objs.size<=a):a∉X.fs:=λ hb=>by let⟨_,o,ho,_⟩:=I.ok.mG.mem hb;exact absurd (A18 (A00 ho)<|A15 I.sz h)<|A89 _
theorem Inv.OG(I:Inv X χ σ H s):∀x c,X.env.cells.lookup x=AC c->c≠X.env.locals:=λ x c e z=>by let⟨v,o,ho,hd⟩:=I.cell x c e;let⟨m,⟨o',es,ep,pY,o!,_⟩,_⟩:=I.loc;rw[z,pY]at ho;cases ho;rw[o!]at hd;cases hd
theorem Inv.mG(I:Inv X χ σ H s):s.heap.FunFrames X.base X.outer:=by
 have all:∀l,(∀b∈uM l,b∈X.fs)->X.s₀.heap.FunFrames X.base l->s.heap.FunFrames X.base l:=by
  intro l
  induction l with
  |nil=>intro _ _;trivial
  |cons env r ih=>intro hs hl;let⟨hk,⟨L,o,hf,hn,ho,hd⟩,hr⟩:=hl;have hL:=hs L (by unfold uM;rw[B73,hf];exact A12);let⟨sl,e⟩:=I.base.slot L o ho (I.ok.Kj L hL) hL λ z=>I.ok.G0 L z hL;exact⟨hk,⟨L,_,hf,hn,e,hd⟩,ih (λ b hb=>hs b (by unfold uM;rw[B73,hf];exact A09 _ hb)) hr⟩
 exact all _ (λ _ hb=>hb) I.ok.mG
theorem Inv.stack(I:Inv X χ σ H s):s.heap.FunFrames X.base X.stack:=by
 rcases I.ok.Lr with e|⟨e,hf⟩
 .rw[e];exact I.mG
 .rw[e];let⟨m,hn,_⟩:=I.loc;refine .cons (by rw[I.ok.kind];decide) hf hn ?_ I.mG;exact B43<|A15 I.ok.HB I.ok.above
theorem Inv.qG(I:Inv X χ σ H s):∀b∈uM X.stack,b∈X.env.locals::X.fs:=λ b hb=>by
 rcases I.ok.Lr with e|⟨e,hf⟩
 .rw[e]at hb;exact A09 _ hb
 .rw[e]at hb;unfold uM at hb;rw[B73,hf]at hb;exact hb
theorem Inv.sP(I:Inv X χ σ H s):∀b∈uM X.stack,H b=At:=λ b hb=>by
 rcases A02.mp (I.qG b hb)with e|hb
 .rw[e];exact I.free
 .let⟨_,o,ho,_⟩:=I.ok.mG.mem hb;exact I.base.free b o ho (I.ok.Kj b hb) λ z=>I.ok.G0 b z hb
theorem Inv.step{ch:γ δ}(I:Inv X χ σ H s)
 (BW:∀b∈ch,(b∈X.ex\/X.s₀.heap.objs.size<=b)/\b≠X.env.locals/\(∀x c,X.env.cells.lookup x=AC c->c≠b)/\∀p∈X.pn++χ,p.1≠b)
 (keep:∀b o,b≠X.env.locals->b∉X.fs->b∉ch->s.heap.get? b=AC o->H b=At->h'.get? b=AC o)
 (slot:∀b o,b≠X.env.locals->b∈X.fs->b∉ch->s.heap.get? b=AC o->H b=At->∃sl,h'.get? b=AC {o with slots:=sl}) (free:∀b o,b∉ch->s.heap.get? b=AC o->H b=At->H' b=At)
 (there:∀b o,b∉ch->s.heap.get? b=AC o->∃o',h'.get? b=AC o')
 (sh:∀b xs,H b=AC (.tup xs)->H' b=AC (.tup xs)) (qX:∀b o u,H b=AC (.eJ o u)->H' b=AC (.eJ o u)) (oa:∀b u,SS u->H b=AC u->H' b=AC u)
 (ns:∀m,s.heap.Ns X.env.locals m->h'.Ns X.env.locals m) (bY:l0 X.prog X.w H' h') (hg:AllBare g') :
 Inv X χ σ H' {s with heap:=h',gens:=g',drawn:=d',toks:=t'}:=by
 have Vp:∀b o,X.s₀.heap.get? b=AC o->b≠X.env.locals:=λ b o e=>A13<|A18 (A00 e) I.ok.above;have Jm:∀b o,X.s₀.heap.get? b=AC o->b∉X.ex->b∉ch:=λ b o e hx hb=>by
  rcases(BW b hb).1 with z|z
  .exact hx z
  .exact absurd (A18 (A00 e) z)<|A89 _
 have cellK:∀x c,X.env.cells.lookup x=AC c->∀v,s.heap.IsCell c v->h'.IsCell c v:=by
  rintro x c e v ⟨o,ho,hd⟩;have AJ:=λ z=>(BW c z).2.2.1 x c e rfl;by_cases hc:c∈X.fs
  .let⟨sl,q⟩:=slot c o (I.OG x c e) hc AJ ho (I.g0 x c e);exact⟨_,q,hd⟩
  .exact⟨o,keep c o (I.OG x c e) hc AJ ho<|I.g0 x c e,hd⟩
 refine⟨I.ok,I.os,hg,⟨λ b o e n hb hx=>?_,λ b o e n hb hx=>?_,λ b o e n hx=>?_,λ b o e hx=>?_,λ b xs e=>sh b xs<|I.base.sh b xs e,λ b o xs e=>qX b o xs<|I.base.qX b o xs e,λ b u p e=>oa b u p<|I.base.oa b u p e⟩,?_,λ x c e=>?_,?_,λ x c e=>?_,λ p hp=>?_,bY,I.len,I.tab.up oa⟩
 .exact keep b o (Vp b o e) hb (Jm b o e hx) (I.base.keep b o e n hb hx)<|I.base.free b o e n hx
 .let⟨sl,e1⟩:=I.base.slot b o e n hb hx;let⟨Zs,e2⟩:=slot b _ (Vp b o e) hb (Jm b o e hx) e1 (I.base.free b o e n hx);exact⟨Zs,e2⟩
 .let⟨o',e1⟩:=I.base.there b o e hx;exact free b o' (Jm b o e hx) e1<|I.base.free b o e n hx
 .let⟨o',e1⟩:=I.base.there b o e hx;exact there b o' (Jm b o e hx) e1
 .let⟨m,hn,hl⟩:=I.loc;refine⟨m,ns m hn,λ i x v e1 e2 e3=>?_⟩;let⟨u,r,l⟩:=hl i x v e1 e2 e3;refine⟨u,r,?_⟩;rcases l with l|⟨k,c,e,z⟩
  .exact .inl l
  .exact .inr ⟨k,c,e,cellK x c e _ z⟩
 .let⟨v,z⟩:=I.cell x c e;exact⟨v,cellK x c e v z⟩
 .let⟨m,⟨o,_,_,ho,_⟩,_⟩:=I.loc;exact free _ o (λ z=>(BW _ z).2.1 rfl) ho I.free
 .let⟨v,o,ho,hd⟩:=I.cell x c e;exact free c o (λ z=>(BW c z).2.2.1 x c e rfl) ho<|I.g0 x c e
 .let⟨e,n,ne,nf,d⟩:=I.pin p hp;have AJ:=λ z=>(BW p.1 z).2.2.2 p hp rfl;exact⟨keep p.1 p.2 ne nf AJ e n,free p.1 p.2 AJ e n,ne,nf,d⟩
theorem Inv.un(I:Inv X χ σ H s)(u:Un X.fs [] H H' s.heap h')(bY:l0 X.prog X.w H' h'):Inv X χ σ H' {s with heap:=h',toks:=t'}:=by
 let⟨m,⟨o,es,ep,ho,r⟩,_⟩:=id I.loc;let⟨sl,hL⟩:=u.any ho I.free ∅;exact I.step (ch:=[]) (λ _ z=>nomatch z) (λ b o _ hb _ e n=>u.keep b o e n hb ∅) (λ b o _ hb _ e n=>u.slot b o e n hb ∅) (λ b o _ e n=>u.free b o e n ∅) (λ b o _ e=>u.there b o e ∅) u.sh u.qX u.oa (λ m' hm=>by let⟨o',YO,YQ,pY,r'⟩:=hm;rw[ho]at pY;cases pY;exact⟨_,YO,YQ,hL,r'⟩) bY I.bare
theorem Inv.call(I:Inv X χ σ H s)(u:Un (uM X.stack) ch H H' s.heap h')(bY:l0 X.prog X.w H' h')(hg:AllBare g')
 (BW:∀b∈ch,(b∈X.ex\/X.s₀.heap.objs.size<=b)/\b≠X.env.locals/\(∀x c,X.env.cells.lookup x=AC c->c≠b)/\∀p∈X.pn++χ,p.1≠b) :
 Inv X χ σ H' {s with heap:=h',gens:=g',drawn:=d',toks:=t'}:=by
 let⟨m,⟨o,es,ep,ho,r⟩,_⟩:=id I.loc;let⟨sl,hL⟩:=u.any ho I.free λ z=>(BW _ z).2.1 rfl;exact I.step BW (λ b o hL hb hc e n=>u.keep b o e n (λ z=>(A02.mp<|I.qG b z).elim hL hb) hc) (λ b o _ _ hc e n=>u.any e n hc) (λ b o hc e n=>u.free b o e n hc) (λ b o hc e=>u.there b o e hc) u.sh u.qX u.oa (λ m' hm=>by let⟨o',YO,YQ,pY,r'⟩:=hm;rw[ho]at pY;cases pY;exact⟨_,YO,YQ,hL,r'⟩) bY hg
theorem Inv.turned(I:Inv X χ σ H s)(k:∀b o,b≠it->s.heap.get? b=AC o->h'.get? b=AC o)(hn:H it=At)(hL:it≠X.env.locals)
 (h1:it∈X.ex\/X.s₀.heap.objs.size<=it) (h2:∀x c,X.env.cells.lookup x=AC c->c≠it) (h3:∀p∈X.pn++χ,p.1≠it):Inv X χ σ H {s with heap:=h',toks:=t'}:=by
 have nit:∀b u,H b=AC u->b≠it:=λ b u e z=>by rw[z,hn]at e;cases e
 refine I.step (ch:=[it]) (λ b hb=>?_) (λ b o _ _ hc e _=>k b o (λ z=>hc (by simp[z])) e) (λ b o _ _ hc e _=>⟨_,k b o (λ z=>hc (by simp[z])) e⟩) (λ _ _ _ _ n=>n)
  (λ b o hc e=>⟨o,k b o (λ z=>hc (by simp[z])) e⟩) (λ _ _ e=>e) (λ _ _ _ e=>e) (λ _ _ _ e=>e) (λ m hm=>?_) (λ b u e=>?_) I.bare
 .have e:b=it:=by simpa using hb
  subst e;exact⟨h1,hL,h2,h3⟩
 .let⟨o,es,ep,ho,r⟩:=hm;exact⟨o,es,ep,k _ o (A07 hL) ho,r⟩
 .refine(I.bY b u e).pC (λ c v hc q=>k c v ?_ q) (λ _ q=>q) (λ _ _ q=>q) λ _ _ _ q=>q;rcases hc with z|z
  .rw[z];exact nit b u e
  .exact nit c _ z
theorem Inv.tok(I:Inv X χ σ H s)(t:Nat):Inv X χ σ H {s with toks:=t}:=I.un Un.refl I.bY
theorem Inv.kept(I:Inv X χ σ H s)(k:∀b u,s.heap.get? b=AC u->h'.get? b=AC u):Inv X χ σ H {s with heap:=h',toks:=t'}:=I.un (Un.kept k)<|I.bY.kept k
theorem Inv.laid(I:Inv X χ σ H s)(k:∀b u,s.heap.get? b=AC u->h'.get? b=AC u)(hp:s.heap.objs.size<=a)(new:eF X.prog X.w (upd H a o) h' a o):
 Inv X χ σ (upd H a o) {s with heap:=h',toks:=t'}:=I.un (Un.laid k hp<|I.bY.fresh hp)<|I.bY.laid k hp new
theorem Inv.write(I:Inv X χ σ H s)(mu:Xd (H x))(he:e=x\/H e=AC (.own x))(k:∀b u,b≠e->s.heap.get? b=AC u->h'.get? b=AC u)(Tv:∃u,h'.get? e=AC u)
 (new:eF X.prog X.w (upd H x o) h' x o):Inv X χ σ (upd H x o) {s with heap:=h',toks:=t'}:=I.un (Un.write mu he k Tv)<|I.bY.write mu he k Tv new
theorem Inv.Eu(I:Inv X χ σ H s)(h:∀p∈nQ,s.heap.get? p.1=AC p.2/\H p.1=At/\p.1≠X.env.locals/\p.1∉X.fs/\∀v,p.2.data≠.cell v):Inv X nQ σ H s:=
 ⟨I.ok,I.os,I.bare,I.base,I.loc,I.cell,I.free,I.g0,λ p hp=>(A41.mp hp).elim (λ z=>I.pin p<|A79 _ z)<|h p,I.bY,I.len,I.tab⟩
theorem AH{N:γ Str}(hN:N.Nodup){i j:Nat}(a:N[i]?=AC x)(b:N[j]?=AC x):i=j:=by let⟨h1,e1⟩:=A08.mp a;let⟨h2,e2⟩:=A08.mp b;exact(List.getElem_inj hN).mp<|e1.trans e2.symm
theorem wQ(I:Inv X χ σ H s)(hN:X.N.Nodup)(hi:X.N[i]?=AC x)(hx:Loc X.env.scope x)(r:RelV v u)
 (h:∀s',Inv X χ (σ.set i<|some v) H s'->(∃a,IN a s.heap s'.heap/\(a=X.env.locals\/X.env.cells.lookup x=AC a))/\(X.env.scope.names.lookup x=AC .local->s.toks<s'.toks)->Q () s') (hf:X.fn x=Ch\/X.env.scope.names.lookup x=AC .local:=by first|exact .inl rfl|exact .inr rfl|assumption):EQ M A (storeName X.env x u) Q E s:=by
 let⟨m,hn,hl⟩:=id I.loc;have aaf:(X.env.scope.kind==.class||(X.env.scope.kind==.module&&X.env.locals != X.env.globals))=AT:=by rw[I.ok.kind];rfl
 have hiσ:i<σ.length:=by rw[I.len];exact(A08.mp hi).1
 have OG:=I.OG;have tracked:∀{a}{h'},(∃o,s.heap.get? a=AC o/\H a=At)->IN a s.heap h'->l0 X.prog X.w H h':=λ {a h'} ha hs b ob e=>by
  let⟨_,_,rS⟩:=ha;refine(I.bY b ob e).pC (λ c w' hc q=>(hs.2 c ?_).trans q) (λ _ q=>q) (λ _ _ q=>q) λ _ _ _ q=>q;rintro rfl;rcases hc with rfl|hc
  .rw[rS]at e;cases e
  .rw[rS]at hc;cases hc
 rcases hx with hk|hk
 .refine wpAny_storeName_local hk hn (λ h' J0 hs=>?_) aaf;let⟨oL,_,_,hoL,_⟩:=id hn;refine h _ ⟨I.ok,I.os,I.bare,⟨λ b o e n hb hx=>?_,λ b o e n hb hx=>?_,I.base.free,λ b o e hx=>?_,I.base.sh,I.base.qX,I.base.oa⟩,⟨_,J0,λ j y v' e1 e2 e3=>?_⟩,λ y c e=>?_,I.free,I.g0,λ p hp=>?_,tracked ⟨oL,hoL,I.free⟩ hs,by simpa using I.len,I.tab⟩ ⟨⟨_,hs,.inl rfl⟩,λ _=>A62 _⟩
  .exact(hs.2 b<|A13<|A18 (A00 e) I.ok.above).trans<|I.base.keep b o e n hb hx
  .let⟨sl,e1⟩:=I.base.slot b o e n hb hx;exact⟨sl,(hs.2 b<|A13<|A18 (A00 e) I.ok.above).trans e1⟩
  .let⟨o',e1⟩:=I.base.there b o e hx;exact⟨o',(hs.2 b<|A13<|A18 (A00 e) I.ok.above).trans e1⟩
  .by_cases hj:j=i
   .subst hj;rw[hi]at e1;cases e1;rw[A37 hiσ]at e2;cases e2;exact⟨u,r,.inl ⟨hk,by simp⟩⟩
   .rw[A29<|A07 hj]at e2;let⟨u',r',q⟩:=hl j y v' e1 e2 e3;refine⟨u',r',?_⟩;rcases q with⟨k,e⟩|⟨k,c,e,z⟩
    .refine .inl ⟨k,?_⟩;have:y≠x:=λ e=>hj<|AH hN e1<|e▸hi;simp[this,e]
    .exact .inr ⟨k,c,e,z.sameBut hs<|OG y c e⟩
  .let⟨w',z⟩:=I.cell y c e;exact⟨w',z.sameBut hs<|OG y c e⟩
  .let⟨e,n,ne,nf,d⟩:=I.pin p hp;exact⟨(hs.2 p.1 ne).trans e,n,ne,nf,d⟩
 .have We:X.fn x=Ch:=by
   rcases hf with z|z
   .exact z
   .rw[z]at hk;cases hk
  let⟨c,hc⟩:=I.ok.has x (.inl hk);let⟨w',z⟩:=I.cell x c hc;refine wpAny_storeName_cell I.ok.kind hk hc z λ h' vD hs=>?_;let⟨oc,Yt,_L⟩:=id z;refine h {s with heap:=h'} ⟨I.ok,I.os,I.bare,⟨λ b o e n hb hx=>?_,λ b o e n hb hx=>?_,I.base.free,λ b o e hx=>?_,I.base.sh,I.base.qX,I.base.oa⟩,⟨m,hn.sameBut hs<|A07<|OG x c hc,λ j y v' e1 e2 e3=>?_⟩,λ y c' e=>?_,I.free,I.g0,λ p hp=>?_,tracked ⟨oc,Yt,I.g0 x c hc⟩ hs,by simpa using I.len,I.tab⟩ ⟨⟨c,hs,.inr hc⟩,λ z=>absurd (hk.symm.trans z) ∅⟩
  .exact(hs.2 b<|A13<|A18 (A00 e)<|I.ok.Sz x c We hc).trans<|I.base.keep b o e n hb hx
  .let⟨sl,e1⟩:=I.base.slot b o e n hb hx;exact⟨sl,(hs.2 b<|A13<|A18 (A00 e)<|I.ok.Sz x c We hc).trans e1⟩
  .let⟨o',e1⟩:=I.base.there b o e hx;exact⟨o',(hs.2 b<|A13<|A18 (A00 e)<|I.ok.Sz x c We hc).trans e1⟩
  .by_cases hj:j=i
   .subst hj;rw[hi]at e1;cases e1;rw[A37 hiσ]at e2;cases e2;exact⟨u,r,.inr ⟨.inl hk,c,hc,vD⟩⟩
   .rw[A29<|A07 hj]at e2;let⟨u',r',q⟩:=hl j y v' e1 e2 e3;refine⟨u',r',?_⟩;rcases q with q|⟨k,c',e,z'⟩
    .exact .inl q
    .refine .inr ⟨k,c',e,z'.sameBut hs ?_⟩;rintro rfl;exact hj<|AH hN e1<|I.ok.inj _ _ _ e hc▸hi
  .by_cases YC:c'=c
   .subst YC;exact⟨_,vD⟩
   .let⟨w2,z2⟩:=I.cell y c' e;exact⟨w2,z2.sameBut hs YC⟩
  .let⟨e,n,ne,nf,d⟩:=I.pin p hp;refine⟨(hs.2 p.1 ?_).trans e,n,ne,nf,d⟩;intro q;rw[q,Yt]at e;have q':=A04 e;exact d w' (by rw[<-q'];exact _L)
theorem tY(I:Inv X χ σ H s)(hN:X.N.Nodup)(hi:X.N[i]?=AC x)(hx:Loc X.env.scope x)(r:RelV v u)
 (h:∀s',Inv X χ (σ.set i<|some v) H s'->Q () s') (hf:X.fn x=Ch\/X.env.scope.names.lookup x=AC .local:=by first|exact .inl rfl|exact .inr rfl|assumption):EQ M A (storeName X.env x u) Q E s:=
 wQ I hN hi hx r (λ s' I' _=>h s' I') hf
theorem Inv.K7(I:Inv X χ σ H s)(ho:s'.os=s.os)(u:Un (uM X.stack) ch H H' s.heap s'.heap)(bY:l0 X.prog X.w H' s'.heap)(hg:AllBare s'.gens)
 (BW:∀b∈ch,(b∈X.ex\/X.s₀.heap.objs.size<=b)/\b≠X.env.locals/\(∀x c,X.env.cells.lookup x=AC c->c≠b)/\∀p∈X.pn++χ,p.1≠b):Inv X χ σ H' s':=by
 let⟨h',g',d',t',o'⟩:=s';have e:=ho;subst e;exact I.call u bY hg BW
end
abbrev XK:=ζ->ε δ->Hp->Prop
abbrev St:=γ<|ε V
abbrev VK:=V->Hp->Prop
abbrev TE:=St->Hp->VK->Prop
abbrev TT:=St->Hp->(Bool->Hp->Prop)->Prop
abbrev TA:=St->Hp->(γ V->Hp->Prop)->Prop
structure Ends where
 nx:St->Hp->Prop
 rt:VK
 bk:St->Hp->Prop:=λ _ _=>False
 ct:St->Hp->Prop:=λ _ _=>False
abbrev TS:=Ends->St->Hp->Prop
def EP(X:Cx)(χ:γ (δ×μ))(σ:St)(Q:VK)(u:ζ)(s':θ):Prop:=∃v H',Inv X χ σ H' s'/\RelV v u/\Q v H'
def TP(X:Cx)(χ:γ (δ×μ))(σ:St)(Q:Bool->Hp->Prop)(b:Bool)(s':θ):Prop:=∃H',Inv X χ σ H' s'/\Q b H'
def AP(X:Cx)(χ:γ (δ×μ))(σ:St)(Q:γ V->Hp->Prop)(us:γ ζ)(s':θ):Prop:=∃vs H',Inv X χ σ H' s'/\Vals vs us/\Q vs H'
def SP(X:Cx)(χ:γ (δ×μ))(D:Ends)(f:Flow)(s':θ):Prop:=
 match f with
 |.next=>∃σ' H',Inv X χ σ' H' s'/\D.nx σ' H'
 |.brk=>∃σ' H',Inv X χ σ' H' s'/\D.bk σ' H'
 |.cont=>∃σ' H',Inv X χ σ' H' s'/\D.ct σ' H'
 |.ret u=>∃v σ' H',Inv X χ σ' H' s'/\RelV v u/\D.rt v H'
def PE(X:Cx)(e:ι)(t:TE):Prop:=
 ∀(χ:γ (δ×μ))(s:θ)(σ:St)(H:Hp)(Q:VK),Inv X χ σ H s->t σ H Q->EQ (model X.prog X.w) X.A (eval e X.env) (EP X χ σ Q) X.xe s
def PT(X:Cx)(e:ι)(t:TT):Prop:=
 ∀(χ:γ (δ×μ))(s:θ)(σ:St)(H:Hp)(Q:Bool->Hp->Prop),Inv X χ σ H s->t σ H Q->EQ (model X.prog X.w) X.A (isTrue e X.env<|eval e X.env) (TP X χ σ Q) X.xe s
def PW(X:Cx)(e:ι)(t:TT):Prop:=
 ∀(whole:Sem ζ)(χ:γ (δ×μ))(s:θ)(σ:St)(H:Hp)(Q:Bool->Hp->Prop),Inv X χ σ H s->t σ H Q->EQ (model X.prog X.w) X.A (isTrue e X.env whole) (TP X χ σ Q) X.xe s
theorem PW.pt(h:PW X e t):PT X e t:=h _
def PA(X:Cx)(es:γ ι)(t:TA):Prop:=
 ∀(pos:Pos)(χ:γ (δ×μ))(s:θ)(σ:St)(H:Hp)(Q:γ V->Hp->Prop),Inv X χ σ H s->t σ H Q->EQ (model X.prog X.w) X.A (spliced<|backTo pos<|starEach es X.env) (AP X χ σ Q) X.xe s
def PS(X:Cx)(st:η)(t:TS):Prop:=
 ∀(χ:γ (δ×μ))(s:θ)(σ:St)(H:Hp)(D:Ends),Inv X χ σ H s->t D σ H->EQ (model X.prog X.w) X.A (exec st X.env) (SP X χ D) X.xe s
def rp(X:Cx)(st:γ η)(t:TS):Prop:=
 ∀(χ:γ (δ×μ))(s:θ)(σ:St)(H:Hp)(D:Ends),Inv X χ σ H s->t D σ H->EQ (model X.prog X.w) X.A (execs st X.env) (SP X χ D) X.xe s
theorem cG{M:Model}{A:τ}{E:ζ->θ->Prop}{s:θ}(h:EQ M A t Q E s)(hQ:∀a s,Q a s->Q' a s):EQ M A t Q' E s:=A19 h hQ λ _ _ x=>x
section
def mf(i:Nat):TE:=λ σ H Q=>∃v,σ[i]?=AC (AC v)/\Q v H
def tC(v:V):TE:=λ _ H Q=>Q v H
theorem k9(hN:X.N[i]?=AC x)(hv:Hl X.env.scope x)(hd:(x==("__debug__"))=AT:=by decide)(n4:(x==("__classdict__"))=AT:=by decide):PE X (.Name x pos) (mf i):=by
 intro χ s σ H Q I h;let⟨v,e,h⟩:=h;let⟨m,hn,hl⟩:=I.loc;let⟨u,r,l⟩:=hl i x v hN e hv;have fin:EP X χ σ Q u s:=⟨v,H,I,r,h⟩
 rcases l with⟨hk,hm⟩|⟨hk,c,hc,rT⟩
 .exact wpAny_Name (wpAny_loadName_local I.ok.kind hk hn hm fin) hd
 .rcases hk with hk|hk
  .exact wpAny_Name (wpAny_loadName_cell I.ok.kind hk hc rT fin) hd
  .exact wpAny_Name (wpAny_loadName_free I.ok.kind hk hc rT fin n4) hd
theorem QX:PE X (.Constant (.int i) j pos) (tC<|.int i):=λ _ _ _ H _ I h=>wpAny_Constant_int ⟨.int i,H,I.tok _,⟨_,rfl⟩,h⟩
theorem Pk:PE X (.Constant (.bool b) j pos) (tC<|.bl b):=λ _ _ _ H _ I h=>Constant_bool ⟨.bl b,H,I,rfl,h⟩
theorem Cz:PE X (.Constant .none j pos) (tC .non):=λ _ _ _ H _ I h=>Constant_none ⟨.non,H,I,rfl,h⟩
theorem QQ:PE X (.Constant (.str x) j pos) (tC<|.str x):=λ _ _ _ H _ I h=>Calls.Constant_str ⟨.str x,H,I.tok _,⟨_,rfl⟩,h⟩
def Gl(X:Cx)(x:Str):Prop:=X.env.kindOf x=AC .globalImplicit
theorem nc(I:Inv X χ σ H s)(hg:Gl X x)(hm:X.mg x=AC u)(h:Q u s)
 (hd:(x==("__debug__"))=AT:=by decide):EQ (model X.prog X.w) X.A (eval (.Name x pos) X.env) Q E s:=
 B74 I.ok.kind hg (Calls.loadGlobal_global (by rw[I.ok.glob];exact I.mod.glob.keeps I.bk) hm h) hd
theorem lq(I:Inv X χ σ H s)(hg:Gl X x)(hm:X.mg x=At)(hv:bootBuiltins x=AC u)(h:Q u s)
 (hn:x≠ "__name__":=by decide) (hd:(x==("__debug__"))=AT:=by decide):EQ (model X.prog X.w) X.A (eval (.Name x pos) X.env) Q E s:=by
 let⟨mb,h1,h2⟩:=I.mod.blt;exact B74 I.ok.kind hg (Calls.loadGlobal_builtin (by rw[I.ok.glob];exact I.mod.glob.keeps I.bk) hm (by rw[I.ok.blt];exact h1.keeps I.bk) ((h2 x hn).trans hv) h) hd
theorem MD(hg:Gl X x)(hm:X.mg x=AC u)(r:RelV v u)(hd:(x==("__debug__"))=AT:=by decide):PE X (.Name x pos) (tC v):=
 λ _ _ _ H _ I h=>nc I hg hm ⟨v,H,I,r,h⟩ hd
theorem MH(hg:Gl X x)(hm:X.mg x=At)(hv:bootBuiltins x=AC u)(r:RelV v u)(hn:x≠ "__name__":=by decide)(hd:(x==("__debug__"))=AT:=by decide):PE X (.Name x pos) (tC v):=
 λ _ _ _ H _ I h=>lq I hg hm hv ⟨v,H,I,r,h⟩ hn hd
def PC(X:Cx)(op:CmpOp)(a b:ι)(t:TE):Prop:=
 ∀ (χ:γ (δ×μ))(s:θ)(σ:St)(H:Hp)(Q:VK),Inv X χ σ H s->t σ H Q ->
  EQ (model X.prog X.w) X.A (eval a X.env) (λ v s₁=>EQ (model X.prog X.w) X.A (eval b X.env) (λ u s₂=>EQ (model X.prog X.w) X.A (compareOp op v u) (EP X χ σ Q) X.xe s₂) X.xe s₁) X.xe s
theorem Jk(b:ι)(h:op≠.In)(h2:op≠.NotIn):behindInMarks op b=AT:=by
 have e1:(op==CmpOp.In)=AT:=by cases op<;>first|rfl|exact absurd rfl h
 have e2:(op==CmpOp.NotIn)=AT:=by cases op<;>first|rfl|exact absurd rfl h2
 cases b<;>simp[behindInMarks,e1,e2]
def tB(t:TE):TT:=λ σ H Q=>t σ H λ x H1=>∃c,x=.bl c/\Q c H1
theorem IH(h:PC X op a b t)(h1:behindInMarks op b=AT:=by first|exact Jk _ ∅ ∅|rfl):PT X (.Compare a [op] [b] pos) (tB t):=by intro χ s σ H Q I hw;refine wpAny_isTrue_Compare1 (cG (h χ s σ H _ I hw) λ v s1 h1=>cG h1 λ u s2 h2=>cG h2 ?_) h1;rintro c s3 ⟨x,H1,I1,r1,q1⟩;let⟨d,rfl,q⟩:=q1;cases r1;exact A58 ⟨H1,I1,q⟩
theorem IF(h:PE X e t)(he:∀whole,isTrue e X.env whole=(do let v ←whole;standAt e.pos;holding [v] (truthy v)):=by intro _;rfl):PT X e (tB t):=by intro χ s σ H Q I hw;refine isTrue_plain (cG (h χ s σ H _ I hw) ?_)<|he _;rintro v s1 ⟨x,H1,I1,r1,q1⟩;let⟨d,rfl,q⟩:=q1;cases r1;exact A58 ⟨H1,I1,q⟩
variable{rest:γ ι}
def vL(t u:TT):TT:=λ σ H Q=>t σ H λ c H1=>if c=Ch then u σ H1 Q else Q AT H1
def wL(t u:TT):TT:=λ σ H Q=>t σ H λ c H1=>if c=Ch then Q Ch H1 else u σ H1 Q
def gb(t:TT):TT:=λ σ H Q=>t σ H λ c H1=>Q (!c) H1
theorem pw_and1(ha:PT X a tA):PW X (.BoolOp .And [a] pos) tA:=by
 intro wh χ s σ H Q I h;refine isTrue_and<|cG (ha χ s σ H Q I h) λ c s1 e=>?_;cases c with
 |true=>exact isTrue_and_nil e
 |false=>exact e
theorem pw_or1(ha:PT X a tA):PW X (.BoolOp .Or [a] pos) tA:=by
 intro wh χ s σ H Q I h;refine isTrue_or<|cG (ha χ s σ H Q I h) λ c s1 e=>?_;cases c with
 |false=>exact isTrue_or_nil e
 |true=>exact e
theorem pw_and(ha:PT X a tA)(hb:PW X (.BoolOp .And (b::rest) pos) Zm):PW X (.BoolOp .And (a::b::rest) pos) (vL tA Zm):=by
 intro wh χ s σ H Q I h;refine isTrue_and<|cG (ha χ s σ H _ I h) ?_;rintro c s1 ⟨H1,I1,q1⟩;cases c with
 |true=>exact hb wh χ s1 σ H1 Q I1 q1
 |false=>exact⟨H1,I1,q1⟩
theorem pw_or(ha:PT X a tA)(hb:PW X (.BoolOp .Or (b::rest) pos) Zm):PW X (.BoolOp .Or (a::b::rest) pos) (wL tA Zm):=by
 intro wh χ s σ H Q I h;refine isTrue_or<|cG (ha χ s σ H _ I h) ?_;rintro c s1 ⟨H1,I1,q1⟩;cases c with
 |true=>exact⟨H1,I1,q1⟩
 |false=>exact hb wh χ s1 σ H1 Q I1 q1
theorem IG(ha:PT X a tA):PT X (.UnaryOp .Not a pos) (gb tA):=by intro χ s σ H Q I h;exact isTrue_not<|ha χ s σ H (λ c H1=>Q (!c) H1) I h
def Ut(ta tb:TE):TE:=λ σ H Q=>ta σ H λ x H1=>∃c,x=.bl c/\if c=Ch then tb σ H1 Q else Q (.bl AT) H1
def Ze(ta tb:TE):TE:=λ σ H Q=>ta σ H λ x H1=>∃c,x=.bl c/\if c=Ch then Q (.bl Ch) H1 else tb σ H1 Q
def Uk(ta:TE):TE:=λ σ H Q=>ta σ H λ x H1=>∃c,x=.bl c/\Q (.bl<|!c) H1
theorem QR(h:PE X a t):PE X (.BoolOp op [a] pos) t:=λ χ s σ H Q I hw=>BoolOp_one<|h χ s σ H Q I hw
theorem QZ(ha:PE X a ta)(hb:PE X (.BoolOp .And (b::rest) pos) tb):PE X (.BoolOp .And (a::b::rest) pos) (Ut ta tb):=by
 intro χ s σ H Q I h;refine BoolOp_and<|cG (ha χ s σ H _ I h) ?_;rintro v s1 ⟨x,H1,I1,r1,q1⟩;let⟨c,rfl,q1⟩:=q1;cases r1;refine A58 ?_;cases c with
 |true=>exact hb χ s1 σ H1 Q I1 q1
 |false=>exact⟨.bl AT,H1,I1,rfl,q1⟩
theorem UW(ha:PE X a ta)(hb:PE X (.BoolOp .Or (b::rest) pos) tb):PE X (.BoolOp .Or (a::b::rest) pos) (Ze ta tb):=by
 intro χ s σ H Q I h;refine BoolOp_or<|cG (ha χ s σ H _ I h) ?_;rintro v s1 ⟨x,H1,I1,r1,q1⟩;let⟨c,rfl,q1⟩:=q1;cases r1;refine A58 ?_;cases c with
 |false=>exact hb χ s1 σ H1 Q I1 q1
 |true=>exact⟨.bl Ch,H1,I1,rfl,q1⟩
theorem QU(ha:PE X a ta):PE X (.UnaryOp .Not a pos) (Uk ta):=by intro χ s σ H Q I h;refine UnaryOp_<|cG (ha χ s σ H _ I h) ?_;rintro v s1 ⟨x,H1,I1,r1,q1⟩;let⟨c,rfl,q1⟩:=q1;cases r1;exact not_of<|A58 ⟨.bl<|!c,H1,I1,rfl,q1⟩
def tIf(t:TT)(ta tb:TE):TE:=λ σ H Q=>t σ H λ c H1=>if c=Ch then ta σ H1 Q else tb σ H1 Q
theorem IT(hc:PT X c tA)(ha:PE X a ta)(hb:PE X b tb):PE X (.IfExp c a b pos) (tIf tA ta tb):=by
 intro χ s σ H Q I h;refine wpAny_IfExp<|cG (hc χ s σ H _ I h) ?_;rintro d s1 ⟨H1,I1,q1⟩;cases d with
 |true=>exact ha χ s1 σ H1 Q I1 q1
 |false=>exact hb χ s1 σ H1 Q I1 q1
end
def jE(K:Da)(H:Hp)(a:δ)(xs:γ V):Prop:=
 Rd H a (.lst xs) \/
  ∃(o:μ)(bp:Array ζ)(n:Nat),K.lookup a=AC o/\o.cls=.type "list" /\ o.dict=At/\o.data=.seq bp n/\bp.size<=sizeLine/\Vals xs bp.toList
def nz(K:Da)(H:Hp)(a:δ)(xs:γ V):Prop:=
 Rd H a (.tup xs) \/
  ∃(o:μ)(bp:Array ζ)(n:Nat),K.lookup a=AC o/\o.cls=.type "tuple" /\ (o.data=.seq bp n/\o.dict=At/\o.slots=#[])/\bp.size<=sizeLine/\Vals xs bp.toList
def aa3:ζ->ε V
|.none=>AC .non
|.bool b=>AC<|.bl b
|.int i _=>AC<|.int i
|.str x _=>AC<|.str x
|.bytes b _=>AC<|.TY b
|.float b _=>AC<|.YJ b
|.ref a=>AC<|.ref a
|.type n=>AC<|.ty n
|_=>At
theorem RelV.abs(r:RelV x u):aa3 u=AC x:=by
 cases x with
 |non=>cases r;rfl
 |bl _=>cases r;rfl
 |int _=>let⟨t,rfl⟩:=r;rfl
 |str _=>let⟨t,rfl⟩:=r;rfl
 |TY _=>let⟨t,rfl⟩:=r;rfl
 |YJ _=>let⟨t,rfl⟩:=r;rfl
 |ref _=>cases r;rfl
 |ty _=>cases r;rfl
theorem RelV.inj(r:RelV x u)(q:RelV y u):x=y:=A04<|r.abs.symm.trans q.abs
theorem Vals.inj:∀{xs ys}{us},Vals xs us->Vals ys us->xs=ys
|_,_,_,.nil,.nil=>rfl
|_,_,_,.cons r t,.cons r' t'=>by rw[r.inj r',Vals.inj t t']
theorem jE.of{K:Da}(h:H a=AC (.lst xs)):jE K H a xs:=.inl<|.inl h
theorem nz.of{K:Da}(h:H a=AC (.tup xs)):nz K H a xs:=.inl<|.inl h
theorem Inv.list(I:Inv X χ σ H s)(h:jE X.K H a xs):∃bp,Vals xs bp/\PlainL s.heap a bp.toArray/\xs.length<=sizeLine:=by
 rcases h with h|⟨o,bp,n,hk,hc,hd,hs,hz,r⟩
 .let⟨z,bp,n,r,e⟩:=h.ok I.bY;exact⟨bp,r,⟨_,n,e,rfl,rfl,rfl⟩,z⟩
 .refine⟨_,r,⟨o,n,I.l3 a o hk,hc,hd,by simpa using hs⟩,?_⟩;have e:=r.length;simp only[B44]at e;lia
theorem Inv.tuple(I:Inv X χ σ H s)(h:nz X.K H a xs):∃bp,Vals xs bp/\IsTup s.heap a bp.toArray/\xs.length<=sizeLine:=by
 rcases h with h|⟨o,bp,n,hk,hc,hs,hz,r⟩
 .let⟨z,bp,r,p⟩:=h.ok I.bY;exact⟨bp,r,p.is,z⟩
 .refine⟨_,r,⟨o,I.l3 a o hk,hc,n,by simpa using hs.1⟩,?_⟩;have e:=r.length;simp only[B44]at e;lia
theorem Inv.pR(I:Inv X χ σ H s)(h:jE X.K H a xs)(h':jE X.K H a ys):xs=ys:=by
 let⟨bp,r,⟨o,n,e,_,_,d⟩,_⟩:=I.list h;let⟨AY,r',⟨o',n',e',_,_,d'⟩,_⟩:=I.list h';rw[e]at e';cases e';rw[d]at d';injection d' with d1 _
 have:bp=AY:=by simpa using A11 ZB d1
 subst this;exact r.inj r'
theorem Inv.qF(I:Inv X χ σ H s)(h:nz X.K H a xs)(h':nz X.K H a ys):xs=ys:=by
 let⟨bp,r,⟨o,e,_,n,d⟩,_⟩:=I.tuple h;let⟨AY,r',⟨o',e',_,n',d'⟩,_⟩:=I.tuple h';rw[e]at e';cases e';rw[d]at d';injection d' with d1 _
 have:bp=AY:=by simpa using A11 ZB d1
 subst this;exact r.inj r'
abbrev Cx.wish(X:Cx)(E:ζ->θ->Prop):Cx:={X with xe:=E}
abbrev Cx.gy(X:Cx):Cx:=X.wish λ _ _=>False
theorem Cx.Ok.wish{X:Cx}(ok:X.Ok)(E:ζ->θ->Prop):(X.wish E).Ok:=
 ⟨ok.mod,ok.kind,ok.glob,ok.blt,ok.above,ok.inj,ok.has,ok.Sz,ok.hd,ok.frames,ok.Lr,ok.YN,ok.bs,ok.HB,ok.AG,ok.G0,ok.mG,ok.Kj⟩
theorem Cx.Ok.gD{X:Cx}(ok:(X.wish E).Ok):X.Ok:=
 ⟨ok.mod,ok.kind,ok.glob,ok.blt,ok.above,ok.inj,ok.has,ok.Sz,ok.hd,ok.frames,ok.Lr,ok.YN,ok.bs,ok.HB,ok.AG,ok.G0,ok.mG,ok.Kj⟩
theorem Inv.wish(I:Inv X χ σ H s)(E:ζ->θ->Prop):Inv (X.wish E) χ σ H s:=⟨I.ok.wish E,I.os,I.bare,I.base,I.loc,I.cell,I.free,I.g0,I.pin,I.bY,I.len,I.tab⟩
theorem Inv.gD(I:Inv (X.wish E) χ σ H s):Inv X χ σ H s:=⟨I.ok.gD,I.os,I.bare,I.base,I.loc,I.cell,I.free,I.g0,I.pin,I.bY,I.len,I.tab⟩
theorem SP.gD(h:SP (X.wish E) χ D f s'):SP X χ D f s':=by
 cases f with
 |next=>let⟨σ',H',I,q⟩:=h;exact⟨σ',H',I.gD,q⟩
 |brk=>let⟨σ',H',I,q⟩:=h;exact⟨σ',H',I.gD,q⟩
 |cont=>let⟨σ',H',I,q⟩:=h;exact⟨σ',H',I.gD,q⟩
 |ret u=>let⟨v,σ',H',I,r,q⟩:=h;exact⟨v,σ',H',I.gD,r,q⟩
theorem PE.gy(h:PE X.gy e t):PE X e t:=λ χ s σ H Q I hw=>A19 (h χ s σ H Q (I.wish _) hw) (by rintro _ _ ⟨v,H',I',r,q⟩;exact⟨v,H',I'.gD,r,q⟩) λ _ _ z=>GM z
theorem PT.gy(h:PT X.gy e t):PT X e t:=λ χ s σ H Q I hw=>A19 (h χ s σ H Q (I.wish _) hw) (by rintro _ _ ⟨H',I',q⟩;exact⟨H',I'.gD,q⟩) λ _ _ z=>GM z
theorem rp.gy{st:γ η}(h:rp X.gy st t):rp X st t:=λ χ s σ H D I hw=>A19 (h χ s σ H D (I.wish _) hw) (λ _ _ q=>q.gD) λ _ _ z=>GM z
section
variable{st:η}{rest:γ η}
def Ul:TS:=λ D σ H=>D.nx σ H
def Zc(t u:TS):TS:=λ D σ H=>t {D with nx:=u D} σ H
theorem Es:rp X [] Ul:=λ _ _ σ H _ I h=>B45 ⟨σ,H,I,h⟩
theorem ji(h1:PS X st t)(h2:rp X rest u):rp X (st::rest) (Zc t u):=by
 intro χ s σ H D I h;refine wpAny_execs_cons<|cG (h1 χ s σ H {D with nx:=u D} I h) λ f s1 q=>?_;cases f with
 |next=>let⟨σ',H',I',q⟩:=q;exact h2 χ s1 σ' H' D I' q
 |ret v=>exact q
 |brk=>exact q
 |cont=>exact q
theorem mZ(h1:PS X st t):rp X [st] t:=by
 intro χ s σ H D I h;refine wpAny_execs_cons<|cG (h1 χ s σ H D I h) λ f s1 q=>?_;cases f with
 |next=>exact B45 q
 |ret v=>exact q
 |brk=>exact q
 |cont=>exact q
theorem Inv.quiet(I:Inv X χ σ H s):interactive X.env=AT:=by simp[interactive,I.ok.kind]
def Up(te:TE):TS:=λ D σ H=>te σ H λ _ H1=>D.nx σ H1
theorem pF(he:PE X e te)(hs:swapsWith e At pos.line X.env=pure AT:=by rfl):PS X (.Expr e pos) (Up te):=by intro χ s σ H D I h;exact wpAny_Expr_any (cG (he χ s σ H _ I h) <|by rintro v s1 ⟨x,H1,I1,r1,q1⟩;exact⟨σ,H1,I1,q1⟩) I.quiet hs
def Zd(te:TE):TS:=λ D σ H=>te σ H D.rt
theorem IJ(he:PE X e te):PS X (.Return (AC e) pos) (Zd te):=by intro χ s σ H D I h;exact wpAny_Return_some<|cG (he χ s σ H _ I h) <|by rintro v s1 ⟨x,H1,I1,r1,q1⟩;exact⟨x,σ,H1,I1,r1,q1⟩
def Zh(c:TT)(t u:TS):TS:=λ D σ H=>c σ H λ b H1=>if b=Ch then t D σ H1 else u D σ H1
theorem Et(hc:PT X c tc)(ha:rp X a t)(hb:rp X b u):PS X (.If c a b pos) (Zh tc t u):=by
 intro χ s σ H D I h;refine wpAny_If<|cG (hc χ s σ H _ I h) ?_;rintro d s1 ⟨H1,I1,q1⟩;cases d with
 |true=>exact ha χ s1 σ H1 D I1 q1
 |false=>exact hb χ s1 σ H1 D I1 q1
end
abbrev TG:=V->St->Hp->(St->Hp->Prop)->Prop
abbrev SO:=γ V->St->Hp->(St->Hp->Prop)->Prop
def PG(X:Cx)(target:ι)(t:TG):Prop:=
 ∀ (χ:γ (δ×μ))(s:θ)(σ:St)(H:Hp)(v:V)(u:ζ)(Q:St->Hp->Prop),Inv X χ σ H s->RelV v u->t v σ H Q ->
  EQ (model X.prog X.w) X.A (assign target X.env u) (λ _ s'=>∃σ' H',Inv X χ σ' H' s'/\Q σ' H') X.xe s
def Lk(X:Cx)(ts:γ ι)(t:SO):Prop:=
 ∀ (χ:γ (δ×μ))(s:θ)(σ:St)(H:Hp)(vs:γ V)(us:γ ζ)(Q:St->Hp->Prop),Inv X χ σ H s->Vals vs us->t vs σ H Q ->
  EQ (model X.prog X.w) X.A (assignInOrder ((assignEach ts X.env).map (·.2)) us) (λ _ s'=>∃σ' H',Inv X χ σ' H' s'/\Q σ' H') X.xe s
abbrev TIp:=V->V->Hp->VK->Prop
def PIp(X:Cx)(op:Operator)(t:TIp):Prop:=
 ∀ (χ:γ (δ×μ))(s:θ)(σ:St)(H:Hp)(x y:V)(v u:ζ)(Q:VK),Inv X χ σ H s->RelV x v->RelV y u->t x y H Q ->
  EQ (model X.prog X.w) X.A (inplaceOp op v u) (EP X χ σ Q) X.xe s
def aW(i:Nat):TG:=λ v σ H Q=>Q (σ.set i<|some v) H
theorem Ew(hN:X.N.Nodup)(hi:X.N[i]?=AC x)(hx:Loc X.env.scope x)(hf:X.fn x=Ch\/X.env.scope.names.lookup x=AC .local:=by first|exact .inl rfl|exact .inr rfl|assumption):PG X (.Name x pos) (aW i):=by intro χ s σ H v u Q I r h;exact wpAny_assign_Name<|tY I hN hi hx r (λ s' I'=>⟨_,H,I',h⟩) hf
def aay:SO:=λ vs σ H Q=>vs=[]/\Q σ H
def Wx(t:TG)(u:SO):SO:=λ vs σ H Q=>∃v r,vs=v::r/\t v σ H λ σ' H'=>u r σ' H' Q
theorem MB:Lk X [] aay:=by intro χ s σ H vs us Q I r h;let⟨e,h⟩:=h;subst e;cases r;exact assignInOrder_nil ⟨σ,H,I,h⟩
theorem IP(h1:PG X e t)(h2:Lk X es u)
 (hs:(assignEach (e::es) X.env).map (·.2)=assign e X.env::(assignEach es X.env).map (·.2):=by rfl):Lk X (e::es) (Wx t u):=by
 intro χ s σ H vs us Q I r h;let⟨v,vr,e1,h⟩:=h;subst e1;cases r with
 |cons r rr=>rw[hs];refine assignInOrder_cons<|cG (h1 χ s σ H _ _ _ I r h) ?_;rintro _ s1 ⟨σ1,H1,I1,q1⟩;exact h2 χ s1 σ1 H1 _ _ Q I1 rr q1
def jt(K:Da)(n:Nat)(t:SO):TG:=λ v σ H Q=>∃a xs,v=.ref a/\nz K H a xs/\xs.length=n/\t xs σ H Q
theorem IQ(hc:X.calm=Ch)(h:Lk X es t)
 (hn:(assignEach es X.env).length=n:=by rfl) (pW:(assignEach es X.env).findIdx? (·.1)=At:=by rfl):PG X (.Tuple es k pos) (jt X.K n t):=by
 intro χ s σ H v u Q I r hw;let⟨a,xs,e1,hq,hl,hw⟩:=hw;subst e1;cases r;let⟨bp,rv,ht,hz⟩:=I.tuple hq;refine assign_Tuple_tuple (I.ok.hd hc) ht (by simp[hn,<-hl,rv.length]) pW λ h' hx=>?_;have I1:=I.kept (t':=s.toks) λ b o e=>hx b o (A13<|A00 e) e;exact h χ _ σ H xs _ Q I1 (by simpa using rv) hw
def Us(te:TE)(g:TG):TS:=λ D σ H=>te σ H λ x H1=>g x σ H1 D.nx
theorem QH(he:PE X e te)(hg:PG X tg g)(hs:swapsWithSole [tg] e pos.line X.env=pure AT:=by rfl)(hw:swappedStores [tg] e X.env=pure At:=by rfl)
 (h1:(assignEach [tg] X.env).map (·.2)=[assign tg X.env]:=by rfl):PS X (.Assign [tg] e pos) (Us te g):=by
 intro χ s σ H D I h;refine wpAny_Assign_stores (cG (he χ s σ H _ I h) ?_) hs hw;rintro v s1 ⟨x,H1,I1,r1,q1⟩;rw[h1];exact cG (hg χ s1 σ H1 x v _ I1 r1 q1) λ _ s2 q=>q
theorem qL(hN:X.N.Nodup)(hi:X.N[i]?=AC x)(hx:Loc X.env.scope x)(he:PE X e te)(hs:swapsWith e (AC<|.Name x pos') pos.line X.env=pure AT:=by rfl)(hf:X.fn x=Ch\/X.env.scope.names.lookup x=AC .local:=by first|exact .inl rfl|exact .inr rfl|assumption):
 PS X (.Assign [.Name x pos'] e pos) (Us te<|aW i):=by
 intro χ s σ H D I h;refine wpAny_Assign_Name (cG (he χ s σ H _ I h) ?_) hs;rintro v s1 ⟨y,H1,I1,r1,q1⟩;exact tY I1 hN hi hx r1 (λ s2 I2=>⟨_,H1,I2,q1⟩) hf
def Zn(i:Nat)(te:TE)(ti:TIp):TS:=λ D σ H=>∃x,σ[i]?=AC (AC x)/\te σ H λ y H1=>ti x y H1 λ z H2=>D.nx (σ.set i<|some z) H2
theorem QF(hN:X.N.Nodup)(hi:X.N[i]?=AC x)(hx:Loc X.env.scope x)(he:PE X e te)(ho:PIp X op ti)(hf:X.fn x=Ch\/X.env.scope.names.lookup x=AC .local:=by first|exact .inl rfl|exact .inr rfl|assumption) :
 PS X (.AugAssign (.Name x pos') op e pos) (Zn i te ti):=by
 intro χ s σ H D I h;let⟨v,e1,h⟩:=h;let⟨m,hn,hl⟩:=I.loc;have vis:Hl X.env.scope x:=by rcases hx with k|k;exact .inl k;exact .inr<|.inl k
 let⟨u,r,l⟩:=hl i x v hi e1 vis;refine wpAny_AugAssign_Name ?_;have go:EQ (model X.prog X.w) X.A (eval e X.env) (λ w s₂=>EQ (model X.prog X.w) X.A (inplaceOp op u w) (λ r s₃=>EQ (model X.prog X.w) X.A (storeName X.env x r) (λ _=>SP X χ D .next) X.xe s₃) X.xe s₂) X.xe s:=by refine cG (he χ s σ H _ I h) ?_;rintro w s1 ⟨y,H1,I1,r1,q1⟩;refine cG (ho χ s1 σ H1 v y u w _ I1 r r1 q1) ?_;rintro z s2 ⟨zv,H2,I2,r2,q2⟩;exact tY I2 hN hi hx r2 (λ s3 I3=>⟨_,H2,I3,q2⟩) hf
 rcases l with⟨hk,hm⟩|⟨hk,c,hc,rT⟩
 .exact wpAny_loadName_local I.ok.kind hk hn hm go
 .rcases hk with hk|hk
  .exact wpAny_loadName_cell I.ok.kind hk hc rT go
  .rcases hx with k|k
   .have:X.env.scope.names.lookup x=AC .free:=hk;rw[k]at this;cases this
   .have:X.env.scope.names.lookup x=AC .free:=hk;rw[k]at this;cases this
structure It where
 go:Nat->Hp->Prop
 BY:Nat->Hp->V->Hp->Prop
 stop:Nat->Hp->Prop
def qq(X:Cx)(χ:γ (δ×μ))(H:Hp)(b:δ):Prop:=
 H b=At/\b≠X.env.locals/\b∉X.fs/\(b∈X.ex\/X.s₀.heap.objs.size<=b)/\(∀x c,X.env.cells.lookup x=AC c->c≠b)/\∀p∈X.pn++χ,p.1≠b
theorem Inv.uN(I:Inv X χ σ H s)(hb:s.heap.objs.size<=b)(hn:H' b=At):qq X χ H' b:=by
 refine⟨hn,A42<|A18 I.lt hb,I.Rh hb,.inr<|A15 I.sz hb,λ x c e z=>?_,λ p hp z=>?_⟩
 .let⟨v,q⟩:=I.cell x c e;exact absurd (A18 q.lt (by rw[z];exact hb))<|A89 _
 .exact absurd (A18 (A00 (I.pin p hp).1) (by rw[z];exact hb))<|A89 _
structure Turn(P:Program)(w:World)(K:Da)(tg:Expr)(J:It)(fp:List Addr)(it:Addr)(tn:Nat->Heap->Prop):Prop where
 mem:it∈fp
 obj:∀i h,tn i h->∀b∈fp,∃o,h.get? b=AC o/\∀v,o.data≠.cell v
 keep:∀i h h',tn i h->(∀b∈fp,∀o,h.get? b=AC o->h'.get? b=AC o)->tn i h'
 item:∀(X:Cx),X.prog=P->X.w=w->X.K=K->X.calm=Ch->∀(i:Nat)(χ:List (Addr×Obj))(s:Shared)(σ:St)(H:Hp)(E:Value->Shared->Prop),Inv X χ σ H s->(∀b∈fp,qq X χ H b)->tn i s.heap->J.go i H ->
  EQ (model P w) X.A (pyNext<|.ref it) (λ r s1=>∃u,r=AC u /\
   EQ (model P w) X.A (letOwnedTupleGo tg (.ref it) u) (λ _ s2=>∃x H',Inv X χ σ H' s2/\RelV x u/\J.BY i H x H'/\tn (i+1) s2.heap/\∀b∈fp,H' b=At) E s1) E s
 done:∀(X:Cx),X.prog=P->X.w=w->X.K=K->X.calm=Ch->∀(i:Nat)(χ:List (Addr×Obj))(s:Shared)(σ:St)(H:Hp)(E:Value->Shared->Prop),Inv X χ σ H s->(∀b∈fp,qq X χ H b)->tn i s.heap->J.stop i H ->
  EQ (model P w) X.A (pyNext<|.ref it) (λ r s1=>r=At/\Inv X χ σ H s1) E s
 self:∀(A:Around)(i:Nat)(s:Shared)(Q:Value->Shared->Prop)(E:Value->Shared->Prop),tn i s.heap->Q (.ref it) s->EQ (model P w) A (pyIter<|.ref it) Q E s
abbrev TI:=St->Hp->(It->Hp->Prop)->Prop
def Y3(X:Cx)(χ:γ (δ×μ))(σ:St)(tg:ι)(R:It->Hp->Prop)(_n:ζ)(s2:θ):Prop:=
 ∃(it:δ)(fp:γ δ)(tn:Nat->ν->Prop)(J:It)(H':Hp),_n=.ref it/\Inv X χ σ H' s2/\Turn X.prog X.w X.K tg J fp it tn/\tn 0 s2.heap/\(∀b∈fp,qq X χ H' b)/\R J H'
def PI(X:Cx)(tg iter:ι)(wi:TI):Prop:=
 ∀ (χ:γ (δ×μ))(s:θ)(σ:St)(H:Hp)(R:It->Hp->Prop),Inv X χ σ H s->wi σ H R ->
  EQ (model X.prog X.w) X.A (eval iter X.env) (λ v s1=>EQ (model X.prog X.w) X.A (pyIter v) (Y3 X χ σ tg R) X.xe s1) X.xe s
theorem xt(ho:s.heap.get? it=AC o)(hc:o.cls=.type n)(hd:o.data=.fields vs)
    (hn:["enumerate","zip","dict_itemiterator","dict_reverseitemiterator","odict_iterator","itertools.zip_longest","itertools.pairwise"].contains n=AT) (hQ:Q () s):EQ M A (letOwnedTupleGo tg (.ref it) u) Q E s:=by
  cases tg<;>first
    |exact P3 hQ
    | (cases u<;>first
        |exact P3 hQ
        | (refine T0<|wpAny_load ho ?_
           rw[hc,hd];show EQ M A (if(["enumerate","zip","dict_itemiterator","dict_reverseitemiterator","odict_iterator","itertools.zip_longest","itertools.pairwise"].contains n&&vs[0]?==AC _)=Ch then _ else _) Q E s;rw[W1 (by intro h;rw[hn,Bool.false_and]at h;cases h)];exact P3 hQ))
def Itl(K:Da)(a:δ):It:=
 ⟨λ i H=>∃xs x,jE K H a xs/\xs[i]?=AC x,λ i H x H'=>H'=H/\∀xs,jE K H a xs->xs[i]?=AC x,λ i H=>∃xs,jE K H a xs/\xs.length<=i⟩
def Itt(K:Da)(a:δ):It:=
 ⟨λ i H=>∃xs x,nz K H a xs/\xs[i]?=AC x,λ i H x H'=>H'=H/\∀xs,nz K H a xs->xs[i]?=AC x,λ i H=>∃xs,nz K H a xs/\xs.length<=i⟩
def P9(lo:Int)(n:Nat):It:=⟨λ i _=>i<n,λ i H x H'=>H'=H/\x=.int (lo+i),λ i _=>n<=i⟩
theorem FV{K:Da}(a it:δ):Turn P w K tg (Itl K a) [it] it (λ i h=>h.IsListIter it a i) where
 mem:=by simp
 obj:=λ i h st b hb=>by
  have e:b=it:=by simpa using hb
  subst e;let⟨o,e,c,d⟩:=st;exact⟨o,e,λ v z=>by rw[d]at z;cases z⟩
 keep:=λ i h h' st k=>st.at λ o e=>k it ∅ o e
 item:=by intro X hP hw hK hc i χ s σ H E I hf st hg;subst hP hw hK;let⟨xs,x,hq,hx⟩:=hg;let⟨bp,rv,p,hz⟩:=I.list hq;let⟨u,hu,ru⟩:=rv.get hx;let⟨f0,f1,f2,f3,f4,f5⟩:=hf it ∅;refine wpAny_pyNext_list_item st p.isList (by simpa using hu) λ h' wR sb=>?_;have I1:=I.turned (t':=s.toks) (λ b o hb e=>(sb.2 b hb).trans e) f0 f1 f3 f4 f5;let⟨o,e,c,d⟩:=id wR;exact⟨u,rfl,xt e c d ∅ ⟨x,H,I1,ru,⟨rfl,λ ys hy=>by rw[I.pR hy hq];exact hx⟩,wR,λ b hb=>(hf b hb).1⟩⟩
 done:=by intro X hP hw hK hc i χ s σ H E I hf st hg;subst hP hw hK;let⟨xs,hq,hx⟩:=hg;let⟨bp,rv,p,hz⟩:=I.list hq;let⟨f0,f1,f2,f3,f4,f5⟩:=hf it ∅;have hl:=rv.length;exact wpAny_pyNext_list_end (I.ok.hd hc) st p.isList (by simp;lia) λ h' eb=>⟨rfl,I.turned (λ b o hb e=>eb b o hb e) f0 f1 f3 f4 f5⟩
 self:=λ _ _ _ _ _ st h=>wpAny_pyIter_listiter st h
theorem Cf{K:Da}(a it:δ):Turn P w K tg (Itt K a) [it] it (λ i h=>h.IsTupleIter it a i) where
 mem:=by simp
 obj:=λ i h st b hb=>by
  have e:b=it:=by simpa using hb
  subst e;let⟨o,e,c,d⟩:=st;exact⟨o,e,λ v z=>by rw[d]at z;cases z⟩
 keep:=λ i h h' st k=>st.at λ o e=>k it ∅ o e
 item:=by intro X hP hw hK hc i χ s σ H E I hf st hg;subst hP hw hK;let⟨xs,x,hq,hx⟩:=hg;let⟨bp,rv,p,hz⟩:=I.tuple hq;let⟨u,hu,ru⟩:=rv.get hx;let⟨f0,f1,f2,f3,f4,f5⟩:=hf it ∅;refine wpAny_pyNext_tuple_item st (p) (by simpa using hu) λ h' wR sb=>?_;have I1:=I.turned (t':=s.toks) (λ b o hb e=>(sb.2 b hb).trans e) f0 f1 f3 f4 f5;let⟨o,e,c,d⟩:=id wR;exact⟨u,rfl,xt e c d ∅ ⟨x,H,I1,ru,⟨rfl,λ ys hy=>by rw[I.qF hy hq];exact hx⟩,wR,λ b hb=>(hf b hb).1⟩⟩
 done:=by intro X hP hw hK hc i χ s σ H E I hf st hg;subst hP hw hK;let⟨xs,hq,hx⟩:=hg;let⟨bp,rv,p,hz⟩:=I.tuple hq;let⟨f0,f1,f2,f3,f4,f5⟩:=hf it ∅;have hl:=rv.length;exact wpAny_pyNext_tuple_end (I.ok.hd hc) st (p) (by simp;lia) λ h' eb=>⟨rfl,I.turned (λ b o hb e=>eb b o hb e) f0 f1 f3 f4 f5⟩
 self:=λ _ _ _ _ _ st h=>wpAny_pyIter_tupleiter st h
theorem Cg{K:Da}(it:δ)(lo:Int)(n:Nat):Turn P w K tg (P9 lo n) [it] it (λ i h=>IsRangeIter h it (lo+(i)*1) ((n)-(i)) 1) where
 mem:=by simp
 obj:=λ i h st b hb=>by
  have e:b=it:=by simpa using hb
  subst e;exact⟨_,st,λ v z=>by have z':=z;cases z'⟩
 keep:=λ i h h' st k=>k it ∅ _ st
 item:=by intro X hP hw hK hc i χ s σ H E I hf st hg;subst hP hw hK;let⟨f0,f1,f2,f3,f4,f5⟩:=hf it ∅;have W:=Walks.range (prog:=X.prog) (w:=X.w) (I.ok.hd hc) it lo 1 n;refine W.item i s _ _ hg st λ v h' tk hv wR kk=>?_;let⟨t,rfl⟩:=hv;have I1:Inv X χ σ H {s with heap:=h',toks:=tk}:=I.turned (λ b o hb e=>kk b o (by simpa using hb) e) f0 f1 f3 f4 f5;refine⟨_,rfl,xt wR rfl rfl ∅ ⟨.int<|lo+i,H,I1,⟨t,?_⟩,⟨rfl,rfl⟩,wR,λ b hb=>(hf b hb).1⟩⟩;rw[B46]
 done:=by intro X hP hw hK hc i χ s σ H E I hf st hg;subst hP hw hK;let⟨f0,f1,f2,f3,f4,f5⟩:=hf it ∅;exact wpAny_pyNext_range_end (I.ok.hd hc) st (by have:n<=i:=hg;lia) λ h' eb=>⟨rfl,I.turned (λ b o hb e=>eb b o hb e) f0 f1 f3 f4 f5⟩
 self:=λ _ _ _ _ _ st h=>wpAny_pyIter_rangeiter st h
def fW(ta:TA):TI:=λ σ H R=>ta σ H λ vs H1=>∃j:Int,vs=[.int j]/\-(2^62)<=j/\j<2^62/\R (P9 0 j.toNat) H1
def A1(ta:TA):TI:=λ σ H R=>ta σ H λ vs H1=>∃i j:Int,vs=[.int i,.int j]/\(-(2^62)<=i/\i<2^62/\-(2^62)<=j/\j<2^62)/\R (P9 i (j-i).toNat) H1
def Zi(wi:TI)(g:TG)(tb:TS):TS:=λ D σ H=>wi σ H λ J H1=>∃W:Nat->Nat->St->Hp->Prop,(∃m,W 0 m σ H1)/\∀i m σ H,W i m σ H ->
 (J.stop i H/\D.nx σ H)\/(J.go i H/\∃N:St->Hp->Prop,(∀σ' H',N σ' H'->∃m',m'<m/\W (i+1) m' σ' H')/\∀x H',J.BY i H x H'->g x σ H' λ σ2 H2=>tb {D with nx:=N,ct:=N,bk:=D.nx} σ2 H2)
def ue(fp:γ δ)(h:ν):γ (δ×μ):=fp.filterMap λ b=>(h.get? b).map λ o=>(b,o)
theorem lh(hb:b∈fp)(e:h.get? b=AC o):(b,o)∈ue fp h:=B75.mpr ⟨b,hb,by rw[e];rfl⟩
theorem Gf(hp:p∈ue fp h):p.1∈fp/\h.get? p.1=AC p.2:=by
 let⟨b,hb,e⟩:=B75.mp hp;cases q:h.get? b with
 |none=>rw[q]at e;cases e
 |some o=>rw[q]at e;have e':=A04 e;subst e';exact⟨hb,q⟩
theorem Inv.pinned(I:Inv X χ σ H s)(hf:∀b∈fp,qq X χ H b)(ho:∀b∈fp,∃o,s.heap.get? b=AC o/\∀v,o.data≠.cell v):Inv X (χ++ue fp s.heap) σ H s:=
 I.Eu λ p hp=>(A41.mp hp).elim (λ z=>I.pin p<|A43 _ z) λ z=>by let⟨hb,e⟩:=Gf z;let⟨f0,f1,f2,_⟩:=hf p.1 hb;let⟨o,e',d⟩:=ho p.1 hb;rw[e]at e';cases e';exact⟨e,f0,f1,f2,d⟩
theorem Inv.pd(I:Inv X (χ++pl) σ H s):Inv X χ σ H s:=I.Eu λ p hp=>I.pin p<|A43 _<|A79 _ hp
theorem IK(hp:PassesOwn (model X.prog X.w) X.A X.env X.xe)(hc:X.calm=Ch)(hi:PI X tg iter wi)(hg:PG X tg g)(hb:rp X body tb)
 (hs:∀x,foldedSetIterable iter X.env x=pure x:=by intro _;rfl):PS X (.For tg iter body [] pos) (Zi wi g tb):=by
 intro χ s σ H D I h;refine wpAny_For (cG (hi χ s σ H _ I h) λ v s1 h1=>cG h1 λ _n s2 h2=>?_) hs;let⟨it,fp,tn,J,H2,e,I2,T,BQ,f2,W,⟨m0,w0⟩,turn⟩:=h2;subst e
 -- Y! stays true of Qp C3 objects through Qp loop
 have Cp:∀{H'},(∀b∈fp,H' b=At)->∀b∈fp,qq X χ H' b:=λ hn b hb=>⟨hn b hb,(f2 b hb).2⟩
 refine codeAny_forLoop_any (λ n s'=>∃i σ' H',Inv X χ σ' H' s'/\tn i s'.heap/\(∀b∈fp,H' b=At)/\W i n σ' H') ?_ m0 ⟨0,σ,H2,I2,BQ,λ b hb=>(f2 b hb).1,w0⟩;rintro n s3 ⟨i,σ3,H3,I3,Ic,WB,w3⟩;rcases turn i n σ3 H3 w3 with⟨stop,qn⟩|⟨go,N,hN,step⟩
 .refine B21 hp<|cG (T.done X rfl rfl rfl hc i χ s3 σ3 H3 X.xe I3 (Cp WB) Ic stop) ?_;rintro r s4 ⟨hr,I4⟩;subst hr;exact B45 ⟨σ3,H3,I4,qn⟩
 .refine B21 hp<|cG (T.item X rfl rfl rfl hc i χ s3 σ3 H3 X.xe I3 (Cp WB) Ic go) ?_;rintro r s4 ⟨u,hr,h4⟩;subst hr;refine B21 hp<|cG h4 ?_;rintro _ s5 ⟨x,H5,I5,r5,y5,yb,fr5⟩;have I5':=I5.pinned (Cp fr5)<|T.obj _ _ yb;refine B21 hp<|cG (hg _ s5 σ3 H5 x u _ I5' r5<|step x H5 y5) ?_;rintro _ s6 ⟨σ6,H6,I6,q6⟩;refine B21 hp<|cG (hb _ s6 σ6 H6 _ I6 q6) λ f s7 q7=>?_;have again:∀{σ7}{H7},Inv X (χ++ue fp s5.heap) σ7 H7 s7->N σ7 H7->∃m,m<n/\∃i σ' H',Inv X χ σ' H' s7/\tn i s7.heap/\(∀b∈fp,H' b=At)/\W i m σ' H':=λ {σ7 H7} I7 n7=>by let⟨m',hm,w7⟩:=hN σ7 H7 n7;refine⟨m',hm,i+1,σ7,H7,I7.pd,T.keep _ _ _ yb λ b hb o e=>(I7.pin (b,o)<|A43 _<|A43 _<|lh hb e).1,λ b hb=>?_,w7⟩;let⟨o,e,d⟩:=T.obj _ _ yb b hb;exact(I7.pin (b,o)<|A43 _<|A43 _<|lh hb e).2.1
  cases f with
  |next=>let⟨σ7,H7,I7,n7⟩:=q7;exact again I7 n7
  |cont=>let⟨σ7,H7,I7,n7⟩:=q7;exact again I7 n7
  |brk=>let⟨σ7,H7,I7,q7⟩:=q7;exact⟨σ7,H7,I7.pd,q7⟩
  |ret v=>let⟨x7,σ7,H7,I7,r7,q7⟩:=q7;exact⟨x7,σ7,H7,I7.pd,r7,q7⟩
abbrev R2:=V->V->Hp->VK->Prop
def jN(X:Cx)(f:ζ->ζ->Sem ζ)(r:R2):Prop:=
 ∀ (χ:γ (δ×μ))(s:θ)(σ:St)(H:Hp)(x y:V)(v u:ζ)(Q:VK),Inv X χ σ H s->RelV x v->RelV y u->r x y H Q ->
  EQ (model X.prog X.w) X.A (f v u) (EP X χ σ Q) X.xe s
def UnR(X:Cx)(f:ζ->Sem ζ)(r:V->Hp->VK->Prop):Prop:=
 ∀ (χ:γ (δ×μ))(s:θ)(σ:St)(H:Hp)(x:V)(v:ζ)(Q:VK),Inv X χ σ H s->RelV x v->r x H Q ->
  EQ (model X.prog X.w) X.A (f v) (EP X χ σ Q) X.xe s
def n?(X:Cx)(f:ζ)(r:γ V->Hp->VK->Prop):Prop:=
 ∀ (χ:γ (δ×μ))(s:θ)(σ:St)(H:Hp)(xs:γ V)(us:γ ζ)(Q:VK),Inv X χ σ H s->Vals xs us->r xs H Q ->
  EQ (model X.prog X.w) X.A (call f us) (EP X χ σ Q) X.xe s
def L9(r:R2)(ta tb:TE):TE:=λ σ H Q=>ta σ H λ x H1=>tb σ H1 λ y H2=>r x y H2 Q
def tUn(r:V->Hp->VK->Prop)(ta:TE):TE:=λ σ H Q=>ta σ H λ x H1=>r x H1 Q
def rI(C:Int->Int->Prop)(g:Int->Int->V):R2:=λ x y H Q=>∃i j,x=.int i/\y=.int j/\C i j/\Q (g i j) H
def Mu(g:Int->Int->V):R2:=λ x y H Q=>∃i j,x=.int i/\y=.int j/\Q (g i j) H
def rU(g:Int->V):V->Hp->VK->Prop:=λ x H Q=>∃i,x=.int i/\Q (g i) H
theorem SA(ha:PE X a ta)(hb:PE X b tb){R:V->V->Hp->Prop}(I:Inv X χ σ H s)
 (h:ta σ H λ x H1=>tb σ H1 λ y H2=>R x y H2){f:ζ->ζ->Sem ζ}
 (hf:∀v u s2 x y H2,Inv X χ σ H2 s2->RelV x v->RelV y u->R x y H2->EQ (model X.prog X.w) X.A (f v u) Q X.xe s2) :
 EQ (model X.prog X.w) X.A (eval a X.env) (λ v s₁=>EQ (model X.prog X.w) X.A (eval b X.env) (λ u s₂=>EQ (model X.prog X.w) X.A (f v u) Q X.xe s₂) X.xe s₁) X.xe s:=by
 refine cG (ha χ s σ H _ I h) ?_;rintro v s1 ⟨x,H1,I1,r1,q1⟩;refine cG (hb χ s1 σ H1 _ I1 q1) ?_;rintro u s2 ⟨y,H2,I2,r2,q2⟩;exact hf v u s2 x y H2 I2 r1 r2 q2
theorem Ex(ho:jN X (binaryOp op) r)(ha:PE X a ta)(hb:PE X b tb):PE X (.BinOp a op b pos) (L9 r ta tb):=by intro χ s σ H Q I h;exact wpAny_BinOp<|SA ha hb I h λ v u s2 x y H2 I2 rx ry q=>ho χ s2 σ H2 x y v u Q I2 rx ry q
theorem UU(ho:UnR X (unaryOp op) r)(ha:PE X a ta):PE X (.UnaryOp op a pos) (tUn r ta):=by intro χ s σ H Q I h;exact UnaryOp_<|cG (ha χ s σ H _ I h) <|by rintro v s1 ⟨x,H1,I1,r1,q1⟩;exact ho χ s1 σ H1 x v Q I1 r1 q1
theorem U2{g:Int->Int->Int}
 (rule:∀i j t u s Q E,C i j->Q (.int (g i j) s.toks) {s with toks:=s.toks+1}->EQ (model X.prog X.w) X.A (f (.int i t)<|.int j u) Q E s) :
 jN X f (rI C λ i j=>.int<|g i j):=by
 intro χ s σ H x y v u Q I rx ry h;let⟨i,j,rfl,rfl,hc,q⟩:=h;let⟨t,rfl⟩:=rx;let⟨t',rfl⟩:=ry;exact rule i j t t' s _ _ hc ⟨.int _,H,I.tok _,⟨_,rfl⟩,q⟩
theorem U1{g:Int->Int->Int}
 (rule:∀i j t u s Q E,Q (.int (g i j) s.toks) {s with toks:=s.toks+1}->EQ (model X.prog X.w) X.A (f (.int i t)<|.int j u) Q E s) :
 jN X f (Mu λ i j=>.int<|g i j):=by
 intro χ s σ H x y v u Q I rx ry h;let⟨i,j,rfl,rfl,q⟩:=h;let⟨t,rfl⟩:=rx;let⟨t',rfl⟩:=ry;exact rule i j t t' s _ _ ⟨.int _,H,I.tok _,⟨_,rfl⟩,q⟩
theorem MR{g:Int->Int->Bool}
 (rule:∀i j t u s Q E,Q (.bool<|g i j) s->EQ (model X.prog X.w) X.A (f (.int i t)<|.int j u) Q E s) :
 jN X f (Mu λ i j=>.bl<|g i j):=by
 intro χ s σ H x y v u Q I rx ry h;let⟨i,j,rfl,rfl,q⟩:=h;let⟨t,rfl⟩:=rx;let⟨t',rfl⟩:=ry;exact rule i j t t' s _ _ ⟨.bl _,H,I,rfl,q⟩
def abk(i j:Int):Prop:=0<=j/\j<=1000000/\i.natAbs<2^64
theorem Q!:jN X (binaryOp .Add) (Mu λ i j=>.int<|i+j):=U1 λ _ _ _ _ _ _ _ q=>add_int q
theorem Q4:jN X (binaryOp .Sub) (Mu λ i j=>.int<|i-j):=U1 λ _ _ _ _ _ _ _ q=>sub_int q
theorem Q7:jN X (binaryOp .Mod) (rI (λ _ j=>0<j) λ i j=>.int<|i % j):=U2 λ i j _ _ _ _ _ hc q=>by exact mod_int' ∅ (by rw[Int.fmod_eq_emod_of_nonneg i ∅];exact q)
theorem Q6:jN X (binaryOp .Pow) (rI abk λ i j=>.int<|i^j.toNat):=U2 λ _ _ _ _ _ _ _ hc q=>pow_int_small hc.1 hc.2.1 hc.2.2 q
theorem unI{g:Int->Int}
 (rule:∀i t s Q E,Q (.int (g i) s.toks) {s with toks:=s.toks+1}->EQ (model X.prog X.w) X.A (f<|.int i t) Q E s) :
 UnR X f (rU λ i=>.int<|g i):=by
 intro χ s σ H x v Q I rx h;let⟨i,rfl,q⟩:=h;let⟨t,rfl⟩:=rx;exact rule i t s _ _ ⟨.int _,H,I.tok _,⟨_,rfl⟩,q⟩
theorem Qh:UnR X (unaryOp .USub) (rU λ i=>.int<|-i):=unI λ _ _ _ _ _ q=>neg_int q
theorem yS(I:Inv X χ σ H s)(q:Q (.bl k) H)(e:k=k'):EP X χ σ Q (.bool k') s:=by subst e;exact⟨.bl k,H,I,rfl,q⟩
theorem UX:jN X (compareOp .Lt) (Mu λ i j=>.bl<|decide<|i<j):=MR λ _ _ _ _ _ _ _ q=>lt_int q
theorem UY:jN X (compareOp .LtE) (Mu λ i j=>.bl<|decide<|i<=j):=MR λ _ _ _ _ _ _ _ q=>le_int q
theorem UZ:jN X (compareOp .Gt) (Mu λ i j=>.bl<|decide<|j<i):=MR λ _ _ _ _ _ _ _ q=>gt_int q
theorem U0:jN X (compareOp .GtE) (Mu λ i j=>.bl<|decide<|j<=i):=MR λ _ _ _ _ _ _ _ q=>ge_int q
theorem Q8:jN X (compareOp .Is) (λ x y H Q=>y=.non/\Q (.bl<|decide<|x=.non) H):=by
 intro χ s σ H x y v u Q I rx ry h;let⟨rfl,q⟩:=h;cases ry;refine is_none_gen<|yS I q ?_;cases x<;>first
  |(cases rx;rfl)
  |(let⟨t,rfl⟩:=rx;rfl)
theorem ML:jN X (compareOp .IsNot) (λ x y H Q=>y=.non/\Q (.bl<|!decide (x=.non)) H):=by
 intro χ s σ H x y v u Q I rx ry h;let⟨rfl,q⟩:=h;cases ry;refine isnot_none_gen<|yS I q ?_;cases x<;>first
  |(cases rx;rfl)
  |(let⟨t,rfl⟩:=rx;rfl)
theorem yo:jN X (compareOp .NotIn) (λ x y H Q=>∃i j,x=.str i/\y=.str j/\Q (.bl<|!(!(Sc j i 0 j.length 1).isEmpty)) H):=by intro χ s σ H x y v u Q I rx ry h;let⟨i,j,rfl,rfl,q⟩:=h;let⟨t,rfl⟩:=rx;let⟨t',rfl⟩:=ry;exact notIn_str<|yS I q rfl
theorem jN.or(h:jN X f r)(h':jN X f r'):jN X f (λ x y H Q=>r x y H Q\/r' x y H Q):=by
 intro χ s σ H x y v u Q I rx ry q;rcases q with q|q
 .exact h χ s σ H x y v u Q I rx ry q
 .exact h' χ s σ H x y v u Q I rx ry q
theorem qQ(b:ι)(h:op≠.In:=by decide)(h2:op≠.NotIn:=by decide):behindInMarks op b=AT:=by
 have e1:(op==CmpOp.In)=AT:=by cases op<;>first|rfl|exact absurd rfl h
 have e2:(op==CmpOp.NotIn)=AT:=by cases op<;>first|rfl|exact absurd rfl h2
 cases b<;>simp[behindInMarks,e1,e2]
theorem MG(ho:jN X (compareOp op) r)(ha:PE X a ta)(hb:PE X b tb)(hm:behindInMarks op b=AT):PE X (.Compare a [op] [b] pos) (L9 r ta tb):=by intro χ s σ H Q I h;exact wpAny_Compare1 (SA ha hb I h λ v u s2 x y H2 I2 rx ry q=>ho χ s2 σ H2 x y v u Q I2 rx ry q) hm
def Ec(t:TE):TT:=λ σ H Q=>t σ H λ x H'=>∃k,x=.bl k/\Q k H'
theorem pE(ho:jN X (compareOp op) r)(ha:PE X a ta)(hb:PE X b tb)(hm:behindInMarks op b=AT):PT X (.Compare a [op] [b] pos) (Ec<|L9 r ta tb):=by
 intro χ s σ H Q I h;refine wpAny_isTrue_Compare1 (cG (ha χ s σ H _ I h) λ v s1 ⟨x,H1,I1,r1,q1⟩=>cG (hb χ s1 σ H1 _ I1 q1) λ u s2 ⟨y,H2,I2,r2,q2⟩=>cG (ho χ s2 σ H2 x y v u _ I2 r1 r2 q2) ?_) hm;rintro c s3 ⟨z,H3,I3,r3,k,e,q3⟩
 subst e;cases r3;exact A58 ⟨H3,I3,q3⟩
def Cn(r r':R2)(ta tb tc:TE):TE:=λ σ H Q=>ta σ H λ x H1=>tb σ H1 λ y H2=>r x y H2 λ z H3=>∃k,z=.bl k /\
 (if k=Ch then tc σ H3 λ w' H4=>r' y w' H4 Q else Q (.bl AT) H3)
theorem IV(ho:jN X (compareOp op) r)(pY:jN X (compareOp Gb) r')(ha:PE X a ta)(hb:PE X b tb)(hc:PE X c tc)
 (hm:lastMarks [op,Gb] [b,c]=AT:=by with_unfolding_all rfl):PE X (.Compare a [op,Gb] [b,c] pos) (Cn r r' ta tb tc):=by
 intro χ s σ H Q I h;refine Compare_chain (cG (ha χ s σ H _ I h) λ v s1 ⟨x,H1,I1,r1,q1⟩=>chain_link<|cG (hb χ s1 σ H1 _ I1 q1) λ u s2 ⟨y,H2,I2,r2,q2⟩=>cG (ho χ s2 σ H2 x y v u _ I2 r1 r2 q2) ?_) hm;rintro d s3 ⟨z,H3,I3,r3,k,e,q3⟩
 subst e;cases r3;refine A58 ?_;cases k with
 |false=>exact ite_ff ⟨.bl AT,H3,I3,rfl,q3⟩
 |true=>exact ite_tt<|chain_last<|cG (hc χ s3 σ H3 _ I3 q3) <|by rintro w' s4 ⟨z',H4,I4,r4,q4⟩;exact pY χ s4 σ H4 y z' u w' Q I4 r2 r4 q4
theorem II(ho:jN X (compareOp op) r)(pY:jN X (compareOp Gb) r')(ha:PE X a ta)(hb:PE X b tb)(hc:PE X c tc)
 (hm:lastMarks [op,Gb] [b,c]=AT:=by with_unfolding_all rfl):PT X (.Compare a [op,Gb] [b,c] pos) (Ec<|Cn r r' ta tb tc):=by
 intro χ s σ H Q I h;refine isTrue_chain (cG (ha χ s σ H _ I h) λ v s1 ⟨x,H1,I1,r1,q1⟩=>test_link<|cG (hb χ s1 σ H1 _ I1 q1) λ u s2 ⟨y,H2,I2,r2,q2⟩=>cG (ho χ s2 σ H2 x y v u _ I2 r1 r2 q2) ?_) hm;rintro d s3 ⟨z,H3,I3,r3,k,e,q3⟩
 subst e;cases r3;refine A58 ?_;cases k with
 |false=>let⟨k',e',q'⟩:=q3;cases e';exact ite_ff ⟨H3,I3,q'⟩
 |true=>refine ite_tt<|test_last<|cG (hc χ s3 σ H3 _ I3 q3) λ w' s4 ⟨z',H4,I4,r4,q4⟩=>cG (pY χ s4 σ H4 y z' u w' _ I4 r2 r4 q4) ?_;rintro d' s5 ⟨z2,H5,I5,r5,k2,e2,q5⟩;subst e2;cases r5;exact A58 ⟨H5,I5,q5⟩
theorem yG:(sizeLine)<2^63:=by rw[A23];decide
theorem CB:jN X (binaryOp .Add) (λ x y H Q=>∃i j,x=.str i/\y=.str j/\i.length+j.length<=sizeLine/\Q (.str<|i++j) H):=by intro χ s σ H x y v u Q I rx ry h;let⟨i,j,rfl,rfl,hz,q⟩:=h;let⟨t,rfl⟩:=rx;let⟨t',rfl⟩:=ry;exact add_str (λ t' tk=>⟨.str _,H,I.tok _,⟨_,rfl⟩,q⟩) hz
theorem vals1(r:Vals [x] us):∃u,us=[u]/\RelV x u:=by
 cases r with
 |cons r1 r2=>cases r2;exact⟨_,rfl,r1⟩
theorem vals2(r:Vals [x,y] us):∃u w',us=[u,w']/\RelV x u/\RelV y w':=by
 cases r with
 |cons r1 r2=>
  cases r2 with
  |cons r3 r4=>cases r4;exact⟨_,_,rfl,r1,r3⟩
theorem He(hc:X.calm=Ch):n? X (.builtin "max") (λ xs H Q=>∃i j,xs=[.int i,.int j]/\Q (.int<|if j>i then j else i) H):=by
 intro χ s σ H xs us Q I r h;let⟨i,j,rfl,q⟩:=h;let⟨u,w',rfl,⟨t,rfl⟩,⟨t',rfl⟩⟩:=vals2 r;refine max_two_ints (I.ok.hd hc) λ h' tk k=>⟨_,H,I.kept k,?_,q⟩
 by_cases hj:j>i
 .rw[M2 hj,M2 hj];exact⟨_,rfl⟩
 .rw[W1 hj,W1 hj];exact⟨_,rfl⟩
theorem Hc(hc:X.calm=Ch):n? X (.builtin "min") (λ xs H Q=>∃i j,xs=[.int i,.int j]/\Q (.int<|if j<i then j else i) H):=by
 intro χ s σ H xs us Q I r h;let⟨i,j,rfl,q⟩:=h;let⟨u,w',rfl,⟨t,rfl⟩,⟨t',rfl⟩⟩:=vals2 r;refine min_two_ints (I.ok.hd hc) λ h' tk k=>⟨_,H,I.kept k,?_,q⟩
 by_cases hj:j<i
 .rw[M2 hj,M2 hj];exact⟨_,rfl⟩
 .rw[W1 hj,W1 hj];exact⟨_,rfl⟩
theorem Hf:n? X (.type "int") (λ xs H Q=>(∃i,xs=[.int i]/\Q (.int i) H)\/∃k,xs=[.bl k]/\Q (.int<|if k then 1 else 0) H):=by
 intro χ s σ H xs us Q I r h;rcases h with⟨i,rfl,q⟩|⟨k,rfl,q⟩
 .let⟨u,rfl,t,rfl⟩:=vals1 r;exact call_int_int ⟨.int i,H,I,⟨_,rfl⟩,q⟩
 .let⟨u,rfl,r1⟩:=vals1 r;cases r1;exact call_int_bool ⟨.int _,H,I.tok _,⟨_,rfl⟩,q⟩
def abe(K:Da)(x:V)(H:Hp)(n:Nat):Prop:=
 match x with
 |.str y=>y.length<=sizeLine/\n=y.length
 |.TY y=>y.size<=sizeLine/\n=y.size
 |.ref p=>(∃xs,jE K H p xs/\n=xs.length)\/∃xs,nz K H p xs/\n=xs.length
 |_=>False
theorem K6:n? X (.builtin "len") (λ xs H Q=>∃x n,xs=[x]/\abe X.K x H n/\Q (.int n) H):=by
 intro χ s σ H xs us Q I r h;let⟨x,n,rfl,e,q⟩:=h;let⟨u,rfl,rx⟩:=vals1 r;have hl:=yG;have hs:=A23;cases x with
 |str y=>let⟨t,rfl⟩:=rx;obtain⟨hy,e'⟩:y.length<=sizeLine/\n=y.length:=e;subst e';exact len_str ∅ ⟨.int _,H,I.tok _,⟨_,rfl⟩,q⟩
 |TY y=>let⟨t,rfl⟩:=rx;obtain⟨hy,e'⟩:y.size<=sizeLine/\n=y.size:=e;subst e';exact PySem.W.len_bytes ∅ ⟨.int _,H,I.tok _,⟨_,rfl⟩,q⟩
 |ref p=>
  cases rx;have e':=e;rcases e' with⟨xs,hx,e'⟩|⟨xs,hx,e'⟩
  .subst e';let⟨bp,r',pl,hz⟩:=I.list hx;have ψ:=r'.length;exact Calls.call_len_list pl.isList (by simp only[A10];lia) ⟨.int _,H,I.tok _,⟨_,by simp only[A10];rw[ψ]⟩,q⟩
  .subst e';let⟨bp,r',pl,hz⟩:=I.tuple hx;have ψ:=r'.length;exact len_tuple pl (by simp only[A10];lia) ⟨.int _,H,I.tok _,⟨_,by simp only[A10];rw[ψ]⟩,q⟩
 |_=>exact(e).elim
structure DY(h:Heap)(x dx C:Addr)(mA:Str->Option Value):Prop where
 obj:h.get? x=AC (SL C dx)
 ns:h.Ns1 dx mA
 ne:dx≠x
theorem GA{h:ν}(n:h.Ns1 dx mA):∃od,h.get? dx=AC od/\∀name,WF name od=AC (mA name):=by
 let⟨o,es,ep,ho,hd,hk,_,hm⟩:=n;refine⟨o,ho,λ name=>?_⟩;have e:=hm name;unfold nsFind findBy at e;rw[<-Array.find?_toList]at e;unfold WF;rw[hd];dsimp only;split
 .rename_i y q;rw[q]at e;exact A11 AC e
 .rename_i q;rw[q]at e;have a:es.toList.any (·.refKey)=AT:=by rw[List.any_eq_false];intro y hy;let⟨z,t,_0⟩:=hk y (Array.mem_toList_iff.mp hy);simp[DictEntry.refKey,_0]
  have a':¬es.toList.any (·.refKey)=Ch:=by rw[a];exact A90
  rw[W1 a'];exact A11 AC e
theorem DY.look(I:DY h x dx C mA):∃od,PySem.W.InstAt h x (SL C dx) C (AC od)/\∀name,WF name od=AC (mA name):=
 let ⟨od,ho,hl⟩:=GA I.ns
 ⟨od,⟨I.obj,rfl,rfl,ho⟩,hl⟩
section
variable{K:Da}
theorem get_map(X:K.In s.heap)(I:DY s.heap x dx C mA)(hg:Tk K C name=Ch)(hh:Wp K C=Ch)
 (ha:Fk K (.ref C) name=AC At) (hv:mA name=AC v) (yK:AA9 v=Ch) (h:Q v {s with toks:=s.toks+1}) :
 EQ (model prog w) A (getAttr (.ref x) name expr) Q E s:=by
 let⟨od,J,hl⟩:=I.look;exact PySem.W.get_value X J (B76 hg).1 (PySem.W.findObj_own hh ha rfl (by rw[hl,hv])) yK h
theorem Kd(X:K.In s.heap)(I:DY s.heap x dx C mA)(hg:Tk K C name=Ch)
 (hf:Fk K (.ref C) name=AC (AC<|.ref f)) (ht:ww K (.ref f)=Ch) (hv:mA name=At) (h:Q (.ref f,[.ref x]) s) :
 EQ (model prog w) A (getMethod (.ref x) name pl) Q E s:=by
 let⟨od,J,hl⟩:=I.look;exact PySem.W.method_fn X J (B76 hg).1 (B76 hg).2 hf (A27.mp ht) (by show(WF name od).map _=AC AT;rw[hl,hv];rfl) h
theorem Ml(X:K.In s.heap)(I:DY s.heap x dx C mA)
 (hs:Fk K (.ref C) "__setattr__"=AC (AC<|.builtin "object.__setattr__")) (hp:xL K C=Ch) (ht:bv K C name=AC At) (hh:Wp K C=Ch)
 (hw:xz mA ns) (C8:ns.length<=sizeLine)
 (h:∀h',DY h' x dx C (λ y=>if y=name then AC v else mA y)->IN dx s.heap h'->Q () {s with heap:=h',toks:=s.toks+2}) :
 EQ (model prog w) A (setAttr (.ref x) name v) Q E s:=by
 let⟨od,J,hl⟩:=I.look;refine B77 X J hs<|PySem.W.osa_open X J hp ht λ b=>?_;let⟨cd,hc,o!⟩:=PySem.W.any_some hh;have hx:=I.obj;refine T0<|P3<|T0<|T0<|B78 hx<|T0<|B79 (B80 X hc) ?_;rw[o!];refine P3<|T0<|P3<|T0 ?_;refine wpAny_nsSet1 I.ns λ h' Hw yL=>?_;let⟨oD,esD,epD,V9,Wl,Wo⟩:=Hw.count (PySem.Within.cons name v hw);refine T0<|B82 V9 (by rw[Wl];exact B83<|A15 Wo (by rw[A33];lia)) ?_;exact P3<|h _ ⟨(yL.2 _<|A07 I.ne).trans I.obj,Hw,I.ne⟩ yL
theorem Jy(X:K.In s.heap)(hm:bn K C=Ch)
 (hi:Fk K (.ref C) "__init__"=AC (AC<|.ref f)) (hf:PySem.W.typeIn K (.ref f)=AC (.type "function"))
 (h:codeAny (model prog w) (A.under<|.builtin "type.__call__" ⟨.ref C::vs,kw⟩) (.call (.ref f) ⟨.ref (s.heap.objs.size+1)::vs,kw⟩) (PySem.W.InitBack (s.heap.objs.size+1) R)
  {s with heap:=(s.heap.push Pi).push<|PySem.W.instObj C s.heap.objs.size}) :
 codeAny (model prog w) A (.call (.ref C) ⟨vs,kw⟩) R s:=by
 let⟨hh,g,d,t,os⟩:=s;exact PySem.W.make_core (PySem.W.makes_of X hm) (PySem.W.looks_findIn X hi) (λ self=>PySem.W.bind_fn X self hf) (.inl rfl) h
end
def jI(f:Str)(v:V):γ (Str×V)->γ (Str×V)
|[]=>[(f,v)]
|(g,x)::r=>if g=f then(g,v)::r else(g,x)::jI f v r
theorem mz(f g:Str)(v:V):∀ fs,(jI f v fs).lookup g=if g=f then AC v else fs.lookup g
|[]=>by
 show Fa g [(f,v)]=_;by_cases h:g=f
 .have hb:=A27.mpr h;simp only[Fa,hb,M2 h]
 .have hb:=A61.mpr h;simp only[Fa,hb,W1 h]
|(k,x)::r=>by
 have ih:=mz f g v r;rw[show jI f v _=(if k=f then(k,v)::r else(k,x)::jI f v r)from rfl];by_cases hk:k=f
 .rw[M2 hk];by_cases h:g=k
  .have hb:=A27.mpr h;simp only[Fa,hb,M2<|h.trans hk]
  .have hb:=A61.mpr h;simp only[Fa,hb,W1 λ e:g=f=>h<|e.trans hk.symm]
 .rw[W1 hk];by_cases h:g=k
  .have hb:=A27.mpr h;simp only[Fa,hb,W1 λ e=>hk<|h.symm.trans e]
  .have hb:=A61.mpr h;simp only[Fa,hb];exact ih
theorem kC(f:Str)(v:V):∀ fs,f∈(jI f v fs).map (·.1)/\∀ g,g∈fs.map (·.1)->g∈(jI f v fs).map (·.1)
|[]=>⟨by simp[jI],λ g h=>by simp at h⟩
|(k,x)::r=>by
 let⟨i1,i2⟩:=kC f v r;rw[show jI f v _=(if k=f then(k,v)::r else(k,x)::jI f v r)from rfl];by_cases hk:k=f
 .rw[M2 hk];subst hk;exact⟨by simp,λ g h=>by simpa using h⟩
 .rw[W1 hk];refine⟨?_,λ g h=>?_⟩
  .rw[f8];exact A09 _ i1
  .rw[f8]at h ⊢;rcases A02.mp h with e|e
   .exact A02.mpr<|.inl e
   .exact A09 _<|i2 g e
theorem rR(f:Str)(v:V):∀fs,(jI f v fs).length<=fs.length+1
|[]=>by simp[jI]
|(k,x)::r=>by
 have ih:=rR f v r;rw[show jI f v _=(if k=f then(k,v)::r else(k,x)::jI f v r)from rfl];by_cases hk:k=f
 .rw[M2 hk,A33,A33];lia
 .rw[W1 hk,A33,A33];lia
theorem l4.some_of(r:l4 (AC v) o):∃u,o=AC u/\RelV v u:=by
 cases o with
 |none=>exact(r).elim
 |some u=>exact⟨u,rfl,r⟩
theorem l4.none_of(r:l4 At o):o=At:=by
 cases o with
 |none=>rfl
 |some u=>exact(r).elim
theorem GU(r:RelV v u):AA9 u=Ch:=by
 cases v with
 |non=>cases (r);rfl
 |bl b=>cases (r);rfl
 |int i=>obtain⟨t,e⟩:=(r);cases e;rfl
 |str x=>obtain⟨t,e⟩:=(r);cases e;rfl
 |TY b=>obtain⟨t,e⟩:=(r);cases e;rfl
 |YJ b=>obtain⟨t,e⟩:=(r);cases e;rfl
 |ref a=>cases (r);rfl
 |ty n=>cases (r);rfl
theorem yI(bY:l0 P w H h)(e:H a=AC (.ins C dx fs)):∃mA,DY h a dx C mA/\(∀f,l4 (fs.lookup f) (mA f))/\xz mA (fs.map (·.1))/\fs.length<=1000/\H dx=AC (.own a):=by
 obtain⟨d,z,ne,ob,mA,n,r,q⟩:=(bY a _ e)
 exact⟨mA,⟨ob,n,ne⟩,r,q,z,d⟩
structure Ln(K:Da)(C:Addr):Prop where
 pg:Tk K C Str.empty=Ch
 hd:Wp K C=Ch
 po:xL K C=Ch
 sa:Fk K (.ref C) "__setattr__"=AC (AC<|.builtin "object.__setattr__")
theorem Ln.get{K:Da}(c:Ln K C)(f:Str):Tk K C f=Ch:=c.pg
def rq(K:Da)(C:δ)(f:Str):Prop:=Fk K (.ref C) f=AC At
theorem rq.Uh{K:Da}(n:rq K C f):bv K C f=AC At:=by unfold bv;rw[n];rfl
structure Meth(K:Da)(C:Addr)(m:Str)(f:Addr):Prop where
 at_:Fk K (.ref C) m=AC (AC<|.ref f)
 fn:ww K (.ref f)=Ch
 kp:FM K (.ref f)=Ch
theorem Df(I:Inv X χ σ H s)(e:H a=AC (.ins C dx fs))(c:Ln X.K C)(n:rq X.K C f)(l:fs.lookup f=AC v)
 (h:∀u s',Inv X χ σ H s'->RelV v u->Q u s'):EQ (model X.prog X.w) A (getAttr (.ref a) f b) Q E s:=by
 let⟨mA,O,r,_,_,_⟩:=yI I.bY e;let⟨u,hu,ru⟩:=l4.some_of (v:=v) (o:=mA f) (by rw[<-l];exact r f);exact get_map I.l3 O (c.get f) c.hd n hu (GU ru)<|h u _ (I.tok _) ru
theorem oN(I:Inv X χ σ H s)(e:H a=AC (.ins C dx fs))(c:Ln X.K C)(k:Meth X.K C m g)(l:fs.lookup m=At)
 (h:Q (.ref g,[.ref a]) s):EQ (model X.prog X.w) A (getMethod (.ref a) m pl) Q E s:=by
 let⟨mA,O,r,_,_,_⟩:=yI I.bY e;have hn:=l4.none_of (by rw[<-l];exact r m);exact Kd I.l3 O (c.get m) k.at_ k.fn hn h
theorem Cq(I:Inv X χ σ H s)(e:H a=AC (.ins C dx fs))(c:Ln X.K C)(n:rq X.K C f)(hl:fs.length<1000)(ry:RelV y u)
 (h:∀s',Inv X χ σ (upd H a<|.ins C dx<|jI f y fs) s'->Q () s'):EQ (model X.prog X.w) A (setAttr (.ref a) f u) Q E s:=by
 let⟨mA,O,r,wi,_,ho⟩:=yI I.bY e;have hz:(fs.map (·.1)).length<=sizeLine:=by rw[A05,A23];lia
 refine Ml I.l3 O c.sa c.po n.Uh c.hd wi hz λ h' O' sb=>h _ ?_;have hd:∃o,h'.get? dx=AC o:=let ⟨o,_,_,e',_⟩:=O'.ns;⟨o,e'⟩;refine I.write (by rw[e];exact IR) (.inr ho) (λ b q hb z=>(sb.2 b hb).trans z) hd ?_;refine⟨by rw[aD O.ne];exact ho,?_,O.ne,O'.obj,_,O'.ns,λ g=>?_,λ g hg=>?_⟩
 .have:=rR f y fs;lia
 .skip
  rw[mz];by_cases q:g=f
  .rw[M2 q,M2 q];exact ry
  .rw[W1 q,W1 q];exact r g
 .by_cases q:g=f
  .rw[q];exact(kC f y fs).1
  .refine(kC f y fs).2 g<|wi g λ z=>hg ?_;show(if g=f then AC u else mA g)=At;rw[W1 q];exact z
theorem Inv.made(I:Inv X χ σ H s):Inv X χ σ (upd (upd H s.heap.objs.size<|.own<|s.heap.objs.size+1) (s.heap.objs.size+1)<|.ins C s.heap.objs.size [])
 {s with heap:=(s.heap.push Pi).push<|PySem.W.instObj C s.heap.objs.size}:=by
 have e1:(s.heap.push _).get? _=AC Pi:=A14 _ rfl;have e2:((s.heap.push Pi).push<|PySem.W.instObj C s.heap.objs.size).get? (s.heap.objs.size+1)=AC (SL C s.heap.objs.size):=by have:=A14 (s.heap.push Pi) (o:=SL C s.heap.objs.size) rfl;rwa [A50]at this
 have e3:(s.heap.push _).Ns _ (λ _=>At):=⟨_,#[],_,e1,rfl,(λ e he=>absurd he ∅),λ _=>rfl⟩
 have I1:=I.laid (o:=.own (s.heap.objs.size+1)) (t':=s.toks) (λ b u q=>v6 _ q) (v4 _) ⟨_,e1⟩;refine I1.laid (λ b u q=>v6 _ q) (B84<|A50 _ _) ?_;have ne:s.heap.objs.size≠s.heap.objs.size+1:=A13<|A62 _;refine⟨by rw[aD ne,aM],A47 _,ne,e2,λ _=>At,(Heap.Ns1.of_empty e3).at λ o q=>v6 _ q,λ _=>IR,λ y hy=>absurd rfl hy⟩
theorem ON(hb:attributeBase e f env (eval e env)=eval e env)
 (h:EQ (model prog w) A (eval e env) (λ o s₁=>EQ (model prog w) A (getAttr o f Ch) Q E s₁) E s):EQ (model prog w) A (eval (.Attribute e f pos) env) Q E s:=
 Attribute_any_ h (by rw[arm_eval_Attribute,hb])
def Zj(K:Da)(ta:TE)(f:Str):TE:=λ σ H Q=>ta σ H λ x H1=>∃a C dx fs v,x=.ref a/\H1 a=AC (.ins C dx fs)/\Ln K C/\rq K C f/\fs.lookup f=AC v/\Q v H1
def ZA(K:Da)(ta tv:TE)(f:Str):TS:=λ D σ H=>tv σ H λ y H1=>ta σ H1 λ x H2=>∃a C dx fs,x=.ref a/\H2 a=AC (.ins C dx fs)/\Ln K C/\rq K C f/\fs.length<1000 /\
 D.nx σ (upd H2 a<|.ins C dx<|jI f y fs)
theorem QY(he:PE X e ta)(hb:attributeBase e f X.env (eval e X.env)=eval e X.env):PE X (.Attribute e f pos) (Zj X.K ta f):=by intro χ s σ H Q I h;refine ON hb<|cG (he χ s σ H _ I h) ?_;rintro u s1 ⟨x,H1,I1,rx,a,C,dx,fs,v,ex,ea,c,n,l,q⟩;subst ex;obtain rfl:u=Value.ref a:=rx;exact Df I1 ea c n l λ u' s2 I2 ru=>⟨v,H1,I2,ru,q⟩
theorem QD(ha:PE X o ta)(hv:PE X value tv)(hs:swapsWith value (AC<|.Attribute o f pos') pos.line X.env=pure AT):PS X (.Assign [.Attribute o f pos'] value pos) (ZA X.K ta tv f):=by intro χ s σ H D I h;refine B85 (cG (hv χ s σ H _ I h) λ u s1 ⟨y,H1,I1,ry,q⟩=>cG (ha χ s1 σ H1 _ I1 q) ?_) hs;rintro ov s2 ⟨x,H2,I2,rx,a,C,dx,fs,ex,ea,c,n,l,q2⟩;subst ex;obtain rfl:ov=Value.ref a:=rx;exact Cq I2 ea c n l ry λ s3 I3=>⟨σ,_,I3,q2⟩
structure bL(k:Nat)(A:Around):Prop where
 hd:A.handled=At
 dp:A.depth+3*k+5<recursionLimit
 un:A.units+16*k+200<cLine
theorem bL.mono(r:bL k A)(h:j<=k):bL j A:=⟨r.hd,by have:=r.dp;lia,by have:=r.un;lia⟩
theorem bL.deeper(r:bL (k+1) A)(env:Env):bL k (A.deeper env):=
 ⟨r.hd,by have:=r.dp;show A.depth+1+3*k+5<_;lia,by have:=r.un;show A.units+3+16*k+200<_;lia⟩
theorem bL.in1(r:bL (k+1) A):bL k A.in1:=
 ⟨r.hd,by have:=r.dp;lia,by have:=r.un;lia⟩
theorem CP{A:τ}{C:δ}{us:γ ζ}{kw:γ (Str×ζ)}:(A.under<|.builtin "type.__call__" ⟨.ref C::us,kw⟩).depth=A.depth+1:=by first| rfl| simp[Around.under,Code.weight,Code.isCreation,Code.isGuard,Code.isCaller,Code.frames,Code.isFrame,guardIds]
theorem CO{A:τ}:(A.under<|.builtin "type.__call__" ⟨.ref C::us,kw⟩).units=A.units+1:=by first| rfl| simp[Around.under,Code.cUnits,Code.frames,Code.isFrame]
theorem bL.make(r:bL (k+1) A)(C:δ)(us:γ ζ)(kw:γ _):bL k (A.under<|.builtin "type.__call__" ⟨.ref C::us,kw⟩):=
 ⟨r.hd,by have:=r.dp;rw[CP];lia,by have:=r.un;rw[CO];lia⟩
theorem bL.depth(r:bL k A):A.depth<recursionLimit:=by have:=r.dp;lia
theorem bL.units(r:bL k A):A.units+64<cLine:=by have:=r.un;lia
def L!:TA:=λ _ H Q=>Q [] H
def H?(ta:TE)(tr:TA):TA:=λ σ H Q=>ta σ H λ x H1=>tr σ H1 λ xs H2=>Q (x::xs) H2
theorem cX:PA X [] L!:=λ _ _ _ _ H Q I h=>Calls.spliced_nil ⟨[],H,I,.nil,h⟩
theorem bM(ha:PE X e te)(hr:PA X es t)(hs:Se e es X.env:=by rfl):PA X (e::es) (H? te t):=by intro pos χ s σ H Q I h;rw[hs];refine Calls.spliced_cons<|cG (ha χ s σ H _ I h) ?_;rintro u s1 ⟨x,H1,I1,r1,q1⟩;exact cG (hr pos χ s1 σ H1 _ I1 q1) <|by rintro us s2 ⟨xs,H2,I2,r2,q2⟩;exact⟨x::xs,H2,I2,.cons r1 r2,q2⟩
def Zb(t:TA):TE:=λ σ H Q=>t σ H λ xs H1=>xs.length<=sizeLine/\∀p,H1 p=At->Q (.ref p) (upd H1 p<|.tup xs)
def Zg(t:TA):TE:=λ σ H Q=>t σ H λ xs H1=>xs.length<=sizeLine/\∀p,H1 p=At->Q (.ref p) (upd H1 p<|.lst xs)
theorem QO(h:PA X es t):PE X (.Tuple es x1 pos) (Zb t):=by intro χ s σ H Q I hq;refine wpAny_Tuple_spliced<|cG (h pos χ s σ H _ I hq) λ us s1 ⟨xs,H1,I1,r,z,q⟩=>⟨by rw[<-r.length];exact z,?_⟩;have hf:=I1.bY.fresh<|v4 _;refine⟨.ref _,_,I1.laid (λ b u e=>v6 _ e) (v4 _) ?_,rfl,q _ hf⟩;exact⟨z,us,r,qp.new _ _⟩
theorem QV(h:PA X es t):PE X (.List es pos) (Zg t):=by intro χ s σ H Q I hq;refine wpAny_List_spliced<|cG (h pos χ s σ H _ I hq) λ us s1 ⟨xs,H1,I1,r,z,q⟩=>⟨by rw[<-r.length];exact z,?_⟩;have hf:=I1.bY.fresh<|v4 _;refine⟨.ref _,_,I1.laid (λ b u e=>v6 _ e) (v4 _) ?_,rfl,q _ hf⟩;exact⟨z,us,0,r,A14 _ rfl⟩
abbrev Sp:=γ V->Hp->VK->XK->Prop
abbrev S6:=γ Env->Hp->θ->XK->ζ->θ->Prop
structure BN(P:Program)(w:World)(K:Da)(mg:Str->Option Value)(base:Heap)(A:Around)(outer:List Env)(s:Shared)(H:Hp):Prop where
 frames:A.frames=AC outer
 mod:Mod K mg base
 bs:∀b o,base.get? b=AC o->s.heap.get? b=AC o/\H b=At
 HB:base.objs.size<=s.heap.objs.size
 mG:s.heap.FunFrames base outer
 Kj:∀b∈uM outer,H b=At
 bY:l0 P w H s.heap
 bare:AllBare s.gens
 tab:xM K mg base H
def CE(outer:γ Env)(P:ο)(w:ξ)(H:Hp)(s:θ)(Q:VK)(u:ζ)(s':θ):Prop:=
 ∃v H',s'.os=s.os/\AllBare s'.gens/\Un (uM outer) [] H H' s.heap s'.heap/\l0 P w H' s'.heap/\RelV v u/\Q v H'
def CR(CX:S6)(outer:γ Env)(P:ο)(w:ξ)(H:Hp)(s:θ)(Q:VK)(E:XK)(r:Result)(s':θ):Prop:=
 match r with
 |.ok<|.ret u=>CE outer P w H s Q u s'
 |.ok _=>False
 |.error e=>CX outer H s E e s'
structure eY(P:Program)(w:World)(K:Da)(mg:Str->Option Value)(base:Heap)(CX:S6)(k:Nat)(f:Addr)(fd:FuncData)(ps:List Str)(sp:Sp):Prop where
 len:∀vs H Q E,sp vs H Q E->vs.length=ps.length
 run:∀(A:Around)(outer:List Env)(s:Shared)(H:Hp)(args:Args)(us:List Value)(vs:List V)(Q:VK)(E:XK),bL k A->BN P w K mg base A outer s H->BindsTo s fd args (ps.zip us)->Vals vs us->sp vs H Q E ->
  codeAny (model P w) A (.call (.ref f) args) (CR CX outer P w H s Q E) s
theorem BN.make{K:Da}(e:BN P w K mg base A outer s H)(C:δ)(us:γ ζ)(kw:γ _):
 BN P w K mg base (A.under<|.builtin "type.__call__" ⟨.ref C::us,kw⟩) outer s H:=⟨by first| exact e.frames| (simpa[Around.under,Code.envs,Code.isFrame,pushEnvs]using e.frames),e.mod,e.bs,e.HB,e.mG,e.Kj,e.bY,e.bare,e.tab⟩
theorem Inv.Ky(I:Inv X χ σ H s):BN X.prog X.w X.K X.mg X.base X.A X.stack s H:=
 ⟨I.ok.frames,I.ok.mod,I.bs,A15 I.ok.HB I.sz,I.stack,I.sP,I.bY,I.bare,I.tab⟩
theorem Inv.after(I:Inv X χ σ H s)(h:CE X.stack X.prog X.w H s Q u s'):EP X χ σ Q u s':=by let⟨v,H',os,bare,un,bY,r,q⟩:=h;let⟨hh,g,d,t,Z2⟩:=s';obtain rfl:Z2=s.os:=os;exact⟨v,H',I.call un bY bare λ b z=>absurd z ∅,r,q⟩
def Ur(sp:Sp)(zu:γ V)(E:XK)(t:TA):TE:=λ σ H Q=>t σ H λ vs H1=>sp (vs++zu) H1 Q E
def Pa(C:δ)(m:Str)(sp:Sp)(zu:γ V)(E:XK)(ta:TE)(t:TA):TE:=λ σ H Q=>ta σ H λ x H1=>∃a dx fs,x=.ref a/\H1 a=AC (.ins C dx fs)/\fs.lookup m=At /\
 t σ H1 λ vs H2=>sp (x::(vs++zu)) H2 Q E
def Um(C:δ)(sp:Sp)(zu:γ V)(E:XK)(t:TA):TE:=λ σ H Q=>t σ H λ vs H1=>∀x dx,H1 x=At->H1 dx=At->dx≠x ->
 sp (.ref x::(vs++zu)) (upd (upd H1 dx<|.own x) x<|.ins C dx []) (λ v H2=>v=.non/\Q (.ref x) H2) E
def Binds(K:Da)(fd:υ)(ps:γ Str)(ds:γ ζ):Prop:=
 ∀(s:θ)(us:γ ζ),K.In s.heap->(us++ds).length=ps.length->BindsTo s fd ⟨us,[]⟩ (ps.zip<|us++ds)
theorem Binds.all{K:Da}(h:∀us,us.length=ps.length->bindArgs fd ⟨us,[]⟩=pure (ps.zip us)):Binds K fd ps []:=λ s us _ hl=>by rw[A51]at hl ⊢;exact .of_eq<|h us hl
def Passes(CX:S6)(X:Cx)(E:XK):Prop:=∀(χ:γ (δ×μ))(σ:St)(H:Hp)(s:θ)(e:ζ)(s':θ),Inv X χ σ H s->CX X.stack H s E e s'->X.xe e s'
theorem Cs(F:eY X.prog X.w X.K X.mg X.base CX k f fd ps sp)(hr:bL k X.A)(hb:Binds X.K fd ps ds)(hd:Vals zu ds)(hx:Passes CX X E)
 (I:Inv X χ σ H s) (r:Vals vs us) (h:sp (vs++zu) H Q E):EQ (model X.prog X.w) X.A (call (.ref f) us) (EP X χ σ Q) X.xe s:=by
 have r2:=r.append hd;have hl:(us++ds).length=ps.length:=by rw[<-r2.length];exact F.len _ _ _ _ h
 refine A91<|A74 (F.run X.A _ s H ⟨us,[]⟩ _ _ Q E hr I.Ky (hb s us I.l3 hl) r2 h) λ r s' hq=>?_;cases r with
 |error e=>exact hx χ σ H s e s' I hq
 |ok fl=>
  cases fl with
  |ret u=>exact I.after hq
  |next=>exact GM hq
  |brk=>exact GM hq
  |cont=>exact GM hq
theorem yn(F:eY X.prog X.w X.K X.mg X.base CX k f fd ps sp)(hr:bL k X.A)(hg:Gl X x)(hm:X.mg x=AC (.ref f))(hk:FM X.K (.ref f)=Ch)(hb:Binds X.K fd ps ds)(hd:Vals zu ds)(hx:Passes CX X E)
 (ha:PA X (e::es) t) (gQ:(x==("__debug__"))=AT:=by decide) (he:Se e es X.env:=by rfl) (fU:Pn pos es X.env:=by rfl) :
 PE X (.Call (.Name x p) (e::es) [] pos) (Ur sp zu E t):=by
 intro χ s σ H Q I h;refine A80<|nc I hg hm ?_ gQ;refine B02 I.ok.mod.Lx hk (cG (ha pos χ s σ H _ I h) λ us s1 ⟨vs,H1,I1,r,q⟩=>⟨I1.l3,?_⟩) he fU;exact Cs F hr hb hd hx I1 r q
theorem Ey(he:PE X o ta)(c:Ln X.K C)(hm:Meth X.K C m f)(F:eY X.prog X.w X.K X.mg X.base CX k f fd ps sp)(hr:bL k X.A)(hb:Binds X.K fd ps ds)(hd:Vals zu ds)(hx:Passes CX X E)(ha:PA X (e::es) t)
 (pW:Se e es X.env:=by rfl) (fU:Pn pos es X.env:=by rfl)
 (ht:eval (.Call (.Attribute o m apos) (e::es) [] pos) X.env=(do
  let ov ←eval o X.env
  standAt apos.atName
  let (f,first) ←holding [ov] (getMethod ov m pl)
  callWith pos f first (backTo pos<|starEach (e::es) X.env) (backToKw pos<|keywordEach [] X.env)):=by rfl) :
 PE X (.Call (.Attribute o m apos) (e::es) [] pos) (Pa C m sp zu E ta t):=by
 intro χ s σ H Q I h;refine B86 (cG (he χ s σ H _ I h) ?_) ht;rintro u s1 ⟨x,H1,I1,rx,a,dx,fs,ex,ea,l,q⟩;subst ex;obtain rfl:u=Value.ref a:=rx;refine oN I1 ea c hm l ?_;refine B02 I.ok.mod.Lx hm.kp (cG (ha pos χ s1 σ H1 _ I1 q) λ us s2 ⟨vs,H2,I2,r,q2⟩=>⟨I2.l3,?_⟩) pW fU;exact Cs (vs:=.ref a::vs) F hr hb hd hx I2 (.cons rfl r) q2
theorem IS(he:PE X o ta)(c:Ln X.K C)(hm:Meth X.K C m f)(F:eY X.prog X.w X.K X.mg X.base CX k f fd ps sp)(hr:bL k X.A)(hb:Binds X.K fd ps ds)(hd:Vals zu ds)(hx:Passes CX X E)
 (ht:eval (.Call (.Attribute o m apos) [] [] pos) X.env=(do
  let ov ←eval o X.env
  standAt apos.atName
  let (f,first) ←holding [ov] (getMethod ov m pl)
  callWith pos f first (backTo pos<|starEach [] X.env) (backToKw pos<|keywordEach [] X.env)):=by rfl) :
 PE X (.Call (.Attribute o m apos) [] [] pos) (Pa C m sp zu E ta L!):=by
 intro χ s σ H Q I h;refine B86 (cG (he χ s σ H _ I h) ?_) ht;rintro u s1 ⟨x,H1,I1,rx,a,dx,fs,ex,ea,l,q⟩;subst ex;obtain rfl:u=Value.ref a:=rx;refine oN I1 ea c hm l ?_;exact PySem.W.callWith_K0 I1.l3 hm.kp<|Cs (vs:=[.ref a]) F hr hb hd hx I1 (.cons rfl .nil) q
structure Mk(K:Da)(C f:Addr):Prop where
 makes:bn K C=Ch
 init:Fk K (.ref C) "__init__"=AC (AC<|.ref f)
 fn:ww K (.ref f)=Ch
 kp:FM K (.ref C)=Ch
theorem Ir(M:Mk X.K C f)(F:eY X.prog X.w X.K X.mg X.base CX k f fd ps sp)(hr:bL (k+1) X.A)(hb:Binds X.K fd ps ds)(hd:Vals zu ds)
 (hx:Passes CX X E) (I:Inv X χ σ H s) (r:Vals vs us)
 (h:∀x dx,H x=At->H dx=At->dx≠x->sp (.ref x::(vs++zu)) (upd (upd H dx<|.own x) x<|.ins C dx []) (λ v H2=>v=.non/\Q (.ref x) H2) E) :
 EQ (model X.prog X.w) X.A (call (.ref C) us) (EP X χ σ Q) X.xe s:=by
 have hq:=h _ _ (I.bY.fresh<|A59 _) (I.bY.fresh<|v4 _)<|A13<|A62 _;have I2:=Inv.made (C:=C) I;have r2:Vals (V.ref (s.heap.objs.size+1)::(vs++zu)) _:=.cons rfl<|r.append hd;have hl:(Value.ref (s.heap.objs.size+1)::us++ds).length=ps.length:=by have e:=r2.length;rw[F.len _ _ _ _ hq]at e;exact e.symm
 refine A91 (Jy I.l3 M.makes M.init (A27.mp M.fn) (A74 (F.run _ X.stack _ _ ⟨Value.ref (s.heap.objs.size+1)::us,[]⟩ (Value.ref (s.heap.objs.size+1)::(us++ds)) _ _ E (hr.make C us [])
  (I2.Ky.make C us []) (hb _ (Value.ref (s.heap.objs.size+1)::us) I2.l3 hl) r2 hq) λ r s' gB=>?_))
 cases r with
 |error e=>exact hx χ σ _ _ e s' I2 gB
 |ok fl=>
  cases fl with
  |ret u=>let⟨v,H',I3,rv,ev,q3⟩:=I2.after gB;subst ev;exact⟨rv,⟨V.ref<|s.heap.objs.size+1,H',I3,rfl,q3⟩⟩
  |next=>exact GM gB
  |brk=>exact GM gB
  |cont=>exact GM gB
theorem MC(M:Mk X.K C f)(F:eY X.prog X.w X.K X.mg X.base CX k f fd ps sp)(hr:bL (k+1) X.A)(hg:Gl X x)(hm:X.mg x=AC (.ref C))(hb:Binds X.K fd ps ds)(hd:Vals zu ds)(hx:Passes CX X E)
 (ha:PA X (e::es) t) (gQ:(x==("__debug__"))=AT:=by decide) (he:Se e es X.env:=by rfl) (fU:Pn pos es X.env:=by rfl) :
 PE X (.Call (.Name x p) (e::es) [] pos) (Um C sp zu E t):=by
 intro χ s σ H Q I h;refine A80<|nc I hg hm ?_ gQ;refine B02 I.ok.mod.Lx M.kp (cG (ha pos χ s σ H _ I h) λ us s1 ⟨vs,H1,I1,r,q⟩=>⟨I1.l3,?_⟩) he fU;exact Ir M F hr hb hd hx I1 r q
structure a9(N P:List Str)(sc:Scope):Prop where
 kind:sc.kind=.function
 co:sc.isCoroutine=AT
 gen:sc.isGenerator=AT
 nd:N.Nodup
 pre:N.take P.length=P
 par:∀x∈P,sc.names.lookup x=AC .local\/sc.names.lookup x=AC .cell
 Ri:∀y∈sc.names,y.2≠.free
theorem xG{kindOf:Str->ε NameKind}:∀{binds}{m},(∀v,(x,v)∉binds)->bindL kindOf binds m x=m x
|[],_,_=>rfl
|(n,v)::r,m,h=>by
 unfold bindL;rw[xG λ w hw=>h w<|A09 _ hw];split
 .have:x≠n:=by rintro rfl;exact h v A12
  simp[this]
 .rfl
theorem xI{kindOf:Str->ε NameKind}:∀{binds}{m},(∀v,(x,v)∉binds)->bindC kindOf binds m x=m x
|[],_,_=>rfl
|(n,v)::r,m,h=>by
 unfold bindC;rw[xI λ w hw=>h w<|A09 _ hw];split
 .rfl
 .have:x≠n:=by rintro rfl;exact h v A12
  simp[this]
theorem xH{kindOf:Str->ε NameKind}{x:Str}{v:ζ}:∀{P:γ Str}{vs}{i:Nat}{m},P.Nodup->P[i]?=AC x->vs[i]?=AC v->kindOf x=AC .local ->
 bindL kindOf (P.zip vs) m x=AC v
|[],_,_,_,_,h,_,_=>by simp at h
|_::_,[],_,_,_,_,h,_=>by simp at h
|p::P,w::vs,0,m,nd,h1,h2,hk=>by simp at h1 h2;subst h1;subst h2;show bindL kindOf ((p,w)::P.zip vs) m p=_;unfold bindL;rw[xG λ v hv=>(A17.mp nd).1 (B87 hv).1,M2 hk];simp
|p::P,w::vs,i+1,m,nd,h1,h2,hk=>by show bindL kindOf ((p,w)::P.zip vs) m x=_;unfold bindL;exact xH (i:=i) (A17.mp nd).2 (by simpa using h1) (by simpa using h2) hk
theorem xJ{kindOf:Str->ε NameKind}{x:Str}{v:ζ}:∀{P:γ Str}{vs:γ ζ}{i:Nat}{m:Str->ε ζ},P.Nodup->P[i]?=AC x->vs[i]?=AC v->kindOf x≠AC .local ->
 bindC kindOf (P.zip vs) m x=AC v
|[],_,_,_,_,h,_,_=>by simp at h
|_::_,[],_,_,_,_,h,_=>by simp at h
|p::P,w::vs,0,m,nd,h1,h2,hk=>by simp at h1 h2;subst h1;subst h2;show bindC kindOf ((p,w)::P.zip vs) m p=_;unfold bindC;rw[xI λ v hv=>(A17.mp nd).1 (B87 hv).1,W1 hk];simp
|p::P,w::vs,i+1,m,nd,h1,h2,hk=>by show bindC kindOf ((p,w)::P.zip vs) m x=_;unfold bindC;exact xJ (i:=i) (A17.mp nd).2 (by simpa using h1) (by simpa using h2) hk
def start(N:γ Str)(vs:γ V):St:=vs.map AC++Do (N.length-vs.length) At
def d6(CX:S6)(P:ο)(w:ξ)(K:Da)(mg:Str->ε ζ)(base:ν)(N:γ Str)(qual:Str)(scope:ς)(f:δ)(cd:ζ)(A:τ)(outer:γ Env)(s:θ)(H:Hp)(E:XK):Cx where
 prog:=P
 w:=w
 K:=K
 mg:=mg
 base:=base
 A:=A.deeper<|envOfC qual scope s.heap.objs.size f cd
 N:=N
 s₀:=s
 H₀:=H
 env:=envOfC qual scope s.heap.objs.size f cd
 outer:=outer
 stack:=envOfC qual scope s.heap.objs.size f cd::outer
 ex:=[]
 calm:=Ch
 fn:=λ _=>Ch
 pn:=[]
 xe:=λ e s'=>EQ (model P w) (A.deeper<|envOfC qual scope s.heap.objs.size f cd) (leaving (envOfC qual scope s.heap.objs.size f cd) e) (λ _ S?=>CX outer H s E e S?) (λ e' S?=>CX outer H s E e' S?) s'
theorem BD{sc:ς}(h:sc.names.lookup x=AC .cell):∃c,(cellsFrom n sc.names []).lookup x=AC c:=by have q:=C37 _ n []<|.inl h;exact A75.mp q
theorem GJ{K:FS}
 (S:a9 N ps scope) (hd:A.handled=At) (e0:BN P w K mg base A outer s H) (hl:vs.length=ps.length) (r:Vals vs us)
 (x:InCallC s s.heap.objs.size (bindL (envOfC qual scope s.heap.objs.size f cd).kindOf (ps.zip us) λ _=>At) (cellsFrom (s.heap.objs.size+1) scope.names []) (bindC (envOfC qual scope s.heap.objs.size f cd).kindOf (ps.zip us) λ _=>At) s1) :
 Inv (d6 CX P w K mg base N qual scope f cd A outer s H E) [] (start N vs) H s1:=by
 have fU:ps.length<=N.length:=by have:=A11 List.length S.pre;rw[A24]at this;lia
 let⟨h1,tk,rfl,hk⟩:=x.done;have Rj:∀b,b∉(d6 CX P w K mg base N qual scope f cd A outer s H E).ex:=λ b z=>absurd (show b∈([]:γ δ)from z) ∅;refine⟨⟨e0.mod,S.kind,rfl,rfl,v4 _,λ y z c h1 h2=>?_,λ y hy=>?_,λ y c _ h=>?_,λ _=>hd,Around.frames_deeper e0.frames,.inr ⟨rfl,rfl⟩,λ b z=>absurd z<|Rj b,e0.bs,e0.HB,λ b _ _=>Rj b,λ b z=>absurd z<|Rj b,e0.mG,e0.Kj⟩,
  rfl,e0.bare,Un.kept hk,⟨_,x.toInCall.ns,λ i y v h1 h2 h3=>?_⟩,λ y c h=>⟨_,x.cell y c h⟩,e0.bY.fresh<|v4 _,λ y c h=>?_,λ p hp=>absurd (show p∈([]:γ (δ×μ))from hp) ∅,e0.bY.kept hk,?_,e0.tab⟩
 .exact name_of_addr x.apart (A67 h1)<|A67 h2
 .have hy:=hy;rcases hy with hy|hy
  .exact BD hy
  .exact absurd rfl<|S.Ri _<|A67 hy
 .exact A78<|x.above y c<|A67 h
 .have hi:i<vs.length:=by
   unfold start at h2;by_cases hi:i<vs.length
   .exact hi
   .rw[A48 (by simpa using hi)]at h2;rw[A52]at h2;split at h2<;>cases h2
  have ha:vs[i]?=AC v:=by
   unfold start at h2;rw[A34 (by simpa using hi),A06]at h2;cases e:vs[i]? with
   |none=>rw[e]at h2;cases h2
   |some a=>rw[e]at h2;cases h2;rfl
  let⟨u,hu,rv⟩:=r.get ha;have hp:ps[i]?=AC y:=by rw[<-S.pre,C38 ∅];exact h1
  have ndP:ps.Nodup:=by rw[<-S.pre];exact S.nd.sublist<|List.take_sublist _ _
  refine⟨u,rv,?_⟩;rcases S.par y (A20 hp)with k|k
  .exact .inl ⟨k,xH ndP hp hu k⟩
  .let⟨c,e⟩:=BD (n:=s.heap.objs.size+1) k;refine .inr ⟨.inl k,c,e,?_⟩;have q:=x.cell y c e;rw[xJ ndP hp hu (by show scope.names.lookup y≠_;rw[k];decide)]at q;exact q
 .exact e0.bY.fresh<|A78<|x.above y c<|A67 h
 .unfold start;show _=N.length;rw[A30,A05,A81];lia
theorem uO{K:Da}{dV kV doc pm bf ct oc:ζ}
 (lk:K.lookup f=AC ⟨oc,od,.func<|PySem.W.fnOf name qual params body scope dV kV doc pm an bf ct,ui⟩) (n4:On K bf qual=Ch) (S:a9 N ps scope)
 (len:∀vs H Q E,sp vs H Q E->vs.length=ps.length)
 (A5:∀A outer s H vs Q E,bL k (A.deeper<|envOfC qual scope s.heap.objs.size f bf)->sp vs H Q E ->
  ∃t,rp (d6 CX P w K mg base N qual scope f bf A outer s H E) body t/\t {nx:=λ _ H'=>Q .non H',rt:=Q} (start N vs) H) :
 eY P w K mg base CX (k+1) f (NE name qual params body scope dV kV doc pm an bf ct) ps sp:=by
 refine⟨len,λ A outer s H args us vs Q E hr e0 hb r BV=>?_⟩;have hl:=len _ _ _ _ BV;have KX:=e0.mod.Lx.keeps λ b o e=>(e0.bs b o e).1;have lim:=e0.mod.nolimit.keeps λ b o e=>(e0.bs b o e).1;have V':∀y∈ps.zip us,scope.names.lookup y.1=AC .local\/(scope.names.lookup y.1=AC .cell/\((cellsFrom (s.heap.objs.size+1) scope.names []).lookup y.1).isSome=Ch):=by
  rintro⟨n,v⟩ hy;rcases S.par n (B87 hy).1 with q|q
  .exact .inl q
  .exact .inr ⟨q,C37 _ _ _<|.inl q⟩
 refine codeAny_call_function hr.depth (KX _ _ lk) rfl S.co S.gen rfl (PySem.W.codeRec_of KX n4)<|hb _ _ _ _ ?_;refine wpAny_newFunctionEnv_cells S.kind V' λ env he s1 x=>?_;subst he;refine⟨lim.keeps x.toInCall.keep,codeAny_func ?_⟩;let⟨t,ht,hq⟩:=A5 A outer s H vs Q E (hr.deeper _) BV;have I:Inv (d6 CX P w K mg base N qual scope f bf A outer s H E) [] (start N vs) H s1:=GJ S hr.hd e0 hl r x;refine A19 (ht [] s1 (start N vs) H _ I hq) (λ fl s' hs=>?_) λ e s' hs=>hs;have fin:∀{σ'}{H'}{v}{u},Inv (d6 CX P w K mg base N qual scope f bf A outer s H E) [] σ' H' s'->RelV v u->Q v H'->CE outer P w H s Q u s':=
  λ {σ' H' v u} J rv q=>⟨v,H',J.os,J.bare,J.base,J.bY,rv,q⟩
 cases fl with
 |ret u=>let⟨v,σ',H',J,rv,q⟩:=hs;exact fin J rv q
 |next=>let⟨σ',H',J,q⟩:=hs;exact fin (v:=V.non) (u:=SZ) J rfl q
 |brk=>let⟨_,_,_,q⟩:=hs;exact GM q
 |cont=>let⟨_,_,_,q⟩:=hs;exact GM q
section
variable{id T:String}
def tCB(r:γ V->Hp->VK->Prop)(t:TA):TE:=λ σ H Q=>t σ H λ vs H1=>r vs H1 Q
theorem km(hc:n? X (.builtin id) r)(hg:Gl X x)(hm:X.mg x=At)(hv:bootBuiltins x=AC (.builtin id))(ha:PA X (e::es) t)(hn:x≠ "__name__":=by decide)(gQ:(x==("__debug__"))=AT:=by decide)
 (he:Se e es X.env:=by rfl) (fU:Pn pos es X.env:=by rfl):PE X (.Call (.Name x p) (e::es) [] pos) (tCB r t):=by
 intro χ s σ H Q I h;refine A80<|lq I hg hm hv ?_ hn gQ;exact PyProof.Rows.callWith_builtin1 (cG (ha pos χ s σ H _ I h) <|by rintro us s1 ⟨vs,H1,I1,r1,q1⟩;exact hc χ s1 σ H1 vs us Q I1 r1 q1) he fU
theorem wY(hc:n? X (.type T) r)(hg:Gl X x)(hm:X.mg x=At)(hv:bootBuiltins x=AC (.type T))(ha:PA X (e::es) t)(hn:x≠ "__name__":=by decide)(gQ:(x==("__debug__"))=AT:=by decide)
 (he:Se e es X.env:=by rfl) (fU:Pn pos es X.env:=by rfl):PE X (.Call (.Name x p) (e::es) [] pos) (tCB r t):=by
 intro χ s σ H Q I h;refine A80<|lq I hg hm hv ?_ hn gQ;exact B22 (cG (ha pos χ s σ H _ I h) <|by rintro us s1 ⟨vs,H1,I1,r1,q1⟩;exact hc χ s1 σ H1 vs us Q I1 r1 q1) he fU
end
end L2
namespace HT
section
open PySem.SeqAt
open PySem.AutoSeq1 (wpAny_loadPart')
open PySem.MeetsSeq PySem.MeetsSeq2 PySem.MeetsSeq3
end
theorem OI(ht:IsTup s.heap t vs.toArray)(hb:IsTup s.heap b ws.toArray)(hv:vs≠[])
 (h1:ws=[]->Q (.ref t) s) (h2:ws≠[]->Q (.ref s.heap.objs.size) {s with heap:=s.heap.push {cls:=.type "tuple",data:=.seq (vs++ws).toArray}})
 (C8:vs.length+ws.length<=sizeLine):EQ (model prog w) A (binaryOp .Add (.ref t)<|.ref b) Q E s:=by
 let⟨⟨cls,dd,data,sl⟩,ho,hc,n,hd⟩:=id ht;let⟨⟨WW,TN,data2,S9⟩,Hv,vC,n2,hd2⟩:=id hb;simp only at hc hd vC hd2;subst hc hd vC hd2;have e:vs.toArray++ws.toArray=(vs++ws).toArray:=by simp
 by_cases hw:ws=[]
 .exact B47 ⟨_,ho,rfl⟩ ⟨_,Hv,rfl⟩ B89 seq_tuple_add B91 B92 (B93 _ _)
   (tuple_addW1 t b _ _ n n2 dd TN sl S9 (by simpa using hv) (by simp[hw])) ⟨ho,Hv,h1 hw⟩
 .refine B47 ⟨_,ho,rfl⟩ ⟨_,Hv,rfl⟩ B89 seq_tuple_add B91 B92 (B93 _ _)
   (tuple_addW2 t b vs.toArray ws.toArray n n2 dd TN sl S9 (by simpa using hv) (by simpa using hw) (by rw[A10,A10];exact C8)) ⟨ho,Hv,?_⟩
  rw[e];exact h2 hw
def eI(n d:Nat):ε Int->Nat
|none=>d
|some v=>if v<0 then(v+(n:Int)).toNat else min v.toNat n
theorem yj(n d:Nat)(hd:d<=n)(o:ε Int):eI n d o<=n:=by
 cases o with
 |none=>exact hd
 |some v=>
  show(if v<0 then(v+(n)).toNat else min _ n)<=n;by_cases hv:v<0
  .rw[M2 hv];lia
  .rw[W1 hv];exact Nat.min_le_right _ _
theorem Fn(v:Int)(n d:Nat):(if v<0 then max (v+(n)) 0 else min v (n))=((eI n d<|some v)):=by
 show(if v<0 then max _ 0 else min v (n))=(((if v<0 then(v+(n)).toNat else min _ n)))
 by_cases hv:v<0
 .simp only[M2 hv];lia
 .simp only[W1 hv];lia
theorem DX(lo hi:ε Int)(n:Nat):Ps lo hi 1 (n)=(((eI n 0 lo):Int),((eI n n hi):Int)):=by
 have h1:¬((1)<0):=by lia
 unfold Ps;simp only[A60];refine Prod.ext ?_ ?_
 .cases lo with
  |none=>rfl
  |some v=>exact Fn v n 0
 .cases hi with
  |none=>rfl
  |some v=>exact Fn v n n
theorem Cw(i j:Nat):KF (i) (j) 1=j-i:=by
 unfold KF;have h1:(1)>0:=by lia
 simp only[Int.ediv_one];split<;>lia
theorem t9(p:IsPart v o)(h:Q o s):EQ (model prog w) A (Builtin.Slice.slicePartIndex v) Q E s:=by
 cases p with
 |none=>exact slicePart_none h
 |int i t=>exact slicePart_int h
theorem ki{lo hi:ε Int}{Q:Int×Int×Nat->θ->Prop}(hs:s.heap.IsSliceOf sl vl vu .none)(pl:IsPart vl lo)(pu:IsPart vu hi)
 (h:Q (((eI n 0 lo)),1,eI n n hi-eI n 0 lo) s):EQ (model prog w) A (UV (.ref sl)<|pure<|n) Q E s:=by
 let⟨os,RR,E3,Wk⟩:=id hs;unfold UV Builtin.Slice.sliceFields;refine T0<|T0<|A31 RR Wk rfl<|T0<|A31 RR Wk rfl<|T0<|A31 RR Wk rfl<|P3 ?_;refine T0<|slicePart_none ?_;rw[W1 ∅];refine T0<|t9 pl<|T0<|t9 pu<|T0<|P3 ?_;show EQ _ _ (match Ps lo hi 1 (n)with|(lo,hi)=>pure (lo,(1:Int),KF lo hi 1)) _ _ s;rw[DX];show EQ _ _ (pure (((eI n 0 lo):Int),(1),KF ((eI n 0 lo)) ((eI n n hi)) 1)) _ _ s;rw[Cw];exact P3 h
theorem IM(xs:Array ζ)(i k:Nat):((Ev k).filterMap λ(m:Nat)=>xs[((i)+(m:Int)*1).toNat]?).toArray=((xs.toList.drop i).take k).toArray:=by
 have e:(λ(m:Nat)=>xs[((i)+(m:Int)*1).toNat]?)=λ m=>xs[i+m]?:=by
  funext m
  have:((i)+(m:Int)*1).toNat=i+m:=by lia
  rw[this]
 rw[e];have:=pick_run xs i k;rw[List.filterMap_map]at this;have e2:((λ x=>xs[x]?)∘λ x=>i+x)=λ m=>xs[i+m]?:=rfl;rw[e2]at this;rw[this]
theorem p0{lo hi:ε Int}(ht:IsTup s.heap t items)(hs:s.heap.IsSliceOf sl vl vu .none)(pl:IsPart vl lo)(pu:IsPart vu hi)
 (hw:¬(eI items.size 0 lo=0/\eI items.size items.size hi=items.size))
 (h:Q (.ref s.heap.objs.size) {s with heap:=s.heap.push {cls:=.type "tuple",data:=.seq ((items.toList.drop<|eI items.size 0 lo).take<|eI items.size items.size hi-eI items.size 0 lo).toArray}})
 (C8:items.size<=sizeLine):EQ (model prog w) A (getItem (.ref t)<|.ref sl) Q E s:=by
 have E1:sizeOk (.seq ((items.toList.drop<|eI items.size 0 lo).take<|eI items.size items.size hi-eI items.size 0 lo).toArray):=by show((items.toList.drop<|eI items.size 0 lo).take<|eI items.size items.size hi-eI items.size 0 lo).toArray.size<=sizeLine;rw[A10,A24,B48,B44];lia
 have hj:eI items.size items.size hi<=items.size:=yj _ _ (v4 _) hi;let⟨os,RR,E3,Wk⟩:=id hs;have hTs:s.TypeIs (.ref sl) "slice":=⟨os,RR,E3⟩
 unfold getItem
 try with_reducible refine A38 ?_
 first|refine T0<|P3 ?_|skip
 refine T0<|wpAny_sequenceKey ht.typeIs ∅ ?_;refine T0 (B03 (name:=Db "__getitem__") ht.typeIs B04
  <|B05 B04 ht.typeIs entry_tuple_getitem ?_<|args_tuple_getitem _ _)
 show EQ _ _ (Uf (.ref t)>>=_) _ _ s;refine T0<|tupleItemsOf_ ht ?_;refine T0<|wpAny_typeOf hTs ?_;rw[M2 ∅];refine T0<|ki hs pl pu ?_;have C!:¬((((eI items.size 0 lo:Nat):Int)==0&&(1:Int)==1&&(eI items.size items.size hi-eI items.size 0 lo)==items.size)=Ch):=by intro q;rw[A49,A49]at q;have q1:((eI items.size 0 lo:Nat):Int)=0:=eq_of_beq q.1.1;have q2:eI items.size items.size hi-eI items.size 0 lo=items.size:=eq_of_beq q.2;exact hw ⟨by lia,by lia⟩
 show EQ _ _ (if(((eI items.size 0 lo:Nat):Int)==0&&(1:Int)==1&&(eI items.size items.size hi-eI items.size 0 lo)==items.size)=Ch then _ else _) _ _ s;rw[W1 C!,IM]
 first
  |exact T0 (m:=No _)<|A68 (P3 ⟨_,rfl,P3 h⟩) E1
  |exact T0 (m:=No _)<|A68 (T0<|P3<|P3 ⟨_,rfl,P3 h⟩) E1
  |exact T0<|T0 (m:=No _)<|A68 (P3<|P3 ⟨_,rfl,P3 h⟩) E1
  |exact T0<|T0 (m:=No _)<|A68 (P3 ⟨_,rfl,P3 h⟩) E1
end HT
namespace L2
abbrev TO:=St->Hp->(ε Int->Hp->Prop)->Prop
def PO(X:Cx)(e:ε ι)(t:TO):Prop:=
 ∀ (χ:γ (δ×μ))(s:θ)(σ:St)(H:Hp)(Q:ε Int->Hp->Prop),Inv X χ σ H s->t σ H Q ->
  EQ (model X.prog X.w) X.A (evalPart e X.env) (λ u s'=>∃o H',Inv X χ σ H' s'/\IsPart u o/\Q o H') X.xe s
def L':TO:=λ _ H Q=>Q At H
def Uj(t:TE):TO:=λ σ H Q=>t σ H λ x H1=>∃i,x=.int i/\Q (AC i) H1
section
variable{lo hi:ε ι}
theorem My:PO X At L':=by intro χ s σ H Q I h;rw[evalPart_none];exact P3 ⟨At,H,I,.none,h⟩
theorem Mx(h:PE X e te):PO X (AC e) (Uj te):=by intro χ s σ H Q I hw;rw[evalPart_some];refine cG (h χ s σ H _ I hw) ?_;rintro u s1 ⟨x,H1,I1,r1,q1⟩;let⟨i,rfl,q⟩:=q1;let⟨t,rfl⟩:=r1;exact⟨_,H1,I1,.int i t,q⟩
def OY(X:Cx)(r:V->ε Int->ε Int->Hp->VK->Prop):Prop:=
 ∀ (χ:γ (δ×μ))(s:θ)(σ:St)(H:Hp)(x:V)(v vl vu:ζ)(lo hi:ε Int)(sl:δ)(Q:VK),Inv X χ σ H s->RelV x v->s.heap.IsSliceOf sl vl vu .none->IsPart vl lo->IsPart vu hi->r x lo hi H Q ->
  ∃T id,typeLookup (.type T) "__getitem__"=pure (AC<|.builtin id)/\s.TypeIs v T/\EQ (model X.prog X.w) X.A (getItem v<|.ref sl) (EP X χ σ Q) X.xe s
theorem OY.or(h:OY X r)(h':OY X r'):OY X (λ x lo hi H Q=>r x lo hi H Q\/r' x lo hi H Q):=by
 intro χ s σ H x v vl vu lo hi sl Q I rx hs pl pu q;rcases q with q|q
 .exact h χ s σ H x v vl vu lo hi sl Q I rx hs pl pu q
 .exact h' χ s σ H x v vl vu lo hi sl Q I rx hs pl pu q
def tSl(r:V->ε Int->ε Int->Hp->VK->Prop)(te:TE)(tl th:TO):TE:=λ σ H Q=>te σ H λ x H1=>tl σ H1 λ l H2=>th σ H2 λ u H3=>r x l u H3 Q
theorem Am(hr:OY X r)(he:PE X e te)(hl:PO X lo tl)(hu:PO X hi th):PE X (.Subscript e (.Slice lo hi At p2) pos) (tSl r te tl th):=by intro χ s σ H Q I h;refine Subscript_<|cG (he χ s σ H _ I h) ?_;rintro v s1 ⟨x,H1,I1,r1,q1⟩;refine wpAny_Slice<|cG (hl χ s1 σ H1 _ I1 q1) λ vl s2 ⟨l,H2,I2,pl,q2⟩=>cG (hu χ s2 σ H2 _ I2 q2) ?_;rintro vu s3 ⟨u,H3,I3,pu,q3⟩;rw[evalPart_none];refine P3 ?_;have I4:Inv X χ σ H3 {s3 with heap:=s3.heap.push {cls:=.type "slice",data:=.fields #[vl,vu,.none]}}:=I3.kept λ b ob q=>v6 _ q;let⟨T,id,hT,ht,hg⟩:=hr χ {s3 with heap:=s3.heap.push {cls:=.type "slice",data:=.fields #[vl,vu,.none]}} σ H3 x v vl vu l u _ Q I4 r1 (Heap.IsSliceOf.new ..) pl pu q3;exact tail_any ht hT hg (by with_unfolding_all rfl)
def wu(xs:γ V)(lo hi:ε Int):γ V:=(xs.drop<|HT.eI xs.length 0 lo).take<|HT.eI xs.length xs.length hi-HT.eI xs.length 0 lo
theorem rY(xs:γ V)(lo hi:ε Int):(wu xs lo hi).length<=xs.length:=by unfold wu;rw[A24,B48];lia
def ZM(K:Da):V->ε Int->ε Int->Hp->VK->Prop:=λ x lo hi H Q=>∃a xs,x=.ref a/\nz K H a xs /\
 ¬(HT.eI xs.length 0 lo=0/\HT.eI xs.length xs.length hi=xs.length)/\∀p,H p=At->Q (.ref p) (upd H p<|.tup<|wu xs lo hi)
theorem Qt:OY X (ZM X.K):=by
 intro χ s σ H x v vl vu lo hi sl Q I rx hs pl pu h;let⟨a,xs,rfl,hx,hw,q⟩:=h;cases rx;let⟨bp,r,ht,hz⟩:=I.tuple hx;have ψ:bp.toArray.size=xs.length:=by rw[A10];exact r.length.symm
 refine⟨"tuple",_,B04.lookup,ht.typeIs,?_⟩;refine HT.p0 ht hs pl pu (by rw[ψ];exact hw) ?_ (by rw[ψ];exact hz);rw[ψ];refine⟨.ref _,_,I.laid (λ b ob q=>v6 _ q) (v4 _) ?_,rfl,q _<|I.bY.fresh<|v4 _⟩;exact⟨A15 (rY xs lo hi) hz,_,(r.drop _).take _,qp.new _ _⟩
def UQ(K:Da):R2:=λ x y H Q=>∃a b xs ys,x=.ref a/\y=.ref b/\nz K H a xs/\nz K H b ys/\xs≠[]/\xs.length+ys.length<=sizeLine /\
 (ys=[]->Q (.ref a) H)/\(ys≠[]->∀p,H p=At->Q (.ref p) (upd H p<|.tup<|xs++ys))
theorem Vals.sU(r:Vals xs us):us=[]↔xs=[]:=by
 cases r with
 |nil=>simp
 |cons _ _=>simp
theorem MP:jN X (binaryOp .Add) (UQ X.K):=by intro χ s σ H x y v u Q I rx ry h;let⟨a,b,xs,ys,rfl,rfl,ha,hb,hx,hz,q1,q2⟩:=h;cases rx;cases ry;let⟨bp,r1,p1,_⟩:=I.tuple ha;let⟨iF,r2,p2,_⟩:=I.tuple hb;refine HT.OI p1 p2 (λ z=>hx<|r1.sU.mp z) (λ z=>⟨.ref a,H,I,rfl,q1<|r2.sU.mp z⟩) (λ z=>?_) (by rw[<-r1.length,<-r2.length];exact hz);refine⟨.ref _,_,I.laid (λ b ob q=>v6 _ q) (v4 _) ?_,rfl,q2 (λ w=>z<|r2.sU.mpr w) _<|I.bY.fresh<|v4 _⟩;exact⟨by rw[A30];exact hz,_,r1.append r2,qp.new _ _⟩
end
def VN(n:Nat)(i:Int):ε Nat:=if 0<=i then(if i<n then AC i.toNat else At)else if -(n:Int)<=i then AC (i+n).toNat else At
def SH{α:Type}(xs:γ α)(i:Int):ε α:=(VN xs.length i).bind λ j=>xs[j]?
theorem NH(h:VN n i=AC j):seqIndex? i n=AC j/\j<n/\-(n)<=i/\i<n:=by
 unfold VN at h;by_cases h0:0<=i
 .rw[M2 h0]at h;by_cases h1:i<n
  .rw[M2 h1]at h;have e:=A04 h;exact⟨by rw[seqIndex_of h0 h1,e],by lia,by lia,h1⟩
  .rw[W1 h1]at h;cases h
 .rw[W1 h0]at h;by_cases h1:-(n)<=i
  .rw[M2 h1]at h;have e:=A04 h;exact⟨by rw[seqIndex_neg ∅ h1,e],by lia,h1,by lia⟩
  .rw[W1 h1]at h;cases h
theorem zj(h:SH xs i=AC v):∃j,seqIndex? i xs.length=AC j/\xs[j]?=AC v/\j<xs.length/\-(xs.length)<=i/\i<xs.length:=by
 unfold SH at h;cases e:VN _ i with
 |none=>rw[e]at h;cases h
 |some j=>rw[e]at h;let⟨h1,h2,h3,h4⟩:=NH e;exact⟨j,h1,h,h2,h3,h4⟩
def zm(b:ι):Prop:=∀o i,subscripted b AT o i=operate [o,i] (getItem o i)
def O6(X:Cx)(r:R2):Prop:=
 ∀ (value slice:ι)(χ:γ (δ×μ))(s:θ)(σ:St)(H:Hp)(x y:V)(v u:ζ)(Q:VK),Inv X χ σ H s->RelV x v->RelV y u->r x y H Q ->
  subscripted slice AT v u=operate [v,u] (getItem v u)->EQ (model X.prog X.w) X.A (subscriptTail value slice v u) (EP X χ σ Q) X.xe s
def T5(X:Cx)(id:String)(r:V->γ V->Hp->VK->Prop):Prop:=
 ∀ (χ:γ (δ×μ))(s:θ)(σ:St)(H:Hp)(x:V)(xs:γ V)(v:ζ)(us:γ ζ)(Q:VK),Inv X χ σ H s->RelV x v->Vals xs us->r x xs H Q ->
  EQ (model X.prog X.w) X.A (call (.builtin id)<|v::us) (EP X χ σ Q) X.xe s
section
theorem O6.or(h:O6 X r)(h':O6 X r'):O6 X (λ x y H Q=>r x y H Q\/r' x y H Q):=by
 intro value slice χ s σ H x y v u Q I rx ry q hs;rcases q with q|q
 .exact h value slice χ s σ H x y v u Q I rx ry q hs
 .exact h' value slice χ s σ H x y v u Q I rx ry q hs
theorem Pj(hr:O6 X r)(ha:PE X a ta)(hb:PE X b tb)(hs:zm b):PE X (.Subscript a b pos) (L9 r ta tb):=by intro χ s σ H Q I h;exact Subscript_<|SA ha hb I h λ v u s2 x y H2 I2 rx ry q=>hr a b χ s2 σ H2 x y v u Q I2 rx ry q<|hs _ _
def UN(K:Da):R2:=λ x y H Q=>∃p xs i v,x=.ref p/\y=.int i/\jE K H p xs/\SH xs i=AC v/\Q v H
def UL(K:Da):R2:=λ x y H Q=>∃p xs i v,x=.ref p/\y=.int i/\nz K H p xs/\SH xs i=AC v/\Q v H
def UM:R2:=λ x y H Q=>∃z i c,x=.str z/\y=.int i/\z.length<=sizeLine/\SH z.cps.toList i=AC c/\Q (.str ⟨#[c]⟩) H
theorem NG:O6 X (UN X.K):=by
 intro value slice χ s σ H x y v u Q I rx ry h hs;let⟨p,xs,i,z,rfl,rfl,hq,he,q⟩:=h;cases rx;let⟨t,rfl⟩:=ry;let⟨bp,r,pl,hz⟩:=I.list hq;let⟨j,h1,h2,h3,h4,h5⟩:=zj he;let⟨w,ew,F3⟩:=r.get h2;have hl:=r.length;have hn:=yG;have fin:EP X χ σ Q w s:=⟨z,H,I,F3,q⟩
 by_cases h0:0<=i
 .have hj:i.toNat=j:=by rw[seqIndex_of h0 h5]at h1;exact A04 h1
  exact item_listR pl.isList h0 ∅ (by rw[hj];simpa using ew) fin hs
 .have hj:(i+(bp.toArray.size)).toNat=j:=by rw[seqIndex_neg ∅ h4]at h1;rw[A10,<-hl];exact A04 h1
  exact subscriptTail_builtinR pl.isList.typeIs slot_list_getitem.lookup
   (wpAny_getItem_list_neg pl.isList ∅ (by rw[A10]<;>lia) ∅ (by rw[hj];simpa using ew) ⟨rfl,fin⟩) hs
theorem RC:O6 X (UL X.K):=by
 intro value slice χ s σ H x y v u Q I rx ry h hs;let⟨p,xs,i,z,rfl,rfl,hq,he,q⟩:=h;cases rx;let⟨t,rfl⟩:=ry;let⟨bp,r,pl,hz⟩:=I.tuple hq;let⟨j,h1,h2,h3,h4,h5⟩:=zj he;let⟨w,ew,F3⟩:=r.get h2;have hl:=r.length;have hn:=yG;have fin:EP X χ σ Q w s:=⟨z,H,I,F3,q⟩
 exact subscriptTail_builtinR pl.typeIs slot_tuple_getitem.lookup
  (getItem_tuple pl ∅ ∅ (by rw[A10,<-hl];exact h1) (by simpa using ew) ⟨rfl,fin⟩) hs
theorem uD:O6 X UM:=by
 intro value slice χ s σ H x y v u Q I rx ry h hs;let⟨z,i,c,rfl,rfl,hz,he,q⟩:=h;let⟨t,rfl⟩:=rx;let⟨t',rfl⟩:=ry;let⟨j,h1,h2,h3,h4,h5⟩:=zj he;have hl:z.cps.toList.length=z.length:=by simp[Str.length]
 rw[hl]at h1 h4 h5;have hn:=yG;exact tail_any (typeIs_str s z t) slot_str_getitem.lookup (getItem_str (by have e1:decide (i < -(2^63))=AT:=A28 ∅;have e2:decide (i≥2^63)=AT:=A28 ∅;rw[e1,e2,Bool.or_false]) (by rw[h1];simpa using h2) ⟨.str ⟨#[c]⟩,H,I.tok _,⟨_,rfl⟩,q⟩) hs
def rIx(K:Da):R2:=λ x y H Q=>UN K x y H Q\/UL K x y H Q\/UM x y H Q
theorem JO:O6 X (rIx X.K):=NG.or<|RC.or uD
theorem yd(lo hi:ε Int)(n:Nat):(sliceBounds lo hi At n).1=((HT.eI n 0 lo))/\(sliceBounds lo hi At n).2.1=((HT.eI n n hi))/\(sliceBounds lo hi At n).2.2=1:=by
 refine⟨?_,?_,rfl⟩
 .cases lo with
  |none=>simp[sliceBounds,HT.eI]
  |some i=>
   simp only[sliceBounds,HT.eI,AA8,A25];by_cases h:i<0
   .simp only[h]<;>lia
   .simp only[h,A60]<;>lia
 .cases hi with
  |none=>simp[sliceBounds,HT.eI]
  |some i=>
   simp only[sliceBounds,HT.eI,AA8,show(1)>0 by decide,A25];by_cases h:i<0
   .simp only[h,A25]<;>lia
   .simp only[h,A60]<;>lia
theorem vM(bp:γ ζ)(lo hi:ε Int):slicePick bp.toArray lo hi At=((bp.drop<|HT.eI bp.length 0 lo).take<|HT.eI bp.length bp.length hi-HT.eI bp.length 0 lo).toArray:=by let⟨h1,h2,h3⟩:=yd lo hi bp.toArray.size;unfold slicePick;rw[h1,h2,h3];simp only[sliceRange_one,pick_run]<;>rfl
def ZO(K:Da):V->ε Int->ε Int->Hp->VK->Prop:=λ x lo hi H Q=>∃a xs,x=.ref a/\jE K H a xs/\∀p,H p=At->Q (.ref p) (upd H p<|.lst<|wu xs lo hi)
theorem Mh:OY X (ZO X.K):=by intro χ s σ H x v vl vu lo hi sl Q I rx hs pl pu h;let⟨a,xs,rfl,hx,q⟩:=h;cases rx;let⟨bp,r,ht,hz⟩:=I.list hx;have ψ:=r.length;refine⟨"list",_,slot_list_getitem.lookup,ht.isList.typeIs,?_⟩;refine wpAny_getItem_list_slice ht.isList hs pl pu .none ∅ ?_ (by rw[A10]<;>lia);rw[vM,<-ψ];refine⟨.ref _,_,I.laid (λ b ob q=>v6 _ q) (v4 _) ?_,rfl,q _<|I.bY.fresh<|v4 _⟩;exact⟨A15 (rY xs lo hi) hz,_,0,(r.drop _).take _,A14 _ rfl⟩
theorem wx:n? X (.type "tuple") (λ xs H Q=>∃p ys,xs=[.ref p]/\((jE X.K H p ys/\∀l,H l=At->Q (.ref l) (upd H l<|.tup ys))\/(nz X.K H p ys/\Q (.ref p) H))):=by
 intro χ s σ H xs us Q I r h;let⟨p,ys,rfl,h⟩:=h;let⟨u,rfl,rx⟩:=vals1 r;cases rx;rcases h with⟨hq,q⟩|⟨hq,q⟩
 .let⟨bp,r',pl,hz⟩:=I.list hq;have ψ:=r'.length;refine call_tuple_list pl.isList (λ h' kp=>?_) (by simp only[A10]<;>lia);have I1:=I.kept (t':=s.toks) kp;have I2:=
   I1.laid (t':=s.toks) (λ b o e=>v6 _ e) (v4 _)<|show eF _ X.w _ _ _ (.tup ys)from⟨hz,bp,r',qp.new _ _⟩
  exact⟨.ref _,_,I2,rfl,q _<|I1.bY.fresh<|v4 _⟩
 .let⟨bp,r',pl,hz⟩:=I.tuple hq;exact call_tuple_same pl ⟨.ref p,H,I,rfl,q⟩
def tyV(K:Da)(T:String)(x:V)(H:Hp):Prop:=match x with
|.str _=>T="str"
|.int _=>T="int"
| .ref p=>(T="list" /\ ∃xs,jE K H p xs)\/(T="tuple" /\ ∃o,K.lookup p=AC o/\o.cls=.type "tuple" /\ o.dict=At) \/
 (T="dict" /\ ((∃aV,H p=AC (.dK aV))\/∃aV,H p=AC (.dT aV)))\/(T="set" /\ ∃S n,H p=AC (.set S n))
|_=>False
theorem Qk(I:Inv X χ σ H s)(r:RelV x v)(ty:tyV X.K T x H) :
 s.TypeIs v T/\∀a,v=.ref a->∃ob,s.heap.get? a=AC ob/\ob.dict=At:=by
 cases x with
 |str z=>let⟨t,rfl⟩:=r;cases (ty);exact⟨typeIs_str s z t,λ _ e=>nomatch e⟩
 |int i=>let⟨t,rfl⟩:=r;cases (ty);exact⟨B23 s i t,λ _ e=>nomatch e⟩
 |ref p=>
  cases r;rcases ty with⟨rfl,xs,hq⟩|⟨rfl,o,hk,hc,hd⟩|⟨rfl,hk⟩|⟨rfl,S,n,hk⟩
  .let⟨bp,_,pl,_⟩:=I.list hq;refine⟨pl.isList.typeIs,λ a e=>?_⟩;cases e;let⟨o,n,e,c,hd,_⟩:=pl;exact⟨o,e,hd⟩
  .refine⟨⟨o,I.l3 p o hk,hc⟩,λ a e=>?_⟩;cases e;exact⟨o,I.l3 _ o hk,hd⟩
  .have z:∃o,s.heap.get? p=AC o/\o.ExactDict:=by
    rcases hk with⟨aV,hk⟩|⟨aV,hk⟩
    .let⟨_,_,_,_,o,_,_,e,ex,_⟩:=I.bY p _ hk;exact⟨o,e,ex⟩
    .let⟨_,_,_,_,o,_,_,e,ex,_⟩:=I.bY p _ hk;exact⟨o,e,ex⟩
   let⟨o,e,ex⟩:=z;refine⟨⟨o,e,ex.1⟩,λ a e2=>?_⟩;cases e2;exact⟨o,e,ex.2.1⟩
  .let⟨o,_,_,_,e,ex,_⟩:=I.bY p _ hk;refine⟨⟨o,e,ex.1⟩,λ a e2=>?_⟩;cases e2;exact⟨o,e,ex.2.1⟩
 |_=>exact GM ty
def Zl(K:Da)(T:String)(r:V->γ V->Hp->VK->Prop)(to:TE)(t:TA):TE:=λ σ H Q=>to σ H λ x H1=>tyV K T x H1/\t σ H1 λ xs H2=>r x xs H2 Q
variable{T id:String}
theorem wZ(pa:PlainAttrs T)(slot:Slot T name id)(hty:typeOf (.builtin id)=pure (.type "method_descriptor"))(hm:T5 X id r)(ho:PE X o to)(ha:PA X (e::es) t)
 (js:attributeBase o name X.env (eval o X.env)=eval o X.env:=by rfl)
 (oK:((backTo jM<|starEach (e::es) X.env).all (λ x=>!x.1)&&(backToKw jM<|keywordEach [] X.env).all (λ x=>x.1.isSome)
  && decide ((e::es).length+([]:γ π).length+(if([]:γ π).isEmpty then 0 else 1)<30))=Ch:=by rfl)
 (jr:(apos.endLine==jM.line)=Ch:=by rfl) (hs:Se e es X.env:=by rfl) (g_:Pn jM es X.env:=by rfl) :
 PE X (.Call (.Attribute o name apos) (e::es) [] jM) (Zl X.K T r to t):=by
 intro χ s σ H Q I h;refine wpAny_Call_method_late js oK jr rfl<|cG (ho χ s σ H _ I h) ?_;rintro v s1 ⟨x,H1,I1,r1,ty,q1⟩;let⟨h1,h2⟩:=Qk I1 r1 ty;refine⟨T,id,pa,slot,hty,h1,h2,?_⟩;have hA:=ha jM χ s1 σ H1 _ I1 q1;rw[hs]at hA ⊢;refine Calls.callWith_builtin (by show(AT||(backTo jM _).any _)=AT;rw[g_]<;>rfl)<|B95 ?_;exact cG hA <|by rintro us s2 ⟨vs,H2,I2,r2,q2⟩;exact hm χ s2 σ H2 x vs v us Q I2 r1 r2 q2
/- xs.append(e),list.index on a Jv tuple .. are T5 facts of 06m -/
end
def MtM(X:Cx)(id:String)(r:V->γ V->Hp->VK->Prop):Prop:=
 ∀ (χ:γ (δ×μ))(s:θ)(σ:St)(H:Hp)(x:V)(xs:γ V)(v:ζ)(us:γ ζ)(Q:VK),Inv X χ σ H s->RelV x v->Vals xs us->r x xs H Q ->
  EQ (model X.prog X.w) X.A (call (.builtin id)<|v::us) (EP X χ σ Q) X.xe s
theorem Vals.one:∀{x}{us},Vals [x] us->∃u,us=[u]/\RelV x u
|_,_,.cons r .nil=>⟨_,rfl,r⟩
theorem Vals.rep(h:Vals xs us):∀k,Vals (Do k xs).flatten (Do k us).flatten
|0=>.nil
|k+1=>by rw[A82,A82,B24,B24];exact Vals.append h<|Vals.rep h k
theorem foldl_rep(bp:γ ζ):∀k acc,
 AC3 (λ x1 x2=>x1++x2) acc.toArray (Do k bp.toArray)=(acc++(Do k bp).flatten).toArray
|0,acc=>by simp
|k+1,acc=>by
 have e:acc.toArray++bp.toArray=(acc++bp).toArray:=by simp
 have e2:(acc++bp)++(Do k bp).flatten=acc++(Do (k+1) bp).flatten:=by rw[A82,B24,B06]
 rw[<-e2,<-foldl_rep,<-e,A82,AB6]
theorem Inv.VA{bp AY:γ ζ}(I:Inv X χ σ H s)(hH:H l=AC (.lst xs))
 (e:s.heap.get? l=AC {cls:=.type "list",data:=.seq bp.toArray n}) (hf:f bp.toArray=AY.toArray) (hv:Vals ys AY) (hz:ys.length<=sizeLine) :
 Inv X χ σ (upd H l<|.lst ys) {s with heap:=s.heap.update l<|Obj.mapSeq f,toks:=t'}:=by
 have q:=PySem.IsL.update e f;rw[hf]at q;refine I.write (by rw[hH];exact trivial) (.inl rfl) (λ b' u hb hu=>(A63 _ _<|A07 hb).trans hu) ⟨_,q⟩ ?_;exact⟨hz,AY,_,hv,q⟩
theorem Inv.VC(I:Inv X χ σ H s)(hv:Vals ys bp)(hz:ys.length<=sizeLine):
 Inv X χ σ (upd H s.heap.objs.size<|.lst ys) {s with heap:=s.heap.push {cls:=.type "list",data:=.seq bp.toArray},toks:=t'}:=
 I.laid (λ _ _ q=>v6 _ q) (v4 _) ⟨hz,bp,0,hv,A14 _ rfl⟩
theorem Inv.fresh(I:Inv X χ σ H s):H s.heap.objs.size=At:=I.bY.fresh<|v4 _
theorem Inv.Nm(I:Inv X χ σ H s)(hH:H l=AC (.lst xs)):xs.length<=sizeLine/\∃bp n,Vals xs bp/\xs.length=bp.length/\s.heap.get? l=AC {cls:=.type "list",data:=.seq bp.toArray n}:=by let⟨z,bp,n,r,e⟩:=I.bY l _ hH;exact⟨z,bp,n,r,r.length,e⟩
theorem AD(h:n<=sizeLine):Rs n=AT:=by exact A28 ∅
def Er:V->γ V->Hp->VK->Prop:=λ x vs H Q=>∃l xs y,x=.ref l/\vs=[y]/\H l=AC (.lst xs)/\xs.length<sizeLine/\Q .non (upd H l<|.lst<|xs++[y])
theorem w_:MtM X "list.append" Er:=by intro χ s σ H x vs v us Q I rx rv h;let⟨l,xs,y,rfl,rfl,hH,hz,q⟩:=h;cases rx;let⟨u,rfl,ru⟩:=rv.one;let⟨z,bp,n,r,hl,e⟩:=I.Nm hH;refine A69 F.slot_list_append ⟨_,e,rfl⟩ F.entry_list_append (F.args_list_append_2 _ _) (PySem.list_append l _ n u (by rw[A10];lia)) ⟨e,?_⟩;refine⟨.non,_,I.VA hH e ∅ (r.append<|.cons ru .nil) ?_,rfl,q⟩;rw[A30,List.length_singleton];lia
def Ep:V->γ V->Hp->VK->Prop:=λ x vs H Q=>∃l b xs zs,x=.ref l/\vs=[.ref b]/\H l=AC (.lst xs)/\H b=AC (.lst zs)/\xs.length+zs.length<=sizeLine/\Q .non (upd H l<|.lst<|xs++zs)
theorem Gs:MtM X "list.extend" Ep:=by
 intro χ s σ H x vs v us Q I rx rv h;let⟨l,b,xs,zs,rfl,rfl,hH,hB,hz,q⟩:=h;cases rx;let⟨u,rfl,ru⟩:=rv.one;cases ru;let⟨z,bp,n,r,hl,e⟩:=I.Nm hH;let⟨z2,iF,n2,r2,NY,e2⟩:=I.Nm hB;have C8:bp.toArray.size+iF.toArray.size<=sizeLine:=by rw[A10,A10];lia
 have J3:¬(!bp.toArray.isEmpty&&Rs (bp.toArray.size+iF.toArray.size))=Ch:=by rw[AD C8,AC2];exact A90
 refine A69 F.slot_list_extend ⟨_,e,rfl⟩ F.entry_list_extend (F.args_list_extend_2 _ _)
  (AutoSeq1.list_extend_list_list_0 l _ n b _ n2 J3 (by rw[A10];lia) ∅) ⟨e,e2,?_⟩
 refine⟨.non,_,I.VA hH e ∅ (r.append r2) ?_,rfl,q⟩;rw[A30];lia
def ZP:R2:=λ x y H Q=>∃l k xs,x=.ref l/\y=.int k/\H l=AC (.lst xs)/\-(2^63)<=k/\k<2^63/\xs.length*k.toNat<=sizeLine /\
 ∀p,H p=At->Q (.ref p) (upd H p<|.lst (Do k.toNat xs).flatten)
theorem len_rep{α:Type}(xs:γ α)(k:Nat):(Do k xs).flatten.length=k*xs.length:=by
 induction k with
 |zero=>simp
 |succ k ih=>rw[A82,B24,A30,ih,B25,A92]
theorem Q5:jN X (binaryOp .Mult) ZP:=by
 intro χ s σ H x y v u Q I rx ry h;let⟨l,k,xs,rfl,rfl,hH,h1,h2,hz,q⟩:=h;cases rx;let⟨t,rfl⟩:=ry;let⟨z,bp,n,r,hl,e⟩:=I.Nm hH;have ψ:bp.toArray.size*k.toNat<=sizeLine:=by rw[A10,<-hl];exact hz
 have aag:¬bp.toArray.size*k.toNat>(2^63-1) / 8:=by
  have:(sizeLine)<=(2^63-1) / 8:=by decide
  lia
 have _8:¬(!Builtin.List.listFitsIndex k)=Ch:=by rw[fitsIndex_both h1 h2];exact A90
 have J3:¬Rs (bp.toArray.size*k.toNat)=Ch:=by rw[AD ψ];exact A90
 have RV:AC3 (λ x1 x2=>x1++x2) #[] (Do (if bp.toArray.isEmpty=Ch then 0 else k.toNat) bp.toArray)=(Do k.toNat bp).flatten.toArray:=by
  have f0:=λ m=>by have:=foldl_rep bp m [];rw[B96]at this;exact this
  rw[f0];cases bp with
  |nil=>simp
  |cons a r'=>rw[W1 ∅]
 refine C41 ∅ ⟨_,e,rfl⟩ (λ s'=>B23 s' k t) noFill_list_mul F.fills_int_mul B50 repeat_list F.slot_int_index.lookup
  (A69 B50 (B23 s k t) F.entry_int_rmul (F.args_int_rmul_2 _ _) (int___rmul___int_list k t l bp.toArray n)
   ⟨e,rfl,⟨_,e,rfl⟩,A69 F.slot_list_mul ⟨_,e,rfl⟩ F.entry_list_mul (F.args_list_mul_2 _ _) (AutoListH.list___mul___list_int_3 l bp.toArray n k t _8 aag J3) ⟨e,?_⟩⟩)
 rw[RV];exact⟨.ref _,_,I.VC (r.rep k.toNat) (by rw[len_rep,Nat.mul_comm];exact hz),rfl,q _ I.fresh⟩
end L2
namespace Att
open PySem.W PySem.Calls
theorem sF:∀ns vs,WellAll P h vs (ns.map WData.int)->IntsAre vs ns:=by
 intro ns
 induction ns with
 |nil=>intro vs w;rw[A35]at w;cases w;exact .nil
 |cons n ns ih=>
  intro vs w;rw[f8]at w;cases w with
  |cons a b=>cases a;exact .cons _ _<|ih _ b
theorem F1{l:OpenLaw}(hn:l.most=AC n)
 (NU:l.row.toRowW.claim.pre args=Ch) (_x:WellAll P h vals args) :
 ∃a vs ns,vals=[Value.ref a]/\args=[WData.list (ns.map WData.int)]/\h.get? a=AC {cls:=.type "list",data:=.seq vs.toArray}/\IntsAre vs ns/\ns.length<=n:=by
 have hsh:=(pre_splitW NU).1;have hc:l.pre.holds [] {args:=args}=Ch:=(pre_splitW NU).2;let⟨d,r,rfl,h1,h2⟩:=hasAllW_cons hsh;obtain rfl:=hasAllW_nil h2;let⟨xs,rfl,h3⟩:=hasW_list h1;let⟨ns,rfl⟩:=items_int h3;have ψ:ns.length<=n:=by
  have h4:(WTm.not<|.lt (.lit<|.int<|n)<|.len<|.arg 0).holds [] {args:=[.list (ns.map .int)]}=Ch:=by have h4:=(holds_andW hc).1;rw[hn]at h4;exact h4
  have h5:=condW_of h4<|w_not<|w_lt w_lit<|w_len_list<|w_arg rfl;rw[A05]at h5;refine Nat.le_of_not_lt λ q=>?_;have q':(n)<((ns.length)):=by lia
  first
   |(rw[A44 q']at h5;exact absurd h5 ∅)
   |(simp at h5;lia)
 cases _x with
 |cons w1 w2=>
  cases w2;cases w1 with
  |list ho hall=>exact⟨_,_,ns,rfl,rfl,ho,sF ns _ hall,ψ⟩
theorem F6(l:OpenLaw)(args:γ WData):l.row.toRowW.claim.post args (.bool Ch) args=Ch:=
 postW_of
  (show WShape.has [] _ .bool=Ch by first|rfl|decide|simp[WShape.armsAll])
  (w_eq_bool (w_res rfl) w_lit) rfl
section
variable{K:Frag}
end
end Att
namespace L2
theorem wK:∀{vs}{ns},IntsAre vs ns->Vals (ns.map V.int) vs
|_,_,.nil=>.nil
|_,_,.cons n t h=>.cons ⟨t,rfl⟩<|wK h
def O4(H:Hp):Prop:=∀b,H b=At\/(∃o xs,H b=AC (.eJ o<|.lst xs))\/∃q,H b=AC (.HV q)
def TabAt(K:Da)(x:Str)(b:δ):Prop:=x∈dM/\∃c,PP K x=AC (c,b)
theorem Nr{K:Da}(one:∀x y c P c',x∈dM->y∈dM->PP K x=AC (c,P)->PP K y=AC (c',P)->x=y)(h:TabAt K x b)(g:TabAt K y b):x=y:=by let⟨h1,c,h2⟩:=h;let⟨g1,d,g2⟩:=g;exact one x y c b d h1 g1 h2 g2
open Classical in
noncomputable def Cm(K:Da)(a:δ)(u:HO)(s:Bool):Hp:=λ b=>if h:∃x,TabAt K x b then AC (.HV<|jK h.choose)else if s=Ch/\b=a then AC u else At
theorem JI{P:ο}{w:ξ}{K:FS}{mg mb:Str->ε ζ}{CX:S6}{k:Nat}{fa a:δ}{fd:υ}{x:Str}{sp:Sp}{s₁:θ}{vs:γ ζ}{ns:γ Int}
 (KX:K.In s₁.heap) (JY:s₁.heap.Ns mainGlobals mg) (hb:s₁.heap.Ns builtinsNs mb) (hbb:∀x:Str,x≠ "__name__" -> mb x=bootBuiltins x) (_U:s₁.heap.NoLimit) (hg:s₁.gens=#[])
 (ha:s₁.heap.get? a=AC {cls:=.type "list",data:=.seq vs.toArray}) (hi:IntsAre vs ns) (hl:ns.length<=sizeLine) (hr:bL k callerA)
 (F:∀base:ν,K.In base->base.Ns mainGlobals mg->eY P w K mg base CX k fa fd [x] sp) (mF:∀(s:θ)(u:ζ),BindsTo s fd ⟨[u],[]⟩ [(x,u)])
 (BV:∀H:Hp,O4 H->jE K H a (ns.map V.int)->sp [.ref a] H (λ v _=>v=.bl Ch) λ _ _ _=>False)
 (hCX:∀H e s',CX [] H s₁ (λ _ _ _=>False) e s'->False)
 (one:∀x y c P c',x∈dM->y∈dM->PP K x=AC (c,P)->PP K y=AC (c',P)->x=y)
 (tab:∀x∈dM,∀c P,PP K x=AC (c,P)->(AC5 s₁.heap c P/\s₁.heap.get? P=AC (im #[]))/\s₁.heap.TableAt c P #[]) (bm:BMain mg s₁.heap) (lg:PySem.W.noTabs K=Ch) :
 codeAny (model P w) callerA (.call (.ref fa) ⟨[.ref a],[]⟩) (λ r s'=>r=.ok (.ret<|.bool Ch)/\OldK s₁.heap s'.heap/\s'.os=s₁.os/\AllBare s'.gens) s₁:=by
 have rv:=wK hi;have _h:=hi.length;have L6:∀{b}{y},TabAt K y b->s₁.heap.get? b=AC (im #[]):=λ {b y} ⟨h1,c,h2⟩=>(tab y h1 c b h2).1.2;have Pp:∀{b}{o},s₁.heap.get? b=AC o->o≠im #[]->¬∃y,TabAt K y b:=λ {b o} e n ⟨y,h⟩=>by have:=L6 h;rw[e]at this;exact n<|A04 this
 have at1:∀{b}{u}{q}{y},TabAt K y b->Cm K a u q b=AC (.HV<|jK y):=λ {b u q y} h=>by
  have hh:∃x,TabAt K x b:=⟨y,h⟩
  unfold Cm;rw[A93 hh];rw[Nr one hh.choose_spec h]
 have at2:∀{b}{u}{q},(¬∃y,TabAt K y b)->Cm K a u q b=if q=Ch/\b=a then AC u else At:=λ {b u q} h=>by unfold Cm;rw[dif_neg h]
 -- from an abstract heap in abp nothing but Qp Qu and Qp tables may be tracked
 have core:∀u q,(∃o xs,u=.eJ o (.lst xs))->jE K (Cm K a u q) a (ns.map V.int)->(q=Ch->eF P w (Cm K a u q) s₁.heap a u)->(q=Ch->K.lookup a=At) ->
  codeAny (model P w) callerA (.call (.ref fa) ⟨[.ref a],[]⟩) (λ r s'=>r=.ok (.ret<|.bool Ch)/\OldK s₁.heap s'.heap/\s'.os=s₁.os/\AllBare s'.gens) s₁:=by
  intro u q hu hS hua hK;generalize hHH:Cm K a u q=H at hS hua;have na:¬∃y,TabAt K y a:=Pp ha λ z=>by cases z
  have of:∀{b}{v},H b=AC v->(∃y,TabAt K y b/\v=.HV (jK y))\/(q=Ch/\b=a/\v=u):=λ {b v} e=>by
   by_cases hb:∃y,TabAt K y b
   .let⟨y,hy⟩:=hb;rw[<-hHH,at1 hy]at e;cases e;exact .inl ⟨y,hy,rfl⟩
   .rw[<-hHH,at2 hb]at e;split at e
    .rename_i hc;cases e;exact .inr ⟨hc.1,hc.2,rfl⟩
    .cases e
  have bY:l0 P w H s₁.heap:=λ b v e=>by
   rcases of e with⟨y,hy,rfl⟩|⟨hq,rfl,rfl⟩
   .exact⟨#[],L6 hy,trivial,λ pos cv z=>nomatch z⟩
   .exact hua hq
  have hO:O4 H:=λ b=>by
   cases e:H b with
   |none=>exact .inl rfl
   |some v=>
    rcases of e with⟨y,_,rfl⟩|⟨_,_,rfl⟩
    .exact .inr<|.inr ⟨_,rfl⟩
    .let⟨o,xs,rfl⟩:=hu;exact .inr<|.inl ⟨o,xs,rfl⟩
  have s_:∀{b}{o},s₁.heap.get? b=AC o->H b=At->(vZ s₁.heap H).get? b=AC o:=λ e n=>J5 e n;have Rj:∀{b}{o},s₁.heap.get? b=AC o->(∀xs n,o.data≠.seq xs n)->(∀xs,o.data≠.fields xs\/o.cls≠.none)->H b=At:=λ {b o} e d d2=>by
   cases r:H b with
   |none=>rfl
   |some v=>
    rcases of r with⟨y,hy,_⟩|⟨_,hba,_⟩
    .rw[L6 hy]at e;cases e;rcases d2 #[]with z|z
     .exact absurd rfl z
     .exact absurd rfl z
    .rw[hba,ha]at e;cases e;exact absurd rfl<|d _ _
  have Yc:∀{b:δ}{m:Str->ε ζ},s₁.heap.Ns b m->(vZ s₁.heap H).Ns b m:=λ {b m} ⟨o,es,ep,e,d,r⟩=>⟨o,es,ep,s_ e (Rj e (λ xs n z=>by rw[d]at z;cases z) λ xs=>.inl λ z=>by rw[d]at z;cases z),d,r⟩
  have hKb:K.In (vZ s₁.heap H):=λ b o e=>s_ (KX b o e) (by
   cases r:H b with
   |none=>rfl
   |some v=>
    rcases of r with⟨y,hy,_⟩|⟨hq,hba,_⟩
    .have e2:=KX b o e;rw[L6 hy]at e2;cases e2;have h2:=A36.mp lg _<|PySem.W.mem_of_lookupK e;exact absurd (show AT=Ch from h2) A90
    .rw[hba,hK hq]at e;cases e)
  have hM:Mod K mg (vZ s₁.heap H):=⟨hKb,Yc JY,⟨mb,Yc hb,hbb⟩,let ⟨mc,h1,h2⟩:=_U;⟨mc,Yc h1,h2⟩⟩
  have hT:xM K mg (vZ s₁.heap H) H:=λ y hy c p e=>by let⟨⟨⟨o,vs,file,tf,flags,tg,inF,text,tt,e1,e2,e3,r⟩,_⟩,_⟩:=tab y hy c p e;let⟨bmA,ob,b1,b2,b3,b4,b5,b6⟩:=bm;refine⟨by rw[<-hHH];exact at1 ⟨hy,c,e⟩,⟨o,vs,file,tf,flags,tg,inF,text,tt,s_ e1 (Rj e1 (λ xs n z=>by rw[e3]at z;cases z) λ xs=>.inr λ z=>by rw[e2]at z;cases z),e2,e3,r⟩,bmA,ob,b1,b2,s_ b3 (Rj b3 (λ xs n z=>by rw[b6]at z;cases z) λ xs=>.inr λ z=>by rw[b4]at z;cases z),b4,b5,b6⟩
  have e0:BN P w K mg (vZ s₁.heap H) callerA [] s₁ H:=⟨rfl,hM,λ b o e=>MU e,B84<|GS _ _,trivial,λ b hb=>absurd (show b∈([]:γ δ)from hb) ∅,bY,.of_eq hg,hT⟩
  refine A74 ((F _ hKb<|Yc JY).run callerA [] s₁ H ⟨[.ref a],[]⟩ [.ref a] [.ref a] _ _ hr e0 (mF s₁<|.ref a) (.cons rfl .nil)<|BV H hO hS) λ r s' h=>?_;cases r with
  |error e=>exact(hCX H e s' h).elim
  |ok fl=>
   cases fl with
   |next=>exact GM h
   |brk=>exact GM h
   |cont=>exact GM h
   |ret u'=>
    let⟨v,H',os,bare,un,V7,r',q'⟩:=h;have q':v=.bl Ch:=q';subst q';obtain rfl:u'=Value.bool Ch:=r';refine⟨rfl,⟨λ b o e=>?_,λ b o e=>un.there b o e ∅⟩,os,bare⟩;cases r:H b with
    |none=>exact .inl<|un.keep b o e r (by intro z;exact absurd (show b∈([]:γ δ)from z) ∅) ∅
    |some v=>
     rcases of r with⟨y,hy,rfl⟩|⟨_,_,rfl⟩
     .have r2:=un.oa b (.HV<|jK y) trivial r;let⟨ps,g1,_⟩:=V7 b _ r2;let⟨h1,c,h2⟩:=hy;have tb:=(tab y h1 c b h2).2;have e3:o={cls:=.none,data:=.fields #[]}:=A04<|e.symm.trans tb.2;subst e3;exact .inr<|.inl ⟨tb.isCodeTable,rfl,#[],ps,rfl,by rw[g1];simp⟩
     .let⟨ob,xs,rfl⟩:=hu;have z2:=un.qX b ob _ r;let⟨e1,_⟩:=bY b _ r;let⟨e2,_⟩:=V7 b _ z2;rw[e]at e1;cases e1;exact .inl e2
 have na:¬∃y,TabAt K y a:=Pp ha λ z=>by cases z
 cases hk:K.lookup a with
 |some o=>
  -- Qp Qu is one of Qp Jv own objects
  have e:=KX a o hk;rw[ha]at e;cases e;exact core (.eJ {cls:=.type "list",data:=.seq vs.toArray}<|.lst []) AT ⟨_,_,rfl⟩ (.inr ⟨_,vs.toArray,_,hk,rfl,rfl,rfl,by rw[A10,_h];exact hl,by simpa using rv⟩) (λ z=>nomatch z) λ z=>nomatch z
 | none=>refine core (.eJ {cls:=.type "list",data:=.seq vs.toArray}<|.lst<|ns.map V.int) Ch ⟨_,_,rfl⟩ (.inl<|.inr ⟨{cls:=.type "list",data:=.seq vs.toArray},by rw[at2 na];exact M2 ⟨rfl,rfl⟩⟩) (λ _=>⟨ha,by rw[A05];exact hl,vs,_,rv,ha⟩) λ _=>hk
def bE(s:η):Arguments:=match s with
|.FunctionDef _ a _ _ _ _ _ _ _ _=>a
|_=>{posonlyargs:=[],args:=[],vararg:=At,kwonlyargs:=[],kw_defaults:=[],kwarg:=At,defaults:=[]}
def aL(s:η):γ η:=match s with
|.FunctionDef _ _ b _ _ _ _ _ _ _=>b
|_=>[]
def aj(s:η):ς:=match s with
|.FunctionDef _ _ _ _ _ _ sc _ _ _=>sc
|_=>{kind:=.function,names:=[],isGenerator:=AT,isCoroutine:=AT}
abbrev iV:S6:=λ _ _ _ _ _ _=>False
abbrev E0:XK:=λ _ _ _=>False
theorem uf:Passes iV X E0:=λ _ _ _ _ _ _ _ h=>h.elim
structure BM(K:Da)(x qual:Str)(st:Stmt)(f:Addr)(fd:FuncData):Prop where
 ex:∃(oc:Value)(od:Option Addr)(kV doc pm:Value)(an:Option Addr)(bf ct:Value)(ui:Array (Option Value)),
  fd=NE x qual (bE st) (aL st) (aj st) .none kV doc pm an bf ct/\K.lookup f=AC ⟨oc,od,.func fd,ui⟩/\On K bf qual=Ch
 kp:FM K (.ref f)=Ch
section
variable{K:Da}
theorem BM.ok{st:η}(F:BM K x qual st f fd)(S:a9 N ps (aj st))(len:∀vs H Q E,sp vs H Q E->vs.length=ps.length)
 (A5:∀bf A outer s H vs Q E,bL k (A.deeper<|envOfC qual (aj st) s.heap.objs.size f bf)->sp vs H Q E ->
  ∃t,rp (d6 iV P w K mg base N qual (aj st) f bf A outer s H E).gy (aL st) t/\t {nx:=λ _ H'=>Q .non H',rt:=Q} (start N vs) H):eY P w K mg base iV (k+1) f fd ps sp:=by
 let⟨oc,od,kV,doc,pm,an,bf,ct,ui,rfl,lk,n4⟩:=F.ex;refine uO lk n4 S len λ A outer s H vs Q E hr BV=>?_;let⟨t,h,q⟩:=A5 bf A outer s H vs Q E hr BV;exact⟨t,h.gy,q⟩
theorem BM.binds{st:η}(F:BM K x qual st f fd)
 (h:∀kV doc pm an bf ct us,us.length=ps.length->bindArgs (NE x qual (bE st) (aL st) (aj st) .none kV doc pm an bf ct) ⟨us,[]⟩=pure (ps.zip us)):Binds K fd ps []:=by
 let⟨oc,od,kV,doc,pm,an,bf,ct,ui,rfl,lk,n4⟩:=F.ex;exact .all<|h kV doc pm an bf ct
theorem qW{st:η}{kV doc pm bf ct:ζ}(l:K.lookup f=AC ⟨oc,od,.func<|PySem.W.fnOf x qual (bE st) (aL st) (aj st) .none kV doc pm an bf ct,ui⟩)
 (c:On K bf qual=Ch) (k:FM K (.ref f)=Ch):BM K x qual st f (NE x qual (bE st) (aL st) (aj st) .none kV doc pm an bf ct):=⟨⟨oc,od,kV,doc,pm,an,bf,ct,ui,rfl,l,c⟩,k⟩
end
theorem pv(i:Nat)(hN:X.N[i]?=AC x:=by rfl)(hv:Hl X.env.scope x:=by first| exact AD3 rfl| exact pc<|Or.inl rfl| exact pc<|Or.inr rfl)(hd:(x==("__debug__"))=AT:=by decide)
 (n4:(x==("__classdict__"))=AT:=by decide):PE X (.Name x pos) (mf i):=k9 hN hv hd n4
def aJ(H H':Hp):Prop:=∀b o,H b=AC o->H' b=AC o
theorem aJ.refl(H:Hp):aJ H H:=λ _ _ h=>h
theorem aJ.trans(a:aJ H H1)(b:aJ H1 H2):aJ H H2:=λ c o h=>b c o<|a c o h
theorem aJ.free(e:aJ H H')(h:H' l=Option.none):H l=Option.none:=by
 cases q:H l with
 |none=>rfl
 |some o=>rw[e l o q]at h;cases h
theorem aJ.seq{K:Da}(e:aJ H H')(h:jE K H a xs):jE K H' a xs:=by
 rcases h with(h|⟨o,h⟩)|h
 .exact .inl<|.inl<|e _ _ h
 .exact .inl<|.inr ⟨o,e _ _ h⟩
 .exact .inr h
section
variable{κ:Type}[DecidableEq κ]
def qA(aV:γ (κ×V))(k:κ):ε V:=(aV.find? λ kv=>decide<|kv.1=k).map (·.2)
def putK(aV:γ (κ×V))(k:κ)(v:V):γ (κ×V):=
 if(aV.any λ kv=>decide<|kv.1=k)=Ch then aV.map (λ kv=>if kv.1=k then(kv.1,v)else kv)else aV++[(k,v)]
def iI(aV:γ (κ×V))(k:κ):γ (κ×V):=aV.filter λ kv=>decide<|kv.1≠k
theorem o_{k:κ}(e:p.1=k):qA (p::r) k=AC p.2:=by simp[qA,e]
theorem ma{k:κ}(e:¬p.1=k):qA (p::r) k=qA r k:=by simp[qA,e]
theorem zO(k:κ):∀aV,(aV.any λ kv=>decide<|kv.1=k)=(qA aV k).isSome
|[]=>rfl
|p::r=>by
 rw[B07];by_cases e:p.1=k
 .simp only[o_ e,A44 e,Bool.true_or,Option.isSome_some]
 .rw[ma e,A28 e,Bool.false_or];exact zO k r
theorem rQ(aV:γ _)(k:κ)(v:V):(putK aV k v).length<=aV.length+1:=by
 unfold putK;split
 .rw[A05];lia
 .rw[A30,A33,B97];lia
theorem l4.kD(r:l4 o u):o.isSome=u.isSome:=by
 cases o with
 |none=>cases u with
  |none=>rfl
  |some _=>exact(r).elim
 |some _=>cases u with
  |none=>exact(r).elim
  |some _=>rfl
theorem KV.val(r:KV aV vs)(k:κ):l4 (qA aV k) (valueAt vs k):=by
 induction r with
 |nil=>exact IR
 |@cons p q ps qs h t ih=>
  let⟨h1,h2⟩:=h;by_cases e:p.1=k
  .have e':=h1.symm.trans e;have b:valueAt (q::qs) k=AC q.2:=by simp[valueAt,e']
   rw[o_ e,b];exact h2
  .have e':¬q.1=k:=λ z=>e<|h1.trans z;have b:valueAt (q::qs) k=valueAt qs k:=by simp[valueAt,e']
   rw[ma e,b];exact ih
theorem KV.any(r:KV aV vs)(k:κ):(aV.any λ kv=>decide<|kv.1=k)=vs.any λ kv=>decide (kv.1=k):=by
 induction r with
 |nil=>rfl
 |cons h t ih=>rw[B07,B07,ih,h.1]
theorem KV.Qx(r:KV aV vs)(k:κ)(ry:RelV y u):
 KV (aV.map λ kv=>if kv.1=k then(kv.1,y)else kv) (vs.map λ kv=>if kv.1=k then(kv.1,u)else kv):=by
 induction r with
 |nil=>exact .nil
 |@cons p q ps qs h t ih=>
  rw[f8,f8];refine .cons ?_ ih;let⟨h1,h2⟩:=h;by_cases e:p.1=k
  .rw[M2 e,M2<|h1.symm.trans e];exact⟨h1,ry⟩
  .rw[W1 e,W1 λ z=>e<|h1.trans z];exact⟨h1,h2⟩
theorem KV.put(r:KV aV vs)(k:κ)(ry:RelV y u):KV (putK aV k y) (stored vs k u):=by
 unfold putK stored;rw[r.any];by_cases e:(vs.any λ kv=>decide<|kv.1=k)=Ch
 .rw[M2 e,M2 e];exact r.Qx k ry
 .rw[W1 e,W1 e];exact Paired.snoc r ⟨rfl,ry⟩
theorem KV.drop(r:KV aV vs)(k:κ):KV (iI aV k) (without vs k):=by
 unfold iI without
 induction r with
 |nil=>exact .nil
 |@cons p q ps qs h t ih=>
  let⟨h1,h2⟩:=h;rw[AA4,AA4];by_cases e:p.1=k
  .have a:¬decide (p.1≠k)=Ch:=by simp[e]
   have b:¬decide (q.1≠k)=Ch:=by simp[h1.symm.trans e]
   rw[W1 a,W1 b];exact ih
  .have e':¬q.1=k:=λ z=>e<|h1.trans z;have a:decide (p.1≠k)=Ch:=by simp[e]
   have b:decide (q.1≠k)=Ch:=by simp[e']
   rw[M2 a,M2 b];exact .cons ⟨h1,h2⟩ ih
theorem KV.keys{vs:γ (κ×ζ)}(r:KV aV vs):aV.map (·.1)=vs.map (·.1):=by
 induction r with
 |nil=>rfl
 |cons h t ih=>rw[f8,f8,ih,h.1]
theorem KV.length{vs:γ (κ×ζ)}(r:KV aV vs):aV.length=vs.length:=B42 r
theorem KJ(aV:γ _)(k:κ):(iI aV k).length<=aV.length:=A70 _ _
end
theorem xm(r:RelV (kV k) u):(eR P w).is k u=Ch:=by
 cases k with
 |inl i=>obtain⟨t,e⟩:=(r);subst e;exact AM P w i t
 |inr x=>obtain⟨t,e⟩:=(r);subst e;exact AL P w x t
theorem xo:∀{ks}{us},Vals (ks.map kV) us->ItemsAre (eR P w) ks us
|[],_,r=>by rw[A35]at r;cases r;exact .nil
|k::ks,_,r=>by
 rw[f8]at r;cases r with
 |cons h t=>exact .cons (xm h)<|xo t
abbrev KT(H:Hp):γ (γ Key×V)->γ (γ Key×δ×ζ)->Prop:=Paired λ p q=>p.1=q.1/\H q.2.1=AC (.tup<|p.1.map kV)/\RelV p.2 q.2.2
theorem KT.val(r:KT H aV xs)(k:γ Key):l4 (qA aV k) ((atKey xs k).map (·.2)):=by
 induction r with
 |nil=>exact IR
 |@cons p q ps qs h t ih=>
  let⟨h1,_,h2⟩:=h;by_cases e:p.1=k
  .have e':=h1.symm.trans e;have b:atKey (q::qs) k=AC q.2:=by simp[atKey,e']
   rw[o_ e,b];exact h2
  .have e':¬q.1=k:=λ z=>e<|h1.trans z;have b:atKey (q::qs) k=atKey qs k:=by simp[atKey,e']
   rw[ma e,b];exact ih
theorem KT.Qx(r:KT H aV xs)(k:γ Key)(ry:RelV y u):
 KT H (aV.map λ kv=>if kv.1=k then(kv.1,y)else kv) (xs.map<|putAt k u):=by
 induction r with
 |nil=>exact .nil
 |@cons p q ps qs h t ih=>
  rw[f8,f8];refine .cons ?_ ih;let⟨h1,h2,h3⟩:=h;unfold putAt;by_cases e:p.1=k
  .rw[M2 e,M2<|h1.symm.trans e];exact⟨h1,h2,ry⟩
  .rw[W1 e,W1 λ z=>e<|h1.trans z];exact⟨h1,h2,h3⟩
theorem KT.put(r:KT H aV xs)(k:γ Key)(hb:H b=AC (.tup<|k.map kV))(ry:RelV y u):
 KT H (putK aV k y) (storedH xs k b u):=by
 have e:(aV.any λ kv=>decide<|kv.1=k)=(atKey xs k).isSome:=by rw[zO,(r.val k).kD,B98]
 unfold putK storedH;rw[e];by_cases q:(atKey xs k).isSome=Ch
 .rw[M2 q,M2 q];exact r.Qx k ry
 .rw[W1 q,W1 q];exact Paired.snoc r ⟨rfl,hb,ry⟩
theorem KT.keeps(r:KT H aV xs)(ht:∀b ys,H b=AC (.tup ys)->H' b=AC (.tup ys)):KT H' aV xs:=
 Paired.Gy r λ _ _ z=>⟨z.1,ht _ _ z.2.1,z.2.2⟩
section
variable{P:ο}{w:ξ}{H:Hp}{h:ν}{a:δ}
theorem Pg(ok:l0 P w H h)(e:Rd H a u):eF P w H h a u:=e.ok ok
theorem Bs(ok:l0 P w H h)(e:Rd H a (.dK aV)):aV.length<=sizeLine/\(a==sysModules)=AT/\∃vs,KV aV vs/\h.DictOf (eR P w) a vs:=
 Pg ok e
theorem PY(ok:l0 P w H h)(e:H a=AC (.dK aV)):aV.length<=sizeLine/\(a==sysModules)=AT/\∃vs,KV aV vs/\h.DictOf (eR P w) a vs:=Bs ok<|.inl e
theorem uB(ok:l0 P w H h)(e:H a=AC (.tup<|ks.map kV)):(tupleKind<|eR P w).is h ks a:=by
 obtain⟨_,bp,r,tn⟩:=(ok a _ e)
 let⟨o,h1,h2,n,h3⟩:=tn.is;exact⟨o,_,n,h1,h2,h3,by simpa using xo r⟩
theorem Bo(ok:l0 P w H h)(e:Rd H a (.dT aV)):aV.length<=sizeLine/\(a == sysModules)=AT /\
 ∃xs,KT H aV xs/\h.DictOfH (tupleKind<|eR P w) a xs:=by
 obtain⟨z,y,xs,r,o,es,ep,h1,h2,h3,h4,h5⟩:=(Pg ok e)
 refine⟨z,y,xs,r,o,es,ep,h1,h2,h3,h4,λ x hx=>?_,h5⟩;have all:∀{l}{m},KT H l m->∀x∈m,(tupleKind<|eR P w).is h x.1 x.2.1:=by
  intro l m q
  induction q with
  |nil=>intro x hx;exact nomatch hx
  |@cons p q ps qs hq t ih=>
   intro x hx;rcases A02.mp hx with e|hx
   .subst e;exact uB ok (by rw[<-hq.1];exact hq.2.1)
   .exact ih x hx
 exact all r x hx
theorem qc(ok:l0 P w H h)(e:H a=AC (.dT aV)):aV.length<=sizeLine/\(a==sysModules)=AT /\
 ∃xs,KT H aV xs/\h.DictOfH (tupleKind<|eR P w) a xs:=Bo ok<|.inl e
end
def BO(H:Hp)(a:δ)(y:V)(r:ε V):Prop:=
 (∃aV k,Rd H a (.dK aV)/\y=kV k/\r=qA aV k)\/∃aV k b,Rd H a (.dT aV)/\y=.ref b/\H b=AC (.tup<|k.map kV)/\r=qA aV k
def Xk(H:Hp)(a:δ)(y v:V)(H':Hp):Prop:=
 (∃aV k,H a=AC (.dK aV)/\y=kV k/\aV.length<sizeLine/\H'=upd H a (.dK<|putK aV k v)) \/
 ∃aV k b,H a=AC (.dT aV)/\y=.ref b/\H b=AC (.tup<|k.map kV)/\aV.length<sizeLine/\H'=upd H a (.dT<|putK aV k v)
section
variable{X:Cx}{χ:γ (δ×μ)}{σ:St}{H:Hp}{s:θ}{a:δ}{y v:V}{u r:ζ}{o:ε V}{A:τ}{E:ζ->θ->Prop}
theorem Inv.big(I:Inv X χ σ H s):sysModules<s.heap.objs.size:=by have h:=(I.mod.glob.keeps I.bk).lt;exact Nat.lt_trans ∅ h
theorem G?(hu:A.units+1<cLine)(I:Inv X χ σ H s)(g:BO H a y (AC v))(ry:RelV y u)(h:∀w' s',Inv X χ σ H s'->RelV v w'->Q w' s'):
 EQ (model X.prog X.w) A (getItem (.ref a) u) Q E s:=by
 rcases g with⟨aV,k,e,ey,l⟩|⟨aV,k,b,e,ey,eb,l⟩
 .subst ey;let⟨z,hd,vs,rel,dd⟩:=Bs I.bY e;let⟨w',hw,F3⟩:=l4.some_of (v:=v) (o:=valueAt vs k) (by rw[l];exact rel.val k);exact wpAny_getItem_of (xm ry) dd.mapOf hw<|h w' _ (I.tok _) F3
 .subst ey;cases (ry);let⟨z,hd,xs,rel,dd⟩:=Bo I.bY e;let⟨w',hw,F3⟩:=l4.some_of (v:=v) (o:=(atKey xs k).map (·.2)) (by rw[l];exact rel.val k);let⟨p,hp,Ys⟩:=B51.mp hw;refine wpAny_getItem_heap (B52 hu) (uB I.bY eb) dd hp ?_;rw[Ys];exact h w' _ (I.tok _) F3
theorem aaV(hu:A.units+1<cLine)(I:Inv X χ σ H s)(g:BO H a y o)(ry:RelV y u)(h:∀s',Inv X χ σ H s'->Q (.bool o.isSome) s'):
 EQ (model X.prog X.w) A (compareOp .In u<|.ref a) Q E s:=by
 rcases g with⟨aV,k,e,ey,l⟩|⟨aV,k,b,e,ey,eb,l⟩
 .subst ey;let⟨z,hd,vs,rel,dd⟩:=Bs I.bY e;refine wpAny_in_of (xm ry) hd dd.mapOf ?_;rw[<-(rel.val k).kD,<-l];exact h _<|I.tok _
 .subst ey;cases (ry);let⟨z,hd,xs,rel,dd⟩:=Bo I.bY e;refine wpAny_in_heap (B52 hu) (uB I.bY eb) hd dd ?_;have q:=(rel.val k).kD;rw[B98]at q;rw[<-q,<-l];exact h _<|I.tok _
theorem OB(hu:A.units+1<cLine)(I:Inv X χ σ H s)(g:BO H a y o)(ry:RelV y u)(h:∀s',Inv X χ σ H s'->Q (.bool<|!o.isSome) s'):
 EQ (model X.prog X.w) A (compareOp .NotIn u<|.ref a) Q E s:=by
 rcases g with⟨aV,k,e,ey,l⟩|⟨aV,k,b,e,ey,eb,l⟩
 .subst ey;let⟨z,hd,vs,rel,dd⟩:=Bs I.bY e;refine wpAny_notIn_of (xm ry) hd dd.mapOf ?_;rw[<-(rel.val k).kD,<-l];exact h _<|I.tok _
 .subst ey;cases (ry);let⟨z,hd,xs,rel,dd⟩:=Bo I.bY e;refine wpAny_notIn_heap (B52 hu) (uB I.bY eb) hd dd ?_;have q:=(rel.val k).kD;rw[B98]at q;rw[<-q,<-l];exact h _<|I.tok _
theorem y_(I:Inv X χ σ H s)(mu:Xd (H a))(hs:IN a s.heap h')(he:∃q,h'.get? a=AC q)(new:eF X.prog X.w (upd H a ob) h' a ob):
 Inv X χ σ (upd H a ob) {s with heap:=h',toks:=t'}:=
 I.write mu (.inl rfl) (λ b q hb z=>(hs.2 b hb).trans z) he new
theorem KP(z:aV.length<=sizeLine)(hd:(a==sysModules)=AT)(rel:KV aV vs)(dd:h'.DictOf (eR P w) a vs):
 eF P w H' h' a (.dK aV):=⟨z,hd,vs,rel,dd⟩
theorem G!(hu:A.units+1<cLine)(I:Inv X χ σ H s)(g:Xk H a y v H')(ry:RelV y u)(rv:RelV v r)(h:∀s',Inv X χ σ H' s'->Q () s'):
 EQ (model X.prog X.w) A (setItem (.ref a) u r) Q E s:=by
 rcases g with⟨aV,k,e,ey,l,eH⟩|⟨aV,k,b,e,ey,eb,l,eH⟩
 .subst ey eH;let⟨z,hd,vs,rel,dd⟩:=PY I.bY e;have hz:vs.length<=sizeLine:=by rw[<-rel.length];exact z
  have hl:(putK aV k v).length<=sizeLine:=by have:=rQ aV k v;lia
  refine wpAny_setItem_pairs (xm ry) dd λ h' PZ hs=>h _ ?_;have he:∃q,h'.get? a=AC q:=let ⟨q,_,_,hq,_⟩:=PZ;⟨q,hq⟩;exact y_ I (by rw[e];exact IR) hs he<|KP hl hd (rel.put k rv) PZ
 .subst ey eH;cases (ry);let⟨z,hd,xs,rel,dd⟩:=qc I.bY e;have hz:xs.length<=sizeLine:=by rw[<-B42 rel];exact z
  have hl:(putK aV k v).length<=sizeLine:=by have:=rQ aV k v;lia
  refine wpAny_setItem_heap (B52 hu) (uB I.bY eb) dd λ h' PZ hs=>h _ ?_;let⟨q,es,ep,hq,h2,h3,h4,_,h5⟩:=PZ;refine y_ I (by rw[e];exact IR) hs ⟨q,hq⟩ ⟨hl,hd,_,(rel.put k eb rv).keeps λ c ys ec=>?_,q,es,ep,hq,h2,h3,h4,h5⟩;rw[aD<|Pq ec e λ z=>nomatch z];exact ec
end
section
variable{X:Cx}{σ:St}{H:Hp}{s:θ}{a:δ}{aV:γ (Key×V)}{k:Key}{u:ζ}{A:τ}{E:ζ->θ->Prop}
theorem WU(I:Inv X χ σ H s)(e:H a=AC (.dK aV))(ry:RelV (kV k) u)(l:qA aV k=AC v)(hm:more=[]\/∃x,more=[x])
 (h:∀w' s',Inv X χ σ (upd H a<|.dK<|iI aV k) s'->RelV v w'->Q w' s'):EQ (model X.prog X.w) A (call (.builtin "dict.pop")<|.ref a::u::more) Q E s:=by
 let⟨z,hd,vs,rel,dd⟩:=PY I.bY e;let⟨w',hw,F3⟩:=l4.some_of (v:=v) (o:=valueAt vs k) (by rw[<-l];exact rel.val k);have hp:(keyPart u).isSome=Ch:=by
  cases k with
  |inl i=>obtain⟨t,q⟩:=(ry);subst q;rfl
  |inr x=>obtain⟨t,q⟩:=(ry);subst q;rfl
 have ha:argsOk "dict.pop" ⟨.ref a::u::more,[]⟩:=by
  rcases hm with q|⟨x,q⟩
  .subst q;exact PySem.F.args_dict_pop_2 _ _
  .subst q;exact PySem.F.args_dict_pop_3 _ _ _
 refine call_meetsIn C42 dd.typeIs PySem.F.entry_dict_pop ha (meets_dict_pop_there _ a (xm ry) more hm hp)
  ⟨vs,w',dd,by rw[<-rel.length];exact z,hw,λ h' PZ hs=>h w' _ ?_ F3⟩
 have he:∃q,h'.get? a=AC q:=let ⟨q,_,_,hq,_⟩:=PZ;⟨q,hq⟩;exact y_ I (by rw[e];exact IR) hs he<|KP (A15 (KJ aV k) z) hd (rel.drop k) PZ
end
def SU(i:ι):Prop:=∀ov iv,subscripted i AT ov iv=operate [ov,iv] (getItem ov iv)
theorem Ma{T id:String}
 (hl:typeLookup (.type T) "__getitem__"=pure (AC<|.builtin id)) (hs:SU slice)
 (h:EQ (model prog w) A (eval value env) (λ o s₁=>EQ (model prog w) A (eval slice env) (λ i s₂=>s₂.TypeIs o T/\EQ (model prog w) A (getItem o i) Q E s₂) E s₁) E s) :
 EQ (model prog w) A (eval (.Subscript value slice pos) env) Q E s:=by
 refine Subscript_<|A19 h (λ o s₁ h₁=>A19 h₁ (λ i s₂ h₂=>?_) λ _ _ x=>x) λ _ _ x=>x;let⟨hT,h₂⟩:=h₂;refine T0 ?_;rw[getitemInPython_of_ne hT.not_modules];refine T0<|wpAny_specialOf hT hl ?_;have fin:EQ (model prog w) A (subscripted slice AT o i) (λ r s₃=>EQ (model prog w) A (letTemporaryGo value o r>>=λ _=>pure r) Q E s₃) E s₂:=by rw[hs];exact wpAny_operating<|A19 h₂ (λ r s₃ h₃=>T0<|wpAny_letTemporaryGo<|P3 h₃) λ _ _ x=>x
 first
  |exact P3<|T0 fin
  |exact T0 _
  |exact T0 fin
theorem Bw(I:Inv X χ σ H s)(g:BO H a y o):s.TypeIs (.ref a) "dict":=by
 rcases g with⟨aV,k,e,_,_⟩|⟨aV,k,b,e,_,_,_⟩
 .let⟨_,_,vs,_,dd⟩:=Bs I.bY e;exact dd.typeIs
 .let⟨_,_,xs,_,dd⟩:=Bo I.bY e;exact dd.typeIs
def Uq(td ty:TE):TE:=λ σ H Q=>td σ H λ x H1=>ty σ H1 λ y H2=>∃a v,x=.ref a/\BO H2 a y (AC v)/\Q v H2
def Zk(ty td:TE):TE:=λ σ H Q=>ty σ H λ y H1=>td σ H1 λ x H2=>∃a o,x=.ref a/\BO H2 a y o/\Q (.bl o.isSome) H2
def L?(ty td:TE):TE:=λ σ H Q=>ty σ H λ y H1=>td σ H1 λ x H2=>∃a o,x=.ref a/\BO H2 a y o/\Q (.bl<|!o.isSome) H2
def UD(td ty tv:TE):TS:=λ D σ H=>tv σ H λ v H1=>td σ H1 λ x H2=>ty σ H2 λ y H3=>∃a H4,x=.ref a/\Xk H3 a y v H4/\D.nx σ H4
section
variable{X:Cx}{o i e value:ι}{pos pos' ady:Pos}{td ty tv:TE}
theorem MF(hu:X.A.units+1<cLine)(ho:PE X o td)(hi:PE X i ty)(hs:SU i):PE X (.Subscript o i pos) (Uq td ty):=by intro χ s σ H Q I h;refine Ma PySem.F.slot_dict_getitem.lookup hs<|cG (ho χ s σ H _ I h) λ u s1 ⟨x,H1,I1,rx,q1⟩=>cG (hi χ s1 σ H1 _ I1 q1) ?_;rintro iv s2 ⟨y,H2,I2,ry,a,v,ex,g,q2⟩;subst ex;obtain rfl:u=Value.ref a:=rx;exact⟨Bw I2 g,G? hu I2 g ry λ w' s3 I3 F3=>⟨v,H2,I3,F3,q2⟩⟩
theorem Q0(hu:X.A.units+1<cLine)(hi:PE X i ty)(ho:PE X o td):PC X .In i o (Zk ty td):=by intro χ s σ H Q I h;refine cG (hi χ s σ H _ I h) λ iv s1 ⟨y,H1,I1,ry,q1⟩=>cG (ho χ s1 σ H1 _ I1 q1) ?_;rintro u s2 ⟨x,H2,I2,rx,a,ov,ex,g,q2⟩;subst ex;obtain rfl:u=Value.ref a:=rx;exact aaV hu I2 g ry λ s3 I3=>⟨.bl _,H2,I3,rfl,q2⟩
theorem F8(hu:X.A.units+1<cLine)(hi:PE X i ty)(ho:PE X o td):PC X .NotIn i o (L? ty td):=by intro χ s σ H Q I h;refine cG (hi χ s σ H _ I h) λ iv s1 ⟨y,H1,I1,ry,q1⟩=>cG (ho χ s1 σ H1 _ I1 q1) ?_;rintro u s2 ⟨x,H2,I2,rx,a,ov,ex,g,q2⟩;subst ex;obtain rfl:u=Value.ref a:=rx;exact OB hu I2 g ry λ s3 I3=>⟨.bl _,H2,I3,rfl,q2⟩
theorem Mv(hu:X.A.units+1<cLine)(ho:PE X o td)(hi:PE X i ty)(hv:PE X value tv)(hs:swapsWith value (AC<|.Subscript o i pos') pos.line X.env=pure AT):
 PS X (.Assign [.Subscript o i pos'] value pos) (UD td ty tv):=by
 intro χ s σ H D I h;refine wpAny_Assign_Subscript (cG (hv χ s σ H _ I h) λ r s1 ⟨v,H1,I1,rv,q1⟩=>cG (ho χ s1 σ H1 _ I1 q1) λ u s2 ⟨x,H2,I2,rx,q2⟩=>cG (hi χ s2 σ H2 _ I2 q2) ?_) hs;rintro iv s3 ⟨y,H3,I3,ry,a,H4,ex,g,q3⟩;subst ex;obtain rfl:u=Value.ref a:=rx;exact G! hu I3 g ry rv λ s4 I4=>⟨σ,H4,I4,q3⟩
end
theorem KQ(h:ν)(hb:sysModules<h.objs.size):eF P w H (h.push {cls:=.type "dict",data:=.dict #[]}) h.objs.size (.dK []):=
 ⟨A47 _,A61.mpr<|A07<|A13 hb,[],.nil,Heap.DictOf.new h⟩
def Qr:TE:=λ _ H Q=>∀p,H p=At->Q (.ref p) (upd H p<|.dK [])
theorem IU:PE X (.Dict [] [] pos) Qr:=λ χ s σ H Q I h=>wpAny_Dict_empty ⟨.ref _,_,I.laid (λ _ _ q=>v6 _ q) (v4 _)<|KQ _ I.big,rfl,h _<|I.bY.fresh<|v4 _⟩
end L2
set_option genSizeOf true
namespace Z
inductive D where
|non
|bl (b:Bool)
|int (i:Int)
|str (cs:List Nat)
|tup (xs:List D)
|lst (xs:List D)
|dct (ks:List (Sum Int<|List Nat)) (vs:List D)
inductive Res(α:Type) where
|ok (a:α)
|bad
namespace Res
def bind{α β:Type}(r:Res α)(f:α->Res β):Res β:=
 match r with
 |ok a=>f a
 |bad=>bad
@[simp] theorem k_(a:α)(f:α->Res β):(Res.ok a).bind f=f a:=rfl
@[simp] theorem W5(f:α->Res β):(Res.bad).bind f=bad:=rfl
def map{α β:Type}(f:α->β)(r:Res α):Res β:=
 match r with
 |ok a=>ok<|f a
 |bad=>bad
@[simp] theorem _g(a:α)(f:α->β):(Res.ok a).map f=ok (f a):=rfl
@[simp] theorem Ye(f:α->β):(Res.bad).map f=bad:=rfl
theorem au{f:α->Res β}(h:r.bind f=ok b):∃a,r=ok a/\f a=ok b:=by
 cases r with
 |ok a=>exact⟨a,rfl,h⟩
 |bad=>cases h
end Res
open Classical in
def guard{α:Type}(p:Prop)(r:Res α):Res α:=if p then r else .bad
@[simp] theorem guard_true(r:Res α):guard True r=r:=by exact M2 trivial
theorem guard_pos{r:Res α}(h:p):guard p r=r:=by exact M2 h
theorem b8{a:α}(h:guard p r=.ok a):p/\r=.ok a:=by
 unfold guard at h;split at h
 .rename_i q;exact⟨q,h⟩
 .cases h
inductive L where
|val (d:D)
|own (xs:List D)
|bor (d:D)
|dc (k:List (List Int) ⊕ List (List Nat×List Nat))
|GZ (ks:List (List Int))
|RH (ps:List (Int×Int))
|exc (c:List Nat×List (List Nat×D))
abbrev DK:=γ (γ Int) ⊕ γ (γ Nat×γ Nat)
abbrev Env:=γ<|ε L
abbrev EF:=Env->Res D
abbrev LF:=Env->Res (γ D)
abbrev TF:=Env->Res Bool
abbrev AF:=Env->Res (γ D)
inductive Fl where
|nx (ρ:Env)
|rt (d:D)
|bk (ρ:Env)
|ct (ρ:Env)
abbrev SF:=Env->Res Fl
abbrev GF:=D->Env->Res Env
abbrev line:Nat:=16777216
def dE:γ (γ Nat):=[[104,97,108,108],[103,117,101,115,116,115],[104,101,108,100],[112,108,97,99,101,115]]
def f_(a kd:Nat)(ks:γ (γ Nat))(vs:γ D):D:=.dct (.inl a::.inl kd::ks.map .inr) vs
def eC(d:D)(_:Env):Res D:=.ok d
def eV(i:Nat)(ρ:Env):Res D:=match ρ[i]? with
|some<|some<|.val d=>.ok d
|_=>.bad
def eW(i:Nat)(ρ:Env):Res D:=match ρ[i]? with
|some<|some<|.val d=>.ok d
|some<|some<|.own xs=>.ok<|.lst xs
|some<|some<|.bor<|.lst xs=>.ok<|.lst xs
|_=>.bad
def eB(op:D->D->Res D)(a b:EF)(ρ:Env):Res D:=(a ρ).bind λ x=>(b ρ).bind λ y=>op x y
def eU(op:D->Res D)(a:EF)(ρ:Env):Res D:=(a ρ).bind op
def uU(a b:EF)(ρ:Env):Res D:=(a ρ).bind λ x=>match x with
|.bl c=>if c then b ρ else .ok (.bl AT)
|_=>.bad
def TM(a b:EF)(ρ:Env):Res D:=(a ρ).bind λ x=>match x with
|.bl c=>if c then .ok (.bl Ch)else b ρ
|_=>.bad
def Oh(a:EF)(ρ:Env):Res D:=(a ρ).bind λ x=>match x with
|.bl c=>.ok<|.bl !c
|_=>.bad
def iP(op Gb:D->D->Res D)(a b c:EF)(ρ:Env):Res D:=(a ρ).bind λ x=>(b ρ).bind λ y=>(op x y).bind λ z=>match z with
|.bl k=>if k then(c ρ).bind λ w=>Gb y w else .ok (.bl AT)
|_=>.bad
def YR(t:TF)(a b:EF)(ρ:Env):Res D:=(t ρ).bind λ c=>if c then a ρ else b ρ
def eL(l:LF)(ρ:Env):Res D:=(l ρ).map D.lst
def aC(_:Env):Res (γ D):=.ok []
def aa(a:EF)(r:AF)(ρ:Env):Res (γ D):=(a ρ).bind λ x=>(r ρ).bind λ xs=>.ok<|x::xs
def cu(as:AF)(ρ:Env):Res (γ D):=(as ρ).bind λ xs=>guard (xs.length<=line)<|.ok xs
def dZ(as:AF)(ρ:Env):Res D:=(as ρ).bind λ xs=>guard (xs.length<=line)<|.ok<|.tup xs
def aE(f:γ D->Res D)(as:AF)(ρ:Env):Res D:=(as ρ).bind f
def tE(a:EF)(ρ:Env):Res Bool:=(a ρ).bind λ x=>match x with
|.bl c=>.ok c
|_=>.bad
def vL(a b:TF)(ρ:Env):Res Bool:=(a ρ).bind λ c=>if c then b ρ else .ok AT
def wL(a b:TF)(ρ:Env):Res Bool:=(a ρ).bind λ c=>if c then .ok Ch else b ρ
def gb(a:TF)(ρ:Env):Res Bool:=(a ρ).bind λ c=>.ok !c
def bits(a:Int):Nat:=if a=0 then 0 else a.natAbs.log2+1
def bG:D->D->Res D
|.int a,.int b=>.ok<|.int<|a+b
|.str a,.str b=>guard (a.length+b.length<=line)<|.ok<|.str<|a++b
|.tup a,.tup b=>guard (a.length+b.length<=line)<|.ok<|.tup<|a++b
|_,_=>.bad
def qO:D->D->Res D
|.int a,.int b=>.ok<|.int<|a-b
|_,_=>.bad
def b_(a b:Int):Prop:=((-18446744073709551616<a/\a<18446744073709551616)\/(-18446744073709551616<b/\b<18446744073709551616)\/(bits a<=16777216/\bits b<=16777216))
def fT:D->D->Res D
|.int a,.int b=>guard (b_ a b)<|.ok<|.int<|a*b
|_,_=>.bad
def i8(b:Int):Prop:=0<b/\b<1809251394333065553493296640760748560207343510400633813116524750123642650624
def oDiv:D->D->Res D
|.int a,.int b=>guard (i8 b)<|.ok<|.int<|a / b
|_,_=>.bad
def oMod:D->D->Res D
|.int a,.int b=>guard (0<b)<|.ok<|.int<|a % b
|_,_=>.bad
def nF:D->D->Res D
|.int a,.int b=>guard (0<=b/\b<=1000000/\a.natAbs<2^64)<|.ok<|.int<|a^b.toNat
|_,_=>.bad
def MY:D->Res D
|.int a=>.ok<|.int<|-a
|_=>.bad
def Hs:γ Nat->γ Nat->Bool
|[],[]=>AT
|[],_::_=>Ch
|_::_,[]=>AT
|a::as,b::bs=>if a<b then Ch else if a=b then Hs as bs else AT
def oLt:D->D->Res D
|.int a,.int b=>.ok<|.bl<|decide<|a<b
|_,_=>.bad
def oLe:D->D->Res D
|.int a,.int b=>.ok<|.bl<|decide<|a<=b
|.str a,.str b=>.ok<|.bl<|!(Hs b a)
|_,_=>.bad
def ED:D->D->Res D
|.int a,.int b=>.ok<|.bl<|decide<|b<a
|_,_=>.bad
def Th:D->D->Res D
|.int a,.int b=>.ok<|.bl<|decide<|b<=a
|_,_=>.bad
noncomputable def TJ:D->D->ε Bool
|.non,.non=>AC Ch
|.bl a,.bl b=>AC<|a==b
|.bl a,.int b=>AC<|(if a then 1 else 0)==b
|.int a,.bl b=>AC<|a==(if b then 1 else 0)
|.int a,.int b=>AC<|a==b
|.str a,.str b=>AC<|a==b
|.non,.bl _=>AC AT
|.non,.int _=>AC AT
|.non,.str _=>AC AT
|.bl _,.non=>AC AT
|.bl _,.str _=>AC AT
|.int _,.non=>AC AT
|.int _,.str _=>AC AT
|.str _,.non=>AC AT
|.str _,.bl _=>AC AT
|.str _,.int _=>AC AT
|_,_=>At
def allEq(f:D->D->ε Bool):γ D->γ D->ε Bool
|[],[]=>AC Ch
|[],_::_=>AC AT
|_::_,[]=>AC AT
|a::as,b::bs=>match f a b,allEq f as bs with
 |some x,AC y=>AC<|x&&y
 |_,_=>At
noncomputable def gR:Nat->D->D->ε Bool
|n+1,.tup a,.tup b=>allEq (gR n) a b
|n+1,.lst a,.lst b=>allEq (gR n) a b
|_,.tup _,.lst _=>AC AT
|_,.lst _,.tup _=>AC AT
|_,.tup _,.non=>AC AT
|_,.tup _,.bl _=>AC AT
|_,.tup _,.int _=>AC AT
|_,.tup _,.str _=>AC AT
|_,.non,.tup _=>AC AT
|_,.bl _,.tup _=>AC AT
|_,.int _,.tup _=>AC AT
|_,.str _,.tup _=>AC AT
|_,.lst _,.non=>AC AT
|_,.lst _,.bl _=>AC AT
|_,.lst _,.int _=>AC AT
|_,.lst _,.str _=>AC AT
|_,.non,.lst _=>AC AT
|_,.bl _,.lst _=>AC AT
|_,.int _,.lst _=>AC AT
|_,.str _,.lst _=>AC AT
|_,x,y=>TJ x y
def iO:D->D->ε Bool:=gR 6
def oEq(a b:D):Res D:=match iO a b with
|some x=>.ok<|.bl x
|none=>.bad
def sS(a b:D):Res D:=match iO a b with
|some x=>.ok<|.bl !x
|none=>.bad
def kz:D->Res D
|.non=>.ok<|.bl Ch
|_=>.ok<|.bl AT
def rN:D->Res D
|.non=>.ok<|.bl AT
|_=>.ok<|.bl Ch
def pP:D->D->Res D
|.str [c],.str t=>.ok<|.bl<|!(t.contains c)
|_,_=>.bad
def fK(x:D):γ D->ε Bool
|[]=>AC AT
|y::r=>match iO y x,fK x r with
 |some a,AC b=>AC<|a||b
 |_,_=>At
def sT:D->D->Res D
|x,.tup ys=>match fK x ys with
 |some b=>.ok<|.bl b
 |none=>.bad
|x,.lst ys=>match fK x ys with
 |some b=>.ok<|.bl b
 |none=>.bad
|_,_=>.bad
def jn:D->D->Res D
|x,.tup ys=>match fK x ys with
 |some b=>.ok<|.bl !b
 |none=>.bad
|x,.lst ys=>match fK x ys with
 |some b=>.ok<|.bl !b
 |none=>.bad
|_,_=>.bad
def cL:D->Res D
|.str t=>guard (t.length<=line)<|.ok<|.int t.length
|.tup xs=>.ok<|.int xs.length
|.lst xs=>.ok<|.int xs.length
|_=>.bad
inductive Ty where
|bool|int|str|tuple|list|dict
def gA:Ty->D->Bool
|.bool,.bl _=>Ch
|.int,.bl _=>Ch
|.int,.int _=>Ch
|.str,.str _=>Ch
|.tuple,.tup _=>Ch
|.list,.lst _=>Ch
|.dict,.dct _ _=>Ch
|_,_=>AT
def ky(t:Ty)(x:D):Res D:=.ok<|.bl<|gA t x
def xn(n:Nat)(i:Int):ε Nat:=if 0<=i then(if i<n then AC i.toNat else At)else if -(n:Int)<=i then AC (i+n).toNat else At
def aR:D->D->Res D
|.tup xs,.int i=>match (xn xs.length i).bind λ j=>xs[j]? with
 |some v=>.ok v
 |none=>.bad
|.lst xs,.int i=>match (xn xs.length i).bind λ j=>xs[j]? with
 |some v=>.ok v
 |none=>.bad
| .str cs,.int i=>guard (cs.length<=line) (match (xn cs.length i).bind λ j=>cs[j]? with
 |some c=>.ok<|.str [c]
 | none=>.bad)
|_,_=>.bad
def eI(n d:Nat):ε Int->Nat
|none=>d
|some i=>if i<0 then(i+n).toNat else min i.toNat n
def cut{α:Type}(xs:γ α)(lo hi:ε Int):γ α:=(xs.drop<|eI xs.length 0 lo).take<|eI xs.length xs.length hi-eI xs.length 0 lo
abbrev PF:=Env->Res (ε Int)
def MI(_:Env):Res (ε Int):=.ok At
def su(a:EF)(ρ:Env):Res (ε Int):=(a ρ).bind λ x=>match x with
|.int i=>.ok<|some i
|_=>.bad
def Td:D->ε Int->ε Int->Res D
|.str cs,lo,hi=>guard (cs.length<=line)<|.ok<|.str<|cut cs lo hi
|.tup xs,lo,hi=>.ok<|.tup<|cut xs lo hi
|_,_,_=>.bad
def Hz(a:EF)(lo hi:PF)(ρ:Env):Res D:=(a ρ).bind λ x=>(lo ρ).bind λ l=>(hi ρ).bind λ h=>Td x l h
def Nu(a:EF)(lo hi:PF)(ρ:Env):Res (γ D):=(a ρ).bind λ x=>(lo ρ).bind λ l=>(hi ρ).bind λ h=>match x with
|.lst xs=>.ok<|cut xs l h
|_=>.bad
def GC(a b:EF)(ρ:Env):Res (γ D):=(a ρ).bind λ x=>(b ρ).bind λ y=>match x,y with
|.lst xs,.lst ys=>guard (xs.length+ys.length<=line)<|.ok<|xs++ys
|_,_=>.bad
def allB:γ D->ε Bool
|[]=>AC Ch
|.bl b::r=>(allB r).map (b&&·)
|_::_=>At
def jJ:D->Res D
|.lst xs=>match allB xs with
 |some b=>.ok<|.bl b
 |none=>.bad
|_=>.bad
def lW:D->Res (γ D)
|.tup xs=>.ok xs
|.lst xs=>.ok xs
|.str cs=>.ok<|cs.map λ c=>.str [c]
|_=>.bad
def dS(a:EF)(ρ:Env):Res (γ D):=(a ρ).bind lW
def zints(lo:Int)(n:Nat):γ D:=(Ev n).map λ i=>D.int<|lo+(i:Nat)
def fW(a:EF)(ρ:Env):Res (γ D):=(a ρ).bind λ x=>match x with
|.int j=>.ok<|zints 0 j.toNat
|_=>.bad
def A1(a b:EF)(ρ:Env):Res (γ D):=(a ρ).bind λ x=>(b ρ).bind λ y=>match x,y with
|.int i,.int j=>.ok<|zints i (j-i).toNat
|_,_=>.bad
def aW(i:Nat)(d:D)(ρ:Env):Res Env:=.ok<|ρ.set i<|some<|.val d
def iN:γ Nat->γ D->Env->Res Env
|[],[],ρ=>.ok ρ
|i::is,d::ds,ρ=>iN is ds<|ρ.set i<|some<|.val d
|_,_,_=>.bad
def jt(is:γ Nat)(d:D)(ρ:Env):Res Env:=match d with
|.tup ds=>iN is ds ρ
|_=>.bad
def vc(ρ:Env)(i:Nat):ε L:=match ρ[i]? with
|some<|some<|.val d=>AC<|.val d
|some<|some<|.bor d=>AC<|.bor d
|some<|some<|.GZ ks=>AC<|.GZ ks
|some<|some<|.own xs=>AC<|.bor<|.lst xs
|_=>At
def fF(ρ:Env)(is:γ Nat):Env:=is.map<|vc ρ
def cF(g:GF)(t:TF)(e:EF)(ρ:Env):γ D->Res (γ D)
|[]=>.ok []
|d::r=>(g d ρ).bind λ ρ1=>(t ρ1).bind λ c=>if c then(e ρ1).bind λ y=>(cF g t e ρ r).bind λ ys=>.ok (y::ys)else cF g t e ρ r
def bU(it:LF)(n:Nat)(is:γ Nat)(g:GF)(t:TF)(e:EF)(ρ:Env):Res (γ D):=(it ρ).bind λ ds=>guard (ds.length<=line)<|cF g t e (Do n At++fF ρ is) ds
def cb(_:Env):Res Bool:=.ok Ch
def bA(ρ:Env):Res Fl:=.ok<|.nx ρ
def aT(a b:SF)(ρ:Env):Res Fl:=(a ρ).bind λ fl=>match fl with
|.nx ρ'=>b ρ'
|o=>.ok o
def bc(i:Nat)(e:EF)(ρ:Env):Res Fl:=(e ρ).bind λ d=>.ok<|.nx<|ρ.set i<|some<|.val d
def oy(i:Nat)(e:LF)(ρ:Env):Res Fl:=(e ρ).bind λ xs=>.ok<|.nx<|ρ.set i<|some<|.own xs
def Mq(e:EF)(g:GF)(ρ:Env):Res Fl:=(e ρ).bind λ d=>(g d ρ).bind λ ρ'=>.ok<|.nx ρ'
def gZ(t:TF)(a b:SF)(ρ:Env):Res Fl:=(t ρ).bind λ c=>if c then a ρ else b ρ
def a6(e:EF)(ρ:Env):Res Fl:=(e ρ).bind λ d=>.ok<|.rt d
def Pd(e:EF)(ρ:Env):Res Fl:=(e ρ).bind λ _=>.ok<|.nx ρ
def eJ(i:Nat)(ρ:Env):Env:=match ρ[i]? with
|some<|some<|.own xs=>ρ.set i<|some<|.val<|.lst xs
|_=>ρ
def ub(i:Nat)(a:SF)(ρ:Env):Res Fl:=a<|eJ i ρ
def d7(i:Nat)(e:EF)(ρ:Env):Res Fl:=(e ρ).bind λ d=>match ρ[i]? with
|some<|some<|.own xs=>guard (xs.length<line)<|.ok<|.nx<|ρ.set i<|some<|.own<|xs++[d]
|_=>.bad
def fv(g:GF)(b:SF):γ D->Env->Res Fl
|[],ρ=>.ok<|.nx ρ
|d::r,ρ=>(g d ρ).bind λ ρ1=>(b ρ1).bind λ fl=>match fl with
 |.nx ρ'=>fv g b r ρ'
 |.ct ρ'=>fv g b r ρ'
 |.bk ρ'=>.ok<|.nx ρ'
 |.rt d=>.ok<|.rt d
def jh(it:LF)(g:GF)(b:SF)(ρ:Env):Res Fl:=(it ρ).bind λ ds=>fv g b ds ρ
def start(n:Nat)(ds:γ D):Env:=ds.map (λ d=>AC<|.val d)++Do (n-ds.length) At
def fn(ps n:Nat)(b:SF)(ds:γ D):Res D:=if ds.length=ps then(match b (start n ds)with
|.ok<|.rt d=>.ok d
|.ok<|.nx _=>.ok .non
| _=>.bad)else .bad
def sE:Bool->D->L
|true,.lst xs=>.bor<|.lst xs
|true,.dct ks vs=>.bor<|.dct ks vs
|_,d=>.val d
def startB(n:Nat)(bs:γ Bool)(ds:γ D):Env:=(al (λ b d=>AC<|sE b d) bs ds)++Do (n-ds.length) At
def Di(bs:γ Bool)(n:Nat)(b:SF)(ds:γ D):Res D:=if ds.length=bs.length then(match b (startB n bs ds)with
|.ok<|.rt d=>.ok d
|.ok<|.nx _=>.ok .non
| _=>.bad)else .bad
end Z
open Z renaming Res.au→XV
set_option genSizeOf false
namespace Z
@[simp] theorem afX(d:D)(ρ:Env):eC d ρ=.ok d:=rfl
@[simp] theorem afY(o:D->D->Res D)(a b:EF)(ρ:Env):eB o a b ρ=(a ρ).bind λ x=>(b ρ).bind λ y=>o x y:=rfl
@[simp] theorem afV(o:D->Res D)(a:EF)(ρ:Env):eU o a ρ=(a ρ).bind o:=rfl
@[simp] theorem afW(l:LF)(ρ:Env):eL l ρ=(l ρ).map D.lst:=rfl
@[simp] theorem aa4(ρ:Env):aC ρ=.ok []:=rfl
@[simp] theorem Y0(a:EF)(r:AF)(ρ:Env):aa a r ρ=(a ρ).bind λ x=>(r ρ).bind λ xs=>.ok (x::xs):=rfl
@[simp] theorem YS(f:γ D->Res D)(as:AF)(ρ:Env):aE f as ρ=(as ρ).bind f:=rfl
@[simp] theorem XO(ρ:Env):bA ρ=.ok (.nx ρ):=rfl
@[simp] theorem Zu(i:Nat)(e:EF)(ρ:Env):bc i e ρ=(e ρ).bind λ d=>.ok (.nx<|ρ.set i<|some<|.val d):=rfl
@[simp] theorem Zw(i:Nat)(e:LF)(ρ:Env):oy i e ρ=(e ρ).bind λ d=>.ok (.nx<|ρ.set i<|some<|.own d):=rfl
@[simp] theorem Zv(e:EF)(ρ:Env):a6 e ρ=(e ρ).bind λ d=>.ok (.rt d):=rfl
@[simp] theorem abF(t:TF)(a b:SF)(ρ:Env):gZ t a b ρ=(t ρ).bind λ c=>if c then a ρ else b ρ:=rfl
@[simp] theorem ac0(t:TF)(a b:EF)(ρ:Env):YR t a b ρ=(t ρ).bind λ c=>if c then a ρ else b ρ:=rfl
@[simp] theorem Zz(it:LF)(g:GF)(b:SF)(ρ:Env):jh it g b ρ=(it ρ).bind λ ds=>fv g b ds ρ:=rfl
def Im(b:SF):Fl->Res Fl
|.nx ρ'=>b ρ'
|o=>.ok o
@[simp] theorem Qv(a b:SF)(ρ:Env):aT a b ρ=(a ρ).bind (Im b):=rfl
@[simp] theorem XI(b:SF)(ρ:Env):Im b (.nx ρ)=b ρ:=rfl
@[simp] theorem XH(b:SF)(d:D):Im b (.rt d)=.ok (.rt d):=rfl
@[simp] theorem XM(b:SF)(ρ:Env):Im b (.bk ρ)=.ok (.bk ρ):=rfl
@[simp] theorem XJ(b:SF)(ρ:Env):Im b (.ct ρ)=.ok (.ct ρ):=rfl
def Ue:D->Res Bool
|.bl c=>.ok c
|_=>.bad
@[simp] theorem adS(a:EF)(ρ:Env):tE a ρ=(a ρ).bind Ue:=rfl
@[simp] theorem Xv(c:Bool):Ue (.bl c)=.ok c:=rfl
@[simp] theorem Xz(ρ:Env):cb ρ=.ok Ch:=rfl
@[simp] theorem Zo(a b:TF)(ρ:Env):vL a b ρ=(a ρ).bind λ c=>if c then b ρ else .ok AT:=rfl
@[simp] theorem abz(a b:TF)(ρ:Env):wL a b ρ=(a ρ).bind λ c=>if c then .ok Ch else b ρ:=rfl
@[simp] theorem Zf(a:TF)(ρ:Env):gb a ρ=(a ρ).bind λ c=>.ok !c:=rfl
def BH(f:Bool->Res D):D->Res D
|.bl c=>f c
|_=>.bad
@[simp] theorem W4(f:Bool->Res D)(c:Bool):BH f (.bl c)=f c:=rfl
@[simp] theorem aaR(a b:EF)(ρ:Env):uU a b ρ=(a ρ).bind (BH λ c=>if c then b ρ else .ok (.bl AT)):=rfl
@[simp] theorem acZ(a b:EF)(ρ:Env):TM a b ρ=(a ρ).bind (BH λ c=>if c then .ok (.bl Ch)else b ρ):=rfl
@[simp] theorem aaQ(a:EF)(ρ:Env):Oh a ρ=(a ρ).bind (BH λ c=>.ok<|.bl !c):=rfl
@[simp] theorem WQ(o o':D->D->Res D)(a b c:EF)(ρ:Env):iP o o' a b c ρ=(a ρ).bind λ x=>(b ρ).bind λ y=>(o x y).bind (BH λ k=>if k then(c ρ).bind λ w=>o' y w else .ok (.bl AT)):=rfl
@[simp] theorem Vf(a b:Int):bG (.int a) (.int b)=.ok (.int<|a+b):=rfl
@[simp] theorem U3(a b:Int):qO (.int a) (.int b)=.ok (.int<|a-b):=rfl
@[simp] theorem U7(a b:Int):fT (.int a) (.int b)=guard (b_ a b) (.ok<|.int<|a*b):=rfl
@[simp] theorem Ve(a b:Int):oDiv (.int a) (.int b)=guard (i8 b) (.ok<|.int<|a / b):=rfl
@[simp] theorem U8(a b:Int):oMod (.int a) (.int b)=guard (0<b) (.ok<|.int<|a % b):=rfl
@[simp] theorem X6(a b:Int):oLt (.int a) (.int b)=.ok (.bl<|decide<|a<b):=rfl
@[simp] theorem X8(a b:Int):oLe (.int a) (.int b)=.ok (.bl<|decide<|a<=b):=rfl
@[simp] theorem X7(a b:γ Nat):oLe (.str a) (.str b)=.ok (.bl<|!(Hs b a)):=rfl
@[simp] theorem X!(a b:Int):ED (.int a) (.int b)=.ok (.bl<|decide<|b<a):=rfl
@[simp] theorem X?(a b:Int):Th (.int a) (.int b)=.ok (.bl<|decide<|b<=a):=rfl
@[simp] theorem Ya(a b:Int):oEq (.int a) (.int b)=.ok (.bl<|a==b):=rfl
@[simp] theorem Z7(a b:Bool):oEq (.bl a) (.bl b)=.ok (.bl<|a==b):=rfl
@[simp] theorem X_(a b:γ Nat):oEq (.str a) (.str b)=.ok (.bl<|a==b):=rfl
@[simp] theorem X5(a b:Int):sS (.int a) (.int b)=.ok (.bl<|!(a==b)):=rfl
@[simp] theorem Z5(a b:Bool):sS (.bl a) (.bl b)=.ok (.bl<|!(a==b)):=rfl
@[simp] theorem X4(a b:γ Nat):sS (.str a) (.str b)=.ok (.bl<|!(a==b)):=rfl
@[simp] theorem U?(a:γ Nat):cL (.str a)=guard (a.length<=line) (.ok<|.int a.length):=rfl
@[simp] theorem U!(a:γ D):cL (.tup a)=.ok (.int a.length):=rfl
@[simp] theorem U_(a:γ D):cL (.lst a)=.ok (.int a.length):=rfl
@[simp] theorem X9(t:Ty)(x:D):ky t x=.ok (.bl<|gA t x):=rfl
@[simp] theorem abP(ρ:Env):MI ρ=.ok At:=rfl
def VT:D->Res (ε Int)
|.int i=>.ok<|some i
|_=>.bad
@[simp] theorem VS(i:Int):VT (.int i)=.ok (AC i):=rfl
@[simp] theorem abQ(a:EF)(ρ:Env):su a ρ=(a ρ).bind VT:=rfl
@[simp] theorem acY(a:EF)(lo hi:PF)(ρ:Env):Hz a lo hi ρ=(a ρ).bind λ x=>(lo ρ).bind λ l=>(hi ρ).bind λ h=>Td x l h:=rfl
@[simp] theorem _s(a:EF)(ρ:Env):dS a ρ=(a ρ).bind lW:=rfl
def Pf:D->Res (γ D)
|.int j=>.ok<|zints 0 j.toNat
|_=>.bad
@[simp] theorem Yn(a:EF)(ρ:Env):fW a ρ=(a ρ).bind Pf:=rfl
@[simp] theorem Ta(j:Int):Pf (.int j)=.ok (zints 0 j.toNat):=rfl
def Pe:D->D->Res (γ D)
|.int i,.int j=>.ok<|zints i (j-i).toNat
|_,_=>.bad
@[simp] theorem Ym(a b:EF)(ρ:Env):A1 a b ρ=(a ρ).bind λ x=>(b ρ).bind λ y=>Pe x y:=rfl
@[simp] theorem S_(i j:Int):Pe (.int i) (.int j)=.ok (zints i (j-i).toNat):=rfl
@[simp] theorem To(xs:γ D):lW (.tup xs)=.ok xs:=rfl
@[simp] theorem Tq(xs:γ D):lW (.lst xs)=.ok xs:=rfl
@[simp] theorem Tp(cs:γ Nat):lW (.str cs)=.ok (cs.map λ c=>.str [c]):=rfl
@[simp] theorem YI(i:Nat)(d:D)(ρ:Env):aW i d ρ=.ok (ρ.set i<|some<|.val d):=rfl
theorem bB(it:LF)(n:Nat)(is:γ Nat)(g:GF)(t:TF)(e:EF)(ρ:Env):bU it n is g t e ρ=(it ρ).bind λ ds=>guard (ds.length<=line) (cF g t e (Do n At++fF ρ is) ds):=rfl
@[simp] theorem Yf(as:AF)(ρ:Env):cu as ρ=(as ρ).bind λ xs=>guard (xs.length<=line) (.ok xs):=rfl
@[simp] theorem aaP(as:AF)(ρ:Env):dZ as ρ=(as ρ).bind λ xs=>guard (xs.length<=line) (.ok<|.tup xs):=rfl
def bR:Res Fl->Res D
|.ok<|.rt d=>.ok d
|.ok<|.nx _=>.ok .non
|_=>.bad
@[simp] theorem XU(d:D):bR (.ok<|.rt d)=.ok d:=rfl
@[simp] theorem XW(ρ:Env):bR (.ok<|.nx ρ)=.ok .non:=rfl
theorem cT(ps n:Nat)(b:SF)(ds:γ D)(h:ds.length=ps):fn ps n b ds=bR (b<|start n ds):=by
 unfold fn;rw[M2 h];cases b _ with
 |bad=>rfl
 |ok f=>cases f<;>rfl
theorem d_(h1:-18446744073709551616<a)(h2:a<18446744073709551616):b_ a b:=by exact .inl ⟨h1,h2⟩
theorem gj(h1:-18446744073709551616<b)(h2:b<18446744073709551616):b_ a b:=by exact .inr<|.inl ⟨h1,h2⟩
theorem cj(h0:0<b)(h:b<1809251394333065553493296640760748560207343510400633813116524750123642650624):i8 b:=⟨h0,h⟩
theorem uD(h0:0<=i)(h1:i<cs.length)(hl:cs.length<=line):∃c∈cs,aR (.str cs) (.int i)=.ok (.str [c]):=by
 have hj:i.toNat<cs.length:=by lia
 refine⟨cs[i.toNat],B26 hj,?_⟩;simp[aR,hl,xn,h0,h1]
theorem EX(h:(zints 0 n)[j]?=AC d):j<n/\d=.int (j):=by
 unfold zints at h;rw[A06]at h;cases q:(Ev n)[j]? with
 |none=>rw[q]at h;cases h
 |some i=>rw[q]at h;let⟨h1,h2⟩:=A08.mp q;rw[B27]at h1;rw[B99]at h2;subst h2;simp at h;exact⟨h1,h.symm⟩
@[simp] theorem gG(lo:Int)(n:Nat):(zints lo n).length=n:=by simp[zints]
theorem lI(xs:γ α)(lo hi:ε Int):(cut xs lo hi).length<=xs.length:=by unfold cut;rw[A24,B48];lia
theorem EN(h:x∈cut xs i j):x∈xs:=List.mem_of_mem_drop<|C00 h
@[simp] theorem abY(xs:γ D)(a:EF)(lo hi:PF)(ρ:Env)(h:a ρ=.ok (.lst xs)):Nu a lo hi ρ=(lo ρ).bind λ l=>(hi ρ).bind λ h=>.ok (cut xs l h):=by unfold Nu;rw[h];rfl
theorem u_:∀ds,(∀d∈ds,(g d ρ).bind e=.ok (h d))->cF g cb e ρ ds=.ok (ds.map h)
|[],_=>rfl
|d::ds,k=>by have h1:=k d A12;have h2:=u_ ds λ x hx=>k x<|A09 _ hx;let⟨ρ1,e1,e2⟩:=Res.au h1;simp[cF,e1,e2,h2]
theorem n8:∀ds,(∀d∈ds,∃ρ1,g d ρ=.ok ρ1/\t ρ1=.ok (p d)/\(p d=Ch->e ρ1=.ok (h d)))->cF g t e ρ ds=.ok ((ds.filter p).map h)
|[],_=>rfl
|d::ds,k=>by
 let⟨ρ1,e1,e2,e3⟩:=k d A12;have h2:=n8 ds λ x hx=>k x<|A09 _ hx;cases hp:p d with
 |true=>simp[cF,e1,e2,hp,e3 hp,h2]
 |false=>simp[cF,e1,e2,hp,h2]
theorem zk:∀(bs:γ Bool),allB (bs.map D.bl)=AC (bs.all id)
|[]=>rfl
|b::bs=>by simp[allB,zk bs]
@[simp high] theorem gt0(a:α)(l:γ α):(a::l)[0]?=AC a:=rfl
@[simp high] theorem gtS(a:α)(l:γ α)(n:Nat):(a::l)[n+1]?=l[n]?:=rfl
@[simp high] theorem Eg(a x:α)(l:γ α):(a::l).set 0 x=x::l:=rfl
@[simp high] theorem stS(a x:α)(l:γ α)(n:Nat):(a::l).set (n+1) x=a::l.set n x:=rfl
end Z
namespace ZS
open L2
abbrev Fl(X:Cx)(x:Str):Prop:=X.fn x=Ch\/X.env.scope.names.lookup x=AC .local
end ZS
local macro_rules
| `(tactic|trivial)=>`(tactic|first|exact AD3 rfl|exact pc rfl)
open ZS (Fl)
namespace ZS
open L2
abbrev St:=L2.St
def GD:Sum Int (γ Nat)->Key
|.inl i=>.inl i
|.inr cs=>.inr ⟨cs.toArray⟩
def P?(K:Da)(H:Hp)(a:δ)(xs:γ V):Prop:=
 (∃ o,H a=AC (.eJ o<|.lst xs)) \/
  ∃(o:μ)(bp:Array ζ)(n:Nat),K.lookup a=AC o/\o.cls=.type "list" /\ o.dict=At/\o.data=.seq bp n/\bp.size<=sizeLine/\Vals xs bp.toList
theorem P?.sq{K:Da}(h:P? K H a xs):jE K H a xs:=by
 rcases h with⟨o,h⟩|h
 .exact .inl<|.inr ⟨o,h⟩
 .exact .inr h
structure gU(H H':Hp):Prop where
 tup:∀a xs,H a=AC (.tup xs)->H' a=AC (.tup xs)
 eJ:∀a o u,H a=AC (.eJ o u)->H' a=AC (.eJ o u)
theorem gU.refl(H:Hp):gU H H:=⟨λ _ _ h=>h,λ _ _ _ h=>h⟩
theorem gU.trans{H H1 H2:Hp}(a:gU H H1)(b:gU H1 H2):gU H H2:=⟨λ c xs h=>b.tup c xs<|a.tup c xs h,λ c o u h=>b.eJ c o u<|a.eJ c o u h⟩
theorem kM(s:aJ H H'):gU H H':=⟨λ _ _ h=>s _ _ h,λ _ _ _ h=>s _ _ h⟩
theorem kX(h:H p=AC o)(n1:∀xs,o≠.tup xs)(n2:∀ob x,o≠.eJ ob x):gU H (upd H p u):=
 ⟨λ a xs e=>by rw[aD (by rintro rfl;rw[h]at e;exact n1 xs<|A04 e)];exact e,λ a ob x e=>by rw[aD (by rintro rfl;rw[h]at e;exact n2 ob x<|A04 e)];exact e⟩
theorem jR(h:H p=AC (.lst xs)):gU H (upd H p u):=kX h (λ _ z=>nomatch z) λ _ _ z=>nomatch z
theorem P?.mono{K:Da}(e:gU H H')(h:P? K H a xs):P? K H' a xs:=by
 rcases h with⟨o,h⟩|h
 .exact .inl ⟨o,e.eJ _ _ _ h⟩
 .exact .inr h
theorem fV{K:Da}(e:gU H H')(h:nz K H a xs):nz K H' a xs:=by
 rcases h with(h|⟨o,h⟩)|h
 .exact .inl<|.inl<|e.tup _ _ h
 .exact .inl<|.inr ⟨o,e.eJ _ _ _ h⟩
 .exact .inr h
mutual
def Den(K:Da)(H:Hp):Z.D->V->Prop
|.non,v=>v=.non
|.bl b,v=>v=.bl b
|.int i,v=>v=.int i
|.str cs,v=>v=.str ⟨cs.toArray⟩
|.tup ds,v=>∃a vs,v=.ref a/\nz K H a vs/\aG K H ds vs
|.lst ds,v=>∃a vs,v=.ref a/\P? K H a vs/\aG K H ds vs
|.dct ks ds,v=>∃a o aV,v=.ref a/\H a=AC (.eJ o<|.dK aV)/\aV.map (·.1)=ks.map GD/\aG K H ds (aV.map (·.2))/\∀i r,ks≠.inl i::r
def aG(K:Da)(H:Hp):γ Z.D->γ V->Prop
|[],vs=>vs=[]
|d::ds,vs=>∃v r,vs=v::r/\Den K H d v/\aG K H ds r
end
section
variable{K:Da}{H H':Hp}
mutual
theorem Den.mono(e:gU H H'):∀(d:Z.D)(v:V),Den K H d v->Den K H' d v
|.non,v,h=>by simp only[Den]at h ⊢;exact h
|.bl b,v,h=>by simp only[Den]at h ⊢;exact h
|.int i,v,h=>by simp only[Den]at h ⊢;exact h
|.str cs,v,h=>by simp only[Den]at h ⊢;exact h
|.tup ds,v,h=>by simp only[Den]at h ⊢;let⟨a,vs,e1,q,r⟩:=h;exact⟨a,vs,e1,fV e q,aG.mono e ds vs r⟩
|.lst ds,v,h=>by simp only[Den]at h ⊢;let⟨a,vs,e1,q,r⟩:=h;exact⟨a,vs,e1,q.mono e,aG.mono e ds vs r⟩
|.dct ks ds,v,h=>by simp only[Den]at h ⊢;let⟨a,o,aV,e1,q,k,r,n⟩:=h;exact⟨a,o,aV,e1,e.eJ _ _ _ q,k,aG.mono e ds _ r,n⟩
theorem aG.mono(e:gU H H'):∀(ds:γ Z.D)(vs:γ V),aG K H ds vs->aG K H' ds vs
|[],vs,h=>by simp only[aG]at h ⊢;exact h
|d::ds,vs,h=>by simp only[aG]at h ⊢;let⟨v,r,e1,q,t⟩:=h;exact⟨v,r,e1,Den.mono e d v q,aG.mono e ds r t⟩
end
theorem Den.up(h:Den K H d v)(e:aJ H H'):Den K H' d v:=Den.mono (kM e) d v h
theorem Den.ups(h:Den K H d v)(e:gU H H'):Den K H' d v:=Den.mono e d v h
theorem aG.ups(h:aG K H ds vs)(e:gU H H'):aG K H' ds vs:=aG.mono e ds vs h
theorem aG.up(h:aG K H ds vs)(e:aJ H H'):aG K H' ds vs:=aG.mono (kM e) ds vs h
theorem aG.nil:aG K H [] []:=by simp only[aG]
theorem aG.cons{d:Z.D}{ds:γ Z.D}{v:V}{vs:γ V}(h:Den K H d v)(t:aG K H ds vs):aG K H (d::ds) (v::vs):=by simp only[aG];exact⟨v,vs,rfl,h,t⟩
theorem aG.length:∀{ds}{vs},aG K H ds vs->vs.length=ds.length
|[],vs,h=>by simp only[aG]at h;subst h;rfl
|d::ds,vs,h=>by simp only[aG]at h;let⟨v,r,rfl,_,t⟩:=h;simp[aG.length t]
theorem aG.get:∀{ds}{vs}{i:Nat}{d},aG K H ds vs->ds[i]?=AC d->∃v,vs[i]?=AC v/\Den K H d v
|[],_,_,_,_,e=>by simp at e
|x::ds,vs,0,d,h,e=>by simp only[aG]at h;let⟨v,r,rfl,q,_⟩:=h;simp at e;subst e;exact⟨v,rfl,q⟩
|x::ds,vs,i+1,d,h,e=>by simp only[aG]at h;let⟨v,r,rfl,_,t⟩:=h;let⟨u,h1,h2⟩:=aG.get t (by simpa using e);exact⟨u,by simpa using h1,h2⟩
theorem aG.append:∀{ds es}{vs us},aG K H ds vs->aG K H es us->aG K H (ds++es) (vs++us)
|[],_,_,_,h,g=>by simp only[aG]at h;subst h;exact g
|d::ds,es,vs,us,h,g=>by simp only[aG]at h;let⟨v,r,rfl,q,t⟩:=h;exact aG.cons q<|aG.append t g
theorem aG.drop:∀{ds}{vs} n,aG K H ds vs->aG K H (ds.drop n) (vs.drop n)
|_,_,0,h=>by simpa using h
|[],vs,_+1,h=>by simp only[aG]at h;subst h;simpa using aG.nil
|d::ds,vs,n+1,h=>by simp only[aG]at h;let⟨v,r,rfl,q,t⟩:=h;simpa using aG.drop n t
theorem aG.take:∀{ds}{vs} n,aG K H ds vs->aG K H (ds.take n) (vs.take n)
|_,_,0,h=>by simpa using aG.nil
|[],vs,_+1,h=>by simp only[aG]at h;subst h;simpa using aG.nil
|d::ds,vs,n+1,h=>by simp only[aG]at h;let⟨v,r,rfl,q,t⟩:=h;simpa using aG.cons q (aG.take n t)
theorem aG.zints:∀(ns:γ Int),aG K H (ns.map Z.D.int) (ns.map V.int)
|[]=>aG.nil
|n::ns=>aG.cons (by simp only[Den])<|aG.zints ns
def bT(K:Da)(H:Hp)(d:Z.D)(v:V):Prop:=Den K H d v\/∃ds a vs,d=.lst ds/\v=.ref a/\H a=AC (.lst vs)/\aG K H ds vs
theorem bT.up(h:bT K H d v)(e:aJ H H'):bT K H' d v:=by
 rcases h with h|⟨ds,a,vs,e1,e2,q,t⟩
 .exact .inl<|h.up e
 .exact .inr ⟨ds,a,vs,e1,e2,e _ _ q,t.up e⟩
theorem bT.og(h:bT K H d v)(n:∀ds,d≠.lst ds):Den K H d v:=by
 rcases h with h|⟨ds,a,vs,e1,_⟩
 .exact h
 .exact absurd e1<|n ds
theorem bT.non(h:bT K H .non v):v=.non:=by have:=h.og λ _ z=>nomatch z;simpa only[Den]using this
theorem bT.bl(h:bT K H (.bl b) v):v=.bl b:=by have:=h.og λ _ z=>nomatch z;simpa only[Den]using this
theorem bT.int(h:bT K H (.int i) v):v=.int i:=by have:=h.og λ _ z=>nomatch z;simpa only[Den]using this
theorem bT.str(h:bT K H (.str cs) v):v=.str ⟨cs.toArray⟩:=by have:=h.og λ _ z=>nomatch z;simpa only[Den]using this
theorem bT.tup{ds:γ Z.D}{v:V}(h:bT K H (.tup ds) v):∃a vs,v=.ref a/\nz K H a vs/\aG K H ds vs:=by have:=h.og λ _ z=>nomatch z;simpa only[Den]using this
theorem bT.lst{ds:γ Z.D}{v:V}(h:bT K H (.lst ds) v):∃a vs,v=.ref a/\jE K H a vs/\aG K H ds vs:=by
 rcases h with h|⟨es,a,vs,e1,e2,q,t⟩
 .simp only[Den]at h;let⟨a,vs,e,q,t⟩:=h;exact⟨a,vs,e,q.sq,t⟩
 .cases e1;exact⟨a,vs,e2,.inl<|.inl q,t⟩
theorem bT.dct(h:bT K H (.dct ks ds) v):∃a o aV,v=.ref a/\H a=AC (.eJ o<|.dK aV)/\aV.map (·.1)=ks.map GD/\aG K H ds (aV.map (·.2))/\∀i r,ks≠.inl i::r:=by have:=h.og λ _ z=>nomatch z;simpa only[Den]using this
theorem lH:Den K H .non .non:=by simp only[Den]
theorem c7:Den K H (.bl b) (.bl b):=by simp only[Den]
theorem c6:Den K H (.int i) (.int i):=by simp only[Den]
theorem j0:Den K H (.str cs) (.str ⟨cs.toArray⟩):=by simp only[Den]
theorem f?(h:nz K H a vs)(t:aG K H ds vs):Den K H (.tup ds) (.ref a):=by simp only[Den];exact⟨a,vs,rfl,h,t⟩
theorem y7(h:P? K H a vs)(t:aG K H ds vs):Den K H (.lst ds) (.ref a):=by simp only[Den];exact⟨a,vs,rfl,h,t⟩
end
def vp(K:Da)(c:Str)(C:δ):Prop:=FB K mainGlobals c=AC (AC<|.ref C)/\Ln K C
def Hm(K:Da)(H:Hp)(kd:Nat)(ks:γ (γ Nat))(ds:γ Z.D)(u:HO):Prop:=
 (kd=0/\ks=Z.dE.take ks.length/\∃ C dx fs,u=.ins C dx fs/\vp K "Desk" C/\fs.map (·.1)=ks.map (λ c=>(⟨c.toArray⟩:Str))/\aG K H ds (fs.map (·.2))) \/
  kd=1/\∃aV:γ (Key×V),u=.dK aV/\aV.map (·.1)=ks.map (λ c=>(GE ⟨c.toArray⟩:Key))/\aG K H ds (aV.map (·.2))
theorem Hm.ups{K:Da}(h:Hm K H kd ks ds u)(e:gU H H'):Hm K H' kd ks ds u:=by
 rcases h with⟨h0,hk,C,dx,fs,h1,h2,h3,h4⟩|⟨h0,aV,h1,h2,h3⟩
 .exact .inl ⟨h0,hk,C,dx,fs,h1,h2,h3,h4.ups e⟩
 .exact .inr ⟨h0,aV,h1,h2,h3.ups e⟩
def Thg(K:Da)(H:Hp)(d:Z.D)(v:V):Prop:=∃a kd ks ds u,d=Z.f_ a kd ks ds/\v=.ref a/\H a=AC u/\Hm K H kd ks ds u
def jO(K:Da)(H:Hp)(d:Z.D)(v:V):Prop:=bT K H d v\/Thg K H d v
theorem jO.up{K:Da}(h:jO K H d v)(e:aJ H H'):jO K H' d v:=by
 rcases h with h|⟨a,kd,ks,ds,u,e1,e2,q,t⟩
 .exact .inl<|h.up e
 .exact .inr ⟨a,kd,ks,ds,u,e1,e2,e _ _ q,t.ups<|kM e⟩
def FA(K:Da)(H:Hp)(d:Z.D)(v:V):Prop:=bT K H d v\/∃a kd ks ds u,d=Z.f_ a kd ks ds/\v=.ref a/\H a=AC u
theorem jO.z{K:Da}(h:jO K H d v):FA K H d v:=by
 rcases h with h|⟨a,kd,ks,ds,u,e1,e2,q,_⟩
 .exact .inl h
 .exact .inr ⟨a,kd,ks,ds,u,e1,e2,q⟩
theorem jO.f_{K:Da}(h:jO K H (.dct (.inl a::r) ds) v):Thg K H (.dct (.inl a::r) ds) v:=by
 rcases h with h|h
 .let⟨_,_,_,_,_,_,_,n⟩:=h.dct;exact absurd rfl<|n _ _
 .exact h
theorem FA.re{K:Da}(h:FA K H0 d v)(r:jO K H d v)(h0:aJ H0 H)(hs:aJ H0 H')(st:gU H H'):jO K H' d v:=by
 rcases h with h|⟨a,kd,ks,ds,u,rfl,rfl,q⟩
 .exact .inl<|h.up hs
 .let⟨a',kd',ks',YU,u',e1,e2,q',t⟩:=r.f_;cases e2;have:=(h0 _ _ q).symm.trans q';cases this;exact .inr ⟨_,kd',ks',YU,u,e1,rfl,hs _ _ q,t.ups st⟩
theorem jO.lst{K:Da}{H:Hp}{ds:γ Z.D}{v:V}(h:jO K H (.lst ds) v):bT K H (.lst ds) v:=by
 rcases h with h|⟨a,kd,ks,es,u,e1,_⟩
 .exact h
 .cases e1
def aaJ(x:γ Int×δ×ζ):DictEntry:={hash:=reduceHash<|Builtin.Tuple.tupleHashOf<|x.1.map hashInt,key:=.ref x.2.1,val:=x.2.2}
def Xj(a:δ)(ks:γ (γ Int))(as:γ δ)(h:ν):Prop:=ks.length<=sizeLine/\(a==sysModules)=AT/\∃(xs:γ (γ Int×δ×ζ))(o:μ)(es:Array DictEntry)(ep:Nat),xs.map (·.1)=ks/\xs.map (·.2.1)=as/\h.get? a=AC o/\o.ExactDict/\o.data=.dict es ep/\es.toList=xs.map aaJ/\ks.Nodup
abbrev Xi(a:δ)(ks:γ (γ Int))(as:γ δ):HO:=.ext<|Xj a ks as
def rA(K:Da)(H:Hp)(ks:γ (γ Int))(as:γ δ):Prop:=Paired (λ(k:γ Int)(b:δ)=>Den K H (.tup<|k.map .int)<|.ref b) ks as
def kvT(aV:γ (γ Nat×γ Nat)):γ (Key×V):=aV.map λ p=>(GE ⟨p.1.toArray⟩,V.str ⟨p.2.toArray⟩)
def DcO(a:δ):Z.DK->γ δ->HO
|.inl ks,as=>Xi a ks as
|.inr aV,_=>.dK<|kvT aV
def Y6(K:Da)(H:Hp):Z.DK->γ δ->Prop
|.inl ks,as=>rA K H ks as
|.inr _,_=>True
theorem Fi:DcO a k as≠.lst xs:=by cases k<;>exact λ z=>nomatch z
def kvI(ps:γ (Int×Int)):γ (Key×V):=ps.map λ p=>(bi p.1,V.int p.2)
def zG(K:Da)(C:δ):Bool:=match K.lookup C with
|some ⟨.type "type",_,.cls cd,sl⟩=>(match cd.mro,sl.toList with
 |.ref C'::tl,[_,_,_,_,AC (.builtin n),_]=>C'==C&&n=="ValueError.__new__" && !cd.hasDel&&tl.contains (.type "BaseException")
 | _,_=>AT)
|_=>AT
def XC(K:Da)(c:γ Nat)(C:δ):Prop:=FB K mainGlobals ⟨c.toArray⟩=AC (AC<|.ref C)/\zG K C=Ch
def XD(K:Da)(H:Hp):ε δ->γ (γ Nat×Z.D)->Prop
|none,fs=>fs=[]
|some dx,fs=>fs≠[]/\∃od aV,H dx=AC (.eJ od<|.xd aV)/\Paired (λ(p:Str×V)(q:γ Nat×Z.D)=>p.1=⟨q.1.toArray⟩/\Den K H q.2 p.2) aV fs
theorem XD.ups{K:Da}(h:XD K H dd fs)(e:gU H H'):XD K H' dd fs:=by
 cases dd with
 |none=>exact h
 |some dx=>let⟨n,od,aV,q,p⟩:=h;exact⟨n,od,aV,e.eJ _ _ _ q,Paired.Gy p λ _ _ z=>⟨z.1,z.2.ups e⟩⟩
def ro(K:Da)(H:Hp)(c:γ Nat×γ (γ Nat×Z.D))(C:δ)(dd:ε δ):Prop:=XC K c.1 C/\XD K H dd c.2
theorem ro.ups{K:Da}(h:ro K H c C dd)(e:gU H H'):ro K H' c C dd:=⟨h.1,h.2.ups e⟩
def RL(K:Da)(H:Hp):Z.L->V->Prop
|.val d,v=>Den K H d v
|.own ds,v=>∃a vs,v=.ref a/\H a=AC (.lst vs)/\aG K H ds vs
|.bor d,v=>jO K H d v
|.dc k,v=>∃a as,v=.ref a/\H a=AC (DcO a k as)/\Y6 K H k as
|.GZ ks,v=>∃a o as,v=.ref a/\H a=AC (.eJ o<|Xi a ks as)/\rA K H ks as
|.RH ps,v=>∃a o,v=.ref a/\H a=AC (.eJ o<|.dK<|kvI ps)
|.exc c,v=>∃a o u C,v=.ref a/\H a=AC (.eJ o u)/\o.cls=.ref C/\(∃vs,o.data=.fields vs)/\ro K H c C o.dict
theorem rA.ups{K:Da}(h:rA K H ks as)(e:gU H H'):rA K H' ks as:=Paired.Gy h λ _ _ d=>Den.ups d e
theorem Y6.ups{K:Da}(h:Y6 K H k as)(e:gU H H'):Y6 K H' k as:=by
 cases k with
 |inl ks=>exact rA.ups (h) e
 |inr _=>exact IR
structure RE(K:Da)(H:Hp)(σ:St)(ρ:Z.Env):Prop where
 len:ρ.length=σ.length
 get:∀(i:Nat)(l:Z.L),ρ[i]?=AC (AC l)->∃v,σ[i]?=AC (AC v)/\RL K H l v
 sep:∀(i j:Nat)(xs ys:List Z.D)(a:Addr),ρ[i]?=AC (AC<|.own xs)->ρ[j]?=AC (AC<|.own ys)->σ[i]?=AC (AC<|.ref a)->σ[j]?=AC (AC<|.ref a)->i=j
section
variable{K:Da}{H H':Hp}{σ:St}{ρ:Z.Env}
theorem RL.up(h:RL K H l v)(e:aJ H H'):RL K H' l v:=by
 cases l with
 |val d=>exact Den.up (h) e
 |own ds=>let⟨a,vs,e1,q,t⟩:=h;exact⟨a,vs,e1,e _ _ q,t.up e⟩
 |bor d=>exact jO.up (h) e
 |dc ks=>let⟨a,as,e1,q,t⟩:=h;exact⟨a,as,e1,e _ _ q,t.ups<|kM e⟩
 |GZ ks=>let⟨a,o,as,e1,q,t⟩:=h;exact⟨a,o,as,e1,e _ _ q,t.ups<|kM e⟩
 |RH ps=>let⟨a,o,e1,q⟩:=h;exact⟨a,o,e1,e _ _ q⟩
 |exc c=>let⟨a,o,u,C,e1,q,r1,r2,r3⟩:=h;exact⟨a,o,u,C,e1,e _ _ q,r1,r2,r3.ups<|kM e⟩
theorem RE.up(h:RE K H σ ρ)(e:aJ H H'):RE K H' σ ρ:=
 ⟨h.len,λ i l q=>let ⟨v,h1,h2⟩:=h.get i l q;⟨v,h1,h2.up e⟩,h.sep⟩
theorem cK(h:H a=At):aJ H (upd H a o):=λ b u e=>by rw[aD<|bh e h];exact e
end
def tZ(K:Da)(f:Z.EF):TE:=λ σ H Q=>∃ρ d,RE K H σ ρ/\f ρ=.ok d/\∀v H',aJ H H'->Den K H' d v->Q v H'
def L8(K:Da)(f:Z.EF):TE:=λ σ H Q=>∃ρ d,RE K H σ ρ/\f ρ=.ok d/\∀v H',aJ H H'->bT K H' d v->Q v H'
def tZl(K:Da)(f:Z.LF):TE:=λ σ H Q=>∃ρ ds,RE K H σ ρ/\f ρ=.ok ds/\∀a vs H',aJ H H'->H a=At->H' a=AC (.lst vs)->aG K H' ds vs->Q (.ref a) H'
def Ui(K:Da)(f:Z.TF):TT:=λ σ H Q=>∃ρ b,RE K H σ ρ/\f ρ=.ok b/\∀H',aJ H H'->Q b H'
def tZa(K:Da)(f:Z.AF):TA:=λ σ H Q=>∃ρ ds,RE K H σ ρ/\f ρ=.ok ds/\∀vs H',aJ H H'->aG K H' ds vs->Q vs H'
def tZp(K:Da)(f:Z.PF):TO:=λ σ H Q=>∃ρ o,RE K H σ ρ/\f ρ=.ok o/\∀H',aJ H H'->Q o H'
abbrev DE(X:Cx)(e:ι)(f:Z.EF):Prop:=PE X e<|tZ X.K f
structure _root_.ZQ.QE(X:Cx)(e:Expr)(f:Z.EF):Prop where p:DE X e f
abbrev DW(X:Cx)(e:ι)(f:Z.EF):Prop:=PE X e<|L8 X.K f
structure _root_.ZQ.QW(X:Cx)(e:Expr)(f:Z.EF):Prop where p:DW X e f
abbrev DL(X:Cx)(e:ι)(f:Z.LF):Prop:=PE X e<|tZl X.K f
structure _root_.ZQ.QL(X:Cx)(e:Expr)(f:Z.LF):Prop where p:DL X e f
abbrev DT(X:Cx)(e:ι)(f:Z.TF):Prop:=PT X e<|Ui X.K f
structure _root_.ZQ.QT(X:Cx)(e:Expr)(f:Z.TF):Prop where p:DT X e f
abbrev DTW(X:Cx)(e:ι)(f:Z.TF):Prop:=PW X e<|Ui X.K f
structure _root_.ZQ.SR(X:Cx)(e:Expr)(f:Z.TF):Prop where p:DTW X e f
abbrev DA(X:Cx)(es:γ ι)(f:Z.AF):Prop:=PA X es<|tZa X.K f
structure _root_.ZQ.QA(X:Cx)(es:List Expr)(f:Z.AF):Prop where p:DA X es f
abbrev DP(X:Cx)(e:ε ι)(f:Z.PF):Prop:=PO X e<|tZp X.K f
structure _root_.ZQ.QP(X:Cx)(e:Option Expr)(f:Z.PF):Prop where p:DP X e f
section
variable{X:Cx}{e a b c:ι}{es:γ ι}{pos:Pos}{f fa fb fc:Z.EF}
theorem PE.imp(h:PE X e t)(k:∀σ H Q,t' σ H Q->t σ H Q):PE X e t':=λ χ s σ H Q I w=>h χ s σ H Q I<|k σ H Q w
theorem PT.imp(h:PT X e t)(k:∀σ H Q,t' σ H Q->t σ H Q):PT X e t':=λ χ s σ H Q I w=>h χ s σ H Q I<|k σ H Q w
theorem PW.imp(h:PW X e t)(k:∀σ H Q,t' σ H Q->t σ H Q):PW X e t':=λ whole χ s σ H Q I w=>h whole χ s σ H Q I<|k σ H Q w
theorem PA.imp(h:PA X es t)(k:∀σ H Q,t' σ H Q->t σ H Q):PA X es t':=λ p χ s σ H Q I w=>h p χ s σ H Q I<|k σ H Q w
theorem PO.imp(h:PO X o t)(k:∀σ H Q,t' σ H Q->t σ H Q):PO X o t':=λ χ s σ H Q I w=>h χ s σ H Q I<|k σ H Q w
theorem K0(h:PE X e (tC v))(hd:∀H,Den X.K H d v):DE X e (Z.eC d):=PE.imp h <|by rintro σ H Q ⟨ρ,d',_,e,k⟩;have e':=e;cases e';exact k v H (aJ.refl H)<|hd H
theorem _root_.ZQ.ag:ZQ.QE X (.Constant (.int i) j pos) (Z.eC<|.int i):=⟨K0 QX λ _=>c6⟩
theorem _root_.ZQ.eO:ZQ.QE X (.Constant (.bool x) j pos) (Z.eC<|.bl x):=⟨K0 Pk λ _=>c7⟩
theorem _root_.ZQ.mO:ZQ.QE X (.Constant .none j pos) (Z.eC .non):=⟨K0 Cz λ _=>lH⟩
theorem _root_.ZQ.bD(h:x=⟨cs.toArray⟩:=by decide +kernel):ZQ.QE X (.Constant (.str x) j pos) (Z.eC<|.str cs):=⟨by subst h;exact K0 QQ λ _=>j0⟩
theorem WM(h:Z.eV i ρ=.ok d):ρ[i]?=AC (AC<|.val d):=by
 unfold Z.eV at h;split at h
 .rename_i d' q;cases h;exact q
 .cases h
theorem WL(h:Z.eW i ρ=.ok d):ρ[i]?=AC (AC<|.val d)\/(∃xs,ρ[i]?=AC (AC<|.own xs)/\d=.lst xs)\/∃xs,ρ[i]?=AC (AC<|.bor<|.lst xs)/\d=.lst xs:=by
 unfold Z.eW at h;split at h
 .rename_i d' q;cases h;exact .inl q
 .rename_i xs q;cases h;exact .inr<|.inl ⟨xs,q,rfl⟩
 .rename_i xs q;cases h;exact .inr<|.inr ⟨xs,q,rfl⟩
 .cases h
theorem Sq(h:PE X e (mf i)):DE X e (Z.eV i):=PE.imp h <|by rintro σ H Q ⟨ρ,d,r,e,k⟩;let⟨v,h1,h2⟩:=r.get i _ (WM e);exact⟨v,h1,k v H (aJ.refl H) h2⟩
theorem Sj(h:PE X e (mf i)):DW X e (Z.eW i):=PE.imp h <|by
 rintro σ H Q ⟨ρ,d,r,e,k⟩;rcases WL e with q|⟨xs,q,rfl⟩|⟨xs,q,rfl⟩
 rotate_left;rotate_left
 .let⟨v,h1,h2⟩:=r.get i _ q;exact⟨v,h1,k v H (aJ.refl H)<|jO.lst h2⟩
 .let⟨v,h1,h2⟩:=r.get i _ q;exact⟨v,h1,k v H (aJ.refl H)<|.inl h2⟩
 .let⟨v,h1,a,vs,rfl,h2,h3⟩:=r.get i _ q;exact⟨_,h1,k _ H (aJ.refl H)<|.inr ⟨xs,a,vs,rfl,rfl,h2,h3⟩⟩
theorem _root_.ZQ.av(hN:X.N[i]?=AC x:=by rfl)(hv:Hl X.env.scope x:=by first| exact AD3 rfl| exact pc<|Or.inl rfl| exact pc<|Or.inr rfl)(hd:(x==("__debug__"))=AT:=by decide +kernel)
 (n4:(x==("__classdict__"))=AT:=by decide +kernel):ZQ.QE X (.Name x pos) (Z.eV i):=⟨Sq<|k9 hN hv hd n4⟩
theorem _root_.ZQ.ai(hN:X.N[i]?=AC x:=by rfl)(hv:Hl X.env.scope x:=by first| exact AD3 rfl| exact pc<|Or.inl rfl| exact pc<|Or.inr rfl)(hd:(x==("__debug__"))=AT:=by decide +kernel)
 (n4:(x==("__classdict__"))=AT:=by decide +kernel):ZQ.QW X (.Name x pos) (Z.eW i):=⟨Sj<|k9 hN hv hd n4⟩
theorem Ox(hg:Gl X x)(hm:X.mg x=AC u)(r:RelV v u)(hd:∀H,Den X.K H d v)(hb:(x==("__debug__"))=AT:=by decide +kernel):DE X (.Name x pos) (Z.eC d):=
 K0 (MD hg hm r hb) hd
theorem _root_.ZQ.ah(h:ZQ.QE X e f):ZQ.QW X e f:=⟨PE.imp h.p <|by rintro σ H Q ⟨ρ,d,r,e,k⟩;exact⟨ρ,d,r,e,λ v H' s q=>k v H' s<|.inl q⟩⟩
theorem _root_.ZQ.e!(h:ZQ.QL X e l):ZQ.QW X e (Z.eL l):=⟨PE.imp h.p <|by
 rintro σ H Q ⟨ρ,d,r,e,k⟩;unfold Z.eL at e;cases q:l ρ with
 |bad=>rw[q]at e;cases e
 |ok ds=>rw[q]at e;cases e;exact⟨ρ,ds,r,q,λ a vs H' s hn h1 h2=>k _ H' s<|.inr ⟨ds,a,vs,rfl,rfl,h1,h2⟩⟩⟩
theorem oH(I:Inv X χ σ H s)(h:H p=AC (.lst xs)):∃o,Inv X χ σ (upd H p<|.eJ o<|.lst xs) s:=by
 let⟨z,bp,n,r,ho⟩:=I.bY p _ h;refine⟨_,I.un (H':=upd H p (.eJ {cls:=.type "list",data:=.seq bp.toArray n} _)) ?_ ?_⟩
 .have ne:∀b,H b=At->b≠p:=λ b e q=>by rw[q,h]at e;cases e
  refine⟨λ b o q _ _ _=>q,λ b o q _ _ _=>⟨_,q⟩,λ b o q e _=>by rw[aD<|ne b e];exact e,λ b o q _=>⟨o,q⟩,λ b ys e=>?_,λ b o u e=>?_,λ b u pr e=>?_⟩
  .have:b≠p:=by rintro rfl;rw[h]at e;cases e
   rw[aD this];exact e
  .have:b≠p:=by rintro rfl;rw[h]at e;cases e
   rw[aD this];exact e
  .have:b≠p:=by rintro rfl;rw[h]at e;cases e;exact pr
   rw[aD this];exact e
 .intro b u e;by_cases hb:b=p
  .subst hb;rw[aM]at e;cases e;exact⟨ho,z,bp,n,r,ho⟩
  .rw[aD hb]at e;refine(I.bY b u e).pC (λ c w _ q=>q) (λ c q=>?_) (λ c ys q=>?_) λ c v pr q=>?_
   .have:c≠p:=by rintro rfl;rw[h]at q;cases q
    rw[aD this];exact q
   .have:c≠p:=by rintro rfl;rw[h]at q;cases q
    rw[aD this];exact q
   .have:c≠p:=by rintro rfl;rw[h]at q;cases q;exact pr
    rw[aD this];exact q
theorem Ip(s:aJ H H1)(hn:H p=At):aJ H (upd H1 p<|.eJ o<|.lst xs):=λ b u e=>by rw[aD<|bh e hn];exact s b u e
theorem _root_.ZQ.qf(h:ZQ.QL X e l):ZQ.QE X e (Z.eL l):=⟨by
 have h:=h.p;intro χ s σ H Q I w;let⟨ρ,d,r,e,k⟩:=w;unfold Z.eL at e;cases q:l ρ with
 |bad=>rw[q]at e;cases e
 |ok ds=>rw[q]at e;cases e;refine cG (h χ s σ H (λ v H1=>∃a vs,v=.ref a/\aJ H H1/\H a=At/\H1 a=AC (.lst vs)/\aG X.K H1 ds vs) I ⟨ρ,ds,r,q,λ a vs H1 s1 hn h1 h2=>⟨a,vs,rfl,s1,hn,h1,h2⟩⟩) ?_;rintro u s' ⟨v,H1,I1,rv,a,vs,rfl,s1,hn,h1,h2⟩;let⟨o,I2⟩:=oH I1 h1;exact⟨_,_,I2,rv,k _ _ (Ip s1 hn)<|y7 (.inl ⟨o,aM⟩)<|h2.ups<|jR h1⟩⟩
def HC(K:Da)(r:R2)(o:Z.D->Z.D->Z.Res Z.D):Prop:=∀(x y:V)(dx dy d:Z.D)(H:Hp)(Q:VK),bT K H dx x->bT K H dy y->o dx dy=.ok d->(∀v H',aJ H H'->Den K H' d v->Q v H')->r x y H Q
theorem two(hz:HC X.K r o):∀σ H Q,tZ X.K (Z.eB o fa fb) σ H Q->L9 r (L8 X.K fa) (L8 X.K fb) σ H Q:=by rintro σ H Q ⟨ρ,d,re,e,k⟩;let⟨x,ea,e⟩:=XV e;let⟨y,eb,e⟩:=XV e;exact⟨ρ,x,re,ea,λ v H1 s1 d1=>⟨ρ,y,re.up s1,eb,λ u H2 s2 d2=>hz _ _ _ _ _ H2 Q (d1.up s2) d2 e λ w H' s3 dw=>k w H' ((s1.trans s2).trans s3) dw⟩⟩
theorem xD(hr:jN X (binaryOp op) r)(hz:HC X.K r o)(ha:DW X a fa)(hb:DW X b fb):DE X (.BinOp a op b pos) (Z.eB o fa fb):=
 PE.imp (Ex hr ha hb)<|two hz
theorem pI{K:Da}{g:Int->Int->Int}(h:∀dx dy d,o dx dy=.ok d->∃i j,dx=.int i/\dy=.int j/\C i j/\d=.int (g i j)):HC K (rI C λ i j=>.int<|g i j) o:=by intro x y dx dy d H Q h1 h2 e k;let⟨i,j,rfl,rfl,hc,rfl⟩:=h _ _ _ e;exact⟨i,j,h1.int,h2.int,hc,k _ H (aJ.refl H) c6⟩
theorem pH{K:Da}{gd:Int->Int->Z.D}(h:∀dx dy d,o dx dy=.ok d->∃i j,dx=.int i/\dy=.int j/\d=gd i j)(hg:∀i j H,Den K H (gd i j) (g i j)):HC K (Mu g) o:=by intro x y dx dy d H Q h1 h2 e k;let⟨i,j,rfl,rfl,rfl⟩:=h _ _ _ e;exact⟨i,j,h1.int,h2.int,k _ H (aJ.refl H)<|hg i j H⟩
theorem _root_.ZQ.mM(ha:ZQ.QW X a fa)(hb:ZQ.QW X b fb):ZQ.QE X (.BinOp a .Sub b pos) (Z.eB Z.qO fa fb):=⟨have ha:=ha.p;have hb:=hb.p;xD Q4 (pH (λ dx dy d e=>by
 unfold Z.qO at e;split at e
 .cases e;exact⟨_,_,rfl,rfl,rfl⟩
 .cases e) λ _ _ _=>c6) ha hb⟩
def Lp(i j:Int):Prop:=IntMulOk i j
theorem MM:jN X (binaryOp .Mult) (rI Lp λ i j=>.int<|i*j):=U2 λ _ _ _ _ _ _ _ hc q=>mul_int q hc
theorem OK(i:Int):Z.bits i=Builtin.Int.intBits i:=by
 unfold Z.bits Builtin.Int.intBits;by_cases h:i=0
 .subst h;simp
 .first
   |(simp;done)
   |(rw[W1];simp;done)
theorem uv(h:Z.b_ i j):IntMulOk i j:=by
 rcases h with h|h|⟨h1,h2⟩
 .exact IntMulOk.of_left<|intBits_le_64 ∅ ∅
 .exact IntMulOk.of_right<|intBits_le_64 ∅ ∅
 .rw[OK]at h1 h2;exact mulOk_of_bits h1 h2 ∅
theorem _root_.ZQ.eX(ha:ZQ.QW X a fa)(hb:ZQ.QW X b fb):ZQ.QE X (.BinOp a .Mult b pos) (Z.eB Z.fT fa fb):=⟨have ha:=ha.p;have hb:=hb.p;xD MM (pI λ dx dy d e=>by
 unfold Z.fT at e;split at e
 .unfold Z.guard at e;split at e
  .rename_i h;cases e;exact⟨_,_,rfl,rfl,uv h,rfl⟩
  .cases e
 .cases e) ha hb⟩
def Xl(_ j:Int):Prop:=Z.i8 j
theorem Dv(h:Z.i8 j):0<j/\j.natAbs.log2<9000:=by
 have h0:=h.1;have h1:=h.2;have hn:j.natAbs≠0:=by lia
 have h2:j.natAbs<2^250:=by
  have:(2)^250=1809251394333065553493296640760748560207343510400633813116524750123642650624:=by decide
  lia
 have:=(Nat.log2_lt hn).mpr h2;exact⟨h0,by lia⟩
theorem MN:jN X (binaryOp .FloorDiv) (rI Xl λ i j=>.int<|i / j):=U2 λ i j _ _ _ _ _ hc q=>by let⟨h0,h1⟩:=Dv hc;have e:=Int.fdiv_eq_ediv_of_nonneg i<|Int.le_of_lt h0;exact floordiv_int (Int.ne_of_gt h0) (by rw[e];exact q)<|.inl<|PyProof.noPylong_of_log2 h1
theorem _root_.ZQ.dF(ha:ZQ.QW X a fa)(hb:ZQ.QW X b fb):ZQ.QE X (.BinOp a .FloorDiv b pos) (Z.eB Z.oDiv fa fb):=⟨have ha:=ha.p;have hb:=hb.p;xD MN (pI λ dx dy d e=>by
 unfold Z.oDiv at e;split at e
 .unfold Z.guard at e;split at e
  .rename_i h;cases e;exact⟨_,_,rfl,rfl,h,rfl⟩
  .cases e
 .cases e) ha hb⟩
theorem _root_.ZQ.b!(ha:ZQ.QW X a fa)(hb:ZQ.QW X b fb):ZQ.QE X (.BinOp a .Mod b pos) (Z.eB Z.oMod fa fb):=⟨have ha:=ha.p;have hb:=hb.p;xD Q7 (pI λ dx dy d e=>by
 unfold Z.oMod at e;split at e
 .unfold Z.guard at e;split at e
  .rename_i h;cases e;exact⟨_,_,rfl,rfl,h,rfl⟩
  .cases e
 .cases e) ha hb⟩
theorem _root_.ZQ.rf(ha:ZQ.QW X a fa)(hb:ZQ.QW X b fb):ZQ.QE X (.BinOp a .Pow b pos) (Z.eB Z.nF fa fb):=⟨have ha:=ha.p;have hb:=hb.p;xD Q6 (pI λ dx dy d e=>by
 unfold Z.nF at e;split at e
 .unfold Z.guard at e;split at e
  .rename_i h;cases e;exact⟨_,_,rfl,rfl,h,rfl⟩
  .cases e
 .cases e) ha hb⟩
def UP(K:Da):R2:=λ x y H Q=>∃a b xs ys,x=.ref a/\y=.ref b/\nz K H a xs/\nz K H b ys/\xs.length+ys.length<=sizeLine /\
 (xs=[]->Q (.ref b) H)/\(ys=[]->Q (.ref a) H)/\(∀p,H p=At->Q (.ref p) (upd H p<|.tup<|xs++ys))
theorem MO:jN X (binaryOp .Add) (UP X.K):=by
 intro χ s σ H x y v u Q I rx ry h;let⟨p,q,xs,ys,rfl,rfl,hp,hq,hz,q0,q1,q2⟩:=h;by_cases hx:xs=[]
 .cases rx;cases ry;let⟨bp,r1,ht,_⟩:=I.tuple hp;let⟨iF,r2,hb,_⟩:=I.tuple hq;let⟨⟨cls,dd,data,sl⟩,ho,hc,n,hd⟩:=id ht;let⟨⟨WW,TN,data2,S9⟩,Hv,vC,n2,hd2⟩:=id hb;simp only at hc hd vC hd2;subst hc hd vC hd2;have e0:=r1.sU.mpr hx;exact B47 ⟨_,ho,rfl⟩ ⟨_,Hv,rfl⟩ B89 seq_tuple_add B91 B92 (B93 _ _)
   (tuple_addW0 p q _ _ n n2 dd TN sl S9 (by simp[e0])) ⟨ho,Hv,⟨.ref q,H,I,rfl,q0 hx⟩⟩
 .exact MP χ s σ H _ _ v u Q I rx ry ⟨p,q,xs,ys,rfl,rfl,hp,hq,hx,hz,q1,λ _=>q2⟩
theorem Mb(a b:γ Nat):(⟨a.toArray⟩)++(⟨b.toArray⟩:Str)=⟨(a++b).toArray⟩:=by show(⟨a.toArray++b.toArray⟩:Str)=_;simp
theorem _root_.ZQ.a7(ha:ZQ.QW X a fa)(hb:ZQ.QW X b fb):ZQ.QE X (.BinOp a .Add b pos) (Z.eB Z.bG fa fb):=⟨have ha:=ha.p;have hb:=hb.p;xD (Q!.or<|CB.or MO) (λ x y dx dy d H Q h1 h2 e k=>by
 unfold Z.bG at e;split at e
 .cases e;exact .inl ⟨_,_,h1.int,h2.int,k _ H (aJ.refl H) c6⟩
 .unfold Z.guard at e;split at e
  .rename_i as bs h;cases e;refine .inr<|.inl ⟨_,_,h1.str,h2.str,?_,?_⟩
   .show as.toArray.size+bs.toArray.size<=sizeLine;rw[A23];simpa using h
   .rw[Mb];exact k _ H (aJ.refl H) j0
  .cases e
 .unfold Z.guard at e;split at e
  .rename_i as bs h;cases e;let⟨p,xs,rfl,hp,t1⟩:=h1.tup;let⟨q,ys,rfl,hq,t2⟩:=h2.tup;refine .inr<|.inr ⟨p,q,xs,ys,rfl,rfl,hp,hq,?_,?_,?_,?_⟩
   .rw[t1.length,t2.length,A23];exact h
   .rintro rfl;have:=C01 (by rw[<-t1.length];rfl);subst this;exact k _ H (aJ.refl H)<|f? hq t2
   .rintro rfl;have:=C01 (by rw[<-t2.length];rfl);subst this;rw[A51]at k;exact k _ H (aJ.refl H)<|f? hp t1
   .intro z hn;have s1:aJ H (upd H z<|.tup<|xs++ys):=cK hn;exact k _ _ s1<|f? (.inl<|.inl aM)<|(t1.append t2).up s1
  .cases e
 .cases e) ha hb⟩
theorem _root_.ZQ.Ss(ha:ZQ.QW X a fa):ZQ.QE X (.UnaryOp .USub a pos) (Z.eU Z.MY fa):=⟨PE.imp (UU Qh ha.p) <|by
 rintro σ H Q ⟨ρ,d,r,e,k⟩;let⟨x,ea,e⟩:=XV e;refine⟨ρ,x,r,ea,λ v H1 s1 d1=>?_⟩;unfold Z.MY at e;split at e
 .cases e;exact⟨_,d1.int,k _ H1 s1 c6⟩
 .cases e⟩
end
end ZS
namespace ZS
section
open Builtin Builtin.Str
theorem mC(t:γ Nat):(⟨t.toArray⟩:Str).length=t.length:=by simp[Str.length]
theorem Z4(t:γ Nat)(c:Nat):(!(Sc ⟨t.toArray⟩ ⟨#[c]⟩ 0 t.length 1).isEmpty)=t.contains c:=by have h:=StrLaws.found_one ⟨t.toArray⟩ c;rw[mC]at h;rw[h,A53];simp
theorem Fo(n d:Nat)(i:Int):max 0 (min (if i<0 then i+(n)else i)<|n)=((Z.eI n d<|some i)):=by
 show max 0 (min (if i<0 then i+(n)else i)<|n)=(((if i<0 then(i+(n)).toNat else min _ n)))
 by_cases h:i<0
 .simp only[M2 h];lia
 .simp only[W1 h];lia
theorem slR(a b:Nat):sliceRange (a) (b) 1=(Ev<|b-a).map (λ k=>a+k):=by
 unfold sliceRange;simp only[show(1:Int)>0 by decide,A25];have e:(if(a)<(b:Int)then((b)-(a:Int)+1-1) / 1 else 0).toNat=b-a:=by
  split
  .rw[Int.ediv_one];lia
  .lia
 rw[e];apply B08;intro k _;lia
theorem idxs(lo hi:ε Int)(n:Nat):strSliceIndices lo hi 1 n=(Ev<|Z.eI n n hi-Z.eI n 0 lo).map (λ k=>Z.eI n 0 lo+k):=by
 unfold strSliceIndices;simp only[show(1:Int)>0 by decide,A25];rw[<-slR];cases lo with
 |none=>
  cases hi with
  |none=>rfl
  |some j=>simp only[Fo n n j];rfl
 |some i=>
  cases hi with
  |none=>simp only[Fo n 0 i];rfl
  |some j=>simp only[Fo n 0 i,Fo n n j]
theorem yj(n d:Nat)(hd:d<=n)(o:ε Int):Z.eI n d o<=n:=by
 cases o with
 |none=>exact hd
 |some v=>show(if v<0 then(v+(n)).toNat else min _ n)<=n;split<;>lia
theorem pick(cs:γ Nat):∀k a,a+k<=cs.length->((Ev k).map λ j=>a+j).filterMap (λ i=>cs.toArray[i]?)=(cs.drop a).take k:=by
 intro k
 induction k with
 |zero=>intro a _;simp
 |succ k ih=>
  intro a h;rw[A83,A39,List.filterMap_append,ih a ∅];have kF:a+k<cs.length:=by lia
  rw[List.take_succ];simp[kF]
theorem Uv(cs:γ Nat)(lo hi:ε Int):Txt.slice ⟨cs.toArray⟩ lo hi=⟨(Z.cut cs lo hi).toArray⟩:=by
 unfold Txt.slice;rw[mC,idxs];have h1:=yj _ cs.length (v4 _) hi;have h0:=yj cs.length 0 (A47 _) lo;have hp:((Ev<|Z.eI cs.length cs.length hi-Z.eI cs.length 0 lo).map λ k=>Z.eI cs.length 0 lo+k).filterMap (λ i=>cs.toArray[i]?)=Z.cut cs lo hi:=by exact pick cs _ _ ∅
 split
 .rename_i hh;have ψ:(Ev<|Z.eI cs.length cs.length hi-Z.eI cs.length 0 lo).length=cs.length:=by simp only[A94,C02,A27,A05]at hh;exact hh
  rw[B27]at ψ;unfold Z.cut;have e0:Z.eI cs.length 0 lo=0:=by lia
  have e1:Z.eI cs.length cs.length hi-Z.eI cs.length 0 lo=cs.length:=by lia
  rw[e1,e0];simp
 .rw[hp]
end
open L2
section
variable{X:Cx}
theorem Su(hr:jN X (compareOp op) r)(hz:HC X.K r o)(ha:DW X a fa)(hb:DW X b fb)(hm:behindInMarks op b=AT):DE X (.Compare a [op] [b] pos) (Z.eB o fa fb):=
 PE.imp (MG hr ha hb hm)<|two hz
theorem qc(h:PT X e (Ec t))(k:∀σ H Q,tZ X.K f σ H Q->t σ H Q):DT X e (Z.tE f):=PT.imp h <|by
 rintro σ H Q ⟨ρ,b,r,e,q⟩;let⟨x,ea,e⟩:=XV e;refine k σ H _ ⟨ρ,x,r,ea,λ v H' s d=>?_⟩;split at e
 .cases e;simp only[Den]at d;exact⟨_,d,q H' s⟩
 .cases e
theorem Sm(hr:jN X (compareOp op) r)(hz:HC X.K r o)(ha:DW X a fa)(hb:DW X b fb)(hm:behindInMarks op b=AT):DT X (.Compare a [op] [b] pos) (Z.tE<|Z.eB o fa fb):=
 qc (pE hr ha hb hm)<|two hz
structure BX(X:Cx)(op:CmpOp)(o:Z.D->Z.D->Z.Res Z.D):Prop where
 ex:∃r,jN X (compareOp op) r/\HC X.K r o
theorem _root_.ZQ.cC(h:BX X op o)(ha:ZQ.QW X a fa)(hb:ZQ.QW X b fb)(hm:behindInMarks op b=AT:=by first|exact qQ _|with_unfolding_all rfl):ZQ.QE X (.Compare a [op] [b] pos) (Z.eB o fa fb):=
 ⟨let ⟨_,hr,hz⟩:=h.ex;Su hr hz ha.p hb.p hm⟩
theorem _root_.ZQ.aS(h:BX X op o)(ha:ZQ.QW X a fa)(hb:ZQ.QW X b fb)(hm:behindInMarks op b=AT:=by first|exact qQ _|with_unfolding_all rfl):ZQ.QT X (.Compare a [op] [b] pos) (Z.tE<|Z.eB o fa fb):=
 ⟨let ⟨_,hr,hz⟩:=h.ex;Sm hr hz ha.p hb.p hm⟩
theorem xE(hz:HC X.K r o)(VX:HC X.K r' o'):∀σ H Q,tZ X.K (Z.iP o o' fa fb fc) σ H Q->Cn r r' (L8 X.K fa) (L8 X.K fb) (L8 X.K fc) σ H Q:=by
 rintro σ H Q ⟨ρ,d,re,e,k⟩;let⟨x,ea,e⟩:=XV e;let⟨y,eb,e⟩:=XV e;let⟨z,eo,e⟩:=XV e;refine⟨ρ,x,re,ea,λ v H1 s1 d1=>⟨ρ,y,re.up s1,eb,λ u H2 s2 d2=>hz _ _ _ _ _ H2 _ (d1.up s2) d2 eo λ w H3 s3 dw=>?_⟩⟩;have Ls:=(s1.trans s2).trans s3;split at e
 .rename_i q;simp only[Den]at dw;refine⟨_,dw,?_⟩;cases q with
  |true=>simp only[A25]at e ⊢;let⟨t,ec,e⟩:=XV e;exact⟨ρ,t,re.up Ls,ec,λ v' H4 s4 d4=>VX _ _ _ _ _ H4 Q ((d2.up s3).up s4) d4 e λ w' H5 s5 dw'=>k w' H5 ((Ls.trans s4).trans s5) dw'⟩
  |false=>simp only[A45]at e ⊢;cases e;exact k _ H3 Ls c7
 .cases e
theorem _root_.ZQ.Bz(h:BX X op o)(h':BX X Gb o')(ha:ZQ.QW X a fa)(hb:ZQ.QW X b fb)(hc:ZQ.QW X c fc)
 (hm:lastMarks [op,Gb] [b,c]=AT:=by with_unfolding_all rfl):ZQ.QE X (.Compare a [op,Gb] [b,c] pos) (Z.iP o o' fa fb fc):=
 ⟨let ⟨_,hr,hz⟩:=h.ex;let ⟨_,_H,VX⟩:=h'.ex;PE.imp (IV hr _H ha.p hb.p hc.p hm) (xE hz VX)⟩
theorem _root_.ZQ.mL(h:BX X op o)(h':BX X Gb o')(ha:ZQ.QW X a fa)(hb:ZQ.QW X b fb)(hc:ZQ.QW X c fc)
 (hm:lastMarks [op,Gb] [b,c]=AT:=by with_unfolding_all rfl):ZQ.QT X (.Compare a [op,Gb] [b,c] pos) (Z.tE<|Z.iP o o' fa fb fc):=
 ⟨let ⟨_,hr,hz⟩:=h.ex;let ⟨_,_H,VX⟩:=h'.ex;qc (II hr _H ha.p hb.p hc.p hm) (xE hz VX)⟩
theorem K':BX X .Lt Z.oLt:=⟨_,UX,pH (λ dx dy d e=>by
 unfold Z.oLt at e;split at e
 .cases e;exact⟨_,_,rfl,rfl,rfl⟩
 .cases e) λ _ _ _=>c7⟩
theorem wA:BX X .Gt Z.ED:=⟨_,UZ,pH (λ dx dy d e=>by
 unfold Z.ED at e;split at e
 .cases e;exact⟨_,_,rfl,rfl,rfl⟩
 .cases e) λ _ _ _=>c7⟩
theorem W3:BX X .GtE Z.Th:=⟨_,U0,pH (λ dx dy d e=>by
 unfold Z.Th at e;split at e
 .cases e;exact⟨_,_,rfl,rfl,rfl⟩
 .cases e) λ _ _ _=>c7⟩
theorem Ga:jN X (compareOp .LtE) (λ x y H Q=>∃i j,x=.str i/\y=.str j/\Q (.bl<|!decide (j.cps.toList<i.cps.toList)) H):=by intro χ s σ H x y v u Q I rx ry h;let⟨i,j,rfl,rfl,q⟩:=h;let⟨t,rfl⟩:=rx;let⟨t',rfl⟩:=ry;exact PySem.P.le_str<|yS I q rfl
theorem JE:∀a b,Z.Hs a b=decide (a<b)
|[],[]=>by simp[Z.Hs]
|[],_::_=>by simp[Z.Hs]
|_::_,[]=>by simp[Z.Hs]
|a::as,b::bs=>by
 unfold Z.Hs;rw[JE];by_cases h:a<b
 .simp[C43]
 .by_cases h2:a=b
  .subst h2;simp
  .simp[C43]
theorem nK:BX X .LtE Z.oLe:=⟨_,UY.or Ga,λ x y dx dy d H Q h1 h2 e k=>by
 unfold Z.oLe at e;split at e
 .cases e;exact .inl ⟨_,_,h1.int,h2.int,k _ H (aJ.refl H) c7⟩
 .cases e;refine .inr ⟨_,_,h1.str,h2.str,?_⟩;rename_i as bs;have q:=k (.bl<|!Z.Hs bs as) H (aJ.refl H) c7;rw[JE]at q;exact q
 .cases e⟩
def VR:Z.D->Bool
|.non=>Ch
|_=>AT
theorem Jj{K:Da}(h:bT K H d v):decide (v=.non)=VR d:=by
 cases d with
 |non=>rw[h.non];rfl
 |bl b=>rw[h.bl];rfl
 |int i=>rw[h.int];rfl
 |str cs=>rw[h.str];rfl
 |tup ds=>let⟨a,vs,rfl,_⟩:=h.tup;rfl
 |lst ds=>let⟨a,vs,rfl,_⟩:=h.lst;rfl
 |dct ks ds=>let⟨a,o,aV,rfl,_⟩:=h.dct;rfl
theorem NL:∀σ H Q,tZ X.K (Z.eU Z.kz fa) σ H Q->L9 (λ x y H Q=>y=.non/\Q (.bl<|decide<|x=.non) H) (L8 X.K fa) (tC .non) σ H Q:=by rintro σ H Q ⟨ρ,d,r,e,k⟩;let⟨x,ea,e⟩:=XV e;refine⟨ρ,x,r,ea,λ v H1 s1 d1=>⟨rfl,?_⟩⟩;rw[Jj d1];cases x<;>(cases e;exact k _ H1 s1 c7)
theorem Ji:∀σ H Q,tZ X.K (Z.eU Z.rN fa) σ H Q->L9 (λ x y H Q=>y=.non/\Q (.bl<|!decide (x=.non)) H) (L8 X.K fa) (tC .non) σ H Q:=by rintro σ H Q ⟨ρ,d,r,e,k⟩;let⟨x,ea,e⟩:=XV e;refine⟨ρ,x,r,ea,λ v H1 s1 d1=>⟨rfl,?_⟩⟩;rw[Jj d1];cases x<;>(cases e;exact k _ H1 s1 c7)
theorem _root_.ZQ.oP(ha:ZQ.QW X a fa):ZQ.QT X (.Compare a [.Is] [.Constant .none j pos'] pos) (Z.tE<|Z.eU Z.kz fa):=⟨qc (pE Q8 ha.p Cz<|qQ _) NL⟩
theorem _root_.ZQ.Fb(ha:ZQ.QW X a fa):ZQ.QT X (.Compare a [.IsNot] [.Constant .none j pos'] pos) (Z.tE<|Z.eU Z.rN fa):=⟨qc (pE ML ha.p Cz<|qQ _) Ji⟩
theorem K9:BX X .NotIn Z.pP:=⟨_,yo,λ x y dx dy d H Q h1 h2 e k=>by
 unfold Z.pP at e;split at e
 .cases e;refine⟨_,_,h1.str,h2.str,?_⟩;rename_i c t;rw[mC,Z4];exact k _ H (aJ.refl H) c7
 .cases e⟩
theorem _root_.ZQ.jy(h:ZQ.QE X a fa):ZQ.QE X (.BoolOp op [a] pos) fa:=⟨QR h.p⟩
theorem _root_.ZQ.oR{rest:γ ι}(ha:ZQ.QE X a fa)(hb:ZQ.QE X (.BoolOp .And (b::rest) pos) fb):ZQ.QE X (.BoolOp .And (a::b::rest) pos) (Z.uU fa fb):=⟨PE.imp (QZ ha.p hb.p) <|by
 rintro σ H Q ⟨ρ,d,r,e,k⟩;let⟨x,ea,e⟩:=XV e;refine⟨ρ,x,r,ea,λ v H1 s1 d1=>?_⟩;split at e
 .rename_i q;simp only[Den]at d1;refine⟨q,d1,?_⟩;cases q with
  |true=>simp only[A25]at e ⊢;exact⟨ρ,d,r.up s1,e,λ w H' s2 dw=>k w H' (s1.trans s2) dw⟩
  |false=>simp only[A45]at e ⊢;cases e;exact k _ H1 s1 c7
 .cases e⟩
theorem _root_.ZQ.Fg{rest:γ ι}(ha:ZQ.QE X a fa)(hb:ZQ.QE X (.BoolOp .Or (b::rest) pos) fb):ZQ.QE X (.BoolOp .Or (a::b::rest) pos) (Z.TM fa fb):=⟨PE.imp (UW ha.p hb.p) <|by
 rintro σ H Q ⟨ρ,d,r,e,k⟩;let⟨x,ea,e⟩:=XV e;refine⟨ρ,x,r,ea,λ v H1 s1 d1=>?_⟩;split at e
 .rename_i q;simp only[Den]at d1;refine⟨q,d1,?_⟩;cases q with
  |false=>simp only[A45]at e ⊢;exact⟨ρ,d,r.up s1,e,λ w H' s2 dw=>k w H' (s1.trans s2) dw⟩
  |true=>simp only[A25]at e ⊢;cases e;exact k _ H1 s1 c7
 .cases e⟩
theorem _root_.ZQ.Sr(ha:ZQ.QE X a fa):ZQ.QE X (.UnaryOp .Not a pos) (Z.Oh fa):=⟨PE.imp (QU ha.p) <|by
 rintro σ H Q ⟨ρ,d,r,e,k⟩;let⟨x,ea,e⟩:=XV e;refine⟨ρ,x,r,ea,λ v H1 s1 d1=>?_⟩;split at e
 .simp only[Den]at d1;cases e;exact⟨_,d1,k _ H1 s1 c7⟩
 .cases e⟩
theorem Qq:∀σ H Q,Ui X.K (Z.tE f) σ H Q->tB (tZ X.K f) σ H Q:=by
 rintro σ H Q ⟨ρ,b,r,e,q⟩;let⟨x,ea,e⟩:=XV e;refine⟨ρ,x,r,ea,λ v H' s d=>?_⟩;split at e
 .cases e;simp only[Den]at d;exact⟨_,d,q H' s⟩
 .cases e
theorem _root_.ZQ.hX(h:ZQ.QE X e f)(he:∀whole,isTrue e X.env whole=(do let v ←whole;standAt e.pos;holding [v] (truthy v)):=by intro _;rfl):ZQ.QT X e (Z.tE f):=⟨PT.imp (IF h.p he) Qq⟩
theorem _root_.ZQ.cU(h:ZQ.QT X a t):ZQ.QT X (.UnaryOp .Not a pos) (Z.gb t):=⟨PT.imp (IG h.p) <|by rintro σ H Q ⟨ρ,b,r,e,q⟩;let⟨x,ea,e⟩:=XV e;cases e;exact⟨ρ,x,r,ea,λ H' s=>q H' s⟩⟩
theorem _root_.ZQ.sZ(h:ZQ.QT X a t):ZQ.SR X (.BoolOp .And [a] pos) t:=⟨pw_and1 h.p⟩
theorem _root_.ZQ.jx(h:ZQ.QT X a t):ZQ.SR X (.BoolOp .Or [a] pos) t:=⟨pw_or1 h.p⟩
theorem _root_.ZQ.y6{rest:γ ι}(ha:ZQ.QT X a t)(hb:ZQ.SR X (.BoolOp .And (b::rest) pos) u):ZQ.SR X (.BoolOp .And (a::b::rest) pos) (Z.vL t u):=⟨PW.imp (pw_and ha.p hb.p) <|by
 rintro σ H Q ⟨ρ,d,r,e,k⟩;let⟨x,ea,e⟩:=XV e;refine⟨ρ,x,r,ea,λ H1 s1=>?_⟩;cases x with
 |true=>simp only[A25]at e ⊢;exact⟨ρ,d,r.up s1,e,λ H' s2=>k H'<|s1.trans s2⟩
 |false=>simp only[A45]at e ⊢;cases e;exact k H1 s1⟩
theorem _root_.ZQ.kH{rest:γ ι}(ha:ZQ.QT X a t)(hb:ZQ.SR X (.BoolOp .Or (b::rest) pos) u):ZQ.SR X (.BoolOp .Or (a::b::rest) pos) (Z.wL t u):=⟨PW.imp (pw_or ha.p hb.p) <|by
 rintro σ H Q ⟨ρ,d,r,e,k⟩;let⟨x,ea,e⟩:=XV e;refine⟨ρ,x,r,ea,λ H1 s1=>?_⟩;cases x with
 |false=>simp only[A45]at e ⊢;exact⟨ρ,d,r.up s1,e,λ H' s2=>k H'<|s1.trans s2⟩
 |true=>simp only[A25]at e ⊢;cases e;exact k H1 s1⟩
theorem _root_.ZQ.Dq(h:ZQ.SR X e t):ZQ.QT X e t:=⟨h.p.pt⟩
theorem _root_.ZQ.By(hc:ZQ.QT X c t)(ha:ZQ.QE X a fa)(hb:ZQ.QE X b fb):ZQ.QE X (.IfExp c a b pos) (Z.YR t fa fb):=⟨PE.imp (IT hc.p ha.p hb.p) <|by
 rintro σ H Q ⟨ρ,d,r,e,k⟩;let⟨x,ea,e⟩:=XV e;refine⟨ρ,x,r,ea,λ H1 s1=>?_⟩;cases x with
 |true=>simp only[A25]at e ⊢;exact⟨ρ,d,r.up s1,e,λ w H' s2 dw=>k w H' (s1.trans s2) dw⟩
 |false=>simp only[A45]at e ⊢;exact⟨ρ,d,r.up s1,e,λ w H' s2 dw=>k w H' (s1.trans s2) dw⟩⟩
theorem _root_.ZQ.az:ZQ.QA X [] Z.aC:=⟨PA.imp cX <|by rintro σ H Q ⟨ρ,ds,r,e,k⟩;cases e;exact k [] H (aJ.refl H) aG.nil⟩
theorem i?(ha:DE X e f)(hr:DA X es g)(hs:Se e es X.env:=by rfl):DA X (e::es) (Z.aa f g):=PA.imp (bM ha hr hs) <|by rintro σ H Q ⟨ρ,ds,r,e,k⟩;let⟨x,ea,e⟩:=XV e;let⟨xs,eb,e⟩:=XV e;cases e;exact⟨ρ,x,r,ea,λ v H1 s1 d1=>⟨ρ,xs,r.up s1,eb,λ vs H2 s2 d2=>k _ H2 (s1.trans s2)<|aG.cons (d1.up s2) d2⟩⟩
theorem _root_.ZQ.cn(h:ZQ.QA X es g):ZQ.QE X (.Tuple es x1 pos) (Z.dZ g):=⟨PE.imp (QO h.p) <|by
 rintro σ H Q ⟨ρ,d,r,e,k⟩;let⟨xs,ea,e⟩:=XV e;unfold Z.guard at e;split at e
 .rename_i hl;cases e;refine⟨ρ,xs,r,ea,λ vs H1 s1 d1=>⟨by rw[d1.length,A23];exact hl,λ q hq=>?_⟩⟩;have s2:aJ H1 (upd H1 q<|.tup vs):=cK hq;exact k _ _ (s1.trans s2)<|f? (.inl<|.inl aM)<|d1.up s2
 .cases e⟩
theorem _root_.ZQ.bw(h:ZQ.QA X es g):ZQ.QL X (.List es pos) (Z.cu g):=⟨PE.imp (QV h.p) <|by
 rintro σ H Q ⟨ρ,d,r,e,k⟩;let⟨xs,ea,e⟩:=XV e;unfold Z.guard at e;split at e
 .rename_i hl;cases e;refine⟨ρ,_,r,ea,λ vs H1 s1 d1=>⟨by rw[d1.length,A23];exact hl,λ q hq=>?_⟩⟩;have s2:aJ H1 (upd H1 q<|.lst vs):=cK hq;exact k q vs _ (s1.trans s2) (s1.free hq) aM<|d1.up s2
 .cases e⟩
end
end ZS
namespace ZS
open L2
def Uc:Z.Ty->String
|.bool=> "bool"|.int=> "int"|.str=> "str"|.tuple=> "tuple"|.list=> "list"|.dict=> "dict"
def tyD:Z.D->String
|.non=> "NoneType"|.bl _=> "bool"|.int _=> "int"|.str _=> "str"|.tup _=> "tuple"|.lst _=> "list"|.dct _ _=> "dict"
theorem Nz(K:Da)(t:Z.Ty)(d:Z.D):PySem.W.kitOne K (.type<|tyD d) (.type<|Uc t)=AC (Z.gA t d):=by cases t<;>cases d<;>kernel_rfl
theorem JQ(t:Z.Ty)(I:Inv X χ σ H s)(hd:bT X.K H d v)(r:RelV v u)
 (h:∀tk,Q (.bool<|Z.gA t d) {s with toks:=tk}):EQ (model X.prog X.w) A (call (.builtin "isinstance") [u,.type (Uc t)]) Q E s:=by
 have e:=Nz X.K t d;cases d with
 |non=>rw[hd.non]at r;cases (r);exact A95 PySem.W.kitx_none I.l3 IR e (λ z=>nomatch z) h
 |bl y=>rw[hd.bl]at r;cases (r);exact A95 PySem.W.kitx_bool I.l3 IR e (λ z=>nomatch z) h
 |int i=>rw[hd.int]at r;obtain⟨t',q⟩:=(r);cases q;exact A95 PySem.W.kitx_int I.l3 IR e (λ z=>nomatch z) h
 |str cs=>rw[hd.str]at r;obtain⟨t',q⟩:=(r);cases q;exact A95 PySem.W.kitx_str I.l3 IR e (λ z=>nomatch z) h
 |tup ds=>let⟨a,vs,rfl,hq,_⟩:=hd.tup;cases (r);let⟨bp,_,⟨o,h1,h2,_⟩,_⟩:=I.tuple hq;exact A95 PySem.W.kitx_tuple I.l3 ⟨o,h1,h2⟩ e (λ z=>nomatch z) h
 |lst ds=>let⟨a,vs,rfl,hq,_⟩:=hd.lst;cases (r);let⟨bp,_,⟨o,n,h1,h2,_⟩,_⟩:=I.list hq;exact A95 PySem.W.kitx_list I.l3 ⟨o,h1,h2⟩ e (λ z=>nomatch z) h
 |dct ks ds=>
  let⟨a,o,aV,rfl,hq,_⟩:=hd.dct;cases (r);obtain⟨_,_,_,_,_,o',es,ep,h1,h2,_⟩:=(I.bY a _ hq)
  exact A95 PySem.W.kitx_dict I.l3 ⟨o',h1,h2.1⟩ e (λ z=>nomatch z) h
theorem _root_.ZQ.fP(t:Z.Ty)(hg:Gl X x)(hm:X.mg x=At)(hv:bootBuiltins x=AC (.builtin "isinstance"))(hg2:Gl X y)(hm2:X.mg y=At)(Ts:bootBuiltins y=AC (.type<|Uc t))(ha:ZQ.QW X a fa)
 (hn:x≠ "__name__":=by decide +kernel) (gQ:(x==("__debug__"))=AT:=by decide +kernel) (Hw:y≠ "__name__":=by decide +kernel) (aaa:(y==("__debug__"))=AT:=by decide +kernel)
 (he:starEach (a::[.Name y p2]) X.env=(AT,eval a X.env)::starEach [.Name y p2] X.env:=by rfl) (fU:(backTo pos<|starEach [.Name y p2] X.env).any (·.1)=AT:=by rfl) (LH:starEach ((.Name y p2)::[]) X.env=(AT,eval (.Name y p2) X.env)::starEach [] X.env:=by rfl) :
 ZQ.QE X (.Call (.Name x p1) [a,.Name y p2] [] pos) (Z.eU (Z.ky t) fa):=⟨by
 have hc:n? X (.builtin "isinstance") (λ xs H Q=>∃v d,xs=[v,.ty (Uc t)]/\bT X.K H d v/\Q (.bl<|Z.gA t d) H):=by intro χ s σ H xs us Q I r h;let⟨v,d,rfl,hd,q⟩:=h;let⟨u,w',rfl,r1,r2⟩:=vals2 r;cases (r2);exact JQ t I hd r1 λ tk=>⟨.bl _,H,I.tok _,rfl,q⟩
 refine PE.imp (km hc hg hm hv (bM ha.p (bM (MH (v:=.ty (Uc t)) hg2 hm2 Ts rfl Hw aaa) cX LH) he) hn gQ he fU) ?_;rintro σ H Q ⟨ρ,d,r,e,k⟩;let⟨x,ea,e⟩:=XV e;cases e;exact⟨ρ,x,r,ea,λ v H1 s1 d1=>⟨v,x,rfl,d1,k _ H1 s1 c7⟩⟩⟩
theorem _root_.ZQ.bF{x:Str}(hm:X.mg x=At)(ha:ZQ.QW X a fa)(hn:x≠ "__name__":=by decide +kernel)(gQ:(x == ("__debug__"))=AT:=by decide +kernel)(he:Se a [] X.env:=by rfl)(fU:Pn pos [] X.env:=by rfl)(hg:Gl X x:=by rfl)(hv:bootBuiltins x=AC (.builtin "len"):=by kernel_rfl):ZQ.QE X (.Call (.Name x p1) [a] [] pos) (Z.eU Z.cL fa):=
 ⟨PE.imp (km K6 hg hm hv (bM ha.p cX he) hn gQ he fU) <|by
  rintro σ H Q ⟨ρ,d,r,e,k⟩;let⟨x,ea,e⟩:=XV e;refine⟨ρ,x,r,ea,λ v H1 s1 d1=>?_⟩;unfold Z.cL at e;split at e
  .unfold Z.guard at e;split at e
   .rename_i cs hl;cases e;rw[d1.str];refine⟨_,_,rfl,⟨?_,?_⟩,k _ H1 s1 c6⟩
    .show cs.toArray.size<=sizeLine;rw[A23];simpa using hl
    .show cs.length=cs.toArray.size;simp
   .cases e
  .cases e;let⟨q,vs,rfl,hq,t⟩:=d1.tup;refine⟨_,_,rfl,.inr ⟨vs,hq,rfl⟩,?_⟩;rw[t.length];exact k _ H1 s1 c6
  .cases e;let⟨q,vs,rfl,hq,t⟩:=d1.lst;refine⟨_,_,rfl,.inl ⟨vs,hq,rfl⟩,?_⟩;rw[t.length];exact k _ H1 s1 c6
  .cases e⟩
theorem RD(n:Nat)(i:Int):Z.xn n i=VN n i:=rfl
theorem atZ{K:Da}(t:aG K H ds vs)(h:((Z.xn ds.length i).bind λ j=>ds[j]?)=AC d):∃v,SH vs i=AC v/\Den K H d v:=by
 unfold SH;rw[t.length,<-RD];cases q:Z.xn _ i with
 |none=>rw[q]at h;cases h
 |some j=>rw[q]at h;exact t.get h
theorem _root_.ZQ.aH(ha:ZQ.QW X a fa)(hb:ZQ.QW X b fb)(hs:zm b:=by intro _ _;rfl):ZQ.QE X (.Subscript a b pos) (Z.eB Z.aR fa fb):=⟨PE.imp (Pj JO ha.p hb.p hs) (two λ x y dx dy d H Q h1 h2 e k=>by
 unfold Z.aR at e;split at e
 .let⟨q,vs,rfl,hq,t⟩:=h1.tup;split at e
  .rename_i v hv;cases e;let⟨w,e1,dw⟩:=atZ t hv;exact .inr<|.inl ⟨q,vs,_,w,rfl,h2.int,hq,e1,k w H (aJ.refl H) dw⟩
  .cases e
 .let⟨q,vs,rfl,hq,t⟩:=h1.lst;split at e
  .rename_i v hv;cases e;let⟨w,e1,dw⟩:=atZ t hv;exact .inl ⟨q,vs,_,w,rfl,h2.int,hq,e1,k w H (aJ.refl H) dw⟩
  .cases e
 .unfold Z.guard at e;split at e
  .rename_i cs i hl;split at e
   .rename_i c hc;cases e;refine .inr<|.inr ⟨_,_,c,h1.str,h2.int,?_,?_,?_⟩
    .show cs.toArray.size<=sizeLine;rw[A23];simpa using hl
    .exact hc
    .exact k _ H (aJ.refl H)<|j0
   .cases e
  .cases e
 .cases e)⟩
theorem _root_.ZQ.Br:ZQ.QP X At Z.MI:=⟨PO.imp My <|by rintro σ H Q ⟨ρ,o,r,e,k⟩;cases e;exact k H<|aJ.refl H⟩
theorem _root_.ZQ.kI(h:ZQ.QW X e f):ZQ.QP X (AC e) (Z.su f):=⟨PO.imp (Mx h.p) <|by
 rintro σ H Q ⟨ρ,o,r,e,k⟩;let⟨x,ea,e⟩:=XV e;refine⟨ρ,x,r,ea,λ v H1 s1 d1=>?_⟩;split at e
 .cases e;exact⟨_,d1.int,k H1 s1⟩
 .cases e⟩
theorem qI(n d:Nat)(o:ε Int):Z.eI n d o=HT.eI n d o:=by cases o<;>rfl
theorem Dy{K:Da}(t:aG K H ds vs)(lo hi:ε Int):aG K H (Z.cut ds lo hi) (wu vs lo hi):=by unfold Z.cut wu;rw[qI,qI,t.length];exact(t.drop _).take _
theorem G_{lo hi:ε Int}(h1:HT.eI xs.length 0 lo=0)(h2:HT.eI xs.length xs.length hi=xs.length):Z.cut xs lo hi=xs:=by unfold Z.cut;rw[qI,qI,h1,h2];simp
def ZL(K:Da):V->ε Int->ε Int->Hp->VK->Prop:=λ x lo hi H Q=>∃a xs,x=.ref a/\nz K H a xs/\(wu xs lo hi=xs->Q (.ref a) H)/\∀p,H p=At->Q (.ref p) (upd H p<|.tup<|wu xs lo hi)
theorem nH{lo hi:ε Int}(ht:IsTup s.heap t items)(hs:s.heap.IsSliceOf sl vl vu .none)(pl:IsPart vl lo)(pu:IsPart vu hi)
 (hw:HT.eI items.size 0 lo=0/\HT.eI items.size items.size hi=items.size)
 (h:Q (.ref t) s):EQ (model prog w) A (getItem (.ref t)<|.ref sl) Q E s:=by
 let⟨os,RR,E3,Wk⟩:=id hs;have hTs:s.TypeIs (.ref sl) "slice":=⟨os,RR,E3⟩
 unfold getItem
 try with_reducible refine A38 ?_
 first|refine T0<|P3 ?_|skip
 refine T0<|wpAny_sequenceKey ht.typeIs ∅ ?_;refine T0 (B03 (name:=Db "__getitem__") ht.typeIs B04
 <|B05 B04 ht.typeIs entry_tuple_getitem ?_<|args_tuple_getitem _ _)
 show EQ _ _ (Uf (.ref t)>>=_) _ _ s;refine T0<|tupleItemsOf_ ht ?_;refine T0<|wpAny_typeOf hTs ?_;rw[M2 ∅];refine T0<|HT.ki hs pl pu ?_;have _v:(((HT.eI items.size 0 lo):Int)==0&&(1:Int)==1&&(HT.eI items.size items.size hi-HT.eI items.size 0 lo)==items.size)=Ch:=by rw[hw.1,hw.2];simp
 show EQ _ _ (if(((HT.eI items.size 0 lo:Nat):Int)==0&&(1:Int)==1&&(HT.eI items.size items.size hi-HT.eI items.size 0 lo)==items.size)=Ch then _ else _) _ _ s;rw[M2 _v];refine T0 ?_;unfold Builtin.Tuple.tupleIsExact;refine T0<|wpAny_typeOf ht.typeIs ?_;refine P3 ?_;rw[M2<|A94 _];refine T0<|B28 ?_;exact P3 ⟨.ref t,rfl,P3 h⟩
theorem Mf:OY X (ZL X.K):=by
 intro χ s σ H x v vl vu lo hi sl Q I rx hs pl pu h;let⟨a,xs,rfl,hx,q1,q2⟩:=h;by_cases hw:HT.eI xs.length 0 lo=0/\HT.eI xs.length xs.length hi=xs.length
 .cases rx;let⟨bp,r,ht,hz⟩:=I.tuple hx;have ψ:bp.toArray.size=xs.length:=by rw[A10];exact r.length.symm
  refine⟨"tuple",_,B04.lookup,ht.typeIs,?_⟩;refine nH ht hs pl pu (by rw[ψ];exact hw) ⟨.ref a,H,I,rfl,q1 ?_⟩;have:=G_ hw.1 hw.2;unfold Z.cut at this;rw[qI,qI]at this;exact this
 .exact Qt χ s σ H _ v vl vu lo hi sl Q I rx hs pl pu ⟨a,xs,rfl,hx,hw,q2⟩
def ZN:V->ε Int->ε Int->Hp->VK->Prop:=λ x lo hi H Q=>∃z,x=.str z/\z.length<=sizeLine/\Q (.str<|Txt.slice z lo hi) H
theorem IW(h:IsPart v o):∃q,v=partValue q/\q.map (·.1)=o:=by
 cases h with
 |none=>exact⟨At,rfl,rfl⟩
 |int i t=>exact⟨AC (i,t),rfl,rfl⟩
theorem Mg:OY X ZN:=by intro χ s σ H x v vl vu lo hi sl Q I rx hs pl pu h;let⟨z,rfl,hz,q⟩:=h;let⟨t,rfl⟩:=rx;let⟨ql,rfl,rfl⟩:=IW pl;let⟨qu,rfl,rfl⟩:=IW pu;refine⟨"str",_,F.slot_str_getitem.lookup,typeIs_str _ _ _,?_⟩;refine wpAny_getItem_str_slice (st:=At) hs rfl ?_;refine post_val_or_str ⟨A15 (Txt.slice_le z _ _) hz,λ t' k=>⟨.str _,H,I.tok _,⟨t',rfl⟩,q⟩⟩
theorem _root_.ZQ.kK{lo hi:ε ι}(ha:ZQ.QW X a fa)(hl:ZQ.QP X lo gl)(hh:ZQ.QP X hi gh):ZQ.QE X (.Subscript a (.Slice lo hi At p2) pos) (Z.Hz fa gl gh):=
 ⟨have hl:=hl.p;PE.imp (Am (Mg.or Mf) ha.p hl hh.p) <|by
  rintro σ H Q ⟨ρ,d,r,e,k⟩;let⟨x,ea,e⟩:=XV e;let⟨l,el,e⟩:=XV e;let⟨h,eh,e⟩:=XV e;refine⟨ρ,x,r,ea,λ v H1 s1 d1=>⟨ρ,l,r.up s1,el,λ H2 s2=>⟨ρ,h,(r.up s1).up s2,eh,λ H3 s3=>?_⟩⟩⟩;have Ls:=(s1.trans s2).trans s3;have d3:=(d1.up s2).up s3;unfold Z.Td at e;split at e
  .unfold Z.guard at e;split at e
   .rename_i cs _ _ hl;cases e;refine .inl ⟨_,d3.str,?_,?_⟩
    .show cs.toArray.size<=sizeLine;rw[A23];simpa using hl
    .rw[Uv];exact k _ H3 Ls j0
   .cases e
  .cases e;let⟨q,vs,rfl,hq,t⟩:=d3.tup;refine .inr ⟨q,vs,rfl,hq,λ hw=>?_,λ z hz=>?_⟩
   .have:=Dy t l h;rw[hw]at this;exact k _ H3 Ls<|f? hq this
   .have s4:aJ H3 (upd H3 z<|.tup<|wu vs l h):=cK hz;exact k _ _ (Ls.trans s4)<|f? (.inl<|.inl aM)<|(Dy t l h).up s4
  .cases e⟩
theorem _root_.ZQ.uX{lo hi:ε ι}(ha:ZQ.QW X a fa)(hl:ZQ.QP X lo gl)(hh:ZQ.QP X hi gh):ZQ.QL X (.Subscript a (.Slice lo hi At p2) pos) (Z.Nu fa gl gh):=
 ⟨PE.imp (Am Mh ha.p hl.p hh.p) <|by
  rintro σ H Q ⟨ρ,d,r,e,k⟩;let⟨x,ea,e⟩:=XV e;let⟨l,el,e⟩:=XV e;let⟨h,eh,e⟩:=XV e;refine⟨ρ,x,r,ea,λ v H1 s1 d1=>⟨ρ,l,r.up s1,el,λ H2 s2=>⟨ρ,h,(r.up s1).up s2,eh,λ H3 s3=>?_⟩⟩⟩;have Ls:=(s1.trans s2).trans s3;have d3:=(d1.up s2).up s3;split at e
  .cases e;let⟨q,vs,rfl,hq,t⟩:=d3.lst;refine⟨q,vs,rfl,hq,λ z hz=>?_⟩;have s4:aJ H3 (upd H3 z<|.lst<|wu vs l h):=cK hz;exact k z _ _ (Ls.trans s4) (Ls.free hz) aM<|(Dy t l h).up s4
  .cases e⟩
def UR(K:Da):R2:=λ x y H Q=>∃l b xs zs,x=.ref l/\y=.ref b/\jE K H l xs/\jE K H b zs/\xs.length+zs.length<=sizeLine/\∀p,H p=At->Q (.ref p) (upd H p<|.lst<|xs++zs)
theorem MQ:jN X (binaryOp .Add) (UR X.K):=by
 intro χ s σ H x y v u Q I rx ry h;let⟨l,b,xs,zs,rfl,rfl,hH,hB,hz,q⟩:=h;cases rx;cases ry;let⟨bp,r,pl,_⟩:=I.list hH;let⟨iF,r2,pl2,_⟩:=I.list hB;have hl:=r.length;have NY:=r2.length;let⟨⟨cls,dd,data,sl⟩,ho,hc,n,hd⟩:=id pl.isList;let⟨⟨WW,TN,data2,S9⟩,Hv,vC,n2,hd2⟩:=id pl2.isList;simp only at hc hd vC hd2;subst hc hd vC hd2;have ea:bp.toArray++iF.toArray=(bp++iF).toArray:=by simp
 refine B47 ⟨_,ho,rfl⟩ ⟨_,Hv,rfl⟩ noFill_list_add seq_list_add PySem.F.slot_list_add PySem.F.entry_list_add (PySem.F.args_list_add_2 _ _) (list_addW l b _ _ n n2 dd TN sl S9 (by simp only[A10];lia)) ⟨ho,Hv,?_⟩;rw[ea];exact⟨.ref _,_,I.VC (r.append r2) (by rw[A30];lia),rfl,q _ I.fresh⟩
theorem _root_.ZQ.Du(ha:ZQ.QW X a fa)(hb:ZQ.QW X b fb):ZQ.QL X (.BinOp a .Add b pos) (Z.GC fa fb):=⟨PE.imp (Ex MQ ha.p hb.p) <|by
 rintro σ H Q ⟨ρ,d,r,e,k⟩;let⟨x,ea,e⟩:=XV e;let⟨y,eb,e⟩:=XV e;refine⟨ρ,x,r,ea,λ v H1 s1 d1=>⟨ρ,y,r.up s1,eb,λ u H2 s2 d2=>?_⟩⟩;have UE:=s1.trans s2;split at e
 .unfold Z.guard at e;split at e
  .rename_i xs ys hl;cases e;obtain⟨q,vs,rfl,hq,t⟩:=(d1.up s2).lst;let⟨q',vs',rfl,gB,t'⟩:=d2.lst;refine⟨q,q',vs,vs',rfl,rfl,hq,gB,by rw[t.length,t'.length,A23];exact hl,λ z hz=>?_⟩;have s3:aJ H2 (upd H2 z<|.lst<|vs++vs'):=cK hz;exact k z _ _ (UE.trans s3) (UE.free hz) aM<|(t.append t').up s3
  .cases e
 .cases e⟩
def zq(K:Da)(m:γ Z.D->Z.Res Z.D):Sp:=λ vs H Q _=>∃ds d,aG K H ds vs/\m ds=.ok d/\∀v H',aJ H H'->Den K H' d v->Q v H'
theorem OA(F:eY X.prog X.w X.K X.mg X.base iV k g fd ps (zq X.K m))(hr:bL k X.A)(hg:Gl X x)(hm:X.mg x=AC (.ref g))(hk:FM X.K (.ref g)=Ch)(hb:Binds X.K fd ps [])
 (ha:DA X (e::es) ar) (gQ:(x==("__debug__"))=AT:=by decide +kernel) (he:Se e es X.env:=by rfl) (fU:Pn pos es X.env:=by rfl) :
 DE X (.Call (.Name x p1) (e::es) [] pos) (Z.aE m ar):=
 PE.imp (yn F hr hg hm hk hb .nil uf ha gQ he fU) <|by rintro σ H Q ⟨ρ,d,r,e,k⟩;let⟨ds,ea,e⟩:=XV e;refine⟨ρ,ds,r,ea,λ vs H1 s1 d1=>?_⟩;show zq X.K m _ H1 Q E0;rw[A51];exact⟨ds,d,d1,e,λ v H' s2 dv=>k v H' (s1.trans s2) dv⟩
structure Fz(K:Da)(J:It)(S:Hp->Prop)(ds:List Z.D):Prop where
 go:∀(i:Nat)(d:Z.D)(H1:Hp),S H1->ds[i]?=AC d->J.go i H1
 BY:∀(i:Nat)(d:Z.D)(H1 H2:Hp)(x:V),S H1->ds[i]?=AC d->J.BY i H1 x H2->aJ H1 H2/\Den K H2 d x
 stop:∀(H1:Hp),S H1->J.stop ds.length H1
def tZi(K:Da)(f:Z.LF):TI:=λ σ H R=>∃ρ ds,RE K H σ ρ/\f ρ=.ok ds/\∀J H',aJ H H'->Fz K J (aJ H') ds->R J H'
def tZj(K:Da)(f:Z.LF):TI:=λ σ H R=>∃ρ ds,RE K H σ ρ/\f ρ=.ok ds/\∀J H',aJ H H'->Fz K J (gU H') ds->R J H'
abbrev DI(X:Cx)(tg e:ι)(f:Z.LF):Prop:=PI X tg e<|tZi X.K f
structure _root_.ZQ.QI(X:Cx)(tg e:Expr)(f:Z.LF):Prop where p:DI X tg e f
abbrev DJ(X:Cx)(tg e:ι)(f:Z.LF):Prop:=PI X tg e<|tZj X.K f
structure _root_.ZQ.QJ(X:Cx)(tg e:Expr)(f:Z.LF):Prop where p:DJ X tg e f
section
variable{X:Cx}{tg e a b:ι}{es:γ ι}{pos p:Pos}{f fa fb:Z.EF}
theorem PI.imp(h:PI X tg e t)(k:∀σ H R,t' σ H R->t σ H R):PI X tg e t':=λ χ s σ H R I w=>h χ s σ H R I<|k σ H R w
theorem Fz.imp{K:Da}(h:Fz K J S ds)(k:∀H,S' H->S H):Fz K J S' ds:=
 ⟨λ i d H1 s=>h.go i d H1<|k _ s,λ i d H1 H2 x s=>h.BY i d H1 H2 x<|k _ s,λ H1 s=>h.stop H1<|k _ s⟩
theorem _root_.ZQ.Dw(h:ZQ.QJ X tg e g):ZQ.QI X tg e g:=⟨PI.imp h.p <|by rintro σ H R ⟨ρ,ds,r,e,k⟩;exact⟨ρ,ds,r,e,λ J H' s z=>k J H' s<|z.imp λ _ q=>kM q⟩⟩
theorem NI{K:Da}(h:nz K H q vs)(t:aG K H ds vs):Fz K (Itt K q) (gU H) ds where
 go:=λ i d H1 s hi=>by let⟨v,h1,_⟩:=t.get hi;exact⟨vs,v,fV s h,h1⟩
 BY:=λ i d H1 H2 x s hi y=>by let⟨e,y⟩:=y;let⟨v,h1,h2⟩:=t.get hi;have:=y vs<|fV s h;rw[h1]at this;cases this;subst e;exact⟨aJ.refl _,h2.ups s⟩
 stop:=λ H1 s=>⟨vs,fV s h,by rw[t.length];exact v4 _⟩
theorem NK{K:Da}(h:∀H1,S H1->jE K H1 q vs)(t:∀H1,S H1->aG K H1 ds vs)(t0:aG K H ds vs):Fz K (Itl K q) S ds where
 go:=λ i d H1 s hi=>by let⟨v,h1,_⟩:=t0.get hi;exact⟨vs,v,h H1 s,h1⟩
 BY:=λ i d H1 H2 x s hi y=>by let⟨e,y⟩:=y;obtain⟨v,h1,h2⟩:=(t H1 s).get hi;have:=y vs<|h H1 s;rw[h1]at this;cases this;subst e;exact⟨aJ.refl _,h2⟩
 stop:=λ H1 s=>⟨vs,h H1 s,by rw[t0.length];exact v4 _⟩
theorem ints_get(lo:Int)(n i:Nat)(d:Z.D)(h:(Z.zints lo n)[i]?=AC d):i<n/\d=.int (lo+i):=by
 unfold Z.zints at h;rw[A06]at h;cases q:(Ev n)[i]? with
 |none=>rw[q]at h;cases h
 |some j=>rw[q]at h;cases h;let⟨h1,h2⟩:=A08.mp q;rw[B27]at h1;rw[B99]at h2;subst h2;exact⟨h1,rfl⟩
theorem EW{K:Da}(lo:Int)(n:Nat):Fz K (P9 lo n) S (Z.zints lo n) where
 go:=λ i d H1 s hi=>(ints_get lo n i d hi).1
 BY:=λ i d H1 H2 x s hi y=>by let⟨e,y⟩:=y;let⟨_,rfl⟩:=ints_get lo n i d hi;subst e;rw[y];exact⟨aJ.refl _,c6⟩
 stop:=λ H1 s=>by unfold Z.zints;rw[A05,B27];exact v4 _
theorem FU{K:Da}(it:δ)(lo:Int)(n:Nat):Turn P w K tg (P9 lo n) [it] it (λ i h=>IsLongIter h it (lo+(i)*1) ((n)-(i)) 1) where
 mem:=by simp
 obj:=λ i h st b hb=>by
  have e:b=it:=by simpa using hb
  subst e;exact⟨_,st,λ v z=>by have z':=z;cases z'⟩
 keep:=λ i h h' st k=>k it ∅ _ st
 item:=by intro X hP hw hK hc i χ s σ H E I hf st hg;subst hP hw hK;let⟨f0,f1,f2,f3,f4,f5⟩:=hf it ∅;have W:=Walks.longrange (prog:=X.prog) (w:=X.w) (I.ok.hd hc) it lo 1 n;refine W.item i s _ _ hg st λ v h' tk hv wR kk=>?_;let⟨t,rfl⟩:=hv;have I1:Inv X χ σ H {s with heap:=h',toks:=tk}:=I.turned (λ b o hb e=>kk b o (by simpa using hb) e) f0 f1 f3 f4 f5;refine⟨_,rfl,xt wR rfl rfl ∅ ⟨.int _,H,I1,⟨t,?_⟩,⟨rfl,rfl⟩,wR,λ b hb=>(hf b hb).1⟩⟩;rw[B46]
 done:=by intro X hP hw hK hc i χ s σ H E I hf st hg;subst hP hw hK;let⟨f0,f1,f2,f3,f4,f5⟩:=hf it ∅;exact wpAny_pyNext_long_end (I.ok.hd hc) st (by have:n<=i:=hg;lia) λ h' eb=>⟨rfl,I.turned (λ b o hb e=>eb b o hb e) f0 f1 f3 f4 f5⟩
 self:=λ _ _ _ _ _ st h=>wpAny_pyIter_longiter st h
theorem range_any{lo hi:Int}{t u v:Tok}{tk:Nat}(I:Inv X χ σ H s)
 (q:R (P9 lo (hi-lo).toNat) H):EQ (model X.prog X.w) X.A (pyIter<|.ref s.heap.objs.size) (Y3 X χ σ tg R) E {s with heap:=s.heap.push {cls:=.type "range",data:=.fields #[.int lo t,.int hi u,.int 1 v]},toks:=tk}:=by
 have I1:Inv X χ σ H {s with heap:=s.heap.push {cls:=.type "range",data:=.fields #[.int lo t,.int hi u,.int 1 v]},toks:=tk}:=I.kept λ b o e=>v6 _ e;have e1:lo+((0:Nat):Int)*1=lo:=by simp
 have e2:(((hi-lo).toNat:Nat):Int)-((0:Nat):Int)=Builtin.Range.rangeSize lo hi 1:=by rw[rangeSize_one];split<;>lia
 cases hs:Builtin.Range.small lo hi 1 with
 |true=>
  refine wpAny_pyIter_range (IsRange.new ..) hs ?_;refine⟨(s.heap.push {cls:=.type "range",data:=.fields #[.int lo t,.int hi u,.int 1 v]}).objs.size,[(s.heap.push {cls:=.type "range",data:=.fields #[.int lo t,.int hi u,.int 1 v]}).objs.size],_,_,H,rfl,
   I1.kept (t':=tk) λ b o e=>v6 _ e,Cg _ lo (hi-lo).toNat,?_,λ b hb=>?_,q⟩
  .show IsRangeIter _ _ (lo+((0:Nat):Int)*1) ((((hi-lo).toNat:Nat):Int)-((0:Nat):Int)) 1;rw[e1,e2];exact A14 _ rfl
  .have e:b=(s.heap.push {cls:=.type "range",data:=.fields #[.int lo t,.int hi u,.int 1 v]}).objs.size:=by simpa using hb
   subst e;exact I1.uN (v4 _)<|I1.bY.fresh<|v4 _
 |false=>
  refine wpAny_pyIter_longrange (IsRange.new ..) hs ?_;refine⟨(s.heap.push {cls:=.type "range",data:=.fields #[.int lo t,.int hi u,.int 1 v]}).objs.size,[(s.heap.push {cls:=.type "range",data:=.fields #[.int lo t,.int hi u,.int 1 v]}).objs.size],_,_,H,rfl,
   I1.kept (t':=tk) λ b o e=>v6 _ e,FU _ lo (hi-lo).toNat,?_,λ b hb=>?_,q⟩
  .show IsLongIter _ _ (lo+((0:Nat):Int)*1) ((((hi-lo).toNat:Nat):Int)-((0:Nat):Int)) 1;rw[e1,e2];exact A14 _ rfl
  .have e:b=(s.heap.push {cls:=.type "range",data:=.fields #[.int lo t,.int hi u,.int 1 v]}).objs.size:=by simpa using hb
   subst e;exact I1.uN (v4 _)<|I1.bY.fresh<|v4 _
def W!(ta:TA):TI:=λ σ H R=>ta σ H λ vs H1=>∃j:Int,vs=[.int j]/\R (P9 0 j.toNat) H1
def W'(ta:TA):TI:=λ σ H R=>ta σ H λ vs H1=>∃i j:Int,vs=[.int i,.int j]/\R (P9 i (j-i).toNat) H1
theorem MA(hg:Gl X "range")(hm:X.mg "range"=At)(ha:PA X [a] ta)(hs:starEach [a] X.env=[(AT,eval a X.env)]:=by rfl):PI X tg (.Call (.Name "range" p) [a] [] pos) (W! ta):=by
 intro χ s σ H R I h;refine Call_<|lq I hg hm boot_range<|B22 (cG (ha pos χ s σ H _ I h) ?_) hs rfl;rintro us s1 ⟨vs,H1,I1,r1,q1⟩;let⟨j,e,q⟩:=q1;subst e;cases r1 with
 |cons r rr=>cases rr;let⟨t,rfl⟩:=r;exact call_range_1<|range_any I1 (by simpa using q)
theorem Mz(hg:Gl X "range")(hm:X.mg "range"=At)(ha:PA X [a,b] ta)(hs:starEach [a,b] X.env=[(AT,eval a X.env),(AT,eval b X.env)]:=by rfl)(yL:starEach [b] X.env=[(AT,eval b X.env)]:=by rfl):
 PI X tg (.Call (.Name "range" p) [a,b] [] pos) (W' ta):=by
 intro χ s σ H R I h;refine Call_<|lq I hg hm boot_range<|B22 (cG (ha pos χ s σ H _ I h) ?_) (by rw[hs,yL]) (by rw[yL];rfl);rintro us s1 ⟨vs,H1,I1,r1,q1⟩;let⟨i,j,e,q⟩:=q1;subst e;cases r1 with
 |cons r rr=>
  cases rr with
  |cons r' rr=>cases rr;let⟨t,rfl⟩:=r;let⟨t',rfl⟩:=r';exact call_range_2<|range_any I1 q
theorem _root_.ZQ.dC(hm:X.mg "range"=At)(ha:ZQ.QE X a fa)(hs:starEach [a] X.env=[(AT,eval a X.env)]:=by rfl)(oJ:Se a [] X.env:=by rfl)(hg:Gl X "range":=by rfl):ZQ.QJ X tg (.Call (.Name "range" p) [a] [] pos) (Z.fW fa):=
 ⟨PI.imp (MA hg hm (bM ha.p cX oJ) hs) <|by
  rintro σ H R ⟨ρ,ds,r,e,k⟩;let⟨x,ea,e⟩:=XV e;refine⟨ρ,x,r,ea,λ v H1 s1 d1=>?_⟩;split at e
  .rename_i j;cases e;simp only[Den]at d1;exact⟨j,by rw[d1],k _ H1 s1<|EW 0 _⟩
  .cases e⟩
theorem _root_.ZQ.Bt(hm:X.mg "range"=At)(ha:ZQ.QE X a fa)(hb:ZQ.QE X b fb)(hs:starEach [a,b] X.env=[(AT,eval a X.env),(AT,eval b X.env)]:=by rfl)(yL:starEach [b] X.env=[(AT,eval b X.env)]:=by rfl)(h1:Se a [b] X.env:=by rfl)(h2:Se b [] X.env:=by rfl)(hg:Gl X "range":=by rfl):ZQ.QJ X tg (.Call (.Name "range" p) [a,b] [] pos) (Z.A1 fa fb):=
 ⟨PI.imp (Mz hg hm (bM ha.p (bM hb.p cX h2) h1) hs yL) <|by
  rintro σ H R ⟨ρ,ds,r,e,k⟩;let⟨x,ea,e⟩:=XV e;let⟨y,eb,e⟩:=XV e;obtain⟨i,j,rfl,rfl,rfl⟩:∃i j,x=.int i/\y=.int j/\ds=Z.zints i (j-i).toNat:=by
   split at e
   .cases e;exact⟨_,_,rfl,rfl,rfl⟩
   .cases e
  refine⟨ρ,_,r,ea,λ v H1 s1 d1=>⟨ρ,_,r.up s1,eb,λ u H2 s2 d2=>?_⟩⟩;simp only[Den]at d1 d2;exact⟨i,j,by rw[d1,d2],k _ H2 (s1.trans s2)<|EW i (j-i).toNat⟩⟩
def Its(z:Str):It:=⟨λ i _=>i<z.cps.size,λ i H x H'=>H'=H/\∃c,z.cps[i]?=AC c/\x=.str ⟨#[c]⟩,λ i _=>i=z.cps.size⟩
theorem HQ{K:Da}(z:Str)(it:δ)(n:String)(hn:["enumerate","zip","dict_itemiterator","dict_reverseitemiterator","odict_iterator","itertools.zip_longest","itertools.pairwise"].contains n=AT)(t:Tok)
 (W:∀A,A.handled=At->Walks P w A it [it] [it] z.cps.size (SignAt z) (λ i h=>h.IsStrIter it n z t i)) (self:∀A i s Q E,s.heap.IsStrIter it n z t i->Q (.ref it) s->EQ (model P w) A (pyIter<|.ref it) Q E s) :
 Turn P w K tg (Its z) [it] it (λ i h=>h.IsStrIter it n z t i) where
 mem:=by simp
 obj:=λ i h st b hb=>by
  have e:b=it:=by simpa using hb
  subst e;let⟨o,e,c,d⟩:=st;exact⟨o,e,λ v z=>by rw[d]at z;cases z⟩
 keep:=λ i h h' st k=>by let⟨o,e,c,d⟩:=st;exact⟨o,k it ∅ o e,c,d⟩
 item:=by intro X hP hw hK hc i χ s σ H E I hf st hg;subst hP hw hK;let⟨f0,f1,f2,f3,f4,f5⟩:=hf it ∅;refine(W X.A<|I.ok.hd hc).item i s _ _ hg st λ v h' tk hv wR kk=>?_;let⟨c,u,YC,rfl⟩:=hv;have I1:Inv X χ σ H {s with heap:=h',toks:=tk}:=I.turned (λ b o hb e=>kk b o (by simpa using hb) e) f0 f1 f3 f4 f5;let⟨o,e,c',d⟩:=id wR;exact⟨_,rfl,xt e c' d hn ⟨.str ⟨#[c]⟩,H,I1,⟨u,rfl⟩,⟨rfl,c,YC,rfl⟩,wR,λ b hb=>(hf b hb).1⟩⟩
 done:=by intro X hP hw hK hc i χ s σ H E I hf st hg;subst hP hw hK;let⟨f0,f1,f2,f3,f4,f5⟩:=hf it ∅;have Wc:=hg;subst Wc;exact(W X.A<|I.ok.hd hc).done s _ _ st λ h' tk kk=>⟨rfl,I.turned (λ b o hb e=>kk b o (by simpa using hb) e) f0 f1 f3 f4 f5⟩
 self:=self
theorem NJ{K:Da}(cs:γ Nat):Fz K (Its ⟨cs.toArray⟩) S (cs.map λ c=>.str [c]) where
 go:=λ i d H1 s hi=>by show i<cs.toArray.size;let⟨h1,_⟩:=A08.mp hi;simpa using h1
 BY:=λ i d H1 H2 x s hi y=>by
  let⟨e,c,hc,rfl⟩:=y;have vD:cs[i]?=AC c:=by simpa using hc
  rw[A06,vD]at hi;cases hi;subst e;exact⟨aJ.refl _,j0 ⟩
 stop:=λ H1 s=>by show(cs.map λ c=>Z.D.str [c]).length=cs.toArray.size;simp
theorem Il(I:Inv X χ σ H s)(rv:RelV v u)(hd:bT X.K H d v)(hi:Z.lW d=.ok ds)
 (hS:∀H1,S H1->gU H H1) (hL:∀es q vs,d=.lst es->v=.ref q->jE X.K H q vs->∀H1,S H1->jE X.K H1 q vs)
 (k:∀J,Fz X.K J S ds->R J H):EQ (model X.prog X.w) X.A (pyIter u) (Y3 X χ σ tg R) E s:=by
 unfold Z.lW at hi;split at hi
 .cases hi;let⟨q,vs,rfl,hq,t⟩:=hd.tup;cases rv;let⟨bp,r',pl,hz⟩:=I.tuple hq;refine B09 (pl) ?_;refine⟨s.heap.objs.size,[s.heap.objs.size],_,_,H,rfl,I.kept λ b o e=>v6 _ e,Cf q _,⟨_,A14 _ rfl,rfl,rfl⟩,λ b hb=>?_,k _<|(NI hq t).imp hS⟩;have e:b=s.heap.objs.size:=by simpa using hb
  subst e;exact I.uN (v4 _)<|I.bY.fresh<|v4 _
 .cases hi;let⟨q,vs,rfl,hq,t⟩:=hd.lst;cases rv;let⟨bp,r',pl,hz⟩:=I.list hq;refine A96 pl.isList ?_;refine⟨s.heap.objs.size,[s.heap.objs.size],_,_,H,rfl,I.kept λ b o e=>v6 _ e,FV q _,⟨_,A14 _ rfl,rfl,rfl⟩,λ b hb=>?_,
   k _<|NK (λ H1 s1=>hL _ q vs rfl rfl hq H1 s1) (λ H1 s1=>t.ups<|hS H1 s1) t⟩
  have e:b=s.heap.objs.size:=by simpa using hb
  subst e;exact I.uN (v4 _)<|I.bY.fresh<|v4 _
 .cases hi;rename_i cs;rw[hd.str]at rv;let⟨t,rfl⟩:=rv;have fin:∀n (hn:["enumerate","zip","dict_itemiterator","dict_reverseitemiterator","odict_iterator","itertools.zip_longest","itertools.pairwise"].contains n=AT)
   (W:∀A,A.handled=At->Walks X.prog X.w A s.heap.objs.size [s.heap.objs.size] [s.heap.objs.size] (⟨cs.toArray⟩:Str).cps.size (SignAt ⟨cs.toArray⟩) (λ i h=>h.IsStrIter s.heap.objs.size n ⟨cs.toArray⟩ t i))
   (self:∀A i s' Q E,s'.heap.IsStrIter s.heap.objs.size n ⟨cs.toArray⟩ t i->Q (.ref s.heap.objs.size) s'->EQ (model X.prog X.w) A (pyIter<|.ref s.heap.objs.size) Q E s'),
   Y3 X χ σ tg R (.ref s.heap.objs.size) {s with heap:=s.heap.push {cls:=.type n,data:=.fields #[.str ⟨cs.toArray⟩ t,.int 0 0]}}:=by
   intro n hn W self;refine⟨s.heap.objs.size,[s.heap.objs.size],_,_,H,rfl,I.kept λ b o e=>v6 _ e,HQ ⟨cs.toArray⟩ _ n hn t W self,⟨_,A14 _ rfl,rfl,rfl⟩,λ b hb=>?_,k _<|NJ cs⟩;have e:b=s.heap.objs.size:=by simpa using hb
   subst e;exact I.uN (v4 _)<|I.bY.fresh<|v4 _
  cases ha:(⟨cs.toArray⟩:Str).cps.all (· < 128)
  .exact wpAny_pyIter_wide ha<|fin "str_iterator" ∅ (λ A' hA=>Walks.strWide hA _ _ t) λ _ _ _ _ _ st hQ=>wpAny_pyIter_striter_wide st hQ
  .exact wpAny_pyIter_ascii ha<|fin "str_ascii_iterator" ∅ (λ A' hA=>Walks.strAscii hA _ _ t) λ _ _ _ _ _ st hQ=>wpAny_pyIter_striter_ascii st hQ
 .cases hi
theorem _root_.ZQ.cV(ha:ZQ.QW X a fa):ZQ.QI X tg a (Z.dS fa):=⟨by intro χ s σ H R I w;let⟨ρ,ds,r,e,k⟩:=w;let⟨d,ea,e⟩:=XV e;refine cG (ha.p χ s σ H (λ v H1=>aJ H H1/\bT X.K H1 d v) I ⟨ρ,d,r,ea,λ v H1 s1 d1=>⟨s1,d1⟩⟩) ?_;rintro u s1 ⟨v,H1,I1,rv,sm,hd⟩;exact Il I1 rv hd e (λ _ q=>kM q) (λ _ _ _ _ _ hq H2 s2=>s2.seq hq) λ J z=>k J H1 sm z⟩
theorem _root_.ZQ.uY(ha:ZQ.QE X a fa):ZQ.QJ X tg a (Z.dS fa):=⟨by intro χ s σ H R I w;let⟨ρ,ds,r,e,k⟩:=w;let⟨d,ea,e⟩:=XV e;refine cG (ha.p χ s σ H (λ v H1=>aJ H H1/\Den X.K H1 d v) I ⟨ρ,d,r,ea,λ v H1 s1 d1=>⟨s1,d1⟩⟩) ?_;rintro u s1 ⟨v,H1,I1,rv,sm,hd⟩;refine Il I1 rv (.inl hd) e (λ _ q=>q) (λ es q vs e1 e2 hq H2 s2=>?_) λ J z=>k J H1 sm z;subst e1;simp only[Den]at hd;let⟨q',vs',e3,hz,_⟩:=hd;rw[e2]at e3;cases e3;rw[I1.pR hq hz.sq];exact(hz.mono s2).sq⟩
def kL(H0:Hp)(σ:St)(ρ:Z.Env):Prop:=(∀(i j:Nat)(ks ls:Z.DK)(a:δ),ρ[i]?=AC (AC<|.dc ks)->ρ[j]?=AC (AC<|.dc ls)->σ[i]?=AC (AC<|.ref a)->σ[j]?=AC (AC<|.ref a)->i=j) /\
 ∀(i:Nat)(ks:Z.DK)(q:δ),ρ[i]?=AC (AC<|.dc ks)->σ[i]?=AC (AC<|.ref q)->H0 q=At
theorem kL.non(h:∀(i:Nat)(ks:Z.DK),ρ[i]?≠AC (AC<|.dc ks)):kL H0 σ ρ:=⟨λ i _ ks _ _ e=>absurd e<|h i ks,λ i ks _ e=>absurd e<|h i ks⟩
structure RS(K:Da)(H0 H:Hp)(σ:St)(ρ:Z.Env):Prop where
 same:aJ H0 H
 re:RE K H σ ρ
 fresh:∀(i:Nat)(xs:List Z.D)(q:Addr),ρ[i]?=AC (AC<|.own xs)->σ[i]?=AC (AC<|.ref q)->H0 q=At
 qk:∀(i:Nat)(d:Z.D),ρ[i]?=AC (AC<|.bor d)->∃v,σ[i]?=AC (AC v)/\FA K H0 d v
 zw:kL H0 σ ρ
def YK(K:Da)(H0 H:Hp)(D:Ends):Z.Fl->Prop
|.nx ρ'=>∀σ' H',gU H H'->RS K H0 H' σ' ρ'->D.nx σ' H'
|.rt d=>∀v H',aJ H0 H'->Den K H' d v->D.rt v H'
|.bk ρ'=>∀σ' H',gU H H'->RS K H0 H' σ' ρ'->D.bk σ' H'
|.ct ρ'=>∀σ' H',gU H H'->RS K H0 H' σ' ρ'->D.ct σ' H'
def tS(K:Da)(H0:Hp)(g:Z.SF):TS:=λ D σ H=>∃ρ fl,RS K H0 H σ ρ/\g ρ=.ok fl/\YK K H0 H D fl
abbrev DS(X:Cx)(H0:Hp)(st:η)(g:Z.SF):Prop:=PS X st<|tS X.K H0 g
structure _root_.ZQ.QS(X:Cx)(H0:Hp)(st:Stmt)(g:Z.SF):Prop where p:DS X H0 st g
abbrev LP(X:Cx)(H0:Hp)(st:γ η)(g:Z.SF):Prop:=rp X st<|tS X.K H0 g
structure _root_.ZQ.BK(X:Cx)(H0:Hp)(st:List Stmt)(g:Z.SF):Prop where p:LP X H0 st g
theorem PS.imp{st:η}(h:PS X st t)(k:∀D σ H,t' D σ H->t D σ H):PS X st t':=λ χ s σ H D I w=>h χ s σ H D I<|k D σ H w
theorem rp.imp{st:γ η}(h:rp X st t)(k:∀D σ H,t' D σ H->t D σ H):rp X st t':=λ χ s σ H D I w=>h χ s σ H D I<|k D σ H w
theorem RS.up{K:Da}(h:RS K H0 H σ ρ)(e:aJ H H'):RS K H0 H' σ ρ:=⟨h.same.trans e,h.re.up e,h.fresh,h.qk,h.zw⟩
theorem YK.up{K:Da}(h:YK K H0 H D fl)(e:gU H H1):YK K H0 H1 D fl:=by
 cases fl with
 |nx ρ'=>exact λ σ' H' s r=>h σ' H' (e.trans s) r
 |rt d=>exact h
 |bk ρ'=>exact λ σ' H' s r=>h σ' H' (e.trans s) r
 |ct ρ'=>exact λ σ' H' s r=>h σ' H' (e.trans s) r
theorem aQ{α:Type}{l:γ _}{x:ε α}{y:α}(h:(l.set i x)[j]?=AC (AC y)):(i=j/\i<l.length/\x=AC y)\/(i≠j/\l[j]?=AC (AC y)):=by
 by_cases uG:i=j
 .subst uG;by_cases hl:i<l.length
  .rw[A37 hl]at h;exact .inl ⟨rfl,hl,A04 h⟩
  .rw[B53 (by simpa using hl)]at h;cases h
 .rw[A29 uG]at h;exact .inr ⟨uG,h⟩
theorem kL.set(h:kL H0 σ ρ)(n:∀ks,l≠.dc ks):kL H0 (σ.set i<|some v) (ρ.set i<|some l):=by
 have get:∀(j:Nat) ks,(ρ.set i _)[j]?=AC _->ρ[j]?=AC _/\(σ.set i<|some v)[j]?=σ[j]?:=λ j ks e=>by
  rcases aQ e with⟨_,_,e⟩|⟨hj,e⟩
  .exact absurd (A04 e)<|n ks
  .exact⟨e,A29 hj⟩
 exact⟨λ j k ks ls a e1 e2 e3 e4=>h.1 j k ks ls a (get j ks e1).1 (get k ls e2).1 (by rw[<-(get j ks e1).2];exact e3) (by rw[<-(get k ls e2).2];exact e4),λ j ks q e1 e2=>h.2 j ks q (get j ks e1).1 (by rw[<-(get j ks e1).2];exact e2)⟩
theorem kL.Uy(h:kL H0 σ ρ)(n:∀ks,l≠.dc ks):kL H0 σ (ρ.set i<|some l):=by
 have get:∀(j:Nat) ks,(ρ.set i _)[j]?=AC _->ρ[j]?=AC _:=λ j ks e=>by
  rcases aQ e with⟨_,_,e⟩|⟨hj,e⟩
  .exact absurd (A04 e)<|n ks
  .exact e
 exact⟨λ j k ks ls a e1 e2 e3 e4=>h.1 j k ks ls a (get j ks e1) (get k ls e2) e3 e4,λ j ks q e1 e2=>h.2 j ks q (get j ks e1) e2⟩
theorem RS.vN{K:FS}(h:RS K H0 H σ ρ)(hd:Den K H d v):RS K H0 H (σ.set i<|some v) (ρ.set i<|some<|.val d):=by
 have getσ:∀j,i≠j->(σ.set i<|some v)[j]?=σ[j]?:=λ j hj=>A29 hj;refine⟨h.same,⟨by simp[h.re.len],λ j l e=>?_,λ j k xs ys q e1 e2 e3 e4=>?_⟩,λ j xs q e1 e2=>?_,λ j xs e1=>?_,h.zw.set λ _ z=>nomatch z⟩
 .rcases aQ e with⟨rfl,hl,e⟩|⟨hj,e⟩
  .cases e;exact⟨v,A37 (by rw[<-h.re.len];exact hl),hd⟩
  .rw[getσ j hj];exact h.re.get j l e
 .rcases aQ e1 with⟨_,_,e⟩|⟨hj,e1⟩
  .cases e
  .rcases aQ e2 with⟨_,_,e⟩|⟨hk,e2⟩
   .cases e
   .rw[getσ j hj]at e3;rw[getσ k hk]at e4;exact h.re.sep j k xs ys q e1 e2 e3 e4
 .rcases aQ e1 with⟨_,_,e⟩|⟨hj,e1⟩
  .cases e
  .rw[getσ j hj]at e2;exact h.fresh j xs q e1 e2
 .rcases aQ e1 with⟨_,_,e⟩|⟨hj,e1⟩
  .cases e
  .rw[getσ j hj];exact h.qk j xs e1
theorem RS.Uz{K:FS}(h:RS K H0 H σ ρ)(hq:H q=AC (.lst vs))(t:aG K H ds vs)(h0:H0 q=At)
 (nq:∀j xs,j≠i->ρ[j]?=AC (AC<|.own xs)->σ[j]?≠AC (AC<|.ref q)):RS K H0 H (σ.set i<|some<|.ref q) (ρ.set i<|some<|.own ds):=by
 have getσ:∀j,i≠j->(σ.set i<|some<|V.ref q)[j]?=σ[j]?:=λ j hj=>A29 hj;refine⟨h.same,⟨by simp[h.re.len],λ j l e=>?_,λ j k xs ys p e1 e2 e3 e4=>?_⟩,λ j xs p e1 e2=>?_,λ j xs e1=>?_,h.zw.set λ _ z=>nomatch z⟩
 .rcases aQ e with⟨rfl,hl,e⟩|⟨hj,e⟩
  .cases e;exact⟨_,A37 (by rw[<-h.re.len];exact hl),q,vs,rfl,hq,t⟩
  .rw[getσ j hj];exact h.re.get j l e
 .rcases aQ e1 with⟨rfl,hl,_⟩|⟨hj,e1⟩
  .rcases aQ e2 with⟨rfl,_,_⟩|⟨hk,e2⟩
   .rfl
   .rw[A37 (by rw[<-h.re.len];exact hl)]at e3;cases e3;rw[getσ k hk]at e4;exact absurd e4<|nq k ys (A07 hk) e2
  .rcases aQ e2 with⟨rfl,hl,_⟩|⟨hk,e2⟩
   .rw[A37 (by rw[<-h.re.len];exact hl)]at e4;cases e4;rw[getσ j hj]at e3;exact absurd e3<|nq j xs (A07 hj) e1
   .rw[getσ j hj]at e3;rw[getσ k hk]at e4;exact h.re.sep j k xs ys p e1 e2 e3 e4
 .rcases aQ e1 with⟨rfl,hl,_⟩|⟨hj,e1⟩
  .rw[A37 (by rw[<-h.re.len];exact hl)]at e2;cases e2;exact h0
  .rw[getσ j hj]at e2;exact h.fresh j xs p e1 e2
 .rcases aQ e1 with⟨_,_,e⟩|⟨hj,e1⟩
  .cases e
  .rw[getσ j hj];exact h.qk j xs e1
theorem RS.chg{K:FS}(h:RS K H0 H σ ρ)(ei:ρ[i]?=AC (AC<|.own xs))(si:σ[i]?=AC (AC<|.ref q))(hq:H q=AC (.lst us))(t:aG K H ds vs):
 RS K H0 (upd H q<|.lst vs) σ (ρ.set i<|some<|.own ds):=by
 have st:gU H (upd H q<|.lst vs):=jR hq;have h0:=h.fresh i xs q ei si;have hs:aJ H0 (upd H q<|.lst vs):=λ b u e=>by rw[aD<|bh e h0];exact h.same b u e
 refine⟨hs,⟨by simp[h.re.len],λ j l e=>?_,λ j k l? ys p e1 e2 e3 e4=>?_⟩,λ j l? p e1 e2=>?_,λ j l? e1=>?_,h.zw.Uy λ _ z=>nomatch z⟩
 .rcases aQ e with⟨rfl,hl,e⟩|⟨hj,e⟩
  .cases e;exact⟨.ref q,si,q,vs,rfl,aM,t.ups st⟩
  .let⟨v,e1,r⟩:=h.re.get j l e;refine⟨v,e1,?_⟩;cases l with
   |val d=>exact Den.ups (r) st
   |own zs=>
    let⟨q',ws,rfl,gB,t'⟩:=r;have:q'≠q:=by rintro rfl;exact hj<|h.re.sep i j xs zs q' ei e si e1
    exact⟨q',ws,rfl,by rw[aD this];exact gB,t'.ups st⟩
   |bor zs=>let⟨v',e2,r2⟩:=h.qk j zs e;rw[e1]at e2;cases e2;exact r2.re r h.same hs st
   |dc ks=>
    let⟨q',as,rfl,gB,t'⟩:=r;have:q'≠q:=by rintro rfl;rw[hq]at gB;exact Fi (A04 gB).symm
    exact⟨q',as,rfl,by rw[aD this];exact gB,t'.ups st⟩
   |GZ ks=>let⟨q',o',as,rfl,gB,t'⟩:=r;exact⟨q',o',as,rfl,st.eJ _ _ _ gB,t'.ups st⟩
   |RH ps=>let⟨q',o',rfl,gB⟩:=r;exact⟨q',o',rfl,st.eJ _ _ _ gB⟩
   |exc c=>let⟨q',o',u',C',rfl,gB,r1,r2,r3⟩:=r;exact⟨q',o',u',C',rfl,st.eJ _ _ _ gB,r1,r2,r3.ups st⟩
 .have old:∀{j:Nat}{zs},(ρ.set i<|some<|Z.L.own ds)[j]?=AC (AC<|.own zs)->∃zs',ρ[j]?=AC (AC<|.own zs'):=λ {j zs} e=>by
   rcases aQ e with⟨rfl,_,_⟩|⟨_,e⟩
   .exact⟨xs,ei⟩
   .exact⟨zs,e⟩
  let⟨_,o1⟩:=old e1;let⟨_,o2⟩:=old e2;exact h.re.sep j k _ _ p o1 o2 e3 e4
 .rcases aQ e1 with⟨rfl,_,_⟩|⟨_,e1⟩
  .exact h.fresh i xs p ei e2
  .exact h.fresh j l? p e1 e2
 .rcases aQ e1 with⟨_,_,e⟩|⟨_,e1⟩
  .cases e
  .exact h.qk j l? e1
theorem RS.eJ{K:FS}{H0 H:Hp}{σ:St}{ρ:Z.Env}{i:Nat}{xs:γ Z.D}{q:δ}{us:γ V}{o:μ}(h:RS K H0 H σ ρ)(ei:ρ[i]?=AC (AC<|.own xs))(si:σ[i]?=AC (AC<|.ref q))(hq:H q=AC (.lst us))(t:aG K H xs us):
 RS K H0 (upd H q<|.eJ o<|.lst us) σ (ρ.set i<|some<|.val<|.lst xs):=by
 have st:gU H (upd H q<|.eJ o<|.lst us):=jR hq;have h0:=h.fresh i xs q ei si;have hs:aJ H0 (upd H q<|.eJ o<|.lst us):=λ b u e=>by rw[aD<|bh e h0];exact h.same b u e
 refine⟨hs,⟨by simp[h.re.len],λ j l e=>?_,λ j k l? ys p e1 e2 e3 e4=>?_⟩,λ j l? p e1 e2=>?_,λ j l? e1=>?_,h.zw.Uy λ _ z=>nomatch z⟩
 .rcases aQ e with⟨rfl,hl,e⟩|⟨hj,e⟩
  .cases e;exact⟨_,si,y7 (.inl ⟨o,aM⟩)<|t.ups st⟩
  .let⟨v,e1,r⟩:=h.re.get j l e;refine⟨v,e1,?_⟩;cases l with
   |val d=>exact Den.ups (r) st
   |own zs=>
    let⟨q',ws,rfl,gB,t'⟩:=r;have:q'≠q:=by rintro rfl;exact hj<|h.re.sep i j xs zs q' ei e si e1
    exact⟨q',ws,rfl,by rw[aD this];exact gB,t'.ups st⟩
   |bor zs=>let⟨v',e2,r2⟩:=h.qk j zs e;rw[e1]at e2;cases e2;exact r2.re r h.same hs st
   |dc ks=>
    let⟨q',as,rfl,gB,t'⟩:=r;have:q'≠q:=by rintro rfl;rw[hq]at gB;exact Fi (A04 gB).symm
    exact⟨q',as,rfl,by rw[aD this];exact gB,t'.ups st⟩
   |GZ ks=>let⟨q',o',as,rfl,gB,t'⟩:=r;exact⟨q',o',as,rfl,st.eJ _ _ _ gB,t'.ups st⟩
   |RH ps=>let⟨q',o',rfl,gB⟩:=r;exact⟨q',o',rfl,st.eJ _ _ _ gB⟩
   |exc c=>let⟨q',o',u',C',rfl,gB,r1,r2,r3⟩:=r;exact⟨q',o',u',C',rfl,st.eJ _ _ _ gB,r1,r2,r3.ups st⟩
 .rcases aQ e1 with⟨_,_,e⟩|⟨_,e1⟩
  .cases e
  .rcases aQ e2 with⟨_,_,e⟩|⟨_,e2⟩
   .cases e
   .exact h.re.sep j k _ _ p e1 e2 e3 e4
 .rcases aQ e1 with⟨_,_,e⟩|⟨_,e1⟩
  .cases e
  .exact h.fresh j l? p e1 e2
 .rcases aQ e1 with⟨_,_,e⟩|⟨_,e1⟩
  .cases e
  .exact h.qk j l? e1
variable{H0:Hp}{st:η}{zp:γ η}{g u:Z.SF}
theorem _root_.ZQ.aY:ZQ.BK X H0 [] Z.bA:=⟨rp.imp Es <|by rintro D σ H ⟨ρ,fl,rs,e,k⟩;cases e;exact k σ H (gU.refl H) rs⟩
theorem _root_.ZQ.aB(h:ZQ.QS X H0 st g):ZQ.BK X H0 [st] g:=⟨mZ h.p⟩
theorem _root_.ZQ.aA(h1:ZQ.QS X H0 st g)(h2:ZQ.BK X H0 zp u):ZQ.BK X H0 (st::zp) (Z.aT g u):=⟨rp.imp (ji h1.p h2.p) <|by
 rintro D σ H ⟨ρ,fl,rs,e,k⟩;let⟨f1,e1,e⟩:=XV e;refine⟨ρ,f1,rs,e1,?_⟩;cases f1 with
 |nx ρ'=>exact λ σ' H' s r=>⟨ρ',fl,r,e,k.up s⟩
 |rt d=>cases e;exact k
 |bk ρ'=>cases e;exact k
 |ct ρ'=>cases e;exact k⟩
theorem _root_.ZQ.aK(h:ZQ.QE X a fa):ZQ.QS X H0 (.Return (AC a) pos) (Z.a6 fa):=⟨PS.imp (IJ h.p) <|by rintro D σ H ⟨ρ,fl,rs,e,k⟩;let⟨d,ea,e⟩:=XV e;cases e;exact⟨ρ,d,rs.re,ea,λ v H' s dv=>k v H' (rs.same.trans s) dv⟩⟩
theorem _root_.ZQ.Oo(h:ZQ.QE X a fa)(hs:swapsWith a At pos.line X.env=pure AT:=by rfl):ZQ.QS X H0 (.Expr a pos) (Z.Pd fa):=⟨PS.imp (pF h.p hs) <|by rintro D σ H ⟨ρ,fl,rs,e,k⟩;let⟨d,ea,e⟩:=XV e;cases e;exact⟨ρ,d,rs.re,ea,λ v H' s dv=>k σ H' (kM s)<|rs.up s⟩⟩
theorem _root_.ZQ.bV(hc:ZQ.QT X c t)(h1:ZQ.BK X H0 b1 g)(h2:ZQ.BK X H0 b2 u):ZQ.QS X H0 (.If c b1 b2 pos) (Z.gZ t g u):=⟨PS.imp (Et hc.p h1.p h2.p) <|by
 rintro D σ H ⟨ρ,fl,rs,e,k⟩;let⟨x,ea,e⟩:=XV e;refine⟨ρ,x,rs.re,ea,λ H1 s1=>?_⟩;cases x with
 |true=>simp only[A25]at e ⊢;exact⟨ρ,fl,rs.up s1,e,k.up<|kM s1⟩
 |false=>simp only[A45]at e ⊢;exact⟨ρ,fl,rs.up s1,e,k.up<|kM s1⟩⟩
theorem _root_.ZQ.aI(he:ZQ.QE X a fa)(hs:swapsWith a (AC<|.Name x pos') pos.line X.env=pure AT:=by rfl)(hf:Fl X x:=by trivial)(hN:X.N.Nodup:=by first|assumption|exact B29 (by kernel_rfl))(hi:X.N[i]?=AC x:=by rfl)(hx:Loc X.env.scope x:=by exact lo rfl):ZQ.QS X H0 (.Assign [.Name x pos'] a pos) (Z.bc i fa):=⟨PS.imp (qL hN hi hx he.p hs hf) <|by rintro D σ H ⟨ρ,fl,rs,e,k⟩;let⟨d,ea,e⟩:=XV e;cases e;exact⟨ρ,d,rs.re,ea,λ v H' s dv=>k _ H' (kM s)<|(rs.up s).vN dv⟩⟩
theorem RS.noq{K:Da}(h:RS K H1 H σ ρ)(hq:H q=At)(j:Nat)(xs:γ Z.D)(e:ρ[j]?=AC (AC<|.own xs)):σ[j]?≠AC (AC<|.ref q):=λ z=>by let⟨v,e1,q',vs,rfl,h2,_⟩:=h.re.get j _ e;rw[z]at e1;cases e1;rw[hq]at h2;cases h2
theorem _root_.ZQ.iy(he:ZQ.QL X a l)(hs:swapsWith a (AC<|.Name x pos') pos.line X.env=pure AT:=by rfl)(hf:Fl X x:=by trivial)(hN:X.N.Nodup:=by first|assumption|exact B29 (by kernel_rfl))(hi:X.N[i]?=AC x:=by rfl)(hx:Loc X.env.scope x:=by exact lo rfl):ZQ.QS X H0 (.Assign [.Name x pos'] a pos) (Z.oy i l):=⟨PS.imp (qL hN hi hx he.p hs hf) <|by rintro D σ H ⟨ρ,fl,rs,e,k⟩;let⟨d,ea,e⟩:=XV e;cases e;refine⟨ρ,d,rs.re,ea,λ q vs H' s hn h1 t=>k _ H' (kM s)<|(rs.up s).Uz h1 t (rs.same.free hn) λ j xs _ e=>?_⟩;exact rs.noq hn j xs e⟩
def tG(K:Da)(H0:Hp)(g:Z.GF):TG:=λ v σ H Q=>∃ρ d ρ',RS K H0 H σ ρ/\Den K H d v/\g d ρ=.ok ρ'/\∀σ' H',aJ H H'->RS K H0 H' σ' ρ'->Q σ' H'
def tGs(K:Da)(H0:Hp)(is:γ Nat):SO:=λ vs σ H Q=>∃ρ ds ρ',RS K H0 H σ ρ/\aG K H ds vs/\Z.iN is ds ρ=.ok ρ'/\∀σ' H',aJ H H'->RS K H0 H' σ' ρ'->Q σ' H'
abbrev DG(X:Cx)(H0:Hp)(tg:ι)(g:Z.GF):Prop:=PG X tg<|tG X.K H0 g
structure _root_.ZQ.QG(X:Cx)(H0:Hp)(tg:Expr)(g:Z.GF):Prop where p:DG X H0 tg g
abbrev DGs(X:Cx)(H0:Hp)(Y_:γ ι)(is:γ Nat):Prop:=Lk X Y_<|tGs X.K H0 is
structure _root_.ZQ.Xa(X:Cx)(H0:Hp)(Y_:List Expr)(is:List Nat):Prop where p:DGs X H0 Y_ is
theorem PG.imp(h:PG X tg t)(k:∀v σ H Q,t' v σ H Q->t v σ H Q):PG X tg t':=λ χ s σ H v u Q I r w=>h χ s σ H v u Q I r<|k v σ H Q w
theorem Lk.imp(h:Lk X es t)(k:∀v σ H Q,t' v σ H Q->t v σ H Q):Lk X es t':=λ χ s σ H v u Q I r w=>h χ s σ H v u Q I r<|k v σ H Q w
theorem _root_.ZQ.bK(hf:Fl X x:=by trivial)(hN:X.N.Nodup:=by first|assumption|exact B29 (by kernel_rfl))(hi:X.N[i]?=AC x:=by rfl)(hx:Loc X.env.scope x:=by exact lo rfl):ZQ.QG X H0 (.Name x pos) (Z.aW i):=
 ⟨PG.imp (Ew hN hi hx hf) <|by rintro v σ H Q ⟨ρ,d,ρ',rs,hd,e,k⟩;cases e;exact k _ H (aJ.refl H)<|rs.vN hd⟩
theorem _root_.ZQ.i9:ZQ.Xa X H0 [] []:=⟨Lk.imp MB <|by
 rintro vs σ H Q ⟨ρ,ds,ρ',rs,hd,e,k⟩;cases ds with
 |nil=>simp only[aG]at hd;cases e;exact⟨hd,k σ H (aJ.refl H) rs⟩
 |cons d ds=>cases e⟩
theorem _root_.ZQ.br(h2:ZQ.Xa X H0 es is)(hs:(assignEach ((.Name x pos)::es) X.env).map (·.2)=assign (.Name x pos) X.env::(assignEach es X.env).map (·.2):=by rfl)(hf:Fl X x:=by trivial)(hN:X.N.Nodup:=by first|assumption|exact B29 (by kernel_rfl))(hi:X.N[i]?=AC x:=by rfl)(hx:Loc X.env.scope x:=by exact lo rfl):ZQ.Xa X H0 (.Name x pos::es) (i::is):=
 ⟨have h2:=h2.p;Lk.imp (IP (Ew hN hi hx hf) h2 hs) <|by
  rintro vs σ H Q ⟨ρ,ds,ρ',rs,hd,e,k⟩;cases ds with
  |nil=>cases e
  |cons d ds=>simp only[aG]at hd;let⟨v,r,rfl,h1,h2⟩:=hd;exact⟨v,r,rfl,_,ds,ρ',rs.vN h1,h2,e,k⟩⟩
theorem _root_.ZQ.oQ(hc:X.calm=Ch)(h:ZQ.Xa X H0 es is)(hl:is.length=n)(hn:(assignEach es X.env).length=n:=by rfl)(pW:(assignEach es X.env).findIdx? (·.1)=At:=by rfl):ZQ.QG X H0 (.Tuple es x1 pos) (Z.jt is):=
 ⟨PG.imp (IQ hc h.p hn pW) <|by
  rintro v σ H Q ⟨ρ,d,ρ',rs,hd,e,k⟩;unfold Z.jt at e;split at e
  .rename_i ds;let⟨q,vs,rfl,hq,t⟩:=bT.tup (.inl hd);have ψ:∀is ds ρ ρ',Z.iN is ds ρ=.ok ρ'->ds.length=is.length:=by
    intro is
    induction is with
    |nil=>intro ds ρ ρ' e;cases ds with
     |nil=>rfl
     |cons d ds=>cases e
    |cons i is ih=>intro ds ρ ρ' e;cases ds with
     |nil=>cases e
     |cons d ds=>simp[ih ds _ _ e]
   exact⟨q,vs,rfl,hq,by rw[t.length,ψ is ds ρ ρ' e];exact hl,ρ,ds,ρ',rs,t,e,k⟩
  .cases e⟩
theorem _root_.ZQ.KI{g:Z.GF}(he:ZQ.QE X a fa)(hg:ZQ.QG X H0 tg g)(hs:swapsWithSole [tg] a pos.line X.env=pure AT:=by rfl)(hw:swappedStores [tg] a X.env=pure At:=by rfl)
 (h1:(assignEach [tg] X.env).map (·.2)=[assign tg X.env]:=by rfl):ZQ.QS X H0 (.Assign [tg] a pos) (Z.Mq fa g):=⟨PS.imp (QH he.p hg.p hs hw h1) <|by
 rintro D σ H ⟨ρ,fl,rs,e,k⟩;let⟨d,ea,e⟩:=XV e;let⟨ρ',eb,e⟩:=XV e;cases e;exact⟨ρ,d,rs.re,ea,λ v H' s dv=>⟨ρ,d,ρ',rs.up s,dv,eb,λ σ2 H2 s2 r2=>k σ2 H2 ((kM s).trans<|kM s2) r2⟩⟩⟩
theorem _root_.ZQ.dD(hi:ZQ.QJ X tg iter it)(hg:ZQ.QG X H0 tg G)(hb:ZQ.BK X H0 body g)(hs:∀x,foldedSetIterable iter X.env x=pure x:=by intro _;rfl)(hp:PassesOwn (model X.prog X.w) X.A X.env X.xe:=by exact C03)(hc:X.calm=Ch:=by rfl):ZQ.QS X H0 (.For tg iter body [] pos) (Z.jh it G g):=⟨PS.imp (IK hp hc hi.p hg.p hb.p hs) <|by
 rintro D σ H ⟨ρ,fl,rs,e,k⟩;let⟨ds,ei,e⟩:=XV e;refine⟨ρ,ds,rs.re,ei,λ J H1 s1 z=>?_⟩;refine⟨λ i m σ' H'=>m=ds.length-i/\i<=ds.length/\∃ρ',RS X.K H0 H' σ' ρ'/\gU H1 H'/\Z.fv G g (ds.drop i) ρ'=.ok fl,⟨ds.length,by simp,A47 _,ρ,rs.up s1,gU.refl H1,by simpa using e⟩,?_⟩;rintro i m σ2 H2 ⟨rfl,A3,ρ2,r2,s2,e2⟩;by_cases kF:i<ds.length
 .obtain⟨d,hd⟩:∃d,ds[i]?=AC d:=⟨ds[i],by simp[kF]⟩
  have pZ:ds.drop i=d::ds.drop (i+1):=by
   rw[A84 kF];have:ds[i]=d:=by have:=A01 kF;rw[this]at hd;exact A04 hd
   rw[this]
  rw[pZ]at e2;let⟨ρ3,eg,e2⟩:=XV e2;let⟨f3,eb,e2⟩:=XV e2;refine .inr ⟨z.go i d H2 s2 hd,λ σ' H'=>∃ρ',RS X.K H0 H' σ' ρ'/\gU H1 H'/\Z.fv G g _ ρ'=.ok fl,λ σ' H' w=>⟨_,by lia,rfl,kF,w⟩,λ x H3 y=>?_⟩;let⟨sy,dx⟩:=z.BY i d H2 H3 x s2 hd y;replace s2:=s2.trans<|kM sy;refine⟨ρ2,d,ρ3,r2.up sy,dx,eg,λ σ4 H4 s4' r4=>⟨ρ3,f3,r4,eb,?_⟩⟩;have s4:=kM s4';cases f3 with
  |nx ρ5=>exact λ σ5 H5 s5 r5=>⟨ρ5,r5,(s2.trans s4).trans s5,e2⟩
  |ct ρ5=>exact λ σ5 H5 s5 r5=>⟨ρ5,r5,(s2.trans s4).trans s5,e2⟩
  |bk ρ5=>cases e2;exact λ σ5 H5 s5 r5=>k σ5 H5 ((kM s1).trans<|(s2.trans s4).trans s5) r5
  |rt d5=>cases e2;exact k
 .have:i=ds.length:=by lia
  subst this;rw[B54]at e2;cases e2;exact .inl ⟨z.stop H2 s2,k σ2 H2 ((kM s1).trans s2) r2⟩⟩
theorem _root_.ZQ.qe(h:ZQ.BK X H0 zp g):ZQ.BK X H0 zp (Z.ub i g):=⟨by
 have h:=h.p;intro χ s σ H D I w;let⟨ρ,fl,rs,e,k⟩:=w;unfold Z.ub Z.eJ at e;split at e
 .rename_i xs ei;let⟨v,si,q,us,rfl,hq,t⟩:=rs.re.get i _ ei;let⟨o,I2⟩:=oH I hq;exact h χ s σ _ D I2 ⟨_,fl,rs.eJ ei si hq t,e,k.up<|jR hq⟩
 .exact h χ s σ H D I ⟨ρ,fl,rs,e,k⟩⟩
theorem G9(ho:PE X o (mf i))(ha:DE X a fa)(hs:swapsWith (.Call (.Attribute o "append" p1) [a] [] p2) At pos.line X.env=pure AT:=by rfl)(oJ:Se a [] X.env:=by rfl)
 (hbm:PE X (.Call (.Attribute o "append" p1) [a] [] p2) (Zl X.K "list" Er (mf i)<|H? (tZ X.K fa) L!)) :
 DS X H0 (.Expr (.Call (.Attribute o "append" p1) [a] [] p2) pos) (Z.d7 i fa):=PS.imp (pF hbm hs) <| by
 rintro D σ H ⟨ρ,fl,rs,e,k⟩;let⟨d,ea,e⟩:=XV e;split at e
 .rename_i xs ei;unfold Z.guard at e;split at e
  .rename_i hl;cases e;let⟨v,si,q,us,rfl,hq,t⟩:=rs.re.get i _ ei;refine⟨_,si,.inl ⟨rfl,us,jE.of hq⟩,ρ,d,rs.re,ea,λ v' H1 s1 dv=>?_⟩;have RQ:=s1 _ _ hq;refine⟨q,us,v',rfl,rfl,RQ,by rw[t.length,A23];exact hl,?_⟩;exact k σ _ ((kM s1).trans<|jR RQ)<|(rs.up s1).chg ei si RQ<|(t.up s1).append<|aG.cons dv aG.nil
  .cases e
 .cases e
end
theorem oU:∀(names:γ (Str×NameKind)) acc,(∀y∈names,y.2=.free->∃c,env.cells.lookup y.1=AC c)->(∀x c,acc.lookup x=AC c->env.cells.lookup x=AC c) ->
 ∃cl,(forIn names acc λ(x)(cs:γ (Str×δ))=>(if(x.2==NameKind.free)=Ch then do let c ←cellOf env x.1;pure (GT<|(x.1,c)::cs)else pure (GT cs):Sem (ForInStep<|γ<|Str×δ)))=pure cl /\
  (∀x c,cl.lookup x=AC c->env.cells.lookup x=AC c)/\(∀x,(acc.lookup x).isSome=Ch->(cl.lookup x).isSome=Ch)/\(∀y∈names,y.2=.free->(cl.lookup y.1).isSome=Ch)
|[],acc,_,ha=>⟨acc,rfl,ha,λ _ h=>h,λ y hy=>by cases hy⟩
|(n,k)::r,acc,hn,ha=>by
 by_cases hk:k=.free
 .subst hk;let⟨c,hc⟩:=hn (n,.free) A12 rfl;have ha':∀x d,((n,c)::acc).lookup x=AC d->env.cells.lookup x=AC d:=λ x d e=>by
   rw[A71]at e;split at e
   .rename_i q;cases e;rw[A27.mp q];exact hc
   .exact ha x d e
  let⟨cl,e,h1,h2,h3⟩:=oU r ((n,c)::acc) (λ y hy=>hn y<|A09 _ hy) ha';have self:=h2 n (by rw[B30];rfl);refine⟨cl,?_,h1,λ x hx=>h2 x ?_,λ y hy hf=>?_⟩
  .rw[B31];simp only[A94,A25];have:cellOf env n=pure c:=by unfold cellOf;rw[hc]
   rw[this];exact e
  .rw[A71];split
   .rfl
   .exact hx
  .rcases A02.mp hy with rfl|hy
   .exact self
   .exact h3 y hy hf
 .let⟨cl,e,h1,h2,h3⟩:=oU r acc (λ y hy=>hn y<|A09 _ hy) ha;have hb:(k==NameKind.free)=AT:=by simpa using hk
  refine⟨cl,?_,h1,h2,λ y hy hf=>?_⟩
  .rw[B31];simp only[hb,A45,A60];exact e
  .rcases A02.mp hy with rfl|hy
   .exact absurd hf hk
   .exact h3 y hy hf
theorem j9(hn:∀y∈scope.names,y.2=.free->∃c,env.cells.lookup y.1=AC c):
 ∃cl,closureFor scope env=pure cl/\(∀x c,cl.lookup x=AC c->env.cells.lookup x=AC c)/\(∀y∈scope.names,y.2=.free->(cl.lookup y.1).isSome=Ch):=by
 let⟨cl,e,h1,_,h3⟩:=oU _ [] hn (λ x c e=>by cases e);refine⟨cl,?_,h1,h3⟩;unfold closureFor
 first
  |exact e
  |(simp only[bind_pure];exact e)
  |(rw[e];rfl)
theorem jq{env:Env}{x:Str}:∀(names:γ _),(names.map λ(n,k)=>if(k == NameKind.free&&env.scope.kind == .function&&env.kindOf n == AC .cell)=Ch then(n,NameKind.cell)else(n,k)).lookup x=(names.lookup x).map λ k=>if(k == NameKind.free&&env.scope.kind == .function&&env.kindOf x == AC .cell)=Ch then NameKind.cell else k
|[]=>rfl
|(n,k)::r=>by
 have ih:=@jq env x r;show Fa x ((if(k==NameKind.free&&env.scope.kind==.function&&env.kindOf n==AC .cell)=Ch then(n,NameKind.cell)else(n,k))::_)=_;by_cases hx:x=n
 .subst hx;by_cases hc:(k==NameKind.free&&env.scope.kind==.function&&env.kindOf x==AC .cell)=Ch
  .rw[M2 hc,B30,B30,A54,M2 hc]
  .rw[W1 hc,B30,B30,A54,W1 hc]
 .have hb:(x==n)=AT:=by simpa using hx
  by_cases hc:(k==NameKind.free&&env.scope.kind==.function&&env.kindOf n==AC .cell)=Ch
  .rw[M2 hc,A71,A71,hb];exact ih
  .rw[W1 hc,A71,A71,hb];exact ih
abbrev oV(X:Cx)(N':γ Str)(scope:ς)(cl:γ (Str×δ))(C:δ)(fp:γ δ)(s₂:θ)(H₂:Hp):Cx:=
 {prog:=X.prog,w:=X.w,K:=X.K,mg:=X.mg,base:=X.base,A:=X.A,N:=N',s₀:=s₂,H₀:=H₂,env:=compEnvC scope cl C X.env,outer:=X.stack,stack:=X.stack,ex:=fp,fn:=λ _=>AT,calm:=X.calm,pn:=[],xe:=λ _ _=>False}
structure vv(N N':List Str)(n:Nat)(is:List Nat)(sc Q3:Scope):Prop where
 kind:sc.kind=.function
 cell:∀y∈sc.names,y.2≠.cell
 loc:∀y∈sc.names,y.2=.local->sc.names.lookup y.1=AC .local
 free:∀y∈sc.names,y.2=.free->Q3.names.lookup y.1=AC .cell\/Q3.names.lookup y.1=AC .free
 len:N'.length=n+is.length
 cap:∀(j i:Nat),is[j]?=AC i->∃x,N'[n+j]?=AC x/\N[i]?=AC x/\sc.names.lookup x=AC .free
 own:∀(j:Nat),j<n->∃x,N'[j]?=AC x/\sc.names.lookup x=AC .local
section
variable{X:Cx}{tg e a b elt iter:ι}{ifs:γ ι}{pos:Pos}{N':γ Str}{n:Nat}{is:γ Nat}{scope:ς}
def oz(σ:St)(n:Nat)(is:γ Nat):St:=Do n At++is.map λ i=>(σ[i]?).join
theorem gv(n:Nat)(is:γ Nat)(ρ:Z.Env)(i:Nat)(xs:γ Z.D):(Do n At++Z.fF ρ is:Z.Env)[i]?≠AC (AC<|.own xs):=by
 intro e;by_cases hi:i<n
 .rw[A34 (by simpa using hi),A52]at e;split at e<;>cases e
 .rw[A48 (by simpa using hi)]at e;unfold Z.fF at e;rw[A06]at e;cases q:is[i-(Do n<|none).length]? with
  |none=>rw[q]at e;cases e
  |some j=>rw[q]at e;have e':=A04 e;unfold Z.vc at e';split at e'<;>cases e'
theorem rh(n:Nat)(is:γ Nat)(ρ:Z.Env)(i:Nat)(ks:Z.DK):(Do n At++Z.fF ρ is:Z.Env)[i]?≠AC (AC<|.dc ks):=by
 intro e;by_cases hi:i<n
 .rw[A34 (by simpa using hi),A52]at e;split at e<;>cases e
 .rw[A48 (by simpa using hi)]at e;unfold Z.fF at e;rw[A06]at e;cases q:is[i-(Do n<|none).length]? with
  |none=>rw[q]at e;cases e
  |some j=>rw[q]at e;have e':=A04 e;unfold Z.vc at e';split at e'<;>cases e'
theorem IC{K:FS}(h:RE K H σ ρ)(s:aJ H H'):RS K H H' (oz σ n is) (Do n At++Z.fF ρ is):=by
 have key:∀(i:Nat) l,(Do n At++Z.fF ρ is)[i]?=AC (AC l)->∃v,(oz σ n is)[i]?=AC (AC v)/\RL K H l v:=?_;refine⟨s,⟨by simp[oz,Z.fF],λ i l e=>let ⟨v,h1,h2⟩:=key i l e;⟨v,h1,h2.up s⟩,λ i j xs ys q e1=>absurd e1<|gv n is ρ i xs⟩,λ i xs q e1=>absurd e1<|gv n is ρ i xs,λ i xs e1=>let ⟨v,h1,h2⟩:=key i _ e1;⟨v,h1,jO.z h2⟩,kL.non<|rh n is ρ⟩;intro i l e;by_cases hi:i<n
 .rw[A34 (by simpa using hi),A52]at e;split at e<;>cases e
 .rw[A48 (by simpa using hi)]at e;unfold oz;rw[A48 (by simpa using hi)];simp only[A81]at e ⊢;unfold Z.fF at e;rw[A06]at e ⊢;cases q:is[i-n]? with
  |none=>rw[q]at e;cases e
  |some j=>
   rw[q]at e;have e':=A04 e;unfold Z.vc at e';split at e'
   .rename_i d hd;cases e';let⟨v,h1,h2⟩:=h.get j _ hd;refine⟨v,?_,h2⟩;simp[h1]
   .rename_i d hd;cases e';let⟨v,h1,h2⟩:=h.get j _ hd;refine⟨v,?_,h2⟩;simp[h1]
   .rename_i d hd;cases e';let⟨v,h1,h2⟩:=h.get j _ hd;refine⟨v,?_,h2⟩;simp[h1]
   .rename_i xs hd;cases e';let⟨v,h1,a,vs,rfl,h3,h4⟩:=h.get j _ hd;refine⟨_,?_,.inl<|.inr ⟨xs,a,vs,rfl,rfl,h3,h4⟩⟩;simp[h1]
   .cases e'
theorem nJ(I:Nat->θ->Prop)
 (turn:∀ n s,I n s->EQ (model prog w) A (pyNext it) (λ r s₁=>match r with
  |none=>R (.ok .next) s₁
  | some v=>EQ (model prog w) A (letOwnedTupleGo target it v) (λ _ s₁=>EQ (model prog w) A (assign target env v) (λ _ s₂=>
   EQ (model prog w) A (forIn ifs Ch λ c r=>if r=Ch then do let ok ←isTrue c env (eval c env);pure (GT ok)else pure (GT r)) (λ ok s₃=>
    if ok=Ch then EQ (model prog w) A (eval elt env) (λ x s₄=>EQ (model prog w) A (call (.builtin "list.append") [acc,x]) (λ _ s₅=>∃m,m<n/\I m s₅) (λ _ _=>False) s₄) (λ _ _=>False) s₃
    else ∃m,m<n/\I m s₃) (λ _ _=>False) s₂) (λ _ _=>False) s₁) (λ _ _=>False) s₁) (λ _ _=>False) s)
 (n:Nat) (h:I n s) :
 codeAny (model prog w) A (.compLoop (.ListComp elt [⟨target,iter,ifs,0⟩] scope pos) 0 it acc env) R s:=by
 refine codeAny_loop rfl I (λ n s hI=>?_) n h;refine wpAny_noted ?_;rw[compTurn_list];refine T0<|B32<|T0<|A19 (turn n s hI) (λ r s₁ h₁=>?_) λ _ _ h'=>h'.elim;cases r with
 |none=>exact P3 h₁
 |some v=>
  refine T0<|A19 h₁ (λ _ s₁ h₁=>?_) λ _ _ h'=>h'.elim;refine T0<|A19 h₁ (λ _ s₂ h₂=>T0<|A19 h₂ (λ ok s₃ h₃=>?_) λ _ _ h'=>h'.elim) λ _ _ h'=>h'.elim;cases ok with
  |false=>exact P3 ⟨rfl,h₃⟩
  |true=>exact T0<|T0<|A19 h₃ (λ x s₄ h₄=>T0<|A19 h₄ (λ _ s₅ h₅=>P3<|P3 ⟨rfl,h₅⟩) λ _ _ h'=>h'.elim) λ _ _ h'=>h'.elim
structure Off(X:Cx)(χ:List (Addr×Obj))(H:Hp)(C:Addr):Prop where
 free:H C=At
 loc:C≠X.env.locals
 new:X.s₀.heap.objs.size<=C
 cell:∀x c,X.env.cells.lookup x=AC c->c≠C
 pin:∀p∈X.pn++χ,p.1≠C
theorem Off.inv(o:Off X χ H C)(I:Inv X χ σ H s)(hs:IN C s.heap h'):Inv X χ σ H {s with heap:=h'}:=
 I.turned (λ b ob hb e=>(hs.2 b hb).trans e) o.free o.loc (.inr o.new) o.cell o.pin
def Y1(X:Cx)(χ:γ (δ×μ))(σ:St)(H₂:Hp)(ys:γ Z.D)(acc:ζ)(C:δ)(s':θ):Prop:=
 ∃D H' vs m,acc=.ref D/\s'.heap.Ns C m/\Inv X χ σ H' s'/\Off X χ H' C/\H₂ D=At/\aJ H₂ H'/\H' D=AC (.lst vs)/\aG X.K H' ys vs
def tGR(K:Da)(R:Hp->Z.D->V->Prop)(H0:Hp)(g:Z.GF):TG:=λ v σ H Q=>∃ρ d ρ',RS K H0 H σ ρ/\R H d v/\g d ρ=.ok ρ'/\∀σ' H',aJ H H'->RS K H0 H' σ' ρ'->Q σ' H'
theorem K4{R:Hp->Z.D->V->Prop}{it:δ}{fp:γ δ}{tn:Nat->ν->Prop}{J:It}{χ:γ (δ×μ)}{σ:St}{ρ:Z.Env}{H₂:Hp}{s₂:θ}{E:ζ->θ->Prop}{cl:γ (Str×δ)}{G:Z.GF}{t:Z.TF}{fe:Z.EF}{ds ys:γ Z.D}
 (du:X.calm=Ch) (B:vv X.N N' n is scope X.env.scope) (I2:Inv X χ σ H₂ s₂) (T:Turn X.prog X.w X.K tg J fp it tn) (Eg:tn 0 s₂.heap) (fo:∀b∈fp,qq X χ H₂ b) (zg:∀(i:Nat)(d:Z.D)(H1:Hp),aJ H₂ H1->ds[i]?=AC d->J.go i H1) (zy:∀(i:Nat)(d:Z.D)(H1 H2:Hp)(x:V),aJ H₂ H1->ds[i]?=AC d->J.BY i H1 x H2->aJ H1 H2/\R H2 d x) (zst:∀(H1:Hp),aJ H₂ H1->J.stop ds.length H1) (re:RE X.K H₂ σ ρ)
 (jL:∀x c,cl.lookup x=AC c->X.env.cells.lookup x=AC c) (uH:∀y∈scope.names,y.2=.free->(cl.lookup y.1).isSome=Ch)
 (hG:∀d ρ ρ1,G d ρ=.ok ρ1->ρ1.length=ρ.length/\∀i,n<=i->ρ1[i]?=ρ[i]?)
 (hg:∀C s H H0,PG (oV X N' scope cl C fp s H) tg (tGR X.K R H0 G))
 (ht:∀ C s s' H nQ (σ':St) (H':Hp) (Q:Bool->Hp->Prop),Inv (oV X N' scope cl C fp s H) nQ σ' H' s'->Ui X.K t σ' H' Q ->
  EQ (model X.prog X.w) X.A (forIn ifs Ch λ c r=>if r=Ch then do let ok ←isTrue c (compEnvC scope cl C X.env) (eval c<|compEnvC scope cl C X.env);pure (GT ok)else pure (GT r)) (TP (oV X N' scope cl C fp s H) nQ σ' Q) (λ _ _=>False) s')
 (he:∀C s H,DE (oV X N' scope cl C fp s H) elt fe) (ψ:ds.length<=Z.line) (ego:Z.cF G t fe (Do n At++Z.fF ρ is) ds=.ok ys) :
 EQ (model X.prog X.w) X.A (newList []) (λ acc s₃=>EQ (model X.prog X.w) X.A (newFunctionEnv scope X.env.globals cl [] X.env.qual At .none<|some X.env) (λ Sv s₄=>codeAny (model X.prog X.w) X.A (.compStart (.ListComp elt [⟨tg,iter,ifs,0⟩] scope pos) 0 (.ref it) acc {Sv with scope:=relabel scope X.env}) (λ r s'=>r=.ok .next/\Y1 X χ σ H₂ ys acc Sv.locals s') s₄) E s₃) E s₂:=by
 refine A68<|wpAny_newFunctionEnv B.cell (by intro y hy;simp at hy) (λ h₁ NW JW=>?_) B.kind;dsimp only at NW JW ⊢;generalize J':s₂.heap.push {cls:=.type "list",dict:=At,data:=.seq ([]:γ ζ).toArray}=HH at NW JW ⊢;have hC:HH.objs.size=s₂.heap.objs.size+1:=by rw[<-J',A50]
 have YG:s₂.heap.objs.size≠HH.objs.size:=by rw[hC];exact A13<|A62 _
 have below:∀b,b<s₂.heap.objs.size->b≠HH.objs.size/\b≠s₂.heap.objs.size:=λ b hb=>⟨by rw[hC];exact A13<|B55 hb,A13 hb⟩
 have old:∀b o,s₂.heap.get? b=AC o->h₁.get? b=AC o:=λ b o e=>JW.extBut b o (below b<|A00 e).1<|v6 _<|J'▸v6 _ e;have Ws:h₁.get? s₂.heap.objs.size=AC {cls:=.type "list",data:=.seq ([]:γ ζ).toArray}:=JW.extBut _ _ YG<|v6 _<|J'▸A14 _ rfl;have fpo:∀b∈fp,∃o,s₂.heap.get? b=AC o/\∀v,o.data≠.cell v:=T.obj 0 _ Eg;have Sa:∀b∈fp,b<s₂.heap.objs.size:=λ b hb=>let ⟨_,e,_⟩:=fpo b hb;A00 e;generalize hD:s₂.heap.objs.size=D at YG below old Ws hC ⊢;generalize hCC:HH.objs.size=C at NW JW YG below hC ⊢;have LI:H₂ D=At:=I2.bY.fresh (by rw[hD];exact v4 _);have hCn:H₂ C=At:=I2.bY.fresh (by rw[hD,hC];exact A59 _)
 -- Qp YV context is in order
 have ok:(oV X N' scope cl C fp s₂ H₂).Ok:=by
  refine⟨I2.ok.mod,B.kind,I2.ok.glob,I2.ok.blt,by show s₂.heap.objs.size<=C;rw[hD,hC];exact A59 _,λ x y c e1 e2=>I2.ok.inj x y c (jL x c e1)<|jL y c e2,λ x hx=>?_,λ x c hf=>(by cases hf),I2.ok.hd,I2.ok.frames,.inl rfl,
   λ b hb=>⟨(below b (by rw[<-hD];exact Sa b hb)).1,λ x c e=>(fo b hb).2.2.2.2.1 x c<|jL x c e⟩,I2.bs,A15 I2.ok.HB I2.sz,λ b o e hb=>?_,λ b hb z=>?_,I2.stack,I2.sP⟩
  .have Hu:(relabel scope X.env).names.lookup x=AC .cell\/(relabel scope X.env).names.lookup x=AC .free:=hx;have e:=jq (env:=X.env) (x:=x) scope.names;have e':(relabel scope X.env).names.lookup x=_:=e;rw[e']at Hu;cases q:scope.names.lookup x with
   |none=>rw[q]at Hu;rcases Hu with h|h<;>cases h
   |some k=>
    have hm:=A67 q;have hk:k=.free:=by
     rw[q]at Hu;simp only[A54]at Hu;by_cases hc:(k==NameKind.free&&X.env.scope.kind==.function&&X.env.kindOf x==AC .cell)=Ch
     .rw[A49,A49]at hc;exact A27.mp hc.1.1
     .rw[W1 hc]at Hu;rcases Hu with h|h
      .exact absurd (A04 h)<|B.cell _ hm
      .exact A04 h
    subst hk;exact A75.mp<|uH _ hm rfl
  .rcases(fo b hb).2.2.2.1 with q|q
   .exact I2.ok.AG b o e q
   .exact absurd (A18 (A00 (I2.ok.bs b o e).1) q)<|A89 _
  .rcases A02.mp (I2.qG b z)with q|q
   .exact(fo b hb).2.1 q
   .exact(fo b hb).2.2.1 q
 have Hd:l0 X.prog X.w (upd H₂ D<|.lst []) h₁:=I2.bY.laid old (by rw[hD];exact v4 _) ⟨A47 _,[],_,.nil,Ws⟩;have ne2:∀b,b<s₂.heap.objs.size->b≠D:=λ b hb=>by rw[<-hD];exact A13 hb
 have vb:∀x c,X.env.cells.lookup x=AC c->c<s₂.heap.objs.size/\∀v,s₂.heap.IsCell c v->h₁.IsCell c v:=λ x c e=>by let⟨v,o,ho,hd⟩:=I2.cell x c e;exact⟨A00 ho,by rintro v' ⟨o',pY,o!⟩;exact⟨o',old c o' pY,o!⟩⟩
 have I4:Inv (oV X N' scope cl C fp s₂ H₂) [] (oz σ n is) (upd H₂ D<|.lst []) {s₂ with heap:=h₁,toks:=s₂.toks+([]:γ (Str×ζ)).length}:=by
  refine⟨ok,rfl,I2.bare,Un.laid old (by rw[hD];exact v4 _) LI,⟨_,NW,λ i x v e1 e2 e3=>?_⟩,λ x c e=>?_,by show upd H₂ D (.lst []) C=At;rw[aD<|A07 YG];exact hCn,λ x c e=>?_,λ p hp=>absurd (show p∈([]:γ (δ×μ))from hp) ∅,Hd,by simp[oz,B.len],I2.tab.up λ b u _ e=>by rw[aD<|bh e LI];exact e⟩
  .unfold oz at e2;by_cases hi:i<n
   .rw[A34 (by simpa using hi),A52]at e2;split at e2<;>cases e2
   .rw [A48 (by simpa using hi),A06] at e2;simp only[A81]at e2;cases q:is[i-n]? with
    |none=>rw[q]at e2;cases e2
    |some j=>
     rw[q]at e2;simp only[A54]at e2;let⟨x',c1,c2,c3⟩:=B.cap (i-n) j q;have C?:n+(i-n)=i:=by lia
     rw[C?]at c1;have PV:N'[i]?=AC x:=e1;rw[c1]at PV;cases PV;have hσ:σ[j]?=AC (AC v):=by
      cases r:σ[j]? with
      |none=>rw[r]at e2;cases e2
      |some y=>
       rw[r]at e2;have:y=AC v:=by simpa using e2
       rw[this]
     let⟨m,hn,hl⟩:=I2.loc;have hm:=A67 c3;have hk:=B.free _ hm rfl;have RJ:Hl X.env.scope x:=by
      rcases hk with k|k
      .exact .inr<|.inl k
      .exact .inr<|.inr k
     let⟨u,ru,lk⟩:=hl j x v c2 hσ RJ;refine⟨u,ru,?_⟩;rcases lk with⟨k1,_⟩|⟨k1,c,hc,rT⟩
     .have NC:X.env.scope.names.lookup x=AC .local:=k1;rcases hk with k|k
      .rw[k]at NC;cases NC
      .rw[k]at NC;cases NC
     .let⟨c',vD⟩:=A75.mp (uH _ hm rfl);have:c'=c:=by have:=jL x c' vD;rw[hc]at this;exact(A04 this).symm
      subst this;refine .inr ⟨?_,c',vD,(vb x c' hc).2 _ rT⟩;show(relabel scope X.env).names.lookup x=AC .cell\/(relabel scope X.env).names.lookup x=AC .free;have e:=jq (env:=X.env) (x:=x) scope.names;have e':(relabel scope X.env).names.lookup x=_:=e;rw[e',c3];simp only[A54];split
      .exact .inl rfl
      .exact .inr rfl
  .let⟨v,hv⟩:=I2.cell x c (jL x c e);exact⟨v,(vb x c<|jL x c e).2 v hv⟩
  .have kF:=(vb x c<|jL x c e).1;rw[aD<|ne2 c kF];exact I2.g0 x c<|jL x c e
 have rs4:RS X.K H₂ (upd H₂ D<|.lst []) (oz σ n is) (Do n At++Z.fF ρ is):=IC re<|cK LI;have st4:tn 0 h₁:=T.keep 0 _ _ Eg λ b hb o e=>old b o e;have fr4:∀b∈fp,(upd H₂ D<|.lst []) b=At:=λ b hb=>by rw[aD<|ne2 b<|Sa b hb];exact(fo b hb).1
 -- Y! stays true of Qp C3 objects
 have Cp:∀{H'},(∀b∈fp,H' b=At)->∀b∈fp,qq (oV X N' scope cl C fp s₂ H₂) [] H' b:=λ hn b hb=>by
  refine⟨hn b hb,(below b (by rw[<-hD];exact Sa b hb)).1,?_,.inl hb,λ x c e=>(fo b hb).2.2.2.2.1 x c<|jL x c e,λ p hp=>absurd (show p∈([]:γ (δ×μ))from hp) ∅⟩;intro q;rcases A02.mp (I2.qG b q)with q|q
  .exact(fo b hb).2.1 q
  .exact(fo b hb).2.2.1 q
 have loop:codeAny (model X.prog X.w) X.A (.compLoop (.ListComp elt [⟨tg,iter,ifs,0⟩] scope pos) 0 (.ref it) (.ref D)<|compEnvC scope cl C X.env) (λ r s'=>r=.ok .next/\Y1 X χ σ H₂ ys (.ref D) C s')
  {s₂ with heap:=h₁,toks:=s₂.toks+([]:γ (Str×ζ)).length}:=by
  refine nJ (λ m s'=>∃i σ' H' vs zs,m=ds.length+1-i/\i<=ds.length/\vs.length<=i/\Inv (oV X N' scope cl C fp s₂ H₂) [] σ' H' s'/\tn i s'.heap/\(∀b∈fp,H' b=At)/\H' D=AC (.lst vs)/\aJ H₂ H' /\
   RS X.K H₂ H' σ' (Do n At++Z.fF ρ is)/\(∃rest,Z.cF G t fe (Do n At++Z.fF ρ is) (ds.drop i)=.ok rest/\zs++rest=ys)/\aG X.K H' zs vs) ?_ (ds.length+1)
   ⟨0,oz σ n is,_,[],[],rfl,A47 _,v4 _,I4,st4,fr4,aM,cK LI,rs4,⟨ys,by simpa using ego,rfl⟩,aG.nil⟩
  .rintro m s' ⟨i,σ3,H3,vs,zs,rfl,A3,Yr,I3,Ic,WB,YH,Hr,ZH,⟨rest,er,ez⟩,dz⟩;by_cases kF:i<ds.length
   .obtain⟨d,hd⟩:∃d,ds[i]?=AC d:=⟨ds[i],by simp[kF]⟩
    have pZ:ds.drop i=d::ds.drop (i+1):=by
     rw[A84 kF];have:ds[i]=d:=by have:=A01 kF;rw[this]at hd;exact A04 hd
     rw[this]
    rw[pZ]at er;unfold Z.cF at er;let⟨ρ1,eg,er⟩:=XV er;let⟨c1,ec,er⟩:=XV er;refine cG (T.item (oV X N' scope cl C fp s₂ H₂) rfl rfl rfl du i [] s' σ3 H3 (λ _ _=>False) I3 (Cp WB) Ic<|zg i d H3 Hr hd) ?_;rintro r s4 ⟨u,hr,h4⟩;subst hr;refine cG h4 ?_;rintro _ s5 ⟨x,H5,I5,r5,y5,yb,fr5⟩;let⟨sy,dx⟩:=zy i d H3 H5 x Hr hd y5;replace ZH:=ZH.up sy;replace Hr:=Hr.trans sy;replace YH:=sy _ _ YH;replace dz:=dz.up sy;have I5':=I5.pinned (Cp fr5)<|T.obj _ _ yb;have rs5:RS X.K H₂ H5 σ3 (Do n At++Z.fF ρ is):=ZH;refine cG (hg C s₂ H₂ H₂ _ s5 σ3 H5 x u (λ σ6 H6=>aJ H5 H6/\RS X.K H₂ H6 σ6 ρ1) I5' r5 ⟨_,d,ρ1,rs5,dx,eg,λ σ' H' s' r'=>⟨s',r'⟩⟩) ?_;rintro _ s6 ⟨σ6,H6,I6,sm6,XQ⟩;refine cG (ht C s₂ s6 H₂ _ σ6 H6 (λ b H7=>b=c1/\aJ H6 H7) I6 ⟨ρ1,c1,XQ.re,ec,λ H7 s7=>⟨rfl,s7⟩⟩) ?_;rintro ok s7 ⟨H7,I7,e7,Zq⟩;subst e7;have Ih:aJ H5 H7:=sm6.trans Zq;have ZG:RE X.K H7 σ6 ρ1:=XQ.re.up Zq;have re0:∀{H9},aJ H7 H9->RS X.K H₂ H9 σ6 (Do n At++Z.fF ρ is):=λ {H9} s9=>by
     let⟨gl,gk⟩:=hG d _ ρ1 eg;refine⟨(XQ.same.trans Zq).trans s9,⟨by rw[<-gl];exact ZG.len,λ j l e=>?_,λ j k xs ys q e1=>absurd e1<|gv n is ρ j xs⟩,λ j xs q e1=>absurd e1<|gv n is ρ j xs,λ j xs e=>?_,kL.non<|rh n is ρ⟩;rotate_left
     .by_cases hj:n<=j
      .rw[<-gk j hj]at e;exact XQ.qk j xs e
      .rw[A34 (by simp;lia),A52]at e;split at e<;>cases e
     by_cases hj:n<=j
     .rw[<-gk j hj]at e;exact(ZG.up s9).get j l e
     .rw[A34 (by simp;lia),A52]at e;split at e<;>cases e
    have fin:∀{H9}{s9} T? Xm,Inv (oV X N' scope cl C fp s₂ H₂) ([]++ue fp s5.heap) σ6 H9 s9->H9 D=AC (.lst T?)->T?.length<=i+1->aJ H₂ H9->RS X.K H₂ H9 σ6 (Do n At++Z.fF ρ is) ->
     (∃ rest,Z.cF G t fe (Do n At++Z.fF ρ is) (ds.drop<|i+1)=.ok rest/\Xm++rest=ys)->aG X.K H9 Xm T?->∃ m,m<ds.length+1-i/\∃ i σ' H' vs zs,m=ds.length+1-i/\i<=ds.length/\vs.length<=i/\Inv (oV X N' scope cl C fp s₂ H₂) [] σ' H' s9/\tn i s9.heap/\(∀ b∈fp,H' b=At)/\H' D=AC (.lst vs)/\aJ H₂ H' /\
      RS X.K H₂ H' σ' (Do n At++Z.fF ρ is)/\(∃rest,Z.cF G t fe (Do n At++Z.fF ρ is) (ds.drop i)=.ok rest/\zs++rest=ys)/\aG X.K H' zs vs:=by
     intro H9 s9 T? Xm I9 hD9 hv9 Ux re9 er9 dz9;refine⟨ds.length+1-(i+1),by lia,i+1,σ6,H9,T?,Xm,rfl,kF,hv9,I9.pd,T.keep _ _ _ yb λ b hb o e=>(I9.pin (b,o)<|A43 _<|A43 _<|lh hb e).1,λ b hb=>?_,hD9,Ux,re9,er9,dz9⟩;let⟨o,e,_⟩:=T.obj _ _ yb b hb;exact(I9.pin (b,o)<|A43 _<|A43 _<|lh hb e).2.1
    have hD7:H7 D=AC (.lst vs):=Ih _ _ YH;cases ok with
    |false=>simp only[A45,A60]at er ⊢;exact fin vs zs I7 hD7 (B56 Yr) (Hr.trans Ih) (re0<|aJ.refl _) ⟨rest,er,ez⟩<|dz.up Ih
    |true=>
     simp only[A25]at er ⊢;let⟨y,ey,er⟩:=XV er;let⟨UI,er2,er⟩:=XV er;cases er;refine cG (he C s₂ H₂ _ s7 σ6 H7 (λ v H8=>aJ H7 H8/\Den X.K H8 y v) I7 ⟨ρ1,y,ZG,ey,λ v H8 s8 d8=>⟨s8,d8⟩⟩) ?_;rintro u8 s8 ⟨v8,H8,I8,rv8,XB,dy⟩;have hD8:H8 D=AC (.lst vs):=XB _ _ hD7;have Zr:aJ H₂ H8:=(Hr.trans Ih).trans XB;refine cG (w_ (X:=oV X N' scope cl C fp s₂ H₂) _ s8 σ6 H8 (.ref D) [v8] (.ref D) [u8] (λ v H9=>v=.non/\H9=upd H8 D (.lst<|vs++[v8])) I8 rfl (.cons rv8 .nil) ⟨D,vs,v8,rfl,rfl,hD8,?_,rfl,rfl⟩) λ _ s9 ⟨v9,H9,I9,_,_,e9⟩=>?_
     .rw[A23];have:Z.line=16777216:=rfl;lia
     subst e9;have Pb:gU H8 (upd H8 D<|.lst<|vs++[v8]):=jR hD8;have Ux:aJ H₂ (upd H8 D<|.lst<|vs++[v8]):=λ b o e=>by rw[aD<|bh e LI];exact Zr b o e
     have Tb:=re0 XB;refine fin (vs++[v8]) (zs++[y]) I9 aM (by simp;lia) Ux ⟨Ux,⟨Tb.re.len,λ j l e=>?_,λ j k xs ys q e1=>absurd e1<|gv n is ρ j xs⟩,λ j xs q e1=>absurd e1<|gv n is ρ j xs,Tb.qk,Tb.zw⟩ ⟨UI,er2,by rw[B06];exact ez⟩<|(((dz.up Ih).up XB).append<|aG.cons dy aG.nil).ups Pb;let⟨v,h1,h2⟩:=Tb.re.get j l e;refine⟨v,h1,?_⟩;cases l with
     |val dd=>exact Den.ups (show Den X.K H8 dd v from h2) Pb
     |own xs=>exact absurd e<|gv n is ρ j xs
     |bor xs=>let⟨v',h3,h4⟩:=Tb.qk j xs e;rw[h1]at h3;cases h3;exact h4.re h2 Tb.same Ux Pb
     |dc ks=>exact absurd e<|rh n is ρ j ks
     |GZ ks=>let⟨q',o',as,rfl,gB,t'⟩:=h2;exact⟨q',o',as,rfl,Pb.eJ _ _ _ gB,t'.ups Pb⟩
     |RH ps=>let⟨q',o',rfl,gB⟩:=h2;exact⟨q',o',rfl,Pb.eJ _ _ _ gB⟩
     |exc c=>let⟨q',o',u',C',rfl,gB,r1,r2,r3⟩:=h2;exact⟨q',o',u',C',rfl,Pb.eJ _ _ _ gB,r1,r2,r3.ups Pb⟩
   .have:i=ds.length:=by lia
    subst this;rw[B54]at er;cases er;rw[A51]at ez;subst ez;refine cG (T.done (oV X N' scope cl C fp s₂ H₂) rfl rfl rfl du _ [] s' σ3 H3 (λ _ _=>False) I3 (Cp WB) Ic<|zst H3 Hr) ?_;rintro r s4 ⟨hr,J4⟩;subst hr;let⟨m',J0,_⟩:=J4.loc;have Jm:∀b o,s₂.heap.get? b=AC o->b≠C:=λ b o e=>(below b (by rw[<-hD];exact A00 e)).1;have I9:Inv X χ σ H3 s4:=I2.K7 (s':=s4) J4.os J4.base J4.bY J4.bare λ b hb=>⟨(fo b hb).2.2.2.1,(fo b hb).2.1,(fo b hb).2.2.2.2.1,(fo b hb).2.2.2.2.2⟩
    have Zp:s₂.heap.objs.size<=C:=by rw[hD,hC];exact A59 _
    refine⟨rfl,D,H3,vs,m',rfl,J0,I9,⟨J4.free,?_,A15 I2.sz Zp,λ x c e=>?_,λ p hp=>?_⟩,LI,Hr,YH,dz⟩
    .exact A42<|A18 I2.lt Zp
    .exact A13<|A18 (vb x c e).1 Zp
    .exact Jm p.1 p.2 (I2.pin p hp).1
 have pW:codeAny (model X.prog X.w) X.A (.compStart (.ListComp elt [⟨tg,iter,ifs,0⟩] scope pos) 0 (.ref it) (.ref D)<|compEnvC scope cl C X.env) (λ r s'=>r=.ok .next/\Y1 X χ σ H₂ ys (.ref D) C s')
  {s₂ with heap:=h₁,toks:=s₂.toks+([]:γ (Str×ζ)).length}:=codeAny_compStart_list loop<|T.self _ 0 _ _ _ st4 loop
 exact pW
theorem fC(h:k<n)(d:Z.D)(ρ ρ1:Z.Env)(e:Z.aW k d ρ=.ok ρ1):ρ1.length=ρ.length/\∀i,n<=i->ρ1[i]?=ρ[i]?:=by cases e;exact⟨by simp,λ i hi=>A29 ∅⟩
theorem rX:∀ks,(∀k∈ks,k<n)->∀ds ρ ρ1,Z.iN ks ds ρ=.ok ρ1->ρ1.length=ρ.length/\∀i,n<=i->ρ1[i]?=ρ[i]?
|[],_,[],ρ,ρ1,e=>by cases e;exact⟨rfl,λ _ _=>rfl⟩
|[],_,_::_,_,_,e=>by cases e
|_::_,_,[],_,_,e=>by cases e
|k::ks,h,d::ds,ρ,ρ1,e=>by let⟨h1,h2⟩:=rX ks (λ k hk=>h k<|A09 _ hk) ds _ ρ1 e;refine⟨by rw[h1];simp,λ i hi=>?_⟩;rw[h2 i hi];have:=h k A12;exact A29 ∅
theorem ng(h:∀k∈ks,k<n)(d:Z.D)(ρ ρ1:Z.Env)(e:Z.jt ks d ρ=.ok ρ1):ρ1.length=ρ.length/\∀i,n<=i->ρ1[i]?=ρ[i]?:=by
 unfold Z.jt at e;split at e
 .exact rX ks h _ ρ ρ1 e
 .cases e
def W_(X:Cx)(ifs:γ ι)(t:Z.TF):Prop:=∀(χ:γ (δ×μ))(s:θ)(σ:St)(H:Hp)(Q:Bool->Hp->Prop),Inv X χ σ H s->Ui X.K t σ H Q ->
 EQ (model X.prog X.w) X.A (forIn ifs Ch λ c r=>if r=Ch then do let ok ←isTrue c X.env (eval c X.env);pure (GT ok)else pure (GT r)) (TP X χ σ Q) X.xe s
structure _root_.ZQ.O0(X:Cx)(ifs:List Expr)(t:Z.TF):Prop where p:W_ X ifs t
theorem _root_.ZQ.tT:ZQ.O0 X [] Z.cb:=⟨by rintro χ s σ H Q I ⟨ρ,b,r,e,k⟩;cases e;exact wpAny_tests_nil ⟨H,I,k H<|aJ.refl H⟩⟩
theorem _root_.ZQ.kU(h:ZQ.QT X c t):ZQ.O0 X [c] t:=⟨λ χ s σ H Q I w=>wpAny_tests_one<|h.p χ s σ H Q I w⟩
theorem BB(du:X.calm=Ch)(hi:DI X tg iter it)(B:vv X.N N' n is scope X.env.scope)
 (hG:∀d ρ ρ1,G d ρ=.ok ρ1->ρ1.length=ρ.length/\∀i,n<=i->ρ1[i]?=ρ[i]?)
 (hg:∀cl C fp s H H0,DG (oV X N' scope cl C fp s H) H0 tg G) (ht:∀cl C fp s H,W_ (oV X N' scope cl C fp s H) ifs t) (he:∀cl C fp s H,DE (oV X N' scope cl C fp s H) elt fe)
 (hs:∀x,foldedSetIterable iter X.env x=pure x)
 (I:Inv X χ σ H s) (re:RE X.K H σ ρ) (ec:Z.bU it n is G t fe ρ=.ok ys)
 (fin:∀acc C s' H₂,aJ H H₂->Y1 X χ σ H₂ ys acc C s'->compPost (model X.prog X.w) X.A X.xe use Q acc C (.ok .next) s') :
 EQ (model X.prog X.w) X.A (comprehension (.ListComp elt [⟨tg,iter,ifs,0⟩] scope pos) scope X.env ps (newList []) AT (eval iter X.env) use) Q X.xe s:=by
 let⟨ds,ei,ec⟩:=XV ec;unfold Z.guard at ec;split at ec
 .rename_i ψ;have rS:∀y∈scope.names,y.2=.free->∃c,X.env.cells.lookup y.1=AC c:=λ y hy hf=>I.ok.has y.1<|B.free y hy hf;let⟨cl,kN,jL,uH⟩:=j9 rS;refine wpAny_comprehension_free rfl hs kN B.kind B.loc ?_;refine cG (hi χ s σ H (λ J H₂=>aJ H H₂/\Fz X.K J _ ds) I ⟨ρ,ds,re,ei,λ J H' s' z=>⟨s',z⟩⟩) λ x s₁ h₁=>?_;refine cG h₁ ?_;rintro _n s₂ ⟨it',fp,tn,J,H₂,e2,I2,T,Eg,fo,sm,z⟩;subst e2;refine cG (K4 (R:=Den X.K) (iter:=iter) (pos:=pos) du B I2 T Eg fo z.go z.BY z.stop (re.up sm) jL uH hG (λ C s H H0=>hg cl C fp s H H0) (λ C s s' H' nQ σ' P! Q' I' w=>ht cl C fp s H' nQ s' σ' P! Q' I' w) (λ C s H=>he cl C fp s H) ψ ec) λ acc s₃ h₃=>?_;refine cG h₃ λ Sv s₄ h₄=>A74 h₄ ?_;rintro r s' ⟨er,UJ⟩;subst er;exact fin acc _ s' H₂ sm UJ
 .cases ec
theorem _root_.ZQ.bJ(hi:ZQ.QI X tg iter it)(he:∀{cl C fp s H},ZQ.QE (oV X N' scope cl C fp s H) elt fe)(ht:∀{cl C fp s H},ZQ.O0 (oV X N' scope cl C fp s H) ifs t:=by exact tT)(hg:∀{cl C fp s H H0},ZQ.QG (oV X N' scope cl C fp s H) H0 tg G:=by exact bK)(du:X.calm=Ch:=by rfl)(B:vv X.N N' n is scope X.env.scope:=by exact ZS.vv.of (by kernel_rfl))(hG:∀d ρ ρ1,G d ρ=.ok ρ1->ρ1.length=ρ.length/\∀i,n<=i->ρ1[i]?=ρ[i]?:=by exact ZS.fC ∅)(hs:∀x,foldedSetIterable iter X.env x=pure x:=by intro _;rfl):ZQ.QL X (.ListComp elt [⟨tg,iter,ifs,0⟩] scope pos) (Z.bU it n is G t fe):=⟨by have hg:∀cl C fp s H H0,DG (oV X N' scope cl C fp s H) H0 tg G:=λ _ _ _ _ _ _=>hg.p;have ht:∀cl C fp s H,W_ (oV X N' scope cl C fp s H) ifs t:=λ _ _ _ _ _=>ht.p;have he:∀cl C fp s H,DE (oV X N' scope cl C fp s H) elt fe:=λ _ _ _ _ _=>he.p;intro χ s σ H Q I w;let⟨ρ,ys,re,e,k⟩:=w;rw[eval_ListComp];refine BB du hi.p B hG hg ht he hs I re e λ acc C s' H₂ sm UJ=>?_;let⟨D,H',vs,m,rfl,JY,I',off,LI,S8,hD,dz⟩:=UJ;exact⟨m,JY,λ h' nY=>⟨.ref D,H',off.inv I' nY,rfl,k D vs H' (sm.trans S8) (sm.free LI) hD dz⟩⟩⟩
theorem K3(du:X.calm=Ch)(hN:X.N.Nodup)(V!:X.N[i]?=AC x)(hx:Loc X.env.scope x)
 (V3:swapsWith (.ListComp elt [⟨tg,iter,ifs,0⟩] scope pos) (AC<|.Name x px) Ie.line X.env=pure Ch) (hi:DI X tg iter it) (B:vv X.N N' n is scope X.env.scope) (hG:∀d ρ ρ1,G d ρ=.ok ρ1->ρ1.length=ρ.length/\∀i,n<=i->ρ1[i]?=ρ[i]?)
 (hg:∀cl C fp s H H0,DG (oV X N' scope cl C fp s H) H0 tg G) (ht:∀cl C fp s H,W_ (oV X N' scope cl C fp s H) ifs t) (he:∀cl C fp s H,DE (oV X N' scope cl C fp s H) elt fe)
 (hs:∀x,foldedSetIterable iter X.env x=pure x) (hf:X.fn x=Ch\/X.env.scope.names.lookup x=AC .local) (I:Inv X χ σ H s) (re:RE X.K H σ ρ) (e:Z.bU it n is G t fe ρ=.ok ys)
 (k:∀q vs H',aJ H H'->H q=At->H' q=AC (.lst vs)->aG X.K H' ys vs->∃P!,(∀s',Inv X χ (σ.set i<|some<|.ref q) H' s'->Inv X χ (σ.set i<|some<|.ref q) P! s')/\D.nx (σ.set i<|some<|.ref q) P!) :
 EQ (model X.prog X.w) X.A (exec (.Assign [.Name x px] (.ListComp elt [⟨tg,iter,ifs,0⟩] scope pos) Ie) X.env) (SP X χ D) X.xe s:=by
 rw[exec_Assign_Name_used _ _ _ _ V3];refine T0<|B32<|T0 ?_;refine T0<|A19 (BB du hi B hG hg ht he hs I re e λ acc C s' H₂ sm UJ=>?_) (λ _ s' hq=>P3<|P3 hq) λ _ _ e=>e;let⟨q,H',vs,m,rfl,JY,I',off,LI,S8,hD,dz⟩:=UJ;let⟨P!,hI,hnx⟩:=k q vs H' (sm.trans S8) (sm.free LI) hD dz;refine wpAny_assign_Name<|wQ I' hN V! hx (v:=.ref q) rfl (λ S? I'' ⟨⟨a,sb,ha⟩,_⟩=>?_) hf;have hCa:C≠a:=by
  rcases ha with rfl|ha
  .exact off.loc
  .exact λ z=>off.cell x a ha z.symm
 refine⟨m,JY.sameBut sb hCa,λ h' nY=>⟨_,P!,?_,hnx⟩⟩;exact hI _<|off.inv I'' nY
theorem Ol(du:X.calm=Ch)(hN:X.N.Nodup)(V!:X.N[i]?=AC x)(hx:Loc X.env.scope x)
 (hi:DI X tg iter it) (B:vv X.N N' n is scope X.env.scope) (hG:∀d ρ ρ1,G d ρ=.ok ρ1->ρ1.length=ρ.length/\∀i,n<=i->ρ1[i]?=ρ[i]?)
 (hg:∀cl C fp s H H0,DG (oV X N' scope cl C fp s H) H0 tg G) (ht:∀cl C fp s H,W_ (oV X N' scope cl C fp s H) ifs t) (he:∀cl C fp s H,DE (oV X N' scope cl C fp s H) elt fe)
 (V3:swapsWith (.ListComp elt [⟨tg,iter,ifs,0⟩] scope pos) (AC<|.Name x px) Ie.line X.env=pure Ch:=by rfl)
 (hs:∀x,foldedSetIterable iter X.env x=pure x:=by intro _;rfl) (hf:Fl X x:=by trivial) :
 DS X H0 (.Assign [.Name x px] (.ListComp elt [⟨tg,iter,ifs,0⟩] scope pos) Ie) (Z.oy i<|Z.bU it n is G t fe):=by
 intro χ s σ H D I w;let⟨ρ,fl,rs,e,k⟩:=w;let⟨ys,ey,e⟩:=XV e;cases e;refine K3 du hN V! hx V3 hi B hG hg ht he hs hf I rs.re ey λ q vs H' s' hn h1 t'=>⟨H',λ _ j=>j,?_⟩
 exact k _ H' (kM s')<|(rs.up s').Uz h1 t' (rs.same.free hn) λ j xs _ e=>rs.noq hn j xs e
theorem _root_.ZQ.lF(du:X.calm=Ch)(hN:X.N.Nodup)(V!:X.N[i]?=AC x)(hx:Loc X.env.scope x)
 (hi:ZQ.QI X tg iter it) (B:vv X.N N' n is scope X.env.scope) (hG:∀d ρ ρ1,G d ρ=.ok ρ1->ρ1.length=ρ.length/\∀i,n<=i->ρ1[i]?=ρ[i]?)
 (hg:∀cl C fp s H H0,ZQ.QG (oV X N' scope cl C fp s H) H0 tg G) (ht:∀cl C fp s H,ZQ.O0 (oV X N' scope cl C fp s H) ifs t) (he:∀cl C fp s H,ZQ.QE (oV X N' scope cl C fp s H) elt fe)
 (V3:swapsWith (.ListComp elt [⟨tg,iter,ifs,0⟩] scope pos) (AC<|.Name x px) Ie.line X.env=pure Ch:=by rfl)
 (hs:∀x,foldedSetIterable iter X.env x=pure x:=by intro _;rfl) (hf:Fl X x:=by trivial) :
 ZQ.QS X H0 (.Assign [.Name x px] (.ListComp elt [⟨tg,iter,ifs,0⟩] scope pos) Ie) (Z.bc i<|Z.eL<|Z.bU it n is G t fe):=⟨by
 have hg:=λ y0 y1 y2 y3 y4 y5=>(hg y0 y1 y2 y3 y4 y5).p;have ht:=λ y0 y1 y2 y3 y4=>(ht y0 y1 y2 y3 y4).p;have he:=λ y0 y1 y2 y3 y4=>(he y0 y1 y2 y3 y4).p;have h1:DS X H0 _ _:=Ol du hN V! hx hi.p B hG hg ht he V3 hs hf;intro χ s σ H D I w;let⟨ρ,fl,rs,e,k⟩:=w;let⟨d,ed,e⟩:=XV e;cases e;unfold Z.eL at ed;cases ey:Z.bU it n is G t fe ρ with
 |bad=>rw[ey]at ed;cases ed
 |ok ys=>
  rw[ey]at ed;cases ed;refine cG (h1 χ s σ H {D with nx:=λ σ' H'=>gU H H'/\RS X.K H0 H' σ' _} I ⟨ρ,.nx<|ρ.set i<|some<|.own ys,rs,by show(Z.bU it n is G t fe ρ).bind _=_;rw[ey];rfl,λ σ' H' s' r'=>⟨s',r'⟩⟩) λ fl' s' h=>?_;cases fl' with
  |next=>
   let⟨σ',H',I',wR,En⟩:=h;by_cases hl:i<ρ.length
   .have ei:(ρ.set i<|some<|Z.L.own ys)[i]?=AC (AC<|.own ys):=A37 hl;let⟨v,si,q,us,rfl,hq,t'⟩:=En.re.get i _ ei;let⟨o,I2⟩:=oH I' hq;have r2:=En.eJ (o:=o) ei si hq t';rw[List.set_set]at r2;exact⟨σ',_,I2,k σ' _ (wR.trans<|jR hq) r2⟩
   .have e0:ρ.set i (AC<|Z.L.own ys)=ρ:=C44 ∅;have e1:ρ.set i (AC<|Z.L.val<|.lst ys)=ρ:=C44 ∅;rw[e0]at En;have k':=k;rw[e1]at k';exact⟨σ',H',I',k' σ' H' wR En⟩
  |brk=>exact h
  |cont=>exact h
  |ret u=>exact h⟩
end
section
variable{P:ο}{w:ξ}{K:Da}{mg:Str->ε ζ}{base:ν}
theorem mX(t:aG K H ds vs)(hl:vs.length<=N.length):RS K H H (L2.start N vs) (Z.start N.length ds):=by
 have AE:∀(i:Nat) xs,(Z.start N.length ds)[i]?≠AC (AC<|.own xs):=by
  intro i xs e;unfold Z.start at e;by_cases hi:i<ds.length
  .rw[A34 (by simpa using hi),A06]at e;cases q:ds[i]? with
   |none=>rw[q]at e;cases e
   |some d=>rw[q]at e;cases e
  .rw[A48 (by simpa using hi),A52]at e;split at e<;>cases e
 have Vm:∀(i:Nat) xs,(Z.start N.length ds)[i]?≠AC (AC<|.bor xs):=by
  intro i xs e;unfold Z.start at e;by_cases hi:i<ds.length
  .rw[A34 (by simpa using hi),A06]at e;cases q:ds[i]? with
   |none=>rw[q]at e;cases e
   |some d=>rw[q]at e;cases e
  .rw[A48 (by simpa using hi),A52]at e;split at e<;>cases e
 have Vl:∀(i:Nat) ks,(Z.start N.length ds)[i]?≠AC (AC<|.dc ks):=by
  intro i ks e;unfold Z.start at e;by_cases hi:i<ds.length
  .rw[A34 (by simpa using hi),A06]at e;cases q:ds[i]? with
   |none=>rw[q]at e;cases e
   |some d=>rw[q]at e;cases e
  .rw[A48 (by simpa using hi),A52]at e;split at e<;>cases e
 have ψ:=t.length;refine⟨aJ.refl H,⟨?_,λ i l e=>?_,λ i j xs ys q e1=>absurd e1<|AE i xs⟩,λ i xs q e1=>absurd e1<|AE i xs,λ i xs e1=>absurd e1<|Vm i xs,kL.non Vl⟩
 .unfold Z.start L2.start;simp;lia
 .unfold Z.start at e;by_cases hi:i<ds.length
  .rw[A34 (by simpa using hi),A06]at e;cases q:ds[i]? with
   |none=>rw[q]at e;cases e
   |some d=>rw[q]at e;cases e;let⟨v,h1,h2⟩:=t.get q;refine⟨v,?_,h2⟩;unfold L2.start;rw[A34 (by simp;lia),A06,h1];rfl
  .rw[A48 (by simpa using hi),A52]at e;split at e<;>cases e
theorem fnZ{st:η}(F:BM K x qual st f fd)(S:a9 N ps (aj st))
 (hb:∀ bf A outer s H E,bL k (A.deeper<|envOfC qual (aj st) s.heap.objs.size f bf) ->
  LP (d6 iV P w K mg base N qual (aj st) f bf A outer s H E).gy H (aL st) b):eY P w K mg base iV (k+1) f fd ps (zq K<|Z.fn ps.length N.length b):=by
 have ψ:∀vs H Q E,zq K (Z.fn ps.length N.length b) vs H Q E->vs.length=ps.length:=by
  rintro vs H Q E ⟨ds,d,t,e,_⟩;unfold Z.fn at e;split at e
  .rename_i h;rw[t.length];exact h
  .cases e
 refine F.ok S ψ λ bf A outer s H vs Q E hr h=>⟨_,hb bf A outer s H E hr,?_⟩;have hl:=ψ vs H Q E h;let⟨ds,d,t,e,k⟩:=h;have fU:ps.length<=N.length:=by have:=A11 List.length S.pre;rw[A24]at this;lia
 have rs:RS K H H _ (Z.start N.length ds):=mX t ∅;unfold Z.fn at e;split at e
 .cases eb:b (Z.start N.length ds)with
  |bad=>rw[eb]at e;cases e
  |ok fl=>
   rw[eb]at e;refine⟨_,fl,rs,eb,?_⟩;cases fl with
   |rt d'=>cases e;exact λ v H' s' dv=>k v H' s' dv
   |nx ρ'=>cases e;exact λ σ' H' _ En=>k .non H' En.same lH
   |bk ρ'=>cases e
   |ct ρ'=>cases e
 .cases e
end
def P5(N N':γ Str)(n:Nat)(is:γ Nat)(sc Q3:ς):Bool:=
 (sc.kind==.function)&&sc.names.all (λ y=>y.2 != .cell)&&sc.names.all (λ y=>y.2 != .local||sc.names.lookup y.1==AC .local) &&
 sc.names.all (λ y=>y.2 != .free||Q3.names.lookup y.1==AC .cell||Q3.names.lookup y.1==AC .free)&&(N'.length==n+is.length) &&
 (Ev is.length).all (λ j=>match is[j]?,N'[n+j]? with
  |some i,AC x=>N[i]?==AC x&&sc.names.lookup x==AC .free
  | _,_=>AT) &&
 (Ev n).all (λ j=>match N'[j]? with
  |some x=>sc.names.lookup x==AC .local
  | none=>AT)
theorem vv.of(h:P5 N N' n is sc Q3=Ch):vv N N' n is sc Q3:=by
 unfold P5 at h;simp only[A49,A36,A27,AB0,bne_iff_ne,A26]at h;let⟨⟨⟨⟨⟨⟨h1,h2⟩,h3⟩,h4⟩,h5⟩,h6⟩,h7⟩:=h;refine⟨h1,h2,λ y hy e=>?_,λ y hy e=>?_,h5,λ j i e=>?_,λ j hj=>?_⟩
 .rcases h3 y hy with q|q
  .exact absurd e q
  .exact q
 .rcases h4 y hy with(q|q)|q
  .exact absurd e q
  .exact .inl q
  .exact .inr q
 .have hj:=(A08.mp e).1;have q:=h6 j hj;rw[e]at q;cases r:N'[n+j]? with
  |none=>rw[r]at q;cases q
  |some x=>rw[r]at q;simp only[A49,A27]at q;exact⟨x,rfl,q.1,q.2⟩
 .have q:=h7 j hj;cases r:N'[j]? with
  |none=>rw[r]at q;cases q
  |some x=>rw[r]at q;exact⟨x,rfl,A27.mp q⟩
structure Def(K:Da)(mg:Str->Option Value)(x:Str)(st:Stmt)(ps:List Str):Prop where
 ex:∃f fd,BM K x x st f fd/\mg x=AC (.ref f)/\Binds K fd ps []
structure ie(P:Program)(w:World)(K:Da)(mg:Str->Option Value)(base:Heap)(x:Str)(k:Nat)(ps:List Str)(m:List Z.D->Z.Res Z.D):Prop where
 ex:∃g fd,eY P w K mg base iV k g fd ps (zq K m)/\mg x=AC (.ref g)/\FM K (.ref g)=Ch/\Binds K fd ps []
theorem ie.mk'{K:Da}{st:η}(d:Def K mg x st ps)(S:a9 N ps (aj st))
 (hb:∀ f bf A outer s H E,bL k (A.deeper<|envOfC x (aj st) s.heap.objs.size f bf) ->
  LP (d6 iV P w K mg base N x (aj st) f bf A outer s H E).gy H (aL st) b):ie P w K mg base x (k+1) ps (Z.fn ps.length N.length b):=by
 let⟨f,fd,F,hm,sX⟩:=d.ex;exact⟨f,fd,fnZ F S<|hb f,hm,F.kp,sX⟩
section
variable{X:Cx}{e:ι}{es:γ ι}{pos:Pos}
theorem _root_.ZQ.ay(C:ie X.prog X.w X.K X.mg X.base x k ps m)(ha:ZQ.QA X (e::es) ar)(gQ:(x==("__debug__"))=AT:=by decide +kernel)(he:Se e es X.env:=by rfl)(fU:Pn pos es X.env:=by rfl)(hr:bL k X.A:=by first| assumption| exact L2.bL.mono (by assumption) (by first| decide| lia))(hg:Gl X x:=by rfl):ZQ.QE X (.Call (.Name x p1) (e::es) [] pos) (Z.aE m ar):=
 ⟨let ⟨_,_,F,hm,hk,hb⟩:=C.ex;OA F hr hg hm hk hb ha.p gQ he fU⟩
end
theorem _root_.ZQ.aN(hm:X.mg x=AC (.int i t))(hb:Nd x:=by decide +kernel)(hg:Gl X x:=by rfl):ZQ.QE X (.Name x pos) (Z.eC<|.int i):=
 ⟨Ox (v:=.int i) hg hm ⟨t,rfl⟩ (λ _=>c6) hb⟩
theorem Cr{K:Da}{ns:γ Int}(hO:O4 H)(h:jE K H a (ns.map V.int)):Den K H (.lst<|ns.map Z.D.int) (.ref a):=by
 refine y7 ?_<|aG.zints ns;rcases h with(h|⟨o,h⟩)|h
 .rcases hO a with z|⟨o,xs,z⟩|⟨q,z⟩
  .rw[h]at z;cases z
  .rw[h]at z;cases z
  .rw[h]at z;cases z
 .exact .inl ⟨o,h⟩
 .exact .inr h
theorem Ru{K:Da}{ns:γ Int}(hO:O4 H)(h:jE K H a (ns.map V.int))(e:m [.lst (ns.map .int)]=.ok (.bl Ch)):zq K m [.ref a] H (λ v _=>v=.bl Ch) λ _ _ _=>False:=
 ⟨_,_,aG.cons (Cr hO h) aG.nil,e,λ v H' _ d=>by simpa only[Den]using d⟩
section
variable{X:Cx}{e a b:ι}{pos:Pos}{f fa fb:Z.EF}
theorem z!(x y:γ Nat):((⟨x.toArray⟩)==(⟨y.toArray⟩:Str))=(x==y):=by
 rw[A53,A27,A27];constructor
 .intro h;injection h with h;simpa using h
 .rintro rfl;rfl
theorem rcS{K:Da}(h:Z.TJ d1 d2=AC k)(h1:bT K H d1 v1)(h2:bT K H d2 v2)(r1:RelV v1 u1)(r2:RelV v2 u2):WP A s u1 u2 k/\Op A s u1 u2 k/\TW A s u1 u2 (!k):=by
 unfold Z.TJ at h;split at h
 .cases h;rw[h1.non]at r1;rw[h2.non]at r2;cases r1;cases r2;exact⟨SeqAt.RcAt.none_none,C04 _,SeqAt.RcNeAt.none_none⟩
 .cases h;rw[h1.bl]at r1;rw[h2.bl]at r2;cases r1;cases r2;exact⟨SeqAt.RcAt.bool_bool _ _,SeqAt.EqAt.bool_bool _ _,SeqAt.RcNeAt.bool_bool _ _⟩
 .cases h;rw[h1.bl]at r1;rw[h2.int]at r2;cases r1;let⟨t,rfl⟩:=r2;exact⟨SeqAt.RcAt.bool_int _ _ _,SeqAt.EqAt.bool_int _ _ _,SeqAt.RcNeAt.bool_int _ _ _⟩
 .cases h;rw[h1.int]at r1;rw[h2.bl]at r2;cases r2;let⟨t,rfl⟩:=r1;exact⟨SeqAt.RcAt.int_bool _ _ _,SeqAt.EqAt.int_bool _ _ _,SeqAt.RcNeAt.int_bool _ _ _⟩
 .cases h;rw[h1.int]at r1;rw[h2.int]at r2;let⟨t,rfl⟩:=r1;let⟨t',rfl⟩:=r2;exact⟨SeqAt.RcAt.int_int _ _ _ _,SeqAt.EqAt.int_int _ _ _ _,SeqAt.RcNeAt.int_int _ _ _ _⟩
 .cases h;rw[h1.str]at r1;rw[h2.str]at r2;let⟨t,rfl⟩:=r1;let⟨t',rfl⟩:=r2;rw[<-z!];exact⟨SeqAt.RcAt.str_str _ _ _ _,SeqAt.EqAt.str_str _ _ _ _,SeqAt.RcNeAt.str_str _ _ _ _⟩
 .cases h;rw[h1.non]at r1;rw[h2.bl]at r2;cases r1;cases r2;exact⟨SeqAt.RcAt.none_bool _,SeqAt.EqAt.none_bool _,SeqAt.RcNeAt.none_bool _⟩
 .cases h;rw[h1.non]at r1;rw[h2.int]at r2;cases r1;let⟨t,rfl⟩:=r2;exact⟨SeqAt.RcAt.none_int _ _,SeqAt.EqAt.none_int _ _,SeqAt.RcNeAt.none_int _ _⟩
 .cases h;rw[h1.non]at r1;rw[h2.str]at r2;cases r1;let⟨t,rfl⟩:=r2;exact⟨SeqAt.RcAt.none_str _ _,SeqAt.EqAt.none_str _ _,SeqAt.RcNeAt.none_str _ _⟩
 .cases h;rw[h1.bl]at r1;rw[h2.non]at r2;cases r1;cases r2;exact⟨SeqAt.RcAt.bool_none _,SeqAt.EqAt.bool_none _,SeqAt.RcNeAt.bool_none _⟩
 .cases h;rw[h1.bl]at r1;rw[h2.str]at r2;cases r1;let⟨t,rfl⟩:=r2;exact⟨SeqAt.RcAt.bool_str _ _ _,SeqAt.EqAt.bool_str _ _ _,SeqAt.RcNeAt.bool_str _ _ _⟩
 .cases h;rw[h1.int]at r1;rw[h2.non]at r2;cases r2;let⟨t,rfl⟩:=r1;exact⟨SeqAt.RcAt.int_none _ _,SeqAt.EqAt.int_none _ _,SeqAt.RcNeAt.int_none _ _⟩
 .cases h;rw[h1.int]at r1;rw[h2.str]at r2;let⟨t,rfl⟩:=r1;let⟨t',rfl⟩:=r2;exact⟨SeqAt.RcAt.int_str _ _ _ _,SeqAt.EqAt.int_str _ _ _ _,SeqAt.RcNeAt.int_str _ _ _ _⟩
 .cases h;rw[h1.str]at r1;rw[h2.non]at r2;cases r2;let⟨t,rfl⟩:=r1;exact⟨SeqAt.RcAt.str_none _ _,SeqAt.EqAt.str_none _ _,SeqAt.RcNeAt.str_none _ _⟩
 .cases h;rw[h1.str]at r1;rw[h2.bl]at r2;cases r2;let⟨t,rfl⟩:=r1;exact⟨SeqAt.RcAt.str_bool _ _ _,SeqAt.EqAt.str_bool _ _ _,SeqAt.RcNeAt.str_bool _ _ _⟩
 .cases h;rw[h1.str]at r1;rw[h2.int]at r2;let⟨t,rfl⟩:=r1;let⟨t',rfl⟩:=r2;exact⟨SeqAt.RcAt.str_int _ _ _ _,SeqAt.EqAt.str_int _ _ _ _,SeqAt.RcNeAt.str_int _ _ _ _⟩
 .cases h
def LJ(g:Z.D->Z.D->ε Bool)(as bs:γ Z.D)(j:Nat):Bool:=match as[j]?,bs[j]? with
|some x,AC y=>(g x y).getD AT
|_,_=>Ch
theorem mV:∀{as bs}{k},Z.allEq g as bs=AC k->k=((Ev<|min as.length bs.length).all (LJ g as bs)&&as.length == bs.length)/\∀j x y,as[j]?=AC x->bs[j]?=AC y->g x y=AC (LJ g as bs j)
|[],[],k,h=>by cases h;exact⟨rfl,λ j x y e=>by simp at e⟩
|[],_::_,k,h=>by cases h;exact⟨by simp,λ j x y e=>by simp at e⟩
|_::_,[],k,h=>by cases h;exact⟨by simp,λ j x y _ e=>by simp at e⟩
|a::as,b::bs,k,h=>by
 unfold Z.allEq at h;split at h
 .rename_i p q e1 e2;cases h;let⟨h1,h2⟩:=mV e2;refine⟨?_,λ j x y ex ey=>?_⟩
  .have:min (a::as).length (b::bs).length=min as.length bs.length+1:=by simp only[A33];lia
   rw[this,C45,C05,B57,h1];have e0:LJ g (a::as) (b::bs) 0=p:=by simp[LJ,e1]
   have es:(LJ g (a::as) (b::bs)∘Nat.succ)=LJ g as bs:=by funext j;simp[LJ]
   have el:((a::as).length==(b::bs).length)=(as.length==bs.length):=by rw[A53];simp
   rw[e0,es,el,AC1]
  .cases j with
   |zero=>simp at ex ey;subst ex ey;simp[LJ,e1]
   |succ j=>have:=h2 j x y (by simpa using ex) (by simpa using ey);simpa[LJ]using this
 .cases h
theorem AZ(I:Inv X χ σ H s)(n:Nat)(hu:A.units+n<cLine)
 (ih:∀ {A}{d1 d2}{v1 v2}{u1 u2}{k},A.units+n<cLine->Z.gR n d1 d2=AC k->bT X.K H d1 v1->bT X.K H d2 v2->RelV v1 u1->RelV v2 u2->WP A s u1 u2 k/\Op A s u1 u2 k/\TW A s u1 u2 (!k))
  (hk:Z.allEq (Z.gR n) as bs=AC k) (ta:aG X.K H as vs) (tb:aG X.K H bs ws) (ra:Vals vs bp) (rb:Vals ws iF) :
  ∀j h1 (h2:j<iF.toArray.size),Op A s bp.toArray[j] iF.toArray[j] (LJ (Z.gR n) as bs j):=by
 intro j hj1 hj2;have la:=ta.length;have lb:=tb.length;have XX:=ra.length;have ZK:=rb.length;simp only[A10]at hj1 hj2;obtain⟨x,ex⟩:∃x,as[j]?=AC x:=⟨as[j]'∅,A01 ∅⟩
 obtain⟨y,ey⟩:∃y,bs[j]?=AC y:=⟨bs[j]'∅,A01 ∅⟩
 let⟨vx,evx,dx⟩:=ta.get ex;let⟨vy,Hy,dy⟩:=tb.get ey;let⟨ux,eux,rx⟩:=ra.get evx;let⟨uy,euy,ry⟩:=rb.get Hy;have e1:bp.toArray[j]=ux:=by have:=A01 hj1;rw[eux]at this;simpa using(A04 this).symm
 have e2:iF.toArray[j]=uy:=by have:=A01 hj2;rw[euy]at this;simpa using(A04 this).symm
 rw[e1,e2];exact(ih hu ((mV hk).2 j x y ex ey) (.inl dx) (.inl dy) rx ry).2.1
theorem Ku{K:Da}(h:Z.TJ d1 d2=AC k)(h1:bT K H d1 v)(h2:bT K H d2 v):k=Ch:=by
 unfold Z.TJ at h;split at h<;>first
  |(cases h;rfl)
  |(cases h;done)
  |(have e:=h1.bl.symm.trans h2.bl;cases h;injection e with e;subst e;simp)
  |(have e:=h1.int.symm.trans h2.int;cases h;injection e with e;subst e;simp)
  |(have e:=h1.str.symm.trans h2.str;cases h;injection e with e;rw[<-z!,e];simp)
  |(have e:=h1.bl.symm.trans h2.int;cases e)
  |(have e:=h1.int.symm.trans h2.bl;cases e)
  |(have e:=h1.non.symm.trans h2.bl;cases e)
  |(have e:=h1.non.symm.trans h2.int;cases e)
  |(have e:=h1.non.symm.trans h2.str;cases e)
  |(have e:=h1.bl.symm.trans h2.non;cases e)
  |(have e:=h1.bl.symm.trans h2.str;cases e)
  |(have e:=h1.int.symm.trans h2.non;cases e)
  |(have e:=h1.int.symm.trans h2.str;cases e)
  |(have e:=h1.str.symm.trans h2.non;cases e)
  |(have e:=h1.str.symm.trans h2.bl;cases e)
  |(have e:=h1.str.symm.trans h2.int;cases e)
theorem uF{K:Da}(ih:∀{d1 d2}{v}{k},Z.gR n d1 d2=AC k->bT K H d1 v->bT K H d2 v->k=Ch)(h:Z.allEq (Z.gR n) as bs=AC k)(ta:aG K H as vs)(tb:aG K H bs vs):k=Ch:=by
 let⟨h1,h2⟩:=mV h;have la:=ta.length;have lb:=tb.length;rw[h1,show(as.length==bs.length)=Ch by simp;lia,AC7,A36];intro j hj;rw[A26]at hj;obtain⟨x,ex⟩:∃x,as[j]?=AC x:=⟨as[j]'∅,A01 ∅⟩
 obtain⟨y,ey⟩:∃y,bs[j]?=AC y:=⟨bs[j]'∅,A01 ∅⟩
 let⟨vx,evx,dx⟩:=ta.get ex;let⟨vy,Hy,dy⟩:=tb.get ey;rw[evx]at Hy;cases Hy;exact ih (h2 j x y ex ey) (.inl dx)<|.inl dy
theorem ym{a:δ}(I:Inv X χ σ H s)(h:nz X.K H a xs)(h':jE X.K H a ys):False:=by let⟨bp,r,⟨o,e,c,n,d⟩,_⟩:=I.tuple h;let⟨AY,r',⟨o',n',e',c',_⟩,_⟩:=I.list h';rw[e]at e';cases e';rw[c]at c';injection c' with z;exact absurd z ∅
def sq:Z.D->Bool
|.tup _=>Ch
|.lst _=>Ch
|_=>AT
def dc:Z.D->Bool
|.dct _ _=>Ch
|_=>AT
theorem Kv(n:Nat)(h:(sq d1=AT/\sq d2=AT)\/dc d1=Ch\/dc d2=Ch):Z.gR n d1 d2=Z.TJ d1 d2:=by cases d1<;>cases d2<;>cases n<;>first|rfl|(simp[sq,dc]at h)
theorem G4(I:Inv X χ σ H s)(n:Nat)(ih:∀m,m<n->∀{d1 d2}{v}{k},Z.gR m d1 d2=AC k->bT X.K H d1 v->bT X.K H d2 v->k=Ch)(h:Z.gR n d1 d2=AC k)(h1:bT X.K H d1 v)(h2:bT X.K H d2 v):k=Ch:=by
 cases d1<;>cases d2
 case tup.tup=>
  cases n with
  |zero=>cases h
  |succ n=>let⟨_,_,e,q,ta⟩:=h1.tup;let⟨_,_,e',q',tb⟩:=h2.tup;rw[e]at e';cases e';have:=I.qF q q';subst this;exact uF (ih n<|A62 n) h ta tb
 case tup.lst=>let⟨_,_,e,q,_⟩:=h1.tup;let⟨_,_,e',q',_⟩:=h2.lst;rw[e]at e';cases e';exact(ym I q q').elim
 case lst.tup=>let⟨_,_,e,q,_⟩:=h1.lst;let⟨_,_,e',q',_⟩:=h2.tup;rw[e]at e';cases e';exact(ym I q' q).elim
 case lst.lst=>
  cases n with
  |zero=>cases h
  |succ n=>let⟨_,_,e,q,ta⟩:=h1.lst;let⟨_,_,e',q',tb⟩:=h2.lst;rw[e]at e';cases e';have:=I.pR q q';subst this;exact uF (ih n<|A62 n) h ta tb
 all_goals try (refine Ku ((Kv n ?_).symm.trans h) h1 h2;simp[sq,dc];done)
 all_goals first|(let⟨_,_,e,_⟩:=h2.tup;rw[e]at h1)|(let⟨_,_,e,_⟩:=h2.lst;rw[e]at h1)|(let⟨_,_,e,_⟩:=h1.tup;rw[e]at h2)|(let⟨_,_,e,_⟩:=h1.lst;rw[e]at h2)
 all_goals first|cases h1.non|cases h1.bl|cases h1.int|cases h1.str|cases h2.non|cases h2.bl|cases h2.int|cases h2.str
theorem Bm(I:Inv X χ σ H s)(n:Nat):∀{d1 d2}{v}{k},Z.gR n d1 d2=AC k->bT X.K H d1 v->bT X.K H d2 v->k=Ch:=by
 induction n using Nat.strongRecOn with
 |_ n ih=>exact G4 I n ih
theorem ZJ(I:Inv X χ σ H s)(n:Nat)(ih:∀m,m<n->∀{A}{d1 d2}{v1 v2}{u1 u2}{k},A.units+m<cLine->Z.gR m d1 d2=AC k->bT X.K H d1 v1->bT X.K H d2 v2->RelV v1 u1->RelV v2 u2->WP A s u1 u2 k/\Op A s u1 u2 k/\TW A s u1 u2 (!k))(hu:A.units+n<cLine)(h:Z.gR n d1 d2=AC k)(h1:bT X.K H d1 v1)(h2:bT X.K H d2 v2)(r1:RelV v1 u1)(r2:RelV v2 u2):
 WP A s u1 u2 k/\Op A s u1 u2 k/\TW A s u1 u2 (!k):=by
 have gC:A.units<cLine:=by lia
 have vK:∀{ds}{v}{u},bT X.K H (.tup ds) v->RelV v u->∃q bp,u=.ref q/\s.heap.IsTuple q bp:=λ hd rv=>by let⟨q,vs,rfl,hq,_⟩:=hd.tup;cases rv;let⟨bp,_,p,_⟩:=I.tuple hq;exact⟨q,bp.toArray,rfl,p⟩
 have vX:∀{ds}{v}{u},bT X.K H (.lst ds) v->RelV v u->∃q bp,u=.ref q/\s.heap.IsList q bp:=λ hd rv=>by let⟨q,vs,rfl,hq,_⟩:=hd.lst;cases rv;let⟨bp,_,p,_⟩:=I.list hq;exact⟨q,bp.toArray,rfl,p.isList⟩
 cases d1<;>cases d2
 case non.tup=>
  obtain rfl:k=AT:=by cases n<;>cases h<;>rfl
  rw[h1.non]at r1;cases r1;let⟨q2,iF,rfl,p2⟩:=vK h2 r2;exact⟨SeqAt.RcAt.none_tuple p2 gC,SeqAt.EqAt.none_tuple p2 gC,SeqAt.RcNeAt.none_tuple p2 gC⟩
 case non.lst=>
  obtain rfl:k=AT:=by cases n<;>cases h<;>rfl
  rw[h1.non]at r1;cases r1;let⟨q2,iF,rfl,p2⟩:=vX h2 r2;exact⟨SeqAt.RcAt.none_list p2 gC,SeqAt.EqAt.none_list p2 gC,SeqAt.RcNeAt.none_list p2 gC⟩
 case bl.tup=>
  obtain rfl:k=AT:=by cases n<;>cases h<;>rfl
  rw[h1.bl]at r1;cases r1;let⟨q2,iF,rfl,p2⟩:=vK h2 r2;exact⟨SeqAt.RcAt.bool_tuple _ p2 gC,SeqAt.EqAt.bool_tuple _ p2 gC,SeqAt.RcNeAt.bool_tuple _ p2 gC⟩
 case bl.lst=>
  obtain rfl:k=AT:=by cases n<;>cases h<;>rfl
  rw[h1.bl]at r1;cases r1;let⟨q2,iF,rfl,p2⟩:=vX h2 r2;exact⟨SeqAt.RcAt.bool_list _ p2 gC,SeqAt.EqAt.bool_list _ p2 gC,SeqAt.RcNeAt.bool_list _ p2 gC⟩
 case int.tup=>
  obtain rfl:k=AT:=by cases n<;>cases h<;>rfl
  rw[h1.int]at r1;let⟨t1,rfl⟩:=r1;let⟨q2,iF,rfl,p2⟩:=vK h2 r2;exact⟨SeqAt.RcAt.int_tuple _ _ p2 gC,SeqAt.EqAt.int_tuple _ _ p2 gC,SeqAt.RcNeAt.int_tuple _ _ p2 gC⟩
 case int.lst=>
  obtain rfl:k=AT:=by cases n<;>cases h<;>rfl
  rw[h1.int]at r1;let⟨t1,rfl⟩:=r1;let⟨q2,iF,rfl,p2⟩:=vX h2 r2;exact⟨SeqAt.RcAt.int_list _ _ p2 gC,SeqAt.EqAt.int_list _ _ p2 gC,SeqAt.RcNeAt.int_list _ _ p2 gC⟩
 case str.tup=>
  obtain rfl:k=AT:=by cases n<;>cases h<;>rfl
  rw[h1.str]at r1;let⟨t1,rfl⟩:=r1;let⟨q2,iF,rfl,p2⟩:=vK h2 r2;exact⟨SeqAt.RcAt.str_tuple _ _ p2 gC,SeqAt.EqAt.str_tuple _ _ p2 gC,SeqAt.RcNeAt.str_tuple _ _ p2 gC⟩
 case str.lst=>
  obtain rfl:k=AT:=by cases n<;>cases h<;>rfl
  rw[h1.str]at r1;let⟨t1,rfl⟩:=r1;let⟨q2,iF,rfl,p2⟩:=vX h2 r2;exact⟨SeqAt.RcAt.str_list _ _ p2 gC,SeqAt.EqAt.str_list _ _ p2 gC,SeqAt.RcNeAt.str_list _ _ p2 gC⟩
 case tup.non=>
  obtain rfl:k=AT:=by cases n<;>cases h<;>rfl
  let⟨q1,yH,rfl,p1⟩:=vK h1 r1;rw[h2.non]at r2;cases r2;exact⟨SeqAt.RcAt.tuple_none p1 gC,SeqAt.EqAt.tuple_none p1 gC,SeqAt.RcNeAt.tuple_none p1 gC⟩
 case tup.bl=>
  obtain rfl:k=AT:=by cases n<;>cases h<;>rfl
  let⟨q1,yH,rfl,p1⟩:=vK h1 r1;rw[h2.bl]at r2;cases r2;exact⟨SeqAt.RcAt.tuple_bool _ p1 gC,SeqAt.EqAt.tuple_bool _ p1 gC,SeqAt.RcNeAt.tuple_bool _ p1 gC⟩
 case tup.int=>
  obtain rfl:k=AT:=by cases n<;>cases h<;>rfl
  let⟨q1,yH,rfl,p1⟩:=vK h1 r1;rw[h2.int]at r2;let⟨t2,rfl⟩:=r2;exact⟨SeqAt.RcAt.tuple_int _ _ p1 gC,SeqAt.EqAt.tuple_int _ _ p1 gC,SeqAt.RcNeAt.tuple_int _ _ p1 gC⟩
 case tup.str=>
  obtain rfl:k=AT:=by cases n<;>cases h<;>rfl
  let⟨q1,yH,rfl,p1⟩:=vK h1 r1;rw[h2.str]at r2;let⟨t2,rfl⟩:=r2;exact⟨SeqAt.RcAt.tuple_str _ _ p1 gC,SeqAt.EqAt.tuple_str _ _ p1 gC,SeqAt.RcNeAt.tuple_str _ _ p1 gC⟩
 case tup.lst=>
  obtain rfl:k=AT:=by cases n<;>cases h<;>rfl
  let⟨q1,yH,rfl,p1⟩:=vK h1 r1;let⟨q2,iF,rfl,p2⟩:=vX h2 r2;exact⟨SeqAt.RcAt.tuple_list p1 p2 gC,SeqAt.EqAt.tuple_list p1 p2 gC,SeqAt.RcNeAt.tuple_list p1 p2 gC⟩
 case lst.non=>
  obtain rfl:k=AT:=by cases n<;>cases h<;>rfl
  let⟨q1,yH,rfl,p1⟩:=vX h1 r1;rw[h2.non]at r2;cases r2;exact⟨SeqAt.RcAt.list_none p1 gC,SeqAt.EqAt.list_none p1 gC,SeqAt.RcNeAt.list_none p1 gC⟩
 case lst.bl=>
  obtain rfl:k=AT:=by cases n<;>cases h<;>rfl
  let⟨q1,yH,rfl,p1⟩:=vX h1 r1;rw[h2.bl]at r2;cases r2;exact⟨SeqAt.RcAt.list_bool _ p1 gC,SeqAt.EqAt.list_bool _ p1 gC,SeqAt.RcNeAt.list_bool _ p1 gC⟩
 case lst.int=>
  obtain rfl:k=AT:=by cases n<;>cases h<;>rfl
  let⟨q1,yH,rfl,p1⟩:=vX h1 r1;rw[h2.int]at r2;let⟨t2,rfl⟩:=r2;exact⟨SeqAt.RcAt.list_int _ _ p1 gC,SeqAt.EqAt.list_int _ _ p1 gC,SeqAt.RcNeAt.list_int _ _ p1 gC⟩
 case lst.str=>
  obtain rfl:k=AT:=by cases n<;>cases h<;>rfl
  let⟨q1,yH,rfl,p1⟩:=vX h1 r1;rw[h2.str]at r2;let⟨t2,rfl⟩:=r2;exact⟨SeqAt.RcAt.list_str _ _ p1 gC,SeqAt.EqAt.list_str _ _ p1 gC,SeqAt.RcNeAt.list_str _ _ p1 gC⟩
 case lst.tup=>
  obtain rfl:k=AT:=by cases n<;>cases h<;>rfl
  let⟨q1,yH,rfl,p1⟩:=vX h1 r1;let⟨q2,iF,rfl,p2⟩:=vK h2 r2;exact⟨SeqAt.RcAt.list_tuple p1 p2 gC,SeqAt.EqAt.list_tuple p1 p2 gC,SeqAt.RcNeAt.list_tuple p1 p2 gC⟩
 case tup.tup as bs=>
  cases n with
  |zero=>cases h
  |succ n=>
   have hk:=h;have hs:=λ(z:v1=v2)=>Bm I (n+1) (d1:=.tup as) (d2:=.tup bs) (v:=v1) h h1<|z▸h2;let⟨q,vs,rfl,hq,ta⟩:=h1.tup;let⟨q',ws,rfl,gB,tb⟩:=h2.tup;cases r1;cases r2;let⟨bp,ra,pa,_⟩:=I.tuple hq;let⟨iF,rb,pb,_⟩:=I.tuple gB;have hi:=AZ I n (A:=A.in1) (show A.units+1+n<cLine by lia) (ih n<|A62 n) hk ta tb ra rb;have e:=(mV hk).1;have la:=ta.length;have lb:=tb.length;have XX:=ra.length;have ZK:=rb.length;have t1:=SeqAt.RcAt.tuples (s:=s) (A:=A) (pa) (pb) gC hi;have t2:=SeqAt.RcNeAt.tuples (s:=s) (A:=A) (pa) (pb) gC hi;simp only[A10]at t1 t2;rw[<-XX,<-ZK,la,lb,<-e]at t1 t2;refine⟨t1,?_,t2⟩;by_cases V6:q=q'
   .subst V6;rw[hs rfl];exact C04 _
   .exact SeqAt.EqAt.of_refs V6 t1
 case lst.lst as bs=>
  cases n with
  |zero=>cases h
  |succ n=>
   have hk:=h;have hs:=λ(z:v1=v2)=>Bm I (n+1) (d1:=.lst as) (d2:=.lst bs) (v:=v1) h h1<|z▸h2;let⟨q,vs,rfl,hq,ta⟩:=h1.lst;let⟨q',ws,rfl,gB,tb⟩:=h2.lst;cases r1;cases r2;let⟨bp,ra,pa,_⟩:=I.list hq;let⟨iF,rb,pb,_⟩:=I.list gB;have e:=(mV hk).1;have la:=ta.length;have lb:=tb.length;have XX:=ra.length;have ZK:=rb.length;have t:WP A s (.ref q) (.ref q') k/\TW A s (.ref q) (.ref q') (!k):=by
    by_cases ψ:as.length=bs.length
    .have hi:=AZ I n (A:=A.in1) (show A.units+1+n<cLine by lia) (ih n<|A62 n) hk ta tb ra rb;have t1:=SeqAt.RcAt.lists (s:=s) (A:=A) pa.isList pb.isList (by simp only[A10];lia) gC hi;have t2:=SeqAt.RcNeAt.lists (s:=s) (A:=A) pa.isList pb.isList (by simp only[A10];lia) gC hi;simp only[A10]at t1 t2;rw[<-XX,la]at t1 t2;rw[ψ,Nat.min_self,A94,AC7,<-ψ]at e;rw[<-e]at t1 t2;exact⟨t1,t2⟩
    .have:(as.length==bs.length)=AT:=by simpa using ψ
     rw[this,AC2]at e;subst e;exact⟨SeqAt.RcAt.lists_lengths pa.isList pb.isList (by simp only[A10,bne_iff_ne,ne_eq];lia) gC,SeqAt.RcNeAt.lists_lengths pa.isList pb.isList (by simp only[A10,bne_iff_ne,ne_eq];lia) gC⟩
   refine⟨t.1,?_,t.2⟩;by_cases V6:q=q'
   .subst V6;rw[hs rfl];exact C04 _
   .exact SeqAt.EqAt.of_refs V6 t.1
 all_goals (refine rcS ((Kv n ?_).symm.trans h) h1 h2 r1 r2;simp[sq,dc])
theorem Tc(I:Inv X χ σ H s)(n:Nat):∀{A}{d1 d2}{v1 v2}{u1 u2}{k},A.units+n<cLine->Z.gR n d1 d2=AC k->bT X.K H d1 v1->bT X.K H d2 v2->RelV v1 u1->RelV v2 u2->WP A s u1 u2 k/\Op A s u1 u2 k/\TW A s u1 u2 (!k):=by
 induction n using Nat.strongRecOn with
 |_ n ih=>exact ZJ I n ih
theorem iQ(hu:X.A.units+64<cLine):BX X .Eq Z.oEq:=by
 have ho:jN X (compareOp .Eq) (λ x y H Q=>∃d1 d2 k,bT X.K H d1 x/\bT X.K H d2 y/\Z.iO d1 d2=AC k/\Q (.bl k) H):=by intro χ s σ H x y v u Q I rx ry h;let⟨d1,d2,k,h1,h2,e,q⟩:=h;exact(Tc I 6 ∅ e h1 h2 rx ry).1 _ X.w X.xe _ ⟨.bl k,H,I,rfl,q⟩
 exact⟨_,ho,λ x y dx dy d H Q h1 h2 e k=>by
  unfold Z.oEq at e;split at e
  .rename_i z hz;cases e;exact⟨dx,dy,z,h1,h2,hz,k _ H (aJ.refl H) c7⟩
  .cases e⟩
theorem DB(hu:X.A.units+64<cLine):BX X .NotEq Z.sS:=by
 have ho:jN X (compareOp .NotEq) (λ x y H Q=>∃d1 d2 k,bT X.K H d1 x/\bT X.K H d2 y/\Z.iO d1 d2=AC k/\Q (.bl<|!k) H):=by intro χ s σ H x y v u Q I rx ry h;let⟨d1,d2,k,h1,h2,e,q⟩:=h;exact(Tc I 6 ∅ e h1 h2 rx ry).2.2 _ X.w X.xe _ ⟨.bl<|!k,H,I,rfl,q⟩
 exact⟨_,ho,λ x y dx dy d H Q h1 h2 e k=>by
  unfold Z.sS at e;split at e
  .rename_i z hz;cases e;exact⟨dx,dy,z,h1,h2,hz,k _ H (aJ.refl H) c7⟩
  .cases e⟩
theorem JK:∀{a b},GD a=GD b->a=b
|.inl a,.inl b,h=>by injection h with h;rw[h]
|.inl _,.inr _,h=>by cases h
|.inr _,.inl _,h=>by cases h
|.inr a,.inr b,h=>by
 injection h with h
 injection h with h
 have:a=b:=by simpa using A11 ZB h
 rw[this]
theorem xk:∀{a b:γ _},a.map GD=b.map GD->a=b
|[],[],_=>rfl
|[],_::_,h=>by cases h
|_::_,[],h=>by cases h
|a::as,b::bs,h=>by simp only[f8,A97]at h;rw[JK h.1,xk h.2]
theorem Fm{a:δ}(I:Inv X χ σ H s)(hq:H a=AC (.eJ o<|.dK aV)):∃o',s.heap.get? a=AC o'/\o'.cls=.type "dict":=by
 obtain⟨_,_,_,_,_,o',es,ep,h1,h2,_⟩:=(I.bY a _ hq)
 exact⟨o',h1,h2.1⟩
theorem IA{a:δ}(I:Inv X χ σ H s)(h:nz X.K H a xs)(h':H a=AC (.eJ o<|.dK aV)):False:=by let⟨bp,r,⟨o1,e,c,n,d⟩,_⟩:=I.tuple h;let⟨o2,e',c'⟩:=Fm I h';rw[e]at e';cases e';rw[c]at c';injection c' with z;exact absurd z ∅
theorem IB{a:δ}(I:Inv X χ σ H s)(h:jE X.K H a xs)(h':H a=AC (.eJ o<|.dK aV)):False:=by let⟨bp,r,⟨o1,n,e,c,_⟩,_⟩:=I.list h;let⟨o2,e',c'⟩:=Fm I h';rw[e]at e';cases e';rw[c]at c';injection c' with z;exact absurd z ∅
mutual
theorem Den.inj{χ:γ (δ×μ)}{σ:St}{H:Hp}{s:θ}(I:Inv X χ σ H s):∀(d1 d2:Z.D)(v:V),Den X.K H d1 v->Den X.K H d2 v->d1=d2
|.non,d2,v,h1,h2=>by
 simp only[Den]at h1;subst h1;cases d2<;>simp only[Den]at h2<;>first|rfl|(cases h2;done)|skip
 case tup=>let⟨_,_,e,_⟩:=h2;cases e
 case lst=>let⟨_,_,e,_⟩:=h2;cases e
 case dct=>let⟨_,_,_,e,_⟩:=h2;cases e
|.bl b,d2,v,h1,h2=>by
 simp only[Den]at h1;subst h1;cases d2<;>simp only[Den]at h2<;>first|(injection h2 with h2;rw[h2])|(cases h2;done)|skip
 case tup=>let⟨_,_,e,_⟩:=h2;cases e
 case lst=>let⟨_,_,e,_⟩:=h2;cases e
 case dct=>let⟨_,_,_,e,_⟩:=h2;cases e
|.int i,d2,v,h1,h2=>by
 simp only[Den]at h1;subst h1;cases d2<;>simp only[Den]at h2<;>first|(injection h2 with h2;rw[h2])|(cases h2;done)|skip
 case tup=>let⟨_,_,e,_⟩:=h2;cases e
 case lst=>let⟨_,_,e,_⟩:=h2;cases e
 case dct=>let⟨_,_,_,e,_⟩:=h2;cases e
|.str cs,d2,v,h1,h2=>by
 simp only[Den]at h1;subst h1;cases d2<;>simp only[Den]at h2<;>first|(injection h2 with h2;injection h2 with h2;have:=A11 ZB h2;simp at this;rw[this])|(cases h2;done)|skip
 case tup=>let⟨_,_,e,_⟩:=h2;cases e
 case lst=>let⟨_,_,e,_⟩:=h2;cases e
 case dct=>let⟨_,_,_,e,_⟩:=h2;cases e
|.tup ds,d2,v,h1,h2=>by
 simp only[Den]at h1;let⟨a,vs,rfl,q,t⟩:=h1;cases d2<;>simp only[Den]at h2
 case tup es=>let⟨a',vs',e,q',t'⟩:=h2;cases e;rw[I.qF q' q]at t';rw[aG.inj I ds es vs t t']
 case lst es=>let⟨a',vs',e,q',t'⟩:=h2;cases e;exact(ym I q q'.sq).elim
 case dct ks es=>let⟨a',o,aV,e,q',_⟩:=h2;cases e;exact(IA I q q').elim
 all_goals cases h2
|.lst ds,d2,v,h1,h2=>by
 simp only[Den]at h1;let⟨a,vs,rfl,q,t⟩:=h1;cases d2<;>simp only[Den]at h2
 case lst es=>let⟨a',vs',e,q',t'⟩:=h2;cases e;rw[I.pR q'.sq q.sq]at t';rw[aG.inj I ds es vs t t']
 case tup es=>let⟨a',vs',e,q',t'⟩:=h2;cases e;exact(ym I q' q.sq).elim
 case dct ks es=>let⟨a',o,aV,e,q',_⟩:=h2;cases e;exact(IB I q.sq q').elim
 all_goals cases h2
|.dct ks ds,d2,v,h1,h2=>by
 simp only[Den]at h1;let⟨a,o,aV,rfl,q,hk,t,_⟩:=h1;cases d2<;>simp only[Den]at h2
 case lst es=>let⟨a',vs',e,q',t'⟩:=h2;cases e;exact(IB I q'.sq q).elim
 case tup es=>let⟨a',vs',e,q',t'⟩:=h2;cases e;exact(IA I q' q).elim
 case dct ks' es=>let⟨a',o',aed,e,q',Tu,t',_⟩:=h2;cases e;rw[q]at q';cases q';rw[aG.inj I ds es _ t t',xk<|hk.symm.trans Tu]
 all_goals cases h2
theorem aG.inj{χ:γ (δ×μ)}{σ:St}{H:Hp}{s:θ}(I:Inv X χ σ H s):∀(d1 d2:γ Z.D)(v:γ V),aG X.K H d1 v->aG X.K H d2 v->d1=d2
|[],d2,v,h1,h2=>by
 simp only[aG]at h1;subst h1;cases d2 with
 |nil=>rfl
 |cons d ds=>simp only[aG]at h2;let⟨_,_,e,_⟩:=h2;cases e
|d::ds,d2,v,h1,h2=>by
 simp only[aG]at h1;let⟨u,r,rfl,q,t⟩:=h1;cases d2 with
 |nil=>simp only[aG]at h2;cases h2
 |cons d' YU=>simp only[aG]at h2;let⟨u',r',e,q',t'⟩:=h2;cases e;rw[Den.inj I d d' u q q',aG.inj I ds YU r t t']
end
theorem vh:∀{ys}{k},Z.fK x ys=AC k->k=ys.any (λ y=>(Z.iO y x).getD AT)/\∀y∈ys,Z.iO y x=AC ((Z.iO y x).getD AT)
|[],k,h=>by cases h;exact⟨rfl,λ y hy=>by cases hy⟩
|y::ys,k,h=>by
 unfold Z.fK at h;split at h
 .rename_i a b ea eb;cases h;let⟨h1,h2⟩:=vh eb;refine⟨by rw[B07,ea,h1];rfl,λ z hz=>?_⟩;rcases A02.mp hz with rfl|hz
  .rw[ea];rfl
  .exact h2 z hz
 .cases h
theorem yJ(I:Inv X χ σ H s)(hu:A.units+60<cLine)(hx:bT X.K H x v)(rx:RelV v u):∀{ys}{vs}{us},aG X.K H ys vs->Vals vs us->(∀y∈ys,Z.iO y x=AC ((Z.iO y x).getD AT)) ->
 ∃e,(∀w∈us,Op A s w u (e w))/\us.any e=ys.any (λ y=>(Z.iO y x).getD AT):=by
 intro ys vs us;have key:∀{ys}{vs}{us},aG X.K H ys vs->Vals vs us->(∀y∈ys,Z.iO y x=AC ((Z.iO y x).getD AT))->(∀w∈us,∃b,Op A s w u b)/\∀e,(∀w∈us,∀y vy,Den X.K H y vy->RelV vy w->y∈ys->e w=(Z.iO y x).getD AT)->us.any e=ys.any (λ y=>(Z.iO y x).getD AT):=by
  intro ys
  induction ys with
  |nil=>intro vs us t r _;simp only[aG]at t;subst t;cases r;exact⟨λ w hw=>(by cases hw),λ _ _=>rfl⟩
  |cons y ys ih=>
   intro vs us t r hh;simp only[aG]at t;let⟨vy,vr,rfl,dy,tr⟩:=t;cases r with
   |cons ry rr=>
    let⟨h1,h2⟩:=ih tr rr (λ z hz=>hh z<|A09 _ hz);refine⟨λ w hw=>?_,λ e he=>?_⟩
    .rcases A02.mp hw with rfl|hw
     .exact⟨_,(Tc I 6 ∅ (hh y A12) (.inl dy) hx ry rx).2.1⟩
     .exact h1 w hw
    .rw[B07,B07,he _ A12 y vy dy ry A12,h2 e λ w hw z vz dz rz hz=>he w (A09 _ hw) z vz dz rz<|A09 _ hz]
 intro t r hh
 classical
 let e:=λ w=>if h:∃y vy,Den X.K H y vy/\RelV vy w/\y∈ys then(Z.iO h.choose x).getD AT else AT
 have he:∀w y vy,Den X.K H y vy->RelV vy w->y∈ys->e w=(Z.iO y x).getD AT:=by
  intro w y vy dy ry hy;have hex:∃y vy,Den X.K H y vy/\RelV vy w/\y∈ys:=⟨y,vy,dy,ry,hy⟩
  show(if h:_ then _ else _)=_;rw[A93 hex];let⟨vy',WR,UG,JV⟩:=hex.choose_spec;have ev:=UG.inj ry;subst ev;rw[Den.inj I _ _ _ WR dy]
 refine⟨e,λ w hw=>?_,(key t r hh).2 e λ w hw y vy dy ry hy=>he w y vy dy ry hy⟩;let⟨j,hj,ej⟩:=C06 hw;have hl:=r.length;have ht:=t.length;obtain⟨y,ey⟩:∃y,ys[j]?=AC y:=⟨ys[j]'∅,A01 ∅⟩
 let⟨vy,Hy,dy⟩:=t.get ey;let⟨u',Oe,Lu⟩:=r.get Hy;have:u'=w:=by have:=A01 hj;rw[Oe,ej]at this;exact A04 this
 subst this;have hy:=A20 ey;rw[he _ y vy dy Lu hy];exact(Tc I 6 ∅ (hh y hy) (.inl dy) hx Lu rx).2.1
theorem Q9(hu:X.A.units+64<cLine):jN X (compareOp .In) (λ x y H Q=>∃d ys q vs k,bT X.K H d x/\y=.ref q/\(jE X.K H q vs\/nz X.K H q vs)/\aG X.K H ys vs/\Z.fK d ys=AC k/\Q (.bl k) H):=by
 intro χ s σ H x y v u Q I rx ry h;let⟨d,ys,q,vs,k,hd,rfl,hq,t,e,k'⟩:=h;cases ry;let⟨e1,e2⟩:=vh e;subst e1;rcases hq with hq|hq
 .let⟨bp,r,pl,hz⟩:=I.list hq;let⟨f,hf,zr⟩:=yJ I (A:=X.A.in1) (show X.A.units+1+60<cLine by lia) hd rx t r e2;refine SeqAt.in_listAt f pl.isList (λ w hw=>hf w (by simpa using hw)) ⟨.bl _,H,I,rfl,?_⟩;rw[show bp.toArray.any f=bp.any f by simp,zr];exact k'
 .let⟨bp,r,pl,hz⟩:=I.tuple hq;let⟨f,hf,zr⟩:=yJ I (A:=X.A.in1) (show X.A.units+1+60<cLine by lia) hd rx t r e2;refine SeqAt.in_tupleAt f pl (λ w hw=>hf w (by simpa using hw)) ⟨.bl _,H,I,rfl,?_⟩;rw[show bp.toArray.any f=bp.any f by simp,zr];exact k'
theorem F_(hu:X.A.units+64<cLine):jN X (compareOp .NotIn) (λ x y H Q=>∃d ys q vs k,bT X.K H d x/\y=.ref q/\(jE X.K H q vs\/nz X.K H q vs)/\aG X.K H ys vs/\Z.fK d ys=AC k/\Q (.bl<|!k) H):=by
 intro χ s σ H x y v u Q I rx ry h;let⟨d,ys,q,vs,k,hd,rfl,hq,t,e,k'⟩:=h;cases ry;let⟨e1,e2⟩:=vh e;subst e1;rcases hq with hq|hq
 .let⟨bp,r,pl,hz⟩:=I.list hq;let⟨f,hf,zr⟩:=yJ I (A:=X.A.in1) (show X.A.units+1+60<cLine by lia) hd rx t r e2;refine SeqAt.notIn_listAt f pl.isList (λ w hw=>hf w (by simpa using hw)) ⟨.bl _,H,I,rfl,?_⟩;rw[show bp.toArray.any f=bp.any f by simp,zr];exact k'
 .let⟨bp,r,pl,hz⟩:=I.tuple hq;let⟨f,hf,zr⟩:=yJ I (A:=X.A.in1) (show X.A.units+1+60<cLine by lia) hd rx t r e2;refine SeqAt.notIn_tupleAt f pl (λ w hw=>hf w (by simpa using hw)) ⟨.bl _,H,I,rfl,?_⟩;rw[show bp.toArray.any f=bp.any f by simp,zr];exact k'
theorem DC(hu:X.A.units+64<cLine):BX X .In Z.sT:=⟨_,Q9 hu,λ x y dx dy d H Q h1 h2 e k=>by
 unfold Z.sT at e;split at e
 .split at e
  .rename_i b hb;cases e;let⟨q,vs,rfl,hq,t⟩:=h2.tup;exact⟨dx,_,q,vs,b,h1,rfl,.inr hq,t,hb,k _ H (aJ.refl H) c7⟩
  .cases e
 .split at e
  .rename_i b hb;cases e;let⟨q,vs,rfl,hq,t⟩:=h2.lst;exact⟨dx,_,q,vs,b,h1,rfl,.inl hq,t,hb,k _ H (aJ.refl H) c7⟩
  .cases e
 .cases e⟩
theorem Fp(hu:X.A.units+64<cLine):BX X .NotIn Z.jn:=⟨_,F_ hu,λ x y dx dy d H Q h1 h2 e k=>by
 unfold Z.jn at e;split at e
 .split at e
  .rename_i b hb;cases e;let⟨q,vs,rfl,hq,t⟩:=h2.tup;exact⟨dx,_,q,vs,b,h1,rfl,.inr hq,t,hb,k _ H (aJ.refl H) c7⟩
  .cases e
 .split at e
  .rename_i b hb;cases e;let⟨q,vs,rfl,hq,t⟩:=h2.lst;exact⟨dx,_,q,vs,b,h1,rfl,.inl hq,t,hb,k _ H (aJ.refl H) c7⟩
  .cases e
 .cases e⟩
theorem Fv:∀{xs}{k},Z.allB xs=AC k->∃bs:γ Bool,xs=bs.map Z.D.bl/\k=bs.all id
|[],k,h=>by cases h;exact⟨[],rfl,rfl⟩
|x::xs,k,h=>by
 cases x with
 |bl b=>
  have h':(Z.allB xs).map _=AC k:=h;cases q:Z.allB xs with
  |none=>rw[q]at h';cases h'
  |some k'=>rw[q]at h';cases h';let⟨bs,rfl,rfl⟩:=Fv q;exact⟨b::bs,rfl,rfl⟩
 |non=>cases h
 |int _=>cases h
 |str _=>cases h
 |tup _=>cases h
 |lst _=>cases h
 |dct _ _=>cases h
theorem Bx{K:Da}:∀{bs:γ Bool}{vs},aG K H (bs.map Z.D.bl) vs->vs=bs.map V.bl
|[],vs,h=>by simp only[A35]at h;subst h;rfl
|b::bs,vs,h=>by simp only[f8]at h;let⟨v,r,rfl,hv,ht⟩:=h;simp only[Den]at hv;rw[hv,Bx ht];rfl
theorem all_range(bs:γ Bool):((Ev bs.length).all λ i=>bs[i]?.getD Ch)=bs.all id:=by
 induction bs with
 |nil=>rfl
 |cons b bs ih=>
  rw[A33,C45,C05,B57,C05];have:((λ i=>((b::bs)[i]?).getD Ch)∘Nat.succ)=λ i=>bs[i]?.getD Ch:=by funext i;simp
  rw[this,ih];simp
theorem Hg(hc:X.calm=Ch):n? X (.builtin "all") (λ xs H Q=>∃(q:δ)(bs:γ Bool),xs=[.ref q]/\jE X.K H q (bs.map V.bl)/\Q (.bl<|bs.all id) H):=by
 intro χ s σ H xs us Q I r h;let⟨q,bs,rfl,hq,k⟩:=h;let⟨u,rfl,ru⟩:=vals1 r;cases ru;let⟨bp,rv,pl,hz⟩:=I.list hq;have hl:=rv.length;rw[A05]at hl;have kF:q<s.heap.objs.size:=by let⟨_,e,_⟩:=pl.isList;exact A00 e
 have hh:X.A.in1.handled=At:=I.ok.hd hc;refine call_all_walk<|A96 pl.isList ?_;refine⟨_,[s.heap.objs.size,q],[s.heap.objs.size],_,_,_,λ i=>bs[i]?.getD Ch,rfl,Walks.list hh _ q (A13 kF) _,⟨⟨_,A14 _ rfl,rfl,rfl⟩,pl.isList.push _⟩,?_,λ h' tk hk=>?_⟩
 .intro i v s' Q' E' hv hQ;have hi:bp[i]?=AC v:=by simpa using hv
  let⟨_5,_⟩:=A08.mp hi;have hb:(bs.map V.bl)[i]?=AC (V.bl<|bs[i]'∅):=by rw[A06,A01];rfl
  let⟨u,hu,ru⟩:=rv.get hb;rw[hi]at hu;cases hu;cases ru;refine A58 ?_;have:bs[i]?.getD Ch=bs[i]'∅:=by rw[A01];rfl
  rw[<-this];exact hQ
 .have I1:Inv X χ σ H {s with heap:=s.heap.push {cls:=.type "list_iterator",data:=.fields #[.ref q,.int 0 0]}}:=I.kept λ b o e=>v6 _ e;let⟨f0,f1,f2,f3,f4,f5⟩:=I.uN (v4 s.heap.objs.size) I.fresh;have I2:=I1.turned (t':=tk) (λ b o hb e=>hk b o (by simpa using hb) e) f0 f1 f3 f4 f5;refine⟨.bl _,H,I2,rfl,?_⟩;have e:(Ev bp.toArray.size).all (λ i=>bs[i]?.getD Ch)=bs.all id:=by rw[A10,<-hl,all_range]
  rw[e];exact k
theorem _root_.ZQ.iz(hm:X.mg x=At)(ha:ZQ.QW X a fa)(hc:X.calm=Ch:=by rfl)(hn:x≠ "__name__":=by decide +kernel)(gQ:(x == ("__debug__"))=AT:=by decide +kernel)(he:Se a [] X.env:=by rfl)(fU:Pn pos [] X.env:=by rfl)(hg:Gl X x:=by rfl)(hv:bootBuiltins x=AC (.builtin "all"):=by kernel_rfl):ZQ.QE X (.Call (.Name x p1) [a] [] pos) (Z.eU Z.jJ fa):=
 ⟨PE.imp (km (Hg hc) hg hm hv (bM ha.p cX he) hn gQ he fU) <|by
  rintro σ H Q ⟨ρ,d,r,e,k⟩;let⟨x,ea,e⟩:=XV e;refine⟨ρ,x,r,ea,λ v H1 s1 d1=>?_⟩;unfold Z.jJ at e;split at e
  .split at e
   .rename_i xs k' hk;cases e;let⟨bs,rfl,rfl⟩:=Fv hk;let⟨q,vs,rfl,hq,t⟩:=d1.lst;rw[Bx t]at hq;exact⟨q,bs,rfl,hq,k _ H1 s1 c7⟩
   .cases e
  .cases e⟩
end
theorem _root_.ZQ.aq(ha:ZQ.QE X (.Constant v j p) f)(hr:ZQ.QA X es g):ZQ.QA X ((.Constant v j p)::es) (Z.aa f g):=⟨i? ha.p hr.p rfl⟩
theorem _root_.ZQ.ae(ha:ZQ.QE X (.Name x p) f)(hr:ZQ.QA X es g):ZQ.QA X ((.Name x p)::es) (Z.aa f g):=⟨i? ha.p hr.p rfl⟩
theorem _root_.ZQ.rg(ha:ZQ.QE X (.Tuple xs j p) f)(hr:ZQ.QA X es g):ZQ.QA X ((.Tuple xs j p)::es) (Z.aa f g):=⟨i? ha.p hr.p rfl⟩
theorem _root_.ZQ.qg(ha:ZQ.QE X (.List xs p) f)(hr:ZQ.QA X es g):ZQ.QA X ((.List xs p)::es) (Z.aa f g):=⟨i? ha.p hr.p rfl⟩
theorem _root_.ZQ.cP(ha:ZQ.QE X (.BinOp x o y p) f)(hr:ZQ.QA X es g):ZQ.QA X ((.BinOp x o y p)::es) (Z.aa f g):=⟨i? ha.p hr.p rfl⟩
theorem _root_.ZQ.b?(ha:ZQ.QE X (.Call x xs ks p) f)(hr:ZQ.QA X es g):ZQ.QA X ((.Call x xs ks p)::es) (Z.aa f g):=⟨i? ha.p hr.p rfl⟩
theorem _root_.ZQ.bN(ha:ZQ.QE X (.Subscript x y p) f)(hr:ZQ.QA X es g):ZQ.QA X ((.Subscript x y p)::es) (Z.aa f g):=⟨i? ha.p hr.p rfl⟩
theorem _root_.ZQ.K1(ha:ZQ.QE X (.Dict ks vs p) f)(hr:ZQ.QA X es g):ZQ.QA X ((.Dict ks vs p)::es) (Z.aa f g):=⟨i? ha.p hr.p rfl⟩
theorem _root_.ZQ.fZ(ha:ZQ.QE X (.Attribute x n p) f)(hr:ZQ.QA X es g):ZQ.QA X ((.Attribute x n p)::es) (Z.aa f g):=⟨i? ha.p hr.p rfl⟩
end ZS
namespace ZQ
open L2 ZS
theorem _root_.ZS.Dg(h1:sc.kind=.function:=by rfl)(h2:sc.isCoroutine=AT:=by rfl)(h3:sc.isGenerator=AT:=by rfl)(h4:N.Nodup:=by decide +kernel)(h5:N.take P.length=P:=by rfl)(h6:∀x∈P,sc.names.lookup x=AC .local\/sc.names.lookup x=AC .cell:=by decide +kernel)(h7:∀y∈sc.names,y.2≠.free:=by decide +kernel):a9 N P sc:=⟨h1,h2,h3,h4,h5,h6,h7⟩
theorem b7{K:Da}{st:η}(d:ZS.Def K mg x st ps)(hb:∀{f}{bf}{A}{outer}{s}{H}{E},N.Nodup->(A.deeper<|envOfC x (aj st) s.heap.objs.size f bf).units+64<cLine->bL k (A.deeper<|envOfC x (aj st) s.heap.objs.size f bf)->BK (d6 iV P w K mg base N x (aj st) f bf A outer s H E).gy H (aL st) b)(S:a9 N ps (aj st):=by exact ZS.Dg):ZS.ie P w K mg base x (k+1) ps (Z.fn ps.length N.length b):=ZS.ie.mk' d S λ f bf A outer s H E hr=>(hb S.nd hr.units hr).p
theorem aaF{K:Da}{st:η}(F:BM K x qual st f fd)(hb:∀{bf}{A}{outer}{s}{H}{E},N.Nodup->(A.deeper<|envOfC qual (aj st) s.heap.objs.size f bf).units+64<cLine->bL k (A.deeper<|envOfC qual (aj st) s.heap.objs.size f bf)->BK (d6 iV P w K mg base N qual (aj st) f bf A outer s H E).gy H (aL st) b)(S:a9 N ps (aj st):=by exact ZS.Dg):eY P w K mg base iV (k+1) f fd ps (ZS.zq K<|Z.fn ps.length N.length b):=ZS.fnZ F S λ bf A outer s H E hr=>(hb S.nd hr.units hr).p
end ZQ
namespace Z
def g!:D->Res D
|.lst xs=>.ok<|.tup xs
|.tup xs=>.ok<|.tup xs
|_=>.bad
@[simp] theorem Rc(xs:γ D):g! (.lst xs)=.ok (.tup xs):=rfl
@[simp] theorem Rb(xs:γ D):g! (.tup xs)=.ok (.tup xs):=rfl
def aX:γ Nat:=[97,98,99,100,101,102,103,104,105,106,107,108,109,110,111,112,113,114,115,116,117,118,119,120,121,122]
def signs:γ Nat:=[46,61,35,97,98,99,100,101,102,103,104,105,106,107,108,109,110,111,112,113,114,115,116,117,118,119,120,121,122]
def M0:D->D->Res D
|.int i,.int j=>.ok<|.int<|max i j
|_,_=>.bad
@[simp] theorem U'(i j:Int):M0 (.int i) (.int j)=.ok (.int<|max i j):=rfl
def MZ:D->D->Res D
|.int i,.int j=>.ok<|.int<|min i j
|_,_=>.bad
@[simp] theorem U9(i j:Int):MZ (.int i) (.int j)=.ok (.int<|min i j):=rfl
def yw:D->Res D
|.int i=>.ok<|.int i
|.bl b=>.ok<|.int<|if b then 1 else 0
|_=>.bad
@[simp] theorem Vc(i:Int):yw (.int i)=.ok (.int i):=rfl
@[simp] theorem X'(b:Bool):yw (.bl b)=.ok (.int<|if b then 1 else 0):=rfl
def n!(x:D):γ D->ε Nat
|[]=>AC 0
|y::r=>match iO y x,n! x r with
 |some a,AC b=>AC<|b+(if a then 1 else 0)
 |_,_=>At
def yz:D->D->Res D
|.lst ys,x=>match n! x ys with
 |some n=>.ok<|.int n
 |none=>.bad
|_,_=>.bad
def z8:γ D->ε Int
|[]=>AC 0
|.int i::r=>(z8 r).map (i+·)
|_::_=>At
def Jb:D->Res D
|.lst xs=>match z8 xs with
 |some i=>.ok<|.int i
 |none=>.bad
|_=>.bad
theorem wM:∀(ns:γ Int),z8 (ns.map D.int)=AC ns.sum
|[]=>rfl
|n::ns=>by simp[z8,wM ns]
def F2(i:Nat)(l:LF)(ρ:Env):Res Fl:=(l ρ).bind λ ys=>match ρ[i]? with
|some<|some<|.own xs=>guard (xs.length+ys.length<=line)<|.ok<|.nx<|ρ.set i<|some<|.own<|xs++ys
|_=>.bad
def pair(a b:D):D:=.tup [a,b]
def lZ(k:Nat):γ D->γ D
|[]=>[]
|d::ds=>pair (.int k) d::lZ (k+1) ds
def l!:γ D->γ D->γ D
|a::as,b::bs=>pair a b::l! as bs
|_,_=>[]
def EZ(a:EF)(ρ:Env):Res (γ D):=(a ρ).bind λ x=>(lW x).bind λ ds=>.ok<|lZ 0 ds
@[simp] theorem Yo(a:EF)(ρ:Env):EZ a ρ=(a ρ).bind λ x=>(lW x).bind λ ds=>.ok (lZ 0 ds):=rfl
def Mo:D->Res (γ D)
|.tup xs=>.ok xs
|.lst xs=>.ok xs
|_=>.bad
@[simp] theorem UA(xs:γ D):Mo (.tup xs)=.ok xs:=rfl
@[simp] theorem UB(xs:γ D):Mo (.lst xs)=.ok xs:=rfl
def Qm:D->Res (γ D)
|.tup xs=>.ok xs
|_=>.bad
@[simp] theorem Ud(xs:γ D):Qm (.tup xs)=.ok xs:=rfl
def NS(a b:EF)(ρ:Env):Res (γ D):=(a ρ).bind λ x=>(b ρ).bind λ y=>(Mo x).bind λ xs=>(Qm y).bind λ ys=>.ok<|l! xs ys
@[simp] theorem _r(a b:EF)(ρ:Env):NS a b ρ=(a ρ).bind λ x=>(b ρ).bind λ y=>(Mo x).bind λ xs=>(Qm y).bind λ ys=>.ok (l! xs ys):=rfl
end Z
namespace ZS
open L2
section
variable{X:Cx}
theorem _root_.ZQ.gu(hm:X.mg x=At)(ha:ZQ.QW X a fa)(hn:x≠ "__name__":=by decide +kernel)(gQ:(x==("__debug__"))=AT:=by decide +kernel)(he:Se a [] X.env:=by rfl)(fU:Pn pos [] X.env:=by rfl)(hg:Gl X x:=by rfl)(hv:bootBuiltins x=AC (.type "tuple"):=by kernel_rfl):ZQ.QE X (.Call (.Name x p1) [a] [] pos) (Z.eU Z.g! fa):=
 ⟨PE.imp (wY wx hg hm hv (bM ha.p cX he) hn gQ he fU) <|by
  rintro σ H Q ⟨ρ,d,r,e,k⟩;let⟨x,ea,e⟩:=XV e;refine⟨ρ,x,r,ea,λ v H1 s1 d1=>?_⟩;unfold Z.g! at e;split at e
  .cases e;let⟨q,vs,rfl,hq,t⟩:=d1.lst;refine⟨q,vs,rfl,.inl ⟨hq,λ l hl=>?_⟩⟩;have s2:aJ H1 (upd H1 l<|.tup vs):=cK hl;exact k _ _ (s1.trans s2)<|f? (.inl<|.inl aM)<|t.up s2
  .cases e;let⟨q,vs,rfl,hq,t⟩:=d1.tup;exact⟨q,vs,rfl,.inr ⟨hq,k _ H1 s1<|f? hq t⟩⟩
  .cases e⟩
end
end ZS
namespace ZQ
open L2 ZS
theorem lG(ho:PE X o (mf i))(ha:QE X a fa)(hs:swapsWith (.Call (.Attribute o "append" p1) [a] [] p2) At pos.line X.env=pure AT:=by rfl)(oJ:Se a [] X.env:=by rfl)
 (js:attributeBase o "append" X.env (eval o X.env)=eval o X.env:=by rfl)
 (oK:((backTo p2<|starEach (a::[]) X.env).all (λ x=>!x.1)&&(backToKw p2<|keywordEach [] X.env).all (λ x=>x.1.isSome)
  && decide ((a::[]).length+([]:γ π).length+(if([]:γ π).isEmpty then 0 else 1)<30))=Ch:=by rfl)
 (jr:(p1.endLine==p2.line)=Ch:=by rfl) (g_:Pn p2 [] X.env:=by rfl) :
 QS X H0 (.Expr (.Call (.Attribute o "append" p1) [a] [] p2) pos) (Z.d7 i fa):=
 ⟨ZS.G9 ho ha.p hs oJ<|wZ B59 PySem.F.slot_list_append PySem.F.type_list_append w_ ho (bM ha.p cX oJ) js oK jr oJ g_⟩
end ZQ
namespace ZS
open L2
section
variable{X:Cx}
theorem Rq(i j:Int):(if j>i then j else i)=max i j:=by split<;>lia
theorem Ro(i j:Int):(if j<i then j else i)=min i j:=by split<;>lia
theorem _root_.ZQ.Ow(hg:Gl X x)(hm:X.mg x=At)(hv:bootBuiltins x=AC (.builtin "max"))(ha:ZQ.QW X a fa)(hb:ZQ.QW X b fb)(hc:X.calm=Ch:=by rfl)(hn:x≠ "__name__":=by decide +kernel)(gQ:(x==("__debug__"))=AT:=by decide +kernel)
 (he:Se a [b] X.env:=by rfl) (LH:Se b [] X.env:=by rfl) (fU:(backTo pos<|starEach [b] X.env).any (·.1)=AT:=by rfl):ZQ.QE X (.Call (.Name x p1) [a,b] [] pos) (Z.eB Z.M0 fa fb):=
 ⟨PE.imp (km (He hc) hg hm hv (bM ha.p (bM hb.p cX LH) he) hn gQ he fU) <|by
  rintro σ H Q ⟨ρ,d,r,e,k⟩;let⟨x,ea,e⟩:=XV e;let⟨y,eb,e⟩:=XV e;refine⟨ρ,x,r,ea,λ v H1 s1 d1=>⟨ρ,y,r.up s1,eb,λ u H2 s2 d2=>?_⟩⟩;obtain⟨i,j,rfl,rfl,rfl⟩:∃i j,x=.int i/\y=.int j/\d=.int (max i j):=by
   unfold Z.M0 at e;split at e
   .cases e;exact⟨_,_,rfl,rfl,rfl⟩
   .cases e
  refine⟨i,j,by rw[d1.int,d2.int],?_⟩;rw[Rq];exact k _ H2 (s1.trans s2) c6⟩
theorem _root_.ZQ.Ov(hg:Gl X x)(hm:X.mg x=At)(hv:bootBuiltins x=AC (.builtin "min"))(ha:ZQ.QW X a fa)(hb:ZQ.QW X b fb)(hc:X.calm=Ch:=by rfl)(hn:x≠ "__name__":=by decide +kernel)(gQ:(x==("__debug__"))=AT:=by decide +kernel)
 (he:Se a [b] X.env:=by rfl) (LH:Se b [] X.env:=by rfl) (fU:(backTo pos<|starEach [b] X.env).any (·.1)=AT:=by rfl):ZQ.QE X (.Call (.Name x p1) [a,b] [] pos) (Z.eB Z.MZ fa fb):=
 ⟨PE.imp (km (Hc hc) hg hm hv (bM ha.p (bM hb.p cX LH) he) hn gQ he fU) <|by
  rintro σ H Q ⟨ρ,d,r,e,k⟩;let⟨x,ea,e⟩:=XV e;let⟨y,eb,e⟩:=XV e;refine⟨ρ,x,r,ea,λ v H1 s1 d1=>⟨ρ,y,r.up s1,eb,λ u H2 s2 d2=>?_⟩⟩;obtain⟨i,j,rfl,rfl,rfl⟩:∃i j,x=.int i/\y=.int j/\d=.int (min i j):=by
   unfold Z.MZ at e;split at e
   .cases e;exact⟨_,_,rfl,rfl,rfl⟩
   .cases e
  refine⟨i,j,by rw[d1.int,d2.int],?_⟩;rw[Ro];exact k _ H2 (s1.trans s2) c6⟩
theorem _root_.ZQ.y?(hg:Gl X x)(hm:X.mg x=At)(hv:bootBuiltins x=AC (.type "int"))(ha:ZQ.QW X a fa)(hn:x≠ "__name__":=by decide +kernel)(gQ:(x==("__debug__"))=AT:=by decide +kernel)
 (he:Se a [] X.env:=by rfl) (fU:Pn pos [] X.env:=by rfl):ZQ.QE X (.Call (.Name x p1) [a] [] pos) (Z.eU Z.yw fa):=
 ⟨PE.imp (wY Hf hg hm hv (bM ha.p cX he) hn gQ he fU) <|by
  rintro σ H Q ⟨ρ,d,r,e,k⟩;let⟨x,ea,e⟩:=XV e;refine⟨ρ,x,r,ea,λ v H1 s1 d1=>?_⟩;unfold Z.yw at e;split at e
  .cases e;exact .inl ⟨_,by rw[d1.int],k _ H1 s1 c6⟩
  .cases e;exact .inr ⟨_,by rw[d1.bl],k _ H1 s1 c6⟩
  .cases e⟩
theorem G8(hs:swapsWith (.Call (.Attribute o "extend" p1) [a] [] p2) At pos.line X.env=pure AT:=by rfl)
 (hbm:PE X (.Call (.Attribute o "extend" p1) [a] [] p2) (Zl X.K "list" Ep (mf i)<|H? (tZl X.K l) L!)) :
 DS X H0 (.Expr (.Call (.Attribute o "extend" p1) [a] [] p2) pos) (Z.F2 i l):=PS.imp (pF hbm hs) <| by
 rintro D σ H ⟨ρ,fl,rs,e,k⟩;let⟨ys,ea,e⟩:=XV e;split at e
 .rename_i xs ei;unfold Z.guard at e;split at e
  .rename_i hl;cases e;let⟨v,si,q,us,rfl,hq,t⟩:=rs.re.get i _ ei;refine⟨_,si,.inl ⟨rfl,us,jE.of hq⟩,ρ,ys,rs.re,ea,λ c vs H1 s1 hn hc tc=>?_⟩;have RQ:=s1 _ _ hq;refine⟨q,c,us,vs,rfl,rfl,RQ,hc,by rw[t.length,tc.length,A23];exact hl,?_⟩;exact k σ _ ((kM s1).trans<|jR RQ)<|(rs.up s1).chg ei si RQ<|(t.up s1).append tc
  .cases e
 .cases e
theorem va:∀{ys}{k},Z.n! x ys=AC k->k=ys.countP (λ y=>(Z.iO y x).getD AT)/\∀y∈ys,Z.iO y x=AC ((Z.iO y x).getD AT)
|[],k,h=>by cases h;exact⟨rfl,λ y hy=>by cases hy⟩
|y::ys,k,h=>by
 unfold Z.n! at h;split at h
 .rename_i a b ea eb;cases h;let⟨h1,h2⟩:=va eb;refine⟨by rw[B33,ea,h1];rfl,λ z hz=>?_⟩;rcases A02.mp hz with rfl|hz
  .rw[ea];rfl
  .exact h2 z hz
 .cases h
theorem OF(I:Inv X χ σ H s)(hu:A.units+60<cLine)(hx:bT X.K H x v)(rx:RelV v u)(t:aG X.K H ys vs)(r:Vals vs us)(hh:∀y∈ys,Z.iO y x=AC ((Z.iO y x).getD AT)):
 ∃e,(∀w∈us,Op A s w u (e w))/\us.countP e=ys.countP (λ y=>(Z.iO y x).getD AT):=by
 classical
 let e:=λ w=>if h:∃y vy,Den X.K H y vy/\RelV vy w/\y∈ys then(Z.iO h.choose x).getD AT else AT
 have he:∀w y vy,Den X.K H y vy->RelV vy w->y∈ys->e w=(Z.iO y x).getD AT:=by
  intro w y vy dy ry hy;have hex:∃y vy,Den X.K H y vy/\RelV vy w/\y∈ys:=⟨y,vy,dy,ry,hy⟩
  show(if h:_ then _ else _)=_;rw[A93 hex];let⟨vy',WR,UG,JV⟩:=hex.choose_spec;have ev:=UG.inj ry;subst ev;rw[Den.inj I _ _ _ WR dy]
 have cnt:∀{zs}{vs}{us},aG X.K H zs vs->Vals vs us->(∀z∈zs,z∈ys)->us.countP e=zs.countP (λ y=>(Z.iO y x).getD AT):=by
  intro zs
  induction zs with
  |nil=>intro vs us t r _;simp only[aG]at t;subst t;cases r;rfl
  |cons z zs ih=>
   intro vs us t r hm;simp only[aG]at t;let⟨vy,vr,rfl,dy,tr⟩:=t;cases r with
   |cons ry rr=>rw[B33,B33,ih tr rr λ w hw=>hm w<|A09 _ hw,he _ z vy dy ry<|hm z A12]
 refine⟨e,λ w hw=>?_,cnt t r λ _ h=>h⟩;let⟨j,hj,ej⟩:=C06 hw;have hl:=r.length;have ht:=t.length;obtain⟨y,ey⟩:∃y,ys[j]?=AC y:=⟨ys[j]'∅,A01 ∅⟩
 let⟨vy,Hy,dy⟩:=t.get ey;let⟨u',Oe,Lu⟩:=r.get Hy;have:u'=w:=by have:=A01 hj;rw[Oe,ej]at this;exact A04 this
 subst this;have hy:=A20 ey;rw[he _ y vy dy Lu hy];exact(Tc I 6 ∅ (hh y hy) (.inl dy) hx Lu rx).2.1
def QC(K:Da):V->γ V->Hp->VK->Prop:=λ x vs H Q=>∃d ys q us v k,x=.ref q/\vs=[v]/\jE K H q us/\aG K H ys us/\bT K H d v/\Z.n! d ys=AC k/\Q (.int k) H
theorem Jp(hu:X.A.units+64<cLine):T5 X "list.count" (QC X.K):=by intro χ s σ H x vs v us Q I rx rv h;let⟨d,ys,q,us',v',k,rfl,rfl,hq,t,hd,e,k'⟩:=h;cases rx;let⟨u,rfl,ru⟩:=rv.one;let⟨e1,e2⟩:=va e;subst e1;let⟨bp,r,pl,hz⟩:=I.list hq;let⟨f,hf,zr⟩:=OF I (A:=X.A.in1) (show X.A.units+1+60<cLine by lia) hd ru t r e2;let⟨⟨cls,dd,data,sl⟩,ho,hc,n,o!⟩:=id pl.isList;simp only at hc o!;subst hc o!;refine A69 F.slot_list_count ⟨_,ho,rfl⟩ F.entry_list_count (F.args_list_count_2 _ _) (SeqAt.list_countAt q _ n dd sl u f) ⟨ho,λ w hw=>hf w (by simpa using hw),?_⟩;refine⟨.int _,H,I.tok _,⟨_,rfl⟩,?_⟩;rw[zr];exact k'
theorem _root_.ZQ.KY(hu:X.A.units+64<cLine)(ho:ZQ.QW X o fa)(hb:ZQ.QW X b fb)
 (js:attributeBase o "count" X.env (eval o X.env)=eval o X.env:=by rfl)
 (oK:((backTo p2<|starEach (b::[]) X.env).all (λ x=>!x.1)&&(backToKw p2<|keywordEach [] X.env).all (λ x=>x.1.isSome)
  && decide ((b::[]).length+([]:γ π).length+(if([]:γ π).isEmpty then 0 else 1)<30))=Ch:=by rfl)
 (jr:(p1.endLine==p2.line)=Ch:=by rfl) (oJ:Se b [] X.env:=by rfl) (g_:Pn p2 [] X.env:=by rfl) :
 ZQ.QE X (.Call (.Attribute o "count" p1) [b] [] p2) (Z.eB Z.yz fa fb):=
 ⟨PE.imp (wZ B59 PySem.F.slot_list_count PySem.F.type_list_count (Jp hu) ho.p (bM hb.p cX oJ) js oK jr oJ g_) <|by
  rintro σ H Q ⟨ρ,d,r,e,k⟩;let⟨x,ea,e⟩:=XV e;let⟨y,eb,e⟩:=XV e;refine⟨ρ,x,r,ea,λ v H1 s1 d1=>?_⟩;unfold Z.yz at e;split at e
  .rename_i ys _;split at e
   .rename_i n hn;cases e;let⟨q,vs,rfl,hq,t⟩:=d1.lst;refine⟨.inl ⟨rfl,vs,hq⟩,ρ,y,r.up s1,eb,λ u H2 s2 d2=>?_⟩;exact⟨y,ys,q,vs,u,n,rfl,rfl,s2.seq hq,t.up s2,d2,hn,k _ H2 (s1.trans s2) c6⟩
   .cases e
  .cases e⟩
theorem Ed:∀{xs}{k},Z.z8 xs=AC k->∃ns:γ Int,xs=ns.map Z.D.int/\k=ns.sum
|[],k,h=>by cases h;exact⟨[],rfl,rfl⟩
|x::xs,k,h=>by
 cases x with
 |int b=>
  have h':(Z.z8 xs).map _=AC k:=h;cases q:Z.z8 xs with
  |none=>rw[q]at h';cases h'
  |some k'=>rw[q]at h';cases h';let⟨bs,rfl,rfl⟩:=Ed q;exact⟨b::bs,rfl,rfl⟩
 |non=>cases h
 |bl _=>cases h
 |str _=>cases h
 |tup _=>cases h
 |lst _=>cases h
 |dct _ _=>cases h
theorem xC{K:Da}:∀{ns:γ Int}{vs},aG K H (ns.map Z.D.int) vs->vs=ns.map V.int
|[],vs,h=>by simp only[A35]at h;subst h;rfl
|b::bs,vs,h=>by simp only[f8]at h;let⟨v,r,rfl,hv,ht⟩:=h;simp only[Den]at hv;rw[hv,xC ht];rfl
theorem Mw(ns:γ Int):preSum (λ i=>ns[i]?.getD 0) ns.length=ns.sum:=by
 have key:∀k,k<=ns.length->preSum (λ i=>ns[i]?.getD 0) k=(ns.take k).sum:=by
  intro k
  induction k with
  |zero=>intro _;simp[preSum]
  |succ k ih=>
   intro hk;have e:preSum (λ i=>ns[i]?.getD 0) (k+1)=preSum (λ i=>ns[i]?.getD 0) k+ns[k]?.getD 0:=rfl;have _A:∀(xs ys:γ Int),(xs++ys).sum=xs.sum+ys.sum:=λ xs ys=>by
    induction xs with
    |nil=>simp
    |cons x xs ih=>simp only[C07,List.sum_cons];lia
   rw[e,ih ∅,wv,_A,A01<|show k<ns.length by lia];simp
 have:=key _<|v4 _;rwa [B60]at this
theorem Hb(hc:X.calm=Ch):n? X (.builtin "sum") (λ xs H Q=>∃(q:δ)(ns:γ Int),xs=[.ref q]/\jE X.K H q (ns.map V.int)/\Q (.int ns.sum) H):=by
 intro χ s σ H xs us Q I r h;let⟨q,ns,rfl,hq,k⟩:=h;let⟨u,rfl,ru⟩:=vals1 r;cases ru;let⟨bp,rv,pl,hz⟩:=I.list hq;have hl:=rv.length;rw[A05]at hl;have kF:q<s.heap.objs.size:=by let⟨_,e,_⟩:=pl.isList;exact A00 e
 have hh:X.A.in1.handled=At:=I.ok.hd hc;refine call_sum_walkG<|A96 pl.isList ?_;refine⟨s.heap.objs.size,[s.heap.objs.size,q],[s.heap.objs.size],bp.toArray.size,_,_,λ i=>ns[i]?.getD 0,rfl,Walks.list hh s.heap.objs.size q (A13 kF) bp.toArray,⟨⟨_,A14 _ rfl,rfl,rfl⟩,pl.isList.push _⟩,?_,?_,λ h' tk t' hk=>?_⟩
 .intro b hb;rw[A50];rcases A02.mp hb with rfl|hb
  .exact A62 _
  .rw[A21.mp hb];exact B55 kF
 .intro i v hv;have hi:bp[i]?=AC v:=by simpa using hv
  let⟨_5,_⟩:=A08.mp hi;have hb:(ns.map V.int)[i]?=AC (V.int<|ns[i]'∅):=by rw[A06,A01];rfl
  let⟨u,hu,ru⟩:=rv.get hb;rw[hi]at hu;cases hu;let⟨t,rfl⟩:=ru;exact⟨t,by show Value.int _ t=Value.int (ns[i]?.getD 0) t;rw[A01];rfl⟩
 .have I1:Inv X χ σ H {s with heap:=s.heap.push {cls:=.type "list_iterator",data:=.fields #[.ref q,.int 0 0]}}:=I.kept λ b o e=>v6 _ e;let⟨f0,f1,f2,f3,f4,f5⟩:=I.uN (v4 s.heap.objs.size) I.fresh;have I2:=I1.turned (t':=tk) (λ b o hb e=>hk b o (by simpa using hb) e) f0 f1 f3 f4 f5;refine⟨.int _,H,I2,⟨t',rfl⟩,?_⟩;rw[A10,<-hl,Mw];exact k
theorem _root_.ZQ.Ff(hm:X.mg x=At)(ha:ZQ.QW X a fa)(hc:X.calm=Ch:=by rfl)(hn:x≠ "__name__":=by decide +kernel)(gQ:(x == ("__debug__"))=AT:=by decide +kernel)(he:Se a [] X.env:=by rfl)(fU:Pn pos [] X.env:=by rfl)(hg:Gl X x:=by rfl)(hv:bootBuiltins x=AC (.builtin "sum"):=by kernel_rfl):ZQ.QE X (.Call (.Name x p1) [a] [] pos) (Z.eU Z.Jb fa):=
 ⟨PE.imp (km (Hb hc) hg hm hv (bM ha.p cX he) hn gQ he fU) <|by
  rintro σ H Q ⟨ρ,d,r,e,k⟩;let⟨x,ea,e⟩:=XV e;refine⟨ρ,x,r,ea,λ v H1 s1 d1=>?_⟩;unfold Z.Jb at e;split at e
  .split at e
   .rename_i xs k' hk;cases e;let⟨bs,rfl,rfl⟩:=Ed hk;let⟨q,vs,rfl,hq,t⟩:=d1.lst;rw[xC t]at hq;exact⟨q,bs,rfl,hq,k _ H1 s1 c6⟩
   .cases e
  .cases e⟩
end
end ZS
namespace ZQ
open L2 ZS
theorem Ds(ho:PE X o (mf i))(ha:QL X a l)(hs:swapsWith (.Call (.Attribute o "extend" p1) [a] [] p2) At pos.line X.env=pure AT:=by rfl)(oJ:Se a [] X.env:=by rfl)
 (js:attributeBase o "extend" X.env (eval o X.env)=eval o X.env:=by rfl)
 (oK:((backTo p2<|starEach (a::[]) X.env).all (λ x=>!x.1)&&(backToKw p2<|keywordEach [] X.env).all (λ x=>x.1.isSome)
  && decide ((a::[]).length+([]:γ π).length+(if([]:γ π).isEmpty then 0 else 1)<30))=Ch:=by rfl)
 (jr:(p1.endLine==p2.line)=Ch:=by rfl) (g_:Pn p2 [] X.env:=by rfl) :
 QS X H0 (.Expr (.Call (.Attribute o "extend" p1) [a] [] p2) pos) (Z.F2 i l):=
 ⟨ZS.G8 hs<|wZ B59 PySem.F.slot_list_extend PySem.F.type_list_extend Gs ho (bM ha.p cX oJ) js oK jr oJ g_⟩
end ZQ
namespace ZS
open L2 PySem.W
theorem rB:∀{ns:γ Int},i∈ns->UF (.int i)<=Tl (ns.map WData.int)
|[],h=>by cases h
|n::ns,h=>by
 rcases A02.mp h with rfl|h
 .simp only[f8,Tl];lia
 .have:=rB h;simp only[f8,Tl];lia
theorem BI{ns:γ Int}(h:WData.layableAll [WData.list (ns.map WData.int)]=Ch):∀i∈ns,Z.bits i<=2^20:=by
 intro i hi;have h1:=A36.mp h _ A12;unfold WData.layable at h1;rw[A49]at h1;have h3:UF (.list<|ns.map WData.int)=Tl (ns.map WData.int):=by simp only[UF]
 have h4:=rB hi;have h5:UF (.int i)=Z.bits i:=by
  simp only[UF];unfold Z.bits;by_cases hz:i=0
  .subst hz;rfl
  .rw[W1 hz,W1 (by simpa using hz)]
 lia
def Ll(q:ο)(K:Frag):Prop:=noTabs K=Ch/\(∀x∈dM,∀c P,tabIn K x=AC (c,P)->∃d,(recsOf q).find? (λ e=>e.name==x)=AC d) /\
 ∀x y c P c',x∈dM->y∈dM->tabIn K x=AC (c,P)->tabIn K y=AC (c',P)->x=y
theorem tV{K:Frag}(h:nsIn K mainGlobals x=AC (AC<|.ref f))(h2:K.lookup f=AC ⟨o1,d1,.func fd,s1⟩)(h3:fd.code=.ref c)
 (h4:K.lookup c=AC ⟨o2,d2,.fields vs,s2⟩) (h5:vs[11]?=AC (.ref p)):tabIn K x=AC (c,p):=by
 unfold tabIn;rw[h];dsimp only;rw[h2];dsimp only;rw[h3];dsimp only;rw[h4];dsimp only;rw[h5]
theorem gF{p:Str->Prop}(h1:p "best_among")(h2:p "paper_beside"):∀x∈dM,p x:=by
 intro x hx;rcases A02.mp hx with rfl|hx
 .exact h1
 .rw[A21.mp hx];exact h2
theorem Rv{K:Frag}(n:noTabs K=Ch)(h1:tabIn K "best_among"=r1)(h2:tabIn K "paper_beside"=r2)(g1:r1=At\/((recsOf q).find? λ e=>e.name==Db "best_among").isSome=Ch)(g2:r2=At\/((recsOf q).find? λ e=>e.name==Db "paper_beside").isSome=Ch)
 (ne:∀c P c' P',r1=AC (c,P)->r2=AC (c',P')->P≠P'):Ll q K:=by
 refine⟨n,gF (λ c P e=>?_) λ c P e=>?_,λ x y c P c' hx hy=>?_⟩
 .rcases g1 with z|z
  .rw[h1,z]at e;cases e
  .exact A75.mp z
 .rcases g2 with z|z
  .rw[h2,z]at e;cases e
  .exact A75.mp z
 .refine gF (p:=λ x=>tabIn K x=AC (c,P)->tabIn K y=AC (c',P)->x=y) (λ e1=>?_) (λ e1=>?_) x hx
  .refine gF (p:=λ y=>tabIn K y=AC (c',P)-> "best_among"=y) (λ _=>rfl) (λ e2=>?_) y hy;exact absurd rfl<|ne c P c' P (h1.symm.trans e1)<|h2.symm.trans e2
  .refine gF (p:=λ y=>tabIn K y=AC (c',P)-> "paper_beside"=y) (λ e2=>?_) (λ _=>rfl) y hy;exact absurd rfl<|ne c' P c P (h1.symm.trans e2)<|h2.symm.trans e1
theorem Qc{l:OpenLaw}{n k:Nat}{q:ο}{loose:γ Str}{XP:(Str->ε ζ)->ν->Prop}{YP:ξ->ν->Prop}{d:DefRec}{K:Params->Frag}{m:γ Z.D->Z.Res Z.D}{x:Str}
 (hn:l.most=AC n) (Hw:n<=sizeLine) (__:d.params.defaults=[]) (hr:bL k callerA)
 (hY:∀w h,YP w h->(K w.params).In h)
 (F:∀ w mg fa h,(K w.params).In h->h.Ns mainGlobals mg->mg d.name=AC (.ref fa) ->
  ∃fd:υ,(∀(s:θ)(u:ζ),BindsTo s fd ⟨[u],[]⟩ [(x,u)]) /\
   ∀base:ν,(K w.params).In base->base.Ns mainGlobals mg->eY l.prog w (K w.params) mg base iV k fa fd [x] (zq (K w.params) m)) (hL:∀w:ξ,Ll q (K w.params))
 (hold:∀ns:γ Int,ns.length<=n->(∀i∈ns,Z.bits i<=2^20)->m [.lst (ns.map .int)]=.ok (.bl Ch)) :
 WalkO q loose XP YP l.row.toRowW d [] (λ f vs=>PySem.call f vs):=by
 intro w s₀ s₁ mg mb G Y fa o pm cd doc dV kV ho hd n4 hD _R hg args vals as NU _W hrd _x _T;cases Dflts.none hD __;cases Dflts.noKw hD;let⟨a,vs,ns,rfl,rfl,_M,hints,ψ⟩:=Att.F1 hn NU _x;have KX:=hY w _ Y;let⟨fd,hb,hF⟩:=F w mg fa _ KX G.T.g _R;have C:=JI KX G.T.g G.T.b G.T.builtins G.T.nolimit hg _M hints (A15 ψ Hw) hr hF hb (λ H hO hS=>Ru hO hS<|hold ns ψ<|BI _W) (λ H e s' z=>z)
  (hL w).2.2 (λ y hy c p e=>let ⟨d,hd⟩:=(hL w).2.1 y hy c p e;let T:=tab_of G.T KX hd e;⟨T,T.1.tab T.2⟩) G.T.bmain (hL w).1
 refine enter_call<|A74 C λ r s' hq=>?_;let⟨rfl,h2,h3,h4⟩:=hq;exact⟨.inl ⟨.bool Ch,.bool Ch,[],rfl,λ _=>rfl,.bool Ch,Att.F6 l _,λ _=>⟨List.Pairwise.nil,λ _ hm=>(nomatch hm)⟩⟩,h2,h3,h4⟩
end ZS
namespace ZS
open L2
theorem CM(hit:s.heap.IsTupleIter it t i)(ht:s.heap.IsTuple t items)(hx:items[i]?=AC x)
 (hQ:∀h',h'.IsTupleIter it t (i+1)->IN it s.heap h'->Q x {s with heap:=h'}):EQ (model prog w) A (Gc<|.ref it) Q E s:=by
 let⟨ob,LC,kN,qw⟩:=id hit;let⟨ot,NV,_,nt,Wj⟩:=ht;refine T0<|B03 hit.typeIs B61<|B05 B61 hit.typeIs C46 ?_<|C47 _;show EQ _ _ (field _ 0>>=_) _ _ _;refine T0<|A31 LC qw (x:=.ref t) rfl ?_;have C!:¬(Value.ref t==SZ)=Ch:=A90;rw[W1 C!];refine T0<|A31 LC qw rfl ?_;refine T0<|A46 NV Wj ?_;simp only[B10,hx];refine T0<|B62 LC qw ∅<|P3 ⟨x,rfl,P3<|hQ _ ⟨_,A85 _ LC<|B63<|A72 qw _,(C08 ..).trans kN,?_⟩<|Heap.SameBut.update ..⟩;rw[A72 qw];simp[rawInt]
theorem Gq(hh:A.handled=At)(hit:s.heap.IsTupleIter it t i)(ht:s.heap.IsTuple t items)(hx:items[i]?=At)
 (hE:∀h' e,ci it s.heap h'->(∃o,h'.get? e=AC o/\o.cls=.type "StopIteration")->E (.ref e) {s with heap:=h'}):EQ (model prog w) A (Gc<|.ref it) Q E s:=by
 let⟨ob,LC,kN,qw⟩:=id hit;let⟨ot,NV,_,nt,Wj⟩:=ht;refine T0<|B03 hit.typeIs B61<|B05 B61 hit.typeIs C46 ?_<|C47 _;show EQ _ _ (field _ 0>>=_) _ _ _;refine T0<|A31 LC qw (x:=.ref t) rfl ?_;have C!:¬(Value.ref t==SZ)=Ch:=A90;rw[W1 C!];refine T0<|A31 LC qw rfl ?_;refine T0<|A46 NV Wj ?_;simp only[B10,hx];refine T0<|B28<|T0<|B62 LC qw ∅ ?_;refine T0 ?_;simp only[newExc,newTuple];refine T0<|A68 ?_ (by size_fits);refine T0<|wpAny_of_eq (by first|rfl|(simp only[firstArgMember];rfl)) ?_;refine A68 ?_ (by size_fits);simp only[raiseNew];refine T0<|wpAny_handled ?_
 first|rw[hh]|rw[hh]
 exact T0<|P3<|wpAny_throw<|hE _ _ (((Heap.SameBut.update ..).extBut.push _).push _) ⟨_,A14 _ rfl,rfl⟩
theorem So(hh:A.handled=At)(it t:δ)(qv:t≠it)(items:Array ζ):
 Draws prog w A it [it,t] items.size (λ i v=>items[i]?=AC v) (λ i h=>h.IsTupleIter it t i/\h.IsTuple t items) where
 live:=λ _ _ st=>let ⟨o,ho,_⟩:=st.1;⟨o,ho⟩
 frame:=λ _ _ _ st hk=>by let⟨⟨o,e,r⟩,⟨o2,e2,r2⟩⟩:=st;exact⟨⟨o,hk it ∅ o e,r⟩,⟨o2,hk t ∅ o2 e2,r2⟩⟩
 item:=λ i s Q E hi st hQ=>by refine CM st.1 st.2 (x:=items[i]) ∅ λ h' _2 nY=>?_;exact hQ _ h' _ ∅ ⟨_2,st.2.extBut nY.extBut qv⟩ nY
 done:=λ s Q E st hE=>Gq hh st.1 st.2 ∅ hE
theorem D9{ch:γ δ}(I:Inv X χ σ H s)(k:∀b o,b∉ch->s.heap.get? b=AC o->h'.get? b=AC o)(hf:∀b∈ch,qq X χ H b):Inv X χ σ H {s with heap:=h',toks:=t'}:=by
 have AJ:∀b u,H b=AC u->b∉ch:=λ b u e hb=>by rw[(hf b hb).1]at e;cases e
 refine I.step (λ b hb=>?_) (λ b o _ _ hc e _=>k b o hc e) (λ b o _ _ hc e _=>⟨_,k b o hc e⟩) (λ _ _ _ _ n=>n)
  (λ b o hc e=>⟨o,k b o hc e⟩) (λ _ _ e=>e) (λ _ _ _ e=>e) (λ _ _ _ e=>e) (λ m hm=>?_) (λ b u e=>?_) I.bare
 .let⟨f0,f1,f2,f3,f4,f5⟩:=hf b hb;exact⟨f3,f1,f4,f5⟩
 .let⟨o,es,ep,ho,r⟩:=hm;exact⟨o,es,ep,k _ o (λ hb=>(hf _ hb).2.1 rfl) ho,r⟩
 .refine(I.bY b u e).pC (λ c v hc q=>k c v ?_ q) (λ _ q=>q) (λ _ _ q=>q) λ _ _ _ q=>q;rcases hc with z|z
  .rw[z];exact AJ b u e
  .exact AJ c _ z
theorem D8{ch:γ δ}(I:Inv X χ σ H s)(k:∀b o,b∉ch->s.heap.get? b=AC o->h'.get? b=AC o)(hf:∀b∈ch,qq X χ H b)
 (hT:s.heap.objs.size<=T) (hTT:qp h' T us.toArray) (r:Vals xs us) (hz:xs.length<=sizeLine):Inv X χ σ (upd H T<|.tup xs) {s with heap:=h',toks:=t'}:=by
 have hn:=I.bY.fresh hT;have AJ:∀b u,H b=AC u->b∉ch:=λ b u e hb=>by rw[(hf b hb).1]at e;cases e
 have up:∀b u,H b=AC u->upd H T (.tup xs) b=AC u:=λ b u e=>by rw[aD<|bh e hn];exact e
 have lt:∀b o,s.heap.get? b=AC o->b≠T:=λ b o e z=>by rw[z]at e;exact absurd (A00 e)<|A86.mpr hT
 refine I.step (λ b hb=>?_) (λ b o _ _ hc e _=>k b o hc e) (λ b o _ _ hc e _=>⟨_,k b o hc e⟩) (λ b o _ e n=>by rw[aD<|lt b o e];exact n)
  (λ b o hc e=>⟨o,k b o hc e⟩) (λ b ys e=>up b _ e) (λ b o u e=>up b _ e) (λ b u _ e=>up b _ e) (λ m hm=>?_) (λ b u e=>?_) I.bare
 .let⟨f0,f1,f2,f3,f4,f5⟩:=hf b hb;exact⟨f3,f1,f4,f5⟩
 .let⟨o,es,ep,ho,q⟩:=hm;exact⟨o,es,ep,k _ o (λ hb=>(hf _ hb).2.1 rfl) ho,q⟩
 .by_cases hb:b=T
  .subst hb;rw[aM]at e;cases e;exact⟨hz,us,r,hTT⟩
  .rw[aD hb]at e;refine(I.bY b u e).pC (λ c v hc q=>k c v ?_ q) (λ c q=>?_) (λ c ys q=>up c _ q) λ c v _ q=>up c _ q
   .rcases hc with z|z
    .rw[z];exact AJ b u e
    .exact AJ c _ z
   .exact up c _ q
structure SX where
 at_:Nat->Hp->V->Prop
 end_:Nat->Hp->Prop
def Xf(J:SX):It:=⟨λ i H=>∃y,J.at_ i H y,λ i H x H'=>∃T y,H T=At/\x=.ref T/\H'=upd H T (.tup [.int (i:Nat),y])/\J.at_ i H y,J.end_⟩
structure Src(P:Program)(w:World)(K:Da)(J:SX)(it:Addr)(RG:Nat->Heap->Prop):Prop where
 obj:∀i h,RG i h->∃o,h.get? it=AC o/\(∀v,o.data≠.cell v)/\o.cls≠.type "enumerate" /\ o.cls≠.type "zip" /\ o.cls≠.type "tuple"
 keep:∀i h h',RG i h->(∀o,h.get? it=AC o->h'.get? it=AC o)->RG i h'
 draw:∀(X:Cx),X.prog=P->X.w=w->X.K=K->X.calm=Ch->∀(i:Nat)(χ:List (Addr×Obj))(s:Shared)(σ:St)(H:Hp),Inv X χ σ H s->RG i s.heap->((∃y,J.at_ i H y)\/J.end_ i H) ->
  ∃(fp:List Addr)(n:Nat)(Pv:Nat->Value->Prop)(S:Nat->Heap->Prop),Draws P w X.A.in1 it fp n Pv S/\S i s.heap/\it∈fp/\(∀b∈fp,b=it\/∃o,s.heap.get? b=AC o/\o.cls≠.type "enumerate" /\ o.cls≠.type "zip" /\ (H b=At->∃o',K.lookup b=AC o')) /\
   ((∃y,J.at_ i H y)->i<n/\∀u,Pv i u->∃y,RelV y u/\J.at_ i H y)/\(J.end_ i H->i=n)/\∀j h,S j h->RG j h
theorem qE{K:FS}(S:Src P w K J it RG)(Wi:e≠it):
 Turn P w K (.Tuple elts x1 pos) (Xf J) [e,it] e (λ i h=>(∃old,IsEnum h e it i old)/\RG i h) where
 mem:=by simp
 obj:=λ i h st b hb=>by
  rcases A02.mp hb with rfl|hb
  .let⟨⟨old,he⟩,_⟩:=st;exact⟨_,he,λ v z=>by have z':=z;cases z'⟩
  .rw[A21]at hb;subst hb;let⟨o,h1,h2,_⟩:=S.obj i h st.2;exact⟨o,h1,h2⟩
 keep:=λ i h h' st k=>⟨let ⟨old,he⟩:=st.1;⟨old,k e ∅ _ he⟩,S.keep i h h' st.2 λ o q=>k it ∅ o q⟩
 item:=by
  intro X hP hw hK hc i χ s σ H E I hf st hg;let⟨fp,n,Pv,St',D,_D,_4,_7,hat,_,C?⟩:=S.draw X hP hw hK hc i χ s σ H I st.2 (.inl hg);let⟨hi,hv⟩:=hat hg;subst hP hw hK;let⟨old,he⟩:=st.1;have YB:e∉fp:=λ hb=>by
   rcases _7 e hb with z|⟨o,q,qv,_⟩
   .exact Wi z
   .rw[he]at q;cases q;exact qv rfl
  have W:=WalksT.enumerateD (A:=X.A) D e Wi YB _4;have Wh:=A00 he;have Wa:it<s.heap.objs.size:=by let⟨o,q,_⟩:=S.obj _ _ st.2;exact A00 q
  refine wpAny_pyNext_enum_itemD D he _D hi Wi YB λ u h' t' hu ho nY hTx C8 hk=>⟨.ref s.heap.objs.size,rfl,?_⟩
  have hT:s.heap.objs.size<=s.heap.objs.size:=v4 _;have kk:∀b o,b∉[e,it]->s.heap.get? b=AC o->h'.get? b=AC o:=λ b o hb y=>hk b o (λ e'=>hb (by simp[e'])) (λ e'=>hb (by simp[e'])) y;let⟨y,ry,hy⟩:=hv u hu;have hTw:s.heap.objs.size∉[e,it]:=by simp only[A02,A32,A40,A76];exact⟨A42 Wh,A42 Wa⟩
  refine W.go elts x1 pos i s.heap.objs.size _ _ _ ⟨⟨_,ho⟩,nY,A42 Wh,A42 Wa⟩ λ h2 RK kk2=>?_;have hTn:=I.bY.fresh hT;have aar:qp h2 s.heap.objs.size [Value.int i t',u].toArray:=⟨_,kk2 _ _ hTw hTx⟩
  have I2:Inv X χ σ (upd H s.heap.objs.size<|.tup [.int (i:Nat),y]) {s with heap:=h2,toks:=t'+1}:=
   D8 (ch:=[e,it]) I (λ b o hb q=>kk2 b o hb<|kk b o hb q) hf hT aar (.cons ⟨t',rfl⟩<|.cons ry .nil) (by show 2<=sizeLine;decide)
  refine⟨.ref s.heap.objs.size,_,I2,rfl,⟨s.heap.objs.size,y,hTn,rfl,rfl,hy⟩,⟨RK.1,C? _ _ RK.2⟩,λ b hb=>?_⟩;have hbT:b≠s.heap.objs.size:=λ z=>hTw<|z▸hb;rw[aD hbT];exact(hf b hb).1
 done:=by
  intro X hP hw hK hc i χ s σ H E I hf st hg;let⟨fp,n,Pv,St',D,_D,_4,_7,_,R3,C?⟩:=S.draw X hP hw hK hc i χ s σ H I st.2 (.inr hg);have _3:=R3 hg;subst hP hw hK _3;let⟨old,he⟩:=st.1;have YB:e∉fp:=λ hb=>by
   rcases _7 e hb with z|⟨o,q,qv,_⟩
   .exact Wi z
   .rw[he]at q;cases q;exact qv rfl
  have W:=WalksT.enumerateD (A:=X.A) D e Wi YB _4;exact W.done s _ _ ⟨⟨old,he⟩,_D⟩ λ h' tk kk=>⟨rfl,D9 (ch:=[e,it]) I kk hf⟩
 self:=λ A i s Q E st hQ=>by let⟨old,he⟩:=st.1;exact B64 he hQ
def GK(K:Da)(t:δ)(vs:γ V):SX:=⟨λ i H y=>nz K H t vs/\vs[i]?=AC y,λ i H=>nz K H t vs/\vs.length=i⟩
def NP(K:Da)(t:δ)(vs:γ V):SX:=⟨λ i H y=>jE K H t vs/\vs[i]?=AC y,λ i H=>jE K H t vs/\vs.length=i⟩
def JT(z:Str):SX:=⟨λ i _ y=>∃c,z.cps[i]?=AC c/\y=.str ⟨#[c]⟩,λ i _=>i=z.cps.size⟩
theorem sQ{K:FS}:Src P w K (GK K t xs) it (λ i h=>h.IsTupleIter it t i) where
 obj:=λ i h st=>by let⟨o,e,c,d⟩:=st;exact⟨o,e,λ v z=>(by rw[d]at z;cases z),by rw[c];decide,by rw[c];decide,by rw[c];decide⟩
 keep:=λ i h h' st k=>let ⟨o,e,r⟩:=st;⟨o,k o e,r⟩
 draw:=by
  intro X hP hw hK hc i χ s σ H I st hg;subst hP hw hK;have hq:nz X.K H t xs:=by rcases hg with⟨y,h,_⟩|⟨h,_⟩<;>exact h
  let⟨bp,r,p,hz⟩:=I.tuple hq;let⟨ot,NV,R4,nt,Wj⟩:=id p;let⟨oi,V8,Wm,hdi⟩:=id st;have qv:t≠it:=by rintro rfl;rw[NV]at V8;cases V8;rw[R4]at Wm;injection Wm with z;exact absurd z ∅
  refine⟨[it,t],_,_,_,So (A:=X.A.in1) (I.ok.hd hc) it t qv _,⟨st,p⟩,by simp,λ b hb=>?_,λ⟨y,_,VY⟩=>?_,λ⟨_,hl⟩=>?_,λ j h q=>q.1⟩
  .rcases A02.mp hb with rfl|hb
   .exact .inl rfl
   .rw[A21]at hb;subst hb;refine .inr ⟨ot,NV,by rw[R4];decide,by rw[R4];decide,λ hn=>?_⟩;rcases hq with(z|⟨o,z⟩)|⟨o,_,_,z,_⟩
    .rw[hn]at z;cases z
    .rw[hn]at z;cases z
    .exact⟨o,z⟩
  .let⟨u,hu,ru⟩:=r.get VY;refine⟨by rw[A10];exact(A08.mp hu).1,λ u' Tt=>⟨y,?_,hq,VY⟩⟩;have:bp[i]?=AC u':=by simpa using Tt
   rw[hu]at this;cases this;exact ru
  .rw[A10,<-r.length,hl]
theorem Eh{K:FS}:Src P w K (NP K t xs) it (λ i h=>h.IsListIter it t i) where
 obj:=λ i h st=>by let⟨o,e,c,d⟩:=st;exact⟨o,e,λ v z=>(by rw[d]at z;cases z),by rw[c];decide,by rw[c];decide,by rw[c];decide⟩
 keep:=λ i h h' st k=>let ⟨o,e,r⟩:=st;⟨o,k o e,r⟩
 draw:=by
  intro X hP hw hK hc i χ s σ H I st hg;subst hP hw hK;have hq:jE X.K H t xs:=by rcases hg with⟨y,h,_⟩|⟨h,_⟩<;>exact h
  let⟨bp,r,p,hz⟩:=I.list hq;let⟨ot,NV,R4,nt,Wj⟩:=id p.isList;let⟨oi,V8,Wm,hdi⟩:=id st;have qv:t≠it:=by rintro rfl;rw[NV]at V8;cases V8;rw[R4]at Wm;injection Wm with z;exact absurd z ∅
  refine⟨[it,t],_,_,_,Draws.list (A:=X.A.in1) (I.ok.hd hc) it t qv _,⟨st,p.isList⟩,by simp,λ b hb=>?_,λ⟨y,_,VY⟩=>?_,λ⟨_,hl⟩=>?_,λ j h q=>q.1⟩
  .rcases A02.mp hb with rfl|hb
   .exact .inl rfl
   .rw[A21]at hb;subst hb;refine .inr ⟨ot,NV,by rw[R4];decide,by rw[R4];decide,λ hn=>?_⟩;rcases hq with(z|⟨o,z⟩)|⟨o,_,_,z,_⟩
    .rw[hn]at z;cases z
    .rw[hn]at z;cases z
    .exact⟨o,z⟩
  .let⟨u,hu,ru⟩:=r.get VY;refine⟨by rw[A10];exact(A08.mp hu).1,λ u' Tt=>⟨y,?_,hq,VY⟩⟩;have:bp[i]?=AC u':=by simpa using Tt
   rw[hu]at this;cases this;exact ru
  .rw[A10,<-r.length,hl]
theorem Md{K:FS}:Src P w K (JT z) it (λ i h=>h.IsStrIter it (strIterType z) z tk i) where
 obj:=λ i h st=>by let⟨o,e,c,d⟩:=st;refine⟨o,e,λ v q=>(by rw[d]at q;cases q),?_,?_,?_⟩<;>(rw[c];unfold strIterType;split<;>decide)
 keep:=λ i h h' st k=>let ⟨o,e,r⟩:=st;⟨o,k o e,r⟩
 draw:=by
  intro X hP hw hK hc i χ s σ H I st hg;subst hP hw hK;have hh:X.A.in1.handled=At:=I.ok.hd hc;have fin:∀Pv,(∀i u,Pv i u->∃c t,z.cps[i]?=AC c/\u=.str ⟨#[c]⟩ t)->∀S,Draws X.prog X.w X.A.in1 it [it] z.cps.size Pv S->S i s.heap->(∀j h,S j h->h.IsStrIter it (strIterType z) z tk j) ->
   ∃fp n Pv S,Draws X.prog X.w X.A.in1 it fp n Pv S/\S i s.heap/\it∈fp/\(∀b∈fp,b=it\/∃o,s.heap.get? b=AC o/\o.cls≠.type "enumerate" /\ o.cls≠.type "zip" /\ (H b=At->∃o',X.K.lookup b=AC o')) /\
    ((∃y,(JT z).at_ i H y)->i<n/\∀u,Pv i u->∃y,RelV y u/\(JT z).at_ i H y)/\((JT z).end_ i H->i=n)/\∀j h,S j h->h.IsStrIter it (strIterType z) z tk j:=by
   intro Pv hPv S D hs hS;refine⟨[it],z.cps.size,Pv,S,D,hs,by simp,λ b hb=>.inl (by simpa using hb),λ⟨y,c,hy,_⟩=>⟨?_,λ u hu=>?_⟩,λ q=>q,hS⟩
   .rcases Nat.lt_or_ge i z.cps.size with q|q
    .exact q
    .rw[Array.getElem?_eq_none q]at hy;cases hy
   .let⟨c',t',vD,rfl⟩:=hPv i u hu;exact⟨.str ⟨#[c']⟩,⟨t',rfl⟩,c',vD,rfl⟩
  cases ha:z.cps.all (· < 128)
  .have e:strIterType z="str_iterator":=by unfold strIterType;rw[ha];rfl
   exact fin _ (λ _ _ q=>q) _ (Draws.strWide hh it z tk) (by rw[<-e];exact st) λ j h q=>by rw[e];exact q
  .have e:strIterType z="str_ascii_iterator":=by unfold strIterType;rw[ha];rfl
   exact fin _ (λ _ _ q=>q) _ (Draws.strAscii hh it z tk) (by rw[<-e];exact st) λ j h q=>by rw[e];exact q
theorem AQ(l:δ)(items:Array ζ)(n:Nat)(dct:ε δ)(sl:Array _):
 Meets (Builtin.«enumerate.__new__» ⟨[.type "enumerate",.ref l],[]⟩) (λ _ R s=>s.heap.get? l=AC {cls:=.type "tuple",dict:=dct,data:=.seq items n,slots:=sl} /\
  R (.ok<|.ret<|.ref (s.heap.push {cls:=.type "tuple_iterator",data:=.fields #[.ref l,.int 0 0]}).objs.size)
   {s with heap:=(s.heap.push {cls:=.type "tuple_iterator",data:=.fields #[.ref l,.int 0 0]}).push {cls:=.type "enumerate",data:=.fields #[.none,.bool AT,.ref s.heap.objs.size,rawInt 0,.none,.none]}}):=
 .of_wp λ prog w A R s h=>by
  let⟨hp,gs,dr,tk,os⟩:=s;let⟨hl,h⟩:=h;have _C:=sub_enumerate;have hL:ut _ l items:=⟨_,hl,rfl,n,rfl⟩
  wp_walk using C09 hl
  refine wpAny_stack_any λ st=>P3 ?_;split
  .rename_i c _ _ _ _ _;cases (c==Value.type "enumerate")<;>(wp_walk using C09 hl,B09 hL;exact⟨_,rfl,h⟩)
  .wp_walk using C09 hl,B09 hL
   exact⟨_,rfl,h⟩
theorem Dz(hL:s.heap.IsTuple l items)
 (h:∀h',IsEnum h' (s.heap.objs.size+1) s.heap.objs.size 0 .none->h'.IsTupleIter s.heap.objs.size l 0->(∀b o,s.heap.get? b=AC o->h'.get? b=AC o)->Q (.ref<|s.heap.objs.size+1) {s with heap:=h'}) :
 EQ (model prog w) A (call (.type "enumerate") [.ref l]) Q E s:=by
 let⟨⟨c,dct,dt,sl⟩,hl,hc,n,hd⟩:=hL;have vD:=hc;have o!:=hd;subst vD o!;refine callType_new F.called_enumerate ∅ (F.typeCall_enumerate_1 _) (F.newCall_enumerate_1 _) (λ obj=>F.args_object_init_2 obj _) F.entry_enumerate_new (AQ l items n dct sl) ⟨hl,?_⟩;have hz:(s.heap.push {cls:=.type "tuple_iterator",data:=.fields #[.ref l,.int 0 0]}).objs.size=s.heap.objs.size+1:=A50 ..;have he:=A14 (s.heap.push {cls:=.type "tuple_iterator",data:=.fields #[.ref l,.int 0 0]}) (o:={cls:=.type "enumerate",data:=.fields #[.none,.bool AT,.ref s.heap.objs.size,rawInt 0,.none,.none]}) rfl;rw[hz]at he ⊢;exact⟨⟨_,he,rfl⟩,h _ he ⟨_,v6 _<|A14 _ rfl,rfl,rfl⟩ λ b o x=>v6 _<|v6 _ x⟩
theorem rd:∀ds k i,(Z.lZ k ds)[i]?=(ds[i]?).map λ d=>Z.pair (.int<|(k+i:Nat)) d
|[],_,_=>by simp[Z.lZ]
|d::ds,k,0=>by simp[Z.lZ]
|d::ds,k,i+1=>by simp only[Z.lZ,C48,rd ds _ i];rw[show k+1+i=k+(i+1)by lia]
theorem xy:∀ds k,(Z.lZ k ds).length=ds.length
|[],_=>rfl
|d::ds,k=>by simp[Z.lZ,xy ds]
theorem uE{K:Da}(h1:∀i d H1,S H1->ds[i]?=AC d->(∃y,J.at_ i H1 y)/\∀y,J.at_ i H1 y->Den K H1 d y)(h2:∀H1,S H1->J.end_ ds.length H1):Fz K (Xf J) S (Z.lZ 0 ds) where
 go:=λ i d H1 s hi=>by
  rw[rd]at hi;cases q:ds[i]? with
  |none=>rw[q]at hi;cases hi
  |some d0=>exact(h1 i d0 H1 s q).1
 BY:=λ i d H1 H2 x s hi y=>by
  let⟨T,y,hT,rfl,rfl,hy⟩:=y;rw[rd]at hi;cases q:ds[i]? with
  |none=>rw[q]at hi;cases hi
  |some d0=>rw[q]at hi;cases hi;have sm:aJ H1 (upd H1 T<|.tup [.int (i),y]):=cK hT;refine⟨sm,f? (.inl<|.inl aM)<|aG.cons ?_<|aG.cons (((h1 i d0 H1 s q).2 y hy).up sm) aG.nil⟩;rw[B11];exact c6
 stop:=λ H1 s=>by rw[xy];exact h2 H1 s
theorem Dh(I:Inv X χ σ H s):∀b∈[s.heap.objs.size+1,s.heap.objs.size],qq X χ H b:=λ b hb=>by
 rcases A02.mp hb with rfl|hb
 .exact I.uN (A59 _)<|I.bY.fresh<|A59 _
 .rw[A21]at hb;subst hb;exact I.uN (v4 _)<|I.bY.fresh<|v4 _
theorem _root_.ZQ.Bu(hm:X.mg "enumerate"=At)(ha:ZQ.QE X a fa)(hs:starEach [a] X.env=[(AT,eval a X.env)]:=by rfl)(oJ:Se a [] X.env:=by rfl)(hg:Gl X "enumerate":=by rfl):ZQ.QJ X (.Tuple elts x1 p2) (.Call (.Name "enumerate" p) [a] [] pos) (Z.EZ fa):=⟨by
 have ha:=ha.p;intro χ s σ H R I w;let⟨ρ,ds,r,e,k⟩:=w;let⟨d,ea,e⟩:=XV e;let⟨ds0,ei,e⟩:=XV e;cases e;refine Call_<|lq I hg hm PyProof.Rows.boot_enumerate<|B22 (cG ((bM ha cX oJ) pos χ s σ H (λ vs H1=>∃v,vs=[v]/\aJ H H1/\Den X.K H1 d v) I ⟨ρ,d,r,ea,λ v H1 s1 d1=>⟨v,rfl,s1,d1⟩⟩) ?_) hs rfl;rintro us s1 ⟨vs,H1,I1,r1,q1⟩;let⟨v,rfl,sm,hd⟩:=q1;let⟨u,rfl,ru⟩:=vals1 r1;cases d with
 |tup Y'=>
  cases ei;let⟨q,vs,rfl,hq,t⟩:=bT.tup (.inl hd);cases ru;let⟨bp,rv,pt,hz⟩:=I1.tuple hq;refine Dz pt λ h' he hit hk=>B64 he ?_;refine⟨_,[s1.heap.objs.size+1,s1.heap.objs.size],_,Xf<|GK X.K q vs,H1,rfl,I1.kept hk,qE sQ<|C11 _,⟨⟨_,he⟩,hit⟩,Dh I1,k _ H1 sm<|uE (λ i d0 H2 s2 hi=>?_) λ H2 s2=>?_⟩
  .let⟨y,hy,dy⟩:=t.get hi;refine⟨⟨y,fV s2 hq,hy⟩,λ y' JV=>?_⟩;have:=JV.2;rw[hy]at this;cases this;exact dy.ups s2
  .exact⟨fV s2 hq,t.length⟩
 |lst Y'=>
  cases ei;simp only[Den]at hd;let⟨q,vs,rfl,hq,t⟩:=hd;cases ru;let⟨bp,rv,pt,hz⟩:=I1.list hq.sq;refine call_enumerate_list pt.isList λ h' he hit C8 hk=>B64 he ?_;refine⟨_,[s1.heap.objs.size+1,s1.heap.objs.size],_,Xf<|NP X.K q vs,H1,rfl,I1.kept hk,qE Eh<|C11 _,⟨⟨_,he⟩,hit⟩,Dh I1,k _ H1 sm<|uE (λ i d0 H2 s2 hi=>?_) λ H2 s2=>?_⟩
  .let⟨y,hy,dy⟩:=t.get hi;refine⟨⟨y,(hq.mono s2).sq,hy⟩,λ y' JV=>?_⟩;have:=JV.2;rw[hy]at this;cases this;exact dy.ups s2
  .exact⟨(hq.mono s2).sq,t.length⟩
 |str cs=>
  cases ei;simp only[Den]at hd;rw[hd]at ru;let⟨tk,rfl⟩:=ru;refine call_enumerate_str λ h' he hit C8 hk=>B64 he ?_;refine⟨_,[s1.heap.objs.size+1,s1.heap.objs.size],_,Xf<|JT ⟨cs.toArray⟩,H1,rfl,I1.kept hk,qE Md<|C11 _,⟨⟨_,he⟩,hit⟩,Dh I1,k _ H1 sm<|uE (λ i d0 H2 s2 hi=>?_) λ H2 s2=>?_⟩
  .rw[A06]at hi;cases hc:cs[i]? with
   |none=>rw[hc]at hi;cases hi
   |some c=>
    rw[hc]at hi;cases hi;refine⟨⟨_,c,by simpa using hc,rfl⟩,?_⟩;rintro y ⟨c',vD,hy⟩;have:cs[i]?=AC c':=by simpa using vD
    rw[hc]at this;cases this;rw[hy];exact j0
  .show(cs.map λ c=>Z.D.str [c]).length=cs.toArray.size;simp
 |non=>cases ei
 |bl _=>cases ei
 |int _=>cases ei
 |dct _ _=>cases ei⟩
structure Far(z TI TO i1 i2:Addr)(f1 f2:List Addr):Prop where
 ne:[z,TI,TO,i1,i2].Nodup
 a1:z∉f1/\TO∉f1/\i2∉f1
 a2:z∉f2/\TO∉f2/\i1∉f2
theorem FC{z TI TO i1 i2:δ}{Q:ζ->θ->Prop}(F:Far z TI TO i1 i2 f1 f2)(D1:Draws prog w A i1 f1 n1 P1 S1)(D2:Draws prog w A i2 f2 n2 P2 S2)
 (hz:IsZip s.heap z TI TO .none) (GV:IsPair s.heap TI (.ref i1) (.ref i2)) (Hx:IsPair s.heap TO a b) (h1:S1 k s.heap) (h2:S2 k s.heap) (LD:k<n1) (Yw:k<n2)
 (hQ:∀x y h' tk,P1 k x->P2 k y->IsZip h' z TI TO (rawInt s.heap.objs.size)->IsPair h' TO x y->S1 (k+1) h'->S2 (k+1) h'->IsPair h' s.heap.objs.size x y->(∀c o,c∉[z,TO,i1,i2]->s.heap.get? c=AC o->h'.get? c=AC o)->Q (.ref s.heap.objs.size) {s with heap:=h',toks:=tk}) :
 EQ (model prog w) A (Builtin.«zip.__next__» ⟨[.ref z],[]⟩) (λ fin s'=>∃v,fin=.done (.ret v)/\Q v s') E s:=by
 have ne:=F.ne;simp only[A17,A02,A32,A40,A76,B12,B34,B35]at ne;let⟨⟨T8,Lq,O!,P_⟩,⟨TITO,TIi1,TIi2⟩,⟨TOi1,TOi2⟩,i12⟩:=ne;let⟨Xo,SN,VW⟩:=F.a1;let⟨Xn,OW,RI⟩:=F.a2;let⟨hp,gs,dr,tk0,os⟩:=s;show EQ _ _ (field (.ref z) 2>>=_) _ _ _;refine T0<|A31 hz rfl (x:=.bool AT) rfl ?_;show EQ _ _ (field (.ref z) 3>>=_) _ _ _;refine T0<|A31 hz rfl (x:=.ref TI) rfl<|T0<|A46 GV rfl ?_;show EQ _ _ (Go (.ref z)>>=_) _ _ _;refine T0 ?_;unfold Go;refine T0<|A31 hz rfl (x:=.none) rfl<|P3 ?_;simp only[A25];refine T0<|B28<|T0<|A31 hz rfl (x:=.ref TO) rfl<|T0<|B13 hz ∅ λ g1 PH e1=>?_;have PH:=PH;have e1:=e1;refine T0 ?_;simp only[AA6,AB8,B31,AC4];refine T0<|T0<|B65 ?_;show EQ _ _ (Gc (.ref i1)>>=_) _ _ _;refine T0<|D1.item k _ _ _ LD (D1.frame k hp g1 h1 λ c hc o q=>e1.extBut c o (λ y=>Xo<|y▸hc) q) λ x g2 t2 hx h12 e2=>P3 ?_;have e2:=e2;have J8:=e2.extBut _ _ TOi1<|e1.extBut _ _ (A07 Lq) Hx;refine T0<|A46 J8 rfl<|T0<|C12 J8 λ g3 N5 e3=>?_;have N5:=N5;have e3:IN TO g2 g3:=e3;refine T0<|A64<|P3 ?_;refine T0<|T0<|B65 ?_;show EQ _ _ (Gc (.ref i2)>>=_) _ _ _;have h23:S2 k g3:=D2.frame k hp g3 h2 λ c hc o q=>e3.extBut c o (λ y=>OW<|y▸hc)<|e2.extBut c o (λ y=>RI<|y▸hc)<|e1.extBut c o (λ y=>Xn<|y▸hc) q;refine T0<|D2.item k _ _ _ Yw h23 λ y g4 t4 hy h24 e4=>P3 ?_;have e4:IN i2 g3 g4:=e4;have Wt:IsPair g4 TO x b:=e4.extBut _ _ TOi2 N5;refine T0<|A46 Wt rfl<|T0<|C12 Wt λ g5 N4 e5=>?_;have N4:IsPair g5 TO x y:=N4;have e5:IN TO g4 g5:=e5;refine T0<|A64<|P3<|P3 ?_;refine T0<|A46 N4 rfl<|T0<|wpAny_newTuple ?_;have C8:g5.objs.size=hp.objs.size:=by rw[e5.1,e4.1,e3.1,e2.1,e1.1]
 have hz5:IsZip g5 z TI TO .ellipsis:=e5.extBut _ _ Lq<|e4.extBut _ _ P_<|e3.extBut _ _ Lq<|e2.extBut _ _ O! PH;have _t:z<g5.objs.size:=A00 hz5;show EQ _ _ (Re (.ref z) (.ref g5.objs.size)>>=_) _ _ _;refine T0 ?_;unfold Re;have hz6:IsZip (g5.push {cls:=.type "tuple",data:=.seq #[x,y]}) z TI TO .ellipsis:=v6 _ hz5;refine T0<|B13 hz6 ∅ λ g7 _u e7=>?_;have _u:IsZip g7 z TI TO (rawInt g5.objs.size):=_u;refine B13 _u ∅ λ g8 Yp e8=>?_;have Yp:IsZip g8 z TI TO (rawInt g5.objs.size):=Yp;have up:∀c o,c≠z->g5.get? c=AC o->g8.get? c=AC o:=λ c o h q=>e8.extBut _ _ h<|e7.extBut _ _ h<|v6 _ q;have hT8:IsPair g8 g5.objs.size x y:=e8.extBut _ _ (A42 _t)<|e7.extBut _ _ (A42 _t)<|A14 _ rfl;have s1:S1 (k+1) g8:=D1.frame _ g2 g8 h12 λ c hc o q=>up c o (λ y=>Xo<|y▸hc)<|e5.extBut c o (λ y=>SN<|y▸hc)<|e4.extBut c o (λ y=>VW<|y▸hc)<|e3.extBut c o (λ y=>SN<|y▸hc) q;have s2:S2 (k+1) g8:=D2.frame _ g4 g8 h24 λ c hc o q=>up c o (λ y=>Xn<|y▸hc)<|e5.extBut c o (λ y=>OW<|y▸hc) q;have kp:∀c o,c∉[z,TO,i1,i2]->hp.get? c=AC o->g8.get? c=AC o:=λ c o hc q=>by simp only[A02,A32,A40,A76]at hc;exact up c o hc.1<|e5.extBut _ _ hc.2.1<|e4.extBut _ _ hc.2.2.2<|e3.extBut _ _ hc.2.1<|e2.extBut _ _ hc.2.2.1<|e1.extBut _ _ hc.1 q
 rw[C8]at Yp hT8;refine P3 ⟨_,rfl,?_⟩;show Q (.ref g5.objs.size) _;rw[C8];exact hQ x y g8 t4 hx hy Yp (up _ _ (A07 Lq) N4) s1 s2 hT8 kp
theorem HD{z TI TO i1 i2:δ}(F:Far z TI TO i1 i2 f1 f2)(D1:Draws prog w A i1 f1 n1 P1 S1)(D2:Draws prog w A i2 f2 n2 P2 S2)
 (hz:IsZip s.heap z TI TO .none) (GV:IsPair s.heap TI (.ref i1) (.ref i2)) (Hx:IsPair s.heap TO a b) (h1:S1 k s.heap) (h2:S2 k s.heap) (R3:k=n1\/(k<n1/\k=n2))
 (hE:∀h' e tk,(∀c o,c∉[z,TO,i1,i2]->s.heap.get? c=AC o->h'.get? c=AC o)->(∃o,h'.get? e=AC o/\o.cls=.type "StopIteration")->E (.ref e) {s with heap:=h',toks:=tk}) :
 EQ (model prog w) A (Builtin.«zip.__next__» ⟨[.ref z],[]⟩) Q E s:=by
 have ne:=F.ne;simp only[A17,A02,A32,A40,A76,B12,B34,B35]at ne;let⟨⟨T8,Lq,O!,P_⟩,⟨TITO,TIi1,TIi2⟩,⟨TOi1,TOi2⟩,i12⟩:=ne;let⟨Xo,SN,VW⟩:=F.a1;let⟨Xn,OW,RI⟩:=F.a2;let⟨hp,gs,dr,tk0,os⟩:=s;show EQ _ _ (field (.ref z) 2>>=_) _ _ _;refine T0<|A31 hz rfl (x:=.bool AT) rfl ?_;show EQ _ _ (field (.ref z) 3>>=_) _ _ _;refine T0<|A31 hz rfl (x:=.ref TI) rfl<|T0<|A46 GV rfl ?_;show EQ _ _ (Go (.ref z)>>=_) _ _ _;refine T0 ?_;unfold Go;refine T0<|A31 hz rfl (x:=.none) rfl<|P3 ?_;simp only[A25];refine T0<|B28<|T0<|A31 hz rfl (x:=.ref TO) rfl<|T0<|B13 hz ∅ λ g1 PH e1=>?_;have PH:=PH;have e1:=e1;refine T0 ?_;simp only[AA6,AB8,B31,AC4];refine T0<|T0<|B65 ?_;show EQ _ _ (Gc (.ref i1)>>=_) _ _ _;have h11:=D1.frame k hp g1 h1 λ c hc o q=>e1.extBut c o (λ y=>Xo<|y▸hc) q;rcases R3 with rfl|⟨LD,rfl⟩
 .refine T0<|D1.done _ _ _ h11 λ g2 e e2 he=>?_;let⟨oe,RU,Wn⟩:=he;have e2:=e2;have Yq:IsZip g2 z TI TO .ellipsis:=e2 _ _ O! PH;have _':e≠z:=λ q=>by subst q;rw[Yq]at RU;cases RU;simp at Wn
  refine B13 Yq ∅ λ g3 _ e3=>hE g3 e tk0 (λ c o hc q=>?_) ⟨oe,e3.extBut _ _ _' RU,Wn⟩;simp only[A02,A32,A40,A76]at hc;exact e3.extBut _ _ hc.1<|e2 _ _ hc.2.2.1<|e1.extBut _ _ hc.1 q
 .refine T0<|D1.item k _ _ _ LD h11 λ x g2 t2 hx h12 e2=>P3 ?_;have e2:IN i1 g1 g2:=e2;have J8:IsPair g2 TO a b:=e2.extBut _ _ TOi1<|e1.extBut _ _ (A07 Lq) Hx;refine T0<|A46 J8 rfl<|T0<|C12 J8 λ g3 N5 e3=>?_;have e3:IN TO g2 g3:=e3;refine T0<|A64<|P3 ?_;refine T0<|T0<|B65 ?_;show EQ _ _ (Gc (.ref i2)>>=_) _ _ _;have h23:S2 k g3:=D2.frame k hp g3 h2 λ c hc o q=>e3.extBut c o (λ y=>OW<|y▸hc)<|e2.extBut c o (λ y=>RI<|y▸hc)<|e1.extBut c o (λ y=>Xn<|y▸hc) q;refine T0<|D2.done _ _ _ h23 λ g4 e e4 he=>?_;let⟨oe,RU,Wn⟩:=he;have e4:ci i2 g3 g4:=e4;have hz4:IsZip g4 z TI TO .ellipsis:=e4 _ _ P_<|e3.extBut _ _ Lq<|e2.extBut _ _ O! PH;have _':e≠z:=λ q=>by subst q;rw[hz4]at RU;cases RU;simp at Wn
  refine B13 hz4 ∅ λ g5 _ e5=>hE g5 e t2 (λ c o hc q=>?_) ⟨oe,e5.extBut _ _ _' RU,Wn⟩;simp only[A02,A32,A40,A76]at hc;exact e5.extBut _ _ hc.1<|e4 _ _ hc.2.2.2<|e3.extBut _ _ hc.2.1<|e2.extBut _ _ hc.2.2.1<|e1.extBut _ _ hc.1 q
def Y5(J1 J2:SX):It:=⟨λ i H=>(∃y,J1.at_ i H y)/\∃y,J2.at_ i H y,
 λ i H x H'=>∃T y1 y2,H T=At/\x=.ref T/\H'=upd H T (.tup [y1,y2])/\J1.at_ i H y1/\J2.at_ i H y2,
 λ i H=>(J1.end_ i H/\((∃y,J2.at_ i H y)\/J2.end_ i H))\/((∃y,J1.at_ i H y)/\J2.end_ i H)⟩
theorem Vj(I:Inv X χ σ H s)(f:qq X χ H b)(h:X.K.lookup b=AC o):False:=by
 have hb:=I.ok.mod.Lx b o h;rcases f.2.2.2.1 with z|z
 .exact I.ok.AG b o hb z
 .exact absurd (A00 (I.ok.bs b o hb).1)<|A86.mpr z
def tnZ(z TI TO i1 i2:δ)(n1 n2:Nat->ν->Prop)(i:Nat)(h:ν):Prop:=IsZip h z TI TO .none/\IsPair h TI (.ref i1) (.ref i2)/\(∃a b,IsPair h TO a b)/\n1 i h/\n2 i h
theorem Ao(p:IsPair h T a b):∃o,h.get? T=AC o/\∀v,o.data≠.cell v:=
 ⟨_,p,λ v z=>by have z':=z;cases z'⟩
theorem z5{K:FS}{z TI TO i1 i2:δ}(S1:Src P w K J1 i1 n1)(S2:Src P w K J2 i2 n2)(nd:[z,TI,TO,i1,i2].Nodup):
 Turn P w K (.Tuple elts x1 pos) (Y5 J1 J2) [z,TI,TO,i1,i2] z (tnZ z TI TO i1 i2 n1 n2):=by
 have YM:∀{X}{χ}{σ}{H}{s}{f1 f2},X.K=K->Inv X χ σ H s->(∀b∈[z,TI,TO,i1,i2],qq X χ H b) ->
  (∀b∈f1,b=i1\/∃o,s.heap.get? b=AC o/\o.cls≠.type "enumerate" /\ o.cls≠.type "zip" /\ (H b=At->∃o',K.lookup b=AC o')) ->
  (∀b∈f2,b=i2\/∃o,s.heap.get? b=AC o/\o.cls≠.type "enumerate" /\ o.cls≠.type "zip" /\ (H b=At->∃o',K.lookup b=AC o'))->Far z TI TO i1 i2 f1 f2:=by
  intro X χ σ H s f1 f2 hK I hf g1 g2;subst hK;have nU:=nd;simp only[A17,A02,A32,A40,A76,B12,B34,B35]at nU;let⟨⟨T8,Lq,O!,P_⟩,⟨TITO,TIi1,TIi2⟩,⟨TOi1,TOi2⟩,i12⟩:=nU;have _a:∀b,b∈[z,TI,TO,i1,i2]->b≠i1->b∉f1:=λ b hb qv hm=>by
   rcases g1 b hm with q|⟨o,_,_,_,q⟩
   .exact qv q
   .let⟨o',h'⟩:=q (hf b hb).1;exact Vj I (hf b hb) h'
  have Z_:∀b,b∈[z,TI,TO,i1,i2]->b≠i2->b∉f2:=λ b hb qv hm=>by
   rcases g2 b hm with q|⟨o,_,_,_,q⟩
   .exact qv q
   .let⟨o',h'⟩:=q (hf b hb).1;exact Vj I (hf b hb) h'
  exact⟨nd,⟨_a z ∅ O!,_a TO ∅ TOi1,_a i2 ∅<|A07 i12⟩,⟨Z_ z ∅ P_,Z_ TO ∅ TOi2,Z_ i1 ∅ i12⟩⟩
 refine⟨by simp,λ i h st b hb=>?_,λ i h h' st k=>?_,?_,?_,λ A i s Q E st hQ=>C13 st.1 hQ⟩
 .let⟨hz,GV,⟨a,b',Hx⟩,h1,h2⟩:=st;simp only[A02,A32,A40]at hb;rcases hb with rfl|rfl|rfl|rfl|rfl
  .exact⟨_,hz,λ v z=>by have z':Data.fields _=Data.cell v:=z;cases z'⟩
  .exact Ao GV
  .exact Ao Hx
  .let⟨o,q,r,_⟩:=S1.obj i h h1;exact⟨o,q,r⟩
  .let⟨o,q,r,_⟩:=S2.obj i h h2;exact⟨o,q,r⟩
 .let⟨hz,GV,⟨a,b',Hx⟩,h1,h2⟩:=st;exact⟨k z ∅ _ hz,k TI ∅ _ GV,⟨a,b',k TO ∅ _ Hx⟩,S1.keep i h h' h1 λ o q=>k i1 ∅ o q,S2.keep i h h' h2 λ o q=>k i2 ∅ o q⟩
 .intro X hP hw hK hc i χ s σ H E I hf st hg;let⟨hz,GV,⟨a,b',Hx⟩,h1,h2⟩:=st;let⟨f1,m1,P1,T1,D1,oJ,_,R1,R8,_,V_⟩:=S1.draw X hP hw hK hc i χ s σ H I h1 (.inl hg.1);let⟨f2,m2,P2,T2,D2,yL,_,R0,Wq,_,V?⟩:=S2.draw X hP hw hK hc i χ s σ H I h2 (.inl hg.2);let⟨_5,GL⟩:=R8 hg.1;let⟨hi2,Ts⟩:=Wq hg.2;have FR:=YM hK I hf R1 R0;subst hP hw hK;have hT:s.TypeIs (.ref z) "zip":=⟨_,hz,rfl⟩
  unfold pyNext;refine T0<|wpAny_attempt<|B03 (name:=Db "__next__") hT B66<|B05 B66 hT F.entry_zip_next (FC FR D1 D2 hz GV Hx oJ yL _5 hi2 λ x y h' tk px py z' to' s1' s2' tt kp=>P3 ?_)<|F.args_zip_next_1 _;refine⟨_,rfl,?_⟩;let⟨y1,r1,a1⟩:=GL x px;let⟨y2,r2,a2⟩:=Ts y py;have lt:∀{c o},s.heap.get? c=AC o->c≠s.heap.objs.size:=λ q=>A13<|A00 q;have hTn:H s.heap.objs.size=At:=I.fresh;have hTz:s.heap.objs.size≠z:=(lt hz).symm;refine wpAny_letOwnedTupleGo_zip z' λ R9 Yq GQ=>?_;have nU:=nd;simp only[A17,A02,A32,A40,A76,B12,B34,B35]at nU;let⟨⟨T8,Lq,O!,P_⟩,⟨TITO,TIi1,TIi2⟩,⟨TOi1,TOi2⟩,i12⟩:=nU;have tt2:qp R9 s.heap.objs.size [x,y].toArray:=⟨_,GQ.extBut _ _ hTz tt⟩
  have I2:Inv X χ σ (upd H s.heap.objs.size<|.tup [y1,y2]) {s with heap:=R9,toks:=tk}:=
   D8 (ch:=[z,TO,i1,i2]) I (λ b o hb q=>GQ.extBut b o (λ e=>hb (by simp[e]))<|kp b o hb q) (λ b hb=>hf b (by simp only[A02,A32,A40]at hb ⊢;rcases hb with e|e|e|e<;>simp[e])) (v4 _) tt2 (.cons r1<|.cons r2 .nil) (by show 2<=sizeLine;decide)
  have k1:n1 (i+1) R9:=S1.keep _ _ _ (V_ _ _ s1') λ o q=>GQ.extBut i1 o (A07 O!) q;have k2:n2 (i+1) R9:=S2.keep _ _ _ (V? _ _ s2') λ o q=>GQ.extBut i2 o (A07 P_) q;have kTI:IsPair R9 TI (.ref i1) (.ref i2):=GQ.extBut _ _ (A07 T8)<|kp TI _ (by simp only[A02,A32,A40,A76];exact⟨A07 T8,TITO,TIi1,TIi2⟩) GV;refine⟨.ref _,_,I2,rfl,⟨_,y1,y2,hTn,rfl,rfl,a1,a2⟩,⟨Yq,kTI,⟨x,y,GQ.extBut _ _ (A07 Lq) to'⟩,k1,k2⟩,λ b hb=>?_⟩;have hbT:b≠s.heap.objs.size:=by
   simp only[A02,A32,A40]at hb;rcases hb with rfl|rfl|rfl|rfl|rfl
   .exact lt hz
   .exact lt GV
   .exact lt Hx
   .let⟨o,q,_⟩:=S1.obj i _ h1;exact lt q
   .let⟨o,q,_⟩:=S2.obj i _ h2;exact lt q
  rw[aD hbT];exact(hf b hb).1
 .intro X hP hw hK hc i χ s σ H E I hf st hg;let⟨hz,GV,⟨a,b',Hx⟩,h1,h2⟩:=st;have g1:(∃y,J1.at_ i H y)\/J1.end_ i H:=by
   rcases hg with⟨q,_⟩|⟨q,_⟩
   .exact .inr q
   .exact .inl q
  have g2:(∃y,J2.at_ i H y)\/J2.end_ i H:=by
   rcases hg with⟨_,q⟩|⟨_,q⟩
   .exact q
   .exact .inr q
  let⟨f1,m1,P1,T1,D1,oJ,_,R1,R8,Wg,V_⟩:=S1.draw X hP hw hK hc i χ s σ H I h1 g1;let⟨f2,m2,P2,T2,D2,yL,_,R0,Wq,Wf,V?⟩:=S2.draw X hP hw hK hc i χ s σ H I h2 g2;have FR:=YM hK I hf R1 R0;have he:i=m1\/(i<m1/\i=m2):=by
   rcases hg with⟨q,_⟩|⟨q,q2⟩
   .exact .inl<|Wg q
   .exact .inr ⟨(R8 q).1,Wf q2⟩
  subst hP hw hK;have hT:s.TypeIs (.ref z) "zip":=⟨_,hz,rfl⟩
  unfold pyNext;refine T0<|wpAny_attempt<|B03 (name:=Db "__next__") hT B66<|B05 B66 hT F.entry_zip_next (HD FR D1 D2 hz GV Hx oJ yL he λ h' e tk kp hx=>?_)<|F.args_zip_next_1 _;let⟨o,ho,J7⟩:=hx;refine T0<|wpAny_isInstance (T:="StopIteration") (b:=Ch) ⟨o,ho,J7⟩ isSubtype_stop<|P3 ⟨rfl,?_⟩;exact D9 (ch:=[z,TO,i1,i2]) I kp λ b hb=>hf b (by simp only[A02,A32,A40]at hb ⊢;rcases hb with e| e| e| e<;>simp[e])
abbrev zh(T1 T2:String)(h:ν)(l1 l2:δ):ν:=((((h.push {cls:=.type T1,data:=.fields #[.ref l1,.int 0 0]}).push {cls:=.type T2,data:=.fields #[.ref l2,.int 0 0]}).push {cls:=.type "tuple",data:=.seq #[.ref h.objs.size,.ref (h.objs.size+1)]}).push {cls:=.type "tuple",data:=.seq #[.none,.none]}).push
 {cls:=.type "zip",data:=.fields #[.none,.bool AT,.bool AT,.ref (h.objs.size+2),.ref (h.objs.size+3)]}
theorem AN(l1 l2:δ)(xs ys:Array ζ):Meets (Builtin.«zip.__new__» ⟨[.type "zip",.ref l1,.ref l2],[]⟩) (λ _ R s=>s.heap.IsTuple l1 xs/\s.heap.IsTuple l2 ys/\R (.ok<|.ret<|.ref<|s.heap.objs.size+4) {s with heap:=zh "tuple_iterator" "tuple_iterator" s.heap l1 l2}):=
 .of_wp λ prog w A R s h=>by
  let⟨hp,gs,dr,tk,os⟩:=s;let⟨Yv,NY,h⟩:=h;have NT:=sub_zip;have q1:=Yv;have q2:ut (Shared.heap ⟨hp.push {cls:=.type "tuple_iterator",data:=.fields #[.ref l1,.int 0 0]},gs,dr,tk,os⟩) l2 ys:=Heap.IsTuple.push NY _
  wp_walk using B09 q1,B09 q2
  simp only[A50]at h ⊢;exact⟨_,rfl,h⟩
theorem AO(l1 l2:δ)(xs ys:Array ζ):Meets (Builtin.«zip.__new__» ⟨[.type "zip",.ref l1,.ref l2],[]⟩) (λ _ R s=>s.heap.IsList l1 xs/\s.heap.IsTuple l2 ys/\R (.ok<|.ret<|.ref<|s.heap.objs.size+4) {s with heap:=zh "list_iterator" "tuple_iterator" s.heap l1 l2}):=
 .of_wp λ prog w A R s h=>by
  let⟨hp,gs,dr,tk,os⟩:=s;let⟨Yv,NY,h⟩:=h;have NT:=sub_zip;have q1:=Yv;have q2:ut (Shared.heap ⟨hp.push {cls:=.type "list_iterator",data:=.fields #[.ref l1,.int 0 0]},gs,dr,tk,os⟩) l2 ys:=Heap.IsTuple.push NY _
  wp_walk using A96 q1,B09 q2
  simp only[A50]at h ⊢;exact⟨_,rfl,h⟩
theorem zB(T1 T2:String)(h:ν)(l1 l2:δ):IsZip (zh T1 T2 h l1 l2) (h.objs.size+4) (h.objs.size+2) (h.objs.size+3) .none/\IsPair (zh T1 T2 h l1 l2) (h.objs.size+2) (.ref h.objs.size) (.ref<|h.objs.size+1)/\IsPair (zh T1 T2 h l1 l2) (h.objs.size+3) .none .none /\
 (zh T1 T2 h l1 l2).get? h.objs.size=AC {cls:=.type T1,data:=.fields #[.ref l1,.int 0 0]}/\(zh T1 T2 h l1 l2).get? (h.objs.size+1)=AC {cls:=.type T2,data:=.fields #[.ref l2,.int 0 0]}/\∀c o,h.get? c=AC o->(zh T1 T2 h l1 l2).get? c=AC o:=by
 have z1:(h.push {cls:=.type T1,data:=.fields #[.ref l1,.int 0 0]}).objs.size=h.objs.size+1:=A50 ..;have z2:((h.push {cls:=.type T1,data:=.fields #[.ref l1,.int 0 0]}).push {cls:=.type T2,data:=.fields #[.ref l2,.int 0 0]}).objs.size=h.objs.size+2:=by rw[A50,z1]
 have z3:(((h.push {cls:=.type T1,data:=.fields #[.ref l1,.int 0 0]}).push {cls:=.type T2,data:=.fields #[.ref l2,.int 0 0]}).push {cls:=.type "tuple",data:=.seq #[.ref h.objs.size,.ref (h.objs.size+1)]}).objs.size=h.objs.size+3:=by rw[A50,z2]
 have z4:((((h.push {cls:=.type T1,data:=.fields #[.ref l1,.int 0 0]}).push {cls:=.type T2,data:=.fields #[.ref l2,.int 0 0]}).push {cls:=.type "tuple",data:=.seq #[.ref h.objs.size,.ref (h.objs.size+1)]}).push {cls:=.type "tuple",data:=.seq #[.none,.none]}).objs.size=h.objs.size+4:=by rw[A50,z3]
 refine⟨?_,?_,?_,?_,?_,λ c o q=>?_⟩
 .skip
  rw[<-z4];exact A14 _ rfl
 .skip
  rw[<-z2];exact v6 _<|v6 _<|A14 _ rfl
 .skip
  rw[<-z3];exact v6 _<|A14 _ rfl
 .exact v6 _<|v6 _<|v6 _<|v6 _<|A14 _ rfl
 .skip
  rw[<-z1];exact v6 _<|v6 _<|v6 _<|A14 _ rfl
 .exact v6 _<|v6 _<|v6 _<|v6 _<|v6 _ q
theorem tq:∀xs ys (i:Nat),(Z.l! xs ys)[i]?=(xs[i]?).bind λ x=>(ys[i]?).map λ y=>Z.pair x y
|[],ys,i=>by cases ys<;>simp[Z.l!]
|x::xs,[],i=>by simp[Z.l!]
|x::xs,y::ys,0=>by simp[Z.l!]
|x::xs,y::ys,i+1=>by simp[Z.l!,tq xs ys i]
theorem zA:∀xs ys,(Z.l! xs ys).length=min xs.length ys.length
|[],ys=>by cases ys<;>simp[Z.l!]
|x::xs,[]=>by simp[Z.l!]
|x::xs,y::ys=>by simp[Z.l!,zA xs ys]
structure Gives(K:Da)(J:SX)(S:Hp->Prop)(ds:List Z.D):Prop where
 at_:∀(i:Nat) d H1,S H1->ds[i]?=AC d->(∃y,J.at_ i H1 y)/\∀y,J.at_ i H1 y->Den K H1 d y
 end_:∀H1,S H1->J.end_ ds.length H1
theorem EV{K:FS}(g1:Gives K J1 S xs)(g2:Gives K J2 S ys):Fz K (Y5 J1 J2) S (Z.l! xs ys) where
 go:=λ i d H1 s hi=>by
  rw[tq]at hi;cases q:xs[i]? with
  |none=>rw[q]at hi;cases hi
  |some x=>
   rw[q]at hi;cases q2:ys[i]? with
   |none=>simp[q2]at hi
   |some y=>exact⟨(g1.at_ i x H1 s q).1,(g2.at_ i y H1 s q2).1⟩
 BY:=λ i d H1 H2 x s hi y=>by
  let⟨T,y1,y2,hT,rfl,rfl,a1,a2⟩:=y;rw[tq]at hi;cases q:xs[i]? with
  |none=>rw[q]at hi;cases hi
  |some x=>
   rw[q]at hi;cases q2:ys[i]? with
   |none=>simp[q2]at hi
   |some y=>simp only[q2,C14,A54,A98]at hi;subst hi;have sm:aJ H1 (upd H1 T<|.tup [y1,y2]):=cK hT;exact⟨sm,f? (.inl<|.inl aM)<|aG.cons (((g1.at_ i x H1 s q).2 y1 a1).up sm)<|aG.cons (((g2.at_ i y H1 s q2).2 y2 a2).up sm) aG.nil⟩
 stop:=λ H1 s=>by
  rw[zA];have e1:=g1.end_ H1 s;have e2:=g2.end_ H1 s;rcases Nat.lt_trichotomy _ _ with h|h|h
  .rw[A73<|A78 h];exact .inl ⟨e1,.inl (g2.at_ _ _ H1 s<|A01 h).1⟩
  .rw[A73<|B84 h];rw[<-h]at e2;exact .inl ⟨e1,.inr e2⟩
  .rw[Nat.min_eq_right<|A78 h];exact .inr ⟨(g1.at_ _ _ H1 s<|A01 h).1,e2⟩
theorem qV{K:Da}(h:nz K H q vs)(t:aG K H ds vs):Gives K (GK K q vs) (gU H) ds:=
 ⟨λ i d H1 s hi=>by let⟨y,hy,dy⟩:=t.get hi;refine⟨⟨y,fV s h,hy⟩,λ y' JV=>?_⟩;have:=JV.2;rw[hy]at this;cases this;exact dy.ups s,λ H1 s=>⟨fV s h,t.length⟩⟩
theorem GW{K:Da}(h:P? K H q vs)(t:aG K H ds vs):Gives K (NP K q vs) (gU H) ds:=
 ⟨λ i d H1 s hi=>by let⟨y,hy,dy⟩:=t.get hi;refine⟨⟨y,(h.mono s).sq,hy⟩,λ y' JV=>?_⟩;have:=JV.2;rw[hy]at this;cases this;exact dy.ups s,λ H1 s=>⟨(h.mono s).sq,t.length⟩⟩
section
variable{X:Cx}{a b:ι}{pos p p2:Pos}{fa fb:Z.EF}{elts:γ ι}{x1:Nat}
theorem E9(I:Inv X χ σ H s):∀b∈[s.heap.objs.size+4,s.heap.objs.size+2,s.heap.objs.size+3,s.heap.objs.size,s.heap.objs.size+1],qq X χ H b:=λ b hb=>by
 have h:s.heap.objs.size<=b:=by simp only[A02,A32]at hb;lia
 exact I.uN h<|I.bY.fresh h
theorem EI(n:Nat):[n+4,n+2,n+3,n,n+1].Nodup:=by simp only[A17,A02,A32,B12,B35];lia
theorem _root_.ZQ.Fc(hm:X.mg "zip"=At)(ha:ZQ.QE X a fa)(hb:ZQ.QE X b fb)(hs:starEach [a,b] X.env=[(AT,eval a X.env),(AT,eval b X.env)]:=by rfl)(yL:starEach [b] X.env=[(AT,eval b X.env)]:=by rfl)(h1:Se a [b] X.env:=by rfl)(h2:Se b [] X.env:=by rfl)(hg:Gl X "zip":=by rfl):ZQ.QJ X (.Tuple elts x1 p2) (.Call (.Name "zip" p) [a,b] [] pos) (Z.NS fa fb):=⟨by
 intro χ s σ H R I w;let⟨ρ,ds,r,e,k⟩:=w;let⟨d1,ea,e⟩:=XV e;let⟨d2,eb,e⟩:=XV e;let⟨xs,ex,e⟩:=XV e;let⟨ys,ey,e⟩:=XV e;cases e;refine Call_<|lq I hg hm (by kernel_rfl:bootBuiltins "zip"=AC (.type "zip"))<|B22 (cG ((bM ha.p (bM hb.p cX h2) h1) pos χ s σ H (λ vs H1=>∃v u,vs=[v,u]/\aJ H H1/\Den X.K H1 d1 v/\Den X.K H1 d2 u) I ⟨ρ,d1,r,ea,λ v H1 s1 q1=>⟨ρ,d2,r.up s1,eb,λ u H2 s2 q2=>⟨v,u,rfl,s1.trans s2,q1.up s2,q2⟩⟩⟩) ?_) (by rw[hs,yL]) (by rw[yL];rfl);rintro us s1 ⟨vs,H1,I1,r1,q1⟩;let⟨v,u,rfl,sm,hd1,hd2⟩:=q1;let⟨u1,u2,rfl,ru1,ZE⟩:=vals2 r1;have aab:∃Y9,d2=.tup Y9/\Y9=ys:=by
  cases d2 with
  |tup Y9=>cases ey;exact⟨_,rfl,rfl⟩
  |non=>cases ey
  |bl _=>cases ey
  |int _=>cases ey
  |str _=>cases ey
  |lst _=>cases ey
  |dct _ _=>cases ey
 let⟨_,rfl,rfl⟩:=aab;let⟨q2,Xq,rfl,_I,t2⟩:=bT.tup (.inl hd2);cases ZE;let⟨iF,rv2,pt2,_⟩:=I1.tuple _I;cases d1 with
 |tup Y'=>cases ex;let⟨q,vs,rfl,hq,t⟩:=bT.tup (.inl hd1);cases ru1;let⟨bp,rv,pt,hz⟩:=I1.tuple hq;let⟨f1,f2,f3,f4,f5,f6⟩:=zB "tuple_iterator" "tuple_iterator" s1.heap q q2;refine callType_new F.called_zip ∅ (F.typeCall_zip_2 _ _) (F.newCall_zip_2 _ _) (λ obj=>F.args_object_init_3 obj _ _) F.entry_zip_new (AN q q2 bp.toArray iF.toArray) ⟨pt,pt2,⟨_,f1,rfl⟩,C13 f1 ?_⟩;exact⟨_,[s1.heap.objs.size+4,s1.heap.objs.size+2,s1.heap.objs.size+3,s1.heap.objs.size,s1.heap.objs.size+1],_,Y5 (GK X.K q vs)<|GK X.K q2 Xq,H1,rfl,I1.kept f6,z5 sQ sQ<|EI _,⟨f1,f2,⟨_,_,f3⟩,⟨_,f4,rfl,rfl⟩,⟨_,f5,rfl,rfl⟩⟩,E9 I1,k _ H1 sm<|EV (qV hq t)<|qV _I t2⟩
 |lst Y'=>cases ex;simp only[Den]at hd1;let⟨q,vs,rfl,hq,t⟩:=hd1;cases ru1;let⟨bp,rv,pt,hz⟩:=I1.list hq.sq;let⟨f1,f2,f3,f4,f5,f6⟩:=zB "list_iterator" "tuple_iterator" s1.heap q q2;refine callType_new F.called_zip ∅ (F.typeCall_zip_2 _ _) (F.newCall_zip_2 _ _) (λ obj=>F.args_object_init_3 obj _ _) F.entry_zip_new (AO q q2 bp.toArray iF.toArray) ⟨pt.isList,pt2,⟨_,f1,rfl⟩,C13 f1 ?_⟩;exact⟨_,[s1.heap.objs.size+4,s1.heap.objs.size+2,s1.heap.objs.size+3,s1.heap.objs.size,s1.heap.objs.size+1],_,Y5 (NP X.K q vs)<|GK X.K q2 Xq,H1,rfl,I1.kept f6,z5 Eh sQ<|EI _,⟨f1,f2,⟨_,_,f3⟩,⟨_,f4,rfl,rfl⟩,⟨_,f5,rfl,rfl⟩⟩,E9 I1,k _ H1 sm<|EV (GW hq t)<|qV _I t2⟩
 |non=>cases ex
 |bl _=>cases ex
 |int _=>cases ex
 |str _=>cases ex
 |dct _ _=>cases ex⟩
end
end ZS
namespace ZQ
open L2 ZS
end ZQ
namespace Z
end Z
namespace ZS
open L2
end ZS
namespace ZQ
open L2 ZS
end ZQ
namespace Z
def Iz:D->D->Res (γ D)
|.lst [d],.int n=>guard (0<=n/\n<=16777216)<|.ok<|List.replicate n.toNat d
|_,_=>.bad
theorem Cu(d:D)(n:Int):Iz (.lst [d]) (.int n)=guard (0<=n/\n<=16777216) (.ok<|List.replicate n.toNat d):=rfl
theorem Mt(h:Iz x y=.ok ds):∃d n,x=.lst [d]/\y=.int n/\0<=n/\n<=16777216/\ds=Do n.toNat d:=by
 unfold Iz at h;split at h
 .let⟨⟨h1,h2⟩,e⟩:=b8 h;cases e;exact⟨_,_,rfl,rfl,h1,h2,rfl⟩
 .cases h
def Nv(a:LF)(b:EF)(ρ:Env):Res (γ D):=(a ρ).bind λ xs=>(b ρ).bind λ y=>Iz (.lst xs) y
@[simp] theorem _i(a:LF)(b:EF)(ρ:Env):Nv a b ρ=(a ρ).bind λ xs=>(b ρ).bind λ y=>Iz (.lst xs) y:=rfl
def EC:D->Res D
|.bl b=>.ok<|.bl<|!b
|_=>.bad
@[simp] theorem U5(b:Bool):EC (.bl b)=.ok (.bl<|!b):=rfl
end Z
namespace ZS
open L2
section
variable{X:Cx}
theorem u!{K:Da}(h:Den K H d w):∀n,aG K H (Do n d) (Do n w)
|0=>aG.nil
|n+1=>aG.cons h<|u! h n
theorem A?{w:V}:∀n,(Do n [w]).flatten=Do n w
|0=>rfl
|n+1=>by rw[A82,B24,A?];rfl
theorem _root_.ZQ.KL(ha:ZQ.QL X a la)(hb:ZQ.QW X b fb):ZQ.QL X (.BinOp a .Mult b pos) (Z.Nv la fb):=⟨PE.imp (Ex L2.Q5 ha.p hb.p) <|by
 rintro σ H Q ⟨ρ,ds,r,e,k⟩;let⟨xs,ea,e⟩:=XV e;let⟨y,eb,e⟩:=XV e;let⟨d,n,hx,rfl,h0,h1,rfl⟩:=Z.Mt e;cases hx;refine⟨ρ,[d],r,ea,λ l vs H1 s1 hn hv t=>⟨ρ,_,r.up s1,eb,λ u H2 s2 d2=>?_⟩⟩;simp only[aG]at t;let⟨w,r',rfl,dw,rfl⟩:=t;refine⟨l,n,[w],rfl,d2.int,s2 _ _ hv,by lia,by lia,?_,λ z hz=>?_⟩
 .rw[A23];simp;lia
 .rw[A?];have UE:=s1.trans s2;have s3:aJ H2 (upd H2 z<|.lst<|List.replicate n.toNat w):=cK hz;exact k z _ _ (UE.trans s3) (UE.free hz) aM<|u! ((dw.up s2).up s3) _⟩
theorem MK:jN X (compareOp .IsNot) (λ x y H Q=>∃b,x=.bl b/\y=.bl Ch/\Q (.bl<|!b) H):=by intro χ s σ H x y v u Q I rx ry h;let⟨b,rfl,rfl,q⟩:=h;cases rx;cases ry;refine wpAny_isNot_plain rfl ⟨_,H,I,?_,q⟩;cases b<;>rfl
theorem Jh:∀σ H Q,tZ X.K (Z.eU Z.EC fa) σ H Q->L9 (λ x y H Q=>∃b,x=.bl b/\y=.bl Ch/\Q (.bl<|!b) H) (L8 X.K fa) (tC<|.bl Ch) σ H Q:=by
 rintro σ H Q ⟨ρ,d,r,e,k⟩;let⟨x,ea,e⟩:=XV e;refine⟨ρ,x,r,ea,λ v H1 s1 d1=>?_⟩;cases x with
 |bl b=>cases e;exact⟨b,d1.bl,rfl,k _ H1 s1 c7⟩
 |_=>cases e
theorem _root_.ZQ.Oi(ha:ZQ.QW X a fa):ZQ.QT X (.Compare a [.IsNot] [.Constant (.bool Ch) j pos'] pos) (Z.tE<|Z.eU Z.EC fa):=⟨qc (pE MK ha.p Pk<|qQ _) Jh⟩
end
end ZS
namespace ZQ
open L2 ZS
end ZQ
namespace Z
theorem xw(bs:γ Bool)(n:Nat)(b:SF)(ds:γ D)(h:ds.length=bs.length):Di bs n b ds=bR (b<|startB n bs ds):=by
 unfold Di;rw[M2 h];cases b _ with
 |bad=>rfl
 |ok f=>cases f<;>rfl
def kW:γ D->ε (γ<|γ Nat)
|[]=>AC []
|.str c::r=>(kW r).map (c::·)
|_::_=>At
def oM(sep:γ Nat):γ (γ Nat)->γ Nat
|[]=>[]
|[x]=>x
|x::y::r=>x++sep++oM sep (y::r)
def rO:D->D->Res D
|.str sep,.lst xs=>match kW xs with
 |some ts=>guard ((ts.map List.length).sum+ts.length*sep.length<=line)<|.ok<|.str<|oM sep ts
 |none=>.bad
|_,_=>.bad
theorem Jd(h:rO x y=.ok d):∃sep xs ts,x=.str sep/\y=.lst xs/\kW xs=AC ts/\(ts.map List.length).sum+ts.length*sep.length<=16777216/\d=.str (oM sep ts):=by
 unfold rO at h;split at h
 .split at h
  .rename_i hs;let⟨h1,e⟩:=b8 h;cases e;exact⟨_,_,_,rfl,rfl,hs,h1,rfl⟩
  .cases h
 .cases h
theorem tU:∀ts,kW (ts.map D.str)=AC ts
|[]=>rfl
|t::ts=>by simp[kW,tU ts]
theorem xu:∀ts,oM [] ts=ts.flatten
|[]=>rfl
|[x]=>by simp[oM]
|x::y::r=>by rw[oM,xu];simp
theorem w6{ts:γ _}(h:ts.flatten.length<=16777216):rO (.str []) (.lst<|ts.map D.str)=.ok (.str ts.flatten):=by show(match kW _ with|some ts=>guard _ _|none=>Res.bad)=_;rw[tU];simp only[xu];rw[guard_pos];rw[List.length_flatten]at h;simpa using h
def w8:D->D->Res D
|.str t,.str [c]=>.ok<|.int<|t.count c
|_,_=>.bad
@[simp] theorem Yb(t:γ Nat)(c:Nat):w8 (.str t) (.str [c])=.ok (.int<|t.count c):=rfl
theorem Je(h:w8 x y=.ok d):∃t c,x=.str t/\y=.str [c]/\d=.int (t.count c):=by
 unfold w8 at h;split at h
 .cases h;exact⟨_,_,rfl,rfl,rfl⟩
 .cases h
def Kf(is:γ Nat)(d:D)(ρ:Env):Res Env:=match d with
|.tup ds=>iN is ds ρ
|.lst ds=>iN is ds ρ
|_=>.bad
theorem uJ(is:γ Nat)(ds:γ D)(ρ:Env):Kf is (.lst ds) ρ=iN is ds ρ:=rfl
end Z
namespace ZS
open L2
def O8(K:Da)(H:Hp)(b:Bool)(d:Z.D)(v:V):Prop:=if b=Ch then jO K H d v else Den K H d v
def jG(K:Da)(H:Hp):γ Bool->γ Z.D->γ V->Prop
|[],[],vs=>vs=[]
|b::bs,d::ds,vs=>∃v r,vs=v::r/\O8 K H b d v/\jG K H bs ds r
|_,_,_=>False
theorem jG.length{K:Da}:∀{bs}{ds}{vs},jG K H bs ds vs->vs.length=ds.length/\ds.length=bs.length
|[],[],vs,h=>by have:=h;subst this;exact⟨rfl,rfl⟩
|[],_::_,_,h=>h.elim
|_::_,[],_,h=>h.elim
|b::bs,d::ds,_,⟨v,r,e1,h1,h2⟩=>by have:=jG.length h2;subst e1;simp[this.1,this.2]
theorem jG.get{K:Da}{H:Hp}:∀{bs}{ds}{vs}{i:Nat}{b}{d},jG K H bs ds vs->bs[i]?=AC b->ds[i]?=AC d->∃v,vs[i]?=AC v/\O8 K H b d v
|[],[],_,_,_,_,_,e,_=>by simp at e
|[],_::_,_,_,_,_,h,_,_=>h.elim
|_::_,[],_,_,_,_,h,_,_=>h.elim
|b::bs,d::ds,_,0,b',d',⟨v,r,e1,h1,h2⟩,eb,ed=>by simp at eb ed;subst e1;subst eb;subst ed;exact⟨v,rfl,h1⟩
|b::bs,d::ds,_,i+1,b',d',⟨v,r,e1,h1,h2⟩,eb,ed=>by subst e1;let⟨u,q1,q2⟩:=jG.get h2 (by simpa using eb) (by simpa using ed);exact⟨u,by simpa using q1,q2⟩
def Za(K:Da)(bs:γ Bool)(f:Z.AF):TA:=λ σ H Q=>∃ρ ds,RE K H σ ρ/\f ρ=.ok ds/\∀vs H',aJ H H'->jG K H' bs ds vs->Q vs H'
abbrev Y7(X:Cx)(es:γ ι)(bs:γ Bool)(f:Z.AF):Prop:=PA X es<|Za X.K bs f
structure _root_.ZQ.LO(X:Cx)(es:List Expr)(bs:List Bool)(f:Z.AF):Prop where p:Y7 X es bs f
theorem _root_.ZQ.bP:ZQ.LO X [] [] Z.aC:=⟨PA.imp cX <|by rintro σ H Q ⟨ρ,ds,r,e,k⟩;cases e;exact k [] H (aJ.refl H) rfl⟩
theorem _root_.ZQ.a8(ha:ZQ.QE X e f)(hr:ZQ.LO X es bs g)(hs:Se e es X.env:=by rfl):ZQ.LO X (e::es) (AT::bs) (Z.aa f g):=⟨PA.imp (bM ha.p hr.p hs) <|by rintro σ H Q ⟨ρ,ds,r,e,k⟩;let⟨x,ea,e⟩:=XV e;let⟨xs,eb,e⟩:=XV e;cases e;exact⟨ρ,x,r,ea,λ v H1 s1 d1=>⟨ρ,xs,r.up s1,eb,λ vs H2 s2 t=>k _ H2 (s1.trans s2) ⟨v,vs,rfl,Den.up d1 s2,t⟩⟩⟩⟩
def yc(K:Da)(bs:γ Bool)(m:γ Z.D->Z.Res Z.D):Sp:=λ vs H Q _=>∃ds d,jG K H bs ds vs/\m ds=.ok d/\∀v H',aJ H H'->Den K H' d v->Q v H'
theorem KZ(F:eY X.prog X.w X.K X.mg X.base iV k g fd ps (yc X.K bs m))(hr:bL k X.A)(hg:Gl X x)(hm:X.mg x=AC (.ref g))(hk:FM X.K (.ref g)=Ch)(hb:Binds X.K fd ps [])
 (ha:Y7 X (e::es) bs ar) (gQ:(x==("__debug__"))=AT:=by decide +kernel) (he:Se e es X.env:=by rfl) (fU:Pn pos es X.env:=by rfl) :
 DE X (.Call (.Name x p1) (e::es) [] pos) (Z.aE m ar):=
 PE.imp (yn F hr hg hm hk hb .nil uf ha gQ he fU) <|by rintro σ H Q ⟨ρ,d,r,e,k⟩;let⟨ds,ea,e⟩:=XV e;refine⟨ρ,ds,r,ea,λ vs H1 s1 d1=>?_⟩;show yc X.K bs m _ H1 Q E0;rw[A51];exact⟨ds,d,d1,e,λ v H' s2 dv=>k v H' (s1.trans s2) dv⟩
section
variable{K:Da}
theorem CT(b:Bool)(d:Z.D)(xs:γ Z.D):Z.sE b d≠.own xs:=by unfold Z.sE;split<;>intro h<;>cases h
theorem CU(b:Bool)(d:Z.D)(ks:Z.DK):Z.sE b d≠.dc ks:=by unfold Z.sE;split<;>intro h<;>cases h
theorem ER(h:O8 K H b d v):RL K H (Z.sE b d) v:=by
 cases b with
 |false=>exact(h)
 |true=>
  have h':=h;have st:(∀ds,d≠.lst ds)->(∀ks vs,d≠.dct ks vs)->Den K H d v:=λ n1 n2=>by
   rcases h' with h|⟨a,kd,ks,ds,u,e1,_⟩
   .exact h.og n1
   .exact absurd e1<|n2 _ _
  cases d with
  |lst xs=>exact h'
  |non=>exact st (λ _ z=>nomatch z) λ _ _ z=>nomatch z
  |bl _=>exact st (λ _ z=>nomatch z) λ _ _ z=>nomatch z
  |int _=>exact st (λ _ z=>nomatch z) λ _ _ z=>nomatch z
  |str _=>exact st (λ _ z=>nomatch z) λ _ _ z=>nomatch z
  |tup _=>exact st (λ _ z=>nomatch z) λ _ _ z=>nomatch z
  |dct _ _=>exact h'
theorem oh(t:jG K H bs ds vs)(hl:vs.length<=N.length):RS K H H (L2.start N vs) (Z.startB N.length bs ds):=by
 let⟨ψ,hbl⟩:=t.length;have hz:(al (λ b d=>AC<|Z.sE b d) bs ds).length=ds.length:=by simp[hbl]
 have key:∀(i:Nat) l,(Z.startB N.length bs ds)[i]?=AC (AC l)->∃b d,l=Z.sE b d/\∃v,(L2.start N vs)[i]?=AC (AC v)/\O8 K H b d v:=by
  intro i l e;unfold Z.startB at e;by_cases hi:i<ds.length
  .rw[A34 (by rw[hz];exact hi)]at e;have sX:i<bs.length:=by lia
   rw[List.getElem?_zipWith,A01 sX,A01 hi]at e;simp only at e;cases e;let⟨v,h1,h2⟩:=t.get (A01 sX) (A01 hi);refine⟨_,_,rfl,v,?_,h2⟩;unfold L2.start;rw[A34 (by simp;lia),A06,h1];rfl
  .rw[A48 (by rw[hz];lia),A52]at e;split at e<;>cases e
 have AE:∀(i:Nat) xs,(Z.startB N.length bs ds)[i]?≠AC (AC<|.own xs):=λ i xs e=>by let⟨b,d,h,_⟩:=key i _ e;exact CT b d xs h.symm
 refine⟨aJ.refl H,⟨?_,λ i l e=>?_,λ i j xs ys q e1=>absurd e1<|AE i xs⟩,λ i xs q e1=>absurd e1<|AE i xs,λ i xs e1=>?_,kL.non λ i ks e=>by let⟨b,d,h,_⟩:=key i _ e;exact CU b d ks h.symm⟩
 .unfold Z.startB L2.start;rw[A30,A30,hz,A81,A05,A81,ψ]
 .let⟨b,d,rfl,v,h1,h2⟩:=key i l e;exact⟨v,h1,ER h2⟩
 .let⟨b,d,h,v,h1,h2⟩:=key i _ e1;have:=ER h2;rw[<-h]at this;exact⟨v,h1,jO.z this⟩
theorem WC{st:η}{f:δ}{fd:υ}{N ps:γ Str}{bs:γ Bool}{k:Nat}{b:Z.SF}(qx:bs.length=ps.length)(F:BM K x qual st f fd)(S:a9 N ps (aj st))
 (hb:∀ bf A outer s H E,bL k (A.deeper<|envOfC qual (aj st) s.heap.objs.size f bf) ->
  LP (d6 iV P w K mg base N qual (aj st) f bf A outer s H E).gy H (aL st) b):eY P w K mg base iV (k+1) f fd ps (yc K bs<|Z.Di bs N.length b):=by
 have ψ:∀vs H Q E,yc K bs (Z.Di bs N.length b) vs H Q E->vs.length=ps.length:=by rintro vs H Q E ⟨ds,d,t,e,_⟩;have:=t.length;lia
 refine F.ok S ψ λ bf A outer s H vs Q E hr h=>⟨_,hb bf A outer s H E hr,?_⟩;have hl:=ψ vs H Q E h;let⟨ds,d,t,e,k⟩:=h;have fU:ps.length<=N.length:=by have:=A11 List.length S.pre;rw[A24]at this;lia
 have rs:RS K H H (L2.start N vs) (Z.startB N.length bs ds):=oh t ∅;unfold Z.Di at e;split at e
 .cases eb:b (Z.startB N.length bs ds)with
  |bad=>rw[eb]at e;cases e
  |ok fl=>
   rw[eb]at e;refine⟨_,fl,rs,eb,?_⟩;cases fl with
   |rt d'=>cases e;exact λ v H' s' dv=>k v H' s' dv
   |nx ρ'=>cases e;exact λ σ' H' _ En=>k .non H' En.same lH
   |bk ρ'=>cases e
   |ct ρ'=>cases e
 .cases e
structure vt(P:Program)(w:World)(K:Da)(mg:Str->Option Value)(base:Heap)(x:Str)(k:Nat)(ps:List Str)(bs:List Bool)(m:List Z.D->Z.Res Z.D):Prop where
 ex:∃g fd,eY P w K mg base iV k g fd ps (yc K bs m)/\mg x=AC (.ref g)/\FM K (.ref g)=Ch/\Binds K fd ps []
theorem vt.mk'{st:η}(qx:bs.length=ps.length)(d:Def K mg x st ps)(S:a9 N ps (aj st))
 (hb:∀ f bf A outer s H E,bL k (A.deeper<|envOfC x (aj st) s.heap.objs.size f bf) ->
  LP (d6 iV P w K mg base N x (aj st) f bf A outer s H E).gy H (aL st) b):vt P w K mg base x (k+1) ps bs (Z.Di bs N.length b):=by
 let⟨f,fd,F,hm,sX⟩:=d.ex;exact⟨f,fd,WC qx F S<|hb f,hm,F.kp,sX⟩
end
theorem _root_.ZQ.BA(C:vt X.prog X.w X.K X.mg X.base x k ps bs m)(hr:bL k X.A)(hg:Gl X x)
 (ha:ZQ.LO X (e::es) bs ar) (gQ:(x==("__debug__"))=AT:=by decide +kernel) (he:Se e es X.env:=by rfl) (fU:Pn pos es X.env:=by rfl) :
 ZQ.QE X (.Call (.Name x p1) (e::es) [] pos) (Z.aE m ar):=
 ⟨let ⟨_,_,F,hm,hk,hb⟩:=C.ex;KZ F hr hg hm hk hb ha.p gQ he fU⟩
end ZS
namespace ZQ
open L2 ZS
theorem K8{K:Da}{st:η}(qx:bs.length=ps.length)(d:ZS.Def K mg x st ps)(hb:∀{f}{bf}{A}{outer}{s}{H}{E},N.Nodup->(A.deeper<|envOfC x (aj st) s.heap.objs.size f bf).units+64<cLine->bL k (A.deeper<|envOfC x (aj st) s.heap.objs.size f bf)->BK (d6 iV P w K mg base N x (aj st) f bf A outer s H E).gy H (aL st) b)(S:a9 N ps (aj st):=by exact ZS.Dg):ZS.vt P w K mg base x (k+1) ps bs (Z.Di bs N.length b):=ZS.vt.mk' qx d S λ f bf A outer s H E hr=>(hb S.nd hr.units hr).p
end ZQ
namespace ZS
open L2
theorem uW(qv:l≠it):∀n i s Q,s.heap.IsListIter it l i->s.heap.IsList l items->i+n<=items.size ->
 (∀h',h'.IsListIter it l (i+n)->IN it s.heap h'->Q ((items.toList.drop i).take n) {s with heap:=h'})->EQ (model prog w) A (draw (.ref it) n) Q E s
|0,i,s,Q,hit,_,_,hQ=>by exact P3 (by simpa using hQ _ hit (Heap.SameBut.refl ..))
|n+1,i,s,Q,hit,ht,hle,hQ=>by
 have kF:i<items.size:=by lia
 refine T0<|wpAny_pyNext_list_item hit ht (x:=items[i]) (by simp[kF]) λ h₁ RX V2=>?_;refine T0<|A38<|uW qv n _ _ _ RX (ht.extBut V2.extBut qv) ∅ λ h₂ _1 hs₂=>P3 ?_;have hd:items.toList.drop i=items[i]::items.toList.drop (i+1):=by simp[A84,kF]
 have:=hQ h₂ (by rw[show i+(n+1)=i+1+n by lia];exact _1)<|V2.trans hs₂;rw[hd,List.take_succ_cons]at this;exact this
theorem pe(hh:A.handled=At)(ht:s.heap.IsList t items)
 (hQ:∀h',ci s.heap.objs.size s.heap h'->Q items.toList {s with heap:=h'}):EQ (model prog w) A (unpackItems (.ref t) items.size At) Q E s:=by
 have kF:t≠s.heap.objs.size:=by let⟨o,ho,_⟩:=ht;exact A13<|A00 ho
 refine T0 ?_
 .skip
  refine T0<|wpAny_specialOf ht.typeIs slot_list_iter.lookup ?_;refine P3 ?_;simp only[A45,A60];refine T0<|A38<|A96 ht ?_;refine T0<|A38<|uW kF _ 0 _ _ ⟨_,A14 _ rfl,rfl,rfl⟩ (ht.push _) ∅ λ h₁ RX V2=>?_;have hall:List.take items.size (List.drop 0 items.toList)=items.toList:=by rw[List.drop_zero];exact C15 ∅
  rw[hall];rw[W1 ∅];have ht₁:=(ht.push _).extBut V2.extBut kF;refine T0<|A38<|wpAny_pyNext_list_end hh RX ht₁ ∅ λ h₂ he₂=>?_;simp only[Option.isSome_none,A45,A60];refine P3<|hQ h₂ λ b o hb e=>he₂ b o hb<|V2.extBut b o hb<|v6 _ e
theorem o7(hh:A.handled=At)(ht:s.heap.IsList t items)
 (hn:(assignEach elts env).length=items.size) (V4:(assignEach elts env).findIdx? (·.1)=At)
 (h:∀h',ci s.heap.objs.size s.heap h'->EQ (model prog w) A (assignInOrder ((assignEach elts env).map (·.2)) items.toList) Q E {s with heap:=h'}) :
 EQ (model prog w) A (assign (.Tuple elts x1 pos) env<|.ref t) Q E s:=by
 rw[assign_Tuple];refine T0<|B32 ?_;unfold unpack;rw[hn,V4];exact T0<|A38<|pe hh ht h
def Ww(K:Da)(n:Nat)(t:SO):TG:=λ v σ H Q=>∃a xs,v=.ref a/\jE K H a xs/\xs.length=n/\t xs σ H Q
theorem QN(hc:X.calm=Ch)(h:Lk X es t)
 (hn:(assignEach es X.env).length=n:=by rfl) (pW:(assignEach es X.env).findIdx? (·.1)=At:=by rfl):PG X (.Tuple es k pos) (Ww X.K n t):=by
 intro χ s σ H v u Q I r hw;let⟨a,xs,e1,hq,hl,hw⟩:=hw;subst e1;cases r;let⟨bp,rv,ht,hz⟩:=I.list hq;refine o7 (I.ok.hd hc) ht.isList (by simp[hn,<-hl,rv.length]) pW λ h' hx=>?_;have I1:=I.kept (t':=s.toks) λ b o e=>hx b o (A13<|A00 e) e;exact h χ _ σ H xs _ Q I1 (by simpa using rv) hw
theorem uK:∀is ds ρ ρ',Z.iN is ds ρ=.ok ρ'->ds.length=is.length:=by
 intro is
 induction is with
 |nil=>intro ds ρ ρ' e;cases ds with
  |nil=>rfl
  |cons d ds=>cases e
 |cons i is ih=>intro ds ρ ρ' e;cases ds with
  |nil=>cases e
  |cons d ds=>simp[ih ds _ _ e]
theorem _root_.ZQ.KR(hc:X.calm=Ch)(h:ZQ.Xa X H0 es is)(hl:is.length=n)(hn:(assignEach es X.env).length=n:=by rfl)(pW:(assignEach es X.env).findIdx? (·.1)=At:=by rfl):ZQ.QG X H0 (.Tuple es x1 pos) (Z.Kf is):=⟨by
 have h:=h.p;intro χ s σ H v u Q I r hw;let⟨ρ,d,ρ',rs,hd,e,k⟩:=hw;unfold Z.Kf at e;split at e
 .rename_i ds;let⟨q,vs,rfl,hq,t⟩:=bT.tup (.inl hd);exact IQ hc h hn pW χ s σ H _ u Q I r ⟨q,vs,rfl,hq,by rw[t.length,uK is ds ρ ρ' e];exact hl,ρ,ds,ρ',rs,t,e,k⟩
 .rename_i ds;let⟨q,vs,rfl,hq,t⟩:=bT.lst (.inl hd);exact QN hc h hn pW χ s σ H _ u Q I r ⟨q,vs,rfl,hq,by rw[t.length,uK is ds ρ ρ' e];exact hl,ρ,ds,ρ',rs,t,e,k⟩
 .cases e⟩
theorem zN:∀{ts}{bp},Vals (ts.map V.str) bp->∃l,strValues l=bp/\l.map (·.1)=ts
|[],bp,h=>by cases h;exact⟨[],rfl,rfl⟩
|t::ts,bp,h=>by
 cases h with
 |cons r rr=>let⟨tk,rfl⟩:=r;let⟨l,rfl,h2⟩:=zN rr;exact⟨(t,tk)::l,rfl,by rw[<-h2];rfl⟩
def rJoin(K:Da):V->γ V->Hp->VK->Prop:=λ x vs H Q=>∃sep q ts,x=.str sep/\vs=[.ref q]/\jE K H q (ts.map V.str)/\JoinOk sep ts=Ch/\Q (.str<|Txt.join sep ts) H
theorem Nb:T5 X "str.join" (rJoin X.K):=by intro χ s σ H x vs v us Q I rx rv h;let⟨sep,q,ts,rfl,rfl,hq,bY,k⟩:=h;let⟨t,rfl⟩:=rx;let⟨u,rfl,ru⟩:=rv.one;cases ru;let⟨bp,r,pl,hz⟩:=I.list hq;let⟨l,rfl,hl⟩:=zN r;exact SC.join pl.isList hl bY λ t' c=>⟨.str _,H,I.tok c,⟨t',rfl⟩,k⟩
def sD(cs:γ Nat):Str:=⟨cs.toArray⟩
theorem u9{K:FS}:∀{xs}{ts}{vs},Z.kW xs=AC ts->aG K H xs vs->vs=(ts.map sD).map V.str
|[],ts,vs,e,h=>by cases e;simp only[aG]at h;subst h;rfl
|x::xs,ts,vs,e,h=>by
 cases x with
 |str c=>
  have e':(Z.kW xs).map _=AC ts:=e;cases q:Z.kW xs with
  |none=>rw[q]at e';cases e'
  |some Qn=>rw[q]at e';cases e';simp only[aG]at h;let⟨v,r,rfl,hv,ht⟩:=h;simp only[Den]at hv;rw[hv,u9 q ht];rfl
 |non=>cases e
 |bl _=>cases e
 |int _=>cases e
 |tup _=>cases e
 |lst _=>cases e
 |dct _ _=>cases e
theorem EL(cs:γ Nat):(sD cs).length=cs.length:=by simp[sD,Str.length]
theorem EM(a b:γ Nat):sD a++sD b=sD (a++b):=by show(⟨a.toArray++b.toArray⟩:Str)=_;simp[sD]
theorem NF(sep:γ Nat):∀ts,Txt.join (sD sep) (ts.map sD)=sD (Z.oM sep ts):=by
 intro ts;show Builtin.Str.glued _ _=_;rw[StrLaws.glued_eq_join]
 induction ts with
 |nil=>rfl
 |cons x ts ih=>
  cases ts with
  |nil=>rfl
  |cons y r=>show sD x++sD sep++Str.join _ _=_;rw[ih,EM,EM];rfl
theorem ND{ts:γ _}(h:(ts.map List.length).sum+ts.length*sep.length<=16777216):JoinOk (sD sep) (ts.map sD)=Ch:=by
 unfold JoinOk;rw[StrLaws.joinTotal];have e:(ts.map sD).map (·.length)=ts.map List.length:=by rw[A16];exact B08 λ x _=>EL x
 rw[e,A05,EL];simp only[Builtin.Str.tooLong,B67,decide_eq_false_iff_not,A86];rw[A23];exact h
theorem _root_.ZQ.Fh(ho:ZQ.QE X o fa)(hb:ZQ.QW X b fb)
 (js:attributeBase o "join" X.env (eval o X.env)=eval o X.env:=by rfl)
 (oK:((backTo p2<|starEach (b::[]) X.env).all (λ x=>!x.1)&&(backToKw p2<|keywordEach [] X.env).all (λ x=>x.1.isSome)
  && decide ((b::[]).length+([]:γ π).length+(if([]:γ π).isEmpty then 0 else 1)<30))=Ch:=by rfl)
 (jr:(p1.endLine==p2.line)=Ch:=by rfl) (oJ:Se b [] X.env:=by rfl) (g_:Pn p2 [] X.env:=by rfl) :
 ZQ.QE X (.Call (.Attribute o "join" p1) [b] [] p2) (Z.eB Z.rO fa fb):=
 ⟨PE.imp (wZ C49 PySem.F.slot_str_join PySem.F.type_str_join Nb ho.p (bM hb.p cX oJ) js oK jr oJ g_) <|by rintro σ H Q ⟨ρ,d,r,e,k⟩;let⟨x,ea,e⟩:=XV e;let⟨y,eb,e⟩:=XV e;let⟨sep,xs,ts,rfl,rfl,et,hl,rfl⟩:=Z.Jd e;refine⟨ρ,_,r,ea,λ v H1 s1 d1=>?_⟩;simp only[Den]at d1;subst d1;refine⟨rfl,ρ,_,r.up s1,eb,λ u H2 s2 d2=>?_⟩;let⟨q,vs,rfl,hq,t⟩:=d2.lst;rw[u9 et t]at hq;refine⟨sD sep,q,ts.map sD,rfl,rfl,hq,ND hl,?_⟩;rw[NF];exact k _ H2 (s1.trans s2) j0⟩
theorem MV(x:Str)(c:Nat)(lim:Nat):∀n lo st,st.2<=lo->st.1.size+n<=lim->lo+n=x.length+1 ->
 (forIn (List.range' lo n) st<|StrLaws.occBody x ⟨#[c]⟩ x.length lim).run.fst.size=st.1.size+(x.cps.toList.drop lo).count c:=by
 intro n
 induction n with
 |zero=>intro lo st h1 h2 h3;have:x.cps.toList.drop lo=[]:=B36 (by simp;show x.length<=lo;lia);simp[this]
 |succ n ih=>
  intro lo st h1 h2 h3;rw[List.range'_succ,B31];by_cases _T:lo<x.length
  .have RW:lo<x.cps.toList.length:=by rw[B44];exact _T
   have NT:TD x ⟨#[c]⟩ lo=decide (x.cps.toList[lo]=c):=by
    have so:=StrLaws.subAt_one x c lo;rw[A53,B14];constructor
    .intro h;have:=so.mp ⟨by show lo+1<=x.length;lia,h⟩;rw[A01 RW]at this;exact A04 this
    .intro h;exact(so.mpr (by rw[A01 RW,h])).2
   rw[A84 RW];by_cases hc:x.cps.toList[lo]=c
   .have A4:((st.1.size<lim/\st.2<=lo)/\lo+(⟨#[c]⟩:Str).length<=x.length)/\TD x ⟨#[c]⟩ lo=Ch:=⟨⟨⟨by lia,h1⟩,by show lo+1<=x.length;lia⟩,by rw[NT];simp[hc]⟩
    have e:Os x ⟨#[c]⟩ x.length lim lo st=pure (GT (st.1.push lo,lo+1)):=by unfold Os;rw[M2 A4];rfl
    rw[e];have:=ih (lo+1) (st.1.push lo,lo+1) (v4 _) (by simp;lia) ∅;simp only[pure_bind];rw[this,hc,List.count_cons_self];simp only[Array.size_push];lia
   .have A4:¬(((st.1.size<lim/\st.2<=lo)/\lo+(⟨#[c]⟩:Str).length<=x.length)/\TD x ⟨#[c]⟩ lo=Ch):=λ z=>by rw[NT]at z;exact hc<|B29 z.2
    have e:Os x ⟨#[c]⟩ x.length lim lo st=pure (GT (st.1,st.2)):=by unfold Os;rw[W1 A4]
    rw[e];have:=ih (lo+1) (st.1,st.2) (by simp;lia) (by simp;lia) ∅;simp only[pure_bind];rw[this,List.count_cons_of_ne hc]
  .have A4:¬(((st.1.size<lim/\st.2<=lo)/\lo+(⟨#[c]⟩:Str).length<=x.length)/\TD x ⟨#[c]⟩ lo=Ch):=λ z=>_T (by have:=z.1.2;change lo+1<=x.length at this;lia);have e:Os x ⟨#[c]⟩ x.length lim lo st=pure (GT (st.1,st.2)):=by unfold Os;rw[W1 A4]
   rw[e];have:=ih (lo+1) (st.1,st.2) (by simp;lia) (by simp;lia) ∅;simp only[pure_bind];rw[this];have h5:x.cps.toList.drop lo=[]:=B36 (by simp;show x.length<=lo;lia);have h6:x.cps.toList.drop (lo+1)=[]:=B36 (by simp;show x.length<=lo+1;lia);rw[h5,h6]
theorem Gg(t:γ Nat)(c:Nat):(Sc (sD t) ⟨#[c]⟩ 0 (sD t).length<|(sD t).length+1).length=t.count c:=by rw[StrLaws.occ_eq];have:=MV (sD t) c ((sD t).length+1) ((sD t).length+1) 0 (#[],0) (v4 _) ∅ ∅;simpa[sD]using this
def UO:V->γ V->Hp->VK->Prop:=λ x vs H Q=>∃t c,x=.str (sD t)/\vs=[.str ⟨#[c]⟩]/\Q (.int ((t.count c:Nat):Int)) H
theorem Nc:T5 X "str.count" UO:=by intro χ s σ H x vs v us Q I rx rv h;let⟨t,c,rfl,rfl,k⟩:=h;let⟨tk,rfl⟩:=rx;let⟨u,rfl,ru⟩:=rv.one;let⟨tk2,rfl⟩:=ru;refine call_gives F.slot_str_count (typeIs_str _ _ _) F.entry_str_count (F.args_str_count_2 _ _) (gives_str_count _ _ tk tk2) ?_;rw[Gg];exact⟨.int _,H,I.tok _,⟨_,rfl⟩,k⟩
theorem _root_.ZQ.Oz(ho:ZQ.QW X o fa)(hb:ZQ.QW X b fb)
 (js:attributeBase o "count" X.env (eval o X.env)=eval o X.env:=by rfl)
 (oK:((backTo p2<|starEach (b::[]) X.env).all (λ x=>!x.1)&&(backToKw p2<|keywordEach [] X.env).all (λ x=>x.1.isSome)
  && decide ((b::[]).length+([]:γ π).length+(if([]:γ π).isEmpty then 0 else 1)<30))=Ch:=by rfl)
 (jr:(p1.endLine==p2.line)=Ch:=by rfl) (oJ:Se b [] X.env:=by rfl) (g_:Pn p2 [] X.env:=by rfl) :
 ZQ.QE X (.Call (.Attribute o "count" p1) [b] [] p2) (Z.eB Z.w8 fa fb):=
 ⟨PE.imp (wZ C49 PySem.F.slot_str_count PySem.F.type_str_count Nc ho.p (bM hb.p cX oJ) js oK jr oJ g_) <|by rintro σ H Q ⟨ρ,d,r,e,k⟩;let⟨x,ea,e⟩:=XV e;let⟨y,eb,e⟩:=XV e;let⟨t,c,rfl,rfl,rfl⟩:=Z.Je e;refine⟨ρ,_,r,ea,λ v H1 s1 d1=>?_⟩;have d1':=d1.str;subst d1';refine⟨rfl,ρ,_,r.up s1,eb,λ u H2 s2 d2=>?_⟩;have d2':=d2.str;subst d2';exact⟨t,c,rfl,rfl,k _ H2 (s1.trans s2) c6⟩⟩
end ZS
namespace ZQ
open L2 ZS
end ZQ
namespace ZS
open L2
section
variable{e st:ι}
end
end ZS
namespace ZQ
open L2 ZS
end ZQ
namespace Z
def mn(_:Env):Res Fl:=.bad
@[simp] theorem ZD(ρ:Env):mn ρ=.bad:=rfl
def EB:D->D->Res D
|.tup [d],.int n=>guard (0<=n/\n<=1000000)<|.ok<|.tup<|List.replicate n.toNat d
|_,_=>.bad
theorem Jc(h:EB x y=.ok d):∃e n,x=.tup [e]/\y=.int n/\0<=n/\n<=1000000/\d=.tup (Do n.toNat e):=by
 unfold EB at h;split at h
 .let⟨⟨h0,h1⟩,e⟩:=b8 h;cases e;exact⟨_,_,rfl,rfl,h0,h1,rfl⟩
 .cases h
end Z
namespace ZS
open L2
theorem _root_.ZQ.hZ{st:η}:ZQ.QS X H0 st Z.mn:=⟨by rintro _ _ _ _ _ _ ⟨_,_,_,e,_⟩;exact nomatch e⟩
theorem _root_.ZQ.Oj:ZQ.BK X H0 zp Z.mn:=⟨by rintro _ _ _ _ _ _ ⟨_,_,_,e,_⟩;exact nomatch e⟩
theorem Sy{K:Da}(C:ie P w K mg base x k ps m)(hm:∀ds d,m ds≠.ok d:=by intro ds d h;unfold Z.fn at h;split at h<;>cases h):ie P w K mg base x k ps (λ _=>.bad):=by
 let⟨g,fd,F,h⟩:=C.ex;have:zq K m=zq K λ _=>.bad:=by
  funext vs H Q E
  refine propext ⟨by rintro⟨ds,d,_,e,_⟩;exact absurd e<|hm ds d,by rintro⟨ds,d,_,e,_⟩;exact nomatch e⟩
 rw[this]at F;exact⟨g,fd,F,h⟩
structure O7(K:Da)(x qual:Str)(st:Stmt)(f:Addr)(fd:FuncData):Prop where
 ex:∃(oc:Value)(od:Option Addr)(dV kV doc pm:Value)(an:Option Addr)(bf ct:Value)(ui:Array (Option Value)),
  fd=NE x qual (bE st) (aL st) (aj st) dV kV doc pm an bf ct/\K.lookup f=AC ⟨oc,od,.func fd,ui⟩/\On K bf qual=Ch
 kp:FM K (.ref f)=Ch
section
variable{K:Da}
theorem O7.ok{st:η}(F:O7 K x qual st f fd)(S:a9 N ps (aj st))(len:∀vs H Q E,sp vs H Q E->vs.length=ps.length)
 (A5:∀ bf A outer s H vs Q E,bL k (A.deeper<|envOfC qual (aj st) s.heap.objs.size f bf)->sp vs H Q E ->
  ∃t,rp (d6 iV P w K mg base N qual (aj st) f bf A outer s H E).gy (aL st) t/\t {nx:=λ _ H'=>Q .non H',rt:=Q} (start N vs) H):eY P w K mg base iV (k+1) f fd ps sp:=by
 let⟨oc,od,dV,kV,doc,pm,an,bf,ct,ui,rfl,lk,n4⟩:=F.ex;refine uO lk n4 S len λ A outer s H vs Q E hr BV=>?_;let⟨t,h,q⟩:=A5 bf A outer s H vs Q E hr BV;exact⟨t,h.gy,q⟩
theorem aaD{st:η}(F:O7 K x qual st f fd)(S:a9 N ps (aj st))
 (hb:∀ bf A outer s H E,bL k (A.deeper<|envOfC qual (aj st) s.heap.objs.size f bf) ->
  LP (d6 iV P w K mg base N qual (aj st) f bf A outer s H E).gy H (aL st) b):eY P w K mg base iV (k+1) f fd ps (zq K<|Z.fn ps.length N.length b):=by
 have ψ:∀vs H Q E,zq K (Z.fn ps.length N.length b) vs H Q E->vs.length=ps.length:=by
  rintro vs H Q E ⟨ds,d,t,e,_⟩;unfold Z.fn at e;split at e
  .rename_i h;rw[t.length];exact h
  .cases e
 refine F.ok S ψ λ bf A outer s H vs Q E hr h=>⟨_,hb bf A outer s H E hr,?_⟩;have hl:=ψ vs H Q E h;let⟨ds,d,t,e,k⟩:=h;have fU:ps.length<=N.length:=by have:=A11 List.length S.pre;rw[A24]at this;lia
 have rs:RS K H H (L2.start N vs) (Z.start N.length ds):=mX t ∅;unfold Z.fn at e;split at e
 .cases eb:b (Z.start N.length ds)with
  |bad=>rw[eb]at e;cases e
  |ok fl=>
   rw[eb]at e;refine⟨_,fl,rs,eb,?_⟩;cases fl with
   |rt d'=>cases e;exact λ v H' s' dv=>k v H' s' dv
   |nx ρ'=>cases e;exact λ σ' H' _ En=>k .non H' En.same lH
   |bk ρ'=>cases e
   |ct ρ'=>cases e
 .cases e
structure Ho(K:Da)(mg:Str->Option Value)(x:Str)(st:Stmt)(ps:List Str):Prop where
 ex:∃f fd,O7 K x x st f fd/\mg x=AC (.ref f)/\Binds K fd ps []/\Binds K fd ps [.none]
structure wF(P:Program)(w:World)(K:Da)(mg:Str->Option Value)(base:Heap)(x:Str)(k:Nat)(ps:List Str)(m:List Z.D->Z.Res Z.D):Prop where
 ex:∃g fd,eY P w K mg base iV k g fd ps (zq K m)/\mg x=AC (.ref g)/\FM K (.ref g)=Ch/\Binds K fd ps []/\Binds K fd ps [.none]
theorem wF.full(C:wF P w K mg base x k ps m):ie P w K mg base x k ps m:=
 let ⟨g,fd,h1,h2,h3,h4,_⟩:=C.ex;⟨g,fd,h1,h2,h3,h4⟩
theorem wF.mk'{st:η}(d:Ho K mg x st ps)(S:a9 N ps (aj st))
 (hb:∀ f bf A outer s H E,bL k (A.deeper<|envOfC x (aj st) s.heap.objs.size f bf) ->
  LP (d6 iV P w K mg base N x (aj st) f bf A outer s H E).gy H (aL st) b):wF P w K mg base x (k+1) ps (Z.fn ps.length N.length b):=by
 let⟨f,fd,F,hm,sX,YD⟩:=d.ex;exact⟨f,fd,aaD F S<|hb f,hm,F.kp,sX,YD⟩
theorem Ot{st:η}{ps:γ Str}{f t:δ}{oc:ζ}{od an:ε δ}{ui:Array (ε ζ)}{kV doc pm bf ct tc:ζ}{td:ε δ}{tn:Nat}{tsl:Array (ε ζ)}
 (l:K.lookup f=AC ⟨oc,od,.func<|PySem.W.fnOf x x (bE st) (aL st) (aj st) (.ref t) kV doc pm an bf ct,ui⟩)
 (c:On K bf x=Ch) (k:FM K (.ref f)=Ch) (lt:K.lookup t=AC ⟨tc,td,.seq #[.none] tn,tsl⟩) (hm:mg x=AC (.ref f))
 (h1:∀us,us.length=ps.length->∃kk,bindArgs (NE x x (bE st) (aL st) (aj st) (.ref t) kV doc pm an bf ct) ⟨us,[]⟩=seqItems? (.ref t)>>=kk/\kk (AC #[.none])=pure (ps.zip us))
 (h2:∀us,us.length=ps.tail.length->∃kk,bindArgs (NE x x (bE st) (aL st) (aj st) (.ref t) kV doc pm an bf ct) ⟨us,[]⟩=seqItems? (.ref t)>>=kk/\kk (AC #[.none])=pure (ps.zip<|us++[.none])):Ho K mg x st ps:=by
 refine⟨f,_,⟨⟨oc,od,.ref t,kV,doc,pm,an,bf,ct,ui,rfl,l,c⟩,k⟩,hm,λ s us hK hl=>?_,λ s us hK hl=>?_⟩
 .rw[A51]at hl ⊢;let⟨kk,e1,e2⟩:=h1 us hl;exact BindsTo.of_defaults (T:=t) (items:=#[.none]) rfl (hK t _ lt) rfl e1 e2
 .let⟨kk,e1,e2⟩:=h2 us (by simp at hl ⊢;lia);exact BindsTo.of_defaults (T:=t) (items:=#[.none]) rfl (hK t _ lt) rfl e1 e2
end
end ZS
namespace ZQ
open L2 ZS
theorem zc{K:Da}{st:η}(d:ZS.Ho K mg x st ps)(hb:∀{f}{bf}{A}{outer}{s}{H}{E},N.Nodup->(A.deeper<|envOfC x (aj st) s.heap.objs.size f bf).units+64<cLine->bL k (A.deeper<|envOfC x (aj st) s.heap.objs.size f bf)->BK (d6 iV P w K mg base N x (aj st) f bf A outer s H E).gy H (aL st) b)(S:a9 N ps (aj st):=by exact ZS.Dg):ZS.wF P w K mg base x (k+1) ps (Z.fn ps.length N.length b):=ZS.wF.mk' d S λ f bf A outer s H E hr=>(hb S.nd hr.units hr).p
end ZQ
namespace PySem
open PySem.Sem (wp)
open Builtin
theorem qS:fillsNumberSlot (.type "tuple") "mul"=pure AT:=
 fillsNumberSlot_seq B37.lookup (by decide +kernel) F.slot_tuple_rmul.lookup (by decide +kernel)
theorem yl:seqRepeat? (.type "tuple")=pure (AC<|.builtin "tuple.__mul__"):=by unfold seqRepeat?;rw[seqSlot_of (name:="__mul__") B37.lookup (by decide +kernel),seqSlot_of (name:="__rmul__") F.slot_tuple_rmul.lookup (by decide +kernel)];rfl
theorem lu(a:Int)(t:Tok)(l:δ)(items:Array ζ)(n:Nat)(dd:ε δ)(sl:Array _):
 Meets (Builtin.«int.__rmul__» ⟨[.int a t,.ref l],[]⟩) (λ _ R s=>s.heap.get? l=AC {cls:=.type "tuple",dict:=dd,data:=.seq items n,slots:=sl}/\R (.ok<|.ret Value.notImplemented) s):=
 .of_wp λ prog w A R s h=>by let⟨hp,g,d,tk,os⟩:=s;let⟨hl,h⟩:=h;wp_walk;exact⟨_,rfl,h⟩
theorem sr(a:Int)(t:Tok)(l:δ)(x:ζ)(n:Nat)(dd:ε δ)(sl:Array _)(h0:a=0):
 Meets (Builtin.«tuple.__mul__» ⟨[.ref l,.int a t],[]⟩) (λ _ R s=>s.heap.get? l=AC {cls:=.type "tuple",dict:=dd,data:=.seq #[x] n,slots:=sl}/\R (.ok<|.ret<|.ref s.heap.objs.size) {s with heap:=s.heap.push {cls:=.type "tuple",data:=.seq #[]}}):=
 .of_wp λ prog w A R s h=>by
  let⟨hp,g,d,tk,os⟩:=s;let⟨hl,h⟩:=h;subst h0
  wp_walk
  exact⟨_,rfl,h⟩
theorem sk(a:Int)(t:Tok)(l:δ)(x:ζ)(n:Nat)(dd:ε δ)(sl:Array _)(h0:a=1):
 Meets (Builtin.«tuple.__mul__» ⟨[.ref l,.int a t],[]⟩) (λ _ R s=>s.heap.get? l=AC {cls:=.type "tuple",dict:=dd,data:=.seq #[x] n,slots:=sl}/\R (.ok<|.ret<|.ref l) s):=
 .of_wp λ prog w A R s h=>by
  let⟨hp,g,d,tk,os⟩:=s;let⟨hl,h⟩:=h;subst h0
  wp_walk
  exact⟨_,rfl,h⟩
theorem sj(a:Int)(t:Tok)(l:δ)(x:ζ)(n:Nat)(dd:ε δ)(sl:Array _)(h1:¬(decide (a < -(2^63))||decide (a≥2^63))=Ch)(h2:¬((#[x]).isEmpty||a==1)=Ch)(h3:¬(decide (a<=0)||(#[x]).isEmpty)=Ch)(h4:¬((#[x]).size)*a>(2^63-1) / 8)(h5:¬Tuple.tupleTooMany (((#[x]).size)*a)=Ch)(h6:((Do a.toNat #[x]).foldl (·++·) #[]).size<=sizeLine):
 Meets (Builtin.«tuple.__mul__» ⟨[.ref l,.int a t],[]⟩) (λ _ R s=>s.heap.get? l=AC {cls:=.type "tuple",dict:=dd,data:=.seq #[x] n,slots:=sl}/\R (.ok<|.ret<|.ref s.heap.objs.size) {s with heap:=s.heap.push {cls:=.type "tuple",data:=.seq ((Do a.toNat #[x]).foldl (·++·) #[])}}):=
 .of_wp λ prog w A R s h=>by
  let⟨hp,g,d,tk,os⟩:=s;let⟨hl,h⟩:=h
  wp_walk
  refine B38 (by simpa using h1) ?_
  wp_walk
  refine B38 (by simpa using h2) ?_
  wp_walk
  refine B38 (by simpa using h3) ?_
  wp_walk
  refine B38 (A28 h4) ?_
  wp_walk
  refine B38 (by simpa using h5) ?_
  wp_walk
  exact⟨_,rfl,h⟩
end PySem
namespace ZS
open L2
def UK(K:Da):R2:=λ x y H Q=>∃l k w,x=.ref l/\y=.int k/\nz K H l [w]/\0<=k/\k<=1000000/\(k=1->Q (.ref l) H)/\(k≠1->∀p,H p=At->Q (.ref p) (upd H p<|.tup<|List.replicate k.toNat w))
theorem xv(v:ζ):∀k acc,AC3 (λ x1 x2=>x1++x2) acc (Do k #[v])=acc++(Do k v).toArray
|0,acc=>by simp
|k+1,acc=>by rw[A82,AB6,xv,A82];apply Array.toList_inj.mp;simp
theorem wJ(r:RelV w u):∀k,Vals (Do k w) (Do k u)
|0=>.nil
|k+1=>.cons r<|wJ r k
theorem MJ:jN X (binaryOp .Mult) (UK X.K):=by
 intro χ s σ H x y v u Q I rx ry h;let⟨l,k,w,rfl,rfl,hq,h0,h1,q1,q2⟩:=h;cases rx;let⟨t,rfl⟩:=ry;let⟨bp,r,ht,hz⟩:=I.tuple hq;let⟨x,rfl,rx⟩:=vals1 r;let⟨⟨cls,dd,data,sl⟩,ho,hc,n,hd⟩:=id ht;simp only at hc hd;subst hc hd;have e:=ho;refine C41 ∅ ⟨_,e,rfl⟩ (λ s'=>B23 s' k t) qS F.fills_int_mul B50 yl F.slot_int_index.lookup
 <|A69 B50 (B23 s k t) F.entry_int_rmul (F.args_int_rmul_2 _ _) (lu k t l #[x] n dd sl) ⟨e,rfl,⟨_,e,rfl⟩,?_⟩
 by_cases LD:k=1
 .exact A69 B37 ⟨_,e,rfl⟩ C16 (C17 _ _) (sk k t l x n dd sl LD) ⟨e,⟨.ref l,H,I,rfl,q1 LD⟩⟩
 .by_cases hk0:k=0
  .refine A69 B37 ⟨_,e,rfl⟩ C16 (C17 _ _) (sr k t l x n dd sl hk0) ⟨e,?_⟩;have q:=q2 LD _<|I.bY.fresh<|v4 s.heap.objs.size;rw[hk0]at q;refine⟨.ref _,_,I.laid (λ b ob z=>v6 _ z) (v4 _) ?_,rfl,q⟩;exact⟨A47 _,[],.nil,qp.new _ _⟩
  .skip
   have hf:=xv x k.toNat #[];rw[Array.empty_append]at hf;have hs:(1000000)<=sizeLine:=by decide
   refine A69 B37 ⟨_,e,rfl⟩ C16 (C17 _ _) (sj k t l x n dd sl ?_ ?_ ?_ ?_ ?_ ?_) ⟨e,?_⟩
   .simp;lia
   .simp;lia
   .simp;lia
   .show ¬((1))*k>(2^63-1) / 8;lia
   .show ¬(decide<|((1))*k>(sizeLine))=Ch;rw[B14];have:=Int.ofNat_le.mpr hs;generalize (sizeLine)=z at this ⊢;lia
   .rw[hf,A10,A81];lia
   .rw[hf];refine⟨.ref _,_,I.laid (λ b ob z=>v6 _ z) (v4 _) ?_,rfl,q2 LD _<|I.bY.fresh<|v4 _⟩;exact⟨by rw[A81];lia,_,wJ rx k.toNat,qp.new _ _⟩
theorem _root_.ZQ.Ou(ha:ZQ.QW X a fa)(hb:ZQ.QW X b fb):ZQ.QE X (.BinOp a .Mult b pos) (Z.eB Z.EB fa fb):=⟨PE.imp (Ex MJ ha.p hb.p) <|by
 rintro σ H Q ⟨ρ,d,r,e,k⟩;let⟨x,ea,e⟩:=XV e;let⟨y,eb,e⟩:=XV e;let⟨d0,n,rfl,rfl,h0,h1,rfl⟩:=Z.Jc e;refine⟨ρ,_,r,ea,λ v H1 s1 d1=>⟨ρ,_,r.up s1,eb,λ u H2 s2 d2=>?_⟩⟩;let⟨q,vs,rfl,hq,t⟩:=d1.tup;simp only[aG]at t;let⟨w,r',rfl,dw,rfl⟩:=t;refine⟨q,n,w,rfl,d2.int,?_,h0,h1,λ hn=>?_,λ hn p hp=>?_⟩
 .exact fV (kM s2) hq
 .subst hn;exact k _ H2 (s1.trans s2)<|f? (fV (kM s2) hq)<|aG.cons (dw.up s2) aG.nil
 .have s3:aJ H2 (upd H2 p<|.tup<|List.replicate n.toNat w):=cK hp;exact k _ _ ((s1.trans s2).trans s3)<|f? (nz.of aM)<|u! ((dw.up s2).up s3) _⟩
end ZS
namespace ZQ
open L2 ZS
end ZQ
namespace Z
end Z
namespace ZS
open L2
end ZS
namespace ZQ
open L2 ZS
end ZQ
namespace Z
end Z
namespace ZS
open L2
theorem G'(h:ν)(hb:sysModules<h.objs.size):eF P w H (h.push {cls:=.type "dict",data:=.dict #[]}) h.objs.size (.dK []):=
 ⟨A47 _,A61.mpr<|A07<|A13 hb,[],.nil,Heap.DictOf.new h⟩
theorem JS(I:Inv X χ σ H s)(h:H p=AC (.dK xs)):∃o,Inv X χ σ (upd H p<|.eJ o<|.dK xs) s:=by
 have hk:=I.bY p _ h;let⟨z,y,vs,r,hd⟩:=id hk;obtain⟨o,ho⟩:∃o,s.heap.get? p=AC o:=by let⟨o,es,ep,ho,_⟩:=hd;exact⟨o,ho⟩
 refine⟨o,I.un ?_ ?_⟩
 .have ne:∀b,H b=At->b≠p:=λ b e q=>by rw[q,h]at e;cases e
  refine⟨λ b o q _ _ _=>q,λ b o q _ _ _=>⟨_,q⟩,λ b o q e _=>by rw[aD<|ne b e];exact e,λ b o q _=>⟨o,q⟩,λ b ys e=>?_,λ b o u e=>?_,λ b u pr e=>?_⟩
  .have:b≠p:=by rintro rfl;rw[h]at e;cases e
   rw[aD this];exact e
  .have:b≠p:=by rintro rfl;rw[h]at e;cases e
   rw[aD this];exact e
  .have:b≠p:=by rintro rfl;rw[h]at e;cases e;exact pr
   rw[aD this];exact e
 .intro b u e;by_cases hb:b=p
  .subst hb;rw[aM]at e;cases e;exact⟨ho,z,y,vs,r,hd⟩
  .rw[aD hb]at e;refine(I.bY b u e).pC (λ c w _ q=>q) (λ c q=>?_) (λ c ys q=>?_) λ c v pr q=>?_
   .have:c≠p:=by rintro rfl;rw[h]at q;cases q
    rw[aD this];exact q
   .have:c≠p:=by rintro rfl;rw[h]at q;cases q
    rw[aD this];exact q
   .have:c≠p:=by rintro rfl;rw[h]at q;cases q;exact pr
    rw[aD this];exact q
theorem NO(I:Inv X χ σ H s):sysModules<s.heap.objs.size:=by have h:=(I.mod.glob.keeps I.bk).lt;exact Nat.lt_trans ∅ h
theorem _root_.ZQ.Oy:ZQ.QE X (.Dict [] [] pos) (Z.eC<|.dct [] []):=⟨by
 intro χ s σ H Q I w;let⟨ρ,d,r,e,k⟩:=w;cases e;refine wpAny_Dict_empty ?_;have I1:=
  I.laid (t':=s.toks) (λ _ _ q=>v6 _ q) (v4 _)<|G' _<|NO I
 let⟨o,I2⟩:=JS I1 aM;have hn:=I.bY.fresh<|v4 _;refine⟨.ref _,_,I2,rfl,k _ _ (λ b u e=>?_) ?_⟩
 .have:b≠s.heap.objs.size:=by rintro rfl;rw[hn]at e;cases e
  rw[aD this,aD this];exact e
 .simp only[Den];exact⟨_,o,[],rfl,aM,rfl,aG.nil,λ _ _ z=>nomatch z⟩⟩
end ZS
namespace ZQ
open L2 ZS
end ZQ
namespace PySem
namespace F
end F
end PySem
namespace Z
end Z
namespace PySem
section
variable{prog:ο}{w:ξ}{A:τ}{s:θ}{R:Result->θ->Prop}
variable{I:δ}{fp wr:γ δ}{G:Array GenState->Array GenState->Prop}{n:Nat}{P:Nat->ζ->Prop}{St:Nat->θ->Prop}
end
end PySem
namespace ZS
open L2
section
variable{X:Cx}{a:ι}{pos p p1 p2:Pos}{fa:Z.EF}
end
end ZS
namespace ZQ
open L2 ZS
end ZQ
namespace Z
end Z
namespace ZS
open L2
theorem HM{α:Type}{P:γ α->Prop}(h:P []):∀us:γ α,us.length=0->P us:=λ us e=>C01 e▸h
theorem l9{α:Type}{P:γ α->Prop}{n:Nat}(h:∀a (us:γ α),us.length=n->P (a::us)):∀us:γ α,us.length=n+1->P us:=by
 intro us e;cases us with
 |nil=>cases e
 |cons a t=>exact h a t<|Nat.succ.inj e
theorem bd1{ps:γ Str}(h:∀a0,bindArgs fd ⟨[a0],[]⟩=pure (ps.zip [a0])):∀us,us.length=1->bindArgs fd ⟨us,[]⟩=pure (ps.zip us):=l9 λ a0=>HM<|h a0
theorem SG{ps:γ Str}(h:∀a0 a1,bindArgs fd ⟨[a0,a1],[]⟩=pure (ps.zip [a0,a1])):∀us,us.length=2->bindArgs fd ⟨us,[]⟩=pure (ps.zip us):=l9 λ a0=>l9 λ a1=>HM<|h a0 a1
theorem bd3{ps:γ Str}(h:∀a0 a1 a2,bindArgs fd ⟨[a0,a1,a2],[]⟩=pure (ps.zip [a0,a1,a2])):∀us,us.length=3->bindArgs fd ⟨us,[]⟩=pure (ps.zip us):=l9 λ a0=>l9 λ a1=>l9 λ a2=>HM<|h a0 a1 a2
theorem bd4{ps:γ Str}(h:∀a0 a1 a2 a3,bindArgs fd ⟨[a0,a1,a2,a3],[]⟩=pure (ps.zip [a0,a1,a2,a3])):∀us,us.length=4->bindArgs fd ⟨us,[]⟩=pure (ps.zip us):=l9 λ a0=>l9 λ a1=>l9 λ a2=>l9 λ a3=>HM<|h a0 a1 a2 a3
theorem bd5{ps:γ Str}(h:∀a0 a1 a2 a3 a4,bindArgs fd ⟨[a0,a1,a2,a3,a4],[]⟩=pure (ps.zip [a0,a1,a2,a3,a4])):∀us,us.length=5->bindArgs fd ⟨us,[]⟩=pure (ps.zip us):=l9 λ a0=>l9 λ a1=>l9 λ a2=>l9 λ a3=>l9 λ a4=>HM<|h a0 a1 a2 a3 a4
theorem bd6{ps:γ Str}(h:∀a0 a1 a2 a3 a4 a5,bindArgs fd ⟨[a0,a1,a2,a3,a4,a5],[]⟩=pure (ps.zip [a0,a1,a2,a3,a4,a5])):∀us,us.length=6->bindArgs fd ⟨us,[]⟩=pure (ps.zip us):=l9 λ a0=>l9 λ a1=>l9 λ a2=>l9 λ a3=>l9 λ a4=>l9 λ a5=>HM<|h a0 a1 a2 a3 a4 a5
def aa8(H0 H1:Hp):Hp->Prop:=λ H2=>gU H1 H2/\aJ H0 H2
def tZk(K:Da)(H0:Hp)(f:Z.LF):TI:=λ σ H R=>∃ρ ds,RS K H0 H σ ρ/\f ρ=.ok ds/\∀J H',aJ H H'->Fz K J (aa8 H0 H') ds->R J H'
abbrev DK(X:Cx)(H0:Hp)(tg e:ι)(f:Z.LF):Prop:=PI X tg e<|tZk X.K H0 f
end ZS
namespace ZQ
open L2 ZS
end ZQ
namespace Z
end Z
namespace ZS
open L2
end ZS
namespace ZQ
open L2 ZS
end ZQ
namespace ZS
open L2
section
variable{X:Cx}{a:ι}{pos:Pos}{fa:Z.EF}
end
end ZS
namespace ZQ
open L2 ZS
section
variable{X:Cx}{a:ι}{pos:Pos}{fa:Z.EF}{H0:Hp}
end
end ZQ
namespace Z
end Z
namespace ZS
open L2
section
variable{X:Cx}{H0:Hp}{pos:Pos}
end
end ZS
namespace ZQ
open L2 ZS
section
variable{X:Cx}{H0:Hp}{pos:Pos}
end
end ZQ
namespace Z
end Z
namespace ZS
open L2
theorem WN(h:Z.eV i ρ=.ok d):ρ[i]?=AC (AC<|.val d):=by
 unfold Z.eV at h;split at h
 .rename_i e;cases h;exact e
 .cases h
theorem Sn(hN:X.N.Nodup)(hi:X.N[i]?=AC x)(hx:Loc X.env.scope x)(hr:jN X (inplaceOp op) r)(hz:HC X.K r o)(he:DE X a fa)(hf:X.fn x=Ch\/X.env.scope.names.lookup x=AC .local):
 DS X H0 (.AugAssign (.Name x pos') op a pos) (Z.bc i<|Z.eB o (Z.eV i) fa):=PS.imp (QF hN hi hx he hr hf) <|by
 rintro D σ H ⟨ρ,fl,rs,e,k⟩;let⟨d,ea,e⟩:=XV e;cases e;let⟨dx,e1,ea⟩:=XV ea;let⟨dy,e2,ea⟩:=XV ea;let⟨v,si,dv⟩:=rs.re.get i _ (WN e1);refine⟨v,si,ρ,dy,rs.re,e2,λ y H1 s1 dy1=>?_⟩;exact hz v y dx dy d H1 _ (.inl<|Den.up dv s1) (.inl dy1) ea λ z H2 s2 dz=>k _ H2 (kM<|s1.trans s2)<|(rs.up<|s1.trans s2).vN dz
theorem JR:jN X (inplaceOp .Mult) (rI Lp λ i j=>.int<|i*j):=U2 λ _ _ _ _ _ _ _ hc q=>imul_int q hc
theorem Q1{K:Da}:HC K (rI Lp λ i j=>.int<|i*j) Z.fT:=pI λ dx dy d e=>by
 unfold Z.fT at e;split at e
 .unfold Z.guard at e;split at e
  .rename_i h;cases e;exact⟨_,_,rfl,rfl,uv h,rfl⟩
  .cases e
 .cases e
end ZS
namespace ZQ
open L2 ZS
theorem Om(hN:X.N.Nodup)(hi:X.N[i]?=AC x)(hx:Loc X.env.scope x)(he:QE X a fa)(hf:Fl X x:=by trivial):
 QS X H0 (.AugAssign (.Name x pos') .Mult a pos) (Z.bc i<|Z.eB Z.fT (Z.eV i) fa):=⟨ZS.Sn hN hi hx JR Q1 he.p hf⟩
end ZQ
namespace ZMx
section
variable{St:Nat->ν->Prop}
end
section
variable{St:Nat->ν->Prop}
end
end ZMx
namespace ZS
open L2
section
variable{X:Cx}
end
end ZS
namespace ZQ
open L2 ZS
end ZQ
namespace ZS
open L2
end ZS
namespace ZQ
open L2 ZS
end ZQ
namespace Z
def vY(e:EF)(ρ:Env)(d:D):Res Int:=(e<|some (.val d)::ρ).bind λ y=>match y with
|.int k=>.ok k
|_=>.bad
theorem NB(h:vY e ρ d=.ok k):e (AC (.val d)::ρ)=.ok (.int k):=by
 let⟨y,e1,e2⟩:=Res.au h;split at e2
 .cases e2;exact e1
 .cases e2
theorem JL(h:e (AC (.val d)::ρ)=.ok (.int k)):vY e ρ d=.ok k:=by unfold vY;rw[h];rfl
def TZ(mx:Bool)(k kb:Int):Bool:=if mx=Ch then decide (k>kb)else decide (k<kb)
def Kc(mx:Bool)(e:D->Res Int)(b:D)(kb:Int):γ D->Res D
|[]=>.ok b
|d::r=>(e d).bind λ k=>if TZ mx k kb=Ch then Kc mx e d k r else Kc mx e b kb r
def pickK(mx:Bool)(z:Res D)(e:D->Res Int):γ D->Res D
|[]=>z
|d::r=>(e d).bind λ k=>Kc mx e d k r
def yZ(mx:Bool)(z:Res D)(a:EF)(is:γ Nat)(e:EF)(ρ:Env):Res D:=(a ρ).bind λ x=>match x with
|.lst ds=>pickK mx z (vY e<|fF ρ is) ds
|_=>.bad
end Z
namespace ZS
open L2 PySem.W
theorem Off.Rh(o:Off X χ H C)(ok:X.Ok):C∉X.fs:=λ hb=>by let⟨_,ob,ho,_⟩:=ok.mG.mem hb;exact absurd (A18 (A00 ho) o.new)<|A89 _
theorem Off.Vk(o:Off X χ H C)(I:Inv X χ σ H s):C∉uM X.stack:=λ hb=>by
 rcases A02.mp (I.qG C hb)with z|z
 .exact o.loc z
 .exact o.Rh I.ok z
theorem Off.up(o:Off X χ H C)(h:H' C=At):Off X χ H' C:=⟨h,o.loc,o.new,o.cell,o.pin⟩
theorem Off.fresh(I:Inv X χ σ H s)(hC:s.heap.objs.size<=C)(h:H' C=At):Off X χ H' C where
 free:=h
 loc:=A42<|A18 I.lt hC
 new:=A15 I.sz hC
 cell:=λ x c e=>by let⟨v,o,ho,_⟩:=I.cell x c e;exact A13<|A18 (A00 ho) hC
 pin:=λ p hp=>A13<|A18 (A00 (I.pin p hp).1) hC
theorem Ha{pos q:Pos}(l:γ ζ)(h:TriplesOk l)(e:codeAmong q (l++[rawInt pos.line,rawInt pos.col,c])=AC cv):codeAmong q l=AC cv\/cv=c:=by
 fun_induction TriplesOk l with
 |case1=>
  simp only[B96,codeAmong,rawInt]at e;split at e
  .cases e;exact .inr rfl
  .cases e
 |case2 a t b u x rest ih=>
  simp only[C07,codeAmong]at e ⊢;split at e
  .rename_i hc;rw[M2 hc];exact .inl e
  .rename_i hc;rw[W1 hc];exact ih h e
 |case3 l h1 h2=>exact h.elim
structure Fy(X:Cx)(χ:List (Addr×Obj))(q:Str)(params:Arguments)(body:Expr)(scope:Scope)(cl:List (Str×Addr))(H:Hp)(s:Shared)(f c':Addr)(pm rZ:Value):Prop where
 off:Off X χ H f
 obj:s.heap.get? f=AC (kla_obj "<lambda>" q params body scope cl pm c' rZ)
 code:H c'=AC (.LL q)
theorem AV(hx:x∈dM)(ht:tabIn X.K x=AC (c,P))(PJ:X.env.code=.ref c)(hq:X.env.qual++ "<lambda>"=jK x)
 (yO:defaultsOf params X.env=([],[])) (kN:closureFor scope X.env=pure cl) (I:Inv X χ σ H s) :
 EQ (model X.prog X.w) X.A (eval (.Lambda params body scope pos) X.env) (λ r s'=>∃f c' pm rZ H',r=.ref f/\Inv X χ σ H' s'/\aJ H H'/\Fy X χ (jK x) params body scope cl H' s' f c' pm rZ) X.xe s:=by
 refine kla_eval yO ?_;rw[hq];let⟨hT,hC,bm,ob,b1,b2,b3,b4,b5,b6⟩:=I.tab x hx c P ht;let⟨ps,g,Xx,am⟩:=I.bY P _ hT;have Yx:=I.mod.glob.keeps I.bk;have P6:∀b o,X.base.get? b=AC o->b≠P:=λ b o e z=>by have:=(I.bs b o e).2;rw[z,hT]at this;cases this
 have hgP:mainGlobals≠P:=by let⟨o,es,ep,e,_⟩:=I.mod.glob;exact P6 _ _ e
 have hbG:bm≠mainGlobals:=λ z=>by let⟨o,es,ep,e,hd,_⟩:=I.mod.glob;rw[z,e]at b3;cases b3;rw[hd]at b6;cases b6
 have hB:s.heap.BuiltinsAt X.mg P:=⟨bm,ob,b1,b2,hbG,P6 _ _ b3,I.bk _ _ b3,b4,b5,b6⟩
 cases hf:codeAmong pos ps.toList with
 | some cv=>let⟨c',rfl,vD⟩:=am pos cv hf;refine kla_makeFunctionHit (mg:=X.mg) kN I.ok.glob Yx PJ (hC.keeps I.bk) g Xx hf hB λ rZ h' tk hk C8=>?_;have I':Inv X χ σ H {s with heap:=h'.push<|kla_obj "<lambda>" (jK x) params body scope cl ((X.mg "__name__").getD .none) c' rZ,toks:=tk}:=I.kept λ b u e=>v6 _<|hk b u e;exact⟨_,c',_,rZ,H,rfl,I',aJ.refl H,⟨Off.fresh I C8<|I.bY.fresh C8,A14 _ rfl,vD⟩⟩
 |none=>
  refine kla_makeFunction (mg:=X.mg) kN I.ok.glob Yx PJ (hC.keeps I.bk) g Xx hf hgP hB λ c' rZ h' tk Hu Yz kF RP htb=>?_;have hn:H c'=At:=I.bY.fresh Yz;have kp:∀b o,b≠P->s.heap.get? b=AC o->(h'.push<|kla_obj "<lambda>" (jK x) params body scope cl ((X.mg "__name__").getD .none) c' rZ).get? b=AC o:=λ b o hb e=>v6 _<|Hu b o hb e;have _b:∀b,H b=At->b≠P:=λ b e z=>by rw[z,hT]at e;cases e
  have Rk:∀b u,H b=AC u->b≠c':=λ b u e=>bh e hn;have ltc:∀b o,s.heap.get? b=AC o->b≠c':=λ b o e=>A13<|A18 (A00 e) Yz;have hP:(h'.push<|kla_obj "<lambda>" (jK x) params body scope cl ((X.mg "__name__").getD .none) c' rZ).get? P=AC (tabObj<|ps++#[rawInt pos.line,rawInt pos.col,.ref c']):=v6 _ htb;have un:Un X.fs [] H (upd H c'<|.LL<|jK x) s.heap (h'.push<|kla_obj "<lambda>" (jK x) params body scope cl ((X.mg "__name__").getD .none) c' rZ):=by
   refine⟨λ b o e n _ _=>kp b o (_b b n) e,λ b o e n _ _=>⟨o.slots,kp b o (_b b n) e⟩,λ b o e n _=>by rw[aD<|ltc b o e];exact n,λ b o e _=>?_,λ b xs e=>by rw[aD<|Rk _ _ e];exact e,λ b o u e=>by rw[aD<|Rk _ _ e];exact e,λ b u _ e=>by rw[aD<|Rk _ _ e];exact e⟩;by_cases hb:b=P
   .exact⟨_,hb▸hP⟩
   .exact⟨o,kp b o hb e⟩
  have bY:l0 X.prog X.w (upd H c'<|.LL<|jK x) (h'.push<|kla_obj "<lambda>" (jK x) params body scope cl ((X.mg "__name__").getD .none) c' rZ):=λ b u e=>by
   by_cases hb:b=c'
   .subst hb;rw[aM]at e;cases e;let⟨c2,oc,vs,t,e2,Yt,r⟩:=RP;cases e2;exact⟨_,oc,vs,t,rfl,v6 _ Yt,r⟩
   .rw[aD hb]at e;by_cases hbP:b=P
    .subst hbP;rw[hT]at e;cases e;refine⟨_,hP,by rw[io];exact TriplesOk_snoc _ _ _ _ Xx,λ p cv e2=>?_⟩;rw[io]at e2;rcases Ha _ Xx e2 with z|rfl
     .let⟨c2,e3,e4⟩:=am p cv z;exact⟨c2,e3,by rw[aD<|Rk _ _ e4];exact e4⟩
     .exact⟨c',rfl,aM⟩
    .refine(I.bY b u e).pC (λ b2 v hc q=>kp b2 v ?_ q) (λ b2 q=>by rw[aD<|Rk _ _ q];exact q) (λ b2 xs q=>by rw[aD<|Rk _ _ q];exact q) λ b2 v _ q=>by rw[aD<|Rk _ _ q];exact q
     rcases hc with rfl|hc
     .exact hbP
     .exact Pq hc hT λ z=>nomatch z
  have We:(upd H c'<|.LL<|jK x) h'.objs.size=At:=by rw[aD<|A42 kF];exact I.bY.fresh<|A78<|Nat.lt_of_le_of_lt Yz kF
  exact⟨_,c',_,rZ,_,rfl,I.un (t':=tk) un bY,cK hn,⟨Off.fresh I (A78<|Nat.lt_of_le_of_lt Yz kF) We,A14 _ rfl,aM⟩⟩
abbrev CW(X:Cx)(N':γ Str)(q:Str)(scope:ς)(cl:γ (Str×δ))(f c':δ)(s₂:θ)(H₂:Hp):Cx:=
 {prog:=X.prog,w:=X.w,K:=X.K,mg:=X.mg,base:=X.base,A:=X.A.in1.deeper<|envX q scope s₂.heap.objs.size f (.ref c') cl,N:=N',s₀:=s₂,H₀:=H₂,env:=envX q scope s₂.heap.objs.size f (.ref c') cl,outer:=X.stack,stack:=envX q scope s₂.heap.objs.size f (.ref c') cl::X.stack,ex:=[],fn:=λ _=>AT,calm:=Ch,pn:=[],xe:=λ _ _=>False}
theorem Qy{K:Da}(h:RE K H σ ρ)(hd:Den K H d v):RE K H (AC v::oz σ 0 is) (AC (.val d)::Z.fF ρ is):=by
 have R:=IC (n:=0) (is:=is) h<|aJ.refl H;refine⟨by simp[oz,Z.fF],λ i l e=>?_,λ i j xs ys a e1=>?_⟩
 .cases i with
  |zero=>simp only[C50,A98]at e;subst e;exact⟨v,rfl,hd⟩
  |succ i=>let⟨u,h1,h2⟩:=R.re.get i l (by simpa using e);exact⟨u,by simpa using h1,h2⟩
 .cases i with
  |zero=>simp at e1
  |succ i=>exact absurd (by simpa using e1)<|gv 0 is ρ i xs
theorem AW(du:X.calm=Ch)(pX:X.A.in1.depth<recursionLimit)(B:vv X.N N' 1 is scope X.env.scope)(LB:N'[0]?=AC x)(yN:scope.isGenerator=AT)(J7:scope.isCoroutine=AT)
 (mF:∀u,bindArgs (kla_fn "<lambda>" q params body scope cl pm (.ref c') rZ) ⟨[u],[]⟩=pure [(x,u)])
 (jL:∀x c,cl.lookup x=AC c->X.env.cells.lookup x=AC c) (uH:∀y∈scope.names,y.2=.free->(cl.lookup y.1).isSome=Ch)
 (he:∀cl f c' s H,DE (CW X N' q scope cl f c' s H) body fe)
 (L:Fy X χ q params body scope cl H s f c' pm rZ) (I:Inv X χ σ H s) (re:RE X.K H σ ρ) (rv:RelV v u) (dv:Den X.K H d v) (ek:Z.vY fe (Z.fF ρ is) d=.ok k) :
 EQ (model X.prog X.w) X.A.in1 (call (.ref f) [u]) (λ r s'=>∃t H',r=.int k t/\aJ H H'/\Un (uM X.stack) [] H H' s.heap s'.heap/\l0 X.prog X.w H' s'.heap/\AllBare s'.gens/\s'.os=s.os) E s:=by
 have RP:=I.bY c' _ L.code;let⟨x0,VZ,hxl⟩:=B.own 0 (Nat.zero_lt_one);rw[LB]at VZ;cases VZ;refine A91<|kla_callFunE pX L.obj rfl J7 yN rfl RP ?_;rw[mF];refine P3<|wpAny_newFunctionEnv B.cell (λ y hy=>by rw[A21.mp hy];exact hxl) (λ h₁ JY _C=>⟨I.nolimit.fresh _ _C,?_⟩) B.kind;show codeAny _ _ (.expr body<|envX q scope s.heap.objs.size f (.ref c') cl) _ _;have old:=λ b o e=>_C.extBut b o (A13<|A00 e)<|v6 _ e;have RZ:=I.bY.fresh<|v4 _;have ok:(CW X N' q scope cl f c' s H).Ok:=by
  refine⟨I.ok.mod,B.kind,rfl,rfl,v4 _,λ x y c e1 e2=>I.ok.inj x y c (jL x c e1)<|jL y c e2,λ y hy=>?_,λ y c hf=>(by cases hf),λ _=>I.ok.hd du,Around.frames_deeper I.ok.frames,.inr ⟨rfl,rfl⟩,
   λ b hb=>absurd (show b∈([]:γ δ)from hb) ∅,I.bs,A15 I.ok.HB I.sz,λ b o _ hb=>absurd (show b∈([]:γ δ)from hb) ∅,λ b hb=>absurd (show b∈([]:γ δ)from hb) ∅,I.stack,I.sP⟩
  have JV:=hy;rcases JV with z|z
  .exact absurd rfl<|B.cell _<|A67 z
  .exact A75.mp<|uH _ (A67 z) rfl
 have vb:∀x c,X.env.cells.lookup x=AC c->c<s.heap.objs.size/\∀v,s.heap.IsCell c v->h₁.IsCell c v:=λ x c e=>by let⟨v,o,ho,hd⟩:=I.cell x c e;exact⟨A00 ho,by rintro v' ⟨o',pY,o!⟩;exact⟨o',old c o' pY,o!⟩⟩
 have I4:Inv (CW X N' q scope cl f c' s H) [] (AC v::oz σ 0 is) H {s with heap:=h₁,toks:=s.toks + [(x,u)].length}:=by
  refine⟨ok,rfl,I.bare,Un.kept old,⟨_,JY,λ i y w e1 e2 e3=>?_⟩,λ y c e=>?_,RZ,λ y c e=>I.g0 y c<|jL y c e,λ p hp=>absurd (show p∈([]:γ (δ×μ))from hp) ∅,I.bY.kept old,?_,I.tab⟩
  .cases i with
   |zero=>have PV:=e1;rw[LB]at PV;cases PV;simp only[C50,A98]at e2;subst e2;refine⟨u,rv,.inl ⟨hxl,?_⟩⟩;simp
   |succ i=>
    have LK:(oz σ 0 is)[i]?=AC (AC w):=by simpa using e2
    unfold oz at LK;simp only[List.replicate_zero,B96,A06]at LK;cases r:is[i]? with
    |none=>rw[r]at LK;cases LK
    |some j=>
     rw[r]at LK;simp only[A54]at LK;let⟨x',c1,c2,c3⟩:=B.cap i j r;have PV:=e1;rw[show i+1=1+i from A92 _ _,c1]at PV;cases PV;have hσ:σ[j]?=AC (AC w):=by
      cases r2:σ[j]? with
      |none=>rw[r2]at LK;cases LK
      |some z=>
       rw[r2]at LK;have:z=AC w:=by simpa using LK
       rw[this]
     let⟨m,hn,hl⟩:=I.loc;have hm:=A67 c3;have hk:=B.free _ hm rfl;have RJ:Hl X.env.scope y:=by
      rcases hk with k|k
      .exact .inr<|.inl k
      .exact .inr<|.inr k
     let⟨u',ru,lk⟩:=hl j y w c2 hσ RJ;refine⟨u',ru,?_⟩;rcases lk with⟨k1,_⟩|⟨k1,c,hc,rT⟩
     .have NC:X.env.scope.names.lookup y=AC .local:=k1;rcases hk with k|k
      .rw[k]at NC;cases NC
      .rw[k]at NC;cases NC
     .let⟨TX,vD⟩:=A75.mp (uH _ hm rfl);have:TX=c:=by have:=jL y TX vD;rw[hc]at this;exact(A04 this).symm
      subst this;exact .inr ⟨.inr c3,TX,vD,(vb y TX hc).2 _ rT⟩
  .let⟨v',hv⟩:=I.cell y c (jL y c e);exact⟨v',(vb y c<|jL y c e).2 v' hv⟩
  .have:=B.len;simp[oz,this,A92]
 refine kla_codeExpr<|A19 (he cl f c' s H [] _ _ H (λ v' H'=>aJ H H'/\v'=.int k) I4 ⟨_,_,Qy re dv,Z.NB ek,λ v' H' s' d'=>⟨s',by simpa only[Den]using d'⟩⟩) (λ r s' hq=>?_) λ e s' hq=>hq.elim;let⟨v',H',J,rv',sm,rfl⟩:=hq;let⟨t,rfl⟩:=rv';exact⟨t,H',rfl,sm,J.base,J.bY,J.bare,J.os⟩
abbrev held(b:ζ)(k:ζ)(c:Nat):μ:={cls:=.type "list",data:=.seq #[b,k] c}
structure KLp(X:Cx)(χ:List (Addr×Obj))(σ:St)(H₀:Hp)(l I S:Addr)(vs:List V)(H:Hp)(s:Shared)(j i:Nat)(kb:Int):Prop where
 inv:Inv X χ σ H s
 sm:aJ H₀ H
 it:s.heap.IsListIter I l j
 Ge:Off X χ H I
 sC:Off X χ H S
 best:∃b v tb c,vs[i]?=AC v/\RelV v b/\s.heap.get? S=AC (held b (.int kb tb) c)
theorem pT(du:X.calm=Ch)(I1:Inv X χ σ H s)(hq:jE X.K H l vs)(it:s.heap.IsListIter I l j)(oI:Off X χ H I)(hj:j<vs.length)
 (h:∀u v h' tk,vs[j]?=AC v->RelV v u->Inv X χ σ H {s with heap:=h',toks:=tk}->h'.IsListIter I l (j+1)->(∀b o,b≠I->s.heap.get? b=AC o->h'.get? b=AC o)->Q (AC u) {s with heap:=h',toks:=tk}) :
 EQ (model X.prog X.w) X.A.in1 (pyNext<|.ref I) Q E s:=by
 let⟨bp,rv,pl,hz⟩:=I1.list hq;have hl:=rv.length;have hh:=I1.ok.hd du;have qv:l≠I:=by rintro rfl;let⟨o,e,hc,_⟩:=pl.isList;let⟨o2,e2,vC,_⟩:=it;rw[e]at e2;cases e2;rw[hc]at vC;exact absurd (Value.type.inj vC) ∅
 have W:=Walks.list (prog:=X.prog) (w:=X.w) (A:=X.A.in1) hh I l qv bp.toArray;refine W.item j s Q E (by rw[A10,<-hl];exact hj) ⟨it,pl.isList⟩ λ u h' tk pv st k1=>?_;have hv:bp[j]?=AC u:=by simpa using pv
 obtain⟨v,Ts⟩:∃v,vs[j]?=AC v:=⟨vs[j],by simp[hj]⟩
 let⟨u',Tt,rvu⟩:=rv.get Ts;rw[hv]at Tt;cases Tt;have kp:=λ b o hb e=>k1 b o (by simpa using hb) e;exact h u v h' tk Ts rvu (I1.turned kp oI.free oI.loc (.inr oI.new) oI.cell oI.pin) st.1 kp
theorem uA(du:X.calm=Ch)(I1:Inv X χ σ H s)(hq:jE X.K H l vs)(it:s.heap.IsListIter I l j)(oI:Off X χ H I)(hj:j=vs.length)
 (h:∀h' tk,Inv X χ σ H {s with heap:=h',toks:=tk}->(∀b o,b≠I->s.heap.get? b=AC o->h'.get? b=AC o)->Q At {s with heap:=h',toks:=tk}) :
 EQ (model X.prog X.w) X.A.in1 (pyNext<|.ref I) Q E s:=by
 let⟨bp,rv,pl,hz⟩:=I1.list hq;have hl:=rv.length;have hh:=I1.ok.hd du;have qv:l≠I:=by rintro rfl;let⟨o,e,hc,_⟩:=pl.isList;let⟨o2,e2,vC,_⟩:=it;rw[e]at e2;cases e2;rw[hc]at vC;exact absurd (Value.type.inj vC) ∅
 have W:=Walks.list (prog:=X.prog) (w:=X.w) (A:=X.A.in1) hh I l qv bp.toArray;refine W.done s Q E ⟨by rw[A10,<-hl,<-hj];exact it,pl.isList⟩ λ h' tk k1=>?_;have kp:=λ b o hb e=>k1 b o (by simpa using hb) e;exact h h' tk (I1.turned kp oI.free oI.loc (.inr oI.new) oI.cell oI.pin) kp
def BL(X:Cx)(χ:γ (δ×μ))(σ:St)(H₀:Hp)(f:δ)(St:Hp->θ->Prop)(e:Z.D->Z.Res Int):Prop:=
 ∀(H:Hp)(s:θ)(u:ζ)(v:V)(d:Z.D)(k:Int),Inv X χ σ H s->aJ H₀ H->St H s->RelV v u->Den X.K H d v->e d=.ok k ->
  EQ (model X.prog X.w) X.A.in1 (call (.ref f) [u]) (λ r s'=>∃t H',r=.int k t/\aJ H H'/\Un (uM X.stack) [] H H' s.heap s'.heap/\l0 X.prog X.w H' s'.heap/\AllBare s'.gens/\s'.os=s.os) (λ _ _=>False) s
structure Lj(X:Cx)(χ:List (Addr×Obj))(σ:St)(f:Addr)(St:Hp->Shared->Prop):Prop where
 off:∀H s,St H s->Off X χ H f
 un:∀H H' s s',Inv X χ σ H s->St H s->aJ H H'->H' f=At->(∀o,s.heap.get? f=AC o->s'.heap.get? f=AC o)->St H' s'
section
variable{St:Hp->θ->Prop}
theorem HP(h:Q (.bool<|decide<|k>kb) s):EQ (model prog w) A (richCompare .Gt (.int k t)<|.int kb tb) Q E s:=
 CmpOf.ints_gt (λ i=>if i=0 then k else kb) (λ i v h=>h) 0 1 _ _ _ _ _ ⟨t,rfl⟩ ⟨tb,rfl⟩ h
theorem FT(h:Q (.bool<|decide<|k<kb) s):EQ (model prog w) A (richCompare .Lt (.int k t)<|.int kb tb) Q E s:=
 CmpOf.ints_lt (λ i=>if i=0 then k else kb) (λ i v h=>h) 0 1 _ _ _ _ _ ⟨t,rfl⟩ ⟨tb,rfl⟩ h
theorem sW(KO:BL X χ σ H₀ f St e)(SY:Lj X χ σ f St)(Iv:Inv X χ σ H s)(sm:aJ H₀ H)(st:St H s)(rv:RelV v u)(dv:Den X.K H d v)(ek:e d=.ok k)
 (oI:Off X χ H I) (oS:Off X χ H S){oi os:μ}(gI:s.heap.get? I=AC oi) (gS:s.heap.get? S=AC os) (gf:∃o,s.heap.get? f=AC o)
 (h:∀t H' s',Inv X χ σ H' s'->aJ H H'->St H' s'->Off X χ H' I->Off X χ H' S->s'.heap.get? I=AC oi->s'.heap.get? S=AC os->(∃o,s'.heap.get? f=AC o)->Q (.int k t) s') :
 EQ (model X.prog X.w) X.A.in1 (call (.ref f) [u]) Q E s:=by
 refine A19 (KO H s u v d k Iv sm st rv dv ek) (λ x s' hq=>?_) λ _ _ z=>z.elim;let⟨t,H',rfl,S8,un,bY,bare,Z2⟩:=hq;have Iv':=Iv.K7 Z2 un bY bare λ b hb=>absurd hb ∅;have of:=SY.off H s st;have kp:∀{b}{o},Off X χ H b->s.heap.get? b=AC o->s'.heap.get? b=AC o/\H' b=At:=λ {b o} ob e=>⟨un.keep b o e ob.free (ob.Vk Iv) ∅,un.free b o e ob.free ∅⟩
 let⟨fo,gf⟩:=gf;exact h t H' s' Iv' S8 (SY.un H H' s s' Iv st S8 (kp of gf).2 λ o e=>(kp of e).1) (oI.up (kp oI gI).2) (oS.up (kp oS gS).2) (kp oI gI).1 (kp oS gS).1 ⟨fo,(kp of gf).1⟩
theorem C0(du:X.calm=Ch)(KO:BL X χ σ H₀ f St e)(SY:Lj X χ σ f St)(yP:S≠I)(Dc:f≠I)(C_:f≠S)(hl:jE X.K H₀ l vs)(dn:aG X.K H₀ ds vs)
 (fin:∀H s u v,Inv X χ σ H s->aJ H₀ H->RelV v u->Den X.K H r v->R (.ok<|.ret u) s) :
 ∀n j i H s kb db,ds.length=j+n->ds[i]?=AC db->Z.Kc Ch e db kb (ds.drop j)=.ok r->KLp X χ σ H₀ l I S vs H s j i kb->St H s->(∃o,s.heap.get? f=AC o) ->
  codeAny (model X.prog X.w) X.A (.builtin "max.loop" ⟨[.ref I,.ref f,.ref S],kw⟩) R s:=by
 have nm:(toString "max"++toString ".loop")="max.loop":=by decide
 have ψ:=dn.length;intro n
 induction n with
 |zero=>
  intro j i H s kb db hn gQ eg L st gf;let⟨b,v,tb,c,hv,rb,gS⟩:=L.best;refine B15 C18 ?_;rw[B16 A99 _];refine T0<|A46 gS rfl<|T0<|A55<|uA du L.inv (L.sm.seq hl) L.it L.Ge ∅ λ h1 t1 I1 k1=>?_;have g1:=k1 S _ yP gS;refine T0<|B17 g1 rfl<|T0<|A64<|P3 ?_;have hr:db=r:=by rw[B36 ∅]at eg;unfold Z.Kc at eg;cases eg;rfl
  subst hr;let⟨v',yK,dv⟩:=dn.get gQ;rw[hv]at yK;cases yK;exact fin H _ b v (I1.turned (t':=t1) (λ b o hb e=>(A63 _ _<|A07 hb).trans e) L.sC.free L.sC.loc (.inr L.sC.new) L.sC.cell L.sC.pin) L.sm rb<|dv.up L.sm
 |succ n ih=>
  intro j i H s kb db hn gQ eg L st gf;let⟨b,v,tb,c,hv,rb,gS⟩:=L.best;have hj:j<ds.length:=by lia
  obtain⟨dj,N2⟩:∃d,ds[j]?=AC d:=⟨ds[j],by simp[hj]⟩
  have pZ:ds.drop j=dj::ds.drop (j+1):=by
   rw[A84 hj];have:ds[j]=dj:=by have:=A01 hj;rw[this]at N2;exact A04 N2
   rw[this]
  rw[pZ]at eg;unfold Z.Kc at eg;let⟨k,ek,eg⟩:=XV eg;refine B15 C18 ?_;rw[B16 A99 _];refine T0<|A46 gS rfl<|T0<|A55<|pT du L.inv (L.sm.seq hl) L.it L.Ge ∅ λ u v1 h1 t1 GL Iq I1 Ht k1=>?_;have g1:=k1 S _ yP gS;let⟨oI,gI,rI⟩:=id Ht;let⟨of,gf⟩:=gf;have N7:=k1 f _ Dc gf;let⟨v',yK,dv⟩:=dn.get N2;rw[GL]at yK;cases yK;have Ef:St H {s with heap:=h1,toks:=t1}:=SY.un H H s _ L.inv st (aJ.refl H) (SY.off H s st).free λ o e=>k1 f o Dc e;refine T0<|A55<|A38<|sW KO SY I1 L.sm Ef Iq (dv.up L.sm) ek L.Ge L.sC gI g1 ⟨of,N7⟩ λ t2 H2 s2 I2 vw BQ Vd CJ N9 R_ Wu=>?_;refine T0<|A55<|A38<|T0<|HP<|T0<|A38<|A58<|T0<|A64<|P3 ?_;have Ij:=L.sm.trans vw;have BU:s2.heap.IsListIter I l (j+1):=⟨oI,N9,rI⟩
  by_cases hb:k>kb
  .simp only[hb,decide_true,A25];refine T0<|B17 R_ rfl<|T0<|A64 ?_;rw[nm];rw[M2 (by unfold Z.TZ;simpa using hb)]at eg;have kp:∀b o,b≠S->s2.heap.get? b=AC o->(s2.heap.update S<|Obj.mapSeq λ _=>#[u,.int k t2]).get? b=AC o:=λ b o hb e=>(A63 _ _<|A07 hb).trans e;have I3:=I2.turned (t':=s2.toks) kp CJ.free CJ.loc (.inr CJ.new) CJ.cell CJ.pin;refine P3 ⟨A87 A99 _,ih (j+1) j H2 _ k dj ∅ N2 eg ⟨I3,Ij,⟨oI,kp I _ (A07 yP) N9,rI⟩,Vd,CJ,u,v1,t2,_,GL,Iq,A85 _ R_ rfl⟩ (SY.un H2 H2 s2 _ I2 BQ (aJ.refl H2) (SY.off H2 s2 BQ).free λ o e=>kp f o C_ e)<|let ⟨o,e⟩:=Wu;⟨o,kp f o C_ e⟩⟩
  .simp only[hb,decide_false,A45,A60];refine T0<|A64 ?_;rw[nm];rw[W1 (by unfold Z.TZ;simpa using hb)]at eg;exact P3 ⟨A87 A99 _,ih (j+1) i H2 s2 kb db ∅ gQ eg ⟨I2,Ij,BU,Vd,CJ,b,v,tb,c,hv,rb,R_⟩ BQ Wu⟩
theorem CZ(du:X.calm=Ch)(KO:BL X χ σ H₀ f St e)(SY:Lj X χ σ f St)(yP:S≠I)(Dc:f≠I)(C_:f≠S)(hl:jE X.K H₀ l vs)(dn:aG X.K H₀ ds vs)
 (fin:∀H s u v,Inv X χ σ H s->aJ H₀ H->RelV v u->Den X.K H r v->R (.ok<|.ret u) s) :
 ∀n j i H s kb db,ds.length=j+n->ds[i]?=AC db->Z.Kc AT e db kb (ds.drop j)=.ok r->KLp X χ σ H₀ l I S vs H s j i kb->St H s->(∃o,s.heap.get? f=AC o) ->
  codeAny (model X.prog X.w) X.A (.builtin "min.loop" ⟨[.ref I,.ref f,.ref S],kw⟩) R s:=by
 have nm:(toString "min"++toString ".loop")="min.loop":=by decide
 have ψ:=dn.length;intro n
 induction n with
 |zero=>
  intro j i H s kb db hn gQ eg L st gf;let⟨b,v,tb,c,hv,rb,gS⟩:=L.best;refine B15 C19 ?_;rw[B16 B00 _];refine T0<|A46 gS rfl<|T0<|A55<|uA du L.inv (L.sm.seq hl) L.it L.Ge ∅ λ h1 t1 I1 k1=>?_;have g1:=k1 S _ yP gS;refine T0<|B17 g1 rfl<|T0<|A64<|P3 ?_;have hr:db=r:=by rw[B36 ∅]at eg;unfold Z.Kc at eg;cases eg;rfl
  subst hr;let⟨v',yK,dv⟩:=dn.get gQ;rw[hv]at yK;cases yK;exact fin H _ b v (I1.turned (λ b o hb e=>(A63 _ _<|A07 hb).trans e) L.sC.free L.sC.loc (.inr L.sC.new) L.sC.cell L.sC.pin) L.sm rb<|dv.up L.sm
 |succ n ih=>
  intro j i H s kb db hn gQ eg L st gf;let⟨b,v,tb,c,hv,rb,gS⟩:=L.best;have hj:j<ds.length:=by lia
  obtain⟨dj,N2⟩:∃d,ds[j]?=AC d:=⟨ds[j],by simp[hj]⟩
  have pZ:ds.drop j=dj::ds.drop (j+1):=by
   rw[A84 hj];have:ds[j]=dj:=by have:=A01 hj;rw[this]at N2;exact A04 N2
   rw[this]
  rw[pZ]at eg;unfold Z.Kc at eg;let⟨k,ek,eg⟩:=XV eg;refine B15 C19 ?_;rw[B16 B00 _];refine T0<|A46 gS rfl<|T0<|A55<|pT du L.inv (L.sm.seq hl) L.it L.Ge ∅ λ u v1 h1 t1 GL Iq I1 Ht k1=>?_;have g1:=k1 S _ yP gS;let⟨oI,gI,rI⟩:=id Ht;let⟨of,gf⟩:=gf;have N7:=k1 f _ Dc gf;let⟨v',yK,dv⟩:=dn.get N2;rw[GL]at yK;cases yK;have Ef:St H {s with heap:=h1,toks:=t1}:=SY.un H H s _ L.inv st (aJ.refl H) (SY.off H s st).free λ o e=>k1 f o Dc e;refine T0<|A55<|A38<|sW KO SY I1 L.sm Ef Iq (dv.up L.sm) ek L.Ge L.sC gI g1 ⟨of,N7⟩ λ t2 H2 s2 I2 vw BQ Vd CJ N9 R_ Wu=>?_;refine T0<|A55<|A38<|T0<|FT<|T0<|A38<|A58<|T0<|A64<|P3 ?_;have Ij:=L.sm.trans vw;have BU:s2.heap.IsListIter I l (j+1):=⟨oI,N9,rI⟩
  by_cases hb:k<kb
  .simp only[hb,decide_true,A25];refine T0<|B17 R_ rfl<|T0<|A64 ?_;rw[nm];rw[M2 (by unfold Z.TZ;simpa using hb)]at eg;have kp:∀b o,b≠S->s2.heap.get? b=AC o->(s2.heap.update S<|Obj.mapSeq λ _=>#[u,.int k t2]).get? b=AC o:=λ b o hb e=>(A63 _ _<|A07 hb).trans e;have I3:=I2.turned (t':=s2.toks) kp CJ.free CJ.loc (.inr CJ.new) CJ.cell CJ.pin;refine P3 ⟨A87 B00 _,ih (j+1) j H2 _ k dj ∅ N2 eg ⟨I3,Ij,⟨oI,kp I _ (A07 yP) N9,rI⟩,Vd,CJ,u,v1,t2,_,GL,Iq,A85 _ R_ rfl⟩ (SY.un H2 H2 s2 _ I2 BQ (aJ.refl H2) (SY.off H2 s2 BQ).free λ o e=>kp f o C_ e)<|let ⟨o,e⟩:=Wu;⟨o,kp f o C_ e⟩⟩
  .simp only[hb,decide_false,A45,A60];refine T0<|A64 ?_;rw[nm];rw[W1 (by unfold Z.TZ;simpa using hb)]at eg;exact P3 ⟨A87 B00 _,ih (j+1) i H2 s2 kb db ∅ gQ eg ⟨I2,Ij,BU,Vd,CJ,b,v,tb,c,hv,rb,R_⟩ BQ Wu⟩
end
def vm(X:Cx)(nm:Str):Prop:=∃c P,nm∈dM/\tabIn X.K nm=AC (c,P)/\X.env.code=.ref c/\X.env.qual++ "<lambda>"=jK nm
theorem Hi(a k:ζ):argsOk "max" ⟨[a],[(Db "key",k),(Db "default",.none)]⟩:=by kernel_rfl
theorem DN(k:ζ):Ix "max" ["key","default"] 0 ⟨[],[(Db "key",k),(Db "default",.none)]⟩=pure [AC k,AC .none]:=by kernel_rfl
section
variable{St:Hp->θ->Prop}
theorem Od(du:X.calm=Ch)(KO:BL X χ σ H f St e)(SY:Lj X χ σ f St)(Iv:Inv X χ σ H s)(st:St H s)(gf:∃o,s.heap.get? f=AC o)(hl:jE X.K H l vs)(dn:aG X.K H ds vs)(ek:Z.pickK Ch (.ok .non) e ds=.ok r)
 (k:∀v H',aJ H H'->Den X.K H' r v->Q v H'):EQ (model X.prog X.w) X.A (call (.builtin "max") [.ref l]<|[(Db "key",.ref f),(Db "default",.none)]) (EP X χ σ Q) X.xe s:=by
 have nm:(toString "max"++toString ".loop")="max.loop":=by decide
 have ψ:=dn.length;let⟨fo,gf⟩:=gf;let⟨bp,rv,pl,hz⟩:=Iv.list hl;refine kmk_tree PySem.F.kind_max PySem.F.plain_max PySem.F.entry_max (Hi _ _) ?_;show EQ (model X.prog X.w) X.A.in1 (Ix "max" ["key","default"] 0 ⟨[],[(Db "key",.ref f),(Db "default",.none)]⟩>>=_) _ _ s;rw[DN];refine T0<|P3<|T0<|P3<|T0<|A96 pl.isList ?_;refine T0<|A68 ?_;rw[nm];generalize J':s.heap.push {cls:=.type "list_iterator",data:=.fields #[.ref l,.int 0 0]}=HH;have hS:HH.objs.size=s.heap.objs.size+1:=by rw[<-J',A50]
 have gI0:HH.get? s.heap.objs.size=AC {cls:=.type "list_iterator",data:=.fields #[.ref l,.int 0 0]}:=by rw[<-J'];exact A14 _ rfl
 have Rw:∀b o,s.heap.get? b=AC o->(HH.push {cls:=.type "list",data:=.seq ([]).toArray}).get? b=AC o:=λ b o e=>v6 _ (by rw[<-J'];exact v6 _ e);have I1:=Iv.kept (t':=s.toks) Rw;have oI:=Off.fresh Iv (v4 _)<|Iv.bY.fresh<|v4 _;have oS:Off X χ H HH.objs.size:=Off.fresh Iv (by rw[hS];exact A59 _)<|Iv.bY.fresh (by rw[hS];exact A59 _);have yP:HH.objs.size≠s.heap.objs.size:=by rw[hS];exact A42<|A62 _
 have Dc:=A13<|A00 gf;have C_:f≠HH.objs.size:=by rw[hS];exact A13<|B55<|A00 gf
 have gS:(HH.push {cls:=.type "list",data:=.seq ([]).toArray}).get? HH.objs.size=AC {cls:=.type "list",data:=.seq ([]).toArray}:=A14 _ rfl;have gI:(HH.push {cls:=.type "list",data:=.seq ([]).toArray}).get? s.heap.objs.size=AC {cls:=.type "list_iterator",data:=.fields #[.ref l,.int 0 0]}:=v6 _ gI0;have Ef:St H {s with heap:=HH.push {cls:=.type "list",data:=.seq ([]).toArray}}:=SY.un H H s _ Iv st (aJ.refl H) (SY.off H s st).free λ o e=>Rw f o e;have N7:=Rw f fo gf;generalize hS2:HH.objs.size=S at oS yP C_ gS;generalize hI2:s.heap.objs.size=I at oI yP Dc gI;generalize oJ:({s with heap:=HH.push {cls:=.type "list",data:=.seq ([]).toArray}})=s1 at I1 Ef;have e1:HH.push {cls:=.type "list",data:=.seq ([]).toArray}=s1.heap:=by rw[<-oJ]
 rw[e1]at gS gI N7;refine P3 ⟨A87 A99 _,?_⟩;refine B15 C18 ?_;rw[B16 A99 _];cases ds with
 |nil=>refine T0<|A46 gS rfl<|T0<|A55<|uA (j:=0) du I1 hl ⟨_,gI,rfl,rfl⟩ oI (by simp at ψ;simp[ψ]) λ h1 t1 I2 k1=>?_;refine T0<|B28<|P3 ?_;cases ek;exact⟨.non,H,I2,rfl,k .non H (aJ.refl H) lH⟩
 |cons d0 dr=>unfold Z.pickK at ek;let⟨k0,ek0,ek⟩:=XV ek;refine T0<|A46 gS rfl<|T0<|A55<|pT (j:=0) du I1 hl ⟨_,gI,rfl,rfl⟩ oI (by simp at ψ;lia) λ u v1 h1 t1 GL Iq I2 BU k1=>?_;have g1:=k1 S _ yP gS;let⟨oi,N9,rI⟩:=id BU;let⟨v',yK,dv⟩:=dn.get (i:=0) (d:=d0) rfl;rw[GL]at yK;cases yK;have BQ:St H {s1 with heap:=h1,toks:=t1}:=SY.un H H s1 _ I1 Ef (aJ.refl H) (SY.off H s1 Ef).free λ o e=>k1 f o Dc e;refine T0<|A55<|A38<|sW KO SY I2 (aJ.refl H) BQ Iq dv ek0 oI oS N9 g1 ⟨fo,k1 f _ Dc N7⟩ λ t3 H3 s3 I3 Hr Ic Z6 Gh gI3 Wv gf3=>?_;refine T0<|B17 Wv rfl ?_;rw[nm];have kp:∀b o,b≠S->s3.heap.get? b=AC o->(s3.heap.update S<|Obj.mapSeq λ _=>#[u,.int k0 t3]).get? b=AC o:=λ b o hb e=>(A63 _ _<|A07 hb).trans e;have I4:=I3.turned (t':=s3.toks) kp Gh.free Gh.loc (.inr Gh.new) Gh.cell Gh.pin;exact P3 ⟨A87 A99 _,C0 du KO SY yP Dc C_ hl dn (λ H5 s5 u5 v5 I5 Ii Qw Sk=>⟨v5,H5,I5,Qw,k v5 H5 Ii Sk⟩) dr.length 1 0 H3 _ k0 d0 (by simp;lia) rfl ek ⟨I4,Hr,⟨oi,kp _ _ (A07 yP) gI3,rI⟩,Z6,Gh,u,v1,t3,_,GL,Iq,A85 _ Wv rfl⟩ (SY.un H3 H3 s3 _ I3 Ic (aJ.refl H3) (SY.off H3 s3 Ic).free λ o e=>kp f o C_ e)<|let ⟨o,e⟩:=gf3;⟨o,kp f o C_ e⟩⟩
end
theorem y!(hL:vm X nm)(pX:X.A.in1.depth<recursionLimit)(hg:Gl X x)(hm:X.mg x=At)(hv:bootBuiltins x=AC (.builtin "max"))(ha:DW X a fa)
 (B:vv X.N N' 1 is scope X.env.scope) (LB:N'[0]?=AC y) (he:∀cl f c' s H,DE (CW X N' (jK nm) scope cl f c' s H) body fe)
 (mF:∀q cl pm c' rZ u,bindArgs (kla_fn "<lambda>" q params body scope cl pm (.ref c') rZ) ⟨[u],[]⟩=pure [(y,u)])
 (yO:defaultsOf params X.env=([],[]):=by rfl) (yN:scope.isGenerator=AT:=by rfl) (J7:scope.isCoroutine=AT:=by rfl)
 (hc:X.calm=Ch:=by rfl) (hn:x≠ "__name__":=by decide +kernel) (gQ:Nd x:=by decide +kernel)
 (RO:Se a [] X.env:=by rfl) (R7:backTo pos (starEach (a::[]) X.env)=(AT,eval a X.env)::backTo pos (starEach [] X.env):=by rfl) (fU:(backTo pos<|starEach (a::[]) X.env).any (·.1)=AT:=by rfl) :
 DE X (.Call (.Name x p1) [a] [⟨AC<|Str.ofString "key",.Lambda params body scope lp,kp⟩,⟨AC<|Str.ofString "default",.Constant .none jj cp,kp2⟩] pos) (Z.yZ Ch (.ok .non) fa is fe):=by
 intro χ s σ H Q I h;let⟨ρ,d,r,e,k⟩:=h;let⟨dx,ea,e⟩:=XV e;let⟨c,P,h1,h2,h3,h4⟩:=hL;split at e
 .rename_i ds;refine A80<|lq I hg hm hv ?_ hn gQ;refine callWith_kw ?_ R7 fU;refine cG (bM ha cX RO pos χ s σ H (λ vs H1=>∃v,vs=[v]/\aJ H H1/\bT X.K H1 (.lst ds) v) I ⟨ρ,_,r,ea,λ v H1 s1 d1=>⟨v,rfl,s1,d1⟩⟩) ?_;rintro us s1 ⟨vs,H1,I1,r1,q1⟩;let⟨v,rfl,sm,d1⟩:=q1;let⟨u,rfl,ru⟩:=vals1 r1;have rS:∀y∈scope.names,y.2=.free->∃c,X.env.cells.lookup y.1=AC c:=λ y hy hf=>I1.ok.has y.1<|B.free y hy hf;let⟨cl,kN,jL,uH⟩:=j9 rS;refine kws_cons<|cG (AV h1 h2 h3 h4 yO kN I1) ?_;rintro w s2 ⟨f,c',pm,rZ,H2,ew,I2,vw,LA⟩;subst ew;refine kws_cons<|Constant_none<|kws_nil ?_;obtain⟨q,vs,rfl,hq,tt⟩:=(d1.up vw).lst;cases ru;have ZI:=(r.up sm).up vw;refine Od (St:=λ H s=>Fy X χ (jK nm) params body scope cl H s f c' pm rZ) hc (λ H5 s5 u5 v5 d5 k5 I5 Ii yb Qw Sk ek5=>?_) ⟨λ _ _ st=>st.off,λ H5 H6 s5 s6 I5 yb Ii _9 _N=>⟨yb.off.up _9,_N _ yb.obj,Ii _ _ yb.code⟩⟩ I2 LA ⟨_,LA.obj⟩ hq tt e λ v' H' s' d'=>k v' H' ((sm.trans vw).trans s') d';exact AW (x:=y) hc pX B LB yN J7 (λ u=>mF _ _ _ _ _ u) jL uH he yb I5 (ZI.up Ii) Qw Sk ek5
 .cases e
theorem Hh(a k:ζ):argsOk "min" ⟨[a],[(Db "key",k)]⟩:=by kernel_rfl
theorem DH(k:ζ):Ix "min" ["key","default"] 0 ⟨[],[(Db "key",k)]⟩=pure [AC k,At]:=by kernel_rfl
section
variable{St:Hp->θ->Prop}
theorem Oc(du:X.calm=Ch)(KO:BL X χ σ H f St e)(SY:Lj X χ σ f St)(Iv:Inv X χ σ H s)(st:St H s)(gf:∃o,s.heap.get? f=AC o)(hl:jE X.K H l vs)(dn:aG X.K H ds vs)(ek:Z.pickK AT .bad e ds=.ok r)
 (k:∀v H',aJ H H'->Den X.K H' r v->Q v H'):EQ (model X.prog X.w) X.A (call (.builtin "min") [.ref l]<|[(Db "key",.ref f)]) (EP X χ σ Q) X.xe s:=by
 have nm:(toString "min"++toString ".loop")="min.loop":=by decide
 have ψ:=dn.length;let⟨fo,gf⟩:=gf;let⟨bp,rv,pl,hz⟩:=Iv.list hl;refine kmk_tree PySem.F.kind_min PySem.F.plain_min PySem.F.entry_min (Hh _ _) ?_;show EQ (model X.prog X.w) X.A.in1 (Ix "min" ["key","default"] 0 ⟨[],[(Db "key",.ref f)]⟩>>=_) _ _ s;rw[DH];refine T0<|P3<|T0<|P3<|T0<|A96 pl.isList ?_;refine T0<|A68 ?_;rw[nm];generalize J':s.heap.push {cls:=.type "list_iterator",data:=.fields #[.ref l,.int 0 0]}=HH;have hS:HH.objs.size=s.heap.objs.size+1:=by rw[<-J',A50]
 have gI0:HH.get? s.heap.objs.size=AC {cls:=.type "list_iterator",data:=.fields #[.ref l,.int 0 0]}:=by rw[<-J'];exact A14 _ rfl
 have Rw:∀b o,s.heap.get? b=AC o->(HH.push {cls:=.type "list",data:=.seq ([]).toArray}).get? b=AC o:=λ b o e=>v6 _ (by rw[<-J'];exact v6 _ e);have I1:=Iv.kept (t':=s.toks) Rw;have oI:=Off.fresh Iv (v4 _)<|Iv.bY.fresh<|v4 _;have oS:Off X χ H HH.objs.size:=Off.fresh Iv (by rw[hS];exact A59 _)<|Iv.bY.fresh (by rw[hS];exact A59 _);have yP:HH.objs.size≠s.heap.objs.size:=by rw[hS];exact A42<|A62 _
 have Dc:=A13<|A00 gf;have C_:f≠HH.objs.size:=by rw[hS];exact A13<|B55<|A00 gf
 have gS:(HH.push {cls:=.type "list",data:=.seq ([]).toArray}).get? HH.objs.size=AC {cls:=.type "list",data:=.seq ([]).toArray}:=A14 _ rfl;have gI:(HH.push {cls:=.type "list",data:=.seq ([]).toArray}).get? s.heap.objs.size=AC {cls:=.type "list_iterator",data:=.fields #[.ref l,.int 0 0]}:=v6 _ gI0;have Ef:St H {s with heap:=HH.push {cls:=.type "list",data:=.seq ([]).toArray}}:=SY.un H H s _ Iv st (aJ.refl H) (SY.off H s st).free λ o e=>Rw f o e;have N7:=Rw f fo gf;generalize hS2:HH.objs.size=S at oS yP C_ gS;generalize hI2:s.heap.objs.size=I at oI yP Dc gI;generalize oJ:({s with heap:=HH.push {cls:=.type "list",data:=.seq ([]).toArray}})=s1 at I1 Ef;have e1:HH.push {cls:=.type "list",data:=.seq ([]).toArray}=s1.heap:=by rw[<-oJ]
 rw[e1]at gS gI N7;refine P3 ⟨A87 B00 _,?_⟩;refine B15 C19 ?_;rw[B16 B00 _];cases ds with
 |nil=>cases ek
 |cons d0 dr=>unfold Z.pickK at ek;let⟨k0,ek0,ek⟩:=XV ek;refine T0<|A46 gS rfl<|T0<|A55<|pT (j:=0) du I1 hl ⟨_,gI,rfl,rfl⟩ oI (by simp at ψ;lia) λ u v1 h1 t1 GL Iq I2 BU k1=>?_;have g1:=k1 S _ yP gS;let⟨oi,N9,rI⟩:=id BU;let⟨v',yK,dv⟩:=dn.get (i:=0) (d:=d0) rfl;rw[GL]at yK;cases yK;have BQ:St H {s1 with heap:=h1,toks:=t1}:=SY.un H H s1 _ I1 Ef (aJ.refl H) (SY.off H s1 Ef).free λ o e=>k1 f o Dc e;refine T0<|A55<|A38<|sW KO SY I2 (aJ.refl H) BQ Iq dv ek0 oI oS N9 g1 ⟨fo,k1 f _ Dc N7⟩ λ t3 H3 s3 I3 Hr Ic Z6 Gh gI3 Wv gf3=>?_;refine T0<|B17 Wv rfl ?_;rw[nm];have kp:∀b o,b≠S->s3.heap.get? b=AC o->(s3.heap.update S<|Obj.mapSeq λ _=>#[u,.int k0 t3]).get? b=AC o:=λ b o hb e=>(A63 _ _<|A07 hb).trans e;have I4:=I3.turned (t':=s3.toks) kp Gh.free Gh.loc (.inr Gh.new) Gh.cell Gh.pin;exact P3 ⟨A87 B00 _,CZ du KO SY yP Dc C_ hl dn (λ H5 s5 u5 v5 I5 Ii Qw Sk=>⟨v5,H5,I5,Qw,k v5 H5 Ii Sk⟩) dr.length 1 0 H3 _ k0 d0 (by simp;lia) rfl ek ⟨I4,Hr,⟨oi,kp _ _ (A07 yP) gI3,rI⟩,Z6,Gh,u,v1,t3,_,GL,Iq,A85 _ Wv rfl⟩ (SY.un H3 H3 s3 _ I3 Ic (aJ.refl H3) (SY.off H3 s3 Ic).free λ o e=>kp f o C_ e)<|let ⟨o,e⟩:=gf3;⟨o,kp f o C_ e⟩⟩
end
theorem y9(hL:vm X nm)(pX:X.A.in1.depth<recursionLimit)(hg:Gl X x)(hm:X.mg x=At)(hv:bootBuiltins x=AC (.builtin "min"))(ha:DW X a fa)
 (B:vv X.N N' 1 is scope X.env.scope) (LB:N'[0]?=AC y) (he:∀cl f c' s H,DE (CW X N' (jK nm) scope cl f c' s H) body fe)
 (mF:∀q cl pm c' rZ u,bindArgs (kla_fn "<lambda>" q params body scope cl pm (.ref c') rZ) ⟨[u],[]⟩=pure [(y,u)])
 (yO:defaultsOf params X.env=([],[]):=by rfl) (yN:scope.isGenerator=AT:=by rfl) (J7:scope.isCoroutine=AT:=by rfl)
 (hc:X.calm=Ch:=by rfl) (hn:x≠ "__name__":=by decide +kernel) (gQ:(x==("__debug__"))=AT:=by decide +kernel)
 (RO:Se a [] X.env:=by rfl) (R7:backTo pos (starEach (a::[]) X.env)=(AT,eval a X.env)::backTo pos (starEach [] X.env):=by rfl) (fU:(backTo pos<|starEach (a::[]) X.env).any (·.1)=AT:=by rfl) :
 DE X (.Call (.Name x p1) [a] [⟨AC<|Str.ofString "key",.Lambda params body scope lp,kp⟩] pos) (Z.yZ AT .bad fa is fe):=by
 intro χ s σ H Q I h;let⟨ρ,d,r,e,k⟩:=h;let⟨dx,ea,e⟩:=XV e;let⟨c,P,h1,h2,h3,h4⟩:=hL;split at e
 .rename_i ds;refine A80<|lq I hg hm hv ?_ hn gQ;refine callWith_kw ?_ R7 fU;refine cG (bM ha cX RO pos χ s σ H (λ vs H1=>∃v,vs=[v]/\aJ H H1/\bT X.K H1 (.lst ds) v) I ⟨ρ,_,r,ea,λ v H1 s1 d1=>⟨v,rfl,s1,d1⟩⟩) ?_;rintro us s1 ⟨vs,H1,I1,r1,q1⟩;let⟨v,rfl,sm,d1⟩:=q1;let⟨u,rfl,ru⟩:=vals1 r1;have rS:∀y∈scope.names,y.2=.free->∃c,X.env.cells.lookup y.1=AC c:=λ y hy hf=>I1.ok.has y.1<|B.free y hy hf;let⟨cl,kN,jL,uH⟩:=j9 rS;refine kws_cons<|cG (AV h1 h2 h3 h4 yO kN I1) ?_;rintro w s2 ⟨f,c',pm,rZ,H2,ew,I2,vw,LA⟩;subst ew;refine kws_nil ?_;obtain⟨q,vs,rfl,hq,tt⟩:=(d1.up vw).lst;cases ru;have ZI:=(r.up sm).up vw;refine Oc (St:=λ H s=>Fy X χ (jK nm) params body scope cl H s f c' pm rZ) hc (λ H5 s5 u5 v5 d5 k5 I5 Ii yb Qw Sk ek5=>?_) ⟨λ _ _ st=>st.off,λ H5 H6 s5 s6 I5 yb Ii _9 _N=>⟨yb.off.up _9,_N _ yb.obj,Ii _ _ yb.code⟩⟩ I2 LA ⟨_,LA.obj⟩ hq tt e λ v' H' s' d'=>k v' H' ((sm.trans vw).trans s') d';exact AW hc pX B LB yN J7 (λ u=>mF _ _ _ _ _ u) jL uH he yb I5 (ZI.up Ii) Qw Sk ek5
 .cases e
theorem Ag(r:bL (k+2) A)(env:PySem.Env):bL k (A.in1.deeper env):=(bL.in1 r).deeper env
theorem Iy(r:bL k A):A.in1.depth<recursionLimit:=r.depth
def O5(K:Frag)(mg:Str->ε ζ)(x:Str):Prop:=∃c P,tabIn K x=AC (c,P)/\∀f fd oc od sl,mg x=AC (.ref f)->K.lookup f=AC ⟨oc,od,.func fd,sl⟩->fd.code=.ref c
theorem Nt{K:Frag}(X:K.In h)(G:h.Ns mainGlobals mg)(t:tabIn K x=AC (c,P)):O5 K mg x:=⟨c,P,t,λ f fd oc od sl hm hl=>law_code X G t hm (X _ _ hl) rfl⟩
def SW(K:Frag)(x:Str)(bf:ζ):Prop:=∃c P,bf=.ref c/\tabIn K x=AC (c,P)
theorem ET{K:Frag}(h:SW K x cd)(hx:x∈dM):
 vm (d6 CX P w K mg base N x scope f cd A outer s H E).gy x:=by
 let⟨c,p,e,t⟩:=h;exact⟨c,p,hx,t,e,rfl⟩
section
variable{K:Da}
theorem aaC{st:η}(F:BM K x qual st f fd)(S:a9 N ps (aj st))
 (hb:∀ A outer s H E,bL k (A.deeper<|envOfC qual (aj st) s.heap.objs.size f fd.code) ->
  LP (d6 iV P w K mg base N qual (aj st) f fd.code A outer s H E).gy H (aL st) b):eY P w K mg base iV (k+1) f fd ps (zq K<|Z.fn ps.length N.length b):=by
 have ψ:∀vs H Q E,zq K (Z.fn ps.length N.length b) vs H Q E->vs.length=ps.length:=by
  rintro vs H Q E ⟨ds,d,t,e,_⟩;unfold Z.fn at e;split at e
  .rename_i h;rw[t.length];exact h
  .cases e
 let⟨oc,od,kV,doc,pm,an,bf,ct,ui,rfl,lk,n4⟩:=F.ex;refine uO lk n4 S ψ λ A outer s H vs Q E hr h=>?_;refine⟨_,rp.gy<|hb A outer s H E hr,?_⟩;have hl:=ψ vs H Q E h;let⟨ds,d,t,e,k⟩:=h;have fU:ps.length<=N.length:=by have:=A11 List.length S.pre;rw[A24]at this;lia
 have rs:RS K H H (L2.start N vs) (Z.start N.length ds):=mX t ∅;unfold Z.fn at e;split at e
 .cases eb:b (Z.start N.length ds)with
  |bad=>rw[eb]at e;cases e
  |ok fl=>
   rw[eb]at e;refine⟨_,fl,rs,eb,?_⟩;cases fl with
   |rt d'=>cases e;exact λ v H' s' dv=>k v H' s' dv
   |nx ρ'=>cases e;exact λ σ' H' _ En=>k .non H' En.same lH
   |bk ρ'=>cases e
   |ct ρ'=>cases e
 .cases e
theorem aaY{st:η}(d:Def K mg x st ps)(S:a9 N ps (aj st))(L:O5 K mg x)
 (hb:∀ f bf A outer s H E,SW K x bf->bL k (A.deeper<|envOfC x (aj st) s.heap.objs.size f bf) ->
  LP (d6 iV P w K mg base N x (aj st) f bf A outer s H E).gy H (aL st) b):ie P w K mg base x (k+1) ps (Z.fn ps.length N.length b):=by
 let⟨f,fd,F,hm,sX⟩:=d.ex;let⟨c,p,t,hc⟩:=L;have hfd:fd.code=.ref c:=by let⟨oc,od,kV,doc,pm,an,bf,ct,ui,e,lk,n4⟩:=F.ex;exact hc f fd _ _ _ hm lk
 exact⟨f,fd,aaC F S λ A outer s H E hr=>hb f _ A outer s H E ⟨c,p,hfd,t⟩ hr,hm,F.kp,sX⟩
end
end ZS
namespace ZQ
open L2 PySem.W ZS
theorem y!(hL:vm X nm)(pX:X.A.in1.depth<recursionLimit)(hg:Gl X x)(hm:X.mg x=At)(hv:bootBuiltins x=AC (.builtin "max"))(ha:QW X a fa)
 (B:vv X.N N' 1 is scope X.env.scope) (LB:N'[0]?=AC y) (he:∀cl f c' s H,QE (CW X N' (jK nm) scope cl f c' s H) body fe)
 (mF:∀q cl pm c' rZ u,bindArgs (kla_fn "<lambda>" q params body scope cl pm (.ref c') rZ) ⟨[u],[]⟩=pure [(y,u)])
 (yO:defaultsOf params X.env=([],[]):=by rfl) (yN:scope.isGenerator=AT:=by rfl) (J7:scope.isCoroutine=AT:=by rfl)
 (hc:X.calm=Ch:=by rfl) (hn:x≠ "__name__":=by decide +kernel) (gQ:Nd x:=by decide +kernel)
 (RO:Se a [] X.env:=by rfl) (R7:backTo pos (starEach (a::[]) X.env)=(AT,eval a X.env)::backTo pos (starEach [] X.env):=by rfl) (fU:(backTo pos<|starEach (a::[]) X.env).any (·.1)=AT:=by rfl) :
 QE X (.Call (.Name x p1) [a] [⟨AC<|Str.ofString "key",.Lambda params body scope lp,kp⟩,⟨AC<|Str.ofString "default",.Constant .none jj cp,kp2⟩] pos) (Z.yZ Ch (.ok .non) fa is fe):=
 ⟨ZS.y! hL pX hg hm hv ha.p B LB (λ cl f c' s H=>(he cl f c' s H).p) mF yO yN J7 hc hn gQ RO R7 fU⟩
theorem y9(hL:vm X nm)(pX:X.A.in1.depth<recursionLimit)(hg:Gl X x)(hm:X.mg x=At)(hv:bootBuiltins x=AC (.builtin "min"))(ha:QW X a fa)
 (B:vv X.N N' 1 is scope X.env.scope) (LB:N'[0]?=AC y) (he:∀cl f c' s H,QE (CW X N' (jK nm) scope cl f c' s H) body fe)
 (mF:∀q cl pm c' rZ u,bindArgs (kla_fn "<lambda>" q params body scope cl pm (.ref c') rZ) ⟨[u],[]⟩=pure [(y,u)])
 (yO:defaultsOf params X.env=([],[]):=by rfl) (yN:scope.isGenerator=AT:=by rfl) (J7:scope.isCoroutine=AT:=by rfl)
 (hc:X.calm=Ch:=by rfl) (hn:x≠ "__name__":=by decide +kernel) (gQ:(x==("__debug__"))=AT:=by decide +kernel)
 (RO:Se a [] X.env:=by rfl) (R7:backTo pos (starEach (a::[]) X.env)=(AT,eval a X.env)::backTo pos (starEach [] X.env):=by rfl) (fU:(backTo pos<|starEach (a::[]) X.env).any (·.1)=AT:=by rfl) :
 QE X (.Call (.Name x p1) [a] [⟨AC<|Str.ofString "key",.Lambda params body scope lp,kp⟩] pos) (Z.yZ AT .bad fa is fe):=
 ⟨ZS.y9 hL pX hg hm hv ha.p B LB (λ cl f c' s H=>(he cl f c' s H).p) mF yO yN J7 hc hn gQ RO R7 fU⟩
theorem P0{K:Da}{st:η}(d:ZS.Def K mg x st ps)(S:a9 N ps (aj st))(L:ZS.O5 K mg x)
 (hb:∀ f bf A outer s H E,ZS.SW K x bf->bL k (A.deeper<|envOfC x (aj st) s.heap.objs.size f bf) ->
  BK (d6 iV P w K mg base N x (aj st) f bf A outer s H E).gy H (aL st) b):ZS.ie P w K mg base x (k+1) ps (Z.fn ps.length N.length b):=
 ZS.aaY d S L λ f bf A outer s H E hl hr=>(hb f bf A outer s H E hl hr).p
end ZQ
namespace ZS
open L2 PySem.W
def cA(K:Frag)(n:Str)(st:η):Prop:=∃(f:δ)(od an:ε δ)(sl:Array (ε ζ))(oc kV dc pm cd ct:ζ),nsIn K mainGlobals n=AC (AC<|.ref f)/\K.lookup f=AC ⟨oc,od,.func<|fnOf n n (bE st) (aL st) (aj st) .none kV dc pm an cd ct,sl⟩/\codeIn K cd n=Ch/\keepIn K (.ref f)=Ch
def qr(K:Frag)(n:Str)(st:η):Prop:=∃(f t:δ)(od an td:ε δ)(sl ts:Array (ε ζ))(tn:Nat)(oc kV dc pm cd ct tc:ζ),nsIn K mainGlobals n=AC (AC<|.ref f)/\K.lookup f=AC ⟨oc,od,.func<|fnOf n n (bE st) (aL st) (aj st) (.ref t) kV dc pm an cd ct,sl⟩/\codeIn K cd n=Ch/\keepIn K (.ref f)=Ch/\K.lookup t=AC ⟨tc,td,.seq #[.none] tn,ts⟩
def vo(K:Frag)(n:Str)(st:η):Prop:=cA K n st/\∃c p,tabIn K n=AC (c,p)
section
variable{K:Frag}{st:η}
theorem cA.mk'{oc kV dc pm cd ct:ζ}(a:nsIn K mainGlobals n=AC (AC<|.ref f))(l:K.lookup f=AC ⟨oc,od,.func<|fnOf n n (bE st) (aL st) (aj st) .none kV dc pm an cd ct,sl⟩)(c:codeIn K cd n=Ch)(k:keepIn K (.ref f)=Ch):cA K n st:=⟨f,od,an,sl,oc,kV,dc,pm,cd,ct,a,l,c,k⟩
theorem qr.mk'{oc kV dc pm cd ct tc:ζ}(a:nsIn K mainGlobals n=AC (AC<|.ref f))(l:K.lookup f=AC ⟨oc,od,.func<|fnOf n n (bE st) (aL st) (aj st) (.ref t) kV dc pm an cd ct,sl⟩)(c:codeIn K cd n=Ch)(k:keepIn K (.ref f)=Ch)(q:K.lookup t=AC ⟨tc,td,.seq #[.none] tn,ts⟩):qr K n st:=⟨f,t,od,an,td,sl,ts,tn,oc,kV,dc,pm,cd,ct,tc,a,l,c,k,q⟩
theorem vo.mk'{oc kV dc pm ct to:ζ}(a:nsIn K mainGlobals n=AC (AC<|.ref f))(l:K.lookup f=AC ⟨oc,od,.func<|fnOf n n (bE st) (aL st) (aj st) .none kV dc pm an (.ref cc) ct,sl⟩)(c:codeIn K (.ref cc) n=Ch)(k:keepIn K (.ref f)=Ch)(tl:K.lookup cc=AC ⟨to,td,.fields tv,ts⟩)(tp:tv[11]?=AC (.ref pp)):vo K n st:=⟨⟨f,od,an,sl,oc,kV,dc,pm,_,ct,a,l,c,k⟩,cc,pp,tV a l rfl tl tp⟩
theorem cA.df(d:cA K n st)(X:K.In h)(G:h.Ns mainGlobals mg)(hb:∀kV doc pm an bf ct us,us.length=ps.length->bindArgs (fnOf n n (bE st) (aL st) (aj st) .none kV doc pm an bf ct) ⟨us,[]⟩=pure (ps.zip us):=by intro _ _ _ _ _ _;first|exact ZS.bd1 λ _=>rfl|exact ZS.SG λ _ _=>rfl|exact ZS.bd3 λ _ _ _=>rfl|exact ZS.bd4 λ _ _ _ _=>rfl|exact ZS.bd5 λ _ _ _ _ _=>rfl|exact ZS.bd6 λ _ _ _ _ _ _=>rfl):Def K mg n st ps:=by let⟨f,od,an,sl,oc,kV,dc,pm,cd,ct,a,l,c,k⟩:=d;have F:=qW l c k;exact⟨f,_,F,mg_of X G a,F.binds hb⟩
theorem qr.df(d:qr K n st)(X:K.In h)(G:h.Ns mainGlobals mg)
 (h1:∀t kV doc pm an bf ct us,us.length=ps.length->∃kk,bindArgs (fnOf n n (bE st) (aL st) (aj st) (.ref t) kV doc pm an bf ct) ⟨us,[]⟩=seqItems? (.ref t)>>=kk/\kk (AC #[.none])=pure (ps.zip us))
 (h2:∀t kV doc pm an bf ct us,us.length=ps.tail.length->∃kk,bindArgs (fnOf n n (bE st) (aL st) (aj st) (.ref t) kV doc pm an bf ct) ⟨us,[]⟩=seqItems? (.ref t)>>=kk/\kk (AC #[.none])=pure (ps.zip<|us++[.none])):Ho K mg n st ps:=by
 let⟨f,t,od,an,td,sl,ts,tn,oc,kV,dc,pm,cd,ct,tc,a,l,c,k,q⟩:=d;exact Ot l c k q (mg_of X G a) (h1 t kV dc pm an cd ct)<|h2 t kV dc pm an cd ct
theorem cA.law(d:cA K n st)(X:K.In h)(G:h.Ns mainGlobals mg)(zr:mg n=AC (.ref fa))(hb:∀kV doc pm an bf ct s v,BindsTo s (fnOf n n (bE st) (aL st) (aj st) .none kV doc pm an bf ct) ⟨[v],[]⟩ [(x,v)]):∃fd,(∀s v,BindsTo s fd ⟨[v],[]⟩ [(x,v)])/\BM K n n st fa fd:=by let⟨f,od,an,sl,oc,kV,dc,pm,cd,ct,a,l,c,k⟩:=d;have e:=zr.symm.trans<|mg_of X G a;cases e;exact⟨_,hb kV dc pm an cd ct,qW l c k⟩
theorem vo.lam(d:vo K n st)(X:K.In h)(G:h.Ns mainGlobals mg):O5 K mg n:=let ⟨c,p,t⟩:=d.2;Nt X G t
end
end ZS
namespace ZQ
open L2
def VB(sc:ς)(x:Str):Bool:=match sc.names.lookup x with
|some .local=>Ch
|some .cell=>Ch
|_=>AT
theorem lo(h:VB sc x=Ch):Loc sc x:=by
 unfold VB at h;split at h
 .rename_i e;exact .inl e
 .rename_i e;exact .inr e
 .cases h
end ZQ
namespace ZS
open L2
section
open PySem.SeqAt
open PySem.AutoSeq1 (wpAny_loadPart')
open PySem.MeetsSeq PySem.MeetsSeq2 PySem.MeetsSeq3
end
section
open PySem.SeqAt
open PySem.AutoSeq1 (wpAny_loadPart')
open PySem.MeetsSeq PySem.MeetsSeq2 PySem.MeetsSeq3
end
section
variable{X:Cx}
end
open PySem.W
end ZS
namespace ZQ
open L2 ZS
end ZQ
namespace Z
abbrev XN:=γ Nat×γ (γ Nat×D)
abbrev XF:=Env->ε XN
def vE(_:Env):ε XN:=At
def fg(m:γ D->ε XN)(as:AF)(ρ:Env):ε XN:=match as ρ with
|.ok ds=>m ds
|.bad=>At
def Xp(a:EF)(r:XF)(ρ:Env):ε XN:=match a ρ with
|.ok _=>r ρ
|.bad=>At
def jf(a:SF)(xa xb:XF)(ρ:Env):ε XN:=match xa ρ with
|some c=>AC c
|none=>match a ρ with
 |.ok<|.nx ρ'=>xb ρ'
 |_=>At
def zH(t:TF)(a b:XF)(ρ:Env):ε XN:=match t ρ with
|.ok c=>if c then a ρ else b ρ
|.bad=>At
def kT(c:γ Nat)(a:EF)(ρ:Env):ε XN:=match a ρ with
|.ok _=>AC (c,[])
|.bad=>At
def fx(ps n:Nat)(b:XF)(ds:γ D):ε XN:=if ds.length=ps then b (start n ds)else At
theorem Wy(ps n:Nat)(b:XF)(ds:γ D)(h:ds.length=ps):fx ps n b ds=b (start n ds):=M2 h
end Z
namespace ZS
open L2 PySem.W
theorem I_(x:eF P w H h a o):∃ob,h.get? a=AC ob:=by
 cases o with
 |lst xs=>let⟨_,_,_,_,e⟩:=x;exact⟨_,e⟩
 |tup xs=>let⟨_,_,_,tn⟩:=x;let⟨ob,e,_⟩:=tn.is;exact⟨_,e⟩
 |dK aV=>let⟨_,_,_,_,o,_,_,e,_⟩:=x;exact⟨_,e⟩
 |dT aV=>let⟨_,_,_,_,o,_,_,e,_⟩:=x;exact⟨_,e⟩
 |set S n=>let⟨o,_,_,_,e,_⟩:=x;exact⟨_,e⟩
 |ins C dx fs=>let⟨_,_,_,e,_⟩:=x;exact⟨_,e⟩
 |own y=>let⟨_,e⟩:=x;exact⟨_,e⟩
 |xd fs=>let⟨_,⟨_,_,_,e,_⟩,_⟩:=x;exact⟨_,e⟩
 |XT lo hi=>let⟨_,_,_,e⟩:=x;exact⟨_,e⟩
 |eJ ob u=>let⟨e,_⟩:=x;exact⟨_,e⟩
 |HV q=>let⟨_,e,_⟩:=x;exact⟨_,e⟩
 |LL q=>let⟨_,_,_,_,e1,e2,_⟩:=x;cases e1;exact⟨_,e2⟩
 |met f y=>exact⟨_,(x)⟩
 |ext φ=>let⟨_,⟨_,e⟩,_⟩:=x;exact⟨_,e⟩
section
variable{X:Cx}{χ:γ (δ×μ)}{σ:St}{H H':Hp}{s:θ}{h':ν}
theorem Ib{ch:γ δ}(I:Inv X χ σ H s)
 (BW:∀b∈ch,X.s₀.heap.get? b=At/\b≠X.env.locals/\(∀x c,X.env.cells.lookup x=AC c->c≠b)/\∀p∈X.pn++χ,p.1≠b)
 (keep:∀b o,b≠X.env.locals->b∉X.fs->b∉ch->s.heap.get? b=AC o->H b=At->h'.get? b=AC o)
 (slot:∀b o,b≠X.env.locals->b∈X.fs->b∉ch->s.heap.get? b=AC o->H b=At->∃sl,h'.get? b=AC {o with slots:=sl}) (free:∀b o,b∉ch->s.heap.get? b=AC o->H b=At->H' b=At)
 (there:∀b o,b∉ch->s.heap.get? b=AC o->∃o',h'.get? b=AC o')
 (sh:∀b xs,H b=AC (.tup xs)->H' b=AC (.tup xs)) (qX:∀b o u,H b=AC (.eJ o u)->H' b=AC (.eJ o u)) (oa:∀b u,SS u->H b=AC u->H' b=AC u)
 (ns:∀m,s.heap.Ns X.env.locals m->h'.Ns X.env.locals m) (bY:l0 X.prog X.w H' h') (hg:AllBare g') :
 Inv X χ σ H' {s with heap:=h',gens:=g',drawn:=d',toks:=t'}:=by
 have Vp:∀b o,X.s₀.heap.get? b=AC o->b≠X.env.locals:=λ b o e=>A13<|A18 (A00 e) I.ok.above;have Jm:∀b o,X.s₀.heap.get? b=AC o->b∉ch:=λ b o e hb=>by rw[(BW b hb).1]at e;cases e
 have cellK:∀x c,X.env.cells.lookup x=AC c->∀v,s.heap.IsCell c v->h'.IsCell c v:=by
  rintro x c e v ⟨o,ho,hd⟩;have AJ:=λ z=>(BW c z).2.2.1 x c e rfl;by_cases hc:c∈X.fs
  .let⟨sl,q⟩:=slot c o (I.OG x c e) hc AJ ho (I.g0 x c e);exact⟨_,q,hd⟩
  .exact⟨o,keep c o (I.OG x c e) hc AJ ho<|I.g0 x c e,hd⟩
 refine⟨I.ok,I.os,hg,⟨λ b o e n hb hx=>?_,λ b o e n hb hx=>?_,λ b o e n hx=>?_,λ b o e hx=>?_,λ b xs e=>sh b xs<|I.base.sh b xs e,λ b o xs e=>qX b o xs<|I.base.qX b o xs e,λ b u p e=>oa b u p<|I.base.oa b u p e⟩,?_,λ x c e=>?_,?_,λ x c e=>?_,λ p hp=>?_,bY,I.len,I.tab.up oa⟩
 .exact keep b o (Vp b o e) hb (Jm b o e) (I.base.keep b o e n hb hx)<|I.base.free b o e n hx
 .let⟨sl,e1⟩:=I.base.slot b o e n hb hx;let⟨Zs,e2⟩:=slot b _ (Vp b o e) hb (Jm b o e) e1 (I.base.free b o e n hx);exact⟨Zs,e2⟩
 .let⟨o',e1⟩:=I.base.there b o e hx;exact free b o' (Jm b o e) e1<|I.base.free b o e n hx
 .let⟨o',e1⟩:=I.base.there b o e hx;exact there b o' (Jm b o e) e1
 .let⟨m,hn,hl⟩:=I.loc;refine⟨m,ns m hn,λ i x v e1 e2 e3=>?_⟩;let⟨u,r,l⟩:=hl i x v e1 e2 e3;refine⟨u,r,?_⟩;rcases l with l|⟨k,c,e,z⟩
  .exact .inl l
  .exact .inr ⟨k,c,e,cellK x c e _ z⟩
 .let⟨v,z⟩:=I.cell x c e;exact⟨v,cellK x c e v z⟩
 .let⟨m,⟨o,_,_,ho,_⟩,_⟩:=I.loc;exact free _ o (λ z=>(BW _ z).2.1 rfl) ho I.free
 .let⟨v,o,ho,hd⟩:=I.cell x c e;exact free c o (λ z=>(BW c z).2.2.1 x c e rfl) ho<|I.g0 x c e
 .let⟨e,n,ne,nf,d⟩:=I.pin p hp;have AJ:=λ z=>(BW p.1 z).2.2.2 p hp rfl;exact⟨keep p.1 p.2 ne nf AJ e n,free p.1 p.2 AJ e n,ne,nf,d⟩
structure o9(X:Cx)(χ:List (Addr×Obj))(H:Hp)(s:Shared)(a:Addr):Prop where
 free:H a=At
 new:X.s₀.heap.get? a=At
 pin:∀p∈X.pn++χ,p.1≠a
 _o:∃o vs,s.heap.get? a=AC o/\o.data=.fields vs
theorem o9.loc(o:o9 X χ H s a)(I:Inv X χ σ H s):a≠X.env.locals:=λ z=>by let⟨ob,vs,e,d⟩:=o._o;let⟨m,⟨o',es,ep,pY,o!,_⟩,_⟩:=I.loc;rw[z,pY]at e;cases e;rw[o!]at d;cases d
theorem o9.cell(o:o9 X χ H s a)(I:Inv X χ σ H s)(x:Str)(c:δ)(hc:X.env.cells.lookup x=AC c):c≠a:=λ z=>by let⟨ob,vs,e,d⟩:=o._o;let⟨v,o',pY,o!⟩:=I.cell x c hc;rw[z,e]at pY;cases pY;rw[d]at o!;cases o!
theorem absent(I:Inv X χ σ H s)(h:s.heap.get? a=At):H a=At/\X.s₀.heap.get? a=At\/a∈X.ex:=by
 by_cases hx:a∈X.ex
 .exact .inr hx
 .refine .inl ⟨?_,?_⟩
  .cases e:H a with
   |none=>rfl
   |some u=>let⟨ob,q⟩:=I_ (I.bY a u e);rw[h]at q;cases q
  .cases e:X.s₀.heap.get? a with
   |none=>rfl
   |some o=>let⟨o',q⟩:=I.base.there a o e hx;rw[h]at q;cases q
theorem Inv.snap(I:Inv X χ σ H s)(off:∀a∈l,o9 X χ H s a)(k1:(hideAll s.heap<|uM X.stack++l).StaysIn h')
 (k4:∀b o,s.heap.get? b=AC o->(∀vs,o.data≠.fields vs)->∃sl,h'.get? b=AC {o with slots:=sl}):Inv X χ σ H {s with heap:=h',toks:=t'}:=by
 have Yl:=λ b o n1 n2 e=>k1 b o<|hideAll_get _ e λ z=>(A41.mp z).elim n1 n2;have Qo:∀b u,H b=AC u->b∉uM _/\b∉l:=λ b u e=>⟨λ z=>(by rw[I.sP b z]at e;cases e),λ z=>(by rw[(off b z).free]at e;cases e)⟩
 refine Ib I (λ b hb=>⟨(off b hb).new,(off b hb).loc I,(off b hb).cell I,(off b hb).pin⟩) (λ b o hL hf hc e n=>Yl b o (λ z=>(A02.mp<|I.qG b z).elim hL hf) hc e) (λ b o hL hf hc e n=>?_) (λ _ _ _ _ n=>n) (λ b o hc e=>?_) (λ _ _ e=>e) (λ _ _ _ e=>e) (λ _ _ _ e=>e) (λ m hm=>?_) (λ b u e=>?_) I.bare
 .let⟨_,o',pY,o!⟩:=I.mG.mem hf;rw[e]at pY;cases pY;exact k4 b o e o!
 .by_cases hz:b∈uM X.stack
  .let⟨_,o',pY,o!⟩:=I.stack.mem hz;rw[e]at pY;cases pY;let⟨sl,q⟩:=k4 b o e o!;exact⟨_,q⟩
  .exact⟨o,Yl b o hz hc e⟩
 .let⟨o,es,ep,ho,hd,r⟩:=hm;let⟨sl,q⟩:=k4 _ o ho (λ vs z=>by rw[hd]at z;cases z);exact⟨_,es,ep,q,hd,r⟩
 .refine(I.bY b u e).pC (λ c v hc q=>?_) (λ _ q=>q) (λ _ _ q=>q) λ _ _ _ q=>q;rcases hc with rfl|hc
  .exact Yl c v (Qo c u e).1 (Qo c u e).2 q
  .exact Yl c v (Qo c _ hc).1 (Qo c _ hc).2 q
theorem Aa(hex:X.ex=[])(I:Inv X χ σ H s)(off:∀a∈l,o9 X χ H s a)(k2:h'.FunFrames (hideAll s.heap<|uM X.stack++l) X.stack)
 (hT:(hideAll s.heap<|uM X.stack++l).get? T=At) (hT':h'.get? T=AC oT) (hd:oT.data=.fields ts):H T=At/\X.s₀.heap.get? T=At/\∀p∈X.pn++χ,p.1≠T:=by
 have nst:T∉uM _:=λ z=>by let⟨_,o',pY,o!⟩:=k2.mem z;rw[hT']at pY;cases pY;exact o! ts hd
 by_cases hl:T∈l
 .exact⟨(off T hl).free,(off T hl).new,(off T hl).pin⟩
 .have hn:s.heap.get? T=At:=by
   cases e:s.heap.get? T with
   |none=>rfl
   |some o=>rw[hideAll_get _ e λ z=>(A41.mp z).elim nst hl]at hT;cases hT
  rcases absent I hn with z|z
  .exact⟨z.1,z.2,λ p hp q=>by rw[<-q,(I.pin p hp).1]at hn;cases hn⟩
  .rw[hex]at z;cases z
end
theorem Kz{rest:γ PySem.Env}
 (fr:A.frames=AC (env::rest)) (ff:s.heap.FunFrames ground (env::rest)) (el:env.frame=AC L) (ge:s.heap.get? e=AC oe) (st:ground.StaysIn s.heap) (ne:ground.get? e=At) (de:oe.data=.fields fl) (sz:1<fl.size)
 (k:∀ h' T oT ts,ground.StaysIn h'->h'.FunFrames ground (env::rest)->h'.get? e=AC (oe.mapFields (·.setIfInBounds 1<|.ref T))->ground.get? T=At->T≠e->h'.get? T=AC oT->oT.data=.fields ts->3<ts.size ->
  (∀b o,s.heap.get? b=AC o->(∀vs,o.data≠.fields vs)->∃sl,h'.get? b=AC {o with slots:=sl})->Q () {s with heap:=h'}) :
 EQ M A (do let a ←frameOf env;let pl ←entryPlaceOf L nx;let b ←EntryCells.newEntry hd0 a .none (rawInt L) .none pl;setField (.ref e) 1 b) Q E s:=by
 have out:e∉(env::rest).filterMap (·.frame):=λ z=>by let⟨_,o,go,no⟩:=ff.mem z;rw[ge]at go;cases go;exact no fl de
 refine T0<|wpAny_frameOf_fun fr ff el λ h1 so=>T0<|wpAny_entryPlaceOf λ pl ip=>?_;unfold EntryCells.newEntry newFields;refine T0<|A68 ?_<|ip.sizeOk5 _ _ _ _ _;generalize RV:({cls:=.type "traceback",dict:=At,data:=.fields ([hd0,.ref L,.none,rawInt L,.none]++(if pl.isEmpty then Do 6 SZ else pl)).toArray}:μ)=new;have WT:new.data=.fields ([hd0,.ref L,.none,rawInt L,.none]++(if pl.isEmpty then Do 6 SZ else pl)).toArray:=by rw[<-RV]
 have ge1:=(so.2.1 e out).trans ge;have Ef:ground.StaysIn h1:=λ b o q=>(so.2.1 b λ z=>by rw[(ff.mem z).1]at q;cases q).trans<|st b o q;have ge2:=v6 (h:=h1) new ge1;refine B62 ge2 de sz ?_;have Te:=A42<|A00 ge1;have d3:=A72 de (·.setIfInBounds 1<|Value.ref h1.objs.size);have ge3:=A85 (SB (·.setIfInBounds 1<|Value.ref h1.objs.size)) ge2<|B63 d3;have gT:=(A63 (h1.push new) (SB (·.setIfInBounds 1<|Value.ref h1.objs.size))<|A07 Te).trans<|A14 h1<|B63 WT;have hold:∀b o,b≠e->h1.get? b=AC o->((h1.push new).update e (SB (·.setIfInBounds 1<|Value.ref h1.objs.size))).get? b=AC o:=λ b o n q=>by rw[A63 _ _<|A07 n];exact v6 _ q
 have apart:∀b o,s.heap.get? b=AC o->(∀vs,o.data≠.fields vs)->b≠e:=λ b o q n z=>by rw[z,ge]at q;cases q;exact n fl de
 refine k _ h1.objs.size new _ (λ b o q=>hold b o (λ z=>by rw[z,ne]at q;cases q)<|Ef b o q) (ff.of_keeps λ b o q n=>?_) ge3 Ef.fresh Te gT WT (by simp only[A10,A30,A33,B97];lia) λ b o q n=>?_
 .let⟨sl,z⟩:=so.2.2 b o q;exact⟨_,hold b _ (apart b o q n) z,rfl⟩
 .let⟨sl,z⟩:=so.2.2 b o q;exact⟨sl,hold b _ (apart b o q n) z⟩
theorem my(o:μ)(f:Array ζ->Array ζ):(o.mapFields f).dict=o.dict:=by let⟨_,_,d,_⟩:=o;cases d<;>rfl
structure OU(X:Cx)(χ:List (Addr×Obj))(H:Hp)(s:Shared)(e C:Addr)(dd:Option Addr):Prop where
 off:o9 X χ H s e
 ex:∃oe vs,s.heap.get? e=AC oe/\oe.cls=.ref C/\oe.dict=dd/\oe.data=.fields vs/\(vs[1]?=AC .none\/∃T oT ts,vs[1]?=AC (.ref T)/\T≠e/\o9 X χ H s T/\s.heap.get? T=AC oT/\oT.data=.fields ts/\ts[3]?=AC .none)
def abd(h0:ν)(H':Hp)(h':ν)(e C:δ)(dd:ε δ):Prop:=h0.get? e=At/\H' e=At/\∃oe vs T oT ts,h'.get? e=AC oe/\oe.cls=.ref C/\oe.dict=dd/\oe.data=.fields vs/\vs[1]?=AC (.ref T)/\T≠e/\H' T=At/\h0.get? T=At/\h'.get? T=AC oT/\oT.data=.fields ts/\ts[3]?=AC .none
def wG(P:ο)(w:ξ):S6:=λ outer H s E ev s'=>∃e C dd H',ev=.ref e/\s'.os=s.os/\AllBare s'.gens/\Un (uM outer) [] H H' s.heap s'.heap/\l0 P w H' s'.heap/\abd s.heap H' s'.heap e C dd/\E (.ref C) dd H'
theorem H_:∀env∈l,∀a,env.frame=AC a->a∈uM l++as:=λ env he a ha=>A79 _<|B75.mpr ⟨env,he,ha⟩
section
variable{X:Cx}{χ:γ (δ×μ)}{σ:St}{H:Hp}{s:θ}
structure Y8(X:Cx)(χ:List (Addr×Obj))(σ:St)(H:Hp)(s:Shared)(e C:Addr)(dd:Option Addr)(lands:Bool):Prop where
 inv:Inv X χ σ H s
 off:o9 X χ H s e
 ex:∃oe vs T oT ts,s.heap.get? e=AC oe/\oe.cls=.ref C/\oe.dict=dd/\oe.data=.fields vs/\vs[1]?=AC (.ref T)/\T≠e/\o9 X χ H s T/\s.heap.get? T=AC oT/\oT.data=.fields ts/\3<ts.size/\(lands=Ch->ts[3]?=AC .none)
theorem AB(hex:X.ex=[])(pW:X.stack=X.env::X.outer)(LG:X.env.frame=AC X.env.locals)(I:Inv X χ σ H s)(t:OU X χ H s e C dd)
 (k:∀s',Y8 X χ σ H s' e C dd AT->Q () s'):EQ M X.A (noteFrame (.ref e) X.env) Q E s:=by
 let⟨oe,vs,he,kN,Tw,hd,h1⟩:=t.ex;have hfr:X.A.frames=AC (X.env::X.outer):=by rw[<-pW];exact I.ok.frames
 have Lr:=I.stack;rw[pW]at Lr;unfold noteFrame;simp only[LG];rcases h1 with h1|⟨T,oT,ts,h1,YE,MX,gT,dT,h3⟩
 .have off:∀a∈[e],o9 X χ H s a:=λ a ha=>by rw[A21.mp ha];exact t.off
  refine T0<|A31 he hd h1 ?_;rw[W1 ∅];refine Kz hfr (funFrames_hide Lr H_) LG he (λ b o=>of_hideAll _) (B68 _<|A43 _<|A21.mpr rfl) hd (B39.mp h1).1 λ h' T' MX Qn k1 k2 g1 g2 g3 g4 g5 g6 k4=>k _ ?_;rw[<-pW]at k1 k2 g2;have J:=Inv.snap (t':=s.toks) I off k1 k4;let⟨n1,n2,n3⟩:=Aa hex I off k2 g2 g4 g5;have sz:=(B39.mp h1).1;exact⟨J,⟨t.off.free,t.off.new,t.off.pin,_,_,g1,A72 hd _⟩,_,_,T',MX,Qn,g1,(C08 _ _).trans kN,(my _ _).trans Tw,A72 hd _,by simp[sz],g3,⟨n1,n2,n3,MX,Qn,g4,g5⟩,g4,g5,g6,λ z=>nomatch z⟩
 .have off:∀a∈[e,T],o9 X χ H s a:=λ a ha=>by
   rcases A02.mp ha with rfl|ha
   .exact t.off
   .rw[A21.mp ha];exact MX
  refine T0<|A31 he hd h1 ?_;rw[M2 ∅];refine T0<|A31 gT dT h3 ?_;rw[W1 (by simp[rawInt])];refine T0<|B62 gT dT (B39.mp h3).1 ?_;have other:∀b,b≠T->(s.heap.update T (SB (·.setIfInBounds 3 SZ))).get? b=s.heap.get? b:=λ b hb=>A63 _ _<|A07 hb;have apart:∀b o,s.heap.get? b=AC o->(∀vs,o.data≠.fields vs)->b≠T:=λ b o q n z=>by rw[z,gT]at q;cases q;exact n ts dT
  have inT:T∈uM (X.env::X.outer)++[e,T]:=A43 _ ∅;refine Kz hfr ((funFrames_hide Lr H_).of_keeps λ b o q n=>⟨o,(other b<|apart b o q n).trans q,rfl⟩) LG ((other e<|A07 YE).trans he)
   (λ b o q=>(other b λ z=>by rw[z,B68 _ inT]at q;cases q).trans<|of_hideAll _ q) (B68 _<|A43 _ ∅) hd (B39.mp h1).1 λ h' T' oT2 Qn k1 k2 g1 g2 g3 g4 g5 g6 k4=>k _ ?_
  rw[<-pW]at k1 k2 g2;have J:=Inv.snap (t':=s.toks) I off k1 λ b o q n=>k4 b o ((other b<|apart b o q n).trans q) n;let⟨n1,n2,n3⟩:=Aa hex I off k2 g2 g4 g5;have sz:=(B39.mp h1).1;exact⟨J,⟨t.off.free,t.off.new,t.off.pin,_,_,g1,A72 hd _⟩,_,_,T',oT2,Qn,g1,(C08 _ _).trans kN,(my _ _).trans Tw,A72 hd _,by simp[sz],g3,⟨n1,n2,n3,oT2,Qn,g4,g5⟩,g4,g5,g6,λ z=>nomatch z⟩
theorem land(c:Y8 X χ σ H s e C dd l)(k:∀s',Y8 X χ σ H s' e C dd Ch->Q () s'):EQ M A (setFlight (.ref e) At) Q E s:=by
 let⟨oe,vs,T,oT,ts,he,kN,Tw,hd,h1,YE,MX,gT,dT,h3,_⟩:=c.ex;refine wpAny_setFlight_none he hd h1 gT dT h3<|k _ ?_;have other:∀b o,b≠T->s.heap.get? b=AC o->(s.heap.update T (SB (·.setIfInBounds 3 .none))).get? b=AC o:=λ b o hb q=>(A63 _ _<|A07 hb).trans q;have gT2:=A85 (SB (·.setIfInBounds 3 SZ)) gT<|B63<|A72 dT _;have off:∀a∈[T],o9 X χ H s a:=λ a ha=>by rw[A21.mp ha];exact MX
 have J:=Inv.snap (t':=s.toks) c.inv off (λ b o q=>by
  by_cases hb:b=T
  .rw[hb,B68 _<|A43 _<|A21.mpr rfl]at q;cases q
  .exact other b o hb<|of_hideAll _ q) λ b o q n=>⟨_,other b o (λ z=>by rw[z,gT]at q;cases q;exact n ts dT) q⟩
 have LH:=other e oe (A07 YE) he;exact⟨J,⟨c.off.free,c.off.new,c.off.pin,oe,vs,LH,hd⟩,oe,vs,T,_,_,LH,kN,Tw,hd,h1,YE,⟨MX.free,MX.new,MX.pin,_,_,gT2,A72 dT _⟩,gT2,A72 dT _,by simpa using h3,λ _=>by simp[h3]⟩
end
theorem xh{K:Da}
 (I:Inv (d6 (wG P w) P w K mg base N qual scope f cd A outer s0 H0 E) χ σ H s) (t:OU (d6 (wG P w) P w K mg base N qual scope f cd A outer s0 H0 E) χ H s e C dd) (hE:E (.ref C) dd H) :
 (d6 (wG P w) P w K mg base N qual scope f cd A outer s0 H0 E).xe (.ref e) s:=by
 show EQ _ (d6 (wG P w) P w K mg base N qual scope f cd A outer s0 H0 E).A _ (λ _ S?=>wG P w outer H0 s0 E _ S?) _ s;refine T0<|AB rfl rfl rfl I t λ s1 c1=>land c1 λ s2 c2=>?_;let⟨oe,vs,T,oT,ts,q1,q2,qd,q3,q4,q5,q6,q7,q8,q9,ZR⟩:=c2.ex;exact⟨e,C,dd,H,rfl,c2.inv.os,c2.inv.bare,c2.inv.base,c2.inv.bY,⟨c2.off.new,c2.off.free,oe,vs,T,oT,ts,q1,q2,qd,q3,q4,q5,q6.free,q6.new,q7,q8,ZR rfl⟩,hE⟩
theorem HS(hex:X.ex=[])(I:Inv X χ σ H s)(c:wG X.prog X.w X.stack H s E ev s'):
 ∃e C dd H',ev=.ref e/\Inv X χ σ H' s'/\OU X χ H' s' e C dd/\E (.ref C) dd H':=by
 let⟨e,C,dd,H',rfl,os,bare,un,bY,⟨ne,fe,oe,vs,T,oT,ts,q1,q2,qd,q3,q4,q5,q6,q7,q8,q9,ZR⟩,hE⟩:=c;have J:=I.K7 os un bY bare λ b hb=>absurd hb ∅;have ab:∀a,s.heap.get? a=At->X.s₀.heap.get? a=At/\∀p∈X.pn++χ,p.1≠a:=λ a h=>by
  rcases absent I h with z|z
  .exact⟨z.2,λ p hp q=>by rw[<-q,(I.pin p hp).1]at h;cases h⟩
  .rw[hex]at z;cases z
 exact⟨e,C,dd,H',rfl,J,⟨⟨fe,(ab e ne).1,(ab e ne).2,oe,vs,q1,q3⟩,oe,vs,q1,q2,qd,q3,.inr ⟨T,oT,ts,q4,q5,⟨q6,(ab T q7).1,(ab T q7).2,oT,ts,q8,q9⟩,q8,q9,ZR⟩⟩,hE⟩
theorem D'(hex:X.ex=[])(I:Inv X χ σ H s)(hm:cr s.heap h' e (.ref C) vs):
 Inv X χ σ H {s with heap:=h'}/\OU X χ H {s with heap:=h'} e C At:=by
 have J:=I.kept (t':=s.toks) hm.keeps;let⟨t,ht,_,_⟩:=hm.there;refine⟨J,?_⟩;rcases absent I hm.new with z|z
 .exact⟨⟨z.1,z.2,λ p hp q=>(by have:=(I.pin p hp).1;rw[q,hm.new]at this;cases this),_,_,ht,rfl⟩,_,_,ht,rfl,rfl,rfl,.inl rfl⟩
 .rw[hex]at z;cases z
theorem PA.gy(h:PA X.gy es t):PA X es t:=λ pos χ s σ H Q I hw=>A19 (h pos χ s σ H Q (I.wish _) hw) (by rintro _ _ ⟨vs,H',I',r,q⟩;exact⟨vs,H',I'.gD,r,q⟩) λ _ _ z=>GM z
theorem PS.gy{st:η}(h:PS X.gy st t):PS X st t:=λ χ s σ H D I hw=>A19 (h χ s σ H D (I.wish _) hw) (λ _ _ q=>q.gD) λ _ _ z=>GM z
def W?(X:Cx)(σ:St)(H:Hp)(c:Z.XN):Prop:=∀χ H' s e C dd,aJ H H'->ro X.K H' c C dd->Inv X χ σ H' s->OU X χ H' s e C dd->X.xe (.ref e) s
def Xw(X:Cx)(H0:Hp)(c:Z.XN):Prop:=∀χ σ H' s e C dd,aJ H0 H'->ro X.K H' c C dd->Inv X χ σ H' s->OU X χ H' s e C dd->X.xe (.ref e) s
theorem W?.up(h:W? X σ H c)(e:aJ H H'):W? X σ H' c:=λ χ H2 s a C dd sm=>h χ H2 s a C dd<|e.trans sm
def xR(X:Cx)(f:Z.XF)(σ:St)(H:Hp):Prop:=∃ρ c,RE X.K H σ ρ/\f ρ=AC c/\W? X σ H c
abbrev XE(X:Cx)(e:ι)(f:Z.XF):Prop:=PE X e λ σ H _=>xR X f σ H
structure _root_.ZQ.SQ(X:Cx)(e:Expr)(f:Z.XF):Prop where p:XE X e f
abbrev XR(X:Cx)(st:η)(f:Z.XF):Prop:=PS X st λ _ σ H=>xR X f σ H
structure _root_.ZQ.QXR(X:Cx)(st:Stmt)(f:Z.XF):Prop where p:XR X st f
abbrev XRs(X:Cx)(zp:γ η)(f:Z.XF):Prop:=rp X zp λ _ σ H=>xR X f σ H
structure _root_.ZQ.OZ(X:Cx)(zp:List Stmt)(f:Z.XF):Prop where p:XRs X zp f
def xS(X:Cx)(H0:Hp)(f:Z.XF)(σ:St)(H:Hp):Prop:=∃ρ c,RS X.K H0 H σ ρ/\f ρ=AC c/\Xw X H0 c
abbrev XS(X:Cx)(H0:Hp)(st:η)(f:Z.XF):Prop:=PS X st λ _ σ H=>xS X H0 f σ H
structure _root_.ZQ.P8(X:Cx)(H0:Hp)(st:Stmt)(f:Z.XF):Prop where p:XS X H0 st f
abbrev T3(X:Cx)(H0:Hp)(zp:γ η)(f:Z.XF):Prop:=rp X zp λ _ σ H=>xS X H0 f σ H
structure _root_.ZQ.zl(X:Cx)(H0:Hp)(zp:List Stmt)(f:Z.XF):Prop where p:T3 X H0 zp f
theorem xS.r(h:xS X H0 f σ H):xR X f σ H:=by let⟨ρ,c,rs,e,k⟩:=h;exact⟨ρ,c,rs.re,e,λ χ H' s a C dd sm=>k χ σ H' s a C dd<|rs.same.trans sm⟩
def abi(C:δ)(h:ν):Prop:=∃(tl:γ ζ)(ns:δ)(nm qn:Str)(bs:γ ζ)(hd:Bool)(sn:γ Str)(sub:γ ζ)(ab:Bool)(col:ε Bool)(dd:ε δ)(s0 s1 s2 s3 s5:ε ζ),
 h.get? C=AC (excClassObj nm qn C ns bs tl hd sn sub ab col dd s0 s1 s2 s3 s5 "ValueError.__new__")/\tl.contains (.type "BaseException")=Ch
theorem aaW{K:FS}(X:K.In h)(xc:XC K c C):abi C h:=by
 have q:=xc.2;unfold zG at q;split at q
 .rename_i dd cd sl ho;split at q
  .rename_i C' tl s0 s1 s2 s3 id s5 e1 e2;simp only[A49,A27,B67]at q;let⟨⟨⟨rfl,rfl⟩,r1⟩,r2⟩:=q;cases cd;dsimp only at e1 r1;subst e1 r1;obtain rfl:sl=#[s0,s1,s2,s3,AC (.builtin "ValueError.__new__"),s5]:=by cases sl;simp only at e2;rw[e2]
   exact⟨tl,_,_,_,_,_,_,_,_,_,dd,s0,s1,s2,s3,s5,X _ _ ho,r2⟩
  .cases q
 .cases q
def abj(C:δ)(h:ν):Prop:=∃(tl:γ ζ)(ns:δ)(nm qn:Str)(bs:γ ζ)(hd:Bool)(sn:γ Str)(sub:γ ζ)(ab:Bool)(col:ε Bool)(dd:ε δ)(s0 s1 s2 s3 s5:ε ζ)(mN:Str->ε ζ),
 h.get? C=AC (excClassObj nm qn C ns bs tl hd sn sub ab col dd s0 s1 s2 s3 s5 "ValueError.__new__")/\h.Ns ns mN/\mN "__init__"=At/\OwnTail h [.type "ValueError",.type "Exception",.type "BaseException",.type "object"] tl
theorem aaX{K:FS}(X:K.In h)(q:excIn K C [.type "ValueError",.type "Exception",.type "BaseException",.type "object"] "ValueError.__new__"=Ch):abj C h:=by
 unfold excIn at q;split at q
 .rename_i dd cd sl ho;split at q
  .rename_i C' tl s0 s1 s2 s3 id s5 e1 e2;simp only[A49,A27,B67]at q;let⟨⟨⟨⟨⟨rfl,rfl⟩,r1⟩,r2⟩,r3⟩,r4⟩:=q;cases cd;dsimp only at e1 r1 r3 r4;subst e1 r1;obtain rfl:sl=#[s0,s1,s2,s3,AC (.builtin "ValueError.__new__"),s5]:=by cases sl;simp only at e2;rw[e2]
   exact⟨tl,_,_,_,_,_,_,_,_,_,dd,s0,s1,s2,s3,s5,_,X _ _ ho,.of_isNs<|isNs_of_in X r3,nsMap_none_of_in X r3 r4,tail_of_in X r2⟩
  .cases q
 .cases q
def XA(K:Da)(m:γ Z.D->ε Z.XN):Sp:=λ vs H _ E=>∃ds c,aG K H ds vs/\m ds=AC c/\∀C dd H',aJ H H'->ro K H' c C dd->E (.ref C) dd H'
structure vq(P:Program)(w:World)(K:Da)(mg:Str->Option Value)(base:Heap)(x:Str)(k:Nat)(ps:List Str)(m:List Z.D->Option Z.XN):Prop where
 ex:∃g fd,eY P w K mg base (wG P w) k g fd ps (XA K m)/\mg x=AC (.ref g)/\FM K (.ref g)=Ch/\Binds K fd ps []
theorem _root_.ZQ.D5(C:vq X.prog X.w X.K X.mg X.base x k ps m)(hr:bL k X.A)(hg:Gl X x)
 (ha:ZQ.QA X.gy (e::es) ar) (hex:X.ex=[]:=by rfl) (gQ:(x==("__debug__"))=AT:=by decide +kernel) (he:Se e es X.env:=by rfl) (fU:Pn pos es X.env:=by rfl) :
 ZQ.SQ X (.Call (.Name x p1) (e::es) [] pos) (Z.fg m ar):=⟨by
 let⟨g,fd,F,hm,hk,hb⟩:=C.ex;intro χ s σ H Q I h;let⟨ρ,c,re,ec,kw⟩:=h;unfold Z.fg at ec;split at ec
 .rename_i ds ed;refine A80<|nc I hg hm ?_ gQ;refine B02 I.ok.mod.Lx hk (cG (PA.gy ha.p pos χ s σ H (λ vs H1=>aJ H H1/\aG X.K H1 ds vs) I ⟨ρ,ds,re,ed,λ vs H1 s1 d1=>⟨s1,d1⟩⟩) λ us s1 ⟨vs,H1,I1,r,sm,d1⟩=>⟨I1.l3,?_⟩) he fU;have BV:XA X.K m vs H1 (λ _ _=>False) (λ cv dd H'=>∃C,cv=.ref C/\ro X.K H' c C dd/\aJ H1 H'):=⟨ds,c,d1,ec,λ C' dd H' s2 x2=>⟨C',rfl,x2,s2⟩⟩
  have hl:=F.len _ _ _ _ BV;refine A91<|A74 (F.run X.A X.stack s1 H1 ⟨us,[]⟩ us vs _ _ hr I1.Ky (by have:=hb s1 us I1.l3 (by rw[A51,<-r.length];exact hl);simpa using this) r BV) λ rr s' hq=>?_;cases rr with
  |ok fl=>
   cases fl with
   |ret u=>let⟨v,H2,_,_,_,_,_,q⟩:=hq;exact q.elim
   |_=>exact hq.elim
  |error ev=>have hq:wG X.prog X.w X.stack H1 s1 (λ cv dd H'=>∃C,cv=.ref C/\ro X.K H' c C dd/\aJ H1 H') ev s':=hq;let⟨a,C',dd,H',rfl,J,th,C2,hc,x2,s2⟩:=HS hex I1 hq;cases hc;exact kw χ H' s' a C' dd (sm.trans s2) x2 J th
 .cases ec⟩
section
variable{st:η}
theorem _root_.ZQ.xN{i:Nat}(hN:X.N.Nodup)(hi:X.N[i]?=AC x)(hx:Loc X.env.scope x)(h:ZQ.SQ X a f)(hs:swapsWith a (AC<|.Name x pos') pos.line X.env=pure AT:=by rfl)(hf:Fl X x:=by trivial):ZQ.P8 X H0 (.Assign [.Name x pos'] a pos) f:=
 ⟨PS.imp (qL hN hi hx h.p hs hf) λ D σ H q=>q.r⟩
theorem _root_.ZQ.Qa(h:ZQ.SQ X a f):ZQ.P8 X H0 (.Return (AC a) pos) f:=⟨PS.imp (IJ h.p) λ D σ H q=>q.r⟩
theorem _root_.ZQ.sO(h:ZQ.SQ X a f)(hs:swapsWith a At pos.line X.env=pure AT:=by rfl):ZQ.QXR X (.Expr a pos) f:=⟨pF h.p hs⟩
theorem _root_.ZQ.zC(hc:ZQ.QT X.gy c t)(h1:ZQ.zl X H0 b1 xa)(h2:ZQ.zl X H0 b2 xb):ZQ.P8 X H0 (.If c b1 b2 pos) (Z.zH t xa xb):=⟨PS.imp (Et (PT.gy hc.p) h1.p h2.p) <|by
 rintro D σ H ⟨ρ,c,rs,ec,kw⟩;unfold Z.zH at ec;split at ec
 .rename_i b eb;refine⟨ρ,b,rs.re,eb,λ H1 s1=>?_⟩;cases b with
  |true=>exact⟨ρ,c,rs.up s1,by simpa using ec,kw⟩
  |false=>exact⟨ρ,c,rs.up s1,by simpa using ec,kw⟩
 .cases ec⟩
theorem _root_.ZQ.O?(hc:ZQ.QT X.gy c t)(h1:ZQ.OZ X b1 xa)(h2:ZQ.OZ X b2 xb):ZQ.QXR X (.If c b1 b2 pos) (Z.zH t xa xb):=⟨PS.imp (Et (PT.gy hc.p) h1.p h2.p) <|by
 rintro D σ H ⟨ρ,c,re,ec,kw⟩;unfold Z.zH at ec;split at ec
 .rename_i b eb;refine⟨ρ,b,re,eb,λ H1 s1=>?_⟩;cases b with
  |true=>exact⟨ρ,c,re.up s1,by simpa using ec,kw.up s1⟩
  |false=>exact⟨ρ,c,re.up s1,by simpa using ec,kw.up s1⟩
 .cases ec⟩
theorem _root_.ZQ.D4:ZQ.P8 X H0 st Z.vE:=⟨by rintro _ _ _ _ _ _ ⟨_,_,_,e,_⟩;exact nomatch e⟩
theorem _root_.ZQ.j5:ZQ.zl X H0 zp Z.vE:=⟨by rintro _ _ _ _ _ _ ⟨_,_,_,e,_⟩;exact nomatch e⟩
theorem _root_.ZQ.kO(h:ZQ.P8 X H0 st f):ZQ.zl X H0 [st] f:=⟨mZ h.p⟩
theorem _root_.ZQ.mW(h:ZQ.QXR X st f):ZQ.OZ X [st] f:=⟨mZ h.p⟩
theorem _root_.ZQ.d!(h1:ZQ.QS X.gy H0 st g)(x1:ZQ.P8 X H0 st xa)(x2:ZQ.zl X H0 zp xb):ZQ.zl X H0 (st::zp) (Z.jf g xa xb):=⟨by
 have h1:=h1.p;have x2:=x2.p;intro χ s σ H D I h;let⟨ρ,c,rs,ec,kw⟩:=h;unfold Z.jf at ec;split at ec
 .rename_i c' e1;cases ec;exact ji x1.p x2 χ s σ H D I ⟨ρ,c,rs,e1,kw⟩
 .split at ec
  .rename_i ρ' e2;refine ji (PS.gy h1) x2 χ s σ H D I ⟨ρ,_,rs,e2,λ σ' H' _ En=>⟨ρ',c,En,ec,kw⟩⟩
  .cases ec⟩
theorem _root_.ZQ.tu(hc:X.calm=Ch)(hex:X.ex=[])(hg:Gl X x)(hcx:(⟨c.toArray⟩)=x)(xc:XC X.K c C)(xi:excIn X.K C [.type "ValueError",.type "Exception",.type "BaseException",.type "object"] "ValueError.__new__"=Ch)(ha:ZQ.QE X.gy a fa)
 (gQ:(x==("__debug__"))=AT:=by decide +kernel) (he:Se a [] X.env:=by rfl) (fU:(backTo jM<|starEach (a::[]) X.env).any (·.1)=AT:=by rfl) :
 ZQ.P8 X H0 (.Raise (AC<|.Call (.Name x np) [a] [] jM) At pos) (Z.kT c fa):=⟨by
 intro χ s σ H D I h;let⟨ρ,c',rs,ec,kw⟩:=h;unfold Z.kT at ec;split at ec
 .rename_i d ed;cases ec;have hm:X.mg x=AC (.ref C):=by have:=A22 I.l3 (I.mod.glob.keeps I.bk) xc.1;rw[hcx]at this;exact this
  let⟨tl,ns,nm,qn,bs,hd,sn,sub,ab,col,dd,s0,s1,s2,s3,s5,mN,hC,hN,hni,T⟩:=aaX I.mod.Lx xi;refine wpAny_Raise_call_subT (nm:=nm) (q:=qn) (N:=ns) (bs:=bs) (bm:=tl) (hdct:=hd) (sn:=sn) (sub:=sub) (ab:=ab) (col:=col) (dd:=dd) (k0:=s0) (k1:=s1) (k2:=s2) (k3:=s3) (k5:=s5)
   F.excBase_ValueError (mN:=mN) (T.hasType F.excBase_ValueError.hasBase) (I.ok.hd hc) fU hni<|nc I hg hm ⟨rfl,?_⟩ gQ
  have P:=bM (PE.gy ha.p) cX he jM χ s σ H (λ vs H1=>aJ H H1/\vs.length=1) I ⟨ρ,d,rs.re,ed,λ v H1 s1 d1=>⟨s1,rfl⟩⟩;rw[he]at P ⊢;refine B95<|A19 P (λ us s1 ⟨vs,H1,I1,r,sm,hl⟩=>⟨rfl,?_,I1.bk _ _ hC,hN.keeps I1.bk,T.keeps I1.bk,λ h' ex hmk=>?_⟩) λ _ _ z=>z
  .skip
   rw[<-r.length,hl,A23];decide
  .let⟨J,th⟩:=D' hex I1 hmk;exact kw χ σ H1 _ ex C At (rs.same.trans sm) ⟨xc,rfl⟩ J th
 .cases ec⟩
end
section
variable{K:Da}
theorem fnX{st:η}{dV kV doc pm bf ct oc:ζ}
 (lk:K.lookup f=AC ⟨oc,od,.func<|PySem.W.fnOf name qual (bE st) (aL st) (aj st) dV kV doc pm an bf ct,ui⟩) (n4:On K bf qual=Ch) (S:a9 N ps (aj st))
 (hb:∀ A outer s H E,bL k (A.deeper<|envOfC qual (aj st) s.heap.objs.size f bf) ->
  T3 (d6 (wG P w) P w K mg base N qual (aj st) f bf A outer s H E) H (aL st) xb):eY P w K mg base (wG P w) (k+1) f (NE name qual (bE st) (aL st) (aj st) dV kV doc pm an bf ct) ps (XA K<|Z.fx ps.length N.length xb):=by
 have ψ:∀vs H Q E,XA K (Z.fx ps.length N.length xb) vs H Q E->vs.length=ps.length:=by
  rintro vs H Q E ⟨ds,d,t,e,_⟩;unfold Z.fx at e;split at e
  .rename_i h;rw[t.length];exact h
  .cases e
 refine uO lk n4 S ψ λ A outer s H vs Q E hr h=>?_;refine⟨_,hb A outer s H E hr,?_⟩;have hl:=ψ vs H Q E h;let⟨ds,c,t,e,k⟩:=h;have fU:ps.length<=N.length:=by have:=A11 List.length S.pre;rw[A24]at this;lia
 have rs:RS K H H (L2.start N vs) (Z.start N.length ds):=mX t ∅;unfold Z.fx at e;split at e
 .exact⟨_,c,rs,e,λ χ σ H' s' a C dd sm xc I th=>xh I th<|k C dd H' sm xc⟩
 .cases e
theorem vq.mk'{st:η}(d:Def K mg x st ps)(S:a9 N ps (aj st))
 (hb:∀ f bf A outer s H E,bL k (A.deeper<|envOfC x (aj st) s.heap.objs.size f bf) ->
  T3 (d6 (wG P w) P w K mg base N x (aj st) f bf A outer s H E) H (aL st) xb):vq P w K mg base x (k+1) ps (Z.fx ps.length N.length xb):=by
 let⟨f,fd,F,hm,sX⟩:=d.ex;have kp:=F.kp;let⟨oc,od,kV,doc,pm,an,bf,ct,ui,rfl,lk,n4⟩:=F.ex;exact⟨f,_,fnX lk n4 S<|hb f bf,hm,kp,sX⟩
theorem vq.mkD{st:η}(d:Ho K mg x st ps)(S:a9 N ps (aj st))
 (hb:∀ f bf A outer s H E,bL k (A.deeper<|envOfC x (aj st) s.heap.objs.size f bf) ->
  T3 (d6 (wG P w) P w K mg base N x (aj st) f bf A outer s H E) H (aL st) xb):vq P w K mg base x (k+1) ps (Z.fx ps.length N.length xb):=by
 let⟨f,fd,F,hm,sX,_⟩:=d.ex;have kp:=F.kp;let⟨t,oc,od,kV,doc,pm,an,bf,ct,ui,rfl,lk,n4⟩:=F.ex;exact⟨f,_,fnX lk n4 S<|hb f bf,hm,kp,sX⟩
end
abbrev FX(X:Cx)(pn:γ (δ×μ))(E:ζ->θ->Prop):Cx:={X with pn:=pn,xe:=E}
abbrev N3(X:Cx)(ev:ζ):Cx:={X with A:=X.A.mark<|some ev,calm:=AT}
theorem Q?(ok:X.Ok)(pn:γ _)(E:ζ->θ->Prop):(FX X pn E).Ok:=
 ⟨ok.mod,ok.kind,ok.glob,ok.blt,ok.above,ok.inj,ok.has,ok.Sz,ok.hd,ok.frames,ok.Lr,ok.YN,ok.bs,ok.HB,ok.AG,ok.G0,ok.mG,ok.Kj⟩
theorem Ra(ok:X.Ok)(ev:ζ):(N3 X ev).Ok:=
 ⟨ok.mod,ok.kind,ok.glob,ok.blt,ok.above,ok.inj,ok.has,ok.Sz,λ z=>(nomatch z),ok.frames,ok.Lr,ok.YN,ok.bs,ok.HB,ok.AG,ok.G0,ok.mG,ok.Kj⟩
theorem NM(I:Inv X χ σ H s)(E:ζ->θ->Prop):Inv (FX X (X.pn++χ) E) [] σ H s:=⟨Q? I.ok _ E,I.os,I.bare,I.base,I.loc,I.cell,I.free,I.g0,λ p hp=>I.pin p (by simpa using hp),I.bY,I.len,I.tab⟩
theorem C7(ok:X.Ok)(I:Inv (FX X (X.pn++χ) E) nQ σ H s):Inv X χ σ H s:=⟨ok,I.os,I.bare,I.base,I.loc,I.cell,I.free,I.g0,λ p hp=>I.pin p<|A79 _ hp,I.bY,I.len,I.tab⟩
theorem uq(o:o9 (FX X (X.pn++χ) E) nQ H s a):o9 X χ H s a:=⟨o.free,o.new,λ p hp=>o.pin p<|A79 _ hp,o._o⟩
theorem Ci(t:OU (FX X (X.pn++χ) E) nQ H s e C dd):OU X χ H s e C dd:=by
 let⟨oe,vs,he,kN,Tw,hd,h1⟩:=t.ex;refine⟨uq t.off,oe,vs,he,kN,Tw,hd,?_⟩;rcases h1 with h1|⟨T,oT,ts,h1,h2,h3,h4⟩
 .exact .inl h1
 .exact .inr ⟨T,oT,ts,h1,h2,uq h3,h4⟩
theorem NN(I:Inv X χ σ H s)(ev:ζ):Inv (N3 X ev).gy χ σ H s:=⟨(Ra I.ok ev).wish _,I.os,I.bare,I.base,I.loc,I.cell,I.free,I.g0,I.pin,I.bY,I.len,I.tab⟩
theorem lr(ok:X.Ok)(I:Inv (N3 X ev).gy χ σ H s):Inv X χ σ H s:=⟨ok,I.os,I.bare,I.base,I.loc,I.cell,I.free,I.g0,I.pin,I.bY,I.len,I.tab⟩
theorem JH(I:Inv X χ σ H s)(hg:Gl X x)(hm:X.mg x=AC u)(h:Q u s)
 (hd:(x==("__debug__"))=AT):EQ M A (eval (.Name x pos) X.env) Q E s:=
 B74 I.ok.kind hg (Calls.loadGlobal_global (by rw[I.ok.glob];exact I.mod.glob.keeps I.bk) hm h) hd
section
variable{K:Da}
end
section
variable{X:Cx}
end
section
variable{K:Da}
end
end ZS
namespace ZQ
open L2 ZS PySem.W
section
variable{K:Da}
theorem WY{st:η}(d:Def K mg x st ps)(hb:∀{f}{bf}{A}{outer}{s}{H}{E},N.Nodup->(A.deeper<|envOfC x (aj st) s.heap.objs.size f bf).units+64<cLine->bL k (A.deeper<|envOfC x (aj st) s.heap.objs.size f bf)->zl (d6 (wG P w) P w K mg base N x (aj st) f bf A outer s H E) H (aL st) xb)(S:a9 N ps (aj st):=by exact ZS.Dg):vq P w K mg base x (k+1) ps (Z.fx ps.length N.length xb):=vq.mk' d S λ f bf A outer s H E hr=>(hb S.nd hr.units hr).p
theorem Sw{st:η}(d:Ho K mg x st ps)(hb:∀{f}{bf}{A}{outer}{s}{H}{E},N.Nodup->(A.deeper<|envOfC x (aj st) s.heap.objs.size f bf).units+64<cLine->bL k (A.deeper<|envOfC x (aj st) s.heap.objs.size f bf)->zl (d6 (wG P w) P w K mg base N x (aj st) f bf A outer s H E) H (aL st) xb)(S:a9 N ps (aj st):=by exact ZS.Dg):vq P w K mg base x (k+1) ps (Z.fx ps.length N.length xb):=vq.mkD d S λ f bf A outer s H E hr=>(hb S.nd hr.units hr).p
end
end ZQ
namespace Z
end Z
namespace ZS
open L2 PySem.W
end ZS
namespace ZQ
open L2 ZS PySem.W
end ZQ
namespace Z
end Z
namespace ZS
open L2 PySem.W
end ZS
namespace ZQ
open L2 ZS PySem.W
end ZQ
namespace ZS
open L2 PySem.W
def sR:γ ζ->Bool
|.ref _::r=>sR r
|l=>l==[.type "ValueError",.type "Exception",.type "BaseException",.type "object"]
theorem Cv(self:ζ)(e:sR l=Ch):refuseLoop self "__setattr__" l=pure ()/\l.contains (.type "object")=Ch/\l.isEmpty=AT:=by
 induction l with
 |nil=>cases e
 |cons a r ih=>
  unfold sR at e;split at e
  .rename_i c r' q;cases q;let⟨h1,h2,_⟩:=ih e;exact⟨by rw[refuseLoop_ref];exact h1,by rw[C20,h2,C21],rfl⟩
  .rw[A27.mp e];exact⟨PySem.F.store_ValueError.passes self,by decide +kernel,rfl⟩
structure vn(K:Frag)(C:Addr):Prop where
 sa:findIn K (.ref C) "__setattr__"=AC (AC<|.builtin "object.__setattr__")
 mr:(clsIn K C).any (λ cd=>sR cd.mro)=Ch
 hd:hasDictIn K C=Ch
section
variable{K:Frag}
theorem Bl(k:vn K C)(X:K.In s.heap)(I:InstAt s.heap x ox C od)(ht:findIn K (.ref C) name=AC At)
 (h:∀ b,EQ (model prog w) A.in1 (Builtin.ObjectAttr.storeInOwnDict (.ref x) (.ref C) (.str name tk) name v b)
  (λ fin s'=>match fin with| .done f=>R (.ok f) s'| .again c'=>c'.quiet=Ch/\codeAny (model prog w) A c' R s') (λ e s'=>R (.error e) s') s) :
 codeAny (model prog w) A (.call (.builtin "object.__setattr__") ⟨[.ref x,.str name tk,v],[]⟩) R s:=by
 have SF:=PySem.F.store_object;let⟨cd,hc,ho⟩:=any_some k.mr;let⟨r1,r2,r3⟩:=Cv (.ref x) ho;have sub:Looks (model prog w) _ (isInstance _ _) Ch:=I.type.andThen<|looks_mroIn X (by unfold mroIn;rw[hc,C14,W1 (by rw[r3];decide),r2]);have hm:Looks (model prog w) _ (mroOf<|.ref C) _:=(looks_clsIn X hc).andThen .now;refine codeAny_call_builtin SF.slot.plain SF.entry<|@check_slot (model prog w) _ _ s "object.__setattr__" "object" "__setattr__" (.ref x) [.str name tk,v] [] _ SF.kind SF.split sub (SF.args (.ref x) (.str name tk) v) ?_;rw[osa_eq,refuse_eq];refine T0<|T0<|I.type.here<|T0<|hm.here ?_;rw[r1];exact P3<|T0<|I.type.here<|T0<|(looks_findIn X ht).here<|T0<|P3<|h _
theorem Kr(k:vn K C)(X:K.In s.heap)(hx:s.heap.get? x=AC ox)(kN:ox.cls=.ref C)(hd:ox.dict=At)(qw:∃vs,ox.data=.fields vs)(ht:findIn K (.ref C) name=AC At)
 (h:∀h' dx,s.heap.objs.size<=dx->h'.get? x=AC {ox with dict:=AC dx}->h'.Ns1 dx (λ y=>if y=name then AC v else At)->(∀b o,b≠x->s.heap.get? b=AC o->h'.get? b=AC o)->∀tk,Q () {s with heap:=h',toks:=tk}) :
 EQ (model prog w) A (setAttr (.ref x) name v) Q E s:=by
 let⟨vs,qw⟩:=qw;have I:InstAt _ x ox C At:=⟨hx,kN,by unfold notCls;rw[qw],by rw[hd];trivial⟩
 refine B77 X I k.sa<|Bl k X I ht λ b=>?_;let⟨cd,hc,o!⟩:=any_some k.hd;let⟨oc,odi,oda,ui⟩:=ox;dsimp only at kN hd qw;subst kN hd qw;have hxs:=A13<|A00 hx;have VZ:(s.heap.push {cls:=.type "dict",data:=.dict #[]}).get? x=AC _:=v6 _ hx;refine T0<|P3<|T0<|T0<|B78 hx<|T0<|B79 (B80 X hc) ?_;rw[o!];refine T0<|wpAny_alloc'<|T0<|wpAny_update' VZ<|P3 ?_;have YA:((s.heap.push {cls:=.type "dict",data:=.dict #[]}).update x λ o=>{cls:=o.cls,dict:=AC s.heap.objs.size,data:=o.data,slots:=o.slots}).get? s.heap.objs.size=AC {cls:=.type "dict",data:=.dict #[]}:=
  (lf _ _ _ _ hxs.symm).trans<|Heap.get?_push_at rfl rfl
 have JZ:((s.heap.push {cls:=.type "dict",data:=.dict #[]}).update x λ o=>{cls:=o.cls,dict:=AC s.heap.objs.size,data:=o.data,slots:=o.slots}).Ns s.heap.objs.size (λ _=>At):=⟨_,#[],_,YA,rfl,λ e he=>absurd he ∅,λ _=>rfl⟩
 refine T0<|P3<|T0<|wpAny_nsSet1 (Heap.Ns1.of_empty JZ) λ h' Hw yL=>?_;let⟨oD,esD,epD,V9,Wl,Wo⟩:=Hw.count (Within.cons name v Within.nil);refine T0<|B82 V9 (by rw[Wl];exact B83<|A15 Wo (by rw[A33,B97,A23];lia))<|P3 ?_;refine h h' s.heap.objs.size (v4 _) ((yL.2 x hxs).trans<|A85 _ VZ rfl) Hw (λ b o hb q=>(yL.2 b<|A13<|A00 q).trans<|(lf _ _ _ _ hb).trans<|v6 _ q) _
theorem Kq(k:vn K C)(X:K.In s.heap)(hx:s.heap.get? x=AC ox)(kN:ox.cls=.ref C)(hd:ox.dict=AC dx)(qv:dx≠x)(qw:∃vs,ox.data=.fields vs)(ht:findIn K (.ref C) name=AC At)
 (hn:s.heap.Ns1 dx mA) (hw:Within mA ns) (hz:ns.length<=1000)
 (h:∀h',h'.Ns1 dx (λ y=>if y=name then AC v else mA y)->IN dx s.heap h'->∀tk,Q () {s with heap:=h',toks:=tk}) :
 EQ (model prog w) A (setAttr (.ref x) name v) Q E s:=by
 let⟨vs,qw⟩:=qw;let⟨o0,_,_,ho0,_⟩:=id hn;have I:InstAt _ x ox C (AC o0):=⟨hx,kN,by unfold notCls;rw[qw],by rw[hd];exact ho0⟩
 refine B77 X I k.sa<|Bl k X I ht λ b=>?_;let⟨cd,hc,o!⟩:=any_some k.hd;let⟨oc,odi,oda,ui⟩:=ox;dsimp only at kN hd qw;subst kN hd qw;refine T0<|P3<|T0<|T0<|B78 hx<|T0<|B79 (B80 X hc) ?_;rw[o!];refine P3<|T0<|P3<|T0<|wpAny_nsSet1 hn λ h' Hw yL=>?_;let⟨oD,esD,epD,V9,Wl,Wo⟩:=Hw.count (Within.cons name v hw);exact T0<|B82 V9 (by rw[Wl];exact B83<|A15 Wo (by rw[A33,A23];lia))<|P3<|h h' Hw yL _
end
abbrev MW(e:δ)(o:μ):HO:=.ext λ h=>h.get? e=AC o
abbrev S7(d:δ)(fs:γ (Str×V)):HO:=.ext λ h=>∃mA,h.Ns1 d mA/\(∀f,l4 (fs.lookup f) (mA f))/\Within mA (fs.map (·.1))
theorem Ja(q:h.get? e=AC o):eF P w H h e (MW e o):=⟨q,⟨_,q⟩,λ _ _ z k=>k _ z⟩
theorem HF(q:h.Ns1 d mA)(r:∀f,l4 (fs.lookup f) (mA f))(wi:Within mA (fs.map (·.1))):eF P w H h d (S7 d fs):=
 ⟨⟨mA,q,r,wi⟩,let ⟨o,_,_,e,_⟩:=q;⟨o,e⟩,by rintro _ _ ⟨mA,q,r⟩ k;exact⟨mA,q.at k,r⟩⟩
section
variable{σ:St}
theorem HR(I:Inv X χ σ H s)(hn:H a=At)(h0:X.s₀.heap.get? a=At)(hl:a≠X.env.locals)(hc:∀x c,X.env.cells.lookup x=AC c->c≠a)(hp:∀p∈X.pn++χ,p.1≠a)(ok:eF X.prog X.w (upd H a o) s.heap a o):Inv X χ σ (upd H a o) s:=by
 have ne:∀b u,H b=AC u->b≠a:=λ b u q=>bh q hn;refine Ib I (λ b hb=>by rw[A21.mp hb];exact⟨h0,hl,hc,hp⟩) (λ b o _ _ _ q _=>q) (λ b o _ _ _ q _=>⟨_,q⟩)
  (λ b o hb q n=>by rw[aD λ z=>hb<|A21.mpr z];exact n) (λ b o _ q=>⟨o,q⟩) (λ b xs q=>by rw[aD<|ne b _ q];exact q) (λ b o u q=>by rw[aD<|ne b _ q];exact q) (λ b u _ q=>by rw[aD<|ne b _ q];exact q) (λ m hm=>hm) (λ b u q=>?_) I.bare
 by_cases hb:b=a
 .subst hb;rw[aM]at q;cases q;exact ok
 .rw[aD hb]at q;exact(I.bY b u q).pC (λ c v _ z=>z) (λ c z=>by rw[aD<|ne c _ z];exact z) (λ c xs z=>by rw[aD<|ne c _ z];exact z) λ c v _ z=>by rw[aD<|ne c _ z];exact z
theorem YM{a:δ}(I:Inv X χ σ H s)(h:s.heap.objs.size<=a):H a=At/\X.s₀.heap.get? a=At/\a≠X.env.locals/\(∀x c,X.env.cells.lookup x=AC c->c≠a)/\∀p∈X.pn++χ,p.1≠a:=
 ⟨I.bY.fresh h,B43<|A15 I.sz h,A42<|A18 I.lt h,λ x c e z=>by let⟨w',o,q,_⟩:=I.cell x c e;exact absurd (A00 q)<|A86.mpr<|z▸h,λ p hp z=>absurd (A00 (I.pin p hp).1)<|A86.mpr<|z▸h⟩
def tF0(C:δ)(j i:Nat)(f:Str):TS:=λ D σ H=>∃e oe v,σ[j]?=AC (AC<|.ref e)/\σ[i]?=AC (AC v)/\H e=AC (MW e oe)/\oe.cls=.ref C/\oe.dict=At/\(∃ws,oe.data=.fields ws) /\
 ∀dx,H dx=At->dx≠e->D.nx σ (upd (upd H e<|MW e {oe with dict:=AC dx}) dx<|S7 dx [(f,v)])
def tF1(C:δ)(j i:Nat)(f:Str):TS:=λ D σ H=>∃e oe v dx fs,σ[j]?=AC (AC<|.ref e)/\σ[i]?=AC (AC v)/\H e=AC (MW e oe)/\oe.cls=.ref C/\oe.dict=AC dx/\(∃ws,oe.data=.fields ws)/\dx≠e/\H dx=AC (S7 dx fs)/\fs.length<=100 /\
 D.nx σ (upd H dx<|S7 dx<|jI f v fs)
theorem Ph(k:vn X.K C)(ht:findIn X.K (.ref C) f=AC At)(ho:PE X o (mf j))(hv:PE X value (mf i))(hs:swapsWith value (AC<|.Attribute o f pos') pos.line X.env=pure AT):PS X (.Assign [.Attribute o f pos'] value pos) (tF0 C j i f):=by
 rintro χ s σ H D I ⟨e,oe,v,hj,hi,he,kN,hd,qw,q⟩;refine B85 (cG (hv χ s σ H (λ y H1=>y=v/\H1=H) I ⟨v,hi,rfl,rfl⟩) λ u s1 ⟨y,H1,I1,ry,q1,q2⟩=>cG (ho χ s1 σ H1 (λ y' H2=>y'=.ref e/\H2=H) I1 ⟨_,by rw[hj],rfl,q2⟩) ?_) hs;rintro ov s2 ⟨y',H2,I2,rx,q3,q4⟩;subst q1 q3 q4;obtain rfl:ov=Value.ref e:=rx;have hx:=(I2.bY e _ he).1;refine Kr k I2.l3 hx kN hd qw ht λ h' dx J6 Hu J0 kp tk=>?_;have J:Inv X χ σ _ {s2 with heap:=h',toks:=tk}:=I2.write (by rw[he];exact IR) (.inl rfl) (λ b o hb z=>kp b o hb z) ⟨_,Hu⟩<|Ja Hu;have ne:=A42<|A18 (A00 hx) J6;let⟨f1,f2,f3,f4,f5⟩:=YM I2 J6;exact⟨σ,_,HR J (by rw[aD ne];exact f1) f2 f3 f4 f5 (HF (fs:=[(f,_)]) J0 (λ g=>by
  by_cases z:g=f
  .subst z;simp only[A71,A94,A25];exact ry
  .simp only[A71,A61.mpr z,List.lookup_nil,W1 z];trivial)<|Within.cons f u Within.nil),q dx f1 ne⟩
theorem US(k:vn X.K C)(ht:findIn X.K (.ref C) f=AC At)(ho:PE X o (mf j))(hv:PE X value (mf i))(hs:swapsWith value (AC<|.Attribute o f pos') pos.line X.env=pure AT):PS X (.Assign [.Attribute o f pos'] value pos) (tF1 C j i f):=by
 rintro χ s σ H D I ⟨e,oe,v,dx,fs,hj,hi,he,kN,hd,qw,ne,J6,hl,q⟩;refine B85 (cG (hv χ s σ H (λ y H1=>y=v/\H1=H) I ⟨v,hi,rfl,rfl⟩) λ u s1 ⟨y,H1,I1,ry,q1,q2⟩=>cG (ho χ s1 σ H1 (λ y' H2=>y'=.ref e/\H2=H) I1 ⟨_,by rw[hj],rfl,q2⟩) ?_) hs;rintro ov s2 ⟨y',H2,I2,rx,q3,q4⟩;subst q1 q3 q4;obtain rfl:ov=Value.ref e:=rx;have hx:=(I2.bY e _ he).1;obtain⟨mA,hn,hr,hw⟩:=(I2.bY dx _ J6).1;refine Kq k I2.l3 hx kN hd ne qw ht hn hw (by rw[A05];lia) λ h' J0 sb tk=>⟨σ,_,?_,q⟩
 refine I2.write (by rw[J6];exact IR) (.inl rfl) (λ b o hb z=>(sb.2 b hb).trans z) (let ⟨o,_,_,e,_⟩:=J0;⟨o,e⟩)<|HF J0 (λ g=>?_) λ g hg=>?_
 .rw[mz];by_cases z:g=f
  .rw[M2 z,M2 z];exact ry
  .rw[W1 z,W1 z];exact hr g
 .by_cases z:g=f
  .rw[z];exact(kC f _ fs).1
  .refine(kC f _ fs).2 g<|hw g λ y=>hg ?_;rw[W1 z];exact y
end
def Uw(C:δ)(fs:γ Str):Sp:=λ vs H Q _=>∃e oe as,vs=.ref e::as/\as.length=fs.length/\H e=AC (MW e oe)/\oe.cls=.ref C/\oe.dict=At/\(∃ws,oe.data=.fields ws) /\
 ∀dx,H dx=At->dx≠e->Q .non (upd (upd H e<|MW e {oe with dict:=AC dx}) dx<|S7 dx<|fs.zip as)
theorem xT:upd (upd H a o) a o'=upd H a o':=funext λ b=>by
 by_cases h:b=a
 .subst h;rw[aM,aM]
 .rw[aD h,aD h,aD h]
section
variable{K:Frag}
theorem VV{st:η}(k:vn K C)(ht:findIn K (.ref C) a=AC At)(F:BM K "__init__" qual st f fd)(hb:aL st=[.Assign [.Attribute (.Name "self" p1) a p2] (.Name a p3) p4])
 (S:a9 ["self",a] ["self",a] (aj st)) (hv:∀x∈(["self",a]:γ Str),Hl (aj st) x) (hd:(a==("__debug__"))=AT) (hc:(a==("__classdict__"))=AT):eY P w K mg base iV 1 f fd ["self",a] (Uw C [a]):=by
 let⟨oc,od,kV,doc,pm,an,bf,ct,ui,rfl,lk,n4⟩:=F.ex;refine uO lk n4 S (by rintro vs H Q E ⟨e,oe,as,h,hl,_⟩;subst h;simp[hl]) ?_;rintro A outer s H vs Q E hr ⟨e,oe,as,h,hl,he,h1,h2,h3,q⟩;rw[hb];refine⟨_,mZ<|Ph (j:=0) (i:=1) k ht (k9 rfl (hv _<|.head _) ∅ ∅) (k9 rfl (hv _<|.tail _<|.head _) hd hc) rfl,?_⟩;subst h
 match as,hl with
 |[v],_=>exact⟨e,oe,v,rfl,rfl,he,h1,h2,h3,q⟩
theorem VU{st:η}(k:vn K C)(ht:findIn K (.ref C) a=AC At)(_z:findIn K (.ref C) b=AC At)(F:BM K "__init__" qual st f fd)
 (hb:aL st=[.Assign [.Attribute (.Name "self" p1) a p2] (.Name a p3) p4,.Assign [.Attribute (.Name "self" q1) b q2] (.Name b q3) q4]) (qv:b≠a)
 (S:a9 ["self",a,b] ["self",a,b] (aj st)) (hv:∀x∈(["self",a,b]:γ Str),Hl (aj st) x) (hd:∀x∈[a,b],(x==("__debug__"))=AT/\(x==("__classdict__"))=AT):eY P w K mg base iV 1 f fd ["self",a,b] (Uw C [a,b]):=by
 let⟨oc,od,kV,doc,pm,an,bf,ct,ui,rfl,lk,n4⟩:=F.ex;refine uO lk n4 S (by rintro vs H Q E ⟨e,oe,as,h,hl,_⟩;subst h;simp[hl]) ?_;rintro A outer s H vs Q E hr ⟨e,oe,as,h,hl,he,h1,h2,h3,q⟩;rw[hb];refine⟨_,ji (Ph (j:=0) (i:=1) k ht (k9 rfl (hv _<|.head _) ∅ ∅) (k9 rfl (hv _<|.tail _<|.head _) (hd _<|.head _).1 (hd _<|.head _).2) rfl)
 <|mZ<|US (C:=C) (j:=0) (i:=2) k _z (k9 rfl (hv _<|.head _) ∅ ∅) (k9 rfl (hv _<|.tail _<|.tail _<|.head _) (hd _<|.tail _<|.head _).1 (hd _<|.tail _<|.head _).2) rfl,?_⟩
 subst h
 match as,hl with
 |[v,u],_=>
  refine⟨e,oe,v,rfl,rfl,he,h1,h2,h3,λ dx n ne=>⟨e,{oe with dict:=AC dx},u,dx,_,rfl,rfl,by rw[aD<|A07 ne,aM],h1,rfl,h3,ne,aM,by simp,?_⟩⟩;rw[xT];have:jI b u [(a,v)]=[a,b].zip [v,u]:=by unfold jI;rw[W1<|A07 qv];rfl
  rw[this];exact q dx n ne
end
abbrev T_:γ ζ:=[.type "ValueError",.type "Exception",.type "BaseException",.type "object"]
noncomputable def BZ(K:Frag)(C:δ):Bool:=match K.lookup C with
|some ⟨.type "type",_,.cls cd,sl⟩=>(match cd.mro,sl.toList with
 |.ref C'::bm,[_,_,_,_,AC (.builtin n),_]=>C'==C&&n=="ValueError.__new__" && !cd.hasDel&&tailIn K T_ bm
 | _,_=>AT)
|_=>AT
def Lm(C:δ)(h:ν):Prop:=∃(tl:γ ζ)(ns:δ)(nm qn:Str)(bs:γ ζ)(hd:Bool)(sn:γ Str)(sub:γ ζ)(ab:Bool)(col:ε Bool)(dd:ε δ)(s0 s1 s2 s3 s5:ε ζ),
 h.get? C=AC (excClassObj nm qn C ns bs tl hd sn sub ab col dd s0 s1 s2 s3 s5 "ValueError.__new__")/\OwnTail h T_ tl
theorem WV{K:Frag}(X:K.In h)(q:BZ K C=Ch):Lm C h:=by
 unfold BZ at q;split at q
 .rename_i dd cd sl ho;split at q
  .rename_i C' tl s0 s1 s2 s3 id s5 e1 e2;simp only[A49,A27,B67]at q;let⟨⟨⟨rfl,rfl⟩,r1⟩,r2⟩:=q;cases cd;dsimp only at e1 r1;subst e1 r1;obtain rfl:sl=#[s0,s1,s2,s3,AC (.builtin "ValueError.__new__"),s5]:=by cases sl;simp only at e2;rw[e2]
   exact⟨tl,_,_,_,_,_,_,_,_,_,dd,s0,s1,s2,s3,s5,X _ _ ho,tail_of_in X r2⟩
  .cases q
 .cases q
section
variable{K:Frag}
theorem G1{os:OsState}{rest:γ ζ}(X:K.In h)(q:Lm C h)(hi:findIn K (.ref C) "__init__"=AC (AC<|.ref fI))(hf:typeIn K (.ref fI)=AC (.type "function"))(mE:rest.length<=sizeLine)
 (hq:∀h' e,cr h h' e (.ref C) rest->EQ (model prog w) A (call (.ref fI)<|.ref e::rest) (λ r s'=>r=.none/\Q (.done<|.ret<|.ref e) s') E ⟨h',g,d,t,os⟩) :
 EQ (model prog w) A (Builtin.«type.__call__» ⟨.ref C::rest,[]⟩) Q E ⟨h,g,d,t,os⟩:=by
 let⟨tl,ns,nm,qn,bs,hd,sn,sub,ab,col,dd,s0,s1,s2,s3,s5,hC,T⟩:=q;have F:=C51
 repeat (first|with_reducible refine B01 hC ?_|with_reducible refine wpAny_madeBy_exc hC ?_|wp_step)
 refine codeAny_call_builtin_code (Code.quiet_builtin _ F.quiet)<|wpAny_check_new_subT F T hC<|codeAny_exc_new_subT F T hC ?_ mE;show EQ _ _ _ _ _ _;have kp:∀b o,h.get? b=AC o->((h.push {cls:=.type "tuple",data:=.seq rest.toArray}).push {cls:=.ref C,data:=.fields #[.ref h.objs.size,.none,.none,.none,.bool AT,.none]}).get? b=AC o:=λ b o z=>v6 _<|v6 _ z;have Tz:=kp _ _ hC;have X1:=X.keeps kp;have Wb:((h.push {cls:=.type "tuple",data:=.seq rest.toArray}).push {cls:=.ref C,data:=.fields #[.ref h.objs.size,.none,.none,.none,.bool AT,.none]}).get? (h.objs.size+1)=AC {cls:=.ref C,data:=.fields #[.ref h.objs.size,.none,.none,.none,.bool AT,.none]}:=by heap_get
 have hcC:(Value.ref C::tl).contains (.ref C)=Ch:=by simp
 unfold isInstance
 repeat (first|with_reducible refine B01 Wb ?_|(with_reducible refine C22 Tz ?_;rw[hcC])|wp_step)
 show EQ _ _ (typeLookup (.ref C) _) _ _ _;refine(looks_findIn (M:=model prog w) X1 hi).at ?_;refine A38<|T0<|(bind_fn (M:=model prog w) X1 _ hf).at ?_;refine T0<|A19 (hq _ (h.objs.size+1) ⟨kp,B43<|A59 _,h.objs.size,Wb,B43<|v4 _,v6 _<|Heap.get?_push_at rfl rfl⟩) (λ r s' hr=>?_) λ _ _ x=>x;let⟨rfl,hQ⟩:=hr
 wp_walk
 exact hQ
theorem G2{rest:γ ζ}(X:K.In s.heap)(q:Lm C s.heap)(hi:findIn K (.ref C) "__init__"=AC (AC<|.ref fI))(hf:typeIn K (.ref fI)=AC (.type "function"))(mE:rest.length<=sizeLine)
 (hq:∀h' e,cr s.heap h' e (.ref C) rest->EQ (model prog w) (A.under<|.builtin "type.__call__" ⟨.ref C::rest,[]⟩) (call (.ref fI)<|.ref e::rest) (λ r s'=>r=.none/\Q (.ref e) s') E {s with heap:=h'}) :
 EQ (model prog w) A (call (.ref C) rest) Q E s:=by
 let⟨h,g,d,t,os⟩:=s;dsimp only at X q hq;let⟨tl,ns,nm,qn,bs,hd,sn,sub,ab,col,dd,s0,s1,s2,s3,s5,hC,T⟩:=id q;have f1:=tc_lookup;have f2:=tc_bind<|.ref C;have hT:(⟨h,g,d,t,os⟩:θ).TypeIs (.ref C) "type":=⟨_,hC,rfl⟩
 refine A91<|codeAny_of_tree ?_
 repeat (any_goals (first|assumption|with_reducible refine B01 hC ?_|wp_step))
 exact⟨rfl,codeAny_call_builtin_at (Code.quiet_builtin _ (by decide +kernel)) entry_typeCall<|wpAny_check_type_call_sub hC<|G1 X q hi hf mE λ h' e hm=>hq h' e hm⟩
end
end ZS
namespace Z
def kS(c:γ Nat)(fs:γ (γ Nat))(as:AF)(ρ:Env):ε XN:=match as ρ with
|.ok ds=>if ds.length=fs.length then AC (c,fs.zip ds)else At
|.bad=>At
end Z
namespace ZS
open L2 PySem.W
section
variable{σ:St}
theorem L1(I:Inv X χ σ H s)(ha:H a=AC (.ext φ)):Inv X χ σ (λ b=>if b=a then At else H b) s:=by
 have ne:∀b u,H b=AC u->(∀φ,u≠.ext φ)->b≠a:=λ b u q z e=>by subst e;rw[ha]at q;cases q;exact z _ rfl
 have go:∀b u,H b=AC u->(∀φ,u≠.ext φ)->(λ b=>if b=a then At else H b) b=AC u:=λ b u q z=>by show(if b=a then At else H b)=_;rw[W1<|ne b u q z];exact q
 refine Ib (ch:=[]) I (λ b hb=>nomatch hb) (λ b o _ _ _ q _=>q) (λ b o _ _ _ q _=>⟨_,q⟩)
  (λ b o _ q n=>by rw[n];split<;>rfl) (λ b o _ q=>⟨o,q⟩) (λ b xs q=>go b _ q λ _ z=>nomatch z) (λ b o u q=>go b _ q λ _ z=>nomatch z) (λ b u p q=>go b _ q λ φ z=>by subst z;exact p.elim) (λ m hm=>hm) (λ b u q=>?_) I.bare
 have q:=q;split at q
 .cases q
 .exact(I.bY b u q).pC (λ c v _ z=>z) (λ c z=>go c _ z λ _ y=>nomatch y) (λ c xs z=>go c _ z λ _ y=>nomatch y) λ c v p z=>go c _ z λ φ y=>by subst y;exact p.elim
theorem Mr(hex:X.ex=[])(q:Lm C s.heap)(hi:findIn X.K (.ref C) "__init__"=AC (AC<|.ref f))(hf:isFn X.K (.ref f)=Ch)(F:eY X.prog X.w X.K X.mg X.base iV k f fd ("self":: fs) (Uw C fs))
 (hb:Binds X.K fd ("self":: fs) []) (hr:bL (k+1) X.A) (I:Inv X χ σ H s) (r:Vals vs us) (hl:vs.length=fs.length) (hz:us.length<=100) :
 EQ (model X.prog X.w) X.A (call (.ref C) us) (λ v s'=>∃e dx od H',v=.ref e/\Inv X χ σ H' s'/\aJ H H'/\H' dx=AC (.eJ od<|.xd<|fs.zip vs)/\OU X χ H' s' e C (AC dx)/\∃t,s'.heap.get? e=AC {cls:=.ref C,dict:=AC dx,data:=.fields #[.ref t,.none,.none,.none,.bool AT,.none]}) X.xe s:=by
 refine G2 I.l3 q hi (A27.mp hf) (by rw[A23];lia) λ h' e hm=>?_;let⟨J,th⟩:=D' hex I hm;let⟨oe,ws,he,hc,hd,qw,_⟩:=th.ex;let⟨tt,htt,_,_⟩:=hm.there;have J2:=HR J th.off.free th.off.new (th.off.loc J) (th.off.cell J) th.off.pin<|Ja he;have BV:Uw C fs (.ref e::vs) (upd H e<|MW e oe) (λ v H3=>v=.non/\∃dx,H dx=At/\dx≠e/\H3=upd (upd H e<|MW e {oe with dict:=AC dx}) dx (S7 dx<|fs.zip vs)) (λ _ _ _=>False):=
  ⟨e,oe,vs,rfl,hl,aM,hc,hd,⟨ws,qw⟩,λ dx hn ne=>⟨rfl,dx,by rw[aD ne]at hn;exact hn,ne,by rw[xT]⟩⟩
 have r2:Vals (V.ref e::vs) (Value.ref e::us):=.cons rfl r;have NY:(Value.ref e::us++[]).length=("self":: fs:γ Str).length:=by simp[<-r.length,hl]
 refine A91<|A74 (F.run _ X.stack _ _ ⟨Value.ref e::us,[]⟩ (Value.ref e::us) _ _ _ (hr.make C us []) (J2.Ky.make C us []) (by have:=hb _ (Value.ref e::us) J2.l3 NY;simpa using this) r2 BV) λ rr s' hq=>?_;cases rr with
 |error ev=>exact hq.elim
 |ok fl=>
  cases fl with
  |ret u=>
   let⟨v,H3,I3,rv,ev,dx,hn,ne,rfl⟩:=J2.after hq;subst ev;obtain⟨⟨mA,n1,rr,_⟩,⟨od,god⟩,_⟩:=(I3.bY dx _ aM)
   have hx:=(show eF X.prog X.w _ s'.heap e (MW e {oe with dict:=AC dx})from I3.bY e _ (by rw[aD<|A07 ne,aM])).1;have I4:=I3.write (o:=.eJ od (.xd<|fs.zip vs)) (t':=s'.toks) (h':=s'.heap) (by rw[aM];exact IR) (.inl rfl) (λ b o _ z=>z) ⟨_,god⟩ ⟨god,mA,n1,rr⟩;rw[xT]at I4;have I5:=L1 (a:=e) I4 (by rw[aD<|A07 ne,aM]);obtain rfl:=A04 (he.symm.trans htt);cases qw;refine⟨rv,e,dx,od,_,rfl,I5,λ b o z=>?_,?_,⟨⟨?_,th.off.new,th.off.pin,_,_,hx,rfl⟩,_,_,hx,rfl,rfl,rfl,.inl rfl⟩,tt,hx⟩
   .show(if b=e then At else upd _ dx _ b)=_;rw[W1<|bh z th.off.free,aD<|bh z hn,aD<|bh z th.off.free];exact z
   .skip
    rw[W1 ne,aM]
   .skip
    rw[M2 rfl]
  |next=>exact hq.elim
  |brk=>exact hq.elim
  |cont=>exact hq.elim
theorem Qz(hh:A.handled=At)
 (h:EQ M A x (λ v s₁=>∃e dx t,v=.ref e/\Lm C s₁.heap/\s₁.heap.get? e=AC {cls:=.ref C,dict:=dx,data:=.fields #[.ref t,.none,.none,.none,.bool AT,.none]}/\E (.ref e) s₁) E s):EQ M A (raiseStmt env (AC x) At) Q E s:=by
 refine T0<|A19 h (λ v s₁ h₁=>?_) λ _ _ x=>x;let⟨e,dx,t,rfl,⟨tl,ns,nm,qn,bs,hd,sn,sub,ab,col,dd,s0,s1,s2,s3,s5,hC,T⟩,he,hE⟩:=h₁;have hcB:(Value.ref C::tl).contains (.type "BaseException")=Ch:=by rw[C20,T.hasType C51.hasBase,C21]
 let⟨hp,g,d,tk,os⟩:=s₁
 repeat (first|with_reducible refine B01 he ?_|with_reducible refine B01 hC ?_|(with_reducible refine C22 hC ?_;rw[hcB])|wp_step)
 exact wpAny_raiseNew_none hh hE
end
structure Lo(P:Program)(w:World)(K:Frag)(mg:Str->Option Value)(base:Heap)(C:Addr)(k:Nat)(fz:List (List Nat)):Prop where
 ex:∃f fd,BZ K C=Ch/\keepIn K (.ref C)=Ch/\findIn K (.ref C) "__init__"=AC (AC<|.ref f)/\isFn K (.ref f)=Ch/\eY P w K mg base iV k f fd ("self":: fz.map λ f=>⟨f.toArray⟩) (Uw C<|fz.map λ f=>⟨f.toArray⟩)/\Binds K fd ("self":: fz.map λ f=>⟨f.toArray⟩) []
theorem ug{K:Frag}:∀{fz:γ (γ Nat)}{ds}{vs},ds.length=fz.length->aG K H ds vs->Paired (λ(p)(q)=>p.1=⟨q.1.toArray⟩/\Den K H q.2 p.2) ((fz.map λ f=>(⟨f.toArray⟩:Str)).zip vs) (fz.zip ds)
|[],[],vs,_,d=>.nil
|f::fz,d::ds,vs,h,dd=>by let⟨v,r,rfl,d1,d2⟩:=dd;exact .cons ⟨rfl,d1⟩<|ug (by simpa using h) d2
section
variable{H0:Hp}{pos:Pos}
theorem _root_.ZQ.qy{np jM:Pos}(hc:X.calm=Ch)(hex:X.ex=[])(hg:Gl X x)(hcx:(⟨c.toArray⟩)=x)(xc:XC X.K c C)(J:Lo X.prog X.w X.K X.mg X.base C k fz)(hr:bL (k+1) X.A)(ha:ZQ.QA X.gy (e::es) ar)(hfz:fz≠[])(LG:fz.length<=100)
 (gQ:(x==("__debug__"))=AT:=by decide +kernel) (he:Se e es X.env:=by rfl) (fU:Pn jM es X.env:=by rfl) :
 ZQ.P8 X H0 (.Raise (AC<|.Call (.Name x np) (e::es) [] jM) At pos) (Z.kS c fz ar):=⟨by
 let⟨f,fd,xj,hk,hi,hf,F,hb⟩:=J.ex;intro χ s σ H D I h;let⟨ρ,c',rs,ec,kw⟩:=h;unfold Z.kS at ec;split at ec
 .rename_i ds ed;split at ec
  .rename_i hl;cases ec;have hm:X.mg x=AC (.ref C):=by have:=A22 I.l3 (I.mod.glob.keeps I.bk) xc.1;rw[hcx]at this;exact this
   rw[arm_exec_Raise];refine T0<|B32<|Qz (C:=C) (I.ok.hd hc) ?_;refine T0<|A19 (A80<|nc I hg hm ?_ gQ) (λ v s₃ h₃=>T0<|B32<|P3 h₃) λ _ _ x=>x;refine B02 I.ok.mod.Lx hk (cG (PA.gy ha.p jM χ s σ H (λ vs H1=>aJ H H1/\aG X.K H1 ds vs) I ⟨ρ,ds,rs.re,ed,λ vs H1 s1 d1=>⟨s1,d1⟩⟩) λ us s1 ⟨vs,H1,I1,r,sm,d1⟩=>⟨I1.l3,?_⟩) he fU;have Yr:vs.length=fz.length:=by rw[<-hl];exact d1.length
   refine cG (Mr hex (WV I1.l3 xj) hi hf F hb hr I1 r (by rw[Yr,A05]) (us:=us) (by rw[<-r.length,Yr];exact LG)) ?_;rintro v s2 ⟨e2,dx,od,H2,hv,I2,vw,J6,th,t,LC⟩;exact⟨e2,AC dx,t,hv,WV I2.l3 xj,LC,kw χ σ H2 s2 e2 C (AC dx) (rs.same.trans<|sm.trans vw) ⟨xc,by
    refine⟨?_,od,_,J6,ug hl<|d1.up vw⟩;cases fz with
    |nil=>exact absurd rfl hfz
    |cons a l=>cases ds with
     |nil=>cases hl
     |cons b m=>exact λ z=>nomatch z⟩ I2 th⟩
  .cases ec
 .cases ec⟩
end
end ZS
namespace Z
end Z
namespace PySem
section
variable{K:Type}[DecidableEq K]{knd:KeyKind prog w K}
end
end PySem
namespace ZS
open L2
end ZS
namespace ZQ
open L2 ZS
end ZQ
namespace Z
end Z
namespace ZS
open L2 PySem.W
end ZS
namespace ZQ
open L2 ZS PySem.W
end ZQ
namespace Z
def eM(kd i:Nat)(ρ:Env):Res D:=match ρ[i]? with
|some<|some<|.bor<|.dct (.inl a::.inl k::ks) vs=>if k=(kd:Int)then .ok (.dct (.inl a::.inl k::ks) vs)else .bad
|_=>.bad
def hJ:γ (Sum Int<|γ Nat)->γ D->γ Nat->Res D
|.inr k::ks,v::vs,f=>if k=f then .ok v else hJ ks vs f
|_,_,_=>.bad
def fA(f:γ Nat):D->Res D
|.dct (.inl _::.inl _::ks) vs=>hJ ks vs f
|_=>.bad
def Kg(bs:γ Bool)(n:Nat)(b:XF)(ds:γ D):ε XN:=if ds.length=bs.length then b (startB n bs ds)else At
theorem A!(bs:γ Bool)(n:Nat)(b:XF)(ds:γ D)(h:ds.length=bs.length):Kg bs n b ds=b (startB n bs ds):=M2 h
inductive zo where
|nx (ρ:Env)
|rt (d:D) (ts:List D)
abbrev SM:=Env->Res zo
def Xy:ε (ε L)->D
|some<|some<|.bor d=>d
|_=>.non
def fh(ms:γ Nat)(ρ:Env):γ D:=ms.map λ i=>Xy ρ[i]?
def vB:ε L->Prop
|some<|.bor _=>True
|_=>False
def lg(ms:γ Nat):Nat->Env->Prop
|_,[]=>True
|k,x::r=>(vB x->k∈ms)/\lg ms (k+1) r
def cM(ms:γ Nat)(ρ ρ':Env):Prop:=(∀i∈ms,ρ'[i]?=ρ[i]?)/\lg ms 0 ρ'
def bj(ms:γ Nat)(g:SF)(ρ:Env):Res zo:=(g ρ).bind λ fl=>match fl with
|.nx ρ'=>guard (cM ms ρ ρ')<|.ok<|.nx ρ'
|.rt d=>.ok<|.rt d<|fh ms ρ
|_=>.bad
def bW(a b:SM)(ρ:Env):Res zo:=(a ρ).bind λ fl=>match fl with
|.nx ρ'=>b ρ'
|o=>.ok o
def fS(f:γ Nat)(d:D):γ (Sum Int<|γ Nat)->γ D->γ (Sum Int<|γ Nat)×γ D
|.inr k::ks,v::vs=>if k=f then(.inr k::ks,d::vs)else(.inr k::(fS f d ks vs).1,v::(fS f d ks vs).2)
|_,_=>([.inr f],[d])
def vO(f:γ Nat)(x:D)(t:ε (ε L)):Res L:=match t with
|some<|some<|.bor<|.dct (.inl a::.inl k::ks) vs=>guard (k=0/\(fS f x ks vs).1=(dE.take (fS f x ks vs).1.length).map .inr)<|.ok<|.bor<|.dct (.inl a::.inl k::(fS f x ks vs).1) (fS f x ks vs).2
|_=>.bad
def nG(i:Nat)(f:γ Nat)(e:EF)(ρ:Env):Res zo:=(e ρ).bind λ d=>(vO f d ρ[i]?).bind λ l=>.ok<|.nx<|ρ.set i<|some l
def zt(ms:γ Nat)(bs:γ Bool)(n:Nat)(b:SM)(ds:γ D):Res (D×γ D):=if ds.length=bs.length then(match b (startB n bs ds)with
|.ok<|.rt d ts=>.ok (d,ts)
|.ok<|.nx ρ=>.ok (.non,fh ms ρ)
| _=>.bad)else .bad
theorem lX(ms:γ Nat)(bs:γ Bool)(n:Nat)(b:SM)(ds:γ D)(h:ds.length=bs.length):zt ms bs n b ds=(match b (startB n bs ds)with
|.ok<|.rt d ts=>.ok (d,ts)
|.ok<|.nx ρ=>.ok (.non,fh ms ρ)
| _=>.bad):=M2 h
open Classical in
def uw(m:γ D->Res (D×γ D))(ds:γ D):Res (γ D):=if h:∃fs,∀x:Nat,m (f_ x 0 [] []::ds)=.ok (.non,[f_ x 0 dE fs])then .ok h.choose else .bad
theorem Jz(h:uw m ds=.ok fs):∀x,m (f_ x 0 [] []::ds)=.ok (.non,[f_ x 0 dE fs]):=by
 unfold uw at h;split at h
 .rename_i q;cases h;exact q.choose_spec
 .cases h
theorem JA(h:∀x,m (f_ x 0 [] []::ds)=.ok (.non,[f_ x 0 dE fs])):uw m ds=.ok fs:=by
 have q:∃fs,∀x,m (f_ x 0 [] []::ds)=.ok (.non,[f_ x 0 dE fs]):=⟨fs,h⟩
 unfold uw;rw[A93 q];have:=(q.choose_spec 0).symm.trans<|h 0;simp only[Res.ok.injEq,C23,true_and,A97,B34,f_,D.dct.injEq]at this;exact A11 _ this
open Classical in
def Lg(f:Nat->Res Fl):Res Fl:=if h:∃d,∀x,f x=.ok (.rt d)then .ok (.rt h.choose)else .bad
theorem OQ(h:Lg f=.ok fl):∃d,fl=.rt d/\∀x,f x=.ok (.rt d):=by
 unfold Lg at h;split at h
 .rename_i q;cases h;exact⟨_,rfl,q.choose_spec⟩
 .cases h
theorem OR(h:∀x,f x=.ok (.rt d)):Lg f=.ok (.rt d):=by
 have q:∃d,∀x,f x=.ok (.rt d):=⟨d,h⟩
 unfold Lg;rw[A93 q];have:=(q.choose_spec 0).symm.trans<|h 0;simp only[Res.ok.injEq,Fl.rt.injEq]at this;exact A11 (λ d=>Res.ok _) this
abbrev S4:=Env->Res (D×Env)
def fm:γ Nat->γ D->Env->Env
|i::is,t::ts,ρ=>fm is ts<|ρ.set i<|some<|.bor t
|_,_,ρ=>ρ
def fu:Nat->γ Bool->γ Nat
|_,[]=>[]
|k,Ch::bs=>k::fu (k+1) bs
|k,AT::bs=>fu (k+1) bs
def BP:γ Bool->γ D->γ D
|true::bs,d::ds=>d::BP bs ds
|false::bs,_::ds=>BP bs ds
|_,_=>[]
def mP(f:EF)(ρ:Env):Res (D×Env):=(f ρ).bind λ d=>.ok (d,ρ)
def eu(fn:γ D->Res (D×γ D))(bs:γ Bool)(is:γ Nat)(ar:AF)(ρ:Env):Res (D×Env):=(ar ρ).bind λ ds=>guard (BP bs ds=fh is ρ)<|(fn ds).bind λ r=>guard (r.2.length=is.length)<|.ok (r.1,fm is r.2 ρ)
def mB(op:D->D->Res D)(a b:S4)(ρ:Env):Res (D×Env):=(a ρ).bind λ x=>(b x.2).bind λ y=>(op x.1 y.1).bind λ z=>.ok (z,y.2)
def CQ(i:Nat)(e:S4)(ρ:Env):Res zo:=(e ρ).bind λ r=>.ok<|.nx<|r.2.set i<|some<|.val r.1
def jV(e:S4)(ρ:Env):Res zo:=(e ρ).bind λ r=>.ok<|.nx r.2
def kA(ρ:Env):Res zo:=.ok<|.nx ρ
abbrev OX:=Env->Res (Bool×Env)
def BS(t:TF)(ρ:Env):Res (Bool×Env):=(t ρ).bind λ b=>.ok (b,ρ)
def Lw(e:S4)(ρ:Env):Res (Bool×Env):=(e ρ).bind λ x=>match x.1 with
|.bl c=>.ok (c,x.2)
|_=>.bad
def EK(t:OX)(ρ:Env):Res (Bool×Env):=(t ρ).bind λ x=>.ok (!x.1,x.2)
def Ng(a b:OX)(ρ:Env):Res (Bool×Env):=(a ρ).bind λ x=>if x.1 then .ok (Ch,x.2)else b x.2
def kB(t:OX)(a b:SM)(ρ:Env):Res zo:=(t ρ).bind λ c=>if c.1 then a c.2 else b c.2
def yi(i:Nat)(m:γ D->Res (D×γ D))(a:EF)(r:SM)(ρ:Env):Res Fl:=(a ρ).bind λ d=>(uw m [d]).bind λ fs=>guard (lg [i] 0<|ρ.set i<|some<|.bor<|.dct [] []) (Lg λ x=>(r<|ρ.set i<|some<|.bor<|f_ x 0 dE fs).bind λ fl=>match fl with
|.rt d _=>.ok<|.rt d
| _=>.bad)
def gK(ms:γ Nat)(g:GF)(b:SM):γ D->Env->Res zo
|[],ρ=>.ok<|.nx ρ
| d::r,ρ=>(g d ρ).bind λ ρ1=>guard (cM ms ρ ρ1) ((b ρ1).bind λ fl=>match fl with
 |.nx ρ'=>gK ms g b r ρ'
 | .rt d ts=>.ok<|.rt d ts)
def Nl(ms:γ Nat)(it:LF)(g:GF)(b:SM)(ρ:Env):Res zo:=(it ρ).bind λ ds=>gK ms g b ds ρ
end Z
namespace ZS
open L2 PySem.W
def OV(K:Da)(H:Hp)(kd:Nat)(d:Z.D)(v:V):Prop:=∃a ks ds u,d=Z.f_ a kd ks ds/\v=.ref a/\H a=AC u/\Hm K H kd ks ds u
theorem OV.b{K:Da}(h:OV K H kd d v):jO K H d v:=let ⟨a,ks,ds,u,h⟩:=h;.inr ⟨a,kd,ks,ds,u,h⟩
theorem OV.up{K:Da}(h:OV K H kd d v)(e:aJ H H'):OV K H' kd d v:=by let⟨a,ks,ds,u,e1,e2,q,t⟩:=h;exact⟨a,ks,ds,u,e1,e2,e _ _ q,t.ups<|kM e⟩
def tZm(K:Da)(kd:Nat)(f:Z.EF):TE:=λ σ H Q=>∃ρ d,RE K H σ ρ/\f ρ=.ok d/\∀v H',aJ H H'->OV K H' kd d v->Q v H'
abbrev DM(X:Cx)(kd:Nat)(e:ι)(f:Z.EF):Prop:=PE X e<|tZm X.K kd f
structure _root_.ZQ.QM(X:Cx)(kd:Nat)(e:Expr)(f:Z.EF):Prop where p:DM X kd e f
theorem WO(h:Z.eM kd i ρ=.ok d):∃a ks vs,ρ[i]?=AC (AC<|.bor d)/\d=.dct (.inl a::.inl (kd)::ks) vs:=by
 unfold Z.eM at h;split at h
 .rename_i a k ks vs q;split at h
  .rename_i hk;subst hk;cases h;exact⟨a,ks,vs,q,rfl⟩
  .cases h
 .cases h
theorem y8{K:Da}{kd:Nat}(h:jO K H (.dct (.inl a::.inl (kd)::ks) vs) v):OV K H kd (.dct (.inl a::.inl (kd)::ks) vs) v:=by
 let⟨a',kd',ks',ds,u,e1,e2,q,t⟩:=h.f_;have:kd'=kd:=by
  injection e1 with e1 _
  injection e1 with _ e1
  injection e1 with e1 _
  injection e1 with e1
  exact(B40 e1).symm
 subst this;exact⟨a',ks',ds,u,e1,e2,q,t⟩
theorem _root_.ZQ.bQ(h:PE X e (mf i)):ZQ.QM X kd e (Z.eM kd i):=⟨PE.imp h <|by rintro σ H Q ⟨ρ,d,r,e,k⟩;let⟨a,ks,vs,hi,rfl⟩:=WO e;let⟨v,h1,h2⟩:=r.get i _ hi;exact⟨v,h1,k v H (aJ.refl H)<|y8 h2⟩⟩
theorem _root_.ZQ.fQ(ha:ZQ.QM X kd e f)(hr:ZQ.LO X es bs g)(hs:Se e es X.env:=by rfl):ZQ.LO X (e::es) (Ch::bs) (Z.aa f g):=⟨PA.imp (bM ha.p hr.p hs) <|by rintro σ H Q ⟨ρ,ds,r,e,k⟩;let⟨x,ea,e⟩:=XV e;let⟨xs,eb,e⟩:=XV e;cases e;exact⟨ρ,x,r,ea,λ v H1 s1 d1=>⟨ρ,xs,r.up s1,eb,λ vs H2 s2 t=>k _ H2 (s1.trans s2) ⟨v,vs,rfl,(d1.up s2).b,t⟩⟩⟩⟩
theorem oE{a b:γ Nat}:((⟨a.toArray⟩:Str)=⟨b.toArray⟩)↔a=b:=⟨λ h=>by simpa using A11 (λ s=>s.cps.toList) h,λ h=>by rw[h]⟩
theorem E6{K:Da}{H:Hp}{f:γ Nat}{d:Z.D}:∀{ks:γ (γ Nat)}{ds:γ Z.D}{fs:γ (Str×V)},Z.hJ (ks.map .inr) ds f=.ok d->fs.map (·.1)=ks.map (λ c=>(⟨c.toArray⟩:Str))->aG K H ds (fs.map (·.2))->∃v,fs.lookup ⟨f.toArray⟩=AC v/\Den K H d v
|[],ds,fs,h,_,_=>by cases h
|k::ks,[],fs,h,_,_=>by cases h
|k::ks,x::ds,[],_,h2,_=>by cases h2
|k::ks,x::ds,(n,v)::fs,h,h2,h3=>by
 simp only[f8,A97]at h2;simp only[f8,aG]at h3;let⟨v',r,e1,h4,h5⟩:=h3;cases e1;let⟨e2,h2⟩:=h2;subst e2;simp only[f8,Z.hJ]at h;by_cases hk:k=f
 .subst hk;rw[M2 rfl]at h;cases h;exact⟨v,by simp[Fa],h4⟩
 .rw[W1 hk]at h;let⟨w,q1,q2⟩:=E6 h h2 h5;refine⟨w,?_,q2⟩;have:((⟨f.toArray⟩:Str)==⟨k.toArray⟩)=AT:=A61.mpr λ z=>hk (oE.mp z).symm;simp only[Fa,this];exact q1
def T4(K:Da)(f:Str):Prop:=∃C,nsIn K mainGlobals "Desk"=AC (AC<|.ref C)/\findIn K (.ref C) f=AC At
theorem _root_.ZQ.c8(hn:T4 X.K f)(ho:ZQ.QM X 0 o fo)(hf:(⟨fc.toArray⟩)=f)(hb:attributeBase o f X.env (eval o X.env)=eval o X.env:=by rfl):ZQ.QE X (.Attribute o f pos) (Z.eU (Z.fA fc) fo):=⟨PE.imp (QY ho.p hb) <|by
 rintro σ H Q ⟨ρ,d,r,e,k⟩;let⟨x,ea,e⟩:=XV e;refine⟨ρ,x,r,ea,λ v H1 s1 d1=>?_⟩;let⟨a,ks,ds,u,rfl,rfl,q,t⟩:=d1;rcases t with⟨_,_,C,dx,fs,rfl,hC,h3,h4⟩|⟨z,_⟩
 .let⟨v,q1,q2⟩:=E6 e h3 h4;let⟨C',e1,e2⟩:=hn;have:=e1.symm.trans hC.1;cases this;rw[hf]at q1;exact⟨a,C,dx,fs,v,rfl,q,hC.2,e2,q1,k v H1 s1 q2⟩
 .cases z⟩
theorem m_{fs:γ (Str×V)}(h:fs.map (·.1)=(Z.dE.take n).map (λ c=>(⟨c.toArray⟩)))(hm:(Z.dE.map λ c=>(⟨c.toArray⟩)).contains m=AT):fs.lookup m=At:=by
 have hk:∀y∈fs.map _,(m==y)=AT:=λ y hy=>by rw[h]at hy;let⟨c,hc,rfl⟩:=A03.mp hy;have:(⟨_⟩)∈Z.dE.map (λ c=>(⟨c.toArray⟩:Str)):=A03.mpr ⟨c,C00 hc,rfl⟩;refine A61.mpr λ z=>?_;rw[<-z,<-List.contains_iff_mem,hm]at this;cases this
 clear h
 induction fs with
 |nil=>rfl
 |cons x r ih=>let⟨n,v⟩:=x;simp only[Fa,hk n ∅];exact ih λ y hy=>hk y (by simp;right;simpa using hy)
structure wD(P:Program)(w:World)(K:Da)(mg:Str->Option Value)(base:Heap)(m:Str)(k:Nat)(ps:List Str)(bs:List Bool)(fn:List Z.D->Z.Res Z.D):Prop where
 ex:∃C g fd,vp K "Desk" C/\Meth K C m g/\eY P w K mg base iV k g fd ps (yc K bs fn)/\Binds K fd ps []
theorem _root_.ZQ.dQ(C:wD X.prog X.w X.K X.mg X.base m k ps [Ch] fn)(hr:bL k X.A)(ho:ZQ.QM X 0 o fo)(hf:(Z.dE.map λ c=>(⟨c.toArray⟩)).contains m=AT)
 (ht:eval (.Call (.Attribute o m apos) [] [] pos) X.env=(do
  let ov ←eval o X.env
  standAt apos.atName
  let (f,first) ←holding [ov] (getMethod ov m pl)
  callWith pos f first (backTo pos<|starEach [] X.env) (backToKw pos<|keywordEach [] X.env)):=by rfl) :
 ZQ.QE X (.Call (.Attribute o m apos) [] [] pos) (Z.aE fn<|Z.aa fo Z.aC):=⟨by
 let⟨C,g,fd,hC,hm,F,hb⟩:=C.ex;refine PE.imp (IS ho.p hC.2 hm F hr hb .nil uf ht) ?_;rintro σ H Q ⟨ρ,d,r,e,k⟩;let⟨ds,ea,e⟩:=XV e;let⟨x,ex,ea⟩:=XV ea;let⟨xs,en,ea⟩:=XV ea;cases en;cases ea;refine⟨ρ,x,r,ex,λ v H1 s1 d1=>?_⟩;let⟨a,ks,ds,u,rfl,rfl,q,t⟩:=id d1;rcases t with⟨_,hk,C',dx,fs,rfl,E5,h3,h4⟩|⟨z,_⟩
 .have:=E5.1.symm.trans hC.1;cases this;rw[hk]at h3;exact⟨a,dx,fs,rfl,q,m_ h3 hf,[Z.f_ a 0 ks ds],d,⟨_,_,rfl,d1.b,rfl⟩,e,λ v H' s2 dv=>k v H' (s1.trans s2) dv⟩
 .cases z⟩
theorem _root_.ZQ.i!(C:wD X.prog X.w X.K X.mg X.base m k ps (Ch::bs) fn)(hr:bL k X.A)(ho:ZQ.QM X 0 o fo)(hf:(Z.dE.map λ c=>(⟨c.toArray⟩)).contains m=AT)(ha:ZQ.LO X (e::es) bs ar)
 (pW:Se e es X.env:=by rfl) (fU:Pn pos es X.env:=by rfl)
 (ht:eval (.Call (.Attribute o m apos) (e::es) [] pos) X.env=(do
  let ov ←eval o X.env
  standAt apos.atName
  let (f,first) ←holding [ov] (getMethod ov m pl)
  callWith pos f first (backTo pos<|starEach (e::es) X.env) (backToKw pos<|keywordEach [] X.env)):=by rfl) :
 ZQ.QE X (.Call (.Attribute o m apos) (e::es) [] pos) (Z.aE fn<|Z.aa fo ar):=⟨by
 let⟨C,g,fd,hC,hm,F,hb⟩:=C.ex;refine PE.imp (Ey ho.p hC.2 hm F hr hb .nil uf ha.p pW fU ht) ?_;rintro σ H Q ⟨ρ,d,r,e,k⟩;let⟨ds,ea,e⟩:=XV e;let⟨x,ex,ea⟩:=XV ea;let⟨xs,en,ea⟩:=XV ea;cases ea;refine⟨ρ,x,r,ex,λ v H1 s1 d1=>?_⟩;let⟨a,ks,ds,u,rfl,rfl,q,t⟩:=id d1;rcases t with⟨_,hk,C',dx,fs,rfl,E5,h3,h4⟩|⟨z,_⟩
 .have:=E5.1.symm.trans hC.1;cases this;rw[hk]at h3;refine⟨a,dx,fs,rfl,q,m_ h3 hf,ρ,xs,r.up s1,en,λ vs H2 s2 d2=>?_⟩;show yc X.K _ fn _ H2 Q E0;rw[A51];exact⟨Z.f_ a 0 ks ds::xs,d,⟨_,_,rfl,(d1.up s2).b,d2⟩,e,λ v H' s3 dv=>k v H' ((s1.trans s2).trans s3) dv⟩
 .cases z⟩
structure DZ(K:Da)(m qual:Str)(st:Stmt)(ps:List Str):Prop where
 ex:∃C f fd,vp K "Desk" C/\Meth K C m f/\BM K m qual st f fd/\Binds K fd ps []
section
variable{K:Da}
theorem wD.mk'{st:η}(qx:bs.length=ps.length)(d:DZ K m qual st ps)(S:a9 N ps (aj st))
 (hb:∀ f bf A outer s H E,bL k (A.deeper<|envOfC qual (aj st) s.heap.objs.size f bf) ->
  LP (d6 iV P w K mg base N qual (aj st) f bf A outer s H E).gy H (aL st) b):wD P w K mg base m (k+1) ps bs (Z.Di bs N.length b):=by
 let⟨C,f,fd,hC,hm,F,sX⟩:=d.ex;exact⟨C,f,fd,hC,hm,WC qx F S<|hb f,sX⟩
end
def Ig(K:Da)(bs:γ Bool)(m:γ Z.D->ε Z.XN):Sp:=λ vs H _ E=>∃ds c,jG K H bs ds vs/\m ds=AC c/\∀C dd H',aJ H H'->ro K H' c C dd->E (.ref C) dd H'
section
variable{K:Da}
theorem aaE{st:η}{dV kV doc pm bf ct oc:ζ}(qx:bs.length=ps.length)
 (lk:K.lookup f=AC ⟨oc,od,.func<|PySem.W.fnOf name qual (bE st) (aL st) (aj st) dV kV doc pm an bf ct,ui⟩) (n4:On K bf qual=Ch) (S:a9 N ps (aj st))
 (hb:∀ A outer s H E,bL k (A.deeper<|envOfC qual (aj st) s.heap.objs.size f bf) ->
  T3 (d6 (wG P w) P w K mg base N qual (aj st) f bf A outer s H E) H (aL st) xb):eY P w K mg base (wG P w) (k+1) f (NE name qual (bE st) (aL st) (aj st) dV kV doc pm an bf ct) ps (Ig K bs<|Z.Kg bs N.length xb):=by
 have ψ:∀vs H Q E,Ig K bs (Z.Kg bs N.length xb) vs H Q E->vs.length=ps.length:=by rintro vs H Q E ⟨ds,d,t,e,_⟩;have:=t.length;lia
 refine uO lk n4 S ψ λ A outer s H vs Q E hr h=>?_;refine⟨_,hb A outer s H E hr,?_⟩;have hl:=ψ vs H Q E h;let⟨ds,c,t,e,k⟩:=h;have fU:ps.length<=N.length:=by have:=A11 List.length S.pre;rw[A24]at this;lia
 have rs:RS K H H (L2.start N vs) (Z.startB N.length bs ds):=oh t ∅;unfold Z.Kg at e;split at e
 .exact⟨_,c,rs,e,λ χ σ H' s' a C dd sm xc I th=>xh I th<|k C dd H' sm xc⟩
 .cases e
structure n_(P:Program)(w:World)(K:Da)(mg:Str->Option Value)(base:Heap)(m:Str)(k:Nat)(ps:List Str)(bs:List Bool)(fx:List Z.D->Option Z.XN):Prop where
 ex:∃C g fd,vp K "Desk" C/\Meth K C m g/\eY P w K mg base (wG P w) k g fd ps (Ig K bs fx)/\Binds K fd ps []
theorem n_.mk'{st:η}(qx:bs.length=ps.length)(d:DZ K m qual st ps)(S:a9 N ps (aj st))
 (hb:∀ f bf A outer s H E,bL k (A.deeper<|envOfC qual (aj st) s.heap.objs.size f bf) ->
  T3 (d6 (wG P w) P w K mg base N qual (aj st) f bf A outer s H E) H (aL st) xb):n_ P w K mg base m (k+1) ps bs (Z.Kg bs N.length xb):=by
 let⟨C,f,fd,hC,hm,F,sX⟩:=d.ex;let⟨oc,od,kV,doc,pm,an,bf,ct,ui,rfl,lk,n4⟩:=F.ex;exact⟨C,f,_,hC,hm,aaE qx lk n4 S<|hb f bf,sX⟩
end
theorem PE.Z'(h:PE X.gy e t):PE X e t:=λ χ s σ H Q I hw=>A19 (h χ s σ H Q (I.wish _) hw) (by rintro _ _ ⟨v,H',I',r,q⟩;exact⟨v,H',I'.gD,r,q⟩) λ _ _ z=>GM z
theorem UH
 (hex:X.ex=[]) (F:eY X.prog X.w X.K X.mg X.base (wG X.prog X.w) k g fd ps (Ig X.K bs m)) (hr:bL k X.A) (hb:Binds X.K fd ps []) (I:Inv X χ σ H s) (r:Vals vs us) (d1:jG X.K H bs ds vs) (ec:m ds=AC c) (kw:W? X σ H c) :
 EQ (model X.prog X.w) X.A (call (.ref g) us) Q X.xe s:=by
 have BV:Ig X.K bs m vs H (λ _ _=>False) (λ cv dd H'=>∃C,cv=.ref C/\ro X.K H' c C dd/\aJ H H'):=⟨ds,c,d1,ec,λ C' dd H' s2 x2=>⟨C',rfl,x2,s2⟩⟩
 have hl:=F.len _ _ _ _ BV;refine A91<|A74 (F.run X.A _ s H ⟨us,[]⟩ us vs _ _ hr I.Ky (by have:=hb s us I.l3 (by rw[A51,<-r.length];exact hl);simpa using this) r BV) λ rr s' hq=>?_;cases rr with
 |ok fl=>
  cases fl with
  |ret u=>let⟨v,H2,_,_,_,_,_,q⟩:=hq;exact q.elim
  |_=>exact hq.elim
 |error ev=>have hq:wG _ X.w _ H s (λ cv dd H'=>∃C,cv=.ref C/\ro X.K H' c C dd/\aJ H H') ev s':=hq;let⟨a,C',dd,H',rfl,J,th,C2,hc,x2,s2⟩:=HS hex I hq;cases hc;exact kw χ H' s' a C' dd s2 x2 J th
theorem PAF.gy(h:Y7 X.gy es bs ar):Y7 X es bs ar:=PA.gy h
theorem _root_.ZQ.kP(C:n_ X.prog X.w X.K X.mg X.base m k ps (Ch::bs) fx)(hr:bL k X.A)(ho:ZQ.QM X 0 o fo)(hf:(Z.dE.map λ c=>(⟨c.toArray⟩)).contains m=AT)(ha:ZQ.LO X.gy (e::es) bs ar)
 (hex:X.ex=[]:=by rfl) (pW:Se e es X.env:=by rfl) (fU:Pn pos es X.env:=by rfl)
 (ht:eval (.Call (.Attribute o m apos) (e::es) [] pos) X.env=(do
  let ov ←eval o X.env
  standAt apos.atName
  let (f,first) ←holding [ov] (getMethod ov m pl)
  callWith pos f first (backTo pos<|starEach (e::es) X.env) (backToKw pos<|keywordEach [] X.env)):=by rfl) :
 ZQ.SQ X (.Call (.Attribute o m apos) (e::es) [] pos) (Z.fg fx<|Z.aa fo ar):=⟨by
 let⟨C,g,fd,hC,hm,F,hb⟩:=C.ex;intro χ s σ H Q I h;let⟨ρ,c,re,ec,kw⟩:=h;unfold Z.fg at ec;split at ec
 .rename_i ds ed;let⟨x,ex,ea⟩:=XV ed;let⟨xs,en,ea⟩:=XV ea;cases ea;refine B86 (cG (ho.p χ s σ H (λ v H1=>aJ H H1/\OV X.K H1 0 x v) I ⟨ρ,x,re,ex,λ v H1 s1 d1=>⟨s1,d1⟩⟩) ?_) ht;rintro u s1 ⟨v,H1,I1,rx,sm,d1⟩;let⟨a,ks,ds,u',rfl,rfl,q,t⟩:=id d1;obtain rfl:u=Value.ref a:=rx;rcases t with⟨_,hk,C',dx,fs,rfl,E5,h3,h4⟩|⟨z,_⟩
  .have:=E5.1.symm.trans hC.1;cases this;rw[hk]at h3;refine oN I1 q hC.2 hm (m_ h3 hf) ?_;refine B02 I.ok.mod.Lx hm.kp (cG (PAF.gy ha.p pos χ s1 σ H1 (λ vs H2=>aJ H1 H2/\jG X.K H2 bs xs vs) I1 ⟨ρ,xs,re.up sm,en,λ vs H2 s2 d2=>⟨s2,d2⟩⟩) λ us s2 ⟨vs,H2,I2,r,vw,d2⟩=>⟨I2.l3,?_⟩) pW fU;exact UH (vs:=.ref a::vs) (ds:=Z.f_ a 0 ks ds::xs) hex F hr hb I2 (.cons rfl r) ⟨_,_,rfl,(d1.up vw).b,d2⟩ ec<|(kw.up sm).up vw
  .cases z
 .cases ec⟩
theorem _root_.ZQ.T!(ha:ZQ.QW X.gy a fa)(hb:ZQ.SQ X b f)(hs:zm b:=by intro _ _;rfl):ZQ.SQ X (.Subscript a b pos) (Z.Xp fa f):=⟨PE.imp (Pj JO (PE.Z' ha.p) hb.p hs) <|by
 rintro σ H Q ⟨ρ,c,re,ec,kw⟩;unfold Z.Xp at ec;split at ec
 .rename_i d ed;exact⟨ρ,d,re,ed,λ v H1 s1 d1=>⟨ρ,c,re.up s1,ec,kw.up s1⟩⟩
 .cases ec⟩
def over(H0 H:Hp)(as:γ δ):Hp:=λ b=>if b∈as then H b else H0 b
section
variable{K:Da}
theorem cO(h:a∈as):over H0 H as a=H a:=M2 h
theorem dh(h:a∉as):over H0 H as a=H0 a:=W1 h
theorem IY(h:a∈as):over H0 (upd H a u) as=upd (over H0 H as) a u:=by
 funext b
 by_cases hb:b=a
 .subst hb;rw[cO h,aM,aM]
 .rw[aD hb];by_cases hm:b∈as
  .rw[cO hm,cO hm,aD hb]
  .rw[dh hm,dh hm]
theorem pz(h:Z.f_ a kd ks vs=Z.f_ a' kd' ks' vs'):a=a'/\kd=kd'/\ks=ks'/\vs=vs':=by
 injection h with h1 h2
 injection h1 with h1 h3
 injection h3 with h3 h4
 injection h1 with h1
 injection h3 with h3
 exact⟨B40 h1,B40 h3,(mo λ x y h=>by injection h).mp h4,h2⟩
theorem il:∀{ρ}{k i}{x},Z.lg ms k ρ->ρ[i]?=AC x->Z.vB x->k+i∈ms
|[],_,_,_,_,e,_=>by simp at e
|y::r,k,0,x,h,e,t=>by simp at e;subst e;exact h.1 t
|y::r,k,i+1,x,h,e,t=>by have:=il h.2 (by simpa using e) t;rw[show k+(i+1)=k+1+i from by lia];exact this
theorem qR:∀{ρ}{k},(∀i x,ρ[i]?=AC x->Z.vB x->k+i∈ms)->Z.lg ms k ρ
|[],_,_=>trivial
|y::r,k,h=>⟨λ t=>h 0 y rfl t,qR λ i x e t=>by have:=h (i+1) x (by simpa using e) t;rw[show k+1+i=k+(i+1)from by lia];exact this⟩
structure RM(K:Da)(H0:Hp)(ms:List Nat)(as:List Addr)(H:Hp)(σ:St)(ρ:Z.Env):Prop where
 rs:RS K (over H0 H as) H σ ρ
 at_:Paired (λ(i:Nat)(a:Addr)=>∃kd ks vs,ρ[i]?=AC (AC<|.bor<|Z.f_ a kd ks vs)) ms as
 no:Z.lg ms 0 ρ
 nd:as.Nodup
 h0:∀a∈as,H0 a=At
theorem eQ:∀{l}{m}{x},Paired R l m->x∈l->∃y∈m,R x y
|_,_,_,.nil,h=>by simp at h
|_,_,x,.cons r t,h=>by
 rcases A02.mp h with rfl|h
 .exact⟨_,by simp,r⟩
 .let⟨y,h1,h2⟩:=eQ t h;exact⟨y,by simp[h1],h2⟩
theorem rK(hf:∀i a b,R i a->R i b->a=b):∀{l}{m}{i j}{a},Paired R l m->m.Nodup->i∈l->j∈l->R i a->R j a->i=j
|_,_,_,_,_,.nil,_,h,_,_,_=>by simp at h
|_,_,i,j,a,.cons r t,nd,hi,hj,ri,rj=>by
 have nU:=A17.mp nd;rcases A02.mp hi with ei|yM
 .rcases A02.mp hj with ej|xp
  .exact ei.trans ej.symm
  .let⟨z,hz,rz⟩:=eQ t xp;subst ei;have e1:=hf _ _ _ r ri;have e2:=hf _ _ _ rz rj;subst e1;subst e2;exact absurd hz nU.1
 .rcases A02.mp hj with ej|xp
  .let⟨z,hz,rz⟩:=eQ t yM;subst ej;have e1:=hf _ _ _ r rj;have e2:=hf _ _ _ rz ri;subst e1;subst e2;exact absurd hz nU.1
  .exact rK hf t nU.2 yM xp ri rj
theorem DU{ρ:Z.Env}(i:Nat)(a b:δ)(h1:∃kd ks vs,ρ[i]?=AC (AC<|.bor<|Z.f_ a kd ks vs))(h2:∃kd ks vs,ρ[i]?=AC (AC<|.bor<|Z.f_ b kd ks vs)):a=b:=by
 let⟨_,_,_,h1⟩:=h1;let⟨_,_,_,h2⟩:=h2;rw[h1]at h2;injection h2 with h2;injection h2 with h2;injection h2 with h2
 exact(pz h2).1
theorem RM.Yk(h:RM K H0 ms as H σ ρ)(hi:ρ[i]?=AC (AC<|.bor<|Z.f_ a kd ks vs)):i∈ms:=by have:=il h.no hi trivial;simpa using this
theorem RM.mem(h:RM K H0 ms as H σ ρ){i:Nat}(hi:ρ[i]?=AC (AC<|.bor<|Z.f_ a kd ks vs)):a∈as:=by let⟨y,hy,r⟩:=eQ h.at_ (h.Yk hi);have:=DU i _ _ ⟨_,_,_,hi⟩ r;subst this;exact hy
theorem RM.uniq(h:RM K H0 ms as H σ ρ){i j kd kd':Nat}(hi:ρ[i]?=AC (AC<|.bor<|Z.f_ a kd ks vs))(hj:ρ[j]?=AC (AC<|.bor<|Z.f_ a kd' ks' vs')):i=j:=
 rK (λ i a b=>DU i a b) h.at_ h.nd (h.Yk hi) (h.Yk hj) ⟨_,_,_,hi⟩ ⟨_,_,_,hj⟩
theorem RM.thing(h:RM K H0 ms as H σ ρ){i:Nat}(hi:ρ[i]?=AC (AC<|.bor<|Z.f_ a kd ks vs)):σ[i]?=AC (AC<|.ref a)/\∃u,H a=AC u/\Hm K H kd ks vs u:=by let⟨v,h1,h2⟩:=h.rs.re.get i _ hi;let⟨a',ks',ds,u,e1,rfl,q,t⟩:=y8 h2;let⟨rfl,_,rfl,rfl⟩:=pz e1;exact⟨h1,u,q,t⟩
theorem Hm.mb(t:Hm K H kd ks vs u):(∀xs,u≠.tup xs)/\(∀o x,u≠.eJ o x)/\∀xs,u≠.lst xs:=by
 rcases t with⟨_,_,C,dx,fs,rfl,_⟩|⟨_,aV,rfl,_⟩
 .exact⟨λ _ z=>(nomatch z),λ _ _ z=>(nomatch z),λ _ z=>(nomatch z)⟩
 .exact⟨λ _ z=>(nomatch z),λ _ _ z=>(nomatch z),λ _ z=>(nomatch z)⟩
theorem RM.write(h:RM K H0 ms as H σ ρ)(hi:ρ[i]?=AC (AC<|.bor<|Z.f_ a kd ks vs))(t:Hm K (upd H a u') kd' ks' vs' u'):
 gU H (upd H a u')/\RM K H0 ms as (upd H a u') σ (ρ.set i<|some<|.bor<|Z.f_ a kd' ks' vs'):=by
 have ha:=h.mem hi;let⟨hs,u,hu,t0⟩:=h.thing hi;have st:gU H (upd H a u'):=kX hu t0.mb.1 t0.mb.2.1;have ou:over H0 H as a=AC u:=by rw[cO ha];exact hu
 have BQ:gU (over H0 H as) (upd (over H0 H as) a u'):=kX ou t0.mb.1 t0.mb.2.1;have A3:=(A08.mp hi).1;have bor:∀{j}{d}{v}{G},i≠j->ρ[j]?=AC (AC<|.bor d)->gU G (upd G a u')->G a=AC u->jO K G d v->jO K (upd G a u') d v:=λ {j d v G} hj e sg ga hb=>by
  rcases hb with(hb|⟨ds,q,ws,e1,e2,q1,t1⟩)|⟨a2,VM,VI,ds2,u2,e1,e2,q2,t2⟩
  .exact .inl<|.inl<|hb.ups sg
  .have:q≠a:=by rintro rfl;rw[ga]at q1;exact t0.mb.2.2 _<|A04 q1
   exact .inl<|.inr ⟨ds,q,ws,e1,e2,by rw[aD this];exact q1,t1.ups sg⟩
  .have:a2≠a:=by rintro rfl;rw[e1]at e;exact hj<|h.uniq hi e
   exact .inr ⟨a2,VM,VI,ds2,u2,e1,e2,by rw[aD this];exact q2,t2.ups sg⟩
 have own:∀{q},over H0 H as q=At->q≠a:=λ e z=>by rw[z,ou]at e;cases e
 refine⟨st,⟨?_,?_,?_,h.nd,h.h0⟩⟩
 .rw [IY ha];refine⟨λ b o e=>?_,⟨by simp[h.rs.re.len],λ j l e=>?_,λ j k xs ys q e1 e2 e3 e4=>?_⟩,λ j xs q e1 e2=>?_,λ j d e1=>?_,?_⟩
  .by_cases hb:b=a
   .subst hb;rw[aM]at e ⊢;exact e
   .rw[aD hb]at e ⊢;exact h.rs.same b o e
  .rcases aQ e with⟨rfl,hl,e⟩|⟨hj,e⟩
   .cases e;exact⟨.ref a,hs,.inr ⟨a,kd',ks',vs',u',rfl,rfl,aM,t⟩⟩
   .let⟨v,e1,r⟩:=h.rs.re.get j l e;refine⟨v,e1,?_⟩;cases l with
    |val d=>exact Den.ups (r) st
    |own zs=>let⟨q',ws,rfl,gB,t'⟩:=r;exact⟨q',ws,rfl,by rw[aD<|own<|h.rs.fresh j zs q' e e1];exact gB,t'.ups st⟩
    |bor d=>exact bor hj e st hu r
    |dc ks=>let⟨q',wB,rfl,gB,t'⟩:=r;exact⟨q',wB,rfl,by rw[aD<|own<|h.rs.zw.2 j ks q' e e1];exact gB,t'.ups st⟩
    |GZ ks=>let⟨q',o',wB,rfl,gB,t'⟩:=r;exact⟨q',o',wB,rfl,st.eJ _ _ _ gB,t'.ups st⟩
    |RH ps=>let⟨q',o',rfl,gB⟩:=r;exact⟨q',o',rfl,st.eJ _ _ _ gB⟩
    |exc c=>let⟨q',o',u',C',rfl,gB,r1,r2,r3⟩:=r;exact⟨q',o',u',C',rfl,st.eJ _ _ _ gB,r1,r2,r3.ups st⟩
  .rcases aQ e1 with⟨_,_,e⟩|⟨_,e1⟩
   .cases e
   .rcases aQ e2 with⟨_,_,e⟩|⟨_,e2⟩
    .cases e
    .exact h.rs.re.sep j k xs ys q e1 e2 e3 e4
  .rcases aQ e1 with⟨_,_,e⟩|⟨_,e1⟩
   .cases e
   .have:=h.rs.fresh j xs q e1 e2;rw[aD<|own this];exact this
  .rcases aQ e1 with⟨rfl,_,e⟩|⟨hj,e9⟩
   .cases e;exact⟨.ref a,hs,.inr ⟨a,kd',ks',vs',u',rfl,rfl,aM⟩⟩
   .let⟨v,q1,q2⟩:=h.rs.qk j d e9;refine⟨v,q1,?_⟩;rcases q2 with(hb|⟨ds,q,ws,g1,g2,q1,t1⟩)|⟨a2,VM,VI,ds2,u2,g1,g2,q2⟩
    .exact .inl<|.inl<|hb.ups BQ
    .have:q≠a:=by rintro rfl;rw[ou]at q1;exact t0.mb.2.2 _<|A04 q1
     exact .inl<|.inr ⟨ds,q,ws,g1,g2,by rw[aD this];exact q1,t1.ups BQ⟩
    .have:a2≠a:=by rintro rfl;rw[g1]at e9;exact hj<|h.uniq hi e9
     exact .inr ⟨a2,VM,VI,ds2,u2,g1,g2,by rw[aD this];exact q2⟩
  .refine⟨λ j k ks ls q e1 e2 e3 e4=>?_,λ j ks q e1 e2=>?_⟩
   .rcases aQ e1 with⟨_,_,e⟩|⟨_,e1⟩
    .cases e
    .rcases aQ e2 with⟨_,_,e⟩|⟨_,e2⟩
     .cases e
     .exact h.rs.zw.1 j k ks ls q e1 e2 e3 e4
   .rcases aQ e1 with⟨_,_,e⟩|⟨_,e1⟩
    .cases e
    .have:=h.rs.zw.2 j ks q e1 e2;rw[aD<|own this];exact this
 .refine Paired.Gy h.at_ λ j b hj=>?_;let⟨VM,VI,Xq,hj⟩:=hj;by_cases uG:i=j
  .subst uG;rw[hi]at hj;injection hj with hj;injection hj with hj;injection hj with hj
   let⟨rfl,_⟩:=pz hj;exact⟨kd',ks',vs',A37 A3⟩
  .exact⟨VM,VI,Xq,by rw[A29 uG];exact hj⟩
 .refine qR λ j x e tx=>?_;by_cases uG:i=j
  .subst uG;rw[B11];exact h.Yk hi
  .rw[A29 uG]at e;exact il h.no e tx
theorem RM.tracked(h:RM K H0 ms as H σ ρ)(ha:a∈as):∃u,H a=AC u:=by
 have key:∀{l}{m},Paired (λ(i:Nat)(a)=>∃kd ks vs,ρ[i]?=AC (AC<|.bor<|Z.f_ a kd ks vs)) l m->a∈m->∃u,H a=AC u:=by
  intro l m p
  induction p with
  |nil=>intro h;simp at h
  |cons r t ih=>
   intro hm;rcases A02.mp hm with rfl|hm
   .let⟨_,_,_,hi⟩:=r;let⟨_,u,q,_⟩:=h.thing hi;exact⟨u,q⟩
   .exact ih hm
 exact key h.at_ ha
theorem RM.same(h:RM K H0 ms as H σ ρ):aJ H0 H:=λ b o e=>h.rs.same b o (by rw[dh λ z=>by rw[h.h0 b z]at e;cases e];exact e)
theorem RM.w5(h:RM K H0 ms as H σ ρ)(s:∀a∈as,H' a=H a):over H0 H' as=over H0 H as:=by
 funext b
 by_cases hb:b∈as
 .rw[cO hb,cO hb,s b hb]
 .rw[dh hb,dh hb]
theorem RM.up(h:RM K H0 ms as H σ ρ)(s:aJ H H'):RM K H0 ms as H' σ ρ:=by
 have e:=h.w5 λ a ha=>by let⟨u,q⟩:=h.tracked ha;rw[q];exact s _ _ q
 refine⟨?_,h.at_,h.no,h.nd,h.h0⟩;rw[e];exact h.rs.up s
def ya:ε HO->Prop
|some<|.tup _=>True
|some<|.eJ _ _=>True
|_=>False
open Classical in
noncomputable def ov(H0 H:Hp)(as:γ δ):Hp:=λ b=>if b∈as\/ya (H b)then H b else H0 b
theorem IZ(h:a∈as):ov H0 H as a=H a:=M2<|.inl h
theorem CA(h:ya (H b)):ov H0 H as b=H b:=M2<|.inr h
theorem F'(h:b∉as)(n:¬ya (H b)):ov H0 H as b=H0 b:=W1 λ z=>z.elim h n
theorem RM.ovR(h:RM K H0 ms as H σ ρ):RS K (ov H0 H as) H σ ρ:=by
 have sm:aJ (over H0 H as) (ov H0 H as):=λ b o e=>by
  by_cases hb:b∈as
  .rw[cO hb]at e;rw[IZ hb];exact e
  .rw[dh hb]at e;by_cases hs:ya (H b)
   .rw[CA hs];exact h.same b o e
   .rw[F' hb hs];exact e
 have non:∀{q}{u},over H0 H as q=At->H q=AC u->¬ya _->ov H0 H as q=At:=λ {q u} e hq n=>by
  have hb:q∉as:=λ z=>by rw[cO z,hq]at e;cases e
  rw[F' hb (by rw[hq];exact n)];rw[dh hb]at e;exact e
 refine⟨λ b o e=>?_,h.rs.re,λ i xs q e1 e2=>?_,λ i d e1=>?_,⟨h.rs.zw.1,λ i ks q e1 e2=>?_⟩⟩
 .by_cases hb:b∈as\/ya (H b)
  .rcases hb with hb|hb
   .rw[IZ hb]at e;exact e
   .rw[CA hb]at e;exact e
  .rw[F' (λ z=>hb<|.inl z) λ z=>hb<|.inr z]at e;exact h.same b o e
 .let⟨v,h1,a,vs,e,h2,_⟩:=h.rs.re.get i _ e1;rw[e2]at h1;cases h1;cases e;exact non (h.rs.fresh i xs _ e1 e2) h2 λ z=>z
 .let⟨v,h1,h2⟩:=h.rs.qk i d e1;refine⟨v,h1,?_⟩;rcases h2 with h2|⟨a,kd,ks,ds,u,g1,g2,g3⟩
  .exact .inl<|h2.up sm
  .exact .inr ⟨a,kd,ks,ds,u,g1,g2,sm _ _ g3⟩
 .let⟨v,h1,a,wB,e,h2,_⟩:=h.rs.re.get i _ e1;rw[e2]at h1;cases h1;cases e;refine non (h.rs.zw.2 i ks _ e1 e2) h2 λ z=>?_;cases ks<;>exact z
theorem Q2(s:aJ (ov H0 H as) H'):gU H H':=⟨λ b xs e=>s _ _ (by rw[CA (by rw[e];trivial)];exact e),λ b o x e=>s _ _ (by rw[CA (by rw[e];trivial)];exact e)⟩
theorem dI:∀{l}{m},Paired R l m->(∀x∈l,∀y,R x y->S x y)->Paired S l m
|_,_,.nil,_=>.nil
|_,_,.cons r t,f=>.cons (f _ ∅ _ r)<|dI t λ x hx=>f x (by simp[hx])
theorem RM.back(h:RM K H0 ms as H σ ρ)(kt:Z.cM ms ρ ρ')(r:RS K (ov H0 H as) H' σ' ρ'):RM K H0 ms as H' σ' ρ':=by
 have ha:∀a∈as,H' a=H a:=λ a z=>by let⟨u,q⟩:=h.tracked z;rw[q];exact r.same _ _ (by rw[IZ z];exact q)
 have e:=h.w5 ha;have at':Paired (λ(i)(a)=>∃kd ks vs,ρ'[i]?=AC _) ms as:=dI h.at_ <|by rintro i hi a ⟨kd,ks,vs,q⟩;exact⟨kd,ks,vs,by rw[kt.1 i hi];exact q⟩
 have down:∀{q},ov H0 H as q=At->over H0 H as q=At:=λ {q} z=>by
  by_cases hb:q∈as
  .rw[IZ hb]at z;rw[cO hb];exact z
  .rw[dh hb];by_cases hs:ya (H q)
   .rw[CA hs]at z;rw[z]at hs;exact hs.elim
   .rw[F' hb hs]at z;exact z
 refine⟨?_,at',kt.2,h.nd,h.h0⟩;rw[e];refine⟨λ b o q=>?_,r.re,λ i xs q e1 e2=>down<|r.fresh i xs q e1 e2,λ i d e1=>?_,⟨r.zw.1,λ i ks q e1 e2=>down<|r.zw.2 i ks q e1 e2⟩⟩
 .by_cases hb:b∈as
  .rw[cO hb]at q;rw[ha b hb];exact q
  .rw[dh hb]at q;refine r.same b o ?_;by_cases hs:ya (H b)
   .rw[CA hs];exact h.same b o q
   .rw[F' hb hs];exact q
 .let⟨v,h1,h2⟩:=r.qk i d e1;have hi:i∈ms:=by have:=il kt.2 e1 trivial;simpa using this
  let⟨a,hm,kd,ks,vs,q⟩:=eQ at' hi;rw[e1]at q;injection q with q;injection q with q;injection q with q
  subst q;refine⟨v,h1,?_⟩;rcases h2 with h2|⟨a',kd',ks',ds,u,g1,g2,g3⟩
  .let⟨_,_,_,_,_,_,_,n⟩:=h2.dct;exact absurd rfl<|n _ _
  .let⟨rfl,rfl,rfl,rfl⟩:=pz g1;let⟨u',q'⟩:=h.tracked hm;exact .inr ⟨a,kd,ks,vs,u',rfl,g2,by rw[cO hm];exact q'⟩
def TH(K:Da)(H:Hp)(as:γ δ)(ts:γ Z.D):Prop:=Paired (λ(a:δ)(t:Z.D)=>∃kd ks vs u,t=Z.f_ a kd ks vs/\H a=AC u/\Hm K H kd ks vs u) as ts
theorem RM.ths(h:RM K H0 ms as H σ ρ):TH K H as (Z.fh ms ρ):=by
 have key:∀{l}{m},Paired (λ(i)(a)=>∃kd ks vs,ρ[i]?=AC (AC<|.bor<|Z.f_ a kd ks vs)) l m->TH K H m (Z.fh l ρ):=by
  intro l m p
  induction p with
  |nil=>exact .nil
  |cons r t ih=>let⟨kd,ks,vs,hi⟩:=r;let⟨_,u,q,th⟩:=h.thing hi;exact .cons ⟨kd,ks,vs,u,by show Z.Xy _=_;rw[hi];rfl,q,th⟩ ih
 exact key h.at_
theorem TH.ups(h:TH K H as ts)(s:∀a∈as,H' a=H a)(st:gU H H'):TH K H' as ts:=dI h <|by rintro a ha t ⟨kd,ks,vs,u,e,q,th⟩;exact⟨kd,ks,vs,u,e,by rw[s a ha];exact q,th.ups st⟩
end
def YL(K:Da)(H0:Hp)(ms:γ Nat)(as:γ δ)(H:Hp)(D:Ends):Z.zo->Prop
|.nx ρ'=>∀σ' H',gU H H'->RM K H0 ms as H' σ' ρ'->D.nx σ' H'
|.rt d ts=>∀v H',aJ H0 H'->TH K H' as ts->Den K H' d v->D.rt v H'
def tM(K:Da)(H0:Hp)(ms:γ Nat)(as:γ δ)(g:Z.SM):TS:=λ D σ H=>∃ρ fl,RM K H0 ms as H σ ρ/\g ρ=.ok fl/\YL K H0 ms as H D fl
abbrev MS(X:Cx)(H0:Hp)(ms:γ Nat)(as:γ δ)(st:η)(g:Z.SM):Prop:=PS X st<|tM X.K H0 ms as g
structure _root_.ZQ.LN(X:Cx)(H0:Hp)(ms:List Nat)(as:List Addr)(st:Stmt)(g:Z.SM):Prop where p:MS X H0 ms as st g
abbrev Xe(X:Cx)(H0:Hp)(ms:γ Nat)(as:γ δ)(st:γ η)(g:Z.SM):Prop:=rp X st<|tM X.K H0 ms as g
structure _root_.ZQ.o8(X:Cx)(H0:Hp)(ms:List Nat)(as:List Addr)(st:List Stmt)(g:Z.SM):Prop where p:Xe X H0 ms as st g
theorem YL.up{K:Da}(h:YL K H0 ms as H D fl)(e:gU H H1):YL K H0 ms as H1 D fl:=by
 cases fl with
 |nx ρ'=>exact λ σ' H' s r=>h σ' H' (e.trans s) r
 |rt d ts=>exact h
section
variable{st:η}
theorem bu(h:∀H1,DS X H1 st g):MS X H0 ms as st (Z.bj ms g):=by
 intro χ s σ H D I w;let⟨ρ,fl,rm,e,k⟩:=w;let⟨f1,e1,e⟩:=XV e;refine h _ χ s σ H D I ⟨ρ,f1,rm.ovR,e1,?_⟩;cases f1 with
 |nx ρ'=>let⟨kt,e⟩:=Z.b8 e;cases e;exact λ σ' H' st r=>k σ' H' st<|rm.back kt r
 |rt d=>
  cases e;intro v H' sm dv;have ha:∀a∈as,H' a=H a:=λ a z=>by let⟨u,q⟩:=rm.tracked z;rw[q];exact sm _ _ (by rw[IZ z];exact q)
  refine k v H' (λ b o q=>?_) (rm.ths.ups ha<|Q2 sm) dv;refine sm b o ?_;have nb:b∉as:=λ z=>by rw[rm.h0 b z]at q;cases q
  by_cases hs:ya (H b)
  .rw[CA hs];exact rm.same b o q
  .rw[F' nb hs];exact q
 |bk _=>cases e
 |ct _=>cases e
theorem _root_.ZQ.bZ(h:ZQ.LN X H0 ms as st g):ZQ.o8 X H0 ms as [st] g:=⟨mZ h.p⟩
theorem _root_.ZQ.aU(h1:ZQ.LN X H0 ms as st g)(h2:ZQ.o8 X H0 ms as zp u):ZQ.o8 X H0 ms as (st::zp) (Z.bW g u):=⟨rp.imp (ji h1.p h2.p) <|by
 rintro D σ H ⟨ρ,fl,rs,e,k⟩;let⟨f1,e1,e⟩:=XV e;refine⟨ρ,f1,rs,e1,?_⟩;cases f1 with
 |nx ρ'=>exact λ σ' H' s r=>⟨ρ',fl,r,e,k.up s⟩
 |rt d ts=>cases e;exact k⟩
theorem El{K:Da}{H:Hp}{f:γ Nat}{d:Z.D}{y:V}(hd:Den K H d y):∀{ks:γ (γ Nat)}{ds:γ Z.D}{fs:γ (Str×V)},fs.map (·.1)=ks.map (λ c=>(⟨c.toArray⟩:Str))->aG K H ds (fs.map (·.2)) ->
 ∃ks':γ (γ Nat),(Z.fS f d (ks.map .inr) ds).1=ks'.map .inr/\(jI ⟨f.toArray⟩ y fs).map (·.1)=ks'.map (λ c=>(⟨c.toArray⟩:Str))/\aG K H (Z.fS f d (ks.map .inr) ds).2 ((jI ⟨f.toArray⟩ y fs).map (·.2))
|[],ds,fs,h2,h3=>by
 have:fs=[]:=by simpa using h2
 subst this;refine⟨[f],?_,rfl,?_⟩
 .cases ds<;>rfl
 .have:(Z.fS f d ([].map .inr) ds).2=[d]:=by cases ds<;>rfl
  rw[this];exact aG.cons hd aG.nil
|k::ks,ds,[],h2,_=>by cases h2
|k::ks,[],(n,v)::fs,_,h3=>by simp only[f8,aG]at h3;cases h3
|k::ks,x::ds,(n,v)::fs,h2,h3=>by
 simp only[f8,A97]at h2;simp only[f8,aG]at h3;let⟨v',r,e1,h4,h5⟩:=h3;cases e1;let⟨e2,h2⟩:=h2;subst e2;simp only[f8,Z.fS,jI];by_cases hk:k=f
 .subst hk;rw[M2 rfl,M2 rfl];exact⟨k::ks,rfl,by simp[h2],aG.cons hd h5⟩
 .rw[W1 hk,W1 λ z=>hk<|oE.mp z];let⟨ks',q1,q2,q3⟩:=El hd h2 h5;exact⟨k::ks',by simp[q1],by simp[q2],aG.cons h4 q3⟩
theorem Mn(h:Z.vO f x t=.ok l):∃a ks vs,t=AC (AC<|.bor<|.dct (.inl a::.inl 0::ks) vs)/\(Z.fS f x ks vs).1=(Z.dE.take (Z.fS f x ks vs).1.length).map .inr/\l=.bor (.dct (.inl a::.inl 0::(Z.fS f x ks vs).1) (Z.fS f x ks vs).2):=by
 unfold Z.vO at h;split at h
 .rename_i a k ks vs;let⟨⟨rfl,q⟩,h⟩:=Z.b8 h;cases h;exact⟨a,ks,vs,rfl,q,rfl⟩
 .cases h
theorem RM.tagged{K:Da}(h:RM K H0 ms as H σ ρ){i:Nat}(hi:ρ[i]?=AC (AC<|.bor d)):∃a kd ks vs,d=Z.f_ a kd ks vs:=by
 have hm:i∈ms:=by have:=il h.no hi trivial;simpa using this
 let⟨a,_,kd,ks,vs,q⟩:=eQ h.at_ hm;rw[hi]at q;injection q with q;injection q with q;injection q with q
 exact⟨a,kd,ks,vs,q⟩
theorem _root_.ZQ.jo(hn:T4 X.K f)(ho:PE X o (mf i))(he:ZQ.QE X value fe)(hf:(⟨fc.toArray⟩)=f)(hs:swapsWith value (AC<|.Attribute o f pos') pos.line X.env=pure AT:=by rfl):
 ZQ.LN X H0 ms as (.Assign [.Attribute o f pos'] value pos) (Z.nG i fc fe):=⟨PS.imp (QD ho he.p hs) <|by
 rintro D σ H ⟨ρ,fl,rm,e,k⟩;let⟨d,ed,e⟩:=XV e;let⟨l,el,e⟩:=XV e;cases e;refine⟨ρ,d,rm.rs.re,ed,λ y H1 s1 dy=>?_⟩;have rH:=rm.up s1;let⟨a0,Tn,vs,hi,hk,rfl⟩:=Mn el;let⟨a,kd,ks,vs',e1⟩:=rH.tagged hi;injection e1 with e1 e2
 injection e1 with e1 e3
 injection e3 with e3 e4
 injection e1 with e1
 injection e3 with e3
 subst e1 e2 e4;have:=(B40 e3.symm)
 subst this;have yM:=hi;let⟨GN,u,hu,th⟩:=rH.thing yM;rcases th with⟨_,_Y,C,dx,fs,rfl,hC,h3,h4⟩|⟨z,_⟩
 .let⟨C',g1,g2⟩:=hn;have:=g1.symm.trans hC.1;cases this;have hl:fs.length<1000:=by
   have q1:fs.length=ks.length:=by simpa using A11 List.length h3
   have q2:ks.length<=4:=by
    have:=A11 List.length _Y;rw[A24]at this;have:ks.length<=Z.dE.length:=by lia
    exact this
   lia
  let⟨ks',q1,q2,q3⟩:=El (f:=fc) dy h3 h4;have Eg:gU H1 (upd H1 a<|.ins C dx<|jI f y fs):=kX hu (λ _ z=>nomatch z) λ _ _ z=>nomatch z;rw[q1]at hk;rw[hf]at q2 q3;have Tu:ks'=Z.dE.take ks'.length:=by rw[A05]at hk;exact(mo λ x y h=>by injection h).mp hk
  let⟨st,BR⟩:=rH.write yM (.inl ⟨rfl,Tu,C,dx,_,rfl,hC,q2,q3.ups Eg⟩);refine⟨.ref a,GN,a,C,dx,fs,rfl,hu,hC.2,g2,hl,k σ _ ((kM s1).trans st) ?_⟩;rw[q1];exact BR
 .cases z⟩
end
def wipe(H:Hp)(as:γ δ):Hp:=λ b=>if b∈as then At else H b
theorem F9:over (wipe H as) H as=H:=by
 funext b
 by_cases hb:b∈as
 .rw[cO hb]
 .rw[dh hb];exact W1 hb
def Pc(K:Da)(ms:γ Nat)(bs:γ Bool)(n:Nat)(fn:γ Z.D->Z.Res (Z.D×γ Z.D)):Sp:=λ vs H Q _=>∃ds as d ts,jG K H bs ds vs/\as.Nodup/\Paired (λ(i:Nat)(a:δ)=>∃kd ks vs,(Z.startB n bs ds)[i]?=AC (AC<|.bor<|Z.f_ a kd ks vs)) ms as/\Z.lg ms 0 (Z.startB n bs ds) /\
 fn ds=.ok (d,ts)/\∀v H',aJ (wipe H as) H'->TH K H' as ts->Den K H' d v->Q v H'
section
variable{K:Da}
theorem Sb{st:η}(qx:bs.length=ps.length)(F:BM K x qual st f fd)(S:a9 N ps (aj st))
 (hb:∀ bf A outer s H H0 as E,bL k (A.deeper<|envOfC qual (aj st) s.heap.objs.size f bf) ->
  Xe (d6 iV P w K mg base N qual (aj st) f bf A outer s H E).gy H0 ms as (aL st) b):eY P w K mg base iV (k+1) f fd ps (Pc K ms bs N.length<|Z.zt ms bs N.length b):=by
 have ψ:∀vs H Q E,Pc K ms bs N.length (Z.zt ms bs N.length b) vs H Q E->vs.length=ps.length:=by rintro vs H Q E ⟨ds,as,d,ts,t,_⟩;have:=t.length;lia
 refine F.ok S ψ λ bf A outer s H vs Q E hr h=>?_;have hl:=ψ vs H Q E h;let⟨ds,as,d,ts,t,nd,hat,C!,e,k⟩:=h;refine⟨_,hb bf A outer s H (wipe H as) as E hr,?_⟩;have fU:ps.length<=N.length:=by have:=A11 List.length S.pre;rw[A24]at this;lia
 have rs:RS K H H (L2.start N vs) (Z.startB N.length bs ds):=oh t ∅;have rm:RM K (wipe H as) ms as H (L2.start N vs) (Z.startB N.length bs ds):=⟨by rw[F9];exact rs,hat,C!,nd,λ a ha=>M2 ha⟩
 unfold Z.zt at e;split at e
 .cases eb:b (Z.startB N.length bs ds)with
  |bad=>rw[eb]at e;cases e
  |ok fl=>
   rw[eb]at e;refine⟨_,fl,rm,eb,?_⟩;cases fl with
   |rt d' Qn=>cases e;exact λ v H' s' th dv=>k v H' s' th dv
   |nx ρ'=>cases e;exact λ σ' H' _ rm'=>k .non H' rm'.same rm'.ths lH
 .cases e
end
structure S0(K:Da)(st:Stmt)(ps:List Str):Prop where
 ex:∃C f fd,vp K "Desk" C/\Mk K C f/\BM K "__init__" "Desk.__init__" st f fd/\Binds K fd ps []
structure Hq(P:Program)(w:World)(K:Da)(mg:Str->Option Value)(base:Heap)(k:Nat)(ps:List Str)(n:Nat)(fn:List Z.D->Z.Res (Z.D×List Z.D)):Prop where
 ex:∃C f fd,vp K "Desk" C/\Mk K C f/\eY P w K mg base iV k f fd ps (Pc K [0] [Ch,AT] n fn)/\Binds K fd ps []
section
variable{K:Da}
theorem Hq.mk'{st:η}(qx:ps.length=2)(d:S0 K st ps)(S:a9 N ps (aj st))
 (hb:∀ f bf A outer s H H0 as E,bL k (A.deeper<|envOfC "Desk.__init__" (aj st) s.heap.objs.size f bf) ->
  Xe (d6 iV P w K mg base N "Desk.__init__" (aj st) f bf A outer s H E).gy H0 [0] as (aL st) b):Hq P w K mg base (k+1) ps N.length (Z.zt [0] [Ch,AT] N.length b):=by
 let⟨C,f,fd,hC,M,F,sX⟩:=d.ex;exact⟨C,f,fd,hC,M,Sb qx.symm F S<|hb f,sX⟩
end
theorem yB:∀m k,Z.lg ms k (Do m At)
|0,_=>trivial
|m+1,k=>⟨λ z=>z.elim,yB m _⟩
theorem Gz(hx:H x=At)(J6:H dx=At):aJ H (upd (upd H dx<|.own x) x<|.ins C dx []):=λ b o e=>by rw[aD<|bh e hx,aD<|bh e J6];exact e
theorem RS.vO{K:FS}(h:RS K H0 H σ ρ)(hx:H x=At)(s:aJ H H')(hu:H' x=AC u)(t:Hm K H' kd ks vs u)(A3:i<ρ.length):
 RS K (upd H0 x u) H' (σ.set i<|some<|.ref x) (ρ.set i<|some<|.bor<|Z.f_ x kd ks vs):=by
 have h1:=h.up s;have n0:H0 x=At:=by
  cases e:H0 x with
  |none=>rfl
  |some o=>rw[h.same _ _ e]at hx;cases hx
 have ne:∀{q}{o},H q=AC o->q≠x:=λ e=>bh e hx;have getσ:∀j,i≠j->(σ.set i<|some<|V.ref x)[j]?=σ[j]?:=λ j hj=>A29 hj;have si:(σ.set i<|some<|V.ref x)[i]?=AC (AC<|.ref x):=A37 (by rw[<-h.re.len];exact A3);refine⟨λ b o e=>?_,⟨by simp[h.re.len],λ j l e=>?_,λ j k xs ys q e1 e2 e3 e4=>?_⟩,λ j xs q e1 e2=>?_,λ j d e1=>?_,⟨λ j k ks ls q e1 e2 e3 e4=>?_,λ j ks q e1 e2=>?_⟩⟩
 .by_cases hb:b=x
  .subst hb;rw[aM]at e;rw[hu];exact e
  .rw[aD hb]at e;exact h1.same b o e
 .rcases aQ e with⟨rfl,hl,e⟩|⟨hj,e⟩
  .cases e;exact⟨.ref x,si,.inr ⟨x,kd,ks,vs,u,rfl,rfl,hu,t⟩⟩
  .rw[getσ j hj];exact h1.re.get j l e
 .rcases aQ e1 with⟨_,_,e⟩|⟨hj,e1⟩
  .cases e
  .rcases aQ e2 with⟨_,_,e⟩|⟨hk,e2⟩
   .cases e
   .rw[getσ j hj]at e3;rw[getσ k hk]at e4;exact h.re.sep j k xs ys q e1 e2 e3 e4
 .rcases aQ e1 with⟨_,_,e⟩|⟨hj,e1⟩
  .cases e
  .rw[getσ j hj]at e2;let⟨v,g1,a,ws,e,g2,_⟩:=h.re.get j _ e1;rw[e2]at g1;cases g1;cases e;rw[aD<|ne g2];exact h.fresh j xs q e1 e2
 .rcases aQ e1 with⟨rfl,_,e⟩|⟨hj,e1⟩
  .cases e;exact⟨.ref x,si,.inr ⟨x,kd,ks,vs,u,rfl,rfl,aM⟩⟩
  .rw[getσ j hj];let⟨v,g1,g2⟩:=h.qk j d e1;refine⟨v,g1,?_⟩;rcases g2 with g2|⟨a,kd',ks',ds,u',q1,q2,q3⟩
   .exact .inl<|g2.up<|cK n0
   .exact .inr ⟨a,kd',ks',ds,u',q1,q2,cK n0 _ _ q3⟩
 .rcases aQ e1 with⟨_,_,e⟩|⟨hj,e1⟩
  .cases e
  .rcases aQ e2 with⟨_,_,e⟩|⟨hk,e2⟩
   .cases e
   .rw[getσ j hj]at e3;rw[getσ k hk]at e4;exact h.zw.1 j k ks ls q e1 e2 e3 e4
 .rcases aQ e1 with⟨_,_,e⟩|⟨hj,e1⟩
  .cases e
  .rw[getσ j hj]at e2;let⟨v,g1,a,ws,e,g2,_⟩:=h.re.get j _ e1;rw[e2]at g1;cases g1;cases e;rw[aD<|ne g2];exact h.zw.2 j ks q e1 e2
section
variable{rest:γ η}
theorem Nh{K:Da}(hC:vp K "Desk" C):jO K (upd (upd H dx<|.own x) x<|.ins C dx []) (Z.f_ x 0 [] []) (.ref x):=.inr ⟨x,0,[],[],_,rfl,rfl,aM,.inl ⟨rfl,rfl,C,dx,[],rfl,hC,rfl,aG.nil⟩⟩
end
def clsAt(s:η)(j:Nat):η:=match s with
|.ClassDef _ _ _ b _ _ _ _ _ _ _=>b.getD j<|.Pass ⟨0,0,0,0⟩
|s=>s
def gP(K:Frag)(C:δ)(m q:Str)(st:η):Prop:=∃(f:δ)(od an:ε δ)(sl:Array (ε ζ))(oc kV dc pm cd ct:ζ),findIn K (.ref C) m=AC (AC<|.ref f)/\K.lookup f=AC ⟨oc,od,.func<|fnOf m q (bE st) (aL st) (aj st) .none kV dc pm an cd ct,sl⟩/\codeIn K cd q=Ch/\keepIn K (.ref f)=Ch/\isFn K (.ref f)=Ch
section
variable{K:Frag}{st:η}
theorem gP.mk'{oc kV dc pm cd ct:ζ}(a:findIn K (.ref C) m=AC (AC<|.ref f))(l:K.lookup f=AC ⟨oc,od,.func<|fnOf m q (bE st) (aL st) (aj st) .none kV dc pm an cd ct,sl⟩)(c:codeIn K cd q=Ch)(k:keepIn K (.ref f)=Ch)(i:isFn K (.ref f)=Ch):gP K C m q st:=⟨f,od,an,sl,oc,kV,dc,pm,cd,ct,a,l,c,k,i⟩
theorem gP.df(d:gP K C m q st)(hC:vp K "Desk" C)(hb:∀kV doc pm an bf ct us,us.length=ps.length->bindArgs (fnOf m q (bE st) (aL st) (aj st) .none kV doc pm an bf ct) ⟨us,[]⟩=pure (ps.zip us):=by intro _ _ _ _ _ _;first| exact ZS.bd1 λ _=>rfl| exact ZS.SG λ _ _=>rfl| exact ZS.bd3 λ _ _ _=>rfl| exact ZS.bd4 λ _ _ _ _=>rfl| exact ZS.bd5 λ _ _ _ _ _=>rfl| exact ZS.bd6 λ _ _ _ _ _ _=>rfl):DZ K m q st ps:=by let⟨f,od,an,sl,oc,kV,dc,pm,cd,ct,a,l,c,k,i⟩:=d;have F:=qW l c k;exact⟨C,f,_,hC,⟨a,i,k⟩,F,F.binds hb⟩
theorem gP.di(d:gP K C "__init__" "Desk.__init__" st)(hC:vp K "Desk" C)(mk:makesIn K C=Ch)(kp:keepIn K (.ref C)=Ch)(hb:∀kV doc pm an bf ct us,us.length=ps.length->bindArgs (fnOf "__init__" "Desk.__init__" (bE st) (aL st) (aj st) .none kV doc pm an bf ct) ⟨us,[]⟩=pure (ps.zip us)):S0 K st ps:=by let⟨f,od,an,sl,oc,kV,dc,pm,cd,ct,a,l,c,k,i⟩:=d;have F:=qW l c k;exact⟨C,f,_,hC,⟨mk,a,i,kp⟩,F,F.binds hb⟩
end
end ZS
namespace ZQ
open L2 ZS PySem.W
section
variable{st:η}
theorem bu(h:∀H1,QS X H1 st g):LN X H0 ms as st (Z.bj ms g):=⟨ZS.bu λ H1=>(h H1).p⟩
end
section
variable{K:Da}
theorem za{st:η}(qx:bs.length=ps.length)(d:DZ K m qual st ps)(hb:∀{f}{bf}{A}{outer}{s}{H}{E},N.Nodup->(A.deeper<|envOfC qual (aj st) s.heap.objs.size f bf).units+64<cLine->bL k (A.deeper<|envOfC qual (aj st) s.heap.objs.size f bf)->BK (d6 iV P w K mg base N qual (aj st) f bf A outer s H E).gy H (aL st) b)(S:a9 N ps (aj st):=by exact ZS.Dg):wD P w K mg base m (k+1) ps bs (Z.Di bs N.length b):=wD.mk' qx d S λ f bf A outer s H E hr=>(hb S.nd hr.units hr).p
theorem vd{st:η}(qx:bs.length=ps.length)(d:DZ K m qual st ps)(hb:∀{f}{bf}{A}{outer}{s}{H}{E},N.Nodup->(A.deeper<|envOfC qual (aj st) s.heap.objs.size f bf).units+64<cLine->bL k (A.deeper<|envOfC qual (aj st) s.heap.objs.size f bf)->zl (d6 (wG P w) P w K mg base N qual (aj st) f bf A outer s H E) H (aL st) xb)(S:a9 N ps (aj st):=by exact ZS.Dg):n_ P w K mg base m (k+1) ps bs (Z.Kg bs N.length xb):=n_.mk' qx d S λ f bf A outer s H E hr=>(hb S.nd hr.units hr).p
theorem Sx{st:η}(qx:ps.length=2)(d:S0 K st ps)(hb:∀{f}{bf}{A}{outer}{s}{H H0}{as}{E},N.Nodup->(A.deeper<|envOfC "Desk.__init__" (aj st) s.heap.objs.size f bf).units+64<cLine->bL k (A.deeper<|envOfC "Desk.__init__" (aj st) s.heap.objs.size f bf)->o8 (d6 iV P w K mg base N "Desk.__init__" (aj st) f bf A outer s H E).gy H0 [0] as (aL st) b)(S:a9 N ps (aj st):=by exact ZS.Dg):Hq P w K mg base (k+1) ps N.length (Z.zt [0] [Ch,AT] N.length b):=Hq.mk' qx d S λ f bf A outer s H H0 as E hr=>(hb S.nd hr.units hr).p
end
end ZQ
namespace ZS
open L2 PySem.W
section
variable{K:Frag}{st:η}
theorem W0(d:gP K C "__init__" q st)(xj:BZ K C=Ch)(kp:keepIn K (.ref C)=Ch)(ef:vn K C)(ht:findIn K (.ref C) as=AC At)(ha:(⟨a.toArray⟩)=as)
 (hb:aL st=[.Assign [.Attribute (.Name "self" p1) as p2] (.Name as p3) p4])
 (hbd:∀kV doc pm an bf ct us,us.length=2->bindArgs (fnOf "__init__" q (bE st) (aL st) (aj st) .none kV doc pm an bf ct) ⟨us,[]⟩=pure ((["self",as]:γ Str).zip us))
 (S:a9 ["self",as] ["self",as] (aj st)) (hv:∀x∈(["self",as]:γ Str),Hl (aj st) x) (hd:(as==("__debug__"))=AT) (hc:(as==("__classdict__"))=AT):Lo P w K mg base C 1 [a]:=by
 let⟨f,od,an,sl,oc,kV,dc,pm,cd,ct,e1,l,c,k,i⟩:=d;have F:=qW l c k;refine⟨f,fnOf "__init__" q (bE st) (aL st) (aj st) .none kV dc pm an cd ct,xj,kp,e1,i,?_,?_⟩
 .rw[f8,A35,ha];exact VV ef ht F hb S hv hd hc
 .rw[f8,A35,ha];exact F.binds hbd
theorem WZ(d:gP K C "__init__" q st)(xj:BZ K C=Ch)(kp:keepIn K (.ref C)=Ch)(ef:vn K C)(ht:findIn K (.ref C) as=AC At)(_z:findIn K (.ref C) bs=AC At)(ha:(⟨a.toArray⟩)=as)(YD:(⟨b.toArray⟩)=bs)
 (hb:aL st=[.Assign [.Attribute (.Name "self" p1) as p2] (.Name as p3) p4,.Assign [.Attribute (.Name "self" q1) bs q2] (.Name bs q3) q4]) (qv:bs≠as)
 (hbd:∀kV doc pm an bf ct us,us.length=3->bindArgs (fnOf "__init__" q (bE st) (aL st) (aj st) .none kV doc pm an bf ct) ⟨us,[]⟩=pure ((["self",as,bs]:γ Str).zip us))
 (S:a9 ["self",as,bs] ["self",as,bs] (aj st)) (hv:∀x∈(["self",as,bs]:γ Str),Hl (aj st) x) (hd:∀x∈[as,bs],(x==("__debug__"))=AT/\(x==("__classdict__"))=AT):Lo P w K mg base C 1 [a,b]:=by
 let⟨f,od,an,sl,oc,kV,dc,pm,cd,ct,e1,l,c,k,i⟩:=d;have F:=qW l c k;refine⟨f,fnOf "__init__" q (bE st) (aL st) (aj st) .none kV dc pm an cd ct,xj,kp,e1,i,?_,?_⟩
 .rw[f8,f8,A35,ha,YD];exact VU ef ht _z F hb qv S hv hd
 .rw[f8,f8,A35,ha,YD];exact F.binds hbd
theorem D7{l:γ Str}(h:∀x∈l,sc.names.lookup x=AC .local):∀x∈l,Hl sc x:=λ x hx=>.inl<|h x hx
end
theorem wV:∀is ts ρ,(Z.fm is ts ρ).length=ρ.length
|[],_,_=>rfl
|_::_,[],_=>rfl
|i::is,t::ts,ρ=>by show(Z.fm is ts _).length=_;rw[wV];simp
theorem kj:∀is ts ρ {j},j∉is->(Z.fm is ts ρ)[j]?=ρ[j]?
|[],_,_,_,_=>rfl
|_::_,[],_,_,_=>rfl
|i::is,t::ts,ρ,j,h=>by show(Z.fm is ts _)[j]?=_;rw[kj is ts _ λ z=>h<|A09 _ z,A29 λ z=>h (by rw[z];simp)]
theorem Ah{S:δ->Z.D->Prop}:∀{is}{as}{ts}{ρ}{j},is.Nodup->(∀i∈is,i<ρ.length)->Paired R is as->Paired S as ts->j∈is->∃a t,a∈as/\R j a/\S a t/\(Z.fm is ts ρ)[j]?=AC (AC<|.bor t)
|[],_,_,_,_,_,_,_,_,h=>by simp at h
|i::is,_,_,ρ,j,nd,hl,.cons (b:=a) r tr,.cons (b:=t) s tS,h=>by
 have nU:=A17.mp nd;rcases A02.mp h with e|h
 .subst e;refine⟨a,t,by simp,r,s,?_⟩;show(Z.fm is _ _)[j]?=_;rw[kj is _ _ nU.1,A37<|hl j ∅]
 .let⟨a',t',h1,h2,h3,h4⟩:=Ah (ρ:=ρ.set i (AC<|.bor t)) nU.2 (λ k hk=>by simpa using hl k (by simp[hk])) tr tS h;exact⟨a',t',by simp[h1],h2,h3,h4⟩
section
variable{K:Da}
abbrev T7(ρ:Z.Env)(i:Nat)(a:δ):Prop:=∃kd ks vs,ρ[i]?=AC (AC<|.bor<|Z.f_ a kd ks vs)
theorem jS:∀{l}{m}{y},Paired R l m->y∈m->∃x∈l,R x y
|_,_,_,.nil,h=>by simp at h
|_,_,y,.cons r t,h=>by
 rcases A02.mp h with rfl|h
 .exact⟨_,by simp,r⟩
 .let⟨x,h1,h2⟩:=jS t h;exact⟨x,by simp[h1],h2⟩
theorem RM.pick(h:RM K H0 ms as H σ ρ):∀{is},(∀i∈is,i∈ms)->is.Nodup->∃wB,Paired (T7 ρ) is wB/\wB.Nodup/\∀a∈wB,a∈as
|[],_,_=>⟨[],.nil,by simp,λ a h=>by simp at h⟩
|i::is,hs,nd=>by
 have nU:=A17.mp nd;let⟨wB,p,n,s⟩:=h.pick (λ k hk=>hs k (by simp[hk])) nU.2;let⟨a,ha,r⟩:=eQ h.at_ (hs i ∅);refine⟨a::wB,.cons r p,A17.mpr ⟨λ z=>?_,n⟩,λ b hb=>?_⟩
 .let⟨j,hj,r2⟩:=jS p z;let⟨_,_,_,r⟩:=r;let⟨_,_,_,r2⟩:=r2;have:=h.uniq r r2;subst this;exact nU.1 hj
 .rcases A02.mp hb with rfl|hb
  .exact ha
  .exact s b hb
theorem RM.Po(h:RM K H0 ms as H σ ρ)(hb:b∈as):(∀xs,H b≠AC (.tup xs))/\∀o u,H b≠AC (.eJ o u):=by let⟨i,_,_,_,_,hi⟩:=jS h.at_ hb;let⟨_,u,q,t⟩:=h.thing hi;exact⟨λ xs z=>t.mb.1 xs<|A04<|q.symm.trans z,λ o x z=>t.mb.2.1 o x<|A04<|q.symm.trans z⟩
def zz(as:γ δ)(H H':Hp):Prop:=∀b o,b∉as->H b=AC o->H' b=AC o
theorem zz.of(s:aJ H H'):zz as H H':=λ b o _ e=>s b o e
theorem zz.trans{H2:Hp}(a:zz as H H')(b:zz as H' H2):zz as H H2:=λ c o hc e=>b c o hc<|a c o hc e
theorem RM.kM(h:RM K H0 ms as H σ ρ)(s:zz as H H'):gU H H':=⟨λ b xs e=>s b _ (λ z=>(h.Po z).1 xs e) e,λ b o u e=>s b _ (λ z=>(h.Po z).2 o u e) e⟩
theorem RM.call(h:RM K H0 ms as H σ ρ)(hs:∀i∈is,i∈ms)(nd:is.Nodup)(p:Paired (T7 ρ) is wB)(sub:∀a∈wB,a∈as)(sm:aJ (wipe H wB) H')(th:TH K H' wB ts):
 zz as H H'/\RM K H0 ms as H' σ (Z.fm is ts ρ):=by
 have keep:∀b o,b∉wB->H b=AC o->H' b=AC o:=λ b o n e=>sm b o (by show(if b∈wB then At else H b)=_;rw[W1 n];exact e);have m1:zz as H H':=λ b o n e=>keep b o (λ z=>n<|sub b z) e;have st:=h.kM m1;have hl:∀i∈is,i<ρ.length:=λ i hi=>by let⟨a,_,_,_,_,q⟩:=eQ p hi;exact(A08.mp q).1
 have new:∀{j},j∈is->∃a kd ks vs u,a∈wB/\T7 ρ j a/\H' a=AC u/\Hm K H' kd ks vs u/\(Z.fm is ts ρ)[j]?=AC (AC<|.bor<|Z.f_ a kd ks vs):=λ {j} hj=>by let⟨a,t,ha,r,⟨kd,ks,vs,u,e,q,o⟩,g⟩:=Ah (ρ:=ρ) nd hl p th hj;subst e;exact⟨a,kd,ks,vs,u,ha,r,q,o,g⟩
 have old:∀{j}{l},(Z.fm is ts ρ)[j]?=AC (AC l)->j∉is->ρ[j]?=AC (AC l):=λ {j l} e hj=>by rw[kj is ts ρ hj]at e;exact e
 have off:∀{j:Nat}{a:δ},j∉is->T7 ρ j a->a∉wB:=λ {j a} hj ⟨_,_,_,r⟩ z=>by let⟨i,hi,_,_,_,r2⟩:=jS p z;exact hj (by rw[h.uniq r r2];exact hi)
 have fr:∀{q:δ},over H0 H as q=At->q∉as/\over H0 H' as q=At:=λ {q} e=>by
  have n:q∉as:=λ z=>by let⟨u,hu⟩:=h.tracked z;rw[cO z,hu]at e;cases e
  exact⟨n,by rw[dh n]at e ⊢;exact e⟩
 have thing:∀{j:Nat}{d:Z.D},ρ[j]?=AC (AC<|.bor d)->∃a kd ks vs,d=Z.f_ a kd ks vs:=λ {j d} hj=>by
  have hm:j∈ms:=by have:=il h.no hj trivial;simpa using this
  let⟨a,_,kd,ks,vs,q⟩:=eQ h.at_ hm;rw[hj]at q;injection q with q;injection q with q;injection q with q
  exact⟨a,kd,ks,vs,q⟩
 have σat:∀{j:Nat}{a:δ},T7 ρ j a->σ[j]?=AC (AC<|.ref a):=λ⟨_,_,_,q⟩=>(h.thing q).1;refine⟨m1,⟨?_,?_,?_,h.nd,h.h0⟩⟩
 .refine⟨λ b o e=>?_,⟨by rw[wV];exact h.rs.re.len,λ j l e=>?_,λ j k xs ys q e1 e2 e3 e4=>?_⟩,λ j xs q e1 e2=>?_,λ j d e1=>?_,⟨λ j k ks ls q e1 e2 e3 e4=>?_,λ j ks q e1 e2=>?_⟩⟩
  .by_cases hb:b∈as
   .rw[cO hb]at e;exact e
   .rw[dh hb]at e;exact m1 b o hb<|h.same b o e
  .by_cases hj:j∈is
   .let⟨a,kd,ks,vs,u,ha,r,q,o,g⟩:=new hj;rw[g]at e;cases e;exact⟨.ref a,σat r,.inr ⟨a,kd,ks,vs,u,rfl,rfl,q,o⟩⟩
   .have e:=old e hj;let⟨v,e1,r⟩:=h.rs.re.get j l e;refine⟨v,e1,?_⟩;cases l with
    |val d=>exact Den.ups (show Den K H d v from r) st
    |own zs=>let⟨q',ws,rfl,gB,t'⟩:=r;exact⟨q',ws,rfl,m1 _ _ (fr<|h.rs.fresh j zs q' e e1).1 gB,t'.ups st⟩
    |bor d=>let⟨a,kd,ks,vs,rfl⟩:=thing e;let⟨s1,u,q,t⟩:=h.thing e;rw[s1]at e1;cases e1;exact .inr ⟨a,kd,ks,vs,u,rfl,rfl,keep _ _ (off hj ⟨_,_,_,e⟩) q,t.ups st⟩
    |dc ks=>let⟨q',as2,rfl,gB,t'⟩:=r;exact⟨q',as2,rfl,m1 _ _ (fr<|h.rs.zw.2 j ks q' e e1).1 gB,t'.ups st⟩
    |GZ ks=>let⟨q',o',as2,rfl,gB,t'⟩:=r;exact⟨q',o',as2,rfl,st.eJ _ _ _ gB,t'.ups st⟩
    |RH ps=>let⟨q',o',rfl,gB⟩:=r;exact⟨q',o',rfl,st.eJ _ _ _ gB⟩
    |exc c=>let⟨q',o',u',C',rfl,gB,r1,r2,r3⟩:=r;exact⟨q',o',u',C',rfl,st.eJ _ _ _ gB,r1,r2,r3.ups st⟩
  .have no:∀{j:Nat}{zs:γ Z.D},(Z.fm is ts ρ)[j]?=AC (AC<|.own zs)->ρ[j]?=AC (AC<|.own zs):=λ {j zs} e=>old e λ hj=>by let⟨a,kd,ks,vs,u,ha,r,q,o,g⟩:=new hj;rw[g]at e;cases e
   exact h.rs.re.sep j k xs ys q (no e1) (no e2) e3 e4
  .have hj:j∉is:=λ hj=>by let⟨a,kd,ks,vs,u,ha,r,q,o,g⟩:=new hj;rw[g]at e1;cases e1
   exact(fr<|h.rs.fresh j xs q (old e1 hj) e2).2
  .by_cases hj:j∈is
   .let⟨a,kd,ks,vs,u,ha,r,q,o,g⟩:=new hj;rw[g]at e1;cases e1;exact⟨.ref a,σat r,.inr ⟨a,kd,ks,vs,u,rfl,rfl,by rw[cO<|sub a ha];exact q⟩⟩
   .have e:=old e1 hj;let⟨a,kd,ks,vs,rfl⟩:=thing e;let⟨s1,u,q,t⟩:=h.thing e;exact⟨.ref a,s1,.inr ⟨a,kd,ks,vs,u,rfl,rfl,by rw[cO<|h.mem e];exact keep _ _ (off hj ⟨_,_,_,e⟩) q⟩⟩
  .have no:∀{j:Nat}{zs:Z.DK},(Z.fm is ts ρ)[j]?=AC (AC<|.dc zs)->ρ[j]?=AC (AC<|.dc zs):=λ {j zs} e=>old e λ hj=>by let⟨a,kd,ks,vs,u,ha,r,q,o,g⟩:=new hj;rw[g]at e;cases e
   exact h.rs.zw.1 j k ks ls q (no e1) (no e2) e3 e4
  .have hj:j∉is:=λ hj=>by let⟨a,kd,ks,vs,u,ha,r,q,o,g⟩:=new hj;rw[g]at e1;cases e1
   exact(fr<|h.rs.zw.2 j ks q (old e1 hj) e2).2
 .refine dI h.at_ λ i hi a r=>?_;by_cases hj:i∈is
  .let⟨a2,kd,ks,vs,u,ha,r2,q,o,g⟩:=new hj;have:=DU i _ _ r r2;subst this;exact⟨kd,ks,vs,g⟩
  .let⟨kd,ks,vs,r⟩:=r;exact⟨kd,ks,vs,by rw[kj is ts ρ hj];exact r⟩
 .refine qR λ j x e t=>?_;rw[B11];by_cases hj:j∈is
  .exact hs j hj
  .rw[kj is ts ρ hj]at e;have:=il h.no e t;simpa using this
end
theorem t5:∀k {bs}{ds}{as},ds.length=bs.length->Paired (λ(d)(a:δ)=>∃kd ks vs,d=Z.f_ a kd ks vs) (Z.BP bs ds) as ->
 Paired (λ(i)(a)=>∃kd ks vs,k<=i/\(al (λ b d=>AC<|Z.sE b d) bs ds)[i-k]?=AC (AC<|.bor<|Z.f_ a kd ks vs)) (Z.fu k bs) as
|k,[],[],_,_,.nil=>.nil
|k,Ch::bs,d::ds,_,hl,.cons r t=>by
 let⟨kd,ks,vs,rfl⟩:=r;refine .cons ⟨kd,ks,vs,v4 _,by simp[Z.f_,Z.sE]⟩ ?_;refine dI (t5 _ (by simpa using hl) t) λ i _ a ⟨kd,ks,vs,h1,h2⟩=>⟨kd,ks,vs,by lia,?_⟩
 rw[show i-k=(i-(k+1))+1 from by lia];simpa using h2
|k,AT::bs,d::ds,_,hl,p=>by
 refine dI (t5 (k+1) (by simpa using hl) p) λ i _ a ⟨kd,ks,vs,h1,h2⟩=>⟨kd,ks,vs,by lia,?_⟩
 rw[show i-k=(i-(k+1))+1 from by lia];simpa using h2
theorem EH:∀{a}{k},Z.lg ms k a->Z.lg ms (k+a.length) b->Z.lg ms k (a++b)
|[],_,_,h=>h
|x::a,k,h,g=>⟨h.1,EH h.2 (by rw[show k+1+a.length=k+(x::a).length from by simp;lia];exact g)⟩
theorem yA:∀k bs ds ms,(∀i∈Z.fu k bs,i∈ms)->Z.lg ms k (al (λ b d=>AC<|Z.sE b d) bs ds)
|_,[],_,_,_=>by simp[Z.lg]
|_,_::_,[],_,_=>by simp[Z.lg]
|k,Ch::bs,d::ds,ms,h=>⟨λ _=>h k (by simp[Z.fu]),yA _ bs ds ms λ i hi=>h i (by simp[Z.fu,hi])⟩
|k,AT::bs,d::ds,ms,h=>⟨λ z=>by
 have:Z.sE AT d=.val d:=by cases d<;>rfl
 change Z.vB (AC _)at z;rw[this]at z;exact z.elim,yA _ bs ds ms λ i hi=>h i (by simpa[Z.fu]using hi)⟩
def Uo(K:Da)(H0:Hp)(ms:γ Nat)(as:γ δ)(f:Z.S4):TE:=λ σ H Q=>∃ρ d ρ',RM K H0 ms as H σ ρ/\f ρ=.ok (d,ρ')/\∀v H',zz as H H'->RM K H0 ms as H' σ ρ'->Den K H' d v->Q v H'
def tMT(K:Da)(H0:Hp)(ms:γ Nat)(as:γ δ)(f:Z.OX):TT:=λ σ H Q=>∃ρ b ρ',RM K H0 ms as H σ ρ/\f ρ=.ok (b,ρ')/\∀H',zz as H H'->RM K H0 ms as H' σ ρ'->Q b H'
abbrev ME(X:Cx)(H0:Hp)(ms:γ Nat)(as:γ δ)(e:ι)(f:Z.S4):Prop:=PE X e<|Uo X.K H0 ms as f
structure _root_.ZQ.O3(X:Cx)(H0:Hp)(ms:List Nat)(as:List Addr)(e:Expr)(f:Z.S4):Prop where p:ME X H0 ms as e f
abbrev MT(X:Cx)(H0:Hp)(ms:γ Nat)(as:γ δ)(e:ι)(f:Z.OX):Prop:=PT X e<|tMT X.K H0 ms as f
structure _root_.ZQ.O2(X:Cx)(H0:Hp)(ms:List Nat)(as:List Addr)(e:Expr)(f:Z.OX):Prop where p:MT X H0 ms as e f
abbrev MTW(X:Cx)(H0:Hp)(ms:γ Nat)(as:γ δ)(e:ι)(f:Z.OX):Prop:=PW X e<|tMT X.K H0 ms as f
structure _root_.ZQ.O1(X:Cx)(H0:Hp)(ms:List Nat)(as:List Addr)(e:Expr)(f:Z.OX):Prop where p:MTW X H0 ms as e f
structure qt(P:Program)(w:World)(K:Da)(mg:Str->Option Value)(base:Heap)(x:Str)(k:Nat)(ps:List Str)(bs:List Bool)(n:Nat)(fn:List Z.D->Z.Res (Z.D×List Z.D)):Prop where
 ex:∃g fd,eY P w K mg base iV k g fd ps (Pc K (Z.fu 0 bs) bs n fn)/\mg x=AC (.ref g)/\FM K (.ref g)=Ch/\Binds K fd ps []
structure r?(P:Program)(w:World)(K:Da)(mg:Str->Option Value)(base:Heap)(m:Str)(k:Nat)(ps:List Str)(bs:List Bool)(n:Nat)(fn:List Z.D->Z.Res (Z.D×List Z.D)):Prop where
 ex:∃C g fd,vp K "Desk" C/\Meth K C m g/\eY P w K mg base iV k g fd ps (Pc K (Z.fu 0 bs) bs n fn)/\Binds K fd ps []
section
variable{K:Da}
theorem qt.mk'{st:η}(qx:bs.length=ps.length)(d:Def K mg x st ps)(S:a9 N ps (aj st))
 (hb:∀ f bf A outer s H H0 as E,bL k (A.deeper<|envOfC x (aj st) s.heap.objs.size f bf) ->
  Xe (d6 iV P w K mg base N x (aj st) f bf A outer s H E).gy H0 (Z.fu 0 bs) as (aL st) b):qt P w K mg base x (k+1) ps bs N.length (Z.zt (Z.fu 0 bs) bs N.length b):=by
 let⟨f,fd,F,hm,sX⟩:=d.ex;exact⟨f,fd,Sb qx F S<|hb f,hm,F.kp,sX⟩
theorem r?.mk'{st:η}(qx:bs.length=ps.length)(d:DZ K m qual st ps)(S:a9 N ps (aj st))
 (hb:∀ f bf A outer s H H0 as E,bL k (A.deeper<|envOfC qual (aj st) s.heap.objs.size f bf) ->
  Xe (d6 iV P w K mg base N qual (aj st) f bf A outer s H E).gy H0 (Z.fu 0 bs) as (aL st) b):r? P w K mg base m (k+1) ps bs N.length (Z.zt (Z.fu 0 bs) bs N.length b):=by
 let⟨C,f,fd,hC,hm,F,sX⟩:=d.ex;exact⟨C,f,fd,hC,hm,Sb qx F S<|hb f,sX⟩
end
section
variable{X:Cx}
theorem _root_.ZQ._e(h:ZQ.QE X e f):ZQ.O3 X H0 ms as e (Z.mP f):=⟨PE.imp h.p <|by rintro σ H Q ⟨ρ,d,ρ',rm,e,k⟩;let⟨x,ea,e⟩:=XV e;cases e;exact⟨ρ,d,rm.rs.re,ea,λ v H1 s1 d1=>k v H1 (zz.of s1) (rm.up s1) d1⟩⟩
theorem BE{K:FS}(rm:RM K H0 ms as H σ ρ)(hs:∀i∈is,i∈ms)(nd:is.Nodup)(d1:jG K H bs ds vs)(V1:Z.BP bs ds=Z.fh is ρ)(er:fn ds=.ok r)
 (k:∀v H',zz as H H'->RM K H0 ms as H' σ (Z.fm is r.2 ρ)->Den K H' r.1 v->Q v H'):Pc K (Z.fu 0 bs) bs n fn vs H Q E:=by
 let⟨wB,p,n',sub⟩:=rm.pick hs nd;have p2:Paired (λ(d)(a)=>∃kd ks vs,d=Z.f_ a kd ks vs) (Z.BP bs ds) wB:=by
  rw[V1];have key:∀{l}{m},Paired (T7 ρ) l m->Paired (λ(d)(a)=>∃kd ks vs,d=Z.f_ a kd ks vs) (Z.fh l ρ) m:=by
   intro l m q
   induction q with
   |nil=>exact .nil
   |cons r t ih=>let⟨kd,ks,vs,hi⟩:=r;exact .cons ⟨kd,ks,vs,by show Z.Xy _=_;rw[hi];rfl⟩ ih
  exact key p
 let⟨Yv,NY⟩:=d1.length;have st:=t5 0 NY p2;refine⟨ds,wB,r.1,r.2,d1,n',dI st λ i _ a ⟨kd,ks,vs,_,q⟩=>⟨kd,ks,vs,?_⟩,?_,er,λ v H' s2 th dv=>?_⟩
 .rw[Nat.sub_zero]at q;unfold Z.startB;rw[A34 (A08.mp q).1];exact q
 .exact EH (yA 0 bs ds _ λ i h=>h)<|yB _ _
 .let⟨m1,BR⟩:=rm.call hs nd p sub s2 th;exact k v H' m1 BR dv
theorem _root_.ZQ.sV(C:qt X.prog X.w X.K X.mg X.base x k ps bs n fn)(hr:bL k X.A)(hg:Gl X x)(hs:∀i∈is,i∈ms)(nd:is.Nodup)
 (ha:ZQ.LO X (e::es) bs ar) (gQ:(x==("__debug__"))=AT:=by decide +kernel) (he:Se e es X.env:=by rfl) (fU:Pn pos es X.env:=by rfl) :
 ZQ.O3 X H0 ms as (.Call (.Name x p1) (e::es) [] pos) (Z.eu fn bs is ar):=⟨by
 let⟨g,fd,F,hm,hk,hb⟩:=C.ex;refine PE.imp (yn F hr hg hm hk hb .nil uf ha.p gQ he fU) ?_;rintro σ H Q ⟨ρ,d,ρ',rm,e,k⟩;let⟨ds,ea,e⟩:=XV e;let⟨V1,e⟩:=Z.b8 e;let⟨r,er,e⟩:=XV e;let⟨ψ,e⟩:=Z.b8 e;cases e;refine⟨ρ,ds,rm.rs.re,ea,λ vs H1 s1 d1=>?_⟩;show Pc X.K _ bs n fn _ H1 Q E0;rw[A51];exact BE (rm.up s1) hs nd d1 V1 er λ v H' m1 BR dv=>k v H' ((zz.of s1).trans m1) BR dv⟩
theorem _root_.ZQ.lj(C:r? X.prog X.w X.K X.mg X.base m k ps (Ch::bs) n fn)(hr:bL k X.A)(ho:ZQ.QM X 0 o fo)(hf:(Z.dE.map λ c=>(⟨c.toArray⟩)).contains m=AT)(hs:∀i∈is,i∈ms)(nd:is.Nodup)(ha:ZQ.LO X (e::es) bs ar)
 (pW:Se e es X.env:=by rfl) (fU:Pn pos es X.env:=by rfl)
 (ht:eval (.Call (.Attribute o m apos) (e::es) [] pos) X.env=(do
  let ov ←eval o X.env
  standAt apos.atName
  let (f,first) ←holding [ov] (getMethod ov m pl)
  callWith pos f first (backTo pos<|starEach (e::es) X.env) (backToKw pos<|keywordEach [] X.env)):=by rfl) :
 ZQ.O3 X H0 ms as (.Call (.Attribute o m apos) (e::es) [] pos) (Z.eu fn (Ch::bs) is<|Z.aa fo ar):=⟨by
 let⟨C,g,fd,hC,hm,F,hb⟩:=C.ex;refine PE.imp (Ey ho.p hC.2 hm F hr hb .nil uf ha.p pW fU ht) ?_;rintro σ H Q ⟨ρ,d,ρ',rm,e,k⟩;let⟨ds,ea,e⟩:=XV e;let⟨V1,e⟩:=Z.b8 e;let⟨r,er,e⟩:=XV e;let⟨ψ,e⟩:=Z.b8 e;cases e;let⟨x,ex,ea⟩:=XV ea;let⟨xs,en,ea⟩:=XV ea;cases ea;refine⟨ρ,x,rm.rs.re,ex,λ v H1 s1 d1=>?_⟩;let⟨a,ks,ds,u,rfl,rfl,q,t⟩:=id d1;rcases t with⟨_,hk,C',dx,fs,rfl,E5,h3,h4⟩|⟨z,_⟩
 .have:=E5.1.symm.trans hC.1;cases this;rw[hk]at h3;refine⟨a,dx,fs,rfl,q,m_ h3 hf,ρ,xs,rm.rs.re.up s1,en,λ vs H2 s2 d2=>?_⟩;show Pc X.K (Z.fu 0<|true::bs) (Ch::bs) n fn (.ref a::(vs++[])) H2 Q E0;rw[A51];exact BE ((rm.up s1).up s2) hs nd (ds:=Z.f_ a 0 ks ds::xs) ⟨_,_,rfl,(d1.up s2).b,d2⟩ V1 er λ v H' m1 BR dv=>k v H' (((zz.of s1).trans<|zz.of s2).trans m1) BR dv
 .cases z⟩
theorem _c(hz:HC X.K r o):∀σ H Q,Uo X.K H0 ms as (Z.mB o fa fb) σ H Q->L9 r (Uo X.K H0 ms as fa) (Uo X.K H0 ms as fb) σ H Q:=by rintro σ H Q ⟨ρ,d,ρ',rm,e,k⟩;let⟨⟨x,ρ1⟩,ea,e⟩:=XV e;let⟨⟨y,ρ2⟩,eb,e⟩:=XV e;let⟨z,eo,e⟩:=XV e;cases e;exact⟨ρ,x,ρ1,rm,ea,λ v H1 m1 rH d1=>⟨ρ1,y,ρ2,rH,eb,λ u H2 m2 BR d2=>hz _ _ _ _ _ H2 Q (.inl<|d1.ups<|rH.kM m2) (.inl d2) eo λ w H' s3 dw=>k w H' ((m1.trans m2).trans<|zz.of s3) (BR.up s3) dw⟩⟩
theorem Vz(h:PT X e (Ec t))(k:∀σ H Q,Uo X.K H0 ms as fa σ H Q->t σ H Q):MT X H0 ms as e (Z.Lw fa):=PT.imp h <|by
 rintro σ H Q ⟨ρ,b,ρ',rm,e,q⟩;let⟨⟨x,ρ1⟩,ea,e⟩:=XV e;refine k σ H _ ⟨ρ,x,ρ1,rm,ea,λ v H' m rH d=>?_⟩;dsimp only at e;split at e
 .cases e;simp only[Den]at d;exact⟨_,d,q H' m rH⟩
 .cases e
theorem _root_.ZQ.Nf(h:BX X op o)(ha:ZQ.O3 X H0 ms as a fa)(hb:ZQ.O3 X H0 ms as b fb)(hm:behindInMarks op b=AT):ZQ.O2 X H0 ms as (.Compare a [op] [b] pos) (Z.Lw<|Z.mB o fa fb):=
 ⟨let ⟨_,hr,hz⟩:=h.ex;Vz (pE hr ha.p hb.p hm) (_c hz)⟩
theorem _root_.ZQ.CN(h:ZQ.QT X e t):ZQ.O2 X H0 ms as e (Z.BS t):=⟨PT.imp h.p <|by rintro σ H Q ⟨ρ,d,ρ',rm,e,k⟩;let⟨x,ea,e⟩:=XV e;cases e;exact⟨ρ,d,rm.rs.re,ea,λ H1 s1=>k H1 (zz.of s1)<|rm.up s1⟩⟩
theorem _root_.ZQ._d(h:ZQ.O3 X H0 ms as e fa)(he:∀whole,isTrue e X.env whole=(do let v ←whole;standAt e.pos;holding [v] (truthy v)):=by intro _;rfl):ZQ.O2 X H0 ms as e (Z.Lw fa):=⟨PT.imp (IF h.p he) <|by
 rintro σ H Q ⟨ρ,b,ρ',rm,e,q⟩;let⟨⟨x,ρ1⟩,ea,e⟩:=XV e;refine⟨ρ,x,ρ1,rm,ea,λ v H' m rH d=>?_⟩;dsimp only at e;split at e
 .cases e;simp only[Den]at d;exact⟨_,d,q H' m rH⟩
 .cases e⟩
theorem _root_.ZQ.Rn(h:ZQ.O2 X H0 ms as a ta):ZQ.O2 X H0 ms as (.UnaryOp .Not a pos) (Z.EK ta):=⟨PT.imp (IG h.p) <|by rintro σ H Q ⟨ρ,b,ρ',rm,e,q⟩;let⟨⟨x,ρ1⟩,ea,e⟩:=XV e;cases e;exact⟨ρ,x,ρ1,rm,ea,λ H' m rH=>q H' m rH⟩⟩
theorem _root_.ZQ.Rm(h:ZQ.O2 X H0 ms as a ta):ZQ.O1 X H0 ms as (.BoolOp .Or [a] pos) ta:=⟨pw_or1 h.p⟩
theorem _root_.ZQ.Vy{rest:γ ι}(ha:ZQ.O2 X H0 ms as a ta)(hb:ZQ.O1 X H0 ms as (.BoolOp .Or (b::rest) pos) tb):ZQ.O1 X H0 ms as (.BoolOp .Or (a::b::rest) pos) (Z.Ng ta tb):=⟨PW.imp (pw_or ha.p hb.p) <|by
 rintro σ H Q ⟨ρ,d,ρ',rm,e,k⟩;let⟨⟨x,ρ1⟩,ea,e⟩:=XV e;refine⟨ρ,x,ρ1,rm,ea,λ H1 m1 rH=>?_⟩;dsimp only at e;cases x with
 |false=>simp only[A45]at e ⊢;exact⟨ρ1,d,ρ',rH,e,λ H' m2 BR=>k H' (m1.trans m2) BR⟩
 |true=>simp only[A25]at e ⊢;cases e;exact k H1 m1 rH⟩
theorem _root_.ZQ.mtw(h:ZQ.O1 X H0 ms as e ta):ZQ.O2 X H0 ms as e ta:=⟨h.p.pt⟩
end
section
variable{K:Da}
theorem RM.vN(h:RM K H0 ms as H σ ρ)(hd:Den K H d v)(hi:i∉ms):RM K H0 ms as H (σ.set i<|some v) (ρ.set i<|some<|.val d):=by
 refine⟨h.rs.vN hd,dI h.at_ λ j hj a ⟨kd,ks,vs,q⟩=>⟨kd,ks,vs,?_⟩,qR λ j x e t=>?_,h.nd,h.h0⟩
 .rw[A29 λ z=>hi (by rw[z];exact hj)];exact q
 .by_cases uG:i=j
  .subst uG;by_cases hl:i<ρ.length
   .rw[A37 hl]at e;cases e;exact t.elim
   .rw[B53 (by simpa using hl)]at e;cases e
  .rw[A29 uG]at e;exact il h.no e t
end
section
variable{st:η}
theorem _root_.ZQ.pQ:ZQ.o8 X H0 ms as [] Z.kA:=⟨rp.imp Es <|by rintro D σ H ⟨ρ,fl,rm,e,k⟩;cases e;exact k σ H (gU.refl H) rm⟩
theorem _root_.ZQ.Js(hN:X.N.Nodup)(hi:X.N[i]?=AC x)(hx:Loc X.env.scope x)(hm:i∉ms)(he:ZQ.O3 X H0 ms as a fa)(hs:swapsWith a (AC<|.Name x pos') pos.line X.env=pure AT:=by rfl)(hf:Fl X x:=by trivial):
 ZQ.LN X H0 ms as (.Assign [.Name x pos'] a pos) (Z.CQ i fa):=⟨PS.imp (qL hN hi hx he.p hs hf) <|by
 rintro D σ H ⟨ρ,fl,rm,e,k⟩;let⟨⟨d,ρ'⟩,ea,e⟩:=XV e;cases e;exact⟨ρ,d,ρ',rm,ea,λ v H' m rH dv=>k _ H' (rm.kM m)<|rH.vN dv hm⟩⟩
theorem _root_.ZQ.jU(h:ZQ.O3 X H0 ms as a fa)(hs:swapsWith a At pos.line X.env=pure AT:=by rfl):ZQ.LN X H0 ms as (.Expr a pos) (Z.jV fa):=⟨PS.imp (pF h.p hs) <|by rintro D σ H ⟨ρ,fl,rm,e,k⟩;let⟨⟨d,ρ'⟩,ea,e⟩:=XV e;cases e;exact⟨ρ,d,ρ',rm,ea,λ v H' m rH dv=>k σ H' (rm.kM m) rH⟩⟩
theorem _root_.ZQ.rP(hc:ZQ.O2 X H0 ms as c t)(h1:ZQ.o8 X H0 ms as b1 g)(h2:ZQ.o8 X H0 ms as b2 u):ZQ.LN X H0 ms as (.If c b1 b2 pos) (Z.kB t g u):=⟨PS.imp (Et hc.p h1.p h2.p) <|by
 rintro D σ H ⟨ρ,fl,rm,e,k⟩;let⟨⟨x,ρ1⟩,ea,e⟩:=XV e;refine⟨ρ,x,ρ1,rm,ea,λ H1 m1 rH=>?_⟩;dsimp only at e;cases x with
 |true=>simp only[A25]at e ⊢;exact⟨ρ1,fl,rH,e,k.up<|rm.kM m1⟩
 |false=>simp only[A45]at e ⊢;exact⟨ρ1,fl,rH,e,k.up<|rm.kM m1⟩⟩
def tMG(K:Da)(H0:Hp)(ms:γ Nat)(as:γ δ)(g:Z.GF):TG:=λ v σ H Q=>∃ρ d ρ',RM K H0 ms as H σ ρ/\Den K H d v/\g d ρ=.ok ρ'/\Z.cM ms ρ ρ'/\∀σ' H',gU H H'->RM K H0 ms as H' σ' ρ'->Q σ' H'
theorem Nj(h:∀H1,DG X H1 tg G):PG X tg (tMG X.K H0 ms as G):=by intro χ s σ H v u Q I r w;let⟨ρ,d,ρ',rm,hd,e,kt,k⟩:=w;exact h _ χ s σ H v u Q I r ⟨ρ,d,ρ',rm.ovR,hd,e,λ σ' H' s r'=>k σ' H' (kM s)<|rm.back kt r'⟩
theorem _root_.ZQ.Ju(hp:PassesOwn (model X.prog X.w) X.A X.env X.xe)(hc:X.calm=Ch)(hi:ZQ.QJ X tg iter it)(hg:∀H1,ZQ.QG X H1 tg G)(hb:ZQ.o8 X H0 ms as body g)
 (hs:∀x,foldedSetIterable iter X.env x=pure x:=by intro _;rfl):ZQ.LN X H0 ms as (.For tg iter body [] pos) (Z.Nl ms it G g):=⟨have hg:=λ H1=>(hg H1).p;PS.imp (IK hp hc hi.p (Nj hg) hb.p hs) <|by
 rintro D σ H ⟨ρ,fl,rm,e,k⟩;let⟨ds,ei,e⟩:=XV e;refine⟨ρ,ds,rm.rs.re,ei,λ J H1 s1 z=>?_⟩;refine⟨λ i m σ' H'=>m=ds.length-i/\i<=ds.length/\∃ρ',RM X.K H0 ms as H' σ' ρ'/\gU H1 H'/\Z.gK ms G g (ds.drop i) ρ'=.ok fl,⟨ds.length,by simp,A47 _,ρ,rm.up s1,gU.refl H1,by simpa using e⟩,?_⟩;rintro i m σ2 H2 ⟨rfl,A3,ρ2,r2,s2,e2⟩;by_cases kF:i<ds.length
 .obtain⟨d,hd⟩:∃d,ds[i]?=AC d:=⟨ds[i],by simp[kF]⟩
  have pZ:ds.drop i=d::ds.drop (i+1):=by
   rw[A84 kF];have:ds[i]=d:=by have:=A01 kF;rw[this]at hd;exact A04 hd
   rw[this]
  rw[pZ]at e2;let⟨ρ3,eg,e2⟩:=XV e2;let⟨kt,e2⟩:=Z.b8 e2;let⟨f3,eb,e2⟩:=XV e2;refine .inr ⟨z.go i d H2 s2 hd,λ σ' H'=>∃ρ',RM X.K H0 ms as H' σ' ρ'/\gU H1 H'/\Z.gK ms G g _ ρ'=.ok fl,λ σ' H' w=>⟨_,by lia,rfl,kF,w⟩,λ x H3 y=>?_⟩;let⟨sy,dx⟩:=z.BY i d H2 H3 x s2 hd y;replace s2:=s2.trans<|kM sy;refine⟨ρ2,d,ρ3,r2.up sy,dx,eg,kt,λ σ4 H4 s4 r4=>⟨ρ3,f3,r4,eb,?_⟩⟩;cases f3 with
  |nx ρ5=>exact λ σ5 H5 s5 r5=>⟨ρ5,r5,(s2.trans s4).trans s5,e2⟩
  |rt d5 ts5=>cases e2;exact k
 .have:i=ds.length:=by lia
  subst this;rw[B54]at e2;cases e2;exact .inl ⟨z.stop H2 s2,k σ2 H2 ((kM s1).trans s2) r2⟩⟩
theorem _root_.ZQ.G7{rest:γ η}(C:Hq X.prog X.w X.K X.mg X.base k ps n fn)(hr:bL (k+1) X.A)(hg:Gl X "Desk")(hN:X.N.Nodup)(hi:X.N[i]?=AC y)(hy:Loc X.env.scope y)
 (he:ZQ.QE X e fe) (mE:∀H1 as,ZQ.o8 X H1 [i] as rest r) (hs:swapsWith (.Call (.Name "Desk" p1) [e] [] jM) (AC<|.Name y pos') pos.line X.env=pure AT:=by rfl) (hf:X.fn y=Ch\/X.env.scope.names.lookup y=AC .local:=by first| exact .inl rfl| exact .inr rfl| assumption)
 (h1:Se e [] X.env:=by rfl) (fU:Pn jM [] X.env:=by rfl) :
 ZQ.BK X H0 (.Assign [.Name y pos'] (.Call (.Name "Desk" p1) [e] [] jM) pos::rest) (Z.yi i fn fe r):=⟨by
 have mE:=λ H1 as=>(mE H1 as).p;let⟨C,f,fd,hC,M,F,hb⟩:=C.ex;intro χ s σ H D I w;have hm:=A22 (mg:=X.mg) (h:=s.heap) I.l3 (I.mod.glob.keeps I.bk) hC.1;have hR:rp X rest (λ D σ H=>∃H1 as,tM X.K H1 [i] as r D σ H):=by rintro χ s σ H D I ⟨H1,as,w⟩;exact mE H1 as χ s σ H D I w
 let⟨ρ,fl,rs,e,k⟩:=w;let⟨d,ed,e⟩:=XV e;let⟨fs,ef,e⟩:=XV e;let⟨C!,e⟩:=Z.b8 e;have ef:=Z.Jz ef;let⟨dr,rfl,er⟩:=Z.OQ e;have A3:i<ρ.length:=by rw[rs.re.len,I.len];exact(A08.mp hi).1
 refine ji (qL hN hi hy (MC M F hr hg hm hb .nil uf (bM he.p cX h1) (by decide +kernel) h1 fU) hs hf) hR χ s σ H D I ?_;refine⟨ρ,d,rs.re,ed,λ v H1 s1 dv x dx hx J6 ne=>?_⟩;have sm:=Gz (C:=C) hx J6;refine⟨[Z.f_ x 0 [] [],d],[x],.non,[Z.f_ x 0 Z.dE fs],⟨_,_,rfl,Nh hC,_,_,rfl,Den.up dv sm,rfl⟩,by simp,.cons ⟨0,[],[],rfl⟩ .nil,⟨λ _=>by simp,λ z=>z.elim,yB _ _⟩,ef x,λ v' H' s2 th dn=>?_⟩;refine⟨by simpa only[Den]using dn,?_⟩;have nx:H x=At:=by
  cases q:H x with
  |none=>rfl
  |some o=>rw[s1 _ _ q]at hx;cases hx
 have s3:aJ H H':=λ b o q=>s2 b o (by have hb:b≠x:=bh q nx;show(if b∈[x]then At else _)=_;rw[W1 (by simpa using hb)];exact sm _ _<|s1 _ _ q)
 have n0:H0 x=At:=by
  cases e:H0 x with
  |none=>rfl
  |some o=>rw[rs.same _ _ e]at nx;cases nx
 cases th with
 |cons r0 _=>
  let⟨kd,ks,vs,u,e1,hu,t⟩:=r0;let⟨_,rfl,rfl,rfl⟩:=pz e1;have rs2:=rs.vO (i:=i) nx s3 hu t A3;have _J:over H0 H' [x]=upd H0 x u:=by
   funext b
   by_cases hb:b=x
   .subst hb;rw[cO ∅,aM];exact hu
   .rw[dh (by simpa using hb),aD hb]
  have rm:RM X.K H0 [i] [x] H' (σ.set i<|some<|.ref x) (ρ.set i<|some<|.bor<|Z.f_ x 0 Z.dE fs):=by
   refine⟨by rw[_J];exact rs2,.cons ⟨0,Z.dE,fs,A37 A3⟩ .nil,qR λ j y e t=>?_,by simp,λ a ha=>by rw[A21.mp ha];exact n0⟩;by_cases uG:i=j
   .subst uG;simp
   .rw[A29 uG]at e;have:=il C! (i:=j) (x:=y) (by rw[A29 uG];exact e) t;exact this
  have er:=er x;let⟨fl2,e3,er⟩:=XV er;cases fl2 with
  |nx ρ'=>cases er
  |rt d2 ts=>cases er;exact⟨H0,[x],_,.rt dr ts,rm,e3,λ v P! s4 _ d4=>k v P! s4 d4⟩⟩
end
theorem zE{K:Frag}(h:(⟨c.toArray⟩)=x)(w:nsIn K mainGlobals x=AC (AC<|.ref C))(q:zG K C=Ch):XC K c C:=⟨by rw[h];exact w,q⟩
end ZS
namespace ZQ
open L2 ZS PySem.W
section
variable{K:Da}
theorem zb{st:η}(qx:bs.length=ps.length)(d:DZ K m qual st ps)(hb:∀{f}{bf}{A}{outer}{s}{H H0}{as}{E},N.Nodup->(A.deeper<|envOfC qual (aj st) s.heap.objs.size f bf).units+64<cLine->bL k (A.deeper<|envOfC qual (aj st) s.heap.objs.size f bf)->o8 (d6 iV P w K mg base N qual (aj st) f bf A outer s H E).gy H0 (Z.fu 0 bs) as (aL st) b)(S:a9 N ps (aj st):=by exact ZS.Dg):r? P w K mg base m (k+1) ps bs N.length (Z.zt (Z.fu 0 bs) bs N.length b):=r?.mk' qx d S λ f bf A outer s H H0 as E hr=>(hb S.nd hr.units hr).p
theorem s?{st:η}(qx:bs.length=ps.length)(d:Def K mg x st ps)(hb:∀{f}{bf}{A}{outer}{s}{H H0}{as}{E},N.Nodup->(A.deeper<|envOfC x (aj st) s.heap.objs.size f bf).units+64<cLine->bL k (A.deeper<|envOfC x (aj st) s.heap.objs.size f bf)->o8 (d6 iV P w K mg base N x (aj st) f bf A outer s H E).gy H0 (Z.fu 0 bs) as (aL st) b)(S:a9 N ps (aj st):=by exact ZS.Dg):qt P w K mg base x (k+1) ps bs N.length (Z.zt (Z.fu 0 bs) bs N.length b):=qt.mk' qx d S λ f bf A outer s H H0 as E hr=>(hb S.nd hr.units hr).p
end
end ZQ
namespace Z
end Z
namespace ZS
open L2 PySem.W
section
variable{X:Cx}
end
end ZS
namespace ZQ
open L2 ZS
end ZQ
namespace Z
def PK(f:γ Nat->ε Bool)(h:SM)(r:XN->SM)(c:XN)(ρ:Env):Res zo:=match f c.1 with
|some Ch=>h ρ
|some AT=>r c ρ
|none=>.bad
def hNo(_:XN)(_:Env):Res zo:=.bad
def C6(l:γ (γ Nat×Bool))(c:γ Nat):ε Bool:=l.lookup c
def yF(b:SM)(xb:XF)(hs:XN->SM)(ρ:Env):Res zo:=match xb ρ with
|some c=>hs c ρ
|none=>b ρ
end Z
namespace ZS
open L2 PySem.W
def Li(K:Frag)(l:γ (γ Nat×Bool))(D:δ):Prop:=∀p∈l,∃C,nsIn K mainGlobals ⟨p.1.toArray⟩=AC (AC<|.ref C)/\mroIn K C (.ref D)=AC p.2
theorem z9{K:Frag}:Li K [] D:=λ _ h=>nomatch h
theorem wN{K:Frag}(h1:nsIn K mainGlobals ⟨c.toArray⟩=AC (AC<|.ref C))(h2:mroIn K C (.ref D)=AC b)(t:Li K l D):Li K ((c,b)::l) D:=λ p hp=>by
 rcases A02.mp hp with rfl|hp
 .exact⟨C,h1,h2⟩
 .exact t p hp
theorem Ee{K:Frag}(h:Li K l D)(e:l.lookup c=AC b)(xc:XC K c C):mroIn K C (.ref D)=AC b:=by
 have hm:(c,b)∈l:=by
  clear h
  induction l with
  |nil=>cases e
  |cons p l ih=>
   rw[A71]at e;by_cases z:c=p.1
   .rw[A27.mpr z]at e;cases e;subst z;exact .head _
   .rw[A61.mpr z]at e;exact .tail _<|ih e
 let⟨C',h1,h2⟩:=h _ hm;have:=h1.symm.trans xc.1;cases this;exact h2
theorem WG{K:Frag}(X:K.In s.heap)(xd:XC K c D)(he:s.heap.get? e=AC oe)(hc:oe.cls=.ref C)(hm:mroIn K C (.ref D)=AC b)(hq:Q b s):
 EQ M A (excMatches (.ref e)<|.ref D) Q E s:=by
 let⟨tl,ns,nm,qn,bs,hd,sn,sub,ab,col,PZ,s0',s1',s2',s3',s5',hC,qx⟩:=aaW X xd;let⟨h,g,d,t,os⟩:=s;have hcB:(Value.ref D::tl).contains (.type "BaseException")=Ch:=by rw[C20,qx,C21]
 have L:=looks_mroIn (M:=M) X hm;have f:=tc_notTuple;cases b<;>(repeat (first|(with_reducible refine B01 he ?_;rw[hc])|with_reducible refine B01 hC ?_|(with_reducible refine C22 hC ?_;rw[hcB])|with_reducible refine L.at ?_|wp_step))<;>exact hq
section
variable{K:Frag}
end
structure _root_.ZQ.Y2(X:Cx)(H0:Hp)(ms:List Nat)(as:List Addr)(hs:List ExceptHandler)(g:Z.XN->Z.SM):Prop where
 p:∀(ex C:Addr)(dd:Option Addr)(c:Z.XN)(l:Bool)(χ:List (Addr×Obj))(s:Shared)(σ:St)(H:Hp)(D:Ends),Y8 X χ σ H s ex C dd l->ro X.K H c C dd->tM X.K H0 ms as (g c) D σ H->EQ (model X.prog X.w) X.A (handleBy (.ref ex) X.env hs) (SP X χ D) X.xe s
theorem _root_.ZQ.Pt:ZQ.Y2 X H0 ms as [] Z.hNo:=⟨by rintro _ _ _ _ _ _ _ _ _ _ _ _ ⟨_,_,_,e,_⟩;exact nomatch e⟩
theorem _root_.ZQ.Pr{rest:γ ExceptHandler}(hg:Gl X x)(hm:X.mg x=AC (.ref D0))(xd:XC X.K c0 D0)(E3:Li X.K l D0)
 (hh:∀ev,ZQ.o8 (N3 X ev).gy H0 ms as (b0::Uu) h) (hr:ZQ.Y2 X H0 ms as rest r) (gQ:(x==("__debug__"))=AT:=by decide +kernel) :
 ZQ.Y2 X H0 ms as (.ExceptHandler (AC<|.Name x np) At (b0::Uu) aeI::rest) (Z.PK (Z.C6 l) h r):=⟨by
 rintro ex C dd c lb χ s σ H D c3 xr ⟨ρ,fl,rm,e,k⟩;have hh:=λ ev=>(hh ev).p;let⟨oe,vs,_,_,_,he,kN,_⟩:=c3.ex;refine wpAny_handleBy_cons (codeAny_handlers_test<|JH c3.inv hg hm ?_ gQ) (by intro q;cases q);unfold Z.PK at e;split at e
 .rename_i ef;refine WG c3.inv.l3 xd he kN (Ee E3 ef xr.1) ?_;refine codeAny_handlers_suite<|land c3 λ s4 c4=>?_;refine A19 (hh (.ref ex) χ s4 σ H D (NN c4.inv _) ⟨ρ,fl,rm,e,k⟩) (λ f s6 q=>?_) λ _ _ z=>z.elim;cases f with
  |next=>let⟨σ',H2,I6,q⟩:=q;exact⟨_,H2,lr c3.inv.ok I6,q⟩
  |brk=>let⟨σ',H2,I6,q⟩:=q;exact⟨_,H2,lr c3.inv.ok I6,q⟩
  |cont=>let⟨σ',H2,I6,q⟩:=q;exact⟨_,H2,lr c3.inv.ok I6,q⟩
  |ret u=>let⟨v,σ',H2,I6,rv,q⟩:=q;exact⟨v,_,H2,lr c3.inv.ok I6,rv,q⟩
 .rename_i ef;exact WG c3.inv.l3 xd he kN (Ee E3 ef xr.1)<|hr.p ex C dd c lb χ s σ H D c3 xr ⟨ρ,fl,rm,e,k⟩
 .cases e⟩
theorem _root_.ZQ.Jr(hex:X.ex=[])(pW:X.stack=X.env::X.outer)(LG:X.env.frame=AC X.env.locals)
 (hb:ZQ.o8 X.gy H0 ms as body b) (_w:∀pn E,ZQ.OZ (FX X pn E) body xb) (hh:ZQ.Y2 X H0 ms as (h0::hs) g):ZQ.LN X H0 ms as (.Try body (h0::hs) [] [] pos) (Z.yF b xb g):=⟨by
 have hb:=hb.p;have _w:=λ pn E=>(_w pn E).p;rintro χ s σ H D I ⟨ρ,fl,rm,e,k⟩;refine wpAny_Try_except ?_;unfold Z.yF at e;split at e
 .rename_i c ec;refine A19 (_w (X.pn++χ) _ [] s σ H {nx:=λ _ _=>False,rt:=λ _ _=>False} (NM I _) ⟨ρ,c,rm.rs.re,ec,λ nQ H' s' ex C dd sm xr J1 th1=>?_⟩) (λ f s1 q=>?_) λ _ _ z=>z;rotate_left
  .cases f with
   |next=>let⟨_,_,_,z⟩:=q;exact z.elim
   |brk=>let⟨_,_,_,z⟩:=q;exact z.elim
   |cont=>let⟨_,_,_,z⟩:=q;exact z.elim
   |ret u=>let⟨_,_,_,_,_,z⟩:=q;exact z.elim
  exact AB hex pW LG (C7 I.ok J1) (Ci th1) λ s2 c2=>land c2 λ s3 c3=>hh.p ex C dd c Ch χ s3 σ H' D c3 xr ⟨ρ,fl,rm.up sm,e,k.up<|kM sm⟩
 .refine A19 (hb χ s σ H D (I.wish _) ⟨ρ,fl,rm,e,k⟩) (λ f s1 q=>?_) λ _ _ z=>z.elim;have q:=q.gD;cases f with
  |next=>exact B45 q
  |brk=>exact q
  |cont=>exact q
  |ret u=>exact q⟩
end ZS
namespace Z
def yy(b:Bool)(x t:D):Res D:=match x,t with
| .str c,.dct (.inl _::.inl k::ks) vs=>guard (k=1) (.ok (.bl (match hJ ks vs c with
 |.ok _=>b
 | .bad=>!b)))
|_,_=>.bad
end Z
namespace ZS
open L2 PySem.W
theorem N8{K:Frag}:∀{ks:γ (γ Nat)}{ds}{aV:γ (Key×V)},aV.map (·.1)=ks.map (λ c=>(GE ⟨c.toArray⟩:Key))->aG K H ds (aV.map (·.2)) ->
 (∃d v,Z.hJ (ks.map .inr) ds c=.ok d/\qA aV (.inr ⟨c.toArray⟩)=AC v/\Den K H d v)\/(Z.hJ (ks.map .inr) ds c=.bad/\qA aV (.inr ⟨c.toArray⟩)=At)
|[],ds,[],_,_=>.inr ⟨rfl,rfl⟩
|[],ds,_::_,h,_=>by cases h
|k::ks,ds,[],h,_=>by cases h
|k::ks,ds,(n,v)::aV,h,hd=>by
 simp only[f8,A97]at h;let⟨rfl,h⟩:=h;cases ds with
 |nil=>simp[aG]at hd
 |cons d ds=>
  simp only[f8,aG]at hd;let⟨v',r,e1,h4,h5⟩:=hd;cases e1;by_cases hk:k=c
  .subst hk;exact .inl ⟨d,v,by simp[Z.hJ],o_ rfl,h4⟩
  .have nk:¬(GE ⟨k.toArray⟩:Key)=GE ⟨c.toArray⟩:=λ z=>hk<|oE.mp<|A77 z;rcases N8 (c:=c) h h5 with⟨d',v',e1,e2,e3⟩|⟨e1,e2⟩
   .exact .inl ⟨d',v',by simp only[f8,Z.hJ,W1 hk];exact e1,by rw[ma nk];exact e2,e3⟩
   .exact .inr ⟨by simp only[f8,Z.hJ,W1 hk];exact e1,by rw[ma nk];exact e2⟩
theorem Ug{K:Frag}(h:OV K H 1 d v):∃(a:δ)(ks:γ _)(ds:γ Z.D)(aV:γ _),d=.dct (.inl (a)::.inl 1::ks.map .inr) ds/\v=.ref a/\H a=AC (.dK aV)/\aV.map (·.1)=ks.map (λ c=>(GE ⟨c.toArray⟩))/\aG K H ds (aV.map (·.2)):=by
 let⟨a,ks,ds,u,rfl,rfl,q,t⟩:=h;rcases t with⟨z,_⟩|⟨_,aV,rfl,h2,h3⟩
 .cases z
 .exact⟨a,ks,ds,aV,rfl,rfl,q,h2,h3⟩
section
variable{X:Cx}
theorem EY:∀σ H Q,tZ X.K (Z.eB (Z.yy b) fa fo) σ H Q->(λ σ H Q=>tZ X.K fa σ H λ y H1=>tZm X.K 1 fo σ H1 λ x H2=>∃a o,x=.ref a/\BO H2 a y o/\Q (.bl<|o.isSome==b) H2) σ H Q:=by
 rintro σ H Q ⟨ρ,d,r,e,k⟩;let⟨x,ex,e⟩:=XV e;let⟨t,et,e⟩:=XV e;refine⟨ρ,x,r,ex,λ y H1 s1 d1=>⟨ρ,t,r.up s1,et,λ u H2 s2 d2=>?_⟩⟩;let⟨a,ks,ds,aV,rfl,rfl,q,h2,h3⟩:=Ug d2;have hc:∃c,x=.str c:=by
  unfold Z.yy at e;split at e
  .exact⟨_,rfl⟩
  .cases e
 let⟨c,rfl⟩:=hc;have hy:y=kV (.inr ⟨c.toArray⟩):=by simp only[Den]at d1;exact d1
 have e:=e;let⟨_,e⟩:=Z.b8 e;cases e;refine⟨a,_,rfl,.inl ⟨aV,_,.inl q,hy,rfl⟩,?_⟩;have k:=k _ H2 (s1.trans s2) c7;rcases N8 h2 h3 with⟨_,_,e1,e2,_⟩|⟨e1,e2⟩
 .rw[e1]at k;rw[e2];cases b<;>exact k
 .rw[e1]at k;rw[e2];cases b<;>exact k
theorem _root_.ZQ.Sl(hu:X.A.units+64<cLine)(ha:ZQ.QE X a fa)(ho:ZQ.QM X 1 o fo)(hm:behindInMarks .In o=AT:=by with_unfolding_all rfl):ZQ.QT X (.Compare a [.In] [o] pos) (Z.tE<|Z.eB (Z.yy Ch) fa fo):=
 ⟨qc (IH (Q0 ∅ ha.p ho.p) hm) λ σ H Q h=>by have:=EY σ H Q h;simp only[beq_true]at this;exact this⟩
theorem _root_.ZQ.G6(hu:X.A.units+64<cLine)(ha:ZQ.QE X a fa)(ho:ZQ.QM X 1 o fo)(hm:behindInMarks .NotIn o=AT:=by with_unfolding_all rfl):ZQ.QT X (.Compare a [.NotIn] [o] pos) (Z.tE<|Z.eB (Z.yy AT) fa fo):=
 ⟨qc (IH (F8 ∅ ha.p ho.p) hm) λ σ H Q h=>by have:=EY σ H Q h;simp only[beq_false]at this;exact this⟩
end
end ZS
namespace Z
def Ai(x d:D)(t:ε (ε L)):Res L:=match x,t with
|.str c,AC<|some<|.bor<|.dct (.inl a::.inl k::ks) vs=>guard (k=1/\ks.length<1000/\ks.Nodup)<|.ok<|.bor<|.dct (.inl a::.inl k::(fS c d ks vs).1) (fS c d ks vs).2
|_,_=>.bad
def JD(i:Nat)(k e:EF)(ρ:Env):Res zo:=(e ρ).bind λ d=>(k ρ).bind λ x=>(Ai x d ρ[i]?).bind λ l=>.ok<|.nx<|ρ.set i<|some l
def g9(c:γ Nat):γ (Sum Int<|γ Nat)->γ D->γ (Sum Int<|γ Nat)×γ D
|k::ks,v::vs=>if k=.inr c then(ks,vs)else(k::(g9 c ks vs).1,v::(g9 c ks vs).2)
|ks,vs=>(ks,vs)
def Ak(x:D)(t:ε (ε L)):Res (D×L):=match x,t with
|.str c,AC<|some<|.bor<|.dct (.inl a::.inl k::ks) vs=>guard (k=1/\ks.Nodup)<|(hJ ks vs c).bind λ d=>.ok (d,.bor<|.dct (.inl a::.inl k::(g9 c ks vs).1) (g9 c ks vs).2)
|_,_=>.bad
def Rt(i:Nat)(k:EF)(ρ:Env):Res (D×Env):=(k ρ).bind λ x=>(Ak x ρ[i]?).bind λ r=>.ok (r.1,ρ.set i<|some r.2)
end Z
namespace ZS
open L2 PySem.W
theorem Aj{aV:γ (Key×V)}(h:∀p∈aV,p.1≠k):putK ((k,v)::aV) k y=(k,y)::aV:=by
 unfold putK;rw[M2 ∅,f8,M2 rfl]
 congr 1
 induction aV with
 |nil=>rfl
 |cons p l ih=>rw[f8,W1<|h p<|.head _,ih λ q hq=>h q<|.tail _ hq]
theorem wW{aV:γ (Key×V)}(h:n≠k):putK ((n,v)::aV) k y=(n,v)::putK aV k y:=by
 unfold putK;have e:(((n,v)::aV).any λ kv=>decide<|kv.1=k)=aV.any λ kv=>decide (kv.1=k):=by simp[h]
 rw[e];split
 .rw[f8,W1 h]
 .rfl
theorem vN{K:Frag}{H:Hp}{c:γ Nat}{d:Z.D}{y:V}(hy:Den K H d y):∀{ks:γ (γ Nat)}{ds:γ Z.D}{aV:γ (Key×V)},ks.Nodup->aV.map (·.1)=ks.map (λ c=>(GE ⟨c.toArray⟩:Key))->aG K H ds (aV.map (·.2)) ->
 ∃ks':γ (γ Nat),(Z.fS c d (ks.map .inr) ds).1=ks'.map .inr/\(putK aV (.inr ⟨c.toArray⟩) y).map (·.1)=ks'.map (λ c=>(GE ⟨c.toArray⟩:Key))/\aG K H (Z.fS c d (ks.map .inr) ds).2 ((putK aV (.inr ⟨c.toArray⟩) y).map (·.2))
|[],ds,[],_,_,hd=>⟨[c],by simp[Z.fS],by simp[putK],by simp only[A35,Z.fS,putK];exact aG.cons hy aG.nil⟩
|[],ds,_::_,_,h,_=>by cases h
|k::ks,ds,[],_,h,_=>by cases h
|k::ks,ds,(n,v)::aV,nd,h,hd=>by
 simp only[f8,A97]at h;let⟨rfl,h⟩:=h;cases ds with
 |nil=>simp[aG]at hd
 |cons d0 ds=>
  simp only[f8,aG]at hd;let⟨v',r,e1,h4,h5⟩:=hd;cases e1;let⟨nk,nd⟩:=A17.mp nd;by_cases hk:k=c
  .subst hk;have hh:∀p∈aV,p.1≠(GE ⟨k.toArray⟩:Key):=λ p hp z=>by have:p.1∈aV.map (·.1):=C24 hp;rw[h,z]at this;let⟨c',vD,e⟩:=A03.mp this;exact nk<|oE.mp (A77 e)▸vD
   refine⟨k::ks,by simp[Z.fS],?_,?_⟩
   .rw[Aj hh];simp[h]
   .rw[Aj hh];simp only[f8,Z.fS,M2 rfl];exact aG.cons hy h5
  .have ne:(GE ⟨k.toArray⟩:Key)≠GE ⟨c.toArray⟩:=λ z=>hk<|oE.mp<|A77 z;let⟨ks',q1,q2,q3⟩:=vN (c:=c) hy nd h h5;refine⟨k::ks',?_,?_,?_⟩
   .simp only[f8,Z.fS,W1 hk,q1]
   .rw[wW ne];simp[q2]
   .rw[wW ne];simp only[f8,Z.fS,W1 hk];exact aG.cons h4 q3
theorem w9{ks:γ _}(h:(ks.map GE:γ (Sum Int<|γ Nat)).Nodup):ks.Nodup:=by
 induction ks with
 |nil=>exact B12
 |cons a l ih=>rw[f8]at h;let⟨h1,h2⟩:=A17.mp h;exact A17.mpr ⟨λ z=>h1<|C24 z,ih h2⟩
section
variable{H0:Hp}{ms:γ Nat}{as:γ δ}
theorem IE(h:Z.Ai x d t=.ok l):∃c a ks vs,x=.str c/\t=AC (AC<|.bor<|.dct (.inl a::.inl 1::ks) vs)/\(ks.length<1000/\ks.Nodup)/\l=.bor (.dct (.inl a::.inl 1::(Z.fS c d ks vs).1) (Z.fS c d ks vs).2):=by
 unfold Z.Ai at h;split at h
 .rename_i c a k ks vs;let⟨⟨rfl,q⟩,h⟩:=Z.b8 h;cases h;exact⟨c,a,ks,vs,rfl,rfl,q,rfl⟩
 .cases h
theorem RM.dict{K:Frag}{i:Nat}{a0:Int}{Tn:γ (Sum Int<|γ Nat)}{vs:γ Z.D}(rm:RM K H0 ms as H σ ρ)(hi:ρ[i]?=AC (AC<|.bor<|.dct (.inl a0::.inl 1::Tn) vs)):
 ∃(p:δ)(ks:γ (γ Nat))(aV:γ (Key×V)),a0=(p:Nat)/\Tn=ks.map .inr/\ρ[i]?=AC (AC<|.bor<|Z.f_ p 1 ks vs)/\σ[i]?=AC (AC<|.ref p)/\H p=AC (.dK aV)/\aV.map (·.1)=ks.map (λ c=>(GE ⟨c.toArray⟩:Key))/\aG K H vs (aV.map (·.2)):=by
 let⟨p,kd,ks,vs',e1⟩:=rm.tagged hi;unfold Z.f_ at e1;injection e1 with e1 e2
 injection e1 with e1 e3
 injection e3 with e3 e4
 injection e1 with e1
 injection e3 with e3
 subst e1 e2 e4;have:kd=1:=(B40 e3.symm)
 subst this;have yM:ρ[i]?=AC (AC<|.bor<|Z.f_ p 1 ks vs):=hi;let⟨GN,u,hu,th⟩:=rm.thing yM;rcases th with⟨z,_⟩|⟨_,aV,rfl,h2,h3⟩
 .cases z
 .exact⟨p,ks,aV,rfl,rfl,yM,GN,hu,h2,h3⟩
theorem _root_.ZQ.Jt(hu:X.A.units+64<cLine)(ho:PE X o (mf i))(hk:ZQ.QE X a fk)(he:ZQ.QE X value fe)(hs:swapsWith value (AC<|.Subscript o a pos') pos.line X.env=pure AT:=by rfl):
 ZQ.LN X H0 ms as (.Assign [.Subscript o a pos'] value pos) (Z.JD i fk fe):=⟨PS.imp (Mv ∅ ho hk.p he.p hs) <|by
 rintro D σ H ⟨ρ,fl,rm,e,k⟩;let⟨d,ed,e⟩:=XV e;let⟨x,ex,e⟩:=XV e;let⟨l,el,e⟩:=XV e;cases e;let⟨c,a0,Tn,vs,rfl,hi,⟨ψ,JZ⟩,rfl⟩:=IE el;refine⟨ρ,d,rm.rs.re,ed,λ y H1 s1 dy=>?_⟩;have rH:=rm.up s1;let⟨p,_,_,_,_,_,GN,_⟩:=rH.dict hi;refine⟨_,GN,ρ,_,rH.rs.re,ex,λ z H2 s2 dz=>?_⟩;have BR:=rH.up s2;let⟨p',ks,aV,e1,rfl,yM,C9,hp,h2,h3⟩:=BR.dict hi;have:p'=p:=by rw[GN]at C9;injection C9 with q;injection q with q;injection q with q;exact q.symm
 subst this;have hz:z=kV (.inr ⟨c.toArray⟩):=by simp only[Den]at dz;exact dz
 let⟨ks',q1,q2,q3⟩:=vN (c:=c) (dy.up s2) (w9 JZ) h2 h3;have Eg:gU H2 (upd H2 p'<|.dK<|putK aV (.inr ⟨c.toArray⟩) y):=kX hp (λ _ z=>nomatch z) λ _ _ z=>nomatch z;let⟨st,ZF⟩:=BR.write yM (.inr ⟨rfl,_,rfl,q2,q3.ups Eg⟩);refine⟨p',_,rfl,.inl ⟨aV,.inr ⟨c.toArray⟩,hp,hz,?_,rfl⟩,k σ _ (((kM s1).trans<|kM s2).trans st) ?_⟩
 .have e1:=A11 List.length h2;simp only[A05]at e1 ψ;rw[A23];lia
 .rw[q1,e1];exact ZF⟩
theorem IL(h:Z.Ak x t=.ok r):∃c a ks vs,x=.str c/\t=AC (AC<|.bor<|.dct (.inl a::.inl 1::ks) vs)/\ks.Nodup/\Z.hJ ks vs c=.ok r.1/\r.2=.bor (.dct (.inl a::.inl 1::(Z.g9 c ks vs).1) (Z.g9 c ks vs).2):=by
 unfold Z.Ak at h;split at h
 .rename_i c a k ks vs;let⟨⟨rfl,q⟩,h⟩:=Z.b8 h;let⟨d,e1,h⟩:=XV h;cases h;exact⟨c,a,ks,vs,rfl,rfl,q,e1,rfl⟩
 .cases h
theorem Dt{k:Key}:∀{aV},(∀p∈aV,p.1≠k)->iI aV k=aV:=λ {aV} h=>by unfold iI;rw[B18];exact λ p hp=>by simpa using h p hp
theorem PX{K:Frag}{H:Hp}{c:γ Nat}:∀{ks:γ (γ Nat)}{ds:γ Z.D}{aV:γ (Key×V)},ks.Nodup->aV.map (·.1)=ks.map (λ c=>(GE ⟨c.toArray⟩:Key))->aG K H ds (aV.map (·.2)) ->
 ∃ks':γ (γ Nat),(Z.g9 c (ks.map .inr) ds).1=ks'.map .inr/\(iI aV<|.inr ⟨c.toArray⟩).map (·.1)=ks'.map (λ c=>(GE ⟨c.toArray⟩:Key))/\aG K H (Z.g9 c (ks.map .inr) ds).2 ((iI aV<|.inr ⟨c.toArray⟩).map (·.2))
|[],ds,[],_,_,hd=>⟨[],by simp[Z.g9],by simp[iI],by simpa[Z.g9,iI]using hd⟩
|[],ds,_::_,_,h,_=>by cases h
|k::ks,ds,[],_,h,_=>by cases h
|k::ks,ds,(n,v)::aV,nd,h,hd=>by
 simp only[f8,A97]at h;let⟨rfl,h⟩:=h;cases ds with
 |nil=>simp[aG]at hd
 |cons d0 ds=>
  simp only[f8,aG]at hd;let⟨v',r,e1,h4,h5⟩:=hd;cases e1;let⟨nk,nd⟩:=A17.mp nd;by_cases hk:k=c
  .subst hk;have hh:∀p∈aV,p.1≠(GE ⟨k.toArray⟩:Key):=λ p hp z=>by have:p.1∈aV.map (·.1):=C24 hp;rw[h,z]at this;let⟨c',vD,e⟩:=A03.mp this;exact nk<|oE.mp (A77 e)▸vD
   have e2:iI ((GE ⟨k.toArray⟩,v)::aV) (.inr ⟨k.toArray⟩)=aV:=by rw[<-Dt hh];simp[iI]
   rw[e2];refine⟨ks,?_,h,?_⟩
   .simp[Z.g9]
   .simpa[Z.g9]using h5
  .have ne:(GE ⟨k.toArray⟩:Key)≠GE ⟨c.toArray⟩:=λ z=>hk<|oE.mp<|A77 z;have nk2:¬(GE k:Sum Int (γ Nat))=.inr c:=λ z=>hk<|A77 z;let⟨ks',q1,q2,q3⟩:=PX (c:=c) nd h h5;have e2:iI ((GE ⟨k.toArray⟩,v)::aV) (.inr ⟨c.toArray⟩)=(GE ⟨k.toArray⟩,v)::iI aV (.inr ⟨c.toArray⟩):=by unfold iI;rw[C52 (by simpa using ne)]
   rw[e2];refine⟨k::ks',?_,?_,?_⟩
   .simp only[f8,Z.g9,W1 nk2,q1]
   .simp[q2]
   .simp only[f8,Z.g9,W1 nk2];exact aG.cons h4 q3
theorem _root_.ZQ.Rp{apos jM:Pos}(ho:PE X o (mf i))(ha:ZQ.QE X a fk)
 (js:attributeBase o "pop" X.env (eval o X.env)=eval o X.env:=by rfl)
 (oK:((backTo jM<|starEach [a] X.env).all (λ x=>!x.1)&&(backToKw jM<|keywordEach [] X.env).all (λ x=>x.1.isSome)
  && decide (([a]).length+([]:γ π).length+(if([]:γ π).isEmpty then 0 else 1)<30))=Ch:=by rfl)
 (jr:(apos.endLine==jM.line)=Ch:=by rfl) (ht:backTo jM (starEach [a] X.env)=[(AT,eval a X.env)]:=by rfl) :
 ZQ.O3 X H0 ms as (.Call (.Attribute o "pop" apos) [a] [] jM) (Z.Rt i fk):=⟨by
 have ha:=ha.p;intro χ s σ H Q I w;let⟨ρ,d,ρ',rm,e,k⟩:=w;let⟨x,ex,e⟩:=XV e;let⟨r,er,e⟩:=XV e;cases e;let⟨c,a0,Tn,Y?,rfl,hi,JZ,eg,el⟩:=IL er;let⟨p,ks,aV,e1,rfl,yM,GN,hp,h2,h3⟩:=rm.dict hi;refine wpAny_Call_method_late js oK jr ht<|cG (ho χ s σ H (λ v H1=>v=.ref p/\H1=H) I ⟨_,GN,rfl,rfl⟩) ?_;rintro u s1 ⟨v1,H1,I1,ru,rfl,rfl⟩;obtain rfl:u=Value.ref p:=ru;obtain⟨_,_,_,_,oo,_,_,g1,gx,_⟩:=(I1.bY p _ hp)
 refine⟨"dict","dict.pop",PySem.F.plainAttrs_dict,C42,PySem.F.type_dict_pop,⟨oo,g1,gx.1⟩,λ b eb=>?_,?_⟩
 .cases eb;exact⟨oo,g1,gx.2.1⟩
 refine Calls.callWith_builtin rfl<|B95<|Calls.spliced_cons<|cG (ha χ s1 σ H1 (λ v H2=>aJ H1 H2/\Den X.K H2 (.str c) v) I1 ⟨ρ,_,rm.rs.re,ex,λ v H2 s2 dv=>⟨s2,dv⟩⟩) ?_;rintro u2 s2 ⟨v2,H2,I2,ZE,vw,dv2⟩;refine Calls.spliced_nil ?_;simp only[Den]at dv2;subst dv2;have BR:=rm.up vw;have Ys:=vw _ _ hp;have h32:=h3.up vw;rcases N8 h2 h32 with⟨d',v,q1,q2,q3⟩|⟨q1,_⟩
 .rw[q1]at eg;cases eg;let⟨ks',w1,w2,w3⟩:=PX (c:=c) (w9 JZ) h2 h32;have Eg:gU H2 (upd H2 p<|.dK<|iI aV<|.inr ⟨c.toArray⟩):=kX Ys (λ _ z=>nomatch z) λ _ _ z=>nomatch z;let⟨st,ZF⟩:=BR.write (u':=.dK (iI aV<|.inr ⟨c.toArray⟩)) (kd':=1) (ks':=ks') (vs':=(Z.g9 c (ks.map .inr) Y?).2) yM (.inr ⟨rfl,_,rfl,w2,w3.ups Eg⟩);refine WU I2 Ys (k:=.inr ⟨c.toArray⟩) ZE q2 (.inl rfl) λ w' s3 I3 F3=>⟨v,_,I3,F3,k v _ (λ b o hb q=>?_) ?_<|q3.ups Eg⟩
  .rw[aD λ z=>hb (by rw[z];exact rm.mem yM)];exact vw b o q
  .rw[el,w1,e1];exact ZF
 .rw[q1]at eg;cases eg⟩
end
end ZS
namespace Z
open Classical in
def allM(f:Nat->Res zo):Res zo:=if h:∃r:D×γ D,∀x,f x=.ok (.rt r.1 r.2)then .ok (.rt h.choose.1 h.choose.2)else .bad
theorem OT(h:allM f=.ok fl):∃d ts,fl=.rt d ts/\∀x,f x=.ok (.rt d ts):=by
 unfold allM at h;split at h
 .rename_i q;cases h;exact⟨_,_,rfl,q.choose_spec⟩
 .cases h
theorem allM_mk(h:∀x,f x=.ok (.rt d ts)):allM f=.ok (.rt d ts):=by
 have q:∃r:D×γ D,∀x,f x=.ok (.rt r.1 r.2):=⟨(d,ts),h⟩
 unfold allM;rw[A93 q];have:=(q.choose_spec 0).symm.trans<|h 0;simp only[Res.ok.injEq,zo.rt.injEq]at this;rw[this.1,this.2]
def EO(ms:γ Nat)(i:Nat)(r:SM)(ρ:Env):Res zo:=guard (i∉ms) (allM λ x=>(r<|ρ.set i<|some<|.bor<|f_ x 1 [] []).bind λ fl=>match fl with
|.rt d ts=>guard (ts.length=ms.length+1)<|.ok<|.rt d<|ts.take ms.length
| _=>.bad)
end Z
namespace ZS
open L2 PySem.W
theorem uh:∀{l}{m}{x}{y},Paired R l m->R x y->Paired R (l++[x]) (m++[y])
|_,_,_,_,.nil,r=>.cons r .nil
|_,_,_,_,.cons a t,r=>.cons a<|uh t r
theorem rL:∀{l}{m}{x},Paired R (l++[x]) m->Paired R l (m.take l.length)
|[],m,x,h=>by simpa using Paired.nil
|a::l,_,x,.cons r t=>by simpa using Paired.cons r (rL t)
section
variable{K:Frag}
theorem RM.grow(h:RM K H0 ms as H σ ρ)(hp:H p=At)(hi:i∉ms)(A3:i<ρ.length)(t:Hm K (upd H p u) kd ks vs u):
 RM K H0 (ms++[i]) (as++[p]) (upd H p u) (σ.set i<|some<|.ref p) (ρ.set i<|some<|.bor<|Z.f_ p kd ks vs):=by
 have pn:p∉as:=λ z=>by let⟨u',q⟩:=h.tracked z;rw[hp]at q;cases q
 have n0:H0 p=At:=by
  cases q:H0 p with
  |none=>rfl
  |some o=>rw[h.same _ _ q]at hp;cases hp
 have _J:over H0 (upd H p u) (as++[p])=upd (over H0 H as) p u:=by
  funext b
  by_cases hb:b=p
  .subst hb;rw[cO ∅,aM,aM]
  .rw[aD hb];by_cases hm:b∈as
   .rw[cO<|A79 _ hm,cO hm,aD hb]
   .rw[dh (by simp[hm,hb]),dh hm]
 refine⟨by rw[_J];exact h.rs.vO hp (cK hp) aM t A3,uh (dI h.at_ <|by rintro j hj a ⟨kd,ks,vs,q⟩;exact⟨kd,ks,vs,by rw[A29 λ z=>hi (by rw[z];exact hj)];exact q⟩) ⟨kd,ks,vs,A37 A3⟩,qR λ j x e tt=>?_,?_,λ a ha=>?_⟩
 .by_cases uG:i=j
  .subst uG;simp
  .rw[A29 uG]at e;exact A79 _<|il h.no e tt
 .refine C25.mpr ⟨h.nd,by simp,λ a ha b hb=>?_⟩;rw[A21.mp hb];exact λ z=>pn<|z▸ha
 .rcases A41.mp ha with ha|ha
  .exact h.h0 a ha
  .rw[A21.mp ha];exact n0
end
section
variable{rest:γ η}{pos pos' WS:Pos}
theorem _root_.ZQ.Jq(hN:X.N.Nodup)(hi:X.N[i]?=AC y)(hy:Loc X.env.scope y)(mE:∀p,ZQ.o8 X H0 (ms++[i]) (as++[p]) rest r)
 (hs:swapsWith (.Dict [] [] WS) (AC<|.Name y pos') pos.line X.env=pure AT:=by rfl) (hf:X.fn y=Ch\/X.env.scope.names.lookup y=AC .local:=by first|exact .inl rfl|exact .inr rfl|assumption) :
 ZQ.o8 X H0 ms as (.Assign [.Name y pos'] (.Dict [] [] WS) pos::rest) (Z.EO ms i r):=⟨by
 have mE:=λ p=>(mE p).p;have hR:rp X rest (λ D σ H=>∃p,tM X.K H0 _ _ r D σ H):=λ χ s σ H D I ⟨p,w⟩=>mE p χ s σ H D I w;rintro χ s σ H D I ⟨ρ,fl,rm,e,k⟩;let⟨him,e⟩:=Z.b8 e;let⟨d,ts,rfl,er⟩:=Z.OT e;have A3:i<ρ.length:=by rw[rm.rs.re.len,I.len];exact(A08.mp hi).1
 refine ji (qL hN hi hy IU hs hf) hR χ s σ H D I λ p hp=>⟨p,?_⟩
 let⟨f1,e1,e2⟩:=XV (er p);cases f1 with
 |nx _=>cases e2
 |rt d1 ts1=>let⟨hl,e2⟩:=Z.b8 e2;cases e2;refine⟨_,_,rm.grow hp him A3<|.inr ⟨rfl,[],rfl,rfl,aG.nil⟩,e1,λ v H' sm th dv=>k v H' sm ?_ dv⟩;have:=rL<|th;have ll:=(B42 rm.at_).symm;rw[ll]at this;exact this⟩
end
end ZS
namespace Z
def VL:Sum Int (γ Nat)->D
|.inl i=>.int i
|.inr c=>.str c
def Gi(t x:D):Res D:=match t,x with
|.dct ks vs,.str c=>guard (∃cs:γ (γ Nat),ks=cs.map .inr)<|hJ ks vs c
|_,_=>.bad
def Pz(d:D):Res (γ D):=match d with
|.dct ks _=>guard (∃cs:γ (γ Nat),ks=cs.map .inr)<|.ok<|ks.map VL
|_=>.bad
def A2(f:EF)(ρ:Env):Res (γ D):=(f ρ).bind Pz
def _q(d:D):Prop:=∃a ks vs,d=f_ a 0 ks vs
def blR:D->Res D
|.bl b=>.ok<|.bl b
|_=>.bad
def HU(m:γ D->Res D)(ds:γ D):Res D:=match ds with
|[d0,d1,.dct (.inl _::.inl k::ks) vs]=>guard (k=1/\_q d0)<|(m [d0,d1,.dct ks vs]).bind blR
|_=>.bad
end Z
namespace ZS
open L2 PySem.W
theorem dat{K:Frag}{cs:γ _}(h:Den K H (.dct (cs.map .inr) ds) v):∃a o aV,v=.ref a/\H a=AC (.eJ o<|.dK aV)/\aV.map (·.1)=cs.map (λ c=>(GE ⟨c.toArray⟩))/\aG K H ds (aV.map (·.2)):=by simp only[Den]at h;let⟨a,o,aV,e,q,k,t,_⟩:=h;exact⟨a,o,aV,e,q,by rw[k,A16];rfl,t⟩
theorem _root_.ZQ.KW(hu:X.A.units+64<cLine)(ho:ZQ.QE X o fo)(ha:ZQ.QE X a fa)(hs:SU a:=by intro _ _;rfl):ZQ.QE X (.Subscript o a pos) (Z.eB Z.Gi fo fa):=
 ⟨PE.imp (MF ∅ ho.p ha.p hs) <|by
  rintro σ H Q ⟨ρ,d,r,e,k⟩;let⟨t,et,e⟩:=XV e;let⟨x,ex,e⟩:=XV e;refine⟨ρ,t,r,et,λ u H1 s1 d1=>⟨ρ,x,r.up s1,ex,λ y H2 s2 d2=>?_⟩⟩;have hc:∃ks vs c,t=.dct ks vs/\x=.str c:=by
   cases t<;>try cases e
   cases x<;>first|exact⟨_,_,_,rfl,rfl⟩|cases e
  let⟨ks,vs,c,rfl,rfl⟩:=hc;let⟨⟨cs,rfl⟩,e⟩:=Z.b8 e;let⟨a,o,aV,rfl,q,h2,h3⟩:=dat (Den.up d1 s2);have hy:y=kV (.inr ⟨c.toArray⟩):=by simp only[Den]at d2;exact d2
  rcases N8 h2 h3 with⟨d',v,e1,e2,e3⟩|⟨e1,_⟩
  .rw[e1]at e;cases e;exact⟨a,v,rfl,.inl ⟨aV,_,.inr ⟨o,q⟩,hy,e2.symm⟩,k v H2 (s1.trans s2) e3⟩
  .rw[e1]at e;cases e⟩
def Itk(d:δ)(o:μ)(aV:γ (Key×V)):It:=⟨λ i H=>H d=AC (.eJ o<|.dK aV)/\i<aV.length,λ i H x H'=>H'=H/\∃p,aV[i]?=AC p/\x=kV p.1,λ i H=>H d=AC (.eJ o<|.dK aV)/\i=aV.length⟩
theorem Fe(I:Inv X χ σ H s)(h:H d=AC (.eJ o<|.dK aV))(he:∃es,o.data=.dict es ep):∃vs,KV aV vs/\s.heap.DictAt (eR X.prog X.w) d vs ep:=by let⟨es,he⟩:=he;let⟨g,_,_,vs,rel,o',YO,YQ,g',c,dt,r⟩:=I.bY d _ h;rw[g]at g';cases g';rw[he]at dt;cases dt;exact⟨vs,rel,o,es,g,c,he,r⟩
theorem RB(h:(eR P w).is k u=Ch):RelV (kV k) u:=by rcases c9 h with⟨i,t,rfl,rfl⟩|⟨x,t,rfl,rfl⟩<;>exact⟨t,rfl⟩
theorem FW{K:Da}(he:∃es,o.data=.dict es ep):Turn P w K tg (Itk d o aV) [it] it (λ i h=>h.IsKeyIter it d i aV.length ep) where
 mem:=by simp
 obj:=λ i h st b hb=>by
  have e:b=it:=by simpa using hb
  subst e;let⟨o,e,c,d⟩:=st;exact⟨o,e,λ v z=>by rw[d]at z;cases z⟩
 keep:=λ i h h' st k=>st.at λ o e=>k it ∅ o e
 item:=by
  intro X hP hw hK hc i χ s σ H E I hf st hg;subst hP hw hK;let⟨hq,hi⟩:=hg;let⟨f0,f1,f2,f3,f4,f5⟩:=hf it ∅;let⟨vs,rel,dd⟩:=Fe I hq he;have ne:d≠it:=by rintro rfl;rw[f0]at hq;cases hq
  have hl:=rel.length;refine(Walks.dictKeys (I.ok.hd hc) it d ne vs ep).item i s _ _ (by rw[<-hl];exact hi) ⟨by rw[<-hl];exact st,dd⟩ λ v h' tk hv wR kk=>?_;let⟨k,x,hx,hk⟩:=hv;have I1:Inv X χ σ H {s with heap:=h',toks:=tk}:=I.turned (λ b o hb e=>kk b o (by simpa using hb) e) f0 f1 f3 f4 f5;let⟨o',e,c',d'⟩:=id wR.1;have hkv:∃p,aV[i]?=AC p/\p.1=k:=by have:=A11 (·[i]?) rel.keys;simp only[A06,hx,A54,B51]at this;exact this
  let⟨p,hp,rfl⟩:=hkv;exact⟨_,rfl,xt e c' d' ∅ ⟨kV p.1,H,I1,RB hk,⟨rfl,p,hp,rfl⟩,by rw[hl];exact wR.1,λ b hb=>(hf b hb).1⟩⟩
 done:=by
  intro X hP hw hK hc i χ s σ H E I hf st hg;subst hP hw hK;let⟨hq,hi⟩:=hg;subst hi;let⟨f0,f1,f2,f3,f4,f5⟩:=hf it ∅;let⟨vs,rel,dd⟩:=Fe I hq he;have ne:d≠it:=by rintro rfl;rw[f0]at hq;cases hq
  have hl:=rel.length;rw[hl]at st;exact(Walks.dictKeys (I.ok.hd hc) it d ne vs ep).done s _ _ ⟨st,dd⟩ λ h' tk kk=>⟨rfl,I.turned (λ b o hb e=>kk b o (by simpa using hb) e) f0 f1 f3 f4 f5⟩
 self:=λ _ _ _ _ _ st h=>wpAny_pyIter_keyiter st h
theorem _root_.ZQ.Oq(ha:ZQ.QE X a fa):ZQ.QJ X tg a (Z.A2 fa):=⟨by
 intro χ s σ H R I w;let⟨ρ,ds,r,e,k⟩:=w;let⟨d,ea,e⟩:=XV e;refine cG (ha.p χ s σ H (λ v H1=>aJ H H1/\Den X.K H1 d v) I ⟨ρ,d,r,ea,λ v H1 s1 d1=>⟨s1,d1⟩⟩) ?_;rintro u s1 ⟨v,H1,I1,rv,sm,hd⟩;have hc:∃ks vs,d=.dct ks vs:=by cases d<;>first|exact⟨_,_,rfl⟩|cases e
 let⟨ks,vs,rfl⟩:=hc;let⟨⟨cs,rfl⟩,e⟩:=Z.b8 e;cases e;let⟨q,o,aV,rfl,hq,h2,h3⟩:=dat hd;cases rv;let⟨g,z,ns,us,rel,o',es,ep,g',ex,dt,r2⟩:=I1.bY q _ hq;rw[g]at g';cases g';have hl:=rel.length;have dd:s1.heap.DictAt _ q us ep:=⟨o,es,g,ex,dt,r2⟩
 refine wpAny_pyIter_dict ns dd ?_;refine⟨_,[s1.heap.objs.size],_,_,H1,rfl,I1.kept λ b o e=>v6 _ e,FW ⟨es,dt⟩,⟨_,A14 _ rfl,rfl,by rw[hl];rfl⟩,λ b hb=>?_,k _ H1 sm ?_⟩
 .have e:b=s1.heap.objs.size:=by simpa using hb
  subst e;exact I1.uN (v4 _)<|I1.bY.fresh<|v4 _
 .have ψ:(List.map Z.VL<|cs.map GE).length=aV.length:=by have:=A11 List.length h2;simpa using this.symm
  refine⟨λ i d H2 st hi=>⟨st.eJ _ _ _ hq,?_⟩,λ i d H2 H3 x st hi y=>?_,λ H2 st=>⟨st.eJ _ _ _ hq,ψ⟩⟩
  .have:=(A08.mp hi).1;rw[ψ]at this;exact this
  .let⟨rfl,p,hp,rfl⟩:=y;refine⟨aJ.refl _,?_⟩;have e1:=A11 (·[i]?) h2;simp only[A06,hp,A54]at e1;rw[A06,A06]at hi;cases hc:cs[i]? with
   |none=>rw[hc]at hi;cases hi
   |some c=>rw[hc]at hi e1;cases hi;simp only[A54,A98]at e1;rw[e1];exact j0⟩
theorem E2(ok:l0 P w H h)(hu:H a=AC u)(n1:∀c,u≠.own c)(n2:∀xs,u≠.tup xs)(n3:¬SS u)(hn:eF P w H h a u'):l0 P w (upd H a u') h:=by
 have st:∀{b}{o},eF P w H h b o->eF P w (upd H a u') h b o:=λ {b o} x=>x.pC (λ c w _ q=>q)
  (λ c q=>by rw[aD (by rintro rfl;rw[hu]at q;exact n1 _<|A04 q)];exact q)
  (λ c ys q=>by rw[aD (by rintro rfl;rw[hu]at q;exact n2 _<|A04 q)];exact q)
  λ c v pr q=>by rw[aD (by rintro rfl;rw[hu]at q;cases q;exact n3 pr)];exact q
 intro b v e;by_cases hb:b=a
 .subst hb;rw[aM]at e;cases e;exact st hn
 .rw[aD hb]at e;exact st<|ok b v e
theorem D!{K:Frag}(h:yc K [Ch,AT,Ch] (Z.HU m) vs H Q E):∃a aV,H a=AC (.dK aV)/\∀o,∃b,yc K [Ch,AT,AT] m vs (upd H a<|.eJ o<|.dK aV) (λ v H'=>aJ (upd H a<|.eJ o<|.dK aV) H'/\v=.bl b) E/\∀H',aJ (upd H a<|.eJ o<|.dK aV) H'->Q (.bl b) (upd H' a<|.dK aV):=by
 let⟨ds,d,t,e,k⟩:=h;have hc:∃d0 d1 i kk ks vs,ds=[d0,d1,.dct (.inl i::.inl kk::ks) vs]:=by
  rcases ds with _|⟨d0,_|⟨d1,_|⟨d2,r⟩⟩⟩<;>try cases e
  cases d2<;>try cases e
  rename_i ks vs;rcases ks with _|⟨i|_,_|⟨k|_,q⟩⟩<;>try cases e
  cases r
  .exact⟨_,_,_,_,_,_,rfl⟩
  .cases e
 let⟨d0,d1,i,kk,ks,Y?,rfl⟩:=hc;let⟨⟨LD,a0,Tn,ws0,rfl⟩,e'⟩:=Z.b8 e;subst LD;let⟨d',em,e⟩:=XV e';have hb:∃b,d'=.bl b:=by
  cases d' with
  |bl b=>exact⟨b,rfl⟩
  |_=>cases e
 let⟨b,rfl⟩:=hb;cases e;let⟨v0,r0,rfl,h0,v1,r1,rfl,h1,v2,r2,rfl,h2,h3⟩:=t;have h0:=h0;have h1:=h1;have h2:=h2;let⟨a,cs,YU,aV,e1,rfl,q,hk,hd⟩:=Ug (y8 h2);injection e1 with e1 e2
 injection e1 with e1 e3
 injection e3 with _ e3
 subst e2 e3;let⟨a1,ks1,ds1,u1,e4,rfl,q1,t1⟩:=y8 h0;have ne:a1≠a:=by
  rintro rfl;rw[q]at q1;cases q1;rcases t1 with⟨_,_,C,dx,fs,z,_⟩|⟨z,_⟩
  .cases z
  .cases z
 refine⟨a,aV,q,λ o=>⟨b,⟨_,_,?_,em,λ v H' s1 dv=>⟨s1,by simp only[Den]at dv;exact dv⟩⟩,λ H' s1=>k _ _ (λ c u hcu=>?_) c7⟩⟩
 .have st:gU H (upd H a<|.eJ o<|.dK aV):=kX q (λ _ z=>nomatch z) λ _ _ z=>nomatch z;refine⟨_,_,rfl,.inr ⟨a1,0,ks1,ds1,u1,e4,rfl,by rw[aD ne];exact q1,t1.ups st⟩,_,_,rfl,Den.ups h1 st,_,_,rfl,?_,h3⟩;show Den K _ (.dct (cs.map .inr) Y?) _;simp only[Den];refine⟨a,o,aV,rfl,aM,?_,hd.ups st,λ i r z=>?_⟩
  .rw[hk,A16];rfl
  .cases cs<;>cases z
 .by_cases hca:c=a
  .subst hca;rw[q]at hcu;cases hcu;rw[aM]
  .rw[aD hca];exact s1 c u (by rw[aD hca];exact hcu)
theorem vt.HU{K:Frag}(C:vt P w K mg base x k ps [Ch,AT,AT] m):vt P w K mg base x k ps [Ch,AT,Ch] (Z.HU m):=by
 let⟨g,fd,F,hm,hk,hb⟩:=C.ex;refine⟨g,fd,⟨λ vs H Q E q=>?_,λ A outer s H args us vs Q E hr he hb hv hs=>?_⟩,hm,hk,hb⟩
 .let⟨a,aV,_,key⟩:=D! q;let⟨b,sp,_⟩:=key {cls:=.none,data:=.fields #[]};exact F.len _ _ _ _ sp
 .let⟨a,aV,ha,key⟩:=D! hs;let⟨z,ns,us0,rel,o,es,ep,g1,r⟩:=id (he.bY a _ ha);let⟨b,sp,kq⟩:=key o;have nn:∀{c},H c=At->c≠a:=λ e z=>by rw[z,ha]at e;cases e
  have LH:BN P w K mg base A outer s (upd H a<|.eJ o<|.dK aV):=⟨he.frames,he.mod,λ c ob e=>⟨(he.bs c ob e).1,by rw[aD<|nn (he.bs c ob e).2];exact(he.bs c ob e).2⟩,he.HB,he.mG,λ c hc=>by rw[aD<|nn<|he.Kj c hc];exact he.Kj c hc,E2 he.bY ha (λ _ z=>nomatch z) (λ _ z=>nomatch z) (λ z=>z) ⟨g1,z,ns,us0,rel,o,es,ep,g1,r⟩,he.bare,he.tab.up λ c ob pr e=>by rw[aD (by rintro rfl;rw[ha]at e;cases e;exact pr)];exact e⟩
  refine A74 (F.run A outer s _ args us vs _ E hr LH hb hv sp) λ r s' hR=>?_;have fin:∀u,CE outer P w (upd H a<|.eJ o<|.dK aV) s (λ v H'=>aJ (upd H a<|.eJ o<|.dK aV) H'/\v=.bl b) u s'->CE outer P w H s Q u s':=by
   rintro u ⟨v,H',h1,h2,un,bY,rv,sm,rfl⟩;have zr:=sm _ _ aM;have ne2:∀{c}{u},H c=AC u->(∀kv,u≠.dK kv)->c≠a:=λ e n z=>by rw[z,ha]at e;cases e;exact n _ rfl
   refine⟨_,upd H' a<|.dK aV,h1,h2,⟨λ c ob e n=>un.keep c ob e (by rw[aD<|nn n];exact n),λ c ob e n=>un.slot c ob e (by rw[aD<|nn n];exact n),λ c ob e n hx=>?_,un.there,λ c xs e=>?_,λ c ob u e=>?_,λ c u pr e=>?_⟩,E2 bY zr (λ _ z=>nomatch z) (λ _ z=>nomatch z) (λ z=>z) (bY a _ zr).2,rv,kq H' sm⟩
   .rw[aD<|nn n];exact un.free c ob e (by rw[aD<|nn n];exact n) hx
   .have n:=ne2 e λ _ z=>nomatch z;rw[aD n];exact un.sh c xs (by rw[aD n];exact e)
   .have n:=ne2 e λ _ z=>nomatch z;rw[aD n];exact un.qX c ob u (by rw[aD n];exact e)
   .have n:=ne2 e (λ _ z=>by subst z;exact pr);rw[aD n];exact un.oa c u pr (by rw[aD n];exact e)
  cases r with
  |error e=>exact hR.elim
  |ok r=>cases r with
   |ret u=>exact fin u hR
   |_=>exact hR.elim
end ZS
namespace Z
abbrev eqB(x y:D):Bool:=(iO y x).getD AT
def yx:D->D->Res D
|.lst ys,x=>guard ((n! x ys).isSome=Ch/\ys.findIdx (eqB x)<ys.length)<|.ok<|.int (ys.findIdx (eqB x):Nat)
|_,_=>.bad
end Z
namespace ZS
open L2 PySem.W
theorem NR(I:Inv X χ σ H s)(hu:A.units+60<cLine)(hx:bT X.K H x v)(rx:RelV v u)(t:aG X.K H ys vs)(r:Vals vs us)(hh:∀y∈ys,Z.iO y x=AC (Z.eqB x y)):
 ∃e:ζ->Bool,(∀w∈us,Op A s w u (e w))/\∀(j:Nat) y w,ys[j]?=AC y->us[j]?=AC w->e w=Z.eqB x y:=by
 classical
 have he:∀(j:Nat) y w,ys[j]?=AC y->us[j]?=AC w->(λ w=>decide<|∃y vy,Den X.K H y vy/\RelV vy w/\Z.eqB x y=Ch) w=Z.eqB x y:=by
  intro j y w hy hw;let⟨vy,Hy,dy⟩:=t.get hy;let⟨u',Oe,Lu⟩:=r.get Hy;rw[hw]at Oe;cases Oe;have key:(∃y vy,Den X.K H y vy/\RelV vy w/\Z.eqB x y=Ch)↔Z.eqB x y=Ch:=by refine⟨?_,λ h=>⟨y,vy,dy,Lu,h⟩⟩;rintro⟨y',vy',WR,UG,h⟩;have ev:=UG.inj Lu;subst ev;rw[Den.inj I _ _ _ dy WR];exact h
  cases hb:Z.eqB x y with
  |true=>exact A44<|key.mpr hb
  |false=>exact A28 λ z=>by rw[key.mp z]at hb;cases hb
 refine⟨_,λ w hw=>?_,he⟩;let⟨j,hj,ej⟩:=C06 hw;have hl:=r.length;have ht:=t.length;obtain⟨y,ey⟩:∃y,ys[j]?=AC y:=⟨ys[j]'∅,A01 ∅⟩
 have hw':us[j]?=AC w:=by rw[A01 hj,ej]
 let⟨vy,Hy,dy⟩:=t.get ey;let⟨u',Oe,Lu⟩:=r.get Hy;rw[hw']at Oe;cases Oe;have h2:=he j y w ey hw';dsimp only at h2 ⊢;rw[h2];exact(Tc I 6 ∅ (hh y<|A20 ey) (.inl dy) hx Lu rx).2.1
def QB(K:Da):V->γ V->Hp->VK->Prop:=λ x vs H Q=>∃d ys q us v,x=.ref q/\vs=[v]/\jE K H q us/\aG K H ys us/\bT K H d v/\(∀y∈ys,Z.iO y d=AC (Z.eqB d y))/\ys.findIdx (Z.eqB d)<ys.length/\Q (.int (ys.findIdx (Z.eqB d):Nat)) H
theorem Jo(hu:X.A.units+64<cLine):T5 X "list.index" (QB X.K):=by
 intro χ s σ H x vs v us Q I rx rv h;let⟨d,ys,q,us',v',rfl,rfl,hq,t,hd,e2,hj,k'⟩:=h;cases rx;let⟨u,rfl,ru⟩:=rv.one;let⟨bp,r,pl,hz⟩:=I.list hq;let⟨f,hf,zr⟩:=NR I (A:=X.A.in1) (show X.A.units+1+60<cLine by lia) hd ru t r e2;let⟨⟨cls,dd,data,sl⟩,ho,hc,n,o!⟩:=id pl.isList;simp only at hc o!;subst hc o!;have hl:=r.length;have ht:=t.length;have C8:bp.length<=16777216:=by first|(have:=hz;simp only[sizeLine]at this;lia)|(rw[<-hl];have:=hz;simp only[sizeLine]at this;lia)
 have at_:=λ m hm hm'=>zr m _ _ (A01 hm')<|A01 hm;refine A69 F.slot_list_index ⟨_,ho,rfl⟩ F.entry_list_index (F.args_list_index_2 _ _) (SeqAt.list_indexAt q _ n dd sl u f (ys.findIdx<|Z.eqB d) (by simp;lia) ∅ ?_ ?_) ⟨ho,λ w hw=>hf w (by simpa using hw),?_⟩
 .rw[dL,at_ _ ∅ hj];exact List.findIdx_getElem
 .intro m hm kF;have hm':m<bp.length:=by simpa using hm
  rw[dL,at_];exact List.not_of_lt_findIdx kF
 .exact⟨.int _,H,I.tok _,⟨_,rfl⟩,k'⟩
theorem _root_.ZQ.KU(hu:X.A.units+64<cLine)(ho:ZQ.QW X o fa)(hb:ZQ.QW X b fb)
 (js:attributeBase o "index" X.env (eval o X.env)=eval o X.env:=by rfl)
 (oK:((backTo p2<|starEach (b::[]) X.env).all (λ x=>!x.1)&&(backToKw p2<|keywordEach [] X.env).all (λ x=>x.1.isSome)
  && decide ((b::[]).length+([]:γ π).length+(if([]:γ π).isEmpty then 0 else 1)<30))=Ch:=by rfl)
 (jr:(p1.endLine==p2.line)=Ch:=by rfl) (oJ:Se b [] X.env:=by rfl) (g_:Pn p2 [] X.env:=by rfl) :
 ZQ.QE X (.Call (.Attribute o "index" p1) [b] [] p2) (Z.eB Z.yx fa fb):=
 ⟨PE.imp (wZ B59 PySem.F.slot_list_index PySem.F.type_list_index (Jo hu) ho.p (bM hb.p cX oJ) js oK jr oJ g_) <|by
  rintro σ H Q ⟨ρ,d,r,e,k⟩;let⟨x,ea,e⟩:=XV e;let⟨y,eb,e⟩:=XV e;refine⟨ρ,x,r,ea,λ v H1 s1 d1=>?_⟩;have hc:∃ys,x=.lst ys:=by
   cases x with
   |lst ys=>exact⟨ys,rfl⟩
   |_=>cases e
  let⟨ys,rfl⟩:=hc;let⟨⟨h1,h2⟩,e'⟩:=Z.b8 e;cases e';let⟨n,hn⟩:=A75.mp h1;let⟨q,vs,rfl,hq,t⟩:=d1.lst;refine⟨.inl ⟨rfl,vs,hq⟩,ρ,y,r.up s1,eb,λ u H2 s2 d2=>?_⟩;exact⟨y,ys,q,vs,u,rfl,rfl,s2.seq hq,t.up s2,d2,(va hn).2,h2,k _ H2 (s1.trans s2) c6⟩⟩
end ZS
namespace Z
def Ok{α:Type}(r:Res α)(Q:α->Prop):Prop:=∃a,r=.ok a/\Q a
theorem Ok.imp(h:Ok r P)(k:∀a,P a->Q a):Ok r Q:=let ⟨a,e,p⟩:=h;⟨a,e,k a p⟩
theorem Ok.eq(h:Ok r λ x=>x=a):r=.ok a:=by let⟨x,e,rfl⟩:=h;exact e
@[simp] theorem Xb(a:α)(Q:α->Prop):Ok (.ok a) Q↔Q a:=⟨by rintro⟨_,e,q⟩;cases e;exact q,λ q=>⟨a,rfl,q⟩⟩
@[simp] theorem abc(Q:α->Prop):Ok (.bad) Q↔False:=⟨by rintro⟨_,e,_⟩;exact(by cases e),GM⟩
@[simp] theorem Y4(r:Res α)(f:α->Res β)(Q:β->Prop):Ok (r.bind f) Q↔Ok r λ a=>Ok (f a) Q:=by
 cases r with
 |ok a=>simp
 |bad=>simp
@[simp] theorem aba(r:Res α)(f:α->β)(Q:β->Prop):Ok (r.map f) Q↔Ok r λ a=>Q (f a):=by
 cases r with
 |ok a=>simp
 |bad=>simp
@[simp] theorem Xc(p:Prop)(r:Res α)(Q:α->Prop):Ok (guard p r) Q↔p/\Ok r Q:=by
 constructor
 .rintro⟨a,e,q⟩;let⟨h,e⟩:=b8 e;exact⟨h,a,e,q⟩
 .rintro⟨h,k⟩;rw[guard_pos h];exact k
@[simp] theorem abb[Decidable c](r r':Res α)(Q:α->Prop):Ok (if c then r else r') Q↔if c then Ok r Q else Ok r' Q:=by split<;>rfl
abbrev v(d:D):ε L:=AC<|.val d
abbrev vi(i:Int):ε L:=AC<|.val<|.int i
abbrev vs(cs:γ Nat):ε L:=AC<|.val<|.str cs
abbrev ow(xs:γ D):ε L:=AC<|.own xs
def W7:ε (ε L)->Res D
|some<|some<|.val d=>.ok d
|some<|some<|.own xs=>.ok<|.lst xs
|some<|some<|.bor<|.lst xs=>.ok<|.lst xs
|_=>.bad
def asV:ε (ε L)->Res D
|some<|some<|.val d=>.ok d
|_=>.bad
@[simp] theorem afT(i:Nat)(ρ:Env):eW i ρ=W7 ρ[i]?:=by
 unfold eW W7;cases ρ[i]? with
 |none=>rfl
 |some o=>cases o with
  |none=>rfl
  |some l=>cases l<;>rfl
@[simp] theorem afU(i:Nat)(ρ:Env):eV i ρ=asV ρ[i]?:=by
 unfold eV asV;cases ρ[i]? with
 |none=>rfl
 |some o=>cases o with
  |none=>rfl
  |some l=>cases l<;>rfl
@[simp] theorem YW(d:D):W7 (AC<|some<|.val d)=.ok d:=rfl
@[simp] theorem YX(xs:γ D):W7 (AC<|some<|.own xs)=.ok (.lst xs):=rfl
@[simp] theorem YY(xs:γ D):W7 (AC<|some<|.bor<|.lst xs)=.ok (.lst xs):=rfl
@[simp] theorem YZ(d:D):asV (AC<|some<|.val d)=.ok d:=rfl
theorem aP{b:SF}(h:Ok (b ρ) λ fl=>bR (.ok fl)=.ok d):bR (b ρ)=.ok d:=by let⟨fl,e,q⟩:=h;rw[e,q]
theorem qK{b:SF}(h:Ok (b ρ) λ fl=>Ok (bR<|.ok fl) P):Ok (bR<|b ρ) P:=by let⟨fl,e,q⟩:=h;rw[e];exact q
@[simp] theorem Zx(e:EF)(g:GF)(ρ:Env):Mq e g ρ=(e ρ).bind λ d=>(g d ρ).bind λ ρ'=>.ok (.nx ρ'):=rfl
@[simp] theorem acO(i j:Nat)(a b:D)(ρ:Env):jt [i,j] (.tup [a,b]) ρ=.ok ((ρ.set i<|v a).set j<|v b):=rfl
def W9(i:Nat)(ρ:Env)(d:D):ε (ε L)->Res Fl
|some<|some<|.own xs=>guard (xs.length<line)<|.ok<|.nx<|ρ.set i<|ow<|xs++[d]
|_=>.bad
@[simp] theorem S!(i:Nat)(e:EF)(ρ:Env):d7 i e ρ=(e ρ).bind λ d=>W9 i ρ d ρ[i]?:=rfl
@[simp] theorem W8(i:Nat)(ρ:Env)(d:D)(xs:γ D):W9 i ρ d (AC<|some<|.own xs)=guard (xs.length<line) (.ok<|.nx<|ρ.set i<|ow<|xs++[d]):=rfl
def WE(i:Nat)(ρ:Env)(ys:γ D):ε (ε L)->Res Fl
|some<|some<|.own xs=>guard (xs.length+ys.length<=line)<|.ok<|.nx<|ρ.set i<|ow<|xs++ys
|_=>.bad
@[simp] theorem ZC(i:Nat)(l:LF)(ρ:Env):F2 i l ρ=(l ρ).bind λ ys=>WE i ρ ys ρ[i]?:=rfl
@[simp] theorem WD(i:Nat)(ρ:Env)(ys xs:γ D):WE i ρ ys (AC<|some<|.own xs)=guard (xs.length+ys.length<=line) (.ok<|.nx<|ρ.set i<|ow<|xs++ys):=rfl
def Ki(i:Nat)(ρ:Env):ε (ε L)->Env
|some<|some<|.own xs=>ρ.set i<|v<|.lst xs
|_=>ρ
@[simp] theorem Zy(i:Nat)(a:SF)(ρ:Env):ub i a ρ=a (Ki i ρ ρ[i]?):=by
 unfold ub eJ Ki;cases ρ[i]? with
 |none=>rfl
 |some o=>cases o with
  |none=>rfl
  |some l=>cases l<;>rfl
@[simp] theorem WA(i:Nat)(ρ:Env)(xs:γ D):Ki i ρ (AC<|some<|.own xs)=ρ.set i (v<|.lst xs):=rfl
@[simp] theorem Wz(i:Nat)(ρ:Env)(d:D):Ki i ρ (AC<|some<|.val d)=ρ:=rfl
@[simp] theorem TC(i:Nat)(ρ:Env):Ki i ρ (AC At)=ρ:=rfl
def K5:D->D->Res (γ D)
|.lst xs,.lst ys=>guard (xs.length+ys.length<=line)<|.ok<|xs++ys
|_,_=>.bad
theorem CY(a b:EF)(ρ:Env):GC a b ρ=(a ρ).bind λ x=>(b ρ).bind λ y=>K5 x y:=rfl
@[simp] theorem WX(xs ys:γ D):K5 (.lst xs) (.lst ys)=guard (xs.length+ys.length<=line) (.ok<|xs++ys):=rfl
def slK(l h:ε Int):D->Res (γ D)
|.lst xs=>.ok<|cut xs l h
|_=>.bad
theorem Pw(a:EF)(lo hi:PF)(ρ:Env):Nu a lo hi ρ=(a ρ).bind λ x=>(lo ρ).bind λ l=>(hi ρ).bind λ h=>slK l h x:=rfl
@[simp] theorem XG(l h:ε Int)(xs:γ D):slK l h (.lst xs)=.ok (cut xs l h):=rfl
@[simp] theorem X3(xs:γ D)(l h:ε Int):Td (.tup xs) l h=.ok (.tup<|cut xs l h):=rfl
@[simp] theorem U4(cs:γ Nat)(l h:ε Int):Td (.str cs) l h=guard (cs.length<=line) (.ok<|.str<|cut cs l h):=rfl
@[simp] theorem Tj(a b:γ Nat):bG (.str a) (.str b)=guard (a.length+b.length<=line) (.ok<|.str<|a++b):=rfl
@[simp] theorem Ti(a b:γ D):bG (.tup a) (.tup b)=guard (a.length+b.length<=line) (.ok<|.tup<|a++b):=rfl
@[simp] theorem U6(a:Int):MY (.int a)=.ok (.int<|-a):=rfl
@[simp] theorem Vb:kz .non=.ok (.bl Ch):=rfl
@[simp] theorem Va(xs:γ D):kz (.tup xs)=.ok (.bl AT):=rfl
@[simp] theorem Tg:rN .non=.ok (.bl AT):=rfl
@[simp] theorem Tf(xs:γ D):rN (.tup xs)=.ok (.bl Ch):=rfl
theorem jm(a b:Nat)(hb:b<=1000000)(ha:a<18446744073709551616):nF (.int<|a) (.int<|b)=.ok (.int<|(a^b:Nat)):=by
 have h:(0:Int)<=b/\(b:Int)<=1000000/\(a:Int).natAbs<2^64:=⟨by lia,by lia,by rw[Int.natAbs_natCast];exact ha⟩
 show guard _ _=_;rw[guard_pos h,B10,Int.natCast_pow]
@[simp] theorem ZW:nF (.int 10) (.int 60)=.ok (.int 1000000000000000000000000000000000000000000000000000000000000):=jm 10 60 ∅ ∅
@[simp] theorem ZX:nF (.int 10) (.int 59)=.ok (.int 100000000000000000000000000000000000000000000000000000000000):=jm 10 59 ∅ ∅
@[simp] theorem ZY:nF (.int 10) (.int 55)=.ok (.int 10000000000000000000000000000000000000000000000000000000):=jm 10 55 ∅ ∅
@[simp] theorem ZZ:nF (.int 10) (.int 50)=.ok (.int 100000000000000000000000000000000000000000000000000):=jm 10 50 ∅ ∅
@[simp] theorem XY:nF (.int 7919) (.int 9)=.ok (.int 122470950010456506152021579891552879):=jm 7919 9 ∅ ∅
def atK:ε D->Res D
|some d=>.ok d
|none=>.bad
@[simp] theorem W6(d:D):atK (AC d)=.ok d:=rfl
theorem M1(xs:γ D)(i:Int):aR (.tup xs) (.int i)=atK ((xn xs.length i).bind λ j=>xs[j]?):=by show(match (xn _ i).bind λ j=>xs[j]? with|some v=>Res.ok v|none=>.bad)=_;cases (xn _ i).bind λ j=>xs[j]?<;>rfl
theorem M3(xs:γ D)(i:Int):aR (.lst xs) (.int i)=atK ((xn xs.length i).bind λ j=>xs[j]?):=by show(match (xn _ i).bind λ j=>xs[j]? with|some v=>Res.ok v|none=>.bad)=_;cases (xn _ i).bind λ j=>xs[j]?<;>rfl
theorem iE{i:Int}{j:Nat}(h:i=j)(e:xs[j]?=AC d):aR (.tup xs) (.int i)=.ok d/\aR (.lst xs) (.int i)=.ok d:=by
 subst h;have hj:=(A08.mp e).1;have:xn xs.length (j)=AC j:=by simp[xn,hj]
 rw[M1,M3,this];simp[e]
theorem pU{i:Int}{j c:Nat}(h:i=j)(e:cs[j]?=AC c)(hl:cs.length<=line):aR (.str cs) (.int i)=.ok (.str [c]):=by
 subst h;have hj:=(A08.mp e).1;have:xn cs.length (j)=AC j:=by simp[xn,hj]
 show guard _ _=_;rw[guard_pos hl,this];simp[e]
theorem EU(h0:0<=i)(h1:i<xs.length):∃d∈xs,aR (.lst xs) (.int i)=.ok d/\aR (.tup xs) (.int i)=.ok d:=by
 have hj:i.toNat<xs.length:=by lia
 refine⟨xs[i.toNat],B26 hj,?_⟩;have:=iE (i:=i) ∅<|A01 hj;exact⟨this.2,this.1⟩
def turn(I:Env->Prop)(Q:Fl->Prop):Fl->Prop
|.nx ρ=>I ρ
|.ct ρ=>I ρ
|.bk ρ=>Q<|.nx ρ
|.rt d=>Q<|.rt d
@[simp] theorem Xs(I:Env->Prop)(Q:Fl->Prop)(ρ:Env):turn I Q (.nx ρ)↔I ρ:=Iff.rfl
@[simp] theorem Xt(I:Env->Prop)(Q:Fl->Prop)(ρ:Env):turn I Q (.ct ρ)↔I ρ:=Iff.rfl
@[simp] theorem Xu(I:Env->Prop)(Q:Fl->Prop)(ρ:Env):turn I Q (.bk ρ)↔Q (.nx ρ):=Iff.rfl
@[simp] theorem Xr(I:Env->Prop)(Q:Fl->Prop)(d:D):turn I Q (.rt d)↔Q (.rt d):=Iff.rfl
theorem Kk(I:Nat->Env->Prop):∀ds ρ i,I i ρ->(∀j d ρ,ds[j]?=AC d->I (i+j) ρ->Ok (g d ρ) λ ρ1=>Ok (b ρ1) (turn (I<|i+j+1) Q))->(∀ρ,I (i+ds.length) ρ->Q (.nx ρ))->Ok (fv g b ds ρ) Q
|[],ρ,i,h,_,e=>by simpa[fv]using e ρ h
|d::ds,ρ,i,h,k,e=>by
 let⟨ρ1,e1,fl,e2,t⟩:=k 0 d ρ rfl h;have ih:=λ ρ' (h')=>Kk I ds ρ' (i+1) h' (λ j x ρ hj hP=>by have:=k (j+1) x ρ (by simpa using hj) (by simpa[C26,A92 1 j]using hP);simpa[C26,A92 1 j]using this) λ ρ hP=>e ρ (by simpa[C26,A92 1]using hP)
 unfold fv;rw[e1,Res.k_,e2,Res.k_];cases fl with
 |nx ρ'=>exact ih ρ' (by simpa using t)
 |ct ρ'=>exact ih ρ' (by simpa using t)
 |bk ρ'=>simpa using t
 |rt d=>simpa using t
theorem gg(I:Nat->Env->Prop)(h0:I 0 ρ)(hs:∀j d ρ,ds[j]?=AC d->I j ρ->Ok (g d ρ) λ ρ1=>Ok (b ρ1) (turn (I<|j+1) Q))(he:∀ρ,I ds.length ρ->Q (.nx ρ)):Ok (fv g b ds ρ) Q:=
 Kk I ds ρ 0 h0 (λ j d ρ hd hI=>by rw[B11]at hI ⊢;exact hs j d ρ hd hI) λ ρ h=>he ρ (by rwa [B11]at h)
theorem N?(I:Env->Prop)(h0:I ρ)(hs:∀d∈ds,∀ρ,I ρ->Ok (g d ρ) λ ρ1=>Ok (b ρ1) (turn I Q))(he:∀ρ,I ρ->Q (.nx ρ)):Ok (fv g b ds ρ) Q:=
 gg (λ _=>I) h0 (λ j d ρ hd hI=>hs d (A20 hd) ρ hI) he
theorem OE(p:D->Bool)(h:D->D)(hs:∀d∈ds,Ok (g d ρ) λ ρ1=>Ok (t ρ1) λ c=>c=p d/\(p d=Ch->Ok (e ρ1) λ y=>y=h d))(hq:Q ((ds.filter p).map h)):Ok (cF g t e ρ ds) Q:=by refine⟨_,n8 ds λ d hd=>?_,hq⟩;let⟨ρ1,e1,c,e2,hc,k⟩:=hs d hd;exact⟨ρ1,e1,by rw[e2,hc],λ hp=>(k hp).eq⟩
theorem comp_map(h:D->D)(hs:∀d∈ds,Ok (g d ρ) λ ρ1=>Ok (e ρ1) λ y=>y=h d)(hq:Q (ds.map h)):Ok (cF g cb e ρ ds) Q:=by refine⟨_,u_ ds λ d hd=>?_,hq⟩;let⟨ρ1,e1,k⟩:=hs d hd;rw[e1];exact k.eq
theorem cz{α:Type}(enc:α->D)(f:α->Bool)(h:α->D):∀{xs:γ α}{Q},(∀x∈xs,Ok (g (enc x) ρ) λ ρ1=>Ok (t ρ1) λ c=>c=f x/\(f x=Ch->Ok (e ρ1) λ y=>y=h x))->Q ((xs.filter f).map h)->Ok (cF g t e ρ<|xs.map enc) Q:=by
 intro xs Q hs hq;refine⟨_,?_,hq⟩;clear hq
 induction xs with
 |nil=>rfl
 |cons x xs ih=>
  let⟨ρ1,e1,c,e2,hc,k⟩:=hs x A12;have ih':=ih λ y hy=>hs y<|A09 _ hy;cases hf:f x with
  |true=>rw[hf]at hc;have:=(k hf).eq;simp[cF,e1,e2,hc,this,ih',hf]
  |false=>rw[hf]at hc;simp[cF,e1,e2,hc,ih',hf]
theorem rn{α:Type}[DecidableEq α]{h:α->D}(k:∀x y,f (h x) (h y)=AC (decide<|x=y)):∀(xs ys:γ α),allEq f (xs.map h) (ys.map h)=AC (decide<|xs=ys)
|[],[]=>rfl
|[],_::_=>rfl
|_::_,[]=>rfl
|x::xs,y::ys=>by simp[allEq,k,rn k xs ys]
end Z
end S0
open ZS renaming cA→ac,ie→ca,iQ→ce,vv.of→jp,nK→lc,l9→le,gP→lm,wA→lw,DB→pi,DC→rc,fC→sB,zG→sK,XC→sw,zE→tz,K'→ul,HM→wE,n_→wP
local macro_rules
| `(tactic|trivial)=>`(tactic|first|exact AD3 rfl|exact pc rfl)
open ZS (Fl)
set_option maxRecDepth 8000
namespace KA
open Z
def fJ:SF:=(a6<|uU (eB oEq (eU cL<|eW 0)<|eC<|.int 1)<|iP oLe oLe (eC<|.str [97]) (eW 0)<|eC<|.str [122])
def c5:γ D->Res D:=fn 1 1 fJ
theorem lC(x0:D):c5 [x0]=bR (fJ [AC (.val x0)]):=cT _ _ _ _ rfl
def jb:SF:=(a6<|TM (eB sT (eW 0)<|dZ<|aa (eC<|.str [46])<|aa (eC<|.str [61])<|aa (eC<|.str [35]) aC)<|aE c5<|aa (eV 0) aC)
def jw:γ D->Res D:=fn 1 1 jb
theorem Dn(x0:D):jw [x0]=bR (jb [AC (.val x0)]):=cT _ _ _ _ rfl
def fH:SF:=(aT (gZ (wL (gb<|tE<|eU (ky .str)<|eW 0)<|gb<|tE<|iP oLe oLe (eC<|.int 1) (eU cL<|eW 0)<|eC<|.int 12) (a6<|eC<|.bl AT) bA)<|a6<|eU jJ<|eL<|bU (dS<|eW 0) 1 [] (aW 0) cb<|aE jw<|aa (eV 0) aC)
def ja:γ D->Res D:=fn 1 1 fH
theorem hV(x0:D):ja [x0]=bR (fH [AC (.val x0)]):=cT _ _ _ _ rfl
def dG:SF:=(aT (gZ (wL (gb<|tE<|eU (ky .tuple)<|eW 0)<|gb<|tE<|iP oLe oLe (eC<|.int 1) (eU cL<|eW 0)<|eC<|.int 6) (a6<|eC<|.bl AT) bA)<|aT (gZ (gb<|tE<|eU jJ<|eL<|bU (dS<|eW 0) 1 [] (aW 0) cb<|aE ja<|aa (eV 0) aC) (a6<|eC<|.bl AT) bA)<|a6<|eU jJ<|eL<|bU (dS<|eW 0) 1 [0] (aW 0) cb<|eB oEq (eU cL<|eW 0)<|eU cL<|eB aR (eW 1)<|eC<|.int 0)
def hU:γ D->Res D:=fn 1 1 dG
theorem gi(x0:D):hU [x0]=bR (dG [AC (.val x0)]):=cT _ _ _ _ rfl
end KA
namespace Z
theorem rE:(∀a,gA .bool (.int a)=AT)/\gA .int .non=AT/\(∀a,gA .int (.int a)=Ch)/\gA .str .non=AT/\(∀a,gA .str (.bl a)=AT)/\(∀a,gA .str (.int a)=AT)/\(∀a,gA .str (.str a)=Ch)/\(∀a,gA .str (.tup a)=AT)/\(∀a,gA .str (.lst a)=AT)/\(∀a b,gA .str (.dct a b)=AT)/\gA .tuple .non=AT/\(∀a,gA .tuple (.bl a)=AT)/\(∀a,gA .tuple (.int a)=AT)/\(∀a,gA .tuple (.str a)=AT)/\(∀a,gA .tuple (.tup a)=Ch)/\(∀a,gA .tuple (.lst a)=AT)/\(∀a b,gA .tuple (.dct a b)=AT):=⟨λ _=>rfl,rfl,λ _=>rfl,rfl,λ _=>rfl,λ _=>rfl,λ _=>rfl,λ _=>rfl,λ _=>rfl,λ _ _=>rfl,rfl,λ _=>rfl,λ _=>rfl,λ _=>rfl,λ _=>rfl,λ _=>rfl,λ _ _=>rfl⟩
end Z
namespace KA
open Z
abbrev Rows:=γ<|γ Nat
structure Hall(R L:Nat)(rows:Rows):Prop where
 r1:1<=R
 r2:R<=6
 l1:1<=L
 l2:L<=12
 len:rows.length=R
 each:∀x∈rows,x.length=L
 sg:∀x∈rows,∀c∈x,c∈signs
theorem nX(c:Nat):c5 [.str [c]]=.ok (.bl<|decide (97<=c)&&decide (c<=122)):=by
 rw[lC];refine aP ?_;by_cases h1:c<97
 .simp[fJ,Hs,line,Nat.not_le.mpr h1]
 .by_cases h2:122<c
  .simp[fJ,Hs,line,h2,A86.mp h1]
  .simp[fJ,Hs,line,A86.mp h1,A86.mp h2]
theorem Gv(c:Nat):decide (c∈signs)=(c==46||c==61||c==35||(decide (97<=c)&&decide (c<=122))):=by
 by_cases h:c<128
 .exact(by decide:∀c<128,decide _=(c==46||c==61||c==35||(decide _&&decide (c<=122)))) c h
 .have h1:c∉signs:=λ m=>h<|(by decide:∀c∈signs,c<128) c m;have h2:¬c<=122:=by lia
  have h3:c≠46:=by lia
  have h4:c≠61:=by lia
  have h5:c≠35:=by lia
  simp[h1,h2,h3,h4,h5]
theorem Of(s t:γ Nat):iO (.str s) (.str t)=AC (s==t):=rfl
theorem A0(c:Nat):jw [.str [c]]=.ok (.bl<|decide<|c∈signs):=by
 rw[Dn,Gv];refine aP ?_;have e:=nX c;by_cases h1:c=46
 .subst h1;simp[jb,line,sT,fK,Of]
 .by_cases h2:c=61
  .subst h2;simp[jb,line,sT,fK,Of]
  .by_cases h3:c=35
   .subst h3;simp[jb,line,sT,fK,Of]
   .simp[jb,sT,fK,Of,e,h1,h2,h3];lia
theorem all_map{α:Type}(f:α->Bool)(xs:γ α):allB (xs.map λ x=>D.bl<|f x)=AC (xs.all f):=by
 have:=zk<|xs.map f;rw[A16]at this;rw[show(xs.map λ x=>D.bl _)=xs.map (D.bl∘f)from rfl,this]
 congr 1
 induction xs with
 |nil=>rfl
 |cons x xs ih=>simp
def Iw(cs:γ Nat):Bool:=decide (1<=cs.length/\cs.length<=12)&&cs.all λ c=>decide (c∈signs)
theorem Iu(cs:γ Nat):Ok (cF (aW 0) cb (aE jw<|aa (eV 0) aC) [At]<|cs.map λ c=>.str [c]) λ ds=>ds=cs.map λ c=>D.bl (decide<|c∈signs):=
 cz (λ c=>D.str [c]) (λ _=>Ch) (λ c=>.bl<|decide<|c∈signs) (λ c _=>by simp[A0]) (by rw[B18.mpr λ _ _=>rfl])
theorem C4(cs:γ Nat)(h:cs.length<=1000):ja [.str cs]=.ok (.bl<|Iw cs):=by
 have hl:cs.length<=16777216:=by lia
 rw[hV];refine aP ?_;unfold Iw;by_cases h1:1<=cs.length
 .by_cases h2:cs.length<=12
  .have e1:(1)<=(cs.length:Int):=by lia
   have e2:(cs.length:Int)<=12:=by lia
   simp[fH,Z.rE,hl,h1,h2,e1,e2,bB];refine(Iu cs).imp ?_;rintro ds rfl;simp[jJ,all_map]
  .have e2:¬(cs.length:Int)<=12:=by lia
   simp[fH,Z.rE,hl,h1,h2,e2,line]
 .have e1:¬(1)<=(cs.length:Int):=by lia
  simp[fH,Z.rE,hl,h1,e1,line]
def pD:D->Bool
|.str cs=>Iw cs
|_=>AT
def Fit(d:D):Prop:=∀cs,d=.str cs->cs.length<=1000
theorem GI(d:D)(h:Fit d):ja [d]=.ok (.bl<|pD d):=by
 cases d with
 |str cs=>exact C4 cs<|h cs rfl
 |non=>rw[hV];exact aP (by simp[fH,Z.rE,pD])
 |bl _=>rw[hV];exact aP (by simp[fH,Z.rE,pD])
 |int _=>rw[hV];exact aP (by simp[fH,Z.rE,pD])
 |tup _=>rw[hV];exact aP (by simp[fH,Z.rE,pD])
 |lst _=>rw[hV];exact aP (by simp[fH,Z.rE,pD])
 |dct _ _=>rw[hV];exact aP (by simp[fH,Z.rE,pD])
def CV:D->Nat
|.str cs=>cs.length
|_=>0
def A7(xs:γ D):Bool:=decide (1<=xs.length/\xs.length<=6)&&xs.all pD&&xs.all λ d=>CV d==CV (xs.headD .non)
def rV:D->Bool
|.tup xs=>A7 xs
|_=>AT
theorem De(xs:γ D)(h:∀d∈xs,Fit d):Ok (cF (aW 0) cb (aE ja<|aa (eV 0) aC) [At] xs) λ ds=>ds=xs.map λ d=>D.bl (pD d):=
 comp_map (λ d=>.bl _) (λ d hd=>by simp[GI d<|h d hd]) rfl
theorem ES(h:pD d=Ch):cL d=.ok (.int<|CV d):=by
 cases d with
 |str cs=>
  have:cs.length<=16777216:=by simp only[pD,Iw,B14]at h;lia
  simp[CV,this]
 |_=>cases h
theorem Dd(h:∀d∈xs,pD d=Ch):Ok (cF (aW 0) cb (eB oEq (eU cL<|eW 0)<|eU cL<|eB aR (eW 1)<|eC<|.int 0) [At,v (.tup xs)] xs) λ ds=>ds=xs.map λ d=>D.bl (CV d==CV (xs.headD .non)):=
 comp_map (λ d=>.bl _) (λ d hd=>by
  cases xs with
  |nil=>cases hd
  | cons x xs=>have e0:aR (.tup<|x::xs) (.int 0)=.ok x:=(iE rfl rfl).1;have e1:=ES<|h d hd;have e2:=ES<|h x A12;simp[e0,e1,e2];exact A53.mpr (by simp;lia)) rfl
theorem C5(d:D)(h:∀xs,d=.tup xs->xs.length<=1000/\∀x∈xs,Fit x):hU [d]=.ok (.bl<|rV d):=by
 cases d with
 |tup xs=>
  let⟨h1,h2⟩:=h xs rfl;have hl:xs.length<=16777216:=by lia
  rw[gi];refine aP ?_;simp only[rV,A7];by_cases q1:1<=xs.length
  .by_cases q2:xs.length<=6
   .have e1:(1)<=(xs.length:Int):=by lia
    have e2:(xs.length:Int)<=6:=by lia
    have c1:=De xs h2;cases q3:xs.all pD with
    |false=>simp[dG,Z.rE,hl,q1,q2,e1,e2,line,bB,fF];refine c1.imp ?_;rintro ds rfl;simp[jJ,all_map,q3]
    |true=>have q4:=A36.mp q3;have c2:=Dd q4;simp[dG,Z.rE,hl,q1,q2,e1,e2,line,bB,fF];refine c1.imp ?_;rintro ds rfl;simp[jJ,all_map,q3];refine c2.imp ?_;rintro ds rfl;simp[jJ,all_map]
   .have e2:¬(xs.length:Int)<=6:=by lia
    simp[dG,Z.rE,hl,q1,q2,e2,line]
  .have e1:¬(1)<=(xs.length:Int):=by lia
   simp[dG,Z.rE,hl,q1,e1,line]
 |str _=>rw[gi];exact aP (by simp[dG,Z.rE,rV])
 |non=>rw[gi];exact aP (by simp[dG,Z.rE,rV])
 |bl _=>rw[gi];exact aP (by simp[dG,Z.rE,rV])
 |int _=>rw[gi];exact aP (by simp[dG,Z.rE,rV])
 |lst _=>rw[gi];exact aP (by simp[dG,Z.rE,rV])
 |dct _ _=>rw[gi];exact aP (by simp[dG,Z.rE,rV])
theorem Hall.b{R L:Nat}(H:Hall R L rows):A7 (rows.map .str)=Ch:=by
 unfold A7;have h1:=H.r1;have h2:=H.r2;have h3:=H.l1;have h4:=H.l2;simp only[A49,B14,A05,H.len,A36];refine⟨⟨⟨h1,h2⟩,λ d hd=>?_⟩,λ d hd=>?_⟩
 .let⟨r,hr,rfl⟩:=A03.mp hd;simp only[pD,Iw,A49,B14,A36,H.each r hr];exact⟨⟨h3,h4⟩,H.sg r hr⟩
 .let⟨r,hr,rfl⟩:=A03.mp hd;cases rows with
  |nil=>cases hr
  |cons x xs=>simp[CV,H.each r hr,H.each x _]
end KA
namespace KS
open Z KA
def jA:SF:=(a6<|uU (eU (ky .int)<|eW 0)<|Oh<|eU (ky .bool)<|eW 0)
def gr:γ D->Res D:=fn 1 1 jA
theorem Bj(x0:D):gr [x0]=bR (jA [AC (.val x0)]):=cT _ _ _ _ rfl
def cQ:SF:=(a6<|uU (aE gr<|aa (eV 0) aC)<|iP oLe oLe (eW 1) (eW 0)<|eW 2)
def bq:γ D->Res D:=fn 3 3 cQ
theorem oO(x0 x1 x2:D):bq [x0,x1,x2]=bR (cQ [AC (.val x0),AC (.val x1),AC (.val x2)]):=cT _ _ _ _ rfl
def jc:SF:=(aT (gZ (wL (gb<|tE<|eU (ky .str)<|eW 0)<|gb<|tE<|iP oLe oLe (eC<|.int 1) (eU cL<|eW 0)<|eC<|.int 8) (a6<|eC<|.bl AT) bA)<|a6<|eU jJ<|eL<|bU (dS<|eW 0) 1 [] (aW 0) cb<|aE KA.c5<|aa (eV 0) aC)
def cf:γ D->Res D:=fn 1 1 jc
theorem uT(x0:D):cf [x0]=bR (jc [AC (.val x0)]):=cT _ _ _ _ rfl
def nr:SF:=(a6<|uU (eU (ky .str)<|eW 0)<|TM (eB oEq (eW 0)<|eC<|.str [])<|aE KA.c5<|aa (eV 0) aC)
def lA:γ D->Res D:=fn 1 1 nr
theorem Dp(x0:D):lA [x0]=bR (nr [AC (.val x0)]):=cT _ _ _ _ rfl
def mS:SF:=(a6<|aE bq<|aa (eV 0)<|aa (eV 1)<|aa (eB qO (eB nF (eC<|.int 10)<|eC<|.int 60)<|eC<|.int 1) aC)
def gL:γ D->Res D:=fn 2 2 mS
theorem yX(x0 x1:D):gL [x0,x1]=bR (mS [AC (.val x0),AC (.val x1)]):=cT _ _ _ _ rfl
def rl:SF:=(aT (gZ (wL (gb<|tE<|eU (ky .tuple)<|eW 0)<|tE<|eB sS (eU cL<|eW 0)<|eC<|.int 2) (a6<|eC<|.bl AT) bA)<|a6<|uU (aE bq<|aa (eB aR (eW 0)<|eC<|.int 0)<|aa (eC<|.int 0)<|aa (eC<|.int 5) aC)<|aE gL<|aa (eB aR (eW 0)<|eC<|.int 1)<|aa (eC<|.int 1) aC)
def jv:γ D->Res D:=fn 1 1 rl
theorem Dm(x0:D):jv [x0]=bR (rl [AC (.val x0)]):=cT _ _ _ _ rfl
def lN:SF:=(aT (gZ (wL (gb<|tE<|eU (ky .tuple)<|eW 0)<|gb<|tE<|eU jJ<|eL<|bU (dS<|eW 0) 1 [] (aW 0) cb<|aE jv<|aa (eV 0) aC) (a6<|eC<|.bl AT) bA)<|a6<|eU jJ<|eL<|bU (fW<|eB qO (eU cL<|eW 0)<|eC<|.int 1) 1 [0] (aW 0) cb<|eB oLt (eB aR (eB aR (eW 1)<|eW 0)<|eC<|.int 0)<|eB aR (eB aR (eW 1)<|eB bG (eW 0)<|eC<|.int 1)<|eC<|.int 0)
def iu:γ D->Res D:=fn 1 1 lN
theorem wj(x0:D):iu [x0]=bR (lN [AC (.val x0)]):=cT _ _ _ _ rfl
def ia:SF:=(aT (gZ (gb<|tE<|aE bq<|aa (eB aR (eW 0)<|eC<|.int 1)<|aa (eC<|.int 1)<|aa (eC<|.int 12) aC) (a6<|eC<|.bl AT) bA)<|aT (gZ (gb<|tE<|aE bq<|aa (eB aR (eW 0)<|eC<|.int 2)<|aa (eC<|.int 1)<|aa (eC<|.int 3) aC) (a6<|eC<|.bl AT) bA)<|aT (gZ (gb<|tE<|aE bq<|aa (eB aR (eW 0)<|eC<|.int 4)<|aa (eC<|.int 0)<|aa (eB fT (eB aR (eW 0)<|eC<|.int 1)<|eB aR (eW 0)<|eC<|.int 2) aC) (a6<|eC<|.bl AT) bA)<|a6<|uU (aE lA<|aa (eB aR (eW 0)<|eC<|.int 3) aC)<|aE bq<|aa (eB aR (eW 0)<|eC<|.int 5)<|aa (eC<|.int 0)<|aa (eC<|.int 6) aC)
def fy:γ D->Res D:=fn 1 1 ia
theorem p?(x0:D):fy [x0]=bR (ia [AC (.val x0)]):=cT _ _ _ _ rfl
def o6:SF:=(aT (gZ (wL (gb<|tE<|eU (ky .tuple)<|eW 0)<|tE<|eB sS (eU cL<|eW 0)<|eC<|.int 8) (a6<|eC<|.bl AT) bA)<|aT (gZ (wL (gb<|tE<|aE cf<|aa (eB aR (eW 0)<|eC<|.int 0) aC)<|gb<|tE<|aE fy<|aa (eV 0) aC) (a6<|eC<|.bl AT) bA)<|a6<|uU (aE gL<|aa (eB aR (eW 0)<|eC<|.int 6)<|aa (eC<|.int 0) aC)<|aE iu<|aa (eB aR (eW 0)<|eC<|.int 7) aC)
def c_:γ D->Res D:=fn 1 1 o6
theorem Bk(x0:D):c_ [x0]=bR (o6 [AC (.val x0)]):=cT _ _ _ _ rfl
end KS
namespace KS
open Z KA
set_option genInjectivity false in
structure Gp where
 nm:List Nat
 w:Nat
 d:Nat
 kd:List Nat
 wi:Nat
 ga:Nat
 wo:Nat
 ws:List (Nat×Nat)
def j8(p:Nat×Nat):D:=.tup [.int p.1,.int p.2]
def fB(g:Gp):D:=.tup [.str g.nm,.int g.w,.int g.d,.str g.kd,.int g.wi,.int g.ga,.int g.wo,.tup (g.ws.map j8)]
structure D3(g:Gp):Prop where
 n1:1<=g.nm.length
 n2:g.nm.length<=8
 nl:∀c∈g.nm,c∈aX
 w1:1<=g.w
 w2:g.w<=12
 d1:1<=g.d
 d2:g.d<=3
 kd:g.kd=[]\/∃c∈aX,g.kd=[c]
 wi:g.wi<=g.w*g.d
 ga:g.ga<=6
 wo:g.wo<10^60
 wl:g.ws.length<=6
 wr:∀p∈g.ws,p.1<=5/\1<=p.2/\p.2<10^60
 up:(g.ws.map (·.1)).Pairwise (· < ·)
theorem mi(h:Ok (a ρ) λ fl=>fl=.nx ρ1)(k:Ok (b ρ1) Q):Ok (aT a b ρ) Q:=by let⟨fl,e,rfl⟩:=h;rw[Qv,e,Res.k_];exact k
theorem ex0:aR (fB g) (.int 0)=.ok (.str g.nm):=rfl
theorem ex1:aR (fB g) (.int 1)=.ok (.int g.w):=rfl
theorem ex2:aR (fB g) (.int 2)=.ok (.int g.d):=rfl
theorem ex3:aR (fB g) (.int 3)=.ok (.str g.kd):=rfl
theorem ex4:aR (fB g) (.int 4)=.ok (.int g.wi):=rfl
theorem ex5:aR (fB g) (.int 5)=.ok (.int g.ga):=rfl
theorem ex6:aR (fB g) (.int 6)=.ok (.int g.wo):=rfl
theorem ex7:aR (fB g) (.int 7)=.ok (.tup<|g.ws.map j8):=rfl
theorem VD{n:Nat}(h:n<10^60):(n:Int)<=10^60-1:=by
 have h2:(n:Int)<10^60:=by exact_mod_cast h
 exact Int.le_sub_one_of_lt h2
theorem wI(n:Int):gr [.int n]=.ok (.bl Ch):=by rw[Bj];exact aP (by simp[jA,Z.rE])
theorem within_int(n a b:Int):bq [.int n,.int a,.int b]=.ok (.bl<|decide<|a<=n/\n<=b):=by
 rw[oO];refine aP ?_;by_cases h1:a<=n
 .simp[cQ,wI,h1]
 .simp[cQ,wI,h1]
theorem vj(n a:Int):gL [.int n,.int a]=.ok (.bl<|decide<|a<=n/\n<=10^60-1):=by rw[yX];refine aP ?_;simp[mS,within_int]
theorem Nn(c:Nat):decide (c∈aX)=(decide (97<=c)&&decide (c<=122)):=by
 by_cases h:c<128
 .exact(by decide:∀c<128,decide _=(decide _&&decide (c<=122))) c h
 .have h1:c∉aX:=λ m=>h<|(by decide:∀c∈aX,c<128) c m;have h2:¬c<=122:=by lia
  simp[h1,h2]
theorem uz(c:Nat):c5 [.str [c]]=.ok (.bl<|decide<|c∈aX):=by rw[nX,Nn]
theorem Gr(cs:γ Nat):Ok (cF (aW 0) cb (aE KA.c5<|aa (eV 0) aC) [At]<|cs.map λ c=>.str [c]) λ ds=>ds=cs.map λ c=>D.bl (decide<|c∈aX):=
 cz (λ c=>D.str [c]) (λ _=>Ch) (λ c=>.bl<|decide<|c∈aX) (λ c _=>by simp[uz]) (by rw[B18.mpr λ _ _=>rfl])
def w!(cs:γ Nat):Bool:=decide (1<=cs.length/\cs.length<=8)&&cs.all λ c=>decide (c∈aX)
theorem EJ(cs:γ Nat)(h:cs.length<=16777216):cf [.str cs]=.ok (.bl<|w! cs):=by
 rw[uT];refine aP ?_;unfold w!;by_cases h1:1<=cs.length
 .by_cases h2:cs.length<=8
  .have e1:(1)<=(cs.length:Int):=by lia
   have e2:(cs.length:Int)<=8:=by lia
   simp[jc,Z.rE,h,h1,h2,e1,e2,bB,fF];refine(Gr cs).imp ?_;rintro ds rfl;simp[jJ,all_map]
  .have e2:¬(cs.length:Int)<=8:=by lia
   simp[jc,Z.rE,h,h1,h2,e2,line]
 .have e1:¬(1)<=(cs.length:Int):=by lia
  simp[jc,Z.rE,h,h1,e1,line]
def kindB(cs:γ Nat):Bool:=cs==[]||(decide (cs.length=1)&&cs.all λ c=>decide (c∈aX))
theorem GB(cs:γ Nat)(h:cs.length<=16777216):c5 [.str cs]=.ok (.bl<|decide (cs.length=1)&&cs.all λ c=>decide (c∈aX)):=by
 cases cs with
 |nil=>rw[lC];exact aP (by simp[fJ])
 |cons c r=>
  cases r with
  |nil=>rw[uz];simp
  |cons c' r=>
   rw[lC];refine aP ?_;have e:¬((r.length:Int)+1+1=1):=by lia
   have h':r.length+1+1<=16777216:=by simpa using h
   simp[fJ,h',e]
theorem NA(cs:γ Nat)(h:cs.length<=16777216):lA [.str cs]=.ok (.bl<|kindB cs):=by
 have hl:=GB cs h;rw[Dp];refine aP ?_;unfold kindB;have en:oEq (.str cs) (.str [])=.ok (.bl<|decide<|cs=[]):=by cases cs<;>rfl
 by_cases h0:cs=[]
 .subst h0;have en':oEq (.str []) (.str [])=.ok _:=rfl;simp[nr,Z.rE]
 .have hb:(cs==[])=AT:=by simpa using h0
  simp[nr,Z.rE,hl,hb]
section
variable{g:Gp}
theorem LW(h:p.1<=5/\1<=p.2/\p.2<10^60):jv [j8 p]=.ok (.bl Ch):=by have i0:aR (j8 p) (.int 0)=.ok _:=rfl;have i1:aR (j8 p) (.int 1)=.ok _:=rfl;have w1:=within_int p.1 0 5;have w2:=vj p.2 1;have q1:decide ((0)<=(p.1:Int)/\(p.1:Int)<=5)=Ch:=A44 ∅;have q2:decide ((1)<=(p.2:Int)/\(p.2:Int)<=10^60-1)=Ch:=A44 ⟨by lia,VD h.2.2⟩;rw[q1]at w1;rw[q2]at w2;rw[Dm];refine aP ?_;have ty:gA .tuple (j8 p)=Ch:=rfl;have ln:cL (j8 p)=.ok _:=rfl;simp[rl,ty,ln,i0,i1,w1,w2]
theorem FG(hw:∀p∈g.ws,p.1<=5/\1<=p.2/\p.2<10^60):Ok (cF (aW 0) cb (aE jv<|aa (eV 0) aC) [At]<|g.ws.map j8) λ ds=>ds=g.ws.map λ _=>D.bl Ch:=
 cz j8 (λ _=>Ch) (λ _=>.bl Ch) (λ p hp=>by simp[LW<|hw p hp]) (by rw[B18.mpr λ _ _=>rfl])
theorem F5(hu:(g.ws.map (·.1)).Pairwise (· < ·)):Ok (cF (aW 0) cb (eB oLt (eB aR (eB aR (eW 1)<|eW 0)<|eC<|.int 0)<|eB aR (eB aR (eW 1)<|eB bG (eW 0)<|eC<|.int 1)<|eC<|.int 0) [At,v (.tup<|g.ws.map j8)]<|(Ev<|g.ws.length-1).map λ n=>D.int (n:Nat)) λ ds=>ds=(Ev<|g.ws.length-1).map λ _=>D.bl Ch:=
 cz (λ n=>D.int (n:Nat)) (λ _=>Ch) (λ _=>.bl Ch) (λ n hn=>by
  have J0:=A26.mp hn;have l1:n<g.ws.length:=by lia
  have l2:n+1<g.ws.length:=by lia
  have i1:aR (.tup<|g.ws.map j8) (.int<|n)=.ok (j8 g.ws[n]):=(iE rfl (by rw[A06,A01];rfl)).1;have i2:aR (.tup<|g.ws.map j8) (.int<|(n)+1)=.ok (j8 g.ws[n+1]):=(iE (j:=n+1) ∅ (by rw[A06,A01 l2];rfl)).1;have j1:∀p,aR (j8 p) (.int 0)=.ok (.int p.1):=λ p=>rfl;have lt:g.ws[n].1<g.ws[n+1].1:=by have:=C27.mp hu n (n+1) (by simp;lia) (by simp;lia) ∅;simpa using this
  have lt':((g.ws[n].1))<(g.ws[n+1].1):=by lia
  simp[i1,i2,j1,lt']) (by rw[B18.mpr λ _ _=>rfl])
theorem all_true{α:Type}(xs:γ α):jJ (.lst<|xs.map λ _=>D.bl Ch)=.ok (.bl Ch):=by have:=all_map (λ _=>Ch) xs;simp only[jJ,this];simp
theorem B6(k:D3 g):iu [.tup (g.ws.map j8)]=.ok (.bl Ch):=by
 have hl:g.ws.length<=16777216:=by have:=k.wl;lia
 have e1:«zints» 0 (g.ws.length-1)=(Ev<|g.ws.length-1).map λ n=>D.int (n:Nat):=by exact B08 λ n _=>by simp
 rw[wj];refine aP ?_;simp[lN,Z.rE,hl,bB];refine(FG k.wr).imp ?_;rintro ds rfl;rw[all_true];simp[hl];rw[e1];refine⟨by lia,(F5 k.up).imp ?_⟩;rintro ds rfl;rw[all_true];simp
theorem OO(k:D3 g):fy [fB g]=.ok (.bl Ch):=by
 have w1:=within_int g.w 1 12;have w2:=within_int g.d 1 3;have w3:=within_int g.wi 0<|(g.w)*(g.d);have w4:=within_int g.ga 0 6;rw[A44<|⟨by have:=k.w1;lia,by have:=k.w2;lia⟩]at w1;rw[A44<|⟨by have:=k.d1;lia,by have:=k.d2;lia⟩]at w2;rw[A44<|⟨by lia,by have:=k.wi;exact_mod_cast this⟩]at w3;rw[A44<|⟨by lia,by have:=k.ga;lia⟩]at w4;have wk:=NA g.kd (by rcases k.kd with h|⟨c,_,h⟩<;>rw[h]<;>simp);have wk':kindB g.kd=Ch:=by
  rcases k.kd with h|⟨c,hc,h⟩<;>rw[h]
  .rfl
  .simp[kindB,hc]
 rw[wk']at wk;have m:b_ (g.w) (g.d):=d_ ∅ (by have:=k.w2;lia);rw[p?];refine aP ?_;simp[ia,ex1,ex2,ex3,ex4,ex5,w1,w2,w3,w4,wk,m]
theorem J_(k:D3 g):c_ [fB g]=.ok (.bl Ch):=by
 have hn:=EJ g.nm (by have:=k.n2;lia);have J0:w! g.nm=Ch:=by unfold w!;rw[A44 ⟨k.n1,k.n2⟩,C02,A36];exact λ c hc=>A44<|k.nl c hc
 rw[J0]at hn;have ha:=OO k;have hw:=B6 k;have ho:=vj g.wo 0;rw[A44<|⟨by lia,VD k.wo⟩]at ho;have ty:gA .tuple (fB g)=Ch:=rfl;have ln:cL (fB g)=.ok _:=rfl;rw[Bk];refine aP ?_;simp[o6,ty,ln,ex0,ex6,ex7,hn,ha,ho,hw]
end
def Hn(nm:γ Nat):Prop:=1<=nm.length/\nm.length<=8/\∀c∈nm,c∈aX
structure BJ(n:Nat)(ws:List (Nat×Nat)):Prop where
 l:ws.length<=n
 r:∀p∈ws,p.1<n/\1<=p.2/\p.2<10^60
 up:(ws.map (·.1)).Pairwise (· < ·)
theorem BJ.next(h:BJ n ws):BJ (n+1) ws:=⟨by have:=h.l;lia,λ p hp=>by let⟨a,b⟩:=h.r p hp;exact⟨by lia,b⟩,h.up⟩
theorem BJ.snoc(h:BJ n ws)(h1:1<=a)(h2:a<10^60):BJ (n+1) (ws++[(n,a)]):=by
 refine⟨by have:=h.l;simp;lia,λ p hp=>?_,?_⟩
 .rcases A41.mp hp with hp|hp
  .let⟨a,b⟩:=h.r p hp;exact⟨by lia,b⟩
  .rw[A21.mp hp];exact⟨by lia,h1,h2⟩
 .rw[A39,List.pairwise_append];refine⟨h.up,by simp,λ x hx y hy=>?_⟩;let⟨p,hp,rfl⟩:=A03.mp hx;simp at hy;rw[hy];exact(h.r p hp).1
end KS
namespace KG
open Z
def tj:SF:=(a6<|TM (eB sT (eW 0)<|dZ<|aa (eC<|.str [46])<|aa (eC<|.str [61]) aC)<|eB oEq (eW 0)<|eW 1)
def p5:γ D->Res D:=fn 2 2 tj
theorem Kn(x0 x1:D):p5 [x0,x1]=bR (tj [AC (.val x0),AC (.val x1)]):=cT _ _ _ _ rfl
def oZ:SF:=(aT (oy 2<|cu aC)<|aT (jh (A1 (eB aR (eW 1)<|eC<|.int 0)<|eB bG (eB aR (eW 1)<|eC<|.int 0)<|eB aR (eW 0)<|eC<|.int 2) (aW 3)<|F2 2<|bU (A1 (eB aR (eW 1)<|eC<|.int 1)<|eB bG (eB aR (eW 1)<|eC<|.int 1)<|eB aR (eW 0)<|eC<|.int 1) 1 [3] (aW 0) cb<|dZ<|aa (eV 1)<|aa (eV 0) aC)<|a6<|eU g!<|eW 2)
def jY:γ D->Res D:=fn 2 4 oZ
theorem Be(x0 x1:D):jY [x0,x1]=bR (oZ [AC (.val x0),AC (.val x1),At,At]):=cT _ _ _ _ rfl
def iC:SF:=(aT (gZ (tE<|eB oLt (eW 1)<|eU cL<|eW 0) (a6<|eB aR (eW 0)<|eW 1) bA)<|a6<|eC<|.int 0)
def b9:γ D->Res D:=fn 2 2 iC
theorem mI(x0 x1:D):b9 [x0,x1]=bR (iC [AC (.val x0),AC (.val x1)]):=cT _ _ _ _ rfl
def h_:SF:=(aT (bc 2<|eB aR (eW 1)<|eC<|.int 0)<|aT (bc 3<|eB aR (eW 1)<|eC<|.int 1)<|aT (gZ (vL (tE<|iP oLe oLt (eC<|.int 0) (eW 2)<|eU cL<|eW 0)<|tE<|iP oLe oLt (eC<|.int 0) (eW 3)<|eU cL<|eB aR (eW 0)<|eC<|.int 0) (a6<|eB aR (eB aR (eW 0)<|eW 2)<|eW 3) bA)<|a6<|eC .non)
def ly:γ D->Res D:=fn 2 4 h_
theorem Dk(x0 x1:D):ly [x0,x1]=bR (h_ [AC (.val x0),AC (.val x1),At,At]):=cT _ _ _ _ rfl
def DR:SF:=(aT (bc 3<|eL<|bU (dS<|aE jY<|aa (eV 1)<|aa (eV 2) aC) 1 [0] (aW 0) cb<|aE ly<|aa (eV 1)<|aa (eV 0) aC)<|aT (gZ (gb<|tE<|eU jJ<|eL<|bU (dS<|eW 3) 1 [1] (aW 0) cb<|aE p5<|aa (eV 0)<|aa (eB aR (eW 1)<|eC<|.int 3) aC) (a6<|eC<|.bl AT) bA)<|a6<|eB Th (eB yz (eW 3)<|eC<|.str [61])<|eB aR (eW 1)<|eC<|.int 4)
def p7:γ D->Res D:=fn 3 4 DR
theorem Oa(x0 x1 x2:D):p7 [x0,x1,x2]=bR (DR [AC (.val x0),AC (.val x1),AC (.val x2),At]):=cT _ _ _ _ rfl
def mQ:SF:=(aT (oy 2<|cu aC)<|aT (jh (fW<|eU cL<|eW 0) (aW 3)<|F2 2<|bU (fW<|eU cL<|eB aR (eW 0)<|eW 3) 1 [0,1,3] (aW 0) (tE<|aE p7<|aa (eV 1)<|aa (eV 2)<|aa (dZ<|aa (eV 3)<|aa (eV 0) aC) aC)<|dZ<|aa (eV 3)<|aa (eV 0) aC)<|a6<|eU g!<|eW 2)
def fN:γ D->Res D:=fn 2 4 mQ
theorem yT(x0 x1:D):fN [x0,x1]=bR (mQ [AC (.val x0),AC (.val x1),At,At]):=cT _ _ _ _ rfl
def nv:SF:=(aT (gZ (wL (tE<|eB oLe (eB bG (eB aR (eW 1)<|eC<|.int 0)<|eB aR (eW 0)<|eC<|.int 2)<|eB aR (eW 3)<|eC<|.int 0)<|tE<|eB oLe (eB bG (eB aR (eW 3)<|eC<|.int 0)<|eB aR (eW 2)<|eC<|.int 2)<|eB aR (eW 1)<|eC<|.int 0) (a6<|eC<|.bl Ch) bA)<|aT (bc 4<|eB M0 (eB aR (eW 0)<|eC<|.int 5)<|eB aR (eW 2)<|eC<|.int 5)<|a6<|TM (eB oLe (eB bG (eB bG (eB aR (eW 1)<|eC<|.int 1)<|eB aR (eW 0)<|eC<|.int 1)<|eW 4)<|eB aR (eW 3)<|eC<|.int 1)<|eB oLe (eB bG (eB bG (eB aR (eW 3)<|eC<|.int 1)<|eB aR (eW 2)<|eC<|.int 1)<|eW 4)<|eB aR (eW 1)<|eC<|.int 1)
def p8:γ D->Res D:=fn 4 5 nv
theorem Kp(x0 x1 x2 x3:D):p8 [x0,x1,x2,x3]=bR (nv [AC (.val x0),AC (.val x1),AC (.val x2),AC (.val x3),At]):=cT _ _ _ _ rfl
def h!:SF:=(a6<|eL<|bU (NS (eV 0)<|eV 1) 2 [] (jt [0,1]) (tE<|eU rN<|eW 1)<|dZ<|aa (eV 0)<|aa (eV 1) aC)
def cy:γ D->Res D:=fn 2 2 h!
theorem p!(x0 x1:D):cy [x0,x1]=bR (h! [AC (.val x0),AC (.val x1)]):=cT _ _ _ _ rfl
def ib:SF:=(a6<|eU jJ<|eL<|bU (dS<|eW 2) 2 [0,1] (jt [0,1]) cb<|aE p8<|aa (eV 2)<|aa (eV 3)<|aa (eV 0)<|aa (eV 1) aC)
def dP:γ D->Res D:=fn 3 3 ib
theorem p_(x0 x1 x2:D):dP [x0,x1,x2]=bR (ib [AC (.val x0),AC (.val x1),AC (.val x2)]):=cT _ _ _ _ rfl
def zi:SF:=(aT (bc 3<|aE cy<|aa (eV 1)<|aa (eV 2) aC)<|aT (gZ (gb<|tE<|eU jJ<|eL<|bU (dS<|eW 3) 2 [0] (jt [0,1]) cb<|aE p7<|aa (eV 2)<|aa (eV 0)<|aa (eV 1) aC) (a6<|eC<|.bl AT) bA)<|a6<|eU jJ<|eL<|bU (fW<|eU cL<|eW 3) 1 [3] (aW 0) cb<|aE dP<|aa (eB aR (eB aR (eW 1)<|eW 0)<|eC<|.int 0)<|aa (eB aR (eB aR (eW 1)<|eW 0)<|eC<|.int 1)<|aa (eL<|Nu (eW 1) MI<|su<|eW 0) aC)
def kG:γ D->Res D:=fn 3 4 zi
theorem Ko(x0 x1 x2:D):kG [x0,x1,x2]=bR (zi [AC (.val x0),AC (.val x1),AC (.val x2),At]):=cT _ _ _ _ rfl
abbrev Rows:=γ<|γ Nat
abbrev Pl:=Int×Int
structure Hall(rows:Rows)(C:Nat):Prop where
 r1:1<=rows.length
 r2:rows.length<=100
 c1:1<=C
 c2:C<=100
 len:∀x∈rows,x.length=C
set_option genInjectivity false in
structure G where
 name:List Nat
 w:Nat
 d:Nat
 kind:List Nat
 wide:Nat
 gap:Nat
 worth:D
 tH:D
structure GOk(g:G):Prop where
 w1:1<=g.w
 w2:g.w<=13
 d1:1<=g.d
 d2:g.d<=4
 kd:g.kind.length<=1
 wd:g.wide<=100
 gp:g.gap<=100
def bo(rows:Rows):D:=.tup<|rows.map .str
def a!(p:Pl):D:=.tup [.int p.1,.int p.2]
def aZ(g:G):D:=.tup [.str g.name,.int g.w,.int g.d,.str g.kind,.int g.wide,.int g.gap,g.worth,g.tH]
def fB:ε Nat->D
|some c=>.str [c]
|none=>.non
@[simp] theorem abO(p:Pl):aR (a! p) (.int 0)=.ok (.int p.1):=rfl
@[simp] theorem abN(p:Pl):aR (a! p) (.int 1)=.ok (.int p.2):=rfl
@[simp] theorem acN(g:G):aR (aZ g) (.int 0)=.ok (.str g.name):=rfl
@[simp] theorem acM(g:G):aR (aZ g) (.int 1)=.ok (.int g.w):=rfl
@[simp] theorem acL(g:G):aR (aZ g) (.int 2)=.ok (.int g.d):=rfl
@[simp] theorem acK(g:G):aR (aZ g) (.int 3)=.ok (.str g.kind):=rfl
@[simp] theorem acJ(g:G):aR (aZ g) (.int 4)=.ok (.int g.wide):=rfl
@[simp] theorem acI(g:G):aR (aZ g) (.int 5)=.ok (.int g.gap):=rfl
@[simp] theorem acH(g:G):aR (aZ g) (.int 6)=.ok g.worth:=rfl
@[simp] theorem acG(g:G):aR (aZ g) (.int 7)=.ok g.tH:=rfl
@[simp] theorem acv(rows:Rows):cL (bo rows)=.ok (.int rows.length):=by simp[bo]
@[simp] theorem abu(a b:Int):D.tup [.int a,.int b]=a! (a,b):=rfl
theorem e?(ρ:Env)(is:γ Nat):fF ρ is=is.map (vc ρ):=rfl
def xF:ε (ε L)->ε L
|some<|some<|.val d=>AC<|.val d
|some<|some<|.bor d=>AC<|.bor d
|some<|some<|.GZ ks=>AC<|.GZ ks
|some<|some<|.own xs=>AC<|.bor<|.lst xs
|_=>At
theorem dR(ρ:Env)(i:Nat):vc ρ i=xF ρ[i]?:=by
 unfold vc xF;cases ρ[i]? with
 |none=>rfl
 |some o=>cases o with
  |none=>rfl
  |some l=>cases l<;>rfl
@[simp] theorem TV(d:D):xF (AC<|some<|.bor d)=AC (.bor d):=rfl
@[simp] theorem TU(ks:γ _):xF (AC<|some<|.GZ ks)=AC (.GZ ks):=rfl
@[simp] theorem TR(xs:γ D):xF (AC<|some<|.own xs)=AC (.bor<|.lst xs):=rfl
@[simp] theorem TQ(d:D):xF (AC<|some<|.val d)=AC (.val d):=rfl
theorem Hall.row(H:Hall rows C)(h:r<rows.length):∃row,rows[r]?=AC row/\row.length=C/\aR (bo rows) (.int r)=.ok (.str row):=by refine⟨rows[r],A01 h,H.len _<|B26 h,(iE rfl ?_).1⟩;rw[A06,A01];rfl
theorem Hall.Ms(H:Hall rows C):∃row,row.length=C/\aR (bo rows) (.int 0)=.ok (.str row):=by let⟨row,_,h1,h2⟩:=H.row H.r1;exact⟨row,h1,h2⟩
def cx(rows:Rows)(p:Pl):ε Nat:=if 0<=p.1/\0<=p.2 then(rows[p.1.toNat]?).bind (λ r=>r[p.2.toNat]?)else At
theorem Mj(H:Hall rows C){p:Pl}(h1:0<=p.1)(h2:p.1<rows.length)(h3:0<=p.2)(h4:p.2<C):∃row c,aR (bo rows) (.int p.1)=.ok (.str row)/\row.length=C/\aR (.str row) (.int p.2)=.ok (.str [c])/\cx rows p=AC c:=by
 let⟨row,e1,hl,e2⟩:=H.row (r:=p.1.toNat) ∅;rw[Int.toNat_of_nonneg h1]at e2;have hc:p.2.toNat<row.length:=by lia
 have N0:=H.c2;refine⟨row,row[p.2.toNat],e2,hl,pU ∅ (A01 hc) (by simp only[line];lia),?_⟩;simp[cx,h1,h3,e1]
theorem t?(H:Hall rows C){p:Pl}(h:¬(0<=p.1/\p.1<rows.length/\0<=p.2/\p.2<C)):cx rows p=At:=by
 unfold cx;by_cases h0:0<=p.1/\0<=p.2
 .rw[M2 h0];cases e:rows[p.1.toNat]? with
  |none=>rfl
  |some row=>let⟨h1,h2⟩:=A08.mp e;have:=H.len row<|A20 e;simp only[C14];exact B53 ∅
 .rw[W1 h0]
theorem Mi(H:Hall rows C)(p:Pl):ly [bo rows,a! p]=.ok (fB<|cx rows p):=by
 rw[Dk];refine aP ?_;let⟨Ms,NZ,e0⟩:=H.Ms;have vC:=H.c2;have NX:C<=line:=by simp only[line];lia
 by_cases h:0<=p.1/\p.1<rows.length/\0<=p.2/\p.2<C
 .let⟨row,c,e1,_,e2,e3⟩:=Mj H h.1 h.2.1 h.2.2.1 h.2.2.2;simp[h_,e0,NZ,NX,h.1,h.2.1,h.2.2.1,h.2.2.2,e1,e2,e3,fB]
 .rw [t? H h];by_cases a1:0<=p.1
  .by_cases a2:p.1<rows.length
   .by_cases a3:0<=p.2
    .have a4:¬p.2<C:=λ z=>h ⟨a1,a2,a3,z⟩;simp[h_,e0,NZ,NX,a1,a2,a3,a4,fB]
    .simp[h_,e0,NZ,NX,a1,a2,a3,fB]
   .simp[h_,e0,NZ,NX,a1,a2,fB]
  .simp[h_,e0,NZ,NX,a1,fB]
def cD(kind:γ Nat):ε Nat->Bool
|some c=>decide<|c=46\/c=61\/kind=[c]
|none=>AT
theorem Si(c:γ Nat):iO (.str c) .non=AC AT:=rfl
theorem Kx(c:γ Nat):iO .non (.str c)=AC AT:=rfl
theorem Kw(a b:γ Nat):iO (.str a) (.str b)=AC (a==b):=rfl
theorem in2(c:Nat):sT (.str [c]) (.tup [.str [46],.str [61]])=.ok (.bl<|decide<|c=46\/c=61):=by
 simp only[sT,fK,Kw];by_cases h1:c=46
 .subst h1;rfl
 .by_cases h2:c=61
  .subst h2;rfl
  .have h1':¬46=c:=λ h=>h1 h.symm;have R9:¬61=c:=λ h=>h2 h.symm;simp[h1,h2,h1',R9]
theorem HW(s:ε Nat)(k:γ Nat):p5 [fB s,.str k]=.ok (.bl<|cD k s):=by
 rw[Kn];refine aP ?_;cases s with
 |none=>simp[tj,fB,cD,line,sT,fK,Kx,Si,oEq]
 |some c=>
  simp[tj,fB,cD,line,in2];by_cases h1:c=46
  .simp[h1]
  .by_cases h2:c=61
   .simp[h2]
   .by_cases h3:k=[c]
    .subst h3;simp[h1,h2]
    .have h3':¬[c]=k:=λ h=>h3 h.symm;simp[h1,h2,h3,h3']
def gE(w:Nat)(r c:Int):γ Pl:=(Ev w).map λ j=>(r,c+(j:Nat))
def iL(w:Nat)(p:Pl)(n:Nat):γ Pl:=(Ev n).flatMap λ i=>gE w (p.1+(i:Nat)) p.2
def seats(g:G)(p:Pl):γ Pl:=iL g.w p g.d
theorem mj(w:Nat)(p:Pl)(n:Nat):iL w p (n+1)=iL w p n++gE w (p.1+(n)) p.2:=by simp[iL,A83]
theorem yk(w:Nat)(r c:Int):(gE w r c).length=w:=by simp[gE]
theorem oq(w:Nat)(p:Pl)(n:Nat):(iL w p n).length=n*w:=by
 induction n with
 |zero=>simp[iL]
 |succ n ih=>rw[mj,A30,ih,yk,B25]
theorem ints_map(lo:Int)(n:Nat):zints lo n=(Ev n).map λ i=>D.int (lo+(i:Nat)):=rfl
theorem ints_get(h:(zints lo n)[j]?=AC d):j<n/\d=.int (lo+(j)):=by
 rw[ints_map,A06]at h;cases q:(Ev n)[j]? with
 |none=>rw[q]at h;cases h
 |some i=>rw[q]at h;let⟨h1,h2⟩:=A08.mp q;rw[B27]at h1;rw[B99]at h2;subst h2;simp at h;exact⟨h1,h.symm⟩
theorem toNat_sub(a:Int)(n:Nat):(a+(n)-a).toNat=n:=by lia
theorem Io(k:GOk g)(p:Pl):jY [aZ g,a! p]=.ok (.tup<|(seats g p).map a!):=by
 rw[Be];refine aP ?_;have hw:=k.w2;have hd:=k.d2;simp[oZ,toNat_sub];refine gg (λ i ρ=>∃x,ρ=[v _,v _,ow ((iL g.w p i).map a!),x]) ⟨At,rfl⟩ ?_ ?_
 .rintro j d ρ hj ⟨x,rfl⟩;let⟨hj,rfl⟩:=ints_get hj;simp[bB,toNat_sub,e?,dR];refine⟨by lia,comp_map (λ d=>.tup [.int (p.1+(j)),d]) ?_ ?_⟩
  .rintro d hd;let⟨i,hi⟩:=A88 hd;let⟨_,rfl⟩:=ints_get hi;simp[line]
  .refine⟨?_,?_⟩
   .rw[A05,oq,gG];have:j*g.w<=4*13:=A65 ∅ hw;lia
   .simp[mj,gE,ints_map]
 .rintro ρ ⟨x,rfl⟩;simp[seats]
def wH(rows:Rows)(s:Pl):Bool:=cx rows s==AC 61
def cW(rows:Rows)(g:G)(p:Pl):Bool:=(seats g p).all (λ s=>cD g.kind<|cx rows s)&&decide (g.wide<=(seats g p).countP (wH rows))
theorem BC(rows:Rows):∀(ss:γ Pl),n! (.str [61]) (ss.map λ s=>fB<|cx rows s)=AC (ss.countP<|wH rows)
|[]=>rfl
|s::ss=>by
 rw[f8,n!,BC,B33];cases e:cx rows s with
 |none=>simp[fB,wH,e,Kx]
 |some c=>simp[fB,wH,e,Kw]
theorem all_map{α:Type}(f:α->Bool)(xs:γ α):allB (xs.map λ x=>D.bl<|f x)=AC (xs.all f):=by
 have:=zk<|xs.map f;rw[A16]at this;rw[show(xs.map λ x=>D.bl _)=xs.map (D.bl∘f)from rfl,this]
 congr 1
 induction xs with
 |nil=>rfl
 |cons x xs ih=>simp
theorem E!(H:Hall rows C)(k:GOk g)(p:Pl):p7 [bo rows,aZ g,a! p]=.ok (.bl<|cW rows g p):=by
 rw[Oa];refine aP ?_;have ψ:(seats g p).length<=16777216:=by rw[seats,oq];have:=A65 k.d2 k.w2;lia
 simp[DR,bB,Io k,line,e?,dR,ψ];refine comp_map (λ d=>match d with|.tup [.int a,.int b]=>fB<|cx rows (a,b)|_=>.non) ?_ ?_
 .intro d hd;let⟨q,_,rfl⟩:=A03.mp hd;simp[Mi H];rfl
 .have e1:(List.map a!<|seats g p).map (λ d=>match d with|.tup [.int a,.int b]=>fB<|cx rows (a,b)|_=>.non)=(seats g p).map λ s=>fB (cx rows s):=by rw[A16];rfl
  rw[e1];simp[bB,line,ψ,e?,dR];refine comp_map (λ d=>match d with|.str [c]=>.bl<|cD g.kind<|some c|_=>.bl AT) ?_ ?_
  .intro d hd;let⟨q,_,rfl⟩:=A03.mp hd;simp[HW];cases cx rows q<;>rfl
  .have e2:((seats g p).map λ s=>fB<|cx rows s).map (λ d=>match d with|.str [c]=>D.bl<|cD g.kind<|some c|_=>D.bl AT)=(seats g p).map λ s=>D.bl (cD g.kind<|cx rows s):=by rw[A16];apply B08;intro s _;show(match fB (cx rows s)with|.str [c]=>D.bl<|cD g.kind<|some c|_=>D.bl AT)=_;cases cx rows s<;>rfl
   rw[e2];simp only[jJ,all_map,Xb];cases ha:(seats g p).all λ s=>cD g.kind (cx rows s)with
   |false=>simp[cW,ha]
   |true=>simp[cW,ha,yz,BC]
def XZ(rows:Rows)(g:G)(s:Pl):Bool:=cD g.kind<|cx rows s
theorem all_false{α:Type}{f:α->Bool}{xs:γ α}{x:α}(h:x∈xs)(e:f x=AT):xs.all f=AT:=by rw[Bool.eq_false_iff];intro z;rw[A36]at z;rw[z x h]at e;cases e
theorem Nk(h:j<w):(r,c+(j))∈gE w r c:=A03.mpr ⟨j,A26.mpr h,rfl⟩
theorem xf(hi:i<g.d)(hj:j<g.w):(p.1+(i),p.2+(j))∈seats g p:=
 B19.mpr ⟨i,A26.mpr hi,Nk hj⟩
theorem uQ(h:s∈seats g p)(e:XZ rows g s=AT):cW rows g p=AT:=by unfold cW;have:=all_false h e;rw[show(seats g p).all (λ s=>cD _ _)=(seats g p).all (XZ rows g)from rfl,this];rfl
def fi(r C:Nat):γ Pl:=(Ev C).map λ(c:Nat)=>(((r:Nat):Int),((c:Nat):Int))
def iK(n C:Nat):γ Pl:=(Ev n).flatMap λ r=>fi r C
theorem lQ(n C:Nat):iK (n+1) C=iK n C++fi n C:=by simp[iK,A83]
theorem qJ(r C:Nat):(fi r C).length=C:=by simp[fi]
theorem ny(n C:Nat):(iK n C).length=n*C:=by
 induction n with
 |zero=>simp[iK]
 |succ n ih=>rw[lQ,A30,ih,qJ,B25]
def places(rows:Rows)(C:Nat)(g:G):γ Pl:=(iK rows.length C).filter<|cW rows g
theorem places_of_ok(H:Hall rows C)(k:GOk g):fN [bo rows,aZ g]=.ok (.tup<|(places rows C g).map a!):=by
 rw[yT];refine aP ?_;have vC:=H.c2;have hr2:=H.r2;simp[mQ,line];refine gg (λ i ρ=>i<=rows.length/\∃x,ρ=[v _,v _,ow (((iK i C).filter<|cW rows g).map a!),x]) ⟨A47 _,At,rfl⟩ ?_ ?_
 .rintro i d ρ hi ⟨_,x,rfl⟩;let⟨yM,rfl⟩:=ints_get hi;let⟨row,_,hl,e1⟩:=H.row yM;have NX:C<=16777216:=by lia
  simp[e1,hl,bB,line,e?,dR,NX];refine OE (λ d=>match d with|.int c=>cW rows g ((i),c)|_=>AT) (λ d=>.tup [.int (i),d]) ?_ ?_
  .intro d hd;let⟨c,hc⟩:=A88 hd;let⟨_,rfl⟩:=ints_get hc;simp[line,E! H k]
  .have e2:((zints 0 C).filter λ d=>match d with|.int c=>cW rows g ((i),c)|_=>AT).map (λ d=>D.tup [.int (i),d])=((fi i C).filter<|cW rows g).map a!:=by
    rw[ints_map,fi,AB5,AB5,A16,A16]
    congr 1
    .funext c;simp
    .congr 1;funext c;simp
   rw[e2,lQ,B41,A39];have h1:=A70 (cW rows g)<|iK i C;have h2:=A70 (cW rows g)<|fi i C;rw[ny]at h1;rw[qJ]at h2;have h3:i*C<=100*100:=A65 ∅ vC;refine⟨?_,by lia,rfl⟩;rw[A05];lia
 .rintro ρ ⟨_,x,rfl⟩;simp[places]
def eE(g:G)(p:Pl)(h:G)(q:Pl):Bool:=decide<|p.1+g.d<=q.1\/q.1+h.d<=p.1\/p.2+g.w+max (g.gap:Int) (h.gap:Int)<=q.2\/q.2+h.w+max (g.gap:Int) (h.gap:Int)<=p.2
theorem Le(g:G)(p:Pl)(h:G)(q:Pl):p8 [aZ g,a! p,aZ h,a! q]=.ok (.bl<|eE g p h q):=by
 rw[Kp];refine aP ?_;by_cases h1:p.1+g.d<=q.1
 .simp[nv,eE,h1]
 .by_cases h2:q.1+h.d<=p.1
  .simp[nv,eE,h2]
  .by_cases h3:p.2+g.w+max (g.gap:Int) h.gap<=q.2
   .simp[nv,eE,h1,h2,h3]
   .simp[nv,eE,h1,h2,h3]
def Bd(ns:γ Int):Prop:=∀i∈ns,bits i<=2^20
theorem qh(hb:Bd ns)(h:0<=k):∃c,b9 [.lst (ns.map .int),.int k]=.ok (.int c)/\bits c<=2^20:=by
 by_cases hk:k<ns.length
 .have hj:k.toNat<ns.length:=by lia
  have e:=(iE (xs:=ns.map D.int) (i:=k) (j:=k.toNat) (d:=.int ns[k.toNat]) ∅ ∅).2;refine⟨ns[k.toNat],?_,hb _<|B26 hj⟩;rw[mI];refine aP ?_;simp[iC,hk,e]
 .refine⟨0,?_,by decide⟩;rw[mI];refine aP ?_;simp[iC,hk]
theorem xg(z:Int):∃q∈aX,aR (.str aX) (.int<|z % 26)=.ok (.str [q]):=
 uD ∅ (by simp[aX];lia) ∅
theorem pS(h:q∈aX):q∈signs:=(by decide:∀q∈aX,q∈signs) q h
structure Xg(rows:Rows)(C:Nat):Prop extends Hall rows C where
 r6:rows.length<=6
 c12:C<=12
 sg:∀x∈rows,∀c∈x,c∈signs
theorem Wr(h1:1<=rows.length)(h2:rows.length<=6)(h3:1<=C)(h4:C<=12)(h:∀x∈rows,x.length=C/\∀c∈x,c∈signs):Xg rows C:=
 ⟨⟨h1,by lia,h3,by lia,λ x hx=>(h x hx).1⟩,h2,h4,λ x hx=>(h x hx).2⟩
def j_(C i:Nat)(rows:Rows):Prop:=rows.length=i/\∀x∈rows,x.length=C/\∀c∈x,c∈signs
def SV(j:Nat)(ln:γ Nat):Prop:=ln.length=j/\∀c∈ln,c∈signs
theorem j_.nil(C:Nat):j_ C 0 []:=⟨rfl,λ c h=>by cases h⟩
theorem j_.add(h:j_ C i rows)(hl:SV C ln):j_ C (i+1) (rows++[ln]):=
 ⟨by simp [h.1],λ c hc=>by
  rcases A41.mp hc with hc|hc
  .exact h.2 c hc
  .rw[A21.mp hc];exact hl⟩
theorem oC{z:Int}(h:0<=z):∃n:Nat,z=n:=⟨z.toNat,by lia⟩
theorem oG(h0:0<=i)(h1:i<xs.length)(h:∀d∈xs,Q d):Ok (aR (.lst xs)<|.int i) Q:=by let⟨d,hd,e,_⟩:=EU h0 h1;exact⟨d,e,h d hd⟩
theorem Ql(a b:D)(p:Prop)[Decidable p]:aR (.lst [a,b]) (.int<|if p then 1 else 0)=.ok (if p then b else a):=by
 by_cases h:p
 .rw[M2 h,M2 h];rfl
 .rw[W1 h,W1 h];rfl
structure gW(g:G):Prop extends GOk g where
 w12:g.w<=12
 d3:g.d<=3
 kl:g.kind=[]\/∃c∈aX,g.kind=[c]
 wdd:g.wide<=g.w*g.d
 g6:g.gap<=6
 wsh:∃(wt:Int)(ws:List Pl),ws.length<=6/\g.worth=.int wt/\g.tH=.tup (ws.map a!)
theorem aaw(h1:1<=g.w)(h2:g.w<=12)(h3:1<=g.d)(h4:g.d<=3)(h5:g.kind=[]\/∃c∈aX,g.kind=[c])(h6:g.wide<=g.w*g.d)(h7:g.gap<=6)(h8:∃(wt:Int)(ws:γ Pl),ws.length<=6/\g.worth=.int wt/\g.tH=.tup (ws.map a!)):gW g:=
 ⟨⟨h1,by lia,h3,by lia,by rcases h5 with h|⟨c,_,h⟩<;>rw [h]<;>simp,by have:=A65 h2 h4;lia,by lia⟩,h2,h4,h5,h6,h7,h8⟩
@[simp] theorem Yj(b:Bool):gA .bool (.bl b)=Ch:=rfl
@[simp] theorem VP(xs:γ D):gA .tuple (.tup xs)=Ch:=rfl
@[simp] theorem _p(p:Pl):gA .tuple (a! p)=Ch:=rfl
@[simp] theorem VQ(i:Int):gA .int (.int i)=Ch:=rfl
@[simp] theorem Tr(i:Int):gA .bool (.int i)=AT:=rfl
theorem eqP(n:Nat)(p q:Pl):gR (n+1) (a! p) (a! q)=AC (decide<|p=q):=by
 show allEq _ [.int p.1,.int p.2] [.int q.1,.int q.2]=_;have e:∀a b,gR n (.int a) (.int b)=AC (decide<|a=b):=λ a b=>by cases n<;>rfl
 simp only[allEq,e]
 congr 1
 rw[A53];simp[Prod.ext_iff]
theorem Sh(n:Nat)(ps qs:γ Pl):allEq (gR<|n+1) (ps.map a!) (qs.map a!)=AC (decide<|ps=qs):=rn (eqP n) ps qs
theorem aaH(n:Nat)(ps qs:γ Int):allEq (gR n) (ps.map D.int) (qs.map D.int)=AC (decide<|ps=qs):=rn (λ a b=>by cases n<;>rfl) ps qs
@[simp] theorem _b(ps qs:γ Pl):sS (.lst<|ps.map a!) (.lst<|qs.map a!)=.ok (.bl<|!decide (ps=qs)):=by have:iO (.lst _) (.lst _)=AC _:=Sh 4 ps qs;unfold sS;rw[this]
@[simp] theorem afO(ps qs:γ Pl):oEq (.lst<|ps.map a!) (.lst<|qs.map a!)=.ok (.bl<|decide<|ps=qs):=by have:iO (.lst _) (.lst _)=AC _:=Sh 4 ps qs;unfold oEq;rw[this]
@[simp] theorem afN(ps qs:γ Pl):oEq (.tup<|ps.map a!) (.tup<|qs.map a!)=.ok (.bl<|decide<|ps=qs):=by have:iO (.tup _) (.tup _)=AC _:=Sh 4 ps qs;unfold oEq;rw[this]
@[simp] theorem neI(ps qs:γ Int):sS (.lst<|ps.map D.int) (.lst<|qs.map D.int)=.ok (.bl<|!decide (ps=qs)):=by have:iO (.lst _) (.lst _)=AC _:=aaH 5 ps qs;unfold sS;rw[this]
theorem SK(p:Pl):∀(qs:γ Pl),fK (a! p) (qs.map a!)=AC (decide<|p∈qs)
|[]=>rfl
|q::qs=>by
 rw[f8,fK,SK,show iO _ _=AC _ from eqP 5 q p];show AC _=_
 congr 1
 rw[A53];simp only[AB0,B14,A02];exact⟨λ h=>h.imp Eq.symm id,λ h=>h.imp Eq.symm id⟩
@[simp] theorem aeo(p:Pl)(qs:γ Pl):sT (a! p) (.tup<|qs.map a!)=.ok (.bl<|decide<|p∈qs):=by simp only[sT,SK]
@[simp] theorem Yd(p:Pl)(qs:γ Pl):jn (a! p) (.tup<|qs.map a!)=.ok (.bl<|!decide (p∈qs)):=by simp only[jn,SK]
theorem Gw(h:p∈fi r C):p.1=r/\0<=p.2/\p.2<C:=by let⟨c,hc,rfl⟩:=A03.mp h;rw[A26]at hc;exact⟨rfl,by lia,by lia⟩
theorem Gx:p∈iK n C↔0<=p.1/\p.1<n/\0<=p.2/\p.2<C:=by
 constructor
 .intro h;let⟨r,hr,h⟩:=B19.mp h;rw[A26]at hr;let⟨h1,h2,h3⟩:=Gw h;exact⟨by lia,by lia,h2,h3⟩
 .rintro⟨h1,h2,h3,h4⟩;refine B19.mpr ⟨p.1.toNat,A26.mpr ∅,A03.mpr ⟨p.2.toNat,A26.mpr ∅,?_⟩⟩;apply Prod.ext
  .lia
  .lia
theorem take_snoc{α:Type}{xs:γ α}{x:α}(h:xs[i]?=AC x):xs.take (i+1)=xs.take i++[x]:=by rw[wv,h];rfl
theorem places_len(H:Hall rows C)(g:G):(places rows C g).length<=10000:=by have h1:=A70 (cW rows g)<|iK rows.length C;rw[ny]at h1;have:=A65 H.r2 H.c2;unfold places;lia
end KG
namespace KG
open Z
abbrev GP:=G×Pl
abbrev GO:=G×ε Pl
def cN:ε Pl->D
|none=>.non
|some p=>a! p
@[simp] theorem TK(p:Pl):cN (AC p)=a! p:=rfl
@[simp] theorem TL:cN At=.non:=rfl
def qb(x:GP):D:=.tup [aZ x.1,a! x.2]
def KD(x:GO):D:=.tup [aZ x.1,cN x.2]
theorem O9:∀(xs:γ GO),l! (xs.map λ x=>aZ x.1) (xs.map λ x=>cN x.2)=xs.map KD
|[]=>rfl
|x::xs=>by simp[l!,O9 xs];rfl
@[simp] theorem Z!(o:ε Pl):rN (cN o)=.ok (.bl o.isSome):=by cases o<;>rfl
@[simp] theorem ab3(o:ε Pl):kz (cN o)=.ok (.bl o.isNone):=by cases o<;>rfl
@[simp] theorem gX(x:GP)(i j:Nat)(ρ:Env):jt [i,j] (qb x) ρ=.ok ((ρ.set i<|v<|aZ x.1).set j<|v<|a! x.2):=rfl
@[simp] theorem gY(x:GO)(i j:Nat)(ρ:Env):jt [i,j] (KD x) ρ=.ok ((ρ.set i<|v<|aZ x.1).set j<|v<|cN x.2):=rfl
theorem lD{α:Type}(xs:γ α):xs.filter (λ _=>Ch)=xs:=B18.mpr λ _ _=>rfl
def nD:γ GO->γ GP
|[]=>[]
|(g,AC p)::xs=>(g,p)::nD xs
|(_,At)::xs=>nD xs
theorem ye:∀xs,(xs.filter λ x=>x.2.isSome).map KD=(nD xs).map qb
|[]=>rfl
|(g,AC p)::xs=>by rw[C52 (by rfl)];simp only[f8,ye xs];rfl
|(g,At)::xs=>by rw[List.filter_cons_of_neg ∅];simp only[nD,ye xs]
theorem mY:∀xs,(nD xs).length<=xs.length
|[]=>v4 _
|(g,AC p)::xs=>by have:=mY xs;simp only[nD,A33];lia
|(g,At)::xs=>by have:=mY xs;simp only[nD,A33];lia
theorem iY:∀{xs}{y},y∈nD xs↔(y.1,AC y.2)∈xs
|[],y=>by simp[nD]
|(g,AC p)::xs,y=>by
 simp only[nD,A02,iY,C23,A98];constructor
 .rintro(rfl|h)
  .exact .inl ⟨rfl,rfl⟩
  .exact .inr h
 .rintro(⟨h1,h2⟩|h)
  .left;rw[<-h1,<-h2]
  .exact .inr h
|(g,At)::xs,y=>by simp only[nD,A02,iY,C23,reduceCtorEq,and_false,false_or]
theorem pw(h:xs.length<=16777216):cy [.tup (xs.map λ x=>aZ x.1),.tup (xs.map λ x=>cN x.2)]=.ok (.lst<|(nD xs).map qb):=by
 rw[p!];refine aP ?_;simp[h!,bB,O9,h];refine cz KD (λ x=>x.2.isSome) KD ?_ ?_
 .intro x hx;simp;exact λ _=>⟨by decide,rfl⟩
 .rw[ye]
theorem ur{α:Type}(f:α->Bool)(xs:γ α):jJ (.lst<|xs.map λ x=>D.bl<|f x)=.ok (.bl<|xs.all f):=by simp only[jJ,all_map]
theorem Lh(g:G)(p:Pl){xs:γ GP}(h:xs.length<=16777216):dP [aZ g,a! p,.lst (xs.map qb)]=.ok (.bl<|xs.all λ x=>eE g p x.1 x.2):=by
 rw[p_];refine aP ?_;simp[ib,bB,e?,dR,h];refine cz qb (λ _=>Ch) (λ x=>.bl<|eE g p x.1 x.2) ?_ ?_
 .intro x hx;simp[Le]
 .rw[lD,ur];simp
theorem u?(xs:γ α)(h:k<=xs.length):cut xs At (AC<|k)=xs.take k:=by
 have:¬(k:Int)<0:=by lia
 simp[cut,eI,this]
def uC(ss:γ GP)(k:Nat):Bool:=match ss[k]? with
|some x=>(ss.take k).all λ y=>eE x.1 x.2 y.1 y.2
|none=>Ch
def qU(rows:Rows)(ss:γ GP):Bool:=(ss.all λ x=>cW rows x.1 x.2)&&(Ev ss.length).all (uC ss)
theorem JM(H:Hall rows C)(h6:xs.length<=6)(hg:∀x∈xs,GOk x.1):kG [bo rows,.tup (xs.map λ x=>aZ x.1),.tup (xs.map λ x=>cN x.2)]=.ok (.bl<|qU rows<|nD xs):=by
 rw[Ko];refine aP ?_;have NZ:=mY xs;have hl:(nD xs).length<=16777216:=by lia
 have _S:xs.length<=16777216:=by lia
 have hk:∀x∈nD xs,GOk x.1:=λ x hx=>hg _<|iY.mp hx;generalize hss:nD xs=ss at NZ hl hk;simp[zi,bB,line,e?,dR,pw _S,hss,hl];refine cz qb (λ _=>Ch) (λ x=>.bl<|cW rows x.1 x.2) ?_ ?_
 .intro x hx;simp[E! H<|hk x hx]
 .rw [lD,ur];cases e:(ss.all λ x=>cW rows x.1 x.2)with
  |false=>simp[qU,e]
  |true=>
   simp[hl];refine Z.comp_map (λ d=>match d with|.int c=>.bl<|uC ss c.toNat|d=>d) ?_ ?_
   .intro d hd;let⟨j,hj⟩:=A88 hd;let⟨xp,rfl⟩:=ints_get hj;obtain⟨x,ex⟩:∃x,ss[j]?=AC x:=⟨_,A01 xp⟩
    have i1:=(iE (d:=qb x) rfl (by rw[A06,ex];rfl)).2;have i2:aR (qb x) (.int 0)=.ok (aZ x.1):=rfl;have i3:aR (qb x) (.int 1)=.ok (a! x.2):=rfl;have ct:=u? (ss.map qb) (k:=j) (by rw[A05];lia);have af:=Lh x.1 x.2 (xs:=ss.take j) (by rw[A24];lia);rw[C28]at af;rw[Int.zero_add];simp[i1,i2,i3,Pw,ct,af,uC,ex]
   .have:(zints 0 ss.length).map (λ d=>match d with|.int c=>.bl<|uC ss c.toNat|d=>d)=(Ev ss.length).map λ j=>D.bl (uC ss j):=by rw[ints_map,A16];refine B08 λ j _=>?_;simp
    rw[this,ur];simp[qU,e]
theorem C1:qU rows ss=Ch↔(∀x∈ss,cW rows x.1 x.2=Ch)/\ss.Pairwise λ a b=>eE b.1 b.2 a.1 a.2=Ch:=by
 unfold qU;rw[A49,A36,A36,C27];refine and_congr_right λ _=>?_;constructor
 .intro h i j hi hj uG;have:=h j<|A26.mpr hj;rw[uC,A01]at this;rw[A36]at this;exact this ss[i]<|List.mem_iff_getElem.mpr ⟨i,by rw[A24];lia,by rw[wn]⟩
 .intro h k hk;rw[A26]at hk;rw[uC,A01];rw[A36];intro y hy;let⟨i,hi,rfl⟩:=List.mem_iff_getElem.mp hy;rw[A24]at hi;rw[wn];exact h i k ∅ hk ∅
theorem Hj(g:G)(p:Pl)(h:G)(q:Pl):eE g p h q=eE h q g p:=by unfold eE;rw[decide_eq_decide,Int.max_comm];lia
theorem t!:∀{xs},(nD xs).Pairwise R↔xs.Pairwise λ a b=>∀p q,a.2=AC p->b.2=AC q->R (a.1,p) (b.1,q)
|[]=>by simp[nD]
|(g,AC p)::xs=>by
 simp only[nD,nw,t!];refine and_congr_left λ _=>?_;constructor
 .intro h b hb p' q hp hq;cases hp;exact h (b.1,q)<|iY.mpr (by simp only[<-hq];exact hb)
 .intro h y hy;exact h _ (iY.mp hy) p y.2 rfl rfl
|(g,At)::xs=>by simp only[nD,nw,t!];exact⟨λ h=>⟨λ b hb p q hp=>(by cases hp),h⟩,λ h=>h.2⟩
end KG
namespace KH
open Z KG
def lK:SF:=(a6<|eB bG (eB bG (Hz (eW 0) MI<|su<|eW 1)<|dZ<|aa (eV 2) aC)<|Hz (eW 0) (su<|eB bG (eW 1)<|eC<|.int 1) MI)
def cH:γ D->Res D:=fn 3 3 lK
theorem v_(x0 x1 x2:D):cH [x0,x1,x2]=bR (lK [AC (.val x0),AC (.val x1),AC (.val x2)]):=cT _ _ _ _ rfl
def lL:SF:=(a6<|eU g!<|eL<|bU (dS<|eW 0) 1 [1,2] (aW 0) (tE<|aE KG.dP<|aa (eV 1)<|aa (eV 0)<|aa (eV 2) aC)<|eV 0)
def eZ:γ D->Res D:=fn 3 3 lL
theorem wa(x0 x1 x2:D):eZ [x0,x1,x2]=bR (lL [AC (.val x0),AC (.val x1),AC (.val x2)]):=cT _ _ _ _ rfl
def lM:SF:=(aT (oy 2<|cu aC)<|aT (jh (dS<|eV 1) (aW 3)<|aT (d7 2<|eB oMod (eW 0)<|eW 3)<|bc 0<|eB oDiv (eW 0)<|eW 3)<|ub 2<|a6<|eV 2)
def dW:γ D->Res D:=fn 2 4 lM
theorem wg(x0 x1:D):dW [x0,x1]=bR (lM [AC (.val x0),AC (.val x1),At,At]):=cT _ _ _ _ rfl
def o4:SF:=(a6<|eB bG (eB bG (Hz (eW 0) MI<|su<|eW 1)<|dZ<|aa (eV 2) aC)<|Hz (eW 0) (su<|eB bG (eW 1)<|eC<|.int 1) MI)
def mH:γ D->Res D:=fn 3 3 o4
theorem Bg(x0 x1 x2:D):mH [x0,x1,x2]=bR (o4 [AC (.val x0),AC (.val x1),AC (.val x2)]):=cT _ _ _ _ rfl
end KH
namespace KH
open Z KG
def kJ:Int->γ Int->γ Int
|_,[]=>[]
|c,s::ss=>c % s::kJ (c / s) ss
def LM:Int->γ Int->Int
|c,[]=>c
|c,s::ss=>LM (c / s) ss
theorem Bv:∀c a b,kJ c (a++b)=kJ c a++kJ (LM c a) b
|c,[],b=>rfl
|c,s::a,b=>by simp[kJ,LM,Bv _ a b]
theorem Fw:∀c a b,LM c (a++b)=LM (LM c a) b
|c,[],b=>rfl
|c,s::a,b=>by simp[LM,Fw _ a b]
theorem u7:∀c a,(kJ c a).length=a.length
|c,[]=>rfl
|c,s::a=>by simp[kJ,u7 _ a]
def Szs(ss:γ Int):Prop:=ss.length<=100/\∀s∈ss,0<s/\s<=1000000000000000000000000000000000000000000000000000000000000
theorem nh(h:Szs ss)(c:Int):dW [.int c,.lst (ss.map .int)]=.ok (.lst<|(kJ c ss).map .int):=by
 rw[wg];refine aP ?_;simp[lM];refine gg (λ i ρ=>∃x,ρ=[vi (LM c<|ss.take i),v (.lst<|ss.map .int),ow ((kJ c<|ss.take i).map .int),x]) ⟨At,by simp[LM,kJ]⟩ ?_ ?_
 .rintro j d ρ hj ⟨x,rfl⟩;rw[A06]at hj;cases e:ss[j]? with
  |none=>rw[e]at hj;cases hj
  |some s=>
   rw[e]at hj;cases hj;let⟨h1,h2⟩:=h.2 s (A20 e);have hl:(kJ c<|ss.take j).length<16777216:=by rw[u7,A24];have:=h.1;lia
   simp[h1,hl,cj h1 ∅,take_snoc e,Bv,Fw,kJ,LM]
 .rintro ρ ⟨x,rfl⟩;simp
theorem Fd:∀c ss m,(∀s∈ss,0<s/\s<=m)->∀x∈kJ c ss,0<=x/\x<m
|c,[],m,_=>by simp[kJ]
|c,s::ss,m,h=>by
 intro x hx;simp only[kJ,A02]at hx;rcases hx with rfl|hx
 .let⟨h1,h2⟩:=h s A12;have:=B69 c h1;exact⟨B70 _ ∅,by lia⟩
 .exact Fd _ ss m (λ t ht=>h t<|A09 _ ht) x hx
theorem Dx(xs:γ α)(h:(r+1)*c<=xs.length):(cut xs (AC<|(r)*c)<|some<|((r)+1)*c).length=c:=by
 have h1:((r)*c)=((r*c:Nat):Int):=by push_cast;rfl
 have h2:(((r)+1)*c)=(((r+1)*c:Nat):Int):=by push_cast;rfl
 rw[h1,h2];have h3:(r+1)*c=r*c+c:=B25 ..;have n1:¬((r*c:Nat):Int)<0:=by lia
 have n2:¬(((r+1)*c:Nat):Int)<0:=by lia
 have a2:=A73 h;have a1:=A73<|A15 (B20 c<|A59 r) h;simp only[cut,eI,n1,n2,A60,B10,A24,B48,a1,a2];rw[h3,C29];exact A73<|Nat.le_sub_of_add_le (by rw[A92,<-h3];exact h)
theorem OD(f:α->β)(xs:γ α)(l h:ε Int):cut (xs.map f) l h=(cut xs l h).map f:=by simp[cut,C30]
theorem FZ:signs.length=29:=by decide
theorem L_(h:n<=100):Szs (Do n 29):=⟨by simpa using h,λ s hs=>by rw[C53 hs];decide⟩
@[simp] theorem Z0:nF (.int 10) (.int 40)=.ok (.int 10000000000000000000000000000000000000000):=jm 10 40 ∅ ∅
@[simp] theorem Z1:nF (.int 10) (.int 39)=.ok (.int 1000000000000000000000000000000000000000):=jm 10 39 ∅ ∅
def ZT:Nat->Int
|0=>1
|1=>2
|2=>4
|3=>8
|4=>16
|_=>32
theorem OC(row:γ Nat)(h:c+w<=row.length):cut row (AC<|c) (AC<|(c)+w)=(row.drop c).take w:=by
 have n1:¬(c:Int)<0:=by lia
 have n2:¬(c:Int)+w<0:=by lia
 have e:((c:Int)+w).toNat=c+w:=by lia
 simp only[cut,eI,n1,n2,A60,B10,e];rw[A73 h,A73 ∅,C29]
theorem F4(H:Hall rows C){r c w:Nat}(hr:rows[r]?=AC row)(h:c+w<=C):((row.drop c).take w).map AC=(gE w (r)<|c).map (cx rows):=by
 have hl:=H.len row<|A20 hr;apply B71;intro j;simp only[A06,gE,List.getElem?_take,C31];by_cases hj:j<w
 .rw[M2 hj,li hj];have hc:c+j<row.length:=by lia
  rw[A01 hc];simp only[A54,cx];have e1:((c)+(j:Int)).toNat=c+j:=by lia
  rw[M2 ⟨by lia,by lia⟩];simp[hr,e1]
 .rw[W1 hj,B53 (by simp;lia)];rfl
theorem aa0(k:γ Nat)(c:Nat):(!(c == 46)&&(!(c == 61)&& !([c] == k)))= !cD k (AC c):=by
 by_cases h1:c=46
 .simp[cD,h1]
 .by_cases h2:c=61
  .simp[cD,h2]
  .by_cases h3:k=[c]
   .subst h3;simp[cD]
   .have h3':¬[c]=k:=λ h=>h3 h.symm;simp[cD,h1,h2,h3,h3']
def Z3(xs:γ GO)(g:G)(k:Nat)(p:Pl)(j:Nat):Bool:=decide (j=k)||match xs[j]? with
|some (h,AC q)=>eE g p h q
|_=>Ch
def openAt(xs:γ GO)(g:G)(k:Nat)(p:Pl):Bool:=(Ev xs.length).all<|Z3 xs g k p
def fq(rows:Rows)(C:Nat)(xs:γ GO)(g:G)(k:Nat):γ Pl:=(places rows C g).filter<|openAt xs g k
def aO(xs:γ GO):D:=.tup<|xs.map λ x=>aZ x.1
def aF(xs:γ GO):D:=.tup<|xs.map λ x=>cN x.2
theorem Ei{k:Nat}(h:k<ds.length)(d:D):cut ds At (AC<|k)++(d::cut ds (AC<|(k)+1) At)=ds.set k d:=by
 have e1:cut ds At _=ds.take k:=u? ds ∅;have e2:cut ds (AC<|(k)+1) At=ds.drop (k+1):=by
  have:¬(k:Int)+1<0:=by lia
  have h3:((k:Int)+1).toNat=k+1:=by lia
  have h4:min (k+1) ds.length=k+1:=by lia
  simp[cut,eI,this,h4];rw[C15 ∅]
 rw[e1,e2,List.set_eq_take_append_cons_drop,M2 h]
theorem LV(h:k<ds.length)(hl:ds.length<=1000)(d:D):mH [.tup ds,.int (k:Nat),d]=.ok (.tup<|ds.set k d):=by
 rw[Bg];refine aP ?_;have c1:=lI ds At<|some<|k;have c2:=lI ds (AC<|(k)+1) At;have g1:(cut ds At<|some<|k).length+1<=16777216:=by lia
 have g2:(cut ds At<|some<|k).length+1+(cut ds (AC<|(k)+1) At).length<=16777216:=by lia
 simp[o4,line,g1,g2,Ei h]
theorem vF(h:k<ds.length)(hl:ds.length<=1000)(d:D):cH [.tup ds,.int (k:Nat),d]=.ok (.tup<|ds.set k d):=by
 rw[v_];refine aP ?_;have c1:=lI ds At<|some<|k;have c2:=lI ds (AC<|(k)+1) At;have g1:(cut ds At<|some<|k).length+1<=16777216:=by lia
 have g2:(cut ds At<|some<|k).length+1+(cut ds (AC<|(k)+1) At).length<=16777216:=by lia
 simp[lK,line,g1,g2,Ei h]
theorem G5(xs:γ GO)(k:Nat)(g:G)(o:ε Pl):aF (xs.set k (g,o))=.tup ((xs.map λ x=>cN x.2).set k<|cN o):=by simp[aF]
theorem xA(h:xs[k]?=AC x)(o:ε Pl):aO (xs.set k (x.1,o))=aO xs:=by
 have hk:=(A08.mp h).1;have e:x=xs[k]:=by rw[A01]at h;exact(A04 h).symm
 unfold aO;rw[C32]
 congr 1
 subst e;apply AA3 ∅;intro i h1 h2;rw[AA5];split
 .rename_i e;subst e;simp
 .rfl
def Good(rows:Rows)(xs:γ GO):Prop:=∀(i:Nat)(g:G)(p:Pl),xs[i]?=AC (g,AC p)->cW rows g p=Ch/\∀(j:Nat)(h:G)(q:Pl),xs[j]?=AC (h,AC q)->j≠i->eE g p h q=Ch
theorem oA:openAt xs g k p=Ch↔∀(j:Nat) h q,xs[j]?=AC (h,AC q)->j≠k->eE g p h q=Ch:=by
 unfold openAt;rw[A36];constructor
 .intro h j hh q e hj;have hl:=(A08.mp e).1;have:=h j<|A26.mpr hl;simpa[Z3,e,hj]using this
 .intro h j hj;unfold Z3;by_cases hk:j=k
  .simp[hk]
  .cases e:xs[j]? with
   |none=>simp
   |some y=>
    let⟨hh,o⟩:=y;cases o with
    |none=>simp
    |some q=>simp[h j hh q e hk]
theorem Good.put(h:Good rows xs)(hk:xs[k]?=AC x)(hf:cW rows x.1 p=Ch)(ho:openAt xs x.1 k p=Ch):Good rows (xs.set k (x.1,AC p)):=by
 rw[oA]at ho;have hl:=(A08.mp hk).1;intro i g q e;rw[A56]at e;by_cases hi:k=i
 .subst hi;rw[M2 rfl,M2 hl]at e;cases e;refine⟨hf,λ j hh r ej hj=>?_⟩;rw[A56,W1 λ z=>hj z.symm]at ej;exact ho j hh r ej hj
 .rw[W1 hi]at e;let⟨h1,h2⟩:=h i g q e;refine⟨h1,λ j hh r ej hj=>?_⟩;rw[A56]at ej;by_cases xp:k=j
  .subst xp;rw[M2 rfl,M2 hl]at ej;cases ej;rw[Hj];exact ho i g q e λ z=>hi z.symm
  .rw[W1 xp]at ej;exact h2 j hh r ej hj
theorem Good.sub{xs ys:γ GO}(h:Good rows xs)(hs:∀(i:Nat) g p,ys[i]?=AC (g,AC p)->xs[i]?=AC (g,AC p)):Good rows ys:=by intro i g p e;let⟨h1,h2⟩:=h i g p (hs i g p e);exact⟨h1,λ j hh q ej hj=>h2 j hh q (hs j hh q ej) hj⟩
theorem Good.keeps(h:Good rows xs):qU rows (nD xs)=Ch:=by
 rw[C1];constructor
 .intro y hy;let⟨i,hi⟩:=A88 (iY.mp hy);exact(h i y.1 y.2 hi).1
 .rw[t!,C27];intro i j hi hj uG p q ep eq;have e1:xs[i]?=AC (xs[i].1,AC p):=by rw[A01,<-ep]
  have e2:xs[j]?=AC (xs[j].1,AC q):=by rw[A01,<-eq]
  exact(h j _ q e2).2 i _ p e1 ∅
theorem nR(ps:γ Pl)(g:G){ss:γ GP}(hp:ps.length<=10000)(hs:ss.length<=6):eZ [.tup (ps.map a!),aZ g,.lst (ss.map qb)]=.ok (.tup<|(ps.filter λ p=>ss.all λ x=>eE g p x.1 x.2).map a!):=by
 rw[wa];refine aP ?_;have hp':ps.length<=16777216:=by lia
 simp[lL,bB,e?,dR,hp'];refine cz a! (λ p=>ss.all λ x=>eE g p x.1 x.2) a! ?_ ?_
 .intro p hp;simp[Lh g p (xs:=ss) ∅]
 .rfl
theorem Ac(hk:xs[k]?=AC x)(p:Pl):((nD<|xs.set k (x.1,At)).all λ y=>eE g p y.1 y.2)=openAt xs g k p:=by
 rw[A53,oA,A36];have hl:=(A08.mp hk).1;constructor
 .intro h j hh q e hj;have hm:(hh,AC q)∈xs.set k (x.1,At):=by refine A20 (i:=j) ?_;rw[A56,W1 λ z=>hj z.symm];exact e
  exact h (hh,q)<|iY.mpr hm
 .intro h y hy;let⟨j,e⟩:=A88 (iY.mp hy);rw[A56]at e;by_cases hj:k=j
  .rw[M2 hj]at e;subst hj;rw[M2 hl]at e;exact nomatch A11 Prod.snd (A04 e)
  .rw[W1 hj]at e;exact h j y.1 y.2 e λ z=>hj z.symm
theorem nV(h:p∈places rows C g):cW rows g p=Ch:=(A66.mp h).2
end KH
namespace KB
open Z KG KH
def oX:SF:=(a6<|eB bG (eB aR (eW 0)<|eC<|.int 6)<|eU Jb<|eL<|bU (dS<|eB aR (eW 0)<|eC<|.int 7) 1 [1] (aW 0) (tE<|eB oEq (eB aR (eW 0)<|eC<|.int 0)<|eW 1)<|eB aR (eW 0)<|eC<|.int 1)
def jW:γ D->Res D:=fn 2 2 oX
theorem Bb(x0 x1:D):jW [x0,x1]=bR (oX [AC (.val x0),AC (.val x1)]):=cT _ _ _ _ rfl
def oW:SF:=(a6<|eU Jb<|eL<|bU (dS<|aE KG.cy<|aa (eV 0)<|aa (eV 1) aC) 2 [] (jt [0,1]) cb<|aE jW<|aa (eV 0)<|aa (eB aR (eW 1)<|eC<|.int 0) aC)
def eK:γ D->Res D:=fn 2 2 oW
theorem Ba(x0 x1:D):eK [x0,x1]=bR (oW [AC (.val x0),AC (.val x1)]):=cT _ _ _ _ rfl
def jB:SF:=(aT (bc 3<|YR (tE<|eU kz<|eW 2) (eB EB (dZ<|aa (eC .non) aC)<|eU cL<|eW 1)<|eV 2)<|aT (gZ (gb<|tE<|aE KG.kG<|aa (eV 0)<|aa (eV 1)<|aa (eV 3) aC) mn bA)<|a6<|eV 3)
def bI:γ D->Res D:=fn 3 4 jB
theorem sL(x0 x1 x2:D):bI [x0,x1,x2]=bR (jB [AC (.val x0),AC (.val x1),AC (.val x2),At]):=cT _ _ _ _ rfl
def DQ:SF:=(aT (bc 3<|eC<|.int 1)<|aT (jh (NS (eV 1)<|aE bI<|aa (eV 0)<|aa (eV 1)<|aa (eV 2) aC) (jt [4,5])<|gZ (tE<|eU kz<|eW 5) (bc 3<|eB fT (eV 3)<|eB bG (eU cL<|aE KG.fN<|aa (eV 0)<|aa (eV 4) aC)<|eC<|.int 1) bA)<|a6<|eV 3)
def jX:γ D->Res D:=fn 3 6 DQ
theorem N_(x0 x1 x2:D):jX [x0,x1,x2]=bR (DQ [AC (.val x0),AC (.val x1),AC (.val x2),At,At,At]):=cT _ _ _ _ rfl
def j!:SF:=(aT (bc 3<|aE jX<|aa (eV 0)<|aa (eV 1)<|aa (eV 2) aC)<|aT (gZ (tE<|eB ED (eW 3)<|eC<|.int 2000) mn bA)<|a6<|aE bI<|aa (eV 0)<|aa (eV 1)<|aa (eV 2) aC)
def eA:γ D->Res D:=fn 3 4 j!
theorem uR(x0 x1 x2:D):eA [x0,x1,x2]=bR (j! [AC (.val x0),AC (.val x1),AC (.val x2),At]):=cT _ _ _ _ rfl
def iR:SF:=(aT (bc 5<|aE KG.fN<|aa (eV 0)<|aa (eB aR (eW 1)<|eW 3) aC)<|aT (oy 6<|cu aC)<|aT (jh (dS<|eV 2) (aW 7)<|aT (bc 8<|aE KG.cy<|aa (eV 1)<|aa (eV 7) aC)<|aT (F2 6<|bU (dS<|aE KH.eZ<|aa (eV 5)<|aa (eB aR (eW 1)<|eW 3)<|aa (eV 8) aC) 1 [7,3] (aW 0) cb<|aE KH.cH<|aa (eV 1)<|aa (eV 2)<|aa (eV 0) aC)<|gZ (tE<|eV 4) (d7 6<|eV 7) bA)<|ub 6<|a6<|eV 6)
def fM:γ D->Res D:=fn 5 9 iR
theorem q?(x0 x1 x2 x3 x4:D):fM [x0,x1,x2,x3,x4]=bR (iR [AC (.val x0),AC (.val x1),AC (.val x2),AC (.val x3),AC (.val x4),At,At,At,At]):=cT _ _ _ _ rfl
def iS:SF:=(aT (bc 4<|eL<|cu<|aa (eV 2) aC)<|aT (jh (fW<|eU cL<|eW 1) (aW 5)<|gZ (tE<|eU kz<|eB aR (eW 2)<|eW 5) (bc 4<|aE fM<|aa (eV 0)<|aa (eV 1)<|aa (eV 4)<|aa (eV 5)<|aa (eV 3) aC) bA)<|a6<|eV 4)
def eD:γ D->Res D:=fn 4 6 iS
theorem q_(x0 x1 x2 x3:D):eD [x0,x1,x2,x3]=bR (iS [AC (.val x0),AC (.val x1),AC (.val x2),AC (.val x3),At,At]):=cT _ _ _ _ rfl
def gO:SF:=(a6<|yZ Ch (.ok .non) (eW 1) [0]<|aE eK<|aa (eV 1)<|aa (eV 0) aC)
def fY:γ D->Res D:=fn 2 2 gO
theorem n6(x0 x1:D):fY [x0,x1]=bR (gO [AC (.val x0),AC (.val x1)]):=cT _ _ _ _ rfl
def iD:SF:=(aT (bc 3<|aE eA<|aa (eV 0)<|aa (eV 1)<|aa (eV 2) aC)<|a6<|aE fY<|aa (eV 1)<|aa (aE eD<|aa (eV 0)<|aa (eV 1)<|aa (eV 3)<|aa (eC<|.bl AT) aC) aC)
def bS:γ D->Res D:=fn 3 4 iD
theorem mJ(x0 x1 x2:D):bS [x0,x1,x2]=bR (iD [AC (.val x0),AC (.val x1),AC (.val x2),At]):=cT _ _ _ _ rfl
end KB
namespace KB
open Z KG
open KH
theorem F?(H:Hall rows C)(xs:γ GO)(g:G)(k:Nat):(fq rows C xs g k).length<=10000:=A15 (A70 _ _)<|places_len H g
theorem JN(H:Hall rows C)(h6:xs.length<=6)(hg:∀x∈xs,GOk x.1)(hk:Good rows xs):KG.kG [bo rows,aO xs,aF xs]=.ok (.bl Ch):=by have:=JM H h6 hg;rw[hk.keeps]at this;exact this
theorem xx(H:Hall rows C)(h6:xs.length<=6)(hg:∀x∈xs,GOk x.1)(hk:Good rows xs):bI [bo rows,aO xs,aF xs]=.ok (aF xs):=by rw[sL];refine aP ?_;have hN:kz (aF xs)=.ok _:=rfl;simp[jB,hN,JN H h6 hg hk]
def wtD:D->Int
|.int w=>w
|_=>0
def ZV:D->Pl
|.tup [.int a,.int b]=>(a,b)
|_=>(0,0)
def wsD:D->γ Pl
|.tup ds=>ds.map ZV
|_=>[]
def more(ws:γ Pl)(row:Int):Int:=((ws.filter λ p=>decide<|p.1=row).map (·.2)).sum
def Qd(g:G)(row:Int):Int:=wtD g.worth+more (wsD g.tH) row
def wO(x:GO):Int:=match x.2 with
|none=>0
|some p=>Qd x.1 p.1
theorem LU(ws:γ Pl):wsD (.tup<|ws.map a!)=ws:=by show(ws.map a!).map ZV=ws;rw[A16];have:(ZV∘a!)=id:=funext λ p=>rfl;rw[this,List.map_id]
theorem Pm(ns:γ Int):Jb (.lst<|ns.map D.int)=.ok (.int ns.sum):=by show(match z8 _ with|some i=>Res.ok _|none=>.bad)=_;rw[wM]
theorem zJ(h:gW g)(row:Int):jW [aZ g,.int row]=.ok (.int<|Qd g row):=by
 let⟨wt,ws,hl,e1,e2⟩:=h.wsh;rw[Bb];refine aP ?_;have N0:ws.length<=16777216:=by lia
 have e3:Qd g row=wt+more ws row:=by unfold Qd;rw[e1,e2,LU];rfl
 rw[e3];simp[oX,bB,e?,dR,e1,e2,N0];refine cz a! (λ p=>decide<|p.1=row) (λ p=>.int p.2) (λ p _=>?_) ?_
 .simp;rfl
 .rw[show(ws.filter λ p=>decide _).map (λ p=>D.int p.2)=((ws.filter λ p=>decide _).map _).map D.int from by rw[A16];rfl,Pm];simp[more]
theorem x_:∀xs,((nD xs).map λ y=>Qd y.1 y.2.1).sum=(xs.map wO).sum
|[]=>rfl
|(g,At)::xs=>by simp[nD,wO,x_ xs]
|(g,AC p)::xs=>by simp[nD,wO,x_ xs]
theorem zI{xs:γ GO}(h:xs.length<=6)(hg:∀x∈xs,gW x.1):eK [.tup (xs.map λ x=>aZ x.1),.tup (xs.map λ x=>cN x.2)]=.ok (.int (xs.map wO).sum):=by
 rw[Ba];refine aP ?_;have et:=pw (xs:=xs) ∅;have GN:=mY xs;have C9:(nD xs).length<=16777216:=by lia
 simp[oW,et,bB,C9];refine cz qb (λ _=>Ch) (λ y=>.int<|Qd y.1 y.2.1) (λ y hy=>?_) ?_
 .have:=zJ (hg _<|iY.mp hy) y.2.1;have gX:∀ρ,jt [0,1] (qb y) ρ=.ok _:=λ ρ=>rfl;simp[this]
 .rw[lD,show(nD xs).map (λ y=>D.int _)=((nD xs).map λ y=>Qd y.1 y.2.1).map D.int from by rw[A16];rfl,Pm,x_];simp
theorem Mm{xs:γ GO}:(xs.set k x).length=xs.length:=AB7
theorem o?{xs:γ GO}(h6:xs.length<=6){k:Nat}(hk:xs[k]?=AC (g,o))(p:Pl):KH.cH [aF xs,.int (k),a! p]=.ok (aF<|xs.set k (g,AC p))/\KH.mH [aF xs,.int (k),a! p]=.ok (aF<|xs.set k (g,AC p)):=by have hl:=(A08.mp hk).1;have h1:=vF (ds:=xs.map λ x=>cN x.2) (k:=k) (by simp;lia) (by simp;lia)<|a! p;have h2:=LV (ds:=xs.map λ x=>cN x.2) (k:=k) (by simp;lia) (by simp;lia)<|a! p;rw[G5];exact⟨h1,h2⟩
theorem Ik{C:Nat}(hr:∀x∈rows,x.length=C)(h:cx rows s=AC c):0<=s.1/\s.1<rows.length/\0<=s.2/\s.2<C:=by
 unfold cx at h;split at h
 .rename_i z;cases e:rows[s.1.toNat]? with
  |none=>rw[e]at h;cases h
  |some r=>rw[e]at h;have h:=h;have h1:=(A08.mp h).1;have h2:=(A08.mp e).1;have hl:=hr r<|A20 e;lia
 .cases h
theorem UC(k:GOk g)(p:Pl):p∈seats g p:=by have hw:=k.w1;have hd:=k.d1;unfold seats iL gE;simp only[B19,A26,A03];exact⟨0,by lia,0,by lia,by simp⟩
theorem Kl(H:Hall rows C)(k:GOk g)(h:cW rows g p=Ch):p∈places rows C g:=by
 refine A66.mpr ⟨Gx.mpr ?_,h⟩;unfold cW at h;rw[A49,A36]at h;have:=h.1 p<|UC k p;cases e:cx rows p with
 |none=>rw[e]at this;cases this
 |some c=>exact Ik H.len e
structure Ext(cs hs:List GO):Prop where
 gs:cs.map (·.1)=hs.map (·.1)
 sub:∀(i:Nat)(g:G)(p:Pl),cs[i]?=AC (g,AC p)->hs[i]?=AC (g,AC p)
theorem Ext.len(e:Ext cs hs):cs.length=hs.length:=by have:=A11 List.length e.gs;rwa [A05,A05]at this
theorem Ext.at(e:Ext cs hs){k:Nat}(h:cs[k]?=AC (g,o)):∃o',hs[k]?=AC (g,o')/\(∀p,o=AC p->o'=AC p):=by
 have hl:=(A08.mp h).1;rw[e.len]at hl;obtain⟨⟨g',o'⟩,e'⟩:∃x,hs[k]?=AC x:=⟨_,A01 hl⟩
 have z:=A11 (λ l=>l[k]?) e.gs;simp only[A06,h,e',A54,A98]at z;subst z;refine⟨o',e',λ p hp=>?_⟩;subst hp;have:=e.sub k g p h;rw[e']at this;exact(Prod.mk.inj<|A04 this).2
theorem zip_map{α:Type}(f h:α->D):∀xs:γ α,l! (xs.map f) (xs.map h)=xs.map λ x=>.tup [f x,h x]
|[]=>rfl
|x::xs=>by simp[l!,zip_map f h xs];rfl
open KH
def cB:γ Nat->Nat
|[]=>1
|n::r=>n*cB r
theorem k8:∀a b,cB (a++b)=cB a*cB b
|[],b=>by simp[cB]
|n::a,b=>by simp[cB,k8 a b,Nat.mul_assoc]
theorem wX:∀{l},(∀n∈l,0<n)->0<cB l
|[],_=>Nat.one_pos
|n::l,h=>Nat.mul_pos (h n A12)<|wX λ m hm=>h m<|A09 _ hm
def fL(rows:Rows)(C:Nat)(x:GO):Nat:=match x.2 with
|none=>(places rows C x.1).length+1
|some _=>1
theorem tJ(rows:Rows)(C:Nat)(x:GO):0<fL rows C x:=by unfold fL;split<;>lia
def cq(rows:Rows)(C:Nat)(xs:γ GO):Nat:=cB<|xs.map<|fL rows C
theorem HI(xs:γ GO):0<cB (xs.map<|fL rows C):=wX λ n hn=>by let⟨x,_,rfl⟩:=A03.mp hn;exact tJ rows C x
theorem FH(xs:γ GO)(j:Nat):cB ((xs.take j).map<|fL rows C)<=cq rows C xs:=by
 unfold cq;have e:xs.map (fL rows C)=(xs.take j).map (fL rows C)++(xs.drop j).map (fL rows C):=by rw[<-A39,C54]
 rw[e,k8];exact Nat.le_mul_of_pos_right _<|HI _
theorem qz{xs:γ GO}(h:xs[j]?=AC x):cB ((xs.take<|j+1).map<|fL rows C)=cB ((xs.take j).map<|fL rows C)*fL rows C x:=by rw[take_snoc h,A39,k8];simp[cB]
theorem D6(H:Hall rows C)(h6:xs.length<=6)(hg:∀x∈xs,GOk x.1)(ef:bI [bo rows,aO xs,fd]=.ok (aF xs)):jX [bo rows,aO xs,fd]=.ok (.int<|cq rows C xs):=by
 rw[N_];refine aP ?_;simp[DQ,ef];unfold aO aF at *;simp[zip_map];refine gg (λ i ρ=>∃x4 x5,ρ=[v _,v _,v fd,vi (cB<|(xs.take i).map<|fL rows C),x4,x5]) ⟨At,At,rfl⟩ ?_ ?_
 .rintro j d ρ hj ⟨x4,x5,rfl⟩;rw[A06]at hj;let⟨⟨g,o⟩,hx,rfl⟩:=B51.mp hj;have gX:∀ρ,jt [4,5] (.tup [aZ g,cN o]) ρ=.ok _:=λ ρ=>rfl;rw[qz hx];generalize cB _=m;cases o with
  |some p=>have en:kz (a! p)=.ok _:=rfl;simp[gX,cN,en,fL]
  |none=>have pl:=places_of_ok H<|hg _<|A20 hx;have fU:=places_len H g;rw[show fL rows C (g,At)=(places rows C g).length+1 from rfl];generalize places rows C g=ps at pl fU ⊢;have q1:b_ (m) ((ps.length)+1):=pc<|Or.inl ⟨by lia,by lia⟩;simp[gX,cN,pl,q1]
 .rintro ρ ⟨x4,x5,rfl⟩;rw[A05,B60];simp[cq]
theorem Ab(H:Hall rows C)(h6:xs.length<=6)(hg:∀x∈xs,GOk x.1)(ef:bI [bo rows,aO xs,fd]=.ok (aF xs))(hw:cq rows C xs<=2000):eA [bo rows,aO xs,fd]=.ok (aF xs):=by
 have ew:=D6 H h6 hg ef;rw[uR];refine aP ?_;have:¬(2000:Int)<(cq rows C xs):=by lia
 simp[j!,ew,ef,this]
def mh(rows:Rows)(C:Nat)(sm:Bool)(g:G)(k:Nat)(cs:γ GO):γ (γ GO):=(fq rows C cs g k).map (λ p=>cs.set k (g,AC p))++if sm then[cs]else[]
theorem z?:(mh rows C sm g k cs).length<=(places rows C g).length+1:=by have:=A70 (openAt cs g k)<|places rows C g;unfold mh fq;cases sm<;>simp<;>lia
theorem uP{α β:Type}{f:α->γ β}:∀{L:γ α},(∀x∈L,(f x).length<=m)->(L.flatMap f).length<=L.length*m
|[],_=>by simp
|x::L,h=>by have:=uP λ y hy=>h y<|A09 _ hy;have hx:=h x A12;rw[List.flatMap_cons,A30,A33,Nat.add_mul,Nat.one_mul];lia
theorem J!(h:cs.map (·.1)=xs.map (·.1)):aO cs=aO xs:=by have:=A11 (List.map aZ) h;rw[A16,A16]at this;exact A11 D.tup this
theorem F!(H:Hall rows C){cs:γ GO}(h6:cs.length<=6){k:Nat}(hk:cs[k]?=AC (g,At)):KH.eZ [.tup ((places rows C g).map a!),aZ g,.lst ((nD cs).map qb)]=.ok (.tup<|(fq rows C cs g k).map a!):=by
 have hl:=(A08.mp hk).1;have GN:=mY cs;have ho:=nR _ g (ss:=nD cs) (places_len H g) ∅;have RN:cs.set k (g,At)=cs:=by have:=(A08.mp hk).2;rw[<-this];exact C55 hl
 have he:(places rows C g).filter (λ p=>(nD cs).all λ x=>eE g p x.1 x.2)=fq rows C cs g k:=by refine wT λ p _=>?_;have:=Ac (g:=g) hk p;simp only at this;rw[RN]at this;exact this
 rw[he]at ho;exact ho
theorem Ap(H:Hall rows C){xs:γ GO}(h6:xs.length<=6)(hg:∀x∈xs,GOk x.1){k:Nat}{g:G}(hk:xs[k]?=AC (g,At))(sm:Bool){L:γ (γ GO)}(hL:∀cs∈L,cs.map (·.1)=xs.map (·.1)/\cs[k]?=AC (g,At))(hB:L.length*((places rows C g).length+1)<=1000000):
 fM [bo rows,aO xs,.lst (L.map aF),.int (k:Nat),.bl sm]=.ok (.lst<|(L.flatMap<|mh rows C sm g k).map aF):=by
 rw[q?];refine aP ?_;have ixg:aR (aO xs) (.int (k:Nat))=.ok (aZ g):=(iE (xs:=xs.map λ y:GO=>aZ y.1) (i:=k) (j:=k) rfl (by rw[A06,hk];rfl)).1;have pl:=places_of_ok H<|hg _<|A20 hk;simp[iR,ixg,pl,line];refine gg (λ i ρ=>∃x7 x8,ρ=[v (bo rows),v (aO xs),v (.lst<|L.map aF),vi (k:Nat),v (.bl sm),v (.tup<|(places rows C g).map a!),ow (((L.take i).flatMap<|mh rows C sm g k).map aF),x7,x8]) ⟨At,At,by simp⟩ ?_ ?_
 .rintro i d ρ hi ⟨x7,x8,rfl⟩;rw[A06]at hi;let⟨cs,E3,rfl⟩:=B51.mp hi;let⟨e1,e2⟩:=hL cs (A20 E3);have kN:cs.length<=6:=by have:=A11 List.length e1;rw[A05,A05]at this;lia
  have ht:=pw (xs:=cs) ∅;rw[show D.tup (cs.map λ x=>aZ x.1)=aO cs from rfl,show D.tup (cs.map λ x=>cN x.2)=aF cs from rfl,J! e1]at ht;have ho:=F! H kN e2;have A3:i<L.length:=(A08.mp E3).1;have LG:((L.take i).flatMap<|mh rows C sm g k).length<=(L.take i).length*((places rows C g).length+1):=uP λ x _=>z?;rw[A24,A73<|A78 A3]at LG;have ae5:i*((places rows C g).length+1)+((places rows C g).length+1)<=L.length*((places rows C g).length+1):=by rw[<-B25];exact B20 _ A3
  rw[take_snoc E3,List.flatMap_append];generalize (L.take i).flatMap (mh rows C sm g k)=fs at LG;have _K:=A70 (openAt cs g k)<|places rows C g;have RT:(fq rows C cs g k).length<=(places rows C g).length:=_K;have Hv:(fq rows C cs g k).length<=16777216:=by lia
  have ho3:fs.length+(fq rows C cs g k).length<=16777216:=by lia
  have ho4:fs.length+(fq rows C cs g k).length<16777216:=by lia
  simp[ht,ixg,ho,bB,e?,dR,line,Hv];refine cz a! (λ _=>Ch) (λ p=>aF<|cs.set k (g,AC p)) (λ p hp=>?_) ?_
  .simp[(o? kN e2 p).1]
  .rw[lD];cases sm with
   |true=>simp[line,ho3,ho4,mh]
   |false=>simp[line,ho3,mh]
 .rintro ρ ⟨x7,x8,rfl⟩;rw[A05,B60];simp
open KH
def d?(rows:Rows)(C:Nat)(sm:Bool)(xs:γ GO):Nat->γ (γ GO)
|0=>[xs]
|j+1=>match xs[j]? with
 |some (g,At)=>(d? rows C sm xs j).flatMap<|mh rows C sm g j
 |_=>d? rows C sm xs j
section
variable{rows:Rows}{C:Nat}{sm:Bool}{xs:γ GO}
theorem kZ{j:Nat}(h:xs[j]?=AC (g,At)):d? rows C sm xs (j+1)=(d? rows C sm xs j).flatMap (mh rows C sm g j):=by simp only[d?,h]
theorem kY{j:Nat}(h:xs[j]?=AC (g,AC p)):d? rows C sm xs (j+1)=d? rows C sm xs j:=by simp only[d?,h]
theorem wU:∀{j},j<=xs.length->(d? rows C sm xs j).length<=cB ((xs.take j).map<|fL rows C)
|0,_=>by simp[d?,cB]
|j+1,hj=>by
 have ih:=wU (j:=j) ∅;obtain⟨⟨g,o⟩,e⟩:∃x,xs[j]?=AC x:=⟨_,A01 ∅⟩
 rw[qz e];cases o with
 |some p=>rw[kY e,show fL rows C (g,AC p)=1 from rfl,Nat.mul_one];exact ih
 |none=>rw[kZ e];exact A15 (uP λ x _=>z?)<|B20 _ ih
structure Fx(rows:Rows)(sm:Bool)(xs:List GO)(j:Nat)(z:List GO):Prop where
 gs:z.map (·.1)=xs.map (·.1)
 rest:∀i:Nat,j<=i->z[i]?=xs[i]?
 ext:Ext xs z
 good:Good rows z
 full:sm=AT->∀(i:Nat)(g:G),i<j->z[i]?≠AC (g,At)
theorem Mc{j:Nat}(e:xs[j]?=AC (g,At))(h:Fx rows sm xs j z)(hy:y∈mh rows C sm g j z):Fx rows sm xs (j+1) y:=by
 have hz:=(h.rest j<|v4 _).trans e;have hl:=(A08.mp hz).1;rcases A41.mp hy with hy|hy
 .let⟨p,hp,rfl⟩:=A03.mp hy;let⟨h1,h2⟩:=A66.mp hp;have gs:(z.set j (g,AC p)).map (·.1)=xs.map (·.1):=by
   rw[<-h.gs];refine B71 λ i=>?_;rw[A06,A06,A56];split
   .rename_i ei;subst ei;rw[hz];rfl
   .rfl
  refine⟨gs,λ i hi=>?_,⟨gs.symm,λ i g' q ei=>?_⟩,h.good.put hz (KH.nV h1) h2,λ hs i g' hi=>?_⟩
  .rw[A56,W1 ∅];exact h.rest i ∅
  .have:=h.ext.sub i g' q ei;rw[A56];split
   .rename_i ej;subst ej;rw[hz]at this;cases this
   .exact this
  .rw[A56];split
   .rename_i ej;subst ej;intro q;cases q
   .exact h.full hs i g' ∅
 .cases sm with
  |false=>simp at hy
  |true=>
   have:y=z:=by simpa using hy
   subst this;exact⟨h.gs,λ i hi=>h.rest i ∅,h.ext,h.good,λ hs=>nomatch hs⟩
theorem yf(hk:Good rows xs):∀{j},j<=xs.length->∀z∈d? rows C sm xs j,Fx rows sm xs j z
|0,_,z,hz=>by
 have:z=xs:=by simpa[d?]using hz
 subst this;exact⟨rfl,λ _ _=>rfl,⟨rfl,λ _ _ _ e=>e⟩,hk,λ _ i g hi=>absurd hi<|Nat.not_lt_zero _⟩
|j+1,hj,z,hz=>by
 obtain⟨⟨g,o⟩,e⟩:∃x,xs[j]?=AC x:=⟨_,A01 ∅⟩
 have ih:=yf hk (j:=j) ∅;cases o with
 |some p=>
  rw[kY e]at hz;have h:=ih z hz;refine⟨h.gs,λ i hi=>h.rest i ∅,h.ext,h.good,λ hs i g' hi=>?_⟩;by_cases uG:i=j
  .subst uG;rw[h.rest i<|v4 _,e];intro q;cases q
  .exact h.full hs i g' ∅
 |none=>rw[kZ e]at hz;let⟨y,hy,hzy⟩:=B19.mp hz;exact Mc e (ih y hy) hzy
theorem Af(H:Hall rows C)(hg:∀x∈xs,GOk x.1)(e:Ext xs z)(hz:Good rows z)(hs:sm=Ch\/∀(i:Nat) g,z[i]?≠AC (g,At)):∀{j},j<=xs.length->z.take j++xs.drop j∈d? rows C sm xs j
|0,_=>by simp[d?]
|j+1,hj=>by
 have ih:=Af H hg e hz hs (j:=j) ∅;have _t:=e.len;obtain⟨⟨g,o⟩,ex⟩:∃x,xs[j]?=AC x:=⟨_,A01 ∅⟩
 let⟨o',ez,ho⟩:=e.at ex;have hjl:j<xs.length:=by lia
 have hjz:j<z.length:=by lia
 have d1:xs.drop j=(g,o)::xs.drop (j+1):=by rw[A84 hjl];rw[A01 hjl]at ex;rw[A04 ex]
 have t1:=take_snoc ez;have tl:(z.take j).length=j:=by rw[A24];lia
 cases o with
 |some p=>rw[ho p rfl]at t1;rw[kY ex,t1,B06];rw[d1]at ih;exact ih
 |none=>
  rw[kZ ex];refine B19.mpr ⟨_,ih,?_⟩;rw[d1];cases o' with
  |none=>
   rcases hs with rfl|hs
   .refine A43 _ ?_;rw[t1,B06];simp
   .exact absurd ez<|hs j g
  |some p=>
   refine A79 _<|A03.mpr ⟨p,?_,?_⟩
   .let⟨f,ap⟩:=hz j g p ez;refine A66.mpr ⟨Kl H (hg _<|A20 ex) f,oA.mpr λ i g' q ei ne=>?_⟩;rw[<-d1]at ei;refine ap i g' q ?_ ne;by_cases hi:i<j
    .rw[A34 (by rw[tl];exact hi),C38 hi]at ei;exact ei
    .rw[A48 (by rw[tl];lia),C31,tl,show j+(i-j)=i by lia]at ei;exact e.sub i g' q ei
   .rw[t1,B06,List.set_append_right _ _ (by rw[tl];exact v4 _),tl,Nat.sub_self];rfl
theorem t_(H:Hall rows C)(hg:∀x∈xs,GOk x.1)(e:Ext xs z)(hz:Good rows z)(hs:sm=Ch\/∀(i:Nat) g,z[i]?≠AC (g,At)):z∈d? rows C sm xs xs.length:=by have:=Af H hg e hz hs<|v4 _;rw[B54,A51,e.len,B60]at this;rw[e.len];exact this
theorem E8(H:Hall rows C)(h6:xs.length<=6)(hg:∀x∈xs,GOk x.1)(hk:Good rows xs)(hw:cq rows C xs<=2000):eD [bo rows,aO xs,aF xs,.bl sm]=.ok (.lst<|(d? rows C sm xs xs.length).map aF):=by
 rw[q_];refine aP ?_;have hl:cL (aO xs)=.ok (.int xs.length):=by simp[aO]
 simp[iS,hl,line];refine gg (λ i ρ=>∃x5,ρ=[v (bo rows),v (aO xs),v (aF xs),v (.bl sm),v (.lst<|(d? rows C sm xs i).map aF),x5]) ⟨At,rfl⟩ ?_ ?_
 .rintro j d ρ hj ⟨x5,rfl⟩;let⟨xp,rfl⟩:=ints_get hj;obtain⟨⟨g,o⟩,e⟩:∃x,xs[j]?=AC x:=⟨_,A01 xp⟩
  have ix:aR (aF xs) (.int<|j)=.ok (cN o):=(iE rfl (by rw[A06,e];rfl)).1;cases o with
  |some p=>have en:kz (a! p)=.ok (.bl AT):=rfl;rw[kY e];simp[ix,cN,en]
  |none=>
   have hi:=yf (C:=C) (sm:=sm) hk (j:=j) ∅;have ψ:=wU (rows:=rows) (C:=C) (sm:=sm) (xs:=xs) (j:=j) ∅;have h1:=FH (rows:=rows) (C:=C) xs<|j+1;rw[qz e,show fL rows C (g,At)=(places rows C g).length+1 from rfl]at h1;have hB:(d? rows C sm xs j).length*((places rows C g).length+1)<=1000000:=by have:=B20 ((places rows C g).length+1) ψ;lia
   have om:=Ap H h6 hg e sm (L:=d? rows C sm xs j) (λ cs E3=>⟨(hi cs E3).gs,((hi cs E3).rest j<|v4 _).trans e⟩) hB;rw[kZ e];simp[ix,cN,om]
 .rintro ρ ⟨x5,rfl⟩;rw[gG];simp
def lS{α:Type}(mx:Bool)(w:α->Int)(b:α):γ α->α
|[]=>b
|x::r=>if TZ mx (w x) (w b)=Ch then lS mx w x r else lS mx w b r
theorem pG{enc:α->D}:∀r b,(∀x∈r,e (enc x)=.ok (w x))->Kc mx e (enc b) (w b) (r.map enc)=.ok (enc<|lS mx w b r)
|[],b,_=>rfl
|x::r,b,h=>by
 have hx:=h x A12;have hr:=λ y hy=>h y<|A09 _ hy;rw[f8];unfold Kc lS;rw[hx];simp only[Res.k_];split
 .exact pG r x hr
 .exact pG r b hr
theorem m9{w:α->Int}:∀r b,lS mx w b r=b\/lS mx w b r∈r
|[],b=>.inl rfl
|x::r,b=>by
 unfold lS;split
 .rcases m9 r x with h|h
  .rw[h];exact .inr A12
  .exact .inr<|A09 _ h
 .rcases m9 r b with h|h
  .exact .inl h
  .exact .inr<|A09 _ h
def wS(z:γ GO):Int:=(z.map wO).sum
theorem R?{z:γ GO}(hg:∀x∈xs,gW x.1)(h:z.map (·.1)=xs.map (·.1)):∀x∈z,gW x.1:=λ x hx=>by
 have:x.1∈xs.map (·.1):=by rw[<-h];exact A03.mpr ⟨x,hx,rfl⟩
 let⟨y,hy,e⟩:=A03.mp this;rw[<-e];exact hg y hy
theorem JF{z:γ GO}(h:z.map (·.1)=xs.map (·.1)):z.length=xs.length:=by have:=A11 List.length h;rwa [A05,A05]at this
theorem B3(h6:xs.length<=6)(hg:∀x∈xs,gW x.1)(h:z.map (·.1)=xs.map (·.1)):eK [aO xs,aF z]=.ok (.int<|wS z):=by have:=zI (by rw[JF h];exact h6)<|R? hg h;rw[show D.tup _=aO z from rfl,J! h]at this;exact this
theorem Lf(h6:xs.length<=6)(hg:∀x∈xs,gW x.1)(hL:∀z∈b::r,z.map (·.1)=xs.map (·.1)):fY [aO xs,.lst ((b::r).map aF)]=.ok (aF<|lS Ch wS b r):=by
 rw[n6];refine aP ?_;have ke:∀z∈b::r,vY (aE eK<|aa (eV 1)<|aa (eV 0) aC) [v (aO xs)] (aF z)=.ok (wS z):=λ z hz=>by refine JL ?_;simp[B3 h6 hg<|hL z hz]
 have pk:=pG (mx:=Ch) r b λ z hz=>ke z<|A09 _ hz;have kb:=ke b A12;have e:yZ Ch (.ok .non) (eW 1) [0] (aE eK<|aa (eV 1)<|aa (eV 0) aC) [v (aO xs),v (.lst<|(b::r).map aF)]=.ok (aF<|lS Ch wS b r):=by show pickK Ch (.ok .non) (vY _ [v _]) (aF b::r.map aF)=_;unfold pickK;dsimp only;rw[kb];exact pk
 simp only[f8]at e;simp[gO,e]
theorem Hk:fY [aO xs,.lst []]=.ok .non:=by rw[n6];refine aP ?_;have e:yZ Ch _ (eW 1) [0] (aE eK<|aa (eV 1)<|aa (eV 0) aC) [v (aO xs),v (.lst [])]=.ok .non:=rfl;simp[gO,e]
end
open KH
open KH
open KH
open KH
section
variable{C:Nat}{sm:Bool}
end
def Full(z:γ GO):Prop:=∀(i:Nat)(g:G),z[i]?≠AC (g,At)
theorem N!(h:Fx rows AT xs xs.length z):Full z:=λ i g e=>by have hl:=(A08.mp e).1;rw[JF h.gs]at hl;exact h.full rfl i g hl e
open KH
theorem Kh(H:Hall rows C)(hg:∀x∈xs,GOk x.1)(e:Ext xs z)(gz:Good rows z)(fz:Full z):z∈d? rows C AT xs xs.length:=t_ H hg e gz<|.inr fz
end KB
namespace KC
open Z KG KH KB
def jA:SF:=(a6<|uU (eU (ky .int)<|eW 0)<|Oh<|eU (ky .bool)<|eW 0)
def gr:γ D->Res D:=fn 1 1 jA
def cQ:SF:=(a6<|uU (aE gr<|aa (eV 0) aC)<|iP oLe oLe (eW 1) (eW 0)<|eW 2)
def bq:γ D->Res D:=fn 3 3 cQ
def gN:SF:=(aT (bc 3<|aE KB.eD<|aa (eV 0)<|aa (eV 1)<|aa (aE KB.eA<|aa (eV 0)<|aa (eV 1)<|aa (eV 2) aC)<|aa (eC<|.bl AT) aC)<|a6<|YR (tE<|eB ED (eU cL<|eW 3)<|eC<|.int 0) (eB aR (eW 3)<|eC<|.int 0)<|eC .non)
def f':γ D->Res D:=fn 3 4 gN
theorem sJ(x0 x1 x2:D):f' [x0,x1,x2]=bR (gN [AC (.val x0),AC (.val x1),AC (.val x2),At]):=cT _ _ _ _ rfl
def lO:SF:=(a6<|eL<|bU (dS<|eW 1) 1 [0] (aW 0) cb<|aE KG.fN<|aa (eV 1)<|aa (eV 0) aC)
def iw:γ D->Res D:=fn 2 2 lO
theorem wm(x0 x1:D):iw [x0,x1]=bR (lO [AC (.val x0),AC (.val x1)]):=cT _ _ _ _ rfl
def oY:SF:=(a6<|aE KH.eZ<|aa (eB aR (eW 1)<|eW 3)<|aa (eB aR (eW 0)<|eW 3)<|aa (aE KG.cy<|aa (eV 0)<|aa (eV 2) aC) aC)
def c!:γ D->Res D:=fn 4 4 oY
theorem Bc(x0 x1 x2 x3:D):c! [x0,x1,x2,x3]=bR (oY [AC (.val x0),AC (.val x1),AC (.val x2),AC (.val x3)]):=cT _ _ _ _ rfl
def fG(self:γ D->Res D):SF:=(aT (bc 3<|eL<|bU (fW<|eU cL<|eW 0) 1 [2] (aW 0) (tE<|eU kz<|eB aR (eW 1)<|eW 0)<|eV 0)<|aT (bc 4<|yZ AT .bad (eW 3) [0,1,2]<|eU cL<|aE c!<|aa (eV 1)<|aa (eV 2)<|aa (eV 3)<|aa (eV 0) aC)<|aT (bc 5<|aE c!<|aa (eV 0)<|aa (eV 1)<|aa (eV 2)<|aa (eV 4) aC)<|aT (gZ (tE<|eB oEq (eW 5)<|dZ aC) (a6<|dZ<|aa (eC<|.str [115,116,117,99,107])<|aa (eV 4) aC) bA)<|aT (bc 6<|eL<|bU (dS<|eW 5) 1 [0,1,2,4] (aW 0) cb<|aE self<|aa (eV 1)<|aa (eV 2)<|aa (aE KH.cH<|aa (eV 3)<|aa (eV 4)<|aa (eV 0) aC) aC)<|a6<|dZ<|aa (eC<|.str [101,97,99,104])<|aa (eV 4)<|aa (eU g!<|eW 6) aC)
def bH:Nat->γ D->Res D
|0=>λ _=>.bad
|k+1=>fn 3 7<|fG<|bH k
theorem lY(k:Nat)(x0 x1 x2:D):bH (k+1) [x0,x1,x2]=bR (fG (bH k) [AC (.val x0),AC (.val x1),AC (.val x2),At,At,At,At]):=cT _ _ _ _ rfl
def o3:SF:=(aT (gZ (tE<|eU rN<|aE f'<|aa (eV 0)<|aa (eV 1)<|aa (eV 2) aC) (a6<|eC .non) bA)<|a6<|aE (bH 9)<|aa (eV 1)<|aa (aE iw<|aa (eV 0)<|aa (eV 1) aC)<|aa (aE KB.bI<|aa (eV 0)<|aa (eV 1)<|aa (eV 2) aC) aC)
def iG:γ D->Res D:=fn 3 3 o3
theorem Bf(x0 x1 x2:D):iG [x0,x1,x2]=bR (o3 [AC (.val x0),AC (.val x1),AC (.val x2)]):=cT _ _ _ _ rfl
end KC
namespace KC
open Z KG KB
open KH
def Qs:γ Nat:=[115,116,117,99,107]
def WK:γ Nat:=[101,97,99,104]
def dH(rows:Rows)(C:Nat)(xs:γ GO):D:=.lst<|xs.map λ x=>.tup<|(places rows C x.1).map a!
theorem z_{rows:Rows}{C:Nat}(H:Hall rows C){xs:γ GO}(h6:xs.length<=6){k:Nat}{g:G}(hk:xs[k]?=AC (g,At)):c! [aO xs,dH rows C xs,aF xs,.int (k:Nat)]=.ok (.tup<|(fq rows C xs g k).map a!):=by
 rw[Bc];refine aP ?_;have hl:k<xs.length:=(A08.mp hk).1;have i1:aR (dH rows C xs) (.int (k:Nat))=.ok (.tup<|(places rows C g).map a!):=(iE (xs:=xs.map λ y:GO=>D.tup ((places rows C y.1).map a!)) (i:=(k:Nat)) (j:=k) rfl (by rw[A06,hk];rfl)).2;have i2:aR (aO xs) (.int (k:Nat))=.ok (aZ g):=(iE (xs:=xs.map λ y:GO=>aZ y.1) (i:=(k:Nat)) (j:=k) rfl (by rw[A06,hk];rfl)).1;have ht:=pw (xs:=xs) ∅;rw[show D.tup (xs.map λ x=>aZ x.1)=aO xs from rfl,show D.tup (xs.map λ x=>cN x.2)=aF xs from rfl]at ht;have GN:=mY xs;have ho:=nR (places rows C g) g (ss:=nD xs) (places_len H g) ∅;have RN:xs.set k (g,At)=xs:=by have:xs[k]=(g,At):=(A08.mp hk).2;rw[<-this];exact C55 hl
 have he:(places rows C g).filter (λ p=>(nD xs).all λ x=>eE g p x.1 x.2)=fq rows C xs g k:=by unfold fq;refine wT λ p _=>?_;have:=Ac (g:=g) hk p;simp only at this;rw[RN]at this;exact this
 rw[he]at ho;simp[oY,i1,i2,ht,ho]
def nN(xs:γ GO):Nat:=xs.countP λ x=>x.2.isNone
theorem Jn:∀{xs:γ GO}{k:Nat}{g} p,xs[k]?=AC (g,At)->nN (xs.set k (g,AC p))+1=nN xs
|[],_,_,_,h=>by simp at h
|(h,o)::xs,0,g,p,e=>by simp at e;let⟨rfl,rfl⟩:=e;simp[nN]
|(h,o)::xs,k+1,g,p,e=>by have:=Jn p (by simpa using e);simp only[nN,ol,B33]at this ⊢;lia
theorem Al(h:xs[k]?=AC x)(o:ε Pl):dH rows C (xs.set k (x.1,o))=dH rows C xs:=by
 have e:=(A08.mp h).2;unfold dH;rw[C32]
 congr 1
 refine AA3 ∅ λ i h1 h2=>?_;rw[AA5];split
 .rename_i q;subst q;simp[e]
 .rfl
theorem wC(H:Hall rows C)(h6:xs.length<=6)(hg:∀x∈xs,GOk x.1):iw [bo rows,aO xs]=.ok (dH rows C xs):=by
 rw[wm];refine aP ?_;have hl:xs.length<=16777216:=by lia
 unfold aO;simp[lO,bB,e?,dR,hl];refine cz (λ x:GO=>aZ x.1) (λ _=>Ch) (λ x=>.tup<|(places rows C x.1).map a!) ?_ ?_
 .intro x hx;simp[places_of_ok H<|hg x hx]
 .rw[lD];rfl
theorem Km(H:Hall rows C)(h6:xs.length<=6)(hg:∀x∈xs,GOk x.1)(hk:Good rows xs)(hw:cq rows C xs<=2000)(ef:bI [bo rows,aO xs,fd]=.ok (aF xs)):
 f' [bo rows,aO xs,fd]=.ok (match d? rows C AT xs xs.length with|[]=>.non|z::_=>aF z):=by
 have fr:=E8 (sm:=AT) H h6 hg hk hw;have sm:=Ab H h6 hg ef hw;rw[sJ];refine aP ?_;cases e:d? rows C AT xs _ with
 |nil=>rw[e]at fr;simp only[A35]at fr;simp[gN,sm,fr]
 |cons z r=>
  rw[e]at fr;simp only[f8]at fr;have i0:=(iE (xs:=aF z::r.map aF) (i:=0) rfl rfl).2;have hl:(0)<(r.length)+1:=by lia
  simp[gN,sm,fr,i0]
def vk(rows:Rows)(xs:γ GO):Prop:=∀z,Ext xs z->Good rows z->∃(i:Nat)(g:G),z[i]?=AC (g,At)
theorem Gn(H:Hall rows C)(hg:∀x∈xs,GOk x.1)(h:d? rows C AT xs xs.length=[]):vk rows xs:=by intro z e gz;refine Classical.byContradiction λ hn=>?_;have:=t_ (sm:=AT) H hg e gz<|.inr λ i g q=>hn ⟨i,g,q⟩;rw[h]at this;cases this
theorem Ob{cs:γ GO}{k:Nat}(hk:cs[k]?=AC (g,At))(p:Pl):Ext cs (cs.set k (g,AC p)):=by
 have hl:=(A08.mp hk).1;refine⟨?_,λ i g' q hi=>?_⟩
 .refine B71 λ i=>?_;rw[A06,A06,A56];split
  .rename_i ei;subst ei;rw[hk];rfl
  .rfl
 .rw[A56];split
  .rename_i ej;subst ej;rw[hk]at hi;cases hi
  .exact hi
theorem vk.put(h:vk rows xs){k:Nat}(hk:xs[k]?=AC (g,At))(p:Pl):vk rows (xs.set k (g,AC p)):=λ z e gz=>
 have e1:=Ob hk p
 h z ⟨e1.gs.trans e.gs,λ i g p q=>e.sub i g p<|e1.sub i g p q⟩ gz
def l_(xs:γ GO)(k:Nat):Bool:=match xs[k]? with
|some (_,At)=>Ch
|_=>AT
theorem zM(h:l_ xs k=Ch):∃g,xs[k]?=AC (g,At):=by
 unfold l_ at h;split at h
 .rename_i g e;exact⟨g,e⟩
 .cases h
def opens(rows:Rows)(C:Nat)(xs:γ GO)(k:Nat):γ Pl:=match xs[k]? with
|some (g,_)=>fq rows C xs g k
|none=>[]
theorem WH(ps:γ Pl):oEq (.tup<|ps.map a!) (.tup [])=.ok (.bl ps.isEmpty):=by cases ps<;>rfl
theorem IX(H:Hall rows C):∀(n:Nat)(xs:γ GO),xs.length<=6->(∀x∈xs,GOk x.1)->nN xs<n->Good rows xs->vk rows xs ->
 ∃d,bH n [aO xs,dH rows C xs,aF xs]=.ok d:=by
 intro n
 induction n with
 |zero=>intro xs _ _ h;lia
 |succ n ih=>
  intro xs h6 hg hn YA C!;have N1:cL (aO xs)=.ok (.int xs.length):=by simp[aO]
  have hl:xs.length<=16777216:=by lia
  -- who abq
  have qv:(Ev xs.length).filter (l_ xs)≠[]:=λ z=>by let⟨i,g,e⟩:=C! xs ⟨rfl,λ _ _ _ e=>e⟩ YA;have hi:i<xs.length:=(A08.mp e).1;have:i∈(Ev xs.length).filter (l_ xs):=A66.mpr ⟨A26.mpr hi,by unfold l_;rw[e]⟩;rw[z]at this;cases this
  have hall:∀k∈(Ev xs.length).filter (l_ xs),l_ xs k=Ch:=λ k hk=>(A66.mp hk).2;generalize _Y:(Ev xs.length).filter (l_ xs)=ks at qv hall;cases ks with
  |nil=>exact absurd rfl qv
  |cons k0 kr=>
   have key:∀k∈k0::kr,vY (eU cL<|aE c!<|aa (eV 1)<|aa (eV 2)<|aa (eV 3)<|aa (eV 0) aC) [v (aO xs),v (dH rows C xs),v (aF xs)] (.int (k:Nat))=.ok ((opens rows C xs k).length:Int):=λ k hk=>by let⟨g,e⟩:=zM (hall k hk);have so:=z_ H h6 e;refine JL ?_;simp[so,opens,e]
   have pk:=pG (mx:=AT) (e:=vY (eU cL<|aE c!<|aa (eV 1)<|aa (eV 2)<|aa (eV 3)<|aa (eV 0) aC) [v (aO xs),v (dH rows C xs),v (aF xs)]) (enc:=λ k=>D.int (k:Nat)) (w:=λ k=>((opens rows C xs k).length:Int)) kr k0 λ k hk=>key k<|A09 _ hk;have mem:lS AT (λ k=>((opens rows C xs k).length:Int)) k0 kr∈k0::kr:=by
    rcases m9 (mx:=AT) (w:=λ k=>((opens rows C xs k).length:Int)) kr k0 with h|h
    .rw[h];exact A12
    .exact A09 _ h
   generalize lS AT (λ k=>((opens rows C xs k).length:Int)) k0 kr=k at pk mem;let⟨g,hk⟩:=zM (hall k mem);have ex:∀x4 x5 x6,yZ AT .bad (eW 3) [0,1,2] (eU cL<|aE c!<|aa (eV 1)<|aa (eV 2)<|aa (eV 3)<|aa (eV 0) aC) [v (aO xs),v (dH rows C xs),v (aF xs),v (.lst<|(k0::kr).map λ k=>D.int (k:Nat)),x4,x5,x6]=.ok (.int (k:Nat)):=λ x4 x5 x6=>by show pickK AT .bad (vY (eU cL<|aE c!<|aa (eV 1)<|aa (eV 2)<|aa (eV 3)<|aa (eV 0) aC) [v (aO xs),v (dH rows C xs),v (aF xs)]) (D.int (k0:Nat)::kr.map λ k=>D.int (k:Nat))=_;unfold pickK;dsimp only;rw[key k0 A12];exact pk
   have so:=z_ H h6 hk;have _K:=F? H xs g k;have hop:∀p∈fq rows C xs g k,cW rows g p=Ch/\openAt xs g k p=Ch:=λ p hp=>by let⟨h1,h2⟩:=A66.mp hp;exact⟨KH.nV h1,h2⟩
   have kg:=hg _<|A20 hk;have step:∀p∈fq rows C xs g k,∃d,bH n [aO xs,dH rows C xs,aF (xs.set k (g,AC p))]=.ok d:=λ p hp=>by
    have n1:=Jn p hk;let⟨f1,f2⟩:=hop p hp;let⟨d,e1⟩:=ih (xs.set k (g,AC p)) (by rw[Mm];exact h6) (λ x hx=>by
     rcases C56 hx with z|z
     .exact hg x z
     .rw[z];exact kg) ∅ (YA.put hk f1 f2) (C!.put hk p)
    rw[show aO (xs.set k (g,AC p))=aO xs from xA hk<|some p,show dH rows C (xs.set k (g,AC p))=dH rows C xs from Al hk<|some p]at e1;exact⟨d,e1⟩
   obtain⟨f,hf⟩:∃f:Pl->D,∀p∈fq rows C xs g k,bH n [aO xs,dH rows C xs,aF (xs.set k (g,AC p))]=.ok (f p):=by
    classical
    exact⟨λ p=>if h:p∈fq rows C xs g k then(step p h).choose else .non,λ p hp=>by simp only[hp,A93];exact(step p hp).choose_spec⟩
   have start:∀Q,(∀x5 x6,Ok ((aT (bc 5<|aE c!<|aa (eV 0)<|aa (eV 1)<|aa (eV 2)<|aa (eV 4) aC)<|aT (gZ (tE<|eB oEq (eW 5)<|dZ aC) (a6<|dZ<|aa (eC<|.str [115,116,117,99,107])<|aa (eV 4) aC) bA)<|aT (bc 6<|eL<|bU (dS<|eW 5) 1 [0,1,2,4] (aW 0) cb<|aE (bH n)<|aa (eV 1)<|aa (eV 2)<|aa (aE KH.cH<|aa (eV 3)<|aa (eV 4)<|aa (eV 0) aC) aC)<|a6<|dZ<|aa (eC<|.str [101,97,99,104])<|aa (eV 4)<|aa (eU g!<|eW 6) aC) [v (aO xs),v (dH rows C xs),v (aF xs),v (.lst<|(k0::kr).map λ k=>D.int (k:Nat)),vi (k:Nat),x5,x6]) Q)->Ok (fG (bH n) [v (aO xs),v (dH rows C xs),v (aF xs),At,At,At,At]) Q:=λ Q hQ=>by
    have el:«zints» 0 xs.length=(Ev xs.length).map λ k=>D.int (k:Nat):=by rw[ints_map];exact B08 λ j _=>by rw[Int.zero_add]
    simp[fG,bB,e?,dR,line,N1,hl];rw[el];refine cz (λ k:Nat=>D.int (k:Nat)) (l_ xs) (λ k=>D.int (k:Nat)) (xs:=Ev xs.length) (λ j hj=>?_) ?_
    .have xp:j<xs.length:=A26.mp hj;obtain⟨⟨g',o⟩,e⟩:∃x,xs[j]?=AC x:=⟨_,A01 xp⟩
     have ix:aR (aF xs) (.int (j:Nat))=.ok (cN o):=(iE (xs:=xs.map λ y:GO=>cN y.2) (i:=j) (j:=j) rfl (by rw[A06,e];rfl)).1;cases o with
     |none=>simp[ix,cN,l_,e]
     |some p=>have en:kz (a! p)=.ok (.bl AT):=rfl;simp[ix,cN,en,l_,e]
    .rw[_Y];have:=hQ At At;have e4:=ex At At At;simp only[f8]at this e4 ⊢;simp[e4];simpa[bB,e?,dR,line]using this
   by_cases h0:fq rows C xs g k=[]
   .refine⟨.tup [.str Qs,.int (k:Nat)],?_⟩
    .rw[lY];refine aP<|start _ λ x5 x6=>?_;rw[h0]at so;have e0:=WH [];simp only[A35,List.isEmpty_nil]at so e0;simp[so,e0,line];rfl
   .have _O:(fq rows C xs g k).isEmpty=AT:=by
     cases q:fq rows C xs g k with
     |nil=>exact absurd q h0
     |cons a r=>rfl
    refine⟨.tup [.str WK,.int (k:Nat),.tup ((fq rows C xs g k).map f)],?_⟩
    .rw[lY];refine aP<|start _ λ x5 x6=>?_;have e0:=WH<|fq rows C xs g k;rw[_O]at e0;have RT:(fq rows C xs g k).length<=16777216:=by lia
     generalize fq rows C xs g k=op at so _K hf e0 RT;simp[so,e0,line,bB,e?,dR,RT];refine cz a! (λ _=>Ch) f (xs:=op) (λ p hp=>?_) ?_
     .simp[(o? h6 hk p).1,hf p hp]
     .rw[lD];simp[line];rfl
theorem An(H:Hall rows C)(h6:xs.length<=6)(hg:∀x∈xs,GOk x.1)(hk:Good rows xs)(hw:cq rows C xs<=2000)(ef:bI [bo rows,aO xs,fd]=.ok (aF xs))(e:d? rows C AT xs xs.length=[]):∃d,iG [bo rows,aO xs,fd]=.ok d:=by
 have fo:=Km H h6 hg hk hw ef;have ap:=wC H h6 hg;rw[e]at fo;dsimp only at fo;let⟨d,e1⟩:=IX H 9 xs h6 hg (by have:nN xs<=xs.length:=List.countP_le_length;lia) hk (Gn H hg e)
 refine⟨d,?_⟩;rw[Bf];refine aP ?_;have en:rN D.non=.ok _:=rfl;simp[o3,fo,ap,ef,e1]
end KC
namespace KB
open Z KG
open KH
variable{k:Nat}
structure T6(rows:Rows)(xs m:List GO):Prop where
 ext:Ext xs m
 good:Good rows m
 full:Full m
theorem Ft(H:Hall rows C)(h6:xs.length<=6)(hg:∀x∈xs,gW x.1)(hk:Good rows xs)(hw:cq rows C xs<=2000)(ef:bI [bo rows,aO xs,fd]=.ok (aF xs)):
 (d? rows C AT xs xs.length=[]/\bS [bo rows,aO xs,fd]=.ok .non)\/∃m,bS [bo rows,aO xs,fd]=.ok (aF m)/\T6 rows xs m:=by
 have Yy:=λ x hx=>(hg x hx).toGOk;have hi:=yf (C:=C) (sm:=AT) hk<|v4 _;have fr:=E8 (sm:=AT) H h6 Yy hk hw;have sm:=Ab H h6 Yy ef hw;cases e:d? rows C AT xs _ with
 |nil=>rw[e]at fr;simp only[A35]at fr;refine .inl ⟨rfl,?_⟩;rw[mJ];refine aP ?_;simp[iD,sm,fr,Hk]
 |cons b r=>
  rw[e]at hi fr;have am:=Lf h6 hg λ z hz=>(hi z hz).gs;have hm:lS Ch wS b r∈b::r:=by
   rcases m9 r b with h|h
   .rw[h];exact A12
   .exact A09 _ h
  have hi:=hi _ hm;refine .inr ⟨_,?_,hi.ext,hi.good,N! hi⟩;rw[mJ];refine aP ?_;simp only[f8]at am fr;simp[iD,sm,fr,am]
theorem Ext.good(e:Ext xs m)(h:Good rows m):Good rows xs:=h.sub e.sub
theorem Ext.put(e:Ext xs m)(hk:m[k]?=AC (g,o)):Ext (xs.set k (g,o)) m:=by
 have hl:=(A08.mp hk).1;have _S:k<xs.length:=by rw[e.len];exact hl
 refine⟨?_,λ i g' p h=>?_⟩
 .rw[<-e.gs,C32];have h1:(xs.map (·.1))[k]?=AC g:=by rw[e.gs,A06,hk];rfl
  refine B71 λ i=>?_;rw[A56];split
  .rename_i q;subst q;rw[M2 (by rw[A05];exact _S),h1]
  .rfl
 .rw[A56]at h;split at h
  .rename_i q;subst q;first|(rw[M2]at h;rw[hk,h])|rw[hk,h]
  .exact e.sub i g' p h
theorem T6.put(h:T6 rows xs m)(hk:m[k]?=AC (g,o)):T6 rows (xs.set k (g,o)) m:=⟨h.ext.put hk,h.good,h.full⟩
theorem mU{α:Type}(l:γ α)(k j:Nat):(l.eraseIdx k)[j]?=l[if j<k then j else j+1]?:=by rw[List.getElem?_eraseIdx];split<;>rfl
theorem oF{α β:Type}(f:α->β):∀(l:γ α) k,(l.eraseIdx k).map f=(l.map f).eraseIdx k
|[],_=>rfl
|_::_,0=>rfl
|a::l,k+1=>A11 _<|oF f l k
theorem Ext.erase(e:Ext xs m)(k:Nat):Ext (xs.eraseIdx k) (m.eraseIdx k):=by refine⟨by rw[oF,oF,e.gs],λ i g p h=>?_⟩;rw[mU]at h ⊢;exact e.sub _ g p h
theorem uI(h:Good rows m)(k:Nat):Good rows (m.eraseIdx k):=by intro i g p e;rw[mU]at e;let⟨h1,h2⟩:=h _ g p e;refine⟨h1,λ j g' q ej ne=>?_⟩;rw[mU]at ej;refine h2 _ g' q ej ?_;split<;>split<;>lia
theorem Full.erase(h:Full m)(k:Nat):Full (m.eraseIdx k):=λ i g e=>by rw[mU]at e;exact h _ g e
theorem rJ:∀l k,(∀n∈l,0<n)->cB (l.eraseIdx k)<=cB l
|[],_,_=>v4 _
|n::l,0,h=>by rw[List.eraseIdx_cons_zero];exact Nat.le_mul_of_pos_left _<|h n A12
|n::l,k+1,h=>by rw[C57];exact Nat.mul_le_mul_left _<|rJ l k λ q hq=>h q<|A09 _ hq
theorem B7(xs:γ GO)(k:Nat):cq rows C (xs.eraseIdx k)<=cq rows C xs:=by
 unfold cq;rw[oF];exact rJ _ _ λ n hn=>by let⟨x,_,rfl⟩:=A03.mp hn;exact tJ rows C x
theorem zL:∀{xs}{k}{x} p,xs[k]?=AC x->cq rows C (xs.set k (x.1,AC p))<=cq rows C xs
|[],_,_,_,h=>by cases h
|y::r,0,x,p,h=>by show cB _<=cB (fL rows C y::r.map _);have:fL rows C (x.1,AC p)=1:=rfl;simp only[cB];exact B20 _<|tJ rows C y
|y::r,k+1,x,p,h=>Nat.mul_le_mul_left _<|zL p h
theorem Ct(H:Hall rows C)(hg:∀x∈xs,GOk x.1)(h:T6 rows xs m)(k:Nat):d? rows C AT (xs.eraseIdx k) (xs.eraseIdx k).length≠[]:=by intro e;have:=Kh H (λ x hx=>hg x<|B72 hx) (h.ext.erase k) (uI h.good k)<|Full.erase h.full k;rw[e]at this;cases this
structure j?(rows:Rows)(C:Nat)(xs m:List GO):Prop where
 six:xs.length<=6
 TB:∀x∈xs,gW x.1
 names:(xs.map (·.1.name)).Nodup
 few:cq rows C xs<=250
 best:T6 rows xs m
theorem j?.good(s:j? rows C xs m):Good rows xs:=s.best.ext.good s.best.good
theorem j?.fast(s:j? rows C xs m)(hk:m[k]?=AC (g,AC p)):j? rows C (xs.set k (g,AC p)) m:=by
 obtain⟨x,hx⟩:∃x,xs[k]?=AC x:=by
  have:k<xs.length:=by rw[s.best.ext.len];exact(A08.mp hk).1
  exact⟨_,A01 this⟩
 have ex:x.1=g:=by have:=A11 (λ l=>l[k]?) s.best.ext.gs;simp only[A06,hx,hk,A54,A98]at this;exact this
 subst ex;have em:(xs.set k (x.1,AC p)).map (·.1)=xs.map (·.1):=by rw[(s.best.ext.put hk).gs,s.best.ext.gs]
 refine⟨by rw[AB7];exact s.six,λ y hy=>?_,?_,A15 (zL p hx) s.few,s.best.put hk⟩
 .have:y.1∈(xs.set k (x.1,AC p)).map _:=A03.mpr ⟨y,hy,rfl⟩;rw[em]at this;let⟨z,hz,e⟩:=A03.mp this;rw[<-e];exact s.TB z hz
 .have e2:(xs.set k (x.1,AC p)).map (·.1.name)=((xs.set k (x.1,AC p)).map (·.1)).map (·.name):=by rw[A16];rfl
  rw[e2,em,A16];exact s.names
theorem j?.away(H:Hall rows C)(s:j? rows C xs m)(k:Nat):∃m',j? rows C (xs.eraseIdx k) m'/\bS [bo rows,aO (xs.eraseIdx k),aF (xs.eraseIdx k)]=.ok (aF m'):=by
 have Yy:=λ x hx=>(s.TB x hx).toGOk;have Wc:∀x∈xs.eraseIdx k,gW x.1:=λ x hx=>s.TB x<|B72 hx;have h6:(xs.eraseIdx k).length<=6:=A15 (by rw[List.length_eraseIdx];split<;>lia) s.six;have gd:=uI s.good k;have fw:=A15 (B7 xs k) s.few;rcases Ft H h6 Wc gd (A15 fw ∅) (xx H h6 (λ x hx=>(Wc x hx).toGOk) gd)with⟨e,_⟩|⟨m',e,b⟩
 .exact(Ct H Yy s.best k e).elim
 .refine⟨m',⟨h6,Wc,?_,fw,b⟩,e⟩;rw[oF];exact s.names.sublist<|List.eraseIdx_sublist ..
end KB
namespace KM
open Z KG KH
def gw:SF:=(aT (bc 2<|eB bG (eC<|.int 1)<|eB oMod (eW 0)<|eC<|.int 2147483646)<|aT (oy 3<|cu aC)<|aT (jh (fW<|eV 1) (aW 4)<|aT (bc 2<|eB oMod (eB fT (eW 2)<|eC<|.int 16807)<|eC<|.int 2147483647)<|d7 3<|eB oMod (eB fT (eB oMod (eB fT (eB bG (eW 2)<|eC<|.int 7)<|eC<|.int 69621)<|eC<|.int 2147483629)<|eC<|.int 39373)<|eC<|.int 2147483587)<|ub 3<|a6<|eV 3)
def dO:γ D->Res D:=fn 2 5 gw
theorem yV(x0 x1:D):dO [x0,x1]=bR (gw [AC (.val x0),AC (.val x1),At,At,At]):=cT _ _ _ _ rfl
def f7:SF:=(aT (bc 1<|eC<|.str aX)<|a6<|eB bG (eB aR (eW 1)<|eB oMod (eW 0)<|eC<|.int 26)<|eB aR (eW 1)<|eB oMod (eB bG (eB bG (eW 0)<|eC<|.int 1)<|eB oMod (eB oDiv (eW 0)<|eC<|.int 26)<|eC<|.int 25)<|eC<|.int 26)
def dB:γ D->Res D:=fn 1 2 f7
theorem uS(x0:D):dB [x0]=bR (f7 [AC (.val x0),At]):=cT _ _ _ _ rfl
end KM
namespace KM
open Z KG KH
theorem uc{nums:γ Int}(hs:sg.length<=100)(hsg:∀c∈sg,c∈signs)(hn:∀x∈nums,0<=x/\x<sg.length)(hl:nums.length=R*C)(hR:R<=6)(hC:C<=12){b:SF}{Q:Fl->Prop}
 (hb:b=d7 7 (eB rO (eC<|.str [])<|eL<|bU (dS<|eL<|Nu (eW 6) (su<|eB fT (eW 8)<|eW 3)<|su<|eB fT (eB bG (eW 8)<|eC<|.int 1)<|eW 3) 1 [5] (aW 0) cb<|eB aR (eW 1)<|eW 0))
 (x0 x1 x2 x4:ε L) (hQ:∀rows x,j_ C R rows->Q (.nx [x0,x1,x2,vi C,x4,vs sg,v (.lst<|nums.map .int),ow (rows.map .str),x])) :
 Ok (fv (aW 8) b (zints 0 R) [x0,x1,x2,vi C,x4,vs sg,v (.lst<|nums.map .int),ow [],At]) Q:=by
 subst hb;refine gg (λ i ρ=>∃rows x,j_ C i rows/\ρ=[x0,x1,x2,vi C,x4,vs sg,v (.lst<|nums.map .int),ow (rows.map .str),x]) ⟨[],At,j_.nil C,rfl⟩ ?_ ?_
 .rintro i d ρ hi ⟨rows,x,kE,rfl⟩;let⟨yM,rfl⟩:=ints_get hi;have q1:b_ (i:Int) (C:Int):=d_ ∅ ∅;have q2:b_ ((i:Int)+1) (C:Int):=d_ ∅ ∅;have hle:(i+1)*C<=nums.length:=by rw[hl];exact B20 C yM
  have kN:=Dx nums hle;have R5:(cut nums (AC<|(i:Int)*C)<|some<|((i:Int)+1)*C).length<=16777216:=by lia
  have hrl:rows.length<16777216:=by rw[kE.1];lia
  simp[bB,Pw,q1,q2,line,e?,dR,OD,R5];generalize JY:cut nums (AC<|(i:Int)*C) (AC<|((i:Int)+1)*C)=ns at kN R5;have key:∀x:Int,∃q,(0<=x/\x<sg.length)->q∈signs/\aR (.str sg) (.int x)=.ok (.str [q]):=λ x=>by
   by_cases h:0<=x/\x<sg.length
   .let⟨c,hc,e⟩:=uD h.1 h.2 (by simp only[line];lia);exact⟨c,λ _=>⟨hsg c hc,e⟩⟩
   .exact⟨0,λ h'=>absurd h' h⟩
  have kq:∃q:Int->Nat,∀x:Int,(0<=x/\x<sg.length)->q x∈signs/\aR (.str sg) (.int x)=.ok (.str [q x]):=⟨λ x=>(key x).choose,λ x=>(key x).choose_spec⟩
  let⟨q,hq⟩:=kq;have C?:∀x∈ns,0<=x/\x<sg.length:=λ x hx=>hn x<|Z.EN<|JY▸hx;refine cz D.int (λ _=>Ch) (λ x=>.str [q x]) ?_ ?_
  .intro x hx;simp[(hq x<|C? x hx).2]
  .rw[lD];have e1:ns.map (λ x=>D.str [q x])=(ns.map λ x=>[q x]).map D.str:=by rw[A16];rfl
   have e2:(ns.map λ x=>[q x]).flatten=ns.map q:=by
    clear kN R5 JY C? e1
    induction ns with
    |nil=>rfl
    |cons a as ih=>simp[ih]
   rw[e1,w6 (by rw[e2,A05];lia),e2];simp[hrl];refine⟨rows++[ns.map q],kE.add ⟨by rw[A05];exact kN,?_⟩,by simp⟩;intro c hc;let⟨x,hx,rfl⟩:=A03.mp hc;exact(hq x<|C? x hx).1
 .rintro ρ ⟨rows,x,kE,rfl⟩;rw[gG]at kE;exact hQ rows x kE
theorem Jw(c:Int)(hn:n<=1000):∃ms:γ Int,ms.length=n/\(∀m∈ms,0<=m/\m<2147483587)/\dO [.int c,.int n]=.ok (.lst<|ms.map .int):=by
 have q1:∀x,b_ x 16807:=λ x=>gj ∅ ∅;have q2:∀x,b_ x 69621:=λ x=>gj ∅ ∅;have q3:∀x,b_ x 39373:=λ x=>gj ∅ ∅;have:Ok (bR<|gw [v (.int c),v (.int n),At,At,At]) λ d=>∃ms:γ Int,ms.length=n/\(∀m∈ms,0<=m/\m<2147483587)/\d=.lst (ms.map .int):=by
  refine qK ?_;simp[gw];refine gg (λ i ρ=>∃ms z x,ms.length=i/\(∀m∈ms,0<=m/\m<2147483587)/\ρ=[vi c,vi n,vi z,ow (ms.map .int),x]) ⟨[],_,At,rfl,by simp,rfl⟩ ?_ ?_
  .rintro i d ρ hi ⟨ms,z,x,hl,hp,rfl⟩;let⟨yM,rfl⟩:=ints_get hi;have kF:ms.length<16777216:=by lia
   simp[q1,q2,q3,line,kF];refine⟨ms++[(z*16807 % 2147483647+7)*69621 % 2147483629*39373 % 2147483587],by simp[hl],?_,by rw[A39];rfl⟩;intro m hm;rcases A41.mp hm with h|h
   .exact hp m h
   .simp at h;rw[h];lia
  .rintro ρ ⟨ms,z,x,hl,hp,rfl⟩;rw[gG]at hl;simp;exact⟨ms,hl,hp,rfl⟩
 rw[<-yV]at this;let⟨d,e,ms,h1,h2,rfl⟩:=this;exact⟨ms,h1,h2,e⟩
theorem AS(z:Int):∃a b,a∈aX/\b∈aX/\dB [.int z]=.ok (.str [a,b]):=by let⟨a,ha,ea⟩:=xg z;let⟨b,hb,eb⟩:=xg (z+1+z / 26 % 25);refine⟨a,b,ha,hb,?_⟩;rw[uS];refine aP ?_;simp[f7,cj,ea,eb,line]
end KM
namespace KN
open Z KG KH KM
def gM:SF:=(aT (oy 2<|cu aC)<|aT (jh (fW<|eB bG (eB qO (eU cL<|eW 0)<|eB aR (eW 1)<|eC<|.int 2)<|eC<|.int 1) (aW 3)<|jh (fW<|eB bG (eB qO (eU cL<|eB aR (eW 0)<|eC<|.int 0)<|eB aR (eW 1)<|eC<|.int 1)<|eC<|.int 1) (aW 4)<|aT (bc 5<|eB rO (eC<|.str [])<|eL<|bU (dS<|Hz (eW 0) (su<|eW 3)<|su<|eB bG (eW 3)<|eB aR (eW 1)<|eC<|.int 2) 1 [4,1] (aW 0) cb<|Hz (eW 0) (su<|eW 1)<|su<|eB bG (eW 1)<|eB aR (eW 2)<|eC<|.int 1)<|aT (bc 6<|eL<|bU (dS<|eW 5) 1 [1] (aW 0) (vL (tE<|eB pP (eW 0)<|eC<|.str [46,61])<|tE<|eB sS (eW 0)<|eB aR (eW 1)<|eC<|.int 3)<|eV 0)<|gZ (vL (tE<|eB oEq (eW 6)<|eL<|cu aC)<|tE<|eB Th (eB w8 (eW 5)<|eC<|.str [61])<|eB aR (eW 1)<|eC<|.int 4) (d7 2<|dZ<|aa (eV 3)<|aa (eV 4) aC) bA)<|ub 2<|a6<|eV 2)
def dU:γ D->Res D:=fn 2 7 gM
theorem wc(x0 x1:D):dU [x0,x1]=bR (gM [AC (.val x0),AC (.val x1),At,At,At,At,At]):=cT _ _ _ _ rfl
end KN
namespace KN
open Z KG KH KM
theorem M'{α:Type}{xs:γ α}(h:xs.length=9):∃a b c d e f g i j,xs=[a,b,c,d,e,f,g,i,j]:=by
 match xs,h with
 |[a,b,c,d,e,f,g,i,j],_=>exact⟨a,b,c,d,e,f,g,i,j,rfl⟩
theorem Jl(H:Hall rows C)(k:GOk g){r c:Nat}(h:(rows.length)<(r:Int)+g.d\/(C)<(c:Int)+g.w):cW rows g ((r),(c))=AT:=by
 have w1:=k.w1;have d1:=k.d1;rcases h with h1|h2
 .refine uQ (s:=((r)+((g.d-1:Nat)),(c)+((0)))) (xf (p:=((r),(c))) (i:=g.d-1) (j:=0) ∅ ∅) ?_;unfold XZ;rw[t? H (by simp only;lia)];rfl
 .refine uQ (s:=((r)+((0)),(c)+((g.w-1:Nat)))) (xf (p:=((r),(c))) (i:=0) (j:=g.w-1) ∅ ∅) ?_;unfold XZ;rw[t? H (by simp only;lia)];rfl
theorem Eo(f:Pl->Bool)(r:Nat){n:Nat}:∀m,n<=m->(∀c,n<=c->c<m->f ((r),(c))=AT)->(fi r m).filter f=(fi r n).filter f:=by
 intro m
 induction m with
 |zero=>
  intro h _;have:n=0:=by lia
  subst this;rfl
 |succ m ih=>
  intro h hf;by_cases e:n=m+1
  .rw[e]
  .have e3:fi r (m+1)=fi r m++[((r:Int),(m:Int))]:=by simp[fi,A83]
   rw[e3,B41,ih ∅ λ c h1 h2=>hf c h1 ∅];simp[hf m ∅ ∅]
theorem OP(f:Pl->Bool)(C:Nat){n:Nat}:∀m,n<=m->(∀r c,n<=r->r<m->c<C->f ((r),(c))=AT)->(iK m C).filter f=(iK n C).filter f:=by
 intro m
 induction m with
 |zero=>
  intro h _;have:n=0:=by lia
  subst this;rfl
 |succ m ih=>
  intro h hf;by_cases e:n=m+1
  .rw[e]
  .rw[lQ,B41,ih ∅ λ r c h1 h2=>hf r c h1 ∅];have:(fi m C).filter f=[]:=by rw[Eo f m C (A47 _) λ c _ h2=>hf m c ∅ ∅ h2];rfl
   rw[this,A51]
def seen(rows:Rows)(r c w d:Nat):γ Nat:=(((rows.drop r).take d).map λ row=>(row.drop c).take w).flatten
theorem F0(h:rows[r+d]?=AC row):seen rows r c w (d+1)=seen rows r c w d++(row.drop c).take w:=by unfold seen;rw[take_snoc (by rw[C31];exact h),A39,List.flatten_append];simp
theorem oj(H:Hall rows C)(hc:c+w<=C):∀d,r+d<=rows.length->(seen rows r c w d).map AC=(iL w ((r),(c)) d).map (cx rows)
|0,_=>by simp[seen,iL]
|d+1,hd=>by
 let⟨row,er,hl,_⟩:=H.row (r:=r+d) ∅;have rs:=F4 H er hc;have e:((r+d:Nat))=(r:Int)+(d):=by lia
 rw[e]at rs;rw[F0 er,A39,oj H hc d ∅,rs,mj,A39]
theorem WJ(xs:γ D):oEq (.lst xs) (.lst [])=.ok (.bl xs.isEmpty):=by cases xs<;>rfl
theorem GY(H:Hall rows C)(hr:r+g.d<=rows.length)(hc:c+g.w<=C):cW rows g ((r),(c))=(((seen rows r c g.w g.d).filter λ x=>!cD g.kind (AC x)).isEmpty&&decide (g.wide<=(seen rows r c g.w g.d).count 61)):=by
 have hs:=oj H hc g.d hr;generalize seen rows r c g.w g.d=sg at hs ⊢;unfold cW;have aaO:(seats g ((r),(c))).all (λ s=>cD g.kind<|cx rows s)=sg.all λ c=>cD g.kind (AC c):=by
  have h1:(seats g ((r),(c))).all (λ s=>cD g.kind<|cx rows s)=((seats g ((r),(c))).map<|cx rows).all (cD g.kind):=by rw[B57];rfl
  rw[h1,show seats g ((r),(c))=iL g.w ((r),(c)) g.d from rfl,<-hs,B57];rfl
 have aaM:(seats g ((r),(c))).countP (wH rows)=sg.count 61:=by
  have h1:(seats g ((r),(c))).countP (wH rows)=((seats g ((r),(c))).map<|cx rows).countP (λ o=>o==AC 61):=by rw[AB4];rfl
  rw[h1,show seats g ((r),(c))=iL g.w ((r),(c)) g.d from rfl,<-hs,AB4,List.count];refine List.countP_congr λ x _=>?_;simp
 rw[aaO,aaM]
 congr 1
 rw[A53,A36,List.isEmpty_iff,List.filter_eq_nil_iff];exact⟨λ h x hx=>by simp[h x hx],λ h x hx=>by have:=h x hx;simpa using this⟩
theorem K2{rows:Rows}(h:r+d<=rows.length):cut (rows.map D.str) (AC<|r) (AC<|(r)+d)=((rows.drop r).take d).map D.str:=by
 have n1:¬(r:Int)<0:=by lia
 have n2:¬(r:Int)+d<0:=by lia
 have e:((r:Int)+d).toNat=r+d:=by lia
 simp only[cut,eI,n1,n2,A60,B10,e,A05];rw[A73 ∅,A73 ∅,C29,C28,C30]
theorem HX(k:γ Nat)(c:Nat):(!([46,61]).contains c&&!([c]==k))=!cD k (AC c):=by
 have:=aa0 k c;rw[<-this];have e1:∀n,(c==n)=decide (c=n):=λ n=>by rw[A53];simp
 rw[e1,e1];simp[AC1]
theorem qT(H:Hall rows C)(k:GOk g):dU [bo rows,aZ g]=.ok (.lst<|(places rows C g).map a!):=by
 rw[wc];refine aP ?_;have vC:=H.c2;have hr2:=H.r2;have w1:=k.w1;have d1:=k.d1;have w2:=k.w2;have d2:=k.d2;let⟨Ms,NZ,e0⟩:=H.Ms;have NX:C<=16777216:=by lia
 have hrn:rows.length<=16777216:=by lia
 obtain⟨R',Tx⟩:∃R',((rows.length:Int)-g.d+1).toNat=R':=⟨_,rfl⟩
 obtain⟨C',E5⟩:∃C',((C:Int)-g.w+1).toNat=C':=⟨_,rfl⟩
 simp[gM,line,hrn,Tx];refine gg (λ i ρ=>i<=R'/\∃x y z t,ρ=[v (bo rows),v (aZ g),ow (((iK i C).filter<|cW rows g).map a!),x,y,z,t]) ⟨A47 _,At,At,At,At,rfl⟩ ?_ ?_
 .rintro i d ρ hi ⟨_,x,y,z,t,rfl⟩;let⟨yM,rfl⟩:=ints_get hi;simp[e0,NZ,line,NX,E5];refine gg (λ j ρ=>j<=C'/\∃y z t,ρ=[v (bo rows),v (aZ g),ow (((iK i C++fi i j).filter<|cW rows g).map a!),vi (i:Nat),y,z,t]) ⟨A47 _,y,z,t,by simp[fi]⟩ ?_ ?_
  .rintro j d ρ hj ⟨_,y,z,t,rfl⟩;let⟨xp,rfl⟩:=ints_get hj;have e3:fi i (j+1)=fi i j++[((i:Int),(j:Int))]:=by simp[fi,A83]
   have h1:=A70 (cW rows g)<|iK i C++fi i j;rw[A30,ny,qJ]at h1;have h3:i*C<=100*100:=A65 ∅ vC;rw[e3,<-B06,B41<|iK i C++fi i j];generalize (iK i C++fi i j).filter (cW rows g)=fs at h1 ⊢;have _F:i+g.d<=rows.length:=by lia
   have hcj:j+g.w<=C:=by lia
   have Wd:=GY H (g:=g) _F hcj;have ec:=K2 _F;have esl:Td (bo rows) (AC (i:Int)) (AC<|(i:Int)+g.d)=.ok (.tup<|((rows.drop i).take g.d).map D.str):=by show Res.ok (D.tup<|cut (rows.map D.str) _ _)=_;rw[ec]
   have GN:(seen rows i j g.w g.d).length=g.d*g.w:=by have:=A11 List.length<|oj H hcj g.d _F;simpa[oq]using this
   have hm:=A65 d2 w2;have hdl:((rows.drop i).take g.d).length<=16777216:=by rw[A24];lia
   have _?:min g.d (rows.length-i)<=16777216:=by lia
   simp[esl,bB,e?,dR,line,_?];rw[<-C30,<-C28];refine cz D.str (λ _=>Ch) (λ row=>.str<|(row.drop j).take g.w) (xs:=(rows.drop i).take g.d) (λ row kE=>?_) ?_
   .have hrl:=H.len row<|List.mem_of_mem_drop<|C00 kE;have er:=OC row (c:=j) (w:=g.w) ∅;have _E:row.length<=16777216:=by lia
    simp[line,er,_E]
   .rw [lD];have e1:((rows.drop i).take g.d).map (λ row=>D.str<|(row.drop j).take g.w)=(((rows.drop i).take g.d).map λ row=>(row.drop j).take g.w).map D.str:=by rw[A16];rfl
    have ej:=w6 (ts:=((rows.drop i).take g.d).map λ row=>(row.drop j).take g.w) (by show(seen rows i j g.w g.d).length<=_;lia)
    rw[e1,ej];change Ok _ _;rw[show(((rows.drop i).take g.d).map λ row=>(row.drop j).take g.w).flatten=seen rows i j g.w g.d from rfl];have C9:(seen rows i j g.w g.d).length<=16777216:=by lia
    generalize seen rows i j g.w g.d=sg at Wd GN C9 ⊢;simp[bB,e?,dR,line,C9];refine cz (λ c=>.str [c]) (λ c=>!cD g.kind (AC c)) (λ c=>.str [c]) (xs:=sg) (λ x hx=>?_) ?_
    .have:=HX g.kind x;have en:pP (.str [x]) (.str [46,61])=.ok (.bl<|!([46,61]:γ Nat).contains x):=rfl;have em:sS (.str [x]) (.str g.kind)=.ok (.bl<|!([x]==g.kind)):=rfl;rw[<-this];clear this;generalize (([46,61]:γ Nat).contains x)=bb at en ⊢;generalize ([x]==g.kind)=b2 at em ⊢;cases bb<;>cases b2<;>simp[en,em]
    .rw[WJ,Wd];have _!:(((sg.filter λ c=>!cD g.kind (AC c)).map λ c=>D.str [c]).isEmpty)=(sg.filter λ c=>!cD g.kind (AC c)).isEmpty:=by cases sg.filter λ c=>!cD g.kind (AC c)<;>rfl
     rw[_!];cases h1:(sg.filter λ c=>!cD g.kind (AC c)).isEmpty with
     |false=>simp;lia
     |true=>
      rw[h1,C02]at Wd;by_cases h2:g.wide<=sg.count 61
      .rw[A44 h2]at Wd;simp[h2,Wd];lia
      .simp[h2];lia
  .rintro ρ ⟨_,y,z,t,rfl⟩;simp only[gG];simp;refine⟨by lia,?_⟩;rw[lQ];have:(fi i C).filter (cW rows g)=(fi i C').filter (cW rows g):=Eo _ i C ∅ λ c h1 h2=>Jl H k<|.inr ∅;rw[B41,this,A39]
 .rintro ρ ⟨_,x,y,z,t,rfl⟩;simp only[gG];simp[places];rw[OP (n:=R') (cW rows g) C rows.length ∅ λ r c h1 h2 h3=>Jl H k<|.inl ∅]
end KN
namespace gV
open Z KG KH KB KC KA KS
def L7:γ Nat:=[103,114,111,117,112,115,32,97,108,111,110,101,32,109,97,121,32,97,115,107]
def t_1:γ Nat:=[111,110,101,32,111,102,32,116,104,105,115,32,110,97,109,101,32,105,115,32,97,116,32,104,97,110,100]
def t_2:γ Nat:=[110,111,98,111,100,121,32,111,102,32,116,104,105,115,32,110,97,109,101,32,105,115,32,97,116,32,104,97,110,100]
def rk:SF:=(a6<|eB bG (Hz (eW 0) MI<|su<|eW 1)<|Hz (eW 0) (su<|eB bG (eW 1)<|eC<|.int 1) MI)
def eT:γ D->Res D:=fn 2 2 rk
theorem Dj(x0 x1:D):eT [x0,x1]=bR (rk [AC (.val x0),AC (.val x1)]):=cT _ _ _ _ rfl
def mT:SM:=(bW (bj [0]<|gZ (gb<|tE<|aE KA.hU<|aa (eV 1) aC) mn bA)<|bW (nG 0 [104,97,108,108]<|eV 1)<|bW (nG 0 [103,117,101,115,116,115]<|dZ aC)<|bW (nG 0 [104,101,108,100]<|dZ aC)<|nG 0 [112,108,97,99,101,115]<|dZ aC)
def i7:γ D->Res (D×γ D):=zt [0] [Ch,AT] 2 mT
def ic:SF:=(aT (gZ (tE<|aE KS.cf<|aa (eV 1) aC) (jh (EZ<|eU (fA [103,117,101,115,116,115])<|eM 0 0) (jt [2,3])<|gZ (tE<|eB oEq (eB aR (eW 3)<|eC<|.int 0)<|eW 1) (a6<|eV 2) bA) bA) mn)
def a_:γ D->Res D:=Di [Ch,AT] 4 ic
theorem qa(k0:γ (Sum Int<|γ Nat))(v0:γ D)(x1:D):a_ [.dct k0 v0,x1]=bR (ic [AC (.bor<|.dct k0 v0),AC (.val x1),At,At]):=xw _ _ _ _ rfl
def vg:SM:=(bW (bj (fu 0 [Ch,AT])<|gZ (gb<|tE<|aE KS.c_<|aa (eV 1) aC) mn bA)<|bW (bj (fu 0 [Ch,AT])<|gZ (tE<|eB sT (eB aR (eW 1)<|eC<|.int 0)<|eL<|bU (dS<|eU (fA [103,117,101,115,116,115])<|eM 0 0) 1 [] (aW 0) cb<|eB aR (eW 0)<|eC<|.int 0) mn bA)<|bW (bj (fu 0 [Ch,AT])<|bc 2<|eB bG (eU (fA [103,117,101,115,116,115])<|eM 0 0)<|dZ<|aa (eV 1) aC)<|bW (bj (fu 0 [Ch,AT])<|gZ (tE<|eB ED (eU cL<|eW 2)<|eC<|.int 6) mn bA)<|bW (bj (fu 0 [Ch,AT])<|bc 3<|eB bG (eU (fA [104,101,108,100])<|eM 0 0)<|dZ<|aa (eC .non) aC)<|bW (bj (fu 0 [Ch,AT])<|bc 4<|aE KB.bS<|aa (eU (fA [104,97,108,108])<|eM 0 0)<|aa (eV 2)<|aa (eV 3) aC)<|bW (bj (fu 0 [Ch,AT])<|gZ (tE<|eU kz<|eW 4) mn bA)<|bW (nG 0 [103,117,101,115,116,115]<|eV 2)<|bW (nG 0 [104,101,108,100]<|eV 3)<|bW (nG 0 [112,108,97,99,101,115]<|eV 4)<|bj (fu 0 [Ch,AT])<|a6<|eB aR (eW 4)<|eU MY<|eC<|.int 1)
def iH:γ D->Res (D×γ D):=zt (fu 0 [Ch,AT]) [Ch,AT] 5 vg
def r9:SM:=(bW (bj (fu 0 [Ch,AT])<|bc 2<|aE a_<|aa (eM 0 0)<|aa (eV 1) aC)<|nG 0 [104,101,108,100]<|aE KH.cH<|aa (eU (fA [104,101,108,100])<|eM 0 0)<|aa (eV 2)<|aa (eB aR (eU (fA [112,108,97,99,101,115])<|eM 0 0)<|eW 2) aC)
def cI:γ D->Res (D×γ D):=zt (fu 0 [Ch,AT]) [Ch,AT] 3 r9
def r!:SM:=(bW (bj (fu 0 [Ch,AT])<|bc 2<|aE a_<|aa (eM 0 0)<|aa (eV 1) aC)<|bW (nG 0 [103,117,101,115,116,115]<|aE eT<|aa (eU (fA [103,117,101,115,116,115])<|eM 0 0)<|aa (eV 2) aC)<|bW (nG 0 [104,101,108,100]<|aE eT<|aa (eU (fA [104,101,108,100])<|eM 0 0)<|aa (eV 2) aC)<|nG 0 [112,108,97,99,101,115]<|aE KB.bS<|aa (eU (fA [104,97,108,108])<|eM 0 0)<|aa (eU (fA [103,117,101,115,116,115])<|eM 0 0)<|aa (eU (fA [104,101,108,100])<|eM 0 0) aC)
def fO:γ D->Res (D×γ D):=zt (fu 0 [Ch,AT]) [Ch,AT] 3 r!
def lP:SF:=(a6<|eB aR (eU (fA [112,108,97,99,101,115])<|eM 0 0)<|aE a_<|aa (eM 0 0)<|aa (eV 1) aC)
def cw:γ D->Res D:=Di [Ch,AT] 2 lP
theorem wq(k0:γ (Sum Int<|γ Nat))(v0:γ D)(x1:D):cw [.dct k0 v0,x1]=bR (lP [AC (.bor<|.dct k0 v0),AC (.val x1)]):=xw _ _ _ _ rfl
def jD:SF:=(a6<|eU (fA [103,117,101,115,116,115])<|eM 0 0)
def ba:γ D->Res D:=Di [Ch] 1 jD
theorem sN(k0:γ (Sum Int<|γ Nat))(v0:γ D):ba [.dct k0 v0]=bR (jD [AC (.bor<|.dct k0 v0)]):=xw _ _ _ _ rfl
def jC:SF:=(a6<|eU (fA [112,108,97,99,101,115])<|eM 0 0)
def bz:γ D->Res D:=Di [Ch] 1 jC
theorem sM(k0:γ (Sum Int<|γ Nat))(v0:γ D):bz [.dct k0 v0]=bR (jC [AC (.bor<|.dct k0 v0)]):=xw _ _ _ _ rfl
def gw:SF:=(aT (bc 2<|eB bG (eC<|.int 1)<|eB oMod (eW 0)<|eC<|.int 2147483646)<|aT (oy 3<|cu aC)<|aT (jh (fW<|eV 1) (aW 4)<|aT (bc 2<|eB oMod (eB fT (eW 2)<|eC<|.int 16807)<|eC<|.int 2147483647)<|d7 3<|eB oMod (eB fT (eB oMod (eB fT (eB bG (eW 2)<|eC<|.int 7)<|eC<|.int 69621)<|eC<|.int 2147483629)<|eC<|.int 39373)<|eC<|.int 2147483587)<|ub 3<|a6<|eV 3)
def dO:γ D->Res D:=fn 2 5 gw
def j3:SF:=(aT (bc 2<|eC<|.str aX)<|aT (bc 3<|eB bG (eC<|.int 1)<|eB oMod (eW 0)<|eC<|.int 8)<|aT (bc 4<|eB oMod (eB oDiv (eW 0)<|eC<|.int 8)<|eW 3)<|aT (bc 5<|eB aR (eL<|cu<|aa (eC<|.int 1)<|aa (eC<|.int 3)<|aa (eC<|.int 5)<|aa (eC<|.int 7)<|aa (eC<|.int 9)<|aa (eC<|.int 11) aC)<|eB oMod (eB oDiv (eW 0)<|eC<|.int 64)<|eC<|.int 6)<|aT (oy 6<|cu aC)<|aT (jh (fW<|eV 1) (aW 7)<|aT (bc 8<|eC<|.str [])<|aT (jh (fW<|eV 3) (aW 9)<|aT (bc 10<|eB fT (eB fT (eW 5)<|eW 7)<|eU yw<|eB oEq (eW 9)<|eW 4)<|bc 8<|eB bG (eW 8)<|eB aR (eW 2)<|eB oMod (eB bG (eB oDiv (eW 0)<|eB bG (eC<|.int 400)<|eB fT (eB fT (eC<|.int 30)<|eW 9)<|eW 9)<|eW 10)<|eC<|.int 26)<|d7 6<|eV 8)<|ub 6<|a6<|eV 6)
def i5:γ D->Res D:=fn 2 11 j3
theorem yU(x0 x1:D):i5 [x0,x1]=bR (j3 [AC (.val x0),AC (.val x1),At,At,At,At,At,At,At,At,At]):=cT _ _ _ _ rfl
def f7:SF:=(aT (bc 1<|eC<|.str aX)<|a6<|eB bG (eB aR (eW 1)<|eB oMod (eW 0)<|eC<|.int 26)<|eB aR (eW 1)<|eB oMod (eB bG (eB bG (eW 0)<|eC<|.int 1)<|eB oMod (eB oDiv (eW 0)<|eC<|.int 26)<|eC<|.int 25)<|eC<|.int 26)
def dB:γ D->Res D:=fn 1 2 f7
def jz:SF:=(aT (Mq (aE KH.dW<|aa (aE KG.b9<|aa (eV 0)<|aa (eC<|.int 0) aC)<|aa (eL<|cu<|aa (eC<|.int 2)<|aa (eC<|.int 6)<|aa (eC<|.int 12)<|aa (eB nF (eC<|.int 10)<|eC<|.int 60) aC) aC)<|Kf [1,2,3,4])<|aT (bc 2<|eB bG (eW 2)<|eC<|.int 1)<|aT (bc 3<|eB bG (eW 3)<|eC<|.int 1)<|aT (bc 5<|eC<|.str signs)<|aT (bc 6<|aE KH.dW<|aa (aE KG.b9<|aa (eV 0)<|aa (eC<|.int 1) aC)<|aa (eL<|Nv (cu<|aa (eC<|.int 29) aC)<|eB fT (eW 2)<|eW 3) aC)<|aT (gZ (tE<|eB oEq (eW 1)<|eC<|.int 0) (aT (bc 2<|eB aR (eL<|cu<|aa (eC<|.int 1)<|aa (eC<|.int 2)<|aa (eC<|.int 1)<|aa (eC<|.int 2)<|aa (eC<|.int 3)<|aa (eC<|.int 2) aC)<|eB qO (eW 2)<|eC<|.int 1)<|aT (bc 3<|eB aR (eL<|cu<|aa (eC<|.int 3)<|aa (eC<|.int 4)<|aa (eC<|.int 5)<|aa (eC<|.int 2)<|aa (eC<|.int 1)<|aa (eC<|.int 4)<|aa (eC<|.int 6)<|aa (eC<|.int 3)<|aa (eC<|.int 2)<|aa (eC<|.int 3)<|aa (eC<|.int 4)<|aa (eC<|.int 5) aC)<|eB qO (eW 3)<|eC<|.int 1)<|aT (bc 5<|eB bG (eC<|.str [46,46,46,46,46,61,35])<|aE dB<|aa (eV 4) aC)<|bc 6<|eL<|bU (dS<|aE dO<|aa (aE KG.b9<|aa (eV 0)<|aa (eC<|.int 1) aC)<|aa (eB fT (eW 2)<|eW 3) aC) 1 [] (aW 0) cb<|eB oMod (eB oDiv (eW 0)<|eC<|.int 3)<|eC<|.int 9) bA)<|aT (oy 7<|cu aC)<|aT (jh (fW<|eV 2) (aW 8)<|d7 7<|eB rO (eC<|.str [])<|eL<|bU (dS<|eL<|Nu (eW 6) (su<|eB fT (eW 8)<|eW 3)<|su<|eB fT (eB bG (eW 8)<|eC<|.int 1)<|eW 3) 1 [5] (aW 0) cb<|eB aR (eW 1)<|eW 0)<|a6<|eU g!<|eW 7)
def jZ:γ D->Res D:=fn 1 9 jz
theorem Bi(x0:D):jZ [x0]=bR (jz [AC (.val x0),At,At,At,At,At,At,At,At]):=cT _ _ _ _ rfl
def nj:SF:=(aT (Mq (aE KH.dW<|aa (eV 1)<|aa (eL<|cu<|aa (eC<|.int 12)<|aa (eC<|.int 3)<|aa (eC<|.int 27)<|aa (eC<|.int 7)<|aa (eC<|.int 64)<|aa (eC<|.int 37) aC) aC)<|Kf [2,3,4,5,6,7])<|aT (bc 8<|aE KH.dW<|aa (eB oDiv (eW 1)<|eC<|.int 16111872)<|aa (eL<|GC (eL<|cu<|aa (eB nF (eC<|.int 10)<|eC<|.int 60) aC)<|eL<|Nv (cu<|aa (eB qO (eB nF (eC<|.int 10)<|eC<|.int 60)<|eC<|.int 1) aC)<|eC<|.int 6) aC)<|aT (bc 7<|eB oMod (eW 7)<|eB bG (eB fT (eB bG (eW 2)<|eC<|.int 1)<|eB bG (eW 3)<|eC<|.int 1)<|eC<|.int 1)<|aT (bc 4<|eB aR (eL<|cu<|aa (eC<|.str [])<|aa (eB aR (eC<|.str aX)<|eB qO (eW 4)<|eC<|.int 1) aC)<|eU yw<|eB ED (eW 4)<|eC<|.int 0)<|aT (bc 9<|eL<|bU (fW<|eC<|.int 6) 1 [6,8] (aW 0) (tE<|eB oEq (eB oMod (eB oDiv (eW 1)<|eB aR (eL<|cu<|aa (eC<|.int 1)<|aa (eC<|.int 2)<|aa (eC<|.int 4)<|aa (eC<|.int 8)<|aa (eC<|.int 16)<|aa (eC<|.int 32) aC)<|eW 0)<|eC<|.int 2)<|eC<|.int 1)<|dZ<|aa (eV 0)<|aa (eB bG (eC<|.int 1)<|eB aR (eW 2)<|eB bG (eC<|.int 1)<|eW 0) aC)<|a6<|dZ<|aa (eV 0)<|aa (eB bG (eW 2)<|eC<|.int 1)<|aa (eB bG (eW 3)<|eC<|.int 1)<|aa (eV 4)<|aa (eV 7)<|aa (eV 5)<|aa (eB aR (eW 8)<|eC<|.int 0)<|aa (eU g!<|eW 9) aC)
def lz:γ D->Res D:=fn 2 10 nj
theorem Dl(x0 x1:D):lz [x0,x1]=bR (nj [AC (.val x0),AC (.val x1),At,At,At,At,At,At,At,At]):=cT _ _ _ _ rfl
def j4:SF:=(aT (bc 3<|aE dO<|aa (eV 1)<|aa (eC<|.int 9) aC)<|aT (bc 4<|eB aR (eL<|cu<|aa (eC<|.int 1)<|aa (eC<|.int 2)<|aa (eC<|.int 1)<|aa (eC<|.int 3)<|aa (eC<|.int 2)<|aa (eC<|.int 1)<|aa (eC<|.int 2)<|aa (eC<|.int 1) aC)<|eB oMod (eB oDiv (eB aR (eW 3)<|eC<|.int 0)<|eC<|.int 5)<|eC<|.int 8)<|aT (bc 5<|eB aR (eL<|cu<|aa (eC<|.int 1)<|aa (eC<|.int 1)<|aa (eC<|.int 2)<|aa (eC<|.int 1)<|aa (eC<|.int 1)<|aa (eC<|.int 1)<|aa (eC<|.int 1)<|aa (eC<|.int 2) aC)<|eB oMod (eB oDiv (eB aR (eW 3)<|eC<|.int 1)<|eC<|.int 5)<|eC<|.int 8)<|aT (bc 6<|eB aR (eL<|cu<|aa (eC<|.str [])<|aa (eC<|.str [])<|aa (eC<|.str [])<|aa (eB aR (eW 2)<|eC<|.int 0)<|aa (eC<|.str [])<|aa (eB aR (eW 2)<|eC<|.int 1) aC)<|eB oMod (eB oDiv (eB aR (eW 3)<|eC<|.int 2)<|eC<|.int 5)<|eC<|.int 6)<|aT (bc 7<|eB MZ (eB aR (eL<|cu<|aa (eC<|.int 0)<|aa (eC<|.int 0)<|aa (eC<|.int 1)<|aa (eC<|.int 0)<|aa (eC<|.int 0)<|aa (eC<|.int 0) aC)<|eB oMod (eB oDiv (eB aR (eW 3)<|eC<|.int 3)<|eC<|.int 5)<|eC<|.int 6)<|eB fT (eW 4)<|eW 5)<|aT (bc 8<|eB aR (eL<|cu<|aa (eC<|.int 0)<|aa (eC<|.int 1)<|aa (eC<|.int 0)<|aa (eC<|.int 0)<|aa (eC<|.int 1)<|aa (eC<|.int 0)<|aa (eC<|.int 0)<|aa (eC<|.int 2) aC)<|eB oMod (eB oDiv (eB aR (eW 3)<|eC<|.int 4)<|eC<|.int 5)<|eC<|.int 8)<|aT (bc 9<|eB aR (eL<|cu<|aa (eB oMod (eB oDiv (eB aR (eW 3)<|eC<|.int 5)<|eC<|.int 5)<|eC<|.int 4)<|aa (eB fT (eB aR (eW 3)<|eC<|.int 6)<|eB nF (eC<|.int 10)<|eC<|.int 50) aC)<|eU yw<|eB oEq (eB oMod (eB oDiv (eB aR (eW 3)<|eC<|.int 5)<|eC<|.int 20)<|eC<|.int 6)<|eC<|.int 5)<|aT (oy 10<|cu aC)<|aT (jh (fW<|eC<|.int 6) (aW 11)<|gZ (tE<|eB oEq (eB oMod (eB oDiv (eB aR (eW 3)<|eC<|.int 7)<|eB bG (eC<|.int 3)<|eB fT (eC<|.int 2)<|eW 11)<|eC<|.int 4)<|eC<|.int 1) (d7 10<|dZ<|aa (eV 11)<|aa (eB bG (eC<|.int 1)<|eB oMod (eB oDiv (eB aR (eW 3)<|eC<|.int 8)<|eB bG (eC<|.int 2)<|eW 11)<|eC<|.int 3) aC) bA)<|a6<|dZ<|aa (eV 0)<|aa (eV 4)<|aa (eV 5)<|aa (eV 6)<|aa (eV 7)<|aa (eV 8)<|aa (eV 9)<|aa (eU g!<|eW 10) aC)
def i6:γ D->Res D:=fn 3 12 j4
theorem yW(x0 x1 x2:D):i6 [x0,x1,x2]=bR (j4 [AC (.val x0),AC (.val x1),AC (.val x2),At,At,At,At,At,At,At,At,At]):=cT _ _ _ _ rfl
def i_:SF:=(aT (bc 3<|aE dB<|aa (eB oMod (eB oDiv (aE KG.b9<|aa (eV 0)<|aa (eC<|.int 0) aC)<|eC<|.int 144)<|eB nF (eC<|.int 10)<|eC<|.int 60) aC)<|aT (oy 4<|cu aC)<|aT (jh (fW<|eU cL<|eW 2) (aW 5)<|aT (bc 6<|aE KG.b9<|aa (eV 0)<|aa (eB bG (eW 1)<|eW 5) aC)<|gZ (vL (tE<|eB oEq (eB oMod (aE KG.b9<|aa (eV 0)<|aa (eC<|.int 0) aC)<|eC<|.int 2)<|eC<|.int 1)<|tE<|eB ED (eB oMod (eW 6)<|eC<|.int 3)<|eC<|.int 0) (d7 4<|aE lz<|aa (eB aR (eW 2)<|eW 5)<|aa (eB oDiv (eW 6)<|eC<|.int 3) aC)<|d7 4<|aE i6<|aa (eB aR (eW 2)<|eW 5)<|aa (eB bG (eB oDiv (eW 6)<|eC<|.int 3)<|eB fT (eB fT (eC<|.int 7)<|eW 5)<|eW 5)<|aa (eV 3) aC)<|a6<|eU g!<|eW 4)
def ir:γ D->Res D:=fn 3 7 i_
theorem we(x0 x1 x2:D):ir [x0,x1,x2]=bR (i_ [AC (.val x0),AC (.val x1),AC (.val x2),At,At,At,At]):=cT _ _ _ _ rfl
def gM:SF:=(aT (oy 2<|cu aC)<|aT (jh (fW<|eB bG (eB qO (eU cL<|eW 0)<|eB aR (eW 1)<|eC<|.int 2)<|eC<|.int 1) (aW 3)<|jh (fW<|eB bG (eB qO (eU cL<|eB aR (eW 0)<|eC<|.int 0)<|eB aR (eW 1)<|eC<|.int 1)<|eC<|.int 1) (aW 4)<|aT (bc 5<|eB rO (eC<|.str [])<|eL<|bU (dS<|Hz (eW 0) (su<|eW 3)<|su<|eB bG (eW 3)<|eB aR (eW 1)<|eC<|.int 2) 1 [4,1] (aW 0) cb<|Hz (eW 0) (su<|eW 1)<|su<|eB bG (eW 1)<|eB aR (eW 2)<|eC<|.int 1)<|aT (bc 6<|eL<|bU (dS<|eW 5) 1 [1] (aW 0) (vL (tE<|eB pP (eW 0)<|eC<|.str [46,61])<|tE<|eB sS (eW 0)<|eB aR (eW 1)<|eC<|.int 3)<|eV 0)<|gZ (vL (tE<|eB oEq (eW 6)<|eL<|cu aC)<|tE<|eB Th (eB w8 (eW 5)<|eC<|.str [61])<|eB aR (eW 1)<|eC<|.int 4) (d7 2<|dZ<|aa (eV 3)<|aa (eV 4) aC) bA)<|ub 2<|a6<|eV 2)
def dU:γ D->Res D:=fn 2 7 gM
def o5:SF:=(aT (bc 3<|eC<|.int 1)<|aT (jh (dS<|eV 1) (aW 4)<|gZ (tE<|eB (yy AT) (eB aR (eW 4)<|eC<|.int 0)<|eM 1 2) (bc 3<|eB fT (eW 3)<|eB bG (eC<|.int 1)<|eU cL<|aE dU<|aa (eV 0)<|aa (eV 4) aC) bA)<|a6<|eV 3)
def eN:γ D->Res D:=Di [AT,AT,Ch] 5 o5
theorem Bh(x0:D)(x1:D)(k2:γ (Sum Int<|γ Nat))(v2:γ D):eN [x0,x1,.dct k2 v2]=bR (o5 [AC (.val x0),AC (.val x1),AC (.bor<|.dct k2 v2),At,At]):=xw _ _ _ _ rfl
def jd:XF:=(jf (bc 3<|aE KB.jX<|aa (eV 0)<|aa (eV 1)<|aa (eV 2) aC) vE<|jf (gZ (tE<|eB ED (eW 3)<|eC<|.int 2000) mn bA) (zH (tE<|eB ED (eW 3)<|eC<|.int 2000) (kS [84,111,111,71,114,101,97,116] [[109,97,110,121],[109,111,115,116]]<|aa (eV 3)<|aa (eC<|.int 2000) aC) vE) vE)
def gH:γ D->ε XN:=fx 3 4 jd
theorem sH(x0 x1 x2:D):gH [x0,x1,x2]=jd [AC (.val x0),AC (.val x1),AC (.val x2),At]:=Wy _ _ _ _ rfl
def je:XF:=(jf (bc 3<|aE KB.eA<|aa (eV 0)<|aa (eV 1)<|aa (eV 2) aC) (fg gH<|aa (eV 0)<|aa (eV 1)<|aa (eV 2) aC) vE)
def gJ:γ D->ε XN:=fx 3 4 je
theorem sI(x0 x1 x2:D):gJ [x0,x1,x2]=je [AC (.val x0),AC (.val x1),AC (.val x2),At]:=Wy _ _ _ _ rfl
def jP:XF:=(jf (gZ (gb<|tE<|aE KS.c_<|aa (eV 1) aC) mn bA) (zH (gb<|tE<|aE KS.c_<|aa (eV 1) aC) (kT [78,111,71,114,111,117,112]<|eC<|.str L7) vE)<|jf (gZ (tE<|eB sT (eB aR (eW 1)<|eC<|.int 0)<|eL<|bU (dS<|eU (fA [103,117,101,115,116,115])<|eM 0 0) 1 [] (aW 0) cb<|eB aR (eW 0)<|eC<|.int 0) mn bA) (zH (tE<|eB sT (eB aR (eW 1)<|eC<|.int 0)<|eL<|bU (dS<|eU (fA [103,117,101,115,116,115])<|eM 0 0) 1 [] (aW 0) cb<|eB aR (eW 0)<|eC<|.int 0) (kT [84,119,105,99,101]<|eC<|.str t_1) vE)<|jf (bc 2<|eB bG (eU (fA [103,117,101,115,116,115])<|eM 0 0)<|dZ<|aa (eV 1) aC) vE<|jf (gZ (tE<|eB ED (eU cL<|eW 2)<|eC<|.int 6) mn bA) (zH (tE<|eB ED (eU cL<|eW 2)<|eC<|.int 6) (kS [84,111,111,71,114,101,97,116] [[109,97,110,121],[109,111,115,116]]<|aa (eU cL<|eW 2)<|aa (eC<|.int 6) aC) vE)<|jf (bc 3<|eB bG (eU (fA [104,101,108,100])<|eM 0 0)<|dZ<|aa (eC .non) aC) vE<|jf (bc 4<|aE KB.bS<|aa (eU (fA [104,97,108,108])<|eM 0 0)<|aa (eV 2)<|aa (eV 3) aC) (fg gJ<|aa (eU (fA [104,97,108,108])<|eM 0 0)<|aa (eV 2)<|aa (eV 3) aC)<|jf (gZ (tE<|eU kz<|eW 4) mn bA) (zH (tE<|eU kz<|eW 4) (kS [70,117,108,108] [[112,97,112,101,114]]<|aa (aE KC.iG<|aa (eU (fA [104,97,108,108])<|eM 0 0)<|aa (eV 2)<|aa (eV 3) aC) aC) vE) vE)
def gq:γ D->ε XN:=Kg [Ch,AT] 5 jP
theorem yR(k0:γ (Sum Int<|γ Nat))(v0:γ D)(x1:D):gq [.dct k0 v0,x1]=jP [AC (.bor<|.dct k0 v0),AC (.val x1),At,At,At]:=A! _ _ _ _ rfl
def mR:SM:=(bW (bj (fu 0 [Ch,AT])<|bc 2<|eC<|.str [116,97,107,101,110])<|bW (yF (jV<|eu iH [Ch,AT] [0]<|aa (eM 0 0)<|aa (eV 1) aC) (fg gq<|aa (eM 0 0)<|aa (eV 1) aC)<|PK (C6 [([70,117,108,108],Ch)]) (bj (fu 0 [Ch,AT])<|bc 2<|eC<|.str [102,117,108,108]) hNo)<|bj (fu 0 [Ch,AT])<|a6<|eV 2)
def cZ:γ D->Res (D×γ D):=zt (fu 0 [Ch,AT]) [Ch,AT] 3 mR
def e_:XF:=(jf (gZ (tE<|aE KS.cf<|aa (eV 1) aC) (jh (EZ<|eU (fA [103,117,101,115,116,115])<|eM 0 0) (jt [2,3])<|gZ (tE<|eB oEq (eB aR (eW 3)<|eC<|.int 0)<|eW 1) (a6<|eV 2) bA) bA) vE<|kT [78,111,78,97,109,101]<|eC<|.str t_2)
def bC:γ D->ε XN:=Kg [Ch,AT] 4 e_
theorem ju(k0:γ (Sum Int<|γ Nat))(v0:γ D)(x1:D):bC [.dct k0 v0,x1]=e_ [AC (.bor<|.dct k0 v0),AC (.val x1),At,At]:=A! _ _ _ _ rfl
def kR:XF:=(jf (bc 2<|aE a_<|aa (eM 0 0)<|aa (eV 1) aC) (fg bC<|aa (eM 0 0)<|aa (eV 1) aC) vE)
def i4:γ D->ε XN:=Kg [Ch,AT] 3 kR
theorem v!(k0:γ (Sum Int<|γ Nat))(v0:γ D)(x1:D):i4 [.dct k0 v0,x1]=kR [AC (.bor<|.dct k0 v0),AC (.val x1),At]:=A! _ _ _ _ rfl
def kQ:XF:=(jf (bc 2<|aE a_<|aa (eM 0 0)<|aa (eV 1) aC) (fg bC<|aa (eM 0 0)<|aa (eV 1) aC) vE)
def iZ:γ D->ε XN:=Kg [Ch,AT] 3 kQ
theorem v7(k0:γ (Sum Int<|γ Nat))(v0:γ D)(x1:D):iZ [.dct k0 v0,x1]=kQ [AC (.bor<|.dct k0 v0),AC (.val x1),At]:=A! _ _ _ _ rfl
def j6:XF:=(Xp (eU (fA [112,108,97,99,101,115])<|eM 0 0)<|fg bC<|aa (eM 0 0)<|aa (eV 1) aC)
def iq:γ D->ε XN:=Kg [Ch,AT] 2 j6
theorem uL(k0:γ (Sum Int<|γ Nat))(v0:γ D)(x1:D):iq [.dct k0 v0,x1]=j6 [AC (.bor<|.dct k0 v0),AC (.val x1)]:=A! _ _ _ _ rfl
def iB:SM:=(bW (bj (fu 0 [Ch,AT,AT])<|bc 3<|eC<|.bl AT)<|bW (yF (kB (BS<|tE<|eB oEq (eW 1)<|eC<|.int 0) (jV<|eu cI [Ch,AT] [0]<|aa (eM 0 0)<|aa (eV 2) aC)<|kB (BS<|tE<|eB oEq (eW 1)<|eC<|.int 1) (jV<|eu fO [Ch,AT] [0]<|aa (eM 0 0)<|aa (eV 2) aC)<|bj (fu 0 [Ch,AT,AT])<|Pd<|aE cw<|aa (eM 0 0)<|aa (eV 2) aC) (zH (tE<|eB oEq (eW 1)<|eC<|.int 0) (fg iZ<|aa (eM 0 0)<|aa (eV 2) aC)<|zH (tE<|eB oEq (eW 1)<|eC<|.int 1) (fg i4<|aa (eM 0 0)<|aa (eV 2) aC)<|fg iq<|aa (eM 0 0)<|aa (eV 2) aC)<|PK (C6 [([78,111,78,97,109,101],Ch)]) (bj (fu 0 [Ch,AT,AT])<|bc 3<|eC<|.bl Ch) hNo)<|bj (fu 0 [Ch,AT,AT])<|a6<|eV 3)
def fE:γ D->Res (D×γ D):=zt (fu 0 [Ch,AT,AT]) [Ch,AT,AT] 4 iB
def qo:SF:=(aT (bc 3<|aE ba<|aa (eM 0 0) aC)<|aT (bc 4<|aE bz<|aa (eM 0 0) aC)<|aT (gZ (wL (tE<|eB sT (eC .non)<|eW 4)<|wL (tE<|eB sS (eU cL<|eW 4)<|eU cL<|eW 3)<|tE<|eU EC<|aE KG.kG<|aa (eV 1)<|aa (eV 3)<|aa (eV 4) aC) (a6<|eC<|.bl AT) bA)<|aT (bc 5<|eL<|bU (dS<|eW 3) 1 [] (aW 0) cb<|eB aR (eW 0)<|eC<|.int 0)<|aT (jh (A2<|eV 2) (aW 6)<|gZ (wL (tE<|eB jn (eW 6)<|eW 5)<|wL (tE<|eB sS (eB aR (eW 4)<|eB yx (eW 5)<|eW 6)<|eB Gi (eV 2)<|eV 6)<|tE<|eB sS (aE cw<|aa (eM 0 0)<|aa (eV 6) aC)<|eB Gi (eV 2)<|eV 6) (a6<|eC<|.bl AT) bA)<|a6<|eC<|.bl Ch)
def fD:γ D->Res D:=Di [Ch,AT,AT] 7 qo
theorem wb(k0:γ (Sum Int<|γ Nat))(v0:γ D)(x1:D)(x2:D):fD [.dct k0 v0,x1,x2]=bR (qo [AC (.bor<|.dct k0 v0),AC (.val x1),AC (.val x2),At,At,At,At]):=xw _ _ _ _ rfl
def fX:γ D->Res D:=HU fD
def iJ:SM:=(bW (bj (fu 0 [Ch,Ch,AT,AT])<|bc 4<|aE bz<|aa (eM 0 0) aC)<|bW (kB (BS<|tE<|eB oLt (eB oMod (eW 3)<|eC<|.int 4)<|eC<|.int 2) (bW (JD 1 (eV 2)<|aE cw<|aa (eM 0 0)<|aa (eV 2) aC)<|bW (jV<|eu cI [Ch,AT] [0]<|aa (eM 0 0)<|aa (eV 2) aC)<|bW (jV<|eu cI [Ch,AT] [0]<|aa (eM 0 0)<|aa (eV 2) aC)<|bj (fu 0 [Ch,Ch,AT,AT])<|a6<|eB oEq (aE bz<|aa (eM 0 0) aC)<|eW 4) kA)<|bW (kB (BS<|tE<|eB oEq (eB oMod (eW 3)<|eC<|.int 4)<|eC<|.int 2) (bW (jV<|eu cI [Ch,AT] [0]<|aa (eM 0 0)<|aa (eV 2) aC)<|bW (JD 1 (eV 2)<|aE cw<|aa (eM 0 0)<|aa (eV 2) aC)<|bj (fu 0 [Ch,Ch,AT,AT])<|a6<|eB oEq (aE bz<|aa (eM 0 0) aC)<|eW 4) kA)<|bW (kB (BS<|tE<|eB (yy Ch) (eV 2)<|eM 1 1) (jV<|Rt 1<|eV 2) kA)<|bW (jV<|eu fO [Ch,AT] [0]<|aa (eM 0 0)<|aa (eV 2) aC)<|bj (fu 0 [Ch,Ch,AT,AT])<|a6<|eB jn (eW 2)<|eL<|bU (dS<|aE ba<|aa (eM 0 0) aC) 1 [] (aW 0) cb<|eB aR (eW 0)<|eC<|.int 0)
def bX:γ D->Res (D×γ D):=zt (fu 0 [Ch,Ch,AT,AT]) [Ch,Ch,AT,AT] 5 iJ
def iT:SM:=(bW (bj (fu 0 [Ch,AT,Ch,AT,AT])<|bc 5<|dZ<|aa (aE ba<|aa (eM 0 0) aC)<|aa (aE bz<|aa (eM 0 0) aC) aC)<|bW (bj (fu 0 [Ch,AT,Ch,AT,AT])<|bc 6<|eL<|cu<|aa (eC .non)<|aa (eC<|.int 5)<|aa (eC<|.bl Ch)<|aa (dZ aC)<|aa (dZ<|aa (eB aR (eW 3)<|eC<|.int 0) aC)<|aa (eL<|cu aC)<|aa (eL<|cu<|aa (eB aR (eW 3)<|eC<|.int 0) aC)<|aa (eC<|.dct [] [])<|aa (eV 3) aC)<|bW (Nl (fu 0 [Ch,AT,Ch,AT,AT]) (dS<|eL<|cu<|aa (eB aR (eW 3)<|eC<|.int 0)<|aa (eB aR (eW 6)<|eB oMod (eB oDiv (eW 4)<|eC<|.int 96)<|eC<|.int 9) aC) (aW 7)<|kB (Ng (EK<|Lw<|eu fE [Ch,AT,AT] [0]<|aa (eM 0 0)<|aa (eB oMod (eW 4)<|eC<|.int 3)<|aa (eV 7) aC)<|BS<|tE<|eB sS (dZ<|aa (aE ba<|aa (eM 0 0) aC)<|aa (aE bz<|aa (eM 0 0) aC) aC)<|eW 5) (bj (fu 0 [Ch,AT,Ch,AT,AT])<|a6<|eC<|.bl AT) kA)<|bW (bj (fu 0 [Ch,AT,Ch,AT,AT])<|gZ (tE<|eB ED (aE eN<|aa (eV 1)<|aa (eB bG (eB aR (eW 5)<|eC<|.int 0)<|dZ<|aa (eV 3) aC)<|aa (eM 1 2) aC)<|eC<|.int 250) (a6<|eC<|.bl Ch) bA)<|bW (kB (Lw<|mB oEq (eu cZ [Ch,AT] [0]<|aa (eM 0 0)<|aa (eV 3) aC)<|mP<|eC<|.str [102,117,108,108]) (bj (fu 0 [Ch,AT,Ch,AT,AT])<|a6<|eB oEq (dZ<|aa (aE ba<|aa (eM 0 0) aC)<|aa (aE bz<|aa (eM 0 0) aC) aC)<|eW 5) kA)<|bj (fu 0 [Ch,AT,Ch,AT,AT])<|a6<|eB oEq (aE ba<|aa (eM 0 0) aC)<|eB bG (eB aR (eW 5)<|eC<|.int 0)<|dZ<|aa (eV 3) aC)
def ck:γ D->Res (D×γ D):=zt (fu 0 [Ch,AT,Ch,AT,AT]) [Ch,AT,Ch,AT,AT] 8 iT
def Lc:SF:=(aT (bc 1<|aE jZ<|aa (eV 0) aC)<|aT (bc 2<|aE i5<|aa (aE KG.b9<|aa (eV 0)<|aa (eC<|.int 2) aC)<|aa (eC<|.int 6) aC)<|aT (bc 3<|aE ir<|aa (eV 0)<|aa (eC<|.int 3)<|aa (eL<|GC (eW 2)<|eW 2) aC)<|yi 4 i7 (eV 1)<|EO [4] 5<|bW (Nl ([4]++[5]) (dS<|eL<|GC (eL<|cu<|aa (eC<|.int 0)<|aa (eC<|.int 8)<|aa (eC<|.int 17) aC)<|eL<|Nu (eW 0) (su<|eC<|.int 15)<|su<|eC<|.int 28) (aW 6)<|bW (bj ([4]++[5])<|bc 7<|eB aR (eW 3)<|eB oMod (eB oDiv (eW 6)<|eC<|.int 8)<|eC<|.int 12)<|bW (kB (BS<|tE<|eB sT (eB aR (eW 7)<|eC<|.int 0)<|eL<|bU (dS<|aE ba<|aa (eM 0 4) aC) 1 [] (aW 0) cb<|eB aR (eW 0)<|eC<|.int 0) (CQ 8<|eu bX [Ch,Ch,AT,AT] [4,5]<|aa (eM 0 4)<|aa (eM 1 5)<|aa (eB aR (eW 7)<|eC<|.int 0)<|aa (eV 6) aC)<|CQ 8<|eu ck [Ch,AT,Ch,AT,AT] [4,5]<|aa (eM 0 4)<|aa (eV 1)<|aa (eM 1 5)<|aa (eV 7)<|aa (eV 6) aC)<|bj ([4]++[5])<|gZ (wL (gb<|tE<|eV 8)<|gb<|tE<|aE fX<|aa (eM 0 4)<|aa (eV 1)<|aa (eM 1 5) aC) (a6<|eC<|.bl AT) bA)<|bj ([4]++[5])<|a6<|eC<|.bl Ch)
def qY:γ D->Res D:=fn 1 9 Lc
theorem Sd(x0:D):qY [x0]=bR (Lc [AC (.val x0),At,At,At,At,At,At,At,At]):=cT _ _ _ _ rfl
end gV
namespace gV
open Z
abbrev r8:γ Nat:=[78,111,78,97,109,101]
abbrev P4:γ Nat:=[70,117,108,108]
abbrev dk(x:Nat)(hall gs hl ps:D):D:=.dct [.inl (x:Int),.inl 0,.inr [104,97,108,108],.inr [103,117,101,115,116,115],.inr [104,101,108,100],.inr [112,108,97,99,101,115]] [hall,gs,hl,ps]
theorem eqT(s t:γ Nat):oEq (.str s) (.str t)=.ok (.bl<|decide<|s=t):=by have:iO (.str s) (.str t)=AC _:=rfl;unfold oEq;rw[this];simp only[Res.ok.injEq,D.bl.injEq];exact A53.mpr ∅
def lV(d:D):γ Nat:=match aR d (.int 0)with
|.ok<|.str n=>n
|_=>[]
def zx(g:D):Prop:=aR g (.int 0)=.ok (.str<|lV g)
abbrev Gj:SF:=gZ (tE<|eB oEq (eB aR (eW 3)<|eC<|.int 0)<|eW 1) (a6<|eV 2) bA
theorem uu(h:zx g)(i:Nat)(d:D)(a b:ε L)(r:γ D):fv (jt [2,3]) Gj (pair (.int<|i) g::r) [AC (.bor d),v (.str n),a,b]=if lV g=n then .ok (.rt<|.int<|i)else fv (jt [2,3]) Gj r [AC (.bor d),v (.str n),v (.int<|i),v g]:=by
 have gX:∀ρ,jt [2,3] (.tup [.int (i),g]) ρ=.ok _:=λ ρ=>rfl;by_cases c:lV g=n
 .rw[M2 c];simp[fv,pair,Gj,(show aR g _=.ok _ from h),eqT,c]
 .rw[W1 c];simp[fv,pair,gX,Gj,(show aR g _=.ok _ from h),eqT,c]
theorem M4(h:∀d∈as++g::bs,zx d)(hm:∀a∈as,lV a≠n)(hg:lV g=n)(d:D):∀i a b,fv (jt [2,3]) Gj (lZ i<|as++g::bs) [AC (.bor d),v (.str n),a,b]=.ok (.rt<|.int<|(i+as.length:Nat)):=by
 induction as with
 |nil=>intro i a b;exact(uu (h g ∅) i d a b _).trans<|M2 hg
 |cons y as ih=>intro i a b;refine(uu (h y ∅) i d a b _).trans ?_;rw[W1<|hm y A12];refine(ih (λ z hz=>h z<|A09 _ hz) (λ z hz=>hm z<|A09 _ hz) _ _ _).trans ?_;rw[A33,show i+1+as.length=i+(as.length+1)by lia]
theorem AA(d:D):∀gs i a b,(∀g∈gs,zx g)->(∀a∈gs,lV a≠n)->∃a' b',fv (jt [2,3]) Gj (lZ i gs) [AC (.bor d),v (.str n),a,b]=.ok (.nx [AC (.bor d),v (.str n),a',b'])
|[],i,a,b,_,_=>⟨a,b,rfl⟩
|y::gs,i,a,b,h,hm=>by let⟨a',b',e⟩:=AA d gs (i+1) (v<|.int<|i) (v y) (λ z hz=>h z<|A09 _ hz) (λ z hz=>hm z<|A09 _ hz);refine⟨a',b',(uu (h y A12) i d a b _).trans ?_⟩;rw[W1<|hm y A12];exact e
theorem Rg(e:KS.cf [.str n]=.ok (.bl Ch))(h:∀d∈as++g::bs,zx d)(hm:∀a∈as,lV a≠n)(hg:lV g=n):a_ [dk x hall (.tup<|as++g::bs) hl ps,.str n]=.ok (.int<|as.length):=by rw[qa];refine aP ?_;have:=M4 h hm hg (dk x hall (.tup<|as++g::bs) hl ps) 0 At At;rw[B11]at this;simp[ic,e,eM,fA,hJ,this]
theorem Vg(e:KS.cf [.str n]=.ok (.bl Ch))(h:∀g∈gs,zx g)(hm:∀a∈gs,lV a≠n):bC [dk x hall (.tup gs) hl ps,.str n]=AC (r8,[]):=by rw[ju];let⟨a',b',q⟩:=AA (dk x hall (.tup gs) hl ps) gs 0 At At h hm;simp[e_,jf,kT,vE,e,eM,fA,hJ,q]
theorem lx:ba [dk x hall gs hl ps]=.ok gs:=by rw[sN];refine aP ?_;simp[jD,eM,fA,hJ]
theorem eP:bz [dk x hall gs hl ps]=.ok ps:=by rw[sM];refine aP ?_;simp[jC,eM,fA,hJ]
theorem tI(h:a_ [dk x hall gs hl ps,.str n]=.ok k)(hp:aR ps k=.ok d):cw [dk x hall gs hl ps,.str n]=.ok d:=by rw[wq];refine aP ?_;simp[lP,eM,fA,hJ,h,hp]
theorem E?(h:a_ [dk x hall gs hl ps,.str n]=.ok k)(hp:aR ps k=.ok d)(hw:KH.cH [hl,k,d]=.ok N0):cI [dk x hall gs hl ps,.str n]=.ok (.non,[dk x hall gs N0 ps]):=by unfold cI;rw[lX _ _ _ _ _ rfl];have s0:startB 3 [Ch,AT] [dk x hall gs hl ps,.str n]=[AC (.bor _),v _,At]:=rfl;rw[s0];simp[r9,bW,bj,nG,h,hw,hp,eM,fA,hJ,vO,fS,dE,cM,lg,vB,line,guard_pos,fu];rfl
theorem OM(h:a_ [dk x hall gs hl ps,.str n]=.ok k)(h1:eT [gs,k]=.ok J?)(h2:eT [hl,k]=.ok N0)(h3:KB.bS [hall,J?,N0]=.ok ud):fO [dk x hall gs hl ps,.str n]=.ok (.non,[dk x hall J? N0 ud]):=by unfold fO;rw[lX _ _ _ _ _ rfl];have s0:startB 3 [Ch,AT] [dk x hall gs hl ps,.str n]=[AC (.bor _),v _,At]:=rfl;rw[s0];simp[r!,bW,bj,nG,h,h1,h2,h3,eM,fA,hJ,vO,fS,dE,cM,lg,vB,line,guard_pos,fu];rfl
section
variable{gs hs:γ D}
theorem Me(h:KB.jX [a,b,c]=.ok (.int W))(hW:W<=2000):gH [a,b,c]=At:=by rw[sH];have:decide (2000<W)=AT:=A28 ∅;simp[jd,jf,zH,vE,h,this]
theorem SE(h:KB.jX [a,b,c]=.ok (.int W))(hW:W<=2000):gJ [a,b,c]=At:=by have:=Me h hW;rw[sI];simp[je,jf,fg,this];split<;>first|rfl|(split<;>rfl)
theorem mw(h:∀g∈gs,zx g)(ρ:Env)(hρ:ρ.length=1):cF (aW 0) cb (eB aR (eW 0)<|eC<|.int 0) ρ gs=.ok (gs.map λ g=>.str<|lV g):=by
 have:Ok (cF (aW 0) cb (eB aR (eW 0)<|eC<|.int 0) ρ gs) λ ds=>ds=gs.map λ g=>.str (lV g):=by
  match ρ,hρ with
  |[a],_=>refine comp_map _ (λ d hd=>?_) rfl;have:=h d hd;unfold zx at this;simp[this]
 exact this.eq
theorem xK(n:γ Nat):∀ms:γ _,fK (.str n) (ms.map .str)=AC (decide<|n∈ms)
|[]=>rfl
|m::ms=>by
 have e:iO (.str m) (.str n)=AC _:=rfl;have ih:=xK n ms;by_cases c:n=m
 .subst c;simp[fK,e,ih]
 .simp[fK,e,ih,c,A07 c]
theorem pV(n:γ Nat)(ms:γ _):sT (.str n) (.lst<|ms.map .str)=.ok (.bl<|decide<|n∈ms)/\jn (.str n) (.lst<|ms.map .str)=.ok (.bl<|!decide (n∈ms)):=by
 have:=xK n ms;constructor
 .simp[sT,this]
 .simp[jn,this]
theorem Fu(hg:KS.c_ [g]=.ok (.bl Ch))(e0:zx g)(hn:∀g∈gs,zx g)(hm:∀y∈gs,lV y≠lV g):sT (.str<|lV g) (.lst<|gs.map λ g=>.str<|lV g)=.ok (.bl AT):=by have:=(pV (lV g)<|gs.map lV).1;rw[A16]at this;refine this.trans ?_;rw[A28];intro h;let⟨y,hy,e⟩:=A03.mp h;exact hm y hy e
theorem SI(hg:KS.c_ [g]=.ok (.bl Ch))(e0:zx g)(hn:∀g∈gs,zx g)(hm:∀y∈gs,lV y≠lV g)(h5:gs.length<=5)(h5':hs.length<=5)(hb:KB.bS [hall,.tup (gs++[g]),.tup (hs++[.non])]=.ok ud)(hp:kz ud=.ok (.bl AT))(hd:aR ud (.int<|-1)=.ok d):
 iH [dk x hall (.tup gs) (.tup hs) ps,g]=.ok (d,[dk x hall (.tup<|gs++[g]) (.tup<|hs++[.non]) ud]):=by
 have YT:aR g (.int 0)=.ok (.str<|lV g):=e0;have C?:=Fu hg e0 hn hm;have cg:=λ ρ hρ=>mw hn ρ hρ;unfold iH;rw[lX _ _ _ _ _ rfl];have s0:startB 5 [Ch,AT] [dk x hall (.tup gs) (.tup hs) ps,g]=[AC (.bor<|dk x hall (.tup gs) (.tup hs) ps),v g,At,At,At]:=rfl;rw[s0];have l6:decide (6<(((gs++[g]).length)))=AT:=A28 (by rw[A30];simp;lia);have q0:gs.length<=16777216:=by lia
 have q1:gs.length<=16777215:=by lia
 have q2:hs.length<=16777215:=by lia
 have q3:decide (6<(gs.length:Int)+1)=AT:=A28 ∅;simp[vg,bW,bj,nG,hg,YT,hd,hb,hp,C?,bB,fF,cg,q0,q1,q2,q3,l6,eM,fA,hJ,vO,fS,dE,cM,lg,vB,line,guard_pos,fu];rfl
theorem P7{r:ε XN}(hg:KS.c_ [g]=.ok (.bl Ch))(e0:zx g)(hn:∀g∈gs,zx g)(hm:∀y∈gs,lV y≠lV g)(h5:gs.length<=5)(h5':hs.length<=5)(hw:KB.jX [hall,.tup (gs++[g]),.tup (hs++[.non])]=.ok (.int W))(hW:W<=2000)(hb:KB.bS [hall,.tup (gs++[g]),.tup (hs++[.non])]=.ok ud)
 (hr:(kz ud=.ok (.bl AT)/\r=At)\/∃pp,ud=.non/\KC.iG [hall,.tup (gs++[g]),.tup (hs++[.non])]=.ok pp/\r=AC (P4,[([112,97,112,101,114],pp)])):gq [dk x hall (.tup gs) (.tup hs) ps,g]=r:=by
 have YT:aR g (.int 0)=.ok (.str<|lV g):=e0;have C?:=Fu hg e0 hn hm;have cg:=λ ρ hρ=>mw hn ρ hρ;have bx:=SE hw hW;have q0:gs.length<=16777216:=by lia
 have q1:gs.length<=16777215:=by lia
 have q2:hs.length<=16777215:=by lia
 have q3:decide (6<(gs.length:Int)+1)=AT:=A28 ∅;rw[yR];rcases hr with⟨hp,rfl⟩|⟨pp,rfl,hpp,rfl⟩
 .simp[jP,jf,zH,vE,fg,kT,kS,hg,YT,C?,hb,hp,bx,bB,fF,cg,q0,q1,q2,q3,eM,fA,hJ,dE,line,guard_pos]
 .have hp:kz .non=.ok (.bl Ch):=rfl;simp[jP,jf,zH,vE,fg,kT,kS,hg,YT,C?,hb,hp,hpp,bx,bB,fF,cg,q0,q1,q2,q3,eM,fA,hJ,dE,line,guard_pos]
theorem fR(d:D):Xy (AC<|some<|.bor d)=d:=rfl
end
end gV
namespace gV
open Z
open KG (G GO Pl Rows Hall gW GOk aZ a! cN bo places)
open KH (aO aF Good)
open KB (cq fL cB)
abbrev jF:=γ<|γ Nat×D
abbrev dd(a:Nat)(kv:jF):D:=.dct (.inl a::.inl 1::kv.map λ p=>.inr p.1) (kv.map (·.2))
theorem sY(c:γ Nat):∀kv:jF,hJ (kv.map λ p=>.inr p.1) (kv.map (·.2)) c=match kv.lookup c with|some d=>.ok d|none=>.bad
|[]=>rfl
|(k,d)::kv=>by
 have ih:=sY c kv;by_cases h:k=c
 .subst h;simp[hJ]
 .have:(c==k)=AT:=by simpa using A07 h
  simp[hJ,h,ih,Fa,this]
def bg(c:γ Nat)(d:D):jF->jF
|[]=>[(c,d)]
|(k,e)::r=>if k=c then(k,d)::r else(k,e)::bg c d r
theorem Em(c:γ Nat)(d:D):∀kv,fS c d (kv.map λ p=>.inr p.1) (kv.map (·.2))=((bg c d kv).map λ p=>.inr p.1,(bg c d kv).map (·.2))
|[]=>rfl
|(k,e)::kv=>by
 have ih:=Em c d kv;by_cases h:k=c
 .simp[fS,bg,h]
 .simp[fS,bg,h,ih]
theorem Ek(c:γ Nat)(d:D)(n:γ Nat):∀kv,(bg c d kv).lookup n=if n=c then AC d else kv.lookup n
|[]=>by
 by_cases h:n=c
 .simp[bg,h]
 .have:(n==c)=AT:=by simpa using h
  simp[bg,h]
|(k,e)::kv=>by
 have ih:=Ek c d n kv;by_cases h:k=c
 .subst h;by_cases q:n=k
  .subst q;simp[bg]
  .have:(n==k)=AT:=by simpa using q
   simp[bg,Fa,this,q]
 .by_cases q:n=k
  .subst q;simp[bg,h]
  .have:(n==k)=AT:=by simpa using q
   simp[bg,h,Fa,this,ih]
theorem Ad(c:γ Nat)(d:D)(n:γ Nat):∀kv,n∈(bg c d kv).map (·.1)->n=c\/n∈kv.map (·.1)
|[],h=>by simpa[bg]using h
|(k,e)::kv,h=>by
 by_cases q:k=c
 .simp[bg,q]at h;rcases h with h|h
  .exact .inl h
  .exact .inr (by simp;exact .inr h)
 .simp[bg,q]at h;rcases h with h|h
  .exact .inr (by simp[h])
  .rcases Ad c d n kv (by simpa using h)with h|h
   .exact .inl h
   .exact .inr<|A09 _ h
theorem Ej(c:γ Nat)(d:D):∀kv,(kv.map (·.1)).Nodup->((bg c d kv).map (·.1)).Nodup
|[],_=>by simp[bg]
|(k,e)::kv,h=>by
 have h':=A17.mp h;by_cases q:k=c
 .simpa[bg,q]using(by simpa[q]using h)
 .rw[show bg c d _=(k,e)::bg c d kv by simp[bg,q]];refine A17.mpr ⟨λ m=>?_,Ej c d kv h'.2⟩;rcases Ad c d k kv m with z|z
  .exact q z
  .exact h'.1 z
theorem Ae(c:γ Nat)(d:D):∀kv,(bg c d kv).length<=kv.length+1
|[]=>by simp[bg]
|(k,e)::kv=>by
 have:=Ae c d kv;by_cases q:k=c
 .simp[bg,q]
 .simp[bg,q];lia
def bO(c:γ Nat):jF->jF
|[]=>[]
|(k,e)::r=>if k=c then r else(k,e)::bO c r
theorem Bq(c:γ Nat):∀kv,g9 c (kv.map λ p=>.inr p.1) (kv.map (·.2))=((bO c kv).map λ p=>.inr p.1,(bO c kv).map (·.2))
|[]=>rfl
|(k,e)::kv=>by
 have ih:=Bq c kv;by_cases h:k=c
 .simp[g9,bO,h]
 .simp[g9,bO,h,ih]
theorem xB(c:γ Nat):∀kv,(bO c kv).Sublist kv
|[]=>.slnil
|(k,e)::kv=>by
 by_cases h:k=c
 .simp[bO,h]
 .simp[bO,h];exact xB c kv
theorem Bp(c n:γ Nat):∀kv,(kv.map (·.1)).Nodup->(bO c kv).lookup n=if n=c then At else kv.lookup n
|[],_=>by simp[bO]
|(k,e)::kv,h=>by
 have h':=A17.mp h;have ih:=Bp c n kv h'.2;by_cases q:k=c
 .subst q;by_cases z:n=k
  .subst z;rw[show bO n _=kv by simp[bO],M2 rfl];exact List.lookup_eq_none_iff.mpr λ p hp=>by have:p.1≠n:=λ w=>h'.1<|w▸A03.mpr ⟨p,hp,rfl⟩;simpa using A07 this
  .have:(n==k)=AT:=by simpa using z
   simp[bO,Fa,this,z]
 .by_cases z:n=k
  .subst z;simp[bO,q]
  .have:(n==k)=AT:=by simpa using z
   simp[bO,q,Fa,this,ih]
def sG:γ GO->γ Nat->ε D
|[],_=>At
|x::r,c=>if x.1.name=c then x.2.map a! else sG r c
abbrev nms(xs:γ GO):γ (γ Nat):=xs.map (·.1.name)
theorem A9:∀{xs},c∉nms xs->sG xs c=At
|[],_=>rfl
|x::r,h=>by have h1:x.1.name≠c:=λ z=>h (by simp[z]);simp only[sG,W1 h1];exact A9 λ z=>h<|A09 _ z
theorem J9:∀{xs},(nms xs).Nodup->∀x∈xs,sG xs x.1.name=x.2.map a!
|[],_,_,h=>by cases h
|y::r,nd,x,h=>by
 have nU:=A17.mp nd;rcases A02.mp h with rfl|h
 .simp[sG]
 .have:y.1.name≠x.1.name:=λ z=>nU.1<|A03.mpr ⟨x,h,z.symm⟩;simp only[sG,W1 this];exact J9 nU.2 x h
theorem N6(h:g.name∉nms xs)(c:γ Nat):sG (xs++[(g,At)]) c=sG xs c:=by
 induction xs with
 |nil=>simp[sG]
 |cons x r ih=>simp only[C07,sG];rw[ih λ z=>h<|A09 _ z]
theorem E4:∀{xs}{k:Nat}{g}{o} p,(nms xs).Nodup->xs[k]?=AC (g,o)->∀c,sG (xs.set k (g,AC p)) c=if c=g.name then AC (a! p)else sG xs c
|[],_,_,_,_,_,h,_=>by cases h
|x::r,0,g,o,p,nd,h,c=>by
 have:=A04 h;subst this;by_cases q:c=g.name
 .subst q;simp[sG]
 .simp[sG,q,A07 q]
|x::r,k+1,g,o,p,nd,h,c=>by
 have nU:=A17.mp nd;have h':=h;have ih:=E4 p nU.2 h' c;have ne:x.1.name≠g.name:=λ z=>nU.1<|A03.mpr ⟨(g,o),A20 h',z.symm⟩;rw[ol];by_cases q:x.1.name=c
 .have:c≠g.name:=λ z=>ne<|q.trans z;simp[sG,q,this]
 .simp[sG,q,ih]
theorem xq:∀{xs}{k}{x},(nms xs).Nodup->xs[k]?=AC x->∀c,sG (xs.eraseIdx k) c=if c=x.1.name then At else sG xs c
|[],_,_,_,h,_=>by cases h
|y::r,0,x,nd,h,c=>by
 have:=A04 h;subst this;have nU:=A17.mp nd;by_cases q:c=y.1.name
 .subst q;simp[A9 nU.1]
 .simp[sG,q,A07 q]
|y::r,k+1,x,nd,h,c=>by
 have nU:=A17.mp nd;have h':=h;have ih:=xq nU.2 h' c;have ne:y.1.name≠x.1.name:=λ z=>nU.1<|A03.mpr ⟨x,A20 h',z.symm⟩;rw[C57];by_cases q:y.1.name=c
 .have:c≠x.1.name:=λ z=>ne<|q.trans z;simp[sG,q,this]
 .simp[sG,q,ih]
structure S3(kv:jF)(xs:List GO):Prop where
 nd:(kv.map (·.1)).Nodup
 eq:∀c,kv.lookup c=sG xs c
theorem yQ(g:G):aR (aZ g) (.int 0)=.ok (.str g.name):=rfl
theorem yC(g:G):zx (aZ g):=rfl
theorem PD(b:Bool)(a:Nat)(kv:jF)(c:γ Nat):yy b (.str c) (dd a kv)=.ok (.bl<|if(kv.lookup c).isSome then b else !b):=by simp only[yy,guard_pos,sY];cases kv.lookup c<;>rfl
theorem F7(H:Hall rows C)(k:GOk g):dU [bo rows,aZ g]=.ok (.lst<|(places rows C g).map a!):=KN.qT H k
theorem Cy(H:Hall rows C)(g:G):(places rows C g).length<=10000:=by
 have h1:(places rows C g).length<=rows.length*C:=by rw[<-KG.ny];exact A70 _ _
 have:=A65 H.r2 H.c2;lia
abbrev HK:SF:=gZ (tE<|eB (yy AT) (eB aR (eW 4)<|eC<|.int 0)<|eM 1 2) (bc 3<|eB fT (eW 3)<|eB bG (eC<|.int 1)<|eU cL<|aE dU<|aa (eV 0)<|aa (eV 4) aC) bA
theorem xO(H:Hall rows C)(X1:D):∀ys n l,(∀x∈ys,GOk x.1)->(∀x∈ys,kv.lookup x.1.name=x.2.map a!)->∃l',fv (aW 4) HK (ys.map λ x=>aZ x.1) [v (bo rows),v X1,AC (.bor<|dd a kv),v (.int (n:Nat)),l]=.ok (.nx [v (bo rows),v X1,AC (.bor<|dd a kv),v (.int<|(n*cq rows C ys:Nat)),l'])
|[],n,l,_,_=>⟨l,by simp[fv,cq,cB]⟩
|y::ys,n,l,hg,hh=>by
 have pl:=F7 H<|hg y A12;have pf:=Cy H y.1;have ei:=PD AT a kv y.1.name;rw[hh y A12]at ei;have hy:=λ z hz=>hg z<|A09 _ hz;have hk:=λ z hz=>hh z<|A09 _ hz;cases e:y.2 with
 |some p=>
  rw[e]at ei;let⟨l',q⟩:=xO H (a:=a) X1 ys n (v<|aZ y.1) hy hk;refine⟨l',?_⟩;have ew:cq rows C (y::ys)=cq rows C ys:=by simp[cq,cB,fL,e]
  rw[ew,<-q];simp[fv,HK,eM,yQ,ei]
 |none=>
  rw[e]at ei;let⟨l',q⟩:=xO H (a:=a) (kv:=kv) X1 ys (n*((places rows C y.1).length+1)) (v<|aZ y.1) hy hk;refine⟨l',?_⟩;have ew:n*cq rows C (y::ys)=n*((places rows C y.1).length+1)*cq rows C ys:=by simp[cq,cB,fL,e,Nat.mul_assoc]
  rw[ew,<-q];have big:b_ (n) (1+((places rows C y.1).length)):=gj ∅ ∅;have em:(n)*(1+((places rows C y.1).length))=((n*((places rows C y.1).length+1)):Int):=by push_cast;rw[Int.add_comm]
  simp[fv,HK,eM,yQ,ei,pl,line,big,em]
theorem HJ(H:Hall rows C)(h6:xs.length<=6)(hg:∀x∈xs,GOk x.1)(nd:(nms xs).Nodup)(h:S3 kv xs):eN [bo rows,aO xs,dd a kv]=.ok (.int<|cq rows C xs):=by rw[Bh];refine aP ?_;let⟨l',q⟩:=xO H (a:=a) (kv:=kv) (aO xs) xs 1 At hg (λ x hx=>by rw[h.eq];exact J9 nd x hx);rw[Nat.one_mul]at q;simp only[aO]at q ⊢;simp[o5,q];exact⟨_,q,by simp ⟩
theorem zK{ds:γ D}(h:k<ds.length):cut ds At (AC<|k)++cut ds (AC<|(k)+1) At=ds.eraseIdx k:=by
 have e1:cut ds At _=ds.take k:=KG.u? ds ∅;have e2:cut ds (AC<|(k)+1) At=ds.drop (k+1):=by
  have:¬(k:Int)+1<0:=by lia
  have h3:((k:Int)+1).toNat=k+1:=by lia
  have h4:min (k+1) ds.length=k+1:=by lia
  simp[cut,eI,this,h4];rw[C15 ∅]
 rw[e1,e2,List.eraseIdx_eq_take_drop_succ]
theorem tF(h:k<ds.length)(hl:ds.length<=1000):eT [.tup ds,.int (k:Nat)]=.ok (.tup<|ds.eraseIdx k):=by
 rw[Dj];refine aP ?_;have c1:=lI ds At<|some<|k;have c2:=lI ds (AC<|(k)+1) At;have g2:(cut ds At<|some<|k).length+(cut ds (AC<|(k)+1) At).length<=16777216:=by lia
 simp[rk,g2,zK h]
end gV
namespace gV
open Z
section
variable{gl:γ D}
theorem JJ:∀{kv:jF},(kv.map (·.1)).Nodup->(kv.map λ p=>(GE p.1:Sum Int _)).Nodup
|[],_=>.nil
|q::kv,h=>by have h':=A17.mp h;refine A17.mpr ⟨λ m=>h'.1 ?_,JJ h'.2⟩;let⟨y,hy,e⟩:=A03.mp m;exact A03.mpr ⟨y,hy,A77 e⟩
theorem ID(h:(kv.map (·.1)).Nodup)(hl:kv.length<1000):Ai (.str n) d (AC<|some<|.bor<|dd a kv)=.ok (.bor<|dd a<|bg n d kv):=by have nd:=JJ h;have e:=Em n d kv;simp only[Ai];rw[guard_pos ⟨trivial,by rw[A05];exact hl,nd⟩,e]
theorem QK(h:(kv.map (·.1)).Nodup)(hd:kv.lookup n=AC d):Ak (.str n) (AC<|some<|.bor<|dd a kv)=.ok (d,.bor<|dd a<|bO n kv):=by have nd:=JJ h;have e:=Bq n kv;have f:=sY n kv;rw[hd]at f;simp only[Ak];rw[guard_pos ⟨trivial,nd⟩,f,e];rfl
theorem uV:∀{kv},kv.lookup n=At->bO n kv=kv
|[],_=>rfl
|(k,e)::kv,h=>by
 by_cases q:n=k
 .subst q;simp at h
 .have b:(n==k)=AT:=by simpa using q
  simp only[Fa,b]at h;simp[bO,A07 q,uV h]
end
end gV
namespace gV
open Z
open KG (G GO Pl Rows Hall gW GOk aZ a! cN bo places)
open KH (aO aF Good)
open KB (cq fL cB j? Ext Full)
def Dr(g:G):Prop:=gW g/\KS.c_ [aZ g]=.ok (.bl Ch)/\KS.cf [.str g.name]=.ok (.bl Ch)
structure I(rows:Rows)(C:Nat)(N:List (List Nat))(xs m:List GO)(kv:jF)(j:Nat):Prop where
 s:j? rows C xs m
 h:S3 kv xs
 l:kv.length<=j
 dr:∀x∈xs,Dr x.1
 nm:∀x∈xs,x.1.name∈N
theorem nT:∀(l:γ _)(N:γ (γ Nat)),l.Nodup->(∀x∈l,x∈N)->l.length<=N.length
|[],_,_,_=>A47 _
|y::l,N,h,hs=>by have h':=A17.mp h;have hy:=hs y A12;have ih:=nT l _ h'.2 λ z hz=>(List.mem_erase_of_ne λ(e:z=y)=>h'.1<|e▸hz).mpr<|hs z<|A09 _ hz;rw[List.length_erase_of_mem hy]at ih;have:=List.length_pos_of_mem hy;rw[A33];lia
theorem AI(xs:γ GO):∀y∈xs.map (λ x=>aZ x.1),zx y:=λ y hy=>by let⟨z,_,rfl⟩:=A03.mp hy;exact yC z.1
theorem Kb(h:Good rows xs)(g:G):Good rows (xs++[(g,At)]):=by
 have key:∀i g' p,(xs++[(g,At)])[i]?=AC (g',AC p)->xs[i]?=AC (g',AC p):=λ i g' p e=>by
  by_cases c:i<xs.length
  .rwa [A34 c]at e
  .rw[A48 ∅]at e;cases q:i-xs.length with
   |zero=>rw[q]at e;cases e
   |succ n=>rw[q]at e;cases e
 intro i g' p e;let⟨h1,h2⟩:=h i g' p (key i g' p e);exact⟨h1,λ j g2 q ej ne=>h2 j g2 q (key j g2 q ej) ne⟩
theorem Nq(d:D)(ds:γ D)(h:ds.length<=100):aR (.tup<|ds++[d]) (.int<|-1)=.ok d:=by
 have e:xn (ds.length+1) (-1)=AC ds.length:=by unfold xn;simp;lia
 simp[aR,e,guard_pos]
theorem GX(f:Full m)(h:m≠[])(hl:m.length<=6):∃p,aR (aF m) (.int<|-1)=.ok (a! p):=by
 obtain⟨r,y,rfl⟩:∃r y,m=r++[y]:=⟨_,_,(List.dropLast_concat_getLast h).symm⟩
 cases e:y.2 with
 |none=>exact(f _ y.1 (by rw[A48<|v4 _,Nat.sub_self,<-e];rfl)).elim
 |some p=>refine⟨p,?_⟩;unfold aF;rw[A39,f8,A35,e];exact Nq _ _ (by rw[A05];simp at hl;lia)
theorem PU(n:Nat)(z:Int):gR n (.int z) (.int z)=AC Ch:=by
 have:gR n (.int z) (.int z)=AC (z==z):=by cases n<;>rfl
 rw[this,A94]
theorem WI(n:Nat)(z:γ Nat):gR n (.str z) (.str z)=AC Ch:=by
 have:gR n (.str z) (.str z)=AC (z==z):=by cases n<;>rfl
 rw[this,A94]
theorem mK:∀ds,(∀d∈ds,f d d=AC Ch)->allEq f ds ds=AC Ch
|[],_=>rfl
|d::ds,h=>by simp only[allEq,h d A12,mK ds λ z hz=>h z<|A09 _ hz];rfl
theorem yY(n:Nat)(p:Pl):gR (n+1) (a! p) (a! p)=AC Ch:=mK _ λ d hd=>by
 rcases A02.mp hd with rfl|hd
 .exact PU _ _
 .rw[A21.mp hd];exact PU _ _
theorem qP(h:iO d d=AC Ch):oEq d d=.ok (.bl Ch)/\sS d d=.ok (.bl AT):=⟨by unfold oEq;rw[h],by unfold sS;rw[h];rfl⟩
theorem G3(p:Pl):oEq (a! p) (a! p)=.ok (.bl Ch)/\sS (a! p) (a! p)=.ok (.bl AT):=qP<|yY 5 p
variable{j k x a:Nat}{g:G}
theorem CK(nd:(nms xs).Nodup)(dr:∀x∈xs,Dr x.1)(hk:xs[k]?=AC y):a_ [dk x hall (aO xs) hl ps,.str y.1.name]=.ok (.int<|k):=by
 let⟨h1,h2⟩:=A08.mp hk;have sp:xs=xs.take k++y::xs.drop (k+1):=by rw[<-h2,List.getElem_cons_drop,C54]
 have N0:(xs.take k).length=k:=by rw[A24];lia
 have e:aO xs=.tup ((xs.take k).map (λ x=>aZ x.1)++aZ y.1::(xs.drop<|k+1).map λ x=>aZ x.1):=by rw[<-f8 (f:=λ x=>aZ x.1) (a:=y),<-A39,<-sp];rfl
 rw[e];have r:=Rg (x:=x) (hall:=hall) (hl:=hl) (ps:=ps) (dr y<|A20 hk).2.2 (by
  rw[<-f8,<-A39,<-sp];exact AI xs) (λ d hd=>by
  let⟨q,hq,rfl⟩:=A03.mp hd;intro eq;rw[sp]at nd;simp only[A39]at nd;exact(C25.mp nd).2.2 q.1.name (A03.mpr ⟨q,hq,rfl⟩) y.1.name A12 eq) rfl
 rw[A05,N0]at r;exact r
theorem JP(hk:m[k]?=AC z):aR (aF m) (.int<|k)=.ok (cN z.2):=by
 have e:(m.map λ x=>cN x.2)[k]?=AC (cN z.2):=by rw[A06,hk];rfl
 exact(iE rfl e).1
theorem Mp(s:j? rows C xs m)(hk:xs[k]?=AC y):∃p,m[k]?=AC (y.1,AC p):=by
 let⟨o',e,_⟩:=s.best.ext.at hk;cases o' with
 |none=>exact(s.best.full k y.1 e).elim
 |some p=>exact⟨p,e⟩
theorem M?(h:g.name∈nms xs):∃(k:Nat)(y:GO),xs[k]?=AC y/\y.1.name=g.name:=by let⟨y,hy,e⟩:=A03.mp h;let⟨k,hk⟩:=A88 hy;exact⟨k,y,hk,e⟩
theorem JG(s:j? rows C xs m):(xs.map λ x=>aZ x.1).length<=6:=by rw[A05];exact s.six
theorem B5(h:k<xs.length)(h6:xs.length<=6):eT [aO xs,.int (k)]=.ok (aO<|xs.eraseIdx k):=by have e:=tF (ds:=xs.map λ x=>aZ x.1) (by rw[A05];exact h) (by rw[A05];lia);unfold aO;rw[KB.oF];exact e
theorem B4(h:k<xs.length)(h6:xs.length<=6):eT [aF xs,.int (k)]=.ok (aF<|xs.eraseIdx k):=by have e:=tF (ds:=xs.map λ x=>cN x.2) (by rw[A05];exact h) (by rw[A05];lia);unfold aF;rw[KB.oF];exact e
end gV
namespace gV
open Z KG
open KH
theorem AU(z:Int):∃a b,a∈aX/\b∈aX/\dB [.int z]=.ok (.str [a,b]):=KM.AS z
theorem Jx(c:Int)(hn:n<=1000):∃ms:γ Int,ms.length=n/\(∀m∈ms,0<=m/\m<2147483587)/\dO [.int c,.int n]=.ok (.lst<|ms.map .int):=KM.Jw c hn
theorem A6(hb:Bd ns):∃rows R C,j_ C R rows/\1<=R/\R<=6/\1<=C/\C<=12/\jZ [.lst (ns.map .int)]=.ok (bo rows):=by
 let⟨f,ef,hf⟩:=qh hb (k:=0) ∅;let⟨c1,ec1,_⟩:=qh hb (k:=1) ∅;have hz:Szs [2,6,12,1000000000000000000000000000000000000000000000000000000000000]:=⟨by decide,by decide⟩
 have dg0:=nh hz f;simp only[f8,A35,kJ]at dg0;let⟨R,hR⟩:=oC (z:=f / 2 % 6+1) ∅;let⟨C,hC⟩:=oC (z:=f / 2 / 6 % 12+1) ∅;have YF:1<=R/\R<=6:=by lia
 have Tz:1<=C/\C<=12:=by lia
 have q1:b_ (R) (C):=d_ ∅ ∅;have hrc:R*C<=100:=A15 (A65 YF.2 Tz.2) ∅;obtain⟨N,V5,hN⟩:∃N:Nat,(R:Int)*C=(N:Int)/\N=R*C:=⟨R*C,by push_cast;rfl,rfl⟩
 rw[<-hN]at hrc;have dg:=nh (L_ hrc) c1;rw[List.map_replicate]at dg;have hg:N<=16777216:=by lia
 let⟨la,lb,_X,_V,el⟩:=AU (f / 2 / 6 / 12 % 1000000000000000000000000000000000000000000000000000000000000);have key:Ok (bR<|jz [v (.lst<|ns.map .int),At,At,At,At,At,At,At,At]) λ d=>∃rows R C,j_ C R rows/\1<=R/\R<=6/\1<=C/\C<=12/\d=bo rows:=by
  refine qK ?_;by_cases hm:f % 2=0
  .simp[jz,ef,ec1,line,dg0,uJ,iN,hR,hC,q1,Cu,V5,hg,dg,hm];refine⟨by lia,?_⟩;refine oG ∅ (by simp;lia) ?_;intro d hd;obtain⟨R',rfl,Tx⟩:∃R':Nat,d=.int R'/\1<=R'/\R'<=6:=by
    simp at hd;rcases hd with rfl|rfl|rfl|rfl|rfl|rfl
    all_goals first|exact⟨1,rfl,by decide⟩|exact⟨2,rfl,by decide⟩|exact⟨3,rfl,by decide⟩|exact⟨4,rfl,by decide⟩|exact⟨6,rfl,by decide⟩
   refine oG ∅ (by simp;lia) ?_;intro d hd;obtain⟨C',rfl,E5⟩:∃C':Nat,d=.int C'/\1<=C'/\C'<=12:=by
    simp at hd;rcases hd with rfl|rfl|rfl|rfl|rfl|rfl|rfl|rfl|rfl|rfl|rfl|rfl
    all_goals first|exact⟨1,rfl,by decide⟩|exact⟨2,rfl,by decide⟩|exact⟨3,rfl,by decide⟩|exact⟨4,rfl,by decide⟩|exact⟨5,rfl,by decide⟩|exact⟨6,rfl,by decide⟩|exact⟨7,rfl,by decide⟩|exact⟨8,rfl,by decide⟩|exact⟨12,rfl,by decide⟩
   have p1:b_ (R':Int) (C':Int):=d_ ∅ ∅;have prc:R'*C'<=100:=A15 (A65 Tx.2 E5.2) ∅;obtain⟨N',ZU,pN⟩:∃N:Nat,(R':Int)*C'=(N:Int)/\N=R'*C':=⟨R'*C',by push_cast;rfl,rfl⟩
   let⟨ms,Yu,_P,em⟩:=Jx c1 (n:=N') ∅;have _Q:ms.length<=16777216:=by lia
   rw[el];simp[line,bB,e?,ec1,p1,ZU,em,_Q];refine cz D.int (λ _=>Ch) (λ x=>.int<|x / 3 % 9) (xs:=ms) (λ x hx=>?_) ?_
   .simp[cj]
   .rw[lD];have e1:ms.map (λ x=>D.int<|x / 3 % 9)=(ms.map λ x=>x / 3 % 9).map D.int:=by rw[A16];rfl
    rw[e1];obtain⟨nums,JX⟩:∃nums,nums=ms.map λ x=>x / 3 % 9:=⟨_,rfl⟩
    rw[<-JX];have k46:46∈signs:=by decide
    have k61:61∈signs:=by decide
    have k35:35∈signs:=by decide
    refine KM.uc (sg:=[46,46,46,46,46,61,35,la,lb]) (nums:=nums) (R:=R') (C:=C') ∅ (by simp[k46,k61,k35,pS _X,pS _V]) ?_ (by simp[JX,Yu,pN]) Tx.2 E5.2 rfl _ _ _ _ ?_
    .intro x hx;rw[JX]at hx;let⟨j,_,rfl⟩:=A03.mp hx;simp;lia
    .intro rows x kE;simp[line];exact⟨rows,R',C',kE,Tx.1,Tx.2,E5.1,E5.2,rfl⟩
  .simp[jz,ef,ec1,line,dg0,uJ,iN,hR,hC,q1,Cu,V5,hg,dg,hm];refine⟨by lia,?_⟩;refine KM.uc (sg:=signs) (nums:=kJ c1 (Do N 29)) (R:=R) (C:=C) ∅ (λ c hc=>hc) ?_ (by rw[u7,A81];exact hN) YF.2 Tz.2 rfl _ _ _ _ ?_
   .intro x hx;have:=Fd c1 _ 29 (λ s hs=>by rw[C53 hs];decide) x hx;rw[FZ];exact this
   .intro rows x kE;simp[line];exact⟨rows,R,C,kE,YF.1,YF.2,Tz.1,Tz.2,rfl⟩
 let⟨d,e,rows,R',C',kE,r1,r2,c1',TX,rfl⟩:=key;exact⟨rows,R',C',kE,r1,r2,c1',TX,by rw[Bi];exact e⟩
end gV
namespace gV
open Z
def CS(z:Int):Nat:=aX.getD (z % 26).toNat 0
theorem Pu(z:Int):CS z∈aX/\aR (.str aX) (.int<|z % 26)=.ok (.str [CS z]):=by
 have h26:aX.length=26:=rfl;have hj:(z % 26).toNat<aX.length:=by lia
 have e:aX[(z % 26).toNat]?=AC (CS z):=by unfold CS;rw[List.getD_eq_getElem?_getD,A01 hj];rfl
 exact⟨A20 e,pU ∅ e ∅⟩
theorem Np(h:CS a=CS b):a % 26=b % 26:=by
 have q:∀i<26,∀j<26,aX.getD i 0=aX.getD j 0->i=j:=by decide
 have:=q (a % 26).toNat ∅ (b % 26).toNat ∅ h;lia
def Lv(c at' st:Int)(k j:Nat):Nat:=CS<|c / (400+30*(j:Int)*(j:Int))+st*(k:Int)*(if(j:Int)=at' then 1 else 0)
theorem yD(c:Int):∃nms:γ (γ Nat),nms.length=6/\nms.Nodup/\(∀n∈nms,KS.Hn n)/\i5 [.int c,.int 6]=.ok (.lst<|nms.map .str):=by
 obtain⟨st,pW,est⟩:∃s,s∈([1,3,5,7,9,11]:γ Nat)/\aR (.lst [.int 1,.int 3,.int 5,.int 7,.int 9,.int 11]) (.int<|c / 64 % 6)=.ok (.int s):=by let⟨d,hd,e,_⟩:=EU (xs:=([1,3,5,7,9,11]:γ Nat).map λ n=>D.int (n:Nat)) (i:=c / 64 % 6) ∅ (by simp;lia);let⟨s,hs,rfl⟩:=A03.mp hd;exact⟨s,hs,e⟩
 obtain⟨n,hn⟩:∃n:Nat,1+c % 8=n:=⟨(1+c % 8).toNat,by lia⟩
 have h1:1<=n:=by lia
 have h8:n<=8:=by lia
 have hn0:(0:Int)<n:=by lia
 have fd:∀j:Nat,j<8->i8 (400+30*(j:Int)*(j:Int)):=by unfold i8;decide
 have f30:∀x,b_ 30 x:=λ x=>d_ ∅ ∅;have fj:∀x (j:Nat),j<100->b_ x (j:Int):=λ x j hj=>gj ∅ ∅;have f0:∀x,b_ x 0:=λ x=>gj ∅ ∅;have f1:∀x,b_ x 1:=λ x=>gj ∅ ∅;obtain⟨a,ha⟩:∃a:Int,c / 8 % n=a:=⟨_,rfl⟩
 have ha0:0<=a:=by rw[<-ha];exact B70 _ ∅
 have han:a<n:=by rw[<-ha];exact B69 _ hn0
 have:Ok (bR<|j3 [v (.int c),v (.int 6),At,At,At,At,At,At,At,At,At]) λ d=>d=.lst ((Ev 6).map λ k=>.str<|(Ev n).map<|Lv c a st k):=by
  refine qK ?_;simp[j3,cj,hn,hn0,est,line,h1,ha];refine⟨by lia,?_⟩;refine gg (λ i ρ=>∃x7 x8 x9 Qb,ρ=[vi c,vi 6,vs aX,vi n,vi a,vi st,ow ((Ev i).map λ k=>.str<|(Ev n).map<|Lv c a st k),x7,x8,x9,Qb]) ⟨At,At,At,At,rfl⟩ ?_ ?_
  .rintro i d ρ hd ⟨x7,x8,x9,Qb,rfl⟩;let⟨hi,rfl⟩:=EX hd;simp;refine gg (λ j ρ=>∃x9 Qb,ρ=[vi c,vi 6,vs aX,vi n,vi a,vi st,ow ((Ev i).map λ k=>.str<|(Ev n).map<|Lv c a st k),vi (i:Nat),vs ((Ev j).map<|Lv c a st i),x9,Qb]) ⟨_,_,rfl⟩ ?_ ?_
   .rintro j d ρ hj ⟨x9,Qb,rfl⟩;let⟨hj,rfl⟩:=EX hj;have hj8:j<8:=by lia
    let⟨hq,eq⟩:=Pu (c / (400+30*(j:Int)*(j:Int))+st*(i:Int)*(if(j:Int)=a then 1 else 0));by_cases he:(j:Int)=a
    .rw[M2 he,B46]at eq;have ht:((j:Int)=a)=True:=eq_true he;simp[f0,f1,f30,fj _ j ∅,fj _ i ∅,fd j hj8,ht,yw,line,eq];simp[A83,Lv,ht];lia
    .rw[W1 he,Int.mul_zero,Int.add_zero]at eq;simp[f0,f1,f30,fj _ j ∅,fj _ i ∅,fd j hj8,he,yw,line,eq];simp[A83,Lv,he];lia
   .rintro ρ ⟨x9,Qb,rfl⟩;rw[gG];simp[line,A83];lia
  .rintro ρ ⟨x7,x8,x9,Qb,rfl⟩;rw[gG];simp
 have RK:1<=st/\st<=11:=(by decide:∀s∈([1,3,5,7,9,11]:γ Nat),1<=s/\s<=11) st pW;rw[<-yU]at this;let⟨d,e,rfl⟩:=this;have nk:∀k,KS.Hn ((Ev n).map<|Lv c a st k):=λ k=>⟨by simp;lia,by simp;lia,λ q hq=>by let⟨j,_,rfl⟩:=A03.mp hq;exact(Pu _).1⟩
 refine⟨(Ev 6).map λ k=>(Ev n).map<|Lv c a st k,by simp,?_,λ q hq=>?_,by rw[e,A16];rfl⟩
 .refine List.pairwise_map.mpr<|List.Pairwise.imp_of_mem (λ {k k'} hk Tu (lt:k<k') z=>?_) C58;rw[A26]at hk Tu;have ha':a.toNat<n:=by lia
  have g:∀k,((Ev n).map<|Lv c a st k)[a.toNat]?=AC (Lv c a st k a.toNat):=λ k=>by rw[A06,li ha'];rfl
  have z2:=(g k).symm.trans<|(A11 (λ l:γ Nat=>l[a.toNat]?) z).trans<|g k';have z3:=Np<|A04 z2;have ea:((a.toNat:Nat):Int)=a:=by lia
  rw[M2 ea]at z3;generalize c / (400+30*((a.toNat:Nat):Int)*((a.toNat:Nat):Int))=y at z3;simp only[B46]at z3;have fin:∀s∈([1,3,5,7,9,11]:γ Nat),∀k<6,∀k'<6,k<k'->(s*k) % 26≠(s*k') % 26:=by decide
  have:=fin st pW k hk k' Tu lt;have e1:(st:Int)*(k:Int)=((st*k:Nat):Int):=by push_cast;rfl
  have e2:(st:Int)*(k':Int)=((st*k':Nat):Int):=by push_cast;rfl
  rw[e1,e2]at z3;generalize st*k=p at *;generalize st*k'=q at *;lia
 .let⟨k,_,rfl⟩:=A03.mp hq;exact nk k
end gV
namespace gV
open Z KG
open KH
theorem Ka(z:Int){nm:γ Nat}(GR:KS.Hn nm){a b:Nat}(ha:a∈aX)(hb:b∈aX):∃s:KS.Gp,KS.D3 s/\s.nm=nm/\i6 [.str nm,.int z,.str [a,b]]=.ok (KS.fB s):=by
 let⟨ms,Yu,_P,em⟩:=Jx z (n:=9) ∅;let⟨m0,m1,m2,m3,m4,m5,m6,m7,m8,rfl⟩:=KN.M' Yu;have i0:aR (.str [a,b]) (.int 0)=.ok (.str [a]):=pU (j:=0) rfl rfl (by simp[line]);have i1:aR (.str [a,b]) (.int 1)=.ok (.str [b]):=pU (j:=1) rfl rfl (by simp[line]);have n9:∀a b c d e f g i j,aR (.lst [a,b,c,d,e,f,g,i,j]) (.int 0)=.ok a/\aR (.lst [a,b,c,d,e,f,g,i,j]) (.int 1)=.ok b/\aR (.lst [a,b,c,d,e,f,g,i,j]) (.int 2)=.ok c/\aR (.lst [a,b,c,d,e,f,g,i,j]) (.int 3)=.ok d/\aR (.lst [a,b,c,d,e,f,g,i,j]) (.int 4)=.ok e/\aR (.lst [a,b,c,d,e,f,g,i,j]) (.int 5)=.ok f/\aR (.lst [a,b,c,d,e,f,g,i,j]) (.int 6)=.ok g/\aR (.lst [a,b,c,d,e,f,g,i,j]) (.int 7)=.ok i/\aR (.lst [a,b,c,d,e,f,g,i,j]) (.int 8)=.ok j:=λ _ _ _ _ _ _ _ _ _=>⟨rfl,rfl,rfl,rfl,rfl,rfl,rfl,rfl,rfl⟩
 simp only[f8,A35]at em;replace em:dO [.int z,.int 9]=.ok (.lst [.int m0,.int m1,.int m2,.int m3,.int m4,.int m5,.int m6,.int m7,.int m8]):=em;have fin:∀x0 x1 x2 x4 x5 x6 x7 x8 x9,Ok (fv (aW 11) (gZ (tE<|eB oEq (eB oMod (eB oDiv (eB aR (eW 3)<|eC<|.int 7)<|eB bG (eC<|.int 3)<|eB fT (eC<|.int 2)<|eW 11)<|eC<|.int 4)<|eC<|.int 1) (d7 10<|dZ<|aa (eV 11)<|aa (eB bG (eC<|.int 1)<|eB oMod (eB oDiv (eB aR (eW 3)<|eC<|.int 8)<|eB bG (eC<|.int 2)<|eW 11)<|eC<|.int 3) aC) bA) («zints» 0 6) [x0,x1,x2,v (.lst [.int m0,.int m1,.int m2,.int m3,.int m4,.int m5,.int m6,.int m7,.int m8]),x4,x5,x6,x7,x8,x9,ow [],At]) λ fl=>∃wl x,KS.BJ 6 wl/\fl=.nx [x0,x1,x2,v (.lst [.int m0,.int m1,.int m2,.int m3,.int m4,.int m5,.int m6,.int m7,.int m8]),x4,x5,x6,x7,x8,x9,ow (wl.map KS.j8),x]:=by
  intro x0 x1 x2 x4 x5 x6 x7 x8 x9;refine gg (λ i ρ=>∃wl x,KS.BJ i wl/\ρ=[x0,x1,x2,v (.lst [.int m0,.int m1,.int m2,.int m3,.int m4,.int m5,.int m6,.int m7,.int m8]),x4,x5,x6,x7,x8,x9,ow (wl.map KS.j8),x]) ⟨[],At,⟨by simp,by simp,by simp⟩,rfl⟩ ?_ ?_
  .rintro j y ρ hj ⟨wl,x,hl,rfl⟩;let⟨xp,rfl⟩:=ints_get hj;have q1:b_ 2 (j:Int):=d_ ∅ ∅;have q2:i8 (3+2*(j:Int)):=cj ∅ ∅;have q3:i8 (2+(j:Int)):=cj ∅ ∅;have hll:wl.length<16777216:=by have:=hl.l;lia
   let⟨u,hu⟩:=oC (z:=1+m8 / (2+(j:Int)) % 3) ∅;by_cases h:m7 / (3+2*(j:Int)) % 4=1
   .simp[line,n9,q1,q2,q3,h,hll];rw[hu];have hu4:u<4:=by lia
    exact⟨wl++[(j,u)],hl.snoc ∅<|A18 hu4 ∅,by simp[KS.j8]⟩
   .simp[line,n9,q1,q2,h];exact⟨wl,hl.next,rfl⟩
  .rintro ρ ⟨wl,x,hl,rfl⟩;exact⟨wl,x,by simpa using hl,rfl⟩
 rw[yW];have:Ok (bR<|j4 [v (.str nm),v (.int z),v (.str [a,b]),At,At,At,At,At,At,At,At,At]) λ x=>∃s,KS.D3 s/\s.nm=nm/\x=KS.fB s:=by
  refine qK ?_;simp[j4,cj,em,n9,line,i0,i1];refine oG ∅ (by simp;lia) ?_;intro x hx;obtain⟨w,rfl,w1,w2⟩:∃d:Nat,x=.int d/\1<=d/\d<=12:=by
   simp at hx;rcases hx with rfl|rfl|rfl|rfl|rfl|rfl|rfl|rfl
   all_goals first|exact⟨1,rfl,by decide,by decide⟩|exact⟨2,rfl,by decide,by decide⟩|exact⟨3,rfl,by decide,by decide⟩|exact⟨4,rfl,by decide,by decide⟩
  refine oG ∅ (by simp;lia) ?_;intro x hx;obtain⟨d,rfl,d1,d2⟩:∃d:Nat,x=.int d/\1<=d/\d<=3:=by
   simp at hx;rcases hx with rfl|rfl|rfl|rfl|rfl|rfl|rfl|rfl
   all_goals first|exact⟨1,rfl,by decide,by decide⟩|exact⟨2,rfl,by decide,by decide⟩|exact⟨3,rfl,by decide,by decide⟩
  refine oG ∅ (by simp;lia) ?_;intro x hx;obtain⟨kd,rfl,hkd⟩:∃kd,x=.str kd/\(kd=[]\/∃c∈aX,kd=[c]):=by
   simp at hx;rcases hx with rfl|rfl|rfl|rfl|rfl|rfl
   all_goals first|exact⟨[],rfl,.inl rfl⟩|exact⟨_,rfl,.inr ⟨_,ha,rfl⟩⟩|exact⟨_,rfl,.inr ⟨_,hb,rfl⟩⟩
  refine oG ∅ (by simp;lia) ?_;intro x hx;obtain⟨wz,rfl⟩:∃wd:Nat,x=.int wd:=by
   simp at hx;rcases hx with rfl|rfl|rfl|rfl|rfl|rfl
   all_goals first|exact⟨0,rfl⟩|exact⟨1,rfl⟩|exact⟨2,rfl⟩
  have p1:b_ (w:Int) (d:Int):=d_ ∅ ∅;obtain⟨wd,_y,V0⟩:∃wd:Nat,min (wz:Int) ((w:Int)*d)=(wd:Int)/\wd<=w*d:=⟨min wz<|w*d,by
   have hN:((w*d:Nat):Int)=(w:Int)*d:=by push_cast;rfl
   rw[<-hN];lia,Nat.min_le_right _ _⟩
  simp[p1,_y];refine oG ∅ (by simp;lia) ?_;intro x hx;obtain⟨gp,rfl,hgp⟩:∃gp:Nat,x=.int gp/\gp<=6:=by
   simp at hx;rcases hx with rfl|rfl|rfl|rfl|rfl|rfl|rfl|rfl
   all_goals first|exact⟨0,rfl,by decide⟩|exact⟨1,rfl,by decide⟩|exact⟨2,rfl,by decide⟩|exact⟨6,rfl,by decide⟩
  have p6:b_ m6 100000000000000000000000000000000000000000000000000:=by have:=_P m6 ∅;exact d_ ∅ ∅
  refine⟨p6,?_⟩;rw[Ql];obtain⟨wt,hwt,hwb⟩:∃wt:Nat,(if m5 / 20 % 6=5 then D.int (m6*100000000000000000000000000000000000000000000000000)else D.int (m5 / 5 % 4))=.int (wt:Nat)/\wt<10^60:=by
   have h6:=_P m6 ∅;by_cases h:m5 / 20 % 6=5
   .let⟨u,hu⟩:=oC (z:=m6*100000000000000000000000000000000000000000000000000) ∅;have kF:u<2147483587*100000000000000000000000000000000000000000000000000:=by lia
    exact⟨u,by rw[M2 h,hu],A18 kF ∅⟩
   .let⟨u,hu⟩:=oC (z:=m5 / 5 % 4) ∅;have kF:u<4:=by lia
    exact⟨u,by rw[W1 h,hu],A18 kF ∅⟩
  rw[hwt];simp;refine(fin _ _ _ _ _ _ _ _ _).imp ?_;rintro fl ⟨wl,x,hl,rfl⟩;simp[line];refine⟨⟨nm,w,d,kd,wd,gp,wt,wl⟩,⟨GR.1,GR.2.1,GR.2.2,w1,w2,d1,d2,hkd,V0,hgp,hwb,hl.l,λ p hp=>?_,hl.up⟩,rfl,rfl⟩;let⟨h1,h2,h3⟩:=hl.r p hp;exact⟨by lia,h2,h3⟩
 let⟨x,e,g,hg,hn,rfl⟩:=this;exact⟨g,hg,hn,e⟩
theorem SD(z:Int){K:Nat}(h:0<K):∃u:Nat,z % (K)=(u)/\u<K:=by let⟨u,hu⟩:=oC (z:=z % (K)) (B70 _ ∅);have:=B69 z (show(0)<(K:Int)by lia);exact⟨u,hu,by lia⟩
theorem uZ:∀(ss:γ Nat)(c:Int),(∀s∈ss,0<s)->∃us:γ Nat,us.length=ss.length/\kJ c (ss.map Nat.cast)=us.map Nat.cast/\∀(i:Nat) s u,ss[i]?=AC s->us[i]?=AC u->u<s
|[],c,_=>⟨[],rfl,rfl,by simp⟩
|s::ss,c,h=>by
 let⟨u,hu,hb⟩:=SD c (h s A12);let⟨us,h1,h2,h3⟩:=uZ ss (c / s) λ z hz=>h z (A09 _ hz);refine⟨u::us,by simp[h1],?_,λ i s' u'=>?_⟩
 .show c % s::kJ (c / s) (ss.map _)=_;rw[hu,h2];rfl
 .cases i with
  |zero=>simp;rintro rfl rfl;exact hb
  |succ i=>simpa using h3 i s' u'
theorem SJ(c:Int)(GR:KS.Hn nm):∃s,KS.D3 s/\s.nm=nm/\lz [.str nm,.int c]=.ok (KS.fB s):=by
 let⟨us,l6,ed,bd⟩:=uZ [12,3,27,7,64,37] c ∅;have dg:=nh (ss:=[12,3,27,7,64,37]) ⟨by decide,by decide⟩ c;rw[show kJ c [12,3,27,7,64,37]=_ from ed]at dg;rcases us with _|⟨w,_|⟨d,_|⟨kd,_|⟨gp,_|⟨bt,_|⟨wz,_|_⟩⟩⟩⟩⟩⟩<;>simp at l6
 have w12:=bd 0 _ _ rfl rfl;have d3:=bd 1 _ _ rfl rfl;have k27:=bd 2 _ _ rfl rfl;have g7:=bd 3 _ _ rfl rfl;simp only[f8,A35]at dg;obtain⟨M,hM,hM2⟩:∃M:Nat,((w:Int)+1)*((d:Int)+1)=(M:Int)/\M=(w+1)*(d+1):=⟨(w+1)*(d+1),by push_cast;rfl,rfl⟩
 have hM3:M<=36:=by rw[hM2];exact A15 (A65 (by lia:w+1<=12) (by lia:d+1<=3)) ∅
 let⟨wd,_y⟩:=oC (z:=(wz:Int) % ((M:Int)+1)) (B70 _ ∅);have V0:wd<=M:=by have:=B69 (wz:Int) (show(0:Int)<(M:Int)+1 by lia);lia
 have q1:b_ ((w:Int)+1) ((d:Int)+1):=d_ ∅ ∅;have q3:(0:Int)<(M:Int)+1:=by lia
 let⟨vs,l7,ed2,SG⟩:=uZ (10^60::Do 6 (10^60-1)) (c / 16111872) ∅;have dg2:=nh (ss:=(10^60::Do 6 (10^60-1):γ Nat).map Nat.cast) ⟨by decide,by decide⟩<|c / 16111872;rw[ed2]at dg2;rcases vs with _|⟨u0,_|⟨u1,_|⟨u2,_|⟨u3,_|⟨u4,_|⟨u5,_|⟨u6,_|_⟩⟩⟩⟩⟩⟩⟩<;>simp at l7
 simp[Do]at dg2;obtain⟨kc,hkc,ekc⟩:∃kc∈aX,aR (.str aX) (.int<|(kd:Int)-1)=.ok (.str [kc]):=by
  by_cases h:kd=0
  .subst h;exact⟨122,by decide,by simp[aR,xn,aX,line,guard_pos]⟩
  .exact uD ∅ (by simp[aX];lia) ∅
 obtain⟨kx,hkx,ekx⟩:∃kx,(kx=[]\/∃c∈aX,kx=[c])/\aR (.lst [.str [],.str [kc]]) (.int<|if 0<kd then 1 else 0)=.ok (.str kx):=by
  by_cases h:0<kd
  .exact⟨[kc],.inr ⟨kc,hkc,rfl⟩,by rw[M2 h];rfl⟩
  .exact⟨[],.inl rfl,by rw[W1 h];rfl⟩
 rw[Dl];have:Ok (bR<|nj [v (.str nm),v (.int c),At,At,At,At,At,At,At,At]) λ x=>x=KS.fB ⟨nm,w+1,d+1,kx,wd,gp,u0,((Ev 6).filter λ i=>decide<|(bt:Int) / ZT i % 2=1).map λ i=>(i,1+([u1,u2,u3,u4,u5,u6][i]?.getD 0))⟩:=by
  refine qK ?_;simp[nj,line,CY,dg,uJ,iN,cj,q1,hM,q3,_y,Cu,dg2,bB,e?,dR,ekc,ekx];have e6:«zints» 0 6=(Ev 6).map λ i=>D.int ((i:Nat):Int):=by simp[«zints»]
  have i0:aR (.lst [.int (u0:Nat),.int (u1:Nat),.int (u2:Nat),.int (u3:Nat),.int (u4:Nat),.int (u5:Nat),.int (u6:Nat)]) (.int 0)=.ok (.int (u0:Nat)):=rfl;rw[e6];refine cz (λ i=>D.int ((i:Nat):Int)) (λ i=>decide<|(bt:Int) / ZT i % 2=1) (λ i=>KS.j8 (i,1+([u1,u2,u3,u4,u5,u6][i]?.getD 0))) (λ i hi=>?_) ?_
  .have t2:∀a b c d e f,aR (.lst [a,b,c,d,e,f]) (.int 0)=.ok a/\aR (.lst [a,b,c,d,e,f]) (.int 1)=.ok b/\aR (.lst [a,b,c,d,e,f]) (.int 2)=.ok c/\aR (.lst [a,b,c,d,e,f]) (.int 3)=.ok d/\aR (.lst [a,b,c,d,e,f]) (.int 4)=.ok e/\aR (.lst [a,b,c,d,e,f]) (.int 5)=.ok f:=λ _ _ _ _ _ _=>⟨rfl,rfl,rfl,rfl,rfl,rfl⟩
   have t7:∀o a b c d e f,aR (.lst [o,a,b,c,d,e,f]) (.int 1)=.ok a/\aR (.lst [o,a,b,c,d,e,f]) (.int 2)=.ok b/\aR (.lst [o,a,b,c,d,e,f]) (.int 3)=.ok c/\aR (.lst [o,a,b,c,d,e,f]) (.int 4)=.ok d/\aR (.lst [o,a,b,c,d,e,f]) (.int 5)=.ok e/\aR (.lst [o,a,b,c,d,e,f]) (.int 6)=.ok f:=λ _ _ _ _ _ _ _=>⟨rfl,rfl,rfl,rfl,rfl,rfl⟩
   have hi:=A26.mp hi;obtain h|h|h|h|h|h:i=0\/i=1\/i=2\/i=3\/i=4\/i=5:=by lia
   all_goals subst h
   all_goals
    simp[line,cj,t2,t7,ZT,KS.j8]
    try (rw[A53];simp)
  .rw[i0];simp[KS.fB]
 let⟨x,e,rfl⟩:=this;refine⟨_,⟨GR.1,GR.2.1,GR.2.2,by show 1<=w+1;lia,by show w+1<=12;lia,by show 1<=d+1;lia,by show d+1<=3;lia,hkx,by show wd<=(w+1)*(d+1);lia,by show gp<=6;lia,?_,?_,?_,?_⟩,rfl,e⟩
 .exact SG 0 _ _ rfl rfl
 .show(((Ev 6).filter _).map _).length<=6;rw[A05];exact A15 (A70 _ _) ∅
 .intro p hp;let⟨i,hi,rfl⟩:=A03.mp hp;have hi:=A26.mp (A66.mp hi).1;refine⟨by show i<=5;lia,by show 1<=1+_;lia,?_⟩;show 1+[u1,u2,u3,u4,u5,u6][i]?.getD 0<10^60;obtain⟨u,hu⟩:∃u,[u1,u2,u3,u4,u5,u6][i]?=AC u:=⟨_,A01 (by simpa using hi)⟩
  rw[hu];exact Nat.add_lt_of_lt_sub'<|SG (i+1) _ u (by rw[C48,A52,M2 hi]) hu
 .show((((Ev 6).filter _).map _).map _).Pairwise _;rw[A16];refine List.pairwise_map.mpr<|(C58.filter _).imp λ h=>h
def Xh(N:γ (γ Nat))(g:G):Prop:=Dr g/\g.name∈N
theorem VO(h:KS.Hn nm):KS.cf [.str nm]=.ok (.bl Ch):=by
 rw[KS.EJ nm (by have:=h.2.1;lia)];have:KS.w! nm=Ch:=by simp[KS.w!,h.1,h.2.1];exact h.2.2
 rw[this]
theorem drawn(k:KS.D3 s)(hn:s.nm∈N):∃g,KS.fB s=aZ g/\Xh N g:=by refine⟨⟨s.nm,s.w,s.d,s.kd,s.wi,s.ga,_,_⟩,rfl,⟨aaw k.w1 k.w2 k.d1 k.d2 k.kd k.wi k.ga ⟨(s.wo),s.ws.map λ p=>((p.1),(p.2)),by rw[A05];exact k.wl,rfl,by rw[A16];rfl⟩,KS.J_ k,VO ⟨k.n1,k.n2,k.nl⟩⟩,hn⟩
theorem v3(hb:Bd ns){st:Int}(pW:0<=st){nms N:γ (γ Nat)}(hl:nms.length<=12)(hN:∀n∈nms,n∈N/\KS.Hn n):∃gs:γ G,gs.length=nms.length/\(∀g∈gs,Xh N g)/\ir [.lst (ns.map .int),.int st,.lst (nms.map .str)]=.ok (.tup<|gs.map aZ):=by
 let⟨f,ef,hf⟩:=qh hb (k:=0) ∅;let⟨la,lb,_X,_V,el⟩:=AU (f / 144 % 1000000000000000000000000000000000000000000000000000000000000);have hlm:nms.length<=16777216:=by lia
 have:Ok (bR<|i_ [v (.lst<|ns.map .int),v (.int st),v (.lst<|nms.map .str),At,At,At,At]) λ d=>∃gs:γ G,gs.length=nms.length/\(∀g∈gs,Xh N g)/\d=.tup (gs.map aZ):=by
  refine qK ?_;simp[i_,ef,cj,el,line,hlm];refine gg (λ i ρ=>∃gs x5 x6,gs.length=i/\(∀g∈gs,Xh N g)/\ρ=[v (.lst<|ns.map .int),v (.int st),v (.lst<|nms.map .str),vs [la,lb],ow (gs.map aZ),x5,x6]) ⟨[],At,At,rfl,by simp,rfl⟩ ?_ ?_
  .rintro j d ρ hj ⟨gs,x5,x6,N1,hg,rfl⟩;let⟨xp,rfl⟩:=ints_get hj;let⟨c,ec,_⟩:=qh hb (k:=st+(j:Int)) ∅;obtain⟨nm,GR⟩:∃nm,nms[j]?=AC nm:=⟨_,A01 xp⟩
   have en:aR (.lst<|nms.map .str) (.int (j:Int))=.ok (.str nm):=(iE (j:=j) rfl (by simp[GR])).2;have RY:gs.length<16777216:=by lia
   have q1:b_ 7 (j:Int):=d_ ∅ ∅;have q2:b_ (7*(j:Int)) (j:Int):=gj ∅ ∅;by_cases h:f % 2=1/\c % 3>0
   .let⟨s,hs,_B,eg⟩:=SJ (c / 3) (hN nm<|A20 GR).2;let⟨g,eG,_6⟩:=drawn hs (_B▸(hN nm<|A20 GR).1);rw[eG]at eg;simp[ef,ec,en,cj,h.1,h.2,eg,line,RY];refine⟨gs++[g],by simp[N1],?_,by simp⟩;intro y hy;rcases A41.mp hy with hy|hy
    .exact hg y hy
    .rw[A21]at hy;subst hy;exact _6
   .let⟨s,hs,_B,eg⟩:=Ka (c / 3+7*(j:Int)*(j:Int)) (hN nm<|A20 GR).2 _X _V;let⟨g,eG,_6⟩:=drawn hs (_B▸(hN nm<|A20 GR).1);rw[eG]at eg;have fin:∃R!:γ G,R!.length=j+1/\(∀g∈R!,Xh N g)/\gs.map aZ++[aZ g]=R!.map aZ:=by
     refine⟨gs++[g],by simp[N1],?_,by simp⟩;intro y hy;rcases A41.mp hy with hy|hy
     .exact hg y hy
     .rw[A21]at hy;subst hy;exact _6
    by_cases h1:f % 2=1
    .have h2:¬0<c % 3:=λ h2=>h ⟨h1,h2⟩;simp[ef,ec,en,cj,h1,h2,eg,line,RY,q1,q2];exact fin
    .simp[ef,ec,en,cj,h1,eg,line,RY,q1,q2];exact fin
  .rintro ρ ⟨gs,x5,x6,N1,hg,rfl⟩;rw[gG]at N1;simp;exact⟨gs,N1,hg,rfl⟩
 rw[<-we]at this;let⟨d,e,gs,h1,h2,rfl⟩:=this;exact⟨gs,h1,h2,e⟩
end gV
namespace gV
open Z
open KG (G GO Pl Rows Hall gW GOk aZ a! cN bo places)
open KH (aO aF Good)
open KB (cq fL cB j? Ext Full)
theorem NQ{R L:Nat}{rows:Rows}(H:KA.Hall R L rows):uw i7 [bo rows]=.ok [bo rows,.tup [],.tup [],.tup []]:=by
 have e:KA.hU [.tup (rows.map .str)]=.ok (.bl Ch):=by
  have:=KA.C5 (.tup<|rows.map .str) λ xs e=>by cases e;refine⟨by have:=H.len;have:=H.r2;simp;lia,λ x hx=>?_⟩;let⟨r,hr,rfl⟩:=A03.mp hx;have hl:=H.each r hr;have:=H.l2;exact λ cs e=>by cases e;lia
  rw[this];show Res.ok (D.bl<|KA.A7 _)=_;rw[H.b]
 have e:KA.hU [bo rows]=.ok (.bl Ch):=e;generalize bo rows=hh at *;refine JA λ x=>?_;unfold i7;rw[lX _ _ _ _ _ rfl];have:mT (startB 2 [Ch,AT] [f_ x 0 [] [],hh])=.ok (.nx [AC (.bor<|f_ x 0 dE [hh,.tup [],.tup [],.tup []]),v hh]):=by have s0:startB 2 [Ch,AT] [f_ x 0 [] [],hh]=[AC (.bor<|f_ x 0 [] []),v hh]:=rfl;rw[s0];simp[mT,bW,bj,nG,e,vO,f_,fS,dE,cM,lg,vB,line,guard_pos]
 rw[this];rfl
theorem JB{d dd:D}(ha:a ρ=.ok d)(hm:uw m [d]=.ok fs)(hT:lg [i] 0 (ρ.set i<|some<|.bor<|.dct [] []))(hr:∀x,∃ts,r (ρ.set i<|some<|.bor<|f_ x 0 dE fs)=.ok (.rt dd ts)):yi i m a r ρ=.ok (.rt dd):=by unfold yi;rw[ha,Res.k_,hm,Res.k_,guard_pos hT];refine OR λ x=>?_;let⟨ts,e⟩:=hr x;rw[e];rfl
theorem Gu(h1:a ρ=.ok (.nx ρ1))(h2:b ρ1=r):bW a b ρ=r:=by unfold bW;rw[h1];exact h2
theorem M!(hi:i∉ms)(hl:ts.length=ms.length)(h:∀x,∃t,r (ρ.set i<|some<|.bor<|f_ x 1 [] [])=.ok (.rt d<|ts++[t])):EO ms i r ρ=.ok (.rt d ts):=by unfold EO;rw[guard_pos hi];refine allM_mk λ x=>?_;let⟨t,e⟩:=h x;rw[e];show guard _ _=_;rw[guard_pos (by rw[A30,hl];rfl),<-hl,List.take_left' rfl]
theorem i0(rows:Rows)(C:Nat)(N:γ _):I rows C N [] [] [] 0:=by refine⟨⟨by simp,by simp,by simp,by show 1<=250;decide,⟨⟨rfl,λ i g p h=>(by cases h)⟩,λ i g p h=>(by cases h),λ i g h=>(by cases h)⟩⟩,⟨by simp,λ c=>rfl⟩,v4 _,by simp,by simp⟩
theorem ints_of:∀{l:γ D},(∀d∈l,∃i,d=.int i)->∃cs:γ Int,l=cs.map .int
|[],_=>⟨[],rfl⟩
|d::l,h=>by let⟨i,rfl⟩:=h d A12;let⟨cs,rfl⟩:=ints_of λ z hz=>h z (A09 _ hz);exact⟨i::cs,rfl⟩
end gV
set_option maxHeartbeats 1000000
namespace gV
open Z
abbrev Zt:γ Nat:=[116,97,107,101,110]
abbrev sFl:γ Nat:=[102,117,108,108]
theorem Ld(hx:gq [dk x hall gs hs ps,g]=At)(h:iH [dk x hall gs hs ps,g]=.ok (d,[dk x hall J? nY ud])):cZ [dk x hall gs hs ps,g]=.ok (.str Zt,[dk x hall J? nY ud]):=by unfold cZ;rw[lX _ _ _ _ _ rfl];have s0:startB 3 [Ch,AT] [dk x hall gs hs ps,g]=[AC (.bor _),v g,At]:=rfl;rw[s0];simp[mR,bW,bj,yF,jV,eu,fg,hx,h,eM,cM,lg,vB,line,guard_pos,fu,BP,fh,fm,fR]
theorem DV(hx:gq [dk x hall gs hs ps,g]=AC m)(hm:m.1=P4):cZ [dk x hall gs hs ps,g]=.ok (.str sFl,[dk x hall gs hs ps]):=by unfold cZ;rw[lX _ _ _ _ _ rfl];have s0:startB 3 [Ch,AT] [dk x hall gs hs ps,g]=[AC (.bor _),v g,At]:=rfl;rw[s0];let⟨c,fs⟩:=m;cases hm;simp[mR,bW,bj,yF,PK,C6,fg,hx,eM,dE,cM,lg,vB,line,guard_pos,fu,fh,fR]
theorem Rf(e:KS.cf [d]=.ok (.bl AT)):bC [dk x hall gs hl ps,d]=AC (r8,[]):=by rw[ju];simp[e_,jf,kT,vE,e]
theorem CL(hx:bC [dk x hall gs hs ps,d]=AC (r8,[]))(hw:w=0\/w=1\/w=2):fE [dk x hall gs hs ps,.int w,d]=.ok (.bl Ch,[dk x hall gs hs ps]):=by
 have f1:iZ [dk x hall gs hs ps,d]=AC (r8,[]):=by rw[v7];simp[kQ,jf,fg,eM,hx]
 have a1:i4 [dk x hall gs hs ps,d]=AC (r8,[]):=by rw[v!];simp[kR,jf,fg,eM,hx]
 have w1:iq [dk x hall gs hs ps,d]=AC (r8,[]):=by rw[uL];simp[j6,Xp,fg,eM,fA,hJ,hx]
 unfold fE;rw[lX _ _ _ _ _ rfl];have s0:startB 4 [Ch,AT,AT] [dk x hall gs hs ps,.int w,d]=[AC (.bor _),v _,v _,At]:=rfl;rw[s0];rcases hw with rfl|rfl|rfl
 .simp[iB,bW,bj,yF,PK,C6,zH,fg,f1,Fa,eM,cM,lg,vB,line,guard_pos,fu,fh,fR]
 .simp[iB,bW,bj,yF,PK,C6,zH,fg,a1,Fa,eM,cM,lg,vB,line,guard_pos,fu,fh,fR]
 .simp[iB,bW,bj,yF,PK,C6,zH,fg,w1,Fa,eM,cM,lg,vB,line,guard_pos,fu,fh,fR]
theorem Vn(h:gA .str d=AT):KS.cf [d]=.ok (.bl AT):=by rw[KS.uT];refine aP ?_;simp[KS.jc,h]
theorem jQ(c:Int):startB 5 [Ch,Ch,AT,AT] [dk x hall gs hs ps,dd a kv,.str n,.int c]=[AC (.bor<|dk x hall gs hs ps),AC (.bor<|dd a kv),v (.str n),v (.int c),At]:=rfl
theorem Cj(hc:c % 4<2)(JZ:(kv.map (·.1)).Nodup)(_Z:kv.length<1000)(hw:cw [dk x hall gs hs ps,.str n]=.ok p)(hf:cI [dk x hall gs hs ps,.str n]=.ok (.non,[dk x hall gs nY ps]))(hf2:cI [dk x hall gs nY ps,.str n]=.ok (.non,[dk x hall gs nY ps]))(he:oEq ps ps=.ok (.bl Ch)):
 bX [dk x hall gs hs ps,dd a kv,.str n,.int c]=.ok (.bl Ch,[dk x hall gs nY ps,dd a (bg n p kv)]):=by
 have pt:=ID (a:=a) (n:=n) (d:=p) JZ _Z;have s1:=eP (x:=x) (hall:=hall) (gs:=gs) (hl:=hs) (ps:=ps);have s2:=eP (x:=x) (hall:=hall) (gs:=gs) (hl:=nY) (ps:=ps);unfold bX;rw[lX _ _ _ _ _ rfl,jQ];simp[iJ,bW,bj,kB,BS,jV,eu,JD,mP,hc,hw,hf,hf2,s1,s2,he,pt,eM,cM,lg,vB,line,guard_pos,fu,BP,fh,fm,fR]
theorem z6(hc:c % 4=2)(JZ:(kv.map (·.1)).Nodup)(_Z:kv.length<1000)(hw:cw [dk x hall gs nY ps,.str n]=.ok p)(hf:cI [dk x hall gs hs ps,.str n]=.ok (.non,[dk x hall gs nY ps]))(he:oEq ps ps=.ok (.bl Ch)):
 bX [dk x hall gs hs ps,dd a kv,.str n,.int c]=.ok (.bl Ch,[dk x hall gs nY ps,dd a (bg n p kv)]):=by
 have pt:=ID (a:=a) (n:=n) (d:=p) JZ _Z;have s1:=eP (x:=x) (hall:=hall) (gs:=gs) (hl:=hs) (ps:=ps);have s2:=eP (x:=x) (hall:=hall) (gs:=gs) (hl:=nY) (ps:=ps);unfold bX;rw[lX _ _ _ _ _ rfl,jQ];simp[iJ,bW,bj,kB,BS,kA,jV,eu,JD,mP,hc,hw,hf,s1,s2,he,pt,eM,cM,lg,vB,line,guard_pos,fu,BP,fh,fm,fR]
theorem Ck(hc:c % 4=3)(hl:PL.length<=6)(hn:∀y∈PL,zx y)(hm:∀y∈PL,lV y≠n)(JZ:(kv.map (·.1)).Nodup)(hf:fO [dk x hall gs hs ps,.str n]=.ok (.non,[dk x hall (.tup PL) nY ud])):
 bX [dk x hall gs hs ps,dd a kv,.str n,.int c]=.ok (.bl Ch,[dk x hall (.tup PL) nY ud,dd a (bO n kv)]):=by
 have s1:=eP (x:=x) (hall:=hall) (gs:=gs) (hl:=hs) (ps:=ps);have h1:=lx (x:=x) (hall:=hall) (gs:=.tup PL) (hl:=nY) (ps:=ud);have cg:=λ ρ hρ=>mw hn ρ hρ;have q0:PL.length<=16777216:=by lia
 have C!:jn (.str n) (.lst<|PL.map λ g=>.str<|lV g)=.ok (.bl Ch):=by
  have:=(pV n<|PL.map lV).2;rw[A16]at this;refine this.trans ?_;rw[A28]
  .rfl
  .intro h;let⟨y,hy,e⟩:=A03.mp h;exact hm y hy e
 have hc1:¬c % 4<2:=by lia
 have vC:¬c % 4=2:=by lia
 have ei:=PD Ch a kv n;cases e:kv.lookup n with
 |none=>rw[e]at ei;rw[uV e];unfold bX;rw[lX _ _ _ _ _ rfl,jQ];simp[iJ,bW,bj,kB,BS,kA,jV,eu,mP,hc1,vC,hc,hf,s1,h1,ei,C!,bB,fF,cg,q0,eM,cM,lg,vB,line,guard_pos,fu,BP,fh,fm,fR]
 |some p=>rw[e]at ei;have pp:=QK (a:=a) JZ e;unfold bX;rw[lX _ _ _ _ _ rfl,jQ];simp[iJ,bW,bj,kB,BS,kA,jV,eu,Rt,mP,hc1,vC,hc,hf,s1,h1,ei,C!,pp,bB,fF,cg,q0,eM,cM,lg,vB,line,guard_pos,fu,BP,fh,fm,fR]
end gV
namespace gV
open Z
open KG (G GO Pl Rows Hall gW GOk aZ a! cN bo places)
open KH (aO aF Good)
open KB (cq fL cB j? Ext Full)
theorem eqO(n:Nat)(o:ε Pl):gR (n+1) (cN o) (cN o)=AC Ch:=by
 cases o with
 |none=>cases n<;>rfl
 |some p=>exact yY n p
theorem Sg(xs:γ GO):iO (aF xs) (aF xs)=AC Ch:=by refine mK _ λ d hd=>?_;let⟨y,_,rfl⟩:=A03.mp hd;exact eqO _ _
theorem I.told(i:I rows C N xs m kv j)(hk:xs[k]?=AC y)(hp:m[k]?=AC (y.1,AC p)):I rows C N (xs.set k (y.1,AC p)) m (bg y.1.name (a! p) kv) (j+1):=by
 have mem:∀z∈xs.set k (y.1,AC p),∃w∈xs,w.1=z.1:=λ z hz=>by
  rcases C56 hz with h|h
  .exact⟨z,h,rfl⟩
  .exact⟨y,A20 hk,by rw[h]⟩
 refine⟨i.s.fast hp,⟨Ej _ _ _ i.h.nd,λ n=>?_⟩,?_,λ z hz=>?_,λ z hz=>?_⟩
 .rw[Ek,E4 p i.s.names hk,i.h.eq]
 .have:=Ae y.1.name (a! p) kv;have:=i.l;lia
 .let⟨w,hw,e⟩:=mem z hz;rw[<-e];exact i.dr w hw
 .let⟨w,hw,e⟩:=mem z hz;rw[<-e];exact i.nm w hw
theorem Co{g:G}(H:Hall rows C)(i:I rows C N xs m kv j)(hj:j<900)(hg:g.name∈nms xs)(c:Int):
 ∃l? m' vA,I rows C N l? m' vA (j+1)/\∀x a,bX [dk x (bo rows) (aO xs) (aF xs) (aF m),dd a kv,.str g.name,.int c]=.ok (.bl Ch,[dk x (bo rows) (aO l?) (aF l?) (aF m'),dd a vA]):=by
 let⟨k,y,hk,en⟩:=M? hg;let⟨p,hp⟩:=Mp i.s hk;have nu:=λ x=>CK (x:=x) (hall:=bo rows) (hl:=aF xs) (ps:=aF m) i.s.names i.dr hk;have kl:=(A08.mp hk).1;have px:=JP hp;have wp:=(KB.o? i.s.six hk p).1;have fa:=λ x=>E? (nu x) px wp;have eg:=KH.xA hk<|some p;have i2:=i.told hk hp;have Yw:(xs.set k (y.1,AC p))[k]?=AC (y.1,AC p):=by rw[A37 kl]
 have nu2:=λ x=>CK (x:=x) (hall:=bo rows) (hl:=aF (xs.set k (y.1,AC p))) (ps:=aF m) i2.s.names i2.dr Yw;have eq:=(qP<|Sg m).1;rw[<-en];have c3:c % 4<2\/c % 4=2\/c % 4=3:=by lia
 rcases c3 with hc|hc|hc
 .have wp2:=(KB.o? i2.s.six Yw p).1;rw[List.set_set]at wp2;have fa2:=λ x=>E? (nu2 x) px wp2;rw[eg]at fa2;refine⟨_,m,_,i2,λ x a=>?_⟩;rw[eg];exact Cj hc i.h.nd (by have:=i.l;lia) (tI (nu x) px) (fa x) (fa2 x) eq
 .have wh:=λ x=>tI (nu2 x) px;rw[eg]at wh;refine⟨_,m,_,i2,λ x a=>?_⟩;rw[eg];exact z6 hc i.h.nd (by have:=i.l;lia) (wh x) (fa x) eq
 .let⟨m',s',tl⟩:=i.s.away H k;have w1:=B5 kl i.s.six;have w2:=B4 kl i.s.six;have aw:=λ x=>OM (nu x) w1 w2 tl;have he:∀n,(bO _ kv).lookup n=sG _ n:=λ n=>by rw[xq i.s.names hk,Bp _ _ _ i.h.nd,i.h.eq]
  have hs:(bO y.1.name kv).Sublist kv:=xB _ _;refine⟨_,m',_,⟨s',⟨i.h.nd.sublist<|hs.map _,he⟩,A15 hs.length_le<|B56 i.l,λ z hz=>i.dr z<|B72 hz,λ z hz=>i.nm z<|B72 hz⟩,λ x a=>?_⟩;refine Ck hc (JG s') (AI _) (λ d hd e=>?_) i.h.nd<|aw x;let⟨z,hz,rfl⟩:=A03.mp hd;have e:z.1.name=y.1.name:=e;let⟨j',xp⟩:=A88 hz;rw[KB.mU]at xp;have:=(List.getElem?_inj (j:=k) (by simp[nms];exact(A08.mp xp).1) i.s.names).mp (by simp only[nms,A06,xp,hk];simp[e]);split at this<;>lia
theorem aaI(n:Nat)(h:gW g):gR (n+3) (aZ g) (aZ g)=AC Ch:=by
 let⟨wt,ws,_,e1,e2⟩:=h.wsh;refine mK _ λ d hd=>?_;simp only[A02,A32,A40]at hd;rcases hd with rfl|rfl|rfl|rfl|rfl|rfl|rfl|rfl
 .exact WI _ _
 .exact PU _ _
 .exact PU _ _
 .exact WI _ _
 .exact PU _ _
 .exact PU _ _
 .rw[e1];exact PU _ _
 .rw[e2];refine mK _ λ d hd=>?_;let⟨p,_,rfl⟩:=A03.mp hd;exact yY _ p
theorem Kt(n:Nat)(h:∀x∈xs,gW x.1):gR (n+4) (aO xs) (aO xs)=AC Ch:=mK _ λ d hd=>by let⟨y,hy,rfl⟩:=A03.mp hd;exact aaI n<|h y hy
theorem Sf(n:Nat)(m:γ GO):gR (n+2) (aF m) (aF m)=AC Ch:=mK _ λ d hd=>by let⟨y,hy,rfl⟩:=A03.mp hd;exact eqO _ _
theorem Ks(h:∀x∈xs,gW x.1)(m:γ GO):iO (.tup [aO xs,aF m]) (.tup [aO xs,aF m])=AC Ch:=by
 refine mK _ λ d hd=>?_;simp only[A02,A32,A40]at hd;rcases hd with rfl|rfl
 .exact Kt _ h
 .exact Sf _ m
abbrev nE(DK hall dct g:D)(c:Int)(l5 l6 l7:ε L):Env:=[AC (.bor DK),v hall,AC (.bor dct),v g,v (.int c),l5,l6,l7]
abbrev T9(n:γ Nat)(g:D):γ D:=[.non,.int 5,.bl Ch,.tup [],.tup [.str n],.lst [],.lst [.str n],.dct [] [],g]
theorem RF(h0:0<=i)(h1:i<xs.length)(h:∀d∈xs,Q d):Ok (aR (.lst xs)<|.int i) Q:=by
 obtain⟨d,hd⟩:∃d,xs[i.toNat]?=AC d:=⟨_,A01 ∅⟩
 exact⟨d,(iE ∅ hd).2,h d<|A20 hd⟩
theorem UT(n:γ Nat)(g:G)(c:Int):∃d,KS.cf [d]=.ok (.bl AT)/\aR (.lst<|T9 n<|aZ g) (.int<|c / 96 % 9)=.ok d:=by
 have nn:∀d∈T9 n (aZ g),KS.cf [d]=.ok _:=λ d hd=>by refine Vn ?_;simp only[A02,A32,A40]at hd;rcases hd with rfl|rfl|rfl|rfl|rfl|rfl|rfl|rfl|rfl<;>rfl
 let⟨d,e,h⟩:=RF (i:=c / 96 % 9) ∅ (by simp;lia) nn;exact⟨d,h,e⟩
abbrev nB:SM:=kB (Ng (EK<|Lw<|eu fE [Ch,AT,AT] [0]<|aa (eM 0 0)<|aa (eB oMod (eW 4)<|eC<|.int 3)<|aa (eV 7) aC)<|BS<|tE<|eB sS (dZ<|aa (aE ba<|aa (eM 0 0) aC)<|aa (aE bz<|aa (eM 0 0) aC) aC)<|eW 5) (bj (fu 0 [Ch,AT,Ch,AT,AT])<|a6<|eC<|.bl AT) kA
abbrev nI:γ Nat:=fu 0 [Ch,AT,Ch,AT,AT]
def Vo(l:ε L):Prop:=l=At\/∃d,l=v d
theorem Vo.nt(h:Vo l):vB l=False:=by rcases h with rfl|⟨_,rfl⟩<;>rfl
theorem PB:vB At=False:=rfl
theorem Ht(d:D):vB (AC<|.val d)=False:=rfl
theorem BU(d:D):vB (AC<|.bor d)=True:=rfl
theorem EE(hx:bC [dk x hall gs hs ps,d]=AC (r8,[]))(he:iO (.tup [gs,ps]) (.tup [gs,ps])=AC Ch)(h6:Vo l6)(h7:Vo l7)(r:γ D):
 gK nI (aW 7) nB (d::r) (nE (dk x hall gs hs ps) hall (dd a kv) g c (v<|.tup [gs,ps]) l6 l7)=gK nI (aW 7) nB r (nE (dk x hall gs hs ps) hall (dd a kv) g c (v<|.tup [gs,ps]) l6<|v d):=by
 have nn:=CL (w:=c % 3) hx ∅;have s1:=eP (x:=x) (hall:=hall) (gs:=gs) (hl:=hs) (ps:=ps);have h1:=lx (x:=x) (hall:=hall) (gs:=gs) (hl:=hs) (ps:=ps);have ne:=(qP he).2;have t6:=h6.nt;have t7:=h7.nt;simp[gK,nB,nE,kB,Ng,EK,Lw,BS,eu,nn,s1,h1,ne,eM,cM,lg,PB,Ht,BU,t6,t7,line,guard_pos,fu,BP,fh,fm,fR,kA]
abbrev nW:SM:=bj nI<|gZ (tE<|eB ED (aE eN<|aa (eV 1)<|aa (eB bG (eB aR (eW 5)<|eC<|.int 0)<|dZ<|aa (eV 3) aC)<|aa (eM 1 2) aC)<|eC<|.int 250) (a6<|eC<|.bl Ch) bA
abbrev nA:SM:=kB (Lw<|mB oEq (eu cZ [Ch,AT] [0]<|aa (eM 0 0)<|aa (eV 3) aC)<|mP<|eC<|.str [102,117,108,108]) (bj nI<|a6<|eB oEq (dZ<|aa (aE ba<|aa (eM 0 0) aC)<|aa (aE bz<|aa (eM 0 0) aC) aC)<|eW 5) kA
abbrev nZ:SM:=bj nI<|a6<|eB oEq (aE ba<|aa (eM 0 0) aC)<|eB bG (eB aR (eW 5)<|eC<|.int 0)<|dZ<|aa (eV 3) aC
theorem M6(hx:bC [dk x hall gs hs ps,.str g.name]=AC (r8,[]))(he:iO (.tup [gs,ps]) (.tup [gs,ps])=AC Ch)(hd:KS.cf [d]=.ok (.bl AT))(hp:aR (.lst<|T9 g.name<|aZ g) (.int<|c / 96 % 9)=.ok d)(h:bW nW (bW nA nZ) (nE (dk x hall gs hs ps) hall (dd a kv) (aZ g) c (v<|.tup [gs,ps]) (v<|.lst<|T9 g.name<|aZ g)<|v d)=r):iT (nE (dk x hall gs hs ps) hall (dd a kv) (aZ g) c At At At)=r:=by
 have s1:=eP (x:=x) (hall:=hall) (gs:=gs) (hl:=hs) (ps:=ps);have h1:=lx (x:=x) (hall:=hall) (gs:=gs) (hl:=hs) (ps:=ps);have n0:=yQ g;refine Gu (ρ1:=nE (dk x hall gs hs ps) hall (dd a kv) (aZ g) c (v<|.tup [gs,ps]) At At) ?_<|Gu (ρ1:=nE (dk x hall gs hs ps) hall (dd a kv) (aZ g) c (v<|.tup [gs,ps]) (v<|.lst<|T9 g.name<|aZ g) At) ?_<|Gu ?_ h
 .simp[bj,s1,h1,eM,cM,lg,PB,Ht,BU,line,guard_pos,fu]
 .simp[bj,n0,cM,lg,PB,Ht,BU,line,guard_pos,fu]
 .have it:dS (eL<|cu<|aa (eB aR (eW 3)<|eC<|.int 0)<|aa (eB aR (eW 6)<|eB oMod (eB oDiv (eW 4)<|eC<|.int 96)<|eC<|.int 9) aC) (nE (dk x hall gs hs ps) hall (dd a kv) (aZ g) c (v<|.tup [gs,ps]) (v<|.lst<|T9 g.name<|aZ g) At)=.ok [.str g.name,d]:=by simp only[T9]at hp;simp[n0,hp,line,cj,guard_pos,lW]
  show(dS _ _).bind _=_;rw[it];show gK nI (aW 7) nB [.str g.name,d] _=_;rw[EE hx he (.inr ⟨_,rfl⟩)<|.inl rfl,EE (Rf hd) he (.inr ⟨_,rfl⟩)<|.inr ⟨_,rfl⟩];rfl
theorem M5(hl:gl.length<=6)(hw:eN [hall,.tup (gl++[g]),dd a kv]=.ok (.int w))(h:250<w)(t:D):bW nW (bW nA nZ) (nE (dk x hall (.tup gl) hs ps) hall (dd a kv) g c (v<|.tup [.tup gl,ps]) (v t)<|v d)=.ok (.rt (.bl Ch) [dk x hall (.tup gl) hs ps,dd a kv]):=by
 have q:gl.length+1<=16777216:=by lia
 have i0:aR (.tup [.tup gl,ps]) (.int 0)=.ok _:=rfl;simp[bW,bj,i0,hw,h,q,eM,line,guard_pos,fu,fh,fR]
theorem M7(hl:gl.length<=6)(hw:eN [hall,.tup (gl++[g]),dd a kv]=.ok (.int w))(h:w<=250)(hk:cZ [dk x hall (.tup gl) hs ps,g]=.ok (.str sFl,[dk x hall (.tup gl) hs ps]))(he:iO (.tup [.tup gl,ps]) (.tup [.tup gl,ps])=AC Ch)(t:D):bW nW (bW nA nZ) (nE (dk x hall (.tup gl) hs ps) hall (dd a kv) g c (v<|.tup [.tup gl,ps]) (v t)<|v d)=.ok (.rt (.bl Ch) [dk x hall (.tup gl) hs ps,dd a kv]):=by
 have q:gl.length+1<=16777216:=by lia
 have i0:aR (.tup [.tup gl,ps]) (.int 0)=.ok _:=rfl;have h':¬250<w:=by lia
 have s1:=eP (x:=x) (hall:=hall) (gs:=.tup gl) (hl:=hs) (ps:=ps);have h1:=lx (x:=x) (hall:=hall) (gs:=.tup gl) (hl:=hs) (ps:=ps);have ee:=(qP he).1;have e2:oEq (.str [102,117,108,108]) (.str [102,117,108,108])=.ok _:=rfl;simp[bW,bj,kB,Lw,mB,mP,eu,i0,hw,h',q,hk,s1,h1,ee,e2,eM,cM,lg,PB,Ht,BU,line,guard_pos,fu,BP,fh,fm,fR]
theorem Vh(hl:gl.length<=6)(hw:eN [hall,.tup (gl++[g]),dd a kv]=.ok (.int w))(h:w<=250)(hk:cZ [dk x hall (.tup gl) hs ps,g]=.ok (.str Zt,[dk x hall (.tup<|gl++[g]) nY ud]))(he:iO (.tup<|gl++[g]) (.tup<|gl++[g])=AC Ch)(t:D):bW nW (bW nA nZ) (nE (dk x hall (.tup gl) hs ps) hall (dd a kv) g c (v<|.tup [.tup gl,ps]) (v t)<|v d)=.ok (.rt (.bl Ch) [dk x hall (.tup<|gl++[g]) nY ud,dd a kv]):=by
 have q:gl.length+1<=16777216:=by lia
 have i0:aR (.tup [.tup gl,ps]) (.int 0)=.ok _:=rfl;have h':¬250<w:=by lia
 have h1:=lx (x:=x) (hall:=hall) (gs:=.tup (gl++[g])) (hl:=nY) (ps:=ud);have ee:=(qP he).1;have e2:oEq (.str Zt) (.str [102,117,108,108])=.ok _:=rfl;simp[bW,bj,kB,Lw,mB,mP,eu,i0,hw,h',q,hk,h1,ee,e2,eM,cM,lg,PB,Ht,BU,line,guard_pos,fu,BP,fh,fm,fR,kA]
theorem Jf(c:Int):startB 8 [Ch,AT,Ch,AT,AT] [dk x hall gs hs ps,hall,dd a kv,g,.int c]=nE (dk x hall gs hs ps) hall (dd a kv) g c At At At:=rfl
theorem Jg(h:iT (nE (dk x hall gs hs ps) hall (dd a kv) g c At At At)=.ok (.rt (.bl Ch) [dk x hall J? nY ud,dd a vA])):ck [dk x hall gs hs ps,hall,dd a kv,g,.int c]=.ok (.bl Ch,[dk x hall J? nY ud,dd a vA]):=by unfold ck;rw[lX _ _ _ _ _ rfl,Jf,h]
theorem Ia(H:Hall rows C)(hN:N.length=6)(i:I rows C N xs m kv j)(dg:Dr g)(gn:g.name∈N)(hg:g.name∉nms xs)(c:Int):
 ∃l? m',I rows C N l? m' kv (j+1)/\∀x a,ck [dk x (bo rows) (aO xs) (aF xs) (aF m),bo rows,dd a kv,aZ g,.int c]=.ok (.bl Ch,[dk x (bo rows) (aO l?) (aF l?) (aF m'),dd a kv]):=by
 have h5:xs.length<=5:=by
  have:=nT (g.name::nms xs) N (A17.mpr ⟨hg,i.s.names⟩) λ y hy=>by
   rcases A02.mp hy with rfl|hy
   .exact gn
   .let⟨z,hz,rfl⟩:=A03.mp hy;exact i.nm z hz
  simp[nms]at this;lia
 have hm:∀y∈xs.map (λ x=>aZ x.1),lV y≠lV (aZ g):=λ y hy e=>by let⟨z,hz,rfl⟩:=A03.mp hy;exact hg<|A03.mpr ⟨z,hz,e⟩
 have l5:(xs.map λ x=>aZ x.1).length<=5:=by rw[A05];exact h5
 have _j:(xs.map λ x=>cN x.2).length<=5:=by rw[A05];exact h5
 have eg:aO (xs++[(g,At)])=.tup ((xs.map λ x=>aZ x.1)++[aZ g]):=by simp[aO]
 have eo:aF (xs++[(g,At)])=.tup ((xs.map λ x=>cN x.2)++[.non]):=by simp[aF,cN]
 have k6:(xs++[(g,At)]).length<=6:=by simp;lia
 have kg:∀y∈xs++[(g,At)],gW y.1:=λ y hy=>by
  rcases A41.mp hy with hy|hy
  .exact i.s.TB y hy
  .rw[A21.mp hy];exact dg.1
 have ko:=λ y hy=>(kg y hy).toGOk;have kn:(nms<|xs++[(g,At)]).Nodup:=by
  simp only[nms,A39,f8,A35];exact C25.mpr ⟨i.s.names,by simp,λ a ha b hb e=>by rw[A21.mp hb]at e;exact hg<|e▸ha⟩
 have kh:S3 kv (xs++[(g,At)]):=⟨i.h.nd,λ c=>by rw[i.h.eq,N6 hg]⟩
 have _l:=Kb i.s.good g;have hw:=λ a=>HJ H (a:=a) k6 ko kn kh;simp only[eg]at hw;have st:=Ks i.s.TB m;have hx:=λ x=>Vg (x:=x) (hall:=bo rows) (hl:=aF xs) (ps:=aF m) dg.2.2 (AI xs) hm;let⟨d9,h9,p9⟩:=UT g.name g c;have go:=λ x a {r} h=>M6 (r:=r) (a:=a) (kv:=kv) (hx x) st h9 p9 h;have same:I rows C N xs m kv (j+1):=⟨i.s,i.h,B56 i.l,i.dr,i.nm⟩
 by_cases big:cq rows C (xs++[(g,At)])<=250
 .have ef:=KB.xx H k6 ko _l;have wy:=KB.D6 H k6 ko ef;rw[eg,eo]at wy;have W2:((cq rows C<|xs++[(g,At)]):Int)<=2000:=by lia
  rcases KB.Ft H k6 kg _l (A15 big ∅) ef with⟨e,b⟩|⟨m',b,bb⟩
  .let⟨pp,q⟩:=KC.An H k6 ko _l (A15 big ∅) ef e;rw[eg,eo]at b q;have ax:=λ x=>P7 (x:=x) (ps:=aF m) dg.2.1 (yC g) (AI xs) hm l5 _j wy W2 b<|.inr ⟨pp,rfl,q,rfl⟩;have ak:=λ x=>DV (ax x) rfl;exact⟨xs,m,same,λ x a=>Jg<|go x a<|M7 ∅ (hw a) ∅ (ak x) st _⟩
  .have ml:m'.length=xs.length+1:=by have:=bb.ext.len;simp at this;lia
   let⟨p,hp⟩:=GX bb.full (λ e=>by rw[e]at ml;simp at ml) ∅;have nn:kz (aF m')=.ok (.bl AT):=rfl;rw[eg,eo]at b;have ax:=λ x=>P7 (x:=x) (ps:=aF m) dg.2.1 (yC g) (AI xs) hm l5 _j wy W2 b<|.inl ⟨nn,rfl⟩;have ao:=λ x=>SI (x:=x) (ps:=aF m) dg.2.1 (yC g) (AI xs) hm l5 _j b nn hp;have ak:=λ x=>Ld (ax x)<|ao x;have eq:=Kt 2 kg;rw[eg]at eq;refine⟨xs++[(g,At)],m',⟨⟨k6,kg,kn,big,bb⟩,kh,B56 i.l,λ y hy=>?_,λ y hy=>?_⟩,?_⟩
   .rcases A41.mp hy with hy|hy
    .exact i.dr y hy
    .rw[A21.mp hy];exact dg
   .rcases A41.mp hy with hy|hy
    .exact i.nm y hy
    .rw[A21.mp hy];exact gn
   .intro x a;rw[eg,eo];exact Jg<|go x a<|Vh ∅ (hw a) ∅ (ak x) eq _
 .exact⟨xs,m,same,λ x a=>Jg<|go x a<|M5 ∅ (hw a) ∅ _⟩
theorem EG:∀{m:γ GO},(∀x∈m,∃p,x.2=AC p)->fK .non (m.map λ x=>cN x.2)=AC AT
|[],_=>rfl
|y::m,h=>by
 let⟨p,e⟩:=h y A12;have ih:=EG λ z hz=>h z<|A09 _ hz;have e1:iO (cN y.2) .non=AC AT:=by rw[e];rfl
 simp[fK,e1,ih]
theorem E_(n t:γ Nat):eqB (.str n) (.str t)=decide (t=n):=by have:iO (.str t) (.str n)=AC _:=rfl;unfold eqB;rw[this];exact A53.mpr ∅
theorem Fj(n:γ Nat):∀ns:γ _,(n! (.str n)<|ns.map .str).isSome=Ch
|[]=>rfl
|t::ns=>by have e:iO (.str t) (.str n)=AC _:=rfl;let⟨k,hk⟩:=A75.mp (Fj n ns);rw[f8,n!,e,hk];rfl
theorem A_(n:γ Nat):∀{ns:γ _}{k},ns.Nodup->ns[k]?=AC n->(ns.map D.str).findIdx (eqB<|.str n)=k
|[],_,_,h=>by cases h
|t::ns,0,nd,h=>by
 have:t=n:=by simpa using h
 rw[f8,wf,E_,this];simp
|t::ns,k+1,nd,h=>by
 have nU:=A17.mp nd;have h':ns[k]?=AC n:=by simpa using h
 have ne:¬t=n:=λ e=>nU.1<|e▸A20 h';rw[f8,wf,E_,A_ n nU.2 h'];simp[ne]
theorem JU{ns:γ _}(nd:ns.Nodup)(hk:ns[k]?=AC n):yx (.lst<|ns.map .str) (.str n)=.ok (.int (k:Nat)):=by
 have e:=A_ n nd hk;have hl:=(A08.mp hk).1;have h1:(ns.map D.str).findIdx (eqB<|.str n)<(ns.map D.str).length:=by rw[e,A05];exact hl
 refine(guard_pos ⟨Fj n ns,h1⟩).trans ?_;rw[e]
theorem A8:∀{xs}{d},sG xs n=AC d->∃(k:Nat)(g:G)(p:Pl),xs[k]?=AC (g,AC p)/\g.name=n/\d=a! p
|[],d,h=>by cases h
|(g,o)::xs,d,h=>by
 unfold sG at h;by_cases c:g.name=n
 .simp only[c]at h;cases o with
  |none=>cases h
  |some p=>cases h;exact⟨0,g,p,rfl,c,rfl⟩
 .simp only[c]at h;let⟨k,g',p,h1,h2,h3⟩:=A8 h;exact⟨k+1,g',p,by simpa using h1,h2,h3⟩
theorem AR:∀{kv:jF},(kv.map (·.1)).Nodup->∀q∈kv,kv.lookup q.1=AC q.2
|[],_,q,h=>by cases h
|(c,d)::kv,nd,q,h=>by
 have nU:=A17.mp nd;rcases A02.mp h with rfl|h
 .simp
 .have:q.1≠c:=λ e=>nU.1<|e▸A03.mpr ⟨q,h,rfl⟩;rw[A71,A61.mpr this];exact AR nU.2 q h
abbrev stB:SF:=gZ (wL (tE<|eB jn (eW 6)<|eW 5)<|wL (tE<|eB sS (eB aR (eW 4)<|eB yx (eW 5)<|eW 6)<|eB Gi (eV 2)<|eV 6)<|tE<|eB sS (aE cw<|aa (eM 0 0)<|aa (eV 6) aC)<|eB Gi (eV 2)<|eV 6) (a6<|eC<|.bl AT) bA
theorem FY(H:Hall rows C)(i:I rows C N xs m kv j):fX [dk x (bo rows) (aO xs) (aF xs) (aF m),bo rows,dd a kv]=.ok (.bl Ch):=by
 have ha:=lx (x:=x) (hall:=bo rows) (gs:=aO xs) (hl:=aF xs) (ps:=aF m);have hs:=eP (x:=x) (hall:=bo rows) (gs:=aO xs) (hl:=aF xs) (ps:=aF m);have ml:=i.s.best.ext.len;have s6:=i.s.six;have gm:aO xs=aO m:=by have:=A11 (List.map aZ) i.s.best.ext.gs;simp only[A16]at this;exact A11 D.tup this
 have mg:∀x∈m,GOk x.1:=λ y hy=>by
  have:y.1∈xs.map (·.1):=by rw[i.s.best.ext.gs];exact A03.mpr ⟨y,hy,rfl⟩
  let⟨z,hz,e⟩:=A03.mp this;rw[<-e];exact(i.s.TB z hz).toGOk
 have ke:=KB.JN H ∅ mg i.s.best.good;rw[<-gm]at ke;have nn:sT .non (aF m)=.ok (.bl AT):=by
  have:=EG (m:=m) λ y hy=>by
   let⟨k,hk⟩:=A88 hy;let⟨g,o⟩:=y;cases o with
   |none=>exact absurd hk<|i.s.best.full k g
   |some p=>exact⟨p,rfl⟩
  show(match fK .non (m.map λ x=>cN x.2)with|some b=>Res.ok<|D.bl b|none=>.bad)=_;rw[this]
 have l1:cL (aF m)=.ok (.int (xs.length:Nat)):=by simp[aF,ml]
 have l2:cL (aO xs)=.ok (.int (xs.length:Nat)):=by simp[aO]
 have n3:=(qP (d:=.int (xs.length:Nat))<|PU 6 _).2;have cg:=λ ρ hρ=>mw (AI xs) ρ hρ;have nl:(xs.map λ x=>aZ x.1).map (λ g=>D.str<|lV g)=(nms xs).map .str:=by simp[nms,A16];exact λ _ _ _=>rfl
 rw[nl]at cg;have q0:(xs.map λ x=>aZ x.1).length<=16777216:=by rw[A05];lia
 have ks:(∃cs:γ (γ Nat),(kv.map λ p=>(GE p.1:Sum Int (γ Nat)))=cs.map .inr):=⟨kv.map (·.1),by simp[A16]⟩
 have kk:Pz (.dct (kv.map λ p=>.inr p.1) (kv.map (·.2)))=.ok (kv.map λ p=>.str p.1):=by refine(guard_pos ks).trans ?_;rw[A16];rfl
 have lp:∀ρ,(∃l6,ρ=[AC (.bor<|dk x (bo rows) (aO xs) (aF xs)<|aF m),v (bo rows),v (.dct (kv.map λ p=>.inr p.1) (kv.map (·.2))),v (aO xs),v (aF m),v (.lst<|(nms xs).map .str),l6])->Ok (fv (aW 6) stB (kv.map λ p=>.str p.1) ρ) λ fl=>∃ρ',fl=.nx ρ':=by
  intro ρ h;refine N? (λ ρ=>∃l6,ρ=[AC (.bor<|dk x (bo rows) (aO xs) (aF xs)<|aF m),v (bo rows),v (.dct (kv.map λ p=>.inr p.1) (kv.map (·.2))),v (aO xs),v (aF m),v (.lst<|(nms xs).map .str),l6]) h (λ d hd ρ hρ=>?_) λ ρ _=>⟨ρ,rfl⟩
  let⟨l6,rfl⟩:=hρ;let⟨⟨n,e⟩,hq,rfl⟩:=A03.mp hd;have lk:=AR i.h.nd _ hq;dsimp only at lk ⊢;rw[i.h.eq]at lk;let⟨k,g,p,hk,rfl,rfl⟩:=A8 lk;have hm:=i.s.best.ext.sub k g p hk;have nu:=CK (x:=x) (hall:=bo rows) (hl:=aF xs) (ps:=aF m) i.s.names i.dr hk;have wh:=tI nu<|JP hm;have ix:=JP hm;have nk:(nms xs)[k]?=AC g.name:=by simp[nms,hk]
  have ii:=JU i.s.names nk;have ni:jn (.str g.name) (.lst<|(nms xs).map .str)=.ok (.bl AT):=by rw[(pV g.name<|nms xs).2,A44<|A20 nk];rfl
  have dx:Gi (.dct (kv.map λ p=>.inr p.1) (kv.map (·.2))) (.str g.name)=.ok (a! p):=by refine(guard_pos ks).trans ?_;rw[sY,i.h.eq,lk]
  have ne:=(G3 p).2;have eo:cN (AC p)=a! p:=rfl;simp only[eo]at wh ix;generalize bo rows=hh at *;generalize D.dct (kv.map λ p=>.inr p.1) (kv.map (·.2))=dc at *;generalize aF m=om at *;generalize D.lst ((nms xs).map .str)=nl at *;simp[stB,eM,wh,ix,ii,ni,dx,ne,turn]
 have Eg:fD [dk x (bo rows) (aO xs) (aF xs) (aF m),bo rows,.dct (kv.map λ p=>.inr p.1) (kv.map (·.2))]=.ok (.bl Ch):=by
  rw[wb];refine aP ?_;let⟨fl,e,ρ',rfl⟩:=lp _ ⟨At,rfl⟩;have cm:∀ρ,ρ[3]?=AC (v<|aO xs)->eL (bU (dS<|eW 3) 1 [] (aW 0) cb<|eB aR (eW 0)<|eC<|.int 0) ρ=.ok (.lst<|(nms xs).map .str):=λ ρ h=>by
   have it:dS (eW 3) ρ=.ok (xs.map λ x=>aZ x.1):=by simp[h,aO,lW]
   have q1:xs.length<=16777216:=by lia
   simp only[eL,bB,fF,it];simp[cg,q1,line,guard_pos]
  generalize bo rows=hh at *;generalize D.dct (kv.map λ p=>.inr p.1) (kv.map (·.2))=dc at *;generalize aO xs=gs at *;generalize aF xs=os at *;generalize aF m=om at *;generalize D.lst ((nms xs).map .str)=nl at *;refine KS.mi (ρ1:=[AC (.bor<|dk x hh gs os om),v hh,v dc,v gs,At,At,At]) (by simp[ha,eM]) ?_;refine KS.mi (ρ1:=[AC (.bor<|dk x hh gs os om),v hh,v dc,v gs,v om,At,At]) (by simp[hs,eM]) ?_;refine KS.mi (ρ1:=[AC (.bor<|dk x hh gs os om),v hh,v dc,v gs,v om,At,At]) (by simp[nn,l1,l2,n3,ke]) ?_;refine KS.mi (ρ1:=[AC (.bor<|dk x hh gs os om),v hh,v dc,v gs,v om,v nl,At]) (by rw[bc,cm _ rfl];exact⟨_,rfl,rfl⟩) ?_;refine KS.mi (ρ1:=ρ') ⟨_,?_,rfl⟩ ∅;have ik:A2 (eV 2) [AC (.bor<|dk x hh gs os om),v hh,v dc,v gs,v om,v nl,At]=.ok (kv.map λ p=>.str p.1):=by simp[A2,kk]
  show(A2 _ _).bind _=_;rw[ik];exact e
 show guard (_/\_) _=_;rw[guard_pos ⟨rfl,x,dE,_,rfl⟩];show(fD _).bind blR=_;rw[Eg];rfl
abbrev lE(X0 hall X2 S DK dct:D)(l6 l7 l8:ε L):Env:=[v X0,v hall,v X2,v S,AC (.bor DK),AC (.bor dct),l6,l7,l8]
abbrev lT:OX:=BS<|tE<|eB sT (eB aR (eW 7)<|eC<|.int 0)<|eL<|bU (dS<|aE ba<|aa (eM 0 4) aC) 1 [] (aW 0) cb<|eB aR (eW 0)<|eC<|.int 0
abbrev lB:SM:=bW (bj ([4]++[5])<|bc 7<|eB aR (eW 3)<|eB oMod (eB oDiv (eW 6)<|eC<|.int 8)<|eC<|.int 12)<|bW (kB lT (CQ 8<|eu bX [Ch,Ch,AT,AT] [4,5]<|aa (eM 0 4)<|aa (eM 1 5)<|aa (eB aR (eW 7)<|eC<|.int 0)<|aa (eV 6) aC)<|CQ 8<|eu ck [Ch,AT,Ch,AT,AT] [4,5]<|aa (eM 0 4)<|aa (eV 1)<|aa (eM 1 5)<|aa (eV 7)<|aa (eV 6) aC)<|bj ([4]++[5])<|gZ (wL (gb<|tE<|eV 8)<|gb<|tE<|aE fX<|aa (eM 0 4)<|aa (eV 1)<|aa (eM 1 5) aC) (a6<|eC<|.bl AT) bA
theorem VE(hl:gl.length<=6)(hn:∀y∈gl,zx y)(e0:aR g (.int 0)=.ok (.str n)):lT (lE X0 hall X2 S (dk x hall (.tup gl) hs ps) (dd a kv) (v<|.int c) (v g) l8)=.ok (decide<|n∈gl.map lV,lE X0 hall X2 S (dk x hall (.tup gl) hs ps) (dd a kv) (v<|.int c) (v g) l8):=by
 have h1:=lx (x:=x) (hall:=hall) (gs:=.tup gl) (hl:=hs) (ps:=ps);have cg:=λ ρ hρ=>mw hn ρ hρ;have q0:gl.length<=16777216:=by lia
 have C?:sT (.str n) (.lst<|gl.map λ g=>.str<|lV g)=.ok (.bl<|decide<|n∈gl.map lV):=by have:=(pV n<|gl.map lV).1;rw[A16]at this;exact this
 simp[BS,e0,h1,bB,fF,cg,q0,C?,eM,line,guard_pos]
theorem forM_cons(hg:g d ρ=.ok ρ1)(hk:cM ms ρ ρ1)(hb:b ρ1=.ok (.nx ρ2))(hr:gK ms g b r ρ2=z):gK ms g b (d::r) ρ=z:=by rw[gK,hg,Res.k_,guard_pos hk,hb];exact hr
theorem one(hl:gl.length<=6)(hn:∀y∈gl,zx y)(e0:aR g (.int 0)=.ok (.str n))(hS:aR S (.int<|c / 8 % 12)=.ok g)
 (hd:(n∈gl.map lV/\bX [dk x hall (.tup gl) hs ps,dd a kv,.str n,.int c]=.ok (.bl Ch,[dk x hall J? nY ud,dd a vA]))\/(n∉gl.map lV/\ck [dk x hall (.tup gl) hs ps,hall,dd a kv,g,.int c]=.ok (.bl Ch,[dk x hall J? nY ud,dd a vA])))
 (st:fX [dk x hall J? nY ud,hall,dd a vA]=.ok (.bl Ch)) (h6:Vo l6) (h7:Vo l7) (h8:Vo l8) (r:γ D) :
 gK ([4]++[5]) (aW 6) lB (.int c::r) (lE X0 hall X2 S (dk x hall (.tup gl) hs ps) (dd a kv) l6 l7 l8)=gK ([4]++[5]) (aW 6) lB r (lE X0 hall X2 S (dk x hall J? nY ud) (dd a vA) (v<|.int c) (v g)<|v<|.bl Ch):=by
 have t6:=h6.nt;have t7:=h7.nt;have t8:=h8.nt;refine forM_cons rfl (by simp[cM,lg,PB,Ht,BU,t6,t7,t8]) ?_ rfl;refine Gu (ρ1:=lE X0 hall X2 S (dk x hall (.tup gl) hs ps) (dd a kv) (v<|.int c) (v g) l8) (by simp[bj,hS,cj,cM,lg,PB,Ht,BU,t8,line,guard_pos]) ?_;refine Gu (ρ1:=lE X0 hall X2 S (dk x hall J? nY ud) (dd a vA) (v<|.int c) (v g) (v<|.bl Ch)) ?_ ?_
 .rw[kB,VE hl hn e0];rcases hd with⟨hm,hd⟩|⟨hm,hd⟩
  .rw[A44 hm];simp[CQ,eu,hd,e0,eM,line,guard_pos,BP,fh,fm,fR]
  .rw[A28 hm];simp[CQ,eu,hd,eM,line,guard_pos,BP,fh,fm,fR]
 .simp[bj,st,eM,cM,lg,PB,Ht,BU,line,guard_pos]
theorem loop(H:Hall rows C)(hN:N.length=6)(hS:∀c,∃g,Dr g/\g.name∈N/\aR S (.int<|c / 8 % 12)=.ok (aZ g)):∀(cs:γ Int) xs m kv j l6 l7 l8,I rows C N xs m kv j->j+cs.length<900->Vo l6->Vo l7->Vo l8->∃l? m' vA VH VG VF,∀x a,gK ([4]++[5]) (aW 6) lB (cs.map .int) (lE X0 (bo rows) X2 S (dk x (bo rows) (aO xs) (aF xs)<|aF m) (dd a kv) l6 l7 l8)=.ok (.nx<|lE X0 (bo rows) X2 S (dk x (bo rows) (aO l?) (aF l?)<|aF m') (dd a vA) VH VG VF)
|[],xs,m,kv,j,l6,l7,l8,i,_,_,_,_=>⟨xs,m,kv,l6,l7,l8,λ _ _=>rfl⟩
|c::cs,xs,m,kv,j,l6,l7,l8,i,hj,h6,h7,h8=>by
 rw[A33]at hj;let⟨g,dg,gn,eS⟩:=hS c;have mm:(xs.map λ x=>aZ x.1).map lV=nms xs:=by rw[A16];rfl
 obtain⟨l?,m',vA,i',e⟩:∃l? m' vA,I rows C N l? m' vA _/\∀x a,(g.name∈(xs.map λ x=>aZ x.1).map lV/\bX [dk x _ _ _ _,dd a kv,.str _,.int c]=.ok (.bl Ch,[dk x _ _ _ _,dd a vA]))\/(g.name∉(xs.map λ x=>aZ x.1).map lV/\ck [dk x _ _ _ _,bo rows,dd a kv,aZ g,.int c]=.ok (.bl Ch,[dk x (bo rows) (aO l?) (aF l?) (aF m'),dd a vA])):=by
  rw[mm];by_cases hg:g.name∈nms xs
  .let⟨l?,m',vA,i',e⟩:=Co H i ∅ hg c;exact⟨l?,m',vA,i',λ x a=>.inl ⟨hg,e x a⟩⟩
  .let⟨l?,m',i',e⟩:=Ia H hN i dg gn hg c;exact⟨l?,m',kv,i',λ x a=>.inr ⟨hg,e x a⟩⟩
 have st:=λ x a=>FY (x:=x) (a:=a) H i';let⟨xs2,m2,kv2,VH,VG,VF,q⟩:=loop H hN hS cs l? m' vA (j+1) (v<|.int c) (v<|aZ g) (v<|.bl Ch) i' ∅ (.inr ⟨_,rfl⟩) (.inr ⟨_,rfl⟩) (.inr ⟨_,rfl⟩);exact⟨xs2,m2,kv2,VH,VG,VF,λ x a=>(one (JG i.s) (AI xs) (yQ g) eS (e x a) (st x a) h6 h7 h8 _).trans<|q x a⟩
theorem holds(ns:γ Int)(hn:ns.length<=63)(hb:∀i∈ns,bits i<=2^20):qY [.lst (ns.map .int)]=.ok (.bl Ch):=by
 have B:=hb;let⟨rows,R,C,kE,r1,r2,c1,c2,eh⟩:=A6 B;have H:=(KG.Wr (by rw[kE.1];exact r1) (by rw[kE.1];exact r2) c1 c2 kE.2).toHall;have HA:KA.Hall R C rows:=⟨r1,r2,c1,c2,kE.1,λ x hx=>(kE.2 x hx).1,λ x hx=>(kE.2 x hx).2⟩
 let⟨k2,e2,_⟩:=KG.qh B (k:=2) ∅;let⟨nms,hl6,nd,nok,en⟩:=yD k2;let⟨gs,N1,Yx,eg⟩:=v3 (N:=nms) B (st:=3) ∅ (nms:=nms++nms) (by rw[A30];lia) λ n h=>by
  have:n∈nms:=by rcases A41.mp h with h|h<;>exact h
  exact⟨this,nok n this⟩
 have hS:∀c,∃g,Dr g/\g.name∈nms/\aR (.tup<|gs.map aZ) (.int<|c / 8 % 12)=.ok (aZ g):=λ c=>by
  have hj:(c / 8 % 12).toNat<gs.length:=by rw[N1,A30];lia
  have h:=Yx _<|B26 hj;refine⟨gs[(c / 8 % 12).toNat],h.1,h.2,(iE (j:=(c / 8 % 12).toNat) ∅ ?_).1⟩;rw[A06,A01 hj];rfl
 have hi:=NQ HA;obtain⟨ms,hms⟩:∃ms:γ Int,cut (ns.map D.int) (AC 15) (AC 28)=ms.map .int:=ints_of λ d hd=>by have:=EN hd;let⟨i,_,rfl⟩:=A03.mp this;exact⟨i,rfl⟩
 have Yu:ms.length<=63:=by have:=lI (ns.map D.int) (AC 15)<|some 28;rw[hms,A05,A05]at this;lia
 let⟨l?,m',vA,VH,VG,VF,lp⟩:=loop (X0:=.lst (ns.map .int)) (X2:=.lst (nms.map .str)) H hl6 hS ([0,8,17]++ms) [] [] [] 0 At At At (i0 rows C nms) (by simp;lia) (.inl rfl) (.inl rfl) (.inl rfl);have ad:K5 (.lst<|nms.map .str) (.lst<|nms.map .str)=.ok ((nms++nms).map .str):=by
  have:nms.length+nms.length<=16777216:=by lia
  simp[K5,line,guard_pos,this]
 rw[A39]at eg ad;rw[Sd];refine aP ?_;unfold Lc;refine KS.mi (ρ1:=[v (.lst<|ns.map .int),v (bo rows),At,At,At,At,At,At,At]) (by simp[eh]) ?_;refine KS.mi (ρ1:=[v (.lst<|ns.map .int),v (bo rows),v (.lst<|nms.map .str),At,At,At,At,At,At]) (by simp[e2,en]) ?_;refine KS.mi (ρ1:=[v (.lst<|ns.map .int),v (bo rows),v (.lst<|nms.map .str),v (.tup<|gs.map aZ),At,At,At,At,At]) (by simp[CY,ad,eg]) ?_;refine⟨.rt<|.bl Ch,JB (d:=bo rows) ∅ hi (by simp[lg,vB]) λ x=>?_,rfl⟩;refine⟨[dk x (bo rows) (aO l?) (aF l?) (aF m')],(M! ∅ rfl λ a=>⟨dd a vA,?_⟩)⟩;refine Gu (ρ1:=lE (.lst<|ns.map .int) (bo rows) (.lst<|nms.map .str) (.tup<|gs.map aZ) (dk x (bo rows) (aO l?) (aF l?)<|aF m') (dd a vA) VH VG VF) ?_ ?_
 .unfold Nl;have it:∀ρ,ρ[0]?=AC (v<|.lst<|ns.map .int)->dS (eL<|GC (eL<|cu<|aa (eC<|.int 0)<|aa (eC<|.int 8)<|aa (eC<|.int 17) aC)<|eL<|Nu (eW 0) (su<|eC<|.int 15)<|su<|eC<|.int 28) ρ=.ok (([0,8,17]++ms).map .int):=λ ρ h=>by
   have q:3+ms.length<=16777216:=by lia
   simp[CY,h,hms,K5,line,guard_pos,q,lW]
  rw[it _ rfl];exact lp x a
 .simp[bj,lE,guard_pos,fh,fR]
end gV
set_option maxRecDepth 100000
namespace gV
open PySem PySem.Spec PyProof.Rows L2 ZQ KG KH KB KC KA KS
def top(i:Nat):η:=PySem.Challenge.pw_besideseats_k83_fast_ones_stay.main.body.getD i<|.Pass ⟨0,0,0,0⟩
abbrev w?(i j:Nat):η:=ZS.clsAt (top i) j
theorem OL:bootBuiltins "bool"=AC (.type "bool"):=by kernel_rfl
theorem zf:bootBuiltins "int"=AC (.type "int"):=by kernel_rfl
theorem cJ:bootBuiltins "isinstance"=AC (.builtin "isinstance"):=by kernel_rfl
theorem Lb:bootBuiltins "max"=AC (.builtin "max"):=by kernel_rfl
theorem La:bootBuiltins "min"=AC (.builtin "min"):=by kernel_rfl
theorem DO:bootBuiltins "str"=AC (.type "str"):=by kernel_rfl
theorem qm:bootBuiltins "tuple"=AC (.type "tuple"):=by kernel_rfl
abbrev yh:η:=top 66
theorem nP:a9 ["groups","seatings"] ["groups","seatings"] (aj yh):=ZS.Dg
abbrev ua:η:=top 71
theorem lR:a9 ["groups","places","seating","waiting","k","spots","papers"] ["groups","places","seating"] (aj ua):=ZS.Dg
set_option genInjectivity false in
structure Fs(K:Da)(mg:Str->Option Value)(h:Heap)where
 X:K.In h
 G:h.Ns mainGlobals mg
 {dY:Addr}
 Cd:ac K "is_whole" (top 11)
 ph:ac K "is_whole_within" (top 12)
 zX:ac K "is_letter" (top 13)
 FO:ac K "is_name" (top 29)
 FP:ac K "is_kind" (top 30)
 zY:ac K "is_amount" (top 31)
 FL:ac K "is_wish" (top 32)
 x!:ac K "are_wishes" (top 33)
 qC:ac K "asks_for_seats" (top 34)
 Ce:ac K "is_group" (top 35)
 B!:ac K "worth_in" (top 36)
 FN:ac K "is_sign" (top 40)
 HN:ac K "is_row" (top 41)
 FQ:ac K "is_hall" (top 42)
 FJ:ac K "sign_at" (top 43)
 L3:ac K "takes" (top 45)
 B_:ac K "seats_of" (top 46)
 Qj:ac K "fits" (top 47)
 zR:ac K "places_of" (top 48)
 L5:ac K "apart" (top 50)
 qB:ac K "those_that_sit" (top 51)
 qD:ac K "apart_from_all" (top 52)
 L4:ac K "keeps" (top 53)
 B':ac K "worth_of" (top 54)
 tO:ac K "fast_seating" (top 57)
 Qi:ZS.qr K "ways" (top 58)
 nL:ac K "small_start" (top 59)
 xU:ac K "with_place" (top 60)
 xV:ac K "open_among" (top 61)
 r_:ac K "with_one_more" (top 62)
 sd:ac K "seatings_from" (top 63)
 tN:ZS.qr K "first_of_all" (top 64)
 pj:ZS.vo K "best_among" (top 66)
 nM:ZS.qr K "best_of_all" (top 67)
 x?:ac K "all_places" (top 69)
 B?:ac K "spots_of" (top 70)
 jg:ZS.vo K "paper_beside" (top 71)
 Ca:ZS.qr K "paper_of" (top 72)
 FI:ac K "without" (top 75)
 z0:lm K dY "__init__" "Desk.__init__" (w? 76 0)
 ka:lm K dY "number_of" "Desk.number_of" (w? 76 1)
 tR:lm K dY "ask" "Desk.ask" (w? 76 2)
 rC:lm K dY "fast" "Desk.fast" (w? 76 3)
 rD:lm K dY "away" "Desk.away" (w? 76 4)
 pq:lm K dY "where" "Desk.where" (w? 76 5)
 tQ:lm K dY "at_hand" "Desk.at_hand" (w? 76 6)
 tP:lm K dY "seating" "Desk.seating" (w? 76 7)
 vJ:ac K "_law_cell_at" (top 78)
 zU:ac K "_law_mixed" (top 79)
 xZ:ac K "_law_digits" (top 80)
 zT:ac K "_law_names" (top 81)
 vI:ac K "_law_letters" (top 82)
 Cc:ac K "_law_hall" (top 83)
 FK:ac K "_law_any" (top 84)
 zV:ac K "_law_group" (top 85)
 xY:ac K "_law_groups" (top 86)
 xX:ac K "_law_places" (top 87)
 Cb:ac K "_law_ways" (top 88)
 zW:ac K "_law_asked" (top 89)
 vH:ac K "_law_no_name" (top 90)
 xW:ac K "_law_stands" (top 91)
 zS:ac K "_law_there" (top 92)
 se:ac K "_law_not_there" (top 93)
 Ub:ac K "law" (top 94)
 Vx:FB K mainGlobals "all"=AC At
 Rl:FB K mainGlobals "bool"=AC At
 AK:FB K mainGlobals "enumerate"=AC At
 Vw:FB K mainGlobals "int"=AC At
 yE:FB K mainGlobals "isinstance"=AC At
 Vv:FB K mainGlobals "len"=AC At
 Vu:FB K mainGlobals "max"=AC At
 Vt:FB K mainGlobals "min"=AC At
 Na:FB K mainGlobals "range"=AC At
 Vs:FB K mainGlobals "str"=AC At
 Vr:FB K mainGlobals "sum"=AC At
 M_:FB K mainGlobals "tuple"=AC At
 Vq:FB K mainGlobals "zip"=AC At
 {Eb:Tok}
 L0:FB K mainGlobals "DEPTH"=AC (AC<|.int 2 Eb)
 {O_:Tok}
 Ua:FB K mainGlobals "GAP"=AC (AC<|.int 5 O_)
 {H!:Tok}
 Qg:FB K mainGlobals "KIND"=AC (AC<|.int 3 H!)
 {tX:Tok}
 B9:FB K mainGlobals "LAST_ROW"=AC (AC<|.int 5 tX)
 {me:Tok}
 tL:FB K mainGlobals "MOST_COLUMNS"=AC (AC<|.int 12 me)
 {pB:Tok}
 xQ:FB K mainGlobals "MOST_DEPTH"=AC (AC<|.int 3 pB)
 {tW:Tok}
 B8:FB K mainGlobals "MOST_GAP"=AC (AC<|.int 6 tW)
 {nO:Tok}
 vG:FB K mainGlobals "MOST_GUESTS"=AC (AC<|.int 6 nO)
 {md:Tok}
 tK:FB K mainGlobals "MOST_LETTERS"=AC (AC<|.int 8 md)
 {rG:Tok}
 zQ:FB K mainGlobals "MOST_ROWS"=AC (AC<|.int 6 rG)
 {rF:Tok}
 zP:FB K mainGlobals "MOST_WAYS"=AC (AC<|.int 2000 rF)
 {pA:Tok}
 xP:FB K mainGlobals "MOST_WIDTH"=AC (AC<|.int 12 pA)
 {HZ:Tok}
 Qf:FB K mainGlobals "NAME"=AC (AC<|.int 0 HZ)
 {Ea:Tok}
 LZ:FB K mainGlobals "PARTS"=AC (AC<|.int 8 Ea)
 {HY:Tok}
 Qe:FB K mainGlobals "WIDE"=AC (AC<|.int 4 HY)
 {D_:Tok}
 LY:FB K mainGlobals "WIDTH"=AC (AC<|.int 1 D_)
 {z7:Tok}
 HL:FB K mainGlobals "WISHES"=AC (AC<|.int 7 z7)
 {D?:Tok}
 LX:FB K mainGlobals "WORTH"=AC (AC<|.int 6 D?)
 w_Desk:FB K mainGlobals "Desk"=AC (AC<|.ref dY)
 {iU:Addr}
 w_Full:FB K mainGlobals "Full"=AC (AC<|.ref iU)
 {nC:Addr}
 w_NoGroup:FB K mainGlobals "NoGroup"=AC (AC<|.ref nC)
 {jH:Addr}
 w_NoName:FB K mainGlobals "NoName"=AC (AC<|.ref jH)
 {dX:Addr}
 w_TooGreat:FB K mainGlobals "TooGreat"=AC (AC<|.ref dX)
 {tm:Addr}
 w_Twice:FB K mainGlobals "Twice"=AC (AC<|.ref tm)
 LR:sK K iU=Ch
 B1:sK K nC=Ch
 FE:sK K jH=Ch
 zF:sK K dX=Ch
 HG:sK K tm=Ch
 B0:lv K nC [.type "ValueError",.type "Exception",.type "BaseException",.type "object"] "ValueError.__new__"=Ch
 FD:lv K jH [.type "ValueError",.type "Exception",.type "BaseException",.type "object"] "ValueError.__new__"=Ch
 HE:lv K tm [.type "ValueError",.type "Exception",.type "BaseException",.type "object"] "ValueError.__new__"=Ch
 OH:Ln K dY
 Ni:bn K dY=Ch
 Nx:FM K (.ref dY)=Ch
 Gm:Fk K (.ref dY) "guests"=AC At
 M9:Fk K (.ref dY) "hall"=AC At
 M8:Fk K (.ref dY) "held"=AC At
 Gk:Fk K (.ref dY) "places"=AC At
 Og:ZS.vn K iU
 Bn:ZS.vn K dX
 v?:Fk K (.ref iU) "paper"=AC At
 q!:Fk K (.ref dX) "many"=AC At
 qZ:Fk K (.ref dX) "most"=AC At
 yg:AC9 K iU (.ref iU)=AC Ch
 qH:AC9 K jH (.ref jH)=AC Ch
 zZ:lm K iU "__init__" "Full.__init__" (w? 8 0)
 LQ:ZS.BZ K iU=Ch
 Nw:FM K (.ref iU)=Ch
 sf:lm K dX "__init__" "TooGreat.__init__" (w? 9 0)
 zD:ZS.BZ K dX=Ch
 AX:FM K (.ref dX)=Ch
section
variable{P:ο}{w:ξ}{K:Da}{mg:Str->ε ζ}{base h:ν}(z:Fs K mg h)
include z
theorem Fs.n5:mg "all"=At:=A57 z.X z.G z.Vx
theorem Fs.g_bool:mg "bool"=At:=A57 z.X z.G z.Rl
theorem Fs.rW:mg "enumerate"=At:=A57 z.X z.G z.AK
theorem Fs.E7:mg "int"=At:=A57 z.X z.G z.Vw
theorem Fs.cY:mg "isinstance"=At:=A57 z.X z.G z.yE
theorem Fs.dA:mg "len"=At:=A57 z.X z.G z.Vv
theorem Fs.PR:mg "max"=At:=A57 z.X z.G z.Vu
theorem Fs.PQ:mg "min"=At:=A57 z.X z.G z.Vt
theorem Fs.dN:mg "range"=At:=A57 z.X z.G z.Na
theorem Fs.Ke:mg "str"=At:=A57 z.X z.G z.Vs
theorem Fs.PN:mg "sum"=At:=A57 z.X z.G z.Vr
theorem Fs.f9:mg "tuple"=At:=A57 z.X z.G z.M_
theorem Fs.PM:mg "zip"=At:=A57 z.X z.G z.Vq
theorem Fs.qj:mg "DEPTH"=AC (.int 2 z.Eb):=A22 z.X z.G z.L0
theorem Fs.K_:mg "GAP"=AC (.int 5 z.O_):=A22 z.X z.G z.Ua
theorem Fs.K?:mg "KIND"=AC (.int 3 z.H!):=A22 z.X z.G z.Qg
theorem Fs.DF:mg "LAST_ROW"=AC (.int 5 z.tX):=A22 z.X z.G z.B9
theorem Fs.vf:mg "MOST_COLUMNS"=AC (.int 12 z.me):=A22 z.X z.G z.tL
theorem Fs.ze:mg "MOST_DEPTH"=AC (.int 3 z.pB):=A22 z.X z.G z.xQ
theorem Fs.DD:mg "MOST_GAP"=AC (.int 6 z.tW):=A22 z.X z.G z.B8
theorem Fs.iA:mg "MOST_GUESTS"=AC (.int 6 z.nO):=A22 z.X z.G z.vG
theorem Fs.ve:mg "MOST_LETTERS"=AC (.int 8 z.md):=A22 z.X z.G z.tK
theorem Fs.BG:mg "MOST_ROWS"=AC (.int 6 z.rG):=A22 z.X z.G z.zQ
theorem Fs.j2:mg "MOST_WAYS"=AC (.int 2000 z.rF):=A22 z.X z.G z.zP
theorem Fs.zd:mg "MOST_WIDTH"=AC (.int 12 z.pA):=A22 z.X z.G z.xP
theorem Fs.lJ:mg "NAME"=AC (.int 0 z.HZ):=A22 z.X z.G z.Qf
theorem Fs.OJ:mg "PARTS"=AC (.int 8 z.Ea):=A22 z.X z.G z.LZ
theorem Fs.K!:mg "WIDE"=AC (.int 4 z.HY):=A22 z.X z.G z.Qe
theorem Fs.qi:mg "WIDTH"=AC (.int 1 z.D_):=A22 z.X z.G z.LY
theorem Fs.BF:mg "WISHES"=AC (.int 7 z.z7):=A22 z.X z.G z.HL
theorem Fs.Fq:mg "WORTH"=AC (.int 6 z.D?):=A22 z.X z.G z.LX
theorem Fs.Rr:mg "Full"=AC (.ref z.iU):=A22 z.X z.G z.w_Full
theorem Fs.JC:mg "NoName"=AC (.ref z.jH):=A22 z.X z.G z.w_NoName
theorem Fs.B2:sw K [70,117,108,108] z.iU:=tz (by decide +kernel) z.w_Full z.LR
theorem Fs.FF:sw K [78,111,71,114,111,117,112] z.nC:=tz (by decide +kernel) z.w_NoGroup z.B1
theorem Fs.tD:sw K [78,111,78,97,109,101] z.jH:=tz (by decide +kernel) z.w_NoName z.FE
theorem Fs.tw:sw K [84,111,111,71,114,101,97,116] z.dX:=tz (by decide +kernel) z.w_TooGreat z.zF
theorem Fs.LS:sw K [84,119,105,99,101] z.tm:=tz (by decide +kernel) z.w_Twice z.HG
theorem Fs.hC:ZS.vp K "Desk" z.dY:=⟨z.w_Desk,z.OH⟩
theorem Fs.da:ZS.T4 K "guests":=⟨z.dY,z.w_Desk,z.Gm⟩
theorem Fs.m?:ZS.T4 K "hall":=⟨z.dY,z.w_Desk,z.M9⟩
theorem Fs.iX:ZS.T4 K "held":=⟨z.dY,z.w_Desk,z.M8⟩
theorem Fs.g?:ZS.T4 K "places":=⟨z.dY,z.w_Desk,z.Gk⟩
theorem I0:ZS.Lo P w K mg base z.iU 1 [[112,97,112,101,114]]:=ZS.W0 z.zZ z.LQ z.Nw z.Og z.v? (by decide +kernel) rfl (λ _ _ _ _ _ _=>ZS.SG λ _ _=>rfl) ZS.Dg (ZS.D7 (by decide +kernel)) (by decide +kernel) (by decide +kernel)
theorem pJ:ZS.Lo P w K mg base z.dX 1 [[109,97,110,121],[109,111,115,116]]:=ZS.WZ z.sf z.zD z.AX z.Bn z.q! z.qZ (by decide +kernel) (by decide +kernel) rfl (by decide +kernel) (λ _ _ _ _ _ _=>ZS.bd3 λ _ _ _=>rfl) ZS.Dg (ZS.D7 (by decide +kernel)) (by decide +kernel)
theorem Ay:ca P w K mg base "is_whole" 1 ["thing"] (KC.gr):=b7 (N:=["thing"]) (z.Cd.df z.X z.G) λ nd hu hr=>(aB<|aK<|oR (fP .int rfl z.cY cJ rfl z.E7 zf ai)<|jy<|Sr<|fP .bool rfl z.cY cJ rfl z.g_bool OL ai)
theorem cE:ca P w K mg base "is_whole_within" 2 ["thing","least","most"] (KC.bq):=b7 (N:=["thing","least","most"]) (z.ph.df z.X z.G) λ nd hu hr=>(aB<|aK<|oR (ay (Ay z)<|ae av az)<|jy<|Bz lc lc ai ai ai)
theorem k?:ca P w K mg base "is_letter" 1 ["text"] (KA.c5):=b7 (N:=["text"]) (z.zX.df z.X z.G) λ nd hu hr=>(aB<|aK<|oR (cC (ce hu) (ah<|bF z.dA ai)<|ah ag)<|jy<|Bz lc lc (ah bD) ai<|ah bD)
theorem oB:ca P w K mg base "is_name" 2 ["thing"] (KS.cf):=b7 (N:=["thing"]) (z.FO.df z.X z.G) λ nd hu hr=>(aA (bV (Dq<|kH (cU<|hX<|fP .str rfl z.cY cJ rfl z.Ke DO ai)<|jx<|cU<|mL lc lc (ah ag) (ah<|bF z.dA ai)<|ah<|aN z.ve) (aB<|aK eO) aY)<|aB<|aK<|iz z.n5<|e!<|bJ (cV ai) (N':=["sign"])<|ay (k? z)<|ae av az)
theorem CH:ca P w K mg base "is_kind" 2 ["thing"] (KS.lA):=b7 (N:=["thing"]) (z.FP.df z.X z.G) λ nd hu hr=>(aB<|aK<|oR (fP .str rfl z.cY cJ rfl z.Ke DO ai)<|jy<|Fg (cC (ce hu) ai<|ah bD)<|jy<|ay (k? z)<|ae av az)
theorem pL:ca P w K mg base "is_amount" 3 ["thing","least"] (KS.gL):=b7 (N:=["thing","least"]) (z.zY.df z.X z.G) λ nd hu hr=>(aB<|aK<|ay (cE z)<|ae av<|ae av<|cP (mM (ah<|rf (ah ag)<|ah ag)<|ah ag) az)
theorem CF:ca P w K mg base "is_wish" 4 ["thing"] (KS.jv):=b7 (N:=["thing"]) (z.FL.df z.X z.G) λ nd hu hr=>(aA (bV (Dq<|kH (cU<|hX<|fP .tuple rfl z.cY cJ rfl z.f9 qm ai)<|jx<|aS (pi hu) (ah<|bF z.dA ai)<|ah ag) (aB<|aK eO) aY)<|aB<|aK<|oR (ay (cE z)<|bN (aH ai<|ah ag)<|aq ag<|ae (aN z.DF) az)<|jy<|ay (pL z)<|bN (aH ai<|ah ag)<|aq ag az)
theorem vV:ca P w K mg base "are_wishes" 5 ["thing"] (KS.iu):=b7 (N:=["thing"]) (z.x!.df z.X z.G) λ nd hu hr=>(aA (bV (Dq<|kH (cU<|hX<|fP .tuple rfl z.cY cJ rfl z.f9 qm ai)<|jx<|cU<|hX<|iz z.n5<|e!<|bJ (cV ai) (N':=["wish"])<|ay (CF z)<|ae av az) (aB<|aK eO) aY)<|aB<|aK<|iz z.n5<|e!<|bJ (Dw<|dC z.dN<|mM (ah<|bF z.dA ai)<|ah ag) (N':=["k","thing"])<|cC ul (ah<|aH (ah<|aH ai ai)<|ah ag)<|ah<|aH (ah<|aH ai<|ah<|a7 ai<|ah ag)<|ah ag)
theorem pM:ca P w K mg base "asks_for_seats" 3 ["parts"] (KS.fy):=b7 (N:=["parts"]) (z.qC.df z.X z.G) λ nd hu hr=>(aA (bV (cU<|hX<|ay (cE z)<|bN (aH ai<|ah<|aN z.qi)<|aq ag<|ae (aN z.zd) az) (aB<|aK eO) aY)<|aA (bV (cU<|hX<|ay (cE z)<|bN (aH ai<|ah<|aN z.qj)<|aq ag<|ae (aN z.ze) az) (aB<|aK eO) aY)<|aA (bV (cU<|hX<|ay (cE z)<|bN (aH ai<|ah<|aN z.K!)<|aq ag<|cP (eX (ah<|aH ai<|ah<|aN z.qi)<|ah<|aH ai<|ah<|aN z.qj) az) (aB<|aK eO) aY)<|aB<|aK<|oR (ay (CH z)<|bN (aH ai<|ah<|aN z.K?) az)<|jy<|ay (cE z)<|bN (aH ai<|ah<|aN z.K_)<|aq ag<|ae (aN z.DD) az)
theorem mv:ca P w K mg base "is_group" 6 ["thing"] (KS.c_):=b7 (N:=["thing"]) (z.Ce.df z.X z.G) λ nd hu hr=>(aA (bV (Dq<|kH (cU<|hX<|fP .tuple rfl z.cY cJ rfl z.f9 qm ai)<|jx<|aS (pi hu) (ah<|bF z.dA ai)<|ah<|aN z.OJ) (aB<|aK eO) aY)<|aA (bV (Dq<|kH (cU<|hX<|ay (oB z)<|bN (aH ai<|ah<|aN z.lJ) az)<|jx<|cU<|hX<|ay (pM z)<|ae av az) (aB<|aK eO) aY)<|aB<|aK<|oR (ay (pL z)<|bN (aH ai<|ah<|aN z.Fq)<|aq ag az)<|jy<|ay (vV z)<|bN (aH ai<|ah<|aN z.BF) az)
theorem Ar:ca P w K mg base "worth_in" 1 ["group","row"] (KB.jW):=b7 (N:=["group","row"]) (z.B!.df z.X z.G) λ nd hu hr=>(aB<|aK<|a7 (ah<|aH ai<|ah<|aN z.Fq)<|ah<|Ff z.PN<|e!<|bJ (cV<|ah<|aH ai<|ah<|aN z.BF) (N':=["wish","row"]) (aH ai<|ah ag) (ht:=(kU<|aS (ce hu) (ah<|aH ai<|ah ag) ai)))
theorem CG:ca P w K mg base "is_sign" 2 ["text"] (KA.jw):=b7 (N:=["text"]) (z.FN.df z.X z.G) λ nd hu hr=>(aB<|aK<|Fg (cC (rc hu) ai<|ah<|cn<|aq bD<|aq bD<|aq bD az)<|jy<|ay (k? z)<|ae av az)
theorem Gd:ca P w K mg base "is_row" 3 ["thing"] (KA.ja):=b7 (N:=["thing"]) (z.HN.df z.X z.G) λ nd hu hr=>(aA (bV (Dq<|kH (cU<|hX<|fP .str rfl z.cY cJ rfl z.Ke DO ai)<|jx<|cU<|mL lc lc (ah ag) (ah<|bF z.dA ai)<|ah<|aN z.vf) (aB<|aK eO) aY)<|aB<|aK<|iz z.n5<|e!<|bJ (cV ai) (N':=["sign"])<|ay (CG z)<|ae av az)
theorem CI:ca P w K mg base "is_hall" 4 ["thing"] (KA.hU):=b7 (N:=["thing"]) (z.FQ.df z.X z.G) λ nd hu hr=>(aA (bV (Dq<|kH (cU<|hX<|fP .tuple rfl z.cY cJ rfl z.f9 qm ai)<|jx<|cU<|mL lc lc (ah ag) (ah<|bF z.dA ai)<|ah<|aN z.BG) (aB<|aK eO) aY)<|aA (bV (cU<|hX<|iz z.n5<|e!<|bJ (cV ai) (N':=["row"])<|ay (Gd z)<|ae av az) (aB<|aK eO) aY)<|aB<|aK<|iz z.n5<|e!<|bJ (cV ai) (N':=["row","thing"])<|cC (ce hu) (ah<|bF z.dA ai)<|ah<|bF z.dA<|ah<|aH ai<|ah ag)
theorem CC:ca P w K mg base "sign_at" 1 ["hall","seat"] (KG.ly):=b7 (N:=["hall","seat","row","column"]) (z.FJ.df z.X z.G) λ nd hu hr=>(aA (aI<|aH ai<|ah ag)<|aA (aI<|aH ai<|ah ag)<|aA (bV (Dq<|y6 (mL lc ul (ah ag) ai<|ah<|bF z.dA ai)<|sZ<|mL lc ul (ah ag) ai<|ah<|bF z.dA<|ah<|aH ai<|ah ag) (aB<|aK<|aH (ah<|aH ai ai) ai) aY)<|aB<|aK mO)
theorem I!:ca P w K mg base "takes" 1 ["sign","kind"] (KG.p5):=b7 (N:=["sign","kind"]) (z.L3.df z.X z.G) λ nd hu hr=>(aB<|aK<|Fg (cC (rc hu) ai<|ah<|cn<|aq bD<|aq bD az)<|jy<|cC (ce hu) ai ai)
theorem As:ca P w K mg base "seats_of" 1 ["group","place"] (KG.jY):=b7 (N:=["group","place","seats","row"]) (z.B_.df z.X z.G) λ nd hu hr=>(aA (iy<|bw az)<|aA (dD (Bt z.dN (aH ai<|ah ag)<|a7 (ah<|aH ai<|ah ag)<|ah<|aH ai<|ah<|aN z.qj) bK<|aB<|Ds (i:=2) (pv 2)<|bJ (Dw<|Bt z.dN (aH ai<|ah ag)<|a7 (ah<|aH ai<|ah ag)<|ah<|aH ai<|ah<|aN z.qi) (N':=["column","row"])<|cn<|ae av<|ae av az)<|aB<|aK<|gu z.f9 ai)
theorem EA:ca P w K mg base "fits" 2 ["hall","group","place"] (KG.p7):=b7 (N:=["hall","group","place","signs"]) (z.Qj.df z.X z.G) λ nd hu hr=>(aA (lF (i:=3) rfl nd rfl (lo rfl) (cV<|ah<|ay (As z)<|ae av<|ae av az) (N':=["seat","hall"]) (n:=1) (is:=[0]) (jp (by kernel_rfl)) (sB ∅) (λ _ _ _ _ _ _=>bK) (λ _ _ _ _ _=>tT) λ _ _ _ _ _=>(ay (CC z)<|ae av<|ae av az))<|aA (bV (cU<|hX<|iz z.n5<|e!<|bJ (cV ai) (N':=["sign","group"])<|ay (I! z)<|ae av<|bN (aH ai<|ah<|aN z.K?) az) (aB<|aK eO) aY)<|aB<|aK<|cC ZS.W3 (ah<|KY hu ai<|ah bD)<|ah<|aH ai<|ah<|aN z.K!)
theorem k!:ca P w K mg base "places_of" 3 ["hall","group"] (KG.fN):=b7 (N:=["hall","group","places","row"]) (z.zR.df z.X z.G) λ nd hu hr=>(aA (iy<|bw az)<|aA (dD (dC z.dN<|bF z.dA ai) bK<|aB<|Ds (i:=2) (pv 2)<|bJ (Dw<|dC z.dN<|bF z.dA<|ah<|aH ai ai) (N':=["column","hall","group","row"]) (cn<|ae av<|ae av az) (ht:=(kU<|hX<|ay (EA z)<|ae av<|ae av<|rg (cn<|ae av<|ae av az) az)))<|aB<|aK<|gu z.f9 ai)
theorem I?:ca P w K mg base "apart" 1 ["one","here","other","there"] (KG.p8):=b7 (N:=["one","here","other","there","gap"]) (z.L5.df z.X z.G) λ nd hu hr=>(aA (bV (Dq<|kH (aS lc (ah<|a7 (ah<|aH ai<|ah ag)<|ah<|aH ai<|ah<|aN z.qj)<|ah<|aH ai<|ah ag)<|jx<|aS lc (ah<|a7 (ah<|aH ai<|ah ag)<|ah<|aH ai<|ah<|aN z.qj)<|ah<|aH ai<|ah ag) (aB<|aK eO) aY)<|aA (aI<|Ow rfl z.PR Lb (ah<|aH ai<|ah<|aN z.K_)<|ah<|aH ai<|ah<|aN z.K_)<|aB<|aK<|Fg (cC lc (ah<|a7 (ah<|a7 (ah<|aH ai<|ah ag)<|ah<|aH ai<|ah<|aN z.qi) ai)<|ah<|aH ai<|ah ag)<|jy<|cC lc (ah<|a7 (ah<|a7 (ah<|aH ai<|ah ag)<|ah<|aH ai<|ah<|aN z.qi) ai)<|ah<|aH ai<|ah ag)
theorem ft:ca P w K mg base "those_that_sit" 1 ["groups","seating"] (KG.cy):=b7 (N:=["groups","seating"]) (z.qB.df z.X z.G) λ nd hu hr=>(aB<|aK<|qf<|bJ (Dw<|Fc z.PM av av) (N':=["group","place"]) (cn<|ae av<|ae av az) (ht:=(kU<|Fb ai)) (hg:=(oQ rfl (br<|br i9) rfl)) (hG:=(ZS.ng ∅)))
theorem jT:ca P w K mg base "apart_from_all" 2 ["group","place","seated"] (KG.dP):=b7 (N:=["group","place","seated"]) (z.qD.df z.X z.G) λ nd hu hr=>(aB<|aK<|iz z.n5<|e!<|bJ (cV ai) (N':=["other","there","group","place"]) (ay (I? z)<|ae av<|ae av<|ae av<|ae av az) (hg:=(oQ rfl (br<|br i9) rfl)) (hG:=(ZS.ng ∅)))
theorem Ax:ca P w K mg base "keeps" 3 ["hall","groups","seating"] (KG.kG):=b7 (N:=["hall","groups","seating","seated"]) (z.L4.df z.X z.G) λ nd hu hr=>(aA (aI<|ay (ft z)<|ae av<|ae av az)<|aA (bV (cU<|hX<|iz z.n5<|e!<|bJ (cV ai) (N':=["group","place","hall"]) (ay (EA z)<|ae av<|ae av<|ae av az) (hg:=(oQ rfl (br<|br i9) rfl)) (hG:=(ZS.ng ∅))) (aB<|aK eO) aY)<|aB<|aK<|iz z.n5<|e!<|bJ (Dw<|dC z.dN<|bF z.dA ai) (N':=["k","seated"])<|ay (jT z)<|bN (aH (ah<|aH ai ai)<|ah ag)<|bN (aH (ah<|aH ai ai)<|ah ag)<|bN (qf<|uX ai Br<|kI ai) az)
theorem Aq:ca P w K mg base "worth_of" 2 ["groups","seating"] (KB.eK):=b7 (N:=["groups","seating"]) (z.B'.df z.X z.G) λ nd hu hr=>(aB<|aK<|Ff z.PN<|e!<|bJ (cV<|ah<|ay (ft z)<|ae av<|ae av az) (N':=["group","place"]) (ay (Ar z)<|ae av<|bN (aH ai<|ah ag) az) (hg:=(oQ rfl (br<|br i9) rfl)) (hG:=(ZS.ng ∅)))
theorem iM:ca P w K mg base "fast_seating" 4 ["hall","groups","fast"] (KB.bI):=b7 (N:=["hall","groups","fast","seating"]) (z.tO.df z.X z.G) λ nd hu hr=>(aA (aI<|By (oP ai) (Ou (ah<|cn<|aq mO az)<|ah<|bF z.dA ai) av)<|aA (bV (cU<|hX<|ay (Ax z)<|ae av<|ae av<|ae av az) (aB hZ) aY)<|aB<|aK av)
theorem Ez:ZS.wF P w K mg base "ways" 5 ["hall","groups","fast"] (KB.jX):=zc (N:=["hall","groups","fast","many","group","place"]) (z.Qi.df z.X z.G (λ _ _ _ _ _ _ _=>le λ _=>le λ _=>le λ _=>wE ⟨_,rfl,rfl⟩) λ _ _ _ _ _ _ _=>le λ _=>le λ _=>wE ⟨_,rfl,rfl⟩) λ nd hu hr=>(aA (aI ag)<|aA (dD (Fc z.PM av<|ay (iM z)<|ae av<|ae av<|ae av az) (oQ rfl (br<|br i9) rfl)<|aB<|bV (oP ai) (aB<|Om (i:=3) nd rfl (lo rfl)<|a7 (ah<|bF z.dA<|ah<|ay (k! z)<|ae av<|ae av az)<|ah ag) aY)<|aB<|aK av)
theorem jk:ca P w K mg base "small_start" 6 ["hall","groups","fast"] (KB.eA):=b7 (N:=["hall","groups","fast","many"]) (z.nL.df z.X z.G) λ nd hu hr=>(aA (aI<|ay (Ez z).full<|ae av<|ae av<|ae av az)<|aA (bV (aS lw ai<|ah<|aN z.j2) (aB hZ) aY)<|aB<|aK<|ay (iM z)<|ae av<|ae av<|ae av az)
theorem sv:ZS.vq P w K mg base "small_start" 6 ["hall","groups","fast"] gH:=WY (N:=["hall","groups","fast","many"]) (z.nL.df z.X z.G) λ nd hu hr=>(d! (aI<|ay (Ez z).full<|ae av<|ae av<|ae av az) D4<|d! (bV (aS lw ai<|ah<|aN z.j2) (aB hZ) aY) (zC (aS lw ai<|ah<|aN z.j2) (kO<|qy rfl rfl rfl (by decide +kernel) z.tw (pJ z) (hr.mono ∅) (ae av<|ae (aN z.j2) az) ∅ ∅) j5) j5)
theorem j7:ca P w K mg base "with_place" 1 ["seating","k","place"] (KH.cH):=b7 (N:=["seating","k","place"]) (z.xU.df z.X z.G) λ nd hu hr=>(aB<|aK<|a7 (ah<|a7 (ah<|kK ai Br<|kI ai)<|ah<|cn<|ae av az)<|ah<|kK ai (kI<|ah<|a7 ai<|ah ag) Br)
theorem nS:ca P w K mg base "open_among" 3 ["places","group","seated"] (KH.eZ):=b7 (N:=["places","group","seated"]) (z.xV.df z.X z.G) λ nd hu hr=>(aB<|aK<|gu z.f9<|e!<|bJ (cV ai) (N':=["place","group","seated"]) av (ht:=(kU<|hX<|ay (jT z)<|ae av<|ae av<|ae av az)))
theorem qM:ca P w K mg base "with_one_more" 4 ["hall","groups","seatings","k","some"] (KB.fM):=b7 (N:=["hall","groups","seatings","k","some","places","wider","seating","seated"]) (z.r_.df z.X z.G) λ nd hu hr=>(aA (aI<|ay (k! z)<|ae av<|bN (aH ai ai) az)<|aA (iy<|bw az)<|aA (dD (uY av) bK<|aA (aI<|ay (ft z)<|ae av<|ae av az)<|aA (Ds (i:=6) (pv 6)<|bJ (cV<|ah<|ay (nS z)<|ae av<|bN (aH ai ai)<|ae av az) (N':=["place","seating","k"])<|ay (j7 z)<|ae av<|ae av<|ae av az)<|aB<|bV (hX av) (aB<|lG (i:=6) (pv 6) av) aY)<|qe (i:=6)<|aB<|aK av)
theorem ku:ca P w K mg base "seatings_from" 5 ["hall","groups","start","some"] (KB.eD):=b7 (N:=["hall","groups","start","some","seatings","k"]) (z.sd.df z.X z.G) λ nd hu hr=>(aA (aI<|qf<|bw<|ae av az)<|aA (dD (dC z.dN<|bF z.dA ai) bK<|aB<|bV (oP<|ah<|aH ai ai) (aB<|aI<|ay (qM z)<|ae av<|ae av<|ae av<|ae av<|ae av az) aY)<|aB<|aK av)
theorem sA:ZS.wF P w K mg base "first_of_all" 7 ["hall","groups","fast"] (KC.f'):=zc (N:=["hall","groups","fast","seatings"]) (z.tN.df z.X z.G (λ _ _ _ _ _ _ _=>le λ _=>le λ _=>le λ _=>wE ⟨_,rfl,rfl⟩) λ _ _ _ _ _ _ _=>le λ _=>le λ _=>wE ⟨_,rfl,rfl⟩) λ nd hu hr=>(aA (aI<|ay (ku z)<|ae av<|ae av<|b? (ay (jk z)<|ae av<|ae av<|ae av az)<|aq eO az)<|aB<|aK<|By (aS lw (ah<|bF z.dA ai)<|ah ag) (aH ai<|ah ag) mO)
theorem vU:ca P w K mg base "best_among" 5 ["groups","seatings"] (KB.fY):=P0 (N:=["groups","seatings"]) (b:=KB.gO) (z.pj.1.df z.X z.G) nP (z.pj.lam z.X z.G) λ _ _ _ _ _ _ _ hl hr=>have nd:=nP.nd;have hu:=hr.units;have _G:=λ env=>ZS.Ag (k:=2) (hr.mono ∅) env;(aB<|aK<|y! (ZS.ET hl (by decide +kernel)) (ZS.Iy hr) rfl z.PR Lb ai (N':=["seating","groups"]) (is:=[0]) (jp (by kernel_rfl)) rfl (λ _ _ _ _ _=>(ay (Aq z) (ae av<|ae av az) (hr:=((_G _).mono ∅)))) λ _ _ _ _ _ _=>rfl)
theorem jl:ZS.wF P w K mg base "best_of_all" 7 ["hall","groups","fast"] (KB.bS):=zc (N:=["hall","groups","fast","start"]) (z.nM.df z.X z.G (λ _ _ _ _ _ _ _=>le λ _=>le λ _=>le λ _=>wE ⟨_,rfl,rfl⟩) λ _ _ _ _ _ _ _=>le λ _=>le λ _=>wE ⟨_,rfl,rfl⟩) λ nd hu hr=>(aA (aI<|ay (jk z)<|ae av<|ae av<|ae av az)<|aB<|aK<|ay (vU z)<|ae av<|b? (ay (ku z)<|ae av<|ae av<|ae av<|aq eO az) az)
theorem sx:ZS.vq P w K mg base "best_of_all" 7 ["hall","groups","fast"] gJ:=Sw (N:=["hall","groups","fast","start"]) (z.nM.df z.X z.G (λ _ _ _ _ _ _ _=>le λ _=>le λ _=>le λ _=>wE ⟨_,rfl,rfl⟩) λ _ _ _ _ _ _ _=>le λ _=>le λ _=>wE ⟨_,rfl,rfl⟩) λ nd hu hr=>(d! (aI<|ay (jk z)<|ae av<|ae av<|ae av az) (xN (i:=3) nd rfl (lo rfl)<|D5 (sv z) (hr.mono ∅) rfl<|ae av<|ae av<|ae av az) j5)
theorem vW:ca P w K mg base "all_places" 4 ["hall","groups"] (KC.iw):=b7 (N:=["hall","groups"]) (z.x?.df z.X z.G) λ nd hu hr=>(aB<|aK<|qf<|bJ (cV ai) (N':=["group","hall"])<|ay (k! z)<|ae av<|ae av az)
theorem rM:ca P w K mg base "spots_of" 4 ["groups","places","seating","k"] (KC.c!):=b7 (N:=["groups","places","seating","k"]) (z.B?.df z.X z.G) λ nd hu hr=>(aB<|aK<|ay (nS z)<|bN (aH ai ai)<|bN (aH ai ai)<|b? (ay (ft z)<|ae av<|ae av az) az)
theorem lU:∀j,ca P w K mg base "paper_beside" (7+j) ["groups","places","seating"] (KC.bH j)
| 0=>ZS.Sy<|b7 (k:=6) (N:=["groups","places","seating","waiting","k","spots","papers"]) (b:=Z.mn) (z.jg.1.df z.X z.G) λ _ _ _=>Oj
| j+1=>P0 (k:=7+j) (N:=["groups","places","seating","waiting","k","spots","papers"]) (b:=KC.fG (KC.bH j)) (z.jg.1.df z.X z.G) lR (z.jg.lam z.X z.G) λ _ _ _ _ _ _ _ hl hr=>have S5:=lU j;have nd:=lR.nd;have hu:=hr.units;have _G:=λ env=>ZS.Ag (k:=4) (hr.mono ∅) env;(aA (lF (i:=3) rfl nd rfl (lo rfl) (Dw<|dC z.dN<|bF z.dA ai) (N':=["k","seating"]) (n:=1) (is:=[2]) (jp (by kernel_rfl)) (sB ∅) (λ _ _ _ _ _ _=>bK) (λ _ _ _ _ _=>(kU<|oP<|ah<|aH ai ai)) λ _ _ _ _ _=>av)<|aA (aI<|y9 (ZS.ET hl (by decide +kernel)) (ZS.Iy hr) rfl z.PQ La ai (N':=["j","groups","places","seating"]) (is:=[0,1,2]) (jp (by kernel_rfl)) rfl (λ _ _ _ _ _=>(bF z.dA<|ah<|ay (rM z) (ae av<|ae av<|ae av<|ae av az) (hr:=((_G _).mono (by omega))))) λ _ _ _ _ _ _=>rfl)<|aA (aI<|ay (rM z)<|ae av<|ae av<|ae av<|ae av az)<|aA (bV (aS (ce hu) ai<|ah<|cn az) (aB<|aK<|cn<|aq bD<|ae av az) aY)<|aA (lF (i:=6) rfl nd rfl (lo rfl) (cV ai) (N':=["place","groups","places","seating","k"]) (n:=1) (is:=[0,1,2,4]) (jp (by kernel_rfl)) (sB ∅) (λ _ _ _ _ _ _=>bK) (λ _ _ _ _ _=>tT) λ _ _ _ _ _=>(ay S5 (ae av<|ae av<|b? (ay (j7 z)<|ae av<|ae av<|ae av az) az) (hr:=(hr.mono<|v4 _))))<|aB<|aK<|cn<|aq bD<|ae av<|b? (gu z.f9 ai) az)
theorem Au:ZS.wF P w K mg base "paper_of" 17 ["hall","groups","fast"] (KC.iG):=zc (N:=["hall","groups","fast"]) (z.Ca.df z.X z.G (λ _ _ _ _ _ _ _=>le λ _=>le λ _=>le λ _=>wE ⟨_,rfl,rfl⟩) λ _ _ _ _ _ _ _=>le λ _=>le λ _=>wE ⟨_,rfl,rfl⟩) λ nd hu hr=>(aA (bV (Fb<|ah<|ay (sA z).full<|ae av<|ae av<|ae av az) (aB<|aK mO) aY)<|aB<|aK<|ay (lU z 9)<|ae av<|b? (ay (vW z)<|ae av<|ae av az)<|b? (ay (iM z)<|ae av<|ae av<|ae av az) az)
theorem uk:ca P w K mg base "without" 1 ["things","k"] (eT):=b7 (N:=["things","k"]) (z.FI.df z.X z.G) λ nd hu hr=>(aB<|aK<|a7 (ah<|kK ai Br<|kI ai)<|ah<|kK ai (kI<|ah<|a7 ai<|ah ag) Br)
theorem yv:ZS.Hq P w K mg base 5 ["self","hall"] 2 i7:=Sx (N:=["self","hall"]) rfl (z.z0.di z.hC z.Ni z.Nx λ _ _ _ _ _ _=>ZS.SG λ _ _=>rfl) λ nd hu hr=>(aU (bu λ _=>(bV (cU<|hX<|ay (CI z)<|ae av az) (aB hZ) aY))<|aU (jo z.m? (pv 0) av (by decide +kernel))<|aU (jo z.da (pv 0) (cn az) (by decide +kernel))<|aU (jo z.iX (pv 0) (cn az) (by decide +kernel))<|bZ<|jo z.g? (pv 0) (cn az) (by decide +kernel))
theorem dJ:ZS.wD P w K mg base "number_of" 3 ["self","name"] [Ch,AT] (a_):=za rfl (N:=["self","name","k","guest"]) (z.ka.df z.hC) λ nd hu hr=>(aA (bV (hX<|ay (oB z)<|ae av az) (aB<|dD (Bu z.rW<|c8 z.da (bQ<|pv 0) (by decide +kernel)) (oQ rfl (br<|br i9) rfl)<|aB<|bV (aS (ce hu) (ah<|aH ai<|ah<|aN z.lJ) ai) (aB<|aK av) aY) aY)<|aB hZ)
theorem gc:wP P w K mg base "number_of" 3 ["self","name"] [Ch,AT] bC:=vd rfl (N:=["self","name","k","guest"]) (z.ka.df z.hC) λ nd hu hr=>(d! (bV (hX<|ay (oB z)<|ae av az) (aB<|dD (Bu z.rW<|c8 z.da (bQ<|pv 0) (by decide +kernel)) (oQ rfl (br<|br i9) rfl)<|aB<|bV (aS (ce hu) (ah<|aH ai<|ah<|aN z.lJ) ai) (aB<|aK av) aY) aY) D4<|kO<|tu rfl rfl rfl (by decide +kernel) z.tD z.FD bD)
theorem Az:ZS.r? P w K mg base "ask" 18 ["self","group"] [Ch,AT] 5 iH:=zb rfl (N:=["self","group","guests","held","places"]) (z.tR.df z.hC) λ nd hu hr=>(aU (bu λ _=>(bV (cU<|hX<|ay (mv z)<|ae av az) (aB hZ) aY))<|aU (bu λ _=>(bV (aS (rc hu) (ah<|aH ai<|ah<|aN z.lJ)<|e!<|bJ (cV<|ah<|c8 z.da (bQ<|pv 0) (by decide +kernel)) (N':=["guest"])<|aH ai<|ah<|aN z.lJ) (aB hZ) aY))<|aU (bu λ _=>(aI<|a7 (ah<|c8 z.da (bQ<|pv 0) (by decide +kernel))<|ah<|cn<|ae av az))<|aU (bu λ _=>(bV (aS lw (ah<|bF z.dA ai)<|ah<|aN z.iA) (aB hZ) aY))<|aU (bu λ _=>(aI<|a7 (ah<|c8 z.iX (bQ<|pv 0) (by decide +kernel))<|ah<|cn<|aq mO az))<|aU (bu λ _=>(aI<|ay (jl z).full<|fZ (c8 z.m? (bQ<|pv 0) (by decide +kernel))<|ae av<|ae av az))<|aU (bu λ _=>(bV (oP ai) (aB hZ) aY))<|aU (jo z.da (pv 0) av (by decide +kernel))<|aU (jo z.iX (pv 0) av (by decide +kernel))<|aU (jo z.g? (pv 0) av (by decide +kernel))<|bZ<|bu λ _=>(aK<|aH ai<|ah<|Ss<|ah ag))
theorem yp:wP P w K mg base "ask" 18 ["self","group"] [Ch,AT] gq:=vd rfl (N:=["self","group","guests","held","places"]) (z.tR.df z.hC) λ nd hu hr=>(d! (bV (cU<|hX<|ay (mv z)<|ae av az) (aB hZ) aY) (zC (cU<|hX<|ay (mv z)<|ae av az) (kO<|tu rfl rfl rfl (by decide +kernel) z.FF z.B0 bD) j5)<|d! (bV (aS (rc hu) (ah<|aH ai<|ah<|aN z.lJ)<|e!<|bJ (cV<|ah<|c8 z.da (bQ<|pv 0) (by decide +kernel)) (N':=["guest"])<|aH ai<|ah<|aN z.lJ) (aB hZ) aY) (zC (aS (rc hu) (ah<|aH ai<|ah<|aN z.lJ)<|e!<|bJ (cV<|ah<|c8 z.da (bQ<|pv 0) (by decide +kernel)) (N':=["guest"])<|aH ai<|ah<|aN z.lJ) (kO<|tu rfl rfl rfl (by decide +kernel) z.LS z.HE bD) j5)<|d! (aI<|a7 (ah<|c8 z.da (bQ<|pv 0) (by decide +kernel))<|ah<|cn<|ae av az) D4<|d! (bV (aS lw (ah<|bF z.dA ai)<|ah<|aN z.iA) (aB hZ) aY) (zC (aS lw (ah<|bF z.dA ai)<|ah<|aN z.iA) (kO<|qy rfl rfl rfl (by decide +kernel) z.tw (pJ z) (hr.mono ∅) (b? (bF z.dA ai)<|ae (aN z.iA) az) ∅ ∅) j5)<|d! (aI<|a7 (ah<|c8 z.iX (bQ<|pv 0) (by decide +kernel))<|ah<|cn<|aq mO az) D4<|d! (aI<|ay (jl z).full<|fZ (c8 z.m? (bQ<|pv 0) (by decide +kernel))<|ae av<|ae av az) (xN (i:=4) nd rfl (lo rfl)<|D5 (sx z) (hr.mono ∅) rfl<|fZ (c8 z.m? (bQ<|pv 0) (by decide +kernel))<|ae av<|ae av az)<|d! (bV (oP ai) (aB hZ) aY) (zC (oP ai) (kO<|qy rfl rfl rfl (by decide +kernel) z.B2 (I0 z) (hr.mono ∅) (b? (ay (Au z).full<|fZ (c8 z.m? (bQ<|pv 0) (by decide +kernel))<|ae av<|ae av az) az) ∅ ∅) j5) j5)
theorem iW:ZS.r? P w K mg base "fast" 4 ["self","name"] [Ch,AT] 3 cI:=zb rfl (N:=["self","name","k"]) (z.rC.df z.hC) λ nd hu hr=>(aU (bu λ _=>(aI<|i! (dJ z) (hr.mono ∅) (bQ<|pv 0) (by decide +kernel)<|a8 av bP))<|bZ<|jo z.iX (pv 0) (ay (j7 z)<|fZ (c8 z.iX (bQ<|pv 0) (by decide +kernel))<|ae av<|bN (aH (ah<|c8 z.g? (bQ<|pv 0) (by decide +kernel)) ai) az) (by decide +kernel))
theorem vP:wP P w K mg base "fast" 4 ["self","name"] [Ch,AT] iZ:=vd rfl (N:=["self","name","k"]) (z.rC.df z.hC) λ nd hu hr=>(d! (aI<|i! (dJ z) (hr.mono ∅) (bQ<|pv 0) (by decide +kernel)<|a8 av bP) (xN (i:=2) nd rfl (lo rfl)<|kP (gc z) (hr.mono ∅) (bQ<|pv 0) (by decide +kernel)<|a8 av bP) j5)
theorem pO:ZS.r? P w K mg base "away" 8 ["self","name"] [Ch,AT] 3 fO:=zb rfl (N:=["self","name","k"]) (z.rD.df z.hC) λ nd hu hr=>(aU (bu λ _=>(aI<|i! (dJ z) (hr.mono ∅) (bQ<|pv 0) (by decide +kernel)<|a8 av bP))<|aU (jo z.da (pv 0) (ay (uk z)<|fZ (c8 z.da (bQ<|pv 0) (by decide +kernel))<|ae av az) (by decide +kernel))<|aU (jo z.iX (pv 0) (ay (uk z)<|fZ (c8 z.iX (bQ<|pv 0) (by decide +kernel))<|ae av az) (by decide +kernel))<|bZ<|jo z.g? (pv 0) (ay (jl z).full<|fZ (c8 z.m? (bQ<|pv 0) (by decide +kernel))<|fZ (c8 z.da (bQ<|pv 0) (by decide +kernel))<|fZ (c8 z.iX (bQ<|pv 0) (by decide +kernel)) az) (by decide +kernel))
theorem vQ:wP P w K mg base "away" 8 ["self","name"] [Ch,AT] i4:=vd rfl (N:=["self","name","k"]) (z.rD.df z.hC) λ nd hu hr=>(d! (aI<|i! (dJ z) (hr.mono ∅) (bQ<|pv 0) (by decide +kernel)<|a8 av bP) (xN (i:=2) nd rfl (lo rfl)<|kP (gc z) (hr.mono ∅) (bQ<|pv 0) (by decide +kernel)<|a8 av bP) j5)
theorem ij:ZS.wD P w K mg base "where" 4 ["self","name"] [Ch,AT] (cw):=za rfl (N:=["self","name"]) (z.pq.df z.hC) λ nd hu hr=>(aB<|aK<|aH (ah<|c8 z.g? (bQ<|pv 0) (by decide +kernel))<|ah<|i! (dJ z) (hr.mono ∅) (bQ<|pv 0) (by decide +kernel)<|a8 av bP)
theorem uj:wP P w K mg base "where" 4 ["self","name"] [Ch,AT] iq:=vd rfl (N:=["self","name"]) (z.pq.df z.hC) λ nd hu hr=>(kO<|Qa<|T! (ah<|c8 z.g? (bQ<|pv 0) (by decide +kernel))<|kP (gc z) (hr.mono ∅) (bQ<|pv 0) (by decide +kernel)<|a8 av bP)
theorem cS:ZS.wD P w K mg base "at_hand" 1 ["self"] [Ch] (ba):=za rfl (N:=["self"]) (z.tQ.df z.hC) λ nd hu hr=>(aB<|aK<|c8 z.da (bQ<|pv 0) (by decide +kernel))
theorem cR:ZS.wD P w K mg base "seating" 1 ["self"] [Ch] (bz):=za rfl (N:=["self"]) (z.tP.df z.hC) λ nd hu hr=>(aB<|aK<|c8 z.g? (bQ<|pv 0) (by decide +kernel))
theorem dm:ca P w K mg base "_law_cell_at" 1 ["_law_script","_law_k"] (KG.b9):=b7 (N:=["_law_script","_law_k"]) (z.vJ.df z.X z.G) λ nd hu hr=>(aA (bV (aS ul ai<|ah<|bF z.dA ai) (aB<|aK<|aH ai ai) aY)<|aB<|aK ag)
theorem pK:ca P w K mg base "_law_mixed" 1 ["_law_cell","_law_many"] (dO):=b7 (N:=["_law_cell","_law_many","_law_number","_law_found","_law_k"]) (z.zU.df z.X z.G) λ nd hu hr=>(aA (aI<|a7 (ah ag)<|ah<|b! ai<|ah ag)<|aA (iy<|bw az)<|aA (dD (dC z.dN av) bK<|aA (aI<|b! (ah<|eX ai<|ah ag)<|ah ag)<|aB<|lG (i:=3) (pv 3)<|b! (ah<|eX (ah<|b! (ah<|eX (ah<|a7 ai<|ah ag)<|ah ag)<|ah ag)<|ah ag)<|ah ag)<|qe (i:=3)<|aB<|aK av)
theorem ig:ca P w K mg base "_law_digits" 1 ["_law_cell","_law_sizes"] (KH.dW):=b7 (N:=["_law_cell","_law_sizes","_law_found","_law_size"]) (z.xZ.df z.X z.G) λ nd hu hr=>(aA (iy<|bw az)<|aA (dD (uY av) bK<|aA (lG (i:=2) (pv 2)<|b! ai ai)<|aB<|aI<|dF ai ai)<|qe (i:=2)<|aB<|aK av)
theorem yr:ca P w K mg base "_law_names" 1 ["_law_cell","_law_many"] (i5):=b7 (N:=["_law_cell","_law_many","_law_letters_here","_law_size","_law_at","_law_step","_law_names_here","_law_k","_law_name","_law_j","_law_turn"]) (z.zT.df z.X z.G) λ nd hu hr=>(aA (aI bD)<|aA (aI<|a7 (ah ag)<|ah<|b! ai<|ah ag)<|aA (aI<|b! (ah<|dF ai<|ah ag) ai)<|aA (aI<|aH (e!<|bw<|aq ag<|aq ag<|aq ag<|aq ag<|aq ag<|aq ag az)<|ah<|b! (ah<|dF ai<|ah ag)<|ah ag)<|aA (iy<|bw az)<|aA (dD (dC z.dN av) bK<|aA (aI bD)<|aA (dD (dC z.dN av) bK<|aA (aI<|eX (ah<|eX ai ai)<|ah<|y? rfl z.E7 zf<|ah<|cC (ce hu) ai ai)<|aB<|aI<|a7 ai<|ah<|aH ai<|ah<|b! (ah<|a7 (ah<|dF ai<|ah<|a7 (ah ag)<|ah<|eX (ah<|eX (ah ag) ai) ai) ai)<|ah ag)<|aB<|lG (i:=6) (pv 6) av)<|qe (i:=6)<|aB<|aK av)
theorem mq:ca P w K mg base "_law_letters" 1 ["_law_cell"] (dB):=b7 (N:=["_law_cell","_law_letters_here"]) (z.vI.df z.X z.G) λ nd hu hr=>(aA (aI bD)<|aB<|aK<|a7 (ah<|aH ai<|ah<|b! ai<|ah ag)<|ah<|aH ai<|ah<|b! (ah<|a7 (ah<|a7 ai<|ah ag)<|ah<|b! (ah<|dF ai<|ah ag)<|ah ag)<|ah ag)
theorem Aw:ca P w K mg base "_law_hall" 2 ["_law_script"] (jZ):=b7 (N:=["_law_script","_law_way","_law_many","_law_columns","_law_rest","_law_signs","_law_numbers","_law_rows","_law_r"]) (z.Cc.df z.X z.G) λ nd hu hr=>(aA (KI (ay (ig z)<|b? (ay (dm z)<|ae av<|aq ag az)<|qg (qf<|bw<|aq ag<|aq ag<|aq ag<|cP (rf (ah ag)<|ah ag) az) az)<|KR rfl (br<|br<|br<|br i9) rfl)<|aA (aI<|a7 ai<|ah ag)<|aA (aI<|a7 ai<|ah ag)<|aA (aI bD)<|aA (aI<|ay (ig z)<|b? (ay (dm z)<|ae av<|aq ag az)<|cP (qf<|KL (bw<|aq ag az)<|ah<|eX ai ai) az)<|aA (bV (aS (ce hu) ai<|ah ag) (aA (aI<|aH (e!<|bw<|aq ag<|aq ag<|aq ag<|aq ag<|aq ag<|aq ag az)<|ah<|mM ai<|ah ag)<|aA (aI<|aH (e!<|bw<|aq ag<|aq ag<|aq ag<|aq ag<|aq ag<|aq ag<|aq ag<|aq ag<|aq ag<|aq ag<|aq ag<|aq ag az)<|ah<|mM ai<|ah ag)<|aA (aI<|a7 (ah bD)<|ah<|ay (mq z)<|ae av az)<|aB<|lF (i:=6) rfl nd rfl (lo rfl) (cV<|ah<|ay (pK z)<|b? (ay (dm z)<|ae av<|aq ag az)<|cP (eX ai ai) az) (N':=["_law_number"]) (n:=1) (is:=[]) (jp (by kernel_rfl)) (sB ∅) (λ _ _ _ _ _ _=>bK) (λ _ _ _ _ _=>tT) λ _ _ _ _ _=>(b! (ah<|dF ai<|ah ag)<|ah ag)) aY)<|aA (iy<|bw az)<|aA (dD (dC z.dN av) bK<|aB<|lG (i:=7) (pv 7)<|Fh bD<|e!<|bJ (cV<|e!<|uX ai (kI<|ah<|eX ai ai)<|kI<|ah<|eX (ah<|a7 ai<|ah ag) ai) (N':=["_law_number","_law_signs"])<|aH ai ai)<|aB<|aK<|gu z.f9 ai)
theorem CD:ca P w K mg base "_law_any" 2 ["_law_name","_law_cell"] (lz):=b7 (N:=["_law_name","_law_cell","_law_width","_law_depth","_law_kind","_law_gap","_law_bits","_law_wide","_law_sums","_law_wishes"]) (z.FK.df z.X z.G) λ nd hu hr=>(aA (KI (ay (ig z)<|ae av<|qg (qf<|bw<|aq ag<|aq ag<|aq ag<|aq ag<|aq ag<|aq ag az) az)<|KR rfl (br<|br<|br<|br<|br<|br i9) rfl)<|aA (aI<|ay (ig z)<|cP (dF ai<|ah ag)<|cP (qf<|Du (e!<|bw<|cP (rf (ah ag)<|ah ag) az)<|e!<|KL (bw<|cP (mM (ah<|rf (ah ag)<|ah ag)<|ah ag) az)<|ah ag) az)<|aA (aI<|b! ai<|ah<|a7 (ah<|eX (ah<|a7 ai<|ah ag)<|ah<|a7 ai<|ah ag)<|ah ag)<|aA (aI<|aH (e!<|bw<|aq bD<|bN (aH (ah bD)<|ah<|mM ai<|ah ag) az)<|ah<|y? rfl z.E7 zf<|ah<|cC lw ai<|ah ag)<|aA (lF (i:=9) rfl nd rfl (lo rfl) (Dw<|dC z.dN ag) (N':=["_law_r","_law_bits","_law_sums"]) (n:=1) (is:=[6,8]) (jp (by kernel_rfl)) (sB ∅) (λ _ _ _ _ _ _=>bK) (λ _ _ _ _ _=>(kU<|aS (ce hu) (ah<|b! (ah<|dF ai<|ah<|aH (e!<|bw<|aq ag<|aq ag<|aq ag<|aq ag<|aq ag<|aq ag az) ai)<|ah ag)<|ah ag)) λ _ _ _ _ _=>(cn<|ae av<|cP (a7 (ah ag)<|ah<|aH ai<|ah<|a7 (ah ag) ai) az))<|aB<|aK<|cn<|ae av<|cP (a7 ai<|ah ag)<|cP (a7 ai<|ah ag)<|ae av<|ae av<|ae av<|bN (aH ai<|ah ag)<|b? (gu z.f9 ai) az)
theorem yt:ca P w K mg base "_law_group" 2 ["_law_name","_law_cell","_law_letters_here"] (i6):=b7 (N:=["_law_name","_law_cell","_law_letters_here","_law_xs","_law_width","_law_depth","_law_kind","_law_wide","_law_gap","_law_worth","_law_wishes","_law_r"]) (z.zV.df z.X z.G) λ nd hu hr=>(aA (aI<|ay (pK z)<|ae av<|aq ag az)<|aA (aI<|aH (e!<|bw<|aq ag<|aq ag<|aq ag<|aq ag<|aq ag<|aq ag<|aq ag<|aq ag az)<|ah<|b! (ah<|dF (ah<|aH ai<|ah ag)<|ah ag)<|ah ag)<|aA (aI<|aH (e!<|bw<|aq ag<|aq ag<|aq ag<|aq ag<|aq ag<|aq ag<|aq ag<|aq ag az)<|ah<|b! (ah<|dF (ah<|aH ai<|ah ag)<|ah ag)<|ah ag)<|aA (aI<|aH (e!<|bw<|aq bD<|aq bD<|aq bD<|bN (aH ai<|ah ag)<|aq bD<|bN (aH ai<|ah ag) az)<|ah<|b! (ah<|dF (ah<|aH ai<|ah ag)<|ah ag)<|ah ag)<|aA (aI<|Ov rfl z.PQ La (ah<|aH (e!<|bw<|aq ag<|aq ag<|aq ag<|aq ag<|aq ag<|aq ag az)<|ah<|b! (ah<|dF (ah<|aH ai<|ah ag)<|ah ag)<|ah ag)<|ah<|eX ai ai)<|aA (aI<|aH (e!<|bw<|aq ag<|aq ag<|aq ag<|aq ag<|aq ag<|aq ag<|aq ag<|aq ag az)<|ah<|b! (ah<|dF (ah<|aH ai<|ah ag)<|ah ag)<|ah ag)<|aA (aI<|aH (e!<|bw<|cP (b! (ah<|dF (ah<|aH ai<|ah ag)<|ah ag)<|ah ag)<|cP (eX (ah<|aH ai<|ah ag)<|ah<|rf (ah ag)<|ah ag) az)<|ah<|y? rfl z.E7 zf<|ah<|cC (ce hu) (ah<|b! (ah<|dF (ah<|aH ai<|ah ag)<|ah ag)<|ah ag)<|ah ag)<|aA (iy<|bw az)<|aA (dD (dC z.dN ag) bK<|aB<|bV (aS (ce hu) (ah<|b! (ah<|dF (ah<|aH ai<|ah ag)<|ah<|a7 (ah ag)<|ah<|eX (ah ag) ai)<|ah ag)<|ah ag) (aB<|lG (i:=10) (pv 10)<|cn<|ae av<|cP (a7 (ah ag)<|ah<|b! (ah<|dF (ah<|aH ai<|ah ag)<|ah<|a7 (ah ag) ai)<|ah ag) az) aY)<|aB<|aK<|cn<|ae av<|ae av<|ae av<|ae av<|ae av<|ae av<|ae av<|b? (gu z.f9 ai) az)
theorem vT:ca P w K mg base "_law_groups" 3 ["_law_script","_law_start","_law_names_here"] (ir):=b7 (N:=["_law_script","_law_start","_law_names_here","_law_letters_here","_law_found","_law_k","_law_cell"]) (z.xY.df z.X z.G) λ nd hu hr=>(aA (aI<|ay (mq z)<|cP (b! (ah<|dF (ah<|ay (dm z)<|ae av<|aq ag az)<|ah ag)<|ah<|rf (ah ag)<|ah ag) az)<|aA (iy<|bw az)<|aA (dD (dC z.dN<|bF z.dA ai) bK<|aA (aI<|ay (dm z)<|ae av<|cP (a7 ai ai) az)<|aB<|bV (Dq<|y6 (aS (ce hu) (ah<|b! (ah<|ay (dm z)<|ae av<|aq ag az)<|ah ag)<|ah ag)<|sZ<|aS lw (ah<|b! ai<|ah ag)<|ah ag) (aB<|lG (i:=4) (pv 4)<|ay (CD z)<|bN (aH ai ai)<|cP (dF ai<|ah ag) az)<|aB<|lG (i:=4) (pv 4)<|ay (yt z)<|bN (aH ai ai)<|cP (a7 (ah<|dF ai<|ah ag)<|ah<|eX (ah<|eX (ah ag) ai) ai)<|ae av az)<|aB<|aK<|gu z.f9 ai)
theorem vS:ca P w K mg base "_law_places" 1 ["_law_hall_here","_law_group_here"] (dU):=b7 (N:=["_law_hall_here","_law_group_here","_law_found","_law_r","_law_c","_law_signs","_law_bad"]) (z.xX.df z.X z.G) λ nd hu hr=>(aA (iy<|bw az)<|aA (dD (dC z.dN<|a7 (ah<|mM (ah<|bF z.dA ai)<|ah<|aH ai<|ah ag)<|ah ag) bK<|aB<|dD (dC z.dN<|a7 (ah<|mM (ah<|bF z.dA<|ah<|aH ai<|ah ag)<|ah<|aH ai<|ah ag)<|ah ag) bK<|aA (aI<|Fh bD<|e!<|bJ (cV<|ah<|kK ai (kI ai)<|kI<|ah<|a7 ai<|ah<|aH ai<|ah ag) (N':=["_law_row","_law_c","_law_group_here"])<|kK ai (kI ai)<|kI<|ah<|a7 ai<|ah<|aH ai<|ah ag)<|aA (lF (i:=6) rfl nd rfl (lo rfl) (cV ai) (N':=["_law_sign","_law_group_here"]) (n:=1) (is:=[1]) (jp (by kernel_rfl)) (sB ∅) (λ _ _ _ _ _ _=>bK) (λ _ _ _ _ _=>(kU<|Dq<|y6 (aS ZS.K9 ai<|ah bD)<|sZ<|aS (pi hu) ai<|ah<|aH ai<|ah ag)) λ _ _ _ _ _=>av)<|aB<|bV (Dq<|y6 (aS (ce hu) ai<|e!<|bw az)<|sZ<|aS ZS.W3 (ah<|Oz ai<|ah bD)<|ah<|aH ai<|ah ag) (aB<|lG (i:=2) (pv 2)<|cn<|ae av<|ae av az) aY)<|qe (i:=2)<|aB<|aK av)
theorem Av:ZS.vt P w K mg base "_law_ways" 2 ["_law_hall_here","_law_groups_here","_law_held"] [AT,AT,Ch] (eN):=K8 rfl (N:=["_law_hall_here","_law_groups_here","_law_held","_law_found","_law_group_here"]) (z.Cb.df z.X z.G) λ nd hu hr=>(aA (aI ag)<|aA (dD (uY av) bK<|aB<|bV (G6 hu (aH ai<|ah ag)<|bQ<|pv 2) (aB<|aI<|eX ai<|ah<|a7 (ah ag)<|ah<|bF z.dA<|ah<|ay (vS z)<|ae av<|ae av az) aY)<|aB<|aK av)
theorem yu:ZS.qt P w K mg base "_law_asked" 19 ["_law_desk","_law_group_here"] [Ch,AT] 3 cZ:=s? rfl (N:=["_law_desk","_law_group_here","_law_found"]) (z.zW.df z.X z.G) λ nd hu hr=>(aU (bu λ _=>(aI bD))<|aU (Jr rfl rfl rfl (bZ<|jU<|lj (Az z) (hr.mono ∅) (bQ<|pv 0) (by decide +kernel) ∅ ∅<|a8 av bP) (λ _ _=>(mW<|sO<|kP (yp z) (hr.mono ∅) (bQ<|pv 0) (by decide +kernel)<|a8 av bP))<|Pr rfl z.Rr z.B2 (ZS.wN z.B2.1 z.yg ZS.z9) (λ _=>(bZ<|bu λ _=>(aI bD))) Pt)<|bZ<|bu λ _=>(aK av))
theorem uo:ZS.qt P w K mg base "_law_no_name" 9 ["_law_desk","_law_way","_law_name"] [Ch,AT,AT] 4 fE:=s? rfl (N:=["_law_desk","_law_way","_law_name","_law_found"]) (z.vH.df z.X z.G) λ nd hu hr=>(aU (bu λ _=>(aI eO))<|aU (Jr rfl rfl rfl (bZ<|rP (CN<|aS (ce hu) ai<|ah ag) (bZ<|jU<|lj (iW z) (hr.mono ∅) (bQ<|pv 0) (by decide +kernel) ∅ ∅<|a8 av bP)<|bZ<|rP (CN<|aS (ce hu) ai<|ah ag) (bZ<|jU<|lj (pO z) (hr.mono ∅) (bQ<|pv 0) (by decide +kernel) ∅ ∅<|a8 av bP)<|bZ<|bu λ _=>(Oo<|i! (ij z) (hr.mono ∅) (bQ<|pv 0) (by decide +kernel)<|a8 av bP)) (λ _ _=>(mW<|O? (aS (ce hu) ai<|ah ag) (mW<|sO<|kP (vP z) (hr.mono ∅) (bQ<|pv 0) (by decide +kernel)<|a8 av bP)<|mW<|O? (aS (ce hu) ai<|ah ag) (mW<|sO<|kP (vQ z) (hr.mono ∅) (bQ<|pv 0) (by decide +kernel)<|a8 av bP)<|mW<|sO<|kP (uj z) (hr.mono ∅) (bQ<|pv 0) (by decide +kernel)<|a8 av bP))<|Pr rfl z.JC z.tD (ZS.wN z.tD.1 z.qH ZS.z9) (λ _=>(bZ<|bu λ _=>(aI eO))) Pt)<|bZ<|bu λ _=>(aK av))
theorem um:ZS.vt P w K mg base "_law_stands" 5 ["_law_desk","_law_hall_here","_law_held"] [Ch,AT,AT] (fD):=K8 rfl (N:=["_law_desk","_law_hall_here","_law_held","_law_groups_here","_law_sits","_law_names_here","_law_name"]) (z.xW.df z.X z.G) λ nd hu hr=>(aA (aI<|dQ (cS z) (hr.mono ∅) (bQ<|pv 0) (by decide +kernel))<|aA (aI<|dQ (cR z) (hr.mono ∅) (bQ<|pv 0) (by decide +kernel))<|aA (bV (Dq<|kH (aS (rc hu) (ah mO) ai)<|kH (aS (pi hu) (ah<|bF z.dA ai)<|ah<|bF z.dA ai)<|jx<|Oi<|ah<|ay (Ax z)<|ae av<|ae av<|ae av az) (aB<|aK eO) aY)<|aA (lF (i:=5) rfl nd rfl (lo rfl) (cV ai) (N':=["_law_group_here"]) (n:=1) (is:=[]) (jp (by kernel_rfl)) (sB ∅) (λ _ _ _ _ _ _=>bK) (λ _ _ _ _ _=>tT) λ _ _ _ _ _=>(aH ai<|ah ag))<|aA (dD (Oq av) bK<|aB<|bV (Dq<|kH (aS (ZS.Fp hu) ai ai)<|kH (aS (pi hu) (ah<|aH ai<|ah<|KU hu ai ai)<|ah<|KW hu av av)<|jx<|aS (pi hu) (ah<|i! (ij z) (hr.mono ∅) (bQ<|pv 0) (by decide +kernel)<|a8 av bP)<|ah<|KW hu av av) (aB<|aK eO) aY)<|aB<|aK eO)
theorem vR:ZS.vt P w K mg base "_law_stands" 5 ["_law_desk","_law_hall_here","_law_held"] [Ch,AT,Ch] (fX):=(um z).HU
theorem yq:ZS.qt P w K mg base "_law_there" 9 ["_law_desk","_law_held","_law_name","_law_cell"] [Ch,Ch,AT,AT] 5 bX:=s? rfl (N:=["_law_desk","_law_held","_law_name","_law_cell","_law_sits"]) (z.zS.df z.X z.G) λ nd hu hr=>(aU (bu λ _=>(aI<|dQ (cR z) (hr.mono ∅) (bQ<|pv 0) (by decide +kernel)))<|aU (rP (CN<|aS ul (ah<|b! ai<|ah ag)<|ah ag) (aU (Jt hu (pv 1) av<|i! (ij z) (hr.mono ∅) (bQ<|pv 0) (by decide +kernel)<|a8 av bP)<|aU (jU<|lj (iW z) (hr.mono ∅) (bQ<|pv 0) (by decide +kernel) ∅ ∅<|a8 av bP)<|aU (jU<|lj (iW z) (hr.mono ∅) (bQ<|pv 0) (by decide +kernel) ∅ ∅<|a8 av bP)<|bZ<|bu λ _=>(aK<|cC (ce hu) (ah<|dQ (cR z) (hr.mono ∅) (bQ<|pv 0) (by decide +kernel)) ai)) pQ)<|aU (rP (CN<|aS (ce hu) (ah<|b! ai<|ah ag)<|ah ag) (aU (jU<|lj (iW z) (hr.mono ∅) (bQ<|pv 0) (by decide +kernel) ∅ ∅<|a8 av bP)<|aU (Jt hu (pv 1) av<|i! (ij z) (hr.mono ∅) (bQ<|pv 0) (by decide +kernel)<|a8 av bP)<|bZ<|bu λ _=>(aK<|cC (ce hu) (ah<|dQ (cR z) (hr.mono ∅) (bQ<|pv 0) (by decide +kernel)) ai)) pQ)<|aU (rP (CN<|Sl hu av<|bQ<|pv 1) (bZ<|jU<|Rp (pv 1) av) pQ)<|aU (jU<|lj (pO z) (hr.mono ∅) (bQ<|pv 0) (by decide +kernel) ∅ ∅<|a8 av bP)<|bZ<|bu λ _=>(aK<|cC (ZS.Fp hu) ai<|e!<|bJ (cV<|ah<|dQ (cS z) (hr.mono ∅) (bQ<|pv 0) (by decide +kernel)) (N':=["_law_group_here"])<|aH ai<|ah ag))
theorem qN:ZS.qt P w K mg base "_law_not_there" 20 ["_law_desk","_law_hall_here","_law_held","_law_group_here","_law_cell"] [Ch,AT,Ch,AT,AT] 8 ck:=s? rfl (N:=["_law_desk","_law_hall_here","_law_held","_law_group_here","_law_cell","_law_before","_law_things","_law_thing"]) (z.se.df z.X z.G) λ nd hu hr=>(aU (bu λ _=>(aI<|cn<|b? (dQ (cS z) (hr.mono ∅) (bQ<|pv 0) (by decide +kernel))<|b? (dQ (cR z) (hr.mono ∅) (bQ<|pv 0) (by decide +kernel)) az))<|aU (bu λ _=>(aI<|qf<|bw<|aq mO<|aq ag<|aq eO<|rg (cn az)<|rg (cn<|bN (aH ai<|ah ag) az)<|qg (qf<|bw az)<|qg (qf<|bw<|bN (aH ai<|ah ag) az)<|K1 Oy<|ae av az))<|aU (Ju C03 rfl (uY<|qf<|bw<|bN (aH ai<|ah ag)<|bN (aH ai<|ah<|b! (ah<|dF ai<|ah ag)<|ah ag) az) (λ _=>bK)<|bZ<|rP (mtw<|Vy (Rn<|_d<|sV (uo z) (hr.mono ∅) rfl ∅ ∅<|fQ (bQ<|pv 0)<|a8 (b! ai<|ah ag)<|a8 av bP)<|Rm<|CN<|aS (pi hu) (ah<|cn<|b? (dQ (cS z) (hr.mono ∅) (bQ<|pv 0) (by decide +kernel))<|b? (dQ (cR z) (hr.mono ∅) (bQ<|pv 0) (by decide +kernel)) az) ai) (bZ<|bu λ _=>(aK eO)) pQ)<|aU (bu λ _=>(bV (aS lw (ah<|BA (Av z) (hr.mono ∅) rfl<|a8 av<|a8 (a7 (ah<|aH ai<|ah ag)<|ah<|cn<|ae av az)<|fQ (bQ<|pv 2) bP)<|ah ag) (aB<|aK eO) aY))<|aU (rP (Nf (ce hu) (sV (yu z) (hr.mono ∅) rfl ∅ ∅<|fQ (bQ<|pv 0)<|a8 av bP) (_e bD)<|qQ _) (bZ<|bu λ _=>(aK<|cC (ce hu) (ah<|cn<|b? (dQ (cS z) (hr.mono ∅) (bQ<|pv 0) (by decide +kernel))<|b? (dQ (cR z) (hr.mono ∅) (bQ<|pv 0) (by decide +kernel)) az) ai)) pQ)<|bZ<|bu λ _=>(aK<|cC (ce hu) (ah<|dQ (cS z) (hr.mono ∅) (bQ<|pv 0) (by decide +kernel))<|ah<|a7 (ah<|aH ai<|ah ag)<|ah<|cn<|ae av az))
theorem Q_{f:δ}{fd:υ}(F:BM K "law" "law" (top 94) f fd):eY P w K mg base iV 21 f fd ["_law_script"] (ZS.zq K qY):=aaF (N:=["_law_script","_law_hall_here","_law_names_here","_law_some","_law_desk","_law_held","_law_cell","_law_group_here","_law_right"]) F λ nd hu hr=>(aA (aI<|ay (Aw z)<|ae av az)<|aA (aI<|ay (yr z)<|b? (ay (dm z)<|ae av<|aq ag az)<|aq ag az)<|aA (aI<|ay (vT z)<|ae av<|aq ag<|cP (qf<|Du ai ai) az)<|G7 (i:=4) (yv z) (hr.mono ∅) rfl nd rfl (lo rfl) av λ _ _=>(Jq (i:=5) nd rfl (lo rfl) λ _=>(aU (Ju C03 rfl (uY<|qf<|Du (e!<|bw<|aq ag<|aq ag<|aq ag az)<|e!<|uX ai (kI<|ah ag)<|kI<|ah ag) (λ _=>bK)<|aU (bu λ _=>(aI<|aH ai<|ah<|b! (ah<|dF ai<|ah ag)<|ah ag))<|aU (rP (CN<|aS (rc hu) (ah<|aH ai<|ah ag)<|e!<|bJ (cV<|ah<|dQ (cS z) (hr.mono ∅) (bQ<|pv 4) (by decide +kernel)) (N':=["_law_one"])<|aH ai<|ah ag) (bZ<|Js (i:=8) nd rfl (lo rfl) ∅<|sV (yq z) (hr.mono ∅) rfl ∅ ∅<|fQ (bQ<|pv 4)<|fQ (bQ<|pv 5)<|a8 (aH ai<|ah ag)<|a8 av bP)<|bZ<|Js (i:=8) nd rfl (lo rfl) ∅<|sV (qN z) (hr.mono ∅) rfl ∅ ∅<|fQ (bQ<|pv 4)<|a8 av<|fQ (bQ<|pv 5)<|a8 av<|a8 av bP)<|bZ<|bu λ _=>(bV (Dq<|kH (cU<|hX av)<|jx<|cU<|hX<|BA (vR z) (hr.mono ∅) rfl<|fQ (bQ<|pv 4)<|a8 av<|fQ (bQ<|pv 5) bP) (aB<|aK eO) aY))<|bZ<|bu λ _=>(aK eO))))
end
theorem all_mk{l:AC0}{w:ξ}{K:Da}{h:ν}{mg:Str->ε ζ}{fa:δ}(zr:mg "law"=AC (.ref fa))(z:Fs K mg h):
 ∃fd:υ,(∀(s:θ)(v:ζ),BindsTo s fd ⟨[v],[]⟩ [("_law_script",v)])/\∀base:ν,K.In base->base.Ns mainGlobals mg->eY l.prog w K mg base iV 21 fa fd ["_law_script"] (ZS.zq K qY):=by
 let⟨fd,hb,F⟩:=z.Ub.law z.X z.G zr (x:="_law_script") λ _ _ _ _ _ _ _ _=>.of_eq rfl;exact⟨fd,hb,λ base _ _=>Q_ z F⟩
theorem walk{l:AC0}{q:ο}{loose:γ Str}{XP:(Str->ε ζ)->ν->Prop}{YP:ξ->ν->Prop}{d:DefRec}{K:Params->FS}(hn:l.most=AC 63)(__:d.params.defaults=[])
 (hY:∀(w:ξ)(h:ν),YP w h->(K w.params).In h)
 (F:∀ (w:ξ)(mg:Str->ε ζ)(fa:δ)(h:ν),(K w.params).In h->h.Ns mainGlobals mg->mg d.name=AC (.ref fa) ->
  ∃fd:υ,(∀(s:θ)(u:ζ),BindsTo s fd ⟨[u],[]⟩ [("_law_script",u)])/\∀base:ν,(K w.params).In base->base.Ns mainGlobals mg->eY l.prog w (K w.params) mg base iV 21 fa fd ["_law_script"] (ZS.zq (K w.params) qY)) (hL:∀w:ξ,ZS.Ll q (K w.params)) :
 PySem.W.WalkO q loose XP YP l.row.toRowW d [] (λ f vs=>PySem.call f vs):=
 ZS.Qc (n:=63) (k:=21) (x:="_law_script") (m:=qY) hn ∅ __ ⟨rfl,by decide,by decide⟩ hY F hL holds
end gV
namespace gV
open PySem PySem.Spec PyProof.Rows L2
abbrev km0:String:="besideseats.errors"
abbrev _k:String:="besideseats.plain"
abbrev Py:String:="besideseats.groups"
abbrev Yi:String:="besideseats.halls"
abbrev Yh:String:="besideseats.places"
abbrev VJ:String:="besideseats.seatings"
abbrev Px:String:="besideseats.rooms"
abbrev km7:String:="besideseats.best"
abbrev Yg:String:="besideseats.papers"
abbrev Ny:String:="besideseats.desk"
abbrev mD:String:="law_besideseats_k83_fast_ones_stay"
noncomputable def kd(P:Params)(n:String)(t:Nat)(v:ζ):DictEntry:={hash:=PyData.keyHash P<|Str.ofString n,key:=.str (Db n) t,val:=v}
noncomputable def kc(n:String)(t l:Nat)(a b c d e f g h i j:ζ)(u:Nat):μ:={cls:=.type "code",data:=.fields #[.str (Db n) t,.str (Db n) (t+1),.str (Db "/claim/cut.py") (t+2),.int l 0,a,.int 0 0,.int 0 0,b,c,.bool Ch,d,e,f,g,h,i,j,.int l 0,.str (Db "/claim/cut.py") u]}
noncomputable def Lz(n q:String)(t l:Nat)(a b c d e f g h i j:ζ)(u:Nat):μ:={cls:=.type "code",data:=.fields #[.str (Db n) t,.str (Db q) (t+1),.str (Db "/claim/cut.py") (t+2),.int l 0,a,.int 0 0,.int 0 0,b,c,.bool Ch,d,e,f,g,h,i,j,.int l 0,.str (Db "/claim/cut.py") u]}
noncomputable def Ly(n q:String)(s:η)(m:String)(t c:Nat)(v:ζ:=.none):μ:={cls:=.type "function",data:=.func {name:=Db n,qualname:=Db q,params:=bE s,body:=.stmts<|aL s,scope:=aj s,globals:=3,closure:=[],defaults:=v,kwdefaults:=.none,pyModule:=.str (Db m) t,code:=.ref c}}
noncomputable def kf(n:String)(i:Nat)(m:String)(t c:Nat)(v:ζ:=.none):μ:={cls:=.type "function",data:=.func {name:=Db n,qualname:=Db n,params:=bE<|top i,body:=.stmts<|aL<|top i,scope:=aj<|top i,globals:=3,closure:=[],defaults:=v,kwdefaults:=.none,pyModule:=.str (Db m) t,code:=.ref c}}
noncomputable def k7(n:String)(t l i r j u:Nat):μ:=kc n t l (.int i 0) (.int 3 0) (.ref r) (.int 181 0) (.ref<|r+1) .none (.ref<|r+2) (.ref<|r+3) (.ref<|r+4) (.int j 0) u
noncomputable def k5(n:String)(t l i r j u:Nat):μ:=kc n t l (.int i 0) (.int 3 0) (.ref r) (.int 181 0) (.ref<|r+1) .none .none .none (.ref<|r+2) (.int j 0) u
noncomputable def KK(P:Params):Da:=(λ(_:Db "a"=Str.mk #[97])=>(nat_lit 3,{cls:=.type "dict",data:=.dict #[kd P "__name__" 165 (.str (Db "law_besideseats_k83_fast_ones_stay") 819),kd P "__doc__" 166 .none,kd P "__package__" 167 .none,kd P "__loader__" 168 (.builtin "__main__.__loader__#opaque"),kd P "__spec__" 169 .none,kd P "__annotations__" 170 (.ref 6),kd P "__builtins__" 171 (.ref 4),kd P "__file__" 173 (.str (Db "/claim/cut.py") 172),kd P "__cached__" 174 .none,kd P "_wall" 193 (.ref 21),kd P "SeatError" 213 (.ref 31),kd P "NoHall" 229 (.ref 44),kd P "NoGroup" 245 (.ref 56),kd P "NoSeating" 261 (.ref 68),kd P "NoName" 277 (.ref 80),kd P "Twice" 293 (.ref 92),kd P "Full" 318 (.ref 111),kd P "TooGreat" 345 (.ref 130),kd P "is_whole" 354 (.ref 139),kd P "is_whole_within" 363 (.ref 146),kd P "is_letter" 370 (.ref 153),kd P "NAME" 374 (.int 0 373),kd P "WIDTH" 376 (.int 1 375),kd P "DEPTH" 378 (.int 2 377),kd P "KIND" 380 (.int 3 379),kd P "WIDE" 382 (.int 4 381),kd P "GAP" 384 (.int 5 383),kd P "WORTH" 386 (.int 6 385),kd P "WISHES" 388 (.int 7 387),kd P "PARTS" 390 (.int 8 389),kd P "MOST_LETTERS" 392 (.int 8 391),kd P "MOST_WIDTH" 394 (.int 12 393),kd P "MOST_DEPTH" 396 (.int 3 395),kd P "MOST_GAP" 398 (.int 6 397),kd P "LAST_ROW" 400 (.int 5 399),kd P "is_name" 406 (.ref 158),kd P "is_kind" 413 (.ref 165),kd P "is_amount" 421 (.ref 172),kd P "is_wish" 428 (.ref 179),kd P "are_wishes" 434 (.ref 184),kd P "asks_for_seats" 441 (.ref 191),kd P "is_group" 448 (.ref 198),kd P "worth_in" 454 (.ref 203),kd P "MOST_ROWS" 458 (.int 6 457),kd P "MOST_COLUMNS" 460 (.int 12 459),kd P "is_sign" 467 (.ref 210),kd P "is_row" 473 (.ref 215),kd P "is_hall" 479 (.ref 220),kd P "sign_at" 489 (.ref 227),kd P "takes" 499 (.ref 234),kd P "seats_of" 505 (.ref 239),kd P "fits" 511 (.ref 244),kd P "places_of" 517 (.ref 249),kd P "apart" 530 (.ref 256),kd P "those_that_sit" 536 (.ref 261),kd P "apart_from_all" 542 (.ref 266),kd P "keeps" 548 (.ref 271),kd P "worth_of" 554 (.ref 276),kd P "MOST_WAYS" 558 (.int 2000 557),kd P "fast_seating" 568 (.ref 283),kd P "ways" 580 (.ref 291),kd P "small_start" 590 (.ref 298),kd P "with_place" 599 (.ref 305),kd P "open_among" 605 (.ref 310),kd P "with_one_more" 611 (.ref 315),kd P "seatings_from" 623 (.ref 322),kd P "first_of_all" 633 (.ref 330),kd P "best_among" 644 (.ref 337),kd P "best_of_all" 654 (.ref 345),kd P "all_places" 662 (.ref 350),kd P "spots_of" 672 (.ref 357),kd P "paper_beside" 678 (.ref 362),kd P "paper_of" 687 (.ref 370),kd P "MOST_GUESTS" 691 (.int 6 690),kd P "without" 699 (.ref 377),kd P "Desk" 818 (.ref 469),kd P "_law_cell_at" 828 (.ref 480),kd P "_law_mixed" 839 (.ref 487),kd P "_law_digits" 849 (.ref 494),kd P "_law_names" 866 (.ref 501),kd P "_law_letters" 874 (.ref 508),kd P "_law_hall" 880 (.ref 513),kd P "_law_any" 886 (.ref 518),kd P "_law_group" 904 (.ref 525),kd P "_law_groups" 917 (.ref 532),kd P "_law_places" 923 (.ref 537),kd P "_law_ways" 934 (.ref 544),kd P "_law_asked" 943 (.ref 551),kd P "_law_no_name" 953 (.ref 558),kd P "_law_stands" 959 (.ref 563),kd P "_law_there" 965 (.ref 568),kd P "_law_not_there" 979 (.ref 575),kd P "law" 985 (.ref 580)] 93}) ::
 (nat_lit 20,k7 "_wall" 187 1 1 15 191 192) ::
 (nat_lit 30,{cls:=.type "dict",data:=.dict #[kd P "__module__" 203 (.str (Db "besideseats.errors") 194),kd P "__firstlineno__" 207 (.int 5 206),kd P "__static_attributes__" 208 (.ref 29),kd P "__weakref__" 210 (.ref 32),kd P "__doc__" 211 .none] 3}) ::
 (nat_lit 31,{cls:=.type "type",data:=.cls {name:=Db "SeatError",bases:=[.type "ValueError"],mro:=[.ref 31,.type "ValueError",.type "Exception",.type "BaseException",.type "object"],ns:=30,qualname:=Db "SeatError",subclasses:=[.ref 44,.ref 56,.ref 68,.ref 80,.ref 92,.ref 111,.ref 130]},slots:=#[AC (.ref 22),At,AC (.str (Db "SeatError") 196),AC (.str (Db "SeatError") 204),AC (.builtin "ValueError.__new__"),AC (.bool Ch)]}) ::
 (nat_lit 43,{cls:=.type "dict",data:=.dict #[kd P "__module__" 221 (.str (Db "besideseats.errors") 194),kd P "__firstlineno__" 225 (.int 7 224),kd P "__static_attributes__" 226 (.ref 42),kd P "__doc__" 227 .none] 2}) ::
 (nat_lit 44,{cls:=.type "type",data:=.cls {name:=Db "NoHall",bases:=[.ref 31],mro:=[.ref 44,.ref 31,.type "ValueError",.type "Exception",.type "BaseException",.type "object"],ns:=43,qualname:=Db "NoHall"},slots:=#[AC (.ref 35),At,AC (.str (Db "NoHall") 214),AC (.str (Db "NoHall") 222),AC (.builtin "ValueError.__new__"),AC (.bool Ch)]}) ::
 (nat_lit 55,{cls:=.type "dict",data:=.dict #[kd P "__module__" 237 (.str (Db "besideseats.errors") 194),kd P "__firstlineno__" 241 (.int 9 240),kd P "__static_attributes__" 242 (.ref 54),kd P "__doc__" 243 .none] 2}) ::
 (nat_lit 56,{cls:=.type "type",data:=.cls {name:=Db "NoGroup",bases:=[.ref 31],mro:=[.ref 56,.ref 31,.type "ValueError",.type "Exception",.type "BaseException",.type "object"],ns:=55,qualname:=Db "NoGroup"},slots:=#[AC (.ref 47),At,AC (.str (Db "NoGroup") 230),AC (.str (Db "NoGroup") 238),AC (.builtin "ValueError.__new__"),AC (.bool Ch)]}) ::
 (nat_lit 67,{cls:=.type "dict",data:=.dict #[kd P "__module__" 253 (.str (Db "besideseats.errors") 194),kd P "__firstlineno__" 257 (.int 11 256),kd P "__static_attributes__" 258 (.ref 66),kd P "__doc__" 259 .none] 2}) ::
 (nat_lit 68,{cls:=.type "type",data:=.cls {name:=Db "NoSeating",bases:=[.ref 31],mro:=[.ref 68,.ref 31,.type "ValueError",.type "Exception",.type "BaseException",.type "object"],ns:=67,qualname:=Db "NoSeating"},slots:=#[AC (.ref 59),At,AC (.str (Db "NoSeating") 246),AC (.str (Db "NoSeating") 254),AC (.builtin "ValueError.__new__"),AC (.bool Ch)]}) ::
 (nat_lit 79,{cls:=.type "dict",data:=.dict #[kd P "__module__" 269 (.str (Db "besideseats.errors") 194),kd P "__firstlineno__" 273 (.int 13 272),kd P "__static_attributes__" 274 (.ref 78),kd P "__doc__" 275 .none] 2}) ::
 (nat_lit 80,{cls:=.type "type",data:=.cls {name:=Db "NoName",bases:=[.ref 31],mro:=[.ref 80,.ref 31,.type "ValueError",.type "Exception",.type "BaseException",.type "object"],ns:=79,qualname:=Db "NoName"},slots:=#[AC (.ref 71),At,AC (.str (Db "NoName") 262),AC (.str (Db "NoName") 270),AC (.builtin "ValueError.__new__"),AC (.bool Ch)]}) ::
 (nat_lit 91,{cls:=.type "dict",data:=.dict #[kd P "__module__" 285 (.str (Db "besideseats.errors") 194),kd P "__firstlineno__" 289 (.int 15 288),kd P "__static_attributes__" 290 (.ref 90),kd P "__doc__" 291 .none] 2}) ::
 (nat_lit 92,{cls:=.type "type",data:=.cls {name:=Db "Twice",bases:=[.ref 31],mro:=[.ref 92,.ref 31,.type "ValueError",.type "Exception",.type "BaseException",.type "object"],ns:=91,qualname:=Db "Twice"},slots:=#[AC (.ref 83),At,AC (.str (Db "Twice") 278),AC (.str (Db "Twice") 286),AC (.builtin "ValueError.__new__"),AC (.bool Ch)]}) ::
 (nat_lit 107,Lz "__init__" "Full.__init__" 306 19 (.int 2 0) (.int 3 0) (.ref 102) (.int 181 0) (.ref 103) .none (.ref 104) (.ref 105) (.ref 106) (.int 311 0) 312) ::
 (nat_lit 108,Ly "__init__" "Full.__init__" (w? 8 0) km0 194 107) ::
 (nat_lit 110,{cls:=.type "dict",data:=.dict #[kd P "__module__" 301 (.str (Db "besideseats.errors") 194),kd P "__firstlineno__" 305 (.int 17 304),kd P "__init__" 313 (.ref 108),kd P "__static_attributes__" 315 (.ref 109),kd P "__doc__" 316 .none] 2}) ::
 (nat_lit 111,{cls:=.type "type",data:=.cls {name:=Db "Full",bases:=[.ref 31],mro:=[.ref 111,.ref 31,.type "ValueError",.type "Exception",.type "BaseException",.type "object"],ns:=110,qualname:=Db "Full"},slots:=#[AC (.ref 95),At,AC (.str (Db "Full") 294),AC (.str (Db "Full") 302),AC (.builtin "ValueError.__new__"),AC (.bool Ch)]}) ::
 (nat_lit 126,Lz "__init__" "TooGreat.__init__" 331 23 (.int 3 0) (.int 3 0) (.ref 121) (.int 181 0) (.ref 122) .none (.ref 123) (.ref 124) (.ref 125) (.int 337 0) 338) ::
 (nat_lit 127,Ly "__init__" "TooGreat.__init__" (w? 9 0) km0 194 126) ::
 (nat_lit 129,{cls:=.type "dict",data:=.dict #[kd P "__module__" 326 (.str (Db "besideseats.errors") 194),kd P "__firstlineno__" 330 (.int 21 329),kd P "__init__" 339 (.ref 127),kd P "__static_attributes__" 342 (.ref 128),kd P "__doc__" 343 .none] 2}) ::
 (nat_lit 130,{cls:=.type "type",data:=.cls {name:=Db "TooGreat",bases:=[.ref 31],mro:=[.ref 130,.ref 31,.type "ValueError",.type "Exception",.type "BaseException",.type "object"],ns:=129,qualname:=Db "TooGreat"},slots:=#[AC (.ref 114),At,AC (.str (Db "TooGreat") 319),AC (.str (Db "TooGreat") 327),AC (.builtin "ValueError.__new__"),AC (.bool Ch)]}) ::
 (nat_lit 138,k7 "is_whole" 348 27 1 133 352 353) ::
 (nat_lit 139,kf "is_whole" 11 _k 346 138) ::
 (nat_lit 145,k7 "is_whole_within" 355 29 3 140 361 362) ::
 (nat_lit 146,kf "is_whole_within" 12 _k 346 145) ::
 (nat_lit 152,k7 "is_letter" 364 31 1 147 368 369) ::
 (nat_lit 153,kf "is_letter" 13 _k 346 152) ::
 (nat_lit 157,k5 "is_name" 401 48 1 154 404 405) ::
 (nat_lit 158,kf "is_name" 29 Py 371 157) ::
 (nat_lit 164,k7 "is_kind" 407 52 1 159 411 412) ::
 (nat_lit 165,kf "is_kind" 30 Py 371 164) ::
 (nat_lit 171,k7 "is_amount" 414 54 2 166 419 420) ::
 (nat_lit 172,kf "is_amount" 31 Py 371 171) ::
 (nat_lit 178,k7 "is_wish" 422 56 1 173 426 427) ::
 (nat_lit 179,kf "is_wish" 32 Py 371 178) ::
 (nat_lit 183,k5 "are_wishes" 429 60 1 180 432 433) ::
 (nat_lit 184,kf "are_wishes" 33 Py 371 183) ::
 (nat_lit 190,k7 "asks_for_seats" 435 64 1 185 439 440) ::
 (nat_lit 191,kf "asks_for_seats" 34 Py 371 190) ::
 (nat_lit 197,k7 "is_group" 442 72 1 192 446 447) ::
 (nat_lit 198,kf "is_group" 35 Py 371 197) ::
 (nat_lit 202,k5 "worth_in" 449 78 2 199 452 453) ::
 (nat_lit 203,kf "worth_in" 36 Py 371 202) ::
 (nat_lit 209,k7 "is_sign" 461 83 1 204 465 466) ::
 (nat_lit 210,kf "is_sign" 40 Yi 455 209) ::
 (nat_lit 214,k5 "is_row" 468 85 1 211 471 472) ::
 (nat_lit 215,kf "is_row" 41 Yi 455 214) ::
 (nat_lit 219,k5 "is_hall" 474 89 1 216 477 478) ::
 (nat_lit 220,kf "is_hall" 42 Yi 455 219) ::
 (nat_lit 226,k7 "sign_at" 480 95 2 221 487 488) ::
 (nat_lit 227,kf "sign_at" 43 Yi 455 226) ::
 (nat_lit 233,k7 "takes" 492 102 2 228 497 498) ::
 (nat_lit 234,kf "takes" 45 Yh 490 233) ::
 (nat_lit 238,k5 "seats_of" 500 104 2 235 503 504) ::
 (nat_lit 239,kf "seats_of" 46 Yh 490 238) ::
 (nat_lit 243,k5 "fits" 506 109 3 240 509 510) ::
 (nat_lit 244,kf "fits" 47 Yh 490 243) ::
 (nat_lit 248,k5 "places_of" 512 114 2 245 515 516) ::
 (nat_lit 249,kf "places_of" 48 Yh 490 248) ::
 (nat_lit 255,k7 "apart" 520 120 4 250 528 529) ::
 (nat_lit 256,kf "apart" 50 VJ 518 255) ::
 (nat_lit 260,k5 "those_that_sit" 531 125 2 257 534 535) ::
 (nat_lit 261,kf "those_that_sit" 51 VJ 518 260) ::
 (nat_lit 265,k5 "apart_from_all" 537 127 3 262 540 541) ::
 (nat_lit 266,kf "apart_from_all" 52 VJ 518 265) ::
 (nat_lit 270,k5 "keeps" 543 129 3 267 546 547) ::
 (nat_lit 271,kf "keeps" 53 VJ 518 270) ::
 (nat_lit 275,k5 "worth_of" 549 134 2 272 552 553) ::
 (nat_lit 276,kf "worth_of" 54 VJ 518 275) ::
 (nat_lit 282,k7 "fast_seating" 559 138 3 277 566 567) ::
 (nat_lit 283,kf "fast_seating" 57 Px 555 282) ::
 (nat_lit 290,k7 "ways" 569 143 3 285 578 579) ::
 (nat_lit 291,kf "ways" 58 Px 555 290<|.ref 284) ::
 (nat_lit 297,k7 "small_start" 581 149 3 292 588 589) ::
 (nat_lit 298,kf "small_start" 59 Px 555 297) ::
 (nat_lit 304,k7 "with_place" 591 154 3 299 597 598) ::
 (nat_lit 305,kf "with_place" 60 Px 555 304) ::
 (nat_lit 309,k5 "open_among" 600 156 3 306 603 604) ::
 (nat_lit 310,kf "open_among" 61 Px 555 309) ::
 (nat_lit 314,k5 "with_one_more" 606 158 5 311 609 610) ::
 (nat_lit 315,kf "with_one_more" 62 Px 555 314) ::
 (nat_lit 321,k7 "seatings_from" 612 167 4 316 621 622) ::
 (nat_lit 322,kf "seatings_from" 63 Px 555 321) ::
 (nat_lit 329,k7 "first_of_all" 624 173 3 324 631 632) ::
 (nat_lit 330,kf "first_of_all" 64 Px 555 329<|.ref 323) ::
 (nat_lit 336,k7 "best_among" 636 177 2 331 642 643) ::
 (nat_lit 337,kf "best_among" 66 km7 634 336) ::
 (nat_lit 344,k7 "best_of_all" 645 179 3 339 652 653) ::
 (nat_lit 345,kf "best_of_all" 67 km7 634 344<|.ref 338) ::
 (nat_lit 349,k5 "all_places" 657 183 2 346 660 661) ::
 (nat_lit 350,kf "all_places" 69 Yg 655 349) ::
 (nat_lit 356,k7 "spots_of" 663 185 4 351 670 671) ::
 (nat_lit 357,kf "spots_of" 70 Yg 655 356) ::
 (nat_lit 361,k5 "paper_beside" 673 187 3 358 676 677) ::
 (nat_lit 362,kf "paper_beside" 71 Yg 655 361) ::
 (nat_lit 369,k7 "paper_of" 679 195 3 364 685 686) ::
 (nat_lit 370,kf "paper_of" 72 Yg 655 369<|.ref 363) ::
 (nat_lit 376,k7 "without" 692 201 2 371 697 698) ::
 (nat_lit 377,kf "without" 75 Ny 688 376) ::
 (nat_lit 390,Lz "__init__" "Desk.__init__" 712 205 (.int 2 0) (.int 3 0) (.ref 385) (.int 181 0) (.ref 386) .none (.ref 387) (.ref 388) (.ref 389) (.int 717 0) 718) ::
 (nat_lit 391,Ly "__init__" "Desk.__init__" (w? 76 0) Ny 688 390) ::
 (nat_lit 397,Lz "number_of" "Desk.number_of" 720 213 (.int 2 0) (.int 3 0) (.ref 392) (.int 181 0) (.ref 393) .none (.ref 394) (.ref 395) (.ref 396) (.int 727 0) 728) ::
 (nat_lit 398,Ly "number_of" "Desk.number_of" (w? 76 1) Ny 688 397) ::
 (nat_lit 402,Lz "ask" "Desk.ask" 730 220 (.int 2 0) (.int 3 0) (.ref 399) (.int 181 0) (.ref 400) .none .none .none (.ref 401) (.int 733 0) 734) ::
 (nat_lit 403,Ly "ask" "Desk.ask" (w? 76 2) Ny 688 402) ::
 (nat_lit 409,Lz "fast" "Desk.fast" 736 237 (.int 2 0) (.int 3 0) (.ref 404) (.int 181 0) (.ref 405) .none (.ref 406) (.ref 407) (.ref 408) (.int 742 0) 743) ::
 (nat_lit 410,Ly "fast" "Desk.fast" (w? 76 3) Ny 688 409) ::
 (nat_lit 416,Lz "away" "Desk.away" 745 241 (.int 2 0) (.int 3 0) (.ref 411) (.int 181 0) (.ref 412) .none (.ref 413) (.ref 414) (.ref 415) (.int 751 0) 752) ::
 (nat_lit 417,Ly "away" "Desk.away" (w? 76 4) Ny 688 416) ::
 (nat_lit 423,Lz "where" "Desk.where" 754 247 (.int 2 0) (.int 3 0) (.ref 418) (.int 181 0) (.ref 419) .none (.ref 420) (.ref 421) (.ref 422) (.int 759 0) 760) ::
 (nat_lit 424,Ly "where" "Desk.where" (w? 76 5) Ny 688 423) ::
 (nat_lit 430,Lz "at_hand" "Desk.at_hand" 762 250 (.int 1 0) (.int 3 0) (.ref 425) (.int 181 0) (.ref 426) .none (.ref 427) (.ref 428) (.ref 429) (.int 766 0) 767) ::
 (nat_lit 431,Ly "at_hand" "Desk.at_hand" (w? 76 6) Ny 688 430) ::
 (nat_lit 437,Lz "seating" "Desk.seating" 769 253 (.int 1 0) (.int 3 0) (.ref 432) (.int 181 0) (.ref 433) .none (.ref 434) (.ref 435) (.ref 436) (.int 773 0) 774) ::
 (nat_lit 438,Ly "seating" "Desk.seating" (w? 76 7) Ny 688 437) ::
 (nat_lit 468,{cls:=.type "dict",data:=.dict #[kd P "__module__" 707 (.str (Db "besideseats.desk") 688),kd P "__firstlineno__" 711 (.int 203 710),kd P "__init__" 719 (.ref 391),kd P "number_of" 729 (.ref 398),kd P "ask" 735 (.ref 403),kd P "fast" 744 (.ref 410),kd P "away" 753 (.ref 417),kd P "where" 761 (.ref 424),kd P "at_hand" 768 (.ref 431),kd P "seating" 775 (.ref 438),kd P "worth" 782 (.ref 445),kd P "show_all" 789 (.ref 452),kd P "say" 797 (.ref 459),kd P "do" 806 (.ref 466),kd P "__static_attributes__" 811 (.ref 467),kd P "__dict__" 813 (.ref 470),kd P "__weakref__" 815 (.ref 471),kd P "__doc__" 816 .none] 4}) ::
 (nat_lit 469,{cls:=.type "type",data:=.cls {name:=Db "Desk",bases:=[.type "object"],mro:=[.ref 469,.type "object"],ns:=468,qualname:=Db "Desk"},slots:=#[At,At,AC (.str (Db "Desk") 700),AC (.str (Db "Desk") 708),AC (.builtin "object.__new__"),AC (.bool Ch)]}) ::
 (nat_lit 479,k7 "_law_cell_at" 821 268 2 474 826 827) ::
 (nat_lit 480,kf "_law_cell_at" 78 mD 819 479) ::
 (nat_lit 486,k7 "_law_mixed" 829 272 2 481 837 838) ::
 (nat_lit 487,kf "_law_mixed" 79 mD 819 486) ::
 (nat_lit 493,k7 "_law_digits" 840 279 2 488 847 848) ::
 (nat_lit 494,kf "_law_digits" 80 mD 819 493) ::
 (nat_lit 500,k7 "_law_names" 850 285 2 495 864 865) ::
 (nat_lit 501,kf "_law_names" 81 mD 819 500) ::
 (nat_lit 507,k7 "_law_letters" 867 298 1 502 872 873) ::
 (nat_lit 508,kf "_law_letters" 82 mD 819 507) ::
 (nat_lit 512,k5 "_law_hall" 875 301 1 509 878 879) ::
 (nat_lit 513,kf "_law_hall" 83 mD 819 512) ::
 (nat_lit 517,k5 "_law_any" 881 316 2 514 884 885) ::
 (nat_lit 518,kf "_law_any" 84 mD 819 517) ::
 (nat_lit 524,k7 "_law_group" 887 323 3 519 902 903) ::
 (nat_lit 525,kf "_law_group" 85 mD 819 524) ::
 (nat_lit 531,k7 "_law_groups" 905 336 3 526 915 916) ::
 (nat_lit 532,kf "_law_groups" 86 mD 819 531) ::
 (nat_lit 536,k5 "_law_places" 918 346 2 533 921 922) ::
 (nat_lit 537,kf "_law_places" 87 mD 819 536) ::
 (nat_lit 543,k7 "_law_ways" 924 355 3 538 932 933) ::
 (nat_lit 544,kf "_law_ways" 88 mD 819 543) ::
 (nat_lit 550,k7 "_law_asked" 935 361 2 545 941 942) ::
 (nat_lit 551,kf "_law_asked" 89 mD 819 550) ::
 (nat_lit 557,k7 "_law_no_name" 944 368 3 552 951 952) ::
 (nat_lit 558,kf "_law_no_name" 90 mD 819 557) ::
 (nat_lit 562,k5 "_law_stands" 954 380 3 559 957 958) ::
 (nat_lit 563,kf "_law_stands" 91 mD 819 562) ::
 (nat_lit 567,k5 "_law_there" 960 390 4 564 963 964) ::
 (nat_lit 568,kf "_law_there" 92 mD 819 567) ::
 (nat_lit 574,k7 "_law_not_there" 966 405 5 569 977 978) ::
 (nat_lit 575,kf "_law_not_there" 93 mD 819 574) ::
 (nat_lit 579,k5 "law" 980 416 1 576 983 984) ::
 (nat_lit 580,kf "law" 94 mD 819 579) ::
 (nat_lit 284,{cls:=.type "tuple",data:=.seq #[.none]}) ::
 (nat_lit 323,{cls:=.type "tuple",data:=.seq #[.none]}) ::
 (nat_lit 338,{cls:=.type "tuple",data:=.seq #[.none]}) ::
 (nat_lit 363,{cls:=.type "tuple",data:=.seq #[.none]})::[]) (by kernel_rfl)
noncomputable def KA:γ δ:=[nat_lit 3,nat_lit 20,nat_lit 30,nat_lit 31,nat_lit 43,nat_lit 44,nat_lit 55,nat_lit 56,nat_lit 67,nat_lit 68,nat_lit 79,nat_lit 80,nat_lit 91,nat_lit 92,nat_lit 107,nat_lit 108,nat_lit 110,nat_lit 111,nat_lit 126,nat_lit 127,nat_lit 129,nat_lit 130,nat_lit 138,nat_lit 139,nat_lit 145,nat_lit 146,nat_lit 152,nat_lit 153,nat_lit 157,nat_lit 158,nat_lit 164,nat_lit 165,nat_lit 171,nat_lit 172,nat_lit 178,nat_lit 179,nat_lit 183,nat_lit 184,nat_lit 190,nat_lit 191,nat_lit 197,nat_lit 198,nat_lit 202,nat_lit 203,nat_lit 209,nat_lit 210,nat_lit 214,nat_lit 215,nat_lit 219,nat_lit 220,nat_lit 226,nat_lit 227,nat_lit 233,nat_lit 234,nat_lit 238,nat_lit 239,nat_lit 243,nat_lit 244,nat_lit 248,nat_lit 249,nat_lit 255,nat_lit 256,nat_lit 260,nat_lit 261,nat_lit 265,nat_lit 266,nat_lit 270,nat_lit 271,nat_lit 275,nat_lit 276,nat_lit 282,nat_lit 283,nat_lit 290,nat_lit 291,nat_lit 297,nat_lit 298,nat_lit 304,nat_lit 305,nat_lit 309,nat_lit 310,nat_lit 314,nat_lit 315,nat_lit 321,nat_lit 322,nat_lit 329,nat_lit 330,nat_lit 336,nat_lit 337,nat_lit 344,nat_lit 345,nat_lit 349,nat_lit 350,nat_lit 356,nat_lit 357,nat_lit 361,nat_lit 362,nat_lit 369,nat_lit 370,nat_lit 376,nat_lit 377,nat_lit 390,nat_lit 391,nat_lit 397,nat_lit 398,nat_lit 402,nat_lit 403,nat_lit 409,nat_lit 410,nat_lit 416,nat_lit 417,nat_lit 423,nat_lit 424,nat_lit 430,nat_lit 431,nat_lit 437,nat_lit 438,nat_lit 468,nat_lit 469,nat_lit 479,nat_lit 480,nat_lit 486,nat_lit 487,nat_lit 493,nat_lit 494,nat_lit 500,nat_lit 501,nat_lit 507,nat_lit 508,nat_lit 512,nat_lit 513,nat_lit 517,nat_lit 518,nat_lit 524,nat_lit 525,nat_lit 531,nat_lit 532,nat_lit 536,nat_lit 537,nat_lit 543,nat_lit 544,nat_lit 550,nat_lit 551,nat_lit 557,nat_lit 558,nat_lit 562,nat_lit 563,nat_lit 567,nat_lit 568,nat_lit 574,nat_lit 575,nat_lit 579,nat_lit 580,nat_lit 284,nat_lit 323,nat_lit 338,nat_lit 363]
end gV
namespace PySem.W.Fast
def tw12750980971937911914:=()
omit env_41 heap_46 heap_652 o_45 o_46 o_49 o_53 o_55 o_56 o_57 o_58 o_59 o_60 o_63 o_64 o_66 o_67 o_68 o_69 o_70 o_71 o_73 o_74 o_75 o_76 o_79 o_80 o_82 o_83 o_84 o_85 o_86 o_88 o_89 o_90 o_91 o_94 o_95 o_97 o_98 o_99 o_100 o_101 o_103 o_104 o_105 o_106 o_109 o_110 o_112 o_113 o_114 o_115 o_116 o_118 o_119 o_120 o_121 o_124 o_125 o_127 o_128 o_129 o_130 o_131 o_133 o_134 o_135 o_136 o_139 o_140 o_142 o_143 o_144 o_145 o_146 o_148 o_149 o_150 o_151 o_154 o_155 o_158 o_160 o_161 o_162 o_163 o_164 o_165 o_166 o_167 o_168 o_170 o_171 o_172 o_173 o_176 o_177 o_180 o_182 o_183 o_184 o_185 o_186 o_187 o_188 o_189 o_192 o_194 o_195 o_196 o_199 o_201 o_202 o_203 o_206 o_208 o_209 o_210 o_211 o_215 o_216 o_217 o_220 o_222 o_223 o_224 o_227 o_229 o_230 o_231 o_234 o_236 o_237 o_238 o_241 o_242 o_243 o_246 o_248 o_249 o_250 o_253 o_255 o_256 o_257 o_260 o_261 o_262 o_265 o_267 o_268 o_269 o_272 o_273 o_274 o_275 o_279 o_280 o_281 o_284 o_286 o_287 o_288 o_291 o_293 o_294 o_295 o_298 o_299 o_300 o_303 o_304 o_305 o_308 o_309 o_310 o_313 o_315 o_316 o_317 o_320 o_321 o_322 o_325 o_326 o_327 o_330 o_331 o_332 o_335 o_336 o_337 o_340 o_342 o_343 o_344 o_345 o_347 o_350 o_352 o_353 o_354 o_357 o_359 o_360 o_361 o_364 o_366 o_367 o_368 o_371 o_372 o_373 o_376 o_377 o_378 o_381 o_383 o_384 o_385 o_386 o_389 o_391 o_392 o_393 o_396 o_397 o_398 o_399 o_400 o_401 o_404 o_406 o_407 o_408 o_411 o_412 o_413 o_416 o_418 o_419 o_420 o_423 o_424 o_425 o_426 o_428 o_431 o_433 o_434 o_435 o_438 o_440 o_441 o_442 o_443 o_446 o_447 o_450 o_451 o_454 o_456 o_457 o_458 o_461 o_463 o_464 o_465 o_468 o_469 o_470 o_473 o_475 o_476 o_477 o_480 o_482 o_483 o_484 o_487 o_489 o_490 o_491 o_494 o_496 o_497 o_498 o_501 o_503 o_504 o_505 o_508 o_510 o_511 o_512 o_515 o_517 o_518 o_519 o_522 o_524 o_525 o_526 o_529 o_531 o_532 o_533 o_534 o_535 o_536 o_537 o_538 o_539 o_540 o_541 o_545 o_547 o_548 o_549 o_552 o_554 o_555 o_556 o_559 o_561 o_562 o_563 o_566 o_568 o_569 o_570 o_573 o_575 o_576 o_577 o_580 o_581 o_582 o_585 o_586 o_587 o_590 o_592 o_593 o_594 o_597 o_599 o_600 o_601 o_604 o_605 o_606 o_609 o_611 o_612 o_613 o_616 o_618 o_619 o_620 o_621 o_625 o_627 o_628 o_629 o_632 o_633 o_634 o_637 o_638 o_639 o_642 o_644 o_645 o_646 o_649 o_650 o_651 sts_49 sts_71 sts_86 sts_101 sts_116 sts_131 sts_146 sts_168 sts_211 sts_275 sts_345 sts_426 sts_443 sts_541 sts_621 tree_47 tree_70 tree_85 tree_100 tree_115 tree_130 tree_145 tree_167 tree_210 tree_274 tree_344 tree_425 tree_442 tree_540 tree_620 tree_651 view_39 o_43 o_51 o_54 o_61 o_65 o_77 o_81 o_92 o_96 o_107 o_111 o_122 o_126 o_137 o_141 o_152 o_156 o_159 o_174 o_178 o_181 o_190 o_193 o_197 o_200 o_204 o_207 o_213 o_218 o_221 o_225 o_228 o_232 o_235 o_239 o_244 o_247 o_251 o_254 o_258 o_263 o_266 o_270 o_277 o_282 o_285 o_289 o_292 o_296 o_301 o_306 o_311 o_314 o_318 o_323
end PySem.W.Fast
open PySem PySem.W PyProof.Rows
set_option maxRecDepth 100000 in
set_option maxHeartbeats 0 in
theorem PySem.Challenge.cw_besideseats_k83_fast_ones_stay_holds : PySem.Challenge.rw_besideseats_k83_fast_ones_stay.Holds := by
 w_on;o_law;o_head (PySem.W.kHook gV.KK gV.KA (λ _=>by kernel_rfl));(case hw=>w_witness2)
 k_fill
 refine gV.walk (l:=PySem.Challenge.rw_besideseats_k83_fast_ones_stay) rfl rfl (λ w h Y=>PySem.W.kIn_of Y) ?F ?L
 case L=>
  intro w;refine' ZS.Rv (r1:=_) (r2:=_) ?n ?h1 ?h2 ?g1 ?g2 ?ne
  (case n=>kernel_rfl)
  (case h1=>refine' ZS.tV ?a1 ?l1 ?e1 ?tl1 ?tp1;(case a1=>k_is);(case l1=>k_is);(case e1=>exact rfl);(case tl1=>k_is);(case tp1=>exact rfl))
  (case g1=>exact .inr rfl)
  (case h2=>refine' ZS.tV ?a2 ?l2 ?e2 ?tl2 ?tp2;(case a2=>k_is);(case l2=>k_is);(case e2=>exact rfl);(case tl2=>k_is);(case tp2=>exact rfl))
  (case g2=>exact .inr rfl)
  (case ne=>exact λ c P c' P' e1 e2=>by first|(cases e1;done)|(cases e2;done)|(cases e1;cases e2;decide))
 case F=>
  intro w mg fa h KX G _R;refine' gV.all_mk _R ⟨KX,G,?_,?_,?_,?_,?_,?_,?_,?_,?_,?_,?_,?_,?_,?_,?_,?_,?_,?_,?_,?_,?_,?_,?_,?_,?_,?fw27,?_,?_,?_,?_,?_,?fw33,?fw34,?fw35,?_,?_,?fw38,?fw39,?_,?fw41,?fw42,?fw43,?fw44,?fw45,?fw46,?fw47,?fw48,?_,?_,?_,?_,?_,?_,?_,?_,?_,?_,?_,?_,?_,?_,?_,?_,?_,?_,?_,?_,?_,?_,?_,?_,?_,?_,?_,?_,?_,?_,?fw79,?fw80,?fw81,?fw82,?fw83,?fw84,?fw85,?fw86,?fw87,?fw88,?fw89,?fw90,?fw91,?fw92,?fw93,?fw94,?fw95,?fw96,?fw97,?fw98,?fw99,?fw100,?fw101,?fw102,?fw103,?fw104,?fw105,?fw106,?fw107,?fw108,?fw109,?fw110,?fw111,?fw112,?fw113,?fw114,?fw115,?fw116,?fw117,?fw118,?fw119,?fw120,?fw121,?fw122,?fw123,?fw124,?fw125,?fw126,?fw127,?fw128,?fw129,?fw130⟩
  (case fw79|fw80|fw81|fw82|fw83|fw84|fw85|fw86|fw87|fw88|fw89|fw90|fw91|fw92|fw93|fw94|fw95|fw96|fw97|fw98|fw99|fw100|fw101|fw102=>k_is)
  (case fw111=>refine' ⟨?_,?_,?_,?_⟩<;>kernel_rfl)
  (case fw118|fw119=>refine' ⟨?_,?_,?_⟩<;>kernel_rfl)
  (case fw103|fw104|fw105|fw106|fw107|fw108|fw109|fw110|fw112|fw113|fw114|fw115|fw116|fw117|fw120|fw121|fw122|fw123|fw124|fw126|fw127|fw129|fw130=>kernel_rfl)
  (case fw27|fw33|fw35|fw39=>refine' ZS.qr.mk' ?a ?l ?c ?k ?dq;(case a=>k_is);(case l=>k_is);(case c=>k_is);(case k=>k_is);(case dq=>k_is))
  (case fw41|fw42|fw43|fw44|fw45|fw46|fw47|fw48|fw125|fw128=>refine' ZS.gP.mk' ?a ?l ?c ?k ?i;(case a=>k_is);(case l=>k_is);(case c=>k_is);(case k=>k_is);(case i=>k_is))
  (case fw34|fw38=>refine' ZS.vo.mk' ?a ?l ?c ?k ?tl ?tp;(case a=>k_is);(case l=>k_is);(case c=>k_is);(case k=>k_is);(case tl=>k_is);(case tp=>exact rfl))
  all_goals first|k_is|(refine' ZS.cA.mk' ?a ?l ?c ?k;(case a=>k_is);(case l=>k_is);(case c=>k_is);(case k=>k_is))
#print axioms PySem.Challenge.cw_besideseats_k83_fast_ones_stay_holds
