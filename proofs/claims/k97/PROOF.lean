import PyProof.Rows.All
import Wide.All
import OpenK.AllK
import Wide.FinOn
import Lean
import KE.KMinKey
import PyProof.WalkInts
import PyProof.SeqI3
import PyProof.Rows.CallKwBuiltin
import KE.KIsAll
import PyProof.StrBlock
import PyProof.Rows.StrLen
import KE.KIntText
import PyProof.StrLawsFirst
import PyProof.StrLawsIn
import PyProof.InstStoreFacts
import PyProof.DictWalks
import PyProof.EqAt
import PyProof.EqKinds
import PyProof.TupleCall
import KE.KLam
import PySem.Challenge.RW_besideseats_k97_whole_full_with_its_pape
set_option Elab.async false
set_option linter.all false
set_option maxRecDepth 100000
set_option genInjectivity false
set_option genSizeOf false
set_option compiler.extract_closed false
set_option bootstrap.genMatcherCode false
noncomputable section
def zqk(k:Lean.Name)(a:Array Lean.Syntax):=Lean.Syntax.node .none (`Lean.Parser.Tactic++k) a
def zqq:=Lean.Syntax.node .none `null
local macro_rules(kind:=Lean.Parser.Command.omit)|s=>do let t<-`(command|def x:=());return zqq<|(s[1].getArgs.map (·.getId.toString)).map λ s=>t.raw.setArg 1<|t.raw[1].setArg 1<|t.raw[1][1].setArg 0<|Lean.mkIdent<|.mkSimple s!"tw{(`PySem.Challenge.cw_besideseats_k97_whole_full_with_its_pape_holds++.mkSimple s).hash}"
set_option maxHeartbeats 0
local macro_rules|`(∅)=>`(by first|decide|lia|simp)
def zqz x:=zqk `rcasesPatLo #[zqk `rcasesPatMed #[zqq #[x]],zqq #[]]
local macro_rules(kind:=Lean.Parser.Tactic.tacticLet__)|s=>let d:=s[2][0];return if d.isOfKind ``Lean.Parser.Term.letPatDecl then zqk `obtain #[.atom .none "obtain",zqq #[(d[0].rewriteBottomUp λ x=>if x.isIdent then zqz<|zqk `rcasesPat.one #[x]else if x.isOfKind ``Lean.Parser.Term.hole then zqz<|zqk `rcasesPat.ignore x.getArgs else if x.isOfKind ``Lean.Parser.Term.tuple then zqz<|zqk `rcasesPat.tuple #[.atom .none "⟨",zqq<|#[x[1][0],x[1][1]]++x[1][2].getArgs,.atom .none "⟩"]else if x.isOfKind ``Lean.Parser.Term.anonymousCtor then zqz<|zqk `rcasesPat.tuple x.getArgs else x)[0]],zqq #[],zqq #[.atom .none ":=",zqq #[d[4]]]]else zqk `tacticHave__<|s.getArgs.set! 0<|.atom .none "have"
local macro_rules(kind:=Lean.Parser.Term.tuple)|s=>let a:=s[1][2].getArgs;if a.size%2==0&&0<a.size then return .node .none ``Lean.Parser.Term.anonymousCtor #[.atom .none "⟨",zqq<|#[s[1][0],s[1][1]]++a,.atom .none "⟩"]else Lean.Macro.throwUnsupported
local macro_rules(kind:=Lean.Elab.Tactic.Ext.ext)|s=>return zqq<|s[1].getArgs.map λ x=>zqk `cases #[.atom .none "cases",zqq #[zqk `elimTarget #[zqq #[],x[0][0]]],zqq #[],zqq #[]]
local macro_rules(kind:=Lean.Parser.Tactic.show)|s=>return zqk `refine s.getArgs
local macro_rules(kind:=Lean.Parser.Tactic.tacticErw___)|s=>return zqk `simp #[.atom .none "simp",s[1],zqq #[],zqq #[.atom .none "only"],zqq #[s[2][0],zqq<|s[2][1].getArgs.map λ r=>if r.isAtom then r else zqk `simpLemma #[zqq #[],r[0],r[1]],s[2][2]],s[3]]
local macro_rules(kind:=Lean.calcTactic)|s=>`(tactic|simpa using $(⟨s[1][0][0]⟩))
local macro_rules(kind:=ident)|s=>do
 if s.getId.hasMacroScopes||s.getId.getNumParts<2 then Lean.Macro.throwUnsupported
 let n:=s.getId.components.foldl (λ n c=>if n.isAnonymous then c else n++match("n: length t: heap.objs.size e: heap q: toArray J: env Z: objs.size v: toNat u: size y: toList x: isList i: locals j: names k: base a: symm".splitOn " ").dropWhile (!·==s!"{c}:")with|_::x::_=>x.toName|_=>c) .anonymous
 if n==s.getId then Lean.Macro.throwUnsupported
 return Lean.mkIdentFrom s n
def hd:Nat->Lean.Syntax->Lean.Name
|n+1,s=>if s.isOfKind ``Lean.Parser.Term.app then hd n s[0]else if s.isOfKind ``Lean.Parser.Term.arrow||s.isOfKind ``Lean.Parser.Term.depArrow then hd n s[2]else if s.isOfKind ``Lean.Parser.Term.prop then `D else s.getId
|_,_=>`D
local macro_rules(kind:=Lean.Parser.Command.declaration)|s=>do
 let d:=s[1];let n:=d[1][0].getId
 if [`ZQ,`ZS,`Z,`L2].contains n.getRoot&&n.getNumParts>1 then return s.setArg 1<|d.setArg 1<|d[1].setArg 0<|Lean.mkIdentFrom d[1][0]<|`_root_.Lake++n
 if d.isOfKind ``Lean.Parser.Command.definition&&s[0][4].getNumArgs==0 then
  let t:=d[2][1]
  if t.getNumArgs>0&&!("Arguments Bool Builtin Cx D Da DictEntry Env HO Hp Int It Key L Nat Pl PySem.KeyKind R2 Res SF SM Sp St Str String TA TE TG TI TO TS TT U! U0 U6 V XF cK α β U ε η μ ν ς".splitOn " ").contains (hd 99 t[0][1]).toString then return s.setArg 1<|.node .none ``Lean.Parser.Command.theorem #[.atom .none "theorem ",d[1],.node .none ``Lean.Parser.Command.declSig #[d[2][0],t[0]],d[3]]
  return s.setArg 0<|s[0].setArg 4<|Lean.mkNullNode #[.node .none ``Lean.Parser.Command.noncomputable #[.atom .none "noncomputable "]]
 Lean.Macro.throwUnsupported
open Option renaming some→AC,none→At,getD_none→AB2
open Bool renaming false→AT,true→Ch,not_eq_true'→wP,and_assoc→AC5,and_true→AC9
open PySem.W renaming Frag→Da,nsIn→FB,Frag→FM,keepIn→FS,findIn→Fk,fnOf→No,tabIn→Op,emptyDict→Os,codeIn→PP,instObj→SL,plainGet→Tl,lookIn→Wp,hasDictIn→ZB,makesIn→bn,takerIn→bv,hideAll_none→gt,looks_findIn→ii,tabObj→im,findObj_own→nw,looks_clsIn→pc,isFn→AA1,plainOver→AA2,set_plain→AA3,handedIn→AB3,OpenLaw→AC4,CodeHd→AC8
open List renaming replicate→Db,range→EQ,lookup→Fa,zipWith→al,length_eraseIdx→dL,getElem?_range→lm,getElem_of_mem→lv,map_inj_right→rc,set_cons_succ→sB,filter_congr→xz,flatMap_cons→zn,getElem_take→AA0,filter_cons→AA9,zipIdx_cons→AB0,countP_map→AB7,filter_map→AB8,foldl_cons→AB9,length_set→AC0,take_left'→AC1,zipIdx_nil→AC2,foldl→AC6,forIn_nil→AC7
open PySem.Str renaming ofString→Do
open PySem renaming wpAny→Ev,Within→AA4
open Sum renaming inr→GE,inl→bi
open ForInStep renaming yield→GM
open PySem.Builtin.SmallTypes renaming nextOf→GT,ownedTupleIsFree→Go,ownedTupleHandOut→Re
open False renaming elim→Gc
open PySem.Heap renaming SameBut→IN,ExtBut→ci,MadeExcOf→cr,get?_update_ne→li,IsTuple→wv
open True renaming intro→IR
open PySem.Builtin.Builtins renaming bindParams→Ix
open PySem.Builtin.Slice renaming slicePlaces→KF,sliceAdjust→Ps,sliceApplied→WF
open PySem.Builtin.Tuple renaming tupleExact→NE,tupleItemsOf→WP
open PySem.StrLaws renaming occBody→On
open PySem.SeqAt renaming EqAt→Pi,RcNeAt→TW,RcAt→XV
open PySem.Builtin.List renaming listTooLong→Rs
open PySem.Obj renaming mapFields→SB
open PySem.Value renaming none→SZ,builtin→AD1,isStrOf→AD2
open PySem.Builtin.Str renaming occurrences→Sc,subAt→TD
open PySem.W.WData renaming weightAll→UF,weight→Uf
open Array renaming toList→UV,toList_append→io
open Or renaming inr→sK,inl→AD5
namespace Lake
abbrev U:=@List
abbrev δ:=@PySem.Addr
abbrev ε:=@Option
abbrev ζ:=@PySem.Value
abbrev η:=@PySem.Stmt
abbrev θ:=@PySem.Shared
abbrev ι:=@PySem.Expr
abbrev μ:=@PySem.Obj
abbrev ν:=@PySem.Heap
abbrev ξ:=@PySem.World
abbrev ο:=@PySem.Program
abbrev π:=@PySem.Keyword
abbrev ς:=@PySem.Scope
abbrev τ:=@PySem.Around
abbrev υ:=@PySem.FuncData
def T0:=@PySem.wpAny_bind
def W1:=@if_neg
def M2:=@if_pos
def P3:=@Nat.le_refl
def v4:=@PySem.wpAny_pure
def f8:=@Option.some.inj
def A00:=@List.map_cons
def A01:=@List.mem_cons
def A02:=@List.getElem?_eq_some_iff
def A03:=@PySem.Heap.get?_push_of_some
def A04:=@List.getElem?_eq_getElem
def A05:=@PySem.Heap.lt_size
def A06:=@List.getElem?_map
def A07:=@List.mem_map
def A08:=@List.length_map
def A09:=@List.mem_cons_of_mem
def A10:=@Ne.symm
def A11:=@List.mem_singleton
def A12:=@List.size_toArray
def A13:=@List.mem_cons_self
def A14:=@congrArg
def A15:=@Nat.le_trans
def A16:=@Nat.ne_of_lt
def A17:=@PySem.Heap.get?_push_size
def A18:=@Nat.lt_of_lt_of_le
def A19:=@List.nodup_cons
def A20:=@List.getElem?_set_ne
def A21:=@List.mem_of_getElem?
def A22:=@PySem.wpAny_mono
def A23:=@List.getElem?_append_left
def A24:=@List.map_map
def A25:=@List.mem_range
def A26:=@List.map_append
def A27:=@Nat.succ.inj
def A28:=@List.map_nil
def A29:=@List.length_cons
def A30:=@List.all_eq_true
def A31:=@PySem.W.mg_of
def A32:=@PySem.sizeLine_eq
def A33:=@List.length_take
def A34:=@Bool.and_eq_true
def A35:=@if_true
def A36:=@List.getElem?_set
def A37:=@List.mem_append
def A38:=@List.length_append
def A39:=@List.getElem?_set_self
def A40:=@PySem.wpAny_field
def A41:=@beq_iff_eq
def A42:=@List.not_mem_nil
def A43:=@decide_eq_false
def A44:=@List.mem_filter
def A45:=@List.mem_append_right
def A46:=@List.getElem?_append_right
def A47:=@or_false
def A48:=@Nat.ne_of_gt
def A49:=@PySem.wpAny_holding
def A50:=@List.length_filter_le
def A51:=@beq_eq_false_iff_ne
def A52:=@List.append_nil
def A53:=@List.getElem?_replicate
def A54:=@decide_eq_true
def A55:=@PySem.W.mg_none_of
def A56:=@PySem.Heap.size_push
def A57:=@Nat.zero_le
def A58:=@Nat.le_succ
def A59:=@Bool.eq_iff_iff
def A60:=@beq_self_eq_true
def A61:=@Bool.false_eq_true
def A62:=@List.lookup_cons
def A63:=@PySem.wpAny_seqItems
def A64:=@Nat.mul_le_mul
def A65:=@Nat.lt_succ_self
def A66:=@PySem.wpAny_truthy_bool
def A67:=@if_false
def A68:=@Option.map_some
def A69:=@Int.toNat_natCast
def A70:=@List.mem_append_left
def A71:=@PySem.mem_of_lookup
def A72:=@PySem.call_meets
def A73:=@PySem.Obj.data_mapFields
def A74:=@Nat.min_eq_left
def A75:=@Bool.false_ne_true
def A76:=@PySem.wpAny_newObj_type
def A77:=@List.append_assoc
def A78:=@not_or
def A79:=@Sum.inr.inj
def A80:=@Nat.le_of_lt
def A81:=@List.length_replicate
def A82:=@LawfulBEq.eq_of_beq
def A83:=@List.replicate_succ
def A84:=@PySem.Heap.get?_update_other
def A85:=@List.range_succ
def A86:=@Nat.not_lt
def A87:=@List.getElem?_of_mem
def A88:=@Nat.mul_le_mul_right
def A89:=@Nat.lt_irrefl
def A90:=@PySem.wpAny_passesOwn
def A91:=@PySem.wpAny_call
def A92:=@PySem.codeAny_mono
def A93:=@PySem.wpAny_Call_Name_kw
def A94:=@Option.isSome_iff_exists
def A95:=@Nat.add_comm
def A96:=@dif_pos
def A97:=@List.eq_nil_of_length_eq_zero
def A98:=@PySem.W.kia_one
def A99:=@List.drop_eq_getElem_cons
def B00:=@List.cons.injEq
def B01:=@PySem.wpAny_letGo
def B02:=@Option.some.injEq
def B03:=@PySem.wpAny_tryCatch
def B04:=@PySem.wpAny_loadPart_at
def B05:=@List.filter_eq_self
def B06:=@List.mem_flatMap
def B07:=@List.filter_cons_of_neg
def B08:=@PySem.wpAny_callSpecial?_slot
def B09:=@PyProof.Rows.slot_tuple_getitem
def B10:=@PySem.wpAny_call_entry
def B11:=@List.any_cons
def B12:=@List.length_range
def B13:=@List.map_congr_left
def B14:=@PySem.wpAny_pyIter_tuple
def B15:=@PySem.wpAny_pyIter_list
def B16:=@List.getElem?_eq_none
def B17:=@of_decide_eq_true
def B18:=@PySem.Heap.get?_update_self
def B19:=@Nat.zero_add
def B20:=@List.nodup_nil
def B21:=@PySem.wpAny_setField_rec
def B22:=@List.exists_cons_of_length_eq_add_one
def B23:=@Int.ofNat.inj
def B24:=@List.filter_append
def B25:=@List.map_set
def B26:=@Nat.one_mul
def B27:=@PySem.Paired.length
def B28:=@PySem.wpAny_execs_nil
def B29:=@PySem.W.callWith_K
def B30:=@PyProof.Rows.callWith_type1
def B31:=@PySem.typeIs_int
def B32:=@List.flatten_cons
def B33:=@Nat.succ_mul
def B34:=@List.nil_append
def B35:=@Option.map_eq_some_iff
def B36:=@PySem.wpAny_rule
def B37:=@List.lookup_cons_self
def B38:=@List.forIn_cons
def B39:=@PySem.wpAny_standAt
def B40:=@PySem.F.plainAttrs_list
def B41:=@List.countP_cons
def B42:=@List.take_length
def B43:=@and_true
def B44:=@not_false_eq_true
def B45:=@List.take_of_length_le
def B46:=@decide_eq_true_eq
def B47:=@PySem.F.slot_tuple_mul
def B48:=@PySem.wpAny_ite_false
def B49:=@Array.getElem?_eq_some_iff
def B50:=@Bool.and_eq_true_iff
def B51:=@List.filter_cons_of_pos
def B52:=@List.nodup_append
def B53:=@List.pairwise_map
def B54:=@List.ext_getElem?
def B55:=@List.mem_of_mem_eraseIdx
def B56:=@PySem.Heap.get?_none_of_le
def B57:=@Array.length_toList
def B58:=@Int.mul_one
def B59:=@PySem.concat_meets
def B60:=@List.length_drop
def B62:=@PySem.Calls.callWith_builtin
def B63:=@PySem.F.slot_int_rmul
def B64:=@PySem.tupleKind_room_in1
def B65:=@List.getElem_mem
def B66:=@Bool.true_and
def B67:=@PySem.PassesOwn.never
def B68:=@List.drop_length
def B69:=@List.all_map
def B71:=@List.take_add_one
def B72:=@PySem.F.slot_tuple_iterator_next
def B73:=@PySem.wpAny_setField
def B74:=@PySem.Obj.isFreed_of_fields
def B75:=@PySem.wpAny_pyIter_enum
def B76:=@PySem.wpAny_onRaise
def B77:=@PySem.F.slot_zip_next
def B78:=@List.drop_eq_nil_of_le
def B79:=@PySem.plainId_quiet
def B80:=@gt
def B81:=@Bool.or_true
def B82:=@ii
def B83:=@Int.emod_lt_of_pos
def B84:=@Int.emod_nonneg
def B85:=@Nat.add_mul
def B86:=@List.isEmpty_iff
def B87:=@List.filterMap_cons
def B88:=@PySem.Calls.Name_function_global
def B89:=@List.mem_filterMap
def B90:=@PySem.W.plainGet_of
def B91:=@PySem.wpAny_loadPart
def B92:=@Nat.le_of_eq
def B93:=@PySem.Calls.spliced_nil
def B94:=@PySem.Calls.spliced_cons
def B95:=@PySem.W.methodCall_KW
def B96:=@List.of_mem_zip
def B97:=@PySem.wpAny_loadPart'
def B98:=@PySem.noFill_tuple_add
def C00:=@PySem.F.slot_tuple_add
def C01:=@PySem.F.entry_tuple_add
def C02:=@PySem.F.args_tuple_add_2
def C04:=@PySem.wpAny_Call_method_late
def C05:=@PySem.Calls.evalArgs_plain
def C06:=@List.eraseIdx_cons_succ
def C07:=@Bool.and_false
def C08:=@List.length_nil
def C09:=@Option.isSome_map
def C10:=@List.getElem_range
def C11:=@List.mem_of_mem_take
def C12:=@Nat.lt_succ_of_lt
def C13:=@Nat.le_succ_of_le
def C14:=@PySem.SeqAt.EqAt.same
def C15:=@List.all_cons
def C16:=@List.cons_append
def C17:=@PySem.Obj.cls_mapFields
def C18:=@PySem.AutoSeq1.wpAny_loadPart'
def C20:=@Nat.succ_ne_self
def C21:=@PySem.wpAny_updateSeq_pair
def C22:=@PySem.wpAny_pyIter_zip
def C24:=@Option.bind_some
def C25:=@PySem.F.entry_tuple_mul
def C26:=@PySem.F.args_tuple_mul_2
def C27:=@PySem.codeAny_builtin
def C28:=@PySem.Around.under_plainId
def C29:=@PySem.wpAny_updateSeq
def C30:=@List.contains_cons
def C31:=@PySem.wpAny_isSubtype_exc
def C32:=@Prod.mk.injEq
def C33:=@List.mem_map_of_mem
def C34:=@Nat.add_assoc
def C35:=@List.pairwise_iff_getElem
def C36:=@List.pairwise_append
def C37:=@List.pairwise_lt_range
def C38:=@List.map_take
def C39:=@List.pairwise_cons
def C40:=@Nat.add_sub_cancel_left
def C41:=@List.map_drop
def C42:=@List.getElem?_drop
def C43:=@List.ext_getElem
def C44:=@List.getElem_set
def C45:=@Nat.le_mul_of_pos_right
def C46:=@Nat.not_lt_zero
def C47:=@Nat.succ_pos
def C48:=@List.mem_or_eq_of_mem_set
def C49:=@List.filter_eq_nil_iff
def C54:=@PySem.plainObj_wpAny_Assign_Attribute
def C55:=@PySem.W.cellsFrom_some
def C56:=@List.getElem?_take_of_lt
def C57:=@List.length_singleton
def C58:=@PySem.wpAny_binaryOp_repeat_ref
def C59:=@PySem.F.slot_dict_pop
def C60:=@List.cons_lt_cons_iff
def C61:=@List.set_eq_of_length_le
def C62:=@List.range_succ_eq_map
def C63:=@PySem.F.slot_list_append
def C64:=@PySem.F.type_list_append
def C65:=@PySem.F.entry_tuple_iterator_next
def C66:=@PySem.F.args_tuple_iterator_next_1
def C67:=@List.getElem?_cons_succ
def C68:=@PySem.F.plainAttrs_str
def C69:=@List.getElem?_cons_zero
def C70:=@PySem.F.excBase_ValueError
def C71:=@PySem.F.plainAttrs_dict
def C72:=@PySem.F.slot_dict_get
def C73:=@List.eq_of_mem_replicate
def C74:=@List.set_eq_take_append_cons_drop
def C75:=@List.take_append_drop
def C76:=@List.set_getElem_self
def C77:=@List.pairwise_flatMap
def C78:=@List.Pairwise.imp_of_mem
def C79:=@List.countP_le_length
def C80:=@List.dropLast_concat_getLast
def C81:=@List.pairwise_singleton
section S0
open PySem PySem.Spec PyProof.Rows
namespace L2
abbrev Se(a:ι)(es:U ι)(E:PySem.Env):Prop:=starEach (a::es) E=(AT,eval a E)::starEach es E
abbrev Nd(x:Str):Prop:=(x==("__debug__":Str))=AT
abbrev Pn(p:Pos)(es:U ι)(E:PySem.Env):Prop:=(backTo p<|starEach es E).any (·.1)=AT
end L2
open L2 (Se Nd Pn)
namespace L2
abbrev Mt(o:ι)(m:Str)(apos:Pos)(es:U ι)(pos:Pos)(pl:Sem Bool)(E:PySem.Env):Prop:=eval (.Call (.Attribute o m apos) es [] pos) E=(do
 let ov ←eval o E
 standAt apos.atName
 let (f,first) ←holding [ov] (getMethod ov m pl)
 callWith pos f first (backTo pos<|starEach es E) (backToKw pos<|keywordEach [] E))
abbrev Fi(i:ι)(E:PySem.Env):Prop:=∀x,foldedSetIterable i E x=pure x
abbrev Sw(e t i:ι)(f:U ι)(s:PySem.Scope)(p:Pos)(x:Str)(q r:Pos)(E:PySem.Env):Prop:=swapsWith (.ListComp e [⟨t,i,f,0⟩] s p) (AC<|.Name x q) r.line E=pure Ch
abbrev Bk(p:Pos)(a:ι)(E:PySem.Env):Prop:=backTo p (starEach (a::[]) E)=(AT,eval a E)::backTo p (starEach [] E)
abbrev Sn(a:ι)(x:Str)(q p:Pos)(E:PySem.Env):Prop:=swapsWith a (AC<|.Name x q) p.line E=pure AT
end L2
open L2 (Mt Fi Sw Bk Sn)
namespace L2
abbrev Key:=Sum Int Str
def vR:Key->ζ->Bool
|.inl k,v=>Value.isInt k v
|.inr x,v=>AD2 x v
def abc(w:ξ):Key->Int
|.inl k=>hashInt k
|.inr x=>hashStr w x
def cN:∀{k}{v},vR k v=Ch->(∃i t,k=bi i/\v=Value.int i t)\/(∃x t,k=GE x/\v=Value.str x t)
|.inl i,v,h=>by let(t,e):=Value.isInt_shape h;show .inl ⟨i,t,rfl,e⟩
|.inr x,v,h=>by let(t,e):=Value.isStrOf_shape h;show .inr ⟨x,t,rfl,e⟩
def Gh(i:Int)(t:Tok):vR (.inl i) (.int i t)=Ch:=by simp[vR,Value.isInt]
def Gg(x:Str)(t:Tok):vR (.inr x) (.str x t)=Ch:=by simp[vR,AD2]
def Ta(a b:Int):decide ((bi a:Key)=bi b)=(a==b):=by
 by_cases e:a=b
 .subst e;simp
 .let h:¬(bi a:Key)=bi b:=λ q=>e<|Sum.inl.inj q;rw[A43 h];show(A51.mpr e).symm
def S!(a b:Str):decide ((GE a:Key)=GE b)=decide (a=b):=by
 by_cases e:a=b
 .subst e;simp
 .let h:¬(GE a:Key)=GE b:=λ q=>e<|A79 q;rw[A43 h,A43 e]
def S_(a:Int)(b:Str):decide ((bi a)=GE b)=AT:=A43 λ q=>nomatch q
def S?(a:Str)(b:Int):decide ((GE a)=bi b)=AT:=A43 λ q=>nomatch q
def dO(prog:ο)(w:ξ):PySem.KeyKind prog w Key where
 is:=vR
 hash:=abc w
 inj:=λ v a b ha hb=>by
  rcases cN ha with⟨i,t,rfl,rfl⟩|⟨x,t,rfl,rfl⟩
  .rcases cN hb with⟨j,u,rfl,e⟩|⟨y,u,rfl,e⟩
   .injection e with e1 _;rw[e1]
   .exact nomatch e
  .rcases cN hb with⟨j,u,rfl,e⟩|⟨y,u,rfl,e⟩
   .exact nomatch e
   .injection e with e1 _;rw[e1]
 byValue:=λ k v h=>by rcases cN h with⟨i,t,rfl,rfl⟩|⟨x,t,rfl,rfl⟩<;>rfl
 pyHash:=λ hv h=>by
  rcases cN hv with⟨i,t,rfl,rfl⟩|⟨x,t,rfl,rfl⟩
  .exact wpAny_pyHash_int h
  .exact wpAny_pyHash_str h
 eqBool:=λ hu hv h=>by
  rcases cN hu with⟨i,t,rfl,rfl⟩|⟨x,t,rfl,rfl⟩
  .rcases cN hv with⟨j,u,rfl,rfl⟩|⟨y,u,rfl,rfl⟩
   .rw[Ta]at h;show wpAny_eqBool_int h
   .rw[S_]at h;show SeqAt.EqAt.int_str i t y u _ _ _ _ h
  .rcases cN hv with⟨j,u,rfl,rfl⟩|⟨y,u,rfl,rfl⟩
   .rw[S?]at h;show SeqAt.EqAt.str_int x t j u _ _ _ _ h
   .rw[S!]at h;show wpAny_eqBool_str h
 «strs»:=λ k x t v h=>by
  rcases cN h with⟨i,u,rfl,e⟩|⟨y,u,rfl,e⟩
  .exact nomatch e
  .injection e with e1 _
   subst e1;ext v<;>rfl
def zU(prog:ο)(w:ξ)(i:Int)(t:Tok):(dO prog w).is (.inl i) (.int i t)=Ch:=Gh i t
def zT(prog:ο)(w:ξ)(x:Str)(t:Tok):(dO prog w).is (.inr x) (.str x t)=Ch:=Gg x t
inductive V where
|non|bl (b:Bool)|int (i:Int)|str (x:Str)|VG (b:Array UInt8)|_H (b:UInt64)|ref (a:Addr)|ty (n:String)
deriving DecidableEq
def RelV:V->ζ->Prop
|.non,u=>u=SZ
|.bl b,u=>u=Value.bool b
|.int i,u=>∃t,u=Value.int i t
|.str x,u=>∃t,u=Value.str x t
|.VG b,u=>∃t,u=Value.bytes b t
|._H b,u=>∃t,u=Value.float b t
|.ref a,u=>u=Value.ref a
|.ty n,u=>u=Value.type n
abbrev Vals:U V->U ζ->Prop:=Paired RelV
def Vals.length(r:Vals xs us):xs.n=us.n:=B27 r
def Vals.get:∀{xs}{us}{i:Nat}{x},Vals xs us->xs[i]?=AC x->∃u,us[i]?=AC u/\RelV x u
|_,_,_,_,.nil,e=>by simp at e
|_,_,0,_,.cons r _,e=>by simp at e;subst e;show(_,rfl,r,)
|_,_,i+1,x,.cons _ t,e=>by let(u,h1,h2):=Vals.get (i:=i) (x:=x) t (by calc e);show⟨u,by calc h1,h2⟩
def Vals.append:∀{xs ys}{us ws},Vals xs us->Vals ys ws->Vals (xs++ys) (us++ws)
|_,_,_,_,.nil,s=>s
|_,_,_,_,.cons r t,s=>.cons r<|Vals.append t s
def Vals.take:∀{xs}{us} n,Vals xs us->Vals (xs.take n) (us.take n)
|_,_,0,_=>.nil
|_,_,_+1,.nil=>.nil
|_,_,n+1,.cons r t=>.cons r<|Vals.take n t
def Vals.drop:∀{xs}{us} n,Vals xs us->Vals (xs.drop n) (us.drop n)
|_,_,0,r=>r
|_,_,_+1,.nil=>.nil
|_,_,n+1,.cons _ t=>Vals.drop n t
def jo:ε V->ε ζ->Prop
|some v,AC u=>RelV v u
|none,At=>True
|_,_=>False
def KV{κ:Type}:U (κ×V)->U (κ×ζ)->Prop:=Paired λ(p:κ×V)(q:κ×ζ)=>p.1=q.1/\RelV p.2 q.2
def kV:Key->V
|.inl i=>.int i
|.inr x=>.str x
inductive HO where
|lst (xs:List V)
|tup (xs:List V)
|dK (aQ:List (Key×V))|dT (aQ:List (List Key×V))
|set (S:Int->Bool) (n:Nat)
|ins (C dx:Addr) (fs:List (Str×V))
|own (x:Addr)
|xd (fs:List (Str×V))
|met (f x:Addr)
|ZW (lo hi:Int)
|dW (o:Obj) (u:HO)
|HN (q:Str)
|L6 (q:Str)
 |ext (φ:Heap->Prop)
abbrev Hp:=δ->ε HO
def VI:HO->Prop
|.HN _=>True
|.L6 _=>True
|_=>False
def upd(H:Hp)(a:δ)(o:HO):Hp:=λ b=>if b=a then AC o else H b
def aE:upd H a o a=AC o:=by unfold upd;rw[M2 rfl]
def av(h:b≠a):upd H a o b=H b:=by unfold upd;rw[W1 h]
def Qp{H:Hp}(h:H a=AC o)(h':H b=AC u)(d:o≠u):a≠b:=by intro e;subst e;rw[h]at h';show d<|f8 h'
def aY{H:Hp}(h:H a=AC o)(h':H b=At):a≠b:=by intro e;subst e;rw[h]at h';ext h'
section
variable(P:ο)(w:ξ)
def pj(h:ν)(a:δ)(xs:Array ζ):Prop:=∃n,h.get? a=AC {cls:=.type "tuple",data:=.seq xs n}
def pj.is(p:pj h a xs):IsTup h a xs:=by let(n,e):=p;show(_,e,rfl,n,rfl,)
def pj.new(h:ν)(xs:Array ζ):pj (h.push {cls:=.type "tuple",data:=.seq xs}) h.objs.size xs:=(_,A17 _ rfl,)
def d_(H:Hp)(h:ν)(a:δ):HO->Prop
|.lst xs=>xs.n<=sizeLine/\∃(a8:U ζ)(n:Nat),Vals xs a8/\h.get? a=AC {cls:=.type "list",data:=.seq a8.toArray n}
|.tup xs=>xs.n<=sizeLine/\∃a8:U ζ,Vals xs a8/\pj h a a8.q
|.dK aQ=>aQ.n<=sizeLine/\(a==sysModules)=AT/\∃vs,KV aQ vs/\h.DictOf (dO P w) a vs
|.dT aQ=>aQ.n<=sizeLine/\(a==sysModules)=AT/\∃xs:U (U Key×δ×ζ),
 Paired (λ(p:U Key×V)(q:U Key×δ×ζ)=>p.1=q.1/\H q.2.1=AC (.tup<|p.1.map kV)/\RelV p.2 q.2.2) aQ xs /\
 ∃o es ep,h.get? a=AC o/\o.ExactDict/\o.data=.dict es ep/\es.y=xs.map (entryOfKey<|tupleKind<|dO P w)/\(xs.map (·.1)).Nodup
|.set S n=>h.SetOf (intKind P w) a S n
|.ins C dx fs=>H dx=AC (.own a)/\fs.n<=1000/\dx≠a/\h.get? a=AC (SL C dx) /\
 ∃mA,h.Ns1 dx mA/\(∀f,jo (fs.lookup f) (mA f))/\AA4 mA (fs.map (·.1))
|.own _=>∃o,h.get? a=AC o
|.xd fs=>∃mA,h.Ns1 a mA/\∀f,jo (fs.lookup f) (mA f)
|.ZW lo hi=>∃t u v,h.get? a=AC {cls:=.type "range",data:=.fields #[.int lo t,.int hi u,.int 1 v]}
|.dW o u=>h.get? a=AC o/\d_ H h a u
|.HN q=>∃ps:Array ζ,h.get? a=AC {cls:=.none,data:=.fields ps}/\TriplesOk ps.y/\∀pos cv,codeAmong pos ps.y=AC cv->∃c,cv=.ref c/\H c=AC (.L6 q)
|.L6 q=>h.CodeRec (.ref a) q
|.met f x=>h.get? a=AC (PySem.W.methodObj (.ref f)<|.ref x)
|.ext φ=>φ h/\(∃o,h.get? a=AC o)/\∀h1 h2:ν,φ h1->(∀o,h1.get? a=AC o->h2.get? a=AC o)->φ h2
def kK(H:Hp)(h:ν):Prop:=∀a o,H a=AC o->d_ P w H h a o
end
def d_.lt(x:d_ P w H h a o):a<h.Z:=by
 cases o with
 |lst xs=>let(_,_,_,_,e):=x;show A05 e
 |tup xs=>let(_,_,_,p):=x;show p.is.lt
 |dK aQ=>let(_,_,_,_,o,_,_,e,_):=x;show A05 e
 |dT aQ=>let(_,_,_,_,o,_,_,e,_):=x;show A05 e
 |set S n=>let(o,_,_,_,e,_):=x;show A05 e
 |ins C dx fs=>let(_,_,_,e,_):=x;show A05 e
 |own y=>let(_,e):=x;show A05 e
 |xd fs=>let(_,(_,_,_,e,_),_):=x;show A05 e
 |ZW lo hi=>let(_,_,_,e):=x;show A05 e
 |dW ob u=>let(e,_):=x;show A05 e
 |HN q=>let(_,e,_):=x;show A05 e
 |L6 q=>let(_,_,_,_,e1,e2,_):=x;ext e1;show A05 e2
 |met f y=>show A05<|x
 |ext φ=>let(_,(_,e),_):=x;show A05 e
def Paired.F?:∀{l₁}{l₂},Paired F l₁ l₂->(∀a b,F a b->G a b)->Paired G l₁ l₂
|_,_,.nil,_=>.nil
|_,_,.cons r t,f=>.cons (f _ _ r)<|Paired.F? t f
def d_.n?(x:d_ P w H h a o)(k:∀b u,(b=a\/H b=AC (.own a))->h.get? b=AC u->h'.get? b=AC u)
 (ho:∀b,H b=AC (.own a)->H' b=AC (.own a)) (ht:∀b xs,H b=AC (.tup xs)->H' b=AC (.tup xs)) (hp:∀b u,VI u->H b=AC u->H' b=AC u):d_ P w H' h' a o:=by
 induction o with
 |lst xs=>let(z,a8,n,r,e):=x;show(z,a8,n,r,k _ _ (.inl rfl) e,)
 |tup xs=>let(z,a8,r,ob,e):=x;show(z,a8,r,ob,k _ _ (.inl rfl) e,)
 |dK aQ=>let(z,y,vs,r,ob,es,ep,e,c):=x;show(z,y,vs,r,ob,es,ep,k _ _ (.inl rfl) e,c,)
 |dT aQ=>let(z,y,xs,r,ob,es,ep,e,c):=x;show(z,y,xs,Paired.F? r λ p q z=>(z.1,ht _ _ z.2.1,z.2.2,),ob,es,ep,k _ _ (.inl rfl) e,c,)
 |set S n=>let(ob,es,ep,t,e,c):=x;show(ob,es,ep,t,k _ _ (.inl rfl) e,c,)
 |ins C dx fs=>let(d,z,ne,e,mA,(od,es,ep,e2,c),r):=x;show(ho _ d,z,ne,k _ _ (.inl rfl) e,mA,(od,es,ep,k _ _ (.inr d) e2,c,),r,)
 |own y=>let(ob,e):=x;show(ob,k _ _ (.inl rfl) e,)
 |xd fs=>let(mA,(od,es,ep,e,c),r):=x;show(mA,(od,es,ep,k _ _ (.inl rfl) e,c,),r,)
 |ZW lo hi=>let(t,u,v,e):=x;show(t,u,v,k _ _ (.inl rfl) e,)
 |dW ob u ih=>let(e,q):=x;show(k _ _ (.inl rfl) e,ih q,)
 |HN q=>let(ps,e,t,g):=x;show(ps,k a _ (.inl rfl) e,t,λ pos cv r=>let ⟨c,e1,e2⟩:=g pos cv r;⟨c,e1,hp c _ trivial e2⟩,)
 |L6 q=>let(c,oc,vs,t,e1,e2,r):=x;ext e1;show(a,oc,vs,t,rfl,k a _ (.inl rfl) e2,r,)
 |met f y=>let e:=x;show k a _ (.inl rfl) e
 |ext φ=>let(p,(o,e),st):=x;show(st _ _ p λ o q=>k _ _ (.inl rfl) q,(o,k _ _ (.inl rfl) e,),st,)
def kK.lt(x:kK P w H h)(e:H a=AC o):a<h.Z:=(x a o e).lt
def kK.fresh(x:kK P w H h)(e:h.Z<=a):H a=At:=by
 cases q:H a with
 |none=>rfl
 |some u=>show absurd (A18 (x.lt q) e)<|A89 _
def kK.kept(x:kK P w H h)(k:∀b u,h.get? b=AC u->h'.get? b=AC u):kK P w H h':=λ a o e=>(x a o e).n? (λ b u _ q=>k b u q) (λ _ q=>q) (λ _ _ q=>q) λ _ _ _ q=>q
def kK.laid(x:kK P w H h)(k:∀b u,h.get? b=AC u->h'.get? b=AC u)(hp:h.Z<=a)(new:d_ P w (upd H a o) h' a o):kK P w (upd H a o) h':=λ b u e=>by
 let hn:=x.fresh hp;by_cases hb:b=a
 .subst hb;rw[aE]at e;ext e;show new
 .rw[av hb]at e;show(x b u e).n? (λ c v _ q=>k c v q) (λ c q=>by rw[av<|aY q hn];show q) (λ c xs q=>by rw[av<|aY q hn];show q) λ c v _ q=>by rw[av<|aY q hn];show q
def Rd(H:Hp)(a:δ)(u:HO):Prop:=H a=AC u\/∃o,H a=AC (.dW o u)
def Rd.ok(r:Rd H a u)(x:kK P w H h):d_ P w H h a u:=by
 rcases r with r|⟨o,r⟩
 .exact x a u r
 .let(_,q):=x a _ r;show q
def Zs:ε HO->Prop
|some<|.lst _=>True
|some<|.dK _=>True
|some<|.dT _=>True
|some<|.set _ _=>True
|some<|.ins _ _ _=>True
|some<|.ext _=>True
|_=>False
def kK.write(ok:kK P w H h)(mu:Zs (H x))(he:e=x\/H e=AC (.own x))(k:∀ b u,b≠e->h.get? b=AC u->h'.get? b=AC u)(Vx:∃ u,h'.get? e=AC u)
 (new:d_ P w (upd H x o') h' x o'):kK P w (upd H x o') h':=λ b u q=>by
 let W!:∀c y,H c=AC (.own y)->c≠x:=λ c y r z=>by subst z;rw[r]at mu;show mu
 let aaZ:∀c xs,H c=AC (.tup xs)->c≠x:=λ c xs r z=>by subst z;rw[r]at mu;show mu
 let aa0:∀c u,VI u->H c=AC u->c≠x:=λ c u p r z=>by subst z;rw[r]at mu;ext u<;>first|show p|show mu
 by_cases hb:b=x
 .subst hb;rw[aE]at q;ext q;show new
 .rw[av hb]at q;by_cases T3:b=e
  .let q':H b=AC (.own x):=by
    rcases he with z|z
    .exact absurd (T3.trans z) hb
    .rw[T3];show z
   rw[q]at q';ext q';let(v,hv):=Vx;show⟨v,by rw[T3];show hv⟩
  .refine(ok b u q).n? (λ c v hc r=>k c v ?_ r) (λ c r=>by rw[av<|W! c b r];show r) (λ c xs r=>by rw[av<|aaZ c xs r];show r) λ c v p r=>by rw[av<|aa0 c v p r];show r
   rcases hc with rfl|hc
   .exact T3
   .rintro rfl;rcases he with z|z
    .exact W! c b hc z
    .rw[hc]at z;ext z;show hb rfl
structure Un(fs ex:List Addr)(H H':Hp)(h h':Heap):Prop where
 keep:∀b o,h.get? b=AC o->H b=At->b∉fs->b∉ex->h'.get? b=AC o
 slot:∀b o,h.get? b=AC o->H b=At->b∈fs->b∉ex->∃sl,h'.get? b=AC {o with slots:=sl}
 free:∀b o,h.get? b=AC o->H b=At->b∉ex->H' b=At
 there:∀b o,h.get? b=AC o->b∉ex->∃o',h'.get? b=AC o'
 qO:∀b xs,H b=AC (.tup xs)->H' b=AC (.tup xs)
 pW:∀b o u,H b=AC (.dW o u)->H' b=AC (.dW o u)
 mO:∀b u,VI u->H b=AC u->H' b=AC u
def Un.any(u:Un fs ex H H1 h h1)(q:h.get? b=AC ob)(n:H b=At)(hx:b∉ex):∃sl,h1.get? b=AC {ob with slots:=sl}:=by
 by_cases hb:b∈fs
 .exact u.slot b ob q n hb hx
 .exact⟨_,u.keep b ob q n hb hx⟩
def Un.kept(k:∀b u,h.get? b=AC u->h'.get? b=AC u):Un fs ex H H h h':=
 ⟨λ b ob q _ _ _=>k b ob q,λ b ob q _ _ _=>(_,k b ob q,),λ _ _ _ n _=>n,λ b ob q _=>(ob,k b ob q,),λ _ _ q=>q,λ _ _ _ q=>q,λ _ _ _ q=>q⟩
def Un.refl:Un fs ex H H h h:=Un.kept λ _ _ q=>q
def Un.laid(k:∀b u,h.get? b=AC u->h'.get? b=AC u)(hp:h.Z<=a)(hn:H a=At):Un fs ex H (upd H a o) h h' where
 keep:=λ b u q _ _ _=>k b u q
 slot:=λ b u q _ _ _=>(_,k b u q,)
 free:=λ b u q n _=>by rw[av<|A16<|A18 (A05 q) hp];show n
 there:=λ b u q _=>(u,k b u q,)
 qO:=λ b xs q=>by rw[av<|aY q hn];show q
 pW:=λ b u xs q=>by rw[av<|aY q hn];show q
 mO:=λ b u _ q=>by rw[av<|aY q hn];show q
def Un.write(mu:Zs (H x))(he:e=x\/H e=AC (.own x))(k:∀b u,b≠e->h.get? b=AC u->h'.get? b=AC u)(Vx:∃u,h'.get? e=AC u):Un fs ex H (upd H x o) h h':=by
 let hx:∀b,H b=At->b≠x:=λ b n z=>by subst z;rw[n]at mu;show mu
 let hb:∀b,H b=At->b≠e:=λ b n z=>by
  subst z;rcases he with r|r
  .exact hx b n r
  .rw[n]at r;ext r
 let hm:∀b u,H b=AC u->¬Zs (AC u)->b≠x:=λ b u q nm z=>by subst z;rw[q]at mu;show nm mu
 show⟨λ b u q n _ _=>k b u (hb b n) q,λ b u q n _ _=>(_,k b u (hb b n) q,),λ b u q n _=>by rw[av<|hx b n];show n,λ b u q _=>?_,
  λ b xs q=>by rw[av<|hm b _ q λ z=>z];show q,λ b u xs q=>by rw[av<|hm b _ q λ z=>z];show q,λ b u p q=>by rw[av<|hm b _ q λ z=>by ext u<;>first|show p|show z];show q⟩
 by_cases T3:b=e
 .subst T3;show Vx
 .exact⟨u,k b u T3 q⟩
def Rp(h:ν)(H:Hp):U δ:=(EQ h.Z).filter λ a=>(H a).isSome
def uM(h:ν)(H:Hp):ν:=PySem.W.hideAll h<|Rp h H
def Gv(h:ν)(H:Hp):(uM h H).objs.size=h.Z:=PySem.W.hideAll_size _ _
def J8(e:h.get? b=AC o)(n:H b=At):(uM h H).get? b=AC o:=
 PySem.W.hideAll_get _ e λ hm=>by let q:=(A44.mp hm).2;rw[n]at q;simp at q
def Nv(e:(uM h H).get? b=AC o):h.get? b=AC o/\H b=At:=by
 let e':=PySem.W.of_hideAll _ e;show(e',?_,);cases q:H b with
 |none=>rfl
 |some x=>let hm:b∈Rp h H:=A44.mpr ⟨A25.mpr<|A05 e',by simp[q]⟩;let z:(uM h H).get? b=At:=gt _ hm;rw[z]at e;ext e
def PH(g h:ν)(L:δ):U (δ×μ):=(EQ h.Z).filterMap λ a=>if a=L\/(g.get? a).isSome=Ch then At else(h.get? a).map λ o=>(a,o)
def rest(g h:ν)(L d:δ):U (δ×μ):=(PH g h L).filter λ p=>decide<|p.1≠d
structure Mod(K:Da)(mg:Str->Option Value)(base:Heap):Prop where
 Qw:K.In base
 glob:base.Ns mainGlobals mg
 blt:∃mb,base.Ns builtinsNs mb/\∀x:Str,x≠ "__name__" -> mb x=bootBuiltins x
 nolimit:base.NoLimit
def cM:U Str:=["best_among","paper_beside"]
def i5(x:Str):Str:=x++ ".<locals>."++ "<lambda>"
def BMain(mg:Str->ε ζ)(base:ν):Prop:=∃bm ob,mg "__builtins__"=AC (.ref bm)/\bm≠builtinsNs/\base.get? bm=AC ob/\ob.cls=.type "module" /\ ob.dict=AC builtinsNs/\ob.data=.plain
def wA(K:Da)(mg:Str->ε ζ)(base:ν)(H:Hp):Prop:=∀x∈cM,∀c P,Op K x=AC (c,P)->H P=AC (.HN<|i5 x)/\AC8 base c P/\BMain mg base
def wA.up{K:Da}(t:wA K mg base H)(u:∀b o,VI o->H b=AC o->H' b=AC o):wA K mg base H':=λ x hx c P e=>(u _ _ trivial (t x hx c P e).1,(t x hx c P e).2,)
structure Cx where
 prog:Program
 w:World
 K:Da
 mg:Str->Option Value
 base:Heap
 A:Around
 N:List Str
 s₀:Shared
 H₀:Hp
 env:Env
 outer:List Env
 stack:List Env
 ex:List Addr
 fn:Str->Bool
 calm:Bool
 pn:List (Addr×Obj)
 xe:Value->Shared->Prop
def tI(l:U Env):U δ:=l.filterMap (·.frame)
abbrev Cx.fs(X:Cx):U δ:=tI X.outer
def Lp(sc:ς)(x:Str):Prop:=sc.names.lookup x=AC .local\/sc.names.lookup x=AC .cell\/sc.names.lookup x=AC .free
def Loc(sc:ς)(x:Str):Prop:=sc.names.lookup x=AC .local\/sc.names.lookup x=AC .cell
def Look(env:Env)(h:ν)(m:Str->ε ζ)(x:Str)(u:ζ):Prop:=
 (env.kindOf x=AC .local/\m x=AC u)\/((env.kindOf x=AC .cell\/env.kindOf x=AC .free)/\∃c,env.cells.lookup x=AC c/\h.IsCell c (AC u))
structure Cx.Ok(X:Cx):Prop where
 mod:Mod X.K X.mg X.k
 kind:X.J.scope.kind=.function
 glob:X.J.globals=mainGlobals
 blt:X.J.builtins=builtinsNs
 above:X.s₀.t<=X.J.i
 inj:∀x y c,X.env.cells.lookup x=AC c->X.env.cells.lookup y=AC c->x=y
 has:∀x,(X.env.kindOf x=AC .cell\/X.env.kindOf x=AC .free)->∃c,X.env.cells.lookup x=AC c
 UO:∀x c,X.fn x=Ch->X.env.cells.lookup x=AC c->X.s₀.t<=c
 hd:X.calm=Ch->X.A.handled=At
 frames:X.A.frames=AC X.stack
 LG:X.stack=X.outer\/(X.stack=X.J::X.outer/\X.J.frame=AC X.J.i)
 _K:∀b∈X.ex,b≠X.J.i/\∀x c,X.env.cells.lookup x=AC c->c≠b
 bs:∀b o,X.base.get? b=AC o->X.s₀.heap.get? b=AC o/\X.H₀ b=At
 Lg:X.k.Z<=X.s₀.t
 zN:∀b o,X.base.get? b=AC o->b∉X.ex
 GC:∀b∈X.ex,b∉X.fs
 me:X.s₀.heap.FunFrames X.base X.outer
 OG:∀b∈X.fs,X.H₀ b=At
structure Inv(X:Cx)(B:List (Addr×Obj))(O:List (Option V))(H:Hp)(s:Shared):Prop where
 ok:X.Ok
 os:s.os=X.s₀.os
 bare:AllBare s.gens
 base:Un X.fs X.ex X.H₀ H X.s₀.heap s.e
 loc:∃m,s.heap.Ns X.env.locals m/\∀(i:Nat)(x:Str)(v:V),X.N[i]?=AC x->O[i]?=AC (AC v)->Lp X.env.scope x->∃u,RelV v u/\Look X.env s.heap m x u
 cell:∀x c,X.env.cells.lookup x=AC c->∃v,s.heap.IsCell c v
 free:H X.J.i=At
 fY:∀x c,X.env.cells.lookup x=AC c->H c=At
 pin:∀p∈X.pn++B,s.heap.get? p.1=AC p.2/\H p.1=At/\p.1≠X.J.i/\p.1∉X.fs/\∀v,p.2.data≠.cell v
 bO:kK X.prog X.w H s.e
 len:O.n=X.N.n
 tab:wA X.K X.mg X.base H
section
variable{X:Cx}
def Cx.Ok.aa3(ok:X.Ok)(e:X.base.get? b=AC o):b∉X.fs:=λ hb=>by let:=(ok.me.mem hb).1;rw[e]at this;ext this
def Inv.bs(I:Inv X B O H s):∀b o,X.base.get? b=AC o->s.heap.get? b=AC o/\H b=At:=λ b o e=>(I.base.keep b o (I.ok.bs b o e).1 (I.ok.bs b o e).2 (I.ok.aa3 e)<|I.ok.zN b o e,I.base.free b o (I.ok.bs b o e).1 (I.ok.bs b o e).2<|I.ok.zN b o e,)
def Inv.bk(I:Inv X B O H s):∀b o,X.base.get? b=AC o->s.heap.get? b=AC o:=λ b o e=>(I.bs b o e).1
def Inv.mod(I:Inv X B O H s):Mod X.K X.mg X.k:=I.ok.mod
def Inv.lP(I:Inv X B O H s):X.K.In s.e:=I.ok.mod.Qw.keeps I.bk
def Inv.nolimit(I:Inv X B O H s):s.e.NoLimit:=I.ok.mod.nolimit.keeps I.bk
def Inv.lt(I:Inv X B O H s):X.J.i<s.t:=let ⟨_,hn,_⟩:=I.loc;hn.lt
def Inv.sz(I:Inv X B O H s):X.s₀.t<=s.t:=A15 I.ok.above<|A80 I.lt
def Inv.SD(I:Inv X B O H s)(h:s.t<=a):a∉X.fs:=λ hb=>by let(_,o,ho,_):=I.ok.me.mem hb;show absurd (A18 (A05 ho)<|A15 I.sz h)<|A89 _
def Inv.Lb(I:Inv X B O H s):∀x c,X.env.cells.lookup x=AC c->c≠X.J.i:=λ x c e z=>by let(v,o,ho,hd):=I.cell x c e;let(m,(o',es,ep,oR,qY,_),_):=I.loc;rw[z,oR]at ho;ext ho;rw[qY]at hd;ext hd
def Inv.me(I:Inv X B O H s):s.heap.FunFrames X.base X.outer:=by
 let all:∀l,(∀b∈tI l,b∈X.fs)->X.s₀.heap.FunFrames X.base l->s.heap.FunFrames X.base l:=by
  intro l
  induction l with
  |nil=>intro _ _;trivial
  |cons env r ih=>intro hs hl;let(hk,(L,o,hf,hn,ho,hd),hr):=hl;let hL:=hs L (by unfold tI;rw[B87,hf];show A13);let(sl,e):=I.base.slot L o ho (I.ok.OG L hL) hL λ z=>I.ok.GC L z hL;show(hk,(L,_,hf,hn,e,hd,),ih (λ b hb=>hs b (by unfold tI;rw[B87,hf];show A09 _ hb)) hr,)
 show all _ (λ _ hb=>hb) I.ok.me
def Inv.stack(I:Inv X B O H s):s.heap.FunFrames X.base X.stack:=by
 rcases I.ok.LG with e|⟨e,hf⟩
 .rw[e];show I.me
 .rw[e];let(m,hn,_):=I.loc;show .cons (by rw[I.ok.kind];decide) hf hn ?_ I.me;show B56<|A15 I.ok.Lg I.ok.above
def Inv.pH(I:Inv X B O H s):∀b∈tI X.stack,b∈X.J.i::X.fs:=λ b hb=>by
 rcases I.ok.LG with e|⟨e,hf⟩
 .rw[e]at hb;show A09 _ hb
 .rw[e]at hb;unfold tI at hb;rw[B87,hf]at hb;show hb
def Inv.rh(I:Inv X B O H s):∀b∈tI X.stack,H b=At:=λ b hb=>by
 rcases A01.mp (I.pH b hb)with e|hb
 .rw[e];show I.free
 .let(_,o,ho,_):=I.ok.me.mem hb;show I.base.free b o ho (I.ok.OG b hb) λ z=>I.ok.GC b z hb
theorem Inv.step{ch:U δ}(I:Inv X B O H s)
 (Ba:∀b∈ch,(b∈X.ex\/X.s₀.t<=b)/\b≠X.J.i/\(∀x c,X.env.cells.lookup x=AC c->c≠b)/\∀p∈X.pn++B,p.1≠b)
 (keep:∀b o,b≠X.J.i->b∉X.fs->b∉ch->s.heap.get? b=AC o->H b=At->h'.get? b=AC o)
 (slot:∀b o,b≠X.J.i->b∈X.fs->b∉ch->s.heap.get? b=AC o->H b=At->∃sl,h'.get? b=AC {o with slots:=sl}) (free:∀b o,b∉ch->s.heap.get? b=AC o->H b=At->H' b=At)
 (there:∀b o,b∉ch->s.heap.get? b=AC o->∃o',h'.get? b=AC o')
 (qO:∀b xs,H b=AC (.tup xs)->H' b=AC (.tup xs)) (pW:∀b o u,H b=AC (.dW o u)->H' b=AC (.dW o u)) (mO:∀b u,VI u->H b=AC u->H' b=AC u)
 (ns:∀m,s.heap.Ns X.env.locals m->h'.Ns X.env.locals m) (bO:kK X.prog X.w H' h') (hg:AllBare g') :
 Inv X B O H' {s with heap:=h',gens:=g',drawn:=d',toks:=t'}:=by
 let Xc:∀b o,X.s₀.heap.get? b=AC o->b≠X.J.i:=λ b o e=>A16<|A18 (A05 e) I.ok.above;let Jo:∀b o,X.s₀.heap.get? b=AC o->b∉X.ex->b∉ch:=λ b o e hx hb=>by
  rcases(Ba b hb).1 with z|z
  .exact hx z
  .exact absurd (A18 (A05 e) z)<|A89 _
 let cellK:∀x c,X.env.cells.lookup x=AC c->∀v,s.heap.IsCell c v->h'.IsCell c v:=by
  rintro x c e v ⟨o,ho,hd⟩;let zP:=λ z=>(Ba c z).2.2.1 x c e rfl;by_cases hc:c∈X.fs
  .let(sl,q):=slot c o (I.Lb x c e) hc zP ho (I.fY x c e);show(_,q,hd,)
  .exact⟨o,keep c o (I.Lb x c e) hc zP ho<|I.fY x c e,hd⟩
 show(I.ok,I.os,hg,(λ b o e n hb hx=>?_,λ b o e n hb hx=>?_,λ b o e n hx=>?_,λ b o e hx=>?_,λ b xs e=>qO b xs<|I.base.qO b xs e,λ b o xs e=>pW b o xs<|I.base.pW b o xs e,λ b u p e=>mO b u p<|I.base.mO b u p e,),?_,λ x c e=>?_,?_,λ x c e=>?_,λ p hp=>?_,bO,I.len,I.tab.up mO,)
 .exact keep b o (Xc b o e) hb (Jo b o e hx) (I.base.keep b o e n hb hx)<|I.base.free b o e n hx
 .let(sl,e1):=I.base.slot b o e n hb hx;let(sl',e2):=slot b _ (Xc b o e) hb (Jo b o e hx) e1 (I.base.free b o e n hx);show(sl',e2,)
 .let(o',e1):=I.base.there b o e hx;show free b o' (Jo b o e hx) e1<|I.base.free b o e n hx
 .let(o',e1):=I.base.there b o e hx;show there b o' (Jo b o e hx) e1
 .let(m,hn,hl):=I.loc;show(m,ns m hn,λ i x v e1 e2 e3=>?_,);let(u,r,l):=hl i x v e1 e2 e3;show(u,r,?_,);rcases l with l|⟨k,c,e,z⟩
  .exact .inl l
  .exact .inr ⟨k,c,e,cellK x c e _ z⟩
 .let(v,z):=I.cell x c e;show(v,cellK x c e v z,)
 .let(m,(o,_,_,ho,_),_):=I.loc;show free _ o (λ z=>(Ba _ z).2.1 rfl) ho I.free
 .let(v,o,ho,hd):=I.cell x c e;show free c o (λ z=>(Ba c z).2.2.1 x c e rfl) ho<|I.fY x c e
 .let(e,n,ne,nf,d):=I.pin p hp;let zP:=λ z=>(Ba p.1 z).2.2.2 p hp rfl;show(keep p.1 p.2 ne nf zP e n,free p.1 p.2 zP e n,ne,nf,d,)
def Inv.un(I:Inv X B O H s)(u:Un X.fs [] H H' s.heap h')(bO:kK X.prog X.w H' h'):Inv X B O H' {s with heap:=h',toks:=t'}:=by
 let(m,(o,es,ep,ho,r),_):=id I.loc;let(sl,hL):=u.any ho I.free ∅;show I.step (ch:=[]) (λ _ z=>nomatch z) (λ b o _ hb _ e n=>u.keep b o e n hb ∅) (λ b o _ hb _ e n=>u.slot b o e n hb ∅) (λ b o _ e n=>u.free b o e n ∅) (λ b o _ e=>u.there b o e ∅) u.qO u.pW u.mO (λ m' hm=>by let(o',YI,ep',oR,r'):=hm;rw[ho]at oR;ext oR;show(_,YI,ep',hL,r',)) bO I.bare
def Inv.call(I:Inv X B O H s)(u:Un (tI X.stack) ch H H' s.heap h')(bO:kK X.prog X.w H' h')(hg:AllBare g')
 (Ba:∀b∈ch,(b∈X.ex\/X.s₀.t<=b)/\b≠X.J.i/\(∀x c,X.env.cells.lookup x=AC c->c≠b)/\∀p∈X.pn++B,p.1≠b) :
 Inv X B O H' {s with heap:=h',gens:=g',drawn:=d',toks:=t'}:=by
 let(m,(o,es,ep,ho,r),_):=id I.loc;let(sl,hL):=u.any ho I.free λ z=>(Ba _ z).2.1 rfl;show I.step Ba (λ b o hL hb hc e n=>u.keep b o e n (λ z=>(A01.mp<|I.pH b z).elim hL hb) hc) (λ b o _ _ hc e n=>u.any e n hc) (λ b o hc e n=>u.free b o e n hc) (λ b o hc e=>u.there b o e hc) u.qO u.pW u.mO (λ m' hm=>by let(o',YI,ep',oR,r'):=hm;rw[ho]at oR;ext oR;show(_,YI,ep',hL,r',)) bO hg
def Inv.turned(I:Inv X B O H s)(k:∀b o,b≠it->s.heap.get? b=AC o->h'.get? b=AC o)(hn:H it=At)(hL:it≠X.J.i)
 (h1:it∈X.ex\/X.s₀.t<=it) (h2:∀x c,X.env.cells.lookup x=AC c->c≠it) (h3:∀p∈X.pn++B,p.1≠it):Inv X B O H {s with heap:=h',toks:=t'}:=by
 let nit:∀b u,H b=AC u->b≠it:=λ b u e z=>by rw[z,hn]at e;ext e
 show I.step (ch:=[it]) (λ b hb=>?_) (λ b o _ _ hc e _=>k b o (λ z=>hc (by simp[z])) e) (λ b o _ _ hc e _=>(_,k b o (λ z=>hc (by simp[z])) e,)) (λ _ _ _ _ n=>n)
  (λ b o hc e=>(o,k b o (λ z=>hc (by simp[z])) e,)) (λ _ _ e=>e) (λ _ _ _ e=>e) (λ _ _ _ e=>e) (λ m hm=>?_) (λ b u e=>?_) I.bare
 .let e:b=it:=by simpa using hb
  subst e;show(h1,hL,h2,h3,)
 .let(o,es,ep,ho,r):=hm;show(o,es,ep,k _ o (A10 hL) ho,r,)
 .refine(I.bO b u e).n? (λ c v hc q=>k c v ?_ q) (λ _ q=>q) (λ _ _ q=>q) λ _ _ _ q=>q;rcases hc with z|z
  .rw[z];show nit b u e
  .exact nit c _ z
def Inv.tok(I:Inv X B O H s)(t:Nat):Inv X B O H {s with toks:=t}:=I.un Un.refl I.bO
def Inv.kept(I:Inv X B O H s)(k:∀b u,s.heap.get? b=AC u->h'.get? b=AC u):Inv X B O H {s with heap:=h',toks:=t'}:=I.un (Un.kept k)<|I.bO.kept k
def Inv.laid(I:Inv X B O H s)(k:∀b u,s.heap.get? b=AC u->h'.get? b=AC u)(hp:s.t<=a)(new:d_ X.prog X.w (upd H a o) h' a o):
 Inv X B O (upd H a o) {s with heap:=h',toks:=t'}:=I.un (Un.laid k hp<|I.bO.fresh hp)<|I.bO.laid k hp new
def Inv.write(I:Inv X B O H s)(mu:Zs (H x))(he:e=x\/H e=AC (.own x))(k:∀b u,b≠e->s.heap.get? b=AC u->h'.get? b=AC u)(Vx:∃u,h'.get? e=AC u)
 (new:d_ X.prog X.w (upd H x o) h' x o):Inv X B O (upd H x o) {s with heap:=h',toks:=t'}:=I.un (Un.write mu he k Vx)<|I.bO.write mu he k Vx new
def Inv.DN(I:Inv X B O H s)(h:∀p∈mz,s.heap.get? p.1=AC p.2/\H p.1=At/\p.1≠X.J.i/\p.1∉X.fs/\∀v,p.2.data≠.cell v):Inv X mz O H s:=
 ⟨I.ok,I.os,I.bare,I.k,I.loc,I.cell,I.free,I.fY,λ p hp=>(A37.mp hp).elim (λ z=>I.pin p<|A70 _ z)<|h p,I.bO,I.len,I.tab⟩
def sQ{N:U Str}(hN:N.Nodup){i j:Nat}(a:N[i]?=AC x)(b:N[j]?=AC x):i=j:=by let(h1,e1):=A02.mp a;let(h2,e2):=A02.mp b;show(List.getElem_inj hN).mp<|e1.trans e2.a
def vj(I:Inv X B O H s)(hN:X.N.Nodup)(hi:X.N[i]?=AC x)(hx:Loc X.env.scope x)(r:RelV v u)
 (h:∀s',Inv X B (O.set i<|some v) H s'->(∃a,IN a s.heap s'.e/\(a=X.env.locals\/X.env.cells.lookup x=AC a))/\(X.env.scope.names.lookup x=AC .local->s.toks<s'.toks)->Q () s') (hf:X.fn x=Ch\/X.env.scope.names.lookup x=AC .local:=by first|show .inl rfl|show .inr rfl|assumption):Ev M A (storeName X.env x u) Q E s:=by
 let(m,hn,hl):=id I.loc;let ace:(X.J.scope.kind==.class||(X.J.scope.kind==.module&&X.env.locals != X.J.globals))=AT:=by rw[I.ok.kind];rfl
 let hiσ:i<O.n:=by rw[I.len];show(A02.mp hi).1
 let Lb:=I.Lb;let tracked:∀{a}{h'},(∃o,s.heap.get? a=AC o/\H a=At)->IN a s.heap h'->kK X.prog X.w H h':=λ {a h'} ha hs b ob e=>by
  let(_,_,qx):=ha;show(I.bO b ob e).n? (λ c w' hc q=>(hs.2 c ?_).trans q) (λ _ q=>q) (λ _ _ q=>q) λ _ _ _ q=>q;rintro rfl;rcases hc with rfl|hc
  .rw[qx]at e;ext e
  .rw[qx]at hc;ext hc
 rcases hx with hk|hk
 .refine wpAny_storeName_local hk hn (λ h' LV hs=>?_) ace;let(oL,_,_,hoL,_):=id hn;show h _ ⟨I.ok,I.os,I.bare,⟨λ b o e n hb hx=>?_,λ b o e n hb hx=>?_,I.k.free,λ b o e hx=>?_,I.k.qO,I.k.pW,I.k.mO⟩,⟨_,LV,λ j y v' e1 e2 e3=>?_⟩,λ y c e=>?_,I.free,I.fY,λ p hp=>?_,tracked ⟨oL,hoL,I.free⟩ hs,by calc I.len,I.tab⟩ ⟨⟨_,hs,.inl rfl⟩,λ _=>A65 _⟩
  .exact(hs.2 b<|A16<|A18 (A05 e) I.ok.above).trans<|I.base.keep b o e n hb hx
  .let(sl,e1):=I.base.slot b o e n hb hx;show(sl,(hs.2 b<|A16<|A18 (A05 e) I.ok.above).trans e1,)
  .let(o',e1):=I.base.there b o e hx;show(o',(hs.2 b<|A16<|A18 (A05 e) I.ok.above).trans e1,)
  .by_cases hj:j=i
   .subst hj;rw[hi]at e1;ext e1;rw[A39 hiσ]at e2;ext e2;show(u,r,.inl ⟨hk,by simp⟩,)
   .rw[A20<|A10 hj]at e2;let(u',r',q):=hl j y v' e1 e2 e3;show(u',r',?_,);rcases q with⟨k,e⟩|⟨k,c,e,z⟩
    .refine .inl ⟨k,?_⟩;let:y≠x:=λ e=>hj<|sQ hN e1<|e▸hi;simp[this,e]
    .exact .inr ⟨k,c,e,z.sameBut hs<|Lb y c e⟩
  .let(w',z):=I.cell y c e;show(w',z.sameBut hs<|Lb y c e,)
  .let(e,n,ne,nf,d):=I.pin p hp;show((hs.2 p.1 ne).trans e,n,ne,nf,d,)
 .let Ye:X.fn x=Ch:=by
   rcases hf with z|z
   .exact z
   .rw[z]at hk;ext hk
  let(c,hc):=I.ok.has x (.inl hk);let(w',z):=I.cell x c hc;show wpAny_storeName_cell I.ok.kind hk hc z λ h' uj hs=>?_;let(oc,_r,abA):=id z;show h {s with heap:=h'} ⟨I.ok,I.os,I.bare,⟨λ b o e n hb hx=>?_,λ b o e n hb hx=>?_,I.k.free,λ b o e hx=>?_,I.k.qO,I.k.pW,I.k.mO⟩,⟨m,hn.sameBut hs<|A10<|Lb x c hc,λ j y v' e1 e2 e3=>?_⟩,λ y c' e=>?_,I.free,I.fY,λ p hp=>?_,tracked ⟨oc,_r,I.fY x c hc⟩ hs,by calc I.len,I.tab⟩ ⟨⟨c,hs,.inr hc⟩,λ z=>absurd (hk.symm.trans z) ∅⟩
  .exact(hs.2 b<|A16<|A18 (A05 e)<|I.ok.UO x c Ye hc).trans<|I.base.keep b o e n hb hx
  .let(sl,e1):=I.base.slot b o e n hb hx;show(sl,(hs.2 b<|A16<|A18 (A05 e)<|I.ok.UO x c Ye hc).trans e1,)
  .let(o',e1):=I.base.there b o e hx;show(o',(hs.2 b<|A16<|A18 (A05 e)<|I.ok.UO x c Ye hc).trans e1,)
  .by_cases hj:j=i
   .subst hj;rw[hi]at e1;ext e1;rw[A39 hiσ]at e2;ext e2;show(u,r,.inr ⟨.inl hk,c,hc,uj⟩,)
   .rw[A20<|A10 hj]at e2;let(u',r',q):=hl j y v' e1 e2 e3;show(u',r',?_,);rcases q with q|⟨k,c',e,z'⟩
    .exact .inl q
    .refine .inr ⟨k,c',e,z'.sameBut hs ?_⟩;rintro rfl;show hj<|sQ hN e1<|I.ok.inj _ _ _ e hc▸hi
  .by_cases _A:c'=c
   .subst _A;show(_,uj,)
   .let(w2,z2):=I.cell y c' e;show(w2,z2.sameBut hs _A,)
  .let(e,n,ne,nf,d):=I.pin p hp;show((hs.2 p.1 ?_).trans e,n,ne,nf,d,);intro q;rw[q,_r]at e;let q':=f8 e;show d w' (by rw[<-q'];show abA)
def n!(I:Inv X B O H s)(hN:X.N.Nodup)(hi:X.N[i]?=AC x)(hx:Loc X.env.scope x)(r:RelV v u)
 (h:∀s',Inv X B (O.set i<|some v) H s'->Q () s') (hf:X.fn x=Ch\/X.env.scope.names.lookup x=AC .local:=by first|show .inl rfl|show .inr rfl|assumption):Ev M A (storeName X.env x u) Q E s:=
 vj I hN hi hx r (λ s' I' _=>h s' I') hf
def Inv.Ld(I:Inv X B O H s)(ho:s'.os=s.os)(u:Un (tI X.stack) ch H H' s.heap s'.e)(bO:kK X.prog X.w H' s'.e)(hg:AllBare s'.gens)
 (Ba:∀b∈ch,(b∈X.ex\/X.s₀.t<=b)/\b≠X.J.i/\(∀x c,X.env.cells.lookup x=AC c->c≠b)/\∀p∈X.pn++B,p.1≠b):Inv X B O H' s':=by
 let(h',g',d',t',o'):=s';let e:=ho;subst e;show I.call u bO hg Ba
end
abbrev XK:=ζ->ε δ->Hp->Prop
abbrev St:=U<|ε V
abbrev VK:=V->Hp->Prop
abbrev TE:=St->Hp->VK->Prop
abbrev TT:=St->Hp->(Bool->Hp->Prop)->Prop
abbrev TA:=St->Hp->(U V->Hp->Prop)->Prop
structure Ends where
 nx:St->Hp->Prop
 rt:VK
 bk:St->Hp->Prop:=λ _ _=>False
 ct:St->Hp->Prop:=λ _ _=>False
abbrev TS:=Ends->St->Hp->Prop
def EP(X:Cx)(B:U (δ×μ))(O:St)(Q:VK)(u:ζ)(s':θ):Prop:=∃v H',Inv X B O H' s'/\RelV v u/\Q v H'
def TP(X:Cx)(B:U (δ×μ))(O:St)(Q:Bool->Hp->Prop)(b:Bool)(s':θ):Prop:=∃H',Inv X B O H' s'/\Q b H'
def AP(X:Cx)(B:U (δ×μ))(O:St)(Q:U V->Hp->Prop)(us:U ζ)(s':θ):Prop:=∃vs H',Inv X B O H' s'/\Vals vs us/\Q vs H'
def SP(X:Cx)(B:U (δ×μ))(D:Ends)(f:Flow)(s':θ):Prop:=
 match f with
 |.next=>∃O' H',Inv X B O' H' s'/\D.nx O' H'
 |.brk=>∃O' H',Inv X B O' H' s'/\D.bk O' H'
 |.cont=>∃O' H',Inv X B O' H' s'/\D.ct O' H'
 |.ret u=>∃v O' H',Inv X B O' H' s'/\RelV v u/\D.rt v H'
def PE(X:Cx)(e:ι)(t:TE):Prop:=
 ∀(B:U (δ×μ))(s:θ)(O:St)(H:Hp)(Q:VK),Inv X B O H s->t O H Q->Ev (model X.prog X.w) X.A (eval e X.J) (EP X B O Q) X.xe s
def PT(X:Cx)(e:ι)(t:TT):Prop:=
 ∀(B:U (δ×μ))(s:θ)(O:St)(H:Hp)(Q:Bool->Hp->Prop),Inv X B O H s->t O H Q->Ev (model X.prog X.w) X.A (isTrue e X.env<|eval e X.J) (TP X B O Q) X.xe s
def PW(X:Cx)(e:ι)(t:TT):Prop:=
 ∀(whole:Sem ζ)(B:U (δ×μ))(s:θ)(O:St)(H:Hp)(Q:Bool->Hp->Prop),Inv X B O H s->t O H Q->Ev (model X.prog X.w) X.A (isTrue e X.env whole) (TP X B O Q) X.xe s
def PW.pt(h:PW X e t):PT X e t:=h _
def PA(X:Cx)(es:U ι)(t:TA):Prop:=
 ∀(pos:Pos)(B:U (δ×μ))(s:θ)(O:St)(H:Hp)(Q:U V->Hp->Prop),Inv X B O H s->t O H Q->Ev (model X.prog X.w) X.A (spliced<|backTo pos<|starEach es X.J) (AP X B O Q) X.xe s
def PS(X:Cx)(st:η)(t:TS):Prop:=
 ∀(B:U (δ×μ))(s:θ)(O:St)(H:Hp)(D:Ends),Inv X B O H s->t D O H->Ev (model X.prog X.w) X.A (exec st X.J) (SP X B D) X.xe s
def pq(X:Cx)(st:U η)(t:TS):Prop:=
 ∀(B:U (δ×μ))(s:θ)(O:St)(H:Hp)(D:Ends),Inv X B O H s->t D O H->Ev (model X.prog X.w) X.A (execs st X.J) (SP X B D) X.xe s
def b_{M:Model}{A:τ}{E:ζ->θ->Prop}{s:θ}(h:Ev M A t Q E s)(hQ:∀a s,Q a s->Q' a s):Ev M A t Q' E s:=A22 h hQ λ _ _ x=>x
section
def jS(i:Nat):TE:=λ O H Q=>∃v,O[i]?=AC (AC v)/\Q v H
def tC(v:V):TE:=λ _ H Q=>Q v H
def sH(hN:X.N[i]?=AC x)(hv:Lp X.env.scope x)(hd:Nd x:=by decide)(rG:(x==("__classdict__"))=AT:=by decide):PE X (.Name x pos) (jS i):=by
 intro B s O H Q I h;let(v,e,h):=h;let(m,hn,hl):=I.loc;let(u,r,l):=hl i x v hN e hv;let fin:EP X B O Q u s:=(v,H,I,r,h,)
 rcases l with⟨hk,hm⟩|⟨hk,c,hc,qy⟩
 .exact wpAny_Name (wpAny_loadName_local I.ok.kind hk hn hm fin) hd
 .rcases hk with hk|hk
  .exact wpAny_Name (wpAny_loadName_cell I.ok.kind hk hc qy fin) hd
  .exact wpAny_Name (wpAny_loadName_free I.ok.kind hk hc qy fin rG) hd
def RY:PE X (.Constant (.int i) j pos) (tC<|.int i):=λ _ _ _ H _ I h=>wpAny_Constant_int ⟨.int i,H,I.tok _,⟨_,rfl⟩,h⟩
def IQ:PE X (.Constant (.bool b) j pos) (tC<|.bl b):=λ _ _ _ H _ I h=>Constant_bool ⟨.bl b,H,I,rfl,h⟩
def xk:PE X (.Constant .none j pos) (tC .non):=λ _ _ _ H _ I h=>Constant_none ⟨.non,H,I,rfl,h⟩
def RU:PE X (.Constant (.str x) j pos) (tC<|.str x):=λ _ _ _ H _ I h=>Calls.Constant_str ⟨.str x,H,I.tok _,⟨_,rfl⟩,h⟩
def Gl(X:Cx)(x:Str):Prop:=X.env.kindOf x=AC .globalImplicit
def rA(I:Inv X B O H s)(hg:Gl X x)(hm:X.mg x=AC u)(h:Q u s)
 (hd:Nd x:=by decide):Ev (model X.prog X.w) X.A (eval (.Name x pos) X.J) Q E s:=
 B88 I.ok.kind hg (Calls.loadGlobal_global (by rw[I.ok.glob];show I.mod.glob.keeps I.bk) hm h) hd
def jY(I:Inv X B O H s)(hg:Gl X x)(hm:X.mg x=At)(hv:bootBuiltins x=AC u)(h:Q u s)
 (hn:x≠ "__name__":=by decide) (hd:Nd x:=by decide):Ev (model X.prog X.w) X.A (eval (.Name x pos) X.J) Q E s:=by
 let(mb,h1,h2):=I.mod.blt;show B88 I.ok.kind hg (Calls.loadGlobal_builtin (by rw[I.ok.glob];show I.mod.glob.keeps I.bk) hm (by rw[I.ok.blt];show h1.keeps I.bk) ((h2 x hn).trans hv) h) hd
def M9(hg:Gl X x)(hm:X.mg x=AC u)(r:RelV v u)(hd:Nd x:=by decide):PE X (.Name x pos) (tC v):=
 λ _ _ _ H _ I h=>rA I hg hm ⟨v,H,I,r,h⟩ hd
def M!(hg:Gl X x)(hm:X.mg x=At)(hv:bootBuiltins x=AC u)(r:RelV v u)(hn:x≠ "__name__":=by decide)(hd:Nd x:=by decide):PE X (.Name x pos) (tC v):=
 λ _ _ _ H _ I h=>jY I hg hm hv ⟨v,H,I,r,h⟩ hn hd
def PC(X:Cx)(op:CmpOp)(a b:ι)(t:TE):Prop:=
 ∀ (B:U (δ×μ))(s:θ)(O:St)(H:Hp)(Q:VK),Inv X B O H s->t O H Q ->
  Ev (model X.prog X.w) X.A (eval a X.J) (λ v s₁=>Ev (model X.prog X.w) X.A (eval b X.J) (λ u s₂=>Ev (model X.prog X.w) X.A (compareOp op v u) (EP X B O Q) X.xe s₂) X.xe s₁) X.xe s
def Jm(b:ι)(h:op≠.In)(h2:op≠.NotIn):behindInMarks op b=AT:=by
 let e1:(op==CmpOp.In)=AT:=by ext op<;>first|rfl|show absurd rfl h
 let e2:(op==CmpOp.NotIn)=AT:=by ext op<;>first|rfl|show absurd rfl h2
 ext b<;>simp[behindInMarks,e1,e2]
def tB(t:TE):TT:=λ O H Q=>t O H λ x H1=>∃c,x=.bl c/\Q c H1
def Iz(h:PC X op a b t)(h1:behindInMarks op b=AT:=by first|show Jm _ ∅ ∅|rfl):PT X (.Compare a [op] [b] pos) (tB t):=by intro B s O H Q I hw;show wpAny_isTrue_Compare1 (b_ (h B s O H _ I hw) λ v s1 h1=>b_ h1 λ u s2 h2=>b_ h2 ?_) h1;rintro c s3 ⟨x,H1,I1,r1,q1⟩;let(d,rfl,q):=q1;ext r1;show A66 ⟨H1,I1,q⟩
def Iw(h:PE X e t)(he:∀whole,isTrue e X.env whole=(do let v ←whole;standAt e.pos;holding [v] (truthy v)):=by intro _;rfl):PT X e (tB t):=by intro B s O H Q I hw;show isTrue_plain (b_ (h B s O H _ I hw) ?_)<|he _;rintro v s1 ⟨x,H1,I1,r1,q1⟩;let(d,rfl,q):=q1;ext r1;show A66 ⟨H1,I1,q⟩
variable{rest:U ι}
def n8(t u:TT):TT:=λ O H Q=>t O H λ c H1=>if c=Ch then u O H1 Q else Q AT H1
def nP(t u:TT):TT:=λ O H Q=>t O H λ c H1=>if c=Ch then Q Ch H1 else u O H1 Q
def cZ(t:TT):TT:=λ O H Q=>t O H λ c H1=>Q (!c) H1
def pw_and1(ha:PT X a tA):PW X (.BoolOp .And [a] pos) tA:=by
 intro wh B s O H Q I h;show isTrue_and<|b_ (ha B s O H Q I h) λ c s1 e=>?_;cases c with
 |true=>show isTrue_and_nil e
 |false=>show e
def pw_or1(ha:PT X a tA):PW X (.BoolOp .Or [a] pos) tA:=by
 intro wh B s O H Q I h;show isTrue_or<|b_ (ha B s O H Q I h) λ c s1 e=>?_;cases c with
 |false=>show isTrue_or_nil e
 |true=>show e
def pw_and(ha:PT X a tA)(hb:PW X (.BoolOp .And (b::rest) pos) tB'):PW X (.BoolOp .And (a::b::rest) pos) (n8 tA tB'):=by
 intro wh B s O H Q I h;show isTrue_and<|b_ (ha B s O H _ I h) ?_;rintro c s1 ⟨H1,I1,q1⟩;cases c with
 |true=>show hb wh B s1 O H1 Q I1 q1
 |false=>show(H1,I1,q1,)
def pw_or(ha:PT X a tA)(hb:PW X (.BoolOp .Or (b::rest) pos) tB'):PW X (.BoolOp .Or (a::b::rest) pos) (nP tA tB'):=by
 intro wh B s O H Q I h;show isTrue_or<|b_ (ha B s O H _ I h) ?_;rintro c s1 ⟨H1,I1,q1⟩;cases c with
 |true=>show(H1,I1,q1,)
 |false=>show hb wh B s1 O H1 Q I1 q1
def Iy(ha:PT X a tA):PT X (.UnaryOp .Not a pos) (cZ tA):=by intro B s O H Q I h;show isTrue_not<|ha B s O H (λ c H1=>Q (!c) H1) I h
def Wc(ta tb:TE):TE:=λ O H Q=>ta O H λ x H1=>∃c,x=.bl c/\if c=Ch then tb O H1 Q else Q (.bl AT) H1
def aae(ta tb:TE):TE:=λ O H Q=>ta O H λ x H1=>∃c,x=.bl c/\if c=Ch then Q (.bl Ch) H1 else tb O H1 Q
def V9(ta:TE):TE:=λ O H Q=>ta O H λ x H1=>∃c,x=.bl c/\Q (.bl<|!c) H1
def RV(h:PE X a t):PE X (.BoolOp op [a] pos) t:=λ B s O H Q I hw=>BoolOp_one<|h B s O H Q I hw
def R1(ha:PE X a ta)(hb:PE X (.BoolOp .And (b::rest) pos) tb):PE X (.BoolOp .And (a::b::rest) pos) (Wc ta tb):=by
 intro B s O H Q I h;show BoolOp_and<|b_ (ha B s O H _ I h) ?_;rintro v s1 ⟨x,H1,I1,r1,q1⟩;let(c,rfl,q1):=q1;ext r1;show A66 ?_;cases c with
 |true=>show hb B s1 O H1 Q I1 q1
 |false=>show(.bl AT,H1,I1,rfl,q1,)
def WI(ha:PE X a ta)(hb:PE X (.BoolOp .Or (b::rest) pos) tb):PE X (.BoolOp .Or (a::b::rest) pos) (aae ta tb):=by
 intro B s O H Q I h;show BoolOp_or<|b_ (ha B s O H _ I h) ?_;rintro v s1 ⟨x,H1,I1,r1,q1⟩;let(c,rfl,q1):=q1;ext r1;show A66 ?_;cases c with
 |false=>show hb B s1 O H1 Q I1 q1
 |true=>show(.bl Ch,H1,I1,rfl,q1,)
def RW(ha:PE X a ta):PE X (.UnaryOp .Not a pos) (V9 ta):=by intro B s O H Q I h;show UnaryOp_<|b_ (ha B s O H _ I h) ?_;rintro v s1 ⟨x,H1,I1,r1,q1⟩;let(c,rfl,q1):=q1;ext r1;show not_of<|A66 ⟨.bl<|!c,H1,I1,rfl,q1⟩
def tIf(t:TT)(ta tb:TE):TE:=λ O H Q=>t O H λ c H1=>if c=Ch then ta O H1 Q else tb O H1 Q
def IL(hc:PT X c tA)(ha:PE X a ta)(hb:PE X b tb):PE X (.IfExp c a b pos) (tIf tA ta tb):=by
 intro B s O H Q I h;show wpAny_IfExp<|b_ (hc B s O H _ I h) ?_;rintro d s1 ⟨H1,I1,q1⟩;cases d with
 |true=>show ha B s1 O H1 Q I1 q1
 |false=>show hb B s1 O H1 Q I1 q1
end
def iY(K:Da)(H:Hp)(a:δ)(xs:U V):Prop:=
 Rd H a (.lst xs) \/
  ∃(o:μ)(a8:Array ζ)(n:Nat),K.lookup a=AC o/\o.cls=.type "list" /\ o.dict=At/\o.data=.seq a8 n/\a8.u<=sizeLine/\Vals xs a8.y
def l4(K:Da)(H:Hp)(a:δ)(xs:U V):Prop:=
 Rd H a (.tup xs) \/
  ∃(o:μ)(a8:Array ζ)(n:Nat),K.lookup a=AC o/\o.cls=.type "tuple" /\ (o.data=.seq a8 n/\o.dict=At/\o.slots=#[])/\a8.u<=sizeLine/\Vals xs a8.y
def ac8:ζ->ε V
|.none=>AC .non
|.bool b=>AC<|.bl b
|.int i _=>AC<|.int i
|.str x _=>AC<|.str x
|.bytes b _=>AC<|.VG b
|.float b _=>AC<|._H b
|.ref a=>AC<|.ref a
|.type n=>AC<|.ty n
|_=>At
def RelV.abs(r:RelV x u):ac8 u=AC x:=by
 cases x with
 |non=>ext r;rfl
 |bl _=>ext r;rfl
 |int _=>let(t,rfl):=r;rfl
 |str _=>let(t,rfl):=r;rfl
 |VG _=>let(t,rfl):=r;rfl
 |_H _=>let(t,rfl):=r;rfl
 |ref _=>ext r;rfl
 |ty _=>ext r;rfl
def RelV.inj(r:RelV x u)(q:RelV y u):x=y:=f8<|r.abs.symm.trans q.abs
def Vals.inj:∀{xs ys}{us},Vals xs us->Vals ys us->xs=ys
|_,_,_,.nil,.nil=>rfl
|_,_,_,.cons r t,.cons r' t'=>by rw[r.inj r',Vals.inj t t']
def iY.of{K:Da}(h:H a=AC (.lst xs)):iY K H a xs:=.inl<|.inl h
def l4.of{K:Da}(h:H a=AC (.tup xs)):l4 K H a xs:=.inl<|.inl h
def Inv.list(I:Inv X B O H s)(h:iY X.K H a xs):∃a8,Vals xs a8/\PlainL s.heap a a8.q/\xs.n<=sizeLine:=by
 rcases h with h|⟨o,a8,n,hk,hc,hd,hs,hz,r⟩
 .let(z,a8,n,r,e):=h.ok I.bO;show(a8,r,(_,n,e,rfl,rfl,rfl,),z,)
 .refine⟨_,r,⟨o,n,I.lP a o hk,hc,hd,by calc hs⟩,?_⟩;let e:=r.n;erw[B57]at e;lia
def Inv.tuple(I:Inv X B O H s)(h:l4 X.K H a xs):∃a8,Vals xs a8/\IsTup s.heap a a8.q/\xs.n<=sizeLine:=by
 rcases h with h|⟨o,a8,n,hk,hc,hs,hz,r⟩
 .let(z,a8,r,p):=h.ok I.bO;show(a8,r,p.is,z,)
 .refine⟨_,r,⟨o,I.lP a o hk,hc,n,by calc hs.1⟩,?_⟩;let e:=r.n;erw[B57]at e;lia
def Inv.oJ(I:Inv X B O H s)(h:iY X.K H a xs)(h':iY X.K H a ys):xs=ys:=by
 let(a8,r,(o,n,e,_,_,d),_):=I.list h;let(Ad,r',(o',n',e',_,_,d'),_):=I.list h';rw[e]at e';ext e';rw[d]at d';injection d' with d1 _
 let:a8=Ad:=by simpa using A14 UV d1
 subst this;show r.inj r'
def Inv.pG(I:Inv X B O H s)(h:l4 X.K H a xs)(h':l4 X.K H a ys):xs=ys:=by
 let(a8,r,(o,e,_,n,d),_):=I.tuple h;let(Ad,r',(o',e',_,n',d'),_):=I.tuple h';rw[e]at e';ext e';rw[d]at d';injection d' with d1 _
 let:a8=Ad:=by simpa using A14 UV d1
 subst this;show r.inj r'
abbrev Cx.mN(X:Cx)(E:ζ->θ->Prop):Cx:={X with xe:=E}
abbrev Cx.gO(X:Cx):Cx:=X.mN λ _ _=>False
theorem Cx.Ok.mN{X:Cx}(ok:X.Ok)(E:ζ->θ->Prop):(X.mN E).Ok:=
 ⟨ok.mod,ok.kind,ok.glob,ok.blt,ok.above,ok.inj,ok.has,ok.UO,ok.hd,ok.frames,ok.LG,ok._K,ok.bs,ok.Lg,ok.zN,ok.GC,ok.me,ok.OG⟩
def Cx.Ok.hX{X:Cx}(ok:(X.mN E).Ok):X.Ok:=
 ⟨ok.mod,ok.kind,ok.glob,ok.blt,ok.above,ok.inj,ok.has,ok.UO,ok.hd,ok.frames,ok.LG,ok._K,ok.bs,ok.Lg,ok.zN,ok.GC,ok.me,ok.OG⟩
def Inv.mN(I:Inv X B O H s)(E:ζ->θ->Prop):Inv (X.mN E) B O H s:=(I.ok.mN E,I.os,I.bare,I.k,I.loc,I.cell,I.free,I.fY,I.pin,I.bO,I.len,I.tab,)
def Inv.hX(I:Inv (X.mN E) B O H s):Inv X B O H s:=(I.ok.hX,I.os,I.bare,I.k,I.loc,I.cell,I.free,I.fY,I.pin,I.bO,I.len,I.tab,)
def SP.hX(h:SP (X.mN E) B D f s'):SP X B D f s':=by
 cases f with
 |next=>let(O',H',I,q):=h;show(O',H',I.hX,q,)
 |brk=>let(O',H',I,q):=h;show(O',H',I.hX,q,)
 |cont=>let(O',H',I,q):=h;show(O',H',I.hX,q,)
 |ret u=>let(v,O',H',I,r,q):=h;show(v,O',H',I.hX,r,q,)
def PT.gO(h:PT X.gO e t):PT X e t:=λ B s O H Q I hw=>A22 (h B s O H Q (I.mN _) hw) (by rintro _ _ ⟨H',I',q⟩;show(H',I'.hX,q,)) λ _ _ z=>Gc z
def pq.gO{st:U η}(h:pq X.gO st t):pq X st t:=λ B s O H D I hw=>A22 (h B s O H D (I.mN _) hw) (λ _ _ q=>q.hX) λ _ _ z=>Gc z
section
variable{st:η}{rest:U η}
def V':TS:=λ D O H=>D.nx O H
def aac(t u:TS):TS:=λ D O H=>t {D with nx:=u D} O H
def DC:pq X [] V':=λ _ _ O H _ I h=>B28 ⟨O,H,I,h⟩
def iE(h1:PS X st t)(h2:pq X rest u):pq X (st::rest) (aac t u):=by
 intro B s O H D I h;show wpAny_execs_cons<|b_ (h1 B s O H {D with nx:=u D} I h) λ f s1 q=>?_;cases f with
 |next=>let(O',H',I',q):=q;show h2 B s1 O' H' D I' q
 |ret v=>show q
 |brk=>show q
 |cont=>show q
def oq(h1:PS X st t):pq X [st] t:=by
 intro B s O H D I h;show wpAny_execs_cons<|b_ (h1 B s O H D I h) λ f s1 q=>?_;cases f with
 |next=>show B28 q
 |ret v=>show q
 |brk=>show q
 |cont=>show q
def Inv.quiet(I:Inv X B O H s):interactive X.J=AT:=by simp[interactive,I.ok.kind]
def V?(te:TE):TS:=λ D O H=>te O H λ _ H1=>D.nx O H1
def oy(he:PE X e te)(hs:swapsWith e At pos.line X.J=pure AT:=by rfl):PS X (.Expr e pos) (V? te):=by intro B s O H D I h;show wpAny_Expr_any (b_ (he B s O H _ I h) <|by rintro v s1 ⟨x,H1,I1,r1,q1⟩;show(O,H1,I1,q1,)) I.quiet hs
def aad(te:TE):TS:=λ D O H=>te O H D.rt
def RK(he:PE X e te):PS X (.Return (AC e) pos) (aad te):=by intro B s O H D I h;show wpAny_Return_some<|b_ (he B s O H _ I h) <|by rintro v s1 ⟨x,H1,I1,r1,q1⟩;show(x,O,H1,I1,r1,q1,)
def aag(c:TT)(t u:TS):TS:=λ D O H=>c O H λ b H1=>if b=Ch then t D O H1 else u D O H1
def IC(hc:PT X c tc)(ha:pq X a t)(hb:pq X b u):PS X (.If c a b pos) (aag tc t u):=by
 intro B s O H D I h;show wpAny_If<|b_ (hc B s O H _ I h) ?_;rintro d s1 ⟨H1,I1,q1⟩;cases d with
 |true=>show ha B s1 O H1 D I1 q1
 |false=>show hb B s1 O H1 D I1 q1
end
abbrev TG:=V->St->Hp->(St->Hp->Prop)->Prop
abbrev U0:=U V->St->Hp->(St->Hp->Prop)->Prop
def PG(X:Cx)(target:ι)(t:TG):Prop:=
 ∀ (B:U (δ×μ))(s:θ)(O:St)(H:Hp)(v:V)(u:ζ)(Q:St->Hp->Prop),Inv X B O H s->RelV v u->t v O H Q ->
  Ev (model X.prog X.w) X.A (assign target X.env u) (λ _ s'=>∃O' H',Inv X B O' H' s'/\Q O' H') X.xe s
def Lu(X:Cx)(ts:U ι)(t:U0):Prop:=
 ∀ (B:U (δ×μ))(s:θ)(O:St)(H:Hp)(vs:U V)(us:U ζ)(Q:St->Hp->Prop),Inv X B O H s->Vals vs us->t vs O H Q ->
  Ev (model X.prog X.w) X.A (assignInOrder ((assignEach ts X.J).map (·.2)) us) (λ _ s'=>∃O' H',Inv X B O' H' s'/\Q O' H') X.xe s
abbrev TIp:=V->V->Hp->VK->Prop
def PIp(X:Cx)(op:Operator)(t:TIp):Prop:=
 ∀ (B:U (δ×μ))(s:θ)(O:St)(H:Hp)(x y:V)(v u:ζ)(Q:VK),Inv X B O H s->RelV x v->RelV y u->t x y H Q ->
  Ev (model X.prog X.w) X.A (inplaceOp op v u) (EP X B O Q) X.xe s
def aH(i:Nat):TG:=λ v O H Q=>Q (O.set i<|some v) H
def DO(hN:X.N.Nodup)(hi:X.N[i]?=AC x)(hx:Loc X.env.scope x)(hf:X.fn x=Ch\/X.env.scope.names.lookup x=AC .local:=by first|show .inl rfl|show .inr rfl|assumption):PG X (.Name x pos) (aH i):=by intro B s O H v u Q I r h;show wpAny_assign_Name<|n! I hN hi hx r (λ s' I'=>(_,H,I',h,)) hf
def acz:U0:=λ vs O H Q=>vs=[]/\Q O H
def Yz(t:TG)(u:U0):U0:=λ vs O H Q=>∃v r,vs=v::r/\t v O H λ O' H'=>u r O' H' Q
def M7:Lu X [] acz:=by intro B s O H vs us Q I r h;let(e,h):=h;subst e;ext r;show assignInOrder_nil ⟨O,H,I,h⟩
def II(h1:PG X e t)(h2:Lu X es u)
 (hs:(assignEach (e::es) X.J).map (·.2)=assign e X.J::(assignEach es X.J).map (·.2):=by rfl):Lu X (e::es) (Yz t u):=by
 intro B s O H vs us Q I r h;let(v,vr,e1,h):=h;subst e1;cases r with
 |cons r rr=>rw[hs];show assignInOrder_cons<|b_ (h1 B s O H _ _ _ I r h) ?_;rintro _ s1 ⟨O1,H1,I1,q1⟩;show h2 B s1 O1 H1 _ _ Q I1 rr q1
def cJ(K:Da)(n:Nat)(t:U0):TG:=λ v O H Q=>∃a xs,v=.ref a/\l4 K H a xs/\xs.n=n/\t xs O H Q
def IJ(hc:X.calm=Ch)(h:Lu X es t)
 (hn:(assignEach es X.J).length=n:=by rfl) (oO:(assignEach es X.J).findIdx? (·.1)=At:=by rfl):PG X (.Tuple es k pos) (cJ X.K n t):=by
 intro B s O H v u Q I r hw;let(a,xs,e1,hq,hl,hw):=hw;subst e1;ext r;let(a8,rv,ht,hz):=I.tuple hq;show assign_Tuple_tuple (I.ok.hd hc) ht (by simp[hn,<-hl,rv.n]) oO λ h' hx=>?_;let I1:=I.kept (t':=s.toks) λ b o e=>hx b o (A16<|A05 e) e;show h B _ O H xs _ Q I1 (by calc rv) hw
def Wb(te:TE)(g:TG):TS:=λ D O H=>te O H λ x H1=>g x O H1 D.nx
def IE(he:PE X e te)(hg:PG X tg g)(hs:swapsWithSole [tg] e pos.line X.J=pure AT:=by rfl)(hw:swappedStores [tg] e X.J=pure At:=by rfl)
 (h1:(assignEach [tg] X.J).map (·.2)=[assign tg X.J]:=by rfl):PS X (.Assign [tg] e pos) (Wb te g):=by
 intro B s O H D I h;show wpAny_Assign_stores (b_ (he B s O H _ I h) ?_) hs hw;rintro v s1 ⟨x,H1,I1,r1,q1⟩;rw[h1];show b_ (hg B s1 O H1 x v _ I1 r1 q1) λ _ s2 q=>q
theorem pM(hN:X.N.Nodup)(hi:X.N[i]?=AC x)(hx:Loc X.env.scope x)(he:PE X e te)(hs:swapsWith e (AC<|.Name x pos') pos.line X.J=pure AT:=by rfl)(hf:X.fn x=Ch\/X.env.scope.names.lookup x=AC .local:=by first|show .inl rfl|show .inr rfl|assumption):
 PS X (.Assign [.Name x pos'] e pos) (Wb te<|aH i):=by
 intro B s O H D I h;show wpAny_Assign_Name (b_ (he B s O H _ I h) ?_) hs;rintro v s1 ⟨y,H1,I1,r1,q1⟩;show n! I1 hN hi hx r1 (λ s2 I2=>(_,H1,I2,q1,)) hf
def aan(i:Nat)(te:TE)(ti:TIp):TS:=λ D O H=>∃x,O[i]?=AC (AC x)/\te O H λ y H1=>ti x y H1 λ z H2=>D.nx (O.set i<|some z) H2
theorem RO(hN:X.N.Nodup)(hi:X.N[i]?=AC x)(hx:Loc X.env.scope x)(he:PE X e te)(ho:PIp X op ti)(hf:X.fn x=Ch\/X.env.scope.names.lookup x=AC .local:=by first|show .inl rfl|show .inr rfl|assumption) :
 PS X (.AugAssign (.Name x pos') op e pos) (aan i te ti):=by
 intro B s O H D I h;let(v,e1,h):=h;let(m,hn,hl):=I.loc;let vis:Lp X.env.scope x:=by rcases hx with k|k;show .inl k;show .inr<|.inl k
 let(u,r,l):=hl i x v hi e1 vis;show wpAny_AugAssign_Name ?_;let go:Ev (model X.prog X.w) X.A (eval e X.J) (λ w s₂=>Ev (model X.prog X.w) X.A (inplaceOp op u w) (λ r s₃=>Ev (model X.prog X.w) X.A (storeName X.env x r) (λ _=>SP X B D .next) X.xe s₃) X.xe s₂) X.xe s:=by show b_ (he B s O H _ I h) ?_;rintro w s1 ⟨y,H1,I1,r1,q1⟩;show b_ (ho B s1 O H1 v y u w _ I1 r r1 q1) ?_;rintro z s2 ⟨zv,H2,I2,r2,q2⟩;show n! I2 hN hi hx r2 (λ s3 I3=>(_,H2,I3,q2,)) hf
 rcases l with⟨hk,hm⟩|⟨hk,c,hc,qy⟩
 .exact wpAny_loadName_local I.ok.kind hk hn hm go
 .rcases hk with hk|hk
  .exact wpAny_loadName_cell I.ok.kind hk hc qy go
  .rcases hx with k|k
   .let:X.env.scope.names.lookup x=AC .free:=hk;rw[k]at this;ext this
   .let:X.env.scope.names.lookup x=AC .free:=hk;rw[k]at this;ext this
def Rw(c:TT)(tb:TS):TS:=λ D O H=>∃W:Nat->St->Hp->Prop,(∃m,W m O H)/\∀m O H,W m O H ->
 c O H λ b H1=>if b=Ch then ∃N:St->Hp->Prop,(∀O' H',N O' H'->∃m',m'<m/\W m' O' H')/\tb {D with nx:=N,ct:=N,bk:=D.nx} O H1 else D.nx O H1
def IB(hp:PassesOwn (model X.prog X.w) X.A X.env X.xe)(hc:PT X c tc)(hb:pq X body tb):PS X (.While c body [] pos) (Rw tc tb):=by
 intro B s O H D I h;let(W,(m0,w0),turn):=h;show wpAny_While<|codeAny_whileLoop (λ n s'=>∃O' H',Inv X B O' H' s'/\W n O' H') ?_ m0 ⟨O,H,I,w0⟩;rintro n s1 ⟨O1,H1,I1,w1⟩;show A90 hp<|b_ (hc B s1 O1 H1 _ I1<|turn n O1 H1 w1) ?_;rintro b s2 ⟨H2,I2,q2⟩;cases b with
 |true=>
  let(N,hN,q2):=q2;rw[M2 rfl];show A90 hp<|b_ (hb B s2 O1 H2 _ I2 q2) λ f s3 q3=>?_;cases f with
  |next=>let(O3,H3,I3,n3):=q3;let(m',hm,w3):=hN O3 H3 n3;show(m',hm,O3,H3,I3,w3,)
  |cont=>let(O3,H3,I3,n3):=q3;let(m',hm,w3):=hN O3 H3 n3;show(m',hm,O3,H3,I3,w3,)
  |brk=>show q3
  |ret v=>show q3
 |false=>rw[W1 A75];show B28 ⟨O1,H2,I2,q2⟩
structure It where
 go:Nat->Hp->Prop
 Bh:Nat->Hp->V->Hp->Prop
 stop:Nat->Hp->Prop
def pw(X:Cx)(B:U (δ×μ))(H:Hp)(b:δ):Prop:=
 H b=At/\b≠X.J.i/\b∉X.fs/\(b∈X.ex\/X.s₀.t<=b)/\(∀x c,X.env.cells.lookup x=AC c->c≠b)/\∀p∈X.pn++B,p.1≠b
def Inv.uP(I:Inv X B O H s)(hb:s.t<=b)(hn:H' b=At):pw X B H' b:=by
 show(hn,A48<|A18 I.lt hb,I.SD hb,.inr<|A15 I.sz hb,λ x c e z=>?_,λ p hp z=>?_,)
 .let(v,q):=I.cell x c e;show absurd (A18 q.lt (by rw[z];show hb))<|A89 _
 .exact absurd (A18 (A05 (I.pin p hp).1) (by rw[z];show hb))<|A89 _
structure Turn(P:Program)(w:World)(K:Da)(tg:Expr)(J:It)(fp:List Addr)(it:Addr)(tn:Nat->Heap->Prop):Prop where
 mem:it∈fp
 obj:∀i h,tn i h->∀b∈fp,∃o,h.get? b=AC o/\∀v,o.data≠.cell v
 keep:∀i h h',tn i h->(∀b∈fp,∀o,h.get? b=AC o->h'.get? b=AC o)->tn i h'
 item:∀(X:Cx),X.prog=P->X.w=w->X.K=K->X.calm=Ch->∀(i:Nat)(B:List (Addr×Obj))(s:Shared)(O:St)(H:Hp)(E:Value->Shared->Prop),Inv X B O H s->(∀b∈fp,pw X B H b)->tn i s.e->J.go i H ->
  Ev (model P w) X.A (pyNext<|.ref it) (λ r s1=>∃u,r=AC u /\
   Ev (model P w) X.A (letOwnedTupleGo tg (.ref it) u) (λ _ s2=>∃x H',Inv X B O H' s2/\RelV x u/\J.Bh i H x H'/\tn (i+1) s2.e/\∀b∈fp,H' b=At) E s1) E s
 done:∀(X:Cx),X.prog=P->X.w=w->X.K=K->X.calm=Ch->∀(i:Nat)(B:List (Addr×Obj))(s:Shared)(O:St)(H:Hp)(E:Value->Shared->Prop),Inv X B O H s->(∀b∈fp,pw X B H b)->tn i s.e->J.stop i H ->
  Ev (model P w) X.A (pyNext<|.ref it) (λ r s1=>r=At/\Inv X B O H s1) E s
 self:∀(A:Around)(i:Nat)(s:Shared)(Q:Value->Shared->Prop)(E:Value->Shared->Prop),tn i s.e->Q (.ref it) s->Ev (model P w) A (pyIter<|.ref it) Q E s
abbrev TI:=St->Hp->(It->Hp->Prop)->Prop
def _Z(X:Cx)(B:U (δ×μ))(O:St)(tg:ι)(R:It->Hp->Prop)(itv:ζ)(s2:θ):Prop:=
 ∃(it:δ)(fp:U δ)(tn:Nat->ν->Prop)(J:It)(H':Hp),itv=.ref it/\Inv X B O H' s2/\Turn X.prog X.w X.K tg J fp it tn/\tn 0 s2.e/\(∀b∈fp,pw X B H' b)/\R J H'
def PI(X:Cx)(tg iter:ι)(wi:TI):Prop:=
 ∀ (B:U (δ×μ))(s:θ)(O:St)(H:Hp)(R:It->Hp->Prop),Inv X B O H s->wi O H R ->
  Ev (model X.prog X.w) X.A (eval iter X.J) (λ v s1=>Ev (model X.prog X.w) X.A (pyIter v) (_Z X B O tg R) X.xe s1) X.xe s
def Ap(ho:s.heap.get? it=AC o)(hc:o.cls=.type n)(hd:o.data=.fields vs)
    (hn:["enumerate","zip","dict_itemiterator","dict_reverseitemiterator","odict_iterator","itertools.zip_longest","itertools.pairwise"].contains n=AT) (hQ:Q () s):Ev M A (letOwnedTupleGo tg (.ref it) u) Q E s:=by
  ext tg<;>first
    |show v4 hQ
    | (ext u<;>first
        |show v4 hQ
        | (show T0<|wpAny_load ho ?_
           rw[hc,hd];change Ev M A (if(["enumerate","zip","dict_itemiterator","dict_reverseitemiterator","odict_iterator","itertools.zip_longest","itertools.pairwise"].contains n&&vs[0]?==AC _)=Ch then _ else _) Q E s;rw[W1 (by intro h;rw[hn,Bool.false_and]at h;ext h)];show v4 hQ))
def Itl(K:Da)(a:δ):It:=
 ⟨λ i H=>∃xs x,iY K H a xs/\xs[i]?=AC x,λ i H x H'=>H'=H/\∀xs,iY K H a xs->xs[i]?=AC x,λ i H=>∃xs,iY K H a xs/\xs.n<=i⟩
def Itt(K:Da)(a:δ):It:=
 ⟨λ i H=>∃xs x,l4 K H a xs/\xs[i]?=AC x,λ i H x H'=>H'=H/\∀xs,l4 K H a xs->xs[i]?=AC x,λ i H=>∃xs,l4 K H a xs/\xs.n<=i⟩
def Q8(lo:Int)(n:Nat):It:=(λ i _=>i<n,λ i H x H'=>H'=H/\x=.int (lo+i),λ i _=>n<=i,)
def Fy{K:Da}(a it:δ):Turn P w K tg (Itl K a) [it] it (λ i h=>h.IsListIter it a i) where
 mem:=by simp
 obj:=λ i h st b hb=>by
  let e:b=it:=by simpa using hb
  subst e;let(o,e,c,d):=st;show⟨o,e,λ v z=>by rw[d]at z;ext z⟩
 keep:=λ i h h' st k=>st.at λ o e=>k it ∅ o e
 item:=by intro X hP hw hK hc i B s O H E I hf st hg;subst hP hw hK;let(xs,x,hq,hx):=hg;let(a8,rv,p,hz):=I.list hq;let(u,hu,ru):=rv.get hx;let(f0,f1,f2,f3,f4,f5):=hf it ∅;show wpAny_pyNext_list_item st p.isList (by calc hu) λ h' zk sb=>?_;let I1:=I.turned (t':=s.toks) (λ b o hb e=>(sb.2 b hb).trans e) f0 f1 f3 f4 f5;let(o,e,c,d):=id zk;show(u,rfl,Ap e c d ∅ ⟨x,H,I1,ru,⟨rfl,λ ys hy=>by rw[I.oJ hy hq];show hx⟩,zk,λ b hb=>(hf b hb).1⟩,)
 done:=by intro X hP hw hK hc i B s O H E I hf st hg;subst hP hw hK;let(xs,hq,hx):=hg;let(a8,rv,p,hz):=I.list hq;let(f0,f1,f2,f3,f4,f5):=hf it ∅;let hl:=rv.n;show wpAny_pyNext_list_end (I.ok.hd hc) st p.isList (by simp;lia) λ h' eb=>(rfl,I.turned (λ b o hb e=>eb b o hb e) f0 f1 f3 f4 f5,)
 self:=λ _ _ _ _ _ st h=>wpAny_pyIter_listiter st h
def BD{K:Da}(a it:δ):Turn P w K tg (Itt K a) [it] it (λ i h=>h.IsTupleIter it a i) where
 mem:=by simp
 obj:=λ i h st b hb=>by
  let e:b=it:=by simpa using hb
  subst e;let(o,e,c,d):=st;show⟨o,e,λ v z=>by rw[d]at z;ext z⟩
 keep:=λ i h h' st k=>st.at λ o e=>k it ∅ o e
 item:=by intro X hP hw hK hc i B s O H E I hf st hg;subst hP hw hK;let(xs,x,hq,hx):=hg;let(a8,rv,p,hz):=I.tuple hq;let(u,hu,ru):=rv.get hx;let(f0,f1,f2,f3,f4,f5):=hf it ∅;show wpAny_pyNext_tuple_item st (p) (by calc hu) λ h' zk sb=>?_;let I1:=I.turned (t':=s.toks) (λ b o hb e=>(sb.2 b hb).trans e) f0 f1 f3 f4 f5;let(o,e,c,d):=id zk;show(u,rfl,Ap e c d ∅ ⟨x,H,I1,ru,⟨rfl,λ ys hy=>by rw[I.pG hy hq];show hx⟩,zk,λ b hb=>(hf b hb).1⟩,)
 done:=by intro X hP hw hK hc i B s O H E I hf st hg;subst hP hw hK;let(xs,hq,hx):=hg;let(a8,rv,p,hz):=I.tuple hq;let(f0,f1,f2,f3,f4,f5):=hf it ∅;let hl:=rv.n;show wpAny_pyNext_tuple_end (I.ok.hd hc) st (p) (by simp;lia) λ h' eb=>(rfl,I.turned (λ b o hb e=>eb b o hb e) f0 f1 f3 f4 f5,)
 self:=λ _ _ _ _ _ st h=>wpAny_pyIter_tupleiter st h
def BE{K:Da}(it:δ)(lo:Int)(n:Nat):Turn P w K tg (Q8 lo n) [it] it (λ i h=>IsRangeIter h it (lo+(i)*1) ((n)-(i)) 1) where
 mem:=by simp
 obj:=λ i h st b hb=>by
  let e:b=it:=by simpa using hb
  subst e;show⟨_,st,λ v z=>by let z':=z;ext z'⟩
 keep:=λ i h h' st k=>k it ∅ _ st
 item:=by intro X hP hw hK hc i B s O H E I hf st hg;subst hP hw hK;let(f0,f1,f2,f3,f4,f5):=hf it ∅;let W:=Walks.range (prog:=X.prog) (w:=X.w) (I.ok.hd hc) it lo 1 n;show W.item i s _ _ hg st λ v h' tk hv zk kk=>?_;let(t,rfl):=hv;let I1:Inv X B O H {s with heap:=h',toks:=tk}:=I.turned (λ b o hb e=>kk b o (by calc hb) e) f0 f1 f3 f4 f5;show(_,rfl,Ap zk rfl rfl ∅ ⟨.int<|lo+i,H,I1,⟨t,?_⟩,⟨rfl,rfl⟩,zk,λ b hb=>(hf b hb).1⟩,);rw[B58]
 done:=by intro X hP hw hK hc i B s O H E I hf st hg;subst hP hw hK;let(f0,f1,f2,f3,f4,f5):=hf it ∅;show wpAny_pyNext_range_end (I.ok.hd hc) st (by let:n<=i:=hg;lia) λ h' eb=>(rfl,I.turned (λ b o hb e=>eb b o hb e) f0 f1 f3 f4 f5,)
 self:=λ _ _ _ _ _ st h=>wpAny_pyIter_rangeiter st h
def dF(ta:TA):TI:=λ O H R=>ta O H λ vs H1=>∃j:Int,vs=[.int j]/\-(2^62)<=j/\j<2^62/\R (Q8 0 j.v) H1
def Ah(ta:TA):TI:=λ O H R=>ta O H λ vs H1=>∃i j:Int,vs=[.int i,.int j]/\(-(2^62)<=i/\i<2^62/\-(2^62)<=j/\j<2^62)/\R (Q8 i (j-i).toNat) H1
def aah(wi:TI)(g:TG)(tb:TS):TS:=λ D O H=>wi O H λ J H1=>∃W:Nat->Nat->St->Hp->Prop,(∃m,W 0 m O H1)/\∀i m O H,W i m O H ->
 (J.stop i H/\D.nx O H)\/(J.go i H/\∃N:St->Hp->Prop,(∀O' H',N O' H'->∃m',m'<m/\W (i+1) m' O' H')/\∀x H',J.Bh i H x H'->g x O H' λ O2 H2=>tb {D with nx:=N,ct:=N,bk:=D.nx} O2 H2)
def sF(fp:U δ)(h:ν):U (δ×μ):=fp.filterMap λ b=>(h.get? b).map λ o=>(b,o)
def jX(hb:b∈fp)(e:h.get? b=AC o):(b,o)∈sF fp h:=B89.mpr ⟨b,hb,by rw[e];rfl⟩
def F1(hp:p∈sF fp h):p.1∈fp/\h.get? p.1=AC p.2:=by
 let(b,hb,e):=B89.mp hp;cases q:h.get? b with
 |none=>rw[q]at e;ext e
 |some o=>rw[q]at e;let e':=f8 e;subst e';show(hb,q,)
def Inv.pinned(I:Inv X B O H s)(hf:∀b∈fp,pw X B H b)(ho:∀b∈fp,∃o,s.heap.get? b=AC o/\∀v,o.data≠.cell v):Inv X (B++sF fp s.e) O H s:=
 I.DN λ p hp=>(A37.mp hp).elim (λ z=>I.pin p<|A45 _ z) λ z=>by let(hb,e):=F1 z;let(f0,f1,f2,_):=hf p.1 hb;let(o,e',d):=ho p.1 hb;rw[e]at e';ext e';show(e,f0,f1,f2,d,)
def Inv.nV(I:Inv X (B++pl) O H s):Inv X B O H s:=I.DN λ p hp=>I.pin p<|A45 _<|A70 _ hp
def ID(hp:PassesOwn (model X.prog X.w) X.A X.env X.xe)(hc:X.calm=Ch)(hi:PI X tg iter wi)(hg:PG X tg g)(hb:pq X body tb)
 (hs:Fi iter X.J:=by intro _;rfl):PS X (.For tg iter body [] pos) (aah wi g tb):=by
 intro B s O H D I h;show wpAny_For (b_ (hi B s O H _ I h) λ v s1 h1=>b_ h1 λ itv s2 h2=>?_) hs;let(it,fp,tn,J,H2,e,I2,T,MF,f2,W,(m0,w0),turn):=h2;subst e
 let BK:∀{H'},(∀b∈fp,H' b=At)->∀b∈fp,pw X B H' b:=λ hn b hb=>(hn b hb,(f2 b hb).2,)
 show codeAny_forLoop_any (λ n s'=>∃i O' H',Inv X B O' H' s'/\tn i s'.e/\(∀b∈fp,H' b=At)/\W i n O' H') ?_ m0 ⟨0,O,H2,I2,MF,λ b hb=>(f2 b hb).1,w0⟩;rintro n s3 ⟨i,O3,H3,I3,P9,YC,w3⟩;rcases turn i n O3 H3 w3 with⟨stop,qn⟩|⟨go,N,hN,step⟩
 .refine A90 hp<|b_ (T.done X rfl rfl rfl hc i B s3 O3 H3 X.xe I3 (BK YC) P9 stop) ?_;rintro r s4 ⟨hr,I4⟩;subst hr;show B28 ⟨O3,H3,I4,qn⟩
 .refine A90 hp<|b_ (T.item X rfl rfl rfl hc i B s3 O3 H3 X.xe I3 (BK YC) P9 go) ?_;rintro r s4 ⟨u,hr,h4⟩;subst hr;show A90 hp<|b_ h4 ?_;rintro _ s5 ⟨x,H5,I5,r5,y5,wW,fr5⟩;let I5':=I5.pinned (BK fr5)<|T.obj _ _ wW;show A90 hp<|b_ (hg _ s5 O3 H5 x u _ I5' r5<|step x H5 y5) ?_;rintro _ s6 ⟨O6,H6,I6,q6⟩;show A90 hp<|b_ (hb _ s6 O6 H6 _ I6 q6) λ f s7 q7=>?_;let again:∀{O7}{H7},Inv X (B++sF fp s5.e) O7 H7 s7->N O7 H7->∃m,m<n/\∃i O' H',Inv X B O' H' s7/\tn i s7.e/\(∀b∈fp,H' b=At)/\W i m O' H':=λ {O7 H7} I7 n7=>by let(m',hm,w7):=hN O7 H7 n7;show(m',hm,i+1,O7,H7,I7.nV,T.keep _ _ _ wW λ b hb o e=>(I7.pin (b,o)<|A45 _<|A45 _<|jX hb e).1,λ b hb=>?_,w7,);let(o,e,d):=T.obj _ _ wW b hb;show(I7.pin (b,o)<|A45 _<|A45 _<|jX hb e).2.1
  cases f with
  |next=>let(O7,H7,I7,n7):=q7;show again I7 n7
  |cont=>let(O7,H7,I7,n7):=q7;show again I7 n7
  |brk=>let(O7,H7,I7,q7):=q7;show(O7,H7,I7.nV,q7,)
  |ret v=>let(x7,O7,H7,I7,r7,q7):=q7;show(x7,O7,H7,I7.nV,r7,q7,)
abbrev R2:=V->V->Hp->VK->Prop
def iZ(X:Cx)(f:ζ->ζ->Sem ζ)(r:R2):Prop:=
 ∀ (B:U (δ×μ))(s:θ)(O:St)(H:Hp)(x y:V)(v u:ζ)(Q:VK),Inv X B O H s->RelV x v->RelV y u->r x y H Q ->
  Ev (model X.prog X.w) X.A (f v u) (EP X B O Q) X.xe s
def UnR(X:Cx)(f:ζ->Sem ζ)(r:V->Hp->VK->Prop):Prop:=
 ∀ (B:U (δ×μ))(s:θ)(O:St)(H:Hp)(x:V)(v:ζ)(Q:VK),Inv X B O H s->RelV x v->r x H Q ->
  Ev (model X.prog X.w) X.A (f v) (EP X B O Q) X.xe s
def mM(X:Cx)(f:ζ)(r:U V->Hp->VK->Prop):Prop:=
 ∀ (B:U (δ×μ))(s:θ)(O:St)(H:Hp)(xs:U V)(us:U ζ)(Q:VK),Inv X B O H s->Vals xs us->r xs H Q ->
  Ev (model X.prog X.w) X.A (call f us) (EP X B O Q) X.xe s
def Mw(r:R2)(ta tb:TE):TE:=λ O H Q=>ta O H λ x H1=>tb O H1 λ y H2=>r x y H2 Q
def tUn(r:V->Hp->VK->Prop)(ta:TE):TE:=λ O H Q=>ta O H λ x H1=>r x H1 Q
def rI(C:Int->Int->Prop)(g:Int->Int->V):R2:=λ x y H Q=>∃i j,x=.int i/\y=.int j/\C i j/\Q (g i j) H
def MY(g:Int->Int->V):R2:=λ x y H Q=>∃i j,x=.int i/\y=.int j/\Q (g i j) H
def rU(g:Int->V):V->Hp->VK->Prop:=λ x H Q=>∃i,x=.int i/\Q (g i) H
def US(ha:PE X a ta)(hb:PE X b tb){R:V->V->Hp->Prop}(I:Inv X B O H s)
 (h:ta O H λ x H1=>tb O H1 λ y H2=>R x y H2){f:ζ->ζ->Sem ζ}
 (hf:∀v u s2 x y H2,Inv X B O H2 s2->RelV x v->RelV y u->R x y H2->Ev (model X.prog X.w) X.A (f v u) Q X.xe s2) :
 Ev (model X.prog X.w) X.A (eval a X.J) (λ v s₁=>Ev (model X.prog X.w) X.A (eval b X.J) (λ u s₂=>Ev (model X.prog X.w) X.A (f v u) Q X.xe s₂) X.xe s₁) X.xe s:=by
 show b_ (ha B s O H _ I h) ?_;rintro v s1 ⟨x,H1,I1,r1,q1⟩;show b_ (hb B s1 O H1 _ I1 q1) ?_;rintro u s2 ⟨y,H2,I2,r2,q2⟩;show hf v u s2 x y H2 I2 r1 r2 q2
def DQ(ho:iZ X (binaryOp op) r)(ha:PE X a ta)(hb:PE X b tb):PE X (.BinOp a op b pos) (Mw r ta tb):=by intro B s O H Q I h;show wpAny_BinOp<|US ha hb I h λ v u s2 x y H2 I2 rx ry q=>ho B s2 O H2 x y v u Q I2 rx ry q
def WH(ho:UnR X (unaryOp op) r)(ha:PE X a ta):PE X (.UnaryOp op a pos) (tUn r ta):=by intro B s O H Q I h;show UnaryOp_<|b_ (ha B s O H _ I h) <|by rintro v s1 ⟨x,H1,I1,r1,q1⟩;show ho B s1 O H1 x v Q I1 r1 q1
theorem WR{g:Int->Int->Int}
 (rule:∀i j t u s Q E,C i j->Q (.int (g i j) s.toks) {s with toks:=s.toks+1}->Ev (model X.prog X.w) X.A (f (.int i t)<|.int j u) Q E s) :
 iZ X f (rI C λ i j=>.int<|g i j):=by
 intro B s O H x y v u Q I rx ry h;let(i,j,rfl,rfl,hc,q):=h;let(t,rfl):=rx;let(t',rfl):=ry;show rule i j t t' s _ _ hc ⟨.int _,H,I.tok _,⟨_,rfl⟩,q⟩
theorem WQ{g:Int->Int->Int}
 (rule:∀i j t u s Q E,Q (.int (g i j) s.toks) {s with toks:=s.toks+1}->Ev (model X.prog X.w) X.A (f (.int i t)<|.int j u) Q E s) :
 iZ X f (MY λ i j=>.int<|g i j):=by
 intro B s O H x y v u Q I rx ry h;let(i,j,rfl,rfl,q):=h;let(t,rfl):=rx;let(t',rfl):=ry;show rule i j t t' s _ _ ⟨.int _,H,I.tok _,⟨_,rfl⟩,q⟩
def Nj{g:Int->Int->Bool}
 (rule:∀i j t u s Q E,Q (.bool<|g i j) s->Ev (model X.prog X.w) X.A (f (.int i t)<|.int j u) Q E s) :
 iZ X f (MY λ i j=>.bl<|g i j):=by
 intro B s O H x y v u Q I rx ry h;let(i,j,rfl,rfl,q):=h;let(t,rfl):=rx;let(t',rfl):=ry;show rule i j t t' s _ _ ⟨.bl _,H,I,rfl,q⟩
def adq(i j:Int):Prop:=0<=j/\j<=1000000/\i.natAbs<2^64
def Sa:iZ X (binaryOp .Add) (MY λ i j=>.int<|i+j):=WQ λ _ _ _ _ _ _ _ q=>add_int q
def R7:iZ X (binaryOp .Sub) (MY λ i j=>.int<|i-j):=WQ λ _ _ _ _ _ _ _ q=>sub_int q
def R!:iZ X (binaryOp .Mod) (rI (λ _ j=>0<j) λ i j=>.int<|i % j):=WR λ i j _ _ _ _ _ hc q=>by show mod_int' ∅ (by rw[Int.fmod_eq_emod_of_nonneg i ∅];show q)
def R9:iZ X (binaryOp .Pow) (rI adq λ i j=>.int<|i^j.v):=WR λ _ _ _ _ _ _ _ hc q=>pow_int_small hc.1 hc.2.1 hc.2.2 q
theorem unI{g:Int->Int}
 (rule:∀i t s Q E,Q (.int (g i) s.toks) {s with toks:=s.toks+1}->Ev (model X.prog X.w) X.A (f<|.int i t) Q E s) :
 UnR X f (rU λ i=>.int<|g i):=by
 intro B s O H x v Q I rx h;let(i,rfl,q):=h;let(t,rfl):=rx;show rule i t s _ _ ⟨.int _,H,I.tok _,⟨_,rfl⟩,q⟩
def Rk:UnR X (unaryOp .USub) (rU λ i=>.int<|-i):=unI λ _ _ _ _ _ q=>neg_int q
def xQ(I:Inv X B O H s)(q:Q (.bl k) H)(e:k=k'):EP X B O Q (.bool k') s:=by subst e;show(.bl k,H,I,rfl,q,)
def WK:iZ X (compareOp .Lt) (MY λ i j=>.bl<|decide<|i<j):=Nj λ _ _ _ _ _ _ _ q=>lt_int q
def WL:iZ X (compareOp .LtE) (MY λ i j=>.bl<|decide<|i<=j):=Nj λ _ _ _ _ _ _ _ q=>le_int q
def WN:iZ X (compareOp .Gt) (MY λ i j=>.bl<|decide<|j<i):=Nj λ _ _ _ _ _ _ _ q=>gt_int q
def WO:iZ X (compareOp .GtE) (MY λ i j=>.bl<|decide<|j<=i):=Nj λ _ _ _ _ _ _ _ q=>ge_int q
def IW:iZ X (compareOp .Is) (λ x y H Q=>y=.non/\Q (.bl<|decide<|x=.non) H):=by
 intro B s O H x y v u Q I rx ry h;let(rfl,q):=h;ext ry;show is_none_gen<|xQ I q ?_;ext x<;>first
  |(ext rx;rfl)
  |(let(t,rfl):=rx;rfl)
def Na:iZ X (compareOp .IsNot) (λ x y H Q=>y=.non/\Q (.bl<|!decide (x=.non)) H):=by
 intro B s O H x y v u Q I rx ry h;let(rfl,q):=h;ext ry;show isnot_none_gen<|xQ I q ?_;ext x<;>first
  |(ext rx;rfl)
  |(let(t,rfl):=rx;rfl)
def xo:iZ X (compareOp .NotIn) (λ x y H Q=>∃i j,x=.str i/\y=.str j/\Q (.bl<|!(!(Sc j i 0 j.length 1).isEmpty)) H):=by intro B s O H x y v u Q I rx ry h;let(i,j,rfl,rfl,q):=h;let(t,rfl):=rx;let(t',rfl):=ry;show notIn_str<|xQ I q rfl
def iZ.or(h:iZ X f r)(h':iZ X f r'):iZ X f (λ x y H Q=>r x y H Q\/r' x y H Q):=by
 intro B s O H x y v u Q I rx ry q;rcases q with q|q
 .exact h B s O H x y v u Q I rx ry q
 .exact h' B s O H x y v u Q I rx ry q
def mY(b:ι)(h:op≠.In:=by decide)(h2:op≠.NotIn:=by decide):behindInMarks op b=AT:=by
 let e1:(op==CmpOp.In)=AT:=by ext op<;>first|rfl|show absurd rfl h
 let e2:(op==CmpOp.NotIn)=AT:=by ext op<;>first|rfl|show absurd rfl h2
 ext b<;>simp[behindInMarks,e1,e2]
def xl(ho:iZ X (compareOp op) r)(ha:PE X a ta)(hb:PE X b tb)(hm:behindInMarks op b=AT):PE X (.Compare a [op] [b] pos) (Mw r ta tb):=by intro B s O H Q I h;show wpAny_Compare1 (US ha hb I h λ v u s2 x y H2 I2 rx ry q=>ho B s2 O H2 x y v u Q I2 rx ry q) hm
def HV(t:TE):TT:=λ O H Q=>t O H λ x H'=>∃k,x=.bl k/\Q k H'
def rl(ho:iZ X (compareOp op) r)(ha:PE X a ta)(hb:PE X b tb)(hm:behindInMarks op b=AT):PT X (.Compare a [op] [b] pos) (HV<|Mw r ta tb):=by
 intro B s O H Q I h;show wpAny_isTrue_Compare1 (b_ (ha B s O H _ I h) λ v s1 ⟨x,H1,I1,r1,q1⟩=>b_ (hb B s1 O H1 _ I1 q1) λ u s2 ⟨y,H2,I2,r2,q2⟩=>b_ (ho B s2 O H2 x y v u _ I2 r1 r2 q2) ?_) hm;rintro c s3 ⟨z,H3,I3,r3,k,e,q3⟩
 subst e;ext r3;show A66 ⟨H3,I3,q3⟩
def BJ(r r':R2)(ta tb tc:TE):TE:=λ O H Q=>ta O H λ x H1=>tb O H1 λ y H2=>r x y H2 λ z H3=>∃k,z=.bl k /\
 (if k=Ch then tc O H3 λ w' H4=>r' y w' H4 Q else Q (.bl AT) H3)
def IP(ho:iZ X (compareOp op) r)(oR:iZ X (compareOp FW) r')(ha:PE X a ta)(hb:PE X b tb)(hc:PE X c tc)
 (hm:lastMarks [op,FW] [b,c]=AT:=by with_unfolding_all rfl):PE X (.Compare a [op,FW] [b,c] pos) (BJ r r' ta tb tc):=by
 intro B s O H Q I h;show Compare_chain (b_ (ha B s O H _ I h) λ v s1 ⟨x,H1,I1,r1,q1⟩=>chain_link<|b_ (hb B s1 O H1 _ I1 q1) λ u s2 ⟨y,H2,I2,r2,q2⟩=>b_ (ho B s2 O H2 x y v u _ I2 r1 r2 q2) ?_) hm;rintro d s3 ⟨z,H3,I3,r3,k,e,q3⟩
 subst e;ext r3;show A66 ?_;cases k with
 |false=>show ite_ff ⟨.bl AT,H3,I3,rfl,q3⟩
 |true=>show ite_tt<|chain_last<|b_ (hc B s3 O H3 _ I3 q3) <|by rintro w' s4 ⟨z',H4,I4,r4,q4⟩;show oR B s4 O H4 y z' u w' Q I4 r2 r4 q4
def IA(ho:iZ X (compareOp op) r)(oR:iZ X (compareOp FW) r')(ha:PE X a ta)(hb:PE X b tb)(hc:PE X c tc)
 (hm:lastMarks [op,FW] [b,c]=AT:=by with_unfolding_all rfl):PT X (.Compare a [op,FW] [b,c] pos) (HV<|BJ r r' ta tb tc):=by
 intro B s O H Q I h;show isTrue_chain (b_ (ha B s O H _ I h) λ v s1 ⟨x,H1,I1,r1,q1⟩=>test_link<|b_ (hb B s1 O H1 _ I1 q1) λ u s2 ⟨y,H2,I2,r2,q2⟩=>b_ (ho B s2 O H2 x y v u _ I2 r1 r2 q2) ?_) hm;rintro d s3 ⟨z,H3,I3,r3,k,e,q3⟩
 subst e;ext r3;show A66 ?_;cases k with
 |false=>let(k',e',q'):=q3;ext e';show ite_ff ⟨H3,I3,q'⟩
 |true=>show ite_tt<|test_last<|b_ (hc B s3 O H3 _ I3 q3) λ w' s4 ⟨z',H4,I4,r4,q4⟩=>b_ (oR B s4 O H4 y z' u w' _ I4 r2 r4 q4) ?_;rintro d' s5 ⟨z2,H5,I5,r5,k2,e2,q5⟩;subst e2;ext r5;show A66 ⟨H5,I5,q5⟩
def xE:(sizeLine)<2^63:=by rw[A32];decide
def BY:iZ X (binaryOp .Add) (λ x y H Q=>∃i j,x=.str i/\y=.str j/\i.n+j.n<=sizeLine/\Q (.str<|i++j) H):=by intro B s O H x y v u Q I rx ry h;let(i,j,rfl,rfl,hz,q):=h;let(t,rfl):=rx;let(t',rfl):=ry;show add_str (λ t' tk=>(.str _,H,I.tok _,(_,rfl,),q,)) hz
def vals1(r:Vals [x] us):∃u,us=[u]/\RelV x u:=by
 cases r with
 |cons r1 r2=>ext r2;show(_,rfl,r1,)
def vals2(r:Vals [x,y] us):∃u w',us=[u,w']/\RelV x u/\RelV y w':=by
 cases r with
 |cons r1 r2=>
  cases r2 with
  |cons r3 r4=>ext r4;show(_,_,rfl,r1,r3,)
def G1(hc:X.calm=Ch):mM X (.builtin "max") (λ xs H Q=>∃i j,xs=[.int i,.int j]/\Q (.int<|if j>i then j else i) H):=by
 intro B s O H xs us Q I r h;let(i,j,rfl,q):=h;let(u,w',rfl,(t,rfl),(t',rfl)):=vals2 r;show max_two_ints (I.ok.hd hc) λ h' tk k=>(_,H,I.kept k,?_,q,)
 by_cases hj:j>i
 .rw[M2 hj,M2 hj];show(_,rfl,)
 .rw[W1 hj,W1 hj];show(_,rfl,)
def GZ(hc:X.calm=Ch):mM X (.builtin "min") (λ xs H Q=>∃i j,xs=[.int i,.int j]/\Q (.int<|if j<i then j else i) H):=by
 intro B s O H xs us Q I r h;let(i,j,rfl,q):=h;let(u,w',rfl,(t,rfl),(t',rfl)):=vals2 r;show min_two_ints (I.ok.hd hc) λ h' tk k=>(_,H,I.kept k,?_,q,)
 by_cases hj:j<i
 .rw[M2 hj,M2 hj];show(_,rfl,)
 .rw[W1 hj,W1 hj];show(_,rfl,)
def G2:mM X (.type "int") (λ xs H Q=>(∃i,xs=[.int i]/\Q (.int i) H)\/∃k,xs=[.bl k]/\Q (.int<|if k then 1 else 0) H):=by
 intro B s O H xs us Q I r h;rcases h with⟨i,rfl,q⟩|⟨k,rfl,q⟩
 .let(u,rfl,t,rfl):=vals1 r;show call_int_int ⟨.int i,H,I,⟨_,rfl⟩,q⟩
 .let(u,rfl,r1):=vals1 r;ext r1;show call_int_bool ⟨.int _,H,I.tok _,⟨_,rfl⟩,q⟩
def adl(K:Da)(x:V)(H:Hp)(n:Nat):Prop:=
 match x with
 |.str y=>y.n<=sizeLine/\n=y.n
 |.VG y=>y.u<=sizeLine/\n=y.u
 |.ref p=>(∃xs,iY K H p xs/\n=xs.n)\/∃xs,l4 K H p xs/\n=xs.n
 |_=>False
def Lc:mM X (.builtin "len") (λ xs H Q=>∃x n,xs=[x]/\adl X.K x H n/\Q (.int n) H):=by
 intro B s O H xs us Q I r h;let(x,n,rfl,e,q):=h;let(u,rfl,rx):=vals1 r;let hl:=xE;let hs:=A32;cases x with
 |str y=>let(t,rfl):=rx;obtain⟨hy,e'⟩:y.n<=sizeLine/\n=y.n:=e;subst e';show len_str ∅ ⟨.int _,H,I.tok _,⟨_,rfl⟩,q⟩
 |VG y=>let(t,rfl):=rx;obtain⟨hy,e'⟩:y.u<=sizeLine/\n=y.u:=e;subst e';show PySem.W.len_bytes ∅ ⟨.int _,H,I.tok _,⟨_,rfl⟩,q⟩
 |ref p=>
  ext rx;let e':=e;rcases e' with⟨xs,hx,e'⟩|⟨xs,hx,e'⟩
  .subst e';let(a8,r',pl,hz):=I.list hx;let ψ:=r'.n;show Calls.call_len_list pl.isList (by erw[A12];lia) ⟨.int _,H,I.tok _,⟨_,by erw[A12];rw[ψ]⟩,q⟩
  .subst e';let(a8,r',pl,hz):=I.tuple hx;let ψ:=r'.n;show len_tuple pl (by erw[A12];lia) ⟨.int _,H,I.tok _,⟨_,by erw[A12];rw[ψ]⟩,q⟩
 |_=>show(e).elim
structure CW(h:Heap)(x dx C:Addr)(mA:Str->Option Value):Prop where
 obj:h.get? x=AC (SL C dx)
 ns:h.Ns1 dx mA
 ne:dx≠x
def vO{h:ν}(n:h.Ns1 dx mA):∃od,h.get? dx=AC od/\∀name,Wp name od=AC (mA name):=by
 let(o,es,ep,ho,hd,hk,_,hm):=n;show(o,ho,λ name=>?_,);let e:=hm name;unfold nsFind findBy at e;rw[<-Array.find?_toList]at e;unfold Wp;rw[hd];dsimp only;split
 .rename_i y q;rw[q]at e;show A14 AC e
 .rename_i q;rw[q]at e;let a:es.toList.any (·.refKey)=AT:=by rw[List.any_eq_false];intro y hy;let(z,t,abR):=hk y (Array.mem_toList_iff.mp hy);simp[DictEntry.refKey,abR]
  let a':¬es.toList.any (·.refKey)=Ch:=by rw[a];show A75
  rw[W1 a'];show A14 AC e
def CW.look(I:CW h x dx C mA):∃od,PySem.W.InstAt h x (SL C dx) C (AC od)/\∀name,Wp name od=AC (mA name):=
 let ⟨od,ho,hl⟩:=vO I.ns
 ⟨od,⟨I.obj,rfl,rfl,ho⟩,hl⟩
section
variable{K:Da}
theorem get_map(X:K.In s.e)(I:CW s.heap x dx C mA)(hg:Tl K C name=Ch)(hh:ZB K C=Ch)
 (ha:Fk K (.ref C) name=AC At) (hv:mA name=AC v) (LS:AB3 v=Ch) (h:Q v {s with toks:=s.toks+1}) :
 Ev (model prog w) A (getAttr (.ref x) name expr) Q E s:=by
 let(od,J,hl):=I.look;show PySem.W.get_value X J (B90 hg).1 (nw hh ha rfl (by rw[hl,hv])) LS h
def Ke(X:K.In s.e)(I:CW s.heap x dx C mA)(hg:Tl K C name=Ch)
 (hf:Fk K (.ref C) name=AC (AC<|.ref f)) (ht:AA1 K (.ref f)=Ch) (hv:mA name=At) (h:Q (.ref f,[.ref x]) s) :
 Ev (model prog w) A (getMethod (.ref x) name pl) Q E s:=by
 let(od,J,hl):=I.look;show PySem.W.method_fn X J (B90 hg).1 (B90 hg).2 hf (A41.mp ht) (by change(Wp name od).map _=AC AT;rw[hl,hv];rfl) h
theorem MN(X:K.In s.e)(I:CW s.heap x dx C mA)
 (hs:Fk K (.ref C) "__setattr__"=AC (AC<|.builtin "object.__setattr__")) (hp:AA2 K C=Ch) (ht:bv K C name=AC At) (hh:ZB K C=Ch)
 (hw:AA4 mA ns) (Eu:ns.n<=sizeLine)
 (h:∀h',CW h' x dx C (λ y=>if y=name then AC v else mA y)->IN dx s.heap h'->Q () {s with heap:=h',toks:=s.toks+2}) :
 Ev (model prog w) A (setAttr (.ref x) name v) Q E s:=by
 let(od,J,hl):=I.look;show AA3 X J hs<|PySem.W.osa_open X J hp ht λ b=>?_;let(cd,hc,qY):=PySem.W.any_some hh;let hx:=I.obj;show T0<|v4<|T0<|T0<|B91 hx<|T0<|PySem.W.Looks.here (pc X hc) ?_;rw[qY];show v4<|T0<|v4<|T0 ?_;show wpAny_nsSet1 I.ns λ h' J3 Aj=>?_;let(oD,esD,epD,hoD,hdD,hcD):=J3.count (PySem.Within.cons name v hw);show T0<|wpAny_lookBehind hoD (by rw[hdD];show pastItsLine_dict<|A15 hcD (by rw[A29];lia)) ?_;show v4<|h _ ⟨(Aj.2 _<|A10 I.ne).trans I.obj,J3,I.ne⟩ Aj
theorem JC(X:K.In s.e)(hm:bn K C=Ch)
 (hi:Fk K (.ref C) "__init__"=AC (AC<|.ref f)) (hf:PySem.W.typeIn K (.ref f)=AC (.type "function"))
 (h:codeAny (model prog w) (A.under<|.builtin "type.__call__" ⟨.ref C::vs,kw⟩) (.call (.ref f) ⟨.ref (s.t+1)::vs,kw⟩) (PySem.W.InitBack (s.t+1) R)
  {s with heap:=(s.heap.push Os).push<|PySem.W.instObj C s.t}) :
 codeAny (model prog w) A (.call (.ref C) ⟨vs,kw⟩) R s:=by
 let(hh,g,d,t,os):=s;show PySem.W.make_core (PySem.W.makes_of X hm) (ii X hi) (λ self=>PySem.W.bind_fn X self hf) (.inl rfl) h
end
def jV(f:Str)(v:V):U (Str×V)->U (Str×V)
|[]=>[(f,v)]
|(g,x)::r=>if g=f then(g,v)::r else(g,x)::jV f v r
def qt(f g:Str)(v:V):∀ fs,(jV f v fs).lookup g=if g=f then AC v else fs.lookup g
|[]=>by
 change Fa g [(f,v)]=_;by_cases h:g=f
 .let hb:=A41.mpr h;erw[Fa,hb,M2 h]
 .let hb:=A51.mpr h;erw[Fa,hb,W1 h]
|(k,x)::r=>by
 let ih:=qt f g v r;rw[show jV f v _=(if k=f then(k,v)::r else(k,x)::jV f v r)from rfl];by_cases hk:k=f
 .rw[M2 hk];by_cases h:g=k
  .let hb:=A41.mpr h;erw[Fa,hb,M2<|h.trans hk]
  .let hb:=A51.mpr h;erw[Fa,hb,W1 λ e:g=f=>h<|e.trans hk.a]
 .rw[W1 hk];by_cases h:g=k
  .let hb:=A41.mpr h;erw[Fa,hb,W1 λ e=>hk<|h.symm.trans e]
  .let hb:=A51.mpr h;erw[Fa,hb];show ih
def pT(f:Str)(v:V):∀ fs,f∈(jV f v fs).map (·.1)/\∀ g,g∈fs.map (·.1)->g∈(jV f v fs).map (·.1)
|[]=>⟨by simp[jV],λ g h=>by simp at h⟩
|(k,x)::r=>by
 let(i1,i2):=pT f v r;rw[show jV f v _=(if k=f then(k,v)::r else(k,x)::jV f v r)from rfl];by_cases hk:k=f
 .rw[M2 hk];subst hk;show⟨by simp,λ g h=>by calc h⟩
 .rw[W1 hk];show(?_,λ g h=>?_,)
  .rw[A00];show A09 _ i1
  .rw[A00]at h ⊢;rcases A01.mp h with e|e
   .exact A01.mpr<|.inl e
   .exact A09 _<|i2 g e
def qw(f:Str)(v:V):∀fs,(jV f v fs).length<=fs.n+1
|[]=>by simp[jV]
|(k,x)::r=>by
 let ih:=qw f v r;rw[show jV f v _=(if k=f then(k,v)::r else(k,x)::jV f v r)from rfl];by_cases hk:k=f
 .rw[M2 hk,A29,A29];lia
 .rw[W1 hk,A29,A29];lia
def jo.some_of(r:jo (AC v) o):∃u,o=AC u/\RelV v u:=by
 cases o with
 |none=>show(r).elim
 |some u=>show(u,rfl,r,)
def jo.none_of(r:jo At o):o=At:=by
 cases o with
 |none=>rfl
 |some u=>show(r).elim
def vU(r:RelV v u):AB3 u=Ch:=by
 cases v with
 |non=>cases (r);rfl
 |bl b=>cases (r);rfl
 |int i=>obtain⟨t,e⟩:=(r);ext e;rfl
 |str x=>obtain⟨t,e⟩:=(r);ext e;rfl
 |VG b=>obtain⟨t,e⟩:=(r);ext e;rfl
 |_H b=>obtain⟨t,e⟩:=(r);ext e;rfl
 |ref a=>cases (r);rfl
 |ty n=>cases (r);rfl
def xH(bO:kK P w H h)(e:H a=AC (.ins C dx fs)):∃mA,CW h a dx C mA/\(∀f,jo (fs.lookup f) (mA f))/\AA4 mA (fs.map (·.1))/\fs.n<=1000/\H dx=AC (.own a):=by
 obtain⟨d,z,ne,ob,mA,n,r,q⟩:=(bO a _ e)
 show(mA,(ob,n,ne,),r,q,z,d,)
structure Ly(K:Da)(C:Addr):Prop where
 pg:Tl K C Str.empty=Ch
 hd:ZB K C=Ch
 po:AA2 K C=Ch
 sa:Fk K (.ref C) "__setattr__"=AC (AC<|.builtin "object.__setattr__")
def Ly.get{K:Da}(c:Ly K C)(f:Str):Tl K C f=Ch:=c.pg
def qb(K:Da)(C:δ)(f:Str):Prop:=Fk K (.ref C) f=AC At
def qb.V6{K:Da}(n:qb K C f):bv K C f=AC At:=by unfold bv;rw[n];rfl
structure Meth(K:Da)(C:Addr)(m:Str)(f:Addr):Prop where
 at_:Fk K (.ref C) m=AC (AC<|.ref f)
 fn:AA1 K (.ref f)=Ch
 kp:FS K (.ref f)=Ch
def Cj(I:Inv X B O H s)(e:H a=AC (.ins C dx fs))(c:Ly X.K C)(n:qb X.K C f)(l:fs.lookup f=AC v)
 (h:∀u s',Inv X B O H s'->RelV v u->Q u s'):Ev (model X.prog X.w) A (getAttr (.ref a) f b) Q E s:=by
 let(mA,σ,r,_,_,_):=xH I.bO e;let(u,hu,ru):=jo.some_of (v:=v) (o:=mA f) (by rw[<-l];show r f);show get_map I.lP σ (c.get f) c.hd n hu (vU ru)<|h u _ (I.tok _) ru
def nr(I:Inv X B O H s)(e:H a=AC (.ins C dx fs))(c:Ly X.K C)(k:Meth X.K C m g)(l:fs.lookup m=At)
 (h:Q (.ref g,[.ref a]) s):Ev (model X.prog X.w) A (getMethod (.ref a) m pl) Q E s:=by
 let(mA,σ,r,_,_,_):=xH I.bO e;let hn:=jo.none_of (by rw[<-l];show r m);show Ke I.lP σ (c.get m) k.at_ k.fn hn h
def BN(I:Inv X B O H s)(e:H a=AC (.ins C dx fs))(c:Ly X.K C)(n:qb X.K C f)(hl:fs.n<1000)(ry:RelV y u)
 (h:∀s',Inv X B O (upd H a<|.ins C dx<|jV f y fs) s'->Q () s'):Ev (model X.prog X.w) A (setAttr (.ref a) f u) Q E s:=by
 let(mA,σ,r,wi,_,ho):=xH I.bO e;let hz:(fs.map (·.1)).length<=sizeLine:=by rw[A08,A32];lia
 show MN I.lP σ c.sa c.po n.V6 c.hd wi hz λ h' σ' sb=>h _ ?_;let hd:∃o,h'.get? dx=AC o:=let ⟨o,_,_,e',_⟩:=σ'.ns;⟨o,e'⟩;show I.write (by rw[e];show IR) (.inr ho) (λ b q hb z=>(sb.2 b hb).trans z) hd ?_;show⟨by rw[av σ.ne];show ho,?_,σ.ne,σ'.obj,_,σ'.ns,λ g=>?_,λ g hg=>?_⟩
 .let:=qw f y fs;lia
 .skip
  rw[qt];by_cases q:g=f
  .rw[M2 q,M2 q];show ry
  .rw[W1 q,W1 q];show r g
 .by_cases q:g=f
  .rw[q];show(pT f y fs).1
  .refine(pT f y fs).2 g<|wi g λ z=>hg ?_;change(if g=f then AC u else mA g)=At;rw[W1 q];show z
def Inv.made(I:Inv X B O H s):Inv X B O (upd (upd H s.heap.objs.size<|.own<|s.t+1) (s.t+1)<|.ins C s.heap.objs.size [])
 {s with heap:=(s.heap.push Os).push<|PySem.W.instObj C s.t}:=by
 let e1:(s.heap.push _).get? _=AC Os:=A17 _ rfl;let e2:((s.heap.push Os).push<|PySem.W.instObj C s.t).get? (s.t+1)=AC (SL C s.t):=by let:=A17 (s.heap.push Os) (o:=SL C s.t) rfl;rwa [A56]at this
 let e3:(s.heap.push _).Ns _ (λ _=>At):=(_,#[],_,e1,rfl,(λ e he=>absurd he ∅),λ _=>rfl,)
 let I1:=I.laid (o:=.own (s.t+1)) (t':=s.toks) (λ b u q=>A03 _ q) (P3 _) ⟨_,e1⟩;show I1.laid (λ b u q=>A03 _ q) (B92<|A56 _ _) ?_;let ne:s.heap.objs.size≠s.t+1:=A16<|A65 _;show⟨by rw[av ne,aE],A57 _,ne,e2,λ _=>At,(Heap.Ns1.of_empty e3).at λ o q=>A03 _ q,λ _=>IR,λ y hy=>absurd rfl hy⟩
def E3(hb:attributeBase e f env (eval e env)=eval e env)
 (h:Ev (model prog w) A (eval e env) (λ o s₁=>Ev (model prog w) A (getAttr o f Ch) Q E s₁) E s):Ev (model prog w) A (eval (.Attribute e f pos) env) Q E s:=
 Attribute_any_ h (by rw[arm_eval_Attribute,hb])
def aai(K:Da)(ta:TE)(f:Str):TE:=λ O H Q=>ta O H λ x H1=>∃a C dx fs v,x=.ref a/\H1 a=AC (.ins C dx fs)/\Ly K C/\qb K C f/\fs.lookup f=AC v/\Q v H1
def aav(K:Da)(ta tv:TE)(f:Str):TS:=λ D O H=>tv O H λ y H1=>ta O H1 λ x H2=>∃a C dx fs,x=.ref a/\H2 a=AC (.ins C dx fs)/\Ly K C/\qb K C f/\fs.n<1000 /\
 D.nx O (upd H2 a<|.ins C dx<|jV f y fs)
def RZ(he:PE X e ta)(hb:attributeBase e f X.env (eval e X.J)=eval e X.J):PE X (.Attribute e f pos) (aai X.K ta f):=by intro B s O H Q I h;show E3 hb<|b_ (he B s O H _ I h) ?_;rintro u s1 ⟨x,H1,I1,rx,a,C,dx,fs,v,ex,ea,c,n,l,q⟩;subst ex;obtain rfl:u=Value.ref a:=rx;show Cj I1 ea c n l λ u' s2 I2 ru=>(v,H1,I2,ru,q,)
def RN(ha:PE X o ta)(hv:PE X value tv)(hs:swapsWith value (AC<|.Attribute o f pos') pos.line X.J=pure AT):PS X (.Assign [.Attribute o f pos'] value pos) (aav X.K ta tv f):=by intro B s O H D I h;show C54 (b_ (hv B s O H _ I h) λ u s1 ⟨y,H1,I1,ry,q⟩=>b_ (ha B s1 O H1 _ I1 q) ?_) hs;rintro ov s2 ⟨x,H2,I2,rx,a,C,dx,fs,ex,ea,c,n,l,q2⟩;subst ex;obtain rfl:ov=Value.ref a:=rx;show BN I2 ea c n l ry λ s3 I3=>(O,_,I3,q2,)
structure bu(k:Nat)(A:Around):Prop where
 hd:A.handled=At
 dp:A.depth+3*k+5<recursionLimit
 un:A.units+16*k+200<cLine
def bu.mono(r:bu k A)(h:j<=k):bu j A:=⟨r.hd,by let:=r.dp;lia,by let:=r.un;lia⟩
def bu.deeper(r:bu (k+1) A)(env:Env):bu k (A.deeper env):=
 ⟨r.hd,by let:=r.dp;change A.depth+1+3*k+5<_;lia,by let:=r.un;change A.units+3+16*k+200<_;lia⟩
def bu.in1(r:bu (k+1) A):bu k A.in1:=
 ⟨r.hd,by let:=r.dp;lia,by let:=r.un;lia⟩
def B4{A:τ}{C:δ}{us:U ζ}{kw:U (Str×ζ)}:(A.under<|.builtin "type.__call__" ⟨.ref C::us,kw⟩).depth=A.depth+1:=by first| rfl| simp[Around.under,Code.weight,Code.isCreation,Code.isGuard,Code.isCaller,Code.frames,Code.isFrame,guardIds]
def B3{A:τ}:(A.under<|.builtin "type.__call__" ⟨.ref C::us,kw⟩).units=A.units+1:=by first| rfl| simp[Around.under,Code.cUnits,Code.frames,Code.isFrame]
def bu.make(r:bu (k+1) A)(C:δ)(us:U ζ)(kw:U _):bu k (A.under<|.builtin "type.__call__" ⟨.ref C::us,kw⟩):=
 ⟨r.hd,by let:=r.dp;rw[B4];lia,by let:=r.un;rw[B3];lia⟩
def bu.depth(r:bu k A):A.depth<recursionLimit:=by let:=r.dp;lia
def bu.units(r:bu k A):A.units+64<cLine:=by let:=r.un;lia
def My:TA:=λ _ H Q=>Q [] H
def HW(ta:TE)(tr:TA):TA:=λ O H Q=>ta O H λ x H1=>tr O H1 λ xs H2=>Q (x::xs) H2
def cE:PA X [] My:=λ _ _ _ _ H Q I h=>B93 ⟨[],H,I,.nil,h⟩
def bw(ha:PE X e te)(hr:PA X es t)(hs:Se e es X.J:=by rfl):PA X (e::es) (HW te t):=by intro pos B s O H Q I h;rw[hs];show B94<|b_ (ha B s O H _ I h) ?_;rintro u s1 ⟨x,H1,I1,r1,q1⟩;show b_ (hr pos B s1 O H1 _ I1 q1) <|by rintro us s2 ⟨xs,H2,I2,r2,q2⟩;show(x::xs,H2,I2,.cons r1 r2,q2,)
def aab(t:TA):TE:=λ O H Q=>t O H λ xs H1=>xs.n<=sizeLine/\∀p,H1 p=At->Q (.ref p) (upd H1 p<|.tup xs)
def aaf(t:TA):TE:=λ O H Q=>t O H λ xs H1=>xs.n<=sizeLine/\∀p,H1 p=At->Q (.ref p) (upd H1 p<|.lst xs)
def RT(h:PA X es t):PE X (.Tuple es x1 pos) (aab t):=by intro B s O H Q I hq;show wpAny_Tuple_spliced<|b_ (h pos B s O H _ I hq) λ us s1 ⟨xs,H1,I1,r,z,q⟩=>⟨by rw[<-r.n];show z,?_⟩;let hf:=I1.bO.fresh<|P3 _;show(.ref _,_,I1.laid (λ b u e=>A03 _ e) (P3 _) ?_,rfl,q _ hf,);show(z,us,r,pj.new _ _,)
def RX(h:PA X es t):PE X (.List es pos) (aaf t):=by intro B s O H Q I hq;show wpAny_List_spliced<|b_ (h pos B s O H _ I hq) λ us s1 ⟨xs,H1,I1,r,z,q⟩=>⟨by rw[<-r.n];show z,?_⟩;let hf:=I1.bO.fresh<|P3 _;show(.ref _,_,I1.laid (λ b u e=>A03 _ e) (P3 _) ?_,rfl,q _ hf,);show(z,us,0,r,A17 _ rfl,)
abbrev Sp:=U V->Hp->VK->XK->Prop
abbrev U!:=U Env->Hp->θ->XK->ζ->θ->Prop
structure C3(P:Program)(w:World)(K:Da)(mg:Str->Option Value)(base:Heap)(A:Around)(outer:List Env)(s:Shared)(H:Hp):Prop where
 frames:A.frames=AC outer
 mod:Mod K mg base
 bs:∀b o,base.get? b=AC o->s.heap.get? b=AC o/\H b=At
 Lg:base.Z<=s.t
 me:s.heap.FunFrames base outer
 OG:∀b∈tI outer,H b=At
 bO:kK P w H s.e
 bare:AllBare s.gens
 tab:wA K mg base H
def CE(outer:U Env)(P:ο)(w:ξ)(H:Hp)(s:θ)(Q:VK)(u:ζ)(s':θ):Prop:=
 ∃v H',s'.os=s.os/\AllBare s'.gens/\Un (tI outer) [] H H' s.heap s'.e/\kK P w H' s'.e/\RelV v u/\Q v H'
def CR(CX:U!)(outer:U Env)(P:ο)(w:ξ)(H:Hp)(s:θ)(Q:VK)(E:XK)(r:Result)(s':θ):Prop:=
 match r with
 |.ok<|.ret u=>CE outer P w H s Q u s'
 |.ok _=>False
 |.error e=>CX outer H s E e s'
structure ee(P:Program)(w:World)(K:Da)(mg:Str->Option Value)(base:Heap)(CX:U!)(k:Nat)(f:Addr)(fd:FuncData)(ps:List Str)(sp:Sp):Prop where
 len:∀vs H Q E,sp vs H Q E->vs.n=ps.n
 run:∀(A:Around)(outer:List Env)(s:Shared)(H:Hp)(args:Args)(us:List Value)(vs:List V)(Q:VK)(E:XK),bu k A->C3 P w K mg base A outer s H->BindsTo s fd args (ps.zip us)->Vals vs us->sp vs H Q E ->
  codeAny (model P w) A (.call (.ref f) args) (CR CX outer P w H s Q E) s
def C3.make{K:Da}(e:C3 P w K mg base A outer s H)(C:δ)(us:U ζ)(kw:U _):
 C3 P w K mg base (A.under<|.builtin "type.__call__" ⟨.ref C::us,kw⟩) outer s H:=⟨by first| show e.frames| (simpa[Around.under,Code.envs,Code.isFrame,pushEnvs]using e.frames),e.mod,e.bs,e.Lg,e.me,e.OG,e.bO,e.bare,e.tab⟩
def Inv.OR(I:Inv X B O H s):C3 X.prog X.w X.K X.mg X.base X.A X.stack s H:=
 ⟨I.ok.frames,I.ok.mod,I.bs,A15 I.ok.Lg I.sz,I.stack,I.rh,I.bO,I.bare,I.tab⟩
def Inv.after(I:Inv X B O H s)(h:CE X.stack X.prog X.w H s Q u s'):EP X B O Q u s':=by let(v,H',os,bare,un,bO,r,q):=h;let(hh,g,d,t,os'):=s';obtain rfl:os'=s.os:=os;show(v,H',I.call un bO bare λ b z=>absurd z ∅,r,q,)
def Wa(sp:Sp)(yC:U V)(E:XK)(t:TA):TE:=λ O H Q=>t O H λ vs H1=>sp (vs++yC) H1 Q E
def P7(C:δ)(m:Str)(sp:Sp)(yC:U V)(E:XK)(ta:TE)(t:TA):TE:=λ O H Q=>ta O H λ x H1=>∃a dx fs,x=.ref a/\H1 a=AC (.ins C dx fs)/\fs.lookup m=At /\
 t O H1 λ vs H2=>sp (x::(vs++yC)) H2 Q E
def V!(C:δ)(sp:Sp)(yC:U V)(E:XK)(t:TA):TE:=λ O H Q=>t O H λ vs H1=>∀x dx,H1 x=At->H1 dx=At->dx≠x ->
 sp (.ref x::(vs++yC)) (upd (upd H1 dx<|.own x) x<|.ins C dx []) (λ v H2=>v=.non/\Q (.ref x) H2) E
def Binds(K:Da)(fd:υ)(ps:U Str)(ds:U ζ):Prop:=
 ∀(s:θ)(us:U ζ),K.In s.e->(us++ds).length=ps.n->BindsTo s fd ⟨us,[]⟩ (ps.zip<|us++ds)
def Binds.all{K:Da}(h:∀us,us.n=ps.n->bindArgs fd ⟨us,[]⟩=pure (ps.zip us)):Binds K fd ps []:=λ s us _ hl=>by rw[A52]at hl ⊢;show .of_eq<|h us hl
def Passes(CX:U!)(X:Cx)(E:XK):Prop:=∀(B:U (δ×μ))(O:St)(H:Hp)(s:θ)(e:ζ)(s':θ),Inv X B O H s->CX X.stack H s E e s'->X.xe e s'
def BQ(F:ee X.prog X.w X.K X.mg X.base CX k f fd ps sp)(hr:bu k X.A)(hb:Binds X.K fd ps ds)(hd:Vals yC ds)(hx:Passes CX X E)
 (I:Inv X B O H s) (r:Vals vs us) (h:sp (vs++yC) H Q E):Ev (model X.prog X.w) X.A (call (.ref f) us) (EP X B O Q) X.xe s:=by
 let r2:=r.append hd;let hl:(us++ds).length=ps.n:=by rw[<-r2.n];show F.len _ _ _ _ h
 show A91<|A92 (F.run X.A _ s H ⟨us,[]⟩ _ _ Q E hr I.OR (hb s us I.lP hl) r2 h) λ r s' hq=>?_;cases r with
 |error e=>show hx B O H s e s' I hq
 |ok fl=>
  cases fl with
  |ret u=>show I.after hq
  |next=>show Gc hq
  |brk=>show Gc hq
  |cont=>show Gc hq
theorem xm(F:ee X.prog X.w X.K X.mg X.base CX k f fd ps sp)(hr:bu k X.A)(hg:Gl X x)(hm:X.mg x=AC (.ref f))(hk:FS X.K (.ref f)=Ch)(hb:Binds X.K fd ps ds)(hd:Vals yC ds)(hx:Passes CX X E)
 (ha:PA X (e::es) t) (ie:Nd x:=by decide) (he:Se e es X.J:=by rfl) (fC:Pn pos es X.J:=by rfl) :
 PE X (.Call (.Name x p) (e::es) [] pos) (Wa sp yC E t):=by
 intro B s O H Q I h;show A93<|rA I hg hm ?_ ie;show B29 I.ok.mod.Qw hk (b_ (ha pos B s O H _ I h) λ us s1 ⟨vs,H1,I1,r,q⟩=>(I1.lP,?_,)) he fC;show BQ F hr hb hd hx I1 r q
theorem DR(he:PE X o ta)(c:Ly X.K C)(hm:Meth X.K C m f)(F:ee X.prog X.w X.K X.mg X.base CX k f fd ps sp)(hr:bu k X.A)(hb:Binds X.K fd ps ds)(hd:Vals yC ds)(hx:Passes CX X E)(ha:PA X (e::es) t)
 (oO:Se e es X.J:=by rfl) (fC:Pn pos es X.J:=by rfl)
 (ht:Mt o m apos (e::es) pos pl X.J:=by rfl) :
 PE X (.Call (.Attribute o m apos) (e::es) [] pos) (P7 C m sp yC E ta t):=by
 intro B s O H Q I h;show B95 (b_ (he B s O H _ I h) ?_) ht;rintro u s1 ⟨x,H1,I1,rx,a,dx,fs,ex,ea,l,q⟩;subst ex;obtain rfl:u=Value.ref a:=rx;show nr I1 ea c hm l ?_;show B29 I.ok.mod.Qw hm.kp (b_ (ha pos B s1 O H1 _ I1 q) λ us s2 ⟨vs,H2,I2,r,q2⟩=>(I2.lP,?_,)) oO fC;show BQ (vs:=.ref a::vs) F hr hb hd hx I2 (.cons rfl r) q2
theorem IK(he:PE X o ta)(c:Ly X.K C)(hm:Meth X.K C m f)(F:ee X.prog X.w X.K X.mg X.base CX k f fd ps sp)(hr:bu k X.A)(hb:Binds X.K fd ps ds)(hd:Vals yC ds)(hx:Passes CX X E)
 (ht:Mt o m apos [] pos pl X.J:=by rfl) :
 PE X (.Call (.Attribute o m apos) [] [] pos) (P7 C m sp yC E ta My):=by
 intro B s O H Q I h;show B95 (b_ (he B s O H _ I h) ?_) ht;rintro u s1 ⟨x,H1,I1,rx,a,dx,fs,ex,ea,l,q⟩;subst ex;obtain rfl:u=Value.ref a:=rx;show nr I1 ea c hm l ?_;show PySem.W.callWith_K0 I1.lP hm.kp<|BQ (vs:=[.ref a]) F hr hb hd hx I1 (.cons rfl .nil) q
structure Mk(K:Da)(C f:Addr):Prop where
 makes:bn K C=Ch
 init:Fk K (.ref C) "__init__"=AC (AC<|.ref f)
 fn:AA1 K (.ref f)=Ch
 kp:FS K (.ref C)=Ch
def Ih(M:Mk X.K C f)(F:ee X.prog X.w X.K X.mg X.base CX k f fd ps sp)(hr:bu (k+1) X.A)(hb:Binds X.K fd ps ds)(hd:Vals yC ds)
 (hx:Passes CX X E) (I:Inv X B O H s) (r:Vals vs us)
 (h:∀x dx,H x=At->H dx=At->dx≠x->sp (.ref x::(vs++yC)) (upd (upd H dx<|.own x) x<|.ins C dx []) (λ v H2=>v=.non/\Q (.ref x) H2) E) :
 Ev (model X.prog X.w) X.A (call (.ref C) us) (EP X B O Q) X.xe s:=by
 let hq:=h _ _ (I.bO.fresh<|A58 _) (I.bO.fresh<|P3 _)<|A16<|A65 _;let I2:=Inv.made (C:=C) I;let r2:Vals (V.ref (s.t+1)::(vs++yC)) _:=.cons rfl<|r.append hd;let hl:(Value.ref (s.t+1)::us++ds).length=ps.n:=by let e:=r2.n;rw[F.len _ _ _ _ hq]at e;show e.a
 show A91 (JC I.lP M.makes M.init (A41.mp M.fn) (A92 (F.run _ X.stack _ _ ⟨Value.ref (s.t+1)::us,[]⟩ (Value.ref (s.t+1)::(us++ds)) _ _ E (hr.make C us [])
  (I2.OR.make C us []) (hb _ (Value.ref (s.t+1)::us) I2.lP hl) r2 hq) λ r s' fQ=>?_))
 cases r with
 |error e=>show hx B O _ _ e s' I2 fQ
 |ok fl=>
  cases fl with
  |ret u=>let(v,H',I3,rv,ev,q3):=I2.after fQ;subst ev;show(rv,(V.ref<|s.t+1,H',I3,rfl,q3,),)
  |next=>show Gc fQ
  |brk=>show Gc fQ
  |cont=>show Gc fQ
theorem M8(M:Mk X.K C f)(F:ee X.prog X.w X.K X.mg X.base CX k f fd ps sp)(hr:bu (k+1) X.A)(hg:Gl X x)(hm:X.mg x=AC (.ref C))(hb:Binds X.K fd ps ds)(hd:Vals yC ds)(hx:Passes CX X E)
 (ha:PA X (e::es) t) (ie:Nd x:=by decide) (he:Se e es X.J:=by rfl) (fC:Pn pos es X.J:=by rfl) :
 PE X (.Call (.Name x p) (e::es) [] pos) (V! C sp yC E t):=by
 intro B s O H Q I h;show A93<|rA I hg hm ?_ ie;show B29 I.ok.mod.Qw M.kp (b_ (ha pos B s O H _ I h) λ us s1 ⟨vs,H1,I1,r,q⟩=>(I1.lP,?_,)) he fC;show Ih M F hr hb hd hx I1 r q
structure aW(N P:List Str)(sc:Scope):Prop where
 kind:sc.kind=.function
 co:sc.isCoroutine=AT
 gen:sc.isGenerator=AT
 nd:N.Nodup
 pre:N.take P.n=P
 par:∀x∈P,sc.names.lookup x=AC .local\/sc.names.lookup x=AC .cell
 SE:∀y∈sc.j,y.2≠.free
def wj{kindOf:Str->ε NameKind}:∀{binds}{m},(∀v,(x,v)∉binds)->bindL kindOf binds m x=m x
|[],_,_=>rfl
|(n,v)::r,m,h=>by
 unfold bindL;rw[wj λ w hw=>h w<|A09 _ hw];split
 .let:x≠n:=by rintro rfl;show h v A13
  simp[this]
 .rfl
def wq{kindOf:Str->ε NameKind}:∀{binds}{m},(∀v,(x,v)∉binds)->bindC kindOf binds m x=m x
|[],_,_=>rfl
|(n,v)::r,m,h=>by
 unfold bindC;rw[wq λ w hw=>h w<|A09 _ hw];split
 .rfl
 .let:x≠n:=by rintro rfl;show h v A13
  simp[this]
def wm{kindOf:Str->ε NameKind}{x:Str}{v:ζ}:∀{P:U Str}{vs}{i:Nat}{m},P.Nodup->P[i]?=AC x->vs[i]?=AC v->kindOf x=AC .local ->
 bindL kindOf (P.zip vs) m x=AC v
|[],_,_,_,_,h,_,_=>by simp at h
|_::_,[],_,_,_,_,h,_=>by simp at h
|p::P,w::vs,0,m,nd,h1,h2,hk=>by simp at h1 h2;subst h1;subst h2;change bindL kindOf ((p,w)::P.zip vs) m p=_;unfold bindL;rw[wj λ v hv=>(A19.mp nd).1 (B96 hv).1,M2 hk];simp
|p::P,w::vs,i+1,m,nd,h1,h2,hk=>by change bindL kindOf ((p,w)::P.zip vs) m x=_;unfold bindL;show wm (i:=i) (A19.mp nd).2 (by calc h1) (by calc h2) hk
def wu{kindOf:Str->ε NameKind}{x:Str}{v:ζ}:∀{P:U Str}{vs:U ζ}{i:Nat}{m:Str->ε ζ},P.Nodup->P[i]?=AC x->vs[i]?=AC v->kindOf x≠AC .local ->
 bindC kindOf (P.zip vs) m x=AC v
|[],_,_,_,_,h,_,_=>by simp at h
|_::_,[],_,_,_,_,h,_=>by simp at h
|p::P,w::vs,0,m,nd,h1,h2,hk=>by simp at h1 h2;subst h1;subst h2;change bindC kindOf ((p,w)::P.zip vs) m p=_;unfold bindC;rw[wq λ v hv=>(A19.mp nd).1 (B96 hv).1,W1 hk];simp
|p::P,w::vs,i+1,m,nd,h1,h2,hk=>by change bindC kindOf ((p,w)::P.zip vs) m x=_;unfold bindC;show wu (i:=i) (A19.mp nd).2 (by calc h1) (by calc h2) hk
def start(N:U Str)(vs:U V):St:=vs.map AC++Db (N.n-vs.n) At
def c!(CX:U!)(P:ο)(w:ξ)(K:Da)(mg:Str->ε ζ)(base:ν)(N:U Str)(qual:Str)(scope:ς)(f:δ)(cd:ζ)(A:τ)(outer:U Env)(s:θ)(H:Hp)(E:XK):Cx where
 prog:=P
 w:=w
 K:=K
 mg:=mg
 base:=base
 A:=A.deeper<|envOfC qual scope s.heap.objs.size f cd
 N:=N
 s₀:=s
 H₀:=H
 env:=envOfC qual scope s.heap.objs.size f cd
 outer:=outer
 stack:=envOfC qual scope s.heap.objs.size f cd::outer
 ex:=[]
 calm:=Ch
 fn:=λ _=>Ch
 pn:=[]
 xe:=λ e s'=>Ev (model P w) (A.deeper<|envOfC qual scope s.heap.objs.size f cd) (leaving (envOfC qual scope s.heap.objs.size f cd) e) (λ _ Vd=>CX outer H s E e Vd) (λ e' Vd=>CX outer H s E e' Vd) s'
def AZ{sc:ς}(h:sc.names.lookup x=AC .cell):∃c,(cellsFrom n sc.names []).lookup x=AC c:=by let q:=C55 _ n []<|.inl h;show A94.mp q
def Gj{K:FM}
 (S:aW N ps scope) (hd:A.handled=At) (e0:C3 P w K mg base A outer s H) (hl:vs.n=ps.n) (r:Vals vs us)
 (x:InCallC s s.heap.objs.size (bindL (envOfC qual scope s.heap.objs.size f cd).kindOf (ps.zip us) λ _=>At) (cellsFrom (s.t+1) scope.names []) (bindC (envOfC qual scope s.heap.objs.size f cd).kindOf (ps.zip us) λ _=>At) s1) :
 Inv (c! CX P w K mg base N qual scope f cd A outer s H E) [] (start N vs) H s1:=by
 let fC:ps.n<=N.n:=by let:=A14 List.length S.pre;rw[A33]at this;lia
 let(h1,tk,rfl,hk):=x.done;let SG:∀b,b∉(c! CX P w K mg base N qual scope f cd A outer s H E).ex:=λ b z=>absurd (show b∈([]:U δ)from z) ∅;show((e0.mod,S.kind,rfl,rfl,P3 _,λ y z c h1 h2=>?_,λ y hy=>?_,λ y c _ h=>?_,λ _=>hd,Around.frames_deeper e0.frames,.inr ⟨rfl,rfl⟩,λ b z=>absurd z<|SG b,e0.bs,e0.Lg,λ b _ _=>SG b,λ b z=>absurd z<|SG b,e0.me,e0.OG,),
  rfl,e0.bare,Un.kept hk,(_,x.toInCall.ns,λ i y v h1 h2 h3=>?_,),λ y c h=>(_,x.cell y c h,),e0.bO.fresh<|P3 _,λ y c h=>?_,λ p hp=>absurd (show p∈([]:U (δ×μ))from hp) ∅,e0.bO.kept hk,?_,e0.tab,)
 .exact name_of_addr x.apart (A71 h1)<|A71 h2
 .let hy:=hy;rcases hy with hy|hy
  .exact AZ hy
  .exact absurd rfl<|S.SE _<|A71 hy
 .exact A80<|x.above y c<|A71 h
 .let hi:i<vs.n:=by
   unfold start at h2;by_cases hi:i<vs.n
   .exact hi
   .rw[A46 (by calc hi)]at h2;rw[A53]at h2;split at h2<;>ext h2
  let ha:vs[i]?=AC v:=by
   unfold start at h2;rw[A23 (by calc hi),A06]at h2;cases e:vs[i]? with
   |none=>rw[e]at h2;ext h2
   |some a=>rw[e]at h2;ext h2;rfl
  let(u,hu,rv):=r.get ha;let hp:ps[i]?=AC y:=by rw[<-S.pre,C56 ∅];show h1
  let ndP:ps.Nodup:=by rw[<-S.pre];show S.nd.sublist<|List.take_sublist _ _
  show(u,rv,?_,);rcases S.par y (A21 hp)with k|k
  .exact .inl ⟨k,wm ndP hp hu k⟩
  .let(c,e):=AZ (n:=s.t+1) k;show .inr ⟨.inl k,c,e,?_⟩;let q:=x.cell y c e;rw[wu ndP hp hu (by change scope.names.lookup y≠_;rw[k];decide)]at q;show q
 .exact e0.bO.fresh<|A80<|x.above y c<|A71 h
 .unfold start;change _=N.n;rw[A38,A08,A81];lia
theorem Aq{K:Da}{dV kV doc pm a5 ct oc:ζ}
 (lk:K.lookup f=AC ⟨oc,od,.func<|PySem.W.fnOf name qual params body scope dV kV doc pm an a5 ct,yy⟩) (rG:PP K a5 qual=Ch) (S:aW N ps scope)
 (len:∀vs H Q E,sp vs H Q E->vs.n=ps.n)
 (Al:∀A outer s H vs Q E,bu k (A.deeper<|envOfC qual scope s.heap.objs.size f a5)->sp vs H Q E ->
  ∃t,pq (c! CX P w K mg base N qual scope f a5 A outer s H E) body t/\t {nx:=λ _ H'=>Q .non H',rt:=Q} (start N vs) H) :
 ee P w K mg base CX (k+1) f (No name qual params body scope dV kV doc pm an a5 ct) ps sp:=by
 show(len,λ A outer s H args us vs Q E hr e0 hb r Gs=>?_,);let hl:=len _ _ _ _ Gs;let KX:=e0.mod.Qw.keeps λ b o e=>(e0.bs b o e).1;let lim:=e0.mod.nolimit.keeps λ b o e=>(e0.bs b o e).1;let X!:∀y∈ps.zip us,scope.names.lookup y.1=AC .local\/(scope.names.lookup y.1=AC .cell/\((cellsFrom (s.t+1) scope.names []).lookup y.1).isSome=Ch):=by
  rintro⟨n,v⟩ hy;rcases S.par n (B96 hy).1 with q|q
  .exact .inl q
  .exact .inr ⟨q,C55 _ _ _<|.inl q⟩
 show codeAny_call_function hr.depth (KX _ _ lk) rfl S.co S.gen rfl (PySem.W.codeRec_of KX rG)<|hb _ _ _ _ ?_;show wpAny_newFunctionEnv_cells S.kind X! λ env he s1 x=>?_;subst he;show(lim.keeps x.toInCall.keep,codeAny_func ?_,);let(t,ht,hq):=Al A outer s H vs Q E (hr.deeper _) Gs;let I:Inv (c! CX P w K mg base N qual scope f a5 A outer s H E) [] (start N vs) H s1:=Gj S hr.hd e0 hl r x;show A22 (ht [] s1 (start N vs) H _ I hq) (λ fl s' hs=>?_) λ e s' hs=>hs;let fin:∀{O'}{H'}{v}{u},Inv (c! CX P w K mg base N qual scope f a5 A outer s H E) [] O' H' s'->RelV v u->Q v H'->CE outer P w H s Q u s':=
  λ {O' H' v u} J rv q=>(v,H',J.os,J.bare,J.k,J.bO,rv,q,)
 cases fl with
 |ret u=>let(v,O',H',J,rv,q):=hs;show fin J rv q
 |next=>let(O',H',J,q):=hs;show fin (v:=V.non) (u:=SZ) J rfl q
 |brk=>let(_,_,_,q):=hs;show Gc q
 |cont=>let(_,_,_,q):=hs;show Gc q
section
variable{id T:String}
def tCB(r:U V->Hp->VK->Prop)(t:TA):TE:=λ O H Q=>t O H λ vs H1=>r vs H1 Q
def jy(hc:mM X (.builtin id) r)(hg:Gl X x)(hm:X.mg x=At)(hv:bootBuiltins x=AC (.builtin id))(ha:PA X (e::es) t)(hn:x≠ "__name__":=by decide)(ie:Nd x:=by decide)
 (he:Se e es X.J:=by rfl) (fC:Pn pos es X.J:=by rfl):PE X (.Call (.Name x p) (e::es) [] pos) (tCB r t):=by
 intro B s O H Q I h;show A93<|jY I hg hm hv ?_ hn ie;show PyProof.Rows.callWith_builtin1 (b_ (ha pos B s O H _ I h) <|by rintro us s1 ⟨vs,H1,I1,r1,q1⟩;show hc B s1 O H1 vs us Q I1 r1 q1) he fC
def vt(hc:mM X (.type T) r)(hg:Gl X x)(hm:X.mg x=At)(hv:bootBuiltins x=AC (.type T))(ha:PA X (e::es) t)(hn:x≠ "__name__":=by decide)(ie:Nd x:=by decide)
 (he:Se e es X.J:=by rfl) (fC:Pn pos es X.J:=by rfl):PE X (.Call (.Name x p) (e::es) [] pos) (tCB r t):=by
 intro B s O H Q I h;show A93<|jY I hg hm hv ?_ hn ie;show B30 (b_ (ha pos B s O H _ I h) <|by rintro us s1 ⟨vs,H1,I1,r1,q1⟩;show hc B s1 O H1 vs us Q I1 r1 q1) he fC
end
end L2
namespace HT
def Pj(ht:IsTup s.heap t vs.q)(hb:IsTup s.heap b ws.q)(hv:vs≠[])
 (h1:ws=[]->Q (.ref t) s) (h2:ws≠[]->Q (.ref s.t) {s with heap:=s.heap.push {cls:=.type "tuple",data:=.seq (vs++ws).toArray}})
 (Eu:vs.n+ws.n<=sizeLine):Ev (model prog w) A (binaryOp .Add (.ref t)<|.ref b) Q E s:=by
 let((cls,dd,data,sl),ho,hc,n,hd):=id ht;let((Y7,VD,data2,Vb),Hn,uN,n2,hd2):=id hb;simp only at hc hd uN hd2;subst hc hd uN hd2;let e:vs.q++ws.q=(vs++ws).toArray:=by simp
 by_cases hw:ws=[]
 .exact B59 ⟨_,ho,rfl⟩ ⟨_,Hn,rfl⟩ B98 seq_tuple_add C00 C01 (C02 _ _)
   (tuple_addW1 t b _ _ n n2 dd VD sl Vb (by calc hv) (by simp[hw])) ⟨ho,Hn,h1 hw⟩
 .refine B59 ⟨_,ho,rfl⟩ ⟨_,Hn,rfl⟩ B98 seq_tuple_add C00 C01 (C02 _ _)
   (tuple_addW2 t b vs.toArray ws.toArray n n2 dd VD sl Vb (by calc hv) (by calc hw) (by rw[A12,A12];show Eu)) ⟨ho,Hn,?_⟩
  rw[e];show h2 hw
def c6(n d:Nat):ε Int->Nat
|none=>d
|some v=>if v<0 then(v+(n:Int)).toNat else min v.toNat n
def w?(n d:Nat)(hd:d<=n)(o:ε Int):c6 n d o<=n:=by
 cases o with
 |none=>show hd
 |some v=>
  change(if v<0 then(v+(n)).toNat else min _ n)<=n;by_cases hv:v<0
  .rw[M2 hv];lia
  .rw[W1 hv];show Nat.min_le_right _ _
theorem _root_.Lake.mN!(a b:Nat):min (a:Int) b=(min a b:Nat):=by rw[Int.min_def,Nat.min_def];simp only[Int.ofNat_le];split<;>rfl
theorem _root_.Lake.mP!(n:Nat)(i:Int):max 0 (min (if i<0 then i+n else i) n)=((if i<0 then(i+n).toNat else min i.toNat n:Nat):Int):=by
 split
 .rw[Int.min_eq_left (by lia),Int.ofNat_toNat,Int.max_comm]
 .rw[<-mN!,Int.toNat_of_nonneg (Int.not_lt.mp ‹_›)];show Int.max_eq_right (Int.le_min.mpr ⟨Int.not_lt.mp ‹_›,Int.natCast_nonneg n⟩)
def EW(v:Int)(n d:Nat):(if v<0 then max (v+(n)) 0 else min v (n))=((c6 n d<|some v)):=by
 change(if v<0 then max _ 0 else min v (n))=(((if v<0 then(v+(n)).toNat else min _ n)))
 by_cases hv:v<0
 .simp only[M2 hv];lia
 .simp only[W1 hv];rw[<-mN!,Int.toNat_of_nonneg (Int.not_lt.mp hv)]
def CV(lo hi:ε Int)(n:Nat):Ps lo hi 1 (n)=(((c6 n 0 lo):Int),((c6 n n hi):Int)):=by
 let h1:¬((1)<0):=by lia
 unfold Ps;erw[A67];show Prod.ext ?_ ?_
 .cases lo with
  |none=>rfl
  |some v=>show EW v n 0
 .cases hi with
  |none=>rfl
  |some v=>show EW v n n
def BW(i j:Nat):KF (i) (j) 1=j-i:=by
 unfold KF;let h1:(1)>0:=by lia
 erw[Int.ediv_one];split<;>lia
def sh(p:IsPart v o)(h:Q o s):Ev (model prog w) A (Builtin.Slice.slicePartIndex v) Q E s:=by
 cases p with
 |none=>show slicePart_none h
 |int i t=>show slicePart_int h
def ju{lo hi:ε Int}{Q:Int×Int×Nat->θ->Prop}(hs:s.heap.IsSliceOf sl vl vu .none)(pl:IsPart vl lo)(pu:IsPart vu hi)
 (h:Q (((c6 n 0 lo)),1,c6 n n hi-c6 n 0 lo) s):Ev (model prog w) A (WF (.ref sl)<|pure<|n) Q E s:=by
 let(os,Tx,Ew,Yk):=id hs;unfold WF Builtin.Slice.sliceFields;show T0<|T0<|A40 Tx Yk rfl<|T0<|A40 Tx Yk rfl<|T0<|A40 Tx Yk rfl<|v4 ?_;show T0<|slicePart_none ?_;rw[W1 ∅];show T0<|sh pl<|T0<|sh pu<|T0<|v4 ?_;change Ev _ _ (match Ps lo hi 1 (n)with|(lo,hi)=>pure (lo,(1:Int),KF lo hi 1)) _ _ s;rw[CV];change Ev _ _ (pure (((c6 n 0 lo):Int),(1),KF ((c6 n 0 lo)) ((c6 n n hi)) 1)) _ _ s;rw[BW];show v4 h
def IH(xs:Array ζ)(i k:Nat):((EQ k).filterMap λ(m:Nat)=>xs[((i)+(m:Int)*1).toNat]?).toArray=((xs.toList.drop i).take k).toArray:=by
 let e:(λ(m:Nat)=>xs[((i)+(m:Int)*1).toNat]?)=λ m=>xs[i+m]?:=by
  funext m
  let:((i)+(m:Int)*1).toNat=i+m:=by lia
  rw[this]
 rw[e];let:=pick_run xs i k;rw[List.filterMap_map]at this;let e2:((λ x=>xs[x]?)∘λ x=>i+x)=λ m=>xs[i+m]?:=rfl;rw[e2]at this;rw[this]
def oV{lo hi:ε Int}(ht:IsTup s.heap t items)(hs:s.heap.IsSliceOf sl vl vu .none)(pl:IsPart vl lo)(pu:IsPart vu hi)
 (hw:¬(c6 items.size 0 lo=0/\c6 items.size items.size hi=items.u))
 (h:Q (.ref s.t) {s with heap:=s.heap.push {cls:=.type "tuple",data:=.seq ((items.toList.drop<|c6 items.size 0 lo).take<|c6 items.size items.size hi-c6 items.size 0 lo).toArray}})
 (Eu:items.u<=sizeLine):Ev (model prog w) A (getItem (.ref t)<|.ref sl) Q E s:=by
 let Et:sizeOk (.seq ((items.toList.drop<|c6 items.size 0 lo).take<|c6 items.size items.size hi-c6 items.size 0 lo).toArray):=by change((items.toList.drop<|c6 items.size 0 lo).take<|c6 items.size items.size hi-c6 items.size 0 lo).toArray.size<=sizeLine;rw[A12,A33,B60,B57];show A15 (Nat.min_le_right _ _)<|A15 (Nat.sub_le _ _) Eu
 let hj:c6 items.size items.size hi<=items.u:=w? _ _ (P3 _) hi;let(os,Tx,Ew,Yk):=id hs;let hTs:s.TypeIs (.ref sl) "slice":=(os,Tx,Ew,)
 unfold getItem
 try with_reducible show A49 ?_
 first|show T0<|v4 ?_|skip
 show T0<|wpAny_sequenceKey ht.typeIs ∅ ?_;show T0 (B08 (name:=Do "__getitem__") ht.typeIs B09
  <|B10 B09 ht.typeIs entry_tuple_getitem ?_<|args_tuple_getitem _ _)
 change Ev _ _ (WP (.ref t)>>=_) _ _ s;show T0<|tupleItemsOf_ ht ?_;show T0<|wpAny_typeOf hTs ?_;rw[M2 ∅];show T0<|ju hs pl pu ?_;let Hq:¬((((c6 items.size 0 lo:Nat):Int)==0&&(1:Int)==1&&(c6 items.size items.size hi-c6 items.size 0 lo)==items.u)=Ch):=by intro q;rw[A34,A34]at q;let q1:((c6 items.size 0 lo:Nat):Int)=0:=A82 q.1.1;let q2:c6 items.size items.size hi-c6 items.size 0 lo=items.u:=A82 q.2;show hw ⟨by lia,by lia⟩
 change Ev _ _ (if(((c6 items.size 0 lo:Nat):Int)==0&&(1:Int)==1&&(c6 items.size items.size hi-c6 items.size 0 lo)==items.u)=Ch then _ else _) _ _ s;rw[W1 Hq,IH]
 first
  |show T0 (m:=NE _)<|A76 (v4 ⟨_,rfl,v4 h⟩) Et
  |show T0 (m:=NE _)<|A76 (T0<|v4<|v4 ⟨_,rfl,v4 h⟩) Et
  |show T0<|T0 (m:=NE _)<|A76 (v4<|v4 ⟨_,rfl,v4 h⟩) Et
  |show T0<|T0 (m:=NE _)<|A76 (v4 ⟨_,rfl,v4 h⟩) Et
end HT
namespace L2
abbrev TO:=St->Hp->(ε Int->Hp->Prop)->Prop
def PO(X:Cx)(e:ε ι)(t:TO):Prop:=
 ∀ (B:U (δ×μ))(s:θ)(O:St)(H:Hp)(Q:ε Int->Hp->Prop),Inv X B O H s->t O H Q ->
  Ev (model X.prog X.w) X.A (evalPart e X.J) (λ u s'=>∃o H',Inv X B O H' s'/\IsPart u o/\Q o H') X.xe s
def Mx:TO:=λ _ H Q=>Q At H
def V8(t:TE):TO:=λ O H Q=>t O H λ x H1=>∃i,x=.int i/\Q (AC i) H1
section
variable{lo hi:ε ι}
def M4:PO X At Mx:=by intro B s O H Q I h;rw[evalPart_none];show v4 ⟨At,H,I,.none,h⟩
def M3(h:PE X e te):PO X (AC e) (V8 te):=by intro B s O H Q I hw;rw[evalPart_some];show b_ (h B s O H _ I hw) ?_;rintro u s1 ⟨x,H1,I1,r1,q1⟩;let(i,rfl,q):=q1;let(t,rfl):=r1;show(_,H1,I1,.int i t,q,)
def PM(X:Cx)(r:V->ε Int->ε Int->Hp->VK->Prop):Prop:=
 ∀ (B:U (δ×μ))(s:θ)(O:St)(H:Hp)(x:V)(v vl vu:ζ)(lo hi:ε Int)(sl:δ)(Q:VK),Inv X B O H s->RelV x v->s.heap.IsSliceOf sl vl vu .none->IsPart vl lo->IsPart vu hi->r x lo hi H Q ->
  ∃T id,typeLookup (.type T) "__getitem__"=pure (AC<|.builtin id)/\s.TypeIs v T/\Ev (model X.prog X.w) X.A (getItem v<|.ref sl) (EP X B O Q) X.xe s
def PM.or(h:PM X r)(h':PM X r'):PM X (λ x lo hi H Q=>r x lo hi H Q\/r' x lo hi H Q):=by
 intro B s O H x v vl vu lo hi sl Q I rx hs pl pu q;rcases q with q|q
 .exact h B s O H x v vl vu lo hi sl Q I rx hs pl pu q
 .exact h' B s O H x v vl vu lo hi sl Q I rx hs pl pu q
def tSl(r:V->ε Int->ε Int->Hp->VK->Prop)(te:TE)(tl th:TO):TE:=λ O H Q=>te O H λ x H1=>tl O H1 λ l H2=>th O H2 λ u H3=>r x l u H3 Q
def zx(hr:PM X r)(he:PE X e te)(hl:PO X lo tl)(hu:PO X hi th):PE X (.Subscript e (.Slice lo hi At p2) pos) (tSl r te tl th):=by intro B s O H Q I h;show Subscript_<|b_ (he B s O H _ I h) ?_;rintro v s1 ⟨x,H1,I1,r1,q1⟩;show wpAny_Slice<|b_ (hl B s1 O H1 _ I1 q1) λ vl s2 ⟨l,H2,I2,pl,q2⟩=>b_ (hu B s2 O H2 _ I2 q2) ?_;rintro vu s3 ⟨u,H3,I3,pu,q3⟩;rw[evalPart_none];show v4 ?_;let I4:Inv X B O H3 {s3 with heap:=s3.heap.push {cls:=.type "slice",data:=.fields #[vl,vu,.none]}}:=I3.kept λ b ob q=>A03 _ q;let(T,id,hT,ht,hg):=hr B {s3 with heap:=s3.heap.push {cls:=.type "slice",data:=.fields #[vl,vu,.none]}} O H3 x v vl vu l u _ Q I4 r1 (Heap.IsSliceOf.new ..) pl pu q3;show tail_any ht hT hg (by with_unfolding_all rfl)
def u7(xs:U V)(lo hi:ε Int):U V:=(xs.drop<|HT.c6 xs.length 0 lo).take<|HT.c6 xs.length xs.length hi-HT.c6 xs.length 0 lo
def qF(xs:U V)(lo hi:ε Int):(u7 xs lo hi).length<=xs.n:=by unfold u7;rw[A33,B60];show A15 (Nat.min_le_right _ _) (Nat.sub_le _ _)
def aaG(K:Da):V->ε Int->ε Int->Hp->VK->Prop:=λ x lo hi H Q=>∃a xs,x=.ref a/\l4 K H a xs /\
 ¬(HT.c6 xs.length 0 lo=0/\HT.c6 xs.length xs.length hi=xs.n)/\∀p,H p=At->Q (.ref p) (upd H p<|.tup<|u7 xs lo hi)
def Ry:PM X (aaG X.K):=by
 intro B s O H x v vl vu lo hi sl Q I rx hs pl pu h;let(a,xs,rfl,hx,hw,q):=h;ext rx;let(a8,r,ht,hz):=I.tuple hx;let ψ:a8.q.u=xs.n:=by rw[A12];show r.n.a
 show("tuple",_,B09.lookup,ht.typeIs,?_,);show HT.oV ht hs pl pu (by rw[ψ];show hw) ?_ (by rw[ψ];show hz);rw[ψ];show(.ref _,_,I.laid (λ b ob q=>A03 _ q) (P3 _) ?_,rfl,q _<|I.bO.fresh<|P3 _,);show(A15 (qF xs lo hi) hz,_,(r.drop _).take _,pj.new _ _,)
def WD(K:Da):R2:=λ x y H Q=>∃a b xs ys,x=.ref a/\y=.ref b/\l4 K H a xs/\l4 K H b ys/\xs≠[]/\xs.n+ys.n<=sizeLine /\
 (ys=[]->Q (.ref a) H)/\(ys≠[]->∀p,H p=At->Q (.ref p) (upd H p<|.tup<|xs++ys))
def Vals.rp(r:Vals xs us):us=[]↔xs=[]:=by
 cases r with
 |nil=>simp
 |cons _ _=>simp
def Nh:iZ X (binaryOp .Add) (WD X.K):=by intro B s O H x y v u Q I rx ry h;let(a,b,xs,ys,rfl,rfl,ha,hb,hx,hz,q1,q2):=h;ext rx ry;let(a8,r1,p1,_):=I.tuple ha;let(g9,r2,p2,_):=I.tuple hb;show HT.Pj p1 p2 (λ z=>hx<|r1.rp.mp z) (λ z=>(.ref a,H,I,rfl,q1<|r2.rp.mp z,)) (λ z=>?_) (by rw[<-r1.n,<-r2.n];show hz);show(.ref _,_,I.laid (λ b ob q=>A03 _ q) (P3 _) ?_,rfl,q2 (λ w=>z<|r2.rp.mpr w) _<|I.bO.fresh<|P3 _,);show⟨by rw[A38];show hz,_,r1.append r2,pj.new _ _⟩
end
def XB(n:Nat)(i:Int):ε Nat:=if 0<=i then(if i<n then AC i.v else At)else if -(n:Int)<=i then AC (i+n).toNat else At
def UW{α:Type}(xs:U α)(i:Int):ε α:=(XB xs.length i).bind λ j=>xs[j]?
def Oe(h:XB n i=AC j):seqIndex? i n=AC j/\j<n/\-(n)<=i/\i<n:=by
 unfold XB at h;by_cases h0:0<=i
 .rw[M2 h0]at h;by_cases h1:i<n
  .rw[M2 h1]at h;let e:=f8 h;show⟨by rw[seqIndex_of h0 h1,e],by lia,by lia,h1⟩
  .rw[W1 h1]at h;ext h
 .rw[W1 h0]at h;by_cases h1:-(n)<=i
  .rw[M2 h1]at h;let e:=f8 h;show⟨by rw[seqIndex_neg ∅ h1,e],by lia,h1,by lia⟩
  .rw[W1 h1]at h;ext h
def yo(h:UW xs i=AC v):∃j,seqIndex? i xs.n=AC j/\xs[j]?=AC v/\j<xs.n/\-(xs.n)<=i/\i<xs.n:=by
 unfold UW at h;cases e:XB _ i with
 |none=>rw[e]at h;ext h
 |some j=>rw[e]at h;let(h1,h2,h3,h4):=Oe e;show(j,h1,h,h2,h3,h4,)
def E!(b:ι):Prop:=∀o i,subscripted b AT o i=operate [o,i] (getItem o i)
def L8(X:Cx)(r:R2):Prop:=
 ∀ (value slice:ι)(B:U (δ×μ))(s:θ)(O:St)(H:Hp)(x y:V)(v u:ζ)(Q:VK),Inv X B O H s->RelV x v->RelV y u->r x y H Q ->
  subscripted slice AT v u=operate [v,u] (getItem v u)->Ev (model X.prog X.w) X.A (subscriptTail value slice v u) (EP X B O Q) X.xe s
def VL(X:Cx)(id:String)(r:V->U V->Hp->VK->Prop):Prop:=
 ∀ (B:U (δ×μ))(s:θ)(O:St)(H:Hp)(x:V)(xs:U V)(v:ζ)(us:U ζ)(Q:VK),Inv X B O H s->RelV x v->Vals xs us->r x xs H Q ->
  Ev (model X.prog X.w) X.A (call (.builtin id)<|v::us) (EP X B O Q) X.xe s
section
def L8.or(h:L8 X r)(h':L8 X r'):L8 X (λ x y H Q=>r x y H Q\/r' x y H Q):=by
 intro value slice B s O H x y v u Q I rx ry q hs;rcases q with q|q
 .exact h value slice B s O H x y v u Q I rx ry q hs
 .exact h' value slice B s O H x y v u Q I rx ry q hs
def WJ(hr:L8 X r)(ha:PE X a ta)(hb:PE X b tb)(hs:E! b):PE X (.Subscript a b pos) (Mw r ta tb):=by intro B s O H Q I h;show Subscript_<|US ha hb I h λ v u s2 x y H2 I2 rx ry q=>hr a b B s2 O H2 x y v u Q I2 rx ry q<|hs _ _
def WA(K:Da):R2:=λ x y H Q=>∃p xs i v,x=.ref p/\y=.int i/\iY K H p xs/\UW xs i=AC v/\Q v H
def Wy(K:Da):R2:=λ x y H Q=>∃p xs i v,x=.ref p/\y=.int i/\l4 K H p xs/\UW xs i=AC v/\Q v H
def Wz:R2:=λ x y H Q=>∃z i c,x=.str z/\y=.int i/\z.n<=sizeLine/\UW z.cps.toList i=AC c/\Q (.str ⟨#[c]⟩) H
def Oc:L8 X (WA X.K):=by
 intro value slice B s O H x y v u Q I rx ry h hs;let(p,xs,i,z,rfl,rfl,hq,he,q):=h;ext rx;let(t,rfl):=ry;let(a8,r,pl,hz):=I.list hq;let(j,h1,h2,h3,h4,h5):=yo he;let(w,ew,BP):=r.get h2;let hl:=r.n;let hn:=xE;let fin:EP X B O Q w s:=(z,H,I,BP,q,)
 by_cases h0:0<=i
 .let hj:i.v=j:=by rw[seqIndex_of h0 h5]at h1;show f8 h1
  show item_listR pl.isList h0 ∅ (by rw[hj];calc ew) fin hs
 .let hj:(i+(a8.q.u)).toNat=j:=by rw[seqIndex_neg ∅ h4]at h1;rw[A12,<-hl];show f8 h1
  show subscriptTail_builtinR pl.isList.typeIs slot_list_getitem.lookup
   (wpAny_getItem_list_neg pl.isList ∅ (by rw[A12]<;>lia) ∅ (by rw[hj];calc ew) ⟨rfl,fin⟩) hs
def Tc:L8 X (Wy X.K):=by
 intro value slice B s O H x y v u Q I rx ry h hs;let(p,xs,i,z,rfl,rfl,hq,he,q):=h;ext rx;let(t,rfl):=ry;let(a8,r,pl,hz):=I.tuple hq;let(j,h1,h2,h3,h4,h5):=yo he;let(w,ew,BP):=r.get h2;let hl:=r.n;let hn:=xE;let fin:EP X B O Q w s:=(z,H,I,BP,q,)
 show subscriptTail_builtinR pl.typeIs slot_tuple_getitem.lookup
  (getItem_tuple pl ∅ ∅ (by rw[A12,<-hl];show h1) (by calc ew) ⟨rfl,fin⟩) hs
def sX:L8 X Wz:=by
 intro value slice B s O H x y v u Q I rx ry h hs;let(z,i,c,rfl,rfl,hz,he,q):=h;let(t,rfl):=rx;let(t',rfl):=ry;let(j,h1,h2,h3,h4,h5):=yo he;let hl:z.cps.y.n=z.n:=by simp[Str.length]
 rw[hl]at h1 h4 h5;let hn:=xE;show tail_any (typeIs_str s z t) slot_str_getitem.lookup (getItem_str (by let e1:decide (i < -(2^63))=AT:=A43 ∅;let e2:decide (i≥2^63)=AT:=A43 ∅;rw[e1,e2,Bool.or_false]) (by rw[h1];calc h2) ⟨.str ⟨#[c]⟩,H,I.tok _,⟨_,rfl⟩,q⟩) hs
def rIx(K:Da):R2:=λ x y H Q=>WA K x y H Q\/Wy K x y H Q\/Wz x y H Q
def Td:L8 X (rIx X.K):=Oc.or<|Tc.or sX
def wX(lo hi:ε Int)(n:Nat):(sliceBounds lo hi At n).1=((HT.c6 n 0 lo))/\(sliceBounds lo hi At n).2.1=((HT.c6 n n hi))/\(sliceBounds lo hi At n).2.2=1:=by
 show(?_,?_,rfl,)
 .cases lo with
  |none=>simp[sliceBounds,HT.c6]
  |some i=>
   show mP! n i
 .cases hi with
  |none=>simp[sliceBounds,HT.c6]
  |some i=>
   show mP! n i
def uB(a8:U ζ)(lo hi:ε Int):slicePick a8.toArray lo hi At=((a8.drop<|HT.c6 a8.length 0 lo).take<|HT.c6 a8.length a8.length hi-HT.c6 a8.length 0 lo).toArray:=by let(h1,h2,h3):=wX lo hi a8.q.u;unfold slicePick;rw[h1,h2,h3];erw[sliceRange_one,pick_run]<;>rfl
def aaI(K:Da):V->ε Int->ε Int->Hp->VK->Prop:=λ x lo hi H Q=>∃a xs,x=.ref a/\iY K H a xs/\∀p,H p=At->Q (.ref p) (upd H p<|.lst<|u7 xs lo hi)
def MK:PM X (aaI X.K):=by intro B s O H x v vl vu lo hi sl Q I rx hs pl pu h;let(a,xs,rfl,hx,q):=h;ext rx;let(a8,r,ht,hz):=I.list hx;let ψ:=r.n;show("list",_,slot_list_getitem.lookup,ht.x.typeIs,?_,);show wpAny_getItem_list_slice ht.isList hs pl pu .none ∅ ?_ (by rw[A12]<;>lia);rw[uB,<-ψ];show(.ref _,_,I.laid (λ b ob q=>A03 _ q) (P3 _) ?_,rfl,q _<|I.bO.fresh<|P3 _,);show(A15 (qF xs lo hi) hz,_,0,(r.drop _).take _,A17 _ rfl,)
def u9:mM X (.type "tuple") (λ xs H Q=>∃p ys,xs=[.ref p]/\((iY X.K H p ys/\∀l,H l=At->Q (.ref l) (upd H l<|.tup ys))\/(l4 X.K H p ys/\Q (.ref p) H))):=by
 intro B s O H xs us Q I r h;let(p,ys,rfl,h):=h;let(u,rfl,rx):=vals1 r;ext rx;rcases h with⟨hq,q⟩|⟨hq,q⟩
 .let(a8,r',pl,hz):=I.list hq;let ψ:=r'.n;show call_tuple_list pl.isList (λ h' kp=>?_) (by erw[A12]<;>lia);let I1:=I.kept (t':=s.toks) kp;let I2:=
   I1.laid (t':=s.toks) (λ b o e=>A03 _ e) (P3 _)<|show d_ _ X.w _ _ _ (.tup ys)from⟨hz,a8,r',pj.new _ _⟩
  show(.ref _,_,I2,rfl,q _<|I1.bO.fresh<|P3 _,)
 .let(a8,r',pl,hz):=I.tuple hq;show call_tuple_same pl ⟨.ref p,H,I,rfl,q⟩
def _!(K:Da)(T:String)(x:V)(H:Hp):Prop:=match x with
|.str _=>T="str"
|.int _=>T="int"
| .ref p=>(T="list" /\ ∃xs,iY K H p xs)\/(T="tuple" /\ ∃o,K.lookup p=AC o/\o.cls=.type "tuple" /\ o.dict=At) \/
 (T="dict" /\ ((∃aQ,H p=AC (.dK aQ))\/∃aQ,H p=AC (.dT aQ)))\/(T="set" /\ ∃S n,H p=AC (.set S n))
|_=>False
def HJ(I:Inv X B O H s)(r:RelV x v)(ty:_! X.K T x H) :
 s.TypeIs v T/\∀a,v=.ref a->∃ob,s.heap.get? a=AC ob/\ob.dict=At:=by
 cases x with
 |str z=>let(t,rfl):=r;cases (ty);show⟨typeIs_str s z t,λ _ e=>nomatch e⟩
 |int i=>let(t,rfl):=r;cases (ty);show⟨B31 s i t,λ _ e=>nomatch e⟩
 |ref p=>
  ext r;rcases ty with⟨rfl,xs,hq⟩|⟨rfl,o,hk,hc,hd⟩|⟨rfl,hk⟩|⟨rfl,S,n,hk⟩
  .let(a8,_,pl,_):=I.list hq;show(pl.x.typeIs,λ a e=>?_,);ext e;let(o,n,e,c,hd,_):=pl;show(o,e,hd,)
  .refine⟨⟨o,I.lP p o hk,hc⟩,λ a e=>?_⟩;ext e;show(o,I.lP _ o hk,hd,)
  .let z:∃o,s.heap.get? p=AC o/\o.ExactDict:=by
    rcases hk with⟨aQ,hk⟩|⟨aQ,hk⟩
    .let(_,_,_,_,o,_,_,e,ex,_):=I.bO p _ hk;show(o,e,ex,)
    .let(_,_,_,_,o,_,_,e,ex,_):=I.bO p _ hk;show(o,e,ex,)
   let(o,e,ex):=z;show((o,e,ex.1,),λ a e2=>?_,);ext e2;show(o,e,ex.2.1,)
  .let(o,_,_,_,e,ex,_):=I.bO p _ hk;show((o,e,ex.1,),λ a e2=>?_,);ext e2;show(o,e,ex.2.1,)
 |_=>show Gc ty
def aak(K:Da)(T:String)(r:V->U V->Hp->VK->Prop)(to:TE):TE:=λ O H Q=>to O H λ x H1=>_! K T x H1/\r x [] H1 Q
def tBM(K:Da)(T:String)(r:V->U V->Hp->VK->Prop)(to:TE)(t:TA):TE:=λ O H Q=>to O H λ x H1=>_! K T x H1/\t O H1 λ xs H2=>r x xs H2 Q
variable{T id:String}
def R0(pa:PlainAttrs T)(slot:Slot T name id)(hty:typeOf (.builtin id)=pure (.type "method_descriptor"))(hm:VL X id r)(ho:PE X o to)
 (eZ:attributeBase o name X.env (eval o X.J)=eval o X.J:=by rfl) (eT:(apos.endLine==gF.line)=Ch:=by rfl):PE X (.Call (.Attribute o name apos) [] [] gF) (aak X.K T r to):=by
 intro B s O H Q I h;show wpAny_Call_method0_late eZ eT<|b_ (ho B s O H _ I h) ?_;rintro v s1 ⟨x,H1,I1,r1,ty,q1⟩;let(h1,h2):=HJ I1 r1 ty;show(T,id,pa,slot,hty,h1,h2,B62 rfl<|PySem.evalArgs_none<|hm B s1 O H1 x [] v [] Q I1 r1 .nil q1,)
theorem vv(pa:PlainAttrs T)(slot:Slot T name id)(hty:typeOf (.builtin id)=pure (.type "method_descriptor"))(hm:VL X id r)(ho:PE X o to)(ha:PA X (e::es) t)
 (eZ:attributeBase o name X.env (eval o X.J)=eval o X.J:=by rfl)
 (lg:((backTo gF<|starEach (e::es) X.J).all (λ x=>!x.1)&&(backToKw gF<|keywordEach [] X.J).all (λ x=>x.1.isSome)
  && decide ((e::es).length+([]:U π).length+(if([]:U π).isEmpty then 0 else 1)<30))=Ch:=by rfl)
 (eT:(apos.endLine==gF.line)=Ch:=by rfl) (hs:Se e es X.J:=by rfl) (gA:Pn gF es X.J:=by rfl) :
 PE X (.Call (.Attribute o name apos) (e::es) [] gF) (tBM X.K T r to t):=by
 intro B s O H Q I h;show C04 eZ lg eT rfl<|b_ (ho B s O H _ I h) ?_;rintro v s1 ⟨x,H1,I1,r1,ty,q1⟩;let(h1,h2):=HJ I1 r1 ty;show(T,id,pa,slot,hty,h1,h2,?_,);let hA:=ha gF B s1 O H1 _ I1 q1;rw[hs]at hA ⊢;show B62 (by change(AT||(backTo gF _).any _)=AT;rw[gA]<;>rfl)<|C05 ?_;show b_ hA <|by rintro us s2 ⟨vs,H2,I2,r2,q2⟩;show hm B s2 O H2 x vs v us Q I2 r1 r2 q2
/- xs.append(e),list.index on a Jy tuple .. are VL facts of 06m -/
end
def MtM(X:Cx)(id:String)(r:V->U V->Hp->VK->Prop):Prop:=
 ∀ (B:U (δ×μ))(s:θ)(O:St)(H:Hp)(x:V)(xs:U V)(v:ζ)(us:U ζ)(Q:VK),Inv X B O H s->RelV x v->Vals xs us->r x xs H Q ->
  Ev (model X.prog X.w) X.A (call (.builtin id)<|v::us) (EP X B O Q) X.xe s
def Vals.one:∀{x}{us},Vals [x] us->∃u,us=[u]/\RelV x u
|_,_,.cons r .nil=>(_,rfl,r,)
def Vals.zero:∀{us},Vals [] us->us=[]
|_,.nil=>rfl
def Vals.dropLast(h:Vals xs us):Vals xs.dropLast us.dropLast:=by
 induction h with
 |nil=>show .nil
 |cons r t ih=>
  cases t with
  |nil=>show .nil
  |cons q t'=>show .cons r ih
def Vals.rep(h:Vals xs us):∀k,Vals (Db k xs).flatten (Db k us).flatten
|0=>.nil
|k+1=>by rw[A83,A83,B32,B32];show Vals.append h<|Vals.rep h k
def Cv{α:Type}(l:U α):l.eraseIdx (l.length - 1)=l.dropLast:=by
 induction l with
 |nil=>rfl
 |cons a r ih=>
  cases r with
  |nil=>rfl
  |cons b r=>
   let e:(a::b::r).length-1=((b::r).length-1)+1:=by let h1:(a::b::r).length=r.n+2:=rfl;let h2:(b::r).length=r.n+1:=rfl;lia
   rw[e,C06,ih]
   all_goals rfl
def foldl_rep(a8:U ζ):∀k acc,
 AC6 (λ x1 x2=>x1++x2) acc.toArray (Db k a8.q)=(acc++(Db k a8).flatten).toArray
|0,acc=>by simp
|k+1,acc=>by
 let e:acc.q++a8.q=(acc++a8).toArray:=by simp
 let e2:(acc++a8)++(Db k a8).flatten=acc++(Db (k+1) a8).flatten:=by rw[A83,B32,A77]
 rw[<-e2,<-foldl_rep,<-e,A83,AB9]
theorem Inv.S3{a8 Ad:U ζ}(I:Inv X B O H s)(hH:H l=AC (.lst xs))
 (e:s.heap.get? l=AC {cls:=.type "list",data:=.seq a8.toArray n}) (hf:f a8.q=Ad.q) (hv:Vals ys Ad) (hz:ys.n<=sizeLine) :
 Inv X B O (upd H l<|.lst ys) {s with heap:=s.heap.update l<|Obj.mapSeq f,toks:=t'}:=by
 let q:=PySem.IsL.update e f;rw[hf]at q;show I.write (by rw[hH];show trivial) (.inl rfl) (λ b' u hb hu=>(A84 _ _<|A10 hb).trans hu) ⟨_,q⟩ ?_;show(hz,Ad,_,hv,q,)
def Inv.Xs(I:Inv X B O H s)(hv:Vals ys a8)(hz:ys.n<=sizeLine):
 Inv X B O (upd H s.heap.objs.size<|.lst ys) {s with heap:=s.heap.push {cls:=.type "list",data:=.seq a8.q},toks:=t'}:=
 I.laid (λ _ _ q=>A03 _ q) (P3 _) ⟨hz,a8,0,hv,A17 _ rfl⟩
def Inv.fresh(I:Inv X B O H s):H s.t=At:=I.bO.fresh<|P3 _
def Inv.JK(I:Inv X B O H s)(hH:H l=AC (.lst xs)):xs.n<=sizeLine/\∃a8 n,Vals xs a8/\xs.n=a8.n/\s.heap.get? l=AC {cls:=.type "list",data:=.seq a8.toArray n}:=by let(z,a8,n,r,e):=I.bO l _ hH;show(z,a8,n,r,r.n,e,)
def zL(h:n<=sizeLine):Rs n=AT:=by show A43 ∅
def Dz:V->U V->Hp->VK->Prop:=λ x vs H Q=>∃l xs y,x=.ref l/\vs=[y]/\H l=AC (.lst xs)/\xs.n<sizeLine/\Q .non (upd H l<|.lst<|xs++[y])
def pR:MtM X "list.append" Dz:=by intro B s O H x vs v us Q I rx rv h;let(l,xs,y,rfl,rfl,hH,hz,q):=h;ext rx;let(u,rfl,ru):=rv.one;let(z,a8,n,r,hl,e):=I.JK hH;show A72 F.slot_list_append ⟨_,e,rfl⟩ F.entry_list_append (F.args_list_append_2 _ _) (PySem.list_append l _ n u (by rw[A12];lia)) ⟨e,?_⟩;show(.non,_,I.S3 hH e ∅ (r.append<|.cons ru .nil) ?_,rfl,q,);rw[A38,C57];lia
def Dy:V->U V->Hp->VK->Prop:=λ x vs H Q=>∃l b xs zs,x=.ref l/\vs=[.ref b]/\H l=AC (.lst xs)/\H b=AC (.lst zs)/\xs.n+zs.n<=sizeLine/\Q .non (upd H l<|.lst<|xs++zs)
def F':MtM X "list.extend" Dy:=by
 intro B s O H x vs v us Q I rx rv h;let(l,b,xs,zs,rfl,rfl,hH,hB,hz,q):=h;ext rx;let(u,rfl,ru):=rv.one;ext ru;let(z,a8,n,r,hl,e):=I.JK hH;let(z2,g9,n2,r2,Hs,e2):=I.JK hB;let Eu:a8.q.u+g9.q.u<=sizeLine:=by rw[A12,A12];lia
 let J6:¬(!a8.toArray.isEmpty&&Rs (a8.q.u+g9.q.u))=Ch:=by rw[zL Eu,C07];show A75
 show A72 F.slot_list_extend ⟨_,e,rfl⟩ F.entry_list_extend (F.args_list_extend_2 _ _)
  (AutoSeq1.list_extend_list_list_0 l _ n b _ n2 J6 (by rw[A12];lia) ∅) ⟨e,e2,?_⟩
 show(.non,_,I.S3 hH e ∅ (r.append r2) ?_,rfl,q,);rw[A38];lia
def aaK:V->U V->Hp->VK->Prop:=λ x vs H Q=>∃l xs y,x=.ref l/\vs=[]/\H l=AC (.lst xs)/\xs[xs.n-1]?=AC y/\Q y (upd H l<|.lst xs.dropLast)
def SJ:MtM X "list.pop" aaK:=by
 intro B s O H x vs v us Q I rx rv h;let(l,xs,y,rfl,rfl,hH,hy,q):=h;ext rx;let hus:=rv.zero;subst hus;let(z,a8,n,r,hl,e):=I.JK hH;let(u,hu,ru):=r.get hy;let Gq:a8.toArray[a8.q.u-1]?=AC u:=by change a8.toArray[a8.n-1]?=AC u;rw[<-Array.getElem?_toList,<-hl];show hu
 show A72 F.slot_list_pop ⟨_,e,rfl⟩ F.entry_list_pop (F.args_list_pop_1 _) (MeetsSeq.list_pop_last l _ n u Gq (by rw[A12];lia)) ⟨e,?_⟩;show(y,_,I.S3 hH e ?_ r.dropLast ?_,ru,q,)
 .skip
  rw[A12,List.eraseIdxIfInBounds_toArray,Cv]
 .rw[List.length_dropLast];lia
def aaJ:R2:=λ x y H Q=>∃l k xs,x=.ref l/\y=.int k/\H l=AC (.lst xs)/\-(2^63)<=k/\k<2^63/\xs.n*k.v<=sizeLine /\
 ∀p,H p=At->Q (.ref p) (upd H p<|.lst (Db k.toNat xs).flatten)
def len_rep{α:Type}(xs:U α)(k:Nat):(Db k xs).flatten.length=k*xs.n:=by
 induction k with
 |zero=>simp
 |succ k ih=>rw[A83,B32,A38,ih,B33,A95]
def R8:iZ X (binaryOp .Mult) aaJ:=by
 intro B s O H x y v u Q I rx ry h;let(l,k,xs,rfl,rfl,hH,h1,h2,hz,q):=h;ext rx;let(t,rfl):=ry;let(z,a8,n,r,hl,e):=I.JK hH;let ψ:a8.q.u*k.v<=sizeLine:=by rw[A12,<-hl];show hz
 let acg:¬a8.q.u*k.v>(2^63-1) / 8:=by
  let:(sizeLine)<=(2^63-1) / 8:=by decide
  lia
 let ab1:¬(!Builtin.List.listFitsIndex k)=Ch:=by rw[fitsIndex_both h1 h2];show A75
 let J6:¬Rs (a8.q.u*k.v)=Ch:=by rw[zL ψ];show A75
 let TC:AC6 (λ x1 x2=>x1++x2) #[] (Db (if a8.q.isEmpty=Ch then 0 else k.v) a8.q)=(Db k.toNat a8).flatten.toArray:=by
  let f0:=λ m=>by let:=foldl_rep a8 m [];rw[B34]at this;show this
  rw[f0];cases a8 with
  |nil=>simp
  |cons a r'=>rw[W1 ∅]
 show C58 ∅ ⟨_,e,rfl⟩ (λ s'=>B31 s' k t) noFill_list_mul F.fills_int_mul B63 repeat_list F.slot_int_index.lookup
  (A72 B63 (B31 s k t) F.entry_int_rmul (F.args_int_rmul_2 _ _) (int___rmul___int_list k t l a8.toArray n)
   ⟨e,rfl,⟨_,e,rfl⟩,A72 F.slot_list_mul ⟨_,e,rfl⟩ F.entry_list_mul (F.args_list_mul_2 _ _) (AutoListH.list___mul___list_int_3 l a8.toArray n k t ab1 acg J6) ⟨e,?_⟩⟩)
 rw[TC];show(.ref _,_,I.Xs (r.rep k.v) (by rw[len_rep,Nat.mul_comm];show hz),rfl,q _ I.fresh,)
end L2
namespace Att
open PySem.W PySem.Calls
def qX:∀ns vs,WellAll P h vs (ns.map WData.int)->IntsAre vs ns:=by
 intro ns
 induction ns with
 |nil=>intro vs w;rw[A28]at w;ext w;show .nil
 |cons n ns ih=>
  intro vs w;rw[A00]at w;cases w with
  |cons a b=>ext a;show .cons _ _<|ih _ b
def FG{l:OpenLaw}(hn:l.most=AC n)
 (Oq:l.row.toRowW.claim.pre args=Ch) (hwl:WellAll P h vals args) :
 ∃a vs ns,vals=[Value.ref a]/\args=[WData.list (ns.map WData.int)]/\h.get? a=AC {cls:=.type "list",data:=.seq vs.q}/\IntsAre vs ns/\ns.n<=n:=by
 let hsh:=(pre_splitW Oq).1;let hc:l.pre.holds [] {args:=args}=Ch:=(pre_splitW Oq).2;let(d,r,rfl,h1,h2):=hasAllW_cons hsh;obtain rfl:=hasAllW_nil h2;let(xs,rfl,h3):=hasW_list h1;let(ns,rfl):=items_int h3;let ψ:ns.n<=n:=by
  let h4:(WTm.not<|.lt (.lit<|.int<|n)<|.len<|.arg 0).holds [] {args:=[.list (ns.map .int)]}=Ch:=by let h4:=(holds_andW hc).1;rw[hn]at h4;show h4
  let h5:=condW_of h4<|w_not<|w_lt w_lit<|w_len_list<|w_arg rfl;rw[A08]at h5;show Nat.le_of_not_lt λ q=>?_;let q':(n)<((ns.n)):=by lia
  first
   |(rw[A54 q']at h5;show absurd h5 ∅)
   |(simp at h5;lia)
 cases hwl with
 |cons w1 w2=>
  ext w2;cases w1 with
  |list ho hall=>show(_,_,ns,rfl,rfl,ho,qX ns _ hall,ψ,)
def FK(l:OpenLaw)(args:U WData):l.row.toRowW.claim.post args (.bool Ch) args=Ch:=
 postW_of
  (show WShape.has [] _ .bool=Ch by first|rfl|decide|simp[WShape.armsAll])
  (w_eq_bool (w_res rfl) w_lit) rfl
end Att
namespace L2
def vg:∀{vs}{ns},IntsAre vs ns->Vals (ns.map V.int) vs
|_,_,.nil=>.nil
|_,_,.cons n t h=>.cons ⟨t,rfl⟩<|vg h
def PN(H:Hp):Prop:=∀b,H b=At\/(∃o xs,H b=AC (.dW o<|.lst xs))\/∃q,H b=AC (.HN q)
def TabAt(K:Da)(x:Str)(b:δ):Prop:=x∈cM/\∃c,Op K x=AC (c,b)
def N1{K:Da}(one:∀x y c P c',x∈cM->y∈cM->Op K x=AC (c,P)->Op K y=AC (c',P)->x=y)(h:TabAt K x b)(g:TabAt K y b):x=y:=by let(h1,c,h2):=h;let(g1,d,g2):=g;show one x y c b d h1 g1 h2 g2
open Classical in
def BI(K:Da)(a:δ)(u:HO)(s:Bool):Hp:=λ b=>if h:∃x,TabAt K x b then AC (.HN<|i5 h.choose)else if s=Ch/\b=a then AC u else At
theorem JN{P:ο}{w:ξ}{K:FM}{mg mb:Str->ε ζ}{CX:U!}{k:Nat}{fa a:δ}{fd:υ}{x:Str}{sp:Sp}{s₁:θ}{vs:U ζ}{ns:U Int}
 (KX:K.In s₁.e) (J0:s₁.heap.Ns mainGlobals mg) (hb:s₁.heap.Ns builtinsNs mb) (hbb:∀x:Str,x≠ "__name__" -> mb x=bootBuiltins x) (abM:s₁.e.NoLimit) (hg:s₁.gens=#[])
 (ha:s₁.heap.get? a=AC {cls:=.type "list",data:=.seq vs.q}) (hi:IntsAre vs ns) (hl:ns.n<=sizeLine) (hr:bu k callerA)
 (F:∀base:ν,K.In base->base.Ns mainGlobals mg->ee P w K mg base CX k fa fd [x] sp) (lh:∀(s:θ)(u:ζ),BindsTo s fd ⟨[u],[]⟩ [(x,u)])
 (Gs:∀H:Hp,PN H->iY K H a (ns.map V.int)->sp [.ref a] H (λ v _=>v=.bl Ch) λ _ _ _=>False)
 (hCX:∀H e s',CX [] H s₁ (λ _ _ _=>False) e s'->False)
 (one:∀x y c P c',x∈cM->y∈cM->Op K x=AC (c,P)->Op K y=AC (c',P)->x=y)
 (tab:∀x∈cM,∀c P,Op K x=AC (c,P)->(AC8 s₁.heap c P/\s₁.heap.get? P=AC (im #[]))/\s₁.heap.TableAt c P #[]) (bm:BMain mg s₁.e) (mZ:PySem.W.noTabs K=Ch) :
 codeAny (model P w) callerA (.call (.ref fa) ⟨[.ref a],[]⟩) (λ r s'=>r=.ok (.ret<|.bool Ch)/\OldK s₁.heap s'.e/\s'.os=s₁.os/\AllBare s'.gens) s₁:=by
 let rv:=vg hi;let aa7:=hi.n;let Mv:∀{b}{y},TabAt K y b->s₁.heap.get? b=AC (im #[]):=λ {b y} ⟨h1,c,h2⟩=>(tab y h1 c b h2).1.2;let Qo:∀{b}{o},s₁.heap.get? b=AC o->o≠im #[]->¬∃y,TabAt K y b:=λ {b o} e n ⟨y,h⟩=>by let:=Mv h;rw[e]at this;show n<|f8 this
 let at1:∀{b}{u}{q}{y},TabAt K y b->BI K a u q b=AC (.HN<|i5 y):=λ {b u q y} h=>by
  let hh:∃x,TabAt K x b:=(y,h,)
  unfold BI;rw[A96 hh];rw[N1 one hh.choose_spec h]
 let at2:∀{b}{u}{q},(¬∃y,TabAt K y b)->BI K a u q b=if q=Ch/\b=a then AC u else At:=λ {b u q} h=>by unfold BI;rw[dif_neg h]
 let core:∀u q,(∃o xs,u=.dW o (.lst xs))->iY K (BI K a u q) a (ns.map V.int)->(q=Ch->d_ P w (BI K a u q) s₁.heap a u)->(q=Ch->K.lookup a=At) ->
  codeAny (model P w) callerA (.call (.ref fa) ⟨[.ref a],[]⟩) (λ r s'=>r=.ok (.ret<|.bool Ch)/\OldK s₁.heap s'.e/\s'.os=s₁.os/\AllBare s'.gens) s₁:=by
  intro u q hu hS hua hK;generalize hHH:BI K a u q=H at hS hua;let na:¬∃y,TabAt K y a:=Qo ha λ z=>by ext z
  let of:∀{b}{v},H b=AC v->(∃y,TabAt K y b/\v=.HN (i5 y))\/(q=Ch/\b=a/\v=u):=λ {b v} e=>by
   by_cases hb:∃y,TabAt K y b
   .let(y,hy):=hb;rw[<-hHH,at1 hy]at e;ext e;show .inl ⟨y,hy,rfl⟩
   .rw[<-hHH,at2 hb]at e;split at e
    .rename_i hc;ext e;show .inr ⟨hc.1,hc.2,rfl⟩
    .ext e
  let bO:kK P w H s₁.e:=λ b v e=>by
   rcases of e with⟨y,hy,rfl⟩|⟨hq,rfl,rfl⟩
   .exact⟨#[],Mv hy,trivial,λ pos cv z=>nomatch z⟩
   .exact hua hq
  let hO:PN H:=λ b=>by
   cases e:H b with
   |none=>show .inl rfl
   |some v=>
    rcases of e with⟨y,_,rfl⟩|⟨_,_,rfl⟩
    .exact .inr<|.inr ⟨_,rfl⟩
    .let(o,xs,rfl):=hu;show .inr<|.inl ⟨o,xs,rfl⟩
  let rK:∀{b}{o},s₁.heap.get? b=AC o->H b=At->(uM s₁.heap H).get? b=AC o:=λ e n=>J8 e n;let SG:∀{b}{o},s₁.heap.get? b=AC o->(∀xs n,o.data≠.seq xs n)->(∀xs,o.data≠.fields xs\/o.cls≠.none)->H b=At:=λ {b o} e d d2=>by
   cases r:H b with
   |none=>rfl
   |some v=>
    rcases of r with⟨y,hy,_⟩|⟨_,hba,_⟩
    .rw[Mv hy]at e;ext e;rcases d2 #[]with z|z
     .exact absurd rfl z
     .exact absurd rfl z
    .rw[hba,ha]at e;ext e;show absurd rfl<|d _ _
  let _b:∀{b:δ}{m:Str->ε ζ},s₁.heap.Ns b m->(uM s₁.heap H).Ns b m:=λ {b m} ⟨o,es,ep,e,d,r⟩=>(o,es,ep,rK e (SG e (λ xs n z=>by rw[d]at z;ext z) λ xs=>.inl λ z=>by rw[d]at z;ext z),d,r,)
  let hKb:K.In (uM s₁.heap H):=λ b o e=>rK (KX b o e) (by
   cases r:H b with
   |none=>rfl
   |some v=>
    rcases of r with⟨y,hy,_⟩|⟨hq,hba,_⟩
    .let e2:=KX b o e;rw[Mv hy]at e2;ext e2;let h2:=A30.mp mZ _<|PySem.W.mem_of_lookupK e;show absurd (show AT=Ch from h2) A75
    .rw[hba,hK hq]at e;ext e)
  let hM:Mod K mg (uM s₁.heap H):=(hKb,_b J0,(mb,_b hb,hbb,),let ⟨mc,h1,h2⟩:=abM;⟨mc,_b h1,h2⟩,)
  let hT:wA K mg (uM s₁.heap H) H:=λ y hy c p e=>by let(((o,vs,file,tf,flags,tg,inF,text,tt,e1,e2,e3,r),_),_):=tab y hy c p e;let(bmA,ob,b1,b2,b3,b4,b5,b6):=bm;show⟨by rw[<-hHH];show at1 ⟨hy,c,e⟩,(o,vs,file,tf,flags,tg,inF,text,tt,rK e1 (SG e1 (λ xs n z=>by rw[e3]at z;ext z) λ xs=>.inr λ z=>by rw[e2]at z;ext z),e2,e3,r,),bmA,ob,b1,b2,rK b3 (SG b3 (λ xs n z=>by rw[b6]at z;ext z) λ xs=>.inr λ z=>by rw[b4]at z;ext z),b4,b5,b6⟩
  let e0:C3 P w K mg (uM s₁.heap H) callerA [] s₁ H:=(rfl,hM,λ b o e=>Nv e,B92<|Gv _ _,trivial,λ b hb=>absurd (show b∈([]:U δ)from hb) ∅,bO,.of_eq hg,hT,)
  show A92 ((F _ hKb<|_b J0).run callerA [] s₁ H ⟨[.ref a],[]⟩ [.ref a] [.ref a] _ _ hr e0 (lh s₁<|.ref a) (.cons rfl .nil)<|Gs H hO hS) λ r s' h=>?_;cases r with
  |error e=>show(hCX H e s' h).elim
  |ok fl=>
   cases fl with
   |next=>show Gc h
   |brk=>show Gc h
   |cont=>show Gc h
   |ret u'=>
    let(v,H',os,bare,un,X7,r',q'):=h;let q':v=.bl Ch:=q';subst q';obtain rfl:u'=Value.bool Ch:=r';show(rfl,(λ b o e=>?_,λ b o e=>un.there b o e ∅,),os,bare,);cases r:H b with
    |none=>show .inl<|un.keep b o e r (by intro z;show absurd (show b∈([]:U δ)from z) ∅) ∅
    |some v=>
     rcases of r with⟨y,hy,rfl⟩|⟨_,_,rfl⟩
     .let r2:=un.mO b (.HN<|i5 y) trivial r;let(ps,g1,_):=X7 b _ r2;let(h1,c,h2):=hy;let tb:=(tab y h1 c b h2).2;let e3:o={cls:=.none,data:=.fields #[]}:=f8<|e.symm.trans tb.2;subst e3;show .inr<|.inl ⟨tb.isCodeTable,rfl,#[],ps,rfl,by rw[g1];simp⟩
     .let(ob,xs,rfl):=hu;let z2:=un.pW b ob _ r;let(e1,_):=bO b _ r;let(e2,_):=X7 b _ z2;rw[e]at e1;ext e1;show .inl e2
 let na:¬∃y,TabAt K y a:=Qo ha λ z=>by ext z
 cases hk:K.lookup a with
 |some o=>
  let e:=KX a o hk;rw[ha]at e;ext e;show core (.dW {cls:=.type "list",data:=.seq vs.q}<|.lst []) AT ⟨_,_,rfl⟩ (.inr ⟨_,vs.q,_,hk,rfl,rfl,rfl,by rw[A12,aa7];show hl,by calc rv⟩) (λ z=>nomatch z) λ z=>nomatch z
 | none=>show core (.dW {cls:=.type "list",data:=.seq vs.q}<|.lst<|ns.map V.int) Ch ⟨_,_,rfl⟩ (.inl<|.inr ⟨{cls:=.type "list",data:=.seq vs.q},by rw[at2 na];show M2 ⟨rfl,rfl⟩⟩) (λ _=>⟨ha,by rw[A08];show hl,vs,_,rv,ha⟩) λ _=>hk
def bp(s:η):Arguments:=match s with
|.FunctionDef _ a _ _ _ _ _ _ _ _=>a
|_=>{posonlyargs:=[],args:=[],vararg:=At,kwonlyargs:=[],kw_defaults:=[],kwarg:=At,defaults:=[]}
def aC(s:η):U η:=match s with
|.FunctionDef _ _ b _ _ _ _ _ _ _=>b
|_=>[]
def aa(s:η):ς:=match s with
|.FunctionDef _ _ _ _ _ _ sc _ _ _=>sc
|_=>{kind:=.function,names:=[],isGenerator:=AT,isCoroutine:=AT}
abbrev hV:U!:=λ _ _ _ _ _ _=>False
abbrev E0:XK:=λ _ _ _=>False
def sI:Passes hV X E0:=λ _ _ _ _ _ _ _ h=>h.elim
structure Bg(K:Da)(x qual:Str)(st:Stmt)(f:Addr)(fd:FuncData):Prop where
 ex:∃(oc:Value)(od:Option Addr)(kV doc pm:Value)(an:Option Addr)(a5 ct:Value)(yy:Array (Option Value)),
  fd=No x qual (bp st) (aC st) (aa st) .none kV doc pm an a5 ct/\K.lookup f=AC ⟨oc,od,.func fd,yy⟩/\PP K a5 qual=Ch
 kp:FS K (.ref f)=Ch
section
variable{K:Da}
def Bg.ok{st:η}(F:Bg K x qual st f fd)(S:aW N ps (aa st))(len:∀vs H Q E,sp vs H Q E->vs.n=ps.n)
 (Al:∀a5 A outer s H vs Q E,bu k (A.deeper<|envOfC qual (aa st) s.heap.objs.size f a5)->sp vs H Q E ->
  ∃t,pq (c! hV P w K mg base N qual (aa st) f a5 A outer s H E).gO (aC st) t/\t {nx:=λ _ H'=>Q .non H',rt:=Q} (start N vs) H):ee P w K mg base hV (k+1) f fd ps sp:=by
 let(oc,od,kV,doc,pm,an,a5,ct,yy,rfl,lk,rG):=F.ex;show Aq lk rG S len λ A outer s H vs Q E hr Gs=>?_;let(t,h,q):=Al a5 A outer s H vs Q E hr Gs;show(t,h.gO,q,)
def Bg.binds{st:η}(F:Bg K x qual st f fd)
 (h:∀kV doc pm an a5 ct us,us.n=ps.n->bindArgs (No x qual (bp st) (aC st) (aa st) .none kV doc pm an a5 ct) ⟨us,[]⟩=pure (ps.zip us)):Binds K fd ps []:=by
 let(oc,od,kV,doc,pm,an,a5,ct,yy,rfl,lk,rG):=F.ex;show .all<|h kV doc pm an a5 ct
def tH{st:η}{kV doc pm a5 ct:ζ}(l:K.lookup f=AC ⟨oc,od,.func<|PySem.W.fnOf x qual (bp st) (aC st) (aa st) .none kV doc pm an a5 ct,yy⟩)
 (c:PP K a5 qual=Ch) (k:FS K (.ref f)=Ch):Bg K x qual st f (No x qual (bp st) (aC st) (aa st) .none kV doc pm an a5 ct):=((oc,od,kV,doc,pm,an,a5,ct,yy,rfl,l,c,),k,)
end
def pv(i:Nat)(hN:X.N[i]?=AC x:=by rfl)(hv:Lp X.env.scope x:=by first|show AD5 rfl|show sK<|Or.inl rfl|show sK<|Or.inr rfl)(hd:Nd x:=by decide)
 (rG:(x==("__classdict__"))=AT:=by decide):PE X (.Name x pos) (jS i):=sH hN hv hd rG
def az(H H':Hp):Prop:=∀b o,H b=AC o->H' b=AC o
def az.refl(H:Hp):az H H:=λ _ _ h=>h
def az.trans(a:az H H1)(b:az H1 H2):az H H2:=λ c o h=>b c o<|a c o h
def az.free(e:az H H')(h:H' l=Option.none):H l=Option.none:=by
 cases q:H l with
 |none=>rfl
 |some o=>rw[e l o q]at h;ext h
def az.seq{K:Da}(e:az H H')(h:iY K H a xs):iY K H' a xs:=by
 rcases h with(h|⟨o,h⟩)|h
 .exact .inl<|.inl<|e _ _ h
 .exact .inl<|.inr ⟨o,e _ _ h⟩
 .exact .inr h
section
variable{κ:Type}[DecidableEq κ]
def pA(aQ:U (κ×V))(k:κ):ε V:=(aQ.find? λ kv=>decide<|kv.1=k).map (·.2)
def putK(aQ:U (κ×V))(k:κ)(v:V):U (κ×V):=
 if(aQ.any λ kv=>decide<|kv.1=k)=Ch then aQ.map (λ kv=>if kv.1=k then(kv.1,v)else kv)else aQ++[(k,v)]
def hJ(aQ:U (κ×V))(k:κ):U (κ×V):=aQ.filter λ kv=>decide<|kv.1≠k
def nU{k:κ}(e:p.1=k):pA (p::r) k=AC p.2:=by simp[pA,e]
def kP{k:κ}(e:¬p.1=k):pA (p::r) k=pA r k:=by simp[pA,e]
def yN(k:κ):∀aQ,(aQ.any λ kv=>decide<|kv.1=k)=(pA aQ k).isSome
|[]=>rfl
|p::r=>by
 rw[B11];by_cases e:p.1=k
 .simp only[nU e,A54 e,Bool.true_or,Option.isSome_some]
 .rw[kP e,A43 e,Bool.false_or];show yN k r
def qv(aQ:U _)(k:κ)(v:V):(putK aQ k v).length<=aQ.n+1:=by
 unfold putK;split
 .rw[A08];lia
 .rw[A38,A29,C08];lia
def jo.jD(r:jo o u):o.isSome=u.isSome:=by
 cases o with
 |none=>cases u with
  |none=>rfl
  |some _=>show(r).elim
 |some _=>cases u with
  |none=>show(r).elim
  |some _=>rfl
def KV.val(r:KV aQ vs)(k:κ):jo (pA aQ k) (valueAt vs k):=by
 induction r with
 |nil=>show IR
 |@cons p q ps qs h t ih=>
  let(h1,h2):=h;by_cases e:p.1=k
  .let e':=h1.symm.trans e;let b:valueAt (q::qs) k=AC q.2:=by simp[valueAt,e']
   rw[nU e,b];show h2
  .let e':¬q.1=k:=λ z=>e<|h1.trans z;let b:valueAt (q::qs) k=valueAt qs k:=by simp[valueAt,e']
   rw[kP e,b];show ih
def KV.any(r:KV aQ vs)(k:κ):(aQ.any λ kv=>decide<|kv.1=k)=vs.any λ kv=>decide (kv.1=k):=by
 induction r with
 |nil=>rfl
 |cons h t ih=>rw[B11,B11,ih,h.1]
def KV.RF(r:KV aQ vs)(k:κ)(ry:RelV y u):
 KV (aQ.map λ kv=>if kv.1=k then(kv.1,y)else kv) (vs.map λ kv=>if kv.1=k then(kv.1,u)else kv):=by
 induction r with
 |nil=>show .nil
 |@cons p q ps qs h t ih=>
  rw[A00,A00];show .cons ?_ ih;let(h1,h2):=h;by_cases e:p.1=k
  .rw[M2 e,M2<|h1.symm.trans e];show(h1,ry,)
  .rw[W1 e,W1 λ z=>e<|h1.trans z];show(h1,h2,)
def KV.put(r:KV aQ vs)(k:κ)(ry:RelV y u):KV (putK aQ k y) (stored vs k u):=by
 unfold putK stored;rw[r.any];by_cases e:(vs.any λ kv=>decide<|kv.1=k)=Ch
 .rw[M2 e,M2 e];show r.RF k ry
 .rw[W1 e,W1 e];show Paired.snoc r ⟨rfl,ry⟩
def KV.drop(r:KV aQ vs)(k:κ):KV (hJ aQ k) (without vs k):=by
 unfold hJ without
 induction r with
 |nil=>show .nil
 |@cons p q ps qs h t ih=>
  let(h1,h2):=h;rw[AA9,AA9];by_cases e:p.1=k
  .let a:¬decide (p.1≠k)=Ch:=by simp[e]
   let b:¬decide (q.1≠k)=Ch:=by simp[h1.symm.trans e]
   rw[W1 a,W1 b];show ih
  .let e':¬q.1=k:=λ z=>e<|h1.trans z;let a:decide (p.1≠k)=Ch:=by simp[e]
   let b:decide (q.1≠k)=Ch:=by simp[e']
   rw[M2 a,M2 b];show .cons ⟨h1,h2⟩ ih
def KV.length{vs:U (κ×ζ)}(r:KV aQ vs):aQ.n=vs.n:=B27 r
def KL(aQ:U _)(k:κ):(hJ aQ k).length<=aQ.n:=A50 _ _
end
def sW(r:RelV (kV k) u):(dO P w).is k u=Ch:=by
 cases k with
 |inl i=>obtain⟨t,e⟩:=(r);subst e;show zU P w i t
 |inr x=>obtain⟨t,e⟩:=(r);subst e;show zT P w x t
def vT:∀{ks}{us},Vals (ks.map kV) us->ItemsAre (dO P w) ks us
|[],_,r=>by rw[A28]at r;ext r;show .nil
|k::ks,_,r=>by
 rw[A00]at r;cases r with
 |cons h t=>show .cons (sW h)<|vT t
abbrev KT(H:Hp):U (U Key×V)->U (U Key×δ×ζ)->Prop:=Paired λ p q=>p.1=q.1/\H q.2.1=AC (.tup<|p.1.map kV)/\RelV p.2 q.2.2
def KT.val(r:KT H aQ xs)(k:U Key):jo (pA aQ k) ((atKey xs k).map (·.2)):=by
 induction r with
 |nil=>show IR
 |@cons p q ps qs h t ih=>
  let(h1,_,h2):=h;by_cases e:p.1=k
  .let e':=h1.symm.trans e;let b:atKey (q::qs) k=AC q.2:=by simp[atKey,e']
   rw[nU e,b];show h2
  .let e':¬q.1=k:=λ z=>e<|h1.trans z;let b:atKey (q::qs) k=atKey qs k:=by simp[atKey,e']
   rw[kP e,b];show ih
def KT.RF(r:KT H aQ xs)(k:U Key)(ry:RelV y u):
 KT H (aQ.map λ kv=>if kv.1=k then(kv.1,y)else kv) (xs.map<|putAt k u):=by
 induction r with
 |nil=>show .nil
 |@cons p q ps qs h t ih=>
  rw[A00,A00];show .cons ?_ ih;let(h1,h2,h3):=h;unfold putAt;by_cases e:p.1=k
  .rw[M2 e,M2<|h1.symm.trans e];show(h1,h2,ry,)
  .rw[W1 e,W1 λ z=>e<|h1.trans z];show(h1,h2,h3,)
def KT.put(r:KT H aQ xs)(k:U Key)(hb:H b=AC (.tup<|k.map kV))(ry:RelV y u):
 KT H (putK aQ k y) (storedH xs k b u):=by
 let e:(aQ.any λ kv=>decide<|kv.1=k)=(atKey xs k).isSome:=by rw[yN,(r.val k).jD,C09]
 unfold putK storedH;rw[e];by_cases q:(atKey xs k).isSome=Ch
 .rw[M2 q,M2 q];show r.RF k ry
 .rw[W1 q,W1 q];show Paired.snoc r ⟨rfl,hb,ry⟩
def KT.keeps(r:KT H aQ xs)(ht:∀b ys,H b=AC (.tup ys)->H' b=AC (.tup ys)):KT H' aQ xs:=
 Paired.F? r λ _ _ z=>(z.1,ht _ _ z.2.1,z.2.2,)
section
variable{P:ο}{w:ξ}{H:Hp}{h:ν}{a:δ}
def Qb(ok:kK P w H h)(e:Rd H a u):d_ P w H h a u:=e.ok ok
def AM(ok:kK P w H h)(e:Rd H a (.dK aQ)):aQ.n<=sizeLine/\(a==sysModules)=AT/\∃vs,KV aQ vs/\h.DictOf (dO P w) a vs:=
 Qb ok e
def QX(ok:kK P w H h)(e:H a=AC (.dK aQ)):aQ.n<=sizeLine/\(a==sysModules)=AT/\∃vs,KV aQ vs/\h.DictOf (dO P w) a vs:=AM ok<|.inl e
theorem sU(ok:kK P w H h)(e:H a=AC (.tup<|ks.map kV)):(tupleKind<|dO P w).is h ks a:=by
 obtain⟨_,a8,r,tn⟩:=(ok a _ e)
 let(o,h1,h2,n,h3):=tn.is;show⟨o,_,n,h1,h2,h3,by calc vT r⟩
def AJ(ok:kK P w H h)(e:Rd H a (.dT aQ)):aQ.n<=sizeLine/\(a == sysModules)=AT /\
 ∃xs,KT H aQ xs/\h.DictOfH (tupleKind<|dO P w) a xs:=by
 obtain⟨z,y,xs,r,o,es,ep,h1,h2,h3,h4,h5⟩:=(Qb ok e)
 show(z,y,xs,r,o,es,ep,h1,h2,h3,h4,λ x hx=>?_,h5,);let all:∀{l}{m},KT H l m->∀x∈m,(tupleKind<|dO P w).is h x.1 x.2.1:=by
  intro l m q
  induction q with
  |nil=>intro x hx;show nomatch hx
  |@cons p q ps qs hq t ih=>
   intro x hx;rcases A01.mp hx with e|hx
   .subst e;show sU ok (by rw[<-hq.1];show hq.2.1)
   .exact ih x hx
 show all r x hx
def o_(ok:kK P w H h)(e:H a=AC (.dT aQ)):aQ.n<=sizeLine/\(a==sysModules)=AT /\
 ∃xs,KT H aQ xs/\h.DictOfH (tupleKind<|dO P w) a xs:=AJ ok<|.inl e
end
def A9(H:Hp)(a:δ)(y:V)(r:ε V):Prop:=
 (∃aQ k,Rd H a (.dK aQ)/\y=kV k/\r=pA aQ k)\/∃aQ k b,Rd H a (.dT aQ)/\y=.ref b/\H b=AC (.tup<|k.map kV)/\r=pA aQ k
def Zy(H:Hp)(a:δ)(y v:V)(H':Hp):Prop:=
 (∃aQ k,H a=AC (.dK aQ)/\y=kV k/\aQ.n<sizeLine/\H'=upd H a (.dK<|putK aQ k v)) \/
 ∃aQ k b,H a=AC (.dT aQ)/\y=.ref b/\H b=AC (.tup<|k.map kV)/\aQ.n<sizeLine/\H'=upd H a (.dT<|putK aQ k v)
section
variable{X:Cx}{B:U (δ×μ)}{O:St}{H:Hp}{s:θ}{a:δ}{y v:V}{u r:ζ}{o:ε V}{A:τ}{E:ζ->θ->Prop}
def Inv.big(I:Inv X B O H s):sysModules<s.t:=by let h:=(I.mod.glob.keeps I.bk).lt;show Nat.lt_trans ∅ h
def GV(hu:A.units+1<cLine)(I:Inv X B O H s)(g:A9 H a y (AC v))(ry:RelV y u)(h:∀w' s',Inv X B O H s'->RelV v w'->Q w' s'):
 Ev (model X.prog X.w) A (getItem (.ref a) u) Q E s:=by
 rcases g with⟨aQ,k,e,ey,l⟩|⟨aQ,k,b,e,ey,eb,l⟩
 .subst ey;let(z,hd,vs,rel,dd):=AM I.bO e;let(w',hw,BP):=jo.some_of (v:=v) (o:=valueAt vs k) (by rw[l];show rel.val k);show wpAny_getItem_of (sW ry) dd.mapOf hw<|h w' _ (I.tok _) BP
 .subst ey;cases (ry);let(z,hd,xs,rel,dd):=AJ I.bO e;let(w',hw,BP):=jo.some_of (v:=v) (o:=(atKey xs k).map (·.2)) (by rw[l];show rel.val k);let(p,hp,_q):=B35.mp hw;show wpAny_getItem_heap (B64 hu) (sU I.bO eb) dd hp ?_;rw[_q];show h w' _ (I.tok _) BP
def ac2(hu:A.units+1<cLine)(I:Inv X B O H s)(g:A9 H a y o)(ry:RelV y u)(h:∀s',Inv X B O H s'->Q (.bool o.isSome) s'):
 Ev (model X.prog X.w) A (compareOp .In u<|.ref a) Q E s:=by
 rcases g with⟨aQ,k,e,ey,l⟩|⟨aQ,k,b,e,ey,eb,l⟩
 .subst ey;let(z,hd,vs,rel,dd):=AM I.bO e;show wpAny_in_of (sW ry) hd dd.mapOf ?_;rw[<-(rel.val k).jD,<-l];show h _<|I.tok _
 .subst ey;cases (ry);let(z,hd,xs,rel,dd):=AJ I.bO e;show wpAny_in_heap (B64 hu) (sU I.bO eb) hd dd ?_;let q:=(rel.val k).jD;rw[C09]at q;rw[<-q,<-l];show h _<|I.tok _
def Pb(hu:A.units+1<cLine)(I:Inv X B O H s)(g:A9 H a y o)(ry:RelV y u)(h:∀s',Inv X B O H s'->Q (.bool<|!o.isSome) s'):
 Ev (model X.prog X.w) A (compareOp .NotIn u<|.ref a) Q E s:=by
 rcases g with⟨aQ,k,e,ey,l⟩|⟨aQ,k,b,e,ey,eb,l⟩
 .subst ey;let(z,hd,vs,rel,dd):=AM I.bO e;show wpAny_notIn_of (sW ry) hd dd.mapOf ?_;rw[<-(rel.val k).jD,<-l];show h _<|I.tok _
 .subst ey;cases (ry);let(z,hd,xs,rel,dd):=AJ I.bO e;show wpAny_notIn_heap (B64 hu) (sU I.bO eb) hd dd ?_;let q:=(rel.val k).jD;rw[C09]at q;rw[<-q,<-l];show h _<|I.tok _
def yi(I:Inv X B O H s)(mu:Zs (H a))(hs:IN a s.heap h')(he:∃q,h'.get? a=AC q)(new:d_ X.prog X.w (upd H a ob) h' a ob):
 Inv X B O (upd H a ob) {s with heap:=h',toks:=t'}:=
 I.write mu (.inl rfl) (λ b q hb z=>(hs.2 b hb).trans z) he new
def KU(z:aQ.n<=sizeLine)(hd:(a==sysModules)=AT)(rel:KV aQ vs)(dd:h'.DictOf (dO P w) a vs):
 d_ P w H' h' a (.dK aQ):=(z,hd,vs,rel,dd,)
def GU(hu:A.units+1<cLine)(I:Inv X B O H s)(g:Zy H a y v H')(ry:RelV y u)(rv:RelV v r)(h:∀s',Inv X B O H' s'->Q () s'):
 Ev (model X.prog X.w) A (setItem (.ref a) u r) Q E s:=by
 rcases g with⟨aQ,k,e,ey,l,eH⟩|⟨aQ,k,b,e,ey,eb,l,eH⟩
 .subst ey eH;let(z,hd,vs,rel,dd):=QX I.bO e;let hz:vs.n<=sizeLine:=by rw[<-rel.n];show z
  let hl:(putK aQ k v).length<=sizeLine:=by let:=qv aQ k v;lia
  show wpAny_setItem_pairs (sW ry) dd λ h' QY hs=>h _ ?_;let he:∃q,h'.get? a=AC q:=let ⟨q,_,_,hq,_⟩:=QY;⟨q,hq⟩;show yi I (by rw[e];show IR) hs he<|KU hl hd (rel.put k rv) QY
 .subst ey eH;cases (ry);let(z,hd,xs,rel,dd):=o_ I.bO e;let hz:xs.n<=sizeLine:=by rw[<-B27 rel];show z
  let hl:(putK aQ k v).length<=sizeLine:=by let:=qv aQ k v;lia
  show wpAny_setItem_heap (B64 hu) (sU I.bO eb) dd λ h' QY hs=>h _ ?_;let(q,es,ep,hq,h2,h3,h4,_,h5):=QY;show yi I (by rw[e];show IR) hs ⟨q,hq⟩ ⟨hl,hd,_,(rel.put k eb rv).keeps λ c ys ec=>?_,q,es,ep,hq,h2,h3,h4,h5⟩;rw[av<|Qp ec e λ z=>nomatch z];show ec
end
section
variable{X:Cx}{O:St}{H:Hp}{s:θ}{a:δ}{aQ:U (Key×V)}{k:Key}{u:ζ}{A:τ}{E:ζ->θ->Prop}
def Y4(I:Inv X B O H s)(e:H a=AC (.dK aQ))(ry:RelV (kV k) u)(l:pA aQ k=AC v)(hm:more=[]\/∃x,more=[x])
 (h:∀w' s',Inv X B O (upd H a<|.dK<|hJ aQ k) s'->RelV v w'->Q w' s'):Ev (model X.prog X.w) A (call (.builtin "dict.pop")<|.ref a::u::more) Q E s:=by
 let(z,hd,vs,rel,dd):=QX I.bO e;let(w',hw,BP):=jo.some_of (v:=v) (o:=valueAt vs k) (by rw[<-l];show rel.val k);let hp:(keyPart u).isSome=Ch:=by
  cases k with
  |inl i=>obtain⟨t,q⟩:=(ry);subst q;rfl
  |inr x=>obtain⟨t,q⟩:=(ry);subst q;rfl
 let ha:argsOk "dict.pop" ⟨.ref a::u::more,[]⟩:=by
  rcases hm with q|⟨x,q⟩
  .subst q;show PySem.F.args_dict_pop_2 _ _
  .subst q;show PySem.F.args_dict_pop_3 _ _ _
 show call_meetsIn C59 dd.typeIs PySem.F.entry_dict_pop ha (meets_dict_pop_there _ a (sW ry) more hm hp)
  ⟨vs,w',dd,by rw[<-rel.n];show z,hw,λ h' QY hs=>h w' _ ?_ BP⟩
 let he:∃q,h'.get? a=AC q:=let ⟨q,_,_,hq,_⟩:=QY;⟨q,hq⟩;show yi I (by rw[e];show IR) hs he<|KU (A15 (KL aQ k) z) hd (rel.drop k) QY
end
def U3(i:ι):Prop:=∀ov iv,subscripted i AT ov iv=operate [ov,iv] (getItem ov iv)
def MB{T id:String}
 (hl:typeLookup (.type T) "__getitem__"=pure (AC<|.builtin id)) (hs:U3 slice)
 (h:Ev (model prog w) A (eval value env) (λ o s₁=>Ev (model prog w) A (eval slice env) (λ i s₂=>s₂.TypeIs o T/\Ev (model prog w) A (getItem o i) Q E s₂) E s₁) E s) :
 Ev (model prog w) A (eval (.Subscript value slice pos) env) Q E s:=by
 show Subscript_<|A22 h (λ o s₁ h₁=>A22 h₁ (λ i s₂ h₂=>?_) λ _ _ x=>x) λ _ _ x=>x;let(hT,h₂):=h₂;show T0 ?_;rw[getitemInPython_of_ne hT.not_modules];show T0<|wpAny_specialOf hT hl ?_;let fin:Ev (model prog w) A (subscripted slice AT o i) (λ r s₃=>Ev (model prog w) A (letTemporaryGo value o r>>=λ _=>pure r) Q E s₃) E s₂:=by rw[hs];show wpAny_operating<|A22 h₂ (λ r s₃ h₃=>T0<|wpAny_letTemporaryGo<|v4 h₃) λ _ _ x=>x
 first
  |show v4<|T0 fin
  |show T0 _
  |show T0 fin
def AR(I:Inv X B O H s)(g:A9 H a y o):s.TypeIs (.ref a) "dict":=by
 rcases g with⟨aQ,k,e,_,_⟩|⟨aQ,k,b,e,_,_,_⟩
 .let(_,_,vs,_,dd):=AM I.bO e;show dd.typeIs
 .let(_,_,xs,_,dd):=AJ I.bO e;show dd.typeIs
def V_(td ty:TE):TE:=λ O H Q=>td O H λ x H1=>ty O H1 λ y H2=>∃a v,x=.ref a/\A9 H2 a y (AC v)/\Q v H2
def aaj(ty td:TE):TE:=λ O H Q=>ty O H λ y H1=>td O H1 λ x H2=>∃a o,x=.ref a/\A9 H2 a y o/\Q (.bl o.isSome) H2
def Mz(ty td:TE):TE:=λ O H Q=>ty O H λ y H1=>td O H1 λ x H2=>∃a o,x=.ref a/\A9 H2 a y o/\Q (.bl<|!o.isSome) H2
def Wl(td ty tv:TE):TS:=λ D O H=>tv O H λ v H1=>td O H1 λ x H2=>ty O H2 λ y H3=>∃a H4,x=.ref a/\Zy H3 a y v H4/\D.nx O H4
section
variable{X:Cx}{o i e value:ι}{pos pos' afu:Pos}{td ty tv:TE}
def M'(hu:X.A.units+1<cLine)(ho:PE X o td)(hi:PE X i ty)(hs:U3 i):PE X (.Subscript o i pos) (V_ td ty):=by intro B s O H Q I h;show MB PySem.F.slot_dict_getitem.lookup hs<|b_ (ho B s O H _ I h) λ u s1 ⟨x,H1,I1,rx,q1⟩=>b_ (hi B s1 O H1 _ I1 q1) ?_;rintro iv s2 ⟨y,H2,I2,ry,a,v,ex,g,q2⟩;subst ex;obtain rfl:u=Value.ref a:=rx;show(AR I2 g,GV hu I2 g ry λ w' s3 I3 BP=>(v,H2,I3,BP,q2,),)
def R3(hu:X.A.units+1<cLine)(hi:PE X i ty)(ho:PE X o td):PC X .In i o (aaj ty td):=by intro B s O H Q I h;show b_ (hi B s O H _ I h) λ iv s1 ⟨y,H1,I1,ry,q1⟩=>b_ (ho B s1 O H1 _ I1 q1) ?_;rintro u s2 ⟨x,H2,I2,rx,a,ov,ex,g,q2⟩;subst ex;obtain rfl:u=Value.ref a:=rx;show ac2 hu I2 g ry λ s3 I3=>(.bl _,H2,I3,rfl,q2,)
def FL(hu:X.A.units+1<cLine)(hi:PE X i ty)(ho:PE X o td):PC X .NotIn i o (Mz ty td):=by intro B s O H Q I h;show b_ (hi B s O H _ I h) λ iv s1 ⟨y,H1,I1,ry,q1⟩=>b_ (ho B s1 O H1 _ I1 q1) ?_;rintro u s2 ⟨x,H2,I2,rx,a,ov,ex,g,q2⟩;subst ex;obtain rfl:u=Value.ref a:=rx;show Pb hu I2 g ry λ s3 I3=>(.bl _,H2,I3,rfl,q2,)
def MZ(hu:X.A.units+1<cLine)(ho:PE X o td)(hi:PE X i ty)(hv:PE X value tv)(hs:swapsWith value (AC<|.Subscript o i pos') pos.line X.J=pure AT):
 PS X (.Assign [.Subscript o i pos'] value pos) (Wl td ty tv):=by
 intro B s O H D I h;show wpAny_Assign_Subscript (b_ (hv B s O H _ I h) λ r s1 ⟨v,H1,I1,rv,q1⟩=>b_ (ho B s1 O H1 _ I1 q1) λ u s2 ⟨x,H2,I2,rx,q2⟩=>b_ (hi B s2 O H2 _ I2 q2) ?_) hs;rintro iv s3 ⟨y,H3,I3,ry,a,H4,ex,g,q3⟩;subst ex;obtain rfl:u=Value.ref a:=rx;show GU hu I3 g ry rv λ s4 I4=>(O,H4,I4,q3,)
end
def KW(h:ν)(hb:sysModules<h.Z):d_ P w H (h.push {cls:=.type "dict",data:=.dict #[]}) h.objs.size (.dK []):=
 ⟨A57 _,A51.mpr<|A10<|A16 hb,[],.nil,Heap.DictOf.new h⟩
def Rx:TE:=λ _ H Q=>∀p,H p=At->Q (.ref p) (upd H p<|.dK [])
def IM:PE X (.Dict [] [] pos) Rx:=λ B s O H Q I h=>wpAny_Dict_empty ⟨.ref _,_,I.laid (λ _ _ q=>A03 _ q) (P3 _)<|KW _ I.big,rfl,h _<|I.bO.fresh<|P3 _⟩
end L2
set_option genSizeOf true
namespace Z
set_option genInjectivity true
inductive D where
|non
|bl (b:Bool)
|int (i:Int)
|str (cs:List Nat)
|tup (xs:List D)
|lst (xs:List D)
|dct (ks:List (Sum Int<|List Nat)) (vs:List D)
inductive Res(α:Type) where
|ok (a:α)
|bad
namespace Res
def bind{α β:Type}(r:Res α)(f:α->Res β):Res β:=
 match r with
 |ok a=>f a
 |bad=>bad
@[simp] def lL(a:α)(f:α->Res β):(Res.ok a).bind f=f a:=rfl
@[simp] def Ze(f:α->Res β):(Res.bad).bind f=bad:=rfl
def map{α β:Type}(f:α->β)(r:Res α):Res β:=
 match r with
 |ok a=>ok<|f a
 |bad=>bad
@[simp] def aa6(a:α)(f:α->β):(Res.ok a).map f=ok (f a):=rfl
@[simp] def _e(f:α->β):(Res.bad).map f=bad:=rfl
def ae{f:α->Res β}(h:r.bind f=ok b):∃a,r=ok a/\f a=ok b:=by
 cases r with
 |ok a=>show(a,rfl,h,)
 |bad=>ext h
end Res
open Classical in
def guard{α:Type}(p:Prop)(r:Res α):Res α:=if p then r else .bad
@[simp] def guard_true(r:Res α):guard True r=r:=by show M2 trivial
def guard_pos{r:Res α}(h:p):guard p r=r:=by show M2 h
def bI{a:α}(h:guard p r=.ok a):p/\r=.ok a:=by
 unfold guard at h;split at h
 .rename_i q;show(q,h,)
 .ext h
inductive L where
|val (d:D)
|own (xs:List D)
|bor (d:D)
|dc (k:List (List Int) ⊕ List (List Nat×List Nat))
|Ko (ks:List (List Int))
|Tj (ps:List (Int×Int))
|exc (c:List Nat×List (List Nat×D))
abbrev DK:=U (U Int) ⊕ U (U Nat×U Nat)
abbrev Env:=U<|ε L
abbrev EF:=Env->Res D
abbrev LF:=Env->Res (U D)
abbrev TF:=Env->Res Bool
abbrev AF:=Env->Res (U D)
inductive Fl where
|nx (Y:Env)
|rt (d:D)
|bk (Y:Env)
|ct (Y:Env)
set_option genInjectivity false
abbrev SF:=Env->Res Fl
abbrev GF:=D->Env->Res Env
abbrev line:Nat:=16777216
def c9:U (U Nat):=[[104,97,108,108],[103,117,101,115,116,115],[104,101,108,100],[112,108,97,99,101,115]]
def eK(a kd:Nat)(ks:U (U Nat))(vs:U D):D:=.dct (.inl a::.inl kd::ks.map .inr) vs
@[simp] def eC(d:D)(_:Env):Res D:=.ok d
def eV(i:Nat)(Y:Env):Res D:=match Y[i]? with
|some<|some<|.val d=>.ok d
|_=>.bad
def eW(i:Nat)(Y:Env):Res D:=match Y[i]? with
|some<|some<|.val d=>.ok d
|some<|some<|.own xs=>.ok<|.lst xs
|some<|some<|.bor<|.lst xs=>.ok<|.lst xs
|_=>.bad
abbrev eI(n:Int):EF:=eC<|.int n
@[simp] def eB(op:D->D->Res D)(a b:EF)(Y:Env):Res D:=(a Y).bind λ x=>(b Y).bind λ y=>op x y
@[simp] def eU(op:D->Res D)(a:EF)(Y:Env):Res D:=(a Y).bind op
def mf(a b:EF)(Y:Env):Res D:=(a Y).bind λ x=>match x with
|.bl c=>if c then b Y else .ok (.bl AT)
|_=>.bad
def Ud(a b:EF)(Y:Env):Res D:=(a Y).bind λ x=>match x with
|.bl c=>if c then .ok (.bl Ch)else b Y
|_=>.bad
def OV(a:EF)(Y:Env):Res D:=(a Y).bind λ x=>match x with
|.bl c=>.ok<|.bl !c
|_=>.bad
def dI(op FW:D->D->Res D)(a b c:EF)(Y:Env):Res D:=(a Y).bind λ x=>(b Y).bind λ y=>(op x y).bind λ z=>match z with
|.bl k=>if k then(c Y).bind λ w=>FW y w else .ok (.bl AT)
|_=>.bad
@[simp] def _O(t:TF)(a b:EF)(Y:Env):Res D:=(t Y).bind λ c=>if c then a Y else b Y
@[simp] def eL(l:LF)(Y:Env):Res D:=(l Y).map D.lst
@[simp] def ag(_:Env):Res (U D):=.ok []
@[simp] def ai(a:EF)(r:AF)(Y:Env):Res (U D):=(a Y).bind λ x=>(r Y).bind λ xs=>.ok<|x::xs
@[simp] def bq(as:AF)(Y:Env):Res (U D):=(as Y).bind λ xs=>guard (xs.n<=line)<|.ok xs
@[simp] def cm(as:AF)(Y:Env):Res D:=(as Y).bind λ xs=>guard (xs.n<=line)<|.ok<|.tup xs
abbrev aV(i:Nat):=ai<|eV i
abbrev aI(n:Int):=ai<|eI n
@[simp] def aj(f:U D->Res D)(as:AF)(Y:Env):Res D:=(as Y).bind f
def tE(a:EF)(Y:Env):Res Bool:=(a Y).bind λ x=>match x with
|.bl c=>.ok c
|_=>.bad
@[simp] def n8(a b:TF)(Y:Env):Res Bool:=(a Y).bind λ c=>if c then b Y else .ok AT
@[simp] def nP(a b:TF)(Y:Env):Res Bool:=(a Y).bind λ c=>if c then .ok Ch else b Y
@[simp] def cZ(a:TF)(Y:Env):Res Bool:=(a Y).bind λ c=>.ok !c
def bits(a:Int):Nat:=if a=0 then 0 else a.natAbs.log2+1
def aS:D->D->Res D
|.int a,.int b=>.ok<|.int<|a+b
|.str a,.str b=>guard (a.n+b.n<=line)<|.ok<|.str<|a++b
|.tup a,.tup b=>guard (a.n+b.n<=line)<|.ok<|.tup<|a++b
|_,_=>.bad
def mW:D->D->Res D
|.int a,.int b=>.ok<|.int<|a-b
|_,_=>.bad
def bN(a b:Int):Prop:=((-18446744073709551616<a/\a<18446744073709551616)\/(-18446744073709551616<b/\b<18446744073709551616)\/(bits a<=16777216/\bits b<=16777216))
def eP:D->D->Res D
|.int a,.int b=>guard (bN a b)<|.ok<|.int<|a*b
|_,_=>.bad
def ir(b:Int):Prop:=0<b/\b<1809251394333065553493296640760748560207343510400633813116524750123642650624
def oDiv:D->D->Res D
|.int a,.int b=>guard (ir b)<|.ok<|.int<|a / b
|_,_=>.bad
def oMod:D->D->Res D
|.int a,.int b=>guard (0<b)<|.ok<|.int<|a % b
|_,_=>.bad
def mX:D->D->Res D
|.int a,.int b=>guard (0<=b/\b<=1000000/\a.natAbs<2^64)<|.ok<|.int<|a^b.v
|_,_=>.bad
def F3:D->Res D
|.int a=>.ok<|.int<|-a
|_=>.bad
def Hj:U Nat->U Nat->Bool
|[],[]=>AT
|[],_::_=>Ch
|_::_,[]=>AT
|a::as,b::bs=>if a<b then Ch else if a=b then Hj as bs else AT
def oLt:D->D->Res D
|.int a,.int b=>.ok<|.bl<|decide<|a<b
|_,_=>.bad
def oLe:D->D->Res D
|.int a,.int b=>.ok<|.bl<|decide<|a<=b
|.str a,.str b=>.ok<|.bl<|!(Hj b a)
|_,_=>.bad
def Je:D->D->Res D
|.int a,.int b=>.ok<|.bl<|decide<|b<a
|_,_=>.bad
def Vk:D->D->Res D
|.int a,.int b=>.ok<|.bl<|decide<|b<=a
|_,_=>.bad
def _L:D->D->ε Bool
|.non,.non=>AC Ch
|.bl a,.bl b=>AC<|a==b
|.bl a,.int b=>AC<|(if a then 1 else 0)==b
|.int a,.bl b=>AC<|a==(if b then 1 else 0)
|.int a,.int b=>AC<|a==b
|.str a,.str b=>AC<|a==b
|.non,.bl _=>AC AT
|.non,.int _=>AC AT
|.non,.str _=>AC AT
|.bl _,.non=>AC AT
|.bl _,.str _=>AC AT
|.int _,.non=>AC AT
|.int _,.str _=>AC AT
|.str _,.non=>AC AT
|.str _,.bl _=>AC AT
|.str _,.int _=>AC AT
|_,_=>At
def allEq(f:D->D->ε Bool):U D->U D->ε Bool
|[],[]=>AC Ch
|[],_::_=>AC AT
|_::_,[]=>AC AT
|a::as,b::bs=>match f a b,allEq f as bs with
 |some x,AC y=>AC<|x&&y
 |_,_=>At
def gD:Nat->D->D->ε Bool
|n+1,.tup a,.tup b=>allEq (gD n) a b
|n+1,.lst a,.lst b=>allEq (gD n) a b
|_,.tup _,.lst _=>AC AT
|_,.lst _,.tup _=>AC AT
|_,.tup _,.non=>AC AT
|_,.tup _,.bl _=>AC AT
|_,.tup _,.int _=>AC AT
|_,.tup _,.str _=>AC AT
|_,.non,.tup _=>AC AT
|_,.bl _,.tup _=>AC AT
|_,.int _,.tup _=>AC AT
|_,.str _,.tup _=>AC AT
|_,.lst _,.non=>AC AT
|_,.lst _,.bl _=>AC AT
|_,.lst _,.int _=>AC AT
|_,.lst _,.str _=>AC AT
|_,.non,.lst _=>AC AT
|_,.bl _,.lst _=>AC AT
|_,.int _,.lst _=>AC AT
|_,.str _,.lst _=>AC AT
|_,x,y=>_L x y
def kH:D->D->ε Bool:=gD 6
def oEq(a b:D):Res D:=match kH a b with
|some x=>.ok<|.bl x
|none=>.bad
def l_(a b:D):Res D:=match kH a b with
|some x=>.ok<|.bl !x
|none=>.bad
def gj:D->Res D
|.non=>.ok<|.bl Ch
|_=>.ok<|.bl AT
def iF:D->Res D
|.non=>.ok<|.bl AT
|_=>.ok<|.bl Ch
def oH:D->D->Res D
|.str [c],.str t=>.ok<|.bl<|!(t.contains c)
|_,_=>.bad
def fM(x:D):U D->ε Bool
|[]=>AC AT
|y::r=>match kH y x,fM x r with
 |some a,AC b=>AC<|a||b
 |_,_=>At
def uI:D->D->Res D
|x,.tup ys=>match fM x ys with
 |some b=>.ok<|.bl b
 |none=>.bad
|x,.lst ys=>match fM x ys with
 |some b=>.ok<|.bl b
 |none=>.bad
|_,_=>.bad
def kZ:D->D->Res D
|x,.tup ys=>match fM x ys with
 |some b=>.ok<|.bl !b
 |none=>.bad
|x,.lst ys=>match fM x ys with
 |some b=>.ok<|.bl !b
 |none=>.bad
|_,_=>.bad
def bj:D->Res D
|.str t=>guard (t.n<=line)<|.ok<|.int t.n
|.tup xs=>.ok<|.int xs.n
|.lst xs=>.ok<|.int xs.n
|_=>.bad
inductive Ty where
|bool|int|str|tuple|list|dict
def dE:Ty->D->Bool
|.bool,.bl _=>Ch
|.int,.bl _=>Ch
|.int,.int _=>Ch
|.str,.str _=>Ch
|.tuple,.tup _=>Ch
|.list,.lst _=>Ch
|.dict,.dct _ _=>Ch
|_,_=>AT
@[simp] def dS(t:Ty)(x:D):Res D:=.ok<|.bl<|dE t x
def vS(n:Nat)(i:Int):ε Nat:=if 0<=i then(if i<n then AC i.v else At)else if -(n:Int)<=i then AC (i+n).toNat else At
def bf:D->D->Res D
|.tup xs,.int i=>match (vS xs.length i).bind λ j=>xs[j]? with
 |some v=>.ok v
 |none=>.bad
|.lst xs,.int i=>match (vS xs.length i).bind λ j=>xs[j]? with
 |some v=>.ok v
 |none=>.bad
| .str cs,.int i=>guard (cs.n<=line) (match (vS cs.length i).bind λ j=>cs[j]? with
 |some c=>.ok<|.str [c]
 | none=>.bad)
|_,_=>.bad
abbrev eX(i n:Nat):=eB bf (eW i)<|eI n
abbrev aX(i n:Nat):=ai<|eX i n
abbrev eY(i j:Nat):=eB bf (eW i)<|eW j
def c6(n d:Nat):ε Int->Nat
|none=>d
|some i=>if i<0 then(i+n).toNat else min i.toNat n
def cut{α:Type}(xs:U α)(lo hi:ε Int):U α:=(xs.drop<|c6 xs.length 0 lo).take<|c6 xs.length xs.length hi-c6 xs.length 0 lo
abbrev PF:=Env->Res (ε Int)
@[simp] def FO(_:Env):Res (ε Int):=.ok At
def qp(a:EF)(Y:Env):Res (ε Int):=(a Y).bind λ x=>match x with
|.int i=>.ok<|some i
|_=>.bad
def WX:D->ε Int->ε Int->Res D
|.str cs,lo,hi=>guard (cs.n<=line)<|.ok<|.str<|cut cs lo hi
|.tup xs,lo,hi=>.ok<|.tup<|cut xs lo hi
|_,_,_=>.bad
@[simp] def Cw(a:EF)(lo hi:PF)(Y:Env):Res D:=(a Y).bind λ x=>(lo Y).bind λ l=>(hi Y).bind λ h=>WX x l h
def Qt(a:EF)(lo hi:PF)(Y:Env):Res (U D):=(a Y).bind λ x=>(lo Y).bind λ l=>(hi Y).bind λ h=>match x with
|.lst xs=>.ok<|cut xs l h
|_=>.bad
def S8(a b:EF)(Y:Env):Res (U D):=(a Y).bind λ x=>(b Y).bind λ y=>match x,y with
|.lst xs,.lst ys=>guard (xs.n+ys.n<=line)<|.ok<|xs++ys
|_,_=>.bad
def allB:U D->ε Bool
|[]=>AC Ch
|.bl b::r=>(allB r).map (b&&·)
|_::_=>At
def i4:D->Res D
|.lst xs=>match allB xs with
 |some b=>.ok<|.bl b
 |none=>.bad
|_=>.bad
def jc:D->Res (U D)
|.tup xs=>.ok xs
|.lst xs=>.ok xs
|.str cs=>.ok<|cs.map λ c=>.str [c]
|_=>.bad
@[simp] def c5(a:EF)(Y:Env):Res (U D):=(a Y).bind jc
def zints(lo:Int)(n:Nat):U D:=(EQ n).map λ i=>D.int<|lo+(i:Nat)
def dF(a:EF)(Y:Env):Res (U D):=(a Y).bind λ x=>match x with
|.int j=>.ok<|zints 0 j.v
|_=>.bad
def Ah(a b:EF)(Y:Env):Res (U D):=(a Y).bind λ x=>(b Y).bind λ y=>match x,y with
|.int i,.int j=>.ok<|zints i (j-i).toNat
|_,_=>.bad
@[simp] def aH(i:Nat)(d:D)(Y:Env):Res Env:=.ok<|Y.set i<|some<|.val d
def h9:U Nat->U D->Env->Res Env
|[],[],Y=>.ok Y
|i::is,d::ds,Y=>h9 is ds<|Y.set i<|some<|.val d
|_,_,_=>.bad
def cJ(is:U Nat)(d:D)(Y:Env):Res Env:=match d with
|.tup ds=>h9 is ds Y
|_=>.bad
def qH(Y:Env)(i:Nat):ε L:=match Y[i]? with
|some<|some<|.val d=>AC<|.val d
|some<|some<|.bor d=>AC<|.bor d
|some<|some<|.Ko ks=>AC<|.Ko ks
|some<|some<|.own xs=>AC<|.bor<|.lst xs
|_=>At
def fg(Y:Env)(is:U Nat):Env:=is.map<|qH Y
def b7(g:GF)(t:TF)(e:EF)(Y:Env):U D->Res (U D)
|[]=>.ok []
|d::r=>(g d Y).bind λ Y1=>(t Y1).bind λ c=>if c then(e Y1).bind λ y=>(b7 g t e Y r).bind λ ys=>.ok (y::ys)else b7 g t e Y r
def bx(it:LF)(n:Nat)(is:U Nat)(g:GF)(t:TF)(e:EF)(Y:Env):Res (U D):=(it Y).bind λ ds=>guard (ds.n<=line)<|b7 g t e (Db n At++fg Y is) ds
@[simp] def b8(_:Env):Res Bool:=.ok Ch
@[simp] def aR(Y:Env):Res Fl:=.ok<|.nx Y
def aD(a b:SF)(Y:Env):Res Fl:=(a Y).bind λ fl=>match fl with
|.nx Y'=>b Y'
|o=>.ok o
@[simp] def aN(i:Nat)(e:EF)(Y:Env):Res Fl:=(e Y).bind λ d=>.ok<|.nx<|Y.set i<|some<|.val d
@[simp] def jv(i:Nat)(e:LF)(Y:Env):Res Fl:=(e Y).bind λ xs=>.ok<|.nx<|Y.set i<|some<|.own xs
@[simp] def RD(e:EF)(g:GF)(Y:Env):Res Fl:=(e Y).bind λ d=>(g d Y).bind λ Y'=>.ok<|.nx Y'
@[simp] def dN(t:TF)(a b:SF)(Y:Env):Res Fl:=(t Y).bind λ c=>if c then a Y else b Y
@[simp] def aJ(e:EF)(Y:Env):Res Fl:=(e Y).bind λ d=>.ok<|.rt d
def dW(i:Nat)(Y:Env):Env:=match Y[i]? with
|some<|some<|.own xs=>Y.set i<|some<|.val<|.lst xs
|_=>Y
def oh(i:Nat)(a:SF)(Y:Env):Res Fl:=a<|dW i Y
def b9(i:Nat)(e:EF)(Y:Env):Res Fl:=(e Y).bind λ d=>match Y[i]? with
|some<|some<|.own xs=>guard (xs.n<line)<|.ok<|.nx<|Y.set i<|some<|.own<|xs++[d]
|_=>.bad
def bM(g:GF)(b:SF):U D->Env->Res Fl
|[],Y=>.ok<|.nx Y
|d::r,Y=>(g d Y).bind λ Y1=>(b Y1).bind λ fl=>match fl with
 |.nx Y'=>bM g b r Y'
 |.ct Y'=>bM g b r Y'
 |.bk Y'=>.ok<|.nx Y'
 |.rt d=>.ok<|.rt d
@[simp] def eS(it:LF)(g:GF)(b:SF)(Y:Env):Res Fl:=(it Y).bind λ ds=>bM g b ds Y
def start(n:Nat)(ds:U D):Env:=ds.map (λ d=>AC<|.val d)++Db (n-ds.n) At
def fn(ps n:Nat)(b:SF)(ds:U D):Res D:=if ds.n=ps then(match b (start n ds)with
|.ok<|.rt d=>.ok d
|.ok<|.nx _=>.ok .non
| _=>.bad)else .bad
def qV:Bool->D->L
|true,.lst xs=>.bor<|.lst xs
|true,.dct ks vs=>.bor<|.dct ks vs
|_,d=>.val d
def startB(n:Nat)(bs:U Bool)(ds:U D):Env:=(al (λ b d=>AC<|qV b d) bs ds)++Db (n-ds.n) At
def As(bs:U Bool)(n:Nat)(b:SF)(ds:U D):Res D:=if ds.n=bs.n then(match b (startB n bs ds)with
|.ok<|.rt d=>.ok d
|.ok<|.nx _=>.ok .non
| _=>.bad)else .bad
end Z
open Z renaming Res.ae→ac
set_option genSizeOf false
namespace Z
def MP(b:SF):Fl->Res Fl
|.nx Y'=>b Y'
|o=>.ok o
@[simp] def RC(a b:SF)(Y:Env):aD a b Y=(a Y).bind (MP b):=rfl
@[simp] def ZT(b:SF)(Y:Env):MP b (.nx Y)=b Y:=rfl
@[simp] def ZR(b:SF)(d:D):MP b (.rt d)=.ok (.rt d):=rfl
@[simp] def ZU(b:SF)(Y:Env):MP b (.ct Y)=.ok (.ct Y):=rfl
def V4:D->Res Bool
|.bl c=>.ok c
|_=>.bad
@[simp] def afN(a:EF)(Y:Env):tE a Y=(a Y).bind V4:=rfl
@[simp] def ZK(c:Bool):V4 (.bl c)=.ok c:=rfl
def A4(f:Bool->Res D):D->Res D
|.bl c=>f c
|_=>.bad
@[simp] def Zb(f:Bool->Res D)(c:Bool):A4 f (.bl c)=f c:=rfl
@[simp] def acU(a b:EF)(Y:Env):mf a b Y=(a Y).bind (A4 λ c=>if c then b Y else .ok (.bl AT)):=rfl
@[simp] def aeZ(a b:EF)(Y:Env):Ud a b Y=(a Y).bind (A4 λ c=>if c then .ok (.bl Ch)else b Y):=rfl
@[simp] def acT(a:EF)(Y:Env):OV a Y=(a Y).bind (A4 λ c=>.ok<|.bl !c):=rfl
@[simp] def YR(o o':D->D->Res D)(a b c:EF)(Y:Env):dI o o' a b c Y=(a Y).bind λ x=>(b Y).bind λ y=>(o x y).bind (A4 λ k=>if k then(c Y).bind λ w=>o' y w else .ok (.bl AT)):=rfl
@[simp] def W'(a b:Int):aS (.int a) (.int b)=.ok (.int<|a+b):=rfl
@[simp] def WV(a b:Int):mW (.int a) (.int b)=.ok (.int<|a-b):=rfl
@[simp] def WZ(a b:Int):eP (.int a) (.int b)=guard (bN a b) (.ok<|.int<|a*b):=rfl
@[simp] def W9(a b:Int):oDiv (.int a) (.int b)=guard (ir b) (.ok<|.int<|a / b):=rfl
@[simp] def W2(a b:Int):oMod (.int a) (.int b)=guard (0<b) (.ok<|.int<|a % b):=rfl
@[simp] def Z6(a b:Int):oLt (.int a) (.int b)=.ok (.bl<|decide<|a<b):=rfl
@[simp] def Z8(a b:Int):oLe (.int a) (.int b)=.ok (.bl<|decide<|a<=b):=rfl
@[simp] def Z7(a b:U Nat):oLe (.str a) (.str b)=.ok (.bl<|!(Hj b a)):=rfl
@[simp] def Z'(a b:Int):Je (.int a) (.int b)=.ok (.bl<|decide<|b<a):=rfl
@[simp] def Z!(a b:Int):Vk (.int a) (.int b)=.ok (.bl<|decide<|b<=a):=rfl
@[simp] def Z_(a b:Int):oEq (.int a) (.int b)=.ok (.bl<|a==b):=rfl
@[simp] def Z?(a b:U Nat):oEq (.str a) (.str b)=.ok (.bl<|a==b):=rfl
@[simp] def Z5(a b:Int):l_ (.int a) (.int b)=.ok (.bl<|!(a==b)):=rfl
@[simp] def Z4(a b:U Nat):l_ (.str a) (.str b)=.ok (.bl<|!(a==b)):=rfl
@[simp] def W6(a:U Nat):bj (.str a)=guard (a.n<=line) (.ok<|.int a.n):=rfl
@[simp] def W5(a:U D):bj (.tup a)=.ok (.int a.n):=rfl
@[simp] def W7(a:U D):bj (.lst a)=.ok (.int a.n):=rfl
def XM:D->Res (ε Int)
|.int i=>.ok<|some i
|_=>.bad
@[simp] def XJ(i:Int):XM (.int i)=.ok (AC i):=rfl
@[simp] def adQ(a:EF)(Y:Env):qp a Y=(a Y).bind XM:=rfl
def Qa:D->Res (U D)
|.int j=>.ok<|zints 0 j.v
|_=>.bad
@[simp] def _l(a:EF)(Y:Env):dF a Y=(a Y).bind Qa:=rfl
@[simp] def Vf(j:Int):Qa (.int j)=.ok (zints 0 j.v):=rfl
def P_:D->D->Res (U D)
|.int i,.int j=>.ok<|zints i (j-i).toNat
|_,_=>.bad
@[simp] def _k(a b:EF)(Y:Env):Ah a b Y=(a Y).bind λ x=>(b Y).bind λ y=>P_ x y:=rfl
@[simp] def Ve(i j:Int):P_ (.int i) (.int j)=.ok (zints i (j-i).toNat):=rfl
@[simp] def Vp(xs:U D):jc (.tup xs)=.ok xs:=rfl
@[simp] def Vr(xs:U D):jc (.lst xs)=.ok xs:=rfl
@[simp] def Vq(cs:U Nat):jc (.str cs)=.ok (cs.map λ c=>.str [c]):=rfl
def a_(it:LF)(n:Nat)(is:U Nat)(g:GF)(t:TF)(e:EF)(Y:Env):bx it n is g t e Y=(it Y).bind λ ds=>guard (ds.n<=line) (b7 g t e (Db n At++fg Y is) ds):=rfl
def a!:Res Fl->Res D
|.ok<|.rt d=>.ok d
|.ok<|.nx _=>.ok .non
|_=>.bad
@[simp] def ZX(d:D):a! (.ok<|.rt d)=.ok d:=rfl
def bR(ps n:Nat)(b:SF)(ds:U D)(h:ds.n=ps):fn ps n b ds=a! (b<|start n ds):=by
 unfold fn;rw[M2 h];cases b _ with
 |bad=>rfl
 |ok f=>ext f<;>rfl
def c7(h1:-18446744073709551616<a)(h2:a<18446744073709551616):bN a b:=by show .inl ⟨h1,h2⟩
def fB(h1:-18446744073709551616<b)(h2:b<18446744073709551616):bN a b:=by show .inr<|.inl ⟨h1,h2⟩
def bD(h0:0<b)(h:b<1809251394333065553493296640760748560207343510400633813116524750123642650624):ir b:=(h0,h,)
def sX(h0:0<=i)(h1:i<cs.n)(hl:cs.n<=line):∃c∈cs,bf (.str cs) (.int i)=.ok (.str [c]):=by
 let hj:i.v<cs.n:=by lia
 show(cs[i.v],B65 hj,?_,);simp[bf,hl,vS,h0,h1]
def Ep(h:(zints 0 n)[j]?=AC d):j<n/\d=.int (j):=by
 unfold zints at h;rw[A06]at h;cases q:(EQ n)[j]? with
 |none=>rw[q]at h;ext h
 |some i=>rw[q]at h;let(h1,h2):=A02.mp q;rw[B12]at h1;rw[C10]at h2;subst h2;simp at h;show(h1,h.a,)
@[simp] def fX(lo:Int)(n:Nat):(zints lo n).length=n:=by simp[zints]
def jh(xs:U α)(lo hi:ε Int):(cut xs lo hi).length<=xs.n:=by unfold cut;rw[A33,B60];show A15 (Nat.min_le_right _ _) (Nat.sub_le _ _)
def D!(h:x∈cut xs i j):x∈xs:=List.mem_of_mem_drop<|C11 h
@[simp] def ad3(xs:U D)(a:EF)(lo hi:PF)(Y:Env)(h:a Y=.ok (.lst xs)):Qt a lo hi Y=(lo Y).bind λ l=>(hi Y).bind λ h=>.ok (cut xs l h):=by unfold Qt;rw[h];rfl
def t6:∀ds,(∀d∈ds,(g d Y).bind e=.ok (h d))->b7 g b8 e Y ds=.ok (ds.map h)
|[],_=>rfl
|d::ds,k=>by let h1:=k d A13;let h2:=t6 ds λ x hx=>k x<|A09 _ hx;let(Y1,e1,e2):=Res.ae h1;simp[b7,e1,e2,h2]
def mJ:∀ds,(∀d∈ds,∃Y1,g d Y=.ok Y1/\t Y1=.ok (p d)/\(p d=Ch->e Y1=.ok (h d)))->b7 g t e Y ds=.ok ((ds.filter p).map h)
|[],_=>rfl
|d::ds,k=>by
 let(Y1,e1,e2,e3):=k d A13;let h2:=mJ ds λ x hx=>k x<|A09 _ hx;cases hp:p d with
 |true=>simp[b7,e1,e2,hp,e3 hp,h2]
 |false=>simp[b7,e1,e2,hp,h2]
def yq:∀(bs:U Bool),allB (bs.map D.bl)=AC (bs.all id)
|[]=>rfl
|b::bs=>by simp[allB,yq bs]
@[simp high] def gt0(a:α)(l:U α):(a::l)[0]?=AC a:=rfl
@[simp high] def gtS(a:α)(l:U α)(n:Nat):(a::l)[n+1]?=l[n]?:=rfl
@[simp high] def Dk(a x:α)(l:U α):(a::l).set 0 x=x::l:=rfl
@[simp high] def stS(a x:α)(l:U α)(n:Nat):(a::l).set (n+1) x=a::l.set n x:=rfl
end Z
namespace ZS
open L2
abbrev Fl(X:Cx)(x:Str):Prop:=X.fn x=Ch\/X.env.scope.names.lookup x=AC .local
end ZS
local macro_rules
| `(tactic|trivial)=>`(tactic|first|show AD5 rfl|show sK rfl)
open ZS (Fl)
namespace ZS
open L2
abbrev Gk(G:Z.GF)(n:Nat):Prop:=∀d Y Y1,G d Y=.ok Y1->Y1.n=Y.n/\∀i,n<=i->Y1[i]?=Y[i]?
abbrev Dn(m:Str):Prop:=(Z.c9.map λ c=>(⟨c.q⟩)).contains m=AT
end ZS
open ZS (Gk Dn)
namespace ZS
open L2
abbrev St:=L2.St
def Gf:Sum Int (U Nat)->Key
|.inl i=>.inl i
|.inr cs=>.inr ⟨cs.q⟩
def Q!(K:Da)(H:Hp)(a:δ)(xs:U V):Prop:=
 (∃ o,H a=AC (.dW o<|.lst xs)) \/
  ∃(o:μ)(a8:Array ζ)(n:Nat),K.lookup a=AC o/\o.cls=.type "list" /\ o.dict=At/\o.data=.seq a8 n/\a8.u<=sizeLine/\Vals xs a8.y
def Q!.sq{K:Da}(h:Q! K H a xs):iY K H a xs:=by
 rcases h with⟨o,h⟩|h
 .exact .inl<|.inr ⟨o,h⟩
 .exact .inr h
structure gm(H H':Hp):Prop where
 tup:∀a xs,H a=AC (.tup xs)->H' a=AC (.tup xs)
 dW:∀a o u,H a=AC (.dW o u)->H' a=AC (.dW o u)
def gm.refl(H:Hp):gm H H:=(λ _ _ h=>h,λ _ _ _ h=>h,)
def gm.trans{H H1 H2:Hp}(a:gm H H1)(b:gm H1 H2):gm H H2:=(λ c xs h=>b.tup c xs<|a.tup c xs h,λ c o u h=>b.dW c o u<|a.dW c o u h,)
def i_(s:az H H'):gm H H':=(λ _ _ h=>s _ _ h,λ _ _ _ h=>s _ _ h,)
def jU(h:H p=AC o)(n1:∀xs,o≠.tup xs)(n2:∀ob x,o≠.dW ob x):gm H (upd H p u):=
 ⟨λ a xs e=>by rw[av (by rintro rfl;rw[h]at e;show n1 xs<|f8 e)];show e,λ a ob x e=>by rw[av (by rintro rfl;rw[h]at e;show n2 ob x<|f8 e)];show e⟩
def gN(h:H p=AC (.lst xs)):gm H (upd H p u):=jU h (λ _ z=>nomatch z) λ _ _ z=>nomatch z
def Q!.mono{K:Da}(e:gm H H')(h:Q! K H a xs):Q! K H' a xs:=by
 rcases h with⟨o,h⟩|h
 .exact .inl ⟨o,e.dW _ _ _ h⟩
 .exact .inr h
def eR{K:Da}(e:gm H H')(h:l4 K H a xs):l4 K H' a xs:=by
 rcases h with(h|⟨o,h⟩)|h
 .exact .inl<|.inl<|e.tup _ _ h
 .exact .inl<|.inr ⟨o,e.dW _ _ _ h⟩
 .exact .inr h
mutual
def Den(K:Da)(H:Hp):Z.D->V->Prop
|.non,v=>v=.non
|.bl b,v=>v=.bl b
|.int i,v=>v=.int i
|.str cs,v=>v=.str ⟨cs.q⟩
|.tup ds,v=>∃a vs,v=.ref a/\l4 K H a vs/\au K H ds vs
|.lst ds,v=>∃a vs,v=.ref a/\Q! K H a vs/\au K H ds vs
|.dct ks ds,v=>∃a o aQ,v=.ref a/\H a=AC (.dW o<|.dK aQ)/\aQ.map (·.1)=ks.map Gf/\au K H ds (aQ.map (·.2))/\∀i r,ks≠.inl i::r
def au(K:Da)(H:Hp):U Z.D->U V->Prop
|[],vs=>vs=[]
|d::ds,vs=>∃v r,vs=v::r/\Den K H d v/\au K H ds r
end
section
variable{K:Da}{H H':Hp}
mutual
theorem Den.mono(e:gm H H'):∀(d:Z.D)(v:V),Den K H d v->Den K H' d v
|.non,v,h=>by erw[Den]at h ⊢;show h
|.bl b,v,h=>by erw[Den]at h ⊢;show h
|.int i,v,h=>by erw[Den]at h ⊢;show h
|.str cs,v,h=>by erw[Den]at h ⊢;show h
|.tup ds,v,h=>by erw[Den]at h ⊢;let(a,vs,e1,q,r):=h;show(a,vs,e1,eR e q,au.mono e ds vs r,)
|.lst ds,v,h=>by erw[Den]at h ⊢;let(a,vs,e1,q,r):=h;show(a,vs,e1,q.mono e,au.mono e ds vs r,)
|.dct ks ds,v,h=>by erw[Den]at h ⊢;let(a,o,aQ,e1,q,k,r,n):=h;show(a,o,aQ,e1,e.dW _ _ _ q,k,au.mono e ds _ r,n,)
theorem au.mono(e:gm H H'):∀(ds:U Z.D)(vs:U V),au K H ds vs->au K H' ds vs
|[],vs,h=>by erw[au]at h ⊢;show h
|d::ds,vs,h=>by erw[au]at h ⊢;let(v,r,e1,q,t):=h;show(v,r,e1,Den.mono e d v q,au.mono e ds r t,)
end
def Den.up(h:Den K H d v)(e:az H H'):Den K H' d v:=Den.mono (i_ e) d v h
def Den.ups(h:Den K H d v)(e:gm H H'):Den K H' d v:=Den.mono e d v h
def au.ups(h:au K H ds vs)(e:gm H H'):au K H' ds vs:=au.mono e ds vs h
def au.up(h:au K H ds vs)(e:az H H'):au K H' ds vs:=au.mono (i_ e) ds vs h
def au.nil:au K H [] []:=by erw[au]
def au.cons{d:Z.D}{ds:U Z.D}{v:V}{vs:U V}(h:Den K H d v)(t:au K H ds vs):au K H (d::ds) (v::vs):=by erw[au];show(v,vs,rfl,h,t,)
def au.length:∀{ds}{vs},au K H ds vs->vs.n=ds.n
|[],vs,h=>by erw[au]at h;subst h;rfl
|d::ds,vs,h=>by erw[au]at h;let(v,r,rfl,_,t):=h;simp[au.length t]
def au.get:∀{ds}{vs}{i:Nat}{d},au K H ds vs->ds[i]?=AC d->∃v,vs[i]?=AC v/\Den K H d v
|[],_,_,_,_,e=>by simp at e
|x::ds,vs,0,d,h,e=>by erw[au]at h;let(v,r,rfl,q,_):=h;simp at e;subst e;show(v,rfl,q,)
|x::ds,vs,i+1,d,h,e=>by erw[au]at h;let(v,r,rfl,_,t):=h;let(u,h1,h2):=au.get t (by calc e);show⟨u,by calc h1,h2⟩
def au.append:∀{ds es}{vs us},au K H ds vs->au K H es us->au K H (ds++es) (vs++us)
|[],_,_,_,h,g=>by erw[au]at h;subst h;show g
|d::ds,es,vs,us,h,g=>by erw[au]at h;let(v,r,rfl,q,t):=h;show au.cons q<|au.append t g
def au.drop:∀{ds}{vs} n,au K H ds vs->au K H (ds.drop n) (vs.drop n)
|_,_,0,h=>by calc h
|[],vs,_+1,h=>by erw[au]at h;subst h;calc au.nil
|d::ds,vs,n+1,h=>by erw[au]at h;let(v,r,rfl,q,t):=h;calc au.drop n t
def au.take:∀{ds}{vs} n,au K H ds vs->au K H (ds.take n) (vs.take n)
|_,_,0,h=>by calc au.nil
|[],vs,_+1,h=>by erw[au]at h;subst h;calc au.nil
|d::ds,vs,n+1,h=>by erw[au]at h;let(v,r,rfl,q,t):=h;calc au.cons q (au.take n t)
def au.zints:∀(ns:U Int),au K H (ns.map Z.D.int) (ns.map V.int)
|[]=>au.nil
|n::ns=>au.cons (by erw[Den])<|au.zints ns
def bH(K:Da)(H:Hp)(d:Z.D)(v:V):Prop:=Den K H d v\/∃ds a vs,d=.lst ds/\v=.ref a/\H a=AC (.lst vs)/\au K H ds vs
def bH.up(h:bH K H d v)(e:az H H'):bH K H' d v:=by
 rcases h with h|⟨ds,a,vs,e1,e2,q,t⟩
 .exact .inl<|h.up e
 .exact .inr ⟨ds,a,vs,e1,e2,e _ _ q,t.up e⟩
def bH.mP(h:bH K H d v)(n:∀ds,d≠.lst ds):Den K H d v:=by
 rcases h with h|⟨ds,a,vs,e1,_⟩
 .exact h
 .exact absurd e1<|n ds
def bH.non(h:bH K H .non v):v=.non:=by let:=h.mP λ _ z=>nomatch z;simpa only[Den]using this
def bH.bl(h:bH K H (.bl b) v):v=.bl b:=by let:=h.mP λ _ z=>nomatch z;simpa only[Den]using this
def bH.int(h:bH K H (.int i) v):v=.int i:=by let:=h.mP λ _ z=>nomatch z;simpa only[Den]using this
def bH.str(h:bH K H (.str cs) v):v=.str ⟨cs.q⟩:=by let:=h.mP λ _ z=>nomatch z;simpa only[Den]using this
def bH.tup{ds:U Z.D}{v:V}(h:bH K H (.tup ds) v):∃a vs,v=.ref a/\l4 K H a vs/\au K H ds vs:=by let:=h.mP λ _ z=>nomatch z;simpa only[Den]using this
def bH.lst{ds:U Z.D}{v:V}(h:bH K H (.lst ds) v):∃a vs,v=.ref a/\iY K H a vs/\au K H ds vs:=by
 rcases h with h|⟨es,a,vs,e1,e2,q,t⟩
 .simp only[Den]at h;let(a,vs,e,q,t):=h;show(a,vs,e,q.sq,t,)
 .ext e1;show(a,vs,e2,.inl<|.inl q,t,)
def bH.dct(h:bH K H (.dct ks ds) v):∃a o aQ,v=.ref a/\H a=AC (.dW o<|.dK aQ)/\aQ.map (·.1)=ks.map Gf/\au K H ds (aQ.map (·.2))/\∀i r,ks≠.inl i::r:=by let:=h.mP λ _ z=>nomatch z;simpa only[Den]using this
def j9:Den K H .non .non:=by erw[Den]
def cA:Den K H (.bl b) (.bl b):=by erw[Den]
def cI:Den K H (.int i) (.int i):=by erw[Den]
def j8:Den K H (.str cs) (.str ⟨cs.q⟩):=by erw[Den]
def fq(h:l4 K H a vs)(t:au K H ds vs):Den K H (.tup ds) (.ref a):=by erw[Den];show(a,vs,rfl,h,t,)
def yd(h:Q! K H a vs)(t:au K H ds vs):Den K H (.lst ds) (.ref a):=by erw[Den];show(a,vs,rfl,h,t,)
end
def nO(K:Da)(c:Str)(C:δ):Prop:=FB K mainGlobals c=AC (AC<|.ref C)/\Ly K C
def Be(K:Da)(H:Hp)(kd:Nat)(ks:U (U Nat))(ds:U Z.D)(u:HO):Prop:=
 (kd=0/\ks=Z.c9.take ks.n/\∃ C dx fs,u=.ins C dx fs/\nO K "Desk" C/\fs.map (·.1)=ks.map (λ c=>(⟨c.q⟩:Str))/\au K H ds (fs.map (·.2))) \/
  (kd=1/\∃aQ:U (Key×V),u=.dK aQ/\aQ.map (·.1)=ks.map (λ c=>(GE ⟨c.q⟩:Key))/\au K H ds (aQ.map (·.2))) \/
  kd=2/\ks=[]/\∃vs,u=.lst vs/\au K H ds vs
def Be.ups{K:Da}(h:Be K H kd ks ds u)(e:gm H H'):Be K H' kd ks ds u:=by
 rcases h with⟨h0,hk,C,dx,fs,h1,h2,h3,h4⟩|⟨h0,aQ,h1,h2,h3⟩|⟨h0,h1,vs,h2,h3⟩
 .exact .inl ⟨h0,hk,C,dx,fs,h1,h2,h3,h4.ups e⟩
 .exact .inr<|.inl ⟨h0,aQ,h1,h2,h3.ups e⟩
 .exact .inr<|.inr ⟨h0,h1,vs,h2,h3.ups e⟩
def Be.two{K:Da}(h:Be K H kd ks ds u)(n:kd≠2):(kd=0/\ks=Z.c9.take ks.n/\∃C dx fs,u=.ins C dx fs/\nO K "Desk" C/\fs.map (·.1)=ks.map (λ c=>(⟨c.q⟩:Str))/\au K H ds (fs.map (·.2))) \/
 kd=1/\∃aQ:U (Key×V),u=.dK aQ/\aQ.map (·.1)=ks.map (λ c=>(GE ⟨c.q⟩:Key))/\au K H ds (aQ.map (·.2)):=by
 rcases h with h|h|h
 .exact .inl h
 .exact .inr h
 .exact absurd h.1 n
def Thg(K:Da)(H:Hp)(d:Z.D)(v:V):Prop:=∃a kd ks ds u,d=Z.eK a kd ks ds/\v=.ref a/\H a=AC u/\Be K H kd ks ds u
def i!(K:Da)(H:Hp)(d:Z.D)(v:V):Prop:=bH K H d v\/Thg K H d v
def i!.up{K:Da}(h:i! K H d v)(e:az H H'):i! K H' d v:=by
 rcases h with h|⟨a,kd,ks,ds,u,e1,e2,q,t⟩
 .exact .inl<|h.up e
 .exact .inr ⟨a,kd,ks,ds,u,e1,e2,e _ _ q,t.ups<|i_ e⟩
def Fb(K:Da)(H:Hp)(d:Z.D)(v:V):Prop:=bH K H d v\/∃a kd ks ds u,d=Z.eK a kd ks ds/\v=.ref a/\H a=AC u
def i!.z{K:Da}(h:i! K H d v):Fb K H d v:=by
 rcases h with h|⟨a,kd,ks,ds,u,e1,e2,q,_⟩
 .exact .inl h
 .exact .inr ⟨a,kd,ks,ds,u,e1,e2,q⟩
def i!.eK{K:Da}(h:i! K H (.dct (.inl a::r) ds) v):Thg K H (.dct (.inl a::r) ds) v:=by
 rcases h with h|h
 .let(_,_,_,_,_,_,_,n):=h.dct;show absurd rfl<|n _ _
 .exact h
def Fb.re{K:Da}(h:Fb K H0 d v)(r:i! K H d v)(h0:az H0 H)(hs:az H0 H')(st:gm H H'):i! K H' d v:=by
 rcases h with h|⟨a,kd,ks,ds,u,rfl,rfl,q⟩
 .exact .inl<|h.up hs
 .let(a',kd',ks',_Q,u',e1,e2,q',t):=r.eK;ext e2;let:=(h0 _ _ q).symm.trans q';ext this;show .inr ⟨_,kd',ks',_Q,u,e1,rfl,hs _ _ q,t.ups st⟩
def i!.lst{K:Da}{H:Hp}{ds:U Z.D}{v:V}(h:i! K H (.lst ds) v):bH K H (.lst ds) v:=by
 rcases h with h|⟨a,kd,ks,es,u,e1,_⟩
 .exact h
 .ext e1
def acM(x:U Int×δ×ζ):DictEntry:={hash:=reduceHash<|Builtin.Tuple.tupleHashOf<|x.1.map hashInt,key:=.ref x.2.1,val:=x.2.2}
def Zx(a:δ)(ks:U (U Int))(as:U δ)(h:ν):Prop:=ks.n<=sizeLine/\(a==sysModules)=AT/\∃(xs:U (U Int×δ×ζ))(o:μ)(es:Array DictEntry)(ep:Nat),xs.map (·.1)=ks/\xs.map (·.2.1)=as/\h.get? a=AC o/\o.ExactDict/\o.data=.dict es ep/\es.y=xs.map acM/\ks.Nodup
abbrev Zw(a:δ)(ks:U (U Int))(as:U δ):HO:=.ext<|Zx a ks as
def qc(K:Da)(H:Hp)(ks:U (U Int))(as:U δ):Prop:=Paired (λ(k:U Int)(b:δ)=>Den K H (.tup<|k.map .int)<|.ref b) ks as
def kvT(aQ:U (U Nat×U Nat)):U (Key×V):=aQ.map λ p=>(GE ⟨p.1.toArray⟩,V.str ⟨p.2.toArray⟩)
def DcO(a:δ):Z.DK->U δ->HO
|.inl ks,as=>Zw a ks as
|.inr aQ,_=>.dK<|kvT aQ
def _2(K:Da)(H:Hp):Z.DK->U δ->Prop
|.inl ks,as=>qc K H ks as
|.inr _,_=>True
def ET:DcO a k as≠.lst xs:=by ext k<;>show λ z=>nomatch z
def kvI(ps:U (Int×Int)):U (Key×V):=ps.map λ p=>(bi p.1,V.int p.2)
abbrev VX:U ζ:=[.type "ValueError",.type "Exception",.type "BaseException",.type "object"]
def Y6:Data->ε ClassData
|.cls cd=>AC cd
|_=>At
def obB{α:Type}(f:α->Bool):ε α->Bool
|none=>AT
|some a=>f a
def Xo(f:ζ->U ζ->Bool):U ζ->Bool
|[]=>AT
|a::tl=>f a tl
def UJ(K:Da)(C:δ)(χ:U ζ->δ->Bool):Bool:=obB (λ o=>obB (λ cd=>Xo (λ a tl=>o.cls==.type "type" && a==.ref C&&o.slots.y.n==6&&o.slots.toList[4]?==AC (AC<|.builtin "ValueError.__new__")&&!cd.hasDel&&χ tl cd.ns) cd.mro)<|Y6 o.data)<|K.lookup C
def Rb(K:Da)(C:δ):Bool:=UJ K C λ tl _=>tl.contains<|.type "BaseException"
def XC(K:Da)(c:U Nat)(C:δ):Prop:=FB K mainGlobals ⟨c.q⟩=AC (AC<|.ref C)/\Rb K C=Ch
def XD(K:Da)(H:Hp):ε δ->U (U Nat×Z.D)->Prop
|none,fs=>fs=[]
|some dx,fs=>fs≠[]/\∃od aQ,H dx=AC (.dW od<|.xd aQ)/\Paired (λ(p:Str×V)(q:U Nat×Z.D)=>p.1=⟨q.1.toArray⟩/\Den K H q.2 p.2) aQ fs
def XD.ups{K:Da}(h:XD K H dd fs)(e:gm H H'):XD K H' dd fs:=by
 cases dd with
 |none=>show h
 |some dx=>let(n,od,aQ,q,p):=h;show(n,od,aQ,e.dW _ _ _ q,Paired.F? p λ _ _ z=>(z.1,z.2.ups e,),)
def u_(K:Da)(H:Hp)(c:U Nat×U (U Nat×Z.D))(C:δ)(dd:ε δ):Prop:=XC K c.1 C/\XD K H dd c.2
def u_.ups{K:Da}(h:u_ K H c C dd)(e:gm H H'):u_ K H' c C dd:=(h.1,h.2.ups e,)
def RL(K:Da)(H:Hp):Z.L->V->Prop
|.val d,v=>Den K H d v
|.own ds,v=>∃a vs,v=.ref a/\H a=AC (.lst vs)/\au K H ds vs
|.bor d,v=>i! K H d v
|.dc k,v=>∃a as,v=.ref a/\H a=AC (DcO a k as)/\_2 K H k as
|.Ko ks,v=>∃a o as,v=.ref a/\H a=AC (.dW o<|Zw a ks as)/\qc K H ks as
|.Tj ps,v=>∃a o,v=.ref a/\H a=AC (.dW o<|.dK<|kvI ps)
|.exc c,v=>∃a o u C,v=.ref a/\H a=AC (.dW o u)/\o.cls=.ref C/\(∃vs,o.data=.fields vs)/\u_ K H c C o.dict
def qc.ups{K:Da}(h:qc K H ks as)(e:gm H H'):qc K H' ks as:=Paired.F? h λ _ _ d=>Den.ups d e
def _2.ups{K:Da}(h:_2 K H k as)(e:gm H H'):_2 K H' k as:=by
 cases k with
 |inl ks=>show qc.ups (h) e
 |inr _=>show IR
structure RE(K:Da)(H:Hp)(O:St)(Y:Z.Env):Prop where
 len:Y.n=O.n
 get:∀(i:Nat)(l:Z.L),Y[i]?=AC (AC l)->∃v,O[i]?=AC (AC v)/\RL K H l v
 sep:∀(i j:Nat)(xs ys:List Z.D)(a:Addr),Y[i]?=AC (AC<|.own xs)->Y[j]?=AC (AC<|.own ys)->O[i]?=AC (AC<|.ref a)->O[j]?=AC (AC<|.ref a)->i=j
section
variable{K:Da}{H H':Hp}{O:St}{Y:Z.Env}
def RL.up(h:RL K H l v)(e:az H H'):RL K H' l v:=by
 cases l with
 |val d=>show Den.up (h) e
 |own ds=>let(a,vs,e1,q,t):=h;show(a,vs,e1,e _ _ q,t.up e,)
 |bor d=>show i!.up (h) e
 |dc ks=>let(a,as,e1,q,t):=h;show(a,as,e1,e _ _ q,t.ups<|i_ e,)
 |Ko ks=>let(a,o,as,e1,q,t):=h;show(a,o,as,e1,e _ _ q,t.ups<|i_ e,)
 |Tj ps=>let(a,o,e1,q):=h;show(a,o,e1,e _ _ q,)
 |exc c=>let(a,o,u,C,e1,q,r1,r2,r3):=h;show(a,o,u,C,e1,e _ _ q,r1,r2,r3.ups<|i_ e,)
def RE.up(h:RE K H O Y)(e:az H H'):RE K H' O Y:=
 ⟨h.len,λ i l q=>let ⟨v,h1,h2⟩:=h.get i l q;⟨v,h1,h2.up e⟩,h.sep⟩
def b?(h:H a=At):az H (upd H a o):=λ b u e=>by rw[av<|aY e h];show e
end
def tZ(K:Da)(f:Z.EF):TE:=λ O H Q=>∃Y d,RE K H O Y/\f Y=.ok d/\∀v H',az H H'->Den K H' d v->Q v H'
def LD(K:Da)(f:Z.EF):TE:=λ O H Q=>∃Y d,RE K H O Y/\f Y=.ok d/\∀v H',az H H'->bH K H' d v->Q v H'
def tZl(K:Da)(f:Z.LF):TE:=λ O H Q=>∃Y ds,RE K H O Y/\f Y=.ok ds/\∀a vs H',az H H'->H a=At->H' a=AC (.lst vs)->au K H' ds vs->Q (.ref a) H'
def V7(K:Da)(f:Z.TF):TT:=λ O H Q=>∃Y b,RE K H O Y/\f Y=.ok b/\∀H',az H H'->Q b H'
def tZa(K:Da)(f:Z.AF):TA:=λ O H Q=>∃Y ds,RE K H O Y/\f Y=.ok ds/\∀vs H',az H H'->au K H' ds vs->Q vs H'
def tZp(K:Da)(f:Z.PF):TO:=λ O H Q=>∃Y o,RE K H O Y/\f Y=.ok o/\∀H',az H H'->Q o H'
abbrev DE(X:Cx)(e:ι)(f:Z.EF):Prop:=PE X e<|tZ X.K f
structure ZQ.QE(X:Cx)(e:Expr)(f:Z.EF):Prop where p:DE X e f
abbrev DW(X:Cx)(e:ι)(f:Z.EF):Prop:=PE X e<|LD X.K f
structure ZQ.QW(X:Cx)(e:Expr)(f:Z.EF):Prop where p:DW X e f
abbrev DL(X:Cx)(e:ι)(f:Z.LF):Prop:=PE X e<|tZl X.K f
structure ZQ.QL(X:Cx)(e:Expr)(f:Z.LF):Prop where p:DL X e f
abbrev DT(X:Cx)(e:ι)(f:Z.TF):Prop:=PT X e<|V7 X.K f
structure ZQ.QT(X:Cx)(e:Expr)(f:Z.TF):Prop where p:DT X e f
abbrev DTW(X:Cx)(e:ι)(f:Z.TF):Prop:=PW X e<|V7 X.K f
structure ZQ.Q6(X:Cx)(e:Expr)(f:Z.TF):Prop where p:DTW X e f
abbrev DA(X:Cx)(es:U ι)(f:Z.AF):Prop:=PA X es<|tZa X.K f
structure ZQ.QA(X:Cx)(es:List Expr)(f:Z.AF):Prop where p:DA X es f
abbrev DP(X:Cx)(e:ε ι)(f:Z.PF):Prop:=PO X e<|tZp X.K f
structure ZQ.QP(X:Cx)(e:Option Expr)(f:Z.PF):Prop where p:DP X e f
section
variable{X:Cx}{e a b c:ι}{es:U ι}{pos:Pos}{f fa fb fc:Z.EF}
def PE.imp(h:PE X e t)(k:∀O H Q,t' O H Q->t O H Q):PE X e t':=λ B s O H Q I w=>h B s O H Q I<|k O H Q w
def PT.imp(h:PT X e t)(k:∀O H Q,t' O H Q->t O H Q):PT X e t':=λ B s O H Q I w=>h B s O H Q I<|k O H Q w
def PW.imp(h:PW X e t)(k:∀O H Q,t' O H Q->t O H Q):PW X e t':=λ whole B s O H Q I w=>h whole B s O H Q I<|k O H Q w
def PA.imp(h:PA X es t)(k:∀O H Q,t' O H Q->t O H Q):PA X es t':=λ p B s O H Q I w=>h p B s O H Q I<|k O H Q w
def PO.imp(h:PO X o t)(k:∀O H Q,t' O H Q->t O H Q):PO X o t':=λ B s O H Q I w=>h B s O H Q I<|k O H Q w
def K8(h:PE X e (tC v))(hd:∀H,Den X.K H d v):DE X e (Z.eC d):=PE.imp h <|by rintro O H Q ⟨Y,d',_,e,k⟩;let e':=e;ext e';show k v H (az.refl H)<|hd H
def ZQ.cU:ZQ.QE X (.Constant (.int i) j pos) (Z.eI i):=⟨K8 RY λ _=>cI⟩
def ZQ.qE:ZQ.QE X (.Constant (.bool x) j pos) (Z.eC<|.bl x):=⟨K8 IQ λ _=>cA⟩
def ZQ.Ux:ZQ.QE X (.Constant .none j pos) (Z.eC .non):=⟨K8 xk λ _=>j9⟩
def ZQ.rJ(h:x=⟨cs.q⟩:=by kernel_rfl):ZQ.QE X (.Constant (.str x) j pos) (Z.eC<|.str cs):=⟨by subst h;show K8 RU λ _=>j8⟩
def YN(h:Z.eV i Y=.ok d):Y[i]?=AC (AC<|.val d):=by
 unfold Z.eV at h;split at h
 .rename_i d' q;ext h;show q
 .ext h
def YM(h:Z.eW i Y=.ok d):Y[i]?=AC (AC<|.val d)\/(∃xs,Y[i]?=AC (AC<|.own xs)/\d=.lst xs)\/∃xs,Y[i]?=AC (AC<|.bor<|.lst xs)/\d=.lst xs:=by
 unfold Z.eW at h;split at h
 .rename_i d' q;ext h;show .inl q
 .rename_i xs q;ext h;show .inr<|.inl ⟨xs,q,rfl⟩
 .rename_i xs q;ext h;show .inr<|.inr ⟨xs,q,rfl⟩
 .ext h
def Ut(h:PE X e (jS i)):DE X e (Z.eV i):=PE.imp h <|by rintro O H Q ⟨Y,d,r,e,k⟩;let(v,h1,h2):=r.get i _ (YN e);show(v,h1,k v H (az.refl H) h2,)
def Ue(h:PE X e (jS i)):DW X e (Z.eW i):=PE.imp h <|by
 rintro O H Q ⟨Y,d,r,e,k⟩;rcases YM e with q|⟨xs,q,rfl⟩|⟨xs,q,rfl⟩
 rotate_left;rotate_left
 .let(v,h1,h2):=r.get i _ q;show(v,h1,k v H (az.refl H)<|i!.lst h2,)
 .let(v,h1,h2):=r.get i _ q;show(v,h1,k v H (az.refl H)<|.inl h2,)
 .let(v,h1,a,vs,rfl,h2,h3):=r.get i _ q;show(_,h1,k _ H (az.refl H)<|.inr ⟨xs,a,vs,rfl,rfl,h2,h3⟩,)
def ZQ.bA(hN:X.N[i]?=AC x:=by rfl)(hv:Lp X.env.scope x:=by first|show AD5 rfl|show sK<|Or.inl rfl|show sK<|Or.inr rfl)(hd:Nd x:=by kernel_rfl)
 (rG:(x==("__classdict__"))=AT:=by kernel_rfl):ZQ.QE X (.Name x pos) (Z.eV i):=⟨Ut<|sH hN hv hd rG⟩
def ZQ.fH(hN:X.N[i]?=AC x:=by rfl)(hv:Lp X.env.scope x:=by first|show AD5 rfl|show sK<|Or.inl rfl|show sK<|Or.inr rfl)(hd:Nd x:=by kernel_rfl)
 (rG:(x==("__classdict__"))=AT:=by kernel_rfl):ZQ.QW X (.Name x pos) (Z.eW i):=⟨Ue<|sH hN hv hd rG⟩
def O9(hg:Gl X x)(hm:X.mg x=AC u)(r:RelV v u)(hd:∀H,Den X.K H d v)(hb:Nd x:=by kernel_rfl):DE X (.Name x pos) (Z.eC d):=
 K8 (M9 hg hm r hb) hd
def ZQ.dJ(h:ZQ.QE X e f):ZQ.QW X e f:=⟨PE.imp h.p <|by rintro O H Q ⟨Y,d,r,e,k⟩;show(Y,d,r,e,λ v H' s q=>k v H' s<|.inl q,)⟩
def ZQ.acW(h:ZQ.QL X e l):ZQ.QW X e (Z.eL l):=⟨PE.imp h.p <|by
 rintro O H Q ⟨Y,d,r,e,k⟩;unfold Z.eL at e;cases q:l Y with
 |bad=>rw[q]at e;ext e
 |ok ds=>rw[q]at e;ext e;show(Y,ds,r,q,λ a vs H' s hn h1 h2=>k _ H' s<|.inr ⟨ds,a,vs,rfl,rfl,h1,h2⟩,)⟩
def ni(I:Inv X B O H s)(h:H p=AC (.lst xs)):∃o,Inv X B O (upd H p<|.dW o<|.lst xs) s:=by
 let(z,a8,n,r,ho):=I.bO p _ h;show(_,I.un (H':=upd H p (.dW {cls:=.type "list",data:=.seq a8.toArray n} _)) ?_ ?_,)
 .let ne:∀b,H b=At->b≠p:=λ b e q=>by rw[q,h]at e;ext e
  show⟨λ b o q _ _ _=>q,λ b o q _ _ _=>(_,q,),λ b o q e _=>by rw[av<|ne b e];show e,λ b o q _=>(o,q,),λ b ys e=>?_,λ b o u e=>?_,λ b u pr e=>?_⟩
  .let:b≠p:=by rintro rfl;rw[h]at e;ext e
   rw[av this];show e
  .let:b≠p:=by rintro rfl;rw[h]at e;ext e
   rw[av this];show e
  .let:b≠p:=by rintro rfl;rw[h]at e;ext e;show pr
   rw[av this];show e
 .intro b u e;by_cases hb:b=p
  .subst hb;rw[aE]at e;ext e;show(ho,z,a8,n,r,ho,)
  .rw[av hb]at e;show(I.bO b u e).n? (λ c w _ q=>q) (λ c q=>?_) (λ c ys q=>?_) λ c v pr q=>?_
   .let:c≠p:=by rintro rfl;rw[h]at q;ext q
    rw[av this];show q
   .let:c≠p:=by rintro rfl;rw[h]at q;ext q
    rw[av this];show q
   .let:c≠p:=by rintro rfl;rw[h]at q;ext q;show pr
    rw[av this];show q
def Ig(s:az H H1)(hn:H p=At):az H (upd H1 p<|.dW o<|.lst xs):=λ b u e=>by rw[av<|aY e hn];show s b u e
def ZQ.ac1(h:ZQ.QL X e l):ZQ.QE X e (Z.eL l):=⟨by
 let h:=h.p;intro B s O H Q I w;let(Y,d,r,e,k):=w;unfold Z.eL at e;cases q:l Y with
 |bad=>rw[q]at e;ext e
 |ok ds=>rw[q]at e;ext e;show b_ (h B s O H (λ v H1=>∃a vs,v=.ref a/\az H H1/\H a=At/\H1 a=AC (.lst vs)/\au X.K H1 ds vs) I ⟨Y,ds,r,q,λ a vs H1 s1 hn h1 h2=>(a,vs,rfl,s1,hn,h1,h2,)⟩) ?_;rintro u s' ⟨v,H1,I1,rv,a,vs,rfl,s1,hn,h1,h2⟩;let(o,I2):=ni I1 h1;show(_,_,I2,rv,k _ _ (Ig s1 hn)<|yd (.inl ⟨o,aE⟩)<|h2.ups<|gN h1,)⟩
def Hx(K:Da)(r:R2)(o:Z.D->Z.D->Z.Res Z.D):Prop:=∀(x y:V)(dx dy d:Z.D)(H:Hp)(Q:VK),bH K H dx x->bH K H dy y->o dx dy=.ok d->(∀v H',az H H'->Den K H' d v->Q v H')->r x y H Q
def two(hz:Hx X.K r o):∀O H Q,tZ X.K (Z.eB o fa fb) O H Q->Mw r (LD X.K fa) (LD X.K fb) O H Q:=by rintro O H Q ⟨Y,d,re,e,k⟩;let(x,ea,e):=ac e;let(y,eb,e):=ac e;show(Y,x,re,ea,λ v H1 s1 d1=>(Y,y,re.up s1,eb,λ u H2 s2 d2=>hz _ _ _ _ _ H2 Q (d1.up s2) d2 e λ w H' s3 dw=>k w H' ((s1.trans s2).trans s3) dw,),)
def wc(hr:iZ X (binaryOp op) r)(hz:Hx X.K r o)(ha:DW X a fa)(hb:DW X b fb):DE X (.BinOp a op b pos) (Z.eB o fa fb):=
 PE.imp (DQ hr ha hb)<|two hz
def oF{K:Da}{g:Int->Int->Int}(h:∀dx dy d,o dx dy=.ok d->∃i j,dx=.int i/\dy=.int j/\C i j/\d=.int (g i j)):Hx K (rI C λ i j=>.int<|g i j) o:=by intro x y dx dy d H Q h1 h2 e k;let(i,j,rfl,rfl,hc,rfl):=h _ _ _ e;show(i,j,h1.int,h2.int,hc,k _ H (az.refl H) cI,)
def oC{K:Da}{gd:Int->Int->Z.D}(h:∀dx dy d,o dx dy=.ok d->∃i j,dx=.int i/\dy=.int j/\d=gd i j)(hg:∀i j H,Den K H (gd i j) (g i j)):Hx K (MY g) o:=by intro x y dx dy d H Q h1 h2 e k;let(i,j,rfl,rfl,rfl):=h _ _ _ e;show(i,j,h1.int,h2.int,k _ H (az.refl H)<|hg i j H,)
def ZQ.K1(ha:ZQ.QW X a fa)(hb:ZQ.QW X b fb):ZQ.QE X (.BinOp a .Sub b pos) (Z.eB Z.mW fa fb):=⟨have ha:=ha.p;have hb:=hb.p;wc R7 (oC (λ dx dy d e=>by
 unfold Z.mW at e;split at e
 .ext e;show(_,_,rfl,rfl,rfl,)
 .ext e) λ _ _ _=>cI) ha hb⟩
def Lz(i j:Int):Prop:=IntMulOk i j
def Nc:iZ X (binaryOp .Mult) (rI Lz λ i j=>.int<|i*j):=WR λ _ _ _ _ _ _ _ hc q=>mul_int q hc
def Pr(i:Int):Z.bits i=Builtin.Int.intBits i:=by
 unfold Z.bits Builtin.Int.intBits;by_cases h:i=0
 .subst h;simp
 .first
   |(simp;done)
   |(rw[W1];simp;done)
def sR(h:Z.bN i j):IntMulOk i j:=by
 rcases h with h|h|⟨h1,h2⟩
 .exact IntMulOk.of_left<|intBits_le_64 ∅ ∅
 .exact IntMulOk.of_right<|intBits_le_64 ∅ ∅
 .rw[Pr]at h1 h2;show mulOk_of_bits h1 h2 ∅
def ZQ.Uz(ha:ZQ.QW X a fa)(hb:ZQ.QW X b fb):ZQ.QE X (.BinOp a .Mult b pos) (Z.eB Z.eP fa fb):=⟨have ha:=ha.p;have hb:=hb.p;wc Nc (oF λ dx dy d e=>by
 unfold Z.eP at e;split at e
 .unfold Z.guard at e;split at e
  .rename_i h;ext e;show(_,_,rfl,rfl,sR h,rfl,)
  .ext e
 .ext e) ha hb⟩
def Zz(_ j:Int):Prop:=Z.ir j
def CA(h:Z.ir j):0<j/\j.natAbs.log2<9000:=by
 let h0:=h.1;let h1:=h.2;let hn:j.natAbs≠0:=by lia
 let h2:j.natAbs<2^250:=by
  let:(2)^250=1809251394333065553493296640760748560207343510400633813116524750123642650624:=by decide
  lia
 let:=(Nat.log2_lt hn).mpr h2;show⟨h0,by lia⟩
def Nf:iZ X (binaryOp .FloorDiv) (rI Zz λ i j=>.int<|i / j):=WR λ i j _ _ _ _ _ hc q=>by let(h0,h1):=CA hc;let e:=Int.fdiv_eq_ediv_of_nonneg i<|Int.le_of_lt h0;show floordiv_int (Int.ne_of_gt h0) (by rw[e];show q)<|.inl<|PyProof.noPylong_of_log2 h1
def ZQ.UE(ha:ZQ.QW X a fa)(hb:ZQ.QW X b fb):ZQ.QE X (.BinOp a .FloorDiv b pos) (Z.eB Z.oDiv fa fb):=⟨have ha:=ha.p;have hb:=hb.p;wc Nf (oF λ dx dy d e=>by
 unfold Z.oDiv at e;split at e
 .unfold Z.guard at e;split at e
  .rename_i h;ext e;show(_,_,rfl,rfl,h,rfl,)
  .ext e
 .ext e) ha hb⟩
def ZQ.K3(ha:ZQ.QW X a fa)(hb:ZQ.QW X b fb):ZQ.QE X (.BinOp a .Mod b pos) (Z.eB Z.oMod fa fb):=⟨have ha:=ha.p;have hb:=hb.p;wc R! (oF λ dx dy d e=>by
 unfold Z.oMod at e;split at e
 .unfold Z.guard at e;split at e
  .rename_i h;ext e;show(_,_,rfl,rfl,h,rfl,)
  .ext e
 .ext e) ha hb⟩
def ZQ.Uu(ha:ZQ.QW X a fa)(hb:ZQ.QW X b fb):ZQ.QE X (.BinOp a .Pow b pos) (Z.eB Z.mX fa fb):=⟨have ha:=ha.p;have hb:=hb.p;wc R9 (oF λ dx dy d e=>by
 unfold Z.mX at e;split at e
 .unfold Z.guard at e;split at e
  .rename_i h;ext e;show(_,_,rfl,rfl,h,rfl,)
  .ext e
 .ext e) ha hb⟩
def WC(K:Da):R2:=λ x y H Q=>∃a b xs ys,x=.ref a/\y=.ref b/\l4 K H a xs/\l4 K H b ys/\xs.n+ys.n<=sizeLine /\
 (xs=[]->Q (.ref b) H)/\(ys=[]->Q (.ref a) H)/\(∀p,H p=At->Q (.ref p) (upd H p<|.tup<|xs++ys))
def Ng:iZ X (binaryOp .Add) (WC X.K):=by
 intro B s O H x y v u Q I rx ry h;let(p,q,xs,ys,rfl,rfl,hp,hq,hz,q0,q1,q2):=h;by_cases hx:xs=[]
 .ext rx ry;let(a8,r1,ht,_):=I.tuple hp;let(g9,r2,hb,_):=I.tuple hq;let((cls,dd,data,sl),ho,hc,n,hd):=id ht;let((Y7,VD,data2,Vb),Hn,uN,n2,hd2):=id hb;simp only at hc hd uN hd2;subst hc hd uN hd2;let e0:=r1.rp.mpr hx;show B59 ⟨_,ho,rfl⟩ ⟨_,Hn,rfl⟩ B98 seq_tuple_add C00 C01 (C02 _ _)
   (tuple_addW0 p q _ _ n n2 dd VD sl Vb (by simp[e0])) ⟨ho,Hn,⟨.ref q,H,I,rfl,q0 hx⟩⟩
 .exact Nh B s O H _ _ v u Q I rx ry ⟨p,q,xs,ys,rfl,rfl,hp,hq,hx,hz,q1,λ _=>q2⟩
def MC(a b:U Nat):(⟨a.q⟩)++(⟨b.q⟩:Str)=⟨(a++b).toArray⟩:=by change(⟨a.q++b.q⟩:Str)=_;simp
def ZQ.yg(ha:ZQ.QW X a fa)(hb:ZQ.QW X b fb):ZQ.QE X (.BinOp a .Add b pos) (Z.eB Z.aS fa fb):=⟨have ha:=ha.p;have hb:=hb.p;wc (Sa.or<|BY.or Ng) (λ x y dx dy d H Q h1 h2 e k=>by
 unfold Z.aS at e;split at e
 .ext e;show .inl ⟨_,_,h1.int,h2.int,k _ H (az.refl H) cI⟩
 .unfold Z.guard at e;split at e
  .rename_i as bs h;ext e;show .inr<|.inl ⟨_,_,h1.str,h2.str,?_,?_⟩
   .show as.q.u+bs.q.u<=sizeLine;rw[A32];simpa using h
   .rw[MC];show k _ H (az.refl H) j8
  .ext e
 .unfold Z.guard at e;split at e
  .rename_i as bs h;ext e;let(p,xs,rfl,hp,t1):=h1.tup;let(q,ys,rfl,hq,t2):=h2.tup;show .inr<|.inr ⟨p,q,xs,ys,rfl,rfl,hp,hq,?_,?_,?_,?_⟩
   .rw[t1.n,t2.n,A32];show h
   .rintro rfl;let:=A97 (by rw[<-t1.n];rfl);subst this;show k _ H (az.refl H)<|fq hq t2
   .rintro rfl;let:=A97 (by rw[<-t2.n];rfl);subst this;rw[A52]at k;show k _ H (az.refl H)<|fq hp t1
   .intro z hn;let s1:az H (upd H z<|.tup<|xs++ys):=b? hn;show k _ _ s1<|fq (.inl<|.inl aE)<|(t1.append t2).up s1
  .ext e
 .ext e) ha hb⟩
def ZQ.Uy(ha:ZQ.QW X a fa):ZQ.QE X (.UnaryOp .USub a pos) (Z.eU Z.F3 fa):=⟨PE.imp (WH Rk ha.p) <|by
 rintro O H Q ⟨Y,d,r,e,k⟩;let(x,ea,e):=ac e;show(Y,x,r,ea,λ v H1 s1 d1=>?_,);unfold Z.F3 at e;split at e
 .ext e;show(_,d1.int,k _ H1 s1 cI,)
 .ext e⟩
end
end ZS
namespace ZS
section
open Builtin Builtin.Str
def k_(t:U Nat):(⟨t.q⟩:Str).length=t.n:=by simp[Str.length]
def aaV(t:U Nat)(c:Nat):(!(Sc ⟨t.q⟩ ⟨#[c]⟩ 0 t.length 1).isEmpty)=t.contains c:=by let h:=StrLaws.found_one ⟨t.q⟩ c;rw[k_]at h;rw[h,A59];simp
def EX(n d:Nat)(i:Int):max 0 (min (if i<0 then i+(n)else i)<|n)=((Z.c6 n d<|some i)):=by
 change max 0 (min (if i<0 then i+(n)else i)<|n)=(((if i<0 then(i+(n)).toNat else min _ n)))
 show mP! n i
def slR(a b:Nat):sliceRange (a) (b) 1=(EQ<|b-a).map (λ k=>a+k):=by
 unfold sliceRange;erw[show(1:Int)>0 by decide,A35];let e:(if(a)<(b:Int)then((b)-(a:Int)+1-1) / 1 else 0).toNat=b-a:=by
  split
  .rw[Int.ediv_one,Int.add_sub_cancel];show Int.toNat_sub b a
  .show (Nat.sub_eq_zero_of_le (Int.ofNat_le.mp (Int.not_lt.mp ‹_›))).symm
 rw[e];apply B13;intro k _;lia
def idxs(lo hi:ε Int)(n:Nat):strSliceIndices lo hi 1 n=(EQ<|Z.c6 n n hi-Z.c6 n 0 lo).map (λ k=>Z.c6 n 0 lo+k):=by
 unfold strSliceIndices;erw[show(1:Int)>0 by decide,A35];rw[<-slR];cases lo with
 |none=>
  cases hi with
  |none=>rfl
  |some j=>erw[EX n n j];rfl
 |some i=>
  cases hi with
  |none=>erw[EX n 0 i];rfl
  |some j=>erw[EX n 0 i,EX n n j]
def w?(n d:Nat)(hd:d<=n)(o:ε Int):Z.c6 n d o<=n:=by
 cases o with
 |none=>show hd
 |some v=>change(if v<0 then(v+(n)).toNat else min _ n)<=n;split<;>lia
def pick(cs:U Nat):∀k a,a+k<=cs.n->((EQ k).map λ j=>a+j).filterMap (λ i=>cs.toArray[i]?)=(cs.drop a).take k:=by
 intro k
 induction k with
 |zero=>intro a _;simp
 |succ k ih=>
  intro a h;rw[A85,A26,List.filterMap_append,ih a ∅];let jO:a+k<cs.n:=by lia
  rw[List.take_succ];simp[jO]
def We(cs:U Nat)(lo hi:ε Int):Txt.slice ⟨cs.q⟩ lo hi=⟨(Z.cut cs lo hi).toArray⟩:=by
 unfold Txt.slice;rw[k_,idxs];let h1:=w? _ cs.length (P3 _) hi;let h0:=w? cs.length 0 (A57 _) lo;let hp:((EQ<|Z.c6 cs.length cs.length hi-Z.c6 cs.length 0 lo).map λ k=>Z.c6 cs.length 0 lo+k).filterMap (λ i=>cs.toArray[i]?)=Z.cut cs lo hi:=by show pick cs _ _ ∅
 split
 .rename_i hh;let ψ:(EQ<|Z.c6 cs.length cs.length hi-Z.c6 cs.length 0 lo).length=cs.n:=by erw[A60,B66,A41,A08]at hh;show hh
  rw[B12]at ψ;unfold Z.cut;let e0:Z.c6 cs.length 0 lo=0:=by lia
  let e1:=ψ
  rw[e1,e0];simp
 .rw[hp]
end
open L2
section
variable{X:Cx}
def UG(hr:iZ X (compareOp op) r)(hz:Hx X.K r o)(ha:DW X a fa)(hb:DW X b fb)(hm:behindInMarks op b=AT):DE X (.Compare a [op] [b] pos) (Z.eB o fa fb):=
 PE.imp (xl hr ha hb hm)<|two hz
def o_(h:PT X e (HV t))(k:∀O H Q,tZ X.K f O H Q->t O H Q):DT X e (Z.tE f):=PT.imp h <|by
 rintro O H Q ⟨Y,b,r,e,q⟩;let(x,ea,e):=ac e;show k O H _ ⟨Y,x,r,ea,λ v H' s d=>?_⟩;split at e
 .ext e;erw[Den]at d;show(_,d,q H' s,)
 .ext e
def Uh(hr:iZ X (compareOp op) r)(hz:Hx X.K r o)(ha:DW X a fa)(hb:DW X b fb)(hm:behindInMarks op b=AT):DT X (.Compare a [op] [b] pos) (Z.tE<|Z.eB o fa fb):=
 o_ (rl hr ha hb hm)<|two hz
structure C4(X:Cx)(op:CmpOp)(o:Z.D->Z.D->Z.Res Z.D):Prop where
 ex:∃r,iZ X (compareOp op) r/\Hx X.K r o
def ZQ.K5(h:C4 X op o)(ha:ZQ.QW X a fa)(hb:ZQ.QW X b fb)(hm:behindInMarks op b=AT:=by first|show mY _|with_unfolding_all rfl):ZQ.QE X (.Compare a [op] [b] pos) (Z.eB o fa fb):=
 ⟨by let(_,hr,hz):=h.ex;show UG hr hz ha.p hb.p hm⟩
def ZQ.iM(h:C4 X op o)(ha:ZQ.QW X a fa)(hb:ZQ.QW X b fb)(hm:behindInMarks op b=AT:=by first|show mY _|with_unfolding_all rfl):ZQ.QT X (.Compare a [op] [b] pos) (Z.tE<|Z.eB o fa fb):=
 ⟨by let(_,hr,hz):=h.ex;show Uh hr hz ha.p hb.p hm⟩
def we(hz:Hx X.K r o)(XT:Hx X.K r' o'):∀O H Q,tZ X.K (Z.dI o o' fa fb fc) O H Q->BJ r r' (LD X.K fa) (LD X.K fb) (LD X.K fc) O H Q:=by
 rintro O H Q ⟨Y,d,re,e,k⟩;let(x,ea,e):=ac e;let(y,eb,e):=ac e;let(z,eo,e):=ac e;show(Y,x,re,ea,λ v H1 s1 d1=>(Y,y,re.up s1,eb,λ u H2 s2 d2=>hz _ _ _ _ _ H2 _ (d1.up s2) d2 eo λ w H3 s3 dw=>?_,),);let LI:=(s1.trans s2).trans s3;split at e
 .rename_i q;erw[Den]at dw;show(_,dw,?_,);cases q with
  |true=>erw[A35]at e ⊢;let(t,ec,e):=ac e;show(Y,t,re.up LI,ec,λ v' H4 s4 d4=>XT _ _ _ _ _ H4 Q ((d2.up s3).up s4) d4 e λ w' H5 s5 dw'=>k w' H5 ((LI.trans s4).trans s5) dw',)
  |false=>erw[A61]at e ⊢;ext e;show k _ H3 LI cA
 .ext e
def ZQ.K6(h:C4 X op o)(h':C4 X FW o')(ha:ZQ.QW X a fa)(hb:ZQ.QW X b fb)(hc:ZQ.QW X c fc)
 (hm:lastMarks [op,FW] [b,c]=AT:=by with_unfolding_all rfl):ZQ.QE X (.Compare a [op,FW] [b,c] pos) (Z.dI o o' fa fb fc):=
 ⟨let ⟨_,hr,hz⟩:=h.ex;let ⟨_,hr',XT⟩:=h'.ex;PE.imp (IP hr hr' ha.p hb.p hc.p hm) (we hz XT)⟩
def ZQ.KI(h:C4 X op o)(h':C4 X FW o')(ha:ZQ.QW X a fa)(hb:ZQ.QW X b fb)(hc:ZQ.QW X c fc)
 (hm:lastMarks [op,FW] [b,c]=AT:=by with_unfolding_all rfl):ZQ.QT X (.Compare a [op,FW] [b,c] pos) (Z.tE<|Z.dI o o' fa fb fc):=
 ⟨let ⟨_,hr,hz⟩:=h.ex;let ⟨_,hr',XT⟩:=h'.ex;o_ (IA hr hr' ha.p hb.p hc.p hm) (we hz XT)⟩
def G4:C4 X .Lt Z.oLt:=(_,WK,oC (λ dx dy d e=>by
 unfold Z.oLt at e;split at e
 .ext e;show(_,_,rfl,rfl,rfl,)
 .ext e) λ _ _ _=>cA,)
def G5:C4 X .Gt Z.Je:=(_,WN,oC (λ dx dy d e=>by
 unfold Z.Je at e;split at e
 .ext e;show(_,_,rfl,rfl,rfl,)
 .ext e) λ _ _ _=>cA,)
def G6:C4 X .GtE Z.Vk:=(_,WO,oC (λ dx dy d e=>by
 unfold Z.Vk at e;split at e
 .ext e;show(_,_,rfl,rfl,rfl,)
 .ext e) λ _ _ _=>cA,)
def FV:iZ X (compareOp .LtE) (λ x y H Q=>∃i j,x=.str i/\y=.str j/\Q (.bl<|!decide (j.cps.y<i.cps.y)) H):=by intro B s O H x y v u Q I rx ry h;let(i,j,rfl,rfl,q):=h;let(t,rfl):=rx;let(t',rfl):=ry;show PySem.P.le_str<|xQ I q rfl
def JJ:∀a b,Z.Hj a b=decide (a<b)
|[],[]=>by simp[Z.Hj]
|[],_::_=>by simp[Z.Hj]
|_::_,[]=>by simp[Z.Hj]
|a::as,b::bs=>by
 unfold Z.Hj;rw[JJ];by_cases h:a<b
 .simp[C60]
 .by_cases h2:a=b
  .subst h2;simp
  .simp[C60]
def CI:C4 X .LtE Z.oLe:=⟨_,WL.or FV,λ x y dx dy d H Q h1 h2 e k=>by
 unfold Z.oLe at e;split at e
 .ext e;show .inl ⟨_,_,h1.int,h2.int,k _ H (az.refl H) cA⟩
 .ext e;show .inr ⟨_,_,h1.str,h2.str,?_⟩;rename_i as bs;let q:=k (.bl<|!Z.Hj bs as) H (az.refl H) cA;rw[JJ]at q;show q
 .ext e⟩
def XI:Z.D->Bool
|.non=>Ch
|_=>AT
def Jl{K:Da}(h:bH K H d v):decide (v=.non)=XI d:=by
 cases d with
 |non=>rw[h.non];rfl
 |bl b=>rw[h.bl];rfl
 |int i=>rw[h.int];rfl
 |str cs=>rw[h.str];rfl
 |tup ds=>let(a,vs,rfl,_):=h.tup;rfl
 |lst ds=>let(a,vs,rfl,_):=h.lst;rfl
 |dct ks ds=>let(a,o,aQ,rfl,_):=h.dct;rfl
def En:∀O H Q,tZ X.K (Z.eU Z.gj fa) O H Q->Mw (λ x y H Q=>y=.non/\Q (.bl<|decide<|x=.non) H) (LD X.K fa) (tC .non) O H Q:=by rintro O H Q ⟨Y,d,r,e,k⟩;let(x,ea,e):=ac e;show(Y,x,r,ea,λ v H1 s1 d1=>(rfl,?_,),);rw[Jl d1];ext x<;>(ext e;show k _ H1 s1 cA)
def Jj:∀O H Q,tZ X.K (Z.eU Z.iF fa) O H Q->Mw (λ x y H Q=>y=.non/\Q (.bl<|!decide (x=.non)) H) (LD X.K fa) (tC .non) O H Q:=by rintro O H Q ⟨Y,d,r,e,k⟩;let(x,ea,e):=ac e;show(Y,x,r,ea,λ v H1 s1 d1=>(rfl,?_,),);rw[Jl d1];ext x<;>(ext e;show k _ H1 s1 cA)
def ZQ.UB(ha:ZQ.QW X a fa):ZQ.QE X (.Compare a [.Is] [.Constant .none j pos'] pos) (Z.eU Z.gj fa):=⟨PE.imp (xl IW ha.p xk<|mY _) En⟩
def ZQ.Kz(ha:ZQ.QW X a fa):ZQ.QT X (.Compare a [.Is] [.Constant .none j pos'] pos) (Z.tE<|Z.eU Z.gj fa):=⟨o_ (rl IW ha.p xk<|mY _) En⟩
def ZQ.OX(ha:ZQ.QW X a fa):ZQ.QT X (.Compare a [.IsNot] [.Constant .none j pos'] pos) (Z.tE<|Z.eU Z.iF fa):=⟨o_ (rl Na ha.p xk<|mY _) Jj⟩
def jL:C4 X .NotIn Z.oH:=⟨_,xo,λ x y dx dy d H Q h1 h2 e k=>by
 unfold Z.oH at e;split at e
 .ext e;show(_,_,h1.str,h2.str,?_,);rename_i c t;rw[k_,aaV];show k _ H (az.refl H) cA
 .ext e⟩
def ZQ.Uv(h:ZQ.QE X a fa):ZQ.QE X (.BoolOp op [a] pos) fa:=⟨RV h.p⟩
def ZQ.UH{rest:U ι}(ha:ZQ.QE X a fa)(hb:ZQ.QE X (.BoolOp .And (b::rest) pos) fb):ZQ.QE X (.BoolOp .And (a::b::rest) pos) (Z.mf fa fb):=⟨PE.imp (R1 ha.p hb.p) <|by
 rintro O H Q ⟨Y,d,r,e,k⟩;let(x,ea,e):=ac e;show(Y,x,r,ea,λ v H1 s1 d1=>?_,);split at e
 .rename_i q;erw[Den]at d1;show(q,d1,?_,);cases q with
  |true=>erw[A35]at e ⊢;show(Y,d,r.up s1,e,λ w H' s2 dw=>k w H' (s1.trans s2) dw,)
  |false=>erw[A61]at e ⊢;ext e;show k _ H1 s1 cA
 .ext e⟩
def ZQ.ρ3{rest:U ι}(ha:ZQ.QE X a fa)(hb:ZQ.QE X (.BoolOp .Or (b::rest) pos) fb):ZQ.QE X (.BoolOp .Or (a::b::rest) pos) (Z.Ud fa fb):=⟨PE.imp (WI ha.p hb.p) <|by
 rintro O H Q ⟨Y,d,r,e,k⟩;let(x,ea,e):=ac e;show(Y,x,r,ea,λ v H1 s1 d1=>?_,);split at e
 .rename_i q;erw[Den]at d1;show(q,d1,?_,);cases q with
  |false=>erw[A61]at e ⊢;show(Y,d,r.up s1,e,λ w H' s2 dw=>k w H' (s1.trans s2) dw,)
  |true=>erw[A35]at e ⊢;ext e;show k _ H1 s1 cA
 .ext e⟩
def ZQ.Uw(ha:ZQ.QE X a fa):ZQ.QE X (.UnaryOp .Not a pos) (Z.OV fa):=⟨PE.imp (RW ha.p) <|by
 rintro O H Q ⟨Y,d,r,e,k⟩;let(x,ea,e):=ac e;show(Y,x,r,ea,λ v H1 s1 d1=>?_,);split at e
 .simp only[Den]at d1;ext e;show(_,d1,k _ H1 s1 cA,)
 .ext e⟩
def Rv:∀O H Q,V7 X.K (Z.tE f) O H Q->tB (tZ X.K f) O H Q:=by
 rintro O H Q ⟨Y,b,r,e,q⟩;let(x,ea,e):=ac e;show(Y,x,r,ea,λ v H' s d=>?_,);split at e
 .ext e;erw[Den]at d;show(_,d,q H' s,)
 .ext e
def ZQ.GK(h:ZQ.QE X e f)(he:∀whole,isTrue e X.env whole=(do let v ←whole;standAt e.pos;holding [v] (truthy v)):=by intro _;rfl):ZQ.QT X e (Z.tE f):=⟨PT.imp (Iw h.p he) Rv⟩
def ZQ.tT(h:ZQ.QT X a t):ZQ.QT X (.UnaryOp .Not a pos) (Z.cZ t):=⟨PT.imp (Iy h.p) <|by rintro O H Q ⟨Y,b,r,e,q⟩;let(x,ea,e):=ac e;ext e;show(Y,x,r,ea,λ H' s=>q H' s,)⟩
def ZQ.x_(h:ZQ.QT X a t):ZQ.Q6 X (.BoolOp .And [a] pos) t:=⟨pw_and1 h.p⟩
def ZQ.Ug(h:ZQ.QT X a t):ZQ.Q6 X (.BoolOp .Or [a] pos) t:=⟨pw_or1 h.p⟩
def ZQ.Cy{rest:U ι}(ha:ZQ.QT X a t)(hb:ZQ.Q6 X (.BoolOp .And (b::rest) pos) u):ZQ.Q6 X (.BoolOp .And (a::b::rest) pos) (Z.n8 t u):=⟨PW.imp (pw_and ha.p hb.p) <|by
 rintro O H Q ⟨Y,d,r,e,k⟩;let(x,ea,e):=ac e;show(Y,x,r,ea,λ H1 s1=>?_,);cases x with
 |true=>erw[A35]at e ⊢;show(Y,d,r.up s1,e,λ H' s2=>k H'<|s1.trans s2,)
 |false=>erw[A61]at e ⊢;ext e;show k H1 s1⟩
def ZQ.YV{rest:U ι}(ha:ZQ.QT X a t)(hb:ZQ.Q6 X (.BoolOp .Or (b::rest) pos) u):ZQ.Q6 X (.BoolOp .Or (a::b::rest) pos) (Z.nP t u):=⟨PW.imp (pw_or ha.p hb.p) <|by
 rintro O H Q ⟨Y,d,r,e,k⟩;let(x,ea,e):=ac e;show(Y,x,r,ea,λ H1 s1=>?_,);cases x with
 |false=>erw[A61]at e ⊢;show(Y,d,r.up s1,e,λ H' s2=>k H'<|s1.trans s2,)
 |true=>erw[A35]at e ⊢;ext e;show k H1 s1⟩
def ZQ.dtw(h:ZQ.Q6 X e t):ZQ.QT X e t:=⟨h.p.pt⟩
def ZQ.AU(hc:ZQ.QT X c t)(ha:ZQ.QE X a fa)(hb:ZQ.QE X b fb):ZQ.QE X (.IfExp c a b pos) (Z._O t fa fb):=⟨PE.imp (IL hc.p ha.p hb.p) <|by
 rintro O H Q ⟨Y,d,r,e,k⟩;let(x,ea,e):=ac e;show(Y,x,r,ea,λ H1 s1=>?_,);cases x with
 |true=>erw[A35]at e ⊢;show(Y,d,r.up s1,e,λ w H' s2 dw=>k w H' (s1.trans s2) dw,)
 |false=>erw[A61]at e ⊢;show(Y,d,r.up s1,e,λ w H' s2 dw=>k w H' (s1.trans s2) dw,)⟩
def ZQ.cB:ZQ.QA X [] Z.ag:=⟨PA.imp cE <|by rintro O H Q ⟨Y,ds,r,e,k⟩;ext e;show k [] H (az.refl H) au.nil⟩
def jg(ha:DE X e f)(hr:DA X es g)(hs:Se e es X.J:=by rfl):DA X (e::es) (Z.ai f g):=PA.imp (bw ha hr hs) <|by rintro O H Q ⟨Y,ds,r,e,k⟩;let(x,ea,e):=ac e;let(xs,eb,e):=ac e;ext e;show(Y,x,r,ea,λ v H1 s1 d1=>(Y,xs,r.up s1,eb,λ vs H2 s2 d2=>k _ H2 (s1.trans s2)<|au.cons (d1.up s2) d2,),)
def ZQ.p8(h:ZQ.QA X es g):ZQ.QE X (.Tuple es x1 pos) (Z.cm g):=⟨PE.imp (RT h.p) <|by
 rintro O H Q ⟨Y,d,r,e,k⟩;let(xs,ea,e):=ac e;unfold Z.guard at e;split at e
 .rename_i hl;ext e;show(Y,xs,r,ea,λ vs H1 s1 d1=>⟨by rw[d1.n,A32];show hl,λ q hq=>?_⟩,);let s2:az H1 (upd H1 q<|.tup vs):=b? hq;show k _ _ (s1.trans s2)<|fq (.inl<|.inl aE)<|d1.up s2
 .ext e⟩
def ZQ.EL(h:ZQ.QA X es g):ZQ.QL X (.List es pos) (Z.bq g):=⟨PE.imp (RX h.p) <|by
 rintro O H Q ⟨Y,d,r,e,k⟩;let(xs,ea,e):=ac e;unfold Z.guard at e;split at e
 .rename_i hl;ext e;show(Y,_,r,ea,λ vs H1 s1 d1=>⟨by rw[d1.n,A32];show hl,λ q hq=>?_⟩,);let s2:az H1 (upd H1 q<|.lst vs):=b? hq;show k q vs _ (s1.trans s2) (s1.free hq) aE<|d1.up s2
 .ext e⟩
end
end ZS
namespace ZS
open L2
def V1:Z.Ty->String
|.bool=> "bool"|.int=> "int"|.str=> "str"|.tuple=> "tuple"|.list=> "list"|.dict=> "dict"
def tyD:Z.D->String
|.non=> "NoneType"|.bl _=> "bool"|.int _=> "int"|.str _=> "str"|.tup _=> "tuple"|.lst _=> "list"|.dct _ _=> "dict"
def N9(K:Da)(t:Z.Ty)(d:Z.D):PySem.W.kitOne K (.type<|tyD d) (.type<|V1 t)=AC (Z.dE t d):=by ext t<;>ext d<;>kernel_rfl
def JT(t:Z.Ty)(I:Inv X B O H s)(hd:bH X.K H d v)(r:RelV v u)
 (h:∀tk,Q (.bool<|Z.dE t d) {s with toks:=tk}):Ev (model X.prog X.w) A (call (.builtin "isinstance") [u,.type (V1 t)]) Q E s:=by
 let e:=N9 X.K t d;cases d with
 |non=>rw[hd.non]at r;cases (r);show A98 PySem.W.kitx_none I.lP IR e (λ z=>nomatch z) h
 |bl y=>rw[hd.bl]at r;cases (r);show A98 PySem.W.kitx_bool I.lP IR e (λ z=>nomatch z) h
 |int i=>rw[hd.int]at r;obtain⟨t',q⟩:=(r);ext q;show A98 PySem.W.kitx_int I.lP IR e (λ z=>nomatch z) h
 |str cs=>rw[hd.str]at r;obtain⟨t',q⟩:=(r);ext q;show A98 PySem.W.kitx_str I.lP IR e (λ z=>nomatch z) h
 |tup ds=>let(a,vs,rfl,hq,_):=hd.tup;cases (r);let(a8,_,(o,h1,h2,_),_):=I.tuple hq;show A98 PySem.W.kitx_tuple I.lP ⟨o,h1,h2⟩ e (λ z=>nomatch z) h
 |lst ds=>let(a,vs,rfl,hq,_):=hd.lst;cases (r);let(a8,_,(o,n,h1,h2,_),_):=I.list hq;show A98 PySem.W.kitx_list I.lP ⟨o,h1,h2⟩ e (λ z=>nomatch z) h
 |dct ks ds=>
  let(a,o,aQ,rfl,hq,_):=hd.dct;cases (r);obtain⟨_,_,_,_,_,o',es,ep,h1,h2,_⟩:=(I.bO a _ hq)
  show A98 PySem.W.kitx_dict I.lP ⟨o',h1,h2.1⟩ e (λ z=>nomatch z) h
theorem ZQ.lT(t:Z.Ty)(hg:Gl X x)(hm:X.mg x=At)(hv:bootBuiltins x=AC (.builtin "isinstance"))(hg2:Gl X y)(hm2:X.mg y=At)(Qy:bootBuiltins y=AC (.type<|V1 t))(ha:ZQ.QW X a fa)
 (hn:x≠ "__name__":=by decide +kernel) (ie:Nd x:=by kernel_rfl) (J3:y≠ "__name__":=by decide +kernel) (ab8:Nd y:=by kernel_rfl)
 (he:starEach (a::[.Name y p2]) X.J=(AT,eval a X.J)::starEach [.Name y p2] X.J:=by rfl) (fC:(backTo pos<|starEach [.Name y p2] X.J).any (·.1)=AT:=by rfl) (QB:starEach ((.Name y p2)::[]) X.J=(AT,eval (.Name y p2) X.J)::starEach [] X.J:=by rfl) :
 ZQ.QE X (.Call (.Name x p1) [a,.Name y p2] [] pos) (Z.eU (Z.dS t) fa):=⟨by
 let hc:mM X (.builtin "isinstance") (λ xs H Q=>∃v d,xs=[v,.ty (V1 t)]/\bH X.K H d v/\Q (.bl<|Z.dE t d) H):=by intro B s O H xs us Q I r h;let(v,d,rfl,hd,q):=h;let(u,w',rfl,r1,r2):=vals2 r;cases (r2);show JT t I hd r1 λ tk=>(.bl _,H,I.tok _,rfl,q,)
 show PE.imp (jy hc hg hm hv (bw ha.p (bw (M! (v:=.ty (V1 t)) hg2 hm2 Qy rfl J3 ab8) cE QB) he) hn ie he fC) ?_;rintro O H Q ⟨Y,d,r,e,k⟩;let(x,ea,e):=ac e;ext e;show(Y,x,r,ea,λ v H1 s1 d1=>(v,x,rfl,d1,k _ H1 s1 cA,),)⟩
def ZQ.j'{x:Str}(hm:X.mg x=At)(ha:ZQ.QW X a fa)(hn:x≠ "__name__":=by decide +kernel)(ie:Nd x:=by kernel_rfl)(he:Se a [] X.J:=by rfl)(fC:Pn pos [] X.J:=by rfl)(hg:Gl X x:=by rfl)(hv:bootBuiltins x=AC (.builtin "len"):=by kernel_rfl):ZQ.QE X (.Call (.Name x p1) [a] [] pos) (Z.eU Z.bj fa):=
 ⟨PE.imp (jy Lc hg hm hv (bw ha.p cE he) hn ie he fC) <|by
  rintro O H Q ⟨Y,d,r,e,k⟩;let(x,ea,e):=ac e;show(Y,x,r,ea,λ v H1 s1 d1=>?_,);unfold Z.bj at e;split at e
  .unfold Z.guard at e;split at e
   .rename_i cs hl;ext e;rw[d1.str];show(_,_,rfl,(?_,?_,),k _ H1 s1 cI,)
    .show cs.q.u<=sizeLine;rw[A32];simpa using hl
    .show cs.n=cs.q.u;simp
   .ext e
  .ext e;let(q,vs,rfl,hq,t):=d1.tup;show(_,_,rfl,.inr ⟨vs,hq,rfl⟩,?_,);rw[t.n];show k _ H1 s1 cI
  .ext e;let(q,vs,rfl,hq,t):=d1.lst;show(_,_,rfl,.inl ⟨vs,hq,rfl⟩,?_,);rw[t.n];show k _ H1 s1 cI
  .ext e⟩
def Tf(n:Nat)(i:Int):Z.vS n i=XB n i:=rfl
def atZ{K:Da}(t:au K H ds vs)(h:((Z.vS ds.length i).bind λ j=>ds[j]?)=AC d):∃v,UW vs i=AC v/\Den K H d v:=by
 unfold UW;rw[t.n,<-Tf];cases q:Z.vS _ i with
 |none=>rw[q]at h;ext h
 |some j=>rw[q]at h;show t.get h
def WM:∃r,L8 X r/\Hx X.K r Z.bf:=⟨_,Td,λ x y dx dy d H Q h1 h2 e k=>by
 unfold Z.bf at e;split at e
 .let(q,vs,rfl,hq,t):=h1.tup;split at e
  .rename_i v hv;ext e;let(w,e1,dw):=atZ t hv;show .inr<|.inl ⟨q,vs,_,w,rfl,h2.int,hq,e1,k w H (az.refl H) dw⟩
  .ext e
 .let(q,vs,rfl,hq,t):=h1.lst;split at e
  .rename_i v hv;ext e;let(w,e1,dw):=atZ t hv;show .inl ⟨q,vs,_,w,rfl,h2.int,hq,e1,k w H (az.refl H) dw⟩
  .ext e
 .unfold Z.guard at e;split at e
  .rename_i cs i hl;split at e
   .rename_i c hc;ext e;show .inr<|.inr ⟨_,_,c,h1.str,h2.int,?_,?_,?_⟩
    .show cs.q.u<=sizeLine;rw[A32];simpa using hl
    .exact hc
    .exact k _ H (az.refl H)<|j8
   .ext e
  .ext e
 .ext e⟩
def ZQ.mI(ha:ZQ.QW X a fa)(hb:ZQ.QW X b fb)(hs:E! b:=by intro _ _;rfl):ZQ.QE X (.Subscript a b pos) (Z.eB Z.bf fa fb):=⟨by let(_,h,o):=WM;show PE.imp (WJ h ha.p hb.p hs)<|two o⟩
def ZQ.YX:ZQ.QP X At Z.FO:=⟨PO.imp M4 <|by rintro O H Q ⟨Y,o,r,e,k⟩;ext e;show k H<|az.refl H⟩
def ZQ.YY(h:ZQ.QW X e f):ZQ.QP X (AC e) (Z.qp f):=⟨PO.imp (M3 h.p) <|by
 rintro O H Q ⟨Y,o,r,e,k⟩;let(x,ea,e):=ac e;show(Y,x,r,ea,λ v H1 s1 d1=>?_,);split at e
 .ext e;show(_,d1.int,k H1 s1,)
 .ext e⟩
def pJ(n d:Nat)(o:ε Int):Z.c6 n d o=HT.c6 n d o:=by ext o<;>rfl
def CD{K:Da}(t:au K H ds vs)(lo hi:ε Int):au K H (Z.cut ds lo hi) (u7 vs lo hi):=by unfold Z.cut u7;rw[pJ,pJ,t.n];show(t.drop _).take _
def GW{lo hi:ε Int}(h1:HT.c6 xs.length 0 lo=0)(h2:HT.c6 xs.length xs.length hi=xs.n):Z.cut xs lo hi=xs:=by unfold Z.cut;rw[pJ,pJ,h1,h2];simp
def aaF(K:Da):V->ε Int->ε Int->Hp->VK->Prop:=λ x lo hi H Q=>∃a xs,x=.ref a/\l4 K H a xs/\(u7 xs lo hi=xs->Q (.ref a) H)/\∀p,H p=At->Q (.ref p) (upd H p<|.tup<|u7 xs lo hi)
def md{lo hi:ε Int}(ht:IsTup s.heap t items)(hs:s.heap.IsSliceOf sl vl vu .none)(pl:IsPart vl lo)(pu:IsPart vu hi)
 (hw:HT.c6 items.size 0 lo=0/\HT.c6 items.size items.size hi=items.u)
 (h:Q (.ref t) s):Ev (model prog w) A (getItem (.ref t)<|.ref sl) Q E s:=by
 let(os,Tx,Ew,Yk):=id hs;let hTs:s.TypeIs (.ref sl) "slice":=(os,Tx,Ew,)
 unfold getItem
 try with_reducible show A49 ?_
 first|show T0<|v4 ?_|skip
 show T0<|wpAny_sequenceKey ht.typeIs ∅ ?_;show T0 (B08 (name:=Do "__getitem__") ht.typeIs B09
 <|B10 B09 ht.typeIs entry_tuple_getitem ?_<|args_tuple_getitem _ _)
 change Ev _ _ (WP (.ref t)>>=_) _ _ s;show T0<|tupleItemsOf_ ht ?_;show T0<|wpAny_typeOf hTs ?_;rw[M2 ∅];show T0<|HT.ju hs pl pu ?_;let abi:(((HT.c6 items.size 0 lo):Int)==0&&(1:Int)==1&&(HT.c6 items.size items.size hi-HT.c6 items.size 0 lo)==items.u)=Ch:=by rw[hw.1,hw.2];simp
 change Ev _ _ (if(((HT.c6 items.size 0 lo:Nat):Int)==0&&(1:Int)==1&&(HT.c6 items.size items.size hi-HT.c6 items.size 0 lo)==items.u)=Ch then _ else _) _ _ s;rw[M2 abi];show T0 ?_;unfold Builtin.Tuple.tupleIsExact;show T0<|wpAny_typeOf ht.typeIs ?_;show v4 ?_;rw[M2<|A60 _];show T0<|B36 ?_;show v4 ⟨.ref t,rfl,v4 h⟩
def MI:PM X (aaF X.K):=by
 intro B s O H x v vl vu lo hi sl Q I rx hs pl pu h;let(a,xs,rfl,hx,q1,q2):=h;by_cases hw:HT.c6 xs.length 0 lo=0/\HT.c6 xs.length xs.length hi=xs.n
 .ext rx;let(a8,r,ht,hz):=I.tuple hx;let ψ:a8.q.u=xs.n:=by rw[A12];show r.n.a
  show("tuple",_,B09.lookup,ht.typeIs,?_,);show md ht hs pl pu (by rw[ψ];show hw) ⟨.ref a,H,I,rfl,q1 ?_⟩;let:=GW hw.1 hw.2;unfold Z.cut at this;rw[pJ,pJ]at this;show this
 .exact Ry B s O H _ v vl vu lo hi sl Q I rx hs pl pu ⟨a,xs,rfl,hx,hw,q2⟩
def aaH:V->ε Int->ε Int->Hp->VK->Prop:=λ x lo hi H Q=>∃z,x=.str z/\z.n<=sizeLine/\Q (.str<|Txt.slice z lo hi) H
def IS(h:IsPart v o):∃q,v=partValue q/\q.map (·.1)=o:=by
 cases h with
 |none=>show(At,rfl,rfl,)
 |int i t=>show(AC (i,t),rfl,rfl,)
def MJ:PM X aaH:=by intro B s O H x v vl vu lo hi sl Q I rx hs pl pu h;let(z,rfl,hz,q):=h;let(t,rfl):=rx;let(ql,rfl,rfl):=IS pl;let(qu,rfl,rfl):=IS pu;show("str",_,F.slot_str_getitem.lookup,typeIs_str _ _ _,?_,);show wpAny_getItem_str_slice (st:=At) hs rfl ?_;show post_val_or_str ⟨A15 (Txt.slice_le z _ _) hz,λ t' k=>(.str _,H,I.tok _,(t',rfl,),q,)⟩
def ZQ.K2{lo hi:ε ι}(ha:ZQ.QW X a fa)(hl:ZQ.QP X lo gl)(hh:ZQ.QP X hi gh):ZQ.QE X (.Subscript a (.Slice lo hi At p2) pos) (Z.Cw fa gl gh):=
 ⟨have hl:=hl.p;PE.imp (zx (MJ.or MI) ha.p hl hh.p) <|by
  rintro O H Q ⟨Y,d,r,e,k⟩;let(x,ea,e):=ac e;let(l,el,e):=ac e;let(h,eh,e):=ac e;show(Y,x,r,ea,λ v H1 s1 d1=>(Y,l,r.up s1,el,λ H2 s2=>(Y,h,(r.up s1).up s2,eh,λ H3 s3=>?_,),),);let LI:=(s1.trans s2).trans s3;let d3:=(d1.up s2).up s3;unfold Z.WX at e;split at e
  .unfold Z.guard at e;split at e
   .rename_i cs _ _ hl;ext e;show .inl ⟨_,d3.str,?_,?_⟩
    .show cs.q.u<=sizeLine;rw[A32];simpa using hl
    .rw[We];show k _ H3 LI j8
   .ext e
  .ext e;let(q,vs,rfl,hq,t):=d3.tup;show .inr ⟨q,vs,rfl,hq,λ hw=>?_,λ z hz=>?_⟩
   .let:=CD t l h;rw[hw]at this;show k _ H3 LI<|fq hq this
   .let s4:az H3 (upd H3 z<|.tup<|u7 vs l h):=b? hz;show k _ _ (LI.trans s4)<|fq (.inl<|.inl aE)<|(CD t l h).up s4
  .ext e⟩
def ZQ.KQ{lo hi:ε ι}(ha:ZQ.QW X a fa)(hl:ZQ.QP X lo gl)(hh:ZQ.QP X hi gh):ZQ.QL X (.Subscript a (.Slice lo hi At p2) pos) (Z.Qt fa gl gh):=
 ⟨PE.imp (zx MK ha.p hl.p hh.p) <|by
  rintro O H Q ⟨Y,d,r,e,k⟩;let(x,ea,e):=ac e;let(l,el,e):=ac e;let(h,eh,e):=ac e;show(Y,x,r,ea,λ v H1 s1 d1=>(Y,l,r.up s1,el,λ H2 s2=>(Y,h,(r.up s1).up s2,eh,λ H3 s3=>?_,),),);let LI:=(s1.trans s2).trans s3;let d3:=(d1.up s2).up s3;split at e
  .ext e;let(q,vs,rfl,hq,t):=d3.lst;show(q,vs,rfl,hq,λ z hz=>?_,);let s4:az H3 (upd H3 z<|.lst<|u7 vs l h):=b? hz;show k z _ _ (LI.trans s4) (LI.free hz) aE<|(CD t l h).up s4
  .ext e⟩
def WE(K:Da):R2:=λ x y H Q=>∃l b xs zs,x=.ref l/\y=.ref b/\iY K H l xs/\iY K H b zs/\xs.n+zs.n<=sizeLine/\∀p,H p=At->Q (.ref p) (upd H p<|.lst<|xs++zs)
def Ni:iZ X (binaryOp .Add) (WE X.K):=by
 intro B s O H x y v u Q I rx ry h;let(l,b,xs,zs,rfl,rfl,hH,hB,hz,q):=h;ext rx ry;let(a8,r,pl,_):=I.list hH;let(g9,r2,pl2,_):=I.list hB;let hl:=r.n;let Hs:=r2.n;let((cls,dd,data,sl),ho,hc,n,hd):=id pl.x;let((Y7,VD,data2,Vb),Hn,uN,n2,hd2):=id pl2.x;simp only at hc hd uN hd2;subst hc hd uN hd2;let ea:a8.q++g9.q=(a8++g9).toArray:=by simp
 show B59 ⟨_,ho,rfl⟩ ⟨_,Hn,rfl⟩ noFill_list_add seq_list_add PySem.F.slot_list_add PySem.F.entry_list_add (PySem.F.args_list_add_2 _ _) (list_addW l b _ _ n n2 dd VD sl Vb (by erw[A12];lia)) ⟨ho,Hn,?_⟩;rw[ea];show(.ref _,_,I.Xs (r.append r2) (by rw[A38];lia),rfl,q _ I.fresh,)
def ZQ.Uq(ha:ZQ.QW X a fa)(hb:ZQ.QW X b fb):ZQ.QL X (.BinOp a .Add b pos) (Z.S8 fa fb):=⟨PE.imp (DQ Ni ha.p hb.p) <|by
 rintro O H Q ⟨Y,d,r,e,k⟩;let(x,ea,e):=ac e;let(y,eb,e):=ac e;show(Y,x,r,ea,λ v H1 s1 d1=>(Y,y,r.up s1,eb,λ u H2 s2 d2=>?_,),);let Wm:=s1.trans s2;split at e
 .unfold Z.guard at e;split at e
  .rename_i xs ys hl;ext e;obtain⟨q,vs,rfl,hq,t⟩:=(d1.up s2).lst;let(q',vs',rfl,fQ,t'):=d2.lst;show⟨q,q',vs,vs',rfl,rfl,hq,fQ,by rw[t.n,t'.n,A32];show hl,λ z hz=>?_⟩;let s3:az H2 (upd H2 z<|.lst<|vs++vs'):=b? hz;show k z _ _ (Wm.trans s3) (Wm.free hz) aE<|(t.append t').up s3
  .ext e
 .ext e⟩
def yw(K:Da)(m:U Z.D->Z.Res Z.D):Sp:=λ vs H Q _=>∃ds d,au K H ds vs/\m ds=.ok d/\∀v H',az H H'->Den K H' d v->Q v H'
theorem O_(F:ee X.prog X.w X.K X.mg X.base hV k g fd ps (yw X.K m))(hr:bu k X.A)(hg:Gl X x)(hm:X.mg x=AC (.ref g))(hk:FS X.K (.ref g)=Ch)(hb:Binds X.K fd ps [])
 (ha:DA X (e::es) ar) (ie:Nd x:=by kernel_rfl) (he:Se e es X.J:=by rfl) (fC:Pn pos es X.J:=by rfl) :
 DE X (.Call (.Name x p1) (e::es) [] pos) (Z.aj m ar):=
 PE.imp (xm F hr hg hm hk hb .nil sI ha ie he fC) <|by rintro O H Q ⟨Y,d,r,e,k⟩;let(ds,ea,e):=ac e;show(Y,ds,r,ea,λ vs H1 s1 d1=>?_,);change yw X.K m _ H1 Q E0;rw[A52];show(ds,d,d1,e,λ v H' s2 dv=>k v H' (s1.trans s2) dv,)
structure E_(K:Da)(J:It)(S:Hp->Prop)(ds:List Z.D):Prop where
 go:∀(i:Nat)(d:Z.D)(H1:Hp),S H1->ds[i]?=AC d->J.go i H1
 Bh:∀(i:Nat)(d:Z.D)(H1 H2:Hp)(x:V),S H1->ds[i]?=AC d->J.Bh i H1 x H2->az H1 H2/\Den K H2 d x
 stop:∀(H1:Hp),S H1->J.stop ds.length H1
def tZi(K:Da)(f:Z.LF):TI:=λ O H R=>∃Y ds,RE K H O Y/\f Y=.ok ds/\∀J H',az H H'->E_ K J (az H') ds->R J H'
def tZj(K:Da)(f:Z.LF):TI:=λ O H R=>∃Y ds,RE K H O Y/\f Y=.ok ds/\∀J H',az H H'->E_ K J (gm H') ds->R J H'
abbrev DI(X:Cx)(tg e:ι)(f:Z.LF):Prop:=PI X tg e<|tZi X.K f
structure ZQ.QI(X:Cx)(tg e:Expr)(f:Z.LF):Prop where p:DI X tg e f
abbrev DJ(X:Cx)(tg e:ι)(f:Z.LF):Prop:=PI X tg e<|tZj X.K f
structure ZQ.QJ(X:Cx)(tg e:Expr)(f:Z.LF):Prop where p:DJ X tg e f
section
variable{X:Cx}{tg e a b:ι}{es:U ι}{pos p:Pos}{f fa fb:Z.EF}
def PI.imp(h:PI X tg e t)(k:∀O H R,t' O H R->t O H R):PI X tg e t':=λ B s O H R I w=>h B s O H R I<|k O H R w
def E_.imp{K:Da}(h:E_ K J S ds)(k:∀H,S' H->S H):E_ K J S' ds:=
 ⟨λ i d H1 s=>h.go i d H1<|k _ s,λ i d H1 H2 x s=>h.Bh i d H1 H2 x<|k _ s,λ H1 s=>h.stop H1<|k _ s⟩
def ZQ.ρ1(h:ZQ.QJ X tg e g):ZQ.QI X tg e g:=⟨PI.imp h.p <|by rintro O H R ⟨Y,ds,r,e,k⟩;show(Y,ds,r,e,λ J H' s z=>k J H' s<|z.imp λ _ q=>i_ q,)⟩
def Of{K:Da}(h:l4 K H q vs)(t:au K H ds vs):E_ K (Itt K q) (gm H) ds where
 go:=λ i d H1 s hi=>by let(v,h1,_):=t.get hi;show(vs,v,eR s h,h1,)
 Bh:=λ i d H1 H2 x s hi y=>by let(e,y):=y;let(v,h1,h2):=t.get hi;let:=y vs<|eR s h;rw[h1]at this;ext this;subst e;show(az.refl _,h2.ups s,)
 stop:=λ H1 s=>⟨vs,eR s h,by rw[t.n];show P3 _⟩
def Oh{K:Da}(h:∀H1,S H1->iY K H1 q vs)(t:∀H1,S H1->au K H1 ds vs)(t0:au K H ds vs):E_ K (Itl K q) S ds where
 go:=λ i d H1 s hi=>by let(v,h1,_):=t0.get hi;show(vs,v,h H1 s,h1,)
 Bh:=λ i d H1 H2 x s hi y=>by let(e,y):=y;obtain⟨v,h1,h2⟩:=(t H1 s).get hi;let:=y vs<|h H1 s;rw[h1]at this;ext this;subst e;show(az.refl _,h2,)
 stop:=λ H1 s=>⟨vs,h H1 s,by rw[t0.n];show P3 _⟩
def ints_get(lo:Int)(n i:Nat)(d:Z.D)(h:(Z.zints lo n)[i]?=AC d):i<n/\d=.int (lo+i):=by
 unfold Z.zints at h;rw[A06]at h;cases q:(EQ n)[i]? with
 |none=>rw[q]at h;ext h
 |some j=>rw[q]at h;ext h;let(h1,h2):=A02.mp q;rw[B12]at h1;rw[C10]at h2;subst h2;show(h1,rfl,)
def Em{K:Da}(lo:Int)(n:Nat):E_ K (Q8 lo n) S (Z.zints lo n) where
 go:=λ i d H1 s hi=>(ints_get lo n i d hi).1
 Bh:=λ i d H1 H2 x s hi y=>by let(e,y):=y;let(_,rfl):=ints_get lo n i d hi;subst e;rw[y];show(az.refl _,cI,)
 stop:=λ H1 s=>by unfold Z.zints;rw[A08,B12];show P3 _
def Fx{K:Da}(it:δ)(lo:Int)(n:Nat):Turn P w K tg (Q8 lo n) [it] it (λ i h=>IsLongIter h it (lo+(i)*1) ((n)-(i)) 1) where
 mem:=by simp
 obj:=λ i h st b hb=>by
  let e:b=it:=by simpa using hb
  subst e;show⟨_,st,λ v z=>by let z':=z;ext z'⟩
 keep:=λ i h h' st k=>k it ∅ _ st
 item:=by intro X hP hw hK hc i B s O H E I hf st hg;subst hP hw hK;let(f0,f1,f2,f3,f4,f5):=hf it ∅;let W:=Walks.longrange (prog:=X.prog) (w:=X.w) (I.ok.hd hc) it lo 1 n;show W.item i s _ _ hg st λ v h' tk hv zk kk=>?_;let(t,rfl):=hv;let I1:Inv X B O H {s with heap:=h',toks:=tk}:=I.turned (λ b o hb e=>kk b o (by calc hb) e) f0 f1 f3 f4 f5;show(_,rfl,Ap zk rfl rfl ∅ ⟨.int _,H,I1,⟨t,?_⟩,⟨rfl,rfl⟩,zk,λ b hb=>(hf b hb).1⟩,);rw[B58]
 done:=by intro X hP hw hK hc i B s O H E I hf st hg;subst hP hw hK;let(f0,f1,f2,f3,f4,f5):=hf it ∅;show wpAny_pyNext_long_end (I.ok.hd hc) st (by let:n<=i:=hg;lia) λ h' eb=>(rfl,I.turned (λ b o hb e=>eb b o hb e) f0 f1 f3 f4 f5,)
 self:=λ _ _ _ _ _ st h=>wpAny_pyIter_longiter st h
def range_any{lo hi:Int}{t u v:Tok}{tk:Nat}(I:Inv X B O H s)
 (q:R (Q8 lo (hi-lo).toNat) H):Ev (model X.prog X.w) X.A (pyIter<|.ref s.t) (_Z X B O tg R) E {s with heap:=s.heap.push {cls:=.type "range",data:=.fields #[.int lo t,.int hi u,.int 1 v]},toks:=tk}:=by
 let I1:Inv X B O H {s with heap:=s.heap.push {cls:=.type "range",data:=.fields #[.int lo t,.int hi u,.int 1 v]},toks:=tk}:=I.kept λ b o e=>A03 _ e;let e1:lo+((0:Nat):Int)*1=lo:=by simp
 let e2:(((hi-lo).toNat:Nat):Int)-((0:Nat):Int)=Builtin.Range.rangeSize lo hi 1:=by rw[rangeSize_one];split<;>lia
 cases hs:Builtin.Range.small lo hi 1 with
 |true=>
  show wpAny_pyIter_range (IsRange.new ..) hs ?_;show((s.heap.push {cls:=.type "range",data:=.fields #[.int lo t,.int hi u,.int 1 v]}).objs.size,[(s.heap.push {cls:=.type "range",data:=.fields #[.int lo t,.int hi u,.int 1 v]}).objs.size],_,_,H,rfl,
   I1.kept (t':=tk) λ b o e=>A03 _ e,BE _ lo (hi-lo).toNat,?_,λ b hb=>?_,q,)
  .show IsRangeIter _ _ (lo+((0:Nat):Int)*1) ((((hi-lo).toNat:Nat):Int)-((0:Nat):Int)) 1;rw[e1,e2];show A17 _ rfl
  .let e:b=(s.heap.push {cls:=.type "range",data:=.fields #[.int lo t,.int hi u,.int 1 v]}).objs.size:=by simpa using hb
   subst e;show I1.uP (P3 _)<|I1.bO.fresh<|P3 _
 |false=>
  show wpAny_pyIter_longrange (IsRange.new ..) hs ?_;show((s.heap.push {cls:=.type "range",data:=.fields #[.int lo t,.int hi u,.int 1 v]}).objs.size,[(s.heap.push {cls:=.type "range",data:=.fields #[.int lo t,.int hi u,.int 1 v]}).objs.size],_,_,H,rfl,
   I1.kept (t':=tk) λ b o e=>A03 _ e,Fx _ lo (hi-lo).toNat,?_,λ b hb=>?_,q,)
  .show IsLongIter _ _ (lo+((0:Nat):Int)*1) ((((hi-lo).toNat:Nat):Int)-((0:Nat):Int)) 1;rw[e1,e2];show A17 _ rfl
  .let e:b=(s.heap.push {cls:=.type "range",data:=.fields #[.int lo t,.int hi u,.int 1 v]}).objs.size:=by simpa using hb
   subst e;show I1.uP (P3 _)<|I1.bO.fresh<|P3 _
def Zj(ta:TA):TI:=λ O H R=>ta O H λ vs H1=>∃j:Int,vs=[.int j]/\R (Q8 0 j.v) H1
def Zi(ta:TA):TI:=λ O H R=>ta O H λ vs H1=>∃i j:Int,vs=[.int i,.int j]/\R (Q8 i (j-i).toNat) H1
def M6(hg:Gl X "range")(hm:X.mg "range"=At)(ha:PA X [a] ta)(hs:starEach [a] X.J=[(AT,eval a X.J)]:=by rfl):PI X tg (.Call (.Name "range" p) [a] [] pos) (Zj ta):=by
 intro B s O H R I h;show Call_<|jY I hg hm boot_range<|B30 (b_ (ha pos B s O H _ I h) ?_) hs rfl;rintro us s1 ⟨vs,H1,I1,r1,q1⟩;let(j,e,q):=q1;subst e;cases r1 with
 |cons r rr=>ext rr;let(t,rfl):=r;show call_range_1<|range_any I1 (by calc q)
theorem M5(hg:Gl X "range")(hm:X.mg "range"=At)(ha:PA X [a,b] ta)(hs:starEach [a,b] X.J=[(AT,eval a X.J),(AT,eval b X.J)]:=by rfl)(Aj:starEach [b] X.J=[(AT,eval b X.J)]:=by rfl):
 PI X tg (.Call (.Name "range" p) [a,b] [] pos) (Zi ta):=by
 intro B s O H R I h;show Call_<|jY I hg hm boot_range<|B30 (b_ (ha pos B s O H _ I h) ?_) (by rw[hs,Aj]) (by rw[Aj];rfl);rintro us s1 ⟨vs,H1,I1,r1,q1⟩;let(i,j,e,q):=q1;subst e;cases r1 with
 |cons r rr=>
  cases rr with
  |cons r' rr=>ext rr;let(t,rfl):=r;let(t',rfl):=r';show call_range_2<|range_any I1 q
def ZQ.AN(hm:X.mg "range"=At)(ha:ZQ.QE X a fa)(hs:starEach [a] X.J=[(AT,eval a X.J)]:=by rfl)(oP:Se a [] X.J:=by rfl)(hg:Gl X "range":=by rfl):ZQ.QJ X tg (.Call (.Name "range" p) [a] [] pos) (Z.dF fa):=
 ⟨PI.imp (M6 hg hm (bw ha.p cE oP) hs) <|by
  rintro O H R ⟨Y,ds,r,e,k⟩;let(x,ea,e):=ac e;show(Y,x,r,ea,λ v H1 s1 d1=>?_,);split at e
  .rename_i j;ext e;erw[Den]at d1;show⟨j,by rw[d1],k _ H1 s1<|Em 0 _⟩
  .ext e⟩
def ZQ.KY(hm:X.mg "range"=At)(ha:ZQ.QE X a fa)(hb:ZQ.QE X b fb)(hs:starEach [a,b] X.J=[(AT,eval a X.J),(AT,eval b X.J)]:=by rfl)(Aj:starEach [b] X.J=[(AT,eval b X.J)]:=by rfl)(h1:Se a [b] X.J:=by rfl)(h2:Se b [] X.J:=by rfl)(hg:Gl X "range":=by rfl):ZQ.QJ X tg (.Call (.Name "range" p) [a,b] [] pos) (Z.Ah fa fb):=
 ⟨PI.imp (M5 hg hm (bw ha.p (bw hb.p cE h2) h1) hs Aj) <|by
  rintro O H R ⟨Y,ds,r,e,k⟩;let(x,ea,e):=ac e;let(y,eb,e):=ac e;obtain⟨i,j,rfl,rfl,rfl⟩:∃i j,x=.int i/\y=.int j/\ds=Z.zints i (j-i).toNat:=by
   split at e
   .ext e;show(_,_,rfl,rfl,rfl,)
   .ext e
  show(Y,_,r,ea,λ v H1 s1 d1=>(Y,_,r.up s1,eb,λ u H2 s2 d2=>?_,),);erw[Den]at d1 d2;show⟨i,j,by rw[d1,d2],k _ H2 (s1.trans s2)<|Em i (j-i).toNat⟩⟩
def Its(z:Str):It:=(λ i _=>i<z.cps.u,λ i H x H'=>H'=H/\∃c,z.cps[i]?=AC c/\x=.str ⟨#[c]⟩,λ i _=>i=z.cps.u,)
def HL{K:Da}(z:Str)(it:δ)(n:String)(hn:["enumerate","zip","dict_itemiterator","dict_reverseitemiterator","odict_iterator","itertools.zip_longest","itertools.pairwise"].contains n=AT)(t:Tok)
 (W:∀A,A.handled=At->Walks P w A it [it] [it] z.cps.size (SignAt z) (λ i h=>h.IsStrIter it n z t i)) (self:∀A i s Q E,s.heap.IsStrIter it n z t i->Q (.ref it) s->Ev (model P w) A (pyIter<|.ref it) Q E s) :
 Turn P w K tg (Its z) [it] it (λ i h=>h.IsStrIter it n z t i) where
 mem:=by simp
 obj:=λ i h st b hb=>by
  let e:b=it:=by simpa using hb
  subst e;let(o,e,c,d):=st;show⟨o,e,λ v z=>by rw[d]at z;ext z⟩
 keep:=λ i h h' st k=>by let(o,e,c,d):=st;show(o,k it ∅ o e,c,d,)
 item:=by intro X hP hw hK hc i B s O H E I hf st hg;subst hP hw hK;let(f0,f1,f2,f3,f4,f5):=hf it ∅;show(W X.A<|I.ok.hd hc).item i s _ _ hg st λ v h' tk hv zk kk=>?_;let(c,u,_A,rfl):=hv;let I1:Inv X B O H {s with heap:=h',toks:=tk}:=I.turned (λ b o hb e=>kk b o (by calc hb) e) f0 f1 f3 f4 f5;let(o,e,c',d):=id zk;show(_,rfl,Ap e c' d hn ⟨.str ⟨#[c]⟩,H,I1,⟨u,rfl⟩,⟨rfl,c,_A,rfl⟩,zk,λ b hb=>(hf b hb).1⟩,)
 done:=by intro X hP hw hK hc i B s O H E I hf st hg;subst hP hw hK;let(f0,f1,f2,f3,f4,f5):=hf it ∅;let hg':=hg;subst hg';show(W X.A<|I.ok.hd hc).done s _ _ st λ h' tk kk=>(rfl,I.turned (λ b o hb e=>kk b o (by calc hb) e) f0 f1 f3 f4 f5,)
 self:=self
def Og{K:Da}(cs:U Nat):E_ K (Its ⟨cs.q⟩) S (cs.map λ c=>.str [c]) where
 go:=λ i d H1 s hi=>by change i<cs.q.u;let(h1,_):=A02.mp hi;simpa using h1
 Bh:=λ i d H1 H2 x s hi y=>by
  let(e,c,hc,rfl):=y;let uj:cs[i]?=AC c:=by simpa using hc
  rw[A06,uj]at hi;ext hi;subst e;show(az.refl _,j8 ,)
 stop:=λ H1 s=>by change(cs.map λ c=>Z.D.str [c]).length=cs.q.u;simp
def Ic(I:Inv X B O H s)(rv:RelV v u)(hd:bH X.K H d v)(hi:Z.jc d=.ok ds)
 (hS:∀H1,S H1->gm H H1) (hL:∀es q vs,d=.lst es->v=.ref q->iY X.K H q vs->∀H1,S H1->iY X.K H1 q vs)
 (k:∀J,E_ X.K J S ds->R J H):Ev (model X.prog X.w) X.A (pyIter u) (_Z X B O tg R) E s:=by
 unfold Z.jc at hi;split at hi
 .ext hi;let(q,vs,rfl,hq,t):=hd.tup;ext rv;let(a8,r',pl,hz):=I.tuple hq;show B14 (pl) ?_;show(s.t,[s.t],_,_,H,rfl,I.kept λ b o e=>A03 _ e,BD q _,(_,A17 _ rfl,rfl,rfl,),λ b hb=>?_,k _<|(Of hq t).imp hS,);let e:b=s.t:=by simpa using hb
  subst e;show I.uP (P3 _)<|I.bO.fresh<|P3 _
 .ext hi;let(q,vs,rfl,hq,t):=hd.lst;ext rv;let(a8,r',pl,hz):=I.list hq;show B15 pl.isList ?_;show(s.t,[s.t],_,_,H,rfl,I.kept λ b o e=>A03 _ e,Fy q _,(_,A17 _ rfl,rfl,rfl,),λ b hb=>?_,
   k _<|Oh (λ H1 s1=>hL _ q vs rfl rfl hq H1 s1) (λ H1 s1=>t.ups<|hS H1 s1) t,)
  let e:b=s.t:=by simpa using hb
  subst e;show I.uP (P3 _)<|I.bO.fresh<|P3 _
 .ext hi;rename_i cs;rw[hd.str]at rv;let(t,rfl):=rv;let fin:∀n (hn:["enumerate","zip","dict_itemiterator","dict_reverseitemiterator","odict_iterator","itertools.zip_longest","itertools.pairwise"].contains n=AT)
   (W:∀A,A.handled=At->Walks X.prog X.w A s.heap.objs.size [s.t] [s.t] (⟨cs.q⟩:Str).cps.size (SignAt ⟨cs.q⟩) (λ i h=>h.IsStrIter s.heap.objs.size n ⟨cs.q⟩ t i))
   (self:∀A i s' Q E,s'.heap.IsStrIter s.heap.objs.size n ⟨cs.q⟩ t i->Q (.ref s.t) s'->Ev (model X.prog X.w) A (pyIter<|.ref s.t) Q E s'),
   _Z X B O tg R (.ref s.t) {s with heap:=s.heap.push {cls:=.type n,data:=.fields #[.str ⟨cs.q⟩ t,.int 0 0]}}:=by
   intro n hn W self;show(s.t,[s.t],_,_,H,rfl,I.kept λ b o e=>A03 _ e,HL ⟨cs.q⟩ _ n hn t W self,(_,A17 _ rfl,rfl,rfl,),λ b hb=>?_,k _<|Og cs,);let e:b=s.t:=by simpa using hb
   subst e;show I.uP (P3 _)<|I.bO.fresh<|P3 _
  cases ha:(⟨cs.q⟩:Str).cps.all (· < 128)
  .exact wpAny_pyIter_wide ha<|fin "str_iterator" ∅ (λ A' hA=>Walks.strWide hA _ _ t) λ _ _ _ _ _ st hQ=>wpAny_pyIter_striter_wide st hQ
  .exact wpAny_pyIter_ascii ha<|fin "str_ascii_iterator" ∅ (λ A' hA=>Walks.strAscii hA _ _ t) λ _ _ _ _ _ st hQ=>wpAny_pyIter_striter_ascii st hQ
 .ext hi
def ZQ.KZ(ha:ZQ.QW X a fa):ZQ.QI X tg a (Z.c5 fa):=⟨by intro B s O H R I w;let(Y,ds,r,e,k):=w;let(d,ea,e):=ac e;show b_ (ha.p B s O H (λ v H1=>az H H1/\bH X.K H1 d v) I ⟨Y,d,r,ea,λ v H1 s1 d1=>(s1,d1,)⟩) ?_;rintro u s1 ⟨v,H1,I1,rv,sm,hd⟩;show Ic I1 rv hd e (λ _ q=>i_ q) (λ _ _ _ _ _ hq H2 s2=>s2.seq hq) λ J z=>k J H1 sm z⟩
def ZQ.Ur(ha:ZQ.QE X a fa):ZQ.QJ X tg a (Z.c5 fa):=⟨by intro B s O H R I w;let(Y,ds,r,e,k):=w;let(d,ea,e):=ac e;show b_ (ha.p B s O H (λ v H1=>az H H1/\Den X.K H1 d v) I ⟨Y,d,r,ea,λ v H1 s1 d1=>(s1,d1,)⟩) ?_;rintro u s1 ⟨v,H1,I1,rv,sm,hd⟩;show Ic I1 rv (.inl hd) e (λ _ q=>q) (λ es q vs e1 e2 hq H2 s2=>?_) λ J z=>k J H1 sm z;subst e1;erw[Den]at hd;let(q',vs',e3,hz,_):=hd;rw[e2]at e3;ext e3;rw[I1.oJ hq hz.sq];show(hz.mono s2).sq⟩
def ia(H0:Hp)(O:St)(Y:Z.Env):Prop:=(∀(i j:Nat)(ks ls:Z.DK)(a:δ),Y[i]?=AC (AC<|.dc ks)->Y[j]?=AC (AC<|.dc ls)->O[i]?=AC (AC<|.ref a)->O[j]?=AC (AC<|.ref a)->i=j) /\
 ∀(i:Nat)(ks:Z.DK)(q:δ),Y[i]?=AC (AC<|.dc ks)->O[i]?=AC (AC<|.ref q)->H0 q=At
def ia.non(h:∀(i:Nat)(ks:Z.DK),Y[i]?≠AC (AC<|.dc ks)):ia H0 O Y:=(λ i _ ks _ _ e=>absurd e<|h i ks,λ i ks _ e=>absurd e<|h i ks,)
structure RS(K:Da)(H0 H:Hp)(O:St)(Y:Z.Env):Prop where
 same:az H0 H
 re:RE K H O Y
 fresh:∀(i:Nat)(xs:List Z.D)(q:Addr),Y[i]?=AC (AC<|.own xs)->O[i]?=AC (AC<|.ref q)->H0 q=At
 mj:∀(i:Nat)(d:Z.D),Y[i]?=AC (AC<|.bor d)->∃v,O[i]?=AC (AC v)/\Fb K H0 d v
 v?:ia H0 O Y
def VA(K:Da)(H0 H:Hp)(D:Ends):Z.Fl->Prop
|.nx Y'=>∀O' H',gm H H'->RS K H0 H' O' Y'->D.nx O' H'
|.rt d=>∀v H',az H0 H'->Den K H' d v->D.rt v H'
|.bk Y'=>∀O' H',gm H H'->RS K H0 H' O' Y'->D.bk O' H'
|.ct Y'=>∀O' H',gm H H'->RS K H0 H' O' Y'->D.ct O' H'
def tS(K:Da)(H0:Hp)(g:Z.SF):TS:=λ D O H=>∃Y fl,RS K H0 H O Y/\g Y=.ok fl/\VA K H0 H D fl
abbrev DS(X:Cx)(H0:Hp)(st:η)(g:Z.SF):Prop:=PS X st<|tS X.K H0 g
structure ZQ.QS(X:Cx)(H0:Hp)(st:Stmt)(g:Z.SF):Prop where p:DS X H0 st g
abbrev L9(X:Cx)(H0:Hp)(st:U η)(g:Z.SF):Prop:=pq X st<|tS X.K H0 g
structure ZQ.va(X:Cx)(H0:Hp)(st:List Stmt)(g:Z.SF):Prop where p:L9 X H0 st g
def PS.imp{st:η}(h:PS X st t)(k:∀D O H,t' D O H->t D O H):PS X st t':=λ B s O H D I w=>h B s O H D I<|k D O H w
def pq.imp{st:U η}(h:pq X st t)(k:∀D O H,t' D O H->t D O H):pq X st t':=λ B s O H D I w=>h B s O H D I<|k D O H w
def RS.up{K:Da}(h:RS K H0 H O Y)(e:az H H'):RS K H0 H' O Y:=(h.same.trans e,h.re.up e,h.fresh,h.mj,h.v?,)
def VA.up{K:Da}(h:VA K H0 H D fl)(e:gm H H1):VA K H0 H1 D fl:=by
 cases fl with
 |nx Y'=>show λ O' H' s r=>h O' H' (e.trans s) r
 |rt d=>show h
 |bk Y'=>show λ O' H' s r=>h O' H' (e.trans s) r
 |ct Y'=>show λ O' H' s r=>h O' H' (e.trans s) r
def aB{α:Type}{l:U _}{x:ε α}{y:α}(h:(l.set i x)[j]?=AC (AC y)):(i=j/\i<l.n/\x=AC y)\/(i≠j/\l[j]?=AC (AC y)):=by
 by_cases nQ:i=j
 .subst nQ;by_cases hl:i<l.n
  .rw[A39 hl]at h;show .inl ⟨rfl,hl,f8 h⟩
  .rw[B16 (by calc hl)]at h;ext h
 .rw[A20 nQ]at h;show .inr ⟨nQ,h⟩
def ia.set(h:ia H0 O Y)(n:∀ks,l≠.dc ks):ia H0 (O.set i<|some v) (Y.set i<|some l):=by
 let get:∀(j:Nat) ks,(Y.set i _)[j]?=AC _->Y[j]?=AC _/\(O.set i<|some v)[j]?=O[j]?:=λ j ks e=>by
  rcases aB e with⟨_,_,e⟩|⟨hj,e⟩
  .exact absurd (f8 e)<|n ks
  .exact⟨e,A20 hj⟩
 show(λ j k ks ls a e1 e2 e3 e4=>h.1 j k ks ls a (get j ks e1).1 (get k ls e2).1 (by rw[<-(get j ks e1).2];show e3) (by rw[<-(get k ls e2).2];show e4),λ j ks q e1 e2=>h.2 j ks q (get j ks e1).1 (by rw[<-(get j ks e1).2];show e2),)
def ia.Wh(h:ia H0 O Y)(n:∀ks,l≠.dc ks):ia H0 O (Y.set i<|some l):=by
 let get:∀(j:Nat) ks,(Y.set i _)[j]?=AC _->Y[j]?=AC _:=λ j ks e=>by
  rcases aB e with⟨_,_,e⟩|⟨hj,e⟩
  .exact absurd (f8 e)<|n ks
  .exact e
 show(λ j k ks ls a e1 e2 e3 e4=>h.1 j k ks ls a (get j ks e1) (get k ls e2) e3 e4,λ j ks q e1 e2=>h.2 j ks q (get j ks e1) e2,)
def RS.uC{K:FM}(h:RS K H0 H O Y)(hd:Den K H d v):RS K H0 H (O.set i<|some v) (Y.set i<|some<|.val d):=by
 let getσ:∀j,i≠j->(O.set i<|some v)[j]?=O[j]?:=λ j hj=>A20 hj;show⟨h.same,⟨by simp[h.re.len],λ j l e=>?_,λ j k xs ys q e1 e2 e3 e4=>?_⟩,λ j xs q e1 e2=>?_,λ j xs e1=>?_,h.v?.set λ _ z=>nomatch z⟩
 .rcases aB e with⟨rfl,hl,e⟩|⟨hj,e⟩
  .ext e;show(v,A39 (by rw[<-h.re.len];show hl),hd,)
  .rw[getσ j hj];show h.re.get j l e
 .rcases aB e1 with⟨_,_,e⟩|⟨hj,e1⟩
  .ext e
  .rcases aB e2 with⟨_,_,e⟩|⟨hk,e2⟩
   .ext e
   .rw[getσ j hj]at e3;rw[getσ k hk]at e4;show h.re.sep j k xs ys q e1 e2 e3 e4
 .rcases aB e1 with⟨_,_,e⟩|⟨hj,e1⟩
  .ext e
  .rw[getσ j hj]at e2;show h.fresh j xs q e1 e2
 .rcases aB e1 with⟨_,_,e⟩|⟨hj,e1⟩
  .ext e
  .rw[getσ j hj];show h.mj j xs e1
def RS.Ia{K:FM}(h:RS K H0 H O Y)(hq:H q=AC (.lst vs))(t:au K H ds vs)(h0:H0 q=At)
 (nq:∀j xs,j≠i->Y[j]?=AC (AC<|.own xs)->O[j]?≠AC (AC<|.ref q)):RS K H0 H (O.set i<|some<|.ref q) (Y.set i<|some<|.own ds):=by
 let getσ:∀j,i≠j->(O.set i<|some<|V.ref q)[j]?=O[j]?:=λ j hj=>A20 hj;show⟨h.same,⟨by simp[h.re.len],λ j l e=>?_,λ j k xs ys p e1 e2 e3 e4=>?_⟩,λ j xs p e1 e2=>?_,λ j xs e1=>?_,h.v?.set λ _ z=>nomatch z⟩
 .rcases aB e with⟨rfl,hl,e⟩|⟨hj,e⟩
  .ext e;show(_,A39 (by rw[<-h.re.len];show hl),q,vs,rfl,hq,t,)
  .rw[getσ j hj];show h.re.get j l e
 .rcases aB e1 with⟨rfl,hl,_⟩|⟨hj,e1⟩
  .rcases aB e2 with⟨rfl,_,_⟩|⟨hk,e2⟩
   .rfl
   .rw[A39 (by rw[<-h.re.len];show hl)]at e3;ext e3;rw[getσ k hk]at e4;show absurd e4<|nq k ys (A10 hk) e2
  .rcases aB e2 with⟨rfl,hl,_⟩|⟨hk,e2⟩
   .rw[A39 (by rw[<-h.re.len];show hl)]at e4;ext e4;rw[getσ j hj]at e3;show absurd e3<|nq j xs (A10 hj) e1
   .rw[getσ j hj]at e3;rw[getσ k hk]at e4;show h.re.sep j k xs ys p e1 e2 e3 e4
 .rcases aB e1 with⟨rfl,hl,_⟩|⟨hj,e1⟩
  .rw[A39 (by rw[<-h.re.len];show hl)]at e2;ext e2;show h0
  .rw[getσ j hj]at e2;show h.fresh j xs p e1 e2
 .rcases aB e1 with⟨_,_,e⟩|⟨hj,e1⟩
  .ext e
  .rw[getσ j hj];show h.mj j xs e1
def RS.chg{K:FM}(h:RS K H0 H O Y)(ei:Y[i]?=AC (AC<|.own xs))(si:O[i]?=AC (AC<|.ref q))(hq:H q=AC (.lst us))(t:au K H ds vs):
 RS K H0 (upd H q<|.lst vs) O (Y.set i<|some<|.own ds):=by
 let st:gm H (upd H q<|.lst vs):=gN hq;let h0:=h.fresh i xs q ei si;let hs:az H0 (upd H q<|.lst vs):=λ b u e=>by rw[av<|aY e h0];show h.same b u e
 show⟨hs,⟨by simp[h.re.len],λ j l e=>?_,λ j k kz ys p e1 e2 e3 e4=>?_⟩,λ j kz p e1 e2=>?_,λ j kz e1=>?_,h.v?.Wh λ _ z=>nomatch z⟩
 .rcases aB e with⟨rfl,hl,e⟩|⟨hj,e⟩
  .ext e;show(.ref q,si,q,vs,rfl,aE,t.ups st,)
  .let(v,e1,r):=h.re.get j l e;show(v,e1,?_,);cases l with
   |val d=>show Den.ups (r) st
   |own zs=>
    let(q',ws,rfl,fQ,t'):=r;let:q'≠q:=by rintro rfl;show hj<|h.re.sep i j xs zs q' ei e si e1
    show⟨q',ws,rfl,by rw[av this];show fQ,t'.ups st⟩
   |bor zs=>let(v',e2,r2):=h.mj j zs e;rw[e1]at e2;ext e2;show r2.re r h.same hs st
   |dc ks=>
    let(q',as,rfl,fQ,t'):=r;let:q'≠q:=by rintro rfl;rw[hq]at fQ;show ET (f8 fQ).symm
    show⟨q',as,rfl,by rw[av this];show fQ,t'.ups st⟩
   |Ko ks=>let(q',o',as,rfl,fQ,t'):=r;show(q',o',as,rfl,st.dW _ _ _ fQ,t'.ups st,)
   |Tj ps=>let(q',o',rfl,fQ):=r;show(q',o',rfl,st.dW _ _ _ fQ,)
   |exc c=>let(q',o',u',C',rfl,fQ,r1,r2,r3):=r;show(q',o',u',C',rfl,st.dW _ _ _ fQ,r1,r2,r3.ups st,)
 .let old:∀{j:Nat}{zs},(Y.set i<|some<|Z.L.own ds)[j]?=AC (AC<|.own zs)->∃zs',Y[j]?=AC (AC<|.own zs'):=λ {j zs} e=>by
   rcases aB e with⟨rfl,_,_⟩|⟨_,e⟩
   .exact⟨xs,ei⟩
   .exact⟨zs,e⟩
  let(_,o1):=old e1;let(_,o2):=old e2;show h.re.sep j k _ _ p o1 o2 e3 e4
 .rcases aB e1 with⟨rfl,_,_⟩|⟨_,e1⟩
  .exact h.fresh i xs p ei e2
  .exact h.fresh j kz p e1 e2
 .rcases aB e1 with⟨_,_,e⟩|⟨_,e1⟩
  .ext e
  .exact h.mj j kz e1
def RS.dW{K:FM}{H0 H:Hp}{O:St}{Y:Z.Env}{i:Nat}{xs:U Z.D}{q:δ}{us:U V}{o:μ}(h:RS K H0 H O Y)(ei:Y[i]?=AC (AC<|.own xs))(si:O[i]?=AC (AC<|.ref q))(hq:H q=AC (.lst us))(t:au K H xs us):
 RS K H0 (upd H q<|.dW o<|.lst us) O (Y.set i<|some<|.val<|.lst xs):=by
 let st:gm H (upd H q<|.dW o<|.lst us):=gN hq;let h0:=h.fresh i xs q ei si;let hs:az H0 (upd H q<|.dW o<|.lst us):=λ b u e=>by rw[av<|aY e h0];show h.same b u e
 show⟨hs,⟨by simp[h.re.len],λ j l e=>?_,λ j k kz ys p e1 e2 e3 e4=>?_⟩,λ j kz p e1 e2=>?_,λ j kz e1=>?_,h.v?.Wh λ _ z=>nomatch z⟩
 .rcases aB e with⟨rfl,hl,e⟩|⟨hj,e⟩
  .ext e;show(_,si,yd (.inl ⟨o,aE⟩)<|t.ups st,)
  .let(v,e1,r):=h.re.get j l e;show(v,e1,?_,);cases l with
   |val d=>show Den.ups (r) st
   |own zs=>
    let(q',ws,rfl,fQ,t'):=r;let:q'≠q:=by rintro rfl;show hj<|h.re.sep i j xs zs q' ei e si e1
    show⟨q',ws,rfl,by rw[av this];show fQ,t'.ups st⟩
   |bor zs=>let(v',e2,r2):=h.mj j zs e;rw[e1]at e2;ext e2;show r2.re r h.same hs st
   |dc ks=>
    let(q',as,rfl,fQ,t'):=r;let:q'≠q:=by rintro rfl;rw[hq]at fQ;show ET (f8 fQ).symm
    show⟨q',as,rfl,by rw[av this];show fQ,t'.ups st⟩
   |Ko ks=>let(q',o',as,rfl,fQ,t'):=r;show(q',o',as,rfl,st.dW _ _ _ fQ,t'.ups st,)
   |Tj ps=>let(q',o',rfl,fQ):=r;show(q',o',rfl,st.dW _ _ _ fQ,)
   |exc c=>let(q',o',u',C',rfl,fQ,r1,r2,r3):=r;show(q',o',u',C',rfl,st.dW _ _ _ fQ,r1,r2,r3.ups st,)
 .rcases aB e1 with⟨_,_,e⟩|⟨_,e1⟩
  .ext e
  .rcases aB e2 with⟨_,_,e⟩|⟨_,e2⟩
   .ext e
   .exact h.re.sep j k _ _ p e1 e2 e3 e4
 .rcases aB e1 with⟨_,_,e⟩|⟨_,e1⟩
  .ext e
  .exact h.fresh j kz p e1 e2
 .rcases aB e1 with⟨_,_,e⟩|⟨_,e1⟩
  .ext e
  .exact h.mj j kz e1
variable{H0:Hp}{st:η}{yv:U η}{g u:Z.SF}
def ZQ.lR:ZQ.va X H0 [] Z.aR:=⟨pq.imp DC <|by rintro D O H ⟨Y,fl,rs,e,k⟩;ext e;show k O H (gm.refl H) rs⟩
def ZQ.gU(h:ZQ.QS X H0 st g):ZQ.va X H0 [st] g:=⟨oq h.p⟩
def ZQ.cH(h1:ZQ.QS X H0 st g)(h2:ZQ.va X H0 yv u):ZQ.va X H0 (st::yv) (Z.aD g u):=⟨pq.imp (iE h1.p h2.p) <|by
 rintro D O H ⟨Y,fl,rs,e,k⟩;let(f1,e1,e):=ac e;show(Y,f1,rs,e1,?_,);cases f1 with
 |nx Y'=>show λ O' H' s r=>(Y',fl,r,e,k.up s,)
 |rt d=>ext e;show k
 |bk Y'=>ext e;show k
 |ct Y'=>ext e;show k⟩
def ZQ.iN(h:ZQ.QE X a fa):ZQ.QS X H0 (.Return (AC a) pos) (Z.aJ fa):=⟨PS.imp (RK h.p) <|by rintro D O H ⟨Y,fl,rs,e,k⟩;let(d,ea,e):=ac e;ext e;show(Y,d,rs.re,ea,λ v H' s dv=>k v H' (rs.same.trans s) dv,)⟩
def ZQ.v3(hc:ZQ.QT X c t)(h1:ZQ.va X H0 b1 g)(h2:ZQ.va X H0 b2 u):ZQ.QS X H0 (.If c b1 b2 pos) (Z.dN t g u):=⟨PS.imp (IC hc.p h1.p h2.p) <|by
 rintro D O H ⟨Y,fl,rs,e,k⟩;let(x,ea,e):=ac e;show(Y,x,rs.re,ea,λ H1 s1=>?_,);cases x with
 |true=>erw[A35]at e ⊢;show(Y,fl,rs.up s1,e,k.up<|i_ s1,)
 |false=>erw[A61]at e ⊢;show(Y,fl,rs.up s1,e,k.up<|i_ s1,)⟩
def ZQ.iq(he:ZQ.QE X a fa)(hs:Sn a x pos' pos X.J:=by rfl)(hf:Fl X x:=by trivial)(hN:X.N.Nodup:=by first|assumption|show B17 (by kernel_rfl))(hi:X.N[i]?=AC x:=by rfl)(hx:Loc X.env.scope x:=by show lo rfl):ZQ.QS X H0 (.Assign [.Name x pos'] a pos) (Z.aN i fa):=⟨PS.imp (pM hN hi hx he.p hs hf) <|by rintro D O H ⟨Y,fl,rs,e,k⟩;let(d,ea,e):=ac e;ext e;show(Y,d,rs.re,ea,λ v H' s dv=>k _ H' (i_ s)<|(rs.up s).uC dv,)⟩
def RS.noq{K:Da}(h:RS K H1 H O Y)(hq:H q=At)(j:Nat)(xs:U Z.D)(e:Y[j]?=AC (AC<|.own xs)):O[j]?≠AC (AC<|.ref q):=λ z=>by let(v,e1,q',vs,rfl,h2,_):=h.re.get j _ e;rw[z]at e1;ext e1;rw[hq]at h2;ext h2
def ZQ.σ1(he:ZQ.QL X a l)(hs:Sn a x pos' pos X.J:=by rfl)(hf:Fl X x:=by trivial)(hN:X.N.Nodup:=by first|assumption|show B17 (by kernel_rfl))(hi:X.N[i]?=AC x:=by rfl)(hx:Loc X.env.scope x:=by show lo rfl):ZQ.QS X H0 (.Assign [.Name x pos'] a pos) (Z.jv i l):=⟨PS.imp (pM hN hi hx he.p hs hf) <|by rintro D O H ⟨Y,fl,rs,e,k⟩;let(d,ea,e):=ac e;ext e;show(Y,d,rs.re,ea,λ q vs H' s hn h1 t=>k _ H' (i_ s)<|(rs.up s).Ia h1 t (rs.same.free hn) λ j xs _ e=>?_,);show rs.noq hn j xs e⟩
def tG(K:Da)(H0:Hp)(g:Z.GF):TG:=λ v O H Q=>∃Y d Y',RS K H0 H O Y/\Den K H d v/\g d Y=.ok Y'/\∀O' H',az H H'->RS K H0 H' O' Y'->Q O' H'
def tGs(K:Da)(H0:Hp)(is:U Nat):U0:=λ vs O H Q=>∃Y ds Y',RS K H0 H O Y/\au K H ds vs/\Z.h9 is ds Y=.ok Y'/\∀O' H',az H H'->RS K H0 H' O' Y'->Q O' H'
abbrev DG(X:Cx)(H0:Hp)(tg:ι)(g:Z.GF):Prop:=PG X tg<|tG X.K H0 g
structure ZQ.QG(X:Cx)(H0:Hp)(tg:Expr)(g:Z.GF):Prop where p:DG X H0 tg g
abbrev DGs(X:Cx)(H0:Hp)(__:U ι)(is:U Nat):Prop:=Lu X __<|tGs X.K H0 is
structure ZQ.Zq(X:Cx)(H0:Hp)(__:List Expr)(is:List Nat):Prop where p:DGs X H0 __ is
def PG.imp(h:PG X tg t)(k:∀v O H Q,t' v O H Q->t v O H Q):PG X tg t':=λ B s O H v u Q I r w=>h B s O H v u Q I r<|k v O H Q w
def Lu.imp(h:Lu X es t)(k:∀v O H Q,t' v O H Q->t v O H Q):Lu X es t':=λ B s O H v u Q I r w=>h B s O H v u Q I r<|k v O H Q w
def ZQ.pd(hf:Fl X x:=by trivial)(hN:X.N.Nodup:=by first|assumption|show B17 (by kernel_rfl))(hi:X.N[i]?=AC x:=by rfl)(hx:Loc X.env.scope x:=by show lo rfl):ZQ.QG X H0 (.Name x pos) (Z.aH i):=
 ⟨PG.imp (DO hN hi hx hf) <|by rintro v O H Q ⟨Y,d,Y',rs,hd,e,k⟩;ext e;show k _ H (az.refl H)<|rs.uC hd⟩
def ZQ.yc:ZQ.Zq X H0 [] []:=⟨Lu.imp M7 <|by
 rintro vs O H Q ⟨Y,ds,Y',rs,hd,e,k⟩;cases ds with
 |nil=>erw[au]at hd;ext e;show(hd,k O H (az.refl H) rs,)
 |cons d ds=>ext e⟩
def ZQ.jI(h2:ZQ.Zq X H0 es is)(hs:(assignEach ((.Name x pos)::es) X.J).map (·.2)=assign (.Name x pos) X.J::(assignEach es X.J).map (·.2):=by rfl)(hf:Fl X x:=by trivial)(hN:X.N.Nodup:=by first|assumption|show B17 (by kernel_rfl))(hi:X.N[i]?=AC x:=by rfl)(hx:Loc X.env.scope x:=by show lo rfl):ZQ.Zq X H0 (.Name x pos::es) (i::is):=
 ⟨have h2:=h2.p;Lu.imp (II (DO hN hi hx hf) h2 hs) <|by
  rintro vs O H Q ⟨Y,ds,Y',rs,hd,e,k⟩;cases ds with
  |nil=>ext e
  |cons d ds=>erw[au]at hd;let(v,r,rfl,h1,h2):=hd;show(v,r,rfl,_,ds,Y',rs.uC h1,h2,e,k,)⟩
def ZQ.CB(hc:X.calm=Ch)(h:ZQ.Zq X H0 es is)(hl:is.n=n)(hn:(assignEach es X.J).length=n:=by rfl)(oO:(assignEach es X.J).findIdx? (·.1)=At:=by rfl):ZQ.QG X H0 (.Tuple es x1 pos) (Z.cJ is):=
 ⟨PG.imp (IJ hc h.p hn oO) <|by
  rintro v O H Q ⟨Y,d,Y',rs,hd,e,k⟩;unfold Z.cJ at e;split at e
  .rename_i ds;let(q,vs,rfl,hq,t):=bH.tup (.inl hd);let ψ:∀is ds Y Y',Z.h9 is ds Y=.ok Y'->ds.n=is.n:=by
    intro is
    induction is with
    |nil=>intro ds Y Y' e;cases ds with
     |nil=>rfl
     |cons d ds=>ext e
    |cons i is ih=>intro ds Y Y' e;cases ds with
     |nil=>ext e
     |cons d ds=>simp[ih ds _ _ e]
   show⟨q,vs,rfl,hq,by rw[t.n,ψ is ds Y Y' e];show hl,Y,ds,Y',rs,t,e,k⟩
  .ext e⟩
def ZQ.Ui{g:Z.GF}(he:ZQ.QE X a fa)(hg:ZQ.QG X H0 tg g)(hs:swapsWithSole [tg] a pos.line X.J=pure AT:=by rfl)(hw:swappedStores [tg] a X.J=pure At:=by rfl)
 (h1:(assignEach [tg] X.J).map (·.2)=[assign tg X.J]:=by rfl):ZQ.QS X H0 (.Assign [tg] a pos) (Z.RD fa g):=⟨PS.imp (IE he.p hg.p hs hw h1) <|by
 rintro D O H ⟨Y,fl,rs,e,k⟩;let(d,ea,e):=ac e;let(Y',eb,e):=ac e;ext e;show(Y,d,rs.re,ea,λ v H' s dv=>(Y,d,Y',rs.up s,dv,eb,λ O2 H2 s2 r2=>k O2 H2 ((i_ s).trans<|i_ s2) r2,),)⟩
def ZQ.EK(hi:ZQ.QJ X tg iter it)(hg:ZQ.QG X H0 tg G)(hb:ZQ.va X H0 body g)(hs:Fi iter X.J:=by intro _;rfl)(hp:PassesOwn (model X.prog X.w) X.A X.env X.xe:=by show B67)(hc:X.calm=Ch:=by rfl):ZQ.QS X H0 (.For tg iter body [] pos) (Z.eS it G g):=⟨PS.imp (ID hp hc hi.p hg.p hb.p hs) <|by
 rintro D O H ⟨Y,fl,rs,e,k⟩;let(ds,ei,e):=ac e;show(Y,ds,rs.re,ei,λ J H1 s1 z=>?_,);show(λ i m O' H'=>m=ds.n-i/\i<=ds.n/\∃Y',RS X.K H0 H' O' Y'/\gm H1 H'/\Z.bM G g (ds.drop i) Y'=.ok fl,⟨ds.n,by simp,A57 _,Y,rs.up s1,gm.refl H1,by calc e⟩,?_,);rintro i m O2 H2 ⟨rfl,ui,Y2,r2,s2,e2⟩;by_cases jO:i<ds.n
 .obtain⟨d,hd⟩:∃d,ds[i]?=AC d:=⟨ds[i],by simp[jO]⟩
  let tj:ds.drop i=d::ds.drop (i+1):=by
   rw[A99 jO];let:ds[i]=d:=by let:=A04 jO;rw[this]at hd;show f8 hd
   rw[this]
  rw[tj]at e2;let(Y3,eg,e2):=ac e2;let(f3,eb,e2):=ac e2;show .inr ⟨z.go i d H2 s2 hd,λ O' H'=>∃Y',RS X.K H0 H' O' Y'/\gm H1 H'/\Z.bM G g _ Y'=.ok fl,λ O' H' w=>⟨_,by lia,rfl,jO,w⟩,λ x H3 y=>?_⟩;let(sy,dx):=z.Bh i d H2 H3 x s2 hd y;replace s2:=s2.trans<|i_ sy;show(Y2,d,Y3,r2.up sy,dx,eg,λ σ4 H4 s4' r4=>(Y3,f3,r4,eb,?_,),);let s4:=i_ s4';cases f3 with
  |nx Y5=>show λ O5 H5 s5 r5=>(Y5,r5,(s2.trans s4).trans s5,e2,)
  |ct Y5=>show λ O5 H5 s5 r5=>(Y5,r5,(s2.trans s4).trans s5,e2,)
  |bk Y5=>ext e2;show λ O5 H5 s5 r5=>k O5 H5 ((i_ s1).trans<|(s2.trans s4).trans s5) r5
  |rt d5=>ext e2;show k
 .let:i=ds.n:=by lia
  subst this;rw[B68]at e2;ext e2;show .inl ⟨z.stop H2 s2,k O2 H2 ((i_ s1).trans s2) r2⟩⟩
def ZQ.OZ(h:ZQ.va X H0 yv g):ZQ.va X H0 yv (Z.oh i g):=⟨by
 let h:=h.p;intro B s O H D I w;let(Y,fl,rs,e,k):=w;unfold Z.oh Z.dW at e;split at e
 .rename_i xs ei;let(v,si,q,us,rfl,hq,t):=rs.re.get i _ ei;let(o,I2):=ni I hq;show h B s O _ D I2 ⟨_,fl,rs.dW ei si hq t,e,k.up<|gN hq⟩
 .exact h B s O H D I ⟨Y,fl,rs,e,k⟩⟩
theorem GQ(ho:PE X o (jS i))(ha:DE X a fa)(hs:swapsWith (.Call (.Attribute o "append" p1) [a] [] p2) At pos.line X.J=pure AT:=by rfl)(oP:Se a [] X.J:=by rfl)
 (hbm:PE X (.Call (.Attribute o "append" p1) [a] [] p2) (tBM X.K "list" Dz (jS i)<|HW (tZ X.K fa) My)) :
 DS X H0 (.Expr (.Call (.Attribute o "append" p1) [a] [] p2) pos) (Z.b9 i fa):=PS.imp (oy hbm hs) <| by
 rintro D O H ⟨Y,fl,rs,e,k⟩;let(d,ea,e):=ac e;split at e
 .rename_i xs ei;unfold Z.guard at e;split at e
  .rename_i hl;ext e;let(v,si,q,us,rfl,hq,t):=rs.re.get i _ ei;show(_,si,.inl ⟨rfl,us,iY.of hq⟩,Y,d,rs.re,ea,λ v' H1 s1 dv=>?_,);let Tw:=s1 _ _ hq;show⟨q,us,v',rfl,rfl,Tw,by rw[t.n,A32];show hl,?_⟩;show k O _ ((i_ s1).trans<|gN Tw)<|(rs.up s1).chg ei si Tw<|(t.up s1).append<|au.cons dv au.nil
  .ext e
 .ext e
end
def ny:∀(names:U (Str×NameKind)) acc,(∀y∈names,y.2=.free->∃c,env.cells.lookup y.1=AC c)->(∀x c,acc.lookup x=AC c->env.cells.lookup x=AC c) ->
 ∃cl,(forIn names acc λ(x)(cs:U (Str×δ))=>(if(x.2==NameKind.free)=Ch then do let c ←cellOf env x.1;pure (GM<|(x.1,c)::cs)else pure (GM cs):Sem (ForInStep<|U<|Str×δ)))=pure cl /\
  (∀x c,cl.lookup x=AC c->env.cells.lookup x=AC c)/\(∀x,(acc.lookup x).isSome=Ch->(cl.lookup x).isSome=Ch)/\(∀y∈names,y.2=.free->(cl.lookup y.1).isSome=Ch)
|[],acc,_,ha=>⟨acc,rfl,ha,λ _ h=>h,λ y hy=>by ext hy⟩
|(n,k)::r,acc,hn,ha=>by
 by_cases hk:k=.free
 .subst hk;let(c,hc):=hn (n,.free) A13 rfl;let ha':∀x d,((n,c)::acc).lookup x=AC d->env.cells.lookup x=AC d:=λ x d e=>by
   rw[A62]at e;split at e
   .rename_i q;ext e;rw[A41.mp q];show hc
   .exact ha x d e
  let(cl,e,h1,h2,h3):=ny r ((n,c)::acc) (λ y hy=>hn y<|A09 _ hy) ha';let self:=h2 n (by rw[B37];rfl);show(cl,?_,h1,λ x hx=>h2 x ?_,λ y hy hf=>?_,)
  .rw[B38];erw[A60,A35];let:cellOf env n=pure c:=by unfold cellOf;rw[hc]
   rw[this];show e
  .rw[A62];split
   .rfl
   .exact hx
  .rcases A01.mp hy with rfl|hy
   .exact self
   .exact h3 y hy hf
 .let(cl,e,h1,h2,h3):=ny r acc (λ y hy=>hn y<|A09 _ hy) ha;let hb:(k==NameKind.free)=AT:=by simpa using hk
  show(cl,?_,h1,h2,λ y hy hf=>?_,)
  .rw[B38];erw[hb,A61,A67];show e
  .rcases A01.mp hy with rfl|hy
   .exact absurd hf hk
   .exact h3 y hy hf
def jl(hn:∀y∈scope.j,y.2=.free->∃c,env.cells.lookup y.1=AC c):
 ∃cl,closureFor scope env=pure cl/\(∀x c,cl.lookup x=AC c->env.cells.lookup x=AC c)/\(∀y∈scope.j,y.2=.free->(cl.lookup y.1).isSome=Ch):=by
 let(cl,e,h1,_,h3):=ny _ [] hn (λ x c e=>by ext e);show(cl,?_,h1,h3,);unfold closureFor
 first
  |show e
  |(erw[bind_pure];show e)
  |(rw[e];rfl)
def iH{env:Env}{x:Str}:∀(names:U _),(names.map λ(n,k)=>if(k == NameKind.free&&env.scope.kind == .function&&env.kindOf n == AC .cell)=Ch then(n,NameKind.cell)else(n,k)).lookup x=(names.lookup x).map λ k=>if(k == NameKind.free&&env.scope.kind == .function&&env.kindOf x == AC .cell)=Ch then NameKind.cell else k
|[]=>rfl
|(n,k)::r=>by
 let ih:=@iH env x r;change Fa x ((if(k==NameKind.free&&env.scope.kind==.function&&env.kindOf n==AC .cell)=Ch then(n,NameKind.cell)else(n,k))::_)=_;by_cases hx:x=n
 .subst hx;by_cases hc:(k==NameKind.free&&env.scope.kind==.function&&env.kindOf x==AC .cell)=Ch
  .rw[M2 hc,B37,B37,A68,M2 hc]
  .rw[W1 hc,B37,B37,A68,W1 hc]
 .let hb:(x==n)=AT:=by simpa using hx
  by_cases hc:(k==NameKind.free&&env.scope.kind==.function&&env.kindOf n==AC .cell)=Ch
  .rw[M2 hc,A62,A62,hb];show ih
  .rw[W1 hc,A62,A62,hb];show ih
abbrev kI(X:Cx)(N':U Str)(scope:ς)(cl:U (Str×δ))(C:δ)(fp:U δ)(s₂:θ)(H₂:Hp):Cx:=
 {prog:=X.prog,w:=X.w,K:=X.K,mg:=X.mg,base:=X.k,A:=X.A,N:=N',s₀:=s₂,H₀:=H₂,env:=compEnvC scope cl C X.J,outer:=X.stack,stack:=X.stack,ex:=fp,fn:=λ _=>AT,calm:=X.calm,pn:=[],xe:=λ _ _=>False}
structure um(N N':List Str)(n:Nat)(is:List Nat)(sc R6:Scope):Prop where
 kind:sc.kind=.function
 cell:∀y∈sc.j,y.2≠.cell
 loc:∀y∈sc.j,y.2=.local->sc.names.lookup y.1=AC .local
 free:∀y∈sc.j,y.2=.free->R6.names.lookup y.1=AC .cell\/R6.names.lookup y.1=AC .free
 len:N'.n=n+is.n
 cap:∀(j i:Nat),is[j]?=AC i->∃x,N'[n+j]?=AC x/\N[i]?=AC x/\sc.names.lookup x=AC .free
 own:∀(j:Nat),j<n->∃x,N'[j]?=AC x/\sc.names.lookup x=AC .local
section
variable{X:Cx}{tg e a b elt iter:ι}{ifs:U ι}{pos:Pos}{N':U Str}{n:Nat}{is:U Nat}{scope:ς}
def mU(O:St)(n:Nat)(is:U Nat):St:=Db n At++is.map λ i=>(O[i]?).join
def fJ(n:Nat)(is:U Nat)(Y:Z.Env)(i:Nat)(xs:U Z.D):(Db n At++Z.fg Y is:Z.Env)[i]?≠AC (AC<|.own xs):=by
 intro e;by_cases hi:i<n
 .rw[A23 (by calc hi),A53]at e;split at e<;>ext e
 .rw[A46 (by calc hi)]at e;unfold Z.fg at e;rw[A06]at e;cases q:is[i-(Db n<|none).length]? with
  |none=>rw[q]at e;ext e
  |some j=>rw[q]at e;let e':=f8 e;unfold Z.qH at e';split at e'<;>ext e'
def p9(n:Nat)(is:U Nat)(Y:Z.Env)(i:Nat)(ks:Z.DK):(Db n At++Z.fg Y is:Z.Env)[i]?≠AC (AC<|.dc ks):=by
 intro e;by_cases hi:i<n
 .rw[A23 (by calc hi),A53]at e;split at e<;>ext e
 .rw[A46 (by calc hi)]at e;unfold Z.fg at e;rw[A06]at e;cases q:is[i-(Db n<|none).length]? with
  |none=>rw[q]at e;ext e
  |some j=>rw[q]at e;let e':=f8 e;unfold Z.qH at e';split at e'<;>ext e'
def Iq{K:FM}(h:RE K H O Y)(s:az H H'):RS K H H' (mU O n is) (Db n At++Z.fg Y is):=by
 let key:∀(i:Nat) l,(Db n At++Z.fg Y is)[i]?=AC (AC l)->∃v,(mU O n is)[i]?=AC (AC v)/\RL K H l v:=?_;show(s,⟨by simp[mU,Z.fg],λ i l e=>let ⟨v,h1,h2⟩:=key i l e;⟨v,h1,h2.up s⟩,λ i j xs ys q e1=>absurd e1<|fJ n is Y i xs⟩,λ i xs q e1=>absurd e1<|fJ n is Y i xs,λ i xs e1=>let ⟨v,h1,h2⟩:=key i _ e1;⟨v,h1,i!.z h2⟩,ia.non<|p9 n is Y,);intro i l e;by_cases hi:i<n
 .rw[A23 (by calc hi),A53]at e;split at e<;>ext e
 .rw[A46 (by calc hi)]at e;unfold mU;rw[A46 (by calc hi)];erw[A81]at e ⊢;unfold Z.fg at e;rw[A06]at e ⊢;cases q:is[i-n]? with
  |none=>rw[q]at e;ext e
  |some j=>
   rw[q]at e;let e':=f8 e;unfold Z.qH at e';split at e'
   .rename_i d hd;ext e';let(v,h1,h2):=h.get j _ hd;show(v,?_,h2,);simp[h1]
   .rename_i d hd;ext e';let(v,h1,h2):=h.get j _ hd;show(v,?_,h2,);simp[h1]
   .rename_i d hd;ext e';let(v,h1,h2):=h.get j _ hd;show(v,?_,h2,);simp[h1]
   .rename_i xs hd;ext e';let(v,h1,a,vs,rfl,h3,h4):=h.get j _ hd;show(_,?_,.inl<|.inr ⟨xs,a,vs,rfl,rfl,h3,h4⟩,);simp[h1]
   .ext e'
def mi(I:Nat->θ->Prop)
 (turn:∀ n s,I n s->Ev (model prog w) A (pyNext it) (λ r s₁=>match r with
  |none=>R (.ok .next) s₁
  | some v=>Ev (model prog w) A (letOwnedTupleGo target it v) (λ _ s₁=>Ev (model prog w) A (assign target env v) (λ _ s₂=>
   Ev (model prog w) A (forIn ifs Ch λ c r=>if r=Ch then do let ok ←isTrue c env (eval c env);pure (GM ok)else pure (GM r)) (λ ok s₃=>
    if ok=Ch then Ev (model prog w) A (eval elt env) (λ x s₄=>Ev (model prog w) A (call (.builtin "list.append") [acc,x]) (λ _ s₅=>∃m,m<n/\I m s₅) (λ _ _=>False) s₄) (λ _ _=>False) s₃
    else ∃m,m<n/\I m s₃) (λ _ _=>False) s₂) (λ _ _=>False) s₁) (λ _ _=>False) s₁) (λ _ _=>False) s)
 (n:Nat) (h:I n s) :
 codeAny (model prog w) A (.compLoop (.ListComp elt [⟨target,iter,ifs,0⟩] scope pos) 0 it acc env) R s:=by
 show codeAny_loop rfl I (λ n s hI=>?_) n h;show wpAny_noted ?_;rw[compTurn_list];show T0<|B39<|T0<|A22 (turn n s hI) (λ r s₁ h₁=>?_) λ _ _ h'=>h'.elim;cases r with
 |none=>show v4 h₁
 |some v=>
  show T0<|A22 h₁ (λ _ s₁ h₁=>?_) λ _ _ h'=>h'.elim;show T0<|A22 h₁ (λ _ s₂ h₂=>T0<|A22 h₂ (λ ok s₃ h₃=>?_) λ _ _ h'=>h'.elim) λ _ _ h'=>h'.elim;cases ok with
  |false=>show v4 ⟨rfl,h₃⟩
  |true=>show T0<|T0<|A22 h₃ (λ x s₄ h₄=>T0<|A22 h₄ (λ _ s₅ h₅=>v4<|v4 ⟨rfl,h₅⟩) λ _ _ h'=>h'.elim) λ _ _ h'=>h'.elim
structure Off(X:Cx)(B:List (Addr×Obj))(H:Hp)(C:Addr):Prop where
 free:H C=At
 loc:C≠X.J.i
 new:X.s₀.t<=C
 cell:∀x c,X.env.cells.lookup x=AC c->c≠C
 pin:∀p∈X.pn++B,p.1≠C
def Off.inv(o:Off X B H C)(I:Inv X B O H s)(hs:IN C s.heap h'):Inv X B O H {s with heap:=h'}:=
 I.turned (λ b ob hb e=>(hs.2 b hb).trans e) o.free o.loc (.inr o.new) o.cell o.pin
def _X(X:Cx)(B:U (δ×μ))(O:St)(H₂:Hp)(ys:U Z.D)(acc:ζ)(C:δ)(s':θ):Prop:=
 ∃D H' vs m,acc=.ref D/\s'.heap.Ns C m/\Inv X B O H' s'/\Off X B H' C/\H₂ D=At/\az H₂ H'/\H' D=AC (.lst vs)/\au X.K H' ys vs
def tGR(K:Da)(R:Hp->Z.D->V->Prop)(H0:Hp)(g:Z.GF):TG:=λ v O H Q=>∃Y d Y',RS K H0 H O Y/\R H d v/\g d Y=.ok Y'/\∀O' H',az H H'->RS K H0 H' O' Y'->Q O' H'
def La{R:Hp->Z.D->V->Prop}{it:δ}{fp:U δ}{tn:Nat->ν->Prop}{J:It}{B:U (δ×μ)}{O:St}{Y:Z.Env}{H₂:Hp}{s₂:θ}{E:ζ->θ->Prop}{cl:U (Str×δ)}{G:Z.GF}{t:Z.TF}{fe:Z.EF}{ds ys:U Z.D}
 (cO:X.calm=Ch) (χ:um X.N N' n is scope X.J.scope) (I2:Inv X B O H₂ s₂) (T:Turn X.prog X.w X.K tg J fp it tn) (Dk:tn 0 s₂.e) (fo:∀b∈fp,pw X B H₂ b) (zg:∀(i:Nat)(d:Z.D)(H1:Hp),az H₂ H1->ds[i]?=AC d->J.go i H1) (zy:∀(i:Nat)(d:Z.D)(H1 H2:Hp)(x:V),az H₂ H1->ds[i]?=AC d->J.Bh i H1 x H2->az H1 H2/\R H2 d x) (zst:∀(H1:Hp),az H₂ H1->J.stop ds.length H1) (re:RE X.K H₂ O Y)
 (i9:∀x c,cl.lookup x=AC c->X.env.cells.lookup x=AC c) (tm:∀y∈scope.j,y.2=.free->(cl.lookup y.1).isSome=Ch)
 (hG:Gk G n)
 (hg:∀C s H H0,PG (kI X N' scope cl C fp s H) tg (tGR X.K R H0 G))
 (ht:∀ C s s' H mz (O':St) (H':Hp) (Q:Bool->Hp->Prop),Inv (kI X N' scope cl C fp s H) mz O' H' s'->V7 X.K t O' H' Q ->
  Ev (model X.prog X.w) X.A (forIn ifs Ch λ c r=>if r=Ch then do let ok ←isTrue c (compEnvC scope cl C X.J) (eval c<|compEnvC scope cl C X.J);pure (GM ok)else pure (GM r)) (TP (kI X N' scope cl C fp s H) mz O' Q) (λ _ _=>False) s')
 (he:∀C s H,DE (kI X N' scope cl C fp s H) elt fe) (ψ:ds.n<=Z.line) (ego:Z.b7 G t fe (Db n At++Z.fg Y is) ds=.ok ys) :
 Ev (model X.prog X.w) X.A (newList []) (λ acc s₃=>Ev (model X.prog X.w) X.A (newFunctionEnv scope X.env.globals cl [] X.env.qual At .none<|some X.J) (λ UK s₄=>codeAny (model X.prog X.w) X.A (.compStart (.ListComp elt [⟨tg,iter,ifs,0⟩] scope pos) 0 (.ref it) acc {UK with scope:=relabel scope X.J}) (λ r s'=>r=.ok .next/\_X X B O H₂ ys acc UK.locals s') s₄) E s₃) E s₂:=by
 show A76<|wpAny_newFunctionEnv χ.cell (by intro y hy;simp at hy) (λ h₁ Ou JY=>?_) χ.kind;dsimp only at Ou JY ⊢;generalize T6:s₂.heap.push {cls:=.type "list",dict:=At,data:=.seq ([]:U ζ).toArray}=HH at Ou JY ⊢;let hC:HH.Z=s₂.t+1:=by rw[<-T6,A56]
 let _C:s₂.heap.objs.size≠HH.Z:=by rw[hC];show A16<|A65 _
 let below:∀b,b<s₂.t->b≠HH.Z/\b≠s₂.t:=λ b hb=>⟨by rw[hC];show A16<|C12 hb,A16 hb⟩
 let old:∀b o,s₂.heap.get? b=AC o->h₁.get? b=AC o:=λ b o e=>JY.extBut b o (below b<|A05 e).1<|A03 _<|T6▸A03 _ e;let Yp:h₁.get? s₂.t=AC {cls:=.type "list",data:=.seq ([]:U ζ).toArray}:=JY.extBut _ _ _C<|A03 _<|T6▸A17 _ rfl;let fpo:∀b∈fp,∃o,s₂.heap.get? b=AC o/\∀v,o.data≠.cell v:=T.obj 0 _ Dk;let T?:∀b∈fp,b<s₂.t:=λ b hb=>let ⟨_,e,_⟩:=fpo b hb;A05 e;generalize hD:s₂.t=D at _C below old Yp hC ⊢;generalize hCC:HH.Z=C at Ou JY _C below hC ⊢;let LX:H₂ D=At:=I2.bO.fresh (by rw[hD];show P3 _);let hCn:H₂ C=At:=I2.bO.fresh (by rw[hD,hC];show A58 _)
 let ok:(kI X N' scope cl C fp s₂ H₂).Ok:=by
  show⟨I2.ok.mod,χ.kind,I2.ok.glob,I2.ok.blt,by change s₂.t<=C;rw[hD,hC];show A58 _,λ x y c e1 e2=>I2.ok.inj x y c (i9 x c e1)<|i9 y c e2,λ x hx=>?_,λ x c hf=>(by ext hf),I2.ok.hd,I2.ok.frames,.inl rfl,
   λ b hb=>((below b (by rw[<-hD];show T? b hb)).1,λ x c e=>(fo b hb).2.2.2.2.1 x c<|i9 x c e,),I2.bs,A15 I2.ok.Lg I2.sz,λ b o e hb=>?_,λ b hb z=>?_,I2.stack,I2.rh⟩
  .let Hl:(relabel scope X.J).names.lookup x=AC .cell\/(relabel scope X.J).names.lookup x=AC .free:=hx;let e:=iH (env:=X.J) (x:=x) scope.j;let e':(relabel scope X.J).names.lookup x=_:=e;rw[e']at Hl;cases q:scope.names.lookup x with
   |none=>rw[q]at Hl;rcases Hl with h|h<;>ext h
   |some k=>
    let hm:=A71 q;let hk:k=.free:=by
     rw[q]at Hl;erw[A68]at Hl;by_cases hc:(k==NameKind.free&&X.J.scope.kind==.function&&X.env.kindOf x==AC .cell)=Ch
     .rw[A34,A34]at hc;show A41.mp hc.1.1
     .rw[W1 hc]at Hl;rcases Hl with h|h
      .exact absurd (f8 h)<|χ.cell _ hm
      .exact f8 h
    subst hk;show A94.mp<|tm _ hm rfl
  .rcases(fo b hb).2.2.2.1 with q|q
   .exact I2.ok.zN b o e q
   .exact absurd (A18 (A05 (I2.ok.bs b o e).1) q)<|A89 _
  .rcases A01.mp (I2.pH b z)with q|q
   .exact(fo b hb).2.1 q
   .exact(fo b hb).2.2.1 q
 let Hd:kK X.prog X.w (upd H₂ D<|.lst []) h₁:=I2.bO.laid old (by rw[hD];show P3 _) ⟨A57 _,[],_,.nil,Yp⟩;let ne2:∀b,b<s₂.t->b≠D:=λ b hb=>by rw[<-hD];show A16 hb
 let t9:∀x c,X.env.cells.lookup x=AC c->c<s₂.t/\∀v,s₂.heap.IsCell c v->h₁.IsCell c v:=λ x c e=>by let(v,o,ho,hd):=I2.cell x c e;show⟨A05 ho,by rintro v' ⟨o',oR,qY⟩;show(o',old c o' oR,qY,)⟩
 let I4:Inv (kI X N' scope cl C fp s₂ H₂) [] (mU O n is) (upd H₂ D<|.lst []) {s₂ with heap:=h₁,toks:=s₂.toks+([]:U (Str×ζ)).length}:=by
  show⟨ok,rfl,I2.bare,Un.laid old (by rw[hD];show P3 _) LX,(_,Ou,λ i x v e1 e2 e3=>?_,),λ x c e=>?_,by change upd H₂ D (.lst []) C=At;rw[av<|A10 _C];show hCn,λ x c e=>?_,λ p hp=>absurd (show p∈([]:U (δ×μ))from hp) ∅,Hd,by simp[mU,χ.len],I2.tab.up λ b u _ e=>by rw[av<|aY e LX];show e⟩
  .unfold mU at e2;by_cases hi:i<n
   .rw[A23 (by calc hi),A53]at e2;split at e2<;>ext e2
   .rw [A46 (by calc hi),A06] at e2;erw[A81]at e2;cases q:is[i-n]? with
    |none=>rw[q]at e2;ext e2
    |some j=>
     rw[q]at e2;erw[A68]at e2;let(x',c1,c2,c3):=χ.cap (i-n) j q;let Cf:n+(i-n)=i:=by lia
     rw[Cf]at c1;let L5:N'[i]?=AC x:=e1;rw[c1]at L5;ext L5;let hσ:O[j]?=AC (AC v):=by
      cases r:O[j]? with
      |none=>rw[r]at e2;ext e2
      |some y=>
       rw[r]at e2;let:y=AC v:=by simpa using e2
       rw[this]
     let(m,hn,hl):=I2.loc;let hm:=A71 c3;let hk:=χ.free _ hm rfl;let Tp:Lp X.env.scope x:=by
      rcases hk with k|k
      .exact .inr<|.inl k
      .exact .inr<|.inr k
     let(u,ru,lk):=hl j x v c2 hσ Tp;show(u,ru,?_,);rcases lk with⟨k1,_⟩|⟨k1,c,hc,qy⟩
     .let N_:X.env.scope.names.lookup x=AC .local:=k1;rcases hk with k|k
      .rw[k]at N_;ext N_
      .rw[k]at N_;ext N_
     .let(c',uj):=A94.mp (tm _ hm rfl);let:c'=c:=by let:=i9 x c' uj;rw[hc]at this;show(f8 this).symm
      subst this;show .inr ⟨?_,c',uj,(t9 x c' hc).2 _ qy⟩;change(relabel scope X.J).names.lookup x=AC .cell\/(relabel scope X.J).names.lookup x=AC .free;let e:=iH (env:=X.J) (x:=x) scope.j;let e':(relabel scope X.J).names.lookup x=_:=e;rw[e',c3];erw[A68];split
      .exact .inl rfl
      .exact .inr rfl
  .let(v,hv):=I2.cell x c (i9 x c e);show(v,(t9 x c<|i9 x c e).2 v hv,)
  .let jO:=(t9 x c<|i9 x c e).1;rw[av<|ne2 c jO];show I2.fY x c<|i9 x c e
 let rs4:RS X.K H₂ (upd H₂ D<|.lst []) (mU O n is) (Db n At++Z.fg Y is):=Iq re<|b? LX;let st4:tn 0 h₁:=T.keep 0 _ _ Dk λ b hb o e=>old b o e;let fr4:∀b∈fp,(upd H₂ D<|.lst []) b=At:=λ b hb=>by rw[av<|ne2 b<|T? b hb];show(fo b hb).1
 let BK:∀{H'},(∀b∈fp,H' b=At)->∀b∈fp,pw (kI X N' scope cl C fp s₂ H₂) [] H' b:=λ hn b hb=>by
  show(hn b hb,(below b (by rw[<-hD];show T? b hb)).1,?_,.inl hb,λ x c e=>(fo b hb).2.2.2.2.1 x c<|i9 x c e,λ p hp=>absurd (show p∈([]:U (δ×μ))from hp) ∅,);intro q;rcases A01.mp (I2.pH b q)with q|q
  .exact(fo b hb).2.1 q
  .exact(fo b hb).2.2.1 q
 let loop:codeAny (model X.prog X.w) X.A (.compLoop (.ListComp elt [⟨tg,iter,ifs,0⟩] scope pos) 0 (.ref it) (.ref D)<|compEnvC scope cl C X.J) (λ r s'=>r=.ok .next/\_X X B O H₂ ys (.ref D) C s')
  {s₂ with heap:=h₁,toks:=s₂.toks+([]:U (Str×ζ)).length}:=by
  show mi (λ m s'=>∃i O' H' vs zs,m=ds.n+1-i/\i<=ds.n/\vs.n<=i/\Inv (kI X N' scope cl C fp s₂ H₂) [] O' H' s'/\tn i s'.e/\(∀b∈fp,H' b=At)/\H' D=AC (.lst vs)/\az H₂ H' /\
   RS X.K H₂ H' O' (Db n At++Z.fg Y is)/\(∃rest,Z.b7 G t fe (Db n At++Z.fg Y is) (ds.drop i)=.ok rest/\zs++rest=ys)/\au X.K H' zs vs) ?_ (ds.n+1)
   ⟨0,mU O n is,_,[],[],rfl,A57 _,P3 _,I4,st4,fr4,aE,b? LX,rs4,⟨ys,by calc ego,rfl⟩,au.nil⟩
  .rintro m s' ⟨i,O3,H3,vs,zs,rfl,ui,_o,I3,P9,YC,_D,LH,re3,⟨rest,er,ez⟩,dz⟩;by_cases jO:i<ds.n
   .obtain⟨d,hd⟩:∃d,ds[i]?=AC d:=⟨ds[i],by simp[jO]⟩
    let tj:ds.drop i=d::ds.drop (i+1):=by
     rw[A99 jO];let:ds[i]=d:=by let:=A04 jO;rw[this]at hd;show f8 hd
     rw[this]
    rw[tj]at er;unfold Z.b7 at er;let(Y1,eg,er):=ac er;let(c1,ec,er):=ac er;show b_ (T.item (kI X N' scope cl C fp s₂ H₂) rfl rfl rfl cO i [] s' O3 H3 (λ _ _=>False) I3 (BK YC) P9<|zg i d H3 LH hd) ?_;rintro r s4 ⟨u,hr,h4⟩;subst hr;show b_ h4 ?_;rintro _ s5 ⟨x,H5,I5,r5,y5,wW,fr5⟩;let(sy,dx):=zy i d H3 H5 x LH hd y5;replace re3:=re3.up sy;replace LH:=LH.trans sy;replace _D:=sy _ _ _D;replace dz:=dz.up sy;let I5':=I5.pinned (BK fr5)<|T.obj _ _ wW;let rs5:RS X.K H₂ H5 O3 (Db n At++Z.fg Y is):=re3;show b_ (hg C s₂ H₂ H₂ _ s5 O3 H5 x u (λ O6 H6=>az H5 H6/\RS X.K H₂ H6 O6 Y1) I5' r5 ⟨_,d,Y1,rs5,dx,eg,λ O' H' s' r'=>(s',r',)⟩) ?_;rintro _ s6 ⟨O6,H6,I6,sm6,ZV⟩;show b_ (ht C s₂ s6 H₂ _ O6 H6 (λ b H7=>b=c1/\az H6 H7) I6 ⟨Y1,c1,ZV.re,ec,λ H7 s7=>(rfl,s7,)⟩) ?_;rintro ok s7 ⟨H7,I7,e7,sm7⟩;subst e7;let H!:az H5 H7:=sm6.trans sm7;let re7:RE X.K H7 O6 Y1:=ZV.re.up sm7;let re0:∀{H9},az H7 H9->RS X.K H₂ H9 O6 (Db n At++Z.fg Y is):=λ {H9} s9=>by
     let(gl,gk):=hG d _ Y1 eg;show((ZV.same.trans sm7).trans s9,⟨by rw[<-gl];show re7.len,λ j l e=>?_,λ j k xs ys q e1=>absurd e1<|fJ n is Y j xs⟩,λ j xs q e1=>absurd e1<|fJ n is Y j xs,λ j xs e=>?_,ia.non<|p9 n is Y,);rotate_left
     .by_cases hj:n<=j
      .rw[<-gk j hj]at e;show ZV.mj j xs e
      .rw[A23 (by simp;lia),A53]at e;split at e<;>ext e
     by_cases hj:n<=j
     .rw[<-gk j hj]at e;show(re7.up s9).get j l e
     .rw[A23 (by simp;lia),A53]at e;split at e<;>ext e
    let fin:∀{H9}{s9} VV ZA,Inv (kI X N' scope cl C fp s₂ H₂) ([]++sF fp s5.e) O6 H9 s9->H9 D=AC (.lst VV)->VV.n<=i+1->az H₂ H9->RS X.K H₂ H9 O6 (Db n At++Z.fg Y is) ->
     (∃ rest,Z.b7 G t fe (Db n At++Z.fg Y is) (ds.drop<|i+1)=.ok rest/\ZA++rest=ys)->au X.K H9 ZA VV->∃ m,m<ds.n+1-i/\∃ i O' H' vs zs,m=ds.n+1-i/\i<=ds.n/\vs.n<=i/\Inv (kI X N' scope cl C fp s₂ H₂) [] O' H' s9/\tn i s9.e/\(∀ b∈fp,H' b=At)/\H' D=AC (.lst vs)/\az H₂ H' /\
      RS X.K H₂ H' O' (Db n At++Z.fg Y is)/\(∃rest,Z.b7 G t fe (Db n At++Z.fg Y is) (ds.drop i)=.ok rest/\zs++rest=ys)/\au X.K H' zs vs:=by
     intro H9 s9 VV ZA I9 hD9 hv9 Wf re9 er9 dz9;show⟨ds.n+1-(i+1),by lia,i+1,O6,H9,VV,ZA,rfl,jO,hv9,I9.nV,T.keep _ _ _ wW λ b hb o e=>(I9.pin (b,o)<|A45 _<|A45 _<|jX hb e).1,λ b hb=>?_,hD9,Wf,re9,er9,dz9⟩;let(o,e,_):=T.obj _ _ wW b hb;show(I9.pin (b,o)<|A45 _<|A45 _<|jX hb e).2.1
    let hD7:H7 D=AC (.lst vs):=H! _ _ _D;cases ok with
    |false=>erw[A61,A67]at er ⊢;show fin vs zs I7 hD7 (C13 _o) (LH.trans H!) (re0<|az.refl _) ⟨rest,er,ez⟩<|dz.up H!
    |true=>
     erw[A35]at er ⊢;let(y,ey,er):=ac er;let(Wu,er2,er):=ac er;ext er;show b_ (he C s₂ H₂ _ s7 O6 H7 (λ v H8=>az H7 H8/\Den X.K H8 y v) I7 ⟨Y1,y,re7,ey,λ v H8 s8 d8=>(s8,d8,)⟩) ?_;rintro u8 s8 ⟨v8,H8,I8,rv8,ZO,dy⟩;let hD8:H8 D=AC (.lst vs):=ZO _ _ hD7;let aaq:az H₂ H8:=(LH.trans H!).trans ZO;show b_ (pR (X:=kI X N' scope cl C fp s₂ H₂) _ s8 O6 H8 (.ref D) [v8] (.ref D) [u8] (λ v H9=>v=.non/\H9=upd H8 D (.lst<|vs++[v8])) I8 rfl (.cons rv8 .nil) ⟨D,vs,v8,rfl,rfl,hD8,?_,rfl,rfl⟩) λ _ s9 ⟨v9,H9,I9,_,_,e9⟩=>?_
     .rw[A32];let:Z.line=16777216:=rfl;lia
     subst e9;let P8:gm H8 (upd H8 D<|.lst<|vs++[v8]):=gN hD8;let Wf:az H₂ (upd H8 D<|.lst<|vs++[v8]):=λ b o e=>by rw[av<|aY e LX];show aaq b o e
     let Vg:=re0 ZO;show fin (vs++[v8]) (zs++[y]) I9 aE (by simp;lia) Wf ⟨Wf,⟨Vg.re.len,λ j l e=>?_,λ j k xs ys q e1=>absurd e1<|fJ n is Y j xs⟩,λ j xs q e1=>absurd e1<|fJ n is Y j xs,Vg.mj,Vg.v?⟩ ⟨Wu,er2,by rw[A77];show ez⟩<|(((dz.up H!).up ZO).append<|au.cons dy au.nil).ups P8;let(v,h1,h2):=Vg.re.get j l e;show(v,h1,?_,);cases l with
     |val dd=>show Den.ups (show Den X.K H8 dd v from h2) P8
     |own xs=>show absurd e<|fJ n is Y j xs
     |bor xs=>let(v',h3,h4):=Vg.mj j xs e;rw[h1]at h3;ext h3;show h4.re h2 Vg.same Wf P8
     |dc ks=>show absurd e<|p9 n is Y j ks
     |Ko ks=>let(q',o',as,rfl,fQ,t'):=h2;show(q',o',as,rfl,P8.dW _ _ _ fQ,t'.ups P8,)
     |Tj ps=>let(q',o',rfl,fQ):=h2;show(q',o',rfl,P8.dW _ _ _ fQ,)
     |exc c=>let(q',o',u',C',rfl,fQ,r1,r2,r3):=h2;show(q',o',u',C',rfl,P8.dW _ _ _ fQ,r1,r2,r3.ups P8,)
   .let:i=ds.n:=by lia
    subst this;rw[B68]at er;ext er;rw[A52]at ez;subst ez;show b_ (T.done (kI X N' scope cl C fp s₂ H₂) rfl rfl rfl cO _ [] s' O3 H3 (λ _ _=>False) I3 (BK YC) P9<|zst H3 LH) ?_;rintro r s4 ⟨hr,J4⟩;subst hr;let(m',LV,_):=J4.loc;let Jo:∀b o,s₂.heap.get? b=AC o->b≠C:=λ b o e=>(below b (by rw[<-hD];show A05 e)).1;let I9:Inv X B O H3 s4:=I2.Ld (s':=s4) J4.os J4.base J4.bO J4.bare λ b hb=>((fo b hb).2.2.2.1,(fo b hb).2.1,(fo b hb).2.2.2.2.1,(fo b hb).2.2.2.2.2,)
    let szC:s₂.t<=C:=by rw[hD,hC];show A58 _
    show(rfl,D,H3,vs,m',rfl,LV,I9,(J4.free,?_,A15 I2.sz szC,λ x c e=>?_,λ p hp=>?_,),LX,LH,_D,dz,)
    .exact A48<|A18 I2.lt szC
    .exact A16<|A18 (t9 x c e).1 szC
    .exact Jo p.1 p.2 (I2.pin p hp).1
 let oO:codeAny (model X.prog X.w) X.A (.compStart (.ListComp elt [⟨tg,iter,ifs,0⟩] scope pos) 0 (.ref it) (.ref D)<|compEnvC scope cl C X.J) (λ r s'=>r=.ok .next/\_X X B O H₂ ys (.ref D) C s')
  {s₂ with heap:=h₁,toks:=s₂.toks+([]:U (Str×ζ)).length}:=codeAny_compStart_list loop<|T.self _ 0 _ _ _ st4 loop
 show oO
def j0(h:k<n)(d:Z.D)(Y Y1:Z.Env)(e:Z.aH k d Y=.ok Y1):Y1.n=Y.n/\∀i,n<=i->Y1[i]?=Y[i]?:=by ext e;show⟨by simp,λ i hi=>A20 ∅⟩
def qB:∀ks,(∀k∈ks,k<n)->∀ds Y Y1,Z.h9 ks ds Y=.ok Y1->Y1.n=Y.n/\∀i,n<=i->Y1[i]?=Y[i]?
|[],_,[],Y,Y1,e=>by ext e;show(rfl,λ _ _=>rfl,)
|[],_,_::_,_,_,e=>by ext e
|_::_,_,[],_,_,e=>by ext e
|k::ks,h,d::ds,Y,Y1,e=>by let(h1,h2):=qB ks (λ k hk=>h k<|A09 _ hk) ds _ Y1 e;show⟨by rw[h1];simp,λ i hi=>?_⟩;rw[h2 i hi];let:=h k A13;show A20 ∅
def Gz(h:∀k∈ks,k<n)(d:Z.D)(Y Y1:Z.Env)(e:Z.cJ ks d Y=.ok Y1):Y1.n=Y.n/\∀i,n<=i->Y1[i]?=Y[i]?:=by
 unfold Z.cJ at e;split at e
 .exact qB ks h _ Y Y1 e
 .ext e
def Zl(X:Cx)(ifs:U ι)(t:Z.TF):Prop:=∀(B:U (δ×μ))(s:θ)(O:St)(H:Hp)(Q:Bool->Hp->Prop),Inv X B O H s->V7 X.K t O H Q ->
 Ev (model X.prog X.w) X.A (forIn ifs Ch λ c r=>if r=Ch then do let ok ←isTrue c X.env (eval c X.J);pure (GM ok)else pure (GM r)) (TP X B O Q) X.xe s
structure ZQ.G!(X:Cx)(ifs:List Expr)(t:Z.TF):Prop where p:Zl X ifs t
def ZQ.BF:ZQ.G! X [] Z.b8:=⟨by rintro B s O H Q I ⟨Y,b,r,e,k⟩;ext e;show wpAny_tests_nil ⟨H,I,k H<|az.refl H⟩⟩
def ZQ.C_(h:ZQ.QT X c t):ZQ.G! X [c] t:=⟨λ B s O H Q I w=>wpAny_tests_one<|h.p B s O H Q I w⟩
def AW(cO:X.calm=Ch)(hi:DI X tg iter it)(χ:um X.N N' n is scope X.J.scope)
 (hG:Gk G n)
 (hg:∀cl C fp s H H0,DG (kI X N' scope cl C fp s H) H0 tg G) (ht:∀cl C fp s H,Zl (kI X N' scope cl C fp s H) ifs t) (he:∀cl C fp s H,DE (kI X N' scope cl C fp s H) elt fe)
 (hs:Fi iter X.J)
 (I:Inv X B O H s) (re:RE X.K H O Y) (ec:Z.bx it n is G t fe Y=.ok ys)
 (fin:∀acc C s' H₂,az H H₂->_X X B O H₂ ys acc C s'->compPost (model X.prog X.w) X.A X.xe use Q acc C (.ok .next) s') :
 Ev (model X.prog X.w) X.A (comprehension (.ListComp elt [⟨tg,iter,ifs,0⟩] scope pos) scope X.env ps (newList []) AT (eval iter X.J) use) Q X.xe s:=by
 let(ds,ei,ec):=ac ec;unfold Z.guard at ec;split at ec
 .rename_i ψ;let qx:∀y∈scope.j,y.2=.free->∃c,X.env.cells.lookup y.1=AC c:=λ y hy hf=>I.ok.has y.1<|χ.free y hy hf;let(cl,kD,i9,tm):=jl qx;show wpAny_comprehension_free rfl hs kD χ.kind χ.loc ?_;show b_ (hi B s O H (λ J H₂=>az H H₂/\E_ X.K J _ ds) I ⟨Y,ds,re,ei,λ J H' s' z=>(s',z,)⟩) λ x s₁ h₁=>?_;show b_ h₁ ?_;rintro itv s₂ ⟨it',fp,tn,J,H₂,e2,I2,T,Dk,fo,sm,z⟩;subst e2;show b_ (La (R:=Den X.K) (iter:=iter) (pos:=pos) cO χ I2 T Dk fo z.go z.Bh z.stop (re.up sm) i9 tm hG (λ C s H H0=>hg cl C fp s H H0) (λ C s s' H' mz O' Q9 Q' I' w=>ht cl C fp s H' mz s' O' Q9 Q' I' w) (λ C s H=>he cl C fp s H) ψ ec) λ acc s₃ h₃=>?_;show b_ h₃ λ UK s₄ h₄=>A92 h₄ ?_;rintro r s' ⟨er,Ww⟩;subst er;show fin acc _ s' H₂ sm Ww
 .ext ec
def ZQ.KR(hi:ZQ.QI X tg iter it)(he:∀{cl C fp s H},ZQ.QE (kI X N' scope cl C fp s H) elt fe)(ht:∀{cl C fp s H},ZQ.G! (kI X N' scope cl C fp s H) ifs t:=by show BF)(hg:∀{cl C fp s H H0},ZQ.QG (kI X N' scope cl C fp s H) H0 tg G:=by show pd)(cO:X.calm=Ch:=by rfl)(χ:um X.N N' n is scope X.J.scope:=by show ZS.um.of (by kernel_rfl))(hG:Gk G n:=by show ZS.j0 ∅)(hs:Fi iter X.J:=by intro _;rfl):ZQ.QL X (.ListComp elt [⟨tg,iter,ifs,0⟩] scope pos) (Z.bx it n is G t fe):=⟨by let hg:∀cl C fp s H H0,DG (kI X N' scope cl C fp s H) H0 tg G:=λ _ _ _ _ _ _=>hg.p;let ht:∀cl C fp s H,Zl (kI X N' scope cl C fp s H) ifs t:=λ _ _ _ _ _=>ht.p;let he:∀cl C fp s H,DE (kI X N' scope cl C fp s H) elt fe:=λ _ _ _ _ _=>he.p;intro B s O H Q I w;let(Y,ys,re,e,k):=w;rw[eval_ListComp];show AW cO hi.p χ hG hg ht he hs I re e λ acc C s' H₂ sm Ww=>?_;let(D,H',vs,m,rfl,J0,I',off,LX,Va,hD,dz):=Ww;show(m,J0,λ h' Ce=>(.ref D,H',off.inv I' Ce,rfl,k D vs H' (sm.trans Va) (sm.free LX) hD dz,),)⟩
def K_(cO:X.calm=Ch)(hN:X.N.Nodup)(TK:X.N[i]?=AC x)(hx:Loc X.env.scope x)
 (Tq:Sw elt tg iter ifs scope pos x px BL X.J) (hi:DI X tg iter it) (χ:um X.N N' n is scope X.J.scope) (hG:Gk G n)
 (hg:∀cl C fp s H H0,DG (kI X N' scope cl C fp s H) H0 tg G) (ht:∀cl C fp s H,Zl (kI X N' scope cl C fp s H) ifs t) (he:∀cl C fp s H,DE (kI X N' scope cl C fp s H) elt fe)
 (hs:Fi iter X.J) (hf:X.fn x=Ch\/X.env.scope.names.lookup x=AC .local) (I:Inv X B O H s) (re:RE X.K H O Y) (e:Z.bx it n is G t fe Y=.ok ys)
 (k:∀q vs H',az H H'->H q=At->H' q=AC (.lst vs)->au X.K H' ys vs->∃Q9,(∀s',Inv X B (O.set i<|some<|.ref q) H' s'->Inv X B (O.set i<|some<|.ref q) Q9 s')/\D.nx (O.set i<|some<|.ref q) Q9) :
 Ev (model X.prog X.w) X.A (exec (.Assign [.Name x px] (.ListComp elt [⟨tg,iter,ifs,0⟩] scope pos) BL) X.J) (SP X B D) X.xe s:=by
 rw[exec_Assign_Name_used _ _ _ _ Tq];show T0<|B39<|T0 ?_;show T0<|A22 (AW cO hi χ hG hg ht he hs I re e λ acc C s' H₂ sm Ww=>?_) (λ _ s' hq=>v4<|v4 hq) λ _ _ e=>e;let(q,H',vs,m,rfl,J0,I',off,LX,Va,hD,dz):=Ww;let(Q9,hI,hnx):=k q vs H' (sm.trans Va) (sm.free LX) hD dz;show wpAny_assign_Name<|vj I' hN TK hx (v:=.ref q) rfl (λ Vd I'' ⟨⟨a,sb,ha⟩,_⟩=>?_) hf;let hCa:C≠a:=by
  rcases ha with rfl|ha
  .exact off.loc
  .exact λ z=>off.cell x a ha z.a
 show(m,J0.sameBut sb hCa,λ h' Ce=>(_,Q9,?_,hnx,),);show hI _<|off.inv I'' Ce
theorem σ2(cO:X.calm=Ch)(hN:X.N.Nodup)(TK:X.N[i]?=AC x)(hx:Loc X.env.scope x)
 (hi:DI X tg iter it) (χ:um X.N N' n is scope X.J.scope) (hG:Gk G n)
 (hg:∀cl C fp s H H0,DG (kI X N' scope cl C fp s H) H0 tg G) (ht:∀cl C fp s H,Zl (kI X N' scope cl C fp s H) ifs t) (he:∀cl C fp s H,DE (kI X N' scope cl C fp s H) elt fe)
 (Tq:Sw elt tg iter ifs scope pos x px BL X.J:=by rfl)
 (hs:Fi iter X.J:=by intro _;rfl) (hf:Fl X x:=by trivial) :
 DS X H0 (.Assign [.Name x px] (.ListComp elt [⟨tg,iter,ifs,0⟩] scope pos) BL) (Z.jv i<|Z.bx it n is G t fe):=by
 intro B s O H D I w;let(Y,fl,rs,e,k):=w;let(ys,ey,e):=ac e;ext e;show K_ cO hN TK hx Tq hi χ hG hg ht he hs hf I rs.re ey λ q vs H' s' hn h1 t'=>(H',λ _ j=>j,?_,)
 show k _ H' (i_ s')<|(rs.up s').Ia h1 t' (rs.same.free hn) λ j xs _ e=>rs.noq hn j xs e
theorem ZQ.yb(cO:X.calm=Ch)(hN:X.N.Nodup)(TK:X.N[i]?=AC x)(hx:Loc X.env.scope x)
 (hi:ZQ.QI X tg iter it) (χ:um X.N N' n is scope X.J.scope) (hG:Gk G n)
 (hg:∀cl C fp s H H0,ZQ.QG (kI X N' scope cl C fp s H) H0 tg G) (ht:∀cl C fp s H,ZQ.G! (kI X N' scope cl C fp s H) ifs t) (he:∀cl C fp s H,ZQ.QE (kI X N' scope cl C fp s H) elt fe)
 (Tq:Sw elt tg iter ifs scope pos x px BL X.J:=by rfl)
 (hs:Fi iter X.J:=by intro _;rfl) (hf:Fl X x:=by trivial) :
 ZQ.QS X H0 (.Assign [.Name x px] (.ListComp elt [⟨tg,iter,ifs,0⟩] scope pos) BL) (Z.aN i<|Z.eL<|Z.bx it n is G t fe):=⟨by
 let hg:=λ y0 y1 y2 y3 y4 y5=>(hg y0 y1 y2 y3 y4 y5).p;let ht:=λ y0 y1 y2 y3 y4=>(ht y0 y1 y2 y3 y4).p;let he:=λ y0 y1 y2 y3 y4=>(he y0 y1 y2 y3 y4).p;let h1:DS X H0 _ _:=σ2 cO hN TK hx hi.p χ hG hg ht he Tq hs hf;intro B s O H D I w;let(Y,fl,rs,e,k):=w;let(d,ed,e):=ac e;ext e;unfold Z.eL at ed;cases ey:Z.bx it n is G t fe Y with
 |bad=>rw[ey]at ed;ext ed
 |ok ys=>
  rw[ey]at ed;ext ed;show b_ (h1 B s O H {D with nx:=λ O' H'=>gm H H'/\RS X.K H0 H' O' _} I ⟨Y,.nx<|Y.set i<|some<|.own ys,rs,by change(Z.bx it n is G t fe Y).bind _=_;rw[ey];rfl,λ O' H' s' r'=>(s',r',)⟩) λ fl' s' h=>?_;cases fl' with
  |next=>
   let(O',H',I',zk,Dv):=h;by_cases hl:i<Y.n
   .let ei:(Y.set i<|some<|Z.L.own ys)[i]?=AC (AC<|.own ys):=A39 hl;let(v,si,q,us,rfl,hq,t'):=Dv.re.get i _ ei;let(o,I2):=ni I' hq;let r2:=Dv.dW (o:=o) ei si hq t';rw[List.set_set]at r2;show(O',_,I2,k O' _ (zk.trans<|gN hq) r2,)
   .let e0:Y.set i (AC<|Z.L.own ys)=Y:=C61 ∅;let e1:Y.set i (AC<|Z.L.val<|.lst ys)=Y:=C61 ∅;rw[e0]at Dv;let k':=k;rw[e1]at k';show(O',H',I',k' O' H' zk Dv,)
  |brk=>show h
  |cont=>show h
  |ret u=>show h⟩
end
section
variable{P:ο}{w:ξ}{K:Da}{mg:Str->ε ζ}{base:ν}
def pI(t:au K H ds vs)(hl:vs.n<=N.n):RS K H H (L2.start N vs) (Z.start N.length ds):=by
 let zM:∀(i:Nat) xs,(Z.start N.length ds)[i]?≠AC (AC<|.own xs):=by
  intro i xs e;unfold Z.start at e;by_cases hi:i<ds.n
  .rw[A23 (by calc hi),A06]at e;cases q:ds[i]? with
   |none=>rw[q]at e;ext e
   |some d=>rw[q]at e;ext e
  .rw[A46 (by calc hi),A53]at e;split at e<;>ext e
 let Xb:∀(i:Nat) xs,(Z.start N.length ds)[i]?≠AC (AC<|.bor xs):=by
  intro i xs e;unfold Z.start at e;by_cases hi:i<ds.n
  .rw[A23 (by calc hi),A06]at e;cases q:ds[i]? with
   |none=>rw[q]at e;ext e
   |some d=>rw[q]at e;ext e
  .rw[A46 (by calc hi),A53]at e;split at e<;>ext e
 let Xa:∀(i:Nat) ks,(Z.start N.length ds)[i]?≠AC (AC<|.dc ks):=by
  intro i ks e;unfold Z.start at e;by_cases hi:i<ds.n
  .rw[A23 (by calc hi),A06]at e;cases q:ds[i]? with
   |none=>rw[q]at e;ext e
   |some d=>rw[q]at e;ext e
  .rw[A46 (by calc hi),A53]at e;split at e<;>ext e
 let ψ:=t.n;show(az.refl H,(?_,λ i l e=>?_,λ i j xs ys q e1=>absurd e1<|zM i xs,),λ i xs q e1=>absurd e1<|zM i xs,λ i xs e1=>absurd e1<|Xb i xs,ia.non Xa,)
 .unfold Z.start L2.start;simp;lia
 .unfold Z.start at e;by_cases hi:i<ds.n
  .rw[A23 (by calc hi),A06]at e;cases q:ds[i]? with
   |none=>rw[q]at e;ext e
   |some d=>rw[q]at e;ext e;let(v,h1,h2):=t.get q;show(v,?_,h2,);unfold L2.start;rw[A23 (by simp;lia),A06,h1];rfl
  .rw[A46 (by calc hi),A53]at e;split at e<;>ext e
def fnZ{st:η}(F:Bg K x qual st f fd)(S:aW N ps (aa st))
 (hb:∀ a5 A outer s H E,bu k (A.deeper<|envOfC qual (aa st) s.heap.objs.size f a5) ->
  L9 (c! hV P w K mg base N qual (aa st) f a5 A outer s H E).gO H (aC st) b):ee P w K mg base hV (k+1) f fd ps (yw K<|Z.fn ps.length N.length b):=by
 let ψ:∀vs H Q E,yw K (Z.fn ps.length N.length b) vs H Q E->vs.n=ps.n:=by
  rintro vs H Q E ⟨ds,d,t,e,_⟩;unfold Z.fn at e;split at e
  .rename_i h;rw[t.n];show h
  .ext e
 show F.ok S ψ λ a5 A outer s H vs Q E hr h=>(_,hb a5 A outer s H E hr,?_,);let hl:=ψ vs H Q E h;let(ds,d,t,e,k):=h;let fC:ps.n<=N.n:=by let:=A14 List.length S.pre;rw[A33]at this;lia
 let rs:RS K H H _ (Z.start N.length ds):=pI t ∅;unfold Z.fn at e;split at e
 .cases eb:b (Z.start N.length ds)with
  |bad=>rw[eb]at e;ext e
  |ok fl=>
   rw[eb]at e;show(_,fl,rs,eb,?_,);cases fl with
   |rt d'=>ext e;show λ v H' s' dv=>k v H' s' dv
   |nx Y'=>ext e;show λ O' H' _ Dv=>k .non H' Dv.same j9
   |bk Y'=>ext e
   |ct Y'=>ext e
 .ext e
end
def Q2(N N':U Str)(n:Nat)(is:U Nat)(sc R6:ς):Bool:=
 (sc.kind==.function)&&sc.names.all (λ y=>y.2 != .cell)&&sc.names.all (λ y=>y.2 != .local||sc.names.lookup y.1==AC .local) &&
 sc.names.all (λ y=>y.2 != .free||R6.names.lookup y.1==AC .cell||R6.names.lookup y.1==AC .free)&&(N'.n==n+is.n) &&
 (EQ is.n).all (λ j=>match is[j]?,N'[n+j]? with
  |some i,AC x=>N[i]?==AC x&&sc.names.lookup x==AC .free
  | _,_=>AT) &&
 (EQ n).all (λ j=>match N'[j]? with
  |some x=>sc.names.lookup x==AC .local
  | none=>AT)
def um.of(h:Q2 N N' n is sc R6=Ch):um N N' n is sc R6:=by
 unfold Q2 at h;erw[A34,A30,A41,Bool.or_eq_true,bne_iff_ne,A25]at h;let((((((h1,h2),h3),h4),h5),h6),h7):=h;show(h1,h2,λ y hy e=>?_,λ y hy e=>?_,h5,λ j i e=>?_,λ j hj=>?_,)
 .rcases h3 y hy with q|q
  .exact absurd e q
  .exact q
 .rcases h4 y hy with(q|q)|q
  .exact absurd e q
  .exact .inl q
  .exact .inr q
 .let hj:=(A02.mp e).1;let q:=h6 j hj;rw[e]at q;cases r:N'[n+j]? with
  |none=>rw[r]at q;ext q
  |some x=>rw[r]at q;erw[A34,A41]at q;show(x,rfl,q.1,q.2,)
 .let q:=h7 j hj;cases r:N'[j]? with
  |none=>rw[r]at q;ext q
  |some x=>rw[r]at q;show(x,rfl,A41.mp q,)
structure Def(K:Da)(mg:Str->Option Value)(x:Str)(st:Stmt)(ps:List Str):Prop where
 ex:∃f fd,Bg K x x st f fd/\mg x=AC (.ref f)/\Binds K fd ps []
structure C5(P:Program)(w:World)(K:Da)(mg:Str->Option Value)(base:Heap)(x:Str)(k:Nat)(ps:List Str)(m:List Z.D->Z.Res Z.D):Prop where
 ex:∃g fd,ee P w K mg base hV k g fd ps (yw K m)/\mg x=AC (.ref g)/\FS K (.ref g)=Ch/\Binds K fd ps []
def C5.mk'{K:Da}{st:η}(d:Def K mg x st ps)(S:aW N ps (aa st))
 (hb:∀ f a5 A outer s H E,bu k (A.deeper<|envOfC x (aa st) s.heap.objs.size f a5) ->
  L9 (c! hV P w K mg base N x (aa st) f a5 A outer s H E).gO H (aC st) b):C5 P w K mg base x (k+1) ps (Z.fn ps.length N.length b):=by
 let(f,fd,F,hm,uk):=d.ex;show(f,fd,fnZ F S<|hb f,hm,F.kp,uk,)
section
variable{X:Cx}{e:ι}{es:U ι}{pos:Pos}
def ZQ.bL(C:C5 X.prog X.w X.K X.mg X.base x k ps m)(ha:ZQ.QA X (e::es) ar)(ie:Nd x:=by kernel_rfl)(he:Se e es X.J:=by rfl)(fC:Pn pos es X.J:=by rfl)(hr:bu k X.A:=by first|assumption|show L2.bu.mono (by assumption) (by first|decide|lia))(hg:Gl X x:=by rfl):ZQ.QE X (.Call (.Name x p1) (e::es) [] pos) (Z.aj m ar):=
 ⟨by let(_,_,F,hm,hk,hb):=C.ex;show O_ F hr hg hm hk hb ha.p ie he fC⟩
end
def ZQ.GR(hm:∃t,X.mg x=AC (.int i t))(hb:Nd x:=by kernel_rfl)(hg:Gl X x:=by rfl):ZQ.QE X (.Name x pos) (Z.eI i):=
 ⟨let ⟨t,hm⟩:=hm;O9 (v:=.int i) hg hm ⟨t,rfl⟩ (λ _=>cI) hb⟩
def BO{K:Da}{ns:U Int}(hO:PN H)(h:iY K H a (ns.map V.int)):Den K H (.lst<|ns.map Z.D.int) (.ref a):=by
 show yd ?_<|au.zints ns;rcases h with(h|⟨o,h⟩)|h
 .rcases hO a with z|⟨o,xs,z⟩|⟨q,z⟩
  .rw[h]at z;ext z
  .rw[h]at z;ext z
  .rw[h]at z;ext z
 .exact .inl ⟨o,h⟩
 .exact .inr h
def S4{K:Da}{ns:U Int}(hO:PN H)(h:iY K H a (ns.map V.int))(e:m [.lst (ns.map .int)]=.ok (.bl Ch)):yw K m [.ref a] H (λ v _=>v=.bl Ch) λ _ _ _=>False:=
 ⟨_,_,au.cons (BO hO h) au.nil,e,λ v H' _ d=>by simpa only[Den]using d⟩
section
variable{X:Cx}{e a b:ι}{pos:Pos}{f fa fb:Z.EF}
def zf(x y:U Nat):((⟨x.q⟩)==(⟨y.q⟩:Str))=(x==y):=by
 rw[A59,A41,A41];constructor
 .intro h;injection h with h;simpa using h
 .rintro rfl;rfl
def mD{α:Type}{p:Prop}{x:α}(h:At=AC x):p:=by ext h
def rcS{K:Da}(h:Z._L d1 d2=AC k)(h1:bH K H d1 v1)(h2:bH K H d2 v2)(r1:RelV v1 u1)(r2:RelV v2 u2):XV A s u1 u2 k/\Pi A s u1 u2 k/\TW A s u1 u2 (!k):=by
 cases d1 with
 |non=>
  rw[h1.non]at r1;ext r1;cases d2 with
  |non=>obtain rfl:=f8 h;rw[h2.non]at r2;ext r2;show(SeqAt.RcAt.none_none,C14 _,SeqAt.RcNeAt.none_none,)
  |bl=>obtain rfl:=f8 h;rw[h2.bl]at r2;ext r2;show(SeqAt.RcAt.none_bool _,SeqAt.EqAt.none_bool _,SeqAt.RcNeAt.none_bool _,)
  |int=>obtain rfl:=f8 h;rw[h2.int]at r2;let(t2,rfl):=r2;show(SeqAt.RcAt.none_int _ _,SeqAt.EqAt.none_int _ _,SeqAt.RcNeAt.none_int _ _,)
  |str=>obtain rfl:=f8 h;rw[h2.str]at r2;let(t2,rfl):=r2;show(SeqAt.RcAt.none_str _ _,SeqAt.EqAt.none_str _ _,SeqAt.RcNeAt.none_str _ _,)
  |_=>show mD h
 |bl=>
  rw[h1.bl]at r1;ext r1;cases d2 with
  |non=>obtain rfl:=f8 h;rw[h2.non]at r2;ext r2;show(SeqAt.RcAt.bool_none _,SeqAt.EqAt.bool_none _,SeqAt.RcNeAt.bool_none _,)
  |bl=>obtain rfl:=f8 h;rw[h2.bl]at r2;ext r2;show(SeqAt.RcAt.bool_bool _ _,SeqAt.EqAt.bool_bool _ _,SeqAt.RcNeAt.bool_bool _ _,)
  |int=>obtain rfl:=f8 h;rw[h2.int]at r2;let(t2,rfl):=r2;show(SeqAt.RcAt.bool_int _ _ _,SeqAt.EqAt.bool_int _ _ _,SeqAt.RcNeAt.bool_int _ _ _,)
  |str=>obtain rfl:=f8 h;rw[h2.str]at r2;let(t2,rfl):=r2;show(SeqAt.RcAt.bool_str _ _ _,SeqAt.EqAt.bool_str _ _ _,SeqAt.RcNeAt.bool_str _ _ _,)
  |_=>show mD h
 |int=>
  rw[h1.int]at r1;let(t1,rfl):=r1;cases d2 with
  |non=>obtain rfl:=f8 h;rw[h2.non]at r2;ext r2;show(SeqAt.RcAt.int_none _ _,SeqAt.EqAt.int_none _ _,SeqAt.RcNeAt.int_none _ _,)
  |bl=>obtain rfl:=f8 h;rw[h2.bl]at r2;ext r2;show(SeqAt.RcAt.int_bool _ _ _,SeqAt.EqAt.int_bool _ _ _,SeqAt.RcNeAt.int_bool _ _ _,)
  |int=>obtain rfl:=f8 h;rw[h2.int]at r2;let(t2,rfl):=r2;show(SeqAt.RcAt.int_int _ _ _ _,SeqAt.EqAt.int_int _ _ _ _,SeqAt.RcNeAt.int_int _ _ _ _,)
  |str=>obtain rfl:=f8 h;rw[h2.str]at r2;let(t2,rfl):=r2;show(SeqAt.RcAt.int_str _ _ _ _,SeqAt.EqAt.int_str _ _ _ _,SeqAt.RcNeAt.int_str _ _ _ _,)
  |_=>show mD h
 |str=>
  rw[h1.str]at r1;let(t1,rfl):=r1;cases d2 with
  |non=>obtain rfl:=f8 h;rw[h2.non]at r2;ext r2;show(SeqAt.RcAt.str_none _ _,SeqAt.EqAt.str_none _ _,SeqAt.RcNeAt.str_none _ _,)
  |bl=>obtain rfl:=f8 h;rw[h2.bl]at r2;ext r2;show(SeqAt.RcAt.str_bool _ _ _,SeqAt.EqAt.str_bool _ _ _,SeqAt.RcNeAt.str_bool _ _ _,)
  |int=>obtain rfl:=f8 h;rw[h2.int]at r2;let(t2,rfl):=r2;show(SeqAt.RcAt.str_int _ _ _ _,SeqAt.EqAt.str_int _ _ _ _,SeqAt.RcNeAt.str_int _ _ _ _,)
  |str=>obtain rfl:=f8 h;rw[h2.str]at r2;let(t2,rfl):=r2;rw[<-zf];show(SeqAt.RcAt.str_str _ _ _ _,SeqAt.EqAt.str_str _ _ _ _,SeqAt.RcNeAt.str_str _ _ _ _,)
  |_=>show mD h
 |_=>show mD h
def LZ(g:Z.D->Z.D->ε Bool)(as bs:U Z.D)(j:Nat):Bool:=match as[j]?,bs[j]? with
|some x,AC y=>(g x y).getD AT
|_,_=>Ch
def lI:∀{as bs}{k},Z.allEq g as bs=AC k->k=((EQ<|min as.length bs.n).all (LZ g as bs)&&as.n == bs.n)/\∀j x y,as[j]?=AC x->bs[j]?=AC y->g x y=AC (LZ g as bs j)
|[],[],k,h=>by ext h;show⟨rfl,λ j x y e=>by simp at e⟩
|[],_::_,k,h=>by ext h;show⟨by simp,λ j x y e=>by simp at e⟩
|_::_,[],k,h=>by ext h;show⟨by simp,λ j x y _ e=>by simp at e⟩
|a::as,b::bs,k,h=>by
 unfold Z.allEq at h;split at h
 .rename_i p q e1 e2;ext h;let(h1,h2):=lI e2;show(?_,λ j x y ex ey=>?_,)
  .let:min (a::as).length (b::bs).length=min as.length bs.n+1:=by erw[A29];lia
   rw[this,C62,C15,B69,h1];let e0:LZ g (a::as) (b::bs) 0=p:=by simp[LZ,e1]
   let es:(LZ g (a::as) (b::bs)∘Nat.succ)=LZ g as bs:=by funext j;simp[LZ]
   let el:((a::as).length==(b::bs).length)=(as.n==bs.n):=by rw[A59];simp
   rw[e0,es,el,AC5]
  .cases j with
   |zero=>simp at ex ey;subst ex ey;simp[LZ,e1]
   |succ j=>let:=h2 j x y (by calc ex) (by calc ey);simpa[LZ]using this
 .ext h
def Ae(I:Inv X B O H s)(n:Nat)(hu:A.units+n<cLine)
 (ih:∀ {A}{d1 d2}{v1 v2}{u1 u2}{k},A.units+n<cLine->Z.gD n d1 d2=AC k->bH X.K H d1 v1->bH X.K H d2 v2->RelV v1 u1->RelV v2 u2->XV A s u1 u2 k/\Pi A s u1 u2 k/\TW A s u1 u2 (!k))
  (hk:Z.allEq (Z.gD n) as bs=AC k) (ta:au X.K H as vs) (tb:au X.K H bs ws) (ra:Vals vs a8) (rb:Vals ws g9) :
  ∀j h1 (h2:j<g9.q.u),Pi A s a8.toArray[j] g9.toArray[j] (LZ (Z.gD n) as bs j):=by
 intro j hj1 hj2;let la:=ta.n;let lb:=tb.n;let ZY:=ra.n;let rb':=rb.n;erw[A12]at hj1 hj2;obtain⟨x,ex⟩:∃x,as[j]?=AC x:=(as[j]'∅,A04 ∅,)
 obtain⟨y,ey⟩:∃y,bs[j]?=AC y:=(bs[j]'∅,A04 ∅,)
 let(vx,evx,dx):=ta.get ex;let(vy,QU,dy):=tb.get ey;let(ux,eux,rx):=ra.get evx;let(uy,euy,ry):=rb.get QU;let e1:a8.toArray[j]=ux:=by let:=A04 hj1;rw[eux]at this;simpa using(f8 this).symm
 let e2:g9.toArray[j]=uy:=by let:=A04 hj2;rw[euy]at this;simpa using(f8 this).symm
 rw[e1,e2];show(ih hu ((lI hk).2 j x y ex ey) (.inl dx) (.inl dy) rx ry).2.1
def Ks{K:Da}(h:Z._L d1 d2=AC k)(h1:bH K H d1 v)(h2:bH K H d2 v):k=Ch:=by
 cases d1 with
 |non=>
  let e:=h1.non;cases d2 with
  |non=>show(f8 h).symm
  |bl=>cases e.symm.trans h2.bl
  |int=>cases e.symm.trans h2.int
  |str=>cases e.symm.trans h2.str
  |_=>show mD h
 |bl=>
  let e:=h1.bl;cases d2 with
  |non=>cases e.symm.trans h2.non
  |bl=>let e:=e.symm.trans h2.bl;injection e with e;rw[<-f8 h,e];show A60 _
  |int=>cases e.symm.trans h2.int
  |str=>cases e.symm.trans h2.str
  |_=>show mD h
 |int=>
  let e:=h1.int;cases d2 with
  |non=>cases e.symm.trans h2.non
  |bl=>cases e.symm.trans h2.bl
  |int=>let e:=e.symm.trans h2.int;injection e with e;rw[<-f8 h,e];show A60 _
  |str=>cases e.symm.trans h2.str
  |_=>show mD h
 |str=>
  let e:=h1.str;cases d2 with
  |non=>cases e.symm.trans h2.non
  |bl=>cases e.symm.trans h2.bl
  |int=>cases e.symm.trans h2.int
  |str=>let e:=e.symm.trans h2.str;injection e with e;rw[<-f8 h,<-zf,e];show A60 _
  |_=>show mD h
 |_=>show mD h
def sZ{K:Da}(ih:∀{d1 d2}{v}{k},Z.gD n d1 d2=AC k->bH K H d1 v->bH K H d2 v->k=Ch)(h:Z.allEq (Z.gD n) as bs=AC k)(ta:au K H as vs)(tb:au K H bs vs):k=Ch:=by
 let(h1,h2):=lI h;let la:=ta.n;let lb:=tb.n;rw[h1,show(as.n==bs.n)=Ch by simp;lia,AC9,A30];intro j hj;rw[A25]at hj;obtain⟨x,ex⟩:∃x,as[j]?=AC x:=(as[j]'∅,A04 ∅,)
 obtain⟨y,ey⟩:∃y,bs[j]?=AC y:=(bs[j]'∅,A04 ∅,)
 let(vx,evx,dx):=ta.get ex;let(vy,QU,dy):=tb.get ey;rw[evx]at QU;ext QU;show ih (h2 j x y ex ey) (.inl dx)<|.inl dy
def xh{a:δ}(I:Inv X B O H s)(h:l4 X.K H a xs)(h':iY X.K H a ys):False:=by let(a8,r,(o,e,c,n,d),_):=I.tuple h;let(Ad,r',(o',n',e',c',_),_):=I.list h';rw[e]at e';ext e';rw[c]at c';injection c' with z;show absurd z ∅
def sq:Z.D->Bool
|.tup _=>Ch
|.lst _=>Ch
|_=>AT
def dc:Z.D->Bool
|.dct _ _=>Ch
|_=>AT
def Ku(n:Nat)(h:(sq d1=AT/\sq d2=AT)\/dc d1=Ch\/dc d2=Ch):Z.gD n d1 d2=Z._L d1 d2:=by ext d1<;>ext d2<;>ext n<;>first|rfl|(simp[sq,dc]at h)
def GH(I:Inv X B O H s)(n:Nat)(ih:∀m,m<n->∀{d1 d2}{v}{k},Z.gD m d1 d2=AC k->bH X.K H d1 v->bH X.K H d2 v->k=Ch)(h:Z.gD n d1 d2=AC k)(h1:bH X.K H d1 v)(h2:bH X.K H d2 v):k=Ch:=by
 ext d1<;>ext d2
 case tup.tup=>
  cases n with
  |zero=>ext h
  |succ n=>let(_,_,e,q,ta):=h1.tup;let(_,_,e',q',tb):=h2.tup;rw[e]at e';ext e';let:=I.pG q q';subst this;show sZ (ih n<|A65 n) h ta tb
 case tup.lst=>let(_,_,e,q,_):=h1.tup;let(_,_,e',q',_):=h2.lst;rw[e]at e';ext e';show(xh I q q').elim
 case lst.tup=>let(_,_,e,q,_):=h1.lst;let(_,_,e',q',_):=h2.tup;rw[e]at e';ext e';show(xh I q' q).elim
 case lst.lst=>
  cases n with
  |zero=>ext h
  |succ n=>let(_,_,e,q,ta):=h1.lst;let(_,_,e',q',tb):=h2.lst;rw[e]at e';ext e';let:=I.oJ q q';subst this;show sZ (ih n<|A65 n) h ta tb
 all_goals try (show Ks ((Ku n ?_).symm.trans h) h1 h2;simp[sq,dc];done)
 all_goals first|(let(_,_,e,_):=h2.tup;rw[e]at h1)|(let(_,_,e,_):=h2.lst;rw[e]at h1)|(let(_,_,e,_):=h1.tup;rw[e]at h2)|(let(_,_,e,_):=h1.lst;rw[e]at h2)
 all_goals first|cases h1.non|cases h1.bl|cases h1.int|cases h1.str|cases h2.non|cases h2.bl|cases h2.int|cases h2.str
def AI(I:Inv X B O H s)(n:Nat):∀{d1 d2}{v}{k},Z.gD n d1 d2=AC k->bH X.K H d1 v->bH X.K H d2 v->k=Ch:=by
 induction n using Nat.strongRecOn with
 |_ n ih=>show GH I n ih
def aaD(I:Inv X B O H s)(n:Nat)(ih:∀m,m<n->∀{A}{d1 d2}{v1 v2}{u1 u2}{k},A.units+m<cLine->Z.gD m d1 d2=AC k->bH X.K H d1 v1->bH X.K H d2 v2->RelV v1 u1->RelV v2 u2->XV A s u1 u2 k/\Pi A s u1 u2 k/\TW A s u1 u2 (!k))(hu:A.units+n<cLine)(h:Z.gD n d1 d2=AC k)(h1:bH X.K H d1 v1)(h2:bH X.K H d2 v2)(r1:RelV v1 u1)(r2:RelV v2 u2):
 XV A s u1 u2 k/\Pi A s u1 u2 k/\TW A s u1 u2 (!k):=by
 let fR:A.units<cLine:=by lia
 let uA:∀{ds}{v}{u},bH X.K H (.tup ds) v->RelV v u->∃q a8,u=.ref q/\s.heap.IsTuple q a8:=λ hd rv=>by let(q,vs,rfl,hq,_):=hd.tup;ext rv;let(a8,_,p,_):=I.tuple hq;show(q,a8.q,rfl,p,)
 let uK:∀{ds}{v}{u},bH X.K H (.lst ds) v->RelV v u->∃q a8,u=.ref q/\s.heap.IsList q a8:=λ hd rv=>by let(q,vs,rfl,hq,_):=hd.lst;ext rv;let(a8,_,p,_):=I.list hq;show(q,a8.q,rfl,p.x,)
 ext d1<;>ext d2
 case non.tup=>
  obtain rfl:k=AT:=by ext n<;>ext h<;>rfl
  rw[h1.non]at r1;ext r1;let(q2,g9,rfl,p2):=uA h2 r2;show(SeqAt.RcAt.none_tuple p2 fR,SeqAt.EqAt.none_tuple p2 fR,SeqAt.RcNeAt.none_tuple p2 fR,)
 case non.lst=>
  obtain rfl:k=AT:=by ext n<;>ext h<;>rfl
  rw[h1.non]at r1;ext r1;let(q2,g9,rfl,p2):=uK h2 r2;show(SeqAt.RcAt.none_list p2 fR,SeqAt.EqAt.none_list p2 fR,SeqAt.RcNeAt.none_list p2 fR,)
 case bl.tup=>
  obtain rfl:k=AT:=by ext n<;>ext h<;>rfl
  rw[h1.bl]at r1;ext r1;let(q2,g9,rfl,p2):=uA h2 r2;show(SeqAt.RcAt.bool_tuple _ p2 fR,SeqAt.EqAt.bool_tuple _ p2 fR,SeqAt.RcNeAt.bool_tuple _ p2 fR,)
 case bl.lst=>
  obtain rfl:k=AT:=by ext n<;>ext h<;>rfl
  rw[h1.bl]at r1;ext r1;let(q2,g9,rfl,p2):=uK h2 r2;show(SeqAt.RcAt.bool_list _ p2 fR,SeqAt.EqAt.bool_list _ p2 fR,SeqAt.RcNeAt.bool_list _ p2 fR,)
 case int.tup=>
  obtain rfl:k=AT:=by ext n<;>ext h<;>rfl
  rw[h1.int]at r1;let(t1,rfl):=r1;let(q2,g9,rfl,p2):=uA h2 r2;show(SeqAt.RcAt.int_tuple _ _ p2 fR,SeqAt.EqAt.int_tuple _ _ p2 fR,SeqAt.RcNeAt.int_tuple _ _ p2 fR,)
 case int.lst=>
  obtain rfl:k=AT:=by ext n<;>ext h<;>rfl
  rw[h1.int]at r1;let(t1,rfl):=r1;let(q2,g9,rfl,p2):=uK h2 r2;show(SeqAt.RcAt.int_list _ _ p2 fR,SeqAt.EqAt.int_list _ _ p2 fR,SeqAt.RcNeAt.int_list _ _ p2 fR,)
 case str.tup=>
  obtain rfl:k=AT:=by ext n<;>ext h<;>rfl
  rw[h1.str]at r1;let(t1,rfl):=r1;let(q2,g9,rfl,p2):=uA h2 r2;show(SeqAt.RcAt.str_tuple _ _ p2 fR,SeqAt.EqAt.str_tuple _ _ p2 fR,SeqAt.RcNeAt.str_tuple _ _ p2 fR,)
 case str.lst=>
  obtain rfl:k=AT:=by ext n<;>ext h<;>rfl
  rw[h1.str]at r1;let(t1,rfl):=r1;let(q2,g9,rfl,p2):=uK h2 r2;show(SeqAt.RcAt.str_list _ _ p2 fR,SeqAt.EqAt.str_list _ _ p2 fR,SeqAt.RcNeAt.str_list _ _ p2 fR,)
 case tup.non=>
  obtain rfl:k=AT:=by ext n<;>ext h<;>rfl
  let(q1,xF,rfl,p1):=uA h1 r1;rw[h2.non]at r2;ext r2;show(SeqAt.RcAt.tuple_none p1 fR,SeqAt.EqAt.tuple_none p1 fR,SeqAt.RcNeAt.tuple_none p1 fR,)
 case tup.bl=>
  obtain rfl:k=AT:=by ext n<;>ext h<;>rfl
  let(q1,xF,rfl,p1):=uA h1 r1;rw[h2.bl]at r2;ext r2;show(SeqAt.RcAt.tuple_bool _ p1 fR,SeqAt.EqAt.tuple_bool _ p1 fR,SeqAt.RcNeAt.tuple_bool _ p1 fR,)
 case tup.int=>
  obtain rfl:k=AT:=by ext n<;>ext h<;>rfl
  let(q1,xF,rfl,p1):=uA h1 r1;rw[h2.int]at r2;let(t2,rfl):=r2;show(SeqAt.RcAt.tuple_int _ _ p1 fR,SeqAt.EqAt.tuple_int _ _ p1 fR,SeqAt.RcNeAt.tuple_int _ _ p1 fR,)
 case tup.str=>
  obtain rfl:k=AT:=by ext n<;>ext h<;>rfl
  let(q1,xF,rfl,p1):=uA h1 r1;rw[h2.str]at r2;let(t2,rfl):=r2;show(SeqAt.RcAt.tuple_str _ _ p1 fR,SeqAt.EqAt.tuple_str _ _ p1 fR,SeqAt.RcNeAt.tuple_str _ _ p1 fR,)
 case tup.lst=>
  obtain rfl:k=AT:=by ext n<;>ext h<;>rfl
  let(q1,xF,rfl,p1):=uA h1 r1;let(q2,g9,rfl,p2):=uK h2 r2;show(SeqAt.RcAt.tuple_list p1 p2 fR,SeqAt.EqAt.tuple_list p1 p2 fR,SeqAt.RcNeAt.tuple_list p1 p2 fR,)
 case lst.non=>
  obtain rfl:k=AT:=by ext n<;>ext h<;>rfl
  let(q1,xF,rfl,p1):=uK h1 r1;rw[h2.non]at r2;ext r2;show(SeqAt.RcAt.list_none p1 fR,SeqAt.EqAt.list_none p1 fR,SeqAt.RcNeAt.list_none p1 fR,)
 case lst.bl=>
  obtain rfl:k=AT:=by ext n<;>ext h<;>rfl
  let(q1,xF,rfl,p1):=uK h1 r1;rw[h2.bl]at r2;ext r2;show(SeqAt.RcAt.list_bool _ p1 fR,SeqAt.EqAt.list_bool _ p1 fR,SeqAt.RcNeAt.list_bool _ p1 fR,)
 case lst.int=>
  obtain rfl:k=AT:=by ext n<;>ext h<;>rfl
  let(q1,xF,rfl,p1):=uK h1 r1;rw[h2.int]at r2;let(t2,rfl):=r2;show(SeqAt.RcAt.list_int _ _ p1 fR,SeqAt.EqAt.list_int _ _ p1 fR,SeqAt.RcNeAt.list_int _ _ p1 fR,)
 case lst.str=>
  obtain rfl:k=AT:=by ext n<;>ext h<;>rfl
  let(q1,xF,rfl,p1):=uK h1 r1;rw[h2.str]at r2;let(t2,rfl):=r2;show(SeqAt.RcAt.list_str _ _ p1 fR,SeqAt.EqAt.list_str _ _ p1 fR,SeqAt.RcNeAt.list_str _ _ p1 fR,)
 case lst.tup=>
  obtain rfl:k=AT:=by ext n<;>ext h<;>rfl
  let(q1,xF,rfl,p1):=uK h1 r1;let(q2,g9,rfl,p2):=uA h2 r2;show(SeqAt.RcAt.list_tuple p1 p2 fR,SeqAt.EqAt.list_tuple p1 p2 fR,SeqAt.RcNeAt.list_tuple p1 p2 fR,)
 case tup.tup as bs=>
  cases n with
  |zero=>ext h
  |succ n=>
   let hk:=h;let hs:=λ(z:v1=v2)=>AI I (n+1) (d1:=.tup as) (d2:=.tup bs) (v:=v1) h h1<|z▸h2;let(q,vs,rfl,hq,ta):=h1.tup;let(q',ws,rfl,fQ,tb):=h2.tup;ext r1 r2;let(a8,ra,pa,_):=I.tuple hq;let(g9,rb,pb,_):=I.tuple fQ;let hi:=Ae I n (A:=A.in1) (show A.units+1+n<cLine by lia) (ih n<|A65 n) hk ta tb ra rb;let e:=(lI hk).1;let la:=ta.n;let lb:=tb.n;let ZY:=ra.n;let rb':=rb.n;let t1:=SeqAt.RcAt.tuples (s:=s) (A:=A) (pa) (pb) fR hi;let t2:=SeqAt.RcNeAt.tuples (s:=s) (A:=A) (pa) (pb) fR hi;erw[A12]at t1 t2;rw[<-ZY,<-rb',la,lb,<-e]at t1 t2;show(t1,?_,t2,);by_cases X3:q=q'
   .subst X3;rw[hs rfl];show C14 _
   .exact SeqAt.EqAt.of_refs X3 t1
 case lst.lst as bs=>
  cases n with
  |zero=>ext h
  |succ n=>
   let hk:=h;let hs:=λ(z:v1=v2)=>AI I (n+1) (d1:=.lst as) (d2:=.lst bs) (v:=v1) h h1<|z▸h2;let(q,vs,rfl,hq,ta):=h1.lst;let(q',ws,rfl,fQ,tb):=h2.lst;ext r1 r2;let(a8,ra,pa,_):=I.list hq;let(g9,rb,pb,_):=I.list fQ;let e:=(lI hk).1;let la:=ta.n;let lb:=tb.n;let ZY:=ra.n;let rb':=rb.n;let t:XV A s (.ref q) (.ref q') k/\TW A s (.ref q) (.ref q') (!k):=by
    by_cases ψ:as.n=bs.n
    .let hi:=Ae I n (A:=A.in1) (show A.units+1+n<cLine by lia) (ih n<|A65 n) hk ta tb ra rb;let t1:=SeqAt.RcAt.lists (s:=s) (A:=A) pa.isList pb.isList (by erw[A12];lia) fR hi;let t2:=SeqAt.RcNeAt.lists (s:=s) (A:=A) pa.isList pb.isList (by erw[A12];lia) fR hi;erw[A12]at t1 t2;rw[<-ZY,la]at t1 t2;rw[ψ,Nat.min_self,A60,AC9,<-ψ]at e;rw[<-e]at t1 t2;show(t1,t2,)
    .let:(as.n==bs.n)=AT:=by simpa using ψ
     rw[this,C07]at e;subst e;show(SeqAt.RcAt.lists_lengths pa.isList pb.isList (by erw[A12,bne_iff_ne,ne_eq];lia) fR,SeqAt.RcNeAt.lists_lengths pa.isList pb.isList (by erw[A12,bne_iff_ne,ne_eq];lia) fR,)
   show(t.1,?_,t.2,);by_cases X3:q=q'
   .subst X3;rw[hs rfl];show C14 _
   .exact SeqAt.EqAt.of_refs X3 t.1
 all_goals (show rcS ((Ku n ?_).symm.trans h) h1 h2 r1 r2;simp[sq,dc])
def Wv(I:Inv X B O H s)(n:Nat):∀{A}{d1 d2}{v1 v2}{u1 u2}{k},A.units+n<cLine->Z.gD n d1 d2=AC k->bH X.K H d1 v1->bH X.K H d2 v2->RelV v1 u1->RelV v2 u2->XV A s u1 u2 k/\Pi A s u1 u2 k/\TW A s u1 u2 (!k):=by
 induction n using Nat.strongRecOn with
 |_ n ih=>show aaD I n ih
def yj(hu:X.A.units+64<cLine):C4 X .Eq Z.oEq:=by
 let ho:iZ X (compareOp .Eq) (λ x y H Q=>∃d1 d2 k,bH X.K H d1 x/\bH X.K H d2 y/\Z.kH d1 d2=AC k/\Q (.bl k) H):=by intro B s O H x y v u Q I rx ry h;let(d1,d2,k,h1,h2,e,q):=h;show(Wv I 6 ∅ e h1 h2 rx ry).1 _ X.w X.xe _ ⟨.bl k,H,I,rfl,q⟩
 show⟨_,ho,λ x y dx dy d H Q h1 h2 e k=>by
  unfold Z.oEq at e;split at e
  .rename_i z hz;ext e;show(dx,dy,z,h1,h2,hz,k _ H (az.refl H) cA,)
  .ext e⟩
def CH(hu:X.A.units+64<cLine):C4 X .NotEq Z.l_:=by
 let ho:iZ X (compareOp .NotEq) (λ x y H Q=>∃d1 d2 k,bH X.K H d1 x/\bH X.K H d2 y/\Z.kH d1 d2=AC k/\Q (.bl<|!k) H):=by intro B s O H x y v u Q I rx ry h;let(d1,d2,k,h1,h2,e,q):=h;show(Wv I 6 ∅ e h1 h2 rx ry).2.2 _ X.w X.xe _ ⟨.bl<|!k,H,I,rfl,q⟩
 show⟨_,ho,λ x y dx dy d H Q h1 h2 e k=>by
  unfold Z.l_ at e;split at e
  .rename_i z hz;ext e;show(dx,dy,z,h1,h2,hz,k _ H (az.refl H) cA,)
  .ext e⟩
def JQ:∀{a b},Gf a=Gf b->a=b
|.inl a,.inl b,h=>by injection h with h;rw[h]
|.inl _,.inr _,h=>by ext h
|.inr _,.inl _,h=>by ext h
|.inr a,.inr b,h=>by
 injection h with h
 injection h with h
 let:a=b:=by simpa using A14 UV h
 rw[this]
def vQ:∀{a b:U _},a.map Gf=b.map Gf->a=b
|[],[],_=>rfl
|[],_::_,h=>by ext h
|_::_,[],h=>by ext h
|a::as,b::bs,h=>by erw[A00,B00]at h;rw[JQ h.1,vQ h.2]
def EV{a:δ}(I:Inv X B O H s)(hq:H a=AC (.dW o<|.dK aQ)):∃o',s.heap.get? a=AC o'/\o'.cls=.type "dict":=by
 obtain⟨_,_,_,_,_,o',es,ep,h1,h2,_⟩:=(I.bO a _ hq)
 show(o',h1,h2.1,)
def Io{a:δ}(I:Inv X B O H s)(h:l4 X.K H a xs)(h':H a=AC (.dW o<|.dK aQ)):False:=by let(a8,r,(o1,e,c,n,d),_):=I.tuple h;let(o2,e',c'):=EV I h';rw[e]at e';ext e';rw[c]at c';injection c' with z;show absurd z ∅
def Ip{a:δ}(I:Inv X B O H s)(h:iY X.K H a xs)(h':H a=AC (.dW o<|.dK aQ)):False:=by let(a8,r,(o1,n,e,c,_),_):=I.list h;let(o2,e',c'):=EV I h';rw[e]at e';ext e';rw[c]at c';injection c' with z;show absurd z ∅
mutual
theorem Den.inj{B:U (δ×μ)}{O:St}{H:Hp}{s:θ}(I:Inv X B O H s):∀(d1 d2:Z.D)(v:V),Den X.K H d1 v->Den X.K H d2 v->d1=d2
|.non,d2,v,h1,h2=>by
 erw[Den]at h1;subst h1;ext d2<;>erw[Den]at h2<;>first|rfl|(ext h2;done)|skip
 case tup=>let(_,_,e,_):=h2;ext e
 case lst=>let(_,_,e,_):=h2;ext e
 case dct=>let(_,_,_,e,_):=h2;ext e
|.bl b,d2,v,h1,h2=>by
 erw[Den]at h1;subst h1;ext d2<;>erw[Den]at h2<;>first|(injection h2 with h2;rw[h2])|(ext h2;done)|skip
 case tup=>let(_,_,e,_):=h2;ext e
 case lst=>let(_,_,e,_):=h2;ext e
 case dct=>let(_,_,_,e,_):=h2;ext e
|.int i,d2,v,h1,h2=>by
 erw[Den]at h1;subst h1;ext d2<;>erw[Den]at h2<;>first|(injection h2 with h2;rw[h2])|(ext h2;done)|skip
 case tup=>let(_,_,e,_):=h2;ext e
 case lst=>let(_,_,e,_):=h2;ext e
 case dct=>let(_,_,_,e,_):=h2;ext e
|.str cs,d2,v,h1,h2=>by
 erw[Den]at h1;subst h1;ext d2<;>erw[Den]at h2<;>first|(injection h2 with h2;injection h2 with h2;let:=A14 UV h2;simp at this;rw[this])|(ext h2;done)|skip
 case tup=>let(_,_,e,_):=h2;ext e
 case lst=>let(_,_,e,_):=h2;ext e
 case dct=>let(_,_,_,e,_):=h2;ext e
|.tup ds,d2,v,h1,h2=>by
 erw[Den]at h1;let(a,vs,rfl,q,t):=h1;ext d2<;>erw[Den]at h2
 case tup es=>let(a',vs',e,q',t'):=h2;ext e;rw[I.pG q' q]at t';rw[au.inj I ds es vs t t']
 case lst es=>let(a',vs',e,q',t'):=h2;ext e;show(xh I q q'.sq).elim
 case dct ks es=>let(a',o,aQ,e,q',_):=h2;ext e;show(Io I q q').elim
 all_goals ext h2
|.lst ds,d2,v,h1,h2=>by
 erw[Den]at h1;let(a,vs,rfl,q,t):=h1;ext d2<;>erw[Den]at h2
 case lst es=>let(a',vs',e,q',t'):=h2;ext e;rw[I.oJ q'.sq q.sq]at t';rw[au.inj I ds es vs t t']
 case tup es=>let(a',vs',e,q',t'):=h2;ext e;show(xh I q' q.sq).elim
 case dct ks es=>let(a',o,aQ,e,q',_):=h2;ext e;show(Ip I q.sq q').elim
 all_goals ext h2
|.dct ks ds,d2,v,h1,h2=>by
 erw[Den]at h1;let(a,o,aQ,rfl,q,hk,t,_):=h1;ext d2<;>erw[Den]at h2
 case lst es=>let(a',vs',e,q',t'):=h2;ext e;show(Ip I q'.sq q).elim
 case tup es=>let(a',vs',e,q',t'):=h2;ext e;show(Io I q' q).elim
 case dct ks' es=>let(a',o',agc,e,q',X?,t',_):=h2;ext e;rw[q]at q';ext q';rw[au.inj I ds es _ t t',vQ<|hk.symm.trans X?]
 all_goals ext h2
theorem au.inj{B:U (δ×μ)}{O:St}{H:Hp}{s:θ}(I:Inv X B O H s):∀(d1 d2:U Z.D)(v:U V),au X.K H d1 v->au X.K H d2 v->d1=d2
|[],d2,v,h1,h2=>by
 erw[au]at h1;subst h1;cases d2 with
 |nil=>rfl
 |cons d ds=>erw[au]at h2;let(_,_,e,_):=h2;ext e
|d::ds,d2,v,h1,h2=>by
 erw[au]at h1;let(u,r,rfl,q,t):=h1;cases d2 with
 |nil=>erw[au]at h2;ext h2
 |cons d' _Q=>erw[au]at h2;let(u',r',e,q',t'):=h2;ext e;rw[Den.inj I d d' u q q',au.inj I ds _Q r t t']
end
def ub:∀{ys}{k},Z.fM x ys=AC k->k=ys.any (λ y=>(Z.kH y x).getD AT)/\∀y∈ys,Z.kH y x=AC ((Z.kH y x).getD AT)
|[],k,h=>by ext h;show⟨rfl,λ y hy=>by ext hy⟩
|y::ys,k,h=>by
 unfold Z.fM at h;split at h
 .rename_i a b ea eb;ext h;let(h1,h2):=ub eb;show⟨by rw[B11,ea,h1];rfl,λ z hz=>?_⟩;rcases A01.mp hz with rfl|hz
  .rw[ea];rfl
  .exact h2 z hz
 .ext h
def xI(I:Inv X B O H s)(hu:A.units+60<cLine)(hx:bH X.K H x v)(rx:RelV v u):∀{ys}{vs}{us},au X.K H ys vs->Vals vs us->(∀y∈ys,Z.kH y x=AC ((Z.kH y x).getD AT)) ->
 ∃e,(∀w∈us,Pi A s w u (e w))/\us.any e=ys.any (λ y=>(Z.kH y x).getD AT):=by
 intro ys vs us;let key:∀{ys}{vs}{us},au X.K H ys vs->Vals vs us->(∀y∈ys,Z.kH y x=AC ((Z.kH y x).getD AT))->(∀w∈us,∃b,Pi A s w u b)/\∀e,(∀w∈us,∀y vy,Den X.K H y vy->RelV vy w->y∈ys->e w=(Z.kH y x).getD AT)->us.any e=ys.any (λ y=>(Z.kH y x).getD AT):=by
  intro ys
  induction ys with
  |nil=>intro vs us t r _;erw[au]at t;subst t;ext r;show(λ w hw=>(by ext hw),λ _ _=>rfl,)
  |cons y ys ih=>
   intro vs us t r hh;erw[au]at t;let(vy,vr,rfl,dy,tr):=t;cases r with
   |cons ry rr=>
    let(h1,h2):=ih tr rr (λ z hz=>hh z<|A09 _ hz);show(λ w hw=>?_,λ e he=>?_,)
    .rcases A01.mp hw with rfl|hw
     .exact⟨_,(Wv I 6 ∅ (hh y A13) (.inl dy) hx ry rx).2.1⟩
     .exact h1 w hw
    .rw[B11,B11,he _ A13 y vy dy ry A13,h2 e λ w hw z vz dz rz hz=>he w (A09 _ hw) z vz dz rz<|A09 _ hz]
 intro t r hh
 classical
 refine_lift let e:=λ w=>if h:∃y vy,Den X.K H y vy/\RelV vy w/\y∈ys then(Z.kH h.choose x).getD AT else AT;?_
 let he:∀w y vy,Den X.K H y vy->RelV vy w->y∈ys->e w=(Z.kH y x).getD AT:=by
  intro w y vy dy ry hy;let hex:∃y vy,Den X.K H y vy/\RelV vy w/\y∈ys:=(y,vy,dy,ry,hy,)
  change(if h:_ then _ else _)=_;rw[A96 hex];let(vy',dy',ry',Gq):=hex.choose_spec;let ev:=ry'.inj ry;subst ev;rw[Den.inj I _ _ _ dy' dy]
 show(e,λ w hw=>?_,(key t r hh).2 e λ w hw y vy dy ry hy=>he w y vy dy ry hy,);let(j,hj,ej):=lv hw;let hl:=r.n;let ht:=t.n;obtain⟨y,ey⟩:∃y,ys[j]?=AC y:=(ys[j]'∅,A04 ∅,)
 let(vy,QU,dy):=t.get ey;let(u',eu',Ws):=r.get QU;let:u'=w:=by let:=A04 hj;rw[eu',ej]at this;show f8 this
 subst this;let hy:=A21 ey;rw[he _ y vy dy Ws hy];show(Wv I 6 ∅ (hh y hy) (.inl dy) hx Ws rx).2.1
def R_(hu:X.A.units+64<cLine):iZ X (compareOp .In) (λ x y H Q=>∃d ys q vs k,bH X.K H d x/\y=.ref q/\(iY X.K H q vs\/l4 X.K H q vs)/\au X.K H ys vs/\Z.fM d ys=AC k/\Q (.bl k) H):=by
 intro B s O H x y v u Q I rx ry h;let(d,ys,q,vs,k,hd,rfl,hq,t,e,k'):=h;ext ry;let(e1,e2):=ub e;subst e1;rcases hq with hq|hq
 .let(a8,r,pl,hz):=I.list hq;let(f,hf,Gw):=xI I (A:=X.A.in1) (show X.A.units+1+60<cLine by lia) hd rx t r e2;show SeqAt.in_listAt f pl.isList (λ w hw=>hf w (by calc hw)) ⟨.bl _,H,I,rfl,?_⟩;rw[show a8.toArray.any f=a8.any f by simp,Gw];show k'
 .let(a8,r,pl,hz):=I.tuple hq;let(f,hf,Gw):=xI I (A:=X.A.in1) (show X.A.units+1+60<cLine by lia) hd rx t r e2;show SeqAt.in_tupleAt f pl (λ w hw=>hf w (by calc hw)) ⟨.bl _,H,I,rfl,?_⟩;rw[show a8.toArray.any f=a8.any f by simp,Gw];show k'
def FU(hu:X.A.units+64<cLine):iZ X (compareOp .NotIn) (λ x y H Q=>∃d ys q vs k,bH X.K H d x/\y=.ref q/\(iY X.K H q vs\/l4 X.K H q vs)/\au X.K H ys vs/\Z.fM d ys=AC k/\Q (.bl<|!k) H):=by
 intro B s O H x y v u Q I rx ry h;let(d,ys,q,vs,k,hd,rfl,hq,t,e,k'):=h;ext ry;let(e1,e2):=ub e;subst e1;rcases hq with hq|hq
 .let(a8,r,pl,hz):=I.list hq;let(f,hf,Gw):=xI I (A:=X.A.in1) (show X.A.units+1+60<cLine by lia) hd rx t r e2;show SeqAt.notIn_listAt f pl.isList (λ w hw=>hf w (by calc hw)) ⟨.bl _,H,I,rfl,?_⟩;rw[show a8.toArray.any f=a8.any f by simp,Gw];show k'
 .let(a8,r,pl,hz):=I.tuple hq;let(f,hf,Gw):=xI I (A:=X.A.in1) (show X.A.units+1+60<cLine by lia) hd rx t r e2;show SeqAt.notIn_tupleAt f pl (λ w hw=>hf w (by calc hw)) ⟨.bl _,H,I,rfl,?_⟩;rw[show a8.toArray.any f=a8.any f by simp,Gw];show k'
def CJ(hu:X.A.units+64<cLine):C4 X .In Z.uI:=⟨_,R_ hu,λ x y dx dy d H Q h1 h2 e k=>by
 unfold Z.uI at e;split at e
 .split at e
  .rename_i b hb;ext e;let(q,vs,rfl,hq,t):=h2.tup;show(dx,_,q,vs,b,h1,rfl,.inr hq,t,hb,k _ H (az.refl H) cA,)
  .ext e
 .split at e
  .rename_i b hb;ext e;let(q,vs,rfl,hq,t):=h2.lst;show(dx,_,q,vs,b,h1,rfl,.inl hq,t,hb,k _ H (az.refl H) cA,)
  .ext e
 .ext e⟩
def lW(hu:X.A.units+64<cLine):C4 X .NotIn Z.kZ:=⟨_,FU hu,λ x y dx dy d H Q h1 h2 e k=>by
 unfold Z.kZ at e;split at e
 .split at e
  .rename_i b hb;ext e;let(q,vs,rfl,hq,t):=h2.tup;show(dx,_,q,vs,b,h1,rfl,.inr hq,t,hb,k _ H (az.refl H) cA,)
  .ext e
 .split at e
  .rename_i b hb;ext e;let(q,vs,rfl,hq,t):=h2.lst;show(dx,_,q,vs,b,h1,rfl,.inl hq,t,hb,k _ H (az.refl H) cA,)
  .ext e
 .ext e⟩
def E7:∀{xs}{k},Z.allB xs=AC k->∃bs:U Bool,xs=bs.map Z.D.bl/\k=bs.all id
|[],k,h=>by ext h;show([],rfl,rfl,)
|x::xs,k,h=>by
 cases x with
 |bl b=>
  let h':(Z.allB xs).map _=AC k:=h;cases q:Z.allB xs with
  |none=>rw[q]at h';ext h'
  |some k'=>rw[q]at h';ext h';let(bs,rfl,rfl):=E7 q;show(b::bs,rfl,rfl,)
 |non=>ext h
 |int _=>ext h
 |str _=>ext h
 |tup _=>ext h
 |lst _=>ext h
 |dct _ _=>ext h
def AS{K:Da}:∀{bs:U Bool}{vs},au K H (bs.map Z.D.bl) vs->vs=bs.map V.bl
|[],vs,h=>by erw[A28]at h;subst h;rfl
|b::bs,vs,h=>by erw[A00]at h;let(v,r,rfl,hv,ht):=h;erw[Den]at hv;rw[hv,AS ht];rfl
def all_range(bs:U Bool):((EQ bs.n).all λ i=>bs[i]?.getD Ch)=bs.all id:=by
 induction bs with
 |nil=>rfl
 |cons b bs ih=>
  rw[A29,C62,C15,B69,C15];let:((λ i=>((b::bs)[i]?).getD Ch)∘Nat.succ)=λ i=>bs[i]?.getD Ch:=by funext i;simp
  rw[this,ih];simp
def G3(hc:X.calm=Ch):mM X (.builtin "all") (λ xs H Q=>∃(q:δ)(bs:U Bool),xs=[.ref q]/\iY X.K H q (bs.map V.bl)/\Q (.bl<|bs.all id) H):=by
 intro B s O H xs us Q I r h;let(q,bs,rfl,hq,k):=h;let(u,rfl,ru):=vals1 r;ext ru;let(a8,rv,pl,hz):=I.list hq;let hl:=rv.n;rw[A08]at hl;let jO:q<s.t:=by let(_,e,_):=pl.x;show A05 e
 let hh:X.A.in1.handled=At:=I.ok.hd hc;show call_all_walk<|B15 pl.isList ?_;show(_,[s.t,q],[s.t],_,_,_,λ i=>bs[i]?.getD Ch,rfl,Walks.list hh _ q (A16 jO) _,((_,A17 _ rfl,rfl,rfl,),pl.isList.push _,),?_,λ h' tk hk=>?_,)
 .intro i v s' Q' E' hv hQ;let hi:a8[i]?=AC v:=by simpa using hv
  let(hi1,_):=A02.mp hi;let hb:(bs.map V.bl)[i]?=AC (V.bl<|bs[i]'∅):=by rw[A06,A04];rfl
  let(u,hu,ru):=rv.get hb;rw[hi]at hu;ext hu ru;show A66 ?_;let:bs[i]?.getD Ch=bs[i]'∅:=by rw[A04];rfl
  rw[<-this];show hQ
 .let I1:Inv X B O H {s with heap:=s.heap.push {cls:=.type "list_iterator",data:=.fields #[.ref q,.int 0 0]}}:=I.kept λ b o e=>A03 _ e;let(f0,f1,f2,f3,f4,f5):=I.uP (P3 s.t) I.fresh;let I2:=I1.turned (t':=tk) (λ b o hb e=>hk b o (by calc hb) e) f0 f1 f3 f4 f5;show(.bl _,H,I2,rfl,?_,);let e:(EQ a8.q.u).all (λ i=>bs[i]?.getD Ch)=bs.all id:=by rw[A12,<-hl,all_range]
  rw[e];show k
def ZQ.Pa(hm:X.mg x=At)(ha:ZQ.QW X a fa)(hc:X.calm=Ch:=by rfl)(hn:x≠ "__name__":=by decide +kernel)(ie:Nd x:=by kernel_rfl)(he:Se a [] X.J:=by rfl)(fC:Pn pos [] X.J:=by rfl)(hg:Gl X x:=by rfl)(hv:bootBuiltins x=AC (.builtin "all"):=by kernel_rfl):ZQ.QE X (.Call (.Name x p1) [a] [] pos) (Z.eU Z.i4 fa):=
 ⟨PE.imp (jy (G3 hc) hg hm hv (bw ha.p cE he) hn ie he fC) <|by
  rintro O H Q ⟨Y,d,r,e,k⟩;let(x,ea,e):=ac e;show(Y,x,r,ea,λ v H1 s1 d1=>?_,);unfold Z.i4 at e;split at e
  .split at e
   .rename_i xs k' hk;ext e;let(bs,rfl,rfl):=E7 hk;let(q,vs,rfl,hq,t):=d1.lst;rw[AS t]at hq;show(q,bs,rfl,hq,k _ H1 s1 cA,)
   .ext e
  .ext e⟩
end
def ZQ.gE(ha:ZQ.QE X (.Constant v j p) f)(hr:ZQ.QA X es g):ZQ.QA X ((.Constant v j p)::es) (Z.ai f g):=⟨jg ha.p hr.p rfl⟩
def ZQ.aM(ha:ZQ.QE X (.Name x p) f)(hr:ZQ.QA X es g):ZQ.QA X ((.Name x p)::es) (Z.ai f g):=⟨jg ha.p hr.p rfl⟩
def ZQ.GS(ha:ZQ.QE X (.Tuple xs j p) f)(hr:ZQ.QA X es g):ZQ.QA X ((.Tuple xs j p)::es) (Z.ai f g):=⟨jg ha.p hr.p rfl⟩
def ZQ.K9(ha:ZQ.QE X (.List xs p) f)(hr:ZQ.QA X es g):ZQ.QA X ((.List xs p)::es) (Z.ai f g):=⟨jg ha.p hr.p rfl⟩
def ZQ.yh(ha:ZQ.QE X (.BinOp x o y p) f)(hr:ZQ.QA X es g):ZQ.QA X ((.BinOp x o y p)::es) (Z.ai f g):=⟨jg ha.p hr.p rfl⟩
def ZQ.jK(ha:ZQ.QE X (.Call x xs ks p) f)(hr:ZQ.QA X es g):ZQ.QA X ((.Call x xs ks p)::es) (Z.ai f g):=⟨jg ha.p hr.p rfl⟩
def ZQ.EU(ha:ZQ.QE X (.Subscript x y p) f)(hr:ZQ.QA X es g):ZQ.QA X ((.Subscript x y p)::es) (Z.ai f g):=⟨jg ha.p hr.p rfl⟩
def ZQ.K'(ha:ZQ.QE X (.Attribute x n p) f)(hr:ZQ.QA X es g):ZQ.QA X ((.Attribute x n p)::es) (Z.ai f g):=⟨jg ha.p hr.p rfl⟩
end ZS
namespace ZQ
open L2 ZS
def ZS.Bb(h:(sc.kind=.function/\sc.isCoroutine=AT/\sc.isGenerator=AT)/\N.take P.n=P:=by show((rfl,rfl,rfl,),rfl,))(h4:decide (N.Nodup/\(∀x∈P,sc.names.lookup x=AC .local\/sc.names.lookup x=AC .cell)/\∀y∈sc.j,y.2≠.free)=Ch:=by kernel_rfl):aW N P sc:=have q:=B17 h4;⟨h.1.1,h.1.2.1,h.1.2.2,q.1,h.2,q.2.1,q.2.2⟩
def EY{K:Da}{st:η}(d:ZS.Def K mg x st ps)(hb:∀{f}{a5}{A}{outer}{s}{H}{E},N.Nodup->(A.deeper<|envOfC x (aa st) s.heap.objs.size f a5).units+64<cLine->bu k (A.deeper<|envOfC x (aa st) s.heap.objs.size f a5)->va (c! hV P w K mg base N x (aa st) f a5 A outer s H E).gO H (aC st) b)(S:aW N ps (aa st):=by show ZS.Bb):ZS.C5 P w K mg base x (k+1) ps (Z.fn ps.length N.length b):=ZS.C5.mk' d S λ f a5 A outer s H E hr=>(hb S.nd hr.units hr).p
def acE{K:Da}{st:η}(F:Bg K x qual st f fd)(hb:∀{a5}{A}{outer}{s}{H}{E},N.Nodup->(A.deeper<|envOfC qual (aa st) s.heap.objs.size f a5).units+64<cLine->bu k (A.deeper<|envOfC qual (aa st) s.heap.objs.size f a5)->va (c! hV P w K mg base N qual (aa st) f a5 A outer s H E).gO H (aC st) b)(S:aW N ps (aa st):=by show ZS.Bb):ee P w K mg base hV (k+1) f fd ps (ZS.yw K<|Z.fn ps.length N.length b):=ZS.fnZ F S λ a5 A outer s H E hr=>(hb S.nd hr.units hr).p
end ZQ
namespace Z
def gw:D->Res D
|.lst xs=>.ok<|.tup xs
|.tup xs=>.ok<|.tup xs
|_=>.bad
@[simp] def Sx(xs:U D):gw (.lst xs)=.ok (.tup xs):=rfl
def aL:U Nat:=[97,98,99,100,101,102,103,104,105,106,107,108,109,110,111,112,113,114,115,116,117,118,119,120,121,122]
def signs:U Nat:=[46,61,35,97,98,99,100,101,102,103,104,105,106,107,108,109,110,111,112,113,114,115,116,117,118,119,120,121,122]
def F4:D->D->Res D
|.int i,.int j=>.ok<|.int<|max i j
|_,_=>.bad
@[simp] def W4(i j:Int):F4 (.int i) (.int j)=.ok (.int<|max i j):=rfl
def Jc:D->D->Res D
|.int i,.int j=>.ok<|.int<|min i j
|_,_=>.bad
@[simp] def W3(i j:Int):Jc (.int i) (.int j)=.ok (.int<|min i j):=rfl
def zH:D->Res D
|.int i=>.ok<|.int i
|.bl b=>.ok<|.int<|if b then 1 else 0
|_=>.bad
@[simp] def Z9(b:Bool):zH (.bl b)=.ok (.int<|if b then 1 else 0):=rfl
def t8(x:D):U D->ε Nat
|[]=>AC 0
|y::r=>match kH y x,t8 x r with
 |some a,AC b=>AC<|b+(if a then 1 else 0)
 |_,_=>At
def xw:D->D->Res D
|.lst ys,x=>match t8 x ys with
 |some n=>.ok<|.int n
 |none=>.bad
|_,_=>.bad
def ze:U D->ε Int
|[]=>AC 0
|.int i::r=>(ze r).map (i+·)
|_::_=>At
def Ja:D->Res D
|.lst xs=>match ze xs with
 |some i=>.ok<|.int i
 |none=>.bad
|_=>.bad
def vh:∀(ns:U Int),ze (ns.map D.int)=AC ns.sum
|[]=>rfl
|n::ns=>by simp[ze,vh ns]
def FH(i:Nat)(l:LF)(Y:Env):Res Fl:=(l Y).bind λ ys=>match Y[i]? with
|some<|some<|.own xs=>guard (xs.n+ys.n<=line)<|.ok<|.nx<|Y.set i<|some<|.own<|xs++ys
|_=>.bad
def pair(a b:D):D:=.tup [a,b]
def kG(k:Nat):U D->U D
|[]=>[]
|d::ds=>pair (.int k) d::kG (k+1) ds
def fO:U D->U D->U D
|a::as,b::bs=>pair a b::fO as bs
|_,_=>[]
@[simp] def Es(a:EF)(Y:Env):Res (U D):=(a Y).bind λ x=>(jc x).bind λ ds=>.ok<|kG 0 ds
def RA:D->Res (U D)
|.tup xs=>.ok xs
|.lst xs=>.ok xs
|_=>.bad
@[simp] def Wi(xs:U D):RA (.tup xs)=.ok xs:=rfl
@[simp] def Wj(xs:U D):RA (.lst xs)=.ok xs:=rfl
def V3:D->Res (U D)
|.tup xs=>.ok xs
|_=>.bad
@[simp] def V2(xs:U D):V3 (.tup xs)=.ok xs:=rfl
@[simp] def Gn(a b:EF)(Y:Env):Res (U D):=(a Y).bind λ x=>(b Y).bind λ y=>(RA x).bind λ xs=>(V3 y).bind λ ys=>.ok<|fO xs ys
end Z
namespace ZS
open L2
section
variable{X:Cx}
def ZQ.wa(hm:X.mg x=At)(ha:ZQ.QW X a fa)(hn:x≠ "__name__":=by decide +kernel)(ie:Nd x:=by kernel_rfl)(he:Se a [] X.J:=by rfl)(fC:Pn pos [] X.J:=by rfl)(hg:Gl X x:=by rfl)(hv:bootBuiltins x=AC (.type "tuple"):=by kernel_rfl):ZQ.QE X (.Call (.Name x p1) [a] [] pos) (Z.eU Z.gw fa):=
 ⟨PE.imp (vt u9 hg hm hv (bw ha.p cE he) hn ie he fC) <|by
  rintro O H Q ⟨Y,d,r,e,k⟩;let(x,ea,e):=ac e;show(Y,x,r,ea,λ v H1 s1 d1=>?_,);unfold Z.gw at e;split at e
  .ext e;let(q,vs,rfl,hq,t):=d1.lst;show(q,vs,rfl,.inl ⟨hq,λ l hl=>?_⟩,);let s2:az H1 (upd H1 l<|.tup vs):=b? hl;show k _ _ (s1.trans s2)<|fq (.inl<|.inl aE)<|t.up s2
  .ext e;let(q,vs,rfl,hq,t):=d1.tup;show(q,vs,rfl,.inr ⟨hq,k _ H1 s1<|fq hq t⟩,)
  .ext e⟩
end
end ZS
namespace ZQ
open L2 ZS
theorem Um(ho:PE X o (jS i))(ha:QE X a fa)(hs:swapsWith (.Call (.Attribute o "append" p1) [a] [] p2) At pos.line X.J=pure AT:=by rfl)(oP:Se a [] X.J:=by rfl)
 (eZ:attributeBase o "append" X.env (eval o X.J)=eval o X.J:=by rfl)
 (lg:((backTo p2<|starEach (a::[]) X.J).all (λ x=>!x.1)&&(backToKw p2<|keywordEach [] X.J).all (λ x=>x.1.isSome)
  && decide ((a::[]).length+([]:U π).length+(if([]:U π).isEmpty then 0 else 1)<30))=Ch:=by rfl)
 (eT:(p1.endLine==p2.line)=Ch:=by rfl) (gA:Pn p2 [] X.J:=by rfl) :
 QS X H0 (.Expr (.Call (.Attribute o "append" p1) [a] [] p2) pos) (Z.b9 i fa):=
 ⟨ZS.GQ ho ha.p hs oP<|vv B40 C63 C64 pR ho (bw ha.p cE oP) eZ lg eT oP gA⟩
end ZQ
namespace ZS
open L2
section
variable{X:Cx}
def SU(i j:Int):(if j>i then j else i)=max i j:=by split<;>lia
def SS(i j:Int):(if j<i then j else i)=min i j:=by split<;>lia
def ZQ.ES(hg:Gl X x)(hm:X.mg x=At)(hv:bootBuiltins x=AC (.builtin "max"))(ha:ZQ.QW X a fa)(hb:ZQ.QW X b fb)(hc:X.calm=Ch:=by rfl)(hn:x≠ "__name__":=by decide +kernel)(ie:Nd x:=by kernel_rfl)
 (he:Se a [b] X.J:=by rfl) (QB:Se b [] X.J:=by rfl) (fC:(backTo pos<|starEach [b] X.J).any (·.1)=AT:=by rfl):ZQ.QE X (.Call (.Name x p1) [a,b] [] pos) (Z.eB Z.F4 fa fb):=
 ⟨PE.imp (jy (G1 hc) hg hm hv (bw ha.p (bw hb.p cE QB) he) hn ie he fC) <|by
  rintro O H Q ⟨Y,d,r,e,k⟩;let(x,ea,e):=ac e;let(y,eb,e):=ac e;show(Y,x,r,ea,λ v H1 s1 d1=>(Y,y,r.up s1,eb,λ u H2 s2 d2=>?_,),);obtain⟨i,j,rfl,rfl,rfl⟩:∃i j,x=.int i/\y=.int j/\d=.int (max i j):=by
   unfold Z.F4 at e;split at e
   .ext e;show(_,_,rfl,rfl,rfl,)
   .ext e
  show⟨i,j,by rw[d1.int,d2.int],?_⟩;rw[SU];show k _ H2 (s1.trans s2) cI⟩
def ZQ.EO(hg:Gl X x)(hm:X.mg x=At)(hv:bootBuiltins x=AC (.builtin "min"))(ha:ZQ.QW X a fa)(hb:ZQ.QW X b fb)(hc:X.calm=Ch:=by rfl)(hn:x≠ "__name__":=by decide +kernel)(ie:Nd x:=by kernel_rfl)
 (he:Se a [b] X.J:=by rfl) (QB:Se b [] X.J:=by rfl) (fC:(backTo pos<|starEach [b] X.J).any (·.1)=AT:=by rfl):ZQ.QE X (.Call (.Name x p1) [a,b] [] pos) (Z.eB Z.Jc fa fb):=
 ⟨PE.imp (jy (GZ hc) hg hm hv (bw ha.p (bw hb.p cE QB) he) hn ie he fC) <|by
  rintro O H Q ⟨Y,d,r,e,k⟩;let(x,ea,e):=ac e;let(y,eb,e):=ac e;show(Y,x,r,ea,λ v H1 s1 d1=>(Y,y,r.up s1,eb,λ u H2 s2 d2=>?_,),);obtain⟨i,j,rfl,rfl,rfl⟩:∃i j,x=.int i/\y=.int j/\d=.int (min i j):=by
   unfold Z.Jc at e;split at e
   .ext e;show(_,_,rfl,rfl,rfl,)
   .ext e
  show⟨i,j,by rw[d1.int,d2.int],?_⟩;rw[SS];show k _ H2 (s1.trans s2) cI⟩
def ZQ.O8(hg:Gl X x)(hm:X.mg x=At)(hv:bootBuiltins x=AC (.type "int"))(ha:ZQ.QW X a fa)(hn:x≠ "__name__":=by decide +kernel)(ie:Nd x:=by kernel_rfl)
 (he:Se a [] X.J:=by rfl) (fC:Pn pos [] X.J:=by rfl):ZQ.QE X (.Call (.Name x p1) [a] [] pos) (Z.eU Z.zH fa):=
 ⟨PE.imp (vt G2 hg hm hv (bw ha.p cE he) hn ie he fC) <|by
  rintro O H Q ⟨Y,d,r,e,k⟩;let(x,ea,e):=ac e;show(Y,x,r,ea,λ v H1 s1 d1=>?_,);unfold Z.zH at e;split at e
  .ext e;show .inl ⟨_,by rw[d1.int],k _ H1 s1 cI⟩
  .ext e;show .inr ⟨_,by rw[d1.bl],k _ H1 s1 cI⟩
  .ext e⟩
theorem GN(hs:swapsWith (.Call (.Attribute o "extend" p1) [a] [] p2) At pos.line X.J=pure AT:=by rfl)
 (hbm:PE X (.Call (.Attribute o "extend" p1) [a] [] p2) (tBM X.K "list" Dy (jS i)<|HW (tZl X.K l) My)) :
 DS X H0 (.Expr (.Call (.Attribute o "extend" p1) [a] [] p2) pos) (Z.FH i l):=PS.imp (oy hbm hs) <| by
 rintro D O H ⟨Y,fl,rs,e,k⟩;let(ys,ea,e):=ac e;split at e
 .rename_i xs ei;unfold Z.guard at e;split at e
  .rename_i hl;ext e;let(v,si,q,us,rfl,hq,t):=rs.re.get i _ ei;show(_,si,.inl ⟨rfl,us,iY.of hq⟩,Y,ys,rs.re,ea,λ c vs H1 s1 hn hc tc=>?_,);let Tw:=s1 _ _ hq;show⟨q,c,us,vs,rfl,rfl,Tw,hc,by rw[t.n,tc.n,A32];show hl,?_⟩;show k O _ ((i_ s1).trans<|gN Tw)<|(rs.up s1).chg ei si Tw<|(t.up s1).append tc
  .ext e
 .ext e
def AY:∀{ys}{k},Z.t8 x ys=AC k->k=ys.countP (λ y=>(Z.kH y x).getD AT)/\∀y∈ys,Z.kH y x=AC ((Z.kH y x).getD AT)
|[],k,h=>by ext h;show⟨rfl,λ y hy=>by ext hy⟩
|y::ys,k,h=>by
 unfold Z.t8 at h;split at h
 .rename_i a b ea eb;ext h;let(h1,h2):=AY eb;show⟨by rw[B41,ea,h1];rfl,λ z hz=>?_⟩;rcases A01.mp hz with rfl|hz
  .rw[ea];rfl
  .exact h2 z hz
 .ext h
def Pf(I:Inv X B O H s)(hu:A.units+60<cLine)(hx:bH X.K H x v)(rx:RelV v u)(t:au X.K H ys vs)(r:Vals vs us)(hh:∀y∈ys,Z.kH y x=AC ((Z.kH y x).getD AT)):
 ∃e,(∀w∈us,Pi A s w u (e w))/\us.countP e=ys.countP (λ y=>(Z.kH y x).getD AT):=by
 classical
 refine_lift let e:=λ w=>if h:∃y vy,Den X.K H y vy/\RelV vy w/\y∈ys then(Z.kH h.choose x).getD AT else AT;?_
 let he:∀w y vy,Den X.K H y vy->RelV vy w->y∈ys->e w=(Z.kH y x).getD AT:=by
  intro w y vy dy ry hy;let hex:∃y vy,Den X.K H y vy/\RelV vy w/\y∈ys:=(y,vy,dy,ry,hy,)
  change(if h:_ then _ else _)=_;rw[A96 hex];let(vy',dy',ry',Gq):=hex.choose_spec;let ev:=ry'.inj ry;subst ev;rw[Den.inj I _ _ _ dy' dy]
 let cnt:∀{zs}{vs}{us},au X.K H zs vs->Vals vs us->(∀z∈zs,z∈ys)->us.countP e=zs.countP (λ y=>(Z.kH y x).getD AT):=by
  intro zs
  induction zs with
  |nil=>intro vs us t r _;erw[au]at t;subst t;ext r;rfl
  |cons z zs ih=>
   intro vs us t r hm;erw[au]at t;let(vy,vr,rfl,dy,tr):=t;cases r with
   |cons ry rr=>rw[B41,B41,ih tr rr λ w hw=>hm w<|A09 _ hw,he _ z vy dy ry<|hm z A13]
 show(e,λ w hw=>?_,cnt t r λ _ h=>h,);let(j,hj,ej):=lv hw;let hl:=r.n;let ht:=t.n;obtain⟨y,ey⟩:∃y,ys[j]?=AC y:=(ys[j]'∅,A04 ∅,)
 let(vy,QU,dy):=t.get ey;let(u',eu',Ws):=r.get QU;let:u'=w:=by let:=A04 hj;rw[eu',ej]at this;show f8 this
 subst this;let hy:=A21 ey;rw[he _ y vy dy Ws hy];show(Wv I 6 ∅ (hh y hy) (.inl dy) hx Ws rx).2.1
def RI(K:Da):V->U V->Hp->VK->Prop:=λ x vs H Q=>∃d ys q us v k,x=.ref q/\vs=[v]/\iY K H q us/\au K H ys us/\bH K H d v/\Z.t8 d ys=AC k/\Q (.int k) H
def Jt(hu:X.A.units+64<cLine):VL X "list.count" (RI X.K):=by intro B s O H x vs v us Q I rx rv h;let(d,ys,q,us',v',k,rfl,rfl,hq,t,hd,e,k'):=h;ext rx;let(u,rfl,ru):=rv.one;let(e1,e2):=AY e;subst e1;let(a8,r,pl,hz):=I.list hq;let(f,hf,Gw):=Pf I (A:=X.A.in1) (show X.A.units+1+60<cLine by lia) hd ru t r e2;let((cls,dd,data,sl),ho,hc,n,qY):=id pl.x;simp only at hc qY;subst hc qY;show A72 F.slot_list_count ⟨_,ho,rfl⟩ F.entry_list_count (F.args_list_count_2 _ _) (SeqAt.list_countAt q _ n dd sl u f) ⟨ho,λ w hw=>hf w (by calc hw),?_⟩;show(.int _,H,I.tok _,(_,rfl,),?_,);rw[Gw];show k'
theorem ZQ.K4(hu:X.A.units+64<cLine)(ho:ZQ.QW X o fa)(hb:ZQ.QW X b fb)
 (eZ:attributeBase o "count" X.env (eval o X.J)=eval o X.J:=by rfl)
 (lg:((backTo p2<|starEach (b::[]) X.J).all (λ x=>!x.1)&&(backToKw p2<|keywordEach [] X.J).all (λ x=>x.1.isSome)
  && decide ((b::[]).length+([]:U π).length+(if([]:U π).isEmpty then 0 else 1)<30))=Ch:=by rfl)
 (eT:(p1.endLine==p2.line)=Ch:=by rfl) (oP:Se b [] X.J:=by rfl) (gA:Pn p2 [] X.J:=by rfl) :
 ZQ.QE X (.Call (.Attribute o "count" p1) [b] [] p2) (Z.eB Z.xw fa fb):=
 ⟨PE.imp (vv B40 PySem.F.slot_list_count PySem.F.type_list_count (Jt hu) ho.p (bw hb.p cE oP) eZ lg eT oP gA) <|by
  rintro O H Q ⟨Y,d,r,e,k⟩;let(x,ea,e):=ac e;let(y,eb,e):=ac e;show(Y,x,r,ea,λ v H1 s1 d1=>?_,);unfold Z.xw at e;split at e
  .rename_i ys _;split at e
   .rename_i n hn;ext e;let(q,vs,rfl,hq,t):=d1.lst;show(.inl ⟨rfl,vs,hq⟩,Y,y,r.up s1,eb,λ u H2 s2 d2=>?_,);show(y,ys,q,vs,u,n,rfl,rfl,s2.seq hq,t.up s2,d2,hn,k _ H2 (s1.trans s2) cI,)
   .ext e
  .ext e⟩
def Dg:∀{xs}{k},Z.ze xs=AC k->∃ns:U Int,xs=ns.map Z.D.int/\k=ns.sum
|[],k,h=>by ext h;show([],rfl,rfl,)
|x::xs,k,h=>by
 cases x with
 |int b=>
  let h':(Z.ze xs).map _=AC k:=h;cases q:Z.ze xs with
  |none=>rw[q]at h';ext h'
  |some k'=>rw[q]at h';ext h';let(bs,rfl,rfl):=Dg q;show(b::bs,rfl,rfl,)
 |non=>ext h
 |bl _=>ext h
 |str _=>ext h
 |tup _=>ext h
 |lst _=>ext h
 |dct _ _=>ext h
def v_{K:Da}:∀{ns:U Int}{vs},au K H (ns.map Z.D.int) vs->vs=ns.map V.int
|[],vs,h=>by erw[A28]at h;subst h;rfl
|b::bs,vs,h=>by erw[A00]at h;let(v,r,rfl,hv,ht):=h;erw[Den]at hv;rw[hv,v_ ht];rfl
def M0(ns:U Int):preSum (λ i=>ns[i]?.getD 0) ns.n=ns.sum:=by
 let key:∀k,k<=ns.n->preSum (λ i=>ns[i]?.getD 0) k=(ns.take k).sum:=by
  intro k
  induction k with
  |zero=>intro _;simp[preSum]
  |succ k ih=>
   intro hk;let e:preSum (λ i=>ns[i]?.getD 0) (k+1)=preSum (λ i=>ns[i]?.getD 0) k+ns[k]?.getD 0:=rfl;let abn:∀(xs ys:U Int),(xs++ys).sum=xs.sum+ys.sum:=λ xs ys=>by
    induction xs with
    |nil=>simp
    |cons x xs ih=>erw[C16,List.sum_cons];lia
   rw[e,ih ∅,B71,abn,A04<|show k<ns.length by lia];simp
 let:=key _<|P3 _;rwa [B42]at this
def GY(hc:X.calm=Ch):mM X (.builtin "sum") (λ xs H Q=>∃(q:δ)(ns:U Int),xs=[.ref q]/\iY X.K H q (ns.map V.int)/\Q (.int ns.sum) H):=by
 intro B s O H xs us Q I r h;let(q,ns,rfl,hq,k):=h;let(u,rfl,ru):=vals1 r;ext ru;let(a8,rv,pl,hz):=I.list hq;let hl:=rv.n;rw[A08]at hl;let jO:q<s.t:=by let(_,e,_):=pl.x;show A05 e
 let hh:X.A.in1.handled=At:=I.ok.hd hc;show call_sum_walkG<|B15 pl.isList ?_;show(s.t,[s.t,q],[s.t],a8.q.u,_,_,λ i=>ns[i]?.getD 0,rfl,Walks.list hh s.heap.objs.size q (A16 jO) a8.q,((_,A17 _ rfl,rfl,rfl,),pl.isList.push _,),?_,?_,λ h' tk t' hk=>?_,)
 .intro b hb;rw[A56];rcases A01.mp hb with rfl|hb
  .exact A65 _
  .rw[A11.mp hb];show C12 jO
 .intro i v hv;let hi:a8[i]?=AC v:=by simpa using hv
  let(hi1,_):=A02.mp hi;let hb:(ns.map V.int)[i]?=AC (V.int<|ns[i]'∅):=by rw[A06,A04];rfl
  let(u,hu,ru):=rv.get hb;rw[hi]at hu;ext hu;let(t,rfl):=ru;show⟨t,by change Value.int _ t=Value.int (ns[i]?.getD 0) t;rw[A04];rfl⟩
 .let I1:Inv X B O H {s with heap:=s.heap.push {cls:=.type "list_iterator",data:=.fields #[.ref q,.int 0 0]}}:=I.kept λ b o e=>A03 _ e;let(f0,f1,f2,f3,f4,f5):=I.uP (P3 s.t) I.fresh;let I2:=I1.turned (t':=tk) (λ b o hb e=>hk b o (by calc hb) e) f0 f1 f3 f4 f5;show(.int _,H,I2,(t',rfl,),?_,);rw[A12,<-hl,M0];show k
def ZQ.σ5(hm:X.mg x=At)(ha:ZQ.QW X a fa)(hc:X.calm=Ch:=by rfl)(hn:x≠ "__name__":=by decide +kernel)(ie:Nd x:=by kernel_rfl)(he:Se a [] X.J:=by rfl)(fC:Pn pos [] X.J:=by rfl)(hg:Gl X x:=by rfl)(hv:bootBuiltins x=AC (.builtin "sum"):=by kernel_rfl):ZQ.QE X (.Call (.Name x p1) [a] [] pos) (Z.eU Z.Ja fa):=
 ⟨PE.imp (jy (GY hc) hg hm hv (bw ha.p cE he) hn ie he fC) <|by
  rintro O H Q ⟨Y,d,r,e,k⟩;let(x,ea,e):=ac e;show(Y,x,r,ea,λ v H1 s1 d1=>?_,);unfold Z.Ja at e;split at e
  .split at e
   .rename_i xs k' hk;ext e;let(bs,rfl,rfl):=Dg hk;let(q,vs,rfl,hq,t):=d1.lst;rw[v_ t]at hq;show(q,bs,rfl,hq,k _ H1 s1 cI,)
   .ext e
  .ext e⟩
end
end ZS
namespace ZQ
open L2 ZS
theorem Uj(ho:PE X o (jS i))(ha:QL X a l)(hs:swapsWith (.Call (.Attribute o "extend" p1) [a] [] p2) At pos.line X.J=pure AT:=by rfl)(oP:Se a [] X.J:=by rfl)
 (eZ:attributeBase o "extend" X.env (eval o X.J)=eval o X.J:=by rfl)
 (lg:((backTo p2<|starEach (a::[]) X.J).all (λ x=>!x.1)&&(backToKw p2<|keywordEach [] X.J).all (λ x=>x.1.isSome)
  && decide ((a::[]).length+([]:U π).length+(if([]:U π).isEmpty then 0 else 1)<30))=Ch:=by rfl)
 (eT:(p1.endLine==p2.line)=Ch:=by rfl) (gA:Pn p2 [] X.J:=by rfl) :
 QS X H0 (.Expr (.Call (.Attribute o "extend" p1) [a] [] p2) pos) (Z.FH i l):=
 ⟨ZS.GN hs<|vv B40 PySem.F.slot_list_extend PySem.F.type_list_extend F' ho (bw ha.p cE oP) eZ lg eT oP gA⟩
end ZQ
namespace ZS
open L2 PySem.W
def qe:∀{ns:U Int},i∈ns->Uf (.int i)<=UF (ns.map WData.int)
|[],h=>by ext h
|n::ns,h=>by
 rcases A01.mp h with rfl|h
 .simp only[A00,UF];lia
 .let:=qe h;erw[A00,UF];lia
def A5{ns:U Int}(h:WData.layableAll [WData.list (ns.map WData.int)]=Ch):∀i∈ns,Z.bits i<=2^20:=by
 intro i hi;let h1:=A30.mp h _ A13;unfold WData.layable at h1;rw[A34]at h1;let h3:Uf (.list<|ns.map WData.int)=UF (ns.map WData.int):=by erw[Uf]
 let h4:=qe hi;let h5:Uf (.int i)=Z.bits i:=by
  erw[Uf];unfold Z.bits;by_cases hz:i=0
  .subst hz;rfl
  .rw[W1 hz,W1 (by calc hz)]
 lia
def Lv(q:ο)(K:Frag):Prop:=noTabs K=Ch/\(∀x∈cM,∀c P,tabIn K x=AC (c,P)->∃d,(recsOf q).find? (λ e=>e.name==x)=AC d) /\
 ∀x y c P c',x∈cM->y∈cM->tabIn K x=AC (c,P)->tabIn K y=AC (c',P)->x=y
def r?{K:Frag}(h:nsIn K mainGlobals x=AC (AC<|.ref f))(h2:K.lookup f=AC ⟨o1,d1,.func fd,s1⟩)(h3:fd.code=.ref c)
 (h4:K.lookup c=AC ⟨o2,d2,.fields vs,s2⟩) (h5:vs[11]?=AC (.ref p)):tabIn K x=AC (c,p):=by
 unfold tabIn;rw[h];dsimp only;rw[h2];dsimp only;rw[h3];dsimp only;rw[h4];dsimp only;rw[h5]
def fW{p:Str->Prop}(h1:p "best_among")(h2:p "paper_beside"):∀x∈cM,p x:=by
 intro x hx;rcases A01.mp hx with rfl|hx
 .exact h1
 .rw[A11.mp hx];show h2
def S5{K:Frag}(n:noTabs K=Ch)(h1:tabIn K "best_among"=r1)(h2:tabIn K "paper_beside"=r2)(g1:r1=At\/((recsOf q).find? λ e=>e.name==Do "best_among").isSome=Ch)(g2:r2=At\/((recsOf q).find? λ e=>e.name==Do "paper_beside").isSome=Ch)
 (ne:∀c P c' P',r1=AC (c,P)->r2=AC (c',P')->P≠P'):Lv q K:=by
 show(n,fW (λ c P e=>?_) λ c P e=>?_,λ x y c P c' hx hy=>?_,)
 .rcases g1 with z|z
  .rw[h1,z]at e;ext e
  .exact A94.mp z
 .rcases g2 with z|z
  .rw[h2,z]at e;ext e
  .exact A94.mp z
 .refine fW (p:=λ x=>tabIn K x=AC (c,P)->tabIn K y=AC (c',P)->x=y) (λ e1=>?_) (λ e1=>?_) x hx
  .refine fW (p:=λ y=>tabIn K y=AC (c',P)-> "best_among"=y) (λ _=>rfl) (λ e2=>?_) y hy;show absurd rfl<|ne c P c' P (h1.symm.trans e1)<|h2.symm.trans e2
  .refine fW (p:=λ y=>tabIn K y=AC (c',P)-> "paper_beside"=y) (λ e2=>?_) (λ _=>rfl) y hy;show absurd rfl<|ne c' P c P (h1.symm.trans e2)<|h2.symm.trans e1
def Rg{l:OpenLaw}{n k:Nat}{q:ο}{loose:U Str}{XP:(Str->ε ζ)->ν->Prop}{YP:ξ->ν->Prop}{d:DefRec}{K:Params->Frag}{m:U Z.D->Z.Res Z.D}{x:Str}
 (hn:l.most=AC n) (J3:n<=sizeLine) (hdf:d.params.defaults=[]) (hr:bu k callerA)
 (hY:∀w h,YP w h->(K w.params).In h)
 (F:∀ w mg fa h,(K w.params).In h->h.Ns mainGlobals mg->mg d.name=AC (.ref fa) ->
  ∃fd:υ,(∀(s:θ)(u:ζ),BindsTo s fd ⟨[u],[]⟩ [(x,u)]) /\
   ∀base:ν,(K w.params).In base->base.Ns mainGlobals mg->ee l.prog w (K w.params) mg base hV k fa fd [x] (yw (K w.params) m)) (hL:∀w:ξ,Lv q (K w.params))
 (hold:∀ns:U Int,ns.n<=n->(∀i∈ns,Z.bits i<=2^20)->m [.lst (ns.map .int)]=.ok (.bl Ch)) :
 WalkO q loose XP YP l.row.toRowW d [] (λ f vs=>PySem.call f vs):=by
 intro w s₀ s₁ mg mb G ρ fa o pm cd doc dV kV ho hd rG hD hmg hg args vals as Oq abO hrd hwl hlo;cases Dflts.none hD hdf;cases Dflts.noKw hD;let(a,vs,ns,rfl,rfl,abB,hints,ψ):=Att.FG hn Oq hwl;let KX:=hY w _ ρ;let(fd,hb,hF):=F w mg fa _ KX G.T.g hmg;let C:=JN KX G.T.g G.T.b G.T.builtins G.T.nolimit hg abB hints (A15 ψ J3) hr hF hb (λ H hO hS=>S4 hO hS<|hold ns ψ<|A5 abO) (λ H e s' z=>z)
  (hL w).2.2 (λ y hy c p e=>let ⟨d,hd⟩:=(hL w).2.1 y hy c p e;let T:=tab_of G.T KX hd e;⟨T,T.1.tab T.2⟩) G.T.bmain (hL w).1
 show enter_call<|A92 C λ r s' hq=>?_;let(rfl,h2,h3,h4):=hq;show(.inl ⟨.bool Ch,.bool Ch,[],rfl,λ _=>rfl,.bool Ch,Att.FK l _,λ _=>(List.Pairwise.nil,λ _ hm=>(nomatch hm),)⟩,h2,h3,h4,)
end ZS
namespace ZS
open L2
def B1(hit:s.heap.IsTupleIter it t i)(ht:s.heap.IsTuple t items)(hx:items[i]?=AC x)
 (hQ:∀h',h'.IsTupleIter it t (i+1)->IN it s.heap h'->Q x {s with heap:=h'}):Ev (model prog w) A (GT<|.ref it) Q E s:=by
 let(ob,LU,kD,rD):=id hit;let(ot,Ot,_,nt,Yj):=ht;show T0<|B08 hit.typeIs B72<|B10 B72 hit.typeIs C65 ?_<|C66 _;change Ev _ _ (field _ 0>>=_) _ _ _;show T0<|A40 LU rD (x:=.ref t) rfl ?_;let Hq:¬(Value.ref t==SZ)=Ch:=A75;rw[W1 Hq];show T0<|A40 LU rD rfl ?_;show T0<|A63 Ot Yj ?_;erw[A69,hx];show T0<|B73 LU rD ∅<|v4 ⟨x,rfl,v4<|hQ _ ⟨_,B18 _ LU<|B74<|A73 rD _,(C17 ..).trans kD,?_⟩<|Heap.SameBut.update ..⟩;rw[A73 rD];simp[rawInt]
def F8(hh:A.handled=At)(hit:s.heap.IsTupleIter it t i)(ht:s.heap.IsTuple t items)(hx:items[i]?=At)
 (hE:∀h' e,ci it s.heap h'->(∃o,h'.get? e=AC o/\o.cls=.type "StopIteration")->E (.ref e) {s with heap:=h'}):Ev (model prog w) A (GT<|.ref it) Q E s:=by
 let(ob,LU,kD,rD):=id hit;let(ot,Ot,_,nt,Yj):=ht;show T0<|B08 hit.typeIs B72<|B10 B72 hit.typeIs C65 ?_<|C66 _;change Ev _ _ (field _ 0>>=_) _ _ _;show T0<|A40 LU rD (x:=.ref t) rfl ?_;let Hq:¬(Value.ref t==SZ)=Ch:=A75;rw[W1 Hq];show T0<|A40 LU rD rfl ?_;show T0<|A63 Ot Yj ?_;erw[A69,hx];show T0<|B36<|T0<|B73 LU rD ∅ ?_;show T0 ?_;erw[newExc,newTuple];show T0<|A76 ?_ (by size_fits);show T0<|wpAny_of_eq (by first|rfl|(erw[firstArgMember];rfl)) ?_;show A76 ?_ (by size_fits);erw[raiseNew];show T0<|wpAny_handled ?_
 first|rw[hh]|rw[hh]
 show T0<|v4<|wpAny_throw<|hE _ _ (((Heap.SameBut.update ..).extBut.push _).push _) ⟨_,A17 _ rfl,rfl⟩
def Uo(hh:A.handled=At)(it t:δ)(s_:t≠it)(items:Array ζ):
 Draws prog w A it [it,t] items.size (λ i v=>items[i]?=AC v) (λ i h=>h.IsTupleIter it t i/\h.IsTuple t items) where
 live:=λ _ _ st=>let ⟨o,ho,_⟩:=st.1;⟨o,ho⟩
 frame:=λ _ _ _ st hk=>by let((o,e,r),(o2,e2,r2)):=st;show((o,hk it ∅ o e,r,),(o2,hk t ∅ o2 e2,r2,),)
 item:=λ i s Q E hi st hQ=>by show B1 st.1 st.2 (x:=items[i]) ∅ λ h' abU Ce=>?_;show hQ _ h' _ ∅ ⟨abU,st.2.extBut Ce.extBut s_⟩ Ce
 done:=λ s Q E st hE=>F8 hh st.1 st.2 ∅ hE
def C?{ch:U δ}(I:Inv X B O H s)(k:∀b o,b∉ch->s.heap.get? b=AC o->h'.get? b=AC o)(hf:∀b∈ch,pw X B H b):Inv X B O H {s with heap:=h',toks:=t'}:=by
 let zP:∀b u,H b=AC u->b∉ch:=λ b u e hb=>by rw[(hf b hb).1]at e;ext e
 show I.step (λ b hb=>?_) (λ b o _ _ hc e _=>k b o hc e) (λ b o _ _ hc e _=>(_,k b o hc e,)) (λ _ _ _ _ n=>n)
  (λ b o hc e=>(o,k b o hc e,)) (λ _ _ e=>e) (λ _ _ _ e=>e) (λ _ _ _ e=>e) (λ m hm=>?_) (λ b u e=>?_) I.bare
 .let(f0,f1,f2,f3,f4,f5):=hf b hb;show(f3,f1,f4,f5,)
 .let(o,es,ep,ho,r):=hm;show(o,es,ep,k _ o (λ hb=>(hf _ hb).2.1 rfl) ho,r,)
 .refine(I.bO b u e).n? (λ c v hc q=>k c v ?_ q) (λ _ q=>q) (λ _ _ q=>q) λ _ _ _ q=>q;rcases hc with z|z
  .rw[z];show zP b u e
  .exact zP c _ z
def C!{ch:U δ}(I:Inv X B O H s)(k:∀b o,b∉ch->s.heap.get? b=AC o->h'.get? b=AC o)(hf:∀b∈ch,pw X B H b)
 (hT:s.t<=T) (hTT:pj h' T us.q) (r:Vals xs us) (hz:xs.n<=sizeLine):Inv X B O (upd H T<|.tup xs) {s with heap:=h',toks:=t'}:=by
 let hn:=I.bO.fresh hT;let zP:∀b u,H b=AC u->b∉ch:=λ b u e hb=>by rw[(hf b hb).1]at e;ext e
 let up:∀b u,H b=AC u->upd H T (.tup xs) b=AC u:=λ b u e=>by rw[av<|aY e hn];show e
 let lt:∀b o,s.heap.get? b=AC o->b≠T:=λ b o e z=>by rw[z]at e;show absurd (A05 e)<|A86.mpr hT
 show I.step (λ b hb=>?_) (λ b o _ _ hc e _=>k b o hc e) (λ b o _ _ hc e _=>(_,k b o hc e,)) (λ b o _ e n=>by rw[av<|lt b o e];show n)
  (λ b o hc e=>(o,k b o hc e,)) (λ b ys e=>up b _ e) (λ b o u e=>up b _ e) (λ b u _ e=>up b _ e) (λ m hm=>?_) (λ b u e=>?_) I.bare
 .let(f0,f1,f2,f3,f4,f5):=hf b hb;show(f3,f1,f4,f5,)
 .let(o,es,ep,ho,q):=hm;show(o,es,ep,k _ o (λ hb=>(hf _ hb).2.1 rfl) ho,q,)
 .by_cases hb:b=T
  .subst hb;rw[aE]at e;ext e;show(hz,us,r,hTT,)
  .rw[av hb]at e;show(I.bO b u e).n? (λ c v hc q=>k c v ?_ q) (λ c q=>?_) (λ c ys q=>up c _ q) λ c v _ q=>up c _ q
   .rcases hc with z|z
    .rw[z];show zP b u e
    .exact zP c _ z
   .exact up c _ q
structure U6 where
 at_:Nat->Hp->V->Prop
 end_:Nat->Hp->Prop
def Zu(J:U6):It:=(λ i H=>∃y,J.at_ i H y,λ i H x H'=>∃T y,H T=At/\x=.ref T/\H'=upd H T (.tup [.int (i:Nat),y])/\J.at_ i H y,J.end_,)
structure Src(P:Program)(w:World)(K:Da)(J:U6)(it:Addr)(Th:Nat->Heap->Prop):Prop where
 obj:∀i h,Th i h->∃o,h.get? it=AC o/\(∀v,o.data≠.cell v)/\o.cls≠.type "enumerate" /\ o.cls≠.type "zip" /\ o.cls≠.type "tuple"
 keep:∀i h h',Th i h->(∀o,h.get? it=AC o->h'.get? it=AC o)->Th i h'
 draw:∀(X:Cx),X.prog=P->X.w=w->X.K=K->X.calm=Ch->∀(i:Nat)(B:List (Addr×Obj))(s:Shared)(O:St)(H:Hp),Inv X B O H s->Th i s.e->((∃y,J.at_ i H y)\/J.end_ i H) ->
  ∃(fp:List Addr)(n:Nat)(Pv:Nat->Value->Prop)(S:Nat->Heap->Prop),Draws P w X.A.in1 it fp n Pv S/\S i s.e/\it∈fp/\(∀b∈fp,b=it\/∃o,s.heap.get? b=AC o/\o.cls≠.type "enumerate" /\ o.cls≠.type "zip" /\ (H b=At->∃o',K.lookup b=AC o')) /\
   ((∃y,J.at_ i H y)->i<n/\∀u,Pv i u->∃y,RelV y u/\J.at_ i H y)/\(J.end_ i H->i=n)/\∀j h,S j h->Th j h
def pF{K:FM}(S:Src P w K J it Th)(Yi:e≠it):
 Turn P w K (.Tuple elts x1 pos) (Zu J) [e,it] e (λ i h=>(∃old,IsEnum h e it i old)/\Th i h) where
 mem:=by simp
 obj:=λ i h st b hb=>by
  rcases A01.mp hb with rfl|hb
  .let((old,he),_):=st;show⟨_,he,λ v z=>by let z':=z;ext z'⟩
  .rw[A11]at hb;subst hb;let(o,h1,h2,_):=S.obj i h st.2;show(o,h1,h2,)
 keep:=λ i h h' st k=>⟨by let(old,he):=st.1;show(old,k e ∅ _ he,),S.keep i h h' st.2 λ o q=>k it ∅ o q⟩
 item:=by
  intro X hP hw hK hc i B s O H E I hf st hg;let(fp,n,Pv,St',D,hs0,hif,hfp,hat,_,Cf):=S.draw X hP hw hK hc i B s O H I st.2 (.inl hg);let(hi,hv):=hat hg;subst hP hw hK;let(old,he):=st.1;let _y:e∉fp:=λ hb=>by
   rcases hfp e hb with z|⟨o,q,s_,_⟩
   .exact Yi z
   .rw[he]at q;ext q;show s_ rfl
  let W:=WalksT.enumerateD (A:=X.A) D e Yi _y hif;let Yh:=A05 he;let Yb:it<s.t:=by let(o,q,_):=S.obj _ _ st.2;show A05 q
  show wpAny_pyNext_enum_itemD D he hs0 hi Yi _y λ u h' t' hu ho Ce hTx Eu hk=>(.ref s.t,rfl,?_,)
  let hT:s.t<=s.t:=P3 _;let kk:∀b o,b∉[e,it]->s.heap.get? b=AC o->h'.get? b=AC o:=λ b o hb y=>hk b o (λ e'=>hb (by simp[e'])) (λ e'=>hb (by simp[e'])) y;let(y,ry,hy):=hv u hu;let hTw:s.heap.objs.size∉[e,it]:=by erw[A01,A42,A47,A78];show(A48 Yh,A48 Yb,)
  show W.go elts x1 pos i s.heap.objs.size _ _ _ ⟨⟨_,ho⟩,Ce,A48 Yh,A48 Yb⟩ λ h2 Tr kk2=>?_;let hTn:=I.bO.fresh hT;let acs:pj h2 s.heap.objs.size [Value.int i t',u].toArray:=(_,kk2 _ _ hTw hTx,)
  let I2:Inv X B O (upd H s.heap.objs.size<|.tup [.int (i:Nat),y]) {s with heap:=h2,toks:=t'+1}:=
   C! (ch:=[e,it]) I (λ b o hb q=>kk2 b o hb<|kk b o hb q) hf hT acs (.cons ⟨t',rfl⟩<|.cons ry .nil) (by change 2<=sizeLine;decide)
  show(.ref s.t,_,I2,rfl,(s.t,y,hTn,rfl,rfl,hy,),(Tr.1,Cf _ _ Tr.2,),λ b hb=>?_,);let hbT:b≠s.t:=λ z=>hTw<|z▸hb;rw[av hbT];show(hf b hb).1
 done:=by
  intro X hP hw hK hc i B s O H E I hf st hg;let(fp,n,Pv,St',D,hs0,hif,hfp,_,TX,Cf):=S.draw X hP hw hK hc i B s O H I st.2 (.inr hg);let abV:=TX hg;subst hP hw hK abV;let(old,he):=st.1;let _y:e∉fp:=λ hb=>by
   rcases hfp e hb with z|⟨o,q,s_,_⟩
   .exact Yi z
   .rw[he]at q;ext q;show s_ rfl
  let W:=WalksT.enumerateD (A:=X.A) D e Yi _y hif;show W.done s _ _ ⟨⟨old,he⟩,hs0⟩ λ h' tk kk=>(rfl,C? (ch:=[e,it]) I kk hf,)
 self:=λ A i s Q E st hQ=>by let(old,he):=st.1;show B75 he hQ
def Gm(K:Da)(t:δ)(vs:U V):U6:=(λ i H y=>l4 K H t vs/\vs[i]?=AC y,λ i H=>l4 K H t vs/\vs.n=i,)
def Ol(K:Da)(t:δ)(vs:U V):U6:=(λ i H y=>iY K H t vs/\vs[i]?=AC y,λ i H=>iY K H t vs/\vs.n=i,)
def JV(z:Str):U6:=(λ i _ y=>∃c,z.cps[i]?=AC c/\y=.str ⟨#[c]⟩,λ i _=>i=z.cps.u,)
def rk{K:FM}:Src P w K (Gm K t xs) it (λ i h=>h.IsTupleIter it t i) where
 obj:=λ i h st=>by let(o,e,c,d):=st;show⟨o,e,λ v z=>(by rw[d]at z;ext z),by rw[c];decide,by rw[c];decide,by rw[c];decide⟩
 keep:=λ i h h' st k=>let ⟨o,e,r⟩:=st;⟨o,k o e,r⟩
 draw:=by
  intro X hP hw hK hc i B s O H I st hg;subst hP hw hK;let hq:l4 X.K H t xs:=by rcases hg with⟨y,h,_⟩|⟨h,_⟩<;>show h
  let(a8,r,p,hz):=I.tuple hq;let(ot,Ot,TY,nt,Yj):=id p;let(oi,X8,Yl,hdi):=id st;let s_:t≠it:=by rintro rfl;rw[Ot]at X8;ext X8;rw[TY]at Yl;injection Yl with z;show absurd z ∅
  show⟨[it,t],_,_,_,Uo (A:=X.A.in1) (I.ok.hd hc) it t s_ _,(st,p,),by simp,λ b hb=>?_,λ⟨y,_,XU⟩=>?_,λ⟨_,hl⟩=>?_,λ j h q=>q.1⟩
  .rcases A01.mp hb with rfl|hb
   .exact .inl rfl
   .rw[A11]at hb;subst hb;show .inr ⟨ot,Ot,by rw[TY];decide,by rw[TY];decide,λ hn=>?_⟩;rcases hq with(z|⟨o,z⟩)|⟨o,_,_,z,_⟩
    .rw[hn]at z;ext z
    .rw[hn]at z;ext z
    .exact⟨o,z⟩
  .let(u,hu,ru):=r.get XU;show⟨by rw[A12];show(A02.mp hu).1,λ u' Vu=>(y,?_,hq,XU,)⟩;let:a8[i]?=AC u':=by simpa using Vu
   rw[hu]at this;ext this;show ru
  .rw[A12,<-r.n,hl]
def Dl{K:FM}:Src P w K (Ol K t xs) it (λ i h=>h.IsListIter it t i) where
 obj:=λ i h st=>by let(o,e,c,d):=st;show⟨o,e,λ v z=>(by rw[d]at z;ext z),by rw[c];decide,by rw[c];decide,by rw[c];decide⟩
 keep:=λ i h h' st k=>let ⟨o,e,r⟩:=st;⟨o,k o e,r⟩
 draw:=by
  intro X hP hw hK hc i B s O H I st hg;subst hP hw hK;let hq:iY X.K H t xs:=by rcases hg with⟨y,h,_⟩|⟨h,_⟩<;>show h
  let(a8,r,p,hz):=I.list hq;let(ot,Ot,TY,nt,Yj):=id p.x;let(oi,X8,Yl,hdi):=id st;let s_:t≠it:=by rintro rfl;rw[Ot]at X8;ext X8;rw[TY]at Yl;injection Yl with z;show absurd z ∅
  show⟨[it,t],_,_,_,Draws.list (A:=X.A.in1) (I.ok.hd hc) it t s_ _,(st,p.x,),by simp,λ b hb=>?_,λ⟨y,_,XU⟩=>?_,λ⟨_,hl⟩=>?_,λ j h q=>q.1⟩
  .rcases A01.mp hb with rfl|hb
   .exact .inl rfl
   .rw[A11]at hb;subst hb;show .inr ⟨ot,Ot,by rw[TY];decide,by rw[TY];decide,λ hn=>?_⟩;rcases hq with(z|⟨o,z⟩)|⟨o,_,_,z,_⟩
    .rw[hn]at z;ext z
    .rw[hn]at z;ext z
    .exact⟨o,z⟩
  .let(u,hu,ru):=r.get XU;show⟨by rw[A12];show(A02.mp hu).1,λ u' Vu=>(y,?_,hq,XU,)⟩;let:a8[i]?=AC u':=by simpa using Vu
   rw[hu]at this;ext this;show ru
  .rw[A12,<-r.n,hl]
def MG{K:FM}:Src P w K (JV z) it (λ i h=>h.IsStrIter it (strIterType z) z tk i) where
 obj:=λ i h st=>by let(o,e,c,d):=st;show(o,e,λ v q=>(by rw[d]at q;ext q),?_,?_,?_,)<;>(rw[c];unfold strIterType;split<;>decide)
 keep:=λ i h h' st k=>let ⟨o,e,r⟩:=st;⟨o,k o e,r⟩
 draw:=by
  intro X hP hw hK hc i B s O H I st hg;subst hP hw hK;let hh:X.A.in1.handled=At:=I.ok.hd hc;let fin:∀Pv,(∀i u,Pv i u->∃c t,z.cps[i]?=AC c/\u=.str ⟨#[c]⟩ t)->∀S,Draws X.prog X.w X.A.in1 it [it] z.cps.size Pv S->S i s.e->(∀j h,S j h->h.IsStrIter it (strIterType z) z tk j) ->
   ∃fp n Pv S,Draws X.prog X.w X.A.in1 it fp n Pv S/\S i s.e/\it∈fp/\(∀b∈fp,b=it\/∃o,s.heap.get? b=AC o/\o.cls≠.type "enumerate" /\ o.cls≠.type "zip" /\ (H b=At->∃o',X.K.lookup b=AC o')) /\
    ((∃y,(JV z).at_ i H y)->i<n/\∀u,Pv i u->∃y,RelV y u/\(JV z).at_ i H y)/\((JV z).end_ i H->i=n)/\∀j h,S j h->h.IsStrIter it (strIterType z) z tk j:=by
   intro Pv hPv S D hs hS;show⟨[it],z.cps.u,Pv,S,D,hs,by simp,λ b hb=>.inl (by calc hb),λ⟨y,c,hy,_⟩=>(?_,λ u hu=>?_,),λ q=>q,hS⟩
   .rcases Nat.lt_or_ge i z.cps.u with q|q
    .exact q
    .rw[Array.getElem?_eq_none q]at hy;ext hy
   .let(c',t',uj,rfl):=hPv i u hu;show(.str ⟨#[c']⟩,(t',rfl,),c',uj,rfl,)
  cases ha:z.cps.all (· < 128)
  .let e:strIterType z="str_iterator":=by unfold strIterType;rw[ha];rfl
   show fin _ (λ _ _ q=>q) _ (Draws.strWide hh it z tk) (by rw[<-e];show st) λ j h q=>by rw[e];show q
  .let e:strIterType z="str_ascii_iterator":=by unfold strIterType;rw[ha];rfl
   show fin _ (λ _ _ q=>q) _ (Draws.strAscii hh it z tk) (by rw[<-e];show st) λ j h q=>by rw[e];show q
def zX(l:δ)(items:Array ζ)(n:Nat)(dct:ε δ)(sl:Array _):
 Meets (Builtin.«enumerate.__new__» ⟨[.type "enumerate",.ref l],[]⟩) (λ _ R s=>s.heap.get? l=AC {cls:=.type "tuple",dict:=dct,data:=.seq items n,slots:=sl} /\
  R (.ok<|.ret<|.ref (s.heap.push {cls:=.type "tuple_iterator",data:=.fields #[.ref l,.int 0 0]}).objs.size)
   {s with heap:=(s.heap.push {cls:=.type "tuple_iterator",data:=.fields #[.ref l,.int 0 0]}).push {cls:=.type "enumerate",data:=.fields #[.none,.bool AT,.ref s.t,rawInt 0,.none,.none]}}):=
 .of_wp λ prog w A R s h=>by
  let(hp,gs,dr,tk,os):=s;let(hl,h):=h;let hsb:=sub_enumerate;let hL:wv _ l items:=(_,hl,rfl,n,rfl,)
  wp_walk using C18 hl
  show wpAny_stack_any λ st=>v4 ?_;split
  .rename_i c _ _ _ _ _;cases (c==Value.type "enumerate")<;>(wp_walk using C18 hl,B14 hL;show(_,rfl,h,))
  .wp_walk using C18 hl,B14 hL
   show(_,rfl,h,)
theorem CF(hL:s.heap.IsTuple l items)
 (h:∀h',IsEnum h' (s.t+1) s.heap.objs.size 0 .none->h'.IsTupleIter s.heap.objs.size l 0->(∀b o,s.heap.get? b=AC o->h'.get? b=AC o)->Q (.ref<|s.t+1) {s with heap:=h'}) :
 Ev (model prog w) A (call (.type "enumerate") [.ref l]) Q E s:=by
 let((c,dct,dt,sl),hl,hc,n,hd):=hL;let uj:=hc;let qY:=hd;subst uj qY;show callType_new F.called_enumerate ∅ (F.typeCall_enumerate_1 _) (F.newCall_enumerate_1 _) (λ obj=>F.args_object_init_2 obj _) F.entry_enumerate_new (zX l items n dct sl) ⟨hl,?_⟩;let hz:(s.heap.push {cls:=.type "tuple_iterator",data:=.fields #[.ref l,.int 0 0]}).objs.size=s.t+1:=A56 ..;let he:=A17 (s.heap.push {cls:=.type "tuple_iterator",data:=.fields #[.ref l,.int 0 0]}) (o:={cls:=.type "enumerate",data:=.fields #[.none,.bool AT,.ref s.t,rawInt 0,.none,.none]}) rfl;rw[hz]at he ⊢;show((_,he,rfl,),h _ he ⟨_,A03 _<|A17 _ rfl,rfl,rfl⟩ λ b o x=>A03 _<|A03 _ x,)
def p5:∀ds k i,(Z.kG k ds)[i]?=(ds[i]?).map λ d=>Z.pair (.int<|(k+i:Nat)) d
|[],_,_=>by simp[Z.kG]
|d::ds,k,0=>by simp[Z.kG]
|d::ds,k,i+1=>by erw[Z.kG,C67,p5 ds _ i];rw[show k+1+i=k+(i+1)by lia]
def vZ:∀ds k,(Z.kG k ds).length=ds.n
|[],_=>rfl
|d::ds,k=>by simp[Z.kG,vZ ds]
def sY{K:Da}(h1:∀i d H1,S H1->ds[i]?=AC d->(∃y,J.at_ i H1 y)/\∀y,J.at_ i H1 y->Den K H1 d y)(h2:∀H1,S H1->J.end_ ds.length H1):E_ K (Zu J) S (Z.kG 0 ds) where
 go:=λ i d H1 s hi=>by
  rw[p5]at hi;cases q:ds[i]? with
  |none=>rw[q]at hi;ext hi
  |some d0=>show(h1 i d0 H1 s q).1
 Bh:=λ i d H1 H2 x s hi y=>by
  let(T,y,hT,rfl,rfl,hy):=y;rw[p5]at hi;cases q:ds[i]? with
  |none=>rw[q]at hi;ext hi
  |some d0=>rw[q]at hi;ext hi;let sm:az H1 (upd H1 T<|.tup [.int (i),y]):=b? hT;show(sm,fq (.inl<|.inl aE)<|au.cons ?_<|au.cons (((h1 i d0 H1 s q).2 y hy).up sm) au.nil,);rw[B19];show cI
 stop:=λ H1 s=>by rw[vZ];show h2 H1 s
def Ck(I:Inv X B O H s):∀b∈[s.t+1,s.t],pw X B H b:=λ b hb=>by
 rcases A01.mp hb with rfl|hb
 .exact I.uP (A58 _)<|I.bO.fresh<|A58 _
 .rw[A11]at hb;subst hb;show I.uP (P3 _)<|I.bO.fresh<|P3 _
def ZQ.AO(hm:X.mg "enumerate"=At)(ha:ZQ.QE X a fa)(hs:starEach [a] X.J=[(AT,eval a X.J)]:=by rfl)(oP:Se a [] X.J:=by rfl)(hg:Gl X "enumerate":=by rfl):ZQ.QJ X (.Tuple elts x1 p2) (.Call (.Name "enumerate" p) [a] [] pos) (Z.Es fa):=⟨by
 let ha:=ha.p;intro B s O H R I w;let(Y,ds,r,e,k):=w;let(d,ea,e):=ac e;let(ds0,ei,e):=ac e;ext e;show Call_<|jY I hg hm PyProof.Rows.boot_enumerate<|B30 (b_ ((bw ha cE oP) pos B s O H (λ vs H1=>∃v,vs=[v]/\az H H1/\Den X.K H1 d v) I ⟨Y,d,r,ea,λ v H1 s1 d1=>(v,rfl,s1,d1,)⟩) ?_) hs rfl;rintro us s1 ⟨vs,H1,I1,r1,q1⟩;let(v,rfl,sm,hd):=q1;let(u,rfl,ru):=vals1 r1;cases d with
 |tup _5=>
  ext ei;let(q,vs,rfl,hq,t):=bH.tup (.inl hd);ext ru;let(a8,rv,pt,hz):=I1.tuple hq;show CF pt λ h' he hit hk=>B75 he ?_;show(_,[s1.t+1,s1.t],_,Zu<|Gm X.K q vs,H1,rfl,I1.kept hk,pF rk<|C20 _,((_,he,),hit,),Ck I1,k _ H1 sm<|sY (λ i d0 H2 s2 hi=>?_) λ H2 s2=>?_,)
  .let(y,hy,dy):=t.get hi;show((y,eR s2 hq,hy,),λ y' Gq=>?_,);let:=Gq.2;rw[hy]at this;ext this;show dy.ups s2
  .exact⟨eR s2 hq,t.n⟩
 |lst _5=>
  ext ei;erw[Den]at hd;let(q,vs,rfl,hq,t):=hd;ext ru;let(a8,rv,pt,hz):=I1.list hq.sq;show call_enumerate_list pt.isList λ h' he hit Eu hk=>B75 he ?_;show(_,[s1.t+1,s1.t],_,Zu<|Ol X.K q vs,H1,rfl,I1.kept hk,pF Dl<|C20 _,((_,he,),hit,),Ck I1,k _ H1 sm<|sY (λ i d0 H2 s2 hi=>?_) λ H2 s2=>?_,)
  .let(y,hy,dy):=t.get hi;show((y,(hq.mono s2).sq,hy,),λ y' Gq=>?_,);let:=Gq.2;rw[hy]at this;ext this;show dy.ups s2
  .exact⟨(hq.mono s2).sq,t.n⟩
 |str cs=>
  ext ei;erw[Den]at hd;rw[hd]at ru;let(tk,rfl):=ru;show call_enumerate_str λ h' he hit Eu hk=>B75 he ?_;show(_,[s1.t+1,s1.t],_,Zu<|JV ⟨cs.q⟩,H1,rfl,I1.kept hk,pF MG<|C20 _,((_,he,),hit,),Ck I1,k _ H1 sm<|sY (λ i d0 H2 s2 hi=>?_) λ H2 s2=>?_,)
  .rw[A06]at hi;cases hc:cs[i]? with
   |none=>rw[hc]at hi;ext hi
   |some c=>
    rw[hc]at hi;ext hi;show(⟨_,c,by calc hc,rfl⟩,?_,);rintro y ⟨c',uj,hy⟩;let:cs[i]?=AC c':=by simpa using uj
    rw[hc]at this;ext this;rw[hy];show j8
  .show(cs.map λ c=>Z.D.str [c]).length=cs.q.u;simp
 |non=>ext ei
 |bl _=>ext ei
 |int _=>ext ei
 |dct _ _=>ext ei⟩
structure Far(z TI TO i1 i2:Addr)(f1 f2:List Addr):Prop where
 ne:[z,TI,TO,i1,i2].Nodup
 a1:z∉f1/\TO∉f1/\i2∉f1
 a2:z∉f2/\TO∉f2/\i1∉f2
theorem Fd{z TI TO i1 i2:δ}{Q:ζ->θ->Prop}(F:Far z TI TO i1 i2 f1 f2)(D1:Draws prog w A i1 f1 n1 P1 S1)(D2:Draws prog w A i2 f2 n2 P2 S2)
 (hz:IsZip s.heap z TI TO .none) (Gx:IsPair s.heap TI (.ref i1) (.ref i2)) (Hu:IsPair s.heap TO a b) (h1:S1 k s.e) (h2:S2 k s.e) (Qz:k<n1) (Ox:k<n2)
 (hQ:∀x y h' tk,P1 k x->P2 k y->IsZip h' z TI TO (rawInt s.t)->IsPair h' TO x y->S1 (k+1) h'->S2 (k+1) h'->IsPair h' s.heap.objs.size x y->(∀c o,c∉[z,TO,i1,i2]->s.heap.get? c=AC o->h'.get? c=AC o)->Q (.ref s.t) {s with heap:=h',toks:=tk}) :
 Ev (model prog w) A (Builtin.«zip.__next__» ⟨[.ref z],[]⟩) (λ fin s'=>∃v,fin=.done (.ret v)/\Q v s') E s:=by
 let ne:=F.ne;erw[A19,A01,A42,A47,A78,B20,B43,B44]at ne;let((VP,LC,PZ,Q?),(TITO,TIi1,TIi2),(TOi1,TOi2),i12):=ne;let(ZD,UZ,XQ):=F.a1;let(ZC,PK,Tn):=F.a2;let(hp,gs,dr,tk0,os):=s;change Ev _ _ (field (.ref z) 2>>=_) _ _ _;show T0<|A40 hz rfl (x:=.bool AT) rfl ?_;change Ev _ _ (field (.ref z) 3>>=_) _ _ _;show T0<|A40 hz rfl (x:=.ref TI) rfl<|T0<|A63 Gx rfl ?_;change Ev _ _ (Go (.ref z)>>=_) _ _ _;show T0 ?_;unfold Go;show T0<|A40 hz rfl (x:=.none) rfl<|v4 ?_;erw[A35];show T0<|B36<|T0<|A40 hz rfl (x:=.ref TO) rfl<|T0<|B21 hz ∅ λ g1 Qx e1=>?_;let Qx:=Qx;let e1:=e1;show T0 ?_;erw[AB0,AC2,B38,AC7];show T0<|T0<|B76 ?_;change Ev _ _ (GT (.ref i1)>>=_) _ _ _;show T0<|D1.item k _ _ _ Qz (D1.frame k hp g1 h1 λ c hc o q=>e1.extBut c o (λ y=>ZD<|y▸hc) q) λ x g2 t2 hx h12 e2=>v4 ?_;let e2:=e2;let J!:=e2.extBut _ _ TOi1<|e1.extBut _ _ (A10 LC) Hu;show T0<|A63 J! rfl<|T0<|C21 J! λ g3 OB e3=>?_;let OB:=OB;let e3:IN TO g2 g3:=e3;show T0<|B01<|v4 ?_;show T0<|T0<|B76 ?_;change Ev _ _ (GT (.ref i2)>>=_) _ _ _;let h23:S2 k g3:=D2.frame k hp g3 h2 λ c hc o q=>e3.extBut c o (λ y=>PK<|y▸hc)<|e2.extBut c o (λ y=>Tn<|y▸hc)<|e1.extBut c o (λ y=>ZC<|y▸hc) q;show T0<|D2.item k _ _ _ Ox h23 λ y g4 t4 hy h24 e4=>v4 ?_;let e4:IN i2 g3 g4:=e4;let Yr:IsPair g4 TO x b:=e4.extBut _ _ TOi2 OB;show T0<|A63 Yr rfl<|T0<|C21 Yr λ g5 OA e5=>?_;let OA:IsPair g5 TO x y:=OA;let e5:IN TO g4 g5:=e5;show T0<|B01<|v4<|v4 ?_;show T0<|A63 OA rfl<|T0<|wpAny_newTuple ?_;let Eu:g5.Z=hp.Z:=by rw[e5.1,e4.1,e3.1,e2.1,e1.1]
 let hz5:IsZip g5 z TI TO .ellipsis:=e5.extBut _ _ LC<|e4.extBut _ _ Q?<|e3.extBut _ _ LC<|e2.extBut _ _ PZ Qx;let hzl:z<g5.Z:=A05 hz5;change Ev _ _ (Re (.ref z) (.ref g5.Z)>>=_) _ _ _;show T0 ?_;unfold Re;let hz6:IsZip (g5.push {cls:=.type "tuple",data:=.seq #[x,y]}) z TI TO .ellipsis:=A03 _ hz5;show T0<|B21 hz6 ∅ λ g7 hz7 e7=>?_;let hz7:IsZip g7 z TI TO (rawInt g5.Z):=hz7;show B21 hz7 ∅ λ g8 _m e8=>?_;let _m:IsZip g8 z TI TO (rawInt g5.Z):=_m;let up:∀c o,c≠z->g5.get? c=AC o->g8.get? c=AC o:=λ c o h q=>e8.extBut _ _ h<|e7.extBut _ _ h<|A03 _ q;let hT8:IsPair g8 g5.objs.size x y:=e8.extBut _ _ (A48 hzl)<|e7.extBut _ _ (A48 hzl)<|A17 _ rfl;let s1:S1 (k+1) g8:=D1.frame _ g2 g8 h12 λ c hc o q=>up c o (λ y=>ZD<|y▸hc)<|e5.extBut c o (λ y=>UZ<|y▸hc)<|e4.extBut c o (λ y=>XQ<|y▸hc)<|e3.extBut c o (λ y=>UZ<|y▸hc) q;let s2:S2 (k+1) g8:=D2.frame _ g4 g8 h24 λ c hc o q=>up c o (λ y=>ZC<|y▸hc)<|e5.extBut c o (λ y=>PK<|y▸hc) q;let kp:∀c o,c∉[z,TO,i1,i2]->hp.get? c=AC o->g8.get? c=AC o:=λ c o hc q=>by erw[A01,A42,A47,A78]at hc;show up c o hc.1<|e5.extBut _ _ hc.2.1<|e4.extBut _ _ hc.2.2.2<|e3.extBut _ _ hc.2.1<|e2.extBut _ _ hc.2.2.1<|e1.extBut _ _ hc.1 q
 rw[Eu]at _m hT8;show v4 ⟨_,rfl,?_⟩;change Q (.ref g5.Z) _;rw[Eu];show hQ x y g8 t4 hx hy _m (up _ _ (A10 LC) OA) s1 s2 hT8 kp
theorem Hy{z TI TO i1 i2:δ}(F:Far z TI TO i1 i2 f1 f2)(D1:Draws prog w A i1 f1 n1 P1 S1)(D2:Draws prog w A i2 f2 n2 P2 S2)
 (hz:IsZip s.heap z TI TO .none) (Gx:IsPair s.heap TI (.ref i1) (.ref i2)) (Hu:IsPair s.heap TO a b) (h1:S1 k s.e) (h2:S2 k s.e) (TX:k=n1\/(k<n1/\k=n2))
 (hE:∀h' e tk,(∀c o,c∉[z,TO,i1,i2]->s.heap.get? c=AC o->h'.get? c=AC o)->(∃o,h'.get? e=AC o/\o.cls=.type "StopIteration")->E (.ref e) {s with heap:=h',toks:=tk}) :
 Ev (model prog w) A (Builtin.«zip.__next__» ⟨[.ref z],[]⟩) Q E s:=by
 let ne:=F.ne;erw[A19,A01,A42,A47,A78,B20,B43,B44]at ne;let((VP,LC,PZ,Q?),(TITO,TIi1,TIi2),(TOi1,TOi2),i12):=ne;let(ZD,UZ,XQ):=F.a1;let(ZC,PK,Tn):=F.a2;let(hp,gs,dr,tk0,os):=s;change Ev _ _ (field (.ref z) 2>>=_) _ _ _;show T0<|A40 hz rfl (x:=.bool AT) rfl ?_;change Ev _ _ (field (.ref z) 3>>=_) _ _ _;show T0<|A40 hz rfl (x:=.ref TI) rfl<|T0<|A63 Gx rfl ?_;change Ev _ _ (Go (.ref z)>>=_) _ _ _;show T0 ?_;unfold Go;show T0<|A40 hz rfl (x:=.none) rfl<|v4 ?_;erw[A35];show T0<|B36<|T0<|A40 hz rfl (x:=.ref TO) rfl<|T0<|B21 hz ∅ λ g1 Qx e1=>?_;let Qx:=Qx;let e1:=e1;show T0 ?_;erw[AB0,AC2,B38,AC7];show T0<|T0<|B76 ?_;change Ev _ _ (GT (.ref i1)>>=_) _ _ _;let h11:=D1.frame k hp g1 h1 λ c hc o q=>e1.extBut c o (λ y=>ZD<|y▸hc) q;rcases TX with rfl|⟨Qz,rfl⟩
 .refine T0<|D1.done _ _ _ h11 λ g2 e e2 he=>?_;let(oe,TB,Ym):=he;let e2:=e2;let _n:IsZip g2 z TI TO .ellipsis:=e2 _ _ PZ Qx;let hez:e≠z:=λ q=>by subst q;rw[_n]at TB;ext TB;simp at Ym
  show B21 _n ∅ λ g3 _ e3=>hE g3 e tk0 (λ c o hc q=>?_) ⟨oe,e3.extBut _ _ hez TB,Ym⟩;erw[A01,A42,A47,A78]at hc;show e3.extBut _ _ hc.1<|e2 _ _ hc.2.2.1<|e1.extBut _ _ hc.1 q
 .refine T0<|D1.item k _ _ _ Qz h11 λ x g2 t2 hx h12 e2=>v4 ?_;let e2:IN i1 g1 g2:=e2;let J!:IsPair g2 TO a b:=e2.extBut _ _ TOi1<|e1.extBut _ _ (A10 LC) Hu;show T0<|A63 J! rfl<|T0<|C21 J! λ g3 OB e3=>?_;let e3:IN TO g2 g3:=e3;show T0<|B01<|v4 ?_;show T0<|T0<|B76 ?_;change Ev _ _ (GT (.ref i2)>>=_) _ _ _;let h23:S2 k g3:=D2.frame k hp g3 h2 λ c hc o q=>e3.extBut c o (λ y=>PK<|y▸hc)<|e2.extBut c o (λ y=>Tn<|y▸hc)<|e1.extBut c o (λ y=>ZC<|y▸hc) q;show T0<|D2.done _ _ _ h23 λ g4 e e4 he=>?_;let(oe,TB,Ym):=he;let e4:ci i2 g3 g4:=e4;let hz4:IsZip g4 z TI TO .ellipsis:=e4 _ _ Q?<|e3.extBut _ _ LC<|e2.extBut _ _ PZ Qx;let hez:e≠z:=λ q=>by subst q;rw[hz4]at TB;ext TB;simp at Ym
  show B21 hz4 ∅ λ g5 _ e5=>hE g5 e t2 (λ c o hc q=>?_) ⟨oe,e5.extBut _ _ hez TB,Ym⟩;erw[A01,A42,A47,A78]at hc;show e5.extBut _ _ hc.1<|e4 _ _ hc.2.2.2<|e3.extBut _ _ hc.2.1<|e2.extBut _ _ hc.2.2.1<|e1.extBut _ _ hc.1 q
def _1(J1 J2:U6):It:=(λ i H=>(∃y,J1.at_ i H y)/\∃y,J2.at_ i H y,
 λ i H x H'=>∃T y1 y2,H T=At/\x=.ref T/\H'=upd H T (.tup [y1,y2])/\J1.at_ i H y1/\J2.at_ i H y2,
 λ i H=>(J1.end_ i H/\((∃y,J2.at_ i H y)\/J2.end_ i H))\/((∃y,J1.at_ i H y)/\J2.end_ i H),)
def W?(I:Inv X B O H s)(f:pw X B H b)(h:X.K.lookup b=AC o):False:=by
 let hb:=I.ok.mod.Qw b o h;rcases f.2.2.2.1 with z|z
 .exact I.ok.zN b o hb z
 .exact absurd (A05 (I.ok.bs b o hb).1)<|A86.mpr z
def tnZ(z TI TO i1 i2:δ)(n1 n2:Nat->ν->Prop)(i:Nat)(h:ν):Prop:=IsZip h z TI TO .none/\IsPair h TI (.ref i1) (.ref i2)/\(∃a b,IsPair h TO a b)/\n1 i h/\n2 i h
def zB(p:IsPair h T a b):∃o,h.get? T=AC o/\∀v,o.data≠.cell v:=
 ⟨_,p,λ v z=>by let z':=z;ext z'⟩
def zc{K:FM}{z TI TO i1 i2:δ}(S1:Src P w K J1 i1 n1)(S2:Src P w K J2 i2 n2)(nd:[z,TI,TO,i1,i2].Nodup):
 Turn P w K (.Tuple elts x1 pos) (_1 J1 J2) [z,TI,TO,i1,i2] z (tnZ z TI TO i1 i2 n1 n2):=by
 let _J:∀{X}{B}{O}{H}{s}{f1 f2},X.K=K->Inv X B O H s->(∀b∈[z,TI,TO,i1,i2],pw X B H b) ->
  (∀b∈f1,b=i1\/∃o,s.heap.get? b=AC o/\o.cls≠.type "enumerate" /\ o.cls≠.type "zip" /\ (H b=At->∃o',K.lookup b=AC o')) ->
  (∀b∈f2,b=i2\/∃o,s.heap.get? b=AC o/\o.cls≠.type "enumerate" /\ o.cls≠.type "zip" /\ (H b=At->∃o',K.lookup b=AC o'))->Far z TI TO i1 i2 f1 f2:=by
  intro X B O H s f1 f2 hK I hf g1 g2;subst hK;let qr:=nd;erw[A19,A01,A42,A47,A78,B20,B43,B44]at qr;let((VP,LC,PZ,Q?),(TITO,TIi1,TIi2),(TOi1,TOi2),i12):=qr;let no1:∀b,b∈[z,TI,TO,i1,i2]->b≠i1->b∉f1:=λ b hb s_ hm=>by
   rcases g1 b hm with q|⟨o,_,_,_,q⟩
   .exact s_ q
   .let(o',h'):=q (hf b hb).1;show W? I (hf b hb) h'
  let no2:∀b,b∈[z,TI,TO,i1,i2]->b≠i2->b∉f2:=λ b hb s_ hm=>by
   rcases g2 b hm with q|⟨o,_,_,_,q⟩
   .exact s_ q
   .let(o',h'):=q (hf b hb).1;show W? I (hf b hb) h'
  show(nd,(no1 z ∅ PZ,no1 TO ∅ TOi1,no1 i2 ∅<|A10 i12,),(no2 z ∅ Q?,no2 TO ∅ TOi2,no2 i1 ∅ i12,),)
 show⟨by simp,λ i h st b hb=>?_,λ i h h' st k=>?_,?_,?_,λ A i s Q E st hQ=>C22 st.1 hQ⟩
 .let(hz,Gx,(a,b',Hu),h1,h2):=st;erw[A01,A42,A47]at hb;rcases hb with rfl|rfl|rfl|rfl|rfl
  .exact⟨_,hz,λ v z=>by let z':Data.fields _=Data.cell v:=z;ext z'⟩
  .exact zB Gx
  .exact zB Hu
  .let(o,q,r,_):=S1.obj i h h1;show(o,q,r,)
  .let(o,q,r,_):=S2.obj i h h2;show(o,q,r,)
 .let(hz,Gx,(a,b',Hu),h1,h2):=st;show(k z ∅ _ hz,k TI ∅ _ Gx,(a,b',k TO ∅ _ Hu,),S1.keep i h h' h1 λ o q=>k i1 ∅ o q,S2.keep i h h' h2 λ o q=>k i2 ∅ o q,)
 .intro X hP hw hK hc i B s O H E I hf st hg;let(hz,Gx,(a,b',Hu),h1,h2):=st;let(f1,m1,P1,T1,D1,oP,_,TR,T5,_,Ya):=S1.draw X hP hw hK hc i B s O H I h1 (.inl hg.1);let(f2,m2,P2,T2,D2,Aj,_,TQ,Yn,_,X_):=S2.draw X hP hw hK hc i B s O H I h2 (.inl hg.2);let(hi1,Hm):=T5 hg.1;let(hi2,Qy):=Yn hg.2;let FR:=_J hK I hf TR TQ;subst hP hw hK;let hT:s.TypeIs (.ref z) "zip":=(_,hz,rfl,)
  unfold pyNext;show T0<|wpAny_attempt<|B08 (name:=Do "__next__") hT B77<|B10 B77 hT F.entry_zip_next (Fd FR D1 D2 hz Gx Hu oP Aj hi1 hi2 λ x y h' tk px py z' to' s1' s2' tt kp=>v4 ?_)<|F.args_zip_next_1 _;show(_,rfl,?_,);let(y1,r1,a1):=Hm x px;let(y2,r2,a2):=Qy y py;let lt:∀{c o},s.heap.get? c=AC o->c≠s.t:=λ q=>A16<|A05 q;let hTn:H s.t=At:=I.fresh;let hTz:s.heap.objs.size≠z:=(lt hz).symm;show wpAny_letOwnedTupleGo_zip z' λ J? _n Gu=>?_;let qr:=nd;erw[A19,A01,A42,A47,A78,B20,B43,B44]at qr;let((VP,LC,PZ,Q?),(TITO,TIi1,TIi2),(TOi1,TOi2),i12):=qr;let tt2:pj J? s.heap.objs.size [x,y].toArray:=(_,Gu.extBut _ _ hTz tt,)
  let I2:Inv X B O (upd H s.heap.objs.size<|.tup [y1,y2]) {s with heap:=J?,toks:=tk}:=
   C! (ch:=[z,TO,i1,i2]) I (λ b o hb q=>Gu.extBut b o (λ e=>hb (by simp[e]))<|kp b o hb q) (λ b hb=>hf b (by erw[A01,A42,A47]at hb ⊢;rcases hb with e|e|e|e<;>simp[e])) (P3 _) tt2 (.cons r1<|.cons r2 .nil) (by change 2<=sizeLine;decide)
  let k1:n1 (i+1) J?:=S1.keep _ _ _ (Ya _ _ s1') λ o q=>Gu.extBut i1 o (A10 PZ) q;let k2:n2 (i+1) J?:=S2.keep _ _ _ (X_ _ _ s2') λ o q=>Gu.extBut i2 o (A10 Q?) q;let kTI:IsPair J? TI (.ref i1) (.ref i2):=Gu.extBut _ _ (A10 VP)<|kp TI _ (by erw[A01,A42,A47,A78];show(A10 VP,TITO,TIi1,TIi2,)) Gx;show(.ref _,_,I2,rfl,(_,y1,y2,hTn,rfl,rfl,a1,a2,),(_n,kTI,(x,y,Gu.extBut _ _ (A10 LC) to',),k1,k2,),λ b hb=>?_,);let hbT:b≠s.t:=by
   erw[A01,A42,A47]at hb;rcases hb with rfl|rfl|rfl|rfl|rfl
   .exact lt hz
   .exact lt Gx
   .exact lt Hu
   .let(o,q,_):=S1.obj i _ h1;show lt q
   .let(o,q,_):=S2.obj i _ h2;show lt q
  rw[av hbT];show(hf b hb).1
 .intro X hP hw hK hc i B s O H E I hf st hg;let(hz,Gx,(a,b',Hu),h1,h2):=st;let g1:(∃y,J1.at_ i H y)\/J1.end_ i H:=by
   rcases hg with⟨q,_⟩|⟨q,_⟩
   .exact .inr q
   .exact .inl q
  let g2:(∃y,J2.at_ i H y)\/J2.end_ i H:=by
   rcases hg with⟨_,q⟩|⟨_,q⟩
   .exact q
   .exact .inr q
  let(f1,m1,P1,T1,D1,oP,_,TR,T5,Yg,Ya):=S1.draw X hP hw hK hc i B s O H I h1 g1;let(f2,m2,P2,T2,D2,Aj,_,TQ,Yn,Yf,X_):=S2.draw X hP hw hK hc i B s O H I h2 g2;let FR:=_J hK I hf TR TQ;let he:i=m1\/(i<m1/\i=m2):=by
   rcases hg with⟨q,_⟩|⟨q,q2⟩
   .exact .inl<|Yg q
   .exact .inr ⟨(T5 q).1,Yf q2⟩
  subst hP hw hK;let hT:s.TypeIs (.ref z) "zip":=(_,hz,rfl,)
  unfold pyNext;show T0<|wpAny_attempt<|B08 (name:=Do "__next__") hT B77<|B10 B77 hT F.entry_zip_next (Hy FR D1 D2 hz Gx Hu oP Aj he λ h' e tk kp hx=>?_)<|F.args_zip_next_1 _;let(o,ho,J'):=hx;show T0<|wpAny_isInstance (T:="StopIteration") (b:=Ch) ⟨o,ho,J'⟩ isSubtype_stop<|v4 ⟨rfl,?_⟩;show C? (ch:=[z,TO,i1,i2]) I kp λ b hb=>hf b (by erw[A01,A42,A47]at hb ⊢;rcases hb with e| e| e| e<;>simp[e])
abbrev zh(T1 T2:String)(h:ν)(l1 l2:δ):ν:=((((h.push {cls:=.type T1,data:=.fields #[.ref l1,.int 0 0]}).push {cls:=.type T2,data:=.fields #[.ref l2,.int 0 0]}).push {cls:=.type "tuple",data:=.seq #[.ref h.Z,.ref (h.Z+1)]}).push {cls:=.type "tuple",data:=.seq #[.none,.none]}).push
 {cls:=.type "zip",data:=.fields #[.none,.bool AT,.bool AT,.ref (h.Z+2),.ref (h.Z+3)]}
def zV(l1 l2:δ)(xs ys:Array ζ):Meets (Builtin.«zip.__new__» ⟨[.type "zip",.ref l1,.ref l2],[]⟩) (λ _ R s=>s.heap.IsTuple l1 xs/\s.heap.IsTuple l2 ys/\R (.ok<|.ret<|.ref<|s.t+4) {s with heap:=zh "tuple_iterator" "tuple_iterator" s.heap l1 l2}):=
 .of_wp λ prog w A R s h=>by
  let(hp,gs,dr,tk,os):=s;let(_s,Hs,h):=h;let Oo:=sub_zip;let q1:=_s;let q2:wv (Shared.heap ⟨hp.push {cls:=.type "tuple_iterator",data:=.fields #[.ref l1,.int 0 0]},gs,dr,tk,os⟩) l2 ys:=Heap.IsTuple.push Hs _
  wp_walk using B14 q1,B14 q2
  erw[A56]at h ⊢;show(_,rfl,h,)
def zW(l1 l2:δ)(xs ys:Array ζ):Meets (Builtin.«zip.__new__» ⟨[.type "zip",.ref l1,.ref l2],[]⟩) (λ _ R s=>s.heap.IsList l1 xs/\s.heap.IsTuple l2 ys/\R (.ok<|.ret<|.ref<|s.t+4) {s with heap:=zh "list_iterator" "tuple_iterator" s.heap l1 l2}):=
 .of_wp λ prog w A R s h=>by
  let(hp,gs,dr,tk,os):=s;let(_s,Hs,h):=h;let Oo:=sub_zip;let q1:=_s;let q2:wv (Shared.heap ⟨hp.push {cls:=.type "list_iterator",data:=.fields #[.ref l1,.int 0 0]},gs,dr,tk,os⟩) l2 ys:=Heap.IsTuple.push Hs _
  wp_walk using B15 q1,B14 q2
  erw[A56]at h ⊢;show(_,rfl,h,)
def yF(T1 T2:String)(h:ν)(l1 l2:δ):IsZip (zh T1 T2 h l1 l2) (h.Z+4) (h.Z+2) (h.Z+3) .none/\IsPair (zh T1 T2 h l1 l2) (h.Z+2) (.ref h.Z) (.ref<|h.Z+1)/\IsPair (zh T1 T2 h l1 l2) (h.Z+3) .none .none /\
 (zh T1 T2 h l1 l2).get? h.Z=AC {cls:=.type T1,data:=.fields #[.ref l1,.int 0 0]}/\(zh T1 T2 h l1 l2).get? (h.Z+1)=AC {cls:=.type T2,data:=.fields #[.ref l2,.int 0 0]}/\∀c o,h.get? c=AC o->(zh T1 T2 h l1 l2).get? c=AC o:=by
 let z1:(h.push {cls:=.type T1,data:=.fields #[.ref l1,.int 0 0]}).objs.size=h.Z+1:=A56 ..;let z2:((h.push {cls:=.type T1,data:=.fields #[.ref l1,.int 0 0]}).push {cls:=.type T2,data:=.fields #[.ref l2,.int 0 0]}).objs.size=h.Z+2:=by rw[A56,z1]
 let z3:(((h.push {cls:=.type T1,data:=.fields #[.ref l1,.int 0 0]}).push {cls:=.type T2,data:=.fields #[.ref l2,.int 0 0]}).push {cls:=.type "tuple",data:=.seq #[.ref h.Z,.ref (h.Z+1)]}).objs.size=h.Z+3:=by rw[A56,z2]
 let z4:((((h.push {cls:=.type T1,data:=.fields #[.ref l1,.int 0 0]}).push {cls:=.type T2,data:=.fields #[.ref l2,.int 0 0]}).push {cls:=.type "tuple",data:=.seq #[.ref h.Z,.ref (h.Z+1)]}).push {cls:=.type "tuple",data:=.seq #[.none,.none]}).objs.size=h.Z+4:=by rw[A56,z3]
 show(?_,?_,?_,?_,?_,λ c o q=>?_,)
 .skip
  rw[<-z4];show A17 _ rfl
 .skip
  rw[<-z2];show A03 _<|A03 _<|A17 _ rfl
 .skip
  rw[<-z3];show A03 _<|A17 _ rfl
 .exact A03 _<|A03 _<|A03 _<|A03 _<|A17 _ rfl
 .skip
  rw[<-z1];show A03 _<|A03 _<|A03 _<|A17 _ rfl
 .exact A03 _<|A03 _<|A03 _<|A03 _<|A03 _ q
def rM:∀xs ys (i:Nat),(Z.fO xs ys)[i]?=(xs[i]?).bind λ x=>(ys[i]?).map λ y=>Z.pair x y
|[],ys,i=>by ext ys<;>simp[Z.fO]
|x::xs,[],i=>by simp[Z.fO]
|x::xs,y::ys,0=>by simp[Z.fO]
|x::xs,y::ys,i+1=>by simp[Z.fO,rM xs ys i]
def yE:∀xs ys,(Z.fO xs ys).length=min xs.length ys.n
|[],ys=>by ext ys<;>simp[Z.fO]
|x::xs,[]=>by simp[Z.fO]
|x::xs,y::ys=>by simp[Z.fO,yE xs ys]
structure Gives(K:Da)(J:U6)(S:Hp->Prop)(ds:List Z.D):Prop where
 at_:∀(i:Nat) d H1,S H1->ds[i]?=AC d->(∃y,J.at_ i H1 y)/\∀y,J.at_ i H1 y->Den K H1 d y
 end_:∀H1,S H1->J.end_ ds.length H1
def El{K:FM}(g1:Gives K J1 S xs)(g2:Gives K J2 S ys):E_ K (_1 J1 J2) S (Z.fO xs ys) where
 go:=λ i d H1 s hi=>by
  rw[rM]at hi;cases q:xs[i]? with
  |none=>rw[q]at hi;ext hi
  |some x=>
   rw[q]at hi;cases q2:ys[i]? with
   |none=>simp[q2]at hi
   |some y=>show((g1.at_ i x H1 s q).1,(g2.at_ i y H1 s q2).1,)
 Bh:=λ i d H1 H2 x s hi y=>by
  let(T,y1,y2,hT,rfl,rfl,a1,a2):=y;rw[rM]at hi;cases q:xs[i]? with
  |none=>rw[q]at hi;ext hi
  |some x=>
   rw[q]at hi;cases q2:ys[i]? with
   |none=>simp[q2]at hi
   |some y=>erw[q2,C24,A68,B02]at hi;subst hi;let sm:az H1 (upd H1 T<|.tup [y1,y2]):=b? hT;show(sm,fq (.inl<|.inl aE)<|au.cons (((g1.at_ i x H1 s q).2 y1 a1).up sm)<|au.cons (((g2.at_ i y H1 s q2).2 y2 a2).up sm) au.nil,)
 stop:=λ H1 s=>by
  rw[yE];let e1:=g1.end_ H1 s;let e2:=g2.end_ H1 s;rcases Nat.lt_trichotomy _ _ with h|h|h
  .rw[A74<|A80 h];show .inl ⟨e1,.inl (g2.at_ _ _ H1 s<|A04 h).1⟩
  .rw[A74<|B92 h];rw[<-h]at e2;show .inl ⟨e1,.inr e2⟩
  .rw[Nat.min_eq_right<|A80 h];show .inr ⟨(g1.at_ _ _ H1 s<|A04 h).1,e2⟩
def pV{K:Da}(h:l4 K H q vs)(t:au K H ds vs):Gives K (Gm K q vs) (gm H) ds:=
 ⟨λ i d H1 s hi=>by let(y,hy,dy):=t.get hi;show((y,eR s h,hy,),λ y' Gq=>?_,);let:=Gq.2;rw[hy]at this;ext this;show dy.ups s,λ H1 s=>(eR s h,t.n,)⟩
def Gy{K:Da}(h:Q! K H q vs)(t:au K H ds vs):Gives K (Ol K q vs) (gm H) ds:=
 ⟨λ i d H1 s hi=>by let(y,hy,dy):=t.get hi;show((y,(h.mono s).sq,hy,),λ y' Gq=>?_,);let:=Gq.2;rw[hy]at this;ext this;show dy.ups s,λ H1 s=>((h.mono s).sq,t.n,)⟩
section
variable{X:Cx}{a b:ι}{pos p p2:Pos}{fa fb:Z.EF}{elts:U ι}{x1:Nat}
def EE(I:Inv X B O H s):∀b∈[s.t+4,s.t+2,s.t+3,s.t,s.t+1],pw X B H b:=λ b hb=>by
 let h:s.t<=b:=by erw[A01,A42]at hb;lia
 show I.uP h<|I.bO.fresh h
theorem D6(n:Nat):[n+4,n+2,n+3,n,n+1].Nodup:=by erw[A19,A01,A42,B20,B44];lia
def ZQ.EM(hm:X.mg "zip"=At)(ha:ZQ.QE X a fa)(hb:ZQ.QE X b fb)(hs:starEach [a,b] X.J=[(AT,eval a X.J),(AT,eval b X.J)]:=by rfl)(Aj:starEach [b] X.J=[(AT,eval b X.J)]:=by rfl)(h1:Se a [b] X.J:=by rfl)(h2:Se b [] X.J:=by rfl)(hg:Gl X "zip":=by rfl):ZQ.QJ X (.Tuple elts x1 p2) (.Call (.Name "zip" p) [a,b] [] pos) (Z.Gn fa fb):=⟨by
 intro B s O H R I w;let(Y,ds,r,e,k):=w;let(d1,ea,e):=ac e;let(d2,eb,e):=ac e;let(xs,ex,e):=ac e;let(ys,ey,e):=ac e;ext e;show Call_<|jY I hg hm (by kernel_rfl:bootBuiltins "zip"=AC (.type "zip"))<|B30 (b_ ((bw ha.p (bw hb.p cE h2) h1) pos B s O H (λ vs H1=>∃v u,vs=[v,u]/\az H H1/\Den X.K H1 d1 v/\Den X.K H1 d2 u) I ⟨Y,d1,r,ea,λ v H1 s1 q1=>(Y,d2,r.up s1,eb,λ u H2 s2 q2=>(v,u,rfl,s1.trans s2,q1.up s2,q2,),)⟩) ?_) (by rw[hs,Aj]) (by rw[Aj];rfl);rintro us s1 ⟨vs,H1,I1,r1,q1⟩;let(v,u,rfl,sm,hd1,hd2):=q1;let(u1,u2,rfl,ru1,Wr):=vals2 r1;let acb:∃_4,d2=.tup _4/\_4=ys:=by
  cases d2 with
  |tup _4=>ext ey;show(_,rfl,rfl,)
  |non=>ext ey
  |bl _=>ext ey
  |int _=>ext ey
  |str _=>ext ey
  |lst _=>ext ey
  |dct _ _=>ext ey
 let(_,rfl,rfl):=acb;let(q2,P5,rfl,hq2,t2):=bH.tup (.inl hd2);ext Wr;let(g9,rv2,pt2,_):=I1.tuple hq2;cases d1 with
 |tup _5=>ext ex;let(q,vs,rfl,hq,t):=bH.tup (.inl hd1);ext ru1;let(a8,rv,pt,hz):=I1.tuple hq;let(f1,f2,f3,f4,f5,f6):=yF "tuple_iterator" "tuple_iterator" s1.heap q q2;show callType_new F.called_zip ∅ (F.typeCall_zip_2 _ _) (F.newCall_zip_2 _ _) (λ obj=>F.args_object_init_3 obj _ _) F.entry_zip_new (zV q q2 a8.toArray g9.q) ⟨pt,pt2,⟨_,f1,rfl⟩,C22 f1 ?_⟩;show(_,[s1.t+4,s1.t+2,s1.t+3,s1.t,s1.t+1],_,_1 (Gm X.K q vs)<|Gm X.K q2 P5,H1,rfl,I1.kept f6,zc rk rk<|D6 _,(f1,f2,(_,_,f3,),(_,f4,rfl,rfl,),(_,f5,rfl,rfl,),),EE I1,k _ H1 sm<|El (pV hq t)<|pV hq2 t2,)
 |lst _5=>ext ex;erw[Den]at hd1;let(q,vs,rfl,hq,t):=hd1;ext ru1;let(a8,rv,pt,hz):=I1.list hq.sq;let(f1,f2,f3,f4,f5,f6):=yF "list_iterator" "tuple_iterator" s1.heap q q2;show callType_new F.called_zip ∅ (F.typeCall_zip_2 _ _) (F.newCall_zip_2 _ _) (λ obj=>F.args_object_init_3 obj _ _) F.entry_zip_new (zW q q2 a8.toArray g9.q) ⟨pt.x,pt2,⟨_,f1,rfl⟩,C22 f1 ?_⟩;show(_,[s1.t+4,s1.t+2,s1.t+3,s1.t,s1.t+1],_,_1 (Ol X.K q vs)<|Gm X.K q2 P5,H1,rfl,I1.kept f6,zc Dl rk<|D6 _,(f1,f2,(_,_,f3,),(_,f4,rfl,rfl,),(_,f5,rfl,rfl,),),EE I1,k _ H1 sm<|El (Gy hq t)<|pV hq2 t2,)
 |non=>ext ex
 |bl _=>ext ex
 |int _=>ext ex
 |str _=>ext ex
 |dct _ _=>ext ex⟩
end
end ZS
namespace Z
def MX:D->D->Res (U D)
|.lst [d],.int n=>guard (0<=n/\n<=16777216)<|.ok<|List.replicate n.toNat d
|_,_=>.bad
def BU(d:D)(n:Int):MX (.lst [d]) (.int n)=guard (0<=n/\n<=16777216) (.ok<|List.replicate n.toNat d):=rfl
def MW(h:MX x y=.ok ds):∃d n,x=.lst [d]/\y=.int n/\0<=n/\n<=16777216/\ds=Db n.toNat d:=by
 unfold MX at h;split at h
 .let((h1,h2),e):=bI h;ext e;show(_,_,rfl,rfl,h1,h2,rfl,)
 .ext h
@[simp] def S6(a:LF)(b:EF)(Y:Env):Res (U D):=(a Y).bind λ xs=>(b Y).bind λ y=>MX (.lst xs) y
end Z
namespace ZS
open L2
section
variable{X:Cx}
def t5{K:Da}(h:Den K H d w):∀n,au K H (Db n d) (Db n w)
|0=>au.nil
|n+1=>au.cons h<|t5 h n
def Au{w:V}:∀n,(Db n [w]).flatten=Db n w
|0=>rfl
|n+1=>by rw[A83,B32,Au];rfl
def ZQ.Up(ha:ZQ.QL X a la)(hb:ZQ.QW X b fb):ZQ.QL X (.BinOp a .Mult b pos) (Z.S6 la fb):=⟨PE.imp (DQ L2.R8 ha.p hb.p) <|by
 rintro O H Q ⟨Y,ds,r,e,k⟩;let(xs,ea,e):=ac e;let(y,eb,e):=ac e;let(d,n,hx,rfl,h0,h1,rfl):=Z.MW e;ext hx;show(Y,[d],r,ea,λ l vs H1 s1 hn hv t=>(Y,_,r.up s1,eb,λ u H2 s2 d2=>?_,),);erw[au]at t;let(w,r',rfl,dw,rfl):=t;show⟨l,n,[w],rfl,d2.int,s2 _ _ hv,by lia,by lia,?_,λ z hz=>?_⟩
 .rw[A32];simp;lia
 .rw[Au];let Wm:=s1.trans s2;let s3:az H2 (upd H2 z<|.lst<|List.replicate n.toNat w):=b? hz;show k z _ _ (Wm.trans s3) (Wm.free hz) aE<|t5 ((dw.up s2).up s3) _⟩
end
end ZS
namespace Z
def tK(bs:U Bool)(n:Nat)(b:SF)(ds:U D)(h:ds.n=bs.n):As bs n b ds=a! (b<|startB n bs ds):=by
 unfold As;rw[M2 h];cases b _ with
 |bad=>rfl
 |ok f=>ext f<;>rfl
def jR:U D->ε (U<|U Nat)
|[]=>AC []
|.str c::r=>(jR r).map (c::·)
|_::_=>At
def nj(sep:U Nat):U (U Nat)->U Nat
|[]=>[]
|[x]=>x
|x::y::r=>x++sep++nj sep (y::r)
def qq:D->D->Res D
|.str sep,.lst xs=>match jR xs with
 |some ts=>guard ((ts.map List.n).sum+ts.n*sep.n<=line)<|.ok<|.str<|nj sep ts
 |none=>.bad
|_,_=>.bad
def Jd(h:qq x y=.ok d):∃sep xs ts,x=.str sep/\y=.lst xs/\jR xs=AC ts/\(ts.map List.n).sum+ts.n*sep.n<=16777216/\d=.str (nj sep ts):=by
 unfold qq at h;split at h
 .split at h
  .rename_i hs;let(h1,e):=bI h;ext e;show(_,_,_,rfl,rfl,hs,h1,rfl,)
  .ext h
 .ext h
def r!:∀ts,jR (ts.map D.str)=AC ts
|[]=>rfl
|t::ts=>by simp[jR,r! ts]
def vW:∀ts,nj [] ts=ts.flatten
|[]=>rfl
|[x]=>by simp[nj]
|x::y::r=>by rw[nj,vW];simp
def vE{ts:U _}(h:ts.flatten.n<=16777216):qq (.str []) (.lst<|ts.map D.str)=.ok (.str ts.flatten):=by change(match jR _ with|some ts=>guard _ _|none=>Res.bad)=_;rw[r!];erw[vW];rw[guard_pos];rw[List.length_flatten]at h;calc h
def vF:D->D->Res D
|.str t,.str [c]=>.ok<|.int<|t.count c
|_,_=>.bad
@[simp] def _a(t:U Nat)(c:Nat):vF (.str t) (.str [c])=.ok (.int<|t.count c):=rfl
def Jg(h:vF x y=.ok d):∃t c,x=.str t/\y=.str [c]/\d=.int (t.count c):=by
 unfold vF at h;split at h
 .ext h;show(_,_,rfl,rfl,rfl,)
 .ext h
def Ki(is:U Nat)(d:D)(Y:Env):Res Env:=match d with
|.tup ds=>h9 is ds Y
|.lst ds=>h9 is ds Y
|_=>.bad
def tD(is:U Nat)(ds:U D)(Y:Env):Ki is (.lst ds) Y=h9 is ds Y:=rfl
end Z
namespace ZS
open L2
def PV(K:Da)(H:Hp)(b:Bool)(d:Z.D)(v:V):Prop:=if b=Ch then i! K H d v else Den K H d v
def iW(K:Da)(H:Hp):U Bool->U Z.D->U V->Prop
|[],[],vs=>vs=[]
|b::bs,d::ds,vs=>∃v r,vs=v::r/\PV K H b d v/\iW K H bs ds r
|_,_,_=>False
def iW.length{K:Da}:∀{bs}{ds}{vs},iW K H bs ds vs->vs.n=ds.n/\ds.n=bs.n
|[],[],vs,h=>by let:=h;subst this;show(rfl,rfl,)
|[],_::_,_,h=>h.elim
|_::_,[],_,h=>h.elim
|b::bs,d::ds,_,⟨v,r,e1,h1,h2⟩=>by let:=iW.length h2;subst e1;simp[this.1,this.2]
def iW.get{K:Da}{H:Hp}:∀{bs}{ds}{vs}{i:Nat}{b}{d},iW K H bs ds vs->bs[i]?=AC b->ds[i]?=AC d->∃v,vs[i]?=AC v/\PV K H b d v
|[],[],_,_,_,_,_,e,_=>by simp at e
|[],_::_,_,_,_,_,h,_,_=>h.elim
|_::_,[],_,_,_,_,h,_,_=>h.elim
|b::bs,d::ds,_,0,b',d',⟨v,r,e1,h1,h2⟩,eb,ed=>by simp at eb ed;subst e1;subst eb;subst ed;show(v,rfl,h1,)
|b::bs,d::ds,_,i+1,b',d',⟨v,r,e1,h1,h2⟩,eb,ed=>by subst e1;let(u,q1,q2):=iW.get h2 (by calc eb) (by calc ed);show⟨u,by calc q1,q2⟩
def aaa(K:Da)(bs:U Bool)(f:Z.AF):TA:=λ O H Q=>∃Y ds,RE K H O Y/\f Y=.ok ds/\∀vs H',az H H'->iW K H' bs ds vs->Q vs H'
abbrev _3(X:Cx)(es:U ι)(bs:U Bool)(f:Z.AF):Prop:=PA X es<|aaa X.K bs f
structure ZQ.Ls(X:Cx)(es:List Expr)(bs:List Bool)(f:Z.AF):Prop where p:_3 X es bs f
def ZQ.lU:ZQ.Ls X [] [] Z.ag:=⟨PA.imp cE <|by rintro O H Q ⟨Y,ds,r,e,k⟩;ext e;show k [] H (az.refl H) rfl⟩
def ZQ.hU(ha:ZQ.QE X e f)(hr:ZQ.Ls X es bs g)(hs:Se e es X.J:=by rfl):ZQ.Ls X (e::es) (AT::bs) (Z.ai f g):=⟨PA.imp (bw ha.p hr.p hs) <|by rintro O H Q ⟨Y,ds,r,e,k⟩;let(x,ea,e):=ac e;let(xs,eb,e):=ac e;ext e;show(Y,x,r,ea,λ v H1 s1 d1=>(Y,xs,r.up s1,eb,λ vs H2 s2 t=>k _ H2 (s1.trans s2) ⟨v,vs,rfl,Den.up d1 s2,t⟩,),)⟩
def BM(K:Da)(bs:U Bool)(m:U Z.D->Z.Res Z.D):Sp:=λ vs H Q _=>∃ds d,iW K H bs ds vs/\m ds=.ok d/\∀v H',az H H'->Den K H' d v->Q v H'
theorem K7(F:ee X.prog X.w X.K X.mg X.base hV k g fd ps (BM X.K bs m))(hr:bu k X.A)(hg:Gl X x)(hm:X.mg x=AC (.ref g))(hk:FS X.K (.ref g)=Ch)(hb:Binds X.K fd ps [])
 (ha:_3 X (e::es) bs ar) (ie:Nd x:=by kernel_rfl) (he:Se e es X.J:=by rfl) (fC:Pn pos es X.J:=by rfl) :
 DE X (.Call (.Name x p1) (e::es) [] pos) (Z.aj m ar):=
 PE.imp (xm F hr hg hm hk hb .nil sI ha ie he fC) <|by rintro O H Q ⟨Y,d,r,e,k⟩;let(ds,ea,e):=ac e;show(Y,ds,r,ea,λ vs H1 s1 d1=>?_,);change BM X.K bs m _ H1 Q E0;rw[A52];show(ds,d,d1,e,λ v H' s2 dv=>k v H' (s1.trans s2) dv,)
section
variable{K:Da}
def B6(b:Bool)(d:Z.D)(xs:U Z.D):Z.qV b d≠.own xs:=by unfold Z.qV;split<;>intro h<;>ext h
def B7(b:Bool)(d:Z.D)(ks:Z.DK):Z.qV b d≠.dc ks:=by unfold Z.qV;split<;>intro h<;>ext h
def Ed(h:PV K H b d v):RL K H (Z.qV b d) v:=by
 cases b with
 |false=>show(h)
 |true=>
  let h':=h;let st:(∀ds,d≠.lst ds)->(∀ks vs,d≠.dct ks vs)->Den K H d v:=λ n1 n2=>by
   rcases h' with h|⟨a,kd,ks,ds,u,e1,_⟩
   .exact h.mP n1
   .exact absurd e1<|n2 _ _
  cases d with
  |lst xs=>show h'
  |non=>show st (λ _ z=>nomatch z) λ _ _ z=>nomatch z
  |bl _=>show st (λ _ z=>nomatch z) λ _ _ z=>nomatch z
  |int _=>show st (λ _ z=>nomatch z) λ _ _ z=>nomatch z
  |str _=>show st (λ _ z=>nomatch z) λ _ _ z=>nomatch z
  |tup _=>show st (λ _ z=>nomatch z) λ _ _ z=>nomatch z
  |dct _ _=>show h'
def mQ(t:iW K H bs ds vs)(hl:vs.n<=N.n):RS K H H (L2.start N vs) (Z.startB N.length bs ds):=by
 let(ψ,hbl):=t.n;let hz:(al (λ b d=>AC<|Z.qV b d) bs ds).length=ds.n:=by simp[hbl]
 let key:∀(i:Nat) l,(Z.startB N.length bs ds)[i]?=AC (AC l)->∃b d,l=Z.qV b d/\∃v,(L2.start N vs)[i]?=AC (AC v)/\PV K H b d v:=by
  intro i l e;unfold Z.startB at e;by_cases hi:i<ds.n
  .rw[A23 (by rw[hz];show hi)]at e;let uk:i<bs.n:=by lia
   rw[List.getElem?_zipWith,A04 uk,A04 hi]at e;simp only at e;ext e;let(v,h1,h2):=t.get (A04 uk) (A04 hi);show(_,_,rfl,v,?_,h2,);unfold L2.start;rw[A23 (by simp;lia),A06,h1];rfl
  .rw[A46 (by rw[hz];lia),A53]at e;split at e<;>ext e
 let zM:∀(i:Nat) xs,(Z.startB N.length bs ds)[i]?≠AC (AC<|.own xs):=λ i xs e=>by let(b,d,h,_):=key i _ e;show B6 b d xs h.a
 show⟨az.refl H,(?_,λ i l e=>?_,λ i j xs ys q e1=>absurd e1<|zM i xs,),λ i xs q e1=>absurd e1<|zM i xs,λ i xs e1=>?_,ia.non λ i ks e=>by let(b,d,h,_):=key i _ e;show B7 b d ks h.a⟩
 .unfold Z.startB L2.start;rw[A38,A38,hz,A81,A08,A81,ψ]
 .let(b,d,rfl,v,h1,h2):=key i l e;show(v,h1,Ed h2,)
 .let(b,d,h,v,h1,h2):=key i _ e1;let:=Ed h2;rw[<-h]at this;show(v,h1,i!.z this,)
def YD{st:η}{f:δ}{fd:υ}{N ps:U Str}{bs:U Bool}{k:Nat}{b:Z.SF}(lQ:bs.n=ps.n)(F:Bg K x qual st f fd)(S:aW N ps (aa st))
 (hb:∀ a5 A outer s H E,bu k (A.deeper<|envOfC qual (aa st) s.heap.objs.size f a5) ->
  L9 (c! hV P w K mg base N qual (aa st) f a5 A outer s H E).gO H (aC st) b):ee P w K mg base hV (k+1) f fd ps (BM K bs<|Z.As bs N.length b):=by
 let ψ:∀vs H Q E,BM K bs (Z.As bs N.length b) vs H Q E->vs.n=ps.n:=by rintro vs H Q E ⟨ds,d,t,e,_⟩;let:=t.n;lia
 show F.ok S ψ λ a5 A outer s H vs Q E hr h=>(_,hb a5 A outer s H E hr,?_,);let hl:=ψ vs H Q E h;let(ds,d,t,e,k):=h;let fC:ps.n<=N.n:=by let:=A14 List.length S.pre;rw[A33]at this;lia
 let rs:RS K H H (L2.start N vs) (Z.startB N.length bs ds):=mQ t ∅;unfold Z.As at e;split at e
 .cases eb:b (Z.startB N.length bs ds)with
  |bad=>rw[eb]at e;ext e
  |ok fl=>
   rw[eb]at e;show(_,fl,rs,eb,?_,);cases fl with
   |rt d'=>ext e;show λ v H' s' dv=>k v H' s' dv
   |nx Y'=>ext e;show λ O' H' _ Dv=>k .non H' Dv.same j9
   |bk Y'=>ext e
   |ct Y'=>ext e
 .ext e
structure yu(P:Program)(w:World)(K:Da)(mg:Str->Option Value)(base:Heap)(x:Str)(k:Nat)(ps:List Str)(bs:List Bool)(m:List Z.D->Z.Res Z.D):Prop where
 ex:∃g fd,ee P w K mg base hV k g fd ps (BM K bs m)/\mg x=AC (.ref g)/\FS K (.ref g)=Ch/\Binds K fd ps []
def yu.mk'{st:η}(lQ:bs.n=ps.n)(d:Def K mg x st ps)(S:aW N ps (aa st))
 (hb:∀ f a5 A outer s H E,bu k (A.deeper<|envOfC x (aa st) s.heap.objs.size f a5) ->
  L9 (c! hV P w K mg base N x (aa st) f a5 A outer s H E).gO H (aC st) b):yu P w K mg base x (k+1) ps bs (Z.As bs N.length b):=by
 let(f,fd,F,hm,uk):=d.ex;show(f,fd,YD lQ F S<|hb f,hm,F.kp,uk,)
end
theorem ZQ.AV(C:yu X.prog X.w X.K X.mg X.base x k ps bs m)(hr:bu k X.A)(hg:Gl X x)
 (ha:ZQ.Ls X (e::es) bs ar) (ie:Nd x:=by kernel_rfl) (he:Se e es X.J:=by rfl) (fC:Pn pos es X.J:=by rfl) :
 ZQ.QE X (.Call (.Name x p1) (e::es) [] pos) (Z.aj m ar):=
 ⟨by let(_,_,F,hm,hk,hb):=C.ex;show K7 F hr hg hm hk hb ha.p ie he fC⟩
end ZS
namespace ZQ
open L2 ZS
def CG{K:Da}{st:η}(lQ:bs.n=ps.n)(d:ZS.Def K mg x st ps)(hb:∀{f}{a5}{A}{outer}{s}{H}{E},N.Nodup->(A.deeper<|envOfC x (aa st) s.heap.objs.size f a5).units+64<cLine->bu k (A.deeper<|envOfC x (aa st) s.heap.objs.size f a5)->va (c! hV P w K mg base N x (aa st) f a5 A outer s H E).gO H (aC st) b)(S:aW N ps (aa st):=by show ZS.Bb):ZS.yu P w K mg base x (k+1) ps bs (Z.As bs N.length b):=ZS.yu.mk' lQ d S λ f a5 A outer s H E hr=>(hb S.nd hr.units hr).p
end ZQ
namespace ZS
open L2
def tV(s_:l≠it):∀n i s Q,s.heap.IsListIter it l i->s.heap.IsList l items->i+n<=items.u ->
 (∀h',h'.IsListIter it l (i+n)->IN it s.heap h'->Q ((items.toList.drop i).take n) {s with heap:=h'})->Ev (model prog w) A (draw (.ref it) n) Q E s
|0,i,s,Q,hit,_,_,hQ=>by show v4 (by calc hQ _ hit (Heap.SameBut.refl ..))
|n+1,i,s,Q,hit,ht,hle,hQ=>by
 let jO:i<items.u:=by lia
 show T0<|wpAny_pyNext_list_item hit ht (x:=items[i]) (by simp[jO]) λ h₁ TL XY=>?_;show T0<|A49<|tV s_ n _ _ _ TL (ht.extBut XY.extBut s_) ∅ λ h₂ abT hs₂=>v4 ?_;let hd:items.toList.drop i=items[i]::items.toList.drop (i+1):=by simp[A99,jO]
 let:=hQ h₂ (by rw[show i+(n+1)=i+1+n by lia];show abT)<|XY.trans hs₂;rw[hd,List.take_succ_cons]at this;show this
def nW(hh:A.handled=At)(ht:s.heap.IsList t items)
 (hQ:∀h',ci s.heap.objs.size s.heap h'->Q items.toList {s with heap:=h'}):Ev (model prog w) A (unpackItems (.ref t) items.size At) Q E s:=by
 let jO:t≠s.t:=by let(o,ho,_):=ht;show A16<|A05 ho
 show T0 ?_
 .skip
  show T0<|wpAny_specialOf ht.typeIs slot_list_iter.lookup ?_;show v4 ?_;erw[A61,A67];show T0<|A49<|B15 ht ?_;show T0<|A49<|tV jO _ 0 _ _ ⟨_,A17 _ rfl,rfl,rfl⟩ (ht.push _) ∅ λ h₁ TL XY=>?_;let hall:List.take items.size (List.drop 0 items.y)=items.y:=by rw[List.drop_zero];show B45 ∅
  rw[hall];rw[W1 ∅];let ht₁:=(ht.push _).extBut XY.extBut jO;show T0<|A49<|wpAny_pyNext_list_end hh TL ht₁ ∅ λ h₂ he₂=>?_;erw[Option.isSome_none,A61,A67];show v4<|hQ h₂ λ b o hb e=>he₂ b o hb<|XY.extBut b o hb<|A03 _ e
theorem nL(hh:A.handled=At)(ht:s.heap.IsList t items)
 (hn:(assignEach elts env).length=items.u) (XZ:(assignEach elts env).findIdx? (·.1)=At)
 (h:∀h',ci s.heap.objs.size s.heap h'->Ev (model prog w) A (assignInOrder ((assignEach elts env).map (·.2)) items.y) Q E {s with heap:=h'}) :
 Ev (model prog w) A (assign (.Tuple elts x1 pos) env<|.ref t) Q E s:=by
 rw[assign_Tuple];show T0<|B39 ?_;unfold unpack;rw[hn,XZ];show T0<|A49<|nW hh ht h
def Yy(K:Da)(n:Nat)(t:U0):TG:=λ v O H Q=>∃a xs,v=.ref a/\iY K H a xs/\xs.n=n/\t xs O H Q
def RR(hc:X.calm=Ch)(h:Lu X es t)
 (hn:(assignEach es X.J).length=n:=by rfl) (oO:(assignEach es X.J).findIdx? (·.1)=At:=by rfl):PG X (.Tuple es k pos) (Yy X.K n t):=by
 intro B s O H v u Q I r hw;let(a,xs,e1,hq,hl,hw):=hw;subst e1;ext r;let(a8,rv,ht,hz):=I.list hq;show nL (I.ok.hd hc) ht.isList (by simp[hn,<-hl,rv.n]) oO λ h' hx=>?_;let I1:=I.kept (t':=s.toks) λ b o e=>hx b o (A16<|A05 e) e;show h B _ O H xs _ Q I1 (by calc rv) hw
def tF:∀is ds Y Y',Z.h9 is ds Y=.ok Y'->ds.n=is.n:=by
 intro is
 induction is with
 |nil=>intro ds Y Y' e;cases ds with
  |nil=>rfl
  |cons d ds=>ext e
 |cons i is ih=>intro ds Y Y' e;cases ds with
  |nil=>ext e
  |cons d ds=>simp[ih ds _ _ e]
def ZQ.Us(hc:X.calm=Ch)(h:ZQ.Zq X H0 es is)(hl:is.n=n)(hn:(assignEach es X.J).length=n:=by rfl)(oO:(assignEach es X.J).findIdx? (·.1)=At:=by rfl):ZQ.QG X H0 (.Tuple es x1 pos) (Z.Ki is):=⟨by
 let h:=h.p;intro B s O H v u Q I r hw;let(Y,d,Y',rs,hd,e,k):=hw;unfold Z.Ki at e;split at e
 .rename_i ds;let(q,vs,rfl,hq,t):=bH.tup (.inl hd);show IJ hc h hn oO B s O H _ u Q I r ⟨q,vs,rfl,hq,by rw[t.n,tF is ds Y Y' e];show hl,Y,ds,Y',rs,t,e,k⟩
 .rename_i ds;let(q,vs,rfl,hq,t):=bH.lst (.inl hd);show RR hc h hn oO B s O H _ u Q I r ⟨q,vs,rfl,hq,by rw[t.n,tF is ds Y Y' e];show hl,Y,ds,Y',rs,t,e,k⟩
 .ext e⟩
def yM:∀{ts}{a8},Vals (ts.map V.str) a8->∃l,strValues l=a8/\l.map (·.1)=ts
|[],a8,h=>by ext h;show([],rfl,rfl,)
|t::ts,a8,h=>by
 cases h with
 |cons r rr=>let(tk,rfl):=r;let(l,rfl,h2):=yM rr;show⟨(t,tk)::l,rfl,by rw[<-h2];rfl⟩
def rJoin(K:Da):V->U V->Hp->VK->Prop:=λ x vs H Q=>∃sep q ts,x=.str sep/\vs=[.ref q]/\iY K H q (ts.map V.str)/\JoinOk sep ts=Ch/\Q (.str<|Txt.join sep ts) H
def NM:VL X "str.join" (rJoin X.K):=by intro B s O H x vs v us Q I rx rv h;let(sep,q,ts,rfl,rfl,hq,bO,k):=h;let(t,rfl):=rx;let(u,rfl,ru):=rv.one;ext ru;let(a8,r,pl,hz):=I.list hq;let(l,rfl,hl):=yM r;show SC.join pl.isList hl bO λ t' c=>(.str _,H,I.tok c,(t',rfl,),k,)
def qU(cs:U Nat):Str:=⟨cs.q⟩
def tY{K:FM}:∀{xs}{ts}{vs},Z.jR xs=AC ts->au K H xs vs->vs=(ts.map qU).map V.str
|[],ts,vs,e,h=>by ext e;erw[au]at h;subst h;rfl
|x::xs,ts,vs,e,h=>by
 cases x with
 |str c=>
  let e':(Z.jR xs).map _=AC ts:=e;cases q:Z.jR xs with
  |none=>rw[q]at e';ext e'
  |some Ro=>rw[q]at e';ext e';erw[au]at h;let(v,r,rfl,hv,ht):=h;erw[Den]at hv;rw[hv,tY q ht];rfl
 |non=>ext e
 |bl _=>ext e
 |int _=>ext e
 |tup _=>ext e
 |lst _=>ext e
 |dct _ _=>ext e
def D8(cs:U Nat):(qU cs).length=cs.n:=by simp[qU,Str.length]
def D9(a b:U Nat):qU a++qU b=qU (a++b):=by change(⟨a.q++b.q⟩:Str)=_;simp[qU]
def Ob(sep:U Nat):∀ts,Txt.join (qU sep) (ts.map qU)=qU (Z.nj sep ts):=by
 intro ts;change Builtin.Str.glued _ _=_;rw[StrLaws.glued_eq_join]
 induction ts with
 |nil=>rfl
 |cons x ts ih=>
  cases ts with
  |nil=>rfl
  |cons y r=>change qU x++qU sep++Str.join _ _=_;rw[ih,D9,D9];rfl
def Oa{ts:U _}(h:(ts.map List.n).sum+ts.n*sep.n<=16777216):JoinOk (qU sep) (ts.map qU)=Ch:=by
 unfold JoinOk;rw[StrLaws.joinTotal];let e:(ts.map qU).map (·.length)=ts.map List.n:=by rw[A24];show B13 λ x _=>D8 x
 rw[e,A08,D8];erw[Builtin.Str.tooLong,wP,decide_eq_false_iff_not,A86];rw[A32];show h
theorem ZQ.σ7(ho:ZQ.QE X o fa)(hb:ZQ.QW X b fb)
 (eZ:attributeBase o "join" X.env (eval o X.J)=eval o X.J:=by rfl)
 (lg:((backTo p2<|starEach (b::[]) X.J).all (λ x=>!x.1)&&(backToKw p2<|keywordEach [] X.J).all (λ x=>x.1.isSome)
  && decide ((b::[]).length+([]:U π).length+(if([]:U π).isEmpty then 0 else 1)<30))=Ch:=by rfl)
 (eT:(p1.endLine==p2.line)=Ch:=by rfl) (oP:Se b [] X.J:=by rfl) (gA:Pn p2 [] X.J:=by rfl) :
 ZQ.QE X (.Call (.Attribute o "join" p1) [b] [] p2) (Z.eB Z.qq fa fb):=
 ⟨PE.imp (vv C68 PySem.F.slot_str_join PySem.F.type_str_join NM ho.p (bw hb.p cE oP) eZ lg eT oP gA) <|by rintro O H Q ⟨Y,d,r,e,k⟩;let(x,ea,e):=ac e;let(y,eb,e):=ac e;let(sep,xs,ts,rfl,rfl,et,hl,rfl):=Z.Jd e;show(Y,_,r,ea,λ v H1 s1 d1=>?_,);erw[Den]at d1;subst d1;show(rfl,Y,_,r.up s1,eb,λ u H2 s2 d2=>?_,);let(q,vs,rfl,hq,t):=d2.lst;rw[tY et t]at hq;show(qU sep,q,ts.map qU,rfl,rfl,hq,Oa hl,?_,);rw[Ob];show k _ H2 (s1.trans s2) j8⟩
def Nw(x:Str)(c:Nat)(lim:Nat):∀n lo st,st.2<=lo->st.1.size+n<=lim->lo+n=x.n+1 ->
 (forIn (List.range' lo n) st<|StrLaws.occBody x ⟨#[c]⟩ x.length lim).run.fst.size=st.1.size+(x.cps.toList.drop lo).count c:=by
 intro n
 induction n with
 |zero=>intro lo st h1 h2 h3;let:x.cps.toList.drop lo=[]:=B78 (by simp;change x.n<=lo;lia);simp[this]
 |succ n ih=>
  intro lo st h1 h2 h3;rw[List.range'_succ,B38];by_cases hlo:lo<x.n
  .let TJ:lo<x.cps.y.n:=by rw[B57];show hlo
   let Oo:TD x ⟨#[c]⟩ lo=decide (x.cps.toList[lo]=c):=by
    let so:=StrLaws.subAt_one x c lo;rw[A59,B46];constructor
    .intro h;let:=so.mp ⟨by change lo+1<=x.n;lia,h⟩;rw[A04 TJ]at this;show f8 this
    .intro h;show(so.mpr (by rw[A04 TJ,h])).2
   rw[A99 TJ];by_cases hc:x.cps.toList[lo]=c
   .let Ak:((st.1.size<lim/\st.2<=lo)/\lo+(⟨#[c]⟩:Str).length<=x.n)/\TD x ⟨#[c]⟩ lo=Ch:=⟨⟨⟨by lia,h1⟩,by change lo+1<=x.n;lia⟩,by rw[Oo];simp[hc]⟩
    let e:On x ⟨#[c]⟩ x.length lim lo st=pure (GM (st.1.push lo,lo+1)):=by unfold On;rw[M2 Ak];rfl
    rw[e];let:=ih (lo+1) (st.1.push lo,lo+1) (P3 _) (by simp;lia) ∅;erw[pure_bind];rw[this,hc,List.count_cons_self];erw[Array.size_push];lia
   .let Ak:¬(((st.1.size<lim/\st.2<=lo)/\lo+(⟨#[c]⟩:Str).length<=x.n)/\TD x ⟨#[c]⟩ lo=Ch):=λ z=>by rw[Oo]at z;show hc<|B17 z.2
    let e:On x ⟨#[c]⟩ x.length lim lo st=pure (GM (st.1,st.2)):=by unfold On;rw[W1 Ak]
    rw[e];let:=ih (lo+1) (st.1,st.2) (by simp;lia) (by simp;lia) ∅;erw[pure_bind];rw[this,List.count_cons_of_ne hc]
  .let Ak:¬(((st.1.size<lim/\st.2<=lo)/\lo+(⟨#[c]⟩:Str).length<=x.n)/\TD x ⟨#[c]⟩ lo=Ch):=λ z=>hlo (by let:=z.1.2;change lo+1<=x.n at this;lia);let e:On x ⟨#[c]⟩ x.length lim lo st=pure (GM (st.1,st.2)):=by unfold On;rw[W1 Ak]
   rw[e];let:=ih (lo+1) (st.1,st.2) (by simp;lia) (by simp;lia) ∅;erw[pure_bind];rw[this];let h5:x.cps.toList.drop lo=[]:=B78 (by simp;change x.n<=lo;lia);let h6:x.cps.toList.drop (lo+1)=[]:=B78 (by simp;change x.n<=lo+1;lia);rw[h5,h6]
def F2(t:U Nat)(c:Nat):(Sc (qU t) ⟨#[c]⟩ 0 (qU t).length<|(qU t).length+1).length=t.count c:=by rw[StrLaws.occ_eq];let:=Nw (qU t) c ((qU t).length+1) ((qU t).length+1) 0 (#[],0) (P3 _) ∅ ∅;simpa[qU]using this
def WB:V->U V->Hp->VK->Prop:=λ x vs H Q=>∃t c,x=.str (qU t)/\vs=[.str ⟨#[c]⟩]/\Q (.int ((t.count c:Nat):Int)) H
def NN:VL X "str.count" WB:=by intro B s O H x vs v us Q I rx rv h;let(t,c,rfl,rfl,k):=h;let(tk,rfl):=rx;let(u,rfl,ru):=rv.one;let(tk2,rfl):=ru;show call_gives F.slot_str_count (typeIs_str _ _ _) F.entry_str_count (F.args_str_count_2 _ _) (gives_str_count _ _ tk tk2) ?_;rw[F2];show(.int _,H,I.tok _,(_,rfl,),k,)
theorem ZQ.O?(ho:ZQ.QW X o fa)(hb:ZQ.QW X b fb)
 (eZ:attributeBase o "count" X.env (eval o X.J)=eval o X.J:=by rfl)
 (lg:((backTo p2<|starEach (b::[]) X.J).all (λ x=>!x.1)&&(backToKw p2<|keywordEach [] X.J).all (λ x=>x.1.isSome)
  && decide ((b::[]).length+([]:U π).length+(if([]:U π).isEmpty then 0 else 1)<30))=Ch:=by rfl)
 (eT:(p1.endLine==p2.line)=Ch:=by rfl) (oP:Se b [] X.J:=by rfl) (gA:Pn p2 [] X.J:=by rfl) :
 ZQ.QE X (.Call (.Attribute o "count" p1) [b] [] p2) (Z.eB Z.vF fa fb):=
 ⟨PE.imp (vv C68 PySem.F.slot_str_count PySem.F.type_str_count NN ho.p (bw hb.p cE oP) eZ lg eT oP gA) <|by rintro O H Q ⟨Y,d,r,e,k⟩;let(x,ea,e):=ac e;let(y,eb,e):=ac e;let(t,c,rfl,rfl,rfl):=Z.Jg e;show(Y,_,r,ea,λ v H1 s1 d1=>?_,);let d1':=d1.str;subst d1';show(rfl,Y,_,r.up s1,eb,λ u H2 s2 d2=>?_,);let d2':=d2.str;subst d2';show(t,c,rfl,rfl,k _ H2 (s1.trans s2) cI,)⟩
end ZS
namespace Z
@[simp] def l?(_:Env):Res Fl:=.bad
def DZ:D->D->Res D
|.tup [d],.int n=>guard (0<=n/\n<=1000000)<|.ok<|.tup<|List.replicate n.toNat d
|_,_=>.bad
def Jb(h:DZ x y=.ok d):∃e n,x=.tup [e]/\y=.int n/\0<=n/\n<=1000000/\d=.tup (Db n.toNat e):=by
 unfold DZ at h;split at h
 .let((h0,h1),e):=bI h;ext e;show(_,_,rfl,rfl,h0,h1,rfl,)
 .ext h
end Z
namespace ZS
open L2
def ZQ.Uk{st:η}:ZQ.QS X H0 st Z.l?:=⟨by rintro _ _ _ _ _ _ ⟨_,_,_,e,_⟩;show nomatch e⟩
def ZQ.ya:ZQ.va X H0 yv Z.l?:=⟨by rintro _ _ _ _ _ _ ⟨_,_,_,e,_⟩;show nomatch e⟩
def Le{K:Da}(C:C5 P w K mg base x k ps m)(hm:∀ds d,m ds≠.ok d:=by intro ds d h;unfold Z.fn at h;split at h<;>ext h):C5 P w K mg base x k ps (λ _=>.bad):=by
 let(g,fd,F,h):=C.ex;let:yw K m=yw K λ _=>.bad:=by
  funext vs H Q E
  show propext ⟨by rintro⟨ds,d,_,e,_⟩;show absurd e<|hm ds d,by rintro⟨ds,d,_,e,_⟩;show nomatch e⟩
 rw[this]at F;show(g,fd,F,h,)
structure PR(K:Da)(x qual:Str)(st:Stmt)(f:Addr)(fd:FuncData):Prop where
 ex:∃(oc:Value)(od:Option Addr)(dV kV doc pm:Value)(an:Option Addr)(a5 ct:Value)(yy:Array (Option Value)),
  fd=No x qual (bp st) (aC st) (aa st) dV kV doc pm an a5 ct/\K.lookup f=AC ⟨oc,od,.func fd,yy⟩/\PP K a5 qual=Ch
 kp:FS K (.ref f)=Ch
section
variable{K:Da}
def PR.ok{st:η}(F:PR K x qual st f fd)(S:aW N ps (aa st))(len:∀vs H Q E,sp vs H Q E->vs.n=ps.n)
 (Al:∀ a5 A outer s H vs Q E,bu k (A.deeper<|envOfC qual (aa st) s.heap.objs.size f a5)->sp vs H Q E ->
  ∃t,pq (c! hV P w K mg base N qual (aa st) f a5 A outer s H E).gO (aC st) t/\t {nx:=λ _ H'=>Q .non H',rt:=Q} (start N vs) H):ee P w K mg base hV (k+1) f fd ps sp:=by
 let(oc,od,dV,kV,doc,pm,an,a5,ct,yy,rfl,lk,rG):=F.ex;show Aq lk rG S len λ A outer s H vs Q E hr Gs=>?_;let(t,h,q):=Al a5 A outer s H vs Q E hr Gs;show(t,h.gO,q,)
def acC{st:η}(F:PR K x qual st f fd)(S:aW N ps (aa st))
 (hb:∀ a5 A outer s H E,bu k (A.deeper<|envOfC qual (aa st) s.heap.objs.size f a5) ->
  L9 (c! hV P w K mg base N qual (aa st) f a5 A outer s H E).gO H (aC st) b):ee P w K mg base hV (k+1) f fd ps (yw K<|Z.fn ps.length N.length b):=by
 let ψ:∀vs H Q E,yw K (Z.fn ps.length N.length b) vs H Q E->vs.n=ps.n:=by
  rintro vs H Q E ⟨ds,d,t,e,_⟩;unfold Z.fn at e;split at e
  .rename_i h;rw[t.n];show h
  .ext e
 show F.ok S ψ λ a5 A outer s H vs Q E hr h=>(_,hb a5 A outer s H E hr,?_,);let hl:=ψ vs H Q E h;let(ds,d,t,e,k):=h;let fC:ps.n<=N.n:=by let:=A14 List.length S.pre;rw[A33]at this;lia
 let rs:RS K H H (L2.start N vs) (Z.start N.length ds):=pI t ∅;unfold Z.fn at e;split at e
 .cases eb:b (Z.start N.length ds)with
  |bad=>rw[eb]at e;ext e
  |ok fl=>
   rw[eb]at e;show(_,fl,rs,eb,?_,);cases fl with
   |rt d'=>ext e;show λ v H' s' dv=>k v H' s' dv
   |nx Y'=>ext e;show λ O' H' _ Dv=>k .non H' Dv.same j9
   |bk Y'=>ext e
   |ct Y'=>ext e
 .ext e
structure PX(K:Da)(mg:Str->Option Value)(x:Str)(st:Stmt)(ps:List Str):Prop where
 ex:∃f fd,PR K x x st f fd/\mg x=AC (.ref f)/\Binds K fd ps []/\Binds K fd ps [.none]
structure rg(P:Program)(w:World)(K:Da)(mg:Str->Option Value)(base:Heap)(x:Str)(k:Nat)(ps:List Str)(m:List Z.D->Z.Res Z.D):Prop where
 ex:∃g fd,ee P w K mg base hV k g fd ps (yw K m)/\mg x=AC (.ref g)/\FS K (.ref g)=Ch/\Binds K fd ps []/\Binds K fd ps [.none]
def rg.full(C:rg P w K mg base x k ps m):C5 P w K mg base x k ps m:=
 by let(g,fd,h1,h2,h3,h4,_):=C.ex;show(g,fd,h1,h2,h3,h4,)
def rg.mk'{st:η}(d:PX K mg x st ps)(S:aW N ps (aa st))
 (hb:∀ f a5 A outer s H E,bu k (A.deeper<|envOfC x (aa st) s.heap.objs.size f a5) ->
  L9 (c! hV P w K mg base N x (aa st) f a5 A outer s H E).gO H (aC st) b):rg P w K mg base x (k+1) ps (Z.fn ps.length N.length b):=by
 let(f,fd,F,hm,uk,hb2):=d.ex;show(f,fd,acC F S<|hb f,hm,F.kp,uk,hb2,)
def O4{st:η}{ps:U Str}{f t:δ}{oc:ζ}{od an:ε δ}{yy:Array (ε ζ)}{kV doc pm a5 ct tc:ζ}{td:ε δ}{tn:Nat}{tsl:Array (ε ζ)}
 (l:K.lookup f=AC ⟨oc,od,.func<|PySem.W.fnOf x x (bp st) (aC st) (aa st) (.ref t) kV doc pm an a5 ct,yy⟩)
 (c:PP K a5 x=Ch) (k:FS K (.ref f)=Ch) (lt:K.lookup t=AC ⟨tc,td,.seq #[.none] tn,tsl⟩) (hm:mg x=AC (.ref f))
 (h1:∀us,us.n=ps.n->∃kk,bindArgs (No x x (bp st) (aC st) (aa st) (.ref t) kV doc pm an a5 ct) ⟨us,[]⟩=seqItems? (.ref t)>>=kk/\kk (AC #[.none])=pure (ps.zip us))
 (h2:∀us,us.n+1=ps.n->∃kk,bindArgs (No x x (bp st) (aC st) (aa st) (.ref t) kV doc pm an a5 ct) ⟨us,[]⟩=seqItems? (.ref t)>>=kk/\kk (AC #[.none])=pure (ps.zip<|us++[.none])):PX K mg x st ps:=by
 show(f,_,((oc,od,.ref t,kV,doc,pm,an,a5,ct,yy,rfl,l,c,),k,),hm,λ s us hK hl=>?_,λ s us hK hl=>?_,)
 .rw[A52]at hl ⊢;let(kk,e1,e2):=h1 us hl;show BindsTo.of_defaults (T:=t) (items:=#[.none]) rfl (hK t _ lt) rfl e1 e2
 .let(kk,e1,e2):=h2 us (by calc hl);show BindsTo.of_defaults (T:=t) (items:=#[.none]) rfl (hK t _ lt) rfl e1 e2
end
end ZS
namespace ZQ
open L2 ZS
def t!{K:Da}{st:η}(d:ZS.PX K mg x st ps)(hb:∀{f}{a5}{A}{outer}{s}{H}{E},N.Nodup->(A.deeper<|envOfC x (aa st) s.heap.objs.size f a5).units+64<cLine->bu k (A.deeper<|envOfC x (aa st) s.heap.objs.size f a5)->va (c! hV P w K mg base N x (aa st) f a5 A outer s H E).gO H (aC st) b)(S:aW N ps (aa st):=by show ZS.Bb):ZS.rg P w K mg base x (k+1) ps (Z.fn ps.length N.length b):=ZS.rg.mk' d S λ f a5 A outer s H E hr=>(hb S.nd hr.units hr).p
end ZQ
section
open PySem
open PySem.Sem (wp)
open PySem.Builtin
def pQ:fillsNumberSlot (.type "tuple") "mul"=pure AT:=
 PySem.fillsNumberSlot_seq B47.lookup (by decide +kernel) F.slot_tuple_rmul.lookup (by decide +kernel)
def xg:seqRepeat? (.type "tuple")=pure (AC<|.builtin "tuple.__mul__"):=by unfold seqRepeat?;rw[PySem.seqSlot_of (name:="__mul__") B47.lookup (by decide +kernel),PySem.seqSlot_of (name:="__rmul__") F.slot_tuple_rmul.lookup (by decide +kernel)];rfl
def jZ(a:Int)(t:Tok)(l:δ)(items:Array ζ)(n:Nat)(dd:ε δ)(sl:Array _):
 Meets (Builtin.«int.__rmul__» ⟨[.int a t,.ref l],[]⟩) (λ _ R s=>s.heap.get? l=AC {cls:=.type "tuple",dict:=dd,data:=.seq items n,slots:=sl}/\R (.ok<|.ret Value.notImplemented) s):=
 .of_wp λ prog w A R s h=>by let(hp,g,d,tk,os):=s;let(hl,h):=h;wp_walk;show(_,rfl,h,)
def qR(a:Int)(t:Tok)(l:δ)(x:ζ)(n:Nat)(dd:ε δ)(sl:Array _)(h0:a=0):
 Meets (Builtin.«tuple.__mul__» ⟨[.ref l,.int a t],[]⟩) (λ _ R s=>s.heap.get? l=AC {cls:=.type "tuple",dict:=dd,data:=.seq #[x] n,slots:=sl}/\R (.ok<|.ret<|.ref s.t) {s with heap:=s.heap.push {cls:=.type "tuple",data:=.seq #[]}}):=
 .of_wp λ prog w A R s h=>by
  let(hp,g,d,tk,os):=s;let(hl,h):=h;subst h0
  wp_walk
  show(_,rfl,h,)
def qQ(a:Int)(t:Tok)(l:δ)(x:ζ)(n:Nat)(dd:ε δ)(sl:Array _)(h0:a=1):
 Meets (Builtin.«tuple.__mul__» ⟨[.ref l,.int a t],[]⟩) (λ _ R s=>s.heap.get? l=AC {cls:=.type "tuple",dict:=dd,data:=.seq #[x] n,slots:=sl}/\R (.ok<|.ret<|.ref l) s):=
 .of_wp λ prog w A R s h=>by
  let(hp,g,d,tk,os):=s;let(hl,h):=h;subst h0
  wp_walk
  show(_,rfl,h,)
def qP(a:Int)(t:Tok)(l:δ)(x:ζ)(n:Nat)(dd:ε δ)(sl:Array _)(h1:¬(decide (a < -(2^63))||decide (a≥2^63))=Ch)(h2:¬((#[x]).isEmpty||a==1)=Ch)(h3:¬(decide (a<=0)||(#[x]).isEmpty)=Ch)(h4:¬((#[x]).size)*a>(2^63-1) / 8)(h5:¬Tuple.tupleTooMany (((#[x]).size)*a)=Ch)(h6:((Db a.toNat #[x]).foldl (·++·) #[]).size<=sizeLine):
 Meets (Builtin.«tuple.__mul__» ⟨[.ref l,.int a t],[]⟩) (λ _ R s=>s.heap.get? l=AC {cls:=.type "tuple",dict:=dd,data:=.seq #[x] n,slots:=sl}/\R (.ok<|.ret<|.ref s.t) {s with heap:=s.heap.push {cls:=.type "tuple",data:=.seq ((Db a.toNat #[x]).foldl (·++·) #[])}}):=
 .of_wp λ prog w A R s h=>by
  let(hp,g,d,tk,os):=s;let(hl,h):=h
  wp_walk
  show B48 (by calc h1) ?_
  wp_walk
  show B48 (by calc h2) ?_
  wp_walk
  show B48 (by calc h3) ?_
  wp_walk
  show B48 (A43 h4) ?_
  wp_walk
  show B48 (by calc h5) ?_
  wp_walk
  show(_,rfl,h,)
end
namespace ZS
open L2
def Wx(K:Da):R2:=λ x y H Q=>∃l k w,x=.ref l/\y=.int k/\l4 K H l [w]/\0<=k/\k<=1000000/\(k=1->Q (.ref l) H)/\(k≠1->∀p,H p=At->Q (.ref p) (upd H p<|.tup<|List.replicate k.toNat w))
def vX(v:ζ):∀k acc,AC6 (λ x1 x2=>x1++x2) acc (Db k #[v])=acc++(Db k v).toArray
|0,acc=>by simp
|k+1,acc=>by rw[A83,AB9,vX,A83];apply Array.toList_inj.mp;simp
def vf(r:RelV w u):∀k,Vals (Db k w) (Db k u)
|0=>.nil
|k+1=>.cons r<|vf r k
def M_:iZ X (binaryOp .Mult) (Wx X.K):=by
 intro B s O H x y v u Q I rx ry h;let(l,k,w,rfl,rfl,hq,h0,h1,q1,q2):=h;ext rx;let(t,rfl):=ry;let(a8,r,ht,hz):=I.tuple hq;let(x,rfl,rx):=vals1 r;let((cls,dd,data,sl),ho,hc,n,hd):=id ht;simp only at hc hd;subst hc hd;let e:=ho;show C58 ∅ ⟨_,e,rfl⟩ (λ s'=>B31 s' k t) pQ F.fills_int_mul B63 xg F.slot_int_index.lookup
 <|A72 B63 (B31 s k t) F.entry_int_rmul (F.args_int_rmul_2 _ _) (jZ k t l #[x] n dd sl) ⟨e,rfl,⟨_,e,rfl⟩,?_⟩
 by_cases Qz:k=1
 .exact A72 B47 ⟨_,e,rfl⟩ C25 (C26 _ _) (qQ k t l x n dd sl Qz) ⟨e,⟨.ref l,H,I,rfl,q1 Qz⟩⟩
 .by_cases hk0:k=0
  .refine A72 B47 ⟨_,e,rfl⟩ C25 (C26 _ _) (qR k t l x n dd sl hk0) ⟨e,?_⟩;let q:=q2 Qz _<|I.bO.fresh<|P3 s.t;rw[hk0]at q;show(.ref _,_,I.laid (λ b ob z=>A03 _ z) (P3 _) ?_,rfl,q,);show(A57 _,[],.nil,pj.new _ _,)
  .skip
   let hf:=vX x k.toNat #[];rw[Array.empty_append]at hf;let hs:(1000000)<=sizeLine:=by decide
   show A72 B47 ⟨_,e,rfl⟩ C25 (C26 _ _) (qP k t l x n dd sl ?_ ?_ ?_ ?_ ?_ ?_) ⟨e,?_⟩
   .simp;lia
   .simp;lia
   .simp;lia
   .show ¬((1))*k>(2^63-1) / 8;lia
   .show ¬(decide<|((1))*k>(sizeLine))=Ch;rw[B46];let:=Int.ofNat_le.mpr hs;generalize (sizeLine)=z at this ⊢;lia
   .rw[hf,A12,A81];lia
   .rw[hf];show(.ref _,_,I.laid (λ b ob z=>A03 _ z) (P3 _) ?_,rfl,q2 Qz _<|I.bO.fresh<|P3 _,);show⟨by rw[A81];lia,_,vf rx k.v,pj.new _ _⟩
def ZQ.σ6(ha:ZQ.QW X a fa)(hb:ZQ.QW X b fb):ZQ.QE X (.BinOp a .Mult b pos) (Z.eB Z.DZ fa fb):=⟨PE.imp (DQ M_ ha.p hb.p) <|by
 rintro O H Q ⟨Y,d,r,e,k⟩;let(x,ea,e):=ac e;let(y,eb,e):=ac e;let(d0,n,rfl,rfl,h0,h1,rfl):=Z.Jb e;show(Y,_,r,ea,λ v H1 s1 d1=>(Y,_,r.up s1,eb,λ u H2 s2 d2=>?_,),);let(q,vs,rfl,hq,t):=d1.tup;erw[au]at t;let(w,r',rfl,dw,rfl):=t;show(q,n,w,rfl,d2.int,?_,h0,h1,λ hn=>?_,λ hn p hp=>?_,)
 .exact eR (i_ s2) hq
 .subst hn;show k _ H2 (s1.trans s2)<|fq (eR (i_ s2) hq)<|au.cons (dw.up s2) au.nil
 .let s3:az H2 (upd H2 p<|.tup<|List.replicate n.toNat w):=b? hp;show k _ _ ((s1.trans s2).trans s3)<|fq (l4.of aE)<|t5 ((dw.up s2).up s3) _⟩
end ZS
namespace ZS
open L2
def _'{α:Type}{P:U α->Prop}(h:P []):∀us:U α,us.n=0->P us:=λ us e=>A97 e▸h
def _9{α:Type}{P:U α->Prop}{n:Nat}(h:∀a (us:U α),us.n=n->P (a::us)):∀us:U α,us.n=n+1->P us:=by
 intro us e;cases us with
 |nil=>ext e
 |cons a t=>show h a t<|A27 e
def Q3{p:Prop}(h:p:=by repeat' first|show ZS._' rfl|show ZS._' ⟨_,rfl,rfl⟩|show ZS._9 λ _=>?_|intro _):p:=h
def Zd{ps:U Str}(h:∀a0 a1,bindArgs fd ⟨[a0,a1],[]⟩=pure (ps.zip [a0,a1])):∀us,us.n=2->bindArgs fd ⟨us,[]⟩=pure (ps.zip us):=_9 λ a0=>_9 λ a1=>_'<|h a0 a1
def adf(H0 H1:Hp):Hp->Prop:=λ H2=>gm H1 H2/\az H0 H2
def tZk(K:Da)(H0:Hp)(f:Z.LF):TI:=λ O H R=>∃Y ds,RS K H0 H O Y/\f Y=.ok ds/\∀J H',az H H'->E_ K J (adf H0 H') ds->R J H'
abbrev DK(X:Cx)(H0:Hp)(tg e:ι)(f:Z.LF):Prop:=PI X tg e<|tZk X.K H0 f
end ZS
namespace Z
def jP(t:TF)(b:SF):Nat->Env->Res Fl
|0,_=>.bad
|n+1,Y=>(t Y).bind λ c=>if c then (b Y).bind λ fl=>match fl with
 |.nx Y'=>jP t b n Y'
 |.ct Y'=>jP t b n Y'
 |.bk Y'=>.ok<|.nx Y'
 |.rt d=>.ok<|.rt d
 else .ok (.nx Y)
def w9(n:Nat)(t:TF)(b:SF)(Y:Env):Res Fl:=jP t b n Y
end Z
namespace ZS
open L2
section
variable{X:Cx}{H0:Hp}{pos:Pos}
def ZQ.KJ{c:ι}{body:U η}{t:Z.TF}{g:Z.SF}(n:Nat)(hp:PassesOwn (model X.prog X.w) X.A X.env X.xe)(hc:ZQ.QT X c t)(hb:ZQ.va X H0 body g):ZQ.QS X H0 (.While c body [] pos) (Z.w9 n t g):=
 ⟨PS.imp (IB hp hc.p hb.p) λ D O H ⟨Y,fl,rs,e,k⟩=>by
  show(λ m O' H'=>∃Y',RS X.K H0 H' O' Y'/\Z.jP t g m Y'=.ok fl/\VA X.K H0 H' D fl,(n,Y,rs,e,k,),?_,);rintro m O1 H1 ⟨Y1,rs1,e1,k1⟩;cases m with
  |zero=>ext e1
  |succ m=>
   unfold Z.jP at e1;let(b,et,e1):=ac e1;show(Y1,b,rs1.re,et,λ H2 s2=>?_,);cases b with
   |false=>rw[W1 A75]at e1 ⊢;ext e1;show k1 O1 H2 (i_ s2)<|rs1.up s2
   |true=>
    rw[M2 rfl]at e1 ⊢;let(fl1,eb,e1):=ac e1;show(λ O' H'=>∃Y',RS X.K H0 H' O' Y'/\Z.jP t g m Y'=.ok fl/\VA X.K H0 H' D fl,λ O' H' q=>(m,A65 m,q,),Y1,fl1,rs1.up s2,eb,?_,);let k2:=k1.up<|i_ s2;cases fl1 with
    |nx Y2=>show λ O' H' st r=>(Y2,r,e1,k2.up st,)
    |ct Y2=>show λ O' H' st r=>(Y2,r,e1,k2.up st,)
    |bk Y2=>ext e1;show k2
    |rt d=>ext e1;show k2⟩
end
end ZS
namespace Z
def NA(c:Bool):D->Res D
|.bl b=>.ok<|.bl<|b==c
|_=>.bad
def vD(c:Bool):D->Res D
|.bl b=>.ok<|.bl<|b != c
|_=>.bad
end Z
namespace ZS
open L2
def YO(h:Z.eV i Y=.ok d):Y[i]?=AC (AC<|.val d):=by
 unfold Z.eV at h;split at h
 .rename_i e;ext h;show e
 .ext h
def Ul(hN:X.N.Nodup)(hi:X.N[i]?=AC x)(hx:Loc X.env.scope x)(hr:iZ X (inplaceOp op) r)(hz:Hx X.K r o)(he:DE X a fa)(hf:X.fn x=Ch\/X.env.scope.names.lookup x=AC .local):
 DS X H0 (.AugAssign (.Name x pos') op a pos) (Z.aN i<|Z.eB o (Z.eV i) fa):=PS.imp (RO hN hi hx he hr hf) <|by
 rintro D O H ⟨Y,fl,rs,e,k⟩;let(d,ea,e):=ac e;ext e;let(dx,e1,ea):=ac ea;let(dy,e2,ea):=ac ea;let(v,si,dv):=rs.re.get i _ (YO e1);show(v,si,Y,dy,rs.re,e2,λ y H1 s1 dy1=>?_,);show hz v y dx dy d H1 _ (.inl<|Den.up dv s1) (.inl dy1) ea λ z H2 s2 dz=>k _ H2 (i_<|s1.trans s2)<|(rs.up<|s1.trans s2).uC dz
def JU:iZ X (inplaceOp .Mult) (rI Lz λ i j=>.int<|i*j):=WR λ _ _ _ _ _ _ _ hc q=>imul_int q hc
def R4{K:Da}:Hx K (rI Lz λ i j=>.int<|i*j) Z.eP:=oF λ dx dy d e=>by
 unfold Z.eP at e;split at e
 .unfold Z.guard at e;split at e
  .rename_i h;ext e;show(_,_,rfl,rfl,sR h,rfl,)
  .ext e
 .ext e
end ZS
namespace ZQ
open L2 ZS
theorem σ3(hN:X.N.Nodup)(hi:X.N[i]?=AC x)(hx:Loc X.env.scope x)(he:QE X a fa)(hf:Fl X x:=by trivial):
 QS X H0 (.AugAssign (.Name x pos') .Mult a pos) (Z.aN i<|Z.eB Z.eP (Z.eV i) fa):=⟨ZS.Ul hN hi hx JU R4 he.p hf⟩
end ZQ
namespace ZS
open L2
section
variable{X:Cx}
def R?(c:Bool):iZ X (compareOp .Is) (λ x y H Q=>∃b,x=.bl b/\y=.bl c/\Q (.bl<|b==c) H):=by intro B s O H x y v u Q I rx ry h;let(b,rfl,rfl,q):=h;ext rx ry;show wpAny_is_plain rfl ⟨_,H,I,?_,q⟩;ext b<;>ext c<;>rfl
def Nb(c:Bool):iZ X (compareOp .IsNot) (λ x y H Q=>∃b,x=.bl b/\y=.bl c/\Q (.bl<|b != c) H):=by intro B s O H x y v u Q I rx ry h;let(b,rfl,rfl,q):=h;ext rx ry;show wpAny_isNot_plain rfl ⟨_,H,I,?_,q⟩;ext b<;>ext c<;>rfl
def Oi{a:ι}(c:Bool):∀O H Q,tZ X.K (Z.eU (Z.NA c) fa) O H Q->Mw (λ x y H Q=>∃b,x=.bl b/\y=.bl c/\Q (.bl<|b==c) H) (LD X.K fa) (tC<|.bl c) O H Q:=by
 rintro O H Q ⟨Y,d,r,e,k⟩;let(x,ea,e):=ac e;show(Y,x,r,ea,λ v H1 s1 d1=>?_,);cases x with
 |bl b=>ext e;show(b,d1.bl,rfl,k _ H1 s1 cA,)
 |_=>ext e
def Jk{a:ι}(c:Bool):∀O H Q,tZ X.K (Z.eU (Z.vD c) fa) O H Q->Mw (λ x y H Q=>∃b,x=.bl b/\y=.bl c/\Q (.bl<|b != c) H) (LD X.K fa) (tC<|.bl c) O H Q:=by
 rintro O H Q ⟨Y,d,r,e,k⟩;let(x,ea,e):=ac e;show(Y,x,r,ea,λ v H1 s1 d1=>?_,);cases x with
 |bl b=>ext e;show(b,d1.bl,rfl,k _ H1 s1 cA,)
 |_=>ext e
def ZQ.UC(ha:ZQ.QW X a fa):ZQ.QE X (.Compare a [.Is] [.Constant (.bool c) j pos'] pos) (Z.eU (Z.NA c) fa):=⟨PE.imp (xl (R? c) ha.p IQ<|mY _)<|Oi (a:=a) c⟩
def ZQ.OY(ha:ZQ.QW X a fa):ZQ.QT X (.Compare a [.IsNot] [.Constant (.bool c) j pos'] pos) (Z.tE<|Z.eU (Z.vD c) fa):=⟨o_ (rl (Nb c) ha.p IQ<|mY _)<|Jk (a:=a) c⟩
end
end ZS
namespace Z
def uL(e:EF)(Y:Env)(d:D):Res Int:=(e<|some (.val d)::Y).bind λ y=>match y with
|.int k=>.ok k
|_=>.bad
def N?(h:uL e Y d=.ok k):e (AC (.val d)::Y)=.ok (.int k):=by
 let(y,e1,e2):=Res.ae h;split at e2
 .ext e2;show e1
 .ext e2
def JR(h:e (AC (.val d)::Y)=.ok (.int k)):uL e Y d=.ok k:=by unfold uL;rw[h];rfl
def G7(mx:Bool)(k kb:Int):Bool:=if mx=Ch then decide (k>kb)else decide (k<kb)
def QN(mx:Bool)(e:D->Res Int)(b:D)(kb:Int):U D->Res D
|[]=>.ok b
|d::r=>(e d).bind λ k=>if G7 mx k kb=Ch then QN mx e d k r else QN mx e b kb r
def pickK(mx:Bool)(z:Res D)(e:D->Res Int):U D->Res D
|[]=>z
|d::r=>(e d).bind λ k=>QN mx e d k r
def x?(mx:Bool)(z:Res D)(a:EF)(is:U Nat)(e:EF)(Y:Env):Res D:=(a Y).bind λ x=>match x with
|.lst ds=>pickK mx z (uL e<|fg Y is) ds
|_=>.bad
end Z
namespace ZS
open L2 PySem.W
def Off.SD(o:Off X B H C)(ok:X.Ok):C∉X.fs:=λ hb=>by let(_,ob,ho,_):=ok.me.mem hb;show absurd (A18 (A05 ho) o.new)<|A89 _
def Off.W_(o:Off X B H C)(I:Inv X B O H s):C∉tI X.stack:=λ hb=>by
 rcases A01.mp (I.pH C hb)with z|z
 .exact o.loc z
 .exact o.SD I.ok z
def Off.up(o:Off X B H C)(h:H' C=At):Off X B H' C:=(h,o.loc,o.new,o.cell,o.pin,)
def Off.fresh(I:Inv X B O H s)(hC:s.t<=C)(h:H' C=At):Off X B H' C where
 free:=h
 loc:=A48<|A18 I.lt hC
 new:=A15 I.sz hC
 cell:=λ x c e=>by let(v,o,ho,_):=I.cell x c e;show A16<|A18 (A05 ho) hC
 pin:=λ p hp=>A16<|A18 (A05 (I.pin p hp).1) hC
def GX{pos q:Pos}(l:U ζ)(h:TriplesOk l)(e:codeAmong q (l++[rawInt pos.line,rawInt pos.col,c])=AC cv):codeAmong q l=AC cv\/cv=c:=by
 fun_induction TriplesOk l with
 |case1=>
  erw[B34,codeAmong,rawInt]at e;split at e
  .ext e;show .inr rfl
  .ext e
 |case2 a t b u x rest ih=>
  erw[C16,codeAmong]at e ⊢;split at e
  .rename_i hc;rw[M2 hc];show .inl e
  .rename_i hc;rw[W1 hc];show ih h e
 |case3 l h1 h2=>show h.elim
structure E?(X:Cx)(B:List (Addr×Obj))(q:Str)(params:Arguments)(body:Expr)(scope:Scope)(cl:List (Str×Addr))(H:Hp)(s:Shared)(f c':Addr)(pm qG:Value):Prop where
 off:Off X B H f
 obj:s.heap.get? f=AC (kla_obj "<lambda>" q params body scope cl pm c' qG)
 code:H c'=AC (.L6 q)
def z?(hx:x∈cM)(ht:tabIn X.K x=AC (c,P))(QD:X.J.code=.ref c)(hq:X.J.qual++ "<lambda>"=i5 x)
 (xK:defaultsOf params X.J=([],[])) (kD:closureFor scope X.J=pure cl) (I:Inv X B O H s) :
 Ev (model X.prog X.w) X.A (eval (.Lambda params body scope pos) X.J) (λ r s'=>∃f c' pm qG H',r=.ref f/\Inv X B O H' s'/\az H H'/\E? X B (i5 x) params body scope cl H' s' f c' pm qG) X.xe s:=by
 show kla_eval xK ?_;rw[hq];let(hT,hC,bm,ob,b1,b2,b3,b4,b5,b6):=I.tab x hx c P ht;let(ps,g,ZL,am):=I.bO P _ hT;let _t:=I.mod.glob.keeps I.bk;let Q4:∀b o,X.base.get? b=AC o->b≠P:=λ b o e z=>by let:=(I.bs b o e).2;rw[z,hT]at this;ext this
 let hgP:mainGlobals≠P:=by let(o,es,ep,e,_):=I.mod.glob;show Q4 _ _ e
 let hbG:bm≠mainGlobals:=λ z=>by let(o,es,ep,e,hd,_):=I.mod.glob;rw[z,e]at b3;ext b3;rw[hd]at b6;ext b6
 let hB:s.heap.BuiltinsAt X.mg P:=(bm,ob,b1,b2,hbG,Q4 _ _ b3,I.bk _ _ b3,b4,b5,b6,)
 cases hf:codeAmong pos ps.y with
 | some cv=>let(c',rfl,uj):=am pos cv hf;show kla_makeFunctionHit (mg:=X.mg) kD I.ok.glob _t QD (hC.keeps I.bk) g ZL hf hB λ qG h' tk hk Eu=>?_;let I':Inv X B O H {s with heap:=h'.push<|kla_obj "<lambda>" (i5 x) params body scope cl ((X.mg "__name__").getD .none) c' qG,toks:=tk}:=I.kept λ b u e=>A03 _<|hk b u e;show(_,c',_,qG,H,rfl,I',az.refl H,(Off.fresh I Eu<|I.bO.fresh Eu,A17 _ rfl,uj,),)
 |none=>
  show kla_makeFunction (mg:=X.mg) kD I.ok.glob _t QD (hC.keeps I.bk) g ZL hf hgP hB λ c' qG h' tk Hl _v jO Tv htb=>?_;let hn:H c'=At:=I.bO.fresh _v;let kp:∀b o,b≠P->s.heap.get? b=AC o->(h'.push<|kla_obj "<lambda>" (i5 x) params body scope cl ((X.mg "__name__").getD .none) c' qG).get? b=AC o:=λ b o hb e=>A03 _<|Hl b o hb e;let neP:∀b,H b=At->b≠P:=λ b e z=>by rw[z,hT]at e;ext e
  let SH:∀b u,H b=AC u->b≠c':=λ b u e=>aY e hn;let ltc:∀b o,s.heap.get? b=AC o->b≠c':=λ b o e=>A16<|A18 (A05 e) _v;let hP:(h'.push<|kla_obj "<lambda>" (i5 x) params body scope cl ((X.mg "__name__").getD .none) c' qG).get? P=AC (tabObj<|ps++#[rawInt pos.line,rawInt pos.col,.ref c']):=A03 _ htb;let un:Un X.fs [] H (upd H c'<|.L6<|i5 x) s.heap (h'.push<|kla_obj "<lambda>" (i5 x) params body scope cl ((X.mg "__name__").getD .none) c' qG):=by
   show⟨λ b o e n _ _=>kp b o (neP b n) e,λ b o e n _ _=>(o.slots,kp b o (neP b n) e,),λ b o e n _=>by rw[av<|ltc b o e];show n,λ b o e _=>?_,λ b xs e=>by rw[av<|SH _ _ e];show e,λ b o u e=>by rw[av<|SH _ _ e];show e,λ b u _ e=>by rw[av<|SH _ _ e];show e⟩;by_cases hb:b=P
   .exact⟨_,hb▸hP⟩
   .exact⟨o,kp b o hb e⟩
  let bO:kK X.prog X.w (upd H c'<|.L6<|i5 x) (h'.push<|kla_obj "<lambda>" (i5 x) params body scope cl ((X.mg "__name__").getD .none) c' qG):=λ b u e=>by
   by_cases hb:b=c'
   .subst hb;rw[aE]at e;ext e;let(c2,oc,vs,t,e2,_r,r):=Tv;ext e2;show(_,oc,vs,t,rfl,A03 _ _r,r,)
   .rw[av hb]at e;by_cases hbP:b=P
    .subst hbP;rw[hT]at e;ext e;show⟨_,hP,by rw[io];show TriplesOk_snoc _ _ _ _ ZL,λ p cv e2=>?_⟩;rw[io]at e2;rcases GX _ ZL e2 with z|rfl
     .let(c2,e3,e4):=am p cv z;show⟨c2,e3,by rw[av<|SH _ _ e4];show e4⟩
     .exact⟨c',rfl,aE⟩
    .refine(I.bO b u e).n? (λ b2 v hc q=>kp b2 v ?_ q) (λ b2 q=>by rw[av<|SH _ _ q];show q) (λ b2 xs q=>by rw[av<|SH _ _ q];show q) λ b2 v _ q=>by rw[av<|SH _ _ q];show q
     rcases hc with rfl|hc
     .exact hbP
     .exact Qp hc hT λ z=>nomatch z
  let Ye:(upd H c'<|.L6<|i5 x) h'.Z=At:=by rw[av<|A48 jO];show I.bO.fresh<|A80<|Nat.lt_of_le_of_lt _v jO
  show(_,c',_,qG,_,rfl,I.un (t':=tk) un bO,b? hn,(Off.fresh I (A80<|Nat.lt_of_le_of_lt _v jO) Ye,A17 _ rfl,aE,),)
abbrev B!(X:Cx)(N':U Str)(q:Str)(scope:ς)(cl:U (Str×δ))(f c':δ)(s₂:θ)(H₂:Hp):Cx:=
 {prog:=X.prog,w:=X.w,K:=X.K,mg:=X.mg,base:=X.k,A:=X.A.in1.deeper<|envX q scope s₂.heap.objs.size f (.ref c') cl,N:=N',s₀:=s₂,H₀:=H₂,env:=envX q scope s₂.heap.objs.size f (.ref c') cl,outer:=X.stack,stack:=envX q scope s₂.heap.objs.size f (.ref c') cl::X.stack,ex:=[],fn:=λ _=>AT,calm:=Ch,pn:=[],xe:=λ _ _=>False}
def RG{K:Da}(h:RE K H O Y)(hd:Den K H d v):RE K H (AC v::mU O 0 is) (AC (.val d)::Z.fg Y is):=by
 let R:=Iq (n:=0) (is:=is) h<|az.refl H;show⟨by simp[mU,Z.fg],λ i l e=>?_,λ i j xs ys a e1=>?_⟩
 .cases i with
  |zero=>erw[C69,B02]at e;subst e;show(v,rfl,hd,)
  |succ i=>let(u,h1,h2):=R.re.get i l (by calc e);show⟨u,by calc h1,h2⟩
 .cases i with
  |zero=>simp at e1
  |succ i=>show absurd (by calc e1)<|fJ 0 is Y i xs
def z_(cO:X.calm=Ch)(oQ:X.A.in1.depth<recursionLimit)(χ:um X.N N' 1 is scope X.J.scope)(LR:N'[0]?=AC x)(xJ:scope.isGenerator=AT)(J':scope.isCoroutine=AT)
 (lh:∀u,bindArgs (kla_fn "<lambda>" q params body scope cl pm (.ref c') qG) ⟨[u],[]⟩=pure [(x,u)])
 (i9:∀x c,cl.lookup x=AC c->X.env.cells.lookup x=AC c) (tm:∀y∈scope.j,y.2=.free->(cl.lookup y.1).isSome=Ch)
 (he:∀cl f c' s H,DE (B! X N' q scope cl f c' s H) body fe)
 (L:E? X B q params body scope cl H s f c' pm qG) (I:Inv X B O H s) (re:RE X.K H O Y) (rv:RelV v u) (dv:Den X.K H d v) (ek:Z.uL fe (Z.fg Y is) d=.ok k) :
 Ev (model X.prog X.w) X.A.in1 (call (.ref f) [u]) (λ r s'=>∃t H',r=.int k t/\az H H'/\Un (tI X.stack) [] H H' s.heap s'.e/\kK X.prog X.w H' s'.e/\AllBare s'.gens/\s'.os=s.os) E s:=by
 let Tv:=I.bO c' _ L.code;let(x0,To,hxl):=χ.own 0 (Nat.zero_lt_one);rw[LR]at To;ext To;show A91<|kla_callFunE oQ L.obj rfl J' xJ rfl Tv ?_;rw[lh];show v4<|wpAny_newFunctionEnv χ.cell (λ y hy=>by rw[A11.mp hy];show hxl) (λ h₁ J0 hsb=>(I.nolimit.fresh _ hsb,?_,)) χ.kind;change codeAny _ _ (.expr body<|envX q scope s.heap.objs.size f (.ref c') cl) _ _;let old:=λ b o e=>hsb.extBut b o (A16<|A05 e)<|A03 _ e;let TN:=I.bO.fresh<|P3 _;let ok:(B! X N' q scope cl f c' s H).Ok:=by
  show(I.ok.mod,χ.kind,rfl,rfl,P3 _,λ x y c e1 e2=>I.ok.inj x y c (i9 x c e1)<|i9 y c e2,λ y hy=>?_,λ y c hf=>(by ext hf),λ _=>I.ok.hd cO,Around.frames_deeper I.ok.frames,.inr ⟨rfl,rfl⟩,
   λ b hb=>absurd (show b∈([]:U δ)from hb) ∅,I.bs,A15 I.ok.Lg I.sz,λ b o _ hb=>absurd (show b∈([]:U δ)from hb) ∅,λ b hb=>absurd (show b∈([]:U δ)from hb) ∅,I.stack,I.rh,)
  let Gq:=hy;rcases Gq with z|z
  .exact absurd rfl<|χ.cell _<|A71 z
  .exact A94.mp<|tm _ (A71 z) rfl
 let t9:∀x c,X.env.cells.lookup x=AC c->c<s.t/\∀v,s.heap.IsCell c v->h₁.IsCell c v:=λ x c e=>by let(v,o,ho,hd):=I.cell x c e;show⟨A05 ho,by rintro v' ⟨o',oR,qY⟩;show(o',old c o' oR,qY,)⟩
 let I4:Inv (B! X N' q scope cl f c' s H) [] (AC v::mU O 0 is) H {s with heap:=h₁,toks:=s.toks + [(x,u)].length}:=by
  show(ok,rfl,I.bare,Un.kept old,(_,J0,λ i y w e1 e2 e3=>?_,),λ y c e=>?_,TN,λ y c e=>I.fY y c<|i9 y c e,λ p hp=>absurd (show p∈([]:U (δ×μ))from hp) ∅,I.bO.kept old,?_,I.tab,)
  .cases i with
   |zero=>let L5:=e1;rw[LR]at L5;ext L5;erw[C69,B02]at e2;subst e2;show(u,rv,.inl ⟨hxl,?_⟩,);simp
   |succ i=>
    let EJ:(mU O 0 is)[i]?=AC (AC w):=by simpa using e2
    unfold mU at EJ;erw[List.replicate_zero,B34,A06]at EJ;cases r:is[i]? with
    |none=>rw[r]at EJ;ext EJ
    |some j=>
     rw[r]at EJ;erw[A68]at EJ;let(x',c1,c2,c3):=χ.cap i j r;let L5:=e1;rw[show i+1=1+i from A95 _ _,c1]at L5;ext L5;let hσ:O[j]?=AC (AC w):=by
      cases r2:O[j]? with
      |none=>rw[r2]at EJ;ext EJ
      |some z=>
       rw[r2]at EJ;let:z=AC w:=by simpa using EJ
       rw[this]
     let(m,hn,hl):=I.loc;let hm:=A71 c3;let hk:=χ.free _ hm rfl;let Tp:Lp X.env.scope y:=by
      rcases hk with k|k
      .exact .inr<|.inl k
      .exact .inr<|.inr k
     let(u',ru,lk):=hl j y w c2 hσ Tp;show(u',ru,?_,);rcases lk with⟨k1,_⟩|⟨k1,c,hc,qy⟩
     .let N_:X.env.scope.names.lookup y=AC .local:=k1;rcases hk with k|k
      .rw[k]at N_;ext N_
      .rw[k]at N_;ext N_
     .let(VF,uj):=A94.mp (tm _ hm rfl);let:VF=c:=by let:=i9 y VF uj;rw[hc]at this;show(f8 this).symm
      subst this;show .inr ⟨.inr c3,VF,uj,(t9 y VF hc).2 _ qy⟩
  .let(v',hv):=I.cell y c (i9 y c e);show(v',(t9 y c<|i9 y c e).2 v' hv,)
  .let:=χ.len;simp[mU,this,A95]
 show kla_codeExpr<|A22 (he cl f c' s H [] _ _ H (λ v' H'=>az H H'/\v'=.int k) I4 ⟨_,_,RG re dv,Z.N? ek,λ v' H' s' d'=>⟨s',by simpa only[Den]using d'⟩⟩) (λ r s' hq=>?_) λ e s' hq=>hq.elim;let(v',H',J,rv',sm,rfl):=hq;let(t,rfl):=rv';show(t,H',rfl,sm,J.k,J.bO,J.bare,J.os,)
abbrev held(b:ζ)(k:ζ)(c:Nat):μ:={cls:=.type "list",data:=.seq #[b,k] c}
structure KLp(X:Cx)(B:List (Addr×Obj))(O:St)(H₀:Hp)(l I S:Addr)(vs:List V)(H:Hp)(s:Shared)(j i:Nat)(kb:Int):Prop where
 inv:Inv X B O H s
 sm:az H₀ H
 it:s.heap.IsListIter I l j
 Ss:Off X B H I
 FZ:Off X B H S
 best:∃b v tb c,vs[i]?=AC v/\RelV v b/\s.heap.get? S=AC (held b (.int kb tb) c)
theorem Ab(cO:X.calm=Ch)(I1:Inv X B O H s)(hq:iY X.K H l vs)(it:s.heap.IsListIter I l j)(oI:Off X B H I)(hj:j<vs.n)
 (h:∀u v h' tk,vs[j]?=AC v->RelV v u->Inv X B O H {s with heap:=h',toks:=tk}->h'.IsListIter I l (j+1)->(∀b o,b≠I->s.heap.get? b=AC o->h'.get? b=AC o)->Q (AC u) {s with heap:=h',toks:=tk}) :
 Ev (model X.prog X.w) X.A.in1 (pyNext<|.ref I) Q E s:=by
 let(a8,rv,pl,hz):=I1.list hq;let hl:=rv.n;let hh:=I1.ok.hd cO;let s_:l≠I:=by rintro rfl;let(o,e,hc,_):=pl.x;let(o2,e2,uN,_):=it;rw[e]at e2;ext e2;rw[hc]at uN;show absurd (Value.type.inj uN) ∅
 let W:=Walks.list (prog:=X.prog) (w:=X.w) (A:=X.A.in1) hh I l s_ a8.q;show W.item j s Q E (by rw[A12,<-hl];show hj) ⟨it,pl.x⟩ λ u h' tk pv st k1=>?_;let hv:a8[j]?=AC u:=by simpa using pv
 obtain⟨v,Qy⟩:∃v,vs[j]?=AC v:=⟨vs[j],by simp[hj]⟩
 let(u',Vu,rvu):=rv.get Qy;rw[hv]at Vu;ext Vu;let kp:=λ b o hb e=>k1 b o (by calc hb) e;show h u v h' tk Qy rvu (I1.turned kp oI.free oI.loc (.inr oI.new) oI.cell oI.pin) st.1 kp
theorem Aa(cO:X.calm=Ch)(I1:Inv X B O H s)(hq:iY X.K H l vs)(it:s.heap.IsListIter I l j)(oI:Off X B H I)(hj:j=vs.n)
 (h:∀h' tk,Inv X B O H {s with heap:=h',toks:=tk}->(∀b o,b≠I->s.heap.get? b=AC o->h'.get? b=AC o)->Q At {s with heap:=h',toks:=tk}) :
 Ev (model X.prog X.w) X.A.in1 (pyNext<|.ref I) Q E s:=by
 let(a8,rv,pl,hz):=I1.list hq;let hl:=rv.n;let hh:=I1.ok.hd cO;let s_:l≠I:=by rintro rfl;let(o,e,hc,_):=pl.x;let(o2,e2,uN,_):=it;rw[e]at e2;ext e2;rw[hc]at uN;show absurd (Value.type.inj uN) ∅
 let W:=Walks.list (prog:=X.prog) (w:=X.w) (A:=X.A.in1) hh I l s_ a8.q;show W.done s Q E ⟨by rw[A12,<-hl,<-hj];show it,pl.x⟩ λ h' tk k1=>?_;let kp:=λ b o hb e=>k1 b o (by calc hb) e;show h h' tk (I1.turned kp oI.free oI.loc (.inr oI.new) oI.cell oI.pin) kp
def Lw(X:Cx)(B:U (δ×μ))(O:St)(H₀:Hp)(f:δ)(St:Hp->θ->Prop)(e:Z.D->Z.Res Int):Prop:=
 ∀(H:Hp)(s:θ)(u:ζ)(v:V)(d:Z.D)(k:Int),Inv X B O H s->az H₀ H->St H s->RelV v u->Den X.K H d v->e d=.ok k ->
  Ev (model X.prog X.w) X.A.in1 (call (.ref f) [u]) (λ r s'=>∃t H',r=.int k t/\az H H'/\Un (tI X.stack) [] H H' s.heap s'.e/\kK X.prog X.w H' s'.e/\AllBare s'.gens/\s'.os=s.os) (λ _ _=>False) s
structure U1(X:Cx)(B:List (Addr×Obj))(O:St)(f:Addr)(St:Hp->Shared->Prop):Prop where
 off:∀H s,St H s->Off X B H f
 un:∀H H' s s',Inv X B O H s->St H s->az H H'->H' f=At->(∀o,s.heap.get? f=AC o->s'.heap.get? f=AC o)->St H' s'
section
variable{St:Hp->θ->Prop}
def HK(h:Q (.bool<|decide<|k>kb) s):Ev (model prog w) A (richCompare .Gt (.int k t)<|.int kb tb) Q E s:=
 CmpOf.ints_gt (λ i=>if i=0 then k else kb) (λ i v h=>h) 0 1 _ _ _ _ _ ⟨t,rfl⟩ ⟨tb,rfl⟩ h
def Fw(h:Q (.bool<|decide<|k<kb) s):Ev (model prog w) A (richCompare .Lt (.int k t)<|.int kb tb) Q E s:=
 CmpOf.ints_lt (λ i=>if i=0 then k else kb) (λ i v h=>h) 0 1 _ _ _ _ _ ⟨t,rfl⟩ ⟨tb,rfl⟩ h
def Eh(KO:Lw X B O H₀ f St e)(SY:U1 X B O f St)(Iv:Inv X B O H s)(sm:az H₀ H)(st:St H s)(rv:RelV v u)(dv:Den X.K H d v)(ek:e d=.ok k)
 (oI:Off X B H I) (oS:Off X B H S){oi os:μ}(gI:s.heap.get? I=AC oi) (gS:s.heap.get? S=AC os) (gf:∃o,s.heap.get? f=AC o)
 (h:∀t H' s',Inv X B O H' s'->az H H'->St H' s'->Off X B H' I->Off X B H' S->s'.heap.get? I=AC oi->s'.heap.get? S=AC os->(∃o,s'.heap.get? f=AC o)->Q (.int k t) s') :
 Ev (model X.prog X.w) X.A.in1 (call (.ref f) [u]) Q E s:=by
 show A22 (KO H s u v d k Iv sm st rv dv ek) (λ x s' hq=>?_) λ _ _ z=>z.elim;let(t,H',rfl,Va,un,bO,bare,os'):=hq;let Iv':=Iv.Ld os' un bO bare λ b hb=>absurd hb ∅;let of:=SY.off H s st;let kp:∀{b}{o},Off X B H b->s.heap.get? b=AC o->s'.heap.get? b=AC o/\H' b=At:=λ {b o} ob e=>(un.keep b o e ob.free (ob.W_ Iv) ∅,un.free b o e ob.free ∅,)
 let(fo,gf):=gf;show h t H' s' Iv' Va (SY.un H H' s s' Iv st Va (kp of gf).2 λ o e=>(kp of e).1) (oI.up (kp oI gI).2) (oS.up (kp oS gS).2) (kp oI gI).1 (kp oS gS).1 ⟨fo,(kp of gf).1⟩
end
def _d:String->CmpOp->Builtin:=(λ(χ:String->CmpOp->Builtin)(_:χ "max" .Gt=Builtin.«max.loop»)=>χ) _ rfl
section
variable{St:Hp->θ->Prop}{nm:String}{op:CmpOp}{mx:Bool}
def S9(he:entryFor table (toString nm++toString ".loop")=AC (_d nm op))(hp:plainId (toString nm++toString ".loop")=Ch)(X5:∀{A k t kb tb E Q s},Q (.bool<|Z.G7 mx k kb) s->Ev (model X.prog X.w) A (richCompare op (.int k t)<|.int kb tb) Q E s)(cO:X.calm=Ch)(KO:Lw X B O H₀ f St e)(SY:U1 X B O f St)(OC:S≠I)(TV:f≠I)(TU:f≠S)(hl:iY X.K H₀ l vs)(dn:au X.K H₀ ds vs)
 (fin:∀H s u v,Inv X B O H s->az H₀ H->RelV v u->Den X.K H r v->R (.ok<|.ret u) s) :
 ∀n j i H s kb db,ds.n=j+n->ds[i]?=AC db->Z.QN mx e db kb (ds.drop j)=.ok r->KLp X B O H₀ l I S vs H s j i kb->St H s->(∃o,s.heap.get? f=AC o) ->
  codeAny (model X.prog X.w) X.A (.builtin (toString nm++toString ".loop") ⟨[.ref I,.ref f,.ref S],kw⟩) R s:=by
 let ψ:=dn.n;intro n
 induction n with
 |zero=>
  intro j i H s kb db hn ie eg L st gf;let(b,v,tb,c,hv,rb,gS):=L.best;show C27 he ?_;rw[C28 hp _];show T0<|A63 gS rfl<|T0<|B03<|Aa cO L.inv (L.sm.seq hl) L.it L.Ss ∅ λ h1 t1 I1 k1=>?_;let g1:=k1 S _ OC gS;show T0<|C29 g1 rfl<|T0<|B01<|v4 ?_;let hr:db=r:=by rw[B78 ∅]at eg;unfold Z.QN at eg;ext eg;rfl
  subst hr;let(v',LS,dv):=dn.get ie;rw[hv]at LS;ext LS;show fin H _ b v (I1.turned (t':=t1) (λ b o hb e=>(A84 _ _<|A10 hb).trans e) L.FZ.free L.FZ.loc (.inr L.FZ.new) L.FZ.cell L.FZ.pin) L.sm rb<|dv.up L.sm
 |succ n ih=>
  intro j i H s kb db hn ie eg L st gf;let(b,v,tb,c,hv,rb,gS):=L.best;let hj:j<ds.n:=by lia
  obtain⟨dj,_z⟩:∃d,ds[j]?=AC d:=⟨ds[j],by simp[hj]⟩
  let tj:ds.drop j=dj::ds.drop (j+1):=by
   rw[A99 hj];let:ds[j]=dj:=by let:=A04 hj;rw[this]at _z;show f8 _z
   rw[this]
  rw[tj]at eg;unfold Z.QN at eg;let(k,ek,eg):=ac eg;show C27 he ?_;rw[C28 hp _];show T0<|A63 gS rfl<|T0<|B03<|Ab cO L.inv (L.sm.seq hl) L.it L.Ss ∅ λ u v1 h1 t1 Hm Wo I1 it1 k1=>?_;let g1:=k1 S _ OC gS;let(oI,gI,rI):=id it1;let(of,gf):=gf;let _F:=k1 f _ TV gf;let(v',LS,dv):=dn.get _z;rw[Hm]at LS;ext LS;let P!:St H {s with heap:=h1,toks:=t1}:=SY.un H H s _ L.inv st (az.refl H) (SY.off H s st).free λ o e=>k1 f o TV e;show T0<|B03<|A49<|Eh KO SY I1 L.sm P! Wo (dv.up L.sm) ek L.Ss L.FZ gI g1 ⟨of,_F⟩ λ t2 H2 s2 I2 qS MF oI2 Sy _G gS2 gf2=>?_;show T0<|B03<|A49<|T0<|X5<|T0<|A49<|A66<|T0<|B01<|v4 ?_;let Wg:=L.sm.trans qS;let it2:s2.heap.IsListIter I l (j+1):=(oI,_G,rI,)
  by_cases hb:Z.G7 mx k kb=Ch
  .simp only[hb,A35];show T0<|C29 gS2 rfl<|T0<|B01 ?_;rw[M2 hb]at eg;let kp:∀b o,b≠S->s2.heap.get? b=AC o->(s2.heap.update S<|Obj.mapSeq λ _=>#[u,.int k t2]).get? b=AC o:=λ b o hb e=>(A84 _ _<|A10 hb).trans e;let I3:=I2.turned (t':=s2.toks) kp Sy.free Sy.loc (.inr Sy.new) Sy.cell Sy.pin;show v4 ⟨B79 hp _,ih (j+1) j H2 _ k dj ∅ _z eg ⟨I3,Wg,⟨oI,kp I _ (A10 OC) _G,rI⟩,oI2,Sy,u,v1,t2,_,Hm,Wo,B18 _ gS2 rfl⟩ (SY.un H2 H2 s2 _ I2 MF (az.refl H2) (SY.off H2 s2 MF).free λ o e=>kp f o TU e)<|let ⟨o,e⟩:=gf2;⟨o,kp f o TU e⟩⟩
  .simp only[hb,A67];show T0<|B01 ?_;rw[W1 hb]at eg;show v4 ⟨B79 hp _,ih (j+1) i H2 s2 kb db ∅ ie eg ⟨I2,Wg,it2,oI2,Sy,b,v,tb,c,hv,rb,gS2⟩ MF gf2⟩
end
def QK:entryFor table (toString "max"++toString ".loop")=AC (_d "max" .Gt)/\plainId (toString "max"++toString ".loop")=Ch:=by rw[show(toString "max"++toString ".loop")="max.loop" by decide];show(PySem.F.entry_max_loop,PySem.F.plain_max_loop,)
def QH:entryFor table (toString "min"++toString ".loop")=AC (_d "min" .Lt)/\plainId (toString "min"++toString ".loop")=Ch:=by rw[show(toString "min"++toString ".loop")="min.loop" by decide];show(PySem.F.entry_min_loop,PySem.F.plain_min_loop,)
def ue(X:Cx)(nm:Str):Prop:=∃c P,nm∈cM/\tabIn X.K nm=AC (c,P)/\X.J.code=.ref c/\X.J.qual++ "<lambda>"=i5 nm
def G9(a k:ζ):argsOk "max" ⟨[a],[(Do "key",k),(Do "default",.none)]⟩:=by kernel_rfl
def CN(k:ζ):Ix "max" ["key","default"] 0 ⟨[],[(Do "key",k),(Do "default",.none)]⟩=pure [AC k,AC .none]:=by kernel_rfl
def mmB:String->Builtin:=(λ(χ:String->Builtin)(_:χ "max"=Builtin.max)=>χ) _ rfl
section
variable{St:Hp->θ->Prop}{nm:String}{op:CmpOp}{mx:Bool}{kw:U (Str×ζ)}
def Kp(hk:builtinKind nm=At)(hp:plainId nm=Ch)(hB:entryFor table nm=AC (mmB nm))(he:entryFor table (toString nm++toString ".loop")=AC (_d nm op))(yB:plainId (toString nm++toString ".loop")=Ch)(X5:∀{A k t kb tb E Q s},Q (.bool<|Z.G7 mx k kb) s->Ev (model X.prog X.w) A (richCompare op (.int k t)<|.int kb tb) Q E s)
 (QF:argsOk nm ⟨[.ref l],kw⟩) (hbd:Ix nm ["key","default"] 0 ⟨[],kw⟩=pure [AC (.ref f),df]) (hnz:∀r,dz=.ok r->df=AC .none/\r=.non)
 (cO:X.calm=Ch) (KO:Lw X B O H f St e) (SY:U1 X B O f St) (Iv:Inv X B O H s) (st:St H s) (gf:∃o,s.heap.get? f=AC o) (hl:iY X.K H l vs) (dn:au X.K H ds vs) (ek:Z.pickK mx dz e ds=.ok r)
 (k:∀v H',az H H'->Den X.K H' r v->Q v H'):Ev (model X.prog X.w) X.A (call (.builtin nm) [.ref l] kw) (EP X B O Q) X.xe s:=by
 let ψ:=dn.n;let(fo,gf):=gf;let(a8,rv,pl,hz):=Iv.list hl;show kmk_tree hk hp hB QF ?_;change Ev (model X.prog X.w) X.A.in1 (Ix nm ["key","default"] 0 ⟨[],kw⟩>>=_) _ _ s;rw[hbd];show T0<|v4<|T0<|v4<|T0<|B15 pl.isList ?_;show T0<|A76 ?_;generalize T6:s.heap.push {cls:=.type "list_iterator",data:=.fields #[.ref l,.int 0 0]}=HH;let hS:HH.Z=s.t+1:=by rw[<-T6,A56]
 let gI0:HH.get? s.t=AC {cls:=.type "list_iterator",data:=.fields #[.ref l,.int 0 0]}:=by rw[<-T6];show A17 _ rfl
 let kp0:∀b o,s.heap.get? b=AC o->(HH.push {cls:=.type "list",data:=.seq ([]).toArray}).get? b=AC o:=λ b o e=>A03 _ (by rw[<-T6];show A03 _ e);let I1:=Iv.kept (t':=s.toks) kp0;let oI:=Off.fresh Iv (P3 _)<|Iv.bO.fresh<|P3 _;let oS:Off X B H HH.Z:=Off.fresh Iv (by rw[hS];show A58 _)<|Iv.bO.fresh (by rw[hS];show A58 _);let OC:HH.objs.size≠s.t:=by rw[hS];show A48<|A65 _
 let TV:=A16<|A05 gf;let TU:f≠HH.Z:=by rw[hS];show A16<|C12<|A05 gf
 let gS:(HH.push {cls:=.type "list",data:=.seq ([]).toArray}).get? HH.Z=AC {cls:=.type "list",data:=.seq ([]).toArray}:=A17 _ rfl;let gI:(HH.push {cls:=.type "list",data:=.seq ([]).toArray}).get? s.t=AC {cls:=.type "list_iterator",data:=.fields #[.ref l,.int 0 0]}:=A03 _ gI0;let P!:St H {s with heap:=HH.push {cls:=.type "list",data:=.seq ([]).toArray}}:=SY.un H H s _ Iv st (az.refl H) (SY.off H s st).free λ o e=>kp0 f o e;let _F:=kp0 f fo gf;generalize hS2:HH.Z=S at oS OC TU gS;generalize hI2:s.t=I at oI OC TV gI;generalize oP:({s with heap:=HH.push {cls:=.type "list",data:=.seq ([]).toArray}})=s1 at I1 P!;let e1:HH.push {cls:=.type "list",data:=.seq ([]).toArray}=s1.e:=by rw[<-oP]
 rw[e1]at gS gI _F;show v4 ⟨B79 yB _,?_⟩;show C27 he ?_;rw[C28 yB _];cases ds with
 |nil=>let(rfl,rfl):=hnz _ ek;show T0<|A63 gS rfl<|T0<|B03<|Aa (j:=0) cO I1 hl ⟨_,gI,rfl,rfl⟩ oI (by simp at ψ;simp[ψ]) λ h1 t1 I2 k1=>?_;show T0<|B36<|v4 ?_;show(.non,H,I2,rfl,k .non H (az.refl H) j9,)
 |cons d0 dr=>unfold Z.pickK at ek;let(k0,ek0,ek):=ac ek;show T0<|A63 gS rfl<|T0<|B03<|Ab (j:=0) cO I1 hl ⟨_,gI,rfl,rfl⟩ oI (by simp at ψ;lia) λ u v1 h1 t1 Hm Wo I2 it2 k1=>?_;let g1:=k1 S _ OC gS;let(oi,_G,rI):=id it2;let(v',LS,dv):=dn.get (i:=0) (d:=d0) rfl;rw[Hm]at LS;ext LS;let MF:St H {s1 with heap:=h1,toks:=t1}:=SY.un H H s1 _ I1 P! (az.refl H) (SY.off H s1 P!).free λ o e=>k1 f o TV e;show T0<|B03<|A49<|Eh KO SY I2 (az.refl H) MF Wo dv ek0 oI oS _G g1 ⟨fo,k1 f _ TV _F⟩ λ t3 H3 s3 I3 LH P9 oI3 Vi gI3 gS3 gf3=>?_;show T0<|C29 gS3 rfl ?_;let kp:∀b o,b≠S->s3.heap.get? b=AC o->(s3.heap.update S<|Obj.mapSeq λ _=>#[u,.int k0 t3]).get? b=AC o:=λ b o hb e=>(A84 _ _<|A10 hb).trans e;let I4:=I3.turned (t':=s3.toks) kp Vi.free Vi.loc (.inr Vi.new) Vi.cell Vi.pin;show v4 ⟨B79 yB _,S9 he yB X5 cO KO SY OC TV TU hl dn (λ H5 s5 u5 v5 I5 FD Wn YT=>(v5,H5,I5,Wn,k v5 H5 FD YT,)) dr.length 1 0 H3 _ k0 d0 (by simp;lia) rfl ek ⟨I4,LH,⟨oi,kp _ _ (A10 OC) gI3,rI⟩,oI3,Vi,u,v1,t3,_,Hm,Wo,B18 _ gS3 rfl⟩ (SY.un H3 H3 s3 _ I3 P9 (az.refl H3) (SY.off H3 s3 P9).free λ o e=>kp f o TU e)<|let ⟨o,e⟩:=gf3;⟨o,kp f o TU e⟩⟩
end
theorem yf(hL:ue X nm)(oQ:X.A.in1.depth<recursionLimit)(hg:Gl X x)(hm:X.mg x=At)(hv:bootBuiltins x=AC (.builtin "max"))(ha:DW X a fa)
 (χ:um X.N N' 1 is scope X.J.scope) (LR:N'[0]?=AC y) (he:∀cl f c' s H,DE (B! X N' (i5 nm) scope cl f c' s H) body fe)
 (lh:∀q cl pm c' qG u,bindArgs (kla_fn "<lambda>" q params body scope cl pm (.ref c') qG) ⟨[u],[]⟩=pure [(y,u)])
 (xK:defaultsOf params X.J=([],[]):=by rfl) (xJ:scope.isGenerator=AT:=by rfl) (J':scope.isCoroutine=AT:=by rfl)
 (hc:X.calm=Ch:=by rfl) (hn:x≠ "__name__":=by decide +kernel) (ie:Nd x:=by decide +kernel)
 (Tu:Se a [] X.J:=by rfl) (T4:Bk pos a X.J:=by rfl) (fC:(backTo pos<|starEach (a::[]) X.J).any (·.1)=AT:=by rfl) :
 DE X (.Call (.Name x p1) [a] [⟨AC<|Str.ofString "key",.Lambda params body scope lp,kp⟩,⟨AC<|Str.ofString "default",.Constant .none jj cp,kp2⟩] pos) (Z.x? Ch (.ok .non) fa is fe):=by
 intro B s O H Q I h;let(Y,d,r,e,k):=h;let(dx,ea,e):=ac e;let(c,P,h1,h2,h3,h4):=hL;split at e
 .rename_i ds;show A93<|jY I hg hm hv ?_ hn ie;show callWith_kw ?_ T4 fC;show b_ (bw ha cE Tu pos B s O H (λ vs H1=>∃v,vs=[v]/\az H H1/\bH X.K H1 (.lst ds) v) I ⟨Y,_,r,ea,λ v H1 s1 d1=>(v,rfl,s1,d1,)⟩) ?_;rintro us s1 ⟨vs,H1,I1,r1,q1⟩;let(v,rfl,sm,d1):=q1;let(u,rfl,ru):=vals1 r1;let qx:∀y∈scope.j,y.2=.free->∃c,X.env.cells.lookup y.1=AC c:=λ y hy hf=>I1.ok.has y.1<|χ.free y hy hf;let(cl,kD,i9,tm):=jl qx;show kws_cons<|b_ (z? h1 h2 h3 h4 xK kD I1) ?_;rintro w s2 ⟨f,c',pm,qG,H2,ew,I2,qS,LA⟩;subst ew;show kws_cons<|Constant_none<|kws_nil ?_;obtain⟨q,vs,rfl,hq,tt⟩:=(d1.up qS).lst;ext ru;let re2:=(r.up sm).up qS;show Kp PySem.F.kind_max PySem.F.plain_max PySem.F.entry_max QK.1 QK.2 HK (G9 _ _) (CN _) (by intro r h;ext h;show(rfl,rfl,)) (St:=λ H s=>E? X B (i5 nm) params body scope cl H s f c' pm qG) hc (λ H5 s5 u5 v5 d5 k5 I5 FD wW Wn YT ek5=>?_) ⟨λ _ _ st=>st.off,λ H5 H6 s5 s6 I5 wW FD hf5 ho5=>(wW.off.up hf5,ho5 _ wW.obj,FD _ _ wW.code,)⟩ I2 LA ⟨_,LA.obj⟩ hq tt e λ v' H' s' d'=>k v' H' ((sm.trans qS).trans s') d';show z_ (x:=y) hc oQ χ LR xJ J' (λ u=>lh _ _ _ _ _ u) i9 tm he wW I5 (re2.up FD) Wn YT ek5
 .ext e
def G8(a k:ζ):argsOk "min" ⟨[a],[(Do "key",k)]⟩:=by kernel_rfl
def CM(k:ζ):Ix "min" ["key","default"] 0 ⟨[],[(Do "key",k)]⟩=pure [AC k,At]:=by kernel_rfl
theorem ye(hL:ue X nm)(oQ:X.A.in1.depth<recursionLimit)(hg:Gl X x)(hm:X.mg x=At)(hv:bootBuiltins x=AC (.builtin "min"))(ha:DW X a fa)
 (χ:um X.N N' 1 is scope X.J.scope) (LR:N'[0]?=AC y) (he:∀cl f c' s H,DE (B! X N' (i5 nm) scope cl f c' s H) body fe)
 (lh:∀q cl pm c' qG u,bindArgs (kla_fn "<lambda>" q params body scope cl pm (.ref c') qG) ⟨[u],[]⟩=pure [(y,u)])
 (xK:defaultsOf params X.J=([],[]):=by rfl) (xJ:scope.isGenerator=AT:=by rfl) (J':scope.isCoroutine=AT:=by rfl)
 (hc:X.calm=Ch:=by rfl) (hn:x≠ "__name__":=by decide +kernel) (ie:Nd x:=by decide +kernel)
 (Tu:Se a [] X.J:=by rfl) (T4:Bk pos a X.J:=by rfl) (fC:(backTo pos<|starEach (a::[]) X.J).any (·.1)=AT:=by rfl) :
 DE X (.Call (.Name x p1) [a] [⟨AC<|Str.ofString "key",.Lambda params body scope lp,kp⟩] pos) (Z.x? AT .bad fa is fe):=by
 intro B s O H Q I h;let(Y,d,r,e,k):=h;let(dx,ea,e):=ac e;let(c,P,h1,h2,h3,h4):=hL;split at e
 .rename_i ds;show A93<|jY I hg hm hv ?_ hn ie;show callWith_kw ?_ T4 fC;show b_ (bw ha cE Tu pos B s O H (λ vs H1=>∃v,vs=[v]/\az H H1/\bH X.K H1 (.lst ds) v) I ⟨Y,_,r,ea,λ v H1 s1 d1=>(v,rfl,s1,d1,)⟩) ?_;rintro us s1 ⟨vs,H1,I1,r1,q1⟩;let(v,rfl,sm,d1):=q1;let(u,rfl,ru):=vals1 r1;let qx:∀y∈scope.j,y.2=.free->∃c,X.env.cells.lookup y.1=AC c:=λ y hy hf=>I1.ok.has y.1<|χ.free y hy hf;let(cl,kD,i9,tm):=jl qx;show kws_cons<|b_ (z? h1 h2 h3 h4 xK kD I1) ?_;rintro w s2 ⟨f,c',pm,qG,H2,ew,I2,qS,LA⟩;subst ew;show kws_nil ?_;obtain⟨q,vs,rfl,hq,tt⟩:=(d1.up qS).lst;ext ru;let re2:=(r.up sm).up qS;show Kp PySem.F.kind_min PySem.F.plain_min PySem.F.entry_min QH.1 QH.2 Fw (G8 _ _) (CM _) (by intro r h;ext h) (St:=λ H s=>E? X B (i5 nm) params body scope cl H s f c' pm qG) hc (λ H5 s5 u5 v5 d5 k5 I5 FD wW Wn YT ek5=>?_) ⟨λ _ _ st=>st.off,λ H5 H6 s5 s6 I5 wW FD hf5 ho5=>(wW.off.up hf5,ho5 _ wW.obj,FD _ _ wW.code,)⟩ I2 LA ⟨_,LA.obj⟩ hq tt e λ v' H' s' d'=>k v' H' ((sm.trans qS).trans s') d';show z_ hc oQ χ LR xJ J' (λ u=>lh _ _ _ _ _ u) i9 tm he wW I5 (re2.up FD) Wn YT ek5
 .ext e
def zu(r:bu (k+2) A)(env:PySem.Env):bu k (A.in1.deeper env):=(bu.in1 r).deeper env
def Ik(r:bu k A):A.in1.depth<recursionLimit:=r.depth
def PQ(K:Frag)(mg:Str->ε ζ)(x:Str):Prop:=∃c P,tabIn K x=AC (c,P)/\∀f fd oc od sl,mg x=AC (.ref f)->K.lookup f=AC ⟨oc,od,.func fd,sl⟩->fd.code=.ref c
def N2{K:Frag}(X:K.In h)(G:h.Ns mainGlobals mg)(t:tabIn K x=AC (c,P)):PQ K mg x:=(c,P,t,λ f fd oc od sl hm hl=>law_code X G t hm (X _ _ hl) rfl,)
def U5(K:Frag)(x:Str)(a5:ζ):Prop:=∃c P,a5=.ref c/\tabIn K x=AC (c,P)
def Eg{K:Frag}(h:U5 K x cd)(hx:x∈cM):
 ue (c! CX P w K mg base N x scope f cd A outer s H E).gO x:=by
 let(c,p,e,t):=h;show(c,p,hx,t,e,rfl,)
section
variable{K:Da}
def acB{st:η}(F:Bg K x qual st f fd)(S:aW N ps (aa st))
 (hb:∀ A outer s H E,bu k (A.deeper<|envOfC qual (aa st) s.heap.objs.size f fd.code) ->
  L9 (c! hV P w K mg base N qual (aa st) f fd.code A outer s H E).gO H (aC st) b):ee P w K mg base hV (k+1) f fd ps (yw K<|Z.fn ps.length N.length b):=by
 let ψ:∀vs H Q E,yw K (Z.fn ps.length N.length b) vs H Q E->vs.n=ps.n:=by
  rintro vs H Q E ⟨ds,d,t,e,_⟩;unfold Z.fn at e;split at e
  .rename_i h;rw[t.n];show h
  .ext e
 let(oc,od,kV,doc,pm,an,a5,ct,yy,rfl,lk,rG):=F.ex;show Aq lk rG S ψ λ A outer s H vs Q E hr h=>?_;show(_,pq.gO<|hb A outer s H E hr,?_,);let hl:=ψ vs H Q E h;let(ds,d,t,e,k):=h;let fC:ps.n<=N.n:=by let:=A14 List.length S.pre;rw[A33]at this;lia
 let rs:RS K H H (L2.start N vs) (Z.start N.length ds):=pI t ∅;unfold Z.fn at e;split at e
 .cases eb:b (Z.start N.length ds)with
  |bad=>rw[eb]at e;ext e
  |ok fl=>
   rw[eb]at e;show(_,fl,rs,eb,?_,);cases fl with
   |rt d'=>ext e;show λ v H' s' dv=>k v H' s' dv
   |nx Y'=>ext e;show λ O' H' _ Dv=>k .non H' Dv.same j9
   |bk Y'=>ext e
   |ct Y'=>ext e
 .ext e
def ac4{st:η}(d:Def K mg x st ps)(S:aW N ps (aa st))(L:PQ K mg x)
 (hb:∀ f a5 A outer s H E,U5 K x a5->bu k (A.deeper<|envOfC x (aa st) s.heap.objs.size f a5) ->
  L9 (c! hV P w K mg base N x (aa st) f a5 A outer s H E).gO H (aC st) b):C5 P w K mg base x (k+1) ps (Z.fn ps.length N.length b):=by
 let(f,fd,F,hm,uk):=d.ex;let(c,p,t,hc):=L;let hfd:fd.code=.ref c:=by let(oc,od,kV,doc,pm,an,a5,ct,yy,e,lk,rG):=F.ex;show hc f fd _ _ _ hm lk
 show(f,fd,acB F S λ A outer s H E hr=>hb f _ A outer s H E ⟨c,p,hfd,t⟩ hr,hm,F.kp,uk,)
end
end ZS
namespace ZQ
open L2 PySem.W ZS
theorem yf(hL:ue X nm)(oQ:X.A.in1.depth<recursionLimit)(hg:Gl X x)(hm:X.mg x=At)(hv:bootBuiltins x=AC (.builtin "max"))(ha:QW X a fa)
 (χ:um X.N N' 1 is scope X.J.scope) (LR:N'[0]?=AC y) (he:∀cl f c' s H,QE (B! X N' (i5 nm) scope cl f c' s H) body fe)
 (lh:∀q cl pm c' qG u,bindArgs (kla_fn "<lambda>" q params body scope cl pm (.ref c') qG) ⟨[u],[]⟩=pure [(y,u)])
 (xK:defaultsOf params X.J=([],[]):=by rfl) (xJ:scope.isGenerator=AT:=by rfl) (J':scope.isCoroutine=AT:=by rfl)
 (hc:X.calm=Ch:=by rfl) (hn:x≠ "__name__":=by decide +kernel) (ie:Nd x:=by kernel_rfl)
 (Tu:Se a [] X.J:=by rfl) (T4:Bk pos a X.J:=by rfl) (fC:(backTo pos<|starEach (a::[]) X.J).any (·.1)=AT:=by rfl) :
 QE X (.Call (.Name x p1) [a] [⟨AC<|Str.ofString "key",.Lambda params body scope lp,kp⟩,⟨AC<|Str.ofString "default",.Constant .none jj cp,kp2⟩] pos) (Z.x? Ch (.ok .non) fa is fe):=
 ⟨ZS.yf hL oQ hg hm hv ha.p χ LR (λ cl f c' s H=>(he cl f c' s H).p) lh xK xJ J' hc hn ie Tu T4 fC⟩
theorem ye(hL:ue X nm)(oQ:X.A.in1.depth<recursionLimit)(hg:Gl X x)(hm:X.mg x=At)(hv:bootBuiltins x=AC (.builtin "min"))(ha:QW X a fa)
 (χ:um X.N N' 1 is scope X.J.scope) (LR:N'[0]?=AC y) (he:∀cl f c' s H,QE (B! X N' (i5 nm) scope cl f c' s H) body fe)
 (lh:∀q cl pm c' qG u,bindArgs (kla_fn "<lambda>" q params body scope cl pm (.ref c') qG) ⟨[u],[]⟩=pure [(y,u)])
 (xK:defaultsOf params X.J=([],[]):=by rfl) (xJ:scope.isGenerator=AT:=by rfl) (J':scope.isCoroutine=AT:=by rfl)
 (hc:X.calm=Ch:=by rfl) (hn:x≠ "__name__":=by decide +kernel) (ie:Nd x:=by kernel_rfl)
 (Tu:Se a [] X.J:=by rfl) (T4:Bk pos a X.J:=by rfl) (fC:(backTo pos<|starEach (a::[]) X.J).any (·.1)=AT:=by rfl) :
 QE X (.Call (.Name x p1) [a] [⟨AC<|Str.ofString "key",.Lambda params body scope lp,kp⟩] pos) (Z.x? AT .bad fa is fe):=
 ⟨ZS.ye hL oQ hg hm hv ha.p χ LR (λ cl f c' s H=>(he cl f c' s H).p) lh xK xJ J' hc hn ie Tu T4 fC⟩
def Q0{K:Da}{st:η}(d:ZS.Def K mg x st ps)(S:aW N ps (aa st))(L:ZS.PQ K mg x)
 (hb:∀ f a5 A outer s H E,ZS.U5 K x a5->bu k (A.deeper<|envOfC x (aa st) s.heap.objs.size f a5) ->
  va (c! hV P w K mg base N x (aa st) f a5 A outer s H E).gO H (aC st) b):ZS.C5 P w K mg base x (k+1) ps (Z.fn ps.length N.length b):=
 ZS.ac4 d S L λ f a5 A outer s H E hl hr=>(hb f a5 A outer s H E hl hr).p
end ZQ
namespace ZS
open L2 PySem.W
def bK(K:Frag)(n:Str)(st:η):Prop:=∃(f:δ)(od an:ε δ)(sl:Array (ε ζ))(oc kV dc pm cd ct:ζ),nsIn K mainGlobals n=AC (AC<|.ref f)/\K.lookup f=AC ⟨oc,od,.func<|fnOf n n (bp st) (aC st) (aa st) .none kV dc pm an cd ct,sl⟩/\codeIn K cd n=Ch/\keepIn K (.ref f)=Ch
def mL(K:Frag)(n:Str)(st:η):Prop:=∃(f t:δ)(od an td:ε δ)(sl ts:Array (ε ζ))(tn:Nat)(oc kV dc pm cd ct tc:ζ),nsIn K mainGlobals n=AC (AC<|.ref f)/\K.lookup f=AC ⟨oc,od,.func<|fnOf n n (bp st) (aC st) (aa st) (.ref t) kV dc pm an cd ct,sl⟩/\codeIn K cd n=Ch/\keepIn K (.ref f)=Ch/\K.lookup t=AC ⟨tc,td,.seq #[.none] tn,ts⟩
def uf(K:Frag)(n:Str)(st:η):Prop:=bK K n st/\∃c p,tabIn K n=AC (c,p)
section
variable{K:Frag}{st:η}
def bK.mk'{oc kV dc pm cd ct:ζ}(a:nsIn K mainGlobals n=AC (AC<|.ref f))(l:K.lookup f=AC ⟨oc,od,.func<|fnOf n n (bp st) (aC st) (aa st) .none kV dc pm an cd ct,sl⟩)(c:codeIn K cd n=Ch)(k:keepIn K (.ref f)=Ch):bK K n st:=(f,od,an,sl,oc,kV,dc,pm,cd,ct,a,l,c,k,)
def mL.mk'{oc kV dc pm cd ct tc:ζ}(a:nsIn K mainGlobals n=AC (AC<|.ref f))(l:K.lookup f=AC ⟨oc,od,.func<|fnOf n n (bp st) (aC st) (aa st) (.ref t) kV dc pm an cd ct,sl⟩)(c:codeIn K cd n=Ch)(k:keepIn K (.ref f)=Ch)(q:K.lookup t=AC ⟨tc,td,.seq #[.none] tn,ts⟩):mL K n st:=(f,t,od,an,td,sl,ts,tn,oc,kV,dc,pm,cd,ct,tc,a,l,c,k,q,)
def uf.mk'{oc kV dc pm ct to:ζ}(a:nsIn K mainGlobals n=AC (AC<|.ref f))(l:K.lookup f=AC ⟨oc,od,.func<|fnOf n n (bp st) (aC st) (aa st) .none kV dc pm an (.ref cc) ct,sl⟩)(c:codeIn K (.ref cc) n=Ch)(k:keepIn K (.ref f)=Ch)(tl:K.lookup cc=AC ⟨to,td,.fields tv,ts⟩)(tp:tv[11]?=AC (.ref pp)):uf K n st:=((f,od,an,sl,oc,kV,dc,pm,_,ct,a,l,c,k,),cc,pp,r? a l rfl tl tp,)
def bK.df(d:bK K n st)(X:K.In h)(G:h.Ns mainGlobals mg)(hb:∀kV doc pm an a5 ct us,us.n=ps.n->bindArgs (fnOf n n (bp st) (aC st) (aa st) .none kV doc pm an a5 ct) ⟨us,[]⟩=pure (ps.zip us):=by show ZS.Q3):Def K mg n st ps:=by let(f,od,an,sl,oc,kV,dc,pm,cd,ct,a,l,c,k):=d;let F:=tH l c k;show(f,_,F,mg_of X G a,F.binds hb,)
def mL.df(d:mL K n st)(X:K.In h)(G:h.Ns mainGlobals mg)
 (h1:∀t kV doc pm an a5 ct us,us.n=ps.n->∃kk,bindArgs (fnOf n n (bp st) (aC st) (aa st) (.ref t) kV doc pm an a5 ct) ⟨us,[]⟩=seqItems? (.ref t)>>=kk/\kk (AC #[.none])=pure (ps.zip us):=by show ZS.Q3)
 (h2:∀t kV doc pm an a5 ct us,us.n=ps.tail.n->∃kk,bindArgs (fnOf n n (bp st) (aC st) (aa st) (.ref t) kV doc pm an a5 ct) ⟨us,[]⟩=seqItems? (.ref t)>>=kk/\kk (AC #[.none])=pure (ps.zip<|us++[.none]):=by show ZS.Q3):PX K mg n st ps:=by
 let(f,t,od,an,td,sl,ts,tn,oc,kV,dc,pm,cd,ct,tc,a,l,c,k,q):=d;show O4 l c k q (mg_of X G a) (h1 t kV dc pm an cd ct) λ us e=>h2 t kV dc pm an cd ct us (by simp;lia)
def bK.law(d:bK K n st)(X:K.In h)(G:h.Ns mainGlobals mg)(Gw:mg n=AC (.ref fa))(hb:∀kV doc pm an a5 ct s v,BindsTo s (fnOf n n (bp st) (aC st) (aa st) .none kV doc pm an a5 ct) ⟨[v],[]⟩ [(x,v)]):∃fd,(∀s v,BindsTo s fd ⟨[v],[]⟩ [(x,v)])/\Bg K n n st fa fd:=by let(f,od,an,sl,oc,kV,dc,pm,cd,ct,a,l,c,k):=d;let e:=Gw.symm.trans<|mg_of X G a;ext e;show(_,hb kV dc pm an cd ct,tH l c k,)
def uf.lam(d:uf K n st)(X:K.In h)(G:h.Ns mainGlobals mg):PQ K mg n:=by let(c,p,t):=d.2;show N2 X G t
end
end ZS
namespace ZQ
open L2
def Xr(sc:ς)(x:Str):Bool:=match sc.names.lookup x with
|some .local=>Ch
|some .cell=>Ch
|_=>AT
def lo(h:Xr sc x=Ch):Loc sc x:=by
 unfold Xr at h;split at h
 .rename_i e;show .inl e
 .rename_i e;show .inr e
 .ext h
end ZQ
namespace Z
abbrev XN:=U Nat×U (U Nat×D)
abbrev XF:=Env->ε XN
def Hb(_:Env):ε XN:=At
def yG(m:U D->ε XN)(as:AF)(Y:Env):ε XN:=match as Y with
|.ok ds=>m ds
|.bad=>At
def rN(a:SF)(xa xb:XF)(Y:Env):ε XN:=match xa Y with
|some c=>AC c
|none=>match a Y with
 |.ok<|.nx Y'=>xb Y'
 |_=>At
def VU(t:TF)(a b:XF)(Y:Env):ε XN:=match t Y with
|.ok c=>if c then a Y else b Y
|.bad=>At
end Z
namespace ZS
open L2 PySem.W
def I!(x:d_ P w H h a o):∃ob,h.get? a=AC ob:=by
 cases o with
 |lst xs=>let(_,_,_,_,e):=x;show(_,e,)
 |tup xs=>let(_,_,_,tn):=x;let(ob,e,_):=tn.is;show(_,e,)
 |dK aQ=>let(_,_,_,_,o,_,_,e,_):=x;show(_,e,)
 |dT aQ=>let(_,_,_,_,o,_,_,e,_):=x;show(_,e,)
 |set S n=>let(o,_,_,_,e,_):=x;show(_,e,)
 |ins C dx fs=>let(_,_,_,e,_):=x;show(_,e,)
 |own y=>let(_,e):=x;show(_,e,)
 |xd fs=>let(_,(_,_,_,e,_),_):=x;show(_,e,)
 |ZW lo hi=>let(_,_,_,e):=x;show(_,e,)
 |dW ob u=>let(e,_):=x;show(_,e,)
 |HN q=>let(_,e,_):=x;show(_,e,)
 |L6 q=>let(_,_,_,_,e1,e2,_):=x;ext e1;show(_,e2,)
 |met f y=>show(_,(x),)
 |ext φ=>let(_,(_,e),_):=x;show(_,e,)
section
variable{X:Cx}{B:U (δ×μ)}{O:St}{H H':Hp}{s:θ}{h':ν}
theorem Di{ch:U δ}(I:Inv X B O H s)
 (Ba:∀b∈ch,X.s₀.heap.get? b=At/\b≠X.J.i/\(∀x c,X.env.cells.lookup x=AC c->c≠b)/\∀p∈X.pn++B,p.1≠b)
 (keep:∀b o,b≠X.J.i->b∉X.fs->b∉ch->s.heap.get? b=AC o->H b=At->h'.get? b=AC o)
 (slot:∀b o,b≠X.J.i->b∈X.fs->b∉ch->s.heap.get? b=AC o->H b=At->∃sl,h'.get? b=AC {o with slots:=sl}) (free:∀b o,b∉ch->s.heap.get? b=AC o->H b=At->H' b=At)
 (there:∀b o,b∉ch->s.heap.get? b=AC o->∃o',h'.get? b=AC o')
 (qO:∀b xs,H b=AC (.tup xs)->H' b=AC (.tup xs)) (pW:∀b o u,H b=AC (.dW o u)->H' b=AC (.dW o u)) (mO:∀b u,VI u->H b=AC u->H' b=AC u)
 (ns:∀m,s.heap.Ns X.env.locals m->h'.Ns X.env.locals m) (bO:kK X.prog X.w H' h') (hg:AllBare g') :
 Inv X B O H' {s with heap:=h',gens:=g',drawn:=d',toks:=t'}:=by
 let Xc:∀b o,X.s₀.heap.get? b=AC o->b≠X.J.i:=λ b o e=>A16<|A18 (A05 e) I.ok.above;let Jo:∀b o,X.s₀.heap.get? b=AC o->b∉ch:=λ b o e hb=>by rw[(Ba b hb).1]at e;ext e
 let cellK:∀x c,X.env.cells.lookup x=AC c->∀v,s.heap.IsCell c v->h'.IsCell c v:=by
  rintro x c e v ⟨o,ho,hd⟩;let zP:=λ z=>(Ba c z).2.2.1 x c e rfl;by_cases hc:c∈X.fs
  .let(sl,q):=slot c o (I.Lb x c e) hc zP ho (I.fY x c e);show(_,q,hd,)
  .exact⟨o,keep c o (I.Lb x c e) hc zP ho<|I.fY x c e,hd⟩
 show(I.ok,I.os,hg,(λ b o e n hb hx=>?_,λ b o e n hb hx=>?_,λ b o e n hx=>?_,λ b o e hx=>?_,λ b xs e=>qO b xs<|I.base.qO b xs e,λ b o xs e=>pW b o xs<|I.base.pW b o xs e,λ b u p e=>mO b u p<|I.base.mO b u p e,),?_,λ x c e=>?_,?_,λ x c e=>?_,λ p hp=>?_,bO,I.len,I.tab.up mO,)
 .exact keep b o (Xc b o e) hb (Jo b o e) (I.base.keep b o e n hb hx)<|I.base.free b o e n hx
 .let(sl,e1):=I.base.slot b o e n hb hx;let(sl',e2):=slot b _ (Xc b o e) hb (Jo b o e) e1 (I.base.free b o e n hx);show(sl',e2,)
 .let(o',e1):=I.base.there b o e hx;show free b o' (Jo b o e) e1<|I.base.free b o e n hx
 .let(o',e1):=I.base.there b o e hx;show there b o' (Jo b o e) e1
 .let(m,hn,hl):=I.loc;show(m,ns m hn,λ i x v e1 e2 e3=>?_,);let(u,r,l):=hl i x v e1 e2 e3;show(u,r,?_,);rcases l with l|⟨k,c,e,z⟩
  .exact .inl l
  .exact .inr ⟨k,c,e,cellK x c e _ z⟩
 .let(v,z):=I.cell x c e;show(v,cellK x c e v z,)
 .let(m,(o,_,_,ho,_),_):=I.loc;show free _ o (λ z=>(Ba _ z).2.1 rfl) ho I.free
 .let(v,o,ho,hd):=I.cell x c e;show free c o (λ z=>(Ba c z).2.2.1 x c e rfl) ho<|I.fY x c e
 .let(e,n,ne,nf,d):=I.pin p hp;let zP:=λ z=>(Ba p.1 z).2.2.2 p hp rfl;show(keep p.1 p.2 ne nf zP e n,free p.1 p.2 zP e n,ne,nf,d,)
structure nM(X:Cx)(B:List (Addr×Obj))(H:Hp)(s:Shared)(a:Addr):Prop where
 free:H a=At
 new:X.s₀.heap.get? a=At
 pin:∀p∈X.pn++B,p.1≠a
 isr:∃o vs,s.heap.get? a=AC o/\o.data=.fields vs
def nM.loc(o:nM X B H s a)(I:Inv X B O H s):a≠X.J.i:=λ z=>by let(ob,vs,e,d):=o.isr;let(m,(o',es,ep,oR,qY,_),_):=I.loc;rw[z,oR]at e;ext e;rw[qY]at d;ext d
def nM.cell(o:nM X B H s a)(I:Inv X B O H s)(x:Str)(c:δ)(hc:X.env.cells.lookup x=AC c):c≠a:=λ z=>by let(ob,vs,e,d):=o.isr;let(v,o',oR,qY):=I.cell x c hc;rw[z,e]at oR;ext oR;rw[d]at qY;ext qY
def absent(I:Inv X B O H s)(h:s.heap.get? a=At):H a=At/\X.s₀.heap.get? a=At\/a∈X.ex:=by
 by_cases hx:a∈X.ex
 .exact .inr hx
 .refine .inl ⟨?_,?_⟩
  .cases e:H a with
   |none=>rfl
   |some u=>let(ob,q):=I! (I.bO a u e);rw[h]at q;ext q
  .cases e:X.s₀.heap.get? a with
   |none=>rfl
   |some o=>let(o',q):=I.base.there a o e hx;rw[h]at q;ext q
def Inv.snap(I:Inv X B O H s)(off:∀a∈l,nM X B H s a)(k1:(hideAll s.heap<|tI X.stack++l).StaysIn h')
 (k4:∀b o,s.heap.get? b=AC o->(∀vs,o.data≠.fields vs)->∃sl,h'.get? b=AC {o with slots:=sl}):Inv X B O H {s with heap:=h',toks:=t'}:=by
 let _j:=λ b o n1 n2 e=>k1 b o<|hideAll_get _ e λ z=>(A37.mp z).elim n1 n2;let Rp:∀b u,H b=AC u->b∉tI _/\b∉l:=λ b u e=>(λ z=>(by rw[I.rh b z]at e;ext e),λ z=>(by rw[(off b z).free]at e;ext e),)
 show Di I (λ b hb=>((off b hb).new,(off b hb).loc I,(off b hb).cell I,(off b hb).pin,)) (λ b o hL hf hc e n=>_j b o (λ z=>(A01.mp<|I.pH b z).elim hL hf) hc e) (λ b o hL hf hc e n=>?_) (λ _ _ _ _ n=>n) (λ b o hc e=>?_) (λ _ _ e=>e) (λ _ _ _ e=>e) (λ _ _ _ e=>e) (λ m hm=>?_) (λ b u e=>?_) I.bare
 .let(_,o',oR,qY):=I.me.mem hf;rw[e]at oR;ext oR;show k4 b o e qY
 .by_cases hz:b∈tI X.stack
  .let(_,o',oR,qY):=I.stack.mem hz;rw[e]at oR;ext oR;let(sl,q):=k4 b o e qY;show(_,q,)
  .exact⟨o,_j b o hz hc e⟩
 .let(o,es,ep,ho,hd,r):=hm;let(sl,q):=k4 _ o ho (λ vs z=>by rw[hd]at z;ext z);show(_,es,ep,q,hd,r,)
 .refine(I.bO b u e).n? (λ c v hc q=>?_) (λ _ q=>q) (λ _ _ q=>q) λ _ _ _ q=>q;rcases hc with rfl|hc
  .exact _j c v (Rp c u e).1 (Rp c u e).2 q
  .exact _j c v (Rp c _ hc).1 (Rp c _ hc).2 q
def zl(hex:X.ex=[])(I:Inv X B O H s)(off:∀a∈l,nM X B H s a)(k2:h'.FunFrames (hideAll s.heap<|tI X.stack++l) X.stack)
 (hT:(hideAll s.heap<|tI X.stack++l).get? T=At) (hT':h'.get? T=AC oT) (hd:oT.data=.fields ts):H T=At/\X.s₀.heap.get? T=At/\∀p∈X.pn++B,p.1≠T:=by
 let nst:T∉tI _:=λ z=>by let(_,o',oR,qY):=k2.mem z;rw[hT']at oR;ext oR;show qY ts hd
 by_cases hl:T∈l
 .exact⟨(off T hl).free,(off T hl).new,(off T hl).pin⟩
 .let hn:s.heap.get? T=At:=by
   cases e:s.heap.get? T with
   |none=>rfl
   |some o=>rw[hideAll_get _ e λ z=>(A37.mp z).elim nst hl]at hT;ext hT
  rcases absent I hn with z|z
  .exact⟨z.1,z.2,λ p hp q=>by rw[<-q,(I.pin p hp).1]at hn;ext hn⟩
  .rw[hex]at z;ext z
end
theorem Kx{rest:U PySem.Env}
 (fr:A.frames=AC (env::rest)) (ff:s.heap.FunFrames ground (env::rest)) (el:env.frame=AC L) (ge:s.heap.get? e=AC oe) (st:ground.StaysIn s.e) (ne:ground.get? e=At) (de:oe.data=.fields fl) (sz:1<fl.u)
 (k:∀ h' T oT ts,ground.StaysIn h'->h'.FunFrames ground (env::rest)->h'.get? e=AC (oe.mapFields (·.setIfInBounds 1<|.ref T))->ground.get? T=At->T≠e->h'.get? T=AC oT->oT.data=.fields ts->3<ts.u ->
  (∀b o,s.heap.get? b=AC o->(∀vs,o.data≠.fields vs)->∃sl,h'.get? b=AC {o with slots:=sl})->Q () {s with heap:=h'}) :
 Ev M A (do let a ←frameOf env;let pl ←entryPlaceOf L nx;let b ←EntryCells.newEntry hd0 a .none (rawInt L) .none pl;setField (.ref e) 1 b) Q E s:=by
 let out:e∉(env::rest).filterMap (·.frame):=λ z=>by let(_,o,go,no):=ff.mem z;rw[ge]at go;ext go;show no fl de
 show T0<|wpAny_frameOf_fun fr ff el λ h1 so=>T0<|wpAny_entryPlaceOf λ pl ip=>?_;unfold EntryCells.newEntry newFields;show T0<|A76 ?_<|ip.sizeOk5 _ _ _ _ _;generalize TC:({cls:=.type "traceback",dict:=At,data:=.fields ([hd0,.ref L,.none,rawInt L,.none]++(if pl.isEmpty then Db 6 SZ else pl)).toArray}:μ)=new;let YZ:new.data=.fields ([hd0,.ref L,.none,rawInt L,.none]++(if pl.isEmpty then Db 6 SZ else pl)).toArray:=by rw[<-TC]
 let ge1:=(so.2.1 e out).trans ge;let P!:ground.StaysIn h1:=λ b o q=>(so.2.1 b λ z=>by rw[(ff.mem z).1]at q;ext q).trans<|st b o q;let ge2:=A03 (h:=h1) new ge1;show B73 ge2 de sz ?_;let Te:=A48<|A05 ge1;let d3:=A73 de (·.setIfInBounds 1<|Value.ref h1.Z);let ge3:=B18 (SB (·.setIfInBounds 1<|Value.ref h1.Z)) ge2<|B74 d3;let gT:=(A84 (h1.push new) (SB (·.setIfInBounds 1<|Value.ref h1.Z))<|A10 Te).trans<|A17 h1<|B74 YZ;let hold:∀b o,b≠e->h1.get? b=AC o->((h1.push new).update e (SB (·.setIfInBounds 1<|Value.ref h1.Z))).get? b=AC o:=λ b o n q=>by rw[A84 _ _<|A10 n];show A03 _ q
 let apart:∀b o,s.heap.get? b=AC o->(∀vs,o.data≠.fields vs)->b≠e:=λ b o q n z=>by rw[z,ge]at q;ext q;show n fl de
 show k _ h1.objs.size new _ (λ b o q=>hold b o (λ z=>by rw[z,ne]at q;ext q)<|P! b o q) (ff.of_keeps λ b o q n=>?_) ge3 P!.fresh Te gT YZ (by erw[A12,A38,A29,C08];lia) λ b o q n=>?_
 .let(sl,z):=so.2.2 b o q;show(_,hold b _ (apart b o q n) z,rfl,)
 .let(sl,z):=so.2.2 b o q;show(sl,hold b _ (apart b o q n) z,)
def k?(o:μ)(f:Array ζ->Array ζ):(o.mapFields f).dict=o.dict:=by let(_,_,d,_):=o;ext d<;>rfl
structure PJ(X:Cx)(B:List (Addr×Obj))(H:Hp)(s:Shared)(e C:Addr)(dd:Option Addr):Prop where
 off:nM X B H s e
 ex:∃oe vs,s.heap.get? e=AC oe/\oe.cls=.ref C/\oe.dict=dd/\oe.data=.fields vs/\(vs[1]?=AC .none\/∃T oT ts,vs[1]?=AC (.ref T)/\T≠e/\nM X B H s T/\s.heap.get? T=AC oT/\oT.data=.fields ts/\ts[3]?=AC .none)
def adj(h0:ν)(H':Hp)(h':ν)(e C:δ)(dd:ε δ):Prop:=h0.get? e=At/\H' e=At/\∃oe vs T oT ts,h'.get? e=AC oe/\oe.cls=.ref C/\oe.dict=dd/\oe.data=.fields vs/\vs[1]?=AC (.ref T)/\T≠e/\H' T=At/\h0.get? T=At/\h'.get? T=AC oT/\oT.data=.fields ts/\ts[3]?=AC .none
def Fc(P:ο)(w:ξ):U!:=λ outer H s E ev s'=>∃e C dd H',ev=.ref e/\s'.os=s.os/\AllBare s'.gens/\Un (tI outer) [] H H' s.heap s'.e/\kK P w H' s'.e/\adj s.heap H' s'.heap e C dd/\E (.ref C) dd H'
def HY:∀env∈l,∀a,env.frame=AC a->a∈tI l++as:=λ env he a ha=>A70 _<|B89.mpr ⟨env,he,ha⟩
section
variable{X:Cx}{B:U (δ×μ)}{O:St}{H:Hp}{s:θ}
structure VN(X:Cx)(B:List (Addr×Obj))(O:St)(H:Hp)(s:Shared)(e C:Addr)(dd:Option Addr)(lands:Bool):Prop where
 inv:Inv X B O H s
 off:nM X B H s e
 ex:∃oe vs T oT ts,s.heap.get? e=AC oe/\oe.cls=.ref C/\oe.dict=dd/\oe.data=.fields vs/\vs[1]?=AC (.ref T)/\T≠e/\nM X B H s T/\s.heap.get? T=AC oT/\oT.data=.fields ts/\3<ts.u/\(lands=Ch->ts[3]?=AC .none)
def zK(hex:X.ex=[])(oO:X.stack=X.J::X.outer)(LW:X.J.frame=AC X.J.i)(I:Inv X B O H s)(t:PJ X B H s e C dd)
 (k:∀s',VN X B O H s' e C dd AT->Q () s'):Ev M X.A (noteFrame (.ref e) X.J) Q E s:=by
 let(oe,vs,he,kD,Ht,hd,h1):=t.ex;let hfr:X.A.frames=AC (X.J::X.outer):=by rw[<-oO];show I.ok.frames
 let LG:=I.stack;rw[oO]at LG;unfold noteFrame;erw[LW];rcases h1 with h1|⟨T,oT,ts,h1,Yq,LP,gT,dT,h3⟩
 .let off:∀a∈[e],nM X B H s a:=λ a ha=>by rw[A11.mp ha];show t.off
  show T0<|A40 he hd h1 ?_;rw[W1 ∅];show Kx hfr (funFrames_hide LG HY) LW he (λ b o=>of_hideAll _) (B80 _<|A45 _<|A11.mpr rfl) hd (B49.mp h1).1 λ h' T' LP Ro k1 k2 g1 g2 g3 g4 g5 g6 k4=>k _ ?_;rw[<-oO]at k1 k2 g2;let J:=Inv.snap (t':=s.toks) I off k1 k4;let(n1,n2,n3):=zl hex I off k2 g2 g4 g5;let sz:=(B49.mp h1).1;show⟨J,(t.off.free,t.off.new,t.off.pin,_,_,g1,A73 hd _,),_,_,T',LP,Ro,g1,(C17 _ _).trans kD,(k? _ _).trans Ht,A73 hd _,by simp[sz],g3,(n1,n2,n3,LP,Ro,g4,g5,),g4,g5,g6,λ z=>nomatch z⟩
 .let off:∀a∈[e,T],nM X B H s a:=λ a ha=>by
   rcases A01.mp ha with rfl|ha
   .exact t.off
   .rw[A11.mp ha];show LP
  show T0<|A40 he hd h1 ?_;rw[M2 ∅];show T0<|A40 gT dT h3 ?_;rw[W1 (by simp[rawInt])];show T0<|B73 gT dT (B49.mp h3).1 ?_;let other:∀b,b≠T->(s.heap.update T (SB (·.setIfInBounds 3 SZ))).get? b=s.heap.get? b:=λ b hb=>A84 _ _<|A10 hb;let apart:∀b o,s.heap.get? b=AC o->(∀vs,o.data≠.fields vs)->b≠T:=λ b o q n z=>by rw[z,gT]at q;ext q;show n ts dT
  let inT:T∈tI (X.J::X.outer)++[e,T]:=A45 _ ∅;show Kx hfr ((funFrames_hide LG HY).of_keeps λ b o q n=>(o,(other b<|apart b o q n).trans q,rfl,)) LW ((other e<|A10 Yq).trans he)
   (λ b o q=>(other b λ z=>by rw[z,B80 _ inT]at q;ext q).trans<|of_hideAll _ q) (B80 _<|A45 _ ∅) hd (B49.mp h1).1 λ h' T' oT2 Ro k1 k2 g1 g2 g3 g4 g5 g6 k4=>k _ ?_
  rw[<-oO]at k1 k2 g2;let J:=Inv.snap (t':=s.toks) I off k1 λ b o q n=>k4 b o ((other b<|apart b o q n).trans q) n;let(n1,n2,n3):=zl hex I off k2 g2 g4 g5;let sz:=(B49.mp h1).1;show⟨J,(t.off.free,t.off.new,t.off.pin,_,_,g1,A73 hd _,),_,_,T',oT2,Ro,g1,(C17 _ _).trans kD,(k? _ _).trans Ht,A73 hd _,by simp[sz],g3,(n1,n2,n3,oT2,Ro,g4,g5,),g4,g5,g6,λ z=>nomatch z⟩
def land(c:VN X B O H s e C dd l)(k:∀s',VN X B O H s' e C dd Ch->Q () s'):Ev M A (setFlight (.ref e) At) Q E s:=by
 let(oe,vs,T,oT,ts,he,kD,Ht,hd,h1,Yq,LP,gT,dT,h3,_):=c.ex;show wpAny_setFlight_none he hd h1 gT dT h3<|k _ ?_;let other:∀b o,b≠T->s.heap.get? b=AC o->(s.heap.update T (SB (·.setIfInBounds 3 .none))).get? b=AC o:=λ b o hb q=>(A84 _ _<|A10 hb).trans q;let gT2:=B18 (SB (·.setIfInBounds 3 SZ)) gT<|B74<|A73 dT _;let off:∀a∈[T],nM X B H s a:=λ a ha=>by rw[A11.mp ha];show LP
 let J:=Inv.snap (t':=s.toks) c.inv off (λ b o q=>by
  by_cases hb:b=T
  .rw[hb,B80 _<|A45 _<|A11.mpr rfl]at q;ext q
  .exact other b o hb<|of_hideAll _ q) λ b o q n=>(_,other b o (λ z=>by rw[z,gT]at q;ext q;show n ts dT) q,)
 let QB:=other e oe (A10 Yq) he;show⟨J,(c.off.free,c.off.new,c.off.pin,oe,vs,QB,hd,),oe,vs,T,_,_,QB,kD,Ht,hd,h1,Yq,(LP.free,LP.new,LP.pin,_,_,gT2,A73 dT _,),gT2,A73 dT _,by calc h3,λ _=>by simp[h3]⟩
end
theorem Gd{K:Da}
 (I:Inv (c! (Fc P w) P w K mg base N qual scope f cd A outer s0 H0 E) B O H s) (t:PJ (c! (Fc P w) P w K mg base N qual scope f cd A outer s0 H0 E) B H s e C dd) (hE:E (.ref C) dd H) :
 (c! (Fc P w) P w K mg base N qual scope f cd A outer s0 H0 E).xe (.ref e) s:=by
 change Ev _ (c! (Fc P w) P w K mg base N qual scope f cd A outer s0 H0 E).A _ (λ _ Vd=>Fc P w outer H0 s0 E _ Vd) _ s;show T0<|zK rfl rfl rfl I t λ s1 c1=>land c1 λ s2 c2=>?_;let(oe,vs,T,oT,ts,q1,q2,qd,q3,q4,q5,q6,q7,q8,q9,q10):=c2.ex;show(e,C,dd,H,rfl,c2.inv.os,c2.inv.bare,c2.inv.k,c2.inv.bO,(c2.off.new,c2.off.free,oe,vs,T,oT,ts,q1,q2,qd,q3,q4,q5,q6.free,q6.new,q7,q8,q10 rfl,),hE,)
def Rq(hex:X.ex=[])(I:Inv X B O H s)(c:Fc X.prog X.w X.stack H s E ev s'):
 ∃e C dd H',ev=.ref e/\Inv X B O H' s'/\PJ X B H' s' e C dd/\E (.ref C) dd H':=by
 let(e,C,dd,H',rfl,os,bare,un,bO,(ne,fe,oe,vs,T,oT,ts,q1,q2,qd,q3,q4,q5,q6,q7,q8,q9,q10),hE):=c;let J:=I.Ld os un bO bare λ b hb=>absurd hb ∅;let ab:∀a,s.heap.get? a=At->X.s₀.heap.get? a=At/\∀p∈X.pn++B,p.1≠a:=λ a h=>by
  rcases absent I h with z|z
  .exact⟨z.2,λ p hp q=>by rw[<-q,(I.pin p hp).1]at h;ext h⟩
  .rw[hex]at z;ext z
 show(e,C,dd,H',rfl,J,((fe,(ab e ne).1,(ab e ne).2,oe,vs,q1,q3,),oe,vs,q1,q2,qd,q3,.inr ⟨T,oT,ts,q4,q5,⟨q6,(ab T q7).1,(ab T q7).2,oT,ts,q8,q9⟩,q8,q9,q10⟩,),hE,)
def Mu(hex:X.ex=[])(I:Inv X B O H s)(hm:cr s.heap h' e (.ref C) vs):
 Inv X B O H {s with heap:=h'}/\PJ X B H {s with heap:=h'} e C At:=by
 let J:=I.kept (t':=s.toks) hm.keeps;let(t,ht,_,_):=hm.there;show(J,?_,);rcases absent I hm.new with z|z
 .exact⟨⟨z.1,z.2,λ p hp q=>(by let:=(I.pin p hp).1;rw[q,hm.new]at this;ext this),_,_,ht,rfl⟩,_,_,ht,rfl,rfl,rfl,.inl rfl⟩
 .rw[hex]at z;ext z
def PA.gO(h:PA X.gO es t):PA X es t:=λ pos B s O H Q I hw=>A22 (h pos B s O H Q (I.mN _) hw) (by rintro _ _ ⟨vs,H',I',r,q⟩;show(vs,H',I'.hX,r,q,)) λ _ _ z=>Gc z
def PS.gO{st:η}(h:PS X.gO st t):PS X st t:=λ B s O H D I hw=>A22 (h B s O H D (I.mN _) hw) (λ _ _ q=>q.hX) λ _ _ z=>Gc z
def Zk(X:Cx)(O:St)(H:Hp)(c:Z.XN):Prop:=∀B H' s e C dd,az H H'->u_ X.K H' c C dd->Inv X B O H' s->PJ X B H' s e C dd->X.xe (.ref e) s
def Xw(X:Cx)(H0:Hp)(c:Z.XN):Prop:=∀B O H' s e C dd,az H0 H'->u_ X.K H' c C dd->Inv X B O H' s->PJ X B H' s e C dd->X.xe (.ref e) s
def Zk.up(h:Zk X O H c)(e:az H H'):Zk X O H' c:=λ B H2 s a C dd sm=>h B H2 s a C dd<|e.trans sm
def xR(X:Cx)(f:Z.XF)(O:St)(H:Hp):Prop:=∃Y c,RE X.K H O Y/\f Y=AC c/\Zk X O H c
abbrev XE(X:Cx)(e:ι)(f:Z.XF):Prop:=PE X e λ O H _=>xR X f O H
structure ZQ.QXE(X:Cx)(e:Expr)(f:Z.XF):Prop where p:XE X e f
abbrev XR(X:Cx)(st:η)(f:Z.XF):Prop:=PS X st λ _ O H=>xR X f O H
structure ZQ.QXR(X:Cx)(st:Stmt)(f:Z.XF):Prop where p:XR X st f
abbrev XRs(X:Cx)(yv:U η)(f:Z.XF):Prop:=pq X yv λ _ O H=>xR X f O H
structure ZQ.Zo(X:Cx)(yv:List Stmt)(f:Z.XF):Prop where p:XRs X yv f
def xS(X:Cx)(H0:Hp)(f:Z.XF)(O:St)(H:Hp):Prop:=∃Y c,RS X.K H0 H O Y/\f Y=AC c/\Xw X H0 c
abbrev XS(X:Cx)(H0:Hp)(st:η)(f:Z.XF):Prop:=PS X st λ _ O H=>xS X H0 f O H
structure ZQ.Zn(X:Cx)(H0:Hp)(st:Stmt)(f:Z.XF):Prop where p:XS X H0 st f
abbrev XSs(X:Cx)(H0:Hp)(yv:U η)(f:Z.XF):Prop:=pq X yv λ _ O H=>xS X H0 f O H
structure ZQ.A8(X:Cx)(H0:Hp)(yv:List Stmt)(f:Z.XF):Prop where p:XSs X H0 yv f
def U9(C:δ)(h:ν)(P:U ζ->δ->Prop):Prop:=∃(tl:U ζ)(ns:δ)(nm qn:Str)(bs:U ζ)(hd:Bool)(sn:U Str)(sub:U ζ)(ab:Bool)(col:ε Bool)(dd:ε δ)(s0 s1 s2 s3 s5:ε ζ),
 h.get? C=AC (excClassObj nm qn C ns bs tl hd sn sub ab col dd s0 s1 s2 s3 s5 "ValueError.__new__")/\P tl ns
def noB{p:Prop}(h:AT=Ch):p:=Bool.noConfusion h
def aa2{α:Type}{p:Prop}{x:α}(h:At=AC x):p:=by ext h
def Pg{d:Data}:Y6 d=AC cd->d=.cls cd:=by ext d<;>first|show λ h=>A14 _<|f8 h|show aa2
def aa8{α:Type}{l:U α}(h:l.n=6):∃a b c d e f,l=[a,b,c,d,e,f]:=by
 let(a,l,rfl):=B22 h;let(b,l,rfl):=B22 (A27 h);let(c,l,rfl):=B22 (A27<|A27 h);let(d,l,rfl):=B22 (A27<|A27<|A27 h);let(e,l,rfl):=B22 (A27<|A27<|A27<|A27 h);let(f,l,rfl):=B22 (A27<|A27<|A27<|A27<|A27 h);cases l with
 |nil=>show(_,_,_,_,_,_,rfl,)
 |cons _ _=>show Nat.noConfusion<|A27<|A27<|A27<|A27<|A27<|A27 h
def I_{α:Type}{f:α->Bool}{x:ε α}(h:obB f x=Ch):∃a,x=AC a/\f a=Ch:=by
 cases x with
 |none=>show noB h
 |some a=>show(a,rfl,h,)
def NO{f:ζ->U ζ->Bool}{x:U ζ}(h:Xo f x=Ch):∃a tl,x=a::tl/\f a tl=Ch:=by
 cases x with
 |nil=>show noB h
 |cons a tl=>show(a,tl,rfl,h,)
def Sv{o:μ}(h1:o.cls=a)(h2:o.data=d)(h3:o.slots.y=l):o=⟨a,o.dict,d,⟨l⟩⟩:=by subst h1 h2 h3;rfl
def Y8{cd:ClassData}(h1:cd.mro=m)(h2:cd.hasDel=b):cd={cd with mro:=m,hasDel:=b}:=by subst h1 h2;rfl
def clB{K:Da}{χ:U ζ->δ->Bool}{P:U ζ->δ->Prop}(X:K.In h)(q:UJ K C χ=Ch)(k:∀tl ns,χ tl ns=Ch->P tl ns):U9 C h P:=by let(o,ho,q):=I_ q;let(cd,hd,q):=I_ q;let(a,tl,hm,q):=NO q;let(q,r2):=B50.mp q;let(q,r1):=B50.mp q;let(q,q4):=B50.mp q;let(q,q3):=B50.mp q;let(q1,q2):=B50.mp q;let(s0,s1,s2,s3,s4,s5,e):=aa8 (A82 q3);let p4:=A82 q4;rw[e]at p4;obtain rfl:=f8 p4;obtain rfl:=A82 q2;show(tl,cd.ns,_,_,_,_,_,_,_,_,o.dict,s0,s1,s2,s3,s5,(X _ _ ho).trans<|A14 AC<|Sv (A82 q1) ((Pg hd).trans<|A14 Data.cls<|Y8 hm<|(wP _).mp r1) e,k _ _ r2,)
def adp(C:δ)(h:ν):Prop:=U9 C h λ tl _=>tl.contains (.type "BaseException")=Ch
def ac3{K:Da}(X:K.In h)(xc:XC K c C):adp C h:=clB X xc.2 λ _ _ r=>r
section
variable{st:η}
def ZQ.Ma(h:ZQ.QXE X a f)(hs:swapsWith a At pos.line X.J=pure AT:=by rfl):ZQ.QXR X (.Expr a pos) f:=⟨oy h.p hs⟩
def ZQ.VR(hc:ZQ.QT X.gO c t)(h1:ZQ.A8 X H0 b1 xa)(h2:ZQ.A8 X H0 b2 xb):ZQ.Zn X H0 (.If c b1 b2 pos) (Z.VU t xa xb):=⟨PS.imp (IC (PT.gO hc.p) h1.p h2.p) <|by
 rintro D O H ⟨Y,c,rs,ec,kw⟩;unfold Z.VU at ec;split at ec
 .rename_i b eb;show(Y,b,rs.re,eb,λ H1 s1=>?_,);cases b with
  |true=>show⟨Y,c,rs.up s1,by calc ec,kw⟩
  |false=>show⟨Y,c,rs.up s1,by calc ec,kw⟩
 .ext ec⟩
def ZQ.VQ:ZQ.Zn X H0 st Z.Hb:=⟨by rintro _ _ _ _ _ _ ⟨_,_,_,e,_⟩;show nomatch e⟩
def ZQ.Q_:ZQ.A8 X H0 yv Z.Hb:=⟨by rintro _ _ _ _ _ _ ⟨_,_,_,e,_⟩;show nomatch e⟩
def ZQ.L?(h:ZQ.Zn X H0 st f):ZQ.A8 X H0 [st] f:=⟨oq h.p⟩
def ZQ.L_(h:ZQ.QXR X st f):ZQ.Zo X [st] f:=⟨oq h.p⟩
def ZQ.Hz(h1:ZQ.QS X.gO H0 st g)(x1:ZQ.Zn X H0 st xa)(x2:ZQ.A8 X H0 yv xb):ZQ.A8 X H0 (st::yv) (Z.rN g xa xb):=⟨by
 let h1:=h1.p;let x2:=x2.p;intro B s O H D I h;let(Y,c,rs,ec,kw):=h;unfold Z.rN at ec;split at ec
 .rename_i c' e1;ext ec;show iE x1.p x2 B s O H D I ⟨Y,c,rs,e1,kw⟩
 .split at ec
  .rename_i Y' e2;show iE (PS.gO h1) x2 B s O H D I ⟨Y,_,rs,e2,λ O' H' _ Dv=>(Y',c,Dv,ec,kw,)⟩
  .ext ec⟩
end
def RS.aat{K:FM}(h:RS K H0 H O Y)(hd:RL K H (.exc c) v):RS K H0 H (O.set i<|some v) (Y.set i<|some<|.exc c):=by
 let getσ:∀j,i≠j->(O.set i<|some v)[j]?=O[j]?:=λ j hj=>A20 hj;show⟨h.same,⟨by simp[h.re.len],λ j l e=>?_,λ j k xs ys q e1 e2 e3 e4=>?_⟩,λ j xs q e1 e2=>?_,λ j xs e1=>?_,h.v?.set λ _ z=>nomatch z⟩
 .rcases aB e with⟨rfl,hl,e⟩|⟨hj,e⟩
  .ext e;show(v,A39 (by rw[<-h.re.len];show hl),hd,)
  .rw[getσ j hj];show h.re.get j l e
 .rcases aB e1 with⟨_,_,e⟩|⟨hj,e1⟩
  .ext e
  .rcases aB e2 with⟨_,_,e⟩|⟨hk,e2⟩
   .ext e
   .rw[getσ j hj]at e3;rw[getσ k hk]at e4;show h.re.sep j k xs ys q e1 e2 e3 e4
 .rcases aB e1 with⟨_,_,e⟩|⟨hj,e1⟩
  .ext e
  .rw[getσ j hj]at e2;show h.fresh j xs q e1 e2
 .rcases aB e1 with⟨_,_,e⟩|⟨hj,e1⟩
  .ext e
  .rw[getσ j hj];show h.mj j xs e1
def ia.Rz(h:ia H0 O Y):ia H0 (O.set i At) (Y.set i At):=by
 let g1:∀{j}{l},(Y.set i At)[j]?=AC _->i≠j/\Y[j]?=AC (AC l):=λ {j l} e=>by
  rcases aB e with⟨_,_,e⟩|z
  .ext e
  .exact z
 let g2:∀{j},i≠j->(O.set i At)[j]?=O[j]?:=λ {j} hj=>A20 hj;show(λ j k ks ls q e1 e2 e3 e4=>?_,λ j ks q e1 e2=>?_,)
 .let(n1,e1):=g1 e1;let(n2,e2):=g1 e2;rw[g2 n1]at e3;rw[g2 n2]at e4;show h.1 j k ks ls q e1 e2 e3 e4
 .let(n1,e1):=g1 e1;rw[g2 n1]at e2;show h.2 j ks q e1 e2
def RS.Rz{K:Da}(h:RS K H0 H O Y):RS K H0 H (O.set i At) (Y.set i At):=by
 let g1:∀{j}{l},(Y.set i At)[j]?=AC _->i≠j/\Y[j]?=AC (AC l):=λ {j l} e=>by
  rcases aB e with⟨_,_,e⟩|z
  .ext e
  .exact z
 let g2:∀{j},i≠j->(O.set i At)[j]?=O[j]?:=λ {j} hj=>A20 hj;show(h.same,⟨by simp[h.re.len],λ j l e=>?_,λ j k xs ys q e1 e2 e3 e4=>?_⟩,λ j xs q e1 e2=>?_,λ j xs e1=>?_,h.v?.Rz,)
 .let(n,e):=g1 e;rw[g2 n];show h.re.get j l e
 .let(n1,e1):=g1 e1;let(n2,e2):=g1 e2;rw[g2 n1]at e3;rw[g2 n2]at e4;show h.re.sep j k xs ys q e1 e2 e3 e4
 .let(n,e1):=g1 e1;rw[g2 n]at e2;show h.fresh j xs q e1 e2
 .let(n,e1):=g1 e1;rw[g2 n];show h.mj j xs e1
def VN.V5(c:VN X B O H s e C dd l):∃oe u,oe.cls=.ref C/\oe.dict=dd/\(∃vs,oe.data=.fields vs)/\H e=At/\Inv X B O (upd H e<|.dW oe u) s:=by
 let(oe,vs,T,oT,ts,he,kD,Ht,hd,h1,Yq,LP,gT,dT,h3,_):=c.ex;let I:=c.inv;let ne:∀b u,H b=AC u->b≠e:=λ b u q=>aY q c.off.free;show(oe,.ext λ _=>True,kD,Ht,(vs,hd,),c.off.free,?_,);let J:=Di (t':=s.toks) (d':=s.drawn) (H':=upd H e (.dW oe<|.ext λ _=>True)) I (λ b hb=>by rw[A11.mp hb];show(c.off.new,c.off.loc I,c.off.cell I,c.off.pin,)) (λ b o _ _ _ q _=>q) (λ b o _ _ _ q _=>(o.slots,q,))
  (λ b o hb q n=>by rw[av λ z=>hb<|A11.mpr z];show n) (λ b o _ q=>(o,q,)) (λ b xs q=>by rw[av<|ne b _ q];show q) (λ b o u q=>by rw[av<|ne b _ q];show q) (λ b u _ q=>by rw[av<|ne b _ q];show q) (λ m hm=>hm) (λ b u q=>?_) I.bare
 .exact J
 .by_cases hb:b=e
  .subst hb;rw[aE]at q;ext q;show(he,trivial,(oe,he,),λ _ _ _ _=>trivial,)
  .rw[av hb]at q;show(I.bO b u q).n? (λ c v _ z=>z) (λ c z=>by rw[av<|ne c _ z];show z) (λ c xs z=>by rw[av<|ne c _ z];show z) λ c v _ z=>by rw[av<|ne c _ z];show z
def name_goes(hN:X.N.Nodup)(hi:X.N[i]?=AC n)(hl:X.env.scope.names.lookup n=AC .local)(I:Inv X B O H s)
 (k:∀s',Inv X B (O.set i At) H s'->Q () s'):Ev M A (do bindName X.env n .none;unbindBehindTheSuite X.env n pos) Q E s:=by
 let(m,hn,hlk):=id I.loc;let(oL,_,_,hoL,_):=id hn;show wpAny_nameGoes_keeps hl hn (by rw[I.ok.kind];rfl) λ h' v LV hs=>k _ ?_;let lt:∀b o,X.s₀.heap.get? b=AC o->b≠X.J.i:=λ b o e=>A16<|A18 (A05 e) I.ok.above;show⟨I.ok,I.os,I.bare,(λ b o e n hb hx=>(hs.2 b<|lt b o e).trans<|I.base.keep b o e n hb hx,λ b o e n hb hx=>?_,I.k.free,λ b o e hx=>?_,I.k.qO,I.k.pW,I.k.mO,),(_,LV,λ j y v' e1 e2 e3=>?_,),λ y c e=>?_,I.free,I.fY,λ p hp=>?_,λ b u e=>?_,by calc I.len,I.tab⟩
 .let(sl,e1):=I.base.slot b o e n hb hx;show(sl,(hs.2 b<|lt b o e).trans e1,)
 .let(o',e1):=I.base.there b o e hx;show(o',(hs.2 b<|lt b o e).trans e1,)
 .let hj:j≠i:=λ z=>by
   subst z;rcases aB e2 with⟨_,_,e⟩|⟨n,_⟩
   .ext e
   .exact n rfl
  rw[A20<|A10 hj]at e2;let(u',r',q):=hlk j y v' e1 e2 e3;show(u',r',?_,);rcases q with⟨k,e⟩|⟨k,c,e,z⟩
  .refine .inl ⟨k,?_⟩;let:y≠n:=λ e=>hj<|sQ hN e1<|e▸hi;simp[this,e]
  .exact .inr ⟨k,c,e,z.sameBut hs<|I.Lb y c e⟩
 .let(w',z):=I.cell y c e;show(w',z.sameBut hs<|I.Lb y c e,)
 .let(e,n,ne,nf,d):=I.pin p hp;show((hs.2 p.1 ne).trans e,n,ne,nf,d,)
 .refine(I.bO b u e).n? (λ c v hc q=>(hs.2 c ?_).trans q) (λ _ q=>q) (λ _ _ q=>q) λ _ _ _ q=>q;rintro rfl;rcases hc with rfl|hc
  .rw[I.free]at e;ext e
  .rw[I.free]at hc;ext hc
abbrev Fz(X:Cx)(pn:U (δ×μ))(E:ζ->θ->Prop):Cx:={X with pn:=pn,xe:=E}
abbrev Oz(X:Cx)(ev:ζ):Cx:={X with A:=X.A.mark<|some ev,calm:=AT}
theorem Sd(ok:X.Ok)(pn:U _)(E:ζ->θ->Prop):(Fz X pn E).Ok:=
 ⟨ok.mod,ok.kind,ok.glob,ok.blt,ok.above,ok.inj,ok.has,ok.UO,ok.hd,ok.frames,ok.LG,ok._K,ok.bs,ok.Lg,ok.zN,ok.GC,ok.me,ok.OG⟩
theorem Sq(ok:X.Ok)(ev:ζ):(Oz X ev).Ok:=
 ⟨ok.mod,ok.kind,ok.glob,ok.blt,ok.above,ok.inj,ok.has,ok.UO,λ z=>(nomatch z),ok.frames,ok.LG,ok._K,ok.bs,ok.Lg,ok.zN,ok.GC,ok.me,ok.OG⟩
def Oj(I:Inv X B O H s)(E:ζ->θ->Prop):Inv (Fz X (X.pn++B) E) [] O H s:=(Sd I.ok _ E,I.os,I.bare,I.k,I.loc,I.cell,I.free,I.fY,λ p hp=>I.pin p (by calc hp),I.bO,I.len,I.tab,)
def Cc(ok:X.Ok)(I:Inv (Fz X (X.pn++B) E) mz O H s):Inv X B O H s:=(ok,I.os,I.bare,I.k,I.loc,I.cell,I.free,I.fY,λ p hp=>I.pin p<|A70 _ hp,I.bO,I.len,I.tab,)
def sO(o:nM (Fz X (X.pn++B) E) mz H s a):nM X B H s a:=(o.free,o.new,λ p hp=>o.pin p<|A70 _ hp,o.isr,)
def BG(t:PJ (Fz X (X.pn++B) E) mz H s e C dd):PJ X B H s e C dd:=by
 let(oe,vs,he,kD,Ht,hd,h1):=t.ex;show(sO t.off,oe,vs,he,kD,Ht,hd,?_,);rcases h1 with h1|⟨T,oT,ts,h1,h2,h3,h4⟩
 .exact .inl h1
 .exact .inr ⟨T,oT,ts,h1,h2,sO h3,h4⟩
def Eo(I:Inv X B O H s)(ev:ζ):Inv (Oz X ev).gO B O H s:=((Sq I.ok ev).mN _,I.os,I.bare,I.k,I.loc,I.cell,I.free,I.fY,I.pin,I.bO,I.len,I.tab,)
def s?(ok:X.Ok)(I:Inv (Oz X ev).gO B O H s):Inv X B O H s:=(ok,I.os,I.bare,I.k,I.loc,I.cell,I.free,I.fY,I.pin,I.bO,I.len,I.tab,)
def JM(I:Inv X B O H s)(hg:Gl X x)(hm:X.mg x=AC u)(h:Q u s)
 (hd:Nd x):Ev M A (eval (.Name x pos) X.J) Q E s:=
 B88 I.ok.kind hg (Calls.loadGlobal_global (by rw[I.ok.glob];show I.mod.glob.keeps I.bk) hm h) hd
structure PU(K:Da)(C:Addr):Prop where
 ga:findIn K (.ref C) "__getattribute__"=AC (AC<|.builtin "BaseException.__getattribute__")
 gn:findIn K (.ref C) "__getattr__"=AC At
 cl:findIn K (.ref C) "__class__"=AC (AC<|.builtin "object.__class__")
 hn:specialIn K (.builtin "object.__class__") "__get__"=AC (AC<|.builtin "getset_descriptor.__get__")
 tk:takesIn K (.builtin "object.__class__")=AC Ch
 mo:mroIn K C (.type "object")=AC Ch
 mb:mroIn K C (.type "BaseException")=AC Ch
end ZS
namespace ZS
open L2 PySem.W
def rn:U ζ->Bool
|.ref _::r=>rn r
|l=>l==[.type "ValueError",.type "Exception",.type "BaseException",.type "object"]
def BV(self:ζ)(e:rn l=Ch):refuseLoop self "__setattr__" l=pure ()/\l.contains (.type "object")=Ch/\l.isEmpty=AT:=by
 induction l with
 |nil=>ext e
 |cons a r ih=>
  unfold rn at e;split at e
  .rename_i c r' q;ext q;let(h1,h2,_):=ih e;show⟨by rw[refuseLoop_ref];show h1,by rw[C30,h2,B81],rfl⟩
  .rw[A41.mp e];show⟨PySem.F.store_ValueError.passes self,by decide +kernel,rfl⟩
structure yr(K:Frag)(C:Addr):Prop where
 sa:findIn K (.ref C) "__setattr__"=AC (AC<|.builtin "object.__setattr__")
 mr:(clsIn K C).any (λ cd=>rn cd.mro)=Ch
 hd:hasDictIn K C=Ch
section
variable{K:Frag}
def Kr(k:yr K C)(X:K.In s.e)(I:InstAt s.heap x ox C od)(ht:findIn K (.ref C) name=AC At)
 (h:∀ b,Ev (model prog w) A.in1 (Builtin.ObjectAttr.storeInOwnDict (.ref x) (.ref C) (.str name tk) name v b)
  (λ fin s'=>match fin with| .done f=>R (.ok f) s'| .again c'=>c'.quiet=Ch/\codeAny (model prog w) A c' R s') (λ e s'=>R (.error e) s') s) :
 codeAny (model prog w) A (.call (.builtin "object.__setattr__") ⟨[.ref x,.str name tk,v],[]⟩) R s:=by
 let SF:=PySem.F.store_object;let(cd,hc,ho):=any_some k.mr;let(r1,r2,r3):=BV (.ref x) ho;let sub:Looks (model prog w) _ (isInstance _ _) Ch:=I.type.andThen<|looks_mroIn X (by unfold mroIn;rw[hc,C24,W1 (by rw[r3];decide),r2]);let hm:Looks (model prog w) _ (mroOf<|.ref C) _:=(looks_clsIn X hc).andThen .now;show codeAny_call_builtin SF.slot.plain SF.entry<|@check_slot (model prog w) _ _ s "object.__setattr__" "object" "__setattr__" (.ref x) [.str name tk,v] [] _ SF.kind SF.split sub (SF.args (.ref x) (.str name tk) v) ?_;rw[osa_eq,refuse_eq];show T0<|T0<|I.type.here<|T0<|hm.here ?_;rw[r1];show v4<|T0<|I.type.here<|T0<|(B82 X ht).here<|T0<|v4<|h _
theorem Kq(k:yr K C)(X:K.In s.e)(hx:s.heap.get? x=AC ox)(kD:ox.cls=.ref C)(hd:ox.dict=At)(rD:∃vs,ox.data=.fields vs)(ht:findIn K (.ref C) name=AC At)
 (h:∀h' dx,s.t<=dx->h'.get? x=AC {ox with dict:=AC dx}->h'.Ns1 dx (λ y=>if y=name then AC v else At)->(∀b o,b≠x->s.heap.get? b=AC o->h'.get? b=AC o)->∀tk,Q () {s with heap:=h',toks:=tk}) :
 Ev (model prog w) A (setAttr (.ref x) name v) Q E s:=by
 let(vs,rD):=rD;let I:InstAt _ x ox C At:=⟨hx,kD,by unfold notCls;rw[rD],by rw[hd];trivial⟩
 show AA3 X I k.sa<|Kr k X I ht λ b=>?_;let(cd,hc,qY):=any_some k.hd;let(oc,odi,oda,yy):=ox;dsimp only at kD hd rD;subst kD hd rD;let hxs:=A16<|A05 hx;let To:(s.heap.push {cls:=.type "dict",data:=.dict #[]}).get? x=AC _:=A03 _ hx;show T0<|v4<|T0<|T0<|B91 hx<|T0<|PySem.W.Looks.here (pc X hc) ?_;rw[qY];show T0<|wpAny_alloc'<|T0<|wpAny_update' To<|v4 ?_;let _w:((s.heap.push {cls:=.type "dict",data:=.dict #[]}).update x λ o=>{cls:=o.cls,dict:=AC s.t,data:=o.data,slots:=o.slots}).get? s.t=AC {cls:=.type "dict",data:=.dict #[]}:=
  (li _ _ _ _ hxs.a).trans<|Heap.get?_push_at rfl rfl
 let X9:((s.heap.push {cls:=.type "dict",data:=.dict #[]}).update x λ o=>{cls:=o.cls,dict:=AC s.t,data:=o.data,slots:=o.slots}).Ns s.heap.objs.size (λ _=>At):=(_,#[],_,_w,rfl,λ e he=>absurd he ∅,λ _=>rfl,)
 show T0<|v4<|T0<|wpAny_nsSet1 (Heap.Ns1.of_empty X9) λ h' J3 Aj=>?_;let(oD,esD,epD,hoD,hdD,hcD):=J3.count (Within.cons name v Within.nil);show T0<|wpAny_lookBehind hoD (by rw[hdD];show pastItsLine_dict<|A15 hcD (by rw[A29,C08,A32];lia))<|v4 ?_;show h h' s.heap.objs.size (P3 _) ((Aj.2 x hxs).trans<|B18 _ To rfl) J3 (λ b o hb q=>(Aj.2 b<|A16<|A05 q).trans<|(li _ _ _ _ hb).trans<|A03 _ q) _
def OO(k:PU K C)(kf:yr K C)(X:K.In s.e)(hx:s.heap.get? x=AC ox)(kD:ox.cls=.ref C)(hd:ox.dict=AC dx)(rD:∃vs,ox.data=.fields vs)(ht:findIn K (.ref C) name=AC At)
 (hn:s.heap.Ns1 dx mA) (hv:mA name=AC v) (hI:handedIn v=Ch) (h:∀tk,Q v {s with toks:=tk}):Ev (model prog w) A (getAttr (.ref x) name b) Q E s:=by
 let(vs,rD):=rD;let(o0,ho0,hl):=vO hn;let I:InstAt s.heap x ox C (AC o0):=⟨hx,kD,by unfold notCls;rw[rD],by rw[hd];show ho0⟩
 let hf:=nw kf.hd ht rfl (by rw[hl,hv]);clear hn hx ho0;let(hh,g,d,t,os):=s;let L0:=I.type (M:=model prog w);let L1:=B82 (M:=model prog w) X k.ga;let L2:=B82 (M:=model prog w) X k.gn;let L3:=looks_find (M:=model prog w) X I hf;let L4:=looks_mroIn (M:=model prog w) X k.mb;let LB:Looks (model prog w) hh (isInstance (.ref x)<|.type "BaseException") Ch:=L0.andThen L4;unfold getAttr getAttrBy;show T0<|wpAny_mkText<|A49<|T0<|L0.at<|T0<|L1.at ?_;dsimp only;rw[show(AD1 "BaseException.__getattribute__"== AD1 "object.__getattribute__")=AT from by decide +kernel,C07,W1 ∅];unfold getAttrByItsOwn hookBefore;show T0 ?_;rw[M2<|show onTheHeap (.ref C)=Ch from rfl];show L2.at ?_;show T0<|wpAny_attempt<|A49 ?_;unfold callGetattribute;rw[W1 (by ext b<;>decide)];unfold boundAndCalled;rw[F.excAttr_ValueError.ga.bind<|.ref x];show T0<|v4 ?_;show A91<|codeAny_call_builtin F.excAttr_ValueError.ga.plain F.entry_bexc_ga ?_;let hk:builtinKind "BaseException.__getattribute__"=AC .slot:=by decide +kernel
 let Ts:splitId "BaseException.__getattribute__"=AC ("BaseException","__getattribute__"):=by decide +kernel
 let QF:=F.args_bexc_ga (.ref x)<|.str name t;erw[checkBuiltinCall,hk,Ts];show T0<|LB.at ?_
 repeat (any_goals (first|assumption|with_reducible show LB.at ?_|wp_step))
 show B91 I.at_<|v4 ?_;rw[I.cls];show T0<|L3.at ?_;dsimp only;show v4 ?_;change Ev _ _ (handedOut v) Q E _;rw[handedOut_of hI];show v4<|h _
end
abbrev Ql(e:δ)(o:μ):HO:=.ext λ h=>h.get? e=AC o
abbrev ZE(d:δ)(fs:U (Str×V)):HO:=.ext λ h=>∃mA,h.Ns1 d mA/\(∀f,jo (fs.lookup f) (mA f))/\Within mA (fs.map (·.1))
def I?(q:h.get? e=AC o):d_ P w H h e (Ql e o):=(q,(_,q,),λ _ _ z k=>k _ z,)
def Ra(q:h.Ns1 d mA)(r:∀f,jo (fs.lookup f) (mA f))(wi:Within mA (fs.map (·.1))):d_ P w H h d (ZE d fs):=
 ⟨⟨mA,q,r,wi⟩,let ⟨o,_,_,e,_⟩:=q;⟨o,e⟩,by rintro _ _ ⟨mA,q,r⟩ k;show(mA,q.at k,r,)⟩
section
variable{O:St}
def HM(I:Inv X B O H s)(hn:H a=At)(h0:X.s₀.heap.get? a=At)(hl:a≠X.J.i)(hc:∀x c,X.env.cells.lookup x=AC c->c≠a)(hp:∀p∈X.pn++B,p.1≠a)(ok:d_ X.prog X.w (upd H a o) s.heap a o):Inv X B O (upd H a o) s:=by
 let ne:∀b u,H b=AC u->b≠a:=λ b u q=>aY q hn;show Di I (λ b hb=>by rw[A11.mp hb];show(h0,hl,hc,hp,)) (λ b o _ _ _ q _=>q) (λ b o _ _ _ q _=>(_,q,))
  (λ b o hb q n=>by rw[av λ z=>hb<|A11.mpr z];show n) (λ b o _ q=>(o,q,)) (λ b xs q=>by rw[av<|ne b _ q];show q) (λ b o u q=>by rw[av<|ne b _ q];show q) (λ b u _ q=>by rw[av<|ne b _ q];show q) (λ m hm=>hm) (λ b u q=>?_) I.bare
 by_cases hb:b=a
 .subst hb;rw[aE]at q;ext q;show ok
 .rw[av hb]at q;show(I.bO b u q).n? (λ c v _ z=>z) (λ c z=>by rw[av<|ne c _ z];show z) (λ c xs z=>by rw[av<|ne c _ z];show z) λ c v _ z=>by rw[av<|ne c _ z];show z
def _J{a:δ}(I:Inv X B O H s)(h:s.t<=a):H a=At/\X.s₀.heap.get? a=At/\a≠X.J.i/\(∀x c,X.env.cells.lookup x=AC c->c≠a)/\∀p∈X.pn++B,p.1≠a:=
 ⟨I.bO.fresh h,B56<|A15 I.sz h,A48<|A18 I.lt h,λ x c e z=>by let(w',o,q,_):=I.cell x c e;show absurd (A05 q)<|A86.mpr<|z▸h,λ p hp z=>absurd (A05 (I.pin p hp).1)<|A86.mpr<|z▸h⟩
def tF0(C:δ)(j i:Nat)(f:Str):TS:=λ D O H=>∃e oe v,O[j]?=AC (AC<|.ref e)/\O[i]?=AC (AC v)/\H e=AC (Ql e oe)/\oe.cls=.ref C/\oe.dict=At/\(∃ws,oe.data=.fields ws) /\
 ∀dx,H dx=At->dx≠e->D.nx O (upd (upd H e<|Ql e {oe with dict:=AC dx}) dx<|ZE dx [(f,v)])
def WG(k:yr X.K C)(ht:findIn X.K (.ref C) f=AC At)(ho:PE X o (jS j))(hv:PE X value (jS i))(hs:swapsWith value (AC<|.Attribute o f pos') pos.line X.J=pure AT):PS X (.Assign [.Attribute o f pos'] value pos) (tF0 C j i f):=by
 rintro B s O H D I ⟨e,oe,v,hj,hi,he,kD,hd,rD,q⟩;show C54 (b_ (hv B s O H (λ y H1=>y=v/\H1=H) I ⟨v,hi,rfl,rfl⟩) λ u s1 ⟨y,H1,I1,ry,q1,q2⟩=>b_ (ho B s1 O H1 (λ y' H2=>y'=.ref e/\H2=H) I1 ⟨_,by rw[hj],rfl,q2⟩) ?_) hs;rintro ov s2 ⟨y',H2,I2,rx,q3,q4⟩;subst q1 q3 q4;obtain rfl:ov=Value.ref e:=rx;let hx:=(I2.bO e _ he).1;show Kq k I2.lP hx kD hd rD ht λ h' dx QC Hl LV kp tk=>?_;let J:Inv X B O _ {s2 with heap:=h',toks:=tk}:=I2.write (by rw[he];show IR) (.inl rfl) (λ b o hb z=>kp b o hb z) ⟨_,Hl⟩<|I? Hl;let ne:=A48<|A18 (A05 hx) QC;let(f1,f2,f3,f4,f5):=_J I2 QC;show(O,_,HM J (by rw[av ne];show f1) f2 f3 f4 f5 (Ra (fs:=[(f,_)]) LV (λ g=>by
  by_cases z:g=f
  .subst z;erw[A62,A60,A35];show ry
  .simp only[A62,A51.mpr z,List.lookup_nil,W1 z];trivial)<|Within.cons f u Within.nil),q dx f1 ne,)
end
def ZN(C:δ)(fs:U Str):Sp:=λ vs H Q _=>∃e oe as,vs=.ref e::as/\as.n=fs.n/\H e=AC (Ql e oe)/\oe.cls=.ref C/\oe.dict=At/\(∃ws,oe.data=.fields ws) /\
 ∀dx,H dx=At->dx≠e->Q .non (upd (upd H e<|Ql e {oe with dict:=AC dx}) dx<|ZE dx<|fs.zip as)
def C9:upd (upd H a o) a o'=upd H a o':=funext λ b=>by
 by_cases h:b=a
 .subst h;rw[aE,aE]
 .rw[av h,av h,av h]
section
variable{K:Frag}
def XO{st:η}(k:yr K C)(ht:findIn K (.ref C) a=AC At)(F:Bg K "__init__" qual st f fd)(hb:aC st=[.Assign [.Attribute (.Name "self" p1) a p2] (.Name a p3) p4])
 (S:aW ["self",a] ["self",a] (aa st)) (hv:∀x∈(["self",a]:U Str),Lp (aa st) x) (hd:Nd a) (hc:(a==("__classdict__"))=AT):ee P w K mg base hV 1 f fd ["self",a] (ZN C [a]):=by
 let(oc,od,kV,doc,pm,an,a5,ct,yy,rfl,lk,rG):=F.ex;show Aq lk rG S (by rintro vs H Q E ⟨e,oe,as,h,hl,_⟩;subst h;simp[hl]) ?_;rintro A outer s H vs Q E hr ⟨e,oe,as,h,hl,he,h1,h2,h3,q⟩;rw[hb];show(_,oq<|WG (j:=0) (i:=1) k ht (sH rfl (hv _<|.head _) ∅ ∅) (sH rfl (hv _<|.tail _<|.head _) hd hc) rfl,?_,);subst h;cases as with|nil=>ext hl|cons v as=>obtain rfl:=A97 (show as.n=0 by calc hl);show(e,oe,v,rfl,rfl,he,h1,h2,h3,q,)
end
def Mc(K:Frag)(C:δ):Bool:=UJ K C λ tl _=>tailIn K VX tl
def Lx(C:δ)(h:ν):Prop:=U9 C h λ tl _=>OwnTail h VX tl
def ρ5{K:Frag}(X:K.In h)(q:Mc K C=Ch):Lx C h:=clB X q λ _ _ r=>tail_of_in X r
section
variable{K:Frag}
def GD{os:OsState}{rest:U ζ}(X:K.In h)(q:Lx C h)(hi:findIn K (.ref C) "__init__"=AC (AC<|.ref fI))(hf:typeIn K (.ref fI)=AC (.type "function"))(iI:rest.n<=sizeLine)
 (hq:∀h' e,cr h h' e (.ref C) rest->Ev (model prog w) A (call (.ref fI)<|.ref e::rest) (λ r s'=>r=.none/\Q (.done<|.ret<|.ref e) s') E ⟨h',g,d,t,os⟩) :
 Ev (model prog w) A (Builtin.«type.__call__» ⟨.ref C::rest,[]⟩) Q E ⟨h,g,d,t,os⟩:=by
 let(tl,ns,nm,qn,bs,hd,sn,sub,ab,col,dd,s0,s1,s2,s3,s5,hC,T):=q;let F:=C70
 repeat (first|with_reducible show B04 hC ?_|with_reducible show wpAny_madeBy_exc hC ?_|wp_step)
 show codeAny_call_builtin_code (Code.quiet_builtin _ F.quiet)<|wpAny_check_new_subT F T hC<|codeAny_exc_new_subT F T hC ?_ iI;change Ev _ _ _ _ _ _;let kp:∀b o,h.get? b=AC o->((h.push {cls:=.type "tuple",data:=.seq rest.q}).push {cls:=.ref C,data:=.fields #[.ref h.Z,.none,.none,.none,.bool AT,.none]}).get? b=AC o:=λ b o z=>A03 _<|A03 _ z;let Vz:=kp _ _ hC;let X1:=X.keeps kp;let Yc:((h.push {cls:=.type "tuple",data:=.seq rest.q}).push {cls:=.ref C,data:=.fields #[.ref h.Z,.none,.none,.none,.bool AT,.none]}).get? (h.Z+1)=AC {cls:=.ref C,data:=.fields #[.ref h.Z,.none,.none,.none,.bool AT,.none]}:=by heap_get
 let hcC:(Value.ref C::tl).contains (.ref C)=Ch:=by simp
 unfold isInstance
 repeat (first|with_reducible show B04 Yc ?_|(with_reducible show C31 Vz ?_;rw[hcC])|wp_step)
 change Ev _ _ (typeLookup (.ref C) _) _ _ _;show(B82 (M:=model prog w) X1 hi).at ?_;show A49<|T0<|(bind_fn (M:=model prog w) X1 _ hf).at ?_;show T0<|A22 (hq _ (h.Z+1) ⟨kp,B56<|A58 _,h.Z,Yc,B56<|P3 _,A03 _<|Heap.get?_push_at rfl rfl⟩) (λ r s' hr=>?_) λ _ _ x=>x;let(rfl,hQ):=hr
 wp_walk
 show hQ
theorem GG{rest:U ζ}(X:K.In s.e)(q:Lx C s.e)(hi:findIn K (.ref C) "__init__"=AC (AC<|.ref fI))(hf:typeIn K (.ref fI)=AC (.type "function"))(iI:rest.n<=sizeLine)
 (hq:∀h' e,cr s.heap h' e (.ref C) rest->Ev (model prog w) (A.under<|.builtin "type.__call__" ⟨.ref C::rest,[]⟩) (call (.ref fI)<|.ref e::rest) (λ r s'=>r=.none/\Q (.ref e) s') E {s with heap:=h'}) :
 Ev (model prog w) A (call (.ref C) rest) Q E s:=by
 let(h,g,d,t,os):=s;dsimp only at X q hq;let(tl,ns,nm,qn,bs,hd,sn,sub,ab,col,dd,s0,s1,s2,s3,s5,hC,T):=id q;let f1:=tc_lookup;let f2:=tc_bind<|.ref C;let hT:(⟨h,g,d,t,os⟩:θ).TypeIs (.ref C) "type":=(_,hC,rfl,)
 show A91<|codeAny_of_tree ?_
 repeat (any_goals (first|assumption|with_reducible show B04 hC ?_|wp_step))
 show(rfl,codeAny_call_builtin_at (Code.quiet_builtin _ (by decide +kernel)) entry_typeCall<|wpAny_check_type_call_sub hC<|GD X q hi hf iI λ h' e hm=>hq h' e hm,)
end
end ZS
namespace Z
def nR(c:U Nat)(fs:U (U Nat))(as:AF)(Y:Env):ε XN:=match as Y with
|.ok ds=>if ds.n=fs.n then AC (c,fs.zip ds)else At
|.bad=>At
def _N(i:Nat)(cs f:U Nat)(Y:Env):Res D:=match Y[i]? with
| some<|some<|.exc c=>if c.1=cs then(match c.2.lookup f with
 |some d=>.ok d
 | none=>.bad)else .bad
|_=>.bad
end Z
namespace ZS
open L2 PySem.W
section
variable{O:St}
def Mp(I:Inv X B O H s)(ha:H a=AC (.ext φ)):Inv X B O (λ b=>if b=a then At else H b) s:=by
 let ne:∀b u,H b=AC u->(∀φ,u≠.ext φ)->b≠a:=λ b u q z e=>by subst e;rw[ha]at q;ext q;show z _ rfl
 let go:∀b u,H b=AC u->(∀φ,u≠.ext φ)->(λ b=>if b=a then At else H b) b=AC u:=λ b u q z=>by change(if b=a then At else H b)=_;rw[W1<|ne b u q z];show q
 show Di (ch:=[]) I (λ b hb=>nomatch hb) (λ b o _ _ _ q _=>q) (λ b o _ _ _ q _=>(_,q,))
  (λ b o _ q n=>by rw[n];split<;>rfl) (λ b o _ q=>(o,q,)) (λ b xs q=>go b _ q λ _ z=>nomatch z) (λ b o u q=>go b _ q λ _ z=>nomatch z) (λ b u p q=>go b _ q λ φ z=>by subst z;show p.elim) (λ m hm=>hm) (λ b u q=>?_) I.bare
 let q:=q;split at q
 .ext q
 .exact(I.bO b u q).n? (λ c v _ z=>z) (λ c z=>go c _ z λ _ y=>nomatch y) (λ c xs z=>go c _ z λ _ y=>nomatch y) λ c v p z=>go c _ z λ φ y=>by subst y;show p.elim
def MR(hex:X.ex=[])(q:Lx C s.e)(hi:findIn X.K (.ref C) "__init__"=AC (AC<|.ref f))(hf:isFn X.K (.ref f)=Ch)(F:ee X.prog X.w X.K X.mg X.base hV k f fd ("self":: fs) (ZN C fs))
 (hb:Binds X.K fd ("self":: fs) []) (hr:bu (k+1) X.A) (I:Inv X B O H s) (r:Vals vs us) (hl:vs.n=fs.n) (hz:us.n<=100) :
 Ev (model X.prog X.w) X.A (call (.ref C) us) (λ v s'=>∃e dx od H',v=.ref e/\Inv X B O H' s'/\az H H'/\H' dx=AC (.dW od<|.xd<|fs.zip vs)/\PJ X B H' s' e C (AC dx)/\∃t,s'.heap.get? e=AC {cls:=.ref C,dict:=AC dx,data:=.fields #[.ref t,.none,.none,.none,.bool AT,.none]}) X.xe s:=by
 show GG I.lP q hi (A41.mp hf) (by rw[A32];lia) λ h' e hm=>?_;let(J,th):=Mu hex I hm;let(oe,ws,he,hc,hd,rD,_):=th.ex;let(tt,htt,_,_):=hm.there;let J2:=HM J th.off.free th.off.new (th.off.loc J) (th.off.cell J) th.off.pin<|I? he;let Gs:ZN C fs (.ref e::vs) (upd H e<|Ql e oe) (λ v H3=>v=.non/\∃dx,H dx=At/\dx≠e/\H3=upd (upd H e<|Ql e {oe with dict:=AC dx}) dx (ZE dx<|fs.zip vs)) (λ _ _ _=>False):=
  ⟨e,oe,vs,rfl,hl,aE,hc,hd,⟨ws,rD⟩,λ dx hn ne=>⟨rfl,dx,by rw[av ne]at hn;show hn,ne,by rw[C9]⟩⟩
 let r2:Vals (V.ref e::vs) (Value.ref e::us):=.cons rfl r;let Hs:(Value.ref e::us++[]).length=("self":: fs:U Str).length:=by simp[<-r.n,hl]
 show A91<|A92 (F.run _ X.stack _ _ ⟨Value.ref e::us,[]⟩ (Value.ref e::us) _ _ _ (hr.make C us []) (J2.OR.make C us []) (by let:=hb _ (Value.ref e::us) J2.lP Hs;calc this) r2 Gs) λ rr s' hq=>?_;cases rr with
 |error ev=>show hq.elim
 |ok fl=>
  cases fl with
  |ret u=>
   let(v,H3,I3,rv,ev,dx,hn,ne,rfl):=J2.after hq;subst ev;obtain⟨⟨mA,n1,rr,_⟩,⟨od,god⟩,_⟩:=(I3.bO dx _ aE)
   let hx:=(show d_ X.prog X.w _ s'.heap e (Ql e {oe with dict:=AC dx})from I3.bO e _ (by rw[av<|A10 ne,aE])).1;let I4:=I3.write (o:=.dW od (.xd<|fs.zip vs)) (t':=s'.toks) (h':=s'.e) (by rw[aE];show IR) (.inl rfl) (λ b o _ z=>z) ⟨_,god⟩ ⟨god,mA,n1,rr⟩;rw[C9]at I4;let I5:=Mp (a:=e) I4 (by rw[av<|A10 ne,aE]);obtain rfl:=f8 (he.symm.trans htt);ext rD;show(rv,e,dx,od,_,rfl,I5,λ b o z=>?_,?_,((?_,th.off.new,th.off.pin,_,_,hx,rfl,),_,_,hx,rfl,rfl,rfl,.inl rfl,),tt,hx,)
   .show(if b=e then At else upd _ dx _ b)=_;rw[W1<|aY z th.off.free,av<|aY z hn,av<|aY z th.off.free];show z
   .skip
    rw[W1 ne,aE]
   .skip
    rw[M2 rfl]
  |next=>show hq.elim
  |brk=>show hq.elim
  |cont=>show hq.elim
def RH(hh:A.handled=At)
 (h:Ev M A x (λ v s₁=>∃e dx t,v=.ref e/\Lx C s₁.e/\s₁.heap.get? e=AC {cls:=.ref C,dict:=dx,data:=.fields #[.ref t,.none,.none,.none,.bool AT,.none]}/\E (.ref e) s₁) E s):Ev M A (raiseStmt env (AC x) At) Q E s:=by
 show T0<|A22 h (λ v s₁ h₁=>?_) λ _ _ x=>x;let(e,dx,t,rfl,(tl,ns,nm,qn,bs,hd,sn,sub,ab,col,dd,s0,s1,s2,s3,s5,hC,T),he,hE):=h₁;let hcB:(Value.ref C::tl).contains (.type "BaseException")=Ch:=by rw[C30,T.hasType C70.hasBase,B81]
 let(hp,g,d,tk,os):=s₁
 repeat (first|with_reducible show B04 he ?_|with_reducible show B04 hC ?_|(with_reducible show C31 hC ?_;rw[hcB])|wp_step)
 show wpAny_raiseNew_none hh hE
end
structure U'(P:Program)(w:World)(K:Frag)(mg:Str->Option Value)(base:Heap)(C:Addr)(k:Nat)(fz:List (List Nat)):Prop where
 ex:∃f fd,Mc K C=Ch/\keepIn K (.ref C)=Ch/\findIn K (.ref C) "__init__"=AC (AC<|.ref f)/\isFn K (.ref f)=Ch/\ee P w K mg base hV k f fd ("self":: fz.map λ f=>⟨f.q⟩) (ZN C<|fz.map λ f=>⟨f.q⟩)/\Binds K fd ("self":: fz.map λ f=>⟨f.q⟩) []
def sJ{K:Frag}:∀{fz:U (U Nat)}{ds}{vs},ds.n=fz.n->au K H ds vs->Paired (λ(p)(q)=>p.1=⟨q.1.toArray⟩/\Den K H q.2 p.2) ((fz.map λ f=>(⟨f.q⟩:Str)).zip vs) (fz.zip ds)
|[],[],vs,_,d=>.nil
|f::fz,d::ds,vs,h,dd=>by let(v,r,rfl,d1,d2):=dd;show .cons ⟨rfl,d1⟩<|sJ (by calc h) d2
section
variable{H0:Hp}{pos:Pos}
theorem ZQ.Fe{np gF:Pos}(hc:X.calm=Ch)(hex:X.ex=[])(hg:Gl X x)(hcx:(⟨c.q⟩)=x)(xc:XC X.K c C)(J:U' X.prog X.w X.K X.mg X.base C k fz)(hr:bu (k+1) X.A)(ha:ZQ.QA X.gO (e::es) ar)(hfz:fz≠[])(LW:fz.n<=100)
 (ie:Nd x:=by kernel_rfl) (he:Se e es X.J:=by rfl) (fC:Pn gF es X.J:=by rfl) :
 ZQ.Zn X H0 (.Raise (AC<|.Call (.Name x np) (e::es) [] gF) At pos) (Z.nR c fz ar):=⟨by
 let(f,fd,xj,hk,hi,hf,F,hb):=J.ex;intro B s O H D I h;let(Y,c',rs,ec,kw):=h;unfold Z.nR at ec;split at ec
 .rename_i ds ed;split at ec
  .rename_i hl;ext ec;let hm:X.mg x=AC (.ref C):=by let:=A31 I.lP (I.mod.glob.keeps I.bk) xc.1;rw[hcx]at this;show this
   rw[arm_exec_Raise];show T0<|B39<|RH (C:=C) (I.ok.hd hc) ?_;show T0<|A22 (A93<|rA I hg hm ?_ ie) (λ v s₃ h₃=>T0<|B39<|v4 h₃) λ _ _ x=>x;show B29 I.ok.mod.Qw hk (b_ (PA.gO ha.p gF B s O H (λ vs H1=>az H H1/\au X.K H1 ds vs) I ⟨Y,ds,rs.re,ed,λ vs H1 s1 d1=>(s1,d1,)⟩) λ us s1 ⟨vs,H1,I1,r,sm,d1⟩=>(I1.lP,?_,)) he fC;let _o:vs.n=fz.n:=by rw[<-hl];show d1.n
   show b_ (MR hex (ρ5 I1.lP xj) hi hf F hb hr I1 r (by rw[_o,A08]) (us:=us) (by rw[<-r.n,_o];show LW)) ?_;rintro v s2 ⟨e2,dx,od,H2,hv,I2,qS,QC,th,t,LU⟩;show(e2,AC dx,t,hv,ρ5 I2.lP xj,LU,kw B O H2 s2 e2 C (AC dx) (rs.same.trans<|sm.trans qS) ⟨xc,by
    show(?_,od,_,QC,sJ hl<|d1.up qS,);cases fz with
    |nil=>show absurd rfl hfz
    |cons a l=>cases ds with
     |nil=>ext hl
     |cons b m=>show λ z=>nomatch z⟩ I2 th,)
  .ext ec
 .ext ec⟩
end
def U8(K:Frag)(f:Str)(c:U Nat):Prop:=∃C,nsIn K mainGlobals ⟨c.q⟩=AC (AC<|.ref C)/\PU K C/\yr K C/\findIn K (.ref C) f=AC At
def uD{K:Frag}:∀{aQ}{fs},Paired (λ(p:Str×V)(q:U Nat×Z.D)=>p.1=⟨q.1.toArray⟩/\Den K H q.2 p.2) aQ fs->fs.lookup f=AC d->∃v,aQ.lookup ⟨f.q⟩=AC v/\Den K H d v:=by
 intro aQ fs p h
 induction p with
 |nil=>ext h
 |@cons a b aQ fs q r ih=>
  let(g,v):=a;let(g',d'):=b;let(h1,h2):=q;dsimp only at h1 h2;subst h1;rw[A62]at h;by_cases z:f=g'
  .subst z;rw[A60]at h;ext h;show⟨v,by rw[A62,A60],h2⟩
  .rw[A51.mpr z]at h;let(u,e1,e2):=ih h;show⟨u,by rw[A62,A51.mpr λ y=>z (by injection y with y;calc A14 UV y)];show e1,e2⟩
def ZQ.ρ2(ha:PE X a (jS i))(hf:(⟨fz.q⟩)=f)(hk:U8 X.K f cs)(hb:attributeBase a f X.env (eval a X.J)=eval a X.J:=by rfl):ZQ.QE X (.Attribute a f pos) (Z._N i cs fz):=⟨by
 rintro B s O H Q I ⟨Y,d,r,e,k⟩;unfold Z._N at e;split at e
 .rename_i c hi;split at e
  .rename_i hc;split at e
   .rename_i d' hl;ext e;let(v,hv,p,o,u,C,rfl,h1,h2,h3,h4):=r.get i _ hi;let(C',n1,k1,k2,k3):=hk;let e0:=h4.1.1;rw[hc]at e0;cases e0.symm.trans n1;let xd:=h4.2;cases Ht:o.dict with
    |none=>rw[Ht]at xd;let xd:=xd;rw[xd]at hl;ext hl
    |some dx=>
     rw[Ht]at xd;let(_,od,aQ,q,pr):=xd;let(v,Hm,dv):=uD pr hl;show E3 hb<|b_ (ha B s O H (λ y H1=>y=.ref p/\H1=H) I ⟨_,hv,rfl,rfl⟩) ?_;rintro u' s1 ⟨x,H1,I1,rx,q1,q2⟩;subst q1 q2;obtain rfl:u'=Value.ref p:=rx;obtain⟨g1,_⟩:=(I1.bO p _ h1)
     obtain⟨g2,mA,n2,rr⟩:=(I1.bO dx _ q)
     let(w1,hu,ru):=jo.some_of (v:=v) (o:=mA f) (by rw[<-Hm,hf];show rr f);show OO k1 k2 I1.lP g1 h2 Ht h3 k3 n2 hu (vU ru) λ tk=>(v,_,I1.tok _,ru,k v _ (az.refl _) dv,)
   .ext e
  .ext e
 .ext e⟩
end ZS
namespace Z
def dM{β:Type}(t:D)(f:Int->Int->U (Sum Int<|U Nat)->U D->β)(b:β):β:=match t with
|.dct (.inl a::.inl k::ks) vs=>f a k ks vs
|_=>b
def K!(t:D):(∃a k ks vs,t=.dct (.inl a::.inl k::ks) vs)\/∀{β:Type}(f)(b:β),dM t f b=b:=by
 cases t with
 |dct ks vs=>
  cases ks with
  |nil=>show .inr λ _ _=>rfl
  |cons a ks=>
   cases a with
   |inr _=>show .inr λ _ _=>rfl
   |inl a=>
    cases ks with
    |nil=>show .inr λ _ _=>rfl
    |cons k ks=>
     cases k with
     |inr _=>show .inr λ _ _=>rfl
     |inl k=>show .inl ⟨a,k,ks,vs,rfl⟩
 |_=>show .inr λ _ _=>rfl
def Ru{β:Type}(t:ε (ε L))(f:Int->Int->U (Sum Int<|U Nat)->U D->β)(b:β):β:=match t with
|some<|some<|.bor d=>dM d f b
|_=>b
def jr(t:ε (ε L)):(∃a k ks vs,t=AC (AC<|.bor<|.dct (.inl a::.inl k::ks) vs))\/∀{β:Type}(f)(b:β),Ru t f b=b:=by
 cases t with
 |none=>show .inr λ _ _=>rfl
 |some t=>
  cases t with
  |none=>show .inr λ _ _=>rfl
  |some l=>
   cases l with
   |bor d=>
    rcases K! d with⟨a,k,ks,vs,rfl⟩|h
    .exact .inl ⟨a,k,ks,vs,rfl⟩
    .exact .inr h
   |_=>show .inr λ _ _=>rfl
@[simp] def adz{β:Type}(f)(b:β):Ru (AC<|some<|.bor<|.dct (.inl a::.inl k::ks) vs) f b=f a k ks vs:=rfl
def eM(kd i:Nat)(Y:Env):Res D:=Ru Y[i]? (λ a k ks vs=>if k=kd then .ok (.dct (.inl a::.inl k::ks) vs)else .bad) .bad
def g!:U (Sum Int<|U Nat)->U D->U Nat->Res D
|.inr k::ks,v::vs,f=>if k=f then .ok v else g! ks vs f
|_,_,_=>.bad
def fP(f:U Nat):D->Res D
|.dct (.inl _::.inl _::ks) vs=>g! ks vs f
|_=>.bad
def QR(bs:U Bool)(n:Nat)(b:XF)(ds:U D):ε XN:=if ds.n=bs.n then b (startB n bs ds)else At
def YA(bs:U Bool)(n:Nat)(b:XF)(ds:U D)(h:ds.n=bs.n):QR bs n b ds=b (startB n bs ds):=M2 h
set_option genInjectivity true in
inductive vb where
|nx (Y:Env)
|rt (d:D) (ts:List D)
abbrev SM:=Env->Res vb
def ZM:ε (ε L)->D
|some<|some<|.bor d=>d
|_=>.non
def g0(ms:U Nat)(Y:Env):U D:=ms.map λ i=>ZM Y[i]?
def xG:ε L->Prop
|some<|.bor _=>True
|_=>False
def mZ(ms:U Nat):Nat->Env->Prop
|_,[]=>True
|k,x::r=>(xG x->k∈ms)/\mZ ms (k+1) r
def dB(ms:U Nat)(Y Y':Env):Prop:=(∀i∈ms,Y'[i]?=Y[i]?)/\mZ ms 0 Y'
def bz(ms:U Nat)(g:SF)(Y:Env):Res vb:=(g Y).bind λ fl=>match fl with
|.nx Y'=>guard (dB ms Y Y')<|.ok<|.nx Y'
|.rt d=>.ok<|.rt d<|g0 ms Y
|_=>.bad
def bQ(a b:SM)(Y:Env):Res vb:=(a Y).bind λ fl=>match fl with
|.nx Y'=>b Y'
|o=>.ok o
noncomputable def eO(f:U Nat)(d:D):U (Sum Int<|U Nat)->U D->U (Sum Int<|U Nat)×U D
|.inr k::ks,v::vs=>if k=f then(.inr k::ks,d::vs)else(.inr k::(eO f d ks vs).1,v::(eO f d ks vs).2)
|_,_=>([.inr f],[d])
def su(f:U Nat)(x:D)(t:ε (ε L)):Res L:=Ru t (λ a k ks vs=>guard (k=0/\(eO f x ks vs).1=(c9.take (eO f x ks vs).1.length).map .inr)<|.ok<|.bor<|.dct (.inl a::.inl k::(eO f x ks vs).1) (eO f x ks vs).2) .bad
def ma(i:Nat)(f:U Nat)(e:EF)(Y:Env):Res vb:=(e Y).bind λ d=>(su f d Y[i]?).bind λ l=>.ok<|.nx<|Y.set i<|some l
def Ar(ms:U Nat)(bs:U Bool)(n:Nat)(b:SM)(ds:U D):Res (D×U D):=if ds.n=bs.n then(match b (startB n bs ds)with
|.ok<|.rt d ts=>.ok (d,ts)
|.ok<|.nx Y=>.ok (.non,g0 ms Y)
| _=>.bad)else .bad
def qC(ms:U Nat)(bs:U Bool)(n:Nat)(b:SM)(ds:U D)(h:ds.n=bs.n):Ar ms bs n b ds=(match b (startB n bs ds)with
|.ok<|.rt d ts=>.ok (d,ts)
|.ok<|.nx Y=>.ok (.non,g0 ms Y)
| _=>.bad):=M2 h
open Classical in
def sS(m:U D->Res (D×U D))(ds:U D):Res (U D):=if h:∃fs,∀x:Nat,m (eK x 0 [] []::ds)=.ok (.non,[eK x 0 c9 fs])then .ok h.choose else .bad
def JD(h:sS m ds=.ok fs):∀x,m (eK x 0 [] []::ds)=.ok (.non,[eK x 0 c9 fs]):=by
 unfold sS at h;split at h
 .rename_i q;ext h;show q.choose_spec
 .ext h
def JE(h:∀x,m (eK x 0 [] []::ds)=.ok (.non,[eK x 0 c9 fs])):sS m ds=.ok fs:=by
 let q:∃fs,∀x,m (eK x 0 [] []::ds)=.ok (.non,[eK x 0 c9 fs]):=(fs,h,)
 unfold sS;rw[A96 q];let:=(q.choose_spec 0).symm.trans<|h 0;erw[Res.ok.injEq,C32,true_and,B00,B43,eK,D.dct.injEq]at this;show A14 _ this
open Classical in
def Ln(f:Nat->Res Fl):Res Fl:=if h:∃d,∀x,f x=.ok (.rt d)then .ok (.rt h.choose)else .bad
def PB(h:Ln f=.ok fl):∃d,fl=.rt d/\∀x,f x=.ok (.rt d):=by
 unfold Ln at h;split at h
 .rename_i q;ext h;show(_,rfl,q.choose_spec,)
 .ext h
def PD(h:∀x,f x=.ok (.rt d)):Ln f=.ok (.rt d):=by
 let q:∃d,∀x,f x=.ok (.rt d):=(d,h,)
 unfold Ln;rw[A96 q];let:=(q.choose_spec 0).symm.trans<|h 0;erw[Res.ok.injEq,Fl.rt.injEq]at this;show A14 (λ d=>Res.ok _) this
abbrev VM:=Env->Res (D×Env)
def dR:U Nat->U D->Env->Env
|i::is,t::ts,Y=>dR is ts<|Y.set i<|some<|.bor t
|_,_,Y=>Y
def i8:Nat->U Bool->U Nat
|_,[]=>[]
|k,Ch::bs=>k::i8 (k+1) bs
|k,AT::bs=>i8 (k+1) bs
abbrev i1:=i8 0 [Ch,AT]
abbrev i2:=i8 0 [Ch,AT,AT,Ch,AT]
abbrev i3:=i8 0 [Ch,AT,AT,Ch,AT,AT]
def BH:U Bool->U D->U D
|true::bs,d::ds=>d::BH bs ds
|false::bs,_::ds=>BH bs ds
|_,_=>[]
def gu(fn:U D->Res (D×U D))(bs:U Bool)(is:U Nat)(ar:AF)(Y:Env):Res (D×Env):=(ar Y).bind λ ds=>guard (BH bs ds=g0 is Y)<|(fn ds).bind λ r=>guard (r.2.length=is.n)<|.ok (r.1,dR is r.2 Y)
def NT(i:Nat)(e:VM)(Y:Env):Res vb:=(e Y).bind λ r=>.ok<|.nx<|r.2.set i<|some<|.val r.1
def jA(e:VM)(Y:Env):Res vb:=(e Y).bind λ r=>.ok<|.nx r.2
def dU(Y:Env):Res vb:=.ok<|.nx Y
abbrev Zm:=Env->Res (Bool×Env)
def uJ(t:TF)(Y:Env):Res (Bool×Env):=(t Y).bind λ b=>.ok (b,Y)
def Xm(e:VM)(Y:Env):Res (Bool×Env):=(e Y).bind λ x=>match x.1 with
|.bl c=>.ok (c,x.2)
|_=>.bad
def zS(t:Zm)(Y:Env):Res (Bool×Env):=(t Y).bind λ x=>.ok (!x.1,x.2)
def ic(t:Zm)(a b:SM)(Y:Env):Res vb:=(t Y).bind λ c=>if c.1 then a c.2 else b c.2
def w!(i:Nat)(m:U D->Res (D×U D))(a:EF)(r:SM)(Y:Env):Res Fl:=(a Y).bind λ d=>(sS m [d]).bind λ fs=>guard (mZ [i] 0<|Y.set i<|some<|.bor<|.dct [] []) (Ln λ x=>(r<|Y.set i<|some<|.bor<|eK x 0 c9 fs).bind λ fl=>match fl with
|.rt d _=>.ok<|.rt d
| _=>.bad)
def tJ(ms:U Nat)(g:GF)(b:SM):U D->Env->Res vb
|[],Y=>.ok<|.nx Y
| d::r,Y=>(g d Y).bind λ Y1=>guard (dB ms Y Y1) ((b Y1).bind λ fl=>match fl with
 |.nx Y'=>tJ ms g b r Y'
 | .rt d ts=>.ok<|.rt d ts)
def SW(ms:U Nat)(it:LF)(g:GF)(b:SM)(Y:Env):Res vb:=(it Y).bind λ ds=>tJ ms g b ds Y
end Z
namespace ZS
open L2 PySem.W
def Lq(K:Da)(H:Hp)(kd:Nat)(d:Z.D)(v:V):Prop:=∃a ks ds u,d=Z.eK a kd ks ds/\v=.ref a/\H a=AC u/\Be K H kd ks ds u
def Lq.b{K:Da}(h:Lq K H kd d v):i! K H d v:=by let(a,ks,ds,u,h):=h;show .inr ⟨a,kd,ks,ds,u,h⟩
def Lq.up{K:Da}(h:Lq K H kd d v)(e:az H H'):Lq K H' kd d v:=by let(a,ks,ds,u,e1,e2,q,t):=h;show(a,ks,ds,u,e1,e2,e _ _ q,t.ups<|i_ e,)
def tZm(K:Da)(kd:Nat)(f:Z.EF):TE:=λ O H Q=>∃Y d,RE K H O Y/\f Y=.ok d/\∀v H',az H H'->Lq K H' kd d v->Q v H'
abbrev DM(X:Cx)(kd:Nat)(e:ι)(f:Z.EF):Prop:=PE X e<|tZm X.K kd f
structure ZQ.QM(X:Cx)(kd:Nat)(e:Expr)(f:Z.EF):Prop where p:DM X kd e f
def nA{p:Prop}{α:Type}{d:α}(h:Z.Res.bad=.ok d):p:=by ext h
def YQ(h:Z.eM kd i Y=.ok d):∃a ks vs,Y[i]?=AC (AC<|.bor d)/\d=.dct (.inl a::.inl (kd)::ks) vs:=by
 unfold Z.eM at h;rcases Z.jr Y[i]? with⟨a,k,ks,vs,e⟩|hb
 .rw[e]at h;by_cases hk:k=kd
  .subst hk;let h:=(M2 rfl).symm.trans h;ext h;show(a,ks,vs,e,rfl,)
  .exact nA<|(W1 hk).symm.trans h
 .rw[hb]at h;show nA h
def K0{K:Da}{kd:Nat}(h:i! K H (.dct (.inl a::.inl (kd)::ks) vs) v):Lq K H kd (.dct (.inl a::.inl (kd)::ks) vs) v:=by
 let(a',kd',ks',ds,u,e1,e2,q,t):=h.eK;let:kd'=kd:=by
  injection e1 with e1 _
  injection e1 with _ e1
  injection e1 with e1 _
  injection e1 with e1
  show(B23 e1).symm
 subst this;show(a',ks',ds,u,e1,e2,q,t,)
def ZQ.mh(h:PE X e (jS i)):ZQ.QM X kd e (Z.eM kd i):=⟨PE.imp h <|by rintro O H Q ⟨Y,d,r,e,k⟩;let(a,ks,vs,hi,rfl):=YQ e;let(v,h1,h2):=r.get i _ hi;show(v,h1,k v H (az.refl H)<|K0 h2,)⟩
def ZQ.jJ(ha:ZQ.QM X kd e f)(hr:ZQ.Ls X es bs g)(hs:Se e es X.J:=by rfl):ZQ.Ls X (e::es) (Ch::bs) (Z.ai f g):=⟨PA.imp (bw ha.p hr.p hs) <|by rintro O H Q ⟨Y,ds,r,e,k⟩;let(x,ea,e):=ac e;let(xs,eb,e):=ac e;ext e;show(Y,x,r,ea,λ v H1 s1 d1=>(Y,xs,r.up s1,eb,λ vs H2 s2 t=>k _ H2 (s1.trans s2) ⟨v,vs,rfl,(d1.up s2).b,t⟩,),)⟩
def m?{a b:U Nat}:((⟨a.q⟩:Str)=⟨b.q⟩)↔a=b:=⟨λ h=>by calc A14 (λ s=>s.cps.y) h,λ h=>by rw[h]⟩
def EB{K:Da}{H:Hp}{f:U Nat}{d:Z.D}:∀{ks:U (U Nat)}{ds:U Z.D}{fs:U (Str×V)},Z.g! (ks.map .inr) ds f=.ok d->fs.map (·.1)=ks.map (λ c=>(⟨c.q⟩:Str))->au K H ds (fs.map (·.2))->∃v,fs.lookup ⟨f.q⟩=AC v/\Den K H d v
|[],ds,fs,h,_,_=>by ext h
|k::ks,[],fs,h,_,_=>by ext h
|k::ks,x::ds,[],_,h2,_=>by ext h2
|k::ks,x::ds,(n,v)::fs,h,h2,h3=>by
 erw[A00,B00]at h2;erw[A00,au]at h3;let(v',r,e1,h4,h5):=h3;ext e1;let(e2,h2):=h2;subst e2;erw[A00,Z.g!]at h;by_cases hk:k=f
 .subst hk;rw[M2 rfl]at h;ext h;show⟨v,by simp[Fa],h4⟩
 .rw[W1 hk]at h;let(w,q1,q2):=EB h h2 h5;show(w,?_,q2,);let:((⟨f.q⟩:Str)==⟨k.q⟩)=AT:=A51.mpr λ z=>hk (m?.mp z).symm;erw[Fa,this];show q1
def VJ(K:Da)(f:Str):Prop:=∃C,nsIn K mainGlobals "Desk"=AC (AC<|.ref C)/\findIn K (.ref C) f=AC At
def ZQ.UD(hn:VJ X.K f)(ho:ZQ.QM X 0 o fo)(hf:(⟨fc.q⟩)=f)(hb:attributeBase o f X.env (eval o X.J)=eval o X.J:=by rfl):ZQ.QE X (.Attribute o f pos) (Z.eU (Z.fP fc) fo):=⟨PE.imp (RZ ho.p hb) <|by
 rintro O H Q ⟨Y,d,r,e,k⟩;let(x,ea,e):=ac e;show(Y,x,r,ea,λ v H1 s1 d1=>?_,);let(a,ks,ds,u,rfl,rfl,q,t):=d1;rcases t.two ∅with⟨_,_,C,dx,fs,rfl,hC,h3,h4⟩|⟨z,_⟩
 .let(v,q1,q2):=EB e h3 h4;let(C',e1,e2):=hn;let:=e1.symm.trans hC.1;ext this;rw[hf]at q1;show(a,C,dx,fs,v,rfl,q,hC.2,e2,q1,k v H1 s1 q2,)
 .ext z⟩
def lO{fs:U (Str×V)}(h:fs.map (·.1)=(Z.c9.take n).map (λ c=>(⟨c.q⟩)))(hm:Dn m):fs.lookup m=At:=by
 let hk:∀y∈fs.map _,(m==y)=AT:=λ y hy=>by rw[h]at hy;let(c,hc,rfl):=A07.mp hy;let:(⟨_⟩)∈Z.c9.map (λ c=>(⟨c.q⟩:Str)):=A07.mpr ⟨c,C11 hc,rfl⟩;show A51.mpr λ z=>?_;rw[<-z,<-List.contains_iff_mem,hm]at this;ext this
 clear h
 induction fs with
 |nil=>rfl
 |cons x r ih=>let(n,v):=x;erw[Fa,hk n ∅];show ih λ y hy=>hk y (by simp;right;calc hy)
structure yt(P:Program)(w:World)(K:Da)(mg:Str->Option Value)(base:Heap)(m:Str)(k:Nat)(ps:List Str)(bs:List Bool)(fn:List Z.D->Z.Res Z.D):Prop where
 ex:∃C g fd,nO K "Desk" C/\Meth K C m g/\ee P w K mg base hV k g fd ps (BM K bs fn)/\Binds K fd ps []
theorem ZQ.lA(C:yt X.prog X.w X.K X.mg X.base m k ps [Ch] fn)(hr:bu k X.A)(ho:ZQ.QM X 0 o fo)(hf:Dn m)
 (ht:Mt o m apos [] pos pl X.J:=by rfl) :
 ZQ.QE X (.Call (.Attribute o m apos) [] [] pos) (Z.aj fn<|Z.ai fo Z.ag):=⟨by
 let(C,g,fd,hC,hm,F,hb):=C.ex;show PE.imp (IK ho.p hC.2 hm F hr hb .nil sI ht) ?_;rintro O H Q ⟨Y,d,r,e,k⟩;let(ds,ea,e):=ac e;let(x,ex,ea):=ac ea;let(xs,en,ea):=ac ea;ext en ea;show(Y,x,r,ex,λ v H1 s1 d1=>?_,);let(a,ks,ds,u,rfl,rfl,q,t):=id d1;rcases t.two ∅with⟨_,hk,C',dx,fs,rfl,Ez,h3,h4⟩|⟨z,_⟩
 .let:=Ez.1.symm.trans hC.1;ext this;rw[hk]at h3;show(a,dx,fs,rfl,q,lO h3 hf,[Z.eK a 0 ks ds],d,(_,_,rfl,d1.b,rfl,),e,λ v H' s2 dv=>k v H' (s1.trans s2) dv,)
 .ext z⟩
theorem ZQ.ER(C:yt X.prog X.w X.K X.mg X.base m k ps (Ch::bs) fn)(hr:bu k X.A)(ho:ZQ.QM X 0 o fo)(hf:Dn m)(ha:ZQ.Ls X (e::es) bs ar)
 (oO:Se e es X.J:=by rfl) (fC:Pn pos es X.J:=by rfl)
 (ht:Mt o m apos (e::es) pos pl X.J:=by rfl) :
 ZQ.QE X (.Call (.Attribute o m apos) (e::es) [] pos) (Z.aj fn<|Z.ai fo ar):=⟨by
 let(C,g,fd,hC,hm,F,hb):=C.ex;show PE.imp (DR ho.p hC.2 hm F hr hb .nil sI ha.p oO fC ht) ?_;rintro O H Q ⟨Y,d,r,e,k⟩;let(ds,ea,e):=ac e;let(x,ex,ea):=ac ea;let(xs,en,ea):=ac ea;ext ea;show(Y,x,r,ex,λ v H1 s1 d1=>?_,);let(a,ks,ds,u,rfl,rfl,q,t):=id d1;rcases t.two ∅with⟨_,hk,C',dx,fs,rfl,Ez,h3,h4⟩|⟨z,_⟩
 .let:=Ez.1.symm.trans hC.1;ext this;rw[hk]at h3;show(a,dx,fs,rfl,q,lO h3 hf,Y,xs,r.up s1,en,λ vs H2 s2 d2=>?_,);change BM X.K _ fn _ H2 Q E0;rw[A52];show(Z.eK a 0 ks ds::xs,d,(_,_,rfl,(d1.up s2).b,d2,),e,λ v H' s3 dv=>k v H' ((s1.trans s2).trans s3) dv,)
 .ext z⟩
structure CY(K:Da)(m qual:Str)(st:Stmt)(ps:List Str):Prop where
 ex:∃C f fd,nO K "Desk" C/\Meth K C m f/\Bg K m qual st f fd/\Binds K fd ps []
section
variable{K:Da}
def yt.mk'{st:η}(lQ:bs.n=ps.n)(d:CY K m qual st ps)(S:aW N ps (aa st))
 (hb:∀ f a5 A outer s H E,bu k (A.deeper<|envOfC qual (aa st) s.heap.objs.size f a5) ->
  L9 (c! hV P w K mg base N qual (aa st) f a5 A outer s H E).gO H (aC st) b):yt P w K mg base m (k+1) ps bs (Z.As bs N.length b):=by
 let(C,f,fd,hC,hm,F,uk):=d.ex;show(C,f,fd,hC,hm,YD lQ F S<|hb f,uk,)
end
def HZ(K:Da)(bs:U Bool)(m:U Z.D->ε Z.XN):Sp:=λ vs H _ E=>∃ds c,iW K H bs ds vs/\m ds=AC c/\∀C dd H',az H H'->u_ K H' c C dd->E (.ref C) dd H'
section
variable{K:Da}
def acD{st:η}{dV kV doc pm a5 ct oc:ζ}(lQ:bs.n=ps.n)
 (lk:K.lookup f=AC ⟨oc,od,.func<|PySem.W.fnOf name qual (bp st) (aC st) (aa st) dV kV doc pm an a5 ct,yy⟩) (rG:PP K a5 qual=Ch) (S:aW N ps (aa st))
 (hb:∀ A outer s H E,bu k (A.deeper<|envOfC qual (aa st) s.heap.objs.size f a5) ->
  XSs (c! (Fc P w) P w K mg base N qual (aa st) f a5 A outer s H E) H (aC st) xb):ee P w K mg base (Fc P w) (k+1) f (No name qual (bp st) (aC st) (aa st) dV kV doc pm an a5 ct) ps (HZ K bs<|Z.QR bs N.length xb):=by
 let ψ:∀vs H Q E,HZ K bs (Z.QR bs N.length xb) vs H Q E->vs.n=ps.n:=by rintro vs H Q E ⟨ds,d,t,e,_⟩;let:=t.n;lia
 show Aq lk rG S ψ λ A outer s H vs Q E hr h=>?_;show(_,hb A outer s H E hr,?_,);let hl:=ψ vs H Q E h;let(ds,c,t,e,k):=h;let fC:ps.n<=N.n:=by let:=A14 List.length S.pre;rw[A33]at this;lia
 let rs:RS K H H (L2.start N vs) (Z.startB N.length bs ds):=mQ t ∅;unfold Z.QR at e;split at e
 .exact⟨_,c,rs,e,λ B O H' s' a C dd sm xc I th=>Gd I th<|k C dd H' sm xc⟩
 .ext e
structure ug(P:Program)(w:World)(K:Da)(mg:Str->Option Value)(base:Heap)(m:Str)(k:Nat)(ps:List Str)(bs:List Bool)(fx:List Z.D->Option Z.XN):Prop where
 ex:∃C g fd,nO K "Desk" C/\Meth K C m g/\ee P w K mg base (Fc P w) k g fd ps (HZ K bs fx)/\Binds K fd ps []
def ug.mk'{st:η}(lQ:bs.n=ps.n)(d:CY K m qual st ps)(S:aW N ps (aa st))
 (hb:∀ f a5 A outer s H E,bu k (A.deeper<|envOfC qual (aa st) s.heap.objs.size f a5) ->
  XSs (c! (Fc P w) P w K mg base N qual (aa st) f a5 A outer s H E) H (aC st) xb):ug P w K mg base m (k+1) ps bs (Z.QR bs N.length xb):=by
 let(C,f,fd,hC,hm,F,uk):=d.ex;let(oc,od,kV,doc,pm,an,a5,ct,yy,rfl,lk,rG):=F.ex;show(C,f,_,hC,hm,acD lQ lk rG S<|hb f a5,uk,)
end
def Wq
 (hex:X.ex=[]) (F:ee X.prog X.w X.K X.mg X.base (Fc X.prog X.w) k g fd ps (HZ X.K bs m)) (hr:bu k X.A) (hb:Binds X.K fd ps []) (I:Inv X B O H s) (r:Vals vs us) (d1:iW X.K H bs ds vs) (ec:m ds=AC c) (kw:Zk X O H c) :
 Ev (model X.prog X.w) X.A (call (.ref g) us) Q X.xe s:=by
 let Gs:HZ X.K bs m vs H (λ _ _=>False) (λ cv dd H'=>∃C,cv=.ref C/\u_ X.K H' c C dd/\az H H'):=(ds,c,d1,ec,λ C' dd H' s2 x2=>(C',rfl,x2,s2,),)
 let hl:=F.len _ _ _ _ Gs;show A91<|A92 (F.run X.A _ s H ⟨us,[]⟩ us vs _ _ hr I.OR (by let:=hb s us I.lP (by rw[A52,<-r.n];show hl);calc this) r Gs) λ rr s' hq=>?_;cases rr with
 |ok fl=>
  cases fl with
  |ret u=>let(v,H2,_,_,_,_,_,q):=hq;show q.elim
  |_=>show hq.elim
 |error ev=>let hq:Fc _ X.w _ H s (λ cv dd H'=>∃C,cv=.ref C/\u_ X.K H' c C dd/\az H H') ev s':=hq;let(a,C',dd,H',rfl,J,th,C2,hc,x2,s2):=Rq hex I hq;ext hc;show kw B H' s' a C' dd s2 x2 J th
def PAF.gO(h:_3 X.gO es bs ar):_3 X es bs ar:=PA.gO h
theorem ZQ.Md(C:ug X.prog X.w X.K X.mg X.base m k ps (Ch::bs) fx)(hr:bu k X.A)(ho:ZQ.QM X 0 o fo)(hf:Dn m)(ha:ZQ.Ls X.gO (e::es) bs ar)
 (hex:X.ex=[]:=by rfl) (oO:Se e es X.J:=by rfl) (fC:Pn pos es X.J:=by rfl)
 (ht:Mt o m apos (e::es) pos pl X.J:=by rfl) :
 ZQ.QXE X (.Call (.Attribute o m apos) (e::es) [] pos) (Z.yG fx<|Z.ai fo ar):=⟨by
 let(C,g,fd,hC,hm,F,hb):=C.ex;intro B s O H Q I h;let(Y,c,re,ec,kw):=h;unfold Z.yG at ec;split at ec
 .rename_i ds ed;let(x,ex,ea):=ac ed;let(xs,en,ea):=ac ea;ext ea;show B95 (b_ (ho.p B s O H (λ v H1=>az H H1/\Lq X.K H1 0 x v) I ⟨Y,x,re,ex,λ v H1 s1 d1=>(s1,d1,)⟩) ?_) ht;rintro u s1 ⟨v,H1,I1,rx,sm,d1⟩;let(a,ks,ds,u',rfl,rfl,q,t):=id d1;obtain rfl:u=Value.ref a:=rx;rcases t.two ∅with⟨_,hk,C',dx,fs,rfl,Ez,h3,h4⟩|⟨z,_⟩
  .let:=Ez.1.symm.trans hC.1;ext this;rw[hk]at h3;show nr I1 q hC.2 hm (lO h3 hf) ?_;show B29 I.ok.mod.Qw hm.kp (b_ (PAF.gO ha.p pos B s1 O H1 (λ vs H2=>az H1 H2/\iW X.K H2 bs xs vs) I1 ⟨Y,xs,re.up sm,en,λ vs H2 s2 d2=>(s2,d2,)⟩) λ us s2 ⟨vs,H2,I2,r,qS,d2⟩=>(I2.lP,?_,)) oO fC;show Wq (vs:=.ref a::vs) (ds:=Z.eK a 0 ks ds::xs) hex F hr hb I2 (.cons rfl r) ⟨_,_,rfl,(d1.up qS).b,d2⟩ ec<|(kw.up sm).up qS
  .ext z
 .ext ec⟩
def over(H0 H:Hp)(as:U δ):Hp:=λ b=>if b∈as then H b else H0 b
section
variable{K:Da}
def bW(h:a∈as):over H0 H as a=H a:=M2 h
def cj(h:a∉as):over H0 H as a=H0 a:=W1 h
def IU(h:a∈as):over H0 (upd H a u) as=upd (over H0 H as) a u:=by
 funext b
 by_cases hb:b=a
 .subst hb;rw[bW h,aE,aE]
 .rw[av hb];by_cases hm:b∈as
  .rw[bW hm,bW hm,av hb]
  .rw[cj hm,cj hm]
def n4(h:Z.eK a kd ks vs=Z.eK a' kd' ks' vs'):a=a'/\kd=kd'/\ks=ks'/\vs=vs':=by
 injection h with h1 h2
 injection h1 with h1 h3
 injection h3 with h3 h4
 injection h1 with h1
 injection h3 with h3
 show(B23 h1,B23 h3,(rc λ x y h=>by injection h).mp h4,h2,)
def eA:∀{Y}{k i}{x},Z.mZ ms k Y->Y[i]?=AC x->Z.xG x->k+i∈ms
|[],_,_,_,_,e,_=>by simp at e
|y::r,k,0,x,h,e,t=>by simp at e;subst e;show h.1 t
|y::r,k,i+1,x,h,e,t=>by let:=eA h.2 (by calc e) t;rw[show k+(i+1)=k+1+i from by lia];show this
def k!:∀{Y}{k},(∀i x,Y[i]?=AC x->Z.xG x->k+i∈ms)->Z.mZ ms k Y
|[],_,_=>trivial
|y::r,k,h=>⟨λ t=>h 0 y rfl t,k! λ i x e t=>by let:=h (i+1) x (by calc e) t;rw[show k+1+i=k+(i+1)from by lia];show this⟩
structure RM(K:Da)(H0:Hp)(ms:List Nat)(as:List Addr)(H:Hp)(O:St)(Y:Z.Env):Prop where
 rs:RS K (over H0 H as) H O Y
 at_:Paired (λ(i:Nat)(a:Addr)=>∃kd ks vs,Y[i]?=AC (AC<|.bor<|Z.eK a kd ks vs)) ms as
 no:Z.mZ ms 0 Y
 nd:as.Nodup
 h0:∀a∈as,H0 a=At
def dA:∀{l}{m}{x},Paired R l m->x∈l->∃y∈m,R x y:=by
 intro l m x p h
 induction p with
 |nil=>ext h
 |cons r t ih=>
  rcases A01.mp h with rfl|h
  .exact⟨_,.head _,r⟩
  .let(y,h1,h2):=ih h;show(y,.tail _ h1,h2,)
def zA(hf:∀i a b,R i a->R i b->a=b):∀{l}{m}{i j}{a},Paired R l m->m.Nodup->i∈l->j∈l->R i a->R j a->i=j:=by
 intro l m i j a p nd hi hj ri rj
 induction p with
 |nil=>ext hi
 |cons r t ih=>
  let qr:=A19.mp nd;rcases A01.mp hi with ei|rC
  .rcases A01.mp hj with ej|A_
   .exact ei.trans ej.a
   .let(z,hz,rz):=dA t A_;subst ei;let e1:=hf _ _ _ r ri;let e2:=hf _ _ _ rz rj;subst e1;subst e2;show absurd hz qr.1
  .rcases A01.mp hj with ej|A_
   .let(z,hz,rz):=dA t rC;subst ej;let e1:=hf _ _ _ r rj;let e2:=hf _ _ _ rz ri;subst e1;subst e2;show absurd hz qr.1
   .exact ih qr.2 rC A_
def CT{Y:Z.Env}(i:Nat)(a b:δ)(h1:∃kd ks vs,Y[i]?=AC (AC<|.bor<|Z.eK a kd ks vs))(h2:∃kd ks vs,Y[i]?=AC (AC<|.bor<|Z.eK b kd ks vs)):a=b:=by
 let(_,_,_,h1):=h1;let(_,_,_,h2):=h2;rw[h1]at h2;injection h2 with h2;injection h2 with h2;injection h2 with h2
 show(n4 h2).1
def RM._i(h:RM K H0 ms as H O Y)(hi:Y[i]?=AC (AC<|.bor<|Z.eK a kd ks vs)):i∈ms:=by let:=eA h.no hi trivial;calc this
def RM.mem(h:RM K H0 ms as H O Y){i:Nat}(hi:Y[i]?=AC (AC<|.bor<|Z.eK a kd ks vs)):a∈as:=by let(y,hy,r):=dA h.at_ (h._i hi);let:=CT i _ _ ⟨_,_,_,hi⟩ r;subst this;show hy
def RM.uniq(h:RM K H0 ms as H O Y){i j kd kd':Nat}(hi:Y[i]?=AC (AC<|.bor<|Z.eK a kd ks vs))(hj:Y[j]?=AC (AC<|.bor<|Z.eK a kd' ks' vs')):i=j:=
 zA (λ i a b=>CT i a b) h.at_ h.nd (h._i hi) (h._i hj) ⟨_,_,_,hi⟩ ⟨_,_,_,hj⟩
def RM.thing(h:RM K H0 ms as H O Y){i:Nat}(hi:Y[i]?=AC (AC<|.bor<|Z.eK a kd ks vs)):O[i]?=AC (AC<|.ref a)/\∃u,H a=AC u/\Be K H kd ks vs u:=by let(v,h1,h2):=h.rs.re.get i _ hi;let(a',ks',ds,u,e1,rfl,q,t):=K0 h2;let(rfl,_,rfl,rfl):=n4 e1;show(h1,u,q,t,)
def Be.mb(t:Be K H kd ks vs u):(∀xs,u≠.tup xs)/\(∀o x,u≠.dW o x):=by
 rcases t with⟨_,_,C,dx,fs,rfl,_⟩|⟨_,aQ,rfl,_⟩|⟨_,_,xs,rfl,_⟩
 .exact⟨λ _ z=>(nomatch z),λ _ _ z=>(nomatch z)⟩
 .exact⟨λ _ z=>(nomatch z),λ _ _ z=>(nomatch z)⟩
 .exact⟨λ _ z=>(nomatch z),λ _ _ z=>(nomatch z)⟩
def RM.noL(h:RM K H0 ms as H O Y){j:Nat}(hj:Y[j]?=AC (AC<|.bor<|.lst ds)):False:=by
 let hm:j∈ms:=by let:=eA h.no hj trivial;simpa using this
 let(y,hy,kd,ks,vs,q):=dA h.at_ hm;rw[hj]at q;ext q
def RM.write(h:RM K H0 ms as H O Y)(hi:Y[i]?=AC (AC<|.bor<|Z.eK a kd ks vs))(t:Be K (upd H a u') kd' ks' vs' u'):
 gm H (upd H a u')/\RM K H0 ms as (upd H a u') O (Y.set i<|some<|.bor<|Z.eK a kd' ks' vs'):=by
 let ha:=h.mem hi;let(hs,u,hu,t0):=h.thing hi;let st:gm H (upd H a u'):=jU hu t0.mb.1 t0.mb.2;let ou:over H0 H as a=AC u:=by rw[bW ha];show hu
 let MF:gm (over H0 H as) (upd (over H0 H as) a u'):=jU ou t0.mb.1 t0.mb.2;let ui:=(A02.mp hi).1;let bor:∀{j}{d}{v}{G},i≠j->Y[j]?=AC (AC<|.bor d)->gm G (upd G a u')->G a=AC u->i! K G d v->i! K (upd G a u') d v:=λ {j d v G} hj e sg ga hb=>by
  rcases hb with(hb|⟨ds,q,ws,e1,e2,q1,t1⟩)|⟨a2,Xz,Xv,ds2,u2,e1,e2,q2,t2⟩
  .exact .inl<|.inl<|hb.ups sg
  .subst e1;show(h.noL e).elim
  .let:a2≠a:=by rintro rfl;rw[e1]at e;show hj<|h.uniq hi e
   show .inr ⟨a2,Xz,Xv,ds2,u2,e1,e2,by rw[av this];show q2,t2.ups sg⟩
 let own:∀{q},over H0 H as q=At->q≠a:=λ e z=>by rw[z,ou]at e;ext e
 show(st,(?_,?_,?_,h.nd,h.h0,),)
 .rw [IU ha];show(λ b o e=>?_,⟨by simp[h.rs.re.len],λ j l e=>?_,λ j k xs ys q e1 e2 e3 e4=>?_⟩,λ j xs q e1 e2=>?_,λ j d e1=>?_,?_,)
  .by_cases hb:b=a
   .subst hb;rw[aE]at e ⊢;show e
   .rw[av hb]at e ⊢;show h.rs.same b o e
  .rcases aB e with⟨rfl,hl,e⟩|⟨hj,e⟩
   .ext e;show(.ref a,hs,.inr ⟨a,kd',ks',vs',u',rfl,rfl,aE,t⟩,)
   .let(v,e1,r):=h.rs.re.get j l e;show(v,e1,?_,);cases l with
    |val d=>show Den.ups (r) st
    |own zs=>let(q',ws,rfl,fQ,t'):=r;show⟨q',ws,rfl,by rw[av<|own<|h.rs.fresh j zs q' e e1];show fQ,t'.ups st⟩
    |bor d=>show bor hj e st hu r
    |dc ks=>let(q',u?,rfl,fQ,t'):=r;show⟨q',u?,rfl,by rw[av<|own<|h.rs.v?.2 j ks q' e e1];show fQ,t'.ups st⟩
    |Ko ks=>let(q',o',u?,rfl,fQ,t'):=r;show(q',o',u?,rfl,st.dW _ _ _ fQ,t'.ups st,)
    |Tj ps=>let(q',o',rfl,fQ):=r;show(q',o',rfl,st.dW _ _ _ fQ,)
    |exc c=>let(q',o',u',C',rfl,fQ,r1,r2,r3):=r;show(q',o',u',C',rfl,st.dW _ _ _ fQ,r1,r2,r3.ups st,)
  .rcases aB e1 with⟨_,_,e⟩|⟨_,e1⟩
   .ext e
   .rcases aB e2 with⟨_,_,e⟩|⟨_,e2⟩
    .ext e
    .exact h.rs.re.sep j k xs ys q e1 e2 e3 e4
  .rcases aB e1 with⟨_,_,e⟩|⟨_,e1⟩
   .ext e
   .let:=h.rs.fresh j xs q e1 e2;rw[av<|own this];show this
  .rcases aB e1 with⟨rfl,_,e⟩|⟨hj,e9⟩
   .ext e;show(.ref a,hs,.inr ⟨a,kd',ks',vs',u',rfl,rfl,aE⟩,)
   .let(v,q1,q2):=h.rs.mj j d e9;show(v,q1,?_,);rcases q2 with(hb|⟨ds,q,ws,g1,g2,q1,t1⟩)|⟨a2,Xz,Xv,ds2,u2,g1,g2,q2⟩
    .exact .inl<|.inl<|hb.ups MF
    .subst g1;show(h.noL e9).elim
    .let:a2≠a:=by rintro rfl;rw[g1]at e9;show hj<|h.uniq hi e9
     show .inr ⟨a2,Xz,Xv,ds2,u2,g1,g2,by rw[av this];show q2⟩
  .refine⟨λ j k ks ls q e1 e2 e3 e4=>?_,λ j ks q e1 e2=>?_⟩
   .rcases aB e1 with⟨_,_,e⟩|⟨_,e1⟩
    .ext e
    .rcases aB e2 with⟨_,_,e⟩|⟨_,e2⟩
     .ext e
     .exact h.rs.v?.1 j k ks ls q e1 e2 e3 e4
   .rcases aB e1 with⟨_,_,e⟩|⟨_,e1⟩
    .ext e
    .let:=h.rs.v?.2 j ks q e1 e2;rw[av<|own this];show this
 .refine Paired.F? h.at_ λ j b hj=>?_;let(Xz,Xv,P5,hj):=hj;by_cases nQ:i=j
  .subst nQ;rw[hi]at hj;injection hj with hj;injection hj with hj;injection hj with hj
   let(rfl,_):=n4 hj;show(kd',ks',vs',A39 ui,)
  .exact⟨Xz,Xv,P5,by rw[A20 nQ];show hj⟩
 .refine k! λ j x e tx=>?_;by_cases nQ:i=j
  .subst nQ;rw[B19];show h._i hi
  .rw[A20 nQ]at e;show eA h.no e tx
def RM.tracked(h:RM K H0 ms as H O Y)(ha:a∈as):∃u,H a=AC u:=by
 let key:∀{l}{m},Paired (λ(i:Nat)(a)=>∃kd ks vs,Y[i]?=AC (AC<|.bor<|Z.eK a kd ks vs)) l m->a∈m->∃u,H a=AC u:=by
  intro l m p
  induction p with
  |nil=>intro h;simp at h
  |cons r t ih=>
   intro hm;rcases A01.mp hm with rfl|hm
   .let(_,_,_,hi):=r;let(_,u,q,_):=h.thing hi;show(u,q,)
   .exact ih hm
 show key h.at_ ha
def RM.same(h:RM K H0 ms as H O Y):az H0 H:=λ b o e=>h.rs.same b o (by rw[cj λ z=>by rw[h.h0 b z]at e;ext e];show e)
def RM.vB(h:RM K H0 ms as H O Y)(s:∀a∈as,H' a=H a):over H0 H' as=over H0 H as:=by
 funext b
 by_cases hb:b∈as
 .rw[bW hb,bW hb,s b hb]
 .rw[cj hb,cj hb]
def RM.up(h:RM K H0 ms as H O Y)(s:az H H'):RM K H0 ms as H' O Y:=by
 let e:=h.vB λ a ha=>by let(u,q):=h.tracked ha;rw[q];show s _ _ q
 show(?_,h.at_,h.no,h.nd,h.h0,);rw[e];show h.rs.up s
def wV:ε HO->Prop
|some<|.tup _=>True
|some<|.dW _ _=>True
|_=>False
open Classical in
def ov(H0 H:Hp)(as:U δ):Hp:=λ b=>if b∈as\/wV (H b)then H b else H0 b
def IV(h:a∈as):ov H0 H as a=H a:=M2<|.inl h
def BX(h:wV (H b)):ov H0 H as b=H b:=M2<|.inr h
def FQ(h:b∉as)(n:¬wV (H b)):ov H0 H as b=H0 b:=W1 λ z=>z.elim h n
def RM.ovR(h:RM K H0 ms as H O Y):RS K (ov H0 H as) H O Y:=by
 let sm:az (over H0 H as) (ov H0 H as):=λ b o e=>by
  by_cases hb:b∈as
  .rw[bW hb]at e;rw[IV hb];show e
  .rw[cj hb]at e;by_cases hs:wV (H b)
   .rw[BX hs];show h.same b o e
   .rw[FQ hb hs];show e
 let non:∀{q}{u},over H0 H as q=At->H q=AC u->¬wV _->ov H0 H as q=At:=λ {q u} e hq n=>by
  let hb:q∉as:=λ z=>by rw[bW z,hq]at e;ext e
  rw[FQ hb (by rw[hq];show n)];rw[cj hb]at e;show e
 show(λ b o e=>?_,h.rs.re,λ i xs q e1 e2=>?_,λ i d e1=>?_,(h.rs.v?.1,λ i ks q e1 e2=>?_,),)
 .by_cases hb:b∈as\/wV (H b)
  .rcases hb with hb|hb
   .rw[IV hb]at e;show e
   .rw[BX hb]at e;show e
  .rw[FQ (λ z=>hb<|.inl z) λ z=>hb<|.inr z]at e;show h.same b o e
 .let(v,h1,a,vs,e,h2,_):=h.rs.re.get i _ e1;rw[e2]at h1;ext h1 e;show non (h.rs.fresh i xs _ e1 e2) h2 λ z=>z
 .let(v,h1,h2):=h.rs.mj i d e1;show(v,h1,?_,);rcases h2 with h2|⟨a,kd,ks,ds,u,g1,g2,g3⟩
  .exact .inl<|h2.up sm
  .exact .inr ⟨a,kd,ks,ds,u,g1,g2,sm _ _ g3⟩
 .let(v,h1,a,u?,e,h2,_):=h.rs.re.get i _ e1;rw[e2]at h1;ext h1 e;show non (h.rs.v?.2 i ks _ e1 e2) h2 λ z=>?_;ext ks<;>show z
def R5(s:az (ov H0 H as) H'):gm H H':=(λ b xs e=>s _ _ (by rw[BX (by rw[e];trivial)];show e),λ b o x e=>s _ _ (by rw[BX (by rw[e];trivial)];show e),)
def cC:∀{l}{m},Paired R l m->(∀x∈l,∀y,R x y->S x y)->Paired S l m:=by
 intro l m p f
 induction p with
 |nil=>show .nil
 |cons r t ih=>show .cons (f _ (.head _) _ r)<|ih λ x hx=>f x<|.tail _ hx
def RM.back(h:RM K H0 ms as H O Y)(kt:Z.dB ms Y Y')(r:RS K (ov H0 H as) H' O' Y'):RM K H0 ms as H' O' Y':=by
 let ha:∀a∈as,H' a=H a:=λ a z=>by let(u,q):=h.tracked z;rw[q];show r.same _ _ (by rw[IV z];show q)
 let e:=h.vB ha;let at':Paired (λ(i)(a)=>∃kd ks vs,Y'[i]?=AC _) ms as:=cC h.at_ <|by rintro i hi a ⟨kd,ks,vs,q⟩;show⟨kd,ks,vs,by rw[kt.1 i hi];show q⟩
 let down:∀{q},ov H0 H as q=At->over H0 H as q=At:=λ {q} z=>by
  by_cases hb:q∈as
  .rw[IV hb]at z;rw[bW hb];show z
  .rw[cj hb];by_cases hs:wV (H q)
   .rw[BX hs]at z;rw[z]at hs;show hs.elim
   .rw[FQ hb hs]at z;show z
 show(?_,at',kt.2,h.nd,h.h0,);rw[e];show(λ b o q=>?_,r.re,λ i xs q e1 e2=>down<|r.fresh i xs q e1 e2,λ i d e1=>?_,(r.v?.1,λ i ks q e1 e2=>down<|r.v?.2 i ks q e1 e2,),)
 .by_cases hb:b∈as
  .rw[bW hb]at q;rw[ha b hb];show q
  .rw[cj hb]at q;show r.same b o ?_;by_cases hs:wV (H b)
   .rw[BX hs];show h.same b o q
   .rw[FQ hb hs];show q
 .let(v,h1,h2):=r.mj i d e1;let hi:i∈ms:=by let:=eA kt.2 e1 trivial;simpa using this
  let(a,hm,kd,ks,vs,q):=dA at' hi;rw[e1]at q;injection q with q;injection q with q;injection q with q
  subst q;show(v,h1,?_,);rcases h2 with h2|⟨a',kd',ks',ds,u,g1,g2,g3⟩
  .let(_,_,_,_,_,_,_,n):=h2.dct;show absurd rfl<|n _ _
  .let(rfl,rfl,rfl,rfl):=n4 g1;let(u',q'):=h.tracked hm;show .inr ⟨a,kd,ks,vs,u',rfl,g2,by rw[bW hm];show q'⟩
def TH(K:Da)(H:Hp)(as:U δ)(ts:U Z.D):Prop:=Paired (λ(a:δ)(t:Z.D)=>∃kd ks vs u,t=Z.eK a kd ks vs/\H a=AC u/\Be K H kd ks vs u) as ts
def RM.ths(h:RM K H0 ms as H O Y):TH K H as (Z.g0 ms Y):=by
 let key:∀{l}{m},Paired (λ(i)(a)=>∃kd ks vs,Y[i]?=AC (AC<|.bor<|Z.eK a kd ks vs)) l m->TH K H m (Z.g0 l Y):=by
  intro l m p
  induction p with
  |nil=>show .nil
  |cons r t ih=>let(kd,ks,vs,hi):=r;let(_,u,q,th):=h.thing hi;show .cons ⟨kd,ks,vs,u,by change Z.ZM _=_;rw[hi];rfl,q,th⟩ ih
 show key h.at_
def TH.ups(h:TH K H as ts)(s:∀a∈as,H' a=H a)(st:gm H H'):TH K H' as ts:=cC h <|by rintro a ha t ⟨kd,ks,vs,u,e,q,th⟩;show⟨kd,ks,vs,u,e,by rw[s a ha];show q,th.ups st⟩
end
def _I(K:Da)(H0:Hp)(ms:U Nat)(as:U δ)(H:Hp)(D:Ends):Z.vb->Prop
|.nx Y'=>∀O' H',gm H H'->RM K H0 ms as H' O' Y'->D.nx O' H'
|.rt d ts=>∀v H',az H0 H'->TH K H' as ts->Den K H' d v->D.rt v H'
def tM(K:Da)(H0:Hp)(ms:U Nat)(as:U δ)(g:Z.SM):TS:=λ D O H=>∃Y fl,RM K H0 ms as H O Y/\g Y=.ok fl/\_I K H0 ms as H D fl
abbrev MS(X:Cx)(H0:Hp)(ms:U Nat)(as:U δ)(st:η)(g:Z.SM):Prop:=PS X st<|tM X.K H0 ms as g
structure ZQ.Hw(X:Cx)(H0:Hp)(ms:List Nat)(as:List Addr)(st:Stmt)(g:Z.SM):Prop where p:MS X H0 ms as st g
abbrev Zt(X:Cx)(H0:Hp)(ms:U Nat)(as:U δ)(st:U η)(g:Z.SM):Prop:=pq X st<|tM X.K H0 ms as g
structure ZQ.kJ(X:Cx)(H0:Hp)(ms:List Nat)(as:List Addr)(st:List Stmt)(g:Z.SM):Prop where p:Zt X H0 ms as st g
def _I.up{K:Da}(h:_I K H0 ms as H D fl)(e:gm H H1):_I K H0 ms as H1 D fl:=by
 cases fl with
 |nx Y'=>show λ O' H' s r=>h O' H' (e.trans s) r
 |rt d ts=>show h
section
variable{st:η}
def lN(h:∀H1,DS X H1 st g):MS X H0 ms as st (Z.bz ms g):=by
 intro B s O H D I w;let(Y,fl,rm,e,k):=w;let(f1,e1,e):=ac e;show h _ B s O H D I ⟨Y,f1,rm.ovR,e1,?_⟩;cases f1 with
 |nx Y'=>let(kt,e):=Z.bI e;ext e;show λ O' H' st r=>k O' H' st<|rm.back kt r
 |rt d=>
  ext e;intro v H' sm dv;let ha:∀a∈as,H' a=H a:=λ a z=>by let(u,q):=rm.tracked z;rw[q];show sm _ _ (by rw[IV z];show q)
  show k v H' (λ b o q=>?_) (rm.ths.ups ha<|R5 sm) dv;show sm b o ?_;let nb:b∉as:=λ z=>by rw[rm.h0 b z]at q;ext q
  by_cases hs:wV (H b)
  .rw[BX hs];show rm.same b o q
  .rw[FQ nb hs];show q
 |bk _=>ext e
 |ct _=>ext e
def ZQ.jb(h:ZQ.Hw X H0 ms as st g):ZQ.kJ X H0 ms as [st] g:=⟨oq h.p⟩
def ZQ.iG(h1:ZQ.Hw X H0 ms as st g)(h2:ZQ.kJ X H0 ms as yv u):ZQ.kJ X H0 ms as (st::yv) (Z.bQ g u):=⟨pq.imp (iE h1.p h2.p) <|by
 rintro D O H ⟨Y,fl,rs,e,k⟩;let(f1,e1,e):=ac e;show(Y,f1,rs,e1,?_,);cases f1 with
 |nx Y'=>show λ O' H' s r=>(Y',fl,r,e,k.up s,)
 |rt d ts=>ext e;show k⟩
def Dt{K:Da}{H:Hp}{f:U Nat}{d:Z.D}{y:V}(hd:Den K H d y):∀{ks:U (U Nat)}{ds:U Z.D}{fs:U (Str×V)},fs.map (·.1)=ks.map (λ c=>(⟨c.q⟩:Str))->au K H ds (fs.map (·.2)) ->
 ∃ks':U (U Nat),(Z.eO f d (ks.map .inr) ds).1=ks'.map .inr/\(jV ⟨f.q⟩ y fs).map (·.1)=ks'.map (λ c=>(⟨c.q⟩:Str))/\au K H (Z.eO f d (ks.map .inr) ds).2 ((jV ⟨f.q⟩ y fs).map (·.2))
|[],ds,fs,h2,h3=>by
 let:fs=[]:=by simpa using h2
 subst this;show([f],?_,rfl,?_,)
 .ext ds<;>rfl
 .let:(Z.eO f d ([].map .inr) ds).2=[d]:=by ext ds<;>rfl
  rw[this];show au.cons hd au.nil
|k::ks,ds,[],h2,_=>by ext h2
|k::ks,[],(n,v)::fs,_,h3=>by erw[A00,au]at h3;ext h3
|k::ks,x::ds,(n,v)::fs,h2,h3=>by
 erw[A00,B00]at h2;erw[A00,au]at h3;let(v',r,e1,h4,h5):=h3;ext e1;let(e2,h2):=h2;subst e2;erw[A00,Z.eO,jV];by_cases hk:k=f
 .subst hk;rw[M2 rfl,M2 rfl];show⟨k::ks,rfl,by simp[h2],au.cons hd h5⟩
 .rw[W1 hk,W1 λ z=>hk<|m?.mp z];let(ks',q1,q2,q3):=Dt hd h2 h5;show⟨k::ks',by simp[q1],by simp[q2],au.cons h4 q3⟩
def MO(h:Z.su f x t=.ok l):∃a ks vs,t=AC (AC<|.bor<|.dct (.inl a::.inl 0::ks) vs)/\(Z.eO f x ks vs).1=(Z.c9.take (Z.eO f x ks vs).1.length).map .inr/\l=.bor (.dct (.inl a::.inl 0::(Z.eO f x ks vs).1) (Z.eO f x ks vs).2):=by
 unfold Z.su at h;rcases Z.jr t with⟨a,k,ks,vs,rfl⟩|hb
 .let((rfl,q),h):=Z.bI h;ext h;show(a,ks,vs,rfl,q,rfl,)
 .rw[hb]at h;show nA h
def RM.tagged{K:Da}(h:RM K H0 ms as H O Y){i:Nat}(hi:Y[i]?=AC (AC<|.bor d)):∃a kd ks vs,d=Z.eK a kd ks vs:=by
 let hm:i∈ms:=by let:=eA h.no hi trivial;simpa using this
 let(a,_,kd,ks,vs,q):=dA h.at_ hm;rw[hi]at q;injection q with q;injection q with q;injection q with q
 show(a,kd,ks,vs,q,)
theorem ZQ.SO(hn:VJ X.K f)(ho:PE X o (jS i))(he:ZQ.QE X value fe)(hf:(⟨fc.q⟩)=f)(hs:swapsWith value (AC<|.Attribute o f pos') pos.line X.J=pure AT:=by rfl):
 ZQ.Hw X H0 ms as (.Assign [.Attribute o f pos'] value pos) (Z.ma i fc fe):=⟨PS.imp (RN ho he.p hs) <|by
 rintro D O H ⟨Y,fl,rm,e,k⟩;let(d,ed,e):=ac e;let(l,el,e):=ac e;ext e;show(Y,d,rm.rs.re,ed,λ y H1 s1 dy=>?_,);let sC:=rm.up s1;let(a0,Xx,vs,hi,hk,rfl):=MO el;let(a,kd,ks,vs',e1):=sC.tagged hi;injection e1 with e1 e2
 injection e1 with e1 e3
 injection e3 with e3 e4
 injection e1 with e1
 injection e3 with e3
 subst e1 e2 e4;let:=(B23 e3.a)
 subst this;let rC:=hi;let(Ai,u,hu,th):=sC.thing rC;rcases th.two ∅with⟨_,hks,C,dx,fs,rfl,hC,h3,h4⟩|⟨z,_⟩
 .let(C',g1,g2):=hn;let:=g1.symm.trans hC.1;ext this;let hl:fs.n<1000:=by
   let q1:fs.n=ks.n:=by simpa using A14 List.length h3
   let q2:ks.n<=4:=by
    let:=A14 List.length hks;rw[A33]at this;let:ks.n<=Z.c9.n:=by lia
    show this
   lia
  let(ks',q1,q2,q3):=Dt (f:=fc) dy h3 h4;let Dk:gm H1 (upd H1 a<|.ins C dx<|jV f y fs):=jU hu (λ _ z=>nomatch z) λ _ _ z=>nomatch z;rw[q1]at hk;rw[hf]at q2 q3;let X?:ks'=Z.c9.take ks'.n:=by rw[A08]at hk;show(rc λ x y h=>by injection h).mp hk
  let(st,Dx):=sC.write rC (.inl ⟨rfl,X?,C,dx,_,rfl,hC,q2,q3.ups Dk⟩);show(.ref a,Ai,a,C,dx,fs,rfl,hu,hC.2,g2,hl,k O _ ((i_ s1).trans st) ?_,);rw[q1];show Dx
 .ext z⟩
end
def wipe(H:Hp)(as:U δ):Hp:=λ b=>if b∈as then At else H b
def FP:over (wipe H as) H as=H:=by
 funext b
 by_cases hb:b∈as
 .rw[bW hb]
 .rw[cj hb];show W1 hb
def P?(K:Da)(ms:U Nat)(bs:U Bool)(n:Nat)(fn:U Z.D->Z.Res (Z.D×U Z.D)):Sp:=λ vs H Q _=>∃ds as d ts,iW K H bs ds vs/\as.Nodup/\Paired (λ(i:Nat)(a:δ)=>∃kd ks vs,(Z.startB n bs ds)[i]?=AC (AC<|.bor<|Z.eK a kd ks vs)) ms as/\Z.mZ ms 0 (Z.startB n bs ds) /\
 fn ds=.ok (d,ts)/\∀v H',az (wipe H as) H'->TH K H' as ts->Den K H' d v->Q v H'
section
variable{K:Da}
def T_{st:η}(lQ:bs.n=ps.n)(F:Bg K x qual st f fd)(S:aW N ps (aa st))
 (hb:∀ a5 A outer s H H0 as E,bu k (A.deeper<|envOfC qual (aa st) s.heap.objs.size f a5) ->
  Zt (c! hV P w K mg base N qual (aa st) f a5 A outer s H E).gO H0 ms as (aC st) b):ee P w K mg base hV (k+1) f fd ps (P? K ms bs N.length<|Z.Ar ms bs N.length b):=by
 let ψ:∀vs H Q E,P? K ms bs N.length (Z.Ar ms bs N.length b) vs H Q E->vs.n=ps.n:=by rintro vs H Q E ⟨ds,as,d,ts,t,_⟩;let:=t.n;lia
 show F.ok S ψ λ a5 A outer s H vs Q E hr h=>?_;let hl:=ψ vs H Q E h;let(ds,as,d,ts,t,nd,hat,Hq,e,k):=h;show(_,hb a5 A outer s H (wipe H as) as E hr,?_,);let fC:ps.n<=N.n:=by let:=A14 List.length S.pre;rw[A33]at this;lia
 let rs:RS K H H (L2.start N vs) (Z.startB N.length bs ds):=mQ t ∅;let rm:RM K (wipe H as) ms as H (L2.start N vs) (Z.startB N.length bs ds):=⟨by rw[FP];show rs,hat,Hq,nd,λ a ha=>M2 ha⟩
 unfold Z.Ar at e;split at e
 .cases eb:b (Z.startB N.length bs ds)with
  |bad=>rw[eb]at e;ext e
  |ok fl=>
   rw[eb]at e;show(_,fl,rm,eb,?_,);cases fl with
   |rt d' Ro=>ext e;show λ v H' s' th dv=>k v H' s' th dv
   |nx Y'=>ext e;show λ O' H' _ Wt=>k .non H' Wt.same Wt.ths j9
 .ext e
end
structure U7(K:Da)(st:Stmt)(ps:List Str):Prop where
 ex:∃C f fd,nO K "Desk" C/\Mk K C f/\Bg K "__init__" "Desk.__init__" st f fd/\Binds K fd ps []
structure Ha(P:Program)(w:World)(K:Da)(mg:Str->Option Value)(base:Heap)(k:Nat)(ps:List Str)(n:Nat)(fn:List Z.D->Z.Res (Z.D×List Z.D)):Prop where
 ex:∃C f fd,nO K "Desk" C/\Mk K C f/\ee P w K mg base hV k f fd ps (P? K [0] [Ch,AT] n fn)/\Binds K fd ps []
section
variable{K:Da}
def Ha.mk'{st:η}(lQ:ps.n=2)(d:U7 K st ps)(S:aW N ps (aa st))
 (hb:∀ f a5 A outer s H H0 as E,bu k (A.deeper<|envOfC "Desk.__init__" (aa st) s.heap.objs.size f a5) ->
  Zt (c! hV P w K mg base N "Desk.__init__" (aa st) f a5 A outer s H E).gO H0 [0] as (aC st) b):Ha P w K mg base (k+1) ps N.length (Z.Ar [0] [Ch,AT] N.length b):=by
 let(C,f,fd,hC,M,F,uk):=d.ex;show(C,f,fd,hC,M,T_ lQ.symm F S<|hb f,uk,)
end
def xy:∀m k,Z.mZ ms k (Db m At)
|0,_=>trivial
|m+1,k=>(λ z=>z.elim,xy m _,)
def F_(hx:H x=At)(QC:H dx=At):az H (upd (upd H dx<|.own x) x<|.ins C dx []):=λ b o e=>by rw[av<|aY e hx,av<|aY e QC];show e
def RS.su{K:FM}(h:RS K H0 H O Y)(hx:H x=At)(s:az H H')(hu:H' x=AC u)(t:Be K H' kd ks vs u)(ui:i<Y.n):
 RS K (upd H0 x u) H' (O.set i<|some<|.ref x) (Y.set i<|some<|.bor<|Z.eK x kd ks vs):=by
 let h1:=h.up s;let n0:H0 x=At:=by
  cases e:H0 x with
  |none=>rfl
  |some o=>rw[h.same _ _ e]at hx;ext hx
 let ne:∀{q}{o},H q=AC o->q≠x:=λ e=>aY e hx;let getσ:∀j,i≠j->(O.set i<|some<|V.ref x)[j]?=O[j]?:=λ j hj=>A20 hj;let si:(O.set i<|some<|V.ref x)[i]?=AC (AC<|.ref x):=A39 (by rw[<-h.re.len];show ui);show(λ b o e=>?_,⟨by simp[h.re.len],λ j l e=>?_,λ j k xs ys q e1 e2 e3 e4=>?_⟩,λ j xs q e1 e2=>?_,λ j d e1=>?_,(λ j k ks ls q e1 e2 e3 e4=>?_,λ j ks q e1 e2=>?_,),)
 .by_cases hb:b=x
  .subst hb;rw[aE]at e;rw[hu];show e
  .rw[av hb]at e;show h1.same b o e
 .rcases aB e with⟨rfl,hl,e⟩|⟨hj,e⟩
  .ext e;show(.ref x,si,.inr ⟨x,kd,ks,vs,u,rfl,rfl,hu,t⟩,)
  .rw[getσ j hj];show h1.re.get j l e
 .rcases aB e1 with⟨_,_,e⟩|⟨hj,e1⟩
  .ext e
  .rcases aB e2 with⟨_,_,e⟩|⟨hk,e2⟩
   .ext e
   .rw[getσ j hj]at e3;rw[getσ k hk]at e4;show h.re.sep j k xs ys q e1 e2 e3 e4
 .rcases aB e1 with⟨_,_,e⟩|⟨hj,e1⟩
  .ext e
  .rw[getσ j hj]at e2;let(v,g1,a,ws,e,g2,_):=h.re.get j _ e1;rw[e2]at g1;ext g1 e;rw[av<|ne g2];show h.fresh j xs q e1 e2
 .rcases aB e1 with⟨rfl,_,e⟩|⟨hj,e1⟩
  .ext e;show(.ref x,si,.inr ⟨x,kd,ks,vs,u,rfl,rfl,aE⟩,)
  .rw[getσ j hj];let(v,g1,g2):=h.mj j d e1;show(v,g1,?_,);rcases g2 with g2|⟨a,kd',ks',ds,u',q1,q2,q3⟩
   .exact .inl<|g2.up<|b? n0
   .exact .inr ⟨a,kd',ks',ds,u',q1,q2,b? n0 _ _ q3⟩
 .rcases aB e1 with⟨_,_,e⟩|⟨hj,e1⟩
  .ext e
  .rcases aB e2 with⟨_,_,e⟩|⟨hk,e2⟩
   .ext e
   .rw[getσ j hj]at e3;rw[getσ k hk]at e4;show h.v?.1 j k ks ls q e1 e2 e3 e4
 .rcases aB e1 with⟨_,_,e⟩|⟨hj,e1⟩
  .ext e
  .rw[getσ j hj]at e2;let(v,g1,a,ws,e,g2,_):=h.re.get j _ e1;rw[e2]at g1;ext g1 e;rw[av<|ne g2];show h.v?.2 j ks q e1 e2
section
variable{rest:U η}
def NP{K:Da}(hC:nO K "Desk" C):i! K (upd (upd H dx<|.own x) x<|.ins C dx []) (Z.eK x 0 [] []) (.ref x):=.inr ⟨x,0,[],[],_,rfl,rfl,aE,.inl ⟨rfl,rfl,C,dx,[],rfl,hC,rfl,au.nil⟩⟩
end
def clsAt(s:η)(j:Nat):η:=match s with
|.ClassDef _ _ _ b _ _ _ _ _ _ _=>b.getD j<|.Pass ⟨0,0,0,0⟩
|s=>s
def fN(K:Frag)(C:δ)(m q:Str)(st:η):Prop:=∃(f:δ)(od an:ε δ)(sl:Array (ε ζ))(oc kV dc pm cd ct:ζ),findIn K (.ref C) m=AC (AC<|.ref f)/\K.lookup f=AC ⟨oc,od,.func<|fnOf m q (bp st) (aC st) (aa st) .none kV dc pm an cd ct,sl⟩/\codeIn K cd q=Ch/\keepIn K (.ref f)=Ch/\isFn K (.ref f)=Ch
section
variable{K:Frag}{st:η}
def fN.mk'{oc kV dc pm cd ct:ζ}(a:findIn K (.ref C) m=AC (AC<|.ref f))(l:K.lookup f=AC ⟨oc,od,.func<|fnOf m q (bp st) (aC st) (aa st) .none kV dc pm an cd ct,sl⟩)(c:codeIn K cd q=Ch)(k:keepIn K (.ref f)=Ch)(i:isFn K (.ref f)=Ch):fN K C m q st:=(f,od,an,sl,oc,kV,dc,pm,cd,ct,a,l,c,k,i,)
def fN.df(d:fN K C m q st)(hC:nO K "Desk" C)(hb:∀kV doc pm an a5 ct us,us.n=ps.n->bindArgs (fnOf m q (bp st) (aC st) (aa st) .none kV doc pm an a5 ct) ⟨us,[]⟩=pure (ps.zip us):=by show ZS.Q3):CY K m q st ps:=by let(f,od,an,sl,oc,kV,dc,pm,cd,ct,a,l,c,k,i):=d;let F:=tH l c k;show(C,f,_,hC,(a,i,k,),F,F.binds hb,)
def fN.di(d:fN K C "__init__" "Desk.__init__" st)(hC:nO K "Desk" C)(mk:makesIn K C=Ch)(kp:keepIn K (.ref C)=Ch)(hb:∀kV doc pm an a5 ct us,us.n=ps.n->bindArgs (fnOf "__init__" "Desk.__init__" (bp st) (aC st) (aa st) .none kV doc pm an a5 ct) ⟨us,[]⟩=pure (ps.zip us)):U7 K st ps:=by let(f,od,an,sl,oc,kV,dc,pm,cd,ct,a,l,c,k,i):=d;let F:=tH l c k;show(C,f,_,hC,(mk,a,i,kp,),F,F.binds hb,)
end
end ZS
namespace ZQ
open L2 ZS PySem.W
section
variable{st:η}
def lN(h:∀H1,QS X H1 st g):Hw X H0 ms as st (Z.bz ms g):=⟨ZS.lN λ H1=>(h H1).p⟩
end
section
variable{K:Da}
def UM{st:η}(lQ:bs.n=ps.n)(d:CY K m qual st ps)(hb:∀{f}{a5}{A}{outer}{s}{H}{E},N.Nodup->(A.deeper<|envOfC qual (aa st) s.heap.objs.size f a5).units+64<cLine->bu k (A.deeper<|envOfC qual (aa st) s.heap.objs.size f a5)->va (c! hV P w K mg base N qual (aa st) f a5 A outer s H E).gO H (aC st) b)(S:aW N ps (aa st):=by show ZS.Bb):yt P w K mg base m (k+1) ps bs (Z.As bs N.length b):=yt.mk' lQ d S λ f a5 A outer s H E hr=>(hb S.nd hr.units hr).p
def UL{st:η}(lQ:bs.n=ps.n)(d:CY K m qual st ps)(hb:∀{f}{a5}{A}{outer}{s}{H}{E},N.Nodup->(A.deeper<|envOfC qual (aa st) s.heap.objs.size f a5).units+64<cLine->bu k (A.deeper<|envOfC qual (aa st) s.heap.objs.size f a5)->A8 (c! (Fc P w) P w K mg base N qual (aa st) f a5 A outer s H E) H (aC st) xb)(S:aW N ps (aa st):=by show ZS.Bb):ug P w K mg base m (k+1) ps bs (Z.QR bs N.length xb):=ug.mk' lQ d S λ f a5 A outer s H E hr=>(hb S.nd hr.units hr).p
def UN{st:η}(lQ:ps.n=2)(d:U7 K st ps)(hb:∀{f}{a5}{A}{outer}{s}{H H0}{as}{E},N.Nodup->(A.deeper<|envOfC "Desk.__init__" (aa st) s.heap.objs.size f a5).units+64<cLine->bu k (A.deeper<|envOfC "Desk.__init__" (aa st) s.heap.objs.size f a5)->kJ (c! hV P w K mg base N "Desk.__init__" (aa st) f a5 A outer s H E).gO H0 [0] as (aC st) b)(S:aW N ps (aa st):=by show ZS.Bb):Ha P w K mg base (k+1) ps N.length (Z.Ar [0] [Ch,AT] N.length b):=Ha.mk' lQ d S λ f a5 A outer s H H0 as E hr=>(hb S.nd hr.units hr).p
end
end ZQ
namespace ZS
open L2 PySem.W
section
variable{K:Frag}{st:η}
def Y!(d:fN K C "__init__" q st)(xj:Mc K C=Ch)(kp:keepIn K (.ref C)=Ch)(ef:yr K C)(ht:findIn K (.ref C) as=AC At)(ha:(⟨a.q⟩)=as)
 (hb:aC st=[.Assign [.Attribute (.Name "self" p1) as p2] (.Name as p3) p4])
 (hbd:∀kV doc pm an a5 ct us,us.n=2->bindArgs (fnOf "__init__" q (bp st) (aC st) (aa st) .none kV doc pm an a5 ct) ⟨us,[]⟩=pure ((["self",as]:U Str).zip us))
 (S:aW ["self",as] ["self",as] (aa st)) (hv:∀x∈(["self",as]:U Str),Lp (aa st) x) (hd:Nd as) (hc:(as==("__classdict__"))=AT):U' P w K mg base C 1 [a]:=by
 let(f,od,an,sl,oc,kV,dc,pm,cd,ct,e1,l,c,k,i):=d;let F:=tH l c k;show(f,fnOf "__init__" q (bp st) (aC st) (aa st) .none kV dc pm an cd ct,xj,kp,e1,i,?_,?_,)
 .rw[A00,A28,ha];show XO ef ht F hb S hv hd hc
 .rw[A00,A28,ha];show F.binds hbd
def OH(h1:nsIn K mainGlobals ⟨c.q⟩=AC (AC<|.ref C))(h2:PU K C)(h3:yr K C)(h4:findIn K (.ref C) f=AC At):U8 K f c:=(C,h1,h2,h3,h4,)
def Mj{l:U Str}(h:∀x∈l,sc.names.lookup x=AC .local):∀x∈l,Lp sc x:=λ x hx=>.inl<|h x hx
end
def vo:∀is ts Y,(Z.dR is ts Y).length=Y.n
|[],_,_=>rfl
|_::_,[],_=>rfl
|i::is,t::ts,Y=>by change(Z.dR is ts _).length=_;rw[vo];simp
def jw:∀is ts Y {j},j∉is->(Z.dR is ts Y)[j]?=Y[j]?
|[],_,_,_,_=>rfl
|_::_,[],_,_,_=>rfl
|i::is,t::ts,Y,j,h=>by change(Z.dR is ts _)[j]?=_;rw[jw is ts _ λ z=>h<|A09 _ z,A20 λ z=>h (by rw[z];simp)]
def Ir{S:δ->Z.D->Prop}:∀{is}{as}{ts}{Y}{j},is.Nodup->(∀i∈is,i<Y.n)->Paired R is as->Paired S as ts->j∈is->∃a t,a∈as/\R j a/\S a t/\(Z.dR is ts Y)[j]?=AC (AC<|.bor t):=by
 intro is as ts Y j nd hl p q h
 induction p generalizing ts Y with
 |nil=>ext h
 |@cons i a is as r tr ih=>
  cases q with|@cons _ t _ ts s tS=>
  let qr:=A19.mp nd;rcases A01.mp h with e|h
  .subst e;show(a,t,.head _,r,s,?_,);change(Z.dR is _ _)[j]?=_;rw[jw is _ _ qr.1,A39<|hl j ∅]
  .let(a',t',h1,h2,h3,h4):=ih (Y:=Y.set i (AC<|.bor t)) qr.2 (λ k hk=>by calc hl k (by simp[hk])) tS h;show(a',t',.tail _ h1,h2,h3,h4,)
section
variable{K:Da}
abbrev VO(Y:Z.Env)(i:Nat)(a:δ):Prop:=∃kd ks vs,Y[i]?=AC (AC<|.bor<|Z.eK a kd ks vs)
def kU:∀{l}{m}{y},Paired R l m->y∈m->∃x∈l,R x y:=by
 intro l m y p h
 induction p with
 |nil=>ext h
 |cons r t ih=>
  rcases A01.mp h with rfl|h
  .exact⟨_,.head _,r⟩
  .let(x,h1,h2):=ih h;show(x,.tail _ h1,h2,)
def RM.pick(h:RM K H0 ms as H O Y):∀{is},(∀i∈is,i∈ms)->is.Nodup->∃u?,Paired (VO Y) is u?/\u?.Nodup/\∀a∈u?,a∈as
|[],_,_=>⟨[],.nil,by simp,λ a h=>by simp at h⟩
|i::is,hs,nd=>by
 let qr:=A19.mp nd;let(u?,p,n,s):=h.pick (λ k hk=>hs k (by simp[hk])) qr.2;let(a,ha,r):=dA h.at_ (hs i ∅);show(a::u?,.cons r p,A19.mpr ⟨λ z=>?_,n⟩,λ b hb=>?_,)
 .let(j,hj,r2):=kU p z;let(_,_,_,r):=r;let(_,_,_,r2):=r2;let:=h.uniq r r2;subst this;show qr.1 hj
 .rcases A01.mp hb with rfl|hb
  .exact ha
  .exact s b hb
def RM.Qn(h:RM K H0 ms as H O Y)(hb:b∈as):(∀xs,H b≠AC (.tup xs))/\∀o u,H b≠AC (.dW o u):=by let(i,_,_,_,_,hi):=kU h.at_ hb;let(_,u,q,t):=h.thing hi;show(λ xs z=>t.mb.1 xs<|f8<|q.symm.trans z,λ o x z=>t.mb.2 o x<|f8<|q.symm.trans z,)
def Bf(as:U δ)(H H':Hp):Prop:=∀b o,b∉as->H b=AC o->H' b=AC o
def Bf.of(s:az H H'):Bf as H H':=λ b o _ e=>s b o e
def Bf.trans{H2:Hp}(a:Bf as H H')(b:Bf as H' H2):Bf as H H2:=λ c o hc e=>b c o hc<|a c o hc e
def RM.i_(h:RM K H0 ms as H O Y)(s:Bf as H H'):gm H H':=(λ b xs e=>s b _ (λ z=>(h.Qn z).1 xs e) e,λ b o u e=>s b _ (λ z=>(h.Qn z).2 o u e) e,)
def RM.call(h:RM K H0 ms as H O Y)(hs:∀i∈is,i∈ms)(nd:is.Nodup)(p:Paired (VO Y) is u?)(sub:∀a∈u?,a∈as)(sm:az (wipe H u?) H')(th:TH K H' u? ts):
 Bf as H H'/\RM K H0 ms as H' O (Z.dR is ts Y):=by
 let keep:∀b o,b∉u?->H b=AC o->H' b=AC o:=λ b o n e=>sm b o (by change(if b∈u? then At else H b)=_;rw[W1 n];show e);let m1:Bf as H H':=λ b o n e=>keep b o (λ z=>n<|sub b z) e;let st:=h.i_ m1;let hl:∀i∈is,i<Y.n:=λ i hi=>by let(a,_,_,_,_,q):=dA p hi;show(A02.mp q).1
 let new:∀{j},j∈is->∃a kd ks vs u,a∈u?/\VO Y j a/\H' a=AC u/\Be K H' kd ks vs u/\(Z.dR is ts Y)[j]?=AC (AC<|.bor<|Z.eK a kd ks vs):=λ {j} hj=>by let(a,t,ha,r,(kd,ks,vs,u,e,q,o),g):=Ir (Y:=Y) nd hl p th hj;subst e;show(a,kd,ks,vs,u,ha,r,q,o,g,)
 let old:∀{j}{l},(Z.dR is ts Y)[j]?=AC (AC l)->j∉is->Y[j]?=AC (AC l):=λ {j l} e hj=>by rw[jw is ts Y hj]at e;show e
 let off:∀{j:Nat}{a:δ},j∉is->VO Y j a->a∉u?:=λ {j a} hj ⟨_,_,_,r⟩ z=>by let(i,hi,_,_,_,r2):=kU p z;show hj (by rw[h.uniq r r2];show hi)
 let fr:∀{q:δ},over H0 H as q=At->q∉as/\over H0 H' as q=At:=λ {q} e=>by
  let n:q∉as:=λ z=>by let(u,hu):=h.tracked z;rw[bW z,hu]at e;ext e
  show⟨n,by rw[cj n]at e ⊢;show e⟩
 let thing:∀{j:Nat}{d:Z.D},Y[j]?=AC (AC<|.bor d)->∃a kd ks vs,d=Z.eK a kd ks vs:=λ {j d} hj=>by
  let hm:j∈ms:=by let:=eA h.no hj trivial;simpa using this
  let(a,_,kd,ks,vs,q):=dA h.at_ hm;rw[hj]at q;injection q with q;injection q with q;injection q with q
  show(a,kd,ks,vs,q,)
 let σat:∀{j:Nat}{a:δ},VO Y j a->O[j]?=AC (AC<|.ref a):=λ⟨_,_,_,q⟩=>(h.thing q).1;show(m1,(?_,?_,?_,h.nd,h.h0,),)
 .refine⟨λ b o e=>?_,⟨by rw[vo];show h.rs.re.len,λ j l e=>?_,λ j k xs ys q e1 e2 e3 e4=>?_⟩,λ j xs q e1 e2=>?_,λ j d e1=>?_,⟨λ j k ks ls q e1 e2 e3 e4=>?_,λ j ks q e1 e2=>?_⟩⟩
  .by_cases hb:b∈as
   .rw[bW hb]at e;show e
   .rw[cj hb]at e;show m1 b o hb<|h.same b o e
  .by_cases hj:j∈is
   .let(a,kd,ks,vs,u,ha,r,q,o,g):=new hj;rw[g]at e;ext e;show(.ref a,σat r,.inr ⟨a,kd,ks,vs,u,rfl,rfl,q,o⟩,)
   .let e:=old e hj;let(v,e1,r):=h.rs.re.get j l e;show(v,e1,?_,);cases l with
    |val d=>show Den.ups (show Den K H d v from r) st
    |own zs=>let(q',ws,rfl,fQ,t'):=r;show(q',ws,rfl,m1 _ _ (fr<|h.rs.fresh j zs q' e e1).1 fQ,t'.ups st,)
    |bor d=>let(a,kd,ks,vs,rfl):=thing e;let(s1,u,q,t):=h.thing e;rw[s1]at e1;ext e1;show .inr ⟨a,kd,ks,vs,u,rfl,rfl,keep _ _ (off hj ⟨_,_,_,e⟩) q,t.ups st⟩
    |dc ks=>let(q',as2,rfl,fQ,t'):=r;show(q',as2,rfl,m1 _ _ (fr<|h.rs.v?.2 j ks q' e e1).1 fQ,t'.ups st,)
    |Ko ks=>let(q',o',as2,rfl,fQ,t'):=r;show(q',o',as2,rfl,st.dW _ _ _ fQ,t'.ups st,)
    |Tj ps=>let(q',o',rfl,fQ):=r;show(q',o',rfl,st.dW _ _ _ fQ,)
    |exc c=>let(q',o',u',C',rfl,fQ,r1,r2,r3):=r;show(q',o',u',C',rfl,st.dW _ _ _ fQ,r1,r2,r3.ups st,)
  .let no:∀{j:Nat}{zs:U Z.D},(Z.dR is ts Y)[j]?=AC (AC<|.own zs)->Y[j]?=AC (AC<|.own zs):=λ {j zs} e=>old e λ hj=>by let(a,kd,ks,vs,u,ha,r,q,o,g):=new hj;rw[g]at e;ext e
   show h.rs.re.sep j k xs ys q (no e1) (no e2) e3 e4
  .let hj:j∉is:=λ hj=>by let(a,kd,ks,vs,u,ha,r,q,o,g):=new hj;rw[g]at e1;ext e1
   show(fr<|h.rs.fresh j xs q (old e1 hj) e2).2
  .by_cases hj:j∈is
   .let(a,kd,ks,vs,u,ha,r,q,o,g):=new hj;rw[g]at e1;ext e1;show(.ref a,σat r,.inr ⟨a,kd,ks,vs,u,rfl,rfl,by rw[bW<|sub a ha];show q⟩,)
   .let e:=old e1 hj;let(a,kd,ks,vs,rfl):=thing e;let(s1,u,q,t):=h.thing e;show(.ref a,s1,.inr ⟨a,kd,ks,vs,u,rfl,rfl,by rw[bW<|h.mem e];show keep _ _ (off hj ⟨_,_,_,e⟩) q⟩,)
  .let no:∀{j:Nat}{zs:Z.DK},(Z.dR is ts Y)[j]?=AC (AC<|.dc zs)->Y[j]?=AC (AC<|.dc zs):=λ {j zs} e=>old e λ hj=>by let(a,kd,ks,vs,u,ha,r,q,o,g):=new hj;rw[g]at e;ext e
   show h.rs.v?.1 j k ks ls q (no e1) (no e2) e3 e4
  .let hj:j∉is:=λ hj=>by let(a,kd,ks,vs,u,ha,r,q,o,g):=new hj;rw[g]at e1;ext e1
   show(fr<|h.rs.v?.2 j ks q (old e1 hj) e2).2
 .refine cC h.at_ λ i hi a r=>?_;by_cases hj:i∈is
  .let(a2,kd,ks,vs,u,ha,r2,q,o,g):=new hj;let:=CT i _ _ r r2;subst this;show(kd,ks,vs,g,)
  .let(kd,ks,vs,r):=r;show⟨kd,ks,vs,by rw[jw is ts Y hj];show r⟩
 .refine k! λ j x e t=>?_;rw[B19];by_cases hj:j∈is
  .exact hs j hj
  .rw[jw is ts Y hj]at e;let:=eA h.no e t;calc this
end
def sf:∀k {bs}{ds}{as},ds.n=bs.n->Paired (λ(d)(a:δ)=>∃kd ks vs,d=Z.eK a kd ks vs) (Z.BH bs ds) as ->
 Paired (λ(i)(a)=>∃kd ks vs,k<=i/\(al (λ b d=>AC<|Z.qV b d) bs ds)[i-k]?=AC (AC<|.bor<|Z.eK a kd ks vs)) (Z.i8 k bs) as
|k,[],[],_,_,.nil=>.nil
|k,Ch::bs,d::ds,_,hl,.cons r t=>by
 let(kd,ks,vs,rfl):=r;show .cons ⟨kd,ks,vs,P3 _,by simp[Z.eK,Z.qV]⟩ ?_;show cC (sf _ (by calc hl) t) λ i _ a ⟨kd,ks,vs,h1,h2⟩=>⟨kd,ks,vs,Nat.le_of_succ_le h1,?_⟩
 rw[show i-k=(i-(k+1))+1 from (Nat.sub_add_cancel<|Nat.sub_pos_of_lt h1).symm];calc h2
|k,AT::bs,d::ds,_,hl,p=>by
 show cC (sf (k+1) (by calc hl) p) λ i _ a ⟨kd,ks,vs,h1,h2⟩=>⟨kd,ks,vs,Nat.le_of_succ_le h1,?_⟩
 rw[show i-k=(i-(k+1))+1 from (Nat.sub_add_cancel<|Nat.sub_pos_of_lt h1).symm];calc h2
def D3:∀{a}{k},Z.mZ ms k a->Z.mZ ms (k+a.n) b->Z.mZ ms k (a++b)
|[],_,_,h=>h
|x::a,k,h,g=>(h.1,D3 h.2 (by rw[show k+1+a.n=k+(x::a).length from by simp;lia];show g),)
def xx:∀k bs ds ms,(∀i∈Z.i8 k bs,i∈ms)->Z.mZ ms k (al (λ b d=>AC<|Z.qV b d) bs ds)
|_,[],_,_,_=>by simp[Z.mZ]
|_,_::_,[],_,_=>by simp[Z.mZ]
|k,Ch::bs,d::ds,ms,h=>(λ _=>h k (by simp[Z.i8]),xx _ bs ds ms λ i hi=>h i (by simp[Z.i8,hi]),)
|k,AT::bs,d::ds,ms,h=>⟨λ z=>by
 let:Z.qV AT d=.val d:=by ext d<;>rfl
 change Z.xG (AC _)at z;rw[this]at z;show z.elim,xx _ bs ds ms λ i hi=>h i (by simpa[Z.i8]using hi)⟩
def tME(K:Da)(H0:Hp)(ms:U Nat)(as:U δ)(f:Z.VM):TE:=λ O H Q=>∃Y d Y',RM K H0 ms as H O Y/\f Y=.ok (d,Y')/\∀v H',Bf as H H'->RM K H0 ms as H' O Y'->Den K H' d v->Q v H'
def tMT(K:Da)(H0:Hp)(ms:U Nat)(as:U δ)(f:Z.Zm):TT:=λ O H Q=>∃Y b Y',RM K H0 ms as H O Y/\f Y=.ok (b,Y')/\∀H',Bf as H H'->RM K H0 ms as H' O Y'->Q b H'
abbrev ME(X:Cx)(H0:Hp)(ms:U Nat)(as:U δ)(e:ι)(f:Z.VM):Prop:=PE X e<|tME X.K H0 ms as f
structure ZQ.VH(X:Cx)(H0:Hp)(ms:List Nat)(as:List Addr)(e:Expr)(f:Z.VM):Prop where p:ME X H0 ms as e f
abbrev MT(X:Cx)(H0:Hp)(ms:U Nat)(as:U δ)(e:ι)(f:Z.Zm):Prop:=PT X e<|tMT X.K H0 ms as f
structure ZQ.Zp(X:Cx)(H0:Hp)(ms:List Nat)(as:List Addr)(e:Expr)(f:Z.Zm):Prop where p:MT X H0 ms as e f
structure qL(P:Program)(w:World)(K:Da)(mg:Str->Option Value)(base:Heap)(x:Str)(k:Nat)(ps:List Str)(bs:List Bool)(n:Nat)(fn:List Z.D->Z.Res (Z.D×List Z.D)):Prop where
 ex:∃g fd,ee P w K mg base hV k g fd ps (P? K (Z.i8 0 bs) bs n fn)/\mg x=AC (.ref g)/\FS K (.ref g)=Ch/\Binds K fd ps []
structure uh(P:Program)(w:World)(K:Da)(mg:Str->Option Value)(base:Heap)(m:Str)(k:Nat)(ps:List Str)(bs:List Bool)(n:Nat)(fn:List Z.D->Z.Res (Z.D×List Z.D)):Prop where
 ex:∃C g fd,nO K "Desk" C/\Meth K C m g/\ee P w K mg base hV k g fd ps (P? K (Z.i8 0 bs) bs n fn)/\Binds K fd ps []
section
variable{K:Da}
def qL.mk'{st:η}(lQ:bs.n=ps.n)(d:Def K mg x st ps)(S:aW N ps (aa st))
 (hb:∀ f a5 A outer s H H0 as E,bu k (A.deeper<|envOfC x (aa st) s.heap.objs.size f a5) ->
  Zt (c! hV P w K mg base N x (aa st) f a5 A outer s H E).gO H0 (Z.i8 0 bs) as (aC st) b):qL P w K mg base x (k+1) ps bs N.length (Z.Ar (Z.i8 0 bs) bs N.length b):=by
 let(f,fd,F,hm,uk):=d.ex;show(f,fd,T_ lQ F S<|hb f,hm,F.kp,uk,)
def uh.mk'{st:η}(lQ:bs.n=ps.n)(d:CY K m qual st ps)(S:aW N ps (aa st))
 (hb:∀ f a5 A outer s H H0 as E,bu k (A.deeper<|envOfC qual (aa st) s.heap.objs.size f a5) ->
  Zt (c! hV P w K mg base N qual (aa st) f a5 A outer s H E).gO H0 (Z.i8 0 bs) as (aC st) b):uh P w K mg base m (k+1) ps bs N.length (Z.Ar (Z.i8 0 bs) bs N.length b):=by
 let(C,f,fd,hC,hm,F,uk):=d.ex;show(C,f,fd,hC,hm,T_ lQ F S<|hb f,uk,)
end
section
variable{X:Cx}
def A1{K:FM}(rm:RM K H0 ms as H O Y)(hs:∀i∈is,i∈ms)(nd:is.Nodup)(d1:iW K H bs ds vs)(XX:Z.BH bs ds=Z.g0 is Y)(er:fn ds=.ok r)
 (k:∀v H',Bf as H H'->RM K H0 ms as H' O (Z.dR is r.2 Y)->Den K H' r.1 v->Q v H'):P? K (Z.i8 0 bs) bs n fn vs H Q E:=by
 let(u?,p,n',sub):=rm.pick hs nd;let p2:Paired (λ(d)(a)=>∃kd ks vs,d=Z.eK a kd ks vs) (Z.BH bs ds) u?:=by
  rw[XX];let key:∀{l}{m},Paired (VO Y) l m->Paired (λ(d)(a)=>∃kd ks vs,d=Z.eK a kd ks vs) (Z.g0 l Y) m:=by
   intro l m q
   induction q with
   |nil=>show .nil
   |cons r t ih=>let(kd,ks,vs,hi):=r;show .cons ⟨kd,ks,vs,by change Z.ZM _=_;rw[hi];rfl⟩ ih
  show key p
 let(_s,Hs):=d1.n;let st:=sf 0 Hs p2;show(ds,u?,r.1,r.2,d1,n',cC st λ i _ a ⟨kd,ks,vs,_,q⟩=>(kd,ks,vs,?_,),?_,er,λ v H' s2 th dv=>?_,)
 .rw[Nat.sub_zero]at q;unfold Z.startB;rw[A23 (A02.mp q).1];show q
 .exact D3 (xx 0 bs ds _ λ i h=>h)<|xy _ _
 .let(m1,Dx):=rm.call hs nd p sub s2 th;show k v H' m1 Dx dv
theorem ZQ.D?(C:qL X.prog X.w X.K X.mg X.base x k ps bs n fn)(hr:bu k X.A)(hg:Gl X x)(hs:∀i∈is,i∈ms)(nd:is.Nodup)
 (ha:ZQ.Ls X (e::es) bs ar) (ie:Nd x:=by kernel_rfl) (he:Se e es X.J:=by rfl) (fC:Pn pos es X.J:=by rfl) :
 ZQ.VH X H0 ms as (.Call (.Name x p1) (e::es) [] pos) (Z.gu fn bs is ar):=⟨by
 let(g,fd,F,hm,hk,hb):=C.ex;show PE.imp (xm F hr hg hm hk hb .nil sI ha.p ie he fC) ?_;rintro O H Q ⟨Y,d,Y',rm,e,k⟩;let(ds,ea,e):=ac e;let(XX,e):=Z.bI e;let(r,er,e):=ac e;let(ψ,e):=Z.bI e;ext e;show(Y,ds,rm.rs.re,ea,λ vs H1 s1 d1=>?_,);change P? X.K _ bs n fn _ H1 Q E0;rw[A52];show A1 (rm.up s1) hs nd d1 XX er λ v H' m1 Dx dv=>k v H' ((Bf.of s1).trans m1) Dx dv⟩
theorem ZQ.xD(C:uh X.prog X.w X.K X.mg X.base m k ps (Ch::bs) n fn)(hr:bu k X.A)(ho:ZQ.QM X 0 o fo)(hf:Dn m)(hs:∀i∈is,i∈ms)(nd:is.Nodup)(ha:ZQ.Ls X (e::es) bs ar)
 (oO:Se e es X.J:=by rfl) (fC:Pn pos es X.J:=by rfl)
 (ht:Mt o m apos (e::es) pos pl X.J:=by rfl) :
 ZQ.VH X H0 ms as (.Call (.Attribute o m apos) (e::es) [] pos) (Z.gu fn (Ch::bs) is<|Z.ai fo ar):=⟨by
 let(C,g,fd,hC,hm,F,hb):=C.ex;show PE.imp (DR ho.p hC.2 hm F hr hb .nil sI ha.p oO fC ht) ?_;rintro O H Q ⟨Y,d,Y',rm,e,k⟩;let(ds,ea,e):=ac e;let(XX,e):=Z.bI e;let(r,er,e):=ac e;let(ψ,e):=Z.bI e;ext e;let(x,ex,ea):=ac ea;let(xs,en,ea):=ac ea;ext ea;show(Y,x,rm.rs.re,ex,λ v H1 s1 d1=>?_,);let(a,ks,ds,u,rfl,rfl,q,t):=id d1;rcases t.two ∅with⟨_,hk,C',dx,fs,rfl,Ez,h3,h4⟩|⟨z,_⟩
 .let:=Ez.1.symm.trans hC.1;ext this;rw[hk]at h3;show(a,dx,fs,rfl,q,lO h3 hf,Y,xs,rm.rs.re.up s1,en,λ vs H2 s2 d2=>?_,);change P? X.K (Z.i8 0<|true::bs) (Ch::bs) n fn (.ref a::(vs++[])) H2 Q E0;rw[A52];show A1 ((rm.up s1).up s2) hs nd (ds:=Z.eK a 0 ks ds::xs) ⟨_,_,rfl,(d1.up s2).b,d2⟩ XX er λ v H' m1 Dx dv=>k v H' (((Bf.of s1).trans<|Bf.of s2).trans m1) Dx dv
 .ext z⟩
def ZQ.Jr(h:ZQ.QT X e t):ZQ.Zp X H0 ms as e (Z.uJ t):=⟨PT.imp h.p <|by rintro O H Q ⟨Y,d,Y',rm,e,k⟩;let(x,ea,e):=ac e;ext e;show(Y,d,rm.rs.re,ea,λ H1 s1=>k H1 (Bf.of s1)<|rm.up s1,)⟩
def ZQ.Xl(h:ZQ.VH X H0 ms as e fa)(he:∀whole,isTrue e X.env whole=(do let v ←whole;standAt e.pos;holding [v] (truthy v)):=by intro _;rfl):ZQ.Zp X H0 ms as e (Z.Xm fa):=⟨PT.imp (Iw h.p he) <|by
 rintro O H Q ⟨Y,b,Y',rm,e,q⟩;let((x,Y1),ea,e):=ac e;show(Y,x,Y1,rm,ea,λ v H' m sC d=>?_,);dsimp only at e;split at e
 .ext e;erw[Den]at d;show(_,d,q H' m sC,)
 .ext e⟩
def ZQ.Js(h:ZQ.Zp X H0 ms as a ta):ZQ.Zp X H0 ms as (.UnaryOp .Not a pos) (Z.zS ta):=⟨PT.imp (Iy h.p) <|by rintro O H Q ⟨Y,b,Y',rm,e,q⟩;let((x,Y1),ea,e):=ac e;ext e;show(Y,x,Y1,rm,ea,λ H' m sC=>q H' m sC,)⟩
end
section
variable{K:Da}
def RM.uC(h:RM K H0 ms as H O Y)(hd:Den K H d v)(hi:i∉ms):RM K H0 ms as H (O.set i<|some v) (Y.set i<|some<|.val d):=by
 show(h.rs.uC hd,cC h.at_ λ j hj a ⟨kd,ks,vs,q⟩=>(kd,ks,vs,?_,),k! λ j x e t=>?_,h.nd,h.h0,)
 .rw[A20 λ z=>hi (by rw[z];show hj)];show q
 .by_cases nQ:i=j
  .subst nQ;by_cases hl:i<Y.n
   .rw[A39 hl]at e;ext e;show t.elim
   .rw[B16 (by calc hl)]at e;ext e
  .rw[A20 nQ]at e;show eA h.no e t
end
section
variable{st:η}
def ZQ.lM:ZQ.kJ X H0 ms as [] Z.dU:=⟨pq.imp DC <|by rintro D O H ⟨Y,fl,rm,e,k⟩;ext e;show k O H (gm.refl H) rm⟩
def ZQ.SQ:ZQ.Hw X H0 ms as st (λ _=>.bad):=⟨by rintro _ _ _ _ _ _ ⟨_,_,_,e,_⟩;show nomatch e⟩
theorem ZQ.SN(hN:X.N.Nodup)(hi:X.N[i]?=AC x)(hx:Loc X.env.scope x)(hm:i∉ms)(he:ZQ.VH X H0 ms as a fa)(hs:Sn a x pos' pos X.J:=by rfl)(hf:Fl X x:=by trivial):
 ZQ.Hw X H0 ms as (.Assign [.Name x pos'] a pos) (Z.NT i fa):=⟨PS.imp (pM hN hi hx he.p hs hf) <|by
 rintro D O H ⟨Y,fl,rm,e,k⟩;let((d,Y'),ea,e):=ac e;ext e;show(Y,d,Y',rm,ea,λ v H' m sC dv=>k _ H' (rm.i_ m)<|sC.uC dv hm,)⟩
def ZQ.rq(h:ZQ.VH X H0 ms as a fa)(hs:swapsWith a At pos.line X.J=pure AT:=by rfl):ZQ.Hw X H0 ms as (.Expr a pos) (Z.jA fa):=⟨PS.imp (oy h.p hs) <|by rintro D O H ⟨Y,fl,rm,e,k⟩;let((d,Y'),ea,e):=ac e;ext e;show(Y,d,Y',rm,ea,λ v H' m sC dv=>k O H' (rm.i_ m) sC,)⟩
def ZQ.vK(hc:ZQ.Zp X H0 ms as c t)(h1:ZQ.kJ X H0 ms as b1 g)(h2:ZQ.kJ X H0 ms as b2 u):ZQ.Hw X H0 ms as (.If c b1 b2 pos) (Z.ic t g u):=⟨PS.imp (IC hc.p h1.p h2.p) <|by
 rintro D O H ⟨Y,fl,rm,e,k⟩;let((x,Y1),ea,e):=ac e;show(Y,x,Y1,rm,ea,λ H1 m1 sC=>?_,);dsimp only at e;cases x with
 |true=>erw[A35]at e ⊢;show(Y1,fl,sC,e,k.up<|rm.i_ m1,)
 |false=>erw[A61]at e ⊢;show(Y1,fl,sC,e,k.up<|rm.i_ m1,)⟩
def tMG(K:Da)(H0:Hp)(ms:U Nat)(as:U δ)(g:Z.GF):TG:=λ v O H Q=>∃Y d Y',RM K H0 ms as H O Y/\Den K H d v/\g d Y=.ok Y'/\Z.dB ms Y Y'/\∀O' H',gm H H'->RM K H0 ms as H' O' Y'->Q O' H'
def NR(h:∀H1,DG X H1 tg G):PG X tg (tMG X.K H0 ms as G):=by intro B s O H v u Q I r w;let(Y,d,Y',rm,hd,e,kt,k):=w;show h _ B s O H v u Q I r ⟨Y,d,Y',rm.ovR,hd,e,λ O' H' s r'=>k O' H' (i_ s)<|rm.back kt r'⟩
def ZQ.Jx(hp:PassesOwn (model X.prog X.w) X.A X.env X.xe)(hc:X.calm=Ch)(hi:ZQ.QJ X tg iter it)(hg:∀H1,ZQ.QG X H1 tg G)(hb:ZQ.kJ X H0 ms as body g)
 (hs:Fi iter X.J:=by intro _;rfl):ZQ.Hw X H0 ms as (.For tg iter body [] pos) (Z.SW ms it G g):=⟨have hg:=λ H1=>(hg H1).p;PS.imp (ID hp hc hi.p (NR hg) hb.p hs) <|by
 rintro D O H ⟨Y,fl,rm,e,k⟩;let(ds,ei,e):=ac e;show(Y,ds,rm.rs.re,ei,λ J H1 s1 z=>?_,);show(λ i m O' H'=>m=ds.n-i/\i<=ds.n/\∃Y',RM X.K H0 ms as H' O' Y'/\gm H1 H'/\Z.tJ ms G g (ds.drop i) Y'=.ok fl,⟨ds.n,by simp,A57 _,Y,rm.up s1,gm.refl H1,by calc e⟩,?_,);rintro i m O2 H2 ⟨rfl,ui,Y2,r2,s2,e2⟩;by_cases jO:i<ds.n
 .obtain⟨d,hd⟩:∃d,ds[i]?=AC d:=⟨ds[i],by simp[jO]⟩
  let tj:ds.drop i=d::ds.drop (i+1):=by
   rw[A99 jO];let:ds[i]=d:=by let:=A04 jO;rw[this]at hd;show f8 hd
   rw[this]
  rw[tj]at e2;let(Y3,eg,e2):=ac e2;let(kt,e2):=Z.bI e2;let(f3,eb,e2):=ac e2;show .inr ⟨z.go i d H2 s2 hd,λ O' H'=>∃Y',RM X.K H0 ms as H' O' Y'/\gm H1 H'/\Z.tJ ms G g _ Y'=.ok fl,λ O' H' w=>⟨_,by lia,rfl,jO,w⟩,λ x H3 y=>?_⟩;let(sy,dx):=z.Bh i d H2 H3 x s2 hd y;replace s2:=s2.trans<|i_ sy;show(Y2,d,Y3,r2.up sy,dx,eg,kt,λ σ4 H4 s4 r4=>(Y3,f3,r4,eb,?_,),);cases f3 with
  |nx Y5=>show λ O5 H5 s5 r5=>(Y5,r5,(s2.trans s4).trans s5,e2,)
  |rt d5 ts5=>ext e2;show k
 .let:i=ds.n:=by lia
  subst this;rw[B68]at e2;ext e2;show .inl ⟨z.stop H2 s2,k O2 H2 ((i_ s1).trans s2) r2⟩⟩
theorem ZQ.GL{rest:U η}(C:Ha X.prog X.w X.K X.mg X.base k ps n fn)(hr:bu (k+1) X.A)(hg:Gl X "Desk")(hN:X.N.Nodup)(hi:X.N[i]?=AC y)(hy:Loc X.env.scope y)
 (he:ZQ.QE X e fe) (iI:∀H1 as,ZQ.kJ X H1 [i] as rest r) (hs:swapsWith (.Call (.Name "Desk" p1) [e] [] gF) (AC<|.Name y pos') pos.line X.J=pure AT:=by rfl) (hf:X.fn y=Ch\/X.env.scope.names.lookup y=AC .local:=by first| show .inl rfl| show .inr rfl| assumption)
 (h1:Se e [] X.J:=by rfl) (fC:Pn gF [] X.J:=by rfl) :
 ZQ.va X H0 (.Assign [.Name y pos'] (.Call (.Name "Desk" p1) [e] [] gF) pos::rest) (Z.w! i fn fe r):=⟨by
 let iI:=λ H1 as=>(iI H1 as).p;let(C,f,fd,hC,M,F,hb):=C.ex;intro B s O H D I w;let hm:=A31 (mg:=X.mg) (h:=s.e) I.lP (I.mod.glob.keeps I.bk) hC.1;let hR:pq X rest (λ D O H=>∃H1 as,tM X.K H1 [i] as r D O H):=by rintro B s O H D I ⟨H1,as,w⟩;show iI H1 as B s O H D I w
 let(Y,fl,rs,e,k):=w;let(d,ed,e):=ac e;let(fs,ef,e):=ac e;let(Hq,e):=Z.bI e;let ef:=Z.JD ef;let(dr,rfl,er):=Z.PB e;let ui:i<Y.n:=by rw[rs.re.len,I.len];show(A02.mp hi).1
 show iE (pM hN hi hy (M8 M F hr hg hm hb .nil sI (bw he.p cE h1) (by decide +kernel) h1 fC) hs hf) hR B s O H D I ?_;show(Y,d,rs.re,ed,λ v H1 s1 dv x dx hx QC ne=>?_,);let sm:=F_ (C:=C) hx QC;show⟨[Z.eK x 0 [] [],d],[x],.non,[Z.eK x 0 Z.c9 fs],(_,_,rfl,NP hC,_,_,rfl,Den.up dv sm,rfl,),by simp,.cons ⟨0,[],[],rfl⟩ .nil,⟨λ _=>by simp,λ z=>z.elim,xy _ _⟩,ef x,λ v' H' s2 th dn=>?_⟩;show⟨by simpa only[Den]using dn,?_⟩;let nx:H x=At:=by
  cases q:H x with
  |none=>rfl
  |some o=>rw[s1 _ _ q]at hx;ext hx
 let s3:az H H':=λ b o q=>s2 b o (by let hb:b≠x:=aY q nx;change(if b∈[x]then At else _)=_;rw[W1 (by calc hb)];show sm _ _<|s1 _ _ q)
 let n0:H0 x=At:=by
  cases e:H0 x with
  |none=>rfl
  |some o=>rw[rs.same _ _ e]at nx;ext nx
 cases th with
 |cons r0 _=>
  let(kd,ks,vs,u,e1,hu,t):=r0;let(_,rfl,rfl,rfl):=n4 e1;let rs2:=rs.su (i:=i) nx s3 hu t ui;let X4:over H0 H' [x]=upd H0 x u:=by
   funext b
   by_cases hb:b=x
   .subst hb;rw[bW ∅,aE];show hu
   .rw[cj (by calc hb),av hb]
  let rm:RM X.K H0 [i] [x] H' (O.set i<|some<|.ref x) (Y.set i<|some<|.bor<|Z.eK x 0 Z.c9 fs):=by
   show⟨by rw[X4];show rs2,.cons ⟨0,Z.c9,fs,A39 ui⟩ .nil,k! λ j y e t=>?_,by simp,λ a ha=>by rw[A11.mp ha];show n0⟩;by_cases nQ:i=j
   .subst nQ;simp
   .rw[A20 nQ]at e;let:=eA Hq (i:=j) (x:=y) (by rw[A20 nQ];show e) t;show this
  let er:=er x;let(fl2,e3,er):=ac er;cases fl2 with
  |nx Y'=>ext er
  |rt d2 ts=>ext er;show(H0,[x],_,.rt dr ts,rm,e3,λ v Q9 s4 _ d4=>k v Q9 s4 d4,)⟩
end
def VT{K:Frag}(h:(⟨c.q⟩)=x)(w:nsIn K mainGlobals x=AC (AC<|.ref C))(q:Rb K C=Ch):XC K c C:=⟨by rw[h];show w,q⟩
end ZS
namespace ZQ
open L2 ZS PySem.W
section
variable{K:Da}
def Pk{st:η}(lQ:bs.n=ps.n)(d:CY K m qual st ps)(hb:∀{f}{a5}{A}{outer}{s}{H H0}{as}{E},N.Nodup->(A.deeper<|envOfC qual (aa st) s.heap.objs.size f a5).units+64<cLine->bu k (A.deeper<|envOfC qual (aa st) s.heap.objs.size f a5)->kJ (c! hV P w K mg base N qual (aa st) f a5 A outer s H E).gO H0 (Z.i8 0 bs) as (aC st) b)(S:aW N ps (aa st):=by show ZS.Bb):uh P w K mg base m (k+1) ps bs N.length (Z.Ar (Z.i8 0 bs) bs N.length b):=uh.mk' lQ d S λ f a5 A outer s H H0 as E hr=>(hb S.nd hr.units hr).p
def EZ{st:η}(lQ:bs.n=ps.n)(d:Def K mg x st ps)(hb:∀{f}{a5}{A}{outer}{s}{H H0}{as}{E},N.Nodup->(A.deeper<|envOfC x (aa st) s.heap.objs.size f a5).units+64<cLine->bu k (A.deeper<|envOfC x (aa st) s.heap.objs.size f a5)->kJ (c! hV P w K mg base N x (aa st) f a5 A outer s H E).gO H0 (Z.i8 0 bs) as (aC st) b)(S:aW N ps (aa st):=by show ZS.Bb):qL P w K mg base x (k+1) ps bs N.length (Z.Ar (Z.i8 0 bs) bs N.length b):=qL.mk' lQ d S λ f a5 A outer s H H0 as E hr=>(hb S.nd hr.units hr).p
end
end ZQ
namespace Z
def _E(f:U Nat->ε Bool)(i:Nat)(h:SM)(r:XN->SM)(c:XN)(Y:Env):Res vb:=match f c.1 with
|some Ch=>(h<|Y.set i<|some<|.exc c).bind λ fl=>match fl with
 |.nx Y'=>.ok<|.nx<|Y'.set i At
 |.rt d ts=>.ok<|.rt d ts
|some AT=>r c Y
|none=>.bad
def hNo(_:XN)(_:Env):Res vb:=.bad
def Tg(l:U (U Nat×Bool))(c:U Nat):ε Bool:=l.lookup c
def JG(b:SM)(xb:XF)(hs:XN->SM)(Y:Env):Res vb:=match xb Y with
|some c=>hs c Y
|none=>b Y
end Z
namespace ZS
open L2 PySem.W
def Lr(K:Frag)(l:U (U Nat×Bool))(D:δ):Prop:=∀p∈l,∃C,nsIn K mainGlobals ⟨p.1.toArray⟩=AC (AC<|.ref C)/\mroIn K C (.ref D)=AC p.2
def HX{K:Frag}:Lr K [] D:=λ _ h=>nomatch h
def FA{K:Frag}(h1:nsIn K mainGlobals ⟨c.q⟩=AC (AC<|.ref C))(h2:mroIn K C (.ref D)=AC b)(t:Lr K l D):Lr K ((c,b)::l) D:=λ p hp=>by
 rcases A01.mp hp with rfl|hp
 .exact⟨C,h1,h2⟩
 .exact t p hp
def Dh{K:Frag}(h:Lr K l D)(e:l.lookup c=AC b)(xc:XC K c C):mroIn K C (.ref D)=AC b:=by
 let hm:(c,b)∈l:=by
  clear h
  induction l with
  |nil=>ext e
  |cons p l ih=>
   rw[A62]at e;by_cases z:c=p.1
   .rw[A41.mpr z]at e;ext e;subst z;show .head _
   .rw[A51.mpr z]at e;show .tail _<|ih e
 let(C',h1,h2):=h _ hm;let:=h1.symm.trans xc.1;ext this;show h2
def YG{K:Frag}(X:K.In s.e)(xd:XC K c D)(he:s.heap.get? e=AC oe)(hc:oe.cls=.ref C)(hm:mroIn K C (.ref D)=AC b)(hq:Q b s):
 Ev M A (excMatches (.ref e)<|.ref D) Q E s:=by
 let(tl,ns,nm,qn,bs,hd,sn,sub,ab,col,QY,s0',s1',s2',s3',s5',hC,lQ):=ac3 X xd;let(h,g,d,t,os):=s;let hcB:(Value.ref D::tl).contains (.type "BaseException")=Ch:=by rw[C30,lQ,B81]
 let L:=looks_mroIn (M:=M) X hm;let f:=tc_notTuple;ext b<;>(repeat (first|(with_reducible show B04 he ?_;rw[hc])|with_reducible show B04 hC ?_|(with_reducible show C31 hC ?_;rw[hcB])|with_reducible show L.at ?_|wp_step))<;>show hq
section
variable{K:Frag}
def RM.Ia(h:RM K H0 ms as H O Y)(hi:i∉ms)(r:RS K (over H0 H as) H (O.set i v) (Y.set i l))(hl:¬Z.xG l):RM K H0 ms as H (O.set i v) (Y.set i l):=by
 show(r,cC h.at_ λ j hj a ⟨kd,ks,vs,q⟩=>(kd,ks,vs,?_,),k! λ j x e t=>?_,h.nd,h.h0,)
 .rw[A20 λ z=>hi (by rw[z];show hj)];show q
 .by_cases nQ:i=j
  .subst nQ;by_cases hl:i<Y.n
   .rw[A39 hl]at e;ext e;show absurd t ‹_›
   .rw[B16 (by calc hl)]at e;ext e
  .rw[A20 nQ]at e;show eA h.no e t
end
structure ZQ._Y(X:Cx)(H0:Hp)(ms:List Nat)(as:List Addr)(hs:List ExceptHandler)(g:Z.XN->Z.SM):Prop where
 p:∀(ex C:Addr)(dd:Option Addr)(c:Z.XN)(l:Bool)(B:List (Addr×Obj))(s:Shared)(O:St)(H:Hp)(D:Ends),VN X B O H s ex C dd l->u_ X.K H c C dd->tM X.K H0 ms as (g c) D O H->Ev (model X.prog X.w) X.A (handleBy (.ref ex) X.env hs) (SP X B D) X.xe s
def ZQ.Xp:ZQ._Y X H0 ms as [] Z.hNo:=⟨by rintro _ _ _ _ _ _ _ _ _ _ _ _ ⟨_,_,_,e,_⟩;show nomatch e⟩
theorem ZQ.Xq{rest:U ExceptHandler}(hN:X.N.Nodup)(hi:X.N[i]?=AC n)(hl:X.env.scope.names.lookup n=AC .local)(Vw:i∉ms)(hg:Gl X x)(hm:X.mg x=AC (.ref D0))(xd:XC X.K c0 D0)(Ew:Lr X.K l D0)
 (hh:∀ev,ZQ.kJ (Oz X ev).gO H0 ms as (b0::Wd) h) (hr:ZQ._Y X H0 ms as rest r) (ie:Nd x:=by kernel_rfl) :
 ZQ._Y X H0 ms as (.ExceptHandler (AC<|.Name x np) (AC n) (b0::Wd) agH::rest) (Z._E (Z.Tg l) i h r):=⟨by
 rintro ex C dd c lb B s O H D c3 xr ⟨Y,fl,rm,e,k⟩;let hh:=λ ev=>(hh ev).p;let(oe,vs,_,_,_,he,kD,_):=c3.ex;show wpAny_handleBy_cons (codeAny_handlers_test<|JM c3.inv hg hm ?_ ie) (by intro q;ext q);unfold Z._E at e;split at e
 .rename_i ef;show YG c3.inv.lP xd he kD (Dh Ew ef xr.1) ?_;show codeAny_handlers_suite_as<|land c3 λ s4 c4=>?_;let(oe4,u4,acf,ab7,ab9,fe,I4):=c4.V5;show n! I4 hN hi (.inl hl) (show RelV (.ref ex) (.ref ex)from rfl) (λ s5 I5=>?_)<|.inr hl;let FD:az H (upd H ex<|.dW oe4 u4):=b? fe;let sC:=rm.up FD;let rm5:=sC.Ia Vw (sC.rs.aat ⟨ex,oe4,u4,C,rfl,aE,acf,ab9,by rw[ab7];show xr.ups<|i_ FD⟩) λ z=>z;let(f1,e1,e2):=ac e;cases f1 with
  |nx Y'=>
   ext e2;show A22 (hh (.ref ex) B s5 _ _ {nx:=λ O' H2=>D.nx (O'.set i At) H2,rt:=λ _ _=>False} (Eo I5 _) ⟨_,.nx Y',rm5,e1,λ O' H2 st Wt=>k (O'.set i At) H2 ((i_ FD).trans st)<|Wt.Ia Vw Wt.rs.Rz λ z=>z⟩) (λ f s6 q=>?_) λ _ _ z=>z.elim;cases f with
   |next=>let(O',H2,I6,q):=q;show name_goes hN hi hl (s? c3.inv.ok I6) λ s7 I7=>(_,H2,I7,q,)
   |brk=>let(_,_,_,z):=q;show z.elim
   |cont=>let(_,_,_,z):=q;show z.elim
   |ret u=>let(_,_,_,_,_,z):=q;show z.elim
  |rt d ts=>
   ext e2;show A22 (hh (.ref ex) B s5 _ _ {nx:=λ _ _=>False,rt:=D.rt} (Eo I5 _) ⟨_,.rt d ts,rm5,e1,k⟩) (λ f s6 q=>?_) λ _ _ z=>z.elim;cases f with
   |next=>let(_,_,_,z):=q;show z.elim
   |brk=>let(_,_,_,z):=q;show z.elim
   |cont=>let(_,_,_,z):=q;show z.elim
   |ret u=>let(v,O',H2,I6,rv,q):=q;show name_goes hN hi hl (s? c3.inv.ok I6) λ s7 I7=>(v,_,H2,I7,rv,q,)
 .rename_i ef;show YG c3.inv.lP xd he kD (Dh Ew ef xr.1)<|hr.p ex C dd c lb B s O H D c3 xr ⟨Y,fl,rm,e,k⟩
 .ext e⟩
def ZQ.SK(hex:X.ex=[])(oO:X.stack=X.J::X.outer)(LW:X.J.frame=AC X.J.i)
 (hb:ZQ.kJ X.gO H0 ms as body b) (hxb:∀pn E,ZQ.Zo (Fz X pn E) body xb) (hh:ZQ._Y X H0 ms as (h0::hs) g):ZQ.Hw X H0 ms as (.Try body (h0::hs) [] [] pos) (Z.JG b xb g):=⟨by
 let hb:=hb.p;let hxb:=λ pn E=>(hxb pn E).p;rintro B s O H D I ⟨Y,fl,rm,e,k⟩;show wpAny_Try_except ?_;unfold Z.JG at e;split at e
 .rename_i c ec;show A22 (hxb (X.pn++B) _ [] s O H {nx:=λ _ _=>False,rt:=λ _ _=>False} (Oj I _) ⟨Y,c,rm.rs.re,ec,λ mz H' s' ex C dd sm xr J1 th1=>?_⟩) (λ f s1 q=>?_) λ _ _ z=>z;rotate_left
  .cases f with
   |next=>let(_,_,_,z):=q;show z.elim
   |brk=>let(_,_,_,z):=q;show z.elim
   |cont=>let(_,_,_,z):=q;show z.elim
   |ret u=>let(_,_,_,_,_,z):=q;show z.elim
  show zK hex oO LW (Cc I.ok J1) (BG th1) λ s2 c2=>land c2 λ s3 c3=>hh.p ex C dd c Ch B s3 O H' D c3 xr ⟨Y,fl,rm.up sm,e,k.up<|i_ sm⟩
 .refine A22 (hb B s O H D (I.mN _) ⟨Y,fl,rm,e,k⟩) (λ f s1 q=>?_) λ _ _ z=>z.elim;let q:=q.hX;cases f with
  |next=>show B28 q
  |brk=>show q
  |cont=>show q
  |ret u=>show q⟩
end ZS
namespace Z
def uH(b:Bool)(x t:D):Res D:=match x,t with
| .str c,.dct (.inl _::.inl k::ks) vs=>guard (k=1) (.ok (.bl (match g! ks vs c with
 |.ok _=>b
 | .bad=>!b)))
|_,_=>.bad
def zI(t x:D):Res D:=match t,x with
| .dct (.inl _::.inl k::ks) vs,.str c=>guard (k=1) (match g! ks vs c with
 |.ok d=>.ok d
 | .bad=>.ok .non)
|_,_=>.bad
def Nz(t x:D):Res D:=match t,x with
|.dct (.inl _::.inl k::ks) vs,.str c=>guard (k=1)<|g! ks vs c
|_,_=>.bad
end Z
namespace ZS
open L2 PySem.W
def Kf{K:Frag}:∀{ks:U (U Nat)}{ds}{aQ:U (Key×V)},aQ.map (·.1)=ks.map (λ c=>(GE ⟨c.q⟩:Key))->au K H ds (aQ.map (·.2)) ->
 (∃d v,Z.g! (ks.map .inr) ds c=.ok d/\pA aQ (.inr ⟨c.q⟩)=AC v/\Den K H d v)\/(Z.g! (ks.map .inr) ds c=.bad/\pA aQ (.inr ⟨c.q⟩)=At)
|[],ds,[],_,_=>.inr ⟨rfl,rfl⟩
|[],ds,_::_,h,_=>by ext h
|k::ks,ds,[],h,_=>by ext h
|k::ks,ds,(n,v)::aQ,h,hd=>by
 erw[A00,B00]at h;let(rfl,h):=h;cases ds with
 |nil=>simp[au]at hd
 |cons d ds=>
  erw[A00,au]at hd;let(v',r,e1,h4,h5):=hd;ext e1;by_cases hk:k=c
  .subst hk;show .inl ⟨d,v,by simp[Z.g!],nU rfl,h4⟩
  .let nk:¬(GE ⟨k.q⟩:Key)=GE ⟨c.q⟩:=λ z=>hk<|m?.mp<|A79 z;rcases Kf (c:=c) h h5 with⟨d',v',e1,e2,e3⟩|⟨e1,e2⟩
   .exact .inl ⟨d',v',by erw[A00,Z.g!,W1 hk];show e1,by rw[kP nk];show e2,e3⟩
   .exact .inr ⟨by erw[A00,Z.g!,W1 hk];show e1,by rw[kP nk];show e2⟩
def Rr{K:Frag}(h:Lq K H 1 d v):∃(a:δ)(ks:U _)(ds:U Z.D)(aQ:U _),d=.dct (.inl (a)::.inl 1::ks.map .inr) ds/\v=.ref a/\H a=AC (.dK aQ)/\aQ.map (·.1)=ks.map (λ c=>(GE ⟨c.q⟩))/\au K H ds (aQ.map (·.2)):=by
 let(a,ks,ds,u,rfl,rfl,q,t):=h;rcases t.two ∅with⟨z,_⟩|⟨_,aQ,rfl,h2,h3⟩
 .ext z
 .exact⟨a,ks,ds,aQ,rfl,rfl,q,h2,h3⟩
section
variable{X:Cx}
def Er:∀O H Q,tZ X.K (Z.eB (Z.uH b) fa fo) O H Q->(λ O H Q=>tZ X.K fa O H λ y H1=>tZm X.K 1 fo O H1 λ x H2=>∃a o,x=.ref a/\A9 H2 a y o/\Q (.bl<|o.isSome==b) H2) O H Q:=by
 rintro O H Q ⟨Y,d,r,e,k⟩;let(x,ex,e):=ac e;let(t,et,e):=ac e;show(Y,x,r,ex,λ y H1 s1 d1=>(Y,t,r.up s1,et,λ u H2 s2 d2=>?_,),);let(a,ks,ds,aQ,rfl,rfl,q,h2,h3):=Rr d2;let hc:∃c,x=.str c:=by
  cases x with
  |str c=>show(_,rfl,)
  |_=>show nA e
 let(c,rfl):=hc;let hy:y=kV (.inr ⟨c.q⟩):=by erw[Den]at d1;show d1
 let e:=e;let(_,e):=Z.bI e;ext e;show(a,_,rfl,.inl ⟨aQ,_,.inl q,hy,rfl⟩,?_,);let k:=k _ H2 (s1.trans s2) cA;rcases Kf h2 h3 with⟨_,_,e1,e2,_⟩|⟨e1,e2⟩
 .rw[e1]at k;rw[e2];ext b<;>show k
 .rw[e1]at k;rw[e2];ext b<;>show k
def ZQ.KD(hu:X.A.units+64<cLine)(ha:ZQ.QE X a fa)(ho:ZQ.QM X 1 o fo)(hm:behindInMarks .In o=AT:=by with_unfolding_all rfl):ZQ.QT X (.Compare a [.In] [o] pos) (Z.tE<|Z.eB (Z.uH Ch) fa fo):=
 ⟨o_ (Iz (R3 ∅ ha.p ho.p) hm) λ O H Q h=>by let:=Er O H Q h;erw[beq_true]at this;show this⟩
def ZQ.GJ(hu:X.A.units+64<cLine)(ha:ZQ.QE X a fa)(ho:ZQ.QM X 1 o fo)(hm:behindInMarks .NotIn o=AT:=by with_unfolding_all rfl):ZQ.QT X (.Compare a [.NotIn] [o] pos) (Z.tE<|Z.eB (Z.uH AT) fa fo):=
 ⟨o_ (Iz (FL ∅ ha.p ho.p) hm) λ O H Q h=>by let:=Er O H Q h;erw[beq_false]at this;show this⟩
def ZQ.UA(hu:X.A.units+64<cLine)(ho:ZQ.QM X 1 o fo)(ha:ZQ.QE X a fa)(hs:U3 a:=by intro _ _;rfl):ZQ.QE X (.Subscript o a pos) (Z.eB Z.Nz fo fa):=
 ⟨PE.imp (M' ∅ ho.p ha.p hs) <|by
  rintro O H Q ⟨Y,d,r,e,k⟩;let(t,et,e):=ac e;let(x,ex,e):=ac e;show(Y,t,r,et,λ u H1 s1 d1=>(Y,x,r.up s1,ex,λ y H2 s2 d2=>?_,),);let(a,ks,ds,aQ,rfl,rfl,q,h2,h3):=Rr (d1.up s2);let hc:∃c,x=.str c:=by
   cases x with
   |str c=>show(_,rfl,)
   |_=>show nA e
  let(c,rfl):=hc;let hy:y=kV (.inr ⟨c.q⟩):=by erw[Den]at d2;show d2
  let e:=e;let(_,e):=Z.bI e;rcases Kf h2 h3 with⟨d',v,e1,e2,e3⟩|⟨e1,_⟩
  .rw[e1]at e;ext e;show(a,v,rfl,.inl ⟨aQ,_,.inl q,hy,e2.a⟩,k v H2 (s1.trans s2) e3,)
  .rw[e1]at e;ext e⟩
theorem ZQ.O!{apos gF:Pos}(ho:ZQ.QM X 1 o fo)(ha:ZQ.QE X a fa)
 (eZ:attributeBase o "get" X.env (eval o X.J)=eval o X.J:=by rfl)
 (lg:((backTo gF<|starEach [a] X.J).all (λ x=>!x.1)&&(backToKw gF<|keywordEach [] X.J).all (λ x=>x.1.isSome)
  && decide (([a]).length+([]:U π).length+(if([]:U π).isEmpty then 0 else 1)<30))=Ch:=by rfl)
 (eT:(apos.endLine==gF.line)=Ch:=by rfl) (ht:backTo gF (starEach [a] X.J)=[(AT,eval a X.J)]:=by rfl) :
 ZQ.QE X (.Call (.Attribute o "get" apos) [a] [] gF) (Z.eB Z.zI fo fa):=⟨by
 let ha:=ha.p;intro B s O H Q I w;let(Y,d,r,e,k):=w;let(t,et,e):=ac e;let(x,ex,e):=ac e;show C04 eZ lg eT ht<|b_ (ho.p B s O H (λ v H1=>az H H1/\Lq X.K H1 1 t v) I ⟨Y,t,r,et,λ v H1 s1 d1=>(s1,d1,)⟩) ?_;rintro u s1 ⟨v1,H1,I1,ru,sm1,th⟩;let(q,ks,ds,aQ,rfl,rfl,hq,h2,h3):=Rr th;obtain rfl:u=Value.ref q:=ru;obtain⟨_,_,_,_,oo,_,_,g1,gx,_⟩:=(I1.bO q _ hq)
 show("dict","dict.get",C71,C72,PySem.F.type_dict_get,(oo,g1,gx.1,),λ b eb=>?_,?_,)
 .ext eb;show(oo,g1,gx.2.1,)
 show B62 rfl<|C05<|B94<|b_ (ha B s1 O H1 (λ v H2=>az H1 H2/\Den X.K H2 x v) I1 ⟨Y,_,r.up sm1,ex,λ v H2 s2 dv=>(s2,dv,)⟩) ?_;rintro u2 s2 ⟨v2,H2,I2,Wr,qS,YU⟩;show B93 ?_;let hc:∃c,x=.str c:=by
  cases x with
  |str c=>show(_,rfl,)
  |_=>show nA e
 let(c,rfl):=hc;erw[Den]at YU;subst YU;let e:=e;let(_,e):=Z.bI e;let Ys:=h3.up qS;obtain⟨hz,hd,vs,rel,dd⟩:=(I2.bO q _<|qS _ _ hq)
 show call_meetsIn C72 dd.typeIs PySem.F.entry_dict_get (PySem.F.args_dict_get_2 _ _) (meets_dict_get (dO X.prog X.w) q (sW (k:=.inr ⟨c.q⟩) Wr) hd) ⟨_,dd.mapOf,?_⟩;rcases Kf (c:=c) h2 Ys with⟨d',v,e1,e2,e3⟩|⟨e1,e2⟩
 .rw[e1]at e;ext e;let(w',hw,BP):=jo.some_of (v:=v) (o:=valueAt vs (.inr ⟨c.q⟩)) (by rw[<-e2];show rel.val _);rw[hw];show(v,H2,I2.tok _,BP,k _ _ (sm1.trans qS) e3,)
 .rw[e1]at e;ext e;let hw:=jo.none_of (by rw[<-e2];show rel.val _);rw[hw];show(.non,H2,I2.tok _,rfl,k _ _ (sm1.trans qS) (by erw[Den]),)⟩
end
end ZS
namespace Z
def DB(x d:D)(t:ε (ε L)):Res L:=match x with
|.str c=>Ru t (λ a k ks vs=>guard (k=1/\ks.n<1000/\ks.Nodup)<|.ok<|.bor<|.dct (.inl a::.inl k::(eO c d ks vs).1) (eO c d ks vs).2) .bad
|_=>.bad
def NU(i:Nat)(k e:EF)(Y:Env):Res vb:=(e Y).bind λ d=>(k Y).bind λ x=>(DB x d Y[i]?).bind λ l=>.ok<|.nx<|Y.set i<|some l
noncomputable def gv(c:U Nat):U (Sum Int<|U Nat)->U D->U (Sum Int<|U Nat)×U D
|k::ks,v::vs=>if k=.inr c then(ks,vs)else(k::(gv c ks vs).1,v::(gv c ks vs).2)
|ks,vs=>(ks,vs)
def DF(x:D)(t:ε (ε L)):Res (D×L):=match x with
|.str c=>Ru t (λ a k ks vs=>guard (k=1/\ks.Nodup)<|(g! ks vs c).bind λ d=>.ok (d,.bor<|.dct (.inl a::.inl k::(gv c ks vs).1) (gv c ks vs).2)) .bad
|_=>.bad
def JH(i:Nat)(k:EF)(Y:Env):Res (D×Env):=(k Y).bind λ x=>(DF x Y[i]?).bind λ r=>.ok (r.1,Y.set i<|some r.2)
end Z
namespace ZS
open L2 PySem.W
def zw{aQ:U (Key×V)}(h:∀p∈aQ,p.1≠k):putK ((k,v)::aQ) k y=(k,y)::aQ:=by
 unfold putK;rw[M2 ∅,A00,M2 rfl]
 congr 1
 induction aQ with
 |nil=>rfl
 |cons p l ih=>rw[A00,W1<|h p<|.head _,ih λ q hq=>h q<|.tail _ hq]
def vp{aQ:U (Key×V)}(h:n≠k):putK ((n,v)::aQ) k y=(n,v)::putK aQ k y:=by
 unfold putK;let e:(((n,v)::aQ).any λ kv=>decide<|kv.1=k)=aQ.any λ kv=>decide (kv.1=k):=by simp[h]
 rw[e];split
 .rw[A00,W1 h]
 .rfl
def uC{K:Frag}{H:Hp}{c:U Nat}{d:Z.D}{y:V}(hy:Den K H d y):∀{ks:U (U Nat)}{ds:U Z.D}{aQ:U (Key×V)},ks.Nodup->aQ.map (·.1)=ks.map (λ c=>(GE ⟨c.q⟩:Key))->au K H ds (aQ.map (·.2)) ->
 ∃ks':U (U Nat),(Z.eO c d (ks.map .inr) ds).1=ks'.map .inr/\(putK aQ (.inr ⟨c.q⟩) y).map (·.1)=ks'.map (λ c=>(GE ⟨c.q⟩:Key))/\au K H (Z.eO c d (ks.map .inr) ds).2 ((putK aQ (.inr ⟨c.q⟩) y).map (·.2))
|[],ds,[],_,_,hd=>⟨[c],by simp[Z.eO],by simp[putK],by erw[A28,Z.eO,putK];show au.cons hy au.nil⟩
|[],ds,_::_,_,h,_=>by ext h
|k::ks,ds,[],_,h,_=>by ext h
|k::ks,ds,(n,v)::aQ,nd,h,hd=>by
 erw[A00,B00]at h;let(rfl,h):=h;cases ds with
 |nil=>simp[au]at hd
 |cons d0 ds=>
  erw[A00,au]at hd;let(v',r,e1,h4,h5):=hd;ext e1;let(nk,nd):=A19.mp nd;by_cases hk:k=c
  .subst hk;let hh:∀p∈aQ,p.1≠(GE ⟨k.q⟩:Key):=λ p hp z=>by let:p.1∈aQ.map (·.1):=C33 hp;rw[h,z]at this;let(c',uj,e):=A07.mp this;show nk<|m?.mp (A79 e)▸uj
   show⟨k::ks,by simp[Z.eO],?_,?_⟩
   .rw[zw hh];simp[h]
   .rw[zw hh];erw[A00,Z.eO,M2 rfl];show au.cons hy h5
  .let ne:(GE ⟨k.q⟩:Key)≠GE ⟨c.q⟩:=λ z=>hk<|m?.mp<|A79 z;let(ks',q1,q2,q3):=uC (c:=c) hy nd h h5;show(k::ks',?_,?_,?_,)
   .simp only[A00,Z.eO,W1 hk,q1]
   .rw[vp ne];simp[q2]
   .rw[vp ne];erw[A00,Z.eO,W1 hk];show au.cons h4 q3
def vG{ks:U _}(h:(ks.map GE:U (Sum Int<|U Nat)).Nodup):ks.Nodup:=by
 induction ks with
 |nil=>show B20
 |cons a l ih=>rw[A00]at h;let(h1,h2):=A19.mp h;show A19.mpr ⟨λ z=>h1<|C33 z,ih h2⟩
section
variable{H0:Hp}{ms:U Nat}{as:U δ}
def Iu(h:Z.DB x d t=.ok l):∃c a ks vs,x=.str c/\t=AC (AC<|.bor<|.dct (.inl a::.inl 1::ks) vs)/\(ks.n<1000/\ks.Nodup)/\l=.bor (.dct (.inl a::.inl 1::(Z.eO c d ks vs).1) (Z.eO c d ks vs).2):=by
 cases x with
 |str c=>
  unfold Z.DB at h;rcases Z.jr t with⟨a,k,ks,vs,rfl⟩|hb
  .let((rfl,q),h):=Z.bI h;ext h;show(c,a,ks,vs,rfl,rfl,q,rfl,)
  .exact nA<|(hb _ _).symm.trans h
 |_=>show nA h
def RM.dict{K:Frag}{i:Nat}{a0:Int}{Xx:U (Sum Int<|U Nat)}{vs:U Z.D}(rm:RM K H0 ms as H O Y)(hi:Y[i]?=AC (AC<|.bor<|.dct (.inl a0::.inl 1::Xx) vs)):
 ∃(p:δ)(ks:U (U Nat))(aQ:U (Key×V)),a0=(p:Nat)/\Xx=ks.map .inr/\Y[i]?=AC (AC<|.bor<|Z.eK p 1 ks vs)/\O[i]?=AC (AC<|.ref p)/\H p=AC (.dK aQ)/\aQ.map (·.1)=ks.map (λ c=>(GE ⟨c.q⟩:Key))/\au K H vs (aQ.map (·.2)):=by
 let(p,kd,ks,vs',e1):=rm.tagged hi;unfold Z.eK at e1;injection e1 with e1 e2
 injection e1 with e1 e3
 injection e3 with e3 e4
 injection e1 with e1
 injection e3 with e3
 subst e1 e2 e4;let:kd=1:=(B23 e3.a)
 subst this;let rC:Y[i]?=AC (AC<|.bor<|Z.eK p 1 ks vs):=hi;let(Ai,u,hu,th):=rm.thing rC;rcases th.two ∅with⟨z,_⟩|⟨_,aQ,rfl,h2,h3⟩
 .ext z
 .exact⟨p,ks,aQ,rfl,rfl,rC,Ai,hu,h2,h3⟩
theorem ZQ.Jw(hu:X.A.units+64<cLine)(ho:PE X o (jS i))(hk:ZQ.QE X a fk)(he:ZQ.QE X value fe)(hs:swapsWith value (AC<|.Subscript o a pos') pos.line X.J=pure AT:=by rfl):
 ZQ.Hw X H0 ms as (.Assign [.Subscript o a pos'] value pos) (Z.NU i fk fe):=⟨PS.imp (MZ ∅ ho hk.p he.p hs) <|by
 rintro D O H ⟨Y,fl,rm,e,k⟩;let(d,ed,e):=ac e;let(x,ex,e):=ac e;let(l,el,e):=ac e;ext e;let(c,a0,Xx,vs,rfl,hi,(ψ,X9),rfl):=Iu el;show(Y,d,rm.rs.re,ed,λ y H1 s1 dy=>?_,);let sC:=rm.up s1;let(p,_,_,_,_,_,Ai,_):=sC.dict hi;show(_,Ai,Y,_,sC.rs.re,ex,λ z H2 s2 dz=>?_,);let Dx:=sC.up s2;let(p',ks,aQ,e1,rfl,rC,Cd,hp,h2,h3):=Dx.dict hi;let:p'=p:=by rw[Ai]at Cd;injection Cd with q;injection q with q;injection q with q;show q.a
 subst this;let hz:z=kV (.inr ⟨c.q⟩):=by erw[Den]at dz;show dz
 let(ks',q1,q2,q3):=uC (c:=c) (dy.up s2) (vG X9) h2 h3;let Dk:gm H2 (upd H2 p'<|.dK<|putK aQ (.inr ⟨c.q⟩) y):=jU hp (λ _ z=>nomatch z) λ _ _ z=>nomatch z;let(st,rm3):=Dx.write rC (.inr<|.inl ⟨rfl,_,rfl,q2,q3.ups Dk⟩);show(p',_,rfl,.inl ⟨aQ,.inr ⟨c.q⟩,hp,hz,?_,rfl⟩,k O _ (((i_ s1).trans<|i_ s2).trans st) ?_,)
 .let e1:=A14 List.length h2;erw[A08]at e1 ψ;rw[A32];lia
 .rw[q1,e1];show rm3⟩
def IF(h:Z.DF x t=.ok r):∃c a ks vs,x=.str c/\t=AC (AC<|.bor<|.dct (.inl a::.inl 1::ks) vs)/\ks.Nodup/\Z.g! ks vs c=.ok r.1/\r.2=.bor (.dct (.inl a::.inl 1::(Z.gv c ks vs).1) (Z.gv c ks vs).2):=by
 cases x with
 |str c=>
  unfold Z.DF at h;rcases Z.jr t with⟨a,k,ks,vs,rfl⟩|hb
  .let((rfl,q),h):=Z.bI h;let(d,e1,h):=ac h;ext h;show(c,a,ks,vs,rfl,rfl,q,e1,rfl,)
  .exact nA<|(hb _ _).symm.trans h
 |_=>show nA h
def Cz{k:Key}:∀{aQ},(∀p∈aQ,p.1≠k)->hJ aQ k=aQ:=λ {aQ} h=>by unfold hJ;rw[B05];show λ p hp=>by calc h p hp
def QV{K:Frag}{H:Hp}{c:U Nat}:∀{ks:U (U Nat)}{ds:U Z.D}{aQ:U (Key×V)},ks.Nodup->aQ.map (·.1)=ks.map (λ c=>(GE ⟨c.q⟩:Key))->au K H ds (aQ.map (·.2)) ->
 ∃ks':U (U Nat),(Z.gv c (ks.map .inr) ds).1=ks'.map .inr/\(hJ aQ<|.inr ⟨c.q⟩).map (·.1)=ks'.map (λ c=>(GE ⟨c.q⟩:Key))/\au K H (Z.gv c (ks.map .inr) ds).2 ((hJ aQ<|.inr ⟨c.q⟩).map (·.2))
|[],ds,[],_,_,hd=>⟨[],by simp[Z.gv],by simp[hJ],by simpa[Z.gv,hJ]using hd⟩
|[],ds,_::_,_,h,_=>by ext h
|k::ks,ds,[],_,h,_=>by ext h
|k::ks,ds,(n,v)::aQ,nd,h,hd=>by
 erw[A00,B00]at h;let(rfl,h):=h;cases ds with
 |nil=>simp[au]at hd
 |cons d0 ds=>
  erw[A00,au]at hd;let(v',r,e1,h4,h5):=hd;ext e1;let(nk,nd):=A19.mp nd;by_cases hk:k=c
  .subst hk;let hh:∀p∈aQ,p.1≠(GE ⟨k.q⟩:Key):=λ p hp z=>by let:p.1∈aQ.map (·.1):=C33 hp;rw[h,z]at this;let(c',uj,e):=A07.mp this;show nk<|m?.mp (A79 e)▸uj
   let e2:hJ ((GE ⟨k.q⟩,v)::aQ) (.inr ⟨k.q⟩)=aQ:=by rw[<-Cz hh];simp[hJ]
   rw[e2];show(ks,?_,h,?_,)
   .simp[Z.gv]
   .simpa[Z.gv]using h5
  .let ne:(GE ⟨k.q⟩:Key)≠GE ⟨c.q⟩:=λ z=>hk<|m?.mp<|A79 z;let nk2:¬(GE k:Sum Int (U Nat))=.inr c:=λ z=>hk<|A79 z;let(ks',q1,q2,q3):=QV (c:=c) nd h h5;let e2:hJ ((GE ⟨k.q⟩,v)::aQ) (.inr ⟨c.q⟩)=(GE ⟨k.q⟩,v)::hJ aQ (.inr ⟨c.q⟩):=by unfold hJ;rw[B51 (by calc ne)]
   rw[e2];show(k::ks',?_,?_,?_,)
   .simp only[A00,Z.gv,W1 nk2,q1]
   .simp[q2]
   .simp only[A00,Z.gv,W1 nk2];show au.cons h4 q3
theorem ZQ.JB{apos gF:Pos}(ho:PE X o (jS i))(ha:ZQ.QE X a fk)
 (eZ:attributeBase o "pop" X.env (eval o X.J)=eval o X.J:=by rfl)
 (lg:((backTo gF<|starEach [a] X.J).all (λ x=>!x.1)&&(backToKw gF<|keywordEach [] X.J).all (λ x=>x.1.isSome)
  && decide (([a]).length+([]:U π).length+(if([]:U π).isEmpty then 0 else 1)<30))=Ch:=by rfl)
 (eT:(apos.endLine==gF.line)=Ch:=by rfl) (ht:backTo gF (starEach [a] X.J)=[(AT,eval a X.J)]:=by rfl) :
 ZQ.VH X H0 ms as (.Call (.Attribute o "pop" apos) [a] [] gF) (Z.JH i fk):=⟨by
 let ha:=ha.p;intro B s O H Q I w;let(Y,d,Y',rm,e,k):=w;let(x,ex,e):=ac e;let(r,er,e):=ac e;ext e;let(c,a0,Xx,vs0,rfl,hi,X9,eg,el):=IF er;let(p,ks,aQ,e1,rfl,rC,Ai,hp,h2,h3):=rm.dict hi;show C04 eZ lg eT ht<|b_ (ho B s O H (λ v H1=>v=.ref p/\H1=H) I ⟨_,Ai,rfl,rfl⟩) ?_;rintro u s1 ⟨v1,H1,I1,ru,rfl,rfl⟩;obtain rfl:u=Value.ref p:=ru;obtain⟨_,_,_,_,oo,_,_,g1,gx,_⟩:=(I1.bO p _ hp)
 show("dict","dict.pop",C71,C59,PySem.F.type_dict_pop,(oo,g1,gx.1,),λ b eb=>?_,?_,)
 .ext eb;show(oo,g1,gx.2.1,)
 show B62 rfl<|C05<|B94<|b_ (ha B s1 O H1 (λ v H2=>az H1 H2/\Den X.K H2 (.str c) v) I1 ⟨Y,_,rm.rs.re,ex,λ v H2 s2 dv=>(s2,dv,)⟩) ?_;rintro u2 s2 ⟨v2,H2,I2,Wr,qS,YU⟩;show B93 ?_;erw[Den]at YU;subst YU;let Dx:=rm.up qS;let _q:=qS _ _ hp;let h32:=h3.up qS;rcases Kf h2 h32 with⟨d',v,q1,q2,q3⟩|⟨q1,_⟩
 .rw[q1]at eg;ext eg;let(ks',w1,w2,w3):=QV (c:=c) (vG X9) h2 h32;let Dk:gm H2 (upd H2 p<|.dK<|hJ aQ<|.inr ⟨c.q⟩):=jU _q (λ _ z=>nomatch z) λ _ _ z=>nomatch z;let(st,rm3):=Dx.write (u':=.dK (hJ aQ<|.inr ⟨c.q⟩)) (kd':=1) (ks':=ks') (vs':=(Z.gv c (ks.map .inr) vs0).2) rC (.inr<|.inl ⟨rfl,_,rfl,w2,w3.ups Dk⟩);show Y4 I2 _q (k:=.inr ⟨c.q⟩) Wr q2 (.inl rfl) λ w' s3 I3 BP=>(v,_,I3,BP,k v _ (λ b o hb q=>?_) ?_<|q3.ups Dk,)
  .rw[av λ z=>hb (by rw[z];show rm.mem rC)];show qS b o q
  .rw[el,w1,e1];show rm3
 .rw[q1]at eg;ext eg⟩
end
end ZS
namespace Z
open Classical in
def allM(f:Nat->Res vb):Res vb:=if h:∃r:D×U D,∀x,f x=.ok (.rt r.1 r.2)then .ok (.rt h.choose.1 h.choose.2)else .bad
def E6(h:allM f=.ok fl):∃d ts,fl=.rt d ts/\∀x,f x=.ok (.rt d ts):=by
 unfold allM at h;split at h
 .rename_i q;ext h;show(_,_,rfl,q.choose_spec,)
 .ext h
def allM_mk(h:∀x,f x=.ok (.rt d ts)):allM f=.ok (.rt d ts):=by
 let q:∃r:D×U D,∀x,f x=.ok (.rt r.1 r.2):=((d,ts),h,)
 unfold allM;rw[A96 q];let:=(q.choose_spec 0).symm.trans<|h 0;erw[Res.ok.injEq,vb.rt.injEq]at this;rw[this.1,this.2]
def Ea(ms:U Nat)(i:Nat)(r:SM)(Y:Env):Res vb:=guard (i∉ms) (allM λ x=>(r<|Y.set i<|some<|.bor<|eK x 1 [] []).bind λ fl=>match fl with
|.rt d ts=>guard (ts.n=ms.n+1)<|.ok<|.rt d<|ts.take ms.n
| _=>.bad)
end Z
namespace ZS
open L2 PySem.W
def sL:∀{l}{m}{x}{y},Paired R l m->R x y->Paired R (l++[x]) (m++[y]):=by
 intro l m x y p r
 induction p with
 |nil=>show .cons r .nil
 |cons a t ih=>show .cons a ih
def kT:∀{l}{m}{x},Paired R (l++[x]) m->Paired R l (m.take l.n)
|[],m,x,h=>by calc Paired.nil
|a::l,_,x,.cons r t=>by calc Paired.cons r (kT t)
section
variable{K:Frag}
def RM.grow(h:RM K H0 ms as H O Y)(hp:H p=At)(hi:i∉ms)(ui:i<Y.n)(t:Be K (upd H p u) kd ks vs u):
 RM K H0 (ms++[i]) (as++[p]) (upd H p u) (O.set i<|some<|.ref p) (Y.set i<|some<|.bor<|Z.eK p kd ks vs):=by
 let pn:p∉as:=λ z=>by let(u',q):=h.tracked z;rw[hp]at q;ext q
 let n0:H0 p=At:=by
  cases q:H0 p with
  |none=>rfl
  |some o=>rw[h.same _ _ q]at hp;ext hp
 let X4:over H0 (upd H p u) (as++[p])=upd (over H0 H as) p u:=by
  funext b
  by_cases hb:b=p
  .subst hb;rw[bW ∅,aE,aE]
  .rw[av hb];by_cases hm:b∈as
   .rw[bW<|A70 _ hm,bW hm,av hb]
   .rw[cj (by simp[hm,hb]),cj hm]
 show⟨by rw[X4];show h.rs.su hp (b? hp) aE t ui,sL (cC h.at_ <|by rintro j hj a ⟨kd,ks,vs,q⟩;show⟨kd,ks,vs,by rw[A20 λ z=>hi (by rw[z];show hj)];show q⟩) ⟨kd,ks,vs,A39 ui⟩,k! λ j x e tt=>?_,?_,λ a ha=>?_⟩
 .by_cases nQ:i=j
  .subst nQ;simp
  .rw[A20 nQ]at e;show A70 _<|eA h.no e tt
 .refine B52.mpr ⟨h.nd,by simp,λ a ha b hb=>?_⟩;rw[A11.mp hb];show λ z=>pn<|z▸ha
 .rcases A37.mp ha with ha|ha
  .exact h.h0 a ha
  .rw[A11.mp ha];show n0
end
section
variable{rest:U η}{pos pos' KP:Pos}
theorem ZQ.Jv(hN:X.N.Nodup)(hi:X.N[i]?=AC y)(hy:Loc X.env.scope y)(iI:∀p,ZQ.kJ X H0 (ms++[i]) (as++[p]) rest r)
 (hs:swapsWith (.Dict [] [] KP) (AC<|.Name y pos') pos.line X.J=pure AT:=by rfl) (hf:X.fn y=Ch\/X.env.scope.names.lookup y=AC .local:=by first|show .inl rfl|show .inr rfl|assumption) :
 ZQ.kJ X H0 ms as (.Assign [.Name y pos'] (.Dict [] [] KP) pos::rest) (Z.Ea ms i r):=⟨by
 let iI:=λ p=>(iI p).p;let hR:pq X rest (λ D O H=>∃p,tM X.K H0 _ _ r D O H):=λ B s O H D I ⟨p,w⟩=>iI p B s O H D I w;rintro B s O H D I ⟨Y,fl,rm,e,k⟩;let(Vw,e):=Z.bI e;let(d,ts,rfl,er):=Z.E6 e;let ui:i<Y.n:=by rw[rm.rs.re.len,I.len];show(A02.mp hi).1
 show iE (pM hN hi hy IM hs hf) hR B s O H D I λ p hp=>(p,?_,)
 let(f1,e1,e2):=ac (er p);cases f1 with
 |nx _=>ext e2
 |rt d1 ts1=>let(hl,e2):=Z.bI e2;ext e2;show(_,_,rm.grow hp Vw ui<|.inr<|.inl ⟨rfl,[],rfl,rfl,au.nil⟩,e1,λ v H' sm th dv=>k v H' sm ?_ dv,);let:=kT<|th;let ll:=(B27 rm.at_).symm;rw[ll]at this;show this⟩
end
end ZS
namespace ZS
open L2 PySem.W
section
variable{K:Frag}
def RM.Yt(h:RM K H0 ms as H O Y)(hp:H p=At)(sm:az H H')(hu:H' p=AC u)(hi:i∉ms)(ui:i<Y.n)(t:Be K H' kd ks vs u):
 RM K H0 (ms++[i]) (as++[p]) H' (O.set i<|some<|.ref p) (Y.set i<|some<|.bor<|Z.eK p kd ks vs):=by
 let pn:p∉as:=λ z=>by let(u',q):=h.tracked z;rw[hp]at q;ext q
 let n0:H0 p=At:=by
  cases q:H0 p with
  |none=>rfl
  |some o=>rw[h.same _ _ q]at hp;ext hp
 let X4:over H0 H' (as++[p])=upd (over H0 H as) p u:=by
  funext b
  by_cases hb:b=p
  .subst hb;rw[bW ∅,aE,hu]
  .rw[av hb];by_cases hm:b∈as
   .let(u',q):=h.tracked hm;rw[bW<|A70 _ hm,bW hm,q,sm _ _ q]
   .rw[cj (by simp[hm,hb]),cj hm]
 show⟨by rw[X4];show h.rs.su hp sm hu t ui,sL (cC h.at_ <|by rintro j hj a ⟨kd,ks,vs,q⟩;show⟨kd,ks,vs,by rw[A20 λ z=>hi (by rw[z];show hj)];show q⟩) ⟨kd,ks,vs,A39 ui⟩,k! λ j x e tt=>?_,?_,λ a ha=>?_⟩
 .by_cases nQ:i=j
  .subst nQ;simp
  .rw[A20 nQ]at e;show A70 _<|eA h.no e tt
 .refine B52.mpr ⟨h.nd,by simp,λ a ha b hb=>?_⟩;rw[A11.mp hb];show λ z=>pn<|z▸ha
 .rcases A37.mp ha with ha|ha
  .exact h.h0 a ha
  .rw[A11.mp ha];show n0
end
end ZS
namespace Z
def Qq:D->Res D
|.dct [_,_] ds=>.ok<|.lst ds
|_=>.bad
def eT2(i:Nat)(Y:Env):Res D:=(eM 2 i Y).bind Qq
def Py(d:D)(t:ε (ε L)):Res L:=Ru t (λ a k ks vs=>guard (k=2/\ks=[]/\vs.n<line)<|.ok<|.bor<|.dct [.inl a,.inl k]<|vs++[d]) .bad
def SX(i:Nat)(e:EF)(Y:Env):Res vb:=(e Y).bind λ d=>(Py d Y[i]?).bind λ l=>.ok<|.nx<|Y.set i<|some l
def D_(ms:U Nat)(i:Nat)(r:SM)(Y:Env):Res vb:=guard (i∉ms) (allM λ x=>(r<|Y.set i<|some<|.bor<|eK x 2 [] []).bind λ fl=>match fl with
|.rt d ts=>guard (ts.n=ms.n+1)<|.ok<|.rt d<|ts.take ms.n
| _=>.bad)
end Z
namespace ZS
open L2 PySem.W
def Px(h:Z.Py d t=.ok l):∃a vs,t=AC (AC<|.bor<|.dct [.inl a,.inl 2] vs)/\vs.n<Z.line/\l=.bor (.dct [.inl a,.inl 2]<|vs++[d]):=by
 unfold Z.Py at h;rcases Z.jr t with⟨a,k,ks,vs,rfl⟩|hb
 .let h:Z.guard (k=2/\ks=[]/\vs.n<Z.line) (.ok<|.bor<|.dct [.inl a,.inl k]<|vs++[d])=.ok l:=h;let((e1,e2,q),h'):=Z.bI h;clear h;subst e1 e2;ext h';show(a,vs,rfl,q,rfl,)
 .rw[hb]at h;show nA h
section
variable{X:Cx}{K:Frag}
def _?(h:Lq K H 2 (.dct [x,y] ds) v):∃(a:δ)(vs:U V),v=.ref a/\H a=AC (.lst vs)/\au K H ds vs:=by
 let(a,ks,_Q,u,e1,rfl,q,t):=h;injection e1 with e1 e2
 subst e2;rcases t with⟨z,_⟩|⟨z,_⟩|⟨_,_,vs,rfl,h3⟩
 .ext z
 .ext z
 .exact⟨a,vs,rfl,q,h3⟩
def ZQ.YS(h:PE X e (jS i)):ZQ.QW X e (Z.eT2 i):=⟨PE.imp (ZQ.mh (kd:=2) h).p <|by
 rintro O H Q ⟨Y,d,r,e,k⟩;let(t,et,e):=ac e;show(Y,t,r,et,λ v H1 s1 d1=>k v H1 s1 ?_,);cases t with
 |dct ks ds=>
  rcases ks with _|⟨x,_|⟨y,_|⟨_,_⟩⟩⟩
  .exact nA e
  .exact nA e
  .ext e;let(a,vs,rfl,q,h3):=_? d1;show .inr ⟨ds,a,vs,rfl,rfl,q,h3⟩
  .exact nA e
 |_=>show nA e⟩
variable{H0:Hp}{ms:U Nat}{as:U δ}
def RM.lst{i:Nat}{a0:Int}{vs:U Z.D}(rm:RM K H0 ms as H O Y)(hi:Y[i]?=AC (AC<|.bor<|.dct [.inl a0,.inl 2] vs)):
 ∃(p:δ)(us:U V),a0=(p:Nat)/\Y[i]?=AC (AC<|.bor<|Z.eK p 2 [] vs)/\O[i]?=AC (AC<|.ref p)/\H p=AC (.lst us)/\au K H vs us:=by
 let(p,kd,ks,vs',e1):=rm.tagged hi;unfold Z.eK at e1;injection e1 with e1 e2
 injection e1 with e1 e3
 injection e3 with e3 e4
 injection e1 with e1
 injection e3 with e3
 subst e1 e2;let:kd=2:=(B23 e3.a)
 subst this;obtain rfl:ks=[]:=by cases ks with|nil=>rfl|cons _ _=>ext e4
 let rC:Y[i]?=AC (AC<|.bor<|Z.eK p 2 [] vs):=hi;let(Ai,u,hu,th):=rm.thing rC;rcases th with⟨z,_⟩|⟨z,_⟩|⟨_,_,us,rfl,h3⟩
 .ext z
 .ext z
 .exact⟨p,us,rfl,rC,Ai,hu,h3⟩
theorem ZQ.SR{p1 p2 pos:Pos}{o a:ι}(ho:PE X o (jS i))(ha:ZQ.QE X a fa)(hs:swapsWith (.Call (.Attribute o "append" p1) [a] [] p2) At pos.line X.J=pure AT:=by rfl)(oP:Se a [] X.J:=by rfl)
 (eZ:attributeBase o "append" X.env (eval o X.J)=eval o X.J:=by rfl)
 (lg:((backTo p2<|starEach (a::[]) X.J).all (λ x=>!x.1)&&(backToKw p2<|keywordEach [] X.J).all (λ x=>x.1.isSome)
  && decide ((a::[]).length+([]:U π).length+(if([]:U π).isEmpty then 0 else 1)<30))=Ch:=by rfl)
 (eT:(p1.endLine==p2.line)=Ch:=by rfl) (gA:Pn p2 [] X.J:=by rfl) :
 ZQ.Hw X H0 ms as (.Expr (.Call (.Attribute o "append" p1) [a] [] p2) pos) (Z.SX i fa):=⟨PS.imp (oy (vv B40 C63 C64 pR ho (bw ha.p cE oP) eZ lg eT oP gA) hs) <| by
 rintro D O H ⟨Y,fl,rm,e,k⟩;let(d,ed,e):=ac e;let(l,el,e):=ac e;ext e;let(a0,vs,hi,hl,rfl):=Px el;let(p,us,rfl,rC,Ai,hp,t):=rm.lst hi;show(.ref p,Ai,.inl ⟨rfl,us,iY.of hp⟩,Y,d,rm.rs.re,ed,λ y H1 s1 dy=>?_,);let sC:=rm.up s1;let hp1:=s1 _ _ hp;let t1:=t.up s1;show⟨p,us,y,rfl,rfl,hp1,by rw[t.n,A32];show hl,?_⟩;let Dk:gm H1 (upd H1 p<|.lst<|us++[y]):=jU hp1 (λ _ z=>nomatch z) λ _ _ z=>nomatch z;let(st,Dx):=sC.write (u':=.lst (us++[y])) (kd':=2) (ks':=[]) (vs':=vs++[d]) rC (.inr<|.inr ⟨rfl,rfl,_,rfl,(t1.append<|au.cons dy au.nil).ups Dk⟩);show k O _ ((i_ s1).trans st) Dx⟩
theorem ZQ.Ju{rest:U η}{y:Str}{pos pos' KP:Pos}(hN:X.N.Nodup)(hi:X.N[i]?=AC y)(hy:Loc X.env.scope y)(iI:∀p,ZQ.kJ X H0 (ms++[i]) (as++[p]) rest r)
 (hs:swapsWith (.List [] KP) (AC<|.Name y pos') pos.line X.J=pure AT:=by rfl) (hf:X.fn y=Ch\/X.env.scope.names.lookup y=AC .local:=by first|show .inl rfl|show .inr rfl|assumption) :
 ZQ.kJ X H0 ms as (.Assign [.Name y pos'] (.List [] KP) pos::rest) (Z.D_ ms i r):=⟨by
 let iI:=λ p=>(iI p).p;let hR:pq X rest (λ D O H=>∃p,tM X.K H0 _ _ r D O H):=λ B s O H D I ⟨p,w⟩=>iI p B s O H D I w;rintro B s O H D I ⟨Y,fl,rm,e,k⟩;let(Vw,e):=Z.bI e;let(d,ts,rfl,er):=Z.E6 e;let ui:i<Y.n:=by rw[rm.rs.re.len,I.len];show(A02.mp hi).1
 show iE (pM hN hi hy (ZQ.EL ZQ.cB).p hs hf) hR B s O H D I ⟨Y,[],rm.rs.re,by simp[Z.bq,Z.ag,Z.line,Z.guard_pos],λ p vs H' sm hp hp' t=>(p,?_,)⟩;let(f1,e1,e2):=ac (er p);cases f1 with
 |nx _=>ext e2
 |rt d1 ts1=>let(hl,e2):=Z.bI e2;ext e2;show(_,_,rm.Yt hp sm hp' Vw ui<|.inr<|.inr ⟨rfl,rfl,vs,rfl,t⟩,e1,λ v H' sm th dv=>k v H' sm ?_ dv,);let:=kT<|th;let ll:=(B27 rm.at_).symm;rw[ll]at this;show this⟩
end
end ZS
namespace Z
def IG(j:Nat)(g:GF)(Y:Env)(o:ε (ε L)):Res Fl:=match o with
|some<|some<|.own xs=>match xs[xs.n-1]? with
 |some y=>(g y<|Y.set j<|some<|.own xs.dropLast).bind λ Y'=>.ok<|.nx Y'
 |none=>.bad
|_=>.bad
def vn(j:Nat)(g:GF)(Y:Env):Res Fl:=IG j g Y Y[j]?
def M1(h:IG j g Y o=.ok fl):∃xs y Y',o=AC (AC<|.own xs)/\xs[xs.n-1]?=AC y/\g y (Y.set j<|some<|.own xs.dropLast)=.ok Y'/\fl=.nx Y':=by
 unfold IG at h;split at h
 .rename_i xs;split at h
  .rename_i y e;let(Y',e2,h):=Res.ae h;ext h;show(xs,y,Y',rfl,e,e2,rfl,)
  .ext h
 .ext h
end Z
namespace ZS
open L2
section
variable{X:Cx}{H0:Hp}{pos:Pos}
def au.dropLast{K:Da}{H:Hp}:∀{ds:U Z.D}{vs:U V},au K H ds vs->au K H ds.dropLast vs.dropLast
|[],vs,h=>by erw[au]at h;subst h;show au.nil
|[x],vs,h=>by erw[au]at h;let(u,r,rfl,p,rfl):=h;show au.nil
|x::y::ds,vs,h=>by erw[au]at h;let(u,r,rfl,p,u2,r2,rfl,p2,t):=h;let t':au K H (y::ds) (u2::r2):=au.cons p2 t;show au.cons p<|au.dropLast t'
theorem ZQ.O0{j:Nat}{g:Z.GF}{o tg:ι}{p1 p2:Pos}(ho:PE X o (jS j))(hg:ZQ.QG X H0 tg g)
 (hs:swapsWithSole [tg] (.Call (.Attribute o "pop" p1) [] [] p2) pos.line X.J=pure AT:=by rfl) (hw:swappedStores [tg] (.Call (.Attribute o "pop" p1) [] [] p2) X.J=pure At:=by rfl)
 (h1:(assignEach [tg] X.J).map (·.2)=[assign tg X.J]:=by rfl)
 (eZ:attributeBase o "pop" X.env (eval o X.J)=eval o X.J:=by rfl)
 (eT:(p1.endLine==p2.line)=Ch:=by rfl) :
 ZQ.QS X H0 (.Assign [tg] (.Call (.Attribute o "pop" p1) [] [] p2) pos) (Z.vn j g):=⟨PS.imp (IE (R0 B40 PySem.F.slot_list_pop PySem.F.type_list_pop SJ ho eZ eT) hg.p hs hw h1) <| by
 rintro D O H ⟨Y,fl,rs,e,k⟩;let(xs,y,Y',ej,hy,eb,rfl):=Z.M1 e;let(v,sj,q,us,rfl,hq,t):=rs.re.get j _ ej;let(u,hu,du):=au.get t hy;show⟨.ref q,sj,.inl ⟨rfl,us,iY.of hq⟩,q,us,u,rfl,rfl,hq,by rw[t.n];show hu,?_⟩;show(_,y,Y',rs.chg ej sj hq<|au.dropLast t,Den.ups du<|gN hq,eb,λ O2 H2 s2 r2=>k O2 H2 ((gN hq).trans<|i_ s2) r2,)⟩
end
open PySem.W
def QZ(tg:ι)(is:U Nat)(N:U Str):U Str:=(match tg with
|.Name x _=>[x]
|.Tuple es _ _=>es.filterMap λ e=>match e with
 |.Name x _=>AC x
 |_=>At
| _=>[])++is.filterMap (N[·]?)
def ZQ.Y0(hi:ZQ.QI X tg iter it)(he:∀{cl C fp s H},ZQ.QE (kI X (QZ tg is X.N) scope cl C fp s H) elt fe)(ht:∀{cl C fp s H},ZQ.G! (kI X (QZ tg is X.N) scope cl C fp s H) ifs t)(hg:∀{cl C fp s H H0},ZQ.QG (kI X (QZ tg is X.N) scope cl C fp s H) H0 tg G)(hG:Gk G n)(cO:X.calm=Ch:=by rfl)(χ:um X.N (QZ tg is X.N) n is scope X.J.scope:=by show ZS.um.of ?_;kernel_rfl)(hs:Fi iter X.J:=by intro _;rfl):ZQ.QL X (.ListComp elt [⟨tg,iter,ifs,0⟩] scope pos) (Z.bx it n is G t fe):=ZQ.KR hi he ht hg cO χ hG hs
theorem ZQ.YW{X:Cx}(cO:X.calm=Ch)(hN:X.N.Nodup)(TK:X.N[i]?=AC x)(hx:Loc X.env.scope x)
 (hi:ZQ.QI X tg iter it) (hG:Gk G n)
 (hg:∀{cl C fp s H H0},ZQ.QG (kI X (QZ tg is X.N) scope cl C fp s H) H0 tg G) (ht:∀{cl C fp s H},ZQ.G! (kI X (QZ tg is X.N) scope cl C fp s H) ifs t) (he:∀{cl C fp s H},ZQ.QE (kI X (QZ tg is X.N) scope cl C fp s H) elt fe) (χ:um X.N (QZ tg is X.N) n is scope X.J.scope:=by show ZS.um.of ?_;kernel_rfl)
 (Tq:Sw elt tg iter ifs scope pos x px BL X.J:=by rfl)
 (hs:Fi iter X.J:=by intro _;rfl) (hf:Fl X x:=by trivial) :
 ZQ.QS X H0 (.Assign [.Name x px] (.ListComp elt [⟨tg,iter,ifs,0⟩] scope pos) BL) (Z.aN i<|Z.eL<|Z.bx it n is G t fe):=ZQ.yb cO hN TK hx hi χ hG (λ _ _ _ _ _ _=>hg) (λ _ _ _ _ _=>ht) (λ _ _ _ _ _=>he) Tq hs hf
end ZS
def ZS.hv{p q:Prop}(k:p->q)(h:p):q:=k h
namespace ZS
open L2 PySem.W
structure Ho(p:Prop):Prop where h:p
structure Vs(P:Program)(w:World)(mg:Str->Option Value)(base:Heap):Prop where
section
variable{P:ο}{w:ξ}{mg:Str->ε ζ}{base:ν}{A0:δ}
def cz{K:Frag}{h0:ν}{st:η}{x:Str}{b:Z.SF}{Q:Prop}(d:bK K x st)(k:Nat)(ps N:U Str)(g:U Z.D->Z.Res Z.D)(e:g=Z.fn ps.length N.length b)(q:C5 P w K mg base x (k+1) ps g->Q)(hb:Ho (∀{f}{a5}{A}{outer}{s}{H}{E},N.Nodup->(A.deeper<|envOfC x (aa st) s.heap.objs.size f a5).units+64<cLine->bu k (A.deeper<|envOfC x (aa st) s.heap.objs.size f a5)->ZQ.va (c! hV P w K mg base N x (aa st) f a5 A outer s H E).gO H (aC st) b))(X:K.In h0:=by assumption)(G:h0.Ns mainGlobals mg:=by assumption)(V:Vs P w mg base:=by assumption)(S:aW N ps (aa st):=by show ZS.Bb)
 (hB:∀kV doc pm an a5 ct us,us.n=ps.n->bindArgs (fnOf x x (bp st) (aC st) (aa st) .none kV doc pm an a5 ct) ⟨us,[]⟩=pure (ps.zip us):=by show ZS.Q3):Q:=q<|e▸ZQ.EY (d.df X G hB) hb.h S
def _R{K:Frag}{st:η}{m qual:Str}{b:Z.SF}{Q:Prop}(d:fN K A0 m qual st)(k:Nat)(ps N:U Str)(bs:U Bool)(g:U Z.D->Z.Res Z.D)(e:g=Z.As bs N.length b)(q:yt P w K mg base m (k+1) ps bs g->Q)(hb:Ho (∀{f}{a5}{A}{outer}{s}{H}{E},N.Nodup->(A.deeper<|envOfC qual (aa st) s.heap.objs.size f a5).units+64<cLine->bu k (A.deeper<|envOfC qual (aa st) s.heap.objs.size f a5)->ZQ.va (c! hV P w K mg base N qual (aa st) f a5 A outer s H E).gO H (aC st) b))(hC:nO K "Desk" A0:=by assumption)(lQ:bs.n=ps.n:=by rfl)(V:Vs P w mg base:=by assumption)(S:aW N ps (aa st):=by show ZS.Bb)
 (hB:∀kV doc pm an a5 ct us,us.n=ps.n->bindArgs (fnOf m qual (bp st) (aC st) (aa st) .none kV doc pm an a5 ct) ⟨us,[]⟩=pure (ps.zip us):=by show ZS.Q3):Q:=q<|e▸ZQ.UM lQ (d.df hC hB) hb.h S
def czX{K:Frag}{st:η}{m qual:Str}{b:Z.XF}{Q:Prop}(d:fN K A0 m qual st)(k:Nat)(ps N:U Str)(bs:U Bool)(g:U Z.D->ε Z.XN)(e:g=Z.QR bs N.length b)(q:ug P w K mg base m (k+1) ps bs g->Q)(hb:Ho (∀{f}{a5}{A}{outer}{s}{H}{E},N.Nodup->(A.deeper<|envOfC qual (aa st) s.heap.objs.size f a5).units+64<cLine->bu k (A.deeper<|envOfC qual (aa st) s.heap.objs.size f a5)->ZQ.A8 (c! (Fc P w) P w K mg base N qual (aa st) f a5 A outer s H E) H (aC st) b))(hC:nO K "Desk" A0:=by assumption)(lQ:bs.n=ps.n:=by rfl)(V:Vs P w mg base:=by assumption)(S:aW N ps (aa st):=by show ZS.Bb)
 (hB:∀kV doc pm an a5 ct us,us.n=ps.n->bindArgs (fnOf m qual (bp st) (aC st) (aa st) .none kV doc pm an a5 ct) ⟨us,[]⟩=pure (ps.zip us):=by show ZS.Q3):Q:=q<|e▸ZQ.UL lQ (d.df hC hB) hb.h S
def UI{K:Frag}{st:η}{m qual:Str}{b:Z.SM}{Q:Prop}(d:fN K A0 m qual st)(k:Nat)(ps N:U Str)(bs:U Bool)(g:U Z.D->Z.Res (Z.D×U Z.D))(e:g=Z.Ar (Z.i8 0 bs) bs N.length b)(q:uh P w K mg base m (k+1) ps bs N.length g->Q)(hb:Ho (∀{f}{a5}{A}{outer}{s}{H H0}{as}{E},N.Nodup->(A.deeper<|envOfC qual (aa st) s.heap.objs.size f a5).units+64<cLine->bu k (A.deeper<|envOfC qual (aa st) s.heap.objs.size f a5)->ZQ.kJ (c! hV P w K mg base N qual (aa st) f a5 A outer s H E).gO H0 (Z.i8 0 bs) as (aC st) b))(hC:nO K "Desk" A0:=by assumption)(lQ:bs.n=ps.n:=by rfl)(V:Vs P w mg base:=by assumption)(S:aW N ps (aa st):=by show ZS.Bb)
 (hB:∀kV doc pm an a5 ct us,us.n=ps.n->bindArgs (fnOf m qual (bp st) (aC st) (aa st) .none kV doc pm an a5 ct) ⟨us,[]⟩=pure (ps.zip us):=by show ZS.Q3):Q:=q<|e▸ZQ.Pk lQ (d.df hC hB) hb.h S
end
end ZS
namespace Z
abbrev PU{α:Type}(_:α->Prop):Type:=Unit
def Ok{α:Type}(r:Res α)(Q:α->Prop)(_:PU Q:=()):Prop:=∃a,r=.ok a/\Q a
def Ok.imp(h:Ok r P)(k:∀a,P a->Q a):Ok r Q:=by let(a,e,p):=h;show(a,e,k a p,)
def Ok.eq(h:Ok r λ x=>x=a):r=.ok a:=by let(x,e,rfl):=h;show e
@[simp] def Q7(a:α)(Q:α->Prop):Ok (.ok a) Q↔Q a:=⟨by rintro⟨_,e,q⟩;ext e;show q,λ q=>(a,rfl,q,)⟩
@[simp] def adi(Q:α->Prop):Ok (.bad) Q↔False:=⟨by rintro⟨_,e,_⟩;show(by ext e),Gc⟩
@[simp] def _0(r:Res α)(f:α->Res β)(Q:β->Prop):Ok (r.bind f) Q↔Ok r λ a=>Ok (f a) Q:=by
 cases r with
 |ok a=>simp
 |bad=>simp
@[simp] def adg(r:Res α)(f:α->β)(Q:β->Prop):Ok (r.map f) Q↔Ok r λ a=>Q (f a):=by
 cases r with
 |ok a=>simp
 |bad=>simp
@[simp] def Zr(p:Prop)(r:Res α)(Q:α->Prop):Ok (guard p r) Q↔p/\Ok r Q:=by
 constructor
 .rintro⟨a,e,q⟩;let(h,e):=bI e;show(h,a,e,q,)
 .rintro⟨h,k⟩;rw[guard_pos h];show k
@[simp] def adh[Decidable c](r r':Res α)(Q:α->Prop):Ok (if c then r else r') Q↔if c then Ok r Q else Ok r' Q:=by split<;>rfl
abbrev v(d:D):ε L:=AC<|.val d
abbrev vi(i:Int):ε L:=AC<|.val<|.int i
abbrev vs(cs:U Nat):ε L:=AC<|.val<|.str cs
abbrev ow(xs:U D):ε L:=AC<|.own xs
abbrev bo(xs:U D):ε L:=AC<|.bor<|.lst xs
def _V:ε (ε L)->Res D
|some<|some<|.val d=>.ok d
|some<|some<|.own xs=>.ok<|.lst xs
|some<|some<|.bor<|.lst xs=>.ok<|.lst xs
|_=>.bad
def asV:ε (ε L)->Res D
|some<|some<|.val d=>.ok d
|_=>.bad
@[simp] def ahY(i:Nat)(Y:Env):eW i Y=_V Y[i]?:=by
 unfold eW _V;cases Y[i]? with
 |none=>rfl
 |some o=>cases o with
  |none=>rfl
  |some l=>ext l<;>rfl
@[simp] def ahZ(i:Nat)(Y:Env):eV i Y=asV Y[i]?:=by
 unfold eV asV;cases Y[i]? with
 |none=>rfl
 |some o=>cases o with
  |none=>rfl
  |some l=>ext l<;>rfl
@[simp] def _T(d:D):_V (AC<|some<|.val d)=.ok d:=rfl
@[simp] def _U(xs:U D):_V (AC<|some<|.own xs)=.ok (.lst xs):=rfl
@[simp] def _W(d:D):asV (AC<|some<|.val d)=.ok d:=rfl
def aA{b:SF}(h:Ok (b Y) λ fl=>a! (.ok fl)=.ok d):a! (b Y)=.ok d:=by let(fl,e,q):=h;rw[e,q]
def pL{b:SF}(h:Ok (b Y) λ fl=>Ok (a!<|.ok fl) P):Ok (a!<|b Y) P:=by let(fl,e,q):=h;rw[e];show q
@[simp] def Yx(i j:Nat)(a b:D)(Y:Env):cJ [i,j] (.tup [a,b]) Y=.ok ((Y.set i<|v a).set j<|v b):=rfl
def Zh(i:Nat)(Y:Env)(d:D):ε (ε L)->Res Fl
|some<|some<|.own xs=>guard (xs.n<line)<|.ok<|.nx<|Y.set i<|ow<|xs++[d]
|_=>.bad
@[simp] def Vc(i:Nat)(e:EF)(Y:Env):b9 i e Y=(e Y).bind λ d=>Zh i Y d Y[i]?:=rfl
@[simp] def Zg(i:Nat)(Y:Env)(d:D)(xs:U D):Zh i Y d (AC<|some<|.own xs)=guard (xs.n<line) (.ok<|.nx<|Y.set i<|ow<|xs++[d]):=rfl
def YF(i:Nat)(Y:Env)(ys:U D):ε (ε L)->Res Fl
|some<|some<|.own xs=>guard (xs.n+ys.n<=line)<|.ok<|.nx<|Y.set i<|ow<|xs++ys
|_=>.bad
@[simp] def aaw(i:Nat)(l:LF)(Y:Env):FH i l Y=(l Y).bind λ ys=>YF i Y ys Y[i]?:=rfl
@[simp] def YE(i:Nat)(Y:Env)(ys xs:U D):YF i Y ys (AC<|some<|.own xs)=guard (xs.n+ys.n<=line) (.ok<|.nx<|Y.set i<|ow<|xs++ys):=rfl
def T!(i:Nat)(Y:Env):ε (ε L)->Env
|some<|some<|.own xs=>Y.set i<|v<|.lst xs
|_=>Y
@[simp] def aau(i:Nat)(a:SF)(Y:Env):oh i a Y=a (T! i Y Y[i]?):=by
 unfold oh dW T!;cases Y[i]? with
 |none=>rfl
 |some o=>cases o with
  |none=>rfl
  |some l=>ext l<;>rfl
@[simp] def YB(i:Nat)(Y:Env)(xs:U D):T! i Y (AC<|some<|.own xs)=Y.set i (v<|.lst xs):=rfl
def ρ':D->D->Res (U D)
|.lst xs,.lst ys=>guard (xs.n+ys.n<=line)<|.ok<|xs++ys
|_,_=>.bad
def S7(a b:EF)(Y:Env):S8 a b Y=(a Y).bind λ x=>(b Y).bind λ y=>ρ' x y:=rfl
@[simp] def Y9(xs ys:U D):ρ' (.lst xs) (.lst ys)=guard (xs.n+ys.n<=line) (.ok<|xs++ys):=rfl
def slK(l h:ε Int):D->Res (U D)
|.lst xs=>.ok<|cut xs l h
|_=>.bad
def Qs(a:EF)(lo hi:PF)(Y:Env):Qt a lo hi Y=(a Y).bind λ x=>(lo Y).bind λ l=>(hi Y).bind λ h=>slK l h x:=rfl
@[simp] def ZP(l h:ε Int)(xs:U D):slK l h (.lst xs)=.ok (cut xs l h):=rfl
@[simp] def Z3(xs:U D)(l h:ε Int):WX (.tup xs) l h=.ok (.tup<|cut xs l h):=rfl
@[simp] def WW(cs:U Nat)(l h:ε Int):WX (.str cs) l h=guard (cs.n<=line) (.ok<|.str<|cut cs l h):=rfl
@[simp] def Vm(a b:U Nat):aS (.str a) (.str b)=guard (a.n+b.n<=line) (.ok<|.str<|a++b):=rfl
@[simp] def Vl(a b:U D):aS (.tup a) (.tup b)=guard (a.n+b.n<=line) (.ok<|.tup<|a++b):=rfl
@[simp] def WY(a:Int):F3 (.int a)=.ok (.int<|-a):=rfl
@[simp] def W8:gj .non=.ok (.bl Ch):=rfl
@[simp] def Vj:iF .non=.ok (.bl AT):=rfl
def jz(a b:Nat)(hb:b<=1000000)(ha:a<18446744073709551616):mX (.int<|a) (.int<|b)=.ok (.int<|(a^b:Nat)):=by
 let h:(0:Int)<=b/\(b:Int)<=1000000/\(a:Int).natAbs<2^64:=⟨by lia,by lia,by rw[Int.natAbs_natCast];show ha⟩
 change guard _ _=_;rw[guard_pos h,A69,Int.natCast_pow]
@[simp] def aaP:mX (.int 10) (.int 60)=.ok (.int 1000000000000000000000000000000000000000000000000000000000000):=jz 10 60 ∅ ∅
@[simp] def aaQ:mX (.int 10) (.int 55)=.ok (.int 10000000000000000000000000000000000000000000000000000000):=jz 10 55 ∅ ∅
@[simp] def aaR:mX (.int 10) (.int 50)=.ok (.int 100000000000000000000000000000000000000000000000000):=jz 10 50 ∅ ∅
@[simp] def ZZ:mX (.int 7919) (.int 9)=.ok (.int 122470950010456506152021579891552879):=jz 7919 9 ∅ ∅
def atK:ε D->Res D
|some d=>.ok d
|none=>.bad
@[simp] def Zf(d:D):atK (AC d)=.ok d:=rfl
def Nx(xs:U D)(i:Int):bf (.tup xs) (.int i)=atK ((vS xs.length i).bind λ j=>xs[j]?):=by change(match (vS _ i).bind λ j=>xs[j]? with|some v=>Res.ok v|none=>.bad)=_;cases (vS _ i).bind λ j=>xs[j]?<;>rfl
def Ny(xs:U D)(i:Int):bf (.lst xs) (.int i)=atK ((vS xs.length i).bind λ j=>xs[j]?):=by change(match (vS _ i).bind λ j=>xs[j]? with|some v=>Res.ok v|none=>.bad)=_;cases (vS _ i).bind λ j=>xs[j]?<;>rfl
def da{i:Int}{j:Nat}(h:i=j)(e:xs[j]?=AC d):bf (.tup xs) (.int i)=.ok d/\bf (.lst xs) (.int i)=.ok d:=by
 subst h;let hj:=(A02.mp e).1;let:vS xs.length (j)=AC j:=by simp[vS,hj]
 rw[Nx,Ny,this];simp[e]
def oN{i:Int}{j c:Nat}(h:i=j)(e:cs[j]?=AC c)(hl:cs.n<=line):bf (.str cs) (.int i)=.ok (.str [c]):=by
 subst h;let hj:=(A02.mp e).1;let:vS cs.length (j)=AC j:=by simp[vS,hj]
 change guard _ _=_;rw[guard_pos hl,this];simp[e]
def Ek(h0:0<=i)(h1:i<xs.n):∃d∈xs,bf (.lst xs) (.int i)=.ok d/\bf (.tup xs) (.int i)=.ok d:=by
 let hj:i.v<xs.n:=by lia
 show(xs[i.v],B65 hj,?_,);let:=da (i:=i) ∅<|A04 hj;show(this.2,this.1,)
def turn(I:Env->Prop)(Q:Fl->Prop):Fl->Prop
|.nx Y=>I Y
|.ct Y=>I Y
|.bk Y=>Q<|.nx Y
|.rt d=>Q<|.rt d
@[simp] def ZH(I:Env->Prop)(Q:Fl->Prop)(Y:Env):turn I Q (.nx Y)↔I Y:=Iff.rfl
@[simp] def ZI(I:Env->Prop)(Q:Fl->Prop)(Y:Env):turn I Q (.ct Y)↔I Y:=Iff.rfl
@[simp] def ZJ(I:Env->Prop)(Q:Fl->Prop)(Y:Env):turn I Q (.bk Y)↔Q (.nx Y):=Iff.rfl
@[simp] def ZG(I:Env->Prop)(Q:Fl->Prop)(d:D):turn I Q (.rt d)↔Q (.rt d):=Iff.rfl
def Kj(I:Nat->Env->Prop):∀ds Y i,I i Y->(∀j d Y,ds[j]?=AC d->I (i+j) Y->Ok (g d Y) λ Y1=>Ok (b Y1) (turn (I<|i+j+1) Q))->(∀Y,I (i+ds.n) Y->Q (.nx Y))->Ok (bM g b ds Y) Q
|[],Y,i,h,_,e=>by simpa[bM]using e Y h
|d::ds,Y,i,h,k,e=>by
 let(Y1,e1,fl,e2,t):=k 0 d Y rfl h;let ih:=λ Y' (h')=>Kj I ds Y' (i+1) h' (λ j x Y hj hP=>by let:=k (j+1) x Y (by calc hj) (by simpa[C34,A95 1 j]using hP);rwa[show i+(j+1)=i+1+j by lia]at this) λ Y hP=>e Y (by simpa[C34,A95 1]using hP)
 unfold bM;rw[e1,Res.lL,e2,Res.lL];cases fl with
 |nx Y'=>show ih Y' (by calc t)
 |ct Y'=>show ih Y' (by calc t)
 |bk Y'=>calc t
 |rt d=>calc t
def eQ(I:Nat->Env->Prop)(h0:I 0 Y)(hs:∀j d Y,ds[j]?=AC d->I j Y->Ok (g d Y) λ Y1=>Ok (b Y1) (turn (I<|j+1) Q))(he:∀Y,I ds.length Y->Q (.nx Y)):Ok (bM g b ds Y) Q:=
 Kj I ds Y 0 h0 (λ j d Y hd hI=>by rw[B19]at hI ⊢;show hs j d Y hd hI) λ Y h=>he Y (by rwa [B19]at h)
def Pe(p:D->Bool)(h:D->D)(hs:∀d∈ds,Ok (g d Y) λ Y1=>Ok (t Y1) λ c=>c=p d/\(p d=Ch->Ok (e Y1) λ y=>y=h d))(hq:Q ((ds.filter p).map h)):Ok (b7 g t e Y ds) Q:=by show(_,mJ ds λ d hd=>?_,hq,);let(Y1,e1,c,e2,hc,k):=hs d hd;show⟨Y1,e1,by rw[e2,hc],λ hp=>(k hp).eq⟩
def comp_map(h:D->D)(hs:∀d∈ds,Ok (g d Y) λ Y1=>Ok (e Y1) λ y=>y=h d)(hq:Q (ds.map h)):Ok (b7 g b8 e Y ds) Q:=by show(_,t6 ds λ d hd=>?_,hq,);let(Y1,e1,k):=hs d hd;rw[e1];show k.eq
def bF{α:Type}(enc:α->D)(f:α->Bool)(h:α->D):∀{xs:U α}{Q},(∀x∈xs,Ok (g (enc x) Y) λ Y1=>Ok (t Y1) λ c=>c=f x/\(f x=Ch->Ok (e Y1) λ y=>y=h x))->Q ((xs.filter f).map h)->Ok (b7 g t e Y<|xs.map enc) Q:=by
 intro xs Q hs hq;show(_,?_,hq,);clear hq
 induction xs with
 |nil=>rfl
 |cons x xs ih=>
  let(Y1,e1,c,e2,hc,k):=hs x A13;let ih':=ih λ y hy=>hs y<|A09 _ hy;cases hf:f x with
  |true=>rw[hf]at hc;let:=(k hf).eq;simp[b7,e1,e2,hc,this,ih',hf]
  |false=>rw[hf]at hc;simp[b7,e1,e2,hc,ih',hf]
end Z
end S0
open ZS renaming bK→ca,cz→ce,hv→jp,um.of→lc,fN→lf,yj→lw,CH→pi,CI→tz,CJ→ul,G6→ut,G5→wE,G4→wf,lW→wn,jL→ww,mL→xL,rg→AAA
local macro_rules
| `(tactic|trivial)=>`(tactic|first|show AD5 rfl|show sK rfl)
open ZS (Fl)
open ZS (Gk Dn)
set_option maxRecDepth 4000
namespace KA
open Z
def d?:SF:=(aJ<|mf (eB oEq (eU bj<|eW 0)<|eI 1)<|dI oLe oLe (eC<|.str [97]) (eW 0)<|eC<|.str [122])
def cy:U D->Res D:=fn 1 1 d?
def j5(x0:D):cy [x0]=a! (d? [AC (.val x0)]):=bR _ _ _ _ rfl
def iz:SF:=(aJ<|Ud (eB uI (eW 0)<|cm<|ai (eC<|.str [46])<|ai (eC<|.str [61])<|ai (eC<|.str [35]) ag)<|aj cy<|aV 0 ag)
def iK:U D->Res D:=fn 1 1 iz
def Cr(x0:D):iK [x0]=a! (iz [AC (.val x0)]):=bR _ _ _ _ rfl
def d!:SF:=(aD (dN (nP (cZ<|tE<|eU (dS .str)<|eW 0)<|cZ<|tE<|dI oLe oLe (eI 1) (eU bj<|eW 0)<|eI 12) (aJ<|eC<|.bl AT) aR)<|aJ<|eU i4<|eL<|bx (c5<|eW 0) 1 [] (aH 0) b8<|aj iK<|aV 0 ag)
def iy:U D->Res D:=fn 1 1 d!
def gC(x0:D):iy [x0]=a! (d! [AC (.val x0)]):=bR _ _ _ _ rfl
def cL:SF:=(aD (dN (nP (cZ<|tE<|eU (dS .tuple)<|eW 0)<|cZ<|tE<|dI oLe oLe (eI 1) (eU bj<|eW 0)<|eI 6) (aJ<|eC<|.bl AT) aR)<|aD (dN (cZ<|tE<|eU i4<|eL<|bx (c5<|eW 0) 1 [] (aH 0) b8<|aj iy<|aV 0 ag) (aJ<|eC<|.bl AT) aR)<|aJ<|eU i4<|eL<|bx (c5<|eW 0) 1 [0] (aH 0) b8<|eB oEq (eU bj<|eW 0)<|eU bj<|eX 1 0)
def gB:U D->Res D:=fn 1 1 cL
def fw(x0:D):gB [x0]=a! (cL [AC (.val x0)]):=bR _ _ _ _ rfl
end KA
set_option maxRecDepth 8000
namespace Z
def qf:(∀a,dE .bool (.int a)=AT)/\dE .int .non=AT/\(∀a,dE .int (.int a)=Ch)/\dE .str .non=AT/\(∀a,dE .str (.bl a)=AT)/\(∀a,dE .str (.int a)=AT)/\(∀a,dE .str (.str a)=Ch)/\(∀a,dE .str (.tup a)=AT)/\(∀a,dE .str (.lst a)=AT)/\(∀a b,dE .str (.dct a b)=AT)/\dE .tuple .non=AT/\(∀a,dE .tuple (.bl a)=AT)/\(∀a,dE .tuple (.int a)=AT)/\(∀a,dE .tuple (.str a)=AT)/\(∀a,dE .tuple (.tup a)=Ch)/\(∀a,dE .tuple (.lst a)=AT)/\(∀a b,dE .tuple (.dct a b)=AT):=(λ _=>rfl,rfl,λ _=>rfl,rfl,λ _=>rfl,λ _=>rfl,λ _=>rfl,λ _=>rfl,λ _=>rfl,λ _ _=>rfl,rfl,λ _=>rfl,λ _=>rfl,λ _=>rfl,λ _=>rfl,λ _=>rfl,λ _ _=>rfl,)
end Z
namespace KA
open Z
abbrev Rows:=U<|U Nat
structure Hall(R L:Nat)(rows:Rows):Prop where
 r1:1<=R
 r2:R<=6
 l1:1<=L
 l2:L<=12
 len:rows.n=R
 each:∀x∈rows,x.n=L
 sg:∀x∈rows,∀c∈x,c∈signs
def mF(c:Nat):cy [.str [c]]=.ok (.bl<|decide (97<=c)&&decide (c<=122)):=by
 rw[j5];show aA ?_;by_cases h1:c<97
 .simp[d?,Hj,line,Nat.not_le.mpr h1]
 .by_cases h2:122<c
  .simp[d?,Hj,line,h2,A86.mp h1]
  .simp[d?,Hj,line,A86.mp h1,A86.mp h2]
def F!(c:Nat):decide (c∈signs)=(c==46||c==61||c==35||(decide (97<=c)&&decide (c<=122))):=by
 by_cases h:c<128
 .exact(by decide:∀c<128,decide _=(c==46||c==61||c==35||(decide _&&decide (c<=122)))) c h
 .let h1:c∉signs:=λ m=>h<|(by decide:∀c∈signs,c<128) c m;let h2:¬c<=122:=by lia
  let h3:c≠46:=by lia
  let h4:c≠61:=by lia
  let h5:c≠35:=by lia
  simp[h1,h2,h3,h4,h5]
def OQ(s t:U Nat):kH (.str s) (.str t)=AC (s==t):=rfl
def Af(c:Nat):iK [.str [c]]=.ok (.bl<|decide<|c∈signs):=by
 rw[Cr,F!];show aA ?_;let e:=mF c;by_cases h1:c=46
 .subst h1;simp[iz,line,uI,fM,OQ]
 .by_cases h2:c=61
  .subst h2;simp[iz,line,uI,fM,OQ]
  .by_cases h3:c=35
   .subst h3;simp[iz,line,uI,fM,OQ]
   .simp[iz,uI,fM,OQ,e,h1,h2,h3];lia
def all_map{α:Type}(f:α->Bool)(xs:U α):allB (xs.map λ x=>D.bl<|f x)=AC (xs.all f):=by
 let:=yq<|xs.map f;rw[A24]at this;rw[show(xs.map λ x=>D.bl _)=xs.map (D.bl∘f)from rfl,this]
 congr 1
 induction xs with
 |nil=>rfl
 |cons x xs ih=>simp
def Ij(cs:U Nat):Bool:=decide (1<=cs.n/\cs.n<=12)&&cs.all λ c=>decide (c∈signs)
def Ii(cs:U Nat):Ok (b7 (aH 0) b8 (aj iK<|aV 0 ag) [At]<|cs.map λ c=>.str [c]) λ ds=>ds=cs.map λ c=>D.bl (decide<|c∈signs):=
 bF (λ c=>D.str [c]) (λ _=>Ch) (λ c=>.bl<|decide<|c∈signs) (λ c _=>by simp[Af]) (by rw[B05.mpr λ _ _=>rfl])
def Ca(cs:U Nat)(h:cs.n<=1000):iy [.str cs]=.ok (.bl<|Ij cs):=by
 let hl:cs.n<=16777216:=by lia
 rw[gC];show aA ?_;unfold Ij;by_cases h1:1<=cs.n
 .by_cases h2:cs.n<=12
  .let e1:(1)<=(cs.n:Int):=by lia
   let e2:(cs.n:Int)<=12:=by lia
   simp[d!,Z.qf,hl,h1,h2,e1,e2,a_];show(Ii cs).imp ?_;rintro ds rfl;simp[i4,all_map,h1,h2]
  .let e2:¬(cs.n:Int)<=12:=by lia
   simp[d!,Z.qf,hl,h1,h2,e2,line]
 .let e1:¬(1)<=(cs.n:Int):=by lia
  simp[d!,Z.qf,hl,h1,e1,line]
def oj:D->Bool
|.str cs=>Ij cs
|_=>AT
def Fit(d:D):Prop:=∀cs,d=.str cs->cs.n<=1000
def Gi(d:D)(h:Fit d):iy [d]=.ok (.bl<|oj d):=by
 cases d with
 |str cs=>show Ca cs<|h cs rfl
 |non=>rw[gC];show aA (by simp[d!,Z.qf,oj])
 |bl _=>rw[gC];show aA (by simp[d!,Z.qf,oj])
 |int _=>rw[gC];show aA (by simp[d!,Z.qf,oj])
 |tup _=>rw[gC];show aA (by simp[d!,Z.qf,oj])
 |lst _=>rw[gC];show aA (by simp[d!,Z.qf,oj])
 |dct _ _=>rw[gC];show aA (by simp[d!,Z.qf,oj])
def B8:D->Nat
|.str cs=>cs.n
|_=>0
def An(xs:U D):Bool:=decide (1<=xs.n/\xs.n<=6)&&xs.all oj&&xs.all λ d=>B8 d==B8 (xs.headD .non)
def qz:D->Bool
|.tup xs=>An xs
|_=>AT
def Ci(xs:U D)(h:∀d∈xs,Fit d):Ok (b7 (aH 0) b8 (aj iy<|aV 0 ag) [At] xs) λ ds=>ds=xs.map λ d=>D.bl (oj d):=
 comp_map (λ d=>.bl _) (λ d hd=>by simp[Gi d<|h d hd]) rfl
def Ee(h:oj d=Ch):bj d=.ok (.int<|B8 d):=by
 cases d with
 |str cs=>
  let:cs.n<=16777216:=by erw[oj,Ij,B46]at h;lia
  simp[B8,this]
 |_=>ext h
def Cg(h:∀d∈xs,oj d=Ch):Ok (b7 (aH 0) b8 (eB oEq (eU bj<|eW 0)<|eU bj<|eX 1 0) [At,v (.tup xs)] xs) λ ds=>ds=xs.map λ d=>D.bl (B8 d==B8 (xs.headD .non)):=
 comp_map (λ d=>.bl _) (λ d hd=>by
  cases xs with
  |nil=>ext hd
  | cons x xs=>let e0:bf (.tup<|x::xs) (.int 0)=.ok x:=(da rfl rfl).1;let e1:=Ee<|h d hd;let e2:=Ee<|h x A13;simp[e0,e1,e2];show A59.mpr (by simp;lia)) rfl
def Cb(d:D)(h:∀xs,d=.tup xs->xs.n<=1000/\∀x∈xs,Fit x):gB [d]=.ok (.bl<|qz d):=by
 cases d with
 |tup xs=>
  let(h1,h2):=h xs rfl;let hl:xs.n<=16777216:=by lia
  rw[fw];show aA ?_;erw[qz,An];by_cases q1:1<=xs.n
  .by_cases q2:xs.n<=6
   .let e1:(1)<=(xs.n:Int):=by lia
    let e2:(xs.n:Int)<=6:=by lia
    let c1:=Ci xs h2;cases q3:xs.all oj with
    |false=>simp[cL,Z.qf,hl,q1,q2,e1,e2,line,a_,fg];show c1.imp ?_;rintro ds rfl;simp[i4,all_map,q3]
    |true=>let q4:=A30.mp q3;let c2:=Cg q4;simp[cL,Z.qf,hl,q1,q2,e1,e2,line,a_,fg];show c1.imp ?_;rintro ds rfl;simp[i4,all_map,q3,hl,q1,q2,e1,e2,line,a_,fg];show c2.imp ?_;rintro ds rfl;simp[i4,all_map,q1,q2,q3]
   .let e2:¬(xs.n:Int)<=6:=by lia
    simp[cL,Z.qf,hl,q1,q2,e2,line]
  .let e1:¬(1)<=(xs.n:Int):=by lia
   simp[cL,Z.qf,hl,q1,e1,line]
 |str _=>rw[fw];show aA (by simp[cL,Z.qf,qz])
 |non=>rw[fw];show aA (by simp[cL,Z.qf,qz])
 |bl _=>rw[fw];show aA (by simp[cL,Z.qf,qz])
 |int _=>rw[fw];show aA (by simp[cL,Z.qf,qz])
 |lst _=>rw[fw];show aA (by simp[cL,Z.qf,qz])
 |dct _ _=>rw[fw];show aA (by simp[cL,Z.qf,qz])
def Hall.b{R L:Nat}(H:Hall R L rows):An (rows.map .str)=Ch:=by
 unfold An;let h1:=H.r1;let h2:=H.r2;let h3:=H.l1;let h4:=H.l2;erw[A34,B46,A08,H.len,A30];show(((h1,h2,),λ d hd=>?_,),λ d hd=>?_,)
 .let(r,hr,rfl):=A07.mp hd;erw[oj,Ij,A34,B46,A30,H.each r hr];show((h3,h4,),H.sg r hr,)
 .let(r,hr,rfl):=A07.mp hd;cases rows with
  |nil=>ext hr
  |cons x xs=>simp[B8,H.each r hr,H.each x _]
end KA
set_option maxRecDepth 4000
namespace KS
open Z KA
def fy:SF:=(aJ<|mf (eU (dS .int)<|eW 0)<|OV<|eU (dS .bool)<|eW 0)
def dm:U D->Res D:=fn 1 1 fy
def lx(x0:D):dm [x0]=a! (fy [AC (.val x0)]):=bR _ _ _ _ rfl
def bc:SF:=(aJ<|mf (aj dm<|aV 0 ag)<|dI oLe oLe (eW 1) (eW 0)<|eW 2)
def aO:U D->Res D:=fn 3 3 bc
def fv(x0 x1 x2:D):aO [x0,x1,x2]=a! (bc [AC (.val x0),AC (.val x1),AC (.val x2)]):=bR _ _ _ _ rfl
def jM:SF:=(aD (dN (nP (cZ<|tE<|eU (dS .str)<|eW 0)<|cZ<|tE<|dI oLe oLe (eI 1) (eU bj<|eW 0)<|eI 8) (aJ<|eC<|.bl AT) aR)<|aJ<|eU i4<|eL<|bx (c5<|eW 0) 1 [] (aH 0) b8<|aj KA.cy<|aV 0 ag)
def dZ:U D->Res D:=fn 1 1 jM
def Cs(x0:D):dZ [x0]=a! (jM [AC (.val x0)]):=bR _ _ _ _ rfl
def lY:SF:=(aJ<|mf (eU (dS .str)<|eW 0)<|Ud (eB oEq (eW 0)<|eC<|.str [])<|aj KA.cy<|aV 0 ag)
def j4:U D->Res D:=fn 1 1 lY
def Ct(x0:D):j4 [x0]=a! (lY [AC (.val x0)]):=bR _ _ _ _ rfl
def lF:SF:=(aJ<|aj aO<|aV 0<|aV 1<|ai (eB mW (eB mX (eI 10)<|eI 60)<|eI 1) ag)
def f7:U D->Res D:=fn 2 2 lF
def xZ(x0 x1:D):f7 [x0,x1]=a! (lF [AC (.val x0),AC (.val x1)]):=bR _ _ _ _ rfl
def qa:SF:=(aD (dN (nP (cZ<|tE<|eU (dS .tuple)<|eW 0)<|tE<|eB l_ (eU bj<|eW 0)<|eI 2) (aJ<|eC<|.bl AT) aR)<|aJ<|mf (aj aO<|aX 0 0<|aI 0<|aI 5 ag)<|aj f7<|aX 0 1<|aI 1 ag)
def iJ:U D->Res D:=fn 1 1 qa
def Cq(x0:D):iJ [x0]=a! (qa [AC (.val x0)]):=bR _ _ _ _ rfl
def km:SF:=(aD (dN (nP (cZ<|tE<|eU (dS .tuple)<|eW 0)<|cZ<|tE<|eU i4<|eL<|bx (c5<|eW 0) 1 [] (aH 0) b8<|aj iJ<|aV 0 ag) (aJ<|eC<|.bl AT) aR)<|aJ<|eU i4<|eL<|bx (dF<|eB mW (eU bj<|eW 0)<|eI 1) 1 [0] (aH 0) b8<|eB oLt (eB bf (eY 1 0)<|eI 0)<|eB bf (eB bf (eW 1)<|eB aS (eW 0)<|eI 1)<|eI 0)
def gR:U D->Res D:=fn 1 1 km
def uX(x0:D):gR [x0]=a! (km [AC (.val x0)]):=bR _ _ _ _ rfl
def gJ:SF:=(aD (dN (cZ<|tE<|aj aO<|aX 0 1<|aI 1<|aI 12 ag) (aJ<|eC<|.bl AT) aR)<|aD (dN (cZ<|tE<|aj aO<|aX 0 2<|aI 1<|aI 3 ag) (aJ<|eC<|.bl AT) aR)<|aD (dN (cZ<|tE<|aj aO<|aX 0 4<|aI 0<|ai (eB eP (eX 0 1)<|eX 0 2) ag) (aJ<|eC<|.bl AT) aR)<|aJ<|mf (aj j4<|aX 0 3 ag)<|aj aO<|aX 0 5<|aI 0<|aI 6 ag)
def dP:U D->Res D:=fn 1 1 gJ
def o7(x0:D):dP [x0]=a! (gJ [AC (.val x0)]):=bR _ _ _ _ rfl
def nK:SF:=(aD (dN (nP (cZ<|tE<|eU (dS .tuple)<|eW 0)<|tE<|eB l_ (eU bj<|eW 0)<|eI 8) (aJ<|eC<|.bl AT) aR)<|aD (dN (nP (cZ<|tE<|aj dZ<|aX 0 0 ag)<|cZ<|tE<|aj dP<|aV 0 ag) (aJ<|eC<|.bl AT) aR)<|aJ<|mf (aj f7<|aX 0 6<|aI 0 ag)<|aj gR<|aX 0 7 ag)
def cR:U D->Res D:=fn 1 1 nK
def AH(x0:D):cR [x0]=a! (nK [AC (.val x0)]):=bR _ _ _ _ rfl
end KS
set_option maxRecDepth 8000
namespace KS
open Z KA
structure Gp where
 nm:List Nat
 w:Nat
 d:Nat
 kd:List Nat
 wi:Nat
 ga:Nat
 wo:Nat
 ws:List (Nat×Nat)
def i'(p:Nat×Nat):D:=.tup [.int p.1,.int p.2]
def dQ(g:Gp):D:=.tup [.str g.nm,.int g.w,.int g.d,.str g.kd,.int g.wi,.int g.ga,.int g.wo,.tup (g.ws.map i')]
structure C1(g:Gp):Prop where
 n1:1<=g.nm.n
 n2:g.nm.n<=8
 nl:∀c∈g.nm,c∈aL
 w1:1<=g.w
 w2:g.w<=12
 d1:1<=g.d
 d2:g.d<=3
 kd:g.kd=[]\/∃c∈aL,g.kd=[c]
 wi:g.wi<=g.w*g.d
 ga:g.ga<=6
 wo:g.wo<10^60
 wl:g.ws.n<=6
 wr:∀p∈g.ws,p.1<=5/\1<=p.2/\p.2<10^60
 up:(g.ws.map (·.1)).Pairwise (· < ·)
def Ib(h:Ok (a Y) λ fl=>fl=.nx Y1)(k:Ok (b Y1) Q):Ok (aD a b Y) Q:=by let(fl,e,rfl):=h;rw[RC,e,Res.lL];show k
def ex0:bf (dQ g) (.int 0)=.ok (.str g.nm):=rfl
def ex1:bf (dQ g) (.int 1)=.ok (.int g.w):=rfl
def ex2:bf (dQ g) (.int 2)=.ok (.int g.d):=rfl
def ex3:bf (dQ g) (.int 3)=.ok (.str g.kd):=rfl
def ex4:bf (dQ g) (.int 4)=.ok (.int g.wi):=rfl
def ex5:bf (dQ g) (.int 5)=.ok (.int g.ga):=rfl
def ex6:bf (dQ g) (.int 6)=.ok (.int g.wo):=rfl
def ex7:bf (dQ g) (.int 7)=.ok (.tup<|g.ws.map i'):=rfl
def Xt{n:Nat}(h:n<10^60):(n:Int)<=10^60-1:=by
 let h2:(n:Int)<10^60:=by exact_mod_cast h
 show Int.le_sub_one_of_lt h2
def ve(n:Int):dm [.int n]=.ok (.bl Ch):=by rw[lx];show aA (by simp[fy,Z.qf])
def within_int(n a b:Int):aO [.int n,.int a,.int b]=.ok (.bl<|decide<|a<=n/\n<=b):=by
 rw[fv];show aA ?_;by_cases h1:a<=n
 .simp[bc,ve,h1]
 .simp[bc,ve,h1]
def uc(n a:Int):f7 [.int n,.int a]=.ok (.bl<|decide<|a<=n/\n<=10^60-1):=by rw[xZ];show aA ?_;simp[lF,within_int]
def NX(c:Nat):decide (c∈aL)=(decide (97<=c)&&decide (c<=122)):=by
 by_cases h:c<128
 .exact(by decide:∀c<128,decide _=(decide _&&decide (c<=122))) c h
 .let h1:c∉aL:=λ m=>h<|(by decide:∀c∈aL,c<128) c m;let h2:¬c<=122:=by lia
  simp[h1,h2]
def sT(c:Nat):cy [.str [c]]=.ok (.bl<|decide<|c∈aL):=by rw[mF,NX]
def F9(cs:U Nat):Ok (b7 (aH 0) b8 (aj KA.cy<|aV 0 ag) [At]<|cs.map λ c=>.str [c]) λ ds=>ds=cs.map λ c=>D.bl (decide<|c∈aL):=
 bF (λ c=>D.str [c]) (λ _=>Ch) (λ c=>.bl<|decide<|c∈aL) (λ c _=>by simp[sT]) (by rw[B05.mpr λ _ _=>rfl])
def vJ(cs:U Nat):Bool:=decide (1<=cs.n/\cs.n<=8)&&cs.all λ c=>decide (c∈aL)
def D7(cs:U Nat)(h:cs.n<=16777216):dZ [.str cs]=.ok (.bl<|vJ cs):=by
 rw[Cs];show aA ?_;unfold vJ;by_cases h1:1<=cs.n
 .by_cases h2:cs.n<=8
  .let e1:(1)<=(cs.n:Int):=by lia
   let e2:(cs.n:Int)<=8:=by lia
   simp[jM,Z.qf,h,h1,h2,e1,e2,a_,fg];show(F9 cs).imp ?_;rintro ds rfl;simp[i4,all_map,h1,h2]
  .let e2:¬(cs.n:Int)<=8:=by lia
   simp[jM,Z.qf,h,h1,h2,e2,line]
 .let e1:¬(1)<=(cs.n:Int):=by lia
  simp[jM,Z.qf,h,h1,e1,line]
def kindB(cs:U Nat):Bool:=cs==[]||(decide (cs.n=1)&&cs.all λ c=>decide (c∈aL))
def Ga(cs:U Nat)(h:cs.n<=16777216):cy [.str cs]=.ok (.bl<|decide (cs.n=1)&&cs.all λ c=>decide (c∈aL)):=by
 cases cs with
 |nil=>rw[j5];show aA (by simp[d?])
 |cons c r=>
  cases r with
  |nil=>rw[sT];simp
  |cons c' r=>
   rw[j5];show aA ?_;let e:¬((r.n:Int)+1+1=1):=by lia
   let h':r.n+1+1<=16777216:=by simpa using h
   simp[d?,h',e]
def N!(cs:U Nat)(h:cs.n<=16777216):j4 [.str cs]=.ok (.bl<|kindB cs):=by
 let hl:=Ga cs h;rw[Ct];show aA ?_;unfold kindB;let en:oEq (.str cs) (.str [])=.ok (.bl<|decide<|cs=[]):=by ext cs<;>rfl
 by_cases h0:cs=[]
 .subst h0;let en':oEq (.str []) (.str [])=.ok _:=rfl;simp[lY,Z.qf]
 .let hb:(cs==[])=AT:=by simpa using h0
  simp[lY,Z.qf,hl,hb]
section
variable{g:Gp}
def Mg(h:p.1<=5/\1<=p.2/\p.2<10^60):iJ [i' p]=.ok (.bl Ch):=by let i0:bf (i' p) (.int 0)=.ok _:=rfl;let i1:bf (i' p) (.int 1)=.ok _:=rfl;let w1:=within_int p.1 0 5;let w2:=uc p.2 1;let q1:decide ((0)<=(p.1:Int)/\(p.1:Int)<=5)=Ch:=A54 ∅;let q2:decide ((1)<=(p.2:Int)/\(p.2:Int)<=10^60-1)=Ch:=A54 ⟨by lia,Xt h.2.2⟩;rw[q1]at w1;rw[q2]at w2;rw[Cq];show aA ?_;let ty:dE .tuple (i' p)=Ch:=rfl;let ln:bj (i' p)=.ok _:=rfl;simp[qa,ty,ln,i0,i1,w1,w2]
def Ff(hw:∀p∈g.ws,p.1<=5/\1<=p.2/\p.2<10^60):Ok (b7 (aH 0) b8 (aj iJ<|aV 0 ag) [At]<|g.ws.map i') λ ds=>ds=g.ws.map λ _=>D.bl Ch:=
 bF i' (λ _=>Ch) (λ _=>.bl Ch) (λ p hp=>by simp[Mg<|hw p hp]) (by rw[B05.mpr λ _ _=>rfl])
def FJ(hu:(g.ws.map (·.1)).Pairwise (· < ·)):Ok (b7 (aH 0) b8 (eB oLt (eB bf (eY 1 0)<|eI 0)<|eB bf (eB bf (eW 1)<|eB aS (eW 0)<|eI 1)<|eI 0) [At,v (.tup<|g.ws.map i')]<|(EQ<|g.ws.n-1).map λ n=>D.int (n:Nat)) λ ds=>ds=(EQ<|g.ws.n-1).map λ _=>D.bl Ch:=
 bF (λ n=>D.int (n:Nat)) (λ _=>Ch) (λ _=>.bl Ch) (λ n hn=>by
  let LV:=A25.mp hn;let l1:n<g.ws.n:=A18 LV (Nat.sub_le _ _)
  let l2:n+1<g.ws.n:=Nat.add_lt_of_lt_sub LV
  let i1:bf (.tup<|g.ws.map i') (.int<|n)=.ok (i' g.ws[n]):=(da rfl (by rw[A06,A04];rfl)).1;let i2:bf (.tup<|g.ws.map i') (.int<|(n)+1)=.ok (i' g.ws[n+1]):=(da (j:=n+1) ∅ (by rw[A06,A04 l2];rfl)).1;let j1:∀p,bf (i' p) (.int 0)=.ok (.int p.1):=λ p=>rfl;let lt:g.ws[n].1<g.ws[n+1].1:=by let:=C35.mp hu n (n+1) (by simp;lia) (by simp;lia) ∅;simpa using this
  let lt':((g.ws[n].1))<(g.ws[n+1].1):=by lia
  simp[i1,i2,j1,lt']) (by rw[B05.mpr λ _ _=>rfl])
def all_true{α:Type}(xs:U α):i4 (.lst<|xs.map λ _=>D.bl Ch)=.ok (.bl Ch):=by let:=all_map (λ _=>Ch) xs;erw[i4,this];simp
def Bn(k:C1 g):gR [.tup (g.ws.map i')]=.ok (.bl Ch):=by
 let hl:g.ws.n<=16777216:=by let:=k.wl;lia
 let e1:«zints» 0 (g.ws.n-1)=(EQ<|g.ws.n-1).map λ n=>D.int (n:Nat):=by show B13 λ n _=>by simp
 rw[uX];show aA ?_;simp[km,Z.qf,hl,a_];show(Ff k.wr).imp ?_;rintro ds rfl;rw[all_true];simp[hl,a_];rw[e1];show⟨by lia,(FJ k.up).imp ?_⟩;rintro ds rfl;rw[all_true];simp
def Pw(k:C1 g):dP [dQ g]=.ok (.bl Ch):=by
 let w1:=within_int g.w 1 12;let w2:=within_int g.d 1 3;let w3:=within_int g.wi 0<|(g.w)*(g.d);let w4:=within_int g.ga 0 6;rw[A54<|⟨by let:=k.w1;lia,by let:=k.w2;lia⟩]at w1;rw[A54<|⟨by let:=k.d1;lia,by let:=k.d2;lia⟩]at w2;rw[A54<|⟨by lia,by let:=k.wi;exact_mod_cast this⟩]at w3;rw[A54<|⟨by lia,by let:=k.ga;lia⟩]at w4;let wk:=N! g.kd (by rcases k.kd with h|⟨c,_,h⟩<;>rw[h]<;>simp);let wk':kindB g.kd=Ch:=by
  rcases k.kd with h|⟨c,hc,h⟩<;>rw[h]
  .rfl
  .simp[kindB,hc]
 rw[wk']at wk;let m:bN (g.w) (g.d):=c7 ∅ (by let:=k.w2;lia);rw[o7];show aA ?_;simp[gJ,ex1,ex2,ex3,ex4,ex5,w1,w2,w3,w4,wk,m]
def Ka(k:C1 g):cR [dQ g]=.ok (.bl Ch):=by
 let hn:=D7 g.nm (by let:=k.n2;lia);let LV:vJ g.nm=Ch:=by unfold vJ;rw[A54 ⟨k.n1,k.n2⟩,B66,A30];show λ c hc=>A54<|k.nl c hc
 rw[LV]at hn;let ha:=Pw k;let hw:=Bn k;let ho:=uc g.wo 0;rw[A54<|⟨by lia,Xt k.wo⟩]at ho;let ty:dE .tuple (dQ g)=Ch:=rfl;let ln:bj (dQ g)=.ok _:=rfl;rw[AH];show aA ?_;simp[nK,ty,ln,ex0,ex6,ex7,hn,ha,ho,hw]
end
def G_(nm:U Nat):Prop:=1<=nm.n/\nm.n<=8/\∀c∈nm,c∈aL
structure A7(n:Nat)(ws:List (Nat×Nat)):Prop where
 l:ws.n<=n
 r:∀p∈ws,p.1<n/\1<=p.2/\p.2<10^60
 up:(ws.map (·.1)).Pairwise (· < ·)
def A7.next(h:A7 n ws):A7 (n+1) ws:=⟨by let:=h.l;lia,λ p hp=>by let(a,b):=h.r p hp;show⟨by lia,b⟩,h.up⟩
def A7.snoc(h:A7 n ws)(h1:1<=a)(h2:a<10^60):A7 (n+1) (ws++[(n,a)]):=by
 show⟨by let:=h.l;simp;lia,λ p hp=>?_,?_⟩
 .rcases A37.mp hp with hp|hp
  .let(a,b):=h.r p hp;show⟨by lia,b⟩
  .rw[A11.mp hp];show⟨by lia,h1,h2⟩
 .rw[A26,C36];show⟨h.up,by simp,λ x hx y hy=>?_⟩;let(p,hp,rfl):=A07.mp hx;simp at hy;rw[hy];show(h.r p hp).1
end KS
set_option maxRecDepth 4000
namespace KG
open Z
def rL:SF:=(aJ<|Ud (eB uI (eW 0)<|cm<|ai (eC<|.str [46])<|ai (eC<|.str [61]) ag)<|eB oEq (eW 0)<|eW 1)
def oY:U D->Res D:=fn 2 2 rL
def Kl(x0 x1:D):oY [x0,x1]=a! (rL [AC (.val x0),AC (.val x1)]):=bR _ _ _ _ rfl
def nF:SF:=(aD (jv 2<|bq ag)<|aD (eS (Ah (eX 1 0)<|eB aS (eX 1 0)<|eX 0 2) (aH 3)<|FH 2<|bx (Ah (eX 1 1)<|eB aS (eX 1 1)<|eX 0 1) 1 [3] (aH 0) b8<|cm<|aV 1<|aV 0 ag)<|aJ<|eU gw<|eW 2)
def je:U D->Res D:=fn 2 4 nF
def Ay(x0 x1:D):je [x0,x1]=a! (nF [AC (.val x0),AC (.val x1),At,At]):=bR _ _ _ _ rfl
def gW:SF:=(aD (dN (tE<|eB oLt (eW 1)<|eU bj<|eW 0) (aJ<|eY 0 1) aR)<|aJ<|eI 0)
def aZ:U D->Res D:=fn 2 2 gW
def lu(x0 x1:D):aZ [x0,x1]=a! (gW [AC (.val x0),AC (.val x1)]):=bR _ _ _ _ rfl
def gH:SF:=(aD (aN 2<|eX 1 0)<|aD (aN 3<|eX 1 1)<|aD (dN (n8 (tE<|dI oLe oLt (eI 0) (eW 2)<|eU bj<|eW 0)<|tE<|dI oLe oLt (eI 0) (eW 3)<|eU bj<|eX 0 0) (aJ<|eB bf (eY 0 2)<|eW 3) aR)<|aJ<|eC .non)
def j2:U D->Res D:=fn 2 4 gH
def Cn(x0 x1:D):j2 [x0,x1]=a! (gH [AC (.val x0),AC (.val x1),At,At]):=bR _ _ _ _ rfl
def CS:SF:=(aD (aN 3<|eL<|bx (c5<|aj je<|aV 1<|aV 2 ag) 1 [0] (aH 0) b8<|aj j2<|aV 1<|aV 0 ag)<|aD (dN (cZ<|tE<|eU i4<|eL<|bx (c5<|eW 3) 1 [1] (aH 0) b8<|aj oY<|aV 0<|aX 1 3 ag) (aJ<|eC<|.bl AT) aR)<|aJ<|eB Vk (eB xw (eW 3)<|eC<|.str [61])<|eX 1 4)
def oZ:U D->Res D:=fn 3 4 CS
def OJ(x0 x1 x2:D):oZ [x0,x1,x2]=a! (CS [AC (.val x0),AC (.val x1),AC (.val x2),At]):=bR _ _ _ _ rfl
def lB:SF:=(aD (jv 2<|bq ag)<|aD (eS (dF<|eU bj<|eW 0) (aH 3)<|FH 2<|bx (dF<|eU bj<|eY 0 3) 1 [0,1,3] (aH 0) (tE<|aj oZ<|aV 1<|aV 2<|ai (cm<|aV 3<|aV 0 ag) ag)<|cm<|aV 3<|aV 0 ag)<|aJ<|eU gw<|eW 2)
def eE:U D->Res D:=fn 2 4 lB
def xT(x0 x1:D):eE [x0,x1]=a! (lB [AC (.val x0),AC (.val x1),At,At]):=bR _ _ _ _ rfl
def lZ:SF:=(aD (dN (nP (tE<|eB oLe (eB aS (eX 1 0)<|eX 0 2)<|eX 3 0)<|tE<|eB oLe (eB aS (eX 3 0)<|eX 2 2)<|eX 1 0) (aJ<|eC<|.bl Ch) aR)<|aD (aN 4<|eB F4 (eX 0 5)<|eX 2 5)<|aJ<|Ud (eB oLe (eB aS (eB aS (eX 1 1)<|eX 0 1)<|eW 4)<|eX 3 1)<|eB oLe (eB aS (eB aS (eX 3 1)<|eX 2 1)<|eW 4)<|eX 1 1)
def o3:U D->Res D:=fn 4 5 lZ
def Kn(x0 x1 x2 x3:D):o3 [x0,x1,x2,x3]=a! (lZ [AC (.val x0),AC (.val x1),AC (.val x2),AC (.val x3),At]):=bR _ _ _ _ rfl
def gG:SF:=(aJ<|eL<|bx (Gn (eV 0)<|eV 1) 2 [] (cJ [0,1]) (tE<|eU iF<|eW 1)<|cm<|aV 0<|aV 1 ag)
def bX:U D->Res D:=fn 2 2 gG
def o5(x0 x1:D):bX [x0,x1]=a! (gG [AC (.val x0),AC (.val x1)]):=bR _ _ _ _ rfl
def gK:SF:=(aJ<|eU i4<|eL<|bx (c5<|eW 2) 2 [0,1] (cJ [0,1]) b8<|aj o3<|aV 2<|aV 3<|aV 0<|aV 1 ag)
def cS:U D->Res D:=fn 3 3 gK
def o8(x0 x1 x2:D):cS [x0,x1,x2]=a! (gK [AC (.val x0),AC (.val x1),AC (.val x2)]):=bR _ _ _ _ rfl
def yn:SF:=(aD (aN 3<|aj bX<|aV 1<|aV 2 ag)<|aD (dN (cZ<|tE<|eU i4<|eL<|bx (c5<|eW 3) 2 [0] (cJ [0,1]) b8<|aj oZ<|aV 2<|aV 0<|aV 1 ag) (aJ<|eC<|.bl AT) aR)<|aJ<|eU i4<|eL<|bx (dF<|eU bj<|eW 3) 1 [3] (aH 0) b8<|aj cS<|ai (eB bf (eY 1 0)<|eI 0)<|ai (eB bf (eY 1 0)<|eI 1)<|ai (eL<|Qt (eW 1) FO<|qp<|eW 0) ag)
def lr:U D->Res D:=fn 3 4 yn
def Km(x0 x1 x2:D):lr [x0,x1,x2]=a! (yn [AC (.val x0),AC (.val x1),AC (.val x2),At]):=bR _ _ _ _ rfl
abbrev Rows:=U<|U Nat
abbrev Pl:=Int×Int
structure Hall(rows:Rows)(C:Nat):Prop where
 r1:1<=rows.n
 r2:rows.n<=100
 c1:1<=C
 c2:C<=100
 len:∀x∈rows,x.n=C
structure G where
 name:List Nat
 w:Nat
 d:Nat
 kind:List Nat
 wide:Nat
 gap:Nat
 worth:D
 rQ:D
structure GOk(g:G):Prop where
 w1:1<=g.w
 w2:g.w<=13
 d1:1<=g.d
 d2:g.d<=4
 kd:g.kind.n<=1
 wd:g.wide<=100
 gp:g.gap<=100
def aT(rows:Rows):D:=.tup<|rows.map .str
def aG(p:Pl):D:=.tup [.int p.1,.int p.2]
def aF(g:G):D:=.tup [.str g.name,.int g.w,.int g.d,.str g.kind,.int g.wide,.int g.gap,g.worth,g.rQ]
def dQ:ε Nat->D
|some c=>.str [c]
|none=>.non
@[simp] def adP(p:Pl):bf (aG p) (.int 0)=.ok (.int p.1):=rfl
@[simp] def adO(p:Pl):bf (aG p) (.int 1)=.ok (.int p.2):=rfl
@[simp] def aeS(g:G):bf (aF g) (.int 0)=.ok (.str g.name):=rfl
@[simp] def aeR(g:G):bf (aF g) (.int 1)=.ok (.int g.w):=rfl
@[simp] def aeQ(g:G):bf (aF g) (.int 2)=.ok (.int g.d):=rfl
@[simp] def aeP(g:G):bf (aF g) (.int 3)=.ok (.str g.kind):=rfl
@[simp] def aeO(g:G):bf (aF g) (.int 4)=.ok (.int g.wide):=rfl
@[simp] def aeN(g:G):bf (aF g) (.int 5)=.ok (.int g.gap):=rfl
@[simp] def aeM(g:G):bf (aF g) (.int 6)=.ok g.worth:=rfl
@[simp] def aeL(g:G):bf (aF g) (.int 7)=.ok g.rQ:=rfl
@[simp] def aey(rows:Rows):bj (aT rows)=.ok (.int rows.n):=by simp[aT]
@[simp] def adw(a b:Int):D.tup [.int a,.int b]=aG (a,b):=rfl
def cV(Y:Env)(is:U Nat):fg Y is=is.map (qH Y):=rfl
def wg:ε (ε L)->ε L
|some<|some<|.val d=>AC<|.val d
|some<|some<|.bor d=>AC<|.bor d
|some<|some<|.Ko ks=>AC<|.Ko ks
|some<|some<|.own xs=>AC<|.bor<|.lst xs
|_=>At
def cq(Y:Env)(i:Nat):qH Y i=wg Y[i]?:=by
 unfold qH wg;cases Y[i]? with
 |none=>rfl
 |some o=>cases o with
  |none=>rfl
  |some l=>ext l<;>rfl
@[simp] def VE(d:D):wg (AC<|some<|.val d)=AC (.val d):=rfl
def Hall.row(H:Hall rows C)(h:r<rows.n):∃row,rows[r]?=AC row/\row.n=C/\bf (aT rows) (.int r)=.ok (.str row):=by show(rows[r],A04 h,H.len _<|B65 h,(da rfl ?_).1,);rw[A06,A04];rfl
def Hall.MU(H:Hall rows C):∃row,row.n=C/\bf (aT rows) (.int 0)=.ok (.str row):=by let(row,_,h1,h2):=H.row H.r1;show(row,h1,h2,)
def bU(rows:Rows)(p:Pl):ε Nat:=if 0<=p.1/\0<=p.2 then(rows[p.1.toNat]?).bind (λ r=>r[p.2.toNat]?)else At
def MM(H:Hall rows C){p:Pl}(h1:0<=p.1)(h2:p.1<rows.n)(h3:0<=p.2)(h4:p.2<C):∃row c,bf (aT rows) (.int p.1)=.ok (.str row)/\row.n=C/\bf (.str row) (.int p.2)=.ok (.str [c])/\bU rows p=AC c:=by
 let(row,e1,hl,e2):=H.row (r:=p.1.toNat) ∅;rw[Int.toNat_of_nonneg h1]at e2;let hc:p.2.toNat<row.n:=by lia
 let yB:=H.c2;show(row,row[p.2.toNat],e2,hl,oN ∅ (A04 hc) (by erw[line];lia),?_,);simp[bU,h1,h3,e1]
def sr(H:Hall rows C){p:Pl}(h:¬(0<=p.1/\p.1<rows.n/\0<=p.2/\p.2<C)):bU rows p=At:=by
 unfold bU;by_cases h0:0<=p.1/\0<=p.2
 .rw[M2 h0];cases e:rows[p.1.toNat]? with
  |none=>rfl
  |some row=>let(h1,h2):=A02.mp e;let:=H.len row<|A21 e;erw[C24];show B16<|Nat.le_of_not_lt λ k=>h ⟨h0.1,(Int.toNat_lt h0.1).mp h1,h0.2,(Int.toNat_lt h0.2).mp (this▸k)⟩
 .rw[W1 h0]
def ML(H:Hall rows C)(p:Pl):j2 [aT rows,aG p]=.ok (dQ<|bU rows p):=by
 rw[Cn];show aA ?_;let(MU,Ow,e0):=H.MU;let uN:=H.c2;let Ov:C<=line:=by erw[line];lia
 by_cases h:0<=p.1/\p.1<rows.n/\0<=p.2/\p.2<C
 .let(row,c,e1,_,e2,e3):=MM H h.1 h.2.1 h.2.2.1 h.2.2.2;simp[gH,e0,Ow,Ov,h.1,h.2.1,h.2.2.1,h.2.2.2,e1,e2,e3,dQ]
 .rw [sr H h];by_cases a1:0<=p.1
  .by_cases a2:p.1<rows.n
   .by_cases a3:0<=p.2
    .let a4:¬p.2<C:=λ z=>h ⟨a1,a2,a3,z⟩;simp[gH,e0,Ow,Ov,a1,a2,a3,a4,dQ]
    .simp[gH,e0,Ow,Ov,a1,a2,a3,dQ]
   .simp[gH,e0,Ow,Ov,a1,a2,dQ]
  .simp[gH,e0,Ow,Ov,a1,dQ]
def cb(kind:U Nat):ε Nat->Bool
|some c=>decide<|c=46\/c=61\/kind=[c]
|none=>AT
def Uc(c:U Nat):kH (.str c) .non=AC AT:=rfl
def Kw(c:U Nat):kH .non (.str c)=AC AT:=rfl
def Kv(a b:U Nat):kH (.str a) (.str b)=AC (a==b):=rfl
def in2(c:Nat):uI (.str [c]) (.tup [.str [46],.str [61]])=.ok (.bl<|decide<|c=46\/c=61):=by
 erw[uI,fM,Kv];by_cases h1:c=46
 .subst h1;rfl
 .by_cases h2:c=61
  .subst h2;rfl
  .let LY:¬46=c:=λ h=>h1 h.a;let J?:¬61=c:=λ h=>h2 h.a;simp[h1,h2,LY,J?]
def HP(s:ε Nat)(k:U Nat):oY [dQ s,.str k]=.ok (.bl<|cb k s):=by
 rw[Kl];show aA ?_;cases s with
 |none=>simp[rL,dQ,cb,line,uI,fM,Kw,Uc,oEq]
 |some c=>
  simp[rL,dQ,cb,line,in2];by_cases h1:c=46
  .simp[h1]
  .by_cases h2:c=61
   .simp[h2]
   .by_cases h3:k=[c]
    .subst h3;simp[h1,h2]
    .let Ys:¬[c]=k:=λ h=>h3 h.a;simp[h1,h2,h3,Ys]
def fU(w:Nat)(r c:Int):U Pl:=(EQ w).map λ j=>(r,c+(j:Nat))
def hZ(w:Nat)(p:Pl)(n:Nat):U Pl:=(EQ n).flatMap λ i=>fU w (p.1+(i:Nat)) p.2
def seats(g:G)(p:Pl):U Pl:=hZ g.w p g.d
def kS(w:Nat)(p:Pl)(n:Nat):hZ w p (n+1)=hZ w p n++fU w (p.1+(n)) p.2:=by simp[hZ,A85]
def w_(w:Nat)(r c:Int):(fU w r c).length=w:=by simp[fU]
def mS(w:Nat)(p:Pl)(n:Nat):(hZ w p n).length=n*w:=by
 induction n with
 |zero=>simp[hZ]
 |succ n ih=>rw[kS,A38,ih,w_,B33]
def ints_map(lo:Int)(n:Nat):zints lo n=(EQ n).map λ i=>D.int (lo+(i:Nat)):=rfl
def ints_get(h:(zints lo n)[j]?=AC d):j<n/\d=.int (lo+(j)):=by
 rw[ints_map,A06]at h;cases q:(EQ n)[j]? with
 |none=>rw[q]at h;ext h
 |some i=>rw[q]at h;let(h1,h2):=A02.mp q;rw[B12]at h1;rw[C10]at h2;subst h2;simp at h;show(h1,h.a,)
def toNat_sub(a:Int)(n:Nat):(a+(n)-a).toNat=n:=by lia
def Ie(k:GOk g)(p:Pl):je [aF g,aG p]=.ok (.tup<|(seats g p).map aG):=by
 rw[Ay];show aA ?_;let hw:=k.w2;let hd:=k.d2;simp[nF,toNat_sub];show eQ (λ i Y=>∃x,Y=[v _,v _,ow ((hZ g.w p i).map aG),x]) ⟨At,rfl⟩ ?_ ?_
 .rintro j d Y hj ⟨x,rfl⟩;let(hj,rfl):=ints_get hj;simp[a_,toNat_sub,cV,cq];show⟨by lia,comp_map (λ d=>.tup [.int (p.1+(j)),d]) ?_ ?_⟩
  .rintro d hd;let(i,hi):=A87 hd;let(_,rfl):=ints_get hi;simp[line]
  .erw[Z.Q7,Z.Zr];refine⟨?_,?_⟩
   .rw[A08,mS,fX];let:j*g.w<=4*13:=A64 ∅ hw;lia
   .simp[kS,fU,ints_map]
 .rintro Y ⟨x,rfl⟩;simp[seats]
def vd(rows:Rows)(s:Pl):Bool:=bU rows s==AC 61
def bZ(rows:Rows)(g:G)(p:Pl):Bool:=(seats g p).all (λ s=>cb g.kind<|bU rows s)&&decide (g.wide<=(seats g p).countP (vd rows))
def AX(rows:Rows):∀(ss:U Pl),t8 (.str [61]) (ss.map λ s=>dQ<|bU rows s)=AC (ss.countP<|vd rows)
|[]=>rfl
|s::ss=>by
 rw[A00,t8,AX,B41];cases e:bU rows s with
 |none=>simp[dQ,vd,e,Kw]
 |some c=>simp[dQ,vd,e,Kv]
def all_map{α:Type}(f:α->Bool)(xs:U α):allB (xs.map λ x=>D.bl<|f x)=AC (xs.all f):=by
 let:=yq<|xs.map f;rw[A24]at this;rw[show(xs.map λ x=>D.bl _)=xs.map (D.bl∘f)from rfl,this]
 congr 1
 induction xs with
 |nil=>rfl
 |cons x xs ih=>simp
def EG(H:Hall rows C)(k:GOk g)(p:Pl):oZ [aT rows,aF g,aG p]=.ok (.bl<|bZ rows g p):=by
 rw[OJ];show aA ?_;let ψ:(seats g p).length<=16777216:=by rw[seats,mS];let:=A64 k.d2 k.w2;lia
 simp[CS,a_,Ie k,line,cV,cq,ψ];show comp_map (λ d=>match d with|.tup [.int a,.int b]=>dQ<|bU rows (a,b)|_=>.non) ?_ ?_
 .intro d hd;let(q,_,rfl):=A07.mp hd;simp[ML H];rfl
 .let e1:(List.map aG<|seats g p).map (λ d=>match d with|.tup [.int a,.int b]=>dQ<|bU rows (a,b)|_=>.non)=(seats g p).map λ s=>dQ (bU rows s):=by rw[A24];rfl
  rw[e1];simp[a_,line,ψ,cV,cq];show comp_map (λ d=>match d with|.str [c]=>.bl<|cb g.kind<|some c|_=>.bl AT) ?_ ?_
  .intro d hd;let(q,_,rfl):=A07.mp hd;simp[HP];cases bU rows q<;>rfl
  .let e2:((seats g p).map λ s=>dQ<|bU rows s).map (λ d=>match d with|.str [c]=>D.bl<|cb g.kind<|some c|_=>D.bl AT)=(seats g p).map λ s=>D.bl (cb g.kind<|bU rows s):=by rw[A24];apply B13;intro s _;change(match dQ (bU rows s)with|.str [c]=>D.bl<|cb g.kind<|some c|_=>D.bl AT)=_;cases bU rows s<;>rfl
   rw[e2];erw[i4,all_map,Q7];cases ha:(seats g p).all λ s=>cb g.kind (bU rows s)with
   |false=>simp[bZ,ha]
   |true=>simp[bZ,ha,xw,AX]
def Z2(rows:Rows)(g:G)(s:Pl):Bool:=cb g.kind<|bU rows s
def all_false{α:Type}{f:α->Bool}{xs:U α}{x:α}(h:x∈xs)(e:f x=AT):xs.all f=AT:=by rw[Bool.eq_false_iff];intro z;rw[A30]at z;rw[z x h]at e;ext e
def NS(h:j<w):(r,c+(j))∈fU w r c:=A07.mpr ⟨j,A25.mpr h,rfl⟩
def vL(hi:i<g.d)(hj:j<g.w):(p.1+(i),p.2+(j))∈seats g p:=
 B06.mpr ⟨i,A25.mpr hi,NS hj⟩
def tN(h:s∈seats g p)(e:Z2 rows g s=AT):bZ rows g p=AT:=by unfold bZ;let:=all_false h e;rw[show(seats g p).all (λ s=>cb _ _)=(seats g p).all (Z2 rows g)from rfl,this];rfl
def c_(r C:Nat):U Pl:=(EQ C).map λ(c:Nat)=>(((r:Nat):Int),((c:Nat):Int))
def gi(n C:Nat):U Pl:=(EQ n).flatMap λ r=>c_ r C
def iT(n C:Nat):gi (n+1) C=gi n C++c_ n C:=by simp[gi,A85]
def pK(r C:Nat):(c_ r C).length=C:=by simp[c_]
def l3(n C:Nat):(gi n C).length=n*C:=by
 induction n with
 |zero=>simp[gi]
 |succ n ih=>rw[iT,A38,ih,pK,B33]
def places(rows:Rows)(C:Nat)(g:G):U Pl:=(gi rows.length C).filter<|bZ rows g
def places_of_ok(H:Hall rows C)(k:GOk g):eE [aT rows,aF g]=.ok (.tup<|(places rows C g).map aG):=by
 rw[xT];show aA ?_;let uN:=H.c2;let hr2:=H.r2;simp[lB,line];show eQ (λ i Y=>i<=rows.n/\∃x,Y=[v _,v _,ow (((gi i C).filter<|bZ rows g).map aG),x]) ⟨A57 _,At,rfl⟩ ?_ ?_
 .rintro i d Y hi ⟨_,x,rfl⟩;let(rC,rfl):=ints_get hi;let(row,_,hl,e1):=H.row rC;let Ov:C<=16777216:=by lia
  simp[e1,hl,a_,line,cV,cq,Ov];show Pe (λ d=>match d with|.int c=>bZ rows g ((i),c)|_=>AT) (λ d=>.tup [.int (i),d]) ?_ ?_
  .intro d hd;let(c,hc):=A87 hd;let(_,rfl):=ints_get hc;simp[line,EG H k]
  .let e2:((zints 0 C).filter λ d=>match d with|.int c=>bZ rows g ((i),c)|_=>AT).map (λ d=>D.tup [.int (i),d])=((c_ i C).filter<|bZ rows g).map aG:=by
    rw[ints_map,c_,AB8,AB8,A24,A24]
    congr 1
    .funext c;simp
    .congr 1;funext c;simp
   simp[line,cV,cq];rw[e2,iT,B24,A26];let h1:=A50 (bZ rows g)<|gi i C;let h2:=A50 (bZ rows g)<|c_ i C;rw[l3]at h1;rw[pK]at h2;let h3:i*C<=100*100:=A64 ∅ uN;show⟨?_,by lia,rfl⟩;let e3:=congrArg List.length e2;rw[A08,A08]at e3;lia
 .rintro Y ⟨_,x,rfl⟩;simp[places]
def bG(g:G)(p:Pl)(h:G)(q:Pl):Bool:=decide<|p.1+g.d<=q.1\/q.1+h.d<=p.1\/p.2+g.w+max (g.gap:Int) (h.gap:Int)<=q.2\/q.2+h.w+max (g.gap:Int) (h.gap:Int)<=p.2
def Ll(g:G)(p:Pl)(h:G)(q:Pl):o3 [aF g,aG p,aF h,aG q]=.ok (.bl<|bG g p h q):=by
 rw[Kn];show aA ?_;by_cases h1:p.1+g.d<=q.1
 .simp[lZ,bG,h1]
 .by_cases h2:q.1+h.d<=p.1
  .simp[lZ,bG,h2]
  .by_cases h3:p.2+g.w+max (g.gap:Int) h.gap<=q.2
   .simp[lZ,bG,h1,h2,h3]
   .simp[lZ,bG,h1,h2,h3]
def Bd(ns:U Int):Prop:=∀i∈ns,bits i<=2^20
def lV(hb:Bd ns)(h:0<=k):∃c,aZ [.lst (ns.map .int),.int k]=.ok (.int c)/\bits c<=2^20:=by
 by_cases hk:k<ns.n
 .let hj:k.v<ns.n:=by lia
  let e:=(da (xs:=ns.map D.int) (i:=k) (j:=k.v) (d:=.int ns[k.v]) ∅ ∅).2;show(ns[k.v],?_,hb _<|B65 hj,);rw[lu];show aA ?_;simp[gW,hk,e]
 .refine⟨0,?_,by decide⟩;rw[lu];show aA ?_;simp[gW,hk]
def vP(z:Int):∃q∈aL,bf (.str aL) (.int<|z % 26)=.ok (.str [q]):=
 sX ∅ (by simp[aL];lia) ∅
def oM(h:q∈aL):q∈signs:=(by decide:∀q∈aL,q∈signs) q h
structure Zv(rows:Rows)(C:Nat):Prop extends Hall rows C where
 r6:rows.n<=6
 c12:C<=12
 sg:∀x∈rows,∀c∈x,c∈signs
def Yo(h1:1<=rows.n)(h2:rows.n<=6)(h3:1<=C)(h4:C<=12)(h:∀x∈rows,x.n=C/\∀c∈x,c∈signs):Zv rows C:=
 ⟨⟨h1,by lia,h3,by lia,λ x hx=>(h x hx).1⟩,h2,h4,λ x hx=>(h x hx).2⟩
def jn(C i:Nat)(rows:Rows):Prop:=rows.n=i/\∀x∈rows,x.n=C/\∀c∈x,c∈signs
def U4(j:Nat)(ln:U Nat):Prop:=ln.n=j/\∀c∈ln,c∈signs
def jn.nil(C:Nat):jn C 0 []:=⟨rfl,λ c h=>by ext h⟩
def jn.add(h:jn C i rows)(hl:U4 C ln):jn C (i+1) (rows++[ln]):=
 ⟨by simp [h.1],λ c hc=>by
  rcases A37.mp hc with hc|hc
  .exact h.2 c hc
  .rw[A11.mp hc];show hl⟩
def m9{z:Int}(h:0<=z):∃n:Nat,z=n:=⟨z.v,by lia⟩
def nc(h0:0<=i)(h1:i<xs.n)(h:∀d∈xs,Q d):Ok (bf (.lst xs)<|.int i) Q:=by let(d,hd,e,_):=Ek h0 h1;show(d,e,h d hd,)
def Rn(a b:D)(p:Prop)[Decidable p]:bf (.lst [a,b]) (.int<|if p then 1 else 0)=.ok (if p then b else a):=by
 by_cases h:p
 .rw[M2 h,M2 h];rfl
 .rw[W1 h,W1 h];rfl
structure cX(g:G):Prop extends GOk g where
 w12:g.w<=12
 d3:g.d<=3
 kl:g.kind=[]\/∃c∈aL,g.kind=[c]
 wdd:g.wide<=g.w*g.d
 g6:g.gap<=6
 U_:∃(wt:Int)(ws:List Pl),ws.n<=6/\g.worth=.int wt/\g.rQ=.tup (ws.map aG)
def acx(h1:1<=g.w)(h2:g.w<=12)(h3:1<=g.d)(h4:g.d<=3)(h5:g.kind=[]\/∃c∈aL,g.kind=[c])(h6:g.wide<=g.w*g.d)(h7:g.gap<=6)(h8:∃(wt:Int)(ws:U Pl),ws.n<=6/\g.worth=.int wt/\g.rQ=.tup (ws.map aG)):cX g:=
 ⟨⟨h1,by lia,h3,by lia,by rcases h5 with h|⟨c,_,h⟩<;>rw [h]<;>simp,by let:=A64 h2 h4;lia,by lia⟩,h2,h4,h5,h6,h7,h8⟩
@[simp] def XH(i:Int):dE .int (.int i)=Ch:=rfl
@[simp] def Vt(i:Int):dE .bool (.int i)=AT:=rfl
def Hi(p q:Pl):Prop:=p.1<q.1\/p.1=q.1/\p.2<q.2
theorem xf(r C:Nat):(c_ r C).Pairwise Hi:=by unfold c_;rw[B53];show(C37).imp ?_;intro a b h;show .inr ⟨rfl,by lia⟩
def vM(h:p∈c_ r C):p.1=r/\0<=p.2/\p.2<C:=by let(c,hc,rfl):=A07.mp h;rw[A25]at hc;show⟨rfl,by lia,by lia⟩
def vN:p∈gi n C↔0<=p.1/\p.1<n/\0<=p.2/\p.2<C:=by
 constructor
 .intro h;let(r,hr,h):=B06.mp h;rw[A25]at hr;let(h1,h2,h3):=vM h;show⟨by lia,by lia,h2,h3⟩
 .rintro⟨h1,h2,h3,h4⟩;show B06.mpr ⟨p.1.toNat,A25.mpr ∅,A07.mpr ⟨p.2.toNat,A25.mpr ∅,?_⟩⟩;apply Prod.ext
  .lia
  .lia
theorem yp(n C:Nat):(gi n C).Pairwise Hi:=by
 induction n with
 |zero=>simp[gi]
 |succ n ih=>rw[iT,C36];show(ih,xf n C,λ a ha b hb=>?_,);let h1:=vN.mp ha;let h2:=vM hb;show .inl ∅
theorem mw(rows:Rows)(C:Nat)(g:G):(places rows C g).Pairwise Hi:=(yp _ _).filter _
def take_snoc{α:Type}{xs:U α}{x:α}(h:xs[i]?=AC x):xs.take (i+1)=xs.take i++[x]:=by rw[B71,h];rfl
def places_len(H:Hall rows C)(g:G):(places rows C g).length<=10000:=by let h1:=A50 (bZ rows g)<|gi rows.length C;rw[l3]at h1;let:=A64 H.r2 H.c2;unfold places;lia
end KG
set_option maxRecDepth 4000
namespace KG
open Z
abbrev GP:=G×Pl
abbrev GO:=G×ε Pl
def bB:ε Pl->D
|none=>.non
|some p=>aG p
@[simp] def VB(p:Pl):bB (AC p)=aG p:=rfl
@[simp] def VC:bB At=.non:=rfl
def o!(x:GP):D:=.tup [aF x.1,aG x.2]
def Ky(x:GO):D:=.tup [aF x.1,bB x.2]
def PY:∀(xs:U GO),fO (xs.map λ x=>aF x.1) (xs.map λ x=>bB x.2)=xs.map Ky
|[]=>rfl
|x::xs=>by simp[fO,PY xs];rfl
@[simp] def aa1(o:ε Pl):iF (bB o)=.ok (.bl o.isSome):=by ext o<;>rfl
@[simp] def ad9(o:ε Pl):gj (bB o)=.ok (.bl o.isNone):=by ext o<;>rfl
@[simp] def gX(x:GP)(i j:Nat)(Y:Env):cJ [i,j] (o! x) Y=.ok ((Y.set i<|v<|aF x.1).set j<|v<|aG x.2):=rfl
@[simp] def gY(x:GO)(i j:Nat)(Y:Env):cJ [i,j] (Ky x) Y=.ok ((Y.set i<|v<|aF x.1).set j<|v<|bB x.2):=rfl
def j6{α:Type}(xs:U α):xs.filter (λ _=>Ch)=xs:=B05.mpr λ _ _=>rfl
def l!:U GO->U GP
|[]=>[]
|(g,AC p)::xs=>(g,p)::l! xs
|(_,At)::xs=>l! xs
def wY:∀xs,(xs.filter λ x=>x.2.isSome).map Ky=(l! xs).map o!
|[]=>rfl
|(g,AC p)::xs=>by rw[B51 (by rfl)];erw[A00,wY xs];rfl
|(g,At)::xs=>by rw[B07 ∅];erw[l!,wY xs]
def lK:∀xs,(l! xs).length<=xs.n
|[]=>P3 _
|(g,AC p)::xs=>by let:=lK xs;erw[l!,A29];lia
|(g,At)::xs=>by let:=lK xs;erw[l!,A29];lia
def ib:∀{xs}{y},y∈l! xs↔(y.1,AC y.2)∈xs
|[],y=>by simp[l!]
|(g,AC p)::xs,y=>by
 erw[l!,A01,ib,C32,B02];constructor
 .rintro(rfl|h)
  .exact .inl ⟨rfl,rfl⟩
  .exact .inr h
 .rintro(⟨h1,h2⟩|h)
  .left;rw[<-h1,<-h2]
  .exact .inr h
|(g,At)::xs,y=>by erw[l!,A01,ib,C32,reduceCtorEq,and_false,false_or]
def nZ(h:xs.n<=16777216):bX [.tup (xs.map λ x=>aF x.1),.tup (xs.map λ x=>bB x.2)]=.ok (.lst<|(l! xs).map o!):=by
 rw[o5];show aA ?_;simp[gG,a_,PY,h];show bF Ky (λ x=>x.2.isSome) Ky ?_ ?_
 .intro x hx;simp;show λ _=>⟨by decide,rfl⟩
 .rw[wY];show⟨_,rfl,rfl⟩
def sP{α:Type}(f:α->Bool)(xs:U α):i4 (.lst<|xs.map λ x=>D.bl<|f x)=.ok (.bl<|xs.all f):=by erw[i4,all_map]
def Lo(g:G)(p:Pl){xs:U GP}(h:xs.n<=16777216):cS [aF g,aG p,.lst (xs.map o!)]=.ok (.bl<|xs.all λ x=>bG g p x.1 x.2):=by
 rw[o8];show aA ?_;simp[gK,a_,cV,cq,h];show bF o! (λ _=>Ch) (λ x=>.bl<|bG g p x.1 x.2) ?_ ?_
 .intro x hx;simp[Ll]
 .rw[j6,sP];simp
def pe(xs:U α)(h:k<=xs.n):cut xs At (AC<|k)=xs.take k:=by
 let:¬(k:Int)<0:=by lia
 simp[cut,c6,this]
def sV(ss:U GP)(k:Nat):Bool:=match ss[k]? with
|some x=>(ss.take k).all λ y=>bG x.1 x.2 y.1 y.2
|none=>Ch
def pU(rows:Rows)(ss:U GP):Bool:=(ss.all λ x=>bZ rows x.1 x.2)&&(EQ ss.n).all (sV ss)
def JS(H:Hall rows C)(h6:xs.n<=6)(hg:∀x∈xs,GOk x.1):lr [aT rows,.tup (xs.map λ x=>aF x.1),.tup (xs.map λ x=>bB x.2)]=.ok (.bl<|pU rows<|l! xs):=by
 rw[Km];show aA ?_;let Ow:=lK xs;let hl:(l! xs).length<=16777216:=by lia
 let X':xs.n<=16777216:=by lia
 let hk:∀x∈l! xs,GOk x.1:=λ x hx=>hg _<|ib.mp hx;generalize hss:l! xs=ss at Ow hl hk;simp[yn,a_,line,cV,cq,nZ X',hss,hl];show bF o! (λ _=>Ch) (λ x=>.bl<|bZ rows x.1 x.2) ?_ ?_
 .intro x hx;simp[EG H<|hk x hx]
 .rw [j6,sP];cases e:(ss.all λ x=>bZ rows x.1 x.2)with
  |false=>simp[pU,e]
  |true=>
   simp[hl,a_,line,cV,cq];show Z.comp_map (λ d=>match d with|.int c=>.bl<|sV ss c.v|d=>d) ?_ ?_
   .intro d hd;let(j,hj):=A87 hd;let(A_,rfl):=ints_get hj;obtain⟨x,ex⟩:∃x,ss[j]?=AC x:=(_,A04 A_,)
    let i1:=(da (d:=o! x) rfl (by rw[A06,ex];rfl)).2;let i2:bf (o! x) (.int 0)=.ok (aF x.1):=rfl;let i3:bf (o! x) (.int 1)=.ok (aG x.2):=rfl;let ct:=pe (ss.map o!) (k:=j) (by rw[A08];lia);let af:=Lo x.1 x.2 (xs:=ss.take j) (by rw[A33];lia);rw[C38]at af;rw[Int.zero_add];simp[i1,i2,i3,Qs,ct,af,sV,ex]
   .let:(zints 0 ss.n).map (λ d=>match d with|.int c=>.bl<|sV ss c.v|d=>d)=(EQ ss.n).map λ j=>D.bl (sV ss j):=by rw[ints_map,A24];show B13 λ j _=>?_;simp
    rw[this,sP];simp[pU,e]
def B?:pU rows ss=Ch↔(∀x∈ss,bZ rows x.1 x.2=Ch)/\ss.Pairwise λ a b=>bG b.1 b.2 a.1 a.2=Ch:=by
 unfold pU;rw[A34,A30,A30,C35];show and_congr_right λ _=>?_;constructor
 .intro h i j hi hj nQ;let:=h j<|A25.mpr hj;rw[sV,A04]at this;rw[A30]at this;show this ss[i]<|List.mem_iff_getElem.mpr ⟨i,by rw[A33];show Nat.lt_min.mpr ⟨nQ,Nat.lt_trans nQ hj⟩,by rw[AA0]⟩
 .intro h k hk;rw[A25]at hk;rw[sV,A04];rw[A30];intro y hy;let(i,hi,rfl):=List.mem_iff_getElem.mp hy;rw[A33]at hi;rw[AA0];show h i k ∅ hk ∅
def l0(g:G)(p:Pl)(h:G)(q:Pl):bG g p h q=bG h q g p:=by unfold bG;rw[decide_eq_decide,Int.max_comm];show or_left_comm.trans<|or_congr .rfl<|or_congr .rfl or_comm
def sk:∀{xs},(l! xs).Pairwise R↔xs.Pairwise λ a b=>∀p q,a.2=AC p->b.2=AC q->R (a.1,p) (b.1,q)
|[]=>by simp[l!]
|(g,AC p)::xs=>by
 erw[l!,C39,sk];show and_congr_left λ _=>?_;constructor
 .intro h b hb p' q hp hq;ext hp;show h (b.1,q)<|ib.mpr (by erw[<-hq];show hb)
 .intro h y hy;show h _ (ib.mp hy) p y.2 rfl rfl
|(g,At)::xs=>by erw[l!,C39,sk];show(λ h=>(λ b hb p q hp=>(by ext hp),h,),λ h=>h.2,)
end KG
set_option maxRecDepth 4000
namespace KH
open Z KG
def j!:SF:=(aJ<|eB aS (eB aS (Cw (eW 0) FO<|qp<|eW 1)<|cm<|aV 2 ag)<|Cw (eW 0) (qp<|eB aS (eW 1)<|eI 1) FO)
def bS:U D->Res D:=fn 3 3 j!
def uR(x0 x1 x2:D):bS [x0,x1,x2]=a! (j! [AC (.val x0),AC (.val x1),AC (.val x2)]):=bR _ _ _ _ rfl
def j_:SF:=(aJ<|eU gw<|eL<|bx (c5<|eW 0) 1 [1,2] (aH 0) (tE<|aj KG.cS<|aV 1<|aV 0<|aV 2 ag)<|eV 0)
def dH:U D->Res D:=fn 3 3 j_
def uS(x0 x1 x2:D):dH [x0,x1,x2]=a! (j_ [AC (.val x0),AC (.val x1),AC (.val x2)]):=bR _ _ _ _ rfl
def ka:SF:=(aD (jv 2<|bq ag)<|aD (eS (c5<|eV 1) (aH 3)<|aD (b9 2<|eB oMod (eW 0)<|eW 3)<|aN 0<|eB oDiv (eW 0)<|eW 3)<|oh 2<|aJ<|eV 2)
def cT:U D->Res D:=fn 2 4 ka
def uV(x0 x1:D):cT [x0,x1]=a! (ka [AC (.val x0),AC (.val x1),At,At]):=bR _ _ _ _ rfl
def fL:SF:=(aD (dN (nP (tE<|eB oLe (eB aS (eX 1 0)<|eX 0 2)<|eX 3 0)<|tE<|eB oLe (eB aS (eX 3 0)<|eX 2 2)<|eX 1 0) (aJ<|eC<|.bl Ch) aR)<|aD (aN 4<|eB F4 (eX 0 5)<|eX 2 5)<|aJ<|Ud (eB oLe (eB aS (eB aS (eX 1 1)<|eX 0 1)<|eW 4)<|eX 3 1)<|eB oLe (eB aS (eB aS (eX 3 1)<|eX 2 1)<|eW 4)<|eX 1 1)
def dD:U D->Res D:=fn 4 5 fL
def xY(x0 x1 x2 x3:D):dD [x0,x1,x2,x3]=a! (fL [AC (.val x0),AC (.val x1),AC (.val x2),AC (.val x3),At]):=bR _ _ _ _ rfl
def nG:SF:=(aJ<|eB aS (eB aS (Cw (eW 0) FO<|qp<|eW 1)<|cm<|aV 2 ag)<|Cw (eW 0) (qp<|eB aS (eW 1)<|eI 1) FO)
def lj:U D->Res D:=fn 3 3 nG
def Az(x0 x1 x2:D):lj [x0,x1,x2]=a! (nG [AC (.val x0),AC (.val x1),AC (.val x2)]):=bR _ _ _ _ rfl
end KH
set_option maxRecDepth 8000
namespace KH
open Z KG
def jH:Int->U Int->U Int
|_,[]=>[]
|c,s::ss=>c % s::jH (c / s) ss
def L7:Int->U Int->Int
|c,[]=>c
|c,s::ss=>L7 (c / s) ss
def AQ:∀c a b,jH c (a++b)=jH c a++jH (L7 c a) b
|c,[],b=>rfl
|c,s::a,b=>by simp[jH,L7,AQ _ a b]
def E8:∀c a b,L7 c (a++b)=L7 (L7 c a) b
|c,[],b=>rfl
|c,s::a,b=>by simp[L7,E8 _ a b]
def tX:∀c a,(jH c a).length=a.n
|c,[]=>rfl
|c,s::a=>by simp[jH,tX _ a]
def Szs(ss:U Int):Prop:=ss.n<=100/\∀s∈ss,0<s/\s<=1000000000000000000000000000000000000000000000000000000000000
def lS(h:Szs ss)(c:Int):cT [.int c,.lst (ss.map .int)]=.ok (.lst<|(jH c ss).map .int):=by
 rw[uV];show aA ?_;simp[ka];show eQ (λ i Y=>∃x,Y=[vi (L7 c<|ss.take i),v (.lst<|ss.map .int),ow ((jH c<|ss.take i).map .int),x]) ⟨At,by simp[L7,jH]⟩ ?_ ?_
 .rintro j d Y hj ⟨x,rfl⟩;rw[A06]at hj;cases e:ss[j]? with
  |none=>rw[e]at hj;ext hj
  |some s=>
   rw[e]at hj;ext hj;let(h1,h2):=h.2 s (A21 e);let hl:(jH c<|ss.take j).length<16777216:=by rw[tX,A33];let:=h.1;lia
   simp[h1,hl,bD h1 ∅,take_snoc e,AQ,E8,jH,L7]
 .rintro Y ⟨x,rfl⟩;simp
def EN:∀c ss m,(∀s∈ss,0<s/\s<=m)->∀x∈jH c ss,0<=x/\x<m
|c,[],m,_=>by simp[jH]
|c,s::ss,m,h=>by
 intro x hx;erw[jH,A01]at hx;rcases hx with rfl|hx
 .let(h1,h2):=h s A13;let:=B83 c h1;show⟨B84 _ ∅,by lia⟩
 .exact EN _ ss m (λ t ht=>h t<|A09 _ ht) x hx
def CC(xs:U α)(h:(r+1)*c<=xs.n):(cut xs (AC<|(r)*c)<|some<|((r)+1)*c).length=c:=by
 let h1:((r)*c)=((r*c:Nat):Int):=by push_cast;rfl
 let h2:(((r)+1)*c)=(((r+1)*c:Nat):Int):=by push_cast;rfl
 rw[h1,h2];let h3:(r+1)*c=r*c+c:=B33 ..;let n1:¬((r*c:Nat):Int)<0:=by lia
 let n2:¬(((r+1)*c:Nat):Int)<0:=by lia
 let a2:=A74 h;let a1:=A74<|A15 (A88 c<|A58 r) h;erw[cut,c6,n1,n2,A67,A69,A33,B60,a1,a2];rw[h3,C40];show A74<|Nat.le_sub_of_add_le (by rw[A95,<-h3];show h)
def Pd(f:α->β)(xs:U α)(l h:ε Int):cut (xs.map f) l h=(cut xs l h).map f:=by simp[cut,C41]
def FE:signs.n=29:=by decide
def MA(h:n<=100):Szs (Db n 29):=⟨by calc h,λ s hs=>by rw[C73 hs];decide⟩
@[simp] def aaS:mX (.int 10) (.int 40)=.ok (.int 10000000000000000000000000000000000000000):=jz 10 40 ∅ ∅
@[simp] def aaT:mX (.int 10) (.int 39)=.ok (.int 1000000000000000000000000000000000000000):=jz 10 39 ∅ ∅
def pw2:Nat->Int
|0=>1
|1=>2
|2=>4
|3=>8
|4=>16
|_=>32
def Pc(row:U Nat)(h:c+w<=row.n):cut row (AC<|c) (AC<|(c)+w)=(row.drop c).take w:=by
 let n1:¬(c:Int)<0:=Int.not_lt.mpr (Int.natCast_nonneg c)
 let n2:¬(c:Int)+w<0:=Int.not_lt.mpr (Int.natCast_nonneg (c+w))
 let e:((c:Int)+w).toNat=c+w:=rfl
 erw[cut,c6,n1,n2,A67,A69,e];rw[A74 h,A74 ∅,C40]
def FI(H:Hall rows C){r c w:Nat}(hr:rows[r]?=AC row)(h:c+w<=C):((row.drop c).take w).map AC=(fU w (r)<|c).map (bU rows):=by
 let hl:=H.len row<|A21 hr;apply B54;intro j;erw[A06,fU,List.getElem?_take,C42];by_cases hj:j<w
 .rw[M2 hj,lm hj];let hc:c+j<row.n:=by lia
  rw[A04 hc];erw[A68,bU];let e1:((c)+(j:Int)).toNat=c+j:=by lia
  rw[M2 ⟨by lia,by lia⟩];simp[hr,e1]
 .rw[W1 hj,B16 (by simp;lia)];rfl
def ac5(k:U Nat)(c:Nat):(!(c == 46)&&(!(c == 61)&& !([c] == k)))= !cb k (AC c):=by
 by_cases h1:c=46
 .simp[cb,h1]
 .by_cases h2:c=61
  .simp[cb,h2]
  .by_cases h3:k=[c]
   .subst h3;simp[cb]
   .let Ys:¬[c]=k:=λ h=>h3 h.a;simp[cb,h1,h2,h3,Ys]
def kC(g:G)(p:Pl)(h:G)(q:Pl):dD [aF g,aG p,aF h,aG q]=.ok (.bl<|bG g p h q):=by
 rw[xY];show aA ?_;by_cases h1:p.1+g.d<=q.1
 .simp[fL,bG,h1]
 .by_cases h2:q.1+h.d<=p.1
  .simp[fL,bG,h2]
  .by_cases h3:p.2+g.w+max (g.gap:Int) h.gap<=q.2
   .simp[fL,bG,h1,h2,h3]
   .simp[fL,bG,h1,h2,h3]
def Sr(xs:U GO)(g:G)(k:Nat)(p:Pl)(j:Nat):Bool:=decide (j=k)||match xs[j]? with
|some (h,AC q)=>bG g p h q
|_=>Ch
def openAt(xs:U GO)(g:G)(k:Nat)(p:Pl):Bool:=(EQ xs.n).all<|Sr xs g k p
def a7(rows:Rows)(C:Nat)(xs:U GO)(g:G)(k:Nat):U Pl:=(places rows C g).filter<|openAt xs g k
def ay(xs:U GO):D:=.tup<|xs.map λ x=>aF x.1
def aq(xs:U GO):D:=.tup<|xs.map λ x=>bB x.2
def Dp{k:Nat}(h:k<ds.n)(d:D):cut ds At (AC<|k)++(d::cut ds (AC<|(k)+1) At)=ds.set k d:=by
 let e1:cut ds At _=ds.take k:=pe ds ∅;let e2:cut ds (AC<|(k)+1) At=ds.drop (k+1):=by
  let:¬(k:Int)+1<0:=by lia
  let h3:((k:Int)+1).toNat=k+1:=by lia
  let h4:min (k+1) ds.n=k+1:=by lia
  simp[cut,c6,this,h4];rw[B45 ∅]
 rw[e1,e2,C74,M2 h]
def Mf(h:k<ds.n)(hl:ds.n<=1000)(d:D):lj [.tup ds,.int (k:Nat),d]=.ok (.tup<|ds.set k d):=by
 rw[Az];show aA ?_;let c1:=jh ds At<|some<|k;let c2:=jh ds (AC<|(k)+1) At;let g1:(cut ds At<|some<|k).length+1<=16777216:=by lia
 let g2:(cut ds At<|some<|k).length+1+(cut ds (AC<|(k)+1) At).length<=16777216:=by lia
 simp[nG,line,g1,g2,Dp h]
def uo(h:k<ds.n)(hl:ds.n<=1000)(d:D):bS [.tup ds,.int (k:Nat),d]=.ok (.tup<|ds.set k d):=by
 rw[uR];show aA ?_;let c1:=jh ds At<|some<|k;let c2:=jh ds (AC<|(k)+1) At;let g1:(cut ds At<|some<|k).length+1<=16777216:=by lia
 let g2:(cut ds At<|some<|k).length+1+(cut ds (AC<|(k)+1) At).length<=16777216:=by lia
 simp[j!,line,g1,g2,Dp h]
def GI(xs:U GO)(k:Nat)(g:G)(o:ε Pl):aq (xs.set k (g,o))=.tup ((xs.map λ x=>bB x.2).set k<|bB o):=by simp[aq]
def p7(h:xs[k]?=AC x)(o:ε Pl):ay (xs.set k (x.1,o))=ay xs:=by
 let hk:=(A02.mp h).1;let e:x=xs[k]:=by rw[A04]at h;show(f8 h).symm
 unfold ay;rw[B25]
 congr 1
 subst e;apply C43 ∅;intro i h1 h2;rw[C44];split
 .rename_i e;subst e;simp
 .rfl
def Good(rows:Rows)(xs:U GO):Prop:=∀(i:Nat)(g:G)(p:Pl),xs[i]?=AC (g,AC p)->bZ rows g p=Ch/\∀(j:Nat)(h:G)(q:Pl),xs[j]?=AC (h,AC q)->j≠i->bG g p h q=Ch
def jW:openAt xs g k p=Ch↔∀(j:Nat) h q,xs[j]?=AC (h,AC q)->j≠k->bG g p h q=Ch:=by
 unfold openAt;rw[A30];constructor
 .intro h j hh q e hj;let hl:=(A02.mp e).1;let:=h j<|A25.mpr hl;simpa[Sr,e,hj]using this
 .intro h j hj;unfold Sr;by_cases hk:j=k
  .simp[hk]
  .cases e:xs[j]? with
   |none=>simp
   |some y=>
    let(hh,o):=y;cases o with
    |none=>simp
    |some q=>simp[h j hh q e hk]
def Good.put(h:Good rows xs)(hk:xs[k]?=AC x)(hf:bZ rows x.1 p=Ch)(ho:openAt xs x.1 k p=Ch):Good rows (xs.set k (x.1,AC p)):=by
 rw[jW]at ho;let hl:=(A02.mp hk).1;intro i g q e;rw[A36]at e;by_cases hi:k=i
 .subst hi;rw[M2 rfl,M2 hl]at e;ext e;show(hf,λ j hh r ej hj=>?_,);rw[A36,W1 λ z=>hj z.a]at ej;show ho j hh r ej hj
 .rw[W1 hi]at e;let(h1,h2):=h i g q e;show(h1,λ j hh r ej hj=>?_,);rw[A36]at ej;by_cases A_:k=j
  .subst A_;rw[M2 rfl,M2 hl]at ej;ext ej;rw[l0];show ho i g q e λ z=>hi z.a
  .rw[W1 A_]at ej;show h2 j hh r ej hj
def Good.sub{xs ys:U GO}(h:Good rows xs)(hs:∀(i:Nat) g p,ys[i]?=AC (g,AC p)->xs[i]?=AC (g,AC p)):Good rows ys:=by intro i g p e;let(h1,h2):=h i g p (hs i g p e);show(h1,λ j hh q ej hj=>h2 j hh q (hs j hh q ej) hj,)
def Good.keeps(h:Good rows xs):pU rows (l! xs)=Ch:=by
 rw[B?];constructor
 .intro y hy;let(i,hi):=A87 (ib.mp hy);show(h i y.1 y.2 hi).1
 .rw[sk,C35];intro i j hi hj nQ p q ep eq;let e1:xs[i]?=AC (xs[i].1,AC p):=by rw[A04,<-ep]
  let e2:xs[j]?=AC (xs[j].1,AC q):=by rw[A04,<-eq]
  show(h j _ q e2).2 i _ p e1 ∅
def mB(ps:U Pl)(g:G){ss:U GP}(hp:ps.n<=10000)(hs:ss.n<=6):dH [.tup (ps.map aG),aF g,.lst (ss.map o!)]=.ok (.tup<|(ps.filter λ p=>ss.all λ x=>bG g p x.1 x.2).map aG):=by
 rw[uS];show aA ?_;let hp':ps.n<=16777216:=by lia
 simp[j_,a_,cV,cq,hp'];show bF aG (λ p=>ss.all λ x=>bG g p x.1 x.2) aG ?_ ?_
 .intro p hp;simp[Lo g p (xs:=ss) ∅]
 .show⟨_,rfl,_,rfl,rfl⟩
def zo(hk:xs[k]?=AC x)(p:Pl):((l!<|xs.set k (x.1,At)).all λ y=>bG g p y.1 y.2)=openAt xs g k p:=by
 rw[A59,jW,A30];let hl:=(A02.mp hk).1;constructor
 .intro h j hh q e hj;let hm:(hh,AC q)∈xs.set k (x.1,At):=by show A21 (i:=j) ?_;rw[A36,W1 λ z=>hj z.a];show e
  show h (hh,q)<|ib.mpr hm
 .intro h y hy;let(j,e):=A87 (ib.mp hy);rw[A36]at e;by_cases hj:k=j
  .rw[M2 hj]at e;subst hj;rw[M2 hl]at e;show nomatch A14 Prod.snd (f8 e)
  .rw[W1 hj]at e;show h j y.1 y.2 e λ z=>hj z.a
def mE(h:p∈places rows C g):bZ rows g p=Ch:=(A44.mp h).2
end KH
set_option maxRecDepth 4000
namespace KB
open Z KG KH
def nD:SF:=(aJ<|eB aS (eX 0 6)<|eU Ja<|eL<|bx (c5<|eX 0 7) 1 [1] (aH 0) (tE<|eB oEq (eX 0 0)<|eW 1)<|eX 0 1)
def jd:U D->Res D:=fn 2 2 nD
def Aw(x0 x1:D):jd [x0,x1]=a! (nD [AC (.val x0),AC (.val x1)]):=bR _ _ _ _ rfl
def nC:SF:=(aJ<|eU Ja<|eL<|bx (c5<|aj KG.bX<|aV 0<|aV 1 ag) 2 [] (cJ [0,1]) b8<|aj jd<|aV 0<|aX 1 0 ag)
def dh:U D->Res D:=fn 2 2 nC
def Av(x0 x1:D):dh [x0,x1]=a! (nC [AC (.val x0),AC (.val x1)]):=bR _ _ _ _ rfl
def iQ:SF:=(aD (aN 3<|_O (tE<|eU gj<|eW 2) (eB DZ (cm<|ai (eC .non) ag)<|eU bj<|eW 1)<|eV 2)<|aD (dN (cZ<|tE<|aj KG.lr<|aV 0<|aV 1<|aV 3 ag) l? aR)<|aJ<|eV 3)
def a6:U D->Res D:=fn 3 4 iQ
def q?(x0 x1 x2:D):a6 [x0,x1,x2]=a! (iQ [AC (.val x0),AC (.val x1),AC (.val x2),At]):=bR _ _ _ _ rfl
def CQ:SF:=(aD (aN 3<|eI 1)<|aD (eS (Gn (eV 1)<|aj a6<|aV 0<|aV 1<|aV 2 ag) (cJ [4,5])<|dN (tE<|eU gj<|eW 5) (aN 3<|eB eP (eV 3)<|eB aS (eU bj<|aj KG.eE<|aV 0<|aV 4 ag)<|eI 1) aR)<|aJ<|eV 3)
def rH:U D->Res D:=fn 3 6 CQ
def OI(x0 x1 x2:D):rH [x0,x1,x2]=a! (CQ [AC (.val x0),AC (.val x1),AC (.val x2),At,At,At]):=bR _ _ _ _ rfl
def jm:SF:=(aD (aN 3<|aj rH<|aV 0<|aV 1<|aV 2 ag)<|aD (dN (tE<|eB Je (eW 3)<|eI 2000) l? aR)<|aJ<|aj a6<|aV 0<|aV 1<|aV 2 ag)
def dX:U D->Res D:=fn 3 4 jm
def tO(x0 x1 x2:D):dX [x0,x1,x2]=a! (jm [AC (.val x0),AC (.val x1),AC (.val x2),At]):=bR _ _ _ _ rfl
def h!:SF:=(aD (aN 5<|aj KG.eE<|aV 0<|ai (eY 1 3) ag)<|aD (jv 6<|bq ag)<|aD (eS (c5<|eV 2) (aH 7)<|aD (aN 8<|aj KG.bX<|aV 1<|aV 7 ag)<|aD (FH 6<|bx (c5<|aj KH.dH<|aV 5<|ai (eY 1 3)<|aV 8 ag) 1 [7,3] (aH 0) b8<|aj KH.bS<|aV 1<|aV 2<|aV 0 ag)<|dN (tE<|eV 4) (b9 6<|eV 7) aR)<|oh 6<|aJ<|eV 6)
def eD:U D->Res D:=fn 5 9 h!
def pY(x0 x1 x2 x3 x4:D):eD [x0,x1,x2,x3,x4]=a! (h! [AC (.val x0),AC (.val x1),AC (.val x2),AC (.val x3),AC (.val x4),At,At,At,At]):=bR _ _ _ _ rfl
def h_:SF:=(aD (aN 4<|eL<|bq<|aV 2 ag)<|aD (eS (dF<|eU bj<|eW 1) (aH 5)<|dN (tE<|eU gj<|eY 2 5) (aN 4<|aj eD<|aV 0<|aV 1<|aV 4<|aV 5<|aV 3 ag) aR)<|aJ<|eV 4)
def c8:U D->Res D:=fn 4 6 h_
def pZ(x0 x1 x2 x3:D):c8 [x0,x1,x2,x3]=a! (h_ [AC (.val x0),AC (.val x1),AC (.val x2),AC (.val x3),At,At]):=bR _ _ _ _ rfl
def gg:SF:=(aJ<|x? Ch (.ok .non) (eW 1) [0]<|aj dh<|aV 1<|aV 0 ag)
def e!:U D->Res D:=fn 2 2 gg
def mH(x0 x1:D):e! [x0,x1]=a! (gg [AC (.val x0),AC (.val x1)]):=bR _ _ _ _ rfl
def iO:SF:=(aD (aN 2<|eX 0 6)<|aD (eS (c5<|eX 0 7) (cJ [3,4])<|dN (tE<|eB oEq (eW 3)<|eW 1) (aN 2<|eB aS (eW 2)<|eW 4) aR)<|aJ<|eV 2)
def dG:U D->Res D:=fn 2 5 iO
def qZ(x0 x1:D):dG [x0,x1]=a! (iO [AC (.val x0),AC (.val x1),At,At,At]):=bR _ _ _ _ rfl
def gZ:SF:=(aD (aN 3<|aj dX<|aV 0<|aV 1<|aV 2 ag)<|aJ<|aj e!<|aV 1<|ai (aj c8<|aV 0<|aV 1<|aV 3<|ai (eC<|.bl AT) ag) ag)
def bC:U D->Res D:=fn 3 4 gZ
def lz(x0 x1 x2:D):bC [x0,x1,x2]=a! (gZ [AC (.val x0),AC (.val x1),AC (.val x2),At]):=bR _ _ _ _ rfl
end KB
set_option maxRecDepth 8000
namespace KB
open Z KG
open KH
def vC(H:Hall rows C)(xs:U GO)(g:G)(k:Nat):(a7 rows C xs g k).length<=10000:=A15 (A50 _ _)<|places_len H g
def Tb(H:Hall rows C)(h6:xs.n<=6)(hg:∀x∈xs,GOk x.1)(hk:Good rows xs):KG.lr [aT rows,ay xs,aq xs]=.ok (.bl Ch):=by let:=JS H h6 hg;rw[hk.keeps]at this;show this
def vY(H:Hall rows C)(h6:xs.n<=6)(hg:∀x∈xs,GOk x.1)(hk:Good rows xs):a6 [aT rows,ay xs,aq xs]=.ok (aq xs):=by rw[q?];show aA ?_;let hN:gj (aq xs)=.ok _:=rfl;simp[iQ,hN,Tb H h6 hg hk]
def wtD:D->Int
|.int w=>w
|_=>0
def plD:D->Pl
|.tup [.int a,.int b]=>(a,b)
|_=>(0,0)
def wsD:D->U Pl
|.tup ds=>ds.map plD
|_=>[]
def more(ws:U Pl)(row:Int):Int:=((ws.filter λ p=>decide<|p.1=row).map (·.2)).sum
def C8(g:G)(row:Int):Int:=wtD g.worth+more (wsD g.rQ) row
def wO(x:GO):Int:=match x.2 with
|none=>0
|some p=>C8 x.1 p.1
def C7(ws:U Pl):wsD (.tup<|ws.map aG)=ws:=by change(ws.map aG).map plD=ws;rw[A24];let:(plD∘aG)=id:=funext λ p=>rfl;rw[this,List.map_id]
def Qm(ns:U Int):Ja (.lst<|ns.map D.int)=.ok (.int ns.sum):=by change(match ze _ with|some i=>Res.ok _|none=>.bad)=_;rw[vh]
def yI(h:cX g)(row:Int):jd [aF g,.int row]=.ok (.int<|C8 g row):=by
 let(wt,ws,hl,e1,e2):=h.U_;rw[Aw];show aA ?_;let yB:ws.n<=16777216:=by lia
 let e3:C8 g row=wt+more ws row:=by unfold C8;rw[e1,e2,C7];rfl
 rw[e3];simp[nD,a_,cV,cq,e1,e2,yB];show bF aG (λ p=>decide<|p.1=row) (λ p=>.int p.2) (λ p _=>?_) ?_
 .simp;rfl
 .rw[show(ws.filter λ p=>decide _).map (λ p=>D.int p.2)=((ws.filter λ p=>decide _).map _).map D.int from by rw[A24];rfl,Qm];simp[more]
def wU:∀xs,((l! xs).map λ y=>C8 y.1 y.2.1).sum=(xs.map wO).sum
|[]=>rfl
|(g,At)::xs=>by simp[l!,wO,wU xs]
|(g,AC p)::xs=>by simp[l!,wO,wU xs]
def yH{xs:U GO}(h:xs.n<=6)(hg:∀x∈xs,cX x.1):dh [.tup (xs.map λ x=>aF x.1),.tup (xs.map λ x=>bB x.2)]=.ok (.int (xs.map wO).sum):=by
 rw[Av];show aA ?_;let et:=nZ (xs:=xs) ∅;let Ai:=lK xs;let Cd:(l! xs).length<=16777216:=by lia
 simp[nC,et,a_,Cd];show bF o! (λ _=>Ch) (λ y=>.int<|C8 y.1 y.2.1) (λ y hy=>?_) ?_
 .let:=yI (hg _<|ib.mp hy) y.2.1;let gX:∀Y,cJ [0,1] (o! y) Y=.ok _:=λ Y=>rfl;simp[this]
 .rw[j6,show(l! xs).map (λ y=>D.int _)=((l! xs).map λ y=>C8 y.1 y.2.1).map D.int from by rw[A24];rfl,Qm,wU];simp
def Dm{xs:U GO}:(xs.set k x).length=xs.n:=AC0
def kM{xs:U GO}(h6:xs.n<=6){k:Nat}(hk:xs[k]?=AC (g,o))(p:Pl):KH.bS [aq xs,.int (k),aG p]=.ok (aq<|xs.set k (g,AC p))/\KH.lj [aq xs,.int (k),aG p]=.ok (aq<|xs.set k (g,AC p)):=by let hl:=(A02.mp hk).1;let h1:=uo (ds:=xs.map λ x=>bB x.2) (k:=k) (by simp;lia) (by simp;lia)<|aG p;let h2:=Mf (ds:=xs.map λ x=>bB x.2) (k:=k) (by simp;lia) (by simp;lia)<|aG p;rw[GI];show(h1,h2,)
def H?{C:Nat}(hr:∀x∈rows,x.n=C)(h:bU rows s=AC c):0<=s.1/\s.1<rows.n/\0<=s.2/\s.2<C:=by
 unfold bU at h;split at h
 .rename_i z;cases e:rows[s.1.toNat]? with
  |none=>rw[e]at h;ext h
  |some r=>rw[e]at h;let h:=h;show(z.1,(Int.toNat_lt z.1).mp (A02.mp e).1,z.2,hr r (A21 e)▸(Int.toNat_lt z.2).mp (A02.mp h).1,)
 .ext h
def Wk(k:GOk g)(p:Pl):p∈seats g p:=by let hw:=k.w1;let hd:=k.d1;unfold seats hZ fU;erw[B06,A25,A07];show⟨0,by lia,0,by lia,by simp⟩
def tL(H:Hall rows C)(k:GOk g)(h:bZ rows g p=Ch):p∈places rows C g:=by
 show A44.mpr ⟨vN.mpr ?_,h⟩;unfold bZ at h;rw[A34,A30]at h;let:=h.1 p<|Wk k p;cases e:bU rows p with
 |none=>rw[e]at this;ext this
 |some c=>show H? H.len e
structure Ext(cs hs:List GO):Prop where
 gs:cs.map (·.1)=hs.map (·.1)
 sub:∀(i:Nat)(g:G)(p:Pl),cs[i]?=AC (g,AC p)->hs[i]?=AC (g,AC p)
def Ext.len(e:Ext cs hs):cs.n=hs.n:=by let:=A14 List.length e.gs;rwa [A08,A08]at this
def Ext.at(e:Ext cs hs){k:Nat}(h:cs[k]?=AC (g,o)):∃o',hs[k]?=AC (g,o')/\(∀p,o=AC p->o'=AC p):=by
 let hl:=(A02.mp h).1;rw[e.len]at hl;obtain⟨⟨g',o'⟩,e'⟩:∃x,hs[k]?=AC x:=(_,A04 hl,)
 let z:=A14 (λ l=>l[k]?) e.gs;erw[A06,h,e',A68,B02]at z;subst z;show(o',e',λ p hp=>?_,);subst hp;let:=e.sub k g p h;rw[e']at this;show(Prod.mk.inj<|f8 this).2
def jF(H:Hall rows C)(e:Ext cs hs)(hg:Good rows hs){k:Nat}(kg:GOk g)(h:hs[k]?=AC (g,AC p)):p∈a7 rows C cs g k:=by let(f,ap):=hg k g p h;show A44.mpr ⟨tL H kg f,jW.mpr λ j g' q ej ne=>?_⟩;show ap j g' q (e.sub j g' q ej) ne
def Ge(k:cX g)(row:Int):dG [aF g,.int row]=.ok (.int<|C8 g row):=by
 let(wt,ws,hl,e1,e2):=k.U_;let i6:bf (aF g) (.int 6)=.ok (.int wt):=by rw[<-e1];rfl
 let i7:bf (aF g) (.int 7)=.ok (.tup<|ws.map aG):=by rw[<-e2];rfl
 let e3:C8 g row=wt+more ws row:=by unfold C8;rw[e1,e2,C7];rfl
 rw[qZ,e3];show aA ?_;simp[iO,i6,i7];show eQ (λ i Y=>∃x3 x4,Y=[v (aF g),vi row,vi (wt+more (ws.take i) row),x3,x4]) ⟨At,At,by simp[more]⟩ ?_ ?_
 .rintro j d Y hj ⟨x3,x4,rfl⟩;rw[A06]at hj;let(p,hp,rfl):=B35.mp hj;let gX:∀Y,cJ [3,4] (aG p) Y=.ok _:=λ Y=>rfl;let ft:more (ws.take<|j+1) row=more (ws.take j) row+if p.1=row then p.2 else 0:=by unfold more;rw[B71,hp,B24,A26,List.sum_append];by_cases h:p.1=row<;>simp[h]
  generalize more (ws.take<|j+1) row=ta at ft ⊢;generalize more (ws.take j) row=tb at ft ⊢;by_cases h:p.1=row
  .rw[M2 h]at ft;simp[gX,h];lia
  .rw[W1 h]at ft;simp[gX,h];lia
 .rintro Y ⟨x3,x4,rfl⟩;rw[A08,B45<|P3 _];simp
def zip_map{α:Type}(f h:α->D):∀xs:U α,fO (xs.map f) (xs.map h)=xs.map λ x=>.tup [f x,h x]
|[]=>rfl
|x::xs=>by simp[fO,zip_map f h xs];rfl
open KH
def bJ:U Nat->Nat
|[]=>1
|n::r=>n*bJ r
def fV:∀a b,bJ (a++b)=bJ a*bJ b
|[],b=>by simp[bJ]
|n::a,b=>by simp[bJ,fV a b,Nat.mul_assoc]
def vq:∀{l},(∀n∈l,0<n)->0<bJ l
|[],_=>Nat.one_pos
|n::l,h=>Nat.mul_pos (h n A13)<|vq λ m hm=>h m<|A09 _ hm
def cw(rows:Rows)(C:Nat)(x:GO):Nat:=match x.2 with
|none=>(places rows C x.1).length+1
|some _=>1
def rS(rows:Rows)(C:Nat)(x:GO):0<cw rows C x:=by unfold cw;split<;>lia
def aK(rows:Rows)(C:Nat)(xs:U GO):Nat:=bJ<|xs.map<|cw rows C
def nT(xs:U GO):0<bJ (xs.map<|cw rows C):=vq λ n hn=>by let(x,_,rfl):=A07.mp hn;show rS rows C x
def Fg(xs:U GO)(j:Nat):bJ ((xs.take j).map<|cw rows C)<=aK rows C xs:=by
 unfold aK;let e:xs.map (cw rows C)=(xs.take j).map (cw rows C)++(xs.drop j).map (cw rows C):=by rw[<-A26,C75]
 rw[e,fV];show C45 _<|nT _
def pz{xs:U GO}(h:xs[j]?=AC x):bJ ((xs.take<|j+1).map<|cw rows C)=bJ ((xs.take j).map<|cw rows C)*cw rows C x:=by rw[take_snoc h,A26,fV];simp[bJ]
def Mh(H:Hall rows C)(h6:xs.n<=6)(hg:∀x∈xs,GOk x.1)(ef:a6 [aT rows,ay xs,fd]=.ok (aq xs)):rH [aT rows,ay xs,fd]=.ok (.int<|aK rows C xs):=by
 rw[OI];show aA ?_;simp[CQ,ef];unfold ay aq at *;simp[zip_map];show eQ (λ i Y=>∃x4 x5,Y=[v _,v _,v fd,vi (bJ<|(xs.take i).map<|cw rows C),x4,x5]) ⟨At,At,rfl⟩ ?_ ?_
 .rintro j d Y hj ⟨x4,x5,rfl⟩;rw[A06]at hj;let((g,o),hx,rfl):=B35.mp hj;let gX:∀Y,cJ [4,5] (.tup [aF g,bB o]) Y=.ok _:=λ Y=>rfl;rw[pz hx];generalize bJ _=m;cases o with
  |some p=>let en:gj (aG p)=.ok _:=rfl;simp[gX,bB,en,cw]
  |none=>let pl:=places_of_ok H<|hg _<|A21 hx;let fC:=places_len H g;rw[show cw rows C (g,At)=(places rows C g).length+1 from rfl];generalize places rows C g=ps at pl fC ⊢;let q1:bN (m) ((ps.n)+1):=sK<|Or.inl ⟨by lia,by lia⟩;simp[gX,bB,pl,q1]
 .rintro Y ⟨x4,x5,rfl⟩;rw[A08,B42];simp[aK]
def zm(H:Hall rows C)(h6:xs.n<=6)(hg:∀x∈xs,GOk x.1)(ef:a6 [aT rows,ay xs,fd]=.ok (aq xs))(hw:aK rows C xs<=2000):dX [aT rows,ay xs,fd]=.ok (aq xs):=by
 let ew:=Mh H h6 hg ef;rw[tO];show aA ?_;let:¬(2000:Int)<(aK rows C xs):=by lia
 simp[jm,ew,ef,this]
def jt(rows:Rows)(C:Nat)(sm:Bool)(g:G)(k:Nat)(cs:U GO):U (U GO):=(a7 rows C cs g k).map (λ p=>cs.set k (g,AC p))++if sm then[cs]else[]
def zj:(jt rows C sm g k cs).length<=(places rows C g).length+1:=by let:=A50 (openAt cs g k)<|places rows C g;unfold jt a7;ext sm<;>simp<;>lia
def o4{α β:Type}{f:α->U β}:∀{L:U α},(∀x∈L,(f x).length<=m)->(L.flatMap f).length<=L.n*m
|[],_=>by simp
|x::L,h=>by let:=o4 λ y hy=>h y<|A09 _ hy;let hx:=h x A13;rw[zn,A38,A29,B85,B26];lia
def J_(h:cs.map (·.1)=xs.map (·.1)):ay cs=ay xs:=by let:=A14 (List.map aF) h;rw[A24,A24]at this;show A14 D.tup this
def FT(H:Hall rows C){cs:U GO}(h6:cs.n<=6){k:Nat}(hk:cs[k]?=AC (g,At)):KH.dH [.tup ((places rows C g).map aG),aF g,.lst ((l! cs).map o!)]=.ok (.tup<|(a7 rows C cs g k).map aG):=by
 let hl:=(A02.mp hk).1;let Ai:=lK cs;let ho:=mB _ g (ss:=l! cs) (places_len H g) ∅;let Tt:cs.set k (g,At)=cs:=by let:=(A02.mp hk).2;rw[<-this];show C76 hl
 let he:(places rows C g).filter (λ p=>(l! cs).all λ x=>bG g p x.1 x.2)=a7 rows C cs g k:=by show xz λ p _=>?_;let:=zo (g:=g) hk p;simp only at this;rw[Tt]at this;show this
 rw[he]at ho;show ho
def zC(H:Hall rows C){xs:U GO}(h6:xs.n<=6)(hg:∀x∈xs,GOk x.1){k:Nat}{g:G}(hk:xs[k]?=AC (g,At))(sm:Bool){L:U (U GO)}(hL:∀cs∈L,cs.map (·.1)=xs.map (·.1)/\cs[k]?=AC (g,At))(hB:L.n*((places rows C g).length+1)<=1000000):
 eD [aT rows,ay xs,.lst (L.map aq),.int (k:Nat),.bl sm]=.ok (.lst<|(L.flatMap<|jt rows C sm g k).map aq):=by
 rw[pY];show aA ?_;let ixg:bf (ay xs) (.int (k:Nat))=.ok (aF g):=(da (xs:=xs.map λ y:GO=>aF y.1) (i:=k) (j:=k) rfl (by rw[A06,hk];rfl)).1;let pl:=places_of_ok H<|hg _<|A21 hk;simp[h!,ixg,pl,line];show eQ (λ i Y=>∃x7 x8,Y=[v (aT rows),v (ay xs),v (.lst<|L.map aq),vi (k:Nat),v (.bl sm),v (.tup<|(places rows C g).map aG),ow (((L.take i).flatMap<|jt rows C sm g k).map aq),x7,x8]) ⟨At,At,by simp⟩ ?_ ?_
 .rintro i d Y hi ⟨x7,x8,rfl⟩;rw[A06]at hi;let(cs,Ew,rfl):=B35.mp hi;let(e1,e2):=hL cs (A21 Ew);let kD:cs.n<=6:=by let:=A14 List.length e1;rw[A08,A08]at this;lia
  let ht:=nZ (xs:=cs) ∅;rw[show D.tup (cs.map λ x=>aF x.1)=ay cs from rfl,show D.tup (cs.map λ x=>bB x.2)=aq cs from rfl,J_ e1]at ht;let ho:=FT H kD e2;let ui:i<L.n:=(A02.mp Ew).1;let LW:((L.take i).flatMap<|jt rows C sm g k).length<=(L.take i).length*((places rows C g).length+1):=o4 λ x _=>zj;rw[A33,A74<|A80 ui]at LW;let ag1:i*((places rows C g).length+1)+((places rows C g).length+1)<=L.n*((places rows C g).length+1):=by rw[<-B33];show A88 _ ui
  rw[take_snoc Ew,List.flatMap_append];generalize (L.take i).flatMap (jt rows C sm g k)=fs at LW;let X6:=A50 (openAt cs g k)<|places rows C g;let Tz:(a7 rows C cs g k).length<=(places rows C g).length:=X6;let Hn:(a7 rows C cs g k).length<=16777216:=by lia
  let ho3:fs.n+(a7 rows C cs g k).length<=16777216:=by lia
  let ho4:fs.n+(a7 rows C cs g k).length<16777216:=by lia
  simp[ht,ixg,ho,a_,cV,cq,line,Hn];show bF aG (λ _=>Ch) (λ p=>aq<|cs.set k (g,AC p)) (λ p hp=>?_) ?_
  .simp[(kM kD e2 p).1]
  .rw[j6];cases sm with
   |true=>simp[line,ho3,ho4,jt]
   |false=>simp[line,ho3,jt]
 .rintro Y ⟨x7,x8,rfl⟩;rw[A08,B42];simp
open KH
def cn(rows:Rows)(C:Nat)(sm:Bool)(xs:U GO):Nat->U (U GO)
|0=>[xs]
|j+1=>match xs[j]? with
 |some (g,At)=>(cn rows C sm xs j).flatMap<|jt rows C sm g j
 |_=>cn rows C sm xs j
section
variable{rows:Rows}{C:Nat}{sm:Bool}{xs:U GO}
def iD{j:Nat}(h:xs[j]?=AC (g,At)):cn rows C sm xs (j+1)=(cn rows C sm xs j).flatMap (jt rows C sm g j):=by erw[cn,h]
def iC{j:Nat}(h:xs[j]?=AC (g,AC p)):cn rows C sm xs (j+1)=cn rows C sm xs j:=by erw[cn,h]
def vm:∀{j},j<=xs.n->(cn rows C sm xs j).length<=bJ ((xs.take j).map<|cw rows C)
|0,_=>by simp[cn,bJ]
|j+1,hj=>by
 let ih:=vm (j:=j) ∅;obtain⟨⟨g,o⟩,e⟩:∃x,xs[j]?=AC x:=(_,A04 ∅,)
 rw[pz e];cases o with
 |some p=>rw[iC e,show cw rows C (g,AC p)=1 from rfl,Nat.mul_one];show ih
 |none=>rw[iD e];show A15 (o4 λ x _=>zj)<|A88 _ ih
structure E9(rows:Rows)(sm:Bool)(xs:List GO)(j:Nat)(z:List GO):Prop where
 gs:z.map (·.1)=xs.map (·.1)
 rest:∀i:Nat,j<=i->z[i]?=xs[i]?
 ext:Ext xs z
 good:Good rows z
 full:sm=AT->∀(i:Nat)(g:G),i<j->z[i]?≠AC (g,At)
def MD{j:Nat}(e:xs[j]?=AC (g,At))(h:E9 rows sm xs j z)(hy:y∈jt rows C sm g j z):E9 rows sm xs (j+1) y:=by
 let hz:=(h.rest j<|P3 _).trans e;let hl:=(A02.mp hz).1;rcases A37.mp hy with hy|hy
 .let(p,hp,rfl):=A07.mp hy;let(h1,h2):=A44.mp hp;let gs:(z.set j (g,AC p)).map (·.1)=xs.map (·.1):=by
   rw[<-h.gs];show B54 λ i=>?_;rw[A06,A06,A36];split
   .rename_i ei;subst ei;rw[hz];rfl
   .rfl
  show(gs,λ i hi=>?_,(gs.a,λ i g' q ei=>?_,),h.good.put hz (KH.mE h1) h2,λ hs i g' hi=>?_,)
  .rw[A36,W1 ∅];show h.rest i ∅
  .let:=h.ext.sub i g' q ei;rw[A36];split
   .rename_i ej;subst ej;rw[hz]at this;ext this
   .exact this
  .rw[A36];split
   .rename_i ej;subst ej;intro q;ext q
   .exact h.full hs i g' ∅
 .cases sm with
  |false=>simp at hy
  |true=>
   let:y=z:=by simpa using hy
   subst this;show⟨h.gs,λ i hi=>h.rest i ∅,h.ext,h.good,λ hs=>nomatch hs⟩
def og(hk:Good rows xs):∀{j},j<=xs.n->∀z∈cn rows C sm xs j,E9 rows sm xs j z
|0,_,z,hz=>by
 let:z=xs:=by simpa[cn]using hz
 subst this;show(rfl,λ _ _=>rfl,(rfl,λ _ _ _ e=>e,),hk,λ _ i g hi=>absurd hi<|C46 _,)
|j+1,hj,z,hz=>by
 obtain⟨⟨g,o⟩,e⟩:∃x,xs[j]?=AC x:=(_,A04 ∅,)
 let ih:=og hk (j:=j) ∅;cases o with
 |some p=>
  rw[iC e]at hz;let h:=ih z hz;show(h.gs,λ i hi=>h.rest i ∅,h.ext,h.good,λ hs i g' hi=>?_,);by_cases nQ:i=j
  .subst nQ;rw[h.rest i<|P3 _,e];intro q;ext q
  .exact h.full hs i g' ∅
 |none=>rw[iD e]at hz;let(y,hy,hzy):=B06.mp hz;show MD e (ih y hy) hzy
def zt(H:Hall rows C)(hg:∀x∈xs,GOk x.1)(e:Ext xs z)(hz:Good rows z)(hs:sm=Ch\/∀(i:Nat) g,z[i]?≠AC (g,At)):∀{j},j<=xs.n->z.take j++xs.drop j∈cn rows C sm xs j
|0,_=>by simp[cn]
|j+1,hj=>by
 let ih:=zt H hg e hz hs (j:=j) ∅;let hzl:=e.len;obtain⟨⟨g,o⟩,ex⟩:∃x,xs[j]?=AC x:=(_,A04 ∅,)
 let(o',ez,ho):=e.at ex;let hjl:j<xs.n:=by lia
 let hjz:j<z.n:=by lia
 let d1:xs.drop j=(g,o)::xs.drop (j+1):=by rw[A99 hjl];rw[A04 hjl]at ex;rw[f8 ex]
 let t1:=take_snoc ez;let tl:(z.take j).length=j:=by rw[A33];lia
 cases o with
 |some p=>rw[ho p rfl]at t1;rw[iC ex,t1,A77];rw[d1]at ih;show ih
 |none=>
  rw[iD ex];show B06.mpr ⟨_,ih,?_⟩;rw[d1];cases o' with
  |none=>
   rcases hs with rfl|hs
   .refine A45 _ ?_;rw[t1,A77];simp
   .exact absurd ez<|hs j g
  |some p=>
   show A70 _<|A07.mpr ⟨p,?_,?_⟩
   .let(f,ap):=hz j g p ez;show A44.mpr ⟨tL H (hg _<|A21 ex) f,jW.mpr λ i g' q ei ne=>?_⟩;rw[<-d1]at ei;show ap i g' q ?_ ne;by_cases hi:i<j
    .rw[A23 (by rw[tl];show hi),C56 hi]at ei;show ei
    .rw[A46 (by rw[tl];lia),C42,tl,show j+(i-j)=i by lia]at ei;show e.sub i g' q ei
   .rw[t1,A77,List.set_append_right _ _ (by rw[tl];show P3 _),tl,Nat.sub_self];rfl
def sv(H:Hall rows C)(hg:∀x∈xs,GOk x.1)(e:Ext xs z)(hz:Good rows z)(hs:sm=Ch\/∀(i:Nat) g,z[i]?≠AC (g,At)):z∈cn rows C sm xs xs.n:=by let:=zt H hg e hz hs<|P3 _;rw[B68,A52,e.len,B42]at this;rw[e.len];show this
def ED(H:Hall rows C)(h6:xs.n<=6)(hg:∀x∈xs,GOk x.1)(hk:Good rows xs)(hw:aK rows C xs<=2000):c8 [aT rows,ay xs,aq xs,.bl sm]=.ok (.lst<|(cn rows C sm xs xs.n).map aq):=by
 rw[pZ];show aA ?_;let hl:bj (ay xs)=.ok (.int xs.n):=by simp[ay]
 simp[h_,hl,line];show eQ (λ i Y=>∃x5,Y=[v (aT rows),v (ay xs),v (aq xs),v (.bl sm),v (.lst<|(cn rows C sm xs i).map aq),x5]) ⟨At,rfl⟩ ?_ ?_
 .rintro j d Y hj ⟨x5,rfl⟩;let(A_,rfl):=ints_get hj;obtain⟨⟨g,o⟩,e⟩:∃x,xs[j]?=AC x:=(_,A04 A_,)
  let ix:bf (aq xs) (.int<|j)=.ok (bB o):=(da rfl (by rw[A06,e];rfl)).1;cases o with
  |some p=>let en:gj (aG p)=.ok (.bl AT):=rfl;rw[iC e];simp[ix,bB,en]
  |none=>
   let hi:=og (C:=C) (sm:=sm) hk (j:=j) ∅;let ψ:=vm (rows:=rows) (C:=C) (sm:=sm) (xs:=xs) (j:=j) ∅;let h1:=Fg (rows:=rows) (C:=C) xs<|j+1;rw[pz e,show cw rows C (g,At)=(places rows C g).length+1 from rfl]at h1;let hB:(cn rows C sm xs j).length*((places rows C g).length+1)<=1000000:=by let:=A88 ((places rows C g).length+1) ψ;lia
   let om:=zC H h6 hg e sm (L:=cn rows C sm xs j) (λ cs Ew=>((hi cs Ew).gs,((hi cs Ew).rest j<|P3 _).trans e,)) hB;rw[iD e];simp[ix,bB,om]
 .rintro Y ⟨x5,rfl⟩;rw[fX];simp
def bV{α:Type}(mx:Bool)(w:α->Int)(b:α):U α->α
|[]=>b
|x::r=>if G7 mx (w x) (w b)=Ch then bV mx w x r else bV mx w b r
def oz{enc:α->D}:∀r b,(∀x∈r,e (enc x)=.ok (w x))->QN mx e (enc b) (w b) (r.map enc)=.ok (enc<|bV mx w b r)
|[],b,_=>rfl
|x::r,b,h=>by
 let hx:=h x A13;let hr:=λ y hy=>h y<|A09 _ hy;rw[A00];unfold QN bV;rw[hx];erw[Res.lL];split
 .exact oz r x hr
 .exact oz r b hr
def jx{w:α->Int}:∀r b,bV mx w b r=b\/bV mx w b r∈r
|[],b=>.inl rfl
|x::r,b=>by
 unfold bV;split
 .rcases jx r x with h|h
  .rw[h];show .inr A13
  .exact .inr<|A09 _ h
 .rcases jx r b with h|h
  .exact .inl h
  .exact .inr<|A09 _ h
def iw{w:α->Int}:∀r b,w b<=w (bV Ch w b r)/\∀x∈r,w x<=w (bV Ch w b r)
|[],b=>⟨Int.le_refl _,λ x h=>by ext h⟩
|x::r,b=>by
 unfold bV;by_cases hb:G7 Ch (w x) (w b)=Ch
 .rw[M2 hb];let(h1,h2):=iw (w:=w) r x;let:w b<w x:=by simpa[G7]using hb
  show⟨by lia,λ y hy=>by
   rcases A01.mp hy with rfl|hy
   .exact h1
   .exact h2 y hy⟩
 .rw[W1 hb];let(h1,h2):=iw (w:=w) r b;let:w x<=w b:=by simpa[G7]using hb
  show⟨h1,λ y hy=>by
   rcases A01.mp hy with rfl|hy
   .lia
   .exact h2 y hy⟩
def wS(z:U GO):Int:=(z.map wO).sum
def T8{z:U GO}(hg:∀x∈xs,cX x.1)(h:z.map (·.1)=xs.map (·.1)):∀x∈z,cX x.1:=λ x hx=>by
 let:x.1∈xs.map (·.1):=by rw[<-h];show A07.mpr ⟨x,hx,rfl⟩
 let(y,hy,e):=A07.mp this;rw[<-e];show hg y hy
def JL{z:U GO}(h:z.map (·.1)=xs.map (·.1)):z.n=xs.n:=by let:=A14 List.length h;rwa [A08,A08]at this
def Bj(h6:xs.n<=6)(hg:∀x∈xs,cX x.1)(h:z.map (·.1)=xs.map (·.1)):dh [ay xs,aq z]=.ok (.int<|wS z):=by let:=yH (by rw[JL h];show h6)<|T8 hg h;rw[show D.tup _=ay z from rfl,J_ h]at this;show this
def Lm(h6:xs.n<=6)(hg:∀x∈xs,cX x.1)(hL:∀z∈b::r,z.map (·.1)=xs.map (·.1)):e! [ay xs,.lst ((b::r).map aq)]=.ok (aq<|bV Ch wS b r):=by
 rw[mH];show aA ?_;let ke:∀z∈b::r,uL (aj dh<|aV 1<|aV 0 ag) [v (ay xs)] (aq z)=.ok (wS z):=λ z hz=>by show JR ?_;simp[Bj h6 hg<|hL z hz]
 let pk:=oz (mx:=Ch) r b λ z hz=>ke z<|A09 _ hz;let kb:=ke b A13;let e:x? Ch (.ok .non) (eW 1) [0] (aj dh<|aV 1<|aV 0 ag) [v (ay xs),v (.lst<|(b::r).map aq)]=.ok (aq<|bV Ch wS b r):=by change pickK Ch (.ok .non) (uL _ [v _]) (aq b::r.map aq)=_;unfold pickK;dsimp only;rw[kb];show pk
 erw[A00]at e;simp[gg,e]
def G':e! [ay xs,.lst []]=.ok .non:=by rw[mH];show aA ?_;let e:x? Ch _ (eW 1) [0] (aj dh<|aV 1<|aV 0 ag) [v (ay xs),v (.lst [])]=.ok .non:=rfl;simp[gg,e]
end
open KH
open KH
open KH
open KH
def ltO:ε Pl->ε Pl->Prop
|some p,AC q=>Hi p q
|some _,At=>True
|_,_=>False
def JI(a b:U GO):Prop:=∃(i:Nat)(g:G)(o o':ε Pl),(∀j,j<i->a[j]?=b[j]?)/\a[i]?=AC (g,o)/\b[i]?=AC (g,o')/\ltO o o'
def Eb(p:Pl):¬Hi p p:=by unfold Hi;lia
def S0(h:ltO o o'):o≠o':=by
 rintro rfl;cases o with
 |none=>show h
 |some p=>show Eb p h
section
variable{C:Nat}{sm:Bool}
theorem xn(cs:U GO)(g:G)(k:Nat):(a7 rows C cs g k).Pairwise Hi:=(mw rows C g).filter _
theorem zi{cs:U GO}{k:Nat}(hk:cs[k]?=AC (g,At)):(jt rows C sm g k cs).Pairwise JI:=by
 let hl:=(A02.mp hk).1;let at_:∀p,(cs.set k (g,AC p))[k]?=AC (g,AC p):=λ p=>by rw[A36,M2 rfl,M2 hl]
 let off:∀p j,j<k->(cs.set k (g,AC p))[j]?=cs[j]?:=λ p j hj=>by rw[A36,W1 ∅]
 show C36.mpr ⟨?_,?_,?_⟩
 .rw[B53];show(xn cs g k).imp λ {p q} h=>⟨k,g,_,_,λ j hj=>by rw[off p j hj,off q j hj],at_ p,at_ q,h⟩
 .ext sm<;>simp
 .intro a ha b hb;let(p,_,rfl):=A07.mp ha;cases sm with
  |false=>simp at hb
  |true=>
   let:b=cs:=by simpa using hb
   subst this;show(k,g,_,At,λ j hj=>off p j hj,at_ p,hk,trivial,)
def step_at(h:y∈jt rows C sm g k cs)(j:Nat)(hj:j≠k):y[j]?=cs[j]?:=by
 rcases A37.mp h with h|h
 .let(p,_,rfl):=A07.mp h;rw[A36,W1<|A10 hj]
 .cases sm with
  |false=>simp at h
  |true=>
   let:y=cs:=by simpa using h
   rw[this]
def qi(hk:Good rows xs):∀{j},j<=xs.n->(cn rows C sm xs j).Pairwise JI
|0,_=>by simp[cn]
|j+1,hj=>by
 let ih:=qi hk (j:=j) ∅;let hi:=og (C:=C) (sm:=sm) hk (j:=j) ∅;obtain⟨⟨g,o⟩,e⟩:∃x,xs[j]?=AC x:=(_,A04 ∅,)
 cases o with
 |some p=>rw[iC e];show ih
 |none=>
  rw[iD e];show C77.mpr ⟨λ a ha=>zi<|((hi a ha).rest j<|P3 _).trans e,C78 ?_ ih⟩;rintro a b ha hb ⟨i,g',o,o',h1,h2,h3,h4⟩ x hx y hy;let nQ:i<j:=by show Nat.lt_of_not_le λ z=>?_;let e1:=(hi a ha).rest i z;let e2:=(hi b hb).rest i z;rw[h2]at e1;rw[h3,<-e1]at e2;show S0 h4 (Prod.mk.inj<|f8 e2).2.symm
  show(i,g',o,o',λ m hm=>?_,?_,?_,h4,)
  .rw[step_at hx m ∅,step_at hy m ∅];show h1 m hm
  .rw[step_at hx i ∅];show h2
  .rw[step_at hy i ∅];show h3
end
open Classical in
def oK(le:Bool):U Pl->U Pl->Bool
|[],[]=>le
|[],_::_=>Ch
|_::_,[]=>AT
|p::ps,q::qs=>if p=q then oK le ps qs else decide (Hi p q)
def mv(z:U GO):U Pl:=z.filterMap (·.2)
def Full(z:U GO):Prop:=∀(i:Nat)(g:G),z[i]?≠AC (g,At)
def EC(h:Full (x::z)):(∃p,x.2=AC p)/\Full z:=by
 show(?_,λ i g e=>h (i+1) g (by calc e),);let(g,o):=x;cases o with
 |none=>show absurd rfl<|h 0 g
 |some p=>show(p,rfl,)
open Classical in
def Ec(le:Bool):∀{a b},Full a->Full b->JI a b->oK le (mv a) (mv b)=Ch/\oK le (mv b) (mv a)=AT:=by
 intro a
 induction a with
 |nil=>rintro b _ _ ⟨i,g,o,o',_,h,_⟩;simp at h
 |cons x a ih=>
  intro b fa fb h;cases b with
  |nil=>let(i,g,o,o',_,_,h,_):=h;simp at h
  |cons y b=>
   let(ga,oa):=x;let(gb,ob):=y;let(i,g,o,o',h1,h2,h3,h4):=h;let((p,e1),fa'):=EC fa;let((q,e2),fb'):=EC fb;ext e1 e2;let ea:mv ((ga,AC p)::a)=p::mv a:=by simp[mv]
   let eb:mv ((gb,AC q)::b)=q::mv b:=by simp[mv]
   rw[ea,eb];cases i with
   |zero=>
    simp at h2 h3;let(rfl,rfl):=h2;let(_,rfl):=h3;let hpq:Hi p q:=h4;let ne:p≠q:=λ z=>Eb q<|z▸hpq;let nq:¬Hi q p:=by unfold Hi at hpq ⊢;lia
    simp[oK,ne,A10 ne,hpq,nq]
   |succ i=>let h0:=h1 0<|C47 _;simp at h0;let(rfl,rfl):=h0;let(r1,r2):=ih fa' fb' ⟨i,g,o,o',λ j hj=>by calc h1 (j+1) ∅,by calc h2,by calc h3,h4⟩;erw[oK,A35];show(r1,r2,)
def OF(h:E9 rows AT xs xs.length z):Full z:=λ i g e=>by let hl:=(A02.mp e).1;rw[JL h.gs]at hl;show h.full rfl i g hl e
open KH
def mV(w:α->Int):∀r b,∃t,(b::r).filter (λ z=>decide<|w z=w (bV Ch w b r))=bV Ch w b r::t
|[],b=>⟨[],by simp[bV]⟩
|x::r,b=>by
 unfold bV;by_cases hb:G7 Ch (w x) (w b)=Ch
 .rw[M2 hb];let(t,e):=mV w r x;let h1:=(iw (w:=w) r x).1;let jO:w b<w x:=by simpa[G7]using hb
  let:¬w b=w (bV Ch w x r):=by lia
  show⟨t,by rw[B07 (by calc this)];show e⟩
 .rw[W1 hb];let(t,e):=mV w r b;let h1:=(iw (w:=w) r b).1;let hle:w x<=w b:=by simpa[G7]using hb
  by_cases he:w b=w (bV Ch w b r)
  .rw[B51 (by calc he)]at e ⊢;injection e with e1 e2
   show⟨_,by rw[<-e1]⟩
  .rw[B07 (by calc he)]at e;let hx:¬w x=w (bV Ch w b r):=by lia
   show⟨t,by rw[B07 (by calc he),B07 (by calc hx)];show e⟩
def sG(so:(b::r).Pairwise JI):∀z∈b::r,wS z=wS (bV Ch wS b r)->z=bV Ch wS b r\/JI (bV Ch wS b r) z:=by
 let(t,ht):=mV wS r b;intro z hz he;let so2:=so.filter λ z=>decide<|wS z=wS (bV Ch wS b r);let hm:z∈(b::r).filter (λ z=>decide<|wS z=wS _):=A44.mpr ⟨hz,by calc he⟩;rw[ht]at so2 hm;rcases A01.mp hm with h|h
 .exact .inl h
 .exact .inr<|(C39.mp so2).1 z h
def NV(fa:Full a)(fb:Full b)(h1:JI a b)(h2:JI b a):False:=by let e1:=(Ec AT fa fb h1).1;let e2:=(Ec AT fb fa h2).2;rw[e1]at e2;ext e2
structure iX(rows:Rows)(C:Nat)(xs m:List GO):Prop where
 ext:Ext xs m
 good:Good rows m
 full:Full m
 most:∀z,Ext xs z->Good rows z->Full z->wS z<=wS m/\(wS z=wS m->z=m\/JI m z)
def oX(H:Hall rows C)(hg:∀x∈xs,GOk x.1)(e:Ext xs z)(gz:Good rows z)(fz:Full z):z∈cn rows C AT xs xs.n:=sv H hg e gz<|.inr fz
def E1(H:Hall rows C)(hg:∀x∈xs,GOk x.1)(hk:Good rows xs)(e:cn rows C AT xs xs.n=b::r):iX rows C xs (bV Ch wS b r):=by
 let hi:=og (C:=C) (sm:=AT) hk<|P3 _;let so:=qi (C:=C) (sm:=AT) hk<|P3 _;rw[e]at hi so;let J5:bV Ch wS b r∈b::r:=by
  rcases jx r b with h|h
  .rw[h];show A13
  .exact A09 _ h
 let(h1,h2):=iw (w:=wS) r b;show((hi _ J5).ext,(hi _ J5).good,OF<|hi _ J5,λ z ez gz fz=>?_,);let hz:=oX H hg ez gz fz;rw[e]at hz;show(?_,sG so z hz,);rcases A01.mp hz with rfl|h
 .exact h1
 .exact h2 z h
def iX.uniq(h:iX rows C xs m)(h':iX rows C xs m'):m'=m:=by
 let a:=h.most m' h'.ext h'.good h'.full;let b:=h'.most m h.ext h.good h.full;let e:wS m'=wS m:=by lia
 rcases a.2 e with z|z
 .exact z
 .rcases b.2 e.a with y|y
  .exact y.a
  .exact(NV h.full h'.full z y).elim
end KB
set_option maxRecDepth 4000
namespace KC
open Z KG KH KB
def fy:SF:=(aJ<|mf (eU (dS .int)<|eW 0)<|OV<|eU (dS .bool)<|eW 0)
def dm:U D->Res D:=fn 1 1 fy
def lx(x0:D):dm [x0]=a! (fy [AC (.val x0)]):=bR _ _ _ _ rfl
def bc:SF:=(aJ<|mf (aj dm<|aV 0 ag)<|dI oLe oLe (eW 1) (eW 0)<|eW 2)
def aO:U D->Res D:=fn 3 3 bc
def fv(x0 x1 x2:D):aO [x0,x1,x2]=a! (bc [AC (.val x0),AC (.val x1),AC (.val x2)]):=bR _ _ _ _ rfl
def gc:SF:=(aD (aN 3<|aj KB.c8<|aV 0<|aV 1<|ai (aj KB.dX<|aV 0<|aV 1<|aV 2 ag)<|ai (eC<|.bl AT) ag)<|aJ<|_O (tE<|eB Je (eU bj<|eW 3)<|eI 0) (eX 3 0)<|eC .non)
def fm:U D->Res D:=fn 3 4 gc
def q!(x0 x1 x2:D):fm [x0,x1,x2]=a! (gc [AC (.val x0),AC (.val x1),AC (.val x2),At]):=bR _ _ _ _ rfl
def ku:SF:=(aJ<|eL<|bx (c5<|eW 1) 1 [0] (aH 0) b8<|aj KG.eE<|aV 1<|aV 0 ag)
def e?:U D->Res D:=fn 2 2 ku
def uY(x0 x1:D):e? [x0,x1]=a! (ku [AC (.val x0),AC (.val x1)]):=bR _ _ _ _ rfl
def nE:SF:=(aJ<|aj KH.dH<|ai (eY 1 3)<|ai (eY 0 3)<|ai (aj KG.bX<|aV 0<|aV 2 ag) ag)
def ck:U D->Res D:=fn 4 4 nE
def Ax(x0 x1 x2 x3:D):ck [x0,x1,x2,x3]=a! (nE [AC (.val x0),AC (.val x1),AC (.val x2),AC (.val x3)]):=bR _ _ _ _ rfl
def eJ:SF:=(aJ<|mf (aj aO<|aV 1<|aI 0<|ai (eB mW (eU bj<|eW 0)<|eI 1) ag)<|eU gj<|eY 0 1)
def gQ:U D->Res D:=fn 2 2 eJ
def uW(x0 x1:D):gQ [x0,x1]=a! (eJ [AC (.val x0),AC (.val x1)]):=bR _ _ _ _ rfl
def cW:SF:=(aD (dN (nP (cZ<|tE<|eU (dS .tuple)<|eW 0)<|tE<|eB l_ (eU bj<|eW 0)<|eW 2) (aJ<|eC<|.bl AT) aR)<|aJ<|mf (eU (dS .str)<|eX 0 0)<|eB oEq (eX 0 0)<|eW 1)
def cG:U D->Res D:=fn 3 3 cW
def tQ(x0 x1 x2:D):cG [x0,x1,x2]=a! (cW [AC (.val x0),AC (.val x1),AC (.val x2)]):=bR _ _ _ _ rfl
def jN:SF:=(aJ<|mf (aj cG<|aV 0<|ai (eC<|.str [101,97,99,104])<|aI 3 ag)<|eU (dS .tuple)<|eX 0 2)
def iL:U D->Res D:=fn 1 1 jN
def Cu(x0:D):iL [x0]=a! (jN [AC (.val x0)]):=bR _ _ _ _ rfl
def aU(self:U D->Res D):SF:=(aD (dN (n8 (cZ<|tE<|aj cG<|aV 3<|ai (eC<|.str [115,116,117,99,107])<|aI 2 ag)<|cZ<|tE<|aj iL<|aV 3 ag) (aJ<|eC<|.bl AT) aR)<|aD (dN (cZ<|tE<|aj gQ<|aV 2<|aX 3 1 ag) (aJ<|eC<|.bl AT) aR)<|aD (aN 4<|eX 3 1)<|aD (aN 5<|aj ck<|aV 0<|aV 1<|aV 2<|aV 4 ag)<|aD (aN 6<|_O (tE<|aj iL<|aV 3 ag) (eX 3 2)<|cm ag)<|aD (dN (tE<|eB l_ (eU bj<|eW 6)<|eU bj<|eW 5) (aJ<|eC<|.bl AT) aR)<|aD (eS (Gn (eV 5)<|eV 6) (cJ [7,8])<|dN (cZ<|tE<|aj self<|aV 0<|aV 1<|ai (aj KH.bS<|aV 2<|aV 4<|aV 7 ag)<|aV 8 ag) (aJ<|eC<|.bl AT) aR)<|aJ<|eC<|.bl Ch)
def bY:Nat->U D->Res D
|0=>λ _=>.bad
|k+1=>fn 4 9<|aU<|bY k
def o6(k:Nat)(x0 x1 x2 x3:D):bY (k+1) [x0,x1,x2,x3]=a! (aU (bY k) [AC (.val x0),AC (.val x1),AC (.val x2),AC (.val x3),At,At,At,At,At]):=bR _ _ _ _ rfl
def p_:SF:=(aD (aN 4<|aj KB.a6<|aV 0<|aV 1<|aV 3 ag)<|aJ<|aj (bY 9)<|aV 1<|ai (aj e?<|aV 0<|aV 1 ag)<|aV 4<|aV 2 ag)
def cu:U D->Res D:=fn 4 5 p_
def Co(x0 x1 x2 x3:D):cu [x0,x1,x2,x3]=a! (p_ [AC (.val x0),AC (.val x1),AC (.val x2),AC (.val x3),At]):=bR _ _ _ _ rfl
def d9(self:U D->Res D):SF:=(aD (aN 3<|eL<|bx (dF<|eU bj<|eW 0) 1 [2] (aH 0) (tE<|eU gj<|eY 1 0)<|eV 0)<|aD (aN 4<|x? AT .bad (eW 3) [0,1,2]<|eU bj<|aj ck<|aV 1<|aV 2<|aV 3<|aV 0 ag)<|aD (aN 5<|aj ck<|aV 0<|aV 1<|aV 2<|aV 4 ag)<|aD (dN (tE<|eB oEq (eW 5)<|cm ag) (aJ<|cm<|ai (eC<|.str [115,116,117,99,107])<|aV 4 ag) aR)<|aD (aN 6<|eL<|bx (c5<|eW 5) 1 [0,1,2,4] (aH 0) b8<|aj self<|aV 1<|aV 2<|ai (aj KH.bS<|aV 3<|aV 4<|aV 0 ag) ag)<|aJ<|cm<|ai (eC<|.str [101,97,99,104])<|aV 4<|ai (eU gw<|eW 6) ag)
def br:Nat->U D->Res D
|0=>λ _=>.bad
|k+1=>fn 3 7<|d9<|br k
def kF(k:Nat)(x0 x1 x2:D):br (k+1) [x0,x1,x2]=a! (d9 (br k) [AC (.val x0),AC (.val x1),AC (.val x2),At,At,At,At]):=bR _ _ _ _ rfl
def j?:SF:=(aD (dN (tE<|eU iF<|aj fm<|aV 0<|aV 1<|aV 2 ag) (aJ<|eC .non) aR)<|aJ<|aj (br 9)<|aV 1<|ai (aj e?<|aV 0<|aV 1 ag)<|ai (aj KB.a6<|aV 0<|aV 1<|aV 2 ag) ag)
def dY:U D->Res D:=fn 3 3 j?
def qD(x0 x1 x2:D):dY [x0,x1,x2]=a! (j? [AC (.val x0),AC (.val x1),AC (.val x2)]):=bR _ _ _ _ rfl
end KC
set_option maxRecDepth 8000
namespace KC
open Z KG KB
open KH
def fT:U Nat:=[115,116,117,99,107]
def jG:U Nat:=[101,97,99,104]
def isStr(d:D)(w:U Nat):Bool:=match d with
|.str t=>t==w
|_=>AT
def gq(xs:U GO)(d:D):Bool:=match d with
| .int i=>decide (0<=i)&&(decide (i<xs.n)&&match xs[i.v]? with
 |some (_,At)=>Ch
 | _=>AT)
|_=>AT
def fS(h:gq xs d=Ch):∃k g,d=.int (k:Nat)/\xs[k]?=AC (g,At):=by
 cases d with
 |int i=>
  erw[gq,A34]at h;let(h0,h1,h2):=h;show(i.v,?_,);split at h2
  .rename_i g e;show⟨g,by congr 1;lia,e⟩
  .ext h2
 |_=>ext h
def HF{xs:U GO}{k:Nat}(h:xs[k]?=AC (g,At)):gq xs (.int<|k)=Ch:=by
 let hl:=(A02.mp h).1;let yB:(k)<xs.n:=by lia
 erw[gq,A69,h];simp[yB]
def nh(d:D):dm [d]=.ok (.bl<|match d with|.int _=>Ch|_=>AT):=by rw[lx];show aA ?_;ext d<;>simp[fy,dE]
def lJ(d:D)(a b:Int):aO [d,.int a,.int b]=.ok (.bl<|match d with|.int i=>decide (a<=i)&&decide (i<=b)|_=>AT):=by
 rw[fv];show aA ?_;cases d with
 |int i=>
  by_cases h:a<=i
  .simp[bc,nh,h]
  .simp[bc,nh,h]
 |_=>simp[bc,nh]
def jQ{xs:U GO}(d:D):gQ [aq xs,d]=.ok (.bl<|gq xs d):=by
 rw[uW];show aA ?_;let hl:bj (aq xs)=.ok (.int xs.n):=by simp[aq]
 cases d with
 |int i=>
  by_cases h0:0<=i
  .by_cases h1:i<xs.n
   .let LY:i<=(xs.n:Int)-1:=by lia
    let hk:i.v<xs.n:=by lia
    let ix:bf (aq xs) (.int i)=.ok (bB (xs[i.v]).2):=(da (xs:=xs.map λ y:GO=>bB y.2) (i:=i) (j:=i.v) ∅ (by rw[A06,A04 hk];rfl)).1;let e:gq xs (.int i)=(xs[i.v]).2.isNone:=by erw[gq,h0,h1,decide_true,B66,A04 hk];generalize xs[i.v]=y;let(g,o):=y;ext o<;>rfl
    rw[e];simp[eJ,hl,lJ,h0,LY,ix]
   .let LY:¬i<=(xs.n:Int)-1:=by lia
    simp[eJ,hl,lJ,h0,LY,h1,gq]
  .simp[eJ,hl,lJ,h0,gq]
 |_=>simp[eJ,hl,lJ,gq]
def p!(d:D)(w:U Nat)(n:Nat):Bool:=match d with
|.tup<|a::r=>(r.n+1==n)&&isStr a w
|_=>AT
def wx(d:D)(w:U Nat)(hn:1<=n):cG [d,.str w,.int (n:Nat)]=.ok (.bl<|p! d w n):=by
 rw[tQ];show aA ?_;cases d with
 |tup xs=>
  cases xs with
  |nil=>
   let:¬(0)=(n:Int):=by lia
   simp[cW,dE,p!,this]
  |cons a r=>
   let i0:=(da (xs:=a::r) (i:=0) rfl rfl).1;by_cases h:r.n+1=n
   .let h':(r.n)+1=(n):=by lia
    cases a with
    |str t=>simp[cW,dE,p!,h',h,i0,isStr]
    |_=>simp[cW,dE,p!,h',h,i0,isStr]
   .let h':¬(r.n)+1=(n:Int):=by lia
    simp[cW,dE,p!,h',h]
 |_=>simp[cW,dE,p!]
def o?(d:D):Bool:=match d with
|.tup [a,_,.tup _]=>isStr a jG
|_=>AT
def OU(d:D):iL [d]=.ok (.bl<|o? d):=by
 rw[Cu];show aA ?_;let bo:=wx d jG (n:=3) ∅;let Zc:cG [d,.str [101,97,99,104],.int 3]=.ok _:=bo;cases hb:p! d jG 3 with
 |false=>
  rw[hb]at Zc;let:o? d=AT:=by
   unfold o?;split
   .rename_i a _ _;let uk:(((2)+1==3)&&isStr a jG)=AT:=hb;simpa using uk
   .rfl
  simp[jN,Zc,this]
 |true=>
  rw[hb]at Zc;unfold p! at hb;split at hb
  .rename_i a r;erw[A34,A41]at hb
   match r,hb with
   |[b,c],⟨_,hs⟩=>
    let i2:bf (.tup [a,b,c]) (.int 2)=.ok c:=rfl;cases c with
    |tup ps=>simp[jN,Zc,i2,dE,o?,hs]
    |_=>simp[jN,Zc,i2,dE,o?]
  .ext hb
def fu(f:Pl->D->Bool):U Pl->U D->Bool
|p::ps,d::ds=>f p d&&fu f ps ds
|_,_=>Ch
def cD(rows:Rows)(C:Nat):Nat->U GO->D->Bool
|0,_,_=>AT
|n+1,xs,d=>match d with
 | .tup [a,.int i]=>isStr a fT&&(gq xs (.int i)&&match xs[i.v]? with
  |some (g,_)=>(a7 rows C xs g i.v).isEmpty
  | none=>AT)
 | .tup [a,.int i,.tup ps]=>isStr a jG&&(gq xs (.int i)&&match xs[i.v]? with
  |some (g,_)=>(ps.n==(a7 rows C xs g i.v).length)&&fu (λ p e=>cD rows C n (xs.set i.toNat (g,AC p)) e) (a7 rows C xs g i.v) ps
  | none=>AT)
 |_=>AT
def cf(rows:Rows)(C:Nat)(xs:U GO):D:=.lst<|xs.map λ x=>.tup<|(places rows C x.1).map aG
def n_{rows:Rows}{C:Nat}(H:Hall rows C){xs:U GO}(h6:xs.n<=6){k:Nat}{g:G}(hk:xs[k]?=AC (g,At)):ck [ay xs,cf rows C xs,aq xs,.int (k:Nat)]=.ok (.tup<|(a7 rows C xs g k).map aG):=by
 rw[Ax];show aA ?_;let hl:k<xs.n:=(A02.mp hk).1;let i1:bf (cf rows C xs) (.int (k:Nat))=.ok (.tup<|(places rows C g).map aG):=(da (xs:=xs.map λ y:GO=>D.tup ((places rows C y.1).map aG)) (i:=(k:Nat)) (j:=k) rfl (by rw[A06,hk];rfl)).2;let i2:bf (ay xs) (.int (k:Nat))=.ok (aF g):=(da (xs:=xs.map λ y:GO=>aF y.1) (i:=(k:Nat)) (j:=k) rfl (by rw[A06,hk];rfl)).1;let ht:=nZ (xs:=xs) ∅;rw[show D.tup (xs.map λ x=>aF x.1)=ay xs from rfl,show D.tup (xs.map λ x=>bB x.2)=aq xs from rfl]at ht;let Ai:=lK xs;let ho:=mB (places rows C g) g (ss:=l! xs) (places_len H g) ∅;let Tt:xs.set k (g,At)=xs:=by let:xs[k]=(g,At):=(A02.mp hk).2;rw[<-this];show C76 hl
 let he:(places rows C g).filter (λ p=>(l! xs).all λ x=>bG g p x.1 x.2)=a7 rows C xs g k:=by unfold a7;show xz λ p _=>?_;let:=zo (g:=g) hk p;simp only at this;rw[Tt]at this;show this
 rw[he]at ho;simp[nE,i1,i2,ht,ho]
def nN(xs:U GO):Nat:=xs.countP λ x=>x.2.isNone
def B2:∀{xs:U GO}{k:Nat}{g} p,xs[k]?=AC (g,At)->nN (xs.set k (g,AC p))+1=nN xs
|[],_,_,_,h=>by simp at h
|(h,o)::xs,0,g,p,e=>by simp at e;let(rfl,rfl):=e;simp[nN]
|(h,o)::xs,k+1,g,p,e=>by let:=B2 p (by calc e);erw[nN,sB,B41]at this ⊢;lia
def L!(ps:U Pl)(ds:U D):∀{j:Nat}{d},(fO (ps.map aG) ds)[j]?=AC d->∃p e,ps[j]?=AC p/\ds[j]?=AC e/\d=.tup [aG p,e]:=by
 induction ps generalizing ds with
 |nil=>intro j d h;ext ds<;>simp[fO]at h
 |cons p ps ih=>
  intro j d h;cases ds with
  |nil=>simp[fO]at h
  |cons e ds=>
   cases j with
   |zero=>simp[fO]at h;show(p,e,rfl,rfl,h.a,)
   |succ j=>
    let h':(fO (ps.map aG) ds)[j]?=AC d:=by simpa[fO]using h
    let(p',e',h1,h2,h3):=ih ds h';show⟨p',e',by calc h1,by calc h2,h3⟩
def eu:∀{ps}{ds}{j:Nat}{p}{e},ps[j]?=AC p->ds[j]?=AC e->f p e=AT->fu f ps ds=AT
|[],_,_,_,_,h,_,_=>by simp at h
|_::_,[],_,_,_,_,h,_=>by simp at h
|p::ps,d::ds,0,_,_,h1,h2,h3=>by simp at h1 h2;subst h1;subst h2;simp[fu,h3]
|p::ps,d::ds,j+1,_,_,h1,h2,h3=>by let:=eu (by calc h1) (by calc h2) h3;simp[fu,this]
def kL:∀{ps}{ds},(∀(j:Nat) p e,ps[j]?=AC p->ds[j]?=AC e->f p e=Ch)->fu f ps ds=Ch
|[],ds,_=>by ext ds<;>rfl
|p::ps,[],_=>rfl
|p::ps,d::ds,h=>by erw[fu,h 0 p d rfl rfl];show kL λ j p' e' h1 h2=>h (j+1) p' e' (by calc h1) (by calc h2)
def yD(as bs:U D):(fO as bs).length=min as.length bs.n:=by
 induction as generalizing bs with
 |nil=>ext bs<;>simp[fO]
 |cons a as ih=>cases bs with
  |nil=>simp[fO]
  |cons b bs=>simp[fO,ih]
def L'{I:Env->Prop}(hI:I Y)
 (hs:∀ Y p e,I Y->(∃ n:Nat,ps[n]?=AC p/\ds[n]?=AC e)->Ok (b<|(Y.set i<|v<|aG p).set j<|v e) λ fl=>(f p e=Ch->∃ Y',fl=.nx Y'/\I Y')/\(f p e=AT->fl=.rt (.bl AT)))
  (hf:fu f ps ds=AT->Q (.rt<|.bl AT)) (ht:fu f ps ds=Ch->∀Y,I Y->Q (.nx Y)):Ok (bM (cJ [i,j]) b (fO (ps.map aG) ds) Y) Q:=by
 show eQ (λ n Y=>I Y/\∀m p e,m<n->ps[m]?=AC p->ds[m]?=AC e->f p e=Ch) ⟨hI,λ m p e h=>absurd h<|C46 _⟩ ?_ ?_
 .rintro n d Y hn ⟨hI,hold⟩;let(p,e,h1,h2,rfl):=L! ps ds hn;rw[Yx];erw[Q7];show(hs Y p e hI ⟨n,h1,h2⟩).imp ?_;rintro fl ⟨k1,k2⟩;cases _x:f p e with
  |true=>
   let(Y',rfl,hI'):=k1 _x;show(hI',λ m p' e' hm LY J?=>?_,);by_cases h:m<n
   .exact hold m p' e' h LY J?
   .let:m=n:=by lia
    subst this;rw[h1]at LY;ext LY;rw[h2]at J?;ext J?;show _x
  |false=>rw[k2 _x];show hf<|eu h1 h2 _x
 .rintro Y ⟨hI,hold⟩;show ht (kL λ m p e h1 h2=>hold m p e ?_ h1 h2) Y hI;rw[yD,A08];let a:=(A02.mp h1).1;let b:=(A02.mp h2).1;lia
def rf:Nat->D->Prop
|0,_=>True
|n+1,d=>(∃xs,d=.lst xs)\/(∃w,d=.tup [.str w])\/(∃w b,d=.tup [.str w,b])\/∃w b c,d=.tup [.str w,b,c]/\∀ps,c=.tup ps->ps.n<=100000/\∀p∈ps,rf n p
def qo(h:xs[k]?=AC x)(o:ε Pl):cf rows C (xs.set k (x.1,o))=cf rows C xs:=by
 let e:=(A02.mp h).2;unfold cf;rw[B25]
 congr 1
 show C43 ∅ λ i h1 h2=>?_;rw[C44];split
 .rename_i q;subst q;simp[e]
 .rfl
def vA(h:gq xs b=AT):cD rows C (n+1) xs (.tup [.str w,b])=AT/\∀c,cD rows C (n+1) xs (.tup [.str w,b,c])=AT:=by
 cases b with
 |int i=>show⟨by simp[cD,h],λ c=>?_⟩;ext c<;>simp[cD,h]
 |_=>show⟨by simp[cD],λ c=>by ext c<;>simp[cD]⟩
def NW(H:Hall rows C):∀ n xs d,xs.n<=6->nN xs<n->rf n d ->
 bY n [ay xs,cf rows C xs,aq xs,d]=.ok (.bl<|cD rows C n xs d):=by
 intro n
 induction n with
 |zero=>intro xs d _ h;lia
 |succ n ih=>
  intro xs d h6 hn hp;rw[o6];show aA ?_;let bs:=wx d fT (n:=2) ∅;let Bc:cG [d,.str [115,116,117,99,107],.int 2]=.ok (.bl<|p! d fT 2):=bs;let be:=OU d;rcases hp with⟨zs,rfl⟩|⟨w,rfl⟩|⟨w,b,rfl⟩|⟨w,b,c,rfl,hc⟩
  .let e1:p! (.lst zs) fT 2=AT:=rfl;let e2:o? (.lst zs)=AT:=rfl;rw[e1]at Bc;rw[e2]at be;simp[aU,Bc,be,cD]
  .let e1:p! (.tup [.str w]) fT 2=AT:=rfl;let e2:o? (.tup [.str w])=AT:=rfl;rw[e1]at Bc;rw[e2]at be;simp[aU,Bc,be,cD]
  .let e1:p! (.tup [.str w,b]) fT 2=(w==fT):=rfl;let e2:o? (.tup [.str w,b])=AT:=rfl;let i1:bf (.tup [.str w,b]) (.int 1)=.ok b:=rfl;rw[e1]at Bc;rw[e2]at be;cases hw:(w==fT)with
   |false=>
    rw[hw]at Bc;let:cD rows C (n+1) xs (.tup [.str w,b])=AT:=by
     cases b with
     |int i=>simp[cD,isStr,hw]
     |_=>simp[cD]
    simp[aU,Bc,be,this]
   |true=>
    rw[hw]at Bc;cases Gr:gq xs b with
    |false=>let wo:=jQ (xs:=xs) b;rw[Gr]at wo;simp[aU,Bc,be,i1,wo,(vA (rows:=rows) (C:=C) (n:=n) (w:=w) Gr).1]
    |true=>
     let wo:=jQ (xs:=xs) b;rw[Gr]at wo;let(k,g,rfl,hk):=fS Gr;let so:=n_ H h6 hk;let Vv:cD rows C (n+1) xs (.tup [.str w,.int (k:Nat)])=(a7 rows C xs g k).isEmpty:=by simp[cD,isStr,hw,Gr,hk]
     rw[Vv];cases ho:a7 rows C xs g k with
     |nil=>rw[ho]at so;simp[aU,Bc,be,i1,wo,so,line,fO,bM]
     |cons p0 ps=>
      rw[ho]at so;let:¬(0:Int)=(ps.n:Int)+1:=by lia
      simp[aU,Bc,be,i1,wo,so,line,this]
  .let e1:p! (.tup [.str w,b,c]) fT 2=AT:=rfl;let i1:bf (.tup [.str w,b,c]) (.int 1)=.ok b:=rfl;let i2:bf (.tup [.str w,b,c]) (.int 2)=.ok c:=rfl;rw[e1]at Bc;cases he:o? (.tup [.str w,b,c])with
   |false=>
    rw[he]at be;let:cD rows C (n+1) xs (.tup [.str w,b,c])=AT:=by
     cases c with
     |tup ps=>
      let hw:(w==jG)=AT:=he;cases b with
      |int i=>simp[cD,isStr,hw]
      |_=>simp[cD]
     |_=>ext b<;>simp[cD]
    simp[aU,Bc,be,this]
   |true=>
    rw[he]at be;obtain⟨ps,rfl⟩:∃ps,c=.tup ps:=by
     cases c with
     |tup ps=>show(ps,rfl,)
     |_=>ext he
    let hw:(w==jG)=Ch:=he;cases Gr:gq xs b with
    |false=>let wo:=jQ (xs:=xs) b;rw[Gr]at wo;simp[aU,Bc,be,i1,wo,(vA (rows:=rows) (C:=C) (n:=n) (w:=w) Gr).2<|.tup ps]
    |true=>
     let wo:=jQ (xs:=xs) b;rw[Gr]at wo;let(k,g,rfl,hk):=fS Gr;let so:=n_ H h6 hk;let Vv:cD rows C (n+1) xs (.tup [.str w,.int (k:Nat),.tup ps])=((ps.n==(a7 rows C xs g k).length)&&fu (λ p e=>cD rows C n (xs.set k (g,AC p)) e) (a7 rows C xs g k) ps):=by simp[cD,isStr,hw,Gr,hk]
     rw[Vv];let X6:=vC H xs g k;generalize a7 rows C xs g k=op at so X6;by_cases ψ:ps.n=op.n
     .let J7:(ps.n:Int)=(op.n:Int):=by lia
      simp[aU,Bc,be,i1,i2,wo,so,line,J7,ψ];show L' (f:=λ p e=>cD rows C n (xs.set k (g,AC p)) e) (I:=λ Y=>∃x7 x8,Y=[v (ay xs),v (cf rows C xs),v (aq xs),v (.tup [.str w,.int (k:Nat),.tup ps]),vi (k:Nat),v (.tup<|op.map aG),v (.tup ps),x7,x8]) ⟨At,At,rfl⟩ ?_ ?_ ?_
      .rintro Y p e ⟨x7,x8,rfl⟩ ⟨m,hm1,hm2⟩;let Cf:rf n e:=(hc ps rfl).2 e<|A21 hm2;let hnn:=B2 p hk;let:=ih (xs.set k (g,AC p)) e (by rw[Dm];show h6) ∅ Cf;rw[show ay (xs.set k (g,AC p))=ay xs from p7 hk<|some p,show cf rows C (xs.set k (g,AC p))=cf rows C xs from qo hk<|some p]at this;cases hpe:cD rows C n (xs.set k (g,AC p)) e with
       |true=>rw[hpe]at this;simp[(kM h6 hk p).1,this]
       |false=>rw[hpe]at this;simp[(kM h6 hk p).1,this]
      .intro h;simp[h]
      .rintro h Y ⟨x7,x8,rfl⟩;simp[h,ψ]
     .let J7:¬(ps.n:Int)=(op.n:Int):=by lia
      simp[aU,Bc,be,i1,i2,wo,so,line,J7,ψ]
def mK(H:Hall rows C)(h6:xs.n<=6)(hg:∀x∈xs,GOk x.1):e? [aT rows,ay xs]=.ok (cf rows C xs):=by
 rw[uY];show aA ?_;let hl:xs.n<=16777216:=by lia
 unfold ay;simp[ku,a_,cV,cq,hl];show bF (λ x:GO=>aF x.1) (λ _=>Ch) (λ x=>.tup<|(places rows C x.1).map aG) ?_ ?_
 .intro x hx;simp[places_of_ok H<|hg x hx]
 .rw[j6];show⟨_,rfl,rfl⟩
def Kk(H:Hall rows C)(h6:xs.n<=6)(hg:∀x∈xs,GOk x.1)(hk:Good rows xs)(hw:aK rows C xs<=2000)(ef:a6 [aT rows,ay xs,fd]=.ok (aq xs)):
 fm [aT rows,ay xs,fd]=.ok (match cn rows C AT xs xs.n with|[]=>.non|z::_=>aq z):=by
 let fr:=ED (sm:=AT) H h6 hg hk hw;let sm:=zm H h6 hg ef hw;rw[q!];show aA ?_;cases e:cn rows C AT xs _ with
 |nil=>rw[e]at fr;erw[A28]at fr;simp[gc,sm,fr]
 |cons z r=>
  rw[e]at fr;erw[A00]at fr;let i0:=(da (xs:=aq z::r.map aq) (i:=0) rfl rfl).2;let hl:(0)<(r.n)+1:=by lia
  simp[gc,sm,fr,i0]
def ud(rows:Rows)(xs:U GO):Prop:=∀z,Ext xs z->Good rows z->∃(i:Nat)(g:G),z[i]?=AC (g,At)
def F7(H:Hall rows C)(hg:∀x∈xs,GOk x.1)(h:cn rows C AT xs xs.n=[]):ud rows xs:=by intro z e gz;show Classical.byContradiction λ hn=>?_;let:=sv (sm:=AT) H hg e gz<|.inr λ i g q=>hn ⟨i,g,q⟩;rw[h]at this;ext this
def ON{cs:U GO}{k:Nat}(hk:cs[k]?=AC (g,At))(p:Pl):Ext cs (cs.set k (g,AC p)):=by
 let hl:=(A02.mp hk).1;show(?_,λ i g' q hi=>?_,)
 .refine B54 λ i=>?_;rw[A06,A06,A36];split
  .rename_i ei;subst ei;rw[hk];rfl
  .rfl
 .rw[A36];split
  .rename_i ej;subst ej;rw[hk]at hi;ext hi
  .exact hi
def ud.put(h:ud rows xs){k:Nat}(hk:xs[k]?=AC (g,At))(p:Pl):ud rows (xs.set k (g,AC p)):=λ z e gz=>
 have e1:=ON hk p
 h z ⟨e1.gs.trans e.gs,λ i g p q=>e.sub i g p<|e1.sub i g p q⟩ gz
def kO(xs:U GO)(k:Nat):Bool:=match xs[k]? with
|some (_,At)=>Ch
|_=>AT
def yL(h:kO xs k=Ch):∃g,xs[k]?=AC (g,At):=by
 unfold kO at h;split at h
 .rename_i g e;show(g,e,)
 .ext h
def opens(rows:Rows)(C:Nat)(xs:U GO)(k:Nat):U Pl:=match xs[k]? with
|some (g,_)=>a7 rows C xs g k
|none=>[]
def YK(ps:U Pl):oEq (.tup<|ps.map aG) (.tup [])=.ok (.bl ps.isEmpty):=by ext ps<;>rfl
def IT(H:Hall rows C):∀(n:Nat)(xs:U GO),xs.n<=6->(∀x∈xs,GOk x.1)->nN xs<n->Good rows xs->ud rows xs ->
 ∃d,br n [ay xs,cf rows C xs,aq xs]=.ok d/\(∀m,rf m d)/\cD rows C n xs d=Ch/\iF d=.ok (.bl Ch):=by
 intro n
 induction n with
 |zero=>intro xs _ _ h;lia
 |succ n ih=>
  intro xs h6 hg hn _w Hq;let J9:bj (ay xs)=.ok (.int xs.n):=by simp[ay]
  let hl:xs.n<=16777216:=by lia
  let s_:(EQ xs.n).filter (kO xs)≠[]:=λ z=>by let(i,g,e):=Hq xs ⟨rfl,λ _ _ _ e=>e⟩ _w;let hi:i<xs.n:=(A02.mp e).1;let:i∈(EQ xs.n).filter (kO xs):=A44.mpr ⟨A25.mpr hi,by unfold kO;rw[e]⟩;rw[z]at this;ext this
  let hall:∀k∈(EQ xs.n).filter (kO xs),kO xs k=Ch:=λ k hk=>(A44.mp hk).2;generalize hks:(EQ xs.n).filter (kO xs)=ks at s_ hall;cases ks with
  |nil=>show absurd rfl s_
  |cons k0 kr=>
   let key:∀k∈k0::kr,uL (eU bj<|aj ck<|aV 1<|aV 2<|aV 3<|aV 0 ag) [v (ay xs),v (cf rows C xs),v (aq xs)] (.int (k:Nat))=.ok ((opens rows C xs k).length:Int):=λ k hk=>by let(g,e):=yL (hall k hk);let so:=n_ H h6 e;show JR ?_;simp[so,opens,e]
   let pk:=oz (mx:=AT) (e:=uL (eU bj<|aj ck<|aV 1<|aV 2<|aV 3<|aV 0 ag) [v (ay xs),v (cf rows C xs),v (aq xs)]) (enc:=λ k=>D.int (k:Nat)) (w:=λ k=>((opens rows C xs k).length:Int)) kr k0 λ k hk=>key k<|A09 _ hk;let mem:bV AT (λ k=>((opens rows C xs k).length:Int)) k0 kr∈k0::kr:=by
    rcases jx (mx:=AT) (w:=λ k=>((opens rows C xs k).length:Int)) kr k0 with h|h
    .rw[h];show A13
    .exact A09 _ h
   generalize bV AT (λ k=>((opens rows C xs k).length:Int)) k0 kr=k at pk mem;let(g,hk):=yL (hall k mem);let ex:∀x4 x5 x6,x? AT .bad (eW 3) [0,1,2] (eU bj<|aj ck<|aV 1<|aV 2<|aV 3<|aV 0 ag) [v (ay xs),v (cf rows C xs),v (aq xs),v (.lst<|(k0::kr).map λ k=>D.int (k:Nat)),x4,x5,x6]=.ok (.int (k:Nat)):=λ x4 x5 x6=>by change pickK AT .bad (uL (eU bj<|aj ck<|aV 1<|aV 2<|aV 3<|aV 0 ag) [v (ay xs),v (cf rows C xs),v (aq xs)]) (D.int (k0:Nat)::kr.map λ k=>D.int (k:Nat))=_;unfold pickK;dsimp only;rw[key k0 A13];show pk
   let so:=n_ H h6 hk;let X6:=vC H xs g k;let X5:∀p∈a7 rows C xs g k,bZ rows g p=Ch/\openAt xs g k p=Ch:=λ p hp=>by let(h1,h2):=A44.mp hp;show(KH.mE h1,h2,)
   let kg:=hg _<|A21 hk;let hw:=HF hk;let step:∀p∈a7 rows C xs g k,∃d,br n [ay xs,cf rows C xs,aq (xs.set k (g,AC p))]=.ok d/\(∀m,rf m d)/\cD rows C n (xs.set k (g,AC p)) d=Ch:=λ p hp=>by
    let n1:=B2 p hk;let(f1,f2):=X5 p hp;let(d,e1,e2,e3,_):=ih (xs.set k (g,AC p)) (by rw[Dm];show h6) (λ x hx=>by
     rcases C48 hx with z|z
     .exact hg x z
     .rw[z];show kg) ∅ (_w.put hk f1 f2) (Hq.put hk p)
    rw[show ay (xs.set k (g,AC p))=ay xs from p7 hk<|some p,show cf rows C (xs.set k (g,AC p))=cf rows C xs from qo hk<|some p]at e1;show(d,e1,e2,e3,)
   obtain⟨f,hf⟩:∃f:Pl->D,∀p∈a7 rows C xs g k,br n [ay xs,cf rows C xs,aq (xs.set k (g,AC p))]=.ok (f p)/\(∀m,rf m (f p))/\cD rows C n (xs.set k (g,AC p)) (f p)=Ch:=by
    classical
    show⟨λ p=>if h:p∈a7 rows C xs g k then(step p h).choose else .non,λ p hp=>by erw[hp,A96];show(step p hp).choose_spec⟩
   let start:∀Q,(∀x5 x6,Ok ((aD (aN 5<|aj ck<|aV 0<|aV 1<|aV 2<|aV 4 ag)<|aD (dN (tE<|eB oEq (eW 5)<|cm ag) (aJ<|cm<|ai (eC<|.str [115,116,117,99,107])<|aV 4 ag) aR)<|aD (aN 6<|eL<|bx (c5<|eW 5) 1 [0,1,2,4] (aH 0) b8<|aj (br n)<|aV 1<|aV 2<|ai (aj KH.bS<|aV 3<|aV 4<|aV 0 ag) ag)<|aJ<|cm<|ai (eC<|.str [101,97,99,104])<|aV 4<|ai (eU gw<|eW 6) ag) [v (ay xs),v (cf rows C xs),v (aq xs),v (.lst<|(k0::kr).map λ k=>D.int (k:Nat)),vi (k:Nat),x5,x6]) Q)->Ok (d9 (br n) [v (ay xs),v (cf rows C xs),v (aq xs),At,At,At,At]) Q:=λ Q hQ=>by
    let el:zints 0 xs.n=(EQ xs.n).map λ k=>D.int (k:Nat):=by rw[ints_map];show B13 λ j _=>by rw[Int.zero_add]
    simp[d9,a_,cV,cq,line,J9,hl];rw[el];show bF (λ k:Nat=>D.int (k:Nat)) (kO xs) (λ k=>D.int (k:Nat)) (xs:=EQ xs.n) (λ j hj=>?_) ?_
    .let A_:j<xs.n:=A25.mp hj;obtain⟨⟨g',o⟩,e⟩:∃x,xs[j]?=AC x:=(_,A04 A_,)
     let ix:bf (aq xs) (.int (j:Nat))=.ok (bB o):=(da (xs:=xs.map λ y:GO=>bB y.2) (i:=j) (j:=j) rfl (by rw[A06,e];rfl)).1;cases o with
     |none=>simp[ix,bB,kO,e]
     |some p=>let en:gj (aG p)=.ok (.bl AT):=rfl;simp[ix,bB,en,kO,e]
    .rw[hks];let:=hQ At At;let e4:=ex At At At;erw[A00]at this e4 ⊢;simp[e4];simpa[a_,cV,cq,line]using this
   by_cases h0:a7 rows C xs g k=[]
   .refine⟨.tup [.str fT,.int (k:Nat)],?_,λ m=>?_,?_,rfl⟩
    .rw[kF];show aA<|start _ λ x5 x6=>?_;rw[h0]at so;let e0:=YK [];erw[A28,List.isEmpty_nil]at so e0;simp[so,e0,line];rfl
    .cases m with
     |zero=>trivial
     |succ m=>show .inr<|.inr<|.inl ⟨_,_,rfl⟩
    .simp[cD,isStr,hw,hk,h0]
   .let abE:(a7 rows C xs g k).isEmpty=AT:=by
     cases q:a7 rows C xs g k with
     |nil=>show absurd q h0
     |cons a r=>rfl
    show(.tup [.str jG,.int (k:Nat),.tup ((a7 rows C xs g k).map f)],?_,λ m=>?_,?_,rfl,)
    .rw[kF];show aA<|start _ λ x5 x6=>?_;let e0:=YK<|a7 rows C xs g k;rw[abE]at e0;let Tz:(a7 rows C xs g k).length<=16777216:=by lia
     generalize a7 rows C xs g k=op at so X6 hf e0 Tz;simp[so,e0,line,a_,cV,cq,Tz];show bF aG (λ _=>Ch) f (xs:=op) (λ p hp=>?_) ?_
     .simp[(kM h6 hk p).1,(hf p hp).1]
     .rw[j6];simp[line];rfl
    .cases m with
     |zero=>trivial
     |succ m=>show .inr<|.inr<|.inr ⟨_,_,_,rfl,λ ps e=>?_⟩;ext e;show⟨by rw[A08];lia,λ q hq=>?_⟩;let(p,hp,rfl):=A07.mp hq;show(hf p hp).2.1 m
    .let za:fu (λ p e=>cD rows C n (xs.set k (g,AC p)) e) (a7 rows C xs g k) ((a7 rows C xs g k).map f)=Ch:=kL λ j p e hj he=>by rw[A06,hj]at he;ext he;show(hf p<|A21 hj).2.2
     simp[cD,isStr,hw,hk,za]
def zz(H:Hall rows C)(h6:xs.n<=6)(hg:∀x∈xs,GOk x.1)(hk:Good rows xs)(hw:aK rows C xs<=2000)(ef:a6 [aT rows,ay xs,fd]=.ok (aq xs)):
 (cn rows C AT xs xs.length≠[]/\dY [aT rows,ay xs,fd]=.ok .non)\/(cn rows C AT xs xs.n=[]/\∃d,dY [aT rows,ay xs,fd]=.ok d/\(∀m,rf m d)/\cD rows C 9 xs d=Ch/\iF d=.ok (.bl Ch)):=by
 let fo:=Kk H h6 hg hk hw ef;let ap:=mK H h6 hg;cases e:cn rows C AT xs _ with
 |cons z r=>rw[e]at fo;dsimp only at fo;show .inl ⟨by simp,?_⟩;rw[qD];show aA ?_;let en:iF (aq z)=.ok _:=rfl;simp[j?,fo,en]
 |nil=>
  rw[e]at fo;dsimp only at fo;let hn:nN xs<9:=by let:nN xs<=xs.n:=C79;lia
  let(d,e1,e2,e3,e4):=IT H 9 xs h6 hg hn hk (F7 H hg e);show .inr ⟨rfl,d,?_,e2,e3,e4⟩;rw[qD];show aA ?_;let en:iF D.non=.ok _:=rfl;simp[j?,fo,ap,ef,e1]
def Gb(H:Hall rows C)(h6:xs.n<=6)(hg:∀x∈xs,GOk x.1)(ef:a6 [aT rows,ay xs,fd]=.ok (aq xs))(hp:rf 9 d):cu [aT rows,ay xs,d,fd]=.ok (.bl<|cD rows C 9 xs d):=by
 rw[Co];show aA ?_;let hn:nN xs<9:=by let:nN xs<=xs.n:=C79;lia
 simp[p_,ef,mK H h6 hg,NW H 9 xs d h6 hn hp]
end KC
namespace KB
open Z KG
open KH
variable{k:Nat}
def E2(H:Hall rows C)(h6:xs.n<=6)(hg:∀x∈xs,cX x.1)(hk:Good rows xs)(hw:aK rows C xs<=2000)(ef:a6 [aT rows,ay xs,fd]=.ok (aq xs)):
 (cn rows C AT xs xs.n=[]/\bC [aT rows,ay xs,fd]=.ok .non)\/∃m,bC [aT rows,ay xs,fd]=.ok (aq m)/\iX rows C xs m:=by
 let Oy:=λ x hx=>(hg x hx).toGOk;let hi:=og (C:=C) (sm:=AT) hk<|P3 _;let fr:=ED (sm:=AT) H h6 Oy hk hw;let sm:=zm H h6 Oy ef hw;cases e:cn rows C AT xs _ with
 |nil=>rw[e]at fr;erw[A28]at fr;show .inl ⟨rfl,?_⟩;rw[lz];show aA ?_;simp[gZ,sm,fr,G']
 |cons b r=>show .inr ⟨_,?_,E1 H Oy hk e⟩;rw[e]at hi fr;let am:=Lm h6 hg λ z hz=>(hi z hz).gs;rw[lz];show aA ?_;erw[A00]at am fr;simp[gZ,sm,fr,am]
def Ext.good(e:Ext xs m)(h:Good rows m):Good rows xs:=h.sub e.sub
def Ext.put(e:Ext xs m)(hk:m[k]?=AC (g,o)):Ext (xs.set k (g,o)) m:=by
 let hl:=(A02.mp hk).1;let X':k<xs.n:=by rw[e.len];show hl
 show(?_,λ i g' p h=>?_,)
 .rw[<-e.gs,B25];let h1:(xs.map (·.1))[k]?=AC g:=by rw[e.gs,A06,hk];rfl
  show B54 λ i=>?_;rw[A36];split
  .rename_i q;subst q;rw[M2 (by rw[A08];show X'),h1]
  .rfl
 .rw[A36]at h;split at h
  .rename_i q;subst q;first|(rw[M2]at h;rw[hk,h])|rw[hk,h]
  .exact e.sub i g' p h
def Ext.Su(e:Ext xs m)(hk:m[k]?=AC (g,o))(h:Ext (xs.set k (g,o)) z):Ext xs z:=by
 let hl:=(A02.mp hk).1;let X':k<xs.n:=by rw[e.len];show hl
 show(?_,λ i g' p q=>?_,)
 .rw[e.gs,<-(e.put hk).gs,h.gs]
 .by_cases c:k=i
  .subst c;let:=e.sub k g' p q;rw[hk]at this;show h.sub k g' p ?_;rw[A36,M2 rfl,M2 X',this]
  .exact h.sub i g' p (by rw[A36,W1 c];show q)
def iX.put(h:iX rows C xs m)(hk:m[k]?=AC (g,o)):iX rows C (xs.set k (g,o)) m:=
 ⟨h.ext.put hk,h.good,h.full,λ z e gz fz=>h.most z (h.ext.Su hk e) gz fz⟩
def ph{α:Type}(l:U α)(k j:Nat):(l.eraseIdx k)[j]?=l[if j<k then j else j+1]?:=by rw[List.getElem?_eraseIdx];split<;>rfl
def m_{α β:Type}(f:α->β):∀(l:U α) k,(l.eraseIdx k).map f=(l.map f).eraseIdx k
|[],_=>rfl
|_::_,0=>rfl
|a::l,k+1=>A14 _<|m_ f l k
def Ext.erase(e:Ext xs m)(k:Nat):Ext (xs.eraseIdx k) (m.eraseIdx k):=by show⟨by rw[m_,m_,e.gs],λ i g p h=>?_⟩;rw[ph]at h ⊢;show e.sub _ g p h
def tu(h:Good rows m)(k:Nat):Good rows (m.eraseIdx k):=by intro i g p e;rw[ph]at e;let(h1,h2):=h _ g p e;show(h1,λ j g' q ej ne=>?_,);rw[ph]at ej;show h2 _ g' q ej ?_;split<;>split<;>lia
def Full.erase(h:Full m)(k:Nat):Full (m.eraseIdx k):=λ i g e=>by rw[ph]at e;show h _ g e
def qm:∀l k,(∀n∈l,0<n)->bJ (l.eraseIdx k)<=bJ l
|[],_,_=>P3 _
|n::l,0,h=>by rw[List.eraseIdx_cons_zero];show Nat.le_mul_of_pos_left _<|h n A13
|n::l,k+1,h=>by rw[C06];show Nat.mul_le_mul_left _<|qm l k λ q hq=>h q<|A09 _ hq
def Bo(xs:U GO)(k:Nat):aK rows C (xs.eraseIdx k)<=aK rows C xs:=by
 unfold aK;rw[m_];show qm _ _ λ n hn=>by let(x,_,rfl):=A07.mp hn;show rS rows C x
def yK:∀{xs}{k}{x} p,xs[k]?=AC x->aK rows C (xs.set k (x.1,AC p))<=aK rows C xs
|[],_,_,_,h=>by ext h
|y::r,0,x,p,h=>by change bJ _<=bJ (cw rows C y::r.map _);let:cw rows C (x.1,AC p)=1:=rfl;erw[bJ];show A88 _<|rS rows C y
|y::r,k+1,x,p,h=>by show Nat.mul_le_mul_left _<|yK p h
def BR(H:Hall rows C)(hg:∀x∈xs,GOk x.1)(h:iX rows C xs m)(k:Nat):cn rows C AT (xs.eraseIdx k) (xs.eraseIdx k).length≠[]:=by intro e;let:=oX H (λ x hx=>hg x<|B55 hx) (h.ext.erase k) (tu h.good k)<|Full.erase h.full k;rw[e]at this;ext this
structure iU(rows:Rows)(C:Nat)(xs m:List GO):Prop where
 six:xs.n<=6
 OE:∀x∈xs,cX x.1
 names:(xs.map (·.1.name)).Nodup
 few:aK rows C xs<=250
 best:iX rows C xs m
def iU.good(s:iU rows C xs m):Good rows xs:=s.best.ext.good s.best.good
def iU.tell(H:Hall rows C)(s:iU rows C xs m):bC [aT rows,ay xs,aq xs]=.ok (aq m):=by
 let Oy:=λ x hx=>(s.OE x hx).toGOk;rcases E2 H s.six s.OE s.good (A15 s.few ∅) (vY H s.six Oy s.good)with⟨e,_⟩|⟨m',e,b⟩
 .let:=oX H Oy s.best.ext s.best.good s.best.full;rw[e]at this;ext this
 .rw[e,s.best.uniq b]
def iU.fast(s:iU rows C xs m)(hk:m[k]?=AC (g,AC p)):iU rows C (xs.set k (g,AC p)) m:=by
 obtain⟨x,hx⟩:∃x,xs[k]?=AC x:=by
  let:k<xs.n:=by rw[s.best.ext.len];show(A02.mp hk).1
  show(_,A04 this,)
 let ex:x.1=g:=by let:=A14 (λ l=>l[k]?) s.best.ext.gs;erw[A06,hx,hk,A68,B02]at this;show this
 subst ex;let em:(xs.set k (x.1,AC p)).map (·.1)=xs.map (·.1):=by rw[(s.best.ext.put hk).gs,s.best.ext.gs]
 show⟨by rw[AC0];show s.six,λ y hy=>?_,?_,A15 (yK p hx) s.few,s.best.put hk⟩
 .let:y.1∈(xs.set k (x.1,AC p)).map _:=A07.mpr ⟨y,hy,rfl⟩;rw[em]at this;let(z,hz,e):=A07.mp this;rw[<-e];show s.OE z hz
 .let e2:(xs.set k (x.1,AC p)).map (·.1.name)=((xs.set k (x.1,AC p)).map (·.1)).map (·.name):=by rw[A24];rfl
  rw[e2,em,A24];show s.j
def iU.away(H:Hall rows C)(s:iU rows C xs m)(k:Nat):∃m',iU rows C (xs.eraseIdx k) m':=by
 let Oy:=λ x hx=>(s.OE x hx).toGOk;let hg':∀x∈xs.eraseIdx k,GOk x.1:=λ x hx=>Oy x<|B55 hx;let gd:=tu s.good k;let nz:=BR H Oy s.best k;cases e:cn rows C AT _ (xs.eraseIdx k).length with
 |nil=>show(nz e).elim
 |cons b r=>show(_,A15 (by rw[dL];split<;>lia) s.six,λ x hx=>s.OE x<|B55 hx,?_,A15 (Bo xs k) s.few,E1 H hg' gd e,);rw[m_];show s.names.sublist<|List.eraseIdx_sublist ..
end KB
namespace KB
open Z KG
open KH
variable{rows:Rows}{C:Nat}{xs m z y:U GO}{k:Nat}{g:G}{x:GO}{p:Pl}
def yx(rows:Rows)(C:Nat)(x:GO):U Pl:=match x.2 with
|some p=>[p]
|none=>places rows C x.1
def yz(z:U GO)(g:G)(p:Pl):Bool:=z.all λ y=>match y.2 with
|some q=>bG y.1 q g p
|none=>Ch
def Sz(rows:Rows)(C:Nat)(L:U (U GO))(x:GO):U (U GO):=L.flatMap λ z=>((yx rows C x).filter<|yz z x.1).map λ p=>z++[(x.1,AC p)]
def gy(rows:Rows)(C:Nat)(xs:U GO):U (U GO):=xs.foldl (Sz rows C) [[]]
def b!{α:Type}{l:U α}{a b:α}{i:Nat}:(l++[a])[i]?=AC b↔l[i]?=AC b\/(i=l.n/\a=b):=by
 by_cases h:i<l.n
 .rw[A23 h];show⟨.inl,λ q=>q.elim id λ q=>by lia⟩
 .rw[A46 ∅,B16 (l:=l) ∅];cases e:i-l.n with
  |zero=>show⟨λ q=>.inr ⟨by lia,f8 q⟩,λ q=>q.elim (λ q=>by ext q) λ q=>by rw[q.2];rfl⟩
  |succ n=>show⟨λ q=>(by ext q),λ q=>q.elim (λ q=>by ext q) λ q=>by lia⟩
def ja{α:Type}{P:U α->Prop}(h0:P [])(h1:∀l a,P l->P (l++[a]))(l:U α):P l:=by
 rw[<-l.reverse_reverse]
 induction l.reverse with
 |nil=>show h0
 |cons a l ih=>rw[List.reverse_cons];show h1 _ _ ih
def jB(xs:U GO)(x:GO):gy rows C (xs++[x])=Sz rows C (gy rows C xs) x:=by simp[gy,List.foldl_append]
def D'{L:U (U GO)}:z∈Sz rows C L x↔∃y∈L,∃p,p∈yx rows C x/\yz y x.1 p=Ch/\z=y++[(x.1,AC p)]:=by
 erw[Sz,B06,A07,A44];constructor
 .rintro⟨y,hy,p,⟨h1,h2⟩,rfl⟩;show(y,hy,p,h1,h2,rfl,)
 .rintro⟨y,hy,p,h1,h2,rfl⟩;show(y,hy,p,(h1,h2,),rfl,)
def B0(h:yz y g p=Ch){i:Nat}{h':G}{q:Pl}(e:y[i]?=AC (h',AC q)):bG h' q g p=Ch:=A30.mp h _<|A21 e
def Good.init(h:Good rows (xs++[x])):Good rows xs:=λ i g p e=>by let(h1,h2):=h i g p (b!.mpr<|.inl e);show(h1,λ j g' q ej ne=>h2 j g' q (b!.mpr<|.inl ej) ne,)
def FC(hy:Good rows y)(hf:bZ rows g p=Ch)(ho:yz y g p=Ch):Good rows (y++[(g,AC p)]):=λ i g1 p1 e=>by
 rcases b!.mp e with e1|⟨e0,e1⟩
 .refine⟨(hy i g1 p1 e1).1,λ j g2 q ej ne=>?_⟩;rcases b!.mp ej with e2|⟨_,e2⟩
  .exact(hy i g1 p1 e1).2 j g2 q e2 ne
  .ext e2;show B0 ho e1
 .ext e1;show(hf,λ j g2 q ej ne=>?_,);rcases b!.mp ej with e2|⟨e3,_⟩
  .rw[l0];show B0 ho e2
  .exact(ne<|e3.trans e0.a).elim
def B':∀{xs:U GO},Good rows xs->∀z∈gy rows C xs,Ext xs z/\Good rows z/\Full z:=by
 intro xs
 induction xs using ja with
 |h0=>intro _ z hz;rw[A11.mp hz];show⟨⟨rfl,λ i g p e=>by ext e⟩,λ i g p e=>(by ext e),λ i g e=>by ext e⟩
 |h1 xs x ih=>
  intro hk z hz;rw[jB]at hz;let(y,hy,p,hp,ho,rfl):=D'.mp hz;let(e1,e2,e3):=ih (Good.init hk) y hy;let hf:bZ rows x.1 p=Ch:=by
   unfold yx at hp;split at hp
   .rename_i q e;rw[A11.mp hp];show(hk xs.length x.1 q<|b!.mpr<|.inr ⟨rfl,by rw[<-e]⟩).1
   .exact(A44.mp hp).2
  show(⟨by simp[e1.gs],λ i g q e=>?_⟩,FC e2 hf ho,λ i g e=>?_,)
  .rcases b!.mp e with h|⟨h,h'⟩
   .exact b!.mpr<|.inl<|e1.sub i g q h
   .subst h';rw[A11.mp hp];show b!.mpr<|.inr ⟨h.trans e1.len,rfl⟩
  .rcases b!.mp e with h|⟨_,h⟩
   .exact e3 i g h
   .ext h
def Ef(H:Hall rows C):∀{xs:U GO}(z:U GO),(∀x∈xs,GOk x.1)->Ext xs z->Good rows z->Full z->z∈gy rows C xs:=by
 intro xs
 induction xs using ja with
 |h0=>intro z _ e _ _;rw[A97 e.len.a];show A11.mpr rfl
 |h1 xs x ih=>
  intro z hg e gz fz;let hl:=e.len;rw[A38,C57]at hl;obtain⟨y,w,rfl⟩:∃y w,z=y++[w]:=(z.dropLast,z.getLast (λ h=>by rw[h]at hl;ext hl),(C80 _).symm,)
  let yB:xs.n=y.n:=by simpa using hl
  let eg:xs.map (·.1)=y.map (·.1)/\x.1=w.1:=by let:=e.gs;erw[A26,A00,A28]at this;let:=List.append_inj this (by calc yB);show⟨this.1,by calc this.2⟩
  let(g,o):=w;cases o with
  |none=>show(fz y.length g<|b!.mpr<|.inr ⟨rfl,rfl⟩).elim
  |some p=>
   let(f,ap):=gz y.length g p (b!.mpr<|.inr ⟨rfl,rfl⟩);let hx:x.1=g:=eg.2;rw[jB];show D'.mpr ⟨y,ih y (λ a ha=>hg a (by simp[ha])) ⟨eg.1,λ i g' q ei=>?_⟩ (Good.init gz) λ i g' ei=>fz i g'<|b!.mpr<|.inl ei,p,?_,?_,by rw[hx]⟩
   .rcases b!.mp (e.sub i g' q<|b!.mpr<|.inl ei)with h|⟨rfl,_⟩
    .exact h
    .let:=(A02.mp ei).1;lia
   .unfold yx;split
    .rename_i q eq;rcases b!.mp (e.sub xs.length x.1 q<|b!.mpr<|.inr ⟨rfl,by rw[<-eq]⟩)with h|⟨_,h⟩
     .let:=(A02.mp h).1;lia
     .ext h;show A11.mpr rfl
    .rw[hx];show tL H (by rw[<-hx];show hg x ∅) f
   .refine A30.mpr λ a ha=>?_;let(i,hi):=A87 ha;let(g',o'):=a;cases o' with
    |none=>rfl
    |some q=>let:=ap i g' q (b!.mpr<|.inl hi) (λ h=>by let:=(A02.mp hi).1;lia);rw[l0]at this;rw[hx];show this
def MH{a b:U GO}(x y:GO)(h:JI a b):JI (a++[x]) (b++[y]):=by let(i,g,o,o',h1,h2,h3,h4):=h;let l1:=(A02.mp h2).1;let l2:=(A02.mp h3).1;show⟨i,g,o,o',λ j hj=>by rw[A23 ∅,A23 ∅];show h1 j hj,b!.mpr<|.inl h2,b!.mpr<|.inl h3,h4⟩
def B9:∀xs:U GO,(gy rows C xs).Pairwise JI:=by
 intro xs
 induction xs using ja with
 |h0=>show C81 _ _
 |h1 xs x ih=>
  rw[jB];show C77.mpr ⟨λ y _=>?_,ih.imp λ {a b} h u hu v hv=>?_⟩
  .refine B53.mpr<|List.Pairwise.filter _ ?_;let hs:(yx rows C x).Pairwise Hi:=by
    unfold yx;split
    .exact C81 _ _
    .exact mw _ _ _
   show hs.imp λ {p q} h=>⟨y.n,x.1,AC p,AC q,λ j hj=>by rw[A23 hj,A23 hj],b!.mpr<|.inr ⟨rfl,rfl⟩,b!.mpr<|.inr ⟨rfl,rfl⟩,h⟩
  .let(p,_,rfl):=A07.mp hu;let(q,_,rfl):=A07.mp hv;show MH _ _ h
def z!(H:Hall rows C)(hg:∀x∈xs,GOk x.1)(hk:Good rows xs){b:U GO}{r:U (U GO)}(e:gy rows C xs=b::r):iX rows C xs (bV Ch wS b r):=by
 let hi:=B' (C:=C) hk;let so:=B9 (rows:=rows) (C:=C) xs;rw[e]at hi so;let J5:bV Ch wS b r∈b::r:=by
  rcases jx r b with h|h
  .rw[h];show A13
  .exact A09 _ h
 let(h1,h2):=iw (w:=wS) r b;let(a1,a2,a3):=hi _ J5;show(a1,a2,a3,λ z ez gz fz=>?_,);let hz:=Ef H z hg ez gz fz;rw[e]at hz;show(?_,sG so z hz,);rcases A01.mp hz with rfl|h
 .exact h1
 .exact h2 z h
def Mi(z:U GO)(g:G)(p:Pl):wS (z++[(g,AC p)])=wS z+C8 g p.1:=by simp[wS,wO]
end KB
set_option maxRecDepth 4000
namespace KM
open Z KG KH
def fK:SF:=(aD (aN 2<|eB aS (eI 1)<|eB oMod (eW 0)<|eI 2147483646)<|aD (jv 3<|bq ag)<|aD (eS (dF<|eV 1) (aH 4)<|aD (aN 2<|eB oMod (eB eP (eW 2)<|eI 16807)<|eI 2147483647)<|b9 3<|eB oMod (eB eP (eB oMod (eB eP (eB aS (eW 2)<|eI 7)<|eI 69621)<|eI 2147483629)<|eI 39373)<|eI 2147483587)<|oh 3<|aJ<|eV 3)
def cP:U D->Res D:=fn 2 5 fK
def xW(x0 x1:D):cP [x0,x1]=a! (fK [AC (.val x0),AC (.val x1),At,At,At]):=bR _ _ _ _ rfl
def fh:SF:=(aD (aN 1<|eC<|.str aL)<|aJ<|eB aS (eB bf (eW 1)<|eB oMod (eW 0)<|eI 26)<|eB bf (eW 1)<|eB oMod (eB aS (eB aS (eW 0)<|eI 1)<|eB oMod (eB oDiv (eW 0)<|eI 26)<|eI 25)<|eI 26)
def cF:U D->Res D:=fn 1 2 fh
def tP(x0:D):cF [x0]=a! (fh [AC (.val x0),At]):=bR _ _ _ _ rfl
end KM
set_option maxRecDepth 8000
namespace KM
open Z KG KH
def sA{nums:U Int}(hs:sg.n<=100)(hsg:∀c∈sg,c∈signs)(hn:∀x∈nums,0<=x/\x<sg.n)(hl:nums.n=R*C)(hR:R<=6)(hC:C<=12){b:SF}{Q:Fl->Prop}
 (hb:b=b9 7 (eB qq (eC<|.str [])<|eL<|bx (c5<|eL<|Qt (eW 6) (qp<|eB eP (eW 8)<|eW 3)<|qp<|eB eP (eB aS (eW 8)<|eI 1)<|eW 3) 1 [5] (aH 0) b8<|eY 1 0))
 (x0 x1 x2 x4:ε L) (hQ:∀rows x,jn C R rows->Q (.nx [x0,x1,x2,vi C,x4,vs sg,v (.lst<|nums.map .int),ow (rows.map .str),x])) :
 Ok (bM (aH 8) b (zints 0 R) [x0,x1,x2,vi C,x4,vs sg,v (.lst<|nums.map .int),ow [],At]) Q:=by
 subst hb;show eQ (λ i Y=>∃rows x,jn C i rows/\Y=[x0,x1,x2,vi C,x4,vs sg,v (.lst<|nums.map .int),ow (rows.map .str),x]) ⟨[],At,jn.nil C,rfl⟩ ?_ ?_
 .rintro i d Y hi ⟨rows,x,jE,rfl⟩;let(rC,rfl):=ints_get hi;let q1:bN (i:Int) (C:Int):=c7 ∅ ∅;let q2:bN ((i:Int)+1) (C:Int):=c7 ∅ ∅;let hle:(i+1)*C<=nums.n:=by rw[hl];show A88 C rC
  let kD:=CC nums hle;let TZ:(cut nums (AC<|(i:Int)*C)<|some<|((i:Int)+1)*C).length<=16777216:=by lia
  let hrl:rows.n<16777216:=by rw[jE.1];lia
  simp[a_,Qs,q1,q2,line,cV,cq,Pd,TZ];generalize J0:cut nums (AC<|(i:Int)*C) (AC<|((i:Int)+1)*C)=ns at kD TZ;let key:∀x:Int,∃q,(0<=x/\x<sg.n)->q∈signs/\bf (.str sg) (.int x)=.ok (.str [q]):=λ x=>by
   by_cases h:0<=x/\x<sg.n
   .let(c,hc,e):=sX h.1 h.2 (by erw[line];lia);show(c,λ _=>(hsg c hc,e,),)
   .exact⟨0,λ h'=>absurd h' h⟩
  let kq:∃q:Int->Nat,∀x:Int,(0<=x/\x<sg.n)->q x∈signs/\bf (.str sg) (.int x)=.ok (.str [q x]):=(λ x=>(key x).choose,λ x=>(key x).choose_spec,)
  let(q,hq):=kq;let Cf:∀x∈ns,0<=x/\x<sg.n:=λ x hx=>hn x<|Z.D!<|J0▸hx;show bF D.int (λ _=>Ch) (λ x=>.str [q x]) ?_ ?_
  .intro x hx;simp[(hq x<|Cf x hx).2]
  .rw[j6];let e1:ns.map (λ x=>D.str [q x])=(ns.map λ x=>[q x]).map D.str:=by rw[A24];rfl
   let e2:(ns.map λ x=>[q x]).flatten=ns.map q:=by
    clear kD TZ J0 Cf e1
    induction ns with
    |nil=>rfl
    |cons a as ih=>simp[ih]
   rw[e1,vE (by rw[e2,A08];lia),e2];simp[hrl];show⟨rows++[ns.map q],jE.add ⟨by rw[A08];show kD,?_⟩,by simp⟩;intro c hc;let(x,hx,rfl):=A07.mp hc;show(hq x<|Cf x hx).1
 .rintro Y ⟨rows,x,jE,rfl⟩;rw[fX]at jE;show hQ rows x jE
def Jz(c:Int)(hn:n<=1000):∃ms:U Int,ms.n=n/\(∀m∈ms,0<=m/\m<2147483587)/\cP [.int c,.int n]=.ok (.lst<|ms.map .int):=by
 let q1:∀x,bN x 16807:=λ x=>fB ∅ ∅;let q2:∀x,bN x 69621:=λ x=>fB ∅ ∅;let q3:∀x,bN x 39373:=λ x=>fB ∅ ∅;let:Ok (a!<|fK [v (.int c),v (.int n),At,At,At]) λ d=>∃ms:U Int,ms.n=n/\(∀m∈ms,0<=m/\m<2147483587)/\d=.lst (ms.map .int):=by
  show pL ?_;simp[fK];show eQ (λ i Y=>∃ms z x,ms.n=i/\(∀m∈ms,0<=m/\m<2147483587)/\Y=[vi c,vi n,vi z,ow (ms.map .int),x]) ⟨[],_,At,rfl,by simp,rfl⟩ ?_ ?_
  .rintro i d Y hi ⟨ms,z,x,hl,hp,rfl⟩;let(rC,rfl):=ints_get hi;let jO:ms.n<16777216:=by lia
   simp[q1,q2,q3,line,jO];show⟨ms++[(z*16807 % 2147483647+7)*69621 % 2147483629*39373 % 2147483587],by simp[hl],?_,by rw[A26];rfl⟩;intro m hm;rcases A37.mp hm with h|h
   .exact hp m h
   .simp at h;rw[h];show(B84 _ ∅,B83 _ ∅,)
  .rintro Y ⟨ms,z,x,hl,hp,rfl⟩;rw[fX]at hl;simp;show(ms,hl,hp,rfl,)
 rw[<-xW]at this;let(d,e,ms,h1,h2,rfl):=this;show(ms,h1,h2,e,)
def zY(z:Int):∃a b,a∈aL/\b∈aL/\cF [.int z]=.ok (.str [a,b]):=by let(a,ha,ea):=vP z;let(b,hb,eb):=vP (z+1+z / 26 % 25);show(a,b,ha,hb,?_,);rw[tP];show aA ?_;simp[fh,bD,ea,eb,line]
end KM
set_option maxRecDepth 4000
namespace KN
open Z KG KH KM
def f_:SF:=(aD (jv 2<|bq ag)<|aD (eS (dF<|eB aS (eB mW (eU bj<|eW 0)<|eX 1 2)<|eI 1) (aH 3)<|eS (dF<|eB aS (eB mW (eU bj<|eX 0 0)<|eX 1 1)<|eI 1) (aH 4)<|aD (aN 5<|eB qq (eC<|.str [])<|eL<|bx (c5<|Cw (eW 0) (qp<|eW 3)<|qp<|eB aS (eW 3)<|eX 1 2) 1 [4,1] (aH 0) b8<|Cw (eW 0) (qp<|eW 1)<|qp<|eB aS (eW 1)<|eX 2 1)<|aD (aN 6<|eL<|bx (c5<|eW 5) 1 [1] (aH 0) (n8 (tE<|eB oH (eW 0)<|eC<|.str [46,61])<|tE<|eB l_ (eW 0)<|eX 1 3)<|eV 0)<|dN (n8 (tE<|eB oEq (eW 6)<|eL<|bq ag)<|tE<|eB Vk (eB vF (eW 5)<|eC<|.str [61])<|eX 1 4) (b9 2<|cm<|aV 3<|aV 4 ag) aR)<|oh 2<|aJ<|eV 2)
def bT:U D->Res D:=fn 2 7 f_
def uT(x0 x1:D):bT [x0,x1]=a! (f_ [AC (.val x0),AC (.val x1),At,At,At,At,At]):=bR _ _ _ _ rfl
end KN
set_option maxRecDepth 8000
namespace KN
open Z KG KH KM
def NG{α:Type}{xs:U α}(h:xs.n=9):∃a b c d e f g i j,xs=[a,b,c,d,e,f,g,i,j]:=by
 let u:∀{n:Nat}{l:U α},l.n=n+1->∃a t,l=a::t/\t.n=n:=λ {n l} e=>by cases l with|nil=>ext e|cons a t=>show(a,t,rfl,A27 e,)
 let(a,_,rfl,k1):=u h;let(b,_,rfl,k2):=u k1;let(c,_,rfl,k3):=u k2;let(d,_,rfl,k4):=u k3;let(e,_,rfl,k5):=u k4;let(f,_,rfl,k6):=u k5;let(g,_,rfl,k7):=u k6;let(i,_,rfl,k8):=u k7;let(j,_,rfl,k9):=u k8;obtain rfl:=A97 k9;show(a,b,c,d,e,f,g,i,j,rfl,)
def Jn(H:Hall rows C)(k:GOk g){r c:Nat}(h:(rows.n)<(r:Int)+g.d\/(C)<(c:Int)+g.w):bZ rows g ((r),(c))=AT:=by
 let w1:=k.w1;let d1:=k.d1;rcases h with h1|h2
 .refine tN (s:=((r)+((g.d-1:Nat)),(c)+((0)))) (vL (p:=((r),(c))) (i:=g.d-1) (j:=0) ∅ ∅) ?_;unfold Z2;rw[sr H (by simp only;lia)];rfl
 .refine tN (s:=((r)+((0)),(c)+((g.w-1:Nat)))) (vL (p:=((r),(c))) (i:=0) (j:=g.w-1) ∅ ∅) ?_;unfold Z2;rw[sr H (by simp only;lia)];rfl
def Dw(f:Pl->Bool)(r:Nat){n:Nat}:∀m,n<=m->(∀c,n<=c->c<m->f ((r),(c))=AT)->(c_ r m).filter f=(c_ r n).filter f:=by
 intro m
 induction m with
 |zero=>
  intro h _;let:n=0:=by lia
  subst this;rfl
 |succ m ih=>
  intro h hf;by_cases e:n=m+1
  .rw[e]
  .let e3:c_ r (m+1)=c_ r m++[((r:Int),(m:Int))]:=by simp[c_,A85]
   rw[e3,B24,ih ∅ λ c h1 h2=>hf c h1 ∅];simp[hf m ∅ ∅]
def Pz(f:Pl->Bool)(C:Nat){n:Nat}:∀m,n<=m->(∀r c,n<=r->r<m->c<C->f ((r),(c))=AT)->(gi m C).filter f=(gi n C).filter f:=by
 intro m
 induction m with
 |zero=>
  intro h _;let:n=0:=by lia
  subst this;rfl
 |succ m ih=>
  intro h hf;by_cases e:n=m+1
  .rw[e]
  .rw[iT,B24,ih ∅ λ r c h1 h2=>hf r c h1 ∅];let:(c_ m C).filter f=[]:=by rw[Dw f m C (A57 _) λ c _ h2=>hf m c ∅ ∅ h2];rfl
   rw[this,A52]
def seen(rows:Rows)(r c w d:Nat):U Nat:=(((rows.drop r).take d).map λ row=>(row.drop c).take w).flatten
def FF(h:rows[r+d]?=AC row):seen rows r c w (d+1)=seen rows r c w d++(row.drop c).take w:=by unfold seen;rw[take_snoc (by rw[C42];show h),A26,List.flatten_append];simp
def mR(H:Hall rows C)(hc:c+w<=C):∀d,r+d<=rows.n->(seen rows r c w d).map AC=(hZ w ((r),(c)) d).map (bU rows)
|0,_=>by simp[seen,hZ]
|d+1,hd=>by
 let(row,er,hl,_):=H.row (r:=r+d) ∅;let rs:=FI H er hc;let e:((r+d:Nat))=(r:Int)+(d):=by lia
 rw[e]at rs;rw[FF er,A26,mR H hc d ∅,rs,kS,A26]
def Kt(xs:U D):oEq (.lst xs) (.lst [])=.ok (.bl xs.isEmpty):=by ext xs<;>rfl
def GB(H:Hall rows C)(hr:r+g.d<=rows.n)(hc:c+g.w<=C):bZ rows g ((r),(c))=(((seen rows r c g.w g.d).filter λ x=>!cb g.kind (AC x)).isEmpty&&decide (g.wide<=(seen rows r c g.w g.d).count 61)):=by
 let hs:=mR H hc g.d hr;generalize seen rows r c g.w g.d=sg at hs ⊢;unfold bZ;let acQ:(seats g ((r),(c))).all (λ s=>cb g.kind<|bU rows s)=sg.all λ c=>cb g.kind (AC c):=by
  let h1:(seats g ((r),(c))).all (λ s=>cb g.kind<|bU rows s)=((seats g ((r),(c))).map<|bU rows).all (cb g.kind):=by rw[B69];rfl
  rw[h1,show seats g ((r),(c))=hZ g.w ((r),(c)) g.d from rfl,<-hs,B69];rfl
 let acO:(seats g ((r),(c))).countP (vd rows)=sg.count 61:=by
  let h1:(seats g ((r),(c))).countP (vd rows)=((seats g ((r),(c))).map<|bU rows).countP (λ o=>o==AC 61):=by rw[AB7];rfl
  rw[h1,show seats g ((r),(c))=hZ g.w ((r),(c)) g.d from rfl,<-hs,AB7,List.count];show List.countP_congr λ x _=>?_;simp
 rw[acQ,acO]
 congr 1
 rw[A59,A30,B86,C49];show⟨λ h x hx=>by simp[h x hx],λ h x hx=>by let:=h x hx;calc this⟩
def K?{rows:Rows}(h:r+d<=rows.n):cut (rows.map D.str) (AC<|r) (AC<|(r)+d)=((rows.drop r).take d).map D.str:=by
 let n1:¬(r:Int)<0:=by lia
 let n2:¬(r:Int)+d<0:=by lia
 let e:((r:Int)+d).toNat=r+d:=by lia
 erw[cut,c6,n1,n2,A67,A69,e,A08];rw[A74 ∅,A74 ∅,C40,C38,C41]
def HQ(k:U Nat)(c:Nat):(!([46,61]).contains c&&!([c]==k))=!cb k (AC c):=by
 let:=ac5 k c;rw[<-this];let e1:∀n,(c==n)=decide (c=n):=λ n=>by rw[A59];simp
 rw[e1,e1];simp[AC5]
theorem tN!{n d R:Nat}(h:((n:Int)-d+1).toNat=R)(hd:1<=d):R<=n/\∀r,(r<R->r+d<=n)/\(R<=r->(n:Int)<(r:Int)+d):=by subst h;show⟨by lia,λ r=>⟨by lia,by lia⟩⟩
def pS(H:Hall rows C)(k:GOk g):bT [aT rows,aF g]=.ok (.lst<|(places rows C g).map aG):=by
 rw[uT];show aA ?_;let uN:=H.c2;let hr2:=H.r2;let w1:=k.w1;let d1:=k.d1;let w2:=k.w2;let d2:=k.d2;let(MU,Ow,e0):=H.MU;let Ov:C<=16777216:=by lia
 let hrn:rows.n<=16777216:=by lia
 obtain⟨R',Vy⟩:∃R',((rows.n:Int)-g.d+1).toNat=R':=(_,rfl,)
 obtain⟨C',Ez⟩:∃C',((C:Int)-g.w+1).toNat=C':=(_,rfl,)
 simp[f_,line,hrn,Vy];show eQ (λ i Y=>i<=R'/\∃x y z t,Y=[v (aT rows),v (aF g),ow (((gi i C).filter<|bZ rows g).map aG),x,y,z,t]) ⟨A57 _,At,At,At,At,rfl⟩ ?_ ?_
 .rintro i d Y hi ⟨_,x,y,z,t,rfl⟩;let(rC,rfl):=ints_get hi;simp[e0,Ow,line,Ov,Ez];show eQ (λ j Y=>j<=C'/\∃y z t,Y=[v (aT rows),v (aF g),ow (((gi i C++c_ i j).filter<|bZ rows g).map aG),vi (i:Nat),y,z,t]) ⟨A57 _,y,z,t,by simp[c_]⟩ ?_ ?_
  .rintro j d Y hj ⟨_,y,z,t,rfl⟩;let(A_,rfl):=ints_get hj;let e3:c_ i (j+1)=c_ i j++[((i:Int),(j:Int))]:=by simp[c_,A85]
   let h1:=A50 (bZ rows g)<|gi i C++c_ i j;rw[A38,l3,pK]at h1;let tr:=tN! Vy d1;let tc:=tN! Ez w1;let h3:i*C<=100*100:=A64 (A15 (A80 rC)<|A15 tr.1 hr2) uN;rw[e3,<-A77,B24<|gi i C++c_ i j];generalize (gi i C++c_ i j).filter (bZ rows g)=fs at h1 ⊢;let hri:=(tr.2 i).1 rC;let hcj:=(tc.2 j).1 A_
   let Yd:=GB H (g:=g) hri hcj;let ec:=K? hri;let esl:WX (aT rows) (AC (i:Int)) (AC<|(i:Int)+g.d)=.ok (.tup<|((rows.drop i).take g.d).map D.str):=by change Res.ok (D.tup<|cut (rows.map D.str) _ _)=_;rw[ec]
   let Ai:(seen rows i j g.w g.d).length=g.d*g.w:=by let:=A14 List.length<|mR H hcj g.d hri;simpa[mS]using this
   let hm:=A64 d2 w2;let hdl:((rows.drop i).take g.d).length<=16777216:=by rw[A33];show A15 (Nat.min_le_left _ _) (A15 d2 ∅)
   let ab5:min g.d (rows.n-i)<=16777216:=A15 (Nat.min_le_left _ _) (A15 d2 ∅)
   simp[esl,a_,cV,cq,line,ab5];rw[<-C41,<-C38];show bF D.str (λ _=>Ch) (λ row=>.str<|(row.drop j).take g.w) (xs:=(rows.drop i).take g.d) (λ row jE=>?_) ?_
   .let hrl:=H.len row<|List.mem_of_mem_drop<|C11 jE;let er:=Pc row (c:=j) (w:=g.w) ∅;let abt:row.n<=16777216:=by lia
    simp[line,er,abt]
   .rw [j6];let e1:((rows.drop i).take g.d).map (λ row=>D.str<|(row.drop j).take g.w)=(((rows.drop i).take g.d).map λ row=>(row.drop j).take g.w).map D.str:=by rw[A24];rfl
    let ej:=vE (ts:=((rows.drop i).take g.d).map λ row=>(row.drop j).take g.w) (by change(seen rows i j g.w g.d).length<=_;lia)
    rw[e1,ej];change Ok _ _;rw[show(((rows.drop i).take g.d).map λ row=>(row.drop j).take g.w).flatten=seen rows i j g.w g.d from rfl];let Cd:(seen rows i j g.w g.d).length<=16777216:=by lia
    generalize seen rows i j g.w g.d=sg at Yd Ai Cd ⊢;simp[a_,cV,cq,line,Cd];show bF (λ c=>.str [c]) (λ c=>!cb g.kind (AC c)) (λ c=>.str [c]) (xs:=sg) (λ x hx=>?_) ?_
    .let:=HQ g.kind x;let en:oH (.str [x]) (.str [46,61])=.ok (.bl<|!([46,61]:U Nat).contains x):=rfl;let em:l_ (.str [x]) (.str g.kind)=.ok (.bl<|!([x]==g.kind)):=rfl;rw[<-this];clear this;generalize (([46,61]:U Nat).contains x)=bb at en ⊢;generalize ([x]==g.kind)=b2 at em ⊢;ext bb<;>ext b2<;>simp[en,em]
    .simp[a_,cV,cq,line];rw[Kt];let ab4:(((sg.filter λ c=>!cb g.kind (AC c)).map λ c=>D.str [c]).isEmpty)=(sg.filter λ c=>!cb g.kind (AC c)).isEmpty:=by cases sg.filter λ c=>!cb g.kind (AC c)<;>rfl
     rw[ab4];cases h1:(sg.filter λ c=>!cb g.kind (AC c)).isEmpty with
     |false=>rw[h1]at Yd;simp[Yd];lia
     |true=>
      rw[h1,B66]at Yd;by_cases h2:g.wide<=sg.count 61
      .rw[A54 h2]at Yd;simp[h2,Yd];lia
      .simp[h2,Yd];lia
  .rintro Y ⟨_,y,z,t,rfl⟩;erw[fX];simp;show⟨by lia,?_⟩;rw[iT];let:(c_ i C).filter (bZ rows g)=(c_ i C').filter (bZ rows g):=Dw _ i C (tN! Ez w1).1 λ c h1 h2=>Jn H k<|.inr (((tN! Ez w1).2 c).2 h1);rw[B24,this,A26]
 .rintro Y ⟨_,x,y,z,t,rfl⟩;erw[fX];simp[places];rw[Pz (n:=R') (bZ rows g) C rows.length (tN! Vy d1).1 λ r c h1 h2 h3=>Jn H k<|.inl (((tN! Vy d1).2 r).2 h1)]
end KN
set_option maxRecDepth 4000
namespace fA
open Z KG KH KB KC KA KS
def p?:SF:=(aJ<|eB aS (Cw (eW 0) FO<|qp<|eW 1)<|Cw (eW 0) (qp<|eB aS (eW 1)<|eI 1) FO)
def dC:U D->Res D:=fn 2 2 p?
def Cm(x0 x1:D):dC [x0,x1]=a! (p? [AC (.val x0),AC (.val x1)]):=bR _ _ _ _ rfl
def lH:SM:=(bQ (bz [0]<|dN (cZ<|tE<|aj KA.gB<|aV 1 ag) l? aR)<|bQ (ma 0 [104,97,108,108]<|eV 1)<|bQ (ma 0 [103,117,101,115,116,115]<|cm ag)<|bQ (ma 0 [104,101,108,100]<|cm ag)<|ma 0 [112,108,97,99,101,115]<|cm ag)
def il:U D->Res (D×U D):=Ar [0] [Ch,AT] 2 lH
def gL:SF:=(aD (dN (tE<|aj KS.dZ<|aV 1 ag) (eS (Es<|eU (fP [103,117,101,115,116,115])<|eM 0 0) (cJ [2,3])<|dN (tE<|eB oEq (eX 3 0)<|eW 1) (aJ<|eV 2) aR) aR) l?)
def ba:U D->Res D:=As [Ch,AT] 4 gL
def o9(k0:U (Sum Int<|U Nat))(v0:U D)(x1:D):ba [.dct k0 v0,x1]=a! (gL [AC (.bor<|.dct k0 v0),AC (.val x1),At,At]):=tK _ _ _ _ rfl
def ua:SM:=(bQ (bz i1<|dN (cZ<|tE<|aj KS.cR<|aV 1 ag) l? aR)<|bQ (bz i1<|dN (tE<|eB uI (eX 1 0)<|eL<|bx (c5<|eU (fP [103,117,101,115,116,115])<|eM 0 0) 1 [] (aH 0) b8<|eX 0 0) l? aR)<|bQ (bz i1<|aN 2<|eB aS (eU (fP [103,117,101,115,116,115])<|eM 0 0)<|cm<|aV 1 ag)<|bQ (bz i1<|dN (tE<|eB Je (eU bj<|eW 2)<|eI 6) l? aR)<|bQ (bz i1<|aN 3<|eB aS (eU (fP [104,101,108,100])<|eM 0 0)<|cm<|ai (eC .non) ag)<|bQ (bz i1<|aN 4<|aj KB.bC<|ai (eU (fP [104,97,108,108])<|eM 0 0)<|aV 2<|aV 3 ag)<|bQ (bz i1<|dN (tE<|eU gj<|eW 4) l? aR)<|bQ (ma 0 [103,117,101,115,116,115]<|eV 2)<|bQ (ma 0 [104,101,108,100]<|eV 3)<|bQ (ma 0 [112,108,97,99,101,115]<|eV 4)<|bz i1<|aJ<|eB bf (eW 4)<|eU F3<|eI 1)
def g_:U D->Res (D×U D):=Ar i1 [Ch,AT] 5 ua
def qJ:SM:=(bQ (bz i1<|aN 2<|aj ba<|ai (eM 0 0)<|aV 1 ag)<|ma 0 [104,101,108,100]<|aj KH.bS<|ai (eU (fP [104,101,108,100])<|eM 0 0)<|aV 2<|ai (eB bf (eU (fP [112,108,97,99,101,115])<|eM 0 0)<|eW 2) ag)
def f9:U D->Res (D×U D):=Ar i1 [Ch,AT] 3 qJ
def qK:SM:=(bQ (bz i1<|aN 2<|aj ba<|ai (eM 0 0)<|aV 1 ag)<|bQ (ma 0 [103,117,101,115,116,115]<|aj dC<|ai (eU (fP [103,117,101,115,116,115])<|eM 0 0)<|aV 2 ag)<|bQ (ma 0 [104,101,108,100]<|aj dC<|ai (eU (fP [104,101,108,100])<|eM 0 0)<|aV 2 ag)<|ma 0 [112,108,97,99,101,115]<|aj KB.bC<|ai (eU (fP [104,97,108,108])<|eM 0 0)<|ai (eU (fP [103,117,101,115,116,115])<|eM 0 0)<|ai (eU (fP [104,101,108,100])<|eM 0 0) ag)
def f':U D->Res (D×U D):=Ar i1 [Ch,AT] 3 qK
def ky:SF:=(aJ<|eB bf (eU (fP [112,108,97,99,101,115])<|eM 0 0)<|aj ba<|ai (eM 0 0)<|aV 1 ag)
def e_:U D->Res D:=As [Ch,AT] 2 ky
def uZ(k0:U (Sum Int<|U Nat))(v0:U D)(x1:D):e_ [.dct k0 v0,x1]=a! (ky [AC (.bor<|.dct k0 v0),AC (.val x1)]):=tK _ _ _ _ rfl
def iS:SF:=(aJ<|eU (fP [103,117,101,115,116,115])<|eM 0 0)
def aP:U D->Res D:=As [Ch] 1 iS
def rd(k0:U (Sum Int<|U Nat))(v0:U D):aP [.dct k0 v0]=a! (iS [AC (.bor<|.dct k0 v0)]):=tK _ _ _ _ rfl
def iR:SF:=(aJ<|eU (fP [112,108,97,99,101,115])<|eM 0 0)
def bP:U D->Res D:=As [Ch] 1 iR
def q_(k0:U (Sum Int<|U Nat))(v0:U D):bP [.dct k0 v0]=a! (iR [AC (.bor<|.dct k0 v0)]):=tK _ _ _ _ rfl
def fK:SF:=(aD (aN 2<|eB aS (eI 1)<|eB oMod (eW 0)<|eI 2147483646)<|aD (jv 3<|bq ag)<|aD (eS (dF<|eV 1) (aH 4)<|aD (aN 2<|eB oMod (eB eP (eW 2)<|eI 16807)<|eI 2147483647)<|b9 3<|eB oMod (eB eP (eB oMod (eB eP (eB aS (eW 2)<|eI 7)<|eI 69621)<|eI 2147483629)<|eI 39373)<|eI 2147483587)<|oh 3<|aJ<|eV 3)
def cP:U D->Res D:=fn 2 5 fK
def ji:SF:=(aD (aN 2<|eC<|.str aL)<|aD (aN 3<|eB aS (eI 1)<|eB oMod (eW 0)<|eI 8)<|aD (aN 4<|eB oMod (eB oDiv (eW 0)<|eI 8)<|eW 3)<|aD (aN 5<|eB bf (eL<|bq<|aI 1<|aI 3<|aI 5<|aI 7<|aI 9<|aI 11 ag)<|eB oMod (eB oDiv (eW 0)<|eI 64)<|eI 6)<|aD (jv 6<|bq ag)<|aD (eS (dF<|eV 1) (aH 7)<|aD (aN 8<|eC<|.str [])<|aD (eS (dF<|eV 3) (aH 9)<|aD (aN 10<|eB eP (eB eP (eW 5)<|eW 7)<|eU zH<|eB oEq (eW 9)<|eW 4)<|aN 8<|eB aS (eW 8)<|eB bf (eW 2)<|eB oMod (eB aS (eB oDiv (eW 0)<|eB aS (eI 400)<|eB eP (eB eP (eI 30)<|eW 9)<|eW 9)<|eW 10)<|eI 26)<|b9 6<|eV 8)<|oh 6<|aJ<|eV 6)
def ij:U D->Res D:=fn 2 11 ji
def xV(x0 x1:D):ij [x0,x1]=a! (ji [AC (.val x0),AC (.val x1),At,At,At,At,At,At,At,At,At]):=bR _ _ _ _ rfl
def fh:SF:=(aD (aN 1<|eC<|.str aL)<|aJ<|eB aS (eB bf (eW 1)<|eB oMod (eW 0)<|eI 26)<|eB bf (eW 1)<|eB oMod (eB aS (eB aS (eW 0)<|eI 1)<|eB oMod (eB oDiv (eW 0)<|eI 26)<|eI 25)<|eI 26)
def cF:U D->Res D:=fn 1 2 fh
def iP:SF:=(aD (RD (aj KH.cT<|ai (aj KG.aZ<|aV 0<|aI 0 ag)<|ai (eL<|bq<|aI 2<|aI 6<|aI 12<|ai (eB mX (eI 10)<|eI 60) ag) ag)<|Ki [1,2,3,4])<|aD (aN 2<|eB aS (eW 2)<|eI 1)<|aD (aN 3<|eB aS (eW 3)<|eI 1)<|aD (aN 5<|eC<|.str signs)<|aD (aN 6<|aj KH.cT<|ai (aj KG.aZ<|aV 0<|aI 1 ag)<|ai (eL<|S6 (bq<|aI 29 ag)<|eB eP (eW 2)<|eW 3) ag)<|aD (dN (tE<|eB oEq (eW 1)<|eI 0) (aD (aN 2<|eB bf (eL<|bq<|aI 1<|aI 2<|aI 1<|aI 2<|aI 3<|aI 2 ag)<|eB mW (eW 2)<|eI 1)<|aD (aN 3<|eB bf (eL<|bq<|aI 3<|aI 4<|aI 5<|aI 2<|aI 1<|aI 4<|aI 6<|aI 3<|aI 2<|aI 3<|aI 4<|aI 5 ag)<|eB mW (eW 3)<|eI 1)<|aD (aN 5<|eB aS (eC<|.str [46,46,46,46,46,61,35])<|aj cF<|aV 4 ag)<|aN 6<|eL<|bx (c5<|aj cP<|ai (aj KG.aZ<|aV 0<|aI 1 ag)<|ai (eB eP (eW 2)<|eW 3) ag) 1 [] (aH 0) b8<|eB oMod (eB oDiv (eW 0)<|eI 3)<|eI 9) aR)<|aD (jv 7<|bq ag)<|aD (eS (dF<|eV 2) (aH 8)<|b9 7<|eB qq (eC<|.str [])<|eL<|bx (c5<|eL<|Qt (eW 6) (qp<|eB eP (eW 8)<|eW 3)<|qp<|eB eP (eB aS (eW 8)<|eI 1)<|eW 3) 1 [5] (aH 0) b8<|eY 1 0)<|aJ<|eU gw<|eW 7)
def jf:U D->Res D:=fn 1 9 iP
def AD(x0:D):jf [x0]=a! (iP [AC (.val x0),At,At,At,At,At,At,At,At]):=bR _ _ _ _ rfl
def lX:SF:=(aD (RD (aj KH.cT<|aV 1<|ai (eL<|bq<|aI 12<|aI 3<|aI 27<|aI 7<|aI 64<|aI 37 ag) ag)<|Ki [2,3,4,5,6,7])<|aD (aN 8<|aj KH.cT<|ai (eB oDiv (eW 1)<|eI 16111872)<|ai (eL<|S8 (eL<|bq<|ai (eB mX (eI 10)<|eI 60) ag)<|eL<|S6 (bq<|ai (eB mW (eB mX (eI 10)<|eI 60)<|eI 1) ag)<|eI 6) ag)<|aD (aN 7<|eB oMod (eW 7)<|eB aS (eB eP (eB aS (eW 2)<|eI 1)<|eB aS (eW 3)<|eI 1)<|eI 1)<|aD (aN 4<|eB bf (eL<|bq<|ai (eC<|.str [])<|ai (eB bf (eC<|.str aL)<|eB mW (eW 4)<|eI 1) ag)<|eU zH<|eB Je (eW 4)<|eI 0)<|aD (aN 9<|eL<|bx (dF<|eI 6) 1 [6,8] (aH 0) (tE<|eB oEq (eB oMod (eB oDiv (eW 1)<|eB bf (eL<|bq<|aI 1<|aI 2<|aI 4<|aI 8<|aI 16<|aI 32 ag)<|eW 0)<|eI 2)<|eI 1)<|cm<|aV 0<|ai (eB aS (eI 1)<|eB bf (eW 2)<|eB aS (eI 1)<|eW 0) ag)<|aJ<|cm<|aV 0<|ai (eB aS (eW 2)<|eI 1)<|ai (eB aS (eW 3)<|eI 1)<|aV 4<|aV 7<|aV 5<|aX 8 0<|ai (eU gw<|eW 9) ag)
def j3:U D->Res D:=fn 2 10 lX
def Cp(x0 x1:D):j3 [x0,x1]=a! (lX [AC (.val x0),AC (.val x1),At,At,At,At,At,At,At,At]):=bR _ _ _ _ rfl
def jk:SF:=(aD (aN 3<|aj cP<|aV 1<|aI 9 ag)<|aD (aN 4<|eB bf (eL<|bq<|aI 1<|aI 2<|aI 1<|aI 3<|aI 2<|aI 1<|aI 2<|aI 1 ag)<|eB oMod (eB oDiv (eX 3 0)<|eI 5)<|eI 8)<|aD (aN 5<|eB bf (eL<|bq<|aI 1<|aI 1<|aI 2<|aI 1<|aI 1<|aI 1<|aI 1<|aI 2 ag)<|eB oMod (eB oDiv (eX 3 1)<|eI 5)<|eI 8)<|aD (aN 6<|eB bf (eL<|bq<|ai (eC<|.str [])<|ai (eC<|.str [])<|ai (eC<|.str [])<|aX 2 0<|ai (eC<|.str [])<|aX 2 1 ag)<|eB oMod (eB oDiv (eX 3 2)<|eI 5)<|eI 6)<|aD (aN 7<|eB Jc (eB bf (eL<|bq<|aI 0<|aI 0<|aI 1<|aI 0<|aI 0<|aI 0 ag)<|eB oMod (eB oDiv (eX 3 3)<|eI 5)<|eI 6)<|eB eP (eW 4)<|eW 5)<|aD (aN 8<|eB bf (eL<|bq<|aI 0<|aI 1<|aI 0<|aI 0<|aI 1<|aI 0<|aI 0<|aI 2 ag)<|eB oMod (eB oDiv (eX 3 4)<|eI 5)<|eI 8)<|aD (aN 9<|eB bf (eL<|bq<|ai (eB oMod (eB oDiv (eX 3 5)<|eI 5)<|eI 4)<|ai (eB eP (eX 3 6)<|eB mX (eI 10)<|eI 50) ag)<|eU zH<|eB oEq (eB oMod (eB oDiv (eX 3 5)<|eI 20)<|eI 6)<|eI 5)<|aD (jv 10<|bq ag)<|aD (eS (dF<|eI 6) (aH 11)<|dN (tE<|eB oEq (eB oMod (eB oDiv (eX 3 7)<|eB aS (eI 3)<|eB eP (eI 2)<|eW 11)<|eI 4)<|eI 1) (b9 10<|cm<|aV 11<|ai (eB aS (eI 1)<|eB oMod (eB oDiv (eX 3 8)<|eB aS (eI 2)<|eW 11)<|eI 3) ag) aR)<|aJ<|cm<|aV 0<|aV 4<|aV 5<|aV 6<|aV 7<|aV 8<|aV 9<|ai (eU gw<|eW 10) ag)
def ik:U D->Res D:=fn 3 12 jk
def xX(x0 x1 x2:D):ik [x0,x1,x2]=a! (jk [AC (.val x0),AC (.val x1),AC (.val x2),At,At,At,At,At,At,At,At,At]):=bR _ _ _ _ rfl
def iu:SF:=(aD (aN 3<|aj cF<|ai (eB oMod (eB oDiv (aj KG.aZ<|aV 0<|aI 0 ag)<|eI 144)<|eB mX (eI 10)<|eI 60) ag)<|aD (jv 4<|bq ag)<|aD (eS (dF<|eU bj<|eW 2) (aH 5)<|aD (aN 6<|aj KG.aZ<|aV 0<|ai (eB aS (eW 1)<|eW 5) ag)<|dN (n8 (tE<|eB oEq (eB oMod (aj KG.aZ<|aV 0<|aI 0 ag)<|eI 2)<|eI 1)<|tE<|eB Je (eB oMod (eW 6)<|eI 3)<|eI 0) (b9 4<|aj j3<|ai (eY 2 5)<|ai (eB oDiv (eW 6)<|eI 3) ag)<|b9 4<|aj ik<|ai (eY 2 5)<|ai (eB aS (eB oDiv (eW 6)<|eI 3)<|eB eP (eB eP (eI 7)<|eW 5)<|eW 5)<|aV 3 ag)<|aJ<|eU gw<|eW 4)
def gP:U D->Res D:=fn 3 7 iu
def uU(x0 x1 x2:D):gP [x0,x1,x2]=a! (iu [AC (.val x0),AC (.val x1),AC (.val x2),At,At,At,At]):=bR _ _ _ _ rfl
def f_:SF:=(aD (jv 2<|bq ag)<|aD (eS (dF<|eB aS (eB mW (eU bj<|eW 0)<|eX 1 2)<|eI 1) (aH 3)<|eS (dF<|eB aS (eB mW (eU bj<|eX 0 0)<|eX 1 1)<|eI 1) (aH 4)<|aD (aN 5<|eB qq (eC<|.str [])<|eL<|bx (c5<|Cw (eW 0) (qp<|eW 3)<|qp<|eB aS (eW 3)<|eX 1 2) 1 [4,1] (aH 0) b8<|Cw (eW 0) (qp<|eW 1)<|qp<|eB aS (eW 1)<|eX 2 1)<|aD (aN 6<|eL<|bx (c5<|eW 5) 1 [1] (aH 0) (n8 (tE<|eB oH (eW 0)<|eC<|.str [46,61])<|tE<|eB l_ (eW 0)<|eX 1 3)<|eV 0)<|dN (n8 (tE<|eB oEq (eW 6)<|eL<|bq ag)<|tE<|eB Vk (eB vF (eW 5)<|eC<|.str [61])<|eX 1 4) (b9 2<|cm<|aV 3<|aV 4 ag) aR)<|oh 2<|aJ<|eV 2)
def bT:U D->Res D:=fn 2 7 f_
def nH:SF:=(aD (aN 3<|eI 1)<|aD (eS (c5<|eV 1) (aH 4)<|dN (tE<|eB (uH AT) (eX 4 0)<|eM 1 2) (aN 3<|eB eP (eW 3)<|eB aS (eI 1)<|eU bj<|aj bT<|aV 0<|aV 4 ag) aR)<|aJ<|eV 3)
def fE:U D->Res D:=As [AT,AT,Ch] 5 nH
def AA(x0:D)(x1:D)(k2:U (Sum Int<|U Nat))(v2:U D):fE [x0,x1,.dct k2 v2]=a! (nH [AC (.val x0),AC (.val x1),AC (.bor<|.dct k2 v2),At,At]):=tK _ _ _ _ rfl
def kj:SF:=(aD (aN 3<|eL<|bq<|ai (cm<|ai (cm ag)<|aI 0 ag) ag)<|aD (eS (c5<|eV 1) (aH 4)<|aD (aN 5<|aj bT<|aV 0<|aV 4 ag)<|aD (dN (tE<|eB (uH Ch) (eX 4 0)<|eM 1 2) (aN 5<|eL<|bq<|ai (eB Nz (eM 1 2)<|eX 4 0) ag) aR)<|aD (jv 6<|bq ag)<|aD (eS (c5<|eV 3) (cJ [7,8])<|eS (c5<|eV 5) (aH 9)<|aD (aN 10<|eL<|bx (dF<|eU bj<|eW 7) 1 [1,7,4,9] (aH 0) (cZ<|tE<|aj KH.dD<|ai (eY 1 0)<|ai (eY 2 0)<|aV 3<|aV 4 ag)<|eV 0)<|dN (tE<|eB oEq (eW 10)<|eL<|bq ag) (b9 6<|cm<|ai (eB aS (eW 7)<|cm<|aV 9 ag)<|ai (eB aS (eW 8)<|aj KB.dG<|aV 4<|aX 9 0 ag) ag) aR)<|oh 6<|aN 3<|eV 6)<|aD (aN 11<|eC .non)<|aD (eS (c5<|eV 3) (cJ [7,8])<|dN (nP (tE<|eU gj<|eW 11)<|tE<|eB Je (eW 8)<|eX 11 1) (aN 11<|cm<|aV 7<|aV 8 ag) aR)<|aJ<|eV 11)
def fG:U D->Res D:=As [AT,AT,Ch] 12 kj
def AG(x0:D)(x1:D)(k2:U (Sum Int<|U Nat))(v2:U D):fG [x0,x1,.dct k2 v2]=a! (kj [AC (.val x0),AC (.val x1),AC (.bor<|.dct k2 v2),At,At,At,At,At,At,At,At,At]):=tK _ _ _ _ rfl
def nI:SF:=(aD (jv 4<|bq ag)<|aD (eS (c5<|aj bT<|aV 0<|ai (eY 1 3) ag) (aH 5)<|aD (aN 6<|eL<|bx (dF<|eU bj<|eW 2) 1 [3,2] (aH 0) (n8 (tE<|eB l_ (eW 0)<|eW 1)<|tE<|eU iF<|eY 2 0)<|eV 0)<|aD (aN 6<|eL<|bx (c5<|eW 6) 1 [1,2,3,5] (aH 0) (cZ<|tE<|aj KH.dD<|ai (eY 1 0)<|ai (eY 2 0)<|ai (eY 1 3)<|aV 4 ag)<|eV 0)<|dN (tE<|eB oEq (eW 6)<|eL<|bq ag) (b9 4<|eV 5) aR)<|oh 4<|aJ<|eV 4)
def g?:U D->Res D:=fn 4 7 nI
def AB(x0 x1 x2 x3:D):g? [x0,x1,x2,x3]=a! (nI [AC (.val x0),AC (.val x1),AC (.val x2),AC (.val x3),At,At,At]):=bR _ _ _ _ rfl
def qI:SF:=(aD (jv 4<|bq<|ai (cm<|aV 3<|aV 2 ag) ag)<|aD (w9 130 (tE<|eB l_ (eW 4)<|eL<|bq ag)<|aD (vn 4<|cJ [5,6])<|aD (dN (nP (cZ<|tE<|eU (dS .tuple)<|eW 5)<|nP (tE<|eB kZ (eU bj<|eW 5)<|cm<|aI 2<|aI 3 ag)<|tE<|eU (dS .bool)<|eX 5 1) (aJ<|eC<|.bl AT) aR)<|aD (dN (nP (cZ<|tE<|eU (dS .int)<|eX 5 1)<|nP (cZ<|tE<|dI oLe oLt (eI 0) (eX 5 1)<|eU bj<|eW 1)<|tE<|eU iF<|eB bf (eW 6)<|eX 5 1) (aJ<|eC<|.bl AT) aR)<|aD (aN 7<|aj g?<|aV 0<|aV 1<|aV 6<|aX 5 1 ag)<|dN (tE<|eB oEq (eU bj<|eW 5)<|eI 2) (dN (nP (tE<|eB l_ (eX 5 0)<|eC<|.str [115,116,117,99,107])<|tE<|eB l_ (eW 7)<|eL<|bq ag) (aJ<|eC<|.bl AT) aR)<|dN (nP (tE<|eB l_ (eX 5 0)<|eC<|.str [101,97,99,104])<|nP (cZ<|tE<|eU (dS .tuple)<|eX 5 2)<|tE<|eB l_ (eU bj<|eX 5 2)<|eU bj<|eW 7) (aJ<|eC<|.bl AT)<|eS (Gn (eV 7)<|eX 5 2) (cJ [8,9])<|b9 4<|cm<|aV 9<|ai (eB aS (eB aS (Cw (eW 6) FO<|qp<|eX 5 1)<|cm<|aV 8 ag)<|Cw (eW 6) (qp<|eB aS (eX 5 1)<|eI 1) FO) ag)<|aJ<|eC<|.bl Ch)
def fZ:U D->Res D:=fn 4 10 qI
def xU(x0 x1 x2 x3:D):fZ [x0,x1,x2,x3]=a! (qI [AC (.val x0),AC (.val x1),AC (.val x2),AC (.val x3),At,At,At,At,At,At]):=bR _ _ _ _ rfl
def i?:XF:=(rN (dN (cZ<|tE<|aj KS.cR<|aV 1 ag) l? aR) Hb<|rN (dN (tE<|eB uI (eX 1 0)<|eL<|bx (c5<|eU (fP [103,117,101,115,116,115])<|eM 0 0) 1 [] (aH 0) b8<|eX 0 0) l? aR) Hb<|rN (aN 2<|eB aS (eU (fP [103,117,101,115,116,115])<|eM 0 0)<|cm<|aV 1 ag) Hb<|rN (dN (tE<|eB Je (eU bj<|eW 2)<|eI 6) l? aR) Hb<|rN (aN 3<|eB aS (eU (fP [104,101,108,100])<|eM 0 0)<|cm<|ai (eC .non) ag) Hb<|rN (aN 4<|aj KB.bC<|ai (eU (fP [104,97,108,108])<|eM 0 0)<|aV 2<|aV 3 ag) Hb<|rN (dN (tE<|eU gj<|eW 4) l? aR) (VU (tE<|eU gj<|eW 4) (nR [70,117,108,108] [[112,97,112,101,114]]<|ai (aj KC.dY<|ai (eU (fP [104,97,108,108])<|eM 0 0)<|aV 2<|aV 3 ag) ag) Hb) Hb)
def fD:U D->ε XN:=QR [Ch,AT] 5 i?
def xP(k0:U (Sum Int<|U Nat))(v0:U D)(x1:D):fD [.dct k0 v0,x1]=i? [AC (.bor<|.dct k0 v0),AC (.val x1),At,At,At]:=YA _ _ _ _ rfl
def lD:SM:=(bQ (bz i1<|aN 2<|eL<|bq ag)<|bQ (JG (jA<|gu g_ [Ch,AT] [0]<|ai (eM 0 0)<|aV 1 ag) (yG fD<|ai (eM 0 0)<|aV 1 ag)<|_E (Tg [([70,117,108,108],Ch)]) 3 (bz i1<|aN 2<|eL<|bq<|ai (_N 3 [70,117,108,108] [112,97,112,101,114]) ag) hNo)<|bz i1<|aJ<|eV 2)
def cQ:U D->Res (D×U D):=Ar i1 [Ch,AT] 4 lD
def nJ:SF:=(aJ<|eU gw<|eL<|bx (c5<|eW 0) 1 [1] (aH 0) b8<|eB zI (eM 1 1)<|eX 0 0)
def fF:U D->Res D:=As [AT,Ch] 2 nJ
def AE(x0:D)(k1:U (Sum Int<|U Nat))(v1:U D):fF [x0,.dct k1 v1]=a! (nJ [AC (.val x0),AC (.bor<|.dct k1 v1)]):=tK _ _ _ _ rfl
def lC:SM:=(bQ (bz (i8 0 [Ch,AT,Ch,AT,Ch])<|aN 5<|aj aP<|ai (eM 0 0) ag)<|bQ (bz (i8 0 [Ch,AT,Ch,AT,Ch])<|aN 6<|aj bP<|ai (eM 0 0) ag)<|bQ (bz (i8 0 [Ch,AT,Ch,AT,Ch])<|aN 7<|eB aS (eW 5)<|cm<|aV 3 ag)<|bQ (bz (i8 0 [Ch,AT,Ch,AT,Ch])<|aN 8<|aj fF<|aV 7<|ai (eM 1 2) ag)<|bQ (bz (i8 0 [Ch,AT,Ch,AT,Ch])<|aN 9<|aj fG<|aV 1<|aV 7<|ai (eM 1 2) ag)<|bQ (NT 10<|gu cQ [Ch,AT] [0]<|ai (eM 0 0)<|aV 3 ag)<|bQ (ic (uJ<|tE<|eU gj<|eW 9) (bQ (bz (i8 0 [Ch,AT,Ch,AT,Ch])<|dN (nP (tE<|eB l_ (eU bj<|eW 10)<|eI 1)<|tE<|eB l_ (cm<|ai (aj aP<|ai (eM 0 0) ag)<|ai (aj bP<|ai (eM 0 0) ag) ag)<|cm<|aV 5<|aV 6 ag) (aJ<|eC<|.bl AT) aR)<|bQ (SX 4<|eX 10 0)<|bz (i8 0 [Ch,AT,Ch,AT,Ch])<|aJ<|mf (eU (NA Ch)<|aj KC.cu<|aV 1<|aV 7<|aX 10 0<|aV 8 ag)<|aj fZ<|aV 1<|aV 7<|aV 8<|aX 10 0 ag) dU)<|bQ (bz (i8 0 [Ch,AT,Ch,AT,Ch])<|eS (c5<|eL<|Qt (eT2 4) (qp<|eU F3<|eI 3) FO) (aH 11)<|dN (tE<|eU (vD AT)<|aj KC.cu<|aV 1<|aV 7<|aV 11<|aV 8 ag) (aJ<|eC<|.bl AT) aR)<|bz (i8 0 [Ch,AT,Ch,AT,Ch])<|aJ<|mf (eB oEq (eW 10)<|eL<|bq ag)<|eB oEq (aj bP<|ai (eM 0 0) ag)<|eX 9 0)
def cx:U D->Res (D×U D):=Ar (i8 0 [Ch,AT,Ch,AT,Ch]) [Ch,AT,Ch,AT,Ch] 12 lC
def Lj:SF:=(aD (aN 1<|aj jf<|aV 0 ag)<|aD (aN 2<|aj gP<|aV 0<|aI 3<|ai (aj ij<|ai (aj KG.aZ<|aV 0<|aI 2 ag)<|ai (eB aS (eI 8)<|eB F4 (eI 0)<|eB Jc (eI 10)<|eB mW (eU bj<|eW 0)<|eI 11) ag) ag)<|w! 3 il (eV 1)<|Ea [3] 4<|D_ ([3]++[4]) 5<|bQ (SW (([3]++[4])++[5]) (Es<|eV 2) (cJ [6,7])<|bQ (ic (uJ<|tE<|eB oEq (eU bj<|aj aP<|ai (eM 0 3) ag)<|eI 6) (bQ (bz (([3]++[4])++[5])<|aN 8<|eB bf (eB bf (aj aP<|ai (eM 0 3) ag)<|eI 0)<|eI 0)<|bQ (jA<|gu f' [Ch,AT] [3]<|ai (eM 0 3)<|aV 8 ag)<|ic (uJ<|tE<|eB (uH Ch) (eV 8)<|eM 1 4) (jA<|JH 4<|eV 8) dU) dU)<|ic (uJ<|tE<|eB oLe (aj fE<|aV 1<|ai (eB aS (aj aP<|ai (eM 0 3) ag)<|cm<|aV 7 ag)<|ai (eM 1 4) ag)<|eI 120) (bQ (ic (zS<|Xm<|gu cx [Ch,AT,Ch,AT,Ch] [3,4,5]<|ai (eM 0 3)<|aV 1<|ai (eM 1 4)<|aV 7<|ai (eM 2 5) ag) (bz (([3]++[4])++[5])<|aJ<|eC<|.bl AT) dU)<|ic (uJ<|n8 (tE<|eB oEq (eB oMod (aj KG.aZ<|aV 0<|ai (eB aS (eI 21)<|eW 6) ag)<|eI 3)<|eI 1)<|tE<|eB uI (eW 7)<|aj aP<|ai (eM 0 3) ag) (bQ (NU 4 (eX 7 0)<|aj e_<|ai (eM 0 3)<|aX 7 0 ag)<|jA<|gu f9 [Ch,AT] [3]<|ai (eM 0 3)<|aX 7 0 ag) dU) dU)<|bz (([3]++[4])++[5])<|aJ<|eC<|.bl Ch)
def pX:U D->Res D:=fn 1 9 Lj
def Ua(x0:D):pX [x0]=a! (Lj [AC (.val x0),At,At,At,At,At,At,At,At]):=bR _ _ _ _ rfl
end fA
set_option maxRecDepth 8000
namespace fA
open Z
abbrev Q1:U Nat:=[70,117,108,108]
abbrev dk(x:Nat)(hall gs hl ps:D):D:=.dct [.inl (x:Int),.inl 0,.inr [104,97,108,108],.inr [103,117,101,115,116,115],.inr [104,101,108,100],.inr [112,108,97,99,101,115]] [hall,gs,hl,ps]
def eqT(s t:U Nat):oEq (.str s) (.str t)=.ok (.bl<|decide<|s=t):=by let:kH (.str s) (.str t)=AC _:=rfl;unfold oEq;rw[this];erw[Res.ok.injEq,D.bl.injEq];show A59.mpr ∅
def ro(d:D):U Nat:=match bf d (.int 0)with
|.ok<|.str n=>n
|_=>[]
def G?(g:D):Prop:=bf g (.int 0)=.ok (.str<|ro g)
abbrev Ji:SF:=dN (tE<|eB oEq (eX 3 0)<|eW 1) (aJ<|eV 2) aR
def zJ(h:G? g)(i:Nat)(d:D)(a b:ε L)(r:U D):bM (cJ [2,3]) Ji (pair (.int<|i) g::r) [AC (.bor d),v (.str n),a,b]=if ro g=n then .ok (.rt<|.int<|i)else bM (cJ [2,3]) Ji r [AC (.bor d),v (.str n),v (.int<|i),v g]:=by
 let gX:∀Y,cJ [2,3] (.tup [.int (i),g]) Y=.ok _:=λ Y=>rfl;by_cases c:ro g=n
 .rw[M2 c];simp[bM,pair,Ji,(show bf g _=.ok _ from h),eqT,c]
 .rw[W1 c];simp[bM,pair,gX,Ji,(show bf g _=.ok _ from h),eqT,c]
def NB(h:∀d∈as++g::bs,G? d)(hm:∀a∈as,ro a≠n)(hg:ro g=n)(d:D):∀i a b,bM (cJ [2,3]) Ji (kG i<|as++g::bs) [AC (.bor d),v (.str n),a,b]=.ok (.rt<|.int<|(i+as.n:Nat)):=by
 induction as with
 |nil=>intro i a b;show(zJ (h g ∅) i d a b _).trans<|M2 hg
 |cons y as ih=>intro i a b;show(zJ (h y ∅) i d a b _).trans ?_;rw[W1<|hm y A13];show(ih (λ z hz=>h z<|A09 _ hz) (λ z hz=>hm z<|A09 _ hz) _ _ _).trans ?_;rw[A29,show i+1+as.n=i+(as.n+1)by lia]
def SA(e:KS.dZ [.str n]=.ok (.bl Ch))(h:∀d∈as++g::bs,G? d)(hm:∀a∈as,ro a≠n)(hg:ro g=n):ba [dk x hall (.tup<|as++g::bs) hl ps,.str n]=.ok (.int<|as.n):=by rw[o9];show aA ?_;let:=NB h hm hg (dk x hall (.tup<|as++g::bs) hl ps) 0 At At;rw[B19]at this;simp[gL,e,eM,fP,g!,this]
def oU:aP [dk x hall gs hl ps]=.ok gs:=by rw[rd];show aA ?_;simp[iS,eM,fP,g!]
def mT:bP [dk x hall gs hl ps]=.ok ps:=by rw[q_];show aA ?_;simp[iR,eM,fP,g!]
def HC(h:ba [dk x hall gs hl ps,.str n]=.ok k)(hp:bf ps k=.ok d):e_ [dk x hall gs hl ps,.str n]=.ok d:=by rw[uZ];show aA ?_;simp[ky,eM,fP,g!,h,hp]
def OK(h:ba [dk x hall gs hl ps,.str n]=.ok k)(hp:bf ps k=.ok d)(hw:KH.bS [hl,k,d]=.ok yB):f9 [dk x hall gs hl ps,.str n]=.ok (.non,[dk x hall gs yB ps]):=by unfold f9;rw[qC _ _ _ _ _ rfl];let s0:startB 3 [Ch,AT] [dk x hall gs hl ps,.str n]=[AC (.bor _),v _,At]:=rfl;rw[s0];simp[qJ,bQ,bz,ma,h,hw,hp,eM,fP,g!,su,eO,c9,dB,mZ,xG,line,guard_pos,i8];rfl
def Pu(h:ba [dk x hall gs hl ps,.str n]=.ok k)(h1:dC [gs,k]=.ok OD)(h2:dC [hl,k]=.ok yB)(h3:KB.bC [hall,OD,yB]=.ok qk):f' [dk x hall gs hl ps,.str n]=.ok (.non,[dk x hall OD yB qk]):=by unfold f';rw[qC _ _ _ _ _ rfl];let s0:startB 3 [Ch,AT] [dk x hall gs hl ps,.str n]=[AC (.bor _),v _,At]:=rfl;rw[s0];simp[qK,bQ,bz,ma,h,h1,h2,h3,eM,fP,g!,su,eO,c9,dB,mZ,xG,line,guard_pos,i8];rfl
section
variable{gs hs:U D}
def zQ(h:∀g∈gs,G? g)(Y:Env)(hρ:Y.n=1):b7 (aH 0) b8 (eX 0 0) Y gs=.ok (gs.map λ g=>.str<|ro g):=by
 let:Ok (b7 (aH 0) b8 (eX 0 0) Y gs) λ ds=>ds=gs.map λ g=>.str (ro g):=by
  match Y,hρ with
  |[a],_=>show comp_map _ (λ d hd=>?_) rfl;let:=h d hd;unfold G? at this;simp[this]
 show this.eq
def wy(n:U Nat):∀ms:U _,fM (.str n) (ms.map .str)=AC (decide<|n∈ms)
|[]=>rfl
|m::ms=>by
 let e:kH (.str m) (.str n)=AC _:=rfl;let ih:=wy n ms;by_cases c:n=m
 .subst c;simp[fM,e,ih]
 .simp[fM,e,ih,c,A10 c]
def JX(n:U Nat)(ms:U _):uI (.str n) (.lst<|ms.map .str)=.ok (.bl<|decide<|n∈ms)/\kZ (.str n) (.lst<|ms.map .str)=.ok (.bl<|!decide (n∈ms)):=by
 let:=wy n ms;constructor
 .simp[uI,this]
 .simp[kZ,this]
def E4(hg:KS.cR [g]=.ok (.bl Ch))(e0:G? g)(hn:∀g∈gs,G? g)(hm:∀y∈gs,ro y≠ro g):uI (.str<|ro g) (.lst<|gs.map λ g=>.str<|ro g)=.ok (.bl AT):=by let:=(JX (ro g)<|gs.map ro).1;rw[A24]at this;show this.trans ?_;rw[A43];intro h;let(y,hy,e):=A07.mp h;show hm y hy e
def UX(hg:KS.cR [g]=.ok (.bl Ch))(e0:G? g)(hn:∀g∈gs,G? g)(hm:∀y∈gs,ro y≠ro g)(h5:gs.n<=5)(h5':hs.n<=5)(hb:KB.bC [hall,.tup (gs++[g]),.tup (hs++[.non])]=.ok qk)(hp:gj qk=.ok (.bl AT))(hd:bf qk (.int<|-1)=.ok d):
 g_ [dk x hall (.tup gs) (.tup hs) ps,g]=.ok (d,[dk x hall (.tup<|gs++[g]) (.tup<|hs++[.non]) qk]):=by
 let _P:bf g (.int 0)=.ok (.str<|ro g):=e0;let Cf:=E4 hg e0 hn hm;let cg:=λ Y hρ=>zQ hn Y hρ;unfold g_;rw[qC _ _ _ _ _ rfl];let s0:startB 5 [Ch,AT] [dk x hall (.tup gs) (.tup hs) ps,g]=[AC (.bor<|dk x hall (.tup gs) (.tup hs) ps),v g,At,At,At]:=rfl;rw[s0];let l6:decide (6<(((gs++[g]).length)))=AT:=A43 (by rw[A38];simp;lia);let q0:gs.n<=16777216:=by lia
 let q1:gs.n<=16777215:=by lia
 let q2:hs.n<=16777215:=by lia
 let q3:decide (6<(gs.n:Int)+1)=AT:=A43 ∅;simp[ua,bQ,bz,ma,hg,_P,hd,hb,hp,Cf,a_,fg,cg,q0,q1,q2,q3,l6,eM,fP,g!,su,eO,c9,dB,mZ,xG,line,guard_pos,i8];rfl
def jT(d:D):ZM (AC<|some<|.bor d)=d:=rfl
end
end fA
namespace fA
open Z
open KG (G GO Pl Rows Hall cX GOk aF aG bB aT places)
open KH (ay aq Good)
open KB (aK cw bJ)
abbrev cK:=U<|U Nat×D
abbrev dd(a:Nat)(kv:cK):D:=.dct (.inl a::.inl 1::kv.map λ p=>.inr p.1) (kv.map (·.2))
def oW(c:U Nat):∀kv:cK,g! (kv.map λ p=>.inr p.1) (kv.map (·.2)) c=match kv.lookup c with|some d=>.ok d|none=>.bad
|[]=>rfl
|(k,d)::kv=>by
 let ih:=oW c kv;by_cases h:k=c
 .subst h;simp[g!]
 .let:(c==k)=AT:=by simpa using A10 h
  simp[g!,h,ih,Fa,this]
def a9(c:U Nat)(d:D):cK->cK
|[]=>[(c,d)]
|(k,e)::r=>if k=c then(k,d)::r else(k,e)::a9 c d r
def Du(c:U Nat)(d:D):∀kv,eO c d (kv.map λ p=>.inr p.1) (kv.map (·.2))=((a9 c d kv).map λ p=>.inr p.1,(a9 c d kv).map (·.2))
|[]=>rfl
|(k,e)::kv=>by
 let ih:=Du c d kv;by_cases h:k=c
 .simp[eO,a9,h]
 .simp[eO,a9,h,ih]
def Ds(c:U Nat)(d:D)(n:U Nat):∀kv,(a9 c d kv).lookup n=if n=c then AC d else kv.lookup n
|[]=>by
 by_cases h:n=c
 .simp[a9,h]
 .let:(n==c)=AT:=by simpa using h
  simp[a9,h]
|(k,e)::kv=>by
 let ih:=Ds c d n kv;by_cases h:k=c
 .subst h;by_cases q:n=k
  .subst q;simp[a9]
  .let:(n==k)=AT:=by simpa using q
   simp[a9,Fa,this,q]
 .by_cases q:n=k
  .subst q;simp[a9,h]
  .let:(n==k)=AT:=by simpa using q
   simp[a9,h,Fa,this,ih]
def zq(c:U Nat)(d:D)(n:U Nat):∀kv,n∈(a9 c d kv).map (·.1)->n=c\/n∈kv.map (·.1)
|[],h=>by simpa[a9]using h
|(k,e)::kv,h=>by
 by_cases q:k=c
 .simp[a9,q]at h;rcases h with h|h
  .exact .inl h
  .exact .inr (by simp;show .inr h)
 .simp[a9,q]at h;rcases h with h|h
  .exact .inr (by simp[h])
  .rcases zq c d n kv (by calc h)with h|h
   .exact .inl h
   .exact .inr<|A09 _ h
def Dq(c:U Nat)(d:D):∀kv,(kv.map (·.1)).Nodup->((a9 c d kv).map (·.1)).Nodup
|[],_=>by simp[a9]
|(k,e)::kv,h=>by
 let h':=A19.mp h;by_cases q:k=c
 .simpa[a9,q]using(by simpa[q]using h)
 .rw[show a9 c d _=(k,e)::a9 c d kv by simp[a9,q]];show A19.mpr ⟨λ m=>?_,Dq c d kv h'.2⟩;rcases zq c d k kv m with z|z
  .exact q z
  .exact h'.1 z
def zr(c:U Nat)(d:D):∀kv,(a9 c d kv).length<=kv.n+1
|[]=>by simp[a9]
|(k,e)::kv=>by
 let:=zr c d kv;by_cases q:k=c
 .simp[a9,q]
 .simp[a9,q];lia
def bh(c:U Nat):cK->cK
|[]=>[]
|(k,e)::r=>if k=c then r else(k,e)::bh c r
def AL(c:U Nat):∀kv,gv c (kv.map λ p=>.inr p.1) (kv.map (·.2))=((bh c kv).map λ p=>.inr p.1,(bh c kv).map (·.2))
|[]=>rfl
|(k,e)::kv=>by
 let ih:=AL c kv;by_cases h:k=c
 .simp[gv,bh,h]
 .simp[gv,bh,h,ih]
def v!(c:U Nat):∀kv,(bh c kv).Sublist kv
|[]=>.slnil
|(k,e)::kv=>by
 by_cases h:k=c
 .simp[bh,h]
 .simp[bh,h];show v! c kv
def AK(c n:U Nat):∀kv,(kv.map (·.1)).Nodup->(bh c kv).lookup n=if n=c then At else kv.lookup n
|[],_=>by simp[bh]
|(k,e)::kv,h=>by
 let h':=A19.mp h;let ih:=AK c n kv h'.2;by_cases q:k=c
 .subst q;by_cases z:n=k
  .subst z;rw[show bh n _=kv by simp[bh],M2 rfl];show List.lookup_eq_none_iff.mpr λ p hp=>by let:p.1≠n:=λ w=>h'.1<|w▸A07.mpr ⟨p,hp,rfl⟩;simpa using A10 this
  .let:(n==k)=AT:=by simpa using z
   simp[bh,Fa,this,z]
 .by_cases z:n=k
  .subst z;simp[bh,q]
  .let:(n==k)=AT:=by simpa using z
   simp[bh,q,Fa,this,ih]
def tq:U GO->U Nat->ε D
|[],_=>At
|x::r,c=>if x.1.name=c then x.2.map aG else tq r c
abbrev nms(xs:U GO):U (U Nat):=xs.map (·.1.name)
def Ao:∀{xs},c∉nms xs->tq xs c=At
|[],_=>rfl
|x::r,h=>by let h1:x.1.name≠c:=λ z=>h (by simp[z]);erw[tq,W1 h1];show Ao λ z=>h<|A09 _ z
def xM:∀{xs},(nms xs).Nodup->∀x∈xs,tq xs x.1.name=x.2.map aG
|[],_,_,h=>by ext h
|y::r,nd,x,h=>by
 let qr:=A19.mp nd;rcases A01.mp h with rfl|h
 .simp[tq]
 .let:y.1.name≠x.1.name:=λ z=>qr.1<|A07.mpr ⟨x,h,z.a⟩;erw[tq,W1 this];show xM qr.2 x h
def Ey(h:g.name∉nms xs)(c:U Nat):tq (xs++[(g,At)]) c=tq xs c:=by
 induction xs with
 |nil=>simp[tq]
 |cons x r ih=>erw[C16,tq];rw[ih λ z=>h<|A09 _ z]
def Ex:∀{xs}{k:Nat}{g}{o} p,(nms xs).Nodup->xs[k]?=AC (g,o)->∀c,tq (xs.set k (g,AC p)) c=if c=g.name then AC (aG p)else tq xs c
|[],_,_,_,_,_,h,_=>by ext h
|x::r,0,g,o,p,nd,h,c=>by
 let:=f8 h;subst this;by_cases q:c=g.name
 .subst q;simp[tq]
 .simp[tq,q,A10 q]
|x::r,k+1,g,o,p,nd,h,c=>by
 let qr:=A19.mp nd;let h':=h;let ih:=Ex p qr.2 h' c;let ne:x.1.name≠g.name:=λ z=>qr.1<|A07.mpr ⟨(g,o),A21 h',z.a⟩;rw[sB];by_cases q:x.1.name=c
 .let:c≠g.name:=λ z=>ne<|q.trans z;simp[tq,q,this]
 .simp[tq,q,ih]
def vV:∀{xs}{k}{x},(nms xs).Nodup->xs[k]?=AC x->∀c,tq (xs.eraseIdx k) c=if c=x.1.name then At else tq xs c
|[],_,_,_,h,_=>by ext h
|y::r,0,x,nd,h,c=>by
 let:=f8 h;subst this;let qr:=A19.mp nd;by_cases q:c=y.1.name
 .subst q;simp[Ao qr.1]
 .simp[tq,q,A10 q]
|y::r,k+1,x,nd,h,c=>by
 let qr:=A19.mp nd;let h':=h;let ih:=vV qr.2 h' c;let ne:y.1.name≠x.1.name:=λ z=>qr.1<|A07.mpr ⟨x,A21 h',z.a⟩;rw[C06];by_cases q:y.1.name=c
 .let:c≠x.1.name:=λ z=>ne<|q.trans z;simp[tq,q,this]
 .simp[tq,q,ih]
structure CZ(kv:cK)(xs:List GO):Prop where
 nd:(kv.map (·.1)).Nodup
 eq:∀c,kv.lookup c=tq xs c
def nv(g:G):bf (aF g) (.int 0)=.ok (.str g.name):=rfl
def xA(g:G):G? (aF g):=rfl
def JW(b:Bool)(a:Nat)(kv:cK)(c:U Nat):uH b (.str c) (dd a kv)=.ok (.bl<|if(kv.lookup c).isSome then b else !b):=by show(guard_pos rfl).trans ?_;rw[oW];cases kv.lookup c<;>rfl
def pO(H:Hall rows C)(k:GOk g):bT [aT rows,aF g]=.ok (.lst<|(places rows C g).map aG):=KN.pS H k
def sD(H:Hall rows C)(g:G):(places rows C g).length<=10000:=by
 let h1:(places rows C g).length<=rows.n*C:=by rw[<-KG.l3];show A50 _ _
 let:=A64 H.r2 H.c2;lia
abbrev HE:SF:=dN (tE<|eB (uH AT) (eX 4 0)<|eM 1 2) (aN 3<|eB eP (eW 3)<|eB aS (eI 1)<|eU bj<|aj bT<|aV 0<|aV 4 ag) aR
def wC(H:Hall rows C)(X1:D):∀ys n l,(∀x∈ys,GOk x.1)->(∀x∈ys,kv.lookup x.1.name=x.2.map aG)->∃l',bM (aH 4) HE (ys.map λ x=>aF x.1) [v (aT rows),v X1,AC (.bor<|dd a kv),v (.int (n:Nat)),l]=.ok (.nx [v (aT rows),v X1,AC (.bor<|dd a kv),v (.int<|(n*aK rows C ys:Nat)),l'])
|[],n,l,_,_=>⟨l,by simp[bM,aK,bJ]⟩
|y::ys,n,l,hg,hh=>by
 let pl:=pO H<|hg y A13;let pf:=sD H y.1;let ei:=JW AT a kv y.1.name;rw[hh y A13]at ei;let hy:=λ z hz=>hg z<|A09 _ hz;let hk:=λ z hz=>hh z<|A09 _ hz;cases e:y.2 with
 |some p=>
  rw[e]at ei;let(l',q):=wC H (a:=a) X1 ys n (v<|aF y.1) hy hk;show(l',?_,);let ew:aK rows C (y::ys)=aK rows C ys:=by simp[aK,bJ,cw,e]
  rw[ew,<-q];simp[bM,HE,eM,nv,ei]
 |none=>
  rw[e]at ei;let(l',q):=wC H (a:=a) (kv:=kv) X1 ys (n*((places rows C y.1).length+1)) (v<|aF y.1) hy hk;show(l',?_,);let ew:n*aK rows C (y::ys)=n*((places rows C y.1).length+1)*aK rows C ys:=by simp[aK,bJ,cw,e,Nat.mul_assoc]
  rw[ew,<-q];let big:bN (n) (1+((places rows C y.1).length)):=fB ∅ ∅;let em:(n)*(1+((places rows C y.1).length))=((n*((places rows C y.1).length+1)):Int):=by push_cast;rw[Int.add_comm]
  simp[bM,HE,eM,nv,ei,pl,line,big,em]
def HD(H:Hall rows C)(h6:xs.n<=6)(hg:∀x∈xs,GOk x.1)(nd:(nms xs).Nodup)(h:CZ kv xs):fE [aT rows,ay xs,dd a kv]=.ok (.int<|aK rows C xs):=by rw[AA];show aA ?_;let(l',q):=wC H (a:=a) (kv:=kv) (ay xs) xs 1 At hg (λ x hx=>by rw[h.eq];show xM nd x hx);rw[B26]at q;erw[ay]at q ⊢;simp[nH,q];show⟨_,q,by simp ⟩
def yJ{ds:U D}(h:k<ds.n):cut ds At (AC<|k)++cut ds (AC<|(k)+1) At=ds.eraseIdx k:=by
 let e1:cut ds At _=ds.take k:=KG.pe ds ∅;let e2:cut ds (AC<|(k)+1) At=ds.drop (k+1):=by
  let:¬(k:Int)+1<0:=by lia
  let h3:((k:Int)+1).toNat=k+1:=by lia
  let h4:min (k+1) ds.n=k+1:=by lia
  simp[cut,c6,this,h4];rw[B45 ∅]
 rw[e1,e2,List.eraseIdx_eq_take_drop_succ]
def rP(h:k<ds.n)(hl:ds.n<=1000):dC [.tup ds,.int (k:Nat)]=.ok (.tup<|ds.eraseIdx k):=by
 rw[Cm];show aA ?_;let c1:=jh ds At<|some<|k;let c2:=jh ds (AC<|(k)+1) At;let g2:(cut ds At<|some<|k).length+(cut ds (AC<|(k)+1) At).length<=16777216:=by lia
 simp[p?,g2,yJ h]
end fA
namespace fA
open Z
section
variable{gl:U D}
def JP:∀{kv:cK},(kv.map (·.1)).Nodup->(kv.map λ p=>(GE p.1:Sum Int _)).Nodup
|[],_=>.nil
|q::kv,h=>by let h':=A19.mp h;show A19.mpr ⟨λ m=>h'.1 ?_,JP h'.2⟩;let(y,hy,e):=A07.mp m;show A07.mpr ⟨y,hy,A79 e⟩
def RJ(h:(kv.map (·.1)).Nodup)(hl:kv.n<1000):DB (.str n) d (AC<|some<|.bor<|dd a kv)=.ok (.bor<|dd a<|a9 n d kv):=by let nd:=JP h;let e:=Du n d kv;show(guard_pos ⟨rfl,by rw[A08];show hl,nd⟩).trans ?_;rw[e]
def RP(h:(kv.map (·.1)).Nodup)(hd:kv.lookup n=AC d):DF (.str n) (AC<|some<|.bor<|dd a kv)=.ok (d,.bor<|dd a<|bh n kv):=by let nd:=JP h;let e:=AL n kv;let f:=oW n kv;rw[hd]at f;show(guard_pos ⟨rfl,nd⟩).trans ?_;rw[f,e];rfl
def tU:∀{kv},kv.lookup n=At->bh n kv=kv
|[],_=>rfl
|(k,e)::kv,h=>by
 by_cases q:n=k
 .subst q;simp at h
 .let b:(n==k)=AT:=by simpa using q
  erw[Fa,b]at h;simp[bh,A10 q,tU h]
end
end fA
namespace fA
open Z
open KG (G GO Pl Rows Hall cX GOk aF aG bB aT places)
open KH (ay aq Good)
open KB (aK cw bJ iU iX Ext Full)
def Dr(g:G):Prop:=cX g/\KS.cR [aF g]=.ok (.bl Ch)/\KS.dZ [.str g.name]=.ok (.bl Ch)
structure I(rows:Rows)(C:Nat)(xs m:List GO)(kv:cK)(j:Nat):Prop where
 s:iU rows C xs m
 h:CZ kv xs
 l:kv.n<=j
 dr:∀x∈xs,Dr x.1
def NF(xs:U GO):∀y∈xs.map (λ x=>aF x.1),G? y:=λ y hy=>by let(z,_,rfl):=A07.mp hy;show xA z.1
def Kd(h:Good rows xs)(g:G):Good rows (xs++[(g,At)]):=by
 let key:∀i g' p,(xs++[(g,At)])[i]?=AC (g',AC p)->xs[i]?=AC (g',AC p):=λ i g' p e=>by
  by_cases c:i<xs.n
  .rwa [A23 c]at e
  .rw[A46 ∅]at e;cases q:i-xs.n with
   |zero=>rw[q]at e;ext e
   |succ n=>rw[q]at e;ext e
 intro i g' p e;let(h1,h2):=h i g' p (key i g' p e);show(h1,λ j g2 q ej ne=>h2 j g2 q (key j g2 q ej) ne,)
def N0(d:D)(ds:U D)(h:ds.n<=100):bf (.tup<|ds++[d]) (.int<|-1)=.ok d:=by
 let e:vS (ds.n+1) (-1)=AC ds.n:=by unfold vS;simp;lia
 simp[bf,e,guard_pos]
def GA(f:Full m)(h:m≠[])(hl:m.n<=6):∃p,bf (aq m) (.int<|-1)=.ok (aG p):=by
 obtain⟨r,y,rfl⟩:∃r y,m=r++[y]:=(_,_,(C80 h).symm,)
 cases e:y.2 with
 |none=>show(f _ y.1 (by rw[A46<|P3 _,Nat.sub_self,<-e];rfl)).elim
 |some p=>show(p,?_,);unfold aq;rw[A26,A00,A28,e];show N0 _ _ (by rw[A08];simp at hl;lia)
def Hv(n:Nat)(z:Int):gD n (.int z) (.int z)=AC Ch:=by
 let:gD n (.int z) (.int z)=AC (z==z):=by ext n<;>rfl
 rw[this,A60]
def OP(n:Nat)(z:U Nat):gD n (.str z) (.str z)=AC Ch:=by
 let:gD n (.str z) (.str z)=AC (z==z):=by ext n<;>rfl
 rw[this,A60]
def j7:∀ds,(∀d∈ds,f d d=AC Ch)->allEq f ds ds=AC Ch
|[],_=>rfl
|d::ds,h=>by erw[allEq,h d A13,j7 ds λ z hz=>h z<|A09 _ hz];rfl
def x!(n:Nat)(p:Pl):gD (n+1) (aG p) (aG p)=AC Ch:=j7 _ λ d hd=>by
 rcases A01.mp hd with rfl|hd
 .exact Hv _ _
 .rw[A11.mp hd];show Hv _ _
def Jf(h:kH d d=AC Ch):oEq d d=.ok (.bl Ch)/\l_ d d=.ok (.bl AT):=⟨by unfold oEq;rw[h],by unfold l_;rw[h];rfl⟩
variable{j k x a:Nat}{g:G}
def Jh(nd:(nms xs).Nodup)(dr:∀x∈xs,Dr x.1)(hk:xs[k]?=AC y):ba [dk x hall (ay xs) hl ps,.str y.1.name]=.ok (.int<|k):=by
 let(h1,h2):=A02.mp hk;let sp:xs=xs.take k++y::xs.drop (k+1):=by rw[<-h2,List.getElem_cons_drop,C75]
 let yB:(xs.take k).length=k:=by rw[A33];lia
 let e:ay xs=.tup ((xs.take k).map (λ x=>aF x.1)++aF y.1::(xs.drop<|k+1).map λ x=>aF x.1):=by rw[<-A00 (f:=λ x=>aF x.1) (a:=y),<-A26,<-sp];rfl
 rw[e];let r:=SA (x:=x) (hall:=hall) (hl:=hl) (ps:=ps) (dr y<|A21 hk).2.2 (by
  rw[<-A00,<-A26,<-sp];show NF xs) (λ d hd=>by
  let(q,hq,rfl):=A07.mp hd;intro eq;rw[sp]at nd;erw[A26]at nd;show(B52.mp nd).2.2 q.1.name (A07.mpr ⟨q,hq,rfl⟩) y.1.name A13 eq) rfl
 rw[A08,yB]at r;show r
def XA(hk:m[k]?=AC z):bf (aq m) (.int<|k)=.ok (bB z.2):=by
 let e:(m.map λ x=>bB x.2)[k]?=AC (bB z.2):=by rw[A06,hk];rfl
 show(da rfl e).1
def MQ(s:iU rows C xs m)(hk:xs[k]?=AC y):∃p,m[k]?=AC (y.1,AC p):=by
 let(o',e,_):=s.best.ext.at hk;cases o' with
 |none=>show(s.best.full k y.1 e).elim
 |some p=>show(p,e,)
def Bm(h:k<xs.n)(h6:xs.n<=6):dC [ay xs,.int (k)]=.ok (ay<|xs.eraseIdx k):=by let e:=rP (ds:=xs.map λ x=>aF x.1) (by rw[A08];show h) (by rw[A08];lia);unfold ay;rw[KB.m_];show e
def Bl(h:k<xs.n)(h6:xs.n<=6):dC [aq xs,.int (k)]=.ok (aq<|xs.eraseIdx k):=by let e:=rP (ds:=xs.map λ x=>bB x.2) (by rw[A08];show h) (by rw[A08];lia);unfold aq;rw[KB.m_];show e
end fA
namespace fA
open Z KG
open KH
def zZ(z:Int):∃a b,a∈aL/\b∈aL/\cF [.int z]=.ok (.str [a,b]):=KM.zY z
def JA(c:Int)(hn:n<=1000):∃ms:U Int,ms.n=n/\(∀m∈ms,0<=m/\m<2147483587)/\cP [.int c,.int n]=.ok (.lst<|ms.map .int):=KM.Jz c hn
def Am(hb:Bd ns):∃rows R C,jn C R rows/\1<=R/\R<=6/\1<=C/\C<=12/\jf [.lst (ns.map .int)]=.ok (aT rows):=by
 let(f,ef,hf):=lV hb (k:=0) ∅;let(c1,ec1,_):=lV hb (k:=1) ∅;let hz:Szs [2,6,12,1000000000000000000000000000000000000000000000000000000000000]:=⟨by decide,by decide⟩
 let dg0:=lS hz f;erw[A00,A28,jH]at dg0;let(R,hR):=m9 (z:=f / 2 % 6+1) ∅;let(C,hC):=m9 (z:=f / 2 / 6 % 12+1) ∅;let _B:1<=R/\R<=6:=by lia
 let Vz:1<=C/\C<=12:=by lia
 let q1:bN (R) (C):=c7 ∅ ∅;let hrc:R*C<=100:=A15 (A64 _B.2 Vz.2) ∅;obtain⟨N,X2,hN⟩:∃N:Nat,(R:Int)*C=(N:Int)/\N=R*C:=⟨R*C,by push_cast;rfl,rfl⟩
 rw[<-hN]at hrc;let dg:=lS (MA hrc) c1;rw[List.map_replicate]at dg;let hg:N<=16777216:=by lia
 let(la,lb,hla,hlb,el):=zZ (f / 2 / 6 / 12 % 1000000000000000000000000000000000000000000000000000000000000);let key:Ok (a!<|iP [v (.lst<|ns.map .int),At,At,At,At,At,At,At,At]) λ d=>∃rows R C,jn C R rows/\1<=R/\R<=6/\1<=C/\C<=12/\d=aT rows:=by
  show pL ?_;by_cases hm:f % 2=0
  .simp[iP,ef,ec1,line,dg0,tD,h9,hR,hC,q1,BU,X2,hg,dg,hm];show⟨by lia,?_⟩;show nc ∅ (by simp;lia) ?_;intro d hd;obtain⟨R',rfl,Vy⟩:∃R':Nat,d=.int R'/\1<=R'/\R'<=6:=by
    simp at hd;rcases hd with rfl|rfl|rfl|rfl|rfl|rfl
    all_goals first|show⟨1,rfl,by decide⟩|show⟨2,rfl,by decide⟩|show⟨3,rfl,by decide⟩|show⟨4,rfl,by decide⟩|show⟨6,rfl,by decide⟩
   simp[iP,ef,ec1,line,dg0,tD,h9,hR,hC,q1,BU,X2,hg,dg,hm];show nc ∅ (by simp;lia) ?_;intro d hd;obtain⟨C',rfl,Ez⟩:∃C':Nat,d=.int C'/\1<=C'/\C'<=12:=by
    simp at hd;rcases hd with rfl|rfl|rfl|rfl|rfl|rfl|rfl|rfl|rfl|rfl|rfl|rfl
    all_goals first|show⟨1,rfl,by decide⟩|show⟨2,rfl,by decide⟩|show⟨3,rfl,by decide⟩|show⟨4,rfl,by decide⟩|show⟨5,rfl,by decide⟩|show⟨6,rfl,by decide⟩|show⟨7,rfl,by decide⟩|show⟨8,rfl,by decide⟩|show⟨12,rfl,by decide⟩
   let p1:bN (R':Int) (C':Int):=c7 ∅ ∅;let prc:R'*C'<=100:=A15 (A64 Vy.2 Ez.2) ∅;obtain⟨N',aaN,pN⟩:∃N:Nat,(R':Int)*C'=(N:Int)/\N=R'*C':=⟨R'*C',by push_cast;rfl,rfl⟩
   let(ms,hml,hmp,em):=JA c1 (n:=N') ∅;let abG:ms.n<=16777216:=by lia
   simp[el,ef,dg0,tD,h9,hR,hC,q1,BU,X2,hg,dg,hm,line,a_,cV,ec1,p1,aaN,em,abG];show bF D.int (λ _=>Ch) (λ x=>.int<|x / 3 % 9) (xs:=ms) (λ x hx=>?_) ?_
   .simp[bD]
   .rw[j6];let e1:ms.map (λ x=>D.int<|x / 3 % 9)=(ms.map λ x=>x / 3 % 9).map D.int:=by rw[A24];rfl
    rw[e1];obtain⟨nums,JZ⟩:∃nums,nums=ms.map λ x=>x / 3 % 9:=(_,rfl,)
    rw[<-JZ];let k46:46∈signs:=by decide
    let k61:61∈signs:=by decide
    let k35:35∈signs:=by decide
    simp[ef,dg0,line,a_,cV,ec1,p1,aaN];show KM.sA (sg:=[46,46,46,46,46,61,35,la,lb]) (nums:=nums) (R:=R') (C:=C') ∅ (by simp[k46,k61,k35,oM hla,oM hlb]) ?_ (by simp[JZ,hml,pN]) Vy.2 Ez.2 rfl _ _ _ _ ?_
    .intro x hx;rw[JZ]at hx;let(j,_,rfl):=A07.mp hx;simp;lia
    .intro rows x jE;simp[line];show(rows,R',C',jE,Vy.1,Vy.2,Ez.1,Ez.2,rfl,)
  .simp[iP,ef,ec1,line,dg0,tD,h9,hR,hC,q1,BU,X2,hg,dg,hm];show⟨by lia,?_⟩;show KM.sA (sg:=signs) (nums:=jH c1 (Db N 29)) (R:=R) (C:=C) ∅ (λ c hc=>hc) ?_ (by rw[tX,A81];show hN) _B.2 Vz.2 rfl _ _ _ _ ?_
   .intro x hx;let:=EN c1 _ 29 (λ s hs=>by rw[C73 hs];decide) x hx;rw[FE];show this
   .intro rows x jE;simp[line];show(rows,R,C,jE,_B.1,_B.2,Vz.1,Vz.2,rfl,)
 let(d,e,rows,R',C',jE,r1,r2,c1',VF,rfl):=key;show⟨rows,R',C',jE,r1,r2,c1',VF,by rw[AD];show e⟩
end fA
namespace fA
open Z
def B5(z:Int):Nat:=aL.getD (z % 26).toNat 0
def Qr(z:Int):B5 z∈aL/\bf (.str aL) (.int<|z % 26)=.ok (.str [B5 z]):=by
 let h26:aL.n=26:=rfl;let hj:(z % 26).toNat<aL.n:=by lia
 let e:aL[(z % 26).toNat]?=AC (B5 z):=by unfold B5;rw[List.getD_eq_getElem?_getD,A04 hj];rfl
 show(A21 e,oN ∅ e ∅,)
def NY(h:B5 a=B5 b):a % 26=b % 26:=by
 let q:∀i<26,∀j<26,aL.getD i 0=aL.getD j 0->i=j:=by decide
 let:=q (a % 26).toNat ∅ (b % 26).toNat ∅ h;rw[<-Int.toNat_of_nonneg (B84 a (b:=26) ∅),this];show Int.toNat_of_nonneg (B84 b ∅)
def LQ(c at' st:Int)(k j:Nat):Nat:=B5<|c / (400+30*(j:Int)*(j:Int))+st*(k:Int)*(if(j:Int)=at' then 1 else 0)
def xB(c:Int)(m:Nat)(hm:m<=18):∃nms:U (U Nat),nms.n=m/\nms.Nodup/\(∀n∈nms,KS.G_ n)/\ij [.int c,.int (m:Nat)]=.ok (.lst<|nms.map .str):=by
 obtain⟨st,oO,est⟩:∃s,s∈([1,3,5,7,9,11]:U Nat)/\bf (.lst [.int 1,.int 3,.int 5,.int 7,.int 9,.int 11]) (.int<|c / 64 % 6)=.ok (.int s):=by let(d,hd,e,_):=Ek (xs:=([1,3,5,7,9,11]:U Nat).map λ n=>D.int (n:Nat)) (i:=c / 64 % 6) ∅ (by simp;lia);let(s,hs,rfl):=A07.mp hd;show(s,hs,e,)
 obtain⟨n,hn,h1,h8⟩:∃n:Nat,1+c % 8=n/\1<=n/\n<=8:=by let(k,e):=Int.eq_ofNat_of_zero_le (B84 c (b:=8) ∅);let q:=B83 c (b:=8) ∅;rw[e]at q;show(1+k,by rw[e];rfl,Nat.le_add_right _ _,by lia,)
 let hn0:(0:Int)<n:=by lia
 let fd:∀j:Nat,j<8->ir (400+30*(j:Int)*(j:Int)):=by unfold ir;decide
 let f30:∀x,bN 30 x:=λ x=>c7 ∅ ∅;let fj:∀x (j:Nat),j<100->bN x (j:Int):=λ x j hj=>fB ∅ ∅;let f0:∀x,bN x 0:=λ x=>fB ∅ ∅;let f1:∀x,bN x 1:=λ x=>fB ∅ ∅;obtain⟨a,ha⟩:∃a:Int,c / 8 % n=a:=(_,rfl,)
 let ha0:0<=a:=by rw[<-ha];show B84 _ ∅
 let han:a<n:=by rw[<-ha];show B83 _ hn0
 let:Ok (a!<|ji [v (.int c),v (.int (m:Nat)),At,At,At,At,At,At,At,At,At]) λ d=>d=.lst ((EQ m).map λ k=>.str<|(EQ n).map<|LQ c a st k):=by
  show pL ?_;simp[ji,bD,hn,hn0,est,line,h1,ha];clear hn ha;show⟨by lia,?_⟩;show eQ (λ i Y=>∃x7 x8 x9 x10,Y=[vi c,vi (m:Nat),vs aL,vi n,vi a,vi st,ow ((EQ i).map λ k=>.str<|(EQ n).map<|LQ c a st k),x7,x8,x9,x10]) ⟨At,At,At,At,rfl⟩ ?_ ?_
  .rintro i d Y hd ⟨x7,x8,x9,x10,rfl⟩;let(hi,rfl):=Ep hd;simp;show eQ (λ j Y=>∃x9 x10,Y=[vi c,vi (m:Nat),vs aL,vi n,vi a,vi st,ow ((EQ i).map λ k=>.str<|(EQ n).map<|LQ c a st k),vi (i:Nat),vs ((EQ j).map<|LQ c a st i),x9,x10]) ⟨_,_,rfl⟩ ?_ ?_
   .rintro j d Y hj ⟨x9,x10,rfl⟩;let(hj,rfl):=Ep hj;let hj8:j<8:=by lia
    let(hq,eq):=Qr (c / (400+30*(j:Int)*(j:Int))+st*(i:Int)*(if(j:Int)=a then 1 else 0));by_cases he:(j:Int)=a
    .rw[M2 he,B58]at eq;let ht:((j:Int)=a)=True:=eq_true he;simp[f0,f1,f30,fj _ j ∅,fj _ i ∅,fd j hj8,ht,zH,line,eq];simp[A85,LQ,ht];lia
    .rw[W1 he,Int.mul_zero,Int.add_zero]at eq;simp[f0,f1,f30,fj _ j ∅,fj _ i ∅,fd j hj8,he,zH,line,eq];simp[A85,LQ,he];lia
   .rintro Y ⟨x9,x10,rfl⟩;rw[fX];simp[line,A85];lia
  .rintro Y ⟨x7,x8,x9,x10,rfl⟩;rw[fX];simp
 let Tr:1<=st/\st<=11:=(by decide:∀s∈([1,3,5,7,9,11]:U Nat),1<=s/\s<=11) st oO;rw[<-xV]at this;let(d,e,rfl):=this;let nk:∀k,KS.G_ ((EQ n).map<|LQ c a st k):=λ k=>⟨by simp;lia,by simp;lia,λ q hq=>by let(j,_,rfl):=A07.mp hq;show(Qr _).1⟩
 show⟨(EQ m).map λ k=>(EQ n).map<|LQ c a st k,by simp,?_,λ q hq=>?_,by rw[e,A24];rfl⟩
 .refine B53.mpr<|C78 (λ {k k'} hk X? (lt:k<k') z=>?_) C37;rw[A25]at hk X?;let ha':a.v<n:=(Int.toNat_lt ha0).mpr han
  let g:∀k,((EQ n).map<|LQ c a st k)[a.v]?=AC (LQ c a st k a.v):=λ k=>by rw[A06,lm ha'];rfl
  let z2:=(g k).symm.trans<|(A14 (λ l:U Nat=>l[a.v]?) z).trans<|g k';let z3:=NY<|f8 z2;let ea:((a.v:Nat):Int)=a:=Int.toNat_of_nonneg ha0
  rw[M2 ea]at z3;generalize c / (400+30*((a.v:Nat):Int)*((a.v:Nat):Int))=y at z3;erw[B58]at z3;let fin:∀s∈([1,3,5,7,9,11]:U Nat),∀k<18,∀k'<18,k<k'->(s*k) % 26≠(s*k') % 26:=by decide
  let:=fin st oO k ∅ k' ∅ lt;let e1:(st:Int)*(k:Int)=((st*k:Nat):Int):=by push_cast;rfl
  let e2:(st:Int)*(k':Int)=((st*k':Nat):Int):=by push_cast;rfl
  rw[e1,e2]at z3;generalize st*k=p at *;generalize st*k'=q at *;show this (Int.ofNat_inj.mp (Int.emod_add_cancel_left.mp z3))
 .let(k,_,rfl):=A07.mp hq;show nk k
end fA
namespace fA
open Z KG
open KH
def Kb(z:Int){nm:U Nat}(Hr:KS.G_ nm){a b:Nat}(ha:a∈aL)(hb:b∈aL):∃s:KS.Gp,KS.C1 s/\s.nm=nm/\ik [.str nm,.int z,.str [a,b]]=.ok (KS.dQ s):=by
 let(ms,hml,hmp,em):=JA z (n:=9) ∅;let(m0,m1,m2,m3,m4,m5,m6,m7,m8,rfl):=KN.NG hml;let i0:bf (.str [a,b]) (.int 0)=.ok (.str [a]):=oN (j:=0) rfl rfl (by simp[line]);let i1:bf (.str [a,b]) (.int 1)=.ok (.str [b]):=oN (j:=1) rfl rfl (by simp[line]);let n9:∀a b c d e f g i j,bf (.lst [a,b,c,d,e,f,g,i,j]) (.int 0)=.ok a/\bf (.lst [a,b,c,d,e,f,g,i,j]) (.int 1)=.ok b/\bf (.lst [a,b,c,d,e,f,g,i,j]) (.int 2)=.ok c/\bf (.lst [a,b,c,d,e,f,g,i,j]) (.int 3)=.ok d/\bf (.lst [a,b,c,d,e,f,g,i,j]) (.int 4)=.ok e/\bf (.lst [a,b,c,d,e,f,g,i,j]) (.int 5)=.ok f/\bf (.lst [a,b,c,d,e,f,g,i,j]) (.int 6)=.ok g/\bf (.lst [a,b,c,d,e,f,g,i,j]) (.int 7)=.ok i/\bf (.lst [a,b,c,d,e,f,g,i,j]) (.int 8)=.ok j:=λ _ _ _ _ _ _ _ _ _=>(rfl,rfl,rfl,rfl,rfl,rfl,rfl,rfl,rfl,)
 erw[A00,A28]at em;replace em:cP [.int z,.int 9]=.ok (.lst [.int m0,.int m1,.int m2,.int m3,.int m4,.int m5,.int m6,.int m7,.int m8]):=em;let fin:∀x0 x1 x2 x4 x5 x6 x7 x8 x9,Ok (bM (aH 11) (dN (tE<|eB oEq (eB oMod (eB oDiv (eX 3 7)<|eB aS (eI 3)<|eB eP (eI 2)<|eW 11)<|eI 4)<|eI 1) (b9 10<|cm<|aV 11<|ai (eB aS (eI 1)<|eB oMod (eB oDiv (eX 3 8)<|eB aS (eI 2)<|eW 11)<|eI 3) ag) aR) («zints» 0 6) [x0,x1,x2,v (.lst [.int m0,.int m1,.int m2,.int m3,.int m4,.int m5,.int m6,.int m7,.int m8]),x4,x5,x6,x7,x8,x9,ow [],At]) λ fl=>∃wl x,KS.A7 6 wl/\fl=.nx [x0,x1,x2,v (.lst [.int m0,.int m1,.int m2,.int m3,.int m4,.int m5,.int m6,.int m7,.int m8]),x4,x5,x6,x7,x8,x9,ow (wl.map KS.i'),x]:=by
  intro x0 x1 x2 x4 x5 x6 x7 x8 x9;show eQ (λ i Y=>∃wl x,KS.A7 i wl/\Y=[x0,x1,x2,v (.lst [.int m0,.int m1,.int m2,.int m3,.int m4,.int m5,.int m6,.int m7,.int m8]),x4,x5,x6,x7,x8,x9,ow (wl.map KS.i'),x]) ⟨[],At,⟨by simp,by simp,by simp⟩,rfl⟩ ?_ ?_
  .rintro j y Y hj ⟨wl,x,hl,rfl⟩;let(A_,rfl):=ints_get hj;let q1:bN 2 (j:Int):=c7 ∅ ∅;let q2:ir (3+2*(j:Int)):=bD ∅ ∅;let q3:ir (2+(j:Int)):=bD ∅ ∅;let hll:wl.n<16777216:=by let:=hl.l;lia
   let(u,hu):=m9 (z:=1+m8 / (2+(j:Int)) % 3) ∅;by_cases h:m7 / (3+2*(j:Int)) % 4=1
   .simp[line,n9,q1,q2,q3,h,hll];rw[hu];let hu4:u<4:=by lia
    show⟨wl++[(j,u)],hl.snoc ∅<|A18 hu4 ∅,by simp[KS.i']⟩
   .simp[line,n9,q1,q2,h];show(wl,hl.next,rfl,)
  .rintro Y ⟨wl,x,hl,rfl⟩;show⟨wl,x,by calc hl,rfl⟩
 rw[xX];let:Ok (a!<|jk [v (.str nm),v (.int z),v (.str [a,b]),At,At,At,At,At,At,At,At,At]) λ x=>∃s,KS.C1 s/\s.nm=nm/\x=KS.dQ s:=by
  show pL ?_;simp[jk,bD,em,n9,line,i0,i1];show nc ∅ (by simp;lia) ?_;intro x hx;obtain⟨w,rfl,w1,w2⟩:∃d:Nat,x=.int d/\1<=d/\d<=12:=by
   simp at hx;rcases hx with rfl|rfl|rfl|rfl|rfl|rfl|rfl|rfl
   all_goals first|show⟨1,rfl,by decide,by decide⟩|show⟨2,rfl,by decide,by decide⟩|show⟨3,rfl,by decide,by decide⟩|show⟨4,rfl,by decide,by decide⟩
  simp[jk,bD,em,n9,line,i0,i1];show nc ∅ (by simp;lia) ?_;intro x hx;obtain⟨d,rfl,d1,d2⟩:∃d:Nat,x=.int d/\1<=d/\d<=3:=by
   simp at hx;rcases hx with rfl|rfl|rfl|rfl|rfl|rfl|rfl|rfl
   all_goals first|show⟨1,rfl,by decide,by decide⟩|show⟨2,rfl,by decide,by decide⟩|show⟨3,rfl,by decide,by decide⟩
  simp[jk,bD,em,n9,line,i0,i1];show nc ∅ (by simp;lia) ?_;intro x hx;obtain⟨kd,rfl,hkd⟩:∃kd,x=.str kd/\(kd=[]\/∃c∈aL,kd=[c]):=by
   simp at hx;rcases hx with rfl|rfl|rfl|rfl|rfl|rfl
   all_goals first|show([],rfl,.inl rfl,)|show(_,rfl,.inr ⟨_,ha,rfl⟩,)|show(_,rfl,.inr ⟨_,hb,rfl⟩,)
  simp[jk,bD,em,n9,line,i0,i1];show nc ∅ (by simp;lia) ?_;intro x hx;obtain⟨wz,rfl⟩:∃wd:Nat,x=.int wd:=by
   simp at hx;rcases hx with rfl|rfl|rfl|rfl|rfl|rfl
   all_goals first|show(0,rfl,)|show(1,rfl,)|show(2,rfl,)
  let p1:bN (w:Int) (d:Int):=c7 ∅ ∅;obtain⟨wd,hwd,XW⟩:∃wd:Nat,min (wz:Int) ((w:Int)*d)=(wd:Int)/\wd<=w*d:=⟨min wz<|w*d,by
   let hN:((w*d:Nat):Int)=(w:Int)*d:=by push_cast;rfl
   rw[<-hN,mN!],Nat.min_le_right _ _⟩
  simp[p1,hwd,bD,em,n9,line,i0,i1];show nc ∅ (by simp;lia) ?_;intro x hx;obtain⟨gp,rfl,hgp⟩:∃gp:Nat,x=.int gp/\gp<=6:=by
   simp at hx;rcases hx with rfl|rfl|rfl|rfl|rfl|rfl|rfl|rfl
   all_goals first|show⟨0,rfl,by decide⟩|show⟨1,rfl,by decide⟩|show⟨2,rfl,by decide⟩|show⟨6,rfl,by decide⟩
  let p6:bN m6 100000000000000000000000000000000000000000000000000:=by let:=hmp m6 ∅;show c7 ∅ ∅
  simp[bD,em,n9,line,i0,i1];show(p6,?_,);rw[Rn];obtain⟨wt,Gr,hwb⟩:∃wt:Nat,(if m5 / 20 % 6=5 then D.int (m6*100000000000000000000000000000000000000000000000000)else D.int (m5 / 5 % 4))=.int (wt:Nat)/\wt<10^60:=by
   let h6:=hmp m6 ∅;by_cases h:m5 / 20 % 6=5
   .let(u,hu):=m9 (z:=m6*100000000000000000000000000000000000000000000000000) ∅;let jO:u<2147483587*100000000000000000000000000000000000000000000000000:=by lia
    show⟨u,by rw[M2 h,hu],A18 jO ∅⟩
   .let(u,hu):=m9 (z:=m5 / 5 % 4) ∅;let jO:u<4:=by lia
    show⟨u,by rw[W1 h,hu],A18 jO ∅⟩
  rw[Gr];simp[line,n9];show(fin _ _ _ _ _ _ _ _ _).imp ?_;rintro fl ⟨wl,x,hl,rfl⟩;simp[line];show((nm,w,d,kd,wd,gp,wt,wl,),(Hr.1,Hr.2.1,Hr.2.2,w1,w2,d1,d2,hkd,XW,hgp,hwb,hl.l,λ p hp=>?_,hl.up,),rfl,rfl,);let(h1,h2,h3):=hl.r p hp;show⟨by lia,h2,h3⟩
 let(x,e,g,hg,hn,rfl):=this;show(g,hg,hn,e,)
def UT(z:Int){K:Nat}(h:0<K):∃u:Nat,z % (K)=(u)/\u<K:=by let(u,hu):=m9 (z:=z % (K)) (B84 _ ∅);let:=B83 z (show(0)<(K:Int)by lia);show⟨u,hu,by lia⟩
def tW:∀(ss:U Nat)(c:Int),(∀s∈ss,0<s)->∃us:U Nat,us.n=ss.n/\jH c (ss.map Nat.cast)=us.map Nat.cast/\∀(i:Nat) s u,ss[i]?=AC s->us[i]?=AC u->u<s
|[],c,_=>⟨[],rfl,rfl,by simp⟩
|s::ss,c,h=>by
 let(u,hu,hb):=UT c (h s A13);let(us,h1,h2,h3):=tW ss (c / s) λ z hz=>h z (A09 _ hz);show⟨u::us,by simp[h1],?_,λ i s' u'=>?_⟩
 .show c % s::jH (c / s) (ss.map _)=_;rw[hu,h2];rfl
 .cases i with
  |zero=>simp;rintro rfl rfl;show hb
  |succ i=>calc h3 i s' u'
def UY(c:Int)(Hr:KS.G_ nm):∃s,KS.C1 s/\s.nm=nm/\j3 [.str nm,.int c]=.ok (KS.dQ s):=by
 let(us,l6,ed,bd):=tW [12,3,27,7,64,37] c ∅;let dg:=lS (ss:=[12,3,27,7,64,37]) ⟨by decide,by decide⟩ c;rw[show jH c [12,3,27,7,64,37]=_ from ed]at dg;rcases us with _|⟨w,_|⟨d,_|⟨kd,_|⟨gp,_|⟨bt,_|⟨wz,_|_⟩⟩⟩⟩⟩⟩<;>simp at l6
 let w12:=bd 0 _ _ rfl rfl;let d3:=bd 1 _ _ rfl rfl;let k27:=bd 2 _ _ rfl rfl;let g7:=bd 3 _ _ rfl rfl;erw[A00,A28]at dg;obtain⟨M,hM,hM2⟩:∃M:Nat,((w:Int)+1)*((d:Int)+1)=(M:Int)/\M=(w+1)*(d+1):=⟨(w+1)*(d+1),by push_cast;rfl,rfl⟩
 let hM3:M<=36:=by rw[hM2];show A15 (A64 (by lia:w+1<=12) (by lia:d+1<=3)) ∅
 let(wd,hwd):=m9 (z:=(wz:Int) % ((M:Int)+1)) (B84 _ ∅);let XW:wd<=M:=by let:=B83 (wz:Int) (show(0:Int)<(M:Int)+1 by lia);lia
 let q1:bN ((w:Int)+1) ((d:Int)+1):=c7 ∅ ∅;let q3:(0:Int)<(M:Int)+1:=by lia
 let(vs,l7,ed2,Zd):=tW (10^60::Db 6 (10^60-1)) (c / 16111872) ∅;let dg2:=lS (ss:=(10^60::Db 6 (10^60-1):U Nat).map Nat.cast) ⟨by decide,by decide⟩<|c / 16111872;rw[ed2]at dg2;rcases vs with _|⟨u0,_|⟨u1,_|⟨u2,_|⟨u3,_|⟨u4,_|⟨u5,_|⟨u6,_|_⟩⟩⟩⟩⟩⟩⟩<;>simp at l7
 simp[Db]at dg2;obtain⟨kc,hkc,ekc⟩:∃kc∈aL,bf (.str aL) (.int<|(kd:Int)-1)=.ok (.str [kc]):=by
  by_cases h:kd=0
  .subst h;show⟨122,by decide,by simp[bf,vS,aL,line,guard_pos]⟩
  .exact sX ∅ (by simp[aL];lia) ∅
 obtain⟨kx,hkx,ekx⟩:∃kx,(kx=[]\/∃c∈aL,kx=[c])/\bf (.lst [.str [],.str [kc]]) (.int<|if 0<kd then 1 else 0)=.ok (.str kx):=by
  by_cases h:0<kd
  .exact⟨[kc],.inr ⟨kc,hkc,rfl⟩,by rw[M2 h];rfl⟩
  .exact⟨[],.inl rfl,by rw[W1 h];rfl⟩
 rw[Cp];let:Ok (a!<|lX [v (.str nm),v (.int c),At,At,At,At,At,At,At,At]) λ x=>x=KS.dQ ⟨nm,w+1,d+1,kx,wd,gp,u0,((EQ 6).filter λ i=>decide<|(bt:Int) / pw2 i % 2=1).map λ i=>(i,1+([u1,u2,u3,u4,u5,u6][i]?.getD 0))⟩:=by
  show pL ?_;simp[lX,line,S7,dg,tD,h9,bD,q1,hM,q3,hwd,BU,dg2,a_,cV,cq,ekc,ekx];let e6:«zints» 0 6=(EQ 6).map λ i=>D.int ((i:Nat):Int):=by simp[«zints»]
  let i0:bf (.lst [.int (u0:Nat),.int (u1:Nat),.int (u2:Nat),.int (u3:Nat),.int (u4:Nat),.int (u5:Nat),.int (u6:Nat)]) (.int 0)=.ok (.int (u0:Nat)):=rfl;rw[e6];show bF (λ i=>D.int ((i:Nat):Int)) (λ i=>decide<|(bt:Int) / pw2 i % 2=1) (λ i=>KS.i' (i,1+([u1,u2,u3,u4,u5,u6][i]?.getD 0))) (λ i hi=>?_) ?_
  .let t2:∀a b c d e f,bf (.lst [a,b,c,d,e,f]) (.int 0)=.ok a/\bf (.lst [a,b,c,d,e,f]) (.int 1)=.ok b/\bf (.lst [a,b,c,d,e,f]) (.int 2)=.ok c/\bf (.lst [a,b,c,d,e,f]) (.int 3)=.ok d/\bf (.lst [a,b,c,d,e,f]) (.int 4)=.ok e/\bf (.lst [a,b,c,d,e,f]) (.int 5)=.ok f:=λ _ _ _ _ _ _=>(rfl,rfl,rfl,rfl,rfl,rfl,)
   let t7:∀o a b c d e f,bf (.lst [o,a,b,c,d,e,f]) (.int 1)=.ok a/\bf (.lst [o,a,b,c,d,e,f]) (.int 2)=.ok b/\bf (.lst [o,a,b,c,d,e,f]) (.int 3)=.ok c/\bf (.lst [o,a,b,c,d,e,f]) (.int 4)=.ok d/\bf (.lst [o,a,b,c,d,e,f]) (.int 5)=.ok e/\bf (.lst [o,a,b,c,d,e,f]) (.int 6)=.ok f:=λ _ _ _ _ _ _ _=>(rfl,rfl,rfl,rfl,rfl,rfl,)
   let hi:=A25.mp hi;obtain h|h|h|h|h|h:i=0\/i=1\/i=2\/i=3\/i=4\/i=5:=by lia
   all_goals subst h
   all_goals
    simp[line,bD,t2,t7,pw2,KS.i']
    try (rw[A59];simp)
  .simp[lX,line,S7,dg,tD,h9,bD,q1,hM,q3,hwd,BU,dg2,a_,cV,cq,ekc,ekx];rw[i0];simp[KS.dQ]
 let(x,e,rfl):=this;show(_,⟨Hr.1,Hr.2.1,Hr.2.2,by change 1<=w+1;lia,by change w+1<=12;lia,by change 1<=d+1;lia,by change d+1<=3;lia,hkx,by change wd<=(w+1)*(d+1);lia,by change gp<=6;lia,?_,?_,?_,?_⟩,rfl,e,)
 .exact Zd 0 _ _ rfl rfl
 .show(((EQ 6).filter _).map _).length<=6;rw[A08];show A15 (A50 _ _) ∅
 .intro p hp;let(i,hi,rfl):=A07.mp hp;let hi:=A25.mp (A44.mp hi).1;show⟨by change i<=5;lia,by change 1<=1+_;lia,?_⟩;change 1+[u1,u2,u3,u4,u5,u6][i]?.getD 0<10^60;obtain⟨u,hu⟩:∃u,[u1,u2,u3,u4,u5,u6][i]?=AC u:=(_,A04 (by calc hi),)
  rw[hu];show Nat.add_lt_of_lt_sub'<|Zd (i+1) _ u (by rw[C67,A53,M2 hi]) hu
 .show((((EQ 6).filter _).map _).map _).Pairwise _;rw[A24];show B53.mpr<|(C37.filter _).imp λ h=>h
def XG(h:KS.G_ nm):KS.dZ [.str nm]=.ok (.bl Ch):=by
 rw[KS.D7 nm (by let:=h.2.1;lia)];let:KS.vJ nm=Ch:=by simp[KS.vJ,h.1,h.2.1];show h.2.2
 rw[this]
def drawn(k:KS.C1 s):∃g,KS.dQ s=aF g/\Dr g/\g.name=s.nm:=((s.nm,s.w,s.d,s.kd,s.wi,s.ga,.int s.wo,.tup<|s.ws.map KS.i',),rfl,(acx k.w1 k.w2 k.d1 k.d2 k.kd k.wi k.ga ⟨(s.wo),s.ws.map λ p=>((p.1),(p.2)),by rw[A08];show k.wl,rfl,by rw[A24];rfl⟩,KS.Ka k,XG ⟨k.n1,k.n2,k.nl⟩,),rfl,)
def uO(hb:Bd ns){st:Int}(oO:0<=st){nms:U (U Nat)}(hl:nms.n<=18)(hN:∀n∈nms,KS.G_ n):∃gs:U G,gs.map (·.name)=nms/\(∀g∈gs,Dr g)/\gP [.lst (ns.map .int),.int st,.lst (nms.map .str)]=.ok (.tup<|gs.map aF):=by
 let(f,ef,hf):=lV hb (k:=0) ∅;let(la,lb,hla,hlb,el):=zZ (f / 144 % 1000000000000000000000000000000000000000000000000000000000000);let hlm:nms.n<=16777216:=by lia
 let:Ok (a!<|iu [v (.lst<|ns.map .int),v (.int st),v (.lst<|nms.map .str),At,At,At,At]) λ d=>∃gs:U G,gs.map (·.name)=nms/\(∀g∈gs,Dr g)/\d=.tup (gs.map aF):=by
  show pL ?_;simp[iu,ef,bD,el,line,hlm];show eQ (λ i Y=>∃gs x5 x6,gs.map (·.name)=nms.take i/\(∀g∈gs,Dr g)/\Y=[v (.lst<|ns.map .int),v (.int st),v (.lst<|nms.map .str),vs [la,lb],ow (gs.map aF),x5,x6]) ⟨[],At,At,by simp,by simp,rfl⟩ ?_ ?_
  .rintro j d Y hj ⟨gs,x5,x6,J9,hg,rfl⟩;let(A_,rfl):=ints_get hj;let(c,ec,_):=lV hb (k:=st+(j:Int)) ∅;obtain⟨nm,Hr⟩:∃nm,nms[j]?=AC nm:=(_,A04 A_,)
   let en:bf (.lst<|nms.map .str) (.int (j:Int))=.ok (.str nm):=(da (j:=j) rfl (by simp[Hr])).2;let agX:gs.n=min j nms.n:=by let:=A14 List.length J9;simpa using this
   let TM:gs.n<16777216:=by lia
   let ht:nms.take (j+1)=nms.take j++[nm]:=by rw[B71,Hr];rfl
   let q1:bN 7 (j:Int):=c7 ∅ ∅;let q2:bN (7*(j:Int)) (j:Int):=fB ∅ ∅;by_cases h:f % 2=1/\c % 3>0
   .let(s,hs,hsn,eg):=UY (c / 3) (hN nm<|A21 Hr);let(g,eG,hgg,_u):=drawn hs;rw[eG]at eg;simp[ef,ec,en,bD,h.1,h.2,eg,line,TM];show⟨gs++[g],by rw[ht,A26,J9,A00,A28,_u,hsn],?_,by simp⟩;intro y hy;rcases A37.mp hy with hy|hy
    .exact hg y hy
    .rw[A11]at hy;subst hy;show hgg
   .let(s,hs,hsn,eg):=Kb (c / 3+7*(j:Int)*(j:Int)) (hN nm<|A21 Hr) hla hlb;let(g,eG,hgg,_u):=drawn hs;rw[eG]at eg;let fin:∃T7:U G,T7.map (·.name)=nms.take (j+1)/\(∀g∈T7,Dr g)/\gs.map aF++[aF g]=T7.map aF:=by
     show⟨gs++[g],by rw[ht,A26,J9,A00,A28,_u,hsn],?_,by simp⟩;intro y hy;rcases A37.mp hy with hy|hy
     .exact hg y hy
     .rw[A11]at hy;subst hy;show hgg
    by_cases h1:f % 2=1
    .let h2:¬0<c % 3:=λ h2=>h ⟨h1,h2⟩;simp[ef,ec,en,bD,h1,h2,eg,line,TM,q1,q2];show fin
    .simp[ef,ec,en,bD,h1,eg,line,TM,q1,q2];show fin
  .rintro Y ⟨gs,x5,x6,J9,hg,rfl⟩;rw[fX,B42]at J9;simp;show(gs,J9,hg,rfl,)
 rw[<-uU]at this;let(d,e,gs,h1,h2,rfl):=this;show(gs,h1,h2,e,)
end fA
namespace fA
open Z
open KG (G GO Pl Rows Hall cX GOk aF aG bB aT places)
open KH (ay aq Good)
open KB (aK cw bJ iU iX Ext Full)
def Om{R L:Nat}{rows:Rows}(H:KA.Hall R L rows):sS il [aT rows]=.ok [aT rows,.tup [],.tup [],.tup []]:=by
 let e:KA.gB [.tup (rows.map .str)]=.ok (.bl Ch):=by
  let:=KA.Cb (.tup<|rows.map .str) λ xs e=>by ext e;show⟨by let:=H.len;let:=H.r2;simp;lia,λ x hx=>?_⟩;let(r,hr,rfl):=A07.mp hx;let hl:=H.each r hr;let:=H.l2;show λ cs e=>by ext e;lia
  rw[this];change Res.ok (D.bl<|KA.An _)=_;rw[H.b]
 let e:KA.gB [aT rows]=.ok (.bl Ch):=e;generalize aT rows=hh at *;show JE λ x=>?_;unfold il;rw[qC _ _ _ _ _ rfl];let:lH (startB 2 [Ch,AT] [eK x 0 [] [],hh])=.ok (.nx [AC (.bor<|eK x 0 c9 [hh,.tup [],.tup [],.tup []]),v hh]):=by let s0:startB 2 [Ch,AT] [eK x 0 [] [],hh]=[AC (.bor<|eK x 0 [] []),v hh]:=rfl;rw[s0];simp[lH,bQ,bz,ma,e,su,eK,eO,c9,dB,mZ,xG,line,guard_pos]
 rw[this];rfl
def JF{d dd:D}(ha:a Y=.ok d)(hm:sS m [d]=.ok fs)(hT:mZ [i] 0 (Y.set i<|some<|.bor<|.dct [] []))(hr:∀x,∃ts,r (Y.set i<|some<|.bor<|eK x 0 c9 fs)=.ok (.rt dd ts)):w! i m a r Y=.ok (.rt dd):=by unfold w!;rw[ha,Res.lL,hm,Res.lL,guard_pos hT];show PD λ x=>?_;let(ts,e):=hr x;rw[e];rfl
def Xn(h1:a Y=.ok (.nx Y1))(h2:b Y1=r):bQ a b Y=r:=by unfold bQ;rw[h1];show h2
def NI(hi:i∉ms)(hl:ts.n=ms.n)(h:∀x,∃t,r (Y.set i<|some<|.bor<|eK x 1 [] [])=.ok (.rt d<|ts++[t])):Ea ms i r Y=.ok (.rt d ts):=by unfold Ea;rw[guard_pos hi];show allM_mk λ x=>?_;let(t,e):=h x;rw[e];change guard _ _=_;rw[guard_pos (by rw[A38,hl];rfl),<-hl,AC1 rfl]
end fA
namespace fA
open Z
open KG (G GO Pl Rows Hall cX GOk aF aG bB aT places bG)
open KH (ay aq Good)
open KB (aK cw bJ iU iX Ext Full yx yz Sz gy wS C8 bV)
variable{rows:Rows}{C:Nat}{xs z all:U GO}{g:G}{p:Pl}{hall dct:D}{x3 x5 x8:ε L}
abbrev eF(z:U GO):D:=.tup [aq z,.int (wS z)]
abbrev nrT:TF:=cZ<|tE<|aj KH.dD<|ai (eY 1 0)<|ai (eY 2 0)<|aV 3<|aV 4 ag
abbrev _c:LF:=bx (dF<|eU bj<|eW 7) 1 [1,7,4,9] (aH 0) nrT<|eV 0
abbrev bE(hall:D)(all:U GO)(dct:D)(x3 x4 x5 x6 x7 x8 x9 x10 x11:ε L):Env:=[v hall,v (ay all),AC (.bor dct),x3,x4,x5,x6,x7,x8,x9,x10,x11]
def Pre(all z:U GO):Prop:=Full z/\∀(i:Nat)(x:GO),z[i]?=AC x->∃o,all[i]?=AC (x.1,o)
def zO(z:U GO)(g:G)(p:Pl)(k:Nat):Bool:=match z[k]? with
|some (h,AC q)=>!bG h q g p
|_=>AT
def NJ(h:Pre all z)(h6:z.n<=6){x6 x10 x11:ε L}:Ok (_c<|bE hall all dct x3 (v<|aF g) x5 x6 (v<|aq z) x8 (v<|aG p) x10 x11) λ l=>l.isEmpty=yz z g p:=by
 let q0:z.n<=16777216:=by lia
 let e7:bj (aq z)=.ok (.int (z.n:Nat)):=by simp[aq]
 simp[a_,KG.cV,KG.cq,KG.wg,line,e7,q0,KG.ints_map];show bF (λ k:Nat=>.int (k:Nat)) (zO z g p) (λ k=>.int (k:Nat)) (xs:=EQ z.n) (λ k hk=>?_) ?_
 .let hk:=A25.mp hk;obtain⟨⟨a,o⟩,ek⟩:∃x,z[k]?=AC x:=(_,A04 hk,)
  cases o with
  |none=>show(h.1 k a ek).elim
  |some q=>let(o,ea):=h.2 k _ ek;let i1:bf (ay all) (.int (k:Nat))=.ok (aF a):=(da (j:=k) rfl (by rw[A06,ea];rfl)).1;let i2:bf (aq z) (.int (k:Nat))=.ok (aG q):=(da (j:=k) rfl (by rw[A06,ek];rfl)).1;let ap:=KH.kC a q g p;simp[i1,i2,ap,zO,ek]
 .rw[A59];erw[B86,List.map_eq_nil_iff,C49,A25];constructor
  .intro hn;show A30.mpr λ a ha=>?_;let(k,hk):=A87 ha;let:=hn k (A02.mp hk).1;let(b,o):=a;cases o with
   |none=>rfl
   |some q=>simpa[zO,hk]using this
  .intro ho k hk;obtain⟨⟨a,o⟩,ek⟩:∃x,z[k]?=AC x:=(_,A04 hk,)
   cases o with
   |none=>simp[zO,ek]
   |some q=>simp[zO,ek,KB.B0 ho ek]
abbrev plB:SF:=aD (aN 10<|eL _c)<|dN (tE<|eB oEq (eW 10)<|eL<|bq ag) (b9 6<|cm<|ai (eB aS (eW 7)<|cm<|aV 9 ag)<|ai (eB aS (eW 8)<|aj KB.dG<|aV 4<|aX 9 0 ag) ag) aR
def OW(z:U GO)(g:G)(p:Pl):eF (z++[(g,AC p)])=.tup [.tup ((z.map λ x=>bB x.2)++[aG p]),.int (wS z+C8 g p.1)]:=by rw[eF,KB.Mi];simp[aq,bB]
def xi(h:Pre all z)(h6:z.n<=6)(kg:cX g){x11:ε L}:∀(ps:U Pl)(acc:U D)(x9 x10:ε L),acc.n+ps.n<=3000->Ok (bM (aH 9) plB (ps.map aG)<|bE hall all dct x3 (v<|aF g) x5 (ow acc) (v<|aq z) (v<|.int<|wS z) x9 x10 x11) λ fl=>∃Bi rO,fl=.nx (bE hall all dct x3 (v<|aF g) x5 (ow<|acc++((ps.filter<|yz z g).map λ p=>eF<|z++[(g,AC p)])) (v<|aq z) (v<|.int<|wS z) Bi rO x11)
|[],acc,x9,x10,_=>⟨_,rfl,x9,x10,by simp⟩
|p::ps,acc,x9,x10,hl=>by
 rw[A29]at hl;let(l,el,hn):=NJ (hall:=hall) (dct:=dct) (x3:=x3) (x5:=x5) (x8:=v (.int<|wS z)) (g:=g) (p:=p) h h6 (x6:=ow acc) (x10:=x10) (x11:=x11);let eN:=KN.Kt l;let w1:=KB.Ge kg p.1;let i0:bf (aG p) (.int 0)=.ok (.int p.1):=rfl;let ad:aS (aq z) (.tup [aG p])=.ok (.tup<|(z.map λ x=>bB x.2)++[aG p]):=by
  let:z.n+1<=16777216:=by lia
  simp[aq,line,this]
 let q1:acc.n<16777216:=by lia
 cases c:yz z g p with
 |true=>
  rw[hn,c]at eN;let(fl,e,Bi,rO,rfl):=xi h h6 kg (x11:=x11) ps (acc++[eF (z++[(g,AC p)])]) (v<|aG p) (v<|.lst l) (by simp;lia);show(_,?_,Bi,rO,rfl,);let e2:acc++(((p::ps).filter<|yz z g).map λ p=>eF<|z++[(g,AC p)])=(acc++[eF (z++[(g,AC p)])])++((ps.filter<|yz z g).map λ p=>eF<|z++[(g,AC p)]):=by rw[B51 c,A00,A77];rfl
  rw[e2,<-e,OW];erw[_c]at el;simp[bM,el,eN,w1,i0,ad,q1,line]
 |false=>rw[hn,c]at eN;let(fl,e,Bi,rO,rfl):=xi h h6 kg (x11:=x11) ps acc (v<|aG p) (v<|.lst l) ∅;show(_,?_,Bi,rO,rfl,);rw[B07 (by simp[c]),<-e];erw[_c]at el;simp[bM,el,eN,line]
abbrev stB:SF:=eS (c5<|eV 5) (aH 9) plB
def Dj(kg:cX g)(ps:U Pl){x11:ε L}:∀(M:U (U GO))(acc:U D)(x7 x8 x9 x10:ε L),(∀z∈M,Pre all z/\z.n<=6)->acc.n+M.n*ps.n<=3000->Ok (bM (cJ [7,8]) stB (M.map eF)<|bE hall all dct x3 (v<|aF g) (v<|.lst<|ps.map aG) (ow acc) x7 x8 x9 x10 x11) λ fl=>∃Hc A! Bi rO,fl=.nx (bE hall all dct x3 (v<|aF g) (v<|.lst<|ps.map aG) (ow<|acc++(M.flatMap λ z=>(ps.filter<|yz z g).map λ p=>z++[(g,AC p)]).map eF) Hc A! Bi rO x11)
|[],acc,x7,x8,x9,x10,_,_=>⟨_,rfl,x7,x8,x9,x10,by simp⟩
|z::M,acc,x7,x8,x9,x10,hz,hl=>by
 rw[A29,B85,B26]at hl;let(h1,h2):=hz z A13;let(fl,e,Bi,rO,rfl):=xi (hall:=hall) (dct:=dct) (x3:=x3) (x5:=v (.lst<|ps.map aG)) h1 h2 kg (x11:=x11) ps acc x9 x10 ∅;let hf:=A50 (yz z g) ps;let(fl,e',Hc,A!,Rc,HB,rfl):=Dj kg ps (x11:=x11) M (acc++((ps.filter<|yz z g).map λ p=>eF<|z++[(g,AC p)])) (v<|aq z) (v<|.int<|wS z) Bi rO (λ y hy=>hz y<|A09 _ hy) (by simp;lia);show(_,?_,Hc,A!,Rc,HB,rfl,);let e2:acc++((z::M).flatMap λ z=>(ps.filter<|yz z g).map λ p=>z++[(g,AC p)]).map eF=(acc++((ps.filter<|yz z g).map λ p=>eF<|z++[(g,AC p)]))++(M.flatMap λ z=>(ps.filter<|yz z g).map λ p=>z++[(g,AC p)]).map eF:=by rw[zn,A26,A24,A77];rfl
 let gX:∀Y:Env,cJ [7,8] (eF z) Y=.ok ((Y.set 7<|v<|aq z).set 8<|v<|.int<|wS z):=λ Y=>rfl;rw[e2,<-e'];erw[bE]at e;simp[bM,gX,e]
def Kc{ys:U GO}(h:Good rows (xs++ys)):Good rows xs:=by
 let up:∀{i:Nat}{x:GO},xs[i]?=AC x->(xs++ys)[i]?=AC x:=λ {i x} e=>by rw[A23 (A02.mp e).1];show e
 intro i g p e;let(h1,h2):=h i g p (up e);show(h1,λ j g' q ej ne=>h2 j g' q (up ej) ne,)
def NZ{pre ys:U GO}(hk:Good rows (pre++ys))(h6:(pre++ys).length<=6):∀z∈gy rows C pre,Pre (pre++ys) z/\z.n<=6:=λ z hz=>by
 let(e1,_,e3):=KB.B' (Kc hk) z hz;rw[A38]at h6;let hl:=e1.len;show⟨(e3,λ i x ei=>?_,),by lia⟩;let hi:=(A02.mp ei).1;obtain⟨y,ey⟩:∃y,pre[i]?=AC y:=(_,A04 ∅,)
 let:=A14 (λ l=>l[i]?) e1.gs;erw[A06,ei,ey,A68,B02]at this;show⟨y.2,by rw[A23 ∅,ey,<-this]⟩
def DH(x:GO):(yx rows C x).length<=cw rows C x:=by
 unfold yx cw;cases x.2 with
 |none=>show A58 _
 |some p=>show P3 _
def rR(pre:U GO)(x:GO):aK rows C (pre++[x])=aK rows C pre*cw rows C x:=by simp[aK,KB.fV,bJ]
def JO(pre:U GO):(gy rows C pre).length<=aK rows C pre:=by
 induction pre using KB.ja with
 |h0=>show P3 _
 |h1 pre x ih=>rw[KB.jB,rR];show A15 (KB.o4 (m:=cw rows C x) λ z hz=>?_)<|A88 _ ih;rw[A08];show A15 (A50 _ _)<|DH x
abbrev grB:SF:=aD (aN 5<|aj bT<|aV 0<|aV 4 ag)<|aD (dN (tE<|eB (uH Ch) (eX 4 0)<|eM 1 2) (aN 5<|eL<|bq<|ai (eB Nz (eM 1 2)<|eX 4 0) ag) aR)<|aD (jv 6<|bq ag)<|aD (eS (c5<|eV 3) (cJ [7,8]) stB)<|oh 6<|aN 3<|eV 6
def Od(a:Nat){kv:cK}{c:U Nat}{d:D}(h:kv.lookup c=AC d):Nz (dd a kv) (.str c)=.ok d:=by show(guard_pos rfl).trans ?_;rw[oW,h]
def EA(H:Hall rows C){a:Nat}{kv:cK}{x11:ε L}:∀(ys pre:U GO)(x4 x5 x6 x7 x8 x9 x10:ε L),all=pre++ys->all.n<=6->Good rows all->(∀x∈all,cX x.1)->(∀x∈all,kv.lookup x.1.name=x.2.map aG)->aK rows C all<=2000->Ok (bM (aH 4) grB (ys.map λ x=>aF x.1)<|bE (aT rows) all (dd a kv) (v<|.lst<|(gy rows C pre).map eF) x4 x5 x6 x7 x8 x9 x10 x11) λ fl=>∃x4 x5 x6 x7 x8 x9 x10,fl=.nx (bE (aT rows) all (dd a kv) (v<|.lst<|(gy rows C all).map eF) x4 x5 x6 x7 x8 x9 x10 x11)
|[],pre,x4,x5,x6,x7,x8,x9,x10,e,_,_,_,_,_=>by rw[A52]at e;subst e;show(_,rfl,x4,x5,x6,x7,x8,x9,x10,rfl,)
|y::ys,pre,x4,x5,x6,x7,x8,x9,x10,e,h6,hk,hg,hh,hw=>by
 let my:y∈all:=by rw[e];simp
 let pl:=pO H (hg y my).toGOk;let ei:=JW Ch a kv y.1.name;rw[hh y my]at ei;let hl:(gy rows C pre).length*(yx rows C y).length<=2000:=by
  let h1:=A64 (JO (rows:=rows) (C:=C) pre)<|DH (rows:=rows) (C:=C) y;let h2:aK rows C all=aK rows C pre*cw rows C y*aK rows C ys:=by rw[e,<-List.singleton_append,<-A77,aK,A26,KB.fV,<-rR];rfl
  let h3:=KB.nT (rows:=rows) (C:=C) ys;let h4:aK rows C pre*cw rows C y<=aK rows C all:=by rw[h2];show C45 _ h3
  lia
 let hp:∀z∈gy rows C pre,Pre all z/\z.n<=6:=by rw[e]at hk h6 ⊢;show NZ hk h6
 let nx:Sz rows C (gy rows C pre) y=gy rows C (pre++[y]):=(KB.jB _ _).symm;let(fl,e1,Hc,A!,Bi,rO,rfl):=Dj (hall:=aT rows) (dct:=dd a kv) (x3:=v (.lst<|(gy rows C pre).map eF)) (hg y my) (yx rows C y) (x11:=x11) (gy rows C pre) [] x7 x8 x9 x10 hp (by simp;lia);let(fl,e2,x4',P4,P0,_7,_6,Rc,HB,rfl):=EA H (a:=a) (kv:=kv) (x11:=x11) ys (pre++[y]) (v<|aF y.1) (v<|.lst<|(yx rows C y).map aG) (v<|.lst<|(gy rows C<|pre++[y]).map eF) Hc A! Bi rO (by rw[e];simp) h6 hk hg hh hw;show(_,?_,x4',P4,P0,_7,_6,Rc,HB,rfl,);rw[<-e2];rw[B34]at e1;erw[bE]at e1 ⊢;let nx:((gy rows C pre).flatMap λ z=>((yx rows C y).filter<|yz z y.1).map λ p=>z++[(y.1,AC p)])=gy rows C (pre++[y]):=nx;rw[nx]at e1;cases c:y.2 with
 |none=>
  rw[c]at ei;let ep:yx rows C y=places rows C y.1:=by simp[yx,c]
  rw[ep]at e1 ⊢;simp[bM,eM,nv,ei,pl,line,e1,jc]
 |some p=>
  rw[c]at ei;let ep:yx rows C y=[p]:=by simp[yx,c]
  rw[ep]at e1 ⊢;let ix:=Od a (kv:=kv) (c:=y.1.name) (d:=aG p) (by rw[hh y my,c];rfl);erw[A00,A28]at e1 ⊢;simp[bM,eM,nv,ei,pl,ix,line,e1,jc]
end fA
namespace fA
open Z
open KG (G GO Pl Rows Hall cX GOk aF aG bB aT places bG)
open KH (ay aq Good)
open KB (aK cw bJ iU iX Ext Full yx yz Sz gy wS C8 bV)
variable{rows:Rows}{C:Nat}{xs m all:U GO}{hall dct:D}{x3 x4 x5 x6 x9 x10:ε L}
abbrev bsB:SF:=dN (nP (tE<|eU gj<|eW 11)<|tE<|eB Je (eW 8)<|eX 11 1) (aN 11<|cm<|aV 7<|aV 8 ag) aR
def ym:∀(r:U (U GO))(b:U GO)(x7 x8:ε L),∃Hc A!,bM (cJ [7,8]) bsB (r.map eF) (bE hall all dct x3 x4 x5 x6 x7 x8 x9 x10<|v<|eF b)=.ok (.nx<|bE hall all dct x3 x4 x5 x6 Hc A! x9 x10<|v<|eF<|bV Ch wS b r)
|[],b,x7,x8=>(x7,x8,rfl,)
|y::r,b,x7,x8=>by
 let gX:∀Y:Env,cJ [7,8] (eF y) Y=.ok ((Y.set 7<|v<|aq y).set 8<|v<|.int<|wS y):=λ Y=>rfl;let i1:bf (eF b) (.int 1)=.ok (.int<|wS b):=rfl;let n1:gj (eF b)=.ok (.bl AT):=rfl;by_cases c:wS b<wS y
 .let(Hc,A!,e):=ym r y (v<|aq y) (v<|.int<|wS y);show(Hc,A!,?_,);rw[show bV Ch wS b (y::r)=bV Ch wS y r by simp[bV,G7,c],<-e];simp[bM,gX,i1,n1,c,line]
 .let(Hc,A!,e):=ym r b (v<|aq y) (v<|.int<|wS y);show(Hc,A!,?_,);rw[show bV Ch wS b (y::r)=bV Ch wS b r by simp[bV,G7,c],<-e];simp[bM,gX,i1,n1,c,line]
def lB?(rows:Rows)(C:Nat)(xs:U GO):D:=match gy rows C xs with
|[]=>.non
|b::r=>eF<|bV Ch wS b r
def z0(H:Hall rows C){a:Nat}{kv:cK}(h6:xs.n<=6)(hg:∀x∈xs,cX x.1)(hk:Good rows xs)(nd:(nms xs).Nodup)(h:CZ kv xs)(hw:aK rows C xs<=2000):fG [aT rows,ay xs,dd a kv]=.ok (lB? rows C xs):=by
 rw[AG];show aA ?_;let(fl,e,x4,x5,x6,x7,x8,x9,x10,rfl):=EA (all:=xs) H (a:=a) (kv:=kv) (x11:=At) xs [] At At At At At At At rfl h6 hk hg (λ x hx=>by rw[h.eq];show xM nd x hx) hw;let e0:((gy rows C []).map eF)=[.tup [.tup [],.int 0]]:=rfl;rw[e0]at e;generalize aT rows=hh at *;erw[bE,ay]at e;unfold lB?;cases c:gy rows C xs with
 |nil=>rw[c]at e;erw[A28]at e;simp[kj,ay,e,line,bM,jc]
 |cons b r=>rw[c]at e;let(Hc,A!,e2):=ym (hall:=hh) (all:=xs) (dct:=dd a kv) (x3:=v (.lst<|(b::r).map eF)) (x4:=x4) (x5:=x5) (x6:=x6) (x9:=x9) (x10:=x10) r b (v<|aq b) (v<|.int<|wS b);let gX:∀Y:Env,cJ [7,8] (eF b) Y=.ok ((Y.set 7<|v<|aq b).set 8<|v<|.int<|wS b):=λ Y=>rfl;let n1:gj .non=.ok (.bl Ch):=rfl;erw[bE,ay,A00]at e e2;simp[kj,ay,e,e2,gX,n1,line,bM,jc]
def N4(H:Hall rows C)(hg:∀x∈xs,GOk x.1)(hk:Good rows xs)(h:KB.cn rows C AT xs xs.n=[]):lB? rows C xs=.non:=by
 unfold lB?;cases c:gy rows C xs with
 |nil=>rfl
 |cons b r=>let(e1,e2,e3):=KB.B' (C:=C) hk b (by rw[c];simp);let:=KB.oX H hg e1 e2 e3;rw[h]at this;ext this
def N3(H:Hall rows C)(hg:∀x∈xs,GOk x.1)(hk:Good rows xs)(h:iX rows C xs m):lB? rows C xs=eF m:=by
 unfold lB?;cases c:gy rows C xs with
 |nil=>let:=KB.Ef H m hg h.ext h.good h.full;rw[c]at this;ext this
 |cons b r=>show A14 eF<|h.uniq<|KB.z! H hg hk c
end fA
namespace fA
open Z
open KG (G GO Pl Rows Hall cX GOk aF aG bB aT places)
open KH (ay aq Good)
open KB (aK cw bJ iU iX Ext Full)
def T9(a:Nat)(kv:cK)(c:U Nat):zI (dd a kv) (.str c)=.ok ((kv.lookup c).getD .non):=by show(guard_pos rfl).trans ?_;rw[oW];cases kv.lookup c<;>rfl
def OS(o:ε Pl):((o.map aG).getD .non)=bB o:=by ext o<;>rfl
def OL{a:Nat}{kv:cK}{xs:U GO}(h6:xs.n<=100)(nd:(nms xs).Nodup)(h:CZ kv xs):fF [ay xs,dd a kv]=.ok (aq xs):=by
 rw[AE];show aA ?_;let c:∀Y,Y.n=2->Y[1]?=AC (AC<|.bor<|dd a kv)->b7 (aH 0) b8 (eB zI (eM 1 1)<|eX 0 0) Y (xs.map λ x=>aF x.1)=.ok (xs.map λ x=>bB x.2):=by
  intro Y hl h1;let:Ok (b7 (aH 0) b8 (eB zI (eM 1 1)<|eX 0 0) Y<|xs.map λ x=>aF x.1) λ ds=>ds=xs.map λ x=>bB x.2:=by
   match Y,hl with
   |[p,q],_=>let:=f8 h1;subst this;show bF (λ x:GO=>aF x.1) (λ _=>Ch) (λ x=>bB x.2) (λ x hx=>?_) (by rw[B05.mpr λ _ _=>rfl]);let e:=T9 a kv x.1.name;rw[h.eq,xM nd x hx,OS]at e;simp[eM,nv,e]
  show this.eq
 let q0:xs.n<=16777216:=by lia
 simp[nJ,ay,aq,a_,fg,qH,line,c,q0,guard_pos]
def eq_int(n:Nat)(a b:Int):∃r,gD n (.int a) (.int b)=AC r:=by ext n<;>show(_,rfl,)
def EH(n:Nat)(a b:U Nat):gD n (.str a) (.str b)=AC (a==b):=by ext n<;>rfl
def wR{f:D->D->ε Bool}:∀{as bs:U D},(∀a∈as,∀b∈bs,∃r,f a b=AC r)->∃r,allEq f as bs=AC r
|[],[],_=>(_,rfl,)
|[],_::_,_=>(_,rfl,)
|_::_,[],_=>(_,rfl,)
|a::as,b::bs,h=>by let(r1,e1):=h a A13 b A13;let(r2,e2):=wR (as:=as) (bs:=bs) λ x hx y hy=>h x (A09 _ hx) y (A09 _ hy);show⟨r1&&r2,by erw[allEq,e1,e2]⟩
def YJ(n:Nat)(p q:Int×Int):∃r,gD (n+1) (aG p) (aG q)=AC r:=wR λ a ha b hb=>by
 let k:∀{p:Int×Int}{a:D},a∈[D.int p.1,D.int p.2]->∃i,a=.int i:=λ {p a} h=>by
  rcases A01.mp h with rfl|h
  .exact⟨_,rfl⟩
  .rw[A11.mp h];show(_,rfl,)
 let(i,rfl):=k ha;let(j,rfl):=k hb;show eq_int _ _ _
def Ub{g h:G}(kg:cX g)(kh:cX h):∃r,kH (aF g) (aF h)=AC ((g.name==h.name)&&r):=by
 let(wt,ws,_,e1,e2):=kg.U_;let(wt',ws',_,L5,EJ):=kh.U_;let(r1,q1):=eq_int 5 g.w h.w;let(r2,q2):=eq_int 5 g.d h.d;let(r4,q4):=eq_int 5 g.wide h.wide;let(r5,q5):=eq_int 5 g.gap h.gap;let(r6,q6):=eq_int 5 wt wt';obtain⟨r7,q7⟩:∃r,gD 5 (D.tup<|ws.map aG) (D.tup<|ws'.map aG)=AC r:=wR λ a ha b hb=>by let(p,_,rfl):=A07.mp ha;let(q,_,rfl):=A07.mp hb;show YJ 3 p q
 show(r1&&(r2&&((g.kind==h.kind)&&(r4&&(r5&&(r6&&(r7&&Ch)))))),?_,);change allEq (gD 5) _ _=_;let a0:=EH 5 g.name h.name;let a3:=EH 5 g.kind h.kind;rw[<-e1]at q6;rw[<-L5]at q6;rw[<-e2,<-EJ]at q7;erw[allEq,a0,a3,q1,q2,q4,q5,q6,q7]
def acJ{g:G}(h:cX g):kH (aF g) (aF g)=AC Ch:=by
 let(wt,ws,_,e1,e2):=h.U_;show j7 _ λ d hd=>?_;erw[A01,A42,A47]at hd;rcases hd with rfl|rfl|rfl|rfl|rfl|rfl|rfl|rfl
 .exact OP _ _
 .exact Hv _ _
 .exact Hv _ _
 .exact OP _ _
 .exact Hv _ _
 .exact Hv _ _
 .rw[e1];show Hv _ _
 .rw[e2];show j7 _ λ d hd=>?_;let(p,_,rfl):=A07.mp hd;show x! _ p
def E5{g:G}(kg:cX g):∀xs:U GO,(∀x∈xs,cX x.1)->∃r,fM (aF g) (xs.map λ x=>aF x.1)=AC r/\(g.name∉nms xs->r=AT)/\((∃x∈xs,x.1=g)->r=Ch)
|[],_=>⟨AT,rfl,λ _=>rfl,λ⟨x,h,_⟩=>by ext h⟩
|y::r,h=>by
 let(b,e,h1,h2):=E5 kg r λ x hx=>h x (A09 _ hx);let(c,q):=Ub (h y A13) kg;show⟨((y.1.name==g.name)&&c)||b,by erw[A00,fM,q,e],λ hn=>?_,λ⟨x,hx,ex⟩=>?_⟩
 .let n1:(y.1.name==g.name)=AT:=by rw[A51];show λ z=>hn (by rw[nms,A00,z];show A13)
  rw[n1,h1 λ z=>hn<|A09 _ z];rfl
 .rcases A01.mp hx with rfl|hx
  .rw[ex]at q ⊢;rw[f8<|q.symm.trans<|acJ kg,Bool.true_or]
  .rw[h2 ⟨x,hx,ex⟩,B81]
def Ti{g:G}{xs:U GO}(kg:cX g)(h:∀x∈xs,cX x.1):∃r,uI (aF g) (ay xs)=.ok (.bl r)/\(g.name∉nms xs->r=AT)/\((∃x∈xs,x.1=g)->r=Ch):=by let(r,e,h1,h2):=E5 kg xs h;show(r,?_,h1,h2,);change uI (aF g) (.tup<|xs.map λ x=>aF x.1)=_;erw[uI,e]
section
variable{x:Nat}{hall gs hl ps d g pp:D}
def Lk{DK':D}(hx:fD [dk x hall gs hl ps,g]=At)(h:g_ [dk x hall gs hl ps,g]=.ok (d,[DK'])):cQ [dk x hall gs hl ps,g]=.ok (.lst [],[DK']):=by unfold cQ;rw[qC _ _ _ _ _ rfl];let s0:startB 4 [Ch,AT] [dk x hall gs hl ps,g]=[AC (.bor _),v g,At,At]:=rfl;rw[s0];simp[lD,bQ,bz,JG,jA,gu,yG,hx,h,eM,c9,dB,mZ,xG,line,guard_pos,i8,BH,g0,dR,jT]
def CU(hx:fD [dk x hall gs hl ps,g]=AC (Q1,[([112,97,112,101,114],pp)])):cQ [dk x hall gs hl ps,g]=.ok (.lst [pp],[dk x hall gs hl ps]):=by unfold cQ;rw[qC _ _ _ _ _ rfl];let s0:startB 4 [Ch,AT] [dk x hall gs hl ps,g]=[AC (.bor _),v g,At,At]:=rfl;rw[s0];simp[lD,bQ,bz,JG,jA,_E,Tg,Fa,_N,yG,hx,eM,c9,dB,mZ,xG,line,guard_pos,i8,BH,g0,dR,jT]
end
end fA
namespace fA
open Z
open KG (G GO Pl Rows Hall cX GOk aF aG bB aT places bG)
open KH (ay aq Good a7 openAt Sr)
variable{rows:Rows}{C:Nat}{xs:U GO}{g:G}{o:ε Pl}{k:Nat}{hall:D}{x4 x5 x6:ε L}{p:Pl}
abbrev oE(hall:D)(xs:U GO)(k:Nat)(x4 x5 x6:ε L):Env:=[v hall,v (ay xs),v (aq xs),v (.int (k:Nat)),x4,x5,x6]
abbrev oC1:LF:=bx (dF<|eU bj<|eW 2) 1 [3,2] (aH 0) (n8 (tE<|eB l_ (eW 0)<|eW 1)<|tE<|eU iF<|eY 2 0)<|eV 0
abbrev oC2:LF:=bx (c5<|eW 6) 1 [1,2,3,5] (aH 0) (cZ<|tE<|aj KH.dD<|ai (eY 1 0)<|ai (eY 2 0)<|ai (eY 1 3)<|aV 4 ag)<|eV 0
def l9(xs:U GO)(k j:Nat):Bool:=!decide ((j:Int)=k)&&match xs[j]? with
|some (_,AC _)=>Ch
|_=>AT
def f?(xs:U GO)(g:G)(p:Pl)(j:Nat):Bool:=match xs[j]? with
|some (h,AC q)=>!bG h q g p
|_=>AT
def Za(h6:xs.n<=6):Ok (oC1<|oE hall xs k x4 x5 x6) λ l=>l=((EQ xs.n).filter<|l9 xs k).map λ j=>D.int (j:Nat):=by
 let q0:xs.n<=16777216:=by lia
 let e7:bj (aq xs)=.ok (.int (xs.n:Nat)):=by simp[aq]
 simp[a_,KG.cV,KG.cq,KG.wg,line,e7,q0,KG.ints_map];show bF (λ j:Nat=>.int (j:Nat)) (l9 xs k) (λ j=>.int (j:Nat)) (xs:=EQ xs.n) (λ j hj=>?_) rfl;let hj:=A25.mp hj;obtain⟨⟨a,q⟩,ej⟩:∃x,xs[j]?=AC x:=(_,A04 hj,)
 let i2:bf (aq xs) (.int (j:Nat))=.ok (bB q):=(da (j:=j) rfl (by rw[A06,ej];rfl)).1;by_cases c:(j:Int)=k
 .cases q with
  |none=>simp[i2,l9,ej,c]
  |some q=>simp[i2,l9,ej,c]
 .cases q with
  |none=>simp[i2,l9,ej,c,bB]
  |some q=>let nn:iF (aG q)=.ok (.bl Ch):=rfl;simp[i2,l9,ej,c,bB,nn]
def Y_(h6:xs.n<=6)(hk:xs[k]?=AC (g,o))(js:U Nat)(hl:js.n<=100)(hjs:∀j∈js,∃h q,xs[j]?=AC (h,AC q)):Ok (oC2<|oE hall xs k x4 (v<|aG p)<|v<|.lst<|js.map λ j=>D.int (j:Nat)) λ l=>l=(js.filter<|f? xs g p).map λ j=>D.int (j:Nat):=by simp[a_,KG.cV,KG.cq,KG.wg,line,jc];show⟨by lia,bF (λ j:Nat=>.int (j:Nat)) (f? xs g p) (λ j=>.int (j:Nat)) (xs:=js) (λ j hj=>?_) rfl⟩;let(h,q,ej):=hjs j hj;let i1:bf (ay xs) (.int (j:Nat))=.ok (aF h):=(da (j:=j) rfl (by rw[A06,ej];rfl)).1;let i2:bf (aq xs) (.int (j:Nat))=.ok (aG q):=(da (j:=j) rfl (by rw[A06,ej];rfl)).1;let i3:bf (ay xs) (.int (k:Nat))=.ok (aF g):=(da (j:=k) rfl (by rw[A06,hk];rfl)).1;let ap:=KH.kC h q g p;simp[i1,i2,i3,ap,f?,ej]
def near_is(hk:xs[k]?=AC (g,o))(p:Pl):(((EQ xs.n).filter<|l9 xs k).filter<|f? xs g p).isEmpty=openAt xs g k p:=by
 rw[A59,B86,List.filter_filter,C49];unfold openAt;rw[A30];show forall_congr' λ j=>forall_congr' λ hj=>?_;let hj:=A25.mp hj;obtain⟨⟨a,q⟩,ej⟩:∃x,xs[j]?=AC x:=(_,A04 hj,)
 let cc:((j:Int)=k)↔j=k:=by lia
 cases q with
 |none=>simp[l9,f?,Sr,ej]
 |some q=>
  by_cases c:j=k
  .simp[l9,f?,Sr,ej,c]
  .let c':¬(j:Int)=k:=λ z=>c<|cc.mp z;simp[l9,f?,Sr,ej,c,c',KG.l0 a q g p]
abbrev oB:SF:=aD (aN 6<|eL oC1)<|aD (aN 6<|eL oC2)<|dN (tE<|eB oEq (eW 6)<|eL<|bq ag) (b9 4<|eV 5) aR
def pP(h6:xs.n<=6)(hk:xs[k]?=AC (g,o)):∀(ps:U Pl)(acc:U D)(x5 x6:ε L),acc.n+ps.n<=100000->Ok (bM (aH 5) oB (ps.map aG)<|oE hall xs k (ow acc) x5 x6) λ fl=>∃P4 P0,fl=.nx (oE hall xs k (ow<|acc++(ps.filter<|openAt xs g k).map aG) P4 P0)
|[],acc,x5,x6,_=>⟨_,rfl,x5,x6,by simp⟩
|p::ps,acc,x5,x6,hl=>by
 rw[A29]at hl;let(l1,e1,rfl):=Za (hall:=hall) (k:=k) (x4:=ow acc) (x5:=v (aG p)) (x6:=x6) h6;let(l2,e2,rfl):=Y_ (hall:=hall) (x4:=ow acc) (p:=p) h6 hk ((EQ xs.n).filter<|l9 xs k) (by let:=A50 (l9 xs k)<|List.range xs.n;rw[B12]at this;lia) λ j hj=>by
  let:=(A44.mp hj).2;unfold l9 at this;cases ej:xs[j]? with
  |none=>rw[ej]at this;simp at this
  |some y=>
   let(h,q):=y;cases q with
   |none=>rw[ej]at this;simp at this
   |some q=>show(h,q,rfl,)
 let ne:=near_is hk p;let eN:=KN.Kt<|(((EQ xs.n).filter<|l9 xs k).filter<|f? xs g p).map λ j=>D.int (j:Nat);rw[List.isEmpty_map,ne]at eN;let q1:acc.n<16777216:=by lia
 erw[oC1,oC2,oE]at e1 e2;clear ne;generalize ((EQ xs.n).filter<|l9 xs k).map (λ j=>D.int (j:Nat))=A at *;generalize (((EQ xs.n).filter<|l9 xs k).filter<|f? xs g p).map (λ j=>D.int (j:Nat))=χ at *;cases c:openAt xs g k p with
 |true=>
  rw[c]at eN;let(fl,e,P4,P0,rfl):=pP h6 hk ps (acc++[aG p]) (v<|aG p) (v<|.lst χ) (by simp;lia);show(_,?_,P4,P0,rfl,);let e3:acc++((p::ps).filter<|openAt xs g k).map aG=(acc++[aG p])++(ps.filter<|openAt xs g k).map aG:=by rw[B51 c];simp
  rw[e3,<-e];simp[bM,e1,e2,eN,q1,line]
 |false=>rw[c]at eN;let(fl,e,P4,P0,rfl):=pP h6 hk ps acc (v<|aG p) (v<|.lst χ) ∅;show(_,?_,P4,P0,rfl,);rw[B07 (by simp[c]),<-e];simp[bM,e1,e2,eN,line]
def qW(H:Hall rows C)(h6:xs.n<=6)(hk:xs[k]?=AC (g,o))(kg:GOk g):g? [aT rows,ay xs,aq xs,.int (k:Nat)]=.ok (.lst<|(a7 rows C xs g k).map aG):=by rw[AB];show aA ?_;let i3:bf (ay xs) (.int (k:Nat))=.ok (aF g):=(da (j:=k) rfl (by rw[A06,hk];rfl)).1;let pl:=pO H kg;let hp:=sD H g;let(fl,e,P4,P0,rfl):=pP (hall:=aT rows) h6 hk (places rows C g) [] At At (by simp;lia);rw[B34]at e;erw[oE]at e;unfold a7;generalize aT rows=hh at *;simp[nI,i3,pl,e,jc]
end fA
namespace fA
open Z
open KG (G GO Pl Rows Hall cX GOk aF aG bB aT places bG)
open KH (ay aq Good a7)
open KB (aK cw bJ)
open KC (cD gq fS isStr fT jG fu eu)
variable{rows:Rows}{C:Nat}{xs ys:U GO}{g:G}{k n:Nat}{d:D}{p:Pl}
def Ag{d:D}{w:U Nat}(h:isStr d w=Ch):d=.str w:=by
 cases d with
 |str t=>rw[A82 h]
 |_=>ext h
def vc{f:Pl->D->Bool}{ps:U Pl}{ds:U D}{j:Nat}{p:Pl}{e:D}(h:fu f ps ds=Ch)(h1:ps[j]?=AC p)(h2:ds[j]?=AC e):f p e=Ch:=by
 cases q:f p e with
 |true=>rfl
 |false=>rw[eu h1 h2 q]at h;ext h
def FN(h:cD rows C (n+1) ys d=Ch):∃(k:Nat)(g:G),ys[k]?=AC (g,At)/\((d=.tup [.str fT,.int (k:Nat)]/\a7 rows C ys g k=[])\/∃ps,d=.tup [.str jG,.int (k:Nat),.tup ps]/\ps.n=(a7 rows C ys g k).length/\∀(j:Nat)(p:Pl)(e:D),(a7 rows C ys g k)[j]?=AC p->ps[j]?=AC e->cD rows C n (ys.set k (g,AC p)) e=Ch):=by
 unfold cD at h;split at h
 .rename_i a i;erw[A34]at h;let(hs,hw,h):=h;let(k,g,ei,hk):=fS hw;ext ei;rw[A69,hk]at h;show(k,g,hk,.inl ⟨by rw[Ag hs],B86.mp h⟩,)
 .rename_i a i ps;erw[A34]at h;let(hs,hw,h):=h;let(k,g,ei,hk):=fS hw;ext ei;rw[A69,hk]at h;erw[A34]at h;show(k,g,hk,.inr ⟨ps,by rw[Ag hs],A82 h.1,λ j p e h1 h2=>vc h.2 h1 h2⟩,)
 .ext h
def nS:∀{xs:U GO}{k:Nat}{g:G}(p:Pl),xs[k]?=AC (g,At)->aK rows C xs=((places rows C g).length+1)*aK rows C (xs.set k (g,AC p))
|[],_,_,_,h=>by ext h
|y::r,0,g,p,h=>by let:=f8 h;subst this;change cw rows C (g,At)*bJ _=_*(cw rows C (g,AC p)*bJ _);let e1:cw rows C (g,AC p)=1:=rfl;let e2:cw rows C (g,At)=(places rows C g).length+1:=rfl;rw[e1,e2,B26]
|y::r,k+1,g,p,h=>by let h':r[k]?=AC (g,At):=h;let ih:=nS p h';change cw rows C y*aK rows C r=_*(cw rows C y*aK rows C (r.set k (g,AC p)));rw[ih,Nat.mul_left_comm]
abbrev iV:=D×U GO
def tR(t:iV):D:=.tup [t.1,aq t.2]
abbrev sE(hall:D)(xs:U GO)(D0 F0:D)(T:U iV)(x5 x6 x7 x8 x9:ε L):Env:=[v hall,v (ay xs),v F0,v D0,ow (T.map tR),x5,x6,x7,x8,x9]
structure Tk(rows:Rows)(C:Nat)(xs:List GO)(t:iV):Prop where
 gs:t.2.map (·.1)=xs.map (·.1)
 pap:∃n,cD rows C n t.2 t.1=Ch
def mu(rows:Rows)(C:Nat)(T:U iV):Nat:=(T.map λ t=>aK rows C t.2).sum
def Jq(A χ:U iV):mu rows C (A++χ)=mu rows C A+mu rows C χ:=by simp[mu]
def Jp(T:U iV):T.n<=mu rows C T:=by
 induction T with
 |nil=>show P3 _
 |cons t r ih=>
  let:0<aK rows C t.2:=KB.nT t.2;let e:mu rows C (t::r)=aK rows C t.2+mu rows C r:=by simp[mu]
  rw[e,A29];lia
def kids(ys:U GO)(k:Nat)(g:G):U Pl->U D->U iV
|p::ps,e::es=>(e,ys.set k (g,AC p))::kids ys k g ps es
|_,_=>[]
def Ej(hk:ys[k]?=AC (g,At)):∀(ps:U Pl)(es:U D)(W:Nat),(∀p,aK rows C (ys.set k (g,AC p))=W)->mu rows C (kids ys k g ps es)<=ps.n*W
|[],_,W,_=>by simp[kids,mu]
|_::_,[],W,_=>by simp[kids,mu]
|p::ps,e::es,W,h=>by
 let:=Ej hk ps es W h;let e1:mu rows C (kids ys k g (p::ps)<|e::es)=aK rows C (ys.set k (g,AC p))+mu rows C (kids ys k g ps es):=by simp[kids,mu]
 rw[e1,h p,A29,B85,B26];lia
def Ei(hg:ys.map (·.1)=xs.map (·.1))(hk:ys[k]?=AC (g,At)):∀(ps:U Pl)(es:U D),(∀(j:Nat)(p:Pl)(e:D),ps[j]?=AC p->es[j]?=AC e->cD rows C n (ys.set k (g,AC p)) e=Ch)->∀t∈kids ys k g ps es,Tk rows C xs t
|[],_,_,t,h=>by simp[kids]at h
|_::_,[],_,t,h=>by simp[kids]at h
|p::ps,e::es,hp,t,h=>by
 rcases A01.mp h with rfl|h
 .refine⟨?_,n,hp 0 p e rfl rfl⟩;rw[B25,hg];let:(xs.map (·.1))[k]?=AC g:=by rw[<-hg,A06,hk];rfl
  show B54 λ i=>by
   rw[A36];split
   .rename_i z;subst z;split
    .exact this.a
    .rename_i q;show absurd (A02.mp this).1 q
   .rfl
 .exact Ei hg hk ps es (λ j p' e' h1 h2=>hp (j+1) p' e' h1 h2) t h
def zp{ds:U D}(h:k<ds.n)(e:D):cut ds At (AC (k:Int))++[e]++cut ds (AC<|(k:Int)+1) At=ds.set k e:=by
 let e1:cut ds At (AC (k:Int))=ds.take k:=KG.pe ds ∅;let e2:cut ds (AC<|(k:Int)+1) At=ds.drop (k+1):=by
  let:¬(k:Int)+1<0:=by lia
  let h3:((k:Int)+1).toNat=k+1:=by lia
  let h4:min (k+1) ds.n=k+1:=by lia
  simp[cut,c6,this,h4];rw[B45 ∅]
 rw[e1,e2,C74,M2 h];simp
abbrev kB:SF:=b9 4<|cm<|aV 9<|ai (eB aS (eB aS (Cw (eW 6) FO<|qp<|eX 5 1)<|cm<|aV 8 ag)<|Cw (eW 6) (qp<|eB aS (eX 5 1)<|eI 1) FO) ag
def Ac{hall D0 F0:D}{x7:ε L}{a c:D}(hl6:ys.n<=6)(hk:ys[k]?=AC (g,At)):∀(ps:U Pl)(es:U D)(T:U iV)(x8 x9:ε L),T.n+ps.n<=1000->ps.n=es.n->∃A! Bi,bM (cJ [8,9]) kB (fO (ps.map aG) es) (sE hall xs D0 F0 T (v<|.tup [a,.int (k:Nat),c]) (v<|aq ys) x7 x8 x9)=.ok (.nx<|sE hall xs D0 F0 (T++kids ys k g ps es) (v<|.tup [a,.int (k:Nat),c]) (v<|aq ys) x7 A! Bi)
|[],[],T,x8,x9,_,_=>⟨x8,x9,by simp[kids];rfl⟩
|p::ps,e::es,T,x8,x9,hl,he=>by
 rw[A29]at hl;let(A!,Bi,q):=Ac (hall:=hall) (D0:=D0) (F0:=F0) (x7:=x7) (a:=a) (c:=c) hl6 hk ps es (T++[(e,ys.set k (g,AC p))]) (v<|aG p) (v e) (by simp;lia) (by calc he);show(A!,Bi,?_,);let e1:T++kids ys k g (p::ps) (e::es)=(T++[(e,ys.set k (g,AC p))])++kids ys k g ps es:=by simp[kids]
 rw[e1,<-q];let hkl:k<ys.n:=(A02.mp hk).1;let i1:bf (.tup [a,.int (k:Nat),c]) (.int 1)=.ok (.int (k:Nat)):=rfl;let gX:∀Y:Env,cJ [8,9] (pair (aG p) e) Y=.ok ((Y.set 8<|v<|aG p).set 9<|v e):=λ Y=>rfl;let sc:=zp (ds:=ys.map λ x=>bB x.2) (k:=k) (by rw[A08];show hkl)<|aG p;let YI:aq (ys.set k (g,AC p))=.tup ((ys.map λ x=>bB x.2).set k<|aG p):=by simp[aq,B25,bB]
 let l1:=jh (ys.map λ x=>bB x.2) At<|some (k:Int);let l2:=jh (ys.map λ x=>bB x.2) (AC<|(k:Int)+1) At;rw[A08]at l1 l2;let em:(T++[(e,ys.set k (g,AC p))]).map tR=T.map tR++[.tup [e,aq (ys.set k (g,AC p))]]:=by simp[tR]
 let q1:T.n<16777216:=by lia
 erw[sE];rw[em,YI,<-sc];let eo:aq ys=.tup (ys.map λ x=>bB x.2):=rfl;rw[eo];generalize hc1:cut (ys.map λ x=>bB x.2) At (AC (k:Int))=c1 at *;generalize uN:cut (ys.map λ x=>bB x.2) (AC<|(k:Int)+1) At=c2 at *;let q0:c1.n<=16777215:=by lia
 let oA:aS (.tup<|c1++[aG p]) (.tup c2)=.ok (.tup<|c1++[aG p]++c2):=guard_pos (by simp;lia);let q2:c1.n+1<=16777216:=by lia
 let q3:c1.n+1+c2.n<=16777216:=by lia
 let q4:c1.n+(1+c2.n)<=16777216:=by lia
 let q5:c1.n+(c2.n+1)<=16777216:=by lia
 simp[bM,gX,i1,q0,q1,q2,q3,q4,q5,hc1,uN,oA,line,fO]
end fA
namespace fA
open Z
open KG (G GO Pl Rows Hall cX GOk aF aG bB aT places bG)
open KH (ay aq Good a7)
open KB (aK cw bJ)
open KC (cD gq fS isStr fT jG fu eu)
variable{rows:Rows}{C:Nat}{xs ys:U GO}{g:G}{k n:Nat}{d:D}{p:Pl}{D0 F0:D}{T:U iV}{t:iV}{x5 x6 x7 x8 x9:ε L}
abbrev rB:SF:=(aD (dN (nP (cZ<|tE<|eU (dS .tuple)<|eW 5)<|nP (tE<|eB kZ (eU bj<|eW 5)<|cm<|aI 2<|aI 3 ag)<|tE<|eU (dS .bool)<|eX 5 1) (aJ<|eC<|.bl AT) aR)<|aD (dN (nP (cZ<|tE<|eU (dS .int)<|eX 5 1)<|nP (cZ<|tE<|dI oLe oLt (eI 0) (eX 5 1)<|eU bj<|eW 1)<|tE<|eU iF<|eB bf (eW 6)<|eX 5 1) (aJ<|eC<|.bl AT) aR)<|aD (aN 7<|aj g?<|aV 0<|aV 1<|aV 6<|aX 5 1 ag)<|dN (tE<|eB oEq (eU bj<|eW 5)<|eI 2) (dN (nP (tE<|eB l_ (eX 5 0)<|eC<|.str [115,116,117,99,107])<|tE<|eB l_ (eW 7)<|eL<|bq ag) (aJ<|eC<|.bl AT) aR)<|dN (nP (tE<|eB l_ (eX 5 0)<|eC<|.str [101,97,99,104])<|nP (cZ<|tE<|eU (dS .tuple)<|eX 5 2)<|tE<|eB l_ (eU bj<|eX 5 2)<|eU bj<|eW 7) (aJ<|eC<|.bl AT)<|eS (Gn (eV 7)<|eX 5 2) (cJ [8,9]) kB)
def RQ:vn 4 (cJ [5,6]) (sE (aT rows) xs D0 F0 (T++[t]) x5 x6 x7 x8 x9)=.ok (.nx<|sE (aT rows) xs D0 F0 T (v t.1) (v<|aq t.2) x7 x8 x9):=by
 change IG 4 _ _ (AC<|some<|.own<|(T++[t]).map tR)=_;let e:((T++[t]).map tR)[((T++[t]).map tR).length-1]?=AC (tR t):=by simp
 let e2:((T++[t]).map tR).dropLast=T.map tR:=by simp
 unfold IG;erw[e,e2];rfl
def Rf(hk:ys[k]?=AC (g,At)):∃W,0<W/\(∀p,aK rows C (ys.set k (g,AC p))=W)/\aK rows C ys=((places rows C g).length+1)*W:=by show(aK rows C<|ys.set k (g,AC default),KB.nT _,λ p=>?_,nS _ hk,);show Nat.eq_of_mul_eq_mul_left (C47 _)<|(nS p hk).symm.trans<|nS _ hk
def M?:(a7 rows C ys g k).length<=(places rows C g).length:=A50 _ _
def MV(H:Hall rows C)(h6:xs.n<=6)(kx:∀x∈xs,GOk x.1)(ht:Tk rows C xs t)(hw:aK rows C t.2<=200)(hT:T.n<=200):∃N y5 y6 y7 y8 y9,rB (sE (aT rows) xs D0 F0 T (v t.1) (v<|aq t.2) x7 x8 x9)=.ok (.nx<|sE (aT rows) xs D0 F0 (T++N) y5 y6 y7 y8 y9)/\(∀u∈N,Tk rows C xs u)/\mu rows C N<aK rows C t.2:=by
 let(d,ys):=t;let(hg,n,hp):=ht;dsimp only at hg hp hw ⊢;cases n with
 |zero=>ext hp
 |succ n=>
 let(k,g,hk,hc):=FN hp;let hl:ys.n=xs.n:=by let:=A14 List.length hg;simpa using this
 let hk6:k<ys.n:=(A02.mp hk).1;let kg:GOk g:=by
  let e:(xs.map (·.1))[k]?=AC g:=by rw[<-hg,A06,hk];rfl
  rw[A06]at e;let(x,hx,rfl):=B35.mp e;show kx x<|A21 hx
 let eG:ay xs=ay ys:=by
  let:∀zs:U GO,ay zs=.tup ((zs.map (·.1)).map aF):=λ zs=>by simp[ay]
  rw[this,this,hg]
 let op:=qW (xs:=ys) (o:=At) H ∅ hk kg;rw[<-eG]at op;let(W,W0,hW,eW'):=Rf (rows:=rows) (C:=C) hk;let i6:bf (aq ys) (.int (k:Nat))=.ok .non:=(da (j:=k) rfl (by rw[A06,hk];rfl)).1;let lG:bj (ay xs)=.ok (.int (xs.n:Nat)):=by
  let:xs.n<=16777216:=by lia
  simp[ay]
 let ch:dI oLe oLt (eI 0) (eX 5 1) (eU bj<|eW 1)=dI oLe oLt (eI 0) (eX 5 1) (eU bj<|eW 1):=rfl;let k0:(0:Int)<=(k:Nat):=Int.natCast_nonneg k;let k1:((k:Nat):Int)<(xs.n:Nat):=by lia
 let n2:kZ (.int 2) (aG (2,3))=.ok (.bl AT):=rfl;let n3:kZ (.int 3) (aG (2,3))=.ok (.bl AT):=rfl;let t2:dE .int (.int (k:Nat))=Ch:=rfl;let t3:dE .bool (.int (k:Nat))=AT:=rfl;let t4:∀ps,dE .tuple (.tup ps)=Ch:=λ _=>rfl;let nn:l_ (.lst []) (.lst [])=.ok (.bl AT):=rfl;rcases hc with⟨ed,hO⟩|⟨ps,ed,Hs,hps⟩
 .rw[hO]at op;let t1:dE .tuple d=Ch:=by rw[ed];rfl
  let hn:bj d=.ok (.int 2):=by rw[ed];rfl
  let i0:bf d (.int 0)=.ok (.str [115,116,117,99,107]):=by rw[ed];rfl
  let i1:bf d (.int 1)=.ok (.int (k:Nat)):=by rw[ed];rfl
  show⟨[],v d,v<|aq ys,v<|.lst [],x8,x9,?_,by simp,?_⟩
  .simp[hn,i0,i1,i6,lG,op,line,t1,t2,t3,t4,dI,k0,k1,n2,nn]
  .show 0<_;rw[eW'];show Nat.mul_pos (C47 _) W0
 .let t1:dE .tuple d=Ch:=by rw[ed];rfl
  let hn:bj d=.ok (.int 3):=by rw[ed];rfl
  let i0:bf d (.int 0)=.ok (.str [101,97,99,104]):=by rw[ed];rfl
  let i1:bf d (.int 1)=.ok (.int (k:Nat)):=by rw[ed];rfl
  let i2:bf d (.int 2)=.ok (.tup ps):=by rw[ed];rfl
  let hOl:=M? (rows:=rows) (C:=C) (ys:=ys) (g:=g) (k:=k);let hb:(places rows C g).length+1<=aK rows C ys:=by rw[eW'];show C45 _ W0
  let m1:=Ej (rows:=rows) (C:=C) hk (a7 rows C ys g k) ps W hW;let(y8,y9,q):=Ac (hall:=aT rows) (xs:=xs) (D0:=D0) (F0:=F0) (x7:=v (.lst<|(a7 rows C ys g k).map aG)) (a:=.str jG) (c:=.tup ps) ∅ hk (a7 rows C ys g k) ps T x8 x9 ∅ Hs.a;rw[<-ed]at q;show(kids ys k g (a7 rows C ys g k) ps,v d,v<|aq ys,v<|.lst<|(a7 rows C ys g k).map aG,y8,y9,?_,Ei hg hk _ _ hps,?_,)
  .let p1:ps.n<=16777216:=by lia
   let p2:(a7 rows C ys g k).length<=16777216:=by lia
   simp[hn,i0,i1,i2,i6,lG,op,line,t1,t2,t3,t4,dI,k0,k1,n3,p1,p2,Hs];show q
  .let:(a7 rows C ys g k).length*W<=(places rows C g).length*W:=A88 _ hOl;rw[eW',B85,B26];lia
abbrev wT:TF:=tE<|eB l_ (eW 4)<|eL<|bq ag
def vk(H:Hall rows C)(h6:xs.n<=6)(kx:∀x∈xs,GOk x.1):∀(m:Nat)(T:U iV)(x5 x6 x7 x8 x9:ε L),(∀t∈T,Tk rows C xs t)->mu rows C T<m->m<=200->∃y5 y6 y7 y8 y9,jP wT (aD (vn 4<|cJ [5,6]) rB) m (sE (aT rows) xs D0 F0 T x5 x6 x7 x8 x9)=.ok (.nx<|sE (aT rows) xs D0 F0 [] y5 y6 y7 y8 y9)
|0,_,_,_,_,_,_,_,h,_=>absurd h<|C46 _
|m+1,T,x5,x6,x7,x8,x9,hT,hm,hl=>by
 let ψ:=Jp (rows:=rows) (C:=C) T;rcases List.eq_nil_or_concat T with rfl|⟨T,t,rfl⟩
 .let c:wT (sE (aT rows) xs D0 F0 [] x5 x6 x7 x8 x9)=.ok AT:=by let nn:l_ (.lst []) (.lst [])=.ok (.bl AT):=rfl;simp[nn]
  show(x5,x6,x7,x8,x9,?_,);change(wT _).bind _=_;rw[c];rfl
 .rw[List.concat_eq_append]at *;let e1:mu rows C (T++[t])=mu rows C T+aK rows C t.2:=by rw[Jq];simp[mu]
  rw[e1]at hm ψ;let hT1:=Jp (rows:=rows) (C:=C) T;let(N,y5,y6,y7,y8,y9,q,hN,hmu):=MV (D0:=D0) (F0:=F0) (x7:=x7) (x8:=x8) (x9:=x9) H h6 kx (hT t ∅) ∅ (T:=T) ∅;let(z5,z6,z7,z8,z9,r):=vk H h6 kx m (T++N) y5 y6 y7 y8 y9 (λ u hu=>(A37.mp hu).elim (λ h=>hT u (by simp[h]))<|hN u) (by rw[Jq];lia) ∅;show(z5,z6,z7,z8,z9,?_,);let b:aD (vn 4<|cJ [5,6]) rB (sE (aT rows) xs D0 F0 (T++[t]) x5 x6 x7 x8 x9)=.ok (.nx<|sE (aT rows) xs D0 F0 (T++N) y5 y6 y7 y8 y9):=by change(vn 4 (cJ [5,6]) _).bind _=_;rw[RQ];show q
  let c:wT (sE (aT rows) xs D0 F0 (T++[t]) x5 x6 x7 x8 x9)=.ok Ch:=by
   let ne:∀a as,l_ (.lst<|a::as) (.lst [])=.ok (.bl Ch):=λ _ _=>rfl;cases T with
   |nil=>simp[ne]
   |cons a b=>simp[ne]
  change(wT _).bind _=_;rw[c];change(aD _ _ _).bind _=_;rw[b];show r
def H_(H:Hall rows C)(h6:xs.n<=6)(kx:∀x∈xs,GOk x.1)(hp:cD rows C n xs d=Ch)(hw:aK rows C xs<130):fZ [aT rows,ay xs,aq xs,d]=.ok (.bl Ch):=by
 rw[xU];show aA ?_;let m1:mu rows C [(d,xs)]=aK rows C xs:=by simp[mu]
 let(y5,y6,y7,y8,y9,q):=vk (D0:=d) (F0:=aq xs) H h6 kx 130 [(d,xs)] At At At At At (λ t ht=>by rw[A11.mp ht];show(rfl,n,hp,)) (by rw[m1];show hw) ∅;let e:jv 4 (bq<|ai (cm<|aV 3<|aV 2 ag) ag) [AC (.val<|aT rows),AC (.val<|ay xs),AC (.val<|aq xs),AC (.val d),At,At,At,At,At,At]=.ok (.nx<|sE (aT rows) xs d (aq xs) [(d,xs)] At At At At At):=by simp[tR,line]
 show(.rt<|.bl Ch,?_,rfl,);change(jv 4 _ _).bind _=_;rw[e];change(Res.bind (w9 130 _ _ _) _)=_;unfold w9;rw[q];rfl
end fA
namespace fA
open Z
abbrev pl(b:Nat)(vs:U D):D:=.dct [.inl (b:Int),.inl 2] vs
variable{x a b:Nat}{hall hs Ce ps qk g pp fs:D}{gs OD vs:U D}{kv:cK}
def qj:startB 12 [Ch,AT,Ch,AT,Ch] [dk x hall (.tup gs) hs ps,hall,dd a kv,g,pl b vs]=[AC (.bor<|dk x hall (.tup gs) hs ps),v hall,AC (.bor<|dd a kv),v g,AC (.bor<|pl b vs),At,At,At,At,At,At,At]:=rfl
def BS(hl:gs.n<=6)(ah:aP [dk x hall (.tup gs) hs ps]=.ok (.tup gs))(se:bP [dk x hall (.tup gs) hs ps]=.ok ps)(hf:fF [.tup (gs++[g]),dd a kv]=.ok fs)(hb:fG [hall,.tup (gs++[g]),dd a kv]=.ok .non)(hk:cQ [dk x hall (.tup gs) hs ps,g]=.ok (.lst [pp],[dk x hall (.tup gs) hs ps]))(he:l_ (.tup [.tup gs,ps]) (.tup [.tup gs,ps])=.ok (.bl AT))(hv:vs.n<100)(hy:KC.cu [hall,.tup (gs++[g]),pp,fs]=.ok (.bl Ch))(hsh:fZ [hall,.tup (gs++[g]),fs,pp]=.ok (.bl Ch)):cx [dk x hall (.tup gs) hs ps,hall,dd a kv,g,pl b vs]=.ok (.bl Ch,[dk x hall (.tup gs) hs ps,dd a kv,pl b (vs++[pp])]):=by
 unfold cx;rw[qC _ _ _ _ _ rfl,qj];let q1:gs.n<=16777215:=by lia
 let q2:vs.n<16777216:=by lia
 let n1:gj .non=.ok (.bl Ch):=rfl;let l1:bj (.lst [pp])=.ok (.int 1):=rfl;let n2:l_ (.int 1) (.int 1)=.ok (.bl AT):=rfl;let ix:bf (.lst [pp]) (.int 0)=.ok pp:=rfl;let iB:NA Ch (.bl Ch)=.ok (.bl Ch):=rfl;simp[lC,bQ,bz,NT,gu,ic,uJ,SX,Py,ah,se,hf,hb,hk,he,hy,hsh,n1,l1,n2,ix,iB,q1,q2,eqT,eM,dB,mZ,xG,line,guard_pos,i8,BH,g0,dR,jT]
abbrev rE(DK DD PL hall g fs:D)(gs:U D)(ps:D)(bb:D)(fd:D)(x11:ε L):Env:=[AC (.bor DK),v hall,AC (.bor DD),v g,AC (.bor PL),v (.tup gs),v ps,v (.tup<|gs++[g]),v fs,v bb,v fd,x11]
abbrev rF:SF:=dN (tE<|eU (vD AT)<|aj KC.cu<|aV 1<|aV 7<|aV 11<|aV 8 ag) (aJ<|eC<|.bl AT) aR
def zD{DK DD PL bb fd:D}:∀(ds:U D)(x11:ε L),(∀d∈ds,KC.cu [hall,.tup (gs++[g]),d,fs]=.ok (.bl AT))->(x11=At\/∃d,x11=v d)->∃y,(y=At\/∃d,y=v d)/\bM (aH 11) rF ds (rE DK DD PL hall g fs gs ps bb fd x11)=.ok (.nx<|rE DK DD PL hall g fs gs ps bb fd y)
|[],x11,_,hx=>(x11,hx,rfl,)
|d::ds,x11,h,hx=>by let(y,hy,q):=zD (DK:=DK) (DD:=DD) (PL:=PL) (bb:=bb) (fd:=fd) ds (v d) (λ e he=>h e<|A09 _ he) (.inr ⟨d,rfl⟩);show(y,hy,?_,);let h0:=h d A13;let nB:vD AT (.bl AT)=.ok (.bl AT):=rfl;rw[<-q];simp[bM,h0,nB]
def Im(hl:gs.n<=6)(ah:aP [dk x hall (.tup gs) hs ps]=.ok (.tup gs))(se:bP [dk x hall (.tup gs) hs ps]=.ok ps)(hf:fF [.tup (gs++[g]),dd a kv]=.ok fs){wb:Int}(hb:fG [hall,.tup (gs++[g]),dd a kv]=.ok (.tup [qk,.int wb]))(hk:cQ [dk x hall (.tup gs) hs ps,g]=.ok (.lst [],[dk x hall (.tup OD) Ce qk]))(se':bP [dk x hall (.tup OD) Ce qk]=.ok qk)(he:oEq qk qk=.ok (.bl Ch))(hv:vs.n<100)(hy:∀d∈cut vs (AC<|-3) At,KC.cu [hall,.tup (gs++[g]),d,fs]=.ok (.bl AT)):cx [dk x hall (.tup gs) hs ps,hall,dd a kv,g,pl b vs]=.ok (.bl Ch,[dk x hall (.tup OD) Ce qk,dd a kv,pl b vs]):=by
 unfold cx;rw[qC _ _ _ _ _ rfl,qj];let(y,hyy,q):=zD (DK:=dk x hall (.tup OD) Ce qk) (DD:=dd a kv) (PL:=pl b vs) (ps:=ps) (bb:=.tup [qk,.int wb]) (fd:=.lst []) _ At hy (.inl rfl);let q1:gs.n<=16777215:=by lia
 let n1:gj (.tup [qk,.int wb])=.ok (.bl AT):=rfl;let i0:bf (.tup [qk,.int wb]) (.int 0)=.ok qk:=rfl;let oe:oEq (.lst []) (.lst [])=.ok (.bl Ch):=rfl;let ng:F3 (.int 3)=.ok (.int<|-3):=rfl;let q':bM (aH 11) (dN (tE<|eU (vD AT)<|aj KC.cu<|aV 1<|aV 7<|aV 11<|aV 8 ag) (aJ<|eC<|.bl AT) aR) (cut vs (AC<|-3) At) [AC (.bor<|dk x hall (.tup OD) Ce qk),v hall,AC (.bor<|dd a kv),v g,AC (.bor<|pl b vs),AC (.val<|.tup gs),AC (.val ps),AC (.val<|.tup<|gs++[g]),AC (.val fs),AC (.val<|.tup [qk,.int wb]),AC (.val<|.lst []),At]=.ok (.nx [AC (.bor<|dk x hall (.tup OD) Ce qk),v hall,AC (.bor<|dd a kv),v g,AC (.bor<|pl b vs),AC (.val<|.tup gs),AC (.val ps),AC (.val<|.tup<|gs++[g]),AC (.val fs),AC (.val<|.tup [qk,.int wb]),AC (.val<|.lst []),y]):=q;rcases hyy with rfl|⟨dy,rfl⟩
 all_goals simp[lC,bQ,bz,NT,gu,ic,dU,uJ,ah,se,hf,hb,hk,he,n1,i0,oe,ng,q',se',q1,eT2,Qq,eM,dB,mZ,xG,line,guard_pos,i8,BH,g0,dR,jT]
end fA
namespace fA
open Z
open KG (G GO Pl Rows Hall cX GOk aF aG bB aT places bZ)
open KH (ay aq Good a7)
open KB (aK cw bJ iU iX Ext Full wS jF)
open KC (cD rf gq fS isStr fT jG fu eu)
def OM{cs hs:U GO}(e:Ext cs hs){k:Nat}{g:G}{p:Pl}(hk:cs[k]?=AC (g,At))(h:hs[k]?=AC (g,AC p)):Ext (cs.set k (g,AC p)) hs:=by
 let hl:k<cs.n:=(A02.mp hk).1;show(?_,λ i g' q hi=>?_,)
 .rw[<-e.gs,B25];show C43 ∅ λ i h1 h2=>?_;rw[C44];split
  .rename_i z;subst z;let:cs[k]=(g,At):=(A02.mp hk).2;simp[this]
  .rfl
 .rw[A36]at hi;split at hi
  .rename_i z;subst z;rw[h,<-hi]
  .exact e.sub i g' q hi
def vw{rows:Rows}{C:Nat}(H:Hall rows C):∀(n:Nat)(xs:U GO)(d:D),(∀x∈xs,GOk x.1)->cD rows C n xs d=Ch->∀z,Ext xs z->Good rows z->Full z->False
|0,xs,d,_,h=>by ext h
|n+1,xs,d,hg,h=>by
 intro z e gz fz;unfold cD at h;split at h
 .rename_i a i;erw[A34]at h;let(_,hw,h):=h;let(k,g,ei,hk):=fS hw;ext ei;rw[A69,hk]at h;let(o',ek,_):=e.at hk;cases o' with
  |none=>show fz k g ek
  |some p=>
   let:=jF H e gz (hg _<|A21 hk) ek;let h0:a7 rows C xs g k=[]:=by simpa using h
   rw[h0]at this;ext this
 .rename_i a i ps;erw[A34]at h;let(_,hw,h):=h;let(k,g,ei,hk):=fS hw;ext ei;rw[A69,hk]at h;erw[A34]at h;let(h1,h2):=h;let(o',ek,_):=e.at hk;let kg:=hg _<|A21 hk;cases o' with
  |none=>show fz k g ek
  |some p=>
   let(j,hj):=A87 (jF H e gz kg ek);let hjl:j<(a7 rows C xs g k).length:=(A02.mp hj).1;let LY:ps.n=(a7 rows C xs g k).length:=by simpa using h1
   obtain⟨ej,hej⟩:∃x,ps[j]?=AC x:=(_,A04 ∅,)
   show vw H n (xs.set k (g,AC p)) ej (λ x hx=>?_) (vc h2 hj hej) z (OM e hk ek) gz fz;rcases C48 hx with y|y
   .exact hg x y
   .rw[y];show kg
 .ext h
section
variable{hall ps qk g:D}{x:Nat}
def Q5{gs hs:U D}{r:ε XN}(hg:KS.cR [g]=.ok (.bl Ch))(e0:G? g)(hn:∀g∈gs,G? g)(hm:∀y∈gs,ro y≠ro g)(h5:gs.n<=5)(h5':hs.n<=5)(hb:KB.bC [hall,.tup (gs++[g]),.tup (hs++[.non])]=.ok qk)
 (hr:(gj qk=.ok (.bl AT)/\r=At)\/∃pp,qk=.non/\KC.dY [hall,.tup (gs++[g]),.tup (hs++[.non])]=.ok pp/\r=AC (Q1,[([112,97,112,101,114],pp)])):fD [dk x hall (.tup gs) (.tup hs) ps,g]=r:=by
 let _P:bf g (.int 0)=.ok (.str<|ro g):=e0;let Cf:=E4 hg e0 hn hm;let cg:=λ Y hρ=>zQ hn Y hρ;let q0:gs.n<=16777216:=by lia
 let q1:gs.n<=16777215:=by lia
 let q2:hs.n<=16777215:=by lia
 let q3:decide (6<(gs.n:Int)+1)=AT:=A43 ∅;rw[xP];rcases hr with⟨hp,rfl⟩|⟨pp,rfl,_p,rfl⟩
 .simp[i?,rN,VU,Hb,nR,hg,_P,Cf,hb,hp,a_,fg,cg,q0,q1,q2,q3,eM,fP,g!,c9,line,guard_pos]
 .let hp:gj .non=.ok (.bl Ch):=rfl;simp[i?,rN,VU,Hb,nR,hg,_P,Cf,hb,hp,_p,a_,fg,cg,q0,q1,q2,q3,eM,fP,g!,c9,line,guard_pos]
end
variable{rows:Rows}{C:Nat}{xs m:U GO}{kv:cK}{j k:Nat}{g:G}{vs:U D}
def acI(n:Nat){g:G}(h:cX g):gD (n+3) (aF g) (aF g)=AC Ch:=by
 let(wt,ws,_,e1,e2):=h.U_;show j7 _ λ d hd=>?_;erw[A01,A42,A47]at hd;rcases hd with rfl|rfl|rfl|rfl|rfl|rfl|rfl|rfl
 .exact OP _ _
 .exact Hv _ _
 .exact Hv _ _
 .exact OP _ _
 .exact Hv _ _
 .exact Hv _ _
 .rw[e1];show Hv _ _
 .rw[e2];show j7 _ λ d hd=>?_;let(p,_,rfl):=A07.mp hd;show x! _ p
def YL(n:Nat)(xs:U GO):gD (n+2) (aq xs) (aq xs)=AC Ch:=by
 show j7 _ λ d hd=>?_;let(y,hy,rfl):=A07.mp hd;cases y.2 with
 |none=>rfl
 |some p=>show x! _ p
def acK{xs:U GO}(m:U GO)(h:∀x∈xs,cX x.1):kH (.tup [ay xs,aq m]) (.tup [ay xs,aq m])=AC Ch:=by
 show j7 _ λ d hd=>?_;rcases A01.mp hd with rfl|hd
 .refine j7 _ λ d hd=>?_;let(y,hy,rfl):=A07.mp hd;show acI 1<|h y hy
 .rw[A11.mp hd];show YL 3 m
abbrev U2(vs:U D):Prop:=∀d∈vs,∀m,rf m d
def Il(H:Hall rows C)(i:I rows C xs m kv j)(dg:Dr g)(hg:g.name∉nms xs)(h5:xs.n<=5)(big:aK rows C (xs++[(g,At)])<=120)(hv:vs.n<100)(hP:U2 vs):∃kz m' vs',I rows C kz m' kv j/\(kz=xs\/kz=xs++[(g,At)])/\U2 vs'/\vs'.n<=vs.n+1/\∀x a b:Nat,cx [dk x (aT rows) (ay xs) (aq xs) (aq m),aT rows,dd a kv,aF g,pl b vs]=.ok (.bl Ch,[dk x (aT rows) (ay kz) (aq kz) (aq m'),dd a kv,pl b vs']):=by
 let hm:∀y∈xs.map (λ x=>aF x.1),ro y≠ro (aF g):=λ y hy e=>by let(z,hz,rfl):=A07.mp hy;show hg<|A07.mpr ⟨z,hz,e⟩
 let l5:(xs.map λ x=>aF x.1).length<=5:=by rw[A08];show h5
 let l5':(xs.map λ x=>bB x.2).length<=5:=by rw[A08];show h5
 let eg:ay (xs++[(g,At)])=.tup ((xs.map λ x=>aF x.1)++[aF g]):=by simp[ay]
 let eo:aq (xs++[(g,At)])=.tup ((xs.map λ x=>bB x.2)++[.non]):=by simp[aq,bB]
 let k6:(xs++[(g,At)]).length<=6:=by simp;lia
 let kg:∀y∈xs++[(g,At)],cX y.1:=λ y hy=>by
  rcases A37.mp hy with hy|hy
  .exact i.s.OE y hy
  .rw[A11.mp hy];show dg.1
 let ko:∀y∈xs++[(g,At)],GOk y.1:=λ y hy=>(kg y hy).toGOk;let kn:(nms<|xs++[(g,At)]).Nodup:=by
  erw[nms,A26,A00,A28];show B52.mpr ⟨i.s.j,by simp,λ a ha b hb e=>by rw[A11.mp hb]at e;show hg<|e▸ha⟩
 let kh:CZ kv (xs++[(g,At)]):=⟨i.h.nd,λ c=>by rw[i.h.eq,Ey hg]⟩
 let Vn:=Kd i.s.good g;let w2:aK rows C (xs++[(g,At)])<=2000:=A15 big ∅;let ef:=KB.vY H k6 ko Vn;let hb:=λ a:Nat=>z0 H (a:=a) k6 kg Vn kn kh w2;let hf:=λ a:Nat=>OL (a:=a) ∅ kn kh;let lt:∀d,(∀m,rf m d)->KC.cu [aT rows,ay (xs++[(g,At)]),d,aq (xs++[(g,At)])]=.ok (.bl<|cD rows C 9 (xs++[(g,At)]) d):=λ d hd=>KC.Gb H k6 ko ef<|hd 9;let sw:=λ d (q:cD rows C 9 (xs++[(g,At)]) d=Ch)=>H_ H k6 ko q ∅;rcases KB.E2 H k6 kg Vn w2 ef with⟨e,b⟩|⟨m',b,bb⟩
 .obtain⟨pp,q,_p,Vv,_⟩:∃d,KC.dY [aT rows,ay (xs++[(g,At)]),aq (xs++[(g,At)])]=.ok d/\(∀m,rf m d)/\cD rows C 9 (xs++[(g,At)]) d=Ch/\True:=by
   rcases KC.zz H k6 ko Vn w2 ef with⟨ne,_⟩|⟨_,d,h1,h2,h3,_⟩
   .exact absurd e ne
   .exact⟨d,h1,h2,h3,trivial⟩
  let ly:=lt pp _p;let sy:=sw pp Vv;rw[Vv]at ly;rw[N4 H ko Vn e]at hb;rw[eg,eo]at b q;rw[eg]at hb hf ly sy;let ax:=λ x:Nat=>Q5 (x:=x) (ps:=aq m) dg.2.1 (xA g) (NF xs) hm l5 l5' b<|.inr ⟨pp,rfl,q,rfl⟩;let ak:=λ x:Nat=>CU<|ax x;show⟨xs,m,vs++[pp],i,.inl rfl,λ d hd=>?_,by simp,λ x a bt=>?_⟩
  .rcases A37.mp hd with hd|hd
   .exact hP d hd
   .rw[A11.mp hd];show _p
  .let he:l_ (.tup [ay xs,aq m]) (.tup [ay xs,aq m])=.ok (.bl AT):=(Jf<|acK m i.s.OE).2;show BS ∅ oU mT (hf a) (hb a) (ak x) he hv ly sy
 .let ml:m'.n=xs.n+1:=by let:=bb.ext.len;simp at this;lia
  let(p,hp):=GA bb.full (λ e=>by rw[e]at ml;simp at ml) ∅;let nn:gj (aq m')=.ok (.bl AT):=rfl;let no:∀d∈cut vs (AC<|-3) At,KC.cu [aT rows,ay (xs++[(g,At)]),d,aq (xs++[(g,At)])]=.ok (.bl AT):=λ d hd=>by
   rw[lt d<|hP d<|D! hd];cases q:cD rows C 9 (xs++[(g,At)]) d with
   |false=>rfl
   |true=>show(vw H 9 _ d ko q m' bb.ext bb.good bb.full).elim
  rw[N3 H ko Vn bb]at hb;rw[eg,eo]at b;rw[eg]at hb hf no;let ax:=λ x:Nat=>Q5 (x:=x) (ps:=aq m) dg.2.1 (xA g) (NF xs) hm l5 l5' b<|.inl ⟨nn,rfl⟩;let ao:=λ x:Nat=>UX (x:=x) (ps:=aq m) dg.2.1 (xA g) (NF xs) hm l5 l5' b nn hp;let ak:=λ x:Nat=>Lk (ax x)<|ao x;show⟨xs++[(g,At)],m',vs,((k6,kg,kn,A15 big ∅,bb,),kh,i.l,λ y hy=>?_,),.inr rfl,hP,by lia,λ x a bt=>?_⟩
  .rcases A37.mp hy with hy|hy
   .exact i.dr y hy
   .rw[A11.mp hy];show dg
  .let he:oEq (aq m') (aq m')=.ok (.bl Ch):=(Jf<|YL 4 m').1;rw[eg,eo];show Im ∅ oU mT (hf a) (hb a) (ak x) mT he hv no
end fA
namespace fA
open Z
open KG (G GO Pl Rows Hall cX GOk aF aG bB aT places bZ)
open KH (ay aq Good a7)
open KB (aK cw bJ iU iX Ext Full wS jF)
variable{rows:Rows}{C:Nat}{xs m:U GO}{kv:cK}{j k:Nat}{g:G}{vs:U D}{X0 S:D}
def Vo(l:ε L):Prop:=l=At\/∃d,l=v d
abbrev lE(X0 S:D)(rows:Rows)(xs m:U GO)(kv:cK)(vs:U D)(x a b:Nat)(l6 l7 l8:ε L):Env:=[v X0,v (aT rows),v S,AC (.bor<|dk x (aT rows) (ay xs) (aq xs)<|aq m),AC (.bor<|dd a kv),AC (.bor<|pl b vs),l6,l7,l8]
abbrev e1:SM:=(ic (uJ<|tE<|eB oEq (eU bj<|aj aP<|ai (eM 0 3) ag)<|eI 6) (bQ (bz (([3]++[4])++[5])<|aN 8<|eB bf (eB bf (aj aP<|ai (eM 0 3) ag)<|eI 0)<|eI 0)<|bQ (jA<|gu f' [Ch,AT] [3]<|ai (eM 0 3)<|aV 8 ag)<|ic (uJ<|tE<|eB (uH Ch) (eV 8)<|eM 1 4) (jA<|JH 4<|eV 8) dU) dU)
abbrev e3:SM:=(ic (uJ<|n8 (tE<|eB oEq (eB oMod (aj KG.aZ<|aV 0<|ai (eB aS (eI 21)<|eW 6) ag)<|eI 3)<|eI 1)<|tE<|eB uI (eW 7)<|aj aP<|ai (eM 0 3) ag) (bQ (NU 4 (eX 7 0)<|aj e_<|ai (eM 0 3)<|aX 7 0 ag)<|jA<|gu f9 [Ch,AT] [3]<|ai (eM 0 3)<|aX 7 0 ag) dU)
abbrev e2:SM:=(ic (uJ<|tE<|eB oLe (aj fE<|aV 1<|ai (eB aS (aj aP<|ai (eM 0 3) ag)<|cm<|aV 7 ag)<|ai (eM 1 4) ag)<|eI 120) (bQ (ic (zS<|Xm<|gu cx [Ch,AT,Ch,AT,Ch] [3,4,5]<|ai (eM 0 3)<|aV 1<|ai (eM 1 4)<|aV 7<|ai (eM 2 5) ag) (bz (([3]++[4])++[5])<|aJ<|eC<|.bl AT) dU) e3) dU)
def YH(H:Hall rows C)(i:I rows C xs m kv j):∃kz m' A?,I rows C kz m' A? j/\kz.n<=5/\(∀n∈nms kz,n∈nms xs)/\∀(x a b:Nat)(vs:U D)(l6 l7 l8:ε L),Vo l6->Vo l7->Vo l8->∃Hk,Vo Hk/\e1 (lE X0 S rows xs m kv vs x a b l6 l7 l8)=.ok (.nx<|lE X0 S rows kz m' A? vs x a b l6 l7 Hk):=by
 let hh:=λ x:Nat=>oU (x:=x) (hall:=aT rows) (gs:=ay xs) (hl:=aq xs) (ps:=aq m);let ln:bj (ay xs)=.ok (.int (xs.n:Nat)):=by let:=i.s.six;simp[ay]
 by_cases h:xs.n=6
 .obtain⟨y,hk⟩:∃y,xs[0]?=AC y:=(_,A04 ∅,)
  let(m',s'):=i.s.away H 0;let kl:0<xs.n:=by lia
  let nu:=λ x:Nat=>Jh (x:=x) (hall:=aT rows) (hl:=aq xs) (ps:=aq m) i.s.names i.dr hk;let aw:=λ x:Nat=>Pu (nu x) (Bm kl i.s.six) (Bl kl i.s.six)<|s'.tell H;let he:∀n,(bh y.1.name kv).lookup n=tq (xs.eraseIdx 0) n:=λ n=>by rw[vV i.s.names hk,AK _ _ _ i.h.nd,i.h.eq]
  let hs:(bh y.1.name kv).Sublist kv:=v! _ _;let kh:CZ (bh y.1.name kv) (xs.eraseIdx 0):=(i.h.nd.sublist<|hs.map _,he,)
  show⟨xs.eraseIdx 0,m',bh y.1.name kv,(s',kh,A15 hs.length_le i.l,λ z hz=>i.dr z<|B55 hz,),by rw[dL];split<;>lia,λ n hn=>?_,λ x a b vs l6 l7 l8 v6 v7 v8=>(v<|.str y.1.name,.inr ⟨_,rfl⟩,?_,)⟩
  .let(z,hz,rfl):=A07.mp hn;show A07.mpr ⟨z,B55 hz,rfl⟩
  .let i0:bf (ay xs) (.int 0)=.ok (aF y.1):=(da (j:=0) rfl (by rw[A06,hk];rfl)).1;let i1:=nv y.1;let _M:oEq (.int (xs.n:Nat)) (.int 6)=.ok (.bl Ch):=by rw[h];rfl
   let ei:=JW Ch a kv y.1.name;rcases v6 with rfl|⟨d6,rfl⟩<;>rcases v7 with rfl|⟨d7,rfl⟩<;>rcases v8 with rfl|⟨d8,rfl⟩
   all_goals
    cases e:kv.lookup y.1.name with
    |none=>rw[e]at ei;rw[tU e];simp[bQ,bz,ic,uJ,dU,jA,JH,gu,hh,ln,_M,i0,i1,ei,aw,eM,dB,mZ,xG,line,guard_pos,i8,BH,g0,dR,jT]
    |some p=>rw[e]at ei;let pp:=RP (a:=a) i.h.nd e;simp[bQ,bz,ic,uJ,dU,jA,JH,gu,hh,ln,_M,i0,i1,ei,pp,aw,eM,dB,mZ,xG,line,guard_pos,i8,BH,g0,dR,jT]
 .refine⟨xs,m,kv,i,by let:=i.s.six;lia,λ n hn=>hn,λ x a b vs l6 l7 l8 v6 v7 v8=>(l8,v8,?_,)⟩;let _M:oEq (.int (xs.n:Nat)) (.int 6)=.ok (.bl AT):=by
   let:((xs.n:Nat):Int)≠6:=by lia
   let e:oEq (.int (xs.n:Nat)) (.int 6)=.ok (.bl<|((xs.n:Nat):Int)==6):=rfl;rw[e,A51.mpr this]
  simp[bQ,bz,ic,uJ,dU,hh,ln,_M,eM,guard_pos]
def hold(i:I rows C xs m kv j)(hj:j<900)(gr:cX g)(hx:g.name∉nms xs\/∃(k:Nat)(o:ε Pl),xs[k]?=AC (g,o)){kk c:Int}(hc:KG.aZ [X0,.int (21+kk)]=.ok (.int c))(Ox:aS (.int 21) (.int kk)=.ok (.int<|21+kk)):∃kz A?,I rows C kz m A? (j+1)/\nms kz=nms xs/\∀(x a b:Nat)(vs:U D)(l8:ε L),Vo l8->e3 (lE X0 S rows xs m kv vs x a b (v<|.int kk) (v<|aF g) l8)=.ok (.nx<|lE X0 S rows kz m A? vs x a b (v<|.int kk) (v<|aF g) l8):=by
 let hh:=λ x:Nat=>oU (x:=x) (hall:=aT rows) (gs:=ay xs) (hl:=aq xs) (ps:=aq m);let(r,ein,hr0,hr1):=Ti gr i.s.OE;let om:oMod (.int c) (.int 3)=.ok (.int<|c % 3):=by simp[bD]
 let oe:oEq (.int<|c % 3) (.int 1)=.ok (.bl<|c % 3==1):=rfl;by_cases h:(c % 3==1&&r)=Ch
 .simp only[A34]at h;let(h1,rfl):=h;let hx:∃(k:Nat)(o:ε Pl),xs[k]?=AC (g,o):=by
   rcases hx with h|h
   .exact absurd (hr0 h) ∅
   .exact h
  let(k,o,hk):=hx;let(p,hp):=MQ i.s hk;let nu:=λ x:Nat=>Jh (x:=x) (hall:=aT rows) (hl:=aq xs) (ps:=aq m) i.s.names i.dr hk;let px:=XA hp;let wp:=(KB.kM i.s.six (g:=g) (o:=o) hk p).1;let wh:=λ x:Nat=>HC (nu x) px;let fa:=λ x:Nat=>OK (nu x) px wp;let eg:ay (xs.set k (g,AC p))=ay xs:=KH.p7 hk<|some p;let pu:=λ a:Nat=>RJ (a:=a) (d:=aG p) (n:=g.name) i.h.nd (by let:=i.l;lia);let i0:=nv g;let en:nms (xs.set k (g,AC p))=nms xs:=by
   let:∀zs:U GO,nms zs=(zs.map λ x=>aF x.1).map ro:=λ zs=>by rw[A24];rfl
   rw[this,this];let:=D.tup.inj eg;rw[this]
  show(xs.set k (g,AC p),a9 g.name (aG p) kv,(i.s.fast hp,(Dq _ _ _ i.h.nd,λ n=>?_,),?_,λ z hz=>?_,),en,λ x a b vs l8 v8=>?_,)
  .rw[Ds,Ex p i.s.names (o:=o) hk,i.h.eq]
  .let:=zr g.name (aG p) kv;let:=i.l;lia
  .rcases C48 hz with h|h
   .exact i.dr z h
   .rw[h];show i.dr (g,o)<|A21 hk
  .let eo:bB (AC p)=aG p:=rfl;erw[lE,eg];rcases v8 with rfl|⟨d8,rfl⟩
   all_goals simp[bQ,bz,ic,uJ,dU,jA,NU,gu,hh,hc,Ox,om,oe,h1,ein,i0,wh,fa,pu,eo,eM,dB,mZ,xG,line,guard_pos,i8,BH,g0,dR,jT,bD]
 .refine⟨xs,kv,⟨i.s,i.h,C13 i.l,i.dr⟩,rfl,λ x a b vs l8 v8=>?_⟩;cases q:(c % 3==1)with
  |false=>simp[bQ,bz,ic,uJ,dU,hc,Ox,om,oe,q,guard_pos,bD]
  |true=>
   let:r=AT:=by
    cases r with
    |false=>rfl
    |true=>rw[q]at h;show absurd rfl h
   subst this;simp[bQ,bz,ic,uJ,dU,hh,hc,Ox,om,oe,q,ein,eM,guard_pos,bD]
end fA
namespace fA
open Z
open KG (G GO Pl Rows Hall cX GOk aF aG bB aT places bZ)
open KH (ay aq Good a7)
open KB (aK cw bJ iU iX Ext Full wS jF)
variable{rows:Rows}{C:Nat}{xs m:U GO}{kv:cK}{j k:Nat}{g:G}{vs:U D}{X0 S:D}
abbrev e2F(E:SM):SM:=(ic (uJ<|tE<|eB oLe (aj fE<|aV 1<|ai (eB aS (aj aP<|ai (eM 0 3) ag)<|cm<|aV 7 ag)<|ai (eM 1 4) ag)<|eI 120) (bQ (ic (zS<|Xm<|gu cx [Ch,AT,Ch,AT,Ch] [3,4,5]<|ai (eM 0 3)<|aV 1<|ai (eM 1 4)<|aV 7<|ai (eM 2 5) ag) (bz (([3]++[4])++[5])<|aJ<|eC<|.bl AT) dU) E) dU)
def A6(H:Hall rows C)(i:I rows C xs m kv j)(hj:j<900)(h5:xs.n<=5)(dg:Dr g)(hg:g.name∉nms xs)(hP:U2 vs)(hv:vs.n<100){kk c:Int}(hc:KG.aZ [X0,.int (21+kk)]=.ok (.int c))(Ox:aS (.int 21) (.int kk)=.ok (.int<|21+kk)):∃kz m' A? vs',I rows C kz m' A? (j+1)/\(∀n∈nms kz,n∈nms xs\/n=g.name)/\U2 vs'/\vs'.n<=vs.n+1/\∀(x a b:Nat)(l8:ε L),Vo l8->e2 (lE X0 S rows xs m kv vs x a b (v<|.int kk) (v<|aF g) l8)=.ok (.nx<|lE X0 S rows kz m' A? vs' x a b (v<|.int kk) (v<|aF g) l8):=by
 let hh:=λ x:Nat=>oU (x:=x) (hall:=aT rows) (gs:=ay xs) (hl:=aq xs) (ps:=aq m);let k6:(xs++[(g,At)]).length<=6:=by simp;lia
 let ko:∀y∈xs++[(g,At)],GOk y.1:=λ y hy=>by
  rcases A37.mp hy with hy|hy
  .exact(i.s.OE y hy).toGOk
  .rw[A11.mp hy];show dg.1.toGOk
 let kn:(nms<|xs++[(g,At)]).Nodup:=by
  erw[nms,A26,A00,A28];show B52.mpr ⟨i.s.j,by simp,λ a ha b hb e=>by rw[A11.mp hb]at e;show hg<|e▸ha⟩
 let kh:CZ kv (xs++[(g,At)]):=⟨i.h.nd,λ c=>by rw[i.h.eq,Ey hg]⟩
 let hw:=λ a:Nat=>HD H (a:=a) k6 ko kn kh;let ad:aS (ay xs) (.tup [aF g])=.ok (ay<|xs++[(g,At)]):=by
  let:ay (xs++[(g,At)])=.tup ((xs.map λ x=>aF x.1)++[aF g]):=by simp[ay]
  rw[this];show guard_pos (by simp;lia)
 let ol:∀w:Int,oLe (.int w) (.int 120)=.ok (.bl<|decide<|w<=120):=λ _=>rfl;by_cases big:aK rows C (xs++[(g,At)])<=120
 .let bg:decide (((aK rows C (xs++[(g,At)]):Nat):Int)<=120)=Ch:=A54 ∅;let(U?,m1,VW,i1,hx,hP1,Hm,rt):=Il H i dg hg h5 big hv hP;let To:g.name∉nms U?\/∃(k:Nat)(o:ε Pl),U?[k]?=AC (g,o):=by
   rcases hx with rfl|rfl
   .exact .inl hg
   .exact .inr ⟨xs.n,At,by simp⟩
  let(VS,Xu,i2,en,q):=hold (S:=S) i1 hj dg.1 To hc Ox;show(VS,m1,Xu,VW,i2,λ n hn=>?_,hP1,Hm,λ x a b l8 v8=>?_,)
  .rw[en]at hn;rcases hx with rfl|rfl
   .exact .inl hn
   .simp only[nms,A26,A00,A28,A37,A11]at hn;show hn
  .let q:=q x a b VW l8 v8;show Eq.trans ?_ q;let G:∀E:SM,e2F E (lE X0 S rows xs m kv vs x a b (v<|.int kk) (v<|aF g) l8)=E (lE X0 S rows U? m1 kv VW x a b (v<|.int kk) (v<|aF g) l8):=λ E=>by
    rcases v8 with rfl|⟨d8,rfl⟩
    all_goals simp[bQ,bz,ic,uJ,zS,Xm,dU,gu,hh,hw,ad,ol,bg,rt,eM,dB,mZ,xG,line,guard_pos,i8,BH,g0,dR,jT]
   show G e3
 .let bg:decide (((aK rows C (xs++[(g,At)]):Nat):Int)<=120)=AT:=A43 ∅;show(xs,m,kv,vs,(i.s,i.h,C13 i.l,i.dr,),λ n hn=>.inl hn,hP,A58 _,λ x a b l8 v8=>?_,);simp[bQ,bz,ic,uJ,dU,hh,hw,ad,ol,bg,eM,guard_pos,line]
end fA
namespace fA
open Z
open KG (G GO Pl Rows Hall cX GOk aF aG bB aT places bZ)
open KH (ay aq Good a7)
open KB (aK cw bJ iU iX Ext Full wS jF)
variable{rows:Rows}{C:Nat}{xs m:U GO}{kv:cK}{j k:Nat}{g:G}{vs:U D}{X0 S:D}{ns:U Int}
def round(H:Hall rows C)(i:I rows C xs m kv j)(hj:j<900)(dg:Dr g)(hg:g.name∉nms xs)(hP:U2 vs)(hv:vs.n<100){kk c:Int}(hc:KG.aZ [X0,.int (21+kk)]=.ok (.int c))(Ox:aS (.int 21) (.int kk)=.ok (.int<|21+kk)):∃kz m' A? vs',I rows C kz m' A? (j+1)/\(∀n∈nms kz,n∈nms xs\/n=g.name)/\U2 vs'/\vs'.n<=vs.n+1/\∀(x a b:Nat)(l8:ε L),Vo l8->∃Hk,Vo Hk/\bQ e1 e2 (lE X0 S rows xs m kv vs x a b (v<|.int kk) (v<|aF g) l8)=.ok (.nx<|lE X0 S rows kz m' A? vs' x a b (v<|.int kk) (v<|aF g) Hk):=by let(U?,m1,kv1,i1,h5,hn,q1):=YH (X0:=X0) (S:=S) H i;let(VS,m2,Xu,P5,i2,J3,hP2,Qy,q2):=A6 (X0:=X0) (S:=S) H i1 hj h5 dg (λ h=>hg<|hn _ h) hP hv hc Ox;show(VS,m2,Xu,P5,i2,λ n h=>(J3 n h).imp (hn n) id,hP2,Qy,λ x a b l8 v8=>?_,);let(Hk,ZF,e):=q1 x a b vs (v<|.int kk) (v<|aF g) l8 (.inr ⟨_,rfl⟩) (.inr ⟨_,rfl⟩) v8;show(Hk,ZF,Xn e<|q2 x a b Hk ZF,)
def rounds(H:Hall rows C)(hb:KG.Bd ns):∀(gs:U G)(n0:Nat)(xs m:U GO)(kv:cK)(j:Nat)(vs:U D),I rows C xs m kv j->j+gs.n<90->(∀g∈gs,Dr g)->(gs.map (·.name)).Nodup->(∀n∈nms xs,n∉gs.map (·.name))->U2 vs->vs.n+gs.n<100->∃kz m' A? vs',∀(x a b:Nat)(l6 l7 l8:ε L),Vo l6->Vo l7->Vo l8->∃l6' l7' Hk,tJ (([3]++[4])++[5]) (cJ [6,7]) (bQ e1 e2) (kG n0<|gs.map aF) (lE (.lst<|ns.map .int) S rows xs m kv vs x a b l6 l7 l8)=.ok (.nx<|lE (.lst<|ns.map .int) S rows kz m' A? vs' x a b l6' l7' Hk)
|[],n0,xs,m,kv,j,vs,i,_,_,_,_,_,_=>(xs,m,kv,vs,λ x a b l6 l7 l8 _ _ _=>(l6,l7,l8,rfl,),)
|g::gs,n0,xs,m,kv,j,vs,i,hj,hd,nd,hn,hP,hv=>by
 rw[A29]at hj hv;let(nd1,nd2):=A19.mp nd;let(c,hc,_):=KG.lV hb (k:=21+(n0:Int)) ∅;let(U?,m1,kv1,VW,i1,hn1,hP1,Hm,q):=round (S:=S) H i ∅ (hd g A13) (λ h=>hn _ h A13) hP ∅ hc ∅;let(VS,m2,Xu,P5,r):=rounds H hb gs (n0+1) U? m1 kv1 (j+1) VW i1 ∅ (λ g h=>hd g<|A09 _ h) nd2 (λ n h=>by
  rcases hn1 n h with h|rfl
  .exact λ z=>hn n h<|A09 _ z
  .exact nd1) hP1 ∅
 show(VS,m2,Xu,P5,λ x a b l6 l7 l8 v6 v7 v8=>?_,);let(Hk,ZF,e):=q x a b l8 v8;let(w6,w7,w8,f):=r x a b (v<|.int (n0:Nat)) (v<|aF g) Hk (.inr ⟨_,rfl⟩) (.inr ⟨_,rfl⟩) ZF;show(w6,w7,w8,?_,);rw[<-f];let gX:∀Y:Env,cJ [6,7] (pair (.int (n0:Nat))<|aF g) Y=.ok ((Y.set 6<|v<|.int (n0:Nat)).set 7<|v<|aF g):=λ _=>rfl;generalize bQ e1 e2=χ at *;let kp:dB (([3]++[4])++[5]) (lE (.lst<|ns.map .int) S rows xs m kv vs x a b l6 l7 l8) (lE (.lst<|ns.map .int) S rows xs m kv vs x a b (v<|.int (n0:Nat)) (v<|aF g) l8):=by
  rcases v8 with rfl|⟨d8,rfl⟩
  all_goals simp[dB,mZ,xG]
 change(cJ [6,7] (pair (.int (n0:Nat))<|aF g) _).bind _=_;rw[gX];change Z.guard (dB _ _<|lE (.lst<|ns.map .int) S rows xs m kv vs x a b (v<|.int (n0:Nat)) (v<|aF g) l8) ((χ<|lE (.lst<|ns.map .int) S rows xs m kv vs x a b (v<|.int (n0:Nat)) (v<|aF g) l8).bind _)=_;rw[guard_pos kp,e];rfl
end fA
namespace fA
open Z
open KG (G GO Pl Rows Hall cX GOk aF aG bB aT places)
open KH (ay aq Good)
open KB (aK cw bJ iU iX Ext Full wS)
section
variable{ms:U Nat}{i:Nat}{r:SM}{Y:Env}{d:D}{ts:U D}
def NH(hi:i∉ms)(hl:ts.n=ms.n)(h:∀x,∃t,r (Y.set i<|some<|.bor<|eK x 2 [] [])=.ok (.rt d<|ts++[t])):D_ ms i r Y=.ok (.rt d ts):=by unfold D_;rw[guard_pos hi];show allM_mk λ x=>?_;let(t,e):=h x;rw[e];change guard _ _=_;rw[guard_pos (by rw[A38,hl];rfl),<-hl,AC1 rfl]
end
def i0(rows:Rows)(C:Nat):I rows C [] [] [] 0:=by show⟨⟨by simp,by simp,by simp,by change 1<=250;decide,((rfl,λ i g p h=>(by ext h),),λ i g p h=>(by ext h),λ i g h=>(by ext h),λ z e _ _=>?_,)⟩,⟨by simp,λ c=>rfl⟩,P3 _,by simp⟩;let:=A97 (by rw[<-e.len];rfl);subst this;show(Int.le_refl _,λ _=>.inl rfl,)
def holds(ns:U Int)(hn:ns.n<=63)(hb:∀i∈ns,bits i<=2^20):pX [.lst (ns.map .int)]=.ok (.bl Ch):=by
 let χ:KG.Bd ns:=hb;let(rows,R,C,jE,r1,r2,c1,c2,eh):=Am χ;let H:Hall rows C:=(KG.Yo (by rw[jE.1];show r1) (by rw[jE.1];show r2) c1 c2 jE.2).toHall;let HA:KA.Hall R C rows:=(r1,r2,c1,c2,jE.1,λ x hx=>(jE.2 x hx).1,λ x hx=>(jE.2 x hx).2,)
 let(k2,EJ,_):=KG.lV χ (k:=2) ∅;obtain⟨mm,hmm,abK⟩:∃mm:Nat,(8:Int)+max 0 (min 10<|(ns.n:Int)-11)=mm/\mm<=18:=⟨(8+max 0 (min 10<|(ns.n:Int)-11)).toNat,by lia,by lia⟩
 let(nm,hl6,nd,nok,en):=xB k2 mm abK;let(gs,J9,_t,eg):=uO χ (st:=3) ∅ (nms:=nm) ∅ nok;let _u:gs.n=nm.n:=by rw[<-J9,A08]
 let hi:=Om HA;let(kz,m',A?,vs',lp):=rounds (S:=.tup (gs.map aF)) H χ gs 0 [] [] [] 0 [] (i0 rows C) ∅ _t (by rw[J9];show nd) (λ n h=>by ext h) (λ d h=>by ext h) (by simp;lia);rw[Ua];show aA ?_;unfold Lj;show KS.Ib (Y1:=[v (.lst<|ns.map .int),v (aT rows),At,At,At,At,At,At,At]) (by simp[eh]) ?_;show KS.Ib (Y1:=[v (.lst<|ns.map .int),v (aT rows),v (.tup<|gs.map aF),At,At,At,At,At,At]) (by
  let q:ns.n<=16777216:=by lia
  let e:aS (.int 8) (.int<|max 0<|min 10<|(ns.n:Int)-11)=.ok (.int (mm:Nat)):=by rw[<-hmm];simp
  simp[EJ,en,eg,e,q]) ?_
 show(.rt<|.bl Ch,JF (d:=aT rows) ∅ hi (by simp[mZ,xG]) λ x=>?_,rfl,);show([dk x (aT rows) (ay kz) (aq kz) (aq m')],NI ∅ rfl λ a=>(dd a A?,NH ∅ rfl λ b=>(pl b vs',?_,),),);let(l6,l7,l8,lq):=lp x a b At At At (.inl rfl) (.inl rfl) (.inl rfl);show Xn (Y1:=lE (.lst<|ns.map .int) (.tup<|gs.map aF) rows kz m' A? vs' x a b l6 l7 l8) ?_ ?_
 .unfold SW;let it:∀Y:Env,Y[2]?=AC (v<|.tup<|gs.map aF)->Es (eV 2) Y=.ok (kG 0<|gs.map aF):=λ Y h=>by simp[h,jc]
  rw[it _ rfl];show lq
 .simp[lE,bz,guard_pos,BH,g0,dR,jT]
end fA
set_option maxRecDepth 100000
namespace fA
open PySem PySem.Spec PyProof.Rows L2 ZQ KG KH KB KC KA KS
def top(i:Nat):η:=PySem.Challenge.pw_besideseats_k97_whole_full_with_its_pape.main.body.getD i<|.Pass ⟨0,0,0,0⟩
abbrev yA(i j:Nat):η:=ZS.clsAt (top i) j
def Pt:bootBuiltins "bool"=AC (.type "bool"):=by kernel_rfl
def Li:bootBuiltins "int"=AC (.type "int"):=by kernel_rfl
def gV:bootBuiltins "isinstance"=AC (.builtin "isinstance"):=by kernel_rfl
def CP:bootBuiltins "max"=AC (.builtin "max"):=by kernel_rfl
def CO:bootBuiltins "min"=AC (.builtin "min"):=by kernel_rfl
def UU:bootBuiltins "str"=AC (.type "str"):=by kernel_rfl
def Lh:bootBuiltins "tuple"=AC (.type "tuple"):=by kernel_rfl
abbrev w5:η:=top 66
def mq:aW ["groups","seatings"] ["groups","seatings"] (aa w5):=ZS.Bb
abbrev sx:η:=top 76
def kA:aW ["groups","places","seating","waiting","k","spots","papers"] ["groups","places","seating"] (aa sx):=ZS.Bb
set_option genInjectivity false in
theorem _root_.Lake.zqx{α:Type}{p:α->Prop}{t}(h:p t):∃t,p t:=⟨t,h⟩
structure Fs(K:Da)(mg:Str->Option Value)(h:Heap)(cY gM:Addr):Prop where
 X:K.In h
 G:h.Ns mainGlobals mg
 BB:ca K "is_whole" (top 11)
 nX:ca K "is_whole_within" (top 12)
 yY:ca K "is_letter" (top 13)
 Fq:ca K "is_name" (top 29)
 Ft:ca K "is_kind" (top 30)
 yZ:ca K "is_amount" (top 31)
 Fo:ca K "is_wish" (top 32)
 wM:ca K "are_wishes" (top 33)
 pC:ca K "asks_for_seats" (top 34)
 BC:ca K "is_group" (top 35)
 Bs:ca K "worth_in" (top 36)
 Fp:ca K "is_sign" (top 40)
 HI:ca K "is_row" (top 41)
 Fu:ca K "is_hall" (top 42)
 Fj:ca K "sign_at" (top 43)
 Mq:ca K "takes" (top 45)
 Bu:ca K "seats_of" (top 46)
 Rm:ca K "fits" (top 47)
 yQ:ca K "places_of" (top 48)
 Ms:ca K "apart" (top 50)
 pB:ca K "those_that_sit" (top 51)
 pD:ca K "apart_from_all" (top 52)
 Mr:ca K "keeps" (top 53)
 Br:ca K "worth_of" (top 54)
 rY:ca K "fast_seating" (top 57)
 Rl:xL K "ways" (top 58)
 ur:ca K "small_start" (top 59)
 wG:ca K "with_place" (top 60)
 wH:ca K "open_among" (top 61)
 qM:ca K "with_one_more" (top 62)
 qN:ca K "seatings_from" (top 63)
 rX:xL K "first_of_all" (top 64)
 nY:ZS.uf K "best_among" (top 66)
 uw:xL K "best_of_all" (top 67)
 wN:ca K "all_places" (top 69)
 Bt:ca K "spots_of" (top 70)
 wL:ca K "is_waiting" (top 71)
 uz:ca K "begins_with" (top 72)
 Fv:ca K "is_each" (top 73)
 jq:ca K "lets_by_beside" (top 74)
 Fm:xL K "lets_by" (top 75)
 iA:ZS.uf K "paper_beside" (top 76)
 Bv:xL K "paper_of" (top 77)
 Fh:ca K "without" (top 80)
 y?:lf K cY "__init__" "Desk.__init__" (yA 81 0)
 pE:lf K cY "number_of" "Desk.number_of" (yA 81 1)
 r9:lf K cY "ask" "Desk.ask" (yA 81 2)
 y_:lf K cY "fast" "Desk.fast" (yA 81 3)
 zb:lf K cY "away" "Desk.away" (yA 81 4)
 wQ:lf K cY "where" "Desk.where" (yA 81 5)
 r8:lf K cY "at_hand" "Desk.at_hand" (yA 81 6)
 rZ:lf K cY "seating" "Desk.seating" (yA 81 7)
 uv:ca K "_law_cell_at" (top 83)
 yU:ca K "_law_mixed" (top 84)
 wK:ca K "_law_digits" (top 85)
 yT:ca K "_law_names" (top 86)
 uu:ca K "_law_letters" (top 87)
 By:ca K "_law_hall" (top 88)
 Fn:ca K "_law_any" (top 89)
 yV:ca K "_law_group" (top 90)
 wJ:ca K "_law_groups" (top 91)
 wI:ca K "_law_places" (top 92)
 Bw:ca K "_law_ways" (top 93)
 yX:ca K "_law_apart" (top 94)
 rW:ca K "_law_worth_in" (top 95)
 BA:ca K "_law_best" (top 96)
 Bx:ca K "_law_open" (top 97)
 yR:ca K "_law_shows" (top 98)
 yW:ca K "_law_asked" (top 99)
 Bz:ca K "_law_fast" (top 100)
 yS:ca K "_law_right" (top 101)
 VZ:ca K "law" (top 102)
 Xk:FB K mainGlobals "all"=AC At
 SI:FB K mainGlobals "bool"=AC At
 zR:FB K mainGlobals "enumerate"=AC At
 Xj:FB K mainGlobals "int"=AC At
 xC:FB K mainGlobals "isinstance"=AC At
 Xi:FB K mainGlobals "len"=AC At
 Xh:FB K mainGlobals "max"=AC At
 Xg:FB K mainGlobals "min"=AC At
 NL:FB K mainGlobals "range"=AC At
 Xf:FB K mainGlobals "str"=AC At
 Xe:FB K mainGlobals "sum"=AC At
 NK:FB K mainGlobals "tuple"=AC At
 Xd:FB K mainGlobals "zip"=AC At
 Mo:∃t,FB K mainGlobals "DEPTH"=AC (AC<|.int 2 t)
 VY:∃t,FB K mainGlobals "GAP"=AC (AC<|.int 5 t)
 Rj:∃t,FB K mainGlobals "KIND"=AC (AC<|.int 3 t)
 Bq:∃t,FB K mainGlobals "LAST_ROW"=AC (AC<|.int 5 t)
 rV:∃t,FB K mainGlobals "MOST_COLUMNS"=AC (AC<|.int 12 t)
 wF:∃t,FB K mainGlobals "MOST_DEPTH"=AC (AC<|.int 3 t)
 Bp:∃t,FB K mainGlobals "MOST_GAP"=AC (AC<|.int 6 t)
 uq:∃t,FB K mainGlobals "MOST_GUESTS"=AC (AC<|.int 6 t)
 rT:∃t,FB K mainGlobals "MOST_LETTERS"=AC (AC<|.int 8 t)
 yP:∃t,FB K mainGlobals "MOST_ROWS"=AC (AC<|.int 6 t)
 yO:∃t,FB K mainGlobals "MOST_WAYS"=AC (AC<|.int 2000 t)
 wD:∃t,FB K mainGlobals "MOST_WIDTH"=AC (AC<|.int 12 t)
 Ri:∃t,FB K mainGlobals "NAME"=AC (AC<|.int 0 t)
 Mn:∃t,FB K mainGlobals "PARTS"=AC (AC<|.int 8 t)
 Rh:∃t,FB K mainGlobals "WIDE"=AC (AC<|.int 4 t)
 Mm:∃t,FB K mainGlobals "WIDTH"=AC (AC<|.int 1 t)
 HG:∃t,FB K mainGlobals "WISHES"=AC (AC<|.int 7 t)
 Ml:∃t,FB K mainGlobals "WORTH"=AC (AC<|.int 6 t)
 w_Desk:FB K mainGlobals "Desk"=AC (AC<|.ref cY)
 w_Full:FB K mainGlobals "Full"=AC (AC<|.ref gM)
 Me:ZS.Rb K gM=Ch
 OT:ZS.PU K gM
 Ph:Ly K cY
 NQ:bn K cY=Ch
 N6:FS K (.ref cY)=Ch
 F6:Fk K (.ref cY) "guests"=AC At
 ND:Fk K (.ref cY) "hall"=AC At
 NC:Fk K (.ref cY) "held"=AC At
 F5:Fk K (.ref cY) "places"=AC At
 EI:ZS.yr K gM
 mG:Fk K (.ref gM) "paper"=AC At
 wZ:PySem.W.mroIn K gM (.ref gM)=AC Ch
 y!:lf K gM "__init__" "Full.__init__" (yA 8 0)
 Mb:ZS.Mc K gM=Ch
 N5:FS K (.ref gM)=Ch
section
variable{P:ο}{w:ξ}{K:Da}{mg:Str->ε ζ}{base h:ν}{cY gM:δ}(z:Fs K mg h cY gM)
include z
def Fs.k{n}{i:Int}(h:∃t,FB K mainGlobals n=AC (AC<|.int i t)):∃t,mg n=AC (.int i t):=h.imp λ _=>A31 z.X z.G
def Fs.m{n}(h:FB K mainGlobals n=AC At):mg n=At:=A55 z.X z.G h
def Fs.SV:mg "Full"=AC (.ref gM):=A31 z.X z.G z.w_Full
def Fs.wB:ZS.XC K [70,117,108,108] gM:=ZS.VT (by decide +kernel) z.w_Full z.Me
def Fs.hC:ZS.nO K "Desk" cY:=(z.w_Desk,z.Ph,)
def Fs.vI:ZS.VJ K "guests":=(cY,z.w_Desk,z.F6,)
def Fs.D5:ZS.VJ K "hall":=(cY,z.w_Desk,z.ND,)
def Fs.D4:ZS.VJ K "held":=(cY,z.w_Desk,z.NC,)
def Fs.vH:ZS.VJ K "places":=(cY,z.w_Desk,z.F5,)
def Fs.uQ:ZS.U8 K "paper" [70,117,108,108]:=ZS.OH z.wB.1 z.OT z.EI z.mG
def IX:ZS.U' P w K mg base gM 1 [[112,97,112,101,114]]:=ZS.Y! z.y! z.Mb z.N5 z.EI z.mG (by decide +kernel) rfl (λ _ _ _ _ _ _=>ZS.Zd λ _ _=>rfl) ZS.Bb (ZS.Mj (by decide +kernel)) (by decide +kernel) (by decide +kernel)
local macro_rules(kind:=Lean.Parser.Tactic.case)|s=>let a:=s[1][0];let g:=a[0][0].getId;if g==`K then return s[3]else if g==`W then return s[3].rewriteBottomUp λ x=>if x.isOfKind ``Lean.Parser.Tactic.first then x.setArg 1<|zqq<|x[1].getArgs.map λ g=>g.setArg 1<|(s.setArg 3 g[1]).setArg 1<|zqq #[a.setArg 0<|a[0].setArg 0<|Lean.mkIdent `K]else if x.isOfKind ``Lean.Parser.Tactic.show then zqk `refine x.getArgs else x else Lean.Macro.throwUnsupported
def Si{f:δ}{fd:υ}(F:Bg K "law" "law" (top 102) f fd):ee P w K mg base hV 21 f fd ["_law_script"] (ZS.yw K pX):=by
 let X0:=z.X;let G0:=z.G;let C0:=z.hC;let V0:ZS.Vs P w mg base:=⟨⟩
 show ce z.BB 0 ["thing"] ["thing"] KC.dm rfl (λ Qi=>?_) ?_;show ce z.nX 1 ["thing","least","most"] ["thing","least","most"] KC.aO rfl (λ BZ=>?_) ?_;show ce z.yY 0 ["text"] ["text"] KA.cy rfl (λ Nt=>?_) ?_;show ce z.Fq 1 ["thing"] ["thing"] KS.dZ rfl (λ Sl=>?_) ?_;show ce z.Ft 1 ["thing"] ["thing"] KS.j4 rfl (λ Sm=>?_) ?_;show ce z.yZ 2 ["thing","least"] ["thing","least"] KS.f7 rfl (λ Nu=>?_) ?_;show ce z.Fo 3 ["thing"] ["thing"] KS.iJ rfl (λ Sj=>?_) ?_;show ce z.wM 4 ["thing"] ["thing"] KS.gR rfl (λ LN=>?_) ?_;show ce z.pC 2 ["parts"] ["parts"] KS.dP rfl (λ DV=>?_) ?_;show ce z.BC 5 ["thing"] ["thing"] KS.cR rfl (λ Qj=>?_) ?_;show ce z.Bs 0 ["group","row"] ["group","row"] KB.jd rfl (λ Qc=>?_) ?_;show ce z.Fp 1 ["text"] ["text"] KA.iK rfl (λ Sk=>?_) ?_;show ce z.HI 2 ["thing"] ["thing"] KA.iy rfl (λ Vh=>?_) ?_;show ce z.Fu 3 ["thing"] ["thing"] KA.gB rfl (λ So=>?_) ?_;show ce z.Fj 0 ["hall","seat"] ["hall","seat","row","column"] KG.j2 rfl (λ Sf=>?_) ?_;show ce z.Mq 0 ["sign","kind"] ["sign","kind"] KG.oY rfl (λ WS=>?_) ?_;show ce z.Bu 0 ["group","place"] ["group","place","seats","row"] KG.je rfl (λ Qd=>?_) ?_;show ce z.Rm 1 ["hall","group","place"] ["hall","group","place","signs"] KG.oZ rfl (λ Z1=>?_) ?_;show ce z.yQ 2 ["hall","group"] ["hall","group","places","row"] KG.eE rfl (λ Nl=>?_) ?_;show ce z.Ms 0 ["one","here","other","there"] ["one","here","other","there","gap"] KG.o3 rfl (λ WU=>?_) ?_;show ce z.pB 0 ["groups","seating"] ["groups","seating"] KG.bX rfl (λ DU=>?_) ?_;show ce z.pD 1 ["group","place","seated"] ["group","place","seated"] KG.cS rfl (λ DX=>?_) ?_;show ce z.Mr 2 ["hall","groups","seating"] ["hall","groups","seating","seated"] KG.lr rfl (λ WT=>?_) ?_;show ce z.Br 1 ["groups","seating"] ["groups","seating"] KB.dh rfl (λ zE=>?_) ?_;show ce z.rY 3 ["hall","groups","fast"] ["hall","groups","fast","seating"] KB.a6 rfl (λ Hg=>?_) ?_;show jp (p:=AAA P w K mg base "ways" 5 ["hall","groups","fast"] (KB.rH)) (λ Z0=>?_)<|t! (N:=["hall","groups","fast","many","group","place"]) (z.Rl.df z.X z.G) λ nd hu hr=>?_;show ce z.ur 5 ["hall","groups","fast"] ["hall","groups","fast","many"] KB.dX rfl (λ IY=>?_) ?_;show ce z.wG 0 ["seating","k","place"] ["seating","k","place"] KH.bS rfl (λ mC=>?_) ?_;show ce z.wH 2 ["places","group","seated"] ["places","group","seated"] KH.dH rfl (λ LJ=>?_) ?_;show ce z.qM 3 ["hall","groups","seatings","k","some"] ["hall","groups","seatings","k","some","places","wider","seating","seated"] KB.eD rfl (λ FX=>?_) ?_;show ce z.qN 4 ["hall","groups","start","some"] ["hall","groups","start","some","seatings","k"] KB.c8 rfl (λ FY=>?_) ?_;show jp (p:=AAA P w K mg base "first_of_all" 7 ["hall","groups","fast"] (KC.fm)) (λ Hf=>?_)<|t! (N:=["hall","groups","fast","seatings"]) (z.rX.df z.X z.G) λ nd hu hr=>?_;show jp (p:=ZS.C5 P w K mg base "best_among" 5 ["groups","seatings"] (KB.e!)) (λ LM=>?_)<|Q0 (N:=["groups","seatings"]) (b:=KB.gg) (z.nY.1.df z.X z.G) mq (z.nY.lam z.X z.G) λ _ _ _ _ _ _ _ hl hr=>have nd:=mq.nd;have hu:=hr.units;have hrL:=λ env=>ZS.zu (k:=2) (hr.mono ∅) env;(gU<|iN<|yf (ZS.Eg hl (by decide +kernel)) (ZS.Ik hr) rfl (z.m z.Xh) CP fH (N':=["seating","groups"]) (is:=[0]) (lc (by kernel_rfl)) rfl (λ _ _ _ _ _=>(bL zE (aM bA<|aM bA cB) (hr:=((hrL _).mono ∅)))) λ _ _ _ _ _ _=>rfl);show jp (p:=AAA P w K mg base "best_of_all" 7 ["hall","groups","fast"] (KB.bC)) (λ I0=>?_)<|t! (N:=["hall","groups","fast","start"]) (z.uw.df z.X z.G) λ nd hu hr=>?_;show ce z.wN 3 ["hall","groups"] ["hall","groups"] KC.e? rfl (λ LO=>?_) ?_;show ce z.Bt 3 ["groups","places","seating","k"] ["groups","places","seating","k"] KC.ck rfl (λ kW=>?_) ?_;show ce z.wL 2 ["seating","thing"] ["seating","thing"] KC.gQ rfl (λ uF=>?_) ?_;show ce z.uz 0 ["thing","word","length"] ["thing","word","length"] KC.cG rfl (λ sN=>?_) ?_;show ce z.Fv 1 ["thing"] ["thing"] KC.iL rfl (λ sM=>?_) ?_;show jp (p:=∀j,ZS.C5 P w K mg base "lets_by_beside" (5+j) ["groups","places","seating","paper"] (KC.bY j)) (λ oG=>?_) (λ j=>by induction j with| zero=>show ZS.Le<|EY (k:=4) (N:=["groups","places","seating","paper","k","spots","papers","place","inner"]) (b:=Z.l?) (z.jq.df z.X z.G) λ _ _ _=>ya| succ j C6=>show EY (k:=5+j) (N:=["groups","places","seating","paper","k","spots","papers","place","inner"]) (b:=KC.aU (KC.bY j)) (z.jq.df z.X z.G) λ nd hu hr=>(cH (v3 (dtw<|Cy (tT<|GK<|bL sN<|aM bA<|gE rJ<|gE cU cB)<|x_<|tT<|GK<|bL sM<|aM bA cB) (gU<|iN qE) lR)<|cH (v3 (tT<|GK<|bL uF<|aM bA<|EU (mI fH<|dJ cU) cB) (gU<|iN qE) lR)<|cH (iq<|mI fH<|dJ cU)<|cH (iq<|bL kW<|aM bA<|aM bA<|aM bA<|aM bA cB)<|cH (iq<|AU (GK<|bL sM<|aM bA cB) (mI fH<|dJ cU)<|p8 cB)<|cH (v3 (iM (pi hu) (dJ<|j' (z.m z.Xi) fH)<|dJ<|j' (z.m z.Xi) fH) (gU<|iN qE) lR)<|cH (EK (EM (z.m z.Xd) bA bA) (CB rfl (jI<|jI yc) rfl)<|gU<|v3 (tT<|GK<|bL C6 (aM bA<|aM bA<|jK (bL mC<|aM bA<|aM bA<|aM bA cB)<|aM bA cB) (hr:=(hr.mono<|P3 _))) (gU<|iN qE) lR)<|gU<|iN qE));show jp (p:=AAA P w K mg base "lets_by" 15 ["hall","groups","paper","fast"] (KC.cu)) (λ Sg=>?_)<|t! (N:=["hall","groups","paper","fast","seating"]) (z.Fm.df z.X z.G) λ nd hu hr=>?_;show jp (p:=∀j,ZS.C5 P w K mg base "paper_beside" (7+j) ["groups","places","seating"] (KC.br j)) (λ qT=>?_) (λ j=>by induction j with| zero=>show ZS.Le<|EY (k:=6) (N:=["groups","places","seating","waiting","k","spots","papers"]) (b:=Z.l?) (z.iA.1.df z.X z.G) λ _ _ _=>ya| succ j C6=>show Q0 (k:=7+j) (N:=["groups","places","seating","waiting","k","spots","papers"]) (b:=KC.d9 (KC.br j)) (z.iA.1.df z.X z.G) kA (z.iA.lam z.X z.G) λ _ _ _ _ _ _ _ hl hr=>have nd:=kA.nd;have hu:=hr.units;have hrL:=λ env=>ZS.zu (k:=4) (hr.mono ∅) env;(cH (yb (i:=3) rfl nd rfl (lo rfl) (ρ1<|AN (z.m z.NL)<|j' (z.m z.Xi) fH) (N':=["k","seating"]) (n:=1) (is:=[2]) (lc (by kernel_rfl)) (ZS.j0 ∅) (λ _ _ _ _ _ _=>pd) (λ _ _ _ _ _=>(C_<|Kz<|dJ<|mI fH fH)) λ _ _ _ _ _=>bA)<|cH (iq<|ye (ZS.Eg hl (by decide +kernel)) (ZS.Ik hr) rfl (z.m z.Xg) CO fH (N':=["j","groups","places","seating"]) (is:=[0,1,2]) (lc (by kernel_rfl)) rfl (λ _ _ _ _ _=>(j' (z.m z.Xi)<|dJ<|bL kW (aM bA<|aM bA<|aM bA<|aM bA cB) (hr:=((hrL _).mono (by omega))))) λ _ _ _ _ _ _=>rfl)<|cH (iq<|bL kW<|aM bA<|aM bA<|aM bA<|aM bA cB)<|cH (v3 (iM (lw hu) fH<|dJ<|p8 cB) (gU<|iN<|p8<|gE rJ<|aM bA cB) lR)<|cH (yb (i:=6) rfl nd rfl (lo rfl) (KZ fH) (N':=["place","groups","places","seating","k"]) (n:=1) (is:=[0,1,2,4]) (lc (by kernel_rfl)) (ZS.j0 ∅) (λ _ _ _ _ _ _=>pd) (λ _ _ _ _ _=>BF) λ _ _ _ _ _=>(bL C6 (aM bA<|aM bA<|jK (bL mC<|aM bA<|aM bA<|aM bA cB) cB) (hr:=(hr.mono<|P3 _))))<|gU<|iN<|p8<|gE rJ<|aM bA<|jK (wa (z.m z.NK) fH) cB));show jp (p:=AAA P w K mg base "paper_of" 17 ["hall","groups","fast"] (KC.dY)) (λ Qe=>?_)<|t! (N:=["hall","groups","fast"]) (z.Bv.df z.X z.G) λ nd hu hr=>?_;show ce z.Fh 0 ["things","k"] ["things","k"] dC rfl (λ Sb=>?_) ?_;show jp (p:=ZS.Ha P w K mg base 5 ["self","hall"] 2 il) (λ xt=>?_)<|UN (N:=["self","hall"]) rfl (z.y?.di z.hC z.NQ z.N6 λ _ _ _ _ _ _=>ZS.Zd λ _ _=>rfl) λ nd hu hr=>?_;show ZS._R z.pE 2 ["self","name"] ["self","name","k","guest"] [Ch,AT] ba rfl (λ DY=>?_) ?_;show ZS.UI z.r9 17 ["self","group"] ["self","group","guests","held","places"] [Ch,AT] g_ rfl (λ Qk=>?_) ?_;show ZS.czX z.r9 17 ["self","group"] ["self","group","guests","held","places"] [Ch,AT] fD rfl (λ Nk=>?_) ?_;show ZS.UI z.y_ 3 ["self","name"] ["self","name","k"] [Ch,AT] f9 rfl (λ xu=>?_) ?_;show ZS.UI z.zb 7 ["self","name"] ["self","name","k"] [Ch,AT] f' rfl (λ xv=>?_) ?_;show ZS._R z.wQ 3 ["self","name"] ["self","name"] [Ch,AT] e_ rfl (λ uG=>?_) ?_;show ZS._R z.r8 0 ["self"] ["self"] [Ch] aP rfl (λ fi=>?_) ?_;show ZS._R z.rZ 0 ["self"] ["self"] [Ch] bP rfl (λ Hh=>?_) ?_;show ce z.uv 0 ["_law_script","_law_k"] ["_law_script","_law_k"] KG.aZ rfl (λ kY=>?_) ?_;show ce z.yU 0 ["_law_cell","_law_many"] ["_law_cell","_law_many","_law_number","_law_found","_law_k"] cP rfl (λ Nn=>?_) ?_;show ce z.wK 0 ["_law_cell","_law_sizes"] ["_law_cell","_law_sizes","_law_found","_law_size"] KH.cT rfl (λ LL=>?_) ?_;show ce z.yT 0 ["_law_cell","_law_many"] ["_law_cell","_law_many","_law_letters_here","_law_size","_law_at","_law_step","_law_names_here","_law_k","_law_name","_law_j","_law_turn"] ij rfl (λ xq=>?_) ?_;show ce z.uu 0 ["_law_cell"] ["_law_cell","_law_letters_here"] cF rfl (λ IZ=>?_) ?_;show ce z.By 1 ["_law_script"] ["_law_script","_law_way","_law_many","_law_columns","_law_rest","_law_signs","_law_numbers","_law_rows","_law_r"] jf rfl (λ zG=>?_) ?_;show ce z.Fn 1 ["_law_name","_law_cell"] ["_law_name","_law_cell","_law_width","_law_depth","_law_kind","_law_gap","_law_bits","_law_wide","_law_sums","_law_wishes"] j3 rfl (λ Sh=>?_) ?_;show ce z.yV 1 ["_law_name","_law_cell","_law_letters_here"] ["_law_name","_law_cell","_law_letters_here","_law_xs","_law_width","_law_depth","_law_kind","_law_wide","_law_gap","_law_worth","_law_wishes","_law_r"] ik rfl (λ Np=>?_) ?_;show ce z.wJ 2 ["_law_script","_law_start","_law_names_here"] ["_law_script","_law_start","_law_names_here","_law_letters_here","_law_found","_law_k","_law_cell"] gP rfl (λ uE=>?_) ?_;show ce z.wI 0 ["_law_hall_here","_law_group_here"] ["_law_hall_here","_law_group_here","_law_found","_law_r","_law_c","_law_signs","_law_bad"] bT rfl (λ LK=>?_) ?_;show jp (p:=ZS.yu P w K mg base "_law_ways" 2 ["_law_hall_here","_law_groups_here","_law_held"] [AT,AT,Ch] (fE)) (λ zF=>?_)<|CG rfl (N:=["_law_hall_here","_law_groups_here","_law_held","_law_found","_law_group_here"]) (z.Bw.df z.X z.G) λ nd hu hr=>?_;show ce z.yX 0 ["_law_one","_law_here","_law_other","_law_there"] ["_law_one","_law_here","_law_other","_law_there","_law_gap"] KH.dD rfl (λ Nr=>?_) ?_;show ce z.rW 0 ["_law_group_here","_law_row"] ["_law_group_here","_law_row","_law_worth","_law_wished","_law_more"] KB.dG rfl (λ He=>?_) ?_;show jp (p:=ZS.yu P w K mg base "_law_best" 2 ["_law_hall_here","_law_groups_here","_law_held"] [AT,AT,Ch] (fG)) (λ Qh=>?_)<|CG rfl (N:=["_law_hall_here","_law_groups_here","_law_held","_law_found","_law_group_here","_law_places_here","_law_longer","_law_sits","_law_worth","_law_place","_law_near","_law_best_here"]) (z.BA.df z.X z.G) λ nd hu hr=>?_;show ce z.Bx 1 ["_law_hall_here","_law_groups_here","_law_sits","_law_k"] ["_law_hall_here","_law_groups_here","_law_sits","_law_k","_law_found","_law_place","_law_near"] g? rfl (λ Qf=>?_) ?_;show ce z.yR 2 ["_law_hall_here","_law_groups_here","_law_sits","_law_paper"] ["_law_hall_here","_law_groups_here","_law_sits","_law_paper","_law_todo","_law_one","_law_here","_law_places_here","_law_place","_law_other"] fZ rfl (λ Nm=>?_) ?_;show jp (p:=ZS.qL P w K mg base "_law_asked" 19 ["_law_desk","_law_group_here"] [Ch,AT] 4 cQ) (λ Nq=>?_)<|EZ rfl (N:=["_law_desk","_law_group_here","_law_found","e"]) (z.yW.df z.X z.G) λ nd hu hr=>?_;show jp (p:=ZS.yu P w K mg base "_law_fast" 1 ["_law_groups_here","_law_held"] [AT,Ch] (fF)) (λ Qg=>?_)<|CG rfl (N:=["_law_groups_here","_law_held"]) (z.Bz.df z.X z.G) λ nd hu hr=>?_;show jp (p:=ZS.qL P w K mg base "_law_right" 20 ["_law_desk","_law_hall_here","_law_held","_law_group_here","_law_papers"] [Ch,AT,Ch,AT,Ch] 12 cx) (λ xp=>?_)<|EZ rfl (N:=["_law_desk","_law_hall_here","_law_held","_law_group_here","_law_papers","_law_groups_here","_law_sits","_law_wider","_law_fast_here","_law_best_here","_law_found","_law_paper"]) (z.yS.df z.X z.G) λ nd hu hr=>?_;show acE (N:=["_law_script","_law_hall_here","_law_some","_law_desk","_law_held","_law_papers","_law_k","_law_group_here","_law_first"]) F λ nd hu hr=>(cH (iq<|bL zG<|aM bA cB)<|cH (iq<|bL uE<|aM bA<|gE cU<|jK (bL xq<|jK (bL kY<|aM bA<|gE cU cB)<|yh (yg (dJ cU)<|dJ<|ES rfl (z.m z.Xh) CP (dJ cU)<|dJ<|EO rfl (z.m z.Xg) CO (dJ cU)<|dJ<|K1 (dJ<|j' (z.m z.Xi) fH)<|dJ cU) cB) cB)<|GL (i:=3) xt (hr.mono ∅) rfl nd rfl (lo rfl) bA λ _ _=>(Jv (i:=4) nd rfl (lo rfl) λ _=>(Ju (i:=5) nd rfl (lo rfl) λ _=>(iG (Jx B67 rfl (AO (z.m z.zR) bA) (λ _=>(CB rfl (jI<|jI yc) rfl))<|iG (vK (Jr<|iM (lw hu) (dJ<|j' (z.m z.Xi)<|dJ<|lA fi (hr.mono ∅) (mh<|pv 3) (by decide +kernel))<|dJ cU) (iG (lN λ _=>(iq<|mI (dJ<|mI (dJ<|lA fi (hr.mono ∅) (mh<|pv 3) (by decide +kernel))<|dJ cU)<|dJ cU))<|iG (rq<|xD xv (hr.mono ∅) (mh<|pv 3) (by decide +kernel) ∅ ∅<|hU bA lU)<|jb<|vK (Jr<|KD hu bA<|mh<|pv 4) (jb<|rq<|JB (pv 4) bA) lM) lM)<|jb<|vK (Jr<|iM tz (dJ<|AV zF (hr.mono ∅) rfl<|hU bA<|hU (yg (dJ<|lA fi (hr.mono ∅) (mh<|pv 3) (by decide +kernel))<|dJ<|p8<|aM bA cB)<|jJ (mh<|pv 4) lU)<|dJ cU) (iG (vK (Js<|Xl<|D? xp (hr.mono ∅) rfl ∅ ∅<|jJ (mh<|pv 3)<|hU bA<|jJ (mh<|pv 4)<|hU bA<|jJ (mh<|pv 5) lU) (jb<|lN λ _=>(iN qE)) lM)<|jb<|vK (Jr<|dtw<|Cy (iM (lw hu) (dJ<|K3 (dJ<|bL kY<|aM bA<|yh (yg (dJ cU) fH) cB)<|dJ cU)<|dJ cU)<|x_<|iM (ul hu) fH<|dJ<|lA fi (hr.mono ∅) (mh<|pv 3) (by decide +kernel)) (iG (Jw hu (pv 4) (mI fH<|dJ cU)<|ER uG (hr.mono ∅) (mh<|pv 3) (by decide +kernel)<|hU (mI fH<|dJ cU) lU)<|jb<|rq<|xD xu (hr.mono ∅) (mh<|pv 3) (by decide +kernel) ∅ ∅<|hU (mI fH<|dJ cU) lU) lM) lM)<|jb<|lN λ _=>(iN qE)))))
 all_goals case W=>repeat' first
 |(show ZS.Ho.mk ?_;intros;rename_i nd hu hr)
 |(show(?_:QW _ _ _);first|show fH|show YS<|pv _|show acW ?_|show dJ ?_)
 |(show(?_:QE _ _ _);first|(show(?_:QE _ (.Name _ _) _);first|show bA|show GR (by first|show (z.k z.Mo)|show (z.k z.VY)|show (z.k z.Rj)|show (z.k z.Bq)|show (z.k z.rV)|show (z.k z.wF)|show (z.k z.Bp)|show (z.k z.uq) |show (z.k z.rT)|show (z.k z.yP)|show (z.k z.yO)|show (z.k z.wD)|show (z.k z.Ri)|show (z.k z.Mn)|show (z.k z.Rh)|show (z.k z.Mm)|show (z.k z.HG)|show (z.k z.Ml)))|(show(?_:QE _ (.Constant _ _ _) _);first|show cU|show rJ|show qE|show Ux)|(show(?_:QE _ (.BinOp _ _ _ _) _);first|show yg ?_ ?_|show K3 ?_ ?_|show UE ?_ ?_|show Uz ?_ ?_|show K1 ?_ ?_|show Uu ?_ ?_|show σ6 ?_ ?_)|(show(?_:QE _ (.Subscript _ _ _) _);first|show mI ?_ ?_|show K2 ?_ ?_ ?_|show UA hu ?_ ?_)|(show(?_:QE _ (.Attribute _ _ _) _);first|show UD (by first|show z.vI|show z.D5|show z.D4|show z.vH) ?_ (by decide +kernel)|show ρ2 (pv _) (by decide +kernel) z.uQ)|(show(?_:QE _ (.Compare _ _ _ _) _);first|show K5 (by first|show lw hu|show ut|show wE|show ul hu|show tz|show wf|show pi hu|show wn hu|show ww) ?_ ?_|show K6 (by first|show lw hu|show ut|show wE|show ul hu|show tz|show wf|show pi hu|show wn hu|show ww) (by first|show lw hu|show ut|show wE|show ul hu|show tz|show wf|show pi hu|show wn hu|show ww) ?_ ?_ ?_|show UB ?_|show UC ?_)|(show(?_:QE _ (.BoolOp _ _ _) _);first|show Uv ?_|show UH ?_ ?_|show ρ3 ?_ ?_)|(show(?_:QE _ (.UnaryOp _ _ _) _);first|show Uy ?_|show Uw ?_)|(show(?_:QE _ (.Tuple _ _ _) _);show p8 ?_)|(show(?_:QE _ (.IfExp _ _ _ _) _);show AU ?_ ?_ ?_)|(show(?_:QE _ (.Call _ _ _ _) _);first|show j' (z.m z.Xi) ?_|show bL (by first|(show(?_:ZS.C5 P w K mg base _ _ _ _);first|with_reducible assumption|assumption)|show ZS.rg.full (by assumption)|show oG _|show qT _) ?_|show Pa (z.m z.Xk) ?_|show wa (z.m z.NK) ?_|show ER (by show(?_:ZS.yt P w K mg base _ _ _ _ _);first|with_reducible assumption|assumption) (hr.mono ∅) ?_ (by decide +kernel) ?_|show lT .bool rfl (z.m z.xC) gV rfl (z.m z.SI) Pt ?_|show lT .int rfl (z.m z.xC) gV rfl (z.m z.Xj) Li ?_|show lT .str rfl (z.m z.xC) gV rfl (z.m z.Xf) UU ?_|show lT .tuple rfl (z.m z.xC) gV rfl (z.m z.NK) Lh ?_|show σ7 ?_ ?_|show lA (by show(?_:ZS.yt P w K mg base _ _ _ _ _);first|with_reducible assumption|assumption) (hr.mono ∅) ?_ (by decide +kernel)|show O8 rfl (z.m z.Xj) Li ?_|show AV (by show(?_:ZS.yu P w K mg base _ _ _ _ _);first|with_reducible assumption|assumption) (hr.mono ∅) rfl ?_|show σ5 (z.m z.Xe) ?_|show ES rfl (z.m z.Xh) CP ?_ ?_|show EO rfl (z.m z.Xg) CO ?_ ?_|show K4 hu ?_ ?_|show O? ?_ ?_|show O! (mh<|pv _) ?_)|show ac1 ?_)
 |(show(?_:QT _ _ _);first|(show(?_:QT _ (.Compare _ _ _ _) _);first|show iM (by first|show lw hu|show ut|show wE|show ul hu|show tz|show wf|show pi hu|show wn hu|show ww) ?_ ?_|show Kz ?_|show KI (by first|show lw hu|show ut|show wE|show ul hu|show tz|show wf|show pi hu|show wn hu|show ww) (by first|show lw hu|show ut|show wE|show ul hu|show tz|show wf|show pi hu|show wn hu|show ww) ?_ ?_ ?_|show OX ?_|show OY ?_|show KD hu ?_ ?_|show GJ hu ?_ ?_)|(show(?_:QT _ (.UnaryOp _ _ _) _);show tT ?_)|(show(?_:QT _ (.BoolOp _ _ _) _);show dtw ?_)|show GK ?_)
 |(show(?_:Q6 _ _ _);first|show Ug ?_|show YV ?_ ?_|show x_ ?_|show Cy ?_ ?_)
 |(show(?_:QA _ _ _);first|show cB|show aM ?_ ?_|show gE ?_ ?_|show EU ?_ ?_|show yh ?_ ?_|show jK ?_ ?_|show K' ?_ ?_|show GS ?_ ?_|show K9 ?_ ?_)
 |(show(?_:va _ _ _ _);first|show OZ ?_|show lR|show ya|show gU ?_|show cH ?_ ?_)
 |(show(?_:QS _ _ _ _);first|show Uk|show iN ?_|show YW rfl nd rfl (lo rfl) ?_ ?_ ?_ ?_ ?_|show iq ?_|show v3 ?_ ?_ ?_|show EK ?_ ?_ ?_|show σ1 ?_|show Ui ?_ ?_|show Um (pv _) ?_|show O0 (pv _) ?_|show KJ 130 B67 ?_ ?_|show Uj (pv _) ?_|show σ3 nd rfl (lo rfl) ?_)
 |(show(?_:QL _ _ _);first|show EL ?_|show Y0 ?_ ?_ ?_ ?_ ?_|show KQ ?_ ?_ ?_|show Up ?_ ?_|show Uq ?_ ?_)
 |(show(?_:QI _ _ _ _);first|show KZ ?_|show ρ1 ?_)
 |(show(?_:Ls _ _ _ _);first|show lU|show hU ?_ ?_|show jJ (mh<|pv _) ?_)
 |show ZS.j0 ∅
 |show ZS.Gz ∅
 |intro _
 |show mh<|pv _
 |show pd
 |show yc
 |show VQ
 |show Q_
 |show lM
 |show YX
 |show BF
 |show Xp
 |show SQ
 |show jb ?_
 |show iG ?_ ?_
 |show jI ?_
 |show lN λ _=>?_
 |show L? ?_
 |show Hz ?_ ?_ ?_
 |show AN (z.m z.NL) ?_
 |show CB rfl ?_ rfl
 |show YY ?_
 |show SO (by first|show z.vI|show z.D5|show z.D4|show z.vH) (pv 0) ?_ (by decide +kernel)
 |show Md (by show(?_:ZS.ug P w K mg base _ _ _ _ _);first|with_reducible assumption|assumption) (hr.mono ∅) ?_ (by decide +kernel) ?_
 |show C_ ?_
 |show Ur ?_
 |show vK ?_ ?_ ?_
 |show xD (by show(?_:ZS.uh P w K mg base _ _ _ _ _ _);first|with_reducible assumption|assumption) (hr.mono ∅) ?_ (by decide +kernel) ∅ ∅ ?_
 |show D? (by show(?_:ZS.qL P w K mg base _ _ _ _ _ _);first|with_reducible assumption|assumption) (hr.mono ∅) rfl ∅ ∅ ?_
 |show Us rfl ?_ rfl
 |show EM (z.m z.Xd) ?_ ?_
 |show VR ?_ ?_ ?_
 |show rq ?_
 |show KY (z.m z.NL) ?_ ?_
 |show AO (z.m z.zR) ?_
 |show SN nd rfl (lo rfl) ∅ ?_
 |show L_ ?_
 |show SK rfl rfl rfl ?_ (λ _ _=>?_) ?_
 |show Fe rfl rfl rfl (by decide +kernel) z.wB (IX z) (hr.mono ∅) ?_ ∅ ∅
 |show Xq (i:=3) nd rfl (by kernel_rfl) ∅ rfl z.SV z.wB (ZS.FA z.wB.1 z.wZ ZS.HX) (λ _=>?_) ?_
 |show Js ?_
 |show Ma ?_
 |show JB (pv _) ?_
 |show Jw hu (pv _) ?_ ?_
 |show SR (pv _) ?_
 |show Jx B67 rfl ?_ (λ _=>?_) ?_
 |show Jr ?_
 |show Xl ?_
end
def all_mk{l:AC4}{w:ξ}{K:Da}{cY gM:δ}{h:ν}{mg:Str->ε ζ}{fa:δ}(Gw:mg "law"=AC (.ref fa))(z:Fs K mg h cY gM):
 ∃fd:υ,(∀(s:θ)(v:ζ),BindsTo s fd ⟨[v],[]⟩ [("_law_script",v)])/\∀base:ν,K.In base->base.Ns mainGlobals mg->ee l.prog w K mg base hV 21 fa fd ["_law_script"] (ZS.yw K pX):=by
 let(fd,hb,F):=z.VZ.law z.X z.G Gw (x:="_law_script") λ _ _ _ _ _ _ _ _=>.of_eq rfl;show(fd,hb,λ base _ _=>Si z F,)
def walk{l:AC4}{q:ο}{loose:U Str}{XP:(Str->ε ζ)->ν->Prop}{YP:ξ->ν->Prop}{d:DefRec}{K:Params->FM}(hn:l.most=AC 63)(hdf:d.params.defaults=[])
 (hY:∀(w:ξ)(h:ν),YP w h->(K w.params).In h)
 (F:∀ (w:ξ)(mg:Str->ε ζ)(fa:δ)(h:ν),(K w.params).In h->h.Ns mainGlobals mg->mg d.name=AC (.ref fa) ->
  ∃fd:υ,(∀(s:θ)(u:ζ),BindsTo s fd ⟨[u],[]⟩ [("_law_script",u)])/\∀base:ν,(K w.params).In base->base.Ns mainGlobals mg->ee l.prog w (K w.params) mg base hV 21 fa fd ["_law_script"] (ZS.yw (K w.params) pX)) (hL:∀w:ξ,ZS.Lv q (K w.params)) :
 PySem.W.WalkO q loose XP YP l.row.toRowW d [] (λ f vs=>PySem.call f vs):=
 ZS.Rg (n:=63) (k:=21) (x:="_law_script") (m:=pX) hn ∅ hdf ⟨rfl,by decide,by decide⟩ hY F hL holds
end fA
namespace fA
open PySem PySem.Spec PyProof.Rows L2
abbrev km0:String:="besideseats.errors"
abbrev km1:String:="besideseats.plain"
abbrev Qv:String:="besideseats.groups"
abbrev _h:String:="besideseats.halls"
abbrev _g:String:="besideseats.places"
abbrev Xy:String:="besideseats.seatings"
abbrev Qu:String:="besideseats.rooms"
abbrev km7:String:="besideseats.best"
abbrev N8:String:="besideseats.papers"
abbrev N7:String:="besideseats.desk"
abbrev jC:String:="law_besideseats_k97_whole_full_with_its_pape"
def kd(P:Params)(n:String)(t:Nat)(v:ζ):DictEntry:={hash:=PyData.keyHash P<|Str.ofString n,key:=.str (Do n) t,val:=v}
def kc(n:String)(t l:Nat)(a b c d e f g h i j:ζ)(u:Nat):μ:={cls:=.type "code",data:=.fields #[.str (Do n) t,.str (Do n) (t+1),.str (Do "/claim/cut.py") (t+2),.int l 0,a,.int 0 0,.int 0 0,b,c,.bool Ch,d,e,f,g,h,i,j,.int l 0,.str (Do "/claim/cut.py") u]}
def kcq(n q:String)(t l:Nat)(a b c d e f g h i j:ζ)(u:Nat):μ:={cls:=.type "code",data:=.fields #[.str (Do n) t,.str (Do q) (t+1),.str (Do "/claim/cut.py") (t+2),.int l 0,a,.int 0 0,.int 0 0,b,c,.bool Ch,d,e,f,g,h,i,j,.int l 0,.str (Do "/claim/cut.py") u]}
def kfm(n q:String)(s:η)(m:String)(t c:Nat)(v:ζ:=.none):μ:={cls:=.type "function",data:=.func {name:=Do n,qualname:=Do q,params:=bp s,body:=.stmts<|aC s,scope:=aa s,globals:=3,closure:=[],defaults:=v,kwdefaults:=.none,pyModule:=.str (Do m) t,code:=.ref c}}
def kf(n:String)(i:Nat)(m:String)(t c:Nat)(v:ζ:=.none):μ:={cls:=.type "function",data:=.func {name:=Do n,qualname:=Do n,params:=bp<|top i,body:=.stmts<|aC<|top i,scope:=aa<|top i,globals:=3,closure:=[],defaults:=v,kwdefaults:=.none,pyModule:=.str (Do m) t,code:=.ref c}}
def k7(n q:String)(t l i a j:Nat):μ:=kcq n q t l (.int i 0) (.int 3 0) (.ref<|a-5) (.int 181 0) (.ref<|a-4) .none (.ref<|a-3) (.ref<|a-2) (.ref<|a-1) (.int j 0)<|j+1
def k5(n q:String)(t l i a j:Nat):μ:=kcq n q t l (.int i 0) (.int 3 0) (.ref<|a-3) (.int 181 0) (.ref<|a-2) .none .none .none (.ref<|a-1) (.int j 0)<|j+1
def kr(P:Params)(n:String)(t r:Nat):DictEntry:=kd P n t<|.ref r
def ki(P:Params)(n:String)(t i:Nat):DictEntry:=kd P n t<|.int i<|t-1
def kN:μ:={cls:=.type "tuple",data:=.seq #[.none]}
def kE(P:Params)(m:String)(u t l s:Nat):μ:={cls:=.type "dict",data:=.dict #[kd P "__module__" t (.str (Do m) u),kd P "__firstlineno__" (t+4) (.int l<|t+3),kr P "__static_attributes__" (t+5) s,kd P "__doc__" (t+6) .none] 2}
def kX(n:String)(d b s t:Nat):μ:={cls:=.type "type",data:=.cls {name:=Do n,bases:=[.ref b],mro:=[.ref (d+1),.ref b,.type "ValueError",.type "Exception",.type "BaseException",.type "object"],ns:=d,qualname:=Do n},slots:=#[AC (.ref s),At,AC (.str (Do n) t),AC (.str (Do n)<|t+8),AC (.builtin "ValueError.__new__"),AC (.bool Ch)]}
local macro_rules(kind:=«term_::_»)|s=>do
 let x:=s[0][1].getSepArgs;let n:=x.size;if n<10 then Lean.Macro.throwUnsupported
 let A f z:Lean.TSyntax `term:=⟨.node .none ``Lean.Parser.Term.app #[f,zqq z]⟩;let a:Lean.TSyntax `num:=⟨x[1]!⟩
 `((nat_lit $a,$(A x[0]! (#[x[2]!,x[n-8]!]++x.extract (n-7) (n-4)++#[x[1]!,x[n-4]!])))::(nat_lit $(Lean.quote<|a.getNat+1),$(A (Lean.mkIdent<|if n<11 then `kf else `kfm) (x.extract 2 (n-7)++x.extract (n-3) n++#[x[1]!])))::$(⟨s[2]⟩))
def KK(P:Params):Da:=(λ(_:Do "a"=Str.mk #[97])=>(nat_lit 3,{cls:=.type "dict",data:=.dict #[kd P "__name__" 165 (.str (Do "law_besideseats_k97_whole_full_with_its_pape") 869),kd P "__doc__" 166 .none,kd P "__package__" 167 .none,kd P "__loader__" 168 (.builtin "__main__.__loader__#opaque"),kd P "__spec__" 169 .none,kr P "__annotations__" 170 6,kr P "__builtins__" 171 4,kd P "__file__" 173 (.str (Do "/claim/cut.py") 172),kd P "__cached__" 174 .none,kr P "_wall" 193 21,kr P "SeatError" 213 31,kr P "NoHall" 229 44,kr P "NoGroup" 245 56,kr P "NoSeating" 261 68,kr P "NoName" 277 80,kr P "Twice" 293 92,kr P "Full" 318 111,kr P "TooGreat" 345 130,kr P "is_whole" 354 139,kr P "is_whole_within" 363 146,kr P "is_letter" 370 153,ki P "NAME" 374 0,ki P "WIDTH" 376 1,ki P "DEPTH" 378 2,ki P "KIND" 380 3,ki P "WIDE" 382 4,ki P "GAP" 384 5,ki P "WORTH" 386 6,ki P "WISHES" 388 7,ki P "PARTS" 390 8,ki P "MOST_LETTERS" 392 8,ki P "MOST_WIDTH" 394 12,ki P "MOST_DEPTH" 396 3,ki P "MOST_GAP" 398 6,ki P "LAST_ROW" 400 5,kr P "is_name" 406 158,kr P "is_kind" 413 165,kr P "is_amount" 421 172,kr P "is_wish" 428 179,kr P "are_wishes" 434 184,kr P "asks_for_seats" 441 191,kr P "is_group" 448 198,kr P "worth_in" 454 203,ki P "MOST_ROWS" 458 6,ki P "MOST_COLUMNS" 460 12,kr P "is_sign" 467 210,kr P "is_row" 473 215,kr P "is_hall" 479 220,kr P "sign_at" 489 227,kr P "takes" 499 234,kr P "seats_of" 505 239,kr P "fits" 511 244,kr P "places_of" 517 249,kr P "apart" 530 256,kr P "those_that_sit" 536 261,kr P "apart_from_all" 542 266,kr P "keeps" 548 271,kr P "worth_of" 554 276,ki P "MOST_WAYS" 558 2000,kr P "fast_seating" 568 283,kr P "ways" 580 291,kr P "small_start" 590 298,kr P "with_place" 599 305,kr P "open_among" 605 310,kr P "with_one_more" 611 315,kr P "seatings_from" 623 322,kr P "first_of_all" 633 330,kr P "best_among" 644 337,kr P "best_of_all" 654 345,kr P "all_places" 662 350,kr P "spots_of" 672 357,kr P "is_waiting" 680 364,kr P "begins_with" 689 371,kr P "is_each" 696 378,kr P "lets_by_beside" 711 385,kr P "lets_by" 722 393,kr P "paper_beside" 728 398,kr P "paper_of" 737 406,ki P "MOST_GUESTS" 741 6,kr P "without" 749 413,kr P "Desk" 868 505,kr P "_law_cell_at" 878 516,kr P "_law_mixed" 889 523,kr P "_law_digits" 899 530,kr P "_law_names" 916 537,kr P "_law_letters" 924 544,kr P "_law_hall" 930 549,kr P "_law_any" 936 554,kr P "_law_group" 954 561,kr P "_law_groups" 967 568,kr P "_law_places" 973 573,kr P "_law_ways" 984 580,kr P "_law_apart" 995 587,kr P "_law_worth_in" 1006 594,kr P "_law_best" 1012 599,kr P "_law_open" 1018 604,kr P "_law_shows" 1034 611,kr P "_law_asked" 1044 618,kr P "_law_fast" 1050 623,kr P "_law_right" 1068 630,kr P "law" 1083 637] 101}) ::
 (nat_lit 30,{cls:=.type "dict",data:=.dict #[kd P "__module__" 203 (.str (Do "besideseats.errors") 194),ki P "__firstlineno__" 207 5,kr P "__static_attributes__" 208 29,kr P "__weakref__" 210 32,kd P "__doc__" 211 .none] 3}) ::
 (nat_lit 31,{cls:=.type "type",data:=.cls {name:=Do "SeatError",bases:=[.type "ValueError"],mro:=[.ref 31,.type "ValueError",.type "Exception",.type "BaseException",.type "object"],ns:=30,qualname:=Do "SeatError",subclasses:=[.ref 44,.ref 56,.ref 68,.ref 80,.ref 92,.ref 111,.ref 130]},slots:=#[AC (.ref 22),At,AC (.str (Do "SeatError") 196),AC (.str (Do "SeatError") 204),AC (.builtin "ValueError.__new__"),AC (.bool Ch)]}) ::
 (nat_lit 43,kE P "besideseats.errors" 194 221 7 42) ::
 (nat_lit 44,kX "NoHall" 43 31 35 214) ::
 (nat_lit 55,kE P "besideseats.errors" 194 237 9 54) ::
 (nat_lit 56,kX "NoGroup" 55 31 47 230) ::
 (nat_lit 67,kE P "besideseats.errors" 194 253 11 66) ::
 (nat_lit 68,kX "NoSeating" 67 31 59 246) ::
 (nat_lit 79,kE P "besideseats.errors" 194 269 13 78) ::
 (nat_lit 80,kX "NoName" 79 31 71 262) ::
 (nat_lit 91,kE P "besideseats.errors" 194 285 15 90) ::
 (nat_lit 92,kX "Twice" 91 31 83 278) ::
 #[k7,107,"__init__","Full.__init__",306,19,2,311,(yA 8 0),km0,194] ::
 (nat_lit 110,{cls:=.type "dict",data:=.dict #[kd P "__module__" 301 (.str (Do "besideseats.errors") 194),ki P "__firstlineno__" 305 17,kr P "__init__" 313 108,kr P "__static_attributes__" 315 109,kd P "__doc__" 316 .none] 2}) ::
 (nat_lit 111,kX "Full" 110 31 95 294) ::
 (nat_lit 129,{cls:=.type "dict",data:=.dict #[kd P "__module__" 326 (.str (Do "besideseats.errors") 194),ki P "__firstlineno__" 330 21,kr P "__init__" 339 127,kr P "__static_attributes__" 342 128,kd P "__doc__" 343 .none] 2}) ::
 (nat_lit 130,kX "TooGreat" 129 31 114 319) ::
 #[k7,138,"is_whole",348,27,1,352,11,km1,346] ::
 #[k7,145,"is_whole_within",355,29,3,361,12,km1,346] ::
 #[k7,152,"is_letter",364,31,1,368,13,km1,346] ::
 #[k5,157,"is_name",401,48,1,404,29,Qv,371] ::
 #[k7,164,"is_kind",407,52,1,411,30,Qv,371] ::
 #[k7,171,"is_amount",414,54,2,419,31,Qv,371] ::
 #[k7,178,"is_wish",422,56,1,426,32,Qv,371] ::
 #[k5,183,"are_wishes",429,60,1,432,33,Qv,371] ::
 #[k7,190,"asks_for_seats",435,64,1,439,34,Qv,371] ::
 #[k7,197,"is_group",442,72,1,446,35,Qv,371] ::
 #[k5,202,"worth_in",449,78,2,452,36,Qv,371] ::
 #[k7,209,"is_sign",461,83,1,465,40,_h,455] ::
 #[k5,214,"is_row",468,85,1,471,41,_h,455] ::
 #[k5,219,"is_hall",474,89,1,477,42,_h,455] ::
 #[k7,226,"sign_at",480,95,2,487,43,_h,455] ::
 #[k7,233,"takes",492,102,2,497,45,_g,490] ::
 #[k5,238,"seats_of",500,104,2,503,46,_g,490] ::
 #[k5,243,"fits",506,109,3,509,47,_g,490] ::
 #[k5,248,"places_of",512,114,2,515,48,_g,490] ::
 #[k7,255,"apart",520,120,4,528,50,Xy,518] ::
 #[k5,260,"those_that_sit",531,125,2,534,51,Xy,518] ::
 #[k5,265,"apart_from_all",537,127,3,540,52,Xy,518] ::
 #[k5,270,"keeps",543,129,3,546,53,Xy,518] ::
 #[k5,275,"worth_of",549,134,2,552,54,Xy,518] ::
 #[k7,282,"fast_seating",559,138,3,566,57,Qu,555] ::
 (nat_lit 290,k7 "ways" "ways" 569 143 3 290 578) ::
 (nat_lit 291,kf "ways" 58 Qu 555 290<|.ref 284) ::
 #[k7,297,"small_start",581,149,3,588,59,Qu,555] ::
 #[k7,304,"with_place",591,154,3,597,60,Qu,555] ::
 #[k5,309,"open_among",600,156,3,603,61,Qu,555] ::
 #[k5,314,"with_one_more",606,158,5,609,62,Qu,555] ::
 #[k7,321,"seatings_from",612,167,4,621,63,Qu,555] ::
 (nat_lit 329,k7 "first_of_all" "first_of_all" 624 173 3 329 631) ::
 (nat_lit 330,kf "first_of_all" 64 Qu 555 329<|.ref 323) ::
 #[k7,336,"best_among",636,177,2,642,66,km7,634] ::
 (nat_lit 344,k7 "best_of_all" "best_of_all" 645 179 3 344 652) ::
 (nat_lit 345,kf "best_of_all" 67 km7 634 344<|.ref 338) ::
 #[k5,349,"all_places",657,183,2,660,69,N8,655] ::
 #[k7,356,"spots_of",663,185,4,670,70,N8,655] ::
 #[k7,363,"is_waiting",673,187,2,678,71,N8,655] ::
 #[k7,370,"begins_with",681,189,3,687,72,N8,655] ::
 #[k7,377,"is_each",690,193,1,694,73,N8,655] ::
 #[k7,384,"lets_by_beside",697,195,4,709,74,N8,655] ::
 (nat_lit 392,k7 "lets_by" "lets_by" 712 209 4 392 720) ::
 (nat_lit 393,kf "lets_by" 75 N8 655 392<|.ref 386) ::
 #[k5,397,"paper_beside",723,212,3,726,76,N8,655] ::
 (nat_lit 405,k7 "paper_of" "paper_of" 729 220 3 405 735) ::
 (nat_lit 406,kf "paper_of" 77 N8 655 405<|.ref 399) ::
 #[k7,412,"without",742,226,2,747,80,N7,738] ::
 #[k7,426,"__init__","Desk.__init__",762,230,2,767,(yA 81 0),N7,738] ::
 #[k7,433,"number_of","Desk.number_of",770,238,2,777,(yA 81 1),N7,738] ::
 #[k5,438,"ask","Desk.ask",780,245,2,783,(yA 81 2),N7,738] ::
 #[k7,445,"fast","Desk.fast",786,262,2,792,(yA 81 3),N7,738] ::
 #[k7,452,"away","Desk.away",795,266,2,801,(yA 81 4),N7,738] ::
 #[k7,459,"where","Desk.where",804,272,2,809,(yA 81 5),N7,738] ::
 #[k7,466,"at_hand","Desk.at_hand",812,275,1,816,(yA 81 6),N7,738] ::
 #[k7,473,"seating","Desk.seating",819,278,1,823,(yA 81 7),N7,738] ::
 (nat_lit 504,{cls:=.type "dict",data:=.dict #[kd P "__module__" 757 (.str (Do "besideseats.desk") 738),ki P "__firstlineno__" 761 228,kr P "__init__" 769 427,kr P "number_of" 779 434,kr P "ask" 785 439,kr P "fast" 794 446,kr P "away" 803 453,kr P "where" 811 460,kr P "at_hand" 818 467,kr P "seating" 825 474,kr P "worth" 832 481,kr P "show_all" 839 488,kr P "say" 847 495,kr P "do" 856 502,kr P "__static_attributes__" 861 503,kr P "__dict__" 863 506,kr P "__weakref__" 865 507,kd P "__doc__" 866 .none] 4}) ::
 (nat_lit 505,{cls:=.type "type",data:=.cls {name:=Do "Desk",bases:=[.type "object"],mro:=[.ref 505,.type "object"],ns:=504,qualname:=Do "Desk"},slots:=#[At,At,AC (.str (Do "Desk") 750),AC (.str (Do "Desk") 758),AC (.builtin "object.__new__"),AC (.bool Ch)]}) ::
 #[k7,515,"_law_cell_at",871,293,2,876,83,jC,869] ::
 #[k7,522,"_law_mixed",879,297,2,887,84,jC,869] ::
 #[k7,529,"_law_digits",890,304,2,897,85,jC,869] ::
 #[k7,536,"_law_names",900,310,2,914,86,jC,869] ::
 #[k7,543,"_law_letters",917,323,1,922,87,jC,869] ::
 #[k5,548,"_law_hall",925,326,1,928,88,jC,869] ::
 #[k5,553,"_law_any",931,341,2,934,89,jC,869] ::
 #[k7,560,"_law_group",937,348,3,952,90,jC,869] ::
 #[k7,567,"_law_groups",955,361,3,965,91,jC,869] ::
 #[k5,572,"_law_places",968,371,2,971,92,jC,869] ::
 #[k7,579,"_law_ways",974,380,3,982,93,jC,869] ::
 #[k7,586,"_law_apart",985,386,4,993,94,jC,869] ::
 #[k7,593,"_law_worth_in",996,391,2,1004,95,jC,869] ::
 #[k5,598,"_law_best",1007,397,3,1010,96,jC,869] ::
 #[k5,603,"_law_open",1013,415,4,1016,97,jC,869] ::
 #[k7,610,"_law_shows",1019,423,4,1032,98,jC,869] ::
 #[k7,617,"_law_asked",1035,441,2,1042,99,jC,869] ::
 #[k5,622,"_law_fast",1045,448,2,1048,100,jC,869] ::
 #[k7,629,"_law_right",1051,450,5,1066,101,jC,869] ::
 #[k7,636,"law",1069,466,1,1081,102,jC,869] ::
 (nat_lit 284,kN) ::
 (nat_lit 323,kN) ::
 (nat_lit 338,kN) ::
 (nat_lit 386,kN) ::
 (nat_lit 399,kN)::[]) (by kernel_rfl)
def KA:U δ:=3::[30,43,55,67,79,91,107,110,129,138,145,152,157,164,171,178,183,190,197,202,209,214,219,226,233,238,243,248,255,260,265,270,275,282,290,297,304,309,314,321,329,336,344,349,356,363,370,377,384,392,397,405,412,426,433,438,445,452,459,466,473,504,515,522,529,536,543,548,553,560,567,572,579,586,593,598,603,610,617,622,629,636].flatMap (λ a=>[a,a+1])++[284,323,338,386,399]
end fA
end Lake
namespace PySem.W.Fast
def tw1811904433999138843:=()
def tw5095247791489341940:=()
omit env_41 heap_46 heap_709 o_45 o_46 o_49 o_53 o_55 o_56 o_57 o_58 o_59 o_60 o_63 o_64 o_66 o_67 o_68 o_69 o_70 o_71 o_73 o_74 o_75 o_76 o_79 o_80 o_82 o_83 o_84 o_85 o_86 o_88 o_89 o_90 o_91 o_94 o_95 o_97 o_98 o_99 o_100 o_101 o_103 o_104 o_105 o_106 o_109 o_110 o_112 o_113 o_114 o_115 o_116 o_118 o_119 o_120 o_121 o_124 o_125 o_127 o_128 o_129 o_130 o_131 o_133 o_134 o_135 o_136 o_139 o_140 o_142 o_143 o_144 o_145 o_146 o_148 o_149 o_150 o_151 o_154 o_155 o_158 o_160 o_161 o_162 o_163 o_164 o_165 o_166 o_167 o_168 o_170 o_171 o_172 o_173 o_176 o_177 o_180 o_182 o_183 o_184 o_185 o_186 o_187 o_188 o_189 o_192 o_194 o_195 o_196 o_199 o_201 o_202 o_203 o_206 o_208 o_209 o_210 o_211 o_215 o_216 o_217 o_220 o_222 o_223 o_224 o_227 o_229 o_230 o_231 o_234 o_236 o_237 o_238 o_241 o_242 o_243 o_246 o_248 o_249 o_250 o_253 o_255 o_256 o_257 o_260 o_261 o_262 o_265 o_267 o_268 o_269 o_272 o_273 o_274 o_275 o_279 o_280 o_281 o_284 o_286 o_287 o_288 o_291 o_293 o_294 o_295 o_298 o_299 o_300 o_303 o_304 o_305 o_308 o_309 o_310 o_313 o_315 o_316 o_317 o_320 o_321 o_322 o_325 o_326 o_327 o_330 o_331 o_332 o_335 o_336 o_337 o_340 o_342 o_343 o_344 o_345 o_347 o_350 o_352 o_353 o_354 o_357 o_359 o_360 o_361 o_364 o_366 o_367 o_368 o_371 o_372 o_373 o_376 o_377 o_378 o_381 o_383 o_384 o_385 o_386 o_389 o_391 o_392 o_393 o_396 o_397 o_398 o_399 o_400 o_401 o_404 o_406 o_407 o_408 o_411 o_412 o_413 o_416 o_418 o_419 o_420 o_423 o_425 o_426 o_427 o_428 o_432 o_434 o_435 o_436 o_439 o_441 o_442 o_443 o_446 o_448 o_449 o_450 o_451 o_454 o_456 o_457 o_458 o_461 o_462 o_463 o_464 o_467 o_469 o_470 o_471 o_474 o_476 o_477 o_478 o_479 o_482 o_483 o_486 o_487 o_490 o_492 o_493 o_494 o_497 o_499 o_500 o_501 o_504 o_505 o_506 o_509 o_511 o_512 o_513 o_516 o_518 o_519 o_520 o_523 o_525 o_526 o_527 o_530 o_532 o_533 o_534 o_537 o_539 o_540 o_541 o_544 o_546 o_547 o_548 o_551 o_553 o_554 o_555 o_558 o_560 o_561 o_562 o_565 o_567 o_568 o_569 o_570 o_571 o_572 o_573 o_574 o_575 o_576 o_577 o_581 o_583 o_584 o_585 o_588 o_590 o_591 o_592 o_595 o_597 o_598 o_599 o_602 o_604 o_605 o_606 o_609 o_611 o_612 o_613 o_616 o_617 o_618 o_621 o_622 o_623 o_626 o_628 o_629 o_630 o_633 o_635 o_636 o_637 o_640 o_641 o_642 o_645 o_647 o_648 o_649 o_652 o_654 o_655 o_656 o_657 o_661 o_663 o_664 o_665 o_668 o_669 o_670 o_673 o_674 o_675 o_678 o_680 o_681 o_682 o_685 o_687 o_688 o_689 o_692 o_693 o_694 o_697 o_699 o_700 o_701 o_704 o_706 o_707 o_708 sts_49 sts_71 sts_86 sts_101 sts_116 sts_131 sts_146 sts_168 sts_211 sts_275 sts_345 sts_428 sts_479 sts_577 sts_657 tree_47 tree_70 tree_85 tree_100 tree_115 tree_130 tree_145 tree_167 tree_210 tree_274 tree_344 tree_427 tree_478 tree_576 tree_656 tree_708 view_39
end PySem.W.Fast
open Lake PySem PySem.W PyProof.Rows
set_option maxRecDepth 100000 in
set_option maxHeartbeats 0 in
theorem PySem.Challenge.cw_besideseats_k97_whole_full_with_its_pape_holds : PySem.Challenge.rw_besideseats_k97_whole_full_with_its_pape.Holds := by
 w_on;o_law;o_head (PySem.W.kHook fA.KK fA.KA (λ _=>by kernel_rfl));(case hw=>w_witness2)
 k_fill
 refine fA.walk (l:=PySem.Challenge.rw_besideseats_k97_whole_full_with_its_pape) rfl rfl (λ w h Y=>PySem.W.kIn_of Y) ?F ?L
 case L=>
  intro w;refine' ZS.S5 (r1:=_) (r2:=_) ?n ?h1 ?h2 ?g1 ?g2 ?ne
  (case n=>kernel_rfl)
  (case h1=>refine' ZS.r? ?a1 ?l1 ?e1 ?tl1 ?tp1;(case a1=>k_is);(case l1=>k_is);(case e1=>exact rfl);(case tl1=>k_is);(case tp1=>exact rfl))
  (case g1=>exact .inr rfl)
  (case h2=>refine' ZS.r? ?a2 ?l2 ?e2 ?tl2 ?tp2;(case a2=>k_is);(case l2=>k_is);(case e2=>exact rfl);(case tl2=>k_is);(case tp2=>exact rfl))
  (case g2=>exact .inr rfl)
  (case ne=>exact λ c P c' P' e1 e2=>by first|(cases e1;done)|(cases e2;done)|(cases e1;cases e2;decide))
 case F=>
  intro w mg fa h KX G hmg;refine' fA.all_mk hmg ⟨KX,G,?_,?_,?_,?_,?_,?_,?_,?_,?_,?_,?_,?_,?_,?_,?_,?_,?_,?_,?_,?_,?_,?_,?_,?_,?_,?fw27,?_,?_,?_,?_,?_,?fw33,?fw34,?fw35,?_,?_,?_,?_,?_,?_,?fw42,?fw43,?fw44,?_,?fw46,?fw47,?fw48,?fw49,?fw50,?fw51,?fw52,?fw53,?_,?_,?_,?_,?_,?_,?_,?_,?_,?_,?_,?_,?_,?_,?_,?_,?_,?_,?_,?_,?_,?_,?_,?_,?_,?_,?_,?_,?_,?_,?_,?_,?_,(zqx ?fw87),(zqx ?fw88),(zqx ?fw89),(zqx ?fw90),(zqx ?fw91),(zqx ?fw92),(zqx ?fw93),(zqx ?fw94),(zqx ?fw95),(zqx ?fw96),(zqx ?fw97),(zqx ?fw98),(zqx ?fw99),(zqx ?fw100),(zqx ?fw101),(zqx ?fw102),(zqx ?fw103),(zqx ?fw104),?fw105,?fw106,?fw107,?fw108,?fw109,?fw110,?fw111,?fw112,?fw113,?fw114,?fw115,?fw116,?fw117,?fw118,?fw119,?fw120,?fw121⟩
  (case fw87|fw88|fw89|fw90|fw91|fw92|fw93|fw94|fw95|fw96|fw97|fw98|fw99|fw100|fw101|fw102|fw103|fw104|fw105|fw106=>k_is)
  (case fw109=>refine' ⟨?_,?_,?_,?_⟩<;>kernel_rfl)
  (case fw108=>refine' ⟨?_,?_,?_,?_,?_,?_,?_⟩<;>kernel_rfl)
  (case fw116=>refine' ⟨?_,?_,?_⟩<;>kernel_rfl)
  (case fw107|fw110|fw111|fw112|fw113|fw114|fw115|fw117|fw118|fw120|fw121=>kernel_rfl)
  (case fw27|fw33|fw35|fw42|fw44=>refine' ZS.mL.mk' ?a ?l ?c ?k ?dq;(case a=>k_is);(case l=>k_is);(case c=>k_is);(case k=>k_is);(case dq=>k_is))
  (case fw46|fw47|fw48|fw49|fw50|fw51|fw52|fw53|fw119=>refine' ZS.fN.mk' ?a ?l ?c ?k ?i;(case a=>k_is);(case l=>k_is);(case c=>k_is);(case k=>k_is);(case i=>k_is))
  (case fw34|fw43=>refine' ZS.uf.mk' ?a ?l ?c ?k ?tl ?tp;(case a=>k_is);(case l=>k_is);(case c=>k_is);(case k=>k_is);(case tl=>k_is);(case tp=>exact rfl))
  all_goals first|k_is|(refine' ZS.bK.mk' ?a ?l ?c ?k;(case a=>k_is);(case l=>k_is);(case c=>k_is);(case k=>k_is))
#print axioms PySem.Challenge.cw_besideseats_k97_whole_full_with_its_pape_holds
