import PyProof.Rows.All
import Wide.All
import OpenK.AllK
import Wide.FinOn
import Lean
import KE.KMinKey
import PyProof.WalkInts
import PyProof.SeqI3
import PyProof.Rows.CallKwBuiltin
import KE.KIsAll
import PyProof.StrBlock
import PyProof.Rows.StrLen
import KE.KIntText
import PyProof.StrLawsFirst
import PyProof.StrLawsIn
import PyProof.InstStoreFacts
import PyProof.DictWalks
import PyProof.EqAt
import PyProof.EqKinds
import PyProof.TupleCall
import KE.KLam
import PySem.Challenge.RW_besideseats_k85_rows_as_deeds
set_option Elab.async false
set_option linter.all false
set_option maxRecDepth 100000
set_option genInjectivity false
set_option genSizeOf false
set_option compiler.extract_closed false
set_option bootstrap.genMatcherCode false
noncomputable section
def zqk(k:Lean.Name)(a:Array Lean.Syntax):=Lean.Syntax.node .none (`Lean.Parser.Tactic++k) a
def zqq:=Lean.Syntax.node .none `null
local macro_rules(kind:=Lean.Parser.Command.omit)|s=>do let t<-`(command|def x:=());return zqq<|(s[1].getArgs.flatMap λ x=>let s:=x.getId.toString;if s.length<9 then #[s]else let n:=((s.splitOn "_")[1]!).toNat!;((Array.range 999).filter n.testBit).map (s!"o_{·}")).map λ s=>t.raw.setArg 1<|t.raw[1].setArg 1<|t.raw[1][1].setArg 0<|Lean.mkIdent<|.mkSimple s!"tw{(`PySem.Challenge.cw_besideseats_k85_rows_as_deeds_holds++.mkSimple s).hash}"
set_option maxHeartbeats 0
local macro_rules|`(∅)=>`(by first|decide|lia|simp)
def zqz x:=zqk `rcasesPatLo #[zqk `rcasesPatMed #[zqq #[x]],zqq #[]]
local macro_rules(kind:=Lean.Parser.Tactic.tacticLet__)|s=>let d:=s[2][0];return if d.isOfKind ``Lean.Parser.Term.letPatDecl then zqk `obtain #[.atom .none "obtain",zqq #[(d[0].rewriteBottomUp λ x=>if x.isIdent then zqz<|zqk `rcasesPat.one #[x]else if x.isOfKind ``Lean.Parser.Term.hole then zqz<|zqk `rcasesPat.ignore x.getArgs else if x.isOfKind ``Lean.Parser.Term.tuple then zqz<|zqk `rcasesPat.tuple #[.atom .none "⟨",zqq<|#[x[1][0],x[1][1]]++x[1][2].getArgs,.atom .none "⟩"]else if x.isOfKind ``Lean.Parser.Term.anonymousCtor then zqz<|zqk `rcasesPat.tuple x.getArgs else x)[0]],zqq #[],zqq #[.atom .none ":=",zqq #[d[4]]]]else zqk `tacticHave__<|s.getArgs.set! 0<|.atom .none "have"
local macro_rules(kind:=Lean.Parser.Term.tuple)|s=>let a:=s[1][2].getArgs;if a.size%2==0&&0<a.size then return .node .none ``Lean.Parser.Term.anonymousCtor #[.atom .none "⟨",zqq<|#[s[1][0],s[1][1]]++a,.atom .none "⟩"]else Lean.Macro.throwUnsupported
local macro_rules(kind:=Lean.Elab.Tactic.Ext.ext)|s=>return zqq<|s[1].getArgs.map λ x=>zqk `cases #[.atom .none "cases",zqq #[zqk `elimTarget #[zqq #[],x[0][0]]],zqq #[],zqq #[]]
local macro_rules(kind:=Lean.Parser.Tactic.show)|s=>return zqk `refine s.getArgs
local macro_rules(kind:=Lean.Parser.Tactic.tacticErw___)|s=>return zqk `simp #[.atom .none "simp",s[1],zqq #[],zqq #[.atom .none "only"],zqq #[s[2][0],zqq<|s[2][1].getArgs.map λ r=>if r.isAtom then r else zqk `simpLemma #[zqq #[],r[0],r[1]],s[2][2]],s[3]]
local macro_rules(kind:=Lean.calcTactic)|s=>`(tactic|simpa using $(⟨s[1][0][0]⟩))
local macro_rules(kind:=ident)|s=>do
 if s.getId.hasMacroScopes||s.getId.getNumParts<2 then Lean.Macro.throwUnsupported
 let n:=s.getId.components.foldl (λ n c=>if n.isAnonymous then c else n++match("n: length t: heap.objs.size e: heap q: toArray J: env Z: objs.size v: toNat u: size y: toList x: isList i: locals j: names a: base c: symm".splitOn " ").dropWhile (!·==s!"{c}:")with|_::x::_=>x.toName|_=>c) .anonymous
 if n==s.getId then Lean.Macro.throwUnsupported
 return Lean.mkIdentFrom s n
def hd:Nat->Lean.Syntax->Lean.Name
|n+1,s=>if s.isOfKind ``Lean.Parser.Term.app then hd n s[0]else if s.isOfKind ``Lean.Parser.Term.arrow||s.isOfKind ``Lean.Parser.Term.depArrow then hd n s[2]else if s.isOfKind ``Lean.Parser.Term.prop then `D else s.getId
|_,_=>`D
local macro_rules(kind:=Lean.Parser.Command.declaration)|s=>do
 let d:=s[1];let n:=d[1][0].getId
 if [`ZQ,`ZS,`Z,`L2].contains n.getRoot&&n.getNumParts>1 then return s.setArg 1<|d.setArg 1<|d[1].setArg 0<|Lean.mkIdentFrom d[1][0]<|`_root_.Lake++n
 if d.isOfKind ``Lean.Parser.Command.definition&&s[0][4].getNumArgs==0 then
  let t:=d[2][1]
  if t.getNumArgs>0&&!("Arguments Bool Builtin Cx D Db DictEntry Env HO Hp Int It Key L Nat Pl PySem.KeyKind R2 Res Rows SF SM Sp St Str String TA TE TG TI TO TS TT V XF Yh Yo Yt α β U ε θ μ ν ς".splitOn " ").contains (hd 99 t[0][1]).toString then return s.setArg 1<|.node .none ``Lean.Parser.Command.theorem #[.atom .none "theorem ",d[1],.node .none ``Lean.Parser.Command.declSig #[d[2][0],t[0]],d[3]]
  return s.setArg 0<|s[0].setArg 4<|Lean.mkNullNode #[.node .none ``Lean.Parser.Command.noncomputable #[.atom .none "noncomputable "]]
 Lean.Macro.throwUnsupported
open Option renaming some→AC,none→Ch,isSome_map→AB4,getD_none→AC7
open Bool renaming false→AT,true→Da,eq_false_iff→AA3,not_eq_true'→AA4,and_assoc→AE2,and_true→AE6
open PySem.W renaming Frag→Db,nsIn→FM,Frag→FS,keepIn→Fa,findIn→GM,mroIn→Ix,fnOf→Ps,tabIn→Rs,emptyDict→SB,codeIn→SL,instObj→UF,plainGet→WP,lookIn→bn,hasDictIn→ca,makesIn→ii,takerIn→im,hideAll_none→li,looks_findIn→lv,tabObj→nw,findObj_own→wP,looks_clsIn→wT,isFn→AB5,plainOver→AB6,set_plain→AB7,handedIn→AC8,OpenLaw→AE1,CodeHd→AE5
open List renaming replicate→Do,range→FB,lookup→NE,zipWith→ci,flatten_append→tz,getElem?_range→ul,getElem_of_mem→ut,map_inj_right→ww,pairwise_cons→xL,filter_congr→AB1,getElem_take→AB2,getElem_set→AC4,zipIdx_cons→AC5,countP_map→AD4,filter_map→AD5,find?_cons→AD6,foldl_cons→AD7,length_set→AD8,zipIdx_nil→AD9,foldl→AE3,forIn_nil→AE4
open PySem.Str renaming ofString→EQ
open PySem renaming wpAny→Ev,Within→AB8,Str→AF0
open PySem.Builtin.Str renaming occurrences→Fk,strSub→On,occurrences→Pi,subAt→Uf,strKind→rc,glued→AA5
open True renaming intro→GE
open False renaming elim→GT
open ForInStep renaming yield→Gc
open Sum renaming inr→Go,inl→dL
open PySem.Builtin.SmallTypes renaming nextOf→IN,ownedTupleIsFree→IR,ownedTupleHandOut→TD
open PySem.Heap renaming SameBut→KF,ExtBut→le,MadeExcOf→lf,get?_update_ne→sK,IsTuple→AA8
open PySem.Builtin.Builtins renaming bindParams→No
open PySem.Builtin.Slice renaming slicePlaces→Op,sliceAdjust→Sc,sliceApplied→al
open PySem.Builtin.Tuple renaming tupleExact→Os,tupleItemsOf→bi
open PySem.Builtin.Range renaming rangeSize→PP,small→XV
open PySem.StrLaws renaming occBody→Re,glued_eq_join→io
open PySem.SeqAt renaming EqAt→SZ,RcNeAt→WF,RcAt→bv
open PySem.Builtin.List renaming listTooLong→TW
open PySem.Obj renaming mapFields→Tk
open PySem.Value renaming none→UV,builtin→AE8,isStrOf→AE9
open PySem.W.WData renaming weightAll→Wp,weight→ac
open Array renaming toList→ZB,toList_append→ol
open Or renaming inr→xz,inl→AF3
namespace Lake
abbrev U:=@List
abbrev δ:=@PySem.Addr
abbrev ε:=@Option
abbrev ζ:=@PySem.Value
abbrev η:=@PySem.Expr
abbrev θ:=@PySem.Stmt
abbrev ι:=@PySem.Shared
abbrev μ:=@PySem.Obj
abbrev ν:=@PySem.Heap
abbrev ξ:=@PySem.World
abbrev ο:=@PySem.Program
abbrev π:=@PySem.Keyword
abbrev ς:=@PySem.Scope
abbrev τ:=@PySem.Around
abbrev υ:=@PySem.FuncData
def T0:=@PySem.wpAny_bind
def W1:=@if_neg
def M2:=@if_pos
def P3:=@Nat.le_refl
def v6:=@PySem.wpAny_pure
def f8:=@Option.some.inj
def A00:=@PySem.Heap.get?_push_of_some
def A01:=@List.mem_cons
def A02:=@PySem.Heap.lt_size
def A03:=@List.mem_map
def A04:=@List.length_map
def A05:=@List.getElem?_eq_getElem
def A06:=@List.map_cons
def A07:=@List.getElem?_map
def A08:=@List.mem_cons_of_mem
def A09:=@List.getElem?_eq_some_iff
def A10:=@List.mem_cons_self
def A11:=@List.mem_singleton
def A12:=@List.size_toArray
def A13:=@congrArg
def A14:=@Nat.le_trans
def A15:=@Ne.symm
def A16:=@Nat.ne_of_lt
def A17:=@List.map_map
def A18:=@PySem.Heap.get?_push_size
def A19:=@Nat.lt_of_lt_of_le
def A20:=@PySem.wpAny_mono
def A21:=@PySem.W.mg_of
def A22:=@List.length_cons
def A23:=@List.length_append
def A24:=@List.getElem?_set_ne
def A25:=@List.mem_of_getElem?
def A26:=@PySem.sizeLine_eq
def A27:=@List.map_append
def A28:=@if_true
def A29:=@Nat.succ.inj
def A30:=@decide_eq_true
def A31:=@List.getElem?_set_self
def A32:=@List.length_take
def A33:=@List.mem_range
def A34:=@List.mem_append
def A35:=@List.all_eq_true
def A36:=@decide_eq_false
def A37:=@List.getElem?_append_left
def A38:=@PySem.wpAny_field
def A39:=@List.not_mem_nil
def A40:=@beq_iff_eq
def A41:=@List.map_nil
def A42:=@or_false
def A43:=@List.mem_append_right
def A44:=@List.nodup_cons
def A45:=@List.getElem?_append_right
def A46:=@Bool.false_eq_true
def A47:=@Nat.ne_of_gt
def A48:=@Nat.zero_le
def A49:=@PySem.wpAny_holding
def A50:=@PySem.W.mg_none_of
def A51:=@List.append_nil
def A52:=@List.getElem?_replicate
def A53:=@PySem.call_meets
def A54:=@beq_self_eq_true
def A55:=@Nat.mul_le_mul
def A56:=@List.getElem?_set
def A57:=@beq_eq_false_iff_ne
def A58:=@PySem.Heap.size_push
def A59:=@if_false
def A60:=@Bool.and_eq_true
def A61:=@List.lookup_cons
def A62:=@PySem.wpAny_seqItems
def A63:=@List.mem_filter
def A64:=@PySem.wpAny_truthy_bool
def A65:=@Bool.eq_iff_iff
def A66:=@Nat.lt_succ_self
def A67:=@Nat.le_succ
def A68:=@PySem.mem_of_lookup
def A69:=@Option.map_some
def A70:=@PySem.Obj.data_mapFields
def A71:=@not_or
def A72:=@Nat.min_eq_left
def A73:=@List.mem_append_left
def A74:=@PySem.wpAny_newObj_type
def A75:=@List.append_assoc
def A76:=@List.length_nil
def A77:=@List.length_filter_le
def A78:=@Nat.le_of_lt
def A79:=@PySem.wpAny_Call_Name_kw
def A80:=@List.length_replicate
def A81:=@PySem.typeIs_str
def A82:=@List.replicate_succ
def A83:=@PySem.Heap.get?_update_other
def A84:=@List.map_congr_left
def A85:=@List.range_succ
def A86:=@Nat.not_lt
def A87:=@List.filter_eq_self
def A88:=@Nat.lt_irrefl
def A89:=@Bool.false_ne_true
def A90:=@PySem.wpAny_call
def A91:=@PySem.codeAny_mono
def A92:=@Option.isSome_iff_exists
def A93:=@LawfulBEq.eq_of_beq
def A94:=@Nat.add_comm
def A95:=@dif_pos
def A96:=@List.any_cons
def A97:=@PySem.W.kia_one
def A98:=@of_decide_eq_true
def A99:=@List.drop_eq_getElem_cons
def B00:=@Int.toNat_natCast
def B01:=@Nat.zero_add
def B02:=@PySem.wpAny_letGo
def B03:=@PySem.wpAny_tryCatch
def B04:=@Bool.and_eq_true_iff
def B05:=@PySem.wpAny_loadPart_at
def B06:=@PySem.W.kia_tup
def B07:=@List.getElem?_of_mem
def B08:=@Nat.mul_le_mul_right
def B09:=@PySem.W.callWith_K
def B10:=@PyProof.Rows.callWith_type1
def B11:=@PySem.wpAny_callSpecial?_slot
def B12:=@PyProof.Rows.slot_tuple_getitem
def B13:=@PySem.wpAny_call_entry
def B14:=@List.flatten_cons
def B15:=@List.getElem_mem
def B16:=@List.length_range
def B17:=@List.eq_nil_of_length_eq_zero
def B18:=@PySem.wpAny_pyIter_tuple
def B19:=@PySem.wpAny_pyIter_list
def B20:=@List.take_length
def B21:=@PySem.Heap.get?_update_self
def B22:=@PySem.wpAny_setField_rec
def B23:=@Option.some.injEq
def B24:=@List.exists_cons_of_length_eq_add_one
def B25:=@Int.toNat_of_nonneg
def B26:=@List.mem_flatMap
def B27:=@PySem.wpAny_passesOwn
def B28:=@PySem.typeIs_int
def B29:=@Nat.succ_mul
def B30:=@List.nil_append
def B31:=@Option.map_eq_some_iff
def B32:=@PySem.wpAny_rule
def B33:=@List.getElem?_eq_none
def B34:=@List.lookup_cons_self
def B35:=@List.forIn_cons
def B36:=@PySem.wpAny_standAt
def B37:=@List.cons.injEq
def B38:=@List.countP_cons
def B39:=@List.sum_cons
def B40:=@List.nodup_nil
def B41:=@and_true
def B42:=@not_false_eq_true
def B43:=@decide_eq_true_eq
def B44:=@PySem.F.slot_tuple_mul
def B45:=@PySem.wpAny_ite_false
def B46:=@Array.getElem?_eq_some_iff
def B47:=@List.filter_append
def B48:=@PySem.Paired.length
def B49:=@PySem.Heap.get?_none_of_le
def B50:=@Array.length_toList
def B51:=@PySem.wpAny_execs_nil
def B52:=@Int.mul_one
def B53:=@PySem.concat_meets
def B54:=@List.length_drop
def B55:=@PySem.F.slot_int_rmul
def B56:=@Nat.lt_trans
def B57:=@List.getElem_range
def B58:=@List.drop_length
def B59:=@List.all_map
def B61:=@List.take_add_one
def B62:=@PySem.F.slot_tuple_iterator_next
def B63:=@PySem.wpAny_setField
def B64:=@PySem.Obj.isFreed_of_fields
def B65:=@PySem.wpAny_pyIter_enum
def B66:=@PySem.wpAny_onRaise
def B67:=@PySem.F.slot_zip_next
def B68:=@List.take_of_length_le
def B69:=@PySem.F.plainAttrs_str
def B70:=@List.drop_eq_nil_of_le
def B71:=@Nat.lt_of_le_of_lt
def B72:=@PySem.plainId_quiet
def B73:=@li
def B74:=@lv
def B75:=@Int.ofNat.inj
def B76:=@List.nodup_append
def B77:=@Int.emod_lt_of_pos
def B78:=@Int.emod_nonneg
def B79:=@List.ext_getElem?
def B80:=@List.take_append_drop
def B81:=@List.mem_of_mem_eraseIdx
def B82:=@List.filterMap_cons
def B83:=@PySem.Calls.Name_function_global
def B84:=@List.mem_filterMap
def B85:=@PySem.W.plainGet_of
def B86:=@PySem.wpAny_loadPart
def B87:=@Nat.le_of_eq
def B88:=@PySem.W.methodCall_KW
def B89:=@List.of_mem_zip
def B90:=@PySem.wpAny_loadPart'
def B91:=@PySem.noFill_tuple_add
def B93:=@PySem.F.slot_tuple_add
def B94:=@PySem.F.entry_tuple_add
def B95:=@PySem.F.args_tuple_add_2
def B97:=@Bool.and_false
def B98:=@PySem.tupleKind_room_in1
def B99:=@List.mem_of_mem_take
def C00:=@Bool.true_and
def C01:=@PySem.PassesOwn.never
def C02:=@Nat.lt_succ_of_lt
def C03:=@PySem.SeqAt.EqAt.same
def C04:=@List.all_cons
def C05:=@PySem.F.plainAttrs_list
def C06:=@List.cons_append
def C07:=@PySem.Obj.cls_mapFields
def C08:=@PySem.AutoSeq1.wpAny_loadPart'
def C10:=@Nat.succ_ne_self
def C11:=@PySem.wpAny_updateSeq_pair
def C12:=@PySem.wpAny_pyIter_zip
def C14:=@Option.bind_some
def C15:=@PySem.F.entry_tuple_mul
def C16:=@PySem.F.args_tuple_mul_2
def C17:=@ne_true_of_eq_false
def C18:=@PySem.F.slot_str_split
def C19:=@PySem.F.entry_str_split
def C20:=@PySem.F.args_str_split_2
def C21:=@PySem.codeAny_builtin
def C22:=@PySem.Around.under_plainId
def C23:=@PySem.wpAny_updateSeq
def C24:=@List.contains_cons
def C25:=@Bool.or_true
def C26:=@PySem.wpAny_isSubtype_exc
def C27:=@Prod.mk.injEq
def C28:=@Nat.add_assoc
def C29:=@List.pairwise_iff_getElem
def C30:=@List.ext_getElem
def C31:=@List.map_take
def C32:=@Nat.add_sub_cancel_left
def C33:=@List.map_drop
def C34:=@List.getElem?_drop
def C35:=@List.map_set
def C42:=@PySem.plainObj_wpAny_Assign_Attribute
def C43:=@PySem.W.cellsFrom_some
def C44:=@List.getElem?_take_of_lt
def C45:=@PySem.wpAny_binaryOp_repeat_ref
def C46:=@List.cons_lt_cons_iff
def C47:=@List.set_eq_of_length_le
def C48:=@List.range_succ_eq_map
def C49:=@PySem.F.entry_tuple_iterator_next
def C50:=@PySem.F.args_tuple_iterator_next_1
def C51:=@List.getElem?_cons_succ
def C53:=@PyProof.Rows.split_le
def C54:=@List.getElem?_cons_zero
def C55:=@PySem.F.excBase_ValueError
def C57:=@List.filter_cons_of_pos
def C58:=@List.filter_cons_of_neg
def C59:=@List.eq_of_mem_replicate
def C60:=@List.set_getElem_self
def C61:=@List.mem_or_eq_of_mem_set
def C62:=@List.dropLast_concat_getLast
def C63:=@List.getElem_cons_drop
def C64:=@List.pairwise_lt_range
def C65:=@Int.mul_le_mul_of_nonneg_right
section S0
open PySem PySem.Spec PyProof.Rows
namespace L2
abbrev Se(a:η)(es:U η)(E:PySem.Env):Prop:=starEach (a::es) E=(AT,eval a E)::starEach es E
abbrev Nd(x:Str):Prop:=(x==("__debug__":Str))=AT
abbrev Pn(p:Pos)(es:U η)(E:PySem.Env):Prop:=(backTo p<|starEach es E).any (·.1)=AT
end L2
open L2 (Se Nd Pn)
namespace L2
abbrev Mt(o:η)(m:Str)(apos:Pos)(es:U η)(pos:Pos)(pl:Sem Bool)(E:PySem.Env):Prop:=eval (.Call (.Attribute o m apos) es [] pos) E=(do
 let ov ←eval o E
 standAt apos.atName
 let (f,first) ←holding [ov] (getMethod ov m pl)
 callWith pos f first (backTo pos<|starEach es E) (backToKw pos<|keywordEach [] E))
abbrev Fi(i:η)(E:PySem.Env):Prop:=∀x,foldedSetIterable i E x=pure x
abbrev Sw(e t i:η)(f:U η)(s:PySem.Scope)(p:Pos)(x:Str)(q r:Pos)(E:PySem.Env):Prop:=swapsWith (.ListComp e [⟨t,i,f,0⟩] s p) (AC<|.Name x q) r.line E=pure Da
abbrev Bk(p:Pos)(a:η)(E:PySem.Env):Prop:=backTo p (starEach (a::[]) E)=(AT,eval a E)::backTo p (starEach [] E)
abbrev Sn(a:η)(x:Str)(q p:Pos)(E:PySem.Env):Prop:=swapsWith a (AC<|.Name x q) p.line E=pure AT
end L2
open L2 (Mt Fi Sw Bk Sn)
namespace L2
abbrev Key:=Sum Int Str
def xY:Key->ζ->Bool
|.inl k,v=>Value.isInt k v
|.inr x,v=>AE9 x v
def aeG(w:ξ):Key->Int
|.inl k=>hashInt k
|.inr x=>hashStr w x
def da:∀{k}{v},xY k v=Da->(∃i t,k=dL i/\v=Value.int i t)\/(∃x t,k=Go x/\v=Value.str x t)
|.inl i,v,h=>by let(t,e):=Value.isInt_shape h;show .inl ⟨i,t,rfl,e⟩
|.inr x,v,h=>by let(t,e):=Value.isStrOf_shape h;show .inr ⟨x,t,rfl,e⟩
def Ij(i:Int)(t:Tok):xY (.inl i) (.int i t)=Da:=by simp[xY,Value.isInt]
def Ii(x:Str)(t:Tok):xY (.inr x) (.str x t)=Da:=by simp[xY,AE9]
def Wl(a b:Int):decide ((dL a:Key)=dL b)=(a==b):=by
 by_cases e:a=b
 .subst e;simp
 .let h:¬(dL a:Key)=dL b:=λ q=>e<|Sum.inl.inj q;rw[A36 h];show(A57.mpr e).symm
def Wi(a b:Str):decide ((Go a:Key)=Go b)=decide (a=b):=by
 by_cases e:a=b
 .subst e;simp
 .let h:¬(Go a:Key)=Go b:=λ q=>e<|Sum.inr.inj q;rw[A36 h,A36 e]
def Wk(a:Int)(b:Str):decide ((dL a)=Go b)=AT:=A36 λ q=>nomatch q
def Wj(a:Str)(b:Int):decide ((Go a)=dL b)=AT:=A36 λ q=>nomatch q
def d9(prog:ο)(w:ξ):PySem.KeyKind prog w Key where
 is:=xY
 hash:=aeG w
 inj:=λ v a b ha hb=>by
  rcases da ha with⟨i,t,rfl,rfl⟩|⟨x,t,rfl,rfl⟩
  .rcases da hb with⟨j,u,rfl,e⟩|⟨y,u,rfl,e⟩
   .injection e with e1 _;rw[e1]
   .exact nomatch e
  .rcases da hb with⟨j,u,rfl,e⟩|⟨y,u,rfl,e⟩
   .exact nomatch e
   .injection e with e1 _;rw[e1]
 byValue:=λ k v h=>by rcases da h with⟨i,t,rfl,rfl⟩|⟨x,t,rfl,rfl⟩<;>rfl
 pyHash:=λ hv h=>by
  rcases da hv with⟨i,t,rfl,rfl⟩|⟨x,t,rfl,rfl⟩
  .exact wpAny_pyHash_int h
  .exact wpAny_pyHash_str h
 eqBool:=λ hu hv h=>by
  rcases da hu with⟨i,t,rfl,rfl⟩|⟨x,t,rfl,rfl⟩
  .rcases da hv with⟨j,u,rfl,rfl⟩|⟨y,u,rfl,rfl⟩
   .rw[Wl]at h;show wpAny_eqBool_int h
   .rw[Wk]at h;show SeqAt.EqAt.int_str i t y u _ _ _ _ h
  .rcases da hv with⟨j,u,rfl,rfl⟩|⟨y,u,rfl,rfl⟩
   .rw[Wj]at h;show SeqAt.EqAt.str_int x t j u _ _ _ _ h
   .rw[Wi]at h;show wpAny_eqBool_str h
 «strs»:=λ k x t v h=>by
  rcases da h with⟨i,u,rfl,e⟩|⟨y,u,rfl,e⟩
  .exact nomatch e
  .injection e with e1 _
   subst e1;ext v<;>rfl
def Bu(prog:ο)(w:ξ)(i:Int)(t:Tok):(d9 prog w).is (.inl i) (.int i t)=Da:=Ij i t
def Bt(prog:ο)(w:ξ)(x:Str)(t:Tok):(d9 prog w).is (.inr x) (.str x t)=Da:=Ii x t
inductive V where
|non|bl (b:Bool)|int (i:Int)|str (x:Str)|Y5 (b:Array UInt8)|flt (b:UInt64)|ref (a:Addr)|ty (n:String)
deriving DecidableEq
def RelV:V->ζ->Prop
|.non,u=>u=UV
|.bl b,u=>u=Value.bool b
|.int i,u=>∃t,u=Value.int i t
|.str x,u=>∃t,u=Value.str x t
|.Y5 b,u=>∃t,u=Value.bytes b t
|.flt b,u=>∃t,u=Value.float b t
|.ref a,u=>u=Value.ref a
|.ty n,u=>u=Value.type n
abbrev Vals:U V->U ζ->Prop:=Paired RelV
def Vals.length(r:Vals xs us):xs.n=us.n:=B48 r
def Vals.get:∀{xs}{us}{i:Nat}{x},Vals xs us->xs[i]?=AC x->∃u,us[i]?=AC u/\RelV x u
|_,_,_,_,.nil,e=>by simp at e
|_,_,0,_,.cons r _,e=>by simp at e;subst e;show(_,rfl,r,)
|_,_,i+1,x,.cons _ t,e=>by let(u,h1,h2):=Vals.get (i:=i) (x:=x) t (by calc e);show⟨u,by calc h1,h2⟩
def Vals.append:∀{xs ys}{us ws},Vals xs us->Vals ys ws->Vals (xs++ys) (us++ws):=by
 intro xs ys us ws h s
 induction h with
 |nil=>show s
 |cons r t ih=>show .cons r ih
def Vals.take:∀{xs}{us} n,Vals xs us->Vals (xs.take n) (us.take n)
|_,_,0,_=>.nil
|_,_,_+1,.nil=>.nil
|_,_,n+1,.cons r t=>.cons r<|Vals.take n t
def Vals.drop:∀{xs}{us} n,Vals xs us->Vals (xs.drop n) (us.drop n)
|_,_,0,r=>r
|_,_,_+1,.nil=>.nil
|_,_,n+1,.cons _ t=>Vals.drop n t
def lU:ε V->ε ζ->Prop
|some v,AC u=>RelV v u
|none,Ch=>True
|_,_=>False
def KV{κ:Type}:U (κ×V)->U (κ×ζ)->Prop:=Paired λ(p:κ×V)(q:κ×ζ)=>p.1=q.1/\RelV p.2 q.2
def kV:Key->V
|.inl i=>.int i
|.inr x=>.str x
inductive HO where
|lst (xs:List V)
|tup (xs:List V)
|dK (aG:List (Key×V))|dT (aG:List (List Key×V))
|set (S:Int->Bool) (n:Nat)
|ins (C dx:Addr) (fs:List (Str×V))
|own (x:Addr)
|xd (fs:List (Str×V))
|met (f x:Addr)
|rng (lo hi:Int)
|eu (o:Obj) (u:HO)
|J0 (q:Str)
|Oi (q:Str)
 |ext (φ:Heap->Prop)
abbrev Hp:=δ->ε HO
def Y8:HO->Prop
|.J0 _=>True
|.Oi _=>True
|_=>False
def upd(H:Hp)(a:δ)(o:HO):Hp:=λ b=>if b=a then AC o else H b
def aA:upd H a o a=AC o:=by unfold upd;rw[M2 rfl]
def ak(h:b≠a):upd H a o b=H b:=by unfold upd;rw[W1 h]
def sQ:upd (upd H a o) a u=upd H a u:=by funext b;unfold upd;split<;>rfl
def TN{H:Hp}(h:H a=AC o)(h':H b=AC u)(d:o≠u):a≠b:=by intro e;subst e;rw[h]at h';show d<|f8 h'
def aR{H:Hp}(h:H a=AC o)(h':H b=Ch):a≠b:=by intro e;subst e;rw[h]at h';ext h'
section
variable(P:ο)(w:ξ)
def qq(h:ν)(a:δ)(xs:Array ζ):Prop:=∃n,h.get? a=AC {cls:=.type "tuple",data:=.seq xs n}
def qq.is(p:qq h a xs):IsTup h a xs:=by let(n,e):=p;show(_,e,rfl,n,rfl,)
def qq.new(h:ν)(xs:Array ζ):qq (h.push {cls:=.type "tuple",data:=.seq xs}) h.objs.size xs:=(_,A18 _ rfl,)
def e!(H:Hp)(h:ν)(a:δ):HO->Prop
|.lst xs=>xs.n<=sizeLine/\∃(a6:U ζ)(n:Nat),Vals xs a6/\h.get? a=AC {cls:=.type "list",data:=.seq a6.toArray n}
|.tup xs=>xs.n<=sizeLine/\∃a6:U ζ,Vals xs a6/\qq h a a6.q
|.dK aG=>aG.n<=sizeLine/\(a==sysModules)=AT/\∃vs,KV aG vs/\h.DictOf (d9 P w) a vs
|.dT aG=>aG.n<=sizeLine/\(a==sysModules)=AT/\∃xs:U (U Key×δ×ζ),
 Paired (λ(p:U Key×V)(q:U Key×δ×ζ)=>p.1=q.1/\H q.2.1=AC (.tup<|p.1.map kV)/\RelV p.2 q.2.2) aG xs /\
 ∃o es ep,h.get? a=AC o/\o.ExactDict/\o.data=.dict es ep/\es.y=xs.map (entryOfKey<|tupleKind<|d9 P w)/\(xs.map (·.1)).Nodup
|.set S n=>h.SetOf (intKind P w) a S n
|.ins C dx fs=>H dx=AC (.own a)/\fs.n<=1000/\dx≠a/\h.get? a=AC (UF C dx) /\
 ∃mA,h.Ns1 dx mA/\(∀f,lU (fs.lookup f) (mA f))/\AB8 mA (fs.map (·.1))
|.own _=>∃o,h.get? a=AC o
|.xd fs=>∃mA,h.Ns1 a mA/\∀f,lU (fs.lookup f) (mA f)
|.rng lo hi=>∃t u v,h.get? a=AC {cls:=.type "range",data:=.fields #[.int lo t,.int hi u,.int 1 v]}
|.eu o u=>h.get? a=AC o/\e! H h a u
|.J0 q=>∃ps:Array ζ,h.get? a=AC {cls:=.none,data:=.fields ps}/\TriplesOk ps.y/\∀pos cv,codeAmong pos ps.y=AC cv->∃c,cv=.ref c/\H c=AC (.Oi q)
|.Oi q=>h.CodeRec (.ref a) q
|.met f x=>h.get? a=AC (PySem.W.methodObj (.ref f)<|.ref x)
|.ext φ=>φ h/\(∃o,h.get? a=AC o)/\∀h1 h2:ν,φ h1->(∀o,h1.get? a=AC o->h2.get? a=AC o)->φ h2
def lX(H:Hp)(h:ν):Prop:=∀a o,H a=AC o->e! P w H h a o
end
def e!.lt(x:e! P w H h a o):a<h.Z:=by
 cases o with
 |lst xs=>let(_,_,_,_,e):=x;show A02 e
 |tup xs=>let(_,_,_,p):=x;show p.is.lt
 |dK aG=>let(_,_,_,_,o,_,_,e,_):=x;show A02 e
 |dT aG=>let(_,_,_,_,o,_,_,e,_):=x;show A02 e
 |set S n=>let(o,_,_,_,e,_):=x;show A02 e
 |ins C dx fs=>let(_,_,_,e,_):=x;show A02 e
 |own y=>let(_,e):=x;show A02 e
 |xd fs=>let(_,(_,_,_,e,_),_):=x;show A02 e
 |rng lo hi=>let(_,_,_,e):=x;show A02 e
 |eu ob u=>let(e,_):=x;show A02 e
 |J0 q=>let(_,e,_):=x;show A02 e
 |Oi q=>let(_,_,_,_,e1,e2,_):=x;ext e1;show A02 e2
 |met f y=>show A02<|x
 |ext φ=>let(_,(_,e),_):=x;show A02 e
def Paired.Ly:∀{l₁}{l₂},Paired F l₁ l₂->(∀a b,F a b->G a b)->Paired G l₁ l₂:=by
 intro a b h f
 induction h with
 |nil=>show .nil
 |cons r t ih=>show .cons (f _ _ r) ih
def e!.n?(x:e! P w H h a o)(k:∀b u,(b=a\/H b=AC (.own a))->h.get? b=AC u->h'.get? b=AC u)
 (ho:∀b,H b=AC (.own a)->H' b=AC (.own a)) (ht:∀b xs,H b=AC (.tup xs)->H' b=AC (.tup xs)) (hp:∀b u,Y8 u->H b=AC u->H' b=AC u):e! P w H' h' a o:=by
 induction o with
 |lst xs=>let(z,a6,n,r,e):=x;show(z,a6,n,r,k _ _ (.inl rfl) e,)
 |tup xs=>let(z,a6,r,ob,e):=x;show(z,a6,r,ob,k _ _ (.inl rfl) e,)
 |dK aG=>let(z,y,vs,r,ob,es,ep,e,c):=x;show(z,y,vs,r,ob,es,ep,k _ _ (.inl rfl) e,c,)
 |dT aG=>let(z,y,xs,r,ob,es,ep,e,c):=x;show(z,y,xs,Paired.Ly r λ p q z=>(z.1,ht _ _ z.2.1,z.2.2,),ob,es,ep,k _ _ (.inl rfl) e,c,)
 |set S n=>let(ob,es,ep,t,e,c):=x;show(ob,es,ep,t,k _ _ (.inl rfl) e,c,)
 |ins C dx fs=>let(d,z,ne,e,mA,(od,es,ep,e2,c),r):=x;show(ho _ d,z,ne,k _ _ (.inl rfl) e,mA,(od,es,ep,k _ _ (.inr d) e2,c,),r,)
 |own y=>let(ob,e):=x;show(ob,k _ _ (.inl rfl) e,)
 |xd fs=>let(mA,(od,es,ep,e,c),r):=x;show(mA,(od,es,ep,k _ _ (.inl rfl) e,c,),r,)
 |rng lo hi=>let(t,u,v,e):=x;show(t,u,v,k _ _ (.inl rfl) e,)
 |eu ob u ih=>let(e,q):=x;show(k _ _ (.inl rfl) e,ih q,)
 |J0 q=>let(ps,e,t,g):=x;show(ps,k a _ (.inl rfl) e,t,λ pos cv r=>let ⟨c,e1,e2⟩:=g pos cv r;⟨c,e1,hp c _ trivial e2⟩,)
 |Oi q=>let(c,oc,vs,t,e1,e2,r):=x;ext e1;show(a,oc,vs,t,rfl,k a _ (.inl rfl) e2,r,)
 |met f y=>let e:=x;show k a _ (.inl rfl) e
 |ext φ=>let(p,(o,e),st):=x;show(st _ _ p λ o q=>k _ _ (.inl rfl) q,(o,k _ _ (.inl rfl) e,),st,)
def lX.lt(x:lX P w H h)(e:H a=AC o):a<h.Z:=(x a o e).lt
def lX.fresh(x:lX P w H h)(e:h.Z<=a):H a=Ch:=by
 cases q:H a with
 |none=>rfl
 |some u=>show absurd (A19 (x.lt q) e)<|A88 _
def lX.kept(x:lX P w H h)(k:∀b u,h.get? b=AC u->h'.get? b=AC u):lX P w H h':=λ a o e=>(x a o e).n? (λ b u _ q=>k b u q) (λ _ q=>q) (λ _ _ q=>q) λ _ _ _ q=>q
def lX.laid(x:lX P w H h)(k:∀b u,h.get? b=AC u->h'.get? b=AC u)(hp:h.Z<=a)(new:e! P w (upd H a o) h' a o):lX P w (upd H a o) h':=λ b u e=>by
 let hn:=x.fresh hp;by_cases hb:b=a
 .subst hb;rw[aA]at e;ext e;show new
 .rw[ak hb]at e;show(x b u e).n? (λ c v _ q=>k c v q) (λ c q=>by rw[ak<|aR q hn];show q) (λ c xs q=>by rw[ak<|aR q hn];show q) λ c v _ q=>by rw[ak<|aR q hn];show q
def Rd(H:Hp)(a:δ)(u:HO):Prop:=H a=AC u\/∃o,H a=AC (.eu o u)
def Rd.ok(r:Rd H a u)(x:lX P w H h):e! P w H h a u:=by
 rcases r with r|⟨o,r⟩
 .exact x a u r
 .let(_,q):=x a _ r;show q
def Mut:ε HO->Prop
|some<|.lst _=>True
|some<|.dK _=>True
|some<|.dT _=>True
|some<|.set _ _=>True
|some<|.ins _ _ _=>True
|some<|.ext _=>True
|_=>False
def lX.write(ok:lX P w H h)(mu:Mut (H x))(he:e=x\/H e=AC (.own x))(k:∀ b u,b≠e->h.get? b=AC u->h'.get? b=AC u)(YR:∃ u,h'.get? e=AC u)
 (new:e! P w (upd H x o') h' x o'):lX P w (upd H x o') h':=λ b u q=>by
 let _v:∀c y,H c=AC (.own y)->c≠x:=λ c y r z=>by subst z;rw[r]at mu;show mu
 let aem:∀c xs,H c=AC (.tup xs)->c≠x:=λ c xs r z=>by subst z;rw[r]at mu;show mu
 let aen:∀c u,Y8 u->H c=AC u->c≠x:=λ c u p r z=>by subst z;rw[r]at mu;ext u<;>first|show p|show mu
 by_cases hb:b=x
 .subst hb;rw[aA]at q;ext q;show new
 .rw[ak hb]at q;by_cases W0:b=e
  .let q':H b=AC (.own x):=by
    rcases he with z|z
    .exact absurd (W0.trans z) hb
    .rw[W0];show z
   rw[q]at q';ext q';let(v,hv):=YR;show⟨v,by rw[W0];show hv⟩
  .refine(ok b u q).n? (λ c v hc r=>k c v ?_ r) (λ c r=>by rw[ak<|_v c b r];show r) (λ c xs r=>by rw[ak<|aem c xs r];show r) λ c v p r=>by rw[ak<|aen c v p r];show r
   rcases hc with rfl|hc
   .exact W0
   .rintro rfl;rcases he with z|z
    .exact _v c b hc z
    .rw[hc]at z;ext z;show hb rfl
structure Un(fs ex:List Addr)(H H':Hp)(h h':Heap):Prop where
 keep:∀b o,h.get? b=AC o->H b=Ch->b∉fs->b∉ex->h'.get? b=AC o
 slot:∀b o,h.get? b=AC o->H b=Ch->b∈fs->b∉ex->∃sl,h'.get? b=AC {o with slots:=sl}
 free:∀b o,h.get? b=AC o->H b=Ch->b∉ex->H' b=Ch
 there:∀b o,h.get? b=AC o->b∉ex->∃o',h'.get? b=AC o'
 sr:∀b xs,H b=AC (.tup xs)->H' b=AC (.tup xs)
 q?:∀b o u,H b=AC (.eu o u)->H' b=AC (.eu o u)
 n8:∀b u,Y8 u->H b=AC u->H' b=AC u
def Un.any(u:Un fs ex H H1 h h1)(q:h.get? b=AC ob)(n:H b=Ch)(hx:b∉ex):∃sl,h1.get? b=AC {ob with slots:=sl}:=by
 by_cases hb:b∈fs
 .exact u.slot b ob q n hb hx
 .exact⟨_,u.keep b ob q n hb hx⟩
def Un.kept(k:∀b u,h.get? b=AC u->h'.get? b=AC u):Un fs ex H H h h':=
 ⟨λ b ob q _ _ _=>k b ob q,λ b ob q _ _ _=>(_,k b ob q,),λ _ _ _ n _=>n,λ b ob q _=>(ob,k b ob q,),λ _ _ q=>q,λ _ _ _ q=>q,λ _ _ _ q=>q⟩
def Un.refl:Un fs ex H H h h:=Un.kept λ _ _ q=>q
def Un.laid(k:∀b u,h.get? b=AC u->h'.get? b=AC u)(hp:h.Z<=a)(hn:H a=Ch):Un fs ex H (upd H a o) h h' where
 keep:=λ b u q _ _ _=>k b u q
 slot:=λ b u q _ _ _=>(_,k b u q,)
 free:=λ b u q n _=>by rw[ak<|A16<|A19 (A02 q) hp];show n
 there:=λ b u q _=>(u,k b u q,)
 sr:=λ b xs q=>by rw[ak<|aR q hn];show q
 q?:=λ b u xs q=>by rw[ak<|aR q hn];show q
 n8:=λ b u _ q=>by rw[ak<|aR q hn];show q
def Un.write(mu:Mut (H x))(he:e=x\/H e=AC (.own x))(k:∀b u,b≠e->h.get? b=AC u->h'.get? b=AC u)(YR:∃u,h'.get? e=AC u):Un fs ex H (upd H x o) h h':=by
 let hx:∀b,H b=Ch->b≠x:=λ b n z=>by subst z;rw[n]at mu;show mu
 let hb:∀b,H b=Ch->b≠e:=λ b n z=>by
  subst z;rcases he with r|r
  .exact hx b n r
  .rw[n]at r;ext r
 let hm:∀b u,H b=AC u->¬Mut (AC u)->b≠x:=λ b u q nm z=>by subst z;rw[q]at mu;show nm mu
 show⟨λ b u q n _ _=>k b u (hb b n) q,λ b u q n _ _=>(_,k b u (hb b n) q,),λ b u q n _=>by rw[ak<|hx b n];show n,λ b u q _=>?_,
  λ b xs q=>by rw[ak<|hm b _ q λ z=>z];show q,λ b u xs q=>by rw[ak<|hm b _ q λ z=>z];show q,λ b u p q=>by rw[ak<|hm b _ q λ z=>by ext u<;>first|show p|show z];show q⟩
 by_cases W0:b=e
 .subst W0;show YR
 .exact⟨u,k b u W0 q⟩
def UU(h:ν)(H:Hp):U δ:=(FB h.Z).filter λ a=>(H a).isSome
def wL(h:ν)(H:Hp):ν:=PySem.W.hideAll h<|UU h H
def Iu(h:ν)(H:Hp):(wL h H).objs.size=h.Z:=PySem.W.hideAll_size _ _
def L_(e:h.get? b=AC o)(n:H b=Ch):(wL h H).get? b=AC o:=
 PySem.W.hideAll_get _ e λ hm=>by let q:=(A63.mp hm).2;rw[n]at q;simp at q
def P7(e:(wL h H).get? b=AC o):h.get? b=AC o/\H b=Ch:=by
 let e':=PySem.W.of_hideAll _ e;show(e',?_,);cases q:H b with
 |none=>rfl
 |some x=>let hm:b∈UU h H:=A63.mpr ⟨A33.mpr<|A02 e',by simp[q]⟩;let z:(wL h H).get? b=Ch:=li _ hm;rw[z]at e;ext e
def SQ(g h:ν)(L:δ):U (δ×μ):=(FB h.Z).filterMap λ a=>if a=L\/(g.get? a).isSome=Da then Ch else(h.get? a).map λ o=>(a,o)
def rest(g h:ν)(L d:δ):U (δ×μ):=(SQ g h L).filter λ p=>decide<|p.1≠d
structure Mod(K:Db)(mg:Str->Option Value)(base:Heap):Prop where
 N?:K.In base
 glob:base.Ns mainGlobals mg
 blt:∃mb,base.Ns builtinsNs mb/\∀x:Str,x≠ "__name__" -> mb x=bootBuiltins x
 nolimit:base.NoLimit
def c_:U Str:=["best_among","paper_beside"]
def jz(x:Str):Str:=x++ ".<locals>."++ "<lambda>"
def BMain(mg:Str->ε ζ)(base:ν):Prop:=∃bm ob,mg "__builtins__"=AC (.ref bm)/\bm≠builtinsNs/\base.get? bm=AC ob/\ob.cls=.type "module" /\ ob.dict=AC builtinsNs/\ob.data=.plain
def yw(K:Db)(mg:Str->ε ζ)(base:ν)(H:Hp):Prop:=∀x∈c_,∀c P,Rs K x=AC (c,P)->H P=AC (.J0<|jz x)/\AE5 base c P/\BMain mg base
def yw.up{K:Db}(t:yw K mg base H)(u:∀b o,Y8 o->H b=AC o->H' b=AC o):yw K mg base H':=λ x hx c P e=>(u _ _ trivial (t x hx c P e).1,(t x hx c P e).2,)
structure Cx where
 prog:Program
 w:World
 K:Db
 mg:Str->Option Value
 base:Heap
 A:Around
 N:List Str
 s₀:Shared
 H₀:Hp
 env:Env
 outer:List Env
 stack:List Env
 ex:List Addr
 fn:Str->Bool
 calm:Bool
 pn:List (Addr×Obj)
 xe:Value->Shared->Prop
def u_(l:U Env):U δ:=l.filterMap (·.frame)
abbrev Cx.fs(X:Cx):U δ:=u_ X.outer
def NH(sc:ς)(x:Str):Prop:=sc.names.lookup x=AC .local\/sc.names.lookup x=AC .cell\/sc.names.lookup x=AC .free
def Loc(sc:ς)(x:Str):Prop:=sc.names.lookup x=AC .local\/sc.names.lookup x=AC .cell
def Look(env:Env)(h:ν)(m:Str->ε ζ)(x:Str)(u:ζ):Prop:=
 (env.kindOf x=AC .local/\m x=AC u)\/((env.kindOf x=AC .cell\/env.kindOf x=AC .free)/\∃c,env.cells.lookup x=AC c/\h.IsCell c (AC u))
structure Cx.Ok(X:Cx):Prop where
 mod:Mod X.K X.mg X.a
 kind:X.J.scope.kind=.function
 glob:X.J.globals=mainGlobals
 blt:X.J.builtins=builtinsNs
 above:X.s₀.t<=X.J.i
 inj:∀x y c,X.env.cells.lookup x=AC c->X.env.cells.lookup y=AC c->x=y
 has:∀x,(X.env.kindOf x=AC .cell\/X.env.kindOf x=AC .free)->∃c,X.env.cells.lookup x=AC c
 XW:∀x c,X.fn x=Da->X.env.cells.lookup x=AC c->X.s₀.t<=c
 hd:X.calm=Da->X.A.handled=Ch
 frames:X.A.frames=AC X.stack
 NS:X.stack=X.outer\/(X.stack=X.J::X.outer/\X.J.frame=AC X.J.i)
 exf:∀b∈X.ex,b≠X.J.i/\∀x c,X.env.cells.lookup x=AC c->c≠b
 bs:∀b o,X.base.get? b=AC o->X.s₀.heap.get? b=AC o/\X.H₀ b=Ch
 Nw:X.a.Z<=X.s₀.t
 Bq:∀b o,X.base.get? b=AC o->b∉X.ex
 IF:∀b∈X.ex,b∉X.fs
 nB:X.s₀.heap.FunFrames X.base X.outer
 Rr:∀b∈X.fs,X.H₀ b=Ch
structure Inv(X:Cx)(B:List (Addr×Obj))(O:List (Option V))(H:Hp)(s:Shared):Prop where
 ok:X.Ok
 os:s.os=X.s₀.os
 bare:AllBare s.gens
 base:Un X.fs X.ex X.H₀ H X.s₀.heap s.e
 loc:∃m,s.heap.Ns X.env.locals m/\∀(i:Nat)(x:Str)(v:V),X.N[i]?=AC x->O[i]?=AC (AC v)->NH X.env.scope x->∃u,RelV v u/\Look X.env s.heap m x u
 cell:∀x c,X.env.cells.lookup x=AC c->∃v,s.heap.IsCell c v
 free:H X.J.i=Ch
 gH:∀x c,X.env.cells.lookup x=AC c->H c=Ch
 pin:∀p∈X.pn++B,s.heap.get? p.1=AC p.2/\H p.1=Ch/\p.1≠X.J.i/\p.1∉X.fs/\∀v,p.2.data≠.cell v
 bN:lX X.prog X.w H s.e
 len:O.n=X.N.n
 tab:yw X.K X.mg X.base H
section
variable{X:Cx}
def Cx.Ok.aer(ok:X.Ok)(e:X.base.get? b=AC o):b∉X.fs:=λ hb=>by let:=(ok.nB.mem hb).1;rw[e]at this;ext this
def Inv.bs(I:Inv X B O H s):∀b o,X.base.get? b=AC o->s.heap.get? b=AC o/\H b=Ch:=λ b o e=>(I.base.keep b o (I.ok.bs b o e).1 (I.ok.bs b o e).2 (I.ok.aer e)<|I.ok.Bq b o e,I.base.free b o (I.ok.bs b o e).1 (I.ok.bs b o e).2<|I.ok.Bq b o e,)
def Inv.bk(I:Inv X B O H s):∀b o,X.base.get? b=AC o->s.heap.get? b=AC o:=λ b o e=>(I.bs b o e).1
def Inv.mod(I:Inv X B O H s):Mod X.K X.mg X.a:=I.ok.mod
def Inv.jw(I:Inv X B O H s):X.K.In s.e:=I.ok.mod.N?.keeps I.bk
def Inv.nolimit(I:Inv X B O H s):s.e.NoLimit:=I.ok.mod.nolimit.keeps I.bk
def Inv.lt(I:Inv X B O H s):X.J.i<s.t:=by let(_,hn,_):=I.loc;show hn.lt
def Inv.sz(I:Inv X B O H s):X.s₀.t<=s.t:=A14 I.ok.above<|A78 I.lt
def Inv.VS(I:Inv X B O H s)(h:s.t<=a):a∉X.fs:=λ hb=>by let(_,o,ho,_):=I.ok.nB.mem hb;show absurd (A19 (A02 ho)<|A14 I.sz h)<|A88 _
def Inv.Nl(I:Inv X B O H s):∀x c,X.env.cells.lookup x=AC c->c≠X.J.i:=λ x c e z=>by let(v,o,ho,hd):=I.cell x c e;let(m,(o',es,ep,p5,sH,_),_):=I.loc;rw[z,p5]at ho;ext ho;rw[sH]at hd;ext hd
def Inv.nB(I:Inv X B O H s):s.heap.FunFrames X.base X.outer:=by
 let all:∀l,(∀b∈u_ l,b∈X.fs)->X.s₀.heap.FunFrames X.base l->s.heap.FunFrames X.base l:=by
  intro l
  induction l with
  |nil=>intro _ _;trivial
  |cons env r ih=>intro hs hl;let(hk,(L,o,hf,hn,ho,hd),hr):=hl;let hL:=hs L (by unfold u_;rw[B82,hf];show A10);let(sl,e):=I.base.slot L o ho (I.ok.Rr L hL) hL λ z=>I.ok.IF L z hL;show(hk,(L,_,hf,hn,e,hd,),ih (λ b hb=>hs b (by unfold u_;rw[B82,hf];show A08 _ hb)) hr,)
 show all _ (λ _ hb=>hb) I.ok.nB
def Inv.stack(I:Inv X B O H s):s.heap.FunFrames X.base X.stack:=by
 rcases I.ok.NS with e|⟨e,hf⟩
 .rw[e];show I.nB
 .rw[e];let(m,hn,_):=I.loc;show .cons (by rw[I.ok.kind];decide) hf hn ?_ I.nB;show B49<|A14 I.ok.Nw I.ok.above
def Inv.qG(I:Inv X B O H s):∀b∈u_ X.stack,b∈X.J.i::X.fs:=λ b hb=>by
 rcases I.ok.NS with e|⟨e,hf⟩
 .rw[e]at hb;show A08 _ hb
 .rw[e]at hb;unfold u_ at hb;rw[B82,hf]at hb;show hb
def Inv.sS(I:Inv X B O H s):∀b∈u_ X.stack,H b=Ch:=λ b hb=>by
 rcases A01.mp (I.qG b hb)with e|hb
 .rw[e];show I.free
 .let(_,o,ho,_):=I.ok.nB.mem hb;show I.base.free b o ho (I.ok.Rr b hb) λ z=>I.ok.IF b z hb
theorem Inv.step{ch:U δ}(I:Inv X B O H s)
 (Aq:∀b∈ch,(b∈X.ex\/X.s₀.t<=b)/\b≠X.J.i/\(∀x c,X.env.cells.lookup x=AC c->c≠b)/\∀p∈X.pn++B,p.1≠b)
 (keep:∀b o,b≠X.J.i->b∉X.fs->b∉ch->s.heap.get? b=AC o->H b=Ch->h'.get? b=AC o)
 (slot:∀b o,b≠X.J.i->b∈X.fs->b∉ch->s.heap.get? b=AC o->H b=Ch->∃sl,h'.get? b=AC {o with slots:=sl}) (free:∀b o,b∉ch->s.heap.get? b=AC o->H b=Ch->H' b=Ch)
 (there:∀b o,b∉ch->s.heap.get? b=AC o->∃o',h'.get? b=AC o')
 (sr:∀b xs,H b=AC (.tup xs)->H' b=AC (.tup xs)) (q?:∀b o u,H b=AC (.eu o u)->H' b=AC (.eu o u)) (n8:∀b u,Y8 u->H b=AC u->H' b=AC u)
 (ns:∀m,s.heap.Ns X.env.locals m->h'.Ns X.env.locals m) (bN:lX X.prog X.w H' h') (hg:AllBare g') :
 Inv X B O H' {s with heap:=h',gens:=g',drawn:=d',toks:=t'}:=by
 let _A:∀b o,X.s₀.heap.get? b=AC o->b≠X.J.i:=λ b o e=>A16<|A19 (A02 e) I.ok.above;let Lj:∀b o,X.s₀.heap.get? b=AC o->b∉X.ex->b∉ch:=λ b o e hx hb=>by
  rcases(Aq b hb).1 with z|z
  .exact hx z
  .exact absurd (A19 (A02 e) z)<|A88 _
 let cellK:∀x c,X.env.cells.lookup x=AC c->∀v,s.heap.IsCell c v->h'.IsCell c v:=by
  rintro x c e v ⟨o,ho,hd⟩;let Br:=λ z=>(Aq c z).2.2.1 x c e rfl;by_cases hc:c∈X.fs
  .let(sl,q):=slot c o (I.Nl x c e) hc Br ho (I.gH x c e);show(_,q,hd,)
  .exact⟨o,keep c o (I.Nl x c e) hc Br ho<|I.gH x c e,hd⟩
 show(I.ok,I.os,hg,(λ b o e n hb hx=>?_,λ b o e n hb hx=>?_,λ b o e n hx=>?_,λ b o e hx=>?_,λ b xs e=>sr b xs<|I.base.sr b xs e,λ b o xs e=>q? b o xs<|I.base.q? b o xs e,λ b u p e=>n8 b u p<|I.base.n8 b u p e,),?_,λ x c e=>?_,?_,λ x c e=>?_,λ p hp=>?_,bN,I.len,I.tab.up n8,)
 .exact keep b o (_A b o e) hb (Lj b o e hx) (I.base.keep b o e n hb hx)<|I.base.free b o e n hx
 .let(sl,e1):=I.base.slot b o e n hb hx;let(sl',e2):=slot b _ (_A b o e) hb (Lj b o e hx) e1 (I.base.free b o e n hx);show(sl',e2,)
 .let(o',e1):=I.base.there b o e hx;show free b o' (Lj b o e hx) e1<|I.base.free b o e n hx
 .let(o',e1):=I.base.there b o e hx;show there b o' (Lj b o e hx) e1
 .let(m,hn,hl):=I.loc;show(m,ns m hn,λ i x v e1 e2 e3=>?_,);let(u,r,l):=hl i x v e1 e2 e3;show(u,r,?_,);rcases l with l|⟨k,c,e,z⟩
  .exact .inl l
  .exact .inr ⟨k,c,e,cellK x c e _ z⟩
 .let(v,z):=I.cell x c e;show(v,cellK x c e v z,)
 .let(m,(o,_,_,ho,_),_):=I.loc;show free _ o (λ z=>(Aq _ z).2.1 rfl) ho I.free
 .let(v,o,ho,hd):=I.cell x c e;show free c o (λ z=>(Aq c z).2.2.1 x c e rfl) ho<|I.gH x c e
 .let(e,n,ne,nf,d):=I.pin p hp;let Br:=λ z=>(Aq p.1 z).2.2.2 p hp rfl;show(keep p.1 p.2 ne nf Br e n,free p.1 p.2 Br e n,ne,nf,d,)
def Inv.un(I:Inv X B O H s)(u:Un X.fs [] H H' s.heap h')(bN:lX X.prog X.w H' h'):Inv X B O H' {s with heap:=h',toks:=t'}:=by
 let(m,(o,es,ep,ho,r),_):=id I.loc;let(sl,hL):=u.any ho I.free ∅;show I.step (ch:=[]) (λ _ z=>nomatch z) (λ b o _ hb _ e n=>u.keep b o e n hb ∅) (λ b o _ hb _ e n=>u.slot b o e n hb ∅) (λ b o _ e n=>u.free b o e n ∅) (λ b o _ e=>u.there b o e ∅) u.sr u.q? u.n8 (λ m' hm=>by let(o',es',ep',p5,r'):=hm;rw[ho]at p5;ext p5;show(_,es',ep',hL,r',)) bN I.bare
def Inv.call(I:Inv X B O H s)(u:Un (u_ X.stack) ch H H' s.heap h')(bN:lX X.prog X.w H' h')(hg:AllBare g')
 (Aq:∀b∈ch,(b∈X.ex\/X.s₀.t<=b)/\b≠X.J.i/\(∀x c,X.env.cells.lookup x=AC c->c≠b)/\∀p∈X.pn++B,p.1≠b) :
 Inv X B O H' {s with heap:=h',gens:=g',drawn:=d',toks:=t'}:=by
 let(m,(o,es,ep,ho,r),_):=id I.loc;let(sl,hL):=u.any ho I.free λ z=>(Aq _ z).2.1 rfl;show I.step Aq (λ b o hL hb hc e n=>u.keep b o e n (λ z=>(A01.mp<|I.qG b z).elim hL hb) hc) (λ b o _ _ hc e n=>u.any e n hc) (λ b o hc e n=>u.free b o e n hc) (λ b o hc e=>u.there b o e hc) u.sr u.q? u.n8 (λ m' hm=>by let(o',es',ep',p5,r'):=hm;rw[ho]at p5;ext p5;show(_,es',ep',hL,r',)) bN hg
def Inv.turned(I:Inv X B O H s)(k:∀b o,b≠it->s.heap.get? b=AC o->h'.get? b=AC o)(hn:H it=Ch)(hL:it≠X.J.i)
 (h1:it∈X.ex\/X.s₀.t<=it) (h2:∀x c,X.env.cells.lookup x=AC c->c≠it) (h3:∀p∈X.pn++B,p.1≠it):Inv X B O H {s with heap:=h',toks:=t'}:=by
 let nit:∀b u,H b=AC u->b≠it:=λ b u e z=>by rw[z,hn]at e;ext e
 show I.step (ch:=[it]) (λ b hb=>?_) (λ b o _ _ hc e _=>k b o (λ z=>hc (by simp[z])) e) (λ b o _ _ hc e _=>(_,k b o (λ z=>hc (by simp[z])) e,)) (λ _ _ _ _ n=>n)
  (λ b o hc e=>(o,k b o (λ z=>hc (by simp[z])) e,)) (λ _ _ e=>e) (λ _ _ _ e=>e) (λ _ _ _ e=>e) (λ m hm=>?_) (λ b u e=>?_) I.bare
 .let e:b=it:=by simpa using hb
  subst e;show(h1,hL,h2,h3,)
 .let(o,es,ep,ho,r):=hm;show(o,es,ep,k _ o (A15 hL) ho,r,)
 .refine(I.bN b u e).n? (λ c v hc q=>k c v ?_ q) (λ _ q=>q) (λ _ _ q=>q) λ _ _ _ q=>q;rcases hc with z|z
  .rw[z];show nit b u e
  .exact nit c _ z
def Inv.tok(I:Inv X B O H s)(t:Nat):Inv X B O H {s with toks:=t}:=I.un Un.refl I.bN
def Inv.kept(I:Inv X B O H s)(k:∀b u,s.heap.get? b=AC u->h'.get? b=AC u):Inv X B O H {s with heap:=h',toks:=t'}:=I.un (Un.kept k)<|I.bN.kept k
def Inv.laid(I:Inv X B O H s)(k:∀b u,s.heap.get? b=AC u->h'.get? b=AC u)(hp:s.t<=a)(new:e! X.prog X.w (upd H a o) h' a o):
 Inv X B O (upd H a o) {s with heap:=h',toks:=t'}:=I.un (Un.laid k hp<|I.bN.fresh hp)<|I.bN.laid k hp new
def Inv.write(I:Inv X B O H s)(mu:Mut (H x))(he:e=x\/H e=AC (.own x))(k:∀b u,b≠e->s.heap.get? b=AC u->h'.get? b=AC u)(YR:∃u,h'.get? e=AC u)
 (new:e! X.prog X.w (upd H x o) h' x o):Inv X B O (upd H x o) {s with heap:=h',toks:=t'}:=I.un (Un.write mu he k YR)<|I.bN.write mu he k YR new
def Inv.FF(I:Inv X B O H s)(h:∀p∈nI,s.heap.get? p.1=AC p.2/\H p.1=Ch/\p.1≠X.J.i/\p.1∉X.fs/\∀v,p.2.data≠.cell v):Inv X nI O H s:=
 ⟨I.ok,I.os,I.bare,I.a,I.loc,I.cell,I.free,I.gH,λ p hp=>(A34.mp hp).elim (λ z=>I.pin p<|A73 _ z)<|h p,I.bN,I.len,I.tab⟩
def uK{N:U Str}(hN:N.Nodup){i j:Nat}(a:N[i]?=AC x)(b:N[j]?=AC x):i=j:=by let(h1,e1):=A09.mp a;let(h2,e2):=A09.mp b;show(List.getElem_inj hN).mp<|e1.trans e2.c
def xA(I:Inv X B O H s)(hN:X.N.Nodup)(hi:X.N[i]?=AC x)(hx:Loc X.env.scope x)(r:RelV v u)
 (h:∀s',Inv X B (O.set i<|some v) H s'->(∃a,KF a s.heap s'.e/\(a=X.env.locals\/X.env.cells.lookup x=AC a))/\(X.env.scope.names.lookup x=AC .local->s.toks<s'.toks)->Q () s') (hf:X.fn x=Da\/X.env.scope.names.lookup x=AC .local:=by first|show .inl rfl|show .inr rfl|assumption):Ev M A (storeName X.env x u) Q E s:=by
 let(m,hn,hl):=id I.loc;let afG:(X.J.scope.kind==.class||(X.J.scope.kind==.module&&X.env.locals != X.J.globals))=AT:=by rw[I.ok.kind];rfl
 let hiσ:i<O.n:=by rw[I.len];show(A09.mp hi).1
 let Nl:=I.Nl;let tracked:∀{a}{h'},(∃o,s.heap.get? a=AC o/\H a=Ch)->KF a s.heap h'->lX X.prog X.w H h':=λ {a h'} ha hs b ob e=>by
  let(_,_,rR):=ha;show(I.bN b ob e).n? (λ c w' hc q=>(hs.2 c ?_).trans q) (λ _ q=>q) (λ _ _ q=>q) λ _ _ _ q=>q;rintro rfl;rcases hc with rfl|hc
  .rw[rR]at e;ext e
  .rw[rR]at hc;ext hc
 rcases hx with hk|hk
 .refine wpAny_storeName_local hk hn (λ h' Gd hs=>?_) afG;let(oL,_,_,hoL,_):=id hn;show h _ ⟨I.ok,I.os,I.bare,⟨λ b o e n hb hx=>?_,λ b o e n hb hx=>?_,I.a.free,λ b o e hx=>?_,I.a.sr,I.a.q?,I.a.n8⟩,⟨_,Gd,λ j y v' e1 e2 e3=>?_⟩,λ y c e=>?_,I.free,I.gH,λ p hp=>?_,tracked ⟨oL,hoL,I.free⟩ hs,by calc I.len,I.tab⟩ ⟨⟨_,hs,.inl rfl⟩,λ _=>A66 _⟩
  .exact(hs.2 b<|A16<|A19 (A02 e) I.ok.above).trans<|I.base.keep b o e n hb hx
  .let(sl,e1):=I.base.slot b o e n hb hx;show(sl,(hs.2 b<|A16<|A19 (A02 e) I.ok.above).trans e1,)
  .let(o',e1):=I.base.there b o e hx;show(o',(hs.2 b<|A16<|A19 (A02 e) I.ok.above).trans e1,)
  .by_cases hj:j=i
   .subst hj;rw[hi]at e1;ext e1;rw[A31 hiσ]at e2;ext e2;show(u,r,.inl ⟨hk,by simp⟩,)
   .rw[A24<|A15 hj]at e2;let(u',r',q):=hl j y v' e1 e2 e3;show(u',r',?_,);rcases q with⟨k,e⟩|⟨k,c,e,z⟩
    .refine .inl ⟨k,?_⟩;let:y≠x:=λ e=>hj<|uK hN e1<|e▸hi;simp[this,e]
    .exact .inr ⟨k,c,e,z.sameBut hs<|Nl y c e⟩
  .let(w',z):=I.cell y c e;show(w',z.sameBut hs<|Nl y c e,)
  .let(e,n,ne,nf,d):=I.pin p hp;show((hs.2 p.1 ne).trans e,n,ne,nf,d,)
 .let hfn:X.fn x=Da:=by
   rcases hf with z|z
   .exact z
   .rw[z]at hk;ext hk
  let(c,hc):=I.ok.has x (.inl hk);let(w',z):=I.cell x c hc;show wpAny_storeName_cell I.ok.kind hk hc z λ h' Ar hs=>?_;let(oc,hoc,ae3):=id z;show h {s with heap:=h'} ⟨I.ok,I.os,I.bare,⟨λ b o e n hb hx=>?_,λ b o e n hb hx=>?_,I.a.free,λ b o e hx=>?_,I.a.sr,I.a.q?,I.a.n8⟩,⟨m,hn.sameBut hs<|A15<|Nl x c hc,λ j y v' e1 e2 e3=>?_⟩,λ y c' e=>?_,I.free,I.gH,λ p hp=>?_,tracked ⟨oc,hoc,I.gH x c hc⟩ hs,by calc I.len,I.tab⟩ ⟨⟨c,hs,.inr hc⟩,λ z=>absurd (hk.symm.trans z) ∅⟩
  .exact(hs.2 b<|A16<|A19 (A02 e)<|I.ok.XW x c hfn hc).trans<|I.base.keep b o e n hb hx
  .let(sl,e1):=I.base.slot b o e n hb hx;show(sl,(hs.2 b<|A16<|A19 (A02 e)<|I.ok.XW x c hfn hc).trans e1,)
  .let(o',e1):=I.base.there b o e hx;show(o',(hs.2 b<|A16<|A19 (A02 e)<|I.ok.XW x c hfn hc).trans e1,)
  .by_cases hj:j=i
   .subst hj;rw[hi]at e1;ext e1;rw[A31 hiσ]at e2;ext e2;show(u,r,.inr ⟨.inl hk,c,hc,Ar⟩,)
   .rw[A24<|A15 hj]at e2;let(u',r',q):=hl j y v' e1 e2 e3;show(u',r',?_,);rcases q with q|⟨k,c',e,z'⟩
    .exact .inl q
    .refine .inr ⟨k,c',e,z'.sameBut hs ?_⟩;rintro rfl;show hj<|uK hN e1<|I.ok.inj _ _ _ e hc▸hi
  .by_cases hcc:c'=c
   .subst hcc;show(_,Ar,)
   .let(w2,z2):=I.cell y c' e;show(w2,z2.sameBut hs hcc,)
  .let(e,n,ne,nf,d):=I.pin p hp;show((hs.2 p.1 ?_).trans e,n,ne,nf,d,);intro q;rw[q,hoc]at e;let q':=f8 e;show d w' (by rw[<-q'];show ae3)
def pB(I:Inv X B O H s)(hN:X.N.Nodup)(hi:X.N[i]?=AC x)(hx:Loc X.env.scope x)(r:RelV v u)
 (h:∀s',Inv X B (O.set i<|some v) H s'->Q () s') (hf:X.fn x=Da\/X.env.scope.names.lookup x=AC .local:=by first|show .inl rfl|show .inr rfl|assumption):Ev M A (storeName X.env x u) Q E s:=
 xA I hN hi hx r (λ s' I' _=>h s' I') hf
def Inv.Nq(I:Inv X B O H s)(ho:s'.os=s.os)(u:Un (u_ X.stack) ch H H' s.heap s'.e)(bN:lX X.prog X.w H' s'.e)(hg:AllBare s'.gens)
 (Aq:∀b∈ch,(b∈X.ex\/X.s₀.t<=b)/\b≠X.J.i/\(∀x c,X.env.cells.lookup x=AC c->c≠b)/\∀p∈X.pn++B,p.1≠b):Inv X B O H' s':=by
 let(h',g',d',t',o'):=s';let e:=ho;subst e;show I.call u bN hg Aq
end
abbrev XK:=ζ->ε δ->Hp->Prop
abbrev St:=U<|ε V
abbrev VK:=V->Hp->Prop
abbrev TE:=St->Hp->VK->Prop
abbrev TT:=St->Hp->(Bool->Hp->Prop)->Prop
abbrev TA:=St->Hp->(U V->Hp->Prop)->Prop
structure Ends where
 nx:St->Hp->Prop
 rt:VK
 bk:St->Hp->Prop:=λ _ _=>False
 ct:St->Hp->Prop:=λ _ _=>False
abbrev TS:=Ends->St->Hp->Prop
def EP(X:Cx)(B:U (δ×μ))(O:St)(Q:VK)(u:ζ)(s':ι):Prop:=∃v H',Inv X B O H' s'/\RelV v u/\Q v H'
def TP(X:Cx)(B:U (δ×μ))(O:St)(Q:Bool->Hp->Prop)(b:Bool)(s':ι):Prop:=∃H',Inv X B O H' s'/\Q b H'
def AP(X:Cx)(B:U (δ×μ))(O:St)(Q:U V->Hp->Prop)(us:U ζ)(s':ι):Prop:=∃vs H',Inv X B O H' s'/\Vals vs us/\Q vs H'
def SP(X:Cx)(B:U (δ×μ))(D:Ends)(f:Flow)(s':ι):Prop:=
 match f with
 |.next=>∃O' H',Inv X B O' H' s'/\D.nx O' H'
 |.brk=>∃O' H',Inv X B O' H' s'/\D.bk O' H'
 |.cont=>∃O' H',Inv X B O' H' s'/\D.ct O' H'
 |.ret u=>∃v O' H',Inv X B O' H' s'/\RelV v u/\D.rt v H'
def PE(X:Cx)(e:η)(t:TE):Prop:=
 ∀(B:U (δ×μ))(s:ι)(O:St)(H:Hp)(Q:VK),Inv X B O H s->t O H Q->Ev (model X.prog X.w) X.A (eval e X.J) (EP X B O Q) X.xe s
def PT(X:Cx)(e:η)(t:TT):Prop:=
 ∀(B:U (δ×μ))(s:ι)(O:St)(H:Hp)(Q:Bool->Hp->Prop),Inv X B O H s->t O H Q->Ev (model X.prog X.w) X.A (isTrue e X.env<|eval e X.J) (TP X B O Q) X.xe s
def PW(X:Cx)(e:η)(t:TT):Prop:=
 ∀(whole:Sem ζ)(B:U (δ×μ))(s:ι)(O:St)(H:Hp)(Q:Bool->Hp->Prop),Inv X B O H s->t O H Q->Ev (model X.prog X.w) X.A (isTrue e X.env whole) (TP X B O Q) X.xe s
def PW.pt(h:PW X e t):PT X e t:=h _
def PA(X:Cx)(es:U η)(t:TA):Prop:=
 ∀(pos:Pos)(B:U (δ×μ))(s:ι)(O:St)(H:Hp)(Q:U V->Hp->Prop),Inv X B O H s->t O H Q->Ev (model X.prog X.w) X.A (spliced<|backTo pos<|starEach es X.J) (AP X B O Q) X.xe s
def PS(X:Cx)(st:θ)(t:TS):Prop:=
 ∀(B:U (δ×μ))(s:ι)(O:St)(H:Hp)(D:Ends),Inv X B O H s->t D O H->Ev (model X.prog X.w) X.A (exec st X.J) (SP X B D) X.xe s
def rq(X:Cx)(st:U θ)(t:TS):Prop:=
 ∀(B:U (δ×μ))(s:ι)(O:St)(H:Hp)(D:Ends),Inv X B O H s->t D O H->Ev (model X.prog X.w) X.A (execs st X.J) (SP X B D) X.xe s
def cj{M:Model}{A:τ}{E:ζ->ι->Prop}{s:ι}(h:Ev M A t Q E s)(hQ:∀a s,Q a s->Q' a s):Ev M A t Q' E s:=A20 h hQ λ _ _ x=>x
section
def nr(i:Nat):TE:=λ O H Q=>∃v,O[i]?=AC (AC v)/\Q v H
def tC(v:V):TE:=λ _ H Q=>Q v H
def uA(hN:X.N[i]?=AC x)(hv:NH X.env.scope x)(hd:Nd x:=by decide)(rT:(x==("__classdict__"))=AT:=by decide):PE X (.Name x pos) (nr i):=by
 intro B s O H Q I h;let(v,e,h):=h;let(m,hn,hl):=I.loc;let(u,r,l):=hl i x v hN e hv;let fin:EP X B O Q u s:=(v,H,I,r,h,)
 rcases l with⟨hk,hm⟩|⟨hk,c,hc,rS⟩
 .exact wpAny_Name (wpAny_loadName_local I.ok.kind hk hn hm fin) hd
 .rcases hk with hk|hk
  .exact wpAny_Name (wpAny_loadName_cell I.ok.kind hk hc rS fin) hd
  .exact wpAny_Name (wpAny_loadName_free I.ok.kind hk hc rS fin rT) hd
def Vj:PE X (.Constant (.int i) j pos) (tC<|.int i):=λ _ _ _ H _ I h=>wpAny_Constant_int ⟨.int i,H,I.tok _,⟨_,rfl⟩,h⟩
def Z9:PE X (.Constant (.bool b) j pos) (tC<|.bl b):=λ _ _ _ H _ I h=>Constant_bool ⟨.bl b,H,I,rfl,h⟩
def qP:PE X (.Constant .none j pos) (tC .non):=λ _ _ _ H _ I h=>Constant_none ⟨.non,H,I,rfl,h⟩
def DB:PE X (.Constant (.str x) j pos) (tC<|.str x):=λ _ _ _ H _ I h=>Calls.Constant_str ⟨.str x,H,I.tok _,⟨_,rfl⟩,h⟩
def Gl(X:Cx)(x:Str):Prop:=X.env.kindOf x=AC .globalImplicit
def mV(I:Inv X B O H s)(hg:Gl X x)(hm:X.mg x=AC u)(h:Q u s)
 (hd:Nd x:=by decide):Ev (model X.prog X.w) X.A (eval (.Name x pos) X.J) Q E s:=
 B83 I.ok.kind hg (Calls.loadGlobal_global (by rw[I.ok.glob];show I.mod.glob.keeps I.bk) hm h) hd
def jS(I:Inv X B O H s)(hg:Gl X x)(hm:X.mg x=Ch)(hv:bootBuiltins x=AC u)(h:Q u s)
 (hn:x≠ "__name__":=by decide) (hd:Nd x:=by decide):Ev (model X.prog X.w) X.A (eval (.Name x pos) X.J) Q E s:=by
 let(mb,h1,h2):=I.mod.blt;show B83 I.ok.kind hg (Calls.loadGlobal_builtin (by rw[I.ok.glob];show I.mod.glob.keeps I.bk) hm (by rw[I.ok.blt];show h1.keeps I.bk) ((h2 x hn).trans hv) h) hd
def za(hg:Gl X x)(hm:X.mg x=AC u)(r:RelV v u)(hd:Nd x:=by decide):PE X (.Name x pos) (tC v):=
 λ _ _ _ H _ I h=>mV I hg hm ⟨v,H,I,r,h⟩ hd
def zb(hg:Gl X x)(hm:X.mg x=Ch)(hv:bootBuiltins x=AC u)(r:RelV v u)(hn:x≠ "__name__":=by decide)(hd:Nd x:=by decide):PE X (.Name x pos) (tC v):=
 λ _ _ _ H _ I h=>jS I hg hm hv ⟨v,H,I,r,h⟩ hn hd
def PC(X:Cx)(op:CmpOp)(a b:η)(t:TE):Prop:=
 ∀ (B:U (δ×μ))(s:ι)(O:St)(H:Hp)(Q:VK),Inv X B O H s->t O H Q ->
  Ev (model X.prog X.w) X.A (eval a X.J) (λ v s₁=>Ev (model X.prog X.w) X.A (eval b X.J) (λ u s₂=>Ev (model X.prog X.w) X.A (compareOp op v u) (EP X B O Q) X.xe s₂) X.xe s₁) X.xe s
def tB(t:TE):TT:=λ O H Q=>t O H λ x H1=>∃c,x=.bl c/\Q c H1
def Vb(h:PC X op a b t)(h1:behindInMarks op b=AT:=by rfl):PT X (.Compare a [op] [b] pos) (tB t):=by intro B s O H Q I hw;show wpAny_isTrue_Compare1 (cj (h B s O H _ I hw) λ v s1 h1=>cj h1 λ u s2 h2=>cj h2 ?_) h1;rintro c s3 ⟨x,H1,I1,r1,q1⟩;let(d,rfl,q):=q1;ext r1;show A64 ⟨H1,I1,q⟩
def U_(h:PE X e t)(he:∀whole,isTrue e X.env whole=(do let v ←whole;standAt e.pos;holding [v] (truthy v)):=by intro _;rfl):PT X e (tB t):=by intro B s O H Q I hw;show isTrue_plain (cj (h B s O H _ I hw) ?_)<|he _;rintro v s1 ⟨x,H1,I1,r1,q1⟩;let(d,rfl,q):=q1;ext r1;show A64 ⟨H1,I1,q⟩
variable{rest:U η}
def ue(t u:TT):TT:=λ O H Q=>t O H λ c H1=>if c=Da then u O H1 Q else Q AT H1
def yQ(t u:TT):TT:=λ O H Q=>t O H λ c H1=>if c=Da then Q Da H1 else u O H1 Q
def fN(t:TT):TT:=λ O H Q=>t O H λ c H1=>Q (!c) H1
def pw_and1(ha:PT X a tA):PW X (.BoolOp .And [a] pos) tA:=by
 intro wh B s O H Q I h;show isTrue_and<|cj (ha B s O H Q I h) λ c s1 e=>?_;cases c with
 |true=>show isTrue_and_nil e
 |false=>show e
def pw_or1(ha:PT X a tA):PW X (.BoolOp .Or [a] pos) tA:=by
 intro wh B s O H Q I h;show isTrue_or<|cj (ha B s O H Q I h) λ c s1 e=>?_;cases c with
 |false=>show isTrue_or_nil e
 |true=>show e
def pw_and(ha:PT X a tA)(hb:PW X (.BoolOp .And (b::rest) pos) tB'):PW X (.BoolOp .And (a::b::rest) pos) (ue tA tB'):=by
 intro wh B s O H Q I h;show isTrue_and<|cj (ha B s O H _ I h) ?_;rintro c s1 ⟨H1,I1,q1⟩;cases c with
 |true=>show hb wh B s1 O H1 Q I1 q1
 |false=>show(H1,I1,q1,)
def pw_or(ha:PT X a tA)(hb:PW X (.BoolOp .Or (b::rest) pos) tB'):PW X (.BoolOp .Or (a::b::rest) pos) (yQ tA tB'):=by
 intro wh B s O H Q I h;show isTrue_or<|cj (ha B s O H _ I h) ?_;rintro c s1 ⟨H1,I1,q1⟩;cases c with
 |true=>show(H1,I1,q1,)
 |false=>show hb wh B s1 O H1 Q I1 q1
def Va(ha:PT X a tA):PT X (.UnaryOp .Not a pos) (fN tA):=by intro B s O H Q I h;show isTrue_not<|ha B s O H (λ c H1=>Q (!c) H1) I h
def ZG(ta tb:TE):TE:=λ O H Q=>ta O H λ x H1=>∃c,x=.bl c/\if c=Da then tb O H1 Q else Q (.bl AT) H1
def adH(ta tb:TE):TE:=λ O H Q=>ta O H λ x H1=>∃c,x=.bl c/\if c=Da then Q (.bl Da) H1 else tb O H1 Q
def Zx(ta:TE):TE:=λ O H Q=>ta O H λ x H1=>∃c,x=.bl c/\Q (.bl<|!c) H1
def KJ(h:PE X a t):PE X (.BoolOp op [a] pos) t:=λ B s O H Q I hw=>BoolOp_one<|h B s O H Q I hw
def KU(ha:PE X a ta)(hb:PE X (.BoolOp .And (b::rest) pos) tb):PE X (.BoolOp .And (a::b::rest) pos) (ZG ta tb):=by
 intro B s O H Q I h;show BoolOp_and<|cj (ha B s O H _ I h) ?_;rintro v s1 ⟨x,H1,I1,r1,q1⟩;let(c,rfl,q1):=q1;ext r1;show A64 ?_;cases c with
 |true=>show hb B s1 O H1 Q I1 q1
 |false=>show(.bl AT,H1,I1,rfl,q1,)
def Z8(ha:PE X a ta)(hb:PE X (.BoolOp .Or (b::rest) pos) tb):PE X (.BoolOp .Or (a::b::rest) pos) (adH ta tb):=by
 intro B s O H Q I h;show BoolOp_or<|cj (ha B s O H _ I h) ?_;rintro v s1 ⟨x,H1,I1,r1,q1⟩;let(c,rfl,q1):=q1;ext r1;show A64 ?_;cases c with
 |false=>show hb B s1 O H1 Q I1 q1
 |true=>show(.bl Da,H1,I1,rfl,q1,)
def Vh(ha:PE X a ta):PE X (.UnaryOp .Not a pos) (Zx ta):=by intro B s O H Q I h;show UnaryOp_<|cj (ha B s O H _ I h) ?_;rintro v s1 ⟨x,H1,I1,r1,q1⟩;let(c,rfl,q1):=q1;ext r1;show not_of<|A64 ⟨.bl<|!c,H1,I1,rfl,q1⟩
def tIf(t:TT)(ta tb:TE):TE:=λ O H Q=>t O H λ c H1=>if c=Da then ta O H1 Q else tb O H1 Q
def KQ(hc:PT X c tA)(ha:PE X a ta)(hb:PE X b tb):PE X (.IfExp c a b pos) (tIf tA ta tb):=by
 intro B s O H Q I h;show wpAny_IfExp<|cj (hc B s O H _ I h) ?_;rintro d s1 ⟨H1,I1,q1⟩;cases d with
 |true=>show ha B s1 O H1 Q I1 q1
 |false=>show hb B s1 O H1 Q I1 q1
end
def jO(K:Db)(H:Hp)(a:δ)(xs:U V):Prop:=
 Rd H a (.lst xs) \/
  ∃(o:μ)(a6:Array ζ)(n:Nat),K.lookup a=AC o/\o.cls=.type "list" /\ o.dict=Ch/\o.data=.seq a6 n/\a6.u<=sizeLine/\Vals xs a6.y
def nj(K:Db)(H:Hp)(a:δ)(xs:U V):Prop:=
 Rd H a (.tup xs) \/
  ∃(o:μ)(a6:Array ζ)(n:Nat),K.lookup a=AC o/\o.cls=.type "tuple" /\ (o.data=.seq a6 n/\o.dict=Ch/\o.slots=#[])/\a6.u<=sizeLine/\Vals xs a6.y
def agD:ζ->ε V
|.none=>AC .non
|.bool b=>AC<|.bl b
|.int i _=>AC<|.int i
|.str x _=>AC<|.str x
|.bytes b _=>AC<|.Y5 b
|.float b _=>AC<|.flt b
|.ref a=>AC<|.ref a
|.type n=>AC<|.ty n
|_=>Ch
def RelV.abs(r:RelV x u):agD u=AC x:=by
 cases x with
 |non=>ext r;rfl
 |bl _=>ext r;rfl
 |int _=>let(t,rfl):=r;rfl
 |str _=>let(t,rfl):=r;rfl
 |Y5 _=>let(t,rfl):=r;rfl
 |flt _=>let(t,rfl):=r;rfl
 |ref _=>ext r;rfl
 |ty _=>ext r;rfl
def RelV.inj(r:RelV x u)(q:RelV y u):x=y:=f8<|r.abs.symm.trans q.abs
def Vals.inj:∀{xs ys}{us},Vals xs us->Vals ys us->xs=ys:=by
 intro xs ys us h
 induction h generalizing ys with
 |nil=>intro h;ext h;rfl
 |cons r t ih=>intro h;cases h with|cons r' t'=>rw[r.inj r',ih t']
def jO.of{K:Db}(h:H a=AC (.lst xs)):jO K H a xs:=.inl<|.inl h
def nj.of{K:Db}(h:H a=AC (.tup xs)):nj K H a xs:=.inl<|.inl h
def Inv.list(I:Inv X B O H s)(h:jO X.K H a xs):∃a6,Vals xs a6/\PlainL s.heap a a6.q/\xs.n<=sizeLine:=by
 rcases h with h|⟨o,a6,n,hk,hc,hd,hs,hz,r⟩
 .let(z,a6,n,r,e):=h.ok I.bN;show(a6,r,(_,n,e,rfl,rfl,rfl,),z,)
 .refine⟨_,r,⟨o,n,I.jw a o hk,hc,hd,by calc hs⟩,?_⟩;let e:=r.n;erw[B50]at e;lia
def Inv.tuple(I:Inv X B O H s)(h:nj X.K H a xs):∃a6,Vals xs a6/\IsTup s.heap a a6.q/\xs.n<=sizeLine:=by
 rcases h with h|⟨o,a6,n,hk,hc,hs,hz,r⟩
 .let(z,a6,r,p):=h.ok I.bN;show(a6,r,p.is,z,)
 .refine⟨_,r,⟨o,I.jw a o hk,hc,n,by calc hs.1⟩,?_⟩;let e:=r.n;erw[B50]at e;lia
def Inv.pU(I:Inv X B O H s)(h:jO X.K H a xs)(h':jO X.K H a ys):xs=ys:=by
 let(a6,r,(o,n,e,_,_,d),_):=I.list h;let(BI,r',(o',n',e',_,_,d'),_):=I.list h';rw[e]at e';ext e';rw[d]at d';injection d' with d1 _
 let:a6=BI:=by simpa using A13 ZB d1
 subst this;show r.inj r'
def Inv.qE(I:Inv X B O H s)(h:nj X.K H a xs)(h':nj X.K H a ys):xs=ys:=by
 let(a6,r,(o,e,_,n,d),_):=I.tuple h;let(BI,r',(o',e',_,n',d'),_):=I.tuple h';rw[e]at e';ext e';rw[d]at d';injection d' with d1 _
 let:a6=BI:=by simpa using A13 ZB d1
 subst this;show r.inj r'
abbrev Cx.wish(X:Cx)(E:ζ->ι->Prop):Cx:={X with xe:=E}
abbrev Cx.fQ(X:Cx):Cx:=X.wish λ _ _=>False
theorem Cx.Ok.wish{X:Cx}(ok:X.Ok)(E:ζ->ι->Prop):(X.wish E).Ok:=
 ⟨ok.mod,ok.kind,ok.glob,ok.blt,ok.above,ok.inj,ok.has,ok.XW,ok.hd,ok.frames,ok.NS,ok.exf,ok.bs,ok.Nw,ok.Bq,ok.IF,ok.nB,ok.Rr⟩
def Cx.Ok.gB{X:Cx}(ok:(X.wish E).Ok):X.Ok:=
 ⟨ok.mod,ok.kind,ok.glob,ok.blt,ok.above,ok.inj,ok.has,ok.XW,ok.hd,ok.frames,ok.NS,ok.exf,ok.bs,ok.Nw,ok.Bq,ok.IF,ok.nB,ok.Rr⟩
def Inv.wish(I:Inv X B O H s)(E:ζ->ι->Prop):Inv (X.wish E) B O H s:=(I.ok.wish E,I.os,I.bare,I.a,I.loc,I.cell,I.free,I.gH,I.pin,I.bN,I.len,I.tab,)
def Inv.gB(I:Inv (X.wish E) B O H s):Inv X B O H s:=(I.ok.gB,I.os,I.bare,I.a,I.loc,I.cell,I.free,I.gH,I.pin,I.bN,I.len,I.tab,)
def SP.gB(h:SP (X.wish E) B D f s'):SP X B D f s':=by
 cases f with
 |next=>let(O',H',I,q):=h;show(O',H',I.gB,q,)
 |brk=>let(O',H',I,q):=h;show(O',H',I.gB,q,)
 |cont=>let(O',H',I,q):=h;show(O',H',I.gB,q,)
 |ret u=>let(v,O',H',I,r,q):=h;show(v,O',H',I.gB,r,q,)
def PE.fQ(h:PE X.fQ e t):PE X e t:=λ B s O H Q I hw=>A20 (h B s O H Q (I.wish _) hw) (by rintro _ _ ⟨v,H',I',r,q⟩;show(v,H',I'.gB,r,q,)) λ _ _ z=>GT z
def PT.fQ(h:PT X.fQ e t):PT X e t:=λ B s O H Q I hw=>A20 (h B s O H Q (I.wish _) hw) (by rintro _ _ ⟨H',I',q⟩;show(H',I'.gB,q,)) λ _ _ z=>GT z
def rq.fQ{st:U θ}(h:rq X.fQ st t):rq X st t:=λ B s O H D I hw=>A20 (h B s O H D (I.wish _) hw) (λ _ _ q=>q.gB) λ _ _ z=>GT z
section
variable{st:θ}{rest:U θ}
def Zy:TS:=λ D O H=>D.nx O H
def adF(t u:TS):TS:=λ D O H=>t {D with nx:=u D} O H
def FD:rq X [] Zy:=λ _ _ O H _ I h=>B51 ⟨O,H,I,h⟩
def j7(h1:PS X st t)(h2:rq X rest u):rq X (st::rest) (adF t u):=by
 intro B s O H D I h;show wpAny_execs_cons<|cj (h1 B s O H {D with nx:=u D} I h) λ f s1 q=>?_;cases f with
 |next=>let(O',H',I',q):=q;show h2 B s1 O' H' D I' q
 |ret v=>show q
 |brk=>show q
 |cont=>show q
def pF(h1:PS X st t):rq X [st] t:=by
 intro B s O H D I h;show wpAny_execs_cons<|cj (h1 B s O H D I h) λ f s1 q=>?_;cases f with
 |next=>show B51 q
 |ret v=>show q
 |brk=>show q
 |cont=>show q
def Inv.quiet(I:Inv X B O H s):interactive X.J=AT:=by simp[interactive,I.ok.kind]
def ZA(te:TE):TS:=λ D O H=>te O H λ _ H1=>D.nx O H1
def pG(he:PE X e te)(hs:swapsWith e Ch pos.line X.J=pure AT:=by rfl):PS X (.Expr e pos) (ZA te):=by intro B s O H D I h;show wpAny_Expr_any (cj (he B s O H _ I h) <|by rintro v s1 ⟨x,H1,I1,r1,q1⟩;show(O,H1,I1,q1,)) I.quiet hs
def adG(te:TE):TS:=λ D O H=>te O H D.rt
def Dx(he:PE X e te):PS X (.Return (AC e) pos) (adG te):=by intro B s O H D I h;show wpAny_Return_some<|cj (he B s O H _ I h) <|by rintro v s1 ⟨x,H1,I1,r1,q1⟩;show(x,O,H1,I1,r1,q1,)
def adJ(c:TT)(t u:TS):TS:=λ D O H=>c O H λ b H1=>if b=Da then t D O H1 else u D O H1
def FE(hc:PT X c tc)(ha:rq X a t)(hb:rq X b u):PS X (.If c a b pos) (adJ tc t u):=by
 intro B s O H D I h;show wpAny_If<|cj (hc B s O H _ I h) ?_;rintro d s1 ⟨H1,I1,q1⟩;cases d with
 |true=>show ha B s1 O H1 D I1 q1
 |false=>show hb B s1 O H1 D I1 q1
end
abbrev TG:=V->St->Hp->(St->Hp->Prop)->Prop
abbrev Yh:=U V->St->Hp->(St->Hp->Prop)->Prop
def PG(X:Cx)(target:η)(t:TG):Prop:=
 ∀ (B:U (δ×μ))(s:ι)(O:St)(H:Hp)(v:V)(u:ζ)(Q:St->Hp->Prop),Inv X B O H s->RelV v u->t v O H Q ->
  Ev (model X.prog X.w) X.A (assign target X.env u) (λ _ s'=>∃O' H',Inv X B O' H' s'/\Q O' H') X.xe s
def NJ(X:Cx)(ts:U η)(t:Yh):Prop:=
 ∀ (B:U (δ×μ))(s:ι)(O:St)(H:Hp)(vs:U V)(us:U ζ)(Q:St->Hp->Prop),Inv X B O H s->Vals vs us->t vs O H Q ->
  Ev (model X.prog X.w) X.A (assignInOrder ((assignEach ts X.J).map (·.2)) us) (λ _ s'=>∃O' H',Inv X B O' H' s'/\Q O' H') X.xe s
abbrev TIp:=V->V->Hp->VK->Prop
def PIp(X:Cx)(op:Operator)(t:TIp):Prop:=
 ∀ (B:U (δ×μ))(s:ι)(O:St)(H:Hp)(x y:V)(v u:ζ)(Q:VK),Inv X B O H s->RelV x v->RelV y u->t x y H Q ->
  Ev (model X.prog X.w) X.A (inplaceOp op v u) (EP X B O Q) X.xe s
def aJ(i:Nat):TG:=λ v O H Q=>Q (O.set i<|some v) H
def FG(hN:X.N.Nodup)(hi:X.N[i]?=AC x)(hx:Loc X.env.scope x)(hf:X.fn x=Da\/X.env.scope.names.lookup x=AC .local:=by first|show .inl rfl|show .inr rfl|assumption):PG X (.Name x pos) (aJ i):=by intro B s O H v u Q I r h;show wpAny_assign_Name<|pB I hN hi hx r (λ s' I'=>(_,H,I',h,)) hf
def af2:Yh:=λ vs O H Q=>vs=[]/\Q O H
def aaO(t:TG)(u:Yh):Yh:=λ vs O H Q=>∃v r,vs=v::r/\t v O H λ O' H'=>u r O' H' Q
def Pt:NJ X [] af2:=by intro B s O H vs us Q I r h;let(e,h):=h;subst e;ext r;show assignInOrder_nil ⟨O,H,I,h⟩
def Kz(h1:PG X e t)(h2:NJ X es u)
 (hs:(assignEach (e::es) X.J).map (·.2)=assign e X.J::(assignEach es X.J).map (·.2):=by rfl):NJ X (e::es) (aaO t u):=by
 intro B s O H vs us Q I r h;let(v,vr,e1,h):=h;subst e1;cases r with
 |cons r rr=>rw[hs];show assignInOrder_cons<|cj (h1 B s O H _ _ _ I r h) ?_;rintro _ s1 ⟨O1,H1,I1,q1⟩;show h2 B s1 O1 H1 _ _ Q I1 rr q1
def e_(K:Db)(n:Nat)(t:Yh):TG:=λ v O H Q=>∃a xs,v=.ref a/\nj K H a xs/\xs.n=n/\t xs O H Q
def KD(hc:X.calm=Da)(h:NJ X es t)
 (hn:(assignEach es X.J).length=n:=by rfl) (pZ:(assignEach es X.J).findIdx? (·.1)=Ch:=by rfl):PG X (.Tuple es k pos) (e_ X.K n t):=by
 intro B s O H v u Q I r hw;let(a,xs,e1,hq,hl,hw):=hw;subst e1;ext r;let(a6,rv,ht,hz):=I.tuple hq;show assign_Tuple_tuple (I.ok.hd hc) ht (by simp[hn,<-hl,rv.n]) pZ λ h' hx=>?_;let I1:=I.kept (t':=s.toks) λ b o e=>hx b o (A16<|A02 e) e;show h B _ O H xs _ Q I1 (by calc rv) hw
def ZF(te:TE)(g:TG):TS:=λ D O H=>te O H λ x H1=>g x O H1 D.nx
def Ve(he:PE X e te)(hg:PG X tg g)(hs:swapsWithSole [tg] e pos.line X.J=pure AT:=by rfl)(hw:swappedStores [tg] e X.J=pure Ch:=by rfl)
 (h1:(assignEach [tg] X.J).map (·.2)=[assign tg X.J]:=by rfl):PS X (.Assign [tg] e pos) (ZF te g):=by
 intro B s O H D I h;show wpAny_Assign_stores (cj (he B s O H _ I h) ?_) hs hw;rintro v s1 ⟨x,H1,I1,r1,q1⟩;rw[h1];show cj (hg B s1 O H1 x v _ I1 r1 q1) λ _ s2 q=>q
theorem ma(hN:X.N.Nodup)(hi:X.N[i]?=AC x)(hx:Loc X.env.scope x)(he:PE X e te)(hs:swapsWith e (AC<|.Name x pos') pos.line X.J=pure AT:=by rfl)(hf:X.fn x=Da\/X.env.scope.names.lookup x=AC .local:=by first|show .inl rfl|show .inr rfl|assumption):
 PS X (.Assign [.Name x pos'] e pos) (ZF te<|aJ i):=by
 intro B s O H D I h;show wpAny_Assign_Name (cj (he B s O H _ I h) ?_) hs;rintro v s1 ⟨y,H1,I1,r1,q1⟩;show pB I1 hN hi hx r1 (λ s2 I2=>(_,H1,I2,q1,)) hf
def adO(i:Nat)(te:TE)(ti:TIp):TS:=λ D O H=>∃x,O[i]?=AC (AC x)/\te O H λ y H1=>ti x y H1 λ z H2=>D.nx (O.set i<|some z) H2
theorem Vd(hN:X.N.Nodup)(hi:X.N[i]?=AC x)(hx:Loc X.env.scope x)(he:PE X e te)(ho:PIp X op ti)(hf:X.fn x=Da\/X.env.scope.names.lookup x=AC .local:=by first|show .inl rfl|show .inr rfl|assumption) :
 PS X (.AugAssign (.Name x pos') op e pos) (adO i te ti):=by
 intro B s O H D I h;let(v,e1,h):=h;let(m,hn,hl):=I.loc;let vis:NH X.env.scope x:=by rcases hx with k|k;show .inl k;show .inr<|.inl k
 let(u,r,l):=hl i x v hi e1 vis;show wpAny_AugAssign_Name ?_;let go:Ev (model X.prog X.w) X.A (eval e X.J) (λ w s₂=>Ev (model X.prog X.w) X.A (inplaceOp op u w) (λ r s₃=>Ev (model X.prog X.w) X.A (storeName X.env x r) (λ _=>SP X B D .next) X.xe s₃) X.xe s₂) X.xe s:=by show cj (he B s O H _ I h) ?_;rintro w s1 ⟨y,H1,I1,r1,q1⟩;show cj (ho B s1 O H1 v y u w _ I1 r r1 q1) ?_;rintro z s2 ⟨zv,H2,I2,r2,q2⟩;show pB I2 hN hi hx r2 (λ s3 I3=>(_,H2,I3,q2,)) hf
 rcases l with⟨hk,hm⟩|⟨hk,c,hc,rS⟩
 .exact wpAny_loadName_local I.ok.kind hk hn hm go
 .rcases hk with hk|hk
  .exact wpAny_loadName_cell I.ok.kind hk hc rS go
  .rcases hx with k|k
   .let:X.env.scope.names.lookup x=AC .free:=hk;rw[k]at this;ext this
   .let:X.env.scope.names.lookup x=AC .free:=hk;rw[k]at this;ext this
structure It where
 go:Nat->Hp->Prop
 CH:Nat->Hp->V->Hp->Prop
 stop:Nat->Hp->Prop
def qr(X:Cx)(B:U (δ×μ))(H:Hp)(b:δ):Prop:=
 H b=Ch/\b≠X.J.i/\b∉X.fs/\(b∈X.ex\/X.s₀.t<=b)/\(∀x c,X.env.cells.lookup x=AC c->c≠b)/\∀p∈X.pn++B,p.1≠b
def Inv.va(I:Inv X B O H s)(hb:s.t<=b)(hn:H' b=Ch):qr X B H' b:=by
 show(hn,A47<|A19 I.lt hb,I.VS hb,.inr<|A14 I.sz hb,λ x c e z=>?_,λ p hp z=>?_,)
 .let(v,q):=I.cell x c e;show absurd (A19 q.lt (by rw[z];show hb))<|A88 _
 .exact absurd (A19 (A02 (I.pin p hp).1) (by rw[z];show hb))<|A88 _
structure Turn(P:Program)(w:World)(K:Db)(tg:Expr)(J:It)(fp:List Addr)(it:Addr)(tn:Nat->Heap->Prop):Prop where
 mem:it∈fp
 obj:∀i h,tn i h->∀b∈fp,∃o,h.get? b=AC o/\∀v,o.data≠.cell v
 keep:∀i h h',tn i h->(∀b∈fp,∀o,h.get? b=AC o->h'.get? b=AC o)->tn i h'
 item:∀(X:Cx),X.prog=P->X.w=w->X.K=K->X.calm=Da->∀(i:Nat)(B:List (Addr×Obj))(s:Shared)(O:St)(H:Hp)(E:Value->Shared->Prop),Inv X B O H s->(∀b∈fp,qr X B H b)->tn i s.e->J.go i H ->
  Ev (model P w) X.A (pyNext<|.ref it) (λ r s1=>∃u,r=AC u /\
   Ev (model P w) X.A (letOwnedTupleGo tg (.ref it) u) (λ _ s2=>∃x H',Inv X B O H' s2/\RelV x u/\J.CH i H x H'/\tn (i+1) s2.e/\∀b∈fp,H' b=Ch) E s1) E s
 done:∀(X:Cx),X.prog=P->X.w=w->X.K=K->X.calm=Da->∀(i:Nat)(B:List (Addr×Obj))(s:Shared)(O:St)(H:Hp)(E:Value->Shared->Prop),Inv X B O H s->(∀b∈fp,qr X B H b)->tn i s.e->J.stop i H ->
  Ev (model P w) X.A (pyNext<|.ref it) (λ r s1=>r=Ch/\Inv X B O H s1) E s
 self:∀(A:Around)(i:Nat)(s:Shared)(Q:Value->Shared->Prop)(E:Value->Shared->Prop),tn i s.e->Q (.ref it) s->Ev (model P w) A (pyIter<|.ref it) Q E s
abbrev TI:=St->Hp->(It->Hp->Prop)->Prop
def PIE(X:Cx)(B:U (δ×μ))(O:St)(tg:η)(R:It->Hp->Prop)(itv:ζ)(s2:ι):Prop:=
 ∃(it:δ)(fp:U δ)(tn:Nat->ν->Prop)(J:It)(H':Hp),itv=.ref it/\Inv X B O H' s2/\Turn X.prog X.w X.K tg J fp it tn/\tn 0 s2.e/\(∀b∈fp,qr X B H' b)/\R J H'
def PI(X:Cx)(tg iter:η)(wi:TI):Prop:=
 ∀ (B:U (δ×μ))(s:ι)(O:St)(H:Hp)(R:It->Hp->Prop),Inv X B O H s->wi O H R ->
  Ev (model X.prog X.w) X.A (eval iter X.J) (λ v s1=>Ev (model X.prog X.w) X.A (pyIter v) (PIE X B O tg R) X.xe s1) X.xe s
def ya(ho:s.heap.get? it=AC o)(hc:o.cls=.type n)(hd:o.data=.fields vs)
    (hn:["enumerate","zip","dict_itemiterator","dict_reverseitemiterator","odict_iterator","itertools.zip_longest","itertools.pairwise"].contains n=AT) (hQ:Q () s):Ev M A (letOwnedTupleGo tg (.ref it) u) Q E s:=by
  ext tg<;>first
    |show v6 hQ
    | (ext u<;>first
        |show v6 hQ
        | (show T0<|wpAny_load ho ?_
           rw[hc,hd];change Ev M A (if(["enumerate","zip","dict_itemiterator","dict_reverseitemiterator","odict_iterator","itertools.zip_longest","itertools.pairwise"].contains n&&vs[0]?==AC _)=Da then _ else _) Q E s;rw[W1 (by intro h;rw[hn,Bool.false_and]at h;ext h)];show v6 hQ))
def Itl(K:Db)(a:δ):It:=
 ⟨λ i H=>∃xs x,jO K H a xs/\xs[i]?=AC x,λ i H x H'=>H'=H/\∀xs,jO K H a xs->xs[i]?=AC x,λ i H=>∃xs,jO K H a xs/\xs.n<=i⟩
def Itt(K:Db)(a:δ):It:=
 ⟨λ i H=>∃xs x,nj K H a xs/\xs[i]?=AC x,λ i H x H'=>H'=H/\∀xs,nj K H a xs->xs[i]?=AC x,λ i H=>∃xs,nj K H a xs/\xs.n<=i⟩
def Uu(lo:Int)(n:Nat):It:=(λ i _=>i<n,λ i H x H'=>H'=H/\x=.int (lo+i),λ i _=>n<=i,)
def Hf{K:Db}(a it:δ):Turn P w K tg (Itl K a) [it] it (λ i h=>h.IsListIter it a i) where
 mem:=by simp
 obj:=λ i h st b hb=>by
  let e:b=it:=by simpa using hb
  subst e;let(o,e,c,d):=st;show⟨o,e,λ v z=>by rw[d]at z;ext z⟩
 keep:=λ i h h' st k=>st.at λ o e=>k it ∅ o e
 item:=by intro X hP hw hK hc i B s O H E I hf st hg;subst hP hw hK;let(xs,x,hq,hx):=hg;let(a6,rv,p,hz):=I.list hq;let(u,hu,ru):=rv.get hx;let(f0,f1,f2,f3,f4,f5):=hf it ∅;show wpAny_pyNext_list_item st p.isList (by calc hu) λ h' xB sb=>?_;let I1:=I.turned (t':=s.toks) (λ b o hb e=>(sb.2 b hb).trans e) f0 f1 f3 f4 f5;let(o,e,c,d):=id xB;show(u,rfl,ya e c d ∅ ⟨x,H,I1,ru,⟨rfl,λ ys hy=>by rw[I.pU hy hq];show hx⟩,xB,λ b hb=>(hf b hb).1⟩,)
 done:=by intro X hP hw hK hc i B s O H E I hf st hg;subst hP hw hK;let(xs,hq,hx):=hg;let(a6,rv,p,hz):=I.list hq;let(f0,f1,f2,f3,f4,f5):=hf it ∅;let hl:=rv.n;show wpAny_pyNext_list_end (I.ok.hd hc) st p.isList (by simp;lia) λ h' eb=>(rfl,I.turned (λ b o hb e=>eb b o hb e) f0 f1 f3 f4 f5,)
 self:=λ _ _ _ _ _ st h=>wpAny_pyIter_listiter st h
def C9{K:Db}(a it:δ):Turn P w K tg (Itt K a) [it] it (λ i h=>h.IsTupleIter it a i) where
 mem:=by simp
 obj:=λ i h st b hb=>by
  let e:b=it:=by simpa using hb
  subst e;let(o,e,c,d):=st;show⟨o,e,λ v z=>by rw[d]at z;ext z⟩
 keep:=λ i h h' st k=>st.at λ o e=>k it ∅ o e
 item:=by intro X hP hw hK hc i B s O H E I hf st hg;subst hP hw hK;let(xs,x,hq,hx):=hg;let(a6,rv,p,hz):=I.tuple hq;let(u,hu,ru):=rv.get hx;let(f0,f1,f2,f3,f4,f5):=hf it ∅;show wpAny_pyNext_tuple_item st (p) (by calc hu) λ h' xB sb=>?_;let I1:=I.turned (t':=s.toks) (λ b o hb e=>(sb.2 b hb).trans e) f0 f1 f3 f4 f5;let(o,e,c,d):=id xB;show(u,rfl,ya e c d ∅ ⟨x,H,I1,ru,⟨rfl,λ ys hy=>by rw[I.qE hy hq];show hx⟩,xB,λ b hb=>(hf b hb).1⟩,)
 done:=by intro X hP hw hK hc i B s O H E I hf st hg;subst hP hw hK;let(xs,hq,hx):=hg;let(a6,rv,p,hz):=I.tuple hq;let(f0,f1,f2,f3,f4,f5):=hf it ∅;let hl:=rv.n;show wpAny_pyNext_tuple_end (I.ok.hd hc) st (p) (by simp;lia) λ h' eb=>(rfl,I.turned (λ b o hb e=>eb b o hb e) f0 f1 f3 f4 f5,)
 self:=λ _ _ _ _ _ st h=>wpAny_pyIter_tupleiter st h
def C!{K:Db}(it:δ)(lo:Int)(n:Nat):Turn P w K tg (Uu lo n) [it] it (λ i h=>IsRangeIter h it (lo+(i)*1) ((n)-(i)) 1) where
 mem:=by simp
 obj:=λ i h st b hb=>by
  let e:b=it:=by simpa using hb
  subst e;show⟨_,st,λ v z=>by let z':=z;ext z'⟩
 keep:=λ i h h' st k=>k it ∅ _ st
 item:=by intro X hP hw hK hc i B s O H E I hf st hg;subst hP hw hK;let(f0,f1,f2,f3,f4,f5):=hf it ∅;let W:=Walks.range (prog:=X.prog) (w:=X.w) (I.ok.hd hc) it lo 1 n;show W.item i s _ _ hg st λ v h' tk hv xB kk=>?_;let(t,rfl):=hv;let I1:Inv X B O H {s with heap:=h',toks:=tk}:=I.turned (λ b o hb e=>kk b o (by calc hb) e) f0 f1 f3 f4 f5;show(_,rfl,ya xB rfl rfl ∅ ⟨.int<|lo+i,H,I1,⟨t,?_⟩,⟨rfl,rfl⟩,xB,λ b hb=>(hf b hb).1⟩,);rw[B52]
 done:=by intro X hP hw hK hc i B s O H E I hf st hg;subst hP hw hK;let(f0,f1,f2,f3,f4,f5):=hf it ∅;show wpAny_pyNext_range_end (I.ok.hd hc) st (by let:n<=i:=hg;lia) λ h' eb=>(rfl,I.turned (λ b o hb e=>eb b o hb e) f0 f1 f3 f4 f5,)
 self:=λ _ _ _ _ _ st h=>wpAny_pyIter_rangeiter st h
def fT(ta:TA):TI:=λ O H R=>ta O H λ vs H1=>∃j:Int,vs=[.int j]/\-(2^62)<=j/\j<2^62/\R (Uu 0 j.v) H1
def BN(ta:TA):TI:=λ O H R=>ta O H λ vs H1=>∃i j:Int,vs=[.int i,.int j]/\(-(2^62)<=i/\i<2^62/\-(2^62)<=j/\j<2^62)/\R (Uu i (j-i).toNat) H1
def adK(wi:TI)(g:TG)(tb:TS):TS:=λ D O H=>wi O H λ J H1=>∃W:Nat->Nat->St->Hp->Prop,(∃m,W 0 m O H1)/\∀i m O H,W i m O H ->
 (J.stop i H/\D.nx O H)\/(J.go i H/\∃N:St->Hp->Prop,(∀O' H',N O' H'->∃m',m'<m/\W (i+1) m' O' H')/\∀x H',J.CH i H x H'->g x O H' λ O2 H2=>tb {D with nx:=N,ct:=N,bk:=D.nx} O2 H2)
def uz(fp:U δ)(h:ν):U (δ×μ):=fp.filterMap λ b=>(h.get? b).map λ o=>(b,o)
def kM(hb:b∈fp)(e:h.get? b=AC o):(b,o)∈uz fp h:=B84.mpr ⟨b,hb,by rw[e];rfl⟩
def HQ(hp:p∈uz fp h):p.1∈fp/\h.get? p.1=AC p.2:=by
 let(b,hb,e):=B84.mp hp;cases q:h.get? b with
 |none=>rw[q]at e;ext e
 |some o=>rw[q]at e;let e':=f8 e;subst e';show(hb,q,)
def Inv.pinned(I:Inv X B O H s)(hf:∀b∈fp,qr X B H b)(ho:∀b∈fp,∃o,s.heap.get? b=AC o/\∀v,o.data≠.cell v):Inv X (B++uz fp s.e) O H s:=
 I.FF λ p hp=>(A34.mp hp).elim (λ z=>I.pin p<|A43 _ z) λ z=>by let(hb,e):=HQ z;let(f0,f1,f2,_):=hf p.1 hb;let(o,e',d):=ho p.1 hb;rw[e]at e';ext e';show(e,f0,f1,f2,d,)
def Inv.o_(I:Inv X (B++pl) O H s):Inv X B O H s:=I.FF λ p hp=>I.pin p<|A43 _<|A73 _ hp
def Kw(hp:PassesOwn (model X.prog X.w) X.A X.env X.xe)(hc:X.calm=Da)(hi:PI X tg iter wi)(hg:PG X tg g)(hb:rq X body tb)
 (hs:Fi iter X.J:=by intro _;rfl):PS X (.For tg iter body [] pos) (adK wi g tb):=by
 intro B s O H D I h;show wpAny_For (cj (hi B s O H _ I h) λ v s1 h1=>cj h1 λ itv s2 h2=>?_) hs;let(it,fp,tn,J,H2,e,I2,T,NT,f2,W,(m0,w0),turn):=h2;subst e
 let Di:∀{H'},(∀b∈fp,H' b=Ch)->∀b∈fp,qr X B H' b:=λ hn b hb=>(hn b hb,(f2 b hb).2,)
 show codeAny_forLoop_any (λ n s'=>∃i O' H',Inv X B O' H' s'/\tn i s'.e/\(∀b∈fp,H' b=Ch)/\W i n O' H') ?_ m0 ⟨0,O,H2,I2,NT,λ b hb=>(f2 b hb).1,w0⟩;rintro n s3 ⟨i,O3,H3,I3,Tg,fr3,w3⟩;rcases turn i n O3 H3 w3 with⟨stop,qn⟩|⟨go,N,hN,step⟩
 .refine B27 hp<|cj (T.done X rfl rfl rfl hc i B s3 O3 H3 X.xe I3 (Di fr3) Tg stop) ?_;rintro r s4 ⟨hr,I4⟩;subst hr;show B51 ⟨O3,H3,I4,qn⟩
 .refine B27 hp<|cj (T.item X rfl rfl rfl hc i B s3 O3 H3 X.xe I3 (Di fr3) Tg go) ?_;rintro r s4 ⟨u,hr,h4⟩;subst hr;show B27 hp<|cj h4 ?_;rintro _ s5 ⟨x,H5,I5,r5,y5,yT,fr5⟩;let I5':=I5.pinned (Di fr5)<|T.obj _ _ yT;show B27 hp<|cj (hg _ s5 O3 H5 x u _ I5' r5<|step x H5 y5) ?_;rintro _ s6 ⟨O6,H6,I6,q6⟩;show B27 hp<|cj (hb _ s6 O6 H6 _ I6 q6) λ f s7 q7=>?_;let again:∀{O7}{H7},Inv X (B++uz fp s5.e) O7 H7 s7->N O7 H7->∃m,m<n/\∃i O' H',Inv X B O' H' s7/\tn i s7.e/\(∀b∈fp,H' b=Ch)/\W i m O' H':=λ {O7 H7} I7 n7=>by let(m',hm,w7):=hN O7 H7 n7;show(m',hm,i+1,O7,H7,I7.o_,T.keep _ _ _ yT λ b hb o e=>(I7.pin (b,o)<|A43 _<|A43 _<|kM hb e).1,λ b hb=>?_,w7,);let(o,e,d):=T.obj _ _ yT b hb;show(I7.pin (b,o)<|A43 _<|A43 _<|kM hb e).2.1
  cases f with
  |next=>let(O7,H7,I7,n7):=q7;show again I7 n7
  |cont=>let(O7,H7,I7,n7):=q7;show again I7 n7
  |brk=>let(O7,H7,I7,q7):=q7;show(O7,H7,I7.o_,q7,)
  |ret v=>let(x7,O7,H7,I7,r7,q7):=q7;show(x7,O7,H7,I7.o_,r7,q7,)
abbrev R2:=V->V->Hp->VK->Prop
def jx(X:Cx)(f:ζ->ζ->Sem ζ)(r:R2):Prop:=
 ∀ (B:U (δ×μ))(s:ι)(O:St)(H:Hp)(x y:V)(v u:ζ)(Q:VK),Inv X B O H s->RelV x v->RelV y u->r x y H Q ->
  Ev (model X.prog X.w) X.A (f v u) (EP X B O Q) X.xe s
def UnR(X:Cx)(f:ζ->Sem ζ)(r:V->Hp->VK->Prop):Prop:=
 ∀ (B:U (δ×μ))(s:ι)(O:St)(H:Hp)(x:V)(v:ζ)(Q:VK),Inv X B O H s->RelV x v->r x H Q ->
  Ev (model X.prog X.w) X.A (f v) (EP X B O Q) X.xe s
def kz(X:Cx)(f:ζ)(r:U V->Hp->VK->Prop):Prop:=
 ∀ (B:U (δ×μ))(s:ι)(O:St)(H:Hp)(xs:U V)(us:U ζ)(Q:VK),Inv X B O H s->Vals xs us->r xs H Q ->
  Ev (model X.prog X.w) X.A (call f us) (EP X B O Q) X.xe s
def OS(r:R2)(ta tb:TE):TE:=λ O H Q=>ta O H λ x H1=>tb O H1 λ y H2=>r x y H2 Q
def tUn(r:V->Hp->VK->Prop)(ta:TE):TE:=λ O H Q=>ta O H λ x H1=>r x H1 Q
def rI(C:Int->Int->Prop)(g:Int->Int->V):R2:=λ x y H Q=>∃i j,x=.int i/\y=.int j/\C i j/\Q (g i j) H
def Kt(g:Int->Int->V):R2:=λ x y H Q=>∃i j,x=.int i/\y=.int j/\Q (g i j) H
def rU(g:Int->V):V->Hp->VK->Prop:=λ x H Q=>∃i,x=.int i/\Q (g i) H
def X8(ha:PE X a ta)(hb:PE X b tb){R:V->V->Hp->Prop}(I:Inv X B O H s)
 (h:ta O H λ x H1=>tb O H1 λ y H2=>R x y H2){f:ζ->ζ->Sem ζ}
 (hf:∀v u s2 x y H2,Inv X B O H2 s2->RelV x v->RelV y u->R x y H2->Ev (model X.prog X.w) X.A (f v u) Q X.xe s2) :
 Ev (model X.prog X.w) X.A (eval a X.J) (λ v s₁=>Ev (model X.prog X.w) X.A (eval b X.J) (λ u s₂=>Ev (model X.prog X.w) X.A (f v u) Q X.xe s₂) X.xe s₁) X.xe s:=by
 show cj (ha B s O H _ I h) ?_;rintro v s1 ⟨x,H1,I1,r1,q1⟩;show cj (hb B s1 O H1 _ I1 q1) ?_;rintro u s2 ⟨y,H2,I2,r2,q2⟩;show hf v u s2 x y H2 I2 r1 r2 q2
def FH(ho:jx X (binaryOp op) r)(ha:PE X a ta)(hb:PE X b tb):PE X (.BinOp a op b pos) (OS r ta tb):=by intro B s O H Q I h;show wpAny_BinOp<|X8 ha hb I h λ v u s2 x y H2 I2 rx ry q=>ho B s2 O H2 x y v u Q I2 rx ry q
def Z7(ho:UnR X (unaryOp op) r)(ha:PE X a ta):PE X (.UnaryOp op a pos) (tUn r ta):=by intro B s O H Q I h;show UnaryOp_<|cj (ha B s O H _ I h) <|by rintro v s1 ⟨x,H1,I1,r1,q1⟩;show ho B s1 O H1 x v Q I1 r1 q1
theorem _a{g:Int->Int->Int}
 (rule:∀i j t u s Q E,C i j->Q (.int (g i j) s.toks) {s with toks:=s.toks+1}->Ev (model X.prog X.w) X.A (f (.int i t)<|.int j u) Q E s) :
 jx X f (rI C λ i j=>.int<|g i j):=by
 intro B s O H x y v u Q I rx ry h;let(i,j,rfl,rfl,hc,q):=h;let(t,rfl):=rx;let(t',rfl):=ry;show rule i j t t' s _ _ hc ⟨.int _,H,I.tok _,⟨_,rfl⟩,q⟩
theorem Vy{g:Int->Int->Int}
 (rule:∀i j t u s Q E,Q (.int (g i j) s.toks) {s with toks:=s.toks+1}->Ev (model X.prog X.w) X.A (f (.int i t)<|.int j u) Q E s) :
 jx X f (Kt λ i j=>.int<|g i j):=by
 intro B s O H x y v u Q I rx ry h;let(i,j,rfl,rfl,q):=h;let(t,rfl):=rx;let(t',rfl):=ry;show rule i j t t' s _ _ ⟨.int _,H,I.tok _,⟨_,rfl⟩,q⟩
def PL{g:Int->Int->Bool}
 (rule:∀i j t u s Q E,Q (.bool<|g i j) s->Ev (model X.prog X.w) X.A (f (.int i t)<|.int j u) Q E s) :
 jx X f (Kt λ i j=>.bl<|g i j):=by
 intro B s O H x y v u Q I rx ry h;let(i,j,rfl,rfl,q):=h;let(t,rfl):=rx;let(t',rfl):=ry;show rule i j t t' s _ _ ⟨.bl _,H,I,rfl,q⟩
def agU(i j:Int):Prop:=0<=j/\j<=1000000/\i.natAbs<2^64
def Vx:jx X (binaryOp .Add) (Kt λ i j=>.int<|i+j):=Vy λ _ _ _ _ _ _ _ q=>add_int q
def Vq:jx X (binaryOp .Sub) (Kt λ i j=>.int<|i-j):=Vy λ _ _ _ _ _ _ _ q=>sub_int q
def Vu:jx X (binaryOp .Mod) (rI (λ _ j=>0<j) λ i j=>.int<|i % j):=_a λ i j _ _ _ _ _ hc q=>by show mod_int' ∅ (by rw[Int.fmod_eq_emod_of_nonneg i ∅];show q)
def Vt:jx X (binaryOp .Pow) (rI agU λ i j=>.int<|i^j.v):=_a λ _ _ _ _ _ _ _ hc q=>pow_int_small hc.1 hc.2.1 hc.2.2 q
def Q5:jx X (inplaceOp .Add) (Kt λ i j=>.int<|i+j):=Vy λ _ _ _ _ _ _ _ q=>iadd_int q
theorem unI{g:Int->Int}
 (rule:∀i t s Q E,Q (.int (g i) s.toks) {s with toks:=s.toks+1}->Ev (model X.prog X.w) X.A (f<|.int i t) Q E s) :
 UnR X f (rU λ i=>.int<|g i):=by
 intro B s O H x v Q I rx h;let(i,rfl,q):=h;let(t,rfl):=rx;show rule i t s _ _ ⟨.int _,H,I.tok _,⟨_,rfl⟩,q⟩
def UL:UnR X (unaryOp .USub) (rU λ i=>.int<|-i):=unI λ _ _ _ _ _ q=>neg_int q
def ve(I:Inv X B O H s)(q:Q (.bl k) H)(e:k=k'):EP X B O Q (.bool k') s:=by subst e;show(.bl k,H,I,rfl,q,)
def Z':jx X (compareOp .Lt) (Kt λ i j=>.bl<|decide<|i<j):=PL λ _ _ _ _ _ _ _ q=>lt_int q
def Z!:jx X (compareOp .LtE) (Kt λ i j=>.bl<|decide<|i<=j):=PL λ _ _ _ _ _ _ _ q=>le_int q
def Z?:jx X (compareOp .Gt) (Kt λ i j=>.bl<|decide<|j<i):=PL λ _ _ _ _ _ _ _ q=>gt_int q
def Z_:jx X (compareOp .GtE) (Kt λ i j=>.bl<|decide<|j<=i):=PL λ _ _ _ _ _ _ _ q=>ge_int q
def HJ:jx X (compareOp .In) (λ x y H Q=>∃i j,x=.str i/\y=.str j/\Q (.bl<|!(Fk j i 0 j.length 1).isEmpty) H):=by intro B s O H x y v u Q I rx ry h;let(i,j,rfl,rfl,q):=h;let(t,rfl):=rx;let(t',rfl):=ry;show in_str<|ve I q rfl
def Vv:jx X (compareOp .Is) (λ x y H Q=>y=.non/\Q (.bl<|decide<|x=.non) H):=by
 intro B s O H x y v u Q I rx ry h;let(rfl,q):=h;ext ry;show is_none_gen<|ve I q ?_;ext x<;>first
  |(ext rx;rfl)
  |(let(t,rfl):=rx;rfl)
def sX:jx X (compareOp .IsNot) (λ x y H Q=>y=.non/\Q (.bl<|!decide (x=.non)) H):=by
 intro B s O H x y v u Q I rx ry h;let(rfl,q):=h;ext ry;show isnot_none_gen<|ve I q ?_;ext x<;>first
  |(ext rx;rfl)
  |(let(t,rfl):=rx;rfl)
def zd:jx X (compareOp .NotIn) (λ x y H Q=>∃i j,x=.str i/\y=.str j/\Q (.bl<|!(!(Fk j i 0 j.length 1).isEmpty)) H):=by intro B s O H x y v u Q I rx ry h;let(i,j,rfl,rfl,q):=h;let(t,rfl):=rx;let(t',rfl):=ry;show notIn_str<|ve I q rfl
def jx.or(h:jx X f r)(h':jx X f r'):jx X f (λ x y H Q=>r x y H Q\/r' x y H Q):=by
 intro B s O H x y v u Q I rx ry q;rcases q with q|q
 .exact h B s O H x y v u Q I rx ry q
 .exact h' B s O H x y v u Q I rx ry q
def iF(b:η)(h:op≠.In:=by decide)(h2:op≠.NotIn:=by decide):behindInMarks op b=AT:=by
 let e1:(op==CmpOp.In)=AT:=by ext op<;>first|rfl|show absurd rfl h
 let e2:(op==CmpOp.NotIn)=AT:=by ext op<;>first|rfl|show absurd rfl h2
 ext b<;>simp[behindInMarks,e1,e2]
def pJ(ho:jx X (compareOp op) r)(ha:PE X a ta)(hb:PE X b tb)(hm:behindInMarks op b=AT):PE X (.Compare a [op] [b] pos) (OS r ta tb):=by intro B s O H Q I h;show wpAny_Compare1 (X8 ha hb I h λ v u s2 x y H2 I2 rx ry q=>ho B s2 O H2 x y v u Q I2 rx ry q) hm
def Fp(t:TE):TT:=λ O H Q=>t O H λ x H'=>∃k,x=.bl k/\Q k H'
def sW(ho:jx X (compareOp op) r)(ha:PE X a ta)(hb:PE X b tb)(hm:behindInMarks op b=AT):PT X (.Compare a [op] [b] pos) (Fp<|OS r ta tb):=by
 intro B s O H Q I h;show wpAny_isTrue_Compare1 (cj (ha B s O H _ I h) λ v s1 ⟨x,H1,I1,r1,q1⟩=>cj (hb B s1 O H1 _ I1 q1) λ u s2 ⟨y,H2,I2,r2,q2⟩=>cj (ho B s2 O H2 x y v u _ I2 r1 r2 q2) ?_) hm;rintro c s3 ⟨z,H3,I3,r3,k,e,q3⟩
 subst e;ext r3;show A64 ⟨H3,I3,q3⟩
def Dg(r r':R2)(ta tb tc:TE):TE:=λ O H Q=>ta O H λ x H1=>tb O H1 λ y H2=>r x y H2 λ z H3=>∃k,z=.bl k /\
 (if k=Da then tc O H3 λ w' H4=>r' y w' H4 Q else Q (.bl AT) H3)
def KR(ho:jx X (compareOp op) r)(p5:jx X (compareOp HK) r')(ha:PE X a ta)(hb:PE X b tb)(hc:PE X c tc)
 (hm:lastMarks [op,HK] [b,c]=AT:=by with_unfolding_all rfl):PE X (.Compare a [op,HK] [b,c] pos) (Dg r r' ta tb tc):=by
 intro B s O H Q I h;show Compare_chain (cj (ha B s O H _ I h) λ v s1 ⟨x,H1,I1,r1,q1⟩=>chain_link<|cj (hb B s1 O H1 _ I1 q1) λ u s2 ⟨y,H2,I2,r2,q2⟩=>cj (ho B s2 O H2 x y v u _ I2 r1 r2 q2) ?_) hm;rintro d s3 ⟨z,H3,I3,r3,k,e,q3⟩
 subst e;ext r3;show A64 ?_;cases k with
 |false=>show ite_ff ⟨.bl AT,H3,I3,rfl,q3⟩
 |true=>show ite_tt<|chain_last<|cj (hc B s3 O H3 _ I3 q3) <|by rintro w' s4 ⟨z',H4,I4,r4,q4⟩;show p5 B s4 O H4 y z' u w' Q I4 r2 r4 q4
def Kv(ho:jx X (compareOp op) r)(p5:jx X (compareOp HK) r')(ha:PE X a ta)(hb:PE X b tb)(hc:PE X c tc)
 (hm:lastMarks [op,HK] [b,c]=AT:=by with_unfolding_all rfl):PT X (.Compare a [op,HK] [b,c] pos) (Fp<|Dg r r' ta tb tc):=by
 intro B s O H Q I h;show isTrue_chain (cj (ha B s O H _ I h) λ v s1 ⟨x,H1,I1,r1,q1⟩=>test_link<|cj (hb B s1 O H1 _ I1 q1) λ u s2 ⟨y,H2,I2,r2,q2⟩=>cj (ho B s2 O H2 x y v u _ I2 r1 r2 q2) ?_) hm;rintro d s3 ⟨z,H3,I3,r3,k,e,q3⟩
 subst e;ext r3;show A64 ?_;cases k with
 |false=>let(k',e',q'):=q3;ext e';show ite_ff ⟨H3,I3,q'⟩
 |true=>show ite_tt<|test_last<|cj (hc B s3 O H3 _ I3 q3) λ w' s4 ⟨z',H4,I4,r4,q4⟩=>cj (p5 B s4 O H4 y z' u w' _ I4 r2 r4 q4) ?_;rintro d' s5 ⟨z2,H5,I5,r5,k2,e2,q5⟩;subst e2;ext r5;show A64 ⟨H5,I5,q5⟩
def zB:(sizeLine)<2^63:=by rw[A26];decide
def DF:jx X (binaryOp .Add) (λ x y H Q=>∃i j,x=.str i/\y=.str j/\i.n+j.n<=sizeLine/\Q (.str<|i++j) H):=by intro B s O H x y v u Q I rx ry h;let(i,j,rfl,rfl,hz,q):=h;let(t,rfl):=rx;let(t',rfl):=ry;show add_str (λ t' tk=>(.str _,H,I.tok _,(_,rfl,),q,)) hz
def vals1(r:Vals [x] us):∃u,us=[u]/\RelV x u:=by
 cases r with
 |cons r1 r2=>ext r2;show(_,rfl,r1,)
def vals2(r:Vals [x,y] us):∃u w',us=[u,w']/\RelV x u/\RelV y w':=by
 cases r with
 |cons r1 r2=>
  cases r2 with
  |cons r3 r4=>ext r4;show(_,_,rfl,r1,r3,)
def Je(hc:X.calm=Da):kz X (.builtin "max") (λ xs H Q=>∃i j,xs=[.int i,.int j]/\Q (.int<|if j>i then j else i) H):=by
 intro B s O H xs us Q I r h;let(i,j,rfl,q):=h;let(u,w',rfl,(t,rfl),(t',rfl)):=vals2 r;show max_two_ints (I.ok.hd hc) λ h' tk k=>(_,H,I.kept k,?_,q,)
 by_cases hj:j>i
 .rw[M2 hj,M2 hj];show(_,rfl,)
 .rw[W1 hj,W1 hj];show(_,rfl,)
def Jd(hc:X.calm=Da):kz X (.builtin "min") (λ xs H Q=>∃i j,xs=[.int i,.int j]/\Q (.int<|if j<i then j else i) H):=by
 intro B s O H xs us Q I r h;let(i,j,rfl,q):=h;let(u,w',rfl,(t,rfl),(t',rfl)):=vals2 r;show min_two_ints (I.ok.hd hc) λ h' tk k=>(_,H,I.kept k,?_,q,)
 by_cases hj:j<i
 .rw[M2 hj,M2 hj];show(_,rfl,)
 .rw[W1 hj,W1 hj];show(_,rfl,)
def yn:kz X (.type "int") (λ xs H Q=>(∃i,xs=[.int i]/\Q (.int i) H)\/∃k,xs=[.bl k]/\Q (.int<|if k then 1 else 0) H):=by
 intro B s O H xs us Q I r h;rcases h with⟨i,rfl,q⟩|⟨k,rfl,q⟩
 .let(u,rfl,t,rfl):=vals1 r;show call_int_int ⟨.int i,H,I,⟨_,rfl⟩,q⟩
 .let(u,rfl,r1):=vals1 r;ext r1;show call_int_bool ⟨.int _,H,I.tok _,⟨_,rfl⟩,q⟩
def agO(K:Db)(x:V)(H:Hp)(n:Nat):Prop:=
 match x with
 |.str y=>y.n<=sizeLine/\n=y.n
 |.Y5 y=>y.u<=sizeLine/\n=y.u
 |.ref p=>(∃xs,jO K H p xs/\n=xs.n)\/∃xs,nj K H p xs/\n=xs.n
 |_=>False
def Np:kz X (.builtin "len") (λ xs H Q=>∃x n,xs=[x]/\agO X.K x H n/\Q (.int n) H):=by
 intro B s O H xs us Q I r h;let(x,n,rfl,e,q):=h;let(u,rfl,rx):=vals1 r;let hl:=zB;let hs:=A26;cases x with
 |str y=>let(t,rfl):=rx;obtain⟨hy,e'⟩:y.n<=sizeLine/\n=y.n:=e;subst e';show len_str ∅ ⟨.int _,H,I.tok _,⟨_,rfl⟩,q⟩
 |Y5 y=>let(t,rfl):=rx;obtain⟨hy,e'⟩:y.u<=sizeLine/\n=y.u:=e;subst e';show PySem.W.len_bytes ∅ ⟨.int _,H,I.tok _,⟨_,rfl⟩,q⟩
 |ref p=>
  ext rx;let e':=e;rcases e' with⟨xs,hx,e'⟩|⟨xs,hx,e'⟩
  .subst e';let(a6,r',pl,hz):=I.list hx;let ψ:=r'.n;show Calls.call_len_list pl.isList (by erw[A12];lia) ⟨.int _,H,I.tok _,⟨_,by erw[A12];rw[ψ]⟩,q⟩
  .subst e';let(a6,r',pl,hz):=I.tuple hx;let ψ:=r'.n;show len_tuple pl (by erw[A12];lia) ⟨.int _,H,I.tok _,⟨_,by erw[A12];rw[ψ]⟩,q⟩
 |_=>show(e).elim
structure E2(h:Heap)(x dx C:Addr)(mA:Str->Option Value):Prop where
 obj:h.get? x=AC (UF C dx)
 ns:h.Ns1 dx mA
 ne:dx≠x
def xV{h:ν}(n:h.Ns1 dx mA):∃od,h.get? dx=AC od/\∀name,bn name od=AC (mA name):=by
 let(o,es,ep,ho,hd,hk,_,hm):=n;show(o,ho,λ name=>?_,);let e:=hm name;unfold nsFind findBy at e;rw[<-Array.find?_toList]at e;unfold bn;rw[hd];dsimp only;split
 .rename_i y q;rw[q]at e;show A13 AC e
 .rename_i q;rw[q]at e;let a:es.toList.any (·.refKey)=AT:=by rw[List.any_eq_false];intro y hy;let(z,t,afk):=hk y (Array.mem_toList_iff.mp hy);simp[DictEntry.refKey,afk]
  let a':¬es.toList.any (·.refKey)=Da:=by rw[a];show A89
  rw[W1 a'];show A13 AC e
def E2.look(I:E2 h x dx C mA):∃od,PySem.W.InstAt h x (UF C dx) C (AC od)/\∀name,bn name od=AC (mA name):=
 let ⟨od,ho,hl⟩:=xV I.ns
 ⟨od,⟨I.obj,rfl,rfl,ho⟩,hl⟩
section
variable{K:Db}
theorem get_map(X:K.In s.e)(I:E2 s.heap x dx C mA)(hg:WP K C name=Da)(hh:ca K C=Da)
 (ha:GM K (.ref C) name=AC Ch) (hv:mA name=AC v) (Oa:AC8 v=Da) (h:Q v {s with toks:=s.toks+1}) :
 Ev (model prog w) A (getAttr (.ref x) name expr) Q E s:=by
 let(od,J,hl):=I.look;show PySem.W.get_value X J (B85 hg).1 (wP hh ha rfl (by rw[hl,hv])) Oa h
def Mh(X:K.In s.e)(I:E2 s.heap x dx C mA)(hg:WP K C name=Da)
 (hf:GM K (.ref C) name=AC (AC<|.ref f)) (ht:AB5 K (.ref f)=Da) (hv:mA name=Ch) (h:Q (.ref f,[.ref x]) s) :
 Ev (model prog w) A (getMethod (.ref x) name pl) Q E s:=by
 let(od,J,hl):=I.look;show PySem.W.method_fn X J (B85 hg).1 (B85 hg).2 hf (A40.mp ht) (by change(bn name od).map _=AC AT;rw[hl,hv];rfl) h
theorem O9(X:K.In s.e)(I:E2 s.heap x dx C mA)
 (hs:GM K (.ref C) "__setattr__"=AC (AC<|.builtin "object.__setattr__")) (hp:AB6 K C=Da) (ht:im K C name=AC Ch) (hh:ca K C=Da)
 (hw:AB8 mA ns) (Gb:ns.n<=sizeLine)
 (h:∀h',E2 h' x dx C (λ y=>if y=name then AC v else mA y)->KF dx s.heap h'->Q () {s with heap:=h',toks:=s.toks+2}) :
 Ev (model prog w) A (setAttr (.ref x) name v) Q E s:=by
 let(od,J,hl):=I.look;show AB7 X J hs<|PySem.W.osa_open X J hp ht λ b=>?_;let(cd,hc,sH):=PySem.W.any_some hh;let hx:=I.obj;show T0<|v6<|T0<|T0<|B86 hx<|T0<|PySem.W.Looks.here (wT X hc) ?_;rw[sH];show v6<|T0<|v6<|T0 ?_;show wpAny_nsSet1 I.ns λ h' L! v7=>?_;let(oD,esD,epD,hoD,hdD,hcD):=L!.count (PySem.Within.cons name v hw);show T0<|wpAny_lookBehind hoD (by rw[hdD];show pastItsLine_dict<|A14 hcD (by rw[A22];lia)) ?_;show v6<|h _ ⟨(v7.2 _<|A15 I.ne).trans I.obj,L!,I.ne⟩ v7
theorem Lz(X:K.In s.e)(hm:ii K C=Da)
 (hi:GM K (.ref C) "__init__"=AC (AC<|.ref f)) (hf:PySem.W.typeIn K (.ref f)=AC (.type "function"))
 (h:codeAny (model prog w) (A.under<|.builtin "type.__call__" ⟨.ref C::vs,kw⟩) (.call (.ref f) ⟨.ref (s.t+1)::vs,kw⟩) (PySem.W.InitBack (s.t+1) R)
  {s with heap:=(s.heap.push SB).push<|PySem.W.instObj C s.t}) :
 codeAny (model prog w) A (.call (.ref C) ⟨vs,kw⟩) R s:=by
 let(hh,g,d,t,os):=s;show PySem.W.make_core (PySem.W.makes_of X hm) (lv X hi) (λ self=>PySem.W.bind_fn X self hf) (.inl rfl) h
end
def kH(f:Str)(v:V):U (Str×V)->U (Str×V)
|[]=>[(f,v)]
|(g,x)::r=>if g=f then(g,v)::r else(g,x)::kH f v r
def rO(f g:Str)(v:V):∀ fs,(kH f v fs).lookup g=if g=f then AC v else fs.lookup g
|[]=>by
 change NE g [(f,v)]=_;by_cases h:g=f
 .let hb:=A40.mpr h;erw[NE,hb,M2 h]
 .let hb:=A57.mpr h;erw[NE,hb,W1 h]
|(k,x)::r=>by
 let ih:=rO f g v r;rw[show kH f v _=(if k=f then(k,v)::r else(k,x)::kH f v r)from rfl];by_cases hk:k=f
 .rw[M2 hk];by_cases h:g=k
  .let hb:=A40.mpr h;erw[NE,hb,M2<|h.trans hk]
  .let hb:=A57.mpr h;erw[NE,hb,W1 λ e:g=f=>h<|e.trans hk.c]
 .rw[W1 hk];by_cases h:g=k
  .let hb:=A40.mpr h;erw[NE,hb,W1 λ e=>hk<|h.symm.trans e]
  .let hb:=A57.mpr h;erw[NE,hb];show ih
def qX(f:Str)(v:V):∀ fs,f∈(kH f v fs).map (·.1)/\∀ g,g∈fs.map (·.1)->g∈(kH f v fs).map (·.1)
|[]=>⟨by simp[kH],λ g h=>by simp at h⟩
|(k,x)::r=>by
 let(i1,i2):=qX f v r;rw[show kH f v _=(if k=f then(k,v)::r else(k,x)::kH f v r)from rfl];by_cases hk:k=f
 .rw[M2 hk];subst hk;show⟨by simp,λ g h=>by calc h⟩
 .rw[W1 hk];show(?_,λ g h=>?_,)
  .rw[A06];show A08 _ i1
  .rw[A06]at h ⊢;rcases A01.mp h with e|e
   .exact A01.mpr<|.inl e
   .exact A08 _<|i2 g e
def rP(f:Str)(v:V):∀fs,(kH f v fs).length<=fs.n+1
|[]=>by simp[kH]
|(k,x)::r=>by
 let ih:=rP f v r;rw[show kH f v _=(if k=f then(k,v)::r else(k,x)::kH f v r)from rfl];by_cases hk:k=f
 .rw[M2 hk,A22,A22];lia
 .rw[W1 hk,A22,A22];lia
def lU.some_of(r:lU (AC v) o):∃u,o=AC u/\RelV v u:=by
 cases o with
 |none=>show(r).elim
 |some u=>show(u,rfl,r,)
def lU.none_of(r:lU Ch o):o=Ch:=by
 cases o with
 |none=>rfl
 |some u=>show(r).elim
def x_(r:RelV v u):AC8 u=Da:=by
 cases v with
 |non=>cases (r);rfl
 |bl b=>cases (r);rfl
 |int i=>obtain⟨t,e⟩:=(r);ext e;rfl
 |str x=>obtain⟨t,e⟩:=(r);ext e;rfl
 |Y5 b=>obtain⟨t,e⟩:=(r);ext e;rfl
 |flt b=>obtain⟨t,e⟩:=(r);ext e;rfl
 |ref a=>cases (r);rfl
 |ty n=>cases (r);rfl
def zG(bN:lX P w H h)(e:H a=AC (.ins C dx fs)):∃mA,E2 h a dx C mA/\(∀f,lU (fs.lookup f) (mA f))/\AB8 mA (fs.map (·.1))/\fs.n<=1000/\H dx=AC (.own a):=by
 obtain⟨d,z,ne,ob,mA,n,r,q⟩:=(bN a _ e)
 show(mA,(ob,n,ne,),r,q,z,d,)
structure NP(K:Db)(C:Addr):Prop where
 pg:WP K C Str.empty=Da
 hd:ca K C=Da
 po:AB6 K C=Da
 sa:GM K (.ref C) "__setattr__"=AC (AC<|.builtin "object.__setattr__")
def NP.get{K:Db}(c:NP K C)(f:Str):WP K C f=Da:=c.pg
def rA(K:Db)(C:δ)(f:Str):Prop:=GM K (.ref C) f=AC Ch
def rA.Zu{K:Db}(n:rA K C f):im K C f=AC Ch:=by unfold im;rw[n];rfl
structure Meth(K:Db)(C:Addr)(m:Str)(f:Addr):Prop where
 at_:GM K (.ref C) m=AC (AC<|.ref f)
 fn:AB5 K (.ref f)=Da
 kp:Fa K (.ref f)=Da
def El(I:Inv X B O H s)(e:H a=AC (.ins C dx fs))(c:NP X.K C)(n:rA X.K C f)(l:fs.lookup f=AC v)
 (h:∀u s',Inv X B O H s'->RelV v u->Q u s'):Ev (model X.prog X.w) A (getAttr (.ref a) f b) Q E s:=by
 let(mA,σ,r,_,_,_):=zG I.bN e;let(u,hu,ru):=lU.some_of (v:=v) (o:=mA f) (by rw[<-l];show r f);show get_map I.jw σ (c.get f) c.hd n hu (x_ ru)<|h u _ (I.tok _) ru
def oH(I:Inv X B O H s)(e:H a=AC (.ins C dx fs))(c:NP X.K C)(k:Meth X.K C m g)(l:fs.lookup m=Ch)
 (h:Q (.ref g,[.ref a]) s):Ev (model X.prog X.w) A (getMethod (.ref a) m pl) Q E s:=by
 let(mA,σ,r,_,_,_):=zG I.bN e;let hn:=lU.none_of (by rw[<-l];show r m);show Mh I.jw σ (c.get m) k.at_ k.fn hn h
def Dm(I:Inv X B O H s)(e:H a=AC (.ins C dx fs))(c:NP X.K C)(n:rA X.K C f)(hl:fs.n<1000)(ry:RelV y u)
 (h:∀s',Inv X B O (upd H a<|.ins C dx<|kH f y fs) s'->Q () s'):Ev (model X.prog X.w) A (setAttr (.ref a) f u) Q E s:=by
 let(mA,σ,r,wi,_,ho):=zG I.bN e;let hz:(fs.map (·.1)).length<=sizeLine:=by rw[A04,A26];lia
 show O9 I.jw σ c.sa c.po n.Zu c.hd wi hz λ h' σ' sb=>h _ ?_;let hd:∃o,h'.get? dx=AC o:=let ⟨o,_,_,e',_⟩:=σ'.ns;⟨o,e'⟩;show I.write (by rw[e];show GE) (.inr ho) (λ b q hb z=>(sb.2 b hb).trans z) hd ?_;show⟨by rw[ak σ.ne];show ho,?_,σ.ne,σ'.obj,_,σ'.ns,λ g=>?_,λ g hg=>?_⟩
 .let:=rP f y fs;lia
 .skip
  rw[rO];by_cases q:g=f
  .rw[M2 q,M2 q];show ry
  .rw[W1 q,W1 q];show r g
 .by_cases q:g=f
  .rw[q];show(qX f y fs).1
  .refine(qX f y fs).2 g<|wi g λ z=>hg ?_;change(if g=f then AC u else mA g)=Ch;rw[W1 q];show z
def Inv.made(I:Inv X B O H s):Inv X B O (upd (upd H s.heap.objs.size<|.own<|s.t+1) (s.t+1)<|.ins C s.heap.objs.size [])
 {s with heap:=(s.heap.push SB).push<|PySem.W.instObj C s.t}:=by
 let e1:(s.heap.push _).get? _=AC SB:=A18 _ rfl;let e2:((s.heap.push SB).push<|PySem.W.instObj C s.t).get? (s.t+1)=AC (UF C s.t):=by let:=A18 (s.heap.push SB) (o:=UF C s.t) rfl;rwa [A58]at this
 let e3:(s.heap.push _).Ns _ (λ _=>Ch):=(_,#[],_,e1,rfl,(λ e he=>absurd he ∅),λ _=>rfl,)
 let I1:=I.laid (o:=.own (s.t+1)) (t':=s.toks) (λ b u q=>A00 _ q) (P3 _) ⟨_,e1⟩;show I1.laid (λ b u q=>A00 _ q) (B87<|A58 _ _) ?_;let ne:s.heap.objs.size≠s.t+1:=A16<|A66 _;show⟨by rw[ak ne,aA],A48 _,ne,e2,λ _=>Ch,(Heap.Ns1.of_empty e3).at λ o q=>A00 _ q,λ _=>GE,λ y hy=>absurd rfl hy⟩
def GI(hb:attributeBase e f env (eval e env)=eval e env)
 (h:Ev (model prog w) A (eval e env) (λ o s₁=>Ev (model prog w) A (getAttr o f Da) Q E s₁) E s):Ev (model prog w) A (eval (.Attribute e f pos) env) Q E s:=
 Attribute_any_ h (by rw[arm_eval_Attribute,hb])
def adL(K:Db)(ta:TE)(f:Str):TE:=λ O H Q=>ta O H λ x H1=>∃a C dx fs v,x=.ref a/\H1 a=AC (.ins C dx fs)/\NP K C/\rA K C f/\fs.lookup f=AC v/\Q v H1
def adW(K:Db)(ta tv:TE)(f:Str):TS:=λ D O H=>tv O H λ y H1=>ta O H1 λ x H2=>∃a C dx fs,x=.ref a/\H2 a=AC (.ins C dx fs)/\NP K C/\rA K C f/\fs.n<1000 /\
 D.nx O (upd H2 a<|.ins C dx<|kH f y fs)
def Vk(he:PE X e ta)(hb:attributeBase e f X.env (eval e X.J)=eval e X.J):PE X (.Attribute e f pos) (adL X.K ta f):=by intro B s O H Q I h;show GI hb<|cj (he B s O H _ I h) ?_;rintro u s1 ⟨x,H1,I1,rx,a,C,dx,fs,v,ex,ea,c,n,l,q⟩;subst ex;obtain rfl:u=Value.ref a:=rx;show El I1 ea c n l λ u' s2 I2 ru=>(v,H1,I2,ru,q,)
def Vc(ha:PE X o ta)(hv:PE X value tv)(hs:swapsWith value (AC<|.Attribute o f pos') pos.line X.J=pure AT):PS X (.Assign [.Attribute o f pos'] value pos) (adW X.K ta tv f):=by intro B s O H D I h;show C42 (cj (hv B s O H _ I h) λ u s1 ⟨y,H1,I1,ry,q⟩=>cj (ha B s1 O H1 _ I1 q) ?_) hs;rintro ov s2 ⟨x,H2,I2,rx,a,C,dx,fs,ex,ea,c,n,l,q2⟩;subst ex;obtain rfl:ov=Value.ref a:=rx;show Dm I2 ea c n l ry λ s3 I3=>(O,_,I3,q2,)
structure bf(k:Nat)(A:Around):Prop where
 hd:A.handled=Ch
 dp:A.depth+3*k+5<recursionLimit
 un:A.units+16*k+200<cLine
def bf.mono(r:bf k A)(h:j<=k):bf j A:=⟨r.hd,by let:=r.dp;lia,by let:=r.un;lia⟩
def bf.deeper(r:bf (k+1) A)(env:Env):bf k (A.deeper env):=
 ⟨r.hd,by let:=r.dp;change A.depth+1+3*k+5<_;lia,by let:=r.un;change A.units+3+16*k+200<_;lia⟩
def bf.in1(r:bf (k+1) A):bf k A.in1:=
 ⟨r.hd,by let:=r.dp;lia,by let:=r.un;lia⟩
def D4{A:τ}{C:δ}{us:U ζ}{kw:U (Str×ζ)}:(A.under<|.builtin "type.__call__" ⟨.ref C::us,kw⟩).depth=A.depth+1:=by first| rfl| simp[Around.under,Code.weight,Code.isCreation,Code.isGuard,Code.isCaller,Code.frames,Code.isFrame,guardIds]
def D3{A:τ}:(A.under<|.builtin "type.__call__" ⟨.ref C::us,kw⟩).units=A.units+1:=by first| rfl| simp[Around.under,Code.cUnits,Code.frames,Code.isFrame]
def bf.make(r:bf (k+1) A)(C:δ)(us:U ζ)(kw:U _):bf k (A.under<|.builtin "type.__call__" ⟨.ref C::us,kw⟩):=
 ⟨r.hd,by let:=r.dp;rw[D4];lia,by let:=r.un;rw[D3];lia⟩
def bf.depth(r:bf k A):A.depth<recursionLimit:=by let:=r.dp;lia
def bf.units(r:bf k A):A.units+64<cLine:=by let:=r.un;lia
def OU:TA:=λ _ H Q=>Q [] H
def J9(ta:TE)(tr:TA):TA:=λ O H Q=>ta O H λ x H1=>tr O H1 λ xs H2=>Q (x::xs) H2
def bH:PA X [] OU:=λ _ _ _ _ H Q I h=>Calls.spliced_nil ⟨[],H,I,.nil,h⟩
def aM(ha:PE X e te)(hr:PA X es t)(hs:Se e es X.J:=by rfl):PA X (e::es) (J9 te t):=by intro pos B s O H Q I h;rw[hs];show Calls.spliced_cons<|cj (ha B s O H _ I h) ?_;rintro u s1 ⟨x,H1,I1,r1,q1⟩;show cj (hr pos B s1 O H1 _ I1 q1) <|by rintro us s2 ⟨xs,H2,I2,r2,q2⟩;show(x::xs,H2,I2,.cons r1 r2,q2,)
def adE(t:TA):TE:=λ O H Q=>t O H λ xs H1=>xs.n<=sizeLine/\∀p,H1 p=Ch->Q (.ref p) (upd H1 p<|.tup xs)
def adI(t:TA):TE:=λ O H Q=>t O H λ xs H1=>xs.n<=sizeLine/\∀p,H1 p=Ch->Q (.ref p) (upd H1 p<|.lst xs)
def KI(h:PA X es t):PE X (.Tuple es x1 pos) (adE t):=by intro B s O H Q I hq;show wpAny_Tuple_spliced<|cj (h pos B s O H _ I hq) λ us s1 ⟨xs,H1,I1,r,z,q⟩=>⟨by rw[<-r.n];show z,?_⟩;let hf:=I1.bN.fresh<|P3 _;show(.ref _,_,I1.laid (λ b u e=>A00 _ e) (P3 _) ?_,rfl,q _ hf,);show(z,us,r,qq.new _ _,)
def Vi(h:PA X es t):PE X (.List es pos) (adI t):=by intro B s O H Q I hq;show wpAny_List_spliced<|cj (h pos B s O H _ I hq) λ us s1 ⟨xs,H1,I1,r,z,q⟩=>⟨by rw[<-r.n];show z,?_⟩;let hf:=I1.bN.fresh<|P3 _;show(.ref _,_,I1.laid (λ b u e=>A00 _ e) (P3 _) ?_,rfl,q _ hf,);show(z,us,0,r,A18 _ rfl,)
abbrev Sp:=U V->Hp->VK->XK->Prop
abbrev Yt:=U Env->Hp->ι->XK->ζ->ι->Prop
structure E5(P:Program)(w:World)(K:Db)(mg:Str->Option Value)(base:Heap)(A:Around)(outer:List Env)(s:Shared)(H:Hp):Prop where
 frames:A.frames=AC outer
 mod:Mod K mg base
 bs:∀b o,base.get? b=AC o->s.heap.get? b=AC o/\H b=Ch
 Nw:base.Z<=s.t
 nB:s.heap.FunFrames base outer
 Rr:∀b∈u_ outer,H b=Ch
 bN:lX P w H s.e
 bare:AllBare s.gens
 tab:yw K mg base H
def CE(outer:U Env)(P:ο)(w:ξ)(H:Hp)(s:ι)(Q:VK)(u:ζ)(s':ι):Prop:=
 ∃v H',s'.os=s.os/\AllBare s'.gens/\Un (u_ outer) [] H H' s.heap s'.e/\lX P w H' s'.e/\RelV v u/\Q v H'
def CR(CX:Yt)(outer:U Env)(P:ο)(w:ξ)(H:Hp)(s:ι)(Q:VK)(E:XK)(r:Result)(s':ι):Prop:=
 match r with
 |.ok<|.ret u=>CE outer P w H s Q u s'
 |.ok _=>False
 |.error e=>CX outer H s E e s'
structure fi(P:Program)(w:World)(K:Db)(mg:Str->Option Value)(base:Heap)(CX:Yt)(k:Nat)(f:Addr)(fd:FuncData)(ps:List Str)(sp:Sp):Prop where
 len:∀vs H Q E,sp vs H Q E->vs.n=ps.n
 run:∀(A:Around)(outer:List Env)(s:Shared)(H:Hp)(args:Args)(us:List Value)(vs:List V)(Q:VK)(E:XK),bf k A->E5 P w K mg base A outer s H->BindsTo s fd args (ps.zip us)->Vals vs us->sp vs H Q E ->
  codeAny (model P w) A (.call (.ref f) args) (CR CX outer P w H s Q E) s
def E5.make{K:Db}(e:E5 P w K mg base A outer s H)(C:δ)(us:U ζ)(kw:U _):
 E5 P w K mg base (A.under<|.builtin "type.__call__" ⟨.ref C::us,kw⟩) outer s H:=⟨by first| show e.frames| (simpa[Around.under,Code.envs,Code.isFrame,pushEnvs]using e.frames),e.mod,e.bs,e.Nw,e.nB,e.Rr,e.bN,e.bare,e.tab⟩
def Inv.RB(I:Inv X B O H s):E5 X.prog X.w X.K X.mg X.base X.A X.stack s H:=
 ⟨I.ok.frames,I.ok.mod,I.bs,A14 I.ok.Nw I.sz,I.stack,I.sS,I.bN,I.bare,I.tab⟩
def Inv.after(I:Inv X B O H s)(h:CE X.stack X.prog X.w H s Q u s'):EP X B O Q u s':=by let(v,H',os,bare,un,bN,r,q):=h;let(hh,g,d,t,os'):=s';obtain rfl:os'=s.os:=os;show(v,H',I.call un bN bare λ b z=>absurd z ∅,r,q,)
def ZE(sp:Sp)(As:U V)(E:XK)(t:TA):TE:=λ O H Q=>t O H λ vs H1=>sp (vs++As) H1 Q E
def Td(C:δ)(m:Str)(sp:Sp)(As:U V)(E:XK)(ta:TE)(t:TA):TE:=λ O H Q=>ta O H λ x H1=>∃a dx fs,x=.ref a/\H1 a=AC (.ins C dx fs)/\fs.lookup m=Ch /\
 t O H1 λ vs H2=>sp (x::(vs++As)) H2 Q E
def Zz(C:δ)(sp:Sp)(As:U V)(E:XK)(t:TA):TE:=λ O H Q=>t O H λ vs H1=>∀x dx,H1 x=Ch->H1 dx=Ch->dx≠x ->
 sp (.ref x::(vs++As)) (upd (upd H1 dx<|.own x) x<|.ins C dx []) (λ v H2=>v=.non/\Q (.ref x) H2) E
def Binds(K:Db)(fd:υ)(ps:U Str)(ds:U ζ):Prop:=
 ∀(s:ι)(us:U ζ),K.In s.e->(us++ds).length=ps.n->BindsTo s fd ⟨us,[]⟩ (ps.zip<|us++ds)
def Binds.all{K:Db}(h:∀us,us.n=ps.n->bindArgs fd ⟨us,[]⟩=pure (ps.zip us)):Binds K fd ps []:=λ s us _ hl=>by rw[A51]at hl ⊢;show .of_eq<|h us hl
def Passes(CX:Yt)(X:Cx)(E:XK):Prop:=∀(B:U (δ×μ))(O:St)(H:Hp)(s:ι)(e:ζ)(s':ι),Inv X B O H s->CX X.stack H s E e s'->X.xe e s'
def Ds(F:fi X.prog X.w X.K X.mg X.base CX k f fd ps sp)(hr:bf k X.A)(hb:Binds X.K fd ps ds)(hd:Vals As ds)(hx:Passes CX X E)
 (I:Inv X B O H s) (r:Vals vs us) (h:sp (vs++As) H Q E):Ev (model X.prog X.w) X.A (call (.ref f) us) (EP X B O Q) X.xe s:=by
 let r2:=r.append hd;let hl:(us++ds).length=ps.n:=by rw[<-r2.n];show F.len _ _ _ _ h
 show A90<|A91 (F.run X.A _ s H ⟨us,[]⟩ _ _ Q E hr I.RB (hb s us I.jw hl) r2 h) λ r s' hq=>?_;cases r with
 |error e=>show hx B O H s e s' I hq
 |ok fl=>
  cases fl with
  |ret u=>show I.after hq
  |next=>show GT hq
  |brk=>show GT hq
  |cont=>show GT hq
theorem pK(F:fi X.prog X.w X.K X.mg X.base CX k f fd ps sp)(hr:bf k X.A)(hg:Gl X x)(hm:X.mg x=AC (.ref f))(hk:Fa X.K (.ref f)=Da)(hb:Binds X.K fd ps ds)(hd:Vals As ds)(hx:Passes CX X E)
 (ha:PA X (e::es) t) (fG:Nd x:=by decide) (he:Se e es X.J:=by rfl) (dX:Pn pos es X.J:=by rfl) :
 PE X (.Call (.Name x p) (e::es) [] pos) (ZE sp As E t):=by
 intro B s O H Q I h;show A79<|mV I hg hm ?_ fG;show B09 I.ok.mod.N? hk (cj (ha pos B s O H _ I h) λ us s1 ⟨vs,H1,I1,r,q⟩=>(I1.jw,?_,)) he dX;show Ds F hr hb hd hx I1 r q
theorem FI(he:PE X o ta)(c:NP X.K C)(hm:Meth X.K C m f)(F:fi X.prog X.w X.K X.mg X.base CX k f fd ps sp)(hr:bf k X.A)(hb:Binds X.K fd ps ds)(hd:Vals As ds)(hx:Passes CX X E)(ha:PA X (e::es) t)
 (pZ:Se e es X.J:=by rfl) (dX:Pn pos es X.J:=by rfl)
 (ht:Mt o m apos (e::es) pos pl X.J:=by rfl) :
 PE X (.Call (.Attribute o m apos) (e::es) [] pos) (Td C m sp As E ta t):=by
 intro B s O H Q I h;show B88 (cj (he B s O H _ I h) ?_) ht;rintro u s1 ⟨x,H1,I1,rx,a,dx,fs,ex,ea,l,q⟩;subst ex;obtain rfl:u=Value.ref a:=rx;show oH I1 ea c hm l ?_;show B09 I.ok.mod.N? hm.kp (cj (ha pos B s1 O H1 _ I1 q) λ us s2 ⟨vs,H2,I2,r,q2⟩=>(I2.jw,?_,)) pZ dX;show Ds (vs:=.ref a::vs) F hr hb hd hx I2 (.cons rfl r) q2
theorem KL(he:PE X o ta)(c:NP X.K C)(hm:Meth X.K C m f)(F:fi X.prog X.w X.K X.mg X.base CX k f fd ps sp)(hr:bf k X.A)(hb:Binds X.K fd ps ds)(hd:Vals As ds)(hx:Passes CX X E)
 (ht:Mt o m apos [] pos pl X.J:=by rfl) :
 PE X (.Call (.Attribute o m apos) [] [] pos) (Td C m sp As E ta OU):=by
 intro B s O H Q I h;show B88 (cj (he B s O H _ I h) ?_) ht;rintro u s1 ⟨x,H1,I1,rx,a,dx,fs,ex,ea,l,q⟩;subst ex;obtain rfl:u=Value.ref a:=rx;show oH I1 ea c hm l ?_;show PySem.W.callWith_K0 I1.jw hm.kp<|Ds (vs:=[.ref a]) F hr hb hd hx I1 (.cons rfl .nil) q
structure Mk(K:Db)(C f:Addr):Prop where
 makes:ii K C=Da
 init:GM K (.ref C) "__init__"=AC (AC<|.ref f)
 fn:AB5 K (.ref f)=Da
 kp:Fa K (.ref C)=Da
def Kk(M:Mk X.K C f)(F:fi X.prog X.w X.K X.mg X.base CX k f fd ps sp)(hr:bf (k+1) X.A)(hb:Binds X.K fd ps ds)(hd:Vals As ds)
 (hx:Passes CX X E) (I:Inv X B O H s) (r:Vals vs us)
 (h:∀x dx,H x=Ch->H dx=Ch->dx≠x->sp (.ref x::(vs++As)) (upd (upd H dx<|.own x) x<|.ins C dx []) (λ v H2=>v=.non/\Q (.ref x) H2) E) :
 Ev (model X.prog X.w) X.A (call (.ref C) us) (EP X B O Q) X.xe s:=by
 let hq:=h _ _ (I.bN.fresh<|A67 _) (I.bN.fresh<|P3 _)<|A16<|A66 _;let I2:=Inv.made (C:=C) I;let r2:Vals (V.ref (s.t+1)::(vs++As)) _:=.cons rfl<|r.append hd;let hl:(Value.ref (s.t+1)::us++ds).length=ps.n:=by let e:=r2.n;rw[F.len _ _ _ _ hq]at e;show e.c
 show A90 (Lz I.jw M.makes M.init (A40.mp M.fn) (A91 (F.run _ X.stack _ _ ⟨Value.ref (s.t+1)::us,[]⟩ (Value.ref (s.t+1)::(us++ds)) _ _ E (hr.make C us [])
  (I2.RB.make C us []) (hb _ (Value.ref (s.t+1)::us) I2.jw hl) r2 hq) λ r s' eJ=>?_))
 cases r with
 |error e=>show hx B O _ _ e s' I2 eJ
 |ok fl=>
  cases fl with
  |ret u=>let(v,H',I3,rv,ev,q3):=I2.after eJ;subst ev;show(rv,(V.ref<|s.t+1,H',I3,rfl,q3,),)
  |next=>show GT eJ
  |brk=>show GT eJ
  |cont=>show GT eJ
theorem FJ(M:Mk X.K C f)(F:fi X.prog X.w X.K X.mg X.base CX k f fd ps sp)(hr:bf (k+1) X.A)(hg:Gl X x)(hm:X.mg x=AC (.ref C))(hb:Binds X.K fd ps ds)(hd:Vals As ds)(hx:Passes CX X E)
 (ha:PA X (e::es) t) (fG:Nd x:=by decide) (he:Se e es X.J:=by rfl) (dX:Pn pos es X.J:=by rfl) :
 PE X (.Call (.Name x p) (e::es) [] pos) (Zz C sp As E t):=by
 intro B s O H Q I h;show A79<|mV I hg hm ?_ fG;show B09 I.ok.mod.N? M.kp (cj (ha pos B s O H _ I h) λ us s1 ⟨vs,H1,I1,r,q⟩=>(I1.jw,?_,)) he dX;show Kk M F hr hb hd hx I1 r q
structure aT(N P:List Str)(sc:Scope):Prop where
 kind:sc.kind=.function
 co:sc.isCoroutine=AT
 gen:sc.isGenerator=AT
 nd:N.Nodup
 pre:N.take P.n=P
 par:∀x∈P,sc.names.lookup x=AC .local\/sc.names.lookup x=AC .cell
 VT:∀y∈sc.j,y.2≠.free
def yp{kindOf:Str->ε NameKind}:∀{binds}{m},(∀v,(x,v)∉binds)->bindL kindOf binds m x=m x
|[],_,_=>rfl
|(n,v)::r,m,h=>by
 unfold bindL;rw[yp λ w hw=>h w<|A08 _ hw];split
 .let:x≠n:=by rintro rfl;show h v A10
  simp[this]
 .rfl
def yr{kindOf:Str->ε NameKind}:∀{binds}{m},(∀v,(x,v)∉binds)->bindC kindOf binds m x=m x
|[],_,_=>rfl
|(n,v)::r,m,h=>by
 unfold bindC;rw[yr λ w hw=>h w<|A08 _ hw];split
 .rfl
 .let:x≠n:=by rintro rfl;show h v A10
  simp[this]
def yq{kindOf:Str->ε NameKind}{x:Str}{v:ζ}:∀{P:U Str}{vs}{i:Nat}{m},P.Nodup->P[i]?=AC x->vs[i]?=AC v->kindOf x=AC .local ->
 bindL kindOf (P.zip vs) m x=AC v
|[],_,_,_,_,h,_,_=>by simp at h
|_::_,[],_,_,_,_,h,_=>by simp at h
|p::P,w::vs,0,m,nd,h1,h2,hk=>by simp at h1 h2;subst h1;subst h2;change bindL kindOf ((p,w)::P.zip vs) m p=_;unfold bindL;rw[yp λ v hv=>(A44.mp nd).1 (B89 hv).1,M2 hk];simp
|p::P,w::vs,i+1,m,nd,h1,h2,hk=>by change bindL kindOf ((p,w)::P.zip vs) m x=_;unfold bindL;show yq (i:=i) (A44.mp nd).2 (by calc h1) (by calc h2) hk
def yt{kindOf:Str->ε NameKind}{x:Str}{v:ζ}:∀{P:U Str}{vs:U ζ}{i:Nat}{m:Str->ε ζ},P.Nodup->P[i]?=AC x->vs[i]?=AC v->kindOf x≠AC .local ->
 bindC kindOf (P.zip vs) m x=AC v
|[],_,_,_,_,h,_,_=>by simp at h
|_::_,[],_,_,_,_,h,_=>by simp at h
|p::P,w::vs,0,m,nd,h1,h2,hk=>by simp at h1 h2;subst h1;subst h2;change bindC kindOf ((p,w)::P.zip vs) m p=_;unfold bindC;rw[yr λ v hv=>(A44.mp nd).1 (B89 hv).1,W1 hk];simp
|p::P,w::vs,i+1,m,nd,h1,h2,hk=>by change bindC kindOf ((p,w)::P.zip vs) m x=_;unfold bindC;show yt (i:=i) (A44.mp nd).2 (by calc h1) (by calc h2) hk
def start(N:U Str)(vs:U V):St:=vs.map AC++Do (N.n-vs.n) Ch
def dG(CX:Yt)(P:ο)(w:ξ)(K:Db)(mg:Str->ε ζ)(base:ν)(N:U Str)(qual:Str)(scope:ς)(f:δ)(cd:ζ)(A:τ)(outer:U Env)(s:ι)(H:Hp)(E:XK):Cx where
 prog:=P
 w:=w
 K:=K
 mg:=mg
 base:=base
 A:=A.deeper<|envOfC qual scope s.heap.objs.size f cd
 N:=N
 s₀:=s
 H₀:=H
 env:=envOfC qual scope s.heap.objs.size f cd
 outer:=outer
 stack:=envOfC qual scope s.heap.objs.size f cd::outer
 ex:=[]
 calm:=Da
 fn:=λ _=>Da
 pn:=[]
 xe:=λ e s'=>Ev (model P w) (A.deeper<|envOfC qual scope s.heap.objs.size f cd) (leaving (envOfC qual scope s.heap.objs.size f cd) e) (λ _ Yy=>CX outer H s E e Yy) (λ e' Yy=>CX outer H s E e' Yy) s'
def Cu{sc:ς}(h:sc.names.lookup x=AC .cell):∃c,(cellsFrom n sc.names []).lookup x=AC c:=by let q:=C43 _ n []<|.inl h;show A92.mp q
def Im{K:FS}
 (S:aT N ps scope) (hd:A.handled=Ch) (e0:E5 P w K mg base A outer s H) (hl:vs.n=ps.n) (r:Vals vs us)
 (x:InCallC s s.heap.objs.size (bindL (envOfC qual scope s.heap.objs.size f cd).kindOf (ps.zip us) λ _=>Ch) (cellsFrom (s.t+1) scope.names []) (bindC (envOfC qual scope s.heap.objs.size f cd).kindOf (ps.zip us) λ _=>Ch) s1) :
 Inv (dG CX P w K mg base N qual scope f cd A outer s H E) [] (start N vs) H s1:=by
 let dX:ps.n<=N.n:=by let:=A13 List.length S.pre;rw[A32]at this;lia
 let(h1,tk,rfl,hk):=x.done;let VU:∀b,b∉(dG CX P w K mg base N qual scope f cd A outer s H E).ex:=λ b z=>absurd (show b∈([]:U δ)from z) ∅;show((e0.mod,S.kind,rfl,rfl,P3 _,λ y z c h1 h2=>?_,λ y hy=>?_,λ y c _ h=>?_,λ _=>hd,Around.frames_deeper e0.frames,.inr ⟨rfl,rfl⟩,λ b z=>absurd z<|VU b,e0.bs,e0.Nw,λ b _ _=>VU b,λ b z=>absurd z<|VU b,e0.nB,e0.Rr,),
  rfl,e0.bare,Un.kept hk,(_,x.toInCall.ns,λ i y v h1 h2 h3=>?_,),λ y c h=>(_,x.cell y c h,),e0.bN.fresh<|P3 _,λ y c h=>?_,λ p hp=>absurd (show p∈([]:U (δ×μ))from hp) ∅,e0.bN.kept hk,?_,e0.tab,)
 .exact name_of_addr x.apart (A68 h1)<|A68 h2
 .let hy:=hy;rcases hy with hy|hy
  .exact Cu hy
  .exact absurd rfl<|S.VT _<|A68 hy
 .exact A78<|x.above y c<|A68 h
 .let hi:i<vs.n:=by
   unfold start at h2;by_cases hi:i<vs.n
   .exact hi
   .rw[A45 (by calc hi)]at h2;rw[A52]at h2;split at h2<;>ext h2
  let ha:vs[i]?=AC v:=by
   unfold start at h2;rw[A37 (by calc hi),A07]at h2;cases e:vs[i]? with
   |none=>rw[e]at h2;ext h2
   |some a=>rw[e]at h2;ext h2;rfl
  let(u,hu,rv):=r.get ha;let hp:ps[i]?=AC y:=by rw[<-S.pre,C44 ∅];show h1
  let ndP:ps.Nodup:=by rw[<-S.pre];show S.nd.sublist<|List.take_sublist _ _
  show(u,rv,?_,);rcases S.par y (A25 hp)with k|k
  .exact .inl ⟨k,yq ndP hp hu k⟩
  .let(c,e):=Cu (n:=s.t+1) k;show .inr ⟨.inl k,c,e,?_⟩;let q:=x.cell y c e;rw[yt ndP hp hu (by change scope.names.lookup y≠_;rw[k];decide)]at q;show q
 .exact e0.bN.fresh<|A78<|x.above y c<|A68 h
 .unfold start;change _=N.n;rw[A23,A04,A80];lia
theorem B2{K:Db}{dV kV doc pm aU ct oc:ζ}
 (lk:K.lookup f=AC ⟨oc,od,.func<|PySem.W.fnOf name qual params body scope dV kV doc pm an aU ct,zc⟩) (rT:SL K aU qual=Da) (S:aT N ps scope)
 (len:∀vs H Q E,sp vs H Q E->vs.n=ps.n)
 (BR:∀A outer s H vs Q E,bf k (A.deeper<|envOfC qual scope s.heap.objs.size f aU)->sp vs H Q E ->
  ∃t,rq (dG CX P w K mg base N qual scope f aU A outer s H E) body t/\t {nx:=λ _ H'=>Q .non H',rt:=Q} (start N vs) H) :
 fi P w K mg base CX (k+1) f (Ps name qual params body scope dV kV doc pm an aU ct) ps sp:=by
 show(len,λ A outer s H args us vs Q E hr e0 hb r Ip=>?_,);let hl:=len _ _ _ _ Ip;let KX:=e0.mod.N?.keeps λ b o e=>(e0.bs b o e).1;let lim:=e0.mod.nolimit.keeps λ b o e=>(e0.bs b o e).1;let aak:∀y∈ps.zip us,scope.names.lookup y.1=AC .local\/(scope.names.lookup y.1=AC .cell/\((cellsFrom (s.t+1) scope.names []).lookup y.1).isSome=Da):=by
  rintro⟨n,v⟩ hy;rcases S.par n (B89 hy).1 with q|q
  .exact .inl q
  .exact .inr ⟨q,C43 _ _ _<|.inl q⟩
 show codeAny_call_function hr.depth (KX _ _ lk) rfl S.co S.gen rfl (PySem.W.codeRec_of KX rT)<|hb _ _ _ _ ?_;show wpAny_newFunctionEnv_cells S.kind aak λ env he s1 x=>?_;subst he;show(lim.keeps x.toInCall.keep,codeAny_func ?_,);let(t,ht,hq):=BR A outer s H vs Q E (hr.deeper _) Ip;let I:Inv (dG CX P w K mg base N qual scope f aU A outer s H E) [] (start N vs) H s1:=Im S hr.hd e0 hl r x;show A20 (ht [] s1 (start N vs) H _ I hq) (λ fl s' hs=>?_) λ e s' hs=>hs;let fin:∀{O'}{H'}{v}{u},Inv (dG CX P w K mg base N qual scope f aU A outer s H E) [] O' H' s'->RelV v u->Q v H'->CE outer P w H s Q u s':=
  λ {O' H' v u} J rv q=>(v,H',J.os,J.bare,J.a,J.bN,rv,q,)
 cases fl with
 |ret u=>let(v,O',H',J,rv,q):=hs;show fin J rv q
 |next=>let(O',H',J,q):=hs;show fin (v:=V.non) (u:=UV) J rfl q
 |brk=>let(_,_,_,q):=hs;show GT q
 |cont=>let(_,_,_,q):=hs;show GT q
section
variable{id T:String}
def tCB(r:U V->Hp->VK->Prop)(t:TA):TE:=λ O H Q=>t O H λ vs H1=>r vs H1 Q
def jb(hc:kz X (.builtin id) r)(hg:Gl X x)(hm:X.mg x=Ch)(hv:bootBuiltins x=AC (.builtin id))(ha:PA X (e::es) t)(hn:x≠ "__name__":=by decide)(fG:Nd x:=by decide)
 (he:Se e es X.J:=by rfl) (dX:Pn pos es X.J:=by rfl):PE X (.Call (.Name x p) (e::es) [] pos) (tCB r t):=by
 intro B s O H Q I h;show A79<|jS I hg hm hv ?_ hn fG;show PyProof.Rows.callWith_builtin1 (cj (ha pos B s O H _ I h) <|by rintro us s1 ⟨vs,H1,I1,r1,q1⟩;show hc B s1 O H1 vs us Q I1 r1 q1) he dX
def i4(hc:kz X (.type T) r)(hg:Gl X x)(hm:X.mg x=Ch)(hv:bootBuiltins x=AC (.type T))(ha:PA X (e::es) t)(hn:x≠ "__name__":=by decide)(fG:Nd x:=by decide)
 (he:Se e es X.J:=by rfl) (dX:Pn pos es X.J:=by rfl):PE X (.Call (.Name x p) (e::es) [] pos) (tCB r t):=by
 intro B s O H Q I h;show A79<|jS I hg hm hv ?_ hn fG;show B10 (cj (ha pos B s O H _ I h) <|by rintro us s1 ⟨vs,H1,I1,r1,q1⟩;show hc B s1 O H1 vs us Q I1 r1 q1) he dX
end
end L2
namespace HT
def Su(ht:IsTup s.heap t vs.q)(hb:IsTup s.heap b ws.q)(hv:vs≠[])
 (h1:ws=[]->Q (.ref t) s) (h2:ws≠[]->Q (.ref s.t) {s with heap:=s.heap.push {cls:=.type "tuple",data:=.seq (vs++ws).toArray}})
 (Gb:vs.n+ws.n<=sizeLine):Ev (model prog w) A (binaryOp .Add (.ref t)<|.ref b) Q E s:=by
 let((cls,dd,data,sl),ho,hc,n,hd):=id ht;let((abi,ρ1,data2,Yw),Jz,zK,n2,hd2):=id hb;simp only at hc hd zK hd2;subst hc hd zK hd2;let e:vs.q++ws.q=(vs++ws).toArray:=by simp
 by_cases hw:ws=[]
 .exact B53 ⟨_,ho,rfl⟩ ⟨_,Jz,rfl⟩ B91 seq_tuple_add B93 B94 (B95 _ _)
   (tuple_addW1 t b _ _ n n2 dd ρ1 sl Yw (by calc hv) (by simp[hw])) ⟨ho,Jz,h1 hw⟩
 .refine B53 ⟨_,ho,rfl⟩ ⟨_,Jz,rfl⟩ B91 seq_tuple_add B93 B94 (B95 _ _)
   (tuple_addW2 t b vs.toArray ws.toArray n n2 dd ρ1 sl Yw (by calc hv) (by calc hw) (by rw[A12,A12];show Gb)) ⟨ho,Jz,?_⟩
  rw[e];show h2 hw
def dO(n d:Nat):ε Int->Nat
|none=>d
|some v=>if v<0 then(v+(n:Int)).toNat else min v.toNat n
def y8(n d:Nat)(hd:d<=n)(o:ε Int):dO n d o<=n:=by
 cases o with
 |none=>show hd
 |some v=>
  change(if v<0 then(v+(n)).toNat else min _ n)<=n;by_cases hv:v<0
  .rw[M2 hv];lia
  .rw[W1 hv];show Nat.min_le_right _ _
theorem _root_.Lake.mN!(a b:Nat):min (a:Int) b=(min a b:Nat):=by rw[Int.min_def,Nat.min_def];simp only[Int.ofNat_le];split<;>rfl
theorem _root_.Lake.mP!(n:Nat)(i:Int):max 0 (min (if i<0 then i+n else i) n)=((if i<0 then(i+n).toNat else min i.toNat n:Nat):Int):=by
 split
 .rw[Int.min_eq_left (by lia),Int.ofNat_toNat,Int.max_comm]
 .rw[<-mN!,Int.toNat_of_nonneg (Int.not_lt.mp ‹_›)];show Int.max_eq_right (Int.le_min.mpr ⟨Int.not_lt.mp ‹_›,Int.natCast_nonneg n⟩)
def GA(v:Int)(n d:Nat):(if v<0 then max (v+(n)) 0 else min v (n))=((dO n d<|some v)):=by
 change(if v<0 then max _ 0 else min v (n))=(((if v<0 then(v+(n)).toNat else min _ n)))
 by_cases hv:v<0
 .simp only[M2 hv];lia
 .simp only[W1 hv];rw[<-mN!,Int.toNat_of_nonneg (Int.not_lt.mp hv)]
def E1(lo hi:ε Int)(n:Nat):Sc lo hi 1 (n)=(((dO n 0 lo):Int),((dO n n hi):Int)):=by
 let h1:¬((1)<0):=by lia
 unfold Sc;erw[A59];show Prod.ext ?_ ?_
 .cases lo with
  |none=>rfl
  |some v=>show GA v n 0
 .cases hi with
  |none=>rfl
  |some v=>show GA v n n
def Dy(i j:Nat):Op (i) (j) 1=j-i:=by
 unfold Op;let h1:(1)>0:=by lia
 erw[Int.ediv_one];split<;>lia
def ug(p:IsPart v o)(h:Q o s):Ev (model prog w) A (Builtin.Slice.slicePartIndex v) Q E s:=by
 cases p with
 |none=>show slicePart_none h
 |int i t=>show slicePart_int h
def j4{lo hi:ε Int}{Q:Int×Int×Nat->ι->Prop}(hs:s.heap.IsSliceOf sl vl vu .none)(pl:IsPart vl lo)(pu:IsPart vu hi)
 (h:Q (((dO n 0 lo)),1,dO n n hi-dO n 0 lo) s):Ev (model prog w) A (al (.ref sl)<|pure<|n) Q E s:=by
 let(os,WE,BP,hds):=id hs;unfold al Builtin.Slice.sliceFields;show T0<|T0<|A38 WE hds rfl<|T0<|A38 WE hds rfl<|T0<|A38 WE hds rfl<|v6 ?_;show T0<|slicePart_none ?_;rw[W1 ∅];show T0<|ug pl<|T0<|ug pu<|T0<|v6 ?_;change Ev _ _ (match Sc lo hi 1 (n)with|(lo,hi)=>pure (lo,(1:Int),Op lo hi 1)) _ _ s;rw[E1];change Ev _ _ (pure (((dO n 0 lo):Int),(1),Op ((dO n 0 lo)) ((dO n n hi)) 1)) _ _ s;rw[Dy];show v6 h
def Ky(xs:Array ζ)(i k:Nat):((FB k).filterMap λ(m:Nat)=>xs[((i)+(m:Int)*1).toNat]?).toArray=((xs.toList.drop i).take k).toArray:=by
 let e:(λ(m:Nat)=>xs[((i)+(m:Int)*1).toNat]?)=λ m=>xs[i+m]?:=by
  funext m
  let:((i)+(m:Int)*1).toNat=i+m:=by lia
  rw[this]
 rw[e];let:=pick_run xs i k;rw[List.filterMap_map]at this;let e2:((λ x=>xs[x]?)∘λ x=>i+x)=λ m=>xs[i+m]?:=rfl;rw[e2]at this;rw[this]
def p8{lo hi:ε Int}(ht:IsTup s.heap t items)(hs:s.heap.IsSliceOf sl vl vu .none)(pl:IsPart vl lo)(pu:IsPart vu hi)
 (hw:¬(dO items.size 0 lo=0/\dO items.size items.size hi=items.u))
 (h:Q (.ref s.t) {s with heap:=s.heap.push {cls:=.type "tuple",data:=.seq ((items.toList.drop<|dO items.size 0 lo).take<|dO items.size items.size hi-dO items.size 0 lo).toArray}})
 (Gb:items.u<=sizeLine):Ev (model prog w) A (getItem (.ref t)<|.ref sl) Q E s:=by
 let Ga:sizeOk (.seq ((items.toList.drop<|dO items.size 0 lo).take<|dO items.size items.size hi-dO items.size 0 lo).toArray):=by change((items.toList.drop<|dO items.size 0 lo).take<|dO items.size items.size hi-dO items.size 0 lo).toArray.size<=sizeLine;rw[A12,A32,B54,B50];show A14 (Nat.min_le_right _ _)<|A14 (Nat.sub_le _ _) Gb
 let hj:dO items.size items.size hi<=items.u:=y8 _ _ (P3 _) hi;let(os,WE,BP,hds):=id hs;let hTs:s.TypeIs (.ref sl) "slice":=(os,WE,BP,)
 unfold getItem
 try with_reducible show A49 ?_
 first|show T0<|v6 ?_|skip
 show T0<|wpAny_sequenceKey ht.typeIs ∅ ?_;show T0 (B11 (name:=EQ "__getitem__") ht.typeIs B12
  <|B13 B12 ht.typeIs entry_tuple_getitem ?_<|args_tuple_getitem _ _)
 change Ev _ _ (bi (.ref t)>>=_) _ _ s;show T0<|tupleItemsOf_ ht ?_;show T0<|wpAny_typeOf hTs ?_;rw[M2 ∅];show T0<|j4 hs pl pu ?_;let JA:¬((((dO items.size 0 lo:Nat):Int)==0&&(1:Int)==1&&(dO items.size items.size hi-dO items.size 0 lo)==items.u)=Da):=by intro q;rw[A60,A60]at q;let q1:((dO items.size 0 lo:Nat):Int)=0:=A93 q.1.1;let q2:dO items.size items.size hi-dO items.size 0 lo=items.u:=A93 q.2;show hw ⟨by lia,by lia⟩
 change Ev _ _ (if(((dO items.size 0 lo:Nat):Int)==0&&(1:Int)==1&&(dO items.size items.size hi-dO items.size 0 lo)==items.u)=Da then _ else _) _ _ s;rw[W1 JA,Ky]
 first
  |show T0 (m:=Os _)<|A74 (v6 ⟨_,rfl,v6 h⟩) Ga
  |show T0 (m:=Os _)<|A74 (T0<|v6<|v6 ⟨_,rfl,v6 h⟩) Ga
  |show T0<|T0 (m:=Os _)<|A74 (v6<|v6 ⟨_,rfl,v6 h⟩) Ga
  |show T0<|T0 (m:=Os _)<|A74 (v6 ⟨_,rfl,v6 h⟩) Ga
end HT
namespace L2
abbrev TO:=St->Hp->(ε Int->Hp->Prop)->Prop
def PO(X:Cx)(e:ε η)(t:TO):Prop:=
 ∀ (B:U (δ×μ))(s:ι)(O:St)(H:Hp)(Q:ε Int->Hp->Prop),Inv X B O H s->t O H Q ->
  Ev (model X.prog X.w) X.A (evalPart e X.J) (λ u s'=>∃o H',Inv X B O H' s'/\IsPart u o/\Q o H') X.xe s
def OT:TO:=λ _ H Q=>Q Ch H
def Zw(t:TE):TO:=λ O H Q=>t O H λ x H1=>∃i,x=.int i/\Q (AC i) H1
section
variable{lo hi:ε η}
def Pp:PO X Ch OT:=by intro B s O H Q I h;rw[evalPart_none];show v6 ⟨Ch,H,I,.none,h⟩
def Po(h:PE X e te):PO X (AC e) (Zw te):=by intro B s O H Q I hw;rw[evalPart_some];show cj (h B s O H _ I hw) ?_;rintro u s1 ⟨x,H1,I1,r1,q1⟩;let(i,rfl,q):=q1;let(t,rfl):=r1;show(_,H1,I1,.int i t,q,)
def SV(X:Cx)(r:V->ε Int->ε Int->Hp->VK->Prop):Prop:=
 ∀ (B:U (δ×μ))(s:ι)(O:St)(H:Hp)(x:V)(v vl vu:ζ)(lo hi:ε Int)(sl:δ)(Q:VK),Inv X B O H s->RelV x v->s.heap.IsSliceOf sl vl vu .none->IsPart vl lo->IsPart vu hi->r x lo hi H Q ->
  ∃T id,typeLookup (.type T) "__getitem__"=pure (AC<|.builtin id)/\s.TypeIs v T/\Ev (model X.prog X.w) X.A (getItem v<|.ref sl) (EP X B O Q) X.xe s
def SV.or(h:SV X r)(h':SV X r'):SV X (λ x lo hi H Q=>r x lo hi H Q\/r' x lo hi H Q):=by
 intro B s O H x v vl vu lo hi sl Q I rx hs pl pu q;rcases q with q|q
 .exact h B s O H x v vl vu lo hi sl Q I rx hs pl pu q
 .exact h' B s O H x v vl vu lo hi sl Q I rx hs pl pu q
def tSl(r:V->ε Int->ε Int->Hp->VK->Prop)(te:TE)(tl th:TO):TE:=λ O H Q=>te O H λ x H1=>tl O H1 λ l H2=>th O H2 λ u H3=>r x l u H3 Q
def Ba(hr:SV X r)(he:PE X e te)(hl:PO X lo tl)(hu:PO X hi th):PE X (.Subscript e (.Slice lo hi Ch p2) pos) (tSl r te tl th):=by intro B s O H Q I h;show Subscript_<|cj (he B s O H _ I h) ?_;rintro v s1 ⟨x,H1,I1,r1,q1⟩;show wpAny_Slice<|cj (hl B s1 O H1 _ I1 q1) λ vl s2 ⟨l,H2,I2,pl,q2⟩=>cj (hu B s2 O H2 _ I2 q2) ?_;rintro vu s3 ⟨u,H3,I3,pu,q3⟩;rw[evalPart_none];show v6 ?_;let I4:Inv X B O H3 {s3 with heap:=s3.heap.push {cls:=.type "slice",data:=.fields #[vl,vu,.none]}}:=I3.kept λ b ob q=>A00 _ q;let(T,id,hT,ht,hg):=hr B {s3 with heap:=s3.heap.push {cls:=.type "slice",data:=.fields #[vl,vu,.none]}} O H3 x v vl vu l u _ Q I4 r1 (Heap.IsSliceOf.new ..) pl pu q3;show tail_any ht hT hg (by with_unfolding_all rfl)
def w_(xs:U V)(lo hi:ε Int):U V:=(xs.drop<|HT.dO xs.length 0 lo).take<|HT.dO xs.length xs.length hi-HT.dO xs.length 0 lo
def r9(xs:U V)(lo hi:ε Int):(w_ xs lo hi).length<=xs.n:=by unfold w_;rw[A32,B54];show A14 (Nat.min_le_right _ _) (Nat.sub_le _ _)
def ad5(K:Db):V->ε Int->ε Int->Hp->VK->Prop:=λ x lo hi H Q=>∃a xs,x=.ref a/\nj K H a xs /\
 ¬(HT.dO xs.length 0 lo=0/\HT.dO xs.length xs.length hi=xs.n)/\∀p,H p=Ch->Q (.ref p) (upd H p<|.tup<|w_ xs lo hi)
def U3:SV X (ad5 X.K):=by
 intro B s O H x v vl vu lo hi sl Q I rx hs pl pu h;let(a,xs,rfl,hx,hw,q):=h;ext rx;let(a6,r,ht,hz):=I.tuple hx;let ψ:a6.q.u=xs.n:=by rw[A12];show r.n.c
 show("tuple",_,B12.lookup,ht.typeIs,?_,);show HT.p8 ht hs pl pu (by rw[ψ];show hw) ?_ (by rw[ψ];show hz);rw[ψ];show(.ref _,_,I.laid (λ b ob q=>A00 _ q) (P3 _) ?_,rfl,q _<|I.bN.fresh<|P3 _,);show(A14 (r9 xs lo hi) hz,_,(r.drop _).take _,qq.new _ _,)
def Z4(K:Db):R2:=λ x y H Q=>∃a b xs ys,x=.ref a/\y=.ref b/\nj K H a xs/\nj K H b ys/\xs≠[]/\xs.n+ys.n<=sizeLine /\
 (ys=[]->Q (.ref a) H)/\(ys≠[]->∀p,H p=Ch->Q (.ref p) (upd H p<|.tup<|xs++ys))
def Vals.s?(r:Vals xs us):us=[]↔xs=[]:=by
 cases r with
 |nil=>simp
 |cons _ _=>simp
def PJ:jx X (binaryOp .Add) (Z4 X.K):=by intro B s O H x y v u Q I rx ry h;let(a,b,xs,ys,rfl,rfl,ha,hb,hx,hz,q1,q2):=h;ext rx ry;let(a6,r1,p1,_):=I.tuple ha;let(iw,r2,p2,_):=I.tuple hb;show HT.Su p1 p2 (λ z=>hx<|r1.s?.mp z) (λ z=>(.ref a,H,I,rfl,q1<|r2.s?.mp z,)) (λ z=>?_) (by rw[<-r1.n,<-r2.n];show hz);show(.ref _,_,I.laid (λ b ob q=>A00 _ q) (P3 _) ?_,rfl,q2 (λ w=>z<|r2.s?.mpr w) _<|I.bN.fresh<|P3 _,);show⟨by rw[A23];show hz,_,r1.append r2,qq.new _ _⟩
end
def _2(n:Nat)(i:Int):ε Nat:=if 0<=i then(if i<n then AC i.v else Ch)else if -(n:Int)<=i then AC (i+n).toNat else Ch
def Ya{α:Type}(xs:U α)(i:Int):ε α:=(_2 xs.length i).bind λ j=>xs[j]?
def QZ(h:_2 n i=AC j):seqIndex? i n=AC j/\j<n/\-(n)<=i/\i<n:=by
 unfold _2 at h;by_cases h0:0<=i
 .rw[M2 h0]at h;by_cases h1:i<n
  .rw[M2 h1]at h;let e:=f8 h;show⟨by rw[seqIndex_of h0 h1,e],by lia,by lia,h1⟩
  .rw[W1 h1]at h;ext h
 .rw[W1 h0]at h;by_cases h1:-(n)<=i
  .rw[M2 h1]at h;let e:=f8 h;show⟨by rw[seqIndex_neg ∅ h1,e],by lia,h1,by lia⟩
  .rw[W1 h1]at h;ext h
def Ag(h:Ya xs i=AC v):∃j,seqIndex? i xs.n=AC j/\xs[j]?=AC v/\j<xs.n/\-(xs.n)<=i/\i<xs.n:=by
 unfold Ya at h;cases e:_2 _ i with
 |none=>rw[e]at h;ext h
 |some j=>rw[e]at h;let(h1,h2,h3,h4):=QZ e;show(j,h1,h,h2,h3,h4,)
def tI(b:η):Prop:=∀o i,subscripted b AT o i=operate [o,i] (getItem o i)
def Ol(X:Cx)(r:R2):Prop:=
 ∀ (value slice:η)(B:U (δ×μ))(s:ι)(O:St)(H:Hp)(x y:V)(v u:ζ)(Q:VK),Inv X B O H s->RelV x v->RelV y u->r x y H Q ->
  subscripted slice AT v u=operate [v,u] (getItem v u)->Ev (model X.prog X.w) X.A (subscriptTail value slice v u) (EP X B O Q) X.xe s
def Yl(X:Cx)(id:String)(r:V->U V->Hp->VK->Prop):Prop:=
 ∀ (B:U (δ×μ))(s:ι)(O:St)(H:Hp)(x:V)(xs:U V)(v:ζ)(us:U ζ)(Q:VK),Inv X B O H s->RelV x v->Vals xs us->r x xs H Q ->
  Ev (model X.prog X.w) X.A (call (.builtin id)<|v::us) (EP X B O Q) X.xe s
section
def Ol.or(h:Ol X r)(h':Ol X r'):Ol X (λ x y H Q=>r x y H Q\/r' x y H Q):=by
 intro value slice B s O H x y v u Q I rx ry q hs;rcases q with q|q
 .exact h value slice B s O H x y v u Q I rx ry q hs
 .exact h' value slice B s O H x y v u Q I rx ry q hs
def KP(hr:Ol X r)(ha:PE X a ta)(hb:PE X b tb)(hs:tI b):PE X (.Subscript a b pos) (OS r ta tb):=by intro B s O H Q I h;show Subscript_<|X8 ha hb I h λ v u s2 x y H2 I2 rx ry q=>hr a b B s2 O H2 x y v u Q I2 rx ry q<|hs _ _
def Z1(K:Db):R2:=λ x y H Q=>∃p xs i v,x=.ref p/\y=.int i/\jO K H p xs/\Ya xs i=AC v/\Q v H
def ZZ(K:Db):R2:=λ x y H Q=>∃p xs i v,x=.ref p/\y=.int i/\nj K H p xs/\Ya xs i=AC v/\Q v H
def Z0:R2:=λ x y H Q=>∃z i c,x=.str z/\y=.int i/\z.n<=sizeLine/\Ya z.cps.toList i=AC c/\Q (.str ⟨#[c]⟩) H
def QY:Ol X (Z1 X.K):=by
 intro value slice B s O H x y v u Q I rx ry h hs;let(p,xs,i,z,rfl,rfl,hq,he,q):=h;ext rx;let(t,rfl):=ry;let(a6,r,pl,hz):=I.list hq;let(j,h1,h2,h3,h4,h5):=Ag he;let(w,ew,Hs):=r.get h2;let hl:=r.n;let hn:=zB;let fin:EP X B O Q w s:=(z,H,I,Hs,q,)
 by_cases h0:0<=i
 .let hj:i.v=j:=by rw[seqIndex_of h0 h5]at h1;show f8 h1
  show item_listR pl.isList h0 ∅ (by rw[hj];calc ew) fin hs
 .let hj:(i+(a6.q.u)).toNat=j:=by rw[seqIndex_neg ∅ h4]at h1;rw[A12,<-hl];show f8 h1
  show subscriptTail_builtinR pl.isList.typeIs slot_list_getitem.lookup
   (wpAny_getItem_list_neg pl.isList ∅ (by rw[A12]<;>lia) ∅ (by rw[hj];calc ew) ⟨rfl,fin⟩) hs
def Wn:Ol X (ZZ X.K):=by
 intro value slice B s O H x y v u Q I rx ry h hs;let(p,xs,i,z,rfl,rfl,hq,he,q):=h;ext rx;let(t,rfl):=ry;let(a6,r,pl,hz):=I.tuple hq;let(j,h1,h2,h3,h4,h5):=Ag he;let(w,ew,Hs):=r.get h2;let hl:=r.n;let hn:=zB;let fin:EP X B O Q w s:=(z,H,I,Hs,q,)
 show subscriptTail_builtinR pl.typeIs slot_tuple_getitem.lookup
  (getItem_tuple pl ∅ ∅ (by rw[A12,<-hl];show h1) (by calc ew) ⟨rfl,fin⟩) hs
def uR:Ol X Z0:=by
 intro value slice B s O H x y v u Q I rx ry h hs;let(z,i,c,rfl,rfl,hz,he,q):=h;let(t,rfl):=rx;let(t',rfl):=ry;let(j,h1,h2,h3,h4,h5):=Ag he;let hl:z.cps.y.n=z.n:=by simp[Str.length]
 rw[hl]at h1 h4 h5;let hn:=zB;show tail_any (A81 s z t) slot_str_getitem.lookup (getItem_str (by let e1:decide (i < -(2^63))=AT:=A36 ∅;let e2:decide (i≥2^63)=AT:=A36 ∅;rw[e1,e2,Bool.or_false]) (by rw[h1];calc h2) ⟨.str ⟨#[c]⟩,H,I.tok _,⟨_,rfl⟩,q⟩) hs
def rIx(K:Db):R2:=λ x y H Q=>Z1 K x y H Q\/ZZ K x y H Q\/Z0 x y H Q
def LX:Ol X (rIx X.K):=QY.or<|Wn.or uR
def yV(lo hi:ε Int)(n:Nat):(sliceBounds lo hi Ch n).1=((HT.dO n 0 lo))/\(sliceBounds lo hi Ch n).2.1=((HT.dO n n hi))/\(sliceBounds lo hi Ch n).2.2=1:=by
 show(?_,?_,rfl,)
 .cases lo with
  |none=>simp[sliceBounds,HT.dO]
  |some i=>
   show mP! n i
 .cases hi with
  |none=>simp[sliceBounds,HT.dO]
  |some i=>
   show mP! n i
def wy(a6:U ζ)(lo hi:ε Int):slicePick a6.toArray lo hi Ch=((a6.drop<|HT.dO a6.length 0 lo).take<|HT.dO a6.length a6.length hi-HT.dO a6.length 0 lo).toArray:=by let(h1,h2,h3):=yV lo hi a6.q.u;unfold slicePick;rw[h1,h2,h3];erw[sliceRange_one,pick_run]<;>rfl
def ad7(K:Db):V->ε Int->ε Int->Hp->VK->Prop:=λ x lo hi H Q=>∃a xs,x=.ref a/\jO K H a xs/\∀p,H p=Ch->Q (.ref p) (upd H p<|.lst<|w_ xs lo hi)
def σ6:SV X (ad7 X.K):=by intro B s O H x v vl vu lo hi sl Q I rx hs pl pu h;let(a,xs,rfl,hx,q):=h;ext rx;let(a6,r,ht,hz):=I.list hx;let ψ:=r.n;show("list",_,slot_list_getitem.lookup,ht.x.typeIs,?_,);show wpAny_getItem_list_slice ht.isList hs pl pu .none ∅ ?_ (by rw[A12]<;>lia);rw[wy,<-ψ];show(.ref _,_,I.laid (λ b ob q=>A00 _ q) (P3 _) ?_,rfl,q _<|I.bN.fresh<|P3 _,);show(A14 (r9 xs lo hi) hz,_,0,(r.drop _).take _,A18 _ rfl,)
def xf:kz X (.type "tuple") (λ xs H Q=>∃p ys,xs=[.ref p]/\((jO X.K H p ys/\∀l,H l=Ch->Q (.ref l) (upd H l<|.tup ys))\/(nj X.K H p ys/\Q (.ref p) H))):=by
 intro B s O H xs us Q I r h;let(p,ys,rfl,h):=h;let(u,rfl,rx):=vals1 r;ext rx;rcases h with⟨hq,q⟩|⟨hq,q⟩
 .let(a6,r',pl,hz):=I.list hq;let ψ:=r'.n;show call_tuple_list pl.isList (λ h' kp=>?_) (by erw[A12]<;>lia);let I1:=I.kept (t':=s.toks) kp;let I2:=
   I1.laid (t':=s.toks) (λ b o e=>A00 _ e) (P3 _)<|show e! _ X.w _ _ _ (.tup ys)from⟨hz,a6,r',qq.new _ _⟩
  show(.ref _,_,I2,rfl,q _<|I1.bN.fresh<|P3 _,)
 .let(a6,r',pl,hz):=I.tuple hq;show call_tuple_same pl ⟨.ref p,H,I,rfl,q⟩
def tyV(K:Db)(T:String)(x:V)(H:Hp):Prop:=match x with
|.str _=>T="str"
|.int _=>T="int"
| .ref p=>(T="list" /\ ∃xs,jO K H p xs)\/(T="tuple" /\ ∃o,K.lookup p=AC o/\o.cls=.type "tuple" /\ o.dict=Ch) \/
 (T="dict" /\ ((∃aG,H p=AC (.dK aG))\/∃aG,H p=AC (.dT aG)))\/(T="set" /\ ∃S n,H p=AC (.set S n))
|_=>False
def UO(I:Inv X B O H s)(r:RelV x v)(ty:tyV X.K T x H) :
 s.TypeIs v T/\∀a,v=.ref a->∃ob,s.heap.get? a=AC ob/\ob.dict=Ch:=by
 cases x with
 |str z=>let(t,rfl):=r;cases (ty);show⟨A81 s z t,λ _ e=>nomatch e⟩
 |int i=>let(t,rfl):=r;cases (ty);show⟨B28 s i t,λ _ e=>nomatch e⟩
 |ref p=>
  ext r;rcases ty with⟨rfl,xs,hq⟩|⟨rfl,o,hk,hc,hd⟩|⟨rfl,hk⟩|⟨rfl,S,n,hk⟩
  .let(a6,_,pl,_):=I.list hq;show(pl.x.typeIs,λ a e=>?_,);ext e;let(o,n,e,c,hd,_):=pl;show(o,e,hd,)
  .refine⟨⟨o,I.jw p o hk,hc⟩,λ a e=>?_⟩;ext e;show(o,I.jw _ o hk,hd,)
  .let z:∃o,s.heap.get? p=AC o/\o.ExactDict:=by
    rcases hk with⟨aG,hk⟩|⟨aG,hk⟩
    .let(_,_,_,_,o,_,_,e,ex,_):=I.bN p _ hk;show(o,e,ex,)
    .let(_,_,_,_,o,_,_,e,ex,_):=I.bN p _ hk;show(o,e,ex,)
   let(o,e,ex):=z;show((o,e,ex.1,),λ a e2=>?_,);ext e2;show(o,e,ex.2.1,)
  .let(o,_,_,_,e,ex,_):=I.bN p _ hk;show((o,e,ex.1,),λ a e2=>?_,);ext e2;show(o,e,ex.2.1,)
 |_=>show GT ty
def tBM(K:Db)(T:String)(r:V->U V->Hp->VK->Prop)(to:TE)(t:TA):TE:=λ O H Q=>to O H λ x H1=>tyV K T x H1/\t O H1 λ xs H2=>r x xs H2 Q
variable{T id:String}
theorem uB(pa:PlainAttrs T)(slot:Slot T name id)(hty:typeOf (.builtin id)=pure (.type "method_descriptor"))(hm:Yl X id r)(ho:PE X o to)(ha:PA X (e::es) t)
 (jg:attributeBase o name X.env (eval o X.J)=eval o X.J:=by rfl)
 (oG:((backTo k!<|starEach (e::es) X.J).all (λ x=>!x.1)&&(backToKw k!<|keywordEach [] X.J).all (λ x=>x.1.isSome)
  && decide ((e::es).length+([]:U π).length+(if([]:U π).isEmpty then 0 else 1)<30))=Da:=by rfl)
 (jf:(apos.endLine==k!.line)=Da:=by rfl) (hs:Se e es X.J:=by rfl) (f':Pn k! es X.J:=by rfl) :
 PE X (.Call (.Attribute o name apos) (e::es) [] k!) (tBM X.K T r to t):=by
 intro B s O H Q I h;show wpAny_Call_method_late jg oG jf rfl<|cj (ho B s O H _ I h) ?_;rintro v s1 ⟨x,H1,I1,r1,ty,q1⟩;let(h1,h2):=UO I1 r1 ty;show(T,id,pa,slot,hty,h1,h2,?_,);let hA:=ha k! B s1 O H1 _ I1 q1;rw[hs]at hA ⊢;show Calls.callWith_builtin (by change(AT||(backTo k! _).any _)=AT;rw[f']<;>rfl)<|Calls.evalArgs_plain ?_;show cj hA <|by rintro us s2 ⟨vs,H2,I2,r2,q2⟩;show hm B s2 O H2 x vs v us Q I2 r1 r2 q2
/- xs.append(e),list.index on a Ls tuple .. are Yl facts of 06m -/
end
def MtM(X:Cx)(id:String)(r:V->U V->Hp->VK->Prop):Prop:=
 ∀ (B:U (δ×μ))(s:ι)(O:St)(H:Hp)(x:V)(xs:U V)(v:ζ)(us:U ζ)(Q:VK),Inv X B O H s->RelV x v->Vals xs us->r x xs H Q ->
  Ev (model X.prog X.w) X.A (call (.builtin id)<|v::us) (EP X B O Q) X.xe s
def Vals.one:∀{x}{us},Vals [x] us->∃u,us=[u]/\RelV x u:=by intro x us h;cases h with|cons r h=>ext h;show(_,rfl,r,)
def Vals.rep(h:Vals xs us):∀k,Vals (Do k xs).flatten (Do k us).flatten
|0=>.nil
|k+1=>by rw[A82,A82,B14,B14];show Vals.append h<|Vals.rep h k
def foldl_rep(a6:U ζ):∀k acc,
 AE3 (λ x1 x2=>x1++x2) acc.toArray (Do k a6.q)=(acc++(Do k a6).flatten).toArray
|0,acc=>by simp
|k+1,acc=>by
 let e:acc.q++a6.q=(acc++a6).toArray:=by simp
 let e2:(acc++a6)++(Do k a6).flatten=acc++(Do (k+1) a6).flatten:=by rw[A82,B14,A75]
 rw[<-e2,<-foldl_rep,<-e,A82,AD7]
theorem Inv._Q{a6 BI:U ζ}(I:Inv X B O H s)(hH:H l=AC (.lst xs))
 (e:s.heap.get? l=AC {cls:=.type "list",data:=.seq a6.toArray n}) (hf:f a6.q=BI.q) (hv:Vals ys BI) (hz:ys.n<=sizeLine) :
 Inv X B O (upd H l<|.lst ys) {s with heap:=s.heap.update l<|Obj.mapSeq f,toks:=t'}:=by
 let q:=PySem.IsL.update e f;rw[hf]at q;show I.write (by rw[hH];show trivial) (.inl rfl) (λ b' u hb hu=>(A83 _ _<|A15 hb).trans hu) ⟨_,q⟩ ?_;show(hz,BI,_,hv,q,)
def Inv._S(I:Inv X B O H s)(hv:Vals ys a6)(hz:ys.n<=sizeLine):
 Inv X B O (upd H s.heap.objs.size<|.lst ys) {s with heap:=s.heap.push {cls:=.type "list",data:=.seq a6.q},toks:=t'}:=
 I.laid (λ _ _ q=>A00 _ q) (P3 _) ⟨hz,a6,0,hv,A18 _ rfl⟩
def Inv.fresh(I:Inv X B O H s):H s.t=Ch:=I.bN.fresh<|P3 _
def Inv.Qy(I:Inv X B O H s)(hH:H l=AC (.lst xs)):xs.n<=sizeLine/\∃a6 n,Vals xs a6/\xs.n=a6.n/\s.heap.get? l=AC {cls:=.type "list",data:=.seq a6.toArray n}:=by let(z,a6,n,r,e):=I.bN l _ hH;show(z,a6,n,r,r.n,e,)
def Bo(h:n<=sizeLine):TW n=AT:=by show A36 ∅
def FC:V->U V->Hp->VK->Prop:=λ x vs H Q=>∃l xs y,x=.ref l/\vs=[y]/\H l=AC (.lst xs)/\xs.n<sizeLine/\Q .non (upd H l<|.lst<|xs++[y])
def xP:MtM X "list.append" FC:=by intro B s O H x vs v us Q I rx rv h;let(l,xs,y,rfl,rfl,hH,hz,q):=h;ext rx;let(u,rfl,ru):=rv.one;let(z,a6,n,r,hl,e):=I.Qy hH;show A53 F.slot_list_append ⟨_,e,rfl⟩ F.entry_list_append (F.args_list_append_2 _ _) (PySem.list_append l _ n u (by rw[A12];lia)) ⟨e,?_⟩;show(.non,_,I._Q hH e ∅ (r.append<|.cons ru .nil) ?_,rfl,q,);rw[A23,List.length_singleton];lia
def FA:V->U V->Hp->VK->Prop:=λ x vs H Q=>∃l b xs zs,x=.ref l/\vs=[.ref b]/\H l=AC (.lst xs)/\H b=AC (.lst zs)/\xs.n+zs.n<=sizeLine/\Q .non (upd H l<|.lst<|xs++zs)
def H!:MtM X "list.extend" FA:=by
 intro B s O H x vs v us Q I rx rv h;let(l,b,xs,zs,rfl,rfl,hH,hB,hz,q):=h;ext rx;let(u,rfl,ru):=rv.one;ext ru;let(z,a6,n,r,hl,e):=I.Qy hH;let(z2,iw,n2,r2,Rh,e2):=I.Qy hB;let Gb:a6.q.u+iw.q.u<=sizeLine:=by rw[A12,A12];lia
 let L?:¬(!a6.toArray.isEmpty&&TW (a6.q.u+iw.q.u))=Da:=by rw[Bo Gb,B97];show A89
 show A53 F.slot_list_extend ⟨_,e,rfl⟩ F.entry_list_extend (F.args_list_extend_2 _ _)
  (AutoSeq1.list_extend_list_list_0 l _ n b _ n2 L? (by rw[A12];lia) ∅) ⟨e,e2,?_⟩
 show(.non,_,I._Q hH e ∅ (r.append r2) ?_,rfl,q,);rw[A23];lia
def ad8:R2:=λ x y H Q=>∃l k xs,x=.ref l/\y=.int k/\H l=AC (.lst xs)/\-(2^63)<=k/\k<2^63/\xs.n*k.v<=sizeLine /\
 ∀p,H p=Ch->Q (.ref p) (upd H p<|.lst (Do k.toNat xs).flatten)
def len_rep{α:Type}(xs:U α)(k:Nat):(Do k xs).flatten.length=k*xs.n:=by
 induction k with
 |zero=>simp
 |succ k ih=>rw[A82,B14,A23,ih,B29,A94]
def Vr:jx X (binaryOp .Mult) ad8:=by
 intro B s O H x y v u Q I rx ry h;let(l,k,xs,rfl,rfl,hH,h1,h2,hz,q):=h;ext rx;let(t,rfl):=ry;let(z,a6,n,r,hl,e):=I.Qy hH;let ψ:a6.q.u*k.v<=sizeLine:=by rw[A12,<-hl];show hz
 let afI:¬a6.q.u*k.v>(2^63-1) / 8:=by
  let:(sizeLine)<=(2^63-1) / 8:=by decide
  lia
 let afu:¬(!Builtin.List.listFitsIndex k)=Da:=by rw[fitsIndex_both h1 h2];show A89
 let L?:¬TW (a6.q.u*k.v)=Da:=by rw[Bo ψ];show A89
 let WJ:AE3 (λ x1 x2=>x1++x2) #[] (Do (if a6.q.isEmpty=Da then 0 else k.v) a6.q)=(Do k.toNat a6).flatten.toArray:=by
  let f0:=λ m=>by let:=foldl_rep a6 m [];rw[B30]at this;show this
  rw[f0];cases a6 with
  |nil=>simp
  |cons a r'=>rw[W1 ∅]
 show C45 ∅ ⟨_,e,rfl⟩ (λ s'=>B28 s' k t) noFill_list_mul F.fills_int_mul B55 repeat_list F.slot_int_index.lookup
  (A53 B55 (B28 s k t) F.entry_int_rmul (F.args_int_rmul_2 _ _) (int___rmul___int_list k t l a6.toArray n)
   ⟨e,rfl,⟨_,e,rfl⟩,A53 F.slot_list_mul ⟨_,e,rfl⟩ F.entry_list_mul (F.args_list_mul_2 _ _) (AutoListH.list___mul___list_int_3 l a6.toArray n k t afu afI L?) ⟨e,?_⟩⟩)
 rw[WJ];show(.ref _,_,I._S (r.rep k.v) (by rw[len_rep,Nat.mul_comm];show hz),rfl,q _ I.fresh,)
end L2
namespace Att
open PySem.W PySem.Calls
def sG:∀ns vs,WellAll P h vs (ns.map WData.int)->IntsAre vs ns:=by
 intro ns
 induction ns with
 |nil=>intro vs w;rw[A41]at w;ext w;show .nil
 |cons n ns ih=>
  intro vs w;rw[A06]at w;cases w with
  |cons a b=>ext a;show .cons _ _<|ih _ b
def Hr{l:OpenLaw}(hn:l.most=AC n)
 (Eg:l.row.toRowW.claim.pre args=Da) (hwl:WellAll P h vals args) :
 ∃a vs ns,vals=[Value.ref a]/\args=[WData.list (ns.map WData.int)]/\h.get? a=AC {cls:=.type "list",data:=.seq vs.q}/\IntsAre vs ns/\ns.n<=n:=by
 let hsh:=(pre_splitW Eg).1;let hc:l.pre.holds [] {args:=args}=Da:=(pre_splitW Eg).2;let(d,r,rfl,h1,h2):=hasAllW_cons hsh;obtain rfl:=hasAllW_nil h2;let(xs,rfl,h3):=hasW_list h1;let(ns,rfl):=items_int h3;let ψ:ns.n<=n:=by
  let h4:(WTm.not<|.lt (.lit<|.int<|n)<|.len<|.arg 0).holds [] {args:=[.list (ns.map .int)]}=Da:=by let h4:=(holds_andW hc).1;rw[hn]at h4;show h4
  let h5:=condW_of h4<|w_not<|w_lt w_lit<|w_len_list<|w_arg rfl;rw[A04]at h5;show Nat.le_of_not_lt λ q=>?_;let q':(n)<((ns.n)):=by lia
  first
   |(rw[A30 q']at h5;show absurd h5 ∅)
   |(simp at h5;lia)
 cases hwl with
 |cons w1 w2=>
  ext w2;cases w1 with
  |list ho hall=>show(_,_,ns,rfl,rfl,ho,sG ns _ hall,ψ,)
def Hy(l:OpenLaw)(args:U WData):l.row.toRowW.claim.post args (.bool Da) args=Da:=
 postW_of
  (show WShape.has [] _ .bool=Da by first|rfl|decide|simp[WShape.armsAll])
  (w_eq_bool (w_res rfl) w_lit) rfl
end Att
namespace L2
def xq:∀{vs}{ns},IntsAre vs ns->Vals (ns.map V.int) vs
|_,_,.nil=>.nil
|_,_,.cons n t h=>.cons ⟨t,rfl⟩<|xq h
def S3(H:Hp):Prop:=∀b,H b=Ch\/(∃o xs,H b=AC (.eu o<|.lst xs))\/∃q,H b=AC (.J0 q)
def TabAt(K:Db)(x:Str)(b:δ):Prop:=x∈c_/\∃c,Rs K x=AC (c,b)
def QC{K:Db}(one:∀x y c P c',x∈c_->y∈c_->Rs K x=AC (c,P)->Rs K y=AC (c',P)->x=y)(h:TabAt K x b)(g:TabAt K y b):x=y:=by let(h1,c,h2):=h;let(g1,d,g2):=g;show one x y c b d h1 g1 h2 g2
open Classical in
def Df(K:Db)(a:δ)(u:HO)(s:Bool):Hp:=λ b=>if h:∃x,TabAt K x b then AC (.J0<|jz h.choose)else if s=Da/\b=a then AC u else Ch
theorem LN{P:ο}{w:ξ}{K:FS}{mg mb:Str->ε ζ}{CX:Yt}{k:Nat}{fa a:δ}{fd:υ}{x:Str}{sp:Sp}{s₁:ι}{vs:U ζ}{ns:U Int}
 (KX:K.In s₁.e) (L':s₁.heap.Ns mainGlobals mg) (hb:s₁.heap.Ns builtinsNs mb) (hbb:∀x:Str,x≠ "__name__" -> mb x=bootBuiltins x) (afe:s₁.e.NoLimit) (hg:s₁.gens=#[])
 (ha:s₁.heap.get? a=AC {cls:=.type "list",data:=.seq vs.q}) (hi:IntsAre vs ns) (hl:ns.n<=sizeLine) (hr:bf k callerA)
 (F:∀base:ν,K.In base->base.Ns mainGlobals mg->fi P w K mg base CX k fa fd [x] sp) (mm:∀(s:ι)(u:ζ),BindsTo s fd ⟨[u],[]⟩ [(x,u)])
 (Ip:∀H:Hp,S3 H->jO K H a (ns.map V.int)->sp [.ref a] H (λ v _=>v=.bl Da) λ _ _ _=>False)
 (hCX:∀H e s',CX [] H s₁ (λ _ _ _=>False) e s'->False)
 (one:∀x y c P c',x∈c_->y∈c_->Rs K x=AC (c,P)->Rs K y=AC (c',P)->x=y)
 (tab:∀x∈c_,∀c P,Rs K x=AC (c,P)->(AE5 s₁.heap c P/\s₁.heap.get? P=AC (nw #[]))/\s₁.heap.TableAt c P #[]) (bm:BMain mg s₁.e) (jv:PySem.W.noTabs K=Da) :
 codeAny (model P w) callerA (.call (.ref fa) ⟨[.ref a],[]⟩) (λ r s'=>r=.ok (.ret<|.bool Da)/\OldK s₁.heap s'.e/\s'.os=s₁.os/\AllBare s'.gens) s₁:=by
 let rv:=xq hi;let aew:=hi.n;let OR:∀{b}{y},TabAt K y b->s₁.heap.get? b=AC (nw #[]):=λ {b y} ⟨h1,c,h2⟩=>(tab y h1 c b h2).1.2;let TM:∀{b}{o},s₁.heap.get? b=AC o->o≠nw #[]->¬∃y,TabAt K y b:=λ {b o} e n ⟨y,h⟩=>by let:=OR h;rw[e]at this;show n<|f8 this
 let at1:∀{b}{u}{q}{y},TabAt K y b->Df K a u q b=AC (.J0<|jz y):=λ {b u q y} h=>by
  let hh:∃x,TabAt K x b:=(y,h,)
  unfold Df;rw[A95 hh];rw[QC one hh.choose_spec h]
 let at2:∀{b}{u}{q},(¬∃y,TabAt K y b)->Df K a u q b=if q=Da/\b=a then AC u else Ch:=λ {b u q} h=>by unfold Df;rw[dif_neg h]
 let core:∀u q,(∃o xs,u=.eu o (.lst xs))->jO K (Df K a u q) a (ns.map V.int)->(q=Da->e! P w (Df K a u q) s₁.heap a u)->(q=Da->K.lookup a=Ch) ->
  codeAny (model P w) callerA (.call (.ref fa) ⟨[.ref a],[]⟩) (λ r s'=>r=.ok (.ret<|.bool Da)/\OldK s₁.heap s'.e/\s'.os=s₁.os/\AllBare s'.gens) s₁:=by
  intro u q hu hS hua hK;generalize hHH:Df K a u q=H at hS hua;let na:¬∃y,TabAt K y a:=TM ha λ z=>by ext z
  let of:∀{b}{v},H b=AC v->(∃y,TabAt K y b/\v=.J0 (jz y))\/(q=Da/\b=a/\v=u):=λ {b v} e=>by
   by_cases hb:∃y,TabAt K y b
   .let(y,hy):=hb;rw[<-hHH,at1 hy]at e;ext e;show .inl ⟨y,hy,rfl⟩
   .rw[<-hHH,at2 hb]at e;split at e
    .rename_i hc;ext e;show .inr ⟨hc.1,hc.2,rfl⟩
    .ext e
  let bN:lX P w H s₁.e:=λ b v e=>by
   rcases of e with⟨y,hy,rfl⟩|⟨hq,rfl,rfl⟩
   .exact⟨#[],OR hy,trivial,λ pos cv z=>nomatch z⟩
   .exact hua hq
  let hO:S3 H:=λ b=>by
   cases e:H b with
   |none=>show .inl rfl
   |some v=>
    rcases of e with⟨y,_,rfl⟩|⟨_,_,rfl⟩
    .exact .inr<|.inr ⟨_,rfl⟩
    .let(o,xs,rfl):=hu;show .inr<|.inl ⟨o,xs,rfl⟩
  let tF:∀{b}{o},s₁.heap.get? b=AC o->H b=Ch->(wL s₁.heap H).get? b=AC o:=λ e n=>L_ e n;let VU:∀{b}{o},s₁.heap.get? b=AC o->(∀xs n,o.data≠.seq xs n)->(∀xs,o.data≠.fields xs\/o.cls≠.none)->H b=Ch:=λ {b o} e d d2=>by
   cases r:H b with
   |none=>rfl
   |some v=>
    rcases of r with⟨y,hy,_⟩|⟨_,hba,_⟩
    .rw[OR hy]at e;ext e;rcases d2 #[]with z|z
     .exact absurd rfl z
     .exact absurd rfl z
    .rw[hba,ha]at e;ext e;show absurd rfl<|d _ _
  let nsK:∀{b:δ}{m:Str->ε ζ},s₁.heap.Ns b m->(wL s₁.heap H).Ns b m:=λ {b m} ⟨o,es,ep,e,d,r⟩=>(o,es,ep,tF e (VU e (λ xs n z=>by rw[d]at z;ext z) λ xs=>.inl λ z=>by rw[d]at z;ext z),d,r,)
  let hKb:K.In (wL s₁.heap H):=λ b o e=>tF (KX b o e) (by
   cases r:H b with
   |none=>rfl
   |some v=>
    rcases of r with⟨y,hy,_⟩|⟨hq,hba,_⟩
    .let e2:=KX b o e;rw[OR hy]at e2;ext e2;let h2:=A35.mp jv _<|PySem.W.mem_of_lookupK e;show absurd (show AT=Da from h2) A89
    .rw[hba,hK hq]at e;ext e)
  let hM:Mod K mg (wL s₁.heap H):=(hKb,nsK L',(mb,nsK hb,hbb,),let ⟨mc,h1,h2⟩:=afe;⟨mc,nsK h1,h2⟩,)
  let hT:yw K mg (wL s₁.heap H) H:=λ y hy c p e=>by let(((o,vs,file,tf,flags,tg,inF,text,tt,e1,e2,e3,r),_),_):=tab y hy c p e;let(bmA,ob,b1,b2,b3,b4,b5,b6):=bm;show⟨by rw[<-hHH];show at1 ⟨hy,c,e⟩,(o,vs,file,tf,flags,tg,inF,text,tt,tF e1 (VU e1 (λ xs n z=>by rw[e3]at z;ext z) λ xs=>.inr λ z=>by rw[e2]at z;ext z),e2,e3,r,),bmA,ob,b1,b2,tF b3 (VU b3 (λ xs n z=>by rw[b6]at z;ext z) λ xs=>.inr λ z=>by rw[b4]at z;ext z),b4,b5,b6⟩
  let e0:E5 P w K mg (wL s₁.heap H) callerA [] s₁ H:=(rfl,hM,λ b o e=>P7 e,B87<|Iu _ _,trivial,λ b hb=>absurd (show b∈([]:U δ)from hb) ∅,bN,.of_eq hg,hT,)
  show A91 ((F _ hKb<|nsK L').run callerA [] s₁ H ⟨[.ref a],[]⟩ [.ref a] [.ref a] _ _ hr e0 (mm s₁<|.ref a) (.cons rfl .nil)<|Ip H hO hS) λ r s' h=>?_;cases r with
  |error e=>show(hCX H e s' h).elim
  |ok fl=>
   cases fl with
   |next=>show GT h
   |brk=>show GT h
   |cont=>show GT h
   |ret u'=>
    let(v,H',os,bare,un,aai,r',q'):=h;let q':v=.bl Da:=q';subst q';obtain rfl:u'=Value.bool Da:=r';show(rfl,(λ b o e=>?_,λ b o e=>un.there b o e ∅,),os,bare,);cases r:H b with
    |none=>show .inl<|un.keep b o e r (by intro z;show absurd (show b∈([]:U δ)from z) ∅) ∅
    |some v=>
     rcases of r with⟨y,hy,rfl⟩|⟨_,_,rfl⟩
     .let r2:=un.n8 b (.J0<|jz y) trivial r;let(ps,g1,_):=aai b _ r2;let(h1,c,h2):=hy;let tb:=(tab y h1 c b h2).2;let e3:o={cls:=.none,data:=.fields #[]}:=f8<|e.symm.trans tb.2;subst e3;show .inr<|.inl ⟨tb.isCodeTable,rfl,#[],ps,rfl,by rw[g1];simp⟩
     .let(ob,xs,rfl):=hu;let z2:=un.q? b ob _ r;let(e1,_):=bN b _ r;let(e2,_):=aai b _ z2;rw[e]at e1;ext e1;show .inl e2
 let na:¬∃y,TabAt K y a:=TM ha λ z=>by ext z
 cases hk:K.lookup a with
 |some o=>
  let e:=KX a o hk;rw[ha]at e;ext e;show core (.eu {cls:=.type "list",data:=.seq vs.q}<|.lst []) AT ⟨_,_,rfl⟩ (.inr ⟨_,vs.q,_,hk,rfl,rfl,rfl,by rw[A12,aew];show hl,by calc rv⟩) (λ z=>nomatch z) λ z=>nomatch z
 | none=>show core (.eu {cls:=.type "list",data:=.seq vs.q}<|.lst<|ns.map V.int) Da ⟨_,_,rfl⟩ (.inl<|.inr ⟨{cls:=.type "list",data:=.seq vs.q},by rw[at2 na];show M2 ⟨rfl,rfl⟩⟩) (λ _=>⟨ha,by rw[A04];show hl,vs,_,rv,ha⟩) λ _=>hk
def bg(s:θ):Arguments:=match s with
|.FunctionDef _ a _ _ _ _ _ _ _ _=>a
|_=>{posonlyargs:=[],args:=[],vararg:=Ch,kwonlyargs:=[],kw_defaults:=[],kwarg:=Ch,defaults:=[]}
def az(s:θ):U θ:=match s with
|.FunctionDef _ _ b _ _ _ _ _ _ _=>b
|_=>[]
def aa(s:θ):ς:=match s with
|.FunctionDef _ _ _ _ _ _ sc _ _ _=>sc
|_=>{kind:=.function,names:=[],isGenerator:=AT,isCoroutine:=AT}
abbrev iC:Yt:=λ _ _ _ _ _ _=>False
abbrev E0:XK:=λ _ _ _=>False
def nJ:Passes iC X E0:=λ _ _ _ _ _ _ _ h=>h.elim
structure CJ(K:Db)(x qual:Str)(st:Stmt)(f:Addr)(fd:FuncData):Prop where
 ex:∃(oc:Value)(od:Option Addr)(kV doc pm:Value)(an:Option Addr)(aU ct:Value)(zc:Array (Option Value)),
  fd=Ps x qual (bg st) (az st) (aa st) .none kV doc pm an aU ct/\K.lookup f=AC ⟨oc,od,.func fd,zc⟩/\SL K aU qual=Da
 kp:Fa K (.ref f)=Da
section
variable{K:Db}
def CJ.ok{st:θ}(F:CJ K x qual st f fd)(S:aT N ps (aa st))(len:∀vs H Q E,sp vs H Q E->vs.n=ps.n)
 (BR:∀aU A outer s H vs Q E,bf k (A.deeper<|envOfC qual (aa st) s.heap.objs.size f aU)->sp vs H Q E ->
  ∃t,rq (dG iC P w K mg base N qual (aa st) f aU A outer s H E).fQ (az st) t/\t {nx:=λ _ H'=>Q .non H',rt:=Q} (start N vs) H):fi P w K mg base iC (k+1) f fd ps sp:=by
 let(oc,od,kV,doc,pm,an,aU,ct,zc,rfl,lk,rT):=F.ex;show B2 lk rT S len λ A outer s H vs Q E hr Ip=>?_;let(t,h,q):=BR aU A outer s H vs Q E hr Ip;show(t,h.fQ,q,)
def CJ.binds{st:θ}(F:CJ K x qual st f fd)
 (h:∀kV doc pm an aU ct us,us.n=ps.n->bindArgs (Ps x qual (bg st) (az st) (aa st) .none kV doc pm an aU ct) ⟨us,[]⟩=pure (ps.zip us)):Binds K fd ps []:=by
 let(oc,od,kV,doc,pm,an,aU,ct,zc,rfl,lk,rT):=F.ex;show .all<|h kV doc pm an aU ct
def u?{st:θ}{kV doc pm aU ct:ζ}(l:K.lookup f=AC ⟨oc,od,.func<|PySem.W.fnOf x qual (bg st) (az st) (aa st) .none kV doc pm an aU ct,zc⟩)
 (c:SL K aU qual=Da) (k:Fa K (.ref f)=Da):CJ K x qual st f (Ps x qual (bg st) (az st) (aa st) .none kV doc pm an aU ct):=((oc,od,kV,doc,pm,an,aU,ct,zc,rfl,l,c,),k,)
end
def pv(i:Nat)(hN:X.N[i]?=AC x:=by rfl)(hv:NH X.env.scope x:=by first|show AF3 rfl|show xz<|Or.inl rfl|show xz<|Or.inr rfl)(hd:Nd x:=by decide)
 (rT:(x==("__classdict__"))=AT:=by decide):PE X (.Name x pos) (nr i):=uA hN hv hd rT
def av(H H':Hp):Prop:=∀b o,H b=AC o->H' b=AC o
def av.refl(H:Hp):av H H:=λ _ _ h=>h
def av.trans(a:av H H1)(b:av H1 H2):av H H2:=λ c o h=>b c o<|a c o h
def av.free(e:av H H')(h:H' l=Option.none):H l=Option.none:=by
 cases q:H l with
 |none=>rfl
 |some o=>rw[e l o q]at h;ext h
def av.seq{K:Db}(e:av H H')(h:jO K H a xs):jO K H' a xs:=by
 rcases h with(h|⟨o,h⟩)|h
 .exact .inl<|.inl<|e _ _ h
 .exact .inl<|.inr ⟨o,e _ _ h⟩
 .exact .inr h
section
variable{κ:Type}[DecidableEq κ]
def n6(aG:U (κ×V))(k:κ):ε V:=(aG.find? λ kv=>decide<|kv.1=k).map (·.2)
def putK(aG:U (κ×V))(k:κ)(v:V):U (κ×V):=
 if(aG.any λ kv=>decide<|kv.1=k)=Da then aG.map (λ kv=>if kv.1=k then(kv.1,v)else kv)else aG++[(k,v)]
def lZ{k:κ}(e:p.1=k):n6 (p::r) k=AC p.2:=by simp[n6,e]
def jY{k:κ}(e:¬p.1=k):n6 (p::r) k=n6 r k:=by simp[n6,e]
def AJ(k:κ):∀aG,(aG.any λ kv=>decide<|kv.1=k)=(n6 aG k).isSome
|[]=>rfl
|p::r=>by
 rw[A96];by_cases e:p.1=k
 .simp only[lZ e,A30 e,Bool.true_or,Option.isSome_some]
 .rw[jY e,A36 e,Bool.false_or];show AJ k r
def mh(aG:U _)(k:κ)(v:V):(putK aG k v).length<=aG.n+1:=by
 unfold putK;split
 .rw[A04];lia
 .rw[A23,A22,A76];lia
def lU.qZ(r:lU o u):o.isSome=u.isSome:=by
 cases o with
 |none=>cases u with
  |none=>rfl
  |some _=>show(r).elim
 |some _=>cases u with
  |none=>show(r).elim
  |some _=>rfl
def KV.val(r:KV aG vs)(k:κ):lU (n6 aG k) (valueAt vs k):=by
 induction r with
 |nil=>show GE
 |@cons p q ps qs h t ih=>
  let(h1,h2):=h;by_cases e:p.1=k
  .let e':=h1.symm.trans e;let b:valueAt (q::qs) k=AC q.2:=by simp[valueAt,e']
   rw[lZ e,b];show h2
  .let e':¬q.1=k:=λ z=>e<|h1.trans z;let b:valueAt (q::qs) k=valueAt qs k:=by simp[valueAt,e']
   rw[jY e,b];show ih
def KV.any(r:KV aG vs)(k:κ):(aG.any λ kv=>decide<|kv.1=k)=vs.any λ kv=>decide (kv.1=k):=by
 induction r with
 |nil=>rfl
 |cons h t ih=>rw[A96,A96,ih,h.1]
def KV.U8(r:KV aG vs)(k:κ)(ry:RelV y u):
 KV (aG.map λ kv=>if kv.1=k then(kv.1,y)else kv) (vs.map λ kv=>if kv.1=k then(kv.1,u)else kv):=by
 induction r with
 |nil=>show .nil
 |@cons p q ps qs h t ih=>
  rw[A06,A06];show .cons ?_ ih;let(h1,h2):=h;by_cases e:p.1=k
  .rw[M2 e,M2<|h1.symm.trans e];show(h1,ry,)
  .rw[W1 e,W1 λ z=>e<|h1.trans z];show(h1,h2,)
def KV.put(r:KV aG vs)(k:κ)(ry:RelV y u):KV (putK aG k y) (stored vs k u):=by
 unfold putK stored;rw[r.any];by_cases e:(vs.any λ kv=>decide<|kv.1=k)=Da
 .rw[M2 e,M2 e];show r.U8 k ry
 .rw[W1 e,W1 e];show Paired.snoc r ⟨rfl,ry⟩
def KV.length{vs:U (κ×ζ)}(r:KV aG vs):aG.n=vs.n:=B48 r
end
def BH(r:RelV (kV k) u):(d9 P w).is k u=Da:=by
 cases k with
 |inl i=>obtain⟨t,e⟩:=(r);subst e;show Bu P w i t
 |inr x=>obtain⟨t,e⟩:=(r);subst e;show Bt P w x t
def x!:∀{ks}{us},Vals (ks.map kV) us->ItemsAre (d9 P w) ks us
|[],_,r=>by rw[A41]at r;ext r;show .nil
|k::ks,_,r=>by
 rw[A06]at r;cases r with
 |cons h t=>show .cons (BH h)<|x! t
abbrev KT(H:Hp):U (U Key×V)->U (U Key×δ×ζ)->Prop:=Paired λ p q=>p.1=q.1/\H q.2.1=AC (.tup<|p.1.map kV)/\RelV p.2 q.2.2
def KT.val(r:KT H aG xs)(k:U Key):lU (n6 aG k) ((atKey xs k).map (·.2)):=by
 induction r with
 |nil=>show GE
 |@cons p q ps qs h t ih=>
  let(h1,_,h2):=h;by_cases e:p.1=k
  .let e':=h1.symm.trans e;let b:atKey (q::qs) k=AC q.2:=by simp[atKey,e']
   rw[lZ e,b];show h2
  .let e':¬q.1=k:=λ z=>e<|h1.trans z;let b:atKey (q::qs) k=atKey qs k:=by simp[atKey,e']
   rw[jY e,b];show ih
def KT.U8(r:KT H aG xs)(k:U Key)(ry:RelV y u):
 KT H (aG.map λ kv=>if kv.1=k then(kv.1,y)else kv) (xs.map<|putAt k u):=by
 induction r with
 |nil=>show .nil
 |@cons p q ps qs h t ih=>
  rw[A06,A06];show .cons ?_ ih;let(h1,h2,h3):=h;unfold putAt;by_cases e:p.1=k
  .rw[M2 e,M2<|h1.symm.trans e];show(h1,h2,ry,)
  .rw[W1 e,W1 λ z=>e<|h1.trans z];show(h1,h2,h3,)
def KT.put(r:KT H aG xs)(k:U Key)(hb:H b=AC (.tup<|k.map kV))(ry:RelV y u):
 KT H (putK aG k y) (storedH xs k b u):=by
 let e:(aG.any λ kv=>decide<|kv.1=k)=(atKey xs k).isSome:=by rw[AJ,(r.val k).qZ,AB4]
 unfold putK storedH;rw[e];by_cases q:(atKey xs k).isSome=Da
 .rw[M2 q,M2 q];show r.U8 k ry
 .rw[W1 q,W1 q];show Paired.snoc r ⟨rfl,hb,ry⟩
def KT.keeps(r:KT H aG xs)(ht:∀b ys,H b=AC (.tup ys)->H' b=AC (.tup ys)):KT H' aG xs:=
 Paired.Ly r λ _ _ z=>(z.1,ht _ _ z.2.1,z.2.2,)
section
variable{P:ο}{w:ξ}{H:Hp}{h:ν}{a:δ}
def Tq(ok:lX P w H h)(e:Rd H a u):e! P w H h a u:=e.ok ok
def Gu(ok:lX P w H h)(e:Rd H a (.dK aG)):aG.n<=sizeLine/\(a==sysModules)=AT/\∃vs,KV aG vs/\h.DictOf (d9 P w) a vs:=
 Tq ok e
def Uh(ok:lX P w H h)(e:H a=AC (.dK aG)):aG.n<=sizeLine/\(a==sysModules)=AT/\∃vs,KV aG vs/\h.DictOf (d9 P w) a vs:=Gu ok<|.inl e
theorem zD(ok:lX P w H h)(e:H a=AC (.tup<|ks.map kV)):(tupleKind<|d9 P w).is h ks a:=by
 obtain⟨_,a6,r,tn⟩:=(ok a _ e)
 let(o,h1,h2,n,h3):=tn.is;show⟨o,_,n,h1,h2,h3,by calc x! r⟩
def Gq(ok:lX P w H h)(e:Rd H a (.dT aG)):aG.n<=sizeLine/\(a == sysModules)=AT /\
 ∃xs,KT H aG xs/\h.DictOfH (tupleKind<|d9 P w) a xs:=by
 obtain⟨z,y,xs,r,o,es,ep,h1,h2,h3,h4,h5⟩:=(Tq ok e)
 show(z,y,xs,r,o,es,ep,h1,h2,h3,h4,λ x hx=>?_,h5,);let all:∀{l}{m},KT H l m->∀x∈m,(tupleKind<|d9 P w).is h x.1 x.2.1:=by
  intro l m q
  induction q with
  |nil=>intro x hx;show nomatch hx
  |@cons p q ps qs hq t ih=>
   intro x hx;rcases A01.mp hx with e|hx
   .subst e;show zD ok (by rw[<-hq.1];show hq.2.1)
   .exact ih x hx
 show all r x hx
def vn(ok:lX P w H h)(e:H a=AC (.dT aG)):aG.n<=sizeLine/\(a==sysModules)=AT /\
 ∃xs,KT H aG xs/\h.DictOfH (tupleKind<|d9 P w) a xs:=Gq ok<|.inl e
end
def Al(H:Hp)(a:δ)(y:V)(r:ε V):Prop:=
 (∃aG k,Rd H a (.dK aG)/\y=kV k/\r=n6 aG k)\/∃aG k b,Rd H a (.dT aG)/\y=.ref b/\H b=AC (.tup<|k.map kV)/\r=n6 aG k
def NN(H:Hp)(a:δ)(y v:V)(H':Hp):Prop:=
 (∃aG k,H a=AC (.dK aG)/\y=kV k/\aG.n<sizeLine/\H'=upd H a (.dK<|putK aG k v)) \/
 ∃aG k b,H a=AC (.dT aG)/\y=.ref b/\H b=AC (.tup<|k.map kV)/\aG.n<sizeLine/\H'=upd H a (.dT<|putK aG k v)
def Al.k{k:Key}(e:H a=AC (.dK aG)):Al H a (kV k) (n6 aG k):=.inl ⟨aG,k,.inl e,rfl,rfl⟩
def NN.k{k:Key}(e:H a=AC (.dK aG))(hl:aG.n<sizeLine):NN H a (kV k) v (upd H a<|.dK<|putK aG k v):=.inl ⟨aG,k,e,rfl,hl,rfl⟩
section
variable{X:Cx}{B:U (δ×μ)}{O:St}{H:Hp}{s:ι}{a:δ}{y v:V}{u r:ζ}{o:ε V}{A:τ}{E:ζ->ι->Prop}
def Inv.big(I:Inv X B O H s):sysModules<s.t:=by let h:=(I.mod.glob.keeps I.bk).lt;show B56 ∅ h
def I?(hu:A.units+1<cLine)(I:Inv X B O H s)(g:Al H a y (AC v))(ry:RelV y u)(h:∀w' s',Inv X B O H s'->RelV v w'->Q w' s'):
 Ev (model X.prog X.w) A (getItem (.ref a) u) Q E s:=by
 rcases g with⟨aG,k,e,ey,l⟩|⟨aG,k,b,e,ey,eb,l⟩
 .subst ey;let(z,hd,vs,rel,dd):=Gu I.bN e;let(w',hw,Hs):=lU.some_of (v:=v) (o:=valueAt vs k) (by rw[l];show rel.val k);show wpAny_getItem_of (BH ry) dd.mapOf hw<|h w' _ (I.tok _) Hs
 .subst ey;cases (ry);let(z,hd,xs,rel,dd):=Gq I.bN e;let(w',hw,Hs):=lU.some_of (v:=v) (o:=(atKey xs k).map (·.2)) (by rw[l];show rel.val k);let(p,hp,hp2):=B31.mp hw;show wpAny_getItem_heap (B98 hu) (zD I.bN eb) dd hp ?_;rw[hp2];show h w' _ (I.tok _) Hs
def Sh(hu:A.units+1<cLine)(I:Inv X B O H s)(g:Al H a y o)(ry:RelV y u)(h:∀s',Inv X B O H s'->Q (.bool<|!o.isSome) s'):
 Ev (model X.prog X.w) A (compareOp .NotIn u<|.ref a) Q E s:=by
 rcases g with⟨aG,k,e,ey,l⟩|⟨aG,k,b,e,ey,eb,l⟩
 .subst ey;let(z,hd,vs,rel,dd):=Gu I.bN e;show wpAny_notIn_of (BH ry) hd dd.mapOf ?_;rw[<-(rel.val k).qZ,<-l];show h _<|I.tok _
 .subst ey;cases (ry);let(z,hd,xs,rel,dd):=Gq I.bN e;show wpAny_notIn_heap (B98 hu) (zD I.bN eb) hd dd ?_;let q:=(rel.val k).qZ;rw[AB4]at q;rw[<-q,<-l];show h _<|I.tok _
def Aa(I:Inv X B O H s)(mu:Mut (H a))(hs:KF a s.heap h')(he:∃q,h'.get? a=AC q)(new:e! X.prog X.w (upd H a ob) h' a ob):
 Inv X B O (upd H a ob) {s with heap:=h',toks:=t'}:=
 I.write mu (.inl rfl) (λ b q hb z=>(hs.2 b hb).trans z) he new
def MU(z:aG.n<=sizeLine)(hd:(a==sysModules)=AT)(rel:KV aG vs)(dd:h'.DictOf (d9 P w) a vs):
 e! P w H' h' a (.dK aG):=(z,hd,vs,rel,dd,)
def I!(hu:A.units+1<cLine)(I:Inv X B O H s)(g:NN H a y v H')(ry:RelV y u)(rv:RelV v r)(h:∀s',Inv X B O H' s'->Q () s'):
 Ev (model X.prog X.w) A (setItem (.ref a) u r) Q E s:=by
 rcases g with⟨aG,k,e,ey,l,eH⟩|⟨aG,k,b,e,ey,eb,l,eH⟩
 .subst ey eH;let(z,hd,vs,rel,dd):=Uh I.bN e;let hz:vs.n<=sizeLine:=by rw[<-rel.n];show z
  let hl:(putK aG k v).length<=sizeLine:=by let:=mh aG k v;lia
  show wpAny_setItem_pairs (BH ry) dd λ h' Ui hs=>h _ ?_;let he:∃q,h'.get? a=AC q:=let ⟨q,_,_,hq,_⟩:=Ui;⟨q,hq⟩;show Aa I (by rw[e];show GE) hs he<|MU hl hd (rel.put k rv) Ui
 .subst ey eH;cases (ry);let(z,hd,xs,rel,dd):=vn I.bN e;let hz:xs.n<=sizeLine:=by rw[<-B48 rel];show z
  let hl:(putK aG k v).length<=sizeLine:=by let:=mh aG k v;lia
  show wpAny_setItem_heap (B98 hu) (zD I.bN eb) dd λ h' Ui hs=>h _ ?_;let(q,es,ep,hq,h2,h3,h4,_,h5):=Ui;show Aa I (by rw[e];show GE) hs ⟨q,hq⟩ ⟨hl,hd,_,(rel.put k eb rv).keeps λ c ys ec=>?_,q,es,ep,hq,h2,h3,h4,h5⟩;rw[ak<|TN ec e λ z=>nomatch z];show ec
end
def Yk(i:η):Prop:=∀ov iv,subscripted i AT ov iv=operate [ov,iv] (getItem ov iv)
def OX{T id:String}
 (hl:typeLookup (.type T) "__getitem__"=pure (AC<|.builtin id)) (hs:Yk slice)
 (h:Ev (model prog w) A (eval value env) (λ o s₁=>Ev (model prog w) A (eval slice env) (λ i s₂=>s₂.TypeIs o T/\Ev (model prog w) A (getItem o i) Q E s₂) E s₁) E s) :
 Ev (model prog w) A (eval (.Subscript value slice pos) env) Q E s:=by
 show Subscript_<|A20 h (λ o s₁ h₁=>A20 h₁ (λ i s₂ h₂=>?_) λ _ _ x=>x) λ _ _ x=>x;let(hT,h₂):=h₂;show T0 ?_;rw[getitemInPython_of_ne hT.not_modules];show T0<|wpAny_specialOf hT hl ?_;let fin:Ev (model prog w) A (subscripted slice AT o i) (λ r s₃=>Ev (model prog w) A (letTemporaryGo value o r>>=λ _=>pure r) Q E s₃) E s₂:=by rw[hs];show wpAny_operating<|A20 h₂ (λ r s₃ h₃=>T0<|wpAny_letTemporaryGo<|v6 h₃) λ _ _ x=>x
 first
  |show v6<|T0 fin
  |show T0 _
  |show T0 fin
def Cj(I:Inv X B O H s)(g:Al H a y o):s.TypeIs (.ref a) "dict":=by
 rcases g with⟨aG,k,e,_,_⟩|⟨aG,k,b,e,_,_,_⟩
 .let(_,_,vs,_,dd):=Gu I.bN e;show dd.typeIs
 .let(_,_,xs,_,dd):=Gq I.bN e;show dd.typeIs
def ZD(td ty:TE):TE:=λ O H Q=>td O H λ x H1=>ty O H1 λ y H2=>∃a v,x=.ref a/\Al H2 a y (AC v)/\Q v H2
def OV(ty td:TE):TE:=λ O H Q=>ty O H λ y H1=>td O H1 λ x H2=>∃a o,x=.ref a/\Al H2 a y o/\Q (.bl<|!o.isSome) H2
def ZN(td ty tv:TE):TS:=λ D O H=>tv O H λ v H1=>td O H1 λ x H2=>ty O H2 λ y H3=>∃a H4,x=.ref a/\NN H3 a y v H4/\D.nx O H4
section
variable{X:Cx}{o i e value:η}{pos pos' aiN:Pos}{td ty tv:TE}
def Pw(hu:X.A.units+1<cLine)(ho:PE X o td)(hi:PE X i ty)(hs:Yk i):PE X (.Subscript o i pos) (ZD td ty):=by intro B s O H Q I h;show OX PySem.F.slot_dict_getitem.lookup hs<|cj (ho B s O H _ I h) λ u s1 ⟨x,H1,I1,rx,q1⟩=>cj (hi B s1 O H1 _ I1 q1) ?_;rintro iv s2 ⟨y,H2,I2,ry,a,v,ex,g,q2⟩;subst ex;obtain rfl:u=Value.ref a:=rx;show(Cj I2 g,I? hu I2 g ry λ w' s3 I3 Hs=>(v,H2,I3,Hs,q2,),)
def HB(hu:X.A.units+1<cLine)(hi:PE X i ty)(ho:PE X o td):PC X .NotIn i o (OV ty td):=by intro B s O H Q I h;show cj (hi B s O H _ I h) λ iv s1 ⟨y,H1,I1,ry,q1⟩=>cj (ho B s1 O H1 _ I1 q1) ?_;rintro u s2 ⟨x,H2,I2,rx,a,ov,ex,g,q2⟩;subst ex;obtain rfl:u=Value.ref a:=rx;show Sh hu I2 g ry λ s3 I3=>(.bl _,H2,I3,rfl,q2,)
def Pj(hu:X.A.units+1<cLine)(ho:PE X o td)(hi:PE X i ty)(hv:PE X value tv)(hs:swapsWith value (AC<|.Subscript o i pos') pos.line X.J=pure AT):
 PS X (.Assign [.Subscript o i pos'] value pos) (ZN td ty tv):=by
 intro B s O H D I h;show wpAny_Assign_Subscript (cj (hv B s O H _ I h) λ r s1 ⟨v,H1,I1,rv,q1⟩=>cj (ho B s1 O H1 _ I1 q1) λ u s2 ⟨x,H2,I2,rx,q2⟩=>cj (hi B s2 O H2 _ I2 q2) ?_) hs;rintro iv s3 ⟨y,H3,I3,ry,a,H4,ex,g,q3⟩;subst ex;obtain rfl:u=Value.ref a:=rx;show I! hu I3 g ry rv λ s4 I4=>(O,H4,I4,q3,)
end
def MV(h:ν)(hb:sysModules<h.Z):e! P w H (h.push {cls:=.type "dict",data:=.dict #[]}) h.objs.size (.dK []):=
 ⟨A48 _,A57.mpr<|A15<|A16 hb,[],.nil,Heap.DictOf.new h⟩
def yP:U (TE×TE)->St->Hp->(U (V×V)->Hp->Prop)->Prop
|[],_,H,Q=>Q [] H
|(tk,tv)::r,O,H,Q=>tk O H λ x H1=>tv O H1 λ y H2=>yP r O H2 λ ps H3=>Q ((x,y)::ps) H3
abbrev VV:U (V×V)->U (ζ×ζ)->Prop:=Paired λ p q=>RelV p.1 q.1/\RelV p.2 q.2
def PPs(X:Cx)(pos:Pos)(keys:U (ε η))(values:U η)(UT:U (TE×TE)):Prop:=
 ∀ (B:U (δ×μ))(s:ι)(O:St)(H:Hp)(Q:U (V×V)->Hp->Prop),Inv X B O H s->yP UT O H Q ->
  Ev (model X.prog X.w) X.A (evalPairs<|pairTrees keys values X.env pos) (λ vs s'=>∃ps H',Inv X B O H' s'/\VV ps vs/\Q ps H') X.xe s
def Pm:PPs X pos [] [] []:=λ B s O H Q I h=>pairTrees_nil_walk ⟨[],H,I,.nil,h⟩
def Kx(hk:PE X k tk)(hv:PE X v tv)(hr:PPs X pos ks vs UT):
 PPs X pos (AC k::ks) (v::vs) ((tk,tv)::UT):=λ B s O H Q I h=>
 pairTrees_cons_walk<|cj (hk B s O H _ I h) <|by rintro u s1 ⟨x,H1,I1,rx,q1⟩;show cj (hv B s1 O H1 _ I1 q1) <|by rintro w2 s2 ⟨y,H2,I2,ry,q2⟩;show cj (hr B s2 O H2 _ I2 q2) <|by rintro ws s3 ⟨ps,H3,I3,rel,q3⟩;show((x,y)::ps,H3,I3,.cons ⟨rx,ry⟩ rel,q3,)
def qT(aG more:U (Key×V)):U (Key×V):=more.foldl (λ acc kv=>putK acc kv.1 kv.2) aG
def KV.merge:∀{more}{rs}{aG}{vs},KV more rs->KV aG vs->KV (qT aG more) (merged vs rs):=by
 intro more rs aG vs r
 induction r generalizing aG vs with
 |nil=>intro q;show q
 |@cons p q ps qs h t ih=>
  intro r0;let e:KV (putK aG p.1 p.2) (stored vs q.1 q.2):=by let:=r0.put p.1 h.2;rw[<-h.1];show this
  show ih e
def nQ:∀more aG,(qT aG more).length<=aG.n+more.n
|[],aG=>by change aG.n<=aG.n+0;lia
|p::r,aG=>by let h1:=nQ r<|putK aG p.1 p.2;let h2:=mh aG p.1 p.2;change(qT _ r).length<=_;rw[A22];lia
def vH:∀{aG}{ws},VV (aG.map λ kv=>(kV kv.1,kv.2)) ws->∃rs,Carries (d9 P w) ws rs/\KV aG rs
|[],_,r=>by rw[A41]at r;ext r;show([],GE,.nil,)
|p::aG,_,r=>by
 rw[A06]at r;cases r with
 |@cons a b as bs h t=>let(rs,c,q):=vH (P:=P) (w:=w) t;let(b1,b2):=b;show((p.1,b2)::rs,(BH h.1,rfl,c,),.cons ⟨rfl,h.2⟩ q,)
def ZC(UT:U (TE×TE)):TE:=λ O H Q=>∀p,H p=Ch->yP UT O (upd H p<|.dK []) λ ps H2=>H2 p=AC (.dK [])/\∃aG:U (Key×V),ps=aG.map (λ kv=>(kV kv.1,kv.2))/\aG.n<=15/\Q (.ref p) (upd H2 p<|.dK<|qT [] aG)
def Pu(h:PPs X pos keys values UT)(hall:keys.all (·.isSome)=Da)(hl:keys.n=values.n)(h0:keys≠[])
 (h15:keys.n<=15):PE X (.Dict keys values pos) (ZC UT):=by
 intro B s O H Q I q;let hn:=I.bN.fresh<|P3 _;let I1:=I.laid (t':=s.toks) (λ _ _ q=>A00 _ q) (P3 _)<|MV _ I.big;show wpAny_Dict_walk (knd:=d9 _ X.w) hall hl h0 h15<|cj (h B _ O _ _ I1<|q _ hn) ?_;rintro ws s2 ⟨ps,H2,I2,rel,e,aG,ep,lk,q2⟩;subst ep;let(rs,c,rk):=vH (P:=X.prog) (w:=X.w) rel;let(z,hd,vs0,r0,dd):=Uh I2.bN e;ext r0;show(rs,c,dd,λ h' Ui hs=>(.ref _,_,?_,rfl,q2,),);let hz:(qT [] aG).length<=sizeLine:=by let h1:=nQ aG [];rw[A76]at h1;rw[A26];lia
 let he:∃q,h'.get? _=AC q:=let ⟨q,_,_,hq,_⟩:=Ui;⟨q,hq⟩;show Aa I2 (by rw[e];show GE) hs he<|MU hz hd (rk.merge .nil) Ui
end L2
set_option genSizeOf true
namespace Z
set_option genInjectivity true
inductive D where
|non
|bl (b:Bool)
|int (i:Int)
|str (cs:List Nat)
|tup (xs:List D)
|lst (xs:List D)
|dct (ks:List (Sum Int<|List Nat)) (vs:List D)
inductive Res(α:Type) where
|ok (a:α)
|bad
namespace Res
def bind{α β:Type}(r:Res α)(f:α->Res β):Res β:=
 match r with
 |ok a=>f a
 |bad=>bad
@[simp] def cW(a:α)(f:α->Res β):(Res.ok a).bind f=f a:=rfl
@[simp] def abt(f:α->Res β):(Res.bad).bind f=bad:=rfl
def map{α β:Type}(f:α->β)(r:Res α):Res β:=
 match r with
 |ok a=>ok<|f a
 |bad=>bad
@[simp] def aeu(a:α)(f:α->β):(Res.ok a).map f=ok (f a):=rfl
@[simp] def acB(f:α->β):(Res.bad).map f=bad:=rfl
def ag{f:α->Res β}(h:r.bind f=ok b):∃a,r=ok a/\f a=ok b:=by
 cases r with
 |ok a=>show(a,rfl,h,)
 |bad=>ext h
end Res
open Classical in
def guard{α:Type}(p:Prop)(r:Res α):Res α:=if p then r else .bad
@[simp] def guard_true(r:Res α):guard True r=r:=by show M2 trivial
def guard_pos{r:Res α}(h:p):guard p r=r:=by show M2 h
def bO{a:α}(h:guard p r=.ok a):p/\r=.ok a:=by
 unfold guard at h;split at h
 .rename_i q;show(q,h,)
 .ext h
inductive L where
|val (d:D)
|own (xs:List D)
|bor (d:D)
|dc (k:List (List Int) ⊕ List (List Nat×List Nat))
|JD (ks:List (List Int))
|T3 (ps:List (Int×Int))
|exc (c:List Nat×List (List Nat×D))
abbrev L.De(aG:U (U Nat×U Nat)):L:=.dc<|.inr aG
abbrev DK:=U (U Int) ⊕ U (U Nat×U Nat)
abbrev Env:=U<|ε L
abbrev EF:=Env->Res D
abbrev LF:=Env->Res (U D)
abbrev TF:=Env->Res Bool
abbrev AF:=Env->Res (U D)
inductive Fl where
|nx (Y:Env)
|rt (d:D)
|bk (Y:Env)
|ct (Y:Env)
set_option genInjectivity false
abbrev SF:=Env->Res Fl
abbrev GF:=D->Env->Res Env
abbrev line:Nat:=16777216
def cb:U (U Nat):=[[104,97,108,108],[103,117,101,115,116,115],[104,101,108,100],[112,108,97,99,101,115]]
def gx(a kd:Nat)(ks:U (U Nat))(vs:U D):D:=.dct (.inl a::.inl kd::ks.map .inr) vs
@[simp] def eC(d:D)(_:Env):Res D:=.ok d
def eV(i:Nat)(Y:Env):Res D:=match Y[i]? with
|some<|some<|.val d=>.ok d
|_=>.bad
def eW(i:Nat)(Y:Env):Res D:=match Y[i]? with
|some<|some<|.val d=>.ok d
|some<|some<|.own xs=>.ok<|.lst xs
|some<|some<|.bor<|.lst xs=>.ok<|.lst xs
|_=>.bad
abbrev eI(n:Int):EF:=eC<|.int n
@[simp] def eB(op:D->D->Res D)(a b:EF)(Y:Env):Res D:=(a Y).bind λ x=>(b Y).bind λ y=>op x y
@[simp] def eU(op:D->Res D)(a:EF)(Y:Env):Res D:=(a Y).bind op
def vm(a b:EF)(Y:Env):Res D:=(a Y).bind λ x=>match x with
|.bl c=>if c then b Y else .ok (.bl AT)
|_=>.bad
def YZ(a b:EF)(Y:Env):Res D:=(a Y).bind λ x=>match x with
|.bl c=>if c then .ok (.bl Da)else b Y
|_=>.bad
def RD(a:EF)(Y:Env):Res D:=(a Y).bind λ x=>match x with
|.bl c=>.ok<|.bl !c
|_=>.bad
def g_(op HK:D->D->Res D)(a b c:EF)(Y:Env):Res D:=(a Y).bind λ x=>(b Y).bind λ y=>(op x y).bind λ z=>match z with
|.bl k=>if k then(c Y).bind λ w=>HK y w else .ok (.bl AT)
|_=>.bad
@[simp] def eIf(t:TF)(a b:EF)(Y:Env):Res D:=(t Y).bind λ c=>if c then a Y else b Y
@[simp] def eL(l:LF)(Y:Env):Res D:=(l Y).map D.lst
@[simp] def ah(_:Env):Res (U D):=.ok []
@[simp] def ae(a:EF)(r:AF)(Y:Env):Res (U D):=(a Y).bind λ x=>(r Y).bind λ xs=>.ok<|x::xs
@[simp] def a9(as:AF)(Y:Env):Res (U D):=(as Y).bind λ xs=>guard (xs.n<=line)<|.ok xs
@[simp] def cw(as:AF)(Y:Env):Res D:=(as Y).bind λ xs=>guard (xs.n<=line)<|.ok<|.tup xs
abbrev aV(i:Nat):=ae<|eV i
abbrev aI(n:Int):=ae<|eI n
@[simp] def ai(f:U D->Res D)(as:AF)(Y:Env):Res D:=(as Y).bind f
def tE(a:EF)(Y:Env):Res Bool:=(a Y).bind λ x=>match x with
|.bl c=>.ok c
|_=>.bad
@[simp] def ue(a b:TF)(Y:Env):Res Bool:=(a Y).bind λ c=>if c then b Y else .ok AT
@[simp] def yQ(a b:TF)(Y:Env):Res Bool:=(a Y).bind λ c=>if c then .ok Da else b Y
@[simp] def fN(a:TF)(Y:Env):Res Bool:=(a Y).bind λ c=>.ok !c
def bits(a:Int):Nat:=if a=0 then 0 else a.natAbs.log2+1
def aC:D->D->Res D
|.int a,.int b=>.ok<|.int<|a+b
|.str a,.str b=>guard (a.n+b.n<=line)<|.ok<|.str<|a++b
|.tup a,.tup b=>guard (a.n+b.n<=line)<|.ok<|.tup<|a++b
|_,_=>.bad
def ny:D->D->Res D
|.int a,.int b=>.ok<|.int<|a-b
|_,_=>.bad
def bS(a b:Int):Prop:=((-18446744073709551616<a/\a<18446744073709551616)\/(-18446744073709551616<b/\b<18446744073709551616)\/(bits a<=16777216/\bits b<=16777216))
def fP:D->D->Res D
|.int a,.int b=>guard (bS a b)<|.ok<|.int<|a*b
|_,_=>.bad
def iV(b:Int):Prop:=0<b/\b<1809251394333065553493296640760748560207343510400633813116524750123642650624
def oDiv:D->D->Res D
|.int a,.int b=>guard (iV b)<|.ok<|.int<|a / b
|_,_=>.bad
def oMod:D->D->Res D
|.int a,.int b=>guard (0<b)<|.ok<|.int<|a % b
|_,_=>.bad
def oy:D->D->Res D
|.int a,.int b=>guard (0<=b/\b<=1000000/\a.natAbs<2^64)<|.ok<|.int<|a^b.v
|_,_=>.bad
def P9:D->Res D
|.int a=>.ok<|.int<|-a
|_=>.bad
def Jx:U Nat->U Nat->Bool
|[],[]=>AT
|[],_::_=>Da
|_::_,[]=>AT
|a::as,b::bs=>if a<b then Da else if a=b then Jx as bs else AT
def oLt:D->D->Res D
|.int a,.int b=>.ok<|.bl<|decide<|a<b
|_,_=>.bad
def oLe:D->D->Res D
|.int a,.int b=>.ok<|.bl<|decide<|a<=b
|.str a,.str b=>.ok<|.bl<|!(Jx b a)
|_,_=>.bad
def zk:D->D->Res D
|.int a,.int b=>.ok<|.bl<|decide<|b<a
|_,_=>.bad
def YF:D->D->Res D
|.int a,.int b=>.ok<|.bl<|decide<|b<=a
|_,_=>.bad
def eqS:D->D->ε Bool
|.non,.non=>AC Da
|.bl a,.bl b=>AC<|a==b
|.bl a,.int b=>AC<|(if a then 1 else 0)==b
|.int a,.bl b=>AC<|a==(if b then 1 else 0)
|.int a,.int b=>AC<|a==b
|.str a,.str b=>AC<|a==b
|.non,.bl _=>AC AT
|.non,.int _=>AC AT
|.non,.str _=>AC AT
|.bl _,.non=>AC AT
|.bl _,.str _=>AC AT
|.int _,.non=>AC AT
|.int _,.str _=>AC AT
|.str _,.non=>AC AT
|.str _,.bl _=>AC AT
|.str _,.int _=>AC AT
|_,_=>Ch
def allEq(f:D->D->ε Bool):U D->U D->ε Bool
|[],[]=>AC Da
|[],_::_=>AC AT
|_::_,[]=>AC AT
|a::as,b::bs=>match f a b,allEq f as bs with
 |some x,AC y=>AC<|x&&y
 |_,_=>Ch
def iI:Nat->D->D->ε Bool
|n+1,.tup a,.tup b=>allEq (iI n) a b
|n+1,.lst a,.lst b=>allEq (iI n) a b
|_,.tup _,.lst _=>AC AT
|_,.lst _,.tup _=>AC AT
|_,.tup _,.non=>AC AT
|_,.tup _,.bl _=>AC AT
|_,.tup _,.int _=>AC AT
|_,.tup _,.str _=>AC AT
|_,.non,.tup _=>AC AT
|_,.bl _,.tup _=>AC AT
|_,.int _,.tup _=>AC AT
|_,.str _,.tup _=>AC AT
|_,.lst _,.non=>AC AT
|_,.lst _,.bl _=>AC AT
|_,.lst _,.int _=>AC AT
|_,.lst _,.str _=>AC AT
|_,.non,.lst _=>AC AT
|_,.bl _,.lst _=>AC AT
|_,.int _,.lst _=>AC AT
|_,.str _,.lst _=>AC AT
|_,x,y=>eqS x y
def lQ:D->D->ε Bool:=iI 6
def oEq(a b:D):Res D:=match lQ a b with
|some x=>.ok<|.bl x
|none=>.bad
def o!(a b:D):Res D:=match lQ a b with
|some x=>.ok<|.bl !x
|none=>.bad
def lN:D->Res D
|.non=>.ok<|.bl Da
|_=>.ok<|.bl AT
def jF:D->Res D
|.non=>.ok<|.bl AT
|_=>.ok<|.bl Da
def Ld:D->D->Res D
|.str [c],.str t=>.ok<|.bl<|t.contains c
|_,_=>.bad
def pO:D->D->Res D
|.str [c],.str t=>.ok<|.bl<|!(t.contains c)
|_,_=>.bad
def gU(x:D):U D->ε Bool
|[]=>AC AT
|y::r=>match lQ y x,gU x r with
 |some a,AC b=>AC<|a||b
 |_,_=>Ch
def Ap:D->D->Res D
|x,.tup ys=>match gU x ys with
 |some b=>.ok<|.bl b
 |none=>.bad
|x,.lst ys=>match gU x ys with
 |some b=>.ok<|.bl b
 |none=>.bad
|_,_=>.bad
def oz:D->D->Res D
|x,.tup ys=>match gU x ys with
 |some b=>.ok<|.bl !b
 |none=>.bad
|x,.lst ys=>match gU x ys with
 |some b=>.ok<|.bl !b
 |none=>.bad
|_,_=>.bad
def ck:D->Res D
|.str t=>guard (t.n<=line)<|.ok<|.int t.n
|.tup xs=>.ok<|.int xs.n
|.lst xs=>.ok<|.int xs.n
|_=>.bad
inductive Ty where
|bool|int|str|tuple|list|dict
def dC:Ty->D->Bool
|.bool,.bl _=>Da
|.int,.bl _=>Da
|.int,.int _=>Da
|.str,.str _=>Da
|.tuple,.tup _=>Da
|.list,.lst _=>Da
|.dict,.dct _ _=>Da
|_,_=>AT
@[simp] def iL(t:Ty)(x:D):Res D:=.ok<|.bl<|dC t x
def xZ(n:Nat)(i:Int):ε Nat:=if 0<=i then(if i<n then AC i.v else Ch)else if -(n:Int)<=i then AC (i+n).toNat else Ch
def aW:D->D->Res D
|.tup xs,.int i=>match (xZ xs.length i).bind λ j=>xs[j]? with
 |some v=>.ok v
 |none=>.bad
|.lst xs,.int i=>match (xZ xs.length i).bind λ j=>xs[j]? with
 |some v=>.ok v
 |none=>.bad
| .str cs,.int i=>guard (cs.n<=line) (match (xZ cs.length i).bind λ j=>cs[j]? with
 |some c=>.ok<|.str [c]
 | none=>.bad)
|_,_=>.bad
abbrev eX(i n:Nat):=eB aW (eW i)<|eI n
abbrev aX(i n:Nat):=ae<|eX i n
abbrev eY(i j:Nat):=eB aW (eW i)<|eW j
def dO(n d:Nat):ε Int->Nat
|none=>d
|some i=>if i<0 then(i+n).toNat else min i.toNat n
def cut{α:Type}(xs:U α)(lo hi:ε Int):U α:=(xs.drop<|dO xs.length 0 lo).take<|dO xs.length xs.length hi-dO xs.length 0 lo
abbrev PF:=Env->Res (ε Int)
@[simp] def NW(_:Env):Res (ε Int):=.ok Ch
def qQ(a:EF)(Y:Env):Res (ε Int):=(a Y).bind λ x=>match x with
|.int i=>.ok<|some i
|_=>.bad
def _i:D->ε Int->ε Int->Res D
|.str cs,lo,hi=>guard (cs.n<=line)<|.ok<|.str<|cut cs lo hi
|.tup xs,lo,hi=>.ok<|.tup<|cut xs lo hi
|_,_,_=>.bad
@[simp] def MF(a:EF)(lo hi:PF)(Y:Env):Res D:=(a Y).bind λ x=>(lo Y).bind λ l=>(hi Y).bind λ h=>_i x l h
def LQ(a:EF)(lo hi:PF)(Y:Env):Res (U D):=(a Y).bind λ x=>(lo Y).bind λ l=>(hi Y).bind λ h=>match x with
|.lst xs=>.ok<|cut xs l h
|_=>.bad
def Ig(a b:EF)(Y:Env):Res (U D):=(a Y).bind λ x=>(b Y).bind λ y=>match x,y with
|.lst xs,.lst ys=>guard (xs.n+ys.n<=line)<|.ok<|xs++ys
|_,_=>.bad
def allB:U D->ε Bool
|[]=>AC Da
|.bl b::r=>(allB r).map (b&&·)
|_::_=>Ch
def gZ:D->Res D
|.lst xs=>match allB xs with
 |some b=>.ok<|.bl b
 |none=>.bad
|_=>.bad
def mi:D->Res (U D)
|.tup xs=>.ok xs
|.lst xs=>.ok xs
|.str cs=>.ok<|cs.map λ c=>.str [c]
|_=>.bad
@[simp] def cY(a:EF)(Y:Env):Res (U D):=(a Y).bind mi
def zints(lo:Int)(n:Nat):U D:=(FB n).map λ i=>D.int<|lo+(i:Nat)
def fT(a:EF)(Y:Env):Res (U D):=(a Y).bind λ x=>match x with
|.int j=>.ok<|zints 0 j.v
|_=>.bad
def BN(a b:EF)(Y:Env):Res (U D):=(a Y).bind λ x=>(b Y).bind λ y=>match x,y with
|.int i,.int j=>.ok<|zints i (j-i).toNat
|_,_=>.bad
@[simp] def aJ(i:Nat)(d:D)(Y:Env):Res Env:=.ok<|Y.set i<|some<|.val d
def iG:U Nat->U D->Env->Res Env
|[],[],Y=>.ok Y
|i::is,d::ds,Y=>iG is ds<|Y.set i<|some<|.val d
|_,_,_=>.bad
def e_(is:U Nat)(d:D)(Y:Env):Res Env:=match d with
|.tup ds=>iG is ds Y
|_=>.bad
def vI(Y:Env)(i:Nat):ε L:=match Y[i]? with
|some<|some<|.val d=>AC<|.val d
|some<|some<|.bor d=>AC<|.bor d
|some<|some<|.JD ks=>AC<|.JD ks
|some<|some<|.own xs=>AC<|.bor<|.lst xs
|_=>Ch
def fh(Y:Env)(is:U Nat):Env:=is.map<|vI Y
def bV(g:GF)(t:TF)(e:EF)(Y:Env):U D->Res (U D)
|[]=>.ok []
|d::r=>(g d Y).bind λ Y1=>(t Y1).bind λ c=>if c then(e Y1).bind λ y=>(bV g t e Y r).bind λ ys=>.ok (y::ys)else bV g t e Y r
def bB(it:LF)(n:Nat)(is:U Nat)(g:GF)(t:TF)(e:EF)(Y:Env):Res (U D):=(it Y).bind λ ds=>guard (ds.n<=line)<|bV g t e (Do n Ch++fh Y is) ds
@[simp] def bM(_:Env):Res Bool:=.ok Da
@[simp] def aE(Y:Env):Res Fl:=.ok<|.nx Y
def aB(a b:SF)(Y:Env):Res Fl:=(a Y).bind λ fl=>match fl with
|.nx Y'=>b Y'
|o=>.ok o
@[simp] def aO(i:Nat)(e:EF)(Y:Env):Res Fl:=(e Y).bind λ d=>.ok<|.nx<|Y.set i<|some<|.val d
@[simp] def l_(i:Nat)(e:LF)(Y:Env):Res Fl:=(e Y).bind λ xs=>.ok<|.nx<|Y.set i<|some<|.own xs
@[simp] def U7(e:EF)(g:GF)(Y:Env):Res Fl:=(e Y).bind λ d=>(g d Y).bind λ Y'=>.ok<|.nx Y'
@[simp] def dB(t:TF)(a b:SF)(Y:Env):Res Fl:=(t Y).bind λ c=>if c then a Y else b Y
@[simp] def aH(e:EF)(Y:Env):Res Fl:=(e Y).bind λ d=>.ok<|.rt d
def uv(e:EF)(Y:Env):Res Fl:=(e Y).bind λ _=>.ok<|.nx Y
def eu(i:Nat)(Y:Env):Env:=match Y[i]? with
|some<|some<|.own xs=>Y.set i<|some<|.val<|.lst xs
|_=>Y
def uu(i:Nat)(a:SF)(Y:Env):Res Fl:=a<|eu i Y
def cV(i:Nat)(e:EF)(Y:Env):Res Fl:=(e Y).bind λ d=>match Y[i]? with
|some<|some<|.own xs=>guard (xs.n<line)<|.ok<|.nx<|Y.set i<|some<|.own<|xs++[d]
|_=>.bad
def dQ(g:GF)(b:SF):U D->Env->Res Fl
|[],Y=>.ok<|.nx Y
|d::r,Y=>(g d Y).bind λ Y1=>(b Y1).bind λ fl=>match fl with
 |.nx Y'=>dQ g b r Y'
 |.ct Y'=>dQ g b r Y'
 |.bk Y'=>.ok<|.nx Y'
 |.rt d=>.ok<|.rt d
@[simp] def fm(it:LF)(g:GF)(b:SF)(Y:Env):Res Fl:=(it Y).bind λ ds=>dQ g b ds Y
def start(n:Nat)(ds:U D):Env:=ds.map (λ d=>AC<|.val d)++Do (n-ds.n) Ch
def fn(ps n:Nat)(b:SF)(ds:U D):Res D:=if ds.n=ps then(match b (start n ds)with
|.ok<|.rt d=>.ok d
|.ok<|.nx _=>.ok .non
| _=>.bad)else .bad
def sF:Bool->D->L
|true,.lst xs=>.bor<|.lst xs
|true,.dct ks vs=>.bor<|.dct ks vs
|_,d=>.val d
def startB(n:Nat)(bs:U Bool)(ds:U D):Env:=(ci (λ b d=>AC<|sF b d) bs ds)++Do (n-ds.n) Ch
def B3(bs:U Bool)(n:Nat)(b:SF)(ds:U D):Res D:=if ds.n=bs.n then(match b (startB n bs ds)with
|.ok<|.rt d=>.ok d
|.ok<|.nx _=>.ok .non
| _=>.bad)else .bad
end Z
open Z renaming Res.ag→ce
set_option genSizeOf false
namespace Z
def O_(b:SF):Fl->Res Fl
|.nx Y'=>b Y'
|o=>.ok o
@[simp] def ur(a b:SF)(Y:Env):aB a b Y=(a Y).bind (O_ b):=rfl
@[simp] def sV(b:SF)(Y:Env):O_ b (.nx Y)=b Y:=rfl
@[simp] def aca(b:SF)(d:D):O_ b (.rt d)=.ok (.rt d):=rfl
@[simp] def acb(b:SF)(Y:Env):O_ b (.ct Y)=.ok (.ct Y):=rfl
def Zs:D->Res Bool
|.bl c=>.ok c
|_=>.bad
@[simp] def ai7(a:EF)(Y:Env):tE a Y=(a Y).bind Zs:=rfl
@[simp] def ab0(c:Bool):Zs (.bl c)=.ok c:=rfl
def CA(f:Bool->Res D):D->Res D
|.bl c=>f c
|_=>.bad
@[simp] def abq(f:Bool->Res D)(c:Bool):CA f (.bl c)=f c:=rfl
@[simp] def agk(a b:EF)(Y:Env):vm a b Y=(a Y).bind (CA λ c=>if c then b Y else .ok (.bl AT)):=rfl
@[simp] def aio(a b:EF)(Y:Env):YZ a b Y=(a Y).bind (CA λ c=>if c then .ok (.bl Da)else b Y):=rfl
@[simp] def agi(a:EF)(Y:Env):RD a Y=(a Y).bind (CA λ c=>.ok<|.bl !c):=rfl
@[simp] def aa5(o o':D->D->Res D)(a b c:EF)(Y:Env):g_ o o' a b c Y=(a Y).bind λ x=>(b Y).bind λ y=>(o x y).bind (CA λ k=>if k then(c Y).bind λ w=>o' y w else .ok (.bl AT)):=rfl
@[simp] def _t(a b:Int):aC (.int a) (.int b)=.ok (.int<|a+b):=rfl
@[simp] def _g(a b:Int):ny (.int a) (.int b)=.ok (.int<|a-b):=rfl
@[simp] def _k(a b:Int):fP (.int a) (.int b)=guard (bS a b) (.ok<|.int<|a*b):=rfl
@[simp] def _s(a b:Int):oDiv (.int a) (.int b)=guard (iV b) (.ok<|.int<|a / b):=rfl
@[simp] def _l(a b:Int):oMod (.int a) (.int b)=guard (0<b) (.ok<|.int<|a % b):=rfl
@[simp] def acp(a b:Int):oLt (.int a) (.int b)=.ok (.bl<|decide<|a<b):=rfl
@[simp] def acr(a b:Int):oLe (.int a) (.int b)=.ok (.bl<|decide<|a<=b):=rfl
@[simp] def acq(a b:U Nat):oLe (.str a) (.str b)=.ok (.bl<|!(Jx b a)):=rfl
@[simp] def acu(a b:Int):zk (.int a) (.int b)=.ok (.bl<|decide<|b<a):=rfl
@[simp] def acv(a b:Int):YF (.int a) (.int b)=.ok (.bl<|decide<|b<=a):=rfl
@[simp] def acx(a b:Int):oEq (.int a) (.int b)=.ok (.bl<|a==b):=rfl
@[simp] def acw(a b:U Nat):oEq (.str a) (.str b)=.ok (.bl<|a==b):=rfl
@[simp] def aco(a b:Int):o! (.int a) (.int b)=.ok (.bl<|!(a==b)):=rfl
@[simp] def acn(a b:U Nat):o! (.str a) (.str b)=.ok (.bl<|!(a==b)):=rfl
@[simp] def _p(a:U Nat):ck (.str a)=guard (a.n<=line) (.ok<|.int a.n):=rfl
@[simp] def _o(a:U D):ck (.tup a)=.ok (.int a.n):=rfl
@[simp] def _q(a:U D):ck (.lst a)=.ok (.int a.n):=rfl
def _9:D->Res (ε Int)
|.int i=>.ok<|some i
|_=>.bad
@[simp] def _8(i:Int):_9 (.int i)=.ok (AC i):=rfl
@[simp] def ahh(a:EF)(Y:Env):qQ a Y=(a Y).bind _9:=rfl
def Tp:D->Res (U D)
|.int j=>.ok<|zints 0 j.v
|_=>.bad
@[simp] def acI(a:EF)(Y:Env):fT a Y=(a Y).bind Tp:=rfl
@[simp] def YA(j:Int):Tp (.int j)=.ok (zints 0 j.v):=rfl
def To:D->D->Res (U D)
|.int i,.int j=>.ok<|zints i (j-i).toNat
|_,_=>.bad
@[simp] def acH(a b:EF)(Y:Env):BN a b Y=(a Y).bind λ x=>(b Y).bind λ y=>To x y:=rfl
@[simp] def Yz(i j:Int):To (.int i) (.int j)=.ok (zints i (j-i).toNat):=rfl
@[simp] def YJ(xs:U D):mi (.tup xs)=.ok xs:=rfl
@[simp] def YL(xs:U D):mi (.lst xs)=.ok xs:=rfl
@[simp] def YK(cs:U Nat):mi (.str cs)=.ok (cs.map λ c=>.str [c]):=rfl
def a!(it:LF)(n:Nat)(is:U Nat)(g:GF)(t:TF)(e:EF)(Y:Env):bB it n is g t e Y=(it Y).bind λ ds=>guard (ds.n<=line) (bV g t e (Do n Ch++fh Y is) ds):=rfl
def bc:Res Fl->Res D
|.ok<|.rt d=>.ok d
|.ok<|.nx _=>.ok .non
|_=>.bad
@[simp] def acf(d:D):bc (.ok<|.rt d)=.ok d:=rfl
def bX(ps n:Nat)(b:SF)(ds:U D)(h:ds.n=ps):fn ps n b ds=bc (b<|start n ds):=by
 unfold fn;rw[M2 h];cases b _ with
 |bad=>rfl
 |ok f=>ext f<;>rfl
def dP(h1:-18446744073709551616<a)(h2:a<18446744073709551616):bS a b:=by show .inl ⟨h1,h2⟩
def gg(h1:-18446744073709551616<b)(h2:b<18446744073709551616):bS a b:=by show .inr<|.inl ⟨h1,h2⟩
def bw(h0:0<b)(h:b<1809251394333065553493296640760748560207343510400633813116524750123642650624):iV b:=(h0,h,)
def uR(h0:0<=i)(h1:i<cs.n)(hl:cs.n<=line):∃c∈cs,aW (.str cs) (.int i)=.ok (.str [c]):=by
 let hj:i.v<cs.n:=by lia
 show(cs[i.v],B15 hj,?_,);simp[aW,hl,xZ,h0,h1]
def F?(h:(zints 0 n)[j]?=AC d):j<n/\d=.int (j):=by
 unfold zints at h;rw[A07]at h;cases q:(FB n)[j]? with
 |none=>rw[q]at h;ext h
 |some i=>rw[q]at h;let(h1,h2):=A09.mp q;rw[B16]at h1;rw[B57]at h2;subst h2;simp at h;show(h1,h.c,)
@[simp] def gG(lo:Int)(n:Nat):(zints lo n).length=n:=by simp[zints]
def kZ(xs:U α)(lo hi:ε Int):(cut xs lo hi).length<=xs.n:=by unfold cut;rw[A32,B54];show A14 (Nat.min_le_right _ _) (Nat.sub_le _ _)
def F2(h:x∈cut xs i j):x∈xs:=List.mem_of_mem_drop<|B99 h
@[simp] def ahs(xs:U D)(a:EF)(lo hi:PF)(Y:Env)(h:a Y=.ok (.lst xs)):LQ a lo hi Y=(lo Y).bind λ l=>(hi Y).bind λ h=>.ok (cut xs l h):=by unfold LQ;rw[h];rfl
def vE:∀ds,(∀d∈ds,(g d Y).bind e=.ok (h d))->bV g bM e Y ds=.ok (ds.map h)
|[],_=>rfl
|d::ds,k=>by let h1:=k d A10;let h2:=vE ds λ x hx=>k x<|A08 _ hx;let(Y1,e1,e2):=Res.ag h1;simp[bV,e1,e2,h2]
def nX:∀ds,(∀d∈ds,∃Y1,g d Y=.ok Y1/\t Y1=.ok (p d)/\(p d=Da->e Y1=.ok (h d)))->bV g t e Y ds=.ok ((ds.filter p).map h)
|[],_=>rfl
|d::ds,k=>by
 let(Y1,e1,e2,e3):=k d A10;let h2:=nX ds λ x hx=>k x<|A08 _ hx;cases hp:p d with
 |true=>simp[bV,e1,e2,hp,e3 hp,h2]
 |false=>simp[bV,e1,e2,hp,h2]
def Ah:∀(bs:U Bool),allB (bs.map D.bl)=AC (bs.all id)
|[]=>rfl
|b::bs=>by simp[allB,Ah bs]
@[simp high] def gt0(a:α)(l:U α):(a::l)[0]?=AC a:=rfl
@[simp high] def gtS(a:α)(l:U α)(n:Nat):(a::l)[n+1]?=l[n]?:=rfl
@[simp high] def U1(a x:α)(l:U α):(a::l).set 0 x=x::l:=rfl
@[simp high] def stS(a x:α)(l:U α)(n:Nat):(a::l).set (n+1) x=a::l.set n x:=rfl
end Z
namespace ZS
open L2
abbrev Fl(X:Cx)(x:Str):Prop:=X.fn x=Da\/X.env.scope.names.lookup x=AC .local
end ZS
local macro_rules
| `(tactic|trivial)=>`(tactic|first|show AF3 rfl|show xz rfl)
open ZS (Fl)
namespace ZS
open L2
abbrev Gk(G:Z.GF)(n:Nat):Prop:=∀d Y Y1,G d Y=.ok Y1->Y1.n=Y.n/\∀i,n<=i->Y1[i]?=Y[i]?
abbrev Dn(m:Str):Prop:=(Z.cb.map λ c=>(⟨c.q⟩)).contains m=AT
end ZS
open ZS (Gk Dn)
namespace ZS
open L2
abbrev St:=L2.St
def Ih:Sum Int (U Nat)->Key
|.inl i=>.inl i
|.inr cs=>.inr ⟨cs.q⟩
def Uw(K:Db)(H:Hp)(a:δ)(xs:U V):Prop:=
 (∃ o,H a=AC (.eu o<|.lst xs)) \/
  ∃(o:μ)(a6:Array ζ)(n:Nat),K.lookup a=AC o/\o.cls=.type "list" /\ o.dict=Ch/\o.data=.seq a6 n/\a6.u<=sizeLine/\Vals xs a6.y
def Uw.sq{K:Db}(h:Uw K H a xs):jO K H a xs:=by
 rcases h with⟨o,h⟩|h
 .exact .inl<|.inr ⟨o,h⟩
 .exact .inr h
structure gV(H H':Hp):Prop where
 tup:∀a xs,H a=AC (.tup xs)->H' a=AC (.tup xs)
 eu:∀a o u,H a=AC (.eu o u)->H' a=AC (.eu o u)
def gV.refl(H:Hp):gV H H:=(λ _ _ h=>h,λ _ _ _ h=>h,)
def gV.trans{H H1 H2:Hp}(a:gV H H1)(b:gV H1 H2):gV H H2:=(λ c xs h=>b.tup c xs<|a.tup c xs h,λ c o u h=>b.eu c o u<|a.eu c o u h,)
def jR(s:av H H'):gV H H':=(λ _ _ h=>s _ _ h,λ _ _ _ h=>s _ _ h,)
def mO(h:H p=AC o)(n1:∀xs,o≠.tup xs)(n2:∀ob x,o≠.eu ob x):gV H (upd H p u):=
 ⟨λ a xs e=>by rw[ak (by rintro rfl;rw[h]at e;show n1 xs<|f8 e)];show e,λ a ob x e=>by rw[ak (by rintro rfl;rw[h]at e;show n2 ob x<|f8 e)];show e⟩
def jE(h:H p=AC (.lst xs)):gV H (upd H p u):=mO h (λ _ z=>nomatch z) λ _ _ z=>nomatch z
def Uw.mono{K:Db}(e:gV H H')(h:Uw K H a xs):Uw K H' a xs:=by
 rcases h with⟨o,h⟩|h
 .exact .inl ⟨o,e.eu _ _ _ h⟩
 .exact .inr h
def fS{K:Db}(e:gV H H')(h:nj K H a xs):nj K H' a xs:=by
 rcases h with(h|⟨o,h⟩)|h
 .exact .inl<|.inl<|e.tup _ _ h
 .exact .inl<|.inr ⟨o,e.eu _ _ _ h⟩
 .exact .inr h
mutual
def Den(K:Db)(H:Hp):Z.D->V->Prop
|.non,v=>v=.non
|.bl b,v=>v=.bl b
|.int i,v=>v=.int i
|.str cs,v=>v=.str ⟨cs.q⟩
|.tup ds,v=>∃a vs,v=.ref a/\nj K H a vs/\au K H ds vs
|.lst ds,v=>∃a vs,v=.ref a/\Uw K H a vs/\au K H ds vs
|.dct ks ds,v=>∃a o aG,v=.ref a/\H a=AC (.eu o<|.dK aG)/\aG.map (·.1)=ks.map Ih/\au K H ds (aG.map (·.2))/\∀i r,ks≠.inl i::r
def au(K:Db)(H:Hp):U Z.D->U V->Prop
|[],vs=>vs=[]
|d::ds,vs=>∃v r,vs=v::r/\Den K H d v/\au K H ds r
end
section
variable{K:Db}{H H':Hp}
mutual
theorem Den.mono(e:gV H H'):∀(d:Z.D)(v:V),Den K H d v->Den K H' d v
|.non,v,h=>by erw[Den]at h ⊢;show h
|.bl b,v,h=>by erw[Den]at h ⊢;show h
|.int i,v,h=>by erw[Den]at h ⊢;show h
|.str cs,v,h=>by erw[Den]at h ⊢;show h
|.tup ds,v,h=>by erw[Den]at h ⊢;let(a,vs,e1,q,r):=h;show(a,vs,e1,fS e q,au.mono e ds vs r,)
|.lst ds,v,h=>by erw[Den]at h ⊢;let(a,vs,e1,q,r):=h;show(a,vs,e1,q.mono e,au.mono e ds vs r,)
|.dct ks ds,v,h=>by erw[Den]at h ⊢;let(a,o,aG,e1,q,k,r,n):=h;show(a,o,aG,e1,e.eu _ _ _ q,k,au.mono e ds _ r,n,)
theorem au.mono(e:gV H H'):∀(ds:U Z.D)(vs:U V),au K H ds vs->au K H' ds vs
|[],vs,h=>by erw[au]at h ⊢;show h
|d::ds,vs,h=>by erw[au]at h ⊢;let(v,r,e1,q,t):=h;show(v,r,e1,Den.mono e d v q,au.mono e ds r t,)
end
def Den.up(h:Den K H d v)(e:av H H'):Den K H' d v:=Den.mono (jR e) d v h
def Den.ups(h:Den K H d v)(e:gV H H'):Den K H' d v:=Den.mono e d v h
def au.ups(h:au K H ds vs)(e:gV H H'):au K H' ds vs:=au.mono e ds vs h
def au.up(h:au K H ds vs)(e:av H H'):au K H' ds vs:=au.mono (jR e) ds vs h
def au.nil:au K H [] []:=by erw[au]
def au.cons{d:Z.D}{ds:U Z.D}{v:V}{vs:U V}(h:Den K H d v)(t:au K H ds vs):au K H (d::ds) (v::vs):=by erw[au];show(v,vs,rfl,h,t,)
def au.length:∀{ds}{vs},au K H ds vs->vs.n=ds.n
|[],vs,h=>by erw[au]at h;subst h;rfl
|d::ds,vs,h=>by erw[au]at h;let(v,r,rfl,_,t):=h;simp[au.length t]
def au.get:∀{ds}{vs}{i:Nat}{d},au K H ds vs->ds[i]?=AC d->∃v,vs[i]?=AC v/\Den K H d v
|[],_,_,_,_,e=>by simp at e
|x::ds,vs,0,d,h,e=>by erw[au]at h;let(v,r,rfl,q,_):=h;simp at e;subst e;show(v,rfl,q,)
|x::ds,vs,i+1,d,h,e=>by erw[au]at h;let(v,r,rfl,_,t):=h;let(u,h1,h2):=au.get t (by calc e);show⟨u,by calc h1,h2⟩
def au.append:∀{ds es}{vs us},au K H ds vs->au K H es us->au K H (ds++es) (vs++us)
|[],_,_,_,h,g=>by erw[au]at h;subst h;show g
|d::ds,es,vs,us,h,g=>by erw[au]at h;let(v,r,rfl,q,t):=h;show au.cons q<|au.append t g
def au.drop:∀{ds}{vs} n,au K H ds vs->au K H (ds.drop n) (vs.drop n)
|_,_,0,h=>by calc h
|[],vs,_+1,h=>by erw[au]at h;subst h;calc au.nil
|d::ds,vs,n+1,h=>by erw[au]at h;let(v,r,rfl,q,t):=h;calc au.drop n t
def au.take:∀{ds}{vs} n,au K H ds vs->au K H (ds.take n) (vs.take n)
|_,_,0,h=>by calc au.nil
|[],vs,_+1,h=>by erw[au]at h;subst h;calc au.nil
|d::ds,vs,n+1,h=>by erw[au]at h;let(v,r,rfl,q,t):=h;calc au.cons q (au.take n t)
def au.zints:∀(ns:U Int),au K H (ns.map Z.D.int) (ns.map V.int)
|[]=>au.nil
|n::ns=>au.cons (by erw[Den])<|au.zints ns
def bz(K:Db)(H:Hp)(d:Z.D)(v:V):Prop:=Den K H d v\/∃ds a vs,d=.lst ds/\v=.ref a/\H a=AC (.lst vs)/\au K H ds vs
def bz.up(h:bz K H d v)(e:av H H'):bz K H' d v:=by
 rcases h with h|⟨ds,a,vs,e1,e2,q,t⟩
 .exact .inl<|h.up e
 .exact .inr ⟨ds,a,vs,e1,e2,e _ _ q,t.up e⟩
def bz.n!(h:bz K H d v)(n:∀ds,d≠.lst ds):Den K H d v:=by
 rcases h with h|⟨ds,a,vs,e1,_⟩
 .exact h
 .exact absurd e1<|n ds
def bz.non(h:bz K H .non v):v=.non:=by let:=h.n! λ _ z=>nomatch z;simpa only[Den]using this
def bz.bl(h:bz K H (.bl b) v):v=.bl b:=by let:=h.n! λ _ z=>nomatch z;simpa only[Den]using this
def bz.int(h:bz K H (.int i) v):v=.int i:=by let:=h.n! λ _ z=>nomatch z;simpa only[Den]using this
def bz.str(h:bz K H (.str cs) v):v=.str ⟨cs.q⟩:=by let:=h.n! λ _ z=>nomatch z;simpa only[Den]using this
def bz.tup{ds:U Z.D}{v:V}(h:bz K H (.tup ds) v):∃a vs,v=.ref a/\nj K H a vs/\au K H ds vs:=by let:=h.n! λ _ z=>nomatch z;simpa only[Den]using this
def bz.lst{ds:U Z.D}{v:V}(h:bz K H (.lst ds) v):∃a vs,v=.ref a/\jO K H a vs/\au K H ds vs:=by
 rcases h with h|⟨es,a,vs,e1,e2,q,t⟩
 .simp only[Den]at h;let(a,vs,e,q,t):=h;show(a,vs,e,q.sq,t,)
 .ext e1;show(a,vs,e2,.inl<|.inl q,t,)
def bz.dct(h:bz K H (.dct ks ds) v):∃a o aG,v=.ref a/\H a=AC (.eu o<|.dK aG)/\aG.map (·.1)=ks.map Ih/\au K H ds (aG.map (·.2))/\∀i r,ks≠.inl i::r:=by let:=h.n! λ _ z=>nomatch z;simpa only[Den]using this
def kY:Den K H .non .non:=by erw[Den]
def cx:Den K H (.bl b) (.bl b):=by erw[Den]
def b8:Den K H (.int i) (.int i):=by erw[Den]
def ee:Den K H (.str cs) (.str ⟨cs.q⟩):=by erw[Den]
def fM(h:nj K H a vs)(t:au K H ds vs):Den K H (.tup ds) (.ref a):=by erw[Den];show(a,vs,rfl,h,t,)
def z7(h:Uw K H a vs)(t:au K H ds vs):Den K H (.lst ds) (.ref a):=by erw[Den];show(a,vs,rfl,h,t,)
end
def qv(K:Db)(c:Str)(C:δ):Prop:=FM K mainGlobals c=AC (AC<|.ref C)/\NP K C
def Jp(K:Db)(H:Hp)(kd:Nat)(ks:U (U Nat))(ds:U Z.D)(u:HO):Prop:=
 (kd=0/\ks=Z.cb.take ks.n/\∃ C dx fs,u=.ins C dx fs/\qv K "Desk" C/\fs.map (·.1)=ks.map (λ c=>(⟨c.q⟩:Str))/\au K H ds (fs.map (·.2))) \/
  kd=1/\∃aG:U (Key×V),u=.dK aG/\aG.map (·.1)=ks.map (λ c=>(Go ⟨c.q⟩:Key))/\au K H ds (aG.map (·.2))
def Jp.ups{K:Db}(h:Jp K H kd ks ds u)(e:gV H H'):Jp K H' kd ks ds u:=by
 rcases h with⟨h0,hk,C,dx,fs,h1,h2,h3,h4⟩|⟨h0,aG,h1,h2,h3⟩
 .exact .inl ⟨h0,hk,C,dx,fs,h1,h2,h3,h4.ups e⟩
 .exact .inr ⟨h0,aG,h1,h2,h3.ups e⟩
def Thg(K:Db)(H:Hp)(d:Z.D)(v:V):Prop:=∃a kd ks ds u,d=Z.gx a kd ks ds/\v=.ref a/\H a=AC u/\Jp K H kd ks ds u
def jC(K:Db)(H:Hp)(d:Z.D)(v:V):Prop:=bz K H d v\/Thg K H d v
def jC.up{K:Db}(h:jC K H d v)(e:av H H'):jC K H' d v:=by
 rcases h with h|⟨a,kd,ks,ds,u,e1,e2,q,t⟩
 .exact .inl<|h.up e
 .exact .inr ⟨a,kd,ks,ds,u,e1,e2,e _ _ q,t.ups<|jR e⟩
def GS(K:Db)(H:Hp)(d:Z.D)(v:V):Prop:=bz K H d v\/∃a kd ks ds u,d=Z.gx a kd ks ds/\v=.ref a/\H a=AC u
def jC.z{K:Db}(h:jC K H d v):GS K H d v:=by
 rcases h with h|⟨a,kd,ks,ds,u,e1,e2,q,_⟩
 .exact .inl h
 .exact .inr ⟨a,kd,ks,ds,u,e1,e2,q⟩
def jC.gx{K:Db}(h:jC K H (.dct (.inl a::r) ds) v):Thg K H (.dct (.inl a::r) ds) v:=by
 rcases h with h|h
 .let(_,_,_,_,_,_,_,n):=h.dct;show absurd rfl<|n _ _
 .exact h
def GS.re{K:Db}(h:GS K H0 d v)(r:jC K H d v)(h0:av H0 H)(hs:av H0 H')(st:gV H H'):jC K H' d v:=by
 rcases h with h|⟨a,kd,ks,ds,u,rfl,rfl,q⟩
 .exact .inl<|h.up hs
 .let(a',Ea,s_,ds',u',e1,e2,q',t):=r.gx;ext e2;let:=(h0 _ _ q).symm.trans q';ext this;show .inr ⟨_,Ea,s_,ds',u,e1,rfl,hs _ _ q,t.ups st⟩
def jC.lst{K:Db}{H:Hp}{ds:U Z.D}{v:V}(h:jC K H (.lst ds) v):bz K H (.lst ds) v:=by
 rcases h with h|⟨a,kd,ks,es,u,e1,_⟩
 .exact h
 .ext e1
def agd(x:U Int×δ×ζ):DictEntry:={hash:=reduceHash<|Builtin.Tuple.tupleHashOf<|x.1.map hashInt,key:=.ref x.2.1,val:=x.2.2}
def abM(a:δ)(ks:U (U Int))(as:U δ)(h:ν):Prop:=ks.n<=sizeLine/\(a==sysModules)=AT/\∃(xs:U (U Int×δ×ζ))(o:μ)(es:Array DictEntry)(ep:Nat),xs.map (·.1)=ks/\xs.map (·.2.1)=as/\h.get? a=AC o/\o.ExactDict/\o.data=.dict es ep/\es.y=xs.map agd/\ks.Nodup
abbrev abL(a:δ)(ks:U (U Int))(as:U δ):HO:=.ext<|abM a ks as
def rB(K:Db)(H:Hp)(ks:U (U Int))(as:U δ):Prop:=Paired (λ(k:U Int)(b:δ)=>Den K H (.tup<|k.map .int)<|.ref b) ks as
def vZ(aG:U (U Nat×U Nat)):U (Key×V):=aG.map λ p=>(Go ⟨p.1.toArray⟩,V.str ⟨p.2.toArray⟩)
def Y!(a:δ):Z.DK->U δ->HO
|.inl ks,as=>abL a ks as
|.inr aG,_=>.dK<|vZ aG
def DcK(K:Db)(H:Hp):Z.DK->U δ->Prop
|.inl ks,as=>rB K H ks as
|.inr _,_=>True
def z?:Y! a k as≠.lst xs:=by ext k<;>show λ z=>nomatch z
def Sd:Y! a k as≠.tup xs:=by ext k<;>show λ z=>nomatch z
def Sf:Y! a k as≠.eu o u:=by ext k<;>show λ z=>nomatch z
def kvI(ps:U (Int×Int)):U (Key×V):=ps.map λ p=>(dL p.1,V.int p.2)
abbrev OE:U ζ:=[.type "ValueError",.type "Exception",.type "BaseException",.type "object"]
def abh:Data->ε ClassData
|.cls cd=>AC cd
|_=>Ch
def obB{α:Type}(f:α->Bool):ε α->Bool
|none=>AT
|some a=>f a
def _L(f:ζ->U ζ->Bool):U ζ->Bool
|[]=>AT
|a::tl=>f a tl
def Ss(K:Db)(C:δ)(χ:U ζ->δ->Bool):Bool:=obB (λ o=>obB (λ cd=>_L (λ a tl=>o.cls==.type "type" && a==.ref C&&o.slots.y.n==6&&o.slots.toList[4]?==AC (AC<|.builtin "ValueError.__new__")&&!cd.hasDel&&χ tl cd.ns) cd.mro)<|abh o.data)<|K.lookup C
def GY(K:Db)(C:δ):Bool:=Ss K C λ tl _=>tl.contains<|.type "BaseException"
def Oz(K:Db)(C:δ):Bool:=Ss K C λ tl ns=>PySem.W.tailIn K OE tl&&PySem.W.nsOkIn K ns&&FM K ns "__init__"== AC Ch
def XC(K:Db)(c:U Nat)(C:δ):Prop:=FM K mainGlobals ⟨c.q⟩=AC (AC<|.ref C)/\GY K C=Da
def XD(K:Db)(H:Hp):ε δ->U (U Nat×Z.D)->Prop
|none,fs=>fs=[]
|some dx,fs=>fs≠[]/\∃od aG,H dx=AC (.eu od<|.xd aG)/\Paired (λ(p:Str×V)(q:U Nat×Z.D)=>p.1=⟨q.1.toArray⟩/\Den K H q.2 p.2) aG fs
def XD.ups{K:Db}(h:XD K H dd fs)(e:gV H H'):XD K H' dd fs:=by
 cases dd with
 |none=>show h
 |some dx=>let(n,od,aG,q,p):=h;show(n,od,aG,e.eu _ _ _ q,Paired.Ly p λ _ _ z=>(z.1,z.2.ups e,),)
def xm(K:Db)(H:Hp)(c:U Nat×U (U Nat×Z.D))(C:δ)(dd:ε δ):Prop:=XC K c.1 C/\XD K H dd c.2
def xm.ups{K:Db}(h:xm K H c C dd)(e:gV H H'):xm K H' c C dd:=(h.1,h.2.ups e,)
def RL(K:Db)(H:Hp):Z.L->V->Prop
|.val d,v=>Den K H d v
|.own ds,v=>∃a vs,v=.ref a/\H a=AC (.lst vs)/\au K H ds vs
|.bor d,v=>jC K H d v
|.dc k,v=>∃a as,v=.ref a/\H a=AC (Y! a k as)/\DcK K H k as
|.JD ks,v=>∃a o as,v=.ref a/\H a=AC (.eu o<|abL a ks as)/\rB K H ks as
|.T3 ps,v=>∃a o,v=.ref a/\H a=AC (.eu o<|.dK<|kvI ps)
|.exc c,v=>∃a o u C,v=.ref a/\H a=AC (.eu o u)/\o.cls=.ref C/\(∃vs,o.data=.fields vs)/\xm K H c C o.dict
def rB.ups{K:Db}(h:rB K H ks as)(e:gV H H'):rB K H' ks as:=Paired.Ly h λ _ _ d=>Den.ups d e
def DcK.ups{K:Db}(h:DcK K H k as)(e:gV H H'):DcK K H' k as:=by
 cases k with
 |inl ks=>show rB.ups (h) e
 |inr _=>show GE
structure RE(K:Db)(H:Hp)(O:St)(Y:Z.Env):Prop where
 len:Y.n=O.n
 get:∀(i:Nat)(l:Z.L),Y[i]?=AC (AC l)->∃v,O[i]?=AC (AC v)/\RL K H l v
 sep:∀(i j:Nat)(xs ys:List Z.D)(a:Addr),Y[i]?=AC (AC<|.own xs)->Y[j]?=AC (AC<|.own ys)->O[i]?=AC (AC<|.ref a)->O[j]?=AC (AC<|.ref a)->i=j
section
variable{K:Db}{H H':Hp}{O:St}{Y:Z.Env}
def RL.up(h:RL K H l v)(e:av H H'):RL K H' l v:=by
 cases l with
 |val d=>show Den.up (h) e
 |own ds=>let(a,vs,e1,q,t):=h;show(a,vs,e1,e _ _ q,t.up e,)
 |bor d=>show jC.up (h) e
 |dc ks=>let(a,as,e1,q,t):=h;show(a,as,e1,e _ _ q,t.ups<|jR e,)
 |JD ks=>let(a,o,as,e1,q,t):=h;show(a,o,as,e1,e _ _ q,t.ups<|jR e,)
 |T3 ps=>let(a,o,e1,q):=h;show(a,o,e1,e _ _ q,)
 |exc c=>let(a,o,u,C,e1,q,r1,r2,r3):=h;show(a,o,u,C,e1,e _ _ q,r1,r2,r3.ups<|jR e,)
def RE.up(h:RE K H O Y)(e:av H H'):RE K H' O Y:=
 ⟨h.len,λ i l q=>let ⟨v,h1,h2⟩:=h.get i l q;⟨v,h1,h2.up e⟩,h.sep⟩
def bE(h:H a=Ch):av H (upd H a o):=λ b u e=>by rw[ak<|aR e h];show e
end
def tZ(K:Db)(f:Z.EF):TE:=λ O H Q=>∃Y d,RE K H O Y/\f Y=.ok d/\∀v H',av H H'->Den K H' d v->Q v H'
def Tc(K:Db)(f:Z.EF):TE:=λ O H Q=>∃Y d,RE K H O Y/\f Y=.ok d/\∀v H',av H H'->bz K H' d v->Q v H'
def tZl(K:Db)(f:Z.LF):TE:=λ O H Q=>∃Y ds,RE K H O Y/\f Y=.ok ds/\∀a vs H',av H H'->H a=Ch->H' a=AC (.lst vs)->au K H' ds vs->Q (.ref a) H'
def Zv(K:Db)(f:Z.TF):TT:=λ O H Q=>∃Y b,RE K H O Y/\f Y=.ok b/\∀H',av H H'->Q b H'
def tZa(K:Db)(f:Z.AF):TA:=λ O H Q=>∃Y ds,RE K H O Y/\f Y=.ok ds/\∀vs H',av H H'->au K H' ds vs->Q vs H'
def tZp(K:Db)(f:Z.PF):TO:=λ O H Q=>∃Y o,RE K H O Y/\f Y=.ok o/\∀H',av H H'->Q o H'
abbrev DE(X:Cx)(e:η)(f:Z.EF):Prop:=PE X e<|tZ X.K f
structure ZQ.QE(X:Cx)(e:Expr)(f:Z.EF):Prop where p:DE X e f
abbrev DW(X:Cx)(e:η)(f:Z.EF):Prop:=PE X e<|Tc X.K f
structure ZQ.QW(X:Cx)(e:Expr)(f:Z.EF):Prop where p:DW X e f
abbrev DL(X:Cx)(e:η)(f:Z.LF):Prop:=PE X e<|tZl X.K f
structure ZQ.QL(X:Cx)(e:Expr)(f:Z.LF):Prop where p:DL X e f
abbrev DT(X:Cx)(e:η)(f:Z.TF):Prop:=PT X e<|Zv X.K f
structure ZQ.QT(X:Cx)(e:Expr)(f:Z.TF):Prop where p:DT X e f
abbrev DTW(X:Cx)(e:η)(f:Z.TF):Prop:=PW X e<|Zv X.K f
structure ZQ.Ut(X:Cx)(e:Expr)(f:Z.TF):Prop where p:DTW X e f
abbrev DA(X:Cx)(es:U η)(f:Z.AF):Prop:=PA X es<|tZa X.K f
structure ZQ.QA(X:Cx)(es:List Expr)(f:Z.AF):Prop where p:DA X es f
abbrev DP(X:Cx)(e:ε η)(f:Z.PF):Prop:=PO X e<|tZp X.K f
structure ZQ.QP(X:Cx)(e:Option Expr)(f:Z.PF):Prop where p:DP X e f
section
variable{X:Cx}{e a b c:η}{es:U η}{pos:Pos}{f fa fb fc:Z.EF}
def PE.imp(h:PE X e t)(k:∀O H Q,t' O H Q->t O H Q):PE X e t':=λ B s O H Q I w=>h B s O H Q I<|k O H Q w
def PT.imp(h:PT X e t)(k:∀O H Q,t' O H Q->t O H Q):PT X e t':=λ B s O H Q I w=>h B s O H Q I<|k O H Q w
def PW.imp(h:PW X e t)(k:∀O H Q,t' O H Q->t O H Q):PW X e t':=λ whole B s O H Q I w=>h whole B s O H Q I<|k O H Q w
def PA.imp(h:PA X es t)(k:∀O H Q,t' O H Q->t O H Q):PA X es t':=λ p B s O H Q I w=>h p B s O H Q I<|k O H Q w
def PO.imp(h:PO X o t)(k:∀O H Q,t' O H Q->t O H Q):PO X o t':=λ B s O H Q I w=>h B s O H Q I<|k O H Q w
def EI(h:PE X e (tC v))(hd:∀H,Den X.K H d v):DE X e (Z.eC d):=PE.imp h <|by rintro O H Q ⟨Y,d',_,e,k⟩;let e':=e;ext e';show k v H (av.refl H)<|hd H
def ZQ.cI:ZQ.QE X (.Constant (.int i) j pos) (Z.eI i):=⟨EI Vj λ _=>b8⟩
def ZQ.Co:ZQ.QE X (.Constant (.bool x) j pos) (Z.eC<|.bl x):=⟨EI Z9 λ _=>cx⟩
def ZQ.Xs:ZQ.QE X (.Constant .none j pos) (Z.eC .non):=⟨EI qP λ _=>kY⟩
def ZQ.qk(h:x=⟨cs.q⟩:=by kernel_rfl):ZQ.QE X (.Constant (.str x) j pos) (Z.eC<|.str cs):=⟨by subst h;show EI DB λ _=>ee⟩
def aa2(h:Z.eV i Y=.ok d):Y[i]?=AC (AC<|.val d):=by
 unfold Z.eV at h;split at h
 .rename_i d' q;ext h;show q
 .ext h
def aa1(h:Z.eW i Y=.ok d):Y[i]?=AC (AC<|.val d)\/(∃xs,Y[i]?=AC (AC<|.own xs)/\d=.lst xs)\/∃xs,Y[i]?=AC (AC<|.bor<|.lst xs)/\d=.lst xs:=by
 unfold Z.eW at h;split at h
 .rename_i d' q;ext h;show .inl q
 .rename_i xs q;ext h;show .inr<|.inl ⟨xs,q,rfl⟩
 .rename_i xs q;ext h;show .inr<|.inr ⟨xs,q,rfl⟩
 .ext h
def Xn(h:PE X e (nr i)):DE X e (Z.eV i):=PE.imp h <|by rintro O H Q ⟨Y,d,r,e,k⟩;let(v,h1,h2):=r.get i _ (aa2 e);show(v,h1,k v H (av.refl H) h2,)
def W_(h:PE X e (nr i)):DW X e (Z.eW i):=PE.imp h <|by
 rintro O H Q ⟨Y,d,r,e,k⟩;rcases aa1 e with q|⟨xs,q,rfl⟩|⟨xs,q,rfl⟩
 rotate_left;rotate_left
 .let(v,h1,h2):=r.get i _ q;show(v,h1,k v H (av.refl H)<|jC.lst h2,)
 .let(v,h1,h2):=r.get i _ q;show(v,h1,k v H (av.refl H)<|.inl h2,)
 .let(v,h1,a,vs,rfl,h2,h3):=r.get i _ q;show(_,h1,k _ H (av.refl H)<|.inr ⟨xs,a,vs,rfl,rfl,h2,h3⟩,)
def ZQ.cU(hN:X.N[i]?=AC x:=by rfl)(hv:NH X.env.scope x:=by first|show AF3 rfl|show xz<|Or.inl rfl|show xz<|Or.inr rfl)(hd:Nd x:=by kernel_rfl)
 (rT:(x==("__classdict__"))=AT:=by kernel_rfl):ZQ.QE X (.Name x pos) (Z.eV i):=⟨Xn<|uA hN hv hd rT⟩
def ZQ.iA(hN:X.N[i]?=AC x:=by rfl)(hv:NH X.env.scope x:=by first|show AF3 rfl|show xz<|Or.inl rfl|show xz<|Or.inr rfl)(hd:Nd x:=by kernel_rfl)
 (rT:(x==("__classdict__"))=AT:=by kernel_rfl):ZQ.QW X (.Name x pos) (Z.eW i):=⟨W_<|uA hN hv hd rT⟩
def R?(hg:Gl X x)(hm:X.mg x=AC u)(r:RelV v u)(hd:∀H,Den X.K H d v)(hb:Nd x:=by kernel_rfl):DE X (.Name x pos) (Z.eC d):=
 EI (za hg hm r hb) hd
def ZQ.jB(h:ZQ.QE X e f):ZQ.QW X e f:=⟨PE.imp h.p <|by rintro O H Q ⟨Y,d,r,e,k⟩;show(Y,d,r,e,λ v H' s q=>k v H' s<|.inl q,)⟩
def ZQ.RF(h:ZQ.QL X e l):ZQ.QW X e (Z.eL l):=⟨PE.imp h.p <|by
 rintro O H Q ⟨Y,d,r,e,k⟩;unfold Z.eL at e;cases q:l Y with
 |bad=>rw[q]at e;ext e
 |ok ds=>rw[q]at e;ext e;show(Y,ds,r,q,λ a vs H' s hn h1 h2=>k _ H' s<|.inr ⟨ds,a,vs,rfl,rfl,h1,h2⟩,)⟩
def oF(I:Inv X B O H s)(h:H p=AC (.lst xs)):∃o,Inv X B O (upd H p<|.eu o<|.lst xs) s:=by
 let(z,a6,n,r,ho):=I.bN p _ h;show(_,I.un (H':=upd H p (.eu {cls:=.type "list",data:=.seq a6.toArray n} _)) ?_ ?_,)
 .let ne:∀b,H b=Ch->b≠p:=λ b e q=>by rw[q,h]at e;ext e
  show⟨λ b o q _ _ _=>q,λ b o q _ _ _=>(_,q,),λ b o q e _=>by rw[ak<|ne b e];show e,λ b o q _=>(o,q,),λ b ys e=>?_,λ b o u e=>?_,λ b u pr e=>?_⟩
  .let:b≠p:=by rintro rfl;rw[h]at e;ext e
   rw[ak this];show e
  .let:b≠p:=by rintro rfl;rw[h]at e;ext e
   rw[ak this];show e
  .let:b≠p:=by rintro rfl;rw[h]at e;ext e;show pr
   rw[ak this];show e
 .intro b u e;by_cases hb:b=p
  .subst hb;rw[aA]at e;ext e;show(ho,z,a6,n,r,ho,)
  .rw[ak hb]at e;show(I.bN b u e).n? (λ c w _ q=>q) (λ c q=>?_) (λ c ys q=>?_) λ c v pr q=>?_
   .let:c≠p:=by rintro rfl;rw[h]at q;ext q
    rw[ak this];show q
   .let:c≠p:=by rintro rfl;rw[h]at q;ext q
    rw[ak this];show q
   .let:c≠p:=by rintro rfl;rw[h]at q;ext q;show pr
    rw[ak this];show q
def Ki(s:av H H1)(hn:H p=Ch):av H (upd H1 p<|.eu o<|.lst xs):=λ b u e=>by rw[ak<|aR e hn];show s b u e
def ZQ.Xv(h:ZQ.QL X e l):ZQ.QE X e (Z.eL l):=⟨by
 let h:=h.p;intro B s O H Q I w;let(Y,d,r,e,k):=w;unfold Z.eL at e;cases q:l Y with
 |bad=>rw[q]at e;ext e
 |ok ds=>rw[q]at e;ext e;show cj (h B s O H (λ v H1=>∃a vs,v=.ref a/\av H H1/\H a=Ch/\H1 a=AC (.lst vs)/\au X.K H1 ds vs) I ⟨Y,ds,r,q,λ a vs H1 s1 hn h1 h2=>(a,vs,rfl,s1,hn,h1,h2,)⟩) ?_;rintro u s' ⟨v,H1,I1,rv,a,vs,rfl,s1,hn,h1,h2⟩;let(o,I2):=oF I1 h1;show(_,_,I2,rv,k _ _ (Ki s1 hn)<|z7 (.inl ⟨o,aA⟩)<|h2.ups<|jE h1,)⟩
def GQ(K:Db)(r:R2)(o:Z.D->Z.D->Z.Res Z.D):Prop:=∀(x y:V)(dx dy d:Z.D)(H:Hp)(Q:VK),bz K H dx x->bz K H dy y->o dx dy=.ok d->(∀v H',av H H'->Den K H' d v->Q v H')->r x y H Q
def two(hz:GQ X.K r o):∀O H Q,tZ X.K (Z.eB o fa fb) O H Q->OS r (Tc X.K fa) (Tc X.K fb) O H Q:=by rintro O H Q ⟨Y,d,re,e,k⟩;let(x,ea,e):=ce e;let(y,eb,e):=ce e;show(Y,x,re,ea,λ v H1 s1 d1=>(Y,y,re.up s1,eb,λ u H2 s2 d2=>hz _ _ _ _ _ H2 Q (d1.up s2) d2 e λ w H' s3 dw=>k w H' ((s1.trans s2).trans s3) dw,),)
def yk(hr:jx X (binaryOp op) r)(hz:GQ X.K r o)(ha:DW X a fa)(hb:DW X b fb):DE X (.BinOp a op b pos) (Z.eB o fa fb):=
 PE.imp (FH hr ha hb)<|two hz
def pL{K:Db}{g:Int->Int->Int}(h:∀dx dy d,o dx dy=.ok d->∃i j,dx=.int i/\dy=.int j/\C i j/\d=.int (g i j)):GQ K (rI C λ i j=>.int<|g i j) o:=by intro x y dx dy d H Q h1 h2 e k;let(i,j,rfl,rfl,hc,rfl):=h _ _ _ e;show(i,j,h1.int,h2.int,hc,k _ H (av.refl H) b8,)
def me{K:Db}{gd:Int->Int->Z.D}(h:∀dx dy d,o dx dy=.ok d->∃i j,dx=.int i/\dy=.int j/\d=gd i j)(hg:∀i j H,Den K H (gd i j) (g i j)):GQ K (Kt g) o:=by intro x y dx dy d H Q h1 h2 e k;let(i,j,rfl,rfl,rfl):=h _ _ _ e;show(i,j,h1.int,h2.int,k _ H (av.refl H)<|hg i j H,)
def ZQ.Xo(ha:ZQ.QW X a fa)(hb:ZQ.QW X b fb):ZQ.QE X (.BinOp a .Sub b pos) (Z.eB Z.ny fa fb):=⟨have ha:=ha.p;have hb:=hb.p;yk Vq (me (λ dx dy d e=>by
 unfold Z.ny at e;split at e
 .ext e;show(_,_,rfl,rfl,rfl,)
 .ext e) λ _ _ _=>b8) ha hb⟩
def NQ(i j:Int):Prop:=IntMulOk i j
def PB:jx X (binaryOp .Mult) (rI NQ λ i j=>.int<|i*j):=_a λ _ _ _ _ _ _ _ hc q=>mul_int q hc
def SE(i:Int):Z.bits i=Builtin.Int.intBits i:=by
 unfold Z.bits Builtin.Int.intBits;by_cases h:i=0
 .subst h;simp
 .first
   |(simp;done)
   |(rw[W1];simp;done)
def uN(h:Z.bS i j):IntMulOk i j:=by
 rcases h with h|h|⟨h1,h2⟩
 .exact IntMulOk.of_left<|intBits_le_64 ∅ ∅
 .exact IntMulOk.of_right<|intBits_le_64 ∅ ∅
 .rw[SE]at h1 h2;show mulOk_of_bits h1 h2 ∅
def ZQ.Xu(ha:ZQ.QW X a fa)(hb:ZQ.QW X b fb):ZQ.QE X (.BinOp a .Mult b pos) (Z.eB Z.fP fa fb):=⟨have ha:=ha.p;have hb:=hb.p;yk PB (pL λ dx dy d e=>by
 unfold Z.fP at e;split at e
 .unfold Z.guard at e;split at e
  .rename_i h;ext e;show(_,_,rfl,rfl,uN h,rfl,)
  .ext e
 .ext e) ha hb⟩
def abQ(_ j:Int):Prop:=Z.iV j
def EG(h:Z.iV j):0<j/\j.natAbs.log2<9000:=by
 let h0:=h.1;let h1:=h.2;let hn:j.natAbs≠0:=by lia
 let h2:j.natAbs<2^250:=by
  let:(2)^250=1809251394333065553493296640760748560207343510400633813116524750123642650624:=by decide
  lia
 let:=(Nat.log2_lt hn).mpr h2;show⟨h0,by lia⟩
def PD:jx X (binaryOp .FloorDiv) (rI abQ λ i j=>.int<|i / j):=_a λ i j _ _ _ _ _ hc q=>by let(h0,h1):=EG hc;let e:=Int.fdiv_eq_ediv_of_nonneg i<|Int.le_of_lt h0;show floordiv_int (Int.ne_of_gt h0) (by rw[e];show q)<|.inl<|PyProof.noPylong_of_log2 h1
def ZQ.M9(ha:ZQ.QW X a fa)(hb:ZQ.QW X b fb):ZQ.QE X (.BinOp a .FloorDiv b pos) (Z.eB Z.oDiv fa fb):=⟨have ha:=ha.p;have hb:=hb.p;yk PD (pL λ dx dy d e=>by
 unfold Z.oDiv at e;split at e
 .unfold Z.guard at e;split at e
  .rename_i h;ext e;show(_,_,rfl,rfl,h,rfl,)
  .ext e
 .ext e) ha hb⟩
def ZQ.EH(ha:ZQ.QW X a fa)(hb:ZQ.QW X b fb):ZQ.QE X (.BinOp a .Mod b pos) (Z.eB Z.oMod fa fb):=⟨have ha:=ha.p;have hb:=hb.p;yk Vu (pL λ dx dy d e=>by
 unfold Z.oMod at e;split at e
 .unfold Z.guard at e;split at e
  .rename_i h;ext e;show(_,_,rfl,rfl,h,rfl,)
  .ext e
 .ext e) ha hb⟩
def ZQ.Xp(ha:ZQ.QW X a fa)(hb:ZQ.QW X b fb):ZQ.QE X (.BinOp a .Pow b pos) (Z.eB Z.oy fa fb):=⟨have ha:=ha.p;have hb:=hb.p;yk Vt (pL λ dx dy d e=>by
 unfold Z.oy at e;split at e
 .unfold Z.guard at e;split at e
  .rename_i h;ext e;show(_,_,rfl,rfl,h,rfl,)
  .ext e
 .ext e) ha hb⟩
def Z3(K:Db):R2:=λ x y H Q=>∃a b xs ys,x=.ref a/\y=.ref b/\nj K H a xs/\nj K H b ys/\xs.n+ys.n<=sizeLine /\
 (xs=[]->Q (.ref b) H)/\(ys=[]->Q (.ref a) H)/\(∀p,H p=Ch->Q (.ref p) (upd H p<|.tup<|xs++ys))
def PH:jx X (binaryOp .Add) (Z3 X.K):=by
 intro B s O H x y v u Q I rx ry h;let(p,q,xs,ys,rfl,rfl,hp,hq,hz,q0,q1,q2):=h;by_cases hx:xs=[]
 .ext rx ry;let(a6,r1,ht,_):=I.tuple hp;let(iw,r2,hb,_):=I.tuple hq;let((cls,dd,data,sl),ho,hc,n,hd):=id ht;let((abi,ρ1,data2,Yw),Jz,zK,n2,hd2):=id hb;simp only at hc hd zK hd2;subst hc hd zK hd2;let e0:=r1.s?.mpr hx;show B53 ⟨_,ho,rfl⟩ ⟨_,Jz,rfl⟩ B91 seq_tuple_add B93 B94 (B95 _ _)
   (tuple_addW0 p q _ _ n n2 dd ρ1 sl Yw (by simp[e0])) ⟨ho,Jz,⟨.ref q,H,I,rfl,q0 hx⟩⟩
 .exact PJ B s O H _ _ v u Q I rx ry ⟨p,q,xs,ys,rfl,rfl,hp,hq,hx,hz,q1,λ _=>q2⟩
def OY(a b:U Nat):(⟨a.q⟩)++(⟨b.q⟩:Str)=⟨(a++b).toArray⟩:=by change(⟨a.q++b.q⟩:Str)=_;simp
def ZQ.Na(ha:ZQ.QW X a fa)(hb:ZQ.QW X b fb):ZQ.QE X (.BinOp a .Add b pos) (Z.eB Z.aC fa fb):=⟨have ha:=ha.p;have hb:=hb.p;yk (Vx.or<|DF.or PH) (λ x y dx dy d H Q h1 h2 e k=>by
 unfold Z.aC at e;split at e
 .ext e;show .inl ⟨_,_,h1.int,h2.int,k _ H (av.refl H) b8⟩
 .unfold Z.guard at e;split at e
  .rename_i as bs h;ext e;show .inr<|.inl ⟨_,_,h1.str,h2.str,?_,?_⟩
   .show as.q.u+bs.q.u<=sizeLine;rw[A26];simpa using h
   .rw[OY];show k _ H (av.refl H) ee
  .ext e
 .unfold Z.guard at e;split at e
  .rename_i as bs h;ext e;let(p,xs,rfl,hp,t1):=h1.tup;let(q,ys,rfl,hq,t2):=h2.tup;show .inr<|.inr ⟨p,q,xs,ys,rfl,rfl,hp,hq,?_,?_,?_,?_⟩
   .rw[t1.n,t2.n,A26];show h
   .rintro rfl;let:=B17 (by rw[<-t1.n];rfl);subst this;show k _ H (av.refl H)<|fM hq t2
   .rintro rfl;let:=B17 (by rw[<-t2.n];rfl);subst this;rw[A51]at k;show k _ H (av.refl H)<|fM hp t1
   .intro z hn;let s1:av H (upd H z<|.tup<|xs++ys):=bE hn;show k _ _ s1<|fM (.inl<|.inl aA)<|(t1.append t2).up s1
  .ext e
 .ext e) ha hb⟩
def ZQ.Xt(ha:ZQ.QW X a fa):ZQ.QE X (.UnaryOp .USub a pos) (Z.eU Z.P9 fa):=⟨PE.imp (Z7 UL ha.p) <|by
 rintro O H Q ⟨Y,d,r,e,k⟩;let(x,ea,e):=ce e;show(Y,x,r,ea,λ v H1 s1 d1=>?_,);unfold Z.P9 at e;split at e
 .ext e;show(_,d1.int,k _ H1 s1 b8,)
 .ext e⟩
end
end ZS
namespace ZS
section
open Builtin Builtin.Str
def jG(t:U Nat):(⟨t.q⟩:Str).length=t.n:=by simp[Str.length]
def _e(t:U Nat)(c:Nat):(!(Fk ⟨t.q⟩ ⟨#[c]⟩ 0 t.length 1).isEmpty)=t.contains c:=by let h:=StrLaws.found_one ⟨t.q⟩ c;rw[jG]at h;rw[h,A65];simp
def GB(n d:Nat)(i:Int):max 0 (min (if i<0 then i+(n)else i)<|n)=((Z.dO n d<|some i)):=by
 change max 0 (min (if i<0 then i+(n)else i)<|n)=(((if i<0 then(i+(n)).toNat else min _ n)))
 show mP! n i
def slR(a b:Nat):sliceRange (a) (b) 1=(FB<|b-a).map (λ k=>a+k):=by
 unfold sliceRange;erw[show(1:Int)>0 by decide,A28];let e:(if(a)<(b:Int)then((b)-(a:Int)+1-1) / 1 else 0).toNat=b-a:=by
  split
  .rw[Int.ediv_one,Int.add_sub_cancel];show Int.toNat_sub b a
  .show (Nat.sub_eq_zero_of_le (Int.ofNat_le.mp (Int.not_lt.mp ‹_›))).symm
 rw[e];apply A84;intro k _;lia
def idxs(lo hi:ε Int)(n:Nat):strSliceIndices lo hi 1 n=(FB<|Z.dO n n hi-Z.dO n 0 lo).map (λ k=>Z.dO n 0 lo+k):=by
 unfold strSliceIndices;erw[show(1:Int)>0 by decide,A28];rw[<-slR];cases lo with
 |none=>
  cases hi with
  |none=>rfl
  |some j=>erw[GB n n j];rfl
 |some i=>
  cases hi with
  |none=>erw[GB n 0 i];rfl
  |some j=>erw[GB n 0 i,GB n n j]
def y8(n d:Nat)(hd:d<=n)(o:ε Int):Z.dO n d o<=n:=by
 cases o with
 |none=>show hd
 |some v=>change(if v<0 then(v+(n)).toNat else min _ n)<=n;split<;>lia
def pick(cs:U Nat):∀k a,a+k<=cs.n->((FB k).map λ j=>a+j).filterMap (λ i=>cs.toArray[i]?)=(cs.drop a).take k:=by
 intro k
 induction k with
 |zero=>intro a _;simp
 |succ k ih=>
  intro a h;rw[A85,A27,List.filterMap_append,ih a ∅];let j?:a+k<cs.n:=by lia
  rw[List.take_succ];simp[j?]
def ZH(cs:U Nat)(lo hi:ε Int):Txt.slice ⟨cs.q⟩ lo hi=⟨(Z.cut cs lo hi).toArray⟩:=by
 unfold Txt.slice;rw[jG,idxs];let h1:=y8 _ cs.length (P3 _) hi;let h0:=y8 cs.length 0 (A48 _) lo;let hp:((FB<|Z.dO cs.length cs.length hi-Z.dO cs.length 0 lo).map λ k=>Z.dO cs.length 0 lo+k).filterMap (λ i=>cs.toArray[i]?)=Z.cut cs lo hi:=by show pick cs _ _ ∅
 split
 .rename_i hh;let ψ:(FB<|Z.dO cs.length cs.length hi-Z.dO cs.length 0 lo).length=cs.n:=by erw[A54,C00,A40,A04]at hh;show hh
  rw[B16]at ψ;unfold Z.cut;let e0:Z.dO cs.length 0 lo=0:=by lia
  let e1:=ψ
  rw[e1,e0];simp
 .rw[hp]
end
open L2
section
variable{X:Cx}
def Xy(hr:jx X (compareOp op) r)(hz:GQ X.K r o)(ha:DW X a fa)(hb:DW X b fb)(hm:behindInMarks op b=AT):DE X (.Compare a [op] [b] pos) (Z.eB o fa fb):=
 PE.imp (pJ hr ha hb hm)<|two hz
def vn(h:PT X e (Fp t))(k:∀O H Q,tZ X.K f O H Q->t O H Q):DT X e (Z.tE f):=PT.imp h <|by
 rintro O H Q ⟨Y,b,r,e,q⟩;let(x,ea,e):=ce e;show k O H _ ⟨Y,x,r,ea,λ v H' s d=>?_⟩;split at e
 .ext e;erw[Den]at d;show(_,d,q H' s,)
 .ext e
def Xa(hr:jx X (compareOp op) r)(hz:GQ X.K r o)(ha:DW X a fa)(hb:DW X b fb)(hm:behindInMarks op b=AT):DT X (.Compare a [op] [b] pos) (Z.tE<|Z.eB o fa fb):=
 vn (sW hr ha hb hm)<|two hz
structure Au(X:Cx)(op:CmpOp)(o:Z.D->Z.D->Z.Res Z.D):Prop where
 ex:∃r,jx X (compareOp op) r/\GQ X.K r o
def ZQ.M!(h:Au X op o)(ha:ZQ.QW X a fa)(hb:ZQ.QW X b fb)(hm:behindInMarks op b=AT:=by first|show iF _|with_unfolding_all rfl):ZQ.QE X (.Compare a [op] [b] pos) (Z.eB o fa fb):=
 ⟨by let(_,hr,hz):=h.ex;show Xy hr hz ha.p hb.p hm⟩
def ZQ.kh(h:Au X op o)(ha:ZQ.QW X a fa)(hb:ZQ.QW X b fb)(hm:behindInMarks op b=AT:=by first|show iF _|with_unfolding_all rfl):ZQ.QT X (.Compare a [op] [b] pos) (Z.tE<|Z.eB o fa fb):=
 ⟨by let(_,hr,hz):=h.ex;show Xa hr hz ha.p hb.p hm⟩
def ym(hz:GQ X.K r o)(_?:GQ X.K r' o'):∀O H Q,tZ X.K (Z.g_ o o' fa fb fc) O H Q->Dg r r' (Tc X.K fa) (Tc X.K fb) (Tc X.K fc) O H Q:=by
 rintro O H Q ⟨Y,d,re,e,k⟩;let(x,ea,e):=ce e;let(y,eb,e):=ce e;let(z,eo,e):=ce e;show(Y,x,re,ea,λ v H1 s1 d1=>(Y,y,re.up s1,eb,λ u H2 s2 d2=>hz _ _ _ _ _ H2 _ (d1.up s2) d2 eo λ w H3 s3 dw=>?_,),);let NV:=(s1.trans s2).trans s3;split at e
 .rename_i q;erw[Den]at dw;show(_,dw,?_,);cases q with
  |true=>erw[A28]at e ⊢;let(t,ec,e):=ce e;show(Y,t,re.up NV,ec,λ v' H4 s4 d4=>_? _ _ _ _ _ H4 Q ((d2.up s3).up s4) d4 e λ w' H5 s5 dw'=>k w' H5 ((NV.trans s4).trans s5) dw',)
  |false=>erw[A46]at e ⊢;ext e;show k _ H3 NV cx
 .ext e
def ZQ.M?(h:Au X op o)(h':Au X HK o')(ha:ZQ.QW X a fa)(hb:ZQ.QW X b fb)(hc:ZQ.QW X c fc)
 (hm:lastMarks [op,HK] [b,c]=AT:=by with_unfolding_all rfl):ZQ.QE X (.Compare a [op,HK] [b,c] pos) (Z.g_ o o' fa fb fc):=
 ⟨let ⟨_,hr,hz⟩:=h.ex;let ⟨_,hr',_?⟩:=h'.ex;PE.imp (KR hr hr' ha.p hb.p hc.p hm) (ym hz _?)⟩
def ZQ.MJ(h:Au X op o)(h':Au X HK o')(ha:ZQ.QW X a fa)(hb:ZQ.QW X b fb)(hc:ZQ.QW X c fc)
 (hm:lastMarks [op,HK] [b,c]=AT:=by with_unfolding_all rfl):ZQ.QT X (.Compare a [op,HK] [b,c] pos) (Z.tE<|Z.g_ o o' fa fb fc):=
 ⟨let ⟨_,hr,hz⟩:=h.ex;let ⟨_,hr',_?⟩:=h'.ex;vn (Kv hr hr' ha.p hb.p hc.p hm) (ym hz _?)⟩
def Jh:Au X .Lt Z.oLt:=(_,Z',me (λ dx dy d e=>by
 unfold Z.oLt at e;split at e
 .ext e;show(_,_,rfl,rfl,rfl,)
 .ext e) λ _ _ _=>cx,)
def EN:Au X .Gt Z.zk:=(_,Z?,me (λ dx dy d e=>by
 unfold Z.zk at e;split at e
 .ext e;show(_,_,rfl,rfl,rfl,)
 .ext e) λ _ _ _=>cx,)
def Jj:Au X .GtE Z.YF:=(_,Z_,me (λ dx dy d e=>by
 unfold Z.YF at e;split at e
 .ext e;show(_,_,rfl,rfl,rfl,)
 .ext e) λ _ _ _=>cx,)
def HI:jx X (compareOp .LtE) (λ x y H Q=>∃i j,x=.str i/\y=.str j/\Q (.bl<|!decide (j.cps.y<i.cps.y)) H):=by intro B s O H x y v u Q I rx ry h;let(i,j,rfl,rfl,q):=h;let(t,rfl):=rx;let(t',rfl):=ry;show PySem.P.le_str<|ve I q rfl
def LJ:∀a b,Z.Jx a b=decide (a<b)
|[],[]=>by simp[Z.Jx]
|[],_::_=>by simp[Z.Jx]
|_::_,[]=>by simp[Z.Jx]
|a::as,b::bs=>by
 unfold Z.Jx;rw[LJ];by_cases h:a<b
 .simp[C46]
 .by_cases h2:a=b
  .subst h2;simp
  .simp[C46]
def EM:Au X .LtE Z.oLe:=⟨_,Z!.or HI,λ x y dx dy d H Q h1 h2 e k=>by
 unfold Z.oLe at e;split at e
 .ext e;show .inl ⟨_,_,h1.int,h2.int,k _ H (av.refl H) cx⟩
 .ext e;show .inr ⟨_,_,h1.str,h2.str,?_⟩;rename_i as bs;let q:=k (.bl<|!Z.Jx bs as) H (av.refl H) cx;rw[LJ]at q;show q
 .ext e⟩
def _7:Z.D->Bool
|.non=>Da
|_=>AT
def DR{K:Db}(h:bz K H d v):decide (v=.non)=_7 d:=by
 cases d with
 |non=>rw[h.non];rfl
 |bl b=>rw[h.bl];rfl
 |int i=>rw[h.int];rfl
 |str cs=>rw[h.str];rfl
 |tup ds=>let(a,vs,rfl,_):=h.tup;rfl
 |lst ds=>let(a,vs,rfl,_):=h.lst;rfl
 |dct ks ds=>let(a,o,aG,rfl,_):=h.dct;rfl
def Q4:∀O H Q,tZ X.K (Z.eU Z.lN fa) O H Q->OS (λ x y H Q=>y=.non/\Q (.bl<|decide<|x=.non) H) (Tc X.K fa) (tC .non) O H Q:=by rintro O H Q ⟨Y,d,r,e,k⟩;let(x,ea,e):=ce e;show(Y,x,r,ea,λ v H1 s1 d1=>(rfl,?_,),);rw[DR d1];ext x<;>(ext e;show k _ H1 s1 cx)
def Bn:∀O H Q,tZ X.K (Z.eU Z.jF fa) O H Q->OS (λ x y H Q=>y=.non/\Q (.bl<|!decide (x=.non)) H) (Tc X.K fa) (tC .non) O H Q:=by rintro O H Q ⟨Y,d,r,e,k⟩;let(x,ea,e):=ce e;show(Y,x,r,ea,λ v H1 s1 d1=>(rfl,?_,),);rw[DR d1];ext x<;>(ext e;show k _ H1 s1 cx)
def ZQ.R4(ha:ZQ.QW X a fa):ZQ.QE X (.Compare a [.IsNot] [.Constant .none j pos'] pos) (Z.eU Z.jF fa):=⟨PE.imp (pJ sX ha.p qP<|iF _) Bn⟩
def ZQ.MI(ha:ZQ.QW X a fa):ZQ.QT X (.Compare a [.Is] [.Constant .none j pos'] pos) (Z.tE<|Z.eU Z.lN fa):=⟨vn (sW Vv ha.p qP<|iF _) Q4⟩
def ZQ.RG(ha:ZQ.QW X a fa):ZQ.QT X (.Compare a [.IsNot] [.Constant .none j pos'] pos) (Z.tE<|Z.eU Z.jF fa):=⟨vn (sW sX ha.p qP<|iF _) Bn⟩
def yo:Au X .In Z.Ld:=⟨_,HJ,λ x y dx dy d H Q h1 h2 e k=>by
 unfold Z.Ld at e;split at e
 .ext e;show(_,_,h1.str,h2.str,?_,);rename_i c t;rw[jG,_e];show k _ H (av.refl H) cx
 .ext e⟩
def km:Au X .NotIn Z.pO:=⟨_,zd,λ x y dx dy d H Q h1 h2 e k=>by
 unfold Z.pO at e;split at e
 .ext e;show(_,_,h1.str,h2.str,?_,);rename_i c t;rw[jG,_e];show k _ H (av.refl H) cx
 .ext e⟩
def ZQ.Xq(h:ZQ.QE X a fa):ZQ.QE X (.BoolOp op [a] pos) fa:=⟨KJ h.p⟩
def ZQ.XB{rest:U η}(ha:ZQ.QE X a fa)(hb:ZQ.QE X (.BoolOp .And (b::rest) pos) fb):ZQ.QE X (.BoolOp .And (a::b::rest) pos) (Z.vm fa fb):=⟨PE.imp (KU ha.p hb.p) <|by
 rintro O H Q ⟨Y,d,r,e,k⟩;let(x,ea,e):=ce e;show(Y,x,r,ea,λ v H1 s1 d1=>?_,);split at e
 .rename_i q;erw[Den]at d1;show(q,d1,?_,);cases q with
  |true=>erw[A28]at e ⊢;show(Y,d,r.up s1,e,λ w H' s2 dw=>k w H' (s1.trans s2) dw,)
  |false=>erw[A46]at e ⊢;ext e;show k _ H1 s1 cx
 .ext e⟩
def ZQ.abf{rest:U η}(ha:ZQ.QE X a fa)(hb:ZQ.QE X (.BoolOp .Or (b::rest) pos) fb):ZQ.QE X (.BoolOp .Or (a::b::rest) pos) (Z.YZ fa fb):=⟨PE.imp (Z8 ha.p hb.p) <|by
 rintro O H Q ⟨Y,d,r,e,k⟩;let(x,ea,e):=ce e;show(Y,x,r,ea,λ v H1 s1 d1=>?_,);split at e
 .rename_i q;erw[Den]at d1;show(q,d1,?_,);cases q with
  |false=>erw[A46]at e ⊢;show(Y,d,r.up s1,e,λ w H' s2 dw=>k w H' (s1.trans s2) dw,)
  |true=>erw[A28]at e ⊢;ext e;show k _ H1 s1 cx
 .ext e⟩
def ZQ.Xr(ha:ZQ.QE X a fa):ZQ.QE X (.UnaryOp .Not a pos) (Z.RD fa):=⟨PE.imp (Vh ha.p) <|by
 rintro O H Q ⟨Y,d,r,e,k⟩;let(x,ea,e):=ce e;show(Y,x,r,ea,λ v H1 s1 d1=>?_,);split at e
 .simp only[Den]at d1;ext e;show(_,d1,k _ H1 s1 cx,)
 .ext e⟩
def UY:∀O H Q,Zv X.K (Z.tE f) O H Q->tB (tZ X.K f) O H Q:=by
 rintro O H Q ⟨Y,b,r,e,q⟩;let(x,ea,e):=ce e;show(Y,x,r,ea,λ v H' s d=>?_,);split at e
 .ext e;erw[Den]at d;show(_,d,q H' s,)
 .ext e
def ZQ.aa7(h:ZQ.QE X e f)(he:∀whole,isTrue e X.env whole=(do let v ←whole;standAt e.pos;holding [v] (truthy v)):=by intro _;rfl):ZQ.QT X e (Z.tE f):=⟨PT.imp (U_ h.p he) UY⟩
def ZQ.MH(h:ZQ.QT X a t):ZQ.QT X (.UnaryOp .Not a pos) (Z.fN t):=⟨PT.imp (Va h.p) <|by rintro O H Q ⟨Y,b,r,e,q⟩;let(x,ea,e):=ce e;ext e;show(Y,x,r,ea,λ H' s=>q H' s,)⟩
def ZQ.RH(h:ZQ.QT X a t):ZQ.Ut X (.BoolOp .And [a] pos) t:=⟨pw_and1 h.p⟩
def ZQ.Ez(h:ZQ.QT X a t):ZQ.Ut X (.BoolOp .Or [a] pos) t:=⟨pw_or1 h.p⟩
def ZQ.Xb{rest:U η}(ha:ZQ.QT X a t)(hb:ZQ.Ut X (.BoolOp .And (b::rest) pos) u):ZQ.Ut X (.BoolOp .And (a::b::rest) pos) (Z.ue t u):=⟨PW.imp (pw_and ha.p hb.p) <|by
 rintro O H Q ⟨Y,d,r,e,k⟩;let(x,ea,e):=ce e;show(Y,x,r,ea,λ H1 s1=>?_,);cases x with
 |true=>erw[A28]at e ⊢;show(Y,d,r.up s1,e,λ H' s2=>k H'<|s1.trans s2,)
 |false=>erw[A46]at e ⊢;ext e;show k H1 s1⟩
def ZQ.MG{rest:U η}(ha:ZQ.QT X a t)(hb:ZQ.Ut X (.BoolOp .Or (b::rest) pos) u):ZQ.Ut X (.BoolOp .Or (a::b::rest) pos) (Z.yQ t u):=⟨PW.imp (pw_or ha.p hb.p) <|by
 rintro O H Q ⟨Y,d,r,e,k⟩;let(x,ea,e):=ce e;show(Y,x,r,ea,λ H1 s1=>?_,);cases x with
 |false=>erw[A46]at e ⊢;show(Y,d,r.up s1,e,λ H' s2=>k H'<|s1.trans s2,)
 |true=>erw[A28]at e ⊢;ext e;show k H1 s1⟩
def ZQ.dtw(h:ZQ.Ut X e t):ZQ.QT X e t:=⟨h.p.pt⟩
def ZQ.M6(hc:ZQ.QT X c t)(ha:ZQ.QE X a fa)(hb:ZQ.QE X b fb):ZQ.QE X (.IfExp c a b pos) (Z.eIf t fa fb):=⟨PE.imp (KQ hc.p ha.p hb.p) <|by
 rintro O H Q ⟨Y,d,r,e,k⟩;let(x,ea,e):=ce e;show(Y,x,r,ea,λ H1 s1=>?_,);cases x with
 |true=>erw[A28]at e ⊢;show(Y,d,r.up s1,e,λ w H' s2 dw=>k w H' (s1.trans s2) dw,)
 |false=>erw[A46]at e ⊢;show(Y,d,r.up s1,e,λ w H' s2 dw=>k w H' (s1.trans s2) dw,)⟩
def ZQ.eK:ZQ.QA X [] Z.ah:=⟨PA.imp bH <|by rintro O H Q ⟨Y,ds,r,e,k⟩;ext e;show k [] H (av.refl H) au.nil⟩
def iW(ha:DE X e f)(hr:DA X es g)(hs:Se e es X.J:=by rfl):DA X (e::es) (Z.ae f g):=PA.imp (aM ha hr hs) <|by rintro O H Q ⟨Y,ds,r,e,k⟩;let(x,ea,e):=ce e;let(xs,eb,e):=ce e;ext e;show(Y,x,r,ea,λ v H1 s1 d1=>(Y,xs,r.up s1,eb,λ vs H2 s2 d2=>k _ H2 (s1.trans s2)<|au.cons (d1.up s2) d2,),)
def ZQ.vB(h:ZQ.QA X es g):ZQ.QE X (.Tuple es x1 pos) (Z.cw g):=⟨PE.imp (KI h.p) <|by
 rintro O H Q ⟨Y,d,r,e,k⟩;let(xs,ea,e):=ce e;unfold Z.guard at e;split at e
 .rename_i hl;ext e;show(Y,xs,r,ea,λ vs H1 s1 d1=>⟨by rw[d1.n,A26];show hl,λ q hq=>?_⟩,);let s2:av H1 (upd H1 q<|.tup vs):=bE hq;show k _ _ (s1.trans s2)<|fM (.inl<|.inl aA)<|d1.up s2
 .ext e⟩
def ZQ.z6(h:ZQ.QA X es g):ZQ.QL X (.List es pos) (Z.a9 g):=⟨PE.imp (Vi h.p) <|by
 rintro O H Q ⟨Y,d,r,e,k⟩;let(xs,ea,e):=ce e;unfold Z.guard at e;split at e
 .rename_i hl;ext e;show(Y,_,r,ea,λ vs H1 s1 d1=>⟨by rw[d1.n,A26];show hl,λ q hq=>?_⟩,);let s2:av H1 (upd H1 q<|.lst vs):=bE hq;show k q vs _ (s1.trans s2) (s1.free hq) aA<|d1.up s2
 .ext e⟩
end
end ZS
namespace ZS
open L2
def yN:Z.Ty->String
|.bool=> "bool"|.int=> "int"|.str=> "str"|.tuple=> "tuple"|.list=> "list"|.dict=> "dict"
def tyD:Z.D->String
|.non=> "NoneType"|.bl _=> "bool"|.int _=> "int"|.str _=> "str"|.tup _=> "tuple"|.lst _=> "list"|.dct _ _=> "dict"
def zC(K:Db)(t:Z.Ty)(d:Z.D):PySem.W.kitOne K (.type<|tyD d) (.type<|yN t)=AC (Z.dC t d):=by ext t<;>ext d<;>kernel_rfl
def LY(t:Z.Ty)(I:Inv X B O H s)(hd:bz X.K H d v)(r:RelV v u)
 (h:∀tk,Q (.bool<|Z.dC t d) {s with toks:=tk}):Ev (model X.prog X.w) A (call (.builtin "isinstance") [u,.type (yN t)]) Q E s:=by
 let e:=zC X.K t d;cases d with
 |non=>rw[hd.non]at r;cases (r);show A97 PySem.W.kitx_none I.jw GE e (λ z=>nomatch z) h
 |bl y=>rw[hd.bl]at r;cases (r);show A97 PySem.W.kitx_bool I.jw GE e (λ z=>nomatch z) h
 |int i=>rw[hd.int]at r;obtain⟨t',q⟩:=(r);ext q;show A97 PySem.W.kitx_int I.jw GE e (λ z=>nomatch z) h
 |str cs=>rw[hd.str]at r;obtain⟨t',q⟩:=(r);ext q;show A97 PySem.W.kitx_str I.jw GE e (λ z=>nomatch z) h
 |tup ds=>let(a,vs,rfl,hq,_):=hd.tup;cases (r);let(a6,_,(o,h1,h2,_),_):=I.tuple hq;show A97 PySem.W.kitx_tuple I.jw ⟨o,h1,h2⟩ e (λ z=>nomatch z) h
 |lst ds=>let(a,vs,rfl,hq,_):=hd.lst;cases (r);let(a6,_,(o,n,h1,h2,_),_):=I.list hq;show A97 PySem.W.kitx_list I.jw ⟨o,h1,h2⟩ e (λ z=>nomatch z) h
 |dct ks ds=>
  let(a,o,aG,rfl,hq,_):=hd.dct;cases (r);obtain⟨_,_,_,_,_,o',es,ep,h1,h2,_⟩:=(I.bN a _ hq)
  show A97 PySem.W.kitx_dict I.jw ⟨o',h1,h2.1⟩ e (λ z=>nomatch z) h
theorem ZQ.mX(t:Z.Ty)(hg:Gl X x)(hm:X.mg x=Ch)(hv:bootBuiltins x=AC (.builtin "isinstance"))(hg2:Gl X y)(hm2:X.mg y=Ch)(T6:bootBuiltins y=AC (.type<|yN t))(ha:ZQ.QW X a fa)
 (hn:x≠ "__name__":=by decide +kernel) (fG:Nd x:=by kernel_rfl) (L!:y≠ "__name__":=by decide +kernel) (WV:Nd y:=by kernel_rfl)
 (he:starEach (a::[.Name y p2]) X.J=(AT,eval a X.J)::starEach [.Name y p2] X.J:=by rfl) (dX:(backTo pos<|starEach [.Name y p2] X.J).any (·.1)=AT:=by rfl) (Od:starEach ((.Name y p2)::[]) X.J=(AT,eval (.Name y p2) X.J)::starEach [] X.J:=by rfl) :
 ZQ.QE X (.Call (.Name x p1) [a,.Name y p2] [] pos) (Z.eU (Z.iL t) fa):=⟨by
 let hc:kz X (.builtin "isinstance") (λ xs H Q=>∃v d,xs=[v,.ty (yN t)]/\bz X.K H d v/\Q (.bl<|Z.dC t d) H):=by intro B s O H xs us Q I r h;let(v,d,rfl,hd,q):=h;let(u,w',rfl,r1,r2):=vals2 r;cases (r2);show LY t I hd r1 λ tk=>(.bl _,H,I.tok _,rfl,q,)
 show PE.imp (jb hc hg hm hv (aM ha.p (aM (zb (v:=.ty (yN t)) hg2 hm2 T6 rfl L! WV) bH Od) he) hn fG he dX) ?_;rintro O H Q ⟨Y,d,r,e,k⟩;let(x,ea,e):=ce e;ext e;show(Y,x,r,ea,λ v H1 s1 d1=>(v,x,rfl,d1,k _ H1 s1 cx,),)⟩
def ZQ.z!{x:Str}(hm:X.mg x=Ch)(ha:ZQ.QW X a fa)(hn:x≠ "__name__":=by decide +kernel)(fG:Nd x:=by kernel_rfl)(he:Se a [] X.J:=by rfl)(dX:Pn pos [] X.J:=by rfl)(hg:Gl X x:=by rfl)(hv:bootBuiltins x=AC (.builtin "len"):=by kernel_rfl):ZQ.QE X (.Call (.Name x p1) [a] [] pos) (Z.eU Z.ck fa):=
 ⟨PE.imp (jb Np hg hm hv (aM ha.p bH he) hn fG he dX) <|by
  rintro O H Q ⟨Y,d,r,e,k⟩;let(x,ea,e):=ce e;show(Y,x,r,ea,λ v H1 s1 d1=>?_,);unfold Z.ck at e;split at e
  .unfold Z.guard at e;split at e
   .rename_i cs hl;ext e;rw[d1.str];show(_,_,rfl,(?_,?_,),k _ H1 s1 b8,)
    .show cs.q.u<=sizeLine;rw[A26];simpa using hl
    .show cs.n=cs.q.u;simp
   .ext e
  .ext e;let(q,vs,rfl,hq,t):=d1.tup;show(_,_,rfl,.inr ⟨vs,hq,rfl⟩,?_,);rw[t.n];show k _ H1 s1 b8
  .ext e;let(q,vs,rfl,hq,t):=d1.lst;show(_,_,rfl,.inl ⟨vs,hq,rfl⟩,?_,);rw[t.n];show k _ H1 s1 b8
  .ext e⟩
def Wo(n:Nat)(i:Int):Z.xZ n i=_2 n i:=rfl
def atZ{K:Db}(t:au K H ds vs)(h:((Z.xZ ds.length i).bind λ j=>ds[j]?)=AC d):∃v,Ya vs i=AC v/\Den K H d v:=by
 unfold Ya;rw[t.n,<-Wo];cases q:Z.xZ _ i with
 |none=>rw[q]at h;ext h
 |some j=>rw[q]at h;show t.get h
def Tr:∃r,Ol X r/\GQ X.K r Z.aW:=⟨_,LX,λ x y dx dy d H Q h1 h2 e k=>by
 unfold Z.aW at e;split at e
 .let(q,vs,rfl,hq,t):=h1.tup;split at e
  .rename_i v hv;ext e;let(w,e1,dw):=atZ t hv;show .inr<|.inl ⟨q,vs,_,w,rfl,h2.int,hq,e1,k w H (av.refl H) dw⟩
  .ext e
 .let(q,vs,rfl,hq,t):=h1.lst;split at e
  .rename_i v hv;ext e;let(w,e1,dw):=atZ t hv;show .inl ⟨q,vs,_,w,rfl,h2.int,hq,e1,k w H (av.refl H) dw⟩
  .ext e
 .unfold Z.guard at e;split at e
  .rename_i cs i hl;split at e
   .rename_i c hc;ext e;show .inr<|.inr ⟨_,_,c,h1.str,h2.int,?_,?_,?_⟩
    .show cs.q.u<=sizeLine;rw[A26];simpa using hl
    .exact hc
    .exact k _ H (av.refl H)<|ee
   .ext e
  .ext e
 .ext e⟩
def ZQ.Gx(ha:ZQ.QW X a fa)(hb:ZQ.QW X b fb)(hs:tI b:=by intro _ _;rfl):ZQ.QE X (.Subscript a b pos) (Z.eB Z.aW fa fb):=⟨by let(_,h,o):=Tr;show PE.imp (KP h ha.p hb.p hs)<|two o⟩
def ZQ.aba:ZQ.QP X Ch Z.NW:=⟨PO.imp Pp <|by rintro O H Q ⟨Y,o,r,e,k⟩;ext e;show k H<|av.refl H⟩
def ZQ.MM(h:ZQ.QW X e f):ZQ.QP X (AC e) (Z.qQ f):=⟨PO.imp (Po h.p) <|by
 rintro O H Q ⟨Y,o,r,e,k⟩;let(x,ea,e):=ce e;show(Y,x,r,ea,λ v H1 s1 d1=>?_,);split at e
 .ext e;show(_,d1.int,k H1 s1,)
 .ext e⟩
def qL(n d:Nat)(o:ε Int):Z.dO n d o=HT.dO n d o:=by ext o<;>rfl
def EK{K:Db}(t:au K H ds vs)(lo hi:ε Int):au K H (Z.cut ds lo hi) (w_ vs lo hi):=by unfold Z.cut w_;rw[qL,qL,t.n];show(t.drop _).take _
def I_{lo hi:ε Int}(h1:HT.dO xs.length 0 lo=0)(h2:HT.dO xs.length xs.length hi=xs.n):Z.cut xs lo hi=xs:=by unfold Z.cut;rw[qL,qL,h1,h2];simp
def ad4(K:Db):V->ε Int->ε Int->Hp->VK->Prop:=λ x lo hi H Q=>∃a xs,x=.ref a/\nj K H a xs/\(w_ xs lo hi=xs->Q (.ref a) H)/\∀p,H p=Ch->Q (.ref p) (upd H p<|.tup<|w_ xs lo hi)
def nA{lo hi:ε Int}(ht:IsTup s.heap t items)(hs:s.heap.IsSliceOf sl vl vu .none)(pl:IsPart vl lo)(pu:IsPart vu hi)
 (hw:HT.dO items.size 0 lo=0/\HT.dO items.size items.size hi=items.u)
 (h:Q (.ref t) s):Ev (model prog w) A (getItem (.ref t)<|.ref sl) Q E s:=by
 let(os,WE,BP,hds):=id hs;let hTs:s.TypeIs (.ref sl) "slice":=(os,WE,BP,)
 unfold getItem
 try with_reducible show A49 ?_
 first|show T0<|v6 ?_|skip
 show T0<|wpAny_sequenceKey ht.typeIs ∅ ?_;show T0 (B11 (name:=EQ "__getitem__") ht.typeIs B12
 <|B13 B12 ht.typeIs entry_tuple_getitem ?_<|args_tuple_getitem _ _)
 change Ev _ _ (bi (.ref t)>>=_) _ _ s;show T0<|tupleItemsOf_ ht ?_;show T0<|wpAny_typeOf hTs ?_;rw[M2 ∅];show T0<|HT.j4 hs pl pu ?_;let aeM:(((HT.dO items.size 0 lo):Int)==0&&(1:Int)==1&&(HT.dO items.size items.size hi-HT.dO items.size 0 lo)==items.u)=Da:=by rw[hw.1,hw.2];simp
 change Ev _ _ (if(((HT.dO items.size 0 lo:Nat):Int)==0&&(1:Int)==1&&(HT.dO items.size items.size hi-HT.dO items.size 0 lo)==items.u)=Da then _ else _) _ _ s;rw[M2 aeM];show T0 ?_;unfold Builtin.Tuple.tupleIsExact;show T0<|wpAny_typeOf ht.typeIs ?_;show v6 ?_;rw[M2<|A54 _];show T0<|B32 ?_;show v6 ⟨.ref t,rfl,v6 h⟩
def O4:SV X (ad4 X.K):=by
 intro B s O H x v vl vu lo hi sl Q I rx hs pl pu h;let(a,xs,rfl,hx,q1,q2):=h;by_cases hw:HT.dO xs.length 0 lo=0/\HT.dO xs.length xs.length hi=xs.n
 .ext rx;let(a6,r,ht,hz):=I.tuple hx;let ψ:a6.q.u=xs.n:=by rw[A12];show r.n.c
  show("tuple",_,B12.lookup,ht.typeIs,?_,);show nA ht hs pl pu (by rw[ψ];show hw) ⟨.ref a,H,I,rfl,q1 ?_⟩;let:=I_ hw.1 hw.2;unfold Z.cut at this;rw[qL,qL]at this;show this
 .exact U3 B s O H _ v vl vu lo hi sl Q I rx hs pl pu ⟨a,xs,rfl,hx,hw,q2⟩
def ad6:V->ε Int->ε Int->Hp->VK->Prop:=λ x lo hi H Q=>∃z,x=.str z/\z.n<=sizeLine/\Q (.str<|Txt.slice z lo hi) H
def KY(h:IsPart v o):∃q,v=partValue q/\q.map (·.1)=o:=by
 cases h with
 |none=>show(Ch,rfl,rfl,)
 |int i t=>show(AC (i,t),rfl,rfl,)
def σ5:SV X ad6:=by intro B s O H x v vl vu lo hi sl Q I rx hs pl pu h;let(z,rfl,hz,q):=h;let(t,rfl):=rx;let(ql,rfl,rfl):=KY pl;let(qu,rfl,rfl):=KY pu;show("str",_,F.slot_str_getitem.lookup,A81 _ _ _,?_,);show wpAny_getItem_str_slice (st:=Ch) hs rfl ?_;show post_val_or_str ⟨A14 (Txt.slice_le z _ _) hz,λ t' k=>(.str _,H,I.tok _,(t',rfl,),q,)⟩
def ZQ.M5{lo hi:ε η}(ha:ZQ.QW X a fa)(hl:ZQ.QP X lo gl)(hh:ZQ.QP X hi gh):ZQ.QE X (.Subscript a (.Slice lo hi Ch p2) pos) (Z.MF fa gl gh):=
 ⟨have hl:=hl.p;PE.imp (Ba (σ5.or O4) ha.p hl hh.p) <|by
  rintro O H Q ⟨Y,d,r,e,k⟩;let(x,ea,e):=ce e;let(l,el,e):=ce e;let(h,eh,e):=ce e;show(Y,x,r,ea,λ v H1 s1 d1=>(Y,l,r.up s1,el,λ H2 s2=>(Y,h,(r.up s1).up s2,eh,λ H3 s3=>?_,),),);let NV:=(s1.trans s2).trans s3;let d3:=(d1.up s2).up s3;unfold Z._i at e;split at e
  .unfold Z.guard at e;split at e
   .rename_i cs _ _ hl;ext e;show .inl ⟨_,d3.str,?_,?_⟩
    .show cs.q.u<=sizeLine;rw[A26];simpa using hl
    .rw[ZH];show k _ H3 NV ee
   .ext e
  .ext e;let(q,vs,rfl,hq,t):=d3.tup;show .inr ⟨q,vs,rfl,hq,λ hw=>?_,λ z hz=>?_⟩
   .let:=EK t l h;rw[hw]at this;show k _ H3 NV<|fM hq this
   .let s4:av H3 (upd H3 z<|.tup<|w_ vs l h):=bE hz;show k _ _ (NV.trans s4)<|fM (.inl<|.inl aA)<|(EK t l h).up s4
  .ext e⟩
def ZQ.Cf{lo hi:ε η}(ha:ZQ.QW X a fa)(hl:ZQ.QP X lo gl)(hh:ZQ.QP X hi gh):ZQ.QL X (.Subscript a (.Slice lo hi Ch p2) pos) (Z.LQ fa gl gh):=
 ⟨PE.imp (Ba σ6 ha.p hl.p hh.p) <|by
  rintro O H Q ⟨Y,d,r,e,k⟩;let(x,ea,e):=ce e;let(l,el,e):=ce e;let(h,eh,e):=ce e;show(Y,x,r,ea,λ v H1 s1 d1=>(Y,l,r.up s1,el,λ H2 s2=>(Y,h,(r.up s1).up s2,eh,λ H3 s3=>?_,),),);let NV:=(s1.trans s2).trans s3;let d3:=(d1.up s2).up s3;split at e
  .ext e;let(q,vs,rfl,hq,t):=d3.lst;show(q,vs,rfl,hq,λ z hz=>?_,);let s4:av H3 (upd H3 z<|.lst<|w_ vs l h):=bE hz;show k z _ _ (NV.trans s4) (NV.free hz) aA<|(EK t l h).up s4
  .ext e⟩
def Z5(K:Db):R2:=λ x y H Q=>∃l b xs zs,x=.ref l/\y=.ref b/\jO K H l xs/\jO K H b zs/\xs.n+zs.n<=sizeLine/\∀p,H p=Ch->Q (.ref p) (upd H p<|.lst<|xs++zs)
def PK:jx X (binaryOp .Add) (Z5 X.K):=by
 intro B s O H x y v u Q I rx ry h;let(l,b,xs,zs,rfl,rfl,hH,hB,hz,q):=h;ext rx ry;let(a6,r,pl,_):=I.list hH;let(iw,r2,pl2,_):=I.list hB;let hl:=r.n;let Rh:=r2.n;let((cls,dd,data,sl),ho,hc,n,hd):=id pl.x;let((abi,ρ1,data2,Yw),Jz,zK,n2,hd2):=id pl2.x;simp only at hc hd zK hd2;subst hc hd zK hd2;let ea:a6.q++iw.q=(a6++iw).toArray:=by simp
 show B53 ⟨_,ho,rfl⟩ ⟨_,Jz,rfl⟩ noFill_list_add seq_list_add PySem.F.slot_list_add PySem.F.entry_list_add (PySem.F.args_list_add_2 _ _) (list_addW l b _ _ n n2 dd ρ1 sl Yw (by erw[A12];lia)) ⟨ho,Jz,?_⟩;rw[ea];show(.ref _,_,I._S (r.append r2) (by rw[A23];lia),rfl,q _ I.fresh,)
def ZQ.EE(ha:ZQ.QW X a fa)(hb:ZQ.QW X b fb):ZQ.QL X (.BinOp a .Add b pos) (Z.Ig fa fb):=⟨PE.imp (FH PK ha.p hb.p) <|by
 rintro O H Q ⟨Y,d,r,e,k⟩;let(x,ea,e):=ce e;let(y,eb,e):=ce e;show(Y,x,r,ea,λ v H1 s1 d1=>(Y,y,r.up s1,eb,λ u H2 s2 d2=>?_,),);let Tj:=s1.trans s2;split at e
 .unfold Z.guard at e;split at e
  .rename_i xs ys hl;ext e;obtain⟨q,vs,rfl,hq,t⟩:=(d1.up s2).lst;let(q',Ao,rfl,eJ,t'):=d2.lst;show⟨q,q',vs,Ao,rfl,rfl,hq,eJ,by rw[t.n,t'.n,A26];show hl,λ z hz=>?_⟩;let s3:av H2 (upd H2 z<|.lst<|vs++Ao):=bE hz;show k z _ _ (Tj.trans s3) (Tj.free hz) aA<|(t.append t').up s3
  .ext e
 .ext e⟩
def yU(K:Db)(m:U Z.D->Z.Res Z.D):Sp:=λ vs H Q _=>∃ds d,au K H ds vs/\m ds=.ok d/\∀v H',av H H'->Den K H' d v->Q v H'
theorem Sa(F:fi X.prog X.w X.K X.mg X.base iC k g fd ps (yU X.K m))(hr:bf k X.A)(hg:Gl X x)(hm:X.mg x=AC (.ref g))(hk:Fa X.K (.ref g)=Da)(hb:Binds X.K fd ps [])
 (ha:DA X (e::es) ar) (fG:Nd x:=by kernel_rfl) (he:Se e es X.J:=by rfl) (dX:Pn pos es X.J:=by rfl) :
 DE X (.Call (.Name x p1) (e::es) [] pos) (Z.ai m ar):=
 PE.imp (pK F hr hg hm hk hb .nil nJ ha fG he dX) <|by rintro O H Q ⟨Y,d,r,e,k⟩;let(ds,ea,e):=ce e;show(Y,ds,r,ea,λ vs H1 s1 d1=>?_,);change yU X.K m _ H1 Q E0;rw[A51];show(ds,d,d1,e,λ v H' s2 dv=>k v H' (s1.trans s2) dv,)
structure E4(K:Db)(J:It)(S:Hp->Prop)(ds:List Z.D):Prop where
 go:∀(i:Nat)(d:Z.D)(H1:Hp),S H1->ds[i]?=AC d->J.go i H1
 CH:∀(i:Nat)(d:Z.D)(H1 H2:Hp)(x:V),S H1->ds[i]?=AC d->J.CH i H1 x H2->av H1 H2/\Den K H2 d x
 stop:∀(H1:Hp),S H1->J.stop ds.length H1
def tZi(K:Db)(f:Z.LF):TI:=λ O H R=>∃Y ds,RE K H O Y/\f Y=.ok ds/\∀J H',av H H'->E4 K J (av H') ds->R J H'
def tZj(K:Db)(f:Z.LF):TI:=λ O H R=>∃Y ds,RE K H O Y/\f Y=.ok ds/\∀J H',av H H'->E4 K J (gV H') ds->R J H'
abbrev DI(X:Cx)(tg e:η)(f:Z.LF):Prop:=PI X tg e<|tZi X.K f
structure ZQ.QI(X:Cx)(tg e:Expr)(f:Z.LF):Prop where p:DI X tg e f
abbrev DJ(X:Cx)(tg e:η)(f:Z.LF):Prop:=PI X tg e<|tZj X.K f
structure ZQ.QJ(X:Cx)(tg e:Expr)(f:Z.LF):Prop where p:DJ X tg e f
section
variable{X:Cx}{tg e a b:η}{es:U η}{pos p:Pos}{f fa fb:Z.EF}
def PI.imp(h:PI X tg e t)(k:∀O H R,t' O H R->t O H R):PI X tg e t':=λ B s O H R I w=>h B s O H R I<|k O H R w
def E4.imp{K:Db}(h:E4 K J S ds)(k:∀H,S' H->S H):E4 K J S' ds:=
 ⟨λ i d H1 s=>h.go i d H1<|k _ s,λ i d H1 H2 x s=>h.CH i d H1 H2 x<|k _ s,λ H1 s=>h.stop H1<|k _ s⟩
def ZQ.abd(h:ZQ.QJ X tg e g):ZQ.QI X tg e g:=⟨PI.imp h.p <|by rintro O H R ⟨Y,ds,r,e,k⟩;show(Y,ds,r,e,λ J H' s z=>k J H' s<|z.imp λ _ q=>jR q,)⟩
def Q0{K:Db}(h:nj K H q vs)(t:au K H ds vs):E4 K (Itt K q) (gV H) ds where
 go:=λ i d H1 s hi=>by let(v,h1,_):=t.get hi;show(vs,v,fS s h,h1,)
 CH:=λ i d H1 H2 x s hi y=>by let(e,y):=y;let(v,h1,h2):=t.get hi;let:=y vs<|fS s h;rw[h1]at this;ext this;subst e;show(av.refl _,h2.ups s,)
 stop:=λ H1 s=>⟨vs,fS s h,by rw[t.n];show P3 _⟩
def Q2{K:Db}(h:∀H1,S H1->jO K H1 q vs)(t:∀H1,S H1->au K H1 ds vs)(t0:au K H ds vs):E4 K (Itl K q) S ds where
 go:=λ i d H1 s hi=>by let(v,h1,_):=t0.get hi;show(vs,v,h H1 s,h1,)
 CH:=λ i d H1 H2 x s hi y=>by let(e,y):=y;obtain⟨v,h1,h2⟩:=(t H1 s).get hi;let:=y vs<|h H1 s;rw[h1]at this;ext this;subst e;show(av.refl _,h2,)
 stop:=λ H1 s=>⟨vs,h H1 s,by rw[t0.n];show P3 _⟩
def ints_get(lo:Int)(n i:Nat)(d:Z.D)(h:(Z.zints lo n)[i]?=AC d):i<n/\d=.int (lo+i):=by
 unfold Z.zints at h;rw[A07]at h;cases q:(FB n)[i]? with
 |none=>rw[q]at h;ext h
 |some j=>rw[q]at h;ext h;let(h1,h2):=A09.mp q;rw[B16]at h1;rw[B57]at h2;subst h2;show(h1,rfl,)
def F!{K:Db}(lo:Int)(n:Nat):E4 K (Uu lo n) S (Z.zints lo n) where
 go:=λ i d H1 s hi=>(ints_get lo n i d hi).1
 CH:=λ i d H1 H2 x s hi y=>by let(e,y):=y;let(_,rfl):=ints_get lo n i d hi;subst e;rw[y];show(av.refl _,b8,)
 stop:=λ H1 s=>by unfold Z.zints;rw[A04,B16];show P3 _
def He{K:Db}(it:δ)(lo:Int)(n:Nat):Turn P w K tg (Uu lo n) [it] it (λ i h=>IsLongIter h it (lo+(i)*1) ((n)-(i)) 1) where
 mem:=by simp
 obj:=λ i h st b hb=>by
  let e:b=it:=by simpa using hb
  subst e;show⟨_,st,λ v z=>by let z':=z;ext z'⟩
 keep:=λ i h h' st k=>k it ∅ _ st
 item:=by intro X hP hw hK hc i B s O H E I hf st hg;subst hP hw hK;let(f0,f1,f2,f3,f4,f5):=hf it ∅;let W:=Walks.longrange (prog:=X.prog) (w:=X.w) (I.ok.hd hc) it lo 1 n;show W.item i s _ _ hg st λ v h' tk hv xB kk=>?_;let(t,rfl):=hv;let I1:Inv X B O H {s with heap:=h',toks:=tk}:=I.turned (λ b o hb e=>kk b o (by calc hb) e) f0 f1 f3 f4 f5;show(_,rfl,ya xB rfl rfl ∅ ⟨.int _,H,I1,⟨t,?_⟩,⟨rfl,rfl⟩,xB,λ b hb=>(hf b hb).1⟩,);rw[B52]
 done:=by intro X hP hw hK hc i B s O H E I hf st hg;subst hP hw hK;let(f0,f1,f2,f3,f4,f5):=hf it ∅;show wpAny_pyNext_long_end (I.ok.hd hc) st (by let:n<=i:=hg;lia) λ h' eb=>(rfl,I.turned (λ b o hb e=>eb b o hb e) f0 f1 f3 f4 f5,)
 self:=λ _ _ _ _ _ st h=>wpAny_pyIter_longiter st h
def range_any{lo hi:Int}{t u v:Tok}{tk:Nat}(I:Inv X B O H s)
 (q:R (Uu lo (hi-lo).toNat) H):Ev (model X.prog X.w) X.A (pyIter<|.ref s.t) (PIE X B O tg R) E {s with heap:=s.heap.push {cls:=.type "range",data:=.fields #[.int lo t,.int hi u,.int 1 v]},toks:=tk}:=by
 let I1:Inv X B O H {s with heap:=s.heap.push {cls:=.type "range",data:=.fields #[.int lo t,.int hi u,.int 1 v]},toks:=tk}:=I.kept λ b o e=>A00 _ e;let e1:lo+((0:Nat):Int)*1=lo:=by simp
 let e2:(((hi-lo).toNat:Nat):Int)-((0:Nat):Int)=PP lo hi 1:=by rw[rangeSize_one];split<;>lia
 cases hs:XV lo hi 1 with
 |true=>
  show wpAny_pyIter_range (IsRange.new ..) hs ?_;show((s.heap.push {cls:=.type "range",data:=.fields #[.int lo t,.int hi u,.int 1 v]}).objs.size,[(s.heap.push {cls:=.type "range",data:=.fields #[.int lo t,.int hi u,.int 1 v]}).objs.size],_,_,H,rfl,
   I1.kept (t':=tk) λ b o e=>A00 _ e,C! _ lo (hi-lo).toNat,?_,λ b hb=>?_,q,)
  .show IsRangeIter _ _ (lo+((0:Nat):Int)*1) ((((hi-lo).toNat:Nat):Int)-((0:Nat):Int)) 1;rw[e1,e2];show A18 _ rfl
  .let e:b=(s.heap.push {cls:=.type "range",data:=.fields #[.int lo t,.int hi u,.int 1 v]}).objs.size:=by simpa using hb
   subst e;show I1.va (P3 _)<|I1.bN.fresh<|P3 _
 |false=>
  show wpAny_pyIter_longrange (IsRange.new ..) hs ?_;show((s.heap.push {cls:=.type "range",data:=.fields #[.int lo t,.int hi u,.int 1 v]}).objs.size,[(s.heap.push {cls:=.type "range",data:=.fields #[.int lo t,.int hi u,.int 1 v]}).objs.size],_,_,H,rfl,
   I1.kept (t':=tk) λ b o e=>A00 _ e,He _ lo (hi-lo).toNat,?_,λ b hb=>?_,q,)
  .show IsLongIter _ _ (lo+((0:Nat):Int)*1) ((((hi-lo).toNat:Nat):Int)-((0:Nat):Int)) 1;rw[e1,e2];show A18 _ rfl
  .let e:b=(s.heap.push {cls:=.type "range",data:=.fields #[.int lo t,.int hi u,.int 1 v]}).objs.size:=by simpa using hb
   subst e;show I1.va (P3 _)<|I1.bN.fresh<|P3 _
def abA(ta:TA):TI:=λ O H R=>ta O H λ vs H1=>∃j:Int,vs=[.int j]/\R (Uu 0 j.v) H1
def abz(ta:TA):TI:=λ O H R=>ta O H λ vs H1=>∃i j:Int,vs=[.int i,.int j]/\R (Uu i (j-i).toNat) H1
def Pr(hg:Gl X "range")(hm:X.mg "range"=Ch)(ha:PA X [a] ta)(hs:starEach [a] X.J=[(AT,eval a X.J)]:=by rfl):PI X tg (.Call (.Name "range" p) [a] [] pos) (abA ta):=by
 intro B s O H R I h;show Call_<|jS I hg hm boot_range<|B10 (cj (ha pos B s O H _ I h) ?_) hs rfl;rintro us s1 ⟨vs,H1,I1,r1,q1⟩;let(j,e,q):=q1;subst e;cases r1 with
 |cons r rr=>ext rr;let(t,rfl):=r;show call_range_1<|range_any I1 (by calc q)
theorem Pq(hg:Gl X "range")(hm:X.mg "range"=Ch)(ha:PA X [a,b] ta)(hs:starEach [a,b] X.J=[(AT,eval a X.J),(AT,eval b X.J)]:=by rfl)(v7:starEach [b] X.J=[(AT,eval b X.J)]:=by rfl):
 PI X tg (.Call (.Name "range" p) [a,b] [] pos) (abz ta):=by
 intro B s O H R I h;show Call_<|jS I hg hm boot_range<|B10 (cj (ha pos B s O H _ I h) ?_) (by rw[hs,v7]) (by rw[v7];rfl);rintro us s1 ⟨vs,H1,I1,r1,q1⟩;let(i,j,e,q):=q1;subst e;cases r1 with
 |cons r rr=>
  cases rr with
  |cons r' rr=>ext rr;let(t,rfl):=r;let(t',rfl):=r';show call_range_2<|range_any I1 q
def ZQ.Cg(hm:X.mg "range"=Ch)(ha:ZQ.QE X a fa)(hs:starEach [a] X.J=[(AT,eval a X.J)]:=by rfl)(nS:Se a [] X.J:=by rfl)(hg:Gl X "range":=by rfl):ZQ.QJ X tg (.Call (.Name "range" p) [a] [] pos) (Z.fT fa):=
 ⟨PI.imp (Pr hg hm (aM ha.p bH nS) hs) <|by
  rintro O H R ⟨Y,ds,r,e,k⟩;let(x,ea,e):=ce e;show(Y,x,r,ea,λ v H1 s1 d1=>?_,);split at e
  .rename_i j;ext e;erw[Den]at d1;show⟨j,by rw[d1],k _ H1 s1<|F! 0 _⟩
  .ext e⟩
def ZQ.MX(hm:X.mg "range"=Ch)(ha:ZQ.QE X a fa)(hb:ZQ.QE X b fb)(hs:starEach [a,b] X.J=[(AT,eval a X.J),(AT,eval b X.J)]:=by rfl)(v7:starEach [b] X.J=[(AT,eval b X.J)]:=by rfl)(h1:Se a [b] X.J:=by rfl)(h2:Se b [] X.J:=by rfl)(hg:Gl X "range":=by rfl):ZQ.QJ X tg (.Call (.Name "range" p) [a,b] [] pos) (Z.BN fa fb):=
 ⟨PI.imp (Pq hg hm (aM ha.p (aM hb.p bH h2) h1) hs v7) <|by
  rintro O H R ⟨Y,ds,r,e,k⟩;let(x,ea,e):=ce e;let(y,eb,e):=ce e;obtain⟨i,j,rfl,rfl,rfl⟩:∃i j,x=.int i/\y=.int j/\ds=Z.zints i (j-i).toNat:=by
   split at e
   .ext e;show(_,_,rfl,rfl,rfl,)
   .ext e
  show(Y,_,r,ea,λ v H1 s1 d1=>(Y,_,r.up s1,eb,λ u H2 s2 d2=>?_,),);erw[Den]at d1 d2;show⟨i,j,by rw[d1,d2],k _ H2 (s1.trans s2)<|F! i (j-i).toNat⟩⟩
def Its(z:Str):It:=(λ i _=>i<z.cps.u,λ i H x H'=>H'=H/\∃c,z.cps[i]?=AC c/\x=.str ⟨#[c]⟩,λ i _=>i=z.cps.u,)
def JV{K:Db}(z:Str)(it:δ)(n:String)(hn:["enumerate","zip","dict_itemiterator","dict_reverseitemiterator","odict_iterator","itertools.zip_longest","itertools.pairwise"].contains n=AT)(t:Tok)
 (W:∀A,A.handled=Ch->Walks P w A it [it] [it] z.cps.size (SignAt z) (λ i h=>h.IsStrIter it n z t i)) (self:∀A i s Q E,s.heap.IsStrIter it n z t i->Q (.ref it) s->Ev (model P w) A (pyIter<|.ref it) Q E s) :
 Turn P w K tg (Its z) [it] it (λ i h=>h.IsStrIter it n z t i) where
 mem:=by simp
 obj:=λ i h st b hb=>by
  let e:b=it:=by simpa using hb
  subst e;let(o,e,c,d):=st;show⟨o,e,λ v z=>by rw[d]at z;ext z⟩
 keep:=λ i h h' st k=>by let(o,e,c,d):=st;show(o,k it ∅ o e,c,d,)
 item:=by intro X hP hw hK hc i B s O H E I hf st hg;subst hP hw hK;let(f0,f1,f2,f3,f4,f5):=hf it ∅;show(W X.A<|I.ok.hd hc).item i s _ _ hg st λ v h' tk hv xB kk=>?_;let(c,u,hcc,rfl):=hv;let I1:Inv X B O H {s with heap:=h',toks:=tk}:=I.turned (λ b o hb e=>kk b o (by calc hb) e) f0 f1 f3 f4 f5;let(o,e,c',d):=id xB;show(_,rfl,ya e c' d hn ⟨.str ⟨#[c]⟩,H,I1,⟨u,rfl⟩,⟨rfl,c,hcc,rfl⟩,xB,λ b hb=>(hf b hb).1⟩,)
 done:=by intro X hP hw hK hc i B s O H E I hf st hg;subst hP hw hK;let(f0,f1,f2,f3,f4,f5):=hf it ∅;let hg':=hg;subst hg';show(W X.A<|I.ok.hd hc).done s _ _ st λ h' tk kk=>(rfl,I.turned (λ b o hb e=>kk b o (by calc hb) e) f0 f1 f3 f4 f5,)
 self:=self
def Q1{K:Db}(cs:U Nat):E4 K (Its ⟨cs.q⟩) S (cs.map λ c=>.str [c]) where
 go:=λ i d H1 s hi=>by change i<cs.q.u;let(h1,_):=A09.mp hi;simpa using h1
 CH:=λ i d H1 H2 x s hi y=>by
  let(e,c,hc,rfl):=y;let Ar:cs[i]?=AC c:=by simpa using hc
  rw[A07,Ar]at hi;ext hi;subst e;show(av.refl _,ee ,)
 stop:=λ H1 s=>by change(cs.map λ c=>Z.D.str [c]).length=cs.q.u;simp
def Kf(I:Inv X B O H s)(rv:RelV v u)(hd:bz X.K H d v)(hi:Z.mi d=.ok ds)
 (hS:∀H1,S H1->gV H H1) (hL:∀es q vs,d=.lst es->v=.ref q->jO X.K H q vs->∀H1,S H1->jO X.K H1 q vs)
 (k:∀J,E4 X.K J S ds->R J H):Ev (model X.prog X.w) X.A (pyIter u) (PIE X B O tg R) E s:=by
 unfold Z.mi at hi;split at hi
 .ext hi;let(q,vs,rfl,hq,t):=hd.tup;ext rv;let(a6,r',pl,hz):=I.tuple hq;show B18 (pl) ?_;show(s.t,[s.t],_,_,H,rfl,I.kept λ b o e=>A00 _ e,C9 q _,(_,A18 _ rfl,rfl,rfl,),λ b hb=>?_,k _<|(Q0 hq t).imp hS,);let e:b=s.t:=by simpa using hb
  subst e;show I.va (P3 _)<|I.bN.fresh<|P3 _
 .ext hi;let(q,vs,rfl,hq,t):=hd.lst;ext rv;let(a6,r',pl,hz):=I.list hq;show B19 pl.isList ?_;show(s.t,[s.t],_,_,H,rfl,I.kept λ b o e=>A00 _ e,Hf q _,(_,A18 _ rfl,rfl,rfl,),λ b hb=>?_,
   k _<|Q2 (λ H1 s1=>hL _ q vs rfl rfl hq H1 s1) (λ H1 s1=>t.ups<|hS H1 s1) t,)
  let e:b=s.t:=by simpa using hb
  subst e;show I.va (P3 _)<|I.bN.fresh<|P3 _
 .ext hi;rename_i cs;rw[hd.str]at rv;let(t,rfl):=rv;let fin:∀n (hn:["enumerate","zip","dict_itemiterator","dict_reverseitemiterator","odict_iterator","itertools.zip_longest","itertools.pairwise"].contains n=AT)
   (W:∀A,A.handled=Ch->Walks X.prog X.w A s.heap.objs.size [s.t] [s.t] (⟨cs.q⟩:Str).cps.size (SignAt ⟨cs.q⟩) (λ i h=>h.IsStrIter s.heap.objs.size n ⟨cs.q⟩ t i))
   (self:∀A i s' Q E,s'.heap.IsStrIter s.heap.objs.size n ⟨cs.q⟩ t i->Q (.ref s.t) s'->Ev (model X.prog X.w) A (pyIter<|.ref s.t) Q E s'),
   PIE X B O tg R (.ref s.t) {s with heap:=s.heap.push {cls:=.type n,data:=.fields #[.str ⟨cs.q⟩ t,.int 0 0]}}:=by
   intro n hn W self;show(s.t,[s.t],_,_,H,rfl,I.kept λ b o e=>A00 _ e,JV ⟨cs.q⟩ _ n hn t W self,(_,A18 _ rfl,rfl,rfl,),λ b hb=>?_,k _<|Q1 cs,);let e:b=s.t:=by simpa using hb
   subst e;show I.va (P3 _)<|I.bN.fresh<|P3 _
  cases ha:(⟨cs.q⟩:Str).cps.all (· < 128)
  .exact wpAny_pyIter_wide ha<|fin "str_iterator" ∅ (λ A' hA=>Walks.strWide hA _ _ t) λ _ _ _ _ _ st hQ=>wpAny_pyIter_striter_wide st hQ
  .exact wpAny_pyIter_ascii ha<|fin "str_ascii_iterator" ∅ (λ A' hA=>Walks.strAscii hA _ _ t) λ _ _ _ _ _ st hQ=>wpAny_pyIter_striter_ascii st hQ
 .ext hi
def ZQ.MZ(ha:ZQ.QW X a fa):ZQ.QI X tg a (Z.cY fa):=⟨by intro B s O H R I w;let(Y,ds,r,e,k):=w;let(d,ea,e):=ce e;show cj (ha.p B s O H (λ v H1=>av H H1/\bz X.K H1 d v) I ⟨Y,d,r,ea,λ v H1 s1 d1=>(s1,d1,)⟩) ?_;rintro u s1 ⟨v,H1,I1,rv,sm,hd⟩;show Kf I1 rv hd e (λ _ q=>jR q) (λ _ _ _ _ _ hq H2 s2=>s2.seq hq) λ J z=>k J H1 sm z⟩
def ZQ.MW(ha:ZQ.QE X a fa):ZQ.QJ X tg a (Z.cY fa):=⟨by intro B s O H R I w;let(Y,ds,r,e,k):=w;let(d,ea,e):=ce e;show cj (ha.p B s O H (λ v H1=>av H H1/\Den X.K H1 d v) I ⟨Y,d,r,ea,λ v H1 s1 d1=>(s1,d1,)⟩) ?_;rintro u s1 ⟨v,H1,I1,rv,sm,hd⟩;show Kf I1 rv (.inl hd) e (λ _ q=>q) (λ es q vs e1 e2 hq H2 s2=>?_) λ J z=>k J H1 sm z;subst e1;erw[Den]at hd;let(q',Ao,e3,hz,_):=hd;rw[e2]at e3;ext e3;rw[I1.pU hq hz.sq];show(hz.mono s2).sq⟩
def iM(H0:Hp)(O:St)(Y:Z.Env):Prop:=(∀(i j:Nat)(ks ls:Z.DK)(a:δ),Y[i]?=AC (AC<|.dc ks)->Y[j]?=AC (AC<|.dc ls)->O[i]?=AC (AC<|.ref a)->O[j]?=AC (AC<|.ref a)->i=j) /\
 ∀(i:Nat)(ks:Z.DK)(q:δ),Y[i]?=AC (AC<|.dc ks)->O[i]?=AC (AC<|.ref q)->H0 q=Ch
def iM.non(h:∀(i:Nat)(ks:Z.DK),Y[i]?≠AC (AC<|.dc ks)):iM H0 O Y:=(λ i _ ks _ _ e=>absurd e<|h i ks,λ i ks _ e=>absurd e<|h i ks,)
structure RS(K:Db)(H0 H:Hp)(O:St)(Y:Z.Env):Prop where
 same:av H0 H
 re:RE K H O Y
 fresh:∀(i:Nat)(xs:List Z.D)(q:Addr),Y[i]?=AC (AC<|.own xs)->O[i]?=AC (AC<|.ref q)->H0 q=Ch
 k?:∀(i:Nat)(d:Z.D),Y[i]?=AC (AC<|.bor d)->∃v,O[i]?=AC (AC v)/\GS K H0 d v
 r8:iM H0 O Y
def flZ(K:Db)(H0 H:Hp)(D:Ends):Z.Fl->Prop
|.nx Y'=>∀O' H',gV H H'->RS K H0 H' O' Y'->D.nx O' H'
|.rt d=>∀v H',av H0 H'->Den K H' d v->D.rt v H'
|.bk Y'=>∀O' H',gV H H'->RS K H0 H' O' Y'->D.bk O' H'
|.ct Y'=>∀O' H',gV H H'->RS K H0 H' O' Y'->D.ct O' H'
def tS(K:Db)(H0:Hp)(g:Z.SF):TS:=λ D O H=>∃Y fl,RS K H0 H O Y/\g Y=.ok fl/\flZ K H0 H D fl
abbrev DS(X:Cx)(H0:Hp)(st:θ)(g:Z.SF):Prop:=PS X st<|tS X.K H0 g
structure ZQ.QS(X:Cx)(H0:Hp)(st:Stmt)(g:Z.SF):Prop where p:DS X H0 st g
abbrev Om(X:Cx)(H0:Hp)(st:U θ)(g:Z.SF):Prop:=rq X st<|tS X.K H0 g
structure ZQ.yx(X:Cx)(H0:Hp)(st:List Stmt)(g:Z.SF):Prop where p:Om X H0 st g
def PS.imp{st:θ}(h:PS X st t)(k:∀D O H,t' D O H->t D O H):PS X st t':=λ B s O H D I w=>h B s O H D I<|k D O H w
def rq.imp{st:U θ}(h:rq X st t)(k:∀D O H,t' D O H->t D O H):rq X st t':=λ B s O H D I w=>h B s O H D I<|k D O H w
def RS.up{K:Db}(h:RS K H0 H O Y)(e:av H H'):RS K H0 H' O Y:=(h.same.trans e,h.re.up e,h.fresh,h.k?,h.r8,)
def flZ.up{K:Db}(h:flZ K H0 H D fl)(e:gV H H1):flZ K H0 H1 D fl:=by
 cases fl with
 |nx Y'=>show λ O' H' s r=>h O' H' (e.trans s) r
 |rt d=>show h
 |bk Y'=>show λ O' H' s r=>h O' H' (e.trans s) r
 |ct Y'=>show λ O' H' s r=>h O' H' (e.trans s) r
def aq{α:Type}{l:U _}{x:ε α}{y:α}(h:(l.set i x)[j]?=AC (AC y)):(i=j/\i<l.n/\x=AC y)\/(i≠j/\l[j]?=AC (AC y)):=by
 by_cases rQ:i=j
 .subst rQ;by_cases hl:i<l.n
  .rw[A31 hl]at h;show .inl ⟨rfl,hl,f8 h⟩
  .rw[B33 (by calc hl)]at h;ext h
 .rw[A24 rQ]at h;show .inr ⟨rQ,h⟩
def iM.set(h:iM H0 O Y)(n:∀ks,l≠.dc ks):iM H0 (O.set i<|some v) (Y.set i<|some l):=by
 let get:∀(j:Nat) ks,(Y.set i _)[j]?=AC _->Y[j]?=AC _/\(O.set i<|some v)[j]?=O[j]?:=λ j ks e=>by
  rcases aq e with⟨_,_,e⟩|⟨hj,e⟩
  .exact absurd (f8 e)<|n ks
  .exact⟨e,A24 hj⟩
 show(λ j k ks ls a e1 e2 e3 e4=>h.1 j k ks ls a (get j ks e1).1 (get k ls e2).1 (by rw[<-(get j ks e1).2];show e3) (by rw[<-(get k ls e2).2];show e4),λ j ks q e1 e2=>h.2 j ks q (get j ks e1).1 (by rw[<-(get j ks e1).2];show e2),)
def iM.ZK(h:iM H0 O Y)(n:∀ks,l≠.dc ks):iM H0 O (Y.set i<|some l):=by
 let get:∀(j:Nat) ks,(Y.set i _)[j]?=AC _->Y[j]?=AC _:=λ j ks e=>by
  rcases aq e with⟨_,_,e⟩|⟨hj,e⟩
  .exact absurd (f8 e)<|n ks
  .exact e
 show(λ j k ks ls a e1 e2 e3 e4=>h.1 j k ks ls a (get j ks e1) (get k ls e2) e3 e4,λ j ks q e1 e2=>h.2 j ks q (get j ks e1) e2,)
def RS.Dp{K:FS}(h:RS K H0 H O Y)(hd:Den K H d v):RS K H0 H (O.set i<|some v) (Y.set i<|some<|.val d):=by
 let getσ:∀j,i≠j->(O.set i<|some v)[j]?=O[j]?:=λ j hj=>A24 hj;show⟨h.same,⟨by simp[h.re.len],λ j l e=>?_,λ j k xs ys q e1 e2 e3 e4=>?_⟩,λ j xs q e1 e2=>?_,λ j xs e1=>?_,h.r8.set λ _ z=>nomatch z⟩
 .rcases aq e with⟨rfl,hl,e⟩|⟨hj,e⟩
  .ext e;show(v,A31 (by rw[<-h.re.len];show hl),hd,)
  .rw[getσ j hj];show h.re.get j l e
 .rcases aq e1 with⟨_,_,e⟩|⟨hj,e1⟩
  .ext e
  .rcases aq e2 with⟨_,_,e⟩|⟨hk,e2⟩
   .ext e
   .rw[getσ j hj]at e3;rw[getσ k hk]at e4;show h.re.sep j k xs ys q e1 e2 e3 e4
 .rcases aq e1 with⟨_,_,e⟩|⟨hj,e1⟩
  .ext e
  .rw[getσ j hj]at e2;show h.fresh j xs q e1 e2
 .rcases aq e1 with⟨_,_,e⟩|⟨hj,e1⟩
  .ext e
  .rw[getσ j hj];show h.k? j xs e1
def RS.Ke{K:FS}(h:RS K H0 H O Y)(hq:H q=AC (.lst vs))(t:au K H ds vs)(h0:H0 q=Ch)
 (nq:∀j xs,j≠i->Y[j]?=AC (AC<|.own xs)->O[j]?≠AC (AC<|.ref q)):RS K H0 H (O.set i<|some<|.ref q) (Y.set i<|some<|.own ds):=by
 let getσ:∀j,i≠j->(O.set i<|some<|V.ref q)[j]?=O[j]?:=λ j hj=>A24 hj;show⟨h.same,⟨by simp[h.re.len],λ j l e=>?_,λ j k xs ys p e1 e2 e3 e4=>?_⟩,λ j xs p e1 e2=>?_,λ j xs e1=>?_,h.r8.set λ _ z=>nomatch z⟩
 .rcases aq e with⟨rfl,hl,e⟩|⟨hj,e⟩
  .ext e;show(_,A31 (by rw[<-h.re.len];show hl),q,vs,rfl,hq,t,)
  .rw[getσ j hj];show h.re.get j l e
 .rcases aq e1 with⟨rfl,hl,_⟩|⟨hj,e1⟩
  .rcases aq e2 with⟨rfl,_,_⟩|⟨hk,e2⟩
   .rfl
   .rw[A31 (by rw[<-h.re.len];show hl)]at e3;ext e3;rw[getσ k hk]at e4;show absurd e4<|nq k ys (A15 hk) e2
  .rcases aq e2 with⟨rfl,hl,_⟩|⟨hk,e2⟩
   .rw[A31 (by rw[<-h.re.len];show hl)]at e4;ext e4;rw[getσ j hj]at e3;show absurd e3<|nq j xs (A15 hj) e1
   .rw[getσ j hj]at e3;rw[getσ k hk]at e4;show h.re.sep j k xs ys p e1 e2 e3 e4
 .rcases aq e1 with⟨rfl,hl,_⟩|⟨hj,e1⟩
  .rw[A31 (by rw[<-h.re.len];show hl)]at e2;ext e2;show h0
  .rw[getσ j hj]at e2;show h.fresh j xs p e1 e2
 .rcases aq e1 with⟨_,_,e⟩|⟨hj,e1⟩
  .ext e
  .rw[getσ j hj];show h.k? j xs e1
def RS.chg{K:FS}(h:RS K H0 H O Y)(ei:Y[i]?=AC (AC<|.own xs))(si:O[i]?=AC (AC<|.ref q))(hq:H q=AC (.lst us))(t:au K H ds vs):
 RS K H0 (upd H q<|.lst vs) O (Y.set i<|some<|.own ds):=by
 let st:gV H (upd H q<|.lst vs):=jE hq;let h0:=h.fresh i xs q ei si;let hs:av H0 (upd H q<|.lst vs):=λ b u e=>by rw[ak<|aR e h0];show h.same b u e
 show⟨hs,⟨by simp[h.re.len],λ j l e=>?_,λ j k jD ys p e1 e2 e3 e4=>?_⟩,λ j jD p e1 e2=>?_,λ j jD e1=>?_,h.r8.ZK λ _ z=>nomatch z⟩
 .rcases aq e with⟨rfl,hl,e⟩|⟨hj,e⟩
  .ext e;show(.ref q,si,q,vs,rfl,aA,t.ups st,)
  .let(v,e1,r):=h.re.get j l e;show(v,e1,?_,);cases l with
   |val d=>show Den.ups (r) st
   |own zs=>
    let(q',ws,rfl,eJ,t'):=r;let:q'≠q:=by rintro rfl;show hj<|h.re.sep i j xs zs q' ei e si e1
    show⟨q',ws,rfl,by rw[ak this];show eJ,t'.ups st⟩
   |bor zs=>let(v',e2,r2):=h.k? j zs e;rw[e1]at e2;ext e2;show r2.re r h.same hs st
   |dc ks=>
    let(q',as,rfl,eJ,t'):=r;let:q'≠q:=by rintro rfl;rw[hq]at eJ;show z? (f8 eJ).symm
    show⟨q',as,rfl,by rw[ak this];show eJ,t'.ups st⟩
   |JD ks=>let(q',o',as,rfl,eJ,t'):=r;show(q',o',as,rfl,st.eu _ _ _ eJ,t'.ups st,)
   |T3 ps=>let(q',o',rfl,eJ):=r;show(q',o',rfl,st.eu _ _ _ eJ,)
   |exc c=>let(q',o',u',C',rfl,eJ,r1,r2,r3):=r;show(q',o',u',C',rfl,st.eu _ _ _ eJ,r1,r2,r3.ups st,)
 .let old:∀{j:Nat}{zs},(Y.set i<|some<|Z.L.own ds)[j]?=AC (AC<|.own zs)->∃zs',Y[j]?=AC (AC<|.own zs'):=λ {j zs} e=>by
   rcases aq e with⟨rfl,_,_⟩|⟨_,e⟩
   .exact⟨xs,ei⟩
   .exact⟨zs,e⟩
  let(_,o1):=old e1;let(_,o2):=old e2;show h.re.sep j k _ _ p o1 o2 e3 e4
 .rcases aq e1 with⟨rfl,_,_⟩|⟨_,e1⟩
  .exact h.fresh i xs p ei e2
  .exact h.fresh j jD p e1 e2
 .rcases aq e1 with⟨_,_,e⟩|⟨_,e1⟩
  .ext e
  .exact h.k? j jD e1
def RS.eu{K:FS}{H0 H:Hp}{O:St}{Y:Z.Env}{i:Nat}{xs:U Z.D}{q:δ}{us:U V}{o:μ}(h:RS K H0 H O Y)(ei:Y[i]?=AC (AC<|.own xs))(si:O[i]?=AC (AC<|.ref q))(hq:H q=AC (.lst us))(t:au K H xs us):
 RS K H0 (upd H q<|.eu o<|.lst us) O (Y.set i<|some<|.val<|.lst xs):=by
 let st:gV H (upd H q<|.eu o<|.lst us):=jE hq;let h0:=h.fresh i xs q ei si;let hs:av H0 (upd H q<|.eu o<|.lst us):=λ b u e=>by rw[ak<|aR e h0];show h.same b u e
 show⟨hs,⟨by simp[h.re.len],λ j l e=>?_,λ j k jD ys p e1 e2 e3 e4=>?_⟩,λ j jD p e1 e2=>?_,λ j jD e1=>?_,h.r8.ZK λ _ z=>nomatch z⟩
 .rcases aq e with⟨rfl,hl,e⟩|⟨hj,e⟩
  .ext e;show(_,si,z7 (.inl ⟨o,aA⟩)<|t.ups st,)
  .let(v,e1,r):=h.re.get j l e;show(v,e1,?_,);cases l with
   |val d=>show Den.ups (r) st
   |own zs=>
    let(q',ws,rfl,eJ,t'):=r;let:q'≠q:=by rintro rfl;show hj<|h.re.sep i j xs zs q' ei e si e1
    show⟨q',ws,rfl,by rw[ak this];show eJ,t'.ups st⟩
   |bor zs=>let(v',e2,r2):=h.k? j zs e;rw[e1]at e2;ext e2;show r2.re r h.same hs st
   |dc ks=>
    let(q',as,rfl,eJ,t'):=r;let:q'≠q:=by rintro rfl;rw[hq]at eJ;show z? (f8 eJ).symm
    show⟨q',as,rfl,by rw[ak this];show eJ,t'.ups st⟩
   |JD ks=>let(q',o',as,rfl,eJ,t'):=r;show(q',o',as,rfl,st.eu _ _ _ eJ,t'.ups st,)
   |T3 ps=>let(q',o',rfl,eJ):=r;show(q',o',rfl,st.eu _ _ _ eJ,)
   |exc c=>let(q',o',u',C',rfl,eJ,r1,r2,r3):=r;show(q',o',u',C',rfl,st.eu _ _ _ eJ,r1,r2,r3.ups st,)
 .rcases aq e1 with⟨_,_,e⟩|⟨_,e1⟩
  .ext e
  .rcases aq e2 with⟨_,_,e⟩|⟨_,e2⟩
   .ext e
   .exact h.re.sep j k _ _ p e1 e2 e3 e4
 .rcases aq e1 with⟨_,_,e⟩|⟨_,e1⟩
  .ext e
  .exact h.fresh j jD p e1 e2
 .rcases aq e1 with⟨_,_,e⟩|⟨_,e1⟩
  .ext e
  .exact h.k? j jD e1
variable{H0:Hp}{st:θ}{wx:U θ}{g u:Z.SF}
def ZQ.zW:ZQ.yx X H0 [] Z.aE:=⟨rq.imp FD <|by rintro D O H ⟨Y,fl,rs,e,k⟩;ext e;show k O H (gV.refl H) rs⟩
def ZQ.qi(h:ZQ.QS X H0 st g):ZQ.yx X H0 [st] g:=⟨pF h.p⟩
def ZQ.gM(h1:ZQ.QS X H0 st g)(h2:ZQ.yx X H0 wx u):ZQ.yx X H0 (st::wx) (Z.aB g u):=⟨rq.imp (j7 h1.p h2.p) <|by
 rintro D O H ⟨Y,fl,rs,e,k⟩;let(f1,e1,e):=ce e;show(Y,f1,rs,e1,?_,);cases f1 with
 |nx Y'=>show λ O' H' s r=>(Y',fl,r,e,k.up s,)
 |rt d=>ext e;show k
 |bk Y'=>ext e;show k
 |ct Y'=>ext e;show k⟩
def ZQ.rh(h:ZQ.QE X a fa):ZQ.QS X H0 (.Return (AC a) pos) (Z.aH fa):=⟨PS.imp (Dx h.p) <|by rintro D O H ⟨Y,fl,rs,e,k⟩;let(d,ea,e):=ce e;ext e;show(Y,d,rs.re,ea,λ v H' s dv=>k v H' (rs.same.trans s) dv,)⟩
def ZQ.MK(hc:ZQ.QT X c t)(h1:ZQ.yx X H0 b1 g)(h2:ZQ.yx X H0 b2 u):ZQ.QS X H0 (.If c b1 b2 pos) (Z.dB t g u):=⟨PS.imp (FE hc.p h1.p h2.p) <|by
 rintro D O H ⟨Y,fl,rs,e,k⟩;let(x,ea,e):=ce e;show(Y,x,rs.re,ea,λ H1 s1=>?_,);cases x with
 |true=>erw[A28]at e ⊢;show(Y,fl,rs.up s1,e,k.up<|jR s1,)
 |false=>erw[A46]at e ⊢;show(Y,fl,rs.up s1,e,k.up<|jR s1,)⟩
def ZQ.jL(he:ZQ.QE X a fa)(hs:Sn a x pos' pos X.J:=by rfl)(hf:Fl X x:=by trivial)(hN:X.N.Nodup:=by first|assumption|show A98 (by kernel_rfl))(hi:X.N[i]?=AC x:=by rfl)(hx:Loc X.env.scope x:=by show lo rfl):ZQ.QS X H0 (.Assign [.Name x pos'] a pos) (Z.aO i fa):=⟨PS.imp (ma hN hi hx he.p hs hf) <|by rintro D O H ⟨Y,fl,rs,e,k⟩;let(d,ea,e):=ce e;ext e;show(Y,d,rs.re,ea,λ v H' s dv=>k _ H' (jR s)<|(rs.up s).Dp dv,)⟩
def RS.noq{K:Db}(h:RS K H1 H O Y)(hq:H q=Ch)(j:Nat)(xs:U Z.D)(e:Y[j]?=AC (AC<|.own xs)):O[j]?≠AC (AC<|.ref q):=λ z=>by let(v,e1,q',vs,rfl,h2,_):=h.re.get j _ e;rw[z]at e1;ext e1;rw[hq]at h2;ext h2
def ZQ.RK(he:ZQ.QL X a l)(hs:Sn a x pos' pos X.J:=by rfl)(hf:Fl X x:=by trivial)(hN:X.N.Nodup:=by first|assumption|show A98 (by kernel_rfl))(hi:X.N[i]?=AC x:=by rfl)(hx:Loc X.env.scope x:=by show lo rfl):ZQ.QS X H0 (.Assign [.Name x pos'] a pos) (Z.l_ i l):=⟨PS.imp (ma hN hi hx he.p hs hf) <|by rintro D O H ⟨Y,fl,rs,e,k⟩;let(d,ea,e):=ce e;ext e;show(Y,d,rs.re,ea,λ q vs H' s hn h1 t=>k _ H' (jR s)<|(rs.up s).Ke h1 t (rs.same.free hn) λ j xs _ e=>?_,);show rs.noq hn j xs e⟩
def tG(K:Db)(H0:Hp)(g:Z.GF):TG:=λ v O H Q=>∃Y d Y',RS K H0 H O Y/\Den K H d v/\g d Y=.ok Y'/\∀O' H',av H H'->RS K H0 H' O' Y'->Q O' H'
def tGs(K:Db)(H0:Hp)(is:U Nat):Yh:=λ vs O H Q=>∃Y ds Y',RS K H0 H O Y/\au K H ds vs/\Z.iG is ds Y=.ok Y'/\∀O' H',av H H'->RS K H0 H' O' Y'->Q O' H'
abbrev DG(X:Cx)(H0:Hp)(tg:η)(g:Z.GF):Prop:=PG X tg<|tG X.K H0 g
structure ZQ.QG(X:Cx)(H0:Hp)(tg:Expr)(g:Z.GF):Prop where p:DG X H0 tg g
abbrev DGs(X:Cx)(H0:Hp)(tgs:U η)(is:U Nat):Prop:=NJ X tgs<|tGs X.K H0 is
structure ZQ.QGs(X:Cx)(H0:Hp)(tgs:List Expr)(is:List Nat):Prop where p:DGs X H0 tgs is
def PG.imp(h:PG X tg t)(k:∀v O H Q,t' v O H Q->t v O H Q):PG X tg t':=λ B s O H v u Q I r w=>h B s O H v u Q I r<|k v O H Q w
def NJ.imp(h:NJ X es t)(k:∀v O H Q,t' v O H Q->t v O H Q):NJ X es t':=λ B s O H v u Q I r w=>h B s O H v u Q I r<|k v O H Q w
def ZQ.mC(hf:Fl X x:=by trivial)(hN:X.N.Nodup:=by first|assumption|show A98 (by kernel_rfl))(hi:X.N[i]?=AC x:=by rfl)(hx:Loc X.env.scope x:=by show lo rfl):ZQ.QG X H0 (.Name x pos) (Z.aJ i):=
 ⟨PG.imp (FG hN hi hx hf) <|by rintro v O H Q ⟨Y,d,Y',rs,hd,e,k⟩;ext e;show k _ H (av.refl H)<|rs.Dp hd⟩
def ZQ.RW:ZQ.QGs X H0 [] []:=⟨NJ.imp Pt <|by
 rintro vs O H Q ⟨Y,ds,Y',rs,hd,e,k⟩;cases ds with
 |nil=>erw[au]at hd;ext e;show(hd,k O H (av.refl H) rs,)
 |cons d ds=>ext e⟩
def ZQ.IY(h2:ZQ.QGs X H0 es is)(hs:(assignEach ((.Name x pos)::es) X.J).map (·.2)=assign (.Name x pos) X.J::(assignEach es X.J).map (·.2):=by rfl)(hf:Fl X x:=by trivial)(hN:X.N.Nodup:=by first|assumption|show A98 (by kernel_rfl))(hi:X.N[i]?=AC x:=by rfl)(hx:Loc X.env.scope x:=by show lo rfl):ZQ.QGs X H0 (.Name x pos::es) (i::is):=
 ⟨have h2:=h2.p;NJ.imp (Kz (FG hN hi hx hf) h2 hs) <|by
  rintro vs O H Q ⟨Y,ds,Y',rs,hd,e,k⟩;cases ds with
  |nil=>ext e
  |cons d ds=>erw[au]at hd;let(v,r,rfl,h1,h2):=hd;show(v,r,rfl,_,ds,Y',rs.Dp h1,h2,e,k,)⟩
def ZQ.Xk(hc:X.calm=Da)(h:ZQ.QGs X H0 es is)(hl:is.n=n)(hn:(assignEach es X.J).length=n:=by rfl)(pZ:(assignEach es X.J).findIdx? (·.1)=Ch:=by rfl):ZQ.QG X H0 (.Tuple es x1 pos) (Z.e_ is):=
 ⟨PG.imp (KD hc h.p hn pZ) <|by
  rintro v O H Q ⟨Y,d,Y',rs,hd,e,k⟩;unfold Z.e_ at e;split at e
  .rename_i ds;let(q,vs,rfl,hq,t):=bz.tup (.inl hd);let ψ:∀is ds Y Y',Z.iG is ds Y=.ok Y'->ds.n=is.n:=by
    intro is
    induction is with
    |nil=>intro ds Y Y' e;cases ds with
     |nil=>rfl
     |cons d ds=>ext e
    |cons i is ih=>intro ds Y Y' e;cases ds with
     |nil=>ext e
     |cons d ds=>simp[ih ds _ _ e]
   show⟨q,vs,rfl,hq,by rw[t.n,ψ is ds Y Y' e];show hl,Y,ds,Y',rs,t,e,k⟩
  .ext e⟩
def ZQ.Xc{g:Z.GF}(he:ZQ.QE X a fa)(hg:ZQ.QG X H0 tg g)(hs:swapsWithSole [tg] a pos.line X.J=pure AT:=by rfl)(hw:swappedStores [tg] a X.J=pure Ch:=by rfl)
 (h1:(assignEach [tg] X.J).map (·.2)=[assign tg X.J]:=by rfl):ZQ.QS X H0 (.Assign [tg] a pos) (Z.U7 fa g):=⟨PS.imp (Ve he.p hg.p hs hw h1) <|by
 rintro D O H ⟨Y,fl,rs,e,k⟩;let(d,ea,e):=ce e;let(Y',eb,e):=ce e;ext e;show(Y,d,rs.re,ea,λ v H' s dv=>(Y,d,Y',rs.up s,dv,eb,λ O2 H2 s2 r2=>k O2 H2 ((jR s).trans<|jR s2) r2,),)⟩
def ZQ.RP(hi:ZQ.QJ X tg iter it)(hg:ZQ.QG X H0 tg G)(hb:ZQ.yx X H0 body g)(hs:Fi iter X.J:=by intro _;rfl)(hp:PassesOwn (model X.prog X.w) X.A X.env X.xe:=by show C01)(hc:X.calm=Da:=by rfl):ZQ.QS X H0 (.For tg iter body [] pos) (Z.fm it G g):=⟨PS.imp (Kw hp hc hi.p hg.p hb.p hs) <|by
 rintro D O H ⟨Y,fl,rs,e,k⟩;let(ds,ei,e):=ce e;show(Y,ds,rs.re,ei,λ J H1 s1 z=>?_,);show(λ i m O' H'=>m=ds.n-i/\i<=ds.n/\∃Y',RS X.K H0 H' O' Y'/\gV H1 H'/\Z.dQ G g (ds.drop i) Y'=.ok fl,⟨ds.n,by simp,A48 _,Y,rs.up s1,gV.refl H1,by calc e⟩,?_,);rintro i m O2 H2 ⟨rfl,BO,Y2,r2,s2,e2⟩;by_cases j?:i<ds.n
 .obtain⟨d,hd⟩:∃d,ds[i]?=AC d:=⟨ds[i],by simp[j?]⟩
  let uW:ds.drop i=d::ds.drop (i+1):=by
   rw[A99 j?];let:ds[i]=d:=by let:=A05 j?;rw[this]at hd;show f8 hd
   rw[this]
  rw[uW]at e2;let(Y3,eg,e2):=ce e2;let(f3,eb,e2):=ce e2;show .inr ⟨z.go i d H2 s2 hd,λ O' H'=>∃Y',RS X.K H0 H' O' Y'/\gV H1 H'/\Z.dQ G g _ Y'=.ok fl,λ O' H' w=>⟨_,by lia,rfl,j?,w⟩,λ x H3 y=>?_⟩;let(sy,dx):=z.CH i d H2 H3 x s2 hd y;replace s2:=s2.trans<|jR sy;show(Y2,d,Y3,r2.up sy,dx,eg,λ σ4 H4 s4' r4=>(Y3,f3,r4,eb,?_,),);let s4:=jR s4';cases f3 with
  |nx ρ5=>show λ O5 H5 s5 r5=>(ρ5,r5,(s2.trans s4).trans s5,e2,)
  |ct ρ5=>show λ O5 H5 s5 r5=>(ρ5,r5,(s2.trans s4).trans s5,e2,)
  |bk ρ5=>ext e2;show λ O5 H5 s5 r5=>k O5 H5 ((jR s1).trans<|(s2.trans s4).trans s5) r5
  |rt d5=>ext e2;show k
 .let:i=ds.n:=by lia
  subst this;rw[B58]at e2;ext e2;show .inl ⟨z.stop H2 s2,k O2 H2 ((jR s1).trans s2) r2⟩⟩
def ZQ.RI(h:ZQ.yx X H0 wx g):ZQ.yx X H0 wx (Z.uu i g):=⟨by
 let h:=h.p;intro B s O H D I w;let(Y,fl,rs,e,k):=w;unfold Z.uu Z.eu at e;split at e
 .rename_i xs ei;let(v,si,q,us,rfl,hq,t):=rs.re.get i _ ei;let(o,I2):=oF I hq;show h B s O _ D I2 ⟨_,fl,rs.eu ei si hq t,e,k.up<|jE hq⟩
 .exact h B s O H D I ⟨Y,fl,rs,e,k⟩⟩
theorem IP(ho:PE X o (nr i))(ha:DE X a fa)(hs:swapsWith (.Call (.Attribute o "append" p1) [a] [] p2) Ch pos.line X.J=pure AT:=by rfl)(nS:Se a [] X.J:=by rfl)
 (hbm:PE X (.Call (.Attribute o "append" p1) [a] [] p2) (tBM X.K "list" FC (nr i)<|J9 (tZ X.K fa) OU)) :
 DS X H0 (.Expr (.Call (.Attribute o "append" p1) [a] [] p2) pos) (Z.cV i fa):=PS.imp (pG hbm hs) <| by
 rintro D O H ⟨Y,fl,rs,e,k⟩;let(d,ea,e):=ce e;split at e
 .rename_i xs ei;unfold Z.guard at e;split at e
  .rename_i hl;ext e;let(v,si,q,us,rfl,hq,t):=rs.re.get i _ ei;show(_,si,.inl ⟨rfl,us,jO.of hq⟩,Y,d,rs.re,ea,λ v' H1 s1 dv=>?_,);let WC:=s1 _ _ hq;show⟨q,us,v',rfl,rfl,WC,by rw[t.n,A26];show hl,?_⟩;show k O _ ((jR s1).trans<|jE WC)<|(rs.up s1).chg ei si WC<|(t.up s1).append<|au.cons dv au.nil
  .ext e
 .ext e
end
def oP:∀(names:U (Str×NameKind)) acc,(∀y∈names,y.2=.free->∃c,env.cells.lookup y.1=AC c)->(∀x c,acc.lookup x=AC c->env.cells.lookup x=AC c) ->
 ∃cl,(forIn names acc λ(x)(cs:U (Str×δ))=>(if(x.2==NameKind.free)=Da then do let c ←cellOf env x.1;pure (Gc<|(x.1,c)::cs)else pure (Gc cs):Sem (ForInStep<|U<|Str×δ)))=pure cl /\
  (∀x c,cl.lookup x=AC c->env.cells.lookup x=AC c)/\(∀x,(acc.lookup x).isSome=Da->(cl.lookup x).isSome=Da)/\(∀y∈names,y.2=.free->(cl.lookup y.1).isSome=Da)
|[],acc,_,ha=>⟨acc,rfl,ha,λ _ h=>h,λ y hy=>by ext hy⟩
|(n,k)::r,acc,hn,ha=>by
 by_cases hk:k=.free
 .subst hk;let(c,hc):=hn (n,.free) A10 rfl;let ha':∀x d,((n,c)::acc).lookup x=AC d->env.cells.lookup x=AC d:=λ x d e=>by
   rw[A61]at e;split at e
   .rename_i q;ext e;rw[A40.mp q];show hc
   .exact ha x d e
  let(cl,e,h1,h2,h3):=oP r ((n,c)::acc) (λ y hy=>hn y<|A08 _ hy) ha';let self:=h2 n (by rw[B34];rfl);show(cl,?_,h1,λ x hx=>h2 x ?_,λ y hy hf=>?_,)
  .rw[B35];erw[A54,A28];let:cellOf env n=pure c:=by unfold cellOf;rw[hc]
   rw[this];show e
  .rw[A61];split
   .rfl
   .exact hx
  .rcases A01.mp hy with rfl|hy
   .exact self
   .exact h3 y hy hf
 .let(cl,e,h1,h2,h3):=oP r acc (λ y hy=>hn y<|A08 _ hy) ha;let hb:(k==NameKind.free)=AT:=by simpa using hk
  show(cl,?_,h1,h2,λ y hy hf=>?_,)
  .rw[B35];erw[hb,A46,A59];show e
  .rcases A01.mp hy with rfl|hy
   .exact absurd hf hk
   .exact h3 y hy hf
def jT(hn:∀y∈scope.j,y.2=.free->∃c,env.cells.lookup y.1=AC c):
 ∃cl,closureFor scope env=pure cl/\(∀x c,cl.lookup x=AC c->env.cells.lookup x=AC c)/\(∀y∈scope.j,y.2=.free->(cl.lookup y.1).isSome=Da):=by
 let(cl,e,h1,_,h3):=oP _ [] hn (λ x c e=>by ext e);show(cl,?_,h1,h3,);unfold closureFor
 first
  |show e
  |(erw[bind_pure];show e)
  |(rw[e];rfl)
def je{env:Env}{x:Str}:∀(names:U _),(names.map λ(n,k)=>if(k == NameKind.free&&env.scope.kind == .function&&env.kindOf n == AC .cell)=Da then(n,NameKind.cell)else(n,k)).lookup x=(names.lookup x).map λ k=>if(k == NameKind.free&&env.scope.kind == .function&&env.kindOf x == AC .cell)=Da then NameKind.cell else k
|[]=>rfl
|(n,k)::r=>by
 let ih:=@je env x r;change NE x ((if(k==NameKind.free&&env.scope.kind==.function&&env.kindOf n==AC .cell)=Da then(n,NameKind.cell)else(n,k))::_)=_;by_cases hx:x=n
 .subst hx;by_cases hc:(k==NameKind.free&&env.scope.kind==.function&&env.kindOf x==AC .cell)=Da
  .rw[M2 hc,B34,B34,A69,M2 hc]
  .rw[W1 hc,B34,B34,A69,W1 hc]
 .let hb:(x==n)=AT:=by simpa using hx
  by_cases hc:(k==NameKind.free&&env.scope.kind==.function&&env.kindOf n==AC .cell)=Da
  .rw[M2 hc,A61,A61,hb];show ih
  .rw[W1 hc,A61,A61,hb];show ih
noncomputable abbrev lR(X:Cx)(N':U Str)(scope:ς)(cl:U (Str×δ))(C:δ)(fp:U δ)(s₂:ι)(H₂:Hp):Cx:=
 {prog:=X.prog,w:=X.w,K:=X.K,mg:=X.mg,base:=X.a,A:=X.A,N:=N',s₀:=s₂,H₀:=H₂,env:=compEnvC scope cl C X.J,outer:=X.stack,stack:=X.stack,ex:=fp,fn:=λ _=>AT,calm:=X.calm,pn:=[],xe:=λ _ _=>False}
structure v_(N N':List Str)(n:Nat)(is:List Nat)(sc Vn:Scope):Prop where
 kind:sc.kind=.function
 cell:∀y∈sc.j,y.2≠.cell
 loc:∀y∈sc.j,y.2=.local->sc.names.lookup y.1=AC .local
 free:∀y∈sc.j,y.2=.free->Vn.names.lookup y.1=AC .cell\/Vn.names.lookup y.1=AC .free
 len:N'.n=n+is.n
 cap:∀(j i:Nat),is[j]?=AC i->∃x,N'[n+j]?=AC x/\N[i]?=AC x/\sc.names.lookup x=AC .free
 own:∀(j:Nat),j<n->∃x,N'[j]?=AC x/\sc.names.lookup x=AC .local
section
variable{X:Cx}{tg e a b elt iter:η}{ifs:U η}{pos:Pos}{N':U Str}{n:Nat}{is:U Nat}{scope:ς}
def oo(O:St)(n:Nat)(is:U Nat):St:=Do n Ch++is.map λ i=>(O[i]?).join
def gm(n:Nat)(is:U Nat)(Y:Z.Env)(i:Nat)(xs:U Z.D):(Do n Ch++Z.fh Y is:Z.Env)[i]?≠AC (AC<|.own xs):=by
 intro e;by_cases hi:i<n
 .rw[A37 (by calc hi),A52]at e;split at e<;>ext e
 .rw[A45 (by calc hi)]at e;unfold Z.fh at e;rw[A07]at e;cases q:is[i-(Do n<|none).length]? with
  |none=>rw[q]at e;ext e
  |some j=>rw[q]at e;let e':=f8 e;unfold Z.vI at e';split at e'<;>ext e'
def rn(n:Nat)(is:U Nat)(Y:Z.Env)(i:Nat)(ks:Z.DK):(Do n Ch++Z.fh Y is:Z.Env)[i]?≠AC (AC<|.dc ks):=by
 intro e;by_cases hi:i<n
 .rw[A37 (by calc hi),A52]at e;split at e<;>ext e
 .rw[A45 (by calc hi)]at e;unfold Z.fh at e;rw[A07]at e;cases q:is[i-(Do n<|none).length]? with
  |none=>rw[q]at e;ext e
  |some j=>rw[q]at e;let e':=f8 e;unfold Z.vI at e';split at e'<;>ext e'
def Ks{K:FS}(h:RE K H O Y)(s:av H H'):RS K H H' (oo O n is) (Do n Ch++Z.fh Y is):=by
 let key:∀(i:Nat) l,(Do n Ch++Z.fh Y is)[i]?=AC (AC l)->∃v,(oo O n is)[i]?=AC (AC v)/\RL K H l v:=?_;show(s,⟨by simp[oo,Z.fh],λ i l e=>let ⟨v,h1,h2⟩:=key i l e;⟨v,h1,h2.up s⟩,λ i j xs ys q e1=>absurd e1<|gm n is Y i xs⟩,λ i xs q e1=>absurd e1<|gm n is Y i xs,λ i xs e1=>let ⟨v,h1,h2⟩:=key i _ e1;⟨v,h1,jC.z h2⟩,iM.non<|rn n is Y,);intro i l e;by_cases hi:i<n
 .rw[A37 (by calc hi),A52]at e;split at e<;>ext e
 .rw[A45 (by calc hi)]at e;unfold oo;rw[A45 (by calc hi)];erw[A80]at e ⊢;unfold Z.fh at e;rw[A07]at e ⊢;cases q:is[i-n]? with
  |none=>rw[q]at e;ext e
  |some j=>
   rw[q]at e;let e':=f8 e;unfold Z.vI at e';split at e'
   .rename_i d hd;ext e';let(v,h1,h2):=h.get j _ hd;show(v,?_,h2,);simp[h1]
   .rename_i d hd;ext e';let(v,h1,h2):=h.get j _ hd;show(v,?_,h2,);simp[h1]
   .rename_i d hd;ext e';let(v,h1,h2):=h.get j _ hd;show(v,?_,h2,);simp[h1]
   .rename_i xs hd;ext e';let(v,h1,a,vs,rfl,h3,h4):=h.get j _ hd;show(_,?_,.inl<|.inr ⟨xs,a,vs,rfl,rfl,h3,h4⟩,);simp[h1]
   .ext e'
def nC(I:Nat->ι->Prop)
 (turn:∀ n s,I n s->Ev (model prog w) A (pyNext it) (λ r s₁=>match r with
  |none=>R (.ok .next) s₁
  | some v=>Ev (model prog w) A (letOwnedTupleGo target it v) (λ _ s₁=>Ev (model prog w) A (assign target env v) (λ _ s₂=>
   Ev (model prog w) A (forIn ifs Da λ c r=>if r=Da then do let ok ←isTrue c env (eval c env);pure (Gc ok)else pure (Gc r)) (λ ok s₃=>
    if ok=Da then Ev (model prog w) A (eval elt env) (λ x s₄=>Ev (model prog w) A (call (.builtin "list.append") [acc,x]) (λ _ s₅=>∃m,m<n/\I m s₅) (λ _ _=>False) s₄) (λ _ _=>False) s₃
    else ∃m,m<n/\I m s₃) (λ _ _=>False) s₂) (λ _ _=>False) s₁) (λ _ _=>False) s₁) (λ _ _=>False) s)
 (n:Nat) (h:I n s) :
 codeAny (model prog w) A (.compLoop (.ListComp elt [⟨target,iter,ifs,0⟩] scope pos) 0 it acc env) R s:=by
 show codeAny_loop rfl I (λ n s hI=>?_) n h;show wpAny_noted ?_;rw[compTurn_list];show T0<|B36<|T0<|A20 (turn n s hI) (λ r s₁ h₁=>?_) λ _ _ h'=>h'.elim;cases r with
 |none=>show v6 h₁
 |some v=>
  show T0<|A20 h₁ (λ _ s₁ h₁=>?_) λ _ _ h'=>h'.elim;show T0<|A20 h₁ (λ _ s₂ h₂=>T0<|A20 h₂ (λ ok s₃ h₃=>?_) λ _ _ h'=>h'.elim) λ _ _ h'=>h'.elim;cases ok with
  |false=>show v6 ⟨rfl,h₃⟩
  |true=>show T0<|T0<|A20 h₃ (λ x s₄ h₄=>T0<|A20 h₄ (λ _ s₅ h₅=>v6<|v6 ⟨rfl,h₅⟩) λ _ _ h'=>h'.elim) λ _ _ h'=>h'.elim
structure Off(X:Cx)(B:List (Addr×Obj))(H:Hp)(C:Addr):Prop where
 free:H C=Ch
 loc:C≠X.J.i
 new:X.s₀.t<=C
 cell:∀x c,X.env.cells.lookup x=AC c->c≠C
 pin:∀p∈X.pn++B,p.1≠C
def Off.inv(o:Off X B H C)(I:Inv X B O H s)(hs:KF C s.heap h'):Inv X B O H {s with heap:=h'}:=
 I.turned (λ b ob hb e=>(hs.2 b hb).trans e) o.free o.loc (.inr o.new) o.cell o.pin
def Ran(X:Cx)(B:U (δ×μ))(O:St)(H₂:Hp)(ys:U Z.D)(acc:ζ)(C:δ)(s':ι):Prop:=
 ∃D H' vs m,acc=.ref D/\s'.heap.Ns C m/\Inv X B O H' s'/\Off X B H' C/\H₂ D=Ch/\av H₂ H'/\H' D=AC (.lst vs)/\au X.K H' ys vs
def tGR(K:Db)(R:Hp->Z.D->V->Prop)(H0:Hp)(g:Z.GF):TG:=λ v O H Q=>∃Y d Y',RS K H0 H O Y/\R H d v/\g d Y=.ok Y'/\∀O' H',av H H'->RS K H0 H' O' Y'->Q O' H'
def Nk{R:Hp->Z.D->V->Prop}{it:δ}{fp:U δ}{tn:Nat->ν->Prop}{J:It}{B:U (δ×μ)}{O:St}{Y:Z.Env}{H₂:Hp}{s₂:ι}{E:ζ->ι->Prop}{cl:U (Str×δ)}{G:Z.GF}{t:Z.TF}{fe:Z.EF}{ds ys:U Z.D}
 (dh:X.calm=Da) (χ:v_ X.N N' n is scope X.J.scope) (I2:Inv X B O H₂ s₂) (T:Turn X.prog X.w X.K tg J fp it tn) (U1:tn 0 s₂.e) (fo:∀b∈fp,qr X B H₂ b) (zg:∀(i:Nat)(d:Z.D)(H1:Hp),av H₂ H1->ds[i]?=AC d->J.go i H1) (zy:∀(i:Nat)(d:Z.D)(H1 H2:Hp)(x:V),av H₂ H1->ds[i]?=AC d->J.CH i H1 x H2->av H1 H2/\R H2 d x) (zst:∀(H1:Hp),av H₂ H1->J.stop ds.length H1) (re:RE X.K H₂ O Y)
 (jA:∀x c,cl.lookup x=AC c->X.env.cells.lookup x=AC c) (uX:∀y∈scope.j,y.2=.free->(cl.lookup y.1).isSome=Da)
 (hG:Gk G n)
 (hg:∀C s H H0,PG (lR X N' scope cl C fp s H) tg (tGR X.K R H0 G))
 (ht:∀ C s s' H nI (O':St) (H':Hp) (Q:Bool->Hp->Prop),Inv (lR X N' scope cl C fp s H) nI O' H' s'->Zv X.K t O' H' Q ->
  Ev (model X.prog X.w) X.A (forIn ifs Da λ c r=>if r=Da then do let ok ←isTrue c (compEnvC scope cl C X.J) (eval c<|compEnvC scope cl C X.J);pure (Gc ok)else pure (Gc r)) (TP (lR X N' scope cl C fp s H) nI O' Q) (λ _ _=>False) s')
 (he:∀C s H,DE (lR X N' scope cl C fp s H) elt fe) (ψ:ds.n<=Z.line) (ego:Z.bV G t fe (Do n Ch++Z.fh Y is) ds=.ok ys) :
 Ev (model X.prog X.w) X.A (newList []) (λ acc s₃=>Ev (model X.prog X.w) X.A (newFunctionEnv scope X.env.globals cl [] X.env.qual Ch .none<|some X.J) (λ XI s₄=>codeAny (model X.prog X.w) X.A (.compStart (.ListComp elt [⟨tg,iter,ifs,0⟩] scope pos) 0 (.ref it) acc {XI with scope:=relabel scope X.J}) (λ r s'=>r=.ok .next/\Ran X B O H₂ ys acc XI.locals s') s₄) E s₃) E s₂:=by
 show A74<|wpAny_newFunctionEnv χ.cell (by intro y hy;simp at hy) (λ h₁ Rf L8=>?_) χ.kind;dsimp only at Rf L8 ⊢;generalize W3:s₂.heap.push {cls:=.type "list",dict:=Ch,data:=.seq ([]:U ζ).toArray}=HH at Rf L8 ⊢;let hC:HH.Z=s₂.t+1:=by rw[<-W3,A58]
 let hDC:s₂.heap.objs.size≠HH.Z:=by rw[hC];show A16<|A66 _
 let below:∀b,b<s₂.t->b≠HH.Z/\b≠s₂.t:=λ b hb=>⟨by rw[hC];show A16<|C02 hb,A16 hb⟩
 let old:∀b o,s₂.heap.get? b=AC o->h₁.get? b=AC o:=λ b o e=>L8.extBut b o (below b<|A02 e).1<|A00 _<|W3▸A00 _ e;let aaE:h₁.get? s₂.t=AC {cls:=.type "list",data:=.seq ([]:U ζ).toArray}:=L8.extBut _ _ hDC<|A00 _<|W3▸A18 _ rfl;let fpo:∀b∈fp,∃o,s₂.heap.get? b=AC o/\∀v,o.data≠.cell v:=T.obj 0 _ U1;let W7:∀b∈fp,b<s₂.t:=λ b hb=>let ⟨_,e,_⟩:=fpo b hb;A02 e;generalize hD:s₂.t=D at hDC below old aaE hC ⊢;generalize hCC:HH.Z=C at Rf L8 hDC below hC ⊢;let Of:H₂ D=Ch:=I2.bN.fresh (by rw[hD];show P3 _);let hCn:H₂ C=Ch:=I2.bN.fresh (by rw[hD,hC];show A67 _)
 let ok:(lR X N' scope cl C fp s₂ H₂).Ok:=by
  show⟨I2.ok.mod,χ.kind,I2.ok.glob,I2.ok.blt,by change s₂.t<=C;rw[hD,hC];show A67 _,λ x y c e1 e2=>I2.ok.inj x y c (jA x c e1)<|jA y c e2,λ x hx=>?_,λ x c hf=>(by ext hf),I2.ok.hd,I2.ok.frames,.inl rfl,
   λ b hb=>((below b (by rw[<-hD];show W7 b hb)).1,λ x c e=>(fo b hb).2.2.2.2.1 x c<|jA x c e,),I2.bs,A14 I2.ok.Nw I2.sz,λ b o e hb=>?_,λ b hb z=>?_,I2.stack,I2.sS⟩
  .let Jy:(relabel scope X.J).names.lookup x=AC .cell\/(relabel scope X.J).names.lookup x=AC .free:=hx;let e:=je (env:=X.J) (x:=x) scope.j;let e':(relabel scope X.J).names.lookup x=_:=e;rw[e']at Jy;cases q:scope.names.lookup x with
   |none=>rw[q]at Jy;rcases Jy with h|h<;>ext h
   |some k=>
    let hm:=A68 q;let hk:k=.free:=by
     rw[q]at Jy;erw[A69]at Jy;by_cases hc:(k==NameKind.free&&X.J.scope.kind==.function&&X.env.kindOf x==AC .cell)=Da
     .rw[A60,A60]at hc;show A40.mp hc.1.1
     .rw[W1 hc]at Jy;rcases Jy with h|h
      .exact absurd (f8 h)<|χ.cell _ hm
      .exact f8 h
    subst hk;show A92.mp<|uX _ hm rfl
  .rcases(fo b hb).2.2.2.1 with q|q
   .exact I2.ok.Bq b o e q
   .exact absurd (A19 (A02 (I2.ok.bs b o e).1) q)<|A88 _
  .rcases A01.mp (I2.qG b z)with q|q
   .exact(fo b hb).2.1 q
   .exact(fo b hb).2.2.1 q
 let Hd:lX X.prog X.w (upd H₂ D<|.lst []) h₁:=I2.bN.laid old (by rw[hD];show P3 _) ⟨A48 _,[],_,.nil,aaE⟩;let ne2:∀b,b<s₂.t->b≠D:=λ b hb=>by rw[<-hD];show A16 hb
 let vG:∀x c,X.env.cells.lookup x=AC c->c<s₂.t/\∀v,s₂.heap.IsCell c v->h₁.IsCell c v:=λ x c e=>by let(v,o,ho,hd):=I2.cell x c e;show⟨A02 ho,by rintro v' ⟨o',p5,sH⟩;show(o',old c o' p5,sH,)⟩
 let I4:Inv (lR X N' scope cl C fp s₂ H₂) [] (oo O n is) (upd H₂ D<|.lst []) {s₂ with heap:=h₁,toks:=s₂.toks+([]:U (Str×ζ)).length}:=by
  show⟨ok,rfl,I2.bare,Un.laid old (by rw[hD];show P3 _) Of,(_,Rf,λ i x v e1 e2 e3=>?_,),λ x c e=>?_,by change upd H₂ D (.lst []) C=Ch;rw[ak<|A15 hDC];show hCn,λ x c e=>?_,λ p hp=>absurd (show p∈([]:U (δ×μ))from hp) ∅,Hd,by simp[oo,χ.len],I2.tab.up λ b u _ e=>by rw[ak<|aR e Of];show e⟩
  .unfold oo at e2;by_cases hi:i<n
   .rw[A37 (by calc hi),A52]at e2;split at e2<;>ext e2
   .rw [A45 (by calc hi),A07] at e2;erw[A80]at e2;cases q:is[i-n]? with
    |none=>rw[q]at e2;ext e2
    |some j=>
     rw[q]at e2;erw[A69]at e2;let(x',c1,c2,c3):=χ.cap (i-n) j q;let Eh:n+(i-n)=i:=Nat.add_sub_of_le (Nat.not_lt.mp hi)
     rw[Eh]at c1;let Ug:N'[i]?=AC x:=e1;rw[c1]at Ug;ext Ug;let hσ:O[j]?=AC (AC v):=by
      cases r:O[j]? with
      |none=>rw[r]at e2;ext e2
      |some y=>
       rw[r]at e2;let:y=AC v:=by simpa using e2
       rw[this]
     let(m,hn,hl):=I2.loc;let hm:=A68 c3;let hk:=χ.free _ hm rfl;let Wv:NH X.env.scope x:=by
      rcases hk with k|k
      .exact .inr<|.inl k
      .exact .inr<|.inr k
     let(u,ru,lk):=hl j x v c2 hσ Wv;show(u,ru,?_,);rcases lk with⟨k1,_⟩|⟨k1,c,hc,rS⟩
     .let QU:X.env.scope.names.lookup x=AC .local:=k1;rcases hk with k|k
      .rw[k]at QU;ext QU
      .rw[k]at QU;ext QU
     .let(c',Ar):=A92.mp (uX _ hm rfl);let:c'=c:=by let:=jA x c' Ar;rw[hc]at this;show(f8 this).symm
      subst this;show .inr ⟨?_,c',Ar,(vG x c' hc).2 _ rS⟩;change(relabel scope X.J).names.lookup x=AC .cell\/(relabel scope X.J).names.lookup x=AC .free;let e:=je (env:=X.J) (x:=x) scope.j;let e':(relabel scope X.J).names.lookup x=_:=e;rw[e',c3];erw[A69];split
      .exact .inl rfl
      .exact .inr rfl
  .let(v,hv):=I2.cell x c (jA x c e);show(v,(vG x c<|jA x c e).2 v hv,)
  .let j?:=(vG x c<|jA x c e).1;rw[ak<|ne2 c j?];show I2.gH x c<|jA x c e
 let rs4:RS X.K H₂ (upd H₂ D<|.lst []) (oo O n is) (Do n Ch++Z.fh Y is):=Ks re<|bE Of;let st4:tn 0 h₁:=T.keep 0 _ _ U1 λ b hb o e=>old b o e;let fr4:∀b∈fp,(upd H₂ D<|.lst []) b=Ch:=λ b hb=>by rw[ak<|ne2 b<|W7 b hb];show(fo b hb).1
 let Di:∀{H'},(∀b∈fp,H' b=Ch)->∀b∈fp,qr (lR X N' scope cl C fp s₂ H₂) [] H' b:=λ hn b hb=>by
  show(hn b hb,(below b (by rw[<-hD];show W7 b hb)).1,?_,.inl hb,λ x c e=>(fo b hb).2.2.2.2.1 x c<|jA x c e,λ p hp=>absurd (show p∈([]:U (δ×μ))from hp) ∅,);intro q;rcases A01.mp (I2.qG b q)with q|q
  .exact(fo b hb).2.1 q
  .exact(fo b hb).2.2.1 q
 let loop:codeAny (model X.prog X.w) X.A (.compLoop (.ListComp elt [⟨tg,iter,ifs,0⟩] scope pos) 0 (.ref it) (.ref D)<|compEnvC scope cl C X.J) (λ r s'=>r=.ok .next/\Ran X B O H₂ ys (.ref D) C s')
  {s₂ with heap:=h₁,toks:=s₂.toks+([]:U (Str×ζ)).length}:=by
  show nC (λ m s'=>∃i O' H' vs zs,m=ds.n+1-i/\i<=ds.n/\vs.n<=i/\Inv (lR X N' scope cl C fp s₂ H₂) [] O' H' s'/\tn i s'.e/\(∀b∈fp,H' b=Ch)/\H' D=AC (.lst vs)/\av H₂ H' /\
   RS X.K H₂ H' O' (Do n Ch++Z.fh Y is)/\(∃rest,Z.bV G t fe (Do n Ch++Z.fh Y is) (ds.drop i)=.ok rest/\zs++rest=ys)/\au X.K H' zs vs) ?_ (ds.n+1)
   ⟨0,oo O n is,_,[],[],rfl,A48 _,P3 _,I4,st4,fr4,aA,bE Of,rs4,⟨ys,by calc ego,rfl⟩,au.nil⟩
  .rintro m s' ⟨i,O3,H3,vs,zs,rfl,BO,hvl,I3,Tg,fr3,hD3,NU,re3,⟨rest,er,ez⟩,dz⟩;by_cases j?:i<ds.n
   .obtain⟨d,hd⟩:∃d,ds[i]?=AC d:=⟨ds[i],by simp[j?]⟩
    let uW:ds.drop i=d::ds.drop (i+1):=by
     rw[A99 j?];let:ds[i]=d:=by let:=A05 j?;rw[this]at hd;show f8 hd
     rw[this]
    rw[uW]at er;unfold Z.bV at er;let(Y1,eg,er):=ce er;let(c1,ec,er):=ce er;show cj (T.item (lR X N' scope cl C fp s₂ H₂) rfl rfl rfl dh i [] s' O3 H3 (λ _ _=>False) I3 (Di fr3) Tg<|zg i d H3 NU hd) ?_;rintro r s4 ⟨u,hr,h4⟩;subst hr;show cj h4 ?_;rintro _ s5 ⟨x,H5,I5,r5,y5,yT,fr5⟩;let(sy,dx):=zy i d H3 H5 x NU hd y5;replace re3:=re3.up sy;replace NU:=NU.trans sy;replace hD3:=sy _ _ hD3;replace dz:=dz.up sy;let I5':=I5.pinned (Di fr5)<|T.obj _ _ yT;let rs5:RS X.K H₂ H5 O3 (Do n Ch++Z.fh Y is):=re3;show cj (hg C s₂ H₂ H₂ _ s5 O3 H5 x u (λ O6 H6=>av H5 H6/\RS X.K H₂ H6 O6 Y1) I5' r5 ⟨_,d,Y1,rs5,dx,eg,λ O' H' s' r'=>(s',r',)⟩) ?_;rintro _ s6 ⟨O6,H6,I6,sm6,rs6⟩;show cj (ht C s₂ s6 H₂ _ O6 H6 (λ b H7=>b=c1/\av H6 H7) I6 ⟨Y1,c1,rs6.re,ec,λ H7 s7=>(rfl,s7,)⟩) ?_;rintro ok s7 ⟨H7,I7,e7,sm7⟩;subst e7;let Kc:av H5 H7:=sm6.trans sm7;let re7:RE X.K H7 O6 Y1:=rs6.re.up sm7;let re0:∀{H9},av H7 H9->RS X.K H₂ H9 O6 (Do n Ch++Z.fh Y is):=λ {H9} s9=>by
     let(gl,gk):=hG d _ Y1 eg;show((rs6.same.trans sm7).trans s9,⟨by rw[<-gl];show re7.len,λ j l e=>?_,λ j k xs ys q e1=>absurd e1<|gm n is Y j xs⟩,λ j xs q e1=>absurd e1<|gm n is Y j xs,λ j xs e=>?_,iM.non<|rn n is Y,);rotate_left
     .by_cases hj:n<=j
      .rw[<-gk j hj]at e;show rs6.k? j xs e
      .rw[A37 (by simp;lia),A52]at e;split at e<;>ext e
     by_cases hj:n<=j
     .rw[<-gk j hj]at e;show(re7.up s9).get j l e
     .rw[A37 (by simp;lia),A52]at e;split at e<;>ext e
    let fin:∀{H9}{s9} Zo zs9,Inv (lR X N' scope cl C fp s₂ H₂) ([]++uz fp s5.e) O6 H9 s9->H9 D=AC (.lst Zo)->Zo.n<=i+1->av H₂ H9->RS X.K H₂ H9 O6 (Do n Ch++Z.fh Y is) ->
     (∃ rest,Z.bV G t fe (Do n Ch++Z.fh Y is) (ds.drop<|i+1)=.ok rest/\zs9++rest=ys)->au X.K H9 zs9 Zo->∃ m,m<ds.n+1-i/\∃ i O' H' vs zs,m=ds.n+1-i/\i<=ds.n/\vs.n<=i/\Inv (lR X N' scope cl C fp s₂ H₂) [] O' H' s9/\tn i s9.e/\(∀ b∈fp,H' b=Ch)/\H' D=AC (.lst vs)/\av H₂ H' /\
      RS X.K H₂ H' O' (Do n Ch++Z.fh Y is)/\(∃rest,Z.bV G t fe (Do n Ch++Z.fh Y is) (ds.drop i)=.ok rest/\zs++rest=ys)/\au X.K H' zs vs:=by
     intro H9 s9 Zo zs9 I9 hD9 hv9 ZI re9 er9 dz9;show⟨ds.n+1-(i+1),Nat.sub_lt_sub_left (Nat.lt_succ_of_lt j?) (Nat.lt_succ_self i),i+1,O6,H9,Zo,zs9,rfl,j?,hv9,I9.o_,T.keep _ _ _ yT λ b hb o e=>(I9.pin (b,o)<|A43 _<|A43 _<|kM hb e).1,λ b hb=>?_,hD9,ZI,re9,er9,dz9⟩;let(o,e,_):=T.obj _ _ yT b hb;show(I9.pin (b,o)<|A43 _<|A43 _<|kM hb e).2.1
    let hD7:H7 D=AC (.lst vs):=Kc _ _ hD3;cases ok with
    |false=>erw[A46,A59]at er ⊢;show fin vs zs I7 hD7 (Nat.le_succ_of_le hvl) (NU.trans Kc) (re0<|av.refl _) ⟨rest,er,ez⟩<|dz.up Kc
    |true=>
     erw[A28]at er ⊢;let(y,ey,er):=ce er;let(ZU,er2,er):=ce er;ext er;show cj (he C s₂ H₂ _ s7 O6 H7 (λ v H8=>av H7 H8/\Den X.K H8 y v) I7 ⟨Y1,y,re7,ey,λ v H8 s8 d8=>(s8,d8,)⟩) ?_;rintro u8 s8 ⟨v8,H8,I8,rv8,sm8,dy⟩;let hD8:H8 D=AC (.lst vs):=sm8 _ _ hD7;let adR:av H₂ H8:=(NU.trans Kc).trans sm8;show cj (xP (X:=lR X N' scope cl C fp s₂ H₂) _ s8 O6 H8 (.ref D) [v8] (.ref D) [u8] (λ v H9=>v=.non/\H9=upd H8 D (.lst<|vs++[v8])) I8 rfl (.cons rv8 .nil) ⟨D,vs,v8,rfl,rfl,hD8,?_,rfl,rfl⟩) λ _ s9 ⟨v9,H9,I9,_,_,e9⟩=>?_
     .rw[A26];let:Z.line=16777216:=rfl;lia
     subst e9;let Tf:gV H8 (upd H8 D<|.lst<|vs++[v8]):=jE hD8;let ZI:av H₂ (upd H8 D<|.lst<|vs++[v8]):=λ b o e=>by rw[ak<|aR e Of];show adR b o e
     let YB:=re0 sm8;show fin (vs++[v8]) (zs++[y]) I9 aA (by simp;lia) ZI ⟨ZI,⟨YB.re.len,λ j l e=>?_,λ j k xs ys q e1=>absurd e1<|gm n is Y j xs⟩,λ j xs q e1=>absurd e1<|gm n is Y j xs,YB.k?,YB.r8⟩ ⟨ZU,er2,by rw[A75];show ez⟩<|(((dz.up Kc).up sm8).append<|au.cons dy au.nil).ups Tf;let(v,h1,h2):=YB.re.get j l e;show(v,h1,?_,);cases l with
     |val dd=>show Den.ups (show Den X.K H8 dd v from h2) Tf
     |own xs=>show absurd e<|gm n is Y j xs
     |bor xs=>let(v',h3,h4):=YB.k? j xs e;rw[h1]at h3;ext h3;show h4.re h2 YB.same ZI Tf
     |dc ks=>show absurd e<|rn n is Y j ks
     |JD ks=>let(q',o',as,rfl,eJ,t'):=h2;show(q',o',as,rfl,Tf.eu _ _ _ eJ,t'.ups Tf,)
     |T3 ps=>let(q',o',rfl,eJ):=h2;show(q',o',rfl,Tf.eu _ _ _ eJ,)
     |exc c=>let(q',o',u',C',rfl,eJ,r1,r2,r3):=h2;show(q',o',u',C',rfl,Tf.eu _ _ _ eJ,r1,r2,r3.ups Tf,)
   .let:i=ds.n:=by lia
    subst this;rw[B58]at er;ext er;rw[A51]at ez;subst ez;show cj (T.done (lR X N' scope cl C fp s₂ H₂) rfl rfl rfl dh _ [] s' O3 H3 (λ _ _=>False) I3 (Di fr3) Tg<|zst H3 NU) ?_;rintro r s4 ⟨hr,J4⟩;subst hr;let(m',Gd,_):=J4.loc;let Lj:∀b o,s₂.heap.get? b=AC o->b≠C:=λ b o e=>(below b (by rw[<-hD];show A02 e)).1;let I9:Inv X B O H3 s4:=I2.Nq (s':=s4) J4.os J4.base J4.bN J4.bare λ b hb=>((fo b hb).2.2.2.1,(fo b hb).2.1,(fo b hb).2.2.2.2.1,(fo b hb).2.2.2.2.2,)
    let szC:s₂.t<=C:=by rw[hD,hC];show A67 _
    show(rfl,D,H3,vs,m',rfl,Gd,I9,(J4.free,?_,A14 I2.sz szC,λ x c e=>?_,λ p hp=>?_,),Of,NU,hD3,dz,)
    .exact A47<|A19 I2.lt szC
    .exact A16<|A19 (vG x c e).1 szC
    .exact Lj p.1 p.2 (I2.pin p hp).1
 let pZ:codeAny (model X.prog X.w) X.A (.compStart (.ListComp elt [⟨tg,iter,ifs,0⟩] scope pos) 0 (.ref it) (.ref D)<|compEnvC scope cl C X.J) (λ r s'=>r=.ok .next/\Ran X B O H₂ ys (.ref D) C s')
  {s₂ with heap:=h₁,toks:=s₂.toks+([]:U (Str×ζ)).length}:=codeAny_compStart_list loop<|T.self _ 0 _ _ _ st4 loop
 show pZ
def kP(h:k<n)(d:Z.D)(Y Y1:Z.Env)(e:Z.aJ k d Y=.ok Y1):Y1.n=Y.n/\∀i,n<=i->Y1[i]?=Y[i]?:=by ext e;show⟨by simp,λ i hi=>A24 ∅⟩
def rW:∀ks,(∀k∈ks,k<n)->∀ds Y Y1,Z.iG ks ds Y=.ok Y1->Y1.n=Y.n/\∀i,n<=i->Y1[i]?=Y[i]?
|[],_,[],Y,Y1,e=>by ext e;show(rfl,λ _ _=>rfl,)
|[],_,_::_,_,_,e=>by ext e
|_::_,_,[],_,_,e=>by ext e
|k::ks,h,d::ds,Y,Y1,e=>by let(h1,h2):=rW ks (λ k hk=>h k<|A08 _ hk) ds _ Y1 e;show⟨by rw[h1];simp,λ i hi=>?_⟩;rw[h2 i hi];let:=h k A10;show A24 ∅
def IC(h:∀k∈ks,k<n)(d:Z.D)(Y Y1:Z.Env)(e:Z.e_ ks d Y=.ok Y1):Y1.n=Y.n/\∀i,n<=i->Y1[i]?=Y[i]?:=by
 unfold Z.e_ at e;split at e
 .exact rW ks h _ Y Y1 e
 .ext e
def Tst(X:Cx)(ifs:U η)(t:Z.TF):Prop:=∀(B:U (δ×μ))(s:ι)(O:St)(H:Hp)(Q:Bool->Hp->Prop),Inv X B O H s->Zv X.K t O H Q ->
 Ev (model X.prog X.w) X.A (forIn ifs Da λ c r=>if r=Da then do let ok ←isTrue c X.env (eval c X.J);pure (Gc ok)else pure (Gc r)) (TP X B O Q) X.xe s
structure ZQ.Js(X:Cx)(ifs:List Expr)(t:Z.TF):Prop where p:Tst X ifs t
def ZQ.C?:ZQ.Js X [] Z.bM:=⟨by rintro B s O H Q I ⟨Y,b,r,e,k⟩;ext e;show wpAny_tests_nil ⟨H,I,k H<|av.refl H⟩⟩
def ZQ.Fe(h:ZQ.QT X c t):ZQ.Js X [c] t:=⟨λ B s O H Q I w=>wpAny_tests_one<|h.p B s O H Q I w⟩
def Cr(dh:X.calm=Da)(hi:DI X tg iter it)(χ:v_ X.N N' n is scope X.J.scope)
 (hG:Gk G n)
 (hg:∀cl C fp s H H0,DG (lR X N' scope cl C fp s H) H0 tg G) (ht:∀cl C fp s H,Tst (lR X N' scope cl C fp s H) ifs t) (he:∀cl C fp s H,DE (lR X N' scope cl C fp s H) elt fe)
 (hs:Fi iter X.J)
 (I:Inv X B O H s) (re:RE X.K H O Y) (ec:Z.bB it n is G t fe Y=.ok ys)
 (fin:∀acc C s' H₂,av H H₂->Ran X B O H₂ ys acc C s'->compPost (model X.prog X.w) X.A X.xe use Q acc C (.ok .next) s') :
 Ev (model X.prog X.w) X.A (comprehension (.ListComp elt [⟨tg,iter,ifs,0⟩] scope pos) scope X.env ps (newList []) AT (eval iter X.J) use) Q X.xe s:=by
 let(ds,ei,ec):=ce ec;unfold Z.guard at ec;split at ec
 .rename_i ψ;let rR:∀y∈scope.j,y.2=.free->∃c,X.env.cells.lookup y.1=AC c:=λ y hy hf=>I.ok.has y.1<|χ.free y hy hf;let(cl,j_,jA,uX):=jT rR;show wpAny_comprehension_free rfl hs j_ χ.kind χ.loc ?_;show cj (hi B s O H (λ J H₂=>av H H₂/\E4 X.K J _ ds) I ⟨Y,ds,re,ei,λ J H' s' z=>(s',z,)⟩) λ x s₁ h₁=>?_;show cj h₁ ?_;rintro itv s₂ ⟨it',fp,tn,J,H₂,e2,I2,T,U1,fo,sm,z⟩;subst e2;show cj (Nk (R:=Den X.K) (iter:=iter) (pos:=pos) dh χ I2 T U1 fo z.go z.CH z.stop (re.up sm) jA uX hG (λ C s H H0=>hg cl C fp s H H0) (λ C s s' H' nI O' Uv Q' I' w=>ht cl C fp s H' nI s' O' Uv Q' I' w) (λ C s H=>he cl C fp s H) ψ ec) λ acc s₃ h₃=>?_;show cj h₃ λ XI s₄ h₄=>A91 h₄ ?_;rintro r s' ⟨er,ZW⟩;subst er;show fin acc _ s' H₂ sm ZW
 .ext ec
def ZQ.MR(hi:ZQ.QI X tg iter it)(he:∀{cl C fp s H},ZQ.QE (lR X N' scope cl C fp s H) elt fe)(ht:∀{cl C fp s H},ZQ.Js (lR X N' scope cl C fp s H) ifs t:=by show C?)(hg:∀{cl C fp s H H0},ZQ.QG (lR X N' scope cl C fp s H) H0 tg G:=by show mC)(dh:X.calm=Da:=by rfl)(χ:v_ X.N N' n is scope X.J.scope:=by show ZS.v_.of (by kernel_rfl))(hG:Gk G n:=by show ZS.kP ∅)(hs:Fi iter X.J:=by intro _;rfl):ZQ.QL X (.ListComp elt [⟨tg,iter,ifs,0⟩] scope pos) (Z.bB it n is G t fe):=⟨by let hg:∀cl C fp s H H0,DG (lR X N' scope cl C fp s H) H0 tg G:=λ _ _ _ _ _ _=>hg.p;let ht:∀cl C fp s H,Tst (lR X N' scope cl C fp s H) ifs t:=λ _ _ _ _ _=>ht.p;let he:∀cl C fp s H,DE (lR X N' scope cl C fp s H) elt fe:=λ _ _ _ _ _=>he.p;intro B s O H Q I w;let(Y,ys,re,e,k):=w;rw[eval_ListComp];show Cr dh hi.p χ hG hg ht he hs I re e λ acc C s' H₂ sm ZW=>?_;let(D,H',vs,m,rfl,L',I',off,Of,Yv,hD,dz):=ZW;show(m,L',λ h' T7=>(.ref D,H',off.inv I' T7,rfl,k D vs H' (sm.trans Yv) (sm.free Of) hD dz,),)⟩
def Nj(dh:X.calm=Da)(hN:X.N.Nodup)(WL:X.N[i]?=AC x)(hx:Loc X.env.scope x)
 (Ww:Sw elt tg iter ifs scope pos x px Dj X.J) (hi:DI X tg iter it) (χ:v_ X.N N' n is scope X.J.scope) (hG:Gk G n)
 (hg:∀cl C fp s H H0,DG (lR X N' scope cl C fp s H) H0 tg G) (ht:∀cl C fp s H,Tst (lR X N' scope cl C fp s H) ifs t) (he:∀cl C fp s H,DE (lR X N' scope cl C fp s H) elt fe)
 (hs:Fi iter X.J) (hf:X.fn x=Da\/X.env.scope.names.lookup x=AC .local) (I:Inv X B O H s) (re:RE X.K H O Y) (e:Z.bB it n is G t fe Y=.ok ys)
 (k:∀q vs H',av H H'->H q=Ch->H' q=AC (.lst vs)->au X.K H' ys vs->∃Uv,(∀s',Inv X B (O.set i<|some<|.ref q) H' s'->Inv X B (O.set i<|some<|.ref q) Uv s')/\D.nx (O.set i<|some<|.ref q) Uv) :
 Ev (model X.prog X.w) X.A (exec (.Assign [.Name x px] (.ListComp elt [⟨tg,iter,ifs,0⟩] scope pos) Dj) X.J) (SP X B D) X.xe s:=by
 rw[exec_Assign_Name_used _ _ _ _ Ww];show T0<|B36<|T0 ?_;show T0<|A20 (Cr dh hi χ hG hg ht he hs I re e λ acc C s' H₂ sm ZW=>?_) (λ _ s' hq=>v6<|v6 hq) λ _ _ e=>e;let(q,H',vs,m,rfl,L',I',off,Of,Yv,hD,dz):=ZW;let(Uv,hI,hnx):=k q vs H' (sm.trans Yv) (sm.free Of) hD dz;show wpAny_assign_Name<|xA I' hN WL hx (v:=.ref q) rfl (λ Yy I'' ⟨⟨a,sb,ha⟩,_⟩=>?_) hf;let hCa:C≠a:=by
  rcases ha with rfl|ha
  .exact off.loc
  .exact λ z=>off.cell x a ha z.c
 show(m,L'.sameBut sb hCa,λ h' T7=>(_,Uv,?_,hnx,),);show hI _<|off.inv I'' T7
theorem RN(dh:X.calm=Da)(hN:X.N.Nodup)(WL:X.N[i]?=AC x)(hx:Loc X.env.scope x)
 (hi:DI X tg iter it) (χ:v_ X.N N' n is scope X.J.scope) (hG:Gk G n)
 (hg:∀cl C fp s H H0,DG (lR X N' scope cl C fp s H) H0 tg G) (ht:∀cl C fp s H,Tst (lR X N' scope cl C fp s H) ifs t) (he:∀cl C fp s H,DE (lR X N' scope cl C fp s H) elt fe)
 (Ww:Sw elt tg iter ifs scope pos x px Dj X.J:=by rfl)
 (hs:Fi iter X.J:=by intro _;rfl) (hf:Fl X x:=by trivial) :
 DS X H0 (.Assign [.Name x px] (.ListComp elt [⟨tg,iter,ifs,0⟩] scope pos) Dj) (Z.l_ i<|Z.bB it n is G t fe):=by
 intro B s O H D I w;let(Y,fl,rs,e,k):=w;let(ys,ey,e):=ce e;ext e;show Nj dh hN WL hx Ww hi χ hG hg ht he hs hf I rs.re ey λ q vs H' s' hn h1 t'=>(H',λ _ j=>j,?_,)
 show k _ H' (jR s')<|(rs.up s').Ke h1 t' (rs.same.free hn) λ j xs _ e=>rs.noq hn j xs e
theorem ZQ.zX(dh:X.calm=Da)(hN:X.N.Nodup)(WL:X.N[i]?=AC x)(hx:Loc X.env.scope x)
 (hi:ZQ.QI X tg iter it) (χ:v_ X.N N' n is scope X.J.scope) (hG:Gk G n)
 (hg:∀cl C fp s H H0,ZQ.QG (lR X N' scope cl C fp s H) H0 tg G) (ht:∀cl C fp s H,ZQ.Js (lR X N' scope cl C fp s H) ifs t) (he:∀cl C fp s H,ZQ.QE (lR X N' scope cl C fp s H) elt fe)
 (Ww:Sw elt tg iter ifs scope pos x px Dj X.J:=by rfl)
 (hs:Fi iter X.J:=by intro _;rfl) (hf:Fl X x:=by trivial) :
 ZQ.QS X H0 (.Assign [.Name x px] (.ListComp elt [⟨tg,iter,ifs,0⟩] scope pos) Dj) (Z.aO i<|Z.eL<|Z.bB it n is G t fe):=⟨by
 let hg:=λ y0 y1 y2 y3 y4 y5=>(hg y0 y1 y2 y3 y4 y5).p;let ht:=λ y0 y1 y2 y3 y4=>(ht y0 y1 y2 y3 y4).p;let he:=λ y0 y1 y2 y3 y4=>(he y0 y1 y2 y3 y4).p;let h1:DS X H0 _ _:=RN dh hN WL hx hi.p χ hG hg ht he Ww hs hf;intro B s O H D I w;let(Y,fl,rs,e,k):=w;let(d,ed,e):=ce e;ext e;unfold Z.eL at ed;cases ey:Z.bB it n is G t fe Y with
 |bad=>rw[ey]at ed;ext ed
 |ok ys=>
  rw[ey]at ed;ext ed;show cj (h1 B s O H {D with nx:=λ O' H'=>gV H H'/\RS X.K H0 H' O' _} I ⟨Y,.nx<|Y.set i<|some<|.own ys,rs,by change(Z.bB it n is G t fe Y).bind _=_;rw[ey];rfl,λ O' H' s' r'=>(s',r',)⟩) λ fl' s' h=>?_;cases fl' with
  |next=>
   let(O',H',I',xB,Fy):=h;by_cases hl:i<Y.n
   .let ei:(Y.set i<|some<|Z.L.own ys)[i]?=AC (AC<|.own ys):=A31 hl;let(v,si,q,us,rfl,hq,t'):=Fy.re.get i _ ei;let(o,I2):=oF I' hq;let r2:=Fy.eu (o:=o) ei si hq t';rw[List.set_set]at r2;show(O',_,I2,k O' _ (xB.trans<|jE hq) r2,)
   .let e0:Y.set i (AC<|Z.L.own ys)=Y:=C47 ∅;let e1:Y.set i (AC<|Z.L.val<|.lst ys)=Y:=C47 ∅;rw[e0]at Fy;let k':=k;rw[e1]at k';show(O',H',I',k' O' H' xB Fy,)
  |brk=>show h
  |cont=>show h
  |ret u=>show h⟩
end
section
variable{P:ο}{w:ξ}{K:Db}{mg:Str->ε ζ}{base:ν}
def qH(t:au K H ds vs)(hl:vs.n<=N.n):RS K H H (L2.start N vs) (Z.start N.length ds):=by
 let Bp:∀(i:Nat) xs,(Z.start N.length ds)[i]?≠AC (AC<|.own xs):=by
  intro i xs e;unfold Z.start at e;by_cases hi:i<ds.n
  .rw[A37 (by calc hi),A07]at e;cases q:ds[i]? with
   |none=>rw[q]at e;ext e
   |some d=>rw[q]at e;ext e
  .rw[A45 (by calc hi),A52]at e;split at e<;>ext e
 let _z:∀(i:Nat) xs,(Z.start N.length ds)[i]?≠AC (AC<|.bor xs):=by
  intro i xs e;unfold Z.start at e;by_cases hi:i<ds.n
  .rw[A37 (by calc hi),A07]at e;cases q:ds[i]? with
   |none=>rw[q]at e;ext e
   |some d=>rw[q]at e;ext e
  .rw[A45 (by calc hi),A52]at e;split at e<;>ext e
 let _y:∀(i:Nat) ks,(Z.start N.length ds)[i]?≠AC (AC<|.dc ks):=by
  intro i ks e;unfold Z.start at e;by_cases hi:i<ds.n
  .rw[A37 (by calc hi),A07]at e;cases q:ds[i]? with
   |none=>rw[q]at e;ext e
   |some d=>rw[q]at e;ext e
  .rw[A45 (by calc hi),A52]at e;split at e<;>ext e
 let ψ:=t.n;show(av.refl H,(?_,λ i l e=>?_,λ i j xs ys q e1=>absurd e1<|Bp i xs,),λ i xs q e1=>absurd e1<|Bp i xs,λ i xs e1=>absurd e1<|_z i xs,iM.non _y,)
 .unfold Z.start L2.start;simp;lia
 .unfold Z.start at e;by_cases hi:i<ds.n
  .rw[A37 (by calc hi),A07]at e;cases q:ds[i]? with
   |none=>rw[q]at e;ext e
   |some d=>rw[q]at e;ext e;let(v,h1,h2):=t.get q;show(v,?_,h2,);unfold L2.start;rw[A37 (by simp;lia),A07,h1];rfl
  .rw[A45 (by calc hi),A52]at e;split at e<;>ext e
def fnZ{st:θ}(F:CJ K x qual st f fd)(S:aT N ps (aa st))
 (hb:∀ aU A outer s H E,bf k (A.deeper<|envOfC qual (aa st) s.heap.objs.size f aU) ->
  Om (dG iC P w K mg base N qual (aa st) f aU A outer s H E).fQ H (az st) b):fi P w K mg base iC (k+1) f fd ps (yU K<|Z.fn ps.length N.length b):=by
 let ψ:∀vs H Q E,yU K (Z.fn ps.length N.length b) vs H Q E->vs.n=ps.n:=by
  rintro vs H Q E ⟨ds,d,t,e,_⟩;unfold Z.fn at e;split at e
  .rename_i h;rw[t.n];show h
  .ext e
 show F.ok S ψ λ aU A outer s H vs Q E hr h=>(_,hb aU A outer s H E hr,?_,);let hl:=ψ vs H Q E h;let(ds,d,t,e,k):=h;let dX:ps.n<=N.n:=by let:=A13 List.length S.pre;rw[A32]at this;lia
 let rs:RS K H H _ (Z.start N.length ds):=qH t ∅;unfold Z.fn at e;split at e
 .cases eb:b (Z.start N.length ds)with
  |bad=>rw[eb]at e;ext e
  |ok fl=>
   rw[eb]at e;show(_,fl,rs,eb,?_,);cases fl with
   |rt d'=>ext e;show λ v H' s' dv=>k v H' s' dv
   |nx Y'=>ext e;show λ O' H' _ Fy=>k .non H' Fy.same kY
   |bk Y'=>ext e
   |ct Y'=>ext e
 .ext e
end
def Um(N N':U Str)(n:Nat)(is:U Nat)(sc Vn:ς):Bool:=
 (sc.kind==.function)&&sc.names.all (λ y=>y.2 != .cell)&&sc.names.all (λ y=>y.2 != .local||sc.names.lookup y.1==AC .local) &&
 sc.names.all (λ y=>y.2 != .free||Vn.names.lookup y.1==AC .cell||Vn.names.lookup y.1==AC .free)&&(N'.n==n+is.n) &&
 (FB is.n).all (λ j=>match is[j]?,N'[n+j]? with
  |some i,AC x=>N[i]?==AC x&&sc.names.lookup x==AC .free
  | _,_=>AT) &&
 (FB n).all (λ j=>match N'[j]? with
  |some x=>sc.names.lookup x==AC .local
  | none=>AT)
def v_.of(h:Um N N' n is sc Vn=Da):v_ N N' n is sc Vn:=by
 unfold Um at h;erw[A60,A35,A40,Bool.or_eq_true,bne_iff_ne,A33]at h;let((((((h1,h2),h3),h4),h5),h6),h7):=h;show(h1,h2,λ y hy e=>?_,λ y hy e=>?_,h5,λ j i e=>?_,λ j hj=>?_,)
 .rcases h3 y hy with q|q
  .exact absurd e q
  .exact q
 .rcases h4 y hy with(q|q)|q
  .exact absurd e q
  .exact .inl q
  .exact .inr q
 .let hj:=(A09.mp e).1;let q:=h6 j hj;rw[e]at q;cases r:N'[n+j]? with
  |none=>rw[r]at q;ext q
  |some x=>rw[r]at q;erw[A60,A40]at q;show(x,rfl,q.1,q.2,)
 .let q:=h7 j hj;cases r:N'[j]? with
  |none=>rw[r]at q;ext q
  |some x=>rw[r]at q;show(x,rfl,A40.mp q,)
structure Def(K:Db)(mg:Str->Option Value)(x:Str)(st:Stmt)(ps:List Str):Prop where
 ex:∃f fd,CJ K x x st f fd/\mg x=AC (.ref f)/\Binds K fd ps []
structure Av(P:Program)(w:World)(K:Db)(mg:Str->Option Value)(base:Heap)(x:Str)(k:Nat)(ps:List Str)(m:List Z.D->Z.Res Z.D):Prop where
 ex:∃g fd,fi P w K mg base iC k g fd ps (yU K m)/\mg x=AC (.ref g)/\Fa K (.ref g)=Da/\Binds K fd ps []
def Av.mk'{K:Db}{st:θ}(d:Def K mg x st ps)(S:aT N ps (aa st))
 (hb:∀ f aU A outer s H E,bf k (A.deeper<|envOfC x (aa st) s.heap.objs.size f aU) ->
  Om (dG iC P w K mg base N x (aa st) f aU A outer s H E).fQ H (az st) b):Av P w K mg base x (k+1) ps (Z.fn ps.length N.length b):=by
 let(f,fd,F,hm,v!):=d.ex;show(f,fd,fnZ F S<|hb f,hm,F.kp,v!,)
section
variable{X:Cx}{e:η}{es:U η}{pos:Pos}
def ZQ.dU(C:Av X.prog X.w X.K X.mg X.base x k ps m)(ha:ZQ.QA X (e::es) ar)(fG:Nd x:=by kernel_rfl)(he:Se e es X.J:=by rfl)(dX:Pn pos es X.J:=by rfl)(hr:bf k X.A:=by first|assumption|show L2.bf.mono (by assumption) (by first|decide|lia))(hg:Gl X x:=by rfl):ZQ.QE X (.Call (.Name x p1) (e::es) [] pos) (Z.ai m ar):=
 ⟨by let(_,_,F,hm,hk,hb):=C.ex;show Sa F hr hg hm hk hb ha.p fG he dX⟩
end
def ZQ.IZ(hm:∃t,X.mg x=AC (.int i t))(hb:Nd x:=by kernel_rfl)(hg:Gl X x:=by rfl):ZQ.QE X (.Name x pos) (Z.eI i):=
 ⟨let ⟨t,hm⟩:=hm;R? (v:=.int i) hg hm ⟨t,rfl⟩ (λ _=>b8) hb⟩
def Dq{K:Db}{ns:U Int}(hO:S3 H)(h:jO K H a (ns.map V.int)):Den K H (.lst<|ns.map Z.D.int) (.ref a):=by
 show z7 ?_<|au.zints ns;rcases h with(h|⟨o,h⟩)|h
 .rcases hO a with z|⟨o,xs,z⟩|⟨q,z⟩
  .rw[h]at z;ext z
  .rw[h]at z;ext z
  .rw[h]at z;ext z
 .exact .inl ⟨o,h⟩
 .exact .inr h
def V_{K:Db}{ns:U Int}(hO:S3 H)(h:jO K H a (ns.map V.int))(e:m [.lst (ns.map .int)]=.ok (.bl Da)):yU K m [.ref a] H (λ v _=>v=.bl Da) λ _ _ _=>False:=
 ⟨_,_,au.cons (Dq hO h) au.nil,e,λ v H' _ d=>by simpa only[Den]using d⟩
section
variable{X:Cx}{e a b:η}{pos:Pos}{f fa fb:Z.EF}
def A3(x y:U Nat):((⟨x.q⟩)==(⟨y.q⟩:Str))=(x==y):=by
 rw[A65,A40,A40];constructor
 .intro h;injection h with h;simpa using h
 .rintro rfl;rfl
def nM{α:Type}{p:Prop}{x:α}(h:Ch=AC x):p:=by ext h
def rcS{K:Db}(h:Z.eqS d1 d2=AC k)(h1:bz K H d1 v1)(h2:bz K H d2 v2)(r1:RelV v1 u1)(r2:RelV v2 u2):bv A s u1 u2 k/\SZ A s u1 u2 k/\WF A s u1 u2 (!k):=by
 cases d1 with
 |non=>
  rw[h1.non]at r1;ext r1;cases d2 with
  |non=>obtain rfl:=f8 h;rw[h2.non]at r2;ext r2;show(SeqAt.RcAt.none_none,C03 _,SeqAt.RcNeAt.none_none,)
  |bl=>obtain rfl:=f8 h;rw[h2.bl]at r2;ext r2;show(SeqAt.RcAt.none_bool _,SeqAt.EqAt.none_bool _,SeqAt.RcNeAt.none_bool _,)
  |int=>obtain rfl:=f8 h;rw[h2.int]at r2;let(t2,rfl):=r2;show(SeqAt.RcAt.none_int _ _,SeqAt.EqAt.none_int _ _,SeqAt.RcNeAt.none_int _ _,)
  |str=>obtain rfl:=f8 h;rw[h2.str]at r2;let(t2,rfl):=r2;show(SeqAt.RcAt.none_str _ _,SeqAt.EqAt.none_str _ _,SeqAt.RcNeAt.none_str _ _,)
  |_=>show nM h
 |bl=>
  rw[h1.bl]at r1;ext r1;cases d2 with
  |non=>obtain rfl:=f8 h;rw[h2.non]at r2;ext r2;show(SeqAt.RcAt.bool_none _,SeqAt.EqAt.bool_none _,SeqAt.RcNeAt.bool_none _,)
  |bl=>obtain rfl:=f8 h;rw[h2.bl]at r2;ext r2;show(SeqAt.RcAt.bool_bool _ _,SeqAt.EqAt.bool_bool _ _,SeqAt.RcNeAt.bool_bool _ _,)
  |int=>obtain rfl:=f8 h;rw[h2.int]at r2;let(t2,rfl):=r2;show(SeqAt.RcAt.bool_int _ _ _,SeqAt.EqAt.bool_int _ _ _,SeqAt.RcNeAt.bool_int _ _ _,)
  |str=>obtain rfl:=f8 h;rw[h2.str]at r2;let(t2,rfl):=r2;show(SeqAt.RcAt.bool_str _ _ _,SeqAt.EqAt.bool_str _ _ _,SeqAt.RcNeAt.bool_str _ _ _,)
  |_=>show nM h
 |int=>
  rw[h1.int]at r1;let(t1,rfl):=r1;cases d2 with
  |non=>obtain rfl:=f8 h;rw[h2.non]at r2;ext r2;show(SeqAt.RcAt.int_none _ _,SeqAt.EqAt.int_none _ _,SeqAt.RcNeAt.int_none _ _,)
  |bl=>obtain rfl:=f8 h;rw[h2.bl]at r2;ext r2;show(SeqAt.RcAt.int_bool _ _ _,SeqAt.EqAt.int_bool _ _ _,SeqAt.RcNeAt.int_bool _ _ _,)
  |int=>obtain rfl:=f8 h;rw[h2.int]at r2;let(t2,rfl):=r2;show(SeqAt.RcAt.int_int _ _ _ _,SeqAt.EqAt.int_int _ _ _ _,SeqAt.RcNeAt.int_int _ _ _ _,)
  |str=>obtain rfl:=f8 h;rw[h2.str]at r2;let(t2,rfl):=r2;show(SeqAt.RcAt.int_str _ _ _ _,SeqAt.EqAt.int_str _ _ _ _,SeqAt.RcNeAt.int_str _ _ _ _,)
  |_=>show nM h
 |str=>
  rw[h1.str]at r1;let(t1,rfl):=r1;cases d2 with
  |non=>obtain rfl:=f8 h;rw[h2.non]at r2;ext r2;show(SeqAt.RcAt.str_none _ _,SeqAt.EqAt.str_none _ _,SeqAt.RcNeAt.str_none _ _,)
  |bl=>obtain rfl:=f8 h;rw[h2.bl]at r2;ext r2;show(SeqAt.RcAt.str_bool _ _ _,SeqAt.EqAt.str_bool _ _ _,SeqAt.RcNeAt.str_bool _ _ _,)
  |int=>obtain rfl:=f8 h;rw[h2.int]at r2;let(t2,rfl):=r2;show(SeqAt.RcAt.str_int _ _ _ _,SeqAt.EqAt.str_int _ _ _ _,SeqAt.RcNeAt.str_int _ _ _ _,)
  |str=>obtain rfl:=f8 h;rw[h2.str]at r2;let(t2,rfl):=r2;rw[<-A3];show(SeqAt.RcAt.str_str _ _ _ _,SeqAt.EqAt.str_str _ _ _ _,SeqAt.RcNeAt.str_str _ _ _ _,)
  |_=>show nM h
 |_=>show nM h
def Og(g:Z.D->Z.D->ε Bool)(as bs:U Z.D)(j:Nat):Bool:=match as[j]?,bs[j]? with
|some x,AC y=>(g x y).getD AT
|_,_=>Da
def mI:∀{as bs}{k},Z.allEq g as bs=AC k->k=((FB<|min as.length bs.n).all (Og g as bs)&&as.n == bs.n)/\∀j x y,as[j]?=AC x->bs[j]?=AC y->g x y=AC (Og g as bs j)
|[],[],k,h=>by ext h;show⟨rfl,λ j x y e=>by simp at e⟩
|[],_::_,k,h=>by ext h;show⟨by simp,λ j x y e=>by simp at e⟩
|_::_,[],k,h=>by ext h;show⟨by simp,λ j x y _ e=>by simp at e⟩
|a::as,b::bs,k,h=>by
 unfold Z.allEq at h;split at h
 .rename_i p q e1 e2;ext h;let(h1,h2):=mI e2;show(?_,λ j x y ex ey=>?_,)
  .let:min (a::as).length (b::bs).length=min as.length bs.n+1:=by erw[A22];lia
   rw[this,C48,C04,B59,h1];let e0:Og g (a::as) (b::bs) 0=p:=by simp[Og,e1]
   let es:(Og g (a::as) (b::bs)∘Nat.succ)=Og g as bs:=by funext j;simp[Og]
   let el:((a::as).length==(b::bs).length)=(as.n==bs.n):=by rw[A65];simp
   rw[e0,es,el,AE2]
  .cases j with
   |zero=>simp at ex ey;subst ex ey;simp[Og,e1]
   |succ j=>let:=h2 j x y (by calc ex) (by calc ey);simpa[Og]using this
 .ext h
def BJ(I:Inv X B O H s)(n:Nat)(hu:A.units+n<cLine)
 (ih:∀ {A}{d1 d2}{v1 v2}{u1 u2}{k},A.units+n<cLine->Z.iI n d1 d2=AC k->bz X.K H d1 v1->bz X.K H d2 v2->RelV v1 u1->RelV v2 u2->bv A s u1 u2 k/\SZ A s u1 u2 k/\WF A s u1 u2 (!k))
  (hk:Z.allEq (Z.iI n) as bs=AC k) (ta:au X.K H as vs) (tb:au X.K H bs ws) (ra:Vals vs a6) (rb:Vals ws iw) :
  ∀j h1 (h2:j<iw.q.u),SZ A s a6.toArray[j] iw.toArray[j] (Og (Z.iI n) as bs j):=by
 intro j hj1 hj2;let la:=ta.n;let lb:=tb.n;let ra':=ra.n;let rb':=rb.n;erw[A12]at hj1 hj2;obtain⟨x,ex⟩:∃x,as[j]?=AC x:=(as[j]'∅,A05 ∅,)
 obtain⟨y,ey⟩:∃y,bs[j]?=AC y:=(bs[j]'∅,A05 ∅,)
 let(vx,evx,dx):=ta.get ex;let(vy,Ue,dy):=tb.get ey;let(ux,eux,rx):=ra.get evx;let(uy,euy,ry):=rb.get Ue;let e1:a6.toArray[j]=ux:=by let:=A05 hj1;rw[eux]at this;simpa using(f8 this).symm
 let e2:iw.toArray[j]=uy:=by let:=A05 hj2;rw[euy]at this;simpa using(f8 this).symm
 rw[e1,e2];show(ih hu ((mI hk).2 j x y ex ey) (.inl dx) (.inl dy) rx ry).2.1
def Mx{K:Db}(h:Z.eqS d1 d2=AC k)(h1:bz K H d1 v)(h2:bz K H d2 v):k=Da:=by
 cases d1 with
 |non=>
  let e:=h1.non;cases d2 with
  |non=>show(f8 h).symm
  |bl=>cases e.symm.trans h2.bl
  |int=>cases e.symm.trans h2.int
  |str=>cases e.symm.trans h2.str
  |_=>show nM h
 |bl=>
  let e:=h1.bl;cases d2 with
  |non=>cases e.symm.trans h2.non
  |bl=>let e:=e.symm.trans h2.bl;injection e with e;rw[<-f8 h,e];show A54 _
  |int=>cases e.symm.trans h2.int
  |str=>cases e.symm.trans h2.str
  |_=>show nM h
 |int=>
  let e:=h1.int;cases d2 with
  |non=>cases e.symm.trans h2.non
  |bl=>cases e.symm.trans h2.bl
  |int=>let e:=e.symm.trans h2.int;injection e with e;rw[<-f8 h,e];show A54 _
  |str=>cases e.symm.trans h2.str
  |_=>show nM h
 |str=>
  let e:=h1.str;cases d2 with
  |non=>cases e.symm.trans h2.non
  |bl=>cases e.symm.trans h2.bl
  |int=>cases e.symm.trans h2.int
  |str=>let e:=e.symm.trans h2.str;injection e with e;rw[<-f8 h,<-A3,e];show A54 _
  |_=>show nM h
 |_=>show nM h
def uT{K:Db}(ih:∀{d1 d2}{v}{k},Z.iI n d1 d2=AC k->bz K H d1 v->bz K H d2 v->k=Da)(h:Z.allEq (Z.iI n) as bs=AC k)(ta:au K H as vs)(tb:au K H bs vs):k=Da:=by
 let(h1,h2):=mI h;let la:=ta.n;let lb:=tb.n;rw[h1,show(as.n==bs.n)=Da by simp;lia,AE6,A35];intro j hj;rw[A33]at hj;obtain⟨x,ex⟩:∃x,as[j]?=AC x:=(as[j]'∅,A05 ∅,)
 obtain⟨y,ey⟩:∃y,bs[j]?=AC y:=(bs[j]'∅,A05 ∅,)
 let(vx,evx,dx):=ta.get ex;let(vy,Ue,dy):=tb.get ey;rw[evx]at Ue;ext Ue;show ih (h2 j x y ex ey) (.inl dx)<|.inl dy
def y?{a:δ}(I:Inv X B O H s)(h:nj X.K H a xs)(h':jO X.K H a ys):False:=by let(a6,r,(o,e,c,n,d),_):=I.tuple h;let(BI,r',(o',n',e',c',_),_):=I.list h';rw[e]at e';ext e';rw[c]at c';injection c' with z;show absurd z ∅
def sq:Z.D->Bool
|.tup _=>Da
|.lst _=>Da
|_=>AT
def dc:Z.D->Bool
|.dct _ _=>Da
|_=>AT
def My(n:Nat)(h:(sq d1=AT/\sq d2=AT)\/dc d1=Da\/dc d2=Da):Z.iI n d1 d2=Z.eqS d1 d2:=by ext d1<;>ext d2<;>ext n<;>first|rfl|(simp[sq,dc]at h)
def II(I:Inv X B O H s)(n:Nat)(ih:∀m,m<n->∀{d1 d2}{v}{k},Z.iI m d1 d2=AC k->bz X.K H d1 v->bz X.K H d2 v->k=Da)(h:Z.iI n d1 d2=AC k)(h1:bz X.K H d1 v)(h2:bz X.K H d2 v):k=Da:=by
 ext d1<;>ext d2
 case tup.tup=>
  cases n with
  |zero=>ext h
  |succ n=>let(_,_,e,q,ta):=h1.tup;let(_,_,e',q',tb):=h2.tup;rw[e]at e';ext e';let:=I.qE q q';subst this;show uT (ih n<|A66 n) h ta tb
 case tup.lst=>let(_,_,e,q,_):=h1.tup;let(_,_,e',q',_):=h2.lst;rw[e]at e';ext e';show(y? I q q').elim
 case lst.tup=>let(_,_,e,q,_):=h1.lst;let(_,_,e',q',_):=h2.tup;rw[e]at e';ext e';show(y? I q' q).elim
 case lst.lst=>
  cases n with
  |zero=>ext h
  |succ n=>let(_,_,e,q,ta):=h1.lst;let(_,_,e',q',tb):=h2.lst;rw[e]at e';ext e';let:=I.pU q q';subst this;show uT (ih n<|A66 n) h ta tb
 all_goals try (show Mx ((My n ?_).symm.trans h) h1 h2;simp[sq,dc];done)
 all_goals first|(let(_,_,e,_):=h2.tup;rw[e]at h1)|(let(_,_,e,_):=h2.lst;rw[e]at h1)|(let(_,_,e,_):=h1.tup;rw[e]at h2)|(let(_,_,e,_):=h1.lst;rw[e]at h2)
 all_goals first|cases h1.non|cases h1.bl|cases h1.int|cases h1.str|cases h2.non|cases h2.bl|cases h2.int|cases h2.str
def Ce(I:Inv X B O H s)(n:Nat):∀{d1 d2}{v}{k},Z.iI n d1 d2=AC k->bz X.K H d1 v->bz X.K H d2 v->k=Da:=by
 induction n using Nat.strongRecOn with
 |_ n ih=>show II I n ih
def ad2(I:Inv X B O H s)(n:Nat)(ih:∀m,m<n->∀{A}{d1 d2}{v1 v2}{u1 u2}{k},A.units+m<cLine->Z.iI m d1 d2=AC k->bz X.K H d1 v1->bz X.K H d2 v2->RelV v1 u1->RelV v2 u2->bv A s u1 u2 k/\SZ A s u1 u2 k/\WF A s u1 u2 (!k))(hu:A.units+n<cLine)(h:Z.iI n d1 d2=AC k)(h1:bz X.K H d1 v1)(h2:bz X.K H d2 v2)(r1:RelV v1 u1)(r2:RelV v2 u2):
 bv A s u1 u2 k/\SZ A s u1 u2 k/\WF A s u1 u2 (!k):=by
 let gA:A.units<cLine:=by lia
 let wu:∀{ds}{v}{u},bz X.K H (.tup ds) v->RelV v u->∃q a6,u=.ref q/\s.heap.IsTuple q a6:=λ hd rv=>by let(q,vs,rfl,hq,_):=hd.tup;ext rv;let(a6,_,p,_):=I.tuple hq;show(q,a6.q,rfl,p,)
 let wJ:∀{ds}{v}{u},bz X.K H (.lst ds) v->RelV v u->∃q a6,u=.ref q/\s.heap.IsList q a6:=λ hd rv=>by let(q,vs,rfl,hq,_):=hd.lst;ext rv;let(a6,_,p,_):=I.list hq;show(q,a6.q,rfl,p.x,)
 ext d1<;>ext d2
 case non.tup=>
  obtain rfl:k=AT:=by ext n<;>ext h<;>rfl
  rw[h1.non]at r1;ext r1;let(q2,iw,rfl,p2):=wu h2 r2;show(SeqAt.RcAt.none_tuple p2 gA,SeqAt.EqAt.none_tuple p2 gA,SeqAt.RcNeAt.none_tuple p2 gA,)
 case non.lst=>
  obtain rfl:k=AT:=by ext n<;>ext h<;>rfl
  rw[h1.non]at r1;ext r1;let(q2,iw,rfl,p2):=wJ h2 r2;show(SeqAt.RcAt.none_list p2 gA,SeqAt.EqAt.none_list p2 gA,SeqAt.RcNeAt.none_list p2 gA,)
 case bl.tup=>
  obtain rfl:k=AT:=by ext n<;>ext h<;>rfl
  rw[h1.bl]at r1;ext r1;let(q2,iw,rfl,p2):=wu h2 r2;show(SeqAt.RcAt.bool_tuple _ p2 gA,SeqAt.EqAt.bool_tuple _ p2 gA,SeqAt.RcNeAt.bool_tuple _ p2 gA,)
 case bl.lst=>
  obtain rfl:k=AT:=by ext n<;>ext h<;>rfl
  rw[h1.bl]at r1;ext r1;let(q2,iw,rfl,p2):=wJ h2 r2;show(SeqAt.RcAt.bool_list _ p2 gA,SeqAt.EqAt.bool_list _ p2 gA,SeqAt.RcNeAt.bool_list _ p2 gA,)
 case int.tup=>
  obtain rfl:k=AT:=by ext n<;>ext h<;>rfl
  rw[h1.int]at r1;let(t1,rfl):=r1;let(q2,iw,rfl,p2):=wu h2 r2;show(SeqAt.RcAt.int_tuple _ _ p2 gA,SeqAt.EqAt.int_tuple _ _ p2 gA,SeqAt.RcNeAt.int_tuple _ _ p2 gA,)
 case int.lst=>
  obtain rfl:k=AT:=by ext n<;>ext h<;>rfl
  rw[h1.int]at r1;let(t1,rfl):=r1;let(q2,iw,rfl,p2):=wJ h2 r2;show(SeqAt.RcAt.int_list _ _ p2 gA,SeqAt.EqAt.int_list _ _ p2 gA,SeqAt.RcNeAt.int_list _ _ p2 gA,)
 case str.tup=>
  obtain rfl:k=AT:=by ext n<;>ext h<;>rfl
  rw[h1.str]at r1;let(t1,rfl):=r1;let(q2,iw,rfl,p2):=wu h2 r2;show(SeqAt.RcAt.str_tuple _ _ p2 gA,SeqAt.EqAt.str_tuple _ _ p2 gA,SeqAt.RcNeAt.str_tuple _ _ p2 gA,)
 case str.lst=>
  obtain rfl:k=AT:=by ext n<;>ext h<;>rfl
  rw[h1.str]at r1;let(t1,rfl):=r1;let(q2,iw,rfl,p2):=wJ h2 r2;show(SeqAt.RcAt.str_list _ _ p2 gA,SeqAt.EqAt.str_list _ _ p2 gA,SeqAt.RcNeAt.str_list _ _ p2 gA,)
 case tup.non=>
  obtain rfl:k=AT:=by ext n<;>ext h<;>rfl
  let(q1,zE,rfl,p1):=wu h1 r1;rw[h2.non]at r2;ext r2;show(SeqAt.RcAt.tuple_none p1 gA,SeqAt.EqAt.tuple_none p1 gA,SeqAt.RcNeAt.tuple_none p1 gA,)
 case tup.bl=>
  obtain rfl:k=AT:=by ext n<;>ext h<;>rfl
  let(q1,zE,rfl,p1):=wu h1 r1;rw[h2.bl]at r2;ext r2;show(SeqAt.RcAt.tuple_bool _ p1 gA,SeqAt.EqAt.tuple_bool _ p1 gA,SeqAt.RcNeAt.tuple_bool _ p1 gA,)
 case tup.int=>
  obtain rfl:k=AT:=by ext n<;>ext h<;>rfl
  let(q1,zE,rfl,p1):=wu h1 r1;rw[h2.int]at r2;let(t2,rfl):=r2;show(SeqAt.RcAt.tuple_int _ _ p1 gA,SeqAt.EqAt.tuple_int _ _ p1 gA,SeqAt.RcNeAt.tuple_int _ _ p1 gA,)
 case tup.str=>
  obtain rfl:k=AT:=by ext n<;>ext h<;>rfl
  let(q1,zE,rfl,p1):=wu h1 r1;rw[h2.str]at r2;let(t2,rfl):=r2;show(SeqAt.RcAt.tuple_str _ _ p1 gA,SeqAt.EqAt.tuple_str _ _ p1 gA,SeqAt.RcNeAt.tuple_str _ _ p1 gA,)
 case tup.lst=>
  obtain rfl:k=AT:=by ext n<;>ext h<;>rfl
  let(q1,zE,rfl,p1):=wu h1 r1;let(q2,iw,rfl,p2):=wJ h2 r2;show(SeqAt.RcAt.tuple_list p1 p2 gA,SeqAt.EqAt.tuple_list p1 p2 gA,SeqAt.RcNeAt.tuple_list p1 p2 gA,)
 case lst.non=>
  obtain rfl:k=AT:=by ext n<;>ext h<;>rfl
  let(q1,zE,rfl,p1):=wJ h1 r1;rw[h2.non]at r2;ext r2;show(SeqAt.RcAt.list_none p1 gA,SeqAt.EqAt.list_none p1 gA,SeqAt.RcNeAt.list_none p1 gA,)
 case lst.bl=>
  obtain rfl:k=AT:=by ext n<;>ext h<;>rfl
  let(q1,zE,rfl,p1):=wJ h1 r1;rw[h2.bl]at r2;ext r2;show(SeqAt.RcAt.list_bool _ p1 gA,SeqAt.EqAt.list_bool _ p1 gA,SeqAt.RcNeAt.list_bool _ p1 gA,)
 case lst.int=>
  obtain rfl:k=AT:=by ext n<;>ext h<;>rfl
  let(q1,zE,rfl,p1):=wJ h1 r1;rw[h2.int]at r2;let(t2,rfl):=r2;show(SeqAt.RcAt.list_int _ _ p1 gA,SeqAt.EqAt.list_int _ _ p1 gA,SeqAt.RcNeAt.list_int _ _ p1 gA,)
 case lst.str=>
  obtain rfl:k=AT:=by ext n<;>ext h<;>rfl
  let(q1,zE,rfl,p1):=wJ h1 r1;rw[h2.str]at r2;let(t2,rfl):=r2;show(SeqAt.RcAt.list_str _ _ p1 gA,SeqAt.EqAt.list_str _ _ p1 gA,SeqAt.RcNeAt.list_str _ _ p1 gA,)
 case lst.tup=>
  obtain rfl:k=AT:=by ext n<;>ext h<;>rfl
  let(q1,zE,rfl,p1):=wJ h1 r1;let(q2,iw,rfl,p2):=wu h2 r2;show(SeqAt.RcAt.list_tuple p1 p2 gA,SeqAt.EqAt.list_tuple p1 p2 gA,SeqAt.RcNeAt.list_tuple p1 p2 gA,)
 case tup.tup as bs=>
  cases n with
  |zero=>ext h
  |succ n=>
   let hk:=h;let hs:=λ(z:v1=v2)=>Ce I (n+1) (d1:=.tup as) (d2:=.tup bs) (v:=v1) h h1<|z▸h2;let(q,vs,rfl,hq,ta):=h1.tup;let(q',ws,rfl,eJ,tb):=h2.tup;ext r1 r2;let(a6,ra,pa,_):=I.tuple hq;let(iw,rb,pb,_):=I.tuple eJ;let hi:=BJ I n (A:=A.in1) (show A.units+1+n<cLine by lia) (ih n<|A66 n) hk ta tb ra rb;let e:=(mI hk).1;let la:=ta.n;let lb:=tb.n;let ra':=ra.n;let rb':=rb.n;let t1:=SeqAt.RcAt.tuples (s:=s) (A:=A) (pa) (pb) gA hi;let t2:=SeqAt.RcNeAt.tuples (s:=s) (A:=A) (pa) (pb) gA hi;erw[A12]at t1 t2;rw[<-ra',<-rb',la,lb,<-e]at t1 t2;show(t1,?_,t2,);by_cases hqq:q=q'
   .subst hqq;rw[hs rfl];show C03 _
   .exact SeqAt.EqAt.of_refs hqq t1
 case lst.lst as bs=>
  cases n with
  |zero=>ext h
  |succ n=>
   let hk:=h;let hs:=λ(z:v1=v2)=>Ce I (n+1) (d1:=.lst as) (d2:=.lst bs) (v:=v1) h h1<|z▸h2;let(q,vs,rfl,hq,ta):=h1.lst;let(q',ws,rfl,eJ,tb):=h2.lst;ext r1 r2;let(a6,ra,pa,_):=I.list hq;let(iw,rb,pb,_):=I.list eJ;let e:=(mI hk).1;let la:=ta.n;let lb:=tb.n;let ra':=ra.n;let rb':=rb.n;let t:bv A s (.ref q) (.ref q') k/\WF A s (.ref q) (.ref q') (!k):=by
    by_cases ψ:as.n=bs.n
    .let hi:=BJ I n (A:=A.in1) (show A.units+1+n<cLine by lia) (ih n<|A66 n) hk ta tb ra rb;let t1:=SeqAt.RcAt.lists (s:=s) (A:=A) pa.isList pb.isList (by erw[A12];lia) gA hi;let t2:=SeqAt.RcNeAt.lists (s:=s) (A:=A) pa.isList pb.isList (by erw[A12];lia) gA hi;erw[A12]at t1 t2;rw[<-ra',la]at t1 t2;rw[ψ,Nat.min_self,A54,AE6,<-ψ]at e;rw[<-e]at t1 t2;show(t1,t2,)
    .let:(as.n==bs.n)=AT:=by simpa using ψ
     rw[this,B97]at e;subst e;show(SeqAt.RcAt.lists_lengths pa.isList pb.isList (by erw[A12,bne_iff_ne,ne_eq];lia) gA,SeqAt.RcNeAt.lists_lengths pa.isList pb.isList (by erw[A12,bne_iff_ne,ne_eq];lia) gA,)
   show(t.1,?_,t.2,);by_cases hqq:q=q'
   .subst hqq;rw[hs rfl];show C03 _
   .exact SeqAt.EqAt.of_refs hqq t.1
 all_goals (show rcS ((My n ?_).symm.trans h) h1 h2 r1 r2;simp[sq,dc])
def ZV(I:Inv X B O H s)(n:Nat):∀{A}{d1 d2}{v1 v2}{u1 u2}{k},A.units+n<cLine->Z.iI n d1 d2=AC k->bz X.K H d1 v1->bz X.K H d2 v2->RelV v1 u1->RelV v2 u2->bv A s u1 u2 k/\SZ A s u1 u2 k/\WF A s u1 u2 (!k):=by
 induction n using Nat.strongRecOn with
 |_ n ih=>show ad2 I n ih
def xh(hu:X.A.units+64<cLine):Au X .Eq Z.oEq:=by
 let ho:jx X (compareOp .Eq) (λ x y H Q=>∃d1 d2 k,bz X.K H d1 x/\bz X.K H d2 y/\Z.lQ d1 d2=AC k/\Q (.bl k) H):=by intro B s O H x y v u Q I rx ry h;let(d1,d2,k,h1,h2,e,q):=h;show(ZV I 6 ∅ e h1 h2 rx ry).1 _ X.w X.xe _ ⟨.bl k,H,I,rfl,q⟩
 show⟨_,ho,λ x y dx dy d H Q h1 h2 e k=>by
  unfold Z.oEq at e;split at e
  .rename_i z hz;ext e;show(dx,dy,z,h1,h2,hz,k _ H (av.refl H) cx,)
  .ext e⟩
def xg(hu:X.A.units+64<cLine):Au X .NotEq Z.o!:=by
 let ho:jx X (compareOp .NotEq) (λ x y H Q=>∃d1 d2 k,bz X.K H d1 x/\bz X.K H d2 y/\Z.lQ d1 d2=AC k/\Q (.bl<|!k) H):=by intro B s O H x y v u Q I rx ry h;let(d1,d2,k,h1,h2,e,q):=h;show(ZV I 6 ∅ e h1 h2 rx ry).2.2 _ X.w X.xe _ ⟨.bl<|!k,H,I,rfl,q⟩
 show⟨_,ho,λ x y dx dy d H Q h1 h2 e k=>by
  unfold Z.o! at e;split at e
  .rename_i z hz;ext e;show(dx,dy,z,h1,h2,hz,k _ H (av.refl H) cx,)
  .ext e⟩
def LU:∀{a b},Ih a=Ih b->a=b
|.inl a,.inl b,h=>by injection h with h;rw[h]
|.inl _,.inr _,h=>by ext h
|.inr _,.inl _,h=>by ext h
|.inr a,.inr b,h=>by
 injection h with h
 injection h with h
 let:a=b:=by simpa using A13 ZB h
 rw[this]
def xX:∀{a b:U _},a.map Ih=b.map Ih->a=b
|[],[],_=>rfl
|[],_::_,h=>by ext h
|_::_,[],h=>by ext h
|a::as,b::bs,h=>by erw[A06,B37]at h;rw[LU h.1,xX h.2]
def Gz{a:δ}(I:Inv X B O H s)(hq:H a=AC (.eu o<|.dK aG)):∃o',s.heap.get? a=AC o'/\o'.cls=.type "dict":=by
 obtain⟨_,_,_,_,_,o',es,ep,h1,h2,_⟩:=(I.bN a _ hq)
 show(o',h1,h2.1,)
def Kq{a:δ}(I:Inv X B O H s)(h:nj X.K H a xs)(h':H a=AC (.eu o<|.dK aG)):False:=by let(a6,r,(o1,e,c,n,d),_):=I.tuple h;let(o2,e',c'):=Gz I h';rw[e]at e';ext e';rw[c]at c';injection c' with z;show absurd z ∅
def Kr{a:δ}(I:Inv X B O H s)(h:jO X.K H a xs)(h':H a=AC (.eu o<|.dK aG)):False:=by let(a6,r,(o1,n,e,c,_),_):=I.list h;let(o2,e',c'):=Gz I h';rw[e]at e';ext e';rw[c]at c';injection c' with z;show absurd z ∅
mutual
theorem Den.inj{B:U (δ×μ)}{O:St}{H:Hp}{s:ι}(I:Inv X B O H s):∀(d1 d2:Z.D)(v:V),Den X.K H d1 v->Den X.K H d2 v->d1=d2
|.non,d2,v,h1,h2=>by
 erw[Den]at h1;subst h1;ext d2<;>erw[Den]at h2<;>first|rfl|(ext h2;done)|skip
 case tup=>let(_,_,e,_):=h2;ext e
 case lst=>let(_,_,e,_):=h2;ext e
 case dct=>let(_,_,_,e,_):=h2;ext e
|.bl b,d2,v,h1,h2=>by
 erw[Den]at h1;subst h1;ext d2<;>erw[Den]at h2<;>first|(injection h2 with h2;rw[h2])|(ext h2;done)|skip
 case tup=>let(_,_,e,_):=h2;ext e
 case lst=>let(_,_,e,_):=h2;ext e
 case dct=>let(_,_,_,e,_):=h2;ext e
|.int i,d2,v,h1,h2=>by
 erw[Den]at h1;subst h1;ext d2<;>erw[Den]at h2<;>first|(injection h2 with h2;rw[h2])|(ext h2;done)|skip
 case tup=>let(_,_,e,_):=h2;ext e
 case lst=>let(_,_,e,_):=h2;ext e
 case dct=>let(_,_,_,e,_):=h2;ext e
|.str cs,d2,v,h1,h2=>by
 erw[Den]at h1;subst h1;ext d2<;>erw[Den]at h2<;>first|(injection h2 with h2;injection h2 with h2;let:=A13 ZB h2;simp at this;rw[this])|(ext h2;done)|skip
 case tup=>let(_,_,e,_):=h2;ext e
 case lst=>let(_,_,e,_):=h2;ext e
 case dct=>let(_,_,_,e,_):=h2;ext e
|.tup ds,d2,v,h1,h2=>by
 erw[Den]at h1;let(a,vs,rfl,q,t):=h1;ext d2<;>erw[Den]at h2
 case tup es=>let(a',Ao,e,q',t'):=h2;ext e;rw[I.qE q' q]at t';rw[au.inj I ds es vs t t']
 case lst es=>let(a',Ao,e,q',t'):=h2;ext e;show(y? I q q'.sq).elim
 case dct ks es=>let(a',o,aG,e,q',_):=h2;ext e;show(Kq I q q').elim
 all_goals ext h2
|.lst ds,d2,v,h1,h2=>by
 erw[Den]at h1;let(a,vs,rfl,q,t):=h1;ext d2<;>erw[Den]at h2
 case lst es=>let(a',Ao,e,q',t'):=h2;ext e;rw[I.pU q'.sq q.sq]at t';rw[au.inj I ds es vs t t']
 case tup es=>let(a',Ao,e,q',t'):=h2;ext e;show(y? I q' q.sq).elim
 case dct ks es=>let(a',o,aG,e,q',_):=h2;ext e;show(Kr I q.sq q').elim
 all_goals ext h2
|.dct ks ds,d2,v,h1,h2=>by
 erw[Den]at h1;let(a,o,aG,rfl,q,hk,t,_):=h1;ext d2<;>erw[Den]at h2
 case lst es=>let(a',Ao,e,q',t'):=h2;ext e;show(Kr I q'.sq q).elim
 case tup es=>let(a',Ao,e,q',t'):=h2;ext e;show(Kq I q' q).elim
 case dct s_ es=>let(a',o',ajx,e,q',YQ,t',_):=h2;ext e;rw[q]at q';ext q';rw[au.inj I ds es _ t t',xX<|hk.symm.trans YQ]
 all_goals ext h2
theorem au.inj{B:U (δ×μ)}{O:St}{H:Hp}{s:ι}(I:Inv X B O H s):∀(d1 d2:U Z.D)(v:U V),au X.K H d1 v->au X.K H d2 v->d1=d2
|[],d2,v,h1,h2=>by
 erw[au]at h1;subst h1;cases d2 with
 |nil=>rfl
 |cons d ds=>erw[au]at h2;let(_,_,e,_):=h2;ext e
|d::ds,d2,v,h1,h2=>by
 erw[au]at h1;let(u,r,rfl,q,t):=h1;cases d2 with
 |nil=>erw[au]at h2;ext h2
 |cons d' ds'=>erw[au]at h2;let(u',r',e,q',t'):=h2;ext e;rw[Den.inj I d d' u q q',au.inj I ds ds' r t t']
end
def vO:∀{ys}{k},Z.gU x ys=AC k->k=ys.any (λ y=>(Z.lQ y x).getD AT)/\∀y∈ys,Z.lQ y x=AC ((Z.lQ y x).getD AT)
|[],k,h=>by ext h;show⟨rfl,λ y hy=>by ext hy⟩
|y::ys,k,h=>by
 unfold Z.gU at h;split at h
 .rename_i a b ea eb;ext h;let(h1,h2):=vO eb;show⟨by rw[A96,ea,h1];rfl,λ z hz=>?_⟩;rcases A01.mp hz with rfl|hz
  .rw[ea];rfl
  .exact h2 z hz
 .ext h
def zH(I:Inv X B O H s)(hu:A.units+60<cLine)(hx:bz X.K H x v)(rx:RelV v u):∀{ys}{vs}{us},au X.K H ys vs->Vals vs us->(∀y∈ys,Z.lQ y x=AC ((Z.lQ y x).getD AT)) ->
 ∃e,(∀w∈us,SZ A s w u (e w))/\us.any e=ys.any (λ y=>(Z.lQ y x).getD AT):=by
 intro ys vs us;let key:∀{ys}{vs}{us},au X.K H ys vs->Vals vs us->(∀y∈ys,Z.lQ y x=AC ((Z.lQ y x).getD AT))->(∀w∈us,∃b,SZ A s w u b)/\∀e,(∀w∈us,∀y vy,Den X.K H y vy->RelV vy w->y∈ys->e w=(Z.lQ y x).getD AT)->us.any e=ys.any (λ y=>(Z.lQ y x).getD AT):=by
  intro ys
  induction ys with
  |nil=>intro vs us t r _;erw[au]at t;subst t;ext r;show(λ w hw=>(by ext hw),λ _ _=>rfl,)
  |cons y ys ih=>
   intro vs us t r hh;erw[au]at t;let(vy,vr,rfl,dy,tr):=t;cases r with
   |cons ry rr=>
    let(h1,h2):=ih tr rr (λ z hz=>hh z<|A08 _ hz);show(λ w hw=>?_,λ e he=>?_,)
    .rcases A01.mp hw with rfl|hw
     .exact⟨_,(ZV I 6 ∅ (hh y A10) (.inl dy) hx ry rx).2.1⟩
     .exact h1 w hw
    .rw[A96,A96,he _ A10 y vy dy ry A10,h2 e λ w hw z vz dz rz hz=>he w (A08 _ hw) z vz dz rz<|A08 _ hz]
 intro t r hh
 classical
 refine_lift let e:=λ w=>if h:∃y vy,Den X.K H y vy/\RelV vy w/\y∈ys then(Z.lQ h.choose x).getD AT else AT;?_
 let he:∀w y vy,Den X.K H y vy->RelV vy w->y∈ys->e w=(Z.lQ y x).getD AT:=by
  intro w y vy dy ry hy;let hex:∃y vy,Den X.K H y vy/\RelV vy w/\y∈ys:=(y,vy,dy,ry,hy,)
  change(if h:_ then _ else _)=_;rw[A95 hex];let(vy',dy',ry',L7):=hex.choose_spec;let ev:=ry'.inj ry;subst ev;rw[Den.inj I _ _ _ dy' dy]
 show(e,λ w hw=>?_,(key t r hh).2 e λ w hw y vy dy ry hy=>he w y vy dy ry hy,);let(j,hj,ej):=ut hw;let hl:=r.n;let ht:=t.n;obtain⟨y,ey⟩:∃y,ys[j]?=AC y:=(ys[j]'∅,A05 ∅,)
 let(vy,Ue,dy):=t.get ey;let(u',eu',ZR):=r.get Ue;let:u'=w:=by let:=A05 hj;rw[eu',ej]at this;show f8 this
 subst this;let hy:=A25 ey;rw[he _ y vy dy ZR hy];show(ZV I 6 ∅ (hh y hy) (.inl dy) hx ZR rx).2.1
def Vw(hu:X.A.units+64<cLine):jx X (compareOp .In) (λ x y H Q=>∃d ys q vs k,bz X.K H d x/\y=.ref q/\(jO X.K H q vs\/nj X.K H q vs)/\au X.K H ys vs/\Z.gU d ys=AC k/\Q (.bl k) H):=by
 intro B s O H x y v u Q I rx ry h;let(d,ys,q,vs,k,hd,rfl,hq,t,e,k'):=h;ext ry;let(e1,e2):=vO e;subst e1;rcases hq with hq|hq
 .let(a6,r,pl,hz):=I.list hq;let(f,hf,Iw):=zH I (A:=X.A.in1) (show X.A.units+1+60<cLine by lia) hd rx t r e2;show SeqAt.in_listAt f pl.isList (λ w hw=>hf w (by calc hw)) ⟨.bl _,H,I,rfl,?_⟩;rw[show a6.toArray.any f=a6.any f by simp,Iw];show k'
 .let(a6,r,pl,hz):=I.tuple hq;let(f,hf,Iw):=zH I (A:=X.A.in1) (show X.A.units+1+60<cLine by lia) hd rx t r e2;show SeqAt.in_tupleAt f pl (λ w hw=>hf w (by calc hw)) ⟨.bl _,H,I,rfl,?_⟩;rw[show a6.toArray.any f=a6.any f by simp,Iw];show k'
def HG(hu:X.A.units+64<cLine):jx X (compareOp .NotIn) (λ x y H Q=>∃d ys q vs k,bz X.K H d x/\y=.ref q/\(jO X.K H q vs\/nj X.K H q vs)/\au X.K H ys vs/\Z.gU d ys=AC k/\Q (.bl<|!k) H):=by
 intro B s O H x y v u Q I rx ry h;let(d,ys,q,vs,k,hd,rfl,hq,t,e,k'):=h;ext ry;let(e1,e2):=vO e;subst e1;rcases hq with hq|hq
 .let(a6,r,pl,hz):=I.list hq;let(f,hf,Iw):=zH I (A:=X.A.in1) (show X.A.units+1+60<cLine by lia) hd rx t r e2;show SeqAt.notIn_listAt f pl.isList (λ w hw=>hf w (by calc hw)) ⟨.bl _,H,I,rfl,?_⟩;rw[show a6.toArray.any f=a6.any f by simp,Iw];show k'
 .let(a6,r,pl,hz):=I.tuple hq;let(f,hf,Iw):=zH I (A:=X.A.in1) (show X.A.units+1+60<cLine by lia) hd rx t r e2;show SeqAt.notIn_tupleAt f pl (λ w hw=>hf w (by calc hw)) ⟨.bl _,H,I,rfl,?_⟩;rw[show a6.toArray.any f=a6.any f by simp,Iw];show k'
def Ji(hu:X.A.units+64<cLine):Au X .In Z.Ap:=⟨_,Vw hu,λ x y dx dy d H Q h1 h2 e k=>by
 unfold Z.Ap at e;split at e
 .split at e
  .rename_i b hb;ext e;let(q,vs,rfl,hq,t):=h2.tup;show(dx,_,q,vs,b,h1,rfl,.inr hq,t,hb,k _ H (av.refl H) cx,)
  .ext e
 .split at e
  .rename_i b hb;ext e;let(q,vs,rfl,hq,t):=h2.lst;show(dx,_,q,vs,b,h1,rfl,.inl hq,t,hb,k _ H (av.refl H) cx,)
  .ext e
 .ext e⟩
def m9(hu:X.A.units+64<cLine):Au X .NotIn Z.oz:=⟨_,HG hu,λ x y dx dy d H Q h1 h2 e k=>by
 unfold Z.oz at e;split at e
 .split at e
  .rename_i b hb;ext e;let(q,vs,rfl,hq,t):=h2.tup;show(dx,_,q,vs,b,h1,rfl,.inr hq,t,hb,k _ H (av.refl H) cx,)
  .ext e
 .split at e
  .rename_i b hb;ext e;let(q,vs,rfl,hq,t):=h2.lst;show(dx,_,q,vs,b,h1,rfl,.inl hq,t,hb,k _ H (av.refl H) cx,)
  .ext e
 .ext e⟩
def GK:∀{xs}{k},Z.allB xs=AC k->∃bs:U Bool,xs=bs.map Z.D.bl/\k=bs.all id
|[],k,h=>by ext h;show([],rfl,rfl,)
|x::xs,k,h=>by
 cases x with
 |bl b=>
  let h':(Z.allB xs).map _=AC k:=h;cases q:Z.allB xs with
  |none=>rw[q]at h';ext h'
  |some k'=>rw[q]at h';ext h';let(bs,rfl,rfl):=GK q;show(b::bs,rfl,rfl,)
 |non=>ext h
 |int _=>ext h
 |str _=>ext h
 |tup _=>ext h
 |lst _=>ext h
 |dct _ _=>ext h
def Ck{K:Db}:∀{bs:U Bool}{vs},au K H (bs.map Z.D.bl) vs->vs=bs.map V.bl
|[],vs,h=>by erw[A41]at h;subst h;rfl
|b::bs,vs,h=>by erw[A06]at h;let(v,r,rfl,hv,ht):=h;erw[Den]at hv;rw[hv,Ck ht];rfl
def all_range(bs:U Bool):((FB bs.n).all λ i=>bs[i]?.getD Da)=bs.all id:=by
 induction bs with
 |nil=>rfl
 |cons b bs ih=>
  rw[A22,C48,C04,B59,C04];let:((λ i=>((b::bs)[i]?).getD Da)∘Nat.succ)=λ i=>bs[i]?.getD Da:=by funext i;simp
  rw[this,ih];simp
def Jg(hc:X.calm=Da):kz X (.builtin "all") (λ xs H Q=>∃(q:δ)(bs:U Bool),xs=[.ref q]/\jO X.K H q (bs.map V.bl)/\Q (.bl<|bs.all id) H):=by
 intro B s O H xs us Q I r h;let(q,bs,rfl,hq,k):=h;let(u,rfl,ru):=vals1 r;ext ru;let(a6,rv,pl,hz):=I.list hq;let hl:=rv.n;rw[A04]at hl;let j?:q<s.t:=by let(_,e,_):=pl.x;show A02 e
 let hh:X.A.in1.handled=Ch:=I.ok.hd hc;show call_all_walk<|B19 pl.isList ?_;show(_,[s.t,q],[s.t],_,_,_,λ i=>bs[i]?.getD Da,rfl,Walks.list hh _ q (A16 j?) _,((_,A18 _ rfl,rfl,rfl,),pl.isList.push _,),?_,λ h' tk hk=>?_,)
 .intro i v s' Q' E' hv hQ;let hi:a6[i]?=AC v:=by simpa using hv
  let(hi1,_):=A09.mp hi;let hb:(bs.map V.bl)[i]?=AC (V.bl<|bs[i]'∅):=by rw[A07,A05];rfl
  let(u,hu,ru):=rv.get hb;rw[hi]at hu;ext hu ru;show A64 ?_;let:bs[i]?.getD Da=bs[i]'∅:=by rw[A05];rfl
  rw[<-this];show hQ
 .let I1:Inv X B O H {s with heap:=s.heap.push {cls:=.type "list_iterator",data:=.fields #[.ref q,.int 0 0]}}:=I.kept λ b o e=>A00 _ e;let(f0,f1,f2,f3,f4,f5):=I.va (P3 s.t) I.fresh;let I2:=I1.turned (t':=tk) (λ b o hb e=>hk b o (by calc hb) e) f0 f1 f3 f4 f5;show(.bl _,H,I2,rfl,?_,);let e:(FB a6.q.u).all (λ i=>bs[i]?.getD Da)=bs.all id:=by rw[A12,<-hl,all_range]
  rw[e];show k
def ZQ.Sb(hm:X.mg x=Ch)(ha:ZQ.QW X a fa)(hc:X.calm=Da:=by rfl)(hn:x≠ "__name__":=by decide +kernel)(fG:Nd x:=by kernel_rfl)(he:Se a [] X.J:=by rfl)(dX:Pn pos [] X.J:=by rfl)(hg:Gl X x:=by rfl)(hv:bootBuiltins x=AC (.builtin "all"):=by kernel_rfl):ZQ.QE X (.Call (.Name x p1) [a] [] pos) (Z.eU Z.gZ fa):=
 ⟨PE.imp (jb (Jg hc) hg hm hv (aM ha.p bH he) hn fG he dX) <|by
  rintro O H Q ⟨Y,d,r,e,k⟩;let(x,ea,e):=ce e;show(Y,x,r,ea,λ v H1 s1 d1=>?_,);unfold Z.gZ at e;split at e
  .split at e
   .rename_i xs k' hk;ext e;let(bs,rfl,rfl):=GK hk;let(q,vs,rfl,hq,t):=d1.lst;rw[Ck t]at hq;show(q,bs,rfl,hq,k _ H1 s1 cx,)
   .ext e
  .ext e⟩
end
def ZQ.bD(ha:ZQ.QE X (.Constant v j p) f)(hr:ZQ.QA X es g):ZQ.QA X ((.Constant v j p)::es) (Z.ae f g):=⟨iW ha.p hr.p rfl⟩
def ZQ.bx(ha:ZQ.QE X (.Name x p) f)(hr:ZQ.QA X es g):ZQ.QA X ((.Name x p)::es) (Z.ae f g):=⟨iW ha.p hr.p rfl⟩
def ZQ.I0(ha:ZQ.QE X (.Tuple xs j p) f)(hr:ZQ.QA X es g):ZQ.QA X ((.Tuple xs j p)::es) (Z.ae f g):=⟨iW ha.p hr.p rfl⟩
def ZQ.Nb(ha:ZQ.QE X (.List xs p) f)(hr:ZQ.QA X es g):ZQ.QA X ((.List xs p)::es) (Z.ae f g):=⟨iW ha.p hr.p rfl⟩
def ZQ.z_(ha:ZQ.QE X (.BinOp x o y p) f)(hr:ZQ.QA X es g):ZQ.QA X ((.BinOp x o y p)::es) (Z.ae f g):=⟨iW ha.p hr.p rfl⟩
def ZQ.qm(ha:ZQ.QE X (.Call x xs ks p) f)(hr:ZQ.QA X es g):ZQ.QA X ((.Call x xs ks p)::es) (Z.ae f g):=⟨iW ha.p hr.p rfl⟩
def ZQ.Sg(ha:ZQ.QE X (.Subscript x y p) f)(hr:ZQ.QA X es g):ZQ.QA X ((.Subscript x y p)::es) (Z.ae f g):=⟨iW ha.p hr.p rfl⟩
def ZQ.Cp(ha:ZQ.QE X (.Dict ks vs p) f)(hr:ZQ.QA X es g):ZQ.QA X ((.Dict ks vs p)::es) (Z.ae f g):=⟨iW ha.p hr.p rfl⟩
def ZQ.Nc(ha:ZQ.QE X (.Attribute x n p) f)(hr:ZQ.QA X es g):ZQ.QA X ((.Attribute x n p)::es) (Z.ae f g):=⟨iW ha.p hr.p rfl⟩
end ZS
namespace ZQ
open L2 ZS
def ZS.B1(h:(sc.kind=.function/\sc.isCoroutine=AT/\sc.isGenerator=AT)/\N.take P.n=P:=by show((rfl,rfl,rfl,),rfl,))(h4:decide (N.Nodup/\(∀x∈P,sc.names.lookup x=AC .local\/sc.names.lookup x=AC .cell)/\∀y∈sc.j,y.2≠.free)=Da:=by kernel_rfl):aT N P sc:=have q:=A98 h4;⟨h.1.1,h.1.2.1,h.1.2.2,q.1,h.2,q.2.1,q.2.2⟩
def Uk{K:Db}{st:θ}(d:ZS.Def K mg x st ps)(hb:∀{f}{aU}{A}{outer}{s}{H}{E},N.Nodup->(A.deeper<|envOfC x (aa st) s.heap.objs.size f aU).units+64<cLine->bf k (A.deeper<|envOfC x (aa st) s.heap.objs.size f aU)->yx (dG iC P w K mg base N x (aa st) f aU A outer s H E).fQ H (az st) b)(S:aT N ps (aa st):=by show ZS.B1):ZS.Av P w K mg base x (k+1) ps (Z.fn ps.length N.length b):=ZS.Av.mk' d S λ f aU A outer s H E hr=>(hb S.nd hr.units hr).p
def af6{K:Db}{st:θ}(F:CJ K x qual st f fd)(hb:∀{aU}{A}{outer}{s}{H}{E},N.Nodup->(A.deeper<|envOfC qual (aa st) s.heap.objs.size f aU).units+64<cLine->bf k (A.deeper<|envOfC qual (aa st) s.heap.objs.size f aU)->yx (dG iC P w K mg base N qual (aa st) f aU A outer s H E).fQ H (az st) b)(S:aT N ps (aa st):=by show ZS.B1):fi P w K mg base iC (k+1) f fd ps (ZS.yU K<|Z.fn ps.length N.length b):=ZS.fnZ F S λ aU A outer s H E hr=>(hb S.nd hr.units hr).p
end ZQ
namespace Z
def gW:D->Res D
|.lst xs=>.ok<|.tup xs
|.tup xs=>.ok<|.tup xs
|_=>.bad
@[simp] def VP(xs:U D):gW (.lst xs)=.ok (.tup xs):=rfl
def aK:U Nat:=[97,98,99,100,101,102,103,104,105,106,107,108,109,110,111,112,113,114,115,116,117,118,119,120,121,122]
def signs:U Nat:=[46,61,35,97,98,99,100,101,102,103,104,105,106,107,108,109,110,111,112,113,114,115,116,117,118,119,120,121,122]
def P?:D->D->Res D
|.int i,.int j=>.ok<|.int<|max i j
|_,_=>.bad
@[simp] def _n(i j:Int):P? (.int i) (.int j)=.ok (.int<|max i j):=rfl
def P!:D->D->Res D
|.int i,.int j=>.ok<|.int<|min i j
|_,_=>.bad
@[simp] def _m(i j:Int):P! (.int i) (.int j)=.ok (.int<|min i j):=rfl
def pP:D->Res D
|.int i=>.ok<|.int i
|.bl b=>.ok<|.int<|if b then 1 else 0
|_=>.bad
@[simp] def acs(b:Bool):pP (.bl b)=.ok (.int<|if b then 1 else 0):=rfl
def vF(x:D):U D->ε Nat
|[]=>AC 0
|y::r=>match lQ y x,vF x r with
 |some a,AC b=>AC<|b+(if a then 1 else 0)
 |_,_=>Ch
def zl:D->D->Res D
|.lst ys,x=>match vF x ys with
 |some n=>.ok<|.int n
 |none=>.bad
|_,_=>.bad
def A2:U D->ε Int
|[]=>AC 0
|.int i::r=>(A2 r).map (i+·)
|_::_=>Ch
def K?:D->Res D
|.lst xs=>match A2 xs with
 |some i=>.ok<|.int i
 |none=>.bad
|_=>.bad
def xx:∀(ns:U Int),A2 (ns.map D.int)=AC ns.sum
|[]=>rfl
|n::ns=>by simp[A2,xx ns]
def sD(i:Nat)(l:LF)(Y:Env):Res Fl:=(l Y).bind λ ys=>match Y[i]? with
|some<|some<|.own xs=>guard (xs.n+ys.n<=line)<|.ok<|.nx<|Y.set i<|some<|.own<|xs++ys
|_=>.bad
def pair(a b:D):D:=.tup [a,b]
def mz(k:Nat):U D->U D
|[]=>[]
|d::ds=>pair (.int k) d::mz (k+1) ds
def lJ:U D->U D->U D
|a::as,b::bs=>pair a b::lJ as bs
|_,_=>[]
@[simp] def F_(a:EF)(Y:Env):Res (U D):=(a Y).bind λ x=>(mi x).bind λ ds=>.ok<|mz 0 ds
def U5:D->Res (U D)
|.tup xs=>.ok xs
|.lst xs=>.ok xs
|_=>.bad
@[simp] def ZL(xs:U D):U5 (.tup xs)=.ok xs:=rfl
def UR:D->Res (U D)
|.tup xs=>.ok xs
|_=>.bad
@[simp] def Zr(xs:U D):UR (.tup xs)=.ok xs:=rfl
@[simp] def Ef(a b:EF)(Y:Env):Res (U D):=(a Y).bind λ x=>(b Y).bind λ y=>(U5 x).bind λ xs=>(UR y).bind λ ys=>.ok<|lJ xs ys
end Z
namespace ZS
open L2
section
variable{X:Cx}
def ZQ.yj(hm:X.mg x=Ch)(ha:ZQ.QW X a fa)(hn:x≠ "__name__":=by decide +kernel)(fG:Nd x:=by kernel_rfl)(he:Se a [] X.J:=by rfl)(dX:Pn pos [] X.J:=by rfl)(hg:Gl X x:=by rfl)(hv:bootBuiltins x=AC (.type "tuple"):=by kernel_rfl):ZQ.QE X (.Call (.Name x p1) [a] [] pos) (Z.eU Z.gW fa):=
 ⟨PE.imp (i4 xf hg hm hv (aM ha.p bH he) hn fG he dX) <|by
  rintro O H Q ⟨Y,d,r,e,k⟩;let(x,ea,e):=ce e;show(Y,x,r,ea,λ v H1 s1 d1=>?_,);unfold Z.gW at e;split at e
  .ext e;let(q,vs,rfl,hq,t):=d1.lst;show(q,vs,rfl,.inl ⟨hq,λ l hl=>?_⟩,);let s2:av H1 (upd H1 l<|.tup vs):=bE hl;show k _ _ (s1.trans s2)<|fM (.inl<|.inl aA)<|t.up s2
  .ext e;let(q,vs,rfl,hq,t):=d1.tup;show(q,vs,rfl,.inr ⟨hq,k _ H1 s1<|fM hq t⟩,)
  .ext e⟩
end
end ZS
namespace ZQ
open L2 ZS
theorem Xf(ho:PE X o (nr i))(ha:QE X a fa)(hs:swapsWith (.Call (.Attribute o "append" p1) [a] [] p2) Ch pos.line X.J=pure AT:=by rfl)(nS:Se a [] X.J:=by rfl)
 (jg:attributeBase o "append" X.env (eval o X.J)=eval o X.J:=by rfl)
 (oG:((backTo p2<|starEach (a::[]) X.J).all (λ x=>!x.1)&&(backToKw p2<|keywordEach [] X.J).all (λ x=>x.1.isSome)
  && decide ((a::[]).length+([]:U π).length+(if([]:U π).isEmpty then 0 else 1)<30))=Da:=by rfl)
 (jf:(p1.endLine==p2.line)=Da:=by rfl) (f':Pn p2 [] X.J:=by rfl) :
 QS X H0 (.Expr (.Call (.Attribute o "append" p1) [a] [] p2) pos) (Z.cV i fa):=
 ⟨ZS.IP ho ha.p hs nS<|uB C05 PySem.F.slot_list_append PySem.F.type_list_append xP ho (aM ha.p bH nS) jg oG jf nS f'⟩
end ZQ
namespace ZS
open L2
section
variable{X:Cx}
def V7(i j:Int):(if j>i then j else i)=max i j:=by split<;>lia
def V5(i j:Int):(if j<i then j else i)=min i j:=by split<;>lia
def ZQ.R7(hg:Gl X x)(hm:X.mg x=Ch)(hv:bootBuiltins x=AC (.builtin "max"))(ha:ZQ.QW X a fa)(hb:ZQ.QW X b fb)(hc:X.calm=Da:=by rfl)(hn:x≠ "__name__":=by decide +kernel)(fG:Nd x:=by kernel_rfl)
 (he:Se a [b] X.J:=by rfl) (Od:Se b [] X.J:=by rfl) (dX:(backTo pos<|starEach [b] X.J).any (·.1)=AT:=by rfl):ZQ.QE X (.Call (.Name x p1) [a,b] [] pos) (Z.eB Z.P? fa fb):=
 ⟨PE.imp (jb (Je hc) hg hm hv (aM ha.p (aM hb.p bH Od) he) hn fG he dX) <|by
  rintro O H Q ⟨Y,d,r,e,k⟩;let(x,ea,e):=ce e;let(y,eb,e):=ce e;show(Y,x,r,ea,λ v H1 s1 d1=>(Y,y,r.up s1,eb,λ u H2 s2 d2=>?_,),);obtain⟨i,j,rfl,rfl,rfl⟩:∃i j,x=.int i/\y=.int j/\d=.int (max i j):=by
   unfold Z.P? at e;split at e
   .ext e;show(_,_,rfl,rfl,rfl,)
   .ext e
  show⟨i,j,by rw[d1.int,d2.int],?_⟩;rw[V7];show k _ H2 (s1.trans s2) b8⟩
def ZQ.R5(hg:Gl X x)(hm:X.mg x=Ch)(hv:bootBuiltins x=AC (.builtin "min"))(ha:ZQ.QW X a fa)(hb:ZQ.QW X b fb)(hc:X.calm=Da:=by rfl)(hn:x≠ "__name__":=by decide +kernel)(fG:Nd x:=by kernel_rfl)
 (he:Se a [b] X.J:=by rfl) (Od:Se b [] X.J:=by rfl) (dX:(backTo pos<|starEach [b] X.J).any (·.1)=AT:=by rfl):ZQ.QE X (.Call (.Name x p1) [a,b] [] pos) (Z.eB Z.P! fa fb):=
 ⟨PE.imp (jb (Jd hc) hg hm hv (aM ha.p (aM hb.p bH Od) he) hn fG he dX) <|by
  rintro O H Q ⟨Y,d,r,e,k⟩;let(x,ea,e):=ce e;let(y,eb,e):=ce e;show(Y,x,r,ea,λ v H1 s1 d1=>(Y,y,r.up s1,eb,λ u H2 s2 d2=>?_,),);obtain⟨i,j,rfl,rfl,rfl⟩:∃i j,x=.int i/\y=.int j/\d=.int (min i j):=by
   unfold Z.P! at e;split at e
   .ext e;show(_,_,rfl,rfl,rfl,)
   .ext e
  show⟨i,j,by rw[d1.int,d2.int],?_⟩;rw[V5];show k _ H2 (s1.trans s2) b8⟩
def ZQ.R!(hg:Gl X x)(hm:X.mg x=Ch)(hv:bootBuiltins x=AC (.type "int"))(ha:ZQ.QW X a fa)(hn:x≠ "__name__":=by decide +kernel)(fG:Nd x:=by kernel_rfl)
 (he:Se a [] X.J:=by rfl) (dX:Pn pos [] X.J:=by rfl):ZQ.QE X (.Call (.Name x p1) [a] [] pos) (Z.eU Z.pP fa):=
 ⟨PE.imp (i4 yn hg hm hv (aM ha.p bH he) hn fG he dX) <|by
  rintro O H Q ⟨Y,d,r,e,k⟩;let(x,ea,e):=ce e;show(Y,x,r,ea,λ v H1 s1 d1=>?_,);unfold Z.pP at e;split at e
  .ext e;show .inl ⟨_,by rw[d1.int],k _ H1 s1 b8⟩
  .ext e;show .inr ⟨_,by rw[d1.bl],k _ H1 s1 b8⟩
  .ext e⟩
theorem IM(hs:swapsWith (.Call (.Attribute o "extend" p1) [a] [] p2) Ch pos.line X.J=pure AT:=by rfl)
 (hbm:PE X (.Call (.Attribute o "extend" p1) [a] [] p2) (tBM X.K "list" FA (nr i)<|J9 (tZl X.K l) OU)) :
 DS X H0 (.Expr (.Call (.Attribute o "extend" p1) [a] [] p2) pos) (Z.sD i l):=PS.imp (pG hbm hs) <| by
 rintro D O H ⟨Y,fl,rs,e,k⟩;let(ys,ea,e):=ce e;split at e
 .rename_i xs ei;unfold Z.guard at e;split at e
  .rename_i hl;ext e;let(v,si,q,us,rfl,hq,t):=rs.re.get i _ ei;show(_,si,.inl ⟨rfl,us,jO.of hq⟩,Y,ys,rs.re,ea,λ c vs H1 s1 hn hc tc=>?_,);let WC:=s1 _ _ hq;show⟨q,c,us,vs,rfl,rfl,WC,hc,by rw[t.n,tc.n,A26];show hl,?_⟩;show k O _ ((jR s1).trans<|jE WC)<|(rs.up s1).chg ei si WC<|(t.up s1).append tc
  .ext e
 .ext e
def Ct:∀{ys}{k},Z.vF x ys=AC k->k=ys.countP (λ y=>(Z.lQ y x).getD AT)/\∀y∈ys,Z.lQ y x=AC ((Z.lQ y x).getD AT)
|[],k,h=>by ext h;show⟨rfl,λ y hy=>by ext hy⟩
|y::ys,k,h=>by
 unfold Z.vF at h;split at h
 .rename_i a b ea eb;ext h;let(h1,h2):=Ct eb;show⟨by rw[B38,ea,h1];rfl,λ z hz=>?_⟩;rcases A01.mp hz with rfl|hz
  .rw[ea];rfl
  .exact h2 z hz
 .ext h
def So(I:Inv X B O H s)(hu:A.units+60<cLine)(hx:bz X.K H x v)(rx:RelV v u)(t:au X.K H ys vs)(r:Vals vs us)(hh:∀y∈ys,Z.lQ y x=AC ((Z.lQ y x).getD AT)):
 ∃e,(∀w∈us,SZ A s w u (e w))/\us.countP e=ys.countP (λ y=>(Z.lQ y x).getD AT):=by
 classical
 refine_lift let e:=λ w=>if h:∃y vy,Den X.K H y vy/\RelV vy w/\y∈ys then(Z.lQ h.choose x).getD AT else AT;?_
 let he:∀w y vy,Den X.K H y vy->RelV vy w->y∈ys->e w=(Z.lQ y x).getD AT:=by
  intro w y vy dy ry hy;let hex:∃y vy,Den X.K H y vy/\RelV vy w/\y∈ys:=(y,vy,dy,ry,hy,)
  change(if h:_ then _ else _)=_;rw[A95 hex];let(vy',dy',ry',L7):=hex.choose_spec;let ev:=ry'.inj ry;subst ev;rw[Den.inj I _ _ _ dy' dy]
 let cnt:∀{zs}{vs}{us},au X.K H zs vs->Vals vs us->(∀z∈zs,z∈ys)->us.countP e=zs.countP (λ y=>(Z.lQ y x).getD AT):=by
  intro zs
  induction zs with
  |nil=>intro vs us t r _;erw[au]at t;subst t;ext r;rfl
  |cons z zs ih=>
   intro vs us t r hm;erw[au]at t;let(vy,vr,rfl,dy,tr):=t;cases r with
   |cons ry rr=>rw[B38,B38,ih tr rr λ w hw=>hm w<|A08 _ hw,he _ z vy dy ry<|hm z A10]
 show(e,λ w hw=>?_,cnt t r λ _ h=>h,);let(j,hj,ej):=ut hw;let hl:=r.n;let ht:=t.n;obtain⟨y,ey⟩:∃y,ys[j]?=AC y:=(ys[j]'∅,A05 ∅,)
 let(vy,Ue,dy):=t.get ey;let(u',eu',ZR):=r.get Ue;let:u'=w:=by let:=A05 hj;rw[eu',ej]at this;show f8 this
 subst this;let hy:=A25 ey;rw[he _ y vy dy ZR hy];show(ZV I 6 ∅ (hh y hy) (.inl dy) hx ZR rx).2.1
def U?(K:Db):V->U V->Hp->VK->Prop:=λ x vs H Q=>∃d ys q us v k,x=.ref q/\vs=[v]/\jO K H q us/\au K H ys us/\bz K H d v/\Z.vF d ys=AC k/\Q (.int k) H
def Ln(hu:X.A.units+64<cLine):Yl X "list.count" (U? X.K):=by intro B s O H x vs v us Q I rx rv h;let(d,ys,q,us',v',k,rfl,rfl,hq,t,hd,e,k'):=h;ext rx;let(u,rfl,ru):=rv.one;let(e1,e2):=Ct e;subst e1;let(a6,r,pl,hz):=I.list hq;let(f,hf,Iw):=So I (A:=X.A.in1) (show X.A.units+1+60<cLine by lia) hd ru t r e2;let((cls,dd,data,sl),ho,hc,n,sH):=id pl.x;simp only at hc sH;subst hc sH;show A53 F.slot_list_count ⟨_,ho,rfl⟩ F.entry_list_count (F.args_list_count_2 _ _) (SeqAt.list_countAt q _ n dd sl u f) ⟨ho,λ w hw=>hf w (by calc hw),?_⟩;show(.int _,H,I.tok _,(_,rfl,),?_,);rw[Iw];show k'
theorem ZQ.M'(hu:X.A.units+64<cLine)(ho:ZQ.QW X o fa)(hb:ZQ.QW X b fb)
 (jg:attributeBase o "count" X.env (eval o X.J)=eval o X.J:=by rfl)
 (oG:((backTo p2<|starEach (b::[]) X.J).all (λ x=>!x.1)&&(backToKw p2<|keywordEach [] X.J).all (λ x=>x.1.isSome)
  && decide ((b::[]).length+([]:U π).length+(if([]:U π).isEmpty then 0 else 1)<30))=Da:=by rfl)
 (jf:(p1.endLine==p2.line)=Da:=by rfl) (nS:Se b [] X.J:=by rfl) (f':Pn p2 [] X.J:=by rfl) :
 ZQ.QE X (.Call (.Attribute o "count" p1) [b] [] p2) (Z.eB Z.zl fa fb):=
 ⟨PE.imp (uB C05 PySem.F.slot_list_count PySem.F.type_list_count (Ln hu) ho.p (aM hb.p bH nS) jg oG jf nS f') <|by
  rintro O H Q ⟨Y,d,r,e,k⟩;let(x,ea,e):=ce e;let(y,eb,e):=ce e;show(Y,x,r,ea,λ v H1 s1 d1=>?_,);unfold Z.zl at e;split at e
  .rename_i ys _;split at e
   .rename_i n hn;ext e;let(q,vs,rfl,hq,t):=d1.lst;show(.inl ⟨rfl,vs,hq⟩,Y,y,r.up s1,eb,λ u H2 s2 d2=>?_,);show(y,ys,q,vs,u,n,rfl,rfl,s2.seq hq,t.up s2,d2,hn,k _ H2 (s1.trans s2) b8,)
   .ext e
  .ext e⟩
def Fq:∀{xs}{k},Z.A2 xs=AC k->∃ns:U Int,xs=ns.map Z.D.int/\k=ns.sum
|[],k,h=>by ext h;show([],rfl,rfl,)
|x::xs,k,h=>by
 cases x with
 |int b=>
  let h':(Z.A2 xs).map _=AC k:=h;cases q:Z.A2 xs with
  |none=>rw[q]at h';ext h'
  |some k'=>rw[q]at h';ext h';let(bs,rfl,rfl):=Fq q;show(b::bs,rfl,rfl,)
 |non=>ext h
 |bl _=>ext h
 |str _=>ext h
 |tup _=>ext h
 |lst _=>ext h
 |dct _ _=>ext h
def yi{K:Db}:∀{ns:U Int}{vs},au K H (ns.map Z.D.int) vs->vs=ns.map V.int
|[],vs,h=>by erw[A41]at h;subst h;rfl
|b::bs,vs,h=>by erw[A06]at h;let(v,r,rfl,hv,ht):=h;erw[Den]at hv;rw[hv,yi ht];rfl
def Pk(ns:U Int):preSum (λ i=>ns[i]?.getD 0) ns.n=ns.sum:=by
 let key:∀k,k<=ns.n->preSum (λ i=>ns[i]?.getD 0) k=(ns.take k).sum:=by
  intro k
  induction k with
  |zero=>intro _;simp[preSum]
  |succ k ih=>
   intro hk;let e:preSum (λ i=>ns[i]?.getD 0) (k+1)=preSum (λ i=>ns[i]?.getD 0) k+ns[k]?.getD 0:=rfl;let aeQ:∀(xs ys:U Int),(xs++ys).sum=xs.sum+ys.sum:=λ xs ys=>by
    induction xs with
    |nil=>simp
    |cons x xs ih=>erw[C06,B39];lia
   rw[e,ih ∅,B61,aeQ,A05<|show k<ns.length by lia];simp
 let:=key _<|P3 _;rwa [B20]at this
def Jb(hc:X.calm=Da):kz X (.builtin "sum") (λ xs H Q=>∃(q:δ)(ns:U Int),xs=[.ref q]/\jO X.K H q (ns.map V.int)/\Q (.int ns.sum) H):=by
 intro B s O H xs us Q I r h;let(q,ns,rfl,hq,k):=h;let(u,rfl,ru):=vals1 r;ext ru;let(a6,rv,pl,hz):=I.list hq;let hl:=rv.n;rw[A04]at hl;let j?:q<s.t:=by let(_,e,_):=pl.x;show A02 e
 let hh:X.A.in1.handled=Ch:=I.ok.hd hc;show call_sum_walkG<|B19 pl.isList ?_;show(s.t,[s.t,q],[s.t],a6.q.u,_,_,λ i=>ns[i]?.getD 0,rfl,Walks.list hh s.heap.objs.size q (A16 j?) a6.q,((_,A18 _ rfl,rfl,rfl,),pl.isList.push _,),?_,?_,λ h' tk t' hk=>?_,)
 .intro b hb;rw[A58];rcases A01.mp hb with rfl|hb
  .exact A66 _
  .rw[A11.mp hb];show C02 j?
 .intro i v hv;let hi:a6[i]?=AC v:=by simpa using hv
  let(hi1,_):=A09.mp hi;let hb:(ns.map V.int)[i]?=AC (V.int<|ns[i]'∅):=by rw[A07,A05];rfl
  let(u,hu,ru):=rv.get hb;rw[hi]at hu;ext hu;let(t,rfl):=ru;show⟨t,by change Value.int _ t=Value.int (ns[i]?.getD 0) t;rw[A05];rfl⟩
 .let I1:Inv X B O H {s with heap:=s.heap.push {cls:=.type "list_iterator",data:=.fields #[.ref q,.int 0 0]}}:=I.kept λ b o e=>A00 _ e;let(f0,f1,f2,f3,f4,f5):=I.va (P3 s.t) I.fresh;let I2:=I1.turned (t':=tk) (λ b o hb e=>hk b o (by calc hb) e) f0 f1 f3 f4 f5;show(.int _,H,I2,(t',rfl,),?_,);rw[A12,<-hl,Pk];show k
def ZQ.R0(hm:X.mg x=Ch)(ha:ZQ.QW X a fa)(hc:X.calm=Da:=by rfl)(hn:x≠ "__name__":=by decide +kernel)(fG:Nd x:=by kernel_rfl)(he:Se a [] X.J:=by rfl)(dX:Pn pos [] X.J:=by rfl)(hg:Gl X x:=by rfl)(hv:bootBuiltins x=AC (.builtin "sum"):=by kernel_rfl):ZQ.QE X (.Call (.Name x p1) [a] [] pos) (Z.eU Z.K? fa):=
 ⟨PE.imp (jb (Jb hc) hg hm hv (aM ha.p bH he) hn fG he dX) <|by
  rintro O H Q ⟨Y,d,r,e,k⟩;let(x,ea,e):=ce e;show(Y,x,r,ea,λ v H1 s1 d1=>?_,);unfold Z.K? at e;split at e
  .split at e
   .rename_i xs k' hk;ext e;let(bs,rfl,rfl):=Fq hk;let(q,vs,rfl,hq,t):=d1.lst;rw[yi t]at hq;show(q,bs,rfl,hq,k _ H1 s1 b8,)
   .ext e
  .ext e⟩
end
end ZS
namespace ZQ
open L2 ZS
theorem Xd(ho:PE X o (nr i))(ha:QL X a l)(hs:swapsWith (.Call (.Attribute o "extend" p1) [a] [] p2) Ch pos.line X.J=pure AT:=by rfl)(nS:Se a [] X.J:=by rfl)
 (jg:attributeBase o "extend" X.env (eval o X.J)=eval o X.J:=by rfl)
 (oG:((backTo p2<|starEach (a::[]) X.J).all (λ x=>!x.1)&&(backToKw p2<|keywordEach [] X.J).all (λ x=>x.1.isSome)
  && decide ((a::[]).length+([]:U π).length+(if([]:U π).isEmpty then 0 else 1)<30))=Da:=by rfl)
 (jf:(p1.endLine==p2.line)=Da:=by rfl) (f':Pn p2 [] X.J:=by rfl) :
 QS X H0 (.Expr (.Call (.Attribute o "extend" p1) [a] [] p2) pos) (Z.sD i l):=
 ⟨ZS.IM hs<|uB C05 PySem.F.slot_list_extend PySem.F.type_list_extend H! ho (aM ha.p bH nS) jg oG jf nS f'⟩
end ZQ
namespace ZS
open L2 PySem.W
def rC:∀{ns:U Int},i∈ns->ac (.int i)<=Wp (ns.map WData.int)
|[],h=>by ext h
|n::ns,h=>by
 rcases A01.mp h with rfl|h
 .simp only[A06,Wp];lia
 .let:=rC h;erw[A06,Wp];lia
def CB{ns:U Int}(h:WData.layableAll [WData.list (ns.map WData.int)]=Da):∀i∈ns,Z.bits i<=2^20:=by
 intro i hi;let h1:=A35.mp h _ A10;unfold WData.layable at h1;rw[A60]at h1;let h3:ac (.list<|ns.map WData.int)=Wp (ns.map WData.int):=by erw[ac]
 let h4:=rC hi;let h5:ac (.int i)=Z.bits i:=by
  erw[ac];unfold Z.bits;by_cases hz:i=0
  .subst hz;rfl
  .rw[W1 hz,W1 (by calc hz)]
 lia
def NK(q:ο)(K:Frag):Prop:=noTabs K=Da/\(∀x∈c_,∀c P,tabIn K x=AC (c,P)->∃d,(recsOf q).find? (λ e=>e.name==x)=AC d) /\
 ∀x y c P c',x∈c_->y∈c_->tabIn K x=AC (c,P)->tabIn K y=AC (c',P)->x=y
def ub{K:Frag}(h:nsIn K mainGlobals x=AC (AC<|.ref f))(h2:K.lookup f=AC ⟨o1,d1,.func fd,s1⟩)(h3:fd.code=.ref c)
 (h4:K.lookup c=AC ⟨o2,d2,.fields vs,s2⟩) (h5:vs[11]?=AC (.ref p)):tabIn K x=AC (c,p):=by
 unfold tabIn;rw[h];dsimp only;rw[h2];dsimp only;rw[h3];dsimp only;rw[h4];dsimp only;rw[h5]
def gF{p:Str->Prop}(h1:p "best_among")(h2:p "paper_beside"):∀x∈c_,p x:=by
 intro x hx;rcases A01.mp hx with rfl|hx
 .exact h1
 .rw[A11.mp hx];show h2
def Wa{K:Frag}(n:noTabs K=Da)(h1:tabIn K "best_among"=r1)(h2:tabIn K "paper_beside"=r2)(g1:r1=Ch\/((recsOf q).find? λ e=>e.name==EQ "best_among").isSome=Da)(g2:r2=Ch\/((recsOf q).find? λ e=>e.name==EQ "paper_beside").isSome=Da)
 (ne:∀c P c' P',r1=AC (c,P)->r2=AC (c',P')->P≠P'):NK q K:=by
 show(n,gF (λ c P e=>?_) λ c P e=>?_,λ x y c P c' hx hy=>?_,)
 .rcases g1 with z|z
  .rw[h1,z]at e;ext e
  .exact A92.mp z
 .rcases g2 with z|z
  .rw[h2,z]at e;ext e
  .exact A92.mp z
 .refine gF (p:=λ x=>tabIn K x=AC (c,P)->tabIn K y=AC (c',P)->x=y) (λ e1=>?_) (λ e1=>?_) x hx
  .refine gF (p:=λ y=>tabIn K y=AC (c',P)-> "best_among"=y) (λ _=>rfl) (λ e2=>?_) y hy;show absurd rfl<|ne c P c' P (h1.symm.trans e1)<|h2.symm.trans e2
  .refine gF (p:=λ y=>tabIn K y=AC (c',P)-> "paper_beside"=y) (λ e2=>?_) (λ _=>rfl) y hy;show absurd rfl<|ne c' P c P (h1.symm.trans e2)<|h2.symm.trans e1
def UH{l:OpenLaw}{n k:Nat}{q:ο}{loose:U Str}{XP:(Str->ε ζ)->ν->Prop}{YP:ξ->ν->Prop}{d:DefRec}{K:Params->Frag}{m:U Z.D->Z.Res Z.D}{x:Str}
 (hn:l.most=AC n) (L!:n<=sizeLine) (hdf:d.params.defaults=[]) (hr:bf k callerA)
 (hY:∀w h,YP w h->(K w.params).In h)
 (F:∀ w mg fa h,(K w.params).In h->h.Ns mainGlobals mg->mg d.name=AC (.ref fa) ->
  ∃fd:υ,(∀(s:ι)(u:ζ),BindsTo s fd ⟨[u],[]⟩ [(x,u)]) /\
   ∀base:ν,(K w.params).In base->base.Ns mainGlobals mg->fi l.prog w (K w.params) mg base iC k fa fd [x] (yU (K w.params) m)) (hL:∀w:ξ,NK q (K w.params))
 (hold:∀ns:U Int,ns.n<=n->(∀i∈ns,Z.bits i<=2^20)->m [.lst (ns.map .int)]=.ok (.bl Da)) :
 WalkO q loose XP YP l.row.toRowW d [] (λ f vs=>PySem.call f vs):=by
 intro w s₀ s₁ mg mb G ρ fa o pm cd doc dV kV ho hd rT hD hmg hg args vals as Eg afg hrd hwl hlo;cases Dflts.none hD hdf;cases Dflts.noKw hD;let(a,vs,ns,rfl,rfl,ae4,hints,ψ):=Att.Hr hn Eg hwl;let KX:=hY w _ ρ;let(fd,hb,hF):=F w mg fa _ KX G.T.g hmg;let C:=LN KX G.T.g G.T.b G.T.builtins G.T.nolimit hg ae4 hints (A14 ψ L!) hr hF hb (λ H hO hS=>V_ hO hS<|hold ns ψ<|CB afg) (λ H e s' z=>z)
  (hL w).2.2 (λ y hy c p e=>let ⟨d,hd⟩:=(hL w).2.1 y hy c p e;let T:=tab_of G.T KX hd e;⟨T,T.1.tab T.2⟩) G.T.bmain (hL w).1
 show enter_call<|A91 C λ r s' hq=>?_;let(rfl,h2,h3,h4):=hq;show(.inl ⟨.bool Da,.bool Da,[],rfl,λ _=>rfl,.bool Da,Att.Hy l _,λ _=>(List.Pairwise.nil,λ _ hm=>(nomatch hm),)⟩,h2,h3,h4,)
end ZS
namespace ZS
open L2
def DV(hit:s.heap.IsTupleIter it t i)(ht:s.heap.IsTuple t items)(hx:items[i]?=AC x)
 (hQ:∀h',h'.IsTupleIter it t (i+1)->KF it s.heap h'->Q x {s with heap:=h'}):Ev (model prog w) A (IN<|.ref it) Q E s:=by
 let(ob,Ob,j_,tj):=id hit;let(ot,Rc,_,nt,hdt):=ht;show T0<|B11 hit.typeIs B62<|B13 B62 hit.typeIs C49 ?_<|C50 _;change Ev _ _ (field _ 0>>=_) _ _ _;show T0<|A38 Ob tj (x:=.ref t) rfl ?_;let JA:¬(Value.ref t==UV)=Da:=A89;rw[W1 JA];show T0<|A38 Ob tj rfl ?_;show T0<|A62 Rc hdt ?_;erw[B00,hx];show T0<|B63 Ob tj ∅<|v6 ⟨x,rfl,v6<|hQ _ ⟨_,B21 _ Ob<|B64<|A70 tj _,(C07 ..).trans j_,?_⟩<|Heap.SameBut.update ..⟩;rw[A70 tj];simp[rawInt]
def HY(hh:A.handled=Ch)(hit:s.heap.IsTupleIter it t i)(ht:s.heap.IsTuple t items)(hx:items[i]?=Ch)
 (hE:∀h' e,le it s.heap h'->(∃o,h'.get? e=AC o/\o.cls=.type "StopIteration")->E (.ref e) {s with heap:=h'}):Ev (model prog w) A (IN<|.ref it) Q E s:=by
 let(ob,Ob,j_,tj):=id hit;let(ot,Rc,_,nt,hdt):=ht;show T0<|B11 hit.typeIs B62<|B13 B62 hit.typeIs C49 ?_<|C50 _;change Ev _ _ (field _ 0>>=_) _ _ _;show T0<|A38 Ob tj (x:=.ref t) rfl ?_;let JA:¬(Value.ref t==UV)=Da:=A89;rw[W1 JA];show T0<|A38 Ob tj rfl ?_;show T0<|A62 Rc hdt ?_;erw[B00,hx];show T0<|B32<|T0<|B63 Ob tj ∅ ?_;show T0 ?_;erw[newExc,newTuple];show T0<|A74 ?_ (by size_fits);show T0<|wpAny_of_eq (by first|rfl|(erw[firstArgMember];rfl)) ?_;show A74 ?_ (by size_fits);erw[raiseNew];show T0<|wpAny_handled ?_
 first|rw[hh]|rw[hh]
 show T0<|v6<|wpAny_throw<|hE _ _ (((Heap.SameBut.update ..).extBut.push _).push _) ⟨_,A18 _ rfl,rfl⟩
def Xg(hh:A.handled=Ch)(it t:δ)(uU:t≠it)(items:Array ζ):
 Draws prog w A it [it,t] items.size (λ i v=>items[i]?=AC v) (λ i h=>h.IsTupleIter it t i/\h.IsTuple t items) where
 live:=λ _ _ st=>let ⟨o,ho,_⟩:=st.1;⟨o,ho⟩
 frame:=λ _ _ _ st hk=>by let((o,e,r),(o2,e2,r2)):=st;show((o,hk it ∅ o e,r,),(o2,hk t ∅ o2 e2,r2,),)
 item:=λ i s Q E hi st hQ=>by show DV st.1 st.2 (x:=items[i]) ∅ λ h' afm T7=>?_;show hQ _ h' _ ∅ ⟨afm,st.2.extBut T7.extBut uU⟩ T7
 done:=λ s Q E st hE=>HY hh st.1 st.2 ∅ hE
def Fd{ch:U δ}(I:Inv X B O H s)(k:∀b o,b∉ch->s.heap.get? b=AC o->h'.get? b=AC o)(hf:∀b∈ch,qr X B H b):Inv X B O H {s with heap:=h',toks:=t'}:=by
 let Br:∀b u,H b=AC u->b∉ch:=λ b u e hb=>by rw[(hf b hb).1]at e;ext e
 show I.step (λ b hb=>?_) (λ b o _ _ hc e _=>k b o hc e) (λ b o _ _ hc e _=>(_,k b o hc e,)) (λ _ _ _ _ n=>n)
  (λ b o hc e=>(o,k b o hc e,)) (λ _ _ e=>e) (λ _ _ _ e=>e) (λ _ _ _ e=>e) (λ m hm=>?_) (λ b u e=>?_) I.bare
 .let(f0,f1,f2,f3,f4,f5):=hf b hb;show(f3,f1,f4,f5,)
 .let(o,es,ep,ho,r):=hm;show(o,es,ep,k _ o (λ hb=>(hf _ hb).2.1 rfl) ho,r,)
 .refine(I.bN b u e).n? (λ c v hc q=>k c v ?_ q) (λ _ q=>q) (λ _ _ q=>q) λ _ _ _ q=>q;rcases hc with z|z
  .rw[z];show Br b u e
  .exact Br c _ z
def Fc{ch:U δ}(I:Inv X B O H s)(k:∀b o,b∉ch->s.heap.get? b=AC o->h'.get? b=AC o)(hf:∀b∈ch,qr X B H b)
 (hT:s.t<=T) (hTT:qq h' T us.q) (r:Vals xs us) (hz:xs.n<=sizeLine):Inv X B O (upd H T<|.tup xs) {s with heap:=h',toks:=t'}:=by
 let hn:=I.bN.fresh hT;let Br:∀b u,H b=AC u->b∉ch:=λ b u e hb=>by rw[(hf b hb).1]at e;ext e
 let up:∀b u,H b=AC u->upd H T (.tup xs) b=AC u:=λ b u e=>by rw[ak<|aR e hn];show e
 let lt:∀b o,s.heap.get? b=AC o->b≠T:=λ b o e z=>by rw[z]at e;show absurd (A02 e)<|A86.mpr hT
 show I.step (λ b hb=>?_) (λ b o _ _ hc e _=>k b o hc e) (λ b o _ _ hc e _=>(_,k b o hc e,)) (λ b o _ e n=>by rw[ak<|lt b o e];show n)
  (λ b o hc e=>(o,k b o hc e,)) (λ b ys e=>up b _ e) (λ b o u e=>up b _ e) (λ b u _ e=>up b _ e) (λ m hm=>?_) (λ b u e=>?_) I.bare
 .let(f0,f1,f2,f3,f4,f5):=hf b hb;show(f3,f1,f4,f5,)
 .let(o,es,ep,ho,q):=hm;show(o,es,ep,k _ o (λ hb=>(hf _ hb).2.1 rfl) ho,q,)
 .by_cases hb:b=T
  .subst hb;rw[aA]at e;ext e;show(hz,us,r,hTT,)
  .rw[ak hb]at e;show(I.bN b u e).n? (λ c v hc q=>k c v ?_ q) (λ c q=>?_) (λ c ys q=>up c _ q) λ c v _ q=>up c _ q
   .rcases hc with z|z
    .rw[z];show Br b u e
    .exact Br c _ z
   .exact up c _ q
structure Yo where
 at_:Nat->Hp->V->Prop
 end_:Nat->Hp->Prop
def ItE(J:Yo):It:=(λ i H=>∃y,J.at_ i H y,λ i H x H'=>∃T y,H T=Ch/\x=.ref T/\H'=upd H T (.tup [.int (i:Nat),y])/\J.at_ i H y,J.end_,)
structure Src(P:Program)(w:World)(K:Db)(J:Yo)(it:Addr)(Wt:Nat->Heap->Prop):Prop where
 obj:∀i h,Wt i h->∃o,h.get? it=AC o/\(∀v,o.data≠.cell v)/\o.cls≠.type "enumerate" /\ o.cls≠.type "zip" /\ o.cls≠.type "tuple"
 keep:∀i h h',Wt i h->(∀o,h.get? it=AC o->h'.get? it=AC o)->Wt i h'
 draw:∀(X:Cx),X.prog=P->X.w=w->X.K=K->X.calm=Da->∀(i:Nat)(B:List (Addr×Obj))(s:Shared)(O:St)(H:Hp),Inv X B O H s->Wt i s.e->((∃y,J.at_ i H y)\/J.end_ i H) ->
  ∃(fp:List Addr)(n:Nat)(Pv:Nat->Value->Prop)(S:Nat->Heap->Prop),Draws P w X.A.in1 it fp n Pv S/\S i s.e/\it∈fp/\(∀b∈fp,b=it\/∃o,s.heap.get? b=AC o/\o.cls≠.type "enumerate" /\ o.cls≠.type "zip" /\ (H b=Ch->∃o',K.lookup b=AC o')) /\
   ((∃y,J.at_ i H y)->i<n/\∀u,Pv i u->∃y,RelV y u/\J.at_ i H y)/\(J.end_ i H->i=n)/\∀j h,S j h->Wt j h
def qD{K:FS}(S:Src P w K J it Wt)(hei:e≠it):
 Turn P w K (.Tuple elts x1 pos) (ItE J) [e,it] e (λ i h=>(∃old,IsEnum h e it i old)/\Wt i h) where
 mem:=by simp
 obj:=λ i h st b hb=>by
  rcases A01.mp hb with rfl|hb
  .let((old,he),_):=st;show⟨_,he,λ v z=>by let z':=z;ext z'⟩
  .rw[A11]at hb;subst hb;let(o,h1,h2,_):=S.obj i h st.2;show(o,h1,h2,)
 keep:=λ i h h' st k=>⟨by let(old,he):=st.1;show(old,k e ∅ _ he,),S.keep i h h' st.2 λ o q=>k it ∅ o q⟩
 item:=by
  intro X hP hw hK hc i B s O H E I hf st hg;let(fp,n,Pv,St',D,hs0,hif,hfp,hat,_,Eh):=S.draw X hP hw hK hc i B s O H I st.2 (.inl hg);let(hi,hv):=hat hg;subst hP hw hK;let(old,he):=st.1;let hef:e∉fp:=λ hb=>by
   rcases hfp e hb with z|⟨o,q,uU,_⟩
   .exact hei z
   .rw[he]at q;ext q;show uU rfl
  let W:=WalksT.enumerateD (A:=X.A) D e hei hef hif;let aav:=A02 he;let aao:it<s.t:=by let(o,q,_):=S.obj _ _ st.2;show A02 q
  show wpAny_pyNext_enum_itemD D he hs0 hi hei hef λ u h' t' hu ho T7 hTx Gb hk=>(.ref s.t,rfl,?_,)
  let hT:s.t<=s.t:=P3 _;let kk:∀b o,b∉[e,it]->s.heap.get? b=AC o->h'.get? b=AC o:=λ b o hb y=>hk b o (λ e'=>hb (by simp[e'])) (λ e'=>hb (by simp[e'])) y;let(y,ry,hy):=hv u hu;let hTw:s.heap.objs.size∉[e,it]:=by erw[A01,A39,A42,A71];show(A47 aav,A47 aao,)
  show W.go elts x1 pos i s.heap.objs.size _ _ _ ⟨⟨_,ho⟩,T7,A47 aav,A47 aao⟩ λ h2 Wx kk2=>?_;let hTn:=I.bN.fresh hT;let afU:qq h2 s.heap.objs.size [Value.int i t',u].toArray:=(_,kk2 _ _ hTw hTx,)
  let I2:Inv X B O (upd H s.heap.objs.size<|.tup [.int (i:Nat),y]) {s with heap:=h2,toks:=t'+1}:=
   Fc (ch:=[e,it]) I (λ b o hb q=>kk2 b o hb<|kk b o hb q) hf hT afU (.cons ⟨t',rfl⟩<|.cons ry .nil) (by change 2<=sizeLine;decide)
  show(.ref s.t,_,I2,rfl,(s.t,y,hTn,rfl,rfl,hy,),(Wx.1,Eh _ _ Wx.2,),λ b hb=>?_,);let hbT:b≠s.t:=λ z=>hTw<|z▸hb;rw[ak hbT];show(hf b hb).1
 done:=by
  intro X hP hw hK hc i B s O H E I hf st hg;let(fp,n,Pv,St',D,hs0,hif,hfp,_,WU,Eh):=S.draw X hP hw hK hc i B s O H I st.2 (.inr hg);let afn:=WU hg;subst hP hw hK afn;let(old,he):=st.1;let hef:e∉fp:=λ hb=>by
   rcases hfp e hb with z|⟨o,q,uU,_⟩
   .exact hei z
   .rw[he]at q;ext q;show uU rfl
  let W:=WalksT.enumerateD (A:=X.A) D e hei hef hif;show W.done s _ _ ⟨⟨old,he⟩,hs0⟩ λ h' tk kk=>(rfl,Fd (ch:=[e,it]) I kk hf,)
 self:=λ A i s Q E st hQ=>by let(old,he):=st.1;show B65 he hQ
def Io(K:Db)(t:δ)(vs:U V):Yo:=(λ i H y=>nj K H t vs/\vs[i]?=AC y,λ i H=>nj K H t vs/\vs.n=i,)
def Q8(K:Db)(t:δ)(vs:U V):Yo:=(λ i H y=>jO K H t vs/\vs[i]?=AC y,λ i H=>jO K H t vs/\vs.n=i,)
def L6(z:Str):Yo:=(λ i _ y=>∃c,z.cps[i]?=AC c/\y=.str ⟨#[c]⟩,λ i _=>i=z.cps.u,)
def sT{K:FS}:Src P w K (Io K t xs) it (λ i h=>h.IsTupleIter it t i) where
 obj:=λ i h st=>by let(o,e,c,d):=st;show⟨o,e,λ v z=>(by rw[d]at z;ext z),by rw[c];decide,by rw[c];decide,by rw[c];decide⟩
 keep:=λ i h h' st k=>let ⟨o,e,r⟩:=st;⟨o,k o e,r⟩
 draw:=by
  intro X hP hw hK hc i B s O H I st hg;subst hP hw hK;let hq:nj X.K H t xs:=by rcases hg with⟨y,h,_⟩|⟨h,_⟩<;>show h
  let(a6,r,p,hz):=I.tuple hq;let(ot,Rc,WY,nt,hdt):=id p;let(oi,hoi,hci,hdi):=id st;let uU:t≠it:=by rintro rfl;rw[Rc]at hoi;ext hoi;rw[WY]at hci;injection hci with z;show absurd z ∅
  show⟨[it,t],_,_,_,Xg (A:=X.A.in1) (I.ok.hd hc) it t uU _,(st,p,),by simp,λ b hb=>?_,λ⟨y,_,__⟩=>?_,λ⟨_,hl⟩=>?_,λ j h q=>q.1⟩
  .rcases A01.mp hb with rfl|hb
   .exact .inl rfl
   .rw[A11]at hb;subst hb;show .inr ⟨ot,Rc,by rw[WY];decide,by rw[WY];decide,λ hn=>?_⟩;rcases hq with(z|⟨o,z⟩)|⟨o,_,_,z,_⟩
    .rw[hn]at z;ext z
    .rw[hn]at z;ext z
    .exact⟨o,z⟩
  .let(u,hu,ru):=r.get __;show⟨by rw[A12];show(A09.mp hu).1,λ u' YN=>(y,?_,hq,__,)⟩;let:a6[i]?=AC u':=by simpa using YN
   rw[hu]at this;ext this;show ru
  .rw[A12,<-r.n,hl]
def Fu{K:FS}:Src P w K (Q8 K t xs) it (λ i h=>h.IsListIter it t i) where
 obj:=λ i h st=>by let(o,e,c,d):=st;show⟨o,e,λ v z=>(by rw[d]at z;ext z),by rw[c];decide,by rw[c];decide,by rw[c];decide⟩
 keep:=λ i h h' st k=>let ⟨o,e,r⟩:=st;⟨o,k o e,r⟩
 draw:=by
  intro X hP hw hK hc i B s O H I st hg;subst hP hw hK;let hq:jO X.K H t xs:=by rcases hg with⟨y,h,_⟩|⟨h,_⟩<;>show h
  let(a6,r,p,hz):=I.list hq;let(ot,Rc,WY,nt,hdt):=id p.x;let(oi,hoi,hci,hdi):=id st;let uU:t≠it:=by rintro rfl;rw[Rc]at hoi;ext hoi;rw[WY]at hci;injection hci with z;show absurd z ∅
  show⟨[it,t],_,_,_,Draws.list (A:=X.A.in1) (I.ok.hd hc) it t uU _,(st,p.x,),by simp,λ b hb=>?_,λ⟨y,_,__⟩=>?_,λ⟨_,hl⟩=>?_,λ j h q=>q.1⟩
  .rcases A01.mp hb with rfl|hb
   .exact .inl rfl
   .rw[A11]at hb;subst hb;show .inr ⟨ot,Rc,by rw[WY];decide,by rw[WY];decide,λ hn=>?_⟩;rcases hq with(z|⟨o,z⟩)|⟨o,_,_,z,_⟩
    .rw[hn]at z;ext z
    .rw[hn]at z;ext z
    .exact⟨o,z⟩
  .let(u,hu,ru):=r.get __;show⟨by rw[A12];show(A09.mp hu).1,λ u' YN=>(y,?_,hq,__,)⟩;let:a6[i]?=AC u':=by simpa using YN
   rw[hu]at this;ext this;show ru
  .rw[A12,<-r.n,hl]
def σ2{K:FS}:Src P w K (L6 z) it (λ i h=>h.IsStrIter it (strIterType z) z tk i) where
 obj:=λ i h st=>by let(o,e,c,d):=st;show(o,e,λ v q=>(by rw[d]at q;ext q),?_,?_,?_,)<;>(rw[c];unfold strIterType;split<;>decide)
 keep:=λ i h h' st k=>let ⟨o,e,r⟩:=st;⟨o,k o e,r⟩
 draw:=by
  intro X hP hw hK hc i B s O H I st hg;subst hP hw hK;let hh:X.A.in1.handled=Ch:=I.ok.hd hc;let fin:∀Pv,(∀i u,Pv i u->∃c t,z.cps[i]?=AC c/\u=.str ⟨#[c]⟩ t)->∀S,Draws X.prog X.w X.A.in1 it [it] z.cps.size Pv S->S i s.e->(∀j h,S j h->h.IsStrIter it (strIterType z) z tk j) ->
   ∃fp n Pv S,Draws X.prog X.w X.A.in1 it fp n Pv S/\S i s.e/\it∈fp/\(∀b∈fp,b=it\/∃o,s.heap.get? b=AC o/\o.cls≠.type "enumerate" /\ o.cls≠.type "zip" /\ (H b=Ch->∃o',X.K.lookup b=AC o')) /\
    ((∃y,(L6 z).at_ i H y)->i<n/\∀u,Pv i u->∃y,RelV y u/\(L6 z).at_ i H y)/\((L6 z).end_ i H->i=n)/\∀j h,S j h->h.IsStrIter it (strIterType z) z tk j:=by
   intro Pv hPv S D hs hS;show⟨[it],z.cps.u,Pv,S,D,hs,by simp,λ b hb=>.inl (by calc hb),λ⟨y,c,hy,_⟩=>(?_,λ u hu=>?_,),λ q=>q,hS⟩
   .rcases Nat.lt_or_ge i z.cps.u with q|q
    .exact q
    .rw[Array.getElem?_eq_none q]at hy;ext hy
   .let(c',t',Ar,rfl):=hPv i u hu;show(.str ⟨#[c']⟩,(t',rfl,),c',Ar,rfl,)
  cases ha:z.cps.all (· < 128)
  .let e:strIterType z="str_iterator":=by unfold strIterType;rw[ha];rfl
   show fin _ (λ _ _ q=>q) _ (Draws.strWide hh it z tk) (by rw[<-e];show st) λ j h q=>by rw[e];show q
  .let e:strIterType z="str_ascii_iterator":=by unfold strIterType;rw[ha];rfl
   show fin _ (λ _ _ q=>q) _ (Draws.strAscii hh it z tk) (by rw[<-e];show st) λ j h q=>by rw[e];show q
def Bx(l:δ)(items:Array ζ)(n:Nat)(dct:ε δ)(sl:Array _):
 Meets (Builtin.«enumerate.__new__» ⟨[.type "enumerate",.ref l],[]⟩) (λ _ R s=>s.heap.get? l=AC {cls:=.type "tuple",dict:=dct,data:=.seq items n,slots:=sl} /\
  R (.ok<|.ret<|.ref (s.heap.push {cls:=.type "tuple_iterator",data:=.fields #[.ref l,.int 0 0]}).objs.size)
   {s with heap:=(s.heap.push {cls:=.type "tuple_iterator",data:=.fields #[.ref l,.int 0 0]}).push {cls:=.type "enumerate",data:=.fields #[.none,.bool AT,.ref s.t,rawInt 0,.none,.none]}}):=
 .of_wp λ prog w A R s h=>by
  let(hp,gs,dr,tk,os):=s;let(hl,h):=h;let hsb:=sub_enumerate;let hL:AA8 _ l items:=(_,hl,rfl,n,rfl,)
  wp_walk using C08 hl
  show wpAny_stack_any λ st=>v6 ?_;split
  .rename_i c _ _ _ _ _;cases (c==Value.type "enumerate")<;>(wp_walk using C08 hl,B18 hL;show(_,rfl,h,))
  .wp_walk using C08 hl,B18 hL
   show(_,rfl,h,)
theorem EL(hL:s.heap.IsTuple l items)
 (h:∀h',IsEnum h' (s.t+1) s.heap.objs.size 0 .none->h'.IsTupleIter s.heap.objs.size l 0->(∀b o,s.heap.get? b=AC o->h'.get? b=AC o)->Q (.ref<|s.t+1) {s with heap:=h'}) :
 Ev (model prog w) A (call (.type "enumerate") [.ref l]) Q E s:=by
 let((c,dct,dt,sl),hl,hc,n,hd):=hL;let Ar:=hc;let sH:=hd;subst Ar sH;show callType_new F.called_enumerate ∅ (F.typeCall_enumerate_1 _) (F.newCall_enumerate_1 _) (λ obj=>F.args_object_init_2 obj _) F.entry_enumerate_new (Bx l items n dct sl) ⟨hl,?_⟩;let hz:(s.heap.push {cls:=.type "tuple_iterator",data:=.fields #[.ref l,.int 0 0]}).objs.size=s.t+1:=A58 ..;let he:=A18 (s.heap.push {cls:=.type "tuple_iterator",data:=.fields #[.ref l,.int 0 0]}) (o:={cls:=.type "enumerate",data:=.fields #[.none,.bool AT,.ref s.t,rawInt 0,.none,.none]}) rfl;rw[hz]at he ⊢;show((_,he,rfl,),h _ he ⟨_,A00 _<|A18 _ rfl,rfl,rfl⟩ λ b o x=>A00 _<|A00 _ x,)
def rg:∀ds k i,(Z.mz k ds)[i]?=(ds[i]?).map λ d=>Z.pair (.int<|(k+i:Nat)) d
|[],_,_=>by simp[Z.mz]
|d::ds,k,0=>by simp[Z.mz]
|d::ds,k,i+1=>by erw[Z.mz,C51,rg ds _ i];rw[show k+1+i=k+(i+1)by lia]
def yf:∀ds k,(Z.mz k ds).length=ds.n
|[],_=>rfl
|d::ds,k=>by simp[Z.mz,yf ds]
def uS{K:Db}(h1:∀i d H1,S H1->ds[i]?=AC d->(∃y,J.at_ i H1 y)/\∀y,J.at_ i H1 y->Den K H1 d y)(h2:∀H1,S H1->J.end_ ds.length H1):E4 K (ItE J) S (Z.mz 0 ds) where
 go:=λ i d H1 s hi=>by
  rw[rg]at hi;cases q:ds[i]? with
  |none=>rw[q]at hi;ext hi
  |some d0=>show(h1 i d0 H1 s q).1
 CH:=λ i d H1 H2 x s hi y=>by
  let(T,y,hT,rfl,rfl,hy):=y;rw[rg]at hi;cases q:ds[i]? with
  |none=>rw[q]at hi;ext hi
  |some d0=>rw[q]at hi;ext hi;let sm:av H1 (upd H1 T<|.tup [.int (i),y]):=bE hT;show(sm,fM (.inl<|.inl aA)<|au.cons ?_<|au.cons (((h1 i d0 H1 s q).2 y hy).up sm) au.nil,);rw[B01];show b8
 stop:=λ H1 s=>by rw[yf];show h2 H1 s
def En(I:Inv X B O H s):∀b∈[s.t+1,s.t],qr X B H b:=λ b hb=>by
 rcases A01.mp hb with rfl|hb
 .exact I.va (A67 _)<|I.bN.fresh<|A67 _
 .rw[A11]at hb;subst hb;show I.va (P3 _)<|I.bN.fresh<|P3 _
def ZQ.MY(hm:X.mg "enumerate"=Ch)(ha:ZQ.QE X a fa)(hs:starEach [a] X.J=[(AT,eval a X.J)]:=by rfl)(nS:Se a [] X.J:=by rfl)(hg:Gl X "enumerate":=by rfl):ZQ.QJ X (.Tuple elts x1 p2) (.Call (.Name "enumerate" p) [a] [] pos) (Z.F_ fa):=⟨by
 let ha:=ha.p;intro B s O H R I w;let(Y,ds,r,e,k):=w;let(d,ea,e):=ce e;let(ds0,ei,e):=ce e;ext e;show Call_<|jS I hg hm PyProof.Rows.boot_enumerate<|B10 (cj ((aM ha bH nS) pos B s O H (λ vs H1=>∃v,vs=[v]/\av H H1/\Den X.K H1 d v) I ⟨Y,d,r,ea,λ v H1 s1 d1=>(v,rfl,s1,d1,)⟩) ?_) hs rfl;rintro us s1 ⟨vs,H1,I1,r1,q1⟩;let(v,rfl,sm,hd):=q1;let(u,rfl,ru):=vals1 r1;cases d with
 |tup xs0=>
  ext ei;let(q,vs,rfl,hq,t):=bz.tup (.inl hd);ext ru;let(a6,rv,pt,hz):=I1.tuple hq;show EL pt λ h' he hit hk=>B65 he ?_;show(_,[s1.t+1,s1.t],_,ItE<|Io X.K q vs,H1,rfl,I1.kept hk,qD sT<|C10 _,((_,he,),hit,),En I1,k _ H1 sm<|uS (λ i d0 H2 s2 hi=>?_) λ H2 s2=>?_,)
  .let(y,hy,dy):=t.get hi;show((y,fS s2 hq,hy,),λ y' L7=>?_,);let:=L7.2;rw[hy]at this;ext this;show dy.ups s2
  .exact⟨fS s2 hq,t.n⟩
 |lst xs0=>
  ext ei;erw[Den]at hd;let(q,vs,rfl,hq,t):=hd;ext ru;let(a6,rv,pt,hz):=I1.list hq.sq;show call_enumerate_list pt.isList λ h' he hit Gb hk=>B65 he ?_;show(_,[s1.t+1,s1.t],_,ItE<|Q8 X.K q vs,H1,rfl,I1.kept hk,qD Fu<|C10 _,((_,he,),hit,),En I1,k _ H1 sm<|uS (λ i d0 H2 s2 hi=>?_) λ H2 s2=>?_,)
  .let(y,hy,dy):=t.get hi;show((y,(hq.mono s2).sq,hy,),λ y' L7=>?_,);let:=L7.2;rw[hy]at this;ext this;show dy.ups s2
  .exact⟨(hq.mono s2).sq,t.n⟩
 |str cs=>
  ext ei;erw[Den]at hd;rw[hd]at ru;let(tk,rfl):=ru;show call_enumerate_str λ h' he hit Gb hk=>B65 he ?_;show(_,[s1.t+1,s1.t],_,ItE<|L6 ⟨cs.q⟩,H1,rfl,I1.kept hk,qD σ2<|C10 _,((_,he,),hit,),En I1,k _ H1 sm<|uS (λ i d0 H2 s2 hi=>?_) λ H2 s2=>?_,)
  .rw[A07]at hi;cases hc:cs[i]? with
   |none=>rw[hc]at hi;ext hi
   |some c=>
    rw[hc]at hi;ext hi;show(⟨_,c,by calc hc,rfl⟩,?_,);rintro y ⟨c',Ar,hy⟩;let:cs[i]?=AC c':=by simpa using Ar
    rw[hc]at this;ext this;rw[hy];show ee
  .show(cs.map λ c=>Z.D.str [c]).length=cs.q.u;simp
 |non=>ext ei
 |bl _=>ext ei
 |int _=>ext ei
 |dct _ _=>ext ei⟩
structure Far(z TI TO i1 i2:Addr)(f1 f2:List Addr):Prop where
 ne:[z,TI,TO,i1,i2].Nodup
 a1:z∉f1/\TO∉f1/\i2∉f1
 a2:z∉f2/\TO∉f2/\i1∉f2
theorem GU{z TI TO i1 i2:δ}{Q:ζ->ι->Prop}(F:Far z TI TO i1 i2 f1 f2)(D1:Draws prog w A i1 f1 n1 P1 S1)(D2:Draws prog w A i2 f2 n2 P2 S2)
 (hz:IsZip s.heap z TI TO .none) (IA:IsPair s.heap TI (.ref i1) (.ref i2)) (JC:IsPair s.heap TO a b) (h1:S1 k s.e) (h2:S2 k s.e) (T8:k<n1) (hk2:k<n2)
 (hQ:∀x y h' tk,P1 k x->P2 k y->IsZip h' z TI TO (rawInt s.t)->IsPair h' TO x y->S1 (k+1) h'->S2 (k+1) h'->IsPair h' s.heap.objs.size x y->(∀c o,c∉[z,TO,i1,i2]->s.heap.get? c=AC o->h'.get? c=AC o)->Q (.ref s.t) {s with heap:=h',toks:=tk}) :
 Ev (model prog w) A (Builtin.«zip.__next__» ⟨[.ref z],[]⟩) (λ fin s'=>∃v,fin=.done (.ret v)/\Q v s') E s:=by
 let ne:=F.ne;erw[A44,A01,A39,A42,A71,B40,B41,B42]at ne;let((Zc,NR,S?,Ux),(TITO,TIi1,TIi2),(TOi1,TOi2),i12):=ne;let(zf1,Yf,_!):=F.a1;let(zf2,SU,Wu):=F.a2;let(hp,gs,dr,tk0,os):=s;change Ev _ _ (field (.ref z) 2>>=_) _ _ _;show T0<|A38 hz rfl (x:=.bool AT) rfl ?_;change Ev _ _ (field (.ref z) 3>>=_) _ _ _;show T0<|A38 hz rfl (x:=.ref TI) rfl<|T0<|A62 IA rfl ?_;change Ev _ _ (IR (.ref z)>>=_) _ _ _;show T0 ?_;unfold IR;show T0<|A38 hz rfl (x:=.none) rfl<|v6 ?_;erw[A28];show T0<|B32<|T0<|A38 hz rfl (x:=.ref TO) rfl<|T0<|B22 hz ∅ λ g1 T5 e1=>?_;let T5:=T5;let e1:=e1;show T0 ?_;erw[AC5,AD9,B35,AE4];show T0<|T0<|B66 ?_;change Ev _ _ (IN (.ref i1)>>=_) _ _ _;show T0<|D1.item k _ _ _ T8 (D1.frame k hp g1 h1 λ c hc o q=>e1.extBut c o (λ y=>zf1<|y▸hc) q) λ x g2 t2 hx h12 e2=>v6 ?_;let e2:=e2;let Md:=e2.extBut _ _ TOi1<|e1.extBut _ _ (A15 NR) JC;show T0<|A62 Md rfl<|T0<|C11 Md λ g3 Rm e3=>?_;let Rm:=Rm;let e3:KF TO g2 g3:=e3;show T0<|B02<|v6 ?_;show T0<|T0<|B66 ?_;change Ev _ _ (IN (.ref i2)>>=_) _ _ _;let h23:S2 k g3:=D2.frame k hp g3 h2 λ c hc o q=>e3.extBut c o (λ y=>SU<|y▸hc)<|e2.extBut c o (λ y=>Wu<|y▸hc)<|e1.extBut c o (λ y=>zf2<|y▸hc) q;show T0<|D2.item k _ _ _ hk2 h23 λ y g4 t4 hy h24 e4=>v6 ?_;let e4:KF i2 g3 g4:=e4;let aaG:IsPair g4 TO x b:=e4.extBut _ _ TOi2 Rm;show T0<|A62 aaG rfl<|T0<|C11 aaG λ g5 Rl e5=>?_;let Rl:IsPair g5 TO x y:=Rl;let e5:KF TO g4 g5:=e5;show T0<|B02<|v6<|v6 ?_;show T0<|A62 Rl rfl<|T0<|wpAny_newTuple ?_;let Gb:g5.Z=hp.Z:=by rw[e5.1,e4.1,e3.1,e2.1,e1.1]
 let hz5:IsZip g5 z TI TO .ellipsis:=e5.extBut _ _ NR<|e4.extBut _ _ Ux<|e3.extBut _ _ NR<|e2.extBut _ _ S? T5;let hzl:z<g5.Z:=A02 hz5;change Ev _ _ (TD (.ref z) (.ref g5.Z)>>=_) _ _ _;show T0 ?_;unfold TD;let hz6:IsZip (g5.push {cls:=.type "tuple",data:=.seq #[x,y]}) z TI TO .ellipsis:=A00 _ hz5;show T0<|B22 hz6 ∅ λ g7 hz7 e7=>?_;let hz7:IsZip g7 z TI TO (rawInt g5.Z):=hz7;show B22 hz7 ∅ λ g8 hz8 e8=>?_;let hz8:IsZip g8 z TI TO (rawInt g5.Z):=hz8;let up:∀c o,c≠z->g5.get? c=AC o->g8.get? c=AC o:=λ c o h q=>e8.extBut _ _ h<|e7.extBut _ _ h<|A00 _ q;let hT8:IsPair g8 g5.objs.size x y:=e8.extBut _ _ (A47 hzl)<|e7.extBut _ _ (A47 hzl)<|A18 _ rfl;let s1:S1 (k+1) g8:=D1.frame _ g2 g8 h12 λ c hc o q=>up c o (λ y=>zf1<|y▸hc)<|e5.extBut c o (λ y=>Yf<|y▸hc)<|e4.extBut c o (λ y=>_!<|y▸hc)<|e3.extBut c o (λ y=>Yf<|y▸hc) q;let s2:S2 (k+1) g8:=D2.frame _ g4 g8 h24 λ c hc o q=>up c o (λ y=>zf2<|y▸hc)<|e5.extBut c o (λ y=>SU<|y▸hc) q;let kp:∀c o,c∉[z,TO,i1,i2]->hp.get? c=AC o->g8.get? c=AC o:=λ c o hc q=>by erw[A01,A39,A42,A71]at hc;show up c o hc.1<|e5.extBut _ _ hc.2.1<|e4.extBut _ _ hc.2.2.2<|e3.extBut _ _ hc.2.1<|e2.extBut _ _ hc.2.2.1<|e1.extBut _ _ hc.1 q
 rw[Gb]at hz8 hT8;show v6 ⟨_,rfl,?_⟩;change Q (.ref g5.Z) _;rw[Gb];show hQ x y g8 t4 hx hy hz8 (up _ _ (A15 NR) Rl) s1 s2 hT8 kp
theorem JF{z TI TO i1 i2:δ}(F:Far z TI TO i1 i2 f1 f2)(D1:Draws prog w A i1 f1 n1 P1 S1)(D2:Draws prog w A i2 f2 n2 P2 S2)
 (hz:IsZip s.heap z TI TO .none) (IA:IsPair s.heap TI (.ref i1) (.ref i2)) (JC:IsPair s.heap TO a b) (h1:S1 k s.e) (h2:S2 k s.e) (WU:k=n1\/(k<n1/\k=n2))
 (hE:∀h' e tk,(∀c o,c∉[z,TO,i1,i2]->s.heap.get? c=AC o->h'.get? c=AC o)->(∃o,h'.get? e=AC o/\o.cls=.type "StopIteration")->E (.ref e) {s with heap:=h',toks:=tk}) :
 Ev (model prog w) A (Builtin.«zip.__next__» ⟨[.ref z],[]⟩) Q E s:=by
 let ne:=F.ne;erw[A44,A01,A39,A42,A71,B40,B41,B42]at ne;let((Zc,NR,S?,Ux),(TITO,TIi1,TIi2),(TOi1,TOi2),i12):=ne;let(zf1,Yf,_!):=F.a1;let(zf2,SU,Wu):=F.a2;let(hp,gs,dr,tk0,os):=s;change Ev _ _ (field (.ref z) 2>>=_) _ _ _;show T0<|A38 hz rfl (x:=.bool AT) rfl ?_;change Ev _ _ (field (.ref z) 3>>=_) _ _ _;show T0<|A38 hz rfl (x:=.ref TI) rfl<|T0<|A62 IA rfl ?_;change Ev _ _ (IR (.ref z)>>=_) _ _ _;show T0 ?_;unfold IR;show T0<|A38 hz rfl (x:=.none) rfl<|v6 ?_;erw[A28];show T0<|B32<|T0<|A38 hz rfl (x:=.ref TO) rfl<|T0<|B22 hz ∅ λ g1 T5 e1=>?_;let T5:=T5;let e1:=e1;show T0 ?_;erw[AC5,AD9,B35,AE4];show T0<|T0<|B66 ?_;change Ev _ _ (IN (.ref i1)>>=_) _ _ _;let h11:=D1.frame k hp g1 h1 λ c hc o q=>e1.extBut c o (λ y=>zf1<|y▸hc) q;rcases WU with rfl|⟨T8,rfl⟩
 .refine T0<|D1.done _ _ _ h11 λ g2 e e2 he=>?_;let(oe,WH,hce):=he;let e2:=e2;let hz2:IsZip g2 z TI TO .ellipsis:=e2 _ _ S? T5;let hez:e≠z:=λ q=>by subst q;rw[hz2]at WH;ext WH;simp at hce
  show B22 hz2 ∅ λ g3 _ e3=>hE g3 e tk0 (λ c o hc q=>?_) ⟨oe,e3.extBut _ _ hez WH,hce⟩;erw[A01,A39,A42,A71]at hc;show e3.extBut _ _ hc.1<|e2 _ _ hc.2.2.1<|e1.extBut _ _ hc.1 q
 .refine T0<|D1.item k _ _ _ T8 h11 λ x g2 t2 hx h12 e2=>v6 ?_;let e2:KF i1 g1 g2:=e2;let Md:IsPair g2 TO a b:=e2.extBut _ _ TOi1<|e1.extBut _ _ (A15 NR) JC;show T0<|A62 Md rfl<|T0<|C11 Md λ g3 Rm e3=>?_;let e3:KF TO g2 g3:=e3;show T0<|B02<|v6 ?_;show T0<|T0<|B66 ?_;change Ev _ _ (IN (.ref i2)>>=_) _ _ _;let h23:S2 k g3:=D2.frame k hp g3 h2 λ c hc o q=>e3.extBut c o (λ y=>SU<|y▸hc)<|e2.extBut c o (λ y=>Wu<|y▸hc)<|e1.extBut c o (λ y=>zf2<|y▸hc) q;show T0<|D2.done _ _ _ h23 λ g4 e e4 he=>?_;let(oe,WH,hce):=he;let e4:le i2 g3 g4:=e4;let hz4:IsZip g4 z TI TO .ellipsis:=e4 _ _ Ux<|e3.extBut _ _ NR<|e2.extBut _ _ S? T5;let hez:e≠z:=λ q=>by subst q;rw[hz4]at WH;ext WH;simp at hce
  show B22 hz4 ∅ λ g5 _ e5=>hE g5 e t2 (λ c o hc q=>?_) ⟨oe,e5.extBut _ _ hez WH,hce⟩;erw[A01,A39,A42,A71]at hc;show e5.extBut _ _ hc.1<|e4 _ _ hc.2.2.2<|e3.extBut _ _ hc.2.1<|e2.extBut _ _ hc.2.2.1<|e1.extBut _ _ hc.1 q
def ItP(J1 J2:Yo):It:=(λ i H=>(∃y,J1.at_ i H y)/\∃y,J2.at_ i H y,
 λ i H x H'=>∃T y1 y2,H T=Ch/\x=.ref T/\H'=upd H T (.tup [y1,y2])/\J1.at_ i H y1/\J2.at_ i H y2,
 λ i H=>(J1.end_ i H/\((∃y,J2.at_ i H y)\/J2.end_ i H))\/((∃y,J1.at_ i H y)/\J2.end_ i H),)
def _w(I:Inv X B O H s)(f:qr X B H b)(h:X.K.lookup b=AC o):False:=by
 let hb:=I.ok.mod.N? b o h;rcases f.2.2.2.1 with z|z
 .exact I.ok.Bq b o hb z
 .exact absurd (A02 (I.ok.bs b o hb).1)<|A86.mpr z
def tnZ(z TI TO i1 i2:δ)(n1 n2:Nat->ν->Prop)(i:Nat)(h:ν):Prop:=IsZip h z TI TO .none/\IsPair h TI (.ref i1) (.ref i2)/\(∃a b,IsPair h TO a b)/\n1 i h/\n2 i h
def Be(p:IsPair h T a b):∃o,h.get? T=AC o/\∀v,o.data≠.cell v:=
 ⟨_,p,λ v z=>by let z':=z;ext z'⟩
def AZ{K:FS}{z TI TO i1 i2:δ}(S1:Src P w K J1 i1 n1)(S2:Src P w K J2 i2 n2)(nd:[z,TI,TO,i1,i2].Nodup):
 Turn P w K (.Tuple elts x1 pos) (ItP J1 J2) [z,TI,TO,i1,i2] z (tnZ z TI TO i1 i2 n1 n2):=by
 let far:∀{X}{B}{O}{H}{s}{f1 f2},X.K=K->Inv X B O H s->(∀b∈[z,TI,TO,i1,i2],qr X B H b) ->
  (∀b∈f1,b=i1\/∃o,s.heap.get? b=AC o/\o.cls≠.type "enumerate" /\ o.cls≠.type "zip" /\ (H b=Ch->∃o',K.lookup b=AC o')) ->
  (∀b∈f2,b=i2\/∃o,s.heap.get? b=AC o/\o.cls≠.type "enumerate" /\ o.cls≠.type "zip" /\ (H b=Ch->∃o',K.lookup b=AC o'))->Far z TI TO i1 i2 f1 f2:=by
  intro X B O H s f1 f2 hK I hf g1 g2;subst hK;let DX:=nd;erw[A44,A01,A39,A42,A71,B40,B41,B42]at DX;let((Zc,NR,S?,Ux),(TITO,TIi1,TIi2),(TOi1,TOi2),i12):=DX;let no1:∀b,b∈[z,TI,TO,i1,i2]->b≠i1->b∉f1:=λ b hb uU hm=>by
   rcases g1 b hm with q|⟨o,_,_,_,q⟩
   .exact uU q
   .let(o',h'):=q (hf b hb).1;show _w I (hf b hb) h'
  let no2:∀b,b∈[z,TI,TO,i1,i2]->b≠i2->b∉f2:=λ b hb uU hm=>by
   rcases g2 b hm with q|⟨o,_,_,_,q⟩
   .exact uU q
   .let(o',h'):=q (hf b hb).1;show _w I (hf b hb) h'
  show(nd,(no1 z ∅ S?,no1 TO ∅ TOi1,no1 i2 ∅<|A15 i12,),(no2 z ∅ Ux,no2 TO ∅ TOi2,no2 i1 ∅ i12,),)
 show⟨by simp,λ i h st b hb=>?_,λ i h h' st k=>?_,?_,?_,λ A i s Q E st hQ=>C12 st.1 hQ⟩
 .let(hz,IA,(a,b',JC),h1,h2):=st;erw[A01,A39,A42]at hb;rcases hb with rfl|rfl|rfl|rfl|rfl
  .exact⟨_,hz,λ v z=>by let z':Data.fields _=Data.cell v:=z;ext z'⟩
  .exact Be IA
  .exact Be JC
  .let(o,q,r,_):=S1.obj i h h1;show(o,q,r,)
  .let(o,q,r,_):=S2.obj i h h2;show(o,q,r,)
 .let(hz,IA,(a,b',JC),h1,h2):=st;show(k z ∅ _ hz,k TI ∅ _ IA,(a,b',k TO ∅ _ JC,),S1.keep i h h' h1 λ o q=>k i1 ∅ o q,S2.keep i h h' h2 λ o q=>k i2 ∅ o q,)
 .intro X hP hw hK hc i B s O H E I hf st hg;let(hz,IA,(a,b',JC),h1,h2):=st;let(f1,m1,P1,T1,D1,nS,_,WR,W2,_,aan):=S1.draw X hP hw hK hc i B s O H I h1 (.inl hg.1);let(f2,m2,P2,T2,D2,v7,_,WQ,aaC,_,aam):=S2.draw X hP hw hK hc i B s O H I h2 (.inl hg.2);let(hi1,Q?):=W2 hg.1;let(hi2,T6):=aaC hg.2;let FR:=far hK I hf WR WQ;subst hP hw hK;let hT:s.TypeIs (.ref z) "zip":=(_,hz,rfl,)
  unfold pyNext;show T0<|wpAny_attempt<|B11 (name:=EQ "__next__") hT B67<|B13 B67 hT F.entry_zip_next (GU FR D1 D2 hz IA JC nS v7 hi1 hi2 λ x y h' tk px py z' to' s1' s2' tt kp=>v6 ?_)<|F.args_zip_next_1 _;show(_,rfl,?_,);let(y1,r1,a1):=Q? x px;let(y2,r2,a2):=T6 y py;let lt:∀{c o},s.heap.get? c=AC o->c≠s.t:=λ q=>A16<|A02 q;let hTn:H s.t=Ch:=I.fresh;let hTz:s.heap.objs.size≠z:=(lt hz).symm;show wpAny_letOwnedTupleGo_zip z' λ Ro hz2 Iq=>?_;let DX:=nd;erw[A44,A01,A39,A42,A71,B40,B41,B42]at DX;let((Zc,NR,S?,Ux),(TITO,TIi1,TIi2),(TOi1,TOi2),i12):=DX;let tt2:qq Ro s.heap.objs.size [x,y].toArray:=(_,Iq.extBut _ _ hTz tt,)
  let I2:Inv X B O (upd H s.heap.objs.size<|.tup [y1,y2]) {s with heap:=Ro,toks:=tk}:=
   Fc (ch:=[z,TO,i1,i2]) I (λ b o hb q=>Iq.extBut b o (λ e=>hb (by simp[e]))<|kp b o hb q) (λ b hb=>hf b (by erw[A01,A39,A42]at hb ⊢;rcases hb with e|e|e|e<;>simp[e])) (P3 _) tt2 (.cons r1<|.cons r2 .nil) (by change 2<=sizeLine;decide)
  let k1:n1 (i+1) Ro:=S1.keep _ _ _ (aan _ _ s1') λ o q=>Iq.extBut i1 o (A15 S?) q;let k2:n2 (i+1) Ro:=S2.keep _ _ _ (aam _ _ s2') λ o q=>Iq.extBut i2 o (A15 Ux) q;let kTI:IsPair Ro TI (.ref i1) (.ref i2):=Iq.extBut _ _ (A15 Zc)<|kp TI _ (by erw[A01,A39,A42,A71];show(A15 Zc,TITO,TIi1,TIi2,)) IA;show(.ref _,_,I2,rfl,(_,y1,y2,hTn,rfl,rfl,a1,a2,),(hz2,kTI,(x,y,Iq.extBut _ _ (A15 NR) to',),k1,k2,),λ b hb=>?_,);let hbT:b≠s.t:=by
   erw[A01,A39,A42]at hb;rcases hb with rfl|rfl|rfl|rfl|rfl
   .exact lt hz
   .exact lt IA
   .exact lt JC
   .let(o,q,_):=S1.obj i _ h1;show lt q
   .let(o,q,_):=S2.obj i _ h2;show lt q
  rw[ak hbT];show(hf b hb).1
 .intro X hP hw hK hc i B s O H E I hf st hg;let(hz,IA,(a,b',JC),h1,h2):=st;let g1:(∃y,J1.at_ i H y)\/J1.end_ i H:=by
   rcases hg with⟨q,_⟩|⟨q,_⟩
   .exact .inr q
   .exact .inl q
  let g2:(∃y,J2.at_ i H y)\/J2.end_ i H:=by
   rcases hg with⟨_,q⟩|⟨_,q⟩
   .exact q
   .exact .inr q
  let(f1,m1,P1,T1,D1,nS,_,WR,W2,aau,aan):=S1.draw X hP hw hK hc i B s O H I h1 g1;let(f2,m2,P2,T2,D2,v7,_,WQ,aaC,aat,aam):=S2.draw X hP hw hK hc i B s O H I h2 g2;let FR:=far hK I hf WR WQ;let he:i=m1\/(i<m1/\i=m2):=by
   rcases hg with⟨q,_⟩|⟨q,q2⟩
   .exact .inl<|aau q
   .exact .inr ⟨(W2 q).1,aat q2⟩
  subst hP hw hK;let hT:s.TypeIs (.ref z) "zip":=(_,hz,rfl,)
  unfold pyNext;show T0<|wpAny_attempt<|B11 (name:=EQ "__next__") hT B67<|B13 B67 hT F.entry_zip_next (JF FR D1 D2 hz IA JC nS v7 he λ h' e tk kp hx=>?_)<|F.args_zip_next_1 _;let(o,ho,Mb):=hx;show T0<|wpAny_isInstance (T:="StopIteration") (b:=Da) ⟨o,ho,Mb⟩ isSubtype_stop<|v6 ⟨rfl,?_⟩;show Fd (ch:=[z,TO,i1,i2]) I kp λ b hb=>hf b (by erw[A01,A39,A42]at hb ⊢;rcases hb with e| e| e| e<;>simp[e])
noncomputable abbrev zh(T1 T2:String)(h:ν)(l1 l2:δ):ν:=((((h.push {cls:=.type T1,data:=.fields #[.ref l1,.int 0 0]}).push {cls:=.type T2,data:=.fields #[.ref l2,.int 0 0]}).push {cls:=.type "tuple",data:=.seq #[.ref h.Z,.ref (h.Z+1)]}).push {cls:=.type "tuple",data:=.seq #[.none,.none]}).push
 {cls:=.type "zip",data:=.fields #[.none,.bool AT,.bool AT,.ref (h.Z+2),.ref (h.Z+3)]}
def Bv(l1 l2:δ)(xs ys:Array ζ):Meets (Builtin.«zip.__new__» ⟨[.type "zip",.ref l1,.ref l2],[]⟩) (λ _ R s=>s.heap.IsTuple l1 xs/\s.heap.IsTuple l2 ys/\R (.ok<|.ret<|.ref<|s.t+4) {s with heap:=zh "tuple_iterator" "tuple_iterator" s.heap l1 l2}):=
 .of_wp λ prog w A R s h=>by
  let(hp,gs,dr,tk,os):=s;let(hl1,Rh,h):=h;let Q_:=sub_zip;let q1:=hl1;let q2:AA8 (Shared.heap ⟨hp.push {cls:=.type "tuple_iterator",data:=.fields #[.ref l1,.int 0 0]},gs,dr,tk,os⟩) l2 ys:=Heap.IsTuple.push Rh _
  wp_walk using B18 q1,B18 q2
  erw[A58]at h ⊢;show(_,rfl,h,)
def Bw(l1 l2:δ)(xs ys:Array ζ):Meets (Builtin.«zip.__new__» ⟨[.type "zip",.ref l1,.ref l2],[]⟩) (λ _ R s=>s.heap.IsList l1 xs/\s.heap.IsTuple l2 ys/\R (.ok<|.ret<|.ref<|s.t+4) {s with heap:=zh "list_iterator" "tuple_iterator" s.heap l1 l2}):=
 .of_wp λ prog w A R s h=>by
  let(hp,gs,dr,tk,os):=s;let(hl1,Rh,h):=h;let Q_:=sub_zip;let q1:=hl1;let q2:AA8 (Shared.heap ⟨hp.push {cls:=.type "list_iterator",data:=.fields #[.ref l1,.int 0 0]},gs,dr,tk,os⟩) l2 ys:=Heap.IsTuple.push Rh _
  wp_walk using B19 q1,B18 q2
  erw[A58]at h ⊢;show(_,rfl,h,)
def Ax(T1 T2:String)(h:ν)(l1 l2:δ):IsZip (zh T1 T2 h l1 l2) (h.Z+4) (h.Z+2) (h.Z+3) .none/\IsPair (zh T1 T2 h l1 l2) (h.Z+2) (.ref h.Z) (.ref<|h.Z+1)/\IsPair (zh T1 T2 h l1 l2) (h.Z+3) .none .none /\
 (zh T1 T2 h l1 l2).get? h.Z=AC {cls:=.type T1,data:=.fields #[.ref l1,.int 0 0]}/\(zh T1 T2 h l1 l2).get? (h.Z+1)=AC {cls:=.type T2,data:=.fields #[.ref l2,.int 0 0]}/\∀c o,h.get? c=AC o->(zh T1 T2 h l1 l2).get? c=AC o:=by
 let z1:(h.push {cls:=.type T1,data:=.fields #[.ref l1,.int 0 0]}).objs.size=h.Z+1:=A58 ..;let z2:((h.push {cls:=.type T1,data:=.fields #[.ref l1,.int 0 0]}).push {cls:=.type T2,data:=.fields #[.ref l2,.int 0 0]}).objs.size=h.Z+2:=by rw[A58,z1]
 let z3:(((h.push {cls:=.type T1,data:=.fields #[.ref l1,.int 0 0]}).push {cls:=.type T2,data:=.fields #[.ref l2,.int 0 0]}).push {cls:=.type "tuple",data:=.seq #[.ref h.Z,.ref (h.Z+1)]}).objs.size=h.Z+3:=by rw[A58,z2]
 let z4:((((h.push {cls:=.type T1,data:=.fields #[.ref l1,.int 0 0]}).push {cls:=.type T2,data:=.fields #[.ref l2,.int 0 0]}).push {cls:=.type "tuple",data:=.seq #[.ref h.Z,.ref (h.Z+1)]}).push {cls:=.type "tuple",data:=.seq #[.none,.none]}).objs.size=h.Z+4:=by rw[A58,z3]
 show(?_,?_,?_,?_,?_,λ c o q=>?_,)
 .skip
  rw[<-z4];show A18 _ rfl
 .skip
  rw[<-z2];show A00 _<|A00 _<|A18 _ rfl
 .skip
  rw[<-z3];show A00 _<|A18 _ rfl
 .exact A00 _<|A00 _<|A00 _<|A00 _<|A18 _ rfl
 .skip
  rw[<-z1];show A00 _<|A00 _<|A00 _<|A18 _ rfl
 .exact A00 _<|A00 _<|A00 _<|A00 _<|A00 _ q
def tK:∀xs ys (i:Nat),(Z.lJ xs ys)[i]?=(xs[i]?).bind λ x=>(ys[i]?).map λ y=>Z.pair x y
|[],ys,i=>by ext ys<;>simp[Z.lJ]
|x::xs,[],i=>by simp[Z.lJ]
|x::xs,y::ys,0=>by simp[Z.lJ]
|x::xs,y::ys,i+1=>by simp[Z.lJ,tK xs ys i]
def Aw:∀xs ys,(Z.lJ xs ys).length=min xs.length ys.n
|[],ys=>by ext ys<;>simp[Z.lJ]
|x::xs,[]=>by simp[Z.lJ]
|x::xs,y::ys=>by simp[Z.lJ,Aw xs ys]
structure Gives(K:Db)(J:Yo)(S:Hp->Prop)(ds:List Z.D):Prop where
 at_:∀(i:Nat) d H1,S H1->ds[i]?=AC d->(∃y,J.at_ i H1 y)/\∀y,J.at_ i H1 y->Den K H1 d y
 end_:∀H1,S H1->J.end_ ds.length H1
def F'{K:FS}(g1:Gives K J1 S xs)(g2:Gives K J2 S ys):E4 K (ItP J1 J2) S (Z.lJ xs ys) where
 go:=λ i d H1 s hi=>by
  rw[tK]at hi;cases q:xs[i]? with
  |none=>rw[q]at hi;ext hi
  |some x=>
   rw[q]at hi;cases q2:ys[i]? with
   |none=>simp[q2]at hi
   |some y=>show((g1.at_ i x H1 s q).1,(g2.at_ i y H1 s q2).1,)
 CH:=λ i d H1 H2 x s hi y=>by
  let(T,y1,y2,hT,rfl,rfl,a1,a2):=y;rw[tK]at hi;cases q:xs[i]? with
  |none=>rw[q]at hi;ext hi
  |some x=>
   rw[q]at hi;cases q2:ys[i]? with
   |none=>simp[q2]at hi
   |some y=>erw[q2,C14,A69,B23]at hi;subst hi;let sm:av H1 (upd H1 T<|.tup [y1,y2]):=bE hT;show(sm,fM (.inl<|.inl aA)<|au.cons (((g1.at_ i x H1 s q).2 y1 a1).up sm)<|au.cons (((g2.at_ i y H1 s q2).2 y2 a2).up sm) au.nil,)
 stop:=λ H1 s=>by
  rw[Aw];let e1:=g1.end_ H1 s;let e2:=g2.end_ H1 s;rcases Nat.lt_trichotomy _ _ with h|h|h
  .rw[A72<|A78 h];show .inl ⟨e1,.inl (g2.at_ _ _ H1 s<|A05 h).1⟩
  .rw[A72<|B87 h];rw[<-h]at e2;show .inl ⟨e1,.inr e2⟩
  .rw[Nat.min_eq_right<|A78 h];show .inr ⟨(g1.at_ _ _ H1 s<|A05 h).1,e2⟩
def q!{K:Db}(h:nj K H q vs)(t:au K H ds vs):Gives K (Io K q vs) (gV H) ds:=
 ⟨λ i d H1 s hi=>by let(y,hy,dy):=t.get hi;show((y,fS s h,hy,),λ y' L7=>?_,);let:=L7.2;rw[hy]at this;ext this;show dy.ups s,λ H1 s=>(fS s h,t.n,)⟩
def IB{K:Db}(h:Uw K H q vs)(t:au K H ds vs):Gives K (Q8 K q vs) (gV H) ds:=
 ⟨λ i d H1 s hi=>by let(y,hy,dy):=t.get hi;show((y,(h.mono s).sq,hy,),λ y' L7=>?_,);let:=L7.2;rw[hy]at this;ext this;show dy.ups s,λ H1 s=>((h.mono s).sq,t.n,)⟩
section
variable{X:Cx}{a b:η}{pos p p2:Pos}{fa fb:Z.EF}{elts:U η}{x1:Nat}
def Gh(I:Inv X B O H s):∀b∈[s.t+4,s.t+2,s.t+3,s.t,s.t+1],qr X B H b:=λ b hb=>by
 let h:s.t<=b:=by erw[A01,A39]at hb;lia
 show I.va h<|I.bN.fresh h
theorem FX(n:Nat):[n+4,n+2,n+3,n,n+1].Nodup:=by erw[A44,A01,A39,B40,B42];lia
def ZQ.RV(hm:X.mg "zip"=Ch)(ha:ZQ.QE X a fa)(hb:ZQ.QE X b fb)(hs:starEach [a,b] X.J=[(AT,eval a X.J),(AT,eval b X.J)]:=by rfl)(v7:starEach [b] X.J=[(AT,eval b X.J)]:=by rfl)(h1:Se a [b] X.J:=by rfl)(h2:Se b [] X.J:=by rfl)(hg:Gl X "zip":=by rfl):ZQ.QJ X (.Tuple elts x1 p2) (.Call (.Name "zip" p) [a,b] [] pos) (Z.Ef fa fb):=⟨by
 intro B s O H R I w;let(Y,ds,r,e,k):=w;let(d1,ea,e):=ce e;let(d2,eb,e):=ce e;let(xs,ex,e):=ce e;let(ys,ey,e):=ce e;ext e;show Call_<|jS I hg hm (by kernel_rfl:bootBuiltins "zip"=AC (.type "zip"))<|B10 (cj ((aM ha.p (aM hb.p bH h2) h1) pos B s O H (λ vs H1=>∃v u,vs=[v,u]/\av H H1/\Den X.K H1 d1 v/\Den X.K H1 d2 u) I ⟨Y,d1,r,ea,λ v H1 s1 q1=>(Y,d2,r.up s1,eb,λ u H2 s2 q2=>(v,u,rfl,s1.trans s2,q1.up s2,q2,),)⟩) ?_) (by rw[hs,v7]) (by rw[v7];rfl);rintro us s1 ⟨vs,H1,I1,r1,q1⟩;let(v,u,rfl,sm,hd1,hd2):=q1;let(u1,u2,rfl,ru1,ru2):=vals2 r1;let afE:∃ys0,d2=.tup ys0/\ys0=ys:=by
  cases d2 with
  |tup ys0=>ext ey;show(_,rfl,rfl,)
  |non=>ext ey
  |bl _=>ext ey
  |int _=>ext ey
  |str _=>ext ey
  |lst _=>ext ey
  |dct _ _=>ext ey
 let(_,rfl,rfl):=afE;let(q2,vs2,rfl,Rb,t2):=bz.tup (.inl hd2);ext ru2;let(iw,rv2,pt2,_):=I1.tuple Rb;cases d1 with
 |tup xs0=>ext ex;let(q,vs,rfl,hq,t):=bz.tup (.inl hd1);ext ru1;let(a6,rv,pt,hz):=I1.tuple hq;let(f1,f2,f3,f4,f5,f6):=Ax "tuple_iterator" "tuple_iterator" s1.heap q q2;show callType_new F.called_zip ∅ (F.typeCall_zip_2 _ _) (F.newCall_zip_2 _ _) (λ obj=>F.args_object_init_3 obj _ _) F.entry_zip_new (Bv q q2 a6.toArray iw.q) ⟨pt,pt2,⟨_,f1,rfl⟩,C12 f1 ?_⟩;show(_,[s1.t+4,s1.t+2,s1.t+3,s1.t,s1.t+1],_,ItP (Io X.K q vs)<|Io X.K q2 vs2,H1,rfl,I1.kept f6,AZ sT sT<|FX _,(f1,f2,(_,_,f3,),(_,f4,rfl,rfl,),(_,f5,rfl,rfl,),),Gh I1,k _ H1 sm<|F' (q! hq t)<|q! Rb t2,)
 |lst xs0=>ext ex;erw[Den]at hd1;let(q,vs,rfl,hq,t):=hd1;ext ru1;let(a6,rv,pt,hz):=I1.list hq.sq;let(f1,f2,f3,f4,f5,f6):=Ax "list_iterator" "tuple_iterator" s1.heap q q2;show callType_new F.called_zip ∅ (F.typeCall_zip_2 _ _) (F.newCall_zip_2 _ _) (λ obj=>F.args_object_init_3 obj _ _) F.entry_zip_new (Bw q q2 a6.toArray iw.q) ⟨pt.x,pt2,⟨_,f1,rfl⟩,C12 f1 ?_⟩;show(_,[s1.t+4,s1.t+2,s1.t+3,s1.t,s1.t+1],_,ItP (Q8 X.K q vs)<|Io X.K q2 vs2,H1,rfl,I1.kept f6,AZ Fu sT<|FX _,(f1,f2,(_,_,f3,),(_,f4,rfl,rfl,),(_,f5,rfl,rfl,),),Gh I1,k _ H1 sm<|F' (IB hq t)<|q! Rb t2,)
 |non=>ext ex
 |bl _=>ext ex
 |int _=>ext ex
 |str _=>ext ex
 |dct _ _=>ext ex⟩
end
end ZS
namespace Z
def Pg:D->D->Res (U D)
|.lst [d],.int n=>guard (0<=n/\n<=16777216)<|.ok<|List.replicate n.toNat d
|_,_=>.bad
def Dv(d:D)(n:Int):Pg (.lst [d]) (.int n)=guard (0<=n/\n<=16777216) (.ok<|List.replicate n.toNat d):=rfl
def Pf(h:Pg x y=.ok ds):∃d n,x=.lst [d]/\y=.int n/\0<=n/\n<=16777216/\ds=Do n.toNat d:=by
 unfold Pg at h;split at h
 .let((h1,h2),e):=bO h;ext e;show(_,_,rfl,rfl,h1,h2,rfl,)
 .ext h
@[simp] def Wb(a:LF)(b:EF)(Y:Env):Res (U D):=(a Y).bind λ xs=>(b Y).bind λ y=>Pg (.lst xs) y
end Z
namespace ZS
open L2
section
variable{X:Cx}
def vw{K:Db}(h:Den K H d w):∀n,au K H (Do n d) (Do n w)
|0=>au.nil
|n+1=>au.cons h<|vw h n
def B4{w:V}:∀n,(Do n [w]).flatten=Do n w
|0=>rfl
|n+1=>by rw[A82,B14,B4];rfl
def ZQ.Xi(ha:ZQ.QL X a la)(hb:ZQ.QW X b fb):ZQ.QL X (.BinOp a .Mult b pos) (Z.Wb la fb):=⟨PE.imp (FH L2.Vr ha.p hb.p) <|by
 rintro O H Q ⟨Y,ds,r,e,k⟩;let(xs,ea,e):=ce e;let(y,eb,e):=ce e;let(d,n,hx,rfl,h0,h1,rfl):=Z.Pf e;ext hx;show(Y,[d],r,ea,λ l vs H1 s1 hn hv t=>(Y,_,r.up s1,eb,λ u H2 s2 d2=>?_,),);erw[au]at t;let(w,r',rfl,dw,rfl):=t;show⟨l,n,[w],rfl,d2.int,s2 _ _ hv,by lia,by lia,?_,λ z hz=>?_⟩
 .rw[A26];simp;lia
 .rw[B4];let Tj:=s1.trans s2;let s3:av H2 (upd H2 z<|.lst<|List.replicate n.toNat w):=bE hz;show k z _ _ (Tj.trans s3) (Tj.free hz) aA<|vw ((dw.up s2).up s3) _⟩
end
end ZS
namespace Z
def vb(bs:U Bool)(n:Nat)(b:SF)(ds:U D)(h:ds.n=bs.n):B3 bs n b ds=bc (b<|startB n bs ds):=by
 unfold B3;rw[M2 h];cases b _ with
 |bad=>rfl
 |ok f=>ext f<;>rfl
def ja:U D->ε (U<|U Nat)
|[]=>AC []
|.str c::r=>(ja r).map (c::·)
|_::_=>Ch
def b9(sep:U Nat):U (U Nat)->U Nat
|[]=>[]
|[x]=>x
|x::y::r=>x++sep++b9 sep (y::r)
def jd:D->D->Res D
|.str sep,.lst xs=>match ja xs with
 |some ts=>guard ((ts.map List.n).sum+ts.n*sep.n<=line)<|.ok<|.str<|b9 sep ts
 |none=>.bad
|_,_=>.bad
def Lb(h:jd x y=.ok d):∃sep xs ts,x=.str sep/\y=.lst xs/\ja xs=AC ts/\(ts.map List.n).sum+ts.n*sep.n<=16777216/\d=.str (b9 sep ts):=by
 unfold jd at h;split at h
 .split at h
  .rename_i hs;let(h1,e):=bO h;ext e;show(_,_,_,rfl,rfl,hs,h1,rfl,)
  .ext h
 .ext h
def kD:∀ts,ja (ts.map D.str)=AC ts
|[]=>rfl
|t::ts=>by simp[ja,kD ts]
def yb:∀ts,b9 [] ts=ts.flatten
|[]=>rfl
|[x]=>by simp[b9]
|x::y::r=>by rw[b9,yb];simp
def xI{ts:U _}(h:ts.flatten.n<=16777216):jd (.str []) (.lst<|ts.map D.str)=.ok (.str ts.flatten):=by change(match ja _ with|some ts=>guard _ _|none=>Res.bad)=_;rw[kD];erw[yb];rw[guard_pos];rw[List.length_flatten]at h;calc h
def xJ:D->D->Res D
|.str t,.str [c]=>.ok<|.int<|t.count c
|_,_=>.bad
@[simp] def acy(t:U Nat)(c:Nat):xJ (.str t) (.str [c])=.ok (.int<|t.count c):=rfl
def Lf(h:xJ x y=.ok d):∃t c,x=.str t/\y=.str [c]/\d=.int (t.count c):=by
 unfold xJ at h;split at h
 .ext h;show(_,_,rfl,rfl,rfl,)
 .ext h
def Ml(is:U Nat)(d:D)(Y:Env):Res Env:=match d with
|.tup ds=>iG is ds Y
|.lst ds=>iG is ds Y
|_=>.bad
def u7(is:U Nat)(ds:U D)(Y:Env):Ml is (.lst ds) Y=iG is ds Y:=rfl
end Z
namespace ZS
open L2
def S7(K:Db)(H:Hp)(b:Bool)(d:Z.D)(v:V):Prop:=if b=Da then jC K H d v else Den K H d v
def iN(K:Db)(H:Hp):U Bool->U Z.D->U V->Prop
|[],[],vs=>vs=[]
|b::bs,d::ds,vs=>∃v r,vs=v::r/\S7 K H b d v/\iN K H bs ds r
|_,_,_=>False
def iN.length{K:Db}:∀{bs}{ds}{vs},iN K H bs ds vs->vs.n=ds.n/\ds.n=bs.n
|[],[],vs,h=>by let:=h;subst this;show(rfl,rfl,)
|[],_::_,_,h=>h.elim
|_::_,[],_,h=>h.elim
|b::bs,d::ds,_,⟨v,r,e1,h1,h2⟩=>by let:=iN.length h2;subst e1;simp[this.1,this.2]
def iN.get{K:Db}{H:Hp}:∀{bs}{ds}{vs}{i:Nat}{b}{d},iN K H bs ds vs->bs[i]?=AC b->ds[i]?=AC d->∃v,vs[i]?=AC v/\S7 K H b d v
|[],[],_,_,_,_,_,e,_=>by simp at e
|[],_::_,_,_,_,_,h,_,_=>h.elim
|_::_,[],_,_,_,_,h,_,_=>h.elim
|b::bs,d::ds,_,0,b',d',⟨v,r,e1,h1,h2⟩,eb,ed=>by simp at eb ed;subst e1;subst eb;subst ed;show(v,rfl,h1,)
|b::bs,d::ds,_,i+1,b',d',⟨v,r,e1,h1,h2⟩,eb,ed=>by subst e1;let(u,q1,q2):=iN.get h2 (by calc eb) (by calc ed);show⟨u,by calc q1,q2⟩
def adD(K:Db)(bs:U Bool)(f:Z.AF):TA:=λ O H Q=>∃Y ds,RE K H O Y/\f Y=.ok ds/\∀vs H',av H H'->iN K H' bs ds vs->Q vs H'
abbrev DAF(X:Cx)(es:U η)(bs:U Bool)(f:Z.AF):Prop:=PA X es<|adD X.K bs f
structure ZQ.JE(X:Cx)(es:List Expr)(bs:List Bool)(f:Z.AF):Prop where p:DAF X es bs f
def ZQ.mZ:ZQ.JE X [] [] Z.ah:=⟨PA.imp bH <|by rintro O H Q ⟨Y,ds,r,e,k⟩;ext e;show k [] H (av.refl H) rfl⟩
def ZQ.gN(ha:ZQ.QE X e f)(hr:ZQ.JE X es bs g)(hs:Se e es X.J:=by rfl):ZQ.JE X (e::es) (AT::bs) (Z.ae f g):=⟨PA.imp (aM ha.p hr.p hs) <|by rintro O H Q ⟨Y,ds,r,e,k⟩;let(x,ea,e):=ce e;let(xs,eb,e):=ce e;ext e;show(Y,x,r,ea,λ v H1 s1 d1=>(Y,xs,r.up s1,eb,λ vs H2 s2 t=>k _ H2 (s1.trans s2) ⟨v,vs,rfl,Den.up d1 s2,t⟩,),)⟩
def Dk(K:Db)(bs:U Bool)(m:U Z.D->Z.Res Z.D):Sp:=λ vs H Q _=>∃ds d,iN K H bs ds vs/\m ds=.ok d/\∀v H',av H H'->Den K H' d v->Q v H'
theorem M_(F:fi X.prog X.w X.K X.mg X.base iC k g fd ps (Dk X.K bs m))(hr:bf k X.A)(hg:Gl X x)(hm:X.mg x=AC (.ref g))(hk:Fa X.K (.ref g)=Da)(hb:Binds X.K fd ps [])
 (ha:DAF X (e::es) bs ar) (fG:Nd x:=by kernel_rfl) (he:Se e es X.J:=by rfl) (dX:Pn pos es X.J:=by rfl) :
 DE X (.Call (.Name x p1) (e::es) [] pos) (Z.ai m ar):=
 PE.imp (pK F hr hg hm hk hb .nil nJ ha fG he dX) <|by rintro O H Q ⟨Y,d,r,e,k⟩;let(ds,ea,e):=ce e;show(Y,ds,r,ea,λ vs H1 s1 d1=>?_,);change Dk X.K bs m _ H1 Q E0;rw[A51];show(ds,d,d1,e,λ v H' s2 dv=>k v H' (s1.trans s2) dv,)
section
variable{K:Db}
def D8(b:Bool)(d:Z.D)(xs:U Z.D):Z.sF b d≠.own xs:=by unfold Z.sF;split<;>intro h<;>ext h
def D9(b:Bool)(d:Z.D)(ks:Z.DK):Z.sF b d≠.dc ks:=by unfold Z.sF;split<;>intro h<;>ext h
def F3(h:S7 K H b d v):RL K H (Z.sF b d) v:=by
 cases b with
 |false=>show(h)
 |true=>
  let h':=h;let st:(∀ds,d≠.lst ds)->(∀ks vs,d≠.dct ks vs)->Den K H d v:=λ n1 n2=>by
   rcases h' with h|⟨a,kd,ks,ds,u,e1,_⟩
   .exact h.n! n1
   .exact absurd e1<|n2 _ _
  cases d with
  |lst xs=>show h'
  |non=>show st (λ _ z=>nomatch z) λ _ _ z=>nomatch z
  |bl _=>show st (λ _ z=>nomatch z) λ _ _ z=>nomatch z
  |int _=>show st (λ _ z=>nomatch z) λ _ _ z=>nomatch z
  |str _=>show st (λ _ z=>nomatch z) λ _ _ z=>nomatch z
  |tup _=>show st (λ _ z=>nomatch z) λ _ _ z=>nomatch z
  |dct _ _=>show h'
def n_(t:iN K H bs ds vs)(hl:vs.n<=N.n):RS K H H (L2.start N vs) (Z.startB N.length bs ds):=by
 let(ψ,hbl):=t.n;let hz:(ci (λ b d=>AC<|Z.sF b d) bs ds).length=ds.n:=by simp[hbl]
 let key:∀(i:Nat) l,(Z.startB N.length bs ds)[i]?=AC (AC l)->∃b d,l=Z.sF b d/\∃v,(L2.start N vs)[i]?=AC (AC v)/\S7 K H b d v:=by
  intro i l e;unfold Z.startB at e;by_cases hi:i<ds.n
  .rw[A37 (by rw[hz];show hi)]at e;let v!:i<bs.n:=by lia
   rw[List.getElem?_zipWith,A05 v!,A05 hi]at e;simp only at e;ext e;let(v,h1,h2):=t.get (A05 v!) (A05 hi);show(_,_,rfl,v,?_,h2,);unfold L2.start;rw[A37 (by simp;lia),A07,h1];rfl
  .rw[A45 (by rw[hz];lia),A52]at e;split at e<;>ext e
 let Bp:∀(i:Nat) xs,(Z.startB N.length bs ds)[i]?≠AC (AC<|.own xs):=λ i xs e=>by let(b,d,h,_):=key i _ e;show D8 b d xs h.c
 show⟨av.refl H,(?_,λ i l e=>?_,λ i j xs ys q e1=>absurd e1<|Bp i xs,),λ i xs q e1=>absurd e1<|Bp i xs,λ i xs e1=>?_,iM.non λ i ks e=>by let(b,d,h,_):=key i _ e;show D9 b d ks h.c⟩
 .unfold Z.startB L2.start;rw[A23,A23,hz,A80,A04,A80,ψ]
 .let(b,d,rfl,v,h1,h2):=key i l e;show(v,h1,F3 h2,)
 .let(b,d,h,v,h1,h2):=key i _ e1;let:=F3 h2;rw[<-h]at this;show(v,h1,jC.z this,)
def aaR{st:θ}{f:δ}{fd:υ}{N ps:U Str}{bs:U Bool}{k:Nat}{b:Z.SF}(kA:bs.n=ps.n)(F:CJ K x qual st f fd)(S:aT N ps (aa st))
 (hb:∀ aU A outer s H E,bf k (A.deeper<|envOfC qual (aa st) s.heap.objs.size f aU) ->
  Om (dG iC P w K mg base N qual (aa st) f aU A outer s H E).fQ H (az st) b):fi P w K mg base iC (k+1) f fd ps (Dk K bs<|Z.B3 bs N.length b):=by
 let ψ:∀vs H Q E,Dk K bs (Z.B3 bs N.length b) vs H Q E->vs.n=ps.n:=by rintro vs H Q E ⟨ds,d,t,e,_⟩;let:=t.n;lia
 show F.ok S ψ λ aU A outer s H vs Q E hr h=>(_,hb aU A outer s H E hr,?_,);let hl:=ψ vs H Q E h;let(ds,d,t,e,k):=h;let dX:ps.n<=N.n:=by let:=A13 List.length S.pre;rw[A32]at this;lia
 let rs:RS K H H (L2.start N vs) (Z.startB N.length bs ds):=n_ t ∅;unfold Z.B3 at e;split at e
 .cases eb:b (Z.startB N.length bs ds)with
  |bad=>rw[eb]at e;ext e
  |ok fl=>
   rw[eb]at e;show(_,fl,rs,eb,?_,);cases fl with
   |rt d'=>ext e;show λ v H' s' dv=>k v H' s' dv
   |nx Y'=>ext e;show λ O' H' _ Fy=>k .non H' Fy.same kY
   |bk Y'=>ext e
   |ct Y'=>ext e
 .ext e
structure E7(P:Program)(w:World)(K:Db)(mg:Str->Option Value)(base:Heap)(x:Str)(k:Nat)(ps:List Str)(bs:List Bool)(m:List Z.D->Z.Res Z.D):Prop where
 ex:∃g fd,fi P w K mg base iC k g fd ps (Dk K bs m)/\mg x=AC (.ref g)/\Fa K (.ref g)=Da/\Binds K fd ps []
def E7.mk'{st:θ}(kA:bs.n=ps.n)(d:Def K mg x st ps)(S:aT N ps (aa st))
 (hb:∀ f aU A outer s H E,bf k (A.deeper<|envOfC x (aa st) s.heap.objs.size f aU) ->
  Om (dG iC P w K mg base N x (aa st) f aU A outer s H E).fQ H (az st) b):E7 P w K mg base x (k+1) ps bs (Z.B3 bs N.length b):=by
 let(f,fd,F,hm,v!):=d.ex;show(f,fd,aaR kA F S<|hb f,hm,F.kp,v!,)
end
theorem ZQ.Cn(C:E7 X.prog X.w X.K X.mg X.base x k ps bs m)(hr:bf k X.A)(hg:Gl X x)
 (ha:ZQ.JE X (e::es) bs ar) (fG:Nd x:=by kernel_rfl) (he:Se e es X.J:=by rfl) (dX:Pn pos es X.J:=by rfl) :
 ZQ.QE X (.Call (.Name x p1) (e::es) [] pos) (Z.ai m ar):=
 ⟨by let(_,_,F,hm,hk,hb):=C.ex;show M_ F hr hg hm hk hb ha.p fG he dX⟩
end ZS
namespace ZQ
open L2 ZS
def XT{K:Db}{st:θ}(kA:bs.n=ps.n)(d:ZS.Def K mg x st ps)(hb:∀{f}{aU}{A}{outer}{s}{H}{E},N.Nodup->(A.deeper<|envOfC x (aa st) s.heap.objs.size f aU).units+64<cLine->bf k (A.deeper<|envOfC x (aa st) s.heap.objs.size f aU)->yx (dG iC P w K mg base N x (aa st) f aU A outer s H E).fQ H (az st) b)(S:aT N ps (aa st):=by show ZS.B1):ZS.E7 P w K mg base x (k+1) ps bs (Z.B3 bs N.length b):=ZS.E7.mk' kA d S λ f aU A outer s H E hr=>(hb S.nd hr.units hr).p
end ZQ
namespace ZS
open L2
def vo(uU:l≠it):∀n i s Q,s.heap.IsListIter it l i->s.heap.IsList l items->i+n<=items.u ->
 (∀h',h'.IsListIter it l (i+n)->KF it s.heap h'->Q ((items.toList.drop i).take n) {s with heap:=h'})->Ev (model prog w) A (draw (.ref it) n) Q E s
|0,i,s,Q,hit,_,_,hQ=>by show v6 (by calc hQ _ hit (Heap.SameBut.refl ..))
|n+1,i,s,Q,hit,ht,hle,hQ=>by
 let j?:i<items.u:=by lia
 show T0<|wpAny_pyNext_list_item hit ht (x:=items[i]) (by simp[j?]) λ h₁ WM hs₁=>?_;show T0<|A49<|vo uU n _ _ _ WM (ht.extBut hs₁.extBut uU) ∅ λ h₂ afl hs₂=>v6 ?_;let hd:items.toList.drop i=items[i]::items.toList.drop (i+1):=by simp[A99,j?]
 let:=hQ h₂ (by rw[show i+(n+1)=i+1+n by lia];show afl)<|hs₁.trans hs₂;rw[hd,List.take_succ_cons]at this;show this
def pd(hh:A.handled=Ch)(ht:s.heap.IsList t items)
 (hQ:∀h',le s.heap.objs.size s.heap h'->Q items.toList {s with heap:=h'}):Ev (model prog w) A (unpackItems (.ref t) items.size Ch) Q E s:=by
 let j?:t≠s.t:=by let(o,ho,_):=ht;show A16<|A02 ho
 show T0 ?_
 .skip
  show T0<|wpAny_specialOf ht.typeIs slot_list_iter.lookup ?_;show v6 ?_;erw[A46,A59];show T0<|A49<|B19 ht ?_;show T0<|A49<|vo j? _ 0 _ _ ⟨_,A18 _ rfl,rfl,rfl⟩ (ht.push _) ∅ λ h₁ WM hs₁=>?_;let hall:List.take items.size (List.drop 0 items.y)=items.y:=by rw[List.drop_zero];show B68 ∅
  rw[hall];rw[W1 ∅];let ht₁:=(ht.push _).extBut hs₁.extBut j?;show T0<|A49<|wpAny_pyNext_list_end hh WM ht₁ ∅ λ h₂ he₂=>?_;erw[Option.isSome_none,A46,A59];show v6<|hQ h₂ λ b o hb e=>he₂ b o hb<|hs₁.extBut b o hb<|A00 _ e
theorem o4(hh:A.handled=Ch)(ht:s.heap.IsList t items)
 (hn:(assignEach elts env).length=items.u) (aae:(assignEach elts env).findIdx? (·.1)=Ch)
 (h:∀h',le s.heap.objs.size s.heap h'->Ev (model prog w) A (assignInOrder ((assignEach elts env).map (·.2)) items.y) Q E {s with heap:=h'}) :
 Ev (model prog w) A (assign (.Tuple elts x1 pos) env<|.ref t) Q E s:=by
 rw[assign_Tuple];show T0<|B36 ?_;unfold unpack;rw[hn,aae];show T0<|A49<|pd hh ht h
def aaN(K:Db)(n:Nat)(t:Yh):TG:=λ v O H Q=>∃a xs,v=.ref a/\jO K H a xs/\xs.n=n/\t xs O H Q
def Vg(hc:X.calm=Da)(h:NJ X es t)
 (hn:(assignEach es X.J).length=n:=by rfl) (pZ:(assignEach es X.J).findIdx? (·.1)=Ch:=by rfl):PG X (.Tuple es k pos) (aaN X.K n t):=by
 intro B s O H v u Q I r hw;let(a,xs,e1,hq,hl,hw):=hw;subst e1;ext r;let(a6,rv,ht,hz):=I.list hq;show o4 (I.ok.hd hc) ht.isList (by simp[hn,<-hl,rv.n]) pZ λ h' hx=>?_;let I1:=I.kept (t':=s.toks) λ b o e=>hx b o (A16<|A02 e) e;show h B _ O H xs _ Q I1 (by calc rv) hw
def u9:∀is ds Y Y',Z.iG is ds Y=.ok Y'->ds.n=is.n:=by
 intro is
 induction is with
 |nil=>intro ds Y Y' e;cases ds with
  |nil=>rfl
  |cons d ds=>ext e
 |cons i is ih=>intro ds Y Y' e;cases ds with
  |nil=>ext e
  |cons d ds=>simp[ih ds _ _ e]
def ZQ.Xl(hc:X.calm=Da)(h:ZQ.QGs X H0 es is)(hl:is.n=n)(hn:(assignEach es X.J).length=n:=by rfl)(pZ:(assignEach es X.J).findIdx? (·.1)=Ch:=by rfl):ZQ.QG X H0 (.Tuple es x1 pos) (Z.Ml is):=⟨by
 let h:=h.p;intro B s O H v u Q I r hw;let(Y,d,Y',rs,hd,e,k):=hw;unfold Z.Ml at e;split at e
 .rename_i ds;let(q,vs,rfl,hq,t):=bz.tup (.inl hd);show KD hc h hn pZ B s O H _ u Q I r ⟨q,vs,rfl,hq,by rw[t.n,u9 is ds Y Y' e];show hl,Y,ds,Y',rs,t,e,k⟩
 .rename_i ds;let(q,vs,rfl,hq,t):=bz.lst (.inl hd);show Vg hc h hn pZ B s O H _ u Q I r ⟨q,vs,rfl,hq,by rw[t.n,u9 is ds Y Y' e];show hl,Y,ds,Y',rs,t,e,k⟩
 .ext e⟩
def AI:∀{ts}{a6},Vals (ts.map V.str) a6->∃l,strValues l=a6/\l.map (·.1)=ts
|[],a6,h=>by ext h;show([],rfl,rfl,)
|t::ts,a6,h=>by
 cases h with
 |cons r rr=>let(tk,rfl):=r;let(l,rfl,h2):=AI rr;show⟨(t,tk)::l,rfl,by rw[<-h2];rfl⟩
def rJoin(K:Db):V->U V->Hp->VK->Prop:=λ x vs H Q=>∃sep q ts,x=.str sep/\vs=[.ref q]/\jO K H q (ts.map V.str)/\JoinOk sep ts=Da/\Q (.str<|Txt.join sep ts) H
def Ql:Yl X "str.join" (rJoin X.K):=by intro B s O H x vs v us Q I rx rv h;let(sep,q,ts,rfl,rfl,hq,bN,k):=h;let(t,rfl):=rx;let(u,rfl,ru):=rv.one;ext ru;let(a6,r,pl,hz):=I.list hq;let(l,rfl,hl):=AI r;show SC.join pl.isList hl bN λ t' c=>(.str _,H,I.tok c,(t',rfl,),k,)
def dY(cs:U Nat):Str:=⟨cs.q⟩
def vv{K:FS}:∀{xs}{ts}{vs},Z.ja xs=AC ts->au K H xs vs->vs=(ts.map dY).map V.str
|[],ts,vs,e,h=>by ext e;erw[au]at h;subst h;rfl
|x::xs,ts,vs,e,h=>by
 cases x with
 |str c=>
  let e':(Z.ja xs).map _=AC ts:=e;cases q:Z.ja xs with
  |none=>rw[q]at e';ext e'
  |some US=>rw[q]at e';ext e';erw[au]at h;let(v,r,rfl,hv,ht):=h;erw[Den]at hv;rw[hv,vv q ht];rfl
 |non=>ext e
 |bl _=>ext e
 |int _=>ext e
 |tup _=>ext e
 |lst _=>ext e
 |dct _ _=>ext e
def kL(cs:U Nat):(dY cs).length=cs.n:=by simp[dY,Str.length]
def F1(a b:U Nat):dY a++dY b=dY (a++b):=by change(⟨a.q++b.q⟩:Str)=_;simp[dY]
def F8(sep:U Nat):∀ts,Txt.join (dY sep) (ts.map dY)=dY (Z.b9 sep ts):=by
 intro ts;change AA5 _ _=_;rw[io]
 induction ts with
 |nil=>rfl
 |cons x ts ih=>
  cases ts with
  |nil=>rfl
  |cons y r=>change dY x++dY sep++Str.join _ _=_;rw[ih,F1,F1];rfl
def QX{ts:U _}(h:(ts.map List.n).sum+ts.n*sep.n<=16777216):JoinOk (dY sep) (ts.map dY)=Da:=by
 unfold JoinOk;rw[StrLaws.joinTotal];let e:(ts.map dY).map (·.length)=ts.map List.n:=by rw[A17];show A84 λ x _=>kL x
 rw[e,A04,kL];erw[Builtin.Str.tooLong,AA4,decide_eq_false_iff_not,A86];rw[A26];show h
theorem ZQ.R8(ho:ZQ.QE X o fa)(hb:ZQ.QW X b fb)
 (jg:attributeBase o "join" X.env (eval o X.J)=eval o X.J:=by rfl)
 (oG:((backTo p2<|starEach (b::[]) X.J).all (λ x=>!x.1)&&(backToKw p2<|keywordEach [] X.J).all (λ x=>x.1.isSome)
  && decide ((b::[]).length+([]:U π).length+(if([]:U π).isEmpty then 0 else 1)<30))=Da:=by rfl)
 (jf:(p1.endLine==p2.line)=Da:=by rfl) (nS:Se b [] X.J:=by rfl) (f':Pn p2 [] X.J:=by rfl) :
 ZQ.QE X (.Call (.Attribute o "join" p1) [b] [] p2) (Z.eB Z.jd fa fb):=
 ⟨PE.imp (uB B69 PySem.F.slot_str_join PySem.F.type_str_join Ql ho.p (aM hb.p bH nS) jg oG jf nS f') <|by rintro O H Q ⟨Y,d,r,e,k⟩;let(x,ea,e):=ce e;let(y,eb,e):=ce e;let(sep,xs,ts,rfl,rfl,et,hl,rfl):=Z.Lb e;show(Y,_,r,ea,λ v H1 s1 d1=>?_,);erw[Den]at d1;subst d1;show(rfl,Y,_,r.up s1,eb,λ u H2 s2 d2=>?_,);let(q,vs,rfl,hq,t):=d2.lst;rw[vv et t]at hq;show(dY sep,q,ts.map dY,rfl,rfl,hq,QX hl,?_,);rw[F8];show k _ H2 (s1.trans s2) ee⟩
def zf(x:Str)(c:Nat)(lim:Nat):∀n lo st,st.2<=lo->st.1.size+n<=lim->lo+n=x.n+1 ->
 (forIn (List.range' lo n) st<|StrLaws.occBody x ⟨#[c]⟩ x.length lim).run.fst.size=st.1.size+(x.cps.toList.drop lo).count c:=by
 intro n
 induction n with
 |zero=>intro lo st h1 h2 h3;let:x.cps.toList.drop lo=[]:=B70 (by simp;change x.n<=lo;lia);simp[this]
 |succ n ih=>
  intro lo st h1 h2 h3;rw[List.range'_succ,B35];by_cases hlo:lo<x.n
  .let WK:lo<x.cps.y.n:=by rw[B50];show hlo
   let Q_:Uf x ⟨#[c]⟩ lo=decide (x.cps.toList[lo]=c):=by
    let so:=StrLaws.subAt_one x c lo;rw[A65,B43];constructor
    .intro h;let:=so.mp ⟨by change lo+1<=x.n;lia,h⟩;rw[A05 WK]at this;show f8 this
    .intro h;show(so.mpr (by rw[A05 WK,h])).2
   rw[A99 WK];by_cases hc:x.cps.toList[lo]=c
   .let BQ:((st.1.size<lim/\st.2<=lo)/\lo+(⟨#[c]⟩:Str).length<=x.n)/\Uf x ⟨#[c]⟩ lo=Da:=⟨⟨⟨by lia,h1⟩,by change lo+1<=x.n;lia⟩,by rw[Q_];simp[hc]⟩
    let e:Re x ⟨#[c]⟩ x.length lim lo st=pure (Gc (st.1.push lo,lo+1)):=by unfold Re;rw[M2 BQ];rfl
    rw[e];let:=ih (lo+1) (st.1.push lo,lo+1) (P3 _) (by simp;lia) ∅;erw[pure_bind];rw[this,hc,List.count_cons_self];erw[Array.size_push];lia
   .let BQ:¬(((st.1.size<lim/\st.2<=lo)/\lo+(⟨#[c]⟩:Str).length<=x.n)/\Uf x ⟨#[c]⟩ lo=Da):=λ z=>by rw[Q_]at z;show hc<|A98 z.2
    let e:Re x ⟨#[c]⟩ x.length lim lo st=pure (Gc (st.1,st.2)):=by unfold Re;rw[W1 BQ]
    rw[e];let:=ih (lo+1) (st.1,st.2) (by simp;lia) (by simp;lia) ∅;erw[pure_bind];rw[this,List.count_cons_of_ne hc]
  .let BQ:¬(((st.1.size<lim/\st.2<=lo)/\lo+(⟨#[c]⟩:Str).length<=x.n)/\Uf x ⟨#[c]⟩ lo=Da):=λ z=>hlo (by let:=z.1.2;change lo+1<=x.n at this;lia);let e:Re x ⟨#[c]⟩ x.length lim lo st=pure (Gc (st.1,st.2)):=by unfold Re;rw[W1 BQ]
   rw[e];let:=ih (lo+1) (st.1,st.2) (by simp;lia) (by simp;lia) ∅;erw[pure_bind];rw[this];let h5:x.cps.toList.drop lo=[]:=B70 (by simp;change x.n<=lo;lia);let h6:x.cps.toList.drop (lo+1)=[]:=B70 (by simp;change x.n<=lo+1;lia);rw[h5,h6]
def HR(t:U Nat)(c:Nat):(Fk (dY t) ⟨#[c]⟩ 0 (dY t).length<|(dY t).length+1).length=t.count c:=by rw[StrLaws.occ_eq];let:=zf (dY t) c ((dY t).length+1) ((dY t).length+1) 0 (#[],0) (P3 _) ∅ ∅;simpa[dY]using this
def Z2:V->U V->Hp->VK->Prop:=λ x vs H Q=>∃t c,x=.str (dY t)/\vs=[.str ⟨#[c]⟩]/\Q (.int ((t.count c:Nat):Int)) H
def Qm:Yl X "str.count" Z2:=by intro B s O H x vs v us Q I rx rv h;let(t,c,rfl,rfl,k):=h;let(tk,rfl):=rx;let(u,rfl,ru):=rv.one;let(tk2,rfl):=ru;show call_gives F.slot_str_count (A81 _ _ _) F.entry_str_count (F.args_str_count_2 _ _) (gives_str_count _ _ tk tk2) ?_;rw[HR];show(.int _,H,I.tok _,(_,rfl,),k,)
theorem ZQ.R_(ho:ZQ.QW X o fa)(hb:ZQ.QW X b fb)
 (jg:attributeBase o "count" X.env (eval o X.J)=eval o X.J:=by rfl)
 (oG:((backTo p2<|starEach (b::[]) X.J).all (λ x=>!x.1)&&(backToKw p2<|keywordEach [] X.J).all (λ x=>x.1.isSome)
  && decide ((b::[]).length+([]:U π).length+(if([]:U π).isEmpty then 0 else 1)<30))=Da:=by rfl)
 (jf:(p1.endLine==p2.line)=Da:=by rfl) (nS:Se b [] X.J:=by rfl) (f':Pn p2 [] X.J:=by rfl) :
 ZQ.QE X (.Call (.Attribute o "count" p1) [b] [] p2) (Z.eB Z.xJ fa fb):=
 ⟨PE.imp (uB B69 PySem.F.slot_str_count PySem.F.type_str_count Qm ho.p (aM hb.p bH nS) jg oG jf nS f') <|by rintro O H Q ⟨Y,d,r,e,k⟩;let(x,ea,e):=ce e;let(y,eb,e):=ce e;let(t,c,rfl,rfl,rfl):=Z.Lf e;show(Y,_,r,ea,λ v H1 s1 d1=>?_,);let Sj:=d1.str;subst Sj;show(rfl,Y,_,r.up s1,eb,λ u H2 s2 d2=>?_,);let Si:=d2.str;subst Si;show(t,c,rfl,rfl,k _ H2 (s1.trans s2) b8,)⟩
end ZS
namespace Z
@[simp] def jy(_:Env):Res Fl:=.bad
@[simp] def vk(_:Env):Res D:=.bad
def FQ:D->D->Res D
|.tup [d],.int n=>guard (0<=n/\n<=1000000)<|.ok<|.tup<|List.replicate n.toNat d
|_,_=>.bad
def K_(h:FQ x y=.ok d):∃e n,x=.tup [e]/\y=.int n/\0<=n/\n<=1000000/\d=.tup (Do n.toNat e):=by
 unfold FQ at h;split at h
 .let((h0,h1),e):=bO h;ext e;show(_,_,rfl,rfl,h0,h1,rfl,)
 .ext h
end Z
namespace ZS
open L2
def ZQ.Gr:ZQ.yx X H0 wx Z.jy:=⟨by rintro _ _ _ _ _ _ ⟨_,_,_,e,_⟩;show nomatch e⟩
def ZQ.Xz:ZQ.QE X e Z.vk:=⟨by rintro _ _ _ _ _ _ ⟨_,_,_,e,_⟩;show nomatch e⟩
def XU{K:Db}(C:Av P w K mg base x k ps m)(hm:∀ds d,m ds≠.ok d:=by intro ds d h;unfold Z.fn at h;split at h<;>ext h):Av P w K mg base x k ps (λ _=>.bad):=by
 let(g,fd,F,h):=C.ex;let:yU K m=yU K λ _=>.bad:=by
  funext vs H Q E
  show propext ⟨by rintro⟨ds,d,_,e,_⟩;show absurd e<|hm ds d,by rintro⟨ds,d,_,e,_⟩;show nomatch e⟩
 rw[this]at F;show(g,fd,F,h,)
structure S5(K:Db)(x qual:Str)(st:Stmt)(f:Addr)(fd:FuncData):Prop where
 ex:∃(oc:Value)(od:Option Addr)(dV kV doc pm:Value)(an:Option Addr)(aU ct:Value)(zc:Array (Option Value)),
  fd=Ps x qual (bg st) (az st) (aa st) dV kV doc pm an aU ct/\K.lookup f=AC ⟨oc,od,.func fd,zc⟩/\SL K aU qual=Da
 kp:Fa K (.ref f)=Da
section
variable{K:Db}
def S5.ok{st:θ}(F:S5 K x qual st f fd)(S:aT N ps (aa st))(len:∀vs H Q E,sp vs H Q E->vs.n=ps.n)
 (BR:∀ aU A outer s H vs Q E,bf k (A.deeper<|envOfC qual (aa st) s.heap.objs.size f aU)->sp vs H Q E ->
  ∃t,rq (dG iC P w K mg base N qual (aa st) f aU A outer s H E).fQ (az st) t/\t {nx:=λ _ H'=>Q .non H',rt:=Q} (start N vs) H):fi P w K mg base iC (k+1) f fd ps sp:=by
 let(oc,od,dV,kV,doc,pm,an,aU,ct,zc,rfl,lk,rT):=F.ex;show B2 lk rT S len λ A outer s H vs Q E hr Ip=>?_;let(t,h,q):=BR aU A outer s H vs Q E hr Ip;show(t,h.fQ,q,)
def af5{st:θ}(F:S5 K x qual st f fd)(S:aT N ps (aa st))
 (hb:∀ aU A outer s H E,bf k (A.deeper<|envOfC qual (aa st) s.heap.objs.size f aU) ->
  Om (dG iC P w K mg base N qual (aa st) f aU A outer s H E).fQ H (az st) b):fi P w K mg base iC (k+1) f fd ps (yU K<|Z.fn ps.length N.length b):=by
 let ψ:∀vs H Q E,yU K (Z.fn ps.length N.length b) vs H Q E->vs.n=ps.n:=by
  rintro vs H Q E ⟨ds,d,t,e,_⟩;unfold Z.fn at e;split at e
  .rename_i h;rw[t.n];show h
  .ext e
 show F.ok S ψ λ aU A outer s H vs Q E hr h=>(_,hb aU A outer s H E hr,?_,);let hl:=ψ vs H Q E h;let(ds,d,t,e,k):=h;let dX:ps.n<=N.n:=by let:=A13 List.length S.pre;rw[A32]at this;lia
 let rs:RS K H H (L2.start N vs) (Z.start N.length ds):=qH t ∅;unfold Z.fn at e;split at e
 .cases eb:b (Z.start N.length ds)with
  |bad=>rw[eb]at e;ext e
  |ok fl=>
   rw[eb]at e;show(_,fl,rs,eb,?_,);cases fl with
   |rt d'=>ext e;show λ v H' s' dv=>k v H' s' dv
   |nx Y'=>ext e;show λ O' H' _ Fy=>k .non H' Fy.same kY
   |bk Y'=>ext e
   |ct Y'=>ext e
 .ext e
structure S8(K:Db)(mg:Str->Option Value)(x:Str)(st:Stmt)(ps:List Str):Prop where
 ex:∃f fd,S5 K x x st f fd/\mg x=AC (.ref f)/\Binds K fd ps []/\Binds K fd ps [.none]
structure vY(P:Program)(w:World)(K:Db)(mg:Str->Option Value)(base:Heap)(x:Str)(k:Nat)(ps:List Str)(m:List Z.D->Z.Res Z.D):Prop where
 ex:∃g fd,fi P w K mg base iC k g fd ps (yU K m)/\mg x=AC (.ref g)/\Fa K (.ref g)=Da/\Binds K fd ps []/\Binds K fd ps [.none]
def vY.full(C:vY P w K mg base x k ps m):Av P w K mg base x k ps m:=
 by let(g,fd,h1,h2,h3,h4,_):=C.ex;show(g,fd,h1,h2,h3,h4,)
def vY.mk'{st:θ}(d:S8 K mg x st ps)(S:aT N ps (aa st))
 (hb:∀ f aU A outer s H E,bf k (A.deeper<|envOfC x (aa st) s.heap.objs.size f aU) ->
  Om (dG iC P w K mg base N x (aa st) f aU A outer s H E).fQ H (az st) b):vY P w K mg base x (k+1) ps (Z.fn ps.length N.length b):=by
 let(f,fd,F,hm,v!,hb2):=d.ex;show(f,fd,af5 F S<|hb f,hm,F.kp,v!,hb2,)
def RX{st:θ}{ps:U Str}{f t:δ}{oc:ζ}{od an:ε δ}{zc:Array (ε ζ)}{kV doc pm aU ct tc:ζ}{td:ε δ}{tn:Nat}{tsl:Array (ε ζ)}
 (l:K.lookup f=AC ⟨oc,od,.func<|PySem.W.fnOf x x (bg st) (az st) (aa st) (.ref t) kV doc pm an aU ct,zc⟩)
 (c:SL K aU x=Da) (k:Fa K (.ref f)=Da) (lt:K.lookup t=AC ⟨tc,td,.seq #[.none] tn,tsl⟩) (hm:mg x=AC (.ref f))
 (h1:∀us,us.n=ps.n->∃kk,bindArgs (Ps x x (bg st) (az st) (aa st) (.ref t) kV doc pm an aU ct) ⟨us,[]⟩=seqItems? (.ref t)>>=kk/\kk (AC #[.none])=pure (ps.zip us))
 (h2:∀us,us.n+1=ps.n->∃kk,bindArgs (Ps x x (bg st) (az st) (aa st) (.ref t) kV doc pm an aU ct) ⟨us,[]⟩=seqItems? (.ref t)>>=kk/\kk (AC #[.none])=pure (ps.zip<|us++[.none])):S8 K mg x st ps:=by
 show(f,_,((oc,od,.ref t,kV,doc,pm,an,aU,ct,zc,rfl,l,c,),k,),hm,λ s us hK hl=>?_,λ s us hK hl=>?_,)
 .rw[A51]at hl ⊢;let(kk,e1,e2):=h1 us hl;show BindsTo.of_defaults (T:=t) (items:=#[.none]) rfl (hK t _ lt) rfl e1 e2
 .let(kk,e1,e2):=h2 us (by calc hl);show BindsTo.of_defaults (T:=t) (items:=#[.none]) rfl (hK t _ lt) rfl e1 e2
end
end ZS
namespace ZQ
open L2 ZS
def Ab{K:Db}{st:θ}(d:ZS.S8 K mg x st ps)(hb:∀{f}{aU}{A}{outer}{s}{H}{E},N.Nodup->(A.deeper<|envOfC x (aa st) s.heap.objs.size f aU).units+64<cLine->bf k (A.deeper<|envOfC x (aa st) s.heap.objs.size f aU)->yx (dG iC P w K mg base N x (aa st) f aU A outer s H E).fQ H (az st) b)(S:aT N ps (aa st):=by show ZS.B1):ZS.vY P w K mg base x (k+1) ps (Z.fn ps.length N.length b):=ZS.vY.mk' d S λ f aU A outer s H E hr=>(hb S.nd hr.units hr).p
end ZQ
section
open PySem
open PySem.Sem (wp)
open PySem.Builtin
def qS:fillsNumberSlot (.type "tuple") "mul"=pure AT:=
 PySem.fillsNumberSlot_seq B44.lookup (by decide +kernel) F.slot_tuple_rmul.lookup (by decide +kernel)
def y!:seqRepeat? (.type "tuple")=pure (AC<|.builtin "tuple.__mul__"):=by unfold seqRepeat?;rw[PySem.seqSlot_of (name:="__mul__") B44.lookup (by decide +kernel),PySem.seqSlot_of (name:="__rmul__") F.slot_tuple_rmul.lookup (by decide +kernel)];rfl
def kO(a:Int)(t:Tok)(l:δ)(items:Array ζ)(n:Nat)(dd:ε δ)(sl:Array _):
 Meets (Builtin.«int.__rmul__» ⟨[.int a t,.ref l],[]⟩) (λ _ R s=>s.heap.get? l=AC {cls:=.type "tuple",dict:=dd,data:=.seq items n,slots:=sl}/\R (.ok<|.ret Value.notImplemented) s):=
 .of_wp λ prog w A R s h=>by let(hp,g,d,tk,os):=s;let(hl,h):=h;wp_walk;show(_,rfl,h,)
def sx(a:Int)(t:Tok)(l:δ)(x:ζ)(n:Nat)(dd:ε δ)(sl:Array _)(h0:a=0):
 Meets (Builtin.«tuple.__mul__» ⟨[.ref l,.int a t],[]⟩) (λ _ R s=>s.heap.get? l=AC {cls:=.type "tuple",dict:=dd,data:=.seq #[x] n,slots:=sl}/\R (.ok<|.ret<|.ref s.t) {s with heap:=s.heap.push {cls:=.type "tuple",data:=.seq #[]}}):=
 .of_wp λ prog w A R s h=>by
  let(hp,g,d,tk,os):=s;let(hl,h):=h;subst h0
  wp_walk
  show(_,rfl,h,)
def sv(a:Int)(t:Tok)(l:δ)(x:ζ)(n:Nat)(dd:ε δ)(sl:Array _)(h0:a=1):
 Meets (Builtin.«tuple.__mul__» ⟨[.ref l,.int a t],[]⟩) (λ _ R s=>s.heap.get? l=AC {cls:=.type "tuple",dict:=dd,data:=.seq #[x] n,slots:=sl}/\R (.ok<|.ret<|.ref l) s):=
 .of_wp λ prog w A R s h=>by
  let(hp,g,d,tk,os):=s;let(hl,h):=h;subst h0
  wp_walk
  show(_,rfl,h,)
def su(a:Int)(t:Tok)(l:δ)(x:ζ)(n:Nat)(dd:ε δ)(sl:Array _)(h1:¬(decide (a < -(2^63))||decide (a≥2^63))=Da)(h2:¬((#[x]).isEmpty||a==1)=Da)(h3:¬(decide (a<=0)||(#[x]).isEmpty)=Da)(h4:¬((#[x]).size)*a>(2^63-1) / 8)(h5:¬Tuple.tupleTooMany (((#[x]).size)*a)=Da)(h6:((Do a.toNat #[x]).foldl (·++·) #[]).size<=sizeLine):
 Meets (Builtin.«tuple.__mul__» ⟨[.ref l,.int a t],[]⟩) (λ _ R s=>s.heap.get? l=AC {cls:=.type "tuple",dict:=dd,data:=.seq #[x] n,slots:=sl}/\R (.ok<|.ret<|.ref s.t) {s with heap:=s.heap.push {cls:=.type "tuple",data:=.seq ((Do a.toNat #[x]).foldl (·++·) #[])}}):=
 .of_wp λ prog w A R s h=>by
  let(hp,g,d,tk,os):=s;let(hl,h):=h
  wp_walk
  show B45 (by calc h1) ?_
  wp_walk
  show B45 (by calc h2) ?_
  wp_walk
  show B45 (by calc h3) ?_
  wp_walk
  show B45 (A36 h4) ?_
  wp_walk
  show B45 (by calc h5) ?_
  wp_walk
  show(_,rfl,h,)
end
namespace ZS
open L2
def ZX(K:Db):R2:=λ x y H Q=>∃l k w,x=.ref l/\y=.int k/\nj K H l [w]/\0<=k/\k<=1000000/\(k=1->Q (.ref l) H)/\(k≠1->∀p,H p=Ch->Q (.ref p) (upd H p<|.tup<|List.replicate k.toNat w))
def yd(v:ζ):∀k acc,AE3 (λ x1 x2=>x1++x2) acc (Do k #[v])=acc++(Do k v).toArray
|0,acc=>by simp
|k+1,acc=>by rw[A82,AD7,yd,A82];apply Array.toList_inj.mp;simp
def xp(r:RelV w u):∀k,Vals (Do k w) (Do k u)
|0=>.nil
|k+1=>.cons r<|xp r k
def Pz:jx X (binaryOp .Mult) (ZX X.K):=by
 intro B s O H x y v u Q I rx ry h;let(l,k,w,rfl,rfl,hq,h0,h1,q1,q2):=h;ext rx;let(t,rfl):=ry;let(a6,r,ht,hz):=I.tuple hq;let(x,rfl,rx):=vals1 r;let((cls,dd,data,sl),ho,hc,n,hd):=id ht;simp only at hc hd;subst hc hd;let e:=ho;show C45 ∅ ⟨_,e,rfl⟩ (λ s'=>B28 s' k t) qS F.fills_int_mul B55 y! F.slot_int_index.lookup
 <|A53 B55 (B28 s k t) F.entry_int_rmul (F.args_int_rmul_2 _ _) (kO k t l #[x] n dd sl) ⟨e,rfl,⟨_,e,rfl⟩,?_⟩
 by_cases T8:k=1
 .exact A53 B44 ⟨_,e,rfl⟩ C15 (C16 _ _) (sv k t l x n dd sl T8) ⟨e,⟨.ref l,H,I,rfl,q1 T8⟩⟩
 .by_cases hk0:k=0
  .refine A53 B44 ⟨_,e,rfl⟩ C15 (C16 _ _) (sx k t l x n dd sl hk0) ⟨e,?_⟩;let q:=q2 T8 _<|I.bN.fresh<|P3 s.t;rw[hk0]at q;show(.ref _,_,I.laid (λ b ob z=>A00 _ z) (P3 _) ?_,rfl,q,);show(A48 _,[],.nil,qq.new _ _,)
  .skip
   let hf:=yd x k.toNat #[];rw[Array.empty_append]at hf;let hs:(1000000)<=sizeLine:=by decide
   show A53 B44 ⟨_,e,rfl⟩ C15 (C16 _ _) (su k t l x n dd sl ?_ ?_ ?_ ?_ ?_ ?_) ⟨e,?_⟩
   .simp;lia
   .simp;lia
   .simp;lia
   .show ¬((1))*k>(2^63-1) / 8;lia
   .show ¬(decide<|((1))*k>(sizeLine))=Da;rw[B43];let:=Int.ofNat_le.mpr hs;generalize (sizeLine)=z at this ⊢;lia
   .rw[hf,A12,A80];lia
   .rw[hf];show(.ref _,_,I.laid (λ b ob z=>A00 _ z) (P3 _) ?_,rfl,q2 T8 _<|I.bN.fresh<|P3 _,);show⟨by rw[A80];lia,_,xp rx k.v,qq.new _ _⟩
def ZQ.R1(ha:ZQ.QW X a fa)(hb:ZQ.QW X b fb):ZQ.QE X (.BinOp a .Mult b pos) (Z.eB Z.FQ fa fb):=⟨PE.imp (FH Pz ha.p hb.p) <|by
 rintro O H Q ⟨Y,d,r,e,k⟩;let(x,ea,e):=ce e;let(y,eb,e):=ce e;let(d0,n,rfl,rfl,h0,h1,rfl):=Z.K_ e;show(Y,_,r,ea,λ v H1 s1 d1=>(Y,_,r.up s1,eb,λ u H2 s2 d2=>?_,),);let(q,vs,rfl,hq,t):=d1.tup;erw[au]at t;let(w,r',rfl,dw,rfl):=t;show(q,n,w,rfl,d2.int,?_,h0,h1,λ hn=>?_,λ hn p hp=>?_,)
 .exact fS (jR s2) hq
 .subst hn;show k _ H2 (s1.trans s2)<|fM (fS (jR s2) hq)<|au.cons (dw.up s2) au.nil
 .let s3:av H2 (upd H2 p<|.tup<|List.replicate n.toNat w):=bE hp;show k _ _ ((s1.trans s2).trans s3)<|fM (nj.of aA)<|vw ((dw.up s2).up s3) _⟩
end ZS
namespace Z
def oO(c:Nat):U Nat->U (U Nat)
|[]=>[[]]
|x::r=>if x=c then[]::oO c r else match oO c r with
 |[]=>[[x]]
 |p::ps=>(x::p)::ps
def yl:∀{p},c∉p->oO c p=[p]
|[],_=>rfl
|x::r,h=>by let h1:x≠c:=λ e=>h (by simp[e]);let h2:=λ e=>h<|A08 _ e;rw[oO,W1 h1,yl h2]
def Cq:∀{p} r,c∉p->oO c (p++c::r)=p::oO c r
|[],r,_=>by rw[B30,oO,M2 rfl]
|x::p,r,h=>by let h1:x≠c:=λ e=>h (by simp[e]);let h2:=λ e=>h<|A08 _ e;rw[C06,oO,W1 h1,Cq r h2]
def oN:∀{ts},ts≠[]->(∀p∈ts,c∉p)->oO c (b9 [c] ts)=ts
|[],h,_=>absurd rfl h
|[x],_,h=>yl<|h x ∅
|x::y::r,_,h=>by rw[b9,A75,List.singleton_append,Cq _<|h x ∅,oN ∅ λ p hp=>h p<|A08 _ hp]
def Kb:D->D->Res (U D)
|.str cs,.str [c]=>guard (cs.n+2<=line)<|.ok<|(oO c cs).map .str
|_,_=>.bad
@[simp] def LO(a b:EF)(Y:Env):Res (U D):=(a Y).bind λ x=>(b Y).bind λ y=>Kb x y
def U2(cs:U Nat)(c:Nat):Kb (.str cs) (.str [c])=guard (cs.n+2<=line) (.ok<|(oO c cs).map .str):=rfl
def σ3(h:Kb x y=.ok ds):∃cs c,x=.str cs/\y=.str [c]/\cs.n+2<=line/\ds=(oO c cs).map .str:=by
 unfold Kb at h;split at h
 .let(h1,e):=bO h;ext e;show(_,_,rfl,rfl,h1,rfl,)
 .ext h
end Z
namespace ZS
open L2
theorem Cv(hy:(y.n == 0)=AT)(hx:x.n+2<=sizeLine)
 (hq:∀l k,l.map (·.1)=Txt.split x y->Q (.ref s.t) {s with toks:=k,heap:=s.heap.push {cls:=.type "list",data:=.seq (strValues l).toArray}}) :
 Ev (model prog w) A (call (.builtin "str.split") [.str x t,.str y u]) Q E s:=by
 cases h1:(decide (x.n<y.n)||decide (rc x<rc y))
 .cases hf:(Fk x y 0 _ _).isEmpty
  .let e:Txt.split x y=Builtin.Str.partsBetween x _ _:=(W1<|C17 h1).trans<|W1<|C17 hf;show A53 C18 (A81 _ _ _) C19 (C20 _ _) (meets_str_split_sep x y t u h1 hy hf ∅ (by rw[<-e];show A14 (C53 x y) hx)) ?_;rw[strsFrom_eq];show hq (numbered s.toks _) _<|(numbered_texts _ _).trans e.c
  .exact A53 C18 (A81 _ _ _) C19 (C20 _ _) (meets_str_split_not_found x y t u h1 hy hf)
   <|hq [(x,t)] s.toks ((W1<|C17 h1).trans<|M2 hf).symm
 .exact A53 C18 (A81 _ _ _) C19 (C20 _ _) (meets_str_split_cannot_occur x y t u h1)
  <|hq [(x,t)] s.toks (M2 h1).symm
def Qr(x:Str):dY x.cps.y=x:=by ext x;rfl
def xC(cs:U Nat)(c:Nat):Txt.split (dY cs) ⟨#[c]⟩=(Z.oO c cs).map dY:=by
 let hf:=StrLaws.split_free (dY cs) c;let hj:=StrLaws.join_split (dY cs) ⟨#[c]⟩;let hp:=PyProof.Rows.split_pos (dY cs) ⟨#[c]⟩;generalize Txt.split _ ⟨#[c]⟩=L at hf hj hp;let e:L=(L.map (·.cps.toList)).map dY:=by rw[A17];let:(dY∘λ x=>x.cps.y)=id:=funext Qr;rw[this,List.map_id]
 let hj2:Txt.join (dY [c]) L=dY cs:=by change AA5 _ _=_;rw[io];show hj
 rw[e,F8]at hj2;let h3:Z.b9 [c] (L.map (·.cps.toList))=cs:=by
  let:((dY (Z.b9 [c] (L.map (·.cps.toList)))).cps).toList=(dY cs).cps.toList:=by rw[hj2]
  simpa[dY]using this
 rw[<-h3,Z.oN]
 .exact e
 .intro z;let:=List.map_eq_nil_iff.mp z;rw[this]at hp;simp at hp
 .intro p hp';let(q,hq,rfl):=A03.mp hp';show hf q hq
def xy:∀l,Vals ((l.map (·.1)).map V.str) (strValues l)
|[]=>.nil
|(x,t)::l=>.cons ⟨t,rfl⟩<|xy l
def U!:V->U V->Hp->VK->Prop:=λ x vs H Q=>∃cs c,x=.str (dY cs)/\vs=[.str ⟨#[c]⟩]/\cs.n+2<=sizeLine/\∀q,H q=Ch->Q (.ref q) (upd H q<|.lst<|((Z.oO c cs).map dY).map V.str)
def Ll:Yl X "str.split" U!:=by
 intro B s O H x vs v us Q I rx rv h;let(cs,c,rfl,rfl,hl,k):=h;let(tk,rfl):=rx;let(u,rfl,ru):=rv.one;let(tk2,rfl):=ru;show Cv rfl (by rw[kL];show hl) λ l kk e=>?_;rw[xC]at e;rw[<-e]at k;show(.ref _,_,I.laid (λ b ob q=>A00 _ q) (P3 _) ?_,rfl,k _<|I.bN.fresh<|P3 _,);let ψ:(l.map (·.1)).length<=sizeLine:=by rw[e,<-xC];show A14 (C53 _ _) ?_;rw[kL];show hl
 show⟨by rw[A04];show ψ,_,_,xy l,A18 _ rfl⟩
def yh{K:Db}:∀(ts:U _),au K H (ts.map Z.D.str) ((ts.map dY).map V.str)
|[]=>au.nil
|t::ts=>au.cons ee<|yh ts
theorem ZQ.MQ(ho:ZQ.QW X o fa)(hb:ZQ.QW X b fb)
 (jg:attributeBase o "split" X.env (eval o X.J)=eval o X.J:=by rfl)
 (oG:((backTo p2<|starEach (b::[]) X.J).all (λ x=>!x.1)&&(backToKw p2<|keywordEach [] X.J).all (λ x=>x.1.isSome)
  && decide ((b::[]).length+([]:U π).length+(if([]:U π).isEmpty then 0 else 1)<30))=Da:=by rfl)
 (jf:(p1.endLine==p2.line)=Da:=by rfl) (nS:Se b [] X.J:=by rfl) (f':Pn p2 [] X.J:=by rfl) :
 ZQ.QL X (.Call (.Attribute o "split" p1) [b] [] p2) (Z.LO fa fb):=
 ⟨PE.imp (uB B69 PySem.F.slot_str_split PySem.F.type_str_split Ll ho.p (aM hb.p bH nS) jg oG jf nS f') <|by rintro O H Q ⟨Y,d,r,e,k⟩;let(x,ea,e):=ce e;let(y,eb,e):=ce e;let(cs,c,rfl,rfl,hl,rfl):=Z.σ3 e;show(Y,_,r,ea,λ v H1 s1 d1=>?_,);let Sj:=d1.str;subst Sj;show(rfl,Y,_,r.up s1,eb,λ u H2 s2 d2=>?_,);let Si:=d2.str;subst Si;show⟨cs,c,rfl,rfl,by rw[A26];show hl,λ q hq=>?_⟩;let s3:av H2 (upd H2 q<|.lst<|((Z.oO c cs).map dY).map V.str):=bE hq;show k q _ _ ((s1.trans s2).trans s3) ((s1.trans s2).free hq) aA<|yh _⟩
end ZS
namespace ZS
open L2
def IX(h:ν)(hb:sysModules<h.Z):e! P w H (h.push {cls:=.type "dict",data:=.dict #[]}) h.objs.size (.dK []):=
 ⟨A48 _,A57.mpr<|A15<|A16 hb,[],.nil,Heap.DictOf.new h⟩
def L5(I:Inv X B O H s)(h:H p=AC (.dK xs)):∃o,Inv X B O (upd H p<|.eu o<|.dK xs) s:=by
 let hk:=I.bN p _ h;let(z,y,vs,r,hd):=id hk;obtain⟨o,ho⟩:∃o,s.heap.get? p=AC o:=by let(o,es,ep,ho,_):=hd;show(o,ho,)
 show(o,I.un ?_ ?_,)
 .let ne:∀b,H b=Ch->b≠p:=λ b e q=>by rw[q,h]at e;ext e
  show⟨λ b o q _ _ _=>q,λ b o q _ _ _=>(_,q,),λ b o q e _=>by rw[ak<|ne b e];show e,λ b o q _=>(o,q,),λ b ys e=>?_,λ b o u e=>?_,λ b u pr e=>?_⟩
  .let:b≠p:=by rintro rfl;rw[h]at e;ext e
   rw[ak this];show e
  .let:b≠p:=by rintro rfl;rw[h]at e;ext e
   rw[ak this];show e
  .let:b≠p:=by rintro rfl;rw[h]at e;ext e;show pr
   rw[ak this];show e
 .intro b u e;by_cases hb:b=p
  .subst hb;rw[aA]at e;ext e;show(ho,z,y,vs,r,hd,)
  .rw[ak hb]at e;show(I.bN b u e).n? (λ c w _ q=>q) (λ c q=>?_) (λ c ys q=>?_) λ c v pr q=>?_
   .let:c≠p:=by rintro rfl;rw[h]at q;ext q
    rw[ak this];show q
   .let:c≠p:=by rintro rfl;rw[h]at q;ext q
    rw[ak this];show q
   .let:c≠p:=by rintro rfl;rw[h]at q;ext q;show pr
    rw[ak this];show q
def Q7(I:Inv X B O H s):sysModules<s.t:=by let h:=(I.mod.glob.keeps I.bk).lt;show B56 ∅ h
def ZQ.Gy:ZQ.QE X (.Dict [] [] pos) (Z.eC<|.dct [] []):=⟨by
 intro B s O H Q I w;let(Y,d,r,e,k):=w;ext e;show wpAny_Dict_empty ?_;let I1:=
  I.laid (t':=s.toks) (λ _ _ q=>A00 _ q) (P3 _)<|IX _<|Q7 I
 let(o,I2):=L5 I1 aA;let hn:=I.bN.fresh<|P3 _;show(.ref _,_,I2,rfl,k _ _ (λ b u e=>?_) ?_,)
 .let:b≠s.t:=by rintro rfl;rw[hn]at e;ext e
  rw[ak this,ak this];show e
 .simp only[Den];show⟨_,o,[],rfl,aA,rfl,au.nil,λ _ _ z=>nomatch z⟩⟩
end ZS
namespace ZS
open L2
def un0{α:Type}{P:U α->Prop}(h:P []):∀us:U α,us.n=0->P us:=λ us e=>B17 e▸h
def unS{α:Type}{P:U α->Prop}{n:Nat}(h:∀a (us:U α),us.n=n->P (a::us)):∀us:U α,us.n=n+1->P us:=by
 intro us e;cases us with
 |nil=>ext e
 |cons a t=>show h a t<|A29 e
def Uo{p:Prop}(h:p:=by repeat' first|show ZS.un0 rfl|show ZS.un0 ⟨_,rfl,rfl⟩|show ZS.unS λ _=>?_|intro _):p:=h
def bd2{ps:U Str}(h:∀a0 a1,bindArgs fd ⟨[a0,a1],[]⟩=pure (ps.zip [a0,a1])):∀us,us.n=2->bindArgs fd ⟨us,[]⟩=pure (ps.zip us):=unS λ a0=>unS λ a1=>un0<|h a0 a1
def agH(H0 H1:Hp):Hp->Prop:=λ H2=>gV H1 H2/\av H0 H2
def tZk(K:Db)(H0:Hp)(f:Z.LF):TI:=λ O H R=>∃Y ds,RS K H0 H O Y/\f Y=.ok ds/\∀J H',av H H'->E4 K J (agH H0 H') ds->R J H'
abbrev DK(X:Cx)(H0:Hp)(tg e:η)(f:Z.LF):Prop:=PI X tg e<|tZk X.K H0 f
end ZS
namespace ZS
open L2
def RS.upq{K:FS}{q:δ}{ks:Z.DK}{as:U δ}{u:HO}{l:Z.L}(h:RS K H0 H O Y)(ei:Y[i]?=AC (AC<|.dc ks))(si:O[i]?=AC (AC<|.ref q))
 (hq:H q=AC (Y! q ks as)) (hl:RL K (upd H q u) l (.ref q)) (n1:∀xs,l≠.own xs) (n2:∀xs,l≠.bor xs):RS K H0 (upd H q u) O (Y.set i<|some l):=by
 let st:gV H (upd H q u):=mO hq (λ _=>Sd) λ _ _=>Sf;let h0:H0 q=Ch:=h.r8.2 i ks q ei si;let hs:av H0 (upd H q u):=λ b u e=>by rw[ak<|aR e h0];show h.same b u e
 let old:∀{j:Nat}{ls},(Y.set i<|some l)[j]?=AC (AC<|.dc ls)->∃ls',Y[j]?=AC (AC<|.dc ls'):=λ {j ls} e=>by
  rcases aq e with⟨rfl,_,_⟩|⟨_,e⟩
  .exact⟨ks,ei⟩
  .exact⟨ls,e⟩
 show(hs,⟨by simp[h.re.len],λ j l' e=>?_,λ j k jD ys p e1 e2 e3 e4=>?_⟩,λ j jD p e1 e2=>?_,λ j jD e1=>?_,(λ j k ks1 Wg a e1 e2 e3 e4=>?_,λ j ks1 p e1 e2=>?_,),)
 .rcases aq e with⟨rfl,_,e⟩|⟨hj,e⟩
  .ext e;show(.ref q,si,hl,)
  .let(v,e1,r):=h.re.get j l' e;show(v,e1,?_,);cases l' with
   |val d=>show Den.ups (show Den K H d v from r) st
   |own zs=>
    let(q',ws,rfl,eJ,t'):=r;let:q'≠q:=by rintro rfl;rw[hq]at eJ;show z?<|f8 eJ
    show⟨q',ws,rfl,by rw[ak this];show eJ,t'.ups st⟩
   |bor zs=>let(v',e2,r2):=h.k? j zs e;rw[e1]at e2;ext e2;show r2.re r h.same hs st
   |dc ls=>
    let(q',sN,rfl,eJ,t'):=r;let:q'≠q:=by rintro rfl;show hj<|h.r8.1 i j ks ls q' ei e si e1
    show⟨q',sN,rfl,by rw[ak this];show eJ,t'.ups st⟩
   |JD ls=>let(q',o',sN,rfl,eJ,t'):=r;show(q',o',sN,rfl,st.eu _ _ _ eJ,t'.ups st,)
   |T3 ps=>let(q',o',rfl,eJ):=r;show(q',o',rfl,st.eu _ _ _ eJ,)
   |exc c=>let(q',o',u',C',rfl,eJ,r1,r2,r3):=r;show(q',o',u',C',rfl,st.eu _ _ _ eJ,r1,r2,r3.ups st,)
 .rcases aq e1 with⟨_,_,e⟩|⟨_,e1⟩
  .exact absurd (f8 e)<|n1 _
  .rcases aq e2 with⟨_,_,e⟩|⟨_,e2⟩
   .exact absurd (f8 e)<|n1 _
   .exact h.re.sep j k _ _ p e1 e2 e3 e4
 .rcases aq e1 with⟨_,_,e⟩|⟨_,e1⟩
  .exact absurd (f8 e)<|n1 _
  .exact h.fresh j jD p e1 e2
 .rcases aq e1 with⟨_,_,e⟩|⟨_,e1⟩
  .exact absurd (f8 e)<|n2 _
  .exact h.k? j jD e1
 .let(_,o1):=old e1;let(_,o2):=old e2;show h.r8.1 j k _ _ a o1 o2 e3 e4
 .let(_,o1):=old e1;show h.r8.2 j _ p o1 e2
def RS.setG{K:FS}{H0 H H':Hp}{O:St}{Y:Z.Env}{i:Nat}{q:δ}{kd:Z.DK}{as:U δ}(h:RS K H0 H O Y)(hq:H q=Ch)(sm:av H H')(eJ:H' q=AC (Y! q kd as))(hk:DcK K H' kd as):RS K H0 H' (O.set i<|some<|.ref q) (Y.set i<|some<|.dc kd):=by
 let getσ:∀j,i≠j->(O.set i<|some<|V.ref q)[j]?=O[j]?:=λ j hj=>A24 hj;let h':=h.up sm;let nq:∀(j:Nat)(ks:Z.DK),Y[j]?=AC (AC<|.dc ks)->O[j]?≠AC (AC<|.ref q):=λ j ks e z=>by let(v,e1,q',as,rfl,h2,_):=h.re.get j _ e;rw[z]at e1;ext e1;rw[hq]at h2;ext h2
 show(h'.same,⟨by simp[h.re.len],λ j l e=>?_,λ j k xs ys p e1 e2 e3 e4=>?_⟩,λ j xs p e1 e2=>?_,λ j xs e1=>?_,(λ j k ks1 Wg a e1 e2 e3 e4=>?_,λ j ks1 p e1 e2=>?_,),)
 .rcases aq e with⟨rfl,hl,e⟩|⟨hj,e⟩
  .ext e;show(.ref q,A31 (by rw[<-h.re.len];show hl),q,as,rfl,eJ,hk,)
  .rw[getσ j hj];show h'.re.get j l e
 .rcases aq e1 with⟨_,_,e⟩|⟨hj,e1⟩
  .ext e
  .rcases aq e2 with⟨_,_,e⟩|⟨hk,e2⟩
   .ext e
   .rw[getσ j hj]at e3;rw[getσ k hk]at e4;show h.re.sep j k xs ys p e1 e2 e3 e4
 .rcases aq e1 with⟨_,_,e⟩|⟨hj,e1⟩
  .ext e
  .rw[getσ j hj]at e2;show h.fresh j xs p e1 e2
 .rcases aq e1 with⟨_,_,e⟩|⟨hj,e1⟩
  .ext e
  .rw[getσ j hj];show h.k? j xs e1
 .rcases aq e1 with⟨rfl,hl,_⟩|⟨hj,e1⟩
  .rcases aq e2 with⟨rfl,_,_⟩|⟨hk,e2⟩
   .rfl
   .rw[A31 (by rw[<-h.re.len];show hl)]at e3;ext e3;rw[getσ k hk]at e4;show absurd e4<|nq k _ e2
  .rcases aq e2 with⟨rfl,hl,_⟩|⟨hk,e2⟩
   .rw[A31 (by rw[<-h.re.len];show hl)]at e4;ext e4;rw[getσ j hj]at e3;show absurd e3<|nq j _ e1
   .rw[getσ j hj]at e3;rw[getσ k hk]at e4;show h.r8.1 j k _ _ a e1 e2 e3 e4
 .rcases aq e1 with⟨rfl,hl,_⟩|⟨hj,e1⟩
  .rw[A31 (by rw[<-h.re.len];show hl)]at e2;ext e2;show h.same.free hq
  .rw[getσ j hj]at e2;show h.r8.2 j _ p e1 e2
end ZS
namespace Z
def xK:D->D->Res D
|.int a,.int b=>.ok<|.int<|a+b
|_,_=>.bad
@[simp] def YI(a b:Int):xK (.int a) (.int b)=.ok (.int<|a+b):=rfl
end Z
namespace ZS
open L2
def aa3(h:Z.eV i Y=.ok d):Y[i]?=AC (AC<|.val d):=by
 unfold Z.eV at h;split at h
 .rename_i e;ext h;show e
 .ext h
def ML(hN:X.N.Nodup)(hi:X.N[i]?=AC x)(hx:Loc X.env.scope x)(hr:jx X (inplaceOp op) r)(hz:GQ X.K r o)(he:DE X a fa)(hf:X.fn x=Da\/X.env.scope.names.lookup x=AC .local):
 DS X H0 (.AugAssign (.Name x pos') op a pos) (Z.aO i<|Z.eB o (Z.eV i) fa):=PS.imp (Vd hN hi hx he hr hf) <|by
 rintro D O H ⟨Y,fl,rs,e,k⟩;let(d,ea,e):=ce e;ext e;let(dx,e1,ea):=ce ea;let(dy,e2,ea):=ce ea;let(v,si,dv):=rs.re.get i _ (aa3 e1);show(v,si,Y,dy,rs.re,e2,λ y H1 s1 dy1=>?_,);show hz v y dx dy d H1 _ (.inl<|Den.up dv s1) (.inl dy1) ea λ z H2 s2 dz=>k _ H2 (jR<|s1.trans s2)<|(rs.up<|s1.trans s2).Dp dz
def LZ:jx X (inplaceOp .Mult) (rI NQ λ i j=>.int<|i*j):=_a λ _ _ _ _ _ _ _ hc q=>imul_int q hc
def Vl{K:Db}:GQ K (rI NQ λ i j=>.int<|i*j) Z.fP:=pL λ dx dy d e=>by
 unfold Z.fP at e;split at e
 .unfold Z.guard at e;split at e
  .rename_i h;ext e;show(_,_,rfl,rfl,uN h,rfl,)
  .ext e
 .ext e
def Py{K:Db}:GQ K (Kt λ i j=>.int<|i+j) Z.xK:=me (λ dx dy d e=>by
 unfold Z.xK at e;split at e
 .ext e;show(_,_,rfl,rfl,rfl,)
 .ext e) λ _ _ _=>b8
end ZS
namespace ZQ
open L2 ZS
theorem RO(hN:X.N.Nodup)(hi:X.N[i]?=AC x)(hx:Loc X.env.scope x)(he:QE X a fa)(hf:Fl X x:=by trivial):
 QS X H0 (.AugAssign (.Name x pos') .Mult a pos) (Z.aO i<|Z.eB Z.fP (Z.eV i) fa):=⟨ZS.ML hN hi hx LZ Vl he.p hf⟩
theorem RR(hN:X.N.Nodup)(hi:X.N[i]?=AC x)(hx:Loc X.env.scope x)(he:QE X a fa)(hf:Fl X x:=by trivial):
 QS X H0 (.AugAssign (.Name x pos') .Add a pos) (Z.aO i<|Z.eB Z.xK (Z.eV i) fa):=⟨ZS.ML hN hi hx Q5 Py he.p hf⟩
end ZQ
namespace Z
def wK(e:EF)(Y:Env)(d:D):Res Int:=(e<|some (.val d)::Y).bind λ y=>match y with
|.int k=>.ok k
|_=>.bad
def QR(h:wK e Y d=.ok k):e (AC (.val d)::Y)=.ok (.int k):=by
 let(y,e1,e2):=Res.ag h;split at e2
 .ext e2;show e1
 .ext e2
def LV(h:e (AC (.val d)::Y)=.ok (.int k)):wK e Y d=.ok k:=by unfold wK;rw[h];rfl
def btr(mx:Bool)(k kb:Int):Bool:=if mx=Da then decide (k>kb)else decide (k<kb)
def Ub(mx:Bool)(e:D->Res Int)(b:D)(kb:Int):U D->Res D
|[]=>.ok b
|d::r=>(e d).bind λ k=>if btr mx k kb=Da then Ub mx e d k r else Ub mx e b kb r
def pickK(mx:Bool)(z:Res D)(e:D->Res Int):U D->Res D
|[]=>z
|d::r=>(e d).bind λ k=>Ub mx e d k r
def zV(mx:Bool)(z:Res D)(a:EF)(is:U Nat)(e:EF)(Y:Env):Res D:=(a Y).bind λ x=>match x with
|.lst ds=>pickK mx z (wK e<|fh Y is) ds
|_=>.bad
end Z
namespace ZS
open L2 PySem.W
def Off.VS(o:Off X B H C)(ok:X.Ok):C∉X.fs:=λ hb=>by let(_,ob,ho,_):=ok.nB.mem hb;show absurd (A19 (A02 ho) o.new)<|A88 _
def Off._x(o:Off X B H C)(I:Inv X B O H s):C∉u_ X.stack:=λ hb=>by
 rcases A01.mp (I.qG C hb)with z|z
 .exact o.loc z
 .exact o.VS I.ok z
def Off.up(o:Off X B H C)(h:H' C=Ch):Off X B H' C:=(h,o.loc,o.new,o.cell,o.pin,)
def Off.fresh(I:Inv X B O H s)(hC:s.t<=C)(h:H' C=Ch):Off X B H' C where
 free:=h
 loc:=A47<|A19 I.lt hC
 new:=A14 I.sz hC
 cell:=λ x c e=>by let(v,o,ho,_):=I.cell x c e;show A16<|A19 (A02 ho) hC
 pin:=λ p hp=>A16<|A19 (A02 (I.pin p hp).1) hC
def Ja{pos q:Pos}(l:U ζ)(h:TriplesOk l)(e:codeAmong q (l++[rawInt pos.line,rawInt pos.col,c])=AC cv):codeAmong q l=AC cv\/cv=c:=by
 fun_induction TriplesOk l with
 |case1=>
  erw[B30,codeAmong,rawInt]at e;split at e
  .ext e;show .inr rfl
  .ext e
 |case2 a t b u x rest ih=>
  erw[C06,codeAmong]at e ⊢;split at e
  .rename_i hc;rw[M2 hc];show .inl e
  .rename_i hc;rw[W1 hc];show ih h e
 |case3 l h1 h2=>show h.elim
structure GR(X:Cx)(B:List (Addr×Obj))(q:Str)(params:Arguments)(body:Expr)(scope:Scope)(cl:List (Str×Addr))(H:Hp)(s:Shared)(f c':Addr)(pm r!:Value):Prop where
 off:Off X B H f
 obj:s.heap.get? f=AC (kla_obj "<lambda>" q params body scope cl pm c' r!)
 code:H c'=AC (.Oi q)
def BD(hx:x∈c_)(ht:tabIn X.K x=AC (c,P))(T9:X.J.code=.ref c)(hq:X.J.qual++ "<lambda>"=jz x)
 (zJ:defaultsOf params X.J=([],[])) (j_:closureFor scope X.J=pure cl) (I:Inv X B O H s) :
 Ev (model X.prog X.w) X.A (eval (.Lambda params body scope pos) X.J) (λ r s'=>∃f c' pm r! H',r=.ref f/\Inv X B O H' s'/\av H H'/\GR X B (jz x) params body scope cl H' s' f c' pm r!) X.xe s:=by
 show kla_eval zJ ?_;rw[hq];let(hT,hC,bm,ob,b1,b2,b3,b4,b5,b6):=I.tab x hx c P ht;let(ps,g,tri,am):=I.bN P _ hT;let hgs:=I.mod.glob.keeps I.bk;let Up:∀b o,X.base.get? b=AC o->b≠P:=λ b o e z=>by let:=(I.bs b o e).2;rw[z,hT]at this;ext this
 let hgP:mainGlobals≠P:=by let(o,es,ep,e,_):=I.mod.glob;show Up _ _ e
 let hbG:bm≠mainGlobals:=λ z=>by let(o,es,ep,e,hd,_):=I.mod.glob;rw[z,e]at b3;ext b3;rw[hd]at b6;ext b6
 let hB:s.heap.BuiltinsAt X.mg P:=(bm,ob,b1,b2,hbG,Up _ _ b3,I.bk _ _ b3,b4,b5,b6,)
 cases hf:codeAmong pos ps.y with
 | some cv=>let(c',rfl,Ar):=am pos cv hf;show kla_makeFunctionHit (mg:=X.mg) j_ I.ok.glob hgs T9 (hC.keeps I.bk) g tri hf hB λ r! h' tk hk Gb=>?_;let I':Inv X B O H {s with heap:=h'.push<|kla_obj "<lambda>" (jz x) params body scope cl ((X.mg "__name__").getD .none) c' r!,toks:=tk}:=I.kept λ b u e=>A00 _<|hk b u e;show(_,c',_,r!,H,rfl,I',av.refl H,(Off.fresh I Gb<|I.bN.fresh Gb,A18 _ rfl,Ar,),)
 |none=>
  show kla_makeFunction (mg:=X.mg) j_ I.ok.glob hgs T9 (hC.keeps I.bk) g tri hf hgP hB λ c' r! h' tk Jy hge j? WB htb=>?_;let hn:H c'=Ch:=I.bN.fresh hge;let kp:∀b o,b≠P->s.heap.get? b=AC o->(h'.push<|kla_obj "<lambda>" (jz x) params body scope cl ((X.mg "__name__").getD .none) c' r!).get? b=AC o:=λ b o hb e=>A00 _<|Jy b o hb e;let neP:∀b,H b=Ch->b≠P:=λ b e z=>by rw[z,hT]at e;ext e
  let VW:∀b u,H b=AC u->b≠c':=λ b u e=>aR e hn;let ltc:∀b o,s.heap.get? b=AC o->b≠c':=λ b o e=>A16<|A19 (A02 e) hge;let hP:(h'.push<|kla_obj "<lambda>" (jz x) params body scope cl ((X.mg "__name__").getD .none) c' r!).get? P=AC (tabObj<|ps++#[rawInt pos.line,rawInt pos.col,.ref c']):=A00 _ htb;let un:Un X.fs [] H (upd H c'<|.Oi<|jz x) s.heap (h'.push<|kla_obj "<lambda>" (jz x) params body scope cl ((X.mg "__name__").getD .none) c' r!):=by
   show⟨λ b o e n _ _=>kp b o (neP b n) e,λ b o e n _ _=>(o.slots,kp b o (neP b n) e,),λ b o e n _=>by rw[ak<|ltc b o e];show n,λ b o e _=>?_,λ b xs e=>by rw[ak<|VW _ _ e];show e,λ b o u e=>by rw[ak<|VW _ _ e];show e,λ b u _ e=>by rw[ak<|VW _ _ e];show e⟩;by_cases hb:b=P
   .exact⟨_,hb▸hP⟩
   .exact⟨o,kp b o hb e⟩
  let bN:lX X.prog X.w (upd H c'<|.Oi<|jz x) (h'.push<|kla_obj "<lambda>" (jz x) params body scope cl ((X.mg "__name__").getD .none) c' r!):=λ b u e=>by
   by_cases hb:b=c'
   .subst hb;rw[aA]at e;ext e;let(c2,oc,vs,t,e2,hoc,r):=WB;ext e2;show(_,oc,vs,t,rfl,A00 _ hoc,r,)
   .rw[ak hb]at e;by_cases hbP:b=P
    .subst hbP;rw[hT]at e;ext e;show⟨_,hP,by rw[ol];show TriplesOk_snoc _ _ _ _ tri,λ p cv e2=>?_⟩;rw[ol]at e2;rcases Ja _ tri e2 with z|rfl
     .let(c2,e3,e4):=am p cv z;show⟨c2,e3,by rw[ak<|VW _ _ e4];show e4⟩
     .exact⟨c',rfl,aA⟩
    .refine(I.bN b u e).n? (λ b2 v hc q=>kp b2 v ?_ q) (λ b2 q=>by rw[ak<|VW _ _ q];show q) (λ b2 xs q=>by rw[ak<|VW _ _ q];show q) λ b2 v _ q=>by rw[ak<|VW _ _ q];show q
     rcases hc with rfl|hc
     .exact hbP
     .exact TN hc hT λ z=>nomatch z
  let hfn:(upd H c'<|.Oi<|jz x) h'.Z=Ch:=by rw[ak<|A47 j?];show I.bN.fresh<|A78<|B71 hge j?
  show(_,c',_,r!,_,rfl,I.un (t':=tk) un bN,bE hn,(Off.fresh I (A78<|B71 hge j?) hfn,A18 _ rfl,aA,),)
noncomputable abbrev D!(X:Cx)(N':U Str)(q:Str)(scope:ς)(cl:U (Str×δ))(f c':δ)(s₂:ι)(H₂:Hp):Cx:=
 {prog:=X.prog,w:=X.w,K:=X.K,mg:=X.mg,base:=X.a,A:=X.A.in1.deeper<|envX q scope s₂.heap.objs.size f (.ref c') cl,N:=N',s₀:=s₂,H₀:=H₂,env:=envX q scope s₂.heap.objs.size f (.ref c') cl,outer:=X.stack,stack:=envX q scope s₂.heap.objs.size f (.ref c') cl::X.stack,ex:=[],fn:=λ _=>AT,calm:=Da,pn:=[],xe:=λ _ _=>False}
def U9{K:Db}(h:RE K H O Y)(hd:Den K H d v):RE K H (AC v::oo O 0 is) (AC (.val d)::Z.fh Y is):=by
 let R:=Ks (n:=0) (is:=is) h<|av.refl H;show⟨by simp[oo,Z.fh],λ i l e=>?_,λ i j xs ys a e1=>?_⟩
 .cases i with
  |zero=>erw[C54,B23]at e;subst e;show(v,rfl,hd,)
  |succ i=>let(u,h1,h2):=R.re.get i l (by calc e);show⟨u,by calc h1,h2⟩
 .cases i with
  |zero=>simp at e1
  |succ i=>show absurd (by calc e1)<|gm 0 is Y i xs
def BE(dh:X.calm=Da)(p0:X.A.in1.depth<recursionLimit)(χ:v_ X.N N' 1 is scope X.J.scope)(N_:N'[0]?=AC x)(zI:scope.isGenerator=AT)(Mb:scope.isCoroutine=AT)
 (mm:∀u,bindArgs (kla_fn "<lambda>" q params body scope cl pm (.ref c') r!) ⟨[u],[]⟩=pure [(x,u)])
 (jA:∀x c,cl.lookup x=AC c->X.env.cells.lookup x=AC c) (uX:∀y∈scope.j,y.2=.free->(cl.lookup y.1).isSome=Da)
 (he:∀cl f c' s H,DE (D! X N' q scope cl f c' s H) body fe)
 (L:GR X B q params body scope cl H s f c' pm r!) (I:Inv X B O H s) (re:RE X.K H O Y) (rv:RelV v u) (dv:Den X.K H d v) (ek:Z.wK fe (Z.fh Y is) d=.ok k) :
 Ev (model X.prog X.w) X.A.in1 (call (.ref f) [u]) (λ r s'=>∃t H',r=.int k t/\av H H'/\Un (u_ X.stack) [] H H' s.heap s'.e/\lX X.prog X.w H' s'.e/\AllBare s'.gens/\s'.os=s.os) E s:=by
 let WB:=I.bN c' _ L.code;let(x0,hx1,hxl):=χ.own 0 (Nat.zero_lt_one);rw[N_]at hx1;ext hx1;show A90<|kla_callFunE p0 L.obj rfl Mb zI rfl WB ?_;rw[mm];show v6<|wpAny_newFunctionEnv χ.cell (λ y hy=>by rw[A11.mp hy];show hxl) (λ h₁ L' hsb=>(I.nolimit.fresh _ hsb,?_,)) χ.kind;change codeAny _ _ (.expr body<|envX q scope s.heap.objs.size f (.ref c') cl) _ _;let old:=λ b o e=>hsb.extBut b o (A16<|A02 e)<|A00 _ e;let WO:=I.bN.fresh<|P3 _;let ok:(D! X N' q scope cl f c' s H).Ok:=by
  show(I.ok.mod,χ.kind,rfl,rfl,P3 _,λ x y c e1 e2=>I.ok.inj x y c (jA x c e1)<|jA y c e2,λ y hy=>?_,λ y c hf=>(by ext hf),λ _=>I.ok.hd dh,Around.frames_deeper I.ok.frames,.inr ⟨rfl,rfl⟩,
   λ b hb=>absurd (show b∈([]:U δ)from hb) ∅,I.bs,A14 I.ok.Nw I.sz,λ b o _ hb=>absurd (show b∈([]:U δ)from hb) ∅,λ b hb=>absurd (show b∈([]:U δ)from hb) ∅,I.stack,I.sS,)
  let L7:=hy;rcases L7 with z|z
  .exact absurd rfl<|χ.cell _<|A68 z
  .exact A92.mp<|uX _ (A68 z) rfl
 let vG:∀x c,X.env.cells.lookup x=AC c->c<s.t/\∀v,s.heap.IsCell c v->h₁.IsCell c v:=λ x c e=>by let(v,o,ho,hd):=I.cell x c e;show⟨A02 ho,by rintro v' ⟨o',p5,sH⟩;show(o',old c o' p5,sH,)⟩
 let I4:Inv (D! X N' q scope cl f c' s H) [] (AC v::oo O 0 is) H {s with heap:=h₁,toks:=s.toks + [(x,u)].length}:=by
  show(ok,rfl,I.bare,Un.kept old,(_,L',λ i y w e1 e2 e3=>?_,),λ y c e=>?_,WO,λ y c e=>I.gH y c<|jA y c e,λ p hp=>absurd (show p∈([]:U (δ×μ))from hp) ∅,I.bN.kept old,?_,I.tab,)
  .cases i with
   |zero=>let Ug:=e1;rw[N_]at Ug;ext Ug;erw[C54,B23]at e2;subst e2;show(u,rv,.inl ⟨hxl,?_⟩,);simp
   |succ i=>
    let Oh:(oo O 0 is)[i]?=AC (AC w):=by simpa using e2
    unfold oo at Oh;erw[List.replicate_zero,B30,A07]at Oh;cases r:is[i]? with
    |none=>rw[r]at Oh;ext Oh
    |some j=>
     rw[r]at Oh;erw[A69]at Oh;let(x',c1,c2,c3):=χ.cap i j r;let Ug:=e1;rw[show i+1=1+i from A94 _ _,c1]at Ug;ext Ug;let hσ:O[j]?=AC (AC w):=by
      cases r2:O[j]? with
      |none=>rw[r2]at Oh;ext Oh
      |some z=>
       rw[r2]at Oh;let:z=AC w:=by simpa using Oh
       rw[this]
     let(m,hn,hl):=I.loc;let hm:=A68 c3;let hk:=χ.free _ hm rfl;let Wv:NH X.env.scope y:=by
      rcases hk with k|k
      .exact .inr<|.inl k
      .exact .inr<|.inr k
     let(u',ru,lk):=hl j y w c2 hσ Wv;show(u',ru,?_,);rcases lk with⟨k1,_⟩|⟨k1,c,hc,rS⟩
     .let QU:X.env.scope.names.lookup y=AC .local:=k1;rcases hk with k|k
      .rw[k]at QU;ext QU
      .rw[k]at QU;ext QU
     .let(Y4,Ar):=A92.mp (uX _ hm rfl);let:Y4=c:=by let:=jA y Y4 Ar;rw[hc]at this;show(f8 this).symm
      subst this;show .inr ⟨.inr c3,Y4,Ar,(vG y Y4 hc).2 _ rS⟩
  .let(v',hv):=I.cell y c (jA y c e);show(v',(vG y c<|jA y c e).2 v' hv,)
  .let:=χ.len;simp[oo,this,A94]
 show kla_codeExpr<|A20 (he cl f c' s H [] _ _ H (λ v' H'=>av H H'/\v'=.int k) I4 ⟨_,_,U9 re dv,Z.QR ek,λ v' H' s' d'=>⟨s',by simpa only[Den]using d'⟩⟩) (λ r s' hq=>?_) λ e s' hq=>hq.elim;let(v',H',J,rv',sm,rfl):=hq;let(t,rfl):=rv';show(t,H',rfl,sm,J.a,J.bN,J.bare,J.os,)
noncomputable abbrev held(b:ζ)(k:ζ)(c:Nat):μ:={cls:=.type "list",data:=.seq #[b,k] c}
structure KLp(X:Cx)(B:List (Addr×Obj))(O:St)(H₀:Hp)(l I S:Addr)(vs:List V)(H:Hp)(s:Shared)(j i:Nat)(kb:Int):Prop where
 inv:Inv X B O H s
 sm:av H₀ H
 it:s.heap.IsListIter I l j
 VN:Off X B H I
 HP:Off X B H S
 best:∃b v tb c,vs[i]?=AC v/\RelV v b/\s.heap.get? S=AC (held b (.int kb tb) c)
theorem BG(dh:X.calm=Da)(I1:Inv X B O H s)(hq:jO X.K H l vs)(it:s.heap.IsListIter I l j)(oI:Off X B H I)(hj:j<vs.n)
 (h:∀u v h' tk,vs[j]?=AC v->RelV v u->Inv X B O H {s with heap:=h',toks:=tk}->h'.IsListIter I l (j+1)->(∀b o,b≠I->s.heap.get? b=AC o->h'.get? b=AC o)->Q (AC u) {s with heap:=h',toks:=tk}) :
 Ev (model X.prog X.w) X.A.in1 (pyNext<|.ref I) Q E s:=by
 let(a6,rv,pl,hz):=I1.list hq;let hl:=rv.n;let hh:=I1.ok.hd dh;let uU:l≠I:=by rintro rfl;let(o,e,hc,_):=pl.x;let(o2,e2,zK,_):=it;rw[e]at e2;ext e2;rw[hc]at zK;show absurd (Value.type.inj zK) ∅
 let W:=Walks.list (prog:=X.prog) (w:=X.w) (A:=X.A.in1) hh I l uU a6.q;show W.item j s Q E (by rw[A12,<-hl];show hj) ⟨it,pl.x⟩ λ u h' tk pv st k1=>?_;let hv:a6[j]?=AC u:=by simpa using pv
 obtain⟨v,T6⟩:∃v,vs[j]?=AC v:=⟨vs[j],by simp[hj]⟩
 let(u',YN,rvu):=rv.get T6;rw[hv]at YN;ext YN;let kp:=λ b o hb e=>k1 b o (by calc hb) e;show h u v h' tk T6 rvu (I1.turned kp oI.free oI.loc (.inr oI.new) oI.cell oI.pin) st.1 kp
theorem BF(dh:X.calm=Da)(I1:Inv X B O H s)(hq:jO X.K H l vs)(it:s.heap.IsListIter I l j)(oI:Off X B H I)(hj:j=vs.n)
 (h:∀h' tk,Inv X B O H {s with heap:=h',toks:=tk}->(∀b o,b≠I->s.heap.get? b=AC o->h'.get? b=AC o)->Q Ch {s with heap:=h',toks:=tk}) :
 Ev (model X.prog X.w) X.A.in1 (pyNext<|.ref I) Q E s:=by
 let(a6,rv,pl,hz):=I1.list hq;let hl:=rv.n;let hh:=I1.ok.hd dh;let uU:l≠I:=by rintro rfl;let(o,e,hc,_):=pl.x;let(o2,e2,zK,_):=it;rw[e]at e2;ext e2;rw[hc]at zK;show absurd (Value.type.inj zK) ∅
 let W:=Walks.list (prog:=X.prog) (w:=X.w) (A:=X.A.in1) hh I l uU a6.q;show W.done s Q E ⟨by rw[A12,<-hl,<-hj];show it,pl.x⟩ λ h' tk k1=>?_;let kp:=λ b o hb e=>k1 b o (by calc hb) e;show h h' tk (I1.turned kp oI.free oI.loc (.inr oI.new) oI.cell oI.pin) kp
def NL(X:Cx)(B:U (δ×μ))(O:St)(H₀:Hp)(f:δ)(St:Hp->ι->Prop)(e:Z.D->Z.Res Int):Prop:=
 ∀(H:Hp)(s:ι)(u:ζ)(v:V)(d:Z.D)(k:Int),Inv X B O H s->av H₀ H->St H s->RelV v u->Den X.K H d v->e d=.ok k ->
  Ev (model X.prog X.w) X.A.in1 (call (.ref f) [u]) (λ r s'=>∃t H',r=.int k t/\av H H'/\Un (u_ X.stack) [] H H' s.heap s'.e/\lX X.prog X.w H' s'.e/\AllBare s'.gens/\s'.os=s.os) (λ _ _=>False) s
structure Yj(X:Cx)(B:List (Addr×Obj))(O:St)(f:Addr)(St:Hp->Shared->Prop):Prop where
 off:∀H s,St H s->Off X B H f
 un:∀H H' s s',Inv X B O H s->St H s->av H H'->H' f=Ch->(∀o,s.heap.get? f=AC o->s'.heap.get? f=AC o)->St H' s'
section
variable{St:Hp->ι->Prop}
def JU(h:Q (.bool<|decide<|k>kb) s):Ev (model prog w) A (richCompare .Gt (.int k t)<|.int kb tb) Q E s:=
 CmpOf.ints_gt (λ i=>if i=0 then k else kb) (λ i v h=>h) 0 1 _ _ _ _ _ ⟨t,rfl⟩ ⟨tb,rfl⟩ h
def Hc(h:Q (.bool<|decide<|k<kb) s):Ev (model prog w) A (richCompare .Lt (.int k t)<|.int kb tb) Q E s:=
 CmpOf.ints_lt (λ i=>if i=0 then k else kb) (λ i v h=>h) 0 1 _ _ _ _ _ ⟨t,rfl⟩ ⟨tb,rfl⟩ h
def F7(KO:NL X B O H₀ f St e)(SY:Yj X B O f St)(Iv:Inv X B O H s)(sm:av H₀ H)(st:St H s)(rv:RelV v u)(dv:Den X.K H d v)(ek:e d=.ok k)
 (oI:Off X B H I) (oS:Off X B H S){oi os:μ}(gI:s.heap.get? I=AC oi) (gS:s.heap.get? S=AC os) (gf:∃o,s.heap.get? f=AC o)
 (h:∀t H' s',Inv X B O H' s'->av H H'->St H' s'->Off X B H' I->Off X B H' S->s'.heap.get? I=AC oi->s'.heap.get? S=AC os->(∃o,s'.heap.get? f=AC o)->Q (.int k t) s') :
 Ev (model X.prog X.w) X.A.in1 (call (.ref f) [u]) Q E s:=by
 show A20 (KO H s u v d k Iv sm st rv dv ek) (λ x s' hq=>?_) λ _ _ z=>z.elim;let(t,H',rfl,Yv,un,bN,bare,os'):=hq;let Iv':=Iv.Nq os' un bN bare λ b hb=>absurd hb ∅;let of:=SY.off H s st;let kp:∀{b}{o},Off X B H b->s.heap.get? b=AC o->s'.heap.get? b=AC o/\H' b=Ch:=λ {b o} ob e=>(un.keep b o e ob.free (ob._x Iv) ∅,un.free b o e ob.free ∅,)
 let(fo,gf):=gf;show h t H' s' Iv' Yv (SY.un H H' s s' Iv st Yv (kp of gf).2 λ o e=>(kp of e).1) (oI.up (kp oI gI).2) (oS.up (kp oS gS).2) (kp oI gI).1 (kp oS gS).1 ⟨fo,(kp of gf).1⟩
end
def mmL:String->CmpOp->Builtin:=(λ(χ:String->CmpOp->Builtin)(_:χ "max" .Gt=Builtin.«max.loop»)=>χ) _ rfl
section
variable{St:Hp->ι->Prop}{nm:String}{op:CmpOp}{mx:Bool}
def Wh(he:entryFor table (toString nm++toString ".loop")=AC (mmL nm op))(hp:plainId (toString nm++toString ".loop")=Da)(hop:∀{A k t kb tb E Q s},Q (.bool<|Z.btr mx k kb) s->Ev (model X.prog X.w) A (richCompare op (.int k t)<|.int kb tb) Q E s)(dh:X.calm=Da)(KO:NL X B O H₀ f St e)(SY:Yj X B O f St)(Rn:S≠I)(WT:f≠I)(WS:f≠S)(hl:jO X.K H₀ l vs)(dn:au X.K H₀ ds vs)
 (fin:∀H s u v,Inv X B O H s->av H₀ H->RelV v u->Den X.K H r v->R (.ok<|.ret u) s) :
 ∀n j i H s kb db,ds.n=j+n->ds[i]?=AC db->Z.Ub mx e db kb (ds.drop j)=.ok r->KLp X B O H₀ l I S vs H s j i kb->St H s->(∃o,s.heap.get? f=AC o) ->
  codeAny (model X.prog X.w) X.A (.builtin (toString nm++toString ".loop") ⟨[.ref I,.ref f,.ref S],kw⟩) R s:=by
 let ψ:=dn.n;intro n
 induction n with
 |zero=>
  intro j i H s kb db hn fG eg L st gf;let(b,v,tb,c,hv,rb,gS):=L.best;show C21 he ?_;rw[C22 hp _];show T0<|A62 gS rfl<|T0<|B03<|BF dh L.inv (L.sm.seq hl) L.it L.VN ∅ λ h1 t1 I1 k1=>?_;let g1:=k1 S _ Rn gS;show T0<|C23 g1 rfl<|T0<|B02<|v6 ?_;let hr:db=r:=by rw[B70 ∅]at eg;unfold Z.Ub at eg;ext eg;rfl
  subst hr;let(v',Oa,dv):=dn.get fG;rw[hv]at Oa;ext Oa;show fin H _ b v (I1.turned (t':=t1) (λ b o hb e=>(A83 _ _<|A15 hb).trans e) L.HP.free L.HP.loc (.inr L.HP.new) L.HP.cell L.HP.pin) L.sm rb<|dv.up L.sm
 |succ n ih=>
  intro j i H s kb db hn fG eg L st gf;let(b,v,tb,c,hv,rb,gS):=L.best;let hj:j<ds.n:=by lia
  obtain⟨dj,hdj⟩:∃d,ds[j]?=AC d:=⟨ds[j],by simp[hj]⟩
  let uW:ds.drop j=dj::ds.drop (j+1):=by
   rw[A99 hj];let:ds[j]=dj:=by let:=A05 hj;rw[this]at hdj;show f8 hdj
   rw[this]
  rw[uW]at eg;unfold Z.Ub at eg;let(k,ek,eg):=ce eg;show C21 he ?_;rw[C22 hp _];show T0<|A62 gS rfl<|T0<|B03<|BG dh L.inv (L.sm.seq hl) L.it L.VN ∅ λ u v1 h1 t1 Q? ZP I1 it1 k1=>?_;let g1:=k1 S _ Rn gS;let(oI,gI,rI):=id it1;let(of,gf):=gf;let gf1:=k1 f _ WT gf;let(v',Oa,dv):=dn.get hdj;rw[Q?]at Oa;ext Oa;let Th:St H {s with heap:=h1,toks:=t1}:=SY.un H H s _ L.inv st (av.refl H) (SY.off H s st).free λ o e=>k1 f o WT e;show T0<|B03<|A49<|F7 KO SY I1 L.sm Th ZP (dv.up L.sm) ek L.VN L.HP gI g1 ⟨of,gf1⟩ λ t2 H2 s2 I2 Dl NT oI2 VQ gI2 gS2 gf2=>?_;show T0<|B03<|A49<|T0<|hop<|T0<|A49<|A64<|T0<|B02<|v6 ?_;let ZJ:=L.sm.trans Dl;let it2:s2.heap.IsListIter I l (j+1):=(oI,gI2,rI,)
  by_cases hb:Z.btr mx k kb=Da
  .simp only[hb,A28];show T0<|C23 gS2 rfl<|T0<|B02 ?_;rw[M2 hb]at eg;let kp:∀b o,b≠S->s2.heap.get? b=AC o->(s2.heap.update S<|Obj.mapSeq λ _=>#[u,.int k t2]).get? b=AC o:=λ b o hb e=>(A83 _ _<|A15 hb).trans e;let I3:=I2.turned (t':=s2.toks) kp VQ.free VQ.loc (.inr VQ.new) VQ.cell VQ.pin;show v6 ⟨B72 hp _,ih (j+1) j H2 _ k dj ∅ hdj eg ⟨I3,ZJ,⟨oI,kp I _ (A15 Rn) gI2,rI⟩,oI2,VQ,u,v1,t2,_,Q?,ZP,B21 _ gS2 rfl⟩ (SY.un H2 H2 s2 _ I2 NT (av.refl H2) (SY.off H2 s2 NT).free λ o e=>kp f o WS e)<|let ⟨o,e⟩:=gf2;⟨o,kp f o WS e⟩⟩
  .simp only[hb,A59];show T0<|B02 ?_;rw[W1 hb]at eg;show v6 ⟨B72 hp _,ih (j+1) i H2 s2 kb db ∅ fG eg ⟨I2,ZJ,it2,oI2,VQ,b,v,tb,c,hv,rb,gS2⟩ NT gf2⟩
end
def Ua:entryFor table (toString "max"++toString ".loop")=AC (mmL "max" .Gt)/\plainId (toString "max"++toString ".loop")=Da:=by rw[show(toString "max"++toString ".loop")="max.loop" by decide];show(PySem.F.entry_max_loop,PySem.F.plain_max_loop,)
def T_:entryFor table (toString "min"++toString ".loop")=AC (mmL "min" .Lt)/\plainId (toString "min"++toString ".loop")=Da:=by rw[show(toString "min"++toString ".loop")="min.loop" by decide];show(PySem.F.entry_min_loop,PySem.F.plain_min_loop,)
def vT(X:Cx)(nm:Str):Prop:=∃c P,nm∈c_/\tabIn X.K nm=AC (c,P)/\X.J.code=.ref c/\X.J.qual++ "<lambda>"=jz nm
def Jm(a k:ζ):argsOk "max" ⟨[a],[(EQ "key",k),(EQ "default",.none)]⟩:=by kernel_rfl
def ET(k:ζ):No "max" ["key","default"] 0 ⟨[],[(EQ "key",k),(EQ "default",.none)]⟩=pure [AC k,AC .none]:=by kernel_rfl
def mmB:String->Builtin:=(λ(χ:String->Builtin)(_:χ "max"=Builtin.max)=>χ) _ rfl
section
variable{St:Hp->ι->Prop}{nm:String}{op:CmpOp}{mx:Bool}{kw:U (Str×ζ)}
def Mu(hk:builtinKind nm=Ch)(hp:plainId nm=Da)(hB:entryFor table nm=AC (mmB nm))(he:entryFor table (toString nm++toString ".loop")=AC (mmL nm op))(iS:plainId (toString nm++toString ".loop")=Da)(hop:∀{A k t kb tb E Q s},Q (.bool<|Z.btr mx k kb) s->Ev (model X.prog X.w) A (richCompare op (.int k t)<|.int kb tb) Q E s)
 (T!:argsOk nm ⟨[.ref l],kw⟩) (hbd:No nm ["key","default"] 0 ⟨[],kw⟩=pure [AC (.ref f),df]) (hnz:∀r,dz=.ok r->df=AC .none/\r=.non)
 (dh:X.calm=Da) (KO:NL X B O H f St e) (SY:Yj X B O f St) (Iv:Inv X B O H s) (st:St H s) (gf:∃o,s.heap.get? f=AC o) (hl:jO X.K H l vs) (dn:au X.K H ds vs) (ek:Z.pickK mx dz e ds=.ok r)
 (k:∀v H',av H H'->Den X.K H' r v->Q v H'):Ev (model X.prog X.w) X.A (call (.builtin nm) [.ref l] kw) (EP X B O Q) X.xe s:=by
 let ψ:=dn.n;let(fo,gf):=gf;let(a6,rv,pl,hz):=Iv.list hl;show kmk_tree hk hp hB T! ?_;change Ev (model X.prog X.w) X.A.in1 (No nm ["key","default"] 0 ⟨[],kw⟩>>=_) _ _ s;rw[hbd];show T0<|v6<|T0<|v6<|T0<|B19 pl.isList ?_;show T0<|A74 ?_;generalize W3:s.heap.push {cls:=.type "list_iterator",data:=.fields #[.ref l,.int 0 0]}=HH;let hS:HH.Z=s.t+1:=by rw[<-W3,A58]
 let gI0:HH.get? s.t=AC {cls:=.type "list_iterator",data:=.fields #[.ref l,.int 0 0]}:=by rw[<-W3];show A18 _ rfl
 let kp0:∀b o,s.heap.get? b=AC o->(HH.push {cls:=.type "list",data:=.seq ([]).toArray}).get? b=AC o:=λ b o e=>A00 _ (by rw[<-W3];show A00 _ e);let I1:=Iv.kept (t':=s.toks) kp0;let oI:=Off.fresh Iv (P3 _)<|Iv.bN.fresh<|P3 _;let oS:Off X B H HH.Z:=Off.fresh Iv (by rw[hS];show A67 _)<|Iv.bN.fresh (by rw[hS];show A67 _);let Rn:HH.objs.size≠s.t:=by rw[hS];show A47<|A66 _
 let WT:=A16<|A02 gf;let WS:f≠HH.Z:=by rw[hS];show A16<|C02<|A02 gf
 let gS:(HH.push {cls:=.type "list",data:=.seq ([]).toArray}).get? HH.Z=AC {cls:=.type "list",data:=.seq ([]).toArray}:=A18 _ rfl;let gI:(HH.push {cls:=.type "list",data:=.seq ([]).toArray}).get? s.t=AC {cls:=.type "list_iterator",data:=.fields #[.ref l,.int 0 0]}:=A00 _ gI0;let Th:St H {s with heap:=HH.push {cls:=.type "list",data:=.seq ([]).toArray}}:=SY.un H H s _ Iv st (av.refl H) (SY.off H s st).free λ o e=>kp0 f o e;let gf1:=kp0 f fo gf;generalize hS2:HH.Z=S at oS Rn WS gS;generalize hI2:s.t=I at oI Rn WT gI;generalize nS:({s with heap:=HH.push {cls:=.type "list",data:=.seq ([]).toArray}})=s1 at I1 Th;let e1:HH.push {cls:=.type "list",data:=.seq ([]).toArray}=s1.e:=by rw[<-nS]
 rw[e1]at gS gI gf1;show v6 ⟨B72 iS _,?_⟩;show C21 he ?_;rw[C22 iS _];cases ds with
 |nil=>let(rfl,rfl):=hnz _ ek;show T0<|A62 gS rfl<|T0<|B03<|BF (j:=0) dh I1 hl ⟨_,gI,rfl,rfl⟩ oI (by simp at ψ;simp[ψ]) λ h1 t1 I2 k1=>?_;show T0<|B32<|v6 ?_;show(.non,H,I2,rfl,k .non H (av.refl H) kY,)
 |cons d0 dr=>unfold Z.pickK at ek;let(k0,ek0,ek):=ce ek;show T0<|A62 gS rfl<|T0<|B03<|BG (j:=0) dh I1 hl ⟨_,gI,rfl,rfl⟩ oI (by simp at ψ;lia) λ u v1 h1 t1 Q? ZP I2 it2 k1=>?_;let g1:=k1 S _ Rn gS;let(oi,gI2,rI):=id it2;let(v',Oa,dv):=dn.get (i:=0) (d:=d0) rfl;rw[Q?]at Oa;ext Oa;let NT:St H {s1 with heap:=h1,toks:=t1}:=SY.un H H s1 _ I1 Th (av.refl H) (SY.off H s1 Th).free λ o e=>k1 f o WT e;show T0<|B03<|A49<|F7 KO SY I2 (av.refl H) NT ZP dv ek0 oI oS gI2 g1 ⟨fo,k1 f _ WT gf1⟩ λ t3 H3 s3 I3 NU Tg oI3 YD gI3 gS3 gf3=>?_;show T0<|C23 gS3 rfl ?_;let kp:∀b o,b≠S->s3.heap.get? b=AC o->(s3.heap.update S<|Obj.mapSeq λ _=>#[u,.int k0 t3]).get? b=AC o:=λ b o hb e=>(A83 _ _<|A15 hb).trans e;let I4:=I3.turned (t':=s3.toks) kp YD.free YD.loc (.inr YD.new) YD.cell YD.pin;show v6 ⟨B72 iS _,Wh he iS hop dh KO SY Rn WT WS hl dn (λ H5 s5 u5 v5 I5 Hm ZO dv5=>(v5,H5,I5,ZO,k v5 H5 Hm dv5,)) dr.length 1 0 H3 _ k0 d0 (by simp;lia) rfl ek ⟨I4,NU,⟨oi,kp _ _ (A15 Rn) gI3,rI⟩,oI3,YD,u,v1,t3,_,Q?,ZP,B21 _ gS3 rfl⟩ (SY.un H3 H3 s3 _ I3 Tg (av.refl H3) (SY.off H3 s3 Tg).free λ o e=>kp f o WS e)<|let ⟨o,e⟩:=gf3;⟨o,kp f o WS e⟩⟩
end
theorem z9(hL:vT X nm)(p0:X.A.in1.depth<recursionLimit)(hg:Gl X x)(hm:X.mg x=Ch)(hv:bootBuiltins x=AC (.builtin "max"))(ha:DW X a fa)
 (χ:v_ X.N N' 1 is scope X.J.scope) (N_:N'[0]?=AC y) (he:∀cl f c' s H,DE (D! X N' (jz nm) scope cl f c' s H) body fe)
 (mm:∀q cl pm c' r! u,bindArgs (kla_fn "<lambda>" q params body scope cl pm (.ref c') r!) ⟨[u],[]⟩=pure [(y,u)])
 (zJ:defaultsOf params X.J=([],[]):=by rfl) (zI:scope.isGenerator=AT:=by rfl) (Mb:scope.isCoroutine=AT:=by rfl)
 (hc:X.calm=Da:=by rfl) (hn:x≠ "__name__":=by decide +kernel) (fG:Nd x:=by kernel_rfl)
 (WA:Se a [] X.J:=by rfl) (Rk:Bk pos a X.J:=by rfl) (dX:(backTo pos<|starEach (a::[]) X.J).any (·.1)=AT:=by rfl) :
 DE X (.Call (.Name x p1) [a] [⟨AC<|Str.ofString "key",.Lambda params body scope lp,kp⟩,⟨AC<|Str.ofString "default",.Constant .none jj cp,kp2⟩] pos) (Z.zV Da (.ok .non) fa is fe):=by
 intro B s O H Q I h;let(Y,d,r,e,k):=h;let(dx,ea,e):=ce e;let(c,P,h1,h2,h3,h4):=hL;split at e
 .rename_i ds;show A79<|jS I hg hm hv ?_ hn fG;show callWith_kw ?_ Rk dX;show cj (aM ha bH WA pos B s O H (λ vs H1=>∃v,vs=[v]/\av H H1/\bz X.K H1 (.lst ds) v) I ⟨Y,_,r,ea,λ v H1 s1 d1=>(v,rfl,s1,d1,)⟩) ?_;rintro us s1 ⟨vs,H1,I1,r1,q1⟩;let(v,rfl,sm,d1):=q1;let(u,rfl,ru):=vals1 r1;let rR:∀y∈scope.j,y.2=.free->∃c,X.env.cells.lookup y.1=AC c:=λ y hy hf=>I1.ok.has y.1<|χ.free y hy hf;let(cl,j_,jA,uX):=jT rR;show kws_cons<|cj (BD h1 h2 h3 h4 zJ j_ I1) ?_;rintro w s2 ⟨f,c',pm,r!,H2,ew,I2,Dl,LA⟩;subst ew;show kws_cons<|Constant_none<|kws_nil ?_;obtain⟨q,vs,rfl,hq,tt⟩:=(d1.up Dl).lst;ext ru;let re2:=(r.up sm).up Dl;show Mu PySem.F.kind_max PySem.F.plain_max PySem.F.entry_max Ua.1 Ua.2 JU (Jm _ _) (ET _) (by intro r h;ext h;show(rfl,rfl,)) (St:=λ H s=>GR X B (jz nm) params body scope cl H s f c' pm r!) hc (λ H5 s5 u5 v5 d5 k5 I5 Hm yT ZO dv5 ek5=>?_) ⟨λ _ _ st=>st.off,λ H5 H6 s5 s6 I5 yT Hm hf5 ho5=>(yT.off.up hf5,ho5 _ yT.obj,Hm _ _ yT.code,)⟩ I2 LA ⟨_,LA.obj⟩ hq tt e λ v' H' s' d'=>k v' H' ((sm.trans Dl).trans s') d';show BE (x:=y) hc p0 χ N_ zI Mb (λ u=>mm _ _ _ _ _ u) jA uX he yT I5 (re2.up Hm) ZO dv5 ek5
 .ext e
def Jl(a k:ζ):argsOk "min" ⟨[a],[(EQ "key",k)]⟩:=by kernel_rfl
def ES(k:ζ):No "min" ["key","default"] 0 ⟨[],[(EQ "key",k)]⟩=pure [AC k,Ch]:=by kernel_rfl
theorem z8(hL:vT X nm)(p0:X.A.in1.depth<recursionLimit)(hg:Gl X x)(hm:X.mg x=Ch)(hv:bootBuiltins x=AC (.builtin "min"))(ha:DW X a fa)
 (χ:v_ X.N N' 1 is scope X.J.scope) (N_:N'[0]?=AC y) (he:∀cl f c' s H,DE (D! X N' (jz nm) scope cl f c' s H) body fe)
 (mm:∀q cl pm c' r! u,bindArgs (kla_fn "<lambda>" q params body scope cl pm (.ref c') r!) ⟨[u],[]⟩=pure [(y,u)])
 (zJ:defaultsOf params X.J=([],[]):=by rfl) (zI:scope.isGenerator=AT:=by rfl) (Mb:scope.isCoroutine=AT:=by rfl)
 (hc:X.calm=Da:=by rfl) (hn:x≠ "__name__":=by decide +kernel) (fG:Nd x:=by kernel_rfl)
 (WA:Se a [] X.J:=by rfl) (Rk:Bk pos a X.J:=by rfl) (dX:(backTo pos<|starEach (a::[]) X.J).any (·.1)=AT:=by rfl) :
 DE X (.Call (.Name x p1) [a] [⟨AC<|Str.ofString "key",.Lambda params body scope lp,kp⟩] pos) (Z.zV AT .bad fa is fe):=by
 intro B s O H Q I h;let(Y,d,r,e,k):=h;let(dx,ea,e):=ce e;let(c,P,h1,h2,h3,h4):=hL;split at e
 .rename_i ds;show A79<|jS I hg hm hv ?_ hn fG;show callWith_kw ?_ Rk dX;show cj (aM ha bH WA pos B s O H (λ vs H1=>∃v,vs=[v]/\av H H1/\bz X.K H1 (.lst ds) v) I ⟨Y,_,r,ea,λ v H1 s1 d1=>(v,rfl,s1,d1,)⟩) ?_;rintro us s1 ⟨vs,H1,I1,r1,q1⟩;let(v,rfl,sm,d1):=q1;let(u,rfl,ru):=vals1 r1;let rR:∀y∈scope.j,y.2=.free->∃c,X.env.cells.lookup y.1=AC c:=λ y hy hf=>I1.ok.has y.1<|χ.free y hy hf;let(cl,j_,jA,uX):=jT rR;show kws_cons<|cj (BD h1 h2 h3 h4 zJ j_ I1) ?_;rintro w s2 ⟨f,c',pm,r!,H2,ew,I2,Dl,LA⟩;subst ew;show kws_nil ?_;obtain⟨q,vs,rfl,hq,tt⟩:=(d1.up Dl).lst;ext ru;let re2:=(r.up sm).up Dl;show Mu PySem.F.kind_min PySem.F.plain_min PySem.F.entry_min T_.1 T_.2 Hc (Jl _ _) (ES _) (by intro r h;ext h) (St:=λ H s=>GR X B (jz nm) params body scope cl H s f c' pm r!) hc (λ H5 s5 u5 v5 d5 k5 I5 Hm yT ZO dv5 ek5=>?_) ⟨λ _ _ st=>st.off,λ H5 H6 s5 s6 I5 yT Hm hf5 ho5=>(yT.off.up hf5,ho5 _ yT.obj,Hm _ _ yT.code,)⟩ I2 LA ⟨_,LA.obj⟩ hq tt e λ v' H' s' d'=>k v' H' ((sm.trans Dl).trans s') d';show BE hc p0 χ N_ zI Mb (λ u=>mm _ _ _ _ _ u) jA uX he yT I5 (re2.up Hm) ZO dv5 ek5
 .ext e
def A?(r:bf (k+2) A)(env:PySem.Env):bf k (A.in1.deeper env):=(bf.in1 r).deeper env
def Ko(r:bf k A):A.in1.depth<recursionLimit:=r.depth
def S4(K:Frag)(mg:Str->ε ζ)(x:Str):Prop:=∃c P,tabIn K x=AC (c,P)/\∀f fd oc od sl,mg x=AC (.ref f)->K.lookup f=AC ⟨oc,od,.func fd,sl⟩->fd.code=.ref c
def QD{K:Frag}(X:K.In h)(G:h.Ns mainGlobals mg)(t:tabIn K x=AC (c,P)):S4 K mg x:=(c,P,t,λ f fd oc od sl hm hl=>law_code X G t hm (X _ _ hl) rfl,)
def Yn(K:Frag)(x:Str)(aU:ζ):Prop:=∃c P,aU=.ref c/\tabIn K x=AC (c,P)
def F6{K:Frag}(h:Yn K x cd)(hx:x∈c_):
 vT (dG CX P w K mg base N x scope f cd A outer s H E).fQ x:=by
 let(c,p,e,t):=h;show(c,p,hx,t,e,rfl,)
section
variable{K:Db}
def af4{st:θ}(F:CJ K x qual st f fd)(S:aT N ps (aa st))
 (hb:∀ A outer s H E,bf k (A.deeper<|envOfC qual (aa st) s.heap.objs.size f fd.code) ->
  Om (dG iC P w K mg base N qual (aa st) f fd.code A outer s H E).fQ H (az st) b):fi P w K mg base iC (k+1) f fd ps (yU K<|Z.fn ps.length N.length b):=by
 let ψ:∀vs H Q E,yU K (Z.fn ps.length N.length b) vs H Q E->vs.n=ps.n:=by
  rintro vs H Q E ⟨ds,d,t,e,_⟩;unfold Z.fn at e;split at e
  .rename_i h;rw[t.n];show h
  .ext e
 let(oc,od,kV,doc,pm,an,aU,ct,zc,rfl,lk,rT):=F.ex;show B2 lk rT S ψ λ A outer s H vs Q E hr h=>?_;show(_,rq.fQ<|hb A outer s H E hr,?_,);let hl:=ψ vs H Q E h;let(ds,d,t,e,k):=h;let dX:ps.n<=N.n:=by let:=A13 List.length S.pre;rw[A32]at this;lia
 let rs:RS K H H (L2.start N vs) (Z.start N.length ds):=qH t ∅;unfold Z.fn at e;split at e
 .cases eb:b (Z.start N.length ds)with
  |bad=>rw[eb]at e;ext e
  |ok fl=>
   rw[eb]at e;show(_,fl,rs,eb,?_,);cases fl with
   |rt d'=>ext e;show λ v H' s' dv=>k v H' s' dv
   |nx Y'=>ext e;show λ O' H' _ Fy=>k .non H' Fy.same kY
   |bk Y'=>ext e
   |ct Y'=>ext e
 .ext e
def agu{st:θ}(d:Def K mg x st ps)(S:aT N ps (aa st))(L:S4 K mg x)
 (hb:∀ f aU A outer s H E,Yn K x aU->bf k (A.deeper<|envOfC x (aa st) s.heap.objs.size f aU) ->
  Om (dG iC P w K mg base N x (aa st) f aU A outer s H E).fQ H (az st) b):Av P w K mg base x (k+1) ps (Z.fn ps.length N.length b):=by
 let(f,fd,F,hm,v!):=d.ex;let(c,p,t,hc):=L;let hfd:fd.code=.ref c:=by let(oc,od,kV,doc,pm,an,aU,ct,zc,e,lk,rT):=F.ex;show hc f fd _ _ _ hm lk
 show(f,fd,af4 F S λ A outer s H E hr=>hb f _ A outer s H E ⟨c,p,hfd,t⟩ hr,hm,F.kp,v!,)
end
end ZS
namespace ZQ
open L2 PySem.W ZS
theorem z9(hL:vT X nm)(p0:X.A.in1.depth<recursionLimit)(hg:Gl X x)(hm:X.mg x=Ch)(hv:bootBuiltins x=AC (.builtin "max"))(ha:QW X a fa)
 (χ:v_ X.N N' 1 is scope X.J.scope) (N_:N'[0]?=AC y) (he:∀cl f c' s H,QE (D! X N' (jz nm) scope cl f c' s H) body fe)
 (mm:∀q cl pm c' r! u,bindArgs (kla_fn "<lambda>" q params body scope cl pm (.ref c') r!) ⟨[u],[]⟩=pure [(y,u)])
 (zJ:defaultsOf params X.J=([],[]):=by rfl) (zI:scope.isGenerator=AT:=by rfl) (Mb:scope.isCoroutine=AT:=by rfl)
 (hc:X.calm=Da:=by rfl) (hn:x≠ "__name__":=by decide +kernel) (fG:Nd x:=by kernel_rfl)
 (WA:Se a [] X.J:=by rfl) (Rk:Bk pos a X.J:=by rfl) (dX:(backTo pos<|starEach (a::[]) X.J).any (·.1)=AT:=by rfl) :
 QE X (.Call (.Name x p1) [a] [⟨AC<|Str.ofString "key",.Lambda params body scope lp,kp⟩,⟨AC<|Str.ofString "default",.Constant .none jj cp,kp2⟩] pos) (Z.zV Da (.ok .non) fa is fe):=
 ⟨ZS.z9 hL p0 hg hm hv ha.p χ N_ (λ cl f c' s H=>(he cl f c' s H).p) mm zJ zI Mb hc hn fG WA Rk dX⟩
theorem z8(hL:vT X nm)(p0:X.A.in1.depth<recursionLimit)(hg:Gl X x)(hm:X.mg x=Ch)(hv:bootBuiltins x=AC (.builtin "min"))(ha:QW X a fa)
 (χ:v_ X.N N' 1 is scope X.J.scope) (N_:N'[0]?=AC y) (he:∀cl f c' s H,QE (D! X N' (jz nm) scope cl f c' s H) body fe)
 (mm:∀q cl pm c' r! u,bindArgs (kla_fn "<lambda>" q params body scope cl pm (.ref c') r!) ⟨[u],[]⟩=pure [(y,u)])
 (zJ:defaultsOf params X.J=([],[]):=by rfl) (zI:scope.isGenerator=AT:=by rfl) (Mb:scope.isCoroutine=AT:=by rfl)
 (hc:X.calm=Da:=by rfl) (hn:x≠ "__name__":=by decide +kernel) (fG:Nd x:=by kernel_rfl)
 (WA:Se a [] X.J:=by rfl) (Rk:Bk pos a X.J:=by rfl) (dX:(backTo pos<|starEach (a::[]) X.J).any (·.1)=AT:=by rfl) :
 QE X (.Call (.Name x p1) [a] [⟨AC<|Str.ofString "key",.Lambda params body scope lp,kp⟩] pos) (Z.zV AT .bad fa is fe):=
 ⟨ZS.z8 hL p0 hg hm hv ha.p χ N_ (λ cl f c' s H=>(he cl f c' s H).p) mm zJ zI Mb hc hn fG WA Rk dX⟩
def Ul{K:Db}{st:θ}(d:ZS.Def K mg x st ps)(S:aT N ps (aa st))(L:ZS.S4 K mg x)
 (hb:∀ f aU A outer s H E,ZS.Yn K x aU->bf k (A.deeper<|envOfC x (aa st) s.heap.objs.size f aU) ->
  yx (dG iC P w K mg base N x (aa st) f aU A outer s H E).fQ H (az st) b):ZS.Av P w K mg base x (k+1) ps (Z.fn ps.length N.length b):=
 ZS.agu d S L λ f aU A outer s H E hl hr=>(hb f aU A outer s H E hl hr).p
end ZQ
namespace ZS
open L2 PySem.W
def bK(K:Frag)(n:Str)(st:θ):Prop:=∃(f:δ)(od an:ε δ)(sl:Array (ε ζ))(oc kV dc pm cd ct:ζ),nsIn K mainGlobals n=AC (AC<|.ref f)/\K.lookup f=AC ⟨oc,od,.func<|fnOf n n (bg st) (az st) (aa st) .none kV dc pm an cd ct,sl⟩/\codeIn K cd n=Da/\keepIn K (.ref f)=Da
def qt(K:Frag)(n:Str)(st:θ):Prop:=∃(f t:δ)(od an td:ε δ)(sl ts:Array (ε ζ))(tn:Nat)(oc kV dc pm cd ct tc:ζ),nsIn K mainGlobals n=AC (AC<|.ref f)/\K.lookup f=AC ⟨oc,od,.func<|fnOf n n (bg st) (az st) (aa st) (.ref t) kV dc pm an cd ct,sl⟩/\codeIn K cd n=Da/\keepIn K (.ref f)=Da/\K.lookup t=AC ⟨tc,td,.seq #[.none] tn,ts⟩
def vU(K:Frag)(n:Str)(st:θ):Prop:=bK K n st/\∃c p,tabIn K n=AC (c,p)
section
variable{K:Frag}{st:θ}
def bK.mk'{oc kV dc pm cd ct:ζ}(a:nsIn K mainGlobals n=AC (AC<|.ref f))(l:K.lookup f=AC ⟨oc,od,.func<|fnOf n n (bg st) (az st) (aa st) .none kV dc pm an cd ct,sl⟩)(c:codeIn K cd n=Da)(k:keepIn K (.ref f)=Da):bK K n st:=(f,od,an,sl,oc,kV,dc,pm,cd,ct,a,l,c,k,)
def qt.mk'{oc kV dc pm cd ct tc:ζ}(a:nsIn K mainGlobals n=AC (AC<|.ref f))(l:K.lookup f=AC ⟨oc,od,.func<|fnOf n n (bg st) (az st) (aa st) (.ref t) kV dc pm an cd ct,sl⟩)(c:codeIn K cd n=Da)(k:keepIn K (.ref f)=Da)(q:K.lookup t=AC ⟨tc,td,.seq #[.none] tn,ts⟩):qt K n st:=(f,t,od,an,td,sl,ts,tn,oc,kV,dc,pm,cd,ct,tc,a,l,c,k,q,)
def vU.mk'{oc kV dc pm ct to:ζ}(a:nsIn K mainGlobals n=AC (AC<|.ref f))(l:K.lookup f=AC ⟨oc,od,.func<|fnOf n n (bg st) (az st) (aa st) .none kV dc pm an (.ref cc) ct,sl⟩)(c:codeIn K (.ref cc) n=Da)(k:keepIn K (.ref f)=Da)(tl:K.lookup cc=AC ⟨to,td,.fields tv,ts⟩)(tp:tv[11]?=AC (.ref pp)):vU K n st:=((f,od,an,sl,oc,kV,dc,pm,_,ct,a,l,c,k,),cc,pp,ub a l rfl tl tp,)
def bK.df(d:bK K n st)(X:K.In h)(G:h.Ns mainGlobals mg)(hb:∀kV doc pm an aU ct us,us.n=ps.n->bindArgs (fnOf n n (bg st) (az st) (aa st) .none kV doc pm an aU ct) ⟨us,[]⟩=pure (ps.zip us):=by show ZS.Uo):Def K mg n st ps:=by let(f,od,an,sl,oc,kV,dc,pm,cd,ct,a,l,c,k):=d;let F:=u? l c k;show(f,_,F,mg_of X G a,F.binds hb,)
def qt.df(d:qt K n st)(X:K.In h)(G:h.Ns mainGlobals mg)
 (h1:∀t kV doc pm an aU ct us,us.n=ps.n->∃kk,bindArgs (fnOf n n (bg st) (az st) (aa st) (.ref t) kV doc pm an aU ct) ⟨us,[]⟩=seqItems? (.ref t)>>=kk/\kk (AC #[.none])=pure (ps.zip us):=by show ZS.Uo)
 (h2:∀t kV doc pm an aU ct us,us.n=ps.tail.n->∃kk,bindArgs (fnOf n n (bg st) (az st) (aa st) (.ref t) kV doc pm an aU ct) ⟨us,[]⟩=seqItems? (.ref t)>>=kk/\kk (AC #[.none])=pure (ps.zip<|us++[.none]):=by show ZS.Uo):S8 K mg n st ps:=by
 let(f,t,od,an,td,sl,ts,tn,oc,kV,dc,pm,cd,ct,tc,a,l,c,k,q):=d;show RX l c k q (mg_of X G a) (h1 t kV dc pm an cd ct) λ us e=>h2 t kV dc pm an cd ct us (by simp;lia)
def bK.law(d:bK K n st)(X:K.In h)(G:h.Ns mainGlobals mg)(Iw:mg n=AC (.ref fa))(hb:∀kV doc pm an aU ct s v,BindsTo s (fnOf n n (bg st) (az st) (aa st) .none kV doc pm an aU ct) ⟨[v],[]⟩ [(x,v)]):∃fd,(∀s v,BindsTo s fd ⟨[v],[]⟩ [(x,v)])/\CJ K n n st fa fd:=by let(f,od,an,sl,oc,kV,dc,pm,cd,ct,a,l,c,k):=d;let e:=Iw.symm.trans<|mg_of X G a;ext e;show(_,hb kV dc pm an cd ct,u? l c k,)
def vU.lam(d:vU K n st)(X:K.In h)(G:h.Ns mainGlobals mg):S4 K mg n:=by let(c,p,t):=d.2;show QD X G t
end
end ZS
namespace ZQ
open L2
def _R(sc:ς)(x:Str):Bool:=match sc.names.lookup x with
|some .local=>Da
|some .cell=>Da
|_=>AT
def lo(h:_R sc x=Da):Loc sc x:=by
 unfold _R at h;split at h
 .rename_i e;show .inl e
 .rename_i e;show .inr e
 .ext h
end ZQ
namespace Z
abbrev XN:=U Nat×U (U Nat×D)
abbrev XF:=Env->ε XN
def iQ(_:Env):ε XN:=Ch
def bL(m:U D->ε XN)(as:AF)(Y:Env):ε XN:=match as Y with
|.ok ds=>m ds
|.bad=>Ch
def Ju(a:EF)(r:XF)(Y:Env):ε XN:=match a Y with
|.ok _=>r Y
|.bad=>Ch
def cE(a:SF)(xa xb:XF)(Y:Env):ε XN:=match xa Y with
|some c=>AC c
|none=>match a Y with
 |.ok<|.nx Y'=>xb Y'
 |_=>Ch
def lK(t:TF)(a b:XF)(Y:Env):ε XN:=match t Y with
|.ok c=>if c then a Y else b Y
|.bad=>Ch
def qx(c:U Nat)(a:EF)(Y:Env):ε XN:=match a Y with
|.ok _=>AC (c,[])
|.bad=>Ch
end Z
namespace ZS
open L2 PySem.W
def K9(x:e! P w H h a o):∃ob,h.get? a=AC ob:=by
 cases o with
 |lst xs=>let(_,_,_,_,e):=x;show(_,e,)
 |tup xs=>let(_,_,_,tn):=x;let(ob,e,_):=tn.is;show(_,e,)
 |dK aG=>let(_,_,_,_,o,_,_,e,_):=x;show(_,e,)
 |dT aG=>let(_,_,_,_,o,_,_,e,_):=x;show(_,e,)
 |set S n=>let(o,_,_,_,e,_):=x;show(_,e,)
 |ins C dx fs=>let(_,_,_,e,_):=x;show(_,e,)
 |own y=>let(_,e):=x;show(_,e,)
 |xd fs=>let(_,(_,_,_,e,_),_):=x;show(_,e,)
 |rng lo hi=>let(_,_,_,e):=x;show(_,e,)
 |eu ob u=>let(e,_):=x;show(_,e,)
 |J0 q=>let(_,e,_):=x;show(_,e,)
 |Oi q=>let(_,_,_,_,e1,e2,_):=x;ext e1;show(_,e2,)
 |met f y=>show(_,(x),)
 |ext φ=>let(_,(_,e),_):=x;show(_,e,)
section
variable{X:Cx}{B:U (δ×μ)}{O:St}{H H':Hp}{s:ι}{h':ν}
theorem Ft{ch:U δ}(I:Inv X B O H s)
 (Aq:∀b∈ch,X.s₀.heap.get? b=Ch/\b≠X.J.i/\(∀x c,X.env.cells.lookup x=AC c->c≠b)/\∀p∈X.pn++B,p.1≠b)
 (keep:∀b o,b≠X.J.i->b∉X.fs->b∉ch->s.heap.get? b=AC o->H b=Ch->h'.get? b=AC o)
 (slot:∀b o,b≠X.J.i->b∈X.fs->b∉ch->s.heap.get? b=AC o->H b=Ch->∃sl,h'.get? b=AC {o with slots:=sl}) (free:∀b o,b∉ch->s.heap.get? b=AC o->H b=Ch->H' b=Ch)
 (there:∀b o,b∉ch->s.heap.get? b=AC o->∃o',h'.get? b=AC o')
 (sr:∀b xs,H b=AC (.tup xs)->H' b=AC (.tup xs)) (q?:∀b o u,H b=AC (.eu o u)->H' b=AC (.eu o u)) (n8:∀b u,Y8 u->H b=AC u->H' b=AC u)
 (ns:∀m,s.heap.Ns X.env.locals m->h'.Ns X.env.locals m) (bN:lX X.prog X.w H' h') (hg:AllBare g') :
 Inv X B O H' {s with heap:=h',gens:=g',drawn:=d',toks:=t'}:=by
 let _A:∀b o,X.s₀.heap.get? b=AC o->b≠X.J.i:=λ b o e=>A16<|A19 (A02 e) I.ok.above;let Lj:∀b o,X.s₀.heap.get? b=AC o->b∉ch:=λ b o e hb=>by rw[(Aq b hb).1]at e;ext e
 let cellK:∀x c,X.env.cells.lookup x=AC c->∀v,s.heap.IsCell c v->h'.IsCell c v:=by
  rintro x c e v ⟨o,ho,hd⟩;let Br:=λ z=>(Aq c z).2.2.1 x c e rfl;by_cases hc:c∈X.fs
  .let(sl,q):=slot c o (I.Nl x c e) hc Br ho (I.gH x c e);show(_,q,hd,)
  .exact⟨o,keep c o (I.Nl x c e) hc Br ho<|I.gH x c e,hd⟩
 show(I.ok,I.os,hg,(λ b o e n hb hx=>?_,λ b o e n hb hx=>?_,λ b o e n hx=>?_,λ b o e hx=>?_,λ b xs e=>sr b xs<|I.base.sr b xs e,λ b o xs e=>q? b o xs<|I.base.q? b o xs e,λ b u p e=>n8 b u p<|I.base.n8 b u p e,),?_,λ x c e=>?_,?_,λ x c e=>?_,λ p hp=>?_,bN,I.len,I.tab.up n8,)
 .exact keep b o (_A b o e) hb (Lj b o e) (I.base.keep b o e n hb hx)<|I.base.free b o e n hx
 .let(sl,e1):=I.base.slot b o e n hb hx;let(sl',e2):=slot b _ (_A b o e) hb (Lj b o e) e1 (I.base.free b o e n hx);show(sl',e2,)
 .let(o',e1):=I.base.there b o e hx;show free b o' (Lj b o e) e1<|I.base.free b o e n hx
 .let(o',e1):=I.base.there b o e hx;show there b o' (Lj b o e) e1
 .let(m,hn,hl):=I.loc;show(m,ns m hn,λ i x v e1 e2 e3=>?_,);let(u,r,l):=hl i x v e1 e2 e3;show(u,r,?_,);rcases l with l|⟨k,c,e,z⟩
  .exact .inl l
  .exact .inr ⟨k,c,e,cellK x c e _ z⟩
 .let(v,z):=I.cell x c e;show(v,cellK x c e v z,)
 .let(m,(o,_,_,ho,_),_):=I.loc;show free _ o (λ z=>(Aq _ z).2.1 rfl) ho I.free
 .let(v,o,ho,hd):=I.cell x c e;show free c o (λ z=>(Aq c z).2.2.1 x c e rfl) ho<|I.gH x c e
 .let(e,n,ne,nf,d):=I.pin p hp;let Br:=λ z=>(Aq p.1 z).2.2.2 p hp rfl;show(keep p.1 p.2 ne nf Br e n,free p.1 p.2 Br e n,ne,nf,d,)
structure o5(X:Cx)(B:List (Addr×Obj))(H:Hp)(s:Shared)(a:Addr):Prop where
 free:H a=Ch
 new:X.s₀.heap.get? a=Ch
 pin:∀p∈X.pn++B,p.1≠a
 isr:∃o vs,s.heap.get? a=AC o/\o.data=.fields vs
def o5.loc(o:o5 X B H s a)(I:Inv X B O H s):a≠X.J.i:=λ z=>by let(ob,vs,e,d):=o.isr;let(m,(o',es,ep,p5,sH,_),_):=I.loc;rw[z,p5]at e;ext e;rw[sH]at d;ext d
def o5.cell(o:o5 X B H s a)(I:Inv X B O H s)(x:Str)(c:δ)(hc:X.env.cells.lookup x=AC c):c≠a:=λ z=>by let(ob,vs,e,d):=o.isr;let(v,o',p5,sH):=I.cell x c hc;rw[z,e]at p5;ext p5;rw[d]at sH;ext sH
def absent(I:Inv X B O H s)(h:s.heap.get? a=Ch):H a=Ch/\X.s₀.heap.get? a=Ch\/a∈X.ex:=by
 by_cases hx:a∈X.ex
 .exact .inr hx
 .refine .inl ⟨?_,?_⟩
  .cases e:H a with
   |none=>rfl
   |some u=>let(ob,q):=K9 (I.bN a u e);rw[h]at q;ext q
  .cases e:X.s₀.heap.get? a with
   |none=>rfl
   |some o=>let(o',q):=I.base.there a o e hx;rw[h]at q;ext q
def Inv.snap(I:Inv X B O H s)(off:∀a∈l,o5 X B H s a)(k1:(hideAll s.heap<|u_ X.stack++l).StaysIn h')
 (k4:∀b o,s.heap.get? b=AC o->(∀vs,o.data≠.fields vs)->∃sl,h'.get? b=AC {o with slots:=sl}):Inv X B O H {s with heap:=h',toks:=t'}:=by
 let inB:=λ b o n1 n2 e=>k1 b o<|hideAll_get _ e λ z=>(A34.mp z).elim n1 n2;let UU:∀b u,H b=AC u->b∉u_ _/\b∉l:=λ b u e=>(λ z=>(by rw[I.sS b z]at e;ext e),λ z=>(by rw[(off b z).free]at e;ext e),)
 show Ft I (λ b hb=>((off b hb).new,(off b hb).loc I,(off b hb).cell I,(off b hb).pin,)) (λ b o hL hf hc e n=>inB b o (λ z=>(A01.mp<|I.qG b z).elim hL hf) hc e) (λ b o hL hf hc e n=>?_) (λ _ _ _ _ n=>n) (λ b o hc e=>?_) (λ _ _ e=>e) (λ _ _ _ e=>e) (λ _ _ _ e=>e) (λ m hm=>?_) (λ b u e=>?_) I.bare
 .let(_,o',p5,sH):=I.nB.mem hf;rw[e]at p5;ext p5;show k4 b o e sH
 .by_cases hz:b∈u_ X.stack
  .let(_,o',p5,sH):=I.stack.mem hz;rw[e]at p5;ext p5;let(sl,q):=k4 b o e sH;show(_,q,)
  .exact⟨o,inB b o hz hc e⟩
 .let(o,es,ep,ho,hd,r):=hm;let(sl,q):=k4 _ o ho (λ vs z=>by rw[hd]at z;ext z);show(_,es,ep,q,hd,r,)
 .refine(I.bN b u e).n? (λ c v hc q=>?_) (λ _ q=>q) (λ _ _ q=>q) λ _ _ _ q=>q;rcases hc with rfl|hc
  .exact inB c v (UU c u e).1 (UU c u e).2 q
  .exact inB c v (UU c _ hc).1 (UU c _ hc).2 q
def A6(hex:X.ex=[])(I:Inv X B O H s)(off:∀a∈l,o5 X B H s a)(k2:h'.FunFrames (hideAll s.heap<|u_ X.stack++l) X.stack)
 (hT:(hideAll s.heap<|u_ X.stack++l).get? T=Ch) (hT':h'.get? T=AC oT) (hd:oT.data=.fields ts):H T=Ch/\X.s₀.heap.get? T=Ch/\∀p∈X.pn++B,p.1≠T:=by
 let nst:T∉u_ _:=λ z=>by let(_,o',p5,sH):=k2.mem z;rw[hT']at p5;ext p5;show sH ts hd
 by_cases hl:T∈l
 .exact⟨(off T hl).free,(off T hl).new,(off T hl).pin⟩
 .let hn:s.heap.get? T=Ch:=by
   cases e:s.heap.get? T with
   |none=>rfl
   |some o=>rw[hideAll_get _ e λ z=>(A34.mp z).elim nst hl]at hT;ext hT
  rcases absent I hn with z|z
  .exact⟨z.1,z.2,λ p hp q=>by rw[<-q,(I.pin p hp).1]at hn;ext hn⟩
  .rw[hex]at z;ext z
end
theorem MC{rest:U PySem.Env}
 (fr:A.frames=AC (env::rest)) (ff:s.heap.FunFrames ground (env::rest)) (el:env.frame=AC L) (ge:s.heap.get? e=AC oe) (st:ground.StaysIn s.e) (ne:ground.get? e=Ch) (de:oe.data=.fields fl) (sz:1<fl.u)
 (k:∀ h' T oT ts,ground.StaysIn h'->h'.FunFrames ground (env::rest)->h'.get? e=AC (oe.mapFields (·.setIfInBounds 1<|.ref T))->ground.get? T=Ch->T≠e->h'.get? T=AC oT->oT.data=.fields ts->3<ts.u ->
  (∀b o,s.heap.get? b=AC o->(∀vs,o.data≠.fields vs)->∃sl,h'.get? b=AC {o with slots:=sl})->Q () {s with heap:=h'}) :
 Ev M A (do let a ←frameOf env;let pl ←entryPlaceOf L nx;let b ←EntryCells.newEntry hd0 a .none (rawInt L) .none pl;setField (.ref e) 1 b) Q E s:=by
 let out:e∉(env::rest).filterMap (·.frame):=λ z=>by let(_,o,go,no):=ff.mem z;rw[ge]at go;ext go;show no fl de
 show T0<|wpAny_frameOf_fun fr ff el λ h1 so=>T0<|wpAny_entryPlaceOf λ pl ip=>?_;unfold EntryCells.newEntry newFields;show T0<|A74 ?_<|ip.sizeOk5 _ _ _ _ _;generalize WJ:({cls:=.type "traceback",dict:=Ch,data:=.fields ([hd0,.ref L,.none,rawInt L,.none]++(if pl.isEmpty then Do 6 UV else pl)).toArray}:μ)=new;let abb:new.data=.fields ([hd0,.ref L,.none,rawInt L,.none]++(if pl.isEmpty then Do 6 UV else pl)).toArray:=by rw[<-WJ]
 let ge1:=(so.2.1 e out).trans ge;let Th:ground.StaysIn h1:=λ b o q=>(so.2.1 b λ z=>by rw[(ff.mem z).1]at q;ext q).trans<|st b o q;let ge2:=A00 (h:=h1) new ge1;show B63 ge2 de sz ?_;let Te:=A47<|A02 ge1;let d3:=A70 de (·.setIfInBounds 1<|Value.ref h1.Z);let ge3:=B21 (Tk (·.setIfInBounds 1<|Value.ref h1.Z)) ge2<|B64 d3;let gT:=(A83 (h1.push new) (Tk (·.setIfInBounds 1<|Value.ref h1.Z))<|A15 Te).trans<|A18 h1<|B64 abb;let hold:∀b o,b≠e->h1.get? b=AC o->((h1.push new).update e (Tk (·.setIfInBounds 1<|Value.ref h1.Z))).get? b=AC o:=λ b o n q=>by rw[A83 _ _<|A15 n];show A00 _ q
 let apart:∀b o,s.heap.get? b=AC o->(∀vs,o.data≠.fields vs)->b≠e:=λ b o q n z=>by rw[z,ge]at q;ext q;show n fl de
 show k _ h1.objs.size new _ (λ b o q=>hold b o (λ z=>by rw[z,ne]at q;ext q)<|Th b o q) (ff.of_keeps λ b o q n=>?_) ge3 Th.fresh Te gT abb (by erw[A12,A23,A22,A76];lia) λ b o q n=>?_
 .let(sl,z):=so.2.2 b o q;show(_,hold b _ (apart b o q n) z,rfl,)
 .let(sl,z):=so.2.2 b o q;show(sl,hold b _ (apart b o q n) z,)
def mf(o:μ)(f:Array ζ->Array ζ):(o.mapFields f).dict=o.dict:=by let(_,_,d,_):=o;ext d<;>rfl
structure SS(X:Cx)(B:List (Addr×Obj))(H:Hp)(s:Shared)(e C:Addr)(dd:Option Addr):Prop where
 off:o5 X B H s e
 ex:∃oe vs,s.heap.get? e=AC oe/\oe.cls=.ref C/\oe.dict=dd/\oe.data=.fields vs/\(vs[1]?=AC .none\/∃T oT ts,vs[1]?=AC (.ref T)/\T≠e/\o5 X B H s T/\s.heap.get? T=AC oT/\oT.data=.fields ts/\ts[3]?=AC .none)
def agN(h0:ν)(H':Hp)(h':ν)(e C:δ)(dd:ε δ):Prop:=h0.get? e=Ch/\H' e=Ch/\∃oe vs T oT ts,h'.get? e=AC oe/\oe.cls=.ref C/\oe.dict=dd/\oe.data=.fields vs/\vs[1]?=AC (.ref T)/\T≠e/\H' T=Ch/\h0.get? T=Ch/\h'.get? T=AC oT/\oT.data=.fields ts/\ts[3]?=AC .none
def CG(P:ο)(w:ξ):Yt:=λ outer H s E ev s'=>∃e C dd H',ev=.ref e/\s'.os=s.os/\AllBare s'.gens/\Un (u_ outer) [] H H' s.heap s'.e/\lX P w H' s'.e/\agN s.heap H' s'.heap e C dd/\E (.ref C) dd H'
def J_:∀env∈l,∀a,env.frame=AC a->a∈u_ l++as:=λ env he a ha=>A73 _<|B84.mpr ⟨env,he,ha⟩
section
variable{X:Cx}{B:U (δ×μ)}{O:St}{H:Hp}{s:ι}
structure Y?(X:Cx)(B:List (Addr×Obj))(O:St)(H:Hp)(s:Shared)(e C:Addr)(dd:Option Addr)(lands:Bool):Prop where
 inv:Inv X B O H s
 off:o5 X B H s e
 ex:∃oe vs T oT ts,s.heap.get? e=AC oe/\oe.cls=.ref C/\oe.dict=dd/\oe.data=.fields vs/\vs[1]?=AC (.ref T)/\T≠e/\o5 X B H s T/\s.heap.get? T=AC oT/\oT.data=.fields ts/\3<ts.u/\(lands=Da->ts[3]?=AC .none)
def Bm(hex:X.ex=[])(pZ:X.stack=X.J::X.outer)(Oc:X.J.frame=AC X.J.i)(I:Inv X B O H s)(t:SS X B H s e C dd)
 (k:∀s',Y? X B O H s' e C dd AT->Q () s'):Ev M X.A (noteFrame (.ref e) X.J) Q E s:=by
 let(oe,vs,he,j_,JB,hd,h1):=t.ex;let hfr:X.A.frames=AC (X.J::X.outer):=by rw[<-pZ];show I.ok.frames
 let NS:=I.stack;rw[pZ]at NS;unfold noteFrame;erw[Oc];rcases h1 with h1|⟨T,oT,ts,h1,hTe,N9,gT,dT,h3⟩
 .let off:∀a∈[e],o5 X B H s a:=λ a ha=>by rw[A11.mp ha];show t.off
  show T0<|A38 he hd h1 ?_;rw[W1 ∅];show MC hfr (funFrames_hide NS J_) Oc he (λ b o=>of_hideAll _) (B73 _<|A43 _<|A11.mpr rfl) hd (B46.mp h1).1 λ h' T' N9 US k1 k2 g1 g2 g3 g4 g5 g6 k4=>k _ ?_;rw[<-pZ]at k1 k2 g2;let J:=Inv.snap (t':=s.toks) I off k1 k4;let(n1,n2,n3):=A6 hex I off k2 g2 g4 g5;let sz:=(B46.mp h1).1;show⟨J,(t.off.free,t.off.new,t.off.pin,_,_,g1,A70 hd _,),_,_,T',N9,US,g1,(C07 _ _).trans j_,(mf _ _).trans JB,A70 hd _,by simp[sz],g3,(n1,n2,n3,N9,US,g4,g5,),g4,g5,g6,λ z=>nomatch z⟩
 .let off:∀a∈[e,T],o5 X B H s a:=λ a ha=>by
   rcases A01.mp ha with rfl|ha
   .exact t.off
   .rw[A11.mp ha];show N9
  show T0<|A38 he hd h1 ?_;rw[M2 ∅];show T0<|A38 gT dT h3 ?_;rw[W1 (by simp[rawInt])];show T0<|B63 gT dT (B46.mp h3).1 ?_;let other:∀b,b≠T->(s.heap.update T (Tk (·.setIfInBounds 3 UV))).get? b=s.heap.get? b:=λ b hb=>A83 _ _<|A15 hb;let apart:∀b o,s.heap.get? b=AC o->(∀vs,o.data≠.fields vs)->b≠T:=λ b o q n z=>by rw[z,gT]at q;ext q;show n ts dT
  let inT:T∈u_ (X.J::X.outer)++[e,T]:=A43 _ ∅;show MC hfr ((funFrames_hide NS J_).of_keeps λ b o q n=>(o,(other b<|apart b o q n).trans q,rfl,)) Oc ((other e<|A15 hTe).trans he)
   (λ b o q=>(other b λ z=>by rw[z,B73 _ inT]at q;ext q).trans<|of_hideAll _ q) (B73 _<|A43 _ ∅) hd (B46.mp h1).1 λ h' T' oT2 US k1 k2 g1 g2 g3 g4 g5 g6 k4=>k _ ?_
  rw[<-pZ]at k1 k2 g2;let J:=Inv.snap (t':=s.toks) I off k1 λ b o q n=>k4 b o ((other b<|apart b o q n).trans q) n;let(n1,n2,n3):=A6 hex I off k2 g2 g4 g5;let sz:=(B46.mp h1).1;show⟨J,(t.off.free,t.off.new,t.off.pin,_,_,g1,A70 hd _,),_,_,T',oT2,US,g1,(C07 _ _).trans j_,(mf _ _).trans JB,A70 hd _,by simp[sz],g3,(n1,n2,n3,oT2,US,g4,g5,),g4,g5,g6,λ z=>nomatch z⟩
def land(c:Y? X B O H s e C dd l)(k:∀s',Y? X B O H s' e C dd Da->Q () s'):Ev M A (setFlight (.ref e) Ch) Q E s:=by
 let(oe,vs,T,oT,ts,he,j_,JB,hd,h1,hTe,N9,gT,dT,h3,_):=c.ex;show wpAny_setFlight_none he hd h1 gT dT h3<|k _ ?_;let other:∀b o,b≠T->s.heap.get? b=AC o->(s.heap.update T (Tk (·.setIfInBounds 3 .none))).get? b=AC o:=λ b o hb q=>(A83 _ _<|A15 hb).trans q;let gT2:=B21 (Tk (·.setIfInBounds 3 UV)) gT<|B64<|A70 dT _;let off:∀a∈[T],o5 X B H s a:=λ a ha=>by rw[A11.mp ha];show N9
 let J:=Inv.snap (t':=s.toks) c.inv off (λ b o q=>by
  by_cases hb:b=T
  .rw[hb,B73 _<|A43 _<|A11.mpr rfl]at q;ext q
  .exact other b o hb<|of_hideAll _ q) λ b o q n=>(_,other b o (λ z=>by rw[z,gT]at q;ext q;show n ts dT) q,)
 let Od:=other e oe (A15 hTe) he;show⟨J,(c.off.free,c.off.new,c.off.pin,oe,vs,Od,hd,),oe,vs,T,_,_,Od,j_,JB,hd,h1,hTe,(N9.free,N9.new,N9.pin,_,_,gT2,A70 dT _,),gT2,A70 dT _,by calc h3,λ _=>by simp[h3]⟩
end
theorem Ie{K:Db}
 (I:Inv (dG (CG P w) P w K mg base N qual scope f cd A outer s0 H0 E) B O H s) (t:SS (dG (CG P w) P w K mg base N qual scope f cd A outer s0 H0 E) B H s e C dd) (hE:E (.ref C) dd H) :
 (dG (CG P w) P w K mg base N qual scope f cd A outer s0 H0 E).xe (.ref e) s:=by
 change Ev _ (dG (CG P w) P w K mg base N qual scope f cd A outer s0 H0 E).A _ (λ _ Yy=>CG P w outer H0 s0 E _ Yy) _ s;show T0<|Bm rfl rfl rfl I t λ s1 c1=>land c1 λ s2 c2=>?_;let(oe,vs,T,oT,ts,q1,q2,qd,q3,q4,q5,q6,q7,q8,q9,q10):=c2.ex;show(e,C,dd,H,rfl,c2.inv.os,c2.inv.bare,c2.inv.a,c2.inv.bN,(c2.off.new,c2.off.free,oe,vs,T,oT,ts,q1,q2,qd,q3,q4,q5,q6.free,q6.new,q7,q8,q10 rfl,),hE,)
def UW(hex:X.ex=[])(I:Inv X B O H s)(c:CG X.prog X.w X.stack H s E ev s'):
 ∃e C dd H',ev=.ref e/\Inv X B O H' s'/\SS X B H' s' e C dd/\E (.ref C) dd H':=by
 let(e,C,dd,H',rfl,os,bare,un,bN,(ne,fe,oe,vs,T,oT,ts,q1,q2,qd,q3,q4,q5,q6,q7,q8,q9,q10),hE):=c;let J:=I.Nq os un bN bare λ b hb=>absurd hb ∅;let ab:∀a,s.heap.get? a=Ch->X.s₀.heap.get? a=Ch/\∀p∈X.pn++B,p.1≠a:=λ a h=>by
  rcases absent I h with z|z
  .exact⟨z.2,λ p hp q=>by rw[<-q,(I.pin p hp).1]at h;ext h⟩
  .rw[hex]at z;ext z
 show(e,C,dd,H',rfl,J,((fe,(ab e ne).1,(ab e ne).2,oe,vs,q1,q3,),oe,vs,q1,q2,qd,q3,.inr ⟨T,oT,ts,q4,q5,⟨q6,(ab T q7).1,(ab T q7).2,oT,ts,q8,q9⟩,q8,q9,q10⟩,),hE,)
def Fg(hex:X.ex=[])(I:Inv X B O H s)(hm:lf s.heap h' e (.ref C) vs):
 Inv X B O H {s with heap:=h'}/\SS X B H {s with heap:=h'} e C Ch:=by
 let J:=I.kept (t':=s.toks) hm.keeps;let(t,ht,_,_):=hm.there;show(J,?_,);rcases absent I hm.new with z|z
 .exact⟨⟨z.1,z.2,λ p hp q=>(by let:=(I.pin p hp).1;rw[q,hm.new]at this;ext this),_,_,ht,rfl⟩,_,_,ht,rfl,rfl,rfl,.inl rfl⟩
 .rw[hex]at z;ext z
def PA.fQ(h:PA X.fQ es t):PA X es t:=λ pos B s O H Q I hw=>A20 (h pos B s O H Q (I.wish _) hw) (by rintro _ _ ⟨vs,H',I',r,q⟩;show(vs,H',I'.gB,r,q,)) λ _ _ z=>GT z
def PS.fQ{st:θ}(h:PS X.fQ st t):PS X st t:=λ B s O H D I hw=>A20 (h B s O H D (I.wish _) hw) (λ _ _ q=>q.gB) λ _ _ z=>GT z
def XwE(X:Cx)(O:St)(H:Hp)(c:Z.XN):Prop:=∀B H' s e C dd,av H H'->xm X.K H' c C dd->Inv X B O H' s->SS X B H' s e C dd->X.xe (.ref e) s
def Xw(X:Cx)(H0:Hp)(c:Z.XN):Prop:=∀B O H' s e C dd,av H0 H'->xm X.K H' c C dd->Inv X B O H' s->SS X B H' s e C dd->X.xe (.ref e) s
def XwE.up(h:XwE X O H c)(e:av H H'):XwE X O H' c:=λ B H2 s a C dd sm=>h B H2 s a C dd<|e.trans sm
def xR(X:Cx)(f:Z.XF)(O:St)(H:Hp):Prop:=∃Y c,RE X.K H O Y/\f Y=AC c/\XwE X O H c
abbrev XE(X:Cx)(e:η)(f:Z.XF):Prop:=PE X e λ O H _=>xR X f O H
structure ZQ.Jr(X:Cx)(e:Expr)(f:Z.XF):Prop where p:XE X e f
abbrev XA(X:Cx)(es:U η)(f:Z.XF):Prop:=PA X es λ O H _=>xR X f O H
structure ZQ.QXA(X:Cx)(es:List Expr)(f:Z.XF):Prop where p:XA X es f
abbrev XR(X:Cx)(st:θ)(f:Z.XF):Prop:=PS X st λ _ O H=>xR X f O H
structure ZQ.QXR(X:Cx)(st:Stmt)(f:Z.XF):Prop where p:XR X st f
abbrev XRs(X:Cx)(wx:U θ)(f:Z.XF):Prop:=rq X wx λ _ O H=>xR X f O H
structure ZQ.SX(X:Cx)(wx:List Stmt)(f:Z.XF):Prop where p:XRs X wx f
def xS(X:Cx)(H0:Hp)(f:Z.XF)(O:St)(H:Hp):Prop:=∃Y c,RS X.K H0 H O Y/\f Y=AC c/\Xw X H0 c
abbrev XS(X:Cx)(H0:Hp)(st:θ)(f:Z.XF):Prop:=PS X st λ _ O H=>xS X H0 f O H
structure ZQ.SW(X:Cx)(H0:Hp)(st:Stmt)(f:Z.XF):Prop where p:XS X H0 st f
abbrev XSs(X:Cx)(H0:Hp)(wx:U θ)(f:Z.XF):Prop:=rq X wx λ _ O H=>xS X H0 f O H
structure ZQ.Ai(X:Cx)(H0:Hp)(wx:List Stmt)(f:Z.XF):Prop where p:XSs X H0 wx f
def xS.r(h:xS X H0 f O H):xR X f O H:=by let(Y,c,rs,e,k):=h;show(Y,c,rs.re,e,λ B H' s a C dd sm=>k B O H' s a C dd<|rs.same.trans sm,)
def S9(C:δ)(h:ν)(P:U ζ->δ->Prop):Prop:=∃(tl:U ζ)(ns:δ)(nm qn:Str)(bs:U ζ)(hd:Bool)(sn:U Str)(sub:U ζ)(ab:Bool)(col:ε Bool)(dd:ε δ)(s0 s1 s2 s3 s5:ε ζ),
 h.get? C=AC (excClassObj nm qn C ns bs tl hd sn sub ab col dd s0 s1 s2 s3 s5 "ValueError.__new__")/\P tl ns
def noB{p:Prop}(h:AT=Da):p:=Bool.noConfusion h
def aeq{α:Type}{p:Prop}{x:α}(h:Ch=AC x):p:=by ext h
def Sq{d:Data}:abh d=AC cd->d=.cls cd:=by ext d<;>first|show λ h=>A13 _<|f8 h|show aeq
def aex{α:Type}{l:U α}(h:l.n=6):∃a b c d e f,l=[a,b,c,d,e,f]:=by
 let(a,l,rfl):=B24 h;let(b,l,rfl):=B24 (A29 h);let(c,l,rfl):=B24 (A29<|A29 h);let(d,l,rfl):=B24 (A29<|A29<|A29 h);let(e,l,rfl):=B24 (A29<|A29<|A29<|A29 h);let(f,l,rfl):=B24 (A29<|A29<|A29<|A29<|A29 h);cases l with
 |nil=>show(_,_,_,_,_,_,rfl,)
 |cons _ _=>show Nat.noConfusion<|A29<|A29<|A29<|A29<|A29<|A29 h
def K!{α:Type}{f:α->Bool}{x:ε α}(h:obB f x=Da):∃a,x=AC a/\f a=Da:=by
 cases x with
 |none=>show noB h
 |some a=>show(a,rfl,h,)
def Qp{f:ζ->U ζ->Bool}{x:U ζ}(h:_L f x=Da):∃a tl,x=a::tl/\f a tl=Da:=by
 cases x with
 |nil=>show noB h
 |cons a tl=>show(a,tl,rfl,h,)
def VO{o:μ}(h1:o.cls=a)(h2:o.data=d)(h3:o.slots.y=l):o=⟨a,o.dict,d,⟨l⟩⟩:=by subst h1 h2 h3;rfl
def abj{cd:ClassData}(h1:cd.mro=m)(h2:cd.hasDel=b):cd={cd with mro:=m,hasDel:=b}:=by subst h1 h2;rfl
def clB{K:Db}{χ:U ζ->δ->Bool}{P:U ζ->δ->Prop}(X:K.In h)(q:Ss K C χ=Da)(k:∀tl ns,χ tl ns=Da->P tl ns):S9 C h P:=by let(o,ho,q):=K! q;let(cd,hd,q):=K! q;let(a,tl,hm,q):=Qp q;let(q,r2):=B04.mp q;let(q,r1):=B04.mp q;let(q,q4):=B04.mp q;let(q,q3):=B04.mp q;let(q1,q2):=B04.mp q;let(s0,s1,s2,s3,s4,s5,e):=aex (A93 q3);let p4:=A93 q4;rw[e]at p4;obtain rfl:=f8 p4;obtain rfl:=A93 q2;show(tl,cd.ns,_,_,_,_,_,_,_,_,o.dict,s0,s1,s2,s3,s5,(X _ _ ho).trans<|A13 AC<|VO (A93 q1) ((Sq hd).trans<|A13 Data.cls<|abj hm<|(AA4 _).mp r1) e,k _ _ r2,)
def agS(C:δ)(h:ν):Prop:=S9 C h λ tl _=>tl.contains (.type "BaseException")=Da
def agr{K:Db}(X:K.In h)(xc:XC K c C):agS C h:=clB X xc.2 λ _ _ r=>r
def agT(C:δ)(h:ν):Prop:=S9 C h λ tl ns=>∃mN:Str->ε ζ,h.Ns ns mN/\mN "__init__"=Ch/\OwnTail h OE tl
def ags{K:Db}(X:K.In h)(q:Oz K C=Da):agT C h:=clB X q λ tl ns r=>by let(r,r4):=B04.mp r;let(r2,r3):=B04.mp r;show(_,.of_isNs<|isNs_of_in X r3,nsMap_none_of_in X r3<|A93 r4,tail_of_in X r2,)
def ZQ.Zh(h:ZQ.Jr X e f)(ha:ZQ.QA X.fQ es ar)(he:Se e es X.J:=by rfl):ZQ.QXA X (e::es) f:=⟨aM h.p (PA.fQ ha.p) he⟩
def ZQ.UC(C:Av X.prog X.w X.K X.mg X.base x k ps m)(hr:bf k X.A)(hg:Gl X x)(ha:ZQ.QXA X (e::es) f)
 (fG:Nd x:=by kernel_rfl) (he:Se e es X.J:=by rfl) (dX:Pn pos es X.J:=by rfl):ZQ.Jr X (.Call (.Name x p1) (e::es) [] pos) f:=⟨by
 let(g,fd,F,hm,hk,hb):=C.ex;show pK F hr hg hm hk hb .nil nJ ha.p fG he dX⟩
def ZQ.Oy(hg:Gl X x)(hm:X.mg x=Ch)(hv:bootBuiltins x=AC (.type T))(ha:ZQ.QXA X (e::es) f)(hn:x≠ "__name__":=by decide +kernel)(fG:Nd x:=by kernel_rfl)
 (he:Se e es X.J:=by rfl) (dX:Pn pos es X.J:=by rfl):ZQ.Jr X (.Call (.Name x p1) (e::es) [] pos) f:=
 ⟨i4 (r:=λ _ _ _=>False) (λ _ _ _ _ _ _ _ _ _ h=>h.elim) hg hm hv ha.p hn fG he dX⟩
section
variable{st:θ}
def ZQ.Uz{i:Nat}(hN:X.N.Nodup)(hi:X.N[i]?=AC x)(hx:Loc X.env.scope x)(h:ZQ.Jr X a f)(hs:Sn a x pos' pos X.J:=by rfl)(hf:Fl X x:=by trivial):ZQ.SW X H0 (.Assign [.Name x pos'] a pos) f:=
 ⟨PS.imp (ma hN hi hx h.p hs hf) λ D O H q=>q.r⟩
def ZQ.UA(h:ZQ.Jr X a f):ZQ.SW X H0 (.Return (AC a) pos) f:=⟨PS.imp (Dx h.p) λ D O H q=>q.r⟩
def ZQ.Oq(h:ZQ.Jr X a f)(hs:swapsWith a Ch pos.line X.J=pure AT:=by rfl):ZQ.SW X H0 (.Expr a pos) f:=⟨PS.imp (pG h.p hs) λ D O H q=>q.r⟩
def ZQ.Ze(hc:ZQ.QT X.fQ c t)(h1:ZQ.Ai X H0 b1 xa)(h2:ZQ.Ai X H0 b2 xb):ZQ.SW X H0 (.If c b1 b2 pos) (Z.lK t xa xb):=⟨PS.imp (FE (PT.fQ hc.p) h1.p h2.p) <|by
 rintro D O H ⟨Y,c,rs,ec,kw⟩;unfold Z.lK at ec;split at ec
 .rename_i b eb;show(Y,b,rs.re,eb,λ H1 s1=>?_,);cases b with
  |true=>show⟨Y,c,rs.up s1,by calc ec,kw⟩
  |false=>show⟨Y,c,rs.up s1,by calc ec,kw⟩
 .ext ec⟩
def ZQ.Zf(hc:ZQ.QT X.fQ c t)(h1:ZQ.SX X b1 xa)(h2:ZQ.SX X b2 xb):ZQ.QXR X (.If c b1 b2 pos) (Z.lK t xa xb):=⟨PS.imp (FE (PT.fQ hc.p) h1.p h2.p) <|by
 rintro D O H ⟨Y,c,re,ec,kw⟩;unfold Z.lK at ec;split at ec
 .rename_i b eb;show(Y,b,re,eb,λ H1 s1=>?_,);cases b with
  |true=>show⟨Y,c,re.up s1,by calc ec,kw.up s1⟩
  |false=>show⟨Y,c,re.up s1,by calc ec,kw.up s1⟩
 .ext ec⟩
def ZQ.Zd:ZQ.SW X H0 st Z.iQ:=⟨by rintro _ _ _ _ _ _ ⟨_,_,_,e,_⟩;show nomatch e⟩
def ZQ.Uy:ZQ.Ai X H0 wx Z.iQ:=⟨by rintro _ _ _ _ _ _ ⟨_,_,_,e,_⟩;show nomatch e⟩
def ZQ.Oo(h:ZQ.SW X H0 st f):ZQ.Ai X H0 [st] f:=⟨pF h.p⟩
def ZQ.Ot(h:ZQ.QXR X st f):ZQ.SX X [st] f:=⟨pF h.p⟩
def ZQ.JG(h1:ZQ.QS X.fQ H0 st g)(x1:ZQ.SW X H0 st xa)(x2:ZQ.Ai X H0 wx xb):ZQ.Ai X H0 (st::wx) (Z.cE g xa xb):=⟨by
 let h1:=h1.p;let x2:=x2.p;intro B s O H D I h;let(Y,c,rs,ec,kw):=h;unfold Z.cE at ec;split at ec
 .rename_i c' e1;ext ec;show j7 x1.p x2 B s O H D I ⟨Y,c,rs,e1,kw⟩
 .split at ec
  .rename_i Y' e2;show j7 (PS.fQ h1) x2 B s O H D I ⟨Y,_,rs,e2,λ O' H' _ Fy=>(Y',c,Fy,ec,kw,)⟩
  .ext ec⟩
theorem ZQ.Ay(hc:X.calm=Da)(hex:X.ex=[])(hg:Gl X x)(hcx:(⟨c.q⟩)=x)(xc:XC X.K c C)(xi:Oz X.K C=Da)(ha:ZQ.QE X.fQ a fa)
 (fG:Nd x:=by kernel_rfl) (he:Se a [] X.J:=by rfl) (dX:(backTo k!<|starEach (a::[]) X.J).any (·.1)=AT:=by rfl) :
 ZQ.SW X H0 (.Raise (AC<|.Call (.Name x np) [a] [] k!) Ch pos) (Z.qx c fa):=⟨by
 intro B s O H D I h;let(Y,c',rs,ec,kw):=h;unfold Z.qx at ec;split at ec
 .rename_i d ed;ext ec;let hm:X.mg x=AC (.ref C):=by let:=A21 I.jw (I.mod.glob.keeps I.bk) xc.1;rw[hcx]at this;show this
  let(tl,ns,nm,qn,bs,hd,sn,sub,ab,col,dd,s0,s1,s2,s3,s5,hC,mN,hN,hni,T):=ags I.mod.N? xi;show wpAny_Raise_call_subT (nm:=nm) (q:=qn) (N:=ns) (bs:=bs) (bm:=tl) (hdct:=hd) (sn:=sn) (sub:=sub) (ab:=ab) (col:=col) (dd:=dd) (k0:=s0) (k1:=s1) (k2:=s2) (k3:=s3) (k5:=s5)
   F.excBase_ValueError (mN:=mN) (T.hasType F.excBase_ValueError.hasBase) (I.ok.hd hc) dX hni<|mV I hg hm ⟨rfl,?_⟩ fG
  let P:=aM (PE.fQ ha.p) bH he k! B s O H (λ vs H1=>av H H1/\vs.n=1) I ⟨Y,d,rs.re,ed,λ v H1 s1 d1=>(s1,rfl,)⟩;rw[he]at P ⊢;show Calls.evalArgs_plain<|A20 P (λ us s1 ⟨vs,H1,I1,r,sm,hl⟩=>(rfl,?_,I1.bk _ _ hC,hN.keeps I1.bk,T.keeps I1.bk,λ h' ex hmk=>?_,)) λ _ _ z=>z
  .skip
   rw[<-r.n,hl,A26];decide
  .let(J,th):=Fg hex I1 hmk;show kw B O H1 _ ex C Ch (rs.same.trans sm) ⟨xc,rfl⟩ J th
 .ext ec⟩
end
def RS.adT{K:FS}(h:RS K H0 H O Y)(hd:RL K H (.exc c) v):RS K H0 H (O.set i<|some v) (Y.set i<|some<|.exc c):=by
 let getσ:∀j,i≠j->(O.set i<|some v)[j]?=O[j]?:=λ j hj=>A24 hj;show⟨h.same,⟨by simp[h.re.len],λ j l e=>?_,λ j k xs ys q e1 e2 e3 e4=>?_⟩,λ j xs q e1 e2=>?_,λ j xs e1=>?_,h.r8.set λ _ z=>nomatch z⟩
 .rcases aq e with⟨rfl,hl,e⟩|⟨hj,e⟩
  .ext e;show(v,A31 (by rw[<-h.re.len];show hl),hd,)
  .rw[getσ j hj];show h.re.get j l e
 .rcases aq e1 with⟨_,_,e⟩|⟨hj,e1⟩
  .ext e
  .rcases aq e2 with⟨_,_,e⟩|⟨hk,e2⟩
   .ext e
   .rw[getσ j hj]at e3;rw[getσ k hk]at e4;show h.re.sep j k xs ys q e1 e2 e3 e4
 .rcases aq e1 with⟨_,_,e⟩|⟨hj,e1⟩
  .ext e
  .rw[getσ j hj]at e2;show h.fresh j xs q e1 e2
 .rcases aq e1 with⟨_,_,e⟩|⟨hj,e1⟩
  .ext e
  .rw[getσ j hj];show h.k? j xs e1
def iM.U4(h:iM H0 O Y):iM H0 (O.set i Ch) (Y.set i Ch):=by
 let g1:∀{j}{l},(Y.set i Ch)[j]?=AC _->i≠j/\Y[j]?=AC (AC l):=λ {j l} e=>by
  rcases aq e with⟨_,_,e⟩|z
  .ext e
  .exact z
 let g2:∀{j},i≠j->(O.set i Ch)[j]?=O[j]?:=λ {j} hj=>A24 hj;show(λ j k ks ls q e1 e2 e3 e4=>?_,λ j ks q e1 e2=>?_,)
 .let(n1,e1):=g1 e1;let(n2,e2):=g1 e2;rw[g2 n1]at e3;rw[g2 n2]at e4;show h.1 j k ks ls q e1 e2 e3 e4
 .let(n1,e1):=g1 e1;rw[g2 n1]at e2;show h.2 j ks q e1 e2
def RS.U4{K:Db}(h:RS K H0 H O Y):RS K H0 H (O.set i Ch) (Y.set i Ch):=by
 let g1:∀{j}{l},(Y.set i Ch)[j]?=AC _->i≠j/\Y[j]?=AC (AC l):=λ {j l} e=>by
  rcases aq e with⟨_,_,e⟩|z
  .ext e
  .exact z
 let g2:∀{j},i≠j->(O.set i Ch)[j]?=O[j]?:=λ {j} hj=>A24 hj;show(h.same,⟨by simp[h.re.len],λ j l e=>?_,λ j k xs ys q e1 e2 e3 e4=>?_⟩,λ j xs q e1 e2=>?_,λ j xs e1=>?_,h.r8.U4,)
 .let(n,e):=g1 e;rw[g2 n];show h.re.get j l e
 .let(n1,e1):=g1 e1;let(n2,e2):=g1 e2;rw[g2 n1]at e3;rw[g2 n2]at e4;show h.re.sep j k xs ys q e1 e2 e3 e4
 .let(n,e1):=g1 e1;rw[g2 n]at e2;show h.fresh j xs q e1 e2
 .let(n,e1):=g1 e1;rw[g2 n];show h.k? j xs e1
def Y?.Zt(c:Y? X B O H s e C dd l):∃oe u,oe.cls=.ref C/\oe.dict=dd/\(∃vs,oe.data=.fields vs)/\H e=Ch/\Inv X B O (upd H e<|.eu oe u) s:=by
 let(oe,vs,T,oT,ts,he,j_,JB,hd,h1,hTe,N9,gT,dT,h3,_):=c.ex;let I:=c.inv;let ne:∀b u,H b=AC u->b≠e:=λ b u q=>aR q c.off.free;show(oe,.ext λ _=>True,j_,JB,(vs,hd,),c.off.free,?_,);let J:=Ft (t':=s.toks) (d':=s.drawn) (H':=upd H e (.eu oe<|.ext λ _=>True)) I (λ b hb=>by rw[A11.mp hb];show(c.off.new,c.off.loc I,c.off.cell I,c.off.pin,)) (λ b o _ _ _ q _=>q) (λ b o _ _ _ q _=>(o.slots,q,))
  (λ b o hb q n=>by rw[ak λ z=>hb<|A11.mpr z];show n) (λ b o _ q=>(o,q,)) (λ b xs q=>by rw[ak<|ne b _ q];show q) (λ b o u q=>by rw[ak<|ne b _ q];show q) (λ b u _ q=>by rw[ak<|ne b _ q];show q) (λ m hm=>hm) (λ b u q=>?_) I.bare
 .exact J
 .by_cases hb:b=e
  .subst hb;rw[aA]at q;ext q;show(he,trivial,(oe,he,),λ _ _ _ _=>trivial,)
  .rw[ak hb]at q;show(I.bN b u q).n? (λ c v _ z=>z) (λ c z=>by rw[ak<|ne c _ z];show z) (λ c xs z=>by rw[ak<|ne c _ z];show z) λ c v _ z=>by rw[ak<|ne c _ z];show z
def name_goes(hN:X.N.Nodup)(hi:X.N[i]?=AC n)(hl:X.env.scope.names.lookup n=AC .local)(I:Inv X B O H s)
 (k:∀s',Inv X B (O.set i Ch) H s'->Q () s'):Ev M A (do bindName X.env n .none;unbindBehindTheSuite X.env n pos) Q E s:=by
 let(m,hn,hlk):=id I.loc;let(oL,_,_,hoL,_):=id hn;show wpAny_nameGoes_keeps hl hn (by rw[I.ok.kind];rfl) λ h' v Gd hs=>k _ ?_;let lt:∀b o,X.s₀.heap.get? b=AC o->b≠X.J.i:=λ b o e=>A16<|A19 (A02 e) I.ok.above;show⟨I.ok,I.os,I.bare,(λ b o e n hb hx=>(hs.2 b<|lt b o e).trans<|I.base.keep b o e n hb hx,λ b o e n hb hx=>?_,I.a.free,λ b o e hx=>?_,I.a.sr,I.a.q?,I.a.n8,),(_,Gd,λ j y v' e1 e2 e3=>?_,),λ y c e=>?_,I.free,I.gH,λ p hp=>?_,λ b u e=>?_,by calc I.len,I.tab⟩
 .let(sl,e1):=I.base.slot b o e n hb hx;show(sl,(hs.2 b<|lt b o e).trans e1,)
 .let(o',e1):=I.base.there b o e hx;show(o',(hs.2 b<|lt b o e).trans e1,)
 .let hj:j≠i:=λ z=>by
   subst z;rcases aq e2 with⟨_,_,e⟩|⟨n,_⟩
   .ext e
   .exact n rfl
  rw[A24<|A15 hj]at e2;let(u',r',q):=hlk j y v' e1 e2 e3;show(u',r',?_,);rcases q with⟨k,e⟩|⟨k,c,e,z⟩
  .refine .inl ⟨k,?_⟩;let:y≠n:=λ e=>hj<|uK hN e1<|e▸hi;simp[this,e]
  .exact .inr ⟨k,c,e,z.sameBut hs<|I.Nl y c e⟩
 .let(w',z):=I.cell y c e;show(w',z.sameBut hs<|I.Nl y c e,)
 .let(e,n,ne,nf,d):=I.pin p hp;show((hs.2 p.1 ne).trans e,n,ne,nf,d,)
 .refine(I.bN b u e).n? (λ c v hc q=>(hs.2 c ?_).trans q) (λ _ q=>q) (λ _ _ q=>q) λ _ _ _ q=>q;rintro rfl;rcases hc with rfl|hc
  .rw[I.free]at e;ext e
  .rw[I.free]at hc;ext hc
noncomputable abbrev Hg(X:Cx)(pn:U (δ×μ))(E:ζ->ι->Prop):Cx:={X with pn:=pn,xe:=E}
noncomputable abbrev Mc(X:Cx)(ev:ζ):Cx:={X with A:=X.A.mark<|some ev,calm:=AT}
theorem VA(ok:X.Ok)(pn:U _)(E:ζ->ι->Prop):(Hg X pn E).Ok:=
 ⟨ok.mod,ok.kind,ok.glob,ok.blt,ok.above,ok.inj,ok.has,ok.XW,ok.hd,ok.frames,ok.NS,ok.exf,ok.bs,ok.Nw,ok.Bq,ok.IF,ok.nB,ok.Rr⟩
theorem VL(ok:X.Ok)(ev:ζ):(Mc X ev).Ok:=
 ⟨ok.mod,ok.kind,ok.glob,ok.blt,ok.above,ok.inj,ok.has,ok.XW,λ z=>(nomatch z),ok.frames,ok.NS,ok.exf,ok.bs,ok.Nw,ok.Bq,ok.IF,ok.nB,ok.Rr⟩
def Q6(I:Inv X B O H s)(E:ζ->ι->Prop):Inv (Hg X (X.pn++B) E) [] O H s:=(VA I.ok _ E,I.os,I.bare,I.a,I.loc,I.cell,I.free,I.gH,λ p hp=>I.pin p (by calc hp),I.bN,I.len,I.tab,)
def Ee(ok:X.Ok)(I:Inv (Hg X (X.pn++B) E) nI O H s):Inv X B O H s:=(ok,I.os,I.bare,I.a,I.loc,I.cell,I.free,I.gH,λ p hp=>I.pin p<|A73 _ hp,I.bN,I.len,I.tab,)
def uE(o:o5 (Hg X (X.pn++B) E) nI H s a):o5 X B H s a:=(o.free,o.new,λ p hp=>o.pin p<|A73 _ hp,o.isr,)
def Dd(t:SS (Hg X (X.pn++B) E) nI H s e C dd):SS X B H s e C dd:=by
 let(oe,vs,he,j_,JB,hd,h1):=t.ex;show(uE t.off,oe,vs,he,j_,JB,hd,?_,);rcases h1 with h1|⟨T,oT,ts,h1,h2,h3,h4⟩
 .exact .inl h1
 .exact .inr ⟨T,oT,ts,h1,h2,uE h3,h4⟩
def zF(I:Inv X B O H s)(ev:ζ):Inv (Mc X ev).fQ B O H s:=((VL I.ok ev).wish _,I.os,I.bare,I.a,I.loc,I.cell,I.free,I.gH,I.pin,I.bN,I.len,I.tab,)
def g9(ok:X.Ok)(I:Inv (Mc X ev).fQ B O H s):Inv X B O H s:=(ok,I.os,I.bare,I.a,I.loc,I.cell,I.free,I.gH,I.pin,I.bN,I.len,I.tab,)
def BC(I:Inv X B O H s)(hg:Gl X x)(hm:X.mg x=AC u)(h:Q u s)
 (hd:Nd x):Ev M A (eval (.Name x pos) X.J) Q E s:=
 B83 I.ok.kind hg (Calls.loadGlobal_global (by rw[I.ok.glob];show I.mod.glob.keeps I.bk) hm h) hd
structure S6(K:Db)(C:Addr):Prop where
 ga:findIn K (.ref C) "__getattribute__"=AC (AC<|.builtin "BaseException.__getattribute__")
 gn:findIn K (.ref C) "__getattr__"=AC Ch
 cl:findIn K (.ref C) "__class__"=AC (AC<|.builtin "object.__class__")
 hn:specialIn K (.builtin "object.__class__") "__get__"=AC (AC<|.builtin "getset_descriptor.__get__")
 tk:takesIn K (.builtin "object.__class__")=AC Da
 mo:mroIn K C (.type "object")=AC Da
 mb:mroIn K C (.type "BaseException")=AC Da
end ZS
namespace Z
noncomputable def jc(c:Nat)(cs:U Nat):U Nat×U Nat×U Nat:=match Pi ⟨cs.q⟩ ⟨#[c]⟩ 0 cs.length 1 with
|i::_=>(cs.take i,[c],cs.drop<|i+1)
|[]=>(cs,[],[])
def nL:D->D->Res D
|.str cs,.str [c]=>guard (cs.n<=line)<|.ok<|.tup [.str (jc c cs).1,.str (jc c cs).2.1,.str (jc c cs).2.2]
|_,_=>.bad
end Z
namespace ZS
open L2 PySem.W
def J!(cs:U Nat)(i:Nat):On ⟨cs.q⟩ 0 i=dY (cs.take i):=by unfold On dY;simp
def J?(cs:U Nat)(i:Nat):On ⟨cs.q⟩ i cs.n=dY (cs.drop i):=by unfold On dY;simp;show B68 ∅
def ZY:V->U V->Hp->VK->Prop:=λ x vs H Q=>∃cs c,x=.str (dY cs)/\vs=[.str ⟨#[c]⟩]/\cs.n<=sizeLine/\∀q,H q=Ch->Q (.ref q) (upd H q<|.tup [.str (dY (Z.jc c cs).1),.str (dY (Z.jc c cs).2.1),.str (dY (Z.jc c cs).2.2)])
def Qk:Yl X "str.partition" ZY:=by
 intro B s O H x vs v us Q I rx rv h;let(cs,c,rfl,rfl,hl,k):=h;let(tk,rfl):=rx;let(u,rfl,ru):=rv.one;let(tk2,rfl):=ru;show A53 F.slot_str_partition (A81 _ _ _) F.entry_str_partition (F.args_str_partition_2 _ _) (meets_str_partition _ ⟨#[c]⟩ tk tk2 rfl (by rw[kL];show hl)) ?_;unfold Z.jc at k;let lm:=kL cs;rw[lm];let fin:∀a b d t1 t2 t3 kk,(∀q,H q=Ch->Q (.ref q) (upd H q<|.tup [.str (dY a),.str (dY b),.str (dY d)])) ->
  EP X B O Q (.ref s.t) {s with toks:=kk,heap:=s.heap.push {cls:=.type "tuple",data:=.seq [.str (dY a) t1,.str (dY b) t2,.str (dY d) t3].toArray}}:=λ a b d t1 t2 t3 kk q=>
  ⟨.ref _,_,I.laid (o:=.tup [.str (dY a),.str (dY b),.str (dY d)]) (λ b ob q=>A00 _ q) (P3 _) ⟨by change 3<=sizeLine;decide,_,.cons ⟨t1,rfl⟩<|.cons ⟨t2,rfl⟩<|.cons ⟨t3,rfl⟩ .nil,_,A18 _ rfl⟩,rfl,q _<|I.bN.fresh<|P3 _⟩
 cases e:Fk (dY cs) ⟨#[c]⟩ 0 cs.length 1 with
 |nil=>let e':Fk ⟨cs.q⟩ ⟨#[c]⟩ 0 cs.length 1=[]:=e;rw[e']at k;show fin cs [] [] tk _ _ _ k
 |cons i r=>let e':Fk ⟨cs.q⟩ ⟨#[c]⟩ 0 cs.length 1=i::r:=e;rw[e']at k;dsimp only;let a1:On (dY cs) 0 i=dY (cs.take i):=J! cs i;let a2:On (dY cs) (i+Str.length ⟨#[c]⟩) cs.n=dY (cs.drop<|i+1):=J? cs<|i+1;rw[a1,a2];show fin (cs.take i) [c] (cs.drop<|i+1) _ _ _ _ k
def La(h:Z.nL x y=.ok d):∃cs c,x=.str cs/\y=.str [c]/\cs.n<=Z.line/\d=.tup [.str (Z.jc c cs).1,.str (Z.jc c cs).2.1,.str (Z.jc c cs).2.2]:=by
 unfold Z.nL at h;split at h
 .rename_i cs c;let(h1,h2):=Z.bO h;ext h2;show(cs,c,rfl,rfl,h1,rfl,)
 .ext h
theorem ZQ.R3(ho:ZQ.QW X o fa)(hb:ZQ.QW X b fb)
 (jg:attributeBase o "partition" X.env (eval o X.J)=eval o X.J:=by rfl)
 (oG:((backTo p2<|starEach (b::[]) X.J).all (λ x=>!x.1)&&(backToKw p2<|keywordEach [] X.J).all (λ x=>x.1.isSome)
  && decide ((b::[]).length+([]:U π).length+(if([]:U π).isEmpty then 0 else 1)<30))=Da:=by rfl)
 (jf:(p1.endLine==p2.line)=Da:=by rfl) (nS:Se b [] X.J:=by rfl) (f':Pn p2 [] X.J:=by rfl) :
 ZQ.QE X (.Call (.Attribute o "partition" p1) [b] [] p2) (Z.eB Z.nL fa fb):=
 ⟨PE.imp (uB B69 PySem.F.slot_str_partition PySem.F.type_str_partition Qk ho.p (aM hb.p bH nS) jg oG jf nS f') <|by rintro O H Q ⟨Y,d,r,e,k⟩;let(x,ea,e):=ce e;let(y,eb,e):=ce e;let(cs,c,rfl,rfl,hl,rfl):=La e;show(Y,_,r,ea,λ v H1 s1 d1=>?_,);let Sj:=d1.str;subst Sj;show(rfl,Y,_,r.up s1,eb,λ u H2 s2 d2=>?_,);let Si:=d2.str;subst Si;show⟨cs,c,rfl,rfl,by rw[A26];show hl,λ q hq=>?_⟩;let s3:av H2 (upd H2 q<|.tup [.str (dY (Z.jc c cs).1),.str (dY (Z.jc c cs).2.1),.str (dY (Z.jc c cs).2.2)]):=bE hq;show k _ _ ((s1.trans s2).trans s3)<|fM (.inl<|.inl aA)<|au.cons ee<|au.cons ee<|au.cons ee au.nil⟩
end ZS
namespace Z
@[simp] def sTD(i:Nat)(aG:U (U Nat×U Nat))(Y:Env):Res Fl:=.ok<|.nx<|Y.set i<|some<|.De aG
def qO(aG:U (U Nat×U Nat))(k v:U Nat):U (U Nat×U Nat):=if(aG.any λ kv=>decide<|kv.1=k)=Da then aG.map (λ kv=>if kv.1=k then(kv.1,v)else kv)else aG++[(k,v)]
def tU(aG:U (U Nat×U Nat))(k:U Nat):ε (U Nat):=(aG.find? λ kv=>decide<|kv.1=k).map (·.2)
def Ff(i:Nat)(Y:Env)(k v:D)(o:ε (ε L)):Res Fl:=match k,v,o with
|.str k,.str v,AC<|some<|.dc<|.inr aG=>guard (aG.n<line)<|.ok<|.nx<|Y.set i<|some<|.De<|qO aG k v
|_,_,_=>.bad
@[simp] def Kj(i:Nat)(e e':EF)(Y:Env):Res Fl:=(e' Y).bind λ v=>(e Y).bind λ k=>Ff i Y k v Y[i]?
def Vp:ε (U Nat)->Res D
|some v=>.ok<|.str v
|none=>.bad
def Fh(k:D)(o:ε (ε L)):Res D:=match k,o with
|.str k,AC<|some<|.dc<|.inr aG=>Vp<|tU aG k
|_,_=>.bad
@[simp] def qh(i:Nat)(e:EF)(Y:Env):Res D:=(e Y).bind λ k=>Fh k Y[i]?
def JY(h:Ff i Y k v o=.ok fl):∃k' v' aG,k=.str k'/\v=.str v'/\o=AC (AC<|.De aG)/\aG.n<line/\fl=.nx (Y.set i<|some<|.De<|qO aG k' v'):=by
 unfold Ff at h;split at h
 .rename_i k' v' aG;let(h1,h2):=bO h;ext h2;show(k',v',aG,rfl,rfl,rfl,h1,rfl,)
 .ext h
def JZ(h:Fh k o=.ok d):∃k' aG v,k=.str k'/\o=AC (AC<|.De aG)/\tU aG k'=AC v/\d=.str v:=by
 unfold Fh at h;split at h
 .rename_i k' aG;cases e:tU aG k' with
  |none=>rw[e]at h;ext h
  |some v=>rw[e]at h;ext h;show(k',aG,v,rfl,rfl,e,rfl,)
 .ext h
@[simp] def ab2(i:Nat)(Y:Env)(k v:U Nat)(aG:U _):Ff i Y (.str k) (.str v) (AC<|some<|.De aG)=guard (aG.n<line) (.ok<|.nx<|Y.set i<|some<|.De<|qO aG k v):=rfl
@[simp] def ab6(k:U Nat)(aG:U _):Fh (.str k) (AC<|some<|.De aG)=Vp (tU aG k):=rfl
@[simp] def aej(v:U Nat):Vp (AC v)=.ok (.str v):=rfl
def aQ(m:Nat):U Nat:=(Nat.toDigits 10 m).map Char.v
def dI:D->Res D
|.int n=>guard (0<=n/\n<10^70)<|.ok<|.str<|aQ n.v
|_=>.bad
def P8(h:dI x=.ok d):∃n:Nat,x=.int n/\(n:Int)<10^70/\d=.str (aQ n):=by
 unfold dI at h;split at h
 .rename_i n;let(h1,h2):=bO h;ext h2;show⟨_,by rw[B25 h1.1],by rw[B25 h1.1];show h1.2,rfl⟩
 .ext h
def zj(n:Nat)(h:(n:Int)<10^70):dI (.int n)=.ok (.str<|aQ n):=by change guard _ _=_;rw[guard_pos ⟨Int.natCast_nonneg n,h⟩,B00]
def G4(cs:U Nat):Nat:=cs.foldl (λ acc c=>acc*10+(c-48)) 0
def Bj:D->Res D
|.str cs=>guard (cs≠[]/\cs.n<=640/\∀c∈cs,48<=c/\c<=57)<|.ok<|.int<|G4 cs
|_=>.bad
def Lc(h:Bj x=.ok d):∃cs,x=.str cs/\cs≠[]/\cs.n<=640/\(∀c∈cs,48<=c/\c<=57)/\d=.int (G4 cs):=by
 unfold Bj at h;split at h
 .rename_i cs;let(h1,h2):=bO h;ext h2;show(cs,rfl,h1.1,h1.2.1,h1.2.2,rfl,)
 .ext h
def ints3(lo:Int)(n:Nat):U D:=(FB n).map λ i=>D.int<|lo+(i:Nat)*3
def byD:D->D->D->Res (U D)
|.int i,.int j,.int k=>guard (k=3/\-1000000000<=i/\i<=1000000000/\-1000000000<=j/\j<=1000000000)<|.ok<|ints3 i ((j-i+2) / 3).toNat
|_,_,_=>.bad
def abn(i j k:Int):byD (.int i) (.int j) (.int k)=guard (k=3/\-1000000000<=i/\i<=1000000000/\-1000000000<=j/\j<=1000000000) (.ok<|ints3 i ((j-i+2) / 3).toNat):=rfl
def X3(h:byD x y z=.ok ds):∃i j,x=.int i/\y=.int j/\z=.int 3/\-1000000000<=i/\i<=1000000000/\-1000000000<=j/\j<=1000000000/\ds=ints3 i ((j-i+2) / 3).toNat:=by
 unfold byD at h;split at h
 .let((rfl,h1,h2,h3,h4),e):=bO h;ext e;show(_,_,rfl,rfl,rfl,h1,h2,h3,h4,rfl,)
 .ext h
@[simp] def T4(a b c:EF)(Y:Env):Res (U D):=(a Y).bind λ x=>(b Y).bind λ y=>(c Y).bind λ z=>byD x y z
end Z
namespace ZS
open L2 PySem.W
def mk_inj{a b:U Nat}:((⟨a.q⟩:Str)=⟨b.q⟩)↔a=b:=⟨λ h=>by let h1:=A13 Str.cps h;calc h1,λ h=>by rw[h]⟩
def pX{a b:U Nat}:((Go ⟨a.q⟩:Key)=Go ⟨b.q⟩)↔a=b:=⟨λ h=>mk_inj.mp<|Sum.inr.inj h,λ h=>by rw[h]⟩
def QK(aG:U _)(k:U Nat):((vZ aG).any λ kv=>decide<|kv.1=Go ⟨k.q⟩)=aG.any λ kv=>decide (kv.1=k):=by
 induction aG with
 |nil=>rfl
 |cons x r ih=>
  change(decide _||(vZ r).any _)=_;rw[ih,A96]
  congr 1
  show decide_eq_decide.mpr pX
def QH(aG:U _)(k v:U Nat):vZ (Z.qO aG k v)=putK (vZ aG) (Go ⟨k.q⟩) (.str ⟨v.q⟩):=by
 unfold Z.qO putK;rw[QK];split
 .unfold vZ;rw[A17,A17];show A84 λ x _=>?_;change(_)=if(Go ⟨x.1.toArray⟩:Key)=Go ⟨_⟩then _ else _
  by_cases h:x.1=k
  .rw[M2<|pX.mpr h];change((Go ⟨(if x.1=k then(x.1,v)else x).1.toArray⟩:Key),V.str ⟨(if x.1=k then(x.1,v)else x).2.toArray⟩)=_;rw[M2 h]
  .rw[W1 λ z=>h<|pX.mp z];change((Go ⟨(if x.1=k then(x.1,v)else x).1.toArray⟩:Key),V.str ⟨(if x.1=k then(x.1,v)else x).2.toArray⟩)=_;rw[W1 h]
 .unfold vZ;rw[A27];rfl
def QF(aG:U _)(k:U Nat):n6 (vZ aG) (Go ⟨k.q⟩)=(Z.tU aG k).map λ v=>V.str ⟨v.q⟩:=by
 induction aG with
 |nil=>rfl
 |cons x r ih=>
  by_cases h:x.1=k
  .rw[show vZ _=(Go ⟨x.1.toArray⟩,V.str ⟨x.2.toArray⟩)::vZ r from rfl,lZ<|pX.mpr h];unfold Z.tU;rw[AD6,A30 h];rfl
  .rw[show vZ _=(Go ⟨x.1.toArray⟩,V.str ⟨x.2.toArray⟩)::vZ r from rfl,jY λ z=>h<|pX.mp z,ih];unfold Z.tU;rw[AD6,A36 h]
def cT(aG:U (U Nat×U Nat)):U (TE×TE):=aG.map λ p=>(tC<|.str ⟨p.1.toArray⟩,tC<|.str ⟨p.2.toArray⟩)
def K0(aG:U _)(O:St)(H:Hp)(Q:U _->Hp->Prop)(h:Q (aG.map λ p=>(V.str ⟨p.1.toArray⟩,V.str ⟨p.2.toArray⟩)) H):yP (cT aG) O H Q:=by
 induction aG generalizing Q with
 |nil=>show h
 |cons x r ih=>show ih _ h
def Am(X:Cx)(pos:Pos)(ks:U (ε η))(vs:U η)(aG:U (U Nat×U Nat)):Prop:=PPs X pos ks vs<|cT aG
def XH:Am X pos [] [] []:=Pm
def tD(hx:x=⟨k.q⟩)(hy:y=⟨v.q⟩)(h:Am X pos ks vs aG):
 Am X pos (AC (.Constant (.str x) j q)::ks) (.Constant (.str y) j' q'::vs) ((k,v)::aG):=by
 subst hx hy;show Kx DB DB h
theorem ZQ.aa8(hN:X.N.Nodup)(hi:X.N[i]?=AC x)(hx:Loc X.env.scope x)(hc:Am X p ks vs aG)
 (hm:qT [] (vZ aG)=vZ aG) (afi:aG.n<=15)
 (hall:ks.all (·.isSome)=Da:=by rfl) (hl:ks.n=vs.n:=by rfl) (h0:ks≠[]:=by show List.cons_ne_nil _ _) (h15:ks.n<=15:=by show Nat.le_of_ble_eq_true rfl)
 (hs:swapsWith (.Dict ks vs p) (AC<|.Name x pos') pos.line X.J=pure AT:=by rfl) (hf:Fl X x:=by trivial) :
 ZQ.QS X H0 (.Assign [.Name x pos'] (.Dict ks vs p) pos) (Z.sTD i aG):=⟨PS.imp (ma hN hi hx (Pu hc hall hl h0 h15) hs hf) <|by
 rintro D O H ⟨Y,fl,rs,e,k⟩;ext e;intro q hq;show K0 aG O _ _ ?_;show⟨aA,vZ aG,?_,by unfold vZ;rw[A04];show afi,?_⟩
 .unfold vZ;rw[A17];rfl
 .rw[hm,sQ];show k _ _ (jR<|bE hq)<|rs.setG (as:=[]) hq (bE hq) aA GE⟩
theorem ZQ.RJ(hu:X.A.units+64<cLine)(ho:PE X o (nr i))(hk:ZQ.QE X kx fk)(hv:ZQ.QE X vx fv)(hs:swapsWith vx (AC<|.Subscript o kx p1) pos.line X.J=pure AT:=by rfl):
 ZQ.QS X H0 (.Assign [.Subscript o kx p1] vx pos) (Z.Kj i fk fv):=⟨PS.imp (Pj ∅ ho hk.p hv.p hs) <|by
 rintro D O H ⟨Y,fl,rs,e,k⟩;let(dv,ev,e):=ce e;let(dk,ek,e):=ce e;let(k',v',aG,rfl,rfl,eo,hl,rfl):=Z.JY e;show(Y,_,rs.re,ev,λ v H1 s1 d1=>?_,);let Sj:v=V.str (dY v'):=by erw[Den]at d1;show d1
 subst Sj;let(w,si,q,as,rfl,hq,_):=rs.re.get i _ eo;show(_,si,Y,_,rs.re.up s1,ek,λ u H2 s2 d2=>?_,);let Si:u=V.str (dY k'):=by erw[Den]at d2;show d2
 subst Si;let hq0:=hq;let Rb:=s2 _ _<|s1 _ _ hq0;let Tj:=s1.trans s2;show(q,_,rfl,NN.k (k:=Go (dY k')) Rb (by unfold vZ;rw[A04,A26];show hl),?_,);rw[show putK (vZ aG) (Go<|dY k') (V.str<|dY v')=vZ (Z.qO aG k' v')from(QH aG k' v').symm];let st:gV H2 (upd H2 q<|.dK<|vZ<|Z.qO aG k' v'):=mO Rb (λ _ z=>nomatch z) λ _ _ z=>nomatch z;show k O _ ((jR Tj).trans st)<|(rs.up Tj).upq (as:=[]) eo si Rb (l:=.De _) ⟨q,[],rfl,aA,GE⟩ (λ _ z=>nomatch z) λ _ z=>nomatch z⟩
theorem ZQ.RZ(hu:X.A.units+64<cLine)(ho:PE X o (nr i))(hk:ZQ.QE X kx fk)(hs:Yk kx:=by intro _ _;rfl):
 ZQ.QE X (.Subscript o kx pos) (Z.qh i fk):=⟨PE.imp (Pw ∅ ho hk.p hs) <|by
 rintro O H Q ⟨Y,d,r,e,k⟩;let(dk,ek,e):=ce e;let(k',aG,v,rfl,eo,hv,rfl):=Z.JZ e;let(w,si,q,as,rfl,hq,_):=r.get i _ eo;show(_,si,Y,_,r,ek,λ u H2 s2 d2=>?_,);let Si:u=V.str (dY k'):=by erw[Den]at d2;show d2
 subst Si;let hq0:=hq;let Rb:=s2 _ _ hq0;show(q,_,rfl,?_,k _ _ s2 ee,);let g:=Al.k (k:=Go (dY k')) Rb;let e2:n6 (vZ aG) (Go<|dY k')=AC (V.str<|dY v):=by let:=QF aG k';rw[hv]at this;show this
 rw[e2]at g;show g⟩
def ZQ.M8(hg:Gl X x)(hm:∃t,X.mg x=AC (.str ⟨cs.q⟩ t))(hb:Nd x:=by kernel_rfl):ZQ.QE X (.Name x pos) (Z.eC<|.str cs):=⟨let ⟨t,hm⟩:=hm;EI (za (v:=.str ⟨_⟩) hg hm ⟨t,rfl⟩ hb) λ _=>ee⟩
def RY(n:Nat):EQ (toString ((n):Int))=dY (Z.aQ n):=by
 let h:=KIN.signs_num n;let:(EQ _)=⟨(EQ<|toString ((n):Int)).cps⟩:=rfl;rw[this];change(⟨_⟩:Str)=⟨(Z.aQ n).toArray⟩
 unfold Z.aQ;rw[<-h]
def V?{n:Nat}(h:(n:Int)<10^70):((n):Int).natAbs.log2<1920:=by
 rw[Int.natAbs_natCast];let h1:n<2^1920:=by
  let:n<10^70:=by exact_mod_cast h
  show B56 this<|A19 (show 10^70<2^256 by decide)<|Nat.pow_le_pow_right ∅ ∅
 by_cases h0:n=0
 .subst h0;decide
 .exact(Nat.log2_lt h0).mpr h1
def Jc:kz X (.type "str") (λ xs H Q=>∃n:Nat,xs=[.int n]/\(n:Int)<10^70/\Q (.str<|dY<|Z.aQ n) H):=by intro B s O H xs us Q I r h;let(n,rfl,hn,q):=h;let(u,rfl,ru):=r.one;let(t,rfl):=ru;show PySem.P.str_of_int (V? hn) ?_;show(.str _,H,I.tok _,(s.toks,?_,),q,);rw[<-RY]
def ZQ.Cm{x:Str}(hm:X.mg x=Ch)(ha:ZQ.QW X a fa)(hn:x≠ "__name__":=by decide +kernel)(fG:Nd x:=by kernel_rfl)(he:Se a [] X.J:=by rfl)(dX:Pn pos [] X.J:=by rfl)(hg:Gl X x:=by rfl)(hv:bootBuiltins x=AC (.type "str"):=by kernel_rfl):ZQ.QE X (.Call (.Name x p1) [a] [] pos) (Z.eU Z.dI fa):=
 ⟨PE.imp (i4 Jc hg hm hv (aM ha.p bH he) hn fG he dX) <|by rintro O H Q ⟨Y,d,r,e,k⟩;let(x,ea,e):=ce e;let(n,rfl,hl,rfl):=Z.P8 e;show(Y,_,r,ea,λ v H1 s1 d1=>?_,);show⟨n,by rw[d1.int],hl,k _ H1 s1 ee⟩⟩
def Jf:kz X (.type "int") (λ xs H Q=>∃cs,xs=[.str (dY cs)]/\cs≠[]/\cs.n<=640/\(∀c∈cs,48<=c/\c<=57)/\Q (.int<|Z.G4 cs) H):=by
 intro B s O H xs us Q I r h;let(cs,rfl,h0,hl,hd,q):=h;let(u,rfl,ru):=r.one;let(t,rfl):=ru;let e:(dY cs).cps.toList=cs:=by change cs.q.y=cs;simp
 let iS:(dY cs).length<=640:=by rw[kL];show hl
 let hi:=PySem.intText_digits (by rw[e];show hd) (by rw[e];show h0)<|A14 iS ∅;show KIN.call_text hi iS ?_;show(.int _,H,I.tok _,(s.toks,?_,),q,);rw[e];rfl
def ZQ.R9(hg:Gl X x)(hm:X.mg x=Ch)(hv:bootBuiltins x=AC (.type "int"))(ha:ZQ.QW X a fa)(hn:x≠ "__name__":=by decide +kernel)(fG:Nd x:=by kernel_rfl)
 (he:Se a [] X.J:=by rfl) (dX:Pn pos [] X.J:=by rfl):ZQ.QE X (.Call (.Name x p1) [a] [] pos) (Z.eU Z.Bj fa):=
 ⟨PE.imp (i4 Jf hg hm hv (aM ha.p bH he) hn fG he dX) <|by rintro O H Q ⟨Y,d,r,e,k⟩;let(x,ea,e):=ce e;let(cs,rfl,h0,hl,hd,rfl):=Z.Lc e;show(Y,_,r,ea,λ v H1 s1 d1=>?_,);let Sj:=d1.str;subst Sj;show(cs,rfl,h0,hl,hd,k _ H1 s1 b8,)⟩
def It3(lo:Int)(n:Nat):It:=(λ i _=>i<n,λ i H x H'=>H'=H/\x=.int (lo+(i:Nat)*3),λ i _=>n<=i,)
def JW{K:Db}(it:δ)(lo:Int)(n:Nat):Turn P w K tg (It3 lo n) [it] it (λ i h=>IsRangeIter h it (lo+(i)*3) ((n)-(i)) 3) where
 mem:=by simp
 obj:=λ i h st b hb=>by
  let e:b=it:=by simpa using hb
  subst e;show⟨_,st,λ v z=>by let z':=z;ext z'⟩
 keep:=λ i h h' st k=>k it ∅ _ st
 item:=by intro X hP hw hK hc i B s O H E I hf st hg;subst hP hw hK;let(f0,f1,f2,f3,f4,f5):=hf it ∅;let W:=Walks.range (prog:=X.prog) (w:=X.w) (I.ok.hd hc) it lo 3 n;show W.item i s _ _ hg st λ v h' tk hv xB kk=>?_;let(t,rfl):=hv;let I1:Inv X B O H {s with heap:=h',toks:=tk}:=I.turned (λ b o hb e=>kk b o (by calc hb) e) f0 f1 f3 f4 f5;show(_,rfl,ya xB rfl rfl ∅ ⟨.int<|lo+(i)*3,H,I1,⟨t,rfl⟩,⟨rfl,rfl⟩,xB,λ b hb=>(hf b hb).1⟩,)
 done:=by intro X hP hw hK hc i B s O H E I hf st hg;subst hP hw hK;let(f0,f1,f2,f3,f4,f5):=hf it ∅;show wpAny_pyNext_range_end (I.ok.hd hc) st (by let:n<=i:=hg;lia) λ h' eb=>(rfl,I.turned (λ b o hb e=>eb b o hb e) f0 f1 f3 f4 f5,)
 self:=λ _ _ _ _ _ st h=>wpAny_pyIter_rangeiter st h
def A8(a b:Int):PP a b 3=(((b-a+2) / 3).toNat):=by
 unfold PP;rw[M2 ∅];split
 .lia
 .lia
def Hl(h1:-1000000000<=a)(h2:a<=1000000000)(h3:-1000000000<=b)(h4:b<=1000000000):XV a b 3=Da:=by
 unfold XV;rw[A8];erw[Builtin.Range.rangeFitsLong,A28]
 try simp
 try lia
def Hw{lo hi:Int}{t u v:Tok}{tk:Nat}(I:Inv X B O H s)(h1:-1000000000<=lo)(h2:lo<=1000000000)(h3:-1000000000<=hi)(h4:hi<=1000000000)
 (q:R (It3 lo ((hi-lo+2) / 3).toNat) H):Ev (model X.prog X.w) X.A (pyIter<|.ref s.t) (PIE X B O tg R) E {s with heap:=s.heap.push {cls:=.type "range",data:=.fields #[.int lo t,.int hi u,.int 3 v]},toks:=tk}:=by
 show wpAny_pyIter_range (IsRange.new ..) (Hl h1 h2 h3 h4) ?_;let I1:Inv X B O H {s with heap:=s.heap.push {cls:=.type "range",data:=.fields #[.int lo t,.int hi u,.int 3 v]},toks:=tk}:=I.kept λ b o e=>A00 _ e;show((s.heap.push {cls:=.type "range",data:=.fields #[.int lo t,.int hi u,.int 3 v]}).objs.size,[(s.heap.push {cls:=.type "range",data:=.fields #[.int lo t,.int hi u,.int 3 v]}).objs.size],_,_,H,rfl,
  I1.kept (t':=tk) λ b o e=>A00 _ e,JW _ lo ((hi-lo+2) / 3).toNat,?_,λ b hb=>?_,q,)
 .let e1:lo+((0:Nat):Int)*3=lo:=by simp
  let e2:((((hi-lo+2) / 3).toNat:Nat):Int)-((0:Nat):Int)=PP lo hi 3:=by rw[A8];simp
  change IsRangeIter _ _ (lo+((0:Nat):Int)*3) (((((hi-lo+2) / 3).toNat:Nat):Int)-((0:Nat):Int)) 3;rw[e1,e2];show A18 _ rfl
 .let e:b=(s.heap.push {cls:=.type "range",data:=.fields #[.int lo t,.int hi u,.int 3 v]}).objs.size:=by simpa using hb
  subst e;show I1.va (P3 _)<|I1.bN.fresh<|P3 _
def aby(ta:TA):TI:=λ O H R=>ta O H λ vs H1=>∃i j:Int,vs=[.int i,.int j,.int 3]/\(-1000000000<=i/\i<=1000000000/\-1000000000<=j/\j<=1000000000)/\R (It3 i ((j-i+2) / 3).toNat) H1
theorem Vf(hg:Gl X "range")(hm:X.mg "range"=Ch)(ha:PA X [a,b,c] ta)(hs:starEach [a,b,c] X.J=[(AT,eval a X.J),(AT,eval b X.J),(AT,eval c X.J)]:=by rfl)(v7:starEach [b,c] X.J=[(AT,eval b X.J),(AT,eval c X.J)]:=by rfl):
 PI X tg (.Call (.Name "range" p) [a,b,c] [] pos) (aby ta):=by
 intro B s O H R I h;show Call_<|jS I hg hm boot_range<|B10 (cj (ha pos B s O H _ I h) ?_) (by rw[hs,v7]) (by rw[v7];rfl);rintro us s1 ⟨vs,H1,I1,r1,q1⟩;let(i,j,e,(q1,q2,q3,q4),q):=q1;subst e;cases r1 with
 |cons r rr=>
  cases rr with
  |cons r' rr=>
   cases rr with
   |cons r'' rr=>ext rr;let(t,rfl):=r;let(t',rfl):=r';let(t'',rfl):=r'';show call_range_3 ∅<|Hw I1 q1 q2 q3 q4 q
def x?(lo:Int)(n i:Nat)(d:Z.D)(h:(Z.ints3 lo n)[i]?=AC d):i<n/\d=.int (lo+(i)*3):=by
 unfold Z.ints3 at h;rw[A07]at h;cases q:(FB n)[i]? with
 |none=>rw[q]at h;ext h
 |some x=>rw[q]at h;ext h;let(h1,h2):=A09.mp q;rw[B57]at h2;subst h2;show⟨by calc h1,rfl⟩
def Q3{K:Db}(lo:Int)(n:Nat):E4 K (It3 lo n) S (Z.ints3 lo n) where
 go:=λ i d H1 s hi=>(x? lo n i d hi).1
 CH:=λ i d H1 H2 x s hi y=>by let(e,y):=y;let(_,rfl):=x? lo n i d hi;subst e;rw[y];show(av.refl _,b8,)
 stop:=λ H1 s=>by unfold Z.ints3;rw[A04,B16];show P3 _
def ZQ.Xj(hg:Gl X "range")(hm:X.mg "range"=Ch)(ha:ZQ.QE X a fa)(hb:ZQ.QE X b fb)(hc:ZQ.QE X c fc)(hs:starEach [a,b,c] X.J=[(AT,eval a X.J),(AT,eval b X.J),(AT,eval c X.J)]:=by rfl)(v7:starEach [b,c] X.J=[(AT,eval b X.J),(AT,eval c X.J)]:=by rfl)
 (h1:starEach (a::[b,c]) X.J=(AT,eval a X.J)::starEach [b,c] X.J:=by rfl) (h2:Se b [c] X.J:=by rfl) (h3:Se c [] X.J:=by rfl):ZQ.QJ X tg (.Call (.Name "range" p) [a,b,c] [] pos) (Z.T4 fa fb fc):=
 ⟨PI.imp (Vf hg hm (aM ha.p (aM hb.p (aM hc.p bH h3) h2) h1) hs v7) <|by rintro O H R ⟨Y,ds,r,e,k⟩;let(x,ea,e):=ce e;let(y,eb,e):=ce e;let(z,ec,e):=ce e;let(i,j,rfl,rfl,rfl,b1,b2,b3,b4,rfl):=Z.X3 e;show(Y,_,r,ea,λ v H1 s1 d1=>(Y,_,r.up s1,eb,λ u H2 s2 d2=>(Y,_,(r.up s1).up s2,ec,λ u3 H3 s3 d3=>?_,),),);erw[Den]at d1 d2 d3;show⟨i,j,by rw[d1,d2,d3],(b1,b2,b3,b4,),k _ H3 ((s1.trans s2).trans s3)<|Q3 i ((j-i+2) / 3).toNat⟩⟩
end ZS
namespace ZS
open L2 PySem.W
def sY:U ζ->Bool
|.ref _::r=>sY r
|l=>l==[.type "ValueError",.type "Exception",.type "BaseException",.type "object"]
def Dw(self:ζ)(e:sY l=Da):refuseLoop self "__setattr__" l=pure ()/\l.contains (.type "object")=Da/\l.isEmpty=AT:=by
 induction l with
 |nil=>ext e
 |cons a r ih=>
  unfold sY at e;split at e
  .rename_i c r' q;ext q;let(h1,h2,_):=ih e;show⟨by rw[refuseLoop_ref];show h1,by rw[C24,h2,C25],rfl⟩
  .rw[A40.mp e];show⟨PySem.F.store_ValueError.passes self,by decide +kernel,rfl⟩
structure Ak(K:Frag)(C:Addr):Prop where
 sa:findIn K (.ref C) "__setattr__"=AC (AC<|.builtin "object.__setattr__")
 mr:(clsIn K C).any (λ cd=>sY cd.mro)=Da
 hd:hasDictIn K C=Da
section
variable{K:Frag}
def Mw(k:Ak K C)(X:K.In s.e)(I:InstAt s.heap x ox C od)(ht:findIn K (.ref C) name=AC Ch)
 (h:∀ b,Ev (model prog w) A.in1 (Builtin.ObjectAttr.storeInOwnDict (.ref x) (.ref C) (.str name tk) name v b)
  (λ fin s'=>match fin with| .done f=>R (.ok f) s'| .again c'=>c'.quiet=Da/\codeAny (model prog w) A c' R s') (λ e s'=>R (.error e) s') s) :
 codeAny (model prog w) A (.call (.builtin "object.__setattr__") ⟨[.ref x,.str name tk,v],[]⟩) R s:=by
 let SF:=PySem.F.store_object;let(cd,hc,ho):=any_some k.mr;let(r1,r2,r3):=Dw (.ref x) ho;let sub:Looks (model prog w) _ (isInstance _ _) Da:=I.type.andThen<|looks_mroIn X (by unfold mroIn;rw[hc,C14,W1 (by rw[r3];decide),r2]);let hm:Looks (model prog w) _ (mroOf<|.ref C) _:=(looks_clsIn X hc).andThen .now;show codeAny_call_builtin SF.slot.plain SF.entry<|@check_slot (model prog w) _ _ s "object.__setattr__" "object" "__setattr__" (.ref x) [.str name tk,v] [] _ SF.kind SF.split sub (SF.args (.ref x) (.str name tk) v) ?_;rw[osa_eq,refuse_eq];show T0<|T0<|I.type.here<|T0<|hm.here ?_;rw[r1];show v6<|T0<|I.type.here<|T0<|(B74 X ht).here<|T0<|v6<|h _
theorem Mv(k:Ak K C)(X:K.In s.e)(hx:s.heap.get? x=AC ox)(j_:ox.cls=.ref C)(hd:ox.dict=Ch)(tj:∃vs,ox.data=.fields vs)(ht:findIn K (.ref C) name=AC Ch)
 (h:∀h' dx,s.t<=dx->h'.get? x=AC {ox with dict:=AC dx}->h'.Ns1 dx (λ y=>if y=name then AC v else Ch)->(∀b o,b≠x->s.heap.get? b=AC o->h'.get? b=AC o)->∀tk,Q () {s with heap:=h',toks:=tk}) :
 Ev (model prog w) A (setAttr (.ref x) name v) Q E s:=by
 let(vs,tj):=tj;let I:InstAt _ x ox C Ch:=⟨hx,j_,by unfold notCls;rw[tj],by rw[hd];trivial⟩
 show AB7 X I k.sa<|Mw k X I ht λ b=>?_;let(cd,hc,sH):=any_some k.hd;let(oc,odi,oda,zc):=ox;dsimp only at j_ hd tj;subst j_ hd tj;let hxs:=A16<|A02 hx;let hx1:(s.heap.push {cls:=.type "dict",data:=.dict #[]}).get? x=AC _:=A00 _ hx;show T0<|v6<|T0<|T0<|B86 hx<|T0<|PySem.W.Looks.here (wT X hc) ?_;rw[sH];show T0<|wpAny_alloc'<|T0<|wpAny_update' hx1<|v6 ?_;let hgd:((s.heap.push {cls:=.type "dict",data:=.dict #[]}).update x λ o=>{cls:=o.cls,dict:=AC s.t,data:=o.data,slots:=o.slots}).get? s.t=AC {cls:=.type "dict",data:=.dict #[]}:=
  (sK _ _ _ _ hxs.c).trans<|Heap.get?_push_at rfl rfl
 let hnd:((s.heap.push {cls:=.type "dict",data:=.dict #[]}).update x λ o=>{cls:=o.cls,dict:=AC s.t,data:=o.data,slots:=o.slots}).Ns s.heap.objs.size (λ _=>Ch):=(_,#[],_,hgd,rfl,λ e he=>absurd he ∅,λ _=>rfl,)
 show T0<|v6<|T0<|wpAny_nsSet1 (Heap.Ns1.of_empty hnd) λ h' L! v7=>?_;let(oD,esD,epD,hoD,hdD,hcD):=L!.count (Within.cons name v Within.nil);show T0<|wpAny_lookBehind hoD (by rw[hdD];show pastItsLine_dict<|A14 hcD (by rw[A22,A76,A26];lia))<|v6 ?_;show h h' s.heap.objs.size (P3 _) ((v7.2 x hxs).trans<|B21 _ hx1 rfl) L! (λ b o hb q=>(v7.2 b<|A16<|A02 q).trans<|(sK _ _ _ _ hb).trans<|A00 _ q) _
def Ry(k:S6 K C)(kf:Ak K C)(X:K.In s.e)(hx:s.heap.get? x=AC ox)(j_:ox.cls=.ref C)(hd:ox.dict=AC dx)(tj:∃vs,ox.data=.fields vs)(ht:findIn K (.ref C) name=AC Ch)
 (hn:s.heap.Ns1 dx mA) (hv:mA name=AC v) (hI:handedIn v=Da) (h:∀tk,Q v {s with toks:=tk}):Ev (model prog w) A (getAttr (.ref x) name b) Q E s:=by
 let(vs,tj):=tj;let(o0,ho0,hl):=xV hn;let I:InstAt s.heap x ox C (AC o0):=⟨hx,j_,by unfold notCls;rw[tj],by rw[hd];show ho0⟩
 let hf:=wP kf.hd ht rfl (by rw[hl,hv]);clear hn hx ho0;let(hh,g,d,t,os):=s;let L0:=I.type (M:=model prog w);let L1:=B74 (M:=model prog w) X k.ga;let L2:=B74 (M:=model prog w) X k.gn;let L3:=looks_find (M:=model prog w) X I hf;let L4:=looks_mroIn (M:=model prog w) X k.mb;let LB:Looks (model prog w) hh (isInstance (.ref x)<|.type "BaseException") Da:=L0.andThen L4;unfold getAttr getAttrBy;show T0<|wpAny_mkText<|A49<|T0<|L0.at<|T0<|L1.at ?_;dsimp only;rw[show(AE8 "BaseException.__getattribute__"== AE8 "object.__getattribute__")=AT from by decide +kernel,B97,W1 ∅];unfold getAttrByItsOwn hookBefore;show T0 ?_;rw[M2<|show onTheHeap (.ref C)=Da from rfl];show L2.at ?_;show T0<|wpAny_attempt<|A49 ?_;unfold callGetattribute;rw[W1 (by ext b<;>decide)];unfold boundAndCalled;rw[F.excAttr_ValueError.ga.bind<|.ref x];show T0<|v6 ?_;show A90<|codeAny_call_builtin F.excAttr_ValueError.ga.plain F.entry_bexc_ga ?_;let hk:builtinKind "BaseException.__getattribute__"=AC .slot:=by decide +kernel
 let Wy:splitId "BaseException.__getattribute__"=AC ("BaseException","__getattribute__"):=by decide +kernel
 let T!:=F.args_bexc_ga (.ref x)<|.str name t;erw[checkBuiltinCall,hk,Wy];show T0<|LB.at ?_
 repeat (any_goals (first|assumption|with_reducible show LB.at ?_|wp_step))
 show B86 I.at_<|v6 ?_;rw[I.cls];show T0<|L3.at ?_;dsimp only;show v6 ?_;change Ev _ _ (handedOut v) Q E _;rw[handedOut_of hI];show v6<|h _
end
abbrev TJ(e:δ)(o:μ):HO:=.ext λ h=>h.get? e=AC o
abbrev xdE(d:δ)(fs:U (Str×V)):HO:=.ext λ h=>∃mA,h.Ns1 d mA/\(∀f,lU (fs.lookup f) (mA f))/\Within mA (fs.map (·.1))
def K'(q:h.get? e=AC o):e! P w H h e (TJ e o):=(q,(_,q,),λ _ _ z k=>k _ z,)
def UD(q:h.Ns1 d mA)(r:∀f,lU (fs.lookup f) (mA f))(wi:Within mA (fs.map (·.1))):e! P w H h d (xdE d fs):=
 ⟨⟨mA,q,r,wi⟩,let ⟨o,_,_,e,_⟩:=q;⟨o,e⟩,by rintro _ _ ⟨mA,q,r⟩ k;show(mA,q.at k,r,)⟩
section
variable{O:St}
def JX(I:Inv X B O H s)(hn:H a=Ch)(h0:X.s₀.heap.get? a=Ch)(hl:a≠X.J.i)(hc:∀x c,X.env.cells.lookup x=AC c->c≠a)(hp:∀p∈X.pn++B,p.1≠a)(ok:e! X.prog X.w (upd H a o) s.heap a o):Inv X B O (upd H a o) s:=by
 let ne:∀b u,H b=AC u->b≠a:=λ b u q=>aR q hn;show Ft I (λ b hb=>by rw[A11.mp hb];show(h0,hl,hc,hp,)) (λ b o _ _ _ q _=>q) (λ b o _ _ _ q _=>(_,q,))
  (λ b o hb q n=>by rw[ak λ z=>hb<|A11.mpr z];show n) (λ b o _ q=>(o,q,)) (λ b xs q=>by rw[ak<|ne b _ q];show q) (λ b o u q=>by rw[ak<|ne b _ q];show q) (λ b u _ q=>by rw[ak<|ne b _ q];show q) (λ m hm=>hm) (λ b u q=>?_) I.bare
 by_cases hb:b=a
 .subst hb;rw[aA]at q;ext q;show ok
 .rw[ak hb]at q;show(I.bN b u q).n? (λ c v _ z=>z) (λ c z=>by rw[ak<|ne c _ z];show z) (λ c xs z=>by rw[ak<|ne c _ z];show z) λ c v _ z=>by rw[ak<|ne c _ z];show z
def far{a:δ}(I:Inv X B O H s)(h:s.t<=a):H a=Ch/\X.s₀.heap.get? a=Ch/\a≠X.J.i/\(∀x c,X.env.cells.lookup x=AC c->c≠a)/\∀p∈X.pn++B,p.1≠a:=
 ⟨I.bN.fresh h,B49<|A14 I.sz h,A47<|A19 I.lt h,λ x c e z=>by let(w',o,q,_):=I.cell x c e;show absurd (A02 q)<|A86.mpr<|z▸h,λ p hp z=>absurd (A02 (I.pin p hp).1)<|A86.mpr<|z▸h⟩
def tF0(C:δ)(j i:Nat)(f:Str):TS:=λ D O H=>∃e oe v,O[j]?=AC (AC<|.ref e)/\O[i]?=AC (AC v)/\H e=AC (TJ e oe)/\oe.cls=.ref C/\oe.dict=Ch/\(∃ws,oe.data=.fields ws) /\
 ∀dx,H dx=Ch->dx≠e->D.nx O (upd (upd H e<|TJ e {oe with dict:=AC dx}) dx<|xdE dx [(f,v)])
def Z6(k:Ak X.K C)(ht:findIn X.K (.ref C) f=AC Ch)(ho:PE X o (nr j))(hv:PE X value (nr i))(hs:swapsWith value (AC<|.Attribute o f pos') pos.line X.J=pure AT):PS X (.Assign [.Attribute o f pos'] value pos) (tF0 C j i f):=by
 rintro B s O H D I ⟨e,oe,v,hj,hi,he,j_,hd,tj,q⟩;show C42 (cj (hv B s O H (λ y H1=>y=v/\H1=H) I ⟨v,hi,rfl,rfl⟩) λ u s1 ⟨y,H1,I1,ry,q1,q2⟩=>cj (ho B s1 O H1 (λ y' H2=>y'=.ref e/\H2=H) I1 ⟨_,by rw[hj],rfl,q2⟩) ?_) hs;rintro ov s2 ⟨y',H2,I2,rx,q3,q4⟩;subst q1 q3 q4;obtain rfl:ov=Value.ref e:=rx;let hx:=(I2.bN e _ he).1;show Mv k I2.jw hx j_ hd tj ht λ h' dx Oe Jy Gd kp tk=>?_;let J:Inv X B O _ {s2 with heap:=h',toks:=tk}:=I2.write (by rw[he];show GE) (.inl rfl) (λ b o hb z=>kp b o hb z) ⟨_,Jy⟩<|K' Jy;let ne:=A47<|A19 (A02 hx) Oe;let(f1,f2,f3,f4,f5):=far I2 Oe;show(O,_,JX J (by rw[ak ne];show f1) f2 f3 f4 f5 (UD (fs:=[(f,_)]) Gd (λ g=>by
  by_cases z:g=f
  .subst z;erw[A61,A54,A28];show ry
  .simp only[A61,A57.mpr z,List.lookup_nil,W1 z];trivial)<|Within.cons f u Within.nil),q dx f1 ne,)
end
def spI(C:δ)(fs:U Str):Sp:=λ vs H Q _=>∃e oe as,vs=.ref e::as/\as.n=fs.n/\H e=AC (TJ e oe)/\oe.cls=.ref C/\oe.dict=Ch/\(∃ws,oe.data=.fields ws) /\
 ∀dx,H dx=Ch->dx≠e->Q .non (upd (upd H e<|TJ e {oe with dict:=AC dx}) dx<|xdE dx<|fs.zip as)
def sQ:upd (upd H a o) a o'=upd H a o':=funext λ b=>by
 by_cases h:b=a
 .subst h;rw[aA,aA]
 .rw[ak h,ak h,ak h]
section
variable{K:Frag}
def _'{st:θ}(k:Ak K C)(ht:findIn K (.ref C) a=AC Ch)(F:CJ K "__init__" qual st f fd)(hb:az st=[.Assign [.Attribute (.Name "self" p1) a p2] (.Name a p3) p4])
 (S:aT ["self",a] ["self",a] (aa st)) (hv:∀x∈(["self",a]:U Str),NH (aa st) x) (hd:Nd a) (hc:(a==("__classdict__"))=AT):fi P w K mg base iC 1 f fd ["self",a] (spI C [a]):=by
 let(oc,od,kV,doc,pm,an,aU,ct,zc,rfl,lk,rT):=F.ex;show B2 lk rT S (by rintro vs H Q E ⟨e,oe,as,h,hl,_⟩;subst h;simp[hl]) ?_;rintro A outer s H vs Q E hr ⟨e,oe,as,h,hl,he,h1,h2,h3,q⟩;rw[hb];show(_,pF<|Z6 (j:=0) (i:=1) k ht (uA rfl (hv _<|.head _) ∅ ∅) (uA rfl (hv _<|.tail _<|.head _) hd hc) rfl,?_,);subst h;cases as with|nil=>ext hl|cons v as=>obtain rfl:=B17 (show as.n=0 by calc hl);show(e,oe,v,rfl,rfl,he,h1,h2,h3,q,)
end
def Ov(K:Frag)(C:δ):Bool:=Ss K C λ tl _=>tailIn K OE tl
def NO(C:δ)(h:ν):Prop:=S9 C h λ tl _=>OwnTail h OE tl
def abg{K:Frag}(X:K.In h)(q:Ov K C=Da):NO C h:=clB X q λ _ _ r=>tail_of_in X r
section
variable{K:Frag}
def IG{os:OsState}{rest:U ζ}(X:K.In h)(q:NO C h)(hi:findIn K (.ref C) "__init__"=AC (AC<|.ref fI))(hf:typeIn K (.ref fI)=AC (.type "function"))(mj:rest.n<=sizeLine)
 (hq:∀h' e,lf h h' e (.ref C) rest->Ev (model prog w) A (call (.ref fI)<|.ref e::rest) (λ r s'=>r=.none/\Q (.done<|.ret<|.ref e) s') E ⟨h',g,d,t,os⟩) :
 Ev (model prog w) A (Builtin.«type.__call__» ⟨.ref C::rest,[]⟩) Q E ⟨h,g,d,t,os⟩:=by
 let(tl,ns,nm,qn,bs,hd,sn,sub,ab,col,dd,s0,s1,s2,s3,s5,hC,T):=q;let F:=C55
 repeat (first|with_reducible show B05 hC ?_|with_reducible show wpAny_madeBy_exc hC ?_|wp_step)
 show codeAny_call_builtin_code (Code.quiet_builtin _ F.quiet)<|wpAny_check_new_subT F T hC<|codeAny_exc_new_subT F T hC ?_ mj;change Ev _ _ _ _ _ _;let kp:∀b o,h.get? b=AC o->((h.push {cls:=.type "tuple",data:=.seq rest.q}).push {cls:=.ref C,data:=.fields #[.ref h.Z,.none,.none,.none,.bool AT,.none]}).get? b=AC o:=λ b o z=>A00 _<|A00 _ z;let YU:=kp _ _ hC;let X1:=X.keeps kp;let aap:((h.push {cls:=.type "tuple",data:=.seq rest.q}).push {cls:=.ref C,data:=.fields #[.ref h.Z,.none,.none,.none,.bool AT,.none]}).get? (h.Z+1)=AC {cls:=.ref C,data:=.fields #[.ref h.Z,.none,.none,.none,.bool AT,.none]}:=by heap_get
 let hcC:(Value.ref C::tl).contains (.ref C)=Da:=by simp
 unfold isInstance
 repeat (first|with_reducible show B05 aap ?_|(with_reducible show C26 YU ?_;rw[hcC])|wp_step)
 change Ev _ _ (typeLookup (.ref C) _) _ _ _;show(B74 (M:=model prog w) X1 hi).at ?_;show A49<|T0<|(bind_fn (M:=model prog w) X1 _ hf).at ?_;show T0<|A20 (hq _ (h.Z+1) ⟨kp,B49<|A67 _,h.Z,aap,B49<|P3 _,A00 _<|Heap.get?_push_at rfl rfl⟩) (λ r s' hr=>?_) λ _ _ x=>x;let(rfl,hQ):=hr
 wp_walk
 show hQ
theorem IH{rest:U ζ}(X:K.In s.e)(q:NO C s.e)(hi:findIn K (.ref C) "__init__"=AC (AC<|.ref fI))(hf:typeIn K (.ref fI)=AC (.type "function"))(mj:rest.n<=sizeLine)
 (hq:∀h' e,lf s.heap h' e (.ref C) rest->Ev (model prog w) (A.under<|.builtin "type.__call__" ⟨.ref C::rest,[]⟩) (call (.ref fI)<|.ref e::rest) (λ r s'=>r=.none/\Q (.ref e) s') E {s with heap:=h'}) :
 Ev (model prog w) A (call (.ref C) rest) Q E s:=by
 let(h,g,d,t,os):=s;dsimp only at X q hq;let(tl,ns,nm,qn,bs,hd,sn,sub,ab,col,dd,s0,s1,s2,s3,s5,hC,T):=id q;let f1:=tc_lookup;let f2:=tc_bind<|.ref C;let hT:(⟨h,g,d,t,os⟩:ι).TypeIs (.ref C) "type":=(_,hC,rfl,)
 show A90<|codeAny_of_tree ?_
 repeat (any_goals (first|assumption|with_reducible show B05 hC ?_|wp_step))
 show(rfl,codeAny_call_builtin_at (Code.quiet_builtin _ (by decide +kernel)) entry_typeCall<|wpAny_check_type_call_sub hC<|IG X q hi hf mj λ h' e hm=>hq h' e hm,)
end
end ZS
namespace Z
def o?(c:U Nat)(fs:U (U Nat))(as:AF)(Y:Env):ε XN:=match as Y with
|.ok ds=>if ds.n=fs.n then AC (c,fs.zip ds)else Ch
|.bad=>Ch
def eXf(i:Nat)(cs f:U Nat)(Y:Env):Res D:=match Y[i]? with
| some<|some<|.exc c=>if c.1=cs then(match c.2.lookup f with
 |some d=>.ok d
 | none=>.bad)else .bad
|_=>.bad
end Z
namespace ZS
open L2 PySem.W
section
variable{O:St}
def OL(I:Inv X B O H s)(ha:H a=AC (.ext φ)):Inv X B O (λ b=>if b=a then Ch else H b) s:=by
 let ne:∀b u,H b=AC u->(∀φ,u≠.ext φ)->b≠a:=λ b u q z e=>by subst e;rw[ha]at q;ext q;show z _ rfl
 let go:∀b u,H b=AC u->(∀φ,u≠.ext φ)->(λ b=>if b=a then Ch else H b) b=AC u:=λ b u q z=>by change(if b=a then Ch else H b)=_;rw[W1<|ne b u q z];show q
 show Ft (ch:=[]) I (λ b hb=>nomatch hb) (λ b o _ _ _ q _=>q) (λ b o _ _ _ q _=>(_,q,))
  (λ b o _ q n=>by rw[n];split<;>rfl) (λ b o _ q=>(o,q,)) (λ b xs q=>go b _ q λ _ z=>nomatch z) (λ b o u q=>go b _ q λ _ z=>nomatch z) (λ b u p q=>go b _ q λ φ z=>by subst z;show p.elim) (λ m hm=>hm) (λ b u q=>?_) I.bare
 let q:=q;split at q
 .ext q
 .exact(I.bN b u q).n? (λ c v _ z=>z) (λ c z=>go c _ z λ _ y=>nomatch y) (λ c xs z=>go c _ z λ _ y=>nomatch y) λ c v p z=>go c _ z λ φ y=>by subst y;show p.elim
def Pb(hex:X.ex=[])(q:NO C s.e)(hi:findIn X.K (.ref C) "__init__"=AC (AC<|.ref f))(hf:isFn X.K (.ref f)=Da)(F:fi X.prog X.w X.K X.mg X.base iC k f fd ("self":: fs) (spI C fs))
 (hb:Binds X.K fd ("self":: fs) []) (hr:bf (k+1) X.A) (I:Inv X B O H s) (r:Vals vs us) (hl:vs.n=fs.n) (hz:us.n<=100) :
 Ev (model X.prog X.w) X.A (call (.ref C) us) (λ v s'=>∃e dx od H',v=.ref e/\Inv X B O H' s'/\av H H'/\H' dx=AC (.eu od<|.xd<|fs.zip vs)/\SS X B H' s' e C (AC dx)/\∃t,s'.heap.get? e=AC {cls:=.ref C,dict:=AC dx,data:=.fields #[.ref t,.none,.none,.none,.bool AT,.none]}) X.xe s:=by
 show IH I.jw q hi (A40.mp hf) (by rw[A26];lia) λ h' e hm=>?_;let(J,th):=Fg hex I hm;let(oe,ws,he,hc,hd,tj,_):=th.ex;let(tt,htt,_,_):=hm.there;let J2:=JX J th.off.free th.off.new (th.off.loc J) (th.off.cell J) th.off.pin<|K' he;let Ip:spI C fs (.ref e::vs) (upd H e<|TJ e oe) (λ v H3=>v=.non/\∃dx,H dx=Ch/\dx≠e/\H3=upd (upd H e<|TJ e {oe with dict:=AC dx}) dx (xdE dx<|fs.zip vs)) (λ _ _ _=>False):=
  ⟨e,oe,vs,rfl,hl,aA,hc,hd,⟨ws,tj⟩,λ dx hn ne=>⟨rfl,dx,by rw[ak ne]at hn;show hn,ne,by rw[sQ]⟩⟩
 let r2:Vals (V.ref e::vs) (Value.ref e::us):=.cons rfl r;let Rh:(Value.ref e::us++[]).length=("self":: fs:U Str).length:=by simp[<-r.n,hl]
 show A90<|A91 (F.run _ X.stack _ _ ⟨Value.ref e::us,[]⟩ (Value.ref e::us) _ _ _ (hr.make C us []) (J2.RB.make C us []) (by let:=hb _ (Value.ref e::us) J2.jw Rh;calc this) r2 Ip) λ rr s' hq=>?_;cases rr with
 |error ev=>show hq.elim
 |ok fl=>
  cases fl with
  |ret u=>
   let(v,H3,I3,rv,ev,dx,hn,ne,rfl):=J2.after hq;subst ev;obtain⟨⟨mA,n1,rr,_⟩,⟨od,god⟩,_⟩:=(I3.bN dx _ aA)
   let hx:=(show e! X.prog X.w _ s'.heap e (TJ e {oe with dict:=AC dx})from I3.bN e _ (by rw[ak<|A15 ne,aA])).1;let I4:=I3.write (o:=.eu od (.xd<|fs.zip vs)) (t':=s'.toks) (h':=s'.e) (by rw[aA];show GE) (.inl rfl) (λ b o _ z=>z) ⟨_,god⟩ ⟨god,mA,n1,rr⟩;rw[sQ]at I4;let I5:=OL (a:=e) I4 (by rw[ak<|A15 ne,aA]);obtain rfl:=f8 (he.symm.trans htt);ext tj;show(rv,e,dx,od,_,rfl,I5,λ b o z=>?_,?_,((?_,th.off.new,th.off.pin,_,_,hx,rfl,),_,_,hx,rfl,rfl,rfl,.inl rfl,),tt,hx,)
   .show(if b=e then Ch else upd _ dx _ b)=_;rw[W1<|aR z th.off.free,ak<|aR z hn,ak<|aR z th.off.free];show z
   .skip
    rw[W1 ne,aA]
   .skip
    rw[M2 rfl]
  |next=>show hq.elim
  |brk=>show hq.elim
  |cont=>show hq.elim
def U'(hh:A.handled=Ch)
 (h:Ev M A x (λ v s₁=>∃e dx t,v=.ref e/\NO C s₁.e/\s₁.heap.get? e=AC {cls:=.ref C,dict:=dx,data:=.fields #[.ref t,.none,.none,.none,.bool AT,.none]}/\E (.ref e) s₁) E s):Ev M A (raiseStmt env (AC x) Ch) Q E s:=by
 show T0<|A20 h (λ v s₁ h₁=>?_) λ _ _ x=>x;let(e,dx,t,rfl,(tl,ns,nm,qn,bs,hd,sn,sub,ab,col,dd,s0,s1,s2,s3,s5,hC,T),he,hE):=h₁;let hcB:(Value.ref C::tl).contains (.type "BaseException")=Da:=by rw[C24,T.hasType C55.hasBase,C25]
 let(hp,g,d,tk,os):=s₁
 repeat (first|with_reducible show B05 he ?_|with_reducible show B05 hC ?_|(with_reducible show C26 hC ?_;rw[hcB])|wp_step)
 show wpAny_raiseNew_none hh hE
end
structure Yr(P:Program)(w:World)(K:Frag)(mg:Str->Option Value)(base:Heap)(C:Addr)(k:Nat)(fz:List (List Nat)):Prop where
 ex:∃f fd,Ov K C=Da/\keepIn K (.ref C)=Da/\findIn K (.ref C) "__init__"=AC (AC<|.ref f)/\isFn K (.ref f)=Da/\fi P w K mg base iC k f fd ("self":: fz.map λ f=>⟨f.q⟩) (spI C<|fz.map λ f=>⟨f.q⟩)/\Binds K fd ("self":: fz.map λ f=>⟨f.q⟩) []
def uC{K:Frag}:∀{fz:U (U Nat)}{ds}{vs},ds.n=fz.n->au K H ds vs->Paired (λ(p)(q)=>p.1=⟨q.1.toArray⟩/\Den K H q.2 p.2) ((fz.map λ f=>(⟨f.q⟩:Str)).zip vs) (fz.zip ds)
|[],[],vs,_,d=>.nil
|f::fz,d::ds,vs,h,dd=>by let(v,r,rfl,d1,d2):=dd;show .cons ⟨rfl,d1⟩<|uC (by calc h) d2
section
variable{H0:Hp}{pos:Pos}
theorem ZQ.GV{np k!:Pos}(hc:X.calm=Da)(hex:X.ex=[])(hg:Gl X x)(hcx:(⟨c.q⟩)=x)(xc:XC X.K c C)(J:Yr X.prog X.w X.K X.mg X.base C k fz)(hr:bf (k+1) X.A)(ha:ZQ.QA X.fQ (e::es) ar)(hfz:fz≠[])(Oc:fz.n<=100)
 (fG:Nd x:=by kernel_rfl) (he:Se e es X.J:=by rfl) (dX:Pn k! es X.J:=by rfl) :
 ZQ.SW X H0 (.Raise (AC<|.Call (.Name x np) (e::es) [] k!) Ch pos) (Z.o? c fz ar):=⟨by
 let(f,fd,xj,hk,hi,hf,F,hb):=J.ex;intro B s O H D I h;let(Y,c',rs,ec,kw):=h;unfold Z.o? at ec;split at ec
 .rename_i ds ed;split at ec
  .rename_i hl;ext ec;let hm:X.mg x=AC (.ref C):=by let:=A21 I.jw (I.mod.glob.keeps I.bk) xc.1;rw[hcx]at this;show this
   rw[arm_exec_Raise];show T0<|B36<|U' (C:=C) (I.ok.hd hc) ?_;show T0<|A20 (A79<|mV I hg hm ?_ fG) (λ v s₃ h₃=>T0<|B36<|v6 h₃) λ _ _ x=>x;show B09 I.ok.mod.N? hk (cj (PA.fQ ha.p k! B s O H (λ vs H1=>av H H1/\au X.K H1 ds vs) I ⟨Y,ds,rs.re,ed,λ vs H1 s1 d1=>(s1,d1,)⟩) λ us s1 ⟨vs,H1,I1,r,sm,d1⟩=>(I1.jw,?_,)) he dX;let hvl:vs.n=fz.n:=by rw[<-hl];show d1.n
   show cj (Pb hex (abg I1.jw xj) hi hf F hb hr I1 r (by rw[hvl,A04]) (us:=us) (by rw[<-r.n,hvl];show Oc)) ?_;rintro v s2 ⟨e2,dx,od,H2,hv,I2,Dl,Oe,th,t,Ob⟩;show(e2,AC dx,t,hv,abg I2.jw xj,Ob,kw B O H2 s2 e2 C (AC dx) (rs.same.trans<|sm.trans Dl) ⟨xc,by
    show(?_,od,_,Oe,uC hl<|d1.up Dl,);cases fz with
    |nil=>show absurd rfl hfz
    |cons a l=>cases ds with
     |nil=>ext hl
     |cons b m=>show λ z=>nomatch z⟩ I2 th,)
  .ext ec
 .ext ec⟩
end
def Yq(K:Frag)(f:Str)(c:U Nat):Prop:=∃C,nsIn K mainGlobals ⟨c.q⟩=AC (AC<|.ref C)/\S6 K C/\Ak K C/\findIn K (.ref C) f=AC Ch
def wD{K:Frag}:∀{aG}{fs},Paired (λ(p:Str×V)(q:U Nat×Z.D)=>p.1=⟨q.1.toArray⟩/\Den K H q.2 p.2) aG fs->fs.lookup f=AC d->∃v,aG.lookup ⟨f.q⟩=AC v/\Den K H d v:=by
 intro aG fs p h
 induction p with
 |nil=>ext h
 |@cons a b aG fs q r ih=>
  let(g,v):=a;let(g',d'):=b;let(h1,h2):=q;dsimp only at h1 h2;subst h1;rw[A61]at h;by_cases z:f=g'
  .subst z;rw[A54]at h;ext h;show⟨v,by rw[A61,A54],h2⟩
  .rw[A57.mpr z]at h;let(u,e1,e2):=ih h;show⟨u,by rw[A61,A57.mpr λ y=>z (by injection y with y;calc A13 ZB y)];show e1,e2⟩
def ZQ.abe(ha:PE X a (nr i))(hf:(⟨fz.q⟩)=f)(hk:Yq X.K f cs)(hb:attributeBase a f X.env (eval a X.J)=eval a X.J:=by rfl):ZQ.QE X (.Attribute a f pos) (Z.eXf i cs fz):=⟨by
 rintro B s O H Q I ⟨Y,d,r,e,k⟩;unfold Z.eXf at e;split at e
 .rename_i c hi;split at e
  .rename_i hc;split at e
   .rename_i d' hl;ext e;let(v,hv,p,o,u,C,rfl,h1,h2,h3,h4):=r.get i _ hi;let(C',n1,k1,k2,k3):=hk;let e0:=h4.1.1;rw[hc]at e0;cases e0.symm.trans n1;let xd:=h4.2;cases JB:o.dict with
    |none=>rw[JB]at xd;let xd:=xd;rw[xd]at hl;ext hl
    |some dx=>
     rw[JB]at xd;let(_,od,aG,q,pr):=xd;let(v,Q?,dv):=wD pr hl;show GI hb<|cj (ha B s O H (λ y H1=>y=.ref p/\H1=H) I ⟨_,hv,rfl,rfl⟩) ?_;rintro u' s1 ⟨x,H1,I1,rx,q1,q2⟩;subst q1 q2;obtain rfl:u'=Value.ref p:=rx;obtain⟨g1,_⟩:=(I1.bN p _ h1)
     obtain⟨g2,mA,n2,rr⟩:=(I1.bN dx _ q)
     let(w1,hu,ru):=lU.some_of (v:=v) (o:=mA f) (by rw[<-Q?,hf];show rr f);show Ry k1 k2 I1.jw g1 h2 JB h3 k3 n2 hu (x_ ru) λ tk=>(v,_,I1.tok _,ru,k v _ (av.refl _) dv,)
   .ext e
  .ext e
 .ext e⟩
end ZS
namespace ZS
open L2 PySem.W
def ZQ.UB{i:Nat}(hN:X.N.Nodup)(hi:X.N[i]?=AC x)(hx:Loc X.env.scope x)(h:ZQ.Jr X a f)(hs:Sn a x pos' pos X.J:=by rfl)(hf:Fl X x:=by trivial):ZQ.QXR X (.Assign [.Name x pos'] a pos) f:=⟨ma hN hi hx h.p hs hf⟩
end ZS
namespace Z
def dM{β:Type}(t:D)(f:Int->Int->U (Sum Int<|U Nat)->U D->β)(b:β):β:=match t with
|.dct (.inl a::.inl k::ks) vs=>f a k ks vs
|_=>b
def Nf(t:D):(∃a k ks vs,t=.dct (.inl a::.inl k::ks) vs)\/∀{β:Type}(f)(b:β),dM t f b=b:=by
 cases t with
 |dct ks vs=>
  cases ks with
  |nil=>show .inr λ _ _=>rfl
  |cons a ks=>
   cases a with
   |inr _=>show .inr λ _ _=>rfl
   |inl a=>
    cases ks with
    |nil=>show .inr λ _ _=>rfl
    |cons k ks=>
     cases k with
     |inr _=>show .inr λ _ _=>rfl
     |inl k=>show .inl ⟨a,k,ks,vs,rfl⟩
 |_=>show .inr λ _ _=>rfl
def thM{β:Type}(t:ε (ε L))(f:Int->Int->U (Sum Int<|U Nat)->U D->β)(b:β):β:=match t with
|some<|some<|.bor d=>dM d f b
|_=>b
def xu(t:ε (ε L)):(∃a k ks vs,t=AC (AC<|.bor<|.dct (.inl a::.inl k::ks) vs))\/∀{β:Type}(f)(b:β),thM t f b=b:=by
 cases t with
 |none=>show .inr λ _ _=>rfl
 |some t=>
  cases t with
  |none=>show .inr λ _ _=>rfl
  |some l=>
   cases l with
   |bor d=>
    rcases Nf d with⟨a,k,ks,vs,rfl⟩|h
    .exact .inl ⟨a,k,ks,vs,rfl⟩
    .exact .inr h
   |_=>show .inr λ _ _=>rfl
@[simp] def ag3{β:Type}(f)(b:β):thM (AC<|some<|.bor<|.dct (.inl a::.inl k::ks) vs) f b=f a k ks vs:=rfl
def eM(kd i:Nat)(Y:Env):Res D:=thM Y[i]? (λ a k ks vs=>if k=kd then .ok (.dct (.inl a::.inl k::ks) vs)else .bad) .bad
def iy:U (Sum Int<|U Nat)->U D->U Nat->Res D
|.inr k::ks,v::vs,f=>if k=f then .ok v else iy ks vs f
|_,_,_=>.bad
def c5(f:U Nat):D->Res D
|.dct (.inl _::.inl _::ks) vs=>iy ks vs f
|_=>.bad
def B0(bs:U Bool)(n:Nat)(b:XF)(ds:U D):ε XN:=if ds.n=bs.n then b (startB n bs ds)else Ch
def rX(bs:U Bool)(n:Nat)(b:XF)(ds:U D)(h:ds.n=bs.n):B0 bs n b ds=b (startB n bs ds):=M2 h
set_option genInjectivity true in
inductive yy where
|nx (Y:Env)
|rt (d:D) (ts:List D)
abbrev SM:=Env->Res yy
def thA:ε (ε L)->D
|some<|some<|.bor d=>d
|_=>.non
def c8(ms:U Nat)(Y:Env):U D:=ms.map λ i=>thA Y[i]?
def lW:ε L->Prop
|some<|.bor _=>True
|_=>False
def jv(ms:U Nat):Nat->Env->Prop
|_,[]=>True
|k,x::r=>(lW x->k∈ms)/\jv ms (k+1) r
def bI(ms:U Nat)(Y Y':Env):Prop:=(∀i∈ms,Y'[i]?=Y[i]?)/\jv ms 0 Y'
def a5(ms:U Nat)(g:SF)(Y:Env):Res yy:=(g Y).bind λ fl=>match fl with
|.nx Y'=>guard (bI ms Y Y')<|.ok<|.nx Y'
|.rt d=>.ok<|.rt d<|c8 ms Y
|_=>.bad
def bJ(a b:SM)(Y:Env):Res yy:=(a Y).bind λ fl=>match fl with
|.nx Y'=>b Y'
|o=>.ok o
noncomputable def lL(f:U Nat)(d:D):U (Sum Int<|U Nat)->U D->U (Sum Int<|U Nat)×U D
|.inr k::ks,v::vs=>if k=f then(.inr k::ks,d::vs)else(.inr k::(lL f d ks vs).1,v::(lL f d ks vs).2)
|_,_=>([.inr f],[d])
def wA(f:U Nat)(x:D)(t:ε (ε L)):Res L:=thM t (λ a k ks vs=>guard (k=0/\(lL f x ks vs).1=(cb.take (lL f x ks vs).1.length).map .inr)<|.ok<|.bor<|.dct (.inl a::.inl k::(lL f x ks vs).1) (lL f x ks vs).2) .bad
def nz(i:Nat)(f:U Nat)(e:EF)(Y:Env):Res yy:=(e Y).bind λ d=>(wA f d Y[i]?).bind λ l=>.ok<|.nx<|Y.set i<|some l
def zM(ms:U Nat)(bs:U Bool)(n:Nat)(b:SM)(ds:U D):Res (D×U D):=if ds.n=bs.n then(match b (startB n bs ds)with
|.ok<|.rt d ts=>.ok (d,ts)
|.ok<|.nx Y=>.ok (.non,c8 ms Y)
| _=>.bad)else .bad
def fW(ms:U Nat)(bs:U Bool)(n:Nat)(b:SM)(ds:U D)(h:ds.n=bs.n):zM ms bs n b ds=(match b (startB n bs ds)with
|.ok<|.rt d ts=>.ok (d,ts)
|.ok<|.nx Y=>.ok (.non,c8 ms Y)
| _=>.bad):=M2 h
open Classical in
def pS(m:U D->Res (D×U D))(ds:U D):Res (U D):=if h:∃fs,∀x:Nat,m (gx x 0 [] []::ds)=.ok (.non,[gx x 0 cb fs])then .ok h.choose else .bad
def By(h:pS m ds=.ok fs):∀x,m (gx x 0 [] []::ds)=.ok (.non,[gx x 0 cb fs]):=by
 unfold pS at h;split at h
 .rename_i q;ext h;show q.choose_spec
 .ext h
def LC(h:∀x,m (gx x 0 [] []::ds)=.ok (.non,[gx x 0 cb fs])):pS m ds=.ok fs:=by
 let q:∃fs,∀x,m (gx x 0 [] []::ds)=.ok (.non,[gx x 0 cb fs]):=(fs,h,)
 unfold pS;rw[A95 q];let:=(q.choose_spec 0).symm.trans<|h 0;erw[Res.ok.injEq,C27,true_and,B37,B41,gx,D.dct.injEq]at this;show A13 _ this
open Classical in
def NF(f:Nat->Res Fl):Res Fl:=if h:∃d,∀x,f x=.ok (.rt d)then .ok (.rt h.choose)else .bad
def SN(h:NF f=.ok fl):∃d,fl=.rt d/\∀x,f x=.ok (.rt d):=by
 unfold NF at h;split at h
 .rename_i q;ext h;show(_,rfl,q.choose_spec,)
 .ext h
def SO(h:∀x,f x=.ok (.rt d)):NF f=.ok (.rt d):=by
 let q:∃d,∀x,f x=.ok (.rt d):=(d,h,)
 unfold NF;rw[A95 q];let:=(q.choose_spec 0).symm.trans<|h 0;erw[Res.ok.injEq,Fl.rt.injEq]at this;show A13 (λ d=>Res.ok _) this
abbrev NM:=Env->Res (D×Env)
def dH:U Nat->U D->Env->Env
|i::is,t::ts,Y=>dH is ts<|Y.set i<|some<|.bor t
|_,_,Y=>Y
def gy:Nat->U Bool->U Nat
|_,[]=>[]
|k,Da::bs=>k::gy (k+1) bs
|k,AT::bs=>gy (k+1) bs
abbrev i1:=gy 0 [Da,AT]
abbrev i2:=gy 0 [Da,AT,AT,Da,AT]
abbrev i3:=gy 0 [Da,AT,AT,Da,AT,AT]
def xv:U Bool->U D->U D
|true::bs,d::ds=>d::xv bs ds
|false::bs,_::ds=>xv bs ds
|_,_=>[]
def mP(f:EF)(Y:Env):Res (D×Env):=(f Y).bind λ d=>.ok (d,Y)
def cO(fn:U D->Res (D×U D))(bs:U Bool)(is:U Nat)(ar:AF)(Y:Env):Res (D×Env):=(ar Y).bind λ ds=>guard (xv bs ds=c8 is Y)<|(fn ds).bind λ r=>guard (r.2.length=is.n)<|.ok (r.1,dH is r.2 Y)
def mB(op:D->D->Res D)(a b:NM)(Y:Env):Res (D×Env):=(a Y).bind λ x=>(b x.2).bind λ y=>(op x.1 y.1).bind λ z=>.ok (z,y.2)
def mU(op:D->Res D)(a:NM)(Y:Env):Res (D×Env):=(a Y).bind λ x=>(op x.1).bind λ z=>.ok (z,x.2)
def wI(i:Nat)(e:NM)(Y:Env):Res yy:=(e Y).bind λ r=>.ok<|.nx<|r.2.set i<|some<|.val r.1
def Bz(e:NM)(Y:Env):Res yy:=(e Y).bind λ r=>.ok<|.nx r.2
def qU(ms:U Nat)(e:NM)(Y:Env):Res yy:=(e Y).bind λ r=>.ok<|.rt r.1<|c8 ms r.2
def gi(Y:Env):Res yy:=.ok<|.nx Y
abbrev Yg:=Env->Res (Bool×Env)
abbrev AMf:=Env->Res (U D×Env)
def qw(t:TF)(Y:Env):Res (Bool×Env):=(t Y).bind λ b=>.ok (b,Y)
def _K(e:NM)(Y:Env):Res (Bool×Env):=(e Y).bind λ x=>match x.1 with
|.bl c=>.ok (c,x.2)
|_=>.bad
def Qn(a b:Yg)(Y:Env):Res (Bool×Env):=(a Y).bind λ x=>if x.1 then .ok (Da,x.2)else b x.2
def V!(a b:NM)(Y:Env):Res (D×Env):=(a Y).bind λ x=>match x.1 with
|.bl c=>if c then b x.2 else .ok (.bl AT,x.2)
|_=>.bad
def CC(Y:Env):Res (U D×Env):=.ok ([],Y)
def vQ(a:NM)(r:AMf)(Y:Env):Res (U D×Env):=(a Y).bind λ x=>(r x.2).bind λ y=>.ok (x.1::y.1,y.2)
def _P(fn:U D->Res D)(a:AMf)(Y:Env):Res (D×Env):=(a Y).bind λ x=>(fn x.1).bind λ d=>.ok (d,x.2)
def gR(t:Yg)(a b:SM)(Y:Env):Res yy:=(t Y).bind λ c=>if c.1 then a c.2 else b c.2
def y7(i:Nat)(m:U D->Res (D×U D))(a:EF)(r:SM)(Y:Env):Res Fl:=(a Y).bind λ d=>(pS m [d]).bind λ fs=>guard (jv [i] 0<|Y.set i<|some<|.bor<|.dct [] []) (NF λ x=>(r<|Y.set i<|some<|.bor<|gx x 0 cb fs).bind λ fl=>match fl with
|.rt d _=>.ok<|.rt d
| _=>.bad)
def iH(ms:U Nat)(g:GF)(b:SM):U D->Env->Res yy
|[],Y=>.ok<|.nx Y
| d::r,Y=>(g d Y).bind λ Y1=>guard (bI ms Y Y1) ((b Y1).bind λ fl=>match fl with
 |.nx Y'=>iH ms g b r Y'
 | .rt d ts=>.ok<|.rt d ts)
def V'(ms:U Nat)(it:LF)(g:GF)(b:SM)(Y:Env):Res yy:=(it Y).bind λ ds=>iH ms g b ds Y
end Z
namespace ZS
open L2 PySem.W
def Ur(K:Db)(H:Hp)(kd:Nat)(d:Z.D)(v:V):Prop:=∃a ks ds u,d=Z.gx a kd ks ds/\v=.ref a/\H a=AC u/\Jp K H kd ks ds u
def Ur.b{K:Db}(h:Ur K H kd d v):jC K H d v:=by let(a,ks,ds,u,h):=h;show .inr ⟨a,kd,ks,ds,u,h⟩
def Ur.up{K:Db}(h:Ur K H kd d v)(e:av H H'):Ur K H' kd d v:=by let(a,ks,ds,u,e1,e2,q,t):=h;show(a,ks,ds,u,e1,e2,e _ _ q,t.ups<|jR e,)
def tZm(K:Db)(kd:Nat)(f:Z.EF):TE:=λ O H Q=>∃Y d,RE K H O Y/\f Y=.ok d/\∀v H',av H H'->Ur K H' kd d v->Q v H'
abbrev DM(X:Cx)(kd:Nat)(e:η)(f:Z.EF):Prop:=PE X e<|tZm X.K kd f
structure ZQ.QM(X:Cx)(kd:Nat)(e:Expr)(f:Z.EF):Prop where p:DM X kd e f
def X!{p:Prop}{α:Type}{d:α}(h:Z.Res.bad=.ok d):p:=by ext h
def aa4(h:Z.eM kd i Y=.ok d):∃a ks vs,Y[i]?=AC (AC<|.bor d)/\d=.dct (.inl a::.inl (kd)::ks) vs:=by
 unfold Z.eM at h;rcases Z.xu Y[i]? with⟨a,k,ks,vs,e⟩|hb
 .rw[e]at h;by_cases hk:k=kd
  .subst hk;let h:=(M2 rfl).symm.trans h;ext h;show(a,ks,vs,e,rfl,)
  .exact X!<|(W1 hk).symm.trans h
 .rw[hb]at h;show X! h
def M3{K:Db}{kd:Nat}(h:jC K H (.dct (.inl a::.inl (kd)::ks) vs) v):Ur K H kd (.dct (.inl a::.inl (kd)::ks) vs) v:=by
 let(a',Ea,s_,ds,u,e1,e2,q,t):=h.gx;let:Ea=kd:=by
  injection e1 with e1 _
  injection e1 with _ e1
  injection e1 with e1 _
  injection e1 with e1
  show(B75 e1).symm
 subst this;show(a',s_,ds,u,e1,e2,q,t,)
def ZQ.rl(h:PE X e (nr i)):ZQ.QM X kd e (Z.eM kd i):=⟨PE.imp h <|by rintro O H Q ⟨Y,d,r,e,k⟩;let(a,ks,vs,hi,rfl):=aa4 e;let(v,h1,h2):=r.get i _ hi;show(v,h1,k v H (av.refl H)<|M3 h2,)⟩
def ZQ.mY(ha:ZQ.QM X kd e f)(hr:ZQ.JE X es bs g)(hs:Se e es X.J:=by rfl):ZQ.JE X (e::es) (Da::bs) (Z.ae f g):=⟨PA.imp (aM ha.p hr.p hs) <|by rintro O H Q ⟨Y,ds,r,e,k⟩;let(x,ea,e):=ce e;let(xs,eb,e):=ce e;ext e;show(Y,x,r,ea,λ v H1 s1 d1=>(Y,xs,r.up s1,eb,λ vs H2 s2 t=>k _ H2 (s1.trans s2) ⟨v,vs,rfl,(d1.up s2).b,t⟩,),)⟩
def DZ{a b:U Nat}:((⟨a.q⟩:Str)=⟨b.q⟩)↔a=b:=⟨λ h=>by calc A13 (λ s=>s.cps.y) h,λ h=>by rw[h]⟩
def Gf{K:Db}{H:Hp}{f:U Nat}{d:Z.D}:∀{ks:U (U Nat)}{ds:U Z.D}{fs:U (Str×V)},Z.iy (ks.map .inr) ds f=.ok d->fs.map (·.1)=ks.map (λ c=>(⟨c.q⟩:Str))->au K H ds (fs.map (·.2))->∃v,fs.lookup ⟨f.q⟩=AC v/\Den K H d v
|[],ds,fs,h,_,_=>by ext h
|k::ks,[],fs,h,_,_=>by ext h
|k::ks,x::ds,[],_,h2,_=>by ext h2
|k::ks,x::ds,(n,v)::fs,h,h2,h3=>by
 erw[A06,B37]at h2;erw[A06,au]at h3;let(v',r,e1,h4,h5):=h3;ext e1;let(e2,h2):=h2;subst e2;change(if k=f then Z.Res.ok x else Z.iy (ks.map .inr) ds f)=.ok d at h;by_cases hk:k=f
 .subst hk;rw[M2 rfl]at h;ext h;show⟨v,by simp[NE],h4⟩
 .rw[W1 hk]at h;let(w,q1,q2):=Gf h h2 h5;show(w,?_,q2,);let:((⟨f.q⟩:Str)==⟨k.q⟩)=AT:=A57.mpr λ z=>hk (DZ.mp z).symm;erw[NE,this];show q1
def Y9(K:Db)(f:Str):Prop:=∃C,nsIn K mainGlobals "Desk"=AC (AC<|.ref C)/\findIn K (.ref C) f=AC Ch
def ZQ.Xx(hn:Y9 X.K f)(ho:ZQ.QM X 0 o fo)(hf:(⟨fc.q⟩)=f)(hb:attributeBase o f X.env (eval o X.J)=eval o X.J:=by rfl):ZQ.QE X (.Attribute o f pos) (Z.eU (Z.c5 fc) fo):=⟨PE.imp (Vk ho.p hb) <|by
 rintro O H Q ⟨Y,d,r,e,k⟩;let(x,ea,e):=ce e;show(Y,x,r,ea,λ v H1 s1 d1=>?_,);let(a,ks,ds,u,rfl,rfl,q,t):=d1;rcases t with⟨_,_,C,dx,fs,rfl,hC,h3,h4⟩|⟨z,_⟩
 .let(v,q1,q2):=Gf e h3 h4;let(C',e1,e2):=hn;let:=e1.symm.trans hC.1;ext this;rw[hf]at q1;show(a,C,dx,fs,v,rfl,q,hC.2,e2,q1,k v H1 s1 q2,)
 .ext z⟩
def mT{fs:U (Str×V)}(h:fs.map (·.1)=(Z.cb.take n).map (λ c=>(⟨c.q⟩)))(hm:Dn m):fs.lookup m=Ch:=by
 let hk:∀y∈fs.map _,(m==y)=AT:=λ y hy=>by rw[h]at hy;let(c,hc,rfl):=A03.mp hy;let:(⟨_⟩)∈Z.cb.map (λ c=>(⟨c.q⟩:Str)):=A03.mpr ⟨c,B99 hc,rfl⟩;show A57.mpr λ z=>?_;rw[<-z,<-List.contains_iff_mem,hm]at this;ext this
 clear h
 induction fs with
 |nil=>rfl
 |cons x r ih=>let(n,v):=x;erw[NE,hk n ∅];show ih λ y hy=>hk y (by simp;right;calc hy)
structure An(P:Program)(w:World)(K:Db)(mg:Str->Option Value)(base:Heap)(m:Str)(k:Nat)(ps:List Str)(bs:List Bool)(fn:List Z.D->Z.Res Z.D):Prop where
 ex:∃C g fd,qv K "Desk" C/\Meth K C m g/\fi P w K mg base iC k g fd ps (Dk K bs fn)/\Binds K fd ps []
theorem ZQ.jm(C:An X.prog X.w X.K X.mg X.base m k ps [Da] fn)(hr:bf k X.A)(ho:ZQ.QM X 0 o fo)(hf:Dn m)
 (ht:Mt o m apos [] pos pl X.J:=by rfl) :
 ZQ.QE X (.Call (.Attribute o m apos) [] [] pos) (Z.ai fn<|Z.ae fo Z.ah):=⟨by
 let(C,g,fd,hC,hm,F,hb):=C.ex;show PE.imp (KL ho.p hC.2 hm F hr hb .nil nJ ht) ?_;rintro O H Q ⟨Y,d,r,e,k⟩;let(ds,ea,e):=ce e;let(x,ex,ea):=ce ea;let(xs,en,ea):=ce ea;ext en ea;show(Y,x,r,ex,λ v H1 s1 d1=>?_,);let(a,ks,ds,u,rfl,rfl,q,t):=id d1;rcases t with⟨_,hk,C',dx,fs,rfl,Ge,h3,h4⟩|⟨z,_⟩
 .let:=Ge.1.symm.trans hC.1;ext this;rw[hk]at h3;show(a,dx,fs,rfl,q,mT h3 hf,[Z.gx a 0 ks ds],d,(_,_,rfl,d1.b,rfl,),e,λ v H' s2 dv=>k v H' (s1.trans s2) dv,)
 .ext z⟩
theorem ZQ.R6(C:An X.prog X.w X.K X.mg X.base m k ps (Da::bs) fn)(hr:bf k X.A)(ho:ZQ.QM X 0 o fo)(hf:Dn m)(ha:ZQ.JE X (e::es) bs ar)
 (pZ:Se e es X.J:=by rfl) (dX:Pn pos es X.J:=by rfl)
 (ht:Mt o m apos (e::es) pos pl X.J:=by rfl) :
 ZQ.QE X (.Call (.Attribute o m apos) (e::es) [] pos) (Z.ai fn<|Z.ae fo ar):=⟨by
 let(C,g,fd,hC,hm,F,hb):=C.ex;show PE.imp (FI ho.p hC.2 hm F hr hb .nil nJ ha.p pZ dX ht) ?_;rintro O H Q ⟨Y,d,r,e,k⟩;let(ds,ea,e):=ce e;let(x,ex,ea):=ce ea;let(xs,en,ea):=ce ea;ext ea;show(Y,x,r,ex,λ v H1 s1 d1=>?_,);let(a,ks,ds,u,rfl,rfl,q,t):=id d1;rcases t with⟨_,hk,C',dx,fs,rfl,Ge,h3,h4⟩|⟨z,_⟩
 .let:=Ge.1.symm.trans hC.1;ext this;rw[hk]at h3;show(a,dx,fs,rfl,q,mT h3 hf,Y,xs,r.up s1,en,λ vs H2 s2 d2=>?_,);change Dk X.K _ fn _ H2 Q E0;rw[A51];show(Z.gx a 0 ks ds::xs,d,(_,_,rfl,(d1.up s2).b,d2,),e,λ v H' s3 dv=>k v H' ((s1.trans s2).trans s3) dv,)
 .ext z⟩
structure E3(K:Db)(m qual:Str)(st:Stmt)(ps:List Str):Prop where
 ex:∃C f fd,qv K "Desk" C/\Meth K C m f/\CJ K m qual st f fd/\Binds K fd ps []
section
variable{K:Db}
def An.mk'{st:θ}(kA:bs.n=ps.n)(d:E3 K m qual st ps)(S:aT N ps (aa st))
 (hb:∀ f aU A outer s H E,bf k (A.deeper<|envOfC qual (aa st) s.heap.objs.size f aU) ->
  Om (dG iC P w K mg base N qual (aa st) f aU A outer s H E).fQ H (az st) b):An P w K mg base m (k+1) ps bs (Z.B3 bs N.length b):=by
 let(C,f,fd,hC,hm,F,v!):=d.ex;show(C,f,fd,hC,hm,aaR kA F S<|hb f,v!,)
end
def Hk(K:Db)(bs:U Bool)(m:U Z.D->ε Z.XN):Sp:=λ vs H _ E=>∃ds c,iN K H bs ds vs/\m ds=AC c/\∀C dd H',av H H'->xm K H' c C dd->E (.ref C) dd H'
section
variable{K:Db}
def aaS{st:θ}{dV kV doc pm aU ct oc:ζ}(kA:bs.n=ps.n)
 (lk:K.lookup f=AC ⟨oc,od,.func<|PySem.W.fnOf name qual (bg st) (az st) (aa st) dV kV doc pm an aU ct,zc⟩) (rT:SL K aU qual=Da) (S:aT N ps (aa st))
 (hb:∀ A outer s H E,bf k (A.deeper<|envOfC qual (aa st) s.heap.objs.size f aU) ->
  XSs (dG (CG P w) P w K mg base N qual (aa st) f aU A outer s H E) H (az st) xb):fi P w K mg base (CG P w) (k+1) f (Ps name qual (bg st) (az st) (aa st) dV kV doc pm an aU ct) ps (Hk K bs<|Z.B0 bs N.length xb):=by
 let ψ:∀vs H Q E,Hk K bs (Z.B0 bs N.length xb) vs H Q E->vs.n=ps.n:=by rintro vs H Q E ⟨ds,d,t,e,_⟩;let:=t.n;lia
 show B2 lk rT S ψ λ A outer s H vs Q E hr h=>?_;show(_,hb A outer s H E hr,?_,);let hl:=ψ vs H Q E h;let(ds,c,t,e,k):=h;let dX:ps.n<=N.n:=by let:=A13 List.length S.pre;rw[A32]at this;lia
 let rs:RS K H H (L2.start N vs) (Z.startB N.length bs ds):=n_ t ∅;unfold Z.B0 at e;split at e
 .exact⟨_,c,rs,e,λ B O H' s' a C dd sm xc I th=>Ie I th<|k C dd H' sm xc⟩
 .ext e
structure vW(P:Program)(w:World)(K:Db)(mg:Str->Option Value)(base:Heap)(x:Str)(k:Nat)(ps:List Str)(bs:List Bool)(m:List Z.D->Option Z.XN):Prop where
 ex:∃g fd,fi P w K mg base (CG P w) k g fd ps (Hk K bs m)/\mg x=AC (.ref g)/\Fa K (.ref g)=Da/\Binds K fd ps []
structure vV(P:Program)(w:World)(K:Db)(mg:Str->Option Value)(base:Heap)(m:Str)(k:Nat)(ps:List Str)(bs:List Bool)(fx:List Z.D->Option Z.XN):Prop where
 ex:∃C g fd,qv K "Desk" C/\Meth K C m g/\fi P w K mg base (CG P w) k g fd ps (Hk K bs fx)/\Binds K fd ps []
def vW.mk'{st:θ}(kA:bs.n=ps.n)(d:Def K mg x st ps)(S:aT N ps (aa st))
 (hb:∀ f aU A outer s H E,bf k (A.deeper<|envOfC x (aa st) s.heap.objs.size f aU) ->
  XSs (dG (CG P w) P w K mg base N x (aa st) f aU A outer s H E) H (az st) xb):vW P w K mg base x (k+1) ps bs (Z.B0 bs N.length xb):=by
 let(f,fd,F,hm,v!):=d.ex;let kp:=F.kp;let(oc,od,kV,doc,pm,an,aU,ct,zc,rfl,lk,rT):=F.ex;show(f,_,aaS kA lk rT S<|hb f aU,hm,kp,v!,)
def vV.mk'{st:θ}(kA:bs.n=ps.n)(d:E3 K m qual st ps)(S:aT N ps (aa st))
 (hb:∀ f aU A outer s H E,bf k (A.deeper<|envOfC qual (aa st) s.heap.objs.size f aU) ->
  XSs (dG (CG P w) P w K mg base N qual (aa st) f aU A outer s H E) H (az st) xb):vV P w K mg base m (k+1) ps bs (Z.B0 bs N.length xb):=by
 let(C,f,fd,hC,hm,F,v!):=d.ex;let(oc,od,kV,doc,pm,an,aU,ct,zc,rfl,lk,rT):=F.ex;show(C,f,_,hC,hm,aaS kA lk rT S<|hb f aU,v!,)
end
def PE.aeo(h:PE X.fQ e t):PE X e t:=λ B s O H Q I hw=>A20 (h B s O H Q (I.wish _) hw) (by rintro _ _ ⟨v,H',I',r,q⟩;show(v,H',I'.gB,r,q,)) λ _ _ z=>GT z
def Tn
 (hex:X.ex=[]) (F:fi X.prog X.w X.K X.mg X.base (CG X.prog X.w) k g fd ps (Hk X.K bs m)) (hr:bf k X.A) (hb:Binds X.K fd ps []) (I:Inv X B O H s) (r:Vals vs us) (d1:iN X.K H bs ds vs) (ec:m ds=AC c) (kw:XwE X O H c) :
 Ev (model X.prog X.w) X.A (call (.ref g) us) Q X.xe s:=by
 let Ip:Hk X.K bs m vs H (λ _ _=>False) (λ cv dd H'=>∃C,cv=.ref C/\xm X.K H' c C dd/\av H H'):=(ds,c,d1,ec,λ C' dd H' s2 x2=>(C',rfl,x2,s2,),)
 let hl:=F.len _ _ _ _ Ip;show A90<|A91 (F.run X.A _ s H ⟨us,[]⟩ us vs _ _ hr I.RB (by let:=hb s us I.jw (by rw[A51,<-r.n];show hl);calc this) r Ip) λ rr s' hq=>?_;cases rr with
 |ok fl=>
  cases fl with
  |ret u=>let(v,H2,_,_,_,_,_,q):=hq;show q.elim
  |_=>show hq.elim
 |error ev=>let hq:CG _ X.w _ H s (λ cv dd H'=>∃C,cv=.ref C/\xm X.K H' c C dd/\av H H') ev s':=hq;let(a,C',dd,H',rfl,J,th,C2,hc,x2,s2):=UW hex I hq;ext hc;show kw B H' s' a C' dd s2 x2 J th
def PAF.fQ(h:DAF X.fQ es bs ar):DAF X es bs ar:=PA.fQ h
theorem ZQ.JI(C:vW X.prog X.w X.K X.mg X.base x k ps bs m)(hr:bf k X.A)(hg:Gl X x)
 (ha:ZQ.JE X.fQ (e::es) bs ar) (hex:X.ex=[]:=by rfl) (fG:Nd x:=by kernel_rfl) (he:Se e es X.J:=by rfl) (dX:Pn pos es X.J:=by rfl) :
 ZQ.Jr X (.Call (.Name x p1) (e::es) [] pos) (Z.bL m ar):=⟨by
 let(g,fd,F,hm,hk,hb):=C.ex;intro B s O H Q I h;let(Y,c,re,ec,kw):=h;unfold Z.bL at ec;split at ec
 .rename_i ds ed;show A79<|mV I hg hm ?_ fG;show B09 I.ok.mod.N? hk (cj (PAF.fQ ha.p pos B s O H (λ vs H1=>av H H1/\iN X.K H1 bs ds vs) I ⟨Y,ds,re,ed,λ vs H1 s1 d1=>(s1,d1,)⟩) λ us s1 ⟨vs,H1,I1,r,sm,d1⟩=>(I1.jw,?_,)) he dX;show Tn hex F hr hb I1 r d1 ec<|kw.up sm
 .ext ec⟩
theorem ZQ.Ox(C:vV X.prog X.w X.K X.mg X.base m k ps (Da::bs) fx)(hr:bf k X.A)(ho:ZQ.QM X 0 o fo)(hf:Dn m)(ha:ZQ.JE X.fQ (e::es) bs ar)
 (hex:X.ex=[]:=by rfl) (pZ:Se e es X.J:=by rfl) (dX:Pn pos es X.J:=by rfl)
 (ht:Mt o m apos (e::es) pos pl X.J:=by rfl) :
 ZQ.Jr X (.Call (.Attribute o m apos) (e::es) [] pos) (Z.bL fx<|Z.ae fo ar):=⟨by
 let(C,g,fd,hC,hm,F,hb):=C.ex;intro B s O H Q I h;let(Y,c,re,ec,kw):=h;unfold Z.bL at ec;split at ec
 .rename_i ds ed;let(x,ex,ea):=ce ed;let(xs,en,ea):=ce ea;ext ea;show B88 (cj (ho.p B s O H (λ v H1=>av H H1/\Ur X.K H1 0 x v) I ⟨Y,x,re,ex,λ v H1 s1 d1=>(s1,d1,)⟩) ?_) ht;rintro u s1 ⟨v,H1,I1,rx,sm,d1⟩;let(a,ks,ds,u',rfl,rfl,q,t):=id d1;obtain rfl:u=Value.ref a:=rx;rcases t with⟨_,hk,C',dx,fs,rfl,Ge,h3,h4⟩|⟨z,_⟩
  .let:=Ge.1.symm.trans hC.1;ext this;rw[hk]at h3;show oH I1 q hC.2 hm (mT h3 hf) ?_;show B09 I.ok.mod.N? hm.kp (cj (PAF.fQ ha.p pos B s1 O H1 (λ vs H2=>av H1 H2/\iN X.K H2 bs xs vs) I1 ⟨Y,xs,re.up sm,en,λ vs H2 s2 d2=>(s2,d2,)⟩) λ us s2 ⟨vs,H2,I2,r,Dl,d2⟩=>(I2.jw,?_,)) pZ dX;show Tn (vs:=.ref a::vs) (ds:=Z.gx a 0 ks ds::xs) hex F hr hb I2 (.cons rfl r) ⟨_,_,rfl,(d1.up Dl).b,d2⟩ ec<|(kw.up sm).up Dl
  .ext z
 .ext ec⟩
def ZQ.Zg(ha:ZQ.QW X.fQ a fa)(hb:ZQ.Jr X b f)(hs:tI b:=by intro _ _;rfl):ZQ.Jr X (.Subscript a b pos) (Z.Ju fa f):=⟨PE.imp (KP LX (PE.aeo ha.p) hb.p hs) <|by
 rintro O H Q ⟨Y,c,re,ec,kw⟩;unfold Z.Ju at ec;split at ec
 .rename_i d ed;show(Y,d,re,ed,λ v H1 s1 d1=>(Y,c,re.up s1,ec,kw.up s1,),)
 .ext ec⟩
def over(H0 H:Hp)(as:U δ):Hp:=λ b=>if b∈as then H b else H0 b
section
variable{K:Db}
def cy(h:a∈as):over H0 H as a=H a:=M2 h
def cN(h:a∉as):over H0 H as a=H0 a:=W1 h
def K1(h:a∈as):over H0 (upd H a u) as=upd (over H0 H as) a u:=by
 funext b
 by_cases hb:b=a
 .subst hb;rw[cy h,aA,aA]
 .rw[ak hb];by_cases hm:b∈as
  .rw[cy hm,cy hm,ak hb]
  .rw[cN hm,cN hm]
def mL(h:Z.gx a kd ks vs=Z.gx a' Ea s_ Ao):a=a'/\kd=Ea/\ks=s_/\vs=Ao:=by
 injection h with h1 h2
 injection h1 with h1 h3
 injection h3 with h3 h4
 injection h1 with h1
 injection h3 with h3
 show(B75 h1,B75 h3,(ww λ x y h=>by injection h).mp h4,h2,)
def gE:∀{Y}{k i}{x},Z.jv ms k Y->Y[i]?=AC x->Z.lW x->k+i∈ms
|[],_,_,_,_,e,_=>by simp at e
|y::r,k,0,x,h,e,t=>by simp at e;subst e;show h.1 t
|y::r,k,i+1,x,h,e,t=>by let:=gE h.2 (by calc e) t;rw[show k+(i+1)=k+1+i from by lia];show this
def oA:∀{Y}{k},(∀i x,Y[i]?=AC x->Z.lW x->k+i∈ms)->Z.jv ms k Y
|[],_,_=>trivial
|y::r,k,h=>⟨λ t=>h 0 y rfl t,oA λ i x e t=>by let:=h (i+1) x (by calc e) t;rw[show k+1+i=k+(i+1)from by lia];show this⟩
structure RM(K:Db)(H0:Hp)(ms:List Nat)(as:List Addr)(H:Hp)(O:St)(Y:Z.Env):Prop where
 rs:RS K (over H0 H as) H O Y
 at_:Paired (λ(i:Nat)(a:Addr)=>∃kd ks vs,Y[i]?=AC (AC<|.bor<|Z.gx a kd ks vs)) ms as
 no:Z.jv ms 0 Y
 nd:as.Nodup
 h0:∀a∈as,H0 a=Ch
def fq:∀{l}{m}{x},Paired R l m->x∈l->∃y∈m,R x y:=by
 intro l m x p h
 induction p with
 |nil=>ext h
 |cons r t ih=>
  rcases A01.mp h with rfl|h
  .exact⟨_,.head _,r⟩
  .let(y,h1,h2):=ih h;show(y,.tail _ h1,h2,)
def Bc(hf:∀i a b,R i a->R i b->a=b):∀{l}{m}{i j}{a},Paired R l m->m.Nodup->i∈l->j∈l->R i a->R j a->i=j:=by
 intro l m i j a p nd hi hj ri rj
 induction p with
 |nil=>ext hi
 |cons r t ih=>
  let DX:=A44.mp nd;rcases A01.mp hi with ei|Ma
  .rcases A01.mp hj with ej|CI
   .exact ei.trans ej.c
   .let(z,hz,rz):=fq t CI;subst ei;let e1:=hf _ _ _ r ri;let e2:=hf _ _ _ rz rj;subst e1;subst e2;show absurd hz DX.1
  .rcases A01.mp hj with ej|CI
   .let(z,hz,rz):=fq t Ma;subst ej;let e1:=hf _ _ _ r rj;let e2:=hf _ _ _ rz ri;subst e1;subst e2;show absurd hz DX.1
   .exact ih DX.2 Ma CI
def EZ{Y:Z.Env}(i:Nat)(a b:δ)(h1:∃kd ks vs,Y[i]?=AC (AC<|.bor<|Z.gx a kd ks vs))(h2:∃kd ks vs,Y[i]?=AC (AC<|.bor<|Z.gx b kd ks vs)):a=b:=by
 let(_,_,_,h1):=h1;let(_,_,_,h2):=h2;rw[h1]at h2;injection h2 with h2;injection h2 with h2;injection h2 with h2
 show(mL h2).1
def RM.inm(h:RM K H0 ms as H O Y)(hi:Y[i]?=AC (AC<|.bor<|Z.gx a kd ks vs)):i∈ms:=by let:=gE h.no hi trivial;calc this
def RM.mem(h:RM K H0 ms as H O Y){i:Nat}(hi:Y[i]?=AC (AC<|.bor<|Z.gx a kd ks vs)):a∈as:=by let(y,hy,r):=fq h.at_ (h.inm hi);let:=EZ i _ _ ⟨_,_,_,hi⟩ r;subst this;show hy
def RM.uniq(h:RM K H0 ms as H O Y){i j kd Ea:Nat}(hi:Y[i]?=AC (AC<|.bor<|Z.gx a kd ks vs))(hj:Y[j]?=AC (AC<|.bor<|Z.gx a Ea s_ Ao)):i=j:=
 Bc (λ i a b=>EZ i a b) h.at_ h.nd (h.inm hi) (h.inm hj) ⟨_,_,_,hi⟩ ⟨_,_,_,hj⟩
def RM.thing(h:RM K H0 ms as H O Y){i:Nat}(hi:Y[i]?=AC (AC<|.bor<|Z.gx a kd ks vs)):O[i]?=AC (AC<|.ref a)/\∃u,H a=AC u/\Jp K H kd ks vs u:=by let(v,h1,h2):=h.rs.re.get i _ hi;let(a',s_,ds,u,e1,rfl,q,t):=M3 h2;let(rfl,_,rfl,rfl):=mL e1;show(h1,u,q,t,)
def Jp.mb(t:Jp K H kd ks vs u):(∀xs,u≠.tup xs)/\(∀o x,u≠.eu o x)/\∀xs,u≠.lst xs:=by
 rcases t with⟨_,_,C,dx,fs,rfl,_⟩|⟨_,aG,rfl,_⟩
 .exact⟨λ _ z=>(nomatch z),λ _ _ z=>(nomatch z),λ _ z=>(nomatch z)⟩
 .exact⟨λ _ z=>(nomatch z),λ _ _ z=>(nomatch z),λ _ z=>(nomatch z)⟩
def RM.write(h:RM K H0 ms as H O Y)(hi:Y[i]?=AC (AC<|.bor<|Z.gx a kd ks vs))(t:Jp K (upd H a u') Ea s_ Ao u'):
 gV H (upd H a u')/\RM K H0 ms as (upd H a u') O (Y.set i<|some<|.bor<|Z.gx a Ea s_ Ao):=by
 let ha:=h.mem hi;let(hs,u,hu,t0):=h.thing hi;let st:gV H (upd H a u'):=mO hu t0.mb.1 t0.mb.2.1;let ou:over H0 H as a=AC u:=by rw[cy ha];show hu
 let NT:gV (over H0 H as) (upd (over H0 H as) a u'):=mO ou t0.mb.1 t0.mb.2.1;let BO:=(A09.mp hi).1;let bor:∀{j}{d}{v}{G},i≠j->Y[j]?=AC (AC<|.bor d)->gV G (upd G a u')->G a=AC u->jC K G d v->jC K (upd G a u') d v:=λ {j d v G} hj e sg ga hb=>by
  rcases hb with(hb|⟨ds,q,ws,e1,e2,q1,t1⟩)|⟨a2,_0,Wg,ds2,u2,e1,e2,q2,t2⟩
  .exact .inl<|.inl<|hb.ups sg
  .let:q≠a:=by rintro rfl;rw[ga]at q1;show t0.mb.2.2 _<|f8 q1
   show .inl<|.inr ⟨ds,q,ws,e1,e2,by rw[ak this];show q1,t1.ups sg⟩
  .let:a2≠a:=by rintro rfl;rw[e1]at e;show hj<|h.uniq hi e
   show .inr ⟨a2,_0,Wg,ds2,u2,e1,e2,by rw[ak this];show q2,t2.ups sg⟩
 let own:∀{q},over H0 H as q=Ch->q≠a:=λ e z=>by rw[z,ou]at e;ext e
 show(st,(?_,?_,?_,h.nd,h.h0,),)
 .rw [K1 ha];show(λ b o e=>?_,⟨by simp[h.rs.re.len],λ j l e=>?_,λ j k xs ys q e1 e2 e3 e4=>?_⟩,λ j xs q e1 e2=>?_,λ j d e1=>?_,?_,)
  .by_cases hb:b=a
   .subst hb;rw[aA]at e ⊢;show e
   .rw[ak hb]at e ⊢;show h.rs.same b o e
  .rcases aq e with⟨rfl,hl,e⟩|⟨hj,e⟩
   .ext e;show(.ref a,hs,.inr ⟨a,Ea,s_,Ao,u',rfl,rfl,aA,t⟩,)
   .let(v,e1,r):=h.rs.re.get j l e;show(v,e1,?_,);cases l with
    |val d=>show Den.ups (r) st
    |own zs=>let(q',ws,rfl,eJ,t'):=r;show⟨q',ws,rfl,by rw[ak<|own<|h.rs.fresh j zs q' e e1];show eJ,t'.ups st⟩
    |bor d=>show bor hj e st hu r
    |dc ks=>let(q',sN,rfl,eJ,t'):=r;show⟨q',sN,rfl,by rw[ak<|own<|h.rs.r8.2 j ks q' e e1];show eJ,t'.ups st⟩
    |JD ks=>let(q',o',sN,rfl,eJ,t'):=r;show(q',o',sN,rfl,st.eu _ _ _ eJ,t'.ups st,)
    |T3 ps=>let(q',o',rfl,eJ):=r;show(q',o',rfl,st.eu _ _ _ eJ,)
    |exc c=>let(q',o',u',C',rfl,eJ,r1,r2,r3):=r;show(q',o',u',C',rfl,st.eu _ _ _ eJ,r1,r2,r3.ups st,)
  .rcases aq e1 with⟨_,_,e⟩|⟨_,e1⟩
   .ext e
   .rcases aq e2 with⟨_,_,e⟩|⟨_,e2⟩
    .ext e
    .exact h.rs.re.sep j k xs ys q e1 e2 e3 e4
  .rcases aq e1 with⟨_,_,e⟩|⟨_,e1⟩
   .ext e
   .let:=h.rs.fresh j xs q e1 e2;rw[ak<|own this];show this
  .rcases aq e1 with⟨rfl,_,e⟩|⟨hj,e9⟩
   .ext e;show(.ref a,hs,.inr ⟨a,Ea,s_,Ao,u',rfl,rfl,aA⟩,)
   .let(v,q1,q2):=h.rs.k? j d e9;show(v,q1,?_,);rcases q2 with(hb|⟨ds,q,ws,g1,g2,q1,t1⟩)|⟨a2,_0,Wg,ds2,u2,g1,g2,q2⟩
    .exact .inl<|.inl<|hb.ups NT
    .let:q≠a:=by rintro rfl;rw[ou]at q1;show t0.mb.2.2 _<|f8 q1
     show .inl<|.inr ⟨ds,q,ws,g1,g2,by rw[ak this];show q1,t1.ups NT⟩
    .let:a2≠a:=by rintro rfl;rw[g1]at e9;show hj<|h.uniq hi e9
     show .inr ⟨a2,_0,Wg,ds2,u2,g1,g2,by rw[ak this];show q2⟩
  .refine⟨λ j k ks ls q e1 e2 e3 e4=>?_,λ j ks q e1 e2=>?_⟩
   .rcases aq e1 with⟨_,_,e⟩|⟨_,e1⟩
    .ext e
    .rcases aq e2 with⟨_,_,e⟩|⟨_,e2⟩
     .ext e
     .exact h.rs.r8.1 j k ks ls q e1 e2 e3 e4
   .rcases aq e1 with⟨_,_,e⟩|⟨_,e1⟩
    .ext e
    .let:=h.rs.r8.2 j ks q e1 e2;rw[ak<|own this];show this
 .refine Paired.Ly h.at_ λ j b hj=>?_;let(_0,Wg,vs2,hj):=hj;by_cases rQ:i=j
  .subst rQ;rw[hi]at hj;injection hj with hj;injection hj with hj;injection hj with hj
   let(rfl,_):=mL hj;show(Ea,s_,Ao,A31 BO,)
  .exact⟨_0,Wg,vs2,by rw[A24 rQ];show hj⟩
 .refine oA λ j x e tx=>?_;by_cases rQ:i=j
  .subst rQ;rw[B01];show h.inm hi
  .rw[A24 rQ]at e;show gE h.no e tx
def RM.tracked(h:RM K H0 ms as H O Y)(ha:a∈as):∃u,H a=AC u:=by
 let key:∀{l}{m},Paired (λ(i:Nat)(a)=>∃kd ks vs,Y[i]?=AC (AC<|.bor<|Z.gx a kd ks vs)) l m->a∈m->∃u,H a=AC u:=by
  intro l m p
  induction p with
  |nil=>intro h;simp at h
  |cons r t ih=>
   intro hm;rcases A01.mp hm with rfl|hm
   .let(_,_,_,hi):=r;let(_,u,q,_):=h.thing hi;show(u,q,)
   .exact ih hm
 show key h.at_ ha
def RM.same(h:RM K H0 ms as H O Y):av H0 H:=λ b o e=>h.rs.same b o (by rw[cN λ z=>by rw[h.h0 b z]at e;ext e];show e)
def RM.xH(h:RM K H0 ms as H O Y)(s:∀a∈as,H' a=H a):over H0 H' as=over H0 H as:=by
 funext b
 by_cases hb:b∈as
 .rw[cy hb,cy hb,s b hb]
 .rw[cN hb,cN hb]
def RM.up(h:RM K H0 ms as H O Y)(s:av H H'):RM K H0 ms as H' O Y:=by
 let e:=h.xH λ a ha=>by let(u,q):=h.tracked ha;rw[q];show s _ _ q
 show(?_,h.at_,h.no,h.nd,h.h0,);rw[e];show h.rs.up s
def yS:ε HO->Prop
|some<|.tup _=>True
|some<|.eu _ _=>True
|_=>False
open Classical in
def ov(H0 H:Hp)(as:U δ):Hp:=λ b=>if b∈as\/yS (H b)then H b else H0 b
def K2(h:a∈as):ov H0 H as a=H a:=M2<|.inl h
def DD(h:yS (H b)):ov H0 H as b=H b:=M2<|.inr h
def HD(h:b∉as)(n:¬yS (H b)):ov H0 H as b=H0 b:=W1 λ z=>z.elim h n
def RM.ovR(h:RM K H0 ms as H O Y):RS K (ov H0 H as) H O Y:=by
 let sm:av (over H0 H as) (ov H0 H as):=λ b o e=>by
  by_cases hb:b∈as
  .rw[cy hb]at e;rw[K2 hb];show e
  .rw[cN hb]at e;by_cases hs:yS (H b)
   .rw[DD hs];show h.same b o e
   .rw[HD hb hs];show e
 let non:∀{q}{u},over H0 H as q=Ch->H q=AC u->¬yS _->ov H0 H as q=Ch:=λ {q u} e hq n=>by
  let hb:q∉as:=λ z=>by rw[cy z,hq]at e;ext e
  rw[HD hb (by rw[hq];show n)];rw[cN hb]at e;show e
 show(λ b o e=>?_,h.rs.re,λ i xs q e1 e2=>?_,λ i d e1=>?_,(h.rs.r8.1,λ i ks q e1 e2=>?_,),)
 .by_cases hb:b∈as\/yS (H b)
  .rcases hb with hb|hb
   .rw[K2 hb]at e;show e
   .rw[DD hb]at e;show e
  .rw[HD (λ z=>hb<|.inl z) λ z=>hb<|.inr z]at e;show h.same b o e
 .let(v,h1,a,vs,e,h2,_):=h.rs.re.get i _ e1;rw[e2]at h1;ext h1 e;show non (h.rs.fresh i xs _ e1 e2) h2 λ z=>z
 .let(v,h1,h2):=h.rs.k? i d e1;show(v,h1,?_,);rcases h2 with h2|⟨a,kd,ks,ds,u,g1,g2,g3⟩
  .exact .inl<|h2.up sm
  .exact .inr ⟨a,kd,ks,ds,u,g1,g2,sm _ _ g3⟩
 .let(v,h1,a,sN,e,h2,_):=h.rs.re.get i _ e1;rw[e2]at h1;ext h1 e;show non (h.rs.r8.2 i ks _ e1 e2) h2 λ z=>?_;ext ks<;>show z
def Vm(s:av (ov H0 H as) H'):gV H H':=(λ b xs e=>s _ _ (by rw[DD (by rw[e];trivial)];show e),λ b o x e=>s _ _ (by rw[DD (by rw[e];trivial)];show e),)
def c!:∀{l}{m},Paired R l m->(∀x∈l,∀y,R x y->S x y)->Paired S l m:=by
 intro l m p f
 induction p with
 |nil=>show .nil
 |cons r t ih=>show .cons (f _ (.head _) _ r)<|ih λ x hx=>f x<|.tail _ hx
def RM.back(h:RM K H0 ms as H O Y)(kt:Z.bI ms Y Y')(r:RS K (ov H0 H as) H' O' Y'):RM K H0 ms as H' O' Y':=by
 let ha:∀a∈as,H' a=H a:=λ a z=>by let(u,q):=h.tracked z;rw[q];show r.same _ _ (by rw[K2 z];show q)
 let e:=h.xH ha;let at':Paired (λ(i)(a)=>∃kd ks vs,Y'[i]?=AC _) ms as:=c! h.at_ <|by rintro i hi a ⟨kd,ks,vs,q⟩;show⟨kd,ks,vs,by rw[kt.1 i hi];show q⟩
 let down:∀{q},ov H0 H as q=Ch->over H0 H as q=Ch:=λ {q} z=>by
  by_cases hb:q∈as
  .rw[K2 hb]at z;rw[cy hb];show z
  .rw[cN hb];by_cases hs:yS (H q)
   .rw[DD hs]at z;rw[z]at hs;show hs.elim
   .rw[HD hb hs]at z;show z
 show(?_,at',kt.2,h.nd,h.h0,);rw[e];show(λ b o q=>?_,r.re,λ i xs q e1 e2=>down<|r.fresh i xs q e1 e2,λ i d e1=>?_,(r.r8.1,λ i ks q e1 e2=>down<|r.r8.2 i ks q e1 e2,),)
 .by_cases hb:b∈as
  .rw[cy hb]at q;rw[ha b hb];show q
  .rw[cN hb]at q;show r.same b o ?_;by_cases hs:yS (H b)
   .rw[DD hs];show h.same b o q
   .rw[HD hb hs];show q
 .let(v,h1,h2):=r.k? i d e1;let hi:i∈ms:=by let:=gE kt.2 e1 trivial;simpa using this
  let(a,hm,kd,ks,vs,q):=fq at' hi;rw[e1]at q;injection q with q;injection q with q;injection q with q
  subst q;show(v,h1,?_,);rcases h2 with h2|⟨a',Ea,s_,ds,u,g1,g2,g3⟩
  .let(_,_,_,_,_,_,_,n):=h2.dct;show absurd rfl<|n _ _
  .let(rfl,rfl,rfl,rfl):=mL g1;let(u',q'):=h.tracked hm;show .inr ⟨a,kd,ks,vs,u',rfl,g2,by rw[cy hm];show q'⟩
def TH(K:Db)(H:Hp)(as:U δ)(ts:U Z.D):Prop:=Paired (λ(a:δ)(t:Z.D)=>∃kd ks vs u,t=Z.gx a kd ks vs/\H a=AC u/\Jp K H kd ks vs u) as ts
def RM.ths(h:RM K H0 ms as H O Y):TH K H as (Z.c8 ms Y):=by
 let key:∀{l}{m},Paired (λ(i)(a)=>∃kd ks vs,Y[i]?=AC (AC<|.bor<|Z.gx a kd ks vs)) l m->TH K H m (Z.c8 l Y):=by
  intro l m p
  induction p with
  |nil=>show .nil
  |cons r t ih=>let(kd,ks,vs,hi):=r;let(_,u,q,th):=h.thing hi;show .cons ⟨kd,ks,vs,u,by change Z.thA _=_;rw[hi];rfl,q,th⟩ ih
 show key h.at_
def TH.ups(h:TH K H as ts)(s:∀a∈as,H' a=H a)(st:gV H H'):TH K H' as ts:=c! h <|by rintro a ha t ⟨kd,ks,vs,u,e,q,th⟩;show⟨kd,ks,vs,u,e,by rw[s a ha];show q,th.ups st⟩
end
def flM(K:Db)(H0:Hp)(ms:U Nat)(as:U δ)(H:Hp)(D:Ends):Z.yy->Prop
|.nx Y'=>∀O' H',gV H H'->RM K H0 ms as H' O' Y'->D.nx O' H'
|.rt d ts=>∀v H',av H0 H'->TH K H' as ts->Den K H' d v->D.rt v H'
def tM(K:Db)(H0:Hp)(ms:U Nat)(as:U δ)(g:Z.SM):TS:=λ D O H=>∃Y fl,RM K H0 ms as H O Y/\g Y=.ok fl/\flM K H0 ms as H D fl
abbrev MS(X:Cx)(H0:Hp)(ms:U Nat)(as:U δ)(st:θ)(g:Z.SM):Prop:=PS X st<|tM X.K H0 ms as g
structure ZQ.NI(X:Cx)(H0:Hp)(ms:List Nat)(as:List Addr)(st:Stmt)(g:Z.SM):Prop where p:MS X H0 ms as st g
abbrev ρ'(X:Cx)(H0:Hp)(ms:U Nat)(as:U δ)(st:U θ)(g:Z.SM):Prop:=rq X st<|tM X.K H0 ms as g
structure ZQ.lV(X:Cx)(H0:Hp)(ms:List Nat)(as:List Addr)(st:List Stmt)(g:Z.SM):Prop where p:ρ' X H0 ms as st g
def flM.up{K:Db}(h:flM K H0 ms as H D fl)(e:gV H H1):flM K H0 ms as H1 D fl:=by
 cases fl with
 |nx Y'=>show λ O' H' s r=>h O' H' (e.trans s) r
 |rt d ts=>show h
section
variable{st:θ}
def kK(h:∀H1,DS X H1 st g):MS X H0 ms as st (Z.a5 ms g):=by
 intro B s O H D I w;let(Y,fl,rm,e,k):=w;let(f1,e1,e):=ce e;show h _ B s O H D I ⟨Y,f1,rm.ovR,e1,?_⟩;cases f1 with
 |nx Y'=>let(kt,e):=Z.bO e;ext e;show λ O' H' st r=>k O' H' st<|rm.back kt r
 |rt d=>
  ext e;intro v H' sm dv;let ha:∀a∈as,H' a=H a:=λ a z=>by let(u,q):=rm.tracked z;rw[q];show sm _ _ (by rw[K2 z];show q)
  show k v H' (λ b o q=>?_) (rm.ths.ups ha<|Vm sm) dv;show sm b o ?_;let nb:b∉as:=λ z=>by rw[rm.h0 b z]at q;ext q
  by_cases hs:yS (H b)
  .rw[DD hs];show rm.same b o q
  .rw[HD nb hs];show q
 |bk _=>ext e
 |ct _=>ext e
def ZQ.pR(h:ZQ.NI X H0 ms as st g):ZQ.lV X H0 ms as [st] g:=⟨pF h.p⟩
def ZQ.j9(h1:ZQ.NI X H0 ms as st g)(h2:ZQ.lV X H0 ms as wx u):ZQ.lV X H0 ms as (st::wx) (Z.bJ g u):=⟨rq.imp (j7 h1.p h2.p) <|by
 rintro D O H ⟨Y,fl,rs,e,k⟩;let(f1,e1,e):=ce e;show(Y,f1,rs,e1,?_,);cases f1 with
 |nx Y'=>show λ O' H' s r=>(Y',fl,r,e,k.up s,)
 |rt d ts=>ext e;show k⟩
def lLA{k f d ks v vs}:Z.lL f d (.inr k::ks) (v::vs)=if k=f then(.inr k::ks,d::vs)else(.inr k::(Z.lL f d ks vs).1,v::(Z.lL f d ks vs).2):=rfl
def lLB{f d}:Z.lL f d [] []=([.inr f],[d]):=rfl
def Fw{K:Db}{H:Hp}{f:U Nat}{d:Z.D}{y:V}(hd:Den K H d y):∀{ks:U (U Nat)}{ds:U Z.D}{fs:U (Str×V)},fs.map (·.1)=ks.map (λ c=>(⟨c.q⟩:Str))->au K H ds (fs.map (·.2)) ->
 ∃s_:U (U Nat),(Z.lL f d (ks.map .inr) ds).1=s_.map .inr/\(kH ⟨f.q⟩ y fs).map (·.1)=s_.map (λ c=>(⟨c.q⟩:Str))/\au K H (Z.lL f d (ks.map .inr) ds).2 ((kH ⟨f.q⟩ y fs).map (·.2))
|[],ds,fs,h2,h3=>by
 let:fs=[]:=by simpa using h2
 subst this;show([f],?_,rfl,?_,)
 .ext ds<;>rfl
 .let:(Z.lL f d ([].map .inr) ds).2=[d]:=by ext ds<;>rfl
  rw[this];show au.cons hd au.nil
|k::ks,ds,[],h2,_=>by ext h2
|k::ks,[],(n,v)::fs,_,h3=>by erw[A06,au]at h3;ext h3
|k::ks,x::ds,(n,v)::fs,h2,h3=>by
 erw[A06,B37]at h2;erw[A06,au]at h3;let(v',r,e1,h4,h5):=h3;ext e1;let(e2,h2):=h2;subst e2;erw[A06,lLA,kH];by_cases hk:k=f
 .subst hk;rw[M2 rfl,M2 rfl];show⟨k::ks,rfl,by simp[h2],au.cons hd h5⟩
 .rw[W1 hk,W1 λ z=>hk<|DZ.mp z];let(s_,q1,q2,q3):=Fw hd h2 h5;show⟨k::s_,by simp[q1],by simp[q2],au.cons h4 q3⟩
def O?(h:Z.wA f x t=.ok l):∃a ks vs,t=AC (AC<|.bor<|.dct (.inl a::.inl 0::ks) vs)/\(Z.lL f x ks vs).1=(Z.cb.take (Z.lL f x ks vs).1.length).map .inr/\l=.bor (.dct (.inl a::.inl 0::(Z.lL f x ks vs).1) (Z.lL f x ks vs).2):=by
 unfold Z.wA at h;rcases Z.xu t with⟨a,k,ks,vs,rfl⟩|hb
 .let((rfl,q),h):=Z.bO h;ext h;show(a,ks,vs,rfl,q,rfl,)
 .rw[hb]at h;show X! h
def RM.tagged{K:Db}(h:RM K H0 ms as H O Y){i:Nat}(hi:Y[i]?=AC (AC<|.bor d)):∃a kd ks vs,d=Z.gx a kd ks vs:=by
 let hm:i∈ms:=by let:=gE h.no hi trivial;simpa using this
 let(a,_,kd,ks,vs,q):=fq h.at_ hm;rw[hi]at q;injection q with q;injection q with q;injection q with q
 show(a,kd,ks,vs,q,)
theorem ZQ.V3(hn:Y9 X.K f)(ho:PE X o (nr i))(he:ZQ.QE X value fe)(hf:(⟨fc.q⟩)=f)(hs:swapsWith value (AC<|.Attribute o f pos') pos.line X.J=pure AT:=by rfl):
 ZQ.NI X H0 ms as (.Assign [.Attribute o f pos'] value pos) (Z.nz i fc fe):=⟨PS.imp (Vc ho he.p hs) <|by
 rintro D O H ⟨Y,fl,rm,e,k⟩;let(d,ed,e):=ce e;let(l,el,e):=ce e;ext e;show(Y,d,rm.rs.re,ed,λ y H1 s1 dy=>?_,);let lM:=rm.up s1;let(a0,ks0,vs,hi,hk,rfl):=O? el;let(a,kd,ks,Ao,e1):=lM.tagged hi;injection e1 with e1 e2
 injection e1 with e1 e3
 injection e3 with e3 e4
 injection e1 with e1
 injection e3 with e3
 subst e1 e2 e4;let:=(B75 e3.c)
 subst this;let Ma:=hi;let(YO,u,hu,th):=lM.thing Ma;rcases th with⟨_,hks,C,dx,fs,rfl,hC,h3,h4⟩|⟨z,_⟩
 .let(C',g1,g2):=hn;let:=g1.symm.trans hC.1;ext this;let hl:fs.n<1000:=by
   let q1:fs.n=ks.n:=by simpa using A13 List.length h3
   let q2:ks.n<=4:=by
    let:=A13 List.length hks;rw[A32]at this;let:ks.n<=Z.cb.n:=by lia
    show this
   lia
  let(s_,q1,q2,q3):=Fw (f:=fc) dy h3 h4;let U1:gV H1 (upd H1 a<|.ins C dx<|kH f y fs):=mO hu (λ _ z=>nomatch z) λ _ _ z=>nomatch z;rw[q1]at hk;rw[hf]at q2 q3;let YQ:s_=Z.cb.take s_.n:=by rw[A04]at hk;show(ww λ x y h=>by injection h).mp hk
  let(st,Du):=lM.write Ma (.inl ⟨rfl,YQ,C,dx,_,rfl,hC,q2,q3.ups U1⟩);show(.ref a,YO,a,C,dx,fs,rfl,hu,hC.2,g2,hl,k O _ ((jR s1).trans st) ?_,);rw[q1];show Du
 .ext z⟩
end
def wipe(H:Hp)(as:U δ):Hp:=λ b=>if b∈as then Ch else H b
def HC:over (wipe H as) H as=H:=by
 funext b
 by_cases hb:b∈as
 .rw[cy hb]
 .rw[cN hb];show W1 hb
def Ti(K:Db)(ms:U Nat)(bs:U Bool)(n:Nat)(fn:U Z.D->Z.Res (Z.D×U Z.D)):Sp:=λ vs H Q _=>∃ds as d ts,iN K H bs ds vs/\as.Nodup/\Paired (λ(i:Nat)(a:δ)=>∃kd ks vs,(Z.startB n bs ds)[i]?=AC (AC<|.bor<|Z.gx a kd ks vs)) ms as/\Z.jv ms 0 (Z.startB n bs ds) /\
 fn ds=.ok (d,ts)/\∀v H',av (wipe H as) H'->TH K H' as ts->Den K H' d v->Q v H'
section
variable{K:Db}
def W8{st:θ}(kA:bs.n=ps.n)(F:CJ K x qual st f fd)(S:aT N ps (aa st))
 (hb:∀ aU A outer s H H0 as E,bf k (A.deeper<|envOfC qual (aa st) s.heap.objs.size f aU) ->
  ρ' (dG iC P w K mg base N qual (aa st) f aU A outer s H E).fQ H0 ms as (az st) b):fi P w K mg base iC (k+1) f fd ps (Ti K ms bs N.length<|Z.zM ms bs N.length b):=by
 let ψ:∀vs H Q E,Ti K ms bs N.length (Z.zM ms bs N.length b) vs H Q E->vs.n=ps.n:=by rintro vs H Q E ⟨ds,as,d,ts,t,_⟩;let:=t.n;lia
 show F.ok S ψ λ aU A outer s H vs Q E hr h=>?_;let hl:=ψ vs H Q E h;let(ds,as,d,ts,t,nd,hat,JA,e,k):=h;show(_,hb aU A outer s H (wipe H as) as E hr,?_,);let dX:ps.n<=N.n:=by let:=A13 List.length S.pre;rw[A32]at this;lia
 let rs:RS K H H (L2.start N vs) (Z.startB N.length bs ds):=n_ t ∅;let rm:RM K (wipe H as) ms as H (L2.start N vs) (Z.startB N.length bs ds):=⟨by rw[HC];show rs,hat,JA,nd,λ a ha=>M2 ha⟩
 unfold Z.zM at e;split at e
 .cases eb:b (Z.startB N.length bs ds)with
  |bad=>rw[eb]at e;ext e
  |ok fl=>
   rw[eb]at e;show(_,fl,rm,eb,?_,);cases fl with
   |rt d' US=>ext e;show λ v H' s' th dv=>k v H' s' th dv
   |nx Y'=>ext e;show λ O' H' _ ZT=>k .non H' ZT.same ZT.ths kY
 .ext e
end
structure Yp(K:Db)(st:Stmt)(ps:List Str):Prop where
 ex:∃C f fd,qv K "Desk" C/\Mk K C f/\CJ K "__init__" "Desk.__init__" st f fd/\Binds K fd ps []
structure E6(P:Program)(w:World)(K:Db)(mg:Str->Option Value)(base:Heap)(k:Nat)(ps:List Str)(n:Nat)(fn:List Z.D->Z.Res (Z.D×List Z.D)):Prop where
 ex:∃C f fd,qv K "Desk" C/\Mk K C f/\fi P w K mg base iC k f fd ps (Ti K [0] [Da,AT] n fn)/\Binds K fd ps []
section
variable{K:Db}
def E6.mk'{st:θ}(kA:ps.n=2)(d:Yp K st ps)(S:aT N ps (aa st))
 (hb:∀ f aU A outer s H H0 as E,bf k (A.deeper<|envOfC "Desk.__init__" (aa st) s.heap.objs.size f aU) ->
  ρ' (dG iC P w K mg base N "Desk.__init__" (aa st) f aU A outer s H E).fQ H0 [0] as (az st) b):E6 P w K mg base (k+1) ps N.length (Z.zM [0] [Da,AT] N.length b):=by
 let(C,f,fd,hC,M,F,v!):=d.ex;show(C,f,fd,hC,M,W8 kA.symm F S<|hb f,v!,)
end
def sZ:∀m k,Z.jv ms k (Do m Ch)
|0,_=>trivial
|m+1,k=>(λ z=>z.elim,sZ m _,)
def xU(hx:H x=Ch)(Oe:H dx=Ch):av H (upd (upd H dx<|.own x) x<|.ins C dx []):=λ b o e=>by rw[ak<|aR e hx,ak<|aR e Oe];show e
def RS.wA{K:FS}(h:RS K H0 H O Y)(hx:H x=Ch)(s:av H H')(hu:H' x=AC u)(t:Jp K H' kd ks vs u)(BO:i<Y.n):
 RS K (upd H0 x u) H' (O.set i<|some<|.ref x) (Y.set i<|some<|.bor<|Z.gx x kd ks vs):=by
 let h1:=h.up s;let n0:H0 x=Ch:=by
  cases e:H0 x with
  |none=>rfl
  |some o=>rw[h.same _ _ e]at hx;ext hx
 let ne:∀{q}{o},H q=AC o->q≠x:=λ e=>aR e hx;let getσ:∀j,i≠j->(O.set i<|some<|V.ref x)[j]?=O[j]?:=λ j hj=>A24 hj;let si:(O.set i<|some<|V.ref x)[i]?=AC (AC<|.ref x):=A31 (by rw[<-h.re.len];show BO);show(λ b o e=>?_,⟨by simp[h.re.len],λ j l e=>?_,λ j k xs ys q e1 e2 e3 e4=>?_⟩,λ j xs q e1 e2=>?_,λ j d e1=>?_,(λ j k ks ls q e1 e2 e3 e4=>?_,λ j ks q e1 e2=>?_,),)
 .by_cases hb:b=x
  .subst hb;rw[aA]at e;rw[hu];show e
  .rw[ak hb]at e;show h1.same b o e
 .rcases aq e with⟨rfl,hl,e⟩|⟨hj,e⟩
  .ext e;show(.ref x,si,.inr ⟨x,kd,ks,vs,u,rfl,rfl,hu,t⟩,)
  .rw[getσ j hj];show h1.re.get j l e
 .rcases aq e1 with⟨_,_,e⟩|⟨hj,e1⟩
  .ext e
  .rcases aq e2 with⟨_,_,e⟩|⟨hk,e2⟩
   .ext e
   .rw[getσ j hj]at e3;rw[getσ k hk]at e4;show h.re.sep j k xs ys q e1 e2 e3 e4
 .rcases aq e1 with⟨_,_,e⟩|⟨hj,e1⟩
  .ext e
  .rw[getσ j hj]at e2;let(v,g1,a,ws,e,g2,_):=h.re.get j _ e1;rw[e2]at g1;ext g1 e;rw[ak<|ne g2];show h.fresh j xs q e1 e2
 .rcases aq e1 with⟨rfl,_,e⟩|⟨hj,e1⟩
  .ext e;show(.ref x,si,.inr ⟨x,kd,ks,vs,u,rfl,rfl,aA⟩,)
  .rw[getσ j hj];let(v,g1,g2):=h.k? j d e1;show(v,g1,?_,);rcases g2 with g2|⟨a,Ea,s_,ds,u',q1,q2,q3⟩
   .exact .inl<|g2.up<|bE n0
   .exact .inr ⟨a,Ea,s_,ds,u',q1,q2,bE n0 _ _ q3⟩
 .rcases aq e1 with⟨_,_,e⟩|⟨hj,e1⟩
  .ext e
  .rcases aq e2 with⟨_,_,e⟩|⟨hk,e2⟩
   .ext e
   .rw[getσ j hj]at e3;rw[getσ k hk]at e4;show h.r8.1 j k ks ls q e1 e2 e3 e4
 .rcases aq e1 with⟨_,_,e⟩|⟨hj,e1⟩
  .ext e
  .rw[getσ j hj]at e2;let(v,g1,a,ws,e,g2,_):=h.re.get j _ e1;rw[e2]at g1;ext g1 e;rw[ak<|ne g2];show h.r8.2 j ks q e1 e2
section
variable{rest:U θ}
def F0{K:Db}(hC:qv K "Desk" C):jC K (upd (upd H dx<|.own x) x<|.ins C dx []) (Z.gx x 0 [] []) (.ref x):=.inr ⟨x,0,[],[],_,rfl,rfl,aA,.inl ⟨rfl,rfl,C,dx,[],rfl,hC,rfl,au.nil⟩⟩
end
def clsAt(s:θ)(j:Nat):θ:=match s with
|.ClassDef _ _ _ b _ _ _ _ _ _ _=>b.getD j<|.Pass ⟨0,0,0,0⟩
|s=>s
def e?(K:Frag)(C:δ)(m q:Str)(st:θ):Prop:=∃(f:δ)(od an:ε δ)(sl:Array (ε ζ))(oc kV dc pm cd ct:ζ),findIn K (.ref C) m=AC (AC<|.ref f)/\K.lookup f=AC ⟨oc,od,.func<|fnOf m q (bg st) (az st) (aa st) .none kV dc pm an cd ct,sl⟩/\codeIn K cd q=Da/\keepIn K (.ref f)=Da/\isFn K (.ref f)=Da
section
variable{K:Frag}{st:θ}
def e?.mk'{oc kV dc pm cd ct:ζ}(a:findIn K (.ref C) m=AC (AC<|.ref f))(l:K.lookup f=AC ⟨oc,od,.func<|fnOf m q (bg st) (az st) (aa st) .none kV dc pm an cd ct,sl⟩)(c:codeIn K cd q=Da)(k:keepIn K (.ref f)=Da)(i:isFn K (.ref f)=Da):e? K C m q st:=(f,od,an,sl,oc,kV,dc,pm,cd,ct,a,l,c,k,i,)
def e?.df(d:e? K C m q st)(hC:qv K "Desk" C)(hb:∀kV doc pm an aU ct us,us.n=ps.n->bindArgs (fnOf m q (bg st) (az st) (aa st) .none kV doc pm an aU ct) ⟨us,[]⟩=pure (ps.zip us):=by show ZS.Uo):E3 K m q st ps:=by let(f,od,an,sl,oc,kV,dc,pm,cd,ct,a,l,c,k,i):=d;let F:=u? l c k;show(C,f,_,hC,(a,i,k,),F,F.binds hb,)
def e?.di(d:e? K C "__init__" "Desk.__init__" st)(hC:qv K "Desk" C)(mk:makesIn K C=Da)(kp:keepIn K (.ref C)=Da)(hb:∀kV doc pm an aU ct us,us.n=ps.n->bindArgs (fnOf "__init__" "Desk.__init__" (bg st) (az st) (aa st) .none kV doc pm an aU ct) ⟨us,[]⟩=pure (ps.zip us)):Yp K st ps:=by let(f,od,an,sl,oc,kV,dc,pm,cd,ct,a,l,c,k,i):=d;let F:=u? l c k;show(C,f,_,hC,(mk,a,i,kp,),F,F.binds hb,)
end
end ZS
namespace ZQ
open L2 ZS PySem.W
section
variable{st:θ}
def kK(h:∀H1,QS X H1 st g):NI X H0 ms as st (Z.a5 ms g):=⟨ZS.kK λ H1=>(h H1).p⟩
end
section
variable{K:Db}
def XO{st:θ}(kA:bs.n=ps.n)(d:E3 K m qual st ps)(hb:∀{f}{aU}{A}{outer}{s}{H}{E},N.Nodup->(A.deeper<|envOfC qual (aa st) s.heap.objs.size f aU).units+64<cLine->bf k (A.deeper<|envOfC qual (aa st) s.heap.objs.size f aU)->yx (dG iC P w K mg base N qual (aa st) f aU A outer s H E).fQ H (az st) b)(S:aT N ps (aa st):=by show ZS.B1):An P w K mg base m (k+1) ps bs (Z.B3 bs N.length b):=An.mk' kA d S λ f aU A outer s H E hr=>(hb S.nd hr.units hr).p
def XJ{st:θ}(kA:bs.n=ps.n)(d:E3 K m qual st ps)(hb:∀{f}{aU}{A}{outer}{s}{H}{E},N.Nodup->(A.deeper<|envOfC qual (aa st) s.heap.objs.size f aU).units+64<cLine->bf k (A.deeper<|envOfC qual (aa st) s.heap.objs.size f aU)->Ai (dG (CG P w) P w K mg base N qual (aa st) f aU A outer s H E) H (az st) xb)(S:aT N ps (aa st):=by show ZS.B1):vV P w K mg base m (k+1) ps bs (Z.B0 bs N.length xb):=vV.mk' kA d S λ f aU A outer s H E hr=>(hb S.nd hr.units hr).p
def XM{st:θ}(kA:bs.n=ps.n)(d:Def K mg x st ps)(hb:∀{f}{aU}{A}{outer}{s}{H}{E},N.Nodup->(A.deeper<|envOfC x (aa st) s.heap.objs.size f aU).units+64<cLine->bf k (A.deeper<|envOfC x (aa st) s.heap.objs.size f aU)->Ai (dG (CG P w) P w K mg base N x (aa st) f aU A outer s H E) H (az st) xb)(S:aT N ps (aa st):=by show ZS.B1):vW P w K mg base x (k+1) ps bs (Z.B0 bs N.length xb):=vW.mk' kA d S λ f aU A outer s H E hr=>(hb S.nd hr.units hr).p
def XQ{st:θ}(kA:ps.n=2)(d:Yp K st ps)(hb:∀{f}{aU}{A}{outer}{s}{H H0}{as}{E},N.Nodup->(A.deeper<|envOfC "Desk.__init__" (aa st) s.heap.objs.size f aU).units+64<cLine->bf k (A.deeper<|envOfC "Desk.__init__" (aa st) s.heap.objs.size f aU)->lV (dG iC P w K mg base N "Desk.__init__" (aa st) f aU A outer s H E).fQ H0 [0] as (az st) b)(S:aT N ps (aa st):=by show ZS.B1):E6 P w K mg base (k+1) ps N.length (Z.zM [0] [Da,AT] N.length b):=E6.mk' kA d S λ f aU A outer s H H0 as E hr=>(hb S.nd hr.units hr).p
end
end ZQ
namespace ZS
open L2 PySem.W
section
variable{K:Frag}{st:θ}
def abl(d:e? K C "__init__" q st)(xj:Ov K C=Da)(kp:keepIn K (.ref C)=Da)(ef:Ak K C)(ht:findIn K (.ref C) as=AC Ch)(ha:(⟨a.q⟩)=as)
 (hb:az st=[.Assign [.Attribute (.Name "self" p1) as p2] (.Name as p3) p4])
 (hbd:∀kV doc pm an aU ct us,us.n=2->bindArgs (fnOf "__init__" q (bg st) (az st) (aa st) .none kV doc pm an aU ct) ⟨us,[]⟩=pure ((["self",as]:U Str).zip us))
 (S:aT ["self",as] ["self",as] (aa st)) (hv:∀x∈(["self",as]:U Str),NH (aa st) x) (hd:Nd as) (hc:(as==("__classdict__"))=AT):Yr P w K mg base C 1 [a]:=by
 let(f,od,an,sl,oc,kV,dc,pm,cd,ct,e1,l,c,k,i):=d;let F:=u? l c k;show(f,fnOf "__init__" q (bg st) (az st) (aa st) .none kV dc pm an cd ct,xj,kp,e1,i,?_,?_,)
 .rw[A06,A41,ha];show _' ef ht F hb S hv hd hc
 .rw[A06,A41,ha];show F.binds hbd
def Rt(h1:nsIn K mainGlobals ⟨c.q⟩=AC (AC<|.ref C))(h2:S6 K C)(h3:Ak K C)(h4:findIn K (.ref C) f=AC Ch):Yq K f c:=(C,h1,h2,h3,h4,)
def OF{l:U Str}(h:∀x∈l,sc.names.lookup x=AC .local):∀x∈l,NH sc x:=λ x hx=>.inl<|h x hx
end
def xF:∀is ts Y,(Z.dH is ts Y).length=Y.n
|[],_,_=>rfl
|_::_,[],_=>rfl
|i::is,t::ts,Y=>by change(Z.dH is ts _).length=_;rw[xF];simp
def j6:∀is ts Y {j},j∉is->(Z.dH is ts Y)[j]?=Y[j]?
|[],_,_,_,_=>rfl
|_::_,[],_,_,_=>rfl
|i::is,t::ts,Y,j,h=>by change(Z.dH is ts _)[j]?=_;rw[j6 is ts _ λ z=>h<|A08 _ z,A24 λ z=>h (by rw[z];simp)]
def Ku{S:δ->Z.D->Prop}:∀{is}{as}{ts}{Y}{j},is.Nodup->(∀i∈is,i<Y.n)->Paired R is as->Paired S as ts->j∈is->∃a t,a∈as/\R j a/\S a t/\(Z.dH is ts Y)[j]?=AC (AC<|.bor t):=by
 intro is as ts Y j nd hl p q h
 induction p generalizing ts Y with
 |nil=>ext h
 |@cons i a is as r tr ih=>
  cases q with|@cons _ t _ ts s tS=>
  let DX:=A44.mp nd;rcases A01.mp h with e|h
  .subst e;show(a,t,.head _,r,s,?_,);change(Z.dH is _ _)[j]?=_;rw[j6 is _ _ DX.1,A31<|hl j ∅]
  .let(a',t',h1,h2,h3,h4):=ih (Y:=Y.set i (AC<|.bor t)) DX.2 (λ k hk=>by calc hl k (by simp[hk])) tS h;show(a',t',.tail _ h1,h2,h3,h4,)
section
variable{K:Db}
abbrev Za(Y:Z.Env)(i:Nat)(a:δ):Prop:=∃kd ks vs,Y[i]?=AC (AC<|.bor<|Z.gx a kd ks vs)
def md:∀{l}{m}{y},Paired R l m->y∈m->∃x∈l,R x y:=by
 intro l m y p h
 induction p with
 |nil=>ext h
 |cons r t ih=>
  rcases A01.mp h with rfl|h
  .exact⟨_,.head _,r⟩
  .let(x,h1,h2):=ih h;show(x,.tail _ h1,h2,)
def RM.pick(h:RM K H0 ms as H O Y):∀{is},(∀i∈is,i∈ms)->is.Nodup->∃sN,Paired (Za Y) is sN/\sN.Nodup/\∀a∈sN,a∈as
|[],_,_=>⟨[],.nil,by simp,λ a h=>by simp at h⟩
|i::is,hs,nd=>by
 let DX:=A44.mp nd;let(sN,p,n,s):=h.pick (λ k hk=>hs k (by simp[hk])) DX.2;let(a,ha,r):=fq h.at_ (hs i ∅);show(a::sN,.cons r p,A44.mpr ⟨λ z=>?_,n⟩,λ b hb=>?_,)
 .let(j,hj,r2):=md p z;let(_,_,_,r):=r;let(_,_,_,r2):=r2;let:=h.uniq r r2;subst this;show DX.1 hj
 .rcases A01.mp hb with rfl|hb
  .exact ha
  .exact s b hb
def RM.TL(h:RM K H0 ms as H O Y)(hb:b∈as):(∀xs,H b≠AC (.tup xs))/\∀o u,H b≠AC (.eu o u):=by let(i,_,_,_,_,hi):=md h.at_ hb;let(_,u,q,t):=h.thing hi;show(λ xs z=>t.mb.1 xs<|f8<|q.symm.trans z,λ o x z=>t.mb.2.1 o x<|f8<|q.symm.trans z,)
def vS(as:U δ)(H H':Hp):Prop:=∀b o,b∉as->H b=AC o->H' b=AC o
def vS.refl:vS as H H:=λ _ _ _ h=>h
def vS.of(s:av H H'):vS as H H':=λ b o _ e=>s b o e
def vS.trans{H2:Hp}(a:vS as H H')(b:vS as H' H2):vS as H H2:=λ c o hc e=>b c o hc<|a c o hc e
def RM.jR(h:RM K H0 ms as H O Y)(s:vS as H H'):gV H H':=(λ b xs e=>s b _ (λ z=>(h.TL z).1 xs e) e,λ b o u e=>s b _ (λ z=>(h.TL z).2 o u e) e,)
def RM.call(h:RM K H0 ms as H O Y)(hs:∀i∈is,i∈ms)(nd:is.Nodup)(p:Paired (Za Y) is sN)(sub:∀a∈sN,a∈as)(sm:av (wipe H sN) H')(th:TH K H' sN ts):
 vS as H H'/\RM K H0 ms as H' O (Z.dH is ts Y):=by
 let keep:∀b o,b∉sN->H b=AC o->H' b=AC o:=λ b o n e=>sm b o (by change(if b∈sN then Ch else H b)=_;rw[W1 n];show e);let m1:vS as H H':=λ b o n e=>keep b o (λ z=>n<|sub b z) e;let st:=h.jR m1;let hl:∀i∈is,i<Y.n:=λ i hi=>by let(a,_,_,_,_,q):=fq p hi;show(A09.mp q).1
 let new:∀{j},j∈is->∃a kd ks vs u,a∈sN/\Za Y j a/\H' a=AC u/\Jp K H' kd ks vs u/\(Z.dH is ts Y)[j]?=AC (AC<|.bor<|Z.gx a kd ks vs):=λ {j} hj=>by let(a,t,ha,r,(kd,ks,vs,u,e,q,o),g):=Ku (Y:=Y) nd hl p th hj;subst e;show(a,kd,ks,vs,u,ha,r,q,o,g,)
 let old:∀{j}{l},(Z.dH is ts Y)[j]?=AC (AC l)->j∉is->Y[j]?=AC (AC l):=λ {j l} e hj=>by rw[j6 is ts Y hj]at e;show e
 let off:∀{j:Nat}{a:δ},j∉is->Za Y j a->a∉sN:=λ {j a} hj ⟨_,_,_,r⟩ z=>by let(i,hi,_,_,_,r2):=md p z;show hj (by rw[h.uniq r r2];show hi)
 let fr:∀{q:δ},over H0 H as q=Ch->q∉as/\over H0 H' as q=Ch:=λ {q} e=>by
  let n:q∉as:=λ z=>by let(u,hu):=h.tracked z;rw[cy z,hu]at e;ext e
  show⟨n,by rw[cN n]at e ⊢;show e⟩
 let thing:∀{j:Nat}{d:Z.D},Y[j]?=AC (AC<|.bor d)->∃a kd ks vs,d=Z.gx a kd ks vs:=λ {j d} hj=>by
  let hm:j∈ms:=by let:=gE h.no hj trivial;simpa using this
  let(a,_,kd,ks,vs,q):=fq h.at_ hm;rw[hj]at q;injection q with q;injection q with q;injection q with q
  show(a,kd,ks,vs,q,)
 let σat:∀{j:Nat}{a:δ},Za Y j a->O[j]?=AC (AC<|.ref a):=λ⟨_,_,_,q⟩=>(h.thing q).1;show(m1,(?_,?_,?_,h.nd,h.h0,),)
 .refine⟨λ b o e=>?_,⟨by rw[xF];show h.rs.re.len,λ j l e=>?_,λ j k xs ys q e1 e2 e3 e4=>?_⟩,λ j xs q e1 e2=>?_,λ j d e1=>?_,⟨λ j k ks ls q e1 e2 e3 e4=>?_,λ j ks q e1 e2=>?_⟩⟩
  .by_cases hb:b∈as
   .rw[cy hb]at e;show e
   .rw[cN hb]at e;show m1 b o hb<|h.same b o e
  .by_cases hj:j∈is
   .let(a,kd,ks,vs,u,ha,r,q,o,g):=new hj;rw[g]at e;ext e;show(.ref a,σat r,.inr ⟨a,kd,ks,vs,u,rfl,rfl,q,o⟩,)
   .let e:=old e hj;let(v,e1,r):=h.rs.re.get j l e;show(v,e1,?_,);cases l with
    |val d=>show Den.ups (show Den K H d v from r) st
    |own zs=>let(q',ws,rfl,eJ,t'):=r;show(q',ws,rfl,m1 _ _ (fr<|h.rs.fresh j zs q' e e1).1 eJ,t'.ups st,)
    |bor d=>let(a,kd,ks,vs,rfl):=thing e;let(s1,u,q,t):=h.thing e;rw[s1]at e1;ext e1;show .inr ⟨a,kd,ks,vs,u,rfl,rfl,keep _ _ (off hj ⟨_,_,_,e⟩) q,t.ups st⟩
    |dc ks=>let(q',as2,rfl,eJ,t'):=r;show(q',as2,rfl,m1 _ _ (fr<|h.rs.r8.2 j ks q' e e1).1 eJ,t'.ups st,)
    |JD ks=>let(q',o',as2,rfl,eJ,t'):=r;show(q',o',as2,rfl,st.eu _ _ _ eJ,t'.ups st,)
    |T3 ps=>let(q',o',rfl,eJ):=r;show(q',o',rfl,st.eu _ _ _ eJ,)
    |exc c=>let(q',o',u',C',rfl,eJ,r1,r2,r3):=r;show(q',o',u',C',rfl,st.eu _ _ _ eJ,r1,r2,r3.ups st,)
  .let no:∀{j:Nat}{zs:U Z.D},(Z.dH is ts Y)[j]?=AC (AC<|.own zs)->Y[j]?=AC (AC<|.own zs):=λ {j zs} e=>old e λ hj=>by let(a,kd,ks,vs,u,ha,r,q,o,g):=new hj;rw[g]at e;ext e
   show h.rs.re.sep j k xs ys q (no e1) (no e2) e3 e4
  .let hj:j∉is:=λ hj=>by let(a,kd,ks,vs,u,ha,r,q,o,g):=new hj;rw[g]at e1;ext e1
   show(fr<|h.rs.fresh j xs q (old e1 hj) e2).2
  .by_cases hj:j∈is
   .let(a,kd,ks,vs,u,ha,r,q,o,g):=new hj;rw[g]at e1;ext e1;show(.ref a,σat r,.inr ⟨a,kd,ks,vs,u,rfl,rfl,by rw[cy<|sub a ha];show q⟩,)
   .let e:=old e1 hj;let(a,kd,ks,vs,rfl):=thing e;let(s1,u,q,t):=h.thing e;show(.ref a,s1,.inr ⟨a,kd,ks,vs,u,rfl,rfl,by rw[cy<|h.mem e];show keep _ _ (off hj ⟨_,_,_,e⟩) q⟩,)
  .let no:∀{j:Nat}{zs:Z.DK},(Z.dH is ts Y)[j]?=AC (AC<|.dc zs)->Y[j]?=AC (AC<|.dc zs):=λ {j zs} e=>old e λ hj=>by let(a,kd,ks,vs,u,ha,r,q,o,g):=new hj;rw[g]at e;ext e
   show h.rs.r8.1 j k ks ls q (no e1) (no e2) e3 e4
  .let hj:j∉is:=λ hj=>by let(a,kd,ks,vs,u,ha,r,q,o,g):=new hj;rw[g]at e1;ext e1
   show(fr<|h.rs.r8.2 j ks q (old e1 hj) e2).2
 .refine c! h.at_ λ i hi a r=>?_;by_cases hj:i∈is
  .let(a2,kd,ks,vs,u,ha,r2,q,o,g):=new hj;let:=EZ i _ _ r r2;subst this;show(kd,ks,vs,g,)
  .let(kd,ks,vs,r):=r;show⟨kd,ks,vs,by rw[j6 is ts Y hj];show r⟩
 .refine oA λ j x e t=>?_;rw[B01];by_cases hj:j∈is
  .exact hs j hj
  .rw[j6 is ts Y hj]at e;let:=gE h.no e t;calc this
end
def uf:∀k {bs}{ds}{as},ds.n=bs.n->Paired (λ(d)(a:δ)=>∃kd ks vs,d=Z.gx a kd ks vs) (Z.xv bs ds) as ->
 Paired (λ(i)(a)=>∃kd ks vs,k<=i/\(ci (λ b d=>AC<|Z.sF b d) bs ds)[i-k]?=AC (AC<|.bor<|Z.gx a kd ks vs)) (Z.gy k bs) as
|k,[],[],_,_,.nil=>.nil
|k,Da::bs,d::ds,_,hl,.cons r t=>by
 let(kd,ks,vs,rfl):=r;show .cons ⟨kd,ks,vs,P3 _,by simp[Z.gx,Z.sF]⟩ ?_;show c! (uf _ (by calc hl) t) λ i _ a ⟨kd,ks,vs,h1,h2⟩=>⟨kd,ks,vs,Nat.le_of_succ_le h1,?_⟩
 rw[show i-k=(i-(k+1))+1 from (Nat.sub_add_cancel<|Nat.sub_pos_of_lt h1).symm];calc h2
|k,AT::bs,d::ds,_,hl,p=>by
 show c! (uf (k+1) (by calc hl) p) λ i _ a ⟨kd,ks,vs,h1,h2⟩=>⟨kd,ks,vs,Nat.le_of_succ_le h1,?_⟩
 rw[show i-k=(i-(k+1))+1 from (Nat.sub_add_cancel<|Nat.sub_pos_of_lt h1).symm];calc h2
def FU:∀{a}{k},Z.jv ms k a->Z.jv ms (k+a.n) b->Z.jv ms k (a++b)
|[],_,_,h=>h
|x::a,k,h,g=>(h.1,FU h.2 (by rw[show k+1+a.n=k+(x::a).length from by simp;lia];show g),)
def zp:∀k bs ds ms,(∀i∈Z.gy k bs,i∈ms)->Z.jv ms k (ci (λ b d=>AC<|Z.sF b d) bs ds)
|_,[],_,_,_=>by simp[Z.jv]
|_,_::_,[],_,_=>by simp[Z.jv]
|k,Da::bs,d::ds,ms,h=>(λ _=>h k (by simp[Z.gy]),zp _ bs ds ms λ i hi=>h i (by simp[Z.gy,hi]),)
|k,AT::bs,d::ds,ms,h=>⟨λ z=>by
 let:Z.sF AT d=.val d:=by ext d<;>rfl
 change Z.lW (AC _)at z;rw[this]at z;show z.elim,zp _ bs ds ms λ i hi=>h i (by simpa[Z.gy]using hi)⟩
def UZ(K:Db)(H0:Hp)(ms:U Nat)(as:U δ)(f:Z.NM):TE:=λ O H Q=>∃Y d Y',RM K H0 ms as H O Y/\f Y=.ok (d,Y')/\∀v H',vS as H H'->RM K H0 ms as H' O Y'->Den K H' d v->Q v H'
def tMT(K:Db)(H0:Hp)(ms:U Nat)(as:U δ)(f:Z.Yg):TT:=λ O H Q=>∃Y b Y',RM K H0 ms as H O Y/\f Y=.ok (b,Y')/\∀H',vS as H H'->RM K H0 ms as H' O Y'->Q b H'
def tMA(K:Db)(H0:Hp)(ms:U Nat)(as:U δ)(f:Z.AMf):TA:=λ O H Q=>∃Y ds Y',RM K H0 ms as H O Y/\f Y=.ok (ds,Y')/\∀vs H',vS as H H'->RM K H0 ms as H' O Y'->au K H' ds vs->Q vs H'
abbrev ME(X:Cx)(H0:Hp)(ms:U Nat)(as:U δ)(e:η)(f:Z.NM):Prop:=PE X e<|UZ X.K H0 ms as f
structure ZQ.sO(X:Cx)(H0:Hp)(ms:List Nat)(as:List Addr)(e:Expr)(f:Z.NM):Prop where p:ME X H0 ms as e f
abbrev MT(X:Cx)(H0:Hp)(ms:U Nat)(as:U δ)(e:η)(f:Z.Yg):Prop:=PT X e<|tMT X.K H0 ms as f
structure ZQ.Y6(X:Cx)(H0:Hp)(ms:List Nat)(as:List Addr)(e:Expr)(f:Z.Yg):Prop where p:MT X H0 ms as e f
abbrev MTW(X:Cx)(H0:Hp)(ms:U Nat)(as:U δ)(e:η)(f:Z.Yg):Prop:=PW X e<|tMT X.K H0 ms as f
structure ZQ.S0(X:Cx)(H0:Hp)(ms:List Nat)(as:List Addr)(e:Expr)(f:Z.Yg):Prop where p:MTW X H0 ms as e f
abbrev MA(X:Cx)(H0:Hp)(ms:U Nat)(as:U δ)(es:U η)(f:Z.AMf):Prop:=PA X es<|tMA X.K H0 ms as f
structure se(P:Program)(w:World)(K:Db)(mg:Str->Option Value)(base:Heap)(x:Str)(k:Nat)(ps:List Str)(bs:List Bool)(n:Nat)(fn:List Z.D->Z.Res (Z.D×List Z.D)):Prop where
 ex:∃g fd,fi P w K mg base iC k g fd ps (Ti K (Z.gy 0 bs) bs n fn)/\mg x=AC (.ref g)/\Fa K (.ref g)=Da/\Binds K fd ps []
structure vX(P:Program)(w:World)(K:Db)(mg:Str->Option Value)(base:Heap)(m:Str)(k:Nat)(ps:List Str)(bs:List Bool)(n:Nat)(fn:List Z.D->Z.Res (Z.D×List Z.D)):Prop where
 ex:∃C g fd,qv K "Desk" C/\Meth K C m g/\fi P w K mg base iC k g fd ps (Ti K (Z.gy 0 bs) bs n fn)/\Binds K fd ps []
section
variable{K:Db}
def se.mk'{st:θ}(kA:bs.n=ps.n)(d:Def K mg x st ps)(S:aT N ps (aa st))
 (hb:∀ f aU A outer s H H0 as E,bf k (A.deeper<|envOfC x (aa st) s.heap.objs.size f aU) ->
  ρ' (dG iC P w K mg base N x (aa st) f aU A outer s H E).fQ H0 (Z.gy 0 bs) as (az st) b):se P w K mg base x (k+1) ps bs N.length (Z.zM (Z.gy 0 bs) bs N.length b):=by
 let(f,fd,F,hm,v!):=d.ex;show(f,fd,W8 kA F S<|hb f,hm,F.kp,v!,)
def vX.mk'{st:θ}(kA:bs.n=ps.n)(d:E3 K m qual st ps)(S:aT N ps (aa st))
 (hb:∀ f aU A outer s H H0 as E,bf k (A.deeper<|envOfC qual (aa st) s.heap.objs.size f aU) ->
  ρ' (dG iC P w K mg base N qual (aa st) f aU A outer s H E).fQ H0 (Z.gy 0 bs) as (az st) b):vX P w K mg base m (k+1) ps bs N.length (Z.zM (Z.gy 0 bs) bs N.length b):=by
 let(C,f,fd,hC,hm,F,v!):=d.ex;show(C,f,fd,hC,hm,W8 kA F S<|hb f,v!,)
end
section
variable{X:Cx}
def ZQ.Qu(h:ZQ.QE X e f):ZQ.sO X H0 ms as e (Z.mP f):=⟨PE.imp h.p <|by rintro O H Q ⟨Y,d,Y',rm,e,k⟩;let(x,ea,e):=ce e;ext e;show(Y,d,rm.rs.re,ea,λ v H1 s1 d1=>k v H1 (vS.of s1) (rm.up s1) d1,)⟩
def Cw{K:FS}(rm:RM K H0 ms as H O Y)(hs:∀i∈is,i∈ms)(nd:is.Nodup)(d1:iN K H bs ds vs)(hth:Z.xv bs ds=Z.c8 is Y)(er:fn ds=.ok r)
 (k:∀v H',vS as H H'->RM K H0 ms as H' O (Z.dH is r.2 Y)->Den K H' r.1 v->Q v H'):Ti K (Z.gy 0 bs) bs n fn vs H Q E:=by
 let(sN,p,n',sub):=rm.pick hs nd;let p2:Paired (λ(d)(a)=>∃kd ks vs,d=Z.gx a kd ks vs) (Z.xv bs ds) sN:=by
  rw[hth];let key:∀{l}{m},Paired (Za Y) l m->Paired (λ(d)(a)=>∃kd ks vs,d=Z.gx a kd ks vs) (Z.c8 l Y) m:=by
   intro l m q
   induction q with
   |nil=>show .nil
   |cons r t ih=>let(kd,ks,vs,hi):=r;show .cons ⟨kd,ks,vs,by change Z.thA _=_;rw[hi];rfl⟩ ih
  show key p
 let(hl1,Rh):=d1.n;let st:=uf 0 Rh p2;show(ds,sN,r.1,r.2,d1,n',c! st λ i _ a ⟨kd,ks,vs,_,q⟩=>(kd,ks,vs,?_,),?_,er,λ v H' s2 th dv=>?_,)
 .rw[Nat.sub_zero]at q;unfold Z.startB;rw[A37 (A09.mp q).1];show q
 .exact FU (zp 0 bs ds _ λ i h=>h)<|sZ _ _
 .let(m1,Du):=rm.call hs nd p sub s2 th;show k v H' m1 Du dv
theorem ZQ.zz(C:se X.prog X.w X.K X.mg X.base x k ps bs n fn)(hr:bf k X.A)(hg:Gl X x)(hs:∀i∈is,i∈ms)(nd:is.Nodup)
 (ha:ZQ.JE X (e::es) bs ar) (fG:Nd x:=by kernel_rfl) (he:Se e es X.J:=by rfl) (dX:Pn pos es X.J:=by rfl) :
 ZQ.sO X H0 ms as (.Call (.Name x p1) (e::es) [] pos) (Z.cO fn bs is ar):=⟨by
 let(g,fd,F,hm,hk,hb):=C.ex;show PE.imp (pK F hr hg hm hk hb .nil nJ ha.p fG he dX) ?_;rintro O H Q ⟨Y,d,Y',rm,e,k⟩;let(ds,ea,e):=ce e;let(hth,e):=Z.bO e;let(r,er,e):=ce e;let(ψ,e):=Z.bO e;ext e;show(Y,ds,rm.rs.re,ea,λ vs H1 s1 d1=>?_,);change Ti X.K _ bs n fn _ H1 Q E0;rw[A51];show Cw (rm.up s1) hs nd d1 hth er λ v H' m1 Du dv=>k v H' ((vS.of s1).trans m1) Du dv⟩
theorem ZQ.zw(C:vX X.prog X.w X.K X.mg X.base m k ps (Da::bs) n fn)(hr:bf k X.A)(ho:ZQ.QM X 0 o fo)(hf:Dn m)(hs:∀i∈is,i∈ms)(nd:is.Nodup)(ha:ZQ.JE X (e::es) bs ar)
 (pZ:Se e es X.J:=by rfl) (dX:Pn pos es X.J:=by rfl)
 (ht:Mt o m apos (e::es) pos pl X.J:=by rfl) :
 ZQ.sO X H0 ms as (.Call (.Attribute o m apos) (e::es) [] pos) (Z.cO fn (Da::bs) is<|Z.ae fo ar):=⟨by
 let(C,g,fd,hC,hm,F,hb):=C.ex;show PE.imp (FI ho.p hC.2 hm F hr hb .nil nJ ha.p pZ dX ht) ?_;rintro O H Q ⟨Y,d,Y',rm,e,k⟩;let(ds,ea,e):=ce e;let(hth,e):=Z.bO e;let(r,er,e):=ce e;let(ψ,e):=Z.bO e;ext e;let(x,ex,ea):=ce ea;let(xs,en,ea):=ce ea;ext ea;show(Y,x,rm.rs.re,ex,λ v H1 s1 d1=>?_,);let(a,ks,ds,u,rfl,rfl,q,t):=id d1;rcases t with⟨_,hk,C',dx,fs,rfl,Ge,h3,h4⟩|⟨z,_⟩
 .let:=Ge.1.symm.trans hC.1;ext this;rw[hk]at h3;show(a,dx,fs,rfl,q,mT h3 hf,Y,xs,rm.rs.re.up s1,en,λ vs H2 s2 d2=>?_,);change Ti X.K (Z.gy 0<|true::bs) (Da::bs) n fn (.ref a::(vs++[])) H2 Q E0;rw[A51];show Cw ((rm.up s1).up s2) hs nd (ds:=Z.gx a 0 ks ds::xs) ⟨_,_,rfl,(d1.up s2).b,d2⟩ hth er λ v H' m1 Du dv=>k v H' (((vS.of s1).trans<|vS.of s2).trans m1) Du dv
 .ext z⟩
def VZ(hz:GQ X.K r o):∀O H Q,UZ X.K H0 ms as (Z.mB o fa fb) O H Q->OS r (UZ X.K H0 ms as fa) (UZ X.K H0 ms as fb) O H Q:=by rintro O H Q ⟨Y,d,Y',rm,e,k⟩;let((x,Y1),ea,e):=ce e;let((y,Y2),eb,e):=ce e;let(z,eo,e):=ce e;ext e;show(Y,x,Y1,rm,ea,λ v H1 m1 lM d1=>(Y1,y,Y2,lM,eb,λ u H2 m2 Du d2=>hz _ _ _ _ _ H2 Q (.inl<|d1.ups<|lM.jR m2) (.inl d2) eo λ w H' s3 dw=>k w H' ((m1.trans m2).trans<|vS.of s3) (Du.up s3) dw,),)
def ZQ.zx(h:Au X op o)(ha:ZQ.sO X H0 ms as a fa)(hb:ZQ.sO X H0 ms as b fb)(hm:behindInMarks op b=AT):ZQ.sO X H0 ms as (.Compare a [op] [b] pos) (Z.mB o fa fb):=
 ⟨by let(_,hr,hz):=h.ex;show PE.imp (pJ hr ha.p hb.p hm)<|VZ hz⟩
def _J(h:PT X e (Fp t))(k:∀O H Q,UZ X.K H0 ms as fa O H Q->t O H Q):MT X H0 ms as e (Z._K fa):=PT.imp h <|by
 rintro O H Q ⟨Y,b,Y',rm,e,q⟩;let((x,Y1),ea,e):=ce e;show k O H _ ⟨Y,x,Y1,rm,ea,λ v H' m lM d=>?_⟩;dsimp only at e;split at e
 .ext e;erw[Den]at d;show(_,d,q H' m lM,)
 .ext e
def ZQ.FZ(h:Au X op o)(ha:ZQ.sO X H0 ms as a fa)(hb:ZQ.sO X H0 ms as b fb)(hm:behindInMarks op b=AT):ZQ.Y6 X H0 ms as (.Compare a [op] [b] pos) (Z._K<|Z.mB o fa fb):=
 ⟨by let(_,hr,hz):=h.ex;show _J (sW hr ha.p hb.p hm)<|VZ hz⟩
def ZQ.Lw(h:ZQ.sO X H0 ms as a fa):ZQ.sO X H0 ms as (.BoolOp op [a] pos) fa:=⟨KJ h.p⟩
def ZQ.Lx{rest:U η}(ha:ZQ.sO X H0 ms as a fa)(hb:ZQ.sO X H0 ms as (.BoolOp .And (b::rest) pos) fb):ZQ.sO X H0 ms as (.BoolOp .And (a::b::rest) pos) (Z.V! fa fb):=⟨PE.imp (KU ha.p hb.p) <|by
 rintro O H Q ⟨Y,d,Y',rm,e,k⟩;let((x,Y1),ea,e):=ce e;show(Y,x,Y1,rm,ea,λ v H1 m1 lM d1=>?_,);dsimp only at e;split at e
 .rename_i q;erw[Den]at d1;show(q,d1,?_,);cases q with
  |true=>erw[A28]at e ⊢;show(Y1,d,Y',lM,e,λ w H' m2 Du dw=>k w H' (m1.trans m2) Du dw,)
  |false=>erw[A46]at e ⊢;ext e;show k _ H1 m1 lM cx
 .ext e⟩
def ZQ.V1(h:ZQ.QT X e t):ZQ.Y6 X H0 ms as e (Z.qw t):=⟨PT.imp h.p <|by rintro O H Q ⟨Y,d,Y',rm,e,k⟩;let(x,ea,e):=ce e;ext e;show(Y,d,rm.rs.re,ea,λ H1 s1=>k H1 (vS.of s1)<|rm.up s1,)⟩
def ZQ.Lm(h:ZQ.Y6 X H0 ms as a ta):ZQ.S0 X H0 ms as (.BoolOp .Or [a] pos) ta:=⟨pw_or1 h.p⟩
def ZQ.TQ{rest:U η}(ha:ZQ.Y6 X H0 ms as a ta)(hb:ZQ.S0 X H0 ms as (.BoolOp .Or (b::rest) pos) tb):ZQ.S0 X H0 ms as (.BoolOp .Or (a::b::rest) pos) (Z.Qn ta tb):=⟨PW.imp (pw_or ha.p hb.p) <|by
 rintro O H Q ⟨Y,d,Y',rm,e,k⟩;let((x,Y1),ea,e):=ce e;show(Y,x,Y1,rm,ea,λ H1 m1 lM=>?_,);dsimp only at e;cases x with
 |false=>erw[A46]at e ⊢;show(Y1,d,Y',lM,e,λ H' m2 Du=>k H' (m1.trans m2) Du,)
 |true=>erw[A28]at e ⊢;ext e;show k H1 m1 lM⟩
def ZQ.mtw(h:ZQ.S0 X H0 ms as e ta):ZQ.Y6 X H0 ms as e ta:=⟨h.p.pt⟩
end
section
variable{K:Db}
def RM.Dp(h:RM K H0 ms as H O Y)(hd:Den K H d v)(hi:i∉ms):RM K H0 ms as H (O.set i<|some v) (Y.set i<|some<|.val d):=by
 show(h.rs.Dp hd,c! h.at_ λ j hj a ⟨kd,ks,vs,q⟩=>(kd,ks,vs,?_,),oA λ j x e t=>?_,h.nd,h.h0,)
 .rw[A24 λ z=>hi (by rw[z];show hj)];show q
 .by_cases rQ:i=j
  .subst rQ;by_cases hl:i<Y.n
   .rw[A31 hl]at e;ext e;show t.elim
   .rw[B33 (by calc hl)]at e;ext e
  .rw[A24 rQ]at e;show gE h.no e t
end
section
variable{st:θ}
def ZQ.zt:ZQ.lV X H0 ms as [] Z.gi:=⟨rq.imp FD <|by rintro D O H ⟨Y,fl,rm,e,k⟩;ext e;show k O H (gV.refl H) rm⟩
def ZQ.V4:ZQ.NI X H0 ms as st (λ _=>.bad):=⟨by rintro _ _ _ _ _ _ ⟨_,_,_,e,_⟩;show nomatch e⟩
theorem ZQ.Lo(hN:X.N.Nodup)(hi:X.N[i]?=AC x)(hx:Loc X.env.scope x)(hm:i∉ms)(he:ZQ.sO X H0 ms as a fa)(hs:Sn a x pos' pos X.J:=by rfl)(hf:Fl X x:=by trivial):
 ZQ.NI X H0 ms as (.Assign [.Name x pos'] a pos) (Z.wI i fa):=⟨PS.imp (ma hN hi hx he.p hs hf) <|by
 rintro D O H ⟨Y,fl,rm,e,k⟩;let((d,Y'),ea,e):=ce e;ext e;show(Y,d,Y',rm,ea,λ v H' m lM dv=>k _ H' (rm.jR m)<|lM.Dp dv hm,)⟩
def ZQ.Qo(h:ZQ.sO X H0 ms as a fa)(hs:swapsWith a Ch pos.line X.J=pure AT:=by rfl):ZQ.NI X H0 ms as (.Expr a pos) (Z.Bz fa):=⟨PS.imp (pG h.p hs) <|by rintro D O H ⟨Y,fl,rm,e,k⟩;let((d,Y'),ea,e):=ce e;ext e;show(Y,d,Y',rm,ea,λ v H' m lM dv=>k O H' (rm.jR m) lM,)⟩
def ZQ.Lp(h:ZQ.sO X H0 ms as a fa):ZQ.NI X H0 ms as (.Return (AC a) pos) (Z.qU ms fa):=⟨PS.imp (Dx h.p) <|by rintro D O H ⟨Y,fl,rm,e,k⟩;let((d,Y'),ea,e):=ce e;ext e;show(Y,d,Y',rm,ea,λ v H' m lM dv=>k v H' lM.same lM.ths dv,)⟩
def ZQ.Lq(hc:ZQ.Y6 X H0 ms as c t)(h1:ZQ.lV X H0 ms as b1 g)(h2:ZQ.lV X H0 ms as b2 u):ZQ.NI X H0 ms as (.If c b1 b2 pos) (Z.gR t g u):=⟨PS.imp (FE hc.p h1.p h2.p) <|by
 rintro D O H ⟨Y,fl,rm,e,k⟩;let((x,Y1),ea,e):=ce e;show(Y,x,Y1,rm,ea,λ H1 m1 lM=>?_,);dsimp only at e;cases x with
 |true=>erw[A28]at e ⊢;show(Y1,fl,lM,e,k.up<|rm.jR m1,)
 |false=>erw[A46]at e ⊢;show(Y1,fl,lM,e,k.up<|rm.jR m1,)⟩
def tMG(K:Db)(H0:Hp)(ms:U Nat)(as:U δ)(g:Z.GF):TG:=λ v O H Q=>∃Y d Y',RM K H0 ms as H O Y/\Den K H d v/\g d Y=.ok Y'/\Z.bI ms Y Y'/\∀O' H',gV H H'->RM K H0 ms as H' O' Y'->Q O' H'
def Qs(h:∀H1,DG X H1 tg G):PG X tg (tMG X.K H0 ms as G):=by intro B s O H v u Q I r w;let(Y,d,Y',rm,hd,e,kt,k):=w;show h _ B s O H v u Q I r ⟨Y,d,Y',rm.ovR,hd,e,λ O' H' s r'=>k O' H' (jR s)<|rm.back kt r'⟩
def ZQ.Lr(hp:PassesOwn (model X.prog X.w) X.A X.env X.xe)(hc:X.calm=Da)(hi:ZQ.QJ X tg iter it)(hg:∀H1,ZQ.QG X H1 tg G)(hb:ZQ.lV X H0 ms as body g)
 (hs:Fi iter X.J:=by intro _;rfl):ZQ.NI X H0 ms as (.For tg iter body [] pos) (Z.V' ms it G g):=⟨have hg:=λ H1=>(hg H1).p;PS.imp (Kw hp hc hi.p (Qs hg) hb.p hs) <|by
 rintro D O H ⟨Y,fl,rm,e,k⟩;let(ds,ei,e):=ce e;show(Y,ds,rm.rs.re,ei,λ J H1 s1 z=>?_,);show(λ i m O' H'=>m=ds.n-i/\i<=ds.n/\∃Y',RM X.K H0 ms as H' O' Y'/\gV H1 H'/\Z.iH ms G g (ds.drop i) Y'=.ok fl,⟨ds.n,by simp,A48 _,Y,rm.up s1,gV.refl H1,by calc e⟩,?_,);rintro i m O2 H2 ⟨rfl,BO,Y2,r2,s2,e2⟩;by_cases j?:i<ds.n
 .obtain⟨d,hd⟩:∃d,ds[i]?=AC d:=⟨ds[i],by simp[j?]⟩
  let uW:ds.drop i=d::ds.drop (i+1):=by
   rw[A99 j?];let:ds[i]=d:=by let:=A05 j?;rw[this]at hd;show f8 hd
   rw[this]
  rw[uW]at e2;let(Y3,eg,e2):=ce e2;let(kt,e2):=Z.bO e2;let(f3,eb,e2):=ce e2;show .inr ⟨z.go i d H2 s2 hd,λ O' H'=>∃Y',RM X.K H0 ms as H' O' Y'/\gV H1 H'/\Z.iH ms G g _ Y'=.ok fl,λ O' H' w=>⟨_,by lia,rfl,j?,w⟩,λ x H3 y=>?_⟩;let(sy,dx):=z.CH i d H2 H3 x s2 hd y;replace s2:=s2.trans<|jR sy;show(Y2,d,Y3,r2.up sy,dx,eg,kt,λ σ4 H4 s4 r4=>(Y3,f3,r4,eb,?_,),);cases f3 with
  |nx ρ5=>show λ O5 H5 s5 r5=>(ρ5,r5,(s2.trans s4).trans s5,e2,)
  |rt d5 ts5=>ext e2;show k
 .let:i=ds.n:=by lia
  subst this;rw[B58]at e2;ext e2;show .inl ⟨z.stop H2 s2,k O2 H2 ((jR s1).trans s2) r2⟩⟩
theorem ZQ.IL{rest:U θ}(C:E6 X.prog X.w X.K X.mg X.base k ps n fn)(hr:bf (k+1) X.A)(hg:Gl X "Desk")(hN:X.N.Nodup)(hi:X.N[i]?=AC y)(hy:Loc X.env.scope y)
 (he:ZQ.QE X e fe) (mj:∀H1 as,ZQ.lV X H1 [i] as rest r) (hs:swapsWith (.Call (.Name "Desk" p1) [e] [] k!) (AC<|.Name y pos') pos.line X.J=pure AT:=by rfl) (hf:X.fn y=Da\/X.env.scope.names.lookup y=AC .local:=by first| show .inl rfl| show .inr rfl| assumption)
 (h1:Se e [] X.J:=by rfl) (dX:Pn k! [] X.J:=by rfl) :
 ZQ.yx X H0 (.Assign [.Name y pos'] (.Call (.Name "Desk" p1) [e] [] k!) pos::rest) (Z.y7 i fn fe r):=⟨by
 let mj:=λ H1 as=>(mj H1 as).p;let(C,f,fd,hC,M,F,hb):=C.ex;intro B s O H D I w;let hm:=A21 (mg:=X.mg) (h:=s.e) I.jw (I.mod.glob.keeps I.bk) hC.1;let hR:rq X rest (λ D O H=>∃H1 as,tM X.K H1 [i] as r D O H):=by rintro B s O H D I ⟨H1,as,w⟩;show mj H1 as B s O H D I w
 let(Y,fl,rs,e,k):=w;let(d,ed,e):=ce e;let(fs,ef,e):=ce e;let(JA,e):=Z.bO e;let ef:=Z.By ef;let(dr,rfl,er):=Z.SN e;let BO:i<Y.n:=by rw[rs.re.len,I.len];show(A09.mp hi).1
 show j7 (ma hN hi hy (FJ M F hr hg hm hb .nil nJ (aM he.p bH h1) (by decide +kernel) h1 dX) hs hf) hR B s O H D I ?_;show(Y,d,rs.re,ed,λ v H1 s1 dv x dx hx Oe ne=>?_,);let sm:=xU (C:=C) hx Oe;show⟨[Z.gx x 0 [] [],d],[x],.non,[Z.gx x 0 Z.cb fs],(_,_,rfl,F0 hC,_,_,rfl,Den.up dv sm,rfl,),by simp,.cons ⟨0,[],[],rfl⟩ .nil,⟨λ _=>by simp,λ z=>z.elim,sZ _ _⟩,ef x,λ v' H' s2 th dn=>?_⟩;show⟨by simpa only[Den]using dn,?_⟩;let nx:H x=Ch:=by
  cases q:H x with
  |none=>rfl
  |some o=>rw[s1 _ _ q]at hx;ext hx
 let s3:av H H':=λ b o q=>s2 b o (by let hb:b≠x:=aR q nx;change(if b∈[x]then Ch else _)=_;rw[W1 (by calc hb)];show sm _ _<|s1 _ _ q)
 let n0:H0 x=Ch:=by
  cases e:H0 x with
  |none=>rfl
  |some o=>rw[rs.same _ _ e]at nx;ext nx
 cases th with
 |cons r0 _=>
  let(kd,ks,vs,u,e1,hu,t):=r0;let(_,rfl,rfl,rfl):=mL e1;let rs2:=rs.wA (i:=i) nx s3 hu t BO;let hov:over H0 H' [x]=upd H0 x u:=by
   funext b
   by_cases hb:b=x
   .subst hb;rw[cy ∅,aA];show hu
   .rw[cN (by calc hb),ak hb]
  let rm:RM X.K H0 [i] [x] H' (O.set i<|some<|.ref x) (Y.set i<|some<|.bor<|Z.gx x 0 Z.cb fs):=by
   show⟨by rw[hov];show rs2,.cons ⟨0,Z.cb,fs,A31 BO⟩ .nil,oA λ j y e t=>?_,by simp,λ a ha=>by rw[A11.mp ha];show n0⟩;by_cases rQ:i=j
   .subst rQ;simp
   .rw[A24 rQ]at e;let:=gE JA (i:=j) (x:=y) (by rw[A24 rQ];show e) t;show this
  let er:=er x;let(fl2,e3,er):=ce er;cases fl2 with
  |nx Y'=>ext er
  |rt d2 ts=>ext er;show(H0,[x],_,.rt dr ts,rm,e3,λ v Uv s4 _ d4=>k v Uv s4 d4,)⟩
end
def E9{K:Frag}(h:(⟨c.q⟩)=x)(w:nsIn K mainGlobals x=AC (AC<|.ref C))(q:GY K C=Da):XC K c C:=⟨by rw[h];show w,q⟩
end ZS
namespace ZQ
open L2 ZS PySem.W
section
variable{K:Db}
def Sv{st:θ}(kA:bs.n=ps.n)(d:E3 K m qual st ps)(hb:∀{f}{aU}{A}{outer}{s}{H H0}{as}{E},N.Nodup->(A.deeper<|envOfC qual (aa st) s.heap.objs.size f aU).units+64<cLine->bf k (A.deeper<|envOfC qual (aa st) s.heap.objs.size f aU)->lV (dG iC P w K mg base N qual (aa st) f aU A outer s H E).fQ H0 (Z.gy 0 bs) as (az st) b)(S:aT N ps (aa st):=by show ZS.B1):vX P w K mg base m (k+1) ps bs N.length (Z.zM (Z.gy 0 bs) bs N.length b):=vX.mk' kA d S λ f aU A outer s H H0 as E hr=>(hb S.nd hr.units hr).p
def GC{st:θ}(kA:bs.n=ps.n)(d:Def K mg x st ps)(hb:∀{f}{aU}{A}{outer}{s}{H H0}{as}{E},N.Nodup->(A.deeper<|envOfC x (aa st) s.heap.objs.size f aU).units+64<cLine->bf k (A.deeper<|envOfC x (aa st) s.heap.objs.size f aU)->lV (dG iC P w K mg base N x (aa st) f aU A outer s H E).fQ H0 (Z.gy 0 bs) as (az st) b)(S:aT N ps (aa st):=by show ZS.B1):se P w K mg base x (k+1) ps bs N.length (Z.zM (Z.gy 0 bs) bs N.length b):=se.mk' kA d S λ f aU A outer s H H0 as E hr=>(hb S.nd hr.units hr).p
end
end ZQ
namespace ZS
open L2 PySem.W
def Ta:ζ->ε (U Nat)
|.str ⟨cs⟩ _=>AC cs.y
|_=>Ch
def yO:U ζ->ε (U<|U Nat)
|[]=>AC []
|u::us=>match Ta u,yO us with
 |some c,AC r=>AC<|c::r
 |_,_=>Ch
def OQ(K:Frag)(a:δ):ε (U<|U Nat):=match K.lookup a with
|some o=>match o.cls==.type "tuple" && o.dict.isNone&&o.slots.isEmpty,o.data with
 |true,.seq a6 _=>if a6.u<=1000 then yO a6.y else Ch
 |_,_=>Ch
|none=>Ch
def Fb:∀{us}{ts},yO us=AC ts->Vals (ts.map λ cs=>V.str ⟨cs.q⟩) us
|[],ts,h=>by ext h;show .nil
|u::us,ts,h=>by
 unfold yO at h;split at h
 .rename_i c r e1 e2;ext h;show .cons ?_<|Fb e2;unfold Ta at e1;split at e1
  .rename_i cs t;ext e1;show⟨t,by simp⟩
  .ext e1
 .ext h
def M0{K:Frag}(h:OQ K a=AC ts):Den K H (.tup<|ts.map .str) (.ref a):=by
 unfold OQ at h;split at h
 .rename_i o e;split at h
  .rename_i a6 n e1 e2;split at h
   .rename_i hz;erw[A60,A40]at e1;let z1:=Option.isNone_iff_eq_none.mp e1.1.2;let z2:=Array.isEmpty_iff.mp e1.2;let dd:∀l:U _,au K H (l.map .str) (l.map λ cs=>V.str ⟨cs.q⟩):=by
     intro l
     induction l with
     |nil=>simp[au]
     |cons c l ih=>erw[A06];show(_,_,rfl,ee,ih,)
    erw[Den];show(a,_,rfl,.inr ⟨o,a6,n,e,e1.1.1,by first|show e2|show(e2,z1,z2,),A14 hz ∅,Fb h⟩,dd ts,)
   .ext h
  .ext h
 .ext h
def ZQ.M7(hg:Gl X x)(hm:X.mg x=AC (.ref a))(hk:OQ X.K a=AC ts)(hb:Nd x:=by kernel_rfl):ZQ.QE X (.Name x pos) (Z.eC<|.tup<|ts.map .str):=⟨EI (za (v:=.ref a) hg hm rfl hb) λ _=>M0 hk⟩
end ZS
namespace Z
def YV(f:U Nat->ε Bool)(i:Nat)(h:SM)(r:XN->SM)(c:XN)(Y:Env):Res yy:=match f c.1 with
|some Da=>(h<|Y.set i<|some<|.exc c).bind λ fl=>match fl with
 |.nx Y'=>.ok<|.nx<|Y'.set i Ch
 |.rt d ts=>.ok<|.rt d ts
|some AT=>r c Y
|none=>.bad
def YS(f:U Nat->ε Bool)(h:SM)(r:XN->SM)(c:XN)(Y:Env):Res yy:=match f c.1 with
|some Da=>h Y
|some AT=>r c Y
|none=>.bad
def hNo(_:XN)(_:Env):Res yy:=.bad
def BL(l:U (U Nat×Bool))(c:U Nat):ε Bool:=l.lookup c
def D6(b:SM)(xb:XF)(hs:XN->SM)(Y:Env):Res yy:=match xb Y with
|some c=>hs c Y
|none=>b Y
end Z
namespace ZS
open L2 PySem.W
def Jq(K:Frag)(l:U (U Nat×Bool))(D:δ):Prop:=∀p∈l,∃C,nsIn K mainGlobals ⟨p.1.toArray⟩=AC (AC<|.ref C)/\mroIn K C (.ref D)=AC p.2
def pA{K:Frag}:Jq K [] D:=λ _ h=>nomatch h
def c6{K:Frag}(h1:nsIn K mainGlobals ⟨c.q⟩=AC (AC<|.ref C))(h2:mroIn K C (.ref D)=AC b)(t:Jq K l D):Jq K ((c,b)::l) D:=λ p hp=>by
 rcases A01.mp hp with rfl|hp
 .exact⟨C,h1,h2⟩
 .exact t p hp
def sR{K:Frag}(h:Jq K l D)(e:l.lookup c=AC b)(xc:XC K c C):mroIn K C (.ref D)=AC b:=by
 let hm:(c,b)∈l:=by
  clear h
  induction l with
  |nil=>ext e
  |cons p l ih=>
   rw[A61]at e;by_cases z:c=p.1
   .rw[A40.mpr z]at e;ext e;subst z;show .head _
   .rw[A57.mpr z]at e;show .tail _<|ih e
 let(C',h1,h2):=h _ hm;let:=h1.symm.trans xc.1;ext this;show h2
def Rz{K:Frag}(X:K.In s.e)(xd:XC K c D)(he:s.heap.get? e=AC oe)(hc:oe.cls=.ref C)(hm:mroIn K C (.ref D)=AC b)(hq:Q b s):
 Ev M A (excMatches (.ref e)<|.ref D) Q E s:=by
 let(tl,ns,nm,qn,bs,hd,sn,sub,ab,col,Ui,s0',s1',s2',s3',s5',hC,kA):=agr X xd;let(h,g,d,t,os):=s;let hcB:(Value.ref D::tl).contains (.type "BaseException")=Da:=by rw[C24,kA,C25]
 let L:=looks_mroIn (M:=M) X hm;let f:=tc_notTuple;ext b<;>(repeat (first|(with_reducible show B05 he ?_;rw[hc])|with_reducible show B05 hC ?_|(with_reducible show C26 hC ?_;rw[hcB])|with_reducible show L.at ?_|wp_step))<;>show hq
section
variable{K:Frag}
def RM.Ke(h:RM K H0 ms as H O Y)(hi:i∉ms)(r:RS K (over H0 H as) H (O.set i v) (Y.set i l))(hl:¬Z.lW l):RM K H0 ms as H (O.set i v) (Y.set i l):=by
 show(r,c! h.at_ λ j hj a ⟨kd,ks,vs,q⟩=>(kd,ks,vs,?_,),oA λ j x e t=>?_,h.nd,h.h0,)
 .rw[A24 λ z=>hi (by rw[z];show hj)];show q
 .by_cases rQ:i=j
  .subst rQ;by_cases hl:i<Y.n
   .rw[A31 hl]at e;ext e;show absurd t ‹_›
   .rw[B33 (by calc hl)]at e;ext e
  .rw[A24 rQ]at e;show gE h.no e t
end
structure ZQ.Y7(X:Cx)(H0:Hp)(ms:List Nat)(as:List Addr)(hs:List ExceptHandler)(g:Z.XN->Z.SM):Prop where
 p:∀(ex C:Addr)(dd:Option Addr)(c:Z.XN)(l:Bool)(B:List (Addr×Obj))(s:Shared)(O:St)(H:Hp)(D:Ends),Y? X B O H s ex C dd l->xm X.K H c C dd->tM X.K H0 ms as (g c) D O H->Ev (model X.prog X.w) X.A (handleBy (.ref ex) X.env hs) (SP X B D) X.xe s
def ZQ._M:ZQ.Y7 X H0 ms as [] Z.hNo:=⟨by rintro _ _ _ _ _ _ _ _ _ _ _ _ ⟨_,_,_,e,_⟩;show nomatch e⟩
theorem ZQ.TU{rest:U ExceptHandler}(hN:X.N.Nodup)(hi:X.N[i]?=AC n)(hl:X.env.scope.names.lookup n=AC .local)(him:i∉ms)(hg:Gl X x)(hm:X.mg x=AC (.ref D0))(xd:XC X.K c0 D0)(BP:Jq X.K l D0)
 (hh:∀ev,ZQ.lV (Mc X ev).fQ H0 ms as (b0::J') h) (hr:ZQ.Y7 X H0 ms as rest r) (fG:Nd x:=by kernel_rfl) :
 ZQ.Y7 X H0 ms as (.ExceptHandler (AC<|.Name x np) (AC n) (b0::J') aeZ::rest) (Z.YV (Z.BL l) i h r):=⟨by
 rintro ex C dd c lb B s O H D c3 xr ⟨Y,fl,rm,e,k⟩;let hh:=λ ev=>(hh ev).p;let(oe,vs,_,_,_,he,j_,_):=c3.ex;show wpAny_handleBy_cons (codeAny_handlers_test<|BC c3.inv hg hm ?_ fG) (by intro q;ext q);unfold Z.YV at e;split at e
 .rename_i ef;show Rz c3.inv.jw xd he j_ (sR BP ef xr.1) ?_;show codeAny_handlers_suite_as<|land c3 λ s4 c4=>?_;let(oe4,u4,afH,afA,afC,fe,I4):=c4.Zt;show pB I4 hN hi (.inl hl) (show RelV (.ref ex) (.ref ex)from rfl) (λ s5 I5=>?_)<|.inr hl;let Hm:av H (upd H ex<|.eu oe4 u4):=bE fe;let lM:=rm.up Hm;let rm5:=lM.Ke him (lM.rs.adT ⟨ex,oe4,u4,C,rfl,aA,afH,afC,by rw[afA];show xr.ups<|jR Hm⟩) λ z=>z;let(f1,e1,e2):=ce e;cases f1 with
  |nx Y'=>
   ext e2;show A20 (hh (.ref ex) B s5 _ _ {nx:=λ O' H2=>D.nx (O'.set i Ch) H2,rt:=λ _ _=>False} (zF I5 _) ⟨_,.nx Y',rm5,e1,λ O' H2 st ZT=>k (O'.set i Ch) H2 ((jR Hm).trans st)<|ZT.Ke him ZT.rs.U4 λ z=>z⟩) (λ f s6 q=>?_) λ _ _ z=>z.elim;cases f with
   |next=>let(O',H2,I6,q):=q;show name_goes hN hi hl (g9 c3.inv.ok I6) λ s7 I7=>(_,H2,I7,q,)
   |brk=>let(_,_,_,z):=q;show z.elim
   |cont=>let(_,_,_,z):=q;show z.elim
   |ret u=>let(_,_,_,_,_,z):=q;show z.elim
  |rt d ts=>
   ext e2;show A20 (hh (.ref ex) B s5 _ _ {nx:=λ _ _=>False,rt:=D.rt} (zF I5 _) ⟨_,.rt d ts,rm5,e1,k⟩) (λ f s6 q=>?_) λ _ _ z=>z.elim;cases f with
   |next=>let(_,_,_,z):=q;show z.elim
   |brk=>let(_,_,_,z):=q;show z.elim
   |cont=>let(_,_,_,z):=q;show z.elim
   |ret u=>let(v,O',H2,I6,rv,q):=q;show name_goes hN hi hl (g9 c3.inv.ok I6) λ s7 I7=>(v,_,H2,I7,rv,q,)
 .rename_i ef;show Rz c3.inv.jw xd he j_ (sR BP ef xr.1)<|hr.p ex C dd c lb B s O H D c3 xr ⟨Y,fl,rm,e,k⟩
 .ext e⟩
theorem ZQ.TR{rest:U ExceptHandler}(hg:Gl X x)(hm:X.mg x=AC (.ref D0))(xd:XC X.K c0 D0)(BP:Jq X.K l D0)
 (hh:∀ev,ZQ.lV (Mc X ev).fQ H0 ms as (b0::J') h) (hr:ZQ.Y7 X H0 ms as rest r) (fG:Nd x:=by kernel_rfl) :
 ZQ.Y7 X H0 ms as (.ExceptHandler (AC<|.Name x np) Ch (b0::J') aeZ::rest) (Z.YS (Z.BL l) h r):=⟨by
 rintro ex C dd c lb B s O H D c3 xr ⟨Y,fl,rm,e,k⟩;let hh:=λ ev=>(hh ev).p;let(oe,vs,_,_,_,he,j_,_):=c3.ex;show wpAny_handleBy_cons (codeAny_handlers_test<|BC c3.inv hg hm ?_ fG) (by intro q;ext q);unfold Z.YS at e;split at e
 .rename_i ef;show Rz c3.inv.jw xd he j_ (sR BP ef xr.1) ?_;show codeAny_handlers_suite<|land c3 λ s4 c4=>?_;show A20 (hh (.ref ex) B s4 O H D (zF c4.inv _) ⟨Y,fl,rm,e,k⟩) (λ f s6 q=>?_) λ _ _ z=>z.elim;cases f with
  |next=>let(O',H2,I6,q):=q;show(_,H2,g9 c3.inv.ok I6,q,)
  |brk=>let(O',H2,I6,q):=q;show(_,H2,g9 c3.inv.ok I6,q,)
  |cont=>let(O',H2,I6,q):=q;show(_,H2,g9 c3.inv.ok I6,q,)
  |ret u=>let(v,O',H2,I6,rv,q):=q;show(v,_,H2,g9 c3.inv.ok I6,rv,q,)
 .rename_i ef;show Rz c3.inv.jw xd he j_ (sR BP ef xr.1)<|hr.p ex C dd c lb B s O H D c3 xr ⟨Y,fl,rm,e,k⟩
 .ext e⟩
def ZQ.V2(hex:X.ex=[])(pZ:X.stack=X.J::X.outer)(Oc:X.J.frame=AC X.J.i)
 (hb:ZQ.lV X.fQ H0 ms as body b) (hxb:∀pn E,ZQ.SX (Hg X pn E) body xb) (hh:ZQ.Y7 X H0 ms as (h0::hs) g):ZQ.NI X H0 ms as (.Try body (h0::hs) [] [] pos) (Z.D6 b xb g):=⟨by
 let hb:=hb.p;let hxb:=λ pn E=>(hxb pn E).p;rintro B s O H D I ⟨Y,fl,rm,e,k⟩;show wpAny_Try_except ?_;unfold Z.D6 at e;split at e
 .rename_i c ec;show A20 (hxb (X.pn++B) _ [] s O H {nx:=λ _ _=>False,rt:=λ _ _=>False} (Q6 I _) ⟨Y,c,rm.rs.re,ec,λ nI H' s' ex C dd sm xr J1 th1=>?_⟩) (λ f s1 q=>?_) λ _ _ z=>z;rotate_left
  .cases f with
   |next=>let(_,_,_,z):=q;show z.elim
   |brk=>let(_,_,_,z):=q;show z.elim
   |cont=>let(_,_,_,z):=q;show z.elim
   |ret u=>let(_,_,_,_,_,z):=q;show z.elim
  show Bm hex pZ Oc (Ee I.ok J1) (Dd th1) λ s2 c2=>land c2 λ s3 c3=>hh.p ex C dd c Da B s3 O H' D c3 xr ⟨Y,fl,rm.up sm,e,k.up<|jR sm⟩
 .refine A20 (hb B s O H D (I.wish _) ⟨Y,fl,rm,e,k⟩) (λ f s1 q=>?_) λ _ _ z=>z.elim;let q:=q.gB;cases f with
  |next=>show B51 q
  |brk=>show q
  |cont=>show q
  |ret u=>show q⟩
end ZS
namespace ZS
open L2 PySem.W
def iyA{k f ks v vs}:Z.iy (.inr k::ks) (v::vs) f=if k=f then .ok v else Z.iy ks vs f:=rfl
def aaJ{K:Frag}:∀{ks:U (U Nat)}{ds}{aG:U (Key×V)},aG.map (·.1)=ks.map (λ c=>(Go ⟨c.q⟩:Key))->au K H ds (aG.map (·.2)) ->
 (∃d v,Z.iy (ks.map .inr) ds c=.ok d/\n6 aG (.inr ⟨c.q⟩)=AC v/\Den K H d v)\/(Z.iy (ks.map .inr) ds c=.bad/\n6 aG (.inr ⟨c.q⟩)=Ch)
|[],ds,[],_,_=>.inr ⟨rfl,rfl⟩
|[],ds,_::_,h,_=>by ext h
|k::ks,ds,[],h,_=>by ext h
|k::ks,ds,(n,v)::aG,h,hd=>by
 erw[A06,B37]at h;let(rfl,h):=h;cases ds with
 |nil=>simp[au]at hd
 |cons d ds=>
  erw[A06,au]at hd;let(v',r,e1,h4,h5):=hd;ext e1;by_cases hk:k=c
  .subst hk;show .inl ⟨d,v,by simp[iyA],lZ rfl,h4⟩
  .let nk:¬(Go ⟨k.q⟩:Key)=Go ⟨c.q⟩:=λ z=>hk<|DZ.mp<|Sum.inr.inj z;rcases aaJ (c:=c) h h5 with⟨d',v',e1,e2,e3⟩|⟨e1,e2⟩
   .exact .inl ⟨d',v',by erw[A06,iyA,W1 hk];show e1,by rw[jY nk];show e2,e3⟩
   .exact .inr ⟨by erw[A06,iyA,W1 hk];show e1,by rw[jY nk];show e2⟩
end ZS
namespace Z
open Classical in
def allM(f:Nat->Res yy):Res yy:=if h:∃r:D×U D,∀x,f x=.ok (.rt r.1 r.2)then .ok (.rt h.choose.1 h.choose.2)else .bad
def SR(h:allM f=.ok fl):∃d ts,fl=.rt d ts/\∀x,f x=.ok (.rt d ts):=by
 unfold allM at h;split at h
 .rename_i q;ext h;show(_,_,rfl,q.choose_spec,)
 .ext h
def allM_mk(h:∀x,f x=.ok (.rt d ts)):allM f=.ok (.rt d ts):=by
 let q:∃r:D×U D,∀x,f x=.ok (.rt r.1 r.2):=((d,ts),h,)
 unfold allM;rw[A95 q];let:=(q.choose_spec 0).symm.trans<|h 0;erw[Res.ok.injEq,yy.rt.injEq]at this;rw[this.1,this.2]
end Z
namespace ZS
open L2 PySem.W
def DC:∀{l}{m}{x}{y},Paired R l m->R x y->Paired R (l++[x]) (m++[y]):=by
 intro l m x y p r
 induction p with
 |nil=>show .cons r .nil
 |cons a t ih=>show .cons a ih
def rJ:∀{l}{m}{x},Paired R (l++[x]) m->Paired R l (m.take l.n)
|[],m,x,h=>by calc Paired.nil
|a::l,_,x,.cons r t=>by calc Paired.cons r (rJ t)
section
variable{rest:U θ}{pos pos' ali:Pos}
structure ZQ.QMA(X:Cx)(H0:Hp)(ms:List Nat)(as:List Addr)(es:List Expr)(f:Z.AMf):Prop where p:MA X H0 ms as es f
def ZQ.V8:ZQ.QMA X H0 ms as [] Z.CC:=⟨PA.imp bH <|by rintro O H Q ⟨Y,d,Y',rm,e,k⟩;ext e;show k [] H vS.refl rm au.nil⟩
def ZQ.Qw(ha:ZQ.sO X H0 ms as e fa)(hr:ZQ.QMA X H0 ms as es r)(he:Se e es X.J:=by rfl):ZQ.QMA X H0 ms as (e::es) (Z.vQ fa r):=⟨PA.imp (aM ha.p hr.p he) <|by rintro O H Q ⟨Y,ds,Y',rm,e,k⟩;let((x,Y1),ea,e):=ce e;let((xs,Y2),eb,e):=ce e;ext e;show(Y,x,Y1,rm,ea,λ v H1 m1 lM d1=>(Y1,xs,Y2,lM,eb,λ vs H2 m2 Du d2=>k _ H2 (m1.trans m2) Du<|au.cons (d1.ups<|lM.jR m2) d2,),)⟩
end
end ZS
namespace ZS
open L2 PySem.W
def dat{K:Frag}{cs:U _}(h:Den K H (.dct (cs.map .inr) ds) v):∃a o aG,v=.ref a/\H a=AC (.eu o<|.dK aG)/\aG.map (·.1)=cs.map (λ c=>(Go ⟨c.q⟩))/\au K H ds (aG.map (·.2)):=by erw[Den]at h;let(a,o,aG,e,q,k,t,_):=h;show⟨a,o,aG,e,q,by rw[k,A17];rfl,t⟩
section
variable{X:Cx}
def ZQ._N(ha:ZQ.sO X H0 ms as a fa)(hb:ZQ.sO X H0 ms as b fb)(hs:tI b:=by intro _ _;rfl):ZQ.sO X H0 ms as (.Subscript a b pos) (Z.mB Z.aW fa fb):=⟨by let(_,h,o):=Tr;show PE.imp (KP h ha.p hb.p hs)<|VZ o⟩
def ZQ.V6(hg:Gl X x)(hm:X.mg x=Ch)(hv:bootBuiltins x=AC (.type "int"))(ha:ZQ.sO X H0 ms as a fa)(hn:x≠ "__name__":=by decide +kernel)(fG:Nd x:=by kernel_rfl)
 (he:Se a [] X.J:=by rfl) (dX:Pn pos [] X.J:=by rfl):ZQ.sO X H0 ms as (.Call (.Name x p1) [a] [] pos) (Z.mU Z.pP fa):=
 ⟨PE.imp (i4 yn hg hm hv (aM ha.p bH he) hn fG he dX) <|by
  rintro O H Q ⟨Y,d,Y',rm,e,k⟩;let((x,Y1),ea,e):=ce e;let(z,eo,e):=ce e;ext e;show(Y,x,Y1,rm,ea,λ v H1 m1 lM d1=>?_,);dsimp only[Z.pP]at eo;split at eo
  .ext eo;erw[Den]at d1;show .inl ⟨_,by rw[d1],k _ H1 m1 lM b8⟩
  .ext eo;erw[Den]at d1;show .inr ⟨_,by rw[d1],k _ H1 m1 lM b8⟩
  .ext eo⟩
end
end ZS
namespace Z
def zA(ms:U Nat)(i:Nat)(m:U D->Res (D×U D))(a:EF)(r:SM)(Y:Env):Res yy:=(a Y).bind λ d=>(pS m [d]).bind λ fs=>guard (i∉ms) (allM λ x=>(r<|Y.set i<|some<|.bor<|gx x 0 cb fs).bind λ fl=>match fl with
|.rt d ts=>guard (ts.n=ms.n+1)<|.ok<|.rt d<|ts.take ms.n
| _=>.bad)
end Z
namespace ZS
open L2 PySem.W
section
variable{K:Frag}
def RM.aaH(h:RM K H0 ms as H O Y)(hp:H p=Ch)(sm:av H H')(hu:H' p=AC u)(hi:i∉ms)(BO:i<Y.n)(t:Jp K H' kd ks vs u):
 RM K H0 (ms++[i]) (as++[p]) H' (O.set i<|some<|.ref p) (Y.set i<|some<|.bor<|Z.gx p kd ks vs):=by
 let pn:p∉as:=λ z=>by let(u',q):=h.tracked z;rw[hp]at q;ext q
 let n0:H0 p=Ch:=by
  cases q:H0 p with
  |none=>rfl
  |some o=>rw[h.same _ _ q]at hp;ext hp
 let hov:over H0 H' (as++[p])=upd (over H0 H as) p u:=by
  funext b
  by_cases hb:b=p
  .subst hb;rw[cy ∅,aA,hu]
  .rw[ak hb];by_cases hm:b∈as
   .let(u',q):=h.tracked hm;rw[cy<|A73 _ hm,cy hm,q,sm _ _ q]
   .rw[cN (by simp[hm,hb]),cN hm]
 show⟨by rw[hov];show h.rs.wA hp sm hu t BO,DC (c! h.at_ <|by rintro j hj a ⟨kd,ks,vs,q⟩;show⟨kd,ks,vs,by rw[A24 λ z=>hi (by rw[z];show hj)];show q⟩) ⟨kd,ks,vs,A31 BO⟩,oA λ j x e tt=>?_,?_,λ a ha=>?_⟩
 .by_cases rQ:i=j
  .subst rQ;simp
  .rw[A24 rQ]at e;show A73 _<|gE h.no e tt
 .refine B76.mpr ⟨h.nd,by simp,λ a ha b hb=>?_⟩;rw[A11.mp hb];show λ z=>pn<|z▸ha
 .rcases A34.mp ha with ha|ha
  .exact h.h0 a ha
  .rw[A11.mp ha];show n0
end
section
variable{X:Cx}
theorem ZQ._O(C:Av X.prog X.w X.K X.mg X.base x k ps m)(hr:bf k X.A)(hg:Gl X x)
 (ha:ZQ.QMA X H0 ms as (e::es) ar) (fG:Nd x:=by kernel_rfl) (he:Se e es X.J:=by rfl) (dX:Pn pos es X.J:=by rfl) :
 ZQ.sO X H0 ms as (.Call (.Name x p1) (e::es) [] pos) (Z._P m ar):=⟨by
 let(g,fd,F,hm,hk,hb):=C.ex;show PE.imp (pK F hr hg hm hk hb .nil nJ ha.p fG he dX) ?_;rintro O H Q ⟨Y,d,Y',rm,e,k⟩;let((ds,Y1),ea,e):=ce e;let(d1,ed,e):=ce e;ext e;show(Y,ds,_,rm,ea,λ vs H1 m1 lM d1=>?_,);change yU X.K m _ H1 Q E0;rw[A51];show(ds,d,d1,ed,λ v H' s2 dv=>k v H' (m1.trans<|vS.of s2) (lM.up s2) dv,)⟩
def ZQ.Ow(h:ZQ.Jr X a f):ZQ.Jr X (.Compare a [.IsNot] [.Constant .none j pos'] pos) f:=⟨pJ sX h.p qP<|iF _⟩
def H_:∀O H Q,UZ X.K H0 ms as (Z.mU Z.jF fa) O H Q->OS (λ x y H Q=>y=.non/\Q (.bl<|!decide (x=.non)) H) (UZ X.K H0 ms as fa) (tC .non) O H Q:=by rintro O H Q ⟨Y,d,Y',rm,e,k⟩;let((x,Y1),ea,e):=ce e;let(y,eo,e):=ce e;ext e;show(Y,x,Y1,rm,ea,λ v H1 m1 lM d1=>(rfl,?_,),);rw[DR<|.inl d1];ext x<;>(ext eo;show k _ H1 m1 lM cx)
def ZQ.Qv(ha:ZQ.sO X H0 ms as a fa):ZQ.sO X H0 ms as (.Compare a [.IsNot] [.Constant .none j pos'] pos) (Z.mU Z.jF fa):=⟨PE.imp (pJ sX ha.p qP<|iF _) H_⟩
theorem ZQ.H?{rest:U θ}(C:E6 X.prog X.w X.K X.mg X.base k ps n fn)(hr:bf (k+1) X.A)(hg:Gl X "Desk")(hN:X.N.Nodup)(hi:X.N[i]?=AC y)(hy:Loc X.env.scope y)
 (he:ZQ.QE X e fe) (mj:∀p,ZQ.lV X H0 (ms++[i]) (as++[p]) rest r) (hs:swapsWith (.Call (.Name "Desk" p1) [e] [] k!) (AC<|.Name y pos') pos.line X.J=pure AT:=by rfl) (hf:X.fn y=Da\/X.env.scope.names.lookup y=AC .local:=by first| show .inl rfl| show .inr rfl| assumption)
 (h1:Se e [] X.J:=by rfl) (dX:Pn k! [] X.J:=by rfl) :
 ZQ.lV X H0 ms as (.Assign [.Name y pos'] (.Call (.Name "Desk" p1) [e] [] k!) pos::rest) (Z.zA ms i fn fe r):=⟨by
 let mj:=λ p=>(mj p).p;let(C,f,fd,hC,M,F,hb):=C.ex;intro B s O H D I w;let hm:=A21 (mg:=X.mg) (h:=s.e) I.jw (I.mod.glob.keeps I.bk) hC.1;let hR:rq X rest (λ D O H=>∃p,tM X.K H0 _ _ r D O H):=λ B s O H D I ⟨p,w⟩=>mj p B s O H D I w;let(Y,fl,rm,e,k):=w;let(d,ed,e):=ce e;let(fs,ef,e):=ce e;let(him,e):=Z.bO e;let ef:=Z.By ef;let(dr,ts0,rfl,er):=Z.SR e;let BO:i<Y.n:=by rw[rm.rs.re.len,I.len];show(A09.mp hi).1
 show j7 (ma hN hi hy (FJ M F hr hg hm hb .nil nJ (aM he.p bH h1) (by decide +kernel) h1 dX) hs hf) hR B s O H D I ?_;show(Y,d,rm.rs.re,ed,λ v H1 s1 dv x dx hx Oe ne=>?_,);let sm:=xU (C:=C) hx Oe;show⟨[Z.gx x 0 [] [],d],[x],.non,[Z.gx x 0 Z.cb fs],(_,_,rfl,F0 hC,_,_,rfl,Den.up dv sm,rfl,),by simp,.cons ⟨0,[],[],rfl⟩ .nil,⟨λ _=>by simp,λ z=>z.elim,sZ _ _⟩,ef x,λ v' H' s2 th dn=>?_⟩;show⟨by simpa only[Den]using dn,?_⟩;let nx:H x=Ch:=by
  cases q:H x with
  |none=>rfl
  |some o=>rw[s1 _ _ q]at hx;ext hx
 let s3:av H H':=λ b o q=>s2 b o (by let hb:b≠x:=aR q nx;change(if b∈[x]then Ch else _)=_;rw[W1 (by calc hb)];show sm _ _<|s1 _ _ q)
 cases th with
 |cons r0 _=>
  let(kd,ks,vs,u,e1,hu,t):=r0;let(_,rfl,rfl,rfl):=mL e1;let(f1,e1,e2):=ce (er x);cases f1 with
  |nx _=>ext e2
  |rt d1 ts1=>let(hl,e2):=Z.bO e2;ext e2;show(x,_,_,rm.aaH nx s3 hu him BO t,e1,λ v H' sm th dv=>k v H' sm ?_ dv,);let:=rJ<|th;let ll:=(B48 rm.at_).symm;rw[ll]at this;show this⟩
end
end ZS
namespace Z
def Le(b:Bool)(x t:D):Res D:=match x,t with
| .str c,.dct ks vs=>guard (∃cs:U (U Nat),ks=cs.map .inr) (.ok (.bl (match iy ks vs c with
 |.ok _=>b
 | .bad=>!b)))
|_,_=>.bad
@[simp] def qR(t t2:Ty)(x:D):Res D:=.ok<|.bl<|dC t x||dC t2 x
end Z
namespace ZS
open L2 PySem.W
def LR(K:Db)(t t2:Z.Ty)(d:Z.D):kitAny K (.type<|tyD d) [.type (yN t),.type (yN t2)]=AC (Z.dC t d||Z.dC t2 d):=by change(match kitOne K _ _ with|some Da=>AC Da|some AT=>(match kitOne K _ _ with|some Da=>AC Da|some AT=>kitAny K _ []|none=>Ch)|none=>Ch)=_;rw[zC,zC];cases Z.dC t d<;>cases Z.dC t2 d<;>rfl
def Ik(t t2:Z.Ty)(I:Inv X B O H s)(hd:bz X.K H d v)(r:RelV v u)(hq:H q=AC (.tup [.ty (yN t),.ty (yN t2)]))
 (h:∀tk,Q (.bool<|Z.dC t d||Z.dC t2 d) {s with toks:=tk}):Ev (model X.prog X.w) A (call (.builtin "isinstance") [u,.ref q]) Q E s:=by
 let e:=LR X.K t t2 d;obtain⟨_,us,rv,tn⟩:=(I.bN q _ hq)
 let(ot,gt,ct,n,dt):=tn.is;obtain rfl:us=[.type (yN t),.type (yN t2)]:=by let(a,b,rfl,r1,r2):=vals2 rv;ext r1 r2;rfl
 let(oc,od0,oda,sl):=ot;let ct':=ct;let dt':=dt;subst ct' dt';cases d with
 |non=>rw[hd.non]at r;cases (r);show B06 kitx_none I.jw GE gt e (λ z=>nomatch z) h
 |bl y=>rw[hd.bl]at r;cases (r);show B06 kitx_bool I.jw GE gt e (λ z=>nomatch z) h
 |int i=>rw[hd.int]at r;obtain⟨t',q⟩:=(r);ext q;show B06 kitx_int I.jw GE gt e (λ z=>nomatch z) h
 |str cs=>rw[hd.str]at r;obtain⟨t',q⟩:=(r);ext q;show B06 kitx_str I.jw GE gt e (λ z=>nomatch z) h
 |tup ds=>let(a,vs,rfl,hq,_):=hd.tup;cases (r);let(a6,_,(o,h1,h2,_),_):=I.tuple hq;show B06 kitx_tuple I.jw ⟨o,h1,h2⟩ gt e (λ z=>nomatch z) h
 |lst ds=>let(a,vs,rfl,hq,_):=hd.lst;cases (r);let(a6,_,(o,n,h1,h2,_),_):=I.list hq;show B06 kitx_list I.jw ⟨o,h1,h2⟩ gt e (λ z=>nomatch z) h
 |dct ks ds=>
  let(a,o,aG,rfl,hq,_):=hd.dct;cases (r);obtain⟨_,_,_,_,_,o',es,ep,h1,h2,_⟩:=(I.bN a _ hq)
  show B06 kitx_dict I.jw ⟨o',h1,h2.1⟩ gt e (λ z=>nomatch z) h
theorem ZQ.vC(t t2:Z.Ty)(hg:Gl X x)(hm:X.mg x=Ch)(hv:bootBuiltins x=AC (.builtin "isinstance"))(hg2:Gl X y)(hm2:X.mg y=Ch)(T6:bootBuiltins y=AC (.type<|yN t))(hg3:Gl X z)(hm3:X.mg z=Ch)(hv3:bootBuiltins z=AC (.type<|yN t2))(ha:ZQ.QW X a fa)
 (hn:x≠ "__name__":=by decide +kernel) (fG:Nd x:=by kernel_rfl) (L!:y≠ "__name__":=by decide +kernel) (WV:Nd y:=by kernel_rfl) (hn3:z≠ "__name__":=by decide +kernel) (afB:Nd z:=by kernel_rfl)
 (he:starEach (a::[.Tuple [.Name y p2,.Name z p3] x1 p4]) X.J=(AT,eval a X.J)::starEach [.Tuple [.Name y p2,.Name z p3] x1 p4] X.J:=by rfl) (dX:(backTo pos<|starEach [.Tuple [.Name y p2,.Name z p3] x1 p4] X.J).any (·.1)=AT:=by rfl)
 (Od:starEach ((.Tuple [.Name y p2,.Name z p3] x1 p4)::[]) X.J=(AT,eval (.Tuple [.Name y p2,.Name z p3] x1 p4) X.J)::starEach [] X.J:=by rfl)
 (he3:starEach ((.Name y p2)::[.Name z p3]) X.J=(AT,eval (.Name y p2) X.J)::starEach [.Name z p3] X.J:=by rfl) (he4:starEach ((.Name z p3)::[]) X.J=(AT,eval (.Name z p3) X.J)::starEach [] X.J:=by rfl) :
 ZQ.QE X (.Call (.Name x p1) [a,.Tuple [.Name y p2,.Name z p3] x1 p4] [] pos) (Z.eU (Z.qR t t2) fa):=⟨by
 let hc:kz X (.builtin "isinstance") (λ xs H Q=>∃v d q,xs=[v,.ref q]/\bz X.K H d v/\H q=AC (.tup [.ty (yN t),.ty (yN t2)])/\Q (.bl<|Z.dC t d||Z.dC t2 d) H):=by intro B s O H xs us Q I r h;let(v,d,q,rfl,hd,hq,k):=h;let(u,w',rfl,r1,r2):=vals2 r;cases (r2);show Ik t t2 I hd r1 hq λ tk=>(.bl _,H,I.tok _,rfl,k,)
 show PE.imp (jb hc hg hm hv (aM ha.p (aM (KI<|aM (zb (v:=.ty (yN t)) hg2 hm2 T6 rfl L! WV) (aM (zb (v:=.ty (yN t2)) hg3 hm3 hv3 rfl hn3 afB) bH he4) he3) bH Od) he) hn fG he dX) ?_;rintro O H Q ⟨Y,d,r,e,k⟩;let(x,ea,e):=ce e;ext e;show(Y,x,r,ea,λ v H1 s1 d1=>?_,);show⟨by rw[A26];change 2<=16777216;decide,λ q hq=>?_⟩;let s2:av H1 (upd H1 q<|.tup [.ty (yN t),.ty (yN t2)]):=bE hq;show(v,x,q,rfl,d1.up s2,aA,k _ _ (s1.trans s2) cx,)⟩
def Q!{X:Cx}:∀O H Q,tZ X.K (Z.eB (Z.Le b) fa fo) O H Q->(λ O H Q=>tZ X.K fa O H λ y H1=>tZ X.K fo O H1 λ x H2=>∃a o,x=.ref a/\Al H2 a y o/\Q (.bl<|o.isSome==b) H2) O H Q:=by
 rintro O H Q ⟨Y,d,r,e,k⟩;let(x,ex,e):=ce e;let(t,et,e):=ce e;show(Y,x,r,ex,λ y H1 s1 d1=>(Y,t,r.up s1,et,λ u H2 s2 d2=>?_,),);let hc:∃c ks vs,x=.str c/\t=.dct ks vs:=by
  ext x<;>try ext e
  ext t<;>first|show(_,_,_,rfl,rfl,)|ext e
 let(c,ks,vs,rfl,rfl):=hc;let((cs,rfl),e):=Z.bO e;ext e;let(a,o,aG,rfl,q,h2,h3):=dat d2;let hy:y=kV (.inr ⟨c.q⟩):=by erw[Den]at d1;show d1
 show(a,_,rfl,.inl ⟨aG,_,.inr ⟨o,q⟩,hy,rfl⟩,?_,);let k:=k _ H2 (s1.trans s2) cx;rcases aaJ h2 h3 with⟨_,_,e1,e2,_⟩|⟨e1,e2⟩
 .rw[e1]at k;rw[e2];ext b<;>show k
 .rw[e1]at k;rw[e2];ext b<;>show k
def ZQ.IK(hu:X.A.units+64<cLine)(ha:ZQ.QE X a fa)(ho:ZQ.QE X o fo)(hm:behindInMarks .NotIn o=AT:=by with_unfolding_all rfl):ZQ.QT X (.Compare a [.NotIn] [o] pos) (Z.tE<|Z.eB (Z.Le AT) fa fo):=
 ⟨vn (Vb (HB ∅ ha.p ho.p) hm) λ O H Q h=>by let:=Q! O H Q h;erw[beq_false]at this;show this⟩
def Uj(tg:η)(is:U Nat)(N:U Str):U Str:=(match tg with
|.Name x _=>[x]
|.Tuple es _ _=>es.filterMap λ e=>match e with
 |.Name x _=>AC x
 |_=>Ch
| _=>[])++is.filterMap (N[·]?)
def ZQ.abc(hi:ZQ.QI X tg iter it)(he:∀{cl C fp s H},ZQ.QE (lR X (Uj tg is X.N) scope cl C fp s H) elt fe)(ht:∀{cl C fp s H},ZQ.Js (lR X (Uj tg is X.N) scope cl C fp s H) ifs t)(hg:∀{cl C fp s H H0},ZQ.QG (lR X (Uj tg is X.N) scope cl C fp s H) H0 tg G)(hG:Gk G n)(dh:X.calm=Da:=by rfl)(χ:v_ X.N (Uj tg is X.N) n is scope X.J.scope:=by show ZS.v_.of ?_;kernel_rfl)(hs:Fi iter X.J:=by intro _;rfl):ZQ.QL X (.ListComp elt [⟨tg,iter,ifs,0⟩] scope pos) (Z.bB it n is G t fe):=ZQ.MR hi he ht hg dh χ hG hs
theorem ZQ.aa9{X:Cx}(dh:X.calm=Da)(hN:X.N.Nodup)(WL:X.N[i]?=AC x)(hx:Loc X.env.scope x)
 (hi:ZQ.QI X tg iter it) (hG:Gk G n)
 (hg:∀{cl C fp s H H0},ZQ.QG (lR X (Uj tg is X.N) scope cl C fp s H) H0 tg G) (ht:∀{cl C fp s H},ZQ.Js (lR X (Uj tg is X.N) scope cl C fp s H) ifs t) (he:∀{cl C fp s H},ZQ.QE (lR X (Uj tg is X.N) scope cl C fp s H) elt fe) (χ:v_ X.N (Uj tg is X.N) n is scope X.J.scope:=by show ZS.v_.of ?_;kernel_rfl)
 (Ww:Sw elt tg iter ifs scope pos x px Dj X.J:=by rfl)
 (hs:Fi iter X.J:=by intro _;rfl) (hf:Fl X x:=by trivial) :
 ZQ.QS X H0 (.Assign [.Name x px] (.ListComp elt [⟨tg,iter,ifs,0⟩] scope pos) Dj) (Z.aO i<|Z.eL<|Z.bB it n is G t fe):=ZQ.zX dh hN WL hx hi χ hG (λ _ _ _ _ _ _=>hg) (λ _ _ _ _ _=>ht) (λ _ _ _ _ _=>he) Ww hs hf
end ZS
def ZS.hv{p q:Prop}(k:p->q)(h:p):q:=k h
namespace ZS
open L2 PySem.W
structure Ho(p:Prop):Prop where h:p
structure Vs(P:Program)(w:World)(mg:Str->Option Value)(base:Heap):Prop where
section
variable{P:ο}{w:ξ}{mg:Str->ε ζ}{base:ν}{A0:δ}
def cz{K:Frag}{h0:ν}{st:θ}{x:Str}{b:Z.SF}{Q:Prop}(d:bK K x st)(k:Nat)(ps N:U Str)(g:U Z.D->Z.Res Z.D)(e:g=Z.fn ps.length N.length b)(q:Av P w K mg base x (k+1) ps g->Q)(hb:Ho (∀{f}{aU}{A}{outer}{s}{H}{E},N.Nodup->(A.deeper<|envOfC x (aa st) s.heap.objs.size f aU).units+64<cLine->bf k (A.deeper<|envOfC x (aa st) s.heap.objs.size f aU)->ZQ.yx (dG iC P w K mg base N x (aa st) f aU A outer s H E).fQ H (az st) b))(X:K.In h0:=by assumption)(G:h0.Ns mainGlobals mg:=by assumption)(V:Vs P w mg base:=by assumption)(S:aT N ps (aa st):=by show ZS.B1)
 (hB:∀kV doc pm an aU ct us,us.n=ps.n->bindArgs (fnOf x x (bg st) (az st) (aa st) .none kV doc pm an aU ct) ⟨us,[]⟩=pure (ps.zip us):=by show ZS.Uo):Q:=q<|e▸ZQ.Uk (d.df X G hB) hb.h S
def ρ2{K:Frag}{st:θ}{m qual:Str}{b:Z.SF}{Q:Prop}(d:e? K A0 m qual st)(k:Nat)(ps N:U Str)(bs:U Bool)(g:U Z.D->Z.Res Z.D)(e:g=Z.B3 bs N.length b)(q:An P w K mg base m (k+1) ps bs g->Q)(hb:Ho (∀{f}{aU}{A}{outer}{s}{H}{E},N.Nodup->(A.deeper<|envOfC qual (aa st) s.heap.objs.size f aU).units+64<cLine->bf k (A.deeper<|envOfC qual (aa st) s.heap.objs.size f aU)->ZQ.yx (dG iC P w K mg base N qual (aa st) f aU A outer s H E).fQ H (az st) b))(hC:qv K "Desk" A0:=by assumption)(kA:bs.n=ps.n:=by rfl)(V:Vs P w mg base:=by assumption)(S:aT N ps (aa st):=by show ZS.B1)
 (hB:∀kV doc pm an aU ct us,us.n=ps.n->bindArgs (fnOf m qual (bg st) (az st) (aa st) .none kV doc pm an aU ct) ⟨us,[]⟩=pure (ps.zip us):=by show ZS.Uo):Q:=q<|e▸ZQ.XO kA (d.df hC hB) hb.h S
def XG{K:Frag}{st:θ}{m qual:Str}{b:Z.XF}{Q:Prop}(d:e? K A0 m qual st)(k:Nat)(ps N:U Str)(bs:U Bool)(g:U Z.D->ε Z.XN)(e:g=Z.B0 bs N.length b)(q:vV P w K mg base m (k+1) ps bs g->Q)(hb:Ho (∀{f}{aU}{A}{outer}{s}{H}{E},N.Nodup->(A.deeper<|envOfC qual (aa st) s.heap.objs.size f aU).units+64<cLine->bf k (A.deeper<|envOfC qual (aa st) s.heap.objs.size f aU)->ZQ.Ai (dG (CG P w) P w K mg base N qual (aa st) f aU A outer s H E) H (az st) b))(hC:qv K "Desk" A0:=by assumption)(kA:bs.n=ps.n:=by rfl)(V:Vs P w mg base:=by assumption)(S:aT N ps (aa st):=by show ZS.B1)
 (hB:∀kV doc pm an aU ct us,us.n=ps.n->bindArgs (fnOf m qual (bg st) (az st) (aa st) .none kV doc pm an aU ct) ⟨us,[]⟩=pure (ps.zip us):=by show ZS.Uo):Q:=q<|e▸ZQ.XJ kA (d.df hC hB) hb.h S
def Ng{K:Frag}{st:θ}{m qual:Str}{b:Z.SM}{Q:Prop}(d:e? K A0 m qual st)(k:Nat)(ps N:U Str)(bs:U Bool)(g:U Z.D->Z.Res (Z.D×U Z.D))(e:g=Z.zM (Z.gy 0 bs) bs N.length b)(q:vX P w K mg base m (k+1) ps bs N.length g->Q)(hb:Ho (∀{f}{aU}{A}{outer}{s}{H H0}{as}{E},N.Nodup->(A.deeper<|envOfC qual (aa st) s.heap.objs.size f aU).units+64<cLine->bf k (A.deeper<|envOfC qual (aa st) s.heap.objs.size f aU)->ZQ.lV (dG iC P w K mg base N qual (aa st) f aU A outer s H E).fQ H0 (Z.gy 0 bs) as (az st) b))(hC:qv K "Desk" A0:=by assumption)(kA:bs.n=ps.n:=by rfl)(V:Vs P w mg base:=by assumption)(S:aT N ps (aa st):=by show ZS.B1)
 (hB:∀kV doc pm an aU ct us,us.n=ps.n->bindArgs (fnOf m qual (bg st) (az st) (aa st) .none kV doc pm an aU ct) ⟨us,[]⟩=pure (ps.zip us):=by show ZS.Uo):Q:=q<|e▸ZQ.Sv kA (d.df hC hB) hb.h S
end
end ZS
namespace Z
def Ok{α:Type}(r:Res α)(Q:α->Prop):Prop:=∃a,r=.ok a/\Q a
def Ok.imp(h:Ok r P)(k:∀a,P a->Q a):Ok r Q:=by let(a,e,p):=h;show(a,e,k a p,)
def Ok.eq(h:Ok r λ x=>x=a):r=.ok a:=by let(x,e,rfl):=h;show e
@[simp] def abG(a:α)(Q:α->Prop):Ok (.ok a) Q↔Q a:=⟨by rintro⟨_,e,q⟩;ext e;show q,λ q=>(a,rfl,q,)⟩
@[simp] def agM(Q:α->Prop):Ok (.bad) Q↔False:=⟨by rintro⟨_,e,_⟩;show(by ext e),GT⟩
@[simp] def tJ(r:Res α)(f:α->Res β)(Q:β->Prop):Ok (r.bind f) Q↔Ok r λ a=>Ok (f a) Q:=by
 cases r with
 |ok a=>simp
 |bad=>simp
@[simp] def agK(r:Res α)(f:α->β)(Q:β->Prop):Ok (r.map f) Q↔Ok r λ a=>Q (f a):=by
 cases r with
 |ok a=>simp
 |bad=>simp
@[simp] def abH(p:Prop)(r:Res α)(Q:α->Prop):Ok (guard p r) Q↔p/\Ok r Q:=by
 constructor
 .rintro⟨a,e,q⟩;let(h,e):=bO e;show(h,a,e,q,)
 .rintro⟨h,k⟩;rw[guard_pos h];show k
@[simp] def agL[Decidable c](r r':Res α)(Q:α->Prop):Ok (if c then r else r') Q↔if c then Ok r Q else Ok r' Q:=by split<;>rfl
abbrev v(d:D):ε L:=AC<|.val d
abbrev vi(i:Int):ε L:=AC<|.val<|.int i
abbrev vs(cs:U Nat):ε L:=AC<|.val<|.str cs
abbrev ow(xs:U D):ε L:=AC<|.own xs
def asW:ε (ε L)->Res D
|some<|some<|.val d=>.ok d
|some<|some<|.own xs=>.ok<|.lst xs
|some<|some<|.bor<|.lst xs=>.ok<|.lst xs
|_=>.bad
def asV:ε (ε L)->Res D
|some<|some<|.val d=>.ok d
|_=>.bad
@[simp] def alc(i:Nat)(Y:Env):eW i Y=asW Y[i]?:=by
 unfold eW asW;cases Y[i]? with
 |none=>rfl
 |some o=>cases o with
  |none=>rfl
  |some l=>ext l<;>rfl
@[simp] def ald(i:Nat)(Y:Env):eV i Y=asV Y[i]?:=by
 unfold eV asV;cases Y[i]? with
 |none=>rfl
 |some o=>cases o with
  |none=>rfl
  |some l=>ext l<;>rfl
@[simp] def adj(d:D):asW (AC<|some<|.val d)=.ok d:=rfl
@[simp] def adk(xs:U D):asW (AC<|some<|.own xs)=.ok (.lst xs):=rfl
@[simp] def adm(d:D):asV (AC<|some<|.val d)=.ok d:=rfl
def ay{b:SF}(h:Ok (b Y) λ fl=>bc (.ok fl)=.ok d):bc (b Y)=.ok d:=by let(fl,e,q):=h;rw[e,q]
def qN{b:SF}(h:Ok (b Y) λ fl=>Ok (bc<|.ok fl) P):Ok (bc<|b Y) P:=by let(fl,e,q):=h;rw[e];show q
@[simp] def aii(i j:Nat)(a b:D)(Y:Env):e_ [i,j] (.tup [a,b]) Y=.ok ((Y.set i<|v a).set j<|v b):=rfl
def abx(i:Nat)(Y:Env)(d:D):ε (ε L)->Res Fl
|some<|some<|.own xs=>guard (xs.n<line)<|.ok<|.nx<|Y.set i<|ow<|xs++[d]
|_=>.bad
@[simp] def Yx(i:Nat)(e:EF)(Y:Env):cV i e Y=(e Y).bind λ d=>abx i Y d Y[i]?:=rfl
@[simp] def abw(i:Nat)(Y:Env)(d:D)(xs:U D):abx i Y d (AC<|some<|.own xs)=guard (xs.n<line) (.ok<|.nx<|Y.set i<|ow<|xs++[d]):=rfl
def aaU(i:Nat)(Y:Env)(ys:U D):ε (ε L)->Res Fl
|some<|some<|.own xs=>guard (xs.n+ys.n<=line)<|.ok<|.nx<|Y.set i<|ow<|xs++ys
|_=>.bad
@[simp] def adX(i:Nat)(l:LF)(Y:Env):sD i l Y=(l Y).bind λ ys=>aaU i Y ys Y[i]?:=rfl
@[simp] def aaT(i:Nat)(Y:Env)(ys xs:U D):aaU i Y ys (AC<|some<|.own xs)=guard (xs.n+ys.n<=line) (.ok<|.nx<|Y.set i<|ow<|xs++ys):=rfl
def W6(i:Nat)(Y:Env):ε (ε L)->Env
|some<|some<|.own xs=>Y.set i<|v<|.lst xs
|_=>Y
@[simp] def adV(i:Nat)(a:SF)(Y:Env):uu i a Y=a (W6 i Y Y[i]?):=by
 unfold uu eu W6;cases Y[i]? with
 |none=>rfl
 |some o=>cases o with
  |none=>rfl
  |some l=>ext l<;>rfl
@[simp] def aaP(i:Nat)(Y:Env)(xs:U D):W6 i Y (AC<|some<|.own xs)=Y.set i (v<|.lst xs):=rfl
def Nm:D->D->Res (U D)
|.lst xs,.lst ys=>guard (xs.n+ys.n<=line)<|.ok<|xs++ys
|_,_=>.bad
def D?(a b:EF)(Y:Env):Ig a b Y=(a Y).bind λ x=>(b Y).bind λ y=>Nm x y:=rfl
@[simp] def abk(xs ys:U D):Nm (.lst xs) (.lst ys)=guard (xs.n+ys.n<=line) (.ok<|xs++ys):=rfl
def slK(l h:ε Int):D->Res (U D)
|.lst xs=>.ok<|cut xs l h
|_=>.bad
def LP(a:EF)(lo hi:PF)(Y:Env):LQ a lo hi Y=(a Y).bind λ x=>(lo Y).bind λ l=>(hi Y).bind λ h=>slK l h x:=rfl
@[simp] def ab9(l h:ε Int)(xs:U D):slK l h (.lst xs)=.ok (cut xs l h):=rfl
@[simp] def acm(xs:U D)(l h:ε Int):_i (.tup xs) l h=.ok (.tup<|cut xs l h):=rfl
@[simp] def _h(cs:U Nat)(l h:ε Int):_i (.str cs) l h=guard (cs.n<=line) (.ok<|.str<|cut cs l h):=rfl
@[simp] def YH(a b:U Nat):aC (.str a) (.str b)=guard (a.n+b.n<=line) (.ok<|.str<|a++b):=rfl
@[simp] def YG(a b:U D):aC (.tup a) (.tup b)=guard (a.n+b.n<=line) (.ok<|.tup<|a++b):=rfl
@[simp] def _j(a:Int):P9 (.int a)=.ok (.int<|-a):=rfl
@[simp] def _r:lN .non=.ok (.bl Da):=rfl
@[simp] def YE:jF .non=.ok (.bl AT):=rfl
def j8(a b:Nat)(hb:b<=1000000)(ha:a<18446744073709551616):oy (.int<|a) (.int<|b)=.ok (.int<|(a^b:Nat)):=by
 let h:(0:Int)<=b/\(b:Int)<=1000000/\(a:Int).natAbs<2^64:=⟨by lia,by lia,by rw[Int.natAbs_natCast];show ha⟩
 change guard _ _=_;rw[guard_pos h,B00,Int.natCast_pow]
@[simp] def aed:oy (.int 10) (.int 60)=.ok (.int 1000000000000000000000000000000000000000000000000000000000000):=j8 10 60 ∅ ∅
@[simp] def aee:oy (.int 10) (.int 55)=.ok (.int 10000000000000000000000000000000000000000000000000000000):=j8 10 55 ∅ ∅
@[simp] def aef:oy (.int 10) (.int 50)=.ok (.int 100000000000000000000000000000000000000000000000000):=j8 10 50 ∅ ∅
@[simp] def ach:oy (.int 7919) (.int 9)=.ok (.int 122470950010456506152021579891552879):=j8 7919 9 ∅ ∅
def atK:ε D->Res D
|some d=>.ok d
|none=>.bad
@[simp] def abu(d:D):atK (AC d)=.ok d:=rfl
def P_(xs:U D)(i:Int):aW (.tup xs) (.int i)=atK ((xZ xs.length i).bind λ j=>xs[j]?):=by change(match (xZ _ i).bind λ j=>xs[j]? with|some v=>Res.ok v|none=>.bad)=_;cases (xZ _ i).bind λ j=>xs[j]?<;>rfl
def Qa(xs:U D)(i:Int):aW (.lst xs) (.int i)=atK ((xZ xs.length i).bind λ j=>xs[j]?):=by change(match (xZ _ i).bind λ j=>xs[j]? with|some v=>Res.ok v|none=>.bad)=_;cases (xZ _ i).bind λ j=>xs[j]?<;>rfl
def ft{i:Int}{j:Nat}(h:i=j)(e:xs[j]?=AC d):aW (.tup xs) (.int i)=.ok d/\aW (.lst xs) (.int i)=.ok d:=by
 subst h;let hj:=(A09.mp e).1;let:xZ xs.length (j)=AC j:=by simp[xZ,hj]
 rw[P_,Qa,this];simp[e]
def pY{i:Int}{j c:Nat}(h:i=j)(e:cs[j]?=AC c)(hl:cs.n<=line):aW (.str cs) (.int i)=.ok (.str [c]):=by
 subst h;let hj:=(A09.mp e).1;let:xZ cs.length (j)=AC j:=by simp[xZ,hj]
 change guard _ _=_;rw[guard_pos hl,this];simp[e]
def F9(h0:0<=i)(h1:i<xs.n):∃d∈xs,aW (.lst xs) (.int i)=.ok d/\aW (.tup xs) (.int i)=.ok d:=by
 let hj:i.v<xs.n:=by lia
 show(xs[i.v],B15 hj,?_,);let:=ft (i:=i) ∅<|A05 hj;show(this.2,this.1,)
def turn(I:Env->Prop)(Q:Fl->Prop):Fl->Prop
|.nx Y=>I Y
|.ct Y=>I Y
|.bk Y=>Q<|.nx Y
|.rt d=>Q<|.rt d
@[simp] def kB(I:Env->Prop)(Q:Fl->Prop)(Y:Env):turn I Q (.nx Y)↔I Y:=Iff.rfl
@[simp] def abY(I:Env->Prop)(Q:Fl->Prop)(Y:Env):turn I Q (.ct Y)↔I Y:=Iff.rfl
@[simp] def abZ(I:Env->Prop)(Q:Fl->Prop)(Y:Env):turn I Q (.bk Y)↔Q (.nx Y):=Iff.rfl
@[simp] def abX(I:Env->Prop)(Q:Fl->Prop)(d:D):turn I Q (.rt d)↔Q (.rt d):=Iff.rfl
def Mn(I:Nat->Env->Prop):∀ds Y i,I i Y->(∀j d Y,ds[j]?=AC d->I (i+j) Y->Ok (g d Y) λ Y1=>Ok (b Y1) (turn (I<|i+j+1) Q))->(∀Y,I (i+ds.n) Y->Q (.nx Y))->Ok (dQ g b ds Y) Q
|[],Y,i,h,_,e=>by simpa[dQ]using e Y h
|d::ds,Y,i,h,k,e=>by
 let(Y1,e1,fl,e2,t):=k 0 d Y rfl h;let ih:=λ Y' (h')=>Mn I ds Y' (i+1) h' (λ j x Y hj hP=>by let:=k (j+1) x Y (by calc hj) (by simpa[C28,A94 1 j]using hP);simpa[C28,A94 1 j]using this) λ Y hP=>e Y (by simpa[C28,A94 1]using hP)
 unfold dQ;rw[e1,Res.cW,e2,Res.cW];cases fl with
 |nx Y'=>show ih Y' (by calc t)
 |ct Y'=>show ih Y' (by calc t)
 |bk Y'=>calc t
 |rt d=>calc t
def fR(I:Nat->Env->Prop)(h0:I 0 Y)(hs:∀j d Y,ds[j]?=AC d->I j Y->Ok (g d Y) λ Y1=>Ok (b Y1) (turn (I<|j+1) Q))(he:∀Y,I ds.length Y->Q (.nx Y)):Ok (dQ g b ds Y) Q:=
 Mn I ds Y 0 h0 (λ j d Y hd hI=>by rw[B01]at hI ⊢;show hs j d Y hd hI) λ Y h=>he Y (by rwa [B01]at h)
def Sm(p:D->Bool)(h:D->D)(hs:∀d∈ds,Ok (g d Y) λ Y1=>Ok (t Y1) λ c=>c=p d/\(p d=Da->Ok (e Y1) λ y=>y=h d))(hq:Q ((ds.filter p).map h)):Ok (bV g t e Y ds) Q:=by show(_,nX ds λ d hd=>?_,hq,);let(Y1,e1,c,e2,hc,k):=hs d hd;show⟨Y1,e1,by rw[e2,hc],λ hp=>(k hp).eq⟩
def comp_map(h:D->D)(hs:∀d∈ds,Ok (g d Y) λ Y1=>Ok (e Y1) λ y=>y=h d)(hq:Q (ds.map h)):Ok (bV g bM e Y ds) Q:=by show(_,vE ds λ d hd=>?_,hq,);let(Y1,e1,k):=hs d hd;rw[e1];show k.eq
def bF{α:Type}(enc:α->D)(f:α->Bool)(h:α->D):∀{xs:U α}{Q},(∀x∈xs,Ok (g (enc x) Y) λ Y1=>Ok (t Y1) λ c=>c=f x/\(f x=Da->Ok (e Y1) λ y=>y=h x))->Q ((xs.filter f).map h)->Ok (bV g t e Y<|xs.map enc) Q:=by
 intro xs Q hs hq;show(_,?_,hq,);clear hq
 induction xs with
 |nil=>rfl
 |cons x xs ih=>
  let(Y1,e1,c,e2,hc,k):=hs x A10;let ih':=ih λ y hy=>hs y<|A08 _ hy;cases hf:f x with
  |true=>rw[hf]at hc;let:=(k hf).eq;simp[bV,e1,e2,hc,this,ih',hf]
  |false=>rw[hf]at hc;simp[bV,e1,e2,hc,ih',hf]
end Z
end S0
open ZS renaming bK→cr,cz→jp,e?→lc,c6→pc,hv→pi,v_.of→sB,xh→wE,xg→wf,XG→wn,EN→wv,EM→zn,ρ2→AAA,Jj→AAB,Ji→AAC,yo→AAD,Jh→AAE,m9→AAF,km→AAG,Av→AAH,Ng→AAI
local macro_rules
| `(tactic|trivial)=>`(tactic|first|show AF3 rfl|show xz rfl)
open ZS (Fl)
open ZS (Gk Dn)
set_option maxRecDepth 4000
namespace KA
open Z
def fF:SF:=(aH<|vm (eB oEq (eU ck<|eW 0)<|eI 1)<|g_ oLe oLe (eC<|.str [97]) (eW 0)<|eC<|.str [122])
def cH:U D->Res D:=fn 1 1 fF
def kU(x0:D):cH [x0]=bc (fF [AC (.val x0)]):=bX _ _ _ _ rfl
def i!:SF:=(aH<|YZ (eB Ap (eW 0)<|cw<|ae (eC<|.str [46])<|ae (eC<|.str [61])<|ae (eC<|.str [35]) ah)<|ai cH<|aV 0 ah)
def jl:U D->Res D:=fn 1 1 i!
def Et(x0:D):jl [x0]=bc (i! [AC (.val x0)]):=bX _ _ _ _ rfl
def fE:SF:=(aB (dB (yQ (fN<|tE<|eU (iL .str)<|eW 0)<|fN<|tE<|g_ oLe oLe (eI 1) (eU ck<|eW 0)<|eI 12) (aH<|eC<|.bl AT) aE)<|aH<|eU gZ<|eL<|bB (cY<|eW 0) 1 [] (aJ 0) bM<|ai jl<|aV 0 ah)
def i5:U D->Res D:=fn 1 1 fE
def g?(x0:D):i5 [x0]=bc (fE [AC (.val x0)]):=bX _ _ _ _ rfl
def c7:SF:=(aB (dB (yQ (fN<|tE<|eU (iL .tuple)<|eW 0)<|fN<|tE<|g_ oLe oLe (eI 1) (eU ck<|eW 0)<|eI 6) (aH<|eC<|.bl AT) aE)<|aB (dB (fN<|tE<|eU gZ<|eL<|bB (cY<|eW 0) 1 [] (aJ 0) bM<|ai i5<|aV 0 ah) (aH<|eC<|.bl AT) aE)<|aH<|eU gZ<|eL<|bB (cY<|eW 0) 1 [0] (aJ 0) bM<|eB oEq (eU ck<|eW 0)<|eU ck<|eX 1 0)
def g!:U D->Res D:=fn 1 1 c7
def f_(x0:D):g! [x0]=bc (c7 [AC (.val x0)]):=bX _ _ _ _ rfl
end KA
set_option maxRecDepth 8000
namespace Z
def qC:(∀a,dC .bool (.int a)=AT)/\dC .int .non=AT/\(∀a,dC .int (.int a)=Da)/\dC .str .non=AT/\(∀a,dC .str (.bl a)=AT)/\(∀a,dC .str (.int a)=AT)/\(∀a,dC .str (.str a)=Da)/\(∀a,dC .str (.tup a)=AT)/\(∀a,dC .str (.lst a)=AT)/\(∀a b,dC .str (.dct a b)=AT)/\dC .tuple .non=AT/\(∀a,dC .tuple (.bl a)=AT)/\(∀a,dC .tuple (.int a)=AT)/\(∀a,dC .tuple (.str a)=AT)/\(∀a,dC .tuple (.tup a)=Da)/\(∀a,dC .tuple (.lst a)=AT)/\(∀a b,dC .tuple (.dct a b)=AT):=(λ _=>rfl,rfl,λ _=>rfl,rfl,λ _=>rfl,λ _=>rfl,λ _=>rfl,λ _=>rfl,λ _=>rfl,λ _ _=>rfl,rfl,λ _=>rfl,λ _=>rfl,λ _=>rfl,λ _=>rfl,λ _=>rfl,λ _ _=>rfl,)
end Z
namespace KA
open Z
abbrev Rows:=U<|U Nat
structure Hall(R L:Nat)(rows:Rows):Prop where
 r1:1<=R
 r2:R<=6
 l1:1<=L
 l2:L<=12
 len:rows.n=R
 each:∀x∈rows,x.n=L
 sg:∀x∈rows,∀c∈x,c∈signs
def nR(c:Nat):cH [.str [c]]=.ok (.bl<|decide (97<=c)&&decide (c<=122)):=by
 rw[kU];show ay ?_;by_cases h1:c<97
 .simp[fF,Jx,line,Nat.not_le.mpr h1]
 .by_cases h2:122<c
  .simp[fF,Jx,line,h2,A86.mp h1]
  .simp[fF,Jx,line,A86.mp h1,A86.mp h2]
def Ia(c:Nat):decide (c∈signs)=(c==46||c==61||c==35||(decide (97<=c)&&decide (c<=122))):=by
 by_cases h:c<128
 .exact(by decide:∀c<128,decide _=(c==46||c==61||c==35||(decide _&&decide (c<=122)))) c h
 .let h1:c∉signs:=λ m=>h<|(by decide:∀c∈signs,c<128) c m;let h2:¬c<=122:=by lia
  let h3:c≠46:=by lia
  let h4:c≠61:=by lia
  let h5:c≠35:=by lia
  simp[h1,h2,h3,h4,h5]
def RA(s t:U Nat):lQ (.str s) (.str t)=AC (s==t):=rfl
def BK(c:Nat):jl [.str [c]]=.ok (.bl<|decide<|c∈signs):=by
 rw[Et,Ia];show ay ?_;let e:=nR c;by_cases h1:c=46
 .subst h1;simp[i!,line,Ap,gU,RA]
 .by_cases h2:c=61
  .subst h2;simp[i!,line,Ap,gU,RA]
  .by_cases h3:c=35
   .subst h3;simp[i!,line,Ap,gU,RA]
   .simp[i!,Ap,gU,RA,e,h1,h2,h3];lia
def all_map{α:Type}(f:α->Bool)(xs:U α):allB (xs.map λ x=>D.bl<|f x)=AC (xs.all f):=by
 let:=Ah<|xs.map f;rw[A17]at this;rw[show(xs.map λ x=>D.bl _)=xs.map (D.bl∘f)from rfl,this]
 congr 1
 induction xs with
 |nil=>rfl
 |cons x xs ih=>simp
def Kn(cs:U Nat):Bool:=decide (1<=cs.n/\cs.n<=12)&&cs.all λ c=>decide (c∈signs)
def Km(cs:U Nat):Ok (bV (aJ 0) bM (ai jl<|aV 0 ah) [Ch]<|cs.map λ c=>.str [c]) λ ds=>ds=cs.map λ c=>D.bl (decide<|c∈signs):=
 bF (λ c=>D.str [c]) (λ _=>Da) (λ c=>.bl<|decide<|c∈signs) (λ c _=>by simp[BK]) (by rw[A87.mpr λ _ _=>rfl])
def Ec(cs:U Nat)(h:cs.n<=1000):i5 [.str cs]=.ok (.bl<|Kn cs):=by
 let hl:cs.n<=16777216:=by lia
 rw[g?];show ay ?_;unfold Kn;by_cases h1:1<=cs.n
 .by_cases h2:cs.n<=12
  .let e1:(1)<=(cs.n:Int):=by lia
   let e2:(cs.n:Int)<=12:=by lia
   simp[fE,Z.qC,hl,h1,h2,e1,e2,a!];show(Km cs).imp ?_;rintro ds rfl;simp[gZ,all_map]
  .let e2:¬(cs.n:Int)<=12:=by lia
   simp[fE,Z.qC,hl,h1,h2,e2,line]
 .let e1:¬(1)<=(cs.n:Int):=by lia
  simp[fE,Z.qC,hl,h1,e1,line]
def pE:D->Bool
|.str cs=>Kn cs
|_=>AT
def Fit(d:D):Prop:=∀cs,d=.str cs->cs.n<=1000
def Il(d:D)(h:Fit d):i5 [d]=.ok (.bl<|pE d):=by
 cases d with
 |str cs=>show Ec cs<|h cs rfl
 |non=>rw[g?];show ay (by simp[fE,Z.qC,pE])
 |bl _=>rw[g?];show ay (by simp[fE,Z.qC,pE])
 |int _=>rw[g?];show ay (by simp[fE,Z.qC,pE])
 |tup _=>rw[g?];show ay (by simp[fE,Z.qC,pE])
 |lst _=>rw[g?];show ay (by simp[fE,Z.qC,pE])
 |dct _ _=>rw[g?];show ay (by simp[fE,Z.qC,pE])
def D':D->Nat
|.str cs=>cs.n
|_=>0
def BU(xs:U D):Bool:=decide (1<=xs.n/\xs.n<=6)&&xs.all pE&&xs.all λ d=>D' d==D' (xs.headD .non)
def rV:D->Bool
|.tup xs=>BU xs
|_=>AT
def Ej(xs:U D)(h:∀d∈xs,Fit d):Ok (bV (aJ 0) bM (ai i5<|aV 0 ah) [Ch] xs) λ ds=>ds=xs.map λ d=>D.bl (pE d):=
 comp_map (λ d=>.bl _) (λ d hd=>by simp[Il d<|h d hd]) rfl
def F4(h:pE d=Da):ck d=.ok (.int<|D' d):=by
 cases d with
 |str cs=>
  let:cs.n<=16777216:=by erw[pE,Kn,B43]at h;lia
  simp[D',this]
 |_=>ext h
def Ei(h:∀d∈xs,pE d=Da):Ok (bV (aJ 0) bM (eB oEq (eU ck<|eW 0)<|eU ck<|eX 1 0) [Ch,v (.tup xs)] xs) λ ds=>ds=xs.map λ d=>D.bl (D' d==D' (xs.headD .non)):=
 comp_map (λ d=>.bl _) (λ d hd=>by
  cases xs with
  |nil=>ext hd
  | cons x xs=>let e0:aW (.tup<|x::xs) (.int 0)=.ok x:=(ft rfl rfl).1;let e1:=F4<|h d hd;let e2:=F4<|h x A10;simp[e0,e1,e2];show A65.mpr (by simp;lia)) rfl
def Ed(d:D)(h:∀xs,d=.tup xs->xs.n<=1000/\∀x∈xs,Fit x):g! [d]=.ok (.bl<|rV d):=by
 cases d with
 |tup xs=>
  let(h1,h2):=h xs rfl;let hl:xs.n<=16777216:=by lia
  rw[f_];show ay ?_;erw[rV,BU];by_cases q1:1<=xs.n
  .by_cases q2:xs.n<=6
   .let e1:(1)<=(xs.n:Int):=by lia
    let e2:(xs.n:Int)<=6:=by lia
    let c1:=Ej xs h2;cases q3:xs.all pE with
    |false=>simp[c7,Z.qC,hl,q1,q2,e1,e2,line,a!,fh];show c1.imp ?_;rintro ds rfl;simp[gZ,all_map,q3]
    |true=>let q4:=A35.mp q3;let c2:=Ei q4;simp[c7,Z.qC,hl,q1,q2,e1,e2,line,a!,fh];show c1.imp ?_;rintro ds rfl;simp[gZ,all_map,q3];show c2.imp ?_;rintro ds rfl;simp[gZ,all_map]
   .let e2:¬(xs.n:Int)<=6:=by lia
    simp[c7,Z.qC,hl,q1,q2,e2,line]
  .let e1:¬(1)<=(xs.n:Int):=by lia
   simp[c7,Z.qC,hl,q1,e1,line]
 |str _=>rw[f_];show ay (by simp[c7,Z.qC,rV])
 |non=>rw[f_];show ay (by simp[c7,Z.qC,rV])
 |bl _=>rw[f_];show ay (by simp[c7,Z.qC,rV])
 |int _=>rw[f_];show ay (by simp[c7,Z.qC,rV])
 |lst _=>rw[f_];show ay (by simp[c7,Z.qC,rV])
 |dct _ _=>rw[f_];show ay (by simp[c7,Z.qC,rV])
def Hall.b{R L:Nat}(H:Hall R L rows):BU (rows.map .str)=Da:=by
 unfold BU;let h1:=H.r1;let h2:=H.r2;let h3:=H.l1;let h4:=H.l2;erw[A60,B43,A04,H.len,A35];show(((h1,h2,),λ d hd=>?_,),λ d hd=>?_,)
 .let(r,hr,rfl):=A03.mp hd;erw[pE,Kn,A60,B43,A35,H.each r hr];show((h3,h4,),H.sg r hr,)
 .let(r,hr,rfl):=A03.mp hd;cases rows with
  |nil=>ext hr
  |cons x xs=>simp[D',H.each r hr,H.each x _]
end KA
set_option maxRecDepth 4000
namespace KS
open Z KA
def Yu:U Nat:=[48,49,50,51,52,53,54,55,56,57]
def jq:SF:=(aH<|vm (eU (iL .int)<|eW 0)<|RD<|eU (iL .bool)<|eW 0)
def gj:U D->Res D:=fn 1 1 jq
def Cb(x0:D):gj [x0]=bc (jq [AC (.val x0)]):=bX _ _ _ _ rfl
def cA:SF:=(aH<|vm (ai gj<|aV 0 ah)<|g_ oLe oLe (eW 1) (eW 0)<|eW 2)
def a8:U D->Res D:=fn 3 3 cA
def oJ(x0 x1 x2:D):a8 [x0,x1,x2]=bc (cA [AC (.val x0),AC (.val x1),AC (.val x2)]):=bX _ _ _ _ rfl
def ku:SF:=(aB (dB (yQ (fN<|tE<|eU (iL .str)<|eW 0)<|fN<|tE<|g_ oLe oLe (eI 1) (eU ck<|eW 0)<|eI 8) (aH<|eC<|.bl AT) aE)<|aH<|eU gZ<|eL<|bB (cY<|eW 0) 1 [] (aJ 0) bM<|ai KA.cH<|aV 0 ah)
def cR:U D->Res D:=fn 1 1 ku
def Eu(x0:D):cR [x0]=bc (ku [AC (.val x0)]):=bX _ _ _ _ rfl
def nc:SF:=(aH<|vm (eU (iL .str)<|eW 0)<|YZ (eB oEq (eW 0)<|eC<|.str [])<|ai KA.cH<|aV 0 ah)
def kS:U D->Res D:=fn 1 1 nc
def Ew(x0:D):kS [x0]=bc (nc [AC (.val x0)]):=bX _ _ _ _ rfl
def mG:SF:=(aH<|ai a8<|aV 0<|aV 1<|ae (eB ny (eB oy (eI 10)<|eI 60)<|eI 1) ah)
def gK:U D->Res D:=fn 2 2 mG
def zU(x0 x1:D):gK [x0,x1]=bc (mG [AC (.val x0),AC (.val x1)]):=bX _ _ _ _ rfl
def rp:SF:=(aB (dB (yQ (fN<|tE<|eU (iL .tuple)<|eW 0)<|tE<|eB o! (eU ck<|eW 0)<|eI 2) (aH<|eC<|.bl AT) aE)<|aH<|vm (ai a8<|aX 0 0<|aI 0<|aI 5 ah)<|ai gK<|aX 0 1<|aI 1 ah)
def jk:U D->Res D:=fn 1 1 rp
def Es(x0:D):jk [x0]=bc (rp [AC (.val x0)]):=bX _ _ _ _ rfl
def lu:SF:=(aB (dB (yQ (fN<|tE<|eU (iL .tuple)<|eW 0)<|fN<|tE<|eU gZ<|eL<|bB (cY<|eW 0) 1 [] (aJ 0) bM<|ai jk<|aV 0 ah) (aH<|eC<|.bl AT) aE)<|aH<|eU gZ<|eL<|bB (fT<|eB ny (eU ck<|eW 0)<|eI 1) 1 [0] (aJ 0) bM<|eB oLt (eB aW (eY 1 0)<|eI 0)<|eB aW (eB aW (eW 1)<|eB aC (eW 0)<|eI 1)<|eI 0)
def ie:U D->Res D:=fn 1 1 lu
def w8(x0:D):ie [x0]=bc (lu [AC (.val x0)]):=bX _ _ _ _ rfl
def hZ:SF:=(aB (dB (fN<|tE<|ai a8<|aX 0 1<|aI 1<|aI 12 ah) (aH<|eC<|.bl AT) aE)<|aB (dB (fN<|tE<|ai a8<|aX 0 2<|aI 1<|aI 3 ah) (aH<|eC<|.bl AT) aE)<|aB (dB (fN<|tE<|ai a8<|aX 0 4<|aI 0<|ae (eB fP (eX 0 1)<|eX 0 2) ah) (aH<|eC<|.bl AT) aE)<|aH<|vm (ai kS<|aX 0 3 ah)<|ai a8<|aX 0 5<|aI 0<|aI 6 ah)
def eZ:U D->Res D:=fn 1 1 hZ
def qc(x0:D):eZ [x0]=bc (hZ [AC (.val x0)]):=bX _ _ _ _ rfl
def oZ:SF:=(aB (dB (yQ (fN<|tE<|eU (iL .tuple)<|eW 0)<|tE<|eB o! (eU ck<|eW 0)<|eI 8) (aH<|eC<|.bl AT) aE)<|aB (dB (yQ (fN<|tE<|ai cR<|aX 0 0 ah)<|fN<|tE<|ai eZ<|aV 0 ah) (aH<|eC<|.bl AT) aE)<|aH<|vm (ai gK<|aX 0 6<|aI 0 ah)<|ai ie<|aX 0 7 ah)
def cq:U D->Res D:=fn 1 1 oZ
def Cc(x0:D):cq [x0]=bc (oZ [AC (.val x0)]):=bX _ _ _ _ rfl
def lh:SF:=(aB (l_ 1<|a9<|aX 0 0<|ae (eB aC (eB aC (eU dI<|eX 0 1)<|eC<|.str [120])<|eU dI<|eX 0 2) ah)<|aB (dB (tE<|eB o! (eX 0 3)<|eC<|.str []) (sD 1<|a9<|ae (eC<|.str [107,105,110,100])<|aX 0 3 ah) aE)<|aB (fm (cY<|cw<|ae (cw<|ae (eC<|.str [119,105,100,101])<|aI 4 ah)<|ae (cw<|ae (eC<|.str [103,97,112])<|aI 5 ah)<|ae (cw<|ae (eC<|.str [119,111,114,116,104])<|aI 6 ah) ah) (e_ [2,3])<|dB (tE<|eB zk (eY 0 3)<|eI 0) (sD 1<|a9<|aV 2<|ae (eU dI<|eY 0 3) ah) aE)<|aB (fm (cY<|eX 0 7) (aJ 4)<|sD 1<|a9<|ae (eC<|.str [114,111,119])<|ae (eU dI<|eX 4 0)<|ae (eU dI<|eX 4 1) ah)<|aH<|eB jd (eC<|.str [32])<|eW 1)
def ib:U D->Res D:=fn 1 5 lh
def wV(x0:D):ib [x0]=bc (lh [AC (.val x0),Ch,Ch,Ch,Ch]):=bX _ _ _ _ rfl
def gq:SF:=(aB (dB (yQ (fN<|tE<|g_ oLe oLe (eI 1) (eU ck<|eW 0)<|eI 60)<|fN<|tE<|eU gZ<|eL<|bB (cY<|eW 0) 1 [] (aJ 0) bM<|eB Ld (eW 0)<|eC<|.str Yu) (aH<|eC .non) aE)<|aH<|eU Bj<|eW 0)
def aZ:U D->Res D:=fn 1 1 gq
def zP(x0:D):aZ [x0]=bc (gq [AC (.val x0)]):=bX _ _ _ _ rfl
def mD:SF:=(aH<|eU gW<|eL<|bB (T4 (eI 0) (eB ny (eU ck<|eW 0)<|eI 2)<|eI 3) 1 [0] (aJ 0) bM<|cw<|ae (ai aZ<|ae (eB aW (eW 1)<|eB aC (eW 0)<|eI 1) ah)<|ae (ai aZ<|ae (eB aW (eW 1)<|eB aC (eW 0)<|eI 2) ah) ah)
def gJ:U D->Res D:=fn 1 1 mD
def zN(x0:D):gJ [x0]=bc (mD [AC (.val x0)]):=bX _ _ _ _ rfl
def o3:SF:=(aB (aO 1<|eB nL (eX 0 1)<|eC<|.str [120])<|aB (sTD 2 [([107,105,110,100],[]),([119,105,100,101],[48]),([103,97,112],[48]),([119,111,114,116,104],[48])])<|aB (aO 3<|eI 2)<|aB (fm (cY<|cw<|ae (eC<|.str [107,105,110,100])<|ae (eC<|.str [119,105,100,101])<|ae (eC<|.str [103,97,112])<|ae (eC<|.str [119,111,114,116,104]) ah) (aJ 4)<|dB (ue (tE<|eB oLt (eB aC (eW 3)<|eI 1)<|eU ck<|eW 0)<|tE<|eB oEq (eY 0 3)<|eW 4) (aB (Kj 2 (eV 4)<|eB aW (eW 0)<|eB aC (eW 3)<|eI 1)<|aO 3<|eB xK (eV 3)<|eI 2) aE)<|aH<|cw<|aX 0 0<|ae (ai aZ<|aX 1 0 ah)<|ae (ai aZ<|aX 1 2 ah)<|ae (qh 2<|eC<|.str [107,105,110,100])<|ae (ai aZ<|ae (qh 2<|eC<|.str [119,105,100,101]) ah)<|ae (ai aZ<|ae (qh 2<|eC<|.str [103,97,112]) ah)<|ae (ai aZ<|ae (qh 2<|eC<|.str [119,111,114,116,104]) ah)<|ae (ai gJ<|ae (eL<|LQ (eW 0) (qQ<|eW 3) NW) ah) ah)
def jK:U D->Res D:=fn 1 5 o3
def Cd(x0:D):jK [x0]=bc (o3 [AC (.val x0),Ch,Ch,Ch,Ch]):=bX _ _ _ _ rfl
def lj:SF:=(aB (dB (fN<|tE<|eU (iL .str)<|eW 0) jy aE)<|aB (aO 1<|eL<|LO (eW 0)<|eC<|.str [32])<|aB (dB (tE<|eB oLt (eU ck<|eW 1)<|eI 2) jy aE)<|aB (aO 2<|ai jK<|aV 1 ah)<|aB (dB (yQ (fN<|tE<|ai cq<|aV 2 ah)<|tE<|eB o! (ai ib<|aV 2 ah)<|eW 0) jy aE)<|aH<|eV 2)
def cL:U D->Res D:=fn 1 3 lj
def wW(x0:D):cL [x0]=bc (lj [AC (.val x0),Ch,Ch]):=bX _ _ _ _ rfl
end KS
set_option maxRecDepth 8000
namespace KS
open Z KA
def vA(n:Nat):∀c∈aQ n,48<=c/\c<=57:=by intro c hc;let(ch,Aq,e):=A03.mp hc;let r:=PyProof.Rows.digit_range<|Nat.isDigit_of_mem_toDigits ∅ ∅ Aq;rw[<-e];show r
def Gw(n:Nat):G4 (aQ n)=n:=PySem.W.KIN.val_back n
def Xm(n:Nat):aQ n≠[]:=by intro e;let h:=Gw n;let h2:=List.map_eq_nil_iff.mp e;let:=Nat.length_toDigits_pos (b:=10) (n:=n);rw[h2]at this;simp at this
def cX(hk:0<k)(h:n<10^k):(aQ n).length<=k:=by unfold aQ;rw[A04];show(Nat.length_toDigits_le_iff ∅ hk).mpr h
def af7(c:Nat):Yu.contains c=decide (48<=c/\c<=57):=by
 by_cases h:c<128
 .exact(by decide:∀c<128,Yu.contains c=decide (48<=c/\c<=57)) c h
 .let h2:=λ m=>h<|(by decide:∀c∈Yu,c<128) c m;rw[A65];simp;lia
def B6(cs:U Nat):Ok (bV (aJ 0) bM (eB Ld (eW 0)<|eC<|.str Yu) [Ch]<|cs.map λ c=>.str [c]) λ ds=>ds=cs.map λ c=>D.bl (decide<|48<=c/\c<=57):=
 bF (λ c=>D.str [c]) (λ _=>Da) (λ c=>.bl<|decide<|48<=c/\c<=57) (λ c _=>by
  let e:Ld (.str [c]) (.str Yu)=.ok (.bl<|decide<|48<=c/\c<=57):=by change Res.ok _=_;rw[af7]
  simp[e]) (by rw[A87.mpr λ _ _=>rfl])
def Qc(cs:U Nat):D:=if 1<=cs.n/\cs.n<=60/\∀c∈cs,48<=c/\c<=57 then .int (G4 cs)else .non
def HS(cs:U Nat)(h:cs.n<=16777216):aZ [.str cs]=.ok (Qc cs):=by
 rw[zP];show ay ?_;unfold Qc;by_cases h1:1<=cs.n
 .by_cases h2:cs.n<=60
  .let e1:(1)<=(cs.n:Int):=by lia
   let e2:(cs.n:Int)<=60:=by lia
   by_cases h3:∀c∈cs,48<=c/\c<=57
   .let e3:(cs.all λ c=>decide<|48<=c/\c<=57)=Da:=by rw[A35];show λ c hc=>A30<|h3 c hc
    let e4:Bj (.str cs)=.ok (.int<|G4 cs):=guard_pos ⟨by intro z;rw[z]at h1;simp at h1,by lia,h3⟩;let e5:gZ (.lst<|cs.map λ c=>D.bl<|decide<|48<=c/\c<=57)=.ok (.bl Da):=by erw[gZ,all_map,e3]
    rw[M2 ⟨h1,h2,h3⟩];simp[gq,h,e1,e2,line,a!,fh];show(B6 cs).imp ?_;rintro ds rfl;rw[e5];simp[e4]
   .let e3:(cs.all λ c=>decide<|48<=c/\c<=57)=AT:=by rw[AA3];intro z;show h3 λ c hc=>A98<|A35.mp z c hc
    let e5:gZ (.lst<|cs.map λ c=>D.bl<|decide<|48<=c/\c<=57)=.ok (.bl AT):=by erw[gZ,all_map,e3]
    rw[W1 λ z=>h3 z.2.2];simp[gq,h,e1,e2,line,a!,fh];show(B6 cs).imp ?_;rintro ds rfl;rw[e5];simp
  .let e2:¬(cs.n:Int)<=60:=by lia
   simp[gq,h,h1,h2,e2,line]
 .let e1:¬(1)<=(cs.n:Int):=by lia
  simp[gq,h,h1,e1,line]
def Qb(h:n<10^60):Qc (aQ n)=.int n:=by unfold Qc;rw[M2 ⟨List.length_pos_iff.mpr<|Xm n,cX ∅ h,vA n⟩,Gw]
def f9(h:n<10^60):aZ [.str (aQ n)]=.ok (.int n):=by rw[HS _<|A14 (cX ∅ h) ∅,Qb h]
structure Gp where
 nm:List Nat
 w:Nat
 d:Nat
 kd:List Nat
 wi:Nat
 ga:Nat
 wo:Nat
 ws:List (Nat×Nat)
def fg(p:Nat×Nat):D:=.tup [.int p.1,.int p.2]
def bU(g:Gp):D:=.tup [.str g.nm,.int g.w,.int g.d,.str g.kd,.int g.wi,.int g.ga,.int g.wo,.tup (g.ws.map fg)]
structure ia(g:Gp):Prop where
 n1:1<=g.nm.n
 n2:g.nm.n<=8
 nl:∀c∈g.nm,c∈aK
 w1:1<=g.w
 w2:g.w<=12
 d1:1<=g.d
 d2:g.d<=3
 kd:g.kd=[]\/∃c∈aK,g.kd=[c]
 wi:g.wi<=g.w*g.d
 ga:g.ga<=6
 wo:g.wo<10^60
 wl:g.ws.n<=6
 wr:∀p∈g.ws,p.1<=5/\1<=p.2/\p.2<10^60
 up:(g.ws.map (·.1)).Pairwise (· < ·)
abbrev cD:U Nat:=[107,105,110,100]
abbrev ba:U Nat:=[119,105,100,101]
abbrev b!:U Nat:=[103,97,112]
abbrev aL:U Nat:=[119,111,114,116,104]
abbrev Ae:U Nat:=[114,111,119]
def cC(g:Gp):U Nat:=aQ g.w++[120]++aQ g.d
def cZ(k:U Nat):Rows:=if k=[]then[]else[cD,k]
def bC(key:U Nat)(n:Nat):Rows:=if 0<n then[key,aQ n]else[]
def bh(p:Nat×Nat):Rows:=[Ae,aQ p.1,aQ p.2]
def aY(g:Gp):Rows:=[g.nm,cC g]++cZ g.kd++bC ba g.wi++bC b! g.ga++bC aL g.wo++(g.ws.map bh).flatten
def ji(h:Ok (g d Y) λ Y1=>Ok (b Y1) (turn (λ Y2=>Ok (dQ g b r Y2) Q) Q)):Ok (dQ g b (d::r) Y) Q:=by
 let(Y1,e1,fl,e2,h):=h;unfold dQ;rw[e1,Res.cW,e2,Res.cW];cases fl with
 |nx Y=>show h
 |ct Y=>show h
 |bk Y=>show(_,rfl,h,)
 |rt d=>show(_,rfl,h,)
def Gi(h:Q (.nx Y)):Ok (dQ g b [] Y) Q:=(_,rfl,h,)
def aev{n:Nat}(h:n<10^60):(n:Int)<10^70:=by let:n<10^70:=B56 h ∅;exact_mod_cast this
def gC{n:Nat}(h:n<10^60):dI (.int n)=.ok (.str<|aQ n):=zj n<|aev h
def E?(k:ia g):g.wi<10^60:=by let h1:=k.wi;let h2:=A55 k.w2 k.d2;show B71 (A14 h1 h2) ∅
def bq(h:n<=100):n<10^60:=B71 h ∅
def GH:SF:=(dB (tE<|eB zk (eY 0 3)<|eI 0) (sD 1<|a9<|aV 2<|ae (eU dI<|eY 0 3) ah) aE)
def qI{n:Nat}(e:aW (bU g) (.int k)=.ok (.int n))(hn:n<10^60)(hl:ws.n<=100)(x2 x3 x4:ε L):
 Ok (e_ [2,3] (.tup [.str key,.int k]) [v (bU g),ow (ws.map .str),x2,x3,x4]) λ Y1=>Ok (GH Y1) λ fl=>fl=.nx [v (bU g),ow ((ws++bC key n).map .str),v (.str key),vi k,x4]:=by
 let es:=gC hn;let iS:ws.n+2<=16777216:=by lia
 by_cases h:0<n
 .let h':(0)<(n):=by lia
  simp -implicitDefEqProofs [GH,e,h,es,bC,line,iS]
 .let h':¬(0)<(n):=by lia
  simp -implicitDefEqProofs [GH,e,h,bC]
def QV{ts:Rows}(hl:ts.n<=1000)(h:∀x∈ts,x.n<=1000):jd (.str [32]) (.lst<|ts.map .str)=.ok (.str<|b9 [32] ts):=by
 let h1:(ts.map List.n).sum<=ts.n*1000:=by
  clear hl
  induction ts with
  |nil=>simp
  |cons x r ih=>let:=ih λ y hy=>h y<|A08 _ hy;let:=h x A10;erw[A06,B39,A22];lia
 change(match ja _ with|some ts=>guard ((ts.map _).sum+ts.n*1<=line) _|none=>Res.bad)=_;rw[kD];simp only;rw[guard_pos];erw[line];lia
def iu(key:U Nat)(n:Nat):(bC key n).length<=2:=by unfold bC;split<;>simp
def qW(k:U Nat):(cZ k).length<=2:=by unfold cZ;split<;>simp
def tQ(ws:U _):((ws.map bh).flatten).length=3*ws.n:=by
 induction ws with
 |nil=>rfl
 |cons p r ih=>erw[A06,B14,A23,ih];simp[bh];lia
def mK(k:ia g):(aY g).length<=28:=by let:=iu ba g.wi;let:=iu b! g.ga;let:=iu aL g.wo;let:=qW g.kd;let:=k.wl;erw[aY,A23,tQ,A22,A76];lia
def uI(hk:key.n<=60)(hn:n<10^60):∀x∈bC key n,x.n<=121:=by
 intro x hx;unfold bC at hx;split at hx
 .rcases A01.mp hx with rfl|hx
  .lia
  .rw[A11.mp hx];let:=cX ∅ hn;lia
 .ext hx
def nZ(k:ia g):∀x∈aY g,x.n<=121:=by
 intro x hx;erw[aY,A34]at hx;rcases hx with((((hx|hx)|hx)|hx)|hx)|hx
 .rcases A01.mp hx with rfl|hx
  .let:=k.n2;lia
  .rw[A11.mp hx];let h1:=cX (n:=g.w) ∅<|bq (by let:=k.w2;lia);let h2:=cX (n:=g.d) ∅<|bq (by let:=k.d2;lia);erw[cC,A23,A22,A76];lia
 .unfold cZ at hx;split at hx
  .ext hx
  .rcases A01.mp hx with rfl|hx
   .decide
   .rw[A11.mp hx];rcases k.kd with h|⟨c,_,h⟩<;>rw[h]<;>simp
 .exact uI ∅ (E? k) x hx
 .exact uI ∅ (bq (by let:=k.ga;lia)) x hx
 .exact uI ∅ k.wo x hx
 .let(y,hy,hx):=List.mem_flatten.mp hx;let(p,hp,rfl):=A03.mp hy;let(h1,h2,h3):=k.wr p hp;let l1:=cX (n:=p.1) ∅<|bq ∅;let l2:=cX ∅ h3;erw[bh,A01,A39,A42]at hx;rcases hx with rfl|rfl|rfl
  .decide
  .lia
  .lia
def fO(h:Ok (a Y) λ fl=>fl=.nx Y1)(k:Ok (b Y1) Q):Ok (aB a b Y) Q:=by let(fl,e,rfl):=h;rw[ur,e,Res.cW];show k
def ex0:aW (bU g) (.int 0)=.ok (.str g.nm):=rfl
def ex1:aW (bU g) (.int 1)=.ok (.int g.w):=rfl
def ex2:aW (bU g) (.int 2)=.ok (.int g.d):=rfl
def YW:aW (bU g) (.int 3)=.ok (.str g.kd):=rfl
def ex4:aW (bU g) (.int 4)=.ok (.int g.wi):=rfl
def ex5:aW (bU g) (.int 5)=.ok (.int g.ga):=rfl
def ex6:aW (bU g) (.int 6)=.ok (.int g.wo):=rfl
def ex7:aW (bU g) (.int 7)=.ok (.tup<|g.ws.map fg):=rfl
def Qg(k:U Nat):o! (.str k) (.str [])=.ok (.bl<|decide<|k≠[]):=by ext k<;>rfl
def bs1:SF:=l_ 1<|a9<|aX 0 0<|ae (eB aC (eB aC (eU dI<|eX 0 1)<|eC<|.str [120])<|eU dI<|eX 0 2) ah
def bs2:SF:=dB (tE<|eB o! (eX 0 3)<|eC<|.str []) (sD 1<|a9<|ae (eC<|.str [107,105,110,100])<|aX 0 3 ah) aE
def bs3:SF:=fm (cY<|cw<|ae (cw<|ae (eC<|.str [119,105,100,101])<|aI 4 ah)<|ae (cw<|ae (eC<|.str [103,97,112])<|aI 5 ah)<|ae (cw<|ae (eC<|.str [119,111,114,116,104])<|aI 6 ah) ah) (e_ [2,3]) GH
def bs4:SF:=fm (cY<|eX 0 7) (aJ 4)<|sD 1<|a9<|ae (eC<|.str [114,111,119])<|ae (eU dI<|eX 4 0)<|ae (eU dI<|eX 4 1) ah
def kA:lh=aB bs1 (aB bs2<|aB bs3<|aB bs4<|aH<|eB jd (eC<|.str [32])<|eW 1):=rfl
def X7(k:ia g):Ok (bs1 [v (bU g),Ch,Ch,Ch,Ch]) λ fl=>fl=.nx [v (bU g),ow ([g.nm,cC g].map .str),Ch,Ch,Ch]:=by
 let sw:=gC<|bq (n:=g.w) (by let:=k.w2;lia);let sd:=gC<|bq (n:=g.d) (by let:=k.d2;lia);let lw:=cX (n:=g.w) ∅<|bq (by let:=k.w2;lia);let ld:=cX (n:=g.d) ∅<|bq (by let:=k.d2;lia);let q1:(aQ g.w).length+1<=16777216:=by lia
 let q2:(aQ g.w).length+1+(aQ g.d).length<=16777216:=by lia
 simp -implicitDefEqProofs [bs1,ex0,ex1,ex2,sw,sd,line,q1,q2,cC]
def X6:Ok (bs2 [v (bU g),ow ([g.nm,cC g].map .str),Ch,Ch,Ch]) λ fl=>fl=.nx [v (bU g),ow (([g.nm,cC g]++cZ g.kd).map .str),Ch,Ch,Ch]:=by
 by_cases h:g.kd=[]
 .simp -implicitDefEqProofs [bs2,YW,h,cZ]
 .simp -implicitDefEqProofs [bs2,YW,h,cZ,line]
def X5(k:ia g):Ok (bs3 [v (bU g),ow (([g.nm,cC g]++cZ g.kd).map .str),Ch,Ch,Ch]) λ fl=>∃x2 x3,fl=.nx [v (bU g),ow (([g.nm,cC g]++cZ g.kd++bC ba g.wi++bC b! g.ga++bC aL g.wo).map .str),x2,x3,Ch]:=by
 let hk:=qW g.kd;let h1:=iu ba g.wi;let h2:=iu b! g.ga;let hi:∀Y,cY (cw<|ae (cw<|ae (eC _)<|ae (eC _) ah)<|ae (cw<|ae (eC<|.str [103,97,112])<|aI 5 ah)<|ae (cw<|ae (eC<|.str [119,111,114,116,104])<|aI 6 ah) ah) Y=.ok [.tup [.str ba,.int 4],.tup [.str b!,.int 5],.tup [.str aL,.int 6]]:=λ Y=>by let g2:∀a b,guard ([a,b].length<=line) (Res.ok<|D.tup [a,b])=.ok (.tup [a,b]):=λ a b=>guard_pos (by simp[line]);let g3:∀a b c,guard ([a,b,c].length<=line) (Res.ok<|D.tup [a,b,c])=.ok (.tup [a,b,c]):=λ a b c=>guard_pos (by simp[line]);change(((guard ([D.str [119,105,100,101],.int 4].length<=line)<|Res.ok<|D.tup [.str [119,105,100,101],.int 4]).bind λ x=>((guard ([D.str [103,97,112],.int 5].length<=line)<|Res.ok<|D.tup [.str [103,97,112],.int 5]).bind λ x=>((guard ([D.str [119,111,114,116,104],.int 6].length<=line)<|Res.ok<|D.tup [.str [119,111,114,116,104],.int 6]).bind λ x=>Res.ok [x]).bind λ xs=>.ok<|x::xs).bind λ xs=>.ok<|x::xs).bind λ xs=>guard (xs.n<=line)<|.ok<|.tup xs).bind mi=_;rw[g2,g2,g2];erw[Res.cW];rw[g3];rfl
 unfold bs3;rw[fm,hi,Res.cW];show ji<|(qI ex4 (E? k) (by simp;lia) Ch Ch Ch).imp λ Y1 h=>h.imp ?_;rintro fl rfl;rw[kB];show ji<|(qI ex5 (bq (by let:=k.ga;lia)) (by simp;lia) _ _ Ch).imp λ Y1 h=>h.imp ?_;rintro fl rfl;rw[kB];show ji<|(qI ex6 k.wo (by simp;lia) _ _ Ch).imp λ Y1 h=>h.imp ?_;rintro fl rfl;rw[kB];show Gi ⟨_,_,rfl⟩
def X4(k:ia g)(hw:Rows)(hl:hw.n<=20)(x2 x3:ε L):Ok (bs4 [v (bU g),ow (hw.map .str),x2,x3,Ch]) λ fl=>∃x4,fl=.nx [v (bU g),ow ((hw++(g.ws.map bh).flatten).map .str),x2,x3,x4]:=by
 unfold bs4;let hi:cY (eX 0 7) [v (bU g),ow (hw.map .str),x2,x3,Ch]=.ok (g.ws.map fg):=by simp -implicitDefEqProofs [ex7]
 rw[fm,hi,Res.cW];show fR (λ i Y=>∃x4,Y=[v (bU g),ow ((hw++((g.ws.take i).map bh).flatten).map .str),x2,x3,x4]) ⟨Ch,by simp⟩ ?_ ?_
 .rintro j d Y hj ⟨x4,rfl⟩;rw[A07]at hj;let(p,hp,rfl):=B31.mp hj;let(r1,r2,r3):=k.wr p (A25 hp);let s1:=gC<|bq (n:=p.1) ∅;let s2:=gC r3;let i0:aW (fg p) (.int 0)=.ok _:=rfl;let i1:aW (fg p) (.int 1)=.ok _:=rfl;let wl:=tQ<|g.ws.take j;let tl:(g.ws.take j).length<=6:=by let:=k.wl;rw[A32];lia
  let ht:g.ws.take (j+1)=g.ws.take j++[p]:=by rw[B61,hp];rfl
  obtain⟨W,hW⟩:∃W,W=hw++((g.ws.take j).map bh).flatten:=(_,rfl,)
  let hn:hw++((g.ws.take<|j+1).map bh).flatten=W++bh p:=by rw[ht,hW];simp
  rw[hn,<-hW];let hWl:W.n+3<=16777216:=by rw[hW,A23];lia
  clear hW hn ht;simp -implicitDefEqProofs [i0,i1,s1,s2,line,hWl,bh]
 .rintro Y ⟨x4,rfl⟩;rw[A04,B20];show(x4,rfl,)
def sU(k:ia g):ib [bU g]=.ok (.str<|b9 [32]<|aY g):=by
 let hk:=qW g.kd;let h1:=iu ba g.wi;let h2:=iu b! g.ga;let h3:=iu aL g.wo;let ej:=QV (ts:=aY g) (by let:=mK k;lia) λ x hx=>by let:=nZ k x hx;lia
 rw[wV,kA];show ay<|fO (X7 k)<|fO X6 ?_;rw[ur,tJ];show(X5 k).imp ?_;rintro fl ⟨x2,x3,rfl⟩;rw[sV,ur,tJ];show(X4 k _ (by simp;lia) x2 x3).imp ?_;rintro fl ⟨x4,rfl⟩;rw[sV];change Ok (aH _ [v _,ow ((aY g).map .str),x2,x3,x4]) _;simp -implicitDefEqProofs [ej]
def _U{n:Nat}(h:n<10^60):(n:Int)<=10^60-1:=by
 let h2:(n:Int)<10^60:=by exact_mod_cast h
 show Int.le_sub_one_of_lt h2
def xo(n:Int):gj [.int n]=.ok (.bl Da):=by rw[Cb];show ay (by simp[jq,Z.qC])
def within_int(n a b:Int):a8 [.int n,.int a,.int b]=.ok (.bl<|decide<|a<=n/\n<=b):=by
 rw[oJ];show ay ?_;by_cases h1:a<=n
 .simp[cA,xo,h1]
 .simp[cA,xo,h1]
def vP(n a:Int):gK [.int n,.int a]=.ok (.bl<|decide<|a<=n/\n<=10^60-1):=by rw[zU];show ay ?_;simp[mG,within_int]
def Qz(c:Nat):decide (c∈aK)=(decide (97<=c)&&decide (c<=122)):=by
 by_cases h:c<128
 .exact(by decide:∀c<128,decide _=(decide _&&decide (c<=122))) c h
 .let h1:c∉aK:=λ m=>h<|(by decide:∀c∈aK,c<128) c m;let h2:¬c<=122:=by lia
  simp[h1,h2]
def uP(c:Nat):cH [.str [c]]=.ok (.bl<|decide<|c∈aK):=by rw[nR,Qz]
def HZ(cs:U Nat):Ok (bV (aJ 0) bM (ai KA.cH<|aV 0 ah) [Ch]<|cs.map λ c=>.str [c]) λ ds=>ds=cs.map λ c=>D.bl (decide<|c∈aK):=
 bF (λ c=>D.str [c]) (λ _=>Da) (λ c=>.bl<|decide<|c∈aK) (λ c _=>by simp[uP]) (by rw[A87.mpr λ _ _=>rfl])
def xO(cs:U Nat):Bool:=decide (1<=cs.n/\cs.n<=8)&&cs.all λ c=>decide (c∈aK)
def FY(cs:U Nat)(h:cs.n<=16777216):cR [.str cs]=.ok (.bl<|xO cs):=by
 rw[Eu];show ay ?_;unfold xO;by_cases h1:1<=cs.n
 .by_cases h2:cs.n<=8
  .let e1:(1)<=(cs.n:Int):=by lia
   let e2:(cs.n:Int)<=8:=by lia
   simp[ku,Z.qC,h,h1,h2,e1,e2,a!,fh];show(HZ cs).imp ?_;rintro ds rfl;simp[gZ,all_map]
  .let e2:¬(cs.n:Int)<=8:=by lia
   simp[ku,Z.qC,h,h1,h2,e2,line]
 .let e1:¬(1)<=(cs.n:Int):=by lia
  simp[ku,Z.qC,h,h1,e1,line]
def kindB(cs:U Nat):Bool:=cs==[]||(decide (cs.n=1)&&cs.all λ c=>decide (c∈aK))
def Ic(cs:U Nat)(h:cs.n<=16777216):cH [.str cs]=.ok (.bl<|decide (cs.n=1)&&cs.all λ c=>decide (c∈aK)):=by
 cases cs with
 |nil=>rw[kU];show ay (by simp[fF])
 |cons c r=>
  cases r with
  |nil=>rw[uP];simp
  |cons c' r=>
   rw[kU];show ay ?_;let e:¬((r.n:Int)+1+1=1):=by lia
   let h':r.n+1+1<=16777216:=by simpa using h
   simp[fF,h',e]
def QQ(cs:U Nat)(h:cs.n<=16777216):kS [.str cs]=.ok (.bl<|kindB cs):=by
 let hl:=Ic cs h;rw[Ew];show ay ?_;unfold kindB;let en:oEq (.str cs) (.str [])=.ok (.bl<|decide<|cs=[]):=by ext cs<;>rfl
 by_cases h0:cs=[]
 .subst h0;let en':oEq (.str []) (.str [])=.ok _:=rfl;simp[nc,Z.qC]
 .let hb:(cs==[])=AT:=by simpa using h0
  simp[nc,Z.qC,hl,hb]
section
variable{g:Gp}
def OC(h:p.1<=5/\1<=p.2/\p.2<10^60):jk [fg p]=.ok (.bl Da):=by let i0:aW (fg p) (.int 0)=.ok _:=rfl;let i1:aW (fg p) (.int 1)=.ok _:=rfl;let w1:=within_int p.1 0 5;let w2:=vP p.2 1;let q1:decide ((0)<=(p.1:Int)/\(p.1:Int)<=5)=Da:=A30 ∅;let q2:decide ((1)<=(p.2:Int)/\(p.2:Int)<=10^60-1)=Da:=A30 ⟨by lia,_U h.2.2⟩;rw[q1]at w1;rw[q2]at w2;rw[Es];show ay ?_;let ty:dC .tuple (fg p)=Da:=rfl;let ln:ck (fg p)=.ok _:=rfl;simp[rp,ty,ln,i0,i1,w1,w2]
def G2(hw:∀p∈g.ws,p.1<=5/\1<=p.2/\p.2<10^60):Ok (bV (aJ 0) bM (ai jk<|aV 0 ah) [Ch]<|g.ws.map fg) λ ds=>ds=g.ws.map λ _=>D.bl Da:=
 bF fg (λ _=>Da) (λ _=>.bl Da) (λ p hp=>by simp[OC<|hw p hp]) (by rw[A87.mpr λ _ _=>rfl])
def Hv(hu:(g.ws.map (·.1)).Pairwise (· < ·)):Ok (bV (aJ 0) bM (eB oLt (eB aW (eY 1 0)<|eI 0)<|eB aW (eB aW (eW 1)<|eB aC (eW 0)<|eI 1)<|eI 0) [Ch,v (.tup<|g.ws.map fg)]<|(FB<|g.ws.n-1).map λ n=>D.int (n:Nat)) λ ds=>ds=(FB<|g.ws.n-1).map λ _=>D.bl Da:=
 bF (λ n=>D.int (n:Nat)) (λ _=>Da) (λ _=>.bl Da) (λ n hn=>by
  let Gd:=A33.mp hn;let l1:n<g.ws.n:=A19 Gd (Nat.sub_le _ _)
  let l2:n+1<g.ws.n:=Nat.add_lt_of_lt_sub Gd
  let i1:aW (.tup<|g.ws.map fg) (.int<|n)=.ok (fg g.ws[n]):=(ft rfl (by rw[A07,A05];rfl)).1;let i2:aW (.tup<|g.ws.map fg) (.int<|(n)+1)=.ok (fg g.ws[n+1]):=(ft (j:=n+1) ∅ (by rw[A07,A05 l2];rfl)).1;let j1:∀p,aW (fg p) (.int 0)=.ok (.int p.1):=λ p=>rfl;let lt:g.ws[n].1<g.ws[n+1].1:=by let:=C29.mp hu n (n+1) (by simp;lia) (by simp;lia) ∅;simpa using this
  let lt':((g.ws[n].1))<(g.ws[n+1].1):=by lia
  simp[i1,i2,j1,lt']) (by rw[A87.mpr λ _ _=>rfl])
def all_true{α:Type}(xs:U α):gZ (.lst<|xs.map λ _=>D.bl Da)=.ok (.bl Da):=by let:=all_map (λ _=>Da) xs;erw[gZ,this];simp
def CQ(k:ia g):ie [.tup (g.ws.map fg)]=.ok (.bl Da):=by
 let hl:g.ws.n<=16777216:=by let:=k.wl;lia
 let e1:«zints» 0 (g.ws.n-1)=(FB<|g.ws.n-1).map λ n=>D.int (n:Nat):=by show A84 λ n _=>by simp
 rw[w8];show ay ?_;simp[lu,Z.qC,hl,a!];show(G2 k.wr).imp ?_;rintro ds rfl;rw[all_true];simp[hl];rw[e1];show⟨by lia,(Hv k.up).imp ?_⟩;rintro ds rfl;rw[all_true];simp
def SJ(k:ia g):eZ [bU g]=.ok (.bl Da):=by
 let w1:=within_int g.w 1 12;let w2:=within_int g.d 1 3;let w3:=within_int g.wi 0<|(g.w)*(g.d);let w4:=within_int g.ga 0 6;rw[A30<|⟨by let:=k.w1;lia,by let:=k.w2;lia⟩]at w1;rw[A30<|⟨by let:=k.d1;lia,by let:=k.d2;lia⟩]at w2;rw[A30<|⟨by lia,by let:=k.wi;exact_mod_cast this⟩]at w3;rw[A30<|⟨by lia,by let:=k.ga;lia⟩]at w4;let wk:=QQ g.kd (by rcases k.kd with h|⟨c,_,h⟩<;>rw[h]<;>simp);let wk':kindB g.kd=Da:=by
  rcases k.kd with h|⟨c,hc,h⟩<;>rw[h]
  .rfl
  .simp[kindB,hc]
 rw[wk']at wk;let m:bS (g.w) (g.d):=dP ∅ (by let:=k.w2;lia);rw[qc];show ay ?_;simp[hZ,ex1,ex2,YW,ex4,ex5,w1,w2,w3,w4,wk,m]
def BV(k:ia g):cq [bU g]=.ok (.bl Da):=by
 let hn:=FY g.nm (by let:=k.n2;lia);let Gd:xO g.nm=Da:=by unfold xO;rw[A30 ⟨k.n1,k.n2⟩,C00,A35];show λ c hc=>A30<|k.nl c hc
 rw[Gd]at hn;let ha:=SJ k;let hw:=CQ k;let ho:=vP g.wo 0;rw[A30<|⟨by lia,_U k.wo⟩]at ho;let ty:dC .tuple (bU g)=Da:=rfl;let ln:ck (bU g)=.ok _:=rfl;rw[Cc];show ay ?_;simp[oZ,ty,ln,ex0,ex6,ex7,hn,ha,ho,hw]
def M4(h:c<48\/57<c):c∉aQ n:=λ m=>by let:=vA n c m;lia
def LK(h:c∈aK):c≠32:=by rintro rfl;show absurd h ∅
def JL(k:ia g):∀x∈aY g,32∉x:=by
 let dn:∀n,32∉aQ n:=λ n=>M4 ∅;intro x hx;erw[aY,A34]at hx;let WI:∀{key}{n},32∉key->x∈bC key n->32∉x:=by
  intro key n hk hx;unfold bC at hx;split at hx
  .rcases A01.mp hx with rfl|hx
   .exact hk
   .rw[A11.mp hx];show dn n
  .ext hx
 rcases hx with((((hx|hx)|hx)|hx)|hx)|hx
 .rcases A01.mp hx with rfl|hx
  .exact λ m=>LK (k.nl _ m) rfl
  .rw[A11.mp hx,cC];erw[A34,A71];show(⟨dn _,by decide⟩,dn _,)
 .unfold cZ at hx;split at hx
  .ext hx
  .rcases A01.mp hx with rfl|hx
   .decide
   .rw[A11.mp hx];rcases k.kd with h|⟨c,hc,h⟩<;>rw[h]
    .simp
    .intro m;show LK hc (A11.mp m).symm
 .exact WI ∅ hx
 .exact WI ∅ hx
 .exact WI ∅ hx
 .let(y,hy,hx):=List.mem_flatten.mp hx;let(p,hp,rfl):=A03.mp hy;erw[bh,A01,A39,A42]at hx;rcases hx with rfl|rfl|rfl
  .decide
  .exact dn _
  .exact dn _
def uZ:∀(ts:Rows),(∀x∈ts,x.n<=m)->(b9 [32] ts).length<=ts.n*(m+1)
|[],_=>by simp[b9]
|[x],h=>by let:=h x ∅;simp[b9];lia
|x::y::r,h=>by let h1:=h x ∅;let h2:=uZ _ λ z hz=>h z<|A08 _ hz;erw[b9,A23,A22,A76]at h2 ⊢;rw[Nat.add_mul,Nat.add_mul]at *;lia
def EX(cs:U Nat)(c i:Nat):PySem.StrLaws.At (⟨cs.q⟩) ⟨#[c]⟩ (⟨cs.q⟩:AF0).length i↔cs[i]?=AC c:=by let:=PySem.StrLaws.subAt_one (⟨cs.q⟩) c i;rw[show(⟨_⟩:AF0).cps.toList=cs from rfl]at this;show this
def zf(cs:U Nat)(c:Nat):(Pi ⟨cs.q⟩ ⟨#[c]⟩ 0 cs.length 1=[]/\c∉cs)\/∃i r,Pi ⟨cs.q⟩ ⟨#[c]⟩ 0 cs.length 1=i::r/\cs[i]?=AC c/\∀k,k<i->cs[k]?≠AC c:=by
 let hl:(⟨cs.q⟩:AF0).length=cs.n:=by change cs.q.u=cs.n;simp
 rcases PySem.StrLaws.occ_head (⟨_⟩) ⟨#[c]⟩ 1 (P3 _)with⟨h,hn⟩|⟨i,r,h,ha,hn⟩
 .left;rw[hl]at h;show(h,λ m=>?_,);let(i,hi):=List.mem_iff_getElem?.mp m;show hn i<|(EX cs c i).mpr hi
 .right;rw[hl]at h;show(i,r,h,(EX cs c i).mp ha,λ k hk z=>hn k hk<|(EX cs c k).mpr z,)
def FK(h:c∉a):jc c (a++c::b)=(a,[c],b):=by
 let ha:(a++c::b)[a.n]?=AC c:=by simp
 unfold jc;rcases zf (a++c::b) c with⟨_,hn⟩|⟨i,r,e,hi,hm⟩
 .exact absurd (A34.mpr<|.inr A10) hn
 .rw[e];let e1:i=a.n:=by
   rcases Nat.lt_trichotomy i _ with j?|heq|hgt
   .rw[A37 j?]at hi;show absurd (A25 hi) h
   .exact heq
   .exact absurd ha<|hm _ hgt
  subst e1;simp
def nG(g:Gp):D:=.tup [.str (aQ g.w),.str [120],.str (aQ g.d)]
def Px(k:ia g):nL (.str<|cC g) (.str [120])=.ok (nG g):=by
 let lw:=cX (n:=g.w) ∅<|bq (by let:=k.w2;lia);let ld:=cX (n:=g.d) ∅<|bq (by let:=k.d2;lia);let hl:(cC g).length<=line:=by erw[cC,A23,A22,A76];lia
 change guard _ _=_;rw[guard_pos hl,show cC g=aQ g.w++120::aQ g.d by simp[cC],FK<|M4 ∅];rfl
def Nv(ws:U (Nat×Nat))(hl:ws.n<=100)(hw:∀p∈ws,p.1<10^60/\p.2<10^60):gJ [.lst ((ws.map bh).flatten.map .str)]=.ok (.tup<|ws.map fg):=by
 let len:=tQ ws;let e3:ints3 0 ws.n=(FB ws.n).map λ n=>D.int ((n:Nat)*3):=by unfold ints3;show A84 λ n _=>by simp
 let at1:∀n h,((ws.map bh).flatten.map D.str)[3*n+1]?=AC (.str<|aQ ws[n].1)/\((ws.map bh).flatten.map D.str)[3*n+2]?=AC (.str<|aQ ws[n].2):=by
  clear e3 hl len hw
  induction ws with
  |nil=>intro n h;ext h
  |cons p r ih=>
   intro n h;cases n with
   |zero=>show(rfl,rfl,)
   |succ n=>let:=ih n (by calc h);rw[show 3*(n+1)+1=(3*n+1)+1+1+1 by lia,show 3*(n+1)+2=(3*n+2)+1+1+1 by lia];simpa[bh]using this
 obtain⟨f,hf⟩:∃f,∀n h,f n=fg ws[n]:=⟨λ n=>if h:n<ws.n then fg ws[n]else .non,λ n h=>by simp[h]⟩
 let _T:(((ws.map bh).flatten.map D.str).length:Int)=3*(ws.n:Int):=by rw[A04,len];push_cast;rfl
 let iS:((ws.map bh).flatten.map D.str).length<=16777216:=by rw[A04];lia
 generalize (ws.map bh).flatten.map D.str=WD at at1 _T iS ⊢;let ec:Ok (bV (aJ 0) bM (cw<|ae (ai aZ<|ae (eB aW (eW 1)<|eB aC (eW 0)<|eI 1) ah)<|ae (ai aZ<|ae (eB aW (eW 1)<|eB aC (eW 0)<|eI 2) ah) ah) [Ch,v (.lst WD)]<|(FB ws.n).map λ n=>D.int<|(n:Nat)*3) λ ds=>ds=ws.map fg:=by
  show bF (λ n=>D.int<|(n:Nat)*3) (λ _=>Da) f (xs:=FB ws.n) (λ n hn=>?_) ?_
  .let Gd:=A33.mp hn;let(a1,a2):=at1 n Gd;let i1:aW (.lst WD) (.int<|(n:Nat)*3+1)=.ok (.str<|aQ ws[n].1):=(ft (j:=3*n+1) (by push_cast;lia) a1).2;let i2:aW (.lst WD) (.int<|(n:Nat)*3+2)=.ok (.str<|aQ ws[n].2):=(ft (j:=3*n+2) (by push_cast;lia) a2).2;let(p1,p2):=hw ws[n] (B15 Gd);let d1:=f9 p1;let d2:=f9 p2;let hg:=hf n Gd;unfold fg at hg;simp -implicitDefEqProofs [i1,i2,d1,d2,line,hg]
  .rw[A87.mpr λ _ _=>rfl];show C30 ∅ λ n h1 h2=>?_;let Ro:n<ws.n:=by simpa using h2
   simp[hf n Ro]
 rw[zN];show ay ?_;let sz:((3*(ws.n:Int)-2+2) / 3).toNat=ws.n:=by rw[Int.sub_add_cancel,Int.mul_ediv_cancel_left _ ∅];rfl
 let g1:(3*(ws.n:Int)-2)<=1000000000:=by lia
 let g0:-1000000000<=(3*(ws.n:Int)-2):=by lia
 let hr:ws.n<=16777216:=by lia
 let hb:byD (.int 0) (.int<|3*(ws.n:Int)-2) (.int 3)=.ok ((FB ws.n).map λ n=>D.int<|(n:Nat)*3):=by rw[abn,guard_pos ⟨rfl,by decide,by decide,g0,g1⟩,Int.sub_zero,sz,e3]
 let oL:ck (.lst WD)=.ok (.int<|3*(ws.n:Int)):=by
  rw[<-_T]
  first|rfl|simp[line,iS]
 simp -implicitDefEqProofs [mD,oL,hb,a!,fh,line,hr];show ec.imp ?_;rintro ds rfl;simp
end
noncomputable abbrev td(a b c d:U Nat):ε L:=AC<|.De [(cD,a),(ba,b),(b!,c),(aL,d)]
def bG:SF:=(dB (ue (tE<|eB oLt (eB aC (eW 3)<|eI 1)<|eU ck<|eW 0)<|tE<|eB oEq (eY 0 3)<|eW 4) (aB (Kj 2 (eV 4)<|eB aW (eW 0)<|eB aC (eW 3)<|eI 1)<|aO 3<|eB xK (eV 3)<|eI 2) aE)
def X?{WD:Rows}(h1:WD[at']?=AC key)(h2:WD[at'+1]?=AC val)(hl:WD.n<=100000)(hT:T.n<10)(x4:ε L):
 Ok (aJ 4 (.str key) [v (.lst<|WD.map .str),x1,AC (.De T),vi (at':Nat),x4]) λ Y1=>Ok (bG Y1) λ fl=>fl=.nx [v (.lst<|WD.map .str),x1,AC (.De<|qO T key val),vi ((at'+2:Nat)),vs key]:=by
 let l2:=(A09.mp h2).1;let i1:aW (.lst<|WD.map .str) (.int (at':Nat))=.ok (.str key):=(ft (j:=at') rfl (by rw[A07,h1];rfl)).2;let i2:aW (.lst<|WD.map .str) (.int<|(at':Nat)+1)=.ok (.str val):=(ft (j:=at'+1) ∅ (by rw[A07,h2];rfl)).2;let iS:WD.n<=16777216:=by lia
 let q:((at':Nat):Int)+1<(WD.n:Int):=by lia
 let eq:oEq (.str key) (.str key)=.ok (.bl Da):=by
  let:lQ (.str key) (.str key)=AC Da:=by change AC (key==key)=_;simp
  simp[oEq,this]
 let hT':T.n<16777216:=by lia
 simp -implicitDefEqProofs [bG,i1,i2,iS,q,eq,line,hT']
def SH{WD:Rows}(h:∀w,WD[at']?=AC w->w≠key)(hl:WD.n<=100000)(x4:ε L):
 Ok (aJ 4 (.str key) [v (.lst<|WD.map .str),x1,x2,vi (at':Nat),x4]) λ Y1=>Ok (bG Y1) λ fl=>fl=.nx [v (.lst<|WD.map .str),x1,x2,vi (at':Nat),vs key]:=by
 let iS:WD.n<=16777216:=by lia
 by_cases q:((at':Nat):Int)+1<(WD.n:Int)
 .let l1:at'<WD.n:=by lia
  let i1:aW (.lst<|WD.map .str) (.int (at':Nat))=.ok (.str WD[at']):=(ft (j:=at') rfl (by rw[A07,A05 l1];rfl)).2;let ne:=h _<|A05 l1;let eq:oEq (.str WD[at']) (.str key)=.ok (.bl AT):=by
   let:lQ (.str WD[at']) (.str key)=AC AT:=by change AC (WD[at']==key)=_;simp[ne]
   simp[oEq,this]
  simp -implicitDefEqProofs [bG,i1,iS,q,eq,line]
 .simp -implicitDefEqProofs [bG,iS,q,line]
def uV(h:(bC key n++rest)[0]?=AC w):w=key\/rest[0]?=AC w:=by
 unfold bC at h;split at h
 .left;simpa using h.c
 .right;calc h
def Iy{ws:U _}(h:(ws.map bh).flatten[0]?=AC w):w=Ae:=by
 cases ws with
 |nil=>simp at h
 |cons p r=>simp[bh]at h;show h.c
def EY{pre part rest:Rows}:(pre++part++rest)[pre.n+i]?=(part++rest)[i]?:=by
 rw[A75,A45 ∅]
 congr 1
 show Nat.add_sub_cancel_left ..
def mM{pre rest:Rows}{b:Bool}(hl:(pre++(if b then[key,val]else[])++rest).length<=100000)(hT:T.n<10)(hh:∀w,rest[0]?=AC w->w≠key)(x4:ε L):
 Ok (aJ 4 (.str key) [v (.lst<|(pre++(if b then[key,val]else[])++rest).map .str),x1,AC (.De T),vi (pre.n),x4]) λ Y1=>Ok (bG Y1) λ fl=>fl=.nx [v (.lst<|(pre++(if b then[key,val]else[])++rest).map .str),x1,AC (.De<|if b then qO T key val else T),vi ((pre++(if b then[key,val]else[])).length),vs key]:=by
 cases b with
 |true=>
  let h1:(pre++[key,val]++rest)[pre.n]?=AC key:=by let:=EY (pre:=pre) (part:=[key,val]) (rest:=rest) (i:=0);rw[Nat.add_zero]at this;rw[this];rfl
  let h2:(pre++[key,val]++rest)[pre.n+1]?=AC val:=by rw[EY];rfl
  let:=X? (x1:=x1) h1 h2 hl hT x4;erw[A28]at this ⊢;rw[show(pre++[key,val]).length=pre.n+2 by simp];show this
 |false=>
  let:=SH (x1:=x1) (x2:=AC (.De T)) (WD:=pre++[]++rest) (at':=pre.n) (key:=key) (λ w hw=>by let h:=EY (pre:=pre) (part:=[]) (rest:=rest) (i:=0);rw[Nat.add_zero]at h;rw[h]at hw;show hh w (by calc hw)) hl x4
  erw[A46,A59]at this ⊢;rw[show(pre++([]:Rows)).length=pre.length by simp];show this
def zo(key:U Nat)(n:Nat):bC key n=if decide (0<n)then[key,aQ n]else[]:=by unfold bC;by_cases h:0<n<;>simp
def LS(k:U Nat):cZ k=if decide (k≠[])then[cD,k]else[]:=by unfold cZ;by_cases h:k=[]<;>simp
def Nh(xs ys:U D):cut (xs++ys) (AC<|xs.n) Ch=ys:=by
 let:¬(xs.n:Int)<0:=by lia
 simp[cut,dO,this]
def bg1:SF:=aO 1<|eB nL (eX 0 1)<|eC<|.str [120]
def bg4:SF:=fm (cY<|cw<|ae (eC<|.str [107,105,110,100])<|ae (eC<|.str [119,105,100,101])<|ae (eC<|.str [103,97,112])<|ae (eC<|.str [119,111,114,116,104]) ah) (aJ 4) bG
def bg5:SF:=(aH<|cw<|aX 0 0<|ae (ai aZ<|aX 1 0 ah)<|ae (ai aZ<|aX 1 2 ah)<|ae (qh 2<|eC<|.str [107,105,110,100])<|ae (ai aZ<|ae (qh 2<|eC<|.str [119,105,100,101]) ah)<|ae (ai aZ<|ae (qh 2<|eC<|.str [103,97,112]) ah)<|ae (ai aZ<|ae (qh 2<|eC<|.str [119,111,114,116,104]) ah)<|ae (ai gJ<|ae (eL<|LQ (eW 0) (qQ<|eW 3) NW) ah) ah)
def hbg:o3=aB bg1 (aB (sTD 2 [(cD,[]),(ba,[48]),(b!,[48]),(aL,[48])])<|aB (aO 3<|eI 2)<|aB bg4 bg5):=rfl
def X'(k:ia g):Ok (bg4 [v (.lst<|(aY g).map .str),v (nG g),td [] [48] [48] [48],vi 2,Ch]) λ fl=>∃x4,fl=.nx [v (.lst<|(aY g).map .str),v (nG g),td g.kd (aQ g.wi) (aQ g.ga) (aQ g.wo),vi (([g.nm,cC g]++cZ g.kd++bC ba g.wi++bC b! g.ga++bC aL g.wo).length),x4]:=by
 let hi:∀Y,cY (cw<|ae (eC<|.str [107,105,110,100])<|ae (eC<|.str [119,105,100,101])<|ae (eC<|.str [103,97,112])<|ae (eC<|.str [119,111,114,116,104]) ah) Y=.ok [.str cD,.str ba,.str b!,.str aL]:=λ Y=>by change(guard ([D.str cD,.str ba,.str b!,.str aL].length<=line)<|Res.ok<|D.tup [.str cD,.str ba,.str b!,.str aL]).bind mi=_;rw[guard_pos (by simp[line])];rfl
 let hl:=mK k;unfold bg4;rw[fm,hi,Res.cW];let k1:=LS g.kd;let n1:=zo ba g.wi;let n2:=zo b! g.ga;let n3:=zo aL g.wo;let e1:[g.nm,cC g]++(if decide (g.kd≠[])then[cD,g.kd]else[])++(bC ba g.wi++(bC b! g.ga++(bC aL g.wo++(g.ws.map bh).flatten)))=aY g:=by rw[<-k1];simp[aY]
 let e2:([g.nm,cC g]++cZ g.kd)++(if decide (0<g.wi)then[ba,aQ g.wi]else[])++(bC b! g.ga++(bC aL g.wo++(g.ws.map bh).flatten))=aY g:=by rw[<-n1];simp[aY]
 let e3:([g.nm,cC g]++cZ g.kd++bC ba g.wi)++(if decide (0<g.ga)then[b!,aQ g.ga]else[])++(bC aL g.wo++(g.ws.map bh).flatten)=aY g:=by rw[<-n2];simp[aY]
 let e4:([g.nm,cC g]++cZ g.kd++bC ba g.wi++bC b! g.ga)++(if decide (0<g.wo)then[aL,aQ g.wo]else[])++(g.ws.map bh).flatten=aY g:=by rw[<-n3];simp[aY]
 let t1:(if decide (g.kd≠[])then qO [(cD,[]),(ba,[48]),(b!,[48]),(aL,[48])] cD g.kd else[(cD,[]),(ba,[48]),(b!,[48]),(aL,[48])])=[(cD,g.kd),(ba,[48]),(b!,[48]),(aL,[48])]:=by
  by_cases h:g.kd=[]
  .simp[h]
  .rw[A30 h,M2 rfl];rfl
 let d0:aQ 0=[48]:=by decide
 let t2:(if decide (0<g.wi)then qO [(cD,g.kd),(ba,[48]),(b!,[48]),(aL,[48])] ba (aQ g.wi)else[(cD,g.kd),(ba,[48]),(b!,[48]),(aL,[48])])=[(cD,g.kd),(ba,aQ g.wi),(b!,[48]),(aL,[48])]:=by
  by_cases h:0<g.wi
  .rw[A30 h,M2 rfl];rfl
  .rw[show g.wi=0 by lia,d0];rfl
 let t3:(if decide (0<g.ga)then qO [(cD,g.kd),(ba,aQ g.wi),(b!,[48]),(aL,[48])] b! (aQ g.ga)else[(cD,g.kd),(ba,aQ g.wi),(b!,[48]),(aL,[48])])=[(cD,g.kd),(ba,aQ g.wi),(b!,aQ g.ga),(aL,[48])]:=by
  by_cases h:0<g.ga
  .rw[A30 h,M2 rfl];rfl
  .rw[show g.ga=0 by lia,d0];rfl
 let t4:(if decide (0<g.wo)then qO [(cD,g.kd),(ba,aQ g.wi),(b!,aQ g.ga),(aL,[48])] aL (aQ g.wo)else[(cD,g.kd),(ba,aQ g.wi),(b!,aQ g.ga),(aL,[48])])=[(cD,g.kd),(ba,aQ g.wi),(b!,aQ g.ga),(aL,aQ g.wo)]:=by
  by_cases h:0<g.wo
  .rw[A30 h,M2 rfl];rfl
  .rw[show g.wo=0 by lia,d0];rfl
 let hd4:∀w,(g.ws.map bh).flatten[0]?=AC w->w=Ae:=λ w h=>Iy h;let hd3:∀w,(bC aL g.wo++(g.ws.map bh).flatten)[0]?=AC w->w=aL\/w=Ae:=λ w h=>(uV h).imp id<|hd4 w;let hd2:∀w,(bC b! g.ga++(bC aL g.wo++(g.ws.map bh).flatten))[0]?=AC w->w=b!\/w=aL\/w=Ae:=λ w h=>(uV h).imp id<|hd3 w;let hd1:∀w,(bC ba g.wi++(bC b! g.ga++(bC aL g.wo++(g.ws.map bh).flatten)))[0]?=AC w->w=ba\/w=b!\/w=aL\/w=Ae:=λ w h=>(uV h).imp id<|hd2 w;let s1:=mM (pre:=[g.nm,cC g]) (b:=decide (g.kd≠[])) (key:=cD) (val:=g.kd) (x1:=v (nG g)) (T:=[(cD,[]),(ba,[48]),(b!,[48]),(aL,[48])]) (rest:=bC ba g.wi++(bC b! g.ga++(bC aL g.wo++(g.ws.map bh).flatten))) (by rw[e1];lia) ∅ (λ w h=>by rcases hd1 w h with rfl|rfl|rfl|rfl<;>decide) Ch;rw[e1,t1,<-k1]at s1;let s2:=mM (pre:=[g.nm,cC g]++cZ g.kd) (b:=decide (0<g.wi)) (key:=ba) (val:=aQ g.wi) (x1:=v (nG g)) (T:=[(cD,g.kd),(ba,[48]),(b!,[48]),(aL,[48])]) (rest:=bC b! g.ga++(bC aL g.wo++(g.ws.map bh).flatten)) (by rw[e2];lia) (by change 4<10;decide) (λ w h=>by rcases hd2 w h with rfl|rfl|rfl<;>decide)<|vs cD;rw[e2,t2,<-n1]at s2;let s3:=mM (pre:=[g.nm,cC g]++cZ g.kd++bC ba g.wi) (b:=decide (0<g.ga)) (key:=b!) (val:=aQ g.ga) (x1:=v (nG g)) (T:=[(cD,g.kd),(ba,aQ g.wi),(b!,[48]),(aL,[48])]) (rest:=bC aL g.wo++(g.ws.map bh).flatten) (by rw[e3];lia) (by change 4<10;decide) (λ w h=>by rcases hd3 w h with rfl|rfl<;>decide)<|vs ba;rw[e3,t3,<-n2]at s3;let s4:=mM (pre:=[g.nm,cC g]++cZ g.kd++bC ba g.wi++bC b! g.ga) (b:=decide (0<g.wo)) (key:=aL) (val:=aQ g.wo) (x1:=v (nG g)) (T:=[(cD,g.kd),(ba,aQ g.wi),(b!,aQ g.ga),(aL,[48])]) (rest:=(g.ws.map bh).flatten) (by rw[e4];lia) (by change 4<10;decide) (λ w h=>by rw[hd4 w h];decide)<|vs b!;rw[e4,t4,<-n3]at s4;show ji<|s1.imp λ Y1 h=>h.imp ?_;rintro fl rfl;rw[kB];show ji<|s2.imp λ Y1 h=>h.imp ?_;rintro fl rfl;rw[kB];show ji<|s3.imp λ Y1 h=>h.imp ?_;rintro fl rfl;rw[kB];show ji<|s4.imp λ Y1 h=>h.imp ?_;rintro fl rfl;rw[kB];show Gi ⟨_,rfl⟩
def BW(k:ia g):jK [.lst ((aY g).map .str)]=.ok (bU g):=by
 let i0:aW (.lst<|(aY g).map .str) (.int 0)=.ok _:=(ft rfl rfl).2;let i1:aW (.lst<|(aY g).map .str) (.int 1)=.ok _:=(ft rfl rfl).2;let ep:=Px k;rw[Cd,hbg];show ay ?_;show fO (Y1:=[v (.lst<|(aY g).map .str),v (nG g),Ch,Ch,Ch]) (by simp -implicitDefEqProofs [bg1,i1,ep]) ?_;show fO ⟨_,rfl,rfl⟩ ?_;show fO ⟨_,rfl,rfl⟩ ?_;rw[ur,tJ];show(X' k).imp ?_;rintro fl ⟨x4,rfl⟩;rw[sV];let j0:aW (nG g) (.int 0)=.ok (.str<|aQ g.w):=rfl;let j2:aW (nG g) (.int 2)=.ok (.str<|aQ g.d):=rfl;let n1:=f9<|bq (n:=g.w) (by let:=k.w2;lia);let n2:=f9<|bq (n:=g.d) (by let:=k.d2;lia);let n3:=f9<|E? k;let n4:=f9<|bq (n:=g.ga) (by let:=k.ga;lia);let n5:=f9 k.wo;let hw:=Nv g.ws (by let:=k.wl;lia) λ p hp=>by let(h1,h2,h3):=k.wr p hp;show(bq ∅,h3,)
 obtain⟨pre,Eg⟩:∃pre,pre=[g.nm,cC g]++cZ g.kd++bC ba g.wi++bC b! g.ga++bC aL g.wo:=(_,rfl,)
 let WX:cut ((aY g).map D.str) (AC<|pre.n) Ch=(g.ws.map bh).flatten.map D.str:=by
  let:(aY g).map D.str=pre.map D.str++(g.ws.map bh).flatten.map D.str:=by rw[Eg,<-A27];rfl
  rw[this];let h2:=Nh (pre.map D.str)<|(g.ws.map bh).flatten.map D.str;rw[A04]at h2;show h2
 rw[<-Eg];let v1:∀a b c d,tU [(cD,a),(ba,b),(b!,c),(aL,d)] cD=AC a:=λ a b c d=>rfl;let v2:∀a b c d,tU [(cD,a),(ba,b),(b!,c),(aL,d)] ba=AC b:=λ a b c d=>rfl;let v3:∀a b c d,tU [(cD,a),(ba,b),(b!,c),(aL,d)] b!=AC c:=λ a b c d=>rfl;let v4:∀a b c d,tU [(cD,a),(ba,b),(b!,c),(aL,d)] aL=AC d:=λ a b c d=>rfl;generalize (aY g).map D.str=WD at i0 WX ⊢;generalize (g.ws.map bh).flatten.map D.str=WW at WX hw;simp -implicitDefEqProofs [bg5,i0,j0,j2,n1,n2,n3,n4,n5,LP,WX,hw,v1,v2,v3,v4,line,bU]
def Ph(k:ia g):cL [.str (b9 [32]<|aY g)]=.ok (bU g):=by
 let ψ:=mK k;let gl:=uZ _<|nZ k;let hg:(b9 [32]<|aY g).length<=10000:=by lia
 let hc:=oN (λ e=>by let:=A13 List.length e;simp[aY]at this)<|JL k;let es:Kb (.str<|b9 [32]<|aY g) (.str [32])=.ok ((aY g).map .str):=by rw[U2,hc,guard_pos];erw[line];lia
 let h2:2<=(aY g).length:=by erw[aY,A23,A22,A76];lia
 let hi:=BW k;let hgr:=BV k;let hs:=sU k;let q:¬(((aY g).length):Int)<2:=by lia
 let iS:(aY g).length<=16777216:=by lia
 let en:∀t,o! (.str t) (.str t)=.ok (.bl AT):=λ t=>by
  let:lQ (.str t) (.str t)=AC Da:=by change AC _=_;simp
  simp[o!,this]
 rw[wW];show ay ?_;simp -implicitDefEqProofs [lj,Z.qC,es,iS,q,hi,hgr,hs,en,line]
def Jt(nm:U Nat):Prop:=1<=nm.n/\nm.n<=8/\∀c∈nm,c∈aK
structure CF(n:Nat)(ws:List (Nat×Nat)):Prop where
 l:ws.n<=n
 r:∀p∈ws,p.1<n/\1<=p.2/\p.2<10^60
 up:(ws.map (·.1)).Pairwise (· < ·)
def CF.next(h:CF n ws):CF (n+1) ws:=⟨by let:=h.l;lia,λ p hp=>by let(a,b):=h.r p hp;show⟨by lia,b⟩,h.up⟩
def CF.snoc(h:CF n ws)(h1:1<=a)(h2:a<10^60):CF (n+1) (ws++[(n,a)]):=by
 show⟨by let:=h.l;simp;lia,λ p hp=>?_,?_⟩
 .rcases A34.mp hp with hp|hp
  .let(a,b):=h.r p hp;show⟨by lia,b⟩
  .rw[A11.mp hp];show⟨by lia,h1,h2⟩
 .rw[A27,List.pairwise_append];show⟨h.up,by simp,λ x hx y hy=>?_⟩;let(p,hp,rfl):=A03.mp hx;simp at hy;rw[hy];show(h.r p hp).1
end KS
set_option maxRecDepth 4000
namespace KG
open Z
def tH:SF:=(aH<|YZ (eB Ap (eW 0)<|cw<|ae (eC<|.str [46])<|ae (eC<|.str [61]) ah)<|eB oEq (eW 0)<|eW 1)
def p?:U D->Res D:=fn 2 2 tH
def Mp(x0 x1:D):p? [x0,x1]=bc (tH [AC (.val x0),AC (.val x1)]):=bX _ _ _ _ rfl
def oV:SF:=(aB (l_ 2<|a9 ah)<|aB (fm (BN (eX 1 0)<|eB aC (eX 1 0)<|eX 0 2) (aJ 3)<|sD 2<|bB (BN (eX 1 1)<|eB aC (eX 1 1)<|eX 0 1) 1 [3] (aJ 0) bM<|cw<|aV 1<|aV 0 ah)<|aH<|eU gW<|eW 2)
def jI:U D->Res D:=fn 2 4 oV
def B'(x0 x1:D):jI [x0,x1]=bc (oV [AC (.val x0),AC (.val x1),Ch,Ch]):=bX _ _ _ _ rfl
def ij:SF:=(aB (dB (tE<|eB oLt (eW 1)<|eU ck<|eW 0) (aH<|eY 0 1) aE)<|aH<|eI 0)
def bP:U D->Res D:=fn 2 2 ij
def mw(x0 x1:D):bP [x0,x1]=bc (ij [AC (.val x0),AC (.val x1)]):=bX _ _ _ _ rfl
def hX:SF:=(aB (aO 2<|eX 1 0)<|aB (aO 3<|eX 1 1)<|aB (dB (ue (tE<|g_ oLe oLt (eI 0) (eW 2)<|eU ck<|eW 0)<|tE<|g_ oLe oLt (eI 0) (eW 3)<|eU ck<|eX 0 0) (aH<|eB aW (eY 0 2)<|eW 3) aE)<|aH<|eC .non)
def kQ:U D->Res D:=fn 2 4 hX
def Ep(x0 x1:D):kQ [x0,x1]=bc (hX [AC (.val x0),AC (.val x1),Ch,Ch]):=bX _ _ _ _ rfl
def EW:SF:=(aB (aO 3<|eL<|bB (cY<|ai jI<|aV 1<|aV 2 ah) 1 [0] (aJ 0) bM<|ai kQ<|aV 1<|aV 0 ah)<|aB (dB (fN<|tE<|eU gZ<|eL<|bB (cY<|eW 3) 1 [1] (aJ 0) bM<|ai p?<|aV 0<|aX 1 3 ah) (aH<|eC<|.bl AT) aE)<|aH<|eB YF (eB zl (eW 3)<|eC<|.str [61])<|eX 1 4)
def p_:U D->Res D:=fn 3 4 EW
def Rv(x0 x1 x2:D):p_ [x0,x1,x2]=bc (EW [AC (.val x0),AC (.val x1),AC (.val x2),Ch]):=bX _ _ _ _ rfl
def mE:SF:=(aB (l_ 2<|a9 ah)<|aB (fm (fT<|eU ck<|eW 0) (aJ 3)<|sD 2<|bB (fT<|eU ck<|eY 0 3) 1 [0,1,3] (aJ 0) (tE<|ai p_<|aV 1<|aV 2<|ae (cw<|aV 3<|aV 0 ah) ah)<|cw<|aV 3<|aV 0 ah)<|aH<|eU gW<|eW 2)
def fL:U D->Res D:=fn 2 4 mE
def zO(x0 x1:D):fL [x0,x1]=bc (mE [AC (.val x0),AC (.val x1),Ch,Ch]):=bX _ _ _ _ rfl
def ng:SF:=(aB (dB (yQ (tE<|eB oLe (eB aC (eX 1 0)<|eX 0 2)<|eX 3 0)<|tE<|eB oLe (eB aC (eX 3 0)<|eX 2 2)<|eX 1 0) (aH<|eC<|.bl Da) aE)<|aB (aO 4<|eB P? (eX 0 5)<|eX 2 5)<|aH<|YZ (eB oLe (eB aC (eB aC (eX 1 1)<|eX 0 1)<|eW 4)<|eX 3 1)<|eB oLe (eB aC (eB aC (eX 3 1)<|eX 2 1)<|eW 4)<|eX 1 1)
def qa:U D->Res D:=fn 4 5 ng
def Mr(x0 x1 x2 x3:D):qa [x0,x1,x2,x3]=bc (ng [AC (.val x0),AC (.val x1),AC (.val x2),AC (.val x3),Ch]):=bX _ _ _ _ rfl
def hV:SF:=(aH<|eL<|bB (Ef (eV 0)<|eV 1) 2 [] (e_ [0,1]) (tE<|eU jF<|eW 1)<|cw<|aV 0<|aV 1 ah)
def b7:U D->Res D:=fn 2 2 hV
def qb(x0 x1:D):b7 [x0,x1]=bc (hV [AC (.val x0),AC (.val x1)]):=bX _ _ _ _ rfl
def h!:SF:=(aH<|eU gZ<|eL<|bB (cY<|eW 2) 2 [0,1] (e_ [0,1]) bM<|ai qa<|aV 2<|aV 3<|aV 0<|aV 1 ah)
def du:U D->Res D:=fn 3 3 h!
def qe(x0 x1 x2:D):du [x0,x1,x2]=bc (h! [AC (.val x0),AC (.val x1),AC (.val x2)]):=bX _ _ _ _ rfl
def Af:SF:=(aB (aO 3<|ai b7<|aV 1<|aV 2 ah)<|aB (dB (fN<|tE<|eU gZ<|eL<|bB (cY<|eW 3) 2 [0] (e_ [0,1]) bM<|ai p_<|aV 2<|aV 0<|aV 1 ah) (aH<|eC<|.bl AT) aE)<|aH<|eU gZ<|eL<|bB (fT<|eU ck<|eW 3) 1 [3] (aJ 0) bM<|ai du<|ae (eB aW (eY 1 0)<|eI 0)<|ae (eB aW (eY 1 0)<|eI 1)<|ae (eL<|LQ (eW 1) NW<|qQ<|eW 0) ah)
def mv:U D->Res D:=fn 3 4 Af
def Mq(x0 x1 x2:D):mv [x0,x1,x2]=bc (Af [AC (.val x0),AC (.val x1),AC (.val x2),Ch]):=bX _ _ _ _ rfl
abbrev Rows:=U<|U Nat
abbrev Pl:=Int×Int
structure Hall(rows:Rows)(C:Nat):Prop where
 r1:1<=rows.n
 r2:rows.n<=100
 c1:1<=C
 c2:C<=100
 len:∀x∈rows,x.n=C
structure G where
 name:List Nat
 w:Nat
 d:Nat
 kind:List Nat
 wide:Nat
 gap:Nat
 worth:D
 tP:D
structure GOk(g:G):Prop where
 w1:1<=g.w
 w2:g.w<=13
 d1:1<=g.d
 d2:g.d<=4
 kd:g.kind.n<=1
 wd:g.wide<=100
 gp:g.gap<=100
def aS(rows:Rows):D:=.tup<|rows.map .str
def bp(p:Pl):D:=.tup [.int p.1,.int p.2]
def aF(g:G):D:=.tup [.str g.name,.int g.w,.int g.d,.str g.kind,.int g.wide,.int g.gap,g.worth,g.tP]
def bU:ε Nat->D
|some c=>.str [c]
|none=>.non
@[simp] def ahg(p:Pl):aW (bp p) (.int 0)=.ok (.int p.1):=rfl
@[simp] def ahf(p:Pl):aW (bp p) (.int 1)=.ok (.int p.2):=rfl
@[simp] def aih(g:G):aW (aF g) (.int 0)=.ok (.str g.name):=rfl
@[simp] def aif(g:G):aW (aF g) (.int 1)=.ok (.int g.w):=rfl
@[simp] def aie(g:G):aW (aF g) (.int 2)=.ok (.int g.d):=rfl
@[simp] def aid(g:G):aW (aF g) (.int 3)=.ok (.str g.kind):=rfl
@[simp] def aic(g:G):aW (aF g) (.int 4)=.ok (.int g.wide):=rfl
@[simp] def aib(g:G):aW (aF g) (.int 5)=.ok (.int g.gap):=rfl
@[simp] def aia(g:G):aW (aF g) (.int 6)=.ok g.worth:=rfl
@[simp] def ah9(g:G):aW (aF g) (.int 7)=.ok g.tP:=rfl
@[simp] def ahX(rows:Rows):ck (aS rows)=.ok (.int rows.n):=by simp[aS]
@[simp] def ag1(a b:Int):D.tup [.int a,.int b]=bp (a,b):=rfl
def eN(Y:Env)(is:U Nat):fh Y is=is.map (vI Y):=rfl
def Nn:ε (ε L)->ε L
|some<|some<|.val d=>AC<|.val d
|some<|some<|.bor d=>AC<|.bor d
|some<|some<|.JD ks=>AC<|.JD ks
|some<|some<|.own xs=>AC<|.bor<|.lst xs
|_=>Ch
def dA(Y:Env)(i:Nat):vI Y i=Nn Y[i]?:=by
 unfold vI Nn;cases Y[i]? with
 |none=>rfl
 |some o=>cases o with
  |none=>rfl
  |some l=>ext l<;>rfl
@[simp] def ρ3(d:D):Nn (AC<|some<|.val d)=AC (.val d):=rfl
def Hall.row(H:Hall rows C)(h:r<rows.n):∃row,rows[r]?=AC row/\row.n=C/\aW (aS rows) (.int r)=.ok (.str row):=by show(rows[r],A05 h,H.len _<|B15 h,(ft rfl ?_).1,);rw[A07,A05];rfl
def Hall.Pe(H:Hall rows C):∃row,row.n=C/\aW (aS rows) (.int 0)=.ok (.str row):=by let(row,_,h1,h2):=H.row H.r1;show(row,h1,h2,)
def bZ(rows:Rows)(p:Pl):ε Nat:=if 0<=p.1/\0<=p.2 then(rows[p.1.toNat]?).bind (λ r=>r[p.2.toNat]?)else Ch
def O8(H:Hall rows C){p:Pl}(h1:0<=p.1)(h2:p.1<rows.n)(h3:0<=p.2)(h4:p.2<C):∃row c,aW (aS rows) (.int p.1)=.ok (.str row)/\row.n=C/\aW (.str row) (.int p.2)=.ok (.str [c])/\bZ rows p=AC c:=by
 let(row,e1,hl,e2):=H.row (r:=p.1.toNat) ∅;rw[B25 h1]at e2;let hc:p.2.toNat<row.n:=by rw[hl];show (Int.toNat_lt ∅).mpr ∅
 let iS:=H.c2;show(row,row[p.2.toNat],e2,hl,pY ∅ (A05 hc) (by erw[line];lia),?_,);simp[bZ,h1,h3,e1]
def ui(H:Hall rows C){p:Pl}(h:¬(0<=p.1/\p.1<rows.n/\0<=p.2/\p.2<C)):bZ rows p=Ch:=by
 unfold bZ;by_cases h0:0<=p.1/\0<=p.2
 .rw[M2 h0];cases e:rows[p.1.toNat]? with
  |none=>rfl
  |some row=>let(h1,h2):=A09.mp e;let:=H.len row<|A25 e;erw[C14];show B33<|Nat.le_of_not_lt λ k=>h ⟨h0.1,(Int.toNat_lt h0.1).mp h1,h0.2,(Int.toNat_lt h0.2).mp (this▸k)⟩
 .rw[W1 h0]
def σ7(H:Hall rows C)(p:Pl):kQ [aS rows,bp p]=.ok (bU<|bZ rows p):=by
 rw[Ep];show ay ?_;let(Pe,Ri,e0):=H.Pe;let zK:=H.c2;let Rg:C<=line:=by erw[line];lia
 by_cases h:0<=p.1/\p.1<rows.n/\0<=p.2/\p.2<C
 .let(row,c,e1,_,e2,e3):=O8 H h.1 h.2.1 h.2.2.1 h.2.2.2;simp[hX,e0,Ri,Rg,h.1,h.2.1,h.2.2.1,h.2.2.2,e1,e2,e3,bU]
 .rw [ui H h];by_cases a1:0<=p.1
  .by_cases a2:p.1<rows.n
   .by_cases a3:0<=p.2
    .let a4:¬p.2<C:=λ z=>h ⟨a1,a2,a3,z⟩;simp[hX,e0,Ri,Rg,a1,a2,a3,a4,bU]
    .simp[hX,e0,Ri,Rg,a1,a2,a3,bU]
   .simp[hX,e0,Ri,Rg,a1,a2,bU]
  .simp[hX,e0,Ri,Rg,a1,bU]
def b?(kind:U Nat):ε Nat->Bool
|some c=>decide<|c=46\/c=61\/kind=[c]
|none=>AT
def W?(c:U Nat):lQ (.str c) .non=AC AT:=rfl
def MB(c:U Nat):lQ .non (.str c)=AC AT:=rfl
def Mz(a b:U Nat):lQ (.str a) (.str b)=AC (a==b):=rfl
def in2(c:Nat):Ap (.str [c]) (.tup [.str [46],.str [61]])=.ok (.bl<|decide<|c=46\/c=61):=by
 erw[Ap,gU,Mz];by_cases h1:c=46
 .subst h1;rfl
 .by_cases h2:c=61
  .subst h2;rfl
  .let h1':¬46=c:=λ h=>h1 h.c;let Ro:¬61=c:=λ h=>h2 h.c;simp[h1,h2,h1',Ro]
def J3(s:ε Nat)(k:U Nat):p? [bU s,.str k]=.ok (.bl<|b? k s):=by
 rw[Mp];show ay ?_;cases s with
 |none=>simp[tH,bU,b?,line,Ap,gU,MB,W?,oEq]
 |some c=>
  simp[tH,bU,b?,line,in2];by_cases h1:c=46
  .simp[h1]
  .by_cases h2:c=61
   .simp[h2]
   .by_cases h3:k=[c]
    .subst h3;simp[h1,h2]
    .let h3':¬[c]=k:=λ h=>h3 h.c;simp[h1,h2,h3,h3']
def gD(w:Nat)(r c:Int):U Pl:=(FB w).map λ j=>(r,c+(j:Nat))
def iD(w:Nat)(p:Pl)(n:Nat):U Pl:=(FB n).flatMap λ i=>gD w (p.1+(i:Nat)) p.2
def seats(g:G)(p:Pl):U Pl:=iD g.w p g.d
def l?(w:Nat)(p:Pl)(n:Nat):iD w p (n+1)=iD w p n++gD w (p.1+(n)) p.2:=by simp[iD,A85]
def y9(w:Nat)(r c:Int):(gD w r c).length=w:=by simp[gD]
def og(w:Nat)(p:Pl)(n:Nat):(iD w p n).length=n*w:=by
 induction n with
 |zero=>simp[iD]
 |succ n ih=>rw[l?,A23,ih,y9,B29]
def ints_map(lo:Int)(n:Nat):zints lo n=(FB n).map λ i=>D.int (lo+(i:Nat)):=rfl
def ints_get(h:(zints lo n)[j]?=AC d):j<n/\d=.int (lo+(j)):=by
 rw[ints_map,A07]at h;cases q:(FB n)[j]? with
 |none=>rw[q]at h;ext h
 |some i=>rw[q]at h;let(h1,h2):=A09.mp q;rw[B16]at h1;rw[B57]at h2;subst h2;simp at h;show(h1,h.c,)
def toNat_sub(a:Int)(n:Nat):(a+(n)-a).toNat=n:=by lia
def Kg(k:GOk g)(p:Pl):jI [aF g,bp p]=.ok (.tup<|(seats g p).map bp):=by
 rw[B'];show ay ?_;let hw:=k.w2;let hd:=k.d2;simp[oV,toNat_sub];show fR (λ i Y=>∃x,Y=[v _,v _,ow ((iD g.w p i).map bp),x]) ⟨Ch,rfl⟩ ?_ ?_
 .rintro j d Y hj ⟨x,rfl⟩;let(hj,rfl):=ints_get hj;simp[a!,toNat_sub,eN,dA];show⟨by lia,comp_map (λ d=>.tup [.int (p.1+(j)),d]) ?_ ?_⟩
  .rintro d hd;let(i,hi):=B07 hd;let(_,rfl):=ints_get hi;simp[line]
  .refine⟨?_,?_⟩
   .rw[A04,og,gG];let:j*g.w<=4*13:=A55 ∅ hw;lia
   .simp[l?,gD,ints_map]
 .rintro Y ⟨x,rfl⟩;simp[seats]
def xn(rows:Rows)(s:Pl):Bool:=bZ rows s==AC 61
def b_(rows:Rows)(g:G)(p:Pl):Bool:=(seats g p).all (λ s=>b? g.kind<|bZ rows s)&&decide (g.wide<=(seats g p).countP (xn rows))
def Cs(rows:Rows):∀(ss:U Pl),vF (.str [61]) (ss.map λ s=>bU<|bZ rows s)=AC (ss.countP<|xn rows)
|[]=>rfl
|s::ss=>by
 rw[A06,vF,Cs,B38];cases e:bZ rows s with
 |none=>simp[bU,xn,e,MB]
 |some c=>simp[bU,xn,e,Mz]
def all_map{α:Type}(f:α->Bool)(xs:U α):allB (xs.map λ x=>D.bl<|f x)=AC (xs.all f):=by
 let:=Ah<|xs.map f;rw[A17]at this;rw[show(xs.map λ x=>D.bl _)=xs.map (D.bl∘f)from rfl,this]
 congr 1
 induction xs with
 |nil=>rfl
 |cons x xs ih=>simp
def jXa(rows:Rows):D->D
|.tup [.int a,.int b]=>bU<|bZ rows (a,b)
|_=>.non
def jYa(g:G):D->D
|.str [c]=>.bl<|b? g.kind<|some c
|_=>.bl AT
def Gj(H:Hall rows C)(k:GOk g)(p:Pl):p_ [aS rows,aF g,bp p]=.ok (.bl<|b_ rows g p):=by
 rw[Rv];show ay ?_;let ψ:(seats g p).length<=16777216:=by rw[seats,og];let:=A55 k.d2 k.w2;lia
 simp[EW,a!,Kg k,line,eN,dA,ψ];show comp_map (jXa rows) ?_ ?_
 .intro d hd;let(q,_,rfl):=A03.mp hd;simp[σ7 H];rfl
 .let e1:(List.map bp<|seats g p).map (jXa rows)=(seats g p).map λ s=>bU (bZ rows s):=by rw[A17];rfl
  rw[e1];simp[a!,line,ψ,eN,dA];show comp_map (jYa g) ?_ ?_
  .intro d hd;let(q,_,rfl):=A03.mp hd;simp[J3];cases bZ rows q<;>rfl
  .let e2:((seats g p).map λ s=>bU<|bZ rows s).map (jYa g)=(seats g p).map λ s=>D.bl (b? g.kind<|bZ rows s):=by rw[A17];apply A84;intro s _;change jYa g (bU (bZ rows s))=_;cases bZ rows s<;>rfl
   rw[e2];erw[gZ,all_map,abG];cases ha:(seats g p).all λ s=>b? g.kind (bZ rows s)with
   |false=>simp[b_,ha]
   |true=>simp[b_,ha,zl,Cs]
def okS(rows:Rows)(g:G)(s:Pl):Bool:=b? g.kind<|bZ rows s
def all_false{α:Type}{f:α->Bool}{xs:U α}{x:α}(h:x∈xs)(e:f x=AT):xs.all f=AT:=by rw[AA3];intro z;rw[A35]at z;rw[z x h]at e;ext e
def Qt(h:j<w):(r,c+(j))∈gD w r c:=A03.mpr ⟨j,A33.mpr h,rfl⟩
def xQ(hi:i<g.d)(hj:j<g.w):(p.1+(i),p.2+(j))∈seats g p:=
 B26.mpr ⟨i,A33.mpr hi,Qt hj⟩
def vd(h:s∈seats g p)(e:okS rows g s=AT):b_ rows g p=AT:=by unfold b_;let:=all_false h e;rw[show(seats g p).all (λ s=>b? _ _)=(seats g p).all (okS rows g)from rfl,this];rfl
def eQ(r C:Nat):U Pl:=(FB C).map λ(c:Nat)=>(((r:Nat):Int),((c:Nat):Int))
def iB(n C:Nat):U Pl:=(FB n).flatMap λ r=>eQ r C
def lC(n C:Nat):iB (n+1) C=iB n C++eQ n C:=by simp[iB,A85]
def qM(r C:Nat):(eQ r C).length=C:=by simp[eQ]
def nh(n C:Nat):(iB n C).length=n*C:=by
 induction n with
 |zero=>simp[iB]
 |succ n ih=>rw[lC,A23,ih,qM,B29]
def places(rows:Rows)(C:Nat)(g:G):U Pl:=(iB rows.length C).filter<|b_ rows g
def places_of_ok(H:Hall rows C)(k:GOk g):fL [aS rows,aF g]=.ok (.tup<|(places rows C g).map bp):=by
 rw[zO];show ay ?_;let zK:=H.c2;let hr2:=H.r2;simp[mE,line];show fR (λ i Y=>i<=rows.n/\∃x,Y=[v _,v _,ow (((iB i C).filter<|b_ rows g).map bp),x]) ⟨A48 _,Ch,rfl⟩ ?_ ?_
 .rintro i d Y hi ⟨_,x,rfl⟩;let(Ma,rfl):=ints_get hi;let(row,_,hl,e1):=H.row Ma;let Rg:C<=16777216:=by lia
  simp[e1,hl,a!,line,eN,dA,Rg];show Sm (λ d=>match d with|.int c=>b_ rows g ((i),c)|_=>AT) (λ d=>.tup [.int (i),d]) ?_ ?_
  .intro d hd;let(c,hc):=B07 hd;let(_,rfl):=ints_get hc;simp[line,Gj H k]
  .let e2:((zints 0 C).filter λ d=>match d with|.int c=>b_ rows g ((i),c)|_=>AT).map (λ d=>D.tup [.int (i),d])=((eQ i C).filter<|b_ rows g).map bp:=by
    rw[ints_map,eQ,AD5,AD5,A17,A17]
    congr 1
    .funext c;simp
    .congr 1;funext c;simp
   rw[e2,lC,B47,A27];let h1:=A77 (b_ rows g)<|iB i C;let h2:=A77 (b_ rows g)<|eQ i C;rw[nh]at h1;rw[qM]at h2;let h3:i*C<=100*100:=A55 ∅ zK;show⟨?_,by lia,rfl⟩;rw[A04];lia
 .rintro Y ⟨_,x,rfl⟩;simp[places]
def dW(g:G)(p:Pl)(h:G)(q:Pl):Bool:=decide<|p.1+g.d<=q.1\/q.1+h.d<=p.1\/p.2+g.w+max (g.gap:Int) (h.gap:Int)<=q.2\/q.2+h.w+max (g.gap:Int) (h.gap:Int)<=p.2
def NC(g:G)(p:Pl)(h:G)(q:Pl):qa [aF g,bp p,aF h,bp q]=.ok (.bl<|dW g p h q):=by
 rw[Mr];show ay ?_;by_cases h1:p.1+g.d<=q.1
 .simp[ng,dW,h1]
 .by_cases h2:q.1+h.d<=p.1
  .simp[ng,dW,h2]
  .by_cases h3:p.2+g.w+max (g.gap:Int) h.gap<=q.2
   .simp[ng,dW,h1,h2,h3]
   .simp[ng,dW,h1,h2,h3]
def Bd(ns:U Int):Prop:=∀i∈ns,bits i<=2^20
def qo(hb:Bd ns)(h:0<=k):∃c,bP [.lst (ns.map .int),.int k]=.ok (.int c)/\bits c<=2^20:=by
 by_cases hk:k<ns.n
 .let hj:k.v<ns.n:=by lia
  let e:=(ft (xs:=ns.map D.int) (i:=k) (j:=k.v) (d:=.int ns[k.v]) ∅ ∅).2;show(ns[k.v],?_,hb _<|B15 hj,);rw[mw];show ay ?_;simp[ij,hk,e]
 .refine⟨0,?_,by decide⟩;rw[mw];show ay ?_;simp[ij,hk]
def xW(z:Int):∃q∈aK,aW (.str aK) (.int<|z % 26)=.ok (.str [q]):=
 uR ∅ (by simp[aK];lia) ∅
def pV(h:q∈aK):q∈signs:=(by decide:∀q∈aK,q∈signs) q h
structure abK(rows:Rows)(C:Nat):Prop extends Hall rows C where
 r6:rows.n<=6
 c12:C<=12
 sg:∀x∈rows,∀c∈x,c∈signs
def aaD(h1:1<=rows.n)(h2:rows.n<=6)(h3:1<=C)(h4:C<=12)(h:∀x∈rows,x.n=C/\∀c∈x,c∈signs):abK rows C:=
 ⟨⟨h1,by lia,h3,by lia,λ x hx=>(h x hx).1⟩,h2,h4,λ x hx=>(h x hx).2⟩
def jW(C i:Nat)(rows:Rows):Prop:=rows.n=i/\∀x∈rows,x.n=C/\∀c∈x,c∈signs
def Ym(j:Nat)(ln:U Nat):Prop:=ln.n=j/\∀c∈ln,c∈signs
def jW.nil(C:Nat):jW C 0 []:=⟨rfl,λ c h=>by ext h⟩
def jW.add(h:jW C i rows)(hl:Ym C ln):jW C (i+1) (rows++[ln]):=
 ⟨by simp [h.1],λ c hc=>by
  rcases A34.mp hc with hc|hc
  .exact h.2 c hc
  .rw[A11.mp hc];show hl⟩
def oB{z:Int}(h:0<=z):∃n:Nat,z=n:=⟨z.v,by lia⟩
def oE(h0:0<=i)(h1:i<xs.n)(h:∀d∈xs,Q d):Ok (aW (.lst xs)<|.int i) Q:=by let(d,hd,e,_):=F9 h0 h1;show(d,e,h d hd,)
def UQ(a b:D)(p:Prop)[Decidable p]:aW (.lst [a,b]) (.int<|if p then 1 else 0)=.ok (if p then b else a):=by
 by_cases h:p
 .rw[M2 h,M2 h];rfl
 .rw[W1 h,W1 h];rfl
structure ju(g:G):Prop extends GOk g where
 w12:g.w<=12
 d3:g.d<=3
 kl:g.kind=[]\/∃c∈aK,g.kind=[c]
 wdd:g.wide<=g.w*g.d
 g6:g.gap<=6
 wsh:∃(wt:Int)(ws:List Pl),ws.n<=6/\g.worth=.int wt/\g.tP=.tup (ws.map bp)
def af0(h1:1<=g.w)(h2:g.w<=12)(h3:1<=g.d)(h4:g.d<=3)(h5:g.kind=[]\/∃c∈aK,g.kind=[c])(h6:g.wide<=g.w*g.d)(h7:g.gap<=6)(h8:∃(wt:Int)(ws:U Pl),ws.n<=6/\g.worth=.int wt/\g.tP=.tup (ws.map bp)):ju g:=
 ⟨⟨h1,by lia,h3,by lia,by rcases h5 with h|⟨c,_,h⟩<;>rw [h]<;>simp,by let:=A55 h2 h4;lia,by lia⟩,h2,h4,h5,h6,h7,h8⟩
@[simp] def _6(i:Int):dC .int (.int i)=Da:=rfl
@[simp] def YM(i:Int):dC .bool (.int i)=AT:=rfl
def ltP(p q:Pl):Prop:=p.1<q.1\/p.1=q.1/\p.2<q.2
def Ib(h:p∈eQ r C):p.1=r/\0<=p.2/\p.2<C:=by let(c,hc,rfl):=A03.mp h;rw[A33]at hc;show⟨rfl,by lia,by lia⟩
def xT:p∈iB n C↔0<=p.1/\p.1<n/\0<=p.2/\p.2<C:=by
 constructor
 .intro h;let(r,hr,h):=B26.mp h;rw[A33]at hr;let(h1,h2,h3):=Ib h;show⟨by lia,by lia,h2,h3⟩
 .rintro⟨h1,h2,h3,h4⟩;show B26.mpr ⟨p.1.toNat,A33.mpr ∅,A03.mpr ⟨p.2.toNat,A33.mpr ∅,?_⟩⟩;apply Prod.ext
  .lia
  .lia
def take_snoc{α:Type}{xs:U α}{x:α}(h:xs[i]?=AC x):xs.take (i+1)=xs.take i++[x]:=by rw[B61,h];rfl
def places_len(H:Hall rows C)(g:G):(places rows C g).length<=10000:=by let h1:=A77 (b_ rows g)<|iB rows.length C;rw[nh]at h1;let:=A55 H.r2 H.c2;unfold places;lia
end KG
set_option maxRecDepth 4000
namespace KG
open Z
abbrev GP:=G×Pl
abbrev GO:=G×ε Pl
def bY:ε Pl->D
|none=>.non
|some p=>bp p
@[simp] def YX(p:Pl):bY (AC p)=bp p:=rfl
@[simp] def YY:bY Ch=.non:=rfl
def qg(x:GP):D:=.tup [aF x.1,bp x.2]
def MD(x:GO):D:=.tup [aF x.1,bY x.2]
def S!:∀(xs:U GO),lJ (xs.map λ x=>aF x.1) (xs.map λ x=>bY x.2)=xs.map MD
|[]=>rfl
|x::xs=>by simp[lJ,S! xs];rfl
@[simp] def aep(o:ε Pl):jF (bY o)=.ok (.bl o.isSome):=by ext o<;>rfl
@[simp] def gX(x:GP)(i j:Nat)(Y:Env):e_ [i,j] (qg x) Y=.ok ((Y.set i<|v<|aF x.1).set j<|v<|bp x.2):=rfl
@[simp] def gY(x:GO)(i j:Nat)(Y:Env):e_ [i,j] (MD x) Y=.ok ((Y.set i<|v<|aF x.1).set j<|v<|bY x.2):=rfl
def kW{α:Type}(xs:U α):xs.filter (λ _=>Da)=xs:=A87.mpr λ _ _=>rfl
def nv:U GO->U GP
|[]=>[]
|(g,AC p)::xs=>(g,p)::nv xs
|(_,Ch)::xs=>nv xs
def yW:∀xs,(xs.filter λ x=>x.2.isSome).map MD=(nv xs).map qg
|[]=>rfl
|(g,AC p)::xs=>by rw[C57 (by rfl)];erw[A06,yW xs];rfl
|(g,Ch)::xs=>by rw[C58 ∅];erw[nv,yW xs]
def mQ:∀xs,(nv xs).length<=xs.n
|[]=>P3 _
|(g,AC p)::xs=>by let:=mQ xs;erw[nv,A22];lia
|(g,Ch)::xs=>by let:=mQ xs;erw[nv,A22];lia
def iR:∀{xs}{y},y∈nv xs↔(y.1,AC y.2)∈xs
|[],y=>by simp[nv]
|(g,AC p)::xs,y=>by
 erw[nv,A01,iR,C27,B23];constructor
 .rintro(rfl|h)
  .exact .inl ⟨rfl,rfl⟩
  .exact .inr h
 .rintro(⟨h1,h2⟩|h)
  .left;rw[<-h1,<-h2]
  .exact .inr h
|(g,Ch)::xs,y=>by erw[nv,A01,iR,C27,reduceCtorEq,and_false,false_or]
def pq(h:xs.n<=16777216):b7 [.tup (xs.map λ x=>aF x.1),.tup (xs.map λ x=>bY x.2)]=.ok (.lst<|(nv xs).map qg):=by
 rw[qb];show ay ?_;simp[hV,a!,S!,h];show bF MD (λ x=>x.2.isSome) MD ?_ ?_
 .intro x hx;simp;show λ _=>⟨by decide,rfl⟩
 .rw[yW]
def uG{α:Type}(f:α->Bool)(xs:U α):gZ (.lst<|xs.map λ x=>D.bl<|f x)=.ok (.bl<|xs.all f):=by erw[gZ,all_map]
def NG(g:G)(p:Pl){xs:U GP}(h:xs.n<=16777216):du [aF g,bp p,.lst (xs.map qg)]=.ok (.bl<|xs.all λ x=>dW g p x.1 x.2):=by
 rw[qe];show ay ?_;simp[h!,a!,eN,dA,h];show bF qg (λ _=>Da) (λ x=>.bl<|dW g p x.1 x.2) ?_ ?_
 .intro x hx;simp[NC]
 .rw[kW,uG];simp
def vD(xs:U α)(h:k<=xs.n):cut xs Ch (AC<|k)=xs.take k:=by
 let:¬(k:Int)<0:=by lia
 simp[cut,dO,this]
def uQ(ss:U GP)(k:Nat):Bool:=match ss[k]? with
|some x=>(ss.take k).all λ y=>dW x.1 x.2 y.1 y.2
|none=>Da
def qY(rows:Rows)(ss:U GP):Bool:=(ss.all λ x=>b_ rows x.1 x.2)&&(FB ss.n).all (uQ ss)
def LW(H:Hall rows C)(h6:xs.n<=6)(hg:∀x∈xs,GOk x.1):mv [aS rows,.tup (xs.map λ x=>aF x.1),.tup (xs.map λ x=>bY x.2)]=.ok (.bl<|qY rows<|nv xs):=by
 rw[Mq];show ay ?_;let Ri:=mQ xs;let hl:(nv xs).length<=16777216:=by lia
 let hlx:xs.n<=16777216:=by lia
 let hk:∀x∈nv xs,GOk x.1:=λ x hx=>hg _<|iR.mp hx;generalize hss:nv xs=ss at Ri hl hk;simp[Af,a!,line,eN,dA,pq hlx,hss,hl];show bF qg (λ _=>Da) (λ x=>.bl<|b_ rows x.1 x.2) ?_ ?_
 .intro x hx;simp[Gj H<|hk x hx]
 .rw [kW,uG];cases e:(ss.all λ x=>b_ rows x.1 x.2)with
  |false=>simp[qY,e]
  |true=>
   simp[hl];show Z.comp_map (λ d=>match d with|.int c=>.bl<|uQ ss c.v|d=>d) ?_ ?_
   .intro d hd;let(j,hj):=B07 hd;let(CI,rfl):=ints_get hj;obtain⟨x,ex⟩:∃x,ss[j]?=AC x:=(_,A05 CI,)
    let i1:=(ft (d:=qg x) rfl (by rw[A07,ex];rfl)).2;let i2:aW (qg x) (.int 0)=.ok (aF x.1):=rfl;let i3:aW (qg x) (.int 1)=.ok (bp x.2):=rfl;let ct:=vD (ss.map qg) (k:=j) (by rw[A04];lia);let af:=NG x.1 x.2 (xs:=ss.take j) (by rw[A32];lia);rw[C31]at af;rw[Int.zero_add];simp[i1,i2,i3,LP,ct,af,uQ,ex]
   .let:(zints 0 ss.n).map (λ d=>match d with|.int c=>.bl<|uQ ss c.v|d=>d)=(FB ss.n).map λ j=>D.bl (uQ ss j):=by rw[ints_map,A17];show A84 λ j _=>?_;simp
    rw[this,uG];simp[qY,e]
def D_:qY rows ss=Da↔(∀x∈ss,b_ rows x.1 x.2=Da)/\ss.Pairwise λ a b=>dW b.1 b.2 a.1 a.2=Da:=by
 unfold qY;rw[A60,A35,A35,C29];show and_congr_right λ _=>?_;constructor
 .intro h i j hi hj rQ;let:=h j<|A33.mpr hj;rw[uQ,A05]at this;rw[A35]at this;show this ss[i]<|List.mem_iff_getElem.mpr ⟨i,by rw[A32];show Nat.lt_min.mpr ⟨rQ,Nat.lt_trans rQ hj⟩,by rw[AB2]⟩
 .intro h k hk;rw[A33]at hk;rw[uQ,A05];rw[A35];intro y hy;let(i,hi,rfl):=List.mem_iff_getElem.mp hy;rw[A32]at hi;rw[AB2];show h i k ∅ hk ∅
def Jn(g:G)(p:Pl)(h:G)(q:Pl):dW g p h q=dW h q g p:=by unfold dW;rw[decide_eq_decide,Int.max_comm];show or_left_comm.trans<|or_congr .rfl<|or_congr .rfl or_comm
def uh:∀{xs},(nv xs).Pairwise R↔xs.Pairwise λ a b=>∀p q,a.2=AC p->b.2=AC q->R (a.1,p) (b.1,q)
|[]=>by simp[nv]
|(g,AC p)::xs=>by
 erw[nv,xL,uh];show and_congr_left λ _=>?_;constructor
 .intro h b hb p' q hp hq;ext hp;show h (b.1,q)<|iR.mpr (by erw[<-hq];show hb)
 .intro h y hy;show h _ (iR.mp hy) p y.2 rfl rfl
|(g,Ch)::xs=>by erw[nv,xL,uh];show(λ h=>(λ b hb p q hp=>(by ext hp),h,),λ h=>h.2,)
end KG
set_option maxRecDepth 4000
namespace KH
open Z KG
def k_:SF:=(aH<|eB aC (eB aC (MF (eW 0) NW<|qQ<|eW 1)<|cw<|aV 2 ah)<|MF (eW 0) (qQ<|eB aC (eW 1)<|eI 1) NW)
def cf:U D->Res D:=fn 3 3 k_
def wR(x0 x1 x2:D):cf [x0,x1,x2]=bc (k_ [AC (.val x0),AC (.val x1),AC (.val x2)]):=bX _ _ _ _ rfl
def lq:SF:=(aH<|eU gW<|eL<|bB (cY<|eW 0) 1 [1,2] (aJ 0) (tE<|ai KG.du<|aV 1<|aV 0<|aV 2 ah)<|eV 0)
def eE:U D->Res D:=fn 3 3 lq
def wX(x0 x1 x2:D):eE [x0,x1,x2]=bc (lq [AC (.val x0),AC (.val x1),AC (.val x2)]):=bX _ _ _ _ rfl
def lr:SF:=(aB (l_ 2<|a9 ah)<|aB (fm (cY<|eV 1) (aJ 3)<|aB (cV 2<|eB oMod (eW 0)<|eW 3)<|aO 0<|eB oDiv (eW 0)<|eW 3)<|uu 2<|aH<|eV 2)
def dF:U D->Res D:=fn 2 4 lr
def w5(x0 x1:D):dF [x0,x1]=bc (lr [AC (.val x0),AC (.val x1),Ch,Ch]):=bX _ _ _ _ rfl
def oX:SF:=(aH<|eB aC (eB aC (MF (eW 0) NW<|qQ<|eW 1)<|cw<|aV 2 ah)<|MF (eW 0) (qQ<|eB aC (eW 1)<|eI 1) NW)
def mq:U D->Res D:=fn 3 3 oX
def B?(x0 x1 x2:D):mq [x0,x1,x2]=bc (oX [AC (.val x0),AC (.val x1),AC (.val x2)]):=bX _ _ _ _ rfl
end KH
set_option maxRecDepth 8000
namespace KH
open Z KG
def kj:Int->U Int->U Int
|_,[]=>[]
|c,s::ss=>c % s::kj (c / s) ss
def Oj:Int->U Int->Int
|c,[]=>c
|c,s::ss=>Oj (c / s) ss
def Ci:∀c a b,kj c (a++b)=kj c a++kj (Oj c a) b
|c,[],b=>rfl
|c,s::a,b=>by simp[kj,Oj,Ci _ a b]
def GL:∀c a b,Oj c (a++b)=Oj (Oj c a) b
|c,[],b=>rfl
|c,s::a,b=>by simp[Oj,GL _ a b]
def vt:∀c a,(kj c a).length=a.n
|c,[]=>rfl
|c,s::a=>by simp[kj,vt _ a]
def Szs(ss:U Int):Prop:=ss.n<=100/\∀s∈ss,0<s/\s<=1000000000000000000000000000000000000000000000000000000000000
def mW(h:Szs ss)(c:Int):dF [.int c,.lst (ss.map .int)]=.ok (.lst<|(kj c ss).map .int):=by
 rw[w5];show ay ?_;simp[lr];show fR (λ i Y=>∃x,Y=[vi (Oj c<|ss.take i),v (.lst<|ss.map .int),ow ((kj c<|ss.take i).map .int),x]) ⟨Ch,by simp[Oj,kj]⟩ ?_ ?_
 .rintro j d Y hj ⟨x,rfl⟩;rw[A07]at hj;cases e:ss[j]? with
  |none=>rw[e]at hj;ext hj
  |some s=>
   rw[e]at hj;ext hj;let(h1,h2):=h.2 s (A25 e);let hl:(kj c<|ss.take j).length<16777216:=by rw[vt,A32];let:=h.1;lia
   simp[h1,hl,bw h1 ∅,take_snoc e,Ci,GL,kj,Oj]
 .rintro Y ⟨x,rfl⟩;simp
def Gv:∀c ss m,(∀s∈ss,0<s/\s<=m)->∀x∈kj c ss,0<=x/\x<m
|c,[],m,_=>by simp[kj]
|c,s::ss,m,h=>by
 intro x hx;erw[kj,A01]at hx;rcases hx with rfl|hx
 .let(h1,h2):=h s A10;let:=B77 c h1;show⟨B78 _ ∅,by lia⟩
 .exact Gv _ ss m (λ t ht=>h t<|A08 _ ht) x hx
def EJ(xs:U α)(h:(r+1)*c<=xs.n):(cut xs (AC<|(r)*c)<|some<|((r)+1)*c).length=c:=by
 let h1:((r)*c)=((r*c:Nat):Int):=by push_cast;rfl
 let h2:(((r)+1)*c)=(((r+1)*c:Nat):Int):=by push_cast;rfl
 rw[h1,h2];let h3:(r+1)*c=r*c+c:=B29 ..;let n1:¬((r*c:Nat):Int)<0:=by lia
 let n2:¬(((r+1)*c:Nat):Int)<0:=by lia
 let a2:=A72 h;let a1:=A72<|A14 (B08 c<|A67 r) h;erw[cut,dO,n1,n2,A59,B00,A32,B54,a1,a2];rw[h3,C32];show A72<|Nat.le_sub_of_add_le (by rw[A94,<-h3];show h)
def Sl(f:α->β)(xs:U α)(l h:ε Int):cut (xs.map f) l h=(cut xs l h).map f:=by simp[cut,C33]
def Hn:signs.n=29:=by decide
def OW(h:n<=100):Szs (Do n 29):=⟨by calc h,λ s hs=>by rw[C59 hs];decide⟩
@[simp] def aeg:oy (.int 10) (.int 40)=.ok (.int 10000000000000000000000000000000000000000):=j8 10 40 ∅ ∅
@[simp] def aeh:oy (.int 10) (.int 39)=.ok (.int 1000000000000000000000000000000000000000):=j8 10 39 ∅ ∅
def pw2:Nat->Int
|0=>1
|1=>2
|2=>4
|3=>8
|4=>16
|_=>32
def Sk(row:U Nat)(h:c+w<=row.n):cut row (AC<|c) (AC<|(c)+w)=(row.drop c).take w:=by
 let n1:¬(c:Int)<0:=Int.not_lt.mpr (Int.natCast_nonneg c)
 let n2:¬(c:Int)+w<0:=Int.not_lt.mpr (Int.natCast_nonneg (c+w))
 let e:((c:Int)+w).toNat=c+w:=rfl
 erw[cut,dO,n1,n2,A59,B00,e];rw[A72 h,A72 ∅,C32]
def Hu(H:Hall rows C){r c w:Nat}(hr:rows[r]?=AC row)(h:c+w<=C):((row.drop c).take w).map AC=(gD w (r)<|c).map (bZ rows):=by
 let hl:=H.len row<|A25 hr;apply B79;intro j;erw[A07,gD,List.getElem?_take,C34];by_cases hj:j<w
 .rw[M2 hj,ul hj];let hc:c+j<row.n:=by lia
  rw[A05 hc];erw[A69,bZ];let e1:((c)+(j:Int)).toNat=c+j:=by lia
  rw[M2 ⟨by lia,by lia⟩];simp[hr,e1]
 .rw[W1 hj,B33 (by simp;lia)];rfl
def agA(k:U Nat)(c:Nat):(!(c == 46)&&(!(c == 61)&& !([c] == k)))= !b? k (AC c):=by
 by_cases h1:c=46
 .simp[b?,h1]
 .by_cases h2:c=61
  .simp[b?,h2]
  .by_cases h3:k=[c]
   .subst h3;simp[b?]
   .let h3':¬[c]=k:=λ h=>h3 h.c;simp[b?,h1,h2,h3,h3']
def okJ(xs:U GO)(g:G)(k:Nat)(p:Pl)(j:Nat):Bool:=decide (j=k)||match xs[j]? with
|some (h,AC q)=>dW g p h q
|_=>Da
def openAt(xs:U GO)(g:G)(k:Nat)(p:Pl):Bool:=(FB xs.n).all<|okJ xs g k p
def eR(rows:Rows)(C:Nat)(xs:U GO)(g:G)(k:Nat):U Pl:=(places rows C g).filter<|openAt xs g k
def aw(xs:U GO):D:=.tup<|xs.map λ x=>aF x.1
def aj(xs:U GO):D:=.tup<|xs.map λ x=>bY x.2
def Fv{k:Nat}(h:k<ds.n)(d:D):cut ds Ch (AC<|k)++(d::cut ds (AC<|(k)+1) Ch)=ds.set k d:=by
 let e1:cut ds Ch _=ds.take k:=vD ds ∅;let e2:cut ds (AC<|(k)+1) Ch=ds.drop (k+1):=by
  let:¬(k:Int)+1<0:=by lia
  let h3:((k:Int)+1).toNat=k+1:=by lia
  let h4:min (k+1) ds.n=k+1:=by lia
  simp[cut,dO,this,h4];rw[B68 ∅]
 rw[e1,e2,List.set_eq_take_append_cons_drop,M2 h]
def OB(h:k<ds.n)(hl:ds.n<=1000)(d:D):mq [.tup ds,.int (k:Nat),d]=.ok (.tup<|ds.set k d):=by
 rw[B?];show ay ?_;let c1:=kZ ds Ch<|some<|k;let c2:=kZ ds (AC<|(k)+1) Ch;let g1:(cut ds Ch<|some<|k).length+1<=16777216:=by lia
 let g2:(cut ds Ch<|some<|k).length+1+(cut ds (AC<|(k)+1) Ch).length<=16777216:=by lia
 simp[oX,line,g1,g2,Fv h]
def wa(h:k<ds.n)(hl:ds.n<=1000)(d:D):cf [.tup ds,.int (k:Nat),d]=.ok (.tup<|ds.set k d):=by
 rw[wR];show ay ?_;let c1:=kZ ds Ch<|some<|k;let c2:=kZ ds (AC<|(k)+1) Ch;let g1:(cut ds Ch<|some<|k).length+1<=16777216:=by lia
 let g2:(cut ds Ch<|some<|k).length+1+(cut ds (AC<|(k)+1) Ch).length<=16777216:=by lia
 simp[k_,line,g1,g2,Fv h]
def IJ(xs:U GO)(k:Nat)(g:G)(o:ε Pl):aj (xs.set k (g,o))=.tup ((xs.map λ x=>bY x.2).set k<|bY o):=by simp[aj]
def yg(h:xs[k]?=AC x)(o:ε Pl):aw (xs.set k (x.1,o))=aw xs:=by
 let hk:=(A09.mp h).1;let e:x=xs[k]:=by rw[A05]at h;show(f8 h).symm
 unfold aw;rw[C35]
 congr 1
 subst e;apply C30 ∅;intro i h1 h2;rw[AC4];split
 .rename_i e;subst e;simp
 .rfl
def Good(rows:Rows)(xs:U GO):Prop:=∀(i:Nat)(g:G)(p:Pl),xs[i]?=AC (g,AC p)->b_ rows g p=Da/\∀(j:Nat)(h:G)(q:Pl),xs[j]?=AC (h,AC q)->j≠i->dW g p h q=Da
def oq:openAt xs g k p=Da↔∀(j:Nat) h q,xs[j]?=AC (h,AC q)->j≠k->dW g p h q=Da:=by
 unfold openAt;rw[A35];constructor
 .intro h j hh q e hj;let hl:=(A09.mp e).1;let:=h j<|A33.mpr hl;simpa[okJ,e,hj]using this
 .intro h j hj;unfold okJ;by_cases hk:j=k
  .simp[hk]
  .cases e:xs[j]? with
   |none=>simp
   |some y=>
    let(hh,o):=y;cases o with
    |none=>simp
    |some q=>simp[h j hh q e hk]
def Good.put(h:Good rows xs)(hk:xs[k]?=AC x)(hf:b_ rows x.1 p=Da)(ho:openAt xs x.1 k p=Da):Good rows (xs.set k (x.1,AC p)):=by
 rw[oq]at ho;let hl:=(A09.mp hk).1;intro i g q e;rw[A56]at e;by_cases hi:k=i
 .subst hi;rw[M2 rfl,M2 hl]at e;ext e;show(hf,λ j hh r ej hj=>?_,);rw[A56,W1 λ z=>hj z.c]at ej;show ho j hh r ej hj
 .rw[W1 hi]at e;let(h1,h2):=h i g q e;show(h1,λ j hh r ej hj=>?_,);rw[A56]at ej;by_cases CI:k=j
  .subst CI;rw[M2 rfl,M2 hl]at ej;ext ej;rw[Jn];show ho i g q e λ z=>hi z.c
  .rw[W1 CI]at ej;show h2 j hh r ej hj
def Good.sub{xs ys:U GO}(h:Good rows xs)(hs:∀(i:Nat) g p,ys[i]?=AC (g,AC p)->xs[i]?=AC (g,AC p)):Good rows ys:=by intro i g p e;let(h1,h2):=h i g p (hs i g p e);show(h1,λ j hh q ej hj=>h2 j hh q (hs j hh q ej) hj,)
def Good.keeps(h:Good rows xs):qY rows (nv xs)=Da:=by
 rw[D_];constructor
 .intro y hy;let(i,hi):=B07 (iR.mp hy);show(h i y.1 y.2 hi).1
 .rw[uh,C29];intro i j hi hj rQ p q ep eq;let e1:xs[i]?=AC (xs[i].1,AC p):=by rw[A05,<-ep]
  let e2:xs[j]?=AC (xs[j].1,AC q):=by rw[A05,<-eq]
  show(h j _ q e2).2 i _ p e1 ∅
def nK(ps:U Pl)(g:G){ss:U GP}(hp:ps.n<=10000)(hs:ss.n<=6):eE [.tup (ps.map bp),aF g,.lst (ss.map qg)]=.ok (.tup<|(ps.filter λ p=>ss.all λ x=>dW g p x.1 x.2).map bp):=by
 rw[wX];show ay ?_;let hp':ps.n<=16777216:=by lia
 simp[lq,a!,eN,dA,hp'];show bF bp (λ p=>ss.all λ x=>dW g p x.1 x.2) bp ?_ ?_
 .intro p hp;simp[NG g p (xs:=ss) ∅]
 .rfl
def A9(hk:xs[k]?=AC x)(p:Pl):((nv<|xs.set k (x.1,Ch)).all λ y=>dW g p y.1 y.2)=openAt xs g k p:=by
 rw[A65,oq,A35];let hl:=(A09.mp hk).1;constructor
 .intro h j hh q e hj;let hm:(hh,AC q)∈xs.set k (x.1,Ch):=by show A25 (i:=j) ?_;rw[A56,W1 λ z=>hj z.c];show e
  show h (hh,q)<|iR.mpr hm
 .intro h y hy;let(j,e):=B07 (iR.mp hy);rw[A56]at e;by_cases hj:k=j
  .rw[M2 hj]at e;subst hj;rw[M2 hl]at e;show nomatch A13 Prod.snd (f8 e)
  .rw[W1 hj]at e;show h j y.1 y.2 e λ z=>hj z.c
def nP(h:p∈places rows C g):b_ rows g p=Da:=(A63.mp h).2
end KH
set_option maxRecDepth 4000
namespace KB
open Z KG KH
def oR:SF:=(aH<|eB aC (eX 0 6)<|eU K?<|eL<|bB (cY<|eX 0 7) 1 [1] (aJ 0) (tE<|eB oEq (eX 0 0)<|eW 1)<|eX 0 1)
def jH:U D->Res D:=fn 2 2 oR
def B8(x0 x1:D):jH [x0,x1]=bc (oR [AC (.val x0),AC (.val x1)]):=bX _ _ _ _ rfl
def oQ:SF:=(aH<|eU K?<|eL<|bB (cY<|ai KG.b7<|aV 0<|aV 1 ah) 2 [] (e_ [0,1]) bM<|ai jH<|aV 0<|aX 1 0 ah)
def cn:U D->Res D:=fn 2 2 oQ
def B7(x0 x1:D):cn [x0,x1]=bc (oQ [AC (.val x0),AC (.val x1)]):=bX _ _ _ _ rfl
def jr:SF:=(aB (aO 3<|eIf (tE<|eU lN<|eW 2) (eB FQ (cw<|ae (eC .non) ah)<|eU ck<|eW 1)<|eV 2)<|aB (dB (fN<|tE<|ai KG.mv<|aV 0<|aV 1<|aV 3 ah) jy aE)<|aH<|eV 3)
def bo:U D->Res D:=fn 3 4 jr
def sJ(x0 x1 x2:D):bo [x0,x1,x2]=bc (jr [AC (.val x0),AC (.val x1),AC (.val x2),Ch]):=bX _ _ _ _ rfl
def EV:SF:=(aB (aO 3<|eI 1)<|aB (fm (Ef (eV 1)<|ai bo<|aV 0<|aV 1<|aV 2 ah) (e_ [4,5])<|dB (tE<|eU lN<|eW 5) (aO 3<|eB fP (eV 3)<|eB aC (eU ck<|ai KG.fL<|aV 0<|aV 4 ah)<|eI 1) aE)<|aH<|eV 3)
def tu:U D->Res D:=fn 3 6 EV
def Ru(x0 x1 x2:D):tu [x0,x1,x2]=bc (EV [AC (.val x0),AC (.val x1),AC (.val x2),Ch,Ch,Ch]):=bX _ _ _ _ rfl
def jU:SF:=(aB (aO 3<|ai tu<|aV 0<|aV 1<|aV 2 ah)<|aB (dB (tE<|eB zk (eW 3)<|eI 2000) jy aE)<|aH<|ai bo<|aV 0<|aV 1<|aV 2 ah)
def fA:U D->Res D:=fn 3 4 jU
def vf(x0 x1 x2:D):fA [x0,x1,x2]=bc (jU [AC (.val x0),AC (.val x1),AC (.val x2),Ch]):=bX _ _ _ _ rfl
def iJ:SF:=(aB (aO 5<|ai KG.fL<|aV 0<|ae (eY 1 3) ah)<|aB (l_ 6<|a9 ah)<|aB (fm (cY<|eV 2) (aJ 7)<|aB (aO 8<|ai KG.b7<|aV 1<|aV 7 ah)<|aB (sD 6<|bB (cY<|ai KH.eE<|aV 5<|ae (eY 1 3)<|aV 8 ah) 1 [7,3] (aJ 0) bM<|ai KH.cf<|aV 1<|aV 2<|aV 0 ah)<|dB (tE<|eV 4) (cV 6<|eV 7) aE)<|uu 6<|aH<|eV 6)
def fK:U D->Res D:=fn 5 9 iJ
def rd(x0 x1 x2 x3 x4:D):fK [x0,x1,x2,x3,x4]=bc (iJ [AC (.val x0),AC (.val x1),AC (.val x2),AC (.val x3),AC (.val x4),Ch,Ch,Ch,Ch]):=bX _ _ _ _ rfl
def iK:SF:=(aB (aO 4<|eL<|a9<|aV 2 ah)<|aB (fm (fT<|eU ck<|eW 1) (aJ 5)<|dB (tE<|eU lN<|eY 2 5) (aO 4<|ai fK<|aV 0<|aV 1<|aV 4<|aV 5<|aV 3 ah) aE)<|aH<|eV 4)
def dR:U D->Res D:=fn 4 6 iK
def rf(x0 x1 x2 x3:D):dR [x0,x1,x2,x3]=bc (iK [AC (.val x0),AC (.val x1),AC (.val x2),AC (.val x3),Ch,Ch]):=bX _ _ _ _ rfl
def gQ:SF:=(aH<|zV Da (.ok .non) (eW 1) [0]<|ai cn<|aV 1<|aV 0 ah)
def fV:U D->Res D:=fn 2 2 gQ
def nW(x0 x1:D):fV [x0,x1]=bc (gQ [AC (.val x0),AC (.val x1)]):=bX _ _ _ _ rfl
def ik:SF:=(aB (aO 3<|ai fA<|aV 0<|aV 1<|aV 2 ah)<|aH<|ai fV<|aV 1<|ae (ai dR<|aV 0<|aV 1<|aV 3<|ae (eC<|.bl AT) ah) ah)
def bu:U D->Res D:=fn 3 4 ik
def my(x0 x1 x2:D):bu [x0,x1,x2]=bc (ik [AC (.val x0),AC (.val x1),AC (.val x2),Ch]):=bX _ _ _ _ rfl
end KB
set_option maxRecDepth 8000
namespace KB
open Z KG
open KH
def HF(H:Hall rows C)(xs:U GO)(g:G)(k:Nat):(eR rows C xs g k).length<=10000:=A14 (A77 _ _)<|places_len H g
def Wm(H:Hall rows C)(h6:xs.n<=6)(hg:∀x∈xs,GOk x.1)(hk:Good rows xs):KG.mv [aS rows,aw xs,aj xs]=.ok (.bl Da):=by let:=LW H h6 hg;rw[hk.keeps]at this;show this
def ye(H:Hall rows C)(h6:xs.n<=6)(hg:∀x∈xs,GOk x.1)(hk:Good rows xs):bo [aS rows,aw xs,aj xs]=.ok (aj xs):=by rw[sJ];show ay ?_;let hN:lN (aj xs)=.ok _:=rfl;simp[jr,hN,Wm H h6 hg hk]
def wtD:D->Int
|.int w=>w
|_=>0
def plD:D->Pl
|.tup [.int a,.int b]=>(a,b)
|_=>(0,0)
def Zk:D->U Pl
|.tup ds=>ds.map plD
|_=>[]
def more(ws:U Pl)(row:Int):Int:=((ws.filter λ p=>decide<|p.1=row).map (·.2)).sum
def JR(g:G)(row:Int):Int:=wtD g.worth+more (Zk g.tP) row
def wO(x:GO):Int:=match x.2 with
|none=>0
|some p=>JR x.1 p.1
def E!(ws:U Pl):Zk (.tup<|ws.map bp)=ws:=by change(ws.map bp).map plD=ws;rw[A17];let:(plD∘bp)=id:=funext λ p=>rfl;rw[this,List.map_id]
def TK(ns:U Int):K? (.lst<|ns.map D.int)=.ok (.int ns.sum):=by change(match A2 _ with|some i=>Res.ok _|none=>.bad)=_;rw[xx]
def AB(h:ju g)(row:Int):jH [aF g,.int row]=.ok (.int<|JR g row):=by
 let(wt,ws,hl,e1,e2):=h.wsh;rw[B8];show ay ?_;let iS:ws.n<=16777216:=by lia
 let e3:JR g row=wt+more ws row:=by unfold JR;rw[e1,e2,E!];rfl
 rw[e3];simp[oR,a!,eN,dA,e1,e2,iS];show bF bp (λ p=>decide<|p.1=row) (λ p=>.int p.2) (λ p _=>?_) ?_
 .simp;rfl
 .rw[show(ws.filter λ p=>decide _).map (λ p=>D.int p.2)=((ws.filter λ p=>decide _).map _).map D.int from by rw[A17];rfl,TK];simp[more]
def yR:∀xs,((nv xs).map λ y=>JR y.1 y.2.1).sum=(xs.map wO).sum
|[]=>rfl
|(g,Ch)::xs=>by simp[nv,wO,yR xs]
|(g,AC p)::xs=>by simp[nv,wO,yR xs]
def AA{xs:U GO}(h:xs.n<=6)(hg:∀x∈xs,ju x.1):cn [.tup (xs.map λ x=>aF x.1),.tup (xs.map λ x=>bY x.2)]=.ok (.int (xs.map wO).sum):=by
 rw[B7];show ay ?_;let et:=pq (xs:=xs) ∅;let YO:=mQ xs;let Ra:(nv xs).length<=16777216:=by lia
 simp[oQ,et,a!,Ra];show bF qg (λ _=>Da) (λ y=>.int<|JR y.1 y.2.1) (λ y hy=>?_) ?_
 .let:=AB (hg _<|iR.mp hy) y.2.1;let gX:∀Y,e_ [0,1] (qg y) Y=.ok _:=λ Y=>rfl;simp[this]
 .rw[kW,show(nv xs).map (λ y=>D.int _)=((nv xs).map λ y=>JR y.1 y.2.1).map D.int from by rw[A17];rfl,TK,yR];simp
def O!{xs:U GO}:(xs.set k x).length=xs.n:=AD8
def tO{xs:U GO}(h6:xs.n<=6){k:Nat}(hk:xs[k]?=AC (g,o))(p:Pl):KH.cf [aj xs,.int (k),bp p]=.ok (aj<|xs.set k (g,AC p))/\KH.mq [aj xs,.int (k),bp p]=.ok (aj<|xs.set k (g,AC p)):=by let hl:=(A09.mp hk).1;let h1:=wa (ds:=xs.map λ x=>bY x.2) (k:=k) (by simp;lia) (by simp;lia)<|bp p;let h2:=OB (ds:=xs.map λ x=>bY x.2) (k:=k) (by simp;lia) (by simp;lia)<|bp p;rw[IJ];show(h1,h2,)
def Kd{C:Nat}(hr:∀x∈rows,x.n=C)(h:bZ rows s=AC c):0<=s.1/\s.1<rows.n/\0<=s.2/\s.2<C:=by
 unfold bZ at h;split at h
 .rename_i z;cases e:rows[s.1.toNat]? with
  |none=>rw[e]at h;ext h
  |some r=>rw[e]at h;let h:=h;show(z.1,(Int.toNat_lt z.1).mp (A09.mp e).1,z.2,hr r (A25 e)▸(Int.toNat_lt z.2).mp (A09.mp h).1,)
 .ext h
def ZM(k:GOk g)(p:Pl):p∈seats g p:=by let hw:=k.w1;let hd:=k.d1;unfold seats iD gD;erw[B26,A33,A03];show⟨0,by lia,0,by lia,by simp⟩
def B5(H:Hall rows C)(k:GOk g)(h:b_ rows g p=Da):p∈places rows C g:=by
 show A63.mpr ⟨xT.mpr ?_,h⟩;unfold b_ at h;rw[A60,A35]at h;let:=h.1 p<|ZM k p;cases e:bZ rows p with
 |none=>rw[e]at this;ext this
 |some c=>show Kd H.len e
structure Ext(cs hs:List GO):Prop where
 gs:cs.map (·.1)=hs.map (·.1)
 sub:∀(i:Nat)(g:G)(p:Pl),cs[i]?=AC (g,AC p)->hs[i]?=AC (g,AC p)
def Ext.len(e:Ext cs hs):cs.n=hs.n:=by let:=A13 List.length e.gs;rwa [A04,A04]at this
def Ext.at(e:Ext cs hs){k:Nat}(h:cs[k]?=AC (g,o)):∃o',hs[k]?=AC (g,o')/\(∀p,o=AC p->o'=AC p):=by
 let hl:=(A09.mp h).1;rw[e.len]at hl;obtain⟨⟨g',o'⟩,e'⟩:∃x,hs[k]?=AC x:=(_,A05 hl,)
 let z:=A13 (λ l=>l[k]?) e.gs;erw[A07,h,e',A69,B23]at z;subst z;show(o',e',λ p hp=>?_,);subst hp;let:=e.sub k g p h;rw[e']at this;show(Prod.mk.inj<|f8 this).2
def zip_map{α:Type}(f h:α->D):∀xs:U α,lJ (xs.map f) (xs.map h)=xs.map λ x=>.tup [f x,h x]
|[]=>rfl
|x::xs=>by simp[lJ,zip_map f h xs];rfl
open KH
def cJ:U Nat->Nat
|[]=>1
|n::r=>n*cJ r
def kI:∀a b,cJ (a++b)=cJ a*cJ b
|[],b=>by simp[cJ]
|n::a,b=>by simp[cJ,kI a b,Nat.mul_assoc]
def xG:∀{l},(∀n∈l,0<n)->0<cJ l
|[],_=>Nat.one_pos
|n::l,h=>Nat.mul_pos (h n A10)<|xG λ m hm=>h m<|A08 _ hm
def gw(rows:Rows)(C:Nat)(x:GO):Nat:=match x.2 with
|none=>(places rows C x.1).length+1
|some _=>1
def tT(rows:Rows)(C:Nat)(x:GO):0<gw rows C x:=by unfold gw;split<;>lia
def cM(rows:Rows)(C:Nat)(xs:U GO):Nat:=cJ<|xs.map<|gw rows C
def JN(xs:U GO):0<cJ (xs.map<|gw rows C):=xG λ n hn=>by let(x,_,rfl):=A03.mp hn;show tT rows C x
def G3(xs:U GO)(j:Nat):cJ ((xs.take j).map<|gw rows C)<=cM rows C xs:=by
 unfold cM;let e:xs.map (gw rows C)=(xs.take j).map (gw rows C)++(xs.drop j).map (gw rows C):=by rw[<-A27,B80]
 rw[e,kI];show Nat.le_mul_of_pos_right _<|JN _
def qy{xs:U GO}(h:xs[j]?=AC x):cJ ((xs.take<|j+1).map<|gw rows C)=cJ ((xs.take j).map<|gw rows C)*gw rows C x:=by rw[take_snoc h,A27,kI];simp[cJ]
def OD(H:Hall rows C)(h6:xs.n<=6)(hg:∀x∈xs,GOk x.1)(ef:bo [aS rows,aw xs,fd]=.ok (aj xs)):tu [aS rows,aw xs,fd]=.ok (.int<|cM rows C xs):=by
 rw[Ru];show ay ?_;simp[EV,ef];unfold aw aj at *;simp[zip_map];show fR (λ i Y=>∃x4 x5,Y=[v _,v _,v fd,vi (cJ<|(xs.take i).map<|gw rows C),x4,x5]) ⟨Ch,Ch,rfl⟩ ?_ ?_
 .rintro j d Y hj ⟨x4,x5,rfl⟩;rw[A07]at hj;let((g,o),hx,rfl):=B31.mp hj;let gX:∀Y,e_ [4,5] (.tup [aF g,bY o]) Y=.ok _:=λ Y=>rfl;rw[qy hx];generalize cJ _=m;cases o with
  |some p=>let en:lN (bp p)=.ok _:=rfl;simp[gX,bY,en,gw]
  |none=>let pl:=places_of_ok H<|hg _<|A25 hx;let dX:=places_len H g;rw[show gw rows C (g,Ch)=(places rows C g).length+1 from rfl];generalize places rows C g=ps at pl dX ⊢;let q1:bS (m) ((ps.n)+1):=xz<|Or.inl ⟨by lia,by lia⟩;simp[gX,bY,pl,q1]
 .rintro Y ⟨x4,x5,rfl⟩;rw[A04,B20];simp[cM]
def A7(H:Hall rows C)(h6:xs.n<=6)(hg:∀x∈xs,GOk x.1)(ef:bo [aS rows,aw xs,fd]=.ok (aj xs))(hw:cM rows C xs<=2000):fA [aS rows,aw xs,fd]=.ok (aj xs):=by
 let ew:=OD H h6 hg ef;rw[vf];show ay ?_;let:¬(2000:Int)<(cM rows C xs):=by lia
 simp[jU,ew,ef,this]
def l!(rows:Rows)(C:Nat)(sm:Bool)(g:G)(k:Nat)(cs:U GO):U (U GO):=(eR rows C cs g k).map (λ p=>cs.set k (g,AC p))++if sm then[cs]else[]
def A4:(l! rows C sm g k cs).length<=(places rows C g).length+1:=by let:=A77 (openAt cs g k)<|places rows C g;unfold l! eR;ext sm<;>simp<;>lia
def vc{α β:Type}{f:α->U β}:∀{L:U α},(∀x∈L,(f x).length<=m)->(L.flatMap f).length<=L.n*m
|[],_=>by simp
|x::L,h=>by let:=vc λ y hy=>h y<|A08 _ hy;let hx:=h x A10;rw[List.flatMap_cons,A23,A22,Nat.add_mul,Nat.one_mul];lia
def Me(h:cs.map (·.1)=xs.map (·.1)):aw cs=aw xs:=by let:=A13 (List.map aF) h;rw[A17,A17]at this;show A13 D.tup this
def HE(H:Hall rows C){cs:U GO}(h6:cs.n<=6){k:Nat}(hk:cs[k]?=AC (g,Ch)):KH.eE [.tup ((places rows C g).map bp),aF g,.lst ((nv cs).map qg)]=.ok (.tup<|(eR rows C cs g k).map bp):=by
 let hl:=(A09.mp hk).1;let YO:=mQ cs;let ho:=nK _ g (ss:=nv cs) (places_len H g) ∅;let Wz:cs.set k (g,Ch)=cs:=by let:=(A09.mp hk).2;rw[<-this];show C60 hl
 let he:(places rows C g).filter (λ p=>(nv cs).all λ x=>dW g p x.1 x.2)=eR rows C cs g k:=by show AB1 λ p _=>?_;let:=A9 (g:=g) hk p;simp only at this;rw[Wz]at this;show this
 rw[he]at ho;show ho
def Bf(H:Hall rows C){xs:U GO}(h6:xs.n<=6)(hg:∀x∈xs,GOk x.1){k:Nat}{g:G}(hk:xs[k]?=AC (g,Ch))(sm:Bool){L:U (U GO)}(hL:∀cs∈L,cs.map (·.1)=xs.map (·.1)/\cs[k]?=AC (g,Ch))(hB:L.n*((places rows C g).length+1)<=1000000):
 fK [aS rows,aw xs,.lst (L.map aj),.int (k:Nat),.bl sm]=.ok (.lst<|(L.flatMap<|l! rows C sm g k).map aj):=by
 rw[rd];show ay ?_;let ixg:aW (aw xs) (.int (k:Nat))=.ok (aF g):=(ft (xs:=xs.map λ y:GO=>aF y.1) (i:=k) (j:=k) rfl (by rw[A07,hk];rfl)).1;let pl:=places_of_ok H<|hg _<|A25 hk;simp[iJ,ixg,pl,line];show fR (λ i Y=>∃x7 x8,Y=[v (aS rows),v (aw xs),v (.lst<|L.map aj),vi (k:Nat),v (.bl sm),v (.tup<|(places rows C g).map bp),ow (((L.take i).flatMap<|l! rows C sm g k).map aj),x7,x8]) ⟨Ch,Ch,by simp⟩ ?_ ?_
 .rintro i d Y hi ⟨x7,x8,rfl⟩;rw[A07]at hi;let(cs,BP,rfl):=B31.mp hi;let(e1,e2):=hL cs (A25 BP);let j_:cs.n<=6:=by let:=A13 List.length e1;rw[A04,A04]at this;lia
  let ht:=pq (xs:=cs) ∅;rw[show D.tup (cs.map λ x=>aF x.1)=aw cs from rfl,show D.tup (cs.map λ x=>bY x.2)=aj cs from rfl,Me e1]at ht;let ho:=HE H j_ e2;let BO:i<L.n:=(A09.mp BP).1;let Oc:((L.take i).flatMap<|l! rows C sm g k).length<=(L.take i).length*((places rows C g).length+1):=vc λ x _=>A4;rw[A32,A72<|A78 BO]at Oc;let akq:i*((places rows C g).length+1)+((places rows C g).length+1)<=L.n*((places rows C g).length+1):=by rw[<-B29];show B08 _ BO
  rw[take_snoc BP,List.flatMap_append];generalize (L.take i).flatMap (l! rows C sm g k)=fs at Oc;let hol:=A77 (openAt cs g k)<|places rows C g;let WG:(eR rows C cs g k).length<=(places rows C g).length:=hol;let Jz:(eR rows C cs g k).length<=16777216:=by lia
  let ho3:fs.n+(eR rows C cs g k).length<=16777216:=by lia
  let ho4:fs.n+(eR rows C cs g k).length<16777216:=by lia
  simp[ht,ixg,ho,a!,eN,dA,line,Jz];show bF bp (λ _=>Da) (λ p=>aj<|cs.set k (g,AC p)) (λ p hp=>?_) ?_
  .simp[(tO j_ e2 p).1]
  .rw[kW];cases sm with
   |true=>simp[line,ho3,ho4,l!]
   |false=>simp[line,ho3,l!]
 .rintro Y ⟨x7,x8,rfl⟩;rw[A04,B20];simp
open KH
def dN(rows:Rows)(C:Nat)(sm:Bool)(xs:U GO):Nat->U (U GO)
|0=>[xs]
|j+1=>match xs[j]? with
 |some (g,Ch)=>(dN rows C sm xs j).flatMap<|l! rows C sm g j
 |_=>dN rows C sm xs j
section
variable{rows:Rows}{C:Nat}{sm:Bool}{xs:U GO}
def kG{j:Nat}(h:xs[j]?=AC (g,Ch)):dN rows C sm xs (j+1)=(dN rows C sm xs j).flatMap (l! rows C sm g j):=by erw[dN,h]
def kF{j:Nat}(h:xs[j]?=AC (g,AC p)):dN rows C sm xs (j+1)=dN rows C sm xs j:=by erw[dN,h]
def xD:∀{j},j<=xs.n->(dN rows C sm xs j).length<=cJ ((xs.take j).map<|gw rows C)
|0,_=>by simp[dN,cJ]
|j+1,hj=>by
 let ih:=xD (j:=j) ∅;obtain⟨⟨g,o⟩,e⟩:∃x,xs[j]?=AC x:=(_,A05 ∅,)
 rw[qy e];cases o with
 |some p=>rw[kF e,show gw rows C (g,AC p)=1 from rfl,Nat.mul_one];show ih
 |none=>rw[kG e];show A14 (vc λ x _=>A4)<|B08 _ ih
structure GN(rows:Rows)(sm:Bool)(xs:List GO)(j:Nat)(z:List GO):Prop where
 gs:z.map (·.1)=xs.map (·.1)
 rest:∀i:Nat,j<=i->z[i]?=xs[i]?
 ext:Ext xs z
 good:Good rows z
 full:sm=AT->∀(i:Nat)(g:G),i<j->z[i]?≠AC (g,Ch)
def O0{j:Nat}(e:xs[j]?=AC (g,Ch))(h:GN rows sm xs j z)(hy:y∈l! rows C sm g j z):GN rows sm xs (j+1) y:=by
 let hz:=(h.rest j<|P3 _).trans e;let hl:=(A09.mp hz).1;rcases A34.mp hy with hy|hy
 .let(p,hp,rfl):=A03.mp hy;let(h1,h2):=A63.mp hp;let gs:(z.set j (g,AC p)).map (·.1)=xs.map (·.1):=by
   rw[<-h.gs];show B79 λ i=>?_;rw[A07,A07,A56];split
   .rename_i ei;subst ei;rw[hz];rfl
   .rfl
  show(gs,λ i hi=>?_,(gs.c,λ i g' q ei=>?_,),h.good.put hz (KH.nP h1) h2,λ hs i g' hi=>?_,)
  .rw[A56,W1 ∅];show h.rest i ∅
  .let:=h.ext.sub i g' q ei;rw[A56];split
   .rename_i ej;subst ej;rw[hz]at this;ext this
   .exact this
  .rw[A56];split
   .rename_i ej;subst ej;intro q;ext q
   .exact h.full hs i g' ∅
 .cases sm with
  |false=>simp at hy
  |true=>
   let:y=z:=by simpa using hy
   subst this;show⟨h.gs,λ i hi=>h.rest i ∅,h.ext,h.good,λ hs=>nomatch hs⟩
def yX(hk:Good rows xs):∀{j},j<=xs.n->∀z∈dN rows C sm xs j,GN rows sm xs j z
|0,_,z,hz=>by
 let:z=xs:=by simpa[dN]using hz
 subst this;show(rfl,λ _ _=>rfl,(rfl,λ _ _ _ e=>e,),hk,λ _ i g hi=>absurd hi<|Nat.not_lt_zero _,)
|j+1,hj,z,hz=>by
 obtain⟨⟨g,o⟩,e⟩:∃x,xs[j]?=AC x:=(_,A05 ∅,)
 let ih:=yX hk (j:=j) ∅;cases o with
 |some p=>
  rw[kF e]at hz;let h:=ih z hz;show(h.gs,λ i hi=>h.rest i ∅,h.ext,h.good,λ hs i g' hi=>?_,);by_cases rQ:i=j
  .subst rQ;rw[h.rest i<|P3 _,e];intro q;ext q
  .exact h.full hs i g' ∅
 |none=>rw[kG e]at hz;let(y,hy,hzy):=B26.mp hz;show O0 e (ih y hy) hzy
def A!(H:Hall rows C)(hg:∀x∈xs,GOk x.1)(e:Ext xs z)(hz:Good rows z)(hs:sm=Da\/∀(i:Nat) g,z[i]?≠AC (g,Ch)):∀{j},j<=xs.n->z.take j++xs.drop j∈dN rows C sm xs j
|0,_=>by simp[dN]
|j+1,hj=>by
 let ih:=A! H hg e hz hs (j:=j) ∅;let hzl:=e.len;obtain⟨⟨g,o⟩,ex⟩:∃x,xs[j]?=AC x:=(_,A05 ∅,)
 let(o',ez,ho):=e.at ex;let hjl:j<xs.n:=by lia
 let hjz:j<z.n:=by lia
 let d1:xs.drop j=(g,o)::xs.drop (j+1):=by rw[A99 hjl];rw[A05 hjl]at ex;rw[f8 ex]
 let t1:=take_snoc ez;let tl:(z.take j).length=j:=by rw[A32];lia
 cases o with
 |some p=>rw[ho p rfl]at t1;rw[kF ex,t1,A75];rw[d1]at ih;show ih
 |none=>
  rw[kG ex];show B26.mpr ⟨_,ih,?_⟩;rw[d1];cases o' with
  |none=>
   rcases hs with rfl|hs
   .refine A43 _ ?_;rw[t1,A75];simp
   .exact absurd ez<|hs j g
  |some p=>
   show A73 _<|A03.mpr ⟨p,?_,?_⟩
   .let(f,ap):=hz j g p ez;show A63.mpr ⟨B5 H (hg _<|A25 ex) f,oq.mpr λ i g' q ei ne=>?_⟩;rw[<-d1]at ei;show ap i g' q ?_ ne;by_cases hi:i<j
    .rw[A37 (by rw[tl];show hi),C44 hi]at ei;show ei
    .rw[A45 (by rw[tl];lia),C34,tl,show j+(i-j)=i by lia]at ei;show e.sub i g' q ei
   .rw[t1,A75,List.set_append_right _ _ (by rw[tl];show P3 _),tl,Nat.sub_self];rfl
def uj(H:Hall rows C)(hg:∀x∈xs,GOk x.1)(e:Ext xs z)(hz:Good rows z)(hs:sm=Da\/∀(i:Nat) g,z[i]?≠AC (g,Ch)):z∈dN rows C sm xs xs.n:=by let:=A! H hg e hz hs<|P3 _;rw[B58,A51,e.len,B20]at this;rw[e.len];show this
def Gg(H:Hall rows C)(h6:xs.n<=6)(hg:∀x∈xs,GOk x.1)(hk:Good rows xs)(hw:cM rows C xs<=2000):dR [aS rows,aw xs,aj xs,.bl sm]=.ok (.lst<|(dN rows C sm xs xs.n).map aj):=by
 rw[rf];show ay ?_;let hl:ck (aw xs)=.ok (.int xs.n):=by simp[aw]
 simp[iK,hl,line];show fR (λ i Y=>∃x5,Y=[v (aS rows),v (aw xs),v (aj xs),v (.bl sm),v (.lst<|(dN rows C sm xs i).map aj),x5]) ⟨Ch,rfl⟩ ?_ ?_
 .rintro j d Y hj ⟨x5,rfl⟩;let(CI,rfl):=ints_get hj;obtain⟨⟨g,o⟩,e⟩:∃x,xs[j]?=AC x:=(_,A05 CI,)
  let ix:aW (aj xs) (.int<|j)=.ok (bY o):=(ft rfl (by rw[A07,e];rfl)).1;cases o with
  |some p=>let en:lN (bp p)=.ok (.bl AT):=rfl;rw[kF e];simp[ix,bY,en]
  |none=>
   let hi:=yX (C:=C) (sm:=sm) hk (j:=j) ∅;let ψ:=xD (rows:=rows) (C:=C) (sm:=sm) (xs:=xs) (j:=j) ∅;let h1:=G3 (rows:=rows) (C:=C) xs<|j+1;rw[qy e,show gw rows C (g,Ch)=(places rows C g).length+1 from rfl]at h1;let hB:(dN rows C sm xs j).length*((places rows C g).length+1)<=1000000:=by let:=B08 ((places rows C g).length+1) ψ;lia
   let om:=Bf H h6 hg e sm (L:=dN rows C sm xs j) (λ cs BP=>((hi cs BP).gs,((hi cs BP).rest j<|P3 _).trans e,)) hB;rw[kG e];simp[ix,bY,om]
 .rintro Y ⟨x5,rfl⟩;rw[gG];simp
def lG{α:Type}(mx:Bool)(w:α->Int)(b:α):U α->α
|[]=>b
|x::r=>if btr mx (w x) (w b)=Da then lG mx w x r else lG mx w b r
def pI{enc:α->D}:∀r b,(∀x∈r,e (enc x)=.ok (w x))->Ub mx e (enc b) (w b) (r.map enc)=.ok (enc<|lG mx w b r)
|[],b,_=>rfl
|x::r,b,h=>by
 let hx:=h x A10;let hr:=λ y hy=>h y<|A08 _ hy;rw[A06];unfold Ub lG;rw[hx];erw[Res.cW];split
 .exact pI r x hr
 .exact pI r b hr
def mS{w:α->Int}:∀r b,lG mx w b r=b\/lG mx w b r∈r
|[],b=>.inl rfl
|x::r,b=>by
 unfold lG;split
 .rcases mS r x with h|h
  .rw[h];show .inr A10
  .exact .inr<|A08 _ h
 .rcases mS r b with h|h
  .exact .inl h
  .exact .inr<|A08 _ h
def wS(z:U GO):Int:=(z.map wO).sum
def W5{z:U GO}(hg:∀x∈xs,ju x.1)(h:z.map (·.1)=xs.map (·.1)):∀x∈z,ju x.1:=λ x hx=>by
 let:x.1∈xs.map (·.1):=by rw[<-h];show A03.mpr ⟨x,hx,rfl⟩
 let(y,hy,e):=A03.mp this;rw[<-e];show hg y hy
def LL{z:U GO}(h:z.map (·.1)=xs.map (·.1)):z.n=xs.n:=by let:=A13 List.length h;rwa [A04,A04]at this
def tL(h6:xs.n<=6)(hg:∀x∈xs,ju x.1)(h:z.map (·.1)=xs.map (·.1)):cn [aw xs,aj z]=.ok (.int<|wS z):=by let:=AA (by rw[LL h];show h6)<|W5 hg h;rw[show D.tup _=aw z from rfl,Me h]at this;show this
def ND(h6:xs.n<=6)(hg:∀x∈xs,ju x.1)(hL:∀z∈b::r,z.map (·.1)=xs.map (·.1)):fV [aw xs,.lst ((b::r).map aj)]=.ok (aj<|lG Da wS b r):=by
 rw[nW];show ay ?_;let ke:∀z∈b::r,wK (ai cn<|aV 1<|aV 0 ah) [v (aw xs)] (aj z)=.ok (wS z):=λ z hz=>by show LV ?_;simp[tL h6 hg<|hL z hz]
 let pk:=pI (mx:=Da) r b λ z hz=>ke z<|A08 _ hz;let kb:=ke b A10;let e:zV Da (.ok .non) (eW 1) [0] (ai cn<|aV 1<|aV 0 ah) [v (aw xs),v (.lst<|(b::r).map aj)]=.ok (aj<|lG Da wS b r):=by change pickK Da (.ok .non) (wK _ [v _]) (aj b::r.map aj)=_;unfold pickK;dsimp only;rw[kb];show pk
 erw[A06]at e;simp[gQ,e]
def Jo:fV [aw xs,.lst []]=.ok .non:=by rw[nW];show ay ?_;let e:zV Da _ (eW 1) [0] (ai cn<|aV 1<|aV 0 ah) [v (aw xs),v (.lst [])]=.ok .non:=rfl;simp[gQ,e]
end
open KH
open KH
open KH
open KH
def ltO:ε Pl->ε Pl->Prop
|some p,AC q=>ltP p q
|some _,Ch=>True
|_,_=>False
def ltS(a b:U GO):Prop:=∃(i:Nat)(g:G)(o o':ε Pl),(∀j,j<i->a[j]?=b[j]?)/\a[i]?=AC (g,o)/\b[i]?=AC (g,o')/\ltO o o'
def Full(z:U GO):Prop:=∀(i:Nat)(g:G),z[i]?≠AC (g,Ch)
def Rq(h:GN rows AT xs xs.length z):Full z:=λ i g e=>by let hl:=(A09.mp e).1;rw[LL h.gs]at hl;show h.full rfl i g hl e
open KH
structure E8(rows:Rows)(C:Nat)(xs m:List GO):Prop where
 ext:Ext xs m
 good:Good rows m
 full:Full m
 most:∀z,Ext xs z->Good rows z->Full z->wS z<=wS m/\(wS z=wS m->z=m\/ltS m z)
def Mm(H:Hall rows C)(hg:∀x∈xs,GOk x.1)(e:Ext xs z)(gz:Good rows z)(fz:Full z):z∈dN rows C AT xs xs.n:=uj H hg e gz<|.inr fz
end KB
set_option maxRecDepth 4000
namespace KC
open Z KG KH KB
def jq:SF:=(aH<|vm (eU (iL .int)<|eW 0)<|RD<|eU (iL .bool)<|eW 0)
def gj:U D->Res D:=fn 1 1 jq
def cA:SF:=(aH<|vm (ai gj<|aV 0 ah)<|g_ oLe oLe (eW 1) (eW 0)<|eW 2)
def a8:U D->Res D:=fn 3 3 cA
def gP:SF:=(aB (aO 3<|ai KB.dR<|aV 0<|aV 1<|ae (ai KB.fA<|aV 0<|aV 1<|aV 2 ah)<|ae (eC<|.bl AT) ah)<|aH<|eIf (tE<|eB zk (eU ck<|eW 3)<|eI 0) (eX 3 0)<|eC .non)
def fY:U D->Res D:=fn 3 4 gP
def sI(x0 x1 x2:D):fY [x0,x1,x2]=bc (gP [AC (.val x0),AC (.val x1),AC (.val x2),Ch]):=bX _ _ _ _ rfl
def lx:SF:=(aH<|eL<|bB (cY<|eW 1) 1 [0] (aJ 0) bM<|ai KG.fL<|aV 1<|aV 0 ah)
def ig:U D->Res D:=fn 2 2 lx
def w9(x0 x1:D):ig [x0,x1]=bc (lx [AC (.val x0),AC (.val x1)]):=bX _ _ _ _ rfl
def oU:SF:=(aH<|ai KH.eE<|ae (eY 1 3)<|ae (eY 0 3)<|ae (ai KG.b7<|aV 0<|aV 2 ah) ah)
def cK:U D->Res D:=fn 4 4 oU
def B9(x0 x1 x2 x3:D):cK [x0,x1,x2,x3]=bc (oU [AC (.val x0),AC (.val x1),AC (.val x2),AC (.val x3)]):=bX _ _ _ _ rfl
def fD(self:U D->Res D):SF:=(aB (aO 3<|eL<|bB (fT<|eU ck<|eW 0) 1 [2] (aJ 0) (tE<|eU lN<|eY 1 0)<|eV 0)<|aB (aO 4<|zV AT .bad (eW 3) [0,1,2]<|eU ck<|ai cK<|aV 1<|aV 2<|aV 3<|aV 0 ah)<|aB (aO 5<|ai cK<|aV 0<|aV 1<|aV 2<|aV 4 ah)<|aB (dB (tE<|eB oEq (eW 5)<|cw ah) (aH<|cw<|ae (eC<|.str [115,116,117,99,107])<|aV 4 ah) aE)<|aB (aO 6<|eL<|bB (cY<|eW 5) 1 [0,1,2,4] (aJ 0) bM<|ai self<|aV 1<|aV 2<|ae (ai KH.cf<|aV 3<|aV 4<|aV 0 ah) ah)<|aH<|cw<|ae (eC<|.str [101,97,99,104])<|aV 4<|ae (eU gW<|eW 6) ah)
def bj:Nat->U D->Res D
|0=>λ _=>.bad
|k+1=>fn 3 7<|fD<|bj k
def lI(k:Nat)(x0 x1 x2:D):bj (k+1) [x0,x1,x2]=bc (fD (bj k) [AC (.val x0),AC (.val x1),AC (.val x2),Ch,Ch,Ch,Ch]):=bX _ _ _ _ rfl
def oW:SF:=(aB (dB (tE<|eU jF<|ai fY<|aV 0<|aV 1<|aV 2 ah) (aH<|eC .non) aE)<|aH<|ai (bj 9)<|aV 1<|ae (ai ig<|aV 0<|aV 1 ah)<|ae (ai KB.bo<|aV 0<|aV 1<|aV 2 ah) ah)
def iz:U D->Res D:=fn 3 3 oW
def B!(x0 x1 x2:D):iz [x0,x1,x2]=bc (oW [AC (.val x0),AC (.val x1),AC (.val x2)]):=bX _ _ _ _ rfl
end KC
set_option maxRecDepth 8000
namespace KC
open Z KG KB
open KH
def U0:U Nat:=[115,116,117,99,107]
def aaZ:U Nat:=[101,97,99,104]
def c9(rows:Rows)(C:Nat)(xs:U GO):D:=.lst<|xs.map λ x=>.tup<|(places rows C x.1).map bp
def A5{rows:Rows}{C:Nat}(H:Hall rows C){xs:U GO}(h6:xs.n<=6){k:Nat}{g:G}(hk:xs[k]?=AC (g,Ch)):cK [aw xs,c9 rows C xs,aj xs,.int (k:Nat)]=.ok (.tup<|(eR rows C xs g k).map bp):=by
 rw[B9];show ay ?_;let hl:k<xs.n:=(A09.mp hk).1;let i1:aW (c9 rows C xs) (.int (k:Nat))=.ok (.tup<|(places rows C g).map bp):=(ft (xs:=xs.map λ y:GO=>D.tup ((places rows C y.1).map bp)) (i:=(k:Nat)) (j:=k) rfl (by rw[A07,hk];rfl)).2;let i2:aW (aw xs) (.int (k:Nat))=.ok (aF g):=(ft (xs:=xs.map λ y:GO=>aF y.1) (i:=(k:Nat)) (j:=k) rfl (by rw[A07,hk];rfl)).1;let ht:=pq (xs:=xs) ∅;rw[show D.tup (xs.map λ x=>aF x.1)=aw xs from rfl,show D.tup (xs.map λ x=>bY x.2)=aj xs from rfl]at ht;let YO:=mQ xs;let ho:=nK (places rows C g) g (ss:=nv xs) (places_len H g) ∅;let Wz:xs.set k (g,Ch)=xs:=by let:xs[k]=(g,Ch):=(A09.mp hk).2;rw[<-this];show C60 hl
 let he:(places rows C g).filter (λ p=>(nv xs).all λ x=>dW g p x.1 x.2)=eR rows C xs g k:=by unfold eR;show AB1 λ p _=>?_;let:=A9 (g:=g) hk p;simp only at this;rw[Wz]at this;show this
 rw[he]at ho;simp[oU,i1,i2,ht,ho]
def nN(xs:U GO):Nat:=xs.countP λ x=>x.2.isNone
def Lk:∀{xs:U GO}{k:Nat}{g} p,xs[k]?=AC (g,Ch)->nN (xs.set k (g,AC p))+1=nN xs
|[],_,_,_,h=>by simp at h
|(h,o)::xs,0,g,p,e=>by simp at e;let(rfl,rfl):=e;simp[nN]
|(h,o)::xs,k+1,g,p,e=>by let:=Lk p (by calc e);erw[nN,List.set_cons_succ,B38]at this ⊢;lia
def A_(h:xs[k]?=AC x)(o:ε Pl):c9 rows C (xs.set k (x.1,o))=c9 rows C xs:=by
 let e:=(A09.mp h).2;unfold c9;rw[C35]
 congr 1
 show C30 ∅ λ i h1 h2=>?_;rw[AC4];split
 .rename_i q;subst q;simp[e]
 .rfl
def xl(H:Hall rows C)(h6:xs.n<=6)(hg:∀x∈xs,GOk x.1):ig [aS rows,aw xs]=.ok (c9 rows C xs):=by
 rw[w9];show ay ?_;let hl:xs.n<=16777216:=by lia
 unfold aw;simp[lx,a!,eN,dA,hl];show bF (λ x:GO=>aF x.1) (λ _=>Da) (λ x=>.tup<|(places rows C x.1).map bp) ?_ ?_
 .intro x hx;simp[places_of_ok H<|hg x hx]
 .rw[kW];rfl
def Mo(H:Hall rows C)(h6:xs.n<=6)(hg:∀x∈xs,GOk x.1)(hk:Good rows xs)(hw:cM rows C xs<=2000)(ef:bo [aS rows,aw xs,fd]=.ok (aj xs)):
 fY [aS rows,aw xs,fd]=.ok (match dN rows C AT xs xs.n with|[]=>.non|z::_=>aj z):=by
 let fr:=Gg (sm:=AT) H h6 hg hk hw;let sm:=A7 H h6 hg ef hw;rw[sI];show ay ?_;cases e:dN rows C AT xs _ with
 |nil=>rw[e]at fr;erw[A41]at fr;simp[gP,sm,fr]
 |cons z r=>
  rw[e]at fr;erw[A06]at fr;let i0:=(ft (xs:=aj z::r.map aj) (i:=0) rfl rfl).2;let hl:(0)<(r.n)+1:=by lia
  simp[gP,sm,fr,i0]
def vR(rows:Rows)(xs:U GO):Prop:=∀z,Ext xs z->Good rows z->∃(i:Nat)(g:G),z[i]?=AC (g,Ch)
def HX(H:Hall rows C)(hg:∀x∈xs,GOk x.1)(h:dN rows C AT xs xs.n=[]):vR rows xs:=by intro z e gz;show Classical.byContradiction λ hn=>?_;let:=uj (sm:=AT) H hg e gz<|.inr λ i g q=>hn ⟨i,g,q⟩;rw[h]at this;ext this
def Rx{cs:U GO}{k:Nat}(hk:cs[k]?=AC (g,Ch))(p:Pl):Ext cs (cs.set k (g,AC p)):=by
 let hl:=(A09.mp hk).1;show(?_,λ i g' q hi=>?_,)
 .refine B79 λ i=>?_;rw[A07,A07,A56];split
  .rename_i ei;subst ei;rw[hk];rfl
  .rfl
 .rw[A56];split
  .rename_i ej;subst ej;rw[hk]at hi;ext hi
  .exact hi
def vR.put(h:vR rows xs){k:Nat}(hk:xs[k]?=AC (g,Ch))(p:Pl):vR rows (xs.set k (g,AC p)):=λ z e gz=>
 have e1:=Rx hk p
 h z ⟨e1.gs.trans e.gs,λ i g p q=>e.sub i g p<|e1.sub i g p q⟩ gz
def lY(xs:U GO)(k:Nat):Bool:=match xs[k]? with
|some (_,Ch)=>Da
|_=>AT
def AH(h:lY xs k=Da):∃g,xs[k]?=AC (g,Ch):=by
 unfold lY at h;split at h
 .rename_i g e;show(g,e,)
 .ext h
def opens(rows:Rows)(C:Nat)(xs:U GO)(k:Nat):U Pl:=match xs[k]? with
|some (g,_)=>eR rows C xs g k
|none=>[]
def aaX(ps:U Pl):oEq (.tup<|ps.map bp) (.tup [])=.ok (.bl ps.isEmpty):=by ext ps<;>rfl
def KZ(H:Hall rows C):∀(n:Nat)(xs:U GO),xs.n<=6->(∀x∈xs,GOk x.1)->nN xs<n->Good rows xs->vR rows xs ->
 ∃d,bj n [aw xs,c9 rows C xs,aj xs]=.ok d:=by
 intro n
 induction n with
 |zero=>intro xs _ _ h;lia
 |succ n ih=>
  intro xs h6 hg hn hgd JA;let Rj:ck (aw xs)=.ok (.int xs.n):=by simp[aw]
  let hl:xs.n<=16777216:=by lia
  let uU:(FB xs.n).filter (lY xs)≠[]:=λ z=>by let(i,g,e):=JA xs ⟨rfl,λ _ _ _ e=>e⟩ hgd;let hi:i<xs.n:=(A09.mp e).1;let:i∈(FB xs.n).filter (lY xs):=A63.mpr ⟨A33.mpr hi,by unfold lY;rw[e]⟩;rw[z]at this;ext this
  let hall:∀k∈(FB xs.n).filter (lY xs),lY xs k=Da:=λ k hk=>(A63.mp hk).2;generalize hks:(FB xs.n).filter (lY xs)=ks at uU hall;cases ks with
  |nil=>show absurd rfl uU
  |cons k0 kr=>
   let key:∀k∈k0::kr,wK (eU ck<|ai cK<|aV 1<|aV 2<|aV 3<|aV 0 ah) [v (aw xs),v (c9 rows C xs),v (aj xs)] (.int (k:Nat))=.ok ((opens rows C xs k).length:Int):=λ k hk=>by let(g,e):=AH (hall k hk);let so:=A5 H h6 e;show LV ?_;simp[so,opens,e]
   let pk:=pI (mx:=AT) (e:=wK (eU ck<|ai cK<|aV 1<|aV 2<|aV 3<|aV 0 ah) [v (aw xs),v (c9 rows C xs),v (aj xs)]) (enc:=λ k=>D.int (k:Nat)) (w:=λ k=>((opens rows C xs k).length:Int)) kr k0 λ k hk=>key k<|A08 _ hk;let mem:lG AT (λ k=>((opens rows C xs k).length:Int)) k0 kr∈k0::kr:=by
    rcases mS (mx:=AT) (w:=λ k=>((opens rows C xs k).length:Int)) kr k0 with h|h
    .rw[h];show A10
    .exact A08 _ h
   generalize lG AT (λ k=>((opens rows C xs k).length:Int)) k0 kr=k at pk mem;let(g,hk):=AH (hall k mem);let ex:∀x4 x5 x6,zV AT .bad (eW 3) [0,1,2] (eU ck<|ai cK<|aV 1<|aV 2<|aV 3<|aV 0 ah) [v (aw xs),v (c9 rows C xs),v (aj xs),v (.lst<|(k0::kr).map λ k=>D.int (k:Nat)),x4,x5,x6]=.ok (.int (k:Nat)):=λ x4 x5 x6=>by change pickK AT .bad (wK (eU ck<|ai cK<|aV 1<|aV 2<|aV 3<|aV 0 ah) [v (aw xs),v (c9 rows C xs),v (aj xs)]) (D.int (k0:Nat)::kr.map λ k=>D.int (k:Nat))=_;unfold pickK;dsimp only;rw[key k0 A10];show pk
   let so:=A5 H h6 hk;let hol:=HF H xs g k;let hop:∀p∈eR rows C xs g k,b_ rows g p=Da/\openAt xs g k p=Da:=λ p hp=>by let(h1,h2):=A63.mp hp;show(KH.nP h1,h2,)
   let kg:=hg _<|A25 hk;let step:∀p∈eR rows C xs g k,∃d,bj n [aw xs,c9 rows C xs,aj (xs.set k (g,AC p))]=.ok d:=λ p hp=>by
    let n1:=Lk p hk;let(f1,f2):=hop p hp;let(d,e1):=ih (xs.set k (g,AC p)) (by rw[O!];show h6) (λ x hx=>by
     rcases C61 hx with z|z
     .exact hg x z
     .rw[z];show kg) ∅ (hgd.put hk f1 f2) (JA.put hk p)
    rw[show aw (xs.set k (g,AC p))=aw xs from yg hk<|some p,show c9 rows C (xs.set k (g,AC p))=c9 rows C xs from A_ hk<|some p]at e1;show(d,e1,)
   obtain⟨f,hf⟩:∃f:Pl->D,∀p∈eR rows C xs g k,bj n [aw xs,c9 rows C xs,aj (xs.set k (g,AC p))]=.ok (f p):=by
    classical
    show⟨λ p=>if h:p∈eR rows C xs g k then(step p h).choose else .non,λ p hp=>by erw[hp,A95];show(step p hp).choose_spec⟩
   let start:∀Q,(∀x5 x6,Ok ((aB (aO 5<|ai cK<|aV 0<|aV 1<|aV 2<|aV 4 ah)<|aB (dB (tE<|eB oEq (eW 5)<|cw ah) (aH<|cw<|ae (eC<|.str [115,116,117,99,107])<|aV 4 ah) aE)<|aB (aO 6<|eL<|bB (cY<|eW 5) 1 [0,1,2,4] (aJ 0) bM<|ai (bj n)<|aV 1<|aV 2<|ae (ai KH.cf<|aV 3<|aV 4<|aV 0 ah) ah)<|aH<|cw<|ae (eC<|.str [101,97,99,104])<|aV 4<|ae (eU gW<|eW 6) ah) [v (aw xs),v (c9 rows C xs),v (aj xs),v (.lst<|(k0::kr).map λ k=>D.int (k:Nat)),vi (k:Nat),x5,x6]) Q)->Ok (fD (bj n) [v (aw xs),v (c9 rows C xs),v (aj xs),Ch,Ch,Ch,Ch]) Q:=λ Q hQ=>by
    let el:«zints» 0 xs.n=(FB xs.n).map λ k=>D.int (k:Nat):=by rw[ints_map];show A84 λ j _=>by rw[Int.zero_add]
    simp[fD,a!,eN,dA,line,Rj,hl];rw[el];show bF (λ k:Nat=>D.int (k:Nat)) (lY xs) (λ k=>D.int (k:Nat)) (xs:=FB xs.n) (λ j hj=>?_) ?_
    .let CI:j<xs.n:=A33.mp hj;obtain⟨⟨g',o⟩,e⟩:∃x,xs[j]?=AC x:=(_,A05 CI,)
     let ix:aW (aj xs) (.int (j:Nat))=.ok (bY o):=(ft (xs:=xs.map λ y:GO=>bY y.2) (i:=j) (j:=j) rfl (by rw[A07,e];rfl)).1;cases o with
     |none=>simp[ix,bY,lY,e]
     |some p=>let en:lN (bp p)=.ok (.bl AT):=rfl;simp[ix,bY,en,lY,e]
    .rw[hks];let:=hQ Ch Ch;let e4:=ex Ch Ch Ch;erw[A06]at this e4 ⊢;simp[e4];simpa[a!,eN,dA,line]using this
   by_cases h0:eR rows C xs g k=[]
   .refine⟨.tup [.str U0,.int (k:Nat)],?_⟩
    .rw[lI];show ay<|start _ λ x5 x6=>?_;rw[h0]at so;let e0:=aaX [];erw[A41,List.isEmpty_nil]at so e0;simp[so,e0,line];rfl
   .let ae7:(eR rows C xs g k).isEmpty=AT:=by
     cases q:eR rows C xs g k with
     |nil=>show absurd q h0
     |cons a r=>rfl
    show(.tup [.str aaZ,.int (k:Nat),.tup ((eR rows C xs g k).map f)],?_,)
    .rw[lI];show ay<|start _ λ x5 x6=>?_;let e0:=aaX<|eR rows C xs g k;rw[ae7]at e0;let WG:(eR rows C xs g k).length<=16777216:=by lia
     generalize eR rows C xs g k=op at so hol hf e0 WG;simp[so,e0,line,a!,eN,dA,WG];show bF bp (λ _=>Da) f (xs:=op) (λ p hp=>?_) ?_
     .simp[(tO h6 hk p).1,hf p hp]
     .rw[kW];simp[line];rfl
def Bb(H:Hall rows C)(h6:xs.n<=6)(hg:∀x∈xs,GOk x.1)(hk:Good rows xs)(hw:cM rows C xs<=2000)(ef:bo [aS rows,aw xs,fd]=.ok (aj xs))(e:dN rows C AT xs xs.n=[]):∃d,iz [aS rows,aw xs,fd]=.ok d:=by
 let fo:=Mo H h6 hg hk hw ef;let ap:=xl H h6 hg;rw[e]at fo;dsimp only at fo;let(d,e1):=KZ H 9 xs h6 hg (by let:nN xs<=xs.n:=List.countP_le_length;lia) hk (HX H hg e)
 show(d,?_,);rw[B!];show ay ?_;let en:jF D.non=.ok _:=rfl;simp[oW,fo,ap,ef,e1]
end KC
namespace KB
open Z KG
open KH
variable{k:Nat}
structure Y_(rows:Rows)(xs m:List GO):Prop where
 ext:Ext xs m
 good:Good rows m
 full:Full m
def GD(H:Hall rows C)(h6:xs.n<=6)(hg:∀x∈xs,ju x.1)(hk:Good rows xs)(hw:cM rows C xs<=2000)(ef:bo [aS rows,aw xs,fd]=.ok (aj xs)):
 (dN rows C AT xs xs.n=[]/\bu [aS rows,aw xs,fd]=.ok .non)\/∃m,bu [aS rows,aw xs,fd]=.ok (aj m)/\Y_ rows xs m:=by
 let hgo:=λ x hx=>(hg x hx).toGOk;let hi:=yX (C:=C) (sm:=AT) hk<|P3 _;let fr:=Gg (sm:=AT) H h6 hgo hk hw;let sm:=A7 H h6 hgo ef hw;cases e:dN rows C AT xs _ with
 |nil=>rw[e]at fr;erw[A41]at fr;show .inl ⟨rfl,?_⟩;rw[my];show ay ?_;simp[ik,sm,fr,Jo]
 |cons b r=>
  rw[e]at hi fr;let am:=ND h6 hg λ z hz=>(hi z hz).gs;let hm:lG Da wS b r∈b::r:=by
   rcases mS r b with h|h
   .rw[h];show A10
   .exact A08 _ h
  let hi:=hi _ hm;show .inr ⟨_,?_,hi.ext,hi.good,Rq hi⟩;rw[my];show ay ?_;erw[A06]at am fr;simp[ik,sm,fr,am]
def Ext.good(e:Ext xs m)(h:Good rows m):Good rows xs:=h.sub e.sub
def Ext.put(e:Ext xs m)(hk:m[k]?=AC (g,o)):Ext (xs.set k (g,o)) m:=by
 let hl:=(A09.mp hk).1;let hlx:k<xs.n:=by rw[e.len];show hl
 show(?_,λ i g' p h=>?_,)
 .rw[<-e.gs,C35];let h1:(xs.map (·.1))[k]?=AC g:=by rw[e.gs,A07,hk];rfl
  show B79 λ i=>?_;rw[A56];split
  .rename_i q;subst q;rw[M2 (by rw[A04];show hlx),h1]
  .rfl
 .rw[A56]at h;split at h
  .rename_i q;subst q;first|(rw[M2]at h;rw[hk,h])|rw[hk,h]
  .exact e.sub i g' p h
def Y_.put(h:Y_ rows xs m)(hk:m[k]?=AC (g,o)):Y_ rows (xs.set k (g,o)) m:=(h.ext.put hk,h.good,h.full,)
def qp{α:Type}(l:U α)(k j:Nat):(l.eraseIdx k)[j]?=l[if j<k then j else j+1]?:=by rw[List.getElem?_eraseIdx];split<;>rfl
def oC{α β:Type}(f:α->β):∀(l:U α) k,(l.eraseIdx k).map f=(l.map f).eraseIdx k
|[],_=>rfl
|_::_,0=>rfl
|a::l,k+1=>A13 _<|oC f l k
def Ext.erase(e:Ext xs m)(k:Nat):Ext (xs.eraseIdx k) (m.eraseIdx k):=by show⟨by rw[oC,oC,e.gs],λ i g p h=>?_⟩;rw[qp]at h ⊢;show e.sub _ g p h
def uY(h:Good rows m)(k:Nat):Good rows (m.eraseIdx k):=by intro i g p e;rw[qp]at e;let(h1,h2):=h _ g p e;show(h1,λ j g' q ej ne=>?_,);rw[qp]at ej;show h2 _ g' q ej ?_;split<;>split<;>lia
def Full.erase(h:Full m)(k:Nat):Full (m.eraseIdx k):=λ i g e=>by rw[qp]at e;show h _ g e
def rH:∀l k,(∀n∈l,0<n)->cJ (l.eraseIdx k)<=cJ l
|[],_,_=>P3 _
|n::l,0,h=>by rw[List.eraseIdx_cons_zero];show Nat.le_mul_of_pos_left _<|h n A10
|n::l,k+1,h=>by rw[List.eraseIdx_cons_succ];show Nat.mul_le_mul_left _<|rH l k λ q hq=>h q<|A08 _ hq
def CS(xs:U GO)(k:Nat):cM rows C (xs.eraseIdx k)<=cM rows C xs:=by
 unfold cM;rw[oC];show rH _ _ λ n hn=>by let(x,_,rfl):=A03.mp hn;show tT rows C x
def AE:∀{xs}{k}{x} p,xs[k]?=AC x->cM rows C (xs.set k (x.1,AC p))<=cM rows C xs
|[],_,_,_,h=>by ext h
|y::r,0,x,p,h=>by change cJ _<=cJ (gw rows C y::r.map _);let:gw rows C (x.1,AC p)=1:=rfl;erw[cJ];show B08 _<|tT rows C y
|y::r,k+1,x,p,h=>Nat.mul_le_mul_left _<|AE p h
def Dt(H:Hall rows C)(hg:∀x∈xs,GOk x.1)(h:Y_ rows xs m)(k:Nat):dN rows C AT (xs.eraseIdx k) (xs.eraseIdx k).length≠[]:=by intro e;let:=Mm H (λ x hx=>hg x<|B81 hx) (h.ext.erase k) (uY h.good k)<|Full.erase h.full k;rw[e]at this;ext this
structure lD(rows:Rows)(C:Nat)(xs m:List GO):Prop where
 six:xs.n<=6
 T?:∀x∈xs,ju x.1
 names:(xs.map (·.1.name)).Nodup
 few:cM rows C xs<=250
 best:Y_ rows xs m
def lD.good(s:lD rows C xs m):Good rows xs:=s.best.ext.good s.best.good
def lD.fast(s:lD rows C xs m)(hk:m[k]?=AC (g,AC p)):lD rows C (xs.set k (g,AC p)) m:=by
 obtain⟨x,hx⟩:∃x,xs[k]?=AC x:=by
  let:k<xs.n:=by rw[s.best.ext.len];show(A09.mp hk).1
  show(_,A05 this,)
 let ex:x.1=g:=by let:=A13 (λ l=>l[k]?) s.best.ext.gs;erw[A07,hx,hk,A69,B23]at this;show this
 subst ex;let em:(xs.set k (x.1,AC p)).map (·.1)=xs.map (·.1):=by rw[(s.best.ext.put hk).gs,s.best.ext.gs]
 show⟨by rw[AD8];show s.six,λ y hy=>?_,?_,A14 (AE p hx) s.few,s.best.put hk⟩
 .let:y.1∈(xs.set k (x.1,AC p)).map _:=A03.mpr ⟨y,hy,rfl⟩;rw[em]at this;let(z,hz,e):=A03.mp this;rw[<-e];show s.T? z hz
 .let e2:(xs.set k (x.1,AC p)).map (·.1.name)=((xs.set k (x.1,AC p)).map (·.1)).map (·.name):=by rw[A17];rfl
  rw[e2,em,A17];show s.j
def lD.away(H:Hall rows C)(s:lD rows C xs m)(k:Nat):∃m',lD rows C (xs.eraseIdx k) m'/\bu [aS rows,aw (xs.eraseIdx k),aj (xs.eraseIdx k)]=.ok (aj m'):=by
 let hgo:=λ x hx=>(s.T? x hx).toGOk;let hg':∀x∈xs.eraseIdx k,ju x.1:=λ x hx=>s.T? x<|B81 hx;let h6:(xs.eraseIdx k).length<=6:=A14 (by rw[List.length_eraseIdx];split<;>lia) s.six;let gd:=uY s.good k;let fw:=A14 (CS xs k) s.few;rcases GD H h6 hg' gd (A14 fw ∅) (ye H h6 (λ x hx=>(hg' x hx).toGOk) gd)with⟨e,_⟩|⟨m',e,b⟩
 .exact(Dt H hgo s.best k e).elim
 .refine⟨m',⟨h6,hg',?_,fw,b⟩,e⟩;rw[oC];show s.names.sublist<|List.eraseIdx_sublist ..
end KB
set_option maxRecDepth 4000
namespace KM
open Z KG KH
def gu:SF:=(aB (aO 2<|eB aC (eI 1)<|eB oMod (eW 0)<|eI 2147483646)<|aB (l_ 3<|a9 ah)<|aB (fm (fT<|eV 1) (aJ 4)<|aB (aO 2<|eB oMod (eB fP (eW 2)<|eI 16807)<|eI 2147483647)<|cV 3<|eB oMod (eB fP (eB oMod (eB fP (eB aC (eW 2)<|eI 7)<|eI 69621)<|eI 2147483629)<|eI 39373)<|eI 2147483587)<|uu 3<|aH<|eV 3)
def dm:U D->Res D:=fn 2 5 gu
def zS(x0 x1:D):dm [x0,x1]=bc (gu [AC (.val x0),AC (.val x1),Ch,Ch,Ch]):=bX _ _ _ _ rfl
def fX:SF:=(aB (aO 1<|eC<|.str aK)<|aH<|eB aC (eB aW (eW 1)<|eB oMod (eW 0)<|eI 26)<|eB aW (eW 1)<|eB oMod (eB aC (eB aC (eW 0)<|eI 1)<|eB oMod (eB oDiv (eW 0)<|eI 26)<|eI 25)<|eI 26)
def cQ:U D->Res D:=fn 1 2 fX
def vh(x0:D):cQ [x0]=bc (fX [AC (.val x0),Ch]):=bX _ _ _ _ rfl
end KM
set_option maxRecDepth 8000
namespace KM
open Z KG KH
def uw{nums:U Int}(hs:sg.n<=100)(hsg:∀c∈sg,c∈signs)(hn:∀x∈nums,0<=x/\x<sg.n)(hl:nums.n=R*C)(hR:R<=6)(hC:C<=12){b:SF}{Q:Fl->Prop}
 (hb:b=cV 7 (eB jd (eC<|.str [])<|eL<|bB (cY<|eL<|LQ (eW 6) (qQ<|eB fP (eW 8)<|eW 3)<|qQ<|eB fP (eB aC (eW 8)<|eI 1)<|eW 3) 1 [5] (aJ 0) bM<|eY 1 0))
 (x0 x1 x2 x4:ε L) (hQ:∀rows x,jW C R rows->Q (.nx [x0,x1,x2,vi C,x4,vs sg,v (.lst<|nums.map .int),ow (rows.map .str),x])) :
 Ok (dQ (aJ 8) b (zints 0 R) [x0,x1,x2,vi C,x4,vs sg,v (.lst<|nums.map .int),ow [],Ch]) Q:=by
 subst hb;show fR (λ i Y=>∃rows x,jW C i rows/\Y=[x0,x1,x2,vi C,x4,vs sg,v (.lst<|nums.map .int),ow (rows.map .str),x]) ⟨[],Ch,jW.nil C,rfl⟩ ?_ ?_
 .rintro i d Y hi ⟨rows,x,j!,rfl⟩;let(Ma,rfl):=ints_get hi;let q1:bS (i:Int) (C:Int):=dP ∅ ∅;let q2:bS ((i:Int)+1) (C:Int):=dP ∅ ∅;let hle:(i+1)*C<=nums.n:=by rw[hl];show B08 C Ma
  let j_:=EJ nums hle;let WZ:(cut nums (AC<|(i:Int)*C)<|some<|((i:Int)+1)*C).length<=16777216:=by lia
  let hrl:rows.n<16777216:=by rw[j!.1];lia
  simp[a!,LP,q1,q2,line,eN,dA,Sl,WZ];generalize L':cut nums (AC<|(i:Int)*C) (AC<|((i:Int)+1)*C)=ns at j_ WZ;let key:∀x:Int,∃q,(0<=x/\x<sg.n)->q∈signs/\aW (.str sg) (.int x)=.ok (.str [q]):=λ x=>by
   by_cases h:0<=x/\x<sg.n
   .let(c,hc,e):=uR h.1 h.2 (by erw[line];lia);show(c,λ _=>(hsg c hc,e,),)
   .exact⟨0,λ h'=>absurd h' h⟩
  let kq:∃q:Int->Nat,∀x:Int,(0<=x/\x<sg.n)->q x∈signs/\aW (.str sg) (.int x)=.ok (.str [q x]):=(λ x=>(key x).choose,λ x=>(key x).choose_spec,)
  let(q,hq):=kq;let Eh:∀x∈ns,0<=x/\x<sg.n:=λ x hx=>hn x<|Z.F2<|L'▸hx;show bF D.int (λ _=>Da) (λ x=>.str [q x]) ?_ ?_
  .intro x hx;simp[(hq x<|Eh x hx).2]
  .rw[kW];let e1:ns.map (λ x=>D.str [q x])=(ns.map λ x=>[q x]).map D.str:=by rw[A17];rfl
   let e2:(ns.map λ x=>[q x]).flatten=ns.map q:=by
    clear j_ WZ L' Eh e1
    induction ns with
    |nil=>rfl
    |cons a as ih=>simp[ih]
   rw[e1,xI (by rw[e2,A04];lia),e2];simp[hrl];show⟨rows++[ns.map q],j!.add ⟨by rw[A04];show j_,?_⟩,by simp⟩;intro c hc;let(x,hx,rfl):=A03.mp hc;show(hq x<|Eh x hx).1
 .rintro Y ⟨rows,x,j!,rfl⟩;rw[gG]at j!;show hQ rows x j!
def Lu(c:Int)(hn:n<=1000):∃ms:U Int,ms.n=n/\(∀m∈ms,0<=m/\m<2147483587)/\dm [.int c,.int n]=.ok (.lst<|ms.map .int):=by
 let q1:∀x,bS x 16807:=λ x=>gg ∅ ∅;let q2:∀x,bS x 69621:=λ x=>gg ∅ ∅;let q3:∀x,bS x 39373:=λ x=>gg ∅ ∅;let:Ok (bc<|gu [v (.int c),v (.int n),Ch,Ch,Ch]) λ d=>∃ms:U Int,ms.n=n/\(∀m∈ms,0<=m/\m<2147483587)/\d=.lst (ms.map .int):=by
  show qN ?_;simp[gu];show fR (λ i Y=>∃ms z x,ms.n=i/\(∀m∈ms,0<=m/\m<2147483587)/\Y=[vi c,vi n,vi z,ow (ms.map .int),x]) ⟨[],_,Ch,rfl,by simp,rfl⟩ ?_ ?_
  .rintro i d Y hi ⟨ms,z,x,hl,hp,rfl⟩;let(Ma,rfl):=ints_get hi;let j?:ms.n<16777216:=by lia
   simp[q1,q2,q3,line,j?];show⟨ms++[(z*16807 % 2147483647+7)*69621 % 2147483629*39373 % 2147483587],by simp[hl],?_,by rw[A27];rfl⟩;intro m hm;rcases A34.mp hm with h|h
   .exact hp m h
   .simp at h;rw[h];show(B78 _ ∅,B77 _ ∅,)
  .rintro Y ⟨ms,z,x,hl,hp,rfl⟩;rw[gG]at hl;simp;show(ms,hl,hp,rfl,)
 rw[<-zS]at this;let(d,e,ms,h1,h2,rfl):=this;show(ms,h1,h2,e,)
def BA(z:Int):∃a b,a∈aK/\b∈aK/\cQ [.int z]=.ok (.str [a,b]):=by let(a,ha,ea):=xW z;let(b,hb,eb):=xW (z+1+z / 26 % 25);show(a,b,ha,hb,?_,);rw[vh];show ay ?_;simp[fX,bw,ea,eb,line]
end KM
set_option maxRecDepth 4000
namespace KN
open Z KG KH KM
def gO:SF:=(aB (l_ 2<|a9 ah)<|aB (fm (fT<|eB aC (eB ny (eU ck<|eW 0)<|eX 1 2)<|eI 1) (aJ 3)<|fm (fT<|eB aC (eB ny (eU ck<|eX 0 0)<|eX 1 1)<|eI 1) (aJ 4)<|aB (aO 5<|eB jd (eC<|.str [])<|eL<|bB (cY<|MF (eW 0) (qQ<|eW 3)<|qQ<|eB aC (eW 3)<|eX 1 2) 1 [4,1] (aJ 0) bM<|MF (eW 0) (qQ<|eW 1)<|qQ<|eB aC (eW 1)<|eX 2 1)<|aB (aO 6<|eL<|bB (cY<|eW 5) 1 [1] (aJ 0) (ue (tE<|eB pO (eW 0)<|eC<|.str [46,61])<|tE<|eB o! (eW 0)<|eX 1 3)<|eV 0)<|dB (ue (tE<|eB oEq (eW 6)<|eL<|a9 ah)<|tE<|eB YF (eB xJ (eW 5)<|eC<|.str [61])<|eX 1 4) (cV 2<|cw<|aV 3<|aV 4 ah) aE)<|uu 2<|aH<|eV 2)
def dE:U D->Res D:=fn 2 7 gO
def wY(x0 x1:D):dE [x0,x1]=bc (gO [AC (.val x0),AC (.val x1),Ch,Ch,Ch,Ch,Ch]):=bX _ _ _ _ rfl
end KN
set_option maxRecDepth 8000
namespace KN
open Z KG KH KM
def Qf{α:Type}{xs:U α}(h:xs.n=9):∃a b c d e f g i j,xs=[a,b,c,d,e,f,g,i,j]:=by
 let u:∀{n:Nat}{l:U α},l.n=n+1->∃a t,l=a::t/\t.n=n:=λ {n l} e=>by cases l with|nil=>ext e|cons a t=>show(a,t,rfl,A29 e,)
 let(a,_,rfl,k1):=u h;let(b,_,rfl,k2):=u k1;let(c,_,rfl,k3):=u k2;let(d,_,rfl,k4):=u k3;let(e,_,rfl,k5):=u k4;let(f,_,rfl,k6):=u k5;let(g,_,rfl,k7):=u k6;let(i,_,rfl,k8):=u k7;let(j,_,rfl,k9):=u k8;obtain rfl:=B17 k9;show(a,b,c,d,e,f,g,i,j,rfl,)
def Li(H:Hall rows C)(k:GOk g){r c:Nat}(h:(rows.n)<(r:Int)+g.d\/(C)<(c:Int)+g.w):b_ rows g ((r),(c))=AT:=by
 let w1:=k.w1;let d1:=k.d1;rcases h with h1|h2
 .refine vd (s:=((r)+((g.d-1:Nat)),(c)+((0)))) (xQ (p:=((r),(c))) (i:=g.d-1) (j:=0) ∅ ∅) ?_;unfold okS;rw[ui H (by simp only;lia)];rfl
 .refine vd (s:=((r)+((0)),(c)+((g.w-1:Nat)))) (xQ (p:=((r),(c))) (i:=0) (j:=g.w-1) ∅ ∅) ?_;unfold okS;rw[ui H (by simp only;lia)];rfl
def Fz(f:Pl->Bool)(r:Nat){n:Nat}:∀m,n<=m->(∀c,n<=c->c<m->f ((r),(c))=AT)->(eQ r m).filter f=(eQ r n).filter f:=by
 intro m
 induction m with
 |zero=>
  intro h _;let:n=0:=by lia
  subst this;rfl
 |succ m ih=>
  intro h hf;by_cases e:n=m+1
  .rw[e]
  .let e3:eQ r (m+1)=eQ r m++[((r:Int),(m:Int))]:=by simp[eQ,A85]
   rw[e3,B47,ih ∅ λ c h1 h2=>hf c h1 ∅];simp[hf m ∅ ∅]
def SK(f:Pl->Bool)(C:Nat){n:Nat}:∀m,n<=m->(∀r c,n<=r->r<m->c<C->f ((r),(c))=AT)->(iB m C).filter f=(iB n C).filter f:=by
 intro m
 induction m with
 |zero=>
  intro h _;let:n=0:=by lia
  subst this;rfl
 |succ m ih=>
  intro h hf;by_cases e:n=m+1
  .rw[e]
  .rw[lC,B47,ih ∅ λ r c h1 h2=>hf r c h1 ∅];let:(eQ m C).filter f=[]:=by rw[Fz f m C (A48 _) λ c _ h2=>hf m c ∅ ∅ h2];rfl
   rw[this,A51]
def seen(rows:Rows)(r c w d:Nat):U Nat:=(((rows.drop r).take d).map λ row=>(row.drop c).take w).flatten
def Hq(h:rows[r+d]?=AC row):seen rows r c w (d+1)=seen rows r c w d++(row.drop c).take w:=by unfold seen;rw[take_snoc (by rw[C34];show h),A27,tz];simp
def oa(H:Hall rows C)(hc:c+w<=C):∀d,r+d<=rows.n->(seen rows r c w d).map AC=(iD w ((r),(c)) d).map (bZ rows)
|0,_=>by simp[seen,iD]
|d+1,hd=>by
 let(row,er,hl,_):=H.row (r:=r+d) ∅;let rs:=Hu H er hc;let e:((r+d:Nat))=(r:Int)+(d):=by lia
 rw[e]at rs;rw[Hq er,A27,oa H hc d ∅,rs,l?,A27]
def aaY(xs:U D):oEq (.lst xs) (.lst [])=.ok (.bl xs.isEmpty):=by ext xs<;>rfl
def IE(H:Hall rows C)(hr:r+g.d<=rows.n)(hc:c+g.w<=C):b_ rows g ((r),(c))=(((seen rows r c g.w g.d).filter λ x=>!b? g.kind (AC x)).isEmpty&&decide (g.wide<=(seen rows r c g.w g.d).count 61)):=by
 let hs:=oa H hc g.d hr;generalize seen rows r c g.w g.d=sg at hs ⊢;unfold b_;let agh:(seats g ((r),(c))).all (λ s=>b? g.kind<|bZ rows s)=sg.all λ c=>b? g.kind (AC c):=by
  let h1:(seats g ((r),(c))).all (λ s=>b? g.kind<|bZ rows s)=((seats g ((r),(c))).map<|bZ rows).all (b? g.kind):=by rw[B59];rfl
  rw[h1,show seats g ((r),(c))=iD g.w ((r),(c)) g.d from rfl,<-hs,B59];rfl
 let agf:(seats g ((r),(c))).countP (xn rows)=sg.count 61:=by
  let h1:(seats g ((r),(c))).countP (xn rows)=((seats g ((r),(c))).map<|bZ rows).countP (λ o=>o==AC 61):=by rw[AD4];rfl
  rw[h1,show seats g ((r),(c))=iD g.w ((r),(c)) g.d from rfl,<-hs,AD4,List.count];show List.countP_congr λ x _=>?_;simp
 rw[agh,agf]
 congr 1
 rw[A65,A35,List.isEmpty_iff,List.filter_eq_nil_iff];show⟨λ h x hx=>by simp[h x hx],λ h x hx=>by let:=h x hx;calc this⟩
def Ni{rows:Rows}(h:r+d<=rows.n):cut (rows.map D.str) (AC<|r) (AC<|(r)+d)=((rows.drop r).take d).map D.str:=by
 let n1:¬(r:Int)<0:=by lia
 let n2:¬(r:Int)+d<0:=by lia
 let e:((r:Int)+d).toNat=r+d:=by lia
 erw[cut,dO,n1,n2,A59,B00,e,A04];rw[A72 ∅,A72 ∅,C32,C31,C33]
def J5(k:U Nat)(c:Nat):(!([46,61]).contains c&&!([c]==k))=!b? k (AC c):=by
 let:=agA k c;rw[<-this];let e1:∀n,(c==n)=decide (c=n):=λ n=>by rw[A65];simp
 rw[e1,e1];simp[AE2]
theorem tN!{n d R:Nat}(h:((n:Int)-d+1).toNat=R)(hd:1<=d):R<=n/\∀r,(r<R->r+d<=n)/\(R<=r->(n:Int)<(r:Int)+d):=by subst h;show⟨by lia,λ r=>⟨by lia,by lia⟩⟩
def qV(H:Hall rows C)(k:GOk g):dE [aS rows,aF g]=.ok (.lst<|(places rows C g).map bp):=by
 rw[wY];show ay ?_;let zK:=H.c2;let hr2:=H.r2;let w1:=k.w1;let d1:=k.d1;let w2:=k.w2;let d2:=k.d2;let(Pe,Ri,e0):=H.Pe;let Rg:C<=16777216:=by lia
 let hrn:rows.n<=16777216:=by lia
 obtain⟨R',YT⟩:∃R',((rows.n:Int)-g.d+1).toNat=R':=(_,rfl,)
 obtain⟨C',Ge⟩:∃C',((C:Int)-g.w+1).toNat=C':=(_,rfl,)
 simp[gO,line,hrn,YT];show fR (λ i Y=>i<=R'/\∃x y z t,Y=[v (aS rows),v (aF g),ow (((iB i C).filter<|b_ rows g).map bp),x,y,z,t]) ⟨A48 _,Ch,Ch,Ch,Ch,rfl⟩ ?_ ?_
 .rintro i d Y hi ⟨_,x,y,z,t,rfl⟩;let(Ma,rfl):=ints_get hi;simp[e0,Ri,line,Rg,Ge];show fR (λ j Y=>j<=C'/\∃y z t,Y=[v (aS rows),v (aF g),ow (((iB i C++eQ i j).filter<|b_ rows g).map bp),vi (i:Nat),y,z,t]) ⟨A48 _,y,z,t,by simp[eQ]⟩ ?_ ?_
  .rintro j d Y hj ⟨_,y,z,t,rfl⟩;let(CI,rfl):=ints_get hj;let e3:eQ i (j+1)=eQ i j++[((i:Int),(j:Int))]:=by simp[eQ,A85]
   let h1:=A77 (b_ rows g)<|iB i C++eQ i j;rw[A23,nh,qM]at h1;let tr:=tN! YT d1;let tc:=tN! Ge w1;let h3:i*C<=100*100:=A55 (A14 (A78 Ma)<|A14 tr.1 hr2) zK;rw[e3,<-A75,B47<|iB i C++eQ i j];generalize (iB i C++eQ i j).filter (b_ rows g)=fs at h1 ⊢;let hri:=(tr.2 i).1 Ma;let hcj:=(tc.2 j).1 CI
   let hfs:=IE H (g:=g) hri hcj;let ec:=Ni hri;let esl:_i (aS rows) (AC (i:Int)) (AC<|(i:Int)+g.d)=.ok (.tup<|((rows.drop i).take g.d).map D.str):=by change Res.ok (D.tup<|cut (rows.map D.str) _ _)=_;rw[ec]
   let YO:(seen rows i j g.w g.d).length=g.d*g.w:=by let:=A13 List.length<|oa H hcj g.d hri;simpa[og]using this
   let hm:=A55 d2 w2;let hdl:((rows.drop i).take g.d).length<=16777216:=by rw[A32];show A14 (Nat.min_le_left _ _) (A14 d2 ∅)
   let afy:min g.d (rows.n-i)<=16777216:=A14 (Nat.min_le_left _ _) (A14 d2 ∅)
   simp[esl,a!,eN,dA,line,afy];rw[<-C33,<-C31];show bF D.str (λ _=>Da) (λ row=>.str<|(row.drop j).take g.w) (xs:=(rows.drop i).take g.d) (λ row j!=>?_) ?_
   .let hrl:=H.len row<|List.mem_of_mem_drop<|B99 j!;let er:=Sk row (c:=j) (w:=g.w) ∅;let aeU:row.n<=16777216:=by lia
    simp[line,er,aeU]
   .rw [kW];let e1:((rows.drop i).take g.d).map (λ row=>D.str<|(row.drop j).take g.w)=(((rows.drop i).take g.d).map λ row=>(row.drop j).take g.w).map D.str:=by rw[A17];rfl
    let ej:=xI (ts:=((rows.drop i).take g.d).map λ row=>(row.drop j).take g.w) (by change(seen rows i j g.w g.d).length<=_;lia)
    rw[e1,ej];change Ok _ _;rw[show(((rows.drop i).take g.d).map λ row=>(row.drop j).take g.w).flatten=seen rows i j g.w g.d from rfl];let Ra:(seen rows i j g.w g.d).length<=16777216:=by lia
    generalize seen rows i j g.w g.d=sg at hfs YO Ra ⊢;simp[a!,eN,dA,line,Ra];show bF (λ c=>.str [c]) (λ c=>!b? g.kind (AC c)) (λ c=>.str [c]) (xs:=sg) (λ x hx=>?_) ?_
    .let:=J5 g.kind x;let en:pO (.str [x]) (.str [46,61])=.ok (.bl<|!([46,61]:U Nat).contains x):=rfl;let em:o! (.str [x]) (.str g.kind)=.ok (.bl<|!([x]==g.kind)):=rfl;rw[<-this];clear this;generalize (([46,61]:U Nat).contains x)=bb at en ⊢;generalize ([x]==g.kind)=b2 at em ⊢;ext bb<;>ext b2<;>simp[en,em]
    .rw[aaY,hfs];let afx:(((sg.filter λ c=>!b? g.kind (AC c)).map λ c=>D.str [c]).isEmpty)=(sg.filter λ c=>!b? g.kind (AC c)).isEmpty:=by cases sg.filter λ c=>!b? g.kind (AC c)<;>rfl
     rw[afx];cases h1:(sg.filter λ c=>!b? g.kind (AC c)).isEmpty with
     |false=>simp;lia
     |true=>
      rw[h1,C00]at hfs;by_cases h2:g.wide<=sg.count 61
      .rw[A30 h2]at hfs;simp[h2,hfs];lia
      .simp[h2];lia
  .rintro Y ⟨_,y,z,t,rfl⟩;erw[gG];simp;show⟨by lia,?_⟩;rw[lC];let:(eQ i C).filter (b_ rows g)=(eQ i C').filter (b_ rows g):=Fz _ i C (tN! Ge w1).1 λ c h1 h2=>Li H k<|.inr (((tN! Ge w1).2 c).2 h1);rw[B47,this,A27]
 .rintro Y ⟨_,x,y,z,t,rfl⟩;erw[gG];simp[places];rw[SK (n:=R') (b_ rows g) C rows.length (tN! YT d1).1 λ r c h1 h2 h3=>Li H k<|.inl (((tN! YT d1).2 r).2 h1)]
end KN
set_option maxRecDepth 4000
namespace iY
open Z KG KH KB KC KA KS
def t_1:U Nat:=[111,110,101,32,111,102,32,116,104,105,115,32,110,97,109,101,32,105,115,32,97,116,32,104,97,110,100]
def t_2:U Nat:=[110,111,98,111,100,121,32,111,102,32,116,104,105,115,32,110,97,109,101,32,105,115,32,97,116,32,104,97,110,100]
def ro:SF:=(aH<|eB aC (MF (eW 0) NW<|qQ<|eW 1)<|MF (eW 0) (qQ<|eB aC (eW 1)<|eI 1) NW)
def d!:U D->Res D:=fn 2 2 ro
def Eo(x0 x1:D):d! [x0,x1]=bc (ro [AC (.val x0),AC (.val x1)]):=bX _ _ _ _ rfl
def lg:SF:=(aH<|eB aC (eB aC (eU dI<|eX 0 0)<|eC<|.str [32])<|eU dI<|eX 0 1)
def bA:U D->Res D:=fn 1 1 lg
def wU(x0:D):bA [x0]=bc (lg [AC (.val x0)]):=bX _ _ _ _ rfl
def mH:SM:=(bJ (a5 [0]<|dB (fN<|tE<|ai KA.g!<|aV 1 ah) jy aE)<|bJ (nz 0 [104,97,108,108]<|eV 1)<|bJ (nz 0 [103,117,101,115,116,115]<|cw ah)<|bJ (nz 0 [104,101,108,100]<|cw ah)<|nz 0 [112,108,97,99,101,115]<|cw ah)
def gL:U D->Res (D×U D):=zM [0] [Da,AT] 2 mH
def h_:SF:=(aB (dB (tE<|ai KS.cR<|aV 1 ah) (fm (F_<|eU (c5 [103,117,101,115,116,115])<|eM 0 0) (e_ [2,3])<|dB (tE<|eB oEq (eX 3 0)<|eW 1) (aH<|eV 2) aE) aE) jy)
def aN:U D->Res D:=B3 [Da,AT] 4 h_
def qf(k0:U (Sum Int<|U Nat))(v0:U D)(x1:D):aN [.dct k0 v0,x1]=bc (h_ [AC (.bor<|.dct k0 v0),AC (.val x1),Ch,Ch]):=vb _ _ _ _ rfl
def vN:SM:=(bJ (a5 i1<|dB (fN<|tE<|ai KS.cq<|aV 1 ah) jy aE)<|bJ (a5 i1<|dB (tE<|eB Ap (eX 1 0)<|eL<|bB (cY<|eU (c5 [103,117,101,115,116,115])<|eM 0 0) 1 [] (aJ 0) bM<|eX 0 0) jy aE)<|bJ (a5 i1<|aO 2<|eB aC (eU (c5 [103,117,101,115,116,115])<|eM 0 0)<|cw<|aV 1 ah)<|bJ (a5 i1<|dB (tE<|eB zk (eU ck<|eW 2)<|eI 6) jy aE)<|bJ (a5 i1<|aO 3<|eB aC (eU (c5 [104,101,108,100])<|eM 0 0)<|cw<|ae (eC .non) ah)<|bJ (a5 i1<|aO 4<|ai KB.bu<|ae (eU (c5 [104,97,108,108])<|eM 0 0)<|aV 2<|aV 3 ah)<|bJ (a5 i1<|dB (tE<|eU lN<|eW 4) jy aE)<|bJ (nz 0 [103,117,101,115,116,115]<|eV 2)<|bJ (nz 0 [104,101,108,100]<|eV 3)<|bJ (nz 0 [112,108,97,99,101,115]<|eV 4)<|a5 i1<|aH<|eB aW (eW 4)<|eU P9<|eI 1)
def fC:U D->Res (D×U D):=zM i1 [Da,AT] 5 vN
def r?:SM:=(bJ (a5 i1<|aO 2<|ai aN<|ae (eM 0 0)<|aV 1 ah)<|nz 0 [104,101,108,100]<|ai KH.cf<|ae (eU (c5 [104,101,108,100])<|eM 0 0)<|aV 2<|ae (eB aW (eU (c5 [112,108,97,99,101,115])<|eM 0 0)<|eW 2) ah)
def d?:U D->Res (D×U D):=zM i1 [Da,AT] 3 r?
def r_:SM:=(bJ (a5 i1<|aO 2<|ai aN<|ae (eM 0 0)<|aV 1 ah)<|bJ (nz 0 [103,117,101,115,116,115]<|ai d!<|ae (eU (c5 [103,117,101,115,116,115])<|eM 0 0)<|aV 2 ah)<|bJ (nz 0 [104,101,108,100]<|ai d!<|ae (eU (c5 [104,101,108,100])<|eM 0 0)<|aV 2 ah)<|nz 0 [112,108,97,99,101,115]<|ai KB.bu<|ae (eU (c5 [104,97,108,108])<|eM 0 0)<|ae (eU (c5 [103,117,101,115,116,115])<|eM 0 0)<|ae (eU (c5 [104,101,108,100])<|eM 0 0) ah)
def d_:U D->Res (D×U D):=zM i1 [Da,AT] 3 r_
def lz:SF:=(aH<|eB aW (eU (c5 [112,108,97,99,101,115])<|eM 0 0)<|ai aN<|ae (eM 0 0)<|aV 1 ah)
def bR:U D->Res D:=B3 [Da,AT] 2 lz
def w?(k0:U (Sum Int<|U Nat))(v0:U D)(x1:D):bR [.dct k0 v0,x1]=bc (lz [AC (.bor<|.dct k0 v0),AC (.val x1)]):=vb _ _ _ _ rfl
def jt:SF:=(aH<|eU (c5 [103,117,101,115,116,115])<|eM 0 0)
def aP:U D->Res D:=B3 [Da] 1 jt
def sM(k0:U (Sum Int<|U Nat))(v0:U D):aP [.dct k0 v0]=bc (jt [AC (.bor<|.dct k0 v0)]):=vb _ _ _ _ rfl
def js:SF:=(aH<|eU (c5 [112,108,97,99,101,115])<|eM 0 0)
def a_:U D->Res D:=B3 [Da] 1 js
def sL(k0:U (Sum Int<|U Nat))(v0:U D):a_ [.dct k0 v0]=bc (js [AC (.bor<|.dct k0 v0)]):=vb _ _ _ _ rfl
def ly:SF:=(aH<|ai KB.cn<|ae (eU (c5 [103,117,101,115,116,115])<|eM 0 0)<|ae (eU (c5 [112,108,97,99,101,115])<|eM 0 0) ah)
def bQ:U D->Res D:=B3 [Da] 1 ly
def w!(k0:U (Sum Int<|U Nat))(v0:U D):bQ [.dct k0 v0]=bc (ly [AC (.bor<|.dct k0 v0)]):=vb _ _ _ _ rfl
def fZ:SF:=(aB (dB (tE<|eB oEq (eU (c5 [103,117,101,115,116,115])<|eM 0 0)<|cw ah) (aH<|eC<|.str [110,111,98,111,100,121]) aE)<|aH<|eB jd (eC<|.str [59,32])<|eL<|bB (Ef (eU (c5 [103,117,101,115,116,115])<|eM 0 0)<|eU (c5 [112,108,97,99,101,115])<|eM 0 0) 2 [] (e_ [0,1]) bM<|eB aC (eB aC (eX 0 0)<|eC<|.str [32])<|ai bA<|aV 1 ah)
def bW:U D->Res D:=B3 [Da] 1 fZ
def ka(k0:U (Sum Int<|U Nat))(v0:U D):bW [.dct k0 v0]=bc (fZ [AC (.bor<|.dct k0 v0)]):=vb _ _ _ _ rfl
def ky:SM:=(bJ (gR (qw<|tE<|eB oEq (eW 1)<|eC<|.str [97,115,107]) (qU (gy 0 [Da,AT,AT])<|_P bA<|vQ (cO fC [Da,AT] [0]<|ae (eM 0 0)<|ae (ai KS.cL<|aV 2 ah) ah) CC) gi)<|bJ (a5 (gy 0 [Da,AT,AT])<|dB (tE<|eB oEq (eW 1)<|eC<|.str [119,104,101,114,101]) (aH<|ai bA<|ae (ai bR<|ae (eM 0 0)<|aV 2 ah) ah) aE)<|bJ (gR (qw<|tE<|eB oEq (eW 1)<|eC<|.str [102,97,115,116]) (Bz<|cO d? [Da,AT] [0]<|ae (eM 0 0)<|aV 2 ah)<|Bz<|cO d_ [Da,AT] [0]<|ae (eM 0 0)<|aV 2 ah)<|a5 (gy 0 [Da,AT,AT])<|aH<|eC<|.str [111,107])
def cS:U D->Res (D×U D):=zM (gy 0 [Da,AT,AT]) [Da,AT,AT] 3 ky
def lA:SM:=(bJ (a5 i1<|dB (fN<|tE<|eU (iL .str)<|eW 1) jy aE)<|bJ (a5 i1<|dB (tE<|eB oEq (eW 1)<|eC<|.str [97,108,108]) (aH<|ai bW<|ae (eM 0 0) ah) aE)<|bJ (a5 i1<|dB (tE<|eB oEq (eW 1)<|eC<|.str [119,111,114,116,104]) (aH<|eU dI<|ai bQ<|ae (eM 0 0) ah) aE)<|bJ (a5 i1<|aO 2<|eB nL (eW 1)<|eC<|.str [32])<|bJ (a5 i1<|dB (yQ (tE<|eB oz (eX 2 0)<|eC<|.tup [.str [97,115,107],.str [102,97,115,116],.str [97,119,97,121],.str [119,104,101,114,101]])<|tE<|eB oEq (eX 2 1)<|eC<|.str []) jy aE)<|qU i1<|cO cS [Da,AT,AT] [0]<|ae (eM 0 0)<|aX 2 0<|aX 2 2 ah)
def cu:U D->Res (D×U D):=zM i1 [Da,AT] 3 lA
def gu:SF:=(aB (aO 2<|eB aC (eI 1)<|eB oMod (eW 0)<|eI 2147483646)<|aB (l_ 3<|a9 ah)<|aB (fm (fT<|eV 1) (aJ 4)<|aB (aO 2<|eB oMod (eB fP (eW 2)<|eI 16807)<|eI 2147483647)<|cV 3<|eB oMod (eB fP (eB oMod (eB fP (eB aC (eW 2)<|eI 7)<|eI 69621)<|eI 2147483629)<|eI 39373)<|eI 2147483587)<|uu 3<|aH<|eV 3)
def dm:U D->Res D:=fn 2 5 gu
def jM:SF:=(aB (aO 2<|eC<|.str aK)<|aB (aO 3<|eB aC (eI 1)<|eB oMod (eW 0)<|eI 8)<|aB (aO 4<|eB oMod (eB oDiv (eW 0)<|eI 8)<|eW 3)<|aB (aO 5<|eB aW (eL<|a9<|aI 1<|aI 3<|aI 5<|aI 7<|aI 9<|aI 11 ah)<|eB oMod (eB oDiv (eW 0)<|eI 64)<|eI 6)<|aB (l_ 6<|a9 ah)<|aB (fm (fT<|eV 1) (aJ 7)<|aB (aO 8<|eC<|.str [])<|aB (fm (fT<|eV 3) (aJ 9)<|aB (aO 10<|eB fP (eB fP (eW 5)<|eW 7)<|eU pP<|eB oEq (eW 9)<|eW 4)<|aO 8<|eB aC (eW 8)<|eB aW (eW 2)<|eB oMod (eB aC (eB oDiv (eW 0)<|eB aC (eI 400)<|eB fP (eB fP (eI 30)<|eW 9)<|eW 9)<|eW 10)<|eI 26)<|cV 6<|eV 8)<|uu 6<|aH<|eV 6)
def iT:U D->Res D:=fn 2 11 jM
def zR(x0 x1:D):iT [x0,x1]=bc (jM [AC (.val x0),AC (.val x1),Ch,Ch,Ch,Ch,Ch,Ch,Ch,Ch,Ch]):=bX _ _ _ _ rfl
def fX:SF:=(aB (aO 1<|eC<|.str aK)<|aH<|eB aC (eB aW (eW 1)<|eB oMod (eW 0)<|eI 26)<|eB aW (eW 1)<|eB oMod (eB aC (eB aC (eW 0)<|eI 1)<|eB oMod (eB oDiv (eW 0)<|eI 26)<|eI 25)<|eI 26)
def cQ:U D->Res D:=fn 1 2 fX
def jo:SF:=(aB (U7 (ai KH.dF<|ae (ai KG.bP<|aV 0<|aI 0 ah)<|ae (eL<|a9<|aI 2<|aI 6<|aI 12<|ae (eB oy (eI 10)<|eI 60) ah) ah)<|Ml [1,2,3,4])<|aB (aO 2<|eB aC (eW 2)<|eI 1)<|aB (aO 3<|eB aC (eW 3)<|eI 1)<|aB (aO 5<|eC<|.str signs)<|aB (aO 6<|ai KH.dF<|ae (ai KG.bP<|aV 0<|aI 1 ah)<|ae (eL<|Wb (a9<|aI 29 ah)<|eB fP (eW 2)<|eW 3) ah)<|aB (dB (tE<|eB oEq (eW 1)<|eI 0) (aB (aO 2<|eB aW (eL<|a9<|aI 1<|aI 2<|aI 1<|aI 2<|aI 3<|aI 2 ah)<|eB ny (eW 2)<|eI 1)<|aB (aO 3<|eB aW (eL<|a9<|aI 3<|aI 4<|aI 5<|aI 2<|aI 1<|aI 4<|aI 6<|aI 3<|aI 2<|aI 3<|aI 4<|aI 5 ah)<|eB ny (eW 3)<|eI 1)<|aB (aO 5<|eB aC (eC<|.str [46,46,46,46,46,61,35])<|ai cQ<|aV 4 ah)<|aO 6<|eL<|bB (cY<|ai dm<|ae (ai KG.bP<|aV 0<|aI 1 ah)<|ae (eB fP (eW 2)<|eW 3) ah) 1 [] (aJ 0) bM<|eB oMod (eB oDiv (eW 0)<|eI 3)<|eI 9) aE)<|aB (l_ 7<|a9 ah)<|aB (fm (fT<|eV 2) (aJ 8)<|cV 7<|eB jd (eC<|.str [])<|eL<|bB (cY<|eL<|LQ (eW 6) (qQ<|eB fP (eW 8)<|eW 3)<|qQ<|eB fP (eB aC (eW 8)<|eI 1)<|eW 3) 1 [5] (aJ 0) bM<|eY 1 0)<|aH<|eU gW<|eW 7)
def jJ:U D->Res D:=fn 1 9 jo
def Ca(x0:D):jJ [x0]=bc (jo [AC (.val x0),Ch,Ch,Ch,Ch,Ch,Ch,Ch,Ch]):=bX _ _ _ _ rfl
def m?:SF:=(aB (U7 (ai KH.dF<|aV 1<|ae (eL<|a9<|aI 12<|aI 3<|aI 27<|aI 7<|aI 64<|aI 37 ah) ah)<|Ml [2,3,4,5,6,7])<|aB (aO 8<|ai KH.dF<|ae (eB oDiv (eW 1)<|eI 16111872)<|ae (eL<|Ig (eL<|a9<|ae (eB oy (eI 10)<|eI 60) ah)<|eL<|Wb (a9<|ae (eB ny (eB oy (eI 10)<|eI 60)<|eI 1) ah)<|eI 6) ah)<|aB (aO 7<|eB oMod (eW 7)<|eB aC (eB fP (eB aC (eW 2)<|eI 1)<|eB aC (eW 3)<|eI 1)<|eI 1)<|aB (aO 4<|eB aW (eL<|a9<|ae (eC<|.str [])<|ae (eB aW (eC<|.str aK)<|eB ny (eW 4)<|eI 1) ah)<|eU pP<|eB zk (eW 4)<|eI 0)<|aB (aO 9<|eL<|bB (fT<|eI 6) 1 [6,8] (aJ 0) (tE<|eB oEq (eB oMod (eB oDiv (eW 1)<|eB aW (eL<|a9<|aI 1<|aI 2<|aI 4<|aI 8<|aI 16<|aI 32 ah)<|eW 0)<|eI 2)<|eI 1)<|cw<|aV 0<|ae (eB aC (eI 1)<|eB aW (eW 2)<|eB aC (eI 1)<|eW 0) ah)<|aH<|cw<|aV 0<|ae (eB aC (eW 2)<|eI 1)<|ae (eB aC (eW 3)<|eI 1)<|aV 4<|aV 7<|aV 5<|aX 8 0<|ae (eU gW<|eW 9) ah)
def kR:U D->Res D:=fn 2 10 m?
def Er(x0 x1:D):kR [x0,x1]=bc (m? [AC (.val x0),AC (.val x1),Ch,Ch,Ch,Ch,Ch,Ch,Ch,Ch]):=bX _ _ _ _ rfl
def jN:SF:=(aB (aO 3<|ai dm<|aV 1<|aI 9 ah)<|aB (aO 4<|eB aW (eL<|a9<|aI 1<|aI 2<|aI 1<|aI 3<|aI 2<|aI 1<|aI 2<|aI 1 ah)<|eB oMod (eB oDiv (eX 3 0)<|eI 5)<|eI 8)<|aB (aO 5<|eB aW (eL<|a9<|aI 1<|aI 1<|aI 2<|aI 1<|aI 1<|aI 1<|aI 1<|aI 2 ah)<|eB oMod (eB oDiv (eX 3 1)<|eI 5)<|eI 8)<|aB (aO 6<|eB aW (eL<|a9<|ae (eC<|.str [])<|ae (eC<|.str [])<|ae (eC<|.str [])<|aX 2 0<|ae (eC<|.str [])<|aX 2 1 ah)<|eB oMod (eB oDiv (eX 3 2)<|eI 5)<|eI 6)<|aB (aO 7<|eB P! (eB aW (eL<|a9<|aI 0<|aI 0<|aI 1<|aI 0<|aI 0<|aI 0 ah)<|eB oMod (eB oDiv (eX 3 3)<|eI 5)<|eI 6)<|eB fP (eW 4)<|eW 5)<|aB (aO 8<|eB aW (eL<|a9<|aI 0<|aI 1<|aI 0<|aI 0<|aI 1<|aI 0<|aI 0<|aI 2 ah)<|eB oMod (eB oDiv (eX 3 4)<|eI 5)<|eI 8)<|aB (aO 9<|eB aW (eL<|a9<|ae (eB oMod (eB oDiv (eX 3 5)<|eI 5)<|eI 4)<|ae (eB fP (eX 3 6)<|eB oy (eI 10)<|eI 50) ah)<|eU pP<|eB oEq (eB oMod (eB oDiv (eX 3 5)<|eI 20)<|eI 6)<|eI 5)<|aB (l_ 10<|a9 ah)<|aB (fm (fT<|eI 6) (aJ 11)<|dB (tE<|eB oEq (eB oMod (eB oDiv (eX 3 7)<|eB aC (eI 3)<|eB fP (eI 2)<|eW 11)<|eI 4)<|eI 1) (cV 10<|cw<|aV 11<|ae (eB aC (eI 1)<|eB oMod (eB oDiv (eX 3 8)<|eB aC (eI 2)<|eW 11)<|eI 3) ah) aE)<|aH<|cw<|aV 0<|aV 4<|aV 5<|aV 6<|aV 7<|aV 8<|aV 9<|ae (eU gW<|eW 10) ah)
def iU:U D->Res D:=fn 3 12 jN
def zT(x0 x1 x2:D):iU [x0,x1,x2]=bc (jN [AC (.val x0),AC (.val x1),AC (.val x2),Ch,Ch,Ch,Ch,Ch,Ch,Ch,Ch,Ch]):=bX _ _ _ _ rfl
def iX:SF:=(aB (aO 3<|ai cQ<|ae (eB oMod (eB oDiv (ai KG.bP<|aV 0<|aI 0 ah)<|eI 144)<|eB oy (eI 10)<|eI 60) ah)<|aB (l_ 4<|a9 ah)<|aB (fm (fT<|eU ck<|eW 2) (aJ 5)<|aB (aO 6<|ai KG.bP<|aV 0<|ae (eB aC (eW 1)<|eW 5) ah)<|dB (ue (tE<|eB oEq (eB oMod (ai KG.bP<|aV 0<|aI 0 ah)<|eI 2)<|eI 1)<|tE<|eB zk (eB oMod (eW 6)<|eI 3)<|eI 0) (cV 4<|ai kR<|ae (eY 2 5)<|ae (eB oDiv (eW 6)<|eI 3) ah)<|cV 4<|ai iU<|ae (eY 2 5)<|ae (eB aC (eB oDiv (eW 6)<|eI 3)<|eB fP (eB fP (eI 7)<|eW 5)<|eW 5)<|aV 3 ah)<|aH<|eU gW<|eW 4)
def ic:U D->Res D:=fn 3 7 iX
def wZ(x0 x1 x2:D):ic [x0,x1,x2]=bc (iX [AC (.val x0),AC (.val x1),AC (.val x2),Ch,Ch,Ch,Ch]):=bX _ _ _ _ rfl
def gO:SF:=(aB (l_ 2<|a9 ah)<|aB (fm (fT<|eB aC (eB ny (eU ck<|eW 0)<|eX 1 2)<|eI 1) (aJ 3)<|fm (fT<|eB aC (eB ny (eU ck<|eX 0 0)<|eX 1 1)<|eI 1) (aJ 4)<|aB (aO 5<|eB jd (eC<|.str [])<|eL<|bB (cY<|MF (eW 0) (qQ<|eW 3)<|qQ<|eB aC (eW 3)<|eX 1 2) 1 [4,1] (aJ 0) bM<|MF (eW 0) (qQ<|eW 1)<|qQ<|eB aC (eW 1)<|eX 2 1)<|aB (aO 6<|eL<|bB (cY<|eW 5) 1 [1] (aJ 0) (ue (tE<|eB pO (eW 0)<|eC<|.str [46,61])<|tE<|eB o! (eW 0)<|eX 1 3)<|eV 0)<|dB (ue (tE<|eB oEq (eW 6)<|eL<|a9 ah)<|tE<|eB YF (eB xJ (eW 5)<|eC<|.str [61])<|eX 1 4) (cV 2<|cw<|aV 3<|aV 4 ah) aE)<|uu 2<|aH<|eV 2)
def dE:U D->Res D:=fn 2 7 gO
def oY:SF:=(aB (aO 3<|eI 1)<|aB (fm (cY<|eV 1) (aJ 4)<|dB (tE<|eB (Le AT) (eX 4 0)<|eV 2) (aO 3<|eB fP (eW 3)<|eB aC (eI 1)<|eU ck<|ai dE<|aV 0<|aV 4 ah) aE)<|aH<|eV 3)
def fB:U D->Res D:=fn 3 5 oY
def B_(x0 x1 x2:D):fB [x0,x1,x2]=bc (oY [AC (.val x0),AC (.val x1),AC (.val x2),Ch,Ch]):=bX _ _ _ _ rfl
def jV:SF:=(aB (aO 1<|eB aC (eB aC (eB aC (eB aC (eX 0 0)<|eC<|.str [32])<|eU dI<|eX 0 1)<|eC<|.str [120])<|eU dI<|eX 0 2)<|aB (dB (tE<|eB o! (eX 0 3)<|eC<|.str []) (aO 1<|eB aC (eB aC (eW 1)<|eC<|.str [32,107,105,110,100,32])<|eX 0 3) aE)<|aB (dB (tE<|eB zk (eX 0 4)<|eI 0) (aO 1<|eB aC (eB aC (eW 1)<|eC<|.str [32,119,105,100,101,32])<|eU dI<|eX 0 4) aE)<|aB (dB (tE<|eB zk (eX 0 5)<|eI 0) (aO 1<|eB aC (eB aC (eW 1)<|eC<|.str [32,103,97,112,32])<|eU dI<|eX 0 5) aE)<|aB (dB (tE<|eB zk (eX 0 6)<|eI 0) (aO 1<|eB aC (eB aC (eW 1)<|eC<|.str [32,119,111,114,116,104,32])<|eU dI<|eX 0 6) aE)<|aB (fm (cY<|eX 0 7) (e_ [2,3])<|aO 1<|eB aC (eB aC (eB aC (eB aC (eW 1)<|eC<|.str [32,114,111,119,32])<|eU dI<|eW 2)<|eC<|.str [32])<|eU dI<|eW 3)<|aH<|eV 1)
def dS:U D->Res D:=fn 1 4 jV
def vg(x0:D):dS [x0]=bc (jV [AC (.val x0),Ch,Ch,Ch]):=bX _ _ _ _ rfl
def mF:SF:=(aH<|eB aC (eB aC (eU dI<|eX 0 0)<|eC<|.str [32])<|eU dI<|eX 0 1)
def bT:U D->Res D:=fn 1 1 mF
def zQ(x0:D):bT [x0]=bc (mF [AC (.val x0)]):=bX _ _ _ _ rfl
def m_:SF:=(aB (dB (tE<|eB oEq (ai aP<|ae (eM 0 0) ah)<|cw ah) (aH<|eC<|.str [110,111,98,111,100,121]) aE)<|aB (l_ 1<|a9 ah)<|aB (fm (Ef (ai aP<|ae (eM 0 0) ah)<|ai a_<|ae (eM 0 0) ah) (e_ [2,3])<|cV 1<|eB aC (eB aC (eX 2 0)<|eC<|.str [32])<|ai bT<|aV 3 ah)<|aH<|eB jd (eC<|.str [59,32])<|eW 1)
def f?:U D->Res D:=B3 [Da] 4 m_
def vj(k0:U (Sum Int<|U Nat))(v0:U D):f? [.dct k0 v0]=bc (m_ [AC (.bor<|.dct k0 v0),Ch,Ch,Ch]):=vb _ _ _ _ rfl
def gb:SM:=(bJ (gR (qw<|tE<|eB oEq (eW 1)<|eI 0) (qU (gy 0 [Da,AT,AT])<|_P bT<|vQ (cO fC [Da,AT] [0]<|ae (eM 0 0)<|aV 2 ah) CC) gi)<|bJ (gR (qw<|tE<|eB oEq (eW 1)<|eI 1) (qU (gy 0 [Da,AT,AT])<|mB aW (mP<|eL<|a9<|ae (eC<|.str [111,107])<|ae (eC<|.str []) ah)<|mU pP<|mU jF<|cO d? [Da,AT] [0]<|ae (eM 0 0)<|aX 2 0 ah) gi)<|bJ (gR (qw<|tE<|eB oEq (eW 1)<|eI 2) (qU (gy 0 [Da,AT,AT])<|mB aW (mP<|eL<|a9<|ae (eC<|.str [111,107])<|ae (eC<|.str []) ah)<|mU pP<|mU jF<|cO d_ [Da,AT] [0]<|ae (eM 0 0)<|aX 2 0 ah) gi)<|bJ (a5 (gy 0 [Da,AT,AT])<|dB (tE<|eB oEq (eW 1)<|eI 3) (aH<|ai bT<|ae (ai bR<|ae (eM 0 0)<|aX 2 0 ah) ah) aE)<|bJ (a5 (gy 0 [Da,AT,AT])<|dB (tE<|eB oEq (eW 1)<|eI 4) (aH<|ai f?<|ae (eM 0 0) ah) aE)<|a5 (gy 0 [Da,AT,AT])<|aH<|eU dI<|ai bQ<|ae (eM 0 0) ah)
def br:U D->Res (D×U D):=zM (gy 0 [Da,AT,AT]) [Da,AT,AT] 3 gb
def gr:SF:=(aB (dB (tE<|eB oEq (eW 0)<|eI 0) (aH<|eB aC (eC<|.str [97,115,107,32])<|ai dS<|aV 1 ah) aE)<|aB (dB (tE<|eB oLt (eW 0)<|eI 4) (aH<|eB aC (eB aW (eL<|a9<|ae (eC<|.str [102,97,115,116,32])<|ae (eC<|.str [97,119,97,121,32])<|ae (eC<|.str [119,104,101,114,101,32]) ah)<|eB ny (eW 0)<|eI 1)<|eX 1 0) aE)<|aH<|eB aW (eL<|a9<|ae (eC<|.str [97,108,108])<|ae (eC<|.str [119,111,114,116,104]) ah)<|eB ny (eW 0)<|eI 4)
def dD:U D->Res D:=fn 2 2 gr
def kT(x0 x1:D):dD [x0,x1]=bc (gr [AC (.val x0),AC (.val x1)]):=bX _ _ _ _ rfl
def iq:XF:=(cE (dB (fN<|tE<|ai KS.cq<|aV 1 ah) jy aE) iQ<|cE (dB (tE<|eB Ap (eX 1 0)<|eL<|bB (cY<|eU (c5 [103,117,101,115,116,115])<|eM 0 0) 1 [] (aJ 0) bM<|eX 0 0) jy aE) (lK (tE<|eB Ap (eX 1 0)<|eL<|bB (cY<|eU (c5 [103,117,101,115,116,115])<|eM 0 0) 1 [] (aJ 0) bM<|eX 0 0) (qx [84,119,105,99,101]<|eC<|.str t_1) iQ)<|cE (aO 2<|eB aC (eU (c5 [103,117,101,115,116,115])<|eM 0 0)<|cw<|aV 1 ah) iQ<|cE (dB (tE<|eB zk (eU ck<|eW 2)<|eI 6) jy aE) iQ<|cE (aO 3<|eB aC (eU (c5 [104,101,108,100])<|eM 0 0)<|cw<|ae (eC .non) ah) iQ<|cE (aO 4<|ai KB.bu<|ae (eU (c5 [104,97,108,108])<|eM 0 0)<|aV 2<|aV 3 ah) iQ<|cE (dB (tE<|eU lN<|eW 4) jy aE) (lK (tE<|eU lN<|eW 4) (o? [70,117,108,108] [[112,97,112,101,114]]<|ae (ai KC.iz<|ae (eU (c5 [104,97,108,108])<|eM 0 0)<|aV 2<|aV 3 ah) ah) iQ) iQ)
def d6:U D->ε XN:=B0 [Da,AT] 5 iq
def p!(k0:U (Sum Int<|U Nat))(v0:U D)(x1:D):d6 [.dct k0 v0,x1]=iq [AC (.bor<|.dct k0 v0),AC (.val x1),Ch,Ch,Ch]:=rX _ _ _ _ rfl
def eP:XF:=(cE (dB (tE<|ai KS.cR<|aV 1 ah) (fm (F_<|eU (c5 [103,117,101,115,116,115])<|eM 0 0) (e_ [2,3])<|dB (tE<|eB oEq (eX 3 0)<|eW 1) (aH<|eV 2) aE) aE) iQ<|qx [78,111,78,97,109,101]<|eC<|.str t_2)
def aD:U D->ε XN:=B0 [Da,AT] 4 eP
def jh(k0:U (Sum Int<|U Nat))(v0:U D)(x1:D):aD [.dct k0 v0,x1]=eP [AC (.bor<|.dct k0 v0),AC (.val x1),Ch,Ch]:=rX _ _ _ _ rfl
def iP:XF:=(cE (aO 2<|ai aN<|ae (eM 0 0)<|aV 1 ah) (bL aD<|ae (eM 0 0)<|aV 1 ah) iQ)
def cG:U D->ε XN:=B0 [Da,AT] 3 iP
def nU(k0:U (Sum Int<|U Nat))(v0:U D)(x1:D):cG [.dct k0 v0,x1]=iP [AC (.bor<|.dct k0 v0),AC (.val x1),Ch]:=rX _ _ _ _ rfl
def iO:XF:=(cE (aO 2<|ai aN<|ae (eM 0 0)<|aV 1 ah) (bL aD<|ae (eM 0 0)<|aV 1 ah) iQ)
def cF:U D->ε XN:=B0 [Da,AT] 3 iO
def nT(k0:U (Sum Int<|U Nat))(v0:U D)(x1:D):cF [.dct k0 v0,x1]=iO [AC (.bor<|.dct k0 v0),AC (.val x1),Ch]:=rX _ _ _ _ rfl
def jP:XF:=(Ju (eU (c5 [112,108,97,99,101,115])<|eM 0 0)<|bL aD<|ae (eM 0 0)<|aV 1 ah)
def fU:U D->ε XN:=B0 [Da,AT] 2 jP
def u!(k0:U (Sum Int<|U Nat))(v0:U D)(x1:D):fU [.dct k0 v0,x1]=jP [AC (.bor<|.dct k0 v0),AC (.val x1)]:=rX _ _ _ _ rfl
def d7:XF:=(cE (dB (tE<|eB oEq (eW 1)<|eC<|.str [97,115,107]) (aH<|ai bA<|ae vk ah) aE) (lK (tE<|eB oEq (eW 1)<|eC<|.str [97,115,107]) (bL d6<|ae (eM 0 0)<|ae (ai KS.cL<|aV 2 ah) ah) iQ)<|cE (dB (tE<|eB oEq (eW 1)<|eC<|.str [119,104,101,114,101]) (aH<|ai bA<|ae (ai bR<|ae (eM 0 0)<|aV 2 ah) ah) aE) (lK (tE<|eB oEq (eW 1)<|eC<|.str [119,104,101,114,101]) (bL fU<|ae (eM 0 0)<|aV 2 ah) iQ)<|cE (dB (tE<|eB oEq (eW 1)<|eC<|.str [102,97,115,116]) (uv vk)<|uv vk) (lK (tE<|eB oEq (eW 1)<|eC<|.str [102,97,115,116]) (bL cF<|ae (eM 0 0)<|aV 2 ah)<|bL cG<|ae (eM 0 0)<|aV 2 ah) iQ)
def cP:U D->ε XN:=B0 [Da,AT,AT] 3 d7
def fu(k0:U (Sum Int<|U Nat))(v0:U D)(x1:D)(x2:D):cP [.dct k0 v0,x1,x2]=d7 [AC (.bor<|.dct k0 v0),AC (.val x1),AC (.val x2)]:=rX _ _ _ _ rfl
def il:XF:=(cE (dB (fN<|tE<|eU (iL .str)<|eW 1) jy aE) iQ<|cE (dB (tE<|eB oEq (eW 1)<|eC<|.str [97,108,108]) (aH<|ai bW<|ae (eM 0 0) ah) aE) iQ<|cE (dB (tE<|eB oEq (eW 1)<|eC<|.str [119,111,114,116,104]) (aH<|eU dI<|ai bQ<|ae (eM 0 0) ah) aE) iQ<|cE (aO 2<|eB nL (eW 1)<|eC<|.str [32]) iQ<|cE (dB (yQ (tE<|eB oz (eX 2 0)<|eC<|.tup [.str [97,115,107],.str [102,97,115,116],.str [97,119,97,121],.str [119,104,101,114,101]])<|tE<|eB oEq (eX 2 1)<|eC<|.str []) jy aE) iQ<|bL cP<|ae (eM 0 0)<|aX 2 0<|aX 2 2 ah)
def fy:U D->ε XN:=B0 [Da,AT] 3 il
def p9(k0:U (Sum Int<|U Nat))(v0:U D)(x1:D):fy [.dct k0 v0,x1]=il [AC (.bor<|.dct k0 v0),AC (.val x1),Ch]:=rX _ _ _ _ rfl
def dZ:XF:=(cE (dB (tE<|eB oEq (eW 1)<|eI 0) (aH<|ai bT<|ae vk ah) aE) (lK (tE<|eB oEq (eW 1)<|eI 0) (bL d6<|ae (eM 0 0)<|aV 2 ah) iQ)<|cE (dB (tE<|eB oEq (eW 1)<|eI 1) (aH<|eB aW (eL<|a9<|ae (eC<|.str [111,107])<|ae (eC<|.str []) ah)<|eU pP<|eU jF vk) aE) (lK (tE<|eB oEq (eW 1)<|eI 1) (Ju (eL<|a9<|ae (eC<|.str [111,107])<|ae (eC<|.str []) ah)<|bL cF<|ae (eM 0 0)<|aX 2 0 ah) iQ)<|cE (dB (tE<|eB oEq (eW 1)<|eI 2) (aH<|eB aW (eL<|a9<|ae (eC<|.str [111,107])<|ae (eC<|.str []) ah)<|eU pP<|eU jF vk) aE) (lK (tE<|eB oEq (eW 1)<|eI 2) (Ju (eL<|a9<|ae (eC<|.str [111,107])<|ae (eC<|.str []) ah)<|bL cG<|ae (eM 0 0)<|aX 2 0 ah) iQ)<|cE (dB (tE<|eB oEq (eW 1)<|eI 3) (aH<|ai bT<|ae (ai bR<|ae (eM 0 0)<|aX 2 0 ah) ah) aE) (lK (tE<|eB oEq (eW 1)<|eI 3) (bL fU<|ae (eM 0 0)<|aX 2 0 ah) iQ) iQ)
def cm:U D->ε XN:=B0 [Da,AT,AT] 3 dZ
def fJ(k0:U (Sum Int<|U Nat))(v0:U D)(x1:D)(x2:D):cm [.dct k0 v0,x1,x2]=dZ [AC (.bor<|.dct k0 v0),AC (.val x1),AC (.val x2)]:=rX _ _ _ _ rfl
def jn:SM:=(bJ (a5 (gy 0 [Da,AT,AT,AT])<|aO 4<|eC .non)<|bJ (D6 (gR (qw<|tE<|eV 3) (wI 4<|cO cu [Da,AT] [0]<|ae (eM 0 0)<|ae (ai dD<|aV 1<|aV 2 ah) ah)<|wI 4<|cO br [Da,AT,AT] [0]<|ae (eM 0 0)<|aV 1<|aV 2 ah) (lK (tE<|eV 3) (bL fy<|ae (eM 0 0)<|ae (ai dD<|aV 1<|aV 2 ah) ah)<|bL cm<|ae (eM 0 0)<|aV 1<|aV 2 ah)<|YS (BL [([78,111,78,97,109,101],Da),([84,119,105,99,101],AT),([70,117,108,108],AT)]) (a5 (gy 0 [Da,AT,AT,AT])<|aO 4<|eL<|a9<|ae (eC<|.str [110,111,32,110,97,109,101]) ah)<|YS (BL [([78,111,78,97,109,101],AT),([84,119,105,99,101],Da),([70,117,108,108],AT)]) (a5 (gy 0 [Da,AT,AT,AT])<|aO 4<|eL<|a9<|ae (eC<|.str [116,119,105,99,101]) ah)<|YV (BL [([78,111,78,97,109,101],AT),([84,119,105,99,101],AT),([70,117,108,108],Da)]) 5 (a5 (gy 0 [Da,AT,AT,AT])<|aO 4<|eL<|a9<|ae (eC<|.str [102,117,108,108])<|ae (eU (iL .tuple)<|eXf 5 [70,117,108,108] [112,97,112,101,114]) ah)<|YV (BL [([78,111,78,97,109,101],AT),([84,119,105,99,101],AT),([70,117,108,108],AT)]) 5 (λ _=>.bad) hNo)<|a5 (gy 0 [Da,AT,AT,AT])<|aH<|eV 4)
def a7:U D->Res (D×U D):=zM (gy 0 [Da,AT,AT,AT]) [Da,AT,AT,AT] 6 jn
def NA:SF:=(aB (aO 1<|ai jJ<|aV 0 ah)<|aB (aO 2<|ai iT<|ae (ai KG.bP<|aV 0<|aI 2 ah)<|aI 6 ah)<|aB (aO 3<|ai ic<|aV 0<|aI 3<|ae (eL<|Ig (eW 2)<|eW 2) ah)<|y7 4 gL (eV 1)<|zA [4] 5 gL (eV 1)<|bJ (V' ([4]++[5]) (cY<|eL<|Ig (eL<|a9<|aI 5<|aI 0<|aI 8<|aI 16<|aI 13 ah)<|eL<|LQ (eW 0) (qQ<|eI 15)<|qQ<|eI 26) (aJ 6)<|bJ (a5 ([4]++[5])<|aO 7<|eB aW (eW 3)<|eB oMod (eB oDiv (eW 6)<|eI 8)<|eI 12)<|bJ (a5 ([4]++[5])<|aO 8<|eB aW (eL<|a9<|aI 0<|aI 0<|aI 0<|aI 1<|aI 2<|aI 3<|aI 4<|aI 5 ah)<|eB oMod (eW 6)<|eI 8)<|gR (qw<|yQ (tE<|eB zk (eW 8)<|eI 0)<|tE<|eB oLe (ai fB<|aV 1<|ae (eB aC (ai aP<|ae (eM 0 4) ah)<|cw<|aV 7 ah)<|ae (eC<|.dct [] []) ah)<|eI 250) (bJ (wI 9<|cO a7 [Da,AT,AT,AT] [4]<|ae (eM 0 4)<|aV 8<|aV 7<|ae (eC<|.bl Da) ah)<|bJ (gR (Qn (_K<|mB o! (mP<|eV 9)<|cO a7 [Da,AT,AT,AT] [5]<|ae (eM 0 5)<|aV 8<|aV 7<|ae (eC<|.bl AT) ah)<|qw<|fN<|tE<|eU (qR .str .list)<|eW 9) (a5 ([4]++[5])<|aH<|eC<|.bl AT) gi)<|a5 ([4]++[5])<|dB (yQ (tE<|eB o! (ai aP<|ae (eM 0 4) ah)<|ai aP<|ae (eM 0 5) ah)<|tE<|eB o! (ai a_<|ae (eM 0 4) ah)<|ai a_<|ae (eM 0 5) ah) (aH<|eC<|.bl AT) aE) gi)<|qU ([4]++[5])<|V! (mB oEq (cO cu [Da,AT] [4]<|ae (eM 0 4)<|ae (eC<|.str [97,108,108]) ah)<|mP<|ai f?<|ae (eM 0 5) ah)<|mB oEq (cO cu [Da,AT] [4]<|ae (eM 0 4)<|ae (eC<|.str [119,111,114,116,104]) ah)<|mP<|eU dI<|ai bQ<|ae (eM 0 5) ah)
def q_:U D->Res D:=fn 1 10 NA
def W9(x0:D):q_ [x0]=bc (NA [AC (.val x0),Ch,Ch,Ch,Ch,Ch,Ch,Ch,Ch,Ch]):=bX _ _ _ _ rfl
end iY
set_option maxRecDepth 8000
namespace iY
open Z
abbrev Nt:U Nat:=[78,111,78,97,109,101]
abbrev Nu:U Nat:=[70,117,108,108]
noncomputable abbrev dk(x:Nat)(hall gs hl ps:D):D:=.dct [.inl (x:Int),.inl 0,.inr [104,97,108,108],.inr [103,117,101,115,116,115],.inr [104,101,108,100],.inr [112,108,97,99,101,115]] [hall,gs,hl,ps]
def eqT(s t:U Nat):oEq (.str s) (.str t)=.ok (.bl<|decide<|s=t):=by let:lQ (.str s) (.str t)=AC _:=rfl;unfold oEq;rw[this];erw[Res.ok.injEq,D.bl.injEq];show A65.mpr ∅
def lO(d:D):U Nat:=match aW d (.int 0)with
|.ok<|.str n=>n
|_=>[]
def Aj(g:D):Prop:=aW g (.int 0)=.ok (.str<|lO g)
abbrev HU:SF:=dB (tE<|eB oEq (eX 3 0)<|eW 1) (aH<|eV 2) aE
def uH(h:Aj g)(i:Nat)(d:D)(a b:ε L)(r:U D):dQ (e_ [2,3]) HU (pair (.int<|i) g::r) [AC (.bor d),v (.str n),a,b]=if lO g=n then .ok (.rt<|.int<|i)else dQ (e_ [2,3]) HU r [AC (.bor d),v (.str n),v (.int<|i),v g]:=by
 let gX:∀Y,e_ [2,3] (.tup [.int (i),g]) Y=.ok _:=λ Y=>rfl;by_cases c:lO g=n
 .rw[M2 c];simp[dQ,pair,HU,(show aW g _=.ok _ from h),eqT,c]
 .rw[W1 c];simp[dQ,pair,gX,HU,(show aW g _=.ok _ from h),eqT,c]
def FT(h:∀d∈as++g::bs,Aj d)(hm:∀a∈as,lO a≠n)(hg:lO g=n)(d:D):∀i a b,dQ (e_ [2,3]) HU (mz i<|as++g::bs) [AC (.bor d),v (.str n),a,b]=.ok (.rt<|.int<|(i+as.n:Nat)):=by
 induction as with
 |nil=>intro i a b;show(uH (h g ∅) i d a b _).trans<|M2 hg
 |cons y as ih=>intro i a b;show(uH (h y ∅) i d a b _).trans ?_;rw[W1<|hm y A10];show(ih (λ z hz=>h z<|A08 _ hz) (λ z hz=>hm z<|A08 _ hz) _ _ _).trans ?_;rw[A22,show i+1+as.n=i+(as.n+1)by lia]
def Bl(d:D):∀gs i a b,(∀g∈gs,Aj g)->(∀a∈gs,lO a≠n)->∃a' b',dQ (e_ [2,3]) HU (mz i gs) [AC (.bor d),v (.str n),a,b]=.ok (.nx [AC (.bor d),v (.str n),a',b'])
|[],i,a,b,_,_=>(a,b,rfl,)
|y::gs,i,a,b,h,hm=>by let(a',b',e):=Bl d gs (i+1) (v<|.int<|i) (v y) (λ z hz=>h z<|A08 _ hz) (λ z hz=>hm z<|A08 _ hz);show(a',b',(uH (h y A10) i d a b _).trans ?_,);rw[W1<|hm y A10];show e
@[simp] def c5A{a k f vs}{ks:U (Sum Int<|U Nat)}:Z.c5 f (.dct (.inl a::.inl k::ks) vs)=Z.iy ks vs f:=rfl
@[simp] def iyB{k f ks v vs}:Z.iy (.inr k::ks) (v::vs) f=if k=f then .ok v else Z.iy ks vs f:=rfl
@[simp] def xvA:Z.xv (Da::bs) (d::ds)=d::Z.xv bs ds:=rfl
@[simp] def xvB:Z.xv (AT::bs) (d::ds)=Z.xv bs ds:=rfl
@[simp] def xvC:Z.xv [] []=[]:=rfl
@[simp] def dHA:Z.dH (i::is) (t::ts) Y=Z.dH is ts (Y.set i (AC<|.bor t)):=rfl
@[simp] def dHB:Z.dH [] [] Y=Y:=rfl
@[simp] def iGA:Z.iG (i::is) (d::ds) Y=Z.iG is ds (Y.set i (AC<|.val d)):=rfl
@[simp] def iGB:Z.iG [] [] Y=.ok Y:=rfl
def VR(e:KS.cR [.str n]=.ok (.bl Da))(h:∀d∈as++g::bs,Aj d)(hm:∀a∈as,lO a≠n)(hg:lO g=n):aN [dk x hall (.tup<|as++g::bs) hl ps,.str n]=.ok (.int<|as.n):=by rw[qf];show ay ?_;let:=FT h hm hg (dk x hall (.tup<|as++g::bs) hl ps) 0 Ch Ch;rw[B01]at this;simp[h_,e,eM,this]
def _u(e:KS.cR [.str n]=.ok (.bl Da))(h:∀g∈gs,Aj g)(hm:∀a∈gs,lO a≠n):aD [dk x hall (.tup gs) hl ps,.str n]=AC (Nt,[]):=by rw[jh];let(a',b',q):=Bl (dk x hall (.tup gs) hl ps) gs 0 Ch Ch h hm;simp[eP,cE,qx,iQ,e,eM,q]
def Ms(h:aD [dk x hall gs hl ps,.str n]=AC m):cF [dk x hall gs hl ps,.str n]=AC m:=by rw[nT];simp[iO,cE,bL,eM,h]
def NB(h:aD [dk x hall gs hl ps,.str n]=AC m):cG [dk x hall gs hl ps,.str n]=AC m:=by rw[nU];simp[iP,cE,bL,eM,h]
def p7:aP [dk x hall gs hl ps]=.ok gs:=by rw[sM];show ay ?_;simp[jt,eM]
def oh:a_ [dk x hall gs hl ps]=.ok ps:=by rw[sL];show ay ?_;simp[js,eM]
def JK(h:KB.cn [gs,ps]=.ok w):bQ [dk x hall gs hl ps]=.ok w:=by rw[w!];show ay ?_;simp[ly,eM,h]
def JM(h:aN [dk x hall gs hl ps,.str n]=.ok k)(hp:aW ps k=.ok d):bR [dk x hall gs hl ps,.str n]=.ok d:=by rw[w?];show ay ?_;simp[lz,eM,h,hp]
def Rw(h:aN [dk x hall gs hl ps,.str n]=.ok k)(hp:aW ps k=.ok d)(hw:KH.cf [hl,k,d]=.ok iS):d? [dk x hall gs hl ps,.str n]=.ok (.non,[dk x hall gs iS ps]):=by unfold d?;rw[fW _ _ _ _ _ rfl];let s0:startB 3 [Da,AT] [dk x hall gs hl ps,.str n]=[AC (.bor _),v _,Ch]:=rfl;rw[s0];simp[r?,bJ,a5,nz,h,hw,hp,eM,wA,ZS.lLA,cb,bI,jv,lW,line,guard_pos,gy];rfl
def SI(h:aN [dk x hall gs hl ps,.str n]=.ok k)(h1:d! [gs,k]=.ok v?)(h2:d! [hl,k]=.ok iS)(h3:KB.bu [hall,v?,iS]=.ok pH):d_ [dk x hall gs hl ps,.str n]=.ok (.non,[dk x hall v? iS pH]):=by unfold d_;rw[fW _ _ _ _ _ rfl];let s0:startB 3 [Da,AT] [dk x hall gs hl ps,.str n]=[AC (.bor _),v _,Ch]:=rfl;rw[s0];simp[r_,bJ,a5,nz,h,h1,h2,h3,eM,wA,ZS.lLA,cb,bI,jv,lW,line,guard_pos,gy];rfl
section
variable{gs hs:U D}
def uM(h:∀g∈gs,Aj g)(Y:Env)(hρ:Y.n=1):bV (aJ 0) bM (eX 0 0) Y gs=.ok (gs.map λ g=>.str<|lO g):=by
 let:Ok (bV (aJ 0) bM (eX 0 0) Y gs) λ ds=>ds=gs.map λ g=>.str (lO g):=by
  match Y,hρ with
  |[a],_=>show comp_map _ (λ d hd=>?_) rfl;let:=h d hd;unfold Aj at this;simp[this]
 show this.eq
def yu(n:U Nat):∀ms:U _,gU (.str n) (ms.map .str)=AC (decide<|n∈ms)
|[]=>rfl
|m::ms=>by
 let e:lQ (.str m) (.str n)=AC _:=rfl;let ih:=yu n ms;by_cases c:n=m
 .subst c;simp[gU,e,ih]
 .simp[gU,e,ih,c,A15 c]
def BM(n:U Nat)(ms:U _):Ap (.str n) (.lst<|ms.map .str)=.ok (.bl<|decide<|n∈ms)/\oz (.str n) (.lst<|ms.map .str)=.ok (.bl<|!decide (n∈ms)):=by
 let:=yu n ms;constructor
 .simp[Ap,this]
 .simp[oz,this]
def GJ(hg:KS.cq [g]=.ok (.bl Da))(e0:Aj g)(hn:∀g∈gs,Aj g)(hm:∀y∈gs,lO y≠lO g):Ap (.str<|lO g) (.lst<|gs.map λ g=>.str<|lO g)=.ok (.bl AT):=by let:=(BM (lO g)<|gs.map lO).1;rw[A17]at this;show this.trans ?_;rw[A36];intro h;let(y,hy,e):=A03.mp h;show hm y hy e
def Yc(hg:KS.cq [g]=.ok (.bl Da))(e0:Aj g)(hn:∀g∈gs,Aj g)(hm:∀y∈gs,lO y≠lO g)(h5:gs.n<=5)(h5':hs.n<=5)(hb:KB.bu [hall,.tup (gs++[g]),.tup (hs++[.non])]=.ok pH)(hp:lN pH=.ok (.bl AT))(hd:aW pH (.int<|-1)=.ok d):
 fC [dk x hall (.tup gs) (.tup hs) ps,g]=.ok (d,[dk x hall (.tup<|gs++[g]) (.tup<|hs++[.non]) pH]):=by
 let Y0:aW g (.int 0)=.ok (.str<|lO g):=e0;let Eh:=GJ hg e0 hn hm;let cg:=λ Y hρ=>uM hn Y hρ;unfold fC;rw[fW _ _ _ _ _ rfl];let s0:startB 5 [Da,AT] [dk x hall (.tup gs) (.tup hs) ps,g]=[AC (.bor<|dk x hall (.tup gs) (.tup hs) ps),v g,Ch,Ch,Ch]:=rfl;rw[s0];let l6:decide (6<(((gs++[g]).length)))=AT:=A36 (by rw[A23];simp;lia);let q0:gs.n<=16777216:=by lia
 let q1:gs.n<=16777215:=by lia
 let q2:hs.n<=16777215:=by lia
 let q3:decide (6<(gs.n:Int)+1)=AT:=A36 ∅;simp[vN,bJ,a5,nz,hg,Y0,hd,hb,hp,Eh,a!,fh,cg,q0,q1,q2,q3,l6,eM,wA,ZS.lLA,cb,bI,jv,lW,line,guard_pos,gy];rfl
def dJ(d:D):thA (AC<|some<|.bor d)=d:=rfl
end
end iY
namespace iY
open Z
open KG (G GO Pl Rows Hall ju GOk aF bp bY aS places)
open KH (aw aj Good)
open KB (cM gw cJ)
abbrev nms(xs:U GO):U (U Nat):=xs.map (·.1.name)
def Em(g:G):aW (aF g) (.int 0)=.ok (.str g.name):=rfl
def uL(g:G):Aj (aF g):=rfl
def Hz(H:Hall rows C)(k:GOk g):dE [aS rows,aF g]=.ok (.lst<|(places rows C g).map bp):=KN.qV H k
def Dz(H:Hall rows C)(g:G):(places rows C g).length<=10000:=by
 let h1:(places rows C g).length<=rows.n*C:=by rw[<-KG.nh];show A77 _ _
 let:=A55 H.r2 H.c2;lia
abbrev S_:SF:=dB (tE<|eB (Le AT) (eX 4 0)<|eV 2) (aO 3<|eB fP (eW 3)<|eB aC (eI 1)<|eU ck<|ai dE<|aV 0<|aV 4 ah) aE
def lS(rows:Rows)(C:Nat):U G->Nat
|[]=>1
|g::r=>((places rows C g).length+1)*lS rows C r
def E_(H:Hall rows C)(X1:D):∀(ys:U G)(n:Nat) l,(∀x∈ys,GOk x)->∃l',dQ (aJ 4) S_ (ys.map aF) [v (aS rows),v X1,v (.dct [] []),v (.int (n:Nat)),l]=.ok (.nx [v (aS rows),v X1,v (.dct [] []),v (.int<|(n*lS rows C ys:Nat)),l'])
|[],n,l,_=>⟨l,by simp[dQ,lS]⟩
|y::ys,n,l,hg=>by
 let pl:=Hz H<|hg y A10;let pf:=Dz H y;let ni:Le AT (.str y.name) (.dct [] [])=.ok (.bl Da):=guard_pos ⟨[],rfl⟩;let hy:=λ z hz=>hg z<|A08 _ hz;let(l',q):=E_ H X1 ys (n*((places rows C y).length+1)) (v<|aF y) hy;show(l',?_,);let ew:n*lS rows C (y::ys)=n*((places rows C y).length+1)*lS rows C ys:=by simp[lS,Nat.mul_assoc]
 rw[ew,<-q];let big:bS (n) (1+((places rows C y).length)):=gg ∅ ∅;let em:(n)*(1+((places rows C y).length))=((n*((places rows C y).length+1)):Int):=by push_cast;rw[Int.add_comm]
 simp[dQ,S_,Em,ni,pl,line,big,em]
def JO(H:Hall rows C)(gs:U G)(hg:∀x∈gs,GOk x):fB [aS rows,.tup (gs.map aF),.dct [] []]=.ok (.int<|lS rows C gs):=by rw[B_];show ay ?_;let(l',q):=E_ H (.tup<|gs.map aF) gs 1 Ch hg;rw[Nat.one_mul]at q;simp[oY];show⟨_,q,by simp ⟩
def AG(xs:U GO):cM rows C xs<=lS rows C (xs.map (·.1)):=by
 induction xs with
 |nil=>show P3 _
 |cons x r ih=>
  let e:cM rows C (x::r)=gw rows C x*cM rows C r:=by simp[cM,cJ]
  rw[e,A06,lS];show A55 ?_ ih;unfold gw;cases x.2 with
  |none=>simp
  |some p=>simp
def AD{ds:U D}(h:k<ds.n):cut ds Ch (AC<|k)++cut ds (AC<|(k)+1) Ch=ds.eraseIdx k:=by
 let e1:cut ds Ch _=ds.take k:=KG.vD ds ∅;let e2:cut ds (AC<|(k)+1) Ch=ds.drop (k+1):=by
  let:¬(k:Int)+1<0:=by lia
  let h3:((k:Int)+1).toNat=k+1:=by lia
  let h4:min (k+1) ds.n=k+1:=by lia
  simp[cut,dO,this,h4];rw[B68 ∅]
 rw[e1,e2,List.eraseIdx_eq_take_drop_succ]
def tN(h:k<ds.n)(hl:ds.n<=1000):d! [.tup ds,.int (k:Nat)]=.ok (.tup<|ds.eraseIdx k):=by
 rw[Eo];show ay ?_;let c1:=kZ ds Ch<|some<|k;let c2:=kZ ds (AC<|(k)+1) Ch;let g2:(cut ds Ch<|some<|k).length+(cut ds (AC<|(k)+1) Ch).length<=16777216:=by lia
 simp[ro,g2,AD h]
end iY
namespace iY
open Z
open KG (G GO Pl Rows Hall ju GOk aF bp bY aS places)
open KH (aw aj Good)
open KB (cM gw cJ lD E8 Ext Full)
def Dr(g:G):Prop:=ju g/\KS.cq [aF g]=.ok (.bl Da)/\KS.cR [.str g.name]=.ok (.bl Da)
def Ex(g:G):Prop:=g.name.n<=9/\∀r,0<=KB.JR g r/\KB.JR g r<10^62
structure I(rows:Rows)(C:Nat)(N:List (List Nat))(xs m:List GO):Prop where
 s:lD rows C xs m
 dr:∀x∈xs,Dr x.1
 nm:∀x∈xs,x.1.name∈N/\Ex x.1
def nO:∀(l:U _)(N:U (U Nat)),l.Nodup->(∀x∈l,x∈N)->l.n<=N.n
|[],_,_,_=>A48 _
|y::l,N,h,hs=>by let h':=A44.mp h;let hy:=hs y A10;let ih:=nO l _ h'.2 λ z hz=>(List.mem_erase_of_ne λ(e:z=y)=>h'.1<|e▸hz).mpr<|hs z<|A08 _ hz;rw[List.length_erase_of_mem hy]at ih;let:=List.length_pos_of_mem hy;rw[A22];lia
def DU(xs:U GO):∀y∈xs.map (λ x=>aF x.1),Aj y:=λ y hy=>by let(z,_,rfl):=A03.mp hy;show uL z.1
def Mg(h:Good rows xs)(g:G):Good rows (xs++[(g,Ch)]):=by
 let key:∀i g' p,(xs++[(g,Ch)])[i]?=AC (g',AC p)->xs[i]?=AC (g',AC p):=λ i g' p e=>by
  by_cases c:i<xs.n
  .rwa [A37 c]at e
  .rw[A45 ∅]at e;cases q:i-xs.n with
   |zero=>rw[q]at e;ext e
   |succ n=>rw[q]at e;ext e
 intro i g' p e;let(h1,h2):=h i g' p (key i g' p e);show(h1,λ j g2 q ej ne=>h2 j g2 q (key j g2 q ej) ne,)
def F5(d:D)(ds:U D)(h:ds.n<=100):aW (.tup<|ds++[d]) (.int<|-1)=.ok d:=by
 let e:xZ (ds.n+1) (-1)=AC ds.n:=by unfold xZ;simp;lia
 simp[aW,e,guard_pos]
def ID(f:Full m)(h:m≠[])(hl:m.n<=6):∃p,aW (aj m) (.int<|-1)=.ok (bp p):=by
 obtain⟨r,y,rfl⟩:∃r y,m=r++[y]:=(_,_,(C62 h).symm,)
 cases e:y.2 with
 |none=>show(f _ y.1 (by rw[A45<|P3 _,Nat.sub_self,<-e];rfl)).elim
 |some p=>show(p,?_,);unfold aj;rw[A27,A06,A41,e];show F5 _ _ (by rw[A04];simp at hl;lia)
def W!(n:Nat)(z:Int):iI n (.int z) (.int z)=AC Da:=by
 let:iI n (.int z) (.int z)=AC (z==z):=by ext n<;>rfl
 rw[this,A54]
def Ey(n:Nat)(z:U Nat):iI n (.str z) (.str z)=AC Da:=by
 let:iI n (.str z) (.str z)=AC (z==z):=by ext n<;>rfl
 rw[this,A54]
def oK:∀ds,(∀d∈ds,f d d=AC Da)->allEq f ds ds=AC Da
|[],_=>rfl
|d::ds,h=>by erw[allEq,h d A10,oK ds λ z hz=>h z<|A08 _ hz];rfl
def Gm(n:Nat)(p:Pl):iI (n+1) (bp p) (bp p)=AC Da:=oK _ λ d hd=>by
 rcases A01.mp hd with rfl|hd
 .exact W! _ _
 .rw[A11.mp hd];show W! _ _
def eqG(h:ju g):iI 5 (aF g) (aF g)=AC Da:=by
 let(wt,ws,_,e1,e2):=h.wsh;show oK _ λ d hd=>?_;erw[A01,A39,A42]at hd;rcases hd with rfl|rfl|rfl|rfl|rfl|rfl|rfl|rfl
 .exact Ey _ _
 .exact W! _ _
 .exact W! _ _
 .exact Ey _ _
 .exact W! _ _
 .exact W! _ _
 .rw[e1];show W! _ _
 .rw[e2];show oK _ λ d hd=>?_;let(p,_,rfl):=A03.mp hd;show Gm _ p
def uF(h:lQ d d=AC Da):oEq d d=.ok (.bl Da)/\o! d d=.ok (.bl AT):=⟨by unfold oEq;rw[h],by unfold o!;rw[h];rfl⟩
def aaW(h:∀x∈xs,ju x.1):o! (aw xs) (aw xs)=.ok (.bl AT):=by
 let:=oK _ λ d hd=>by let(y,hy,rfl):=A03.mp hd;show eqG<|h y hy
 show(uF (d:=aw xs) this).2
def aaV(xs:U GO):o! (aj xs) (aj xs)=.ok (.bl AT):=by
 let:allEq (iI 5) _ (xs.map λ x=>bY x.2)=AC Da:=oK _ λ d hd=>by
  let(y,hy,rfl):=A03.mp hd;cases y.2 with
  |none=>rfl
  |some p=>show Gm _ p
 show(uF (d:=aj xs) this).2
variable{j k x a:Nat}{g:G}
def DQ(nd:(nms xs).Nodup)(dr:∀x∈xs,Dr x.1)(hk:xs[k]?=AC y):aN [dk x hall (aw xs) hl ps,.str y.1.name]=.ok (.int<|k):=by
 let(h1,h2):=A09.mp hk;let sp:xs=xs.take k++y::xs.drop (k+1):=by rw[<-h2,C63,B80]
 let iS:(xs.take k).length=k:=by rw[A32];lia
 let e:aw xs=.tup ((xs.take k).map (λ x=>aF x.1)++aF y.1::(xs.drop<|k+1).map λ x=>aF x.1):=by rw[<-A06 (f:=λ x=>aF x.1) (a:=y),<-A27,<-sp];rfl
 rw[e];let r:=VR (x:=x) (hall:=hall) (hl:=hl) (ps:=ps) (dr y<|A25 hk).2.2 (by
  rw[<-A06,<-A27,<-sp];show DU xs) (λ d hd=>by
  let(q,hq,rfl):=A03.mp hd;intro eq;rw[sp]at nd;erw[A27]at nd;show(B76.mp nd).2.2 q.1.name (A03.mpr ⟨q,hq,rfl⟩) y.1.name A10 eq) rfl
 rw[A04,iS]at r;show r
def TZ(hk:m[k]?=AC z):aW (aj m) (.int<|k)=.ok (bY z.2):=by
 let e:(m.map λ x=>bY x.2)[k]?=AC (bY z.2):=by rw[A07,hk];rfl
 show(ft rfl e).1
def Pa(s:lD rows C xs m)(hk:xs[k]?=AC y):∃p,m[k]?=AC (y.1,AC p):=by
 let(o',e,_):=s.best.ext.at hk;cases o' with
 |none=>show(s.best.full k y.1 e).elim
 |some p=>show(p,e,)
def Qh(h:g.name∈nms xs):∃(k:Nat)(y:GO),xs[k]?=AC y/\y.1.name=g.name:=by let(y,hy,e):=A03.mp h;let(k,hk):=B07 hy;show(k,y,hk,e,)
def LM(s:lD rows C xs m):(xs.map λ x=>aF x.1).length<=6:=by rw[A04];show s.six
def CP(h:k<xs.n)(h6:xs.n<=6):d! [aw xs,.int (k)]=.ok (aw<|xs.eraseIdx k):=by let e:=tN (ds:=xs.map λ x=>aF x.1) (by rw[A04];show h) (by rw[A04];lia);unfold aw;rw[KB.oC];show e
def CO(h:k<xs.n)(h6:xs.n<=6):d! [aj xs,.int (k)]=.ok (aj<|xs.eraseIdx k):=by let e:=tN (ds:=xs.map λ x=>bY x.2) (by rw[A04];show h) (by rw[A04];lia);unfold aj;rw[KB.oC];show e
end iY
namespace iY
open Z KG
open KH
def BB(z:Int):∃a b,a∈aK/\b∈aK/\cQ [.int z]=.ok (.str [a,b]):=KM.BA z
def Lv(c:Int)(hn:n<=1000):∃ms:U Int,ms.n=n/\(∀m∈ms,0<=m/\m<2147483587)/\dm [.int c,.int n]=.ok (.lst<|ms.map .int):=KM.Lu c hn
def BS(hb:Bd ns):∃rows R C,jW C R rows/\1<=R/\R<=6/\1<=C/\C<=12/\jJ [.lst (ns.map .int)]=.ok (aS rows):=by
 let(f,ef,hf):=qo hb (k:=0) ∅;let(c1,ec1,_):=qo hb (k:=1) ∅;let hz:Szs [2,6,12,1000000000000000000000000000000000000000000000000000000000000]:=⟨by decide,by decide⟩
 let dg0:=mW hz f;erw[A06,A41,kj]at dg0;let(R,hR):=oB (z:=f / 2 % 6+1) ∅;let(C,hC):=oB (z:=f / 2 / 6 % 12+1) ∅;let hR1:1<=R/\R<=6:=by lia
 let YU:1<=C/\C<=12:=by lia
 let q1:bS (R) (C):=dP ∅ ∅;let hrc:R*C<=100:=A14 (A55 hR1.2 YU.2) ∅;obtain⟨N,aaf,hN⟩:∃N:Nat,(R:Int)*C=(N:Int)/\N=R*C:=⟨R*C,by push_cast;rfl,rfl⟩
 rw[<-hN]at hrc;let dg:=mW (OW hrc) c1;rw[List.map_replicate]at dg;let hg:N<=16777216:=by lia
 let(la,lb,hla,hlb,el):=BB (f / 2 / 6 / 12 % 1000000000000000000000000000000000000000000000000000000000000);let key:Ok (bc<|jo [v (.lst<|ns.map .int),Ch,Ch,Ch,Ch,Ch,Ch,Ch,Ch]) λ d=>∃rows R C,jW C R rows/\1<=R/\R<=6/\1<=C/\C<=12/\d=aS rows:=by
  show qN ?_;by_cases hm:f % 2=0
  .simp[jo,ef,ec1,line,dg0,u7,hR,hC,q1,Dv,aaf,hg,dg,hm];show⟨by lia,?_⟩;show oE ∅ (by simp;lia) ?_;intro d hd;obtain⟨R',rfl,YT⟩:∃R':Nat,d=.int R'/\1<=R'/\R'<=6:=by
    simp at hd;rcases hd with rfl|rfl|rfl|rfl|rfl|rfl
    all_goals first|show⟨1,rfl,by decide⟩|show⟨2,rfl,by decide⟩|show⟨3,rfl,by decide⟩|show⟨4,rfl,by decide⟩|show⟨6,rfl,by decide⟩
   show oE ∅ (by simp;lia) ?_;intro d hd;obtain⟨C',rfl,Ge⟩:∃C':Nat,d=.int C'/\1<=C'/\C'<=12:=by
    simp at hd;rcases hd with rfl|rfl|rfl|rfl|rfl|rfl|rfl|rfl|rfl|rfl|rfl|rfl
    all_goals first|show⟨1,rfl,by decide⟩|show⟨2,rfl,by decide⟩|show⟨3,rfl,by decide⟩|show⟨4,rfl,by decide⟩|show⟨5,rfl,by decide⟩|show⟨6,rfl,by decide⟩|show⟨7,rfl,by decide⟩|show⟨8,rfl,by decide⟩|show⟨12,rfl,by decide⟩
   let p1:bS (R':Int) (C':Int):=dP ∅ ∅;let prc:R'*C'<=100:=A14 (A55 YT.2 Ge.2) ∅;obtain⟨N',aeb,pN⟩:∃N:Nat,(R':Int)*C'=(N:Int)/\N=R'*C':=⟨R'*C',by push_cast;rfl,rfl⟩
   let(ms,hml,hmp,em):=Lv c1 (n:=N') ∅;let ae9:ms.n<=16777216:=by lia
   rw[el];simp[line,a!,eN,ec1,p1,aeb,em,ae9];show bF D.int (λ _=>Da) (λ x=>.int<|x / 3 % 9) (xs:=ms) (λ x hx=>?_) ?_
   .simp[bw]
   .rw[kW];let e1:ms.map (λ x=>D.int<|x / 3 % 9)=(ms.map λ x=>x / 3 % 9).map D.int:=by rw[A17];rfl
    rw[e1];obtain⟨nums,L9⟩:∃nums,nums=ms.map λ x=>x / 3 % 9:=(_,rfl,)
    rw[<-L9];let k46:46∈signs:=by decide
    let k61:61∈signs:=by decide
    let k35:35∈signs:=by decide
    show KM.uw (sg:=[46,46,46,46,46,61,35,la,lb]) (nums:=nums) (R:=R') (C:=C') ∅ (by simp[k46,k61,k35,pV hla,pV hlb]) ?_ (by simp[L9,hml,pN]) YT.2 Ge.2 rfl _ _ _ _ ?_
    .intro x hx;rw[L9]at hx;let(j,_,rfl):=A03.mp hx;simp;lia
    .intro rows x j!;simp[line];show(rows,R',C',j!,YT.1,YT.2,Ge.1,Ge.2,rfl,)
  .simp[jo,ef,ec1,line,dg0,u7,hR,hC,q1,Dv,aaf,hg,dg,hm];show⟨by lia,?_⟩;show KM.uw (sg:=signs) (nums:=kj c1 (Do N 29)) (R:=R) (C:=C) ∅ (λ c hc=>hc) ?_ (by rw[vt,A80];show hN) hR1.2 YU.2 rfl _ _ _ _ ?_
   .intro x hx;let:=Gv c1 _ 29 (λ s hs=>by rw[C59 hs];decide) x hx;rw[Hn];show this
   .intro rows x j!;simp[line];show(rows,R,C,j!,hR1.1,hR1.2,YU.1,YU.2,rfl,)
 let(d,e,rows,R',C',j!,r1,r2,c1',Y4,rfl):=key;show⟨rows,R',C',j!,r1,r2,c1',Y4,by rw[Ca];show e⟩
end iY
namespace iY
open Z
def D7(z:Int):Nat:=aK.getD (z % 26).toNat 0
def TV(z:Int):D7 z∈aK/\aW (.str aK) (.int<|z % 26)=.ok (.str [D7 z]):=by
 let h26:aK.n=26:=rfl;let hj:(z % 26).toNat<aK.n:=by lia
 let e:aK[(z % 26).toNat]?=AC (D7 z):=by unfold D7;rw[List.getD_eq_getElem?_getD,A05 hj];rfl
 show(A25 e,pY ∅ e ∅,)
def QB(h:D7 a=D7 b):a % 26=b % 26:=by
 let q:∀i<26,∀j<26,aK.getD i 0=aK.getD j 0->i=j:=by decide
 let:=q (a % 26).toNat ∅ (b % 26).toNat ∅ h;rw[<-Int.toNat_of_nonneg (B78 a (b:=26) ∅),this];show Int.toNat_of_nonneg (B78 b ∅)
def N!(c at' st:Int)(k j:Nat):Nat:=D7<|c / (400+30*(j:Int)*(j:Int))+st*(k:Int)*(if(j:Int)=at' then 1 else 0)
def zq(c:Int):∃nms:U (U Nat),nms.n=6/\nms.Nodup/\(∀n∈nms,KS.Jt n)/\iT [.int c,.int 6]=.ok (.lst<|nms.map .str):=by
 obtain⟨st,pZ,est⟩:∃s,s∈([1,3,5,7,9,11]:U Nat)/\aW (.lst [.int 1,.int 3,.int 5,.int 7,.int 9,.int 11]) (.int<|c / 64 % 6)=.ok (.int s):=by let(d,hd,e,_):=F9 (xs:=([1,3,5,7,9,11]:U Nat).map λ n=>D.int (n:Nat)) (i:=c / 64 % 6) ∅ (by simp;lia);let(s,hs,rfl):=A03.mp hd;show(s,hs,e,)
 obtain⟨n,hn,h1,h8⟩:∃n:Nat,1+c % 8=n/\1<=n/\n<=8:=by let(k,e):=Int.eq_ofNat_of_zero_le (B78 c (b:=8) ∅);let q:=B77 c (b:=8) ∅;rw[e]at q;show(1+k,by rw[e];rfl,Nat.le_add_right _ _,by lia,)
 let hn0:(0:Int)<n:=by lia
 let fd:∀j:Nat,j<8->iV (400+30*(j:Int)*(j:Int)):=by unfold iV;decide
 let f30:∀x,bS 30 x:=λ x=>dP ∅ ∅;let fj:∀x (j:Nat),j<100->bS x (j:Int):=λ x j hj=>gg ∅ ∅;let f0:∀x,bS x 0:=λ x=>gg ∅ ∅;let f1:∀x,bS x 1:=λ x=>gg ∅ ∅;obtain⟨a,ha⟩:∃a:Int,c / 8 % n=a:=(_,rfl,)
 let ha0:0<=a:=by rw[<-ha];show B78 _ ∅
 let han:a<n:=by rw[<-ha];show B77 _ hn0
 let:Ok (bc<|jM [v (.int c),v (.int 6),Ch,Ch,Ch,Ch,Ch,Ch,Ch,Ch,Ch]) λ d=>d=.lst ((FB 6).map λ k=>.str<|(FB n).map<|N! c a st k):=by
  show qN ?_;simp[jM,bw,hn,hn0,est,line,h1,ha];clear hn ha;show⟨by lia,?_⟩;show fR (λ i Y=>∃x7 x8 x9 UE,Y=[vi c,vi 6,vs aK,vi n,vi a,vi st,ow ((FB i).map λ k=>.str<|(FB n).map<|N! c a st k),x7,x8,x9,UE]) ⟨Ch,Ch,Ch,Ch,rfl⟩ ?_ ?_
  .rintro i d Y hd ⟨x7,x8,x9,UE,rfl⟩;let(hi,rfl):=F? hd;simp;show fR (λ j Y=>∃x9 UE,Y=[vi c,vi 6,vs aK,vi n,vi a,vi st,ow ((FB i).map λ k=>.str<|(FB n).map<|N! c a st k),vi (i:Nat),vs ((FB j).map<|N! c a st i),x9,UE]) ⟨_,_,rfl⟩ ?_ ?_
   .rintro j d Y hj ⟨x9,UE,rfl⟩;let(hj,rfl):=F? hj;let hj8:j<8:=by lia
    let(hq,eq):=TV (c / (400+30*(j:Int)*(j:Int))+st*(i:Int)*(if(j:Int)=a then 1 else 0));by_cases he:(j:Int)=a
    .rw[M2 he,B52]at eq;let ht:((j:Int)=a)=True:=eq_true he;simp[f0,f1,f30,fj _ j ∅,fj _ i ∅,fd j hj8,ht,pP,line,eq];simp[A85,N!,ht];lia
    .rw[W1 he,Int.mul_zero,Int.add_zero]at eq;simp[f0,f1,f30,fj _ j ∅,fj _ i ∅,fd j hj8,he,pP,line,eq];simp[A85,N!,he];lia
   .rintro Y ⟨x9,UE,rfl⟩;rw[gG];simp[line,A85];lia
  .rintro Y ⟨x7,x8,x9,UE,rfl⟩;rw[gG];simp
 let Wx:1<=st/\st<=11:=(by decide:∀s∈([1,3,5,7,9,11]:U Nat),1<=s/\s<=11) st pZ;rw[<-zR]at this;let(d,e,rfl):=this;let nk:∀k,KS.Jt ((FB n).map<|N! c a st k):=λ k=>⟨by simp;lia,by simp;lia,λ q hq=>by let(j,_,rfl):=A03.mp hq;show(TV _).1⟩
 show⟨(FB 6).map λ k=>(FB n).map<|N! c a st k,by simp,?_,λ q hq=>?_,by rw[e,A17];rfl⟩
 .refine List.pairwise_map.mpr<|List.Pairwise.imp_of_mem (λ {k k'} hk YQ (lt:k<k') z=>?_) C64;rw[A33]at hk YQ;let ha':a.v<n:=(Int.toNat_lt ha0).mpr han
  let g:∀k,((FB n).map<|N! c a st k)[a.v]?=AC (N! c a st k a.v):=λ k=>by rw[A07,ul ha'];rfl
  let z2:=(g k).symm.trans<|(A13 (λ l:U Nat=>l[a.v]?) z).trans<|g k';let z3:=QB<|f8 z2;let ea:((a.v:Nat):Int)=a:=Int.toNat_of_nonneg ha0
  rw[M2 ea]at z3;generalize c / (400+30*((a.v:Nat):Int)*((a.v:Nat):Int))=y at z3;erw[B52]at z3;let fin:∀s∈([1,3,5,7,9,11]:U Nat),∀k<6,∀k'<6,k<k'->(s*k) % 26≠(s*k') % 26:=by decide
  let:=fin st pZ k hk k' YQ lt;let e1:(st:Int)*(k:Int)=((st*k:Nat):Int):=by push_cast;rfl
  let e2:(st:Int)*(k':Int)=((st*k':Nat):Int):=by push_cast;rfl
  rw[e1,e2]at z3;generalize st*k=p at *;generalize st*k'=q at *;show this (Int.ofNat_inj.mp (Int.emod_add_cancel_left.mp z3))
 .let(k,_,rfl):=A03.mp hq;show nk k
end iY
namespace iY
open Z KG
open KH
def Mf(z:Int){nm:U Nat}(Ir:KS.Jt nm){a b:Nat}(ha:a∈aK)(hb:b∈aK):∃s:KS.Gp,KS.ia s/\s.nm=nm/\iU [.str nm,.int z,.str [a,b]]=.ok (KS.bU s):=by
 let(ms,hml,hmp,em):=Lv z (n:=9) ∅;let(m0,m1,m2,m3,m4,m5,m6,m7,m8,rfl):=KN.Qf hml;let i0:aW (.str [a,b]) (.int 0)=.ok (.str [a]):=pY (j:=0) rfl rfl (by simp[line]);let i1:aW (.str [a,b]) (.int 1)=.ok (.str [b]):=pY (j:=1) rfl rfl (by simp[line]);let n9:∀a b c d e f g i j,aW (.lst [a,b,c,d,e,f,g,i,j]) (.int 0)=.ok a/\aW (.lst [a,b,c,d,e,f,g,i,j]) (.int 1)=.ok b/\aW (.lst [a,b,c,d,e,f,g,i,j]) (.int 2)=.ok c/\aW (.lst [a,b,c,d,e,f,g,i,j]) (.int 3)=.ok d/\aW (.lst [a,b,c,d,e,f,g,i,j]) (.int 4)=.ok e/\aW (.lst [a,b,c,d,e,f,g,i,j]) (.int 5)=.ok f/\aW (.lst [a,b,c,d,e,f,g,i,j]) (.int 6)=.ok g/\aW (.lst [a,b,c,d,e,f,g,i,j]) (.int 7)=.ok i/\aW (.lst [a,b,c,d,e,f,g,i,j]) (.int 8)=.ok j:=λ _ _ _ _ _ _ _ _ _=>(rfl,rfl,rfl,rfl,rfl,rfl,rfl,rfl,rfl,)
 erw[A06,A41]at em;replace em:dm [.int z,.int 9]=.ok (.lst [.int m0,.int m1,.int m2,.int m3,.int m4,.int m5,.int m6,.int m7,.int m8]):=em;let fin:∀x0 x1 x2 x4 x5 x6 x7 x8 x9,Ok (dQ (aJ 11) (dB (tE<|eB oEq (eB oMod (eB oDiv (eX 3 7)<|eB aC (eI 3)<|eB fP (eI 2)<|eW 11)<|eI 4)<|eI 1) (cV 10<|cw<|aV 11<|ae (eB aC (eI 1)<|eB oMod (eB oDiv (eX 3 8)<|eB aC (eI 2)<|eW 11)<|eI 3) ah) aE) («zints» 0 6) [x0,x1,x2,v (.lst [.int m0,.int m1,.int m2,.int m3,.int m4,.int m5,.int m6,.int m7,.int m8]),x4,x5,x6,x7,x8,x9,ow [],Ch]) λ fl=>∃wl x,KS.CF 6 wl/\fl=.nx [x0,x1,x2,v (.lst [.int m0,.int m1,.int m2,.int m3,.int m4,.int m5,.int m6,.int m7,.int m8]),x4,x5,x6,x7,x8,x9,ow (wl.map KS.fg),x]:=by
  intro x0 x1 x2 x4 x5 x6 x7 x8 x9;show fR (λ i Y=>∃wl x,KS.CF i wl/\Y=[x0,x1,x2,v (.lst [.int m0,.int m1,.int m2,.int m3,.int m4,.int m5,.int m6,.int m7,.int m8]),x4,x5,x6,x7,x8,x9,ow (wl.map KS.fg),x]) ⟨[],Ch,⟨by simp,by simp,by simp⟩,rfl⟩ ?_ ?_
  .rintro j y Y hj ⟨wl,x,hl,rfl⟩;let(CI,rfl):=ints_get hj;let q1:bS 2 (j:Int):=dP ∅ ∅;let q2:iV (3+2*(j:Int)):=bw ∅ ∅;let q3:iV (2+(j:Int)):=bw ∅ ∅;let hll:wl.n<16777216:=by let:=hl.l;lia
   let(u,hu):=oB (z:=1+m8 / (2+(j:Int)) % 3) ∅;by_cases h:m7 / (3+2*(j:Int)) % 4=1
   .simp[line,n9,q1,q2,q3,h,hll];rw[hu];let hu4:u<4:=by lia
    show⟨wl++[(j,u)],hl.snoc ∅<|A19 hu4 ∅,by simp[KS.fg]⟩
   .simp[line,n9,q1,q2,h];show(wl,hl.next,rfl,)
  .rintro Y ⟨wl,x,hl,rfl⟩;show⟨wl,x,by calc hl,rfl⟩
 rw[zT];let:Ok (bc<|jN [v (.str nm),v (.int z),v (.str [a,b]),Ch,Ch,Ch,Ch,Ch,Ch,Ch,Ch,Ch]) λ x=>∃s,KS.ia s/\s.nm=nm/\x=KS.bU s:=by
  show qN ?_;simp[jN,bw,em,n9,line,i0,i1];show oE ∅ (by simp;lia) ?_;intro x hx;obtain⟨w,rfl,w1,w2⟩:∃d:Nat,x=.int d/\1<=d/\d<=12:=by
   simp at hx;rcases hx with rfl|rfl|rfl|rfl|rfl|rfl|rfl|rfl
   all_goals first|show⟨1,rfl,by decide,by decide⟩|show⟨2,rfl,by decide,by decide⟩|show⟨3,rfl,by decide,by decide⟩|show⟨4,rfl,by decide,by decide⟩
  show oE ∅ (by simp;lia) ?_;intro x hx;obtain⟨d,rfl,d1,d2⟩:∃d:Nat,x=.int d/\1<=d/\d<=3:=by
   simp at hx;rcases hx with rfl|rfl|rfl|rfl|rfl|rfl|rfl|rfl
   all_goals first|show⟨1,rfl,by decide,by decide⟩|show⟨2,rfl,by decide,by decide⟩|show⟨3,rfl,by decide,by decide⟩
  show oE ∅ (by simp;lia) ?_;intro x hx;obtain⟨kd,rfl,hkd⟩:∃kd,x=.str kd/\(kd=[]\/∃c∈aK,kd=[c]):=by
   simp at hx;rcases hx with rfl|rfl|rfl|rfl|rfl|rfl
   all_goals first|show([],rfl,.inl rfl,)|show(_,rfl,.inr ⟨_,ha,rfl⟩,)|show(_,rfl,.inr ⟨_,hb,rfl⟩,)
  show oE ∅ (by simp;lia) ?_;intro x hx;obtain⟨wz,rfl⟩:∃wd:Nat,x=.int wd:=by
   simp at hx;rcases hx with rfl|rfl|rfl|rfl|rfl|rfl
   all_goals first|show(0,rfl,)|show(1,rfl,)|show(2,rfl,)
  let p1:bS (w:Int) (d:Int):=dP ∅ ∅;obtain⟨wd,hwd,aab⟩:∃wd:Nat,min (wz:Int) ((w:Int)*d)=(wd:Int)/\wd<=w*d:=⟨min wz<|w*d,by
   let hN:((w*d:Nat):Int)=(w:Int)*d:=by push_cast;rfl
   rw[<-hN,mN!],Nat.min_le_right _ _⟩
  simp[p1,hwd];show oE ∅ (by simp;lia) ?_;intro x hx;obtain⟨gp,rfl,hgp⟩:∃gp:Nat,x=.int gp/\gp<=6:=by
   simp at hx;rcases hx with rfl|rfl|rfl|rfl|rfl|rfl|rfl|rfl
   all_goals first|show⟨0,rfl,by decide⟩|show⟨1,rfl,by decide⟩|show⟨2,rfl,by decide⟩|show⟨6,rfl,by decide⟩
  let p6:bS m6 100000000000000000000000000000000000000000000000000:=by let:=hmp m6 ∅;show dP ∅ ∅
  show(p6,?_,);rw[UQ];obtain⟨wt,hwt,hwb⟩:∃wt:Nat,(if m5 / 20 % 6=5 then D.int (m6*100000000000000000000000000000000000000000000000000)else D.int (m5 / 5 % 4))=.int (wt:Nat)/\wt<10^60:=by
   let h6:=hmp m6 ∅;by_cases h:m5 / 20 % 6=5
   .let(u,hu):=oB (z:=m6*100000000000000000000000000000000000000000000000000) ∅;let j?:u<2147483587*100000000000000000000000000000000000000000000000000:=by lia
    show⟨u,by rw[M2 h,hu],A19 j? ∅⟩
   .let(u,hu):=oB (z:=m5 / 5 % 4) ∅;let j?:u<4:=by lia
    show⟨u,by rw[W1 h,hu],A19 j? ∅⟩
  rw[hwt];simp;show(fin _ _ _ _ _ _ _ _ _).imp ?_;rintro fl ⟨wl,x,hl,rfl⟩;simp[line];show((nm,w,d,kd,wd,gp,wt,wl,),(Ir.1,Ir.2.1,Ir.2.2,w1,w2,d1,d2,hkd,aab,hgp,hwb,hl.l,λ p hp=>?_,hl.up,),rfl,rfl,);let(h1,h2,h3):=hl.r p hp;show⟨by lia,h2,h3⟩
 let(x,e,g,hg,hn,rfl):=this;show(g,hg,hn,e,)
def X9(z:Int){K:Nat}(h:0<K):∃u:Nat,z % (K)=(u)/\u<K:=by let(u,hu):=oB (z:=z % (K)) (B78 _ ∅);let:=B77 z (show(0)<(K:Int)by lia);show⟨u,hu,by lia⟩
def vq:∀(ss:U Nat)(c:Int),(∀s∈ss,0<s)->∃us:U Nat,us.n=ss.n/\kj c (ss.map Nat.cast)=us.map Nat.cast/\∀(i:Nat) s u,ss[i]?=AC s->us[i]?=AC u->u<s
|[],c,_=>⟨[],rfl,rfl,by simp⟩
|s::ss,c,h=>by
 let(u,hu,hb):=X9 c (h s A10);let(us,h1,h2,h3):=vq ss (c / s) λ z hz=>h z (A08 _ hz);show⟨u::us,by simp[h1],?_,λ i s' u'=>?_⟩
 .show c % s::kj (c / s) (ss.map _)=_;rw[hu,h2];rfl
 .cases i with
  |zero=>simp;rintro rfl rfl;show hb
  |succ i=>calc h3 i s' u'
def Yd(c:Int)(Ir:KS.Jt nm):∃s,KS.ia s/\s.nm=nm/\kR [.str nm,.int c]=.ok (KS.bU s):=by
 let(us,l6,ed,bd):=vq [12,3,27,7,64,37] c ∅;let dg:=mW (ss:=[12,3,27,7,64,37]) ⟨by decide,by decide⟩ c;rw[show kj c [12,3,27,7,64,37]=_ from ed]at dg;rcases us with _|⟨w,_|⟨d,_|⟨kd,_|⟨gp,_|⟨bt,_|⟨wz,_|_⟩⟩⟩⟩⟩⟩<;>simp at l6
 let w12:=bd 0 _ _ rfl rfl;let d3:=bd 1 _ _ rfl rfl;let k27:=bd 2 _ _ rfl rfl;let g7:=bd 3 _ _ rfl rfl;erw[A06,A41]at dg;obtain⟨M,hM,hM2⟩:∃M:Nat,((w:Int)+1)*((d:Int)+1)=(M:Int)/\M=(w+1)*(d+1):=⟨(w+1)*(d+1),by push_cast;rfl,rfl⟩
 let hM3:M<=36:=by rw[hM2];show A14 (A55 (by lia:w+1<=12) (by lia:d+1<=3)) ∅
 let(wd,hwd):=oB (z:=(wz:Int) % ((M:Int)+1)) (B78 _ ∅);let aab:wd<=M:=by let:=B77 (wz:Int) (show(0:Int)<(M:Int)+1 by lia);lia
 let q1:bS ((w:Int)+1) ((d:Int)+1):=dP ∅ ∅;let q3:(0:Int)<(M:Int)+1:=by lia
 let(vs,l7,ed2,bd2):=vq (10^60::Do 6 (10^60-1)) (c / 16111872) ∅;let dg2:=mW (ss:=(10^60::Do 6 (10^60-1):U Nat).map Nat.cast) ⟨by decide,by decide⟩<|c / 16111872;rw[ed2]at dg2;rcases vs with _|⟨u0,_|⟨u1,_|⟨u2,_|⟨u3,_|⟨u4,_|⟨u5,_|⟨u6,_|_⟩⟩⟩⟩⟩⟩⟩<;>simp at l7
 simp[Do]at dg2;obtain⟨kc,hkc,ekc⟩:∃kc∈aK,aW (.str aK) (.int<|(kd:Int)-1)=.ok (.str [kc]):=by
  by_cases h:kd=0
  .subst h;show⟨122,by decide,by simp[aW,xZ,aK,line,guard_pos]⟩
  .exact uR ∅ (by simp[aK];lia) ∅
 obtain⟨kx,hkx,ekx⟩:∃kx,(kx=[]\/∃c∈aK,kx=[c])/\aW (.lst [.str [],.str [kc]]) (.int<|if 0<kd then 1 else 0)=.ok (.str kx):=by
  by_cases h:0<kd
  .exact⟨[kc],.inr ⟨kc,hkc,rfl⟩,by rw[M2 h];rfl⟩
  .exact⟨[],.inl rfl,by rw[W1 h];rfl⟩
 rw[Er];let:Ok (bc<|m? [v (.str nm),v (.int c),Ch,Ch,Ch,Ch,Ch,Ch,Ch,Ch]) λ x=>x=KS.bU ⟨nm,w+1,d+1,kx,wd,gp,u0,((FB 6).filter λ i=>decide<|(bt:Int) / pw2 i % 2=1).map λ i=>(i,1+([u1,u2,u3,u4,u5,u6][i]?.getD 0))⟩:=by
  show qN ?_;simp[m?,line,D?,dg,u7,bw,q1,hM,q3,hwd,Dv,dg2,a!,eN,dA,ekc,ekx];let e6:«zints» 0 6=(FB 6).map λ i=>D.int ((i:Nat):Int):=by simp[«zints»]
  let i0:aW (.lst [.int (u0:Nat),.int (u1:Nat),.int (u2:Nat),.int (u3:Nat),.int (u4:Nat),.int (u5:Nat),.int (u6:Nat)]) (.int 0)=.ok (.int (u0:Nat)):=rfl;rw[e6];show bF (λ i=>D.int ((i:Nat):Int)) (λ i=>decide<|(bt:Int) / pw2 i % 2=1) (λ i=>KS.fg (i,1+([u1,u2,u3,u4,u5,u6][i]?.getD 0))) (λ i hi=>?_) ?_
  .let t2:∀a b c d e f,aW (.lst [a,b,c,d,e,f]) (.int 0)=.ok a/\aW (.lst [a,b,c,d,e,f]) (.int 1)=.ok b/\aW (.lst [a,b,c,d,e,f]) (.int 2)=.ok c/\aW (.lst [a,b,c,d,e,f]) (.int 3)=.ok d/\aW (.lst [a,b,c,d,e,f]) (.int 4)=.ok e/\aW (.lst [a,b,c,d,e,f]) (.int 5)=.ok f:=λ _ _ _ _ _ _=>(rfl,rfl,rfl,rfl,rfl,rfl,)
   let t7:∀o a b c d e f,aW (.lst [o,a,b,c,d,e,f]) (.int 1)=.ok a/\aW (.lst [o,a,b,c,d,e,f]) (.int 2)=.ok b/\aW (.lst [o,a,b,c,d,e,f]) (.int 3)=.ok c/\aW (.lst [o,a,b,c,d,e,f]) (.int 4)=.ok d/\aW (.lst [o,a,b,c,d,e,f]) (.int 5)=.ok e/\aW (.lst [o,a,b,c,d,e,f]) (.int 6)=.ok f:=λ _ _ _ _ _ _ _=>(rfl,rfl,rfl,rfl,rfl,rfl,)
   let hi:=A33.mp hi;obtain h|h|h|h|h|h:i=0\/i=1\/i=2\/i=3\/i=4\/i=5:=by lia
   all_goals subst h
   all_goals
    simp[line,bw,t2,t7,pw2,KS.fg]
    try (rw[A65];simp)
  .rw[i0];simp[KS.bU]
 let(x,e,rfl):=this;show(_,⟨Ir.1,Ir.2.1,Ir.2.2,by change 1<=w+1;lia,by change w+1<=12;lia,by change 1<=d+1;lia,by change d+1<=3;lia,hkx,by change wd<=(w+1)*(d+1);lia,by change gp<=6;lia,?_,?_,?_,?_⟩,rfl,e,)
 .exact bd2 0 _ _ rfl rfl
 .show(((FB 6).filter _).map _).length<=6;rw[A04];show A14 (A77 _ _) ∅
 .intro p hp;let(i,hi,rfl):=A03.mp hp;let hi:=A33.mp (A63.mp hi).1;show⟨by change i<=5;lia,by change 1<=1+_;lia,?_⟩;change 1+[u1,u2,u3,u4,u5,u6][i]?.getD 0<10^60;obtain⟨u,hu⟩:∃u,[u1,u2,u3,u4,u5,u6][i]?=AC u:=(_,A05 (by calc hi),)
  rw[hu];show Nat.add_lt_of_lt_sub'<|bd2 (i+1) _ u (by rw[C51,A52,M2 hi]) hu
 .show((((FB 6).filter _).map _).map _).Pairwise _;rw[A17];show List.pairwise_map.mpr<|(C64.filter _).imp λ h=>h
def CK(N:U (U Nat))(g:G):Prop:=Dr g/\(g.name∈N/\Ex g)/\∃s,KS.ia s/\aF g=KS.bU s
def _5(h:KS.Jt nm):KS.cR [.str nm]=.ok (.bl Da):=by
 rw[KS.FY nm (by let:=h.2.1;lia)];let:KS.xO nm=Da:=by simp[KS.xO,h.1,h.2.1];show h.2.2
 rw[this]
def more_le(r χ:Int):∀ws:U Pl,(∀p∈ws,0<=p.2/\p.2<χ)->0<=KB.more ws r/\KB.more ws r<=ws.n*χ
|[],_=>by simp[KB.more]
|p::ws,h=>by
 let(a,b):=more_le r χ ws λ q hq=>h q (A08 _ hq);let hp:=h p A10;unfold KB.more at *;rw[A22,Int.natCast_succ,Int.add_mul,Int.one_mul];by_cases c:p.1=r
 .rw[C57 (by simp[c]),A06,B39];lia
 .rw[C58 (by simp[c])];lia
def drawn(k:KS.ia s)(hn:s.nm∈N):∃g,KS.bU s=aF g/\CK N g:=by
 show((s.nm,s.w,s.d,s.kd,s.wi,s.ga,.int s.wo,.tup<|s.ws.map KS.fg,),rfl,(af0 k.w1 k.w2 k.d1 k.d2 k.kd k.wi k.ga ⟨(s.wo),s.ws.map λ p=>((p.1),(p.2)),by rw[A04];show k.wl,rfl,by rw[A17];rfl⟩,KS.BV k,_5 ⟨k.n1,k.n2,k.nl⟩,),⟨hn,by let:=k.n2;change s.nm.n<=9;lia,λ r=>?_⟩,s,k,rfl,);let e:KB.Zk (.tup<|s.ws.map KS.fg)=s.ws.map λ p=>((p.1:Int),(p.2:Int)):=by rw[<-KB.E!<|s.ws.map _,A17];rfl
 let(a,b):=more_le r (10^60) (s.ws.map λ p=>((p.1:Int),(p.2:Int))) λ p hp=>by let(q,hq,rfl):=A03.mp hp;let:=(k.wr q hq).2;show⟨Int.natCast_nonneg _,by let:=this.2;change(q.2:Int)<10^60;exact_mod_cast this⟩
 let wo:=k.wo;let wl:=k.wl;rw[A04]at b;let h2:(s.wo:Int)<10^60:=by exact_mod_cast wo
 let h3:(s.ws.n:Int)*10^60<=6*10^60:=C65 ∅ ∅;let h4:(10:Int)^62=100*10^60:=by decide
 change 0<=(s.wo:Int)+KB.more (KB.Zk<|.tup<|s.ws.map KS.fg) r/\(s.wo:Int)+KB.more (KB.Zk<|.tup<|s.ws.map KS.fg) r<10^62;rw[e,h4];generalize (10:Int)^60=χ at *;lia
def wM(hb:Bd ns){st:Int}(pZ:0<=st){nms N:U (U Nat)}(hl:nms.n<=12)(hN:∀n∈nms,n∈N/\KS.Jt n):∃gs:U G,gs.n=nms.n/\(∀g∈gs,CK N g)/\ic [.lst (ns.map .int),.int st,.lst (nms.map .str)]=.ok (.tup<|gs.map aF):=by
 let(f,ef,hf):=qo hb (k:=0) ∅;let(la,lb,hla,hlb,el):=BB (f / 144 % 1000000000000000000000000000000000000000000000000000000000000);let hlm:nms.n<=16777216:=by lia
 let:Ok (bc<|iX [v (.lst<|ns.map .int),v (.int st),v (.lst<|nms.map .str),Ch,Ch,Ch,Ch]) λ d=>∃gs:U G,gs.n=nms.n/\(∀g∈gs,CK N g)/\d=.tup (gs.map aF):=by
  show qN ?_;simp[iX,ef,bw,el,line,hlm];show fR (λ i Y=>∃gs x5 x6,gs.n=i/\(∀g∈gs,CK N g)/\Y=[v (.lst<|ns.map .int),v (.int st),v (.lst<|nms.map .str),vs [la,lb],ow (gs.map aF),x5,x6]) ⟨[],Ch,Ch,rfl,by simp,rfl⟩ ?_ ?_
  .rintro j d Y hj ⟨gs,x5,x6,Rj,hg,rfl⟩;let(CI,rfl):=ints_get hj;let(c,ec,_):=qo hb (k:=st+(j:Int)) ∅;obtain⟨nm,Ir⟩:∃nm,nms[j]?=AC nm:=(_,A05 CI,)
   let en:aW (.lst<|nms.map .str) (.int (j:Int))=.ok (.str nm):=(ft (j:=j) rfl (by simp[Ir])).2;let WN:gs.n<16777216:=by lia
   let q1:bS 7 (j:Int):=dP ∅ ∅;let q2:bS (7*(j:Int)) (j:Int):=gg ∅ ∅;by_cases h:f % 2=1/\c % 3>0
   .let(s,hs,hsn,eg):=Yd (c / 3) (hN nm<|A25 Ir).2;let(g,eG,hgg):=drawn hs (hsn▸(hN nm<|A25 Ir).1);rw[eG]at eg;simp[ef,ec,en,bw,h.1,h.2,eg,line,WN];show⟨gs++[g],by simp[Rj],?_,by simp⟩;intro y hy;rcases A34.mp hy with hy|hy
    .exact hg y hy
    .rw[A11]at hy;subst hy;show hgg
   .let(s,hs,hsn,eg):=Mf (c / 3+7*(j:Int)*(j:Int)) (hN nm<|A25 Ir).2 hla hlb;let(g,eG,hgg):=drawn hs (hsn▸(hN nm<|A25 Ir).1);rw[eG]at eg;let fin:∃W4:U G,W4.length=j+1/\(∀g∈W4,CK N g)/\gs.map aF++[aF g]=W4.map aF:=by
     show⟨gs++[g],by simp[Rj],?_,by simp⟩;intro y hy;rcases A34.mp hy with hy|hy
     .exact hg y hy
     .rw[A11]at hy;subst hy;show hgg
    by_cases h1:f % 2=1
    .let h2:¬0<c % 3:=λ h2=>h ⟨h1,h2⟩;simp[ef,ec,en,bw,h1,h2,eg,line,WN,q1,q2];show fin
    .simp[ef,ec,en,bw,h1,eg,line,WN,q1,q2];show fin
  .rintro Y ⟨gs,x5,x6,Rj,hg,rfl⟩;rw[gG]at Rj;simp;show(gs,Rj,hg,rfl,)
 rw[<-wZ]at this;let(d,e,gs,h1,h2,rfl):=this;show(gs,h1,h2,e,)
end iY
namespace iY
open Z
open KG (G GO Pl Rows Hall ju GOk aF bp bY aS places)
open KH (aw aj Good)
open KB (cM gw cJ lD E8 Ext Full)
def Q9{R L:Nat}{rows:Rows}(H:KA.Hall R L rows):pS gL [aS rows]=.ok [aS rows,.tup [],.tup [],.tup []]:=by
 let e:KA.g! [.tup (rows.map .str)]=.ok (.bl Da):=by
  let:=KA.Ed (.tup<|rows.map .str) λ xs e=>by ext e;show⟨by let:=H.len;let:=H.r2;simp;lia,λ x hx=>?_⟩;let(r,hr,rfl):=A03.mp hx;let hl:=H.each r hr;let:=H.l2;show λ cs e=>by ext e;lia
  rw[this];change Res.ok (D.bl<|KA.BU _)=_;rw[H.b]
 let e:KA.g! [aS rows]=.ok (.bl Da):=e;generalize aS rows=hh at *;show LC λ x=>?_;unfold gL;rw[fW _ _ _ _ _ rfl];let:mH (startB 2 [Da,AT] [gx x 0 [] [],hh])=.ok (.nx [AC (.bor<|gx x 0 cb [hh,.tup [],.tup [],.tup []]),v hh]):=by let s0:startB 2 [Da,AT] [gx x 0 [] [],hh]=[AC (.bor<|gx x 0 [] []),v hh]:=rfl;rw[s0];simp[mH,bJ,a5,nz,e,wA,gx,ZS.lLA,ZS.lLB,cb,bI,jv,lW,line,guard_pos]
 rw[this];rfl
def LD{d dd:D}(ha:a Y=.ok d)(hm:pS m [d]=.ok fs)(hT:jv [i] 0 (Y.set i<|some<|.bor<|.dct [] []))(hr:∀x,∃ts,r (Y.set i<|some<|.bor<|gx x 0 cb fs)=.ok (.rt dd ts)):y7 i m a r Y=.ok (.rt dd):=by unfold y7;rw[ha,Res.cW,hm,Res.cW,guard_pos hT];show SO λ x=>?_;let(ts,e):=hr x;rw[e];rfl
def DY(h1:a Y=.ok (.nx Y1))(h2:b Y1=r):bJ a b Y=r:=by unfold bJ;rw[h1];show h2
def ints_of:∀{l:U D},(∀d∈l,∃i,d=.int i)->∃cs:U Int,l=cs.map .int
|[],_=>([],rfl,)
|d::l,h=>by let(i,rfl):=h d A10;let(cs,rfl):=ints_of λ z hz=>h z (A08 _ hz);show(i::cs,rfl,)
end iY
namespace iY
open Z
abbrev yz:U Nat:=[97,115,107]
abbrev nD:U Nat:=[102,97,115,116]
abbrev nE:U Nat:=[97,119,97,121]
abbrev jQ:U Nat:=[119,104,101,114,101]
section
variable{x:Nat}{hall gs hl ps d p t v? iS pH:D}{n w:U Nat}{m:XN}
def KW(hw:w=yz\/w=nD\/w=nE\/w=jQ)(hn:n.n<=5000):nL (.str<|w++32::n) (.str [32])=.ok (.tup [.str w,.str [32],.str n]):=by
 let h:(w++32::n).length<=16777216:=by rcases hw with rfl|rfl|rfl|rfl<;>simp<;>lia
 let e:=KS.FK (c:=32) (a:=w) (b:=n) (by rcases hw with rfl|rfl|rfl|rfl<;>decide);erw[nL,line,guard_pos h,e]
def inW(hw:w=yz\/w=nD\/w=nE\/w=jQ):oz (.str w) (.tup [.str [97,115,107],.str [102,97,115,116],.str [97,119,97,121],.str [119,104,101,114,101]])=.ok (.bl AT):=by rcases hw with rfl|rfl|rfl|rfl<;>rfl
def Kl(hw:w=yz\/w=nD\/w=nE\/w=jQ):w++32::n≠[97,108,108]/\w++32::n≠[119,111,114,116,104]:=by rcases hw with rfl|rfl|rfl|rfl<;>simp
def yZ(hw:w=yz\/w=nD\/w=nE\/w=jQ)(hn:n.n<=5000)(h:cS [dk x hall gs hl ps,.str w,.str n]=.ok (d,[dk x hall v? iS pH])):cu [dk x hall gs hl ps,.str (w++32::n)]=.ok (d,[dk x hall v? iS pH]):=by let e:=KW hw hn;let i:=inW hw;let(n1,n2):=Kl (n:=n) hw;generalize w++32::n=r at *;let ty:dC .str (.str r)=Da:=rfl;let i0:aW (.tup [.str w,.str [32],.str n]) (.int 0)=.ok (.str w):=rfl;let i1:aW (.tup [.str w,.str [32],.str n]) (.int 1)=.ok (.str [32]):=rfl;let i2:aW (.tup [.str w,.str [32],.str n]) (.int 2)=.ok (.str n):=rfl;unfold cu;rw[fW _ _ _ _ _ rfl];let s0:startB 3 [Da,AT] [dk x hall gs hl ps,.str r]=[AC (.bor<|dk x hall gs hl ps),v (.str r),Ch]:=rfl;rw[s0];simp[lA,bJ,a5,qU,cO,ty,eqT,n1,n2,e,i,i0,i1,i2,h,eM,bI,jv,lW,line,guard_pos,gy,c8,dJ]
def pD(hw:w=yz\/w=nD\/w=nE\/w=jQ)(hn:n.n<=5000):fy [dk x hall gs hl ps,.str (w++32::n)]=cP [dk x hall gs hl ps,.str w,.str n]:=by let e:=KW hw hn;let i:=inW hw;let(n1,n2):=Kl (n:=n) hw;generalize w++32::n=r at *;let ty:dC .str (.str r)=Da:=rfl;let i0:aW (.tup [.str w,.str [32],.str n]) (.int 0)=.ok (.str w):=rfl;let i1:aW (.tup [.str w,.str [32],.str n]) (.int 1)=.ok (.str [32]):=rfl;let i2:aW (.tup [.str w,.str [32],.str n]) (.int 2)=.ok (.str n):=rfl;rw[p9];simp[il,cE,lK,iQ,bL,eM,ty,eqT,n1,n2,e,i,i0,i1,i2]
def qj:startB 3 [Da,AT,AT] [dk x hall gs hl ps,.str w,.str n]=[AC (.bor<|dk x hall gs hl ps),v (.str w),v (.str n)]:=rfl
def MP(h:bR [dk x hall gs hl ps,.str n]=.ok p)(hs:bA [p]=.ok d):cS [dk x hall gs hl ps,.str jQ,.str n]=.ok (d,[dk x hall gs hl ps]):=by unfold cS;rw[fW _ _ _ _ _ rfl,qj];simp[ky,bJ,a5,gR,qw,gi,eqT,h,hs,eM,bI,jv,lW,guard_pos,gy,c8,dJ]
def RT(h:d? [dk x hall gs hl ps,.str n]=.ok (d,[dk x hall v? iS pH])):cS [dk x hall gs hl ps,.str nD,.str n]=.ok (.str [111,107],[dk x hall v? iS pH]):=by unfold cS;rw[fW _ _ _ _ _ rfl,qj];simp[ky,bJ,a5,gR,qw,gi,Bz,cO,eqT,h,eM,bI,jv,lW,guard_pos,gy,c8,dJ]
def RU(h:d_ [dk x hall gs hl ps,.str n]=.ok (d,[dk x hall v? iS pH])):cS [dk x hall gs hl ps,.str nE,.str n]=.ok (.str [111,107],[dk x hall v? iS pH]):=by unfold cS;rw[fW _ _ _ _ _ rfl,qj];simp[ky,bJ,a5,gR,qw,gi,Bz,cO,eqT,h,eM,bI,jv,lW,guard_pos,gy,c8,dJ]
def sP{r:ε XN}(h:aD [dk x hall gs hl ps,.str n]=r):fU [dk x hall gs hl ps,.str n]=r:=by rw[u!];simp[jP,Ju,bL,eM,cb,h]
def EC(h:aD [dk x hall gs hl ps,.str n]=AC m):cP [dk x hall gs hl ps,.str jQ,.str n]=AC m:=by rw[fu];simp[d7,cE,lK,iQ,bL,eM,eqT,sP h]
def ED(h:aD [dk x hall gs hl ps,.str n]=Ch)(h1:bR [dk x hall gs hl ps,.str n]=.ok p)(hs:bA [p]=.ok d):cP [dk x hall gs hl ps,.str jQ,.str n]=Ch:=by rw[fu];simp[d7,cE,lK,iQ,bL,eM,eqT,sP h,h1,hs]
def W'(h:aD [dk x hall gs hl ps,.str n]=Ch)(h1:aN [dk x hall gs hl ps,.str n]=.ok p):cF [dk x hall gs hl ps,.str n]=Ch:=by rw[nT];simp[iO,cE,iQ,bL,eM,h,h1]
def IU(h:cF [dk x hall gs hl ps,.str n]=Ch):cP [dk x hall gs hl ps,.str nD,.str n]=Ch:=by rw[fu];simp[d7,cE,lK,iQ,bL,uv,eM,eqT,h]
def Lg{gl as bs:U D}{g:D}(e:KS.cR [.str n]=.ok (.bl Da))(h:∀d∈as++g::bs,Aj d)(hm:∀a∈as,lO a≠n)(hg:lO g=n):aD [dk x hall (.tup<|as++g::bs) hl ps,.str n]=Ch:=by rw[jh];let:=FT h hm hg (dk x hall (.tup<|as++g::bs) hl ps) 0 Ch Ch;rw[B01]at this;simp[eP,cE,iQ,e,eM,cb,F_,mi,line,this]
def uO{r:U Nat}:startB 3 [Da,AT] [dk x hall gs hl ps,.str r]=[AC (.bor<|dk x hall gs hl ps),v (.str r),Ch]:=rfl
def xE{w t:D}(h:bQ [dk x hall gs hl ps]=.ok w)(hs:dI w=.ok t):cu [dk x hall gs hl ps,.str [119,111,114,116,104]]=.ok (t,[dk x hall gs hl ps]):=by unfold cu;rw[fW _ _ _ _ _ rfl,uO];let ty:dC .str (.str [119,111,114,116,104])=Da:=rfl;simp[lA,bJ,a5,ty,eqT,h,hs,eM,bI,jv,lW,line,guard_pos,gy,c8,dJ]
def Fx{t:D}(h:bW [dk x hall gs hl ps]=.ok t):cu [dk x hall gs hl ps,.str [97,108,108]]=.ok (t,[dk x hall gs hl ps]):=by unfold cu;rw[fW _ _ _ _ _ rfl,uO];let ty:dC .str (.str [97,108,108])=Da:=rfl;simp[lA,bJ,a5,ty,eqT,h,eM,bI,jv,lW,line,guard_pos,gy,c8,dJ]
end
end iY
namespace iY
open Z
open KS (Gp ia bU fg aY cC cZ bC bh cD ba b! aL Ae ex0 ex1 ex2 YW ex4 ex5 ex6 ex7 gC bq)
abbrev gl(W:U (U Nat)):U Nat:=b9 [32] W
variable{g:Gp}{W V:U (U Nat)}{a b:U Nat}
def gv(a b:U Nat)(h:a.n+b.n<=10000):aC (.str a) (.str b)=.ok (.str<|a++b):=by
 let:a.n+b.n<=16777216:=by lia
 simp[line,this]
def tm:∀{W:U (U Nat)}(x:U Nat),W≠[]->gl (W++[x])=gl W++32::x
|[],_,h=>(h rfl).elim
|[y],x,_=>by simp[gl,b9]
|y::z::r,x,_=>by let:=tm (W:=z::r) x ∅;let e:gl (y::z::r++[x])=y++[32]++gl (z::r++[x]):=rfl;rw[e,this];let e:gl (y::z::r)=y++[32]++gl (z::r):=rfl;rw[e];simp
def Ek(h:W≠[])(a b:U Nat):gl (W++[a,b])=gl W++(32::(a++[32]))++b:=by
 let:W++[a,b]=(W++[a])++[b]:=by simp
 rw[this,tm b ∅,tm a h];simp
def Rp(h:W≠[])(p:Nat×Nat):gl (W++bh p)=gl W++[32,114,111,119,32]++aQ p.1++[32]++aQ p.2:=by
 let:W++bh p=(W++[Ae,aQ p.1])++[aQ p.2]:=by simp[bh]
 rw[this,tm _ ∅,Ek h];simp[Ae]
def mR(k:ia g)(e:W++V=aY g):(gl W).length<=4000:=by let h1:=KS.mK k;let h2:=KS.uZ W (m:=121) λ x hx=>KS.nZ k x (by rw[<-e];show A73 _ hx);rw[<-e,A23]at h1;let:W.n*122<=28*122:=B08 _ ∅;show A14 h2 ∅
def w1:SF:=(aO 1<|eB aC (eB aC (eB aC (eB aC (eX 0 0)<|eC<|.str [32])<|eU dI<|eX 0 1)<|eC<|.str [120])<|eU dI<|eX 0 2)
def w2:SF:=(dB (tE<|eB o! (eX 0 3)<|eC<|.str []) (aO 1<|eB aC (eB aC (eW 1)<|eC<|.str [32,107,105,110,100,32])<|eX 0 3) aE)
def wN(i:Nat)(key:U Nat):SF:=(dB (tE<|eB zk (eX 0 i)<|eI 0) (aO 1<|eB aC (eB aC (eW 1)<|eC<|.str<|32::(key++[32]))<|eU dI<|eX 0 i) aE)
def w6:SF:=(fm (cY<|eX 0 7) (e_ [2,3])<|aO 1<|eB aC (eB aC (eB aC (eB aC (eW 1)<|eC<|.str [32,114,111,119,32])<|eU dI<|eW 2)<|eC<|.str [32])<|eU dI<|eW 3)
def hw:jV=aB w1 (aB w2<|aB (wN 4 ba)<|aB (wN 5 b!)<|aB (wN 6 aL)<|aB w6<|aH<|eV 1):=rfl
abbrev we(g:Gp)(W:U (U Nat)):Env:=[v (bU g),vs (gl W),Ch,Ch]
def Zn(k:ia g):Ok (w1 [v (bU g),Ch,Ch,Ch]) λ fl=>fl=.nx (we g [g.nm,cC g]):=by
 let sw:=gC<|bq (n:=g.w) (by let:=k.w2;lia);let sd:=gC<|bq (n:=g.d) (by let:=k.d2;lia);let lw:=KS.cX (n:=g.w) ∅<|bq (by let:=k.w2;lia);let ld:=KS.cX (n:=g.d) ∅<|bq (by let:=k.d2;lia);let ln:=k.n2;let a1:=gv g.nm [32] (by simp;lia);let a2:=gv (g.nm++[32]) (aQ g.w) (by simp;lia);let a3:=gv (g.nm++[32]++aQ g.w) [120] (by simp;lia);let a4:=gv (g.nm++[32]++aQ g.w++[120]) (aQ g.d) (by simp;lia);let e:gl [g.nm,cC g]=g.nm++[32]++aQ g.w++[120]++aQ g.d:=by simp[gl,b9,cC]
 unfold we;rw[e];generalize g.nm++[32]++aQ g.w++[120]++aQ g.d=t4 at *;generalize g.nm++[32]++aQ g.w++[120]=t3 at *;generalize g.nm++[32]++aQ g.w=t2 at *;generalize g.nm++[32]=t1 at *;simp -implicitDefEqProofs [w1,ex0,ex1,ex2,sw,sd,a1,a2,a3,a4]
def Zm(k:ia g)(hl:(gl W).length<=4000)(hW:W≠[]):Ok (w2<|we g W) λ fl=>fl=.nx (we g<|W++cZ g.kd):=by
 by_cases h:g.kd=[]
 .simp -implicitDefEqProofs [w2,YW,h,cZ]
 .let kl:g.kd.n<=1:=by rcases k.kd with e|⟨c,_,e⟩<;>simp[e]
  let e:gl (W++cZ g.kd)=gl W++[32,107,105,110,100,32]++g.kd:=by rw[cZ,W1 h,Ek hW];rfl
  let a1:=gv (gl W) [32,107,105,110,100,32] (by simp;lia);let a2:=gv (gl W++[32,107,105,110,100,32]) g.kd (by simp;lia);unfold we;rw[e];generalize gl W++[32,107,105,110,100,32]++g.kd=t2 at *;generalize gl W++[32,107,105,110,100,32]=t1 at *;generalize gl W=t0 at *;let n:=KS.Qg g.kd;rw[A30 h]at n;simp -implicitDefEqProofs [w2,YW,n,a1,a2]
def JQ{key:U Nat}{n i:Nat}(hk:key.n<=10)(hn:n<10^60)(ei:aW (bU g) (.int i)=.ok (.int n))(hl:(gl W).length<=4000)(hW:W≠[]):Ok (wN i key<|we g W) λ fl=>fl=.nx (we g<|W++bC key n):=by
 by_cases h:0<n
 .let sn:=gC hn;let ln:=KS.cX (n:=n) ∅ hn;let e:gl (W++bC key n)=gl W++(32::(key++[32]))++aQ n:=by rw[bC,M2 h,Ek hW]
  let a1:=gv (gl W) (32::(key++[32])) (by simp;lia);let a2:=gv (gl W++(32::(key++[32]))) (aQ n) (by simp;lia);unfold we wN;rw[e];generalize gl W++(32::(key++[32]))++aQ n=t2 at *;generalize gl W++(32::(key++[32]))=t1 at *;generalize gl W=t0 at *;generalize 32::(key++[32])=kk at *;let gt:zk (.int n) (.int 0)=.ok (.bl Da):=by
   let:decide ((0:Int)<n)=Da:=by simpa using h
   simp[this];lia
  simp -implicitDefEqProofs [ei,gt,sn,a1,a2]
 .let gt:zk (.int n) (.int 0)=.ok (.bl AT):=by
   let:decide ((0:Int)<n)=AT:=by simpa using h
   simp[this];lia
  unfold wN;simp -implicitDefEqProofs [ei,gt,bC,h]
def Zl(k:ia g)(e:W++(g.ws.map bh).flatten=aY g)(hW:W≠[]):Ok (w6<|we g W) λ fl=>∃x2 x3,fl=.nx [v (bU g),vs (gl<|aY g),x2,x3]:=by
 unfold w6;let hi:cY (eX 0 7) (we g W)=.ok (g.ws.map fg):=by simp -implicitDefEqProofs [ex7]
 rw[fm,hi,Res.cW];show fR (λ i Y=>∃x2 x3,Y=[v (bU g),vs (gl<|W++((g.ws.take i).map bh).flatten),x2,x3]) ⟨Ch,Ch,by simp⟩ ?_ ?_
 .rintro j d Y hj ⟨x2,x3,rfl⟩;rw[A07]at hj;let(p,hp,rfl):=B31.mp hj;let(r1,r2,r3):=k.wr p (A25 hp);let s1:=gC<|bq (n:=p.1) ∅;let s2:=gC r3;let l1:=KS.cX (k:=60) (n:=p.1) ∅<|bq ∅;let l2:=KS.cX (k:=60) (n:=p.2) ∅ r3;let gX:∀Y:Env,e_ [2,3] (fg p) Y=.ok ((Y.set 2<|v<|.int p.1).set 3<|v<|.int p.2):=λ Y=>rfl;let ht:g.ws.take (j+1)=g.ws.take j++[p]:=by rw[B61,hp];rfl
  let hl:(gl<|W++((g.ws.take j).map bh).flatten).length<=4000:=mR k (V:=((g.ws.drop j).map bh).flatten) (by rw[A75,<-tz,<-A27,B80];show e)
  obtain⟨γ,hU⟩:∃γ,γ=W++((g.ws.take j).map bh).flatten:=(_,rfl,)
  let hn:W++((g.ws.take<|j+1).map bh).flatten=γ++bh p:=by rw[ht,hU];simp
  let hU0:γ≠[]:=by rw[hU];simp[hW]
  rw[hn,<-hU,Rp hU0];rw[<-hU]at hl;clear hU hn ht;let a1:=gv (gl γ) [32,114,111,119,32] (by simp;lia);let a2:=gv (gl γ++[32,114,111,119,32]) (aQ p.1) (by simp;lia);let a3:=gv (gl γ++[32,114,111,119,32]++aQ p.1) [32] (by simp;lia);let a4:=gv (gl γ++[32,114,111,119,32]++aQ p.1++[32]) (aQ p.2) (by simp;lia);generalize gl γ++[32,114,111,119,32]++aQ p.1++[32]++aQ p.2=t4 at *;generalize gl γ++[32,114,111,119,32]++aQ p.1++[32]=t3 at *;generalize gl γ++[32,114,111,119,32]++aQ p.1=t2 at *;generalize gl γ++[32,114,111,119,32]=t1 at *;generalize gl γ=t0 at *;simp -implicitDefEqProofs [gX,s1,s2,a1,a2,a3,a4]
 .rintro Y ⟨x2,x3,rfl⟩;rw[A04,B20,e];show(x2,x3,rfl,)
def CM(k:ia g):dS [bU g]=.ok (.str<|gl<|aY g):=by let p1:=mR (W:=[g.nm,cC g]) k (V:=cZ g.kd++(bC ba g.wi++(bC b! g.ga++(bC aL g.wo++(g.ws.map bh).flatten)))) (by simp[aY]);let p2:=mR (W:=[g.nm,cC g]++cZ g.kd) k (V:=bC ba g.wi++(bC b! g.ga++(bC aL g.wo++(g.ws.map bh).flatten))) (by simp[aY]);let p3:=mR (W:=[g.nm,cC g]++cZ g.kd++bC ba g.wi) k (V:=bC b! g.ga++(bC aL g.wo++(g.ws.map bh).flatten)) (by simp[aY]);let p4:=mR (W:=[g.nm,cC g]++cZ g.kd++bC ba g.wi++bC b! g.ga) k (V:=bC aL g.wo++(g.ws.map bh).flatten) (by simp[aY]);rw[vg,hw];show ay<|KS.fO (Zn k)<|KS.fO (Zm k p1 ∅)<|KS.fO (JQ ∅ (KS.E? k) ex4 p2 ∅)<|KS.fO (JQ ∅ (bq (by let:=k.ga;lia)) ex5 p3 ∅)<|KS.fO (JQ ∅ k.wo ex6 p4 ∅) ?_;rw[ur,tJ];show(Zl k (by simp[aY]) ∅).imp ?_;rintro fl ⟨x2,x3,rfl⟩;rw[sV];simp -implicitDefEqProofs
def CN(k:ia g):∃t:U Nat,(∃r,t=g.nm++32::r)/\t.n<=4000/\dS [bU g]=.ok (.str t)/\KS.cL [.str t]=.ok (bU g):=by show(gl<|aY g,?_,mR k (V:=[]) ∅,CM k,KS.Ph k,);show(gl<|cC g::(cZ g.kd++bC ba g.wi++bC b! g.ga++bC aL g.wo++(g.ws.map bh).flatten),?_,);simp[gl,aY,b9]
end iY
namespace iY
open Z
section
variable{x:Nat}{hall hl ps d p t v? iS pH g gs hs R:D}{n w r:U Nat}{m c:XN}{z:Int}
def Uq{gs hs:U D}{pH:D}{r:ε XN}(hg:KS.cq [g]=.ok (.bl Da))(e0:Aj g)(hn:∀g∈gs,Aj g)(hm:∀y∈gs,lO y≠lO g)(h5:gs.n<=5)(h5':hs.n<=5)(hb:KB.bu [hall,.tup (gs++[g]),.tup (hs++[.non])]=.ok pH)
 (hr:(lN pH=.ok (.bl AT)/\r=Ch)\/∃pp,pH=.non/\KC.iz [hall,.tup (gs++[g]),.tup (hs++[.non])]=.ok pp/\r=AC (Nu,[([112,97,112,101,114],pp)])):d6 [dk x hall (.tup gs) (.tup hs) ps,g]=r:=by
 let Y0:aW g (.int 0)=.ok (.str<|lO g):=e0;let Eh:=GJ hg e0 hn hm;let cg:=λ Y hρ=>uM hn Y hρ;let q0:gs.n<=16777216:=by lia
 let q1:gs.n<=16777215:=by lia
 let q2:hs.n<=16777215:=by lia
 let q3:decide (6<(gs.n:Int)+1)=AT:=A36 ∅;rw[p!];rcases hr with⟨hp,rfl⟩|⟨pp,rfl,hpp,rfl⟩
 .simp[iq,cE,lK,iQ,o?,hg,Y0,Eh,hb,hp,a!,fh,cg,q0,q1,q2,q3,eM,cb,line,guard_pos]
 .let hp:lN .non=.ok (.bl Da):=rfl;simp[iq,cE,lK,iQ,o?,hg,Y0,Eh,hb,hp,hpp,a!,fh,cg,q0,q1,q2,q3,eM,cb,line,guard_pos]
abbrev cTw:U Nat:=[84,119,105,99,101]
def Yb{gs hs:U D}(hg:KS.cq [g]=.ok (.bl Da))(e0:Aj g)(hn:∀g∈gs,Aj g)(hm:∃y∈gs,lO y=lO g)(h6:gs.n<=6):d6 [dk x hall (.tup gs) (.tup hs) ps,g]=AC (cTw,[]):=by
 let Y0:aW g (.int 0)=.ok (.str<|lO g):=e0;let Eh:Ap (.str<|lO g) (.lst<|gs.map λ g=>.str<|lO g)=.ok (.bl Da):=by let:=(BM (lO g)<|gs.map lO).1;rw[A17]at this;show this.trans ?_;let(y,hy,e):=hm;rw[A30<|A03.mpr ⟨y,hy,e⟩]
 let cg:=λ Y hρ=>uM hn Y hρ;let q0:gs.n<=16777216:=by lia
 rw[p!];simp[iq,cE,lK,iQ,qx,hg,Y0,Eh,a!,fh,cg,q0,eM,cb,line,guard_pos]
def Xh(hr:KS.cL [.str n]=.ok g)(h:fC [dk x hall gs hl ps,g]=.ok (p,[dk x hall v? iS pH]))(hs:bA [p]=.ok d):cS [dk x hall gs hl ps,.str yz,.str n]=.ok (d,[dk x hall v? iS pH]):=by unfold cS;rw[fW _ _ _ _ _ rfl,qj];simp[ky,bJ,a5,gR,qw,gi,qU,_P,vQ,CC,cO,eqT,hr,h,hs,eM,bI,jv,lW,guard_pos,gy,c8,dJ]
def vp{r:ε XN}(hr:KS.cL [.str n]=.ok g)(h:d6 [dk x hall gs hl ps,g]=r):cP [dk x hall gs hl ps,.str yz,.str n]=r:=by rw[fu];ext r<;>simp[d7,cE,lK,iQ,bL,eM,eqT,hr,h,vk]
def IW(h:cG [dk x hall gs hl ps,.str n]=Ch):cP [dk x hall gs hl ps,.str nE,.str n]=Ch:=by rw[fu];simp[d7,cE,lK,iQ,bL,uv,eM,eqT,h]
def IV(h:cG [dk x hall gs hl ps,.str n]=AC m):cP [dk x hall gs hl ps,.str nE,.str n]=AC m:=by rw[fu];simp[d7,cE,lK,iQ,bL,uv,eM,eqT,h]
def IT(h:cF [dk x hall gs hl ps,.str n]=AC m):cP [dk x hall gs hl ps,.str nD,.str n]=AC m:=by rw[fu];simp[d7,cE,lK,iQ,bL,uv,eM,eqT,h]
def X_(h:aD [dk x hall gs hl ps,.str n]=Ch)(h1:aN [dk x hall gs hl ps,.str n]=.ok p):cG [dk x hall gs hl ps,.str n]=Ch:=by rw[nU];simp[iP,cE,iQ,bL,eM,h,h1]
def ixO:aW (.lst [.str [111,107],.str []]) (.int 0)=.ok (.str [111,107]):=rfl
def Ws:aW (.lst [.str [102,97,115,116,32],.str [97,119,97,121,32],.str [119,104,101,114,101,32]]) (.int 0)=.ok (.str [102,97,115,116,32]):=rfl
def Wr:aW (.lst [.str [102,97,115,116,32],.str [97,119,97,121,32],.str [119,104,101,114,101,32]]) (.int 1)=.ok (.str [97,119,97,121,32]):=rfl
def Wq:aW (.lst [.str [102,97,115,116,32],.str [97,119,97,121,32],.str [119,104,101,114,101,32]]) (.int 2)=.ok (.str [119,104,101,114,101,32]):=rfl
def _4:aW (.lst [.str [97,108,108],.str [119,111,114,116,104]]) (.int 0)=.ok (.str [97,108,108]):=rfl
def _3:aW (.lst [.str [97,108,108],.str [119,111,114,116,104]]) (.int 1)=.ok (.str [119,111,114,116,104]):=rfl
def Pc{t:U Nat}(hw:dS [g]=.ok (.str t))(hl:t.n<=5000):dD [.int 0,g]=.ok (.str<|yz++32::t):=by
 rw[kT];show ay ?_;let q:4+t.n<=16777216:=by lia
 let a:aC (.str [97,115,107,32]) (.str t)=.ok (.str<|yz++32::t):=gv _ _ (by simp;lia);simp[gr,hw,a]
def j5(hz:(z=1/\w=nD)\/(z=2/\w=nE)\/(z=3/\w=jQ))(e0:aW g (.int 0)=.ok (.str n))(hl:n.n<=9):dD [.int z,g]=.ok (.str<|w++32::n):=by
 rw[kT];show ay ?_;rcases hz with⟨rfl,rfl⟩|⟨rfl,rfl⟩|⟨rfl,rfl⟩
 .let a:aC (.str [102,97,115,116,32]) (.str n)=.ok (.str<|nD++32::n):=gv _ _ (by simp;lia);simp[gr,e0,a,Ws,Wr,Wq,line]
 .let a:aC (.str [97,119,97,121,32]) (.str n)=.ok (.str<|nE++32::n):=gv _ _ (by simp;lia);simp[gr,e0,a,Ws,Wr,Wq,line]
 .let a:aC (.str [119,104,101,114,101,32]) (.str n)=.ok (.str<|jQ++32::n):=gv _ _ (by simp;lia);simp[gr,e0,a,Ws,Wr,Wq,line]
def Pd:dD [.int 4,g]=.ok (.str [97,108,108]):=by rw[kT];show ay ?_;simp[gr,_4,_3,line]
def Ht:dD [.int 5,g]=.ok (.str [119,111,114,116,104]):=by rw[kT];show ay ?_;simp[gr,_4,_3,line]
def hJ:startB 3 [Da,AT,AT] [dk x hall gs hl ps,.int z,g]=[AC (.bor<|dk x hall gs hl ps),v (.int z),v g]:=rfl
def MN(h:fC [dk x hall gs hl ps,g]=.ok (p,[dk x hall v? iS pH]))(hs:bT [p]=.ok d):br [dk x hall gs hl ps,.int 0,g]=.ok (d,[dk x hall v? iS pH]):=by unfold br;rw[fW _ _ _ _ _ rfl,hJ];simp[gb,bJ,a5,gR,qw,gi,qU,_P,vQ,CC,cO,h,hs,eM,bI,jv,lW,guard_pos,gy,c8,dJ]
def IQ(e0:aW g (.int 0)=.ok (.str n))(h:d? [dk x hall gs hl ps,.str n]=.ok (.non,[dk x hall v? iS pH])):br [dk x hall gs hl ps,.int 1,g]=.ok (.str [111,107],[dk x hall v? iS pH]):=by unfold br;rw[fW _ _ _ _ _ rfl,hJ];simp[gb,bJ,a5,gR,qw,gi,qU,mB,mU,mP,cO,e0,h,ixO,eM,bI,jv,lW,line,guard_pos,gy,c8,dJ]
def IS(e0:aW g (.int 0)=.ok (.str n))(h:d_ [dk x hall gs hl ps,.str n]=.ok (.non,[dk x hall v? iS pH])):br [dk x hall gs hl ps,.int 2,g]=.ok (.str [111,107],[dk x hall v? iS pH]):=by unfold br;rw[fW _ _ _ _ _ rfl,hJ];simp[gb,bJ,a5,gR,qw,gi,qU,mB,mU,mP,cO,e0,h,ixO,eM,bI,jv,lW,line,guard_pos,gy,c8,dJ]
def EB(e0:aW g (.int 0)=.ok (.str n))(h:bR [dk x hall gs hl ps,.str n]=.ok p)(hs:bT [p]=.ok d):br [dk x hall gs hl ps,.int 3,g]=.ok (d,[dk x hall gs hl ps]):=by unfold br;rw[fW _ _ _ _ _ rfl,hJ];simp[gb,bJ,a5,gR,qw,gi,e0,h,hs,eM,bI,jv,lW,guard_pos,gy,c8,dJ]
def MO(h:f? [dk x hall gs hl ps]=.ok d):br [dk x hall gs hl ps,.int 4,g]=.ok (d,[dk x hall gs hl ps]):=by unfold br;rw[fW _ _ _ _ _ rfl,hJ];simp[gb,bJ,a5,gR,qw,gi,h,eM,bI,jv,lW,guard_pos,gy,c8,dJ]
def EA(h:bQ [dk x hall gs hl ps]=.ok p)(hs:dI p=.ok d):br [dk x hall gs hl ps,.int 5,g]=.ok (d,[dk x hall gs hl ps]):=by unfold br;rw[fW _ _ _ _ _ rfl,hJ];simp[gb,bJ,a5,gR,qw,gi,h,hs,eM,bI,jv,lW,guard_pos,gy,c8,dJ]
def oM{r:ε XN}(h:d6 [dk x hall gs hl ps,g]=r):cm [dk x hall gs hl ps,.int 0,g]=r:=by rw[fJ];ext r<;>simp[dZ,cE,lK,iQ,bL,Ju,eM,h,vk]
def rY{r:ε XN}(e0:aW g (.int 0)=.ok (.str n))(h:cF [dk x hall gs hl ps,.str n]=r):cm [dk x hall gs hl ps,.int 1,g]=r:=by rw[fJ];ext r<;>simp[dZ,cE,lK,iQ,bL,Ju,eM,e0,h,vk,line]
def rZ{r:ε XN}(e0:aW g (.int 0)=.ok (.str n))(h:cG [dk x hall gs hl ps,.str n]=r):cm [dk x hall gs hl ps,.int 2,g]=r:=by rw[fJ];ext r<;>simp[dZ,cE,lK,iQ,bL,Ju,eM,e0,h,vk,line]
def zZ(e0:aW g (.int 0)=.ok (.str n))(h:aD [dk x hall gs hl ps,.str n]=Ch)(h1:bR [dk x hall gs hl ps,.str n]=.ok p)(hs:bT [p]=.ok d):cm [dk x hall gs hl ps,.int 3,g]=Ch:=by rw[fJ];simp[dZ,cE,lK,iQ,bL,Ju,eM,e0,sP h,h1,hs,line]
def zY(e0:aW g (.int 0)=.ok (.str n))(h:aD [dk x hall gs hl ps,.str n]=AC m):cm [dk x hall gs hl ps,.int 3,g]=AC m:=by rw[fJ];simp[dZ,cE,lK,iQ,bL,Ju,eM,e0,sP h,line]
def Gs(hz:z=4\/z=5):cm [dk x hall gs hl ps,.int z,g]=Ch:=by rw[fJ];rcases hz with rfl|rfl<;>simp[dZ,cE,lK,iQ,bL,Ju,eM,line]
def Kh(hw:r=[97,108,108]\/r=[119,111,114,116,104])(h:r=[97,108,108]->∃d,bW [dk x hall gs hl ps]=.ok d)(h':r=[119,111,114,116,104]->∃d e,bQ [dk x hall gs hl ps]=.ok d/\dI d=.ok e):fy [dk x hall gs hl ps,.str r]=Ch:=by
 let ty:dC .str (.str r)=Da:=rfl;rw[p9];rcases hw with rfl|rfl
 .let(d,e):=h rfl;simp[il,cE,lK,iQ,bL,eM,ty,eqT,e]
 .let(d,e,h1,h2):=h' rfl;simp[il,cE,lK,iQ,bL,eM,ty,eqT,h1,h2]
def Exc(c:XN)(R:D):Prop:=(c=(Nt,[])/\R=.lst [.str [110,111,32,110,97,109,101]])\/(c=(cTw,[])/\R=.lst [.str [116,119,105,99,101]])\/∃pp,c=(Nu,[([112,97,112,101,114],pp)])/\R=.lst [.str [102,117,108,108],.bl (dC .tuple pp)]
def kC{w g b:D}:startB 6 [Da,AT,AT,AT] [dk x hall gs hl ps,w,g,b]=[AC (.bor<|dk x hall gs hl ps),v w,v g,v b,Ch,Ch]:=rfl
def j3{w:D}(hr:dD [w,g]=.ok (.str r))(hx:fy [dk x hall gs hl ps,.str r]=Ch)(h:cu [dk x hall gs hl ps,.str r]=.ok (d,[dk x hall v? iS pH])):a7 [dk x hall gs hl ps,w,g,.bl Da]=.ok (d,[dk x hall v? iS pH]):=by unfold a7;rw[fW _ _ _ _ _ rfl,kC];simp[jn,bJ,a5,D6,gR,qw,wI,cO,lK,bL,hr,hx,h,eM,cb,bI,jv,lW,line,guard_pos,gy,c8,dJ]
def iZ{w:D}(hx:cm [dk x hall gs hl ps,w,g]=Ch)(h:br [dk x hall gs hl ps,w,g]=.ok (d,[dk x hall v? iS pH])):a7 [dk x hall gs hl ps,w,g,.bl AT]=.ok (d,[dk x hall v? iS pH]):=by unfold a7;rw[fW _ _ _ _ _ rfl,kC];simp[jn,bJ,a5,D6,gR,qw,wI,cO,lK,bL,hx,h,eM,cb,bI,jv,lW,line,guard_pos,gy,c8,dJ]
def i_{w:D}(hr:dD [w,g]=.ok (.str r))(hx:fy [dk x hall gs hl ps,.str r]=AC c)(hc:Exc c R):a7 [dk x hall gs hl ps,w,g,.bl Da]=.ok (R,[dk x hall gs hl ps]):=by unfold a7;rw[fW _ _ _ _ _ rfl,kC];rcases hc with⟨rfl,rfl⟩|⟨rfl,rfl⟩|⟨pp,rfl,rfl⟩<;>simp[jn,bJ,a5,D6,YS,YV,BL,NE,eXf,gR,qw,wI,cO,lK,bL,hr,hx,eM,cb,bI,jv,lW,line,guard_pos,gy,c8,dJ]
def ir{w:D}(hx:cm [dk x hall gs hl ps,w,g]=AC c)(hc:Exc c R):a7 [dk x hall gs hl ps,w,g,.bl AT]=.ok (R,[dk x hall gs hl ps]):=by unfold a7;rw[fW _ _ _ _ _ rfl,kC];rcases hc with⟨rfl,rfl⟩|⟨rfl,rfl⟩|⟨pp,rfl,rfl⟩<;>simp[jn,bJ,a5,D6,YS,YV,BL,NE,eXf,gR,qw,wI,cO,lK,bL,hx,eM,cb,bI,jv,lW,line,guard_pos,gy,c8,dJ]
end
end iY
namespace iY
open Z
open KG (G GO Pl Rows Hall ju GOk aF bp bY aS places b_)
open KH (aw aj Good)
open KB (cM gw cJ lD E8 Ext Full wS wO JR)
variable{rows:Rows}{C:Nat}{N:U (U Nat)}{xs m:U GO}{j k:Nat}{g:G}{y z:GO}{hall hl ps:D}{p:Pl}
def Ka(nd:(nms xs).Nodup)(hk:xs[k]?=AC y):∃as bs,aw xs=.tup (as++aF y.1::bs)/\(∀d∈as++aF y.1::bs,Aj d)/\∀d∈as,lO d≠y.1.name:=by
 let(h1,h2):=A09.mp hk;let sp:xs=xs.take k++y::xs.drop (k+1):=by rw[<-h2,C63,B80]
 let e:xs.map (λ x=>aF x.1)=(xs.take k).map (λ x=>aF x.1)++aF y.1::(xs.drop<|k+1).map λ x=>aF x.1:=by rw[<-A06 (f:=λ x:GO=>aF x.1) (a:=y),<-A27,<-sp]
 show⟨_,_,A13 D.tup e,by rw[<-e];show DU xs,λ d hd=>?_⟩;let(q,hq,rfl):=A03.mp hd;intro eq;rw[sp]at nd;erw[nms,A27,A06]at nd;show(B76.mp nd).2.2 q.1.name (A03.mpr ⟨q,hq,rfl⟩) y.1.name A10 eq
def uJ(nd:(nms xs).Nodup)(dr:∀x∈xs,Dr x.1)(hk:xs[k]?=AC y){x:Nat}:aD [dk x hall (aw xs) hl ps,.str y.1.name]=Ch:=by let(as,bs,e,h1,h2):=Ka nd hk;rw[e];show Lg (gl:=[]) (dr y<|A25 hk).2.2 h1 h2 rfl
abbrev pT(p:Pl):U Nat:=aQ p.1.toNat++[32]++aQ p.2.toNat
structure Us(p:Pl):Prop where
 l1:(aQ p.1.toNat).length<=100
 l2:(aQ p.2.toNat).length<=100
 t1:dI (.int p.1)=.ok (.str<|aQ p.1.toNat)
 t2:dI (.int p.2)=.ok (.str<|aQ p.2.toNat)
def sU(h1:0<=p.1)(h2:p.1<100)(h3:0<=p.2)(h4:p.2<100):Us p:=by let l1:=KS.cX (k:=2) (n:=p.1.toNat) ∅ ∅;let l2:=KS.cX (k:=2) (n:=p.2.toNat) ∅ ∅;let t1:=zj p.1.toNat ∅;let t2:=zj p.2.toNat ∅;rw[B25 (by assumption)]at t1 t2;show⟨by lia,by lia,t1,t2⟩
def Us.pl(s:Us p):bA [bp p]=.ok (.str<|pT p):=by
 let i0:aW (bp p) (.int 0)=.ok (.int p.1):=rfl;let i1:aW (bp p) (.int 1)=.ok (.int p.2):=rfl;let l1:=s.l1;let l2:=s.l2;let q1:(aQ p.1.toNat).length+1<=16777216:=by lia
 let q2:(aQ p.1.toNat).length+1+(aQ p.2.toNat).length<=16777216:=by lia
 let q3:(aQ p.1.toNat).length+(1+(aQ p.2.toNat).length)<=16777216:=by lia
 rw[wU];show ay ?_;simp[lg,i0,i1,s.t1,s.t2,line,q1,q2,q3]
def Us.law(s:Us p):bT [bp p]=.ok (.str<|pT p):=by
 let i0:aW (bp p) (.int 0)=.ok (.int p.1):=rfl;let i1:aW (bp p) (.int 1)=.ok (.int p.2):=rfl;let l1:=s.l1;let l2:=s.l2;let q1:(aQ p.1.toNat).length+1<=16777216:=by lia
 let q2:(aQ p.1.toNat).length+1+(aQ p.2.toNat).length<=16777216:=by lia
 let q3:(aQ p.1.toNat).length+(1+(aQ p.2.toNat).length)<=16777216:=by lia
 rw[zQ];show ay ?_;simp[mF,i0,i1,s.t1,s.t2,line,q1,q2,q3]
def Kp(H:Hall rows C)(s:lD rows C xs m)(hp:m[k]?=AC z)(e:z.2=AC p):0<=p.1/\p.1<100/\0<=p.2/\p.2<100:=by
 let(g,o):=z;ext e;let hx:GOk g:=by
  let:g∈xs.map (·.1):=by rw[s.best.ext.gs];show A03.mpr ⟨_,A25 hp,rfl⟩
  let(q,hq,rfl):=A03.mp this;show(s.T? q hq).toGOk
 let:=KG.xT.mp (A63.mp<|KB.B5 H hx (s.best.good k g p hp).1).1;let:=H.r2;let:=H.c2;lia
def txt(z:GO):U Nat:=z.1.name++[32]++match z.2 with
|some p=>pT p
|none=>[]
def _1{ts:U (U Nat)}(hl:ts.n<=6)(h:∀x∈ts,x.n<=1000):jd (.str [59,32]) (.lst<|ts.map .str)=.ok (.str<|b9 [59,32] ts):=by
 let h1:(ts.map List.n).sum<=ts.n*1000:=by
  clear hl
  induction ts with
  |nil=>simp
  |cons x r ih=>let:=ih λ y hy=>h y<|A08 _ hy;let:=h x A10;erw[A06,B39,A22];lia
 change(match ja _ with|some ts=>guard ((ts.map _).sum+ts.n*2<=line) _|none=>Res.bad)=_;rw[kD];simp only;rw[guard_pos];erw[line];lia
def item(H:Hall rows C)(i:I rows C N xs m)(z:GO)(hz:z∈m):∃p,z.2=AC p/\Us p/\z.1.name.length<=9:=by
 let(k,hk):=B07 hz;cases e:z.2 with
 |none=>show(i.s.best.full k z.1 (by rw[hk,<-e])).elim
 |some p=>
  let(r1,r2,r3,r4):=Kp H i.s hk e;show(p,rfl,sU r1 r2 r3 r4,?_,);let:z.1∈xs.map (·.1):=by rw[i.s.best.ext.gs];show A03.mpr ⟨_,hz,rfl⟩
  let(q,hq,e):=A03.mp this;rw[<-e];show(i.nm q hq).2.1
def Zb(i:I rows C N xs m):lJ (xs.map λ x=>aF x.1) (m.map λ x=>bY x.2)=m.map λ z=>.tup [aF z.1,bY z.2]:=by
 let:xs.map (λ x=>aF x.1)=m.map λ x=>aF x.1:=by let:=A13 (List.map aF) i.s.best.ext.gs;rw[A17,A17]at this;show this
 rw[this];show KB.zip_map _ _ _
def UP(H:Hall rows C)(i:I rows C N xs m)(e:EF)(he:∀z∈m,∀p,z.2=AC p->Us p->z.1.name.length<=9->e [v (aF z.1),v (bp p)]=.ok (.str<|z.1.name++[32]++pT p))(Y:Env)(hρ:Y.n=2):bV (e_ [0,1]) bM e Y (m.map λ z=>.tup [aF z.1,bY z.2])=.ok ((m.map txt).map .str):=by
 let:Ok (bV (e_ [0,1]) bM e Y<|m.map λ z=>.tup [aF z.1,bY z.2]) λ ds=>ds=(m.map txt).map .str:=by
  match Y,hρ with
  |[a,b],_=>show bF (λ z:GO=>.tup [aF z.1,bY z.2]) (λ _=>Da) (λ z=>.str<|txt z) (λ z hz=>?_) (by rw[A87.mpr λ _ _=>rfl,A17];rfl);let(p,e1,s,l):=item H i z hz;let gX:∀Y:Env,e_ [0,1] (.tup [aF z.1,bY z.2]) Y=.ok ((Y.set 0<|v<|aF z.1).set 1<|v<|bY z.2):=λ Y=>rfl;let q:=he z hz p e1 s l;rw[gX,e1];simp[txt,e1,bY,q]
 show this.eq
def LH(i:I rows C N xs m):m.n=xs.n:=i.s.best.ext.len.c
def aaI(H:Hall rows C)(i:I rows C N xs m):jd (.str [59,32]) (.lst<|(m.map txt).map .str)=.ok (.str<|b9 [59,32]<|m.map txt):=_1 (by rw[A04,LH i];show i.s.six) λ x hx=>by let(z,hz,rfl):=A03.mp hx;let(p,e1,s,l):=item H i z hz;let:=s.l1;let:=s.l2;simp[txt,e1];lia
def allT_K85?(m:U GO):U Nat:=if m=[]then[110,111,98,111,100,121]else b9 [59,32] (m.map txt)
def CD(H:Hall rows C)(i:I rows C N xs m)(b:ε L):∀(zs:U GO)(acc:U (U Nat))(x2 x3:ε L),(∀z∈zs,z∈m)->acc.n+zs.n<=100->∃Zj Zi,dQ (e_ [2,3]) (cV 1<|eB aC (eB aC (eX 2 0)<|eC<|.str [32])<|ai bT<|aV 3 ah) (zs.map λ z=>.tup [aF z.1,bY z.2]) [b,ow (acc.map .str),x2,x3]=.ok (.nx [b,ow ((acc++zs.map txt).map .str),Zj,Zi])
|[],acc,x2,x3,_,_=>⟨x2,x3,by simp[dQ]⟩
|z::zs,acc,x2,x3,hz,hl=>by
 rw[A22]at hl;let(p,e1,s,l):=item H i z (hz z A10);let(Zj,Zi,q):=CD H i b zs (acc++[txt z]) (v<|aF z.1) (v<|bp p) (λ y hy=>hz y<|A08 _ hy) (by simp;lia);show(Zj,Zi,?_,);let gX:∀Y:Env,e_ [2,3] (.tup [aF z.1,bY z.2]) Y=.ok ((Y.set 2<|v<|aF z.1).set 3<|v<|bY z.2):=λ Y=>rfl;let l1:=s.l1;let l2:=s.l2;let a1:=gv z.1.name [32] (by simp;lia);let a2:=gv (z.1.name++[32]) (pT p) (by simp;lia);let sp:=s.law;let et:txt z=z.1.name++[32]++pT p:=by simp[txt,e1]
 let q1:acc.n<16777216:=by lia
 let ea:acc++(z::zs).map txt=(acc++[txt z])++zs.map txt:=by simp
 rw[ea,<-q];let em:(acc++[txt z]).map D.str=acc.map D.str++[D.str (txt z)]:=by simp
 rw[em,A06];rw[<-et]at a2;let eo:bY z.2=bp p:=by rw[e1];rfl
 rw[eo]at gX;rw[eo];generalize txt z=R at *;generalize z.1.name++[32]=A at *;generalize pT p=T at *;simp[dQ,gX,Em,sp,a1,a2,q1,line]
def Ye(H:Hall rows C)(i:I rows C N xs m):(∀x:Nat,bW [dk x (aS rows) (aw xs) (aj xs) (aj m)]=.ok (.str<|allT_K85? m))/\∀x:Nat,f? [dk x (aS rows) (aw xs) (aj xs) (aj m)]=.ok (.str<|allT_K85? m):=by
 let ml:=LH i;let h6:=i.s.six;let q0:m.n<=16777216:=by lia
 let zm:=Zb i;let gk:=aaI H i;cases xs with
 |nil=>
  let:m=[]:=B17 ml;subst this;show(λ x=>?_,?_,)
  .generalize aS rows=hh at *;rw[ka];show ay ?_;let e:oEq (.tup []) (.tup [])=.ok (.bl Da):=rfl;simp[fZ,aw,eM,cb,e,allT_K85?,line]
  .generalize aS rows=hh at *;intro x;rw[vj];show ay ?_;let e:oEq (.tup []) (.tup [])=.ok (.bl Da):=rfl;let ha:=p7 (x:=x) (hall:=hh) (gs:=.tup []) (hl:=.tup []) (ps:=.tup []);simp[m_,aw,aj,eM,ha,e,allT_K85?,line]
 |cons y r=>
  let mn:m≠[]:=λ e=>by rw[e]at ml;ext ml
  let eA:allT_K85? m=b9 [59,32] (m.map txt):=W1 mn;rw[eA];let c1:=UP H i (eB aC (eB aC (eX 0 0)<|eC<|.str [32])<|ai bA<|aV 1 ah) λ z hz p e1 s l=>by let:=s.l1;let:=s.l2;let a1:=gv z.1.name [32] (by simp;lia);let a2:=gv (z.1.name++[32]) (pT p) (by simp;lia);let sp:=s.pl;generalize z.1.name++[32]++pT p=R at *;generalize z.1.name++[32]=A at *;generalize pT p=T at *;simp[Em,sp,a1,a2]
  show(λ x=>?_,?_,)
  .generalize aS rows=hh at *;rw[ka];show ay ?_;let e:oEq (.tup<|(y::r).map λ x=>aF x.1) (.tup [])=.ok (.bl AT):=rfl;let c1:=c1 [Ch,Ch] rfl;erw[aw,aj];generalize ((y::r).map λ x=>aF x.1)=G0 at *;generalize (m.map txt).map D.str=TS at *;simp[fZ,eM,cb,e,a!,fh,zm,c1,gk,q0,line]
  .intro x;let ha:=p7 (x:=x) (hall:=aS rows) (gs:=aw (y::r)) (hl:=aj (y::r)) (ps:=aj m);let hs:=oh (x:=x) (hall:=aS rows) (gs:=aw (y::r)) (hl:=aj (y::r)) (ps:=aj m);let(Zj,Zi,q):=CD H i (AC<|.bor<|dk x (aS rows) (aw<|y::r) (aj<|y::r)<|aj m) m [] Ch Ch (λ z hz=>hz) (by simp;lia);rw[B30]at q;rw[vj];show ay ?_;let e:oEq (aw<|y::r) (.tup [])=.ok (.bl AT):=rfl;let sg:∀xs:U D,UR (.tup xs)=.ok xs:=λ _=>rfl;let sq:∀xs:U D,U5 (.tup xs)=.ok xs:=λ _=>rfl;let e1:aw (y::r)=.tup ((y::r).map λ x=>aF x.1):=rfl;let e2:aj m=.tup (m.map λ x=>bY x.2):=rfl;let zi:∀Y:Env,Y[0]?=AC (AC<|.bor<|dk x (aS rows) (aw<|y::r) (aj<|y::r)<|aj m)->Ef (ai aP<|ae (eM 0 0) ah) (ai a_<|ae (eM 0 0) ah) Y=.ok (m.map λ z=>.tup [aF z.1,bY z.2]):=λ Y hρ=>by
    let em:eM 0 0 Y=.ok (dk x (aS rows) (aw<|y::r) (aj<|y::r)<|aj m):=by erw[eM,hρ];rfl
    let c1:ai aP (ae (eM 0 0) ah) Y=.ok (aw<|y::r):=by erw[ai,ae,ah,em,Res.cW];show ha
    let c2:ai a_ (ae (eM 0 0) ah) Y=.ok (aj m):=by erw[ai,ae,ah,em,Res.cW];show hs
    rw[Ef,c1,c2];change Res.ok (lJ ((y::r).map λ x=>aF x.1)<|m.map λ x=>bY x.2)=_;rw[zm]
   unfold m_;show KS.fO (Y1:=[AC (.bor<|dk x (aS rows) (aw<|y::r) (aj<|y::r)<|aj m),Ch,Ch,Ch]) (by simp[eM,ha,e]) ?_;show KS.fO (Y1:=[AC (.bor<|dk x (aS rows) (aw<|y::r) (aj<|y::r)<|aj m),ow [],Ch,Ch]) ∅ ?_;show KS.fO (Y1:=[AC (.bor<|dk x (aS rows) (aw<|y::r) (aj<|y::r)<|aj m),ow ((m.map txt).map .str),Zj,Zi]) ⟨_,by rw[fm,zi _ rfl];show q,rfl⟩ ?_;generalize (m.map txt).map D.str=TS at *;simp[gk]
def JP:∀{m:U GO},(∀z∈m,Ex z.1)->0<=wS m/\wS m<=m.n*10^62
|[],_=>by simp[wS]
|z::m,h=>by
 let(a,b):=JP λ y hy=>h y (A08 _ hy);let hz:0<=wO z/\wO z<=10^62:=by
  let(g,o):=z;cases o with
  |none=>show((by decide:(0:Int)<=0),(by decide:(0:Int)<=10^62),)
  |some p=>let:=(h _ A10).2 p.1;show(this.1,Int.le_of_lt this.2,)
 unfold wS at *;rw[A06,B39,A22,Int.natCast_succ,Int.add_mul,Int.one_mul];generalize (10:Int)^62=χ at *;lia
def GZ(i:I rows C N xs m):∃t:U Nat,dI (.int<|wS m)=.ok (.str t):=by
 let(a,b):=JP (m:=m) λ z hz=>by
  let:z.1∈xs.map (·.1):=by rw[i.s.best.ext.gs];show A03.mpr ⟨_,hz,rfl⟩
  let(q,hq,e):=A03.mp this;rw[<-e];show(i.nm q hq).2
 let h6:=i.s.six;rw[<-LH i]at h6;let:(m.n:Int)*10^62<=6*10^62:=C65 ∅ ∅;let h:wS m<10^70:=Int.lt_of_le_of_lt (Int.le_trans b this) ∅;let:=zj (wS m).toNat (by rw[B25 a];show h);rw[B25 a]at this;show(_,this,)
end iY
namespace iY
open Z
open KG (G GO Pl Rows Hall ju GOk aF bp bY aS places b_)
open KH (aw aj Good)
open KB (cM gw cJ lD E8 Ext Full wS wO JR)
variable{rows:Rows}{C:Nat}{N:U (U Nat)}{xs m:U GO}{j k:Nat}{g:G}{y:GO}{hall hl ps:D}{p:Pl}{z:Int}
def Tl(R:D):Prop:=(dC .str R||dC .list R)=Da/\o! R R=.ok (.bl AT)
def qF(t:U Nat):Tl (.str t):=(rfl,(uF (d:=.str t)<|Ey 6 t).2,)
def agb(n:Nat)(z:Bool):iI n (.bl z) (.bl z)=AC Da:=by
 let:iI n (.bl z) (.bl z)=AC (z==z):=by ext n<;>rfl
 rw[this,A54]
def C_{ds:U D}(h:∀d∈ds,iI 5 d d=AC Da):Tl (.lst ds):=(rfl,(uF (d:=.lst ds)<|oK ds h).2,)
def Dc{c:XN}{R:D}(h:Exc c R):Tl R:=by
 rcases h with⟨_,rfl⟩|⟨_,rfl⟩|⟨pp,_,rfl⟩
 .exact C_ λ d hd=>by rw[A11.mp hd];show Ey _ _
 .exact C_ λ d hd=>by rw[A11.mp hd];show Ey _ _
 .exact C_ λ d hd=>by
   rcases A01.mp hd with rfl|hd
   .exact Ey _ _
   .rw[A11.mp hd];show agb _ _
abbrev Yi(rows:Rows)(C:Nat)(N:U (U Nat))(xs m:U GO)(g:G)(z:Int):Prop:=
 ∃R jD m',I rows C N jD m'/\Tl R/\∀(x:Nat)(b:Bool),a7 [dk x (aS rows) (aw xs) (aj xs) (aj m),.int z,aF g,.bl b]=.ok (R,[dk x (aS rows) (aw jD) (aj jD) (aj m')])
def both{R:D}{jD m':U GO}(h1:∀x:Nat,a7 [dk x (aS rows) (aw xs) (aj xs) (aj m),.int z,aF g,.bl Da]=.ok (R,[dk x (aS rows) (aw jD) (aj jD) (aj m')]))(h2:∀x:Nat,a7 [dk x (aS rows) (aw xs) (aj xs) (aj m),.int z,aF g,.bl AT]=.ok (R,[dk x (aS rows) (aw jD) (aj jD) (aj m')])):∀(x:Nat)(b:Bool),a7 [dk x (aS rows) (aw xs) (aj xs) (aj m),.int z,aF g,.bl b]=.ok (R,[dk x (aS rows) (aw jD) (aj jD) (aj m')]):=λ x b=>by
 ext b
 .exact h2 x
 .exact h1 x
def kJ(h:CK N g):g.name.n<=9:=h.2.1.2.1
def pQ(h:CK N g):g.name.n<=5000:=by let:=kJ h;lia
def miss(h:g.name∉nms xs):∀y∈xs.map (λ x=>aF x.1),lO y≠lO (aF g):=λ y hy e=>by let(z,hz,rfl):=A03.mp hy;show h<|A03.mpr ⟨z,hz,e⟩
def OZ(i:I rows C N xs m)(dg:CK N g)(h:g.name∉nms xs)(hz:z=1\/z=2\/z=3):Yi rows C N xs m g z:=by
 let nx:=λ x:Nat=>_u (x:=x) (hall:=aS rows) (hl:=aj xs) (ps:=aj m) dg.1.2.2 (DU xs)<|miss h;let e0:aW (aF g) (.int 0)=.ok (.str g.name):=rfl;let ec:Exc (Nt,[]) _:=.inl ⟨rfl,rfl⟩;show(_,xs,m,i,Dc ec,?_,);rcases hz with rfl|rfl|rfl
 .exact both (λ x=>i_ (j5 (.inl ⟨rfl,rfl⟩) e0<|kJ dg) ((pD (.inr<|.inl rfl)<|pQ dg).trans<|IT<|Ms<|nx x) ec) λ x=>ir (rY e0<|Ms<|nx x) ec
 .exact both (λ x=>i_ (j5 (.inr<|.inl ⟨rfl,rfl⟩) e0<|kJ dg) ((pD (.inr<|.inr<|.inl rfl)<|pQ dg).trans<|IV<|NB<|nx x) ec) λ x=>ir (rZ e0<|NB<|nx x) ec
 .exact both (λ x=>i_ (j5 (.inr<|.inr ⟨rfl,rfl⟩) e0<|kJ dg) ((pD (.inr<|.inr<|.inr rfl)<|pQ dg).trans<|EC<|nx x) ec) λ x=>ir (zY e0<|nx x) ec
def step_ask(H:Hall rows C)(hN:N.n=6)(i:I rows C N xs m)(dg:CK N g)(big:lS rows C (xs.map (·.1)++[g])<=250):Yi rows C N xs m g 0:=by
 let(s,ks,es):=dg.2.2;let(t,(r,rfl),tl,tw,tr):=CN ks;rw[<-es]at tw tr;let Hs:=Pc tw ∅;let t5:(s.nm++32::r).length<=5000:=by lia
 by_cases h:g.name∈nms xs
 .let hm:∃y∈xs.map (λ x=>aF x.1),lO y=lO (aF g):=by let(y,hy,e):=A03.mp h;show(aF y.1,A03.mpr ⟨y,hy,rfl⟩,e,)
  let ax:=λ x:Nat=>Yb (x:=x) (hall:=aS rows) (hs:=xs.map λ x=>bY x.2) (ps:=aj m) dg.1.2.1 (uL g) (DU xs) hm<|LM i.s;let ec:Exc (cTw,[]) _:=.inr<|.inl ⟨rfl,rfl⟩;show(_,xs,m,i,Dc ec,both (λ x=>i_ Hs ((pD (.inl rfl) t5).trans<|vp tr<|ax x) ec) λ x=>ir (oM<|ax x) ec,)
 .let h5:xs.n<=5:=by
   let:=nO (g.name::nms xs) N (A44.mpr ⟨h,i.s.j⟩) λ y hy=>by
    rcases A01.mp hy with rfl|hy
    .exact dg.2.1.1
    .let(z,hz,rfl):=A03.mp hy;show(i.nm z hz).1
   simp[nms]at this;lia
  let hm:=miss h;let l5:(xs.map λ x=>aF x.1).length<=5:=by rw[A04];show h5
  let l5':(xs.map λ x=>bY x.2).length<=5:=by rw[A04];show h5
  let eg:aw (xs++[(g,Ch)])=.tup ((xs.map λ x=>aF x.1)++[aF g]):=by simp[aw]
  let eo:aj (xs++[(g,Ch)])=.tup ((xs.map λ x=>bY x.2)++[.non]):=by simp[aj,bY]
  let k6:(xs++[(g,Ch)]).length<=6:=by simp;lia
  let kg:∀y∈xs++[(g,Ch)],ju y.1:=λ y hy=>by
   rcases A34.mp hy with hy|hy
   .exact i.s.T? y hy
   .rw[A11.mp hy];show dg.1.1
  let ko:∀y∈xs++[(g,Ch)],GOk y.1:=λ y hy=>(kg y hy).toGOk;let kn:(nms<|xs++[(g,Ch)]).Nodup:=by
   erw[nms,A27,A06,A41];show B76.mpr ⟨i.s.j,by simp,λ a ha b hb e=>by rw[A11.mp hb]at e;show h<|e▸ha⟩
  let kgd:=Mg i.s.good g;let wl:cM rows C (xs++[(g,Ch)])<=250:=by show A14 (AG _) ?_;rw[A27];show big
  let w2:cM rows C (xs++[(g,Ch)])<=2000:=A14 wl ∅;let ef:=KB.ye H k6 ko kgd;rcases KB.GD H k6 kg kgd w2 ef with⟨e,b⟩|⟨m',b,bb⟩
  .let(pp,q):=KC.Bb H k6 ko kgd w2 ef e;rw[eg,eo]at b q;let ax:=λ x:Nat=>Uq (x:=x) (ps:=aj m) dg.1.2.1 (uL g) (DU xs) hm l5 l5' b<|.inr ⟨pp,rfl,q,rfl⟩;let ec:Exc (Nu,[([112,97,112,101,114],pp)]) _:=.inr<|.inr ⟨pp,rfl,rfl⟩;show(_,xs,m,i,Dc ec,both (λ x=>i_ Hs ((pD (.inl rfl) t5).trans<|vp tr<|ax x) ec) λ x=>ir (oM<|ax x) ec,)
  .let ml:m'.n=xs.n+1:=by let:=bb.ext.len;simp at this;lia
   let(p,hp):=ID bb.full (λ e=>by rw[e]at ml;simp at ml) ∅;let nn:lN (aj m')=.ok (.bl AT):=rfl;let i':I rows C N (xs++[(g,Ch)]) m':=by
    show((k6,kg,kn,wl,bb,),λ y hy=>?_,λ y hy=>?_,)
    .rcases A34.mp hy with hy|hy
     .exact i.dr y hy
     .rw[A11.mp hy];show dg.1
    .rcases A34.mp hy with hy|hy
     .exact i.nm y hy
     .rw[A11.mp hy];show dg.2.1
   obtain⟨q,eqp,sh⟩:∃q,bp p=bp q/\Us q:=by
    obtain⟨r0,y,rfl⟩:∃r y,m'=r++[y]:=(_,_,(C62 λ e=>by rw[e]at ml;simp at ml).symm,)
    let(q,e1,s,_):=item H i' y ∅;let e2:aW (aj<|r0++[y]) (.int<|-1)=.ok (bY y.2):=by unfold aj;rw[A27,A06,A41];show F5 _ _ (by rw[A04];simp at ml;lia)
    rw[e2,e1]at hp;show(q,(Res.ok.inj hp).symm,s,)
   rw[eqp]at hp;rw[eg,eo]at b;let ax:=λ x:Nat=>Uq (x:=x) (ps:=aj m) dg.1.2.1 (uL g) (DU xs) hm l5 l5' b<|.inl ⟨nn,rfl⟩;let ao:=λ x:Nat=>Yc (x:=x) (ps:=aj m) dg.1.2.1 (uL g) (DU xs) hm l5 l5' b nn hp;rw[<-eg,<-eo]at ao;show(_,xs++[(g,Ch)],m',i',qF _,both (λ x=>j3 Hs ((pD (.inl rfl) t5).trans<|vp tr<|ax x)<|yZ (.inl rfl) t5<|Xh tr (ao x) sh.pl) λ x=>iZ (oM<|ax x)<|MN (ao x) sh.law,)
def Hi(i:I rows C N xs m)(dg:CK N g)(hk:xs[k]?=AC y)(en:y.1.name=g.name)(hp:m[k]?=AC (y.1,AC p)):Yi rows C N xs m g 1:=by
 let nu:=λ x:Nat=>DQ (x:=x) (hall:=aS rows) (hl:=aj xs) (ps:=aj m) i.s.names i.dr hk;let nn:=λ x:Nat=>uJ (x:=x) (hall:=aS rows) (hl:=aj xs) (ps:=aj m) i.s.names i.dr hk;erw[en]at nu nn;let e0:aW (aF g) (.int 0)=.ok (.str g.name):=rfl;let px:=TZ hp;let wp:=(KB.tO i.s.six (g:=y.1) (o:=y.2) hk p).1;let eg:aw (xs.set k (y.1,AC p))=aw xs:=KH.yg hk<|some p;let fo:=λ x:Nat=>Rw (nu x) px wp;let fn:=λ x:Nat=>W' (nn x)<|nu x;let mem:∀z∈xs.set k (y.1,AC p),∃w∈xs,w.1=z.1:=λ z hz=>by
  rcases C61 hz with h|h
  .exact⟨z,h,rfl⟩
  .exact⟨y,A25 hk,by rw[h]⟩
 show(_,xs.set k (y.1,AC p),m,(i.s.fast hp,λ z hz=>?_,λ z hz=>?_,),qF [111,107],?_,)
 .let(w,hw,e):=mem z hz;rw[<-e];show i.dr w hw
 .let(w,hw,e):=mem z hz;rw[<-e];show i.nm w hw
 .rw[eg];intro x b;ext b
  .exact iZ (rY e0<|fn x)<|IQ e0<|fo x
  .exact j3 (j5 (.inl ⟨rfl,rfl⟩) e0<|kJ dg) ((pD (.inr<|.inl rfl)<|pQ dg).trans<|IU<|fn x)<|yZ (.inr<|.inl rfl) (pQ dg)<|RT<|fo x
def Hj(H:Hall rows C)(i:I rows C N xs m)(dg:CK N g)(hk:xs[k]?=AC y)(en:y.1.name=g.name):Yi rows C N xs m g 2:=by let(m',s',tl):=i.s.away H k;let kl:k<xs.n:=(A09.mp hk).1;let nu:=λ x:Nat=>DQ (x:=x) (hall:=aS rows) (hl:=aj xs) (ps:=aj m) i.s.names i.dr hk;let nn:=λ x:Nat=>uJ (x:=x) (hall:=aS rows) (hl:=aj xs) (ps:=aj m) i.s.names i.dr hk;erw[en]at nu nn;let e0:aW (aF g) (.int 0)=.ok (.str g.name):=rfl;let w1:=CP kl i.s.six;let w2:=CO kl i.s.six;let ao:=λ x:Nat=>SI (nu x) w1 w2 tl;let an:=λ x:Nat=>X_ (nn x)<|nu x;show(_,xs.eraseIdx k,m',(s',λ z hz=>i.dr z<|B81 hz,λ z hz=>i.nm z<|B81 hz,),qF [111,107],both (λ x=>j3 (j5 (.inr<|.inl ⟨rfl,rfl⟩) e0<|kJ dg) ((pD (.inr<|.inr<|.inl rfl)<|pQ dg).trans<|IW<|an x)<|yZ (.inr<|.inr<|.inl rfl) (pQ dg)<|RU<|ao x) λ x=>iZ (rZ e0<|an x)<|IS e0<|ao x,)
def Dh(H:Hall rows C)(i:I rows C N xs m)(dg:CK N g)(hk:xs[k]?=AC y)(en:y.1.name=g.name)(hp:m[k]?=AC (y.1,AC p)):Yi rows C N xs m g 3:=by let nu:=λ x:Nat=>DQ (x:=x) (hall:=aS rows) (hl:=aj xs) (ps:=aj m) i.s.names i.dr hk;let nn:=λ x:Nat=>uJ (x:=x) (hall:=aS rows) (hl:=aj xs) (ps:=aj m) i.s.names i.dr hk;erw[en]at nu nn;let e0:aW (aF g) (.int 0)=.ok (.str g.name):=rfl;let px:=TZ hp;let(r1,r2,r3,r4):=Kp H i.s hp rfl;let s:=sU r1 r2 r3 r4;let wo:=λ x:Nat=>JM (nu x) px;show(_,xs,m,i,qF<|pT p,both (λ x=>j3 (j5 (.inr<|.inr ⟨rfl,rfl⟩) e0<|kJ dg) ((pD (.inr<|.inr<|.inr rfl)<|pQ dg).trans<|ED (nn x) (wo x) s.pl)<|yZ (.inr<|.inr<|.inr rfl) (pQ dg)<|MP (wo x) s.pl) λ x=>iZ (zZ e0 (nn x) (wo x) s.law)<|EB e0 (wo x) s.law,)
def tells(H:Hall rows C)(i:I rows C N xs m):∃t t2:U Nat,dI (.int<|wS m)=.ok (.str t2)/\∀x:Nat,f? [dk x (aS rows) (aw xs) (aj xs) (aj m)]=.ok (.str t)/\bW [dk x (aS rows) (aw xs) (aj xs) (aj m)]=.ok (.str t)/\bQ [dk x (aS rows) (aw xs) (aj xs) (aj m)]=.ok (.int<|wS m):=by let(h1,h2):=Ye H i;let(t2,h3):=GZ i;let hw:KB.cn [aw xs,aj m]=.ok (.int<|wS m):=KB.tL i.s.six i.s.T? i.s.best.ext.gs.c;show(_,t2,h3,λ x=>(h2 x,h1 x,JK hw,),)
def Hh(H:Hall rows C)(i:I rows C N xs m)(hz:z=4\/z=5):Yi rows C N xs m g z:=by
 let(t,t2,h1,h2):=tells H i;rcases hz with rfl|rfl
 .exact⟨_,xs,m,i,qF t,both (λ x=>j3 Pd (Kh (.inl rfl) (λ _=>(_,(h2 x).2.1,)) λ e=>by ext e)<|Fx (h2 x).2.1) λ x=>iZ (Gs<|.inl rfl)<|MO (h2 x).1⟩
 .exact⟨_,xs,m,i,qF t2,both (λ x=>j3 Ht (Kh (.inr rfl) (λ e=>by ext e) λ _=>(_,_,(h2 x).2.2,h1,))<|xE (h2 x).2.2 h1) λ x=>iZ (Gs<|.inr rfl)<|EA (h2 x).2.2 h1⟩
def step(H:Hall rows C)(hN:N.n=6)(i:I rows C N xs m)(dg:CK N g)(h0:0<=z)(h5:z<=5)(big:z=0->lS rows C (xs.map (·.1)++[g])<=250):Yi rows C N xs m g z:=by
 by_cases z0:z=0
 .subst z0;show step_ask H hN i dg<|big rfl
 by_cases z4:4<=z
 .exact Hh H i ∅
 by_cases h:g.name∈nms xs
 .let(k,y,hk,en):=Qh h;let(p,hp):=Pa i.s hk;by_cases z1:z=1
  .subst z1;show Hi i dg hk en hp
  by_cases z2:z=2
  .subst z2;show Hj H i dg hk en
  obtain rfl:z=3:=by lia
  show Dh H i dg hk en hp
 .exact OZ i dg h ∅
end iY
namespace iY
open Z
open KG (G GO Pl Rows Hall ju GOk aF bp bY aS places b_)
open KH (aw aj Good)
open KB (cM gw cJ lD E8 Ext Full wS)
variable{rows:Rows}{C:Nat}{N:U (U Nat)}{xs m:U GO}{S X0 X2:D}
def Vo(l:ε L):Prop:=l=Ch\/∃d,l=v d
noncomputable abbrev lE(X0 hall X2 S DK DK2:D)(l6 l7 l8 l9:ε L):Env:=[v X0,v hall,v X2,v S,AC (.bor DK),AC (.bor DK2),l6,l7,l8,l9]
abbrev _X:SM:=a5 ([4]++[5])<|aO 7<|eB aW (eW 3)<|eB oMod (eB oDiv (eW 6)<|eI 8)<|eI 12
abbrev _W:SM:=a5 ([4]++[5])<|aO 8<|eB aW (eL<|a9<|aI 0<|aI 0<|aI 0<|aI 1<|aI 2<|aI 3<|aI 4<|aI 5 ah)<|eB oMod (eW 6)<|eI 8
abbrev lC1:SM:=wI 9<|cO a7 [Da,AT,AT,AT] [4]<|ae (eM 0 4)<|aV 8<|aV 7<|ae (eC<|.bl Da) ah
abbrev lC2:SM:=gR (Qn (_K<|mB o! (mP<|eV 9)<|cO a7 [Da,AT,AT,AT] [5]<|ae (eM 0 5)<|aV 8<|aV 7<|ae (eC<|.bl AT) ah)<|qw<|fN<|tE<|eU (qR .str .list)<|eW 9) (a5 ([4]++[5])<|aH<|eC<|.bl AT) gi
abbrev lC3:SM:=a5 ([4]++[5])<|dB (yQ (tE<|eB o! (ai aP<|ae (eM 0 4) ah)<|ai aP<|ae (eM 0 5) ah)<|tE<|eB o! (ai a_<|ae (eM 0 4) ah)<|ai a_<|ae (eM 0 5) ah) (aH<|eC<|.bl AT) aE
abbrev lT:TF:=yQ (tE<|eB zk (eW 8)<|eI 0)<|tE<|eB oLe (ai fB<|aV 1<|ae (eB aC (ai aP<|ae (eM 0 4) ah)<|cw<|aV 7 ah)<|ae (eC<|.dct [] []) ah)<|eI 250
abbrev _V:SM:=gR (qw lT) (bJ lC1<|bJ lC2 lC3) gi
abbrev lB:SM:=bJ _X<|bJ _W _V
def yc{ms:U Nat}{χ:SM}{Y Y':Env}{d:D}(hk:bI ms Y (Y.set 6<|v d))(hB:χ (Y.set 6<|v d)=.ok (.nx Y'))(r:U D):iH ms (aJ 6) χ (d::r) Y=iH ms (aJ 6) χ r Y':=by erw[iH,aJ,Res.cW,guard_pos hk,hB]
section
variable{DK DK' DJ DJ' hall gs ps g R:D}{gl:U D}{c z W:Int}{k0 k1 k2 k3:U (Sum Int<|U Nat)}{a0 a1 a2 a3:Int}{v0 v1 v2 v3:U D}{l6 l7 l8 l9:ε L}{b:Bool}
def adC(e0:DK=.dct (.inl a0::.inl 0::k0) v0)(hl:gl.n<=6)(h:aP [DK]=.ok (.tup gl))(hw:fB [hall,.tup (gl++[g]),.dct [] []]=.ok (.int W))(hb:b=(decide (0<z)||decide (W<=250))):lT (lE X0 hall X2 S DK DJ l6 (v g) (v<|.int z) l9)=.ok b:=by
 subst e0 hb;let q1:gl.n<=16777215:=by lia
 by_cases c:0<z
 .simp[lT,lE,c]
 .let c':decide (0<z)=AT:=A36 c;simp[lT,lE,c,h,hw,eM,q1,line]
def one(e0:DK=.dct (.inl a0::.inl 0::k0) v0)(e1:DK'=.dct (.inl a1::.inl 0::k1) v1)(e2:DJ=.dct (.inl a2::.inl 0::k2) v2)(e3:DJ'=.dct (.inl a3::.inl 0::k3) v3)(hS:aW S (.int<|c / 8 % 12)=.ok g)(hz:aW (.lst [.int 0,.int 0,.int 0,.int 1,.int 2,.int 3,.int 4,.int 5]) (.int<|c % 8)=.ok (.int z))(ht:∀l6 l9,lT (lE X0 hall X2 S DK DJ l6 (v g) (v<|.int z) l9)=.ok Da)(hd:a7 [DK,.int z,g,.bl Da]=.ok (R,[DK']))(hd2:a7 [DJ,.int z,g,.bl AT]=.ok (R,[DJ']))(tR:Tl R)(h1:aP [DK']=.ok gs)(h2:a_ [DK']=.ok ps)(h3:aP [DJ']=.ok gs)(h4:a_ [DJ']=.ok ps)(n1:o! gs gs=.ok (.bl AT))(n2:o! ps ps=.ok (.bl AT))(o6:Vo l6)(o7:Vo l7)(o8:Vo l8)(o9:Vo l9)(r:U D):iH ([4]++[5]) (aJ 6) lB (.int c::r) (lE X0 hall X2 S DK DJ l6 l7 l8 l9)=iH ([4]++[5]) (aJ 6) lB r (lE X0 hall X2 S DK' DJ' (v<|.int c) (v g) (v<|.int z)<|v R):=by
 subst e0 e1 e2 e3;let V:∀{l},Vo l->lW l=False:=λ {l} h=>by rcases h with rfl|⟨d,rfl⟩<;>simp[lW]
 let tB:∀d,lW (AC<|.bor d)=True:=λ _=>rfl;let tV:∀d,lW (AC<|.val d)=False:=λ _=>rfl;let i6:=V o6;let i7:=V o7;let i8:=V o8;let i9:=V o9;let(t1,t2):=tR;let t1:qR .str .list R=.ok (.bl Da):=by rw[qR,t1]
 let s1:_X (lE X0 hall X2 S (.dct (.inl a0::.inl 0::k0) v0) (.dct (.inl a2::.inl 0::k2) v2) (v<|.int c) l7 l8 l9)=.ok (.nx<|lE X0 hall X2 S (.dct (.inl a0::.inl 0::k0) v0) (.dct (.inl a2::.inl 0::k2) v2) (v<|.int c) (v g) l8 l9):=by simp[_X,lE,a5,hS,bw,bI,jv,tB,tV,i8,i9,guard_pos]
 let s2:_W (lE X0 hall X2 S (.dct (.inl a0::.inl 0::k0) v0) (.dct (.inl a2::.inl 0::k2) v2) (v<|.int c) (v g) l8 l9)=.ok (.nx<|lE X0 hall X2 S (.dct (.inl a0::.inl 0::k0) v0) (.dct (.inl a2::.inl 0::k2) v2) (v<|.int c) (v g) (v<|.int z) l9):=by simp[_W,lE,a5,hz,bw,bI,jv,tB,tV,i9,line,guard_pos]
 let s3:lC1 (lE X0 hall X2 S (.dct (.inl a0::.inl 0::k0) v0) (.dct (.inl a2::.inl 0::k2) v2) (v<|.int c) (v g) (v<|.int z) l9)=.ok (.nx<|lE X0 hall X2 S (.dct (.inl a1::.inl 0::k1) v1) (.dct (.inl a2::.inl 0::k2) v2) (v<|.int c) (v g) (v<|.int z)<|v R):=by simp[lC1,lE,wI,cO,hd,eM,guard_pos,c8,dJ]
 let s4:lC2 (lE X0 hall X2 S (.dct (.inl a1::.inl 0::k1) v1) (.dct (.inl a2::.inl 0::k2) v2) (v<|.int c) (v g) (v<|.int z)<|v R)=.ok (.nx<|lE X0 hall X2 S (.dct (.inl a1::.inl 0::k1) v1) (.dct (.inl a3::.inl 0::k3) v3) (v<|.int c) (v g) (v<|.int z)<|v R):=by simp -implicitDefEqProofs only[lC2,lE,gR,Qn,qw,_K,mB,mP,cO];simp[-qR,hd2,t2,t1,gi,eM,guard_pos,c8,dJ]
 let s5:lC3 (lE X0 hall X2 S (.dct (.inl a1::.inl 0::k1) v1) (.dct (.inl a3::.inl 0::k3) v3) (v<|.int c) (v g) (v<|.int z)<|v R)=.ok (.nx<|lE X0 hall X2 S (.dct (.inl a1::.inl 0::k1) v1) (.dct (.inl a3::.inl 0::k3) v3) (v<|.int c) (v g) (v<|.int z)<|v R):=by simp[lC3,lE,a5,h1,h2,h3,h4,n1,n2,eM,bI,jv,lW,guard_pos]
 let s6:_V (lE X0 hall X2 S (.dct (.inl a0::.inl 0::k0) v0) (.dct (.inl a2::.inl 0::k2) v2) (v<|.int c) (v g) (v<|.int z) l9)=.ok (.nx<|lE X0 hall X2 S (.dct (.inl a1::.inl 0::k1) v1) (.dct (.inl a3::.inl 0::k3) v3) (v<|.int c) (v g) (v<|.int z)<|v R):=by let:=DY s3<|DY s4 s5;unfold _V gR qw;rw[ht];show this
 show yc (by simp[lE,bI,jv,tB,tV,i6,i7,i8,i9]) (DY s1<|DY s2 s6) r
def skip(e0:DK=.dct (.inl a0::.inl 0::k0) v0)(e2:DJ=.dct (.inl a2::.inl 0::k2) v2)(hS:aW S (.int<|c / 8 % 12)=.ok g)(hz:aW (.lst [.int 0,.int 0,.int 0,.int 1,.int 2,.int 3,.int 4,.int 5]) (.int<|c % 8)=.ok (.int z))(ht:∀l6 l9,lT (lE X0 hall X2 S DK DJ l6 (v g) (v<|.int z) l9)=.ok AT)(o6:Vo l6)(o7:Vo l7)(o8:Vo l8)(o9:Vo l9)(r:U D):iH ([4]++[5]) (aJ 6) lB (.int c::r) (lE X0 hall X2 S DK DJ l6 l7 l8 l9)=iH ([4]++[5]) (aJ 6) lB r (lE X0 hall X2 S DK DJ (v<|.int c) (v g) (v<|.int z) l9):=by
 subst e0 e2;let V:∀{l},Vo l->lW l=False:=λ {l} h=>by rcases h with rfl|⟨d,rfl⟩<;>simp[lW]
 let tB:∀d,lW (AC<|.bor d)=True:=λ _=>rfl;let tV:∀d,lW (AC<|.val d)=False:=λ _=>rfl;let i6:=V o6;let i7:=V o7;let i8:=V o8;let i9:=V o9;let s1:_X (lE X0 hall X2 S (.dct (.inl a0::.inl 0::k0) v0) (.dct (.inl a2::.inl 0::k2) v2) (v<|.int c) l7 l8 l9)=.ok (.nx<|lE X0 hall X2 S (.dct (.inl a0::.inl 0::k0) v0) (.dct (.inl a2::.inl 0::k2) v2) (v<|.int c) (v g) l8 l9):=by simp[_X,lE,a5,hS,bw,bI,jv,tB,tV,i8,i9,guard_pos]
 let s2:_W (lE X0 hall X2 S (.dct (.inl a0::.inl 0::k0) v0) (.dct (.inl a2::.inl 0::k2) v2) (v<|.int c) (v g) l8 l9)=.ok (.nx<|lE X0 hall X2 S (.dct (.inl a0::.inl 0::k0) v0) (.dct (.inl a2::.inl 0::k2) v2) (v<|.int c) (v g) (v<|.int z) l9):=by simp[_W,lE,a5,hz,bw,bI,jv,tB,tV,i9,line,guard_pos]
 let s6:_V (lE X0 hall X2 S (.dct (.inl a0::.inl 0::k0) v0) (.dct (.inl a2::.inl 0::k2) v2) (v<|.int c) (v g) (v<|.int z) l9)=.ok (.nx<|lE X0 hall X2 S (.dct (.inl a0::.inl 0::k0) v0) (.dct (.inl a2::.inl 0::k2) v2) (v<|.int c) (v g) (v<|.int z) l9):=by unfold _V gR qw;rw[ht];rfl
 show yc (by simp[lE,bI,jv,tB,tV,i6,i7,i8,i9]) (DY s1<|DY s2 s6) r
end
def UG(c:Int):∃z:Int,0<=z/\z<=5/\aW (.lst [.int 0,.int 0,.int 0,.int 1,.int 2,.int 3,.int 4,.int 5]) (.int<|c % 8)=.ok (.int z):=by
 obtain⟨n,hn,hl⟩:∃n:Nat,c % 8=n/\n<8:=⟨(c % 8).toNat,by lia,by lia⟩
 rw[hn]
 match n,hl with
 |0,_=>show⟨0,by decide,by decide,rfl⟩
 |1,_=>show⟨0,by decide,by decide,rfl⟩
 |2,_=>show⟨0,by decide,by decide,rfl⟩
 |3,_=>show⟨1,by decide,by decide,rfl⟩
 |4,_=>show⟨2,by decide,by decide,rfl⟩
 |5,_=>show⟨3,by decide,by decide,rfl⟩
 |6,_=>show⟨4,by decide,by decide,rfl⟩
 |7,_=>show⟨5,by decide,by decide,rfl⟩
def Iz(H:Hall rows C)(i:I rows C N xs m){g:G}(dg:CK N g):fB [aS rows,.tup ((xs.map λ x=>aF x.1)++[aF g]),.dct [] []]=.ok (.int (lS rows C (xs.map (·.1)++[g]))):=by
 let:=JO H (xs.map (·.1)++[g]) λ y hy=>by
  rcases A34.mp hy with hy|hy
  .let(q,hq,rfl):=A03.mp hy;show(i.s.T? q hq).toGOk
  .rw[A11.mp hy];show dg.1.1.toGOk
 rw[A27,A17]at this;show this
def loop(H:Hall rows C)(hN:N.n=6)(hS:∀c:Int,∃g,CK N g/\aW S (.int<|c / 8 % 12)=.ok (aF g)):∀(cs:U Int)(xs m:U GO)(l6 l7 l8 l9:ε L),I rows C N xs m->Vo l6->Vo l7->Vo l8->Vo l9->∃jD m' Wf We Wd Wc,I rows C N jD m'/\∀x a:Nat,iH ([4]++[5]) (aJ 6) lB (cs.map .int) (lE X0 (aS rows) X2 S (dk x (aS rows) (aw xs) (aj xs)<|aj m) (dk a (aS rows) (aw xs) (aj xs)<|aj m) l6 l7 l8 l9)=.ok (.nx<|lE X0 (aS rows) X2 S (dk x (aS rows) (aw jD) (aj jD)<|aj m') (dk a (aS rows) (aw jD) (aj jD)<|aj m') Wf We Wd Wc)
|[],xs,m,l6,l7,l8,l9,i,_,_,_,_=>(xs,m,l6,l7,l8,l9,i,λ _ _=>rfl,)
|c::cs,xs,m,l6,l7,l8,l9,i,h6,h7,h8,h9=>by
 let(g,dg,eS):=hS c;let(z,z0,z5,ez):=UG c;let hw:=Iz H i dg;let tk:=λ(x a:Nat)(b:Bool)(hb:b=(decide (0<z)||decide (((lS rows C (xs.map (·.1)++[g]):Nat):Int)<=250)))(l6 l9:ε L)=>adC (X0:=X0) (X2:=X2) (S:=S) (DJ:=dk a (aS rows) (aw xs) (aj xs) (aj m)) (l6:=l6) (l9:=l9) (z:=z) (b:=b) (rfl:dk x (aS rows) (aw xs) (aj xs) (aj m)=_) (LM i.s) p7 hw hb;by_cases hb:0<z\/lS rows C (xs.map (·.1)++[g])<=250
 .let(R,jD,m',i',tR,e):=step H hN i dg z0 z5 λ e=>by rcases hb with h|h<;>lia
  let(xs2,m2,Wf,We,Wd,Wc,i2,q):=loop H hN hS cs jD m' (v<|.int c) (v<|aF g) (v<|.int z) (v R) i' (.inr ⟨_,rfl⟩) (.inr ⟨_,rfl⟩) (.inr ⟨_,rfl⟩) (.inr ⟨_,rfl⟩);let bt:Da=(decide (0<z)||decide (((lS rows C (xs.map (·.1)++[g]):Nat):Int)<=250)):=by
   rcases hb with h|h
   .rw[A30 h];rfl
   .rw[A30 (show((lS rows C (xs.map (·.1)++[g]):Nat):Int)<=250 by lia)];simp
  show(xs2,m2,Wf,We,Wd,Wc,i2,λ x a=>(one rfl rfl rfl rfl eS ez (λ l6 l9=>tk x a Da bt l6 l9) (e x Da) (e a AT) tR p7 oh p7 oh (aaW i'.s.T?) (aaV m') h6 h7 h8 h9 _).trans<|q x a,)
 .let Rk:¬0<z:=λ h=>hb<|.inl h;let hb2:¬((lS rows C (xs.map (·.1)++[g]):Nat):Int)<=250:=λ h=>hb<|.inr ∅;let bt:AT=(decide (0<z)||decide (((lS rows C (xs.map (·.1)++[g]):Nat):Int)<=250)):=by rw[A36 Rk,A36 hb2];rfl
  let(xs2,m2,Wf,We,Wd,Wc,i2,q):=loop H hN hS cs xs m (v<|.int c) (v<|aF g) (v<|.int z) l9 i (.inr ⟨_,rfl⟩) (.inr ⟨_,rfl⟩) (.inr ⟨_,rfl⟩) h9;show(xs2,m2,Wf,We,Wd,Wc,i2,λ x a=>(skip rfl rfl eS ez (λ l6 l9=>tk x a AT bt l6 l9) h6 h7 h8 h9 _).trans<|q x a,)
end iY
namespace iY
open Z
open KG (G GO Pl Rows Hall ju GOk aF bp bY aS places)
open KH (aw aj Good)
open KB (cM gw cJ lD E8 Ext Full wS)
def i0(rows:Rows)(C:Nat)(N:U _):I rows C N [] []:=⟨⟨by simp,by simp,by simp,by change 1<=250;decide,((rfl,λ i g p h=>(by ext h),),λ i g p h=>(by ext h),λ i g h=>(by ext h),)⟩,by simp,by simp⟩
def LG{d dd:D}{ts:U D}(ha:a Y=.ok d)(hm:pS m [d]=.ok fs)(hi:i∉ms)(hl:ts.n=ms.n)(h:∀x,∃t,r (Y.set i<|some<|.bor<|gx x 0 cb fs)=.ok (.rt dd<|ts++[t])):zA ms i m a r Y=.ok (.rt dd ts):=by unfold zA;rw[ha,Res.cW,hm,Res.cW,guard_pos hi];show allM_mk λ x=>?_;let(t,e):=h x;rw[e];change guard _ _=_;rw[guard_pos (by rw[A23,hl];rfl),<-hl,List.take_left' rfl]
def holds(ns:U Int)(hn:ns.n<=63)(hb:∀i∈ns,bits i<=2^20):q_ [.lst (ns.map .int)]=.ok (.bl Da):=by
 let χ:KG.Bd ns:=hb;let(rows,R,C,j!,r1,r2,c1,c2,eh):=BS χ;let H:Hall rows C:=(KG.aaD (by rw[j!.1];show r1) (by rw[j!.1];show r2) c1 c2 j!.2).toHall;let HA:KA.Hall R C rows:=(r1,r2,c1,c2,j!.1,λ x hx=>(j!.2 x hx).1,λ x hx=>(j!.2 x hx).2,)
 let(k2,e2,_):=KG.qo χ (k:=2) ∅;let(nms,hl6,nd,nok,en):=zq k2;let(gs,Rj,hgs,eg):=wM (N:=nms) χ (st:=3) ∅ (nms:=nms++nms) (by rw[A23];lia) λ n h=>by
  let:n∈nms:=by rcases A34.mp h with h|h<;>show h
  show(this,nok n this,)
 let hS:∀c:Int,∃g,CK nms g/\aW (.tup<|gs.map aF) (.int<|c / 8 % 12)=.ok (aF g):=λ c=>by
  let hj:(c / 8 % 12).toNat<gs.n:=by rw[Rj,A23];lia
  let h:=hgs _<|B15 hj;show(gs[(c / 8 % 12).toNat],h,(ft (j:=(c / 8 % 12).toNat) ∅ ?_).1,);rw[A07,A05 hj];rfl
 let hi:=Q9 HA;obtain⟨ms,hms⟩:∃ms:U Int,cut (ns.map D.int) (AC 15) (AC 26)=ms.map .int:=ints_of λ d hd=>by let:=F2 hd;let(i,_,rfl):=A03.mp this;show(i,rfl,)
 let hml:ms.n<=63:=by let:=kZ (ns.map D.int) (AC 15)<|some 26;rw[hms,A04,A04]at this;lia
 let(jD,m',Wf,We,Wd,Wc,i',lp):=loop (X0:=.lst (ns.map .int)) (X2:=.lst (nms.map .str)) (S:=.tup (gs.map aF)) H hl6 hS ([5,0,8,16,13]++ms) [] [] Ch Ch Ch Ch (i0 rows C nms) (.inl rfl) (.inl rfl) (.inl rfl) (.inl rfl);let(t,t2,a1,a2):=tells H i';let ad:Nm (.lst<|nms.map .str) (.lst<|nms.map .str)=.ok ((nms++nms).map .str):=by
  let:nms.n+nms.n<=16777216:=by lia
  simp[Nm,line,guard_pos,this]
 rw[A27]at eg ad;rw[W9];show ay ?_;unfold NA;show KS.fO (Y1:=[v (.lst<|ns.map .int),v (aS rows),Ch,Ch,Ch,Ch,Ch,Ch,Ch,Ch]) (by simp[eh]) ?_;show KS.fO (Y1:=[v (.lst<|ns.map .int),v (aS rows),v (.lst<|nms.map .str),Ch,Ch,Ch,Ch,Ch,Ch,Ch]) (by simp[e2,en]) ?_;show KS.fO (Y1:=[v (.lst<|ns.map .int),v (aS rows),v (.lst<|nms.map .str),v (.tup<|gs.map aF),Ch,Ch,Ch,Ch,Ch,Ch]) (by simp[D?,ad,eg]) ?_;show(.rt<|.bl Da,LD (d:=aS rows) ∅ hi (by simp[jv,lW]) λ x=>?_,rfl,);show([dk x (aS rows) (aw jD) (aj jD) (aj m')],LG (d:=aS rows) ∅ hi ∅ rfl λ a=>(dk a (aS rows) (aw jD) (aj jD)<|aj m',?_,),);show DY (Y1:=lE (.lst<|ns.map .int) (aS rows) (.lst<|nms.map .str) (.tup<|gs.map aF) (dk x (aS rows) (aw jD) (aj jD)<|aj m') (dk a (aS rows) (aw jD) (aj jD)<|aj m') Wf We Wd Wc) ?_ ?_
 .unfold V';let it:∀Y:Env,Y[0]?=AC (v<|.lst<|ns.map .int)->cY (eL<|Ig (eL<|a9<|aI 5<|aI 0<|aI 8<|aI 16<|aI 13 ah)<|eL<|LQ (eW 0) (qQ<|eI 15)<|qQ<|eI 26) Y=.ok (([5,0,8,16,13]++ms).map .int):=λ Y h=>by
   let q:5+ms.n<=16777216:=by lia
   simp[D?,h,hms,Nm,line,guard_pos,q,mi]
  rw[it _ rfl];show lp x a
 .let(w1,w2,w3):=a2 x;let(w1',w2',w3'):=a2 a;let y1:=Fx w2;let y2:=xE w3 a1;let eT:∀t:U Nat,oEq (.str t) (.str t)=.ok (.bl Da):=λ t=>(uF<|Ey 6 t).1;let e1:=eT t;let e2:=eT t2;generalize aw jD=G1 at *;generalize aj m'=M1 at *;generalize aj jD=σ1 at *;generalize aS rows=hh at *;simp[qU,V!,mB,mP,cO,lE,y1,y2,w1',w3',a1,e1,e2,eM,guard_pos,c8,dJ]
end iY
set_option maxRecDepth 100000
namespace iY
open PySem PySem.Spec PyProof.Rows L2 ZQ KG KH KB KC KA KS
def top(i:Nat):θ:=PySem.Challenge.pw_besideseats_k85_rows_as_deeds.main.body.getD i<|.Pass ⟨0,0,0,0⟩
abbrev rN(i j:Nat):θ:=ZS.clsAt (top i) j
def SG:bootBuiltins "bool"=AC (.type "bool"):=by kernel_rfl
def vM:bootBuiltins "int"=AC (.type "int"):=by kernel_rfl
def eF:bootBuiltins "isinstance"=AC (.builtin "isinstance"):=by kernel_rfl
def GG:bootBuiltins "list"=AC (.type "list"):=by kernel_rfl
def Nz:bootBuiltins "max"=AC (.builtin "max"):=by kernel_rfl
def Ny:bootBuiltins "min"=AC (.builtin "min"):=by kernel_rfl
def EU:bootBuiltins "str"=AC (.type "str"):=by kernel_rfl
def Nx:bootBuiltins "tuple"=AC (.type "tuple"):=by kernel_rfl
abbrev y6:θ:=top 67
def nH:aT ["groups","seatings"] ["groups","seatings"] (aa y6):=ZS.B1
abbrev uq:θ:=top 72
def lF:aT ["groups","places","seating","waiting","k","spots","papers"] ["groups","places","seating"] (aa uq):=ZS.B1
set_option genInjectivity false in
theorem _root_.Lake.zqx{α:Type}{p:α->Prop}{t}(h:p t):∃t,p t:=⟨t,h⟩
structure Fs(K:Db)(mg:Str->Option Value)(h:Heap)(cB y_ eO eD gc f7:Addr):Prop where
 X:K.In h
 G:h.Ns mainGlobals mg
 C6:cr K "is_whole" (top 12)
 pe:cr K "is_whole_within" (top 13)
 AV:cr K "is_letter" (top 14)
 G_:cr K "is_name" (top 30)
 Ha:cr K "is_kind" (top 31)
 AW:cr K "is_amount" (top 32)
 G!:cr K "is_wish" (top 33)
 yK:cr K "are_wishes" (top 34)
 qA:cr K "asks_for_seats" (top 35)
 C7:cr K "is_group" (top 36)
 CW:cr K "worth_in" (top 37)
 G?:cr K "is_sign" (top 41)
 JT:cr K "is_row" (top 42)
 Hb:cr K "is_hall" (top 43)
 G7:cr K "sign_at" (top 44)
 OM:cr K "takes" (top 46)
 CZ:cr K "seats_of" (top 47)
 UN:cr K "fits" (top 48)
 AN:cr K "places_of" (top 49)
 OO:cr K "apart" (top 51)
 qz:cr K "those_that_sit" (top 52)
 qB:cr K "apart_from_all" (top 53)
 ON:cr K "keeps" (top 54)
 CV:cr K "worth_of" (top 55)
 t9:cr K "fast_seating" (top 58)
 UM:ZS.qt K "ways" (top 59)
 wc:cr K "small_start" (top 60)
 yC:cr K "with_place" (top 61)
 yG:cr K "open_among" (top 62)
 sf:cr K "with_one_more" (top 63)
 sj:cr K "seatings_from" (top 64)
 t8:ZS.qt K "first_of_all" (top 65)
 ph:ZS.vU K "best_among" (top 67)
 wq:ZS.qt K "best_of_all" (top 68)
 yL:cr K "all_places" (top 70)
 CY:cr K "spots_of" (top 71)
 i?:ZS.vU K "paper_beside" (top 72)
 C1:ZS.qt K "paper_of" (top 73)
 yE:cr K "show_group" (top 77)
 AO:cr K "number_in" (top 78)
 AM:cr K "wishes_in" (top 79)
 C8:cr K "group_in" (top 80)
 yF:cr K "read_group" (top 81)
 G6:cr K "without" (top 85)
 yD:cr K "show_place" (top 86)
 AY:lc K cB "__init__" "Desk.__init__" (rN 87 0)
 jZ:lc K cB "number_of" "Desk.number_of" (rN 87 1)
 ua:lc K cB "ask" "Desk.ask" (rN 87 2)
 rD:lc K cB "fast" "Desk.fast" (rN 87 3)
 rE:lc K cB "away" "Desk.away" (rN 87 4)
 pj:lc K cB "where" "Desk.where" (rN 87 5)
 t_:lc K cB "at_hand" "Desk.at_hand" (rN 87 6)
 t!:lc K cB "seating" "Desk.seating" (rN 87 7)
 yM:lc K cB "worth" "Desk.worth" (rN 87 8)
 sk:lc K cB "show_all" "Desk.show_all" (rN 87 9)
 xt:lc K cB "do" "Desk.do" (rN 87 11)
 t?:lc K cB "say" "Desk.say" (rN 87 10)
 wm:cr K "_law_cell_at" (top 89)
 AS:cr K "_law_mixed" (top 90)
 yJ:cr K "_law_digits" (top 91)
 AR:cr K "_law_names" (top 92)
 wj:cr K "_law_letters" (top 93)
 C5:cr K "_law_hall" (top 94)
 G9:cr K "_law_any" (top 95)
 AU:cr K "_law_group" (top 96)
 yI:cr K "_law_groups" (top 97)
 yH:cr K "_law_places" (top 98)
 C3:cr K "_law_ways" (top 99)
 wg:cr K "_law_written" (top 100)
 AQ:cr K "_law_place" (top 101)
 G':cr K "_law_all" (top 102)
 t6:cr K "_law_done" (top 103)
 G8:cr K "_law_row" (top 104)
 C4:cr K "_law_told" (top 105)
 Zq:cr K "law" (top 106)
 _I:FM K mainGlobals "all"=AC Ch
 VY:FM K mainGlobals "bool"=AC Ch
 Bs:FM K mainGlobals "enumerate"=AC Ch
 _H:FM K mainGlobals "int"=AC Ch
 zr:FM K mainGlobals "isinstance"=AC Ch
 _G:FM K mainGlobals "len"=AC Ch
 VX:FM K mainGlobals "list"=AC Ch
 _F:FM K mainGlobals "max"=AC Ch
 _E:FM K mainGlobals "min"=AC Ch
 Qj:FM K mainGlobals "range"=AC Ch
 _D:FM K mainGlobals "str"=AC Ch
 _C:FM K mainGlobals "sum"=AC Ch
 Qi:FM K mainGlobals "tuple"=AC Ch
 _B:FM K mainGlobals "zip"=AC Ch
 OK:∃t,FM K mainGlobals "DEPTH"=AC (AC<|.int 2 t)
 G5:∃v t,FM K mainGlobals "FIGURES"=AC (AC<|.str v t)/\v=⟨[48,49,50,51,52,53,54,55,56,57].toArray⟩
 Zp:∃t,FM K mainGlobals "GAP"=AC (AC<|.int 5 t)
 UK:∃t,FM K mainGlobals "KIND"=AC (AC<|.int 3 t)
 CU:∃t,FM K mainGlobals "LAST_ROW"=AC (AC<|.int 5 t)
 tY:∃t,FM K mainGlobals "MOST_COLUMNS"=AC (AC<|.int 12 t)
 yB:∃t,FM K mainGlobals "MOST_DEPTH"=AC (AC<|.int 3 t)
 tX:∃t,FM K mainGlobals "MOST_FIGURES"=AC (AC<|.int 60 t)
 CT:∃t,FM K mainGlobals "MOST_GAP"=AC (AC<|.int 6 t)
 wb:∃t,FM K mainGlobals "MOST_GUESTS"=AC (AC<|.int 6 t)
 tW:∃t,FM K mainGlobals "MOST_LETTERS"=AC (AC<|.int 8 t)
 AL:∃t,FM K mainGlobals "MOST_ROWS"=AC (AC<|.int 6 t)
 AK:∃t,FM K mainGlobals "MOST_WAYS"=AC (AC<|.int 2000 t)
 yA:∃t,FM K mainGlobals "MOST_WIDTH"=AC (AC<|.int 12 t)
 UJ:∃t,FM K mainGlobals "NAME"=AC (AC<|.int 0 t)
 OJ:∃t,FM K mainGlobals "PARTS"=AC (AC<|.int 8 t)
 UI:∃t,FM K mainGlobals "WIDE"=AC (AC<|.int 4 t)
 OI:∃t,FM K mainGlobals "WIDTH"=AC (AC<|.int 1 t)
 JS:∃t,FM K mainGlobals "WISHES"=AC (AC<|.int 7 t)
 OH:FM K mainGlobals "WORDS"=AC (AC<|.ref y_)
 OP:ZS.OQ K y_=AC [[97,115,107],[102,97,115,116],[97,119,97,121],[119,104,101,114,101]]
 OG:∃t,FM K mainGlobals "WORTH"=AC (AC<|.int 6 t)
 w_Desk:FM K mainGlobals "Desk"=AC (AC<|.ref cB)
 w_Full:FM K mainGlobals "Full"=AC (AC<|.ref eO)
 w_NoName:FM K mainGlobals "NoName"=AC (AC<|.ref eD)
 w_TooGreat:FM K mainGlobals "TooGreat"=AC (AC<|.ref gc)
 w_Twice:FM K mainGlobals "Twice"=AC (AC<|.ref f7)
 OA:ZS.GY K eO=Da
 GX:ZS.GY K eD=Da
 Az:ZS.GY K gc=Da
 JJ:ZS.GY K f7=Da
 GW:ZS.Oz K eD=Da
 JH:ZS.Oz K f7=Da
 RC:ZS.S6 K eO
 Sr:NP K cB
 Qq:ii K cB=Da
 QO:Fa K (.ref cB)=Da
 HW:GM K (.ref cB) "guests"=AC Ch
 Qe:GM K (.ref cB) "hall"=AC Ch
 Qd:GM K (.ref cB) "held"=AC Ch
 HV:GM K (.ref cB) "places"=AC Ch
 Gn:ZS.Ak K eO
 nV:GM K (.ref eO) "paper"=AC Ch
 yY:Ix K eO (.ref eO)=AC Da
 uo:Ix K eO (.ref eD)=AC AT
 qK:Ix K eO (.ref gc)=AC AT
 wC:Ix K eO (.ref f7)=AC AT
 um:Ix K eD (.ref eO)=AC AT
 qJ:Ix K eD (.ref eD)=AC Da
 oj:Ix K eD (.ref gc)=AC AT
 sC:Ix K eD (.ref f7)=AC AT
 wB:Ix K f7 (.ref eO)=AC AT
 sA:Ix K f7 (.ref eD)=AC AT
 pC:Ix K f7 (.ref gc)=AC AT
 uk:Ix K f7 (.ref f7)=AC Da
 AX:lc K eO "__init__" "Full.__init__" (rN 9 0)
 Ou:ZS.Ov K eO=Da
 QN:Fa K (.ref eO)=Da
section
variable{P:ο}{w:ξ}{K:Db}{mg:Str->ε ζ}{base h:ν}{cB y_ eO eD gc f7:δ}(z:Fs K mg h cB y_ eO eD gc f7)
include z
def Fs.k{n}{i:Int}(h:∃t,FM K mainGlobals n=AC (AC<|.int i t)):∃t,mg n=AC (.int i t):=h.imp λ _=>A21 z.X z.G
def Fs.m{n}(h:FM K mainGlobals n=AC Ch):mg n=Ch:=A50 z.X z.G h
def Fs.Jk:∃t,mg "FIGURES"=AC (.str ⟨[48,49,50,51,52,53,54,55,56,57].toArray⟩ t):=by let(_,t,e,rfl):=z.G5;show(t,A21 z.X z.G e,)
def Fs.Sy:mg "WORDS"=AC (.ref y_):=A21 z.X z.G z.OH
def Fs.V9:mg "Full"=AC (.ref eO):=A21 z.X z.G z.w_Full
def Fs.LI:mg "NoName"=AC (.ref eD):=A21 z.X z.G z.w_NoName
def Fs.D5:mg "TooGreat"=AC (.ref gc):=A21 z.X z.G z.w_TooGreat
def Fs.Qx:mg "Twice"=AC (.ref f7):=A21 z.X z.G z.w_Twice
def Fs.nY:ZS.XC K [70,117,108,108] eO:=ZS.E9 (by decide +kernel) z.w_Full z.OA
def Fs.jX:ZS.XC K [78,111,78,97,109,101] eD:=ZS.E9 (by decide +kernel) z.w_NoName z.GX
def Fs.CL:ZS.XC K [84,111,111,71,114,101,97,116] gc:=ZS.E9 (by decide +kernel) z.w_TooGreat z.Az
def Fs.mJ:ZS.XC K [84,119,105,99,101] f7:=ZS.E9 (by decide +kernel) z.w_Twice z.JJ
def Fs.hC:ZS.qv K "Desk" cB:=(z.w_Desk,z.Sr,)
def Fs.xN:ZS.Y9 K "guests":=(cB,z.w_Desk,z.HW,)
def Fs.FW:ZS.Y9 K "hall":=(cB,z.w_Desk,z.Qe,)
def Fs.FV:ZS.Y9 K "held":=(cB,z.w_Desk,z.Qd,)
def Fs.xM:ZS.Y9 K "places":=(cB,z.w_Desk,z.HV,)
def Fs.wQ:ZS.Yq K "paper" [70,117,108,108]:=ZS.Rt z.nY.1 z.RC z.Gn z.nV
def K4:ZS.Yr P w K mg base eO 1 [[112,97,112,101,114]]:=ZS.abl z.AX z.Ou z.QN z.Gn z.nV (by decide +kernel) rfl (λ _ _ _ _ _ _=>ZS.bd2 λ _ _=>rfl) ZS.B1 (ZS.OF (by decide +kernel)) (by decide +kernel) (by decide +kernel)
local macro_rules(kind:=Lean.Parser.Tactic.case)|s=>let a:=s[1][0];let g:=a[0][0].getId;if g==`K then return s[3]else if g==`W then return s[3].rewriteBottomUp λ x=>if x.isOfKind ``Lean.Parser.Tactic.first then x.setArg 1<|zqq<|x[1].getArgs.map λ g=>g.setArg 1<|(s.setArg 3 g[1]).setArg 1<|zqq #[a.setArg 0<|a[0].setArg 0<|Lean.mkIdent `K]else if x.isOfKind ``Lean.Parser.Tactic.show then zqk `refine x.getArgs else x else Lean.Macro.throwUnsupported
def VE{f:δ}{fd:υ}(F:CJ K "law" "law" (top 106) f fd):fi P w K mg base iC 22 f fd ["_law_script"] (ZS.yU K q_):=by
 let X0:=z.X;let G0:=z.G;let C0:=z.hC;let V0:ZS.Vs P w mg base:=⟨⟩
 show jp z.C6 0 ["thing"] ["thing"] KC.gj rfl (λ Tx=>?_) ?_
 show jp z.pe 1 ["thing","least","most"] ["thing","least","most"] KC.a8 rfl (λ DO=>?_) ?_
 show jp z.AV 0 ["text"] ["text"] KA.cH rfl (λ P0=>?_) ?_
 show jp z.G_ 1 ["thing"] ["thing"] KS.cR rfl (λ VH=>?_) ?_
 show jp z.Ha 1 ["thing"] ["thing"] KS.kS rfl (λ VI=>?_) ?_
 show jp z.AW 2 ["thing","least"] ["thing","least"] KS.gK rfl (λ P4=>?_) ?_
 show jp z.G! 3 ["thing"] ["thing"] KS.jk rfl (λ VF=>?_) ?_
 show jp z.yK 4 ["thing"] ["thing"] KS.ie rfl (λ N6=>?_) ?_
 show jp z.qA 2 ["parts"] ["parts"] KS.eZ rfl (λ FN=>?_) ?_
 show jp z.C7 5 ["thing"] ["thing"] KS.cq rfl (λ Tz=>?_) ?_
 show jp z.CW 0 ["group","row"] ["group","row"] KB.jH rfl (λ Tt=>?_) ?_
 show jp z.G? 1 ["text"] ["text"] KA.jl rfl (λ VG=>?_) ?_
 show jp z.JT 2 ["thing"] ["thing"] KA.i5 rfl (λ YC=>?_) ?_
 show jp z.Hb 3 ["thing"] ["thing"] KA.g! rfl (λ VJ=>?_) ?_
 show jp z.G7 0 ["hall","seat"] ["hall","seat","row","column"] KG.kQ rfl (λ VB=>?_) ?_
 show jp z.OM 0 ["sign","kind"] ["sign","kind"] KG.p? rfl (λ _b=>?_) ?_
 show jp z.CZ 0 ["group","place"] ["group","place","seats","row"] KG.jI rfl (λ Tu=>?_) ?_
 show jp z.UN 1 ["hall","group","place"] ["hall","group","place","signs"] KG.p_ rfl (λ acj=>?_) ?_
 show jp z.AN 2 ["hall","group"] ["hall","group","places","row"] KG.fL rfl (λ PU=>?_) ?_
 show jp z.OO 0 ["one","here","other","there"] ["one","here","other","there","gap"] KG.qa rfl (λ _d=>?_) ?_
 show jp z.qz 0 ["groups","seating"] ["groups","seating"] KG.b7 rfl (λ FL=>?_) ?_
 show jp z.qB 1 ["group","place","seated"] ["group","place","seated"] KG.du rfl (λ FO=>?_) ?_
 show jp z.ON 2 ["hall","groups","seating"] ["hall","groups","seating","seated"] KG.mv rfl (λ _c=>?_) ?_
 show jp z.CV 1 ["groups","seating"] ["groups","seating"] KB.cn rfl (λ Bg=>?_) ?_
 show jp z.t9 3 ["hall","groups","fast"] ["hall","groups","fast","seating"] KB.bo rfl (λ Jw=>?_) ?_
 show pi (p:=ZS.vY P w K mg base "ways" 5 ["hall","groups","fast"] (KB.tu)) (λ aci=>?_)<|Ab (N:=["hall","groups","fast","many","group","place"]) (z.UM.df z.X z.G) λ nd hu hr=>?_
 show jp z.wc 5 ["hall","groups","fast"] ["hall","groups","fast","many"] KB.fA rfl (λ K5=>?_) ?_
 show jp z.yC 0 ["seating","k","place"] ["seating","k","place"] KH.cf rfl (λ wF=>?_) ?_
 show jp z.yG 2 ["places","group","seated"] ["places","group","seated"] KH.eE rfl (λ N2=>?_) ?_
 show jp z.sf 3 ["hall","groups","seatings","k","some"] ["hall","groups","seatings","k","some","places","wider","seating","seated"] KB.fK rfl (λ HL=>?_) ?_
 show jp z.sj 4 ["hall","groups","start","some"] ["hall","groups","start","some","seatings","k"] KB.dR rfl (λ HM=>?_) ?_
 show pi (p:=ZS.vY P w K mg base "first_of_all" 7 ["hall","groups","fast"] (KC.fY)) (λ Jv=>?_)<|Ab (N:=["hall","groups","fast","seatings"]) (z.t8.df z.X z.G) λ nd hu hr=>?_
 show pi (p:=AAH P w K mg base "best_among" 5 ["groups","seatings"] (KB.fV)) (λ N5=>?_)<|Ul (N:=["groups","seatings"]) (b:=KB.gQ) (z.ph.1.df z.X z.G) nH (z.ph.lam z.X z.G) λ _ _ _ _ _ _ _ hl hr=>have nd:=nH.nd;have hu:=hr.units;have hrL:=λ env=>ZS.A? (k:=2) (hr.mono ∅) env;(qi<|rh<|z9 (ZS.F6 hl (by decide +kernel)) (ZS.Ko hr) rfl (z.m z._F) Nz iA (N':=["seating","groups"]) (is:=[0]) (sB (by kernel_rfl)) rfl (λ _ _ _ _ _=>(dU Bg (bx cU<|bx cU eK) (hr:=((hrL _).mono ∅)))) λ _ _ _ _ _ _=>rfl)
 show pi (p:=ZS.vY P w K mg base "best_of_all" 7 ["hall","groups","fast"] (KB.bu)) (λ K8=>?_)<|Ab (N:=["hall","groups","fast","start"]) (z.wq.df z.X z.G) λ nd hu hr=>?_
 show jp z.yL 3 ["hall","groups"] ["hall","groups"] KC.ig rfl (λ N7=>?_) ?_
 show jp z.CY 3 ["groups","places","seating","k"] ["groups","places","seating","k"] KC.cK rfl (λ rK=>?_) ?_
 show pi (p:=∀j,AAH P w K mg base "paper_beside" (7+j) ["groups","places","seating"] (KC.bj j)) (λ sE=>?_)<|λ j=>by induction j with| zero=>show ZS.XU<|Uk (k:=6) (N:=["groups","places","seating","waiting","k","spots","papers"]) (b:=Z.jy) (z.i?.1.df z.X z.G) λ _ _ _=>Gr| succ j Ys=>show Ul (k:=7+j) (N:=["groups","places","seating","waiting","k","spots","papers"]) (b:=KC.fD (KC.bj j)) (z.i?.1.df z.X z.G) lF (z.i?.lam z.X z.G) λ _ _ _ _ _ _ _ hl hr=>have nd:=lF.nd;have hu:=hr.units;have hrL:=λ env=>ZS.A? (k:=4) (hr.mono ∅) env;(gM (zX (i:=3) rfl nd rfl (lo rfl) (abd<|Cg (z.m z.Qj)<|z! (z.m z._G) iA) (N':=["k","seating"]) (n:=1) (is:=[2]) (sB (by kernel_rfl)) (ZS.kP ∅) (λ _ _ _ _ _ _=>mC) (λ _ _ _ _ _=>(Fe<|MI<|jB<|Gx iA iA)) λ _ _ _ _ _=>cU)<|gM (jL<|z8 (ZS.F6 hl (by decide +kernel)) (ZS.Ko hr) rfl (z.m z._E) Ny iA (N':=["j","groups","places","seating"]) (is:=[0,1,2]) (sB (by kernel_rfl)) rfl (λ _ _ _ _ _=>(z! (z.m z._G)<|jB<|dU rK (bx cU<|bx cU<|bx cU<|bx cU eK) (hr:=((hrL _).mono (by omega))))) λ _ _ _ _ _ _=>rfl)<|gM (jL<|dU rK<|bx cU<|bx cU<|bx cU<|bx cU eK)<|gM (MK (kh (wE hu) iA<|jB<|vB eK) (qi<|rh<|vB<|bD qk<|bx cU eK) zW)<|gM (zX (i:=6) rfl nd rfl (lo rfl) (MZ iA) (N':=["place","groups","places","seating","k"]) (n:=1) (is:=[0,1,2,4]) (sB (by kernel_rfl)) (ZS.kP ∅) (λ _ _ _ _ _ _=>mC) (λ _ _ _ _ _=>C?) λ _ _ _ _ _=>(dU Ys (bx cU<|bx cU<|qm (dU wF<|bx cU<|bx cU<|bx cU eK) eK) (hr:=(hr.mono<|P3 _))))<|qi<|rh<|vB<|bD qk<|bx cU<|qm (yj (z.m z.Qi) iA) eK)
 show pi (p:=ZS.vY P w K mg base "paper_of" 17 ["hall","groups","fast"] (KC.iz)) (λ Tv=>?_)<|Ab (N:=["hall","groups","fast"]) (z.C1.df z.X z.G) λ nd hu hr=>?_
 show jp z.yE 0 ["group"] ["group","words","word","part","wish"] KS.ib rfl (λ N0=>?_) ?_
 show jp z.AO 0 ["word"] ["word"] KS.aZ rfl (λ PV=>?_) ?_
 show jp z.AM 1 ["words"] ["words"] KS.gJ rfl (λ PR=>?_) ?_
 show jp z.C8 2 ["words"] ["words","size","told","at","word"] KS.jK rfl (λ TB=>?_) ?_
 show jp z.yF 6 ["text"] ["text","words","group"] KS.cL rfl (λ N1=>?_) ?_
 show jp z.G6 0 ["things","k"] ["things","k"] d! rfl (λ Vz=>?_) ?_
 show jp z.yD 0 ["place"] ["place"] bA rfl (λ NZ=>?_) ?_
 show pi (p:=ZS.E6 P w K mg base 5 ["self","hall"] 2 gL) (λ pM=>?_)<|XQ (N:=["self","hall"]) rfl (z.AY.di z.hC z.Qq z.QO λ _ _ _ _ _ _=>ZS.bd2 λ _ _=>rfl) λ nd hu hr=>?_
 show AAA z.jZ 2 ["self","name"] ["self","name","k","guest"] [Da,AT] aN rfl (λ FP=>?_) ?_
 show wn z.jZ 2 ["self","name"] ["self","name","k","guest"] [Da,AT] aD rfl (λ DH=>?_) ?_
 show AAI z.ua 17 ["self","group"] ["self","group","guests","held","places"] [Da,AT] fC rfl (λ TC=>?_) ?_
 show wn z.ua 17 ["self","group"] ["self","group","guests","held","places"] [Da,AT] d6 rfl (λ PQ=>?_) ?_
 show AAI z.rD 3 ["self","name"] ["self","name","k"] [Da,AT] d? rfl (λ P5=>?_) ?_
 show wn z.rD 3 ["self","name"] ["self","name","k"] [Da,AT] cF rfl (λ NX=>?_) ?_
 show AAI z.rE 7 ["self","name"] ["self","name","k"] [Da,AT] d_ rfl (λ P6=>?_) ?_
 show wn z.rE 7 ["self","name"] ["self","name","k"] [Da,AT] cG rfl (λ NY=>?_) ?_
 show AAA z.pj 3 ["self","name"] ["self","name"] [Da,AT] bR rfl (λ N8=>?_) ?_
 show wn z.pj 3 ["self","name"] ["self","name"] [Da,AT] fU rfl (λ K3=>?_) ?_
 show AAA z.t_ 0 ["self"] ["self"] [Da] aP rfl (λ iE=>?_) ?_
 show AAA z.t! 0 ["self"] ["self"] [Da] a_ rfl (λ lH=>?_) ?_
 show AAA z.yM 2 ["self"] ["self"] [Da] bQ rfl (λ wH=>?_) ?_
 show AAA z.sk 1 ["self"] ["self"] [Da] bW rfl (λ HN=>?_) ?_
 show AAI z.xt 18 ["self","word","rest"] ["self","word","rest"] [Da,AT,AT] cS rfl (λ VM=>?_) ?_
 show wn z.xt 18 ["self","word","rest"] ["self","word","rest"] [Da,AT,AT] cP rfl (λ Ts=>?_) ?_
 show AAI z.t? 19 ["self","row"] ["self","row","parts"] [Da,AT] cu rfl (λ rM=>?_) ?_
 show wn z.t? 19 ["self","row"] ["self","row","parts"] [Da,AT] fy rfl (λ PN=>?_) ?_
 show jp z.wm 0 ["_law_script","_law_k"] ["_law_script","_law_k"] KG.bP rfl (λ uD=>?_) ?_
 show jp z.AS 0 ["_law_cell","_law_many"] ["_law_cell","_law_many","_law_number","_law_found","_law_k"] dm rfl (λ PY=>?_) ?_
 show jp z.yJ 0 ["_law_cell","_law_sizes"] ["_law_cell","_law_sizes","_law_found","_law_size"] KH.dF rfl (λ N4=>?_) ?_
 show jp z.AR 0 ["_law_cell","_law_many"] ["_law_cell","_law_many","_law_letters_here","_law_size","_law_at","_law_step","_law_names_here","_law_k","_law_name","_law_j","_law_turn"] iT rfl (λ ze=>?_) ?_
 show jp z.wj 0 ["_law_cell"] ["_law_cell","_law_letters_here"] cQ rfl (λ K7=>?_) ?_
 show jp z.C5 1 ["_law_script"] ["_law_script","_law_way","_law_many","_law_columns","_law_rest","_law_signs","_law_numbers","_law_rows","_law_r"] jJ rfl (λ Bi=>?_) ?_
 show jp z.G9 1 ["_law_name","_law_cell"] ["_law_name","_law_cell","_law_width","_law_depth","_law_kind","_law_gap","_law_bits","_law_wide","_law_sums","_law_wishes"] kR rfl (λ VD=>?_) ?_
 show jp z.AU 1 ["_law_name","_law_cell","_law_letters_here"] ["_law_name","_law_cell","_law_letters_here","_law_xs","_law_width","_law_depth","_law_kind","_law_wide","_law_gap","_law_worth","_law_wishes","_law_r"] iU rfl (λ PZ=>?_) ?_
 show jp z.yI 2 ["_law_script","_law_start","_law_names_here"] ["_law_script","_law_start","_law_names_here","_law_letters_here","_law_found","_law_k","_law_cell"] ic rfl (λ wG=>?_) ?_
 show jp z.yH 0 ["_law_hall_here","_law_group_here"] ["_law_hall_here","_law_group_here","_law_found","_law_r","_law_c","_law_signs","_law_bad"] dE rfl (λ N3=>?_) ?_
 show jp z.C3 1 ["_law_hall_here","_law_groups_here","_law_held"] ["_law_hall_here","_law_groups_here","_law_held","_law_found","_law_group_here"] fB rfl (λ Bh=>?_) ?_
 show jp z.wg 0 ["_law_group_here"] ["_law_group_here","_law_text","_law_row_here","_law_more"] dS rfl (λ K6=>?_) ?_
 show jp z.AQ 0 ["_law_place_here"] ["_law_place_here"] bT rfl (λ PX=>?_) ?_
 show pi (p:=ZS.E7 P w K mg base "_law_all" 2 ["_law_desk"] [Da] (f?)) (λ DN=>?_)<|XT rfl (N:=["_law_desk","_law_parts","_law_group_here","_law_place_here"]) (z.G'.df z.X z.G) λ nd hu hr=>?_
 show pi (p:=ZS.se P w K mg base "_law_done" 19 ["_law_desk","_law_way","_law_group_here"] [Da,AT,AT] 3 br) (λ Tw=>?_)<|GC rfl (N:=["_law_desk","_law_way","_law_group_here"]) (z.t6.df z.X z.G) λ nd hu hr=>?_
 show pi (p:=ZS.vW P w K mg base "_law_done" 19 ["_law_desk","_law_way","_law_group_here"] [Da,AT,AT] cm) (λ PM=>?_)<|XM rfl (N:=["_law_desk","_law_way","_law_group_here"]) (z.t6.df z.X z.G) λ nd hu hr=>?_
 show jp z.G8 1 ["_law_way","_law_group_here"] ["_law_way","_law_group_here"] dD rfl (λ VC=>?_) ?_
 show pi (p:=ZS.se P w K mg base "_law_told" 21 ["_law_desk","_law_way","_law_group_here","_law_by_row"] [Da,AT,AT,AT] 6 a7) (λ rL=>?_)<|GC rfl (N:=["_law_desk","_law_way","_law_group_here","_law_by_row","_law_found","e"]) (z.C4.df z.X z.G) λ nd hu hr=>?_
 show af6 (N:=["_law_script","_law_hall_here","_law_names_here","_law_some","_law_desk","_law_other","_law_cell","_law_group_here","_law_way","_law_found"]) F λ nd hu hr=>(gM (jL<|dU Bi<|bx cU eK)<|gM (jL<|dU ze<|qm (dU uD<|bx cU<|bD cI eK)<|bD cI eK)<|gM (jL<|dU wG<|bx cU<|bD cI<|z_ (Xv<|EE iA iA) eK)<|IL (i:=4) pM (hr.mono ∅) rfl nd rfl (lo rfl) cU λ _ _=>(H? (i:=5) pM (hr.mono ∅) rfl nd rfl (lo rfl) cU λ _=>(j9 (Lr C01 rfl (MW<|Xv<|EE (RF<|z6<|bD cI<|bD cI<|bD cI<|bD cI<|bD cI eK)<|RF<|Cf iA (MM<|jB cI)<|MM<|jB cI) (λ _=>mC)<|j9 (kK λ _=>(jL<|Gx iA<|jB<|EH (jB<|M9 iA<|jB cI)<|jB cI))<|j9 (kK λ _=>(jL<|Gx (RF<|z6<|bD cI<|bD cI<|bD cI<|bD cI<|bD cI<|bD cI<|bD cI<|bD cI eK)<|jB<|EH iA<|jB cI))<|pR<|Lq (V1<|dtw<|MG (kh wv iA<|jB cI)<|Ez<|kh zn (jB<|dU Bh<|bx cU<|z_ (Na (jB<|jm iE (hr.mono ∅) (rl<|pv 4) (by decide +kernel))<|jB<|vB<|bx cU eK)<|Cp Gy eK)<|jB cI) (j9 (Lo (i:=9) nd rfl (lo rfl) ∅<|zz rL (hr.mono ∅) rfl ∅ ∅<|mY (rl<|pv 4)<|gN cU<|gN cU<|gN Co mZ)<|j9 (Lq (mtw<|TQ (FZ (wf hu) (Qu cU) (zz rL (hr.mono ∅) rfl ∅ ∅<|mY (rl<|pv 5)<|gN cU<|gN cU<|gN Co mZ)<|iF _)<|Lm<|V1<|MH<|aa7<|vC .str .list rfl (z.m z.zr) eF rfl (z.m z._D) EU rfl (z.m z.VX) GG iA) (pR<|kK λ _=>(rh Co)) zt)<|pR<|kK λ _=>(MK (dtw<|MG (kh (wf hu) (jB<|jm iE (hr.mono ∅) (rl<|pv 4) (by decide +kernel))<|jB<|jm iE (hr.mono ∅) (rl<|pv 5) (by decide +kernel))<|Ez<|kh (wf hu) (jB<|jm lH (hr.mono ∅) (rl<|pv 4) (by decide +kernel))<|jB<|jm lH (hr.mono ∅) (rl<|pv 5) (by decide +kernel)) (qi<|rh Co) zW)) zt)<|pR<|Lp<|Lx (zx (wE hu) (zw rM (hr.mono ∅) (rl<|pv 4) (by decide +kernel) ∅ ∅<|gN qk mZ) (Qu<|Cn DN (hr.mono ∅) rfl<|mY (rl<|pv 5) mZ)<|iF _)<|Lw<|zx (wE hu) (zw rM (hr.mono ∅) (rl<|pv 4) (by decide +kernel) ∅ ∅<|gN qk mZ) (Qu<|Cm (z.m z._D)<|jB<|jm wH (hr.mono ∅) (rl<|pv 5) (by decide +kernel))<|iF _)))
 all_goals case W=>repeat' first
 |(show ZS.Ho.mk ?_;intros;rename_i nd hu hr)
 |(show(?_:QW _ _ _);first|show iA|show RF ?_|show jB ?_)
 |(show(?_:QE _ _ _);first|(show(?_:QE _ (.Name _ _) _);first|show cU|show IZ (z.k<|by first|show z.OK|show z.Zp|show z.UK|show z.CU|show z.tY|show z.yB|show z.tX|show z.CT|show z.wb|show z.tW|show z.AL|show z.AK|show z.yA|show z.UJ|show z.OJ|show z.UI|show z.OI|show z.JS|show z.OG)|show M7 (ts:=[[97,115,107],[102,97,115,116],[97,119,97,121],[119,104,101,114,101]]) rfl z.Sy z.OP|show M8 rfl z.Jk)|(show(?_:QE _ (.Constant _ _ _) _);first|show cI|show qk|show Co|show Xs)|(show(?_:QE _ (.BinOp _ _ _ _) _);first|show Na ?_ ?_|show EH ?_ ?_|show M9 ?_ ?_|show Xu ?_ ?_|show Xo ?_ ?_|show Xp ?_ ?_|show R1 ?_ ?_)|(show(?_:QE _ (.Subscript _ _ _) _);first|show Gx ?_ ?_|show M5 ?_ ?_ ?_|show RZ hu (pv _) ?_)|(show(?_:QE _ (.Attribute _ _ _) _);first|show Xx (by first|show z.xN|show z.FW|show z.FV|show z.xM) ?_ (by decide +kernel)|show abe (pv _) (by decide +kernel) z.wQ)|(show(?_:QE _ (.Compare _ _ _ _) _);first|show M! (by first|show wE hu|show AAB|show wv|show AAC hu|show AAD|show zn|show AAE|show wf hu|show AAF hu|show AAG) ?_ ?_|show M? (by first|show wE hu|show AAB|show wv|show AAC hu|show AAD|show zn|show AAE|show wf hu|show AAF hu|show AAG) (by first|show wE hu|show AAB|show wv|show AAC hu|show AAD|show zn|show AAE|show wf hu|show AAF hu|show AAG) ?_ ?_ ?_|show R4 ?_)|show Gy|(show(?_:QE _ (.BoolOp _ _ _) _);first|show Xq ?_|show XB ?_ ?_|show abf ?_ ?_)|(show(?_:QE _ (.UnaryOp _ _ _) _);first|show Xt ?_|show Xr ?_)|(show(?_:QE _ (.Tuple _ _ _) _);show vB ?_)|(show(?_:QE _ (.IfExp _ _ _ _) _);show M6 ?_ ?_ ?_)|(show(?_:QE _ (.Call _ _ _ _) _);first|show z! (z.m z._G) ?_|show dU (by first|(show(?_:AAH P w K mg base _ _ _ _);first|with_reducible assumption|assumption)|show ZS.vY.full (by assumption)|show sE _) ?_|show Sb (z.m z._I) ?_|show yj (z.m z.Qi) ?_|show Cm (z.m z._D) ?_|show R6 (by show(?_:ZS.An P w K mg base _ _ _ _ _);first|with_reducible assumption|assumption) (hr.mono ∅) ?_ (by decide +kernel) ?_|show mX .bool rfl (z.m z.zr) eF rfl (z.m z.VY) SG ?_|show mX .int rfl (z.m z.zr) eF rfl (z.m z._H) vM ?_|show mX .str rfl (z.m z.zr) eF rfl (z.m z._D) EU ?_|show mX .tuple rfl (z.m z.zr) eF rfl (z.m z.Qi) Nx ?_|show vC .str .list rfl (z.m z.zr) eF rfl (z.m z._D) EU rfl (z.m z.VX) GG ?_|show R9 rfl (z.m z._H) vM ?_|show R8 ?_ ?_|show jm (by show(?_:ZS.An P w K mg base _ _ _ _ _);first|with_reducible assumption|assumption) (hr.mono ∅) ?_ (by decide +kernel)|show R! rfl (z.m z._H) vM ?_|show Cn (by show(?_:ZS.E7 P w K mg base _ _ _ _ _);first|with_reducible assumption|assumption) (hr.mono ∅) rfl ?_|show R0 (z.m z._C) ?_|show R7 rfl (z.m z._F) Nz ?_ ?_|show R5 rfl (z.m z._E) Ny ?_ ?_|show R3 ?_ ?_|show M' hu ?_ ?_|show R_ ?_ ?_)|show Xz|show Xv ?_)
 |(show(?_:QT _ _ _);first|(show(?_:QT _ (.Compare _ _ _ _) _);first|show kh (by first|show wE hu|show AAB|show wv|show AAC hu|show AAD|show zn|show AAE|show wf hu|show AAF hu|show AAG) ?_ ?_|show MI ?_|show MJ (by first|show wE hu|show AAB|show wv|show AAC hu|show AAD|show zn|show AAE|show wf hu|show AAF hu|show AAG) (by first|show wE hu|show AAB|show wv|show AAC hu|show AAD|show zn|show AAE|show wf hu|show AAF hu|show AAG) ?_ ?_ ?_|show RG ?_|show IK hu ?_ ?_)|(show(?_:QT _ (.UnaryOp _ _ _) _);show MH ?_)|(show(?_:QT _ (.BoolOp _ _ _) _);show dtw ?_)|show aa7 ?_)
 |(show(?_:Ut _ _ _);first|show Ez ?_|show MG ?_ ?_|show RH ?_|show Xb ?_ ?_)
 |(show(?_:QA _ _ _);first|show eK|show bx ?_ ?_|show bD ?_ ?_|show Sg ?_ ?_|show z_ ?_ ?_|show qm ?_ ?_|show Nc ?_ ?_|show I0 ?_ ?_|show Nb ?_ ?_|show Cp ?_ ?_)
 |(show(?_:yx _ _ _ _);first|show RI ?_|show zW|show Gr|show qi ?_|show gM ?_ ?_)
 |(show(?_:QS _ _ _ _);first|show rh ?_|show aa9 rfl nd rfl (lo rfl) ?_ ?_ ?_ ?_ ?_|show jL ?_|show MK ?_ ?_ ?_|show RP ?_ ?_ ?_|show RK ?_|show Xc ?_ ?_|show Xf (pv _) ?_|show Xd (pv _) ?_|show RO nd rfl (lo rfl) ?_|show RR nd rfl (lo rfl) ?_|show RJ hu (pv _) ?_ ?_|show aa8 (i:=2) nd rfl (lo rfl) (ZS.tD (k:=[107,105,110,100]) (v:=[]) (by decide +kernel) (by decide +kernel)<|ZS.tD (k:=[119,105,100,101]) (v:=[48]) (by decide +kernel) (by decide +kernel)<|ZS.tD (k:=[103,97,112]) (v:=[48]) (by decide +kernel) (by decide +kernel)<|ZS.tD (k:=[119,111,114,116,104]) (v:=[48]) (by decide +kernel) (by decide +kernel) ZS.XH) (by decide +kernel) ∅)
 |(show(?_:QL _ _ _);first|show z6 ?_|show abc ?_ ?_ ?_ ?_ ?_|show Cf ?_ ?_ ?_|show Xi ?_ ?_|show EE ?_ ?_|show MQ ?_ ?_)
 |(show(?_:QI _ _ _ _);first|show MZ ?_|show abd ?_)
 |(show(?_:JE _ _ _ _);first|show mZ|show gN ?_ ?_|show mY (rl<|pv _) ?_)
 |show ZS.kP ∅
 |show ZS.IC ∅
 |intro _
 |show rl<|pv _
 |show mC
 |show RW
 |show Zd
 |show Uy
 |show zt
 |show aba
 |show C?
 |show _M
 |show V4
 |show pR ?_
 |show j9 ?_ ?_
 |show IY ?_
 |show kK λ _=>?_
 |show Oo ?_
 |show JG ?_ ?_ ?_
 |show Cg (z.m z.Qj) ?_
 |show Xk rfl ?_ rfl
 |show MM ?_
 |show V3 (by first|show z.xN|show z.FW|show z.FV|show z.xM) (pv 0) ?_ (by decide +kernel)
 |show Ox (by show(?_:ZS.vV P w K mg base _ _ _ _ _);first|with_reducible assumption|assumption) (hr.mono ∅) ?_ (by decide +kernel) ?_
 |show Fe ?_
 |show MW ?_
 |show Lq ?_ ?_ ?_
 |show zw (by show(?_:ZS.vX P w K mg base _ _ _ _ _ _);first|with_reducible assumption|assumption) (hr.mono ∅) ?_ (by decide +kernel) ∅ ∅ ?_
 |show zz (by show(?_:ZS.se P w K mg base _ _ _ _ _ _);first|with_reducible assumption|assumption) (hr.mono ∅) rfl ∅ ∅ ?_
 |show Lp ?_
 |show Xl rfl ?_ rfl
 |show RV (z.m z._B) ?_ ?_
 |show Ze ?_ ?_ ?_
 |show UA ?_
 |show Qo ?_
 |show MX (z.m z.Qj) ?_ ?_
 |show MY (z.m z.Bs) ?_
 |show Uz (i:=2) nd rfl (lo rfl) ?_
 |show Zh ?_ eK
 |show UC (by show(?_:AAH P w K mg base _ _ _ _);first|with_reducible assumption|assumption) (hr.mono ∅) rfl ?_
 |show Oq ?_
 |show Lo nd rfl (lo rfl) ∅ ?_
 |show UB (i:=4) nd rfl (lo rfl) ?_
 |show Ot ?_
 |show V2 rfl rfl rfl ?_ (λ _ _=>?_) ?_
 |show FZ (wf hu) ?_ ?_<|iF _
 |show zx (wE hu) ?_ ?_<|iF _
 |show V6 rfl (z.m z._H) vM ?_
 |show _N ?_ ?_
 |show Ay rfl rfl rfl (by decide +kernel) z.jX z.GW ?_
 |show Ay rfl rfl rfl (by decide +kernel) z.mJ z.JH ?_
 |show GV rfl rfl rfl (by decide +kernel) z.nY (K4 z) (hr.mono ∅) ?_ ∅ ∅
 |show Zg ?_ ?_
 |show Ow ?_
 |show Oy rfl (z.m z._H) vM ?_
 |show TR rfl z.LI z.jX (pc z.jX.1 z.qJ<|pc z.mJ.1 z.sA<|pc z.nY.1 z.uo ZS.pA) (λ _=>?_) ?_
 |show TR rfl z.Qx z.mJ (pc z.jX.1 z.sC<|pc z.mJ.1 z.uk<|pc z.nY.1 z.wC ZS.pA) (λ _=>?_) ?_
 |show TU (i:=5) nd rfl (by kernel_rfl) ∅ rfl z.V9 z.nY (pc z.jX.1 z.um<|pc z.mJ.1 z.wB<|pc z.nY.1 z.yY ZS.pA) (λ _=>?_) ?_
 |show TU (i:=5) nd rfl (by kernel_rfl) ∅ rfl z.D5 z.CL (pc z.jX.1 z.oj<|pc z.mJ.1 z.pC<|pc z.nY.1 z.qK ZS.pA) (λ _=>?_) ?_
 |show V8
 |show Qw ?_ ?_
 |show Qv ?_
 |show _O (by show(?_:AAH P w K mg base _ _ _ _);first|with_reducible assumption|assumption) (hr.mono ∅) rfl ?_
 |show Lw ?_
 |show Lx ?_ ?_
 |show Lm ?_
 |show TQ ?_ ?_
 |show JI (by show(?_:ZS.vW P w K mg base _ _ _ _ _);first|with_reducible assumption|assumption) (hr.mono ∅) rfl ?_
 |show Zf ?_ ?_ ?_
 |show Xj rfl (z.m z.Qj) ?_ ?_ ?_
 |show Lr C01 rfl ?_ (λ _=>?_) ?_
 |show V1 ?_
 |show Qu ?_
 |show mtw ?_
end
def all_mk{l:AE1}{w:ξ}{K:Db}{cB y_ eO eD gc f7:δ}{h:ν}{mg:Str->ε ζ}{fa:δ}(Iw:mg "law"=AC (.ref fa))(z:Fs K mg h cB y_ eO eD gc f7):
 ∃fd:υ,(∀(s:ι)(v:ζ),BindsTo s fd ⟨[v],[]⟩ [("_law_script",v)])/\∀base:ν,K.In base->base.Ns mainGlobals mg->fi l.prog w K mg base iC 22 fa fd ["_law_script"] (ZS.yU K q_):=by
 let(fd,hb,F):=z.Zq.law z.X z.G Iw (x:="_law_script") λ _ _ _ _ _ _ _ _=>.of_eq rfl;show(fd,hb,λ base _ _=>VE z F,)
def walk{l:AE1}{q:ο}{loose:U Str}{XP:(Str->ε ζ)->ν->Prop}{YP:ξ->ν->Prop}{d:DefRec}{K:Params->FS}(hn:l.most=AC 63)(hdf:d.params.defaults=[])
 (hY:∀(w:ξ)(h:ν),YP w h->(K w.params).In h)
 (F:∀ (w:ξ)(mg:Str->ε ζ)(fa:δ)(h:ν),(K w.params).In h->h.Ns mainGlobals mg->mg d.name=AC (.ref fa) ->
  ∃fd:υ,(∀(s:ι)(u:ζ),BindsTo s fd ⟨[u],[]⟩ [("_law_script",u)])/\∀base:ν,(K w.params).In base->base.Ns mainGlobals mg->fi l.prog w (K w.params) mg base iC 22 fa fd ["_law_script"] (ZS.yU (K w.params) q_)) (hL:∀w:ξ,ZS.NK q (K w.params)) :
 PySem.W.WalkO q loose XP YP l.row.toRowW d [] (λ f vs=>PySem.call f vs):=
 ZS.UH (n:=63) (k:=22) (x:="_law_script") (m:=q_) hn ∅ hdf ⟨rfl,by decide,by decide⟩ hY F hL holds
end iY
namespace iY
open PySem PySem.Spec PyProof.Rows L2
abbrev km0:String:="besideseats.errors"
abbrev km1:String:="besideseats.plain"
abbrev TY:String:="besideseats.groups"
abbrev km3:String:="besideseats.halls"
abbrev km4:String:="besideseats.places"
abbrev _Z:String:="besideseats.seatings"
abbrev TX:String:="besideseats.rooms"
abbrev km7:String:="besideseats.best"
abbrev km8:String:="besideseats.papers"
abbrev _Y:String:="besideseats.texts"
abbrev pW:String:="besideseats.desk"
abbrev lP:String:="law_besideseats_k85_rows_as_deeds"
def kd(P:Params)(n:String)(t:Nat)(v:ζ):DictEntry:={hash:=PyData.keyHash P<|Str.ofString n,key:=.str (EQ n) t,val:=v}
def kc(n:String)(t l:Nat)(a b c d e f g h i j:ζ)(u:Nat):μ:={cls:=.type "code",data:=.fields #[.str (EQ n) t,.str (EQ n) (t+1),.str (EQ "/claim/cut.py") (t+2),.int l 0,a,.int 0 0,.int 0 0,b,c,.bool Da,d,e,f,g,h,i,j,.int l 0,.str (EQ "/claim/cut.py") u]}
def kcq(n q:String)(t l:Nat)(a b c d e f g h i j:ζ)(u:Nat):μ:={cls:=.type "code",data:=.fields #[.str (EQ n) t,.str (EQ q) (t+1),.str (EQ "/claim/cut.py") (t+2),.int l 0,a,.int 0 0,.int 0 0,b,c,.bool Da,d,e,f,g,h,i,j,.int l 0,.str (EQ "/claim/cut.py") u]}
def kfm(n q:String)(s:θ)(m:String)(t c:Nat)(v:ζ:=.none):μ:={cls:=.type "function",data:=.func {name:=EQ n,qualname:=EQ q,params:=bg s,body:=.stmts<|az s,scope:=aa s,globals:=3,closure:=[],defaults:=v,kwdefaults:=.none,pyModule:=.str (EQ m) t,code:=.ref c}}
def kf(n:String)(i:Nat)(m:String)(t c:Nat)(v:ζ:=.none):μ:={cls:=.type "function",data:=.func {name:=EQ n,qualname:=EQ n,params:=bg<|top i,body:=.stmts<|az<|top i,scope:=aa<|top i,globals:=3,closure:=[],defaults:=v,kwdefaults:=.none,pyModule:=.str (EQ m) t,code:=.ref c}}
def k7(n q:String)(t l i a j:Nat):μ:=kcq n q t l (.int i 0) (.int 3 0) (.ref<|a-5) (.int 181 0) (.ref<|a-4) .none (.ref<|a-3) (.ref<|a-2) (.ref<|a-1) (.int j 0)<|j+1
def k5(n q:String)(t l i a j:Nat):μ:=kcq n q t l (.int i 0) (.int 3 0) (.ref<|a-3) (.int 181 0) (.ref<|a-2) .none .none .none (.ref<|a-1) (.int j 0)<|j+1
def kr(P:Params)(n:String)(t r:Nat):DictEntry:=kd P n t<|.ref r
def ki(P:Params)(n:String)(t i:Nat):DictEntry:=kd P n t<|.int i<|t-1
def kN:μ:={cls:=.type "tuple",data:=.seq #[.none]}
def kE(P:Params)(m:String)(u t l s:Nat):μ:={cls:=.type "dict",data:=.dict #[kd P "__module__" t (.str (EQ m) u),kd P "__firstlineno__" (t+4) (.int l<|t+3),kr P "__static_attributes__" (t+5) s,kd P "__doc__" (t+6) .none] 2}
def kX(n:String)(d b s t:Nat):μ:={cls:=.type "type",data:=.cls {name:=EQ n,bases:=[.ref b],mro:=[.ref (d+1),.ref b,.type "ValueError",.type "Exception",.type "BaseException",.type "object"],ns:=d,qualname:=EQ n},slots:=#[AC (.ref s),Ch,AC (.str (EQ n) t),AC (.str (EQ n)<|t+8),AC (.builtin "ValueError.__new__"),AC (.bool Da)]}
local macro_rules(kind:=«term_::_»)|s=>do
 let x:=s[0][1].getSepArgs;let n:=x.size;if n<10 then Lean.Macro.throwUnsupported
 let A f z:Lean.TSyntax `term:=⟨.node .none ``Lean.Parser.Term.app #[f,zqq z]⟩;let a:Lean.TSyntax `num:=⟨x[1]!⟩
 `((nat_lit $a,$(A x[0]! (#[x[2]!,x[n-8]!]++x.extract (n-7) (n-4)++#[x[1]!,x[n-4]!])))::(nat_lit $(Lean.quote<|a.getNat+1),$(A (Lean.mkIdent<|if n<11 then `kf else `kfm) (x.extract 2 (n-7)++x.extract (n-3) n++#[x[1]!])))::$(⟨s[2]⟩))
def KK(P:Params):Db:=(λ(_:EQ "a"=Str.mk #[97])=>(nat_lit 3,{cls:=.type "dict",data:=.dict #[kd P "__name__" 165 (.str (EQ "law_besideseats_k85_rows_as_deeds") 905),kd P "__doc__" 166 .none,kd P "__package__" 167 .none,kd P "__loader__" 168 (.builtin "__main__.__loader__#opaque"),kd P "__spec__" 169 .none,kr P "__annotations__" 170 6,kr P "__builtins__" 171 4,kd P "__file__" 173 (.str (EQ "/claim/cut.py") 172),kd P "__cached__" 174 .none,kr P "SeatError" 206 24,kr P "NoHall" 222 37,kr P "NoGroup" 238 49,kr P "NoText" 254 61,kr P "NoSeating" 270 73,kr P "NoRow" 286 85,kr P "NoName" 302 97,kr P "Twice" 318 109,kr P "Full" 343 128,kr P "TooGreat" 370 147,kr P "is_whole" 379 156,kr P "is_whole_within" 388 163,kr P "is_letter" 395 170,ki P "NAME" 399 0,ki P "WIDTH" 401 1,ki P "DEPTH" 403 2,ki P "KIND" 405 3,ki P "WIDE" 407 4,ki P "GAP" 409 5,ki P "WORTH" 411 6,ki P "WISHES" 413 7,ki P "PARTS" 415 8,ki P "MOST_LETTERS" 417 8,ki P "MOST_WIDTH" 419 12,ki P "MOST_DEPTH" 421 3,ki P "MOST_GAP" 423 6,ki P "LAST_ROW" 425 5,kr P "is_name" 431 175,kr P "is_kind" 438 182,kr P "is_amount" 446 189,kr P "is_wish" 453 196,kr P "are_wishes" 459 201,kr P "asks_for_seats" 466 208,kr P "is_group" 473 215,kr P "worth_in" 479 220,ki P "MOST_ROWS" 483 6,ki P "MOST_COLUMNS" 485 12,kr P "is_sign" 492 227,kr P "is_row" 498 232,kr P "is_hall" 504 237,kr P "sign_at" 514 244,kr P "takes" 524 251,kr P "seats_of" 530 256,kr P "fits" 536 261,kr P "places_of" 542 266,kr P "apart" 555 273,kr P "those_that_sit" 561 278,kr P "apart_from_all" 567 283,kr P "keeps" 573 288,kr P "worth_of" 579 293,ki P "MOST_WAYS" 583 2000,kr P "fast_seating" 593 300,kr P "ways" 605 308,kr P "small_start" 615 315,kr P "with_place" 624 322,kr P "open_among" 630 327,kr P "with_one_more" 636 332,kr P "seatings_from" 648 339,kr P "first_of_all" 658 347,kr P "best_among" 669 354,kr P "best_of_all" 679 362,kr P "all_places" 687 367,kr P "spots_of" 697 374,kr P "paper_beside" 703 379,kr P "paper_of" 712 387,kd P "FIGURES" 716 (.str (EQ "0123456789") 715),ki P "MOST_FIGURES" 718 60,kr P "show_group" 729 394,kr P "number_in" 735 399,kr P "wishes_in" 741 404,kr P "group_in" 752 411,kr P "read_group" 761 418,ki P "MOST_GUESTS" 765 6,kr P "WORDS" 770 419,kr P "without" 778 426,kr P "show_place" 785 433,kr P "Desk" 904 523,kr P "_law_cell_at" 914 534,kr P "_law_mixed" 925 541,kr P "_law_digits" 935 548,kr P "_law_names" 952 555,kr P "_law_letters" 960 562,kr P "_law_hall" 966 567,kr P "_law_any" 972 572,kr P "_law_group" 990 579,kr P "_law_groups" 1003 586,kr P "_law_places" 1009 591,kr P "_law_ways" 1020 598,kr P "_law_written" 1030 605,kr P "_law_place" 1037 612,kr P "_law_all" 1047 619,kr P "_law_done" 1056 626,kr P "_law_row" 1064 633,kr P "_law_told" 1076 640,kr P "law" 1092 647] 104}) ::
 (nat_lit 23,{cls:=.type "dict",data:=.dict #[kd P "__module__" 196 (.str (EQ "besideseats.errors") 187),ki P "__firstlineno__" 200 2,kr P "__static_attributes__" 201 22,kr P "__weakref__" 203 25,kd P "__doc__" 204 .none] 3}) ::
 (nat_lit 24,{cls:=.type "type",data:=.cls {name:=EQ "SeatError",bases:=[.type "ValueError"],mro:=[.ref 24,.type "ValueError",.type "Exception",.type "BaseException",.type "object"],ns:=23,qualname:=EQ "SeatError",subclasses:=[.ref 37,.ref 49,.ref 61,.ref 73,.ref 85,.ref 97,.ref 109,.ref 128,.ref 147]},slots:=#[AC (.ref 15),Ch,AC (.str (EQ "SeatError") 189),AC (.str (EQ "SeatError") 197),AC (.builtin "ValueError.__new__"),AC (.bool Da)]}) ::
 (nat_lit 36,kE P "besideseats.errors" 187 214 4 35) ::
 (nat_lit 37,kX "NoHall" 36 24 28 207) ::
 (nat_lit 48,kE P "besideseats.errors" 187 230 6 47) ::
 (nat_lit 49,kX "NoGroup" 48 24 40 223) ::
 (nat_lit 60,kE P "besideseats.errors" 187 246 8 59) ::
 (nat_lit 61,kX "NoText" 60 24 52 239) ::
 (nat_lit 72,kE P "besideseats.errors" 187 262 10 71) ::
 (nat_lit 73,kX "NoSeating" 72 24 64 255) ::
 (nat_lit 84,kE P "besideseats.errors" 187 278 12 83) ::
 (nat_lit 85,kX "NoRow" 84 24 76 271) ::
 (nat_lit 96,kE P "besideseats.errors" 187 294 14 95) ::
 (nat_lit 97,kX "NoName" 96 24 88 287) ::
 (nat_lit 108,kE P "besideseats.errors" 187 310 16 107) ::
 (nat_lit 109,kX "Twice" 108 24 100 303) ::
 #[k7,124,"__init__","Full.__init__",331,20,2,336,(rN 9 0),km0,187] ::
 (nat_lit 127,{cls:=.type "dict",data:=.dict #[kd P "__module__" 326 (.str (EQ "besideseats.errors") 187),ki P "__firstlineno__" 330 18,kr P "__init__" 338 125,kr P "__static_attributes__" 340 126,kd P "__doc__" 341 .none] 2}) ::
 (nat_lit 128,kX "Full" 127 24 112 319) ::
 (nat_lit 146,{cls:=.type "dict",data:=.dict #[kd P "__module__" 351 (.str (EQ "besideseats.errors") 187),ki P "__firstlineno__" 355 22,kr P "__init__" 364 144,kr P "__static_attributes__" 367 145,kd P "__doc__" 368 .none] 2}) ::
 (nat_lit 147,kX "TooGreat" 146 24 131 344) ::
 #[k7,155,"is_whole",373,28,1,377,12,km1,371] ::
 #[k7,162,"is_whole_within",380,30,3,386,13,km1,371] ::
 #[k7,169,"is_letter",389,32,1,393,14,km1,371] ::
 #[k5,174,"is_name",426,49,1,429,30,TY,396] ::
 #[k7,181,"is_kind",432,53,1,436,31,TY,396] ::
 #[k7,188,"is_amount",439,55,2,444,32,TY,396] ::
 #[k7,195,"is_wish",447,57,1,451,33,TY,396] ::
 #[k5,200,"are_wishes",454,61,1,457,34,TY,396] ::
 #[k7,207,"asks_for_seats",460,65,1,464,35,TY,396] ::
 #[k7,214,"is_group",467,73,1,471,36,TY,396] ::
 #[k5,219,"worth_in",474,79,2,477,37,TY,396] ::
 #[k7,226,"is_sign",486,84,1,490,41,km3,480] ::
 #[k5,231,"is_row",493,86,1,496,42,km3,480] ::
 #[k5,236,"is_hall",499,90,1,502,43,km3,480] ::
 #[k7,243,"sign_at",505,96,2,512,44,km3,480] ::
 #[k7,250,"takes",517,103,2,522,46,km4,515] ::
 #[k5,255,"seats_of",525,105,2,528,47,km4,515] ::
 #[k5,260,"fits",531,110,3,534,48,km4,515] ::
 #[k5,265,"places_of",537,115,2,540,49,km4,515] ::
 #[k7,272,"apart",545,121,4,553,51,_Z,543] ::
 #[k5,277,"those_that_sit",556,126,2,559,52,_Z,543] ::
 #[k5,282,"apart_from_all",562,128,3,565,53,_Z,543] ::
 #[k5,287,"keeps",568,130,3,571,54,_Z,543] ::
 #[k5,292,"worth_of",574,135,2,577,55,_Z,543] ::
 #[k7,299,"fast_seating",584,139,3,591,58,TX,580] ::
 (nat_lit 307,k7 "ways" "ways" 594 144 3 307 603) ::
 (nat_lit 308,kf "ways" 59 TX 580 307<|.ref 301) ::
 #[k7,314,"small_start",606,150,3,613,60,TX,580] ::
 #[k7,321,"with_place",616,155,3,622,61,TX,580] ::
 #[k5,326,"open_among",625,157,3,628,62,TX,580] ::
 #[k5,331,"with_one_more",631,159,5,634,63,TX,580] ::
 #[k7,338,"seatings_from",637,168,4,646,64,TX,580] ::
 (nat_lit 346,k7 "first_of_all" "first_of_all" 649 174 3 346 656) ::
 (nat_lit 347,kf "first_of_all" 65 TX 580 346<|.ref 340) ::
 #[k7,353,"best_among",661,178,2,667,67,km7,659] ::
 (nat_lit 361,k7 "best_of_all" "best_of_all" 670 180 3 361 677) ::
 (nat_lit 362,kf "best_of_all" 68 km7 659 361<|.ref 355) ::
 #[k5,366,"all_places",682,184,2,685,70,km8,680] ::
 #[k7,373,"spots_of",688,186,4,695,71,km8,680] ::
 #[k5,378,"paper_beside",698,188,3,701,72,km8,680] ::
 (nat_lit 386,k7 "paper_of" "paper_of" 704 196 3 386 710) ::
 (nat_lit 387,kf "paper_of" 73 km8 680 386<|.ref 380) ::
 #[k7,393,"show_group",719,203,1,727,77,_Y,713] ::
 #[k5,398,"number_in",730,213,1,733,78,_Y,713] ::
 #[k5,403,"wishes_in",736,217,1,739,79,_Y,713] ::
 #[k7,410,"group_in",742,219,1,750,80,_Y,713] ::
 #[k7,417,"read_group",753,228,1,759,81,_Y,713] ::
 #[k7,425,"without",771,241,2,776,85,pW,762] ::
 #[k7,432,"show_place",779,243,1,783,86,pW,762] ::
 #[k7,446,"__init__","Desk.__init__",798,247,2,803,(rN 87 0),pW,762] ::
 #[k7,453,"number_of","Desk.number_of",806,255,2,813,(rN 87 1),pW,762] ::
 #[k5,458,"ask","Desk.ask",816,262,2,819,(rN 87 2),pW,762] ::
 #[k7,465,"fast","Desk.fast",822,279,2,828,(rN 87 3),pW,762] ::
 #[k7,472,"away","Desk.away",831,283,2,837,(rN 87 4),pW,762] ::
 #[k7,479,"where","Desk.where",840,289,2,845,(rN 87 5),pW,762] ::
 #[k7,486,"at_hand","Desk.at_hand",848,292,1,852,(rN 87 6),pW,762] ::
 #[k7,493,"seating","Desk.seating",855,295,1,859,(rN 87 7),pW,762] ::
 #[k7,500,"worth","Desk.worth",862,298,1,866,(rN 87 8),pW,762] ::
 #[k5,505,"show_all","Desk.show_all",869,301,1,872,(rN 87 9),pW,762] ::
 #[k7,512,"say","Desk.say",875,306,2,881,(rN 87 10),pW,762] ::
 #[k7,519,"do","Desk.do",884,318,3,890,(rN 87 11),pW,762] ::
 (nat_lit 522,{cls:=.type "dict",data:=.dict #[kd P "__module__" 793 (.str (EQ "besideseats.desk") 762),ki P "__firstlineno__" 797 245,kr P "__init__" 805 447,kr P "number_of" 815 454,kr P "ask" 821 459,kr P "fast" 830 466,kr P "away" 839 473,kr P "where" 847 480,kr P "at_hand" 854 487,kr P "seating" 861 494,kr P "worth" 868 501,kr P "show_all" 874 506,kr P "say" 883 513,kr P "do" 892 520,kr P "__static_attributes__" 897 521,kr P "__dict__" 899 524,kr P "__weakref__" 901 525,kd P "__doc__" 902 .none] 4}) ::
 (nat_lit 523,{cls:=.type "type",data:=.cls {name:=EQ "Desk",bases:=[.type "object"],mro:=[.ref 523,.type "object"],ns:=522,qualname:=EQ "Desk"},slots:=#[Ch,Ch,AC (.str (EQ "Desk") 786),AC (.str (EQ "Desk") 794),AC (.builtin "object.__new__"),AC (.bool Da)]}) ::
 #[k7,533,"_law_cell_at",907,329,2,912,89,lP,905] ::
 #[k7,540,"_law_mixed",915,333,2,923,90,lP,905] ::
 #[k7,547,"_law_digits",926,340,2,933,91,lP,905] ::
 #[k7,554,"_law_names",936,346,2,950,92,lP,905] ::
 #[k7,561,"_law_letters",953,359,1,958,93,lP,905] ::
 #[k5,566,"_law_hall",961,362,1,964,94,lP,905] ::
 #[k5,571,"_law_any",967,377,2,970,95,lP,905] ::
 #[k7,578,"_law_group",973,384,3,988,96,lP,905] ::
 #[k7,585,"_law_groups",991,397,3,1001,97,lP,905] ::
 #[k5,590,"_law_places",1004,407,2,1007,98,lP,905] ::
 #[k7,597,"_law_ways",1010,416,3,1018,99,lP,905] ::
 #[k7,604,"_law_written",1021,422,1,1028,100,lP,905] ::
 #[k7,611,"_law_place",1031,435,1,1035,101,lP,905] ::
 #[k7,618,"_law_all",1038,437,1,1045,102,lP,905] ::
 #[k7,625,"_law_done",1048,444,3,1054,103,lP,905] ::
 #[k7,632,"_law_row",1057,456,2,1062,104,lP,905] ::
 #[k7,639,"_law_told",1065,462,4,1074,105,lP,905] ::
 #[k7,646,"law",1077,478,1,1090,106,lP,905] ::
 (nat_lit 301,kN) ::
 (nat_lit 340,kN) ::
 (nat_lit 355,kN) ::
 (nat_lit 380,kN) ::
 (nat_lit 419,{cls:=.type "tuple",data:=.seq #[(.str (EQ "ask") 766),(.str (EQ "fast") 767),(.str (EQ "away") 768),(.str (EQ "where") 769)]})::[]) (by kernel_rfl)
def KA:U δ:=3::[23,36,48,60,72,84,96,108,124,127,146,155,162,169,174,181,188,195,200,207,214,219,226,231,236,243,250,255,260,265,272,277,282,287,292,299,307,314,321,326,331,338,346,353,361,366,373,378,386,393,398,403,410,417,425,432,446,453,458,465,472,479,486,493,500,505,512,519,522,533,540,547,554,561,566,571,578,585,590,597,604,611,618,625,632,639,646].flatMap (λ a=>[a,a+1])++[301,340,355,380,419]
end iY
end Lake
namespace PySem.W.Fast
def tw157625415876933955:=()
def tw5739075853498500717:=()
omit env_41 heap_46 heap_725 sts_49 sts_64 sts_79 sts_94 sts_109 sts_124 sts_139 sts_154 sts_169 sts_191 sts_234 sts_298 sts_368 sts_449 sts_505 sts_601 sts_681 tree_47 tree_63 tree_78 tree_93 tree_108 tree_123 tree_138 tree_153 tree_168 tree_190 tree_233 tree_297 tree_367 tree_448 tree_504 tree_600 tree_680 tree_724 view_39 o_161213395280569760459355252634978238927415785424843707824151005494893100674957184314076193814296608078743792081359436236982486900876729424396669113398241328552476889675141472893212169983848858941110174041608106442489856
end PySem.W.Fast
open Lake PySem PySem.W PyProof.Rows
set_option maxRecDepth 100000 in
theorem PySem.Challenge.cw_besideseats_k85_rows_as_deeds_holds : PySem.Challenge.rw_besideseats_k85_rows_as_deeds.Holds := by
 w_on;o_law;o_head (PySem.W.kHook iY.KK iY.KA (λ _=>by kernel_rfl));(case hw=>w_witness2)
 k_fill
 refine iY.walk (l:=PySem.Challenge.rw_besideseats_k85_rows_as_deeds) rfl rfl (λ w h Y=>PySem.W.kIn_of Y) ?F ?L
 case L=>
  intro w;refine' ZS.Wa (r1:=_) (r2:=_) ?n ?h1 ?h2 ?g1 ?g2 ?ne
  (case n=>kernel_rfl)
  (case h1=>refine' ZS.ub ?a1 ?l1 ?e1 ?tl1 ?tp1;(case a1=>k_is);(case l1=>k_is);(case e1=>exact rfl);(case tl1=>k_is);(case tp1=>exact rfl))
  (case g1=>exact .inr rfl)
  (case h2=>refine' ZS.ub ?a2 ?l2 ?e2 ?tl2 ?tp2;(case a2=>k_is);(case l2=>k_is);(case e2=>exact rfl);(case tl2=>k_is);(case tp2=>exact rfl))
  (case g2=>exact .inr rfl)
  (case ne=>exact λ c P c' P' e1 e2=>by first|(cases e1;done)|(cases e2;done)|(cases e1;cases e2;decide))
 case F=>
  intro w mg fa h KX G hmg;refine' iY.all_mk hmg ⟨KX,G,?_,?_,?_,?_,?_,?_,?_,?_,?_,?_,?_,?_,?_,?_,?_,?_,?_,?_,?_,?_,?_,?_,?_,?_,?_,?fw27,?_,?_,?_,?_,?_,?fw33,?fw34,?fw35,?_,?_,?fw38,?fw39,?_,?_,?_,?_,?_,?_,?_,?fw47,?fw48,?fw49,?fw50,?fw51,?fw52,?fw53,?fw54,?fw55,?fw56,?fw57,?fw58,?_,?_,?_,?_,?_,?_,?_,?_,?_,?_,?_,?_,?_,?_,?_,?_,?_,?_,?_,?_,?_,?_,?_,?_,?_,?_,?_,?_,?_,?_,?_,?_,(zqx ?fw91),(zqx<|zqx ⟨?fw92,?fw93⟩),(zqx ?fw94),(zqx ?fw95),(zqx ?fw96),(zqx ?fw97),(zqx ?fw98),(zqx ?fw99),(zqx ?fw100),(zqx ?fw101),(zqx ?fw102),(zqx ?fw103),(zqx ?fw104),(zqx ?fw105),(zqx ?fw106),(zqx ?fw107),(zqx ?fw108),(zqx ?fw109),(zqx ?fw110),?fw111,?fw112,(zqx ?fw113),?fw114,?fw115,?fw116,?fw117,?fw118,?fw119,?fw120,?fw121,?fw122,?fw123,?fw124,?fw125,?fw126,?fw127,?fw128,?fw129,?fw130,?fw131,?fw132,?fw133,?fw134,?fw135,?fw136,?fw137,?fw138,?fw139,?fw140,?fw141,?fw142,?fw143,?fw144,?fw145,?fw146,?fw147,?fw148,?fw149⟩
  (case fw91|fw92|fw94|fw95|fw96|fw97|fw98|fw99|fw100|fw101|fw102|fw103|fw104|fw105|fw106|fw107|fw108|fw109|fw110|fw111|fw113|fw114|fw115|fw116|fw117|fw118=>k_is)
  (case fw93|fw112=>first|rfl|kernel_rfl|decide +kernel)
  (case fw126=>refine' ⟨?_,?_,?_,?_⟩<;>kernel_rfl)
  (case fw125=>refine' ⟨?_,?_,?_,?_,?_,?_,?_⟩<;>kernel_rfl)
  (case fw133=>refine' ⟨?_,?_,?_⟩<;>kernel_rfl)
  (case fw119|fw120|fw121|fw122|fw123|fw124|fw127|fw128|fw129|fw130|fw131|fw132|fw134|fw135|fw136|fw137|fw138|fw139|fw140|fw141|fw142|fw143|fw144|fw145|fw146|fw148|fw149=>kernel_rfl)
  (case fw27|fw33|fw35|fw39=>refine' ZS.qt.mk' ?a ?l ?c ?k ?dq;(case a=>k_is);(case l=>k_is);(case c=>k_is);(case k=>k_is);(case dq=>k_is))
  (case fw47|fw48|fw49|fw50|fw51|fw52|fw53|fw54|fw55|fw56|fw57|fw58|fw147=>refine' ZS.e?.mk' ?a ?l ?c ?k ?i;(case a=>k_is);(case l=>k_is);(case c=>k_is);(case k=>k_is);(case i=>k_is))
  (case fw34|fw38=>refine' ZS.vU.mk' ?a ?l ?c ?k ?tl ?tp;(case a=>k_is);(case l=>k_is);(case c=>k_is);(case k=>k_is);(case tl=>k_is);(case tp=>exact rfl))
  all_goals first|k_is|(refine' ZS.bK.mk' ?a ?l ?c ?k;(case a=>k_is);(case l=>k_is);(case c=>k_is);(case k=>k_is))
#print axioms PySem.Challenge.cw_besideseats_k85_rows_as_deeds_holds
