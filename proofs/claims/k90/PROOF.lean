import PyProof.Rows.All
import Wide.All
import OpenK.AllK
import Wide.FinOn
import Lean
import KE.KMinKey
import PyProof.WalkInts
import PyProof.SeqI3
import PyProof.Rows.CallKwBuiltin
import KE.KIsAll
import PyProof.StrBlock
import PyProof.Rows.StrLen
import KE.KIntText
import PyProof.StrLawsFirst
import PyProof.StrLawsIn
import PyProof.AttrMissHeap
import KE.KDictOf
import PyProof.EqAt
import PyProof.EqKinds
import PyProof.TupleCall
import KE.KLam
import PySem.Challenge.RW_besideseats_k90_whole_from_texts
set_option Elab.async false
set_option linter.all false
set_option maxRecDepth 100000
set_option genSizeOf false
set_option compiler.extract_closed false
set_option bootstrap.genMatcherCode false
abbrev γ:=@List
abbrev δ:=@PySem.Addr
abbrev ε:=@Option
abbrev ζ:=@PySem.Value
abbrev η:=@PySem.Shared
abbrev θ:=@PySem.Expr
abbrev ι:=@PySem.Obj
abbrev μ:=@PySem.Heap
abbrev ν:=@PySem.Stmt
abbrev ξ:=@PySem.World
abbrev ο:=@PySem.Program
abbrev π:=@PySem.Keyword
abbrev ς:=@PySem.Scope
abbrev τ:=@PySem.Around
abbrev υ:=@PySem.FuncData
def T0:=@PySem.wpAny_bind
def o0:=@Nat.le_refl
def v0:=@PySem.wpAny_pure
def W1:=@PySem.Heap.get?_push_of_some
def M2:=@if_pos
def P3:=@List.getElem?_map
def v6:=@List.mem_cons
def f8:=@if_neg
def A00:=@PySem.Heap.lt_size
def A01:=@List.getElem?_eq_getElem
def A02:=@List.getElem?_eq_some_iff
def A03:=@List.length_map
def A04:=@Option.some.inj
def A05:=@List.map_cons
def A06:=@Ne.symm
def A07:=@List.size_toArray
def A08:=@List.mem_map
def A09:=@List.mem_cons_of_mem
def A10:=@Nat.ne_of_lt
def A11:=@PySem.Heap.get?_push_size
def A12:=@List.mem_cons_self
def A13:=@List.mem_singleton
def A14:=@List.map_map
def A15:=@List.mem_of_getElem?
def A16:=@Nat.le_trans
def A17:=@Nat.lt_of_lt_of_le
def A18:=@List.not_mem_nil
def A19:=@List.mem_range
def A20:=@if_true
def A21:=@or_false
def A22:=@congrArg
def A23:=@List.length_append
def A24:=@PySem.wpAny_seqItems
def A25:=@List.mem_append
def A26:=@PySem.wpAny_mono
def A27:=@List.all_eq_true
def A28:=@PySem.wpAny_tryCatch
def A29:=@PySem.sizeLine_eq
def A30:=@PySem.W.mg_of
def A31:=@List.getElem?_set_self
def A32:=@PySem.wpAny_field
def A33:=@PySem.wpAny_holding
def A34:=@List.length_take
def A35:=@decide_eq_true
def A36:=@List.length_cons
def A37:=@PySem.F.plain_max_loop
def A38:=@List.getElem?_set
def A39:=@List.mem_append_right
def A40:=@Bool.and_eq_true
def A41:=@PySem.Heap.get?_update_other
def A42:=@PySem.wpAny_letGo
def A43:=@List.mem_filter
def A44:=@List.getElem?_append_left
def A45:=@Bool.false_eq_true
def A46:=@PySem.plainId_quiet
def A47:=@PySem.W.mg_none_of
def A48:=@Nat.ne_of_gt
def A49:=@List.nodup_cons
def A50:=@PySem.call_meets
def A51:=@Nat.zero_le
def A52:=@List.getElem?_set_ne
def A53:=@PySem.wpAny_truthy_bool
def A54:=@List.getElem?_append_right
def A55:=@PySem.wpAny_newObj_type
def A56:=@Option.map_eq_some_iff
def A57:=@Bool.eq_iff_iff
def A58:=@PySem.Heap.size_push
def A59:=@List.take_length
def A60:=@PySem.codeAny_builtin
def A61:=@Nat.mul_le_mul
def A62:=@List.filter_cons_of_neg
def A63:=@decide_eq_false
def A64:=@List.getElem?_replicate
def A65:=@if_false
def A66:=@PySem.Heap.get?_update_self
def A67:=@List.map_congr_left
def A68:=@List.map_append
def A69:=@List.append_assoc
def A70:=@List.length_filter_le
def A71:=@Nat.lt_succ_self
def A72:=@PySem.mem_of_lookup
def A73:=@List.map_nil
def A74:=@beq_iff_eq
def A75:=@PySem.Obj.data_mapFields
def A76:=@not_or
def A77:=@PySem.Around.under_plainId
def A78:=@PySem.wpAny_updateSeq
def A79:=@Nat.lt_irrefl
def A80:=@Nat.le_of_lt
def A81:=@List.length_nil
def A82:=@List.lookup_cons
def A83:=@Option.map_some
def A84:=@Nat.le_succ
def A85:=@Int.toNat_natCast
def A86:=@List.filter_eq_self
def A87:=@List.append_nil
def A88:=@PySem.typeIs_str
def A89:=@decide_eq_true_eq
def A90:=@List.filter_cons_of_pos
def A91:=@Option.isSome_iff_exists
def A92:=@List.any_cons
def A93:=@List.getElem_mem
def A94:=@List.length_range
def A95:=@PySem.W.kia_one
def A96:=@PySem.wpAny_rule
def A97:=@PySem.wpAny_pyIter_tuple
def A98:=@PySem.wpAny_pyIter_list
def A99:=@Option.some.injEq
def B00:=@PySem.F.entry_max_loop
def B01:=@PySem.F.plain_min_loop
def B02:=@List.filter_append
def B03:=@PyProof.Rows.callWith_type1
def B04:=@PySem.wpAny_callSpecial?_slot
def B05:=@PyProof.Rows.slot_tuple_getitem
def B06:=@PySem.wpAny_call_entry
def B07:=@Nat.lt_trans
def B08:=@Nat.not_lt
def B09:=@List.nodup_nil
def B10:=@PySem.wpAny_setField_rec
def B11:=@Nat.min_eq_left
def B12:=@Nat.add_comm
def B13:=@List.mem_flatMap
def B14:=@List.filter_map
def B15:=@List.mem_append_left
def B16:=@PySem.wpAny_passesOwn
def B17:=@PySem.wpAny_Call_Name_kw
def B18:=@List.length_replicate
def B19:=@PySem.wpAny_typeOf
def B20:=@List.length_set
def B21:=@List.getElem_range
def B22:=@List.range_succ
def B23:=@Bool.true_and
def B24:=@of_decide_eq_true
def B25:=@List.drop_eq_getElem_cons
def B26:=@List.lookup_cons_self
def B27:=@Nat.lt_succ_of_lt
def B28:=@PySem.Walks.list
def B29:=@List.countP_cons
def B30:=@List.take_add_one
def B31:=@Nat.zero_add
def B32:=@not_false_eq_true
def B33:=@PySem.F.slot_tuple_mul
def B34:=@PySem.wpAny_ite_false
def B35:=@List.nil_append
def B36:=@Array.getElem?_eq_some_iff
def B37:=@Nat.add_mul
def B38:=@Nat.succ_mul
def B39:=@List.ext_getElem
def B40:=@List.getElem?_of_mem
def B41:=@Nat.mul_le_mul_right
def B42:=@Array.length_toList
def B43:=@PySem.intBits_le_64
def B44:=@PySem.codeAny_mono
def B45:=@PySem.wpAny_loadPart'
def B46:=@PySem.concat_meets
def B47:=@Bool.false_ne_true
def B48:=@beq_self_eq_true
def B49:=@List.getElem?_eq_none
def B50:=@List.forIn_cons
def B51:=@bne_iff_ne
def B52:=@PySem.F.slot_tuple_iterator_next
def B53:=@PySem.wpAny_setField
def B54:=@PySem.Obj.isFreed_of_fields
def B55:=@PySem.wpAny_pyIter_enum
def B56:=@PySem.wpAny_onRaise
def B57:=@PySem.F.slot_zip_next
def B58:=@PySem.F.plainAttrs_str
def B59:=@List.foldl_cons
def B60:=@Nat.lt_of_le_of_lt
def B61:=@PySem.W.hideAll_none
def B62:=@List.set_cons_succ
def B63:=@List.map_set
def B64:=@List.flatMap_cons
def B65:=@List.ext_getElem?
def B66:=@List.filter_eq_nil_iff
def B67:=@List.filter_flatMap
def B68:=@beq_eq_false_iff_ne
def B70:=@List.filterMap_cons
def B71:=@PySem.wpAny_execs_nil
def B73:=@List.mem_filterMap
def B74:=@PySem.Calls.spliced_cons
def B75:=@List.of_mem_zip
def B76:=@List.getElem?_take_of_lt
def B77:=@PySem.noFill_tuple_add
def B79:=@PySem.F.slot_tuple_add
def B80:=@PySem.F.entry_tuple_add
def B81:=@PySem.F.args_tuple_add_2
def B82:=@List.length_drop
def B84:=@List.drop_length
def B85:=@Bool.or_eq_true
def B86:=@PySem.SeqAt.EqAt.same
def B87:=@List.all_cons
def B88:=@List.getElem_of_mem
def B89:=@PySem.F.plainAttrs_list
def B90:=@List.cons_append
def B91:=@List.sum_cons
def B92:=@PySem.Obj.cls_mapFields
def B93:=@PySem.AutoSeq1.wpAny_loadPart'
def B95:=@List.getElem?_cons_succ
def B96:=@Nat.succ_ne_self
def B97:=@PySem.wpAny_updateSeq_pair
def B98:=@PySem.wpAny_pyIter_zip
def B99:=@PySem.F.entry_tuple_mul
def C00:=@PySem.F.args_tuple_mul_2
def C01:=@ne_true_of_eq_false
def C02:=@PySem.F.slot_str_split
def C03:=@PySem.F.entry_str_split
def C04:=@PySem.F.args_str_split_2
def C05:=@PySem.F.kind_max
def C06:=@PySem.F.plain_max
def C07:=@PySem.F.entry_max
def C08:=@List.getElem?_cons_zero
def C09:=@PySem.F.entry_min_loop
def C10:=@List.take_of_length_le
def C11:=@Int.toNat_of_nonneg
def C12:=@decide_eq_decide
def C13:=@Nat.pow_le_pow_right
def C14:=@PySem.F.slot_tuple_getattribute
def C15:=@Nat.add_assoc
def C16:=@Int.emod_nonneg
def C17:=@List.set_cons_zero
def C18:=@Int.natCast_mul
def C19:=@List.pairwise_iff_getElem
def C20:=@Int.zero_add
def C21:=@Prod.mk.injEq
def C22:=@List.filter_congr
def C23:=@List.filter_filter
def C24:=@List.pairwise_map
def C25:=@PySem.Calls.Name_function_global
def C30:=@Int.fdiv_eq_ediv_of_nonneg
def C31:=@PySem.W.cellsFrom_some
def C34:=@List.eq_nil_of_length_eq_zero
def C35:=@List.cons_lt_cons_iff
def C36:=@List.set_eq_of_length_le
def C37:=@List.range_succ_eq_map
def C38:=@PySem.F.entry_tuple_iterator_next
def C39:=@PySem.F.args_tuple_iterator_next_1
def C41:=@PySem.F.slot_str_join
def C42:=@PySem.F.type_str_join
def C43:=@PyProof.Rows.split_le
def C44:=@List.drop_eq_nil_of_le
def C45:=@PySem.F.slot_dict_get
def C46:=@List.mem_iff_getElem?
def C47:=@List.mem_or_eq_of_mem_set
def C48:=@List.set_getElem_self
def C49:=@List.countP_le_length
namespace L2
open PySem PySem.Spec PyProof.Rows
abbrev Se(a:θ)(es:γ θ)(E:PySem.Env):Prop:=starEach (a::es) E=(false,eval a E)::starEach es E
abbrev Nd(x:Str):Prop:=(x==("__debug__":Str))=false
abbrev Pn(p:Pos)(es:γ θ)(E:PySem.Env):Prop:=(backTo p (starEach es E)).any (·.1)=false
end L2
open L2 (Se Nd Pn)
namespace L2
open PySem PySem.Spec PyProof.Rows
abbrev Key:=Sum Int Str
def uM:Key->ζ->Bool
  |.inl k,v=>Value.isInt k v
  |.inr x,v=>Value.isStrOf x v
def XW(w:ξ):Key->Int
  |.inl k=>hashInt k
  |.inr x=>hashStr w x
theorem dO:∀{k}{v},uM k v=true->(∃i t,k=Sum.inl i/\v=Value.int i t)\/(∃x t,k=Sum.inr x/\v=Value.str x t)
  |.inl i,v,h=>by obtain⟨t,e⟩:=Value.isInt_shape h;exact .inl ⟨i,t,rfl,e⟩
  |.inr x,v,h=>by obtain⟨t,e⟩:=Value.isStrOf_shape h;exact .inr ⟨x,t,rfl,e⟩
theorem pe(i:Int)(t:Tok):uM (.inl i) (.int i t)=true:=by simp[uM,Value.isInt]
theorem DQ(x:Str)(t:Tok):uM (.inr x) (.str x t)=true:=by simp[uM,Value.isStrOf]
theorem NH(a b:Int):decide ((Sum.inl a:Key)=Sum.inl b)=(a==b):=by
  by_cases e:a=b
  ·subst e;simp
  · have h:¬(Sum.inl a:Key)=Sum.inl b:=λ q=>e (Sum.inl.inj q);rw[A63 h];exact(B68.mpr e).symm
theorem ND(a b:Str):decide ((Sum.inr a:Key)=Sum.inr b)=decide (a=b):=by
  by_cases e:a=b
  ·subst e;simp
  · have h:¬(Sum.inr a:Key)=Sum.inr b:=λ q=>e (Sum.inr.inj q);rw[A63 h,A63 e]
theorem NG(a:Int)(b:Str):decide ((Sum.inl a)=Sum.inr b)=false:=A63 (λ q=>nomatch q)
theorem NF(a:Str)(b:Int):decide ((Sum.inr a)=Sum.inl b)=false:=A63 (λ q=>nomatch q)
def cY (prog:ο) (w:ξ):PySem.KeyKind prog w Key where
  is:=uM
  hash:=XW w
  inj:=λ v a b ha hb=>by
    rcases dO ha with⟨i,t,rfl,rfl⟩|⟨x,t,rfl,rfl⟩
    · rcases dO hb with⟨j,u,rfl,e⟩|⟨y,u,rfl,e⟩
      ·injection e with e1 _;rw[e1]
      ·exact nomatch e
    · rcases dO hb with⟨j,u,rfl,e⟩|⟨y,u,rfl,e⟩
      ·exact nomatch e
      ·injection e with e1 _;rw[e1]
  byValue:=λ k v h=>by rcases dO h with⟨i,t,rfl,rfl⟩|⟨x,t,rfl,rfl⟩<;>rfl
  pyHash:=λ hv h=>by
    rcases dO hv with⟨i,t,rfl,rfl⟩|⟨x,t,rfl,rfl⟩
    ·exact wpAny_pyHash_int h
    ·exact wpAny_pyHash_str h
  eqBool:=λ hu hv h=>by
    rcases dO hu with⟨i,t,rfl,rfl⟩|⟨x,t,rfl,rfl⟩
    · rcases dO hv with⟨j,u,rfl,rfl⟩|⟨y,u,rfl,rfl⟩
      ·rw[NH]at h;exact wpAny_eqBool_int h
      ·rw[NG]at h;exact SeqAt.EqAt.int_str i t y u _ _ _ _ h
    · rcases dO hv with⟨j,u,rfl,rfl⟩|⟨y,u,rfl,rfl⟩
      ·rw[NF]at h;exact SeqAt.EqAt.str_int x t j u _ _ _ _ h
      ·rw[ND]at h;exact wpAny_eqBool_str h
  «strs»:=λ k x t v h=>by
    rcases dO h with⟨i,u,rfl,e⟩|⟨y,u,rfl,e⟩
    ·exact nomatch e
    · injection e with e1 _
      subst e1;cases v<;>rfl
theorem yG(prog:ο)(w:ξ)(i:Int)(t:Tok):(cY prog w).is (.inl i) (.int i t)=true:=pe i t
theorem yF(prog:ο)(w:ξ)(x:Str)(t:Tok):(cY prog w).is (.inr x) (.str x t)=true:=DQ x t
inductive V where
  |non|bl (b:Bool)|int (i:Int)|str (x:Str)|TQ (b:Array UInt8)|Tb (b:UInt64)|ref (a:Addr)|ty (n:String)
  deriving DecidableEq
def RelV:V->ζ->Prop
  |.non,u=>u=Value.none
  |.bl b,u=>u=Value.bool b
  |.int i,u=>∃t,u=Value.int i t
  |.str x,u=>∃t,u=Value.str x t
  |.TQ b,u=>∃t,u=Value.bytes b t
  |.Tb b,u=>∃t,u=Value.float b t
  |.ref a,u=>u=Value.ref a
  |.ty n,u=>u=Value.type n
abbrev Vals:γ V->γ ζ->Prop:=Paired RelV
theorem Vals.length(r:Vals xs us):xs.length=us.length:=Paired.length r
theorem Vals.get:∀{xs}{us}{i:Nat} {x},Vals xs us->xs[i]?=some x->∃u,us[i]?=some u/\RelV x u
  |_,_,_,_,.nil,e=>by simp at e
  |_,_,0,_,.cons r _,e=>by simp at e;subst e;exact⟨_,rfl,r⟩
  |_,_,i+1,x,.cons _ t,e=>by obtain⟨u,h1,h2⟩:=Vals.get (i:=i) (x:=x) t (by simpa using e);exact⟨u,by simpa using h1,h2⟩
theorem Vals.set(r:RelV x u):∀{xs}{us} i,Vals xs us->Vals (xs.set i x) (us.set i u)
  |_,_,_,.nil=>.nil
  |_,_,0,.cons _ t=>.cons r t
  |_,_,i+1,.cons q t=>.cons q (Vals.set r i t)
theorem Vals.append:∀{xs ys}{us ws},Vals xs us->Vals ys ws->Vals (xs++ys) (us++ws)
  |_,_,_,_,.nil,s=>s
  |_,_,_,_,.cons r t,s=>.cons r (Vals.append t s)
theorem Vals.take:∀{xs}{us} n,Vals xs us->Vals (xs.take n) (us.take n)
  |_,_,0,_=>.nil
  |_,_,_+1,.nil=>.nil
  |_,_,n+1,.cons r t=>.cons r (Vals.take n t)
theorem Vals.drop:∀{xs}{us} n,Vals xs us->Vals (xs.drop n) (us.drop n)
  |_,_,0,r=>r
  |_,_,_+1,.nil=>.nil
  |_,_,n+1,.cons _ t=>Vals.drop n t
def qE:ε V->ε ζ->Prop
  |some v,some u=>RelV v u
  |none,none=>True
  |_,_=>False
def KV{κ:Type}:γ (κ×V)->γ (κ×ζ)->Prop:=Paired λ(p:κ×V) (q:κ×ζ)=>p.1=q.1/\RelV p.2 q.2
def kV:Key->V
  |.inl i=>.int i
  |.inr x=>.str x
inductive HO where
    |lst (xs:List V)
    |tup (xs:List V)
    |dK (kvs:List (Key×V))|dT (kvs:List (List Key×V))
    |set (S:Int->Bool) (n:Nat)
    |ins (C dx:Addr) (fs:List (Str×V))
    |own (x:Addr)
    |xd (fs:List (Str×V))
    |met (f x:Addr)
    |UZ (lo hi:Int)
    |fM (o:Obj) (u:HO)
    |E9 (q:Str)
  |IE (q:Str)
    |ext (φ:Heap->Prop)
abbrev Hp:=δ->ε HO
def P6:HO->Prop
  |.E9 _=>True
  |.IE _=>True
  |_=>False
def upd(H:Hp)(a:δ)(o:HO):Hp:=λ b=>if b=a then some o else H b
theorem bC:upd H a o a=some o:=by unfold upd;rw[M2 rfl]
theorem aV(h:b≠a):upd H a o b=H b:=by unfold upd;rw[f8 h]
theorem IW:upd (upd H a o) a u=upd H a u:=by funext b;unfold upd;split<;>rfl
theorem LY{H:Hp}(h:H a=some o)(h':H b=some u)(d:o≠u):a≠b:=by intro e;subst e;rw[h]at h';exact d (A04 h')
theorem b!{H:Hp}(h:H a=some o)(h':H b=none):a≠b:=by intro e;subst e;rw[h]at h';cases h'
section
variable (P:ο) (w:ξ)
def oM(h:μ)(a:δ)(xs:Array ζ):Prop:=∃n,h.get? a=some {cls:=.type "tuple",data:=.seq xs n}
theorem oM.is(p:oM h a xs):IsTup h a xs:=by obtain⟨n,e⟩:=p;exact⟨_,e,rfl,n,rfl⟩
theorem oM.new(h:μ)(xs:Array ζ):oM (h.push {cls:=.type "tuple",data:=.seq xs}) h.objs.size xs:=⟨_,A11 _ rfl⟩
def gQ(H:Hp)(h:μ)(a:δ):HO->Prop
  |.lst xs=>xs.length<=sizeLine/\∃(its:γ ζ) (n:Nat),Vals xs its/\h.get? a=some {cls:=.type "list",data:=.seq its.toArray n}
  |.tup xs=>xs.length<=sizeLine/\∃its:γ ζ,Vals xs its/\oM h a its.toArray
  |.dK kvs=>kvs.length<=sizeLine/\(a==sysModules)=false/\∃vs,KV kvs vs/\h.DictOf (cY P w) a vs
  |.dT kvs=>kvs.length<=sizeLine/\(a==sysModules)=false/\∃xs:γ (γ Key×δ×ζ),
      Paired (λ(p:γ Key×V) (q:γ Key×δ×ζ)=>p.1=q.1/\H q.2.1=some (.tup (p.1.map kV))/\RelV p.2 q.2.2) kvs xs /\
      ∃o es ep,h.get? a=some o/\o.ExactDict/\o.data=.dict es ep/\es.toList=xs.map (entryOfKey (tupleKind (cY P w)))/\(xs.map (·.1)).Nodup
  |.set S n=>h.SetOf (intKind P w) a S n
  |.ins C dx fs=>H dx=some (.own a)/\fs.length<=1000/\dx≠a/\h.get? a=some (PySem.W.instObj C dx) /\
      ∃mA,h.Ns1 dx mA/\(∀f,qE (fs.lookup f) (mA f))/\PySem.Within mA (fs.map (·.1))
  |.own _=>∃o,h.get? a=some o
  |.xd fs=>∃mA,h.Ns1 a mA/\∀f,qE (fs.lookup f) (mA f)
  |.UZ lo hi=>∃t u v,h.get? a=some {cls:=.type "range",data:=.fields #[.int lo t,.int hi u,.int 1 v]}
  |.fM o u=>h.get? a=some o/\gQ H h a u
  |.E9 q=>∃ps:Array ζ,h.get? a=some {cls:=.none,data:=.fields ps}/\TriplesOk ps.toList/\∀pos cv,codeAmong pos ps.toList=some cv->∃c,cv=.ref c/\H c=some (.IE q)
  |.IE q=>h.CodeRec (.ref a) q
  |.met f x=>h.get? a=some (PySem.W.methodObj (.ref f) (.ref x))
  |.ext φ=>φ h/\(∃o,h.get? a=some o)/\∀h1 h2:μ,φ h1->(∀o,h1.get? a=some o->h2.get? a=some o)->φ h2
def l8(H:Hp)(h:μ):Prop:=∀a o,H a=some o->gQ P w H h a o
end
section
theorem gQ.lt(x:gQ P w H h a o):a<h.objs.size:=by
  cases o with
  |lst xs=>obtain⟨_,_,_,_,e⟩:=x;exact A00 e
  |tup xs=>obtain⟨_,_,_,p⟩:=x;exact p.is.lt
  |dK kvs=>obtain⟨_,_,_,_,o,_,_,e,_⟩:=x;exact A00 e
  |dT kvs=>obtain⟨_,_,_,_,o,_,_,e,_⟩:=x;exact A00 e
  |set S n=>obtain⟨o,_,_,_,e,_⟩:=x;exact A00 e
  |ins C dx fs=>obtain⟨_,_,_,e,_⟩:=x;exact A00 e
  |own y=>obtain⟨_,e⟩:=x;exact A00 e
  |xd fs=>obtain⟨_,⟨_,_,_,e,_⟩,_⟩:=x;exact A00 e
  |UZ lo hi=>obtain⟨_,_,_,e⟩:=x;exact A00 e
  |fM ob u=>obtain⟨e,_⟩:=x;exact A00 e
  |E9 q=>obtain⟨_,e,_⟩:=x;exact A00 e
  |IE q=>obtain⟨_,_,_,_,e1,e2,_⟩:=x;cases e1;exact A00 e2
  |met f y=>exact A00 (x)
  |ext φ=>obtain⟨_,⟨_,e⟩,_⟩:=x;exact A00 e
theorem Paired.Gn:∀{l₁}{l₂},Paired F l₁ l₂->(∀a b,F a b->G a b)->Paired G l₁ l₂
  |_,_,.nil,_=>.nil
  |_,_,.cons r t,f=>.cons (f _ _ r) (Paired.Gn t f)
theorem gQ.qq(x:gQ P w H h a o)(k:∀b u,(b=a\/H b=some (.own a))->h.get? b=some u->h'.get? b=some u)
    (ho:∀b,H b=some (.own a)->H' b=some (.own a)) (ht:∀b xs,H b=some (.tup xs)->H' b=some (.tup xs)) (hp:∀b u,P6 u->H b=some u->H' b=some u):gQ P w H' h' a o:=by
  induction o with
  |lst xs=>obtain⟨z,its,n,r,e⟩:=x;exact⟨z,its,n,r,k _ _ (.inl rfl) e⟩
  |tup xs=>obtain⟨z,its,r,ob,e⟩:=x;exact⟨z,its,r,ob,k _ _ (.inl rfl) e⟩
  |dK kvs=>obtain⟨z,y,vs,r,ob,es,ep,e,c⟩:=x;exact⟨z,y,vs,r,ob,es,ep,k _ _ (.inl rfl) e,c⟩
  |dT kvs=>obtain⟨z,y,xs,r,ob,es,ep,e,c⟩:=x;exact⟨z,y,xs,Paired.Gn r λ p q z=>⟨z.1,ht _ _ z.2.1,z.2.2⟩,ob,es,ep,k _ _ (.inl rfl) e,c⟩
  |set S n=>obtain⟨ob,es,ep,t,e,c⟩:=x;exact⟨ob,es,ep,t,k _ _ (.inl rfl) e,c⟩
  |ins C dx fs=>obtain⟨d,z,ne,e,mA,⟨od,es,ep,e2,c⟩,r⟩:=x;exact⟨ho _ d,z,ne,k _ _ (.inl rfl) e,mA,⟨od,es,ep,k _ _ (.inr d) e2,c⟩,r⟩
  |own y=>obtain⟨ob,e⟩:=x;exact⟨ob,k _ _ (.inl rfl) e⟩
  |xd fs=>obtain⟨mA,⟨od,es,ep,e,c⟩,r⟩:=x;exact⟨mA,⟨od,es,ep,k _ _ (.inl rfl) e,c⟩,r⟩
  |UZ lo hi=>obtain⟨t,u,v,e⟩:=x;exact⟨t,u,v,k _ _ (.inl rfl) e⟩
  |fM ob u ih=>obtain⟨e,q⟩:=x;exact⟨k _ _ (.inl rfl) e,ih q⟩
  |E9 q=>obtain⟨ps,e,t,g⟩:=x;exact⟨ps,k a _ (.inl rfl) e,t,λ pos cv r=>let ⟨c,e1,e2⟩:=g pos cv r;⟨c,e1,hp c _ trivial e2⟩⟩
  |IE q=>obtain⟨c,oc,vs,t,e1,e2,r⟩:=x;cases e1;exact⟨a,oc,vs,t,rfl,k a _ (.inl rfl) e2,r⟩
  |met f y=>have e:=x;exact k a _ (.inl rfl) e
  |ext φ=>obtain⟨p,⟨o,e⟩,st⟩:=x;exact⟨st _ _ p λ o q=>k _ _ (.inl rfl) q,⟨o,k _ _ (.inl rfl) e⟩,st⟩
theorem l8.lt(x:l8 P w H h)(e:H a=some o):a<h.objs.size:=(x a o e).lt
theorem l8.fresh(x:l8 P w H h)(e:h.objs.size<=a):H a=none:=by
  cases q:H a with
  |none=>rfl
  |some u=>exact absurd (A17 (x.lt q) e) (A79 _)
theorem l8.kept(x:l8 P w H h)(k:∀b u,h.get? b=some u->h'.get? b=some u):l8 P w H h':=λ a o e=>(x a o e).qq (λ b u _ q=>k b u q) (λ _ q=>q) (λ _ _ q=>q) λ _ _ _ q=>q
theorem l8.laid(x:l8 P w H h)(k:∀b u,h.get? b=some u->h'.get? b=some u)(hp:h.objs.size<=a)(new:gQ P w (upd H a o) h' a o):l8 P w (upd H a o) h':=λ b u e=>by
  have hn:=x.fresh hp;by_cases hb:b=a
  ·subst hb;rw[bC]at e;cases e;exact new
  · rw[aV hb]at e;exact(x b u e).qq (λ c v _ q=>k c v q) (λ c q=>by rw[aV (b! q hn)];exact q) (λ c xs q=>by rw[aV (b! q hn)];exact q) λ c v _ q=>by rw[aV (b! q hn)];exact q
end
def Rd(H:Hp)(a:δ)(u:HO):Prop:=H a=some u\/∃o,H a=some (.fM o u)
theorem Rd.of(h:H a=some u):Rd H a u:=.inl h
theorem Rd.ok(r:Rd H a u)(x:l8 P w H h):gQ P w H h a u:=by
  rcases r with r|⟨o,r⟩
  ·exact x a u r
  · obtain⟨_,q⟩:=x a _ r;exact q
def Ug:ε HO->Prop
  |some (.lst _)=>True
  |some (.dK _)=>True
  |some (.dT _)=>True
  |some (.set _ _)=>True
  |some (.ins _ _ _)=>True
  |some (.ext _)=>True
  |_=>False
section
theorem l8.write (ok:l8 P w H h) (mu:Ug (H x)) (he:e=x\/H e=some (.own x)) (k:∀ b u,b≠e->h.get? b=some u->h'.get? b=some u) (PM:∃ u,h'.get? e=some u)
    (new:gQ P w (upd H x o') h' x o'):l8 P w (upd H x o') h':=λ b u q=>by
  have RC:∀c y,H c=some (.own y)->c≠x:=λ c y r z=>by subst z;rw[r]at mu;exact mu
  have Xm:∀c xs,H c=some (.tup xs)->c≠x:=λ c xs r z=>by subst z;rw[r]at mu;exact mu
  have Xn:∀c u,P6 u->H c=some u->c≠x:=λ c u p r z=>by subst z;rw[r]at mu;cases u<;>first|exact p|exact mu
  by_cases hb:b=x
  ·subst hb;rw[bC]at q;cases q;exact new
  · rw[aV hb]at q;by_cases N9:b=e
    · have q':H b=some (.own x):=by
        rcases he with z|z
        ·exact absurd (N9.trans z) hb
        ·rw[N9];exact z
      rw[q]at q';cases q';obtain⟨v,hv⟩:=PM;exact⟨v,by rw[N9];exact hv⟩
    · refine(ok b u q).qq (λ c v hc r=>k c v ?_ r) (λ c r=>by rw[aV (RC c b r)];exact r) (λ c xs r=>by rw[aV (Xm c xs r)];exact r) λ c v p r=>by rw[aV (Xn c v p r)];exact r
      rcases hc with rfl|hc
      ·exact N9
      · rintro rfl;rcases he with z|z
        ·exact RC c b hc z
        ·rw[hc]at z;cases z;exact hb rfl
end
structure Un(fs ex:List Addr)(H H':Hp)(h h':Heap):Prop where
  keep:∀b o,h.get? b=some o->H b=none->b∉fs->b∉ex->h'.get? b=some o
  slot:∀b o,h.get? b=some o->H b=none->b∈fs->b∉ex->∃sl,h'.get? b=some {o with slots:=sl}
  free:∀b o,h.get? b=some o->H b=none->b∉ex->H' b=none
  there:∀b o,h.get? b=some o->b∉ex->∃o',h'.get? b=some o'
  qj:∀b xs,H b=some (.tup xs)->H' b=some (.tup xs)
  pz:∀b o u,H b=some (.fM o u)->H' b=some (.fM o u)
  mT:∀b u,P6 u->H b=some u->H' b=some u
section
theorem Un.any(u:Un fs ex H H1 h h1)(q:h.get? b=some ob)(n:H b=none)(hx:b∉ex):∃sl,h1.get? b=some {ob with slots:=sl}:=by
  by_cases hb:b∈fs
  ·exact u.slot b ob q n hb hx
  ·exact⟨_,u.keep b ob q n hb hx⟩
theorem Un.kept(k:∀b u,h.get? b=some u->h'.get? b=some u):Un fs ex H H h h':=
  ⟨λ b ob q _ _ _=>k b ob q,λ b ob q _ _ _=>⟨_,k b ob q⟩,λ _ _ _ n _=>n,λ b ob q _=>⟨ob,k b ob q⟩,λ _ _ q=>q,λ _ _ _ q=>q,λ _ _ _ q=>q⟩
theorem Un.refl:Un fs ex H H h h:=Un.kept λ _ _ q=>q
theorem Un.laid(k:∀b u,h.get? b=some u->h'.get? b=some u)(hp:h.objs.size<=a)(hn:H a=none):Un fs ex H (upd H a o) h h' where
  keep:=λ b u q _ _ _=>k b u q
  slot:=λ b u q _ _ _=>⟨_,k b u q⟩
  free:=λ b u q n _=>by rw[aV (A10 (A17 (A00 q) hp))];exact n
  there:=λ b u q _=>⟨u,k b u q⟩
  qj:=λ b xs q=>by rw[aV (b! q hn)];exact q
  pz:=λ b u xs q=>by rw[aV (b! q hn)];exact q
  mT:=λ b u _ q=>by rw[aV (b! q hn)];exact q
theorem Un.write(mu:Ug (H x))(he:e=x\/H e=some (.own x))(k:∀b u,b≠e->h.get? b=some u->h'.get? b=some u)(PM:∃u,h'.get? e=some u):Un fs ex H (upd H x o) h h':=by
  have hx:∀b,H b=none->b≠x:=λ b n z=>by subst z;rw[n]at mu;exact mu
  have hb:∀b,H b=none->b≠e:=λ b n z=>by
    subst z;rcases he with r|r
    ·exact hx b n r
    ·rw[n]at r;cases r
  have hm:∀b u,H b=some u->¬Ug (some u)->b≠x:=λ b u q nm z=>by subst z;rw[q]at mu;exact nm mu
  refine⟨λ b u q n _ _=>k b u (hb b n) q,λ b u q n _ _=>⟨_,k b u (hb b n) q⟩,λ b u q n _=>by rw[aV (hx b n)];exact n,λ b u q _=>?_,
    λ b xs q=>by rw[aV (hm b _ q λ z=>z)];exact q,λ b u xs q=>by rw[aV (hm b _ q λ z=>z)];exact q,λ b u p q=>by rw[aV (hm b _ q λ z=>by cases u<;>first|exact p|exact z)];exact q⟩
  by_cases N9:b=e
  ·subst N9;exact PM
  ·exact⟨u,k b u N9 q⟩
theorem Un.mono(u:Un fs ex H H1 h h1)(hs:∀b∈fs,b∈fs')(hx:∀b∈ex,b∈ex'):Un fs' ex' H H1 h h1:=
  ⟨λ b ob q n hb he=>u.keep b ob q n (λ z=>hb (hs b z)) λ z=>he (hx b z),λ _ _ q n _ he=>u.any q n λ z=>he (hx _ z),λ b ob q n he=>u.free b ob q n λ z=>he (hx b z),λ b ob q he=>u.there b ob q λ z=>he (hx b z),u.qj,u.pz,u.mT⟩
end
def My(h:μ)(H:Hp):γ δ:=(List.range h.objs.size).filter λ a=>(H a).isSome
def t8(h:μ)(H:Hp):μ:=PySem.W.hideAll h (My h H)
theorem D!(h:μ)(H:Hp):(t8 h H).objs.size=h.objs.size:=PySem.W.hideAll_size _ _
theorem G0(e:h.get? b=some o)(n:H b=none):(t8 h H).get? b=some o:=
  PySem.W.hideAll_get _ e λ hm=>by have q:=(A43.mp hm).2;rw[n]at q;simp at q
theorem JR(e:(t8 h H).get? b=some o):h.get? b=some o/\H b=none:=by
  have e':=PySem.W.of_hideAll _ e;refine⟨e',?_⟩;cases q:H b with
  |none=>rfl
  |some x=>have hm:b∈My h H:=A43.mpr ⟨A19.mpr (A00 e'),by simp[q]⟩;have z:(t8 h H).get? b=none:=PySem.W.hideAll_none _ hm;rw[z]at e;cases e
def Lw(g h:μ)(L:δ):γ (δ×ι):=(List.range h.objs.size).filterMap λ a=>if a=L\/(g.get? a).isSome=true then none else(h.get? a).map λ o=>(a,o)
def rest(g h:μ)(L d:δ):γ (δ×ι):=(Lw g h L).filter λ p=>decide (p.1≠d)
structure Mod(K:W.Frag)(mg:Str->Option Value)(base:Heap):Prop where
  Vo:K.In base
  glob:base.Ns mainGlobals mg
  blt:∃mb,base.Ns builtinsNs mb/\∀x:Str,x≠ "__name__" -> mb x=bootBuiltins x
  nolimit:base.NoLimit
def dN:γ Str:=["best_among","paper_beside"]
def jx(x:Str):Str:=x++ ".<locals>."++ "<lambda>"
def BMain(mg:Str->ε ζ)(base:μ):Prop:=∃bm ob,mg "__builtins__"=some (.ref bm)/\bm≠builtinsNs/\base.get? bm=some ob/\ob.cls=.type "module" /\ ob.dict=some builtinsNs/\ob.data=.plain
def vg(K:W.Frag)(mg:Str->ε ζ)(base:μ)(H:Hp):Prop:=∀x∈dN,∀c P,PySem.W.tabIn K x=some (c,P)->H P=some (.E9 (jx x))/\PySem.W.CodeHd base c P/\BMain mg base
theorem vg.up{K:W.Frag}(t:vg K mg base H)(u:∀b o,P6 o->H b=some o->H' b=some o):vg K mg base H':=λ x hx c P e=>⟨u _ _ trivial (t x hx c P e).1,(t x hx c P e).2⟩
structure Cx where
  prog:Program
  w:World
  K:W.Frag
  mg:Str->Option Value
  base:Heap
  A:Around
  N:List Str
  s₀:Shared
  H₀:Hp
  env:Env
  outer:List Env
  stack:List Env
  ex:List Addr
  fn:Str->Bool
  calm:Bool
  pn:List (Addr×Obj)
  xe:Value->Shared->Prop
def qN(l:γ Env):γ δ:=l.filterMap (·.frame)
abbrev Cx.fs(X:Cx):γ δ:=qN X.outer
def Mh(sc:ς)(x:Str):Prop:=sc.names.lookup x=some .local\/sc.names.lookup x=some .cell\/sc.names.lookup x=some .free
def Loc(sc:ς)(x:Str):Prop:=sc.names.lookup x=some .local\/sc.names.lookup x=some .cell
def Look(env:Env)(h:μ)(m:Str->ε ζ)(x:Str)(u:ζ):Prop:=
  (env.kindOf x=some .local/\m x=some u)\/((env.kindOf x=some .cell\/env.kindOf x=some .free)/\∃c,env.cells.lookup x=some c/\h.IsCell c (some u))
structure Cx.Ok(X:Cx):Prop where
  mod:Mod X.K X.mg X.base
  kind:X.env.scope.kind=.function
  glob:X.env.globals=mainGlobals
  blt:X.env.builtins=builtinsNs
  above:X.s₀.heap.objs.size<=X.env.locals
  inj:∀x y c,X.env.cells.lookup x=some c->X.env.cells.lookup y=some c->x=y
  has:∀x,(X.env.kindOf x=some .cell\/X.env.kindOf x=some .free)->∃c,X.env.cells.lookup x=some c
  TK:∀x c,X.fn x=true->X.env.cells.lookup x=some c->X.s₀.heap.objs.size<=c
  hd:X.calm=true->X.A.handled=none
  frames:X.A.frames=some X.stack
  Jb:X.stack=X.outer\/(X.stack=X.env::X.outer/\X.env.frame=some X.env.locals)
  exf:∀b∈X.ex,b≠X.env.locals/\∀x c,X.env.cells.lookup x=some c->c≠b
  bs:∀b o,X.base.get? b=some o->X.s₀.heap.get? b=some o/\X.H₀ b=none
  IF:X.base.objs.size<=X.s₀.heap.objs.size
  Dw:∀b o,X.base.get? b=some o->b∉X.ex
  K4:∀b∈X.ex,b∉X.fs
  og:X.s₀.heap.FunFrames X.base X.outer
  Oe:∀b∈X.fs,X.H₀ b=none
structure Inv(X:Cx)(χ:List (Addr×Obj))(σ:List (Option V))(H:Hp)(s:Shared):Prop where
  ok:X.Ok
  os:s.os=X.s₀.os
  bare:AllBare s.gens
  base:Un X.fs X.ex X.H₀ H X.s₀.heap s.heap
  loc:∃m,s.heap.Ns X.env.locals m/\∀(i:Nat)(x:Str)(v:V),X.N[i]?=some x->σ[i]?=some (some v)->Mh X.env.scope x->∃u,RelV v u/\Look X.env s.heap m x u
  cell:∀x c,X.env.cells.lookup x=some c->∃v,s.heap.IsCell c v
  free:H X.env.locals=none
  jE:∀x c,X.env.cells.lookup x=some c->H c=none
  pin:∀p∈X.pn++χ,s.heap.get? p.1=some p.2/\H p.1=none/\p.1≠X.env.locals/\p.1∉X.fs/\∀v,p.2.data≠.cell v
  cC:l8 X.prog X.w H s.heap
  len:σ.length=X.N.length
  tab:vg X.K X.mg X.base H
section
variable {X:Cx}
theorem Cx.Ok.Xp(ok:X.Ok)(e:X.base.get? b=some o):b∉X.fs:=λ hb=>by have:=(ok.og.mem hb).1;rw[e]at this;cases this
theorem Inv.bs(I:Inv X χ σ H s):∀b o,X.base.get? b=some o->s.heap.get? b=some o/\H b=none:=λ b o e=>⟨I.base.keep b o (I.ok.bs b o e).1 (I.ok.bs b o e).2 (I.ok.Xp e) (I.ok.Dw b o e),I.base.free b o (I.ok.bs b o e).1 (I.ok.bs b o e).2 (I.ok.Dw b o e)⟩
theorem Inv.bk(I:Inv X χ σ H s):∀b o,X.base.get? b=some o->s.heap.get? b=some o:=λ b o e=>(I.bs b o e).1
theorem Inv.mod(I:Inv X χ σ H s):Mod X.K X.mg X.base:=I.ok.mod
theorem Inv.B4(I:Inv X χ σ H s):X.K.In s.heap:=I.ok.mod.Vo.keeps I.bk
theorem Inv.nolimit(I:Inv X χ σ H s):s.heap.NoLimit:=I.ok.mod.nolimit.keeps I.bk
theorem Inv.fr(I:Inv X χ σ H s):∃m,Fr X.base X.env.locals s.heap m:=
  let ⟨m,hn,_⟩:=I.loc
  ⟨m,hn,I.bk,A16 I.ok.IF I.ok.above⟩
theorem Inv.lt(I:Inv X χ σ H s):X.env.locals<s.heap.objs.size:=let ⟨_,hn,_⟩:=I.loc;hn.lt
theorem Inv.sz(I:Inv X χ σ H s):X.s₀.heap.objs.size<=s.heap.objs.size:=A16 I.ok.above (A80 I.lt)
theorem Inv.Np(I:Inv X χ σ H s)(h:s.heap.objs.size<=a):a∉X.fs:=λ hb=>by obtain⟨_,o,ho,_⟩:=I.ok.og.mem hb;exact absurd (A17 (A00 ho) (A16 I.sz h)) (A79 _)
theorem Inv.Lk(I:Inv X χ σ H s):∀x c,X.env.cells.lookup x=some c->c≠X.env.locals:=λ x c e z=>by obtain⟨v,o,ho,hd⟩:=I.cell x c e;obtain⟨m,⟨o',es,ep,mM,pq,_⟩,_⟩:=I.loc;rw[z,mM]at ho;cases ho;rw[pq]at hd;cases hd
theorem Inv.og(I:Inv X χ σ H s):s.heap.FunFrames X.base X.outer:=by
  have all:∀l,(∀b∈qN l,b∈X.fs)->X.s₀.heap.FunFrames X.base l->s.heap.FunFrames X.base l:=by
    intro l
    induction l with
    |nil=>intro _ _;trivial
    |cons env r ih=>intro hs hl;obtain⟨hk,⟨L,o,hf,hn,ho,hd⟩,hr⟩:=hl;have hL:=hs L (by unfold qN;rw[B70,hf];exact A12);obtain⟨sl,e⟩:=I.base.slot L o ho (I.ok.Oe L hL) hL λ z=>I.ok.K4 L z hL;exact⟨hk,⟨L,_,hf,hn,e,hd⟩,ih (λ b hb=>hs b (by unfold qN;rw[B70,hf];exact A09 _ hb)) hr⟩
  exact all _ (λ _ hb=>hb) I.ok.og
theorem Inv.stack(I:Inv X χ σ H s):s.heap.FunFrames X.base X.stack:=by
  rcases I.ok.Jb with e|⟨e,hf⟩
  ·rw[e];exact I.og
  · rw[e];obtain⟨m,hn,_⟩:=I.loc;refine .cons (by rw[I.ok.kind];decide) hf hn ?_ I.og;exact Heap.get?_none_of_le (A16 I.ok.IF I.ok.above)
theorem Inv.oZ(I:Inv X χ σ H s):∀b∈qN X.stack,b∈X.env.locals::X.fs:=λ b hb=>by
  rcases I.ok.Jb with e|⟨e,hf⟩
  ·rw[e]at hb;exact A09 _ hb
  · rw[e]at hb;unfold qN at hb;rw[B70,hf]at hb;exact hb
theorem Inv.qG(I:Inv X χ σ H s):∀b∈qN X.stack,H b=none:=λ b hb=>by
  rcases v6.mp (I.oZ b hb)with e|hb
  ·rw[e];exact I.free
  · obtain⟨_,o,ho,_⟩:=I.ok.og.mem hb;exact I.base.free b o ho (I.ok.Oe b hb) λ z=>I.ok.K4 b z hb
theorem Inv.step{ch:γ δ}(I:Inv X χ σ H s)
    (xp:∀b∈ch,(b∈X.ex\/X.s₀.heap.objs.size<=b)/\b≠X.env.locals/\(∀x c,X.env.cells.lookup x=some c->c≠b)/\∀p∈X.pn++χ,p.1≠b)
    (keep:∀b o,b≠X.env.locals->b∉X.fs->b∉ch->s.heap.get? b=some o->H b=none->h'.get? b=some o)
    (slot:∀b o,b≠X.env.locals->b∈X.fs->b∉ch->s.heap.get? b=some o->H b=none->∃sl,h'.get? b=some {o with slots:=sl}) (free:∀b o,b∉ch->s.heap.get? b=some o->H b=none->H' b=none)
    (there:∀b o,b∉ch->s.heap.get? b=some o->∃o',h'.get? b=some o')
    (qj:∀b xs,H b=some (.tup xs)->H' b=some (.tup xs)) (pz:∀b o u,H b=some (.fM o u)->H' b=some (.fM o u)) (mT:∀b u,P6 u->H b=some u->H' b=some u)
    (ns:∀m,s.heap.Ns X.env.locals m->h'.Ns X.env.locals m) (cC:l8 X.prog X.w H' h') (hg:AllBare g') :
    Inv X χ σ H' {s with heap:=h',gens:=g',drawn:=d',toks:=t'}:=by
  have RK:∀b o,X.s₀.heap.get? b=some o->b≠X.env.locals:=λ b o e=>A10 (A17 (A00 e) I.ok.above);have Gf:∀b o,X.s₀.heap.get? b=some o->b∉X.ex->b∉ch:=λ b o e hx hb=>by
    rcases(xp b hb).1 with z|z
    ·exact hx z
    ·exact absurd (A17 (A00 e) z) (A79 _)
  have cellK:∀x c,X.env.cells.lookup x=some c->∀v,s.heap.IsCell c v->h'.IsCell c v:=λ x c e v ⟨o,ho,hd⟩=>by
    have yD:=λ z=>(xp c z).2.2.1 x c e rfl;by_cases hc:c∈X.fs
    · obtain⟨sl,q⟩:=slot c o (I.Lk x c e) hc yD ho (I.jE x c e);exact⟨_,q,hd⟩
    ·exact⟨o,keep c o (I.Lk x c e) hc yD ho (I.jE x c e),hd⟩
  refine⟨I.ok,I.os,hg,⟨λ b o e n hb hx=>?_,λ b o e n hb hx=>?_,λ b o e n hx=>?_,λ b o e hx=>?_,λ b xs e=>qj b xs (I.base.qj b xs e),λ b o xs e=>pz b o xs (I.base.pz b o xs e),λ b u p e=>mT b u p (I.base.mT b u p e)⟩,?_,λ x c e=>?_,?_,λ x c e=>?_,λ p hp=>?_,cC,I.len,I.tab.up mT⟩
  ·exact keep b o (RK b o e) hb (Gf b o e hx) (I.base.keep b o e n hb hx) (I.base.free b o e n hx)
  · obtain⟨sl,e1⟩:=I.base.slot b o e n hb hx;obtain⟨WJ,e2⟩:=slot b _ (RK b o e) hb (Gf b o e hx) e1 (I.base.free b o e n hx);exact⟨WJ,e2⟩
  · obtain⟨o',e1⟩:=I.base.there b o e hx;exact free b o' (Gf b o e hx) e1 (I.base.free b o e n hx)
  · obtain⟨o',e1⟩:=I.base.there b o e hx;exact there b o' (Gf b o e hx) e1
  · obtain⟨m,hn,hl⟩:=I.loc;refine⟨m,ns m hn,λ i x v e1 e2 e3=>?_⟩;obtain⟨u,r,l⟩:=hl i x v e1 e2 e3;refine⟨u,r,?_⟩;rcases l with l|⟨k,c,e,z⟩
    ·exact .inl l
    ·exact .inr ⟨k,c,e,cellK x c e _ z⟩
  · obtain⟨v,z⟩:=I.cell x c e;exact⟨v,cellK x c e v z⟩
  · obtain⟨m,⟨o,_,_,ho,_⟩,_⟩:=I.loc;exact free _ o (λ z=>(xp _ z).2.1 rfl) ho I.free
  · obtain⟨v,o,ho,hd⟩:=I.cell x c e;exact free c o (λ z=>(xp c z).2.2.1 x c e rfl) ho (I.jE x c e)
  · obtain⟨e,n,ne,nf,d⟩:=I.pin p hp;have yD:=λ z=>(xp p.1 z).2.2.2 p hp rfl;exact⟨keep p.1 p.2 ne nf yD e n,free p.1 p.2 yD e n,ne,nf,d⟩
theorem Inv.un(I:Inv X χ σ H s)(u:Un X.fs [] H H' s.heap h')(cC:l8 X.prog X.w H' h'):Inv X χ σ H' {s with heap:=h',toks:=t'}:=by
  obtain⟨m,⟨o,es,ep,ho,r⟩,_⟩:=id I.loc;obtain⟨sl,hL⟩:=u.any ho I.free (by simp);exact I.step (ch:=[]) (λ _ z=>nomatch z) (λ b o _ hb _ e n=>u.keep b o e n hb (by simp)) (λ b o _ hb _ e n=>u.slot b o e n hb (by simp)) (λ b o _ e n=>u.free b o e n (by simp)) (λ b o _ e=>u.there b o e (by simp)) u.qj u.pz u.mT (λ m' hm=>by obtain⟨o',Ze,Zk,mM,r'⟩:=hm;rw[ho]at mM;cases mM;exact⟨_,Ze,Zk,hL,r'⟩) cC I.bare
theorem Inv.call(I:Inv X χ σ H s)(u:Un (qN X.stack) ch H H' s.heap h')(cC:l8 X.prog X.w H' h')(hg:AllBare g')
    (xp:∀b∈ch,(b∈X.ex\/X.s₀.heap.objs.size<=b)/\b≠X.env.locals/\(∀x c,X.env.cells.lookup x=some c->c≠b)/\∀p∈X.pn++χ,p.1≠b) :
    Inv X χ σ H' {s with heap:=h',gens:=g',drawn:=d',toks:=t'}:=by
  obtain⟨m,⟨o,es,ep,ho,r⟩,_⟩:=id I.loc;obtain⟨sl,hL⟩:=u.any ho I.free λ z=>(xp _ z).2.1 rfl;exact I.step xp (λ b o hL hb hc e n=>u.keep b o e n (λ z=>(v6.mp (I.oZ b z)).elim hL hb) hc) (λ b o _ _ hc e n=>u.any e n hc) (λ b o hc e n=>u.free b o e n hc) (λ b o hc e=>u.there b o e hc) u.qj u.pz u.mT (λ m' hm=>by obtain⟨o',Ze,Zk,mM,r'⟩:=hm;rw[ho]at mM;cases mM;exact⟨_,Ze,Zk,hL,r'⟩) cC hg
theorem Inv.turned(I:Inv X χ σ H s)(k:∀b o,b≠it->s.heap.get? b=some o->h'.get? b=some o)(hn:H it=none)(hL:it≠X.env.locals)
    (h1:it∈X.ex\/X.s₀.heap.objs.size<=it) (h2:∀x c,X.env.cells.lookup x=some c->c≠it) (h3:∀p∈X.pn++χ,p.1≠it):Inv X χ σ H {s with heap:=h',toks:=t'}:=by
  have _A:∀b u,H b=some u->b≠it:=λ b u e z=>by rw[z,hn]at e;cases e
  refine I.step (ch:=[it]) (λ b hb=>?_) (λ b o _ _ hc e _=>k b o (λ z=>hc (by simp[z])) e) (λ b o _ _ hc e _=>⟨_,k b o (λ z=>hc (by simp[z])) e⟩) (λ _ _ _ _ n=>n)
    (λ b o hc e=>⟨o,k b o (λ z=>hc (by simp[z])) e⟩) (λ _ _ e=>e) (λ _ _ _ e=>e) (λ _ _ _ e=>e) (λ m hm=>?_) (λ b u e=>?_) I.bare
  · have e:b=it:=by simpa using hb
    subst e;exact⟨h1,hL,h2,h3⟩
  · obtain⟨o,es,ep,ho,r⟩:=hm;exact⟨o,es,ep,k _ o (A06 hL) ho,r⟩
  · refine(I.cC b u e).qq (λ c v hc q=>k c v ?_ q) (λ _ q=>q) (λ _ _ q=>q) λ _ _ _ q=>q;rcases hc with z|z
    ·rw[z];exact _A b u e
    ·exact _A c _ z
theorem Inv.tok(I:Inv X χ σ H s)(t:Nat):Inv X χ σ H {s with toks:=t}:=I.un Un.refl I.cC
theorem Inv.kept(I:Inv X χ σ H s)(k:∀b u,s.heap.get? b=some u->h'.get? b=some u):Inv X χ σ H {s with heap:=h',toks:=t'}:=I.un (Un.kept k) (I.cC.kept k)
theorem Inv.laid(I:Inv X χ σ H s)(k:∀b u,s.heap.get? b=some u->h'.get? b=some u)(hp:s.heap.objs.size<=a)(new:gQ X.prog X.w (upd H a o) h' a o):
    Inv X χ σ (upd H a o) {s with heap:=h',toks:=t'}:=I.un (Un.laid k hp (I.cC.fresh hp)) (I.cC.laid k hp new)
theorem Inv.write(I:Inv X χ σ H s)(mu:Ug (H x))(he:e=x\/H e=some (.own x))(k:∀b u,b≠e->s.heap.get? b=some u->h'.get? b=some u)(PM:∃u,h'.get? e=some u)
    (new:gQ X.prog X.w (upd H x o) h' x o):Inv X χ σ (upd H x o) {s with heap:=h',toks:=t'}:=I.un (Un.write mu he k PM) (I.cC.write mu he k PM new)
theorem Inv.BN(I:Inv X χ σ H s)(h:∀p∈uC,s.heap.get? p.1=some p.2/\H p.1=none/\p.1≠X.env.locals/\p.1∉X.fs/\∀v,p.2.data≠.cell v):Inv X uC σ H s:=
  ⟨I.ok,I.os,I.bare,I.base,I.loc,I.cell,I.free,I.jE,λ p hp=>(A25.mp hp).elim (λ z=>I.pin p (B15 _ z)) (h p),I.cC,I.len,I.tab⟩
theorem yC{N:γ Str}(hN:N.Nodup){i j:Nat}(a:N[i]?=some x)(b:N[j]?=some x):i=j:=by obtain⟨h1,e1⟩:=A02.mp a;obtain⟨h2,e2⟩:=A02.mp b;exact(List.getElem_inj hN).mp (e1.trans e2.symm)
theorem uw (I:Inv X χ σ H s) (hN:X.N.Nodup) (hi:X.N[i]?=some x) (hx:Loc X.env.scope x) (r:RelV v u)
    (h:∀s',Inv X χ (σ.set i (some v)) H s'->(∃a,Heap.SameBut a s.heap s'.heap/\(a=X.env.locals\/X.env.cells.lookup x=some a))/\(X.env.scope.names.lookup x=some .local->s.toks<s'.toks)->Q () s') (hf:X.fn x=true\/X.env.scope.names.lookup x=some .local:=by first|exact .inl rfl|exact .inr rfl|assumption):wpAny M A (storeName X.env x u) Q E s:=by
  obtain⟨m,hn,hl⟩:=id I.loc;have YL:(X.env.scope.kind==.class||(X.env.scope.kind==.module&&X.env.locals != X.env.globals))=false:=by rw[I.ok.kind];rfl
  have _1:i<σ.length:=by rw[I.len];exact(A02.mp hi).1
  have Lk:=I.Lk;have tracked:∀{a}{h'},(∃o,s.heap.get? a=some o/\H a=none)->Heap.SameBut a s.heap h'->l8 X.prog X.w H h':=λ {a h'} ha hs b ob e=>by
    obtain⟨_,_,p8⟩:=ha;refine(I.cC b ob e).qq (λ c w' hc q=>(hs.2 c ?_).trans q) (λ _ q=>q) (λ _ _ q=>q) λ _ _ _ q=>q;rintro rfl;rcases hc with rfl|hc
    ·rw[p8]at e;cases e
    ·rw[p8]at hc;cases hc
  rcases hx with hk|hk
  · refine wpAny_storeName_local hk hn (λ h' Iw hs=>?_) YL;obtain⟨oL,_,_,hoL,_⟩:=id hn;refine h _ ⟨I.ok,I.os,I.bare,⟨λ b o e n hb hx=>?_,λ b o e n hb hx=>?_,I.base.free,λ b o e hx=>?_,I.base.qj,I.base.pz,I.base.mT⟩,⟨_,Iw,λ j y v' e1 e2 e3=>?_⟩,λ y c e=>?_,I.free,I.jE,λ p hp=>?_,tracked ⟨oL,hoL,I.free⟩ hs,by simpa using I.len,I.tab⟩ ⟨⟨_,hs,.inl rfl⟩,λ _=>A71 _⟩
    ·exact(hs.2 b (A10 (A17 (A00 e) I.ok.above))).trans (I.base.keep b o e n hb hx)
    · obtain⟨sl,e1⟩:=I.base.slot b o e n hb hx;exact⟨sl,(hs.2 b (A10 (A17 (A00 e) I.ok.above))).trans e1⟩
    · obtain⟨o',e1⟩:=I.base.there b o e hx;exact⟨o',(hs.2 b (A10 (A17 (A00 e) I.ok.above))).trans e1⟩
    · by_cases hj:j=i
      · subst hj;rw[hi]at e1;cases e1;rw[A31 _1]at e2;cases e2;exact⟨u,r,.inl ⟨hk,by simp⟩⟩
      · rw[A52 (A06 hj)]at e2;obtain⟨u',r',q⟩:=hl j y v' e1 e2 e3;refine⟨u',r',?_⟩;rcases q with⟨k,e⟩|⟨k,c,e,z⟩
        · refine .inl ⟨k,?_⟩;have:y≠x:=λ e=>hj (yC hN e1 (e▸hi));simp[this,e]
        ·exact .inr ⟨k,c,e,z.sameBut hs (Lk y c e)⟩
    · obtain⟨w',z⟩:=I.cell y c e;exact⟨w',z.sameBut hs (Lk y c e)⟩
    · obtain⟨e,n,ne,nf,d⟩:=I.pin p hp;exact⟨(hs.2 p.1 ne).trans e,n,ne,nf,d⟩
  · have SI:X.fn x=true:=by
      rcases hf with z|z
      ·exact z
      ·rw[z]at hk;cases hk
    obtain⟨c,hc⟩:=I.ok.has x (.inl hk);obtain⟨w',z⟩:=I.cell x c hc;refine wpAny_storeName_cell I.ok.kind hk hc z (λ h' xq hs=>?_);obtain⟨oc,VF,Yk⟩:=id z;refine h {s with heap:=h'} ⟨I.ok,I.os,I.bare,⟨λ b o e n hb hx=>?_,λ b o e n hb hx=>?_,I.base.free,λ b o e hx=>?_,I.base.qj,I.base.pz,I.base.mT⟩,⟨m,hn.sameBut hs (A06 (Lk x c hc)),λ j y v' e1 e2 e3=>?_⟩,λ y c' e=>?_,I.free,I.jE,λ p hp=>?_,tracked ⟨oc,VF,I.jE x c hc⟩ hs,by simpa using I.len,I.tab⟩ ⟨⟨c,hs,.inr hc⟩,λ z=>absurd (hk.symm.trans z) (by decide)⟩
    ·exact(hs.2 b (A10 (A17 (A00 e) (I.ok.TK x c SI hc)))).trans (I.base.keep b o e n hb hx)
    · obtain⟨sl,e1⟩:=I.base.slot b o e n hb hx;exact⟨sl,(hs.2 b (A10 (A17 (A00 e) (I.ok.TK x c SI hc)))).trans e1⟩
    · obtain⟨o',e1⟩:=I.base.there b o e hx;exact⟨o',(hs.2 b (A10 (A17 (A00 e) (I.ok.TK x c SI hc)))).trans e1⟩
    · by_cases hj:j=i
      · subst hj;rw[hi]at e1;cases e1;rw[A31 _1]at e2;cases e2;exact⟨u,r,.inr ⟨.inl hk,c,hc,xq⟩⟩
      · rw[A52 (A06 hj)]at e2;obtain⟨u',r',q⟩:=hl j y v' e1 e2 e3;refine⟨u',r',?_⟩;rcases q with q|⟨k,c',e,z'⟩
        ·exact .inl q
        · refine .inr ⟨k,c',e,z'.sameBut hs ?_⟩;rintro rfl;exact hj (yC hN e1 (I.ok.inj _ _ _ e hc▸hi))
    · by_cases VQ:c'=c
      ·subst VQ;exact⟨_,xq⟩
      · obtain⟨w2,z2⟩:=I.cell y c' e;exact⟨w2,z2.sameBut hs VQ⟩
    · obtain⟨e,n,ne,nf,d⟩:=I.pin p hp;refine⟨(hs.2 p.1 ?_).trans e,n,ne,nf,d⟩;intro q;rw[q,VF]at e;have q':=A04 e;exact d w' (by rw[<-q'];exact Yk)
theorem rA(I:Inv X χ σ H s)(hN:X.N.Nodup)(hi:X.N[i]?=some x)(hx:Loc X.env.scope x)(r:RelV v u)
    (h:∀s',Inv X χ (σ.set i (some v)) H s'->Q () s') (hf:X.fn x=true\/X.env.scope.names.lookup x=some .local:=by first|exact .inl rfl|exact .inr rfl|assumption):wpAny M A (storeName X.env x u) Q E s:=
  uw I hN hi hx r (λ s' I' _=>h s' I') hf
theorem Inv.Mc(I:Inv X χ σ H s)(ho:s'.os=s.os)(u:Un (qN X.stack) ch H H' s.heap s'.heap)(cC:l8 X.prog X.w H' s'.heap)(hg:AllBare s'.gens)
    (xp:∀b∈ch,(b∈X.ex\/X.s₀.heap.objs.size<=b)/\b≠X.env.locals/\(∀x c,X.env.cells.lookup x=some c->c≠b)/\∀p∈X.pn++χ,p.1≠b):Inv X χ σ H' s':=by
  obtain⟨h',g',d',t',o'⟩:=s';have e:=ho;subst e;exact I.call u cC hg xp
end
abbrev XK:=ζ->ε δ->Hp->Prop
abbrev St:=γ (ε V)
abbrev VK:=V->Hp->Prop
abbrev TE:=St->Hp->VK->Prop
abbrev TT:=St->Hp->(Bool->Hp->Prop)->Prop
abbrev TA:=St->Hp->(γ V->Hp->Prop)->Prop
structure Ends where
  nx:St->Hp->Prop
  rt:VK
  bk:St->Hp->Prop:=λ _ _=>False
  ct:St->Hp->Prop:=λ _ _=>False
abbrev TS:=Ends->St->Hp->Prop
def EP(X:Cx)(χ:γ (δ×ι))(σ:St)(Q:VK)(u:ζ)(s':η):Prop:=∃v H',Inv X χ σ H' s'/\RelV v u/\Q v H'
def TP(X:Cx)(χ:γ (δ×ι))(σ:St)(Q:Bool->Hp->Prop)(b:Bool)(s':η):Prop:=∃H',Inv X χ σ H' s'/\Q b H'
def AP(X:Cx)(χ:γ (δ×ι))(σ:St)(Q:γ V->Hp->Prop)(us:γ ζ)(s':η):Prop:=∃vs H',Inv X χ σ H' s'/\Vals vs us/\Q vs H'
def SP(X:Cx)(χ:γ (δ×ι))(D:Ends)(f:Flow)(s':η):Prop:=
  match f with
  |.next=>∃σ' H',Inv X χ σ' H' s'/\D.nx σ' H'
  |.brk=>∃σ' H',Inv X χ σ' H' s'/\D.bk σ' H'
  |.cont=>∃σ' H',Inv X χ σ' H' s'/\D.ct σ' H'
  |.ret u=>∃v σ' H',Inv X χ σ' H' s'/\RelV v u/\D.rt v H'
def PE(X:Cx)(e:θ)(t:TE):Prop:=
  ∀(χ:γ (δ×ι))(s:η)(σ:St)(H:Hp)(Q:VK),Inv X χ σ H s->t σ H Q->wpAny (model X.prog X.w) X.A (eval e X.env) (EP X χ σ Q) X.xe s
def PT(X:Cx)(e:θ)(t:TT):Prop:=
  ∀(χ:γ (δ×ι))(s:η)(σ:St)(H:Hp)(Q:Bool->Hp->Prop),Inv X χ σ H s->t σ H Q->wpAny (model X.prog X.w) X.A (isTrue e X.env (eval e X.env)) (TP X χ σ Q) X.xe s
def PW(X:Cx)(e:θ)(t:TT):Prop:=
  ∀(whole:Sem ζ)(χ:γ (δ×ι))(s:η)(σ:St)(H:Hp)(Q:Bool->Hp->Prop),Inv X χ σ H s->t σ H Q->wpAny (model X.prog X.w) X.A (isTrue e X.env whole) (TP X χ σ Q) X.xe s
theorem PW.pt(h:PW X e t):PT X e t:=h _
def PA(X:Cx)(es:γ θ)(t:TA):Prop:=
  ∀(pos:Pos)(χ:γ (δ×ι))(s:η)(σ:St)(H:Hp)(Q:γ V->Hp->Prop),Inv X χ σ H s->t σ H Q->wpAny (model X.prog X.w) X.A (spliced (backTo pos (starEach es X.env))) (AP X χ σ Q) X.xe s
def PS(X:Cx)(st:ν)(t:TS):Prop:=
  ∀(χ:γ (δ×ι))(s:η)(σ:St)(H:Hp)(D:Ends),Inv X χ σ H s->t D σ H->wpAny (model X.prog X.w) X.A (exec st X.env) (SP X χ D) X.xe s
def tD(X:Cx)(st:γ ν)(t:TS):Prop:=
  ∀(χ:γ (δ×ι))(s:η)(σ:St)(H:Hp)(D:Ends),Inv X χ σ H s->t D σ H->wpAny (model X.prog X.w) X.A (execs st X.env) (SP X χ D) X.xe s
theorem dB{M:Model}{A:τ}{E:ζ->η->Prop}{s:η}(h:wpAny M A t Q E s)(hQ:∀a s,Q a s->Q' a s):wpAny M A t Q' E s:=A26 h hQ λ _ _ x=>x
section
def oX(i:Nat):TE:=λ σ H Q=>∃v,σ[i]?=some (some v)/\Q v H
def tC(v:V):TE:=λ _ H Q=>Q v H
theorem Am(hN:X.N[i]?=some x)(hv:Mh X.env.scope x)(hd:(x==("__debug__"))=false:=by decide)(tu:(x==("__classdict__"))=false:=by decide):PE X (.Name x pos) (oX i):=by
  intro χ s σ H Q I h;obtain⟨v,e,h⟩:=h;obtain⟨m,hn,hl⟩:=I.loc;obtain⟨u,r,l⟩:=hl i x v hN e hv;have fin:EP X χ σ Q u s:=⟨v,H,I,r,h⟩
  rcases l with⟨hk,hm⟩|⟨hk,c,hc,p9⟩
  ·exact wpAny_Name (wpAny_loadName_local I.ok.kind hk hn hm fin) hd
  · rcases hk with hk|hk
    ·exact wpAny_Name (wpAny_loadName_cell I.ok.kind hk hc p9 fin) hd
    ·exact wpAny_Name (wpAny_loadName_free I.ok.kind hk hc p9 fin tu) hd
theorem M4:PE X (.Constant (.int i) j pos) (tC (.int i)):=λ _ _ _ H _ I h=>wpAny_Constant_int ⟨.int i,H,I.tok _,⟨_,rfl⟩,h⟩
theorem LS:PE X (.Constant (.bool b) j pos) (tC (.bl b)):=λ _ _ _ H _ I h=>Constant_bool ⟨.bl b,H,I,rfl,h⟩
theorem rL:PE X (.Constant .none j pos) (tC .non):=λ _ _ _ H _ I h=>Constant_none ⟨.non,H,I,rfl,h⟩
theorem An:PE X (.Constant (.str x) j pos) (tC (.str x)):=λ _ _ _ H _ I h=>Calls.Constant_str ⟨.str x,H,I.tok _,⟨_,rfl⟩,h⟩
def Gl(X:Cx)(x:Str):Prop:=X.env.kindOf x=some .globalImplicit
theorem B1(I:Inv X χ σ H s)(hg:Gl X x)(hm:X.mg x=some u)(h:Q u s)
    (hd:(x==("__debug__"))=false:=by decide):wpAny (model X.prog X.w) X.A (eval (.Name x pos) X.env) Q E s:=
  C25 I.ok.kind hg (Calls.loadGlobal_global (by rw[I.ok.glob];exact I.mod.glob.keeps I.bk) hm h) hd
theorem jV(I:Inv X χ σ H s)(hg:Gl X x)(hm:X.mg x=none)(hv:bootBuiltins x=some u)(h:Q u s)
    (hn:x≠ "__name__":=by decide) (hd:(x==("__debug__"))=false:=by decide):wpAny (model X.prog X.w) X.A (eval (.Name x pos) X.env) Q E s:=by
  obtain⟨mb,h1,h2⟩:=I.mod.blt;exact C25 I.ok.kind hg (Calls.loadGlobal_builtin (by rw[I.ok.glob];exact I.mod.glob.keeps I.bk) hm (by rw[I.ok.blt];exact h1.keeps I.bk) ((h2 x hn).trans hv) h) hd
theorem BP(hg:Gl X x)(hm:X.mg x=some u)(r:RelV v u)(hd:(x==("__debug__"))=false:=by decide):PE X (.Name x pos) (tC v):=
  λ _ _ _ H _ I h=>B1 I hg hm ⟨v,H,I,r,h⟩ hd
theorem JE(hg:Gl X x)(hm:X.mg x=none)(hv:bootBuiltins x=some u)(r:RelV v u)(hn:x≠ "__name__":=by decide)(hd:(x==("__debug__"))=false:=by decide):PE X (.Name x pos) (tC v):=
  λ _ _ _ H _ I h=>jV I hg hm hv ⟨v,H,I,r,h⟩ hn hd
def tB(t:TE):TT:=λ σ H Q=>t σ H λ x H1=>∃c,x=.bl c/\Q c H1
theorem MR(h:PE X e t)(he:∀whole,isTrue e X.env whole=(do let v ←whole;standAt e.pos;holding [v] (truthy v)):=by intro _;rfl):PT X e (tB t):=by intro χ s σ H Q I hw;refine isTrue_plain (dB (h χ s σ H _ I hw) λ v s1 ⟨x,H1,I1,r1,q1⟩=>?_) (he _);obtain⟨d,rfl,q⟩:=q1;cases r1;exact A53 ⟨H1,I1,q⟩
variable {rest:γ θ}
def tO(t u:TT):TT:=λ σ H Q=>t σ H λ c H1=>if c=true then u σ H1 Q else Q false H1
def qp(t u:TT):TT:=λ σ H Q=>t σ H λ c H1=>if c=true then Q true H1 else u σ H1 Q
def dM(t:TT):TT:=λ σ H Q=>t σ H λ c H1=>Q (!c) H1
theorem pw_and1(ha:PT X a tA):PW X (.BoolOp .And [a] pos) tA:=by
  intro wh χ s σ H Q I h;refine isTrue_and (dB (ha χ s σ H Q I h) λ c s1 e=>?_);cases c with
  |true=>exact isTrue_and_nil e
  |false=>exact e
theorem pw_or1(ha:PT X a tA):PW X (.BoolOp .Or [a] pos) tA:=by
  intro wh χ s σ H Q I h;refine isTrue_or (dB (ha χ s σ H Q I h) λ c s1 e=>?_);cases c with
  |false=>exact isTrue_or_nil e
  |true=>exact e
theorem pw_and(ha:PT X a tA)(hb:PW X (.BoolOp .And (b::rest) pos) Wy):PW X (.BoolOp .And (a::b::rest) pos) (tO tA Wy):=by
  intro wh χ s σ H Q I h;refine isTrue_and (dB (ha χ s σ H _ I h) λ c s1 ⟨H1,I1,q1⟩=>?_);cases c with
  |true=>exact hb wh χ s1 σ H1 Q I1 q1
  |false=>exact⟨H1,I1,q1⟩
theorem pw_or(ha:PT X a tA)(hb:PW X (.BoolOp .Or (b::rest) pos) Wy):PW X (.BoolOp .Or (a::b::rest) pos) (qp tA Wy):=by
  intro wh χ s σ H Q I h;refine isTrue_or (dB (ha χ s σ H _ I h) λ c s1 ⟨H1,I1,q1⟩=>?_);cases c with
  |true=>exact⟨H1,I1,q1⟩
  |false=>exact hb wh χ s1 σ H1 Q I1 q1
theorem MS(ha:PT X a tA):PT X (.UnaryOp .Not a pos) (dM tA):=by intro χ s σ H Q I h;exact isTrue_not (ha χ s σ H (λ c H1=>Q (!c) H1) I h)
def Qp(ta tb:TE):TE:=λ σ H Q=>ta σ H λ x H1=>∃c,x=.bl c/\if c=true then tb σ H1 Q else Q (.bl false) H1
def Wq(ta tb:TE):TE:=λ σ H Q=>ta σ H λ x H1=>∃c,x=.bl c/\if c=true then Q (.bl true) H1 else tb σ H1 Q
def Qh(ta:TE):TE:=λ σ H Q=>ta σ H λ x H1=>∃c,x=.bl c/\Q (.bl (!c)) H1
theorem M0(h:PE X a t):PE X (.BoolOp op [a] pos) t:=λ χ s σ H Q I hw=>BoolOp_one (h χ s σ H Q I hw)
theorem M5(ha:PE X a ta)(hb:PE X (.BoolOp .And (b::rest) pos) tb):PE X (.BoolOp .And (a::b::rest) pos) (Qp ta tb):=by
  intro χ s σ H Q I h;refine BoolOp_and (dB (ha χ s σ H _ I h) λ v s1 ⟨x,H1,I1,r1,q1⟩=>?_);obtain⟨c,rfl,q1⟩:=q1;cases r1;refine A53 ?_;cases c with
  |true=>exact hb χ s1 σ H1 Q I1 q1
  |false=>exact⟨.bl false,H1,I1,rfl,q1⟩
theorem Q5(ha:PE X a ta)(hb:PE X (.BoolOp .Or (b::rest) pos) tb):PE X (.BoolOp .Or (a::b::rest) pos) (Wq ta tb):=by
  intro χ s σ H Q I h;refine BoolOp_or (dB (ha χ s σ H _ I h) λ v s1 ⟨x,H1,I1,r1,q1⟩=>?_);obtain⟨c,rfl,q1⟩:=q1;cases r1;refine A53 ?_;cases c with
  |false=>exact hb χ s1 σ H1 Q I1 q1
  |true=>exact⟨.bl true,H1,I1,rfl,q1⟩
theorem M1(ha:PE X a ta):PE X (.UnaryOp .Not a pos) (Qh ta):=by intro χ s σ H Q I h;refine UnaryOp_ (dB (ha χ s σ H _ I h) λ v s1 ⟨x,H1,I1,r1,q1⟩=>?_);obtain⟨c,rfl,q1⟩:=q1;cases r1;exact not_of (A53 ⟨.bl (!c),H1,I1,rfl,q1⟩)
def tIf(t:TT)(ta tb:TE):TE:=λ σ H Q=>t σ H λ c H1=>if c=true then ta σ H1 Q else tb σ H1 Q
theorem FT(hc:PT X c tA)(ha:PE X a ta)(hb:PE X b tb):PE X (.IfExp c a b pos) (tIf tA ta tb):=by
  intro χ s σ H Q I h;refine wpAny_IfExp (dB (hc χ s σ H _ I h) λ d s1 ⟨H1,I1,q1⟩=>?_);cases d with
  |true=>exact ha χ s1 σ H1 Q I1 q1
  |false=>exact hb χ s1 σ H1 Q I1 q1
end
def jw (K:W.Frag) (H:Hp) (a:δ) (xs:γ V):Prop:=
  Rd H a (.lst xs) \/
    ∃(o:ι) (its:Array ζ) (n:Nat),K.lookup a=some o/\o.cls=.type "list" /\ o.dict=none/\o.data=.seq its n/\its.size<=sizeLine/\Vals xs its.toList
def lx (K:W.Frag) (H:Hp) (a:δ) (xs:γ V):Prop:=
  Rd H a (.tup xs) \/
    ∃(o:ι) (its:Array ζ) (n:Nat),K.lookup a=some o/\o.cls=.type "tuple" /\ (o.data=.seq its n/\o.dict=none/\o.slots=#[])/\its.size<=sizeLine/\Vals xs its.toList
def ZR:ζ->ε V
  |.none=>some .non
  |.bool b=>some (.bl b)
  |.int i _=>some (.int i)
  |.str x _=>some (.str x)
  |.bytes b _=>some (.TQ b)
  |.float b _=>some (.Tb b)
  |.ref a=>some (.ref a)
  |.type n=>some (.ty n)
  |_=>none
theorem RelV.abs(r:RelV x u):ZR u=some x:=by
  cases x with
  |non=>cases r;rfl
  |bl _=>cases r;rfl
  |int _=>obtain⟨t,rfl⟩:=r;rfl
  |str _=>obtain⟨t,rfl⟩:=r;rfl
  |TQ _=>obtain⟨t,rfl⟩:=r;rfl
  |Tb _=>obtain⟨t,rfl⟩:=r;rfl
  |ref _=>cases r;rfl
  |ty _=>cases r;rfl
theorem RelV.inj(r:RelV x u)(q:RelV y u):x=y:=A04 (r.abs.symm.trans q.abs)
theorem Vals.inj:∀{xs ys}{us},Vals xs us->Vals ys us->xs=ys
  |_,_,_,.nil,.nil=>rfl
  |_,_,_,.cons r t,.cons r' t'=>by rw[r.inj r',Vals.inj t t']
section
theorem jw.of{K:W.Frag}(h:H a=some (.lst xs)):jw K H a xs:=.inl (.inl h)
theorem lx.of{K:W.Frag}(h:H a=some (.tup xs)):lx K H a xs:=.inl (.inl h)
theorem Inv.list(I:Inv X χ σ H s)(h:jw X.K H a xs):∃its,Vals xs its/\PlainL s.heap a its.toArray/\xs.length<=sizeLine:=by
  rcases h with h|⟨o,its,n,hk,hc,hd,hs,hz,r⟩
  · obtain⟨z,its,n,r,e⟩:=h.ok I.cC;exact⟨its,r,⟨_,n,e,rfl,rfl,rfl⟩,z⟩
  · refine⟨_,r,⟨o,n,I.B4 a o hk,hc,hd,by simpa using hs⟩,?_⟩;have e:=r.length;simp only[B42]at e;lia
theorem Inv.tuple(I:Inv X χ σ H s)(h:lx X.K H a xs):∃its,Vals xs its/\IsTup s.heap a its.toArray/\xs.length<=sizeLine:=by
  rcases h with h|⟨o,its,n,hk,hc,hs,hz,r⟩
  · obtain⟨z,its,r,p⟩:=h.ok I.cC;exact⟨its,r,p.is,z⟩
  · refine⟨_,r,⟨o,I.B4 a o hk,hc,n,by simpa using hs.1⟩,?_⟩;have e:=r.length;simp only[B42]at e;lia
theorem Inv.n6(I:Inv X χ σ H s)(h:jw X.K H a xs)(h':jw X.K H a ys):xs=ys:=by
  obtain⟨its,r,⟨o,n,e,_,_,d⟩,_⟩:=I.list h;obtain⟨pj,r',⟨o',n',e',_,_,d'⟩,_⟩:=I.list h';rw[e]at e';cases e';rw[d]at d';injection d' with d1 _
  have:its=pj:=by simpa using A22 Array.toList d1
  subst this;exact r.inj r'
theorem Inv.oV(I:Inv X χ σ H s)(h:lx X.K H a xs)(h':lx X.K H a ys):xs=ys:=by
  obtain⟨its,r,⟨o,e,_,n,d⟩,_⟩:=I.tuple h;obtain⟨pj,r',⟨o',e',_,n',d'⟩,_⟩:=I.tuple h';rw[e]at e';cases e';rw[d]at d';injection d' with d1 _
  have:its=pj:=by simpa using A22 Array.toList d1
  subst this;exact r.inj r'
end
abbrev Cx.wish(X:Cx)(E:ζ->η->Prop):Cx:={X with xe:=E}
abbrev Cx.qJ(X:Cx):Cx:=X.wish λ _ _=>False
theorem Cx.Ok.wish{X:Cx}(ok:X.Ok)(E:ζ->η->Prop):(X.wish E).Ok:=
  ⟨ok.mod,ok.kind,ok.glob,ok.blt,ok.above,ok.inj,ok.has,ok.TK,ok.hd,ok.frames,ok.Jb,ok.exf,ok.bs,ok.IF,ok.Dw,ok.K4,ok.og,ok.Oe⟩
theorem Cx.Ok.ja{X:Cx}(ok:(X.wish E).Ok):X.Ok:=
  ⟨ok.mod,ok.kind,ok.glob,ok.blt,ok.above,ok.inj,ok.has,ok.TK,ok.hd,ok.frames,ok.Jb,ok.exf,ok.bs,ok.IF,ok.Dw,ok.K4,ok.og,ok.Oe⟩
section
theorem Inv.wish(I:Inv X χ σ H s)(E:ζ->η->Prop):Inv (X.wish E) χ σ H s:=⟨I.ok.wish E,I.os,I.bare,I.base,I.loc,I.cell,I.free,I.jE,I.pin,I.cC,I.len,I.tab⟩
theorem Inv.ja(I:Inv (X.wish E) χ σ H s):Inv X χ σ H s:=⟨I.ok.ja,I.os,I.bare,I.base,I.loc,I.cell,I.free,I.jE,I.pin,I.cC,I.len,I.tab⟩
theorem SP.ja(h:SP (X.wish E) χ D f s'):SP X χ D f s':=by
  cases f with
  |next=>obtain⟨σ',H',I,q⟩:=h;exact⟨σ',H',I.ja,q⟩
  |brk=>obtain⟨σ',H',I,q⟩:=h;exact⟨σ',H',I.ja,q⟩
  |cont=>obtain⟨σ',H',I,q⟩:=h;exact⟨σ',H',I.ja,q⟩
  |ret u=>obtain⟨v,σ',H',I,r,q⟩:=h;exact⟨v,σ',H',I.ja,r,q⟩
theorem tD.qJ{st:γ ν}(h:tD X.qJ st t):tD X st t:=λ χ s σ H D I hw=>A26 (h χ s σ H D (I.wish _) hw) (λ _ _ q=>q.ja) λ _ _ z=>False.elim z
end
section
variable {st:ν}{rest:γ ν}
def Qj:TS:=λ D σ H=>D.nx σ H
def Wn(t u:TS):TS:=λ D σ H=>t {D with nx:=u D} σ H
theorem Js:tD X [] Qj:=λ _ _ σ H _ I h=>B71 ⟨σ,H,I,h⟩
theorem FI(h1:PS X st t)(h2:tD X rest u):tD X (st::rest) (Wn t u):=by
  intro χ s σ H D I h;refine wpAny_execs_cons (dB (h1 χ s σ H {D with nx:=u D} I h) λ f s1 q=>?_);cases f with
  |next=>obtain⟨σ',H',I',q⟩:=q;exact h2 χ s1 σ' H' D I' q
  |ret v=>exact q
  |brk=>exact q
  |cont=>exact q
theorem Jr(h1:PS X st t):tD X [st] t:=by
  intro χ s σ H D I h;refine wpAny_execs_cons (dB (h1 χ s σ H D I h) λ f s1 q=>?_);cases f with
  |next=>exact B71 q
  |ret v=>exact q
  |brk=>exact q
  |cont=>exact q
theorem Inv.quiet(I:Inv X χ σ H s):interactive X.env=false:=by simp[interactive,I.ok.kind]
def Qk(te:TE):TS:=λ D σ H=>te σ H λ _ H1=>D.nx σ H1
theorem BM(he:PE X e te)(hs:swapsWith e none pos.line X.env=pure false:=by rfl):PS X (.Expr e pos) (Qk te):=by intro χ s σ H D I h;exact wpAny_Expr_any (dB (he χ s σ H _ I h) λ v s1 ⟨x,H1,I1,r1,q1⟩=>⟨σ,H1,I1,q1⟩) I.quiet hs
def Wo(te:TE):TS:=λ D σ H=>te σ H D.rt
theorem MT(he:PE X e te):PS X (.Return (some e) pos) (Wo te):=by intro χ s σ H D I h;exact wpAny_Return_some (dB (he χ s σ H _ I h) λ v s1 ⟨x,H1,I1,r1,q1⟩=>⟨x,σ,H1,I1,r1,q1⟩)
def Wv(c:TT)(t u:TS):TS:=λ D σ H=>c σ H λ b H1=>if b=true then t D σ H1 else u D σ H1
theorem Q2(hc:PT X c tc)(ha:tD X a t)(hb:tD X b u):PS X (.If c a b pos) (Wv tc t u):=by
  intro χ s σ H D I h;refine wpAny_If (dB (hc χ s σ H _ I h) λ d s1 ⟨H1,I1,q1⟩=>?_);cases d with
  |true=>exact ha χ s1 σ H1 D I1 q1
  |false=>exact hb χ s1 σ H1 D I1 q1
end
abbrev TG:=V->St->Hp->(St->Hp->Prop)->Prop
abbrev P5:=γ V->St->Hp->(St->Hp->Prop)->Prop
def PG (X:Cx) (target:θ) (t:TG):Prop:=
  ∀ (χ:γ (δ×ι)) (s:η) (σ:St) (H:Hp) (v:V) (u:ζ) (Q:St->Hp->Prop),Inv X χ σ H s->RelV v u->t v σ H Q ->
    wpAny (model X.prog X.w) X.A (assign target X.env u) (λ _ s'=>∃σ' H',Inv X χ σ' H' s'/\Q σ' H') X.xe s
def IG (X:Cx) (ts:γ θ) (t:P5):Prop:=
  ∀ (χ:γ (δ×ι)) (s:η) (σ:St) (H:Hp) (vs:γ V) (us:γ ζ) (Q:St->Hp->Prop),Inv X χ σ H s->Vals vs us->t vs σ H Q ->
    wpAny (model X.prog X.w) X.A (assignInOrder ((assignEach ts X.env).map (·.2)) us) (λ _ s'=>∃σ' H',Inv X χ σ' H' s'/\Q σ' H') X.xe s
abbrev T_:=V->V->V->Hp->(Hp->Prop)->Prop
def Ub (X:Cx) (t:T_):Prop:=
  ∀ (χ:γ (δ×ι)) (s:η) (σ:St) (H:Hp) (o i v:V) (ov iv u:ζ) (Q:Hp->Prop),Inv X χ σ H s->RelV o ov->RelV i iv->RelV v u->t o i v H Q ->
    wpAny (model X.prog X.w) X.A (setItem ov iv u) (λ _ s'=>∃H',Inv X χ σ H' s'/\Q H') X.xe s
abbrev TIp:=V->V->Hp->VK->Prop
def PIp (X:Cx) (op:Operator) (t:TIp):Prop:=
  ∀ (χ:γ (δ×ι)) (s:η) (σ:St) (H:Hp) (x y:V) (v u:ζ) (Q:VK),Inv X χ σ H s->RelV x v->RelV y u->t x y H Q ->
    wpAny (model X.prog X.w) X.A (inplaceOp op v u) (EP X χ σ Q) X.xe s
section
def aJ(i:Nat):TG:=λ v σ H Q=>Q (σ.set i (some v)) H
theorem BO(hN:X.N.Nodup)(hi:X.N[i]?=some x)(hx:Loc X.env.scope x)(hf:X.fn x=true\/X.env.scope.names.lookup x=some .local:=by first|exact .inl rfl|exact .inr rfl|assumption):PG X (.Name x pos) (aJ i):=by intro χ s σ H v u Q I r h;exact wpAny_assign_Name (rA I hN hi hx r (λ s' I'=>⟨_,H,I',h⟩) hf)
def Y6:P5:=λ vs σ H Q=>vs=[]/\Q σ H
def S9(t:TG)(u:P5):P5:=λ vs σ H Q=>∃v r,vs=v::r/\t v σ H λ σ' H'=>u r σ' H' Q
theorem JA:IG X [] Y6:=by intro χ s σ H vs us Q I r h;obtain⟨e,h⟩:=h;subst e;cases r;exact assignInOrder_nil ⟨σ,H,I,h⟩
theorem FP(h1:PG X e t)(h2:IG X es u)
    (hs:(assignEach (e::es) X.env).map (·.2)=assign e X.env::(assignEach es X.env).map (·.2):=by rfl):IG X (e::es) (S9 t u):=by
  intro χ s σ H vs us Q I r h;obtain⟨v,vr,e1,h⟩:=h;subst e1;cases r with
  |cons r rr=>rw[hs];refine assignInOrder_cons (dB (h1 χ s σ H _ _ _ I r h) λ _ s1 ⟨σ1,H1,I1,q1⟩=>?_);exact h2 χ s1 σ1 H1 _ _ Q I1 rr q1
def fB(K:W.Frag)(n:Nat)(t:P5):TG:=λ v σ H Q=>∃a xs,v=.ref a/\lx K H a xs/\xs.length=n/\t xs σ H Q
theorem MX(hc:X.calm=true)(h:IG X es t)
    (hn:(assignEach es X.env).length=n:=by rfl) (Iu:(assignEach es X.env).findIdx? (·.1)=none:=by rfl):PG X (.Tuple es k pos) (fB X.K n t):=by
  intro χ s σ H v u Q I r hw;obtain⟨a,xs,e1,hq,hl,hw⟩:=hw;subst e1;cases r;obtain⟨its,rv,ht,hz⟩:=I.tuple hq;refine assign_Tuple_tuple (I.ok.hd hc) ht (by simp[hn,<-hl,rv.length]) Iu λ h' hx=>?_;have I1:=I.kept (t':=s.toks) λ b o e=>hx b o (A10 (A00 e)) e;exact h χ _ σ H xs _ Q I1 (by simpa using rv) hw
def S7(to ti:TE)(t:T_):TG:=λ v σ H Q=>to σ H λ o H1=>ti σ H1 λ i H2=>t o i v H2 λ H3=>Q σ H3
theorem MY(ho:PE X o to)(hi:PE X i ti)(hs:Ub X t)
    (ha:∀v,assign (.Subscript o i pos) X.env v=(do
      let ov ←holding [v] (eval o X.env)
      let iv ←holding [v,ov] (eval i X.env)
      standAt pos
      holding [v,ov,iv] (setItem ov iv v)
      release [v,ov,iv] []):=by intro _;rfl):PG X (.Subscript o i pos) (S7 to ti t):=by
  intro χ s σ H v u Q I r h;rw[ha];refine T0 (A33 (dB (ho χ s σ H _ I h) λ ov s1 ⟨x,H1,I1,r1,q1⟩=>?_));refine T0 (A33 (dB (hi χ s1 σ H1 _ I1 q1) λ iv s2 ⟨y,H2,I2,r2,q2⟩=>?_));refine T0 (wpAny_standAt (T0 (A33 (dB (hs χ s2 σ H2 x y v ov iv u _ I2 r1 r2 r q2) λ _ s3 ⟨H3,I3,q3⟩=>?_))));exact wpAny_release ⟨σ,H3,I3,q3⟩
def Qo(te:TE)(g:TG):TS:=λ D σ H=>te σ H λ x H1=>g x σ H1 D.nx
theorem FL(he:PE X e te)(hg:PG X tg g)(hs:swapsWithSole [tg] e pos.line X.env=pure false:=by rfl)(hw:swappedStores [tg] e X.env=pure none:=by rfl)
    (h1:(assignEach [tg] X.env).map (·.2)=[assign tg X.env]:=by rfl):PS X (.Assign [tg] e pos) (Qo te g):=by
  intro χ s σ H D I h;refine wpAny_Assign_stores (dB (he χ s σ H _ I h) λ v s1 ⟨x,H1,I1,r1,q1⟩=>?_) hs hw;rw[h1];exact dB (hg χ s1 σ H1 x v _ I1 r1 q1) λ _ s2 q=>q
theorem Ak(hN:X.N.Nodup)(hi:X.N[i]?=some x)(hx:Loc X.env.scope x)(he:PE X e te)(hs:swapsWith e (some (.Name x pos')) pos.line X.env=pure false:=by rfl)(hf:X.fn x=true\/X.env.scope.names.lookup x=some .local:=by first|exact .inl rfl|exact .inr rfl|assumption):
    PS X (.Assign [.Name x pos'] e pos) (Qo te (aJ i)):=by
  intro χ s σ H D I h;refine wpAny_Assign_Name (dB (he χ s σ H _ I h) λ v s1 ⟨y,H1,I1,r1,q1⟩=>?_) hs;exact rA I1 hN hi hx r1 (λ s2 I2=>⟨_,H1,I2,q1⟩) hf
def Wz(i:Nat)(te:TE)(ti:TIp):TS:=λ D σ H=>∃x,σ[i]?=some (some x)/\te σ H λ y H1=>ti x y H1 λ z H2=>D.nx (σ.set i (some z)) H2
theorem MV (hN:X.N.Nodup) (hi:X.N[i]?=some x) (hx:Loc X.env.scope x) (he:PE X e te) (ho:PIp X op ti) (hf:X.fn x=true\/X.env.scope.names.lookup x=some .local:=by first|exact .inl rfl|exact .inr rfl|assumption) :
    PS X (.AugAssign (.Name x pos') op e pos) (Wz i te ti):=by
  intro χ s σ H D I h;obtain⟨v,e1,h⟩:=h;obtain⟨m,hn,hl⟩:=I.loc;have vis:Mh X.env.scope x:=by rcases hx with k|k;exact .inl k;exact .inr (.inl k)
  obtain⟨u,r,l⟩:=hl i x v hi e1 vis;refine wpAny_AugAssign_Name ?_;have go:wpAny (model X.prog X.w) X.A (eval e X.env) (λ w s₂=>wpAny (model X.prog X.w) X.A (inplaceOp op u w) (λ r s₃=>wpAny (model X.prog X.w) X.A (storeName X.env x r) (λ _=>SP X χ D .next) X.xe s₃) X.xe s₂) X.xe s:=by refine dB (he χ s σ H _ I h) λ w s1 ⟨y,H1,I1,r1,q1⟩=>?_;refine dB (ho χ s1 σ H1 v y u w _ I1 r r1 q1) λ z s2 ⟨zv,H2,I2,r2,q2⟩=>?_;exact rA I2 hN hi hx r2 (λ s3 I3=>⟨_,H2,I3,q2⟩) hf
  rcases l with⟨hk,hm⟩|⟨hk,c,hc,p9⟩
  ·exact wpAny_loadName_local I.ok.kind hk hn hm go
  · rcases hk with hk|hk
    ·exact wpAny_loadName_cell I.ok.kind hk hc p9 go
    · rcases hx with k|k
      · have:X.env.scope.names.lookup x=some .free:=hk;rw[k]at this;cases this
      · have:X.env.scope.names.lookup x=some .free:=hk;rw[k]at this;cases this
end
section
end
structure It where
  go:Nat->Hp->Prop
  Br:Nat->Hp->V->Hp->Prop
  stop:Nat->Hp->Prop
def oN(X:Cx)(χ:γ (δ×ι))(H:Hp)(b:δ):Prop:=
  H b=none/\b≠X.env.locals/\b∉X.fs/\(b∈X.ex\/X.s₀.heap.objs.size<=b)/\(∀x c,X.env.cells.lookup x=some c->c≠b)/\∀p∈X.pn++χ,p.1≠b
theorem Inv.qy(I:Inv X χ σ H s)(hb:s.heap.objs.size<=b)(hn:H' b=none):oN X χ H' b:=by
  refine⟨hn,A48 (A17 I.lt hb),I.Np hb,.inr (A16 I.sz hb),λ x c e z=>?_,λ p hp z=>?_⟩
  · obtain⟨v,q⟩:=I.cell x c e;exact absurd (A17 q.lt (by rw[z];exact hb)) (A79 _)
  ·exact absurd (A17 (A00 (I.pin p hp).1) (by rw[z];exact hb)) (A79 _)
structure Turn(P:Program)(w:World)(K:W.Frag)(tg:Expr)(J:It)(fp:List Addr)(it:Addr)(tn:Nat->Heap->Prop):Prop where
  mem:it∈fp
  obj:∀i h,tn i h->∀b∈fp,∃o,h.get? b=some o/\∀v,o.data≠.cell v
  keep:∀i h h',tn i h->(∀b∈fp,∀o,h.get? b=some o->h'.get? b=some o)->tn i h'
  item:∀(X:Cx),X.prog=P->X.w=w->X.K=K->X.calm=true->∀(i:Nat)(χ:List (Addr×Obj))(s:Shared)(σ:St)(H:Hp)(E:Value->Shared->Prop),Inv X χ σ H s->(∀b∈fp,oN X χ H b)->tn i s.heap->J.go i H ->
    wpAny (model P w) X.A (pyNext (.ref it)) (λ r s1=>∃u,r=some u /\
      wpAny (model P w) X.A (letOwnedTupleGo tg (.ref it) u) (λ _ s2=>∃x H',Inv X χ σ H' s2/\RelV x u/\J.Br i H x H'/\tn (i+1) s2.heap/\∀b∈fp,H' b=none) E s1) E s
  done:∀(X:Cx),X.prog=P->X.w=w->X.K=K->X.calm=true->∀(i:Nat)(χ:List (Addr×Obj))(s:Shared)(σ:St)(H:Hp)(E:Value->Shared->Prop),Inv X χ σ H s->(∀b∈fp,oN X χ H b)->tn i s.heap->J.stop i H ->
    wpAny (model P w) X.A (pyNext (.ref it)) (λ r s1=>r=none/\Inv X χ σ H s1) E s
  self:∀(A:Around)(i:Nat)(s:Shared)(Q:Value->Shared->Prop)(E:Value->Shared->Prop),tn i s.heap->Q (.ref it) s->wpAny (model P w) A (pyIter (.ref it)) Q E s
abbrev TI:=St->Hp->(It->Hp->Prop)->Prop
def Ud(X:Cx)(χ:γ (δ×ι))(σ:St)(tg:θ)(R:It->Hp->Prop)(XZ:ζ)(s2:η):Prop:=
  ∃(it:δ)(fp:γ δ)(tn:Nat->μ->Prop)(J:It)(H':Hp),XZ=.ref it/\Inv X χ σ H' s2/\Turn X.prog X.w X.K tg J fp it tn/\tn 0 s2.heap/\(∀b∈fp,oN X χ H' b)/\R J H'
def PI (X:Cx) (tg iter:θ) (wi:TI):Prop:=
  ∀ (χ:γ (δ×ι)) (s:η) (σ:St) (H:Hp) (R:It->Hp->Prop),Inv X χ σ H s->wi σ H R ->
    wpAny (model X.prog X.w) X.A (eval iter X.env) (λ v s1=>wpAny (model X.prog X.w) X.A (pyIter v) (Ud X χ σ tg R) X.xe s1) X.xe s
theorem uU (ho:s.heap.get? it=some o) (hc:o.cls=.type n) (hd:o.data=.fields vs)
    (hn:["enumerate","zip","dict_itemiterator","dict_reverseitemiterator","odict_iterator","itertools.zip_longest","itertools.pairwise"].contains n=false) (hQ:Q () s):wpAny M A (letOwnedTupleGo tg (.ref it) u) Q E s:=by
  cases tg<;>first
    |exact v0 hQ
    | (cases u<;>first
        |exact v0 hQ
        | (refine T0 (wpAny_load ho ?_)
           rw[hc,hd];show wpAny M A (if(["enumerate","zip","dict_itemiterator","dict_reverseitemiterator","odict_iterator","itertools.zip_longest","itertools.pairwise"].contains n&&vs[0]?==some _)=true then _ else _) Q E s;rw[f8 (by intro h;rw[hn,Bool.false_and]at h;cases h)];exact v0 hQ))
def Itl(K:W.Frag)(a:δ):It:=
  ⟨λ i H=>∃xs x,jw K H a xs/\xs[i]?=some x,λ i H x H'=>H'=H/\∀xs,jw K H a xs->xs[i]?=some x,λ i H=>∃xs,jw K H a xs/\xs.length<=i⟩
def Itt(K:W.Frag)(a:δ):It:=
  ⟨λ i H=>∃xs x,lx K H a xs/\xs[i]?=some x,λ i H x H'=>H'=H/\∀xs,lx K H a xs->xs[i]?=some x,λ i H=>∃xs,lx K H a xs/\xs.length<=i⟩
def Mi(lo:Int)(n:Nat):It:=⟨λ i _=>i<n,λ i H x H'=>H'=H/\x=.int (lo+i),λ i _=>n<=i⟩
theorem C5{K:W.Frag}(a it:δ):Turn P w K tg (Itl K a) [it] it (λ i h=>h.IsListIter it a i) where
  mem:=by simp
  obj:=λ i h st b hb=>by
    have e:b=it:=by simpa using hb
    subst e;obtain⟨o,e,c,d⟩:=st;exact⟨o,e,λ v z=>by rw[d]at z;cases z⟩
  keep:=λ i h h' st k=>st.at λ o e=>k it (by simp) o e
  item:=by intro X hP hw hK hc i χ s σ H E I hf st hg;subst hP hw hK;obtain⟨xs,x,hq,hx⟩:=hg;obtain⟨its,rv,p,hz⟩:=I.list hq;obtain⟨u,hu,ru⟩:=rv.get hx;obtain⟨f0,f1,f2,f3,f4,f5⟩:=hf it (by simp);refine wpAny_pyNext_list_item st p.isList (by simpa using hu) λ h' uz sb=>?_;have I1:=I.turned (t':=s.toks) (λ b o hb e=>(sb.2 b hb).trans e) f0 f1 f3 f4 f5;obtain⟨o,e,c,d⟩:=id uz;exact⟨u,rfl,uU e c d (by decide) ⟨x,H,I1,ru,⟨rfl,λ ys hy=>by rw[I.n6 hy hq];exact hx⟩,uz,λ b hb=>(hf b hb).1⟩⟩
  done:=by intro X hP hw hK hc i χ s σ H E I hf st hg;subst hP hw hK;obtain⟨xs,hq,hx⟩:=hg;obtain⟨its,rv,p,hz⟩:=I.list hq;obtain⟨f0,f1,f2,f3,f4,f5⟩:=hf it (by simp);have hl:=rv.length;exact wpAny_pyNext_list_end (I.ok.hd hc) st p.isList (by simp;lia) λ h' eb=>⟨rfl,I.turned (λ b o hb e=>eb b o hb e) f0 f1 f3 f4 f5⟩
  self:=λ _ _ _ _ _ st h=>wpAny_pyIter_listiter st h
theorem z!{K:W.Frag}(a it:δ):Turn P w K tg (Itt K a) [it] it (λ i h=>h.IsTupleIter it a i) where
  mem:=by simp
  obj:=λ i h st b hb=>by
    have e:b=it:=by simpa using hb
    subst e;obtain⟨o,e,c,d⟩:=st;exact⟨o,e,λ v z=>by rw[d]at z;cases z⟩
  keep:=λ i h h' st k=>st.at λ o e=>k it (by simp) o e
  item:=by intro X hP hw hK hc i χ s σ H E I hf st hg;subst hP hw hK;obtain⟨xs,x,hq,hx⟩:=hg;obtain⟨its,rv,p,hz⟩:=I.tuple hq;obtain⟨u,hu,ru⟩:=rv.get hx;obtain⟨f0,f1,f2,f3,f4,f5⟩:=hf it (by simp);refine wpAny_pyNext_tuple_item st (p) (by simpa using hu) λ h' uz sb=>?_;have I1:=I.turned (t':=s.toks) (λ b o hb e=>(sb.2 b hb).trans e) f0 f1 f3 f4 f5;obtain⟨o,e,c,d⟩:=id uz;exact⟨u,rfl,uU e c d (by decide) ⟨x,H,I1,ru,⟨rfl,λ ys hy=>by rw[I.oV hy hq];exact hx⟩,uz,λ b hb=>(hf b hb).1⟩⟩
  done:=by intro X hP hw hK hc i χ s σ H E I hf st hg;subst hP hw hK;obtain⟨xs,hq,hx⟩:=hg;obtain⟨its,rv,p,hz⟩:=I.tuple hq;obtain⟨f0,f1,f2,f3,f4,f5⟩:=hf it (by simp);have hl:=rv.length;exact wpAny_pyNext_tuple_end (I.ok.hd hc) st (p) (by simp;lia) λ h' eb=>⟨rfl,I.turned (λ b o hb e=>eb b o hb e) f0 f1 f3 f4 f5⟩
  self:=λ _ _ _ _ _ st h=>wpAny_pyIter_tupleiter st h
theorem z?{K:W.Frag}(it:δ)(lo:Int)(n:Nat):Turn P w K tg (Mi lo n) [it] it (λ i h=>IsRangeIter h it (lo+(i)*1) ((n)-(i)) 1) where
  mem:=by simp
  obj:=λ i h st b hb=>by
    have e:b=it:=by simpa using hb
    subst e;exact⟨_,st,λ v z=>by have z':=z;cases z'⟩
  keep:=λ i h h' st k=>k it (by simp) _ st
  item:=by intro X hP hw hK hc i χ s σ H E I hf st hg;subst hP hw hK;obtain⟨f0,f1,f2,f3,f4,f5⟩:=hf it (by simp);have W:=Walks.range (prog:=X.prog) (w:=X.w) (I.ok.hd hc) it lo 1 n;refine W.item i s _ _ hg st λ v h' tk hv uz kk=>?_;obtain⟨t,rfl⟩:=hv;have I1:Inv X χ σ H {s with heap:=h',toks:=tk}:=I.turned (λ b o hb e=>kk b o (by simpa using hb) e) f0 f1 f3 f4 f5;refine⟨_,rfl,uU uz rfl rfl (by decide) ⟨.int (lo+i),H,I1,⟨t,?_⟩,⟨rfl,rfl⟩,uz,λ b hb=>(hf b hb).1⟩⟩;rw[Int.mul_one]
  done:=by intro X hP hw hK hc i χ s σ H E I hf st hg;subst hP hw hK;obtain⟨f0,f1,f2,f3,f4,f5⟩:=hf it (by simp);exact wpAny_pyNext_range_end (I.ok.hd hc) st (by have:n<=i:=hg;lia) λ h' eb=>⟨rfl,I.turned (λ b o hb e=>eb b o hb e) f0 f1 f3 f4 f5⟩
  self:=λ _ _ _ _ _ st h=>wpAny_pyIter_rangeiter st h
section
def dP(ta:TA):TI:=λ σ H R=>ta σ H λ vs H1=>∃j:Int,vs=[.int j]/\-(2^62)<=j/\j<2^62/\R (Mi 0 j.toNat) H1
def uQ(ta:TA):TI:=λ σ H R=>ta σ H λ vs H1=>∃i j:Int,vs=[.int i,.int j]/\(-(2^62)<=i/\i<2^62/\-(2^62)<=j/\j<2^62)/\R (Mi i (j-i).toNat) H1
def Ww(wi:TI)(g:TG)(tb:TS):TS:=λ D σ H=>wi σ H λ J H1=>∃W:Nat->Nat->St->Hp->Prop,(∃m,W 0 m σ H1)/\∀i m σ H,W i m σ H ->
  (J.stop i H/\D.nx σ H)\/(J.go i H/\∃N:St->Hp->Prop,(∀σ' H',N σ' H'->∃m',m'<m/\W (i+1) m' σ' H')/\∀x H',J.Br i H x H'->g x σ H' λ σ2 H2=>tb {D with nx:=N,ct:=N,bk:=D.nx} σ2 H2)
def rK(fp:γ δ)(h:μ):γ (δ×ι):=fp.filterMap λ b=>(h.get? b).map λ o=>(b,o)
theorem kD(hb:b∈fp)(e:h.get? b=some o):(b,o)∈rK fp h:=B73.mpr ⟨b,hb,by rw[e];rfl⟩
theorem Dm(hp:p∈rK fp h):p.1∈fp/\h.get? p.1=some p.2:=by
  obtain⟨b,hb,e⟩:=B73.mp hp;cases q:h.get? b with
  |none=>rw[q]at e;cases e
  |some o=>rw[q]at e;have e':=A04 e;subst e';exact⟨hb,q⟩
theorem Inv.pinned(I:Inv X χ σ H s)(hf:∀b∈fp,oN X χ H b)(ho:∀b∈fp,∃o,s.heap.get? b=some o/\∀v,o.data≠.cell v):Inv X (χ++rK fp s.heap) σ H s:=
  I.BN λ p hp=>(A25.mp hp).elim (λ z=>I.pin p (A39 _ z)) λ z=>by obtain⟨hb,e⟩:=Dm z;obtain⟨f0,f1,f2,_⟩:=hf p.1 hb;obtain⟨o,e',d⟩:=ho p.1 hb;rw[e]at e';cases e';exact⟨e,f0,f1,f2,d⟩
theorem Inv.nM(I:Inv X (χ++pl) σ H s):Inv X χ σ H s:=I.BN λ p hp=>I.pin p (A39 _ (B15 _ hp))
theorem MU(hp:PassesOwn (model X.prog X.w) X.A X.env X.xe)(hc:X.calm=true)(hi:PI X tg iter wi)(hg:PG X tg g)(hb:tD X body tb)
    (hs:∀x,foldedSetIterable iter X.env x=pure x:=by intro _;rfl):PS X (.For tg iter body [] pos) (Ww wi g tb):=by
  intro χ s σ H D I h;refine wpAny_For (dB (hi χ s σ H _ I h) λ v s1 h1=>dB h1 λ XZ s2 h2=>?_) hs;obtain⟨it,fp,tn,J,H2,e,I2,T,C7,f2,W,⟨m0,w0⟩,turn⟩:=h2;subst e
  -- Wh stays true of MA AK objects through MA loop
  have Ab:∀{H'},(∀b∈fp,H' b=none)->∀b∈fp,oN X χ H' b:=λ hn b hb=>⟨hn b hb,(f2 b hb).2⟩
  refine codeAny_forLoop_any (λ n s'=>∃i σ' H',Inv X χ σ' H' s'/\tn i s'.heap/\(∀b∈fp,H' b=none)/\W i n σ' H') ?_ m0 ⟨0,σ,H2,I2,C7,λ b hb=>(f2 b hb).1,w0⟩;rintro n s3 ⟨i,σ3,H3,I3,Fh,Ta,w3⟩;rcases turn i n σ3 H3 w3 with⟨stop,qn⟩|⟨go,N,hN,step⟩
  · refine B16 hp (dB (T.done X rfl rfl rfl hc i χ s3 σ3 H3 X.xe I3 (Ab Ta) Fh stop) λ r s4 ⟨hr,I4⟩=>?_);subst hr;exact B71 ⟨σ3,H3,I4,qn⟩
  · refine B16 hp (dB (T.item X rfl rfl rfl hc i χ s3 σ3 H3 X.xe I3 (Ab Ta) Fh go) λ r s4 ⟨u,hr,h4⟩=>?_);subst hr;refine B16 hp (dB h4 λ _ s5 ⟨x,H5,I5,r5,y5,vG,Y9⟩=>?_);have Z4:=I5.pinned (Ab Y9) (T.obj _ _ vG);refine B16 hp (dB (hg _ s5 σ3 H5 x u _ Z4 r5 (step x H5 y5)) λ _ s6 ⟨σ6,H6,I6,q6⟩=>?_);refine B16 hp (dB (hb _ s6 σ6 H6 _ I6 q6) λ f s7 q7=>?_);have again:∀{σ7}{H7},Inv X (χ++rK fp s5.heap) σ7 H7 s7->N σ7 H7->∃m,m<n/\∃i σ' H',Inv X χ σ' H' s7/\tn i s7.heap/\(∀b∈fp,H' b=none)/\W i m σ' H':=λ {σ7 H7} I7 n7=>by obtain⟨m',hm,w7⟩:=hN σ7 H7 n7;refine⟨m',hm,i+1,σ7,H7,I7.nM,T.keep _ _ _ vG λ b hb o e=>(I7.pin (b,o) (A39 _ (A39 _ (kD hb e)))).1,λ b hb=>?_,w7⟩;obtain⟨o,e,d⟩:=T.obj _ _ vG b hb;exact(I7.pin (b,o) (A39 _ (A39 _ (kD hb e)))).2.1
    cases f with
    |next=>obtain⟨σ7,H7,I7,n7⟩:=q7;exact again I7 n7
    |cont=>obtain⟨σ7,H7,I7,n7⟩:=q7;exact again I7 n7
    |brk=>obtain⟨σ7,H7,I7,q7⟩:=q7;exact⟨σ7,H7,I7.nM,q7⟩
    |ret v=>obtain⟨x7,σ7,H7,I7,r7,q7⟩:=q7;exact⟨x7,σ7,H7,I7.nM,r7,q7⟩
end
abbrev R2:=V->V->Hp->VK->Prop
def jv (X:Cx) (f:ζ->ζ->Sem ζ) (r:R2):Prop:=
  ∀ (χ:γ (δ×ι)) (s:η) (σ:St) (H:Hp) (x y:V) (v u:ζ) (Q:VK),Inv X χ σ H s->RelV x v->RelV y u->r x y H Q ->
    wpAny (model X.prog X.w) X.A (f v u) (EP X χ σ Q) X.xe s
def ZV (X:Cx) (f:ζ->Sem ζ) (r:V->Hp->VK->Prop):Prop:=
  ∀ (χ:γ (δ×ι)) (s:η) (σ:St) (H:Hp) (x:V) (v:ζ) (Q:VK),Inv X χ σ H s->RelV x v->r x H Q ->
    wpAny (model X.prog X.w) X.A (f v) (EP X χ σ Q) X.xe s
def iG (X:Cx) (f:ζ) (r:γ V->Hp->VK->Prop):Prop:=
  ∀ (χ:γ (δ×ι)) (s:η) (σ:St) (H:Hp) (xs:γ V) (us:γ ζ) (Q:VK),Inv X χ σ H s->Vals xs us->r xs H Q ->
    wpAny (model X.prog X.w) X.A (call f us) (EP X χ σ Q) X.xe s
def LM(r:R2)(ta tb:TE):TE:=λ σ H Q=>ta σ H λ x H1=>tb σ H1 λ y H2=>r x y H2 Q
def tUn(r:V->Hp->VK->Prop)(ta:TE):TE:=λ σ H Q=>ta σ H λ x H1=>r x H1 Q
def rI(C:Int->Int->Prop)(g:Int->Int->V):R2:=λ x y H Q=>∃i j,x=.int i/\y=.int j/\C i j/\Q (g i j) H
def FE(g:Int->Int->V):R2:=λ x y H Q=>∃i j,x=.int i/\y=.int j/\Q (g i j) H
def rU(g:Int->V):V->Hp->VK->Prop:=λ x H Q=>∃i,x=.int i/\Q (g i) H
section
theorem OX(ha:PE X a ta)(hb:PE X b tb){R:V->V->Hp->Prop}(I:Inv X χ σ H s)
    (h:ta σ H λ x H1=>tb σ H1 λ y H2=>R x y H2){f:ζ->ζ->Sem ζ}
    (hf:∀v u s2 x y H2,Inv X χ σ H2 s2->RelV x v->RelV y u->R x y H2->wpAny (model X.prog X.w) X.A (f v u) Q X.xe s2) :
    wpAny (model X.prog X.w) X.A (eval a X.env) (λ v s₁=>wpAny (model X.prog X.w) X.A (eval b X.env) (λ u s₂=>wpAny (model X.prog X.w) X.A (f v u) Q X.xe s₂) X.xe s₁) X.xe s:=by
  refine dB (ha χ s σ H _ I h) λ v s1 ⟨x,H1,I1,r1,q1⟩=>?_;refine dB (hb χ s1 σ H1 _ I1 q1) λ u s2 ⟨y,H2,I2,r2,q2⟩=>?_;exact hf v u s2 x y H2 I2 r1 r2 q2
theorem FQ(ho:jv X (binaryOp op) r)(ha:PE X a ta)(hb:PE X b tb):PE X (.BinOp a op b pos) (LM r ta tb):=by intro χ s σ H Q I h;exact wpAny_BinOp (OX ha hb I h λ v u s2 x y H2 I2 rx ry q=>ho χ s2 σ H2 x y v u Q I2 rx ry q)
theorem Q4(ho:ZV X (unaryOp op) r)(ha:PE X a ta):PE X (.UnaryOp op a pos) (tUn r ta):=by intro χ s σ H Q I h;exact UnaryOp_ (dB (ha χ s σ H _ I h) λ v s1 ⟨x,H1,I1,r1,q1⟩=>ho χ s1 σ H1 x v Q I1 r1 q1)
theorem Ng{g:Int->Int->Int}
    (rule:∀i j t u s Q E,C i j->Q (.int (g i j) s.toks) {s with toks:=s.toks+1}->wpAny (model X.prog X.w) X.A (f (.int i t) (.int j u)) Q E s) :
    jv X f (rI C λ i j=>.int (g i j)):=by
  intro χ s σ H x y v u Q I rx ry h;obtain⟨i,j,rfl,rfl,hc,q⟩:=h;obtain⟨t,rfl⟩:=rx;obtain⟨t',rfl⟩:=ry;exact rule i j t t' s _ _ hc ⟨.int _,H,I.tok _,⟨_,rfl⟩,q⟩
theorem Nf{g:Int->Int->Int}
    (rule:∀i j t u s Q E,Q (.int (g i j) s.toks) {s with toks:=s.toks+1}->wpAny (model X.prog X.w) X.A (f (.int i t) (.int j u)) Q E s) :
    jv X f (FE λ i j=>.int (g i j)):=by
  intro χ s σ H x y v u Q I rx ry h;obtain⟨i,j,rfl,rfl,q⟩:=h;obtain⟨t,rfl⟩:=rx;obtain⟨t',rfl⟩:=ry;exact rule i j t t' s _ _ ⟨.int _,H,I.tok _,⟨_,rfl⟩,q⟩
theorem JP{g:Int->Int->Bool}
    (rule:∀i j t u s Q E,Q (.bool (g i j)) s->wpAny (model X.prog X.w) X.A (f (.int i t) (.int j u)) Q E s) :
    jv X f (FE λ i j=>.bl (g i j)):=by
  intro χ s σ H x y v u Q I rx ry h;obtain⟨i,j,rfl,rfl,q⟩:=h;obtain⟨t,rfl⟩:=rx;obtain⟨t',rfl⟩:=ry;exact rule i j t t' s _ _ ⟨.bl _,H,I,rfl,q⟩
def Ul(i j:Int):Prop:=0<=j/\j<=1000000/\i.natAbs<2^64
def Um(i j:Int):Prop:=(-(2^64)<i/\i<2^64)\/(-(2^64)<j/\j<2^64)
theorem Um.ok(h:Um i j):IntMulOk i j:=by
  rcases h with⟨h1,h2⟩|⟨h1,h2⟩
  ·exact .of_left (B43 h1 h2)
  ·exact .of_right (B43 h1 h2)
theorem z9(k:Nat):(0:Int)<=2^k:=by rw[two_pow_cast];exact Int.natCast_nonneg _
theorem Nc:jv X (binaryOp .Add) (FE λ i j=>.int (i+j)):=Nf λ _ _ _ _ _ _ _ q=>add_int q
theorem M9:jv X (binaryOp .Sub) (FE λ i j=>.int (i-j)):=Nf λ _ _ _ _ _ _ _ q=>sub_int q
theorem M_:jv X (binaryOp .Mod) (rI (λ _ j=>0<j) λ i j=>.int (i % j)):=Ng λ i j _ _ _ _ _ hc q=>by exact mod_int' (by lia) (by rw[Int.fmod_eq_emod_of_nonneg i (by lia)];exact q)
theorem M?:jv X (binaryOp .Pow) (rI Ul λ i j=>.int (i^j.toNat)):=Ng λ _ _ _ _ _ _ _ hc q=>pow_int_small hc.1 hc.2.1 hc.2.2 q
theorem M!:jv X (binaryOp .LShift) (rI Ul λ i j=>.int (i*2^j.toNat)):=Ng λ _ _ _ _ _ _ _ hc q=>lshift_int_small hc.1 hc.2.1 hc.2.2 q
theorem M':jv X (binaryOp .RShift) (rI (λ _ j=>0<=j) λ i j=>.int (i / 2^j.toNat)):=Ng λ i j _ _ _ _ _ hc q=>rshift_int hc (by rw[C30 i (z9 _)];exact q)
theorem Kw:jv X (inplaceOp .Add) (FE λ i j=>.int (i+j)):=Nf λ _ _ _ _ _ _ _ q=>iadd_int q
theorem unI{g:Int->Int}
    (rule:∀i t s Q E,Q (.int (g i) s.toks) {s with toks:=s.toks+1}->wpAny (model X.prog X.w) X.A (f (.int i t)) Q E s) :
    ZV X f (rU λ i=>.int (g i)):=by
  intro χ s σ H x v Q I rx h;obtain⟨i,rfl,q⟩:=h;obtain⟨t,rfl⟩:=rx;exact rule i t s _ _ ⟨.int _,H,I.tok _,⟨_,rfl⟩,q⟩
theorem Ms:ZV X (unaryOp .USub) (rU λ i=>.int (-i)):=unI λ _ _ _ _ _ q=>neg_int q
end
section
theorem wA(I:Inv X χ σ H s)(q:Q (.bl k) H)(e:k=k'):EP X χ σ Q (.bool k') s:=by subst e;exact⟨.bl k,H,I,rfl,q⟩
theorem Q8:jv X (compareOp .Lt) (FE λ i j=>.bl (decide (i<j))):=JP λ _ _ _ _ _ _ _ q=>lt_int q
theorem Q9:jv X (compareOp .LtE) (FE λ i j=>.bl (decide (i<=j))):=JP λ _ _ _ _ _ _ _ q=>le_int q
theorem Q!:jv X (compareOp .Gt) (FE λ i j=>.bl (decide (j<i))):=JP λ _ _ _ _ _ _ _ q=>gt_int q
theorem Q?:jv X (compareOp .GtE) (FE λ i j=>.bl (decide (j<=i))):=JP λ _ _ _ _ _ _ _ q=>ge_int q
theorem Dj:jv X (compareOp .In) (λ x y H Q=>∃i j,x=.str i/\y=.str j/\Q (.bl (!(Builtin.Str.occurrences j i 0 j.length 1).isEmpty)) H):=by intro χ s σ H x y v u Q I rx ry h;obtain⟨i,j,rfl,rfl,q⟩:=h;obtain⟨t,rfl⟩:=rx;obtain⟨t',rfl⟩:=ry;exact in_str (wA I q rfl)
theorem FZ:jv X (compareOp .Is) (λ x y H Q=>y=.non/\Q (.bl (decide (x=.non))) H):=by
  intro χ s σ H x y v u Q I rx ry h;obtain⟨rfl,q⟩:=h;cases ry;refine is_none_gen (wA I q ?_);cases x<;>first
    |(cases rx;rfl)
    |(obtain⟨t,rfl⟩:=rx;rfl)
theorem BR:jv X (compareOp .IsNot) (λ x y H Q=>y=.non/\Q (.bl (!decide (x=.non))) H):=by
  intro χ s σ H x y v u Q I rx ry h;obtain⟨rfl,q⟩:=h;cases ry;refine isnot_none_gen (wA I q ?_);cases x<;>first
    |(cases rx;rfl)
    |(obtain⟨t,rfl⟩:=rx;rfl)
theorem jv.or(h:jv X f r)(h':jv X f r'):jv X f (λ x y H Q=>r x y H Q\/r' x y H Q):=by
  intro χ s σ H x y v u Q I rx ry q;rcases q with q|q
  ·exact h χ s σ H x y v u Q I rx ry q
  ·exact h' χ s σ H x y v u Q I rx ry q
theorem mY(b:θ)(h:op≠.In:=by decide)(h2:op≠.NotIn:=by decide):behindInMarks op b=false:=by
  have e1:(op==CmpOp.In)=false:=by cases op<;>first|rfl|exact absurd rfl h
  have e2:(op==CmpOp.NotIn)=false:=by cases op<;>first|rfl|exact absurd rfl h2
  cases b<;>simp[behindInMarks,e1,e2]
theorem qI(ho:jv X (compareOp op) r)(ha:PE X a ta)(hb:PE X b tb)(hm:behindInMarks op b=false):PE X (.Compare a [op] [b] pos) (LM r ta tb):=by intro χ s σ H Q I h;exact wpAny_Compare1 (OX ha hb I h λ v u s2 x y H2 I2 rx ry q=>ho χ s2 σ H2 x y v u Q I2 rx ry q) hm
def Fc(t:TE):TT:=λ σ H Q=>t σ H λ x H'=>∃k,x=.bl k/\Q k H'
theorem vS(ho:jv X (compareOp op) r)(ha:PE X a ta)(hb:PE X b tb)(hm:behindInMarks op b=false):PT X (.Compare a [op] [b] pos) (Fc (LM r ta tb)):=by
  intro χ s σ H Q I h;refine wpAny_isTrue_Compare1 (dB (ha χ s σ H _ I h) λ v s1 ⟨x,H1,I1,r1,q1⟩=>dB (hb χ s1 σ H1 _ I1 q1) λ u s2 ⟨y,H2,I2,r2,q2⟩=>dB (ho χ s2 σ H2 x y v u _ I2 r1 r2 q2) λ c s3 ⟨z,H3,I3,r3,k,e,q3⟩=>?_) hm
  subst e;cases r3;exact A53 ⟨H3,I3,q3⟩
def Aa(r r':R2)(ta tb tc:TE):TE:=λ σ H Q=>ta σ H λ x H1=>tb σ H1 λ y H2=>r x y H2 λ z H3=>∃k,z=.bl k /\
  (if k=true then tc σ H3 λ w' H4=>r' y w' H4 Q else Q (.bl false) H3)
theorem FU(ho:jv X (compareOp op) r)(mM:jv X (compareOp Dk) r')(ha:PE X a ta)(hb:PE X b tb)(hc:PE X c tc)
    (hm:lastMarks [op,Dk] [b,c]=false:=by with_unfolding_all rfl):PE X (.Compare a [op,Dk] [b,c] pos) (Aa r r' ta tb tc):=by
  intro χ s σ H Q I h;refine Compare_chain (dB (ha χ s σ H _ I h) λ v s1 ⟨x,H1,I1,r1,q1⟩=>chain_link (dB (hb χ s1 σ H1 _ I1 q1) λ u s2 ⟨y,H2,I2,r2,q2⟩=>dB (ho χ s2 σ H2 x y v u _ I2 r1 r2 q2) λ d s3 ⟨z,H3,I3,r3,k,e,q3⟩=>?_)) hm
  subst e;cases r3;refine A53 ?_;cases k with
  |false=>exact ite_ff ⟨.bl false,H3,I3,rfl,q3⟩
  |true=>exact ite_tt (chain_last (dB (hc χ s3 σ H3 _ I3 q3) λ w' s4 ⟨z',H4,I4,r4,q4⟩=>mM χ s4 σ H4 y z' u w' Q I4 r2 r4 q4))
theorem FH(ho:jv X (compareOp op) r)(mM:jv X (compareOp Dk) r')(ha:PE X a ta)(hb:PE X b tb)(hc:PE X c tc)
    (hm:lastMarks [op,Dk] [b,c]=false:=by with_unfolding_all rfl):PT X (.Compare a [op,Dk] [b,c] pos) (Fc (Aa r r' ta tb tc)):=by
  intro χ s σ H Q I h;refine isTrue_chain (dB (ha χ s σ H _ I h) λ v s1 ⟨x,H1,I1,r1,q1⟩=>test_link (dB (hb χ s1 σ H1 _ I1 q1) λ u s2 ⟨y,H2,I2,r2,q2⟩=>dB (ho χ s2 σ H2 x y v u _ I2 r1 r2 q2) λ d s3 ⟨z,H3,I3,r3,k,e,q3⟩=>?_)) hm
  subst e;cases r3;refine A53 ?_;cases k with
  |false=>obtain⟨k',e',q'⟩:=q3;cases e';exact ite_ff ⟨H3,I3,q'⟩
  |true=>refine ite_tt (test_last (dB (hc χ s3 σ H3 _ I3 q3) λ w' s4 ⟨z',H4,I4,r4,q4⟩=>dB (mM χ s4 σ H4 y z' u w' _ I4 r2 r4 q4) λ d' s5 ⟨z2,H5,I5,r5,k2,e2,q5⟩=>?_));subst e2;cases r5;exact A53 ⟨H5,I5,q5⟩
theorem rY:(sizeLine)<2^63:=by rw[A29];decide
theorem Ao:jv X (binaryOp .Add) (λ x y H Q=>∃i j,x=.str i/\y=.str j/\i.length+j.length<=sizeLine/\Q (.str (i++j)) H):=by intro χ s σ H x y v u Q I rx ry h;obtain⟨i,j,rfl,rfl,hz,q⟩:=h;obtain⟨t,rfl⟩:=rx;obtain⟨t',rfl⟩:=ry;exact add_str (λ t' tk=>⟨.str _,H,I.tok _,⟨_,rfl⟩,q⟩) hz
theorem vals1(r:Vals [x] us):∃u,us=[u]/\RelV x u:=by
  cases r with
  |cons r1 r2=>cases r2;exact⟨_,rfl,r1⟩
theorem vals2(r:Vals [x,y] us):∃u w',us=[u,w']/\RelV x u/\RelV y w':=by
  cases r with
  |cons r1 r2=>
    cases r2 with
    |cons r3 r4=>cases r4;exact⟨_,_,rfl,r1,r3⟩
theorem Et(hc:X.calm=true):iG X (.builtin "max") (λ xs H Q=>∃i j,xs=[.int i,.int j]/\Q (.int (if j>i then j else i)) H):=by
  intro χ s σ H xs us Q I r h;obtain⟨i,j,rfl,q⟩:=h;obtain⟨u,w',rfl,⟨t,rfl⟩,⟨t',rfl⟩⟩:=vals2 r;refine max_two_ints (I.ok.hd hc) λ h' tk k=>⟨_,H,I.kept k,?_,q⟩
  by_cases hj:j>i
  ·rw[M2 hj,M2 hj];exact⟨_,rfl⟩
  ·rw[f8 hj,f8 hj];exact⟨_,rfl⟩
theorem Ex:iG X (.type "int") (λ xs H Q=>(∃i,xs=[.int i]/\Q (.int i) H)\/∃k,xs=[.bl k]/\Q (.int (if k then 1 else 0)) H):=by
  intro χ s σ H xs us Q I r h;rcases h with⟨i,rfl,q⟩|⟨k,rfl,q⟩
  · obtain⟨u,rfl,t,rfl⟩:=vals1 r;exact call_int_int ⟨.int i,H,I,⟨_,rfl⟩,q⟩
  · obtain⟨u,rfl,r1⟩:=vals1 r;cases r1;exact call_int_bool ⟨.int _,H,I.tok _,⟨_,rfl⟩,q⟩
def Z2(K:W.Frag)(x:V)(H:Hp)(n:Nat):Prop:=
  match x with
  |.str y=>y.length<=sizeLine/\n=y.length
  |.TQ y=>y.size<=sizeLine/\n=y.size
  |.ref p=>(∃xs,jw K H p xs/\n=xs.length)\/∃xs,lx K H p xs/\n=xs.length
  |_=>False
theorem HP:iG X (.builtin "len") (λ xs H Q=>∃x n,xs=[x]/\Z2 X.K x H n/\Q (.int n) H):=by
  intro χ s σ H xs us Q I r h;obtain⟨x,n,rfl,e,q⟩:=h;obtain⟨u,rfl,rx⟩:=vals1 r;have hl:=rY;have hs:=A29;cases x with
  |str y=>obtain⟨t,rfl⟩:=rx;obtain⟨hy,e'⟩:y.length<=sizeLine/\n=y.length:=e;subst e';exact len_str (by lia) ⟨.int _,H,I.tok _,⟨_,rfl⟩,q⟩
  |TQ y=>obtain⟨t,rfl⟩:=rx;obtain⟨hy,e'⟩:y.size<=sizeLine/\n=y.size:=e;subst e';exact PySem.W.len_bytes (by lia) ⟨.int _,H,I.tok _,⟨_,rfl⟩,q⟩
  |ref p=>
    cases rx;have e':=e;rcases e' with⟨xs,hx,e'⟩|⟨xs,hx,e'⟩
    · subst e';obtain⟨its,r',pl,hz⟩:=I.list hx;have ψ:=r'.length;exact Calls.call_len_list pl.isList (by simp only[A07];lia) ⟨.int _,H,I.tok _,⟨_,by simp only[A07];rw[ψ]⟩,q⟩
    · subst e';obtain⟨its,r',pl,hz⟩:=I.tuple hx;have ψ:=r'.length;exact len_tuple pl (by simp only[A07];lia) ⟨.int _,H,I.tok _,⟨_,by simp only[A07];rw[ψ]⟩,q⟩
  |_=>exact(e).elim
end
structure adB(h:Heap)(x dx C:Addr)(mA:Str->Option Value):Prop where
  obj:h.get? x=some (PySem.W.instObj C dx)
  ns:h.Ns1 dx mA
  ne:dx≠x
section
variable {K:W.Frag}
end
theorem qE.some_of(r:qE (some v) o):∃u,o=some u/\RelV v u:=by
  cases o with
  |none=>exact(r).elim
  |some u=>exact⟨u,rfl,r⟩
section
end
structure Wd(K:W.Frag)(C:Addr):Prop where
  pg:PySem.W.plainGet K C Str.empty=true
  hd:PySem.W.hasDictIn K C=true
  po:PySem.W.plainOver K C=true
  sa:PySem.W.findIn K (.ref C) "__setattr__"=some (some (.builtin "object.__setattr__"))
theorem Wd.get{K:W.Frag}(c:Wd K C)(f:Str):PySem.W.plainGet K C f=true:=c.pg
structure Con(K:W.Frag)(C:Addr)(f:Str)(v:V)(u:Value):Prop where
  at_:PySem.W.findIn K (.ref C) f=some (some u)
  rel:RelV v u
  get:PySem.W.specialIn K u "__get__"=some none
  cp:PySem.W.copiedNames.contains f=false
structure Meth(K:W.Frag)(C:Addr)(m:Str)(f:Addr):Prop where
  at_:PySem.W.findIn K (.ref C) m=some (some (.ref f))
  fn:PySem.W.isFn K (.ref f)=true
  kp:PySem.W.keepIn K (.ref f)=true
section
end
section
end
section
inductive s? (K:W.Frag) (H:Hp):V->Value->Prop where
  | non:s? K H .non (.type "NoneType")
  | bl (x:Bool):s? K H (.bl x) (.type "bool")
  | int (i:Int):s? K H (.int i) (.type "int")
  | str (x:Str):s? K H (.str x) (.type "str")
  | Tb (x:UInt64):s? K H (.Tb x) (.type "float")
  | lst {a:Addr}{xs:List V}(e:H a=some (.lst xs)):s? K H (.ref a) (.type "list")
  | fM {a:Addr}{o:Obj}{xs:List V}(e:H a=some (.fM o (.lst xs))):s? K H (.ref a) (.type "list")
  | tup {a:Addr}{xs:List V}(e:H a=some (.tup xs)):s? K H (.ref a) (.type "tuple")
  | dK {a:Addr}{kvs:List (Key×V)}(e:H a=some (.dK kvs)):s? K H (.ref a) (.type "dict")
  | dT {a:Addr}{kvs:List (List Key×V)}(e:H a=some (.dT kvs)):s? K H (.ref a) (.type "dict")
  | ins {a C dx:Addr}{fs:List (Str×V)}(e:H a=some (.ins C dx fs)) (cl:Wd K C) (ha:PySem.W.findIn K (.ref C) "__class__"=some (some (.builtin "object.__class__")))
      (hn:PySem.W.specialIn K (.builtin "object.__class__") "__get__"=some (some (.builtin "getset_descriptor.__get__"))) (htk:PySem.W.takesIn K (.builtin "object.__class__")=some true)
      (hm:PySem.W.mroIn K C (.type "object")=some true):s? K H (.ref a) (.ref C)
end
structure d?(k:Nat)(A:Around):Prop where
  hd:A.handled=none
  dp:A.depth+3*k+5<recursionLimit
  un:A.units+16*k+200<cLine
theorem d?.mono(r:d? k A)(h:j<=k):d? j A:=⟨r.hd,by have:=r.dp;lia,by have:=r.un;lia⟩
theorem d?.deeper(r:d? (k+1) A)(env:Env):d? k (A.deeper env):=
  ⟨r.hd,by have:=r.dp;show A.depth+1+3*k+5<_;lia,by have:=r.un;show A.units+3+16*k+200<_;lia⟩
theorem d?.in1(r:d? (k+1) A):d? k A.in1:=
  ⟨r.hd,by have:=r.dp;lia,by have:=r.un;lia⟩
theorem d?.depth(r:d? k A):A.depth<recursionLimit:=by have:=r.dp;lia
theorem d?.units(r:d? k A):A.units+64<cLine:=by have:=r.un;lia
def MC:TA:=λ _ H Q=>Q [] H
def Fd(ta:TE)(tr:TA):TA:=λ σ H Q=>ta σ H λ x H1=>tr σ H1 λ xs H2=>Q (x::xs) H2
section
theorem cI:PA X [] MC:=λ _ _ _ _ H Q I h=>Calls.spliced_nil ⟨[],H,I,.nil,h⟩
theorem bF(ha:PE X e te)(hr:PA X es t)(hs:Se e es X.env:=by rfl):PA X (e::es) (Fd te t):=by intro pos χ s σ H Q I h;rw[hs];refine B74 (dB (ha χ s σ H _ I h) λ u s1 ⟨x,H1,I1,r1,q1⟩=>?_);exact dB (hr pos χ s1 σ H1 _ I1 q1) λ us s2 ⟨xs,H2,I2,r2,q2⟩=>⟨x::xs,H2,I2,.cons r1 r2,q2⟩
def Wm(t:TA):TE:=λ σ H Q=>t σ H λ xs H1=>xs.length<=sizeLine/\∀p,H1 p=none->Q (.ref p) (upd H1 p (.tup xs))
def Ws(t:TA):TE:=λ σ H Q=>t σ H λ xs H1=>xs.length<=sizeLine/\∀p,H1 p=none->Q (.ref p) (upd H1 p (.lst xs))
theorem MZ(h:PA X es t):PE X (.Tuple es x1 pos) (Wm t):=by intro χ s σ H Q I hq;refine wpAny_Tuple_spliced (dB (h pos χ s σ H _ I hq) λ us s1 ⟨xs,H1,I1,r,z,q⟩=>⟨by rw[<-r.length];exact z,?_⟩);have hf:=I1.cC.fresh (o0 _);refine⟨.ref _,_,I1.laid (λ b u e=>W1 _ e) (o0 _) ?_,rfl,q _ hf⟩;exact⟨z,us,r,oM.new _ _⟩
theorem M3(h:PA X es t):PE X (.List es pos) (Ws t):=by intro χ s σ H Q I hq;refine wpAny_List_spliced (dB (h pos χ s σ H _ I hq) λ us s1 ⟨xs,H1,I1,r,z,q⟩=>⟨by rw[<-r.length];exact z,?_⟩);have hf:=I1.cC.fresh (o0 _);refine⟨.ref _,_,I1.laid (λ b u e=>W1 _ e) (o0 _) ?_,rfl,q _ hf⟩;exact⟨z,us,0,r,A11 _ rfl⟩
end
abbrev Sp:=γ V->Hp->VK->XK->Prop
abbrev O':=γ Env->Hp->η->XK->ζ->η->Prop
structure zJ(P:Program)(w:World)(K:W.Frag)(mg:Str->Option Value)(base:Heap)(A:Around)(outer:List Env)(s:Shared)(H:Hp):Prop where
  frames:A.frames=some outer
  mod:Mod K mg base
  bs:∀b o,base.get? b=some o->s.heap.get? b=some o/\H b=none
  IF:base.objs.size<=s.heap.objs.size
  og:s.heap.FunFrames base outer
  Oe:∀b∈qN outer,H b=none
  cC:l8 P w H s.heap
  bare:AllBare s.gens
  tab:vg K mg base H
def CE(outer:γ Env)(P:ο)(w:ξ)(H:Hp)(s:η)(Q:VK)(u:ζ)(s':η):Prop:=
  ∃v H',s'.os=s.os/\AllBare s'.gens/\Un (qN outer) [] H H' s.heap s'.heap/\l8 P w H' s'.heap/\RelV v u/\Q v H'
def CR(CX:O')(outer:γ Env)(P:ο)(w:ξ)(H:Hp)(s:η)(Q:VK)(E:XK)(r:Result)(s':η):Prop:=
  match r with
  |.ok (.ret u)=>CE outer P w H s Q u s'
  |.ok _=>False
  |.error e=>CX outer H s E e s'
structure ki(P:Program)(w:World)(K:W.Frag)(mg:Str->Option Value)(base:Heap)(CX:O')(k:Nat)(f:Addr)(fd:FuncData)(ps:List Str)(sp:Sp):Prop where
  len:∀vs H Q E,sp vs H Q E->vs.length=ps.length
  run:∀(A:Around)(outer:List Env)(s:Shared)(H:Hp)(args:Args)(us:List Value)(vs:List V)(Q:VK)(E:XK),d? k A->zJ P w K mg base A outer s H->BindsTo s fd args (ps.zip us)->Vals vs us->sp vs H Q E ->
    codeAny (model P w) A (.call (.ref f) args) (CR CX outer P w H s Q E) s
theorem zJ.in1{K:W.Frag}(e:zJ P w K mg base A outer s H):
    zJ P w K mg base A.in1 outer s H:=⟨e.frames,e.mod,e.bs,e.IF,e.og,e.Oe,e.cC,e.bare,e.tab⟩
section
theorem Inv.Zl(I:Inv X χ σ H s):zJ X.prog X.w X.K X.mg X.base X.A X.stack s H:=
  ⟨I.ok.frames,I.ok.mod,I.bs,A16 I.ok.IF I.sz,I.stack,I.qG,I.cC,I.bare,I.tab⟩
theorem Inv.after(I:Inv X χ σ H s)(h:CE X.stack X.prog X.w H s Q u s'):EP X χ σ Q u s':=by obtain⟨v,H',os,bare,un,cC,r,q⟩:=h;obtain⟨hh,g,d,t,Xe⟩:=s';obtain rfl:Xe=s.os:=os;exact⟨v,H',I.call un cC bare (λ b z=>absurd z (by simp)),r,q⟩
end
def Qn(sp:Sp)(Tv:γ V)(E:XK)(t:TA):TE:=λ σ H Q=>t σ H λ vs H1=>sp (vs++Tv) H1 Q E
def Binds(K:W.Frag)(fd:υ)(ps:γ Str)(ds:γ ζ):Prop:=
  ∀(s:η)(us:γ ζ),K.In s.heap->(us++ds).length=ps.length->BindsTo s fd ⟨us,[]⟩ (ps.zip (us++ds))
theorem Binds.all{K:W.Frag}(h:∀us,us.length=ps.length->bindArgs fd ⟨us,[]⟩=pure (ps.zip us)):Binds K fd ps []:=λ s us _ hl=>by rw[A87]at hl ⊢;exact .of_eq (h us hl)
def Passes(CX:O')(X:Cx)(E:XK):Prop:=∀(χ:γ (δ×ι))(σ:St)(H:Hp)(s:η)(e:ζ)(s':η),Inv X χ σ H s->CX X.stack H s E e s'->X.xe e s'
section
theorem MJ(F:ki X.prog X.w X.K X.mg X.base CX k f fd ps sp)(hr:d? k X.A)(hb:Binds X.K fd ps ds)(hd:Vals Tv ds)(hx:Passes CX X E)
    (I:Inv X χ σ H s) (r:Vals vs us) (h:sp (vs++Tv) H Q E):wpAny (model X.prog X.w) X.A (call (.ref f) us) (EP X χ σ Q) X.xe s:=by
  have r2:=r.append hd;have hl:(us++ds).length=ps.length:=by rw[<-r2.length];exact F.len _ _ _ _ h
  refine wpAny_call (B44 (F.run X.A _ s H ⟨us,[]⟩ _ _ Q E hr I.Zl (hb s us I.B4 hl) r2 h) λ r s' hq=>?_);cases r with
  |error e=>exact hx χ σ H s e s' I hq
  |ok fl=>
    cases fl with
    |ret u=>exact I.after hq
    |next=>exact False.elim hq
    |brk=>exact False.elim hq
    |cont=>exact False.elim hq
theorem JD(F:ki X.prog X.w X.K X.mg X.base CX k f fd ps sp)(hr:d? k X.A)(hg:Gl X x)(hm:X.mg x=some (.ref f))(hk:PySem.W.keepIn X.K (.ref f)=true)(hb:Binds X.K fd ps ds)(hd:Vals Tv ds)(hx:Passes CX X E)
    (ha:PA X (e::es) t) (ji:(x==("__debug__"))=false:=by decide) (he:Se e es X.env:=by rfl) (iV:Pn pos es X.env:=by rfl) :
    PE X (.Call (.Name x p) (e::es) [] pos) (Qn sp Tv E t):=by
  intro χ s σ H Q I h;refine B17 (B1 I hg hm ?_ ji);refine PySem.W.callWith_K I.ok.mod.Vo hk (dB (ha pos χ s σ H _ I h) λ us s1 ⟨vs,H1,I1,r,q⟩=>⟨I1.B4,?_⟩) he iV;exact MJ F hr hb hd hx I1 r q
structure Mk(K:W.Frag)(C f:Addr):Prop where
  makes:PySem.W.makesIn K C=true
  init:PySem.W.findIn K (.ref C) "__init__"=some (some (.ref f))
  fn:PySem.W.isFn K (.ref f)=true
  kp:PySem.W.keepIn K (.ref C)=true
end
section
structure Z3(K:W.Frag)(fd:FuncData)(ps ks:List Str)(g:List Value->List Value->List Value)(gV:List V->List V->List V):Prop where
  to:∀(s:Shared)(us ws:List Value),K.In s.heap->(g us ws).length=ps.length->BindsTo s fd ⟨us,ks.zip ws⟩ (ps.zip (g us ws))
  rel:∀{vs:List V}{us:List Value}{zs:List V}{ws:List Value},Vals vs us->Vals zs ws->Vals (gV vs zs) (g us ws)
end
structure c6(N P:List Str)(sc:Scope):Prop where
  kind:sc.kind=.function
  co:sc.isCoroutine=false
  gen:sc.isGenerator=false
  nd:N.Nodup
  pre:N.take P.length=P
  par:∀x∈P,sc.names.lookup x=some .local\/sc.names.lookup x=some .cell
  Gd:∀y∈sc.names,y.2≠.free
theorem u?{kindOf:Str->ε NameKind}:∀{binds}{m},(∀v,(x,v)∉binds)->bindL kindOf binds m x=m x
  |[],_,_=>rfl
  |(n,v)::r,m,h=>by
    unfold bindL;rw[u? λ w hw=>h w (A09 _ hw)];split
    · have:x≠n:=by rintro rfl;exact h v A12
      simp[this]
    ·rfl
theorem va{kindOf:Str->ε NameKind}:∀{binds}{m},(∀v,(x,v)∉binds)->bindC kindOf binds m x=m x
  |[],_,_=>rfl
  |(n,v)::r,m,h=>by
    unfold bindC;rw[va λ w hw=>h w (A09 _ hw)];split
    ·rfl
    · have:x≠n:=by rintro rfl;exact h v A12
      simp[this]
theorem u_{kindOf:Str->ε NameKind}{x:Str}{v:ζ}:∀{P:γ Str}{vs}{i:Nat} {m},P.Nodup->P[i]?=some x->vs[i]?=some v->kindOf x=some .local ->
    bindL kindOf (P.zip vs) m x=some v
  |[],_,_,_,_,h,_,_=>by simp at h
  |_::_,[],_,_,_,_,h,_=>by simp at h
  |p::P,w::vs,0,m,nd,h1,h2,hk=>by simp at h1 h2;subst h1;subst h2;show bindL kindOf ((p,w)::P.zip vs) m p=_;unfold bindL;rw[u? λ v hv=>(A49.mp nd).1 (B75 hv).1,M2 hk];simp
  |p::P,w::vs,i+1,m,nd,h1,h2,hk=>by show bindL kindOf ((p,w)::P.zip vs) m x=_;unfold bindL;exact u_ (i:=i) (A49.mp nd).2 (by simpa using h1) (by simpa using h2) hk
theorem vb{kindOf:Str->ε NameKind}{x:Str}{v:ζ}:∀{P:γ Str}{vs:γ ζ}{i:Nat}{m:Str->ε ζ},P.Nodup->P[i]?=some x->vs[i]?=some v->kindOf x≠some .local ->
    bindC kindOf (P.zip vs) m x=some v
  |[],_,_,_,_,h,_,_=>by simp at h
  |_::_,[],_,_,_,_,h,_=>by simp at h
  |p::P,w::vs,0,m,nd,h1,h2,hk=>by simp at h1 h2;subst h1;subst h2;show bindC kindOf ((p,w)::P.zip vs) m p=_;unfold bindC;rw[va λ v hv=>(A49.mp nd).1 (B75 hv).1,f8 hk];simp
  |p::P,w::vs,i+1,m,nd,h1,h2,hk=>by show bindC kindOf ((p,w)::P.zip vs) m x=_;unfold bindC;exact vb (i:=i) (A49.mp nd).2 (by simpa using h1) (by simpa using h2) hk
def start(N:γ Str)(vs:γ V):St:=vs.map some++List.replicate (N.length-vs.length) none
def iZ(CX:O')(P:ο)(w:ξ)(K:W.Frag)(mg:Str->ε ζ)(base:μ)(N:γ Str)(qual:Str)(scope:ς)(f:δ)(cd:ζ)(A:τ)(outer:γ Env)(s:η)(H:Hp)(E:XK):Cx where
  prog:=P
  w:=w
  K:=K
  mg:=mg
  base:=base
  A:=A.deeper (envOfC qual scope s.heap.objs.size f cd)
  N:=N
  s₀:=s
  H₀:=H
  env:=envOfC qual scope s.heap.objs.size f cd
  outer:=outer
  stack:=envOfC qual scope s.heap.objs.size f cd::outer
  ex:=[]
  calm:=true
  fn:=λ _=>true
  pn:=[]
  xe:=λ e s'=>wpAny (model P w) (A.deeper (envOfC qual scope s.heap.objs.size f cd)) (leaving (envOfC qual scope s.heap.objs.size f cd) e) (λ _ Pb=>CX outer H s E e Pb) (λ e' Pb=>CX outer H s E e' Pb) s'
theorem zx{sc:ς}(h:sc.names.lookup x=some .cell):∃c,(cellsFrom n sc.names []).lookup x=some c:=by have q:=C31 _ n [] (.inl h);exact A91.mp q
theorem DX {K:PySem.W.Frag}
    (S:c6 N ps scope) (hd:A.handled=none) (e0:zJ P w K mg base A outer s H) (hl:vs.length=ps.length) (r:Vals vs us)
    (x:InCallC s s.heap.objs.size (bindL (envOfC qual scope s.heap.objs.size f cd).kindOf (ps.zip us) λ _=>none) (cellsFrom (s.heap.objs.size+1) scope.names []) (bindC (envOfC qual scope s.heap.objs.size f cd).kindOf (ps.zip us) λ _=>none) s1) :
    Inv (iZ CX P w K mg base N qual scope f cd A outer s H E) [] (start N vs) H s1:=by
  have iV:ps.length<=N.length:=by have:=A22 List.length S.pre;rw[A34]at this;lia
  obtain⟨h1,tk,rfl,hk⟩:=x.done;have Nq:∀b,b∉(iZ CX P w K mg base N qual scope f cd A outer s H E).ex:=λ b z=>absurd (show b∈([]:γ δ)from z) (by simp);refine⟨⟨e0.mod,S.kind,rfl,rfl,o0 _,λ y z c h1 h2=>?_,λ y hy=>?_,λ y c _ h=>?_,λ _=>hd,Around.frames_deeper e0.frames,.inr ⟨rfl,rfl⟩,λ b z=>absurd z (Nq b),e0.bs,e0.IF,λ b _ _=>Nq b,λ b z=>absurd z (Nq b),e0.og,e0.Oe⟩,
    rfl,e0.bare,Un.kept hk,⟨_,x.toInCall.ns,λ i y v h1 h2 h3=>?_⟩,λ y c h=>⟨_,x.cell y c h⟩,e0.cC.fresh (o0 _),λ y c h=>?_,λ p hp=>absurd (show p∈([]:γ (δ×ι))from hp) (by simp),e0.cC.kept hk,?_,e0.tab⟩
  ·exact name_of_addr x.apart (A72 h1) (A72 h2)
  · have hy:=hy;rcases hy with hy|hy
    ·exact zx hy
    ·exact absurd rfl (S.Gd _ (A72 hy))
  ·exact A80 (x.above y c (A72 h))
  · have hi:i<vs.length:=by
      unfold start at h2;by_cases hi:i<vs.length
      ·exact hi
      · rw[A54 (by simpa using hi)]at h2;rw[A64]at h2;split at h2<;>cases h2
    have ha:vs[i]?=some v:=by
      unfold start at h2;rw[A44 (by simpa using hi),P3]at h2;cases e:vs[i]? with
      |none=>rw[e]at h2;cases h2
      |some a=>rw[e]at h2;cases h2;rfl
    obtain⟨u,hu,rv⟩:=r.get ha;have hp:ps[i]?=some y:=by rw[<-S.pre,B76 (by lia)];exact h1
    have _B:ps.Nodup:=by rw[<-S.pre];exact S.nd.sublist (List.take_sublist _ _)
    refine⟨u,rv,?_⟩;rcases S.par y (A15 hp)with k|k
    ·exact .inl ⟨k,u_ _B hp hu k⟩
    · obtain⟨c,e⟩:=zx (n:=s.heap.objs.size+1) k;refine .inr ⟨.inl k,c,e,?_⟩;have q:=x.cell y c e;rw[vb _B hp hu (by show scope.names.lookup y≠_;rw[k];decide)]at q;exact q
  ·exact e0.cC.fresh (A80 (x.above y c (A72 h)))
  · unfold start;show _=N.length;rw[A23,A03,B18];lia
theorem Cj{K:W.Frag}{dV kV doc pm cV ct oc:ζ}
       (lk:K.lookup f=some ⟨oc,od,.func (PySem.W.fnOf name qual params body scope dV kV doc pm an cV ct),zM⟩) (tu:PySem.W.codeIn K cV qual=true) (S:c6 N ps scope)
    (len:∀vs H Q E,sp vs H Q E->vs.length=ps.length)
    (yR:∀A outer s H vs Q E,d? k (A.deeper (envOfC qual scope s.heap.objs.size f cV))->sp vs H Q E ->
      ∃t,tD (iZ CX P w K mg base N qual scope f cV A outer s H E) body t/\t {nx:=λ _ H'=>Q .non H',rt:=Q} (start N vs) H) :
    ki P w K mg base CX (k+1) f (PySem.W.fnOf name qual params body scope dV kV doc pm an cV ct) ps sp:=by
  refine⟨len,λ A outer s H args us vs Q E hr e0 hb r L3=>?_⟩;have hl:=len _ _ _ _ L3;have KX:=e0.mod.Vo.keeps λ b o e=>(e0.bs b o e).1;have lim:=e0.mod.nolimit.keeps λ b o e=>(e0.bs b o e).1;have Sw:∀y∈ps.zip us,scope.names.lookup y.1=some .local\/(scope.names.lookup y.1=some .cell/\((cellsFrom (s.heap.objs.size+1) scope.names []).lookup y.1).isSome=true):=λ⟨n,v⟩ hy=>by
    rcases S.par n (B75 hy).1 with q|q
    ·exact .inl q
    ·exact .inr ⟨q,C31 _ _ _ (.inl q)⟩
  refine codeAny_call_function hr.depth (KX _ _ lk) rfl S.co S.gen rfl (PySem.W.codeRec_of KX tu) (hb _ _ _ _ ?_);refine wpAny_newFunctionEnv_cells S.kind Sw λ env he s1 x=>?_;subst he;refine⟨lim.keeps x.toInCall.keep,codeAny_func ?_⟩;obtain⟨t,ht,hq⟩:=yR A outer s H vs Q E (hr.deeper _) L3;have I:Inv (iZ CX P w K mg base N qual scope f cV A outer s H E) [] (start N vs) H s1:=DX S hr.hd e0 hl r x;refine A26 (ht [] s1 (start N vs) H _ I hq) (λ fl s' hs=>?_) λ e s' hs=>hs;have fin:∀{σ'}{H'}{v}{u},Inv (iZ CX P w K mg base N qual scope f cV A outer s H E) [] σ' H' s'->RelV v u->Q v H'->CE outer P w H s Q u s':=
    λ {σ' H' v u} J rv q=>⟨v,H',J.os,J.bare,J.base,J.cC,rv,q⟩
  cases fl with
  |ret u=>obtain⟨v,σ',H',J,rv,q⟩:=hs;exact fin J rv q
  |next=>obtain⟨σ',H',J,q⟩:=hs;exact fin (v:=V.non) (u:=Value.none) J rfl q
  |brk=>obtain⟨_,_,_,q⟩:=hs;exact False.elim q
  |cont=>obtain⟨_,_,_,q⟩:=hs;exact False.elim q
section
variable {id T:String}
def _k(r:γ V->Hp->VK->Prop)(t:TA):TE:=λ σ H Q=>t σ H λ vs H1=>r vs H1 Q
theorem j6(hc:iG X (.builtin id) r)(hg:Gl X x)(hm:X.mg x=none)(hv:bootBuiltins x=some (.builtin id))(ha:PA X (e::es) t)(hn:x≠ "__name__":=by decide)(ji:(x==("__debug__"))=false:=by decide)
    (he:Se e es X.env:=by rfl) (iV:Pn pos es X.env:=by rfl):PE X (.Call (.Name x p) (e::es) [] pos) (_k r t):=by
  intro χ s σ H Q I h;refine B17 (jV I hg hm hv ?_ hn ji);exact PyProof.Rows.callWith_builtin1 (dB (ha pos χ s σ H _ I h) λ us s1 ⟨vs,H1,I1,r1,q1⟩=>hc χ s1 σ H1 vs us Q I1 r1 q1) he iV
theorem j5(hc:iG X (.type T) r)(hg:Gl X x)(hm:X.mg x=none)(hv:bootBuiltins x=some (.type T))(ha:PA X (e::es) t)(hn:x≠ "__name__":=by decide)(ji:(x==("__debug__"))=false:=by decide)
    (he:Se e es X.env:=by rfl) (iV:Pn pos es X.env:=by rfl):PE X (.Call (.Name x p) (e::es) [] pos) (_k r t):=by
  intro χ s σ H Q I h;refine B17 (jV I hg hm hv ?_ hn ji);exact B03 (dB (ha pos χ s σ H _ I h) λ us s1 ⟨vs,H1,I1,r1,q1⟩=>hc χ s1 σ H1 vs us Q I1 r1 q1) he iV
end
end L2
namespace HT
open PySem PyProof.Rows
section
open PySem.SeqAt
open PySem.AutoSeq1 (wpAny_loadPart')
open PySem.MeetsSeq PySem.MeetsSeq2 PySem.MeetsSeq3
end
section
theorem Ll(ht:IsTup s.heap t vs.toArray)(hb:IsTup s.heap b ws.toArray)(hv:vs≠[])
    (h1:ws=[]->Q (.ref t) s) (h2:ws≠[]->Q (.ref s.heap.objs.size) {s with heap:=s.heap.push {cls:=.type "tuple",data:=.seq (vs++ws).toArray}})
    (AO:vs.length+ws.length<=sizeLine):wpAny (model prog w) A (binaryOp .Add (.ref t) (.ref b)) Q E s:=by
  obtain⟨⟨cls,dd,data,sl⟩,ho,hc,n,hd⟩:=id ht;obtain⟨⟨TB,PV,data2,O_⟩,EL,uT,n2,hd2⟩:=id hb;simp only at hc hd uT hd2;subst hc hd uT hd2;have e:vs.toArray++ws.toArray=(vs++ws).toArray:=by simp
  by_cases hw:ws=[]
  · exact B46 ⟨_,ho,rfl⟩ ⟨_,EL,rfl⟩ B77 seq_tuple_add B79 B80 (B81 _ _)
      (tuple_addW1 t b _ _ n n2 dd PV sl O_ (by simpa using hv) (by simp[hw])) ⟨ho,EL,h1 hw⟩
  · refine B46 ⟨_,ho,rfl⟩ ⟨_,EL,rfl⟩ B77 seq_tuple_add B79 B80 (B81 _ _)
      (tuple_addW2 t b vs.toArray ws.toArray n n2 dd PV sl O_ (by simpa using hv) (by simpa using hw) (by rw[A07,A07];exact AO)) ⟨ho,EL,?_⟩
    rw[e];exact h2 hw
def eu(n d:Nat):ε Int->Nat
  |none=>d
  |some v=>if v<0 then(v+(n:Int)).toNat else min v.toNat n
theorem vL(n d:Nat)(hd:d<=n)(o:ε Int):eu n d o<=n:=by
  cases o with
  |none=>exact hd
  |some v=>
    show(if v<0 then(v+(n)).toNat else min _ n)<=n;by_cases hv:v<0
    ·rw[M2 hv];lia
    ·rw[f8 hv];exact Nat.min_le_right _ _
theorem Cv(v:Int)(n d:Nat):(if v<0 then max (v+(n)) 0 else min v (n))=((eu n d (some v))):=by
  show(if v<0 then max _ 0 else min v (n))=(((if v<0 then(v+(n)).toNat else min _ n)))
  by_cases hv:v<0
  ·simp only[M2 hv];lia
  ·simp only[f8 hv];lia
theorem Bm(lo hi:ε Int)(n:Nat):Builtin.Slice.sliceAdjust lo hi 1 (n)=(((eu n 0 lo):Int),((eu n n hi):Int)):=by
  have h1:¬((1)<0):=by lia
  unfold Builtin.Slice.sliceAdjust;simp only[A65];refine Prod.ext ?_ ?_
  · cases lo with
    |none=>rfl
    |some v=>exact Cv v n 0
  · cases hi with
    |none=>rfl
    |some v=>exact Cv v n n
theorem Al(i j:Nat):Builtin.Slice.slicePlaces (i) (j) 1=j-i:=by
  unfold Builtin.Slice.slicePlaces;have h1:(1)>0:=by lia
  simp only[Int.ediv_one];split<;>lia
theorem rD(p:IsPart v o)(h:Q o s):wpAny (model prog w) A (Builtin.Slice.slicePartIndex v) Q E s:=by
  cases p with
  |none=>exact slicePart_none h
  |int i t=>exact slicePart_int h
theorem j3{lo hi:ε Int}{Q:Int×Int×Nat->η->Prop}(hs:s.heap.IsSliceOf sl vl vu .none)(pl:IsPart vl lo)(pu:IsPart vu hi)
    (h:Q (((eu n 0 lo)),1,eu n n hi-eu n 0 lo) s):wpAny (model prog w) A (Builtin.Slice.sliceApplied (.ref sl) (pure (n))) Q E s:=by
  obtain⟨os,NV,G1,SR⟩:=id hs;unfold Builtin.Slice.sliceApplied Builtin.Slice.sliceFields;refine T0 (T0 (A32 NV SR rfl (T0 (A32 NV SR rfl (T0 (A32 NV SR rfl (v0 ?_)))))));refine T0 (slicePart_none ?_);rw[f8 (by decide)];refine T0 (rD pl (T0 (rD pu (T0 (v0 ?_)))));show wpAny _ _ (match Builtin.Slice.sliceAdjust lo hi 1 (n)with|(lo,hi)=>pure (lo,(1:Int),Builtin.Slice.slicePlaces lo hi 1)) _ _ s;rw[Bm];show wpAny _ _ (pure (((eu n 0 lo):Int),(1),Builtin.Slice.slicePlaces ((eu n 0 lo)) ((eu n n hi)) 1)) _ _ s;rw[Al];exact v0 h
theorem FO(xs:Array ζ)(i k:Nat):((List.range k).filterMap λ(m:Nat)=>xs[((i)+(m:Int)*1).toNat]?).toArray=((xs.toList.drop i).take k).toArray:=by
  have e:(λ(m:Nat)=>xs[((i)+(m:Int)*1).toNat]?)=λ m=>xs[i+m]?:=by
    funext m
    have:((i)+(m:Int)*1).toNat=i+m:=by lia
    rw[this]
  rw[e];have:=pick_run xs i k;rw[List.filterMap_map]at this;have e2:((λ x=>xs[x]?)∘λ x=>i+x)=λ m=>xs[i+m]?:=rfl;rw[e2]at this;rw[this]
theorem oa{lo hi:ε Int}(ht:IsTup s.heap t items)(hs:s.heap.IsSliceOf sl vl vu .none)(pl:IsPart vl lo)(pu:IsPart vu hi)
    (hw:¬(eu items.size 0 lo=0/\eu items.size items.size hi=items.size))
    (h:Q (.ref s.heap.objs.size) {s with heap:=s.heap.push {cls:=.type "tuple",data:=.seq ((items.toList.drop (eu items.size 0 lo)).take (eu items.size items.size hi-eu items.size 0 lo)).toArray}})
    (AO:items.size<=sizeLine):wpAny (model prog w) A (getItem (.ref t) (.ref sl)) Q E s:=by
  have B?:sizeOk (.seq ((items.toList.drop (eu items.size 0 lo)).take (eu items.size items.size hi-eu items.size 0 lo)).toArray):=by show((items.toList.drop (eu items.size 0 lo)).take (eu items.size items.size hi-eu items.size 0 lo)).toArray.size<=sizeLine;rw[A07,A34,B82,B42];lia
  have hj:eu items.size items.size hi<=items.size:=vL _ _ (o0 _) hi;obtain⟨os,NV,G1,SR⟩:=id hs;have YS:s.TypeIs (.ref sl) "slice":=⟨os,NV,G1⟩
  unfold getItem
  try with_reducible refine A33 ?_
  first|refine T0 (v0 ?_)|skip
  refine T0 (wpAny_sequenceKey ht.typeIs (by decide) ?_);refine T0 (B04 (name:=Str.ofString "__getitem__") ht.typeIs B05
    (B06 B05 ht.typeIs entry_tuple_getitem ?_ (args_tuple_getitem _ _)))
  show wpAny _ _ (Builtin.Tuple.tupleItemsOf (.ref t)>>=_) _ _ s;refine T0 (tupleItemsOf_ ht ?_);refine T0 (B19 YS ?_);rw[M2 (by decide)];refine T0 (j3 hs pl pu ?_);have B_:¬((((eu items.size 0 lo:Nat):Int)==0&&(1:Int)==1&&(eu items.size items.size hi-eu items.size 0 lo)==items.size)=true):=by intro q;rw[A40,A40]at q;have q1:((eu items.size 0 lo:Nat):Int)=0:=eq_of_beq q.1.1;have q2:eu items.size items.size hi-eu items.size 0 lo=items.size:=eq_of_beq q.2;exact hw ⟨by lia,by lia⟩
  show wpAny _ _ (if(((eu items.size 0 lo:Nat):Int)==0&&(1:Int)==1&&(eu items.size items.size hi-eu items.size 0 lo)==items.size)=true then _ else _) _ _ s;rw[f8 B_,FO]
  first
    |exact T0 (m:=Builtin.Tuple.tupleExact _) (A55 (v0 ⟨_,rfl,v0 h⟩) B?)
    |exact T0 (m:=Builtin.Tuple.tupleExact _) (A55 (T0 (v0 (v0 ⟨_,rfl,v0 h⟩))) B?)
    |exact T0 (T0 (m:=Builtin.Tuple.tupleExact _) (A55 (v0 (v0 ⟨_,rfl,v0 h⟩)) B?))
    |exact T0 (T0 (m:=Builtin.Tuple.tupleExact _) (A55 (v0 ⟨_,rfl,v0 h⟩) B?))
end
end HT
namespace L2
open PySem PySem.Spec PyProof.Rows
abbrev TO:=St->Hp->(ε Int->Hp->Prop)->Prop
def PO (X:Cx) (e:ε θ) (t:TO):Prop:=
  ∀ (χ:γ (δ×ι)) (s:η) (σ:St) (H:Hp) (Q:ε Int->Hp->Prop),Inv X χ σ H s->t σ H Q ->
    wpAny (model X.prog X.w) X.A (evalPart e X.env) (λ u s'=>∃o H',Inv X χ σ H' s'/\IsPart u o/\Q o H') X.xe s
def I?:TO:=λ _ H Q=>Q none H
def Qg(t:TE):TO:=λ σ H Q=>t σ H λ x H1=>∃i,x=.int i/\Q (some i) H1
section
variable {lo hi:ε θ}
theorem Jx:PO X none I?:=by intro χ s σ H Q I h;rw[evalPart_none];exact v0 ⟨none,H,I,.none,h⟩
theorem Jw(h:PE X e te):PO X (some e) (Qg te):=by intro χ s σ H Q I hw;rw[evalPart_some];refine dB (h χ s σ H _ I hw) λ u s1 ⟨x,H1,I1,r1,q1⟩=>?_;obtain⟨i,rfl,q⟩:=q1;obtain⟨t,rfl⟩:=r1;exact⟨_,H1,I1,.int i t,q⟩
def Ly (X:Cx) (r:V->ε Int->ε Int->Hp->VK->Prop):Prop:=
  ∀ (χ:γ (δ×ι)) (s:η) (σ:St) (H:Hp) (x:V) (v vl vu:ζ) (lo hi:ε Int) (sl:δ) (Q:VK),Inv X χ σ H s->RelV x v->s.heap.IsSliceOf sl vl vu .none->IsPart vl lo->IsPart vu hi->r x lo hi H Q ->
    ∃T id,typeLookup (.type T) "__getitem__"=pure (some (.builtin id))/\s.TypeIs v T/\wpAny (model X.prog X.w) X.A (getItem v (.ref sl)) (EP X χ σ Q) X.xe s
theorem Ly.or(h:Ly X r)(h':Ly X r'):Ly X (λ x lo hi H Q=>r x lo hi H Q\/r' x lo hi H Q):=by
  intro χ s σ H x v vl vu lo hi sl Q I rx hs pl pu q;rcases q with q|q
  ·exact h χ s σ H x v vl vu lo hi sl Q I rx hs pl pu q
  ·exact h' χ s σ H x v vl vu lo hi sl Q I rx hs pl pu q
def tSl(r:V->ε Int->ε Int->Hp->VK->Prop)(te:TE)(tl th:TO):TE:=λ σ H Q=>te σ H λ x H1=>tl σ H1 λ l H2=>th σ H2 λ u H3=>r x l u H3 Q
theorem yg(hr:Ly X r)(he:PE X e te)(hl:PO X lo tl)(hu:PO X hi th):PE X (.Subscript e (.Slice lo hi none p2) pos) (tSl r te tl th):=by intro χ s σ H Q I h;refine Subscript_ (dB (he χ s σ H _ I h) λ v s1 ⟨x,H1,I1,r1,q1⟩=>?_);refine wpAny_Slice (dB (hl χ s1 σ H1 _ I1 q1) λ vl s2 ⟨l,H2,I2,pl,q2⟩=>dB (hu χ s2 σ H2 _ I2 q2) λ vu s3 ⟨u,H3,I3,pu,q3⟩=>?_);rw[evalPart_none];refine v0 ?_;have I4:Inv X χ σ H3 {s3 with heap:=s3.heap.push {cls:=.type "slice",data:=.fields #[vl,vu,.none]}}:=I3.kept λ b ob q=>W1 _ q;obtain⟨T,id,hT,ht,hg⟩:=hr χ {s3 with heap:=s3.heap.push {cls:=.type "slice",data:=.fields #[vl,vu,.none]}} σ H3 x v vl vu l u _ Q I4 r1 (Heap.IsSliceOf.new ..) pl pu q3;exact tail_any ht hT hg (by with_unfolding_all rfl)
def uh(xs:γ V)(lo hi:ε Int):γ V:=(xs.drop (HT.eu xs.length 0 lo)).take (HT.eu xs.length xs.length hi-HT.eu xs.length 0 lo)
theorem qe(xs:γ V)(lo hi:ε Int):(uh xs lo hi).length<=xs.length:=by unfold uh;rw[A34,B82];lia
def W8(K:W.Frag):V->ε Int->ε Int->Hp->VK->Prop:=λ x lo hi H Q=>∃a xs,x=.ref a/\lx K H a xs /\
  ¬(HT.eu xs.length 0 lo=0/\HT.eu xs.length xs.length hi=xs.length)/\∀p,H p=none->Q (.ref p) (upd H p (.tup (uh xs lo hi)))
theorem ME:Ly X (W8 X.K):=by
  intro χ s σ H x v vl vu lo hi sl Q I rx hs pl pu h;obtain⟨a,xs,rfl,hx,hw,q⟩:=h;cases rx;obtain⟨its,r,ht,hz⟩:=I.tuple hx;have ψ:its.toArray.size=xs.length:=by rw[A07];exact r.length.symm
  refine⟨"tuple",_,B05.lookup,ht.typeIs,?_⟩;refine HT.oa ht hs pl pu (by rw[ψ];exact hw) ?_ (by rw[ψ];exact hz);rw[ψ];refine⟨.ref _,_,I.laid (λ b ob q=>W1 _ q) (o0 _) ?_,rfl,q _ (I.cC.fresh (o0 _))⟩;exact⟨A16 (qe xs lo hi) hz,_,(r.drop _).take _,oM.new _ _⟩
def Q0(K:W.Frag):R2:=λ x y H Q=>∃a b xs ys,x=.ref a/\y=.ref b/\lx K H a xs/\lx K H b ys/\xs≠[]/\xs.length+ys.length<=sizeLine /\
  (ys=[]->Q (.ref a) H)/\(ys≠[]->∀p,H p=none->Q (.ref p) (upd H p (.tup (xs++ys))))
theorem Vals.qK(r:Vals xs us):us=[]↔xs=[]:=by
  cases r with
  |nil=>simp
  |cons _ _=>simp
theorem JN:jv X (binaryOp .Add) (Q0 X.K):=by intro χ s σ H x y v u Q I rx ry h;obtain⟨a,b,xs,ys,rfl,rfl,ha,hb,hx,hz,q1,q2⟩:=h;cases rx;cases ry;obtain⟨its,r1,p1,_⟩:=I.tuple ha;obtain⟨g_,r2,p2,_⟩:=I.tuple hb;refine HT.Ll p1 p2 (λ z=>hx (r1.qK.mp z)) (λ z=>⟨.ref a,H,I,rfl,q1 (r2.qK.mp z)⟩) (λ z=>?_) (by rw[<-r1.length,<-r2.length];exact hz);refine⟨.ref _,_,I.laid (λ b ob q=>W1 _ q) (o0 _) ?_,rfl,q2 (λ w=>z (r2.qK.mpr w)) _ (I.cC.fresh (o0 _))⟩;exact⟨by rw[A23];exact hz,_,r1.append r2,oM.new _ _⟩
end
def Pp(n:Nat)(i:Int):ε Nat:=if 0<=i then(if i<n then some i.toNat else none)else if -(n:Int)<=i then some (i+n).toNat else none
def O2{α:Type}(xs:γ α)(i:Int):ε α:=(Pp xs.length i).bind λ j=>xs[j]?
theorem B7(h:Pp n i=some j):seqIndex? i n=some j/\j<n/\-(n)<=i/\i<n:=by
  unfold Pp at h;by_cases h0:0<=i
  · rw[M2 h0]at h;by_cases h1:i<n
    · rw[M2 h1]at h;have e:=A04 h;exact⟨by rw[seqIndex_of h0 h1,e],by lia,by lia,h1⟩
    ·rw[f8 h1]at h;cases h
  · rw[f8 h0]at h;by_cases h1:-(n)<=i
    · rw[M2 h1]at h;have e:=A04 h;exact⟨by rw[seqIndex_neg (by lia) h1,e],by lia,h1,by lia⟩
    ·rw[f8 h1]at h;cases h
theorem xi(h:O2 xs i=some v):∃j,seqIndex? i xs.length=some j/\xs[j]?=some v/\j<xs.length/\-(xs.length)<=i/\i<xs.length:=by
  unfold O2 at h;cases e:Pp _ i with
  |none=>rw[e]at h;cases h
  |some j=>rw[e]at h;obtain⟨h1,h2,h3,h4⟩:=B7 e;exact⟨j,h1,h,h2,h3,h4⟩
def CI(b:θ):Prop:=∀o i,subscripted b false o i=operate [o,i] (getItem o i)
def LC (X:Cx) (r:R2):Prop:=
  ∀ (value slice:θ) (χ:γ (δ×ι)) (s:η) (σ:St) (H:Hp) (x y:V) (v u:ζ) (Q:VK),Inv X χ σ H s->RelV x v->RelV y u->r x y H Q ->
    subscripted slice false v u=operate [v,u] (getItem v u)->wpAny (model X.prog X.w) X.A (subscriptTail value slice v u) (EP X χ σ Q) X.xe s
def Ic (X:Cx) (id:String) (r:V->γ V->Hp->VK->Prop):Prop:=
  ∀ (χ:γ (δ×ι)) (s:η) (σ:St) (H:Hp) (x:V) (xs:γ V) (v:ζ) (us:γ ζ) (Q:VK),Inv X χ σ H s->RelV x v->Vals xs us->r x xs H Q ->
    wpAny (model X.prog X.w) X.A (call (.builtin id) (v::us)) (EP X χ σ Q) X.xe s
section
theorem LC.or(h:LC X r)(h':LC X r'):LC X (λ x y H Q=>r x y H Q\/r' x y H Q):=by
  intro value slice χ s σ H x y v u Q I rx ry q hs;rcases q with q|q
  ·exact h value slice χ s σ H x y v u Q I rx ry q hs
  ·exact h' value slice χ s σ H x y v u Q I rx ry q hs
theorem Ic.or{id:String}(h:Ic X id r)(h':Ic X id r'):Ic X id (λ x xs H Q=>r x xs H Q\/r' x xs H Q):=by
  intro χ s σ H x xs v us Q I rx rs q;rcases q with q|q
  ·exact h χ s σ H x xs v us Q I rx rs q
  ·exact h' χ s σ H x xs v us Q I rx rs q
theorem Q6(hr:LC X r)(ha:PE X a ta)(hb:PE X b tb)(hs:CI b):PE X (.Subscript a b pos) (LM r ta tb):=by intro χ s σ H Q I h;exact Subscript_ (OX ha hb I h λ v u s2 x y H2 I2 rx ry q=>hr a b χ s2 σ H2 x y v u Q I2 rx ry q (hs _ _))
def QY(K:W.Frag):R2:=λ x y H Q=>∃p xs i v,x=.ref p/\y=.int i/\jw K H p xs/\O2 xs i=some v/\Q v H
def QV(K:W.Frag):R2:=λ x y H Q=>∃p xs i v,x=.ref p/\y=.int i/\lx K H p xs/\O2 xs i=some v/\Q v H
def QX:R2:=λ x y H Q=>∃z i c,x=.str z/\y=.int i/\z.length<=sizeLine/\O2 z.cps.toList i=some c/\Q (.str ⟨#[c]⟩) H
theorem Kp:LC X (QY X.K):=by
  intro value slice χ s σ H x y v u Q I rx ry h hs;obtain⟨p,xs,i,z,rfl,rfl,hq,he,q⟩:=h;cases rx;obtain⟨t,rfl⟩:=ry;obtain⟨its,r,pl,hz⟩:=I.list hq;obtain⟨j,h1,h2,h3,h4,h5⟩:=xi he;obtain⟨w,ew,Jo⟩:=r.get h2;have hl:=r.length;have hn:=rY;have fin:EP X χ σ Q w s:=⟨z,H,I,Jo,q⟩
  by_cases h0:0<=i
  · have hj:i.toNat=j:=by rw[seqIndex_of h0 h5]at h1;exact A04 h1
    exact item_listR pl.isList h0 (by lia) (by rw[hj];simpa using ew) fin hs
  · have hj:(i+(its.toArray.size)).toNat=j:=by rw[seqIndex_neg (by lia) h4]at h1;rw[A07,<-hl];exact A04 h1
    exact subscriptTail_builtinR pl.isList.typeIs slot_list_getitem.lookup
      (wpAny_getItem_list_neg pl.isList (by lia) (by rw[A07]<;>lia) (by lia) (by rw[hj];simpa using ew) ⟨rfl,fin⟩) hs
theorem NI:LC X (QV X.K):=by
  intro value slice χ s σ H x y v u Q I rx ry h hs;obtain⟨p,xs,i,z,rfl,rfl,hq,he,q⟩:=h;cases rx;obtain⟨t,rfl⟩:=ry;obtain⟨its,r,pl,hz⟩:=I.tuple hq;obtain⟨j,h1,h2,h3,h4,h5⟩:=xi he;obtain⟨w,ew,Jo⟩:=r.get h2;have hl:=r.length;have hn:=rY;have fin:EP X χ σ Q w s:=⟨z,H,I,Jo,q⟩
  exact subscriptTail_builtinR pl.typeIs slot_tuple_getitem.lookup
    (getItem_tuple pl (by lia) (by lia) (by rw[A07,<-hl];exact h1) (by simpa using ew) ⟨rfl,fin⟩) hs
theorem r?:LC X QX:=by
  intro value slice χ s σ H x y v u Q I rx ry h hs;obtain⟨z,i,c,rfl,rfl,hz,he,q⟩:=h;obtain⟨t,rfl⟩:=rx;obtain⟨t',rfl⟩:=ry;obtain⟨j,h1,h2,h3,h4,h5⟩:=xi he;have hl:z.cps.toList.length=z.length:=by simp[Str.length]
  rw[hl]at h1 h4 h5;have hn:=rY;exact tail_any (A88 s z t) slot_str_getitem.lookup (getItem_str (by have e1:decide (i < -(2^63))=false:=A63 (by lia);have e2:decide (i≥2^63)=false:=A63 (by lia);rw[e1,e2,Bool.or_false]) (by rw[h1];simpa using h2) ⟨.str ⟨#[c]⟩,H,I.tok _,⟨_,rfl⟩,q⟩) hs
def rIx(K:W.Frag):R2:=λ x y H Q=>QY K x y H Q\/QV K x y H Q\/QX x y H Q
theorem NJ:LC X (rIx X.K):=Kp.or (NI.or r?)
theorem AB(its:γ ζ)(n j:Nat)(u:ζ):Obj.mapSeq (·.setIfInBounds j u) {cls:=.type "list",data:=.seq its.toArray n}={cls:=.type "list",data:=.seq (its.set j u).toArray n}:=by simp[Obj.mapSeq]
theorem Inv.lst{χ:γ _}{σ:St}{H:Hp}{s:η}{p:δ}{xs:γ V}(I:Inv X χ σ H s)(h:H p=some (.lst xs)):
    ∃its n,Vals xs its/\s.heap.get? p=some {cls:=.type "list",data:=.seq its.toArray n}/\xs.length<=sizeLine:=by
  obtain⟨z,its,n,r,e⟩:=I.cC p _ h;exact⟨its,n,r,e,z⟩
theorem Inv.Nx{its pj:γ ζ}(I:Inv X χ σ H s)(h:H p=some (.lst xs))
    (ho:s.heap.get? p=some {cls:=.type "list",data:=.seq its.toArray n}) (hf:f {cls:=.type "list",data:=.seq its.toArray n}={cls:=.type "list",data:=.seq pj.toArray n'}) (r:Vals ys pj) (hz:ys.length<=sizeLine) (t:Nat) :
    Inv X χ σ (upd H p (.lst ys)) {s with heap:=s.heap.update p f,toks:=t}:=by
  have e:(s.heap.update p f).get? p=some {cls:=.type "list",data:=.seq pj.toArray n'}:=by rw[A66 f ho (by rw[hf]<;>rfl),hf]
  refine I.write (by rw[h];trivial) (.inl rfl) (λ b u hb q=>(A41 _ _ (A06 hb)).trans q) ⟨_,e⟩ ?_;exact⟨hz,pj,n',r,e⟩
def LR:V->V->V->Hp->(Hp->Prop)->Prop:=λ o i v H Q=>∃p xs k j,o=.ref p/\i=.int k/\H p=some (.lst xs)/\Pp xs.length k=some j/\Q (upd H p (.lst (xs.set j v)))
theorem set_list:Ub X LR:=by
  intro χ s σ H o i v ov iv u Q I ro ri rv h;obtain⟨p,xs,k,j,rfl,rfl,hp,hj,q⟩:=h;cases ro;obtain⟨t,rfl⟩:=ri;obtain⟨its,n,r,ho,hz⟩:=I.lst hp;obtain⟨h1,h2,h3,h4⟩:=B7 hj;have hl:=r.length;have hn:=rY;have I':=
    I.Nx hp ho (AB its n j u) (r.set rv j) (by rw[B20];exact hz) s.toks
  by_cases h0:0<=k
  · have hk:k.toNat=j:=by rw[seqIndex_of h0 h4]at h1;exact A04 h1
    exact PySem.W.ki_setAt ho h0 (by lia) (by rw[A07,<-hl];exact h4) (by rw[hk];exact⟨_,I',q⟩)
  · have hk:(k+(its.toArray.size)).toNat=j:=by rw[seqIndex_neg (by lia) h3]at h1;rw[A07,<-hl];exact A04 h1
    exact PySem.W.ki_setBack ho (by lia) (by rw[A07,<-hl];exact h3) (by lia) (by rw[hk];exact⟨_,I',q⟩)
theorem vH(lo hi:ε Int)(n:Nat):(sliceBounds lo hi none n).1=((HT.eu n 0 lo))/\(sliceBounds lo hi none n).2.1=((HT.eu n n hi))/\(sliceBounds lo hi none n).2.2=1:=by
  refine⟨?_,?_,rfl⟩
  · cases lo with
    |none=>simp[sliceBounds,HT.eu]
    |some i=>
      simp only[sliceBounds,HT.eu,Option.getD_none,A20];by_cases h:i<0
      ·simp only[h]<;>lia
      ·simp only[h,A65]<;>lia
  · cases hi with
    |none=>simp[sliceBounds,HT.eu]
    |some i=>
      simp only[sliceBounds,HT.eu,Option.getD_none,show(1)>0 by decide,A20];by_cases h:i<0
      ·simp only[h,A20]<;>lia
      ·simp only[h,A65]<;>lia
theorem tQ(its:γ ζ)(lo hi:ε Int):slicePick its.toArray lo hi none=((its.drop (HT.eu its.length 0 lo)).take (HT.eu its.length its.length hi-HT.eu its.length 0 lo)).toArray:=by obtain⟨h1,h2,h3⟩:=vH lo hi its.toArray.size;unfold slicePick;rw[h1,h2,h3];simp only[sliceRange_one,pick_run]<;>rfl
def W'(K:W.Frag):V->ε Int->ε Int->Hp->VK->Prop:=λ x lo hi H Q=>∃a xs,x=.ref a/\jw K H a xs/\∀p,H p=none->Q (.ref p) (upd H p (.lst (uh xs lo hi)))
theorem Jh:Ly X (W' X.K):=by intro χ s σ H x v vl vu lo hi sl Q I rx hs pl pu h;obtain⟨a,xs,rfl,hx,q⟩:=h;cases rx;obtain⟨its,r,ht,hz⟩:=I.list hx;have ψ:=r.length;refine⟨"list",_,slot_list_getitem.lookup,ht.isList.typeIs,?_⟩;refine wpAny_getItem_list_slice ht.isList hs pl pu .none (by simp) ?_ (by rw[A07]<;>lia);rw[tQ,<-ψ];refine⟨.ref _,_,I.laid (λ b ob q=>W1 _ q) (o0 _) ?_,rfl,q _ (I.cC.fresh (o0 _))⟩;exact⟨A16 (qe xs lo hi) hz,_,0,(r.drop _).take _,A11 _ rfl⟩
theorem iG.or(h:iG X f r)(h':iG X f r'):iG X f (λ xs H Q=>r xs H Q\/r' xs H Q):=by
  intro χ s σ H xs us Q I rs q;rcases q with q|q
  ·exact h χ s σ H xs us Q I rs q
  ·exact h' χ s σ H xs us Q I rs q
theorem ui:iG X (.type "tuple") (λ xs H Q=>∃p ys,xs=[.ref p]/\((jw X.K H p ys/\∀l,H l=none->Q (.ref l) (upd H l (.tup ys)))\/(lx X.K H p ys/\Q (.ref p) H))):=by
  intro χ s σ H xs us Q I r h;obtain⟨p,ys,rfl,h⟩:=h;obtain⟨u,rfl,rx⟩:=vals1 r;cases rx;rcases h with⟨hq,q⟩|⟨hq,q⟩
  · obtain⟨its,r',pl,hz⟩:=I.list hq;have ψ:=r'.length;refine call_tuple_list pl.isList (λ h' kp=>?_) (by simp only[A07]<;>lia);have I1:=I.kept (t':=s.toks) kp;have I2:=
      I1.laid (t':=s.toks) (λ b o e=>W1 _ e) (o0 _) (show gQ _ X.w _ _ _ (.tup ys)from⟨hz,its,r',oM.new _ _⟩)
    exact⟨.ref _,_,I2,rfl,q _ (I1.cC.fresh (o0 _))⟩
  · obtain⟨its,r',pl,hz⟩:=I.tuple hq;exact call_tuple_same pl ⟨.ref p,H,I,rfl,q⟩
def _b(K:W.Frag)(T:String)(x:V)(H:Hp):Prop:=match x with
  |.str _=>T="str"
  |.int _=>T="int"
  | .ref p=>(T="list" /\ ∃xs,jw K H p xs)\/(T="tuple" /\ ∃o,K.lookup p=some o/\o.cls=.type "tuple" /\ o.dict=none) \/
      (T="dict" /\ ((∃kvs,H p=some (.dK kvs))\/∃kvs,H p=some (.dT kvs)))\/(T="set" /\ ∃S n,H p=some (.set S n))
  |_=>False
theorem Mv (I:Inv X χ σ H s) (r:RelV x v) (ty:_b X.K T x H) :
    s.TypeIs v T/\∀a,v=.ref a->∃ob,s.heap.get? a=some ob/\ob.dict=none:=by
  cases x with
  |str z=>obtain⟨t,rfl⟩:=r;cases (ty);exact⟨A88 s z t,λ _ e=>nomatch e⟩
  |int i=>obtain⟨t,rfl⟩:=r;cases (ty);exact⟨typeIs_int s i t,λ _ e=>nomatch e⟩
  |ref p=>
    cases r;rcases ty with⟨rfl,xs,hq⟩|⟨rfl,o,hk,hc,hd⟩|⟨rfl,hk⟩|⟨rfl,S,n,hk⟩
    · obtain⟨its,_,pl,_⟩:=I.list hq;refine⟨pl.isList.typeIs,λ a e=>?_⟩;cases e;obtain⟨o,n,e,c,hd,_⟩:=pl;exact⟨o,e,hd⟩
    · refine⟨⟨o,I.B4 p o hk,hc⟩,λ a e=>?_⟩;cases e;exact⟨o,I.B4 _ o hk,hd⟩
    · have z:∃o,s.heap.get? p=some o/\o.ExactDict:=by
        rcases hk with⟨kvs,hk⟩|⟨kvs,hk⟩
        · obtain⟨_,_,_,_,o,_,_,e,ex,_⟩:=I.cC p _ hk;exact⟨o,e,ex⟩
        · obtain⟨_,_,_,_,o,_,_,e,ex,_⟩:=I.cC p _ hk;exact⟨o,e,ex⟩
      obtain⟨o,e,ex⟩:=z;refine⟨⟨o,e,ex.1⟩,λ a e2=>?_⟩;cases e2;exact⟨o,e,ex.2.1⟩
    · obtain⟨o,_,_,_,e,ex,_⟩:=I.cC p _ hk;refine⟨⟨o,e,ex.1⟩,λ a e2=>?_⟩;cases e2;exact⟨o,e,ex.2.1⟩
  |_=>exact False.elim ty
def Wx(K:W.Frag)(T:String)(r:V->γ V->Hp->VK->Prop)(to:TE)(t:TA):TE:=λ σ H Q=>to σ H λ x H1=>_b K T x H1/\t σ H1 λ xs H2=>r x xs H2 Q
variable {T id:String}
theorem rM(pa:PlainAttrs T)(slot:Slot T name id)(hty:typeOf (.builtin id)=pure (.type "method_descriptor"))(hm:Ic X id r)(ho:PE X o to)(ha:PA X (e::es) t)
    (iD:attributeBase o name X.env (eval o X.env)=eval o X.env:=by rfl)
    (lO:((backTo sM (starEach (e::es) X.env)).all (λ x=>!x.1)&&(backToKw sM (keywordEach [] X.env)).all (λ x=>x.1.isSome)
      && decide ((e::es).length+([]:γ π).length+(if([]:γ π).isEmpty then 0 else 1)<30))=true:=by rfl)
    (iC:(apos.endLine==sM.line)=true:=by rfl) (hs:Se e es X.env:=by rfl) (f9:Pn sM es X.env:=by rfl) :
    PE X (.Call (.Attribute o name apos) (e::es) [] sM) (Wx X.K T r to t):=by
  intro χ s σ H Q I h;refine wpAny_Call_method_late iD lO iC rfl (dB (ho χ s σ H _ I h) λ v s1 ⟨x,H1,I1,r1,ty,q1⟩=>?_);obtain⟨h1,h2⟩:=Mv I1 r1 ty;refine⟨T,id,pa,slot,hty,h1,h2,?_⟩;have hA:=ha sM χ s1 σ H1 _ I1 q1;rw[hs]at hA ⊢;refine Calls.callWith_builtin (by show(false||(backTo sM _).any _)=false;rw[f9]<;>rfl) (Calls.evalArgs_plain ?_);exact dB hA λ us s2 ⟨vs,H2,I2,r2,q2⟩=>hm χ s2 σ H2 x vs v us Q I2 r1 r2 q2
/- xs.append(e),list.index on a Gm tuple .. are Ic facts of 06m -/
end
def MtM (X:Cx) (id:String) (r:V->γ V->Hp->VK->Prop):Prop:=
  ∀ (χ:γ (δ×ι)) (s:η) (σ:St) (H:Hp) (x:V) (xs:γ V) (v:ζ) (us:γ ζ) (Q:VK),Inv X χ σ H s->RelV x v->Vals xs us->r x xs H Q ->
    wpAny (model X.prog X.w) X.A (call (.builtin id) (v::us)) (EP X χ σ Q) X.xe s
theorem Vals.one:∀{x}{us},Vals [x] us->∃u,us=[u]/\RelV x u
  |_,_,.cons r .nil=>⟨_,rfl,r⟩
theorem Vals.zero:∀{us},Vals [] us->us=[]
  |_,.nil=>rfl
theorem Vals.eraseIdx:∀{xs}{us} i,Vals xs us->Vals (xs.eraseIdx i) (us.eraseIdx i)
  |_,_,_,.nil=>.nil
  |_,_,0,.cons _ t=>t
  |_,_,i+1,.cons r t=>.cons r (Vals.eraseIdx i t)
theorem Vals.reverse(h:Vals xs us):Vals xs.reverse us.reverse:=by
  induction h with
  |nil=>exact .nil
  |cons r t ih=>rw[List.reverse_cons,List.reverse_cons];exact Vals.append ih (.cons r .nil)
section
theorem Inv.RY{its pj:γ ζ}(I:Inv X χ σ H s)(hH:H l=some (.lst xs))
    (e:s.heap.get? l=some {cls:=.type "list",data:=.seq its.toArray n}) (hf:f its.toArray=pj.toArray) (hv:Vals ys pj) (hz:ys.length<=sizeLine) :
    Inv X χ σ (upd H l (.lst ys)) {s with heap:=s.heap.update l (Obj.mapSeq f),toks:=t'}:=by
  have q:=PySem.IsL.update e f;rw[hf]at q;refine I.write (by rw[hH];exact trivial) (.inl rfl) (λ b' u hb hu=>(A41 _ _ (A06 hb)).trans hu) ⟨_,q⟩ ?_;exact⟨hz,pj,_,hv,q⟩
theorem Inv.XB(I:Inv X χ σ H s)(hv:Vals ys its)(hz:ys.length<=sizeLine):
    Inv X χ σ (upd H s.heap.objs.size (.lst ys)) {s with heap:=s.heap.push {cls:=.type "list",data:=.seq its.toArray},toks:=t'}:=
  I.laid (λ _ _ q=>W1 _ q) (o0 _) ⟨hz,its,0,hv,A11 _ rfl⟩
theorem Inv.fresh(I:Inv X χ σ H s):H s.heap.objs.size=none:=I.cC.fresh (o0 _)
theorem Inv.Ny(I:Inv X χ σ H s)(hH:H l=some (.lst xs)):xs.length<=sizeLine/\∃its n,Vals xs its/\xs.length=its.length/\s.heap.get? l=some {cls:=.type "list",data:=.seq its.toArray n}:=by obtain⟨z,its,n,r,e⟩:=I.cC l _ hH;exact⟨z,its,n,r,r.length,e⟩
theorem Ga(h:n<=sizeLine):Builtin.List.listTooLong n=false:=by exact A63 (by lia)
end
section
def BL:V->γ V->Hp->VK->Prop:=λ x vs H Q=>∃l xs y,x=.ref l/\vs=[y]/\H l=some (.lst xs)/\xs.length<sizeLine/\Q .non (upd H l (.lst (xs++[y])))
theorem uI:MtM X "list.append" BL:=by intro χ s σ H x vs v us Q I rx rv h;obtain⟨l,xs,y,rfl,rfl,hH,hz,q⟩:=h;cases rx;obtain⟨u,rfl,ru⟩:=rv.one;obtain⟨z,its,n,r,hl,e⟩:=I.Ny hH;refine A50 F.slot_list_append ⟨_,e,rfl⟩ F.entry_list_append (F.args_list_append_2 _ _) (PySem.list_append l _ n u (by rw[A07];lia)) ⟨e,?_⟩;refine⟨.non,_,I.RY hH e (by simp) (r.append (.cons ru .nil)) ?_,rfl,q⟩;rw[A23,List.length_singleton];lia
def BK:V->γ V->Hp->VK->Prop:=λ x vs H Q=>∃l b xs zs,x=.ref l/\vs=[.ref b]/\H l=some (.lst xs)/\H b=some (.lst zs)/\xs.length+zs.length<=sizeLine/\Q .non (upd H l (.lst (xs++zs)))
theorem Dz:MtM X "list.extend" BK:=by
  intro χ s σ H x vs v us Q I rx rv h;obtain⟨l,b,xs,zs,rfl,rfl,hH,hB,hz,q⟩:=h;cases rx;obtain⟨u,rfl,ru⟩:=rv.one;cases ru;obtain⟨z,its,n,r,hl,e⟩:=I.Ny hH;obtain⟨z2,g_,n2,r2,L6,e2⟩:=I.Ny hB;have AO:its.toArray.size+g_.toArray.size<=sizeLine:=by rw[A07,A07];lia
  have Su:¬(!its.toArray.isEmpty&&Builtin.List.listTooLong (its.toArray.size+g_.toArray.size))=true:=by rw[Ga AO,Bool.and_false];exact B47
  refine A50 F.slot_list_extend ⟨_,e,rfl⟩ F.entry_list_extend (F.args_list_extend_2 _ _)
    (AutoSeq1.list_extend_list_list_0 l _ n b _ n2 Su (by rw[A07];lia) (by lia)) ⟨e,e2,?_⟩
  refine⟨.non,_,I.RY hH e (by simp) (r.append r2) ?_,rfl,q⟩;rw[A23];lia
end
section
set_option maxRecDepth 100000 in
end
section
end
end L2
namespace Z'
open PySem PySem.W PySem.Calls PyProof.Rows
theorem qw:∀ns vs,WellAll P h vs (ns.map WData.int)->IntsAre vs ns:=by
  intro ns
  induction ns with
  |nil=>intro vs w;rw[A73]at w;cases w;exact .nil
  |cons n ns ih=>
    intro vs w;rw[A05]at w;cases w with
    |cons a b=>cases a;exact .cons _ _ (ih _ b)
theorem C9{l:OpenLaw}(hn:l.most=some n)
    (AQ:l.row.toRowW.claim.pre args=true) (Px:WellAll P h vals args) :
    ∃a vs ns,vals=[Value.ref a]/\args=[WData.list (ns.map WData.int)]/\h.get? a=some {cls:=.type "list",data:=.seq vs.toArray}/\IntsAre vs ns/\ns.length<=n:=by
  have D0:=(pre_splitW AQ).1;have hc:l.pre.holds [] {args:=args}=true:=(pre_splitW AQ).2;obtain⟨d,r,rfl,h1,h2⟩:=hasAllW_cons D0;obtain rfl:=hasAllW_nil h2;obtain⟨xs,rfl,h3⟩:=hasW_list h1;obtain⟨ns,rfl⟩:=items_int h3;have ψ:ns.length<=n:=by
    have h4:(WTm.not (.lt (.lit (.int (n))) (.len (.arg 0)))).holds [] {args:=[.list (ns.map .int)]}=true:=by have h4:=(holds_andW hc).1;rw[hn]at h4;exact h4
    have h5:=condW_of h4 (w_not (w_lt w_lit (w_len_list (w_arg rfl))));rw[A03]at h5;refine Nat.le_of_not_lt λ q=>?_;have q':(n)<((ns.length)):=by lia
    first
      |(rw[A35 q']at h5;exact absurd h5 (by decide))
      |(simp at h5;lia)
  cases Px with
  |cons w1 w2=>
    cases w2;cases w1 with
    |list ho hall=>exact⟨_,_,ns,rfl,rfl,ho,qw ns _ hall,ψ⟩
theorem Df(l:OpenLaw)(args:γ WData):l.row.toRowW.claim.post args (.bool true) args=true:=
  postW_of
    (show WShape.has [] _ .bool=true by first|rfl|decide|simp[WShape.armsAll])
    (w_eq_bool (w_res rfl) w_lit) rfl
section
variable {K:Frag}
end
end Z'
namespace L2
open PySem PySem.Spec PyProof.Rows
theorem uq:∀{vs}{ns},IntsAre vs ns->Vals (ns.map V.int) vs
  |_,_,.nil=>.nil
  |_,_,.cons n t h=>.cons ⟨t,rfl⟩ (uq h)
def Lz(H:Hp):Prop:=∀b,H b=none\/(∃o xs,H b=some (.fM o (.lst xs)))\/∃q,H b=some (.E9 q)
def TabAt(K:W.Frag)(x:Str)(b:δ):Prop:=x∈dN/\∃c,PySem.W.tabIn K x=some (c,b)
theorem Kc{K:W.Frag}(one:∀x y c P c',x∈dN->y∈dN->PySem.W.tabIn K x=some (c,P)->PySem.W.tabIn K y=some (c',P)->x=y)(h:TabAt K x b)(g:TabAt K y b):x=y:=by obtain⟨h1,c,h2⟩:=h;obtain⟨g1,d,g2⟩:=g;exact one x y c b d h1 g1 h2 g2
open Classical in
noncomputable def z_(K:W.Frag)(a:δ)(u:HO)(s:Bool):Hp:=λ b=>if h:∃x,TabAt K x b then some (.E9 (jx h.choose))else if s=true/\b=a then some u else none
theorem Gu {P:ο} {w:ξ} {K:PySem.W.Frag} {mg mb:Str->ε ζ} {CX:O'} {k:Nat} {fa a:δ} {fd:υ} {x:Str} {sp:Sp} {s₁:η} {vs:γ ζ} {ns:γ Int}
    (KX:K.In s₁.heap) (KI:s₁.heap.Ns mainGlobals mg) (hb:s₁.heap.Ns builtinsNs mb) (hbb:∀x:Str,x≠ "__name__" -> mb x=bootBuiltins x) (Yv:s₁.heap.NoLimit) (hg:s₁.gens=#[])
    (ha:s₁.heap.get? a=some {cls:=.type "list",data:=.seq vs.toArray}) (hi:IntsAre vs ns) (hl:ns.length<=sizeLine) (hr:d? k callerA)
    (F:∀base:μ,K.In base->base.Ns mainGlobals mg->ki P w K mg base CX k fa fd [x] sp) (lP:∀(s:η)(u:ζ),BindsTo s fd ⟨[u],[]⟩ [(x,u)])
    (L3:∀H:Hp,Lz H->jw K H a (ns.map V.int)->sp [.ref a] H (λ v _=>v=.bl true) λ _ _ _=>False)
    (hCX:∀H e s',CX [] H s₁ (λ _ _ _=>False) e s'->False)
    (one:∀x y c P c',x∈dN->y∈dN->PySem.W.tabIn K x=some (c,P)->PySem.W.tabIn K y=some (c',P)->x=y)
    (tab:∀x∈dN,∀c P,PySem.W.tabIn K x=some (c,P)->(PySem.W.CodeHd s₁.heap c P/\s₁.heap.get? P=some (PySem.W.tabObj #[]))/\s₁.heap.TableAt c P #[]) (bm:BMain mg s₁.heap) (noT:PySem.W.noTabs K=true) :
    codeAny (model P w) callerA (.call (.ref fa) ⟨[.ref a],[]⟩) (λ r s'=>r=.ok (.ret (.bool true))/\OldK s₁.heap s'.heap/\s'.os=s₁.os/\AllBare s'.gens) s₁:=by
  have rv:=uq hi;have XG:=hi.length;have I0:∀{b}{y},TabAt K y b->s₁.heap.get? b=some (PySem.W.tabObj #[]):=λ {b y} ⟨h1,c,h2⟩=>(tab y h1 c b h2).1.2;have LW:∀{b}{o},s₁.heap.get? b=some o->o≠PySem.W.tabObj #[]->¬∃y,TabAt K y b:=λ {b o} e n ⟨y,h⟩=>by have:=I0 h;rw[e]at this;exact n (A04 this)
  have T3:∀{b}{u}{q}{y},TabAt K y b->z_ K a u q b=some (.E9 (jx y)):=λ {b u q y} h=>by
    have hh:∃x,TabAt K x b:=⟨y,h⟩
    unfold z_;rw[dif_pos hh];rw[Kc one hh.choose_spec h]
  have at2:∀{b}{u}{q},(¬∃y,TabAt K y b)->z_ K a u q b=if q=true/\b=a then some u else none:=λ {b u q} h=>by unfold z_;rw[dif_neg h]
  -- from an abstract heap in Z? nothing but MA MG and MA tables may be tracked
  have core:∀u q,(∃o xs,u=.fM o (.lst xs))->jw K (z_ K a u q) a (ns.map V.int)->(q=true->gQ P w (z_ K a u q) s₁.heap a u)->(q=true->K.lookup a=none) ->
      codeAny (model P w) callerA (.call (.ref fa) ⟨[.ref a],[]⟩) (λ r s'=>r=.ok (.ret (.bool true))/\OldK s₁.heap s'.heap/\s'.os=s₁.os/\AllBare s'.gens) s₁:=by
    intro u q hu hS _Q hK;generalize YW:z_ K a u q=H at hS _Q;have na:¬∃y,TabAt K y a:=LW ha λ z=>by cases z
    have of:∀{b}{v},H b=some v->(∃y,TabAt K y b/\v=.E9 (jx y))\/(q=true/\b=a/\v=u):=λ {b v} e=>by
      by_cases hb:∃y,TabAt K y b
      · obtain⟨y,hy⟩:=hb;rw[<-YW,T3 hy]at e;cases e;exact .inl ⟨y,hy,rfl⟩
      · rw[<-YW,at2 hb]at e;split at e
        · rename_i hc;cases e;exact .inr ⟨hc.1,hc.2,rfl⟩
        ·cases e
    have cC:l8 P w H s₁.heap:=λ b v e=>by
      rcases of e with⟨y,hy,rfl⟩|⟨hq,rfl,rfl⟩
      ·exact⟨#[],I0 hy,trivial,λ pos cv z=>nomatch z⟩
      ·exact _Q hq
    have hO:Lz H:=λ b=>by
      cases e:H b with
      |none=>exact .inl rfl
      |some v=>
        rcases of e with⟨y,_,rfl⟩|⟨_,_,rfl⟩
        ·exact .inr (.inr ⟨_,rfl⟩)
        · obtain⟨o,xs,rfl⟩:=hu;exact .inr (.inl ⟨o,xs,rfl⟩)
    have qU:∀{b}{o},s₁.heap.get? b=some o->H b=none->(t8 s₁.heap H).get? b=some o:=λ e n=>G0 e n;have Nq:∀{b}{o},s₁.heap.get? b=some o->(∀xs n,o.data≠.seq xs n)->(∀xs,o.data≠.fields xs\/o.cls≠.none)->H b=none:=λ {b o} e d d2=>by
      cases r:H b with
      |none=>rfl
      |some v=>
        rcases of r with⟨y,hy,_⟩|⟨_,YN,_⟩
        · rw[I0 hy]at e;cases e;rcases d2 #[]with z|z
          ·exact absurd rfl z
          ·exact absurd rfl z
        · rw[YN,ha]at e;cases e;exact absurd rfl (d _ _)
    have Vf:∀{b:δ}{m:Str->ε ζ},s₁.heap.Ns b m->(t8 s₁.heap H).Ns b m:=λ {b m} ⟨o,es,ep,e,d,r⟩=>⟨o,es,ep,qU e (Nq e (λ xs n z=>by rw[d]at z;cases z) λ xs=>.inl λ z=>by rw[d]at z;cases z),d,r⟩
    have hKb:K.In (t8 s₁.heap H):=λ b o e=>qU (KX b o e) (by
      cases r:H b with
      |none=>rfl
      |some v=>
        rcases of r with⟨y,hy,_⟩|⟨hq,YN,_⟩
        · have e2:=KX b o e;rw[I0 hy]at e2;cases e2;have h2:=A27.mp noT _ (PySem.W.mem_of_lookupK e);exact absurd (show false=true from h2) B47
        ·rw[YN,hK hq]at e;cases e)
    have hM:Mod K mg (t8 s₁.heap H):=⟨hKb,Vf KI,⟨mb,Vf hb,hbb⟩,let ⟨mc,h1,h2⟩:=Yv;⟨mc,Vf h1,h2⟩⟩
    have hT:vg K mg (t8 s₁.heap H) H:=λ y hy c p e=>by obtain⟨⟨⟨o,vs,file,tf,flags,tg,inF,text,tt,e1,e2,e3,r⟩,_⟩,_⟩:=tab y hy c p e;obtain⟨bmA,ob,b1,b2,b3,b4,b5,b6⟩:=bm;refine⟨by rw[<-YW];exact T3 ⟨hy,c,e⟩,⟨o,vs,file,tf,flags,tg,inF,text,tt,qU e1 (Nq e1 (λ xs n z=>by rw[e3]at z;cases z) λ xs=>.inr λ z=>by rw[e2]at z;cases z),e2,e3,r⟩,bmA,ob,b1,b2,qU b3 (Nq b3 (λ xs n z=>by rw[b6]at z;cases z) λ xs=>.inr λ z=>by rw[b4]at z;cases z),b4,b5,b6⟩
    have e0:zJ P w K mg (t8 s₁.heap H) callerA [] s₁ H:=⟨rfl,hM,λ b o e=>JR e,Nat.le_of_eq (D! _ _),trivial,λ b hb=>absurd (show b∈([]:γ δ)from hb) (by simp),cC,.of_eq hg,hT⟩
    refine B44 ((F _ hKb (Vf KI)).run callerA [] s₁ H ⟨[.ref a],[]⟩ [.ref a] [.ref a] _ _ hr e0 (lP s₁ (.ref a)) (.cons rfl .nil) (L3 H hO hS)) λ r s' h=>?_;cases r with
    |error e=>exact(hCX H e s' h).elim
    |ok fl=>
      cases fl with
      |next=>exact False.elim h
      |brk=>exact False.elim h
      |cont=>exact False.elim h
      |ret u'=>
        obtain⟨v,H',os,bare,un,So,r',q'⟩:=h;have q':v=.bl true:=q';subst q';obtain rfl:u'=Value.bool true:=r';refine⟨rfl,⟨λ b o e=>?_,λ b o e=>un.there b o e (by simp)⟩,os,bare⟩;cases r:H b with
        |none=>exact .inl (un.keep b o e r (by intro z;exact absurd (show b∈([]:γ δ)from z) (by simp)) (by simp))
        |some v=>
          rcases of r with⟨y,hy,rfl⟩|⟨_,_,rfl⟩
          · have r2:=un.mT b (.E9 (jx y)) trivial r;obtain⟨ps,g1,_⟩:=So b _ r2;obtain⟨h1,c,h2⟩:=hy;have tb:=(tab y h1 c b h2).2;have e3:o={cls:=.none,data:=.fields #[]}:=A04 (e.symm.trans tb.2);subst e3;exact .inr (.inl ⟨tb.isCodeTable,rfl,#[],ps,rfl,by rw[g1];simp⟩)
          · obtain⟨ob,xs,rfl⟩:=hu;have z2:=un.pz b ob _ r;obtain⟨e1,_⟩:=cC b _ r;obtain⟨e2,_⟩:=So b _ z2;rw[e]at e1;cases e1;exact .inl e2
  have na:¬∃y,TabAt K y a:=LW ha λ z=>by cases z
  cases hk:K.lookup a with
  |some o=>
    -- MA MG is one of MA Gm own objects
    have e:=KX a o hk;rw[ha]at e;cases e;exact core (.fM {cls:=.type "list",data:=.seq vs.toArray} (.lst [])) false ⟨_,_,rfl⟩ (.inr ⟨_,vs.toArray,_,hk,rfl,rfl,rfl,by rw[A07,XG];exact hl,by simpa using rv⟩) (λ z=>nomatch z) λ z=>nomatch z
  | none=>refine core (.fM {cls:=.type "list",data:=.seq vs.toArray} (.lst (ns.map V.int))) true ⟨_,_,rfl⟩ (.inl (.inr ⟨{cls:=.type "list",data:=.seq vs.toArray},by rw[at2 na];exact M2 ⟨rfl,rfl⟩⟩)) (λ _=>⟨ha,by rw[A03];exact hl,vs,_,rv,ha⟩) λ _=>hk
def cQ(s:ν):Arguments:=match s with
  |.FunctionDef _ a _ _ _ _ _ _ _ _=>a
  |_=>{posonlyargs:=[],args:=[],vararg:=none,kwonlyargs:=[],kw_defaults:=[],kwarg:=none,defaults:=[]}
def bB(s:ν):γ ν:=match s with
  |.FunctionDef _ _ b _ _ _ _ _ _ _=>b
  |_=>[]
def aB(s:ν):ς:=match s with
  |.FunctionDef _ _ _ _ _ _ sc _ _ _=>sc
  |_=>{kind:=.function,names:=[],isGenerator:=false,isCoroutine:=false}
abbrev oO:O':=λ _ _ _ _ _ _=>False
abbrev E0:XK:=λ _ _ _=>False
theorem Q7:Passes oO X E0:=λ _ _ _ _ _ _ _ h=>h.elim
structure Ii(K:W.Frag)(x qual:Str)(st:Stmt)(f:Addr)(fd:FuncData):Prop where
  ex:∃(oc:Value)(od:Option Addr)(kV doc pm:Value)(an:Option Addr)(cV ct:Value)(zM:Array (Option Value)),
    fd=PySem.W.fnOf x qual (cQ st) (bB st) (aB st) .none kV doc pm an cV ct/\K.lookup f=some ⟨oc,od,.func fd,zM⟩/\PySem.W.codeIn K cV qual=true
  kp:PySem.W.keepIn K (.ref f)=true
section
variable {K:W.Frag}
theorem Ii.ok{st:ν}(F:Ii K x qual st f fd)(S:c6 N ps (aB st))(len:∀vs H Q E,sp vs H Q E->vs.length=ps.length)
    (yR:∀cV A outer s H vs Q E,d? k (A.deeper (envOfC qual (aB st) s.heap.objs.size f cV))->sp vs H Q E ->
      ∃t,tD (iZ oO P w K mg base N qual (aB st) f cV A outer s H E).qJ (bB st) t/\t {nx:=λ _ H'=>Q .non H',rt:=Q} (start N vs) H):ki P w K mg base oO (k+1) f fd ps sp:=by
  obtain⟨oc,od,kV,doc,pm,an,cV,ct,zM,rfl,lk,tu⟩:=F.ex;refine Cj lk tu S len λ A outer s H vs Q E hr L3=>?_;obtain⟨t,h,q⟩:=yR cV A outer s H vs Q E hr L3;exact⟨t,h.qJ,q⟩
theorem Ii.binds{st:ν}(F:Ii K x qual st f fd)
    (h:∀kV doc pm an cV ct us,us.length=ps.length->bindArgs (PySem.W.fnOf x qual (cQ st) (bB st) (aB st) .none kV doc pm an cV ct) ⟨us,[]⟩=pure (ps.zip us)):Binds K fd ps []:=by
  obtain⟨oc,od,kV,doc,pm,an,cV,ct,zM,rfl,lk,tu⟩:=F.ex;exact .all (h kV doc pm an cV ct)
theorem G9{st:ν}{kV doc pm cV ct:ζ}(l:K.lookup f=some ⟨oc,od,.func (PySem.W.fnOf x qual (cQ st) (bB st) (aB st) .none kV doc pm an cV ct),zM⟩)
    (c:PySem.W.codeIn K cV qual=true) (k:PySem.W.keepIn K (.ref f)=true):Ii K x qual st f (PySem.W.fnOf x qual (cQ st) (bB st) (aB st) .none kV doc pm an cV ct):=⟨⟨oc,od,kV,doc,pm,an,cV,ct,zM,rfl,l,c⟩,k⟩
end
section
theorem pv(i:Nat)(hN:X.N[i]?=some x:=by rfl)(hv:Mh X.env.scope x:=by first| exact Or.inl rfl| exact Or.inr (Or.inl rfl)| exact Or.inr (Or.inr rfl))(hd:(x==("__debug__"))=false:=by decide)
    (tu:(x==("__classdict__"))=false:=by decide):PE X (.Name x pos) (oX i):=Am hN hv hd tu
end
def aH(H H':Hp):Prop:=∀b o,H b=some o->H' b=some o
theorem aH.refl(H:Hp):aH H H:=λ _ _ h=>h
theorem aH.trans(a:aH H H1)(b:aH H1 H2):aH H H2:=λ c o h=>b c o (a c o h)
theorem aH.free(e:aH H H')(h:H' l=Option.none):H l=Option.none:=by
  cases q:H l with
  |none=>rfl
  |some o=>rw[e l o q]at h;cases h
theorem aH.seq{K:W.Frag}(e:aH H H')(h:jw K H a xs):jw K H' a xs:=by
  rcases h with(h|⟨o,h⟩)|h
  ·exact .inl (.inl (e _ _ h))
  ·exact .inl (.inr ⟨o,e _ _ h⟩)
  ·exact .inr h
section
variable {κ:Type}[DecidableEq κ]
def nL(kvs:γ (κ×V))(k:κ):ε V:=(kvs.find? λ kv=>decide (kv.1=k)).map (·.2)
def putK(kvs:γ (κ×V))(k:κ)(v:V):γ (κ×V):=
  if(kvs.any λ kv=>decide (kv.1=k))=true then kvs.map (λ kv=>if kv.1=k then(kv.1,v)else kv)else kvs++[(k,v)]
def L_(kvs:γ (κ×V))(k:κ):γ (κ×V):=kvs.filter λ kv=>decide (kv.1≠k)
theorem nJ{k:κ}(e:p.1=k):nL (p::r) k=some p.2:=by simp[nL,e]
theorem nK{k:κ}(e:¬p.1=k):nL (p::r) k=nL r k:=by simp[nL,e]
theorem xC(k:κ):∀kvs,(kvs.any λ kv=>decide (kv.1=k))=(nL kvs k).isSome
  |[]=>rfl
  |p::r=>by
    rw[A92];by_cases e:p.1=k
    ·simp only[nJ e,A35 e,Bool.true_or,Option.isSome_some]
    ·rw[nK e,A63 e,Bool.false_or];exact xC k r
theorem lL(kvs:γ _)(k:κ)(v:V):(putK kvs k v).length<=kvs.length+1:=by
  unfold putK;split
  ·rw[A03];lia
  ·rw[A23,A36,A81];lia
theorem qE.DV(r:qE o u):o.isSome=u.isSome:=by
  cases o with
  |none=>cases u with
    |none=>rfl
    |some _=>exact(r).elim
  |some _=>cases u with
    |none=>exact(r).elim
    |some _=>rfl
theorem qE.getD(r:qE o u)(rd:RelV d d'):RelV (o.getD d) (u.getD d'):=by
  cases o with
  |none=>cases u with
    |none=>exact rd
    |some _=>exact(r).elim
  |some _=>cases u with
    |none=>exact(r).elim
    |some _=>exact r
theorem KV.val(r:KV kvs vs)(k:κ):qE (nL kvs k) (valueAt vs k):=by
  induction r with
  |nil=>exact True.intro
  |@cons p q ps qs h t ih=>
    obtain⟨h1,h2⟩:=h;by_cases e:p.1=k
    · have e':=h1.symm.trans e;have b:valueAt (q::qs) k=some q.2:=by simp[valueAt,e']
      rw[nJ e,b];exact h2
    · have e':¬q.1=k:=λ z=>e (h1.trans z);have b:valueAt (q::qs) k=valueAt qs k:=by simp[valueAt,e']
      rw[nK e,b];exact ih
theorem KV.any(r:KV kvs vs)(k:κ):(kvs.any λ kv=>decide (kv.1=k))=vs.any λ kv=>decide (kv.1=k):=by
  induction r with
  |nil=>rfl
  |cons h t ih=>rw[A92,A92,ih,h.1]
theorem KV.MK(r:KV kvs vs)(k:κ)(ry:RelV y u):
    KV (kvs.map λ kv=>if kv.1=k then(kv.1,y)else kv) (vs.map λ kv=>if kv.1=k then(kv.1,u)else kv):=by
  induction r with
  |nil=>exact .nil
  |@cons p q ps qs h t ih=>
    rw[A05,A05];refine .cons ?_ ih;obtain⟨h1,h2⟩:=h;by_cases e:p.1=k
    ·rw[M2 e,M2 (h1.symm.trans e)];exact⟨h1,ry⟩
    ·rw[f8 e,f8 (λ z=>e (h1.trans z))];exact⟨h1,h2⟩
theorem KV.put(r:KV kvs vs)(k:κ)(ry:RelV y u):KV (putK kvs k y) (stored vs k u):=by
  unfold putK stored;rw[r.any];by_cases e:(vs.any λ kv=>decide (kv.1=k))=true
  ·rw[M2 e,M2 e];exact r.MK k ry
  ·rw[f8 e,f8 e];exact Paired.snoc r ⟨rfl,ry⟩
theorem KV.drop(r:KV kvs vs)(k:κ):KV (L_ kvs k) (without vs k):=by
  unfold L_ without
  induction r with
  |nil=>exact .nil
  |@cons p q ps qs h t ih=>
    obtain⟨h1,h2⟩:=h;rw[List.filter_cons,List.filter_cons];by_cases e:p.1=k
    · have a:¬decide (p.1≠k)=true:=by simp[e]
      have b:¬decide (q.1≠k)=true:=by simp[h1.symm.trans e]
      rw[f8 a,f8 b];exact ih
    · have e':¬q.1=k:=λ z=>e (h1.trans z);have a:decide (p.1≠k)=true:=by simp[e]
      have b:decide (q.1≠k)=true:=by simp[e']
      rw[M2 a,M2 b];exact .cons ⟨h1,h2⟩ ih
theorem KV.keys{vs:γ (κ×ζ)}(r:KV kvs vs):kvs.map (·.1)=vs.map (·.1):=by
  induction r with
  |nil=>rfl
  |cons h t ih=>rw[A05,A05,ih,h.1]
theorem KV.length{vs:γ (κ×ζ)}(r:KV kvs vs):kvs.length=vs.length:=Paired.length r
end
theorem B3(r:RelV (kV k) u):(cY P w).is k u=true:=by
  cases k with
  |inl i=>obtain⟨t,e⟩:=(r);subst e;exact yG P w i t
  |inr x=>obtain⟨t,e⟩:=(r);subst e;exact yF P w x t
theorem uN:∀{ks}{us},Vals (ks.map kV) us->ItemsAre (cY P w) ks us
  |[],_,r=>by rw[A73]at r;cases r;exact .nil
  |k::ks,_,r=>by
    rw[A05]at r;cases r with
    |cons h t=>exact .cons (B3 h) (uN t)
abbrev KT(H:Hp):γ (γ Key×V)->γ (γ Key×δ×ζ)->Prop:=Paired λ p q=>p.1=q.1/\H q.2.1=some (.tup (p.1.map kV))/\RelV p.2 q.2.2
theorem KT.val(r:KT H kvs xs)(k:γ Key):qE (nL kvs k) ((atKey xs k).map (·.2)):=by
  induction r with
  |nil=>exact True.intro
  |@cons p q ps qs h t ih=>
    obtain⟨h1,_,h2⟩:=h;by_cases e:p.1=k
    · have e':=h1.symm.trans e;have b:atKey (q::qs) k=some q.2:=by simp[atKey,e']
      rw[nJ e,b];exact h2
    · have e':¬q.1=k:=λ z=>e (h1.trans z);have b:atKey (q::qs) k=atKey qs k:=by simp[atKey,e']
      rw[nK e,b];exact ih
theorem KT.MK(r:KT H kvs xs)(k:γ Key)(ry:RelV y u):
    KT H (kvs.map λ kv=>if kv.1=k then(kv.1,y)else kv) (xs.map (putAt k u)):=by
  induction r with
  |nil=>exact .nil
  |@cons p q ps qs h t ih=>
    rw[A05,A05];refine .cons ?_ ih;obtain⟨h1,h2,h3⟩:=h;unfold putAt;by_cases e:p.1=k
    ·rw[M2 e,M2 (h1.symm.trans e)];exact⟨h1,h2,ry⟩
    ·rw[f8 e,f8 (λ z=>e (h1.trans z))];exact⟨h1,h2,h3⟩
theorem KT.put(r:KT H kvs xs)(k:γ Key)(hb:H b=some (.tup (k.map kV)))(ry:RelV y u):
    KT H (putK kvs k y) (storedH xs k b u):=by
  have e:(kvs.any λ kv=>decide (kv.1=k))=(atKey xs k).isSome:=by rw[xC,(r.val k).DV,Option.isSome_map]
  unfold putK storedH;rw[e];by_cases q:(atKey xs k).isSome=true
  ·rw[M2 q,M2 q];exact r.MK k ry
  ·rw[f8 q,f8 q];exact Paired.snoc r ⟨rfl,hb,ry⟩
theorem KT.keeps(r:KT H kvs xs)(ht:∀b ys,H b=some (.tup ys)->H' b=some (.tup ys)):KT H' kvs xs:=
  Paired.Gn r λ _ _ z=>⟨z.1,ht _ _ z.2.1,z.2.2⟩
section
variable {P:ο}{w:ξ}{H:Hp}{h:μ}{a:δ}
theorem LQ(ok:l8 P w H h)(e:Rd H a u):gQ P w H h a u:=e.ok ok
theorem Hu(ok:l8 P w H h)(e:Rd H a (.dK kvs)):kvs.length<=sizeLine/\(a==sysModules)=false/\∃vs,KV kvs vs/\h.DictOf (cY P w) a vs:=
  LQ ok e
theorem Mb(ok:l8 P w H h)(e:H a=some (.dK kvs)):kvs.length<=sizeLine/\(a==sysModules)=false/\∃vs,KV kvs vs/\h.DictOf (cY P w) a vs:=Hu ok (.inl e)
theorem AI(ok:l8 P w H h)(e:H a=some (.tup (ks.map kV))):(tupleKind (cY P w)).is h ks a:=by
  obtain⟨_,its,r,tn⟩:=(ok a _ e)
  obtain⟨o,h1,h2,n,h3⟩:=tn.is;exact⟨o,_,n,h1,h2,h3,by simpa using uN r⟩
theorem Hq (ok:l8 P w H h) (e:Rd H a (.dT kvs)):kvs.length<=sizeLine/\(a == sysModules)=false /\
    ∃xs,KT H kvs xs/\h.DictOfH (tupleKind (cY P w)) a xs:=by
  obtain⟨z,y,xs,r,o,es,ep,h1,h2,h3,h4,h5⟩:=(LQ ok e)
  refine⟨z,y,xs,r,o,es,ep,h1,h2,h3,h4,λ x hx=>?_,h5⟩;have all:∀{l}{m},KT H l m->∀x∈m,(tupleKind (cY P w)).is h x.1 x.2.1:=by
    intro l m q
    induction q with
    |nil=>intro x hx;exact nomatch hx
    |@cons p q ps qs hq t ih=>
      intro x hx;rcases v6.mp hx with e|hx
      · subst e;exact AI ok (by rw[<-hq.1];exact hq.2.1)
      ·exact ih x hx
  exact all r x hx
theorem u6(ok:l8 P w H h)(e:H a=some (.dT kvs)):kvs.length<=sizeLine/\(a==sysModules)=false /\
    ∃xs,KT H kvs xs/\h.DictOfH (tupleKind (cY P w)) a xs:=Hq ok (.inl e)
end
def zK(H:Hp)(a:δ)(y:V)(r:ε V):Prop:=
  (∃kvs k,Rd H a (.dK kvs)/\y=kV k/\r=nL kvs k)\/∃kvs k b,Rd H a (.dT kvs)/\y=.ref b/\H b=some (.tup (k.map kV))/\r=nL kvs k
def Bo(H:Hp)(a:δ)(y v:V)(H':Hp):Prop:=
  (∃kvs k,H a=some (.dK kvs)/\y=kV k/\kvs.length<sizeLine/\H'=upd H a (.dK (putK kvs k v))) \/
  ∃kvs k b,H a=some (.dT kvs)/\y=.ref b/\H b=some (.tup (k.map kV))/\kvs.length<sizeLine/\H'=upd H a (.dT (putK kvs k v))
theorem zK.k{k:Key}(e:H a=some (.dK kvs)):zK H a (kV k) (nL kvs k):=.inl ⟨kvs,k,.inl e,rfl,rfl⟩
theorem zK.t{k:γ Key}(e:H a=some (.dT kvs))(eb:H b=some (.tup (k.map kV))):zK H a (.ref b) (nL kvs k):=.inr ⟨kvs,k,b,.inl e,rfl,eb,rfl⟩
theorem Bo.k{k:Key}(e:H a=some (.dK kvs))(hl:kvs.length<sizeLine):Bo H a (kV k) v (upd H a (.dK (putK kvs k v))):=.inl ⟨kvs,k,e,rfl,hl,rfl⟩
theorem Bo.t{k:γ Key}(e:H a=some (.dT kvs))(eb:H b=some (.tup (k.map kV)))(hl:kvs.length<sizeLine):
    Bo H a (.ref b) v (upd H a (.dT (putK kvs k v))):=.inr ⟨kvs,k,b,e,rfl,eb,hl,rfl⟩
section
variable {X:Cx}{χ:γ (δ×ι)}{σ:St}{H:Hp}{s:η}{a:δ}{y v:V}{u r:ζ}{o:ε V}{A:τ}{E:ζ->η->Prop}
theorem Inv.big(I:Inv X χ σ H s):sysModules<s.heap.objs.size:=by have h:=(I.mod.glob.keeps I.bk).lt;exact B07 (by decide) h
theorem En(hu:A.units+1<cLine)(I:Inv X χ σ H s)(g:zK H a y (some v))(ry:RelV y u)(h:∀w' s',Inv X χ σ H s'->RelV v w'->Q w' s'):
    wpAny (model X.prog X.w) A (getItem (.ref a) u) Q E s:=by
  rcases g with⟨kvs,k,e,ey,l⟩|⟨kvs,k,b,e,ey,eb,l⟩
  · subst ey;obtain⟨z,hd,vs,rel,dd⟩:=Hu I.cC e;obtain⟨w',hw,Jo⟩:=qE.some_of (v:=v) (o:=valueAt vs k) (by rw[l];exact rel.val k);exact wpAny_getItem_of (B3 ry) dd.mapOf hw (h w' _ (I.tok _) Jo)
  · subst ey;cases (ry);obtain⟨z,hd,xs,rel,dd⟩:=Hq I.cC e;obtain⟨w',hw,Jo⟩:=qE.some_of (v:=v) (o:=(atKey xs k).map (·.2)) (by rw[l];exact rel.val k);obtain⟨p,hp,Yj⟩:=A56.mp hw;refine wpAny_getItem_heap (tupleKind_room_in1 hu) (AI I.cC eb) dd hp ?_;rw[Yj];exact h w' _ (I.tok _) Jo
theorem w5(I:Inv X χ σ H s)(mu:Ug (H a))(hs:Heap.SameBut a s.heap h')(he:∃q,h'.get? a=some q)(new:gQ X.prog X.w (upd H a ob) h' a ob):
    Inv X χ σ (upd H a ob) {s with heap:=h',toks:=t'}:=
  I.write mu (.inl rfl) (λ b q hb z=>(hs.2 b hb).trans z) he new
theorem Hv(z:kvs.length<=sizeLine)(hd:(a==sysModules)=false)(rel:KV kvs vs)(dd:h'.DictOf (cY P w) a vs):
    gQ P w H' h' a (.dK kvs):=⟨z,hd,vs,rel,dd⟩
theorem Em(hu:A.units+1<cLine)(I:Inv X χ σ H s)(g:Bo H a y v H')(ry:RelV y u)(rv:RelV v r)(h:∀s',Inv X χ σ H' s'->Q () s'):
    wpAny (model X.prog X.w) A (setItem (.ref a) u r) Q E s:=by
  rcases g with⟨kvs,k,e,ey,l,eH⟩|⟨kvs,k,b,e,ey,eb,l,eH⟩
  · subst ey eH;obtain⟨z,hd,vs,rel,dd⟩:=Mb I.cC e;have hz:vs.length<=sizeLine:=by rw[<-rel.length];exact z
    have hl:(putK kvs k v).length<=sizeLine:=by have:=lL kvs k v;lia
    refine wpAny_setItem_pairs (B3 ry) dd λ h' OF hs=>h _ ?_;have he:∃q,h'.get? a=some q:=let ⟨q,_,_,hq,_⟩:=OF;⟨q,hq⟩;exact w5 I (by rw[e];exact True.intro) hs he (Hv hl hd (rel.put k rv) OF)
  · subst ey eH;cases (ry);obtain⟨z,hd,xs,rel,dd⟩:=u6 I.cC e;have hz:xs.length<=sizeLine:=by rw[<-Paired.length rel];exact z
    have hl:(putK kvs k v).length<=sizeLine:=by have:=lL kvs k v;lia
    refine wpAny_setItem_heap (tupleKind_room_in1 hu) (AI I.cC eb) dd λ h' OF hs=>h _ ?_;obtain⟨q,es,ep,hq,h2,h3,h4,_,h5⟩:=OF;refine w5 I (by rw[e];exact True.intro) hs ⟨q,hq⟩ ⟨hl,hd,_,(rel.put k eb rv).keeps λ c ys ec=>?_,q,es,ep,hq,h2,h3,h4,h5⟩;rw[aV (LY ec e (λ z=>nomatch z))];exact ec
end
section
variable {X:Cx}{σ:St}{H:Hp}{s:η}{a:δ}{kvs:γ (Key×V)}{k:Key}{u:ζ}{A:τ}{E:ζ->η->Prop}
end
def O6(i:θ):Prop:=∀ov iv,subscripted i false ov iv=operate [ov,iv] (getItem ov iv)
theorem I_{T id:String}
    (hl:typeLookup (.type T) "__getitem__"=pure (some (.builtin id))) (hs:O6 slice)
    (h:wpAny (model prog w) A (eval value env) (λ o s₁=>wpAny (model prog w) A (eval slice env) (λ i s₂=>s₂.TypeIs o T/\wpAny (model prog w) A (getItem o i) Q E s₂) E s₁) E s) :
    wpAny (model prog w) A (eval (.Subscript value slice pos) env) Q E s:=by
  refine Subscript_ (A26 h (λ o s₁ h₁=>A26 h₁ (λ i s₂ h₂=>?_) λ _ _ x=>x) λ _ _ x=>x);obtain⟨hT,h₂⟩:=h₂;refine T0 ?_;rw[getitemInPython_of_ne hT.not_modules];refine T0 (wpAny_specialOf hT hl ?_);have fin:wpAny (model prog w) A (subscripted slice false o i) (λ r s₃=>wpAny (model prog w) A (letTemporaryGo value o r>>=λ _=>pure r) Q E s₃) E s₂:=by rw[hs];exact wpAny_operating (A26 h₂ (λ r s₃ h₃=>T0 (wpAny_letTemporaryGo (v0 h₃))) λ _ _ x=>x)
  first
    |exact v0 (T0 fin)
    |exact T0 _
    |exact T0 fin
theorem zi(I:Inv X χ σ H s)(g:zK H a y o):s.TypeIs (.ref a) "dict":=by
  rcases g with⟨kvs,k,e,_,_⟩|⟨kvs,k,b,e,_,_,_⟩
  · obtain⟨_,_,vs,_,dd⟩:=Hu I.cC e;exact dd.typeIs
  · obtain⟨_,_,xs,_,dd⟩:=Hq I.cC e;exact dd.typeIs
def Qm(td ty:TE):TE:=λ σ H Q=>td σ H λ x H1=>ty σ H1 λ y H2=>∃a v,x=.ref a/\zK H2 a y (some v)/\Q v H2
def Fv(td ty tv:TE):TS:=λ D σ H=>tv σ H λ v H1=>td σ H1 λ x H2=>ty σ H2 λ y H3=>∃a H4,x=.ref a/\Bo H3 a y v H4/\D.nx σ H4
section
variable {X:Cx}{o i e value:θ}{pos pos' aa8:Pos}{td ty tv:TE}
theorem JC(hu:X.A.units+1<cLine)(ho:PE X o td)(hi:PE X i ty)(hs:O6 i):PE X (.Subscript o i pos) (Qm td ty):=by intro χ s σ H Q I h;refine I_ PySem.F.slot_dict_getitem.lookup hs (dB (ho χ s σ H _ I h) λ u s1 ⟨x,H1,I1,rx,q1⟩=>dB (hi χ s1 σ H1 _ I1 q1) λ iv s2 ⟨y,H2,I2,ry,a,v,ex,g,q2⟩=>?_);subst ex;obtain rfl:u=Value.ref a:=rx;exact⟨zi I2 g,En hu I2 g ry λ w' s3 I3 Jo=>⟨v,H2,I3,Jo,q2⟩⟩
theorem Jt(hu:X.A.units+1<cLine)(ho:PE X o td)(hi:PE X i ty)(hv:PE X value tv)(hs:swapsWith value (some (.Subscript o i pos')) pos.line X.env=pure false):
    PS X (.Assign [.Subscript o i pos'] value pos) (Fv td ty tv):=by
  intro χ s σ H D I h;refine wpAny_Assign_Subscript (dB (hv χ s σ H _ I h) λ r s1 ⟨v,H1,I1,rv,q1⟩=>dB (ho χ s1 σ H1 _ I1 q1) λ u s2 ⟨x,H2,I2,rx,q2⟩=>dB (hi χ s2 σ H2 _ I2 q2) λ iv s3 ⟨y,H3,I3,ry,a,H4,ex,g,q3⟩=>?_) hs;subst ex;obtain rfl:u=Value.ref a:=rx;exact Em hu I3 g ry rv λ s4 I4=>⟨σ,H4,I4,q3⟩
end
theorem Hw(h:μ)(hb:sysModules<h.objs.size):gQ P w H (h.push {cls:=.type "dict",data:=.dict #[]}) h.objs.size (.dK []):=
  ⟨A51 _,B68.mpr (A06 (A10 hb)),[],.nil,Heap.DictOf.new h⟩
section
end
def vD:γ (TE×TE)->St->Hp->(γ (V×V)->Hp->Prop)->Prop
  |[],_,H,Q=>Q [] H
  |(tk,tv)::r,σ,H,Q=>tk σ H λ x H1=>tv σ H1 λ y H2=>vD r σ H2 λ ps H3=>Q ((x,y)::ps) H3
abbrev VV:γ (V×V)->γ (ζ×ζ)->Prop:=Paired λ p q=>RelV p.1 q.1/\RelV p.2 q.2
def Uc (X:Cx) (pos:Pos) (keys:γ (ε θ)) (values:γ θ) (Mx:γ (TE×TE)):Prop:=
  ∀ (χ:γ (δ×ι)) (s:η) (σ:St) (H:Hp) (Q:γ (V×V)->Hp->Prop),Inv X χ σ H s->vD Mx σ H Q ->
    wpAny (model X.prog X.w) X.A (evalPairs (pairTrees keys values X.env pos)) (λ vs s'=>∃ps H',Inv X χ σ H' s'/\VV ps vs/\Q ps H') X.xe s
theorem Jv:Uc X pos [] [] []:=λ χ s σ H Q I h=>pairTrees_nil_walk ⟨[],H,I,.nil,h⟩
theorem FN(hk:PE X k tk)(hv:PE X v tv)(hr:Uc X pos ks vs Mx):
    Uc X pos (some k::ks) (v::vs) ((tk,tv)::Mx):=λ χ s σ H Q I h=>
  pairTrees_cons_walk (dB (hk χ s σ H _ I h) λ u s1 ⟨x,H1,I1,rx,q1⟩=>dB (hv χ s1 σ H1 _ I1 q1) λ w2 s2 ⟨y,H2,I2,ry,q2⟩=>dB (hr χ s2 σ H2 _ I2 q2) λ ws s3 ⟨ps,H3,I3,rel,q3⟩=>⟨(x,y)::ps,H3,I3,.cons ⟨rx,ry⟩ rel,q3⟩)
def o_(kvs more:γ (Key×V)):γ (Key×V):=more.foldl (λ acc kv=>putK acc kv.1 kv.2) kvs
theorem KV.merge:∀{more}{rs}{kvs}{vs},KV more rs->KV kvs vs->KV (o_ kvs more) (merged vs rs):=by
  intro more rs kvs vs r
  induction r generalizing kvs vs with
  |nil=>intro q;exact q
  |@cons p q ps qs h t ih=>
    intro r0;have e:KV (putK kvs p.1 p.2) (stored vs q.1 q.2):=by have:=r0.put p.1 h.2;rw[<-h.1];exact this
    exact ih e
theorem mK:∀more kvs,(o_ kvs more).length<=kvs.length+more.length
  |[],kvs=>by show kvs.length<=kvs.length+0;lia
  |p::r,kvs=>by have h1:=mK r (putK kvs p.1 p.2);have h2:=lL kvs p.1 p.2;show(o_ _ r).length<=_;rw[A36];lia
theorem sQ:∀{kvs}{ws},VV (kvs.map λ kv=>(kV kv.1,kv.2)) ws->∃rs,Carries (cY P w) ws rs/\KV kvs rs
  |[],_,r=>by rw[A73]at r;cases r;exact⟨[],True.intro,.nil⟩
  |p::kvs,_,r=>by
    rw[A05]at r;cases r with
    |@cons a b as bs h t=>obtain⟨rs,c,q⟩:=sQ (P:=P) (w:=w) t;obtain⟨b1,b2⟩:=b;exact⟨(p.1,b2)::rs,⟨B3 h.1,rfl,c⟩,.cons ⟨rfl,h.2⟩ q⟩
def Ql(Mx:γ (TE×TE)):TE:=λ σ H Q=>∀p,H p=none->vD Mx σ (upd H p (.dK [])) λ ps H2=>H2 p=some (.dK [])/\∃kvs:γ (Key×V),ps=kvs.map (λ kv=>(kV kv.1,kv.2))/\kvs.length<=15/\Q (.ref p) (upd H2 p (.dK (o_ [] kvs)))
theorem JB(h:Uc X pos keys values Mx)(hall:keys.all (·.isSome)=true)(hl:keys.length=values.length)(h0:keys≠[])
    (Y3:keys.length<=15):PE X (.Dict keys values pos) (Ql Mx):=by
  intro χ s σ H Q I q;have hn:=I.cC.fresh (o0 _);have I1:=I.laid (t':=s.toks) (λ _ _ q=>W1 _ q) (o0 _) (Hw _ I.big);refine wpAny_Dict_walk (knd:=cY _ X.w) hall hl h0 Y3 (dB (h χ _ σ _ _ I1 (q _ hn)) λ ws s2 ⟨ps,H2,I2,rel,e,kvs,ep,lk,q2⟩=>?_);subst ep;obtain⟨rs,c,rk⟩:=sQ (P:=X.prog) (w:=X.w) rel;obtain⟨z,hd,vs0,r0,dd⟩:=Mb I2.cC e;cases r0;refine⟨rs,c,dd,λ h' OF hs=>⟨.ref _,_,?_,rfl,q2⟩⟩;have hz:(o_ [] kvs).length<=sizeLine:=by have h1:=mK kvs [];rw[A81]at h1;rw[A29];lia
  have he:∃q,h'.get? _=some q:=let ⟨q,_,_,hq,_⟩:=OF;⟨q,hq⟩;exact w5 I2 (by rw[e];exact True.intro) hs he (Hv hz hd (rk.merge .nil) OF)
end L2
set_option genSizeOf true
noncomputable section
namespace Z
inductive D where
 |non
 |bl (b:Bool)
 |int (i:Int)
 |str (cs:List Nat)
 |tup (xs:List D)
 |lst (xs:List D)
 |dct (ks:List (Sum Int (List Nat))) (vs:List D)
inductive Res (α:Type) where
 |ok (a:α)
 |bad
namespace Res
def bind{α β:Type}(r:Res α)(f:α->Res β):Res β:=
 match r with
 |ok a=>f a
 |bad=>bad
@[simp] theorem fW(a:α)(f:α->Res β):(Res.ok a).bind f=f a:=rfl
@[simp] theorem TX(f:α->Res β):(Res.bad).bind f=bad:=rfl
def map{α β:Type}(f:α->β)(r:Res α):Res β:=
 match r with
 |ok a=>ok (f a)
 |bad=>bad
@[simp] theorem Xx(a:α)(f:α->β):(Res.ok a).map f=ok (f a):=rfl
@[simp] theorem Vh(f:α->β):(Res.bad).map f=bad:=rfl
theorem ax{f:α->Res β}(h:r.bind f=ok b):∃a,r=ok a/\f a=ok b:=by
 cases r with
 |ok a=>exact⟨a,rfl,h⟩
 |bad=>cases h
end Res
open Classical in
def guard{α:Type}(p:Prop)(r:Res α):Res α:=if p then r else .bad
@[simp] theorem guard_true(r:Res α):guard True r=r:=by exact M2 trivial
theorem guard_pos{r:Res α}(h:p):guard p r=r:=by exact M2 h
theorem fQ{a:α}(h:guard p r=.ok a):p/\r=.ok a:=by
 unfold guard at h;split at h
 ·rename_i q;exact⟨q,h⟩
 ·cases h
inductive L where
 |val (d:D)
 |own (xs:List D)
 |bor (d:D)
 |dc (k:List (List Int) ⊕ List (List Nat×List Nat))
 |zO (ks:List (List Int))
 |Ky (ps:List (Int×Int))
 |exc (c:List Nat×List (List Nat×D))
abbrev L.wR(ks:γ (γ Int)):L:=.dc (.inl ks)
abbrev L.zL(kvs:γ (γ Nat×γ Nat)):L:=.dc (.inr kvs)
abbrev DK:=γ (γ Int) ⊕ γ (γ Nat×γ Nat)
abbrev Env:=γ (ε L)
abbrev EF:=Env->Res D
abbrev LF:=Env->Res (γ D)
abbrev TF:=Env->Res Bool
abbrev AF:=Env->Res (γ D)
inductive Fl where
 |nx (ρ:Env)
 |rt (d:D)
 |bk (ρ:Env)
 |ct (ρ:Env)
abbrev SF:=Env->Res Fl
abbrev GF:=D->Env->Res Env
abbrev line:Nat:=16777216
def Tz:γ (γ Nat):=[[104,97,108,108],[103,117,101,115,116,115],[104,101,108,100],[112,108,97,99,101,115]]
def UD(a kd:Nat)(ks:γ (γ Nat))(vs:γ D):D:=.dct (.inl a::.inl kd::ks.map .inr) vs
def eC(d:D)(_:Env):Res D:=.ok d
def eV(i:Nat)(ρ:Env):Res D:=match ρ[i]? with
 |some (some (.val d))=>.ok d
 |_=>.bad
def eW(i:Nat)(ρ:Env):Res D:=match ρ[i]? with
 |some (some (.val d))=>.ok d
 |some (some (.own xs))=>.ok (.lst xs)
 |some (some (.bor (.lst xs)))=>.ok (.lst xs)
 |_=>.bad
def eB(op:D->D->Res D)(a b:EF)(ρ:Env):Res D:=(a ρ).bind λ x=>(b ρ).bind λ y=>op x y
def eU(op:D->Res D)(a:EF)(ρ:Env):Res D:=(a ρ).bind op
def lV(a b:EF)(ρ:Env):Res D:=(a ρ).bind λ x=>match x with
 |.bl c=>if c then b ρ else .ok (.bl false)
 |_=>.bad
def Oo(a b:EF)(ρ:Env):Res D:=(a ρ).bind λ x=>match x with
 |.bl c=>if c then .ok (.bl true)else b ρ
 |_=>.bad
def Hn(a:EF)(ρ:Env):Res D:=(a ρ).bind λ x=>match x with
 |.bl c=>.ok (.bl !c)
 |_=>.bad
def hU(op Dk:D->D->Res D)(a b c:EF)(ρ:Env):Res D:=(a ρ).bind λ x=>(b ρ).bind λ y=>(op x y).bind λ z=>match z with
 |.bl k=>if k then(c ρ).bind λ w=>Dk y w else .ok (.bl false)
 |_=>.bad
def Tt(t:TF)(a b:EF)(ρ:Env):Res D:=(t ρ).bind λ c=>if c then a ρ else b ρ
def eL(l:LF)(ρ:Env):Res D:=(l ρ).map D.lst
def av(_:Env):Res (γ D):=.ok []
def aa(a:EF)(r:AF)(ρ:Env):Res (γ D):=(a ρ).bind λ x=>(r ρ).bind λ xs=>.ok (x::xs)
def bg(as:AF)(ρ:Env):Res (γ D):=(as ρ).bind λ xs=>guard (xs.length<=line) (.ok xs)
def dF(as:AF)(ρ:Env):Res D:=(as ρ).bind λ xs=>guard (xs.length<=line) (.ok (.tup xs))
def aw(f:γ D->Res D)(as:AF)(ρ:Env):Res D:=(as ρ).bind f
def tE(a:EF)(ρ:Env):Res Bool:=(a ρ).bind λ x=>match x with
 |.bl c=>.ok c
 |_=>.bad
def tO(a b:TF)(ρ:Env):Res Bool:=(a ρ).bind λ c=>if c then b ρ else .ok false
def qp(a b:TF)(ρ:Env):Res Bool:=(a ρ).bind λ c=>if c then .ok true else b ρ
def dM(a:TF)(ρ:Env):Res Bool:=(a ρ).bind λ c=>.ok !c
def bits(a:Int):Nat:=if a=0 then 0 else a.natAbs.log2+1
def aX:D->D->Res D
 |.int a,.int b=>.ok (.int (a+b))
 |.str a,.str b=>guard (a.length+b.length<=line) (.ok (.str (a++b)))
 |.tup a,.tup b=>guard (a.length+b.length<=line) (.ok (.tup (a++b)))
 |_,_=>.bad
def tY:D->D->Res D
 |.int a,.int b=>.ok (.int (a-b))
 |_,_=>.bad
def bS(a b:Int):Prop:=((-18446744073709551616<a/\a<18446744073709551616)\/(-18446744073709551616<b/\b<18446744073709551616)\/(bits a<=16777216/\bits b<=16777216))
def fA:D->D->Res D
 |.int a,.int b=>guard (bS a b) (.ok (.int (a*b)))
 |_,_=>.bad
def iA(b:Int):Prop:=0<b/\b<1809251394333065553493296640760748560207343510400633813116524750123642650624
def oDiv:D->D->Res D
 |.int a,.int b=>guard (iA b) (.ok (.int (a / b)))
 |_,_=>.bad
def oMod:D->D->Res D
 |.int a,.int b=>guard (0<b) (.ok (.int (a % b)))
 |_,_=>.bad
def JV:D->D->Res D
 |.int a,.int b=>guard (0<=b) (.ok (.int (a / 2^b.toNat)))
 |_,_=>.bad
def mX:D->D->Res D
 |.int a,.int b=>guard (0<=b/\b<=1000000/\a.natAbs<2^64) (.ok (.int (a^b.toNat)))
 |_,_=>.bad
def JW:D->D->Res D
 |.int a,.int b=>guard (0<=b/\b<=1000000/\a.natAbs<2^64) (.ok (.int (a*2^b.toNat)))
 |_,_=>.bad
def yx:D->Res D
 |.int a=>.ok (.int (-a))
 |_=>.bad
def EJ:γ Nat->γ Nat->Bool
 |[],[]=>false
 |[],_::_=>true
 |_::_,[]=>false
 |a::as,b::bs=>if a<b then true else if a=b then EJ as bs else false
def oLt:D->D->Res D
 |.int a,.int b=>.ok (.bl (decide (a<b)))
 |_,_=>.bad
def oLe:D->D->Res D
 |.int a,.int b=>.ok (.bl (decide (a<=b)))
 |.str a,.str b=>.ok (.bl (!(EJ b a)))
 |_,_=>.bad
def BV:D->D->Res D
 |.int a,.int b=>.ok (.bl (decide (b<a)))
 |_,_=>.bad
def Ry:D->D->Res D
 |.int a,.int b=>.ok (.bl (decide (b<=a)))
 |_,_=>.bad
def EO:D->D->ε Bool
 |.non,.non=>some true
 |.bl a,.bl b=>some (a==b)
 |.bl a,.int b=>some ((if a then 1 else 0)==b)
 |.int a,.bl b=>some (a==(if b then 1 else 0))
 |.int a,.int b=>some (a==b)
 |.str a,.str b=>some (a==b)
 |.non,.bl _=>some false
 |.non,.int _=>some false
 |.non,.str _=>some false
 |.bl _,.non=>some false
 |.bl _,.str _=>some false
 |.int _,.non=>some false
 |.int _,.str _=>some false
 |.str _,.non=>some false
 |.str _,.bl _=>some false
 |.str _,.int _=>some false
 |_,_=>none
def allEq(f:D->D->ε Bool):γ D->γ D->ε Bool
 |[],[]=>some true
 |[],_::_=>some false
 |_::_,[]=>some false
 |a::as,b::bs=>match f a b,allEq f as bs with
  |some x,some y=>some (x&&y)
  |_,_=>none
def fS:Nat->D->D->ε Bool
 |n+1,.tup a,.tup b=>allEq (fS n) a b
 |n+1,.lst a,.lst b=>allEq (fS n) a b
 |_,.tup _,.lst _=>some false
 |_,.lst _,.tup _=>some false
 |_,.tup _,.non=>some false
 |_,.tup _,.bl _=>some false
 |_,.tup _,.int _=>some false
 |_,.tup _,.str _=>some false
 |_,.non,.tup _=>some false
 |_,.bl _,.tup _=>some false
 |_,.int _,.tup _=>some false
 |_,.str _,.tup _=>some false
 |_,.lst _,.non=>some false
 |_,.lst _,.bl _=>some false
 |_,.lst _,.int _=>some false
 |_,.lst _,.str _=>some false
 |_,.non,.lst _=>some false
 |_,.bl _,.lst _=>some false
 |_,.int _,.lst _=>some false
 |_,.str _,.lst _=>some false
 |_,x,y=>EO x y
def i':D->D->ε Bool:=fS 6
def oEq(a b:D):Res D:=match i' a b with
 |some x=>.ok (.bl x)
 |none=>.bad
def jY(a b:D):Res D:=match i' a b with
 |some x=>.ok (.bl !x)
 |none=>.bad
def iS:D->Res D
 |.non=>.ok (.bl true)
 |_=>.ok (.bl false)
def d6:D->Res D
 |.non=>.ok (.bl false)
 |_=>.ok (.bl true)
def F!:D->D->Res D
 |.str [c],.str t=>.ok (.bl (t.contains c))
 |_,_=>.bad
def fK(x:D):γ D->ε Bool
 |[]=>some false
 |y::r=>match i' y x,fK x r with
  |some a,some b=>some (a||b)
  |_,_=>none
def Ds:D->D->Res D
 |x,.tup ys=>match fK x ys with
  |some b=>.ok (.bl b)
  |none=>.bad
 |x,.lst ys=>match fK x ys with
  |some b=>.ok (.bl b)
  |none=>.bad
 |_,_=>.bad
def kB:D->D->Res D
 |x,.tup ys=>match fK x ys with
  |some b=>.ok (.bl !b)
  |none=>.bad
 |x,.lst ys=>match fK x ys with
  |some b=>.ok (.bl !b)
  |none=>.bad
 |_,_=>.bad
def b7:D->Res D
 |.str t=>guard (t.length<=line) (.ok (.int t.length))
 |.tup xs=>.ok (.int xs.length)
 |.lst xs=>.ok (.int xs.length)
 |_=>.bad
inductive Ty where
 |bool|int|str|tuple|list|dict
def cW:Ty->D->Bool
 |.bool,.bl _=>true
 |.int,.bl _=>true
 |.int,.int _=>true
 |.str,.str _=>true
 |.tuple,.tup _=>true
 |.list,.lst _=>true
 |.dict,.dct _ _=>true
 |_,_=>false
def fJ(t:Ty)(x:D):Res D:=.ok (.bl (cW t x))
def ph(n:Nat)(i:Int):ε Nat:=if 0<=i then(if i<n then some i.toNat else none)else if -(n:Int)<=i then some (i+n).toNat else none
def aI:D->D->Res D
 |.tup xs,.int i=>match (ph xs.length i).bind λ j=>xs[j]? with
  |some v=>.ok v
  |none=>.bad
 |.lst xs,.int i=>match (ph xs.length i).bind λ j=>xs[j]? with
  |some v=>.ok v
  |none=>.bad
 | .str cs,.int i=>guard (cs.length<=line) (match (ph cs.length i).bind λ j=>cs[j]? with
  |some c=>.ok (.str [c])
  | none=>.bad)
 |_,_=>.bad
def eu(n d:Nat):ε Int->Nat
 |none=>d
 |some i=>if i<0 then(i+n).toNat else min i.toNat n
def cut{α:Type}(xs:γ α)(lo hi:ε Int):γ α:=(xs.drop (eu xs.length 0 lo)).take (eu xs.length xs.length hi-eu xs.length 0 lo)
abbrev PF:=Env->Res (ε Int)
def BQ(_:Env):Res (ε Int):=.ok none
def xm(a:EF)(ρ:Env):Res (ε Int):=(a ρ).bind λ x=>match x with
 |.int i=>.ok (some i)
 |_=>.bad
def Rb:D->ε Int->ε Int->Res D
 |.str cs,lo,hi=>guard (cs.length<=line) (.ok (.str (cut cs lo hi)))
 |.tup xs,lo,hi=>.ok (.tup (cut xs lo hi))
 |_,_,_=>.bad
def Hm(a:EF)(lo hi:PF)(ρ:Env):Res D:=(a ρ).bind λ x=>(lo ρ).bind λ l=>(hi ρ).bind λ h=>Rb x l h
def Ke(a:EF)(lo hi:PF)(ρ:Env):Res (γ D):=(a ρ).bind λ x=>(lo ρ).bind λ l=>(hi ρ).bind λ h=>match x with
 |.lst xs=>.ok (cut xs l h)
 |_=>.bad
def n8(a b:EF)(ρ:Env):Res (γ D):=(a ρ).bind λ x=>(b ρ).bind λ y=>match x,y with
 |.lst xs,.lst ys=>guard (xs.length+ys.length<=line) (.ok (xs++ys))
 |_,_=>.bad
def allB:γ D->ε Bool
 |[]=>some true
 |.bl b::r=>(allB r).map (b&&·)
 |_::_=>none
def g?:D->Res D
 |.lst xs=>match allB xs with
  |some b=>.ok (.bl b)
  |none=>.bad
 |_=>.bad
def jD:D->Res (γ D)
 |.tup xs=>.ok xs
 |.lst xs=>.ok xs
 |.str cs=>.ok (cs.map λ c=>.str [c])
 |_=>.bad
def dh(a:EF)(ρ:Env):Res (γ D):=(a ρ).bind jD
def zints(lo:Int)(n:Nat):γ D:=(List.range n).map λ i=>D.int (lo+(i:Nat))
def dP(a:EF)(ρ:Env):Res (γ D):=(a ρ).bind λ x=>match x with
 |.int j=>.ok (zints 0 j.toNat)
 |_=>.bad
def uQ(a b:EF)(ρ:Env):Res (γ D):=(a ρ).bind λ x=>(b ρ).bind λ y=>match x,y with
 |.int i,.int j=>.ok (zints i (j-i).toNat)
 |_,_=>.bad
def aJ(i:Nat)(d:D)(ρ:Env):Res Env:=.ok (ρ.set i (some (.val d)))
def sr:γ Nat->γ D->Env->Res Env
 |[],[],ρ=>.ok ρ
 |i::is,d::ds,ρ=>sr is ds (ρ.set i (some (.val d)))
 |_,_,_=>.bad
def fB(is:γ Nat)(d:D)(ρ:Env):Res Env:=match d with
 |.tup ds=>sr is ds ρ
 |_=>.bad
def sR(ρ:Env)(i:Nat):ε L:=match ρ[i]? with
 |some (some (.val d))=>some (.val d)
 |some (some (.bor d))=>some (.bor d)
 |some (some (.zO ks))=>some (.zO ks)
 |_=>none
def fL(ρ:Env)(is:γ Nat):Env:=is.map (sR ρ)
def a9(g:GF)(t:TF)(e:EF)(ρ:Env):γ D->Res (γ D)
 |[]=>.ok []
 |d::r=>(g d ρ).bind λ ρ1=>(t ρ1).bind λ c=>if c then(e ρ1).bind λ y=>(a9 g t e ρ r).bind λ ys=>.ok (y::ys)else a9 g t e ρ r
def bK(it:LF)(n:Nat)(is:γ Nat)(g:GF)(t:TF)(e:EF)(ρ:Env):Res (γ D):=(it ρ).bind λ ds=>guard (ds.length<=line) (a9 g t e (List.replicate n none++fL ρ is) ds)
def bD(_:Env):Res Bool:=.ok true
def aT(ρ:Env):Res Fl:=.ok (.nx ρ)
def ay(a b:SF)(ρ:Env):Res Fl:=(a ρ).bind λ fl=>match fl with
 |.nx ρ'=>b ρ'
 |o=>.ok o
def aO(i:Nat)(e:EF)(ρ:Env):Res Fl:=(e ρ).bind λ d=>.ok (.nx (ρ.set i (some (.val d))))
def jQ(i:Nat)(e:LF)(ρ:Env):Res Fl:=(e ρ).bind λ xs=>.ok (.nx (ρ.set i (some (.own xs))))
def C!(e:EF)(g:GF)(ρ:Env):Res Fl:=(e ρ).bind λ d=>(g d ρ).bind λ ρ'=>.ok (.nx ρ')
def d!(t:TF)(a b:SF)(ρ:Env):Res Fl:=(t ρ).bind λ c=>if c then a ρ else b ρ
def aR(e:EF)(ρ:Env):Res Fl:=(e ρ).bind λ d=>.ok (.rt d)
def QB(_:Env):Res Fl:=.ok (.rt .non)
def MH(ρ:Env):Res Fl:=.ok (.bk ρ)
def QD(ρ:Env):Res Fl:=.ok (.ct ρ)
def fM(i:Nat)(ρ:Env):Env:=match ρ[i]? with
 |some (some (.own xs))=>ρ.set i (some (.val (.lst xs)))
 |_=>ρ
def vM(i:Nat)(a:SF)(ρ:Env):Res Fl:=a (fM i ρ)
def dC(i:Nat)(e:EF)(ρ:Env):Res Fl:=(e ρ).bind λ d=>match ρ[i]? with
 |some (some (.own xs))=>guard (xs.length<line) (.ok (.nx (ρ.set i (some (.own (xs++[d]))))))
 |_=>.bad
def vK(i:Nat)(k e:EF)(ρ:Env):Res Fl:=(e ρ).bind λ d=>(k ρ).bind λ z=>match z,ρ[i]? with
 | .int z,some (some (.own xs))=>(match ph xs.length z with
  |some j=>.ok (.nx (ρ.set i (some (.own (xs.set j d)))))
  | none=>.bad)
 |_,_=>.bad
def iP(g:GF)(b:SF):γ D->Env->Res Fl
 |[],ρ=>.ok (.nx ρ)
 |d::r,ρ=>(g d ρ).bind λ ρ1=>(b ρ1).bind λ fl=>match fl with
  |.nx ρ'=>iP g b r ρ'
  |.ct ρ'=>iP g b r ρ'
  |.bk ρ'=>.ok (.nx ρ')
  |.rt d=>.ok (.rt d)
def eZ(it:LF)(g:GF)(b:SF)(ρ:Env):Res Fl:=(it ρ).bind λ ds=>iP g b ds ρ
def start(n:Nat)(ds:γ D):Env:=ds.map (λ d=>some (.val d))++List.replicate (n-ds.length) none
def fn(ps n:Nat)(b:SF)(ds:γ D):Res D:=if ds.length=ps then(match b (start n ds)with
 |.ok (.rt d)=>.ok d
 |.ok (.nx _)=>.ok .non
 | _=>.bad)else .bad
end Z
end
set_option genSizeOf false
noncomputable section
namespace Z
@[simp] theorem Zw(d:D)(ρ:Env):eC d ρ=.ok d:=rfl
@[simp] theorem Zz(o:D->D->Res D)(a b:EF)(ρ:Env):eB o a b ρ=(a ρ).bind λ x=>(b ρ).bind λ y=>o x y:=rfl
@[simp] theorem Zt(o:D->Res D)(a:EF)(ρ:Env):eU o a ρ=(a ρ).bind o:=rfl
@[simp] theorem adn(l:LF)(ρ:Env):eL l ρ=(l ρ).map D.lst:=rfl
@[simp] theorem ZT(ρ:Env):av ρ=.ok []:=rfl
@[simp] theorem V8(a:EF)(r:AF)(ρ:Env):aa a r ρ=(a ρ).bind λ x=>(r ρ).bind λ xs=>.ok (x::xs):=rfl
@[simp] theorem VY(f:γ D->Res D)(as:AF)(ρ:Env):aw f as ρ=(as ρ).bind f:=rfl
@[simp] theorem UQ(ρ:Env):aT ρ=.ok (.nx ρ):=rfl
@[simp] theorem WK(i:Nat)(e:EF)(ρ:Env):aO i e ρ=(e ρ).bind λ d=>.ok (.nx (ρ.set i (some (.val d)))):=rfl
@[simp] theorem WO(i:Nat)(e:LF)(ρ:Env):jQ i e ρ=(e ρ).bind λ d=>.ok (.nx (ρ.set i (some (.own d)))):=rfl
@[simp] theorem WL(e:EF)(ρ:Env):aR e ρ=(e ρ).bind λ d=>.ok (.rt d):=rfl
@[simp] theorem UP(ρ:Env):QB ρ=.ok (.rt .non):=rfl
@[simp] theorem _o(t:TF)(a b:SF)(ρ:Env):d! t a b ρ=(t ρ).bind λ c=>if c then a ρ else b ρ:=rfl
@[simp] theorem aaH(t:TF)(a b:EF)(ρ:Env):Tt t a b ρ=(t ρ).bind λ c=>if c then a ρ else b ρ:=rfl
@[simp] theorem vN(it:LF)(g:GF)(b:SF)(ρ:Env):eZ it g b ρ=(it ρ).bind λ ds=>iP g b ds ρ:=rfl
def Fq(b:SF):Fl->Res Fl
 |.nx ρ'=>b ρ'
 |o=>.ok o
@[simp] theorem iJ(a b:SF)(ρ:Env):ay a b ρ=(a ρ).bind (Fq b):=rfl
@[simp] theorem gy(b:SF)(ρ:Env):Fq b (.nx ρ)=b ρ:=rfl
@[simp] theorem UK(b:SF)(d:D):Fq b (.rt d)=.ok (.rt d):=rfl
@[simp] theorem UM(b:SF)(ρ:Env):Fq b (.bk ρ)=.ok (.bk ρ):=rfl
@[simp] theorem UL(b:SF)(ρ:Env):Fq b (.ct ρ)=.ok (.ct ρ):=rfl
def Qd:D->Res Bool
 |.bl c=>.ok c
 |_=>.bad
@[simp] theorem abk(a:EF)(ρ:Env):tE a ρ=(a ρ).bind Qd:=rfl
@[simp] theorem UA(c:Bool):Qd (.bl c)=.ok c:=rfl
@[simp] theorem UG(ρ:Env):bD ρ=.ok true:=rfl
@[simp] theorem WA(a b:TF)(ρ:Env):tO a b ρ=(a ρ).bind λ c=>if c then b ρ else .ok false:=rfl
@[simp] theorem _j(a b:TF)(ρ:Env):qp a b ρ=(a ρ).bind λ c=>if c then .ok true else b ρ:=rfl
@[simp] theorem Wr(a:TF)(ρ:Env):dM a ρ=(a ρ).bind λ c=>.ok !c:=rfl
def zC(f:Bool->Res D):D->Res D
 |.bl c=>f c
 |_=>.bad
@[simp] theorem TU(f:Bool->Res D)(c:Bool):zC f (.bl c)=f c:=rfl
@[simp] theorem ZA(a b:EF)(ρ:Env):lV a b ρ=(a ρ).bind (zC λ c=>if c then b ρ else .ok (.bl false)):=rfl
@[simp] theorem aaG(a b:EF)(ρ:Env):Oo a b ρ=(a ρ).bind (zC λ c=>if c then .ok (.bl true)else b ρ):=rfl
@[simp] theorem Zv(a:EF)(ρ:Env):Hn a ρ=(a ρ).bind (zC λ c=>.ok (.bl !c)):=rfl
@[simp] theorem Tu(o o':D->D->Res D)(a b c:EF)(ρ:Env):hU o o' a b c ρ=(a ρ).bind λ x=>(b ρ).bind λ y=>(o x y).bind (zC λ k=>if k then(c ρ).bind λ w=>o' y w else .ok (.bl false)):=rfl
@[simp] theorem RB(a b:Int):aX (.int a) (.int b)=.ok (.int (a+b)):=rfl
theorem yA(a b:γ D)(h:a.length+b.length<=line):aX (.tup a) (.tup b)=.ok (.tup (a++b)):=by simp[aX,h]
@[simp] theorem Q_(a b:Int):tY (.int a) (.int b)=.ok (.int (a-b)):=rfl
@[simp] theorem Rm(a b:Int):fA (.int a) (.int b)=guard (bS a b) (.ok (.int (a*b))):=rfl
@[simp] theorem Rz(a b:Int):oDiv (.int a) (.int b)=guard (iA b) (.ok (.int (a / b))):=rfl
@[simp] theorem Rn(a b:Int):oMod (.int a) (.int b)=guard (0<b) (.ok (.int (a % b))):=rfl
@[simp] theorem Rc(a b:Int):JV (.int a) (.int b)=guard (0<=b) (.ok (.int (a / 2^b.toNat))):=rfl
@[simp] theorem U8(a b:Int):oLt (.int a) (.int b)=.ok (.bl (decide (a<b))):=rfl
@[simp] theorem U'(a b:Int):oLe (.int a) (.int b)=.ok (.bl (decide (a<=b))):=rfl
@[simp] theorem U9(a b:γ Nat):oLe (.str a) (.str b)=.ok (.bl (!(EJ b a))):=rfl
@[simp] theorem Va(a b:Int):BV (.int a) (.int b)=.ok (.bl (decide (b<a))):=rfl
@[simp] theorem Vb(a b:Int):Ry (.int a) (.int b)=.ok (.bl (decide (b<=a))):=rfl
@[simp] theorem Vd(a b:Int):oEq (.int a) (.int b)=.ok (.bl (a==b)):=rfl
@[simp] theorem Xl(a b:Bool):oEq (.bl a) (.bl b)=.ok (.bl (a==b)):=rfl
@[simp] theorem Vc(a b:γ Nat):oEq (.str a) (.str b)=.ok (.bl (a==b)):=rfl
@[simp] theorem U7(a b:Int):jY (.int a) (.int b)=.ok (.bl (!(a==b))):=rfl
@[simp] theorem Xi(a b:Bool):jY (.bl a) (.bl b)=.ok (.bl (!(a==b))):=rfl
@[simp] theorem U6(a b:γ Nat):jY (.str a) (.str b)=.ok (.bl (!(a==b))):=rfl
@[simp] theorem Rr(a:γ Nat):b7 (.str a)=guard (a.length<=line) (.ok (.int a.length)):=rfl
@[simp] theorem Rq(a:γ D):b7 (.tup a)=.ok (.int a.length):=rfl
@[simp] theorem Rt(a:γ D):b7 (.lst a)=.ok (.int a.length):=rfl
@[simp] theorem U!(t:Ty)(x:D):fJ t x=.ok (.bl (cW t x)):=rfl
@[simp] theorem _v(ρ:Env):BQ ρ=.ok none:=rfl
def R_:D->Res (ε Int)
 |.int i=>.ok (some i)
 |_=>.bad
@[simp] theorem R?(i:Int):R_ (.int i)=.ok (some i):=rfl
@[simp] theorem _w(a:EF)(ρ:Env):xm a ρ=(a ρ).bind R_:=rfl
@[simp] theorem aaF(a:EF)(lo hi:PF)(ρ:Env):Hm a lo hi ρ=(a ρ).bind λ x=>(lo ρ).bind λ l=>(hi ρ).bind λ h=>Rb x l h:=rfl
@[simp] theorem X4(a:EF)(ρ:Env):dh a ρ=(a ρ).bind jD:=rfl
def LP:D->Res (γ D)
 |.int j=>.ok (zints 0 j.toNat)
 |_=>.bad
@[simp] theorem VA(a:EF)(ρ:Env):dP a ρ=(a ρ).bind LP:=rfl
@[simp] theorem Pd(j:Int):LP (.int j)=.ok (zints 0 j.toNat):=rfl
def LO:D->D->Res (γ D)
 |.int i,.int j=>.ok (zints i (j-i).toNat)
 |_,_=>.bad
@[simp] theorem Vz(a b:EF)(ρ:Env):uQ a b ρ=(a ρ).bind λ x=>(b ρ).bind λ y=>LO x y:=rfl
@[simp] theorem Pc(i j:Int):LO (.int i) (.int j)=.ok (zints i (j-i).toNat):=rfl
@[simp] theorem Pq(xs:γ D):jD (.tup xs)=.ok xs:=rfl
@[simp] theorem Pt(xs:γ D):jD (.lst xs)=.ok xs:=rfl
@[simp] theorem Pr(cs:γ Nat):jD (.str cs)=.ok (cs.map λ c=>.str [c]):=rfl
@[simp] theorem Cf(i:Nat)(d:D)(ρ:Env):aJ i d ρ=.ok (ρ.set i (some (.val d))):=rfl
theorem ba(it:LF)(n:Nat)(is:γ Nat)(g:GF)(t:TF)(e:EF)(ρ:Env):bK it n is g t e ρ=(it ρ).bind λ ds=>guard (ds.length<=line) (a9 g t e (List.replicate n none++fL ρ is) ds):=rfl
@[simp] theorem Vk(as:AF)(ρ:Env):bg as ρ=(as ρ).bind λ xs=>guard (xs.length<=line) (.ok xs):=rfl
@[simp] theorem Zu(as:AF)(ρ:Env):dF as ρ=(as ρ).bind λ xs=>guard (xs.length<=line) (.ok (.tup xs)):=rfl
def br:Res Fl->Res D
 |.ok (.rt d)=>.ok d
 |.ok (.nx _)=>.ok .non
 |_=>.bad
@[simp] theorem U0(d:D):br (.ok (.rt d))=.ok d:=rfl
@[simp] theorem U1(ρ:Env):br (.ok (.nx ρ))=.ok .non:=rfl
theorem bL(ps n:Nat)(b:SF)(ds:γ D)(h:ds.length=ps):fn ps n b ds=br (b (start n ds)):=by
 unfold fn;rw[M2 h];cases b _ with
 |bad=>rfl
 |ok f=>cases f<;>rfl
theorem cN(h1:-18446744073709551616<a)(h2:a<18446744073709551616):bS a b:=by exact .inl ⟨h1,h2⟩
theorem i8(h1:-18446744073709551616<b)(h2:b<18446744073709551616):bS a b:=by exact .inr (.inl ⟨h1,h2⟩)
theorem uH(h1:bits a<=16777216)(h2:bits b<=16777216):bS a b:=by exact .inr (.inr ⟨h1,h2⟩)
theorem CB(h:a.natAbs<2^n):bits a<=n:=by
 unfold bits;split
 ·lia
 ·rename_i h0;have:=(Nat.log2_lt (by lia)).mpr h;lia
theorem cE(h0:0<b)(h:b<1809251394333065553493296640760748560207343510400633813116524750123642650624):iA b:=⟨h0,h⟩
theorem r?(h0:0<=i)(h1:i<cs.length)(hl:cs.length<=line):∃c∈cs,aI (.str cs) (.int i)=.ok (.str [c]):=by
 have hj:i.toNat<cs.length:=by lia
 refine⟨cs[i.toNat],A93 hj,?_⟩;simp[aI,hl,ph,h0,h1]
theorem B!(h:(zints 0 n)[j]?=some d):j<n/\d=.int (j):=by
 unfold zints at h;rw[P3]at h;cases q:(List.range n)[j]? with
 |none=>rw[q]at h;cases h
 |some i=>rw[q]at h;obtain⟨h1,h2⟩:=A02.mp q;rw[A94]at h1;rw[B21]at h2;subst h2;simp at h;exact⟨h1,h.symm⟩
@[simp] theorem jh(lo:Int)(n:Nat):(zints lo n).length=n:=by simp[zints]
theorem qS(xs:γ α)(lo hi:ε Int):(cut xs lo hi).length<=xs.length:=by unfold cut;rw[A34,B82];lia
theorem J_(h:x∈cut xs lo hi):x∈xs:=List.mem_of_mem_drop (List.mem_of_mem_take h)
@[simp] theorem _C(xs:γ D)(a:EF)(lo hi:PF)(ρ:Env)(h:a ρ=.ok (.lst xs)):Ke a lo hi ρ=(lo ρ).bind λ l=>(hi ρ).bind λ h=>.ok (cut xs l h):=by unfold Ke;rw[h];rfl
theorem sN:∀ds,(∀d∈ds,(g d ρ).bind e=.ok (h d))->a9 g bD e ρ ds=.ok (ds.map h)
 |[],_=>rfl
 |d::ds,k=>by have h1:=k d A12;have h2:=sN ds (λ x hx=>k x (A09 _ hx));obtain⟨ρ1,e1,e2⟩:=Res.ax h1;simp[a9,e1,e2,h2]
theorem mP:∀ds,(∀d∈ds,∃ρ1,g d ρ=.ok ρ1/\t ρ1=.ok (p d)/\(p d=true->e ρ1=.ok (h d)))->a9 g t e ρ ds=.ok ((ds.filter p).map h)
 |[],_=>rfl
 |d::ds,k=>by
  obtain⟨ρ1,e1,e2,e3⟩:=k d A12;have h2:=mP ds (λ x hx=>k x (A09 _ hx));cases hp:p d with
  |true=>simp[a9,e1,e2,hp,e3 hp,h2]
  |false=>simp[a9,e1,e2,hp,h2]
theorem xj:∀(bs:γ Bool),allB (bs.map D.bl)=some (bs.all id)
 |[]=>rfl
 |b::bs=>by simp[allB,xj bs]
@[simp high] theorem gt0(a:α)(l:γ α):(a::l)[0]?=some a:=rfl
@[simp high] theorem gtS(a:α)(l:γ α)(n:Nat):(a::l)[n+1]?=l[n]?:=rfl
@[simp high] theorem Qs(a x:α)(l:γ α):(a::l).set 0 x=x::l:=rfl
@[simp high] theorem stS(a x:α)(l:γ α)(n:Nat):(a::l).set (n+1) x=a::l.set n x:=rfl
end Z
end
set_option maxHeartbeats 4000000
namespace ZS
open PySem PySem.Spec PyProof.Rows L2
abbrev Fl(X:Cx)(x:Str):Prop:=X.fn x=true\/X.env.scope.names.lookup x=some .local
end ZS
local macro_rules
 | `(tactic|trivial)=>`(tactic|first|exact Or.inl rfl|exact Or.inr rfl)
open ZS (Fl)
namespace ZS
open PySem PySem.Spec PyProof.Rows L2
abbrev St:=L2.St
def DO:Sum Int (γ Nat)->Key
 |.inl i=>.inl i
 |.inr cs=>.inr ⟨cs.toArray⟩
def Ml(K:W.Frag)(H:Hp)(a:δ)(xs:γ V):Prop:=
 (∃ o,H a=some (.fM o (.lst xs))) \/
  ∃(o:ι) (its:Array ζ) (n:Nat),K.lookup a=some o/\o.cls=.type "list" /\ o.dict=none/\o.data=.seq its n/\its.size<=sizeLine/\Vals xs its.toList
theorem Ml.sq{K:W.Frag}(h:Ml K H a xs):jw K H a xs:=by
 rcases h with⟨o,h⟩|h
 ·exact .inl (.inr ⟨o,h⟩)
 ·exact .inr h
structure kh(H H':Hp):Prop where
 tup:∀a xs,H a=some (.tup xs)->H' a=some (.tup xs)
 fM:∀a o u,H a=some (.fM o u)->H' a=some (.fM o u)
theorem kh.refl(H:Hp):kh H H:=⟨λ _ _ h=>h,λ _ _ _ h=>h⟩
theorem kh.trans{H H1 H2:Hp}(a:kh H H1)(b:kh H1 H2):kh H H2:=⟨λ c xs h=>b.tup c xs (a.tup c xs h),λ c o u h=>b.fM c o u (a.fM c o u h)⟩
theorem o4(s:aH H H'):kh H H':=⟨λ _ _ h=>s _ _ h,λ _ _ _ h=>s _ _ h⟩
theorem vF(h:H p=some o)(n1:∀xs,o≠.tup xs)(n2:∀ob x,o≠.fM ob x):kh H (upd H p u):=
 ⟨λ a xs e=>by rw[aV (by rintro rfl;rw[h]at e;exact n1 xs (A04 e))];exact e,λ a ob x e=>by rw[aV (by rintro rfl;rw[h]at e;exact n2 ob x (A04 e))];exact e⟩
theorem iQ(h:H p=some (.lst xs)):kh H (upd H p u):=vF h (λ _ z=>nomatch z) (λ _ _ z=>nomatch z)
theorem Ml.mono{K:W.Frag}(e:kh H H')(h:Ml K H a xs):Ml K H' a xs:=by
 rcases h with⟨o,h⟩|h
 ·exact .inl ⟨o,e.fM _ _ _ h⟩
 ·exact .inr h
theorem fN{K:W.Frag}(e:kh H H')(h:lx K H a xs):lx K H' a xs:=by
 rcases h with(h|⟨o,h⟩)|h
 ·exact .inl (.inl (e.tup _ _ h))
 ·exact .inl (.inr ⟨o,e.fM _ _ _ h⟩)
 ·exact .inr h
mutual
def Den(K:W.Frag)(H:Hp):Z.D->V->Prop
 |.non,v=>v=.non
 |.bl b,v=>v=.bl b
 |.int i,v=>v=.int i
 |.str cs,v=>v=.str ⟨cs.toArray⟩
 |.tup ds,v=>∃a vs,v=.ref a/\lx K H a vs/\aE K H ds vs
 |.lst ds,v=>∃a vs,v=.ref a/\Ml K H a vs/\aE K H ds vs
 |.dct ks ds,v=>∃a o kvs,v=.ref a/\H a=some (.fM o (.dK kvs))/\kvs.map (·.1)=ks.map DO/\aE K H ds (kvs.map (·.2))/\∀i r,ks≠.inl i::r
def aE(K:W.Frag)(H:Hp):γ Z.D->γ V->Prop
 |[],vs=>vs=[]
 |d::ds,vs=>∃v r,vs=v::r/\Den K H d v/\aE K H ds r
end
section
variable {K:W.Frag}{H H':Hp}
mutual
theorem Den.mono(e:kh H H'):∀(d:Z.D)(v:V),Den K H d v->Den K H' d v
 |.non,v,h=>by simp only[Den]at h ⊢;exact h
 |.bl b,v,h=>by simp only[Den]at h ⊢;exact h
 |.int i,v,h=>by simp only[Den]at h ⊢;exact h
 |.str cs,v,h=>by simp only[Den]at h ⊢;exact h
 |.tup ds,v,h=>by simp only[Den]at h ⊢;obtain⟨a,vs,e1,q,r⟩:=h;exact⟨a,vs,e1,fN e q,aE.mono e ds vs r⟩
 |.lst ds,v,h=>by simp only[Den]at h ⊢;obtain⟨a,vs,e1,q,r⟩:=h;exact⟨a,vs,e1,q.mono e,aE.mono e ds vs r⟩
 |.dct ks ds,v,h=>by simp only[Den]at h ⊢;obtain⟨a,o,kvs,e1,q,k,r,n⟩:=h;exact⟨a,o,kvs,e1,e.fM _ _ _ q,k,aE.mono e ds _ r,n⟩
theorem aE.mono(e:kh H H'):∀(ds:γ Z.D)(vs:γ V),aE K H ds vs->aE K H' ds vs
 |[],vs,h=>by simp only[aE]at h ⊢;exact h
 |d::ds,vs,h=>by simp only[aE]at h ⊢;obtain⟨v,r,e1,q,t⟩:=h;exact⟨v,r,e1,Den.mono e d v q,aE.mono e ds r t⟩
end
theorem Den.up(h:Den K H d v)(e:aH H H'):Den K H' d v:=Den.mono (o4 e) d v h
theorem Den.ups(h:Den K H d v)(e:kh H H'):Den K H' d v:=Den.mono e d v h
theorem aE.ups(h:aE K H ds vs)(e:kh H H'):aE K H' ds vs:=aE.mono e ds vs h
theorem aE.up(h:aE K H ds vs)(e:aH H H'):aE K H' ds vs:=aE.mono (o4 e) ds vs h
theorem aE.nil:aE K H [] []:=by simp only[aE]
theorem aE.cons{d:Z.D}{ds:γ Z.D}{v:V}{vs:γ V}(h:Den K H d v)(t:aE K H ds vs):aE K H (d::ds) (v::vs):=by simp only[aE];exact⟨v,vs,rfl,h,t⟩
theorem aE.length:∀{ds}{vs},aE K H ds vs->vs.length=ds.length
 |[],vs,h=>by simp only[aE]at h;subst h;rfl
 |d::ds,vs,h=>by simp only[aE]at h;obtain⟨v,r,rfl,_,t⟩:=h;simp[aE.length t]
theorem aE.get:∀{ds}{vs}{i:Nat} {d},aE K H ds vs->ds[i]?=some d->∃v,vs[i]?=some v/\Den K H d v
 |[],_,_,_,_,e=>by simp at e
 |x::ds,vs,0,d,h,e=>by simp only[aE]at h;obtain⟨v,r,rfl,q,_⟩:=h;simp at e;subst e;exact⟨v,rfl,q⟩
 |x::ds,vs,i+1,d,h,e=>by simp only[aE]at h;obtain⟨v,r,rfl,_,t⟩:=h;obtain⟨u,h1,h2⟩:=aE.get t (by simpa using e);exact⟨u,by simpa using h1,h2⟩
theorem aE.append:∀{ds es}{vs us},aE K H ds vs->aE K H es us->aE K H (ds++es) (vs++us)
 |[],_,_,_,h,g=>by simp only[aE]at h;subst h;exact g
 |d::ds,es,vs,us,h,g=>by simp only[aE]at h;obtain⟨v,r,rfl,q,t⟩:=h;exact aE.cons q (aE.append t g)
theorem aE.drop:∀{ds}{vs} n,aE K H ds vs->aE K H (ds.drop n) (vs.drop n)
 |_,_,0,h=>by simpa using h
 |[],vs,_+1,h=>by simp only[aE]at h;subst h;simpa using aE.nil
 |d::ds,vs,n+1,h=>by simp only[aE]at h;obtain⟨v,r,rfl,q,t⟩:=h;simpa using aE.drop n t
theorem aE.take:∀{ds}{vs} n,aE K H ds vs->aE K H (ds.take n) (vs.take n)
 |_,_,0,h=>by simpa using aE.nil
 |[],vs,_+1,h=>by simp only[aE]at h;subst h;simpa using aE.nil
 |d::ds,vs,n+1,h=>by simp only[aE]at h;obtain⟨v,r,rfl,q,t⟩:=h;simpa using aE.cons q (aE.take n t)
theorem aE.set:∀{ds}{vs}{d}{v} n,aE K H ds vs->Den K H d v->aE K H (ds.set n d) (vs.set n v)
 |[],vs,_,_,_,h,_=>by simp only[aE]at h;subst h;simpa using aE.nil
 |x::ds,vs,d,v,0,h,q=>by simp only[aE]at h;obtain⟨u,r,rfl,_,t⟩:=h;simpa using aE.cons q t
 |x::ds,vs,d,v,n+1,h,q=>by simp only[aE]at h;obtain⟨u,r,rfl,p,t⟩:=h;simpa using aE.cons p (aE.set n t q)
theorem aE.zints:∀(ns:γ Int),aE K H (ns.map Z.D.int) (ns.map V.int)
 |[]=>aE.nil
 |n::ns=>aE.cons (by simp only[Den]) (aE.zints ns)
def bU(K:W.Frag)(H:Hp)(d:Z.D)(v:V):Prop:=Den K H d v\/∃ds a vs,d=.lst ds/\v=.ref a/\H a=some (.lst vs)/\aE K H ds vs
theorem bU.up(h:bU K H d v)(e:aH H H'):bU K H' d v:=by
 rcases h with h|⟨ds,a,vs,e1,e2,q,t⟩
 ·exact .inl (h.up e)
 ·exact .inr ⟨ds,a,vs,e1,e2,e _ _ q,t.up e⟩
theorem bU.oY(h:bU K H d v)(n:∀ds,d≠.lst ds):Den K H d v:=by
 rcases h with h|⟨ds,a,vs,e1,_⟩
 ·exact h
 ·exact absurd e1 (n ds)
theorem bU.non(h:bU K H .non v):v=.non:=by have:=h.oY (λ _ z=>nomatch z);simpa only[Den]using this
theorem bU.bl(h:bU K H (.bl b) v):v=.bl b:=by have:=h.oY (λ _ z=>nomatch z);simpa only[Den]using this
theorem bU.int(h:bU K H (.int i) v):v=.int i:=by have:=h.oY (λ _ z=>nomatch z);simpa only[Den]using this
theorem bU.str(h:bU K H (.str cs) v):v=.str ⟨cs.toArray⟩:=by have:=h.oY (λ _ z=>nomatch z);simpa only[Den]using this
theorem bU.tup{ds:γ Z.D}{v:V}(h:bU K H (.tup ds) v):∃a vs,v=.ref a/\lx K H a vs/\aE K H ds vs:=by have:=h.oY (λ _ z=>nomatch z);simpa only[Den]using this
theorem bU.lst{ds:γ Z.D}{v:V}(h:bU K H (.lst ds) v):∃a vs,v=.ref a/\jw K H a vs/\aE K H ds vs:=by
 rcases h with h|⟨es,a,vs,e1,e2,q,t⟩
 ·simp only[Den]at h;obtain⟨a,vs,e,q,t⟩:=h;exact⟨a,vs,e,q.sq,t⟩
 ·cases e1;exact⟨a,vs,e2,.inl (.inl q),t⟩
theorem bU.dct(h:bU K H (.dct ks ds) v):∃a o kvs,v=.ref a/\H a=some (.fM o (.dK kvs))/\kvs.map (·.1)=ks.map DO/\aE K H ds (kvs.map (·.2))/\∀i r,ks≠.inl i::r:=by have:=h.oY (λ _ z=>nomatch z);simpa only[Den]using this
theorem oK:Den K H .non .non:=by simp only[Den]
theorem dG:Den K H (.bl b) (.bl b):=by simp only[Den]
theorem cP:Den K H (.int i) (.int i):=by simp only[Den]
theorem eI:Den K H (.str cs) (.str ⟨cs.toArray⟩):=by simp only[Den]
theorem fG(h:lx K H a vs)(t:aE K H ds vs):Den K H (.tup ds) (.ref a):=by simp only[Den];exact⟨a,vs,rfl,h,t⟩
theorem wU(h:Ml K H a vs)(t:aE K H ds vs):Den K H (.lst ds) (.ref a):=by simp only[Den];exact⟨a,vs,rfl,h,t⟩
end
def Z8(K:W.Frag)(c:Str)(C:δ):Prop:=PySem.W.nsIn K mainGlobals c=some (some (.ref C))/\Wd K C
def V?(K:W.Frag)(H:Hp)(kd:Nat)(ks:γ (γ Nat))(ds:γ Z.D)(u:HO):Prop:=
 (kd=0/\ks=Z.Tz.take ks.length/\∃ C dx fs,u=.ins C dx fs/\Z8 K "Desk" C/\fs.map (·.1)=ks.map (λ c=>(⟨c.toArray⟩:Str))/\aE K H ds (fs.map (·.2))) \/
  kd=1/\∃kvs:γ (Key×V),u=.dK kvs/\kvs.map (·.1)=ks.map (λ c=>(Sum.inr ⟨c.toArray⟩:Key))/\aE K H ds (kvs.map (·.2))
theorem V?.ups{K:W.Frag}(h:V? K H kd ks ds u)(e:kh H H'):V? K H' kd ks ds u:=by
 rcases h with⟨h0,hk,C,dx,fs,h1,h2,h3,h4⟩|⟨h0,kvs,h1,h2,h3⟩
 ·exact .inl ⟨h0,hk,C,dx,fs,h1,h2,h3,h4.ups e⟩
 ·exact .inr ⟨h0,kvs,h1,h2,h3.ups e⟩
def Thg(K:W.Frag)(H:Hp)(d:Z.D)(v:V):Prop:=∃a kd ks ds u,d=Z.UD a kd ks ds/\v=.ref a/\H a=some u/\V? K H kd ks ds u
def l9(K:W.Frag)(H:Hp)(d:Z.D)(v:V):Prop:=bU K H d v\/Thg K H d v
theorem l9.up{K:W.Frag}(h:l9 K H d v)(e:aH H H'):l9 K H' d v:=by
 rcases h with h|⟨a,kd,ks,ds,u,e1,e2,q,t⟩
 ·exact .inl (h.up e)
 ·exact .inr ⟨a,kd,ks,ds,u,e1,e2,e _ _ q,t.ups (o4 e)⟩
def vh(K:W.Frag)(H:Hp)(d:Z.D)(v:V):Prop:=bU K H d v\/∃a kd ks ds u,d=Z.UD a kd ks ds/\v=.ref a/\H a=some u
theorem l9.z{K:W.Frag}(h:l9 K H d v):vh K H d v:=by
 rcases h with h|⟨a,kd,ks,ds,u,e1,e2,q,_⟩
 ·exact .inl h
 ·exact .inr ⟨a,kd,ks,ds,u,e1,e2,q⟩
theorem vh.lst{K:W.Frag}{H:Hp}{ds:γ Z.D}{v:V}(h:vh K H (.lst ds) v):bU K H (.lst ds) v:=by
 rcases h with h|⟨a,kd,ks,es,u,e1,_⟩
 ·exact h
 ·cases e1
theorem l9.UD{K:W.Frag}(h:l9 K H (.dct (.inl a::r) ds) v):Thg K H (.dct (.inl a::r) ds) v:=by
 rcases h with h|h
 ·obtain⟨_,_,_,_,_,_,_,n⟩:=h.dct;exact absurd rfl (n _ _)
 ·exact h
theorem vh.re{K:W.Frag}(h:vh K H0 d v)(r:l9 K H d v)(h0:aH H0 H)(hs:aH H0 H')(st:kh H H'):l9 K H' d v:=by
 rcases h with h|⟨a,kd,ks,ds,u,rfl,rfl,q⟩
 ·exact .inl (h.up hs)
 ·obtain⟨a',kd',_E,ZD,u',e1,e2,q',t⟩:=r.UD;cases e2;have:=(h0 _ _ q).symm.trans q';cases this;exact .inr ⟨_,kd',_E,ZD,u,e1,rfl,hs _ _ q,t.ups st⟩
theorem l9.lst{K:W.Frag}{H:Hp}{ds:γ Z.D}{v:V}(h:l9 K H (.lst ds) v):bU K H (.lst ds) v:=by
 rcases h with h|⟨a,kd,ks,es,u,e1,_⟩
 ·exact h
 ·cases e1
def Zm(x:γ Int×δ×ζ):DictEntry:={hash:=reduceHash (Builtin.Tuple.tupleHashOf (x.1.map hashInt)),key:=.ref x.2.1,val:=x.2.2}
def CM(a:δ)(ks:γ (γ Int))(as:γ δ)(h:μ):Prop:=ks.length<=sizeLine/\(a==sysModules)=false/\∃(xs:γ (γ Int×δ×ζ))(o:ι)(es:Array DictEntry)(ep:Nat),xs.map (·.1)=ks/\xs.map (·.2.1)=as/\h.get? a=some o/\o.ExactDict/\o.data=.dict es ep/\es.toList=xs.map Zm/\ks.Nodup
abbrev Ui(a:δ)(ks:γ (γ Int))(as:γ δ):HO:=.ext (CM a ks as)
def pT(K:W.Frag)(H:Hp)(ks:γ (γ Int))(as:γ δ):Prop:=Paired (λ(k:γ Int) (b:δ)=>Den K H (.tup (k.map .int)) (.ref b)) ks as
def tq(kvs:γ (γ Nat×γ Nat)):γ (Key×V):=kvs.map λ p=>(Sum.inr ⟨p.1.toArray⟩,V.str ⟨p.2.toArray⟩)
def P8(a:δ):Z.DK->γ δ->HO
 |.inl ks,as=>Ui a ks as
 |.inr kvs,_=>.dK (tq kvs)
def Uj(K:W.Frag)(H:Hp):Z.DK->γ δ->Prop
 |.inl ks,as=>pT K H ks as
 |.inr _,_=>True
theorem wZ:P8 a k as≠.lst xs:=by cases k<;>exact λ z=>nomatch z
theorem Lg:P8 a k as≠.tup xs:=by cases k<;>exact λ z=>nomatch z
theorem Lh:P8 a k as≠.fM o u:=by cases k<;>exact λ z=>nomatch z
def Ki(ps:γ (Int×Int)):γ (Key×V):=ps.map λ p=>(Sum.inl p.1,V.int p.2)
def Wg(K:W.Frag)(C:δ):Bool:=match K.lookup C with
 |some ⟨.type "type",_,.cls cd,sl⟩=>(match cd.mro,sl.toList with
  |.ref C'::tl,[_,_,_,_,some (.builtin n),_]=>C'==C&&n=="ValueError.__new__" && !cd.hasDel&&tl.contains (.type "BaseException")
  | _,_=>false)
 |_=>false
def XC(K:W.Frag)(c:γ Nat)(C:δ):Prop:=PySem.W.nsIn K mainGlobals ⟨c.toArray⟩=some (some (.ref C))/\Wg K C=true
def XD(K:W.Frag)(H:Hp):ε δ->γ (γ Nat×Z.D)->Prop
 |none,fs=>fs=[]
 |some dx,fs=>fs≠[]/\∃od kvs,H dx=some (.fM od (.xd kvs))/\Paired (λ(p:Str×V) (q:γ Nat×Z.D)=>p.1=⟨q.1.toArray⟩/\Den K H q.2 p.2) kvs fs
theorem XD.ups{K:W.Frag}(h:XD K H dd fs)(e:kh H H'):XD K H' dd fs:=by
 cases dd with
 |none=>exact h
 |some dx=>obtain⟨n,od,kvs,q,p⟩:=h;exact⟨n,od,kvs,e.fM _ _ _ q,Paired.Gn p λ _ _ z=>⟨z.1,z.2.ups e⟩⟩
def Bn(K:W.Frag)(H:Hp)(c:γ Nat×γ (γ Nat×Z.D))(C:δ)(dd:ε δ):Prop:=XC K c.1 C/\XD K H dd c.2
theorem Bn.ups{K:W.Frag}(h:Bn K H c C dd)(e:kh H H'):Bn K H' c C dd:=⟨h.1,h.2.ups e⟩
def RL(K:W.Frag)(H:Hp):Z.L->V->Prop
 |.val d,v=>Den K H d v
 |.own ds,v=>∃a vs,v=.ref a/\H a=some (.lst vs)/\aE K H ds vs
 |.bor d,v=>l9 K H d v
 |.dc k,v=>∃a as,v=.ref a/\H a=some (P8 a k as)/\Uj K H k as
 |.zO ks,v=>∃a o as,v=.ref a/\H a=some (.fM o (Ui a ks as))/\pT K H ks as
 |.Ky ps,v=>∃a o,v=.ref a/\H a=some (.fM o (.dK (Ki ps)))
 |.exc c,v=>∃a o u C,v=.ref a/\H a=some (.fM o u)/\o.cls=.ref C/\(∃vs,o.data=.fields vs)/\Bn K H c C o.dict
theorem pT.ups{K:W.Frag}(h:pT K H ks as)(e:kh H H'):pT K H' ks as:=Paired.Gn h λ _ _ d=>Den.ups d e
theorem Uj.ups{K:W.Frag}(h:Uj K H k as)(e:kh H H'):Uj K H' k as:=by
 cases k with
 |inl ks=>exact pT.ups (h) e
 |inr _=>exact True.intro
structure RE(K:W.Frag)(H:Hp)(σ:St)(ρ:Z.Env):Prop where
 len:ρ.length=σ.length
 get:∀(i:Nat)(l:Z.L),ρ[i]?=some (some l)->∃v,σ[i]?=some (some v)/\RL K H l v
 sep:∀(i j:Nat)(xs ys:List Z.D)(a:Addr),ρ[i]?=some (some (.own xs))->ρ[j]?=some (some (.own ys))->σ[i]?=some (some (.ref a))->σ[j]?=some (some (.ref a))->i=j
section
variable {K:W.Frag}{H H':Hp}{σ:St}{ρ:Z.Env}
theorem RL.up(h:RL K H l v)(e:aH H H'):RL K H' l v:=by
 cases l with
 |val d=>exact Den.up (h) e
 |own ds=>obtain⟨a,vs,e1,q,t⟩:=h;exact⟨a,vs,e1,e _ _ q,t.up e⟩
 |bor d=>exact l9.up (h) e
 |dc ks=>obtain⟨a,as,e1,q,t⟩:=h;exact⟨a,as,e1,e _ _ q,t.ups (o4 e)⟩
 |zO ks=>obtain⟨a,o,as,e1,q,t⟩:=h;exact⟨a,o,as,e1,e _ _ q,t.ups (o4 e)⟩
 |Ky ps=>obtain⟨a,o,e1,q⟩:=h;exact⟨a,o,e1,e _ _ q⟩
 |exc c=>obtain⟨a,o,u,C,e1,q,r1,r2,r3⟩:=h;exact⟨a,o,u,C,e1,e _ _ q,r1,r2,r3.ups (o4 e)⟩
theorem RE.up(h:RE K H σ ρ)(e:aH H H'):RE K H' σ ρ:=
 ⟨h.len,λ i l q=>let ⟨v,h1,h2⟩:=h.get i l q;⟨v,h1,h2.up e⟩,h.sep⟩
theorem cA(h:H a=none):aH H (upd H a o):=λ b u e=>by rw[aV (b! e h)];exact e
end
def tZ(K:W.Frag)(f:Z.EF):TE:=λ σ H Q=>∃ρ d,RE K H σ ρ/\f ρ=.ok d/\∀v H',aH H H'->Den K H' d v->Q v H'
def I!(K:W.Frag)(f:Z.EF):TE:=λ σ H Q=>∃ρ d,RE K H σ ρ/\f ρ=.ok d/\∀v H',aH H H'->bU K H' d v->Q v H'
def _i(K:W.Frag)(f:Z.LF):TE:=λ σ H Q=>∃ρ ds,RE K H σ ρ/\f ρ=.ok ds/\∀a vs H',aH H H'->H a=none->H' a=some (.lst vs)->aE K H' ds vs->Q (.ref a) H'
def Qf(K:W.Frag)(f:Z.TF):TT:=λ σ H Q=>∃ρ b,RE K H σ ρ/\f ρ=.ok b/\∀H',aH H H'->Q b H'
def tZa(K:W.Frag)(f:Z.AF):TA:=λ σ H Q=>∃ρ ds,RE K H σ ρ/\f ρ=.ok ds/\∀vs H',aH H H'->aE K H' ds vs->Q vs H'
def tZp(K:W.Frag)(f:Z.PF):TO:=λ σ H Q=>∃ρ o,RE K H σ ρ/\f ρ=.ok o/\∀H',aH H H'->Q o H'
abbrev DE(X:Cx)(e:θ)(f:Z.EF):Prop:=PE X e (tZ X.K f)
structure _root_.ZQ.QE(X:Cx)(e:Expr)(f:Z.EF):Prop where p:DE X e f
abbrev DW(X:Cx)(e:θ)(f:Z.EF):Prop:=PE X e (I! X.K f)
structure _root_.ZQ.QW(X:Cx)(e:Expr)(f:Z.EF):Prop where p:DW X e f
abbrev DL(X:Cx)(e:θ)(f:Z.LF):Prop:=PE X e (_i X.K f)
structure _root_.ZQ.QL(X:Cx)(e:Expr)(f:Z.LF):Prop where p:DL X e f
abbrev DT(X:Cx)(e:θ)(f:Z.TF):Prop:=PT X e (Qf X.K f)
structure _root_.ZQ.QT(X:Cx)(e:Expr)(f:Z.TF):Prop where p:DT X e f
abbrev DTW(X:Cx)(e:θ)(f:Z.TF):Prop:=PW X e (Qf X.K f)
structure _root_.ZQ.O5(X:Cx)(e:Expr)(f:Z.TF):Prop where p:DTW X e f
abbrev DA(X:Cx)(es:γ θ)(f:Z.AF):Prop:=PA X es (tZa X.K f)
structure _root_.ZQ.QA(X:Cx)(es:List Expr)(f:Z.AF):Prop where p:DA X es f
abbrev DP(X:Cx)(e:ε θ)(f:Z.PF):Prop:=PO X e (tZp X.K f)
structure _root_.ZQ.QP(X:Cx)(e:Option Expr)(f:Z.PF):Prop where p:DP X e f
section
variable {X:Cx}{e a b c:θ}{es:γ θ}{pos:Pos}{f fa fb fc:Z.EF}
theorem PE.imp(h:PE X e t)(k:∀σ H Q,t' σ H Q->t σ H Q):PE X e t':=λ χ s σ H Q I w=>h χ s σ H Q I (k σ H Q w)
theorem PT.imp(h:PT X e t)(k:∀σ H Q,t' σ H Q->t σ H Q):PT X e t':=λ χ s σ H Q I w=>h χ s σ H Q I (k σ H Q w)
theorem PW.imp(h:PW X e t)(k:∀σ H Q,t' σ H Q->t σ H Q):PW X e t':=λ whole χ s σ H Q I w=>h whole χ s σ H Q I (k σ H Q w)
theorem PA.imp(h:PA X es t)(k:∀σ H Q,t' σ H Q->t σ H Q):PA X es t':=λ p χ s σ H Q I w=>h p χ s σ H Q I (k σ H Q w)
theorem PO.imp(h:PO X o t)(k:∀σ H Q,t' σ H Q->t σ H Q):PO X o t':=λ χ s σ H Q I w=>h χ s σ H Q I (k σ H Q w)
theorem El(h:PE X e (tC v))(hd:∀H,Den X.K H d v):DE X e (Z.eC d):=PE.imp h λ σ H Q ⟨ρ,d',_,e,k⟩=>by have e':=e;cases e';exact k v H (aH.refl H) (hd H)
theorem _root_.ZQ.ag:ZQ.QE X (.Constant (.int i) j pos) (Z.eC (.int i)):=⟨El M4 λ _=>cP⟩
theorem _root_.ZQ.cF:ZQ.QE X (.Constant (.bool x) j pos) (Z.eC (.bl x)):=⟨El LS λ _=>dG⟩
theorem _root_.ZQ.iK:ZQ.QE X (.Constant .none j pos) (Z.eC .non):=⟨El rL λ _=>oK⟩
theorem _root_.ZQ.aK(h:x=⟨cs.toArray⟩:=by decide +kernel):ZQ.QE X (.Constant (.str x) j pos) (Z.eC (.str cs)):=⟨by subst h;exact El An λ _=>eI⟩
theorem Tq(h:Z.eV i ρ=.ok d):ρ[i]?=some (some (.val d)):=by
 unfold Z.eV at h;split at h
 ·rename_i d' q;cases h;exact q
 ·cases h
theorem Tp(h:Z.eW i ρ=.ok d):ρ[i]?=some (some (.val d))\/(∃xs,ρ[i]?=some (some (.own xs))/\d=.lst xs)\/∃xs,ρ[i]?=some (some (.bor (.lst xs)))/\d=.lst xs:=by
 unfold Z.eW at h;split at h
 ·rename_i d' q;cases h;exact .inl q
 ·rename_i xs q;cases h;exact .inr (.inl ⟨xs,q,rfl⟩)
 ·rename_i xs q;cases h;exact .inr (.inr ⟨xs,q,rfl⟩)
 ·cases h
theorem OA(h:PE X e (oX i)):DE X e (Z.eV i):=PE.imp h λ σ H Q ⟨ρ,d,r,e,k⟩=>by obtain⟨v,h1,h2⟩:=r.get i _ (Tq e);exact⟨v,h1,k v H (aH.refl H) h2⟩
theorem Oq(h:PE X e (oX i)):DW X e (Z.eW i):=PE.imp h λ σ H Q ⟨ρ,d,r,e,k⟩=>by
 rcases Tp e with q|⟨xs,q,rfl⟩|⟨xs,q,rfl⟩
 rotate_left;rotate_left
 ·obtain⟨v,h1,h2⟩:=r.get i _ q;exact⟨v,h1,k v H (aH.refl H) (l9.lst h2)⟩
 ·obtain⟨v,h1,h2⟩:=r.get i _ q;exact⟨v,h1,k v H (aH.refl H) (.inl h2)⟩
 ·obtain⟨v,h1,a,vs,rfl,h2,h3⟩:=r.get i _ q;exact⟨_,h1,k _ H (aH.refl H) (.inr ⟨xs,a,vs,rfl,rfl,h2,h3⟩)⟩
theorem _root_.ZQ.ak(hN:X.N[i]?=some x:=by rfl)(hv:Mh X.env.scope x:=by first| exact Or.inl rfl| exact Or.inr (Or.inl rfl)| exact Or.inr (Or.inr rfl))(hd:(x==("__debug__"))=false:=by decide +kernel)
  (tu:(x==("__classdict__"))=false:=by decide +kernel):ZQ.QE X (.Name x pos) (Z.eV i):=⟨OA (Am hN hv hd tu)⟩
theorem _root_.ZQ.ae(hN:X.N[i]?=some x:=by rfl)(hv:Mh X.env.scope x:=by first| exact Or.inl rfl| exact Or.inr (Or.inl rfl)| exact Or.inr (Or.inr rfl))(hd:(x==("__debug__"))=false:=by decide +kernel)
  (tu:(x==("__classdict__"))=false:=by decide +kernel):ZQ.QW X (.Name x pos) (Z.eW i):=⟨Oq (Am hN hv hd tu)⟩
theorem Ld(hg:Gl X x)(hm:X.mg x=some u)(r:RelV v u)(hd:∀H,Den X.K H d v)(hb:(x==("__debug__"))=false:=by decide +kernel):DE X (.Name x pos) (Z.eC d):=
 El (BP hg hm r hb) hd
theorem _root_.ZQ.ai(h:ZQ.QE X e f):ZQ.QW X e f:=⟨PE.imp h.p λ σ H Q ⟨ρ,d,r,e,k⟩=>⟨ρ,d,r,e,λ v H' s q=>k v H' s (.inl q)⟩⟩
theorem _root_.ZQ.dW(h:ZQ.QL X e l):ZQ.QW X e (Z.eL l):=⟨PE.imp h.p λ σ H Q ⟨ρ,d,r,e,k⟩=>by
 unfold Z.eL at e;cases q:l ρ with
 |bad=>rw[q]at e;cases e
 |ok ds=>rw[q]at e;cases e;exact⟨ρ,ds,r,q,λ a vs H' s hn h1 h2=>k _ H' s (.inr ⟨ds,a,vs,rfl,rfl,h1,h2⟩)⟩⟩
theorem m7(I:Inv X χ σ H s)(h:H p=some (.lst xs)):∃o,Inv X χ σ (upd H p (.fM o (.lst xs))) s:=by
 obtain⟨z,its,n,r,ho⟩:=I.cC p _ h;refine⟨_,I.un (H':=upd H p (.fM {cls:=.type "list",data:=.seq its.toArray n} _)) ?_ ?_⟩
 ·have ne:∀b,H b=none->b≠p:=λ b e q=>by rw[q,h]at e;cases e
  refine⟨λ b o q _ _ _=>q,λ b o q _ _ _=>⟨_,q⟩,λ b o q e _=>by rw[aV (ne b e)];exact e,λ b o q _=>⟨o,q⟩,λ b ys e=>?_,λ b o u e=>?_,λ b u pr e=>?_⟩
  ·have:b≠p:=by rintro rfl;rw[h]at e;cases e
   rw[aV this];exact e
  ·have:b≠p:=by rintro rfl;rw[h]at e;cases e
   rw[aV this];exact e
  ·have:b≠p:=by rintro rfl;rw[h]at e;cases e;exact pr
   rw[aV this];exact e
 ·intro b u e;by_cases hb:b=p
  ·subst hb;rw[bC]at e;cases e;exact⟨ho,z,its,n,r,ho⟩
  ·rw[aV hb]at e;refine(I.cC b u e).qq (λ c w _ q=>q) (λ c q=>?_) (λ c ys q=>?_) λ c v pr q=>?_
   ·have:c≠p:=by rintro rfl;rw[h]at q;cases q
    rw[aV this];exact q
   ·have:c≠p:=by rintro rfl;rw[h]at q;cases q
    rw[aV this];exact q
   ·have:c≠p:=by rintro rfl;rw[h]at q;cases q;exact pr
    rw[aV this];exact q
theorem Fu(s:aH H H1)(hn:H p=none):aH H (upd H1 p (.fM o (.lst xs))):=λ b u e=>by rw[aV (b! e hn)];exact s b u e
theorem _root_.ZQ.kQ(h:ZQ.QL X e l):ZQ.QE X e (Z.eL l):=⟨by
 have h:=h.p;intro χ s σ H Q I w;obtain⟨ρ,d,r,e,k⟩:=w;unfold Z.eL at e;cases q:l ρ with
 |bad=>rw[q]at e;cases e
 |ok ds=>rw[q]at e;cases e;refine dB (h χ s σ H (λ v H1=>∃a vs,v=.ref a/\aH H H1/\H a=none/\H1 a=some (.lst vs)/\aE X.K H1 ds vs) I ⟨ρ,ds,r,q,λ a vs H1 s1 hn h1 h2=>⟨a,vs,rfl,s1,hn,h1,h2⟩⟩) ?_;rintro u s' ⟨v,H1,I1,rv,a,vs,rfl,s1,hn,h1,h2⟩;obtain⟨o,I2⟩:=m7 I1 h1;exact⟨_,_,I2,rv,k _ _ (Fu s1 hn) (wU (.inl ⟨o,bC⟩) (h2.ups (iQ h1)))⟩⟩
def CJ(K:W.Frag)(r:R2)(o:Z.D->Z.D->Z.Res Z.D):Prop:=∀(x y:V)(dx dy d:Z.D)(H:Hp)(Q:VK),bU K H dx x->bU K H dy y->o dx dy=.ok d->(∀v H',aH H H'->Den K H' d v->Q v H')->r x y H Q
theorem two(hz:CJ X.K r o):∀σ H Q,tZ X.K (Z.eB o fa fb) σ H Q->LM r (I! X.K fa) (I! X.K fb) σ H Q:=by rintro σ H Q ⟨ρ,d,re,e,k⟩;obtain⟨x,ea,e⟩:=Z.Res.ax e;obtain⟨y,eb,e⟩:=Z.Res.ax e;exact⟨ρ,x,re,ea,λ v H1 s1 d1=>⟨ρ,y,re.up s1,eb,λ u H2 s2 d2=>hz _ _ _ _ _ H2 Q (d1.up s2) d2 e λ w H' s3 dw=>k w H' ((s1.trans s2).trans s3) dw⟩⟩
theorem qc(hr:jv X (binaryOp op) r)(hz:CJ X.K r o)(ha:DW X a fa)(hb:DW X b fb):DE X (.BinOp a op b pos) (Z.eB o fa fb):=
 PE.imp (FQ hr ha hb) (two hz)
theorem CJ.or{K:W.Frag}{r r':R2}(h:∀x y dx dy d H Q,bU K H dx x->bU K H dy y->o dx dy=.ok d->(∀v H',aH H H'->Den K H' d v->Q v H')->r x y H Q\/r' x y H Q):CJ K (λ x y H Q=>r x y H Q\/r' x y H Q) o:=h
theorem kq{K:W.Frag}{g:Int->Int->Int}(h:∀dx dy d,o dx dy=.ok d->∃i j,dx=.int i/\dy=.int j/\C i j/\d=.int (g i j)):CJ K (rI C λ i j=>.int (g i j)) o:=by intro x y dx dy d H Q h1 h2 e k;obtain⟨i,j,rfl,rfl,hc,rfl⟩:=h _ _ _ e;exact⟨i,j,h1.int,h2.int,hc,k _ H (aH.refl H) cP⟩
theorem lE{K:W.Frag}{gd:Int->Int->Z.D}(h:∀dx dy d,o dx dy=.ok d->∃i j,dx=.int i/\dy=.int j/\d=gd i j)(hg:∀i j H,Den K H (gd i j) (g i j)):CJ K (FE g) o:=by intro x y dx dy d H Q h1 h2 e k;obtain⟨i,j,rfl,rfl,rfl⟩:=h _ _ _ e;exact⟨i,j,h1.int,h2.int,k _ H (aH.refl H) (hg i j H)⟩
theorem _root_.ZQ.sI(ha:ZQ.QW X a fa)(hb:ZQ.QW X b fb):ZQ.QE X (.BinOp a .Sub b pos) (Z.eB Z.tY fa fb):=⟨have ha:=ha.p;have hb:=hb.p;qc M9 (lE (λ dx dy d e=>by
 unfold Z.tY at e;split at e
 ·cases e;exact⟨_,_,rfl,rfl,rfl⟩
 ·cases e) λ _ _ _=>cP) ha hb⟩
def Ik(i j:Int):Prop:=IntMulOk i j
theorem JK:jv X (binaryOp .Mult) (rI Ik λ i j=>.int (i*j)):=Ng λ _ _ _ _ _ _ _ hc q=>mul_int q hc
theorem Ln(i:Int):Z.bits i=Builtin.Int.intBits i:=by
 unfold Z.bits Builtin.Int.intBits;by_cases h:i=0
 ·subst h;simp
 ·first
   |(simp;done)
   |(rw[f8];simp;done)
theorem rV(h:Z.bS i j):IntMulOk i j:=by
 rcases h with h|h|⟨h1,h2⟩
 ·exact IntMulOk.of_left (B43 (by lia) (by lia))
 ·exact IntMulOk.of_right (B43 (by lia) (by lia))
 ·rw[Ln]at h1 h2;exact mulOk_of_bits h1 h2 (by decide)
theorem _root_.ZQ.hX(ha:ZQ.QW X a fa)(hb:ZQ.QW X b fb):ZQ.QE X (.BinOp a .Mult b pos) (Z.eB Z.fA fa fb):=⟨have ha:=ha.p;have hb:=hb.p;qc JK (kq λ dx dy d e=>by
 unfold Z.fA at e;split at e
 ·unfold Z.guard at e;split at e
  ·rename_i h;cases e;exact⟨_,_,rfl,rfl,rV h,rfl⟩
  ·cases e
 ·cases e) ha hb⟩
def Uo(_ j:Int):Prop:=Z.iA j
theorem A7(h:Z.iA j):0<j/\j.natAbs.log2<9000:=by
 have h0:=h.1;have h1:=h.2;have hn:j.natAbs≠0:=by lia
 have h2:j.natAbs<2^250:=by
  have:(2)^250=1809251394333065553493296640760748560207343510400633813116524750123642650624:=by decide
  lia
 have:=(Nat.log2_lt hn).mpr h2;exact⟨h0,by lia⟩
theorem JL:jv X (binaryOp .FloorDiv) (rI Uo λ i j=>.int (i / j)):=Ng λ i j _ _ _ _ _ hc q=>by obtain⟨h0,h1⟩:=A7 hc;have e:=C30 i (Int.le_of_lt h0);exact floordiv_int (Int.ne_of_gt h0) (by rw[e];exact q) (.inl (PyProof.noPylong_of_log2 h1))
theorem _root_.ZQ.f_(ha:ZQ.QW X a fa)(hb:ZQ.QW X b fb):ZQ.QE X (.BinOp a .FloorDiv b pos) (Z.eB Z.oDiv fa fb):=⟨have ha:=ha.p;have hb:=hb.p;qc JL (kq λ dx dy d e=>by
 unfold Z.oDiv at e;split at e
 ·unfold Z.guard at e;split at e
  ·rename_i h;cases e;exact⟨_,_,rfl,rfl,h,rfl⟩
  ·cases e
 ·cases e) ha hb⟩
theorem _root_.ZQ.bR(ha:ZQ.QW X a fa)(hb:ZQ.QW X b fb):ZQ.QE X (.BinOp a .Mod b pos) (Z.eB Z.oMod fa fb):=⟨have ha:=ha.p;have hb:=hb.p;qc M_ (kq λ dx dy d e=>by
 unfold Z.oMod at e;split at e
 ·unfold Z.guard at e;split at e
  ·rename_i h;cases e;exact⟨_,_,rfl,rfl,h,rfl⟩
  ·cases e
 ·cases e) ha hb⟩
theorem _root_.ZQ.OB(ha:ZQ.QW X a fa)(hb:ZQ.QW X b fb):ZQ.QE X (.BinOp a .RShift b pos) (Z.eB Z.JV fa fb):=⟨have ha:=ha.p;have hb:=hb.p;qc M' (kq λ dx dy d e=>by
 unfold Z.JV at e;split at e
 ·unfold Z.guard at e;split at e
  ·rename_i h;cases e;exact⟨_,_,rfl,rfl,h,rfl⟩
  ·cases e
 ·cases e) ha hb⟩
theorem _root_.ZQ.sJ(ha:ZQ.QW X a fa)(hb:ZQ.QW X b fb):ZQ.QE X (.BinOp a .Pow b pos) (Z.eB Z.mX fa fb):=⟨have ha:=ha.p;have hb:=hb.p;qc M? (kq λ dx dy d e=>by
 unfold Z.mX at e;split at e
 ·unfold Z.guard at e;split at e
  ·rename_i h;cases e;exact⟨_,_,rfl,rfl,h,rfl⟩
  ·cases e
 ·cases e) ha hb⟩
theorem _root_.ZQ.OC(ha:ZQ.QW X a fa)(hb:ZQ.QW X b fb):ZQ.QE X (.BinOp a .LShift b pos) (Z.eB Z.JW fa fb):=⟨have ha:=ha.p;have hb:=hb.p;qc M! (kq λ dx dy d e=>by
 unfold Z.JW at e;split at e
 ·unfold Z.guard at e;split at e
  ·rename_i h;cases e;exact⟨_,_,rfl,rfl,h,rfl⟩
  ·cases e
 ·cases e) ha hb⟩
def QZ(K:W.Frag):R2:=λ x y H Q=>∃a b xs ys,x=.ref a/\y=.ref b/\lx K H a xs/\lx K H b ys/\xs.length+ys.length<=sizeLine /\
 (xs=[]->Q (.ref b) H)/\(ys=[]->Q (.ref a) H)/\(∀p,H p=none->Q (.ref p) (upd H p (.tup (xs++ys))))
theorem JM:jv X (binaryOp .Add) (QZ X.K):=by
 intro χ s σ H x y v u Q I rx ry h;obtain⟨p,q,xs,ys,rfl,rfl,hp,hq,hz,q0,q1,q2⟩:=h;by_cases hx:xs=[]
 ·cases rx;cases ry;obtain⟨its,r1,ht,_⟩:=I.tuple hp;obtain⟨g_,r2,hb,_⟩:=I.tuple hq;obtain⟨⟨cls,dd,data,sl⟩,ho,hc,n,hd⟩:=id ht;obtain⟨⟨TB,PV,data2,O_⟩,EL,uT,n2,hd2⟩:=id hb;simp only at hc hd uT hd2;subst hc hd uT hd2;have e0:=r1.qK.mpr hx;exact B46 ⟨_,ho,rfl⟩ ⟨_,EL,rfl⟩ B77 seq_tuple_add B79 B80 (B81 _ _)
   (tuple_addW0 p q _ _ n n2 dd PV sl O_ (by simp[e0])) ⟨ho,EL,⟨.ref q,H,I,rfl,q0 hx⟩⟩
 ·exact JN χ s σ H _ _ v u Q I rx ry ⟨p,q,xs,ys,rfl,rfl,hp,hq,hx,hz,q1,λ _=>q2⟩
theorem Ja(a b:γ Nat):(⟨a.toArray⟩)++(⟨b.toArray⟩:Str)=⟨(a++b).toArray⟩:=by show(⟨a.toArray++b.toArray⟩:Str)=_;simp
theorem _root_.ZQ.aY(ha:ZQ.QW X a fa)(hb:ZQ.QW X b fb):ZQ.QE X (.BinOp a .Add b pos) (Z.eB Z.aX fa fb):=⟨have ha:=ha.p;have hb:=hb.p;qc (Nc.or (Ao.or JM)) (λ x y dx dy d H Q h1 h2 e k=>by
 unfold Z.aX at e;split at e
 ·cases e;exact .inl ⟨_,_,h1.int,h2.int,k _ H (aH.refl H) cP⟩
 ·unfold Z.guard at e;split at e
  ·rename_i as bs h;cases e;refine .inr (.inl ⟨_,_,h1.str,h2.str,?_,?_⟩)
   ·show as.toArray.size+bs.toArray.size<=sizeLine;rw[A29];simpa using h
   ·rw[Ja];exact k _ H (aH.refl H) eI
  ·cases e
 ·unfold Z.guard at e;split at e
  ·rename_i as bs h;cases e;obtain⟨p,xs,rfl,hp,t1⟩:=h1.tup;obtain⟨q,ys,rfl,hq,t2⟩:=h2.tup;refine .inr (.inr ⟨p,q,xs,ys,rfl,rfl,hp,hq,?_,?_,?_,?_⟩)
   ·rw[t1.length,t2.length,A29];exact h
   ·rintro rfl;have:=C34 (by rw[<-t1.length];rfl);subst this;exact k _ H (aH.refl H) (fG hq t2)
   ·rintro rfl;have:=C34 (by rw[<-t2.length];rfl);subst this;rw[A87]at k;exact k _ H (aH.refl H) (fG hp t1)
   ·intro z hn;have s1:aH H (upd H z (.tup (xs++ys))):=cA hn;exact k _ _ s1 (fG (.inl (.inl bC)) ((t1.append t2).up s1))
  ·cases e
 ·cases e) ha hb⟩
theorem _root_.ZQ.A9(ha:ZQ.QW X a fa):ZQ.QE X (.UnaryOp .USub a pos) (Z.eU Z.yx fa):=⟨PE.imp (Q4 Ms ha.p) λ σ H Q ⟨ρ,d,r,e,k⟩=>by
 obtain⟨x,ea,e⟩:=Z.Res.ax e;refine⟨ρ,x,r,ea,λ v H1 s1 d1=>?_⟩;unfold Z.yx at e;split at e
 ·cases e;exact⟨_,d1.int,k _ H1 s1 cP⟩
 ·cases e⟩
end
end ZS
namespace ZS
section
open PySem Builtin Builtin.Str
theorem lM(t:γ Nat):(⟨t.toArray⟩:Str).length=t.length:=by simp[Str.length]
theorem Xh(t:γ Nat)(c:Nat):(!(Builtin.Str.occurrences ⟨t.toArray⟩ ⟨#[c]⟩ 0 t.length 1).isEmpty)=t.contains c:=by have h:=StrLaws.found_one ⟨t.toArray⟩ c;rw[lM]at h;rw[h,A57];simp
theorem Cw(n d:Nat)(i:Int):max 0 (min (if i<0 then i+(n)else i) (n))=((Z.eu n d (some i))):=by
 show max 0 (min (if i<0 then i+(n)else i) (n))=(((if i<0 then(i+(n)).toNat else min _ n)))
 by_cases h:i<0
 ·simp only[M2 h];lia
 ·simp only[f8 h];lia
theorem slR(a b:Nat):sliceRange (a) (b) 1=(List.range (b-a)).map (λ k=>a+k):=by
 unfold sliceRange;simp only[show(1:Int)>0 by decide,A20];have e:(if(a)<(b:Int)then((b)-(a:Int)+1-1) / 1 else 0).toNat=b-a:=by
  split
  ·rw[Int.ediv_one];lia
  ·lia
 rw[e];apply A67;intro k _;lia
theorem idxs(lo hi:ε Int)(n:Nat):strSliceIndices lo hi 1 n=(List.range (Z.eu n n hi-Z.eu n 0 lo)).map (λ k=>Z.eu n 0 lo+k):=by
 unfold strSliceIndices;simp only[show(1:Int)>0 by decide,A20];rw[<-slR];cases lo with
 |none=>
  cases hi with
  |none=>rfl
  |some j=>simp only[Cw n n j];rfl
 |some i=>
  cases hi with
  |none=>simp only[Cw n 0 i];rfl
  |some j=>simp only[Cw n 0 i,Cw n n j]
theorem vL(n d:Nat)(hd:d<=n)(o:ε Int):Z.eu n d o<=n:=by
 cases o with
 |none=>exact hd
 |some v=>show(if v<0 then(v+(n)).toNat else min _ n)<=n;split<;>lia
theorem pick(cs:γ Nat):∀k a,a+k<=cs.length->((List.range k).map (λ j=>a+j)).filterMap (λ i=>cs.toArray[i]?)=(cs.drop a).take k:=by
 intro k
 induction k with
 |zero=>intro a _;simp
 |succ k ih=>
  intro a h;rw[B22,A68,List.filterMap_append,ih a (by lia)];have lN:a+k<cs.length:=by lia
  rw[List.take_succ];simp[lN]
theorem Qq(cs:γ Nat)(lo hi:ε Int):Txt.slice ⟨cs.toArray⟩ lo hi=⟨(Z.cut cs lo hi).toArray⟩:=by
 unfold Txt.slice;rw[lM,idxs];have h1:=vL _ cs.length (o0 _) hi;have h0:=vL cs.length 0 (A51 _) lo;have hp:((List.range (Z.eu cs.length cs.length hi-Z.eu cs.length 0 lo)).map (λ k=>Z.eu cs.length 0 lo+k)).filterMap (λ i=>cs.toArray[i]?)=Z.cut cs lo hi:=by exact pick cs _ _ (by lia)
 split
 ·rename_i hh;have ψ:(List.range (Z.eu cs.length cs.length hi-Z.eu cs.length 0 lo)).length=cs.length:=by simp only[B48,B23,A74,A03]at hh;exact hh
  rw[A94]at ψ;unfold Z.cut;have e0:Z.eu cs.length 0 lo=0:=by lia
  have e1:Z.eu cs.length cs.length hi-Z.eu cs.length 0 lo=cs.length:=by lia
  rw[e1,e0];simp
 ·rw[hp]
end
open PySem PySem.Spec PyProof.Rows L2
section
variable {X:Cx}
theorem OE(hr:jv X (compareOp op) r)(hz:CJ X.K r o)(ha:DW X a fa)(hb:DW X b fb)(hm:behindInMarks op b=false):DE X (.Compare a [op] [b] pos) (Z.eB o fa fb):=
 PE.imp (qI hr ha hb hm) (two hz)
theorem u6(h:PT X e (Fc t))(k:∀σ H Q,tZ X.K f σ H Q->t σ H Q):DT X e (Z.tE f):=PT.imp h λ σ H Q ⟨ρ,b,r,e,q⟩=>by
 obtain⟨x,ea,e⟩:=Z.Res.ax e;refine k σ H _ ⟨ρ,x,r,ea,λ v H' s d=>?_⟩;split at e
 ·cases e;simp only[Den]at d;exact⟨_,d,q H' s⟩
 ·cases e
theorem Ou(hr:jv X (compareOp op) r)(hz:CJ X.K r o)(ha:DW X a fa)(hb:DW X b fb)(hm:behindInMarks op b=false):DT X (.Compare a [op] [b] pos) (Z.tE (Z.eB o fa fb)):=
 u6 (vS hr ha hb hm) (two hz)
structure Bp(X:Cx)(op:CmpOp)(o:Z.D->Z.D->Z.Res Z.D):Prop where
 ex:∃r,jv X (compareOp op) r/\CJ X.K r o
theorem _root_.ZQ.cL(h:Bp X op o)(ha:ZQ.QW X a fa)(hb:ZQ.QW X b fb)(hm:behindInMarks op b=false:=by first|exact mY _|with_unfolding_all rfl):ZQ.QE X (.Compare a [op] [b] pos) (Z.eB o fa fb):=
 ⟨let ⟨_,hr,hz⟩:=h.ex;OE hr hz ha.p hb.p hm⟩
theorem _root_.ZQ.aL(h:Bp X op o)(ha:ZQ.QW X a fa)(hb:ZQ.QW X b fb)(hm:behindInMarks op b=false:=by first|exact mY _|with_unfolding_all rfl):ZQ.QT X (.Compare a [op] [b] pos) (Z.tE (Z.eB o fa fb)):=
 ⟨let ⟨_,hr,hz⟩:=h.ex;Ou hr hz ha.p hb.p hm⟩
theorem u!(hz:CJ X.K r o)(Si:CJ X.K r' o'):∀σ H Q,tZ X.K (Z.hU o o' fa fb fc) σ H Q->Aa r r' (I! X.K fa) (I! X.K fb) (I! X.K fc) σ H Q:=by
 rintro σ H Q ⟨ρ,d,re,e,k⟩;obtain⟨x,ea,e⟩:=Z.Res.ax e;obtain⟨y,eb,e⟩:=Z.Res.ax e;obtain⟨z,eo,e⟩:=Z.Res.ax e;refine⟨ρ,x,re,ea,λ v H1 s1 d1=>⟨ρ,y,re.up s1,eb,λ u H2 s2 d2=>hz _ _ _ _ _ H2 _ (d1.up s2) d2 eo λ w H3 s3 dw=>?_⟩⟩;have Im:=(s1.trans s2).trans s3;split at e
 ·rename_i q;simp only[Den]at dw;refine⟨_,dw,?_⟩;cases q with
  |true=>simp only[A20]at e ⊢;obtain⟨t,ec,e⟩:=Z.Res.ax e;exact⟨ρ,t,re.up Im,ec,λ v' H4 s4 d4=>Si _ _ _ _ _ H4 Q ((d2.up s3).up s4) d4 e λ w' H5 s5 dw'=>k w' H5 ((Im.trans s4).trans s5) dw'⟩
  |false=>simp only[A45]at e ⊢;cases e;exact k _ H3 Im dG
 ·cases e
theorem _root_.ZQ.zm(h:Bp X op o)(h':Bp X Dk o')(ha:ZQ.QW X a fa)(hb:ZQ.QW X b fb)(hc:ZQ.QW X c fc)
  (hm:lastMarks [op,Dk] [b,c]=false:=by with_unfolding_all rfl):ZQ.QE X (.Compare a [op,Dk] [b,c] pos) (Z.hU o o' fa fb fc):=
 ⟨let ⟨_,hr,hz⟩:=h.ex;let ⟨_,Yh,Si⟩:=h'.ex;PE.imp (FU hr Yh ha.p hb.p hc.p hm) (u! hz Si)⟩
theorem _root_.ZQ.j8(h:Bp X op o)(h':Bp X Dk o')(ha:ZQ.QW X a fa)(hb:ZQ.QW X b fb)(hc:ZQ.QW X c fc)
  (hm:lastMarks [op,Dk] [b,c]=false:=by with_unfolding_all rfl):ZQ.QT X (.Compare a [op,Dk] [b,c] pos) (Z.tE (Z.hU o o' fa fb fc)):=
 ⟨let ⟨_,hr,hz⟩:=h.ex;let ⟨_,Yh,Si⟩:=h'.ex;u6 (FH hr Yh ha.p hb.p hc.p hm) (u! hz Si)⟩
theorem Ez:Bp X .Lt Z.oLt:=⟨_,Q8,lE (λ dx dy d e=>by
 unfold Z.oLt at e;split at e
 ·cases e;exact⟨_,_,rfl,rfl,rfl⟩
 ·cases e) λ _ _ _=>dG⟩
theorem w8:Bp X .Gt Z.BV:=⟨_,Q!,lE (λ dx dy d e=>by
 unfold Z.BV at e;split at e
 ·cases e;exact⟨_,_,rfl,rfl,rfl⟩
 ·cases e) λ _ _ _=>dG⟩
theorem TN:Bp X .GtE Z.Ry:=⟨_,Q?,lE (λ dx dy d e=>by
 unfold Z.Ry at e;split at e
 ·cases e;exact⟨_,_,rfl,rfl,rfl⟩
 ·cases e) λ _ _ _=>dG⟩
theorem Di:jv X (compareOp .LtE) (λ x y H Q=>∃i j,x=.str i/\y=.str j/\Q (.bl (!decide (j.cps.toList<i.cps.toList))) H):=by intro χ s σ H x y v u Q I rx ry h;obtain⟨i,j,rfl,rfl,q⟩:=h;obtain⟨t,rfl⟩:=rx;obtain⟨t',rfl⟩:=ry;exact PySem.P.le_str (wA I q rfl)
theorem Gq:∀a b,Z.EJ a b=decide (a<b)
 |[],[]=>by simp[Z.EJ]
 |[],_::_=>by simp[Z.EJ]
 |_::_,[]=>by simp[Z.EJ]
 |a::as,b::bs=>by
  unfold Z.EJ;rw[Gq];by_cases h:a<b
  ·simp[C35]
  ·by_cases h2:a=b
   ·subst h2;simp
   ·simp[C35]
theorem js:Bp X .LtE Z.oLe:=⟨_,Q9.or Di,λ x y dx dy d H Q h1 h2 e k=>by
 unfold Z.oLe at e;split at e
 ·cases e;exact .inl ⟨_,_,h1.int,h2.int,k _ H (aH.refl H) dG⟩
 ·cases e;refine .inr ⟨_,_,h1.str,h2.str,?_⟩;rename_i as bs;have q:=k (.bl (!Z.EJ bs as)) H (aH.refl H) dG;rw[Gq]at q;exact q
 ·cases e⟩
def R':Z.D->Bool
 |.non=>true
 |_=>false
theorem Gb{K:W.Frag}(h:bU K H d v):decide (v=.non)=R' d:=by
 cases d with
 |non=>rw[h.non];rfl
 |bl b=>rw[h.bl];rfl
 |int i=>rw[h.int];rfl
 |str cs=>rw[h.str];rfl
 |tup ds=>obtain⟨a,vs,rfl,_⟩:=h.tup;rfl
 |lst ds=>obtain⟨a,vs,rfl,_⟩:=h.lst;rfl
 |dct ks ds=>obtain⟨a,o,kvs,rfl,_⟩:=h.dct;rfl
theorem B':∀σ H Q,tZ X.K (Z.eU Z.iS fa) σ H Q->LM (λ x y H Q=>y=.non/\Q (.bl (decide (x=.non))) H) (I! X.K fa) (tC .non) σ H Q:=by rintro σ H Q ⟨ρ,d,r,e,k⟩;obtain⟨x,ea,e⟩:=Z.Res.ax e;refine⟨ρ,x,r,ea,λ v H1 s1 d1=>⟨rfl,?_⟩⟩;rw[Gb d1];cases x<;>(cases e;exact k _ H1 s1 dG)
theorem yB:∀σ H Q,tZ X.K (Z.eU Z.d6 fa) σ H Q->LM (λ x y H Q=>y=.non/\Q (.bl (!decide (x=.non))) H) (I! X.K fa) (tC .non) σ H Q:=by rintro σ H Q ⟨ρ,d,r,e,k⟩;obtain⟨x,ea,e⟩:=Z.Res.ax e;refine⟨ρ,x,r,ea,λ v H1 s1 d1=>⟨rfl,?_⟩⟩;rw[Gb d1];cases x<;>(cases e;exact k _ H1 s1 dG)
theorem _root_.ZQ.wY(ha:ZQ.QW X a fa):ZQ.QE X (.Compare a [.Is] [.Constant .none j pos'] pos) (Z.eU Z.iS fa):=⟨PE.imp (qI FZ ha.p rL (mY _)) B'⟩
theorem _root_.ZQ.La(ha:ZQ.QW X a fa):ZQ.QE X (.Compare a [.IsNot] [.Constant .none j pos'] pos) (Z.eU Z.d6 fa):=⟨PE.imp (qI BR ha.p rL (mY _)) yB⟩
theorem _root_.ZQ.lW(ha:ZQ.QW X a fa):ZQ.QT X (.Compare a [.Is] [.Constant .none j pos'] pos) (Z.tE (Z.eU Z.iS fa)):=⟨u6 (vS FZ ha.p rL (mY _)) B'⟩
theorem _root_.ZQ.kN(ha:ZQ.QW X a fa):ZQ.QT X (.Compare a [.IsNot] [.Constant .none j pos'] pos) (Z.tE (Z.eU Z.d6 fa)):=⟨u6 (vS BR ha.p rL (mY _)) yB⟩
theorem TL:Bp X .In Z.F!:=⟨_,Dj,λ x y dx dy d H Q h1 h2 e k=>by
 unfold Z.F! at e;split at e
 ·cases e;refine⟨_,_,h1.str,h2.str,?_⟩;rename_i c t;rw[lM,Xh];exact k _ H (aH.refl H) dG
 ·cases e⟩
theorem _root_.ZQ.eQ(h:ZQ.QE X a fa):ZQ.QE X (.BoolOp op [a] pos) fa:=⟨M0 h.p⟩
theorem _root_.ZQ.hZ{rest:γ θ}(ha:ZQ.QE X a fa)(hb:ZQ.QE X (.BoolOp .And (b::rest) pos) fb):ZQ.QE X (.BoolOp .And (a::b::rest) pos) (Z.lV fa fb):=⟨PE.imp (M5 ha.p hb.p) λ σ H Q ⟨ρ,d,r,e,k⟩=>by
 obtain⟨x,ea,e⟩:=Z.Res.ax e;refine⟨ρ,x,r,ea,λ v H1 s1 d1=>?_⟩;split at e
 ·rename_i q;simp only[Den]at d1;refine⟨q,d1,?_⟩;cases q with
  |true=>simp only[A20]at e ⊢;exact⟨ρ,d,r.up s1,e,λ w H' s2 dw=>k w H' (s1.trans s2) dw⟩
  |false=>simp only[A45]at e ⊢;cases e;exact k _ H1 s1 dG
 ·cases e⟩
theorem _root_.ZQ.zl{rest:γ θ}(ha:ZQ.QE X a fa)(hb:ZQ.QE X (.BoolOp .Or (b::rest) pos) fb):ZQ.QE X (.BoolOp .Or (a::b::rest) pos) (Z.Oo fa fb):=⟨PE.imp (Q5 ha.p hb.p) λ σ H Q ⟨ρ,d,r,e,k⟩=>by
 obtain⟨x,ea,e⟩:=Z.Res.ax e;refine⟨ρ,x,r,ea,λ v H1 s1 d1=>?_⟩;split at e
 ·rename_i q;simp only[Den]at d1;refine⟨q,d1,?_⟩;cases q with
  |false=>simp only[A45]at e ⊢;exact⟨ρ,d,r.up s1,e,λ w H' s2 dw=>k w H' (s1.trans s2) dw⟩
  |true=>simp only[A20]at e ⊢;cases e;exact k _ H1 s1 dG
 ·cases e⟩
theorem _root_.ZQ.HE(ha:ZQ.QE X a fa):ZQ.QE X (.UnaryOp .Not a pos) (Z.Hn fa):=⟨PE.imp (M1 ha.p) λ σ H Q ⟨ρ,d,r,e,k⟩=>by
 obtain⟨x,ea,e⟩:=Z.Res.ax e;refine⟨ρ,x,r,ea,λ v H1 s1 d1=>?_⟩;split at e
 ·simp only[Den]at d1;cases e;exact⟨_,d1,k _ H1 s1 dG⟩
 ·cases e⟩
theorem MB:∀σ H Q,Qf X.K (Z.tE f) σ H Q->tB (tZ X.K f) σ H Q:=by
 rintro σ H Q ⟨ρ,b,r,e,q⟩;obtain⟨x,ea,e⟩:=Z.Res.ax e;refine⟨ρ,x,r,ea,λ v H' s d=>?_⟩;split at e
 ·cases e;simp only[Den]at d;exact⟨_,d,q H' s⟩
 ·cases e
theorem _root_.ZQ.eG(h:ZQ.QE X e f)(he:∀whole,isTrue e X.env whole=(do let v ←whole;standAt e.pos;holding [v] (truthy v)):=by intro _;rfl):ZQ.QT X e (Z.tE f):=⟨PT.imp (MR h.p he) MB⟩
theorem _root_.ZQ.bO(h:ZQ.QT X a t):ZQ.QT X (.UnaryOp .Not a pos) (Z.dM t):=⟨PT.imp (MS h.p) λ σ H Q ⟨ρ,b,r,e,q⟩=>by obtain⟨x,ea,e⟩:=Z.Res.ax e;cases e;exact⟨ρ,x,r,ea,λ H' s=>q H' s⟩⟩
theorem _root_.ZQ.oF(h:ZQ.QT X a t):ZQ.O5 X (.BoolOp .And [a] pos) t:=⟨pw_and1 h.p⟩
theorem _root_.ZQ.d9(h:ZQ.QT X a t):ZQ.O5 X (.BoolOp .Or [a] pos) t:=⟨pw_or1 h.p⟩
theorem _root_.ZQ.sC{rest:γ θ}(ha:ZQ.QT X a t)(hb:ZQ.O5 X (.BoolOp .And (b::rest) pos) u):ZQ.O5 X (.BoolOp .And (a::b::rest) pos) (Z.tO t u):=⟨PW.imp (pw_and ha.p hb.p) λ σ H Q ⟨ρ,d,r,e,k⟩=>by
 obtain⟨x,ea,e⟩:=Z.Res.ax e;refine⟨ρ,x,r,ea,λ H1 s1=>?_⟩;cases x with
 |true=>simp only[A20]at e ⊢;exact⟨ρ,d,r.up s1,e,λ H' s2=>k H' (s1.trans s2)⟩
 |false=>simp only[A45]at e ⊢;cases e;exact k H1 s1⟩
theorem _root_.ZQ.fT{rest:γ θ}(ha:ZQ.QT X a t)(hb:ZQ.O5 X (.BoolOp .Or (b::rest) pos) u):ZQ.O5 X (.BoolOp .Or (a::b::rest) pos) (Z.qp t u):=⟨PW.imp (pw_or ha.p hb.p) λ σ H Q ⟨ρ,d,r,e,k⟩=>by
 obtain⟨x,ea,e⟩:=Z.Res.ax e;refine⟨ρ,x,r,ea,λ H1 s1=>?_⟩;cases x with
 |false=>simp only[A45]at e ⊢;exact⟨ρ,d,r.up s1,e,λ H' s2=>k H' (s1.trans s2)⟩
 |true=>simp only[A20]at e ⊢;cases e;exact k H1 s1⟩
theorem _root_.ZQ.qC(h:ZQ.O5 X e t):ZQ.QT X e t:=⟨h.p.pt⟩
theorem _root_.ZQ.sL(hc:ZQ.QT X c t)(ha:ZQ.QE X a fa)(hb:ZQ.QE X b fb):ZQ.QE X (.IfExp c a b pos) (Z.Tt t fa fb):=⟨PE.imp (FT hc.p ha.p hb.p) λ σ H Q ⟨ρ,d,r,e,k⟩=>by
 obtain⟨x,ea,e⟩:=Z.Res.ax e;refine⟨ρ,x,r,ea,λ H1 s1=>?_⟩;cases x with
 |true=>simp only[A20]at e ⊢;exact⟨ρ,d,r.up s1,e,λ w H' s2 dw=>k w H' (s1.trans s2) dw⟩
 |false=>simp only[A45]at e ⊢;exact⟨ρ,d,r.up s1,e,λ w H' s2 dw=>k w H' (s1.trans s2) dw⟩⟩
theorem _root_.ZQ.aq:ZQ.QA X [] Z.av:=⟨PA.imp cI λ σ H Q ⟨ρ,ds,r,e,k⟩=>by cases e;exact k [] H (aH.refl H) aE.nil⟩
theorem kR(ha:DE X e f)(hr:DA X es g)(hs:Se e es X.env:=by rfl):DA X (e::es) (Z.aa f g):=PA.imp (bF ha hr hs) λ σ H Q ⟨ρ,ds,r,e,k⟩=>by obtain⟨x,ea,e⟩:=Z.Res.ax e;obtain⟨xs,eb,e⟩:=Z.Res.ax e;cases e;exact⟨ρ,x,r,ea,λ v H1 s1 d1=>⟨ρ,xs,r.up s1,eb,λ vs H2 s2 d2=>k _ H2 (s1.trans s2) (aE.cons (d1.up s2) d2)⟩⟩
theorem _root_.ZQ.cK(h:ZQ.QA X es g):ZQ.QE X (.Tuple es x1 pos) (Z.dF g):=⟨PE.imp (MZ h.p) λ σ H Q ⟨ρ,d,r,e,k⟩=>by
 obtain⟨xs,ea,e⟩:=Z.Res.ax e;unfold Z.guard at e;split at e
 ·rename_i hl;cases e;refine⟨ρ,xs,r,ea,λ vs H1 s1 d1=>⟨by rw[d1.length,A29];exact hl,λ q hq=>?_⟩⟩;have s2:aH H1 (upd H1 q (.tup vs)):=cA hq;exact k _ _ (s1.trans s2) (fG (.inl (.inl bC)) (d1.up s2))
 ·cases e⟩
theorem _root_.ZQ.bp(h:ZQ.QA X es g):ZQ.QL X (.List es pos) (Z.bg g):=⟨PE.imp (M3 h.p) λ σ H Q ⟨ρ,d,r,e,k⟩=>by
 obtain⟨xs,ea,e⟩:=Z.Res.ax e;unfold Z.guard at e;split at e
 ·rename_i hl;cases e;refine⟨ρ,_,r,ea,λ vs H1 s1 d1=>⟨by rw[d1.length,A29];exact hl,λ q hq=>?_⟩⟩;have s2:aH H1 (upd H1 q (.lst vs)):=cA hq;exact k q vs _ (s1.trans s2) (s1.free hq) bC (d1.up s2)
 ·cases e⟩
end
end ZS
namespace ZS
open PySem PySem.Spec PyProof.Rows L2
def Qb:Z.Ty->String
 |.bool=> "bool"|.int=> "int"|.str=> "str"|.tuple=> "tuple"|.list=> "list"|.dict=> "dict"
def tyD:Z.D->String
 |.non=> "NoneType"|.bl _=> "bool"|.int _=> "int"|.str _=> "str"|.tup _=> "tuple"|.lst _=> "list"|.dct _ _=> "dict"
theorem Kk(K:W.Frag)(t:Z.Ty)(d:Z.D):PySem.W.kitOne K (.type (tyD d)) (.type (Qb t))=some (Z.cW t d):=by cases t<;>cases d<;>kernel_rfl
section
theorem GC(t:Z.Ty)(I:Inv X χ σ H s)(hd:bU X.K H d v)(r:RelV v u)
  (h:∀tk,Q (.bool (Z.cW t d)) {s with toks:=tk}):wpAny (model X.prog X.w) A (call (.builtin "isinstance") [u,.type (Qb t)]) Q E s:=by
 have e:=Kk X.K t d;cases d with
 |non=>rw[hd.non]at r;cases (r);exact A95 PySem.W.kitx_none I.B4 True.intro e (λ z=>nomatch z) h
 |bl y=>rw[hd.bl]at r;cases (r);exact A95 PySem.W.kitx_bool I.B4 True.intro e (λ z=>nomatch z) h
 |int i=>rw[hd.int]at r;obtain⟨t',q⟩:=(r);cases q;exact A95 PySem.W.kitx_int I.B4 True.intro e (λ z=>nomatch z) h
 |str cs=>rw[hd.str]at r;obtain⟨t',q⟩:=(r);cases q;exact A95 PySem.W.kitx_str I.B4 True.intro e (λ z=>nomatch z) h
 |tup ds=>obtain⟨a,vs,rfl,hq,_⟩:=hd.tup;cases (r);obtain⟨its,_,⟨o,h1,h2,_⟩,_⟩:=I.tuple hq;exact A95 PySem.W.kitx_tuple I.B4 ⟨o,h1,h2⟩ e (λ z=>nomatch z) h
 |lst ds=>obtain⟨a,vs,rfl,hq,_⟩:=hd.lst;cases (r);obtain⟨its,_,⟨o,n,h1,h2,_⟩,_⟩:=I.list hq;exact A95 PySem.W.kitx_list I.B4 ⟨o,h1,h2⟩ e (λ z=>nomatch z) h
 |dct ks ds=>
  obtain⟨a,o,kvs,rfl,hq,_⟩:=hd.dct;cases (r);obtain⟨_,_,_,_,_,o',es,ep,h1,h2,_⟩:=(I.cC a _ hq)
  exact A95 PySem.W.kitx_dict I.B4 ⟨o',h1,h2.1⟩ e (λ z=>nomatch z) h
theorem _root_.ZQ.bY(t:Z.Ty)(hg:Gl X x)(hm:X.mg x=none)(hv:bootBuiltins x=some (.builtin "isinstance"))(hg2:Gl X y)(PC:X.mg y=none)(Py:bootBuiltins y=some (.type (Qb t)))(ha:ZQ.QW X a fa)
  (hn:x≠ "__name__":=by decide +kernel) (ji:(x==("__debug__"))=false:=by decide +kernel) (Yr:y≠ "__name__":=by decide +kernel) (YI:(y==("__debug__"))=false:=by decide +kernel)
  (he:starEach (a::[.Name y p2]) X.env=(false,eval a X.env)::starEach [.Name y p2] X.env:=by rfl) (iV:(backTo pos (starEach [.Name y p2] X.env)).any (·.1)=false:=by rfl) (PN:starEach ((.Name y p2)::[]) X.env=(false,eval (.Name y p2) X.env)::starEach [] X.env:=by rfl) :
  ZQ.QE X (.Call (.Name x p1) [a,.Name y p2] [] pos) (Z.eU (Z.fJ t) fa):=⟨by
 have hc:iG X (.builtin "isinstance") (λ xs H Q=>∃v d,xs=[v,.ty (Qb t)]/\bU X.K H d v/\Q (.bl (Z.cW t d)) H):=by intro χ s σ H xs us Q I r h;obtain⟨v,d,rfl,hd,q⟩:=h;obtain⟨u,w',rfl,r1,r2⟩:=vals2 r;cases (r2);exact GC t I hd r1 λ tk=>⟨.bl _,H,I.tok _,rfl,q⟩
 refine PE.imp (j6 hc hg hm hv (bF ha.p (bF (JE (v:=.ty (Qb t)) hg2 PC Py rfl Yr YI) cI PN) he) hn ji he iV) λ σ H Q ⟨ρ,d,r,e,k⟩=>?_;obtain⟨x,ea,e⟩:=Z.Res.ax e;cases e;exact⟨ρ,x,r,ea,λ v H1 s1 d1=>⟨v,x,rfl,d1,k _ H1 s1 dG⟩⟩⟩
theorem _root_.ZQ.bf{x:Str}(hm:X.mg x=none)(ha:ZQ.QW X a fa)(hn:x≠ "__name__":=by decide +kernel)(ji:(x == ("__debug__"))=false:=by decide +kernel)(he:Se a [] X.env:=by rfl)(iV:Pn pos [] X.env:=by rfl)(hg:Gl X x:=by rfl)(hv:bootBuiltins x=some (.builtin "len"):=by kernel_rfl):ZQ.QE X (.Call (.Name x p1) [a] [] pos) (Z.eU Z.b7 fa):=
 ⟨PE.imp (j6 HP hg hm hv (bF ha.p cI he) hn ji he iV) λ σ H Q ⟨ρ,d,r,e,k⟩=>by
  obtain⟨x,ea,e⟩:=Z.Res.ax e;refine⟨ρ,x,r,ea,λ v H1 s1 d1=>?_⟩;unfold Z.b7 at e;split at e
  ·unfold Z.guard at e;split at e
   ·rename_i cs hl;cases e;rw[d1.str];refine⟨_,_,rfl,⟨?_,?_⟩,k _ H1 s1 cP⟩
    ·show cs.toArray.size<=sizeLine;rw[A29];simpa using hl
    ·show cs.length=cs.toArray.size;simp
   ·cases e
  ·cases e;obtain⟨q,vs,rfl,hq,t⟩:=d1.tup;refine⟨_,_,rfl,.inr ⟨vs,hq,rfl⟩,?_⟩;rw[t.length];exact k _ H1 s1 cP
  ·cases e;obtain⟨q,vs,rfl,hq,t⟩:=d1.lst;refine⟨_,_,rfl,.inl ⟨vs,hq,rfl⟩,?_⟩;rw[t.length];exact k _ H1 s1 cP
  ·cases e⟩
theorem NK(n:Nat)(i:Int):Z.ph n i=Pp n i:=rfl
theorem atZ{K:W.Frag}(t:aE K H ds vs)(h:((Z.ph ds.length i).bind λ j=>ds[j]?)=some d):∃v,O2 vs i=some v/\Den K H d v:=by
 unfold O2;rw[t.length,<-NK];cases q:Z.ph _ i with
 |none=>rw[q]at h;cases h
 |some j=>rw[q]at h;exact t.get h
theorem _root_.ZQ.az(ha:ZQ.QW X a fa)(hb:ZQ.QW X b fb)(hs:CI b:=by intro _ _;rfl):ZQ.QE X (.Subscript a b pos) (Z.eB Z.aI fa fb):=⟨PE.imp (Q6 NJ ha.p hb.p hs) (two λ x y dx dy d H Q h1 h2 e k=>by
 unfold Z.aI at e;split at e
 ·obtain⟨q,vs,rfl,hq,t⟩:=h1.tup;split at e
  ·rename_i v hv;cases e;obtain⟨w,e1,dw⟩:=atZ t hv;exact .inr (.inl ⟨q,vs,_,w,rfl,h2.int,hq,e1,k w H (aH.refl H) dw⟩)
  ·cases e
 ·obtain⟨q,vs,rfl,hq,t⟩:=h1.lst;split at e
  ·rename_i v hv;cases e;obtain⟨w,e1,dw⟩:=atZ t hv;exact .inl ⟨q,vs,_,w,rfl,h2.int,hq,e1,k w H (aH.refl H) dw⟩
  ·cases e
 ·unfold Z.guard at e;split at e
  ·rename_i cs i hl;split at e
   ·rename_i c hc;cases e;refine .inr (.inr ⟨_,_,c,h1.str,h2.int,?_,?_,?_⟩)
    ·show cs.toArray.size<=sizeLine;rw[A29];simpa using hl
    ·exact hc
    ·exact k _ H (aH.refl H) (eI)
   ·cases e
  ·cases e
 ·cases e)⟩
theorem _root_.ZQ.sD:ZQ.QP X none Z.BQ:=⟨PO.imp Jx λ σ H Q ⟨ρ,o,r,e,k⟩=>by cases e;exact k H (aH.refl H)⟩
theorem _root_.ZQ.oG(h:ZQ.QW X e f):ZQ.QP X (some e) (Z.xm f):=⟨PO.imp (Jw h.p) λ σ H Q ⟨ρ,o,r,e,k⟩=>by
 obtain⟨x,ea,e⟩:=Z.Res.ax e;refine⟨ρ,x,r,ea,λ v H1 s1 d1=>?_⟩;split at e
 ·cases e;exact⟨_,d1.int,k H1 s1⟩
 ·cases e⟩
theorem o6(n d:Nat)(o:ε Int):Z.eu n d o=HT.eu n d o:=by cases o<;>rfl
theorem A!{K:W.Frag}(t:aE K H ds vs)(lo hi:ε Int):aE K H (Z.cut ds lo hi) (uh vs lo hi):=by unfold Z.cut uh;rw[o6,o6,t.length];exact(t.drop _).take _
theorem Eo{lo hi:ε Int}(h1:HT.eu xs.length 0 lo=0)(h2:HT.eu xs.length xs.length hi=xs.length):Z.cut xs lo hi=xs:=by unfold Z.cut;rw[o6,o6,h1,h2];simp
def W7(K:W.Frag):V->ε Int->ε Int->Hp->VK->Prop:=λ x lo hi H Q=>∃a xs,x=.ref a/\lx K H a xs/\(uh xs lo hi=xs->Q (.ref a) H)/\∀p,H p=none->Q (.ref p) (upd H p (.tup (uh xs lo hi)))
theorem mB{lo hi:ε Int}(ht:IsTup s.heap t items)(hs:s.heap.IsSliceOf sl vl vu .none)(pl:IsPart vl lo)(pu:IsPart vu hi)
  (hw:HT.eu items.size 0 lo=0/\HT.eu items.size items.size hi=items.size)
  (h:Q (.ref t) s):wpAny (model prog w) A (getItem (.ref t) (.ref sl)) Q E s:=by
 obtain⟨os,NV,G1,SR⟩:=id hs;have YS:s.TypeIs (.ref sl) "slice":=⟨os,NV,G1⟩
 unfold getItem
 try with_reducible refine A33 ?_
 first|refine T0 (v0 ?_)|skip
 refine T0 (wpAny_sequenceKey ht.typeIs (by decide) ?_);refine T0 (B04 (name:=Str.ofString "__getitem__") ht.typeIs B05
  (B06 B05 ht.typeIs entry_tuple_getitem ?_ (args_tuple_getitem _ _)))
 show wpAny _ _ (Builtin.Tuple.tupleItemsOf (.ref t)>>=_) _ _ s;refine T0 (tupleItemsOf_ ht ?_);refine T0 (B19 YS ?_);rw[M2 (by decide)];refine T0 (HT.j3 hs pl pu ?_);have X6:(((HT.eu items.size 0 lo):Int)==0&&(1:Int)==1&&(HT.eu items.size items.size hi-HT.eu items.size 0 lo)==items.size)=true:=by rw[hw.1,hw.2];simp
 show wpAny _ _ (if(((HT.eu items.size 0 lo:Nat):Int)==0&&(1:Int)==1&&(HT.eu items.size items.size hi-HT.eu items.size 0 lo)==items.size)=true then _ else _) _ _ s;rw[M2 X6];refine T0 ?_;unfold Builtin.Tuple.tupleIsExact;refine T0 (B19 ht.typeIs ?_);refine v0 ?_;rw[M2 (B48 _)];refine T0 (A96 ?_);exact v0 ⟨.ref t,rfl,v0 h⟩
theorem Jf:Ly X (W7 X.K):=by
 intro χ s σ H x v vl vu lo hi sl Q I rx hs pl pu h;obtain⟨a,xs,rfl,hx,q1,q2⟩:=h;by_cases hw:HT.eu xs.length 0 lo=0/\HT.eu xs.length xs.length hi=xs.length
 ·cases rx;obtain⟨its,r,ht,hz⟩:=I.tuple hx;have ψ:its.toArray.size=xs.length:=by rw[A07];exact r.length.symm
  refine⟨"tuple",_,B05.lookup,ht.typeIs,?_⟩;refine mB ht hs pl pu (by rw[ψ];exact hw) ⟨.ref a,H,I,rfl,q1 ?_⟩;have:=Eo hw.1 hw.2;unfold Z.cut at this;rw[o6,o6]at this;exact this
 ·exact ME χ s σ H _ v vl vu lo hi sl Q I rx hs pl pu ⟨a,xs,rfl,hx,hw,q2⟩
def W9:V->ε Int->ε Int->Hp->VK->Prop:=λ x lo hi H Q=>∃z,x=.str z/\z.length<=sizeLine/\Q (.str (Txt.slice z lo hi)) H
theorem FV(h:IsPart v o):∃q,v=partValue q/\q.map (·.1)=o:=by
 cases h with
 |none=>exact⟨none,rfl,rfl⟩
 |int i t=>exact⟨some (i,t),rfl,rfl⟩
theorem Jg:Ly X W9:=by intro χ s σ H x v vl vu lo hi sl Q I rx hs pl pu h;obtain⟨z,rfl,hz,q⟩:=h;obtain⟨t,rfl⟩:=rx;obtain⟨ql,rfl,rfl⟩:=FV pl;obtain⟨qu,rfl,rfl⟩:=FV pu;refine⟨"str",_,F.slot_str_getitem.lookup,A88 _ _ _,?_⟩;refine wpAny_getItem_str_slice (st:=none) hs rfl ?_;refine post_val_or_str ⟨A16 (Txt.slice_le z _ _) hz,λ t' k=>⟨.str _,H,I.tok _,⟨t',rfl⟩,q⟩⟩
theorem _root_.ZQ.lY{lo hi:ε θ}(ha:ZQ.QW X a fa)(hl:ZQ.QP X lo gl)(hh:ZQ.QP X hi gh):ZQ.QE X (.Subscript a (.Slice lo hi none p2) pos) (Z.Hm fa gl gh):=
 ⟨have hl:=hl.p;PE.imp (yg (Jg.or Jf) ha.p hl hh.p) λ σ H Q ⟨ρ,d,r,e,k⟩=>by
  obtain⟨x,ea,e⟩:=Z.Res.ax e;obtain⟨l,el,e⟩:=Z.Res.ax e;obtain⟨h,eh,e⟩:=Z.Res.ax e;refine⟨ρ,x,r,ea,λ v H1 s1 d1=>⟨ρ,l,r.up s1,el,λ H2 s2=>⟨ρ,h,(r.up s1).up s2,eh,λ H3 s3=>?_⟩⟩⟩;have Im:=(s1.trans s2).trans s3;have d3:=(d1.up s2).up s3;unfold Z.Rb at e;split at e
  ·unfold Z.guard at e;split at e
   ·rename_i cs _ _ hl;cases e;refine .inl ⟨_,d3.str,?_,?_⟩
    ·show cs.toArray.size<=sizeLine;rw[A29];simpa using hl
    ·rw[Qq];exact k _ H3 Im eI
   ·cases e
  ·cases e;obtain⟨q,vs,rfl,hq,t⟩:=d3.tup;refine .inr ⟨q,vs,rfl,hq,λ hw=>?_,λ z hz=>?_⟩
   ·have:=A! t l h;rw[hw]at this;exact k _ H3 Im (fG hq this)
   ·have s4:aH H3 (upd H3 z (.tup (uh vs l h))):=cA hz;exact k _ _ (Im.trans s4) (fG (.inl (.inl bC)) ((A! t l h).up s4))
  ·cases e⟩
theorem _root_.ZQ.sE{lo hi:ε θ}(ha:ZQ.QW X a fa)(hl:ZQ.QP X lo gl)(hh:ZQ.QP X hi gh):ZQ.QL X (.Subscript a (.Slice lo hi none p2) pos) (Z.Ke fa gl gh):=
 ⟨PE.imp (yg Jh ha.p hl.p hh.p) λ σ H Q ⟨ρ,d,r,e,k⟩=>by
  obtain⟨x,ea,e⟩:=Z.Res.ax e;obtain⟨l,el,e⟩:=Z.Res.ax e;obtain⟨h,eh,e⟩:=Z.Res.ax e;refine⟨ρ,x,r,ea,λ v H1 s1 d1=>⟨ρ,l,r.up s1,el,λ H2 s2=>⟨ρ,h,(r.up s1).up s2,eh,λ H3 s3=>?_⟩⟩⟩;have Im:=(s1.trans s2).trans s3;have d3:=(d1.up s2).up s3;split at e
  ·cases e;obtain⟨q,vs,rfl,hq,t⟩:=d3.lst;refine⟨q,vs,rfl,hq,λ z hz=>?_⟩;have s4:aH H3 (upd H3 z (.lst (uh vs l h))):=cA hz;exact k z _ _ (Im.trans s4) (Im.free hz) bC ((A! t l h).up s4)
  ·cases e⟩
def Q1(K:W.Frag):R2:=λ x y H Q=>∃l b xs zs,x=.ref l/\y=.ref b/\jw K H l xs/\jw K H b zs/\xs.length+zs.length<=sizeLine/\∀p,H p=none->Q (.ref p) (upd H p (.lst (xs++zs)))
theorem JO:jv X (binaryOp .Add) (Q1 X.K):=by
 intro χ s σ H x y v u Q I rx ry h;obtain⟨l,b,xs,zs,rfl,rfl,hH,hB,hz,q⟩:=h;cases rx;cases ry;obtain⟨its,r,pl,_⟩:=I.list hH;obtain⟨g_,r2,pl2,_⟩:=I.list hB;have hl:=r.length;have L6:=r2.length;obtain⟨⟨cls,dd,data,sl⟩,ho,hc,n,hd⟩:=id pl.isList;obtain⟨⟨TB,PV,data2,O_⟩,EL,uT,n2,hd2⟩:=id pl2.isList;simp only at hc hd uT hd2;subst hc hd uT hd2;have ea:its.toArray++g_.toArray=(its++g_).toArray:=by simp
 refine B46 ⟨_,ho,rfl⟩ ⟨_,EL,rfl⟩ noFill_list_add seq_list_add PySem.F.slot_list_add PySem.F.entry_list_add (PySem.F.args_list_add_2 _ _) (list_addW l b _ _ n n2 dd PV sl O_ (by simp only[A07];lia)) ⟨ho,EL,?_⟩;rw[ea];exact⟨.ref _,_,I.XB (r.append r2) (by rw[A23];lia),rfl,q _ I.fresh⟩
theorem _root_.ZQ.nc(ha:ZQ.QW X a fa)(hb:ZQ.QW X b fb):ZQ.QL X (.BinOp a .Add b pos) (Z.n8 fa fb):=⟨PE.imp (FQ JO ha.p hb.p) λ σ H Q ⟨ρ,d,r,e,k⟩=>by
 obtain⟨x,ea,e⟩:=Z.Res.ax e;obtain⟨y,eb,e⟩:=Z.Res.ax e;refine⟨ρ,x,r,ea,λ v H1 s1 d1=>⟨ρ,y,r.up s1,eb,λ u H2 s2 d2=>?_⟩⟩;have Jn:=s1.trans s2;split at e
 ·unfold Z.guard at e;split at e
  ·rename_i xs ys hl;cases e;obtain⟨q,vs,rfl,hq,t⟩:=(d1.up s2).lst;obtain⟨q',IQ,rfl,iU,t'⟩:=d2.lst;refine⟨q,q',vs,IQ,rfl,rfl,hq,iU,by rw[t.length,t'.length,A29];exact hl,λ z hz=>?_⟩;have s3:aH H2 (upd H2 z (.lst (vs++IQ))):=cA hz;exact k z _ _ (Jn.trans s3) (Jn.free hz) bC ((t.append t').up s3)
  ·cases e
 ·cases e⟩
def xl(K:W.Frag)(m:γ Z.D->Z.Res Z.D):Sp:=λ vs H Q _=>∃ds d,aE K H ds vs/\m ds=.ok d/\∀v H',aH H H'->Den K H' d v->Q v H'
theorem Lf(F:ki X.prog X.w X.K X.mg X.base oO k g fd ps (xl X.K m))(hr:d? k X.A)(hg:Gl X x)(hm:X.mg x=some (.ref g))(hk:PySem.W.keepIn X.K (.ref g)=true)(hb:Binds X.K fd ps [])
  (ha:DA X (e::es) ar) (ji:(x==("__debug__"))=false:=by decide +kernel) (he:Se e es X.env:=by rfl) (iV:Pn pos es X.env:=by rfl) :
  DE X (.Call (.Name x p1) (e::es) [] pos) (Z.aw m ar):=
 PE.imp (JD F hr hg hm hk hb .nil Q7 ha ji he iV) λ σ H Q ⟨ρ,d,r,e,k⟩=>by obtain⟨ds,ea,e⟩:=Z.Res.ax e;refine⟨ρ,ds,r,ea,λ vs H1 s1 d1=>?_⟩;show xl X.K m _ H1 Q E0;rw[A87];exact⟨ds,d,d1,e,λ v H' s2 dv=>k v H' (s1.trans s2) dv⟩
end
structure zP(K:W.Frag)(J:It)(S:Hp->Prop)(ds:List Z.D):Prop where
 go:∀(i:Nat)(d:Z.D)(H1:Hp),S H1->ds[i]?=some d->J.go i H1
 Br:∀(i:Nat)(d:Z.D)(H1 H2:Hp)(x:V),S H1->ds[i]?=some d->J.Br i H1 x H2->aH H1 H2/\Den K H2 d x
 stop:∀(H1:Hp),S H1->J.stop ds.length H1
def tZi(K:W.Frag)(f:Z.LF):TI:=λ σ H R=>∃ρ ds,RE K H σ ρ/\f ρ=.ok ds/\∀J H',aH H H'->zP K J (aH H') ds->R J H'
def tZj(K:W.Frag)(f:Z.LF):TI:=λ σ H R=>∃ρ ds,RE K H σ ρ/\f ρ=.ok ds/\∀J H',aH H H'->zP K J (kh H') ds->R J H'
abbrev DI(X:Cx)(tg e:θ)(f:Z.LF):Prop:=PI X tg e (tZi X.K f)
structure _root_.ZQ.QI(X:Cx)(tg e:Expr)(f:Z.LF):Prop where p:DI X tg e f
abbrev DJ(X:Cx)(tg e:θ)(f:Z.LF):Prop:=PI X tg e (tZj X.K f)
structure _root_.ZQ.QJ(X:Cx)(tg e:Expr)(f:Z.LF):Prop where p:DJ X tg e f
section
variable {X:Cx}{tg e a b:θ}{es:γ θ}{pos p:Pos}{f fa fb:Z.EF}
theorem PI.imp(h:PI X tg e t)(k:∀σ H R,t' σ H R->t σ H R):PI X tg e t':=λ χ s σ H R I w=>h χ s σ H R I (k σ H R w)
theorem zP.imp{K:W.Frag}(h:zP K J S ds)(k:∀H,S' H->S H):zP K J S' ds:=
 ⟨λ i d H1 s=>h.go i d H1 (k _ s),λ i d H1 H2 x s=>h.Br i d H1 H2 x (k _ s),λ H1 s=>h.stop H1 (k _ s)⟩
theorem _root_.ZQ.oJ(h:ZQ.QJ X tg e g):ZQ.QI X tg e g:=⟨PI.imp h.p λ σ H R ⟨ρ,ds,r,e,k⟩=>⟨ρ,ds,r,e,λ J H' s z=>k J H' s (z.imp λ _ q=>o4 q)⟩⟩
theorem Kr{K:W.Frag}(h:lx K H q vs)(t:aE K H ds vs):zP K (Itt K q) (kh H) ds where
 go:=λ i d H1 s hi=>by obtain⟨v,h1,_⟩:=t.get hi;exact⟨vs,v,fN s h,h1⟩
 Br:=λ i d H1 H2 x s hi y=>by obtain⟨e,y⟩:=y;obtain⟨v,h1,h2⟩:=t.get hi;have:=y vs (fN s h);rw[h1]at this;cases this;subst e;exact⟨aH.refl _,h2.ups s⟩
 stop:=λ H1 s=>⟨vs,fN s h,by rw[t.length];exact o0 _⟩
theorem Kt{K:W.Frag}(h:∀H1,S H1->jw K H1 q vs)(t:∀H1,S H1->aE K H1 ds vs)(t0:aE K H ds vs):zP K (Itl K q) S ds where
 go:=λ i d H1 s hi=>by obtain⟨v,h1,_⟩:=t0.get hi;exact⟨vs,v,h H1 s,h1⟩
 Br:=λ i d H1 H2 x s hi y=>by obtain⟨e,y⟩:=y;obtain⟨v,h1,h2⟩:=(t H1 s).get hi;have:=y vs (h H1 s);rw[h1]at this;cases this;subst e;exact⟨aH.refl _,h2⟩
 stop:=λ H1 s=>⟨vs,h H1 s,by rw[t0.length];exact o0 _⟩
theorem ints_get(lo:Int)(n i:Nat)(d:Z.D)(h:(Z.zints lo n)[i]?=some d):i<n/\d=.int (lo+i):=by
 unfold Z.zints at h;rw[P3]at h;cases q:(List.range n)[i]? with
 |none=>rw[q]at h;cases h
 |some j=>rw[q]at h;cases h;obtain⟨h1,h2⟩:=A02.mp q;rw[A94]at h1;rw[B21]at h2;subst h2;exact⟨h1,rfl⟩
theorem B9{K:W.Frag}(lo:Int)(n:Nat):zP K (Mi lo n) S (Z.zints lo n) where
 go:=λ i d H1 s hi=>(ints_get lo n i d hi).1
 Br:=λ i d H1 H2 x s hi y=>by obtain⟨e,y⟩:=y;obtain⟨_,rfl⟩:=ints_get lo n i d hi;subst e;rw[y];exact⟨aH.refl _,cP⟩
 stop:=λ H1 s=>by unfold Z.zints;rw[A03,A94];exact o0 _
theorem C4{K:W.Frag}(it:δ)(lo:Int)(n:Nat):Turn P w K tg (Mi lo n) [it] it (λ i h=>IsLongIter h it (lo+(i)*1) ((n)-(i)) 1) where
 mem:=by simp
 obj:=λ i h st b hb=>by
  have e:b=it:=by simpa using hb
  subst e;exact⟨_,st,λ v z=>by have z':=z;cases z'⟩
 keep:=λ i h h' st k=>k it (by simp) _ st
 item:=by intro X hP hw hK hc i χ s σ H E I hf st hg;subst hP hw hK;obtain⟨f0,f1,f2,f3,f4,f5⟩:=hf it (by simp);have W:=Walks.longrange (prog:=X.prog) (w:=X.w) (I.ok.hd hc) it lo 1 n;refine W.item i s _ _ hg st λ v h' tk hv uz kk=>?_;obtain⟨t,rfl⟩:=hv;have I1:Inv X χ σ H {s with heap:=h',toks:=tk}:=I.turned (λ b o hb e=>kk b o (by simpa using hb) e) f0 f1 f3 f4 f5;refine⟨_,rfl,uU uz rfl rfl (by decide) ⟨.int _,H,I1,⟨t,?_⟩,⟨rfl,rfl⟩,uz,λ b hb=>(hf b hb).1⟩⟩;rw[Int.mul_one]
 done:=by intro X hP hw hK hc i χ s σ H E I hf st hg;subst hP hw hK;obtain⟨f0,f1,f2,f3,f4,f5⟩:=hf it (by simp);exact wpAny_pyNext_long_end (I.ok.hd hc) st (by have:n<=i:=hg;lia) λ h' eb=>⟨rfl,I.turned (λ b o hb e=>eb b o hb e) f0 f1 f3 f4 f5⟩
 self:=λ _ _ _ _ _ st h=>wpAny_pyIter_longiter st h
theorem range_any{lo hi:Int}{t u v:Tok}{tk:Nat}(I:Inv X χ σ H s)
  (q:R (Mi lo (hi-lo).toNat) H):wpAny (model X.prog X.w) X.A (pyIter (.ref s.heap.objs.size)) (Ud X χ σ tg R) E {s with heap:=s.heap.push {cls:=.type "range",data:=.fields #[.int lo t,.int hi u,.int 1 v]},toks:=tk}:=by
 have I1:Inv X χ σ H {s with heap:=s.heap.push {cls:=.type "range",data:=.fields #[.int lo t,.int hi u,.int 1 v]},toks:=tk}:=I.kept λ b o e=>W1 _ e;have e1:lo+((0:Nat):Int)*1=lo:=by simp
 have e2:(((hi-lo).toNat:Nat):Int)-((0:Nat):Int)=Builtin.Range.rangeSize lo hi 1:=by rw[rangeSize_one];split<;>lia
 cases hs:Builtin.Range.small lo hi 1 with
 |true=>
  refine wpAny_pyIter_range (IsRange.new ..) hs ?_;refine⟨(s.heap.push {cls:=.type "range",data:=.fields #[.int lo t,.int hi u,.int 1 v]}).objs.size,[(s.heap.push {cls:=.type "range",data:=.fields #[.int lo t,.int hi u,.int 1 v]}).objs.size],_,_,H,rfl,
   I1.kept (t':=tk) λ b o e=>W1 _ e,z? _ lo (hi-lo).toNat,?_,λ b hb=>?_,q⟩
  ·show IsRangeIter _ _ (lo+((0:Nat):Int)*1) ((((hi-lo).toNat:Nat):Int)-((0:Nat):Int)) 1;rw[e1,e2];exact A11 _ rfl
  ·have e:b=(s.heap.push {cls:=.type "range",data:=.fields #[.int lo t,.int hi u,.int 1 v]}).objs.size:=by simpa using hb
   subst e;exact I1.qy (o0 _) (I1.cC.fresh (o0 _))
 |false=>
  refine wpAny_pyIter_longrange (IsRange.new ..) hs ?_;refine⟨(s.heap.push {cls:=.type "range",data:=.fields #[.int lo t,.int hi u,.int 1 v]}).objs.size,[(s.heap.push {cls:=.type "range",data:=.fields #[.int lo t,.int hi u,.int 1 v]}).objs.size],_,_,H,rfl,
   I1.kept (t':=tk) λ b o e=>W1 _ e,C4 _ lo (hi-lo).toNat,?_,λ b hb=>?_,q⟩
  ·show IsLongIter _ _ (lo+((0:Nat):Int)*1) ((((hi-lo).toNat:Nat):Int)-((0:Nat):Int)) 1;rw[e1,e2];exact A11 _ rfl
  ·have e:b=(s.heap.push {cls:=.type "range",data:=.fields #[.int lo t,.int hi u,.int 1 v]}).objs.size:=by simpa using hb
   subst e;exact I1.qy (o0 _) (I1.cC.fresh (o0 _))
def T!(ta:TA):TI:=λ σ H R=>ta σ H λ vs H1=>∃j:Int,vs=[.int j]/\R (Mi 0 j.toNat) H1
def T9(ta:TA):TI:=λ σ H R=>ta σ H λ vs H1=>∃i j:Int,vs=[.int i,.int j]/\R (Mi i (j-i).toNat) H1
theorem Jz(hg:Gl X "range")(hm:X.mg "range"=none)(ha:PA X [a] ta)(hs:starEach [a] X.env=[(false,eval a X.env)]:=by rfl):PI X tg (.Call (.Name "range" p) [a] [] pos) (T! ta):=by
 intro χ s σ H R I h;refine Call_ (jV I hg hm boot_range (B03 (dB (ha pos χ s σ H _ I h) λ us s1 ⟨vs,H1,I1,r1,q1⟩=>?_) hs rfl));obtain⟨j,e,q⟩:=q1;subst e;cases r1 with
 |cons r rr=>cases rr;obtain⟨t,rfl⟩:=r;exact call_range_1 (range_any I1 (by simpa using q))
theorem Jy(hg:Gl X "range")(hm:X.mg "range"=none)(ha:PA X [a,b] ta)(hs:starEach [a,b] X.env=[(false,eval a X.env),(false,eval b X.env)]:=by rfl)(wq:starEach [b] X.env=[(false,eval b X.env)]:=by rfl):
  PI X tg (.Call (.Name "range" p) [a,b] [] pos) (T9 ta):=by
 intro χ s σ H R I h;refine Call_ (jV I hg hm boot_range (B03 (dB (ha pos χ s σ H _ I h) λ us s1 ⟨vs,H1,I1,r1,q1⟩=>?_) (by rw[hs,wq]) (by rw[wq];rfl)));obtain⟨i,j,e,q⟩:=q1;subst e;cases r1 with
 |cons r rr=>
  cases rr with
  |cons r' rr=>cases rr;obtain⟨t,rfl⟩:=r;obtain⟨t',rfl⟩:=r';exact call_range_2 (range_any I1 q)
theorem _root_.ZQ.cB(hm:X.mg "range"=none)(ha:ZQ.QE X a fa)(hs:starEach [a] X.env=[(false,eval a X.env)]:=by rfl)(ml:Se a [] X.env:=by rfl)(hg:Gl X "range":=by rfl):ZQ.QJ X tg (.Call (.Name "range" p) [a] [] pos) (Z.dP fa):=
 ⟨PI.imp (Jz hg hm (bF ha.p cI ml) hs) λ σ H R ⟨ρ,ds,r,e,k⟩=>by
  obtain⟨x,ea,e⟩:=Z.Res.ax e;refine⟨ρ,x,r,ea,λ v H1 s1 d1=>?_⟩;split at e
  ·rename_i j;cases e;simp only[Den]at d1;exact⟨j,by rw[d1],k _ H1 s1 (B9 0 _)⟩
  ·cases e⟩
theorem _root_.ZQ.sF(hm:X.mg "range"=none)(ha:ZQ.QE X a fa)(hb:ZQ.QE X b fb)(hs:starEach [a,b] X.env=[(false,eval a X.env),(false,eval b X.env)]:=by rfl)(wq:starEach [b] X.env=[(false,eval b X.env)]:=by rfl)(h1:Se a [b] X.env:=by rfl)(h2:Se b [] X.env:=by rfl)(hg:Gl X "range":=by rfl):ZQ.QJ X tg (.Call (.Name "range" p) [a,b] [] pos) (Z.uQ fa fb):=
 ⟨PI.imp (Jy hg hm (bF ha.p (bF hb.p cI h2) h1) hs wq) λ σ H R ⟨ρ,ds,r,e,k⟩=>by
  obtain⟨x,ea,e⟩:=Z.Res.ax e;obtain⟨y,eb,e⟩:=Z.Res.ax e;obtain⟨i,j,rfl,rfl,rfl⟩:∃i j,x=.int i/\y=.int j/\ds=Z.zints i (j-i).toNat:=by
   split at e
   ·cases e;exact⟨_,_,rfl,rfl,rfl⟩
   ·cases e
  refine⟨ρ,_,r,ea,λ v H1 s1 d1=>⟨ρ,_,r.up s1,eb,λ u H2 s2 d2=>?_⟩⟩;simp only[Den]at d1 d2;exact⟨i,j,by rw[d1,d2],k _ H2 (s1.trans s2) (B9 i (j-i).toNat)⟩⟩
def Its(z:Str):It:=⟨λ i _=>i<z.cps.size,λ i H x H'=>H'=H/\∃c,z.cps[i]?=some c/\x=.str ⟨#[c]⟩,λ i _=>i=z.cps.size⟩
theorem E4{K:W.Frag}(z:Str)(it:δ)(n:String)(hn:["enumerate","zip","dict_itemiterator","dict_reverseitemiterator","odict_iterator","itertools.zip_longest","itertools.pairwise"].contains n=false)(t:Tok)
  (W:∀A,A.handled=none->Walks P w A it [it] [it] z.cps.size (SignAt z) (λ i h=>h.IsStrIter it n z t i)) (self:∀A i s Q E,s.heap.IsStrIter it n z t i->Q (.ref it) s->wpAny (model P w) A (pyIter (.ref it)) Q E s) :
  Turn P w K tg (Its z) [it] it (λ i h=>h.IsStrIter it n z t i) where
 mem:=by simp
 obj:=λ i h st b hb=>by
  have e:b=it:=by simpa using hb
  subst e;obtain⟨o,e,c,d⟩:=st;exact⟨o,e,λ v z=>by rw[d]at z;cases z⟩
 keep:=λ i h h' st k=>by obtain⟨o,e,c,d⟩:=st;exact⟨o,k it (by simp) o e,c,d⟩
 item:=by intro X hP hw hK hc i χ s σ H E I hf st hg;subst hP hw hK;obtain⟨f0,f1,f2,f3,f4,f5⟩:=hf it (by simp);refine(W X.A (I.ok.hd hc)).item i s _ _ hg st λ v h' tk hv uz kk=>?_;obtain⟨c,u,VQ,rfl⟩:=hv;have I1:Inv X χ σ H {s with heap:=h',toks:=tk}:=I.turned (λ b o hb e=>kk b o (by simpa using hb) e) f0 f1 f3 f4 f5;obtain⟨o,e,c',d⟩:=id uz;exact⟨_,rfl,uU e c' d hn ⟨.str ⟨#[c]⟩,H,I1,⟨u,rfl⟩,⟨rfl,c,VQ,rfl⟩,uz,λ b hb=>(hf b hb).1⟩⟩
 done:=by intro X hP hw hK hc i χ s σ H E I hf st hg;subst hP hw hK;obtain⟨f0,f1,f2,f3,f4,f5⟩:=hf it (by simp);have PL:=hg;subst PL;exact(W X.A (I.ok.hd hc)).done s _ _ st λ h' tk kk=>⟨rfl,I.turned (λ b o hb e=>kk b o (by simpa using hb) e) f0 f1 f3 f4 f5⟩
 self:=self
theorem Ks{K:W.Frag}(cs:γ Nat):zP K (Its ⟨cs.toArray⟩) S (cs.map λ c=>.str [c]) where
 go:=λ i d H1 s hi=>by show i<cs.toArray.size;obtain⟨h1,_⟩:=A02.mp hi;simpa using h1
 Br:=λ i d H1 H2 x s hi y=>by
  obtain⟨e,c,hc,rfl⟩:=y;have xq:cs[i]?=some c:=by simpa using hc
  rw[P3,xq]at hi;cases hi;subst e;exact⟨aH.refl _,eI ⟩
 stop:=λ H1 s=>by show(cs.map λ c=>Z.D.str [c]).length=cs.toArray.size;simp
theorem Fp(I:Inv X χ σ H s)(rv:RelV v u)(hd:bU X.K H d v)(hi:Z.jD d=.ok ds)
  (hS:∀H1,S H1->kh H H1) (hL:∀es q vs,d=.lst es->v=.ref q->jw X.K H q vs->∀H1,S H1->jw X.K H1 q vs)
  (k:∀J,zP X.K J S ds->R J H):wpAny (model X.prog X.w) X.A (pyIter u) (Ud X χ σ tg R) E s:=by
 unfold Z.jD at hi;split at hi
 ·cases hi;obtain⟨q,vs,rfl,hq,t⟩:=hd.tup;cases rv;obtain⟨its,r',pl,hz⟩:=I.tuple hq;refine A97 (pl) ?_;refine⟨s.heap.objs.size,[s.heap.objs.size],_,_,H,rfl,I.kept λ b o e=>W1 _ e,z! q _,⟨_,A11 _ rfl,rfl,rfl⟩,λ b hb=>?_,k _ ((Kr hq t).imp hS)⟩;have e:b=s.heap.objs.size:=by simpa using hb
  subst e;exact I.qy (o0 _) (I.cC.fresh (o0 _))
 ·cases hi;obtain⟨q,vs,rfl,hq,t⟩:=hd.lst;cases rv;obtain⟨its,r',pl,hz⟩:=I.list hq;refine A98 pl.isList ?_;refine⟨s.heap.objs.size,[s.heap.objs.size],_,_,H,rfl,I.kept λ b o e=>W1 _ e,C5 q _,⟨_,A11 _ rfl,rfl,rfl⟩,λ b hb=>?_,
   k _ (Kt (λ H1 s1=>hL _ q vs rfl rfl hq H1 s1) (λ H1 s1=>t.ups (hS H1 s1)) t)⟩
  have e:b=s.heap.objs.size:=by simpa using hb
  subst e;exact I.qy (o0 _) (I.cC.fresh (o0 _))
 ·cases hi;rename_i cs;rw[hd.str]at rv;obtain⟨t,rfl⟩:=rv;have fin:∀n (hn:["enumerate","zip","dict_itemiterator","dict_reverseitemiterator","odict_iterator","itertools.zip_longest","itertools.pairwise"].contains n=false)
    (W:∀A,A.handled=none->Walks X.prog X.w A s.heap.objs.size [s.heap.objs.size] [s.heap.objs.size] (⟨cs.toArray⟩:Str).cps.size (SignAt ⟨cs.toArray⟩) (λ i h=>h.IsStrIter s.heap.objs.size n ⟨cs.toArray⟩ t i))
    (self:∀A i s' Q E,s'.heap.IsStrIter s.heap.objs.size n ⟨cs.toArray⟩ t i->Q (.ref s.heap.objs.size) s'->wpAny (model X.prog X.w) A (pyIter (.ref s.heap.objs.size)) Q E s'),
    Ud X χ σ tg R (.ref s.heap.objs.size) {s with heap:=s.heap.push {cls:=.type n,data:=.fields #[.str ⟨cs.toArray⟩ t,.int 0 0]}}:=by
   intro n hn W self;refine⟨s.heap.objs.size,[s.heap.objs.size],_,_,H,rfl,I.kept λ b o e=>W1 _ e,E4 ⟨cs.toArray⟩ _ n hn t W self,⟨_,A11 _ rfl,rfl,rfl⟩,λ b hb=>?_,k _ (Ks cs)⟩;have e:b=s.heap.objs.size:=by simpa using hb
   subst e;exact I.qy (o0 _) (I.cC.fresh (o0 _))
  cases ha:(⟨cs.toArray⟩:Str).cps.all (· < 128)
  ·exact wpAny_pyIter_wide ha (fin "str_iterator" (by decide) (λ A' hA=>Walks.strWide hA _ _ t) λ _ _ _ _ _ st hQ=>wpAny_pyIter_striter_wide st hQ)
  ·exact wpAny_pyIter_ascii ha (fin "str_ascii_iterator" (by decide) (λ A' hA=>Walks.strAscii hA _ _ t) λ _ _ _ _ _ st hQ=>wpAny_pyIter_striter_ascii st hQ)
 ·cases hi
theorem _root_.ZQ.c5(ha:ZQ.QW X a fa):ZQ.QI X tg a (Z.dh fa):=⟨by intro χ s σ H R I w;obtain⟨ρ,ds,r,e,k⟩:=w;obtain⟨d,ea,e⟩:=Z.Res.ax e;refine dB (ha.p χ s σ H (λ v H1=>aH H H1/\bU X.K H1 d v) I ⟨ρ,d,r,ea,λ v H1 s1 d1=>⟨s1,d1⟩⟩) ?_;rintro u s1 ⟨v,H1,I1,rv,sm,hd⟩;exact Fp I1 rv hd e (λ _ q=>o4 q) (λ _ _ _ _ _ hq H2 s2=>s2.seq hq) λ J z=>k J H1 sm z⟩
theorem _root_.ZQ.kP(ha:ZQ.QE X a fa):ZQ.QJ X tg a (Z.dh fa):=⟨by intro χ s σ H R I w;obtain⟨ρ,ds,r,e,k⟩:=w;obtain⟨d,ea,e⟩:=Z.Res.ax e;refine dB (ha.p χ s σ H (λ v H1=>aH H H1/\Den X.K H1 d v) I ⟨ρ,d,r,ea,λ v H1 s1 d1=>⟨s1,d1⟩⟩) ?_;rintro u s1 ⟨v,H1,I1,rv,sm,hd⟩;refine Fp I1 rv (.inl hd) e (λ _ q=>q) (λ es q vs e1 e2 hq H2 s2=>?_) λ J z=>k J H1 sm z;subst e1;simp only[Den]at hd;obtain⟨q',IQ,e3,hz,_⟩:=hd;rw[e2]at e3;cases e3;rw[I1.n6 hq hz.sq];exact(hz.mono s2).sq⟩
def lr(H0:Hp)(σ:St)(ρ:Z.Env):Prop:=(∀(i j:Nat)(ks ls:Z.DK)(a:δ),ρ[i]?=some (some (.dc ks))->ρ[j]?=some (some (.dc ls))->σ[i]?=some (some (.ref a))->σ[j]?=some (some (.ref a))->i=j) /\
 ∀(i:Nat)(ks:Z.DK)(q:δ),ρ[i]?=some (some (.dc ks))->σ[i]?=some (some (.ref q))->H0 q=none
theorem lr.non(h:∀(i:Nat)(ks:Z.DK),ρ[i]?≠some (some (.dc ks))):lr H0 σ ρ:=⟨λ i _ ks _ _ e=>absurd e (h i ks),λ i ks _ e=>absurd e (h i ks)⟩
structure RS(K:W.Frag)(H0 H:Hp)(σ:St)(ρ:Z.Env):Prop where
 same:aH H0 H
 re:RE K H σ ρ
 fresh:∀(i:Nat)(xs:List Z.D)(q:Addr),ρ[i]?=some (some (.own xs))->σ[i]?=some (some (.ref q))->H0 q=none
 pK:∀(i:Nat)(d:Z.D),ρ[i]?=some (some (.bor d))->∃v,σ[i]?=some (some v)/\vh K H0 d v
 wR:lr H0 σ ρ
def VT(K:W.Frag)(H0 H:Hp)(D:Ends):Z.Fl->Prop
 |.nx ρ'=>∀σ' H',kh H H'->RS K H0 H' σ' ρ'->D.nx σ' H'
 |.rt d=>∀v H',aH H0 H'->Den K H' d v->D.rt v H'
 |.bk ρ'=>∀σ' H',kh H H'->RS K H0 H' σ' ρ'->D.bk σ' H'
 |.ct ρ'=>∀σ' H',kh H H'->RS K H0 H' σ' ρ'->D.ct σ' H'
def tS(K:W.Frag)(H0:Hp)(g:Z.SF):TS:=λ D σ H=>∃ρ fl,RS K H0 H σ ρ/\g ρ=.ok fl/\VT K H0 H D fl
abbrev DS(X:Cx)(H0:Hp)(st:ν)(g:Z.SF):Prop:=PS X st (tS X.K H0 g)
structure _root_.ZQ.QS(X:Cx)(H0:Hp)(st:Stmt)(g:Z.SF):Prop where p:DS X H0 st g
abbrev O9(X:Cx)(H0:Hp)(st:γ ν)(g:Z.SF):Prop:=tD X st (tS X.K H0 g)
structure _root_.ZQ.CH(X:Cx)(H0:Hp)(st:List Stmt)(g:Z.SF):Prop where p:O9 X H0 st g
theorem PS.imp{st:ν}(h:PS X st t)(k:∀D σ H,t' D σ H->t D σ H):PS X st t':=λ χ s σ H D I w=>h χ s σ H D I (k D σ H w)
theorem tD.imp{st:γ ν}(h:tD X st t)(k:∀D σ H,t' D σ H->t D σ H):tD X st t':=λ χ s σ H D I w=>h χ s σ H D I (k D σ H w)
theorem RS.up{K:W.Frag}(h:RS K H0 H σ ρ)(e:aH H H'):RS K H0 H' σ ρ:=⟨h.same.trans e,h.re.up e,h.fresh,h.pK,h.wR⟩
theorem VT.up{K:W.Frag}(h:VT K H0 H D fl)(e:kh H H1):VT K H0 H1 D fl:=by
 cases fl with
 |nx ρ'=>exact λ σ' H' s r=>h σ' H' (e.trans s) r
 |rt d=>exact h
 |bk ρ'=>exact λ σ' H' s r=>h σ' H' (e.trans s) r
 |ct ρ'=>exact λ σ' H' s r=>h σ' H' (e.trans s) r
theorem aQ{α:Type}{l:γ _}{x:ε α}{y:α}(h:(l.set i x)[j]?=some (some y)):(i=j/\i<l.length/\x=some y)\/(i≠j/\l[j]?=some (some y)):=by
 by_cases D':i=j
 ·subst D';by_cases hl:i<l.length
  ·rw[A31 hl]at h;exact .inl ⟨rfl,hl,A04 h⟩
  ·rw[B49 (by simpa using hl)]at h;cases h
 ·rw[A52 D']at h;exact .inr ⟨D',h⟩
theorem lr.set(h:lr H0 σ ρ)(n:∀ks,l≠.dc ks):lr H0 (σ.set i (some v)) (ρ.set i (some l)):=by
 have get:∀(j:Nat) ks,(ρ.set i _)[j]?=some _->ρ[j]?=some _/\(σ.set i (some v))[j]?=σ[j]?:=λ j ks e=>by
  rcases aQ e with⟨_,_,e⟩|⟨hj,e⟩
  ·exact absurd (A04 e) (n ks)
  ·exact⟨e,A52 hj⟩
 exact⟨λ j k ks ls a e1 e2 e3 e4=>h.1 j k ks ls a (get j ks e1).1 (get k ls e2).1 (by rw[<-(get j ks e1).2];exact e3) (by rw[<-(get k ls e2).2];exact e4),λ j ks q e1 e2=>h.2 j ks q (get j ks e1).1 (by rw[<-(get j ks e1).2];exact e2)⟩
theorem lr.Qv(h:lr H0 σ ρ)(n:∀ks,l≠.dc ks):lr H0 σ (ρ.set i (some l)):=by
 have get:∀(j:Nat) ks,(ρ.set i _)[j]?=some _->ρ[j]?=some _:=λ j ks e=>by
  rcases aQ e with⟨_,_,e⟩|⟨hj,e⟩
  ·exact absurd (A04 e) (n ks)
  ·exact e
 exact⟨λ j k ks ls a e1 e2 e3 e4=>h.1 j k ks ls a (get j ks e1) (get k ls e2) e3 e4,λ j ks q e1 e2=>h.2 j ks q (get j ks e1) e2⟩
theorem RS.Jl{K:PySem.W.Frag}(h:RS K H0 H σ ρ)(hd:Den K H d v):RS K H0 H (σ.set i (some v)) (ρ.set i (some (.val d))):=by
 have getσ:∀j,i≠j->(σ.set i (some v))[j]?=σ[j]?:=λ j hj=>A52 hj;refine⟨h.same,⟨by simp[h.re.len],λ j l e=>?_,λ j k xs ys q e1 e2 e3 e4=>?_⟩,λ j xs q e1 e2=>?_,λ j xs e1=>?_,h.wR.set λ _ z=>nomatch z⟩
 ·rcases aQ e with⟨rfl,hl,e⟩|⟨hj,e⟩
  ·cases e;exact⟨v,A31 (by rw[<-h.re.len];exact hl),hd⟩
  ·rw[getσ j hj];exact h.re.get j l e
 ·rcases aQ e1 with⟨_,_,e⟩|⟨hj,e1⟩
  ·cases e
  ·rcases aQ e2 with⟨_,_,e⟩|⟨hk,e2⟩
   ·cases e
   ·rw[getσ j hj]at e3;rw[getσ k hk]at e4;exact h.re.sep j k xs ys q e1 e2 e3 e4
 ·rcases aQ e1 with⟨_,_,e⟩|⟨hj,e1⟩
  ·cases e
  ·rw[getσ j hj]at e2;exact h.fresh j xs q e1 e2
 ·rcases aQ e1 with⟨_,_,e⟩|⟨hj,e1⟩
  ·cases e
  ·rw[getσ j hj];exact h.pK j xs e1
theorem RS.Qw{K:PySem.W.Frag}(h:RS K H0 H σ ρ)(hq:H q=some (.lst vs))(t:aE K H ds vs)(h0:H0 q=none)
  (nq:∀j xs,j≠i->ρ[j]?=some (some (.own xs))->σ[j]?≠some (some (.ref q))):RS K H0 H (σ.set i (some (.ref q))) (ρ.set i (some (.own ds))):=by
 have getσ:∀j,i≠j->(σ.set i (some (V.ref q)))[j]?=σ[j]?:=λ j hj=>A52 hj;refine⟨h.same,⟨by simp[h.re.len],λ j l e=>?_,λ j k xs ys p e1 e2 e3 e4=>?_⟩,λ j xs p e1 e2=>?_,λ j xs e1=>?_,h.wR.set λ _ z=>nomatch z⟩
 ·rcases aQ e with⟨rfl,hl,e⟩|⟨hj,e⟩
  ·cases e;exact⟨_,A31 (by rw[<-h.re.len];exact hl),q,vs,rfl,hq,t⟩
  ·rw[getσ j hj];exact h.re.get j l e
 ·rcases aQ e1 with⟨rfl,hl,_⟩|⟨hj,e1⟩
  ·rcases aQ e2 with⟨rfl,_,_⟩|⟨hk,e2⟩
   ·rfl
   ·rw[A31 (by rw[<-h.re.len];exact hl)]at e3;cases e3;rw[getσ k hk]at e4;exact absurd e4 (nq k ys (A06 hk) e2)
  ·rcases aQ e2 with⟨rfl,hl,_⟩|⟨hk,e2⟩
   ·rw[A31 (by rw[<-h.re.len];exact hl)]at e4;cases e4;rw[getσ j hj]at e3;exact absurd e3 (nq j xs (A06 hj) e1)
   ·rw[getσ j hj]at e3;rw[getσ k hk]at e4;exact h.re.sep j k xs ys p e1 e2 e3 e4
 ·rcases aQ e1 with⟨rfl,hl,_⟩|⟨hj,e1⟩
  ·rw[A31 (by rw[<-h.re.len];exact hl)]at e2;cases e2;exact h0
  ·rw[getσ j hj]at e2;exact h.fresh j xs p e1 e2
 ·rcases aQ e1 with⟨_,_,e⟩|⟨hj,e1⟩
  ·cases e
  ·rw[getσ j hj];exact h.pK j xs e1
theorem RS.chg{K:PySem.W.Frag}(h:RS K H0 H σ ρ)(ei:ρ[i]?=some (some (.own xs)))(si:σ[i]?=some (some (.ref q)))(hq:H q=some (.lst us))(t:aE K H ds vs):
  RS K H0 (upd H q (.lst vs)) σ (ρ.set i (some (.own ds))):=by
 have st:kh H (upd H q (.lst vs)):=iQ hq;have h0:=h.fresh i xs q ei si;have hs:aH H0 (upd H q (.lst vs)):=λ b u e=>by rw[aV (b! e h0)];exact h.same b u e
 refine⟨hs,⟨by simp[h.re.len],λ j l e=>?_,λ j k Bs ys p e1 e2 e3 e4=>?_⟩,λ j Bs p e1 e2=>?_,λ j Bs e1=>?_,h.wR.Qv λ _ z=>nomatch z⟩
 ·rcases aQ e with⟨rfl,hl,e⟩|⟨hj,e⟩
  ·cases e;exact⟨.ref q,si,q,vs,rfl,bC,t.ups st⟩
  ·obtain⟨v,e1,r⟩:=h.re.get j l e;refine⟨v,e1,?_⟩;cases l with
   |val d=>exact Den.ups (r) st
   |own zs=>
    obtain⟨q',ws,rfl,iU,t'⟩:=r;have:q'≠q:=by rintro rfl;exact hj (h.re.sep i j xs zs q' ei e si e1)
    exact⟨q',ws,rfl,by rw[aV this];exact iU,t'.ups st⟩
   |bor zs=>obtain⟨v',e2,r2⟩:=h.pK j zs e;rw[e1]at e2;cases e2;exact r2.re r h.same hs st
   |dc ks=>
    obtain⟨q',as,rfl,iU,t'⟩:=r;have:q'≠q:=by rintro rfl;rw[hq]at iU;exact wZ (A04 iU).symm
    exact⟨q',as,rfl,by rw[aV this];exact iU,t'.ups st⟩
   |zO ks=>obtain⟨q',o',as,rfl,iU,t'⟩:=r;exact⟨q',o',as,rfl,st.fM _ _ _ iU,t'.ups st⟩
   |Ky ps=>obtain⟨q',o',rfl,iU⟩:=r;exact⟨q',o',rfl,st.fM _ _ _ iU⟩
   |exc c=>obtain⟨q',o',u',C',rfl,iU,r1,r2,r3⟩:=r;exact⟨q',o',u',C',rfl,st.fM _ _ _ iU,r1,r2,r3.ups st⟩
 ·have old:∀{j:Nat}{zs},(ρ.set i (some (Z.L.own ds)))[j]?=some (some (.own zs))->∃zs',ρ[j]?=some (some (.own zs')):=λ {j zs} e=>by
   rcases aQ e with⟨rfl,_,_⟩|⟨_,e⟩
   ·exact⟨xs,ei⟩
   ·exact⟨zs,e⟩
  obtain⟨_,o1⟩:=old e1;obtain⟨_,o2⟩:=old e2;exact h.re.sep j k _ _ p o1 o2 e3 e4
 ·rcases aQ e1 with⟨rfl,_,_⟩|⟨_,e1⟩
  ·exact h.fresh i xs p ei e2
  ·exact h.fresh j Bs p e1 e2
 ·rcases aQ e1 with⟨_,_,e⟩|⟨_,e1⟩
  ·cases e
  ·exact h.pK j Bs e1
theorem RS.fM{K:PySem.W.Frag}{H0 H:Hp}{σ:St}{ρ:Z.Env}{i:Nat}{xs:γ Z.D}{q:δ}{us:γ V}{o:ι}(h:RS K H0 H σ ρ)(ei:ρ[i]?=some (some (.own xs)))(si:σ[i]?=some (some (.ref q)))(hq:H q=some (.lst us))(t:aE K H xs us):
  RS K H0 (upd H q (.fM o (.lst us))) σ (ρ.set i (some (.val (.lst xs)))):=by
 have st:kh H (upd H q (.fM o (.lst us))):=iQ hq;have h0:=h.fresh i xs q ei si;have hs:aH H0 (upd H q (.fM o (.lst us))):=λ b u e=>by rw[aV (b! e h0)];exact h.same b u e
 refine⟨hs,⟨by simp[h.re.len],λ j l e=>?_,λ j k Bs ys p e1 e2 e3 e4=>?_⟩,λ j Bs p e1 e2=>?_,λ j Bs e1=>?_,h.wR.Qv λ _ z=>nomatch z⟩
 ·rcases aQ e with⟨rfl,hl,e⟩|⟨hj,e⟩
  ·cases e;exact⟨_,si,wU (.inl ⟨o,bC⟩) (t.ups st)⟩
  ·obtain⟨v,e1,r⟩:=h.re.get j l e;refine⟨v,e1,?_⟩;cases l with
   |val d=>exact Den.ups (r) st
   |own zs=>
    obtain⟨q',ws,rfl,iU,t'⟩:=r;have:q'≠q:=by rintro rfl;exact hj (h.re.sep i j xs zs q' ei e si e1)
    exact⟨q',ws,rfl,by rw[aV this];exact iU,t'.ups st⟩
   |bor zs=>obtain⟨v',e2,r2⟩:=h.pK j zs e;rw[e1]at e2;cases e2;exact r2.re r h.same hs st
   |dc ks=>
    obtain⟨q',as,rfl,iU,t'⟩:=r;have:q'≠q:=by rintro rfl;rw[hq]at iU;exact wZ (A04 iU).symm
    exact⟨q',as,rfl,by rw[aV this];exact iU,t'.ups st⟩
   |zO ks=>obtain⟨q',o',as,rfl,iU,t'⟩:=r;exact⟨q',o',as,rfl,st.fM _ _ _ iU,t'.ups st⟩
   |Ky ps=>obtain⟨q',o',rfl,iU⟩:=r;exact⟨q',o',rfl,st.fM _ _ _ iU⟩
   |exc c=>obtain⟨q',o',u',C',rfl,iU,r1,r2,r3⟩:=r;exact⟨q',o',u',C',rfl,st.fM _ _ _ iU,r1,r2,r3.ups st⟩
 ·rcases aQ e1 with⟨_,_,e⟩|⟨_,e1⟩
  ·cases e
  ·rcases aQ e2 with⟨_,_,e⟩|⟨_,e2⟩
   ·cases e
   ·exact h.re.sep j k _ _ p e1 e2 e3 e4
 ·rcases aQ e1 with⟨_,_,e⟩|⟨_,e1⟩
  ·cases e
  ·exact h.fresh j Bs p e1 e2
 ·rcases aQ e1 with⟨_,_,e⟩|⟨_,e1⟩
  ·cases e
  ·exact h.pK j Bs e1
variable {H0:Hp}{st:ν}{C6:γ ν}{g u:Z.SF}
theorem _root_.ZQ.aG:ZQ.CH X H0 [] Z.aT:=⟨tD.imp Js λ D σ H ⟨ρ,fl,rs,e,k⟩=>by cases e;exact k σ H (kh.refl H) rs⟩
theorem _root_.ZQ.ao(h:ZQ.QS X H0 st g):ZQ.CH X H0 [st] g:=⟨Jr h.p⟩
theorem _root_.ZQ.ah(h1:ZQ.QS X H0 st g)(h2:ZQ.CH X H0 C6 u):ZQ.CH X H0 (st::C6) (Z.ay g u):=⟨tD.imp (FI h1.p h2.p) λ D σ H ⟨ρ,fl,rs,e,k⟩=>by
 obtain⟨f1,e1,e⟩:=Z.Res.ax e;refine⟨ρ,f1,rs,e1,?_⟩;cases f1 with
 |nx ρ'=>exact λ σ' H' s r=>⟨ρ',fl,r,e,k.up s⟩
 |rt d=>cases e;exact k
 |bk ρ'=>cases e;exact k
 |ct ρ'=>cases e;exact k⟩
theorem _root_.ZQ.aA(h:ZQ.QE X a fa):ZQ.QS X H0 (.Return (some a) pos) (Z.aR fa):=⟨PS.imp (MT h.p) λ D σ H ⟨ρ,fl,rs,e,k⟩=>by obtain⟨d,ea,e⟩:=Z.Res.ax e;cases e;exact⟨ρ,d,rs.re,ea,λ v H' s dv=>k v H' (rs.same.trans s) dv⟩⟩
theorem _root_.ZQ.bb(hc:ZQ.QT X c t)(h1:ZQ.CH X H0 b1 g)(h2:ZQ.CH X H0 b2 u):ZQ.QS X H0 (.If c b1 b2 pos) (Z.d! t g u):=⟨PS.imp (Q2 hc.p h1.p h2.p) λ D σ H ⟨ρ,fl,rs,e,k⟩=>by
 obtain⟨x,ea,e⟩:=Z.Res.ax e;refine⟨ρ,x,rs.re,ea,λ H1 s1=>?_⟩;cases x with
 |true=>simp only[A20]at e ⊢;exact⟨ρ,fl,rs.up s1,e,k.up (o4 s1)⟩
 |false=>simp only[A45]at e ⊢;exact⟨ρ,fl,rs.up s1,e,k.up (o4 s1)⟩⟩
theorem _root_.ZQ.aC(he:ZQ.QE X a fa)(hs:swapsWith a (some (.Name x pos')) pos.line X.env=pure false:=by rfl)(hf:Fl X x:=by trivial)(hN:X.N.Nodup:=by first|assumption|exact B24 (by kernel_rfl))(hi:X.N[i]?=some x:=by rfl)(hx:Loc X.env.scope x:=by exact lo rfl):ZQ.QS X H0 (.Assign [.Name x pos'] a pos) (Z.aO i fa):=⟨PS.imp (Ak hN hi hx he.p hs hf) λ D σ H ⟨ρ,fl,rs,e,k⟩=>by obtain⟨d,ea,e⟩:=Z.Res.ax e;cases e;exact⟨ρ,d,rs.re,ea,λ v H' s dv=>k _ H' (o4 s) ((rs.up s).Jl dv)⟩⟩
theorem RS._z{K:W.Frag}(h:RS K H1 H σ ρ)(hq:H q=none)(j:Nat)(xs:γ Z.D)(e:ρ[j]?=some (some (.own xs))):σ[j]?≠some (some (.ref q)):=λ z=>by obtain⟨v,e1,q',vs,rfl,h2,_⟩:=h.re.get j _ e;rw[z]at e1;cases e1;rw[hq]at h2;cases h2
theorem _root_.ZQ.iy(he:ZQ.QL X a l)(hs:swapsWith a (some (.Name x pos')) pos.line X.env=pure false:=by rfl)(hf:Fl X x:=by trivial)(hN:X.N.Nodup:=by first|assumption|exact B24 (by kernel_rfl))(hi:X.N[i]?=some x:=by rfl)(hx:Loc X.env.scope x:=by exact lo rfl):ZQ.QS X H0 (.Assign [.Name x pos'] a pos) (Z.jQ i l):=⟨PS.imp (Ak hN hi hx he.p hs hf) λ D σ H ⟨ρ,fl,rs,e,k⟩=>by obtain⟨d,ea,e⟩:=Z.Res.ax e;cases e;refine⟨ρ,d,rs.re,ea,λ q vs H' s hn h1 t=>k _ H' (o4 s) ((rs.up s).Qw h1 t (rs.same.free hn) λ j xs _ e=>?_)⟩;exact rs._z hn j xs e⟩
def tG(K:W.Frag)(H0:Hp)(g:Z.GF):TG:=λ v σ H Q=>∃ρ d ρ',RS K H0 H σ ρ/\Den K H d v/\g d ρ=.ok ρ'/\∀σ' H',aH H H'->RS K H0 H' σ' ρ'->Q σ' H'
def tGs(K:W.Frag)(H0:Hp)(is:γ Nat):P5:=λ vs σ H Q=>∃ρ ds ρ',RS K H0 H σ ρ/\aE K H ds vs/\Z.sr is ds ρ=.ok ρ'/\∀σ' H',aH H H'->RS K H0 H' σ' ρ'->Q σ' H'
abbrev DG(X:Cx)(H0:Hp)(tg:θ)(g:Z.GF):Prop:=PG X tg (tG X.K H0 g)
structure _root_.ZQ.QG(X:Cx)(H0:Hp)(tg:Expr)(g:Z.GF):Prop where p:DG X H0 tg g
abbrev DGs(X:Cx)(H0:Hp)(Wk:γ θ)(is:γ Nat):Prop:=IG X Wk (tGs X.K H0 is)
structure _root_.ZQ.Wa(X:Cx)(H0:Hp)(Wk:List Expr)(is:List Nat):Prop where p:DGs X H0 Wk is
theorem PG.imp(h:PG X tg t)(k:∀v σ H Q,t' v σ H Q->t v σ H Q):PG X tg t':=λ χ s σ H v u Q I r w=>h χ s σ H v u Q I r (k v σ H Q w)
theorem IG.imp(h:IG X es t)(k:∀v σ H Q,t' v σ H Q->t v σ H Q):IG X es t':=λ χ s σ H v u Q I r w=>h χ s σ H v u Q I r (k v σ H Q w)
theorem _root_.ZQ.bI(hf:Fl X x:=by trivial)(hN:X.N.Nodup:=by first|assumption|exact B24 (by kernel_rfl))(hi:X.N[i]?=some x:=by rfl)(hx:Loc X.env.scope x:=by exact lo rfl):ZQ.QG X H0 (.Name x pos) (Z.aJ i):=
 ⟨PG.imp (BO hN hi hx hf) λ v σ H Q ⟨ρ,d,ρ',rs,hd,e,k⟩=>by cases e;exact k _ H (aH.refl H) (rs.Jl hd)⟩
theorem _root_.ZQ.fF:ZQ.Wa X H0 [] []:=⟨IG.imp JA λ vs σ H Q ⟨ρ,ds,ρ',rs,hd,e,k⟩=>by
 cases ds with
 |nil=>simp only[aE]at hd;cases e;exact⟨hd,k σ H (aH.refl H) rs⟩
 |cons d ds=>cases e⟩
theorem _root_.ZQ.a8(h2:ZQ.Wa X H0 es is)(hs:(assignEach ((.Name x pos)::es) X.env).map (·.2)=assign (.Name x pos) X.env::(assignEach es X.env).map (·.2):=by rfl)(hf:Fl X x:=by trivial)(hN:X.N.Nodup:=by first|assumption|exact B24 (by kernel_rfl))(hi:X.N[i]?=some x:=by rfl)(hx:Loc X.env.scope x:=by exact lo rfl):ZQ.Wa X H0 (.Name x pos::es) (i::is):=
 ⟨have h2:=h2.p;IG.imp (FP (BO hN hi hx hf) h2 hs) λ vs σ H Q ⟨ρ,ds,ρ',rs,hd,e,k⟩=>by
  cases ds with
  |nil=>cases e
  |cons d ds=>simp only[aE]at hd;obtain⟨v,r,rfl,h1,h2⟩:=hd;exact⟨v,r,rfl,_,ds,ρ',rs.Jl h1,h2,e,k⟩⟩
theorem _root_.ZQ.hV(hc:X.calm=true)(h:ZQ.Wa X H0 es is)(hl:is.length=n)(hn:(assignEach es X.env).length=n:=by rfl)(Iu:(assignEach es X.env).findIdx? (·.1)=none:=by rfl):ZQ.QG X H0 (.Tuple es x1 pos) (Z.fB is):=
 ⟨PG.imp (MX hc h.p hn Iu) λ v σ H Q ⟨ρ,d,ρ',rs,hd,e,k⟩=>by
  unfold Z.fB at e;split at e
  ·rename_i ds;obtain⟨q,vs,rfl,hq,t⟩:=bU.tup (.inl hd);have ψ:∀is ds ρ ρ',Z.sr is ds ρ=.ok ρ'->ds.length=is.length:=by
    intro is
    induction is with
    |nil=>intro ds ρ ρ' e;cases ds with
     |nil=>rfl
     |cons d ds=>cases e
    |cons i is ih=>intro ds ρ ρ' e;cases ds with
     |nil=>cases e
     |cons d ds=>simp[ih ds _ _ e]
   exact⟨q,vs,rfl,hq,by rw[t.length,ψ is ds ρ ρ' e];exact hl,ρ,ds,ρ',rs,t,e,k⟩
  ·cases e⟩
theorem _root_.ZQ.Hr{g:Z.GF}(he:ZQ.QE X a fa)(hg:ZQ.QG X H0 tg g)(hs:swapsWithSole [tg] a pos.line X.env=pure false:=by rfl)(hw:swappedStores [tg] a X.env=pure none:=by rfl)
  (h1:(assignEach [tg] X.env).map (·.2)=[assign tg X.env]:=by rfl):ZQ.QS X H0 (.Assign [tg] a pos) (Z.C! fa g):=⟨PS.imp (FL he.p hg.p hs hw h1) λ D σ H ⟨ρ,fl,rs,e,k⟩=>by
 obtain⟨d,ea,e⟩:=Z.Res.ax e;obtain⟨ρ',eb,e⟩:=Z.Res.ax e;cases e;exact⟨ρ,d,rs.re,ea,λ v H' s dv=>⟨ρ,d,ρ',rs.up s,dv,eb,λ σ2 H2 s2 r2=>k σ2 H2 ((o4 s).trans (o4 s2)) r2⟩⟩⟩
theorem _root_.ZQ.cq(hi:ZQ.QJ X tg iter it)(hg:ZQ.QG X H0 tg G)(hb:ZQ.CH X H0 body g)(hs:∀x,foldedSetIterable iter X.env x=pure x:=by intro _;rfl)(hp:PassesOwn (model X.prog X.w) X.A X.env X.xe:=by exact PassesOwn.never)(hc:X.calm=true:=by rfl):ZQ.QS X H0 (.For tg iter body [] pos) (Z.eZ it G g):=⟨PS.imp (MU hp hc hi.p hg.p hb.p hs) λ D σ H ⟨ρ,fl,rs,e,k⟩=>by
 obtain⟨ds,ei,e⟩:=Z.Res.ax e;refine⟨ρ,ds,rs.re,ei,λ J H1 s1 z=>?_⟩;refine⟨λ i m σ' H'=>m=ds.length-i/\i<=ds.length/\∃ρ',RS X.K H0 H' σ' ρ'/\kh H1 H'/\Z.iP G g (ds.drop i) ρ'=.ok fl,⟨ds.length,by simp,A51 _,ρ,rs.up s1,kh.refl H1,by simpa using e⟩,?_⟩;rintro i m σ2 H2 ⟨rfl,L8,ρ2,r2,s2,e2⟩;by_cases lN:i<ds.length
 ·obtain⟨d,hd⟩:∃d,ds[i]?=some d:=⟨ds[i],by simp[lN]⟩
  have sh:ds.drop i=d::ds.drop (i+1):=by
   rw[B25 lN];have:ds[i]=d:=by have:=A01 lN;rw[this]at hd;exact A04 hd
   rw[this]
  rw[sh]at e2;obtain⟨ρ3,eg,e2⟩:=Z.Res.ax e2;obtain⟨f3,eb,e2⟩:=Z.Res.ax e2;refine .inr ⟨z.go i d H2 s2 hd,λ σ' H'=>∃ρ',RS X.K H0 H' σ' ρ'/\kh H1 H'/\Z.iP G g _ ρ'=.ok fl,λ σ' H' w=>⟨_,by lia,rfl,lN,w⟩,λ x H3 y=>?_⟩;obtain⟨sy,dx⟩:=z.Br i d H2 H3 x s2 hd y;replace s2:=s2.trans (o4 sy);refine⟨ρ2,d,ρ3,r2.up sy,dx,eg,λ σ4 H4 s4' r4=>⟨ρ3,f3,r4,eb,?_⟩⟩;have s4:=o4 s4';cases f3 with
  |nx ρ5=>exact λ σ5 H5 s5 r5=>⟨ρ5,r5,(s2.trans s4).trans s5,e2⟩
  |ct ρ5=>exact λ σ5 H5 s5 r5=>⟨ρ5,r5,(s2.trans s4).trans s5,e2⟩
  |bk ρ5=>cases e2;exact λ σ5 H5 s5 r5=>k σ5 H5 ((o4 s1).trans ((s2.trans s4).trans s5)) r5
  |rt d5=>cases e2;exact k
 ·have:i=ds.length:=by lia
  subst this;rw[B84]at e2;cases e2;exact .inl ⟨z.stop H2 s2,k σ2 H2 ((o4 s1).trans s2) r2⟩⟩
theorem _root_.ZQ.qP(h:ZQ.CH X H0 C6 g):ZQ.CH X H0 C6 (Z.vM i g):=⟨by
 have h:=h.p;intro χ s σ H D I w;obtain⟨ρ,fl,rs,e,k⟩:=w;unfold Z.vM Z.fM at e;split at e
 ·rename_i xs ei;obtain⟨v,si,q,us,rfl,hq,t⟩:=rs.re.get i _ ei;obtain⟨o,I2⟩:=m7 I hq;exact h χ s σ _ D I2 ⟨_,fl,rs.fM ei si hq t,e,k.up (iQ hq)⟩
 ·exact h χ s σ H D I ⟨ρ,fl,rs,e,k⟩⟩
theorem Ek(ho:PE X o (oX i))(ha:DE X a fa)(hs:swapsWith (.Call (.Attribute o "append" p1) [a] [] p2) none pos.line X.env=pure false:=by rfl)(ml:Se a [] X.env:=by rfl)
  (YM:PE X (.Call (.Attribute o "append" p1) [a] [] p2) (Wx X.K "list" BL (oX i) (Fd (tZ X.K fa) MC))) :
  DS X H0 (.Expr (.Call (.Attribute o "append" p1) [a] [] p2) pos) (Z.dC i fa):=PS.imp (BM YM hs) λ D σ H ⟨ρ,fl,rs,e,k⟩=>by
 obtain⟨d,ea,e⟩:=Z.Res.ax e;split at e
 ·rename_i xs ei;unfold Z.guard at e;split at e
  ·rename_i hl;cases e;obtain⟨v,si,q,us,rfl,hq,t⟩:=rs.re.get i _ ei;refine⟨_,si,.inl ⟨rfl,us,jw.of hq⟩,ρ,d,rs.re,ea,λ v' H1 s1 dv=>?_⟩;have NU:=s1 _ _ hq;refine⟨q,us,v',rfl,rfl,NU,by rw[t.length,A29];exact hl,?_⟩;exact k σ _ ((o4 s1).trans (iQ NU)) ((rs.up s1).chg ei si NU ((t.up s1).append (aE.cons dv aE.nil)))
  ·cases e
 ·cases e
theorem Ov(hk:DE X kx fk)(ha:DE X a fa)(m8:PG X (.Subscript o kx p1) (S7 (oX i) (tZ X.K fk) LR))(hs:swapsWithSole [.Subscript o kx p1] a pos.line X.env=pure false:=by rfl)(hw:swappedStores [.Subscript o kx p1] a X.env=pure none:=by rfl)
  (h1:(assignEach [.Subscript o kx p1] X.env).map (·.2)=[assign (.Subscript o kx p1) X.env]:=by rfl):DS X H0 (.Assign [.Subscript o kx p1] a pos) (Z.vK i fk fa):=PS.imp (FL ha m8 hs hw h1) λ D σ H ⟨ρ,fl,rs,e,k⟩=>by
 obtain⟨d,ea,e⟩:=Z.Res.ax e;obtain⟨z,ek,e⟩:=Z.Res.ax e;split at e
 ·rename_i z xs ei;split at e
  ·rename_i j hj;cases e;obtain⟨v,si,q,us,rfl,hq,t⟩:=rs.re.get i _ ei;refine⟨ρ,d,rs.re,ea,λ v' H1 s1 dv=>⟨_,si,ρ,_,rs.re.up s1,ek,λ w H2 s2 dw=>?_⟩⟩;have D8:=s2 _ _ (s1 _ _ hq);simp only[Den]at dw;refine⟨q,us,z,j,rfl,dw,D8,by rw[t.length];exact hj,?_⟩;have Jn:=s1.trans s2;exact k σ _ ((o4 Jn).trans (iQ D8)) ((rs.up Jn).chg ei si D8 ((t.up Jn).set j (dv.up s2)))
  ·cases e
 ·cases e
end
theorem nj:∀(names:γ (Str×NameKind)) acc,(∀y∈names,y.2=.free->∃c,env.cells.lookup y.1=some c)->(∀x c,acc.lookup x=some c->env.cells.lookup x=some c) ->
  ∃cl,(forIn names acc λ(x) (cs:γ (Str×δ))=>(if(x.2==NameKind.free)=true then do let c ←cellOf env x.1;pure (ForInStep.yield ((x.1,c)::cs))else pure (ForInStep.yield cs):Sem (ForInStep (γ (Str×δ)))))=pure cl /\
   (∀x c,cl.lookup x=some c->env.cells.lookup x=some c)/\(∀x,(acc.lookup x).isSome=true->(cl.lookup x).isSome=true)/\(∀y∈names,y.2=.free->(cl.lookup y.1).isSome=true)
 |[],acc,_,ha=>⟨acc,rfl,ha,λ _ h=>h,λ y hy=>by cases hy⟩
 |(n,k)::r,acc,hn,ha=>by
  by_cases hk:k=.free
  ·subst hk;obtain⟨c,hc⟩:=hn (n,.free) A12 rfl;have ha':∀x d,((n,c)::acc).lookup x=some d->env.cells.lookup x=some d:=λ x d e=>by
    rw[A82]at e;split at e
    ·rename_i q;cases e;rw[A74.mp q];exact hc
    ·exact ha x d e
   obtain⟨cl,e,h1,h2,h3⟩:=nj r ((n,c)::acc) (λ y hy=>hn y (A09 _ hy)) ha';have self:=h2 n (by rw[B26];rfl);refine⟨cl,?_,h1,λ x hx=>h2 x ?_,λ y hy hf=>?_⟩
   ·rw[B50];simp only[B48,A20];have:cellOf env n=pure c:=by unfold cellOf;rw[hc]
    rw[this];exact e
   ·rw[A82];split
    ·rfl
    ·exact hx
   ·rcases v6.mp hy with rfl|hy
    ·exact self
    ·exact h3 y hy hf
  ·obtain⟨cl,e,h1,h2,h3⟩:=nj r acc (λ y hy=>hn y (A09 _ hy)) ha;have hb:(k==NameKind.free)=false:=by simpa using hk
   refine⟨cl,?_,h1,h2,λ y hy hf=>?_⟩
   ·rw[B50];simp only[hb,A45,A65];exact e
   ·rcases v6.mp hy with rfl|hy
    ·exact absurd hf hk
    ·exact h3 y hy hf
theorem jW(hn:∀y∈scope.names,y.2=.free->∃c,env.cells.lookup y.1=some c):
  ∃cl,closureFor scope env=pure cl/\(∀x c,cl.lookup x=some c->env.cells.lookup x=some c)/\(∀y∈scope.names,y.2=.free->(cl.lookup y.1).isSome=true):=by
 obtain⟨cl,e,h1,_,h3⟩:=nj _ [] hn (λ x c e=>by cases e);refine⟨cl,?_,h1,h3⟩;unfold closureFor
 first
  |exact e
  |(simp only[bind_pure];exact e)
  |(rw[e];rfl)
theorem jg{env:Env}{x:Str}:∀(names:γ _),(names.map λ(n,k)=>if(k == NameKind.free&&env.scope.kind == .function&&env.kindOf n == some .cell)=true then(n,NameKind.cell)else(n,k)).lookup x=(names.lookup x).map λ k=>if(k == NameKind.free&&env.scope.kind == .function&&env.kindOf x == some .cell)=true then NameKind.cell else k
 |[]=>rfl
 |(n,k)::r=>by
  have ih:=@jg env x r;show List.lookup x ((if(k==NameKind.free&&env.scope.kind==.function&&env.kindOf n==some .cell)=true then(n,NameKind.cell)else(n,k))::_)=_;by_cases hx:x=n
  ·subst hx;by_cases hc:(k==NameKind.free&&env.scope.kind==.function&&env.kindOf x==some .cell)=true
   ·rw[M2 hc,B26,B26,A83,M2 hc]
   ·rw[f8 hc,B26,B26,A83,f8 hc]
  ·have hb:(x==n)=false:=by simpa using hx
   by_cases hc:(k==NameKind.free&&env.scope.kind==.function&&env.kindOf n==some .cell)=true
   ·rw[M2 hc,A82,A82,hb];exact ih
   ·rw[f8 hc,A82,A82,hb];exact ih
abbrev mq(X:Cx)(N':γ Str)(scope:ς)(cl:γ (Str×δ))(C:δ)(fp:γ δ)(s₂:η)(H₂:Hp):Cx:=
 {prog:=X.prog,w:=X.w,K:=X.K,mg:=X.mg,base:=X.base,A:=X.A,N:=N',s₀:=s₂,H₀:=H₂,env:=compEnvC scope cl C X.env,outer:=X.stack,stack:=X.stack,ex:=fp,fn:=λ _=>false,calm:=X.calm,pn:=[],xe:=λ _ _=>False}
structure qF(N N':List Str)(n:Nat)(is:List Nat)(sc M7:Scope):Prop where
 kind:sc.kind=.function
 cell:∀y∈sc.names,y.2≠.cell
 loc:∀y∈sc.names,y.2=.local->sc.names.lookup y.1=some .local
 free:∀y∈sc.names,y.2=.free->M7.names.lookup y.1=some .cell\/M7.names.lookup y.1=some .free
 len:N'.length=n+is.length
 cap:∀(j i:Nat),is[j]?=some i->∃x,N'[n+j]?=some x/\N[i]?=some x/\sc.names.lookup x=some .free
 own:∀(j:Nat),j<n->∃x,N'[j]?=some x/\sc.names.lookup x=some .local
section
variable {X:Cx}{tg e a b elt iter:θ}{ifs:γ θ}{pos:Pos}{N':γ Str}{n:Nat}{is:γ Nat}{scope:ς}
def mU(σ:St)(n:Nat)(is:γ Nat):St:=List.replicate n none++is.map λ i=>(σ[i]?).join
theorem gq(n:Nat)(is:γ Nat)(ρ:Z.Env)(i:Nat)(xs:γ Z.D):(List.replicate n none++Z.fL ρ is:Z.Env)[i]?≠some (some (.own xs)):=by
 intro e;by_cases hi:i<n
 ·rw[A44 (by simpa using hi),A64]at e;split at e<;>cases e
 ·rw[A54 (by simpa using hi)]at e;unfold Z.fL at e;rw[P3]at e;cases q:is[i-(List.replicate n (none)).length]? with
  |none=>rw[q]at e;cases e
  |some j=>rw[q]at e;have e':=A04 e;unfold Z.sR at e';split at e'<;>cases e'
theorem pJ(n:Nat)(is:γ Nat)(ρ:Z.Env)(i:Nat)(ks:Z.DK):(List.replicate n none++Z.fL ρ is:Z.Env)[i]?≠some (some (.dc ks)):=by
 intro e;by_cases hi:i<n
 ·rw[A44 (by simpa using hi),A64]at e;split at e<;>cases e
 ·rw[A54 (by simpa using hi)]at e;unfold Z.fL at e;rw[P3]at e;cases q:is[i-(List.replicate n (none)).length]? with
  |none=>rw[q]at e;cases e
  |some j=>rw[q]at e;have e':=A04 e;unfold Z.sR at e';split at e'<;>cases e'
theorem FD{K:PySem.W.Frag}(h:RE K H σ ρ)(s:aH H H'):RS K H H' (mU σ n is) (List.replicate n none++Z.fL ρ is):=by
 have key:∀(i:Nat) l,(List.replicate n none++Z.fL ρ is)[i]?=some (some l)->∃v,(mU σ n is)[i]?=some (some v)/\RL K H l v:=?_;refine⟨s,⟨by simp[mU,Z.fL],λ i l e=>let ⟨v,h1,h2⟩:=key i l e;⟨v,h1,h2.up s⟩,λ i j xs ys q e1=>absurd e1 (gq n is ρ i xs)⟩,λ i xs q e1=>absurd e1 (gq n is ρ i xs),λ i xs e1=>let ⟨v,h1,h2⟩:=key i _ e1;⟨v,h1,l9.z h2⟩,lr.non (pJ n is ρ)⟩;intro i l e;by_cases hi:i<n
 ·rw[A44 (by simpa using hi),A64]at e;split at e<;>cases e
 ·rw[A54 (by simpa using hi)]at e;unfold mU;rw[A54 (by simpa using hi)];simp only[B18]at e ⊢;unfold Z.fL at e;rw[P3]at e ⊢;cases q:is[i-n]? with
  |none=>rw[q]at e;cases e
  |some j=>
   rw[q]at e;have e':=A04 e;unfold Z.sR at e';split at e'
   ·rename_i d hd;cases e';obtain⟨v,h1,h2⟩:=h.get j _ hd;refine⟨v,?_,h2⟩;simp[h1]
   ·rename_i d hd;cases e';obtain⟨v,h1,h2⟩:=h.get j _ hd;refine⟨v,?_,h2⟩;simp[h1]
   ·rename_i d hd;cases e';obtain⟨v,h1,h2⟩:=h.get j _ hd;refine⟨v,?_,h2⟩;simp[h1]
   ·cases e'
theorem mC(I:Nat->η->Prop)
  (turn:∀ n s,I n s->wpAny (model prog w) A (pyNext it) (λ r s₁=>match r with
   |none=>R (.ok .next) s₁
   | some v=>wpAny (model prog w) A (letOwnedTupleGo target it v) (λ _ s₁=>wpAny (model prog w) A (assign target env v) (λ _ s₂=>
     wpAny (model prog w) A (forIn ifs true λ c r=>if r=true then do let ok ←isTrue c env (eval c env);pure (ForInStep.yield ok)else pure (ForInStep.yield r)) (λ ok s₃=>
      if ok=true then wpAny (model prog w) A (eval elt env) (λ x s₄=>wpAny (model prog w) A (call (.builtin "list.append") [acc,x]) (λ _ s₅=>∃m,m<n/\I m s₅) (λ _ _=>False) s₄) (λ _ _=>False) s₃
      else ∃m,m<n/\I m s₃) (λ _ _=>False) s₂) (λ _ _=>False) s₁) (λ _ _=>False) s₁) (λ _ _=>False) s)
  (n:Nat) (h:I n s) :
  codeAny (model prog w) A (.compLoop (.ListComp elt [⟨target,iter,ifs,0⟩] scope pos) 0 it acc env) R s:=by
 refine codeAny_loop rfl I (λ n s hI=>?_) n h;refine wpAny_noted ?_;rw[compTurn_list];refine T0 (wpAny_standAt (T0 (A26 (turn n s hI) (λ r s₁ h₁=>?_) λ _ _ h'=>h'.elim)));cases r with
 |none=>exact v0 h₁
 |some v=>
  refine T0 (A26 h₁ (λ _ s₁ h₁=>?_) λ _ _ h'=>h'.elim);refine T0 (A26 h₁ (λ _ s₂ h₂=>T0 (A26 h₂ (λ ok s₃ h₃=>?_) λ _ _ h'=>h'.elim)) λ _ _ h'=>h'.elim);cases ok with
  |false=>exact v0 ⟨rfl,h₃⟩
  |true=>exact T0 (T0 (A26 h₃ (λ x s₄ h₄=>T0 (A26 h₄ (λ _ s₅ h₅=>v0 (v0 ⟨rfl,h₅⟩)) λ _ _ h'=>h'.elim)) λ _ _ h'=>h'.elim))
structure Off(X:Cx)(χ:List (Addr×Obj))(H:Hp)(C:Addr):Prop where
 free:H C=none
 loc:C≠X.env.locals
 new:X.s₀.heap.objs.size<=C
 cell:∀x c,X.env.cells.lookup x=some c->c≠C
 pin:∀p∈X.pn++χ,p.1≠C
theorem Off.inv(o:Off X χ H C)(I:Inv X χ σ H s)(hs:Heap.SameBut C s.heap h'):Inv X χ σ H {s with heap:=h'}:=
 I.turned (λ b ob hb e=>(hs.2 b hb).trans e) o.free o.loc (.inr o.new) o.cell o.pin
def V_(X:Cx)(χ:γ (δ×ι))(σ:St)(H₂:Hp)(ys:γ Z.D)(acc:ζ)(C:δ)(s':η):Prop:=
 ∃D H' vs m,acc=.ref D/\s'.heap.Ns C m/\Inv X χ σ H' s'/\Off X χ H' C/\H₂ D=none/\aH H₂ H'/\H' D=some (.lst vs)/\aE X.K H' ys vs
theorem HN{it:δ}{fp:γ δ}{tn:Nat->μ->Prop}{J:It}{χ:γ (δ×ι)}{σ:St}{ρ:Z.Env}{H₂:Hp}{s₂:η}{E:ζ->η->Prop}{cl:γ (Str×δ)}{G:Z.GF}{t:Z.TF}{fe:Z.EF}{ds ys:γ Z.D}
  (hcalm:X.calm=true) (B:qF X.N N' n is scope X.env.scope) (I2:Inv X χ σ H₂ s₂) (T:Turn X.prog X.w X.K tg J fp it tn) (Qs:tn 0 s₂.heap) (fo:∀b∈fp,oN X χ H₂ b) (z:zP X.K J (aH H₂) ds) (re:RE X.K H₂ σ ρ)
  (jy:∀x c,cl.lookup x=some c->X.env.cells.lookup x=some c) (sj:∀y∈scope.names,y.2=.free->(cl.lookup y.1).isSome=true)
  (hG:∀d ρ ρ1,G d ρ=.ok ρ1->ρ1.length=ρ.length/\∀i,n<=i->ρ1[i]?=ρ[i]?)
  (hg:∀C s H H0,DG (mq X N' scope cl C fp s H) H0 tg G)
  (ht:∀ C s s' H uC (σ':St) (H':Hp) (Q:Bool->Hp->Prop),Inv (mq X N' scope cl C fp s H) uC σ' H' s'->Qf X.K t σ' H' Q ->
   wpAny (model X.prog X.w) X.A (forIn ifs true λ c r=>if r=true then do let ok ←isTrue c (compEnvC scope cl C X.env) (eval c (compEnvC scope cl C X.env));pure (ForInStep.yield ok)else pure (ForInStep.yield r)) (TP (mq X N' scope cl C fp s H) uC σ' Q) (λ _ _=>False) s')
  (he:∀C s H,DE (mq X N' scope cl C fp s H) elt fe) (ψ:ds.length<=Z.line) (ego:Z.a9 G t fe (List.replicate n none++Z.fL ρ is) ds=.ok ys) :
  wpAny (model X.prog X.w) X.A (newList []) (λ acc s₃=>wpAny (model X.prog X.w) X.A (newFunctionEnv scope X.env.globals cl [] X.env.qual none .none (some X.env)) (λ OJ s₄=>codeAny (model X.prog X.w) X.A (.compStart (.ListComp elt [⟨tg,iter,ifs,0⟩] scope pos) 0 (.ref it) acc {OJ with scope:=relabel scope X.env}) (λ r s'=>r=.ok .next/\V_ X χ σ H₂ ys acc OJ.locals s') s₄) E s₃) E s₂:=by
 refine A55 (wpAny_newFunctionEnv B.cell (by intro y hy;simp at hy) (λ h₁ KD GV=>?_) B.kind);dsimp only at KD GV ⊢;generalize G4:s₂.heap.push {cls:=.type "list",dict:=none,data:=.seq ([]:γ ζ).toArray}=HH at KD GV ⊢;have hC:HH.objs.size=s₂.heap.objs.size+1:=by rw[<-G4,A58]
 have VS:s₂.heap.objs.size≠HH.objs.size:=by rw[hC];exact A10 (A71 _)
 have below:∀b,b<s₂.heap.objs.size->b≠HH.objs.size/\b≠s₂.heap.objs.size:=λ b hb=>⟨by rw[hC];exact A10 (B27 hb),A10 hb⟩
 have old:∀b o,s₂.heap.get? b=some o->h₁.get? b=some o:=λ b o e=>GV.extBut b o (below b (A00 e)).1 (W1 _ (G4▸W1 _ e));have S0:h₁.get? s₂.heap.objs.size=some {cls:=.type "list",data:=.seq ([]:γ ζ).toArray}:=GV.extBut _ _ VS (W1 _ (G4▸A11 _ rfl));have fpo:∀b∈fp,∃o,s₂.heap.get? b=some o/\∀v,o.data≠.cell v:=T.obj 0 _ Qs;have Of:∀b∈fp,b<s₂.heap.objs.size:=λ b hb=>let ⟨_,e,_⟩:=fpo b hb;A00 e;generalize hD:s₂.heap.objs.size=D at VS below old S0 hC ⊢;generalize hCC:HH.objs.size=C at KD GV VS below hC ⊢;have IA:H₂ D=none:=I2.cC.fresh (by rw[hD];exact o0 _);have hCn:H₂ C=none:=I2.cC.fresh (by rw[hD,hC];exact A84 _)
 -- MA V5 context is in order
 have ok:(mq X N' scope cl C fp s₂ H₂).Ok:=by
  refine⟨I2.ok.mod,B.kind,I2.ok.glob,I2.ok.blt,by show s₂.heap.objs.size<=C;rw[hD,hC];exact A84 _,λ x y c e1 e2=>I2.ok.inj x y c (jy x c e1) (jy y c e2),λ x hx=>?_,λ x c hf=>(by cases hf),I2.ok.hd,I2.ok.frames,.inl rfl,
   λ b hb=>⟨(below b (by rw[<-hD];exact Of b hb)).1,λ x c e=>(fo b hb).2.2.2.2.1 x c (jy x c e)⟩,I2.bs,A16 I2.ok.IF I2.sz,λ b o e hb=>?_,λ b hb z=>?_,I2.stack,I2.qG⟩
  ·have EK:(relabel scope X.env).names.lookup x=some .cell\/(relabel scope X.env).names.lookup x=some .free:=hx;have e:=jg (env:=X.env) (x:=x) scope.names;have e':(relabel scope X.env).names.lookup x=_:=e;rw[e']at EK;cases q:scope.names.lookup x with
   |none=>rw[q]at EK;rcases EK with h|h<;>cases h
   |some k=>
    have hm:=A72 q;have hk:k=.free:=by
     rw[q]at EK;simp only[A83]at EK;by_cases hc:(k==NameKind.free&&X.env.scope.kind==.function&&X.env.kindOf x==some .cell)=true
     ·rw[A40,A40]at hc;exact A74.mp hc.1.1
     ·rw[f8 hc]at EK;rcases EK with h|h
      ·exact absurd (A04 h) (B.cell _ hm)
      ·exact A04 h
    subst hk;exact A91.mp (sj _ hm rfl)
  ·rcases(fo b hb).2.2.2.1 with q|q
   ·exact I2.ok.Dw b o e q
   ·exact absurd (A17 (A00 (I2.ok.bs b o e).1) q) (A79 _)
  ·rcases v6.mp (I2.oZ b z)with q|q
   ·exact(fo b hb).2.1 q
   ·exact(fo b hb).2.2.1 q
 have Hd:l8 X.prog X.w (upd H₂ D (.lst [])) h₁:=I2.cC.laid old (by rw[hD];exact o0 _) ⟨A51 _,[],_,.nil,S0⟩;have ne2:∀b,b<s₂.heap.objs.size->b≠D:=λ b hb=>by rw[<-hD];exact A10 hb
 have sP:∀x c,X.env.cells.lookup x=some c->c<s₂.heap.objs.size/\∀v,s₂.heap.IsCell c v->h₁.IsCell c v:=λ x c e=>by obtain⟨v,o,ho,hd⟩:=I2.cell x c e;exact⟨A00 ho,λ v' ⟨o',mM,pq⟩=>⟨o',old c o' mM,pq⟩⟩
 have I4:Inv (mq X N' scope cl C fp s₂ H₂) [] (mU σ n is) (upd H₂ D (.lst [])) {s₂ with heap:=h₁,toks:=s₂.toks+([]:γ (Str×ζ)).length}:=by
  refine⟨ok,rfl,I2.bare,Un.laid old (by rw[hD];exact o0 _) IA,⟨_,KD,λ i x v e1 e2 e3=>?_⟩,λ x c e=>?_,by show upd H₂ D (.lst []) C=none;rw[aV (A06 VS)];exact hCn,λ x c e=>?_,λ p hp=>absurd (show p∈([]:γ (δ×ι))from hp) (by simp),Hd,by simp[mU,B.len],I2.tab.up λ b u _ e=>by rw[aV (b! e IA)];exact e⟩
  ·unfold mU at e2;by_cases hi:i<n
   ·rw[A44 (by simpa using hi),A64]at e2;split at e2<;>cases e2
   ·rw [A54 (by simpa using hi),P3] at e2;simp only[B18]at e2;cases q:is[i-n]? with
    |none=>rw[q]at e2;cases e2
    |some j=>
     rw[q]at e2;simp only[A83]at e2;obtain⟨x',c1,c2,c3⟩:=B.cap (i-n) j q;have PJ:n+(i-n)=i:=by lia
     rw[PJ]at c1;have ID:N'[i]?=some x:=e1;rw[c1]at ID;cases ID;have hσ:σ[j]?=some (some v):=by
      cases r:σ[j]? with
      |none=>rw[r]at e2;cases e2
      |some y=>
       rw[r]at e2;have:y=some v:=by simpa using e2
       rw[this]
     obtain⟨m,hn,hl⟩:=I2.loc;have hm:=A72 c3;have hk:=B.free _ hm rfl;have NP:Mh X.env.scope x:=by
      rcases hk with k|k
      ·exact .inr (.inl k)
      ·exact .inr (.inr k)
     obtain⟨u,ru,lk⟩:=hl j x v c2 hσ NP;refine⟨u,ru,?_⟩;rcases lk with⟨k1,_⟩|⟨k1,c,hc,p9⟩
     ·have Ko:X.env.scope.names.lookup x=some .local:=k1;rcases hk with k|k
      ·rw[k]at Ko;cases Ko
      ·rw[k]at Ko;cases Ko
     ·obtain⟨c',xq⟩:=A91.mp (sj _ hm rfl);have:c'=c:=by have:=jy x c' xq;rw[hc]at this;exact(A04 this).symm
      subst this;refine .inr ⟨?_,c',xq,(sP x c' hc).2 _ p9⟩;show(relabel scope X.env).names.lookup x=some .cell\/(relabel scope X.env).names.lookup x=some .free;have e:=jg (env:=X.env) (x:=x) scope.names;have e':(relabel scope X.env).names.lookup x=_:=e;rw[e',c3];simp only[A83];split
      ·exact .inl rfl
      ·exact .inr rfl
  ·obtain⟨v,hv⟩:=I2.cell x c (jy x c e);exact⟨v,(sP x c (jy x c e)).2 v hv⟩
  ·have lN:=(sP x c (jy x c e)).1;rw[aV (ne2 c lN)];exact I2.jE x c (jy x c e)
 have rs4:RS X.K H₂ (upd H₂ D (.lst [])) (mU σ n is) (List.replicate n none++Z.fL ρ is):=FD re (cA IA);have _l:tn 0 h₁:=T.keep 0 _ _ Qs λ b hb o e=>old b o e;have fr4:∀b∈fp,(upd H₂ D (.lst [])) b=none:=λ b hb=>by rw[aV (ne2 b (Of b hb))];exact(fo b hb).1
 -- Wh stays true of MA AK objects
 have Ab:∀{H'},(∀b∈fp,H' b=none)->∀b∈fp,oN (mq X N' scope cl C fp s₂ H₂) [] H' b:=λ hn b hb=>by
  refine⟨hn b hb,(below b (by rw[<-hD];exact Of b hb)).1,?_,.inl hb,λ x c e=>(fo b hb).2.2.2.2.1 x c (jy x c e),λ p hp=>absurd (show p∈([]:γ (δ×ι))from hp) (by simp)⟩;intro q;rcases v6.mp (I2.oZ b q)with q|q
  ·exact(fo b hb).2.1 q
  ·exact(fo b hb).2.2.1 q
 have loop:codeAny (model X.prog X.w) X.A (.compLoop (.ListComp elt [⟨tg,iter,ifs,0⟩] scope pos) 0 (.ref it) (.ref D) (compEnvC scope cl C X.env)) (λ r s'=>r=.ok .next/\V_ X χ σ H₂ ys (.ref D) C s')
   {s₂ with heap:=h₁,toks:=s₂.toks+([]:γ (Str×ζ)).length}:=by
  refine mC (λ m s'=>∃i σ' H' vs zs,m=ds.length+1-i/\i<=ds.length/\vs.length<=i/\Inv (mq X N' scope cl C fp s₂ H₂) [] σ' H' s'/\tn i s'.heap/\(∀b∈fp,H' b=none)/\H' D=some (.lst vs)/\aH H₂ H' /\
   RS X.K H₂ H' σ' (List.replicate n none++Z.fL ρ is)/\(∃rest,Z.a9 G t fe (List.replicate n none++Z.fL ρ is) (ds.drop i)=.ok rest/\zs++rest=ys)/\aE X.K H' zs vs) ?_ (ds.length+1)
   ⟨0,mU σ n is,_,[],[],rfl,A51 _,o0 _,I4,_l,fr4,bC,cA IA,rs4,⟨ys,by simpa using ego,rfl⟩,aE.nil⟩
  ·rintro m s' ⟨i,σ3,H3,vs,zs,rfl,L8,hvl,I3,Fh,Ta,N_,Ae,W3,⟨rest,er,ez⟩,dz⟩;by_cases lN:i<ds.length
   ·obtain⟨d,hd⟩:∃d,ds[i]?=some d:=⟨ds[i],by simp[lN]⟩
    have sh:ds.drop i=d::ds.drop (i+1):=by
     rw[B25 lN];have:ds[i]=d:=by have:=A01 lN;rw[this]at hd;exact A04 hd
     rw[this]
    rw[sh]at er;unfold Z.a9 at er;obtain⟨ρ1,eg,er⟩:=Z.Res.ax er;obtain⟨c1,ec,er⟩:=Z.Res.ax er;refine dB (T.item (mq X N' scope cl C fp s₂ H₂) rfl rfl rfl hcalm i [] s' σ3 H3 (λ _ _=>False) I3 (Ab Ta) Fh (z.go i d H3 Ae hd)) λ r s4 ⟨u,hr,h4⟩=>?_;subst hr;refine dB h4 λ _ s5 ⟨x,H5,I5,r5,y5,vG,Y9⟩=>?_;obtain⟨sy,dx⟩:=z.Br i d H3 H5 x Ae hd y5;replace W3:=W3.up sy;replace Ae:=Ae.trans sy;replace N_:=sy _ _ N_;replace dz:=dz.up sy;have Z4:=I5.pinned (Ab Y9) (T.obj _ _ vG);have rs5:RS X.K H₂ H5 σ3 (List.replicate n none++Z.fL ρ is):=W3;refine dB (hg C s₂ H₂ H₂ _ s5 σ3 H5 x u (λ σ6 H6=>aH H5 H6/\RS X.K H₂ H6 σ6 ρ1) Z4 r5 ⟨_,d,ρ1,rs5,dx,eg,λ σ' H' s' r'=>⟨s',r'⟩⟩) λ _ s6 ⟨σ6,H6,I6,sm6,UY⟩=>?_;refine dB (ht C s₂ s6 H₂ _ σ6 H6 (λ b H7=>b=c1/\aH H6 H7) I6 ⟨ρ1,c1,UY.re,ec,λ H7 s7=>⟨rfl,s7⟩⟩) λ ok s7 ⟨H7,I7,e7,WG⟩=>?_;subst e7;have Fj:aH H5 H7:=sm6.trans WG;have W2:RE X.K H7 σ6 ρ1:=UY.re.up WG;have _q:∀{H9},aH H7 H9->RS X.K H₂ H9 σ6 (List.replicate n none++Z.fL ρ is):=λ {H9} s9=>by
     obtain⟨gl,gk⟩:=hG d _ ρ1 eg;refine⟨(UY.same.trans WG).trans s9,⟨by rw[<-gl];exact W2.len,λ j l e=>?_,λ j k xs ys q e1=>absurd e1 (gq n is ρ j xs)⟩,λ j xs q e1=>absurd e1 (gq n is ρ j xs),λ j xs e=>?_,lr.non (pJ n is ρ)⟩;rotate_left
     ·by_cases hj:n<=j
      ·rw[<-gk j hj]at e;exact UY.pK j xs e
      ·rw[A44 (by simp;lia),A64]at e;split at e<;>cases e
     by_cases hj:n<=j
     ·rw[<-gk j hj]at e;exact(W2.up s9).get j l e
     ·rw[A44 (by simp;lia),A64]at e;split at e<;>cases e
    have fin:∀{H9}{s9} P? Uq,Inv (mq X N' scope cl C fp s₂ H₂) ([]++rK fp s5.heap) σ6 H9 s9->H9 D=some (.lst P?)->P?.length<=i+1->aH H₂ H9->RS X.K H₂ H9 σ6 (List.replicate n none++Z.fL ρ is) ->
      (∃ rest,Z.a9 G t fe (List.replicate n none++Z.fL ρ is) (ds.drop (i+1))=.ok rest/\Uq++rest=ys)->aE X.K H9 Uq P?->∃ m,m<ds.length+1-i/\∃ i σ' H' vs zs,m=ds.length+1-i/\i<=ds.length/\vs.length<=i/\Inv (mq X N' scope cl C fp s₂ H₂) [] σ' H' s9/\tn i s9.heap/\(∀ b∈fp,H' b=none)/\H' D=some (.lst vs)/\aH H₂ H' /\
       RS X.K H₂ H' σ' (List.replicate n none++Z.fL ρ is)/\(∃rest,Z.a9 G t fe (List.replicate n none++Z.fL ρ is) (ds.drop i)=.ok rest/\zs++rest=ys)/\aE X.K H' zs vs:=by
     intro H9 s9 P? Uq I9 hD9 hv9 Qt re9 er9 dz9;refine⟨ds.length+1-(i+1),by lia,i+1,σ6,H9,P?,Uq,rfl,lN,hv9,I9.nM,T.keep _ _ _ vG λ b hb o e=>(I9.pin (b,o) (A39 _ (A39 _ (kD hb e)))).1,λ b hb=>?_,hD9,Qt,re9,er9,dz9⟩;obtain⟨o,e,_⟩:=T.obj _ _ vG b hb;exact(I9.pin (b,o) (A39 _ (A39 _ (kD hb e)))).2.1
    have hD7:H7 D=some (.lst vs):=Fj _ _ N_;cases ok with
    |false=>simp only[A45,A65]at er ⊢;exact fin vs zs I7 hD7 (Nat.le_succ_of_le hvl) (Ae.trans Fj) (_q (aH.refl _)) ⟨rest,er,ez⟩ (dz.up Fj)
    |true=>
     simp only[A20]at er ⊢;obtain⟨y,ey,er⟩:=Z.Res.ax er;obtain⟨QM,er2,er⟩:=Z.Res.ax er;cases er;refine dB (he C s₂ H₂ _ s7 σ6 H7 (λ v H8=>aH H7 H8/\Den X.K H8 y v) I7 ⟨ρ1,y,W2,ey,λ v H8 s8 d8=>⟨s8,d8⟩⟩) λ u8 s8 ⟨v8,H8,I8,rv8,UI,dy⟩=>?_;have hD8:H8 D=some (.lst vs):=UI _ _ hD7;have WH:aH H₂ H8:=(Ae.trans Fj).trans UI;refine dB (uI (X:=mq X N' scope cl C fp s₂ H₂) _ s8 σ6 H8 (.ref D) [v8] (.ref D) [u8] (λ v H9=>v=.non/\H9=upd H8 D (.lst (vs++[v8]))) I8 rfl (.cons rv8 .nil) ⟨D,vs,v8,rfl,rfl,hD8,?_,rfl,rfl⟩) λ _ s9 ⟨v9,H9,I9,_,_,e9⟩=>?_
     ·rw[A29];have:Z.line=16777216:=rfl;lia
     subst e9;have LN:kh H8 (upd H8 D (.lst (vs++[v8]))):=iQ hD8;have Qt:aH H₂ (upd H8 D (.lst (vs++[v8]))):=λ b o e=>by rw[aV (b! e IA)];exact WH b o e
     have Pe:=_q UI;refine fin (vs++[v8]) (zs++[y]) I9 bC (by simp;lia) Qt ⟨Qt,⟨Pe.re.len,λ j l e=>?_,λ j k xs ys q e1=>absurd e1 (gq n is ρ j xs)⟩,λ j xs q e1=>absurd e1 (gq n is ρ j xs),Pe.pK,Pe.wR⟩ ⟨QM,er2,by rw[A69];exact ez⟩ ((((dz.up Fj).up UI).append (aE.cons dy aE.nil)).ups LN);obtain⟨v,h1,h2⟩:=Pe.re.get j l e;refine⟨v,h1,?_⟩;cases l with
     |val dd=>exact Den.ups (show Den X.K H8 dd v from h2) LN
     |own xs=>exact absurd e (gq n is ρ j xs)
     |bor xs=>obtain⟨v',h3,h4⟩:=Pe.pK j xs e;rw[h1]at h3;cases h3;exact h4.re h2 Pe.same Qt LN
     |dc ks=>exact absurd e (pJ n is ρ j ks)
     |zO ks=>obtain⟨q',o',as,rfl,iU,t'⟩:=h2;exact⟨q',o',as,rfl,LN.fM _ _ _ iU,t'.ups LN⟩
     |Ky ps=>obtain⟨q',o',rfl,iU⟩:=h2;exact⟨q',o',rfl,LN.fM _ _ _ iU⟩
     |exc c=>obtain⟨q',o',u',C',rfl,iU,r1,r2,r3⟩:=h2;exact⟨q',o',u',C',rfl,LN.fM _ _ _ iU,r1,r2,r3.ups LN⟩
   ·have:i=ds.length:=by lia
    subst this;rw[B84]at er;cases er;rw[A87]at ez;subst ez;refine dB (T.done (mq X N' scope cl C fp s₂ H₂) rfl rfl rfl hcalm _ [] s' σ3 H3 (λ _ _=>False) I3 (Ab Ta) Fh (z.stop H3 Ae)) λ r s4 ⟨hr,J4⟩=>?_;subst hr;obtain⟨m',Iw,_⟩:=J4.loc;have Gf:∀b o,s₂.heap.get? b=some o->b≠C:=λ b o e=>(below b (by rw[<-hD];exact A00 e)).1;have I9:Inv X χ σ H3 s4:=I2.Mc (s':=s4) J4.os J4.base J4.cC J4.bare λ b hb=>⟨(fo b hb).2.2.2.1,(fo b hb).2.1,(fo b hb).2.2.2.2.1,(fo b hb).2.2.2.2.2⟩
    have WB:s₂.heap.objs.size<=C:=by rw[hD,hC];exact A84 _
    refine⟨rfl,D,H3,vs,m',rfl,Iw,I9,⟨J4.free,?_,A16 I2.sz WB,λ x c e=>?_,λ p hp=>?_⟩,IA,Ae,N_,dz⟩
    ·exact A48 (A17 I2.lt WB)
    ·exact A10 (A17 (sP x c e).1 WB)
    ·exact Gf p.1 p.2 (I2.pin p hp).1
 have Iu:codeAny (model X.prog X.w) X.A (.compStart (.ListComp elt [⟨tg,iter,ifs,0⟩] scope pos) 0 (.ref it) (.ref D) (compEnvC scope cl C X.env)) (λ r s'=>r=.ok .next/\V_ X χ σ H₂ ys (.ref D) C s')
   {s₂ with heap:=h₁,toks:=s₂.toks+([]:γ (Str×ζ)).length}:=codeAny_compStart_list loop (T.self _ 0 _ _ _ _l loop)
 exact Iu
theorem eF(h:k<n)(d:Z.D)(ρ ρ1:Z.Env)(e:Z.aJ k d ρ=.ok ρ1):ρ1.length=ρ.length/\∀i,n<=i->ρ1[i]?=ρ[i]?:=by cases e;exact⟨by simp,λ i hi=>A52 (by lia)⟩
theorem p!:∀ks,(∀k∈ks,k<n)->∀ds ρ ρ1,Z.sr ks ds ρ=.ok ρ1->ρ1.length=ρ.length/\∀i,n<=i->ρ1[i]?=ρ[i]?
 |[],_,[],ρ,ρ1,e=>by cases e;exact⟨rfl,λ _ _=>rfl⟩
 |[],_,_::_,_,_,e=>by cases e
 |_::_,_,[],_,_,e=>by cases e
 |k::ks,h,d::ds,ρ,ρ1,e=>by obtain⟨h1,h2⟩:=p! ks (λ k hk=>h k (A09 _ hk)) ds _ ρ1 e;refine⟨by rw[h1];simp,λ i hi=>?_⟩;rw[h2 i hi];have:=h k A12;exact A52 (by lia)
theorem j7(h:∀k∈ks,k<n)(d:Z.D)(ρ ρ1:Z.Env)(e:Z.fB ks d ρ=.ok ρ1):ρ1.length=ρ.length/\∀i,n<=i->ρ1[i]?=ρ[i]?:=by
 unfold Z.fB at e;split at e
 ·exact p! ks h _ ρ ρ1 e
 ·cases e
def T?(X:Cx)(ifs:γ θ)(t:Z.TF):Prop:=∀(χ:γ (δ×ι))(s:η)(σ:St)(H:Hp)(Q:Bool->Hp->Prop),Inv X χ σ H s->Qf X.K t σ H Q ->
 wpAny (model X.prog X.w) X.A (forIn ifs true λ c r=>if r=true then do let ok ←isTrue c X.env (eval c X.env);pure (ForInStep.yield ok)else pure (ForInStep.yield r)) (TP X χ σ Q) X.xe s
structure _root_.ZQ.Ia(X:Cx)(ifs:List Expr)(t:Z.TF):Prop where p:T? X ifs t
theorem _root_.ZQ.oW:ZQ.Ia X [] Z.bD:=⟨λ χ s σ H Q I ⟨ρ,b,r,e,k⟩=>by cases e;exact wpAny_tests_nil ⟨H,I,k H (aH.refl H)⟩⟩
theorem _root_.ZQ.fU(h:ZQ.QT X c t):ZQ.Ia X [c] t:=⟨λ χ s σ H Q I w=>wpAny_tests_one (h.p χ s σ H Q I w)⟩
theorem zq(hcalm:X.calm=true)(hi:DI X tg iter it)(B:qF X.N N' n is scope X.env.scope)
  (hG:∀d ρ ρ1,G d ρ=.ok ρ1->ρ1.length=ρ.length/\∀i,n<=i->ρ1[i]?=ρ[i]?)
  (hg:∀cl C fp s H H0,DG (mq X N' scope cl C fp s H) H0 tg G) (ht:∀cl C fp s H,T? (mq X N' scope cl C fp s H) ifs t) (he:∀cl C fp s H,DE (mq X N' scope cl C fp s H) elt fe)
  (hs:∀x,foldedSetIterable iter X.env x=pure x)
  (I:Inv X χ σ H s) (re:RE X.K H σ ρ) (ec:Z.bK it n is G t fe ρ=.ok ys)
  (fin:∀acc C s' H₂,aH H H₂->V_ X χ σ H₂ ys acc C s'->compPost (model X.prog X.w) X.A X.xe use Q acc C (.ok .next) s') :
  wpAny (model X.prog X.w) X.A (comprehension (.ListComp elt [⟨tg,iter,ifs,0⟩] scope pos) scope X.env ps (newList []) false (eval iter X.env) use) Q X.xe s:=by
 obtain⟨ds,ei,ec⟩:=Z.Res.ax ec;unfold Z.guard at ec;split at ec
 ·rename_i ψ;have p8:∀y∈scope.names,y.2=.free->∃c,X.env.cells.lookup y.1=some c:=λ y hy hf=>I.ok.has y.1 (B.free y hy hf);obtain⟨cl,uS,jy,sj⟩:=jW p8;refine wpAny_comprehension_free rfl hs uS B.kind B.loc ?_;refine dB (hi χ s σ H (λ J H₂=>aH H H₂/\zP X.K J _ ds) I ⟨ρ,ds,re,ei,λ J H' s' z=>⟨s',z⟩⟩) λ x s₁ h₁=>?_;refine dB h₁ λ XZ s₂ ⟨it',fp,tn,J,H₂,e2,I2,T,Qs,fo,sm,z⟩=>?_;subst e2;refine dB (HN (iter:=iter) (pos:=pos) hcalm B I2 T Qs fo z (re.up sm) jy sj hG (λ C s H H0=>hg cl C fp s H H0) (λ C s s' H' uC σ' P7 Q' I' w=>ht cl C fp s H' uC s' σ' P7 Q' I' w) (λ C s H=>he cl C fp s H) ψ ec) λ acc s₃ h₃=>?_;refine dB h₃ λ OJ s₄ h₄=>B44 h₄ λ r s' ⟨er,QQ⟩=>?_;subst er;exact fin acc _ s' H₂ sm QQ
 ·cases ec
theorem _root_.ZQ.bu(hi:ZQ.QI X tg iter it)(he:∀{cl C fp s H},ZQ.QE (mq X N' scope cl C fp s H) elt fe)(ht:∀{cl C fp s H},ZQ.Ia (mq X N' scope cl C fp s H) ifs t:=by exact oW)(hg:∀{cl C fp s H H0},ZQ.QG (mq X N' scope cl C fp s H) H0 tg G:=by exact bI)(hcalm:X.calm=true:=by rfl)(B:qF X.N N' n is scope X.env.scope:=by exact ZS.qF.of (by kernel_rfl))(hG:∀d ρ ρ1,G d ρ=.ok ρ1->ρ1.length=ρ.length/\∀i,n<=i->ρ1[i]?=ρ[i]?:=by exact ZS.eF (by decide))(hs:∀x,foldedSetIterable iter X.env x=pure x:=by intro _;rfl):ZQ.QL X (.ListComp elt [⟨tg,iter,ifs,0⟩] scope pos) (Z.bK it n is G t fe):=⟨by have hg:∀cl C fp s H H0,DG (mq X N' scope cl C fp s H) H0 tg G:=λ _ _ _ _ _ _=>hg.p;have ht:∀cl C fp s H,T? (mq X N' scope cl C fp s H) ifs t:=λ _ _ _ _ _=>ht.p;have he:∀cl C fp s H,DE (mq X N' scope cl C fp s H) elt fe:=λ _ _ _ _ _=>he.p;intro χ s σ H Q I w;obtain⟨ρ,ys,re,e,k⟩:=w;rw[eval_ListComp];refine zq hcalm hi.p B hG hg ht he hs I re e λ acc C s' H₂ sm QQ=>?_;obtain⟨D,H',vs,m,rfl,KI,I',off,IA,O?,hD,dz⟩:=QQ;exact⟨m,KI,λ h' zN=>⟨.ref D,H',off.inv I' zN,rfl,k D vs H' (sm.trans O?) (sm.free IA) hD dz⟩⟩⟩
theorem HM(hcalm:X.calm=true)(hN:X.N.Nodup)(hix:X.N[i]?=some x)(hx:Loc X.env.scope x)
  (hsw:swapsWith (.ListComp elt [⟨tg,iter,ifs,0⟩] scope pos) (some (.Name x px)) Ac.line X.env=pure true) (hi:DI X tg iter it) (B:qF X.N N' n is scope X.env.scope) (hG:∀d ρ ρ1,G d ρ=.ok ρ1->ρ1.length=ρ.length/\∀i,n<=i->ρ1[i]?=ρ[i]?)
  (hg:∀cl C fp s H H0,DG (mq X N' scope cl C fp s H) H0 tg G) (ht:∀cl C fp s H,T? (mq X N' scope cl C fp s H) ifs t) (he:∀cl C fp s H,DE (mq X N' scope cl C fp s H) elt fe)
  (hs:∀x,foldedSetIterable iter X.env x=pure x) (hf:X.fn x=true\/X.env.scope.names.lookup x=some .local) (I:Inv X χ σ H s) (re:RE X.K H σ ρ) (e:Z.bK it n is G t fe ρ=.ok ys)
  (k:∀q vs H',aH H H'->H q=none->H' q=some (.lst vs)->aE X.K H' ys vs->∃P7,(∀s',Inv X χ (σ.set i (some (.ref q))) H' s'->Inv X χ (σ.set i (some (.ref q))) P7 s')/\D.nx (σ.set i (some (.ref q))) P7) :
  wpAny (model X.prog X.w) X.A (exec (.Assign [.Name x px] (.ListComp elt [⟨tg,iter,ifs,0⟩] scope pos) Ac) X.env) (SP X χ D) X.xe s:=by
 rw[exec_Assign_Name_used _ _ _ _ hsw];refine T0 (wpAny_standAt (T0 ?_));refine T0 (A26 (zq hcalm hi B hG hg ht he hs I re e λ acc C s' H₂ sm QQ=>?_) (λ _ s' hq=>v0 (v0 hq)) λ _ _ e=>e);obtain⟨q,H',vs,m,rfl,KI,I',off,IA,O?,hD,dz⟩:=QQ;obtain⟨P7,hI,hnx⟩:=k q vs H' (sm.trans O?) (sm.free IA) hD dz;refine wpAny_assign_Name (uw I' hN hix hx (v:=.ref q) rfl (λ Pb I'' ⟨⟨a,sb,ha⟩,_⟩=>?_) hf);have hCa:C≠a:=by
  rcases ha with rfl|ha
  ·exact off.loc
  ·exact λ z=>off.cell x a ha z.symm
 refine⟨m,KI.sameBut sb hCa,λ h' zN=>⟨_,P7,?_,hnx⟩⟩;exact hI _ (off.inv I'' zN)
theorem qQ(hcalm:X.calm=true)(hN:X.N.Nodup)(hix:X.N[i]?=some x)(hx:Loc X.env.scope x)
  (hi:DI X tg iter it) (B:qF X.N N' n is scope X.env.scope) (hG:∀d ρ ρ1,G d ρ=.ok ρ1->ρ1.length=ρ.length/\∀i,n<=i->ρ1[i]?=ρ[i]?)
  (hg:∀cl C fp s H H0,DG (mq X N' scope cl C fp s H) H0 tg G) (ht:∀cl C fp s H,T? (mq X N' scope cl C fp s H) ifs t) (he:∀cl C fp s H,DE (mq X N' scope cl C fp s H) elt fe)
  (hsw:swapsWith (.ListComp elt [⟨tg,iter,ifs,0⟩] scope pos) (some (.Name x px)) Ac.line X.env=pure true:=by rfl)
  (hs:∀x,foldedSetIterable iter X.env x=pure x:=by intro _;rfl) (hf:Fl X x:=by trivial) :
  DS X H0 (.Assign [.Name x px] (.ListComp elt [⟨tg,iter,ifs,0⟩] scope pos) Ac) (Z.jQ i (Z.bK it n is G t fe)):=by
 intro χ s σ H D I w;obtain⟨ρ,fl,rs,e,k⟩:=w;obtain⟨ys,ey,e⟩:=Z.Res.ax e;cases e;refine HM hcalm hN hix hx hsw hi B hG hg ht he hs hf I rs.re ey λ q vs H' s' hn h1 t'=>⟨H',λ _ j=>j,?_⟩
 exact k _ H' (o4 s') ((rs.up s').Qw h1 t' (rs.same.free hn) λ j xs _ e=>rs._z hn j xs e)
theorem _root_.ZQ.kO(hcalm:X.calm=true)(hN:X.N.Nodup)(hix:X.N[i]?=some x)(hx:Loc X.env.scope x)
  (hi:ZQ.QI X tg iter it) (B:qF X.N N' n is scope X.env.scope) (hG:∀d ρ ρ1,G d ρ=.ok ρ1->ρ1.length=ρ.length/\∀i,n<=i->ρ1[i]?=ρ[i]?)
  (hg:∀cl C fp s H H0,ZQ.QG (mq X N' scope cl C fp s H) H0 tg G) (ht:∀cl C fp s H,ZQ.Ia (mq X N' scope cl C fp s H) ifs t) (he:∀cl C fp s H,ZQ.QE (mq X N' scope cl C fp s H) elt fe)
  (hsw:swapsWith (.ListComp elt [⟨tg,iter,ifs,0⟩] scope pos) (some (.Name x px)) Ac.line X.env=pure true:=by rfl)
  (hs:∀x,foldedSetIterable iter X.env x=pure x:=by intro _;rfl) (hf:Fl X x:=by trivial) :
  ZQ.QS X H0 (.Assign [.Name x px] (.ListComp elt [⟨tg,iter,ifs,0⟩] scope pos) Ac) (Z.aO i (Z.eL (Z.bK it n is G t fe))):=⟨by
 have hg:=λ y0 y1 y2 y3 y4 y5=>(hg y0 y1 y2 y3 y4 y5).p;have ht:=λ y0 y1 y2 y3 y4=>(ht y0 y1 y2 y3 y4).p;have he:=λ y0 y1 y2 y3 y4=>(he y0 y1 y2 y3 y4).p;have h1:DS X H0 _ _:=qQ hcalm hN hix hx hi.p B hG hg ht he hsw hs hf;intro χ s σ H D I w;obtain⟨ρ,fl,rs,e,k⟩:=w;obtain⟨d,ed,e⟩:=Z.Res.ax e;cases e;unfold Z.eL at ed;cases ey:Z.bK it n is G t fe ρ with
 |bad=>rw[ey]at ed;cases ed
 |ok ys=>
  rw[ey]at ed;cases ed;refine dB (h1 χ s σ H {D with nx:=λ σ' H'=>kh H H'/\RS X.K H0 H' σ' _} I ⟨ρ,.nx (ρ.set i (some (.own ys))),rs,by show(Z.bK it n is G t fe ρ).bind _=_;rw[ey];rfl,λ σ' H' s' r'=>⟨s',r'⟩⟩) λ fl' s' h=>?_;cases fl' with
  |next=>
   obtain⟨σ',H',I',uz,Io⟩:=h;by_cases hl:i<ρ.length
   ·have ei:(ρ.set i (some (Z.L.own ys)))[i]?=some (some (.own ys)):=A31 hl;obtain⟨v,si,q,us,rfl,hq,t'⟩:=Io.re.get i _ ei;obtain⟨o,I2⟩:=m7 I' hq;have r2:=Io.fM (o:=o) ei si hq t';rw[List.set_set]at r2;exact⟨σ',_,I2,k σ' _ (uz.trans (iQ hq)) r2⟩
   ·have e0:ρ.set i (some (Z.L.own ys))=ρ:=C36 (by lia);have e1:ρ.set i (some (Z.L.val (.lst ys)))=ρ:=C36 (by lia);rw[e0]at Io;have k':=k;rw[e1]at k';exact⟨σ',H',I',k' σ' H' uz Io⟩
  |brk=>exact h
  |cont=>exact h
  |ret u=>exact h⟩
end
section
variable {P:ο}{w:ξ}{K:W.Frag}{mg:Str->ε ζ}{base:μ}
theorem md(t:aE K H ds vs)(hl:vs.length<=N.length):RS K H H (L2.start N vs) (Z.start N.length ds):=by
 have LX:∀(i:Nat) xs,(Z.start N.length ds)[i]?≠some (some (.own xs)):=by
  intro i xs e;unfold Z.start at e;by_cases hi:i<ds.length
  ·rw[A44 (by simpa using hi),P3]at e;cases q:ds[i]? with
   |none=>rw[q]at e;cases e
   |some d=>rw[q]at e;cases e
  ·rw[A54 (by simpa using hi),A64]at e;split at e<;>cases e
 have RI:∀(i:Nat) xs,(Z.start N.length ds)[i]?≠some (some (.bor xs)):=by
  intro i xs e;unfold Z.start at e;by_cases hi:i<ds.length
  ·rw[A44 (by simpa using hi),P3]at e;cases q:ds[i]? with
   |none=>rw[q]at e;cases e
   |some d=>rw[q]at e;cases e
  ·rw[A54 (by simpa using hi),A64]at e;split at e<;>cases e
 have RH:∀(i:Nat) ks,(Z.start N.length ds)[i]?≠some (some (.dc ks)):=by
  intro i ks e;unfold Z.start at e;by_cases hi:i<ds.length
  ·rw[A44 (by simpa using hi),P3]at e;cases q:ds[i]? with
   |none=>rw[q]at e;cases e
   |some d=>rw[q]at e;cases e
  ·rw[A54 (by simpa using hi),A64]at e;split at e<;>cases e
 have ψ:=t.length;refine⟨aH.refl H,⟨?_,λ i l e=>?_,λ i j xs ys q e1=>absurd e1 (LX i xs)⟩,λ i xs q e1=>absurd e1 (LX i xs),λ i xs e1=>absurd e1 (RI i xs),lr.non RH⟩
 ·unfold Z.start L2.start;simp;lia
 ·unfold Z.start at e;by_cases hi:i<ds.length
  ·rw[A44 (by simpa using hi),P3]at e;cases q:ds[i]? with
   |none=>rw[q]at e;cases e
   |some d=>rw[q]at e;cases e;obtain⟨v,h1,h2⟩:=t.get q;refine⟨v,?_,h2⟩;unfold L2.start;rw[A44 (by simp;lia),P3,h1];rfl
  ·rw[A54 (by simpa using hi),A64]at e;split at e<;>cases e
theorem fnZ{st:ν}(F:Ii K x qual st f fd)(S:c6 N ps (aB st))
  (hb:∀ cV A outer s H E,d? k (A.deeper (envOfC qual (aB st) s.heap.objs.size f cV)) ->
   O9 (iZ oO P w K mg base N qual (aB st) f cV A outer s H E).qJ H (bB st) b):ki P w K mg base oO (k+1) f fd ps (xl K (Z.fn ps.length N.length b)):=by
 have ψ:∀vs H Q E,xl K (Z.fn ps.length N.length b) vs H Q E->vs.length=ps.length:=λ vs H Q E ⟨ds,d,t,e,_⟩=>by
  unfold Z.fn at e;split at e
  ·rename_i h;rw[t.length];exact h
  ·cases e
 refine F.ok S ψ (λ cV A outer s H vs Q E hr h=>⟨_,hb cV A outer s H E hr,?_⟩);have hl:=ψ vs H Q E h;obtain⟨ds,d,t,e,k⟩:=h;have iV:ps.length<=N.length:=by have:=A22 List.length S.pre;rw[A34]at this;lia
 have rs:RS K H H _ (Z.start N.length ds):=md t (by lia);unfold Z.fn at e;split at e
 ·cases eb:b (Z.start N.length ds)with
  |bad=>rw[eb]at e;cases e
  |ok fl=>
   rw[eb]at e;refine⟨_,fl,rs,eb,?_⟩;cases fl with
   |rt d'=>cases e;exact λ v H' s' dv=>k v H' s' dv
   |nx ρ'=>cases e;exact λ σ' H' _ Io=>k .non H' Io.same oK
   |bk ρ'=>cases e
   |ct ρ'=>cases e
 ·cases e
end
def Me(N N':γ Str)(n:Nat)(is:γ Nat)(sc M7:ς):Bool:=
 (sc.kind==.function)&&sc.names.all (λ y=>y.2 != .cell)&&sc.names.all (λ y=>y.2 != .local||sc.names.lookup y.1==some .local) &&
 sc.names.all (λ y=>y.2 != .free||M7.names.lookup y.1==some .cell||M7.names.lookup y.1==some .free)&&(N'.length==n+is.length) &&
 (List.range is.length).all (λ j=>match is[j]?,N'[n+j]? with
  |some i,some x=>N[i]?==some x&&sc.names.lookup x==some .free
  | _,_=>false) &&
 (List.range n).all (λ j=>match N'[j]? with
  |some x=>sc.names.lookup x==some .local
  | none=>false)
theorem qF.of(h:Me N N' n is sc M7=true):qF N N' n is sc M7:=by
 unfold Me at h;simp only[A40,A27,A74,B85,B51,A19]at h;obtain⟨⟨⟨⟨⟨⟨h1,h2⟩,h3⟩,h4⟩,h5⟩,h6⟩,h7⟩:=h;refine⟨h1,h2,λ y hy e=>?_,λ y hy e=>?_,h5,λ j i e=>?_,λ j hj=>?_⟩
 ·rcases h3 y hy with q|q
  ·exact absurd e q
  ·exact q
 ·rcases h4 y hy with(q|q)|q
  ·exact absurd e q
  ·exact .inl q
  ·exact .inr q
 ·have hj:=(A02.mp e).1;have q:=h6 j hj;rw[e]at q;cases r:N'[n+j]? with
  |none=>rw[r]at q;cases q
  |some x=>rw[r]at q;simp only[A40,A74]at q;exact⟨x,rfl,q.1,q.2⟩
 ·have q:=h7 j hj;cases r:N'[j]? with
  |none=>rw[r]at q;cases q
  |some x=>rw[r]at q;exact⟨x,rfl,A74.mp q⟩
structure Def(K:W.Frag)(mg:Str->Option Value)(x:Str)(st:Stmt)(ps:List Str):Prop where
 ex:∃f fd,Ii K x x st f fd/\mg x=some (.ref f)/\Binds K fd ps []
structure e6(P:Program)(w:World)(K:W.Frag)(mg:Str->Option Value)(base:Heap)(x:Str)(k:Nat)(ps:List Str)(m:List Z.D->Z.Res Z.D):Prop where
 ex:∃g fd,ki P w K mg base oO k g fd ps (xl K m)/\mg x=some (.ref g)/\PySem.W.keepIn K (.ref g)=true/\Binds K fd ps []
theorem e6.mk'{K:W.Frag}{st:ν}(d:Def K mg x st ps)(S:c6 N ps (aB st))
  (hb:∀ f cV A outer s H E,d? k (A.deeper (envOfC x (aB st) s.heap.objs.size f cV)) ->
   O9 (iZ oO P w K mg base N x (aB st) f cV A outer s H E).qJ H (bB st) b):e6 P w K mg base x (k+1) ps (Z.fn ps.length N.length b):=by
 obtain⟨f,fd,F,hm,AU⟩:=d.ex;exact⟨f,fd,fnZ F S (hb f),hm,F.kp,AU⟩
section
variable {X:Cx}{e:θ}{es:γ θ}{pos:Pos}
theorem _root_.ZQ.aj(C:e6 X.prog X.w X.K X.mg X.base x k ps m)(ha:ZQ.QA X (e::es) ar)(ji:(x==("__debug__"))=false:=by decide +kernel)(he:Se e es X.env:=by rfl)(iV:Pn pos es X.env:=by rfl)(hr:d? k X.A:=by first| assumption| exact L2.d?.mono (by assumption) (by first| decide| lia))(hg:Gl X x:=by rfl):ZQ.QE X (.Call (.Name x p1) (e::es) [] pos) (Z.aw m ar):=
 ⟨let ⟨_,_,F,hm,hk,hb⟩:=C.ex;Lf F hr hg hm hk hb ha.p ji he iV⟩
end
theorem _root_.ZQ.aM(hm:X.mg x=some (.int i t))(hb:Nd x:=by decide +kernel)(hg:Gl X x:=by rfl):ZQ.QE X (.Name x pos) (Z.eC (.int i)):=
 ⟨Ld (v:=.int i) hg hm ⟨t,rfl⟩ (λ _=>cP) hb⟩
theorem Ai{K:W.Frag}{ns:γ Int}(hO:Lz H)(h:jw K H a (ns.map V.int)):Den K H (.lst (ns.map Z.D.int)) (.ref a):=by
 refine wU ?_ (aE.zints ns);rcases h with(h|⟨o,h⟩)|h
 ·rcases hO a with z|⟨o,xs,z⟩|⟨q,z⟩
  ·rw[h]at z;cases z
  ·rw[h]at z;cases z
  ·rw[h]at z;cases z
 ·exact .inl ⟨o,h⟩
 ·exact .inr h
theorem NA{K:W.Frag}{ns:γ Int}(hO:Lz H)(h:jw K H a (ns.map V.int))(e:m [.lst (ns.map .int)]=.ok (.bl true)):xl K m [.ref a] H (λ v _=>v=.bl true) λ _ _ _=>False:=
 ⟨_,_,aE.cons (Ai hO h) aE.nil,e,λ v H' _ d=>by simpa only[Den]using d⟩
section
variable {X:Cx}{e a b:θ}{pos:Pos}{f fa fb:Z.EF}
theorem x?(x y:γ Nat):((⟨x.toArray⟩)==(⟨y.toArray⟩:Str))=(x==y):=by
 rw[A57,A74,A74];constructor
 ·intro h;injection h with h;simpa using h
 ·rintro rfl;rfl
theorem nW{K:W.Frag}(h:Z.EO d1 d2=some k)(h1:bU K H d1 v1)(h2:bU K H d2 v2)(r1:RelV v1 u1)(r2:RelV v2 u2):SeqAt.RcAt A s u1 u2 k/\SeqAt.EqAt A s u1 u2 k/\SeqAt.RcNeAt A s u1 u2 (!k):=by
 unfold Z.EO at h;split at h
 ·cases h;rw[h1.non]at r1;rw[h2.non]at r2;cases r1;cases r2;exact⟨SeqAt.RcAt.none_none,B86 _,SeqAt.RcNeAt.none_none⟩
 ·cases h;rw[h1.bl]at r1;rw[h2.bl]at r2;cases r1;cases r2;exact⟨SeqAt.RcAt.bool_bool _ _,SeqAt.EqAt.bool_bool _ _,SeqAt.RcNeAt.bool_bool _ _⟩
 ·cases h;rw[h1.bl]at r1;rw[h2.int]at r2;cases r1;obtain⟨t,rfl⟩:=r2;exact⟨SeqAt.RcAt.bool_int _ _ _,SeqAt.EqAt.bool_int _ _ _,SeqAt.RcNeAt.bool_int _ _ _⟩
 ·cases h;rw[h1.int]at r1;rw[h2.bl]at r2;cases r2;obtain⟨t,rfl⟩:=r1;exact⟨SeqAt.RcAt.int_bool _ _ _,SeqAt.EqAt.int_bool _ _ _,SeqAt.RcNeAt.int_bool _ _ _⟩
 ·cases h;rw[h1.int]at r1;rw[h2.int]at r2;obtain⟨t,rfl⟩:=r1;obtain⟨t',rfl⟩:=r2;exact⟨SeqAt.RcAt.int_int _ _ _ _,SeqAt.EqAt.int_int _ _ _ _,SeqAt.RcNeAt.int_int _ _ _ _⟩
 ·cases h;rw[h1.str]at r1;rw[h2.str]at r2;obtain⟨t,rfl⟩:=r1;obtain⟨t',rfl⟩:=r2;rw[<-x?];exact⟨SeqAt.RcAt.str_str _ _ _ _,SeqAt.EqAt.str_str _ _ _ _,SeqAt.RcNeAt.str_str _ _ _ _⟩
 ·cases h;rw[h1.non]at r1;rw[h2.bl]at r2;cases r1;cases r2;exact⟨SeqAt.RcAt.none_bool _,SeqAt.EqAt.none_bool _,SeqAt.RcNeAt.none_bool _⟩
 ·cases h;rw[h1.non]at r1;rw[h2.int]at r2;cases r1;obtain⟨t,rfl⟩:=r2;exact⟨SeqAt.RcAt.none_int _ _,SeqAt.EqAt.none_int _ _,SeqAt.RcNeAt.none_int _ _⟩
 ·cases h;rw[h1.non]at r1;rw[h2.str]at r2;cases r1;obtain⟨t,rfl⟩:=r2;exact⟨SeqAt.RcAt.none_str _ _,SeqAt.EqAt.none_str _ _,SeqAt.RcNeAt.none_str _ _⟩
 ·cases h;rw[h1.bl]at r1;rw[h2.non]at r2;cases r1;cases r2;exact⟨SeqAt.RcAt.bool_none _,SeqAt.EqAt.bool_none _,SeqAt.RcNeAt.bool_none _⟩
 ·cases h;rw[h1.bl]at r1;rw[h2.str]at r2;cases r1;obtain⟨t,rfl⟩:=r2;exact⟨SeqAt.RcAt.bool_str _ _ _,SeqAt.EqAt.bool_str _ _ _,SeqAt.RcNeAt.bool_str _ _ _⟩
 ·cases h;rw[h1.int]at r1;rw[h2.non]at r2;cases r2;obtain⟨t,rfl⟩:=r1;exact⟨SeqAt.RcAt.int_none _ _,SeqAt.EqAt.int_none _ _,SeqAt.RcNeAt.int_none _ _⟩
 ·cases h;rw[h1.int]at r1;rw[h2.str]at r2;obtain⟨t,rfl⟩:=r1;obtain⟨t',rfl⟩:=r2;exact⟨SeqAt.RcAt.int_str _ _ _ _,SeqAt.EqAt.int_str _ _ _ _,SeqAt.RcNeAt.int_str _ _ _ _⟩
 ·cases h;rw[h1.str]at r1;rw[h2.non]at r2;cases r2;obtain⟨t,rfl⟩:=r1;exact⟨SeqAt.RcAt.str_none _ _,SeqAt.EqAt.str_none _ _,SeqAt.RcNeAt.str_none _ _⟩
 ·cases h;rw[h1.str]at r1;rw[h2.bl]at r2;cases r2;obtain⟨t,rfl⟩:=r1;exact⟨SeqAt.RcAt.str_bool _ _ _,SeqAt.EqAt.str_bool _ _ _,SeqAt.RcNeAt.str_bool _ _ _⟩
 ·cases h;rw[h1.str]at r1;rw[h2.int]at r2;obtain⟨t,rfl⟩:=r1;obtain⟨t',rfl⟩:=r2;exact⟨SeqAt.RcAt.str_int _ _ _ _,SeqAt.EqAt.str_int _ _ _ _,SeqAt.RcNeAt.str_int _ _ _ _⟩
 ·cases h
def IB(g:Z.D->Z.D->ε Bool)(as bs:γ Z.D)(j:Nat):Bool:=match as[j]?,bs[j]? with
 |some x,some y=>(g x y).getD false
 |_,_=>true
theorem l7:∀{as bs}{k},Z.allEq g as bs=some k->k=((List.range (min as.length bs.length)).all (IB g as bs)&&as.length == bs.length)/\∀j x y,as[j]?=some x->bs[j]?=some y->g x y=some (IB g as bs j)
 |[],[],k,h=>by cases h;exact⟨rfl,λ j x y e=>by simp at e⟩
 |[],_::_,k,h=>by cases h;exact⟨by simp,λ j x y e=>by simp at e⟩
 |_::_,[],k,h=>by cases h;exact⟨by simp,λ j x y _ e=>by simp at e⟩
 |a::as,b::bs,k,h=>by
  unfold Z.allEq at h;split at h
  ·rename_i p q e1 e2;cases h;obtain⟨h1,h2⟩:=l7 e2;refine⟨?_,λ j x y ex ey=>?_⟩
   ·have:min (a::as).length (b::bs).length=min as.length bs.length+1:=by simp only[A36];lia
    rw[this,C37,B87,List.all_map,h1];have e0:IB g (a::as) (b::bs) 0=p:=by simp[IB,e1]
    have es:(IB g (a::as) (b::bs)∘Nat.succ)=IB g as bs:=by funext j;simp[IB]
    have el:((a::as).length==(b::bs).length)=(as.length==bs.length):=by rw[A57];simp
    rw[e0,es,el,Bool.and_assoc]
   ·cases j with
    |zero=>simp at ex ey;subst ex ey;simp[IB,e1]
    |succ j=>have:=h2 j x y (by simpa using ex) (by simpa using ey);simpa[IB]using this
  ·cases h
theorem yM(I:Inv X χ σ H s)(n:Nat)(hu:A.units+n<cLine)
  (ih:∀ {A} {d1 d2} {v1 v2} {u1 u2} {k},A.units+n<cLine->Z.fS n d1 d2=some k->bU X.K H d1 v1->bU X.K H d2 v2->RelV v1 u1->RelV v2 u2->SeqAt.RcAt A s u1 u2 k/\SeqAt.EqAt A s u1 u2 k/\SeqAt.RcNeAt A s u1 u2 (!k))
    (hk:Z.allEq (Z.fS n) as bs=some k) (ta:aE X.K H as vs) (tb:aE X.K H bs ws) (ra:Vals vs its) (rb:Vals ws g_) :
   ∀j h1 (h2:j<g_.toArray.size),SeqAt.EqAt A s its.toArray[j] g_.toArray[j] (IB (Z.fS n) as bs j):=by
  intro j _0 SA;have la:=ta.length;have lb:=tb.length;have U2:=ra.length;have W6:=rb.length;simp only[A07]at _0 SA;obtain⟨x,ex⟩:∃x,as[j]?=some x:=⟨as[j]'(by lia),A01 (by lia)⟩
  obtain⟨y,ey⟩:∃y,bs[j]?=some y:=⟨bs[j]'(by lia),A01 (by lia)⟩
  obtain⟨vx,Zb,dx⟩:=ta.get ex;obtain⟨vy,L?,dy⟩:=tb.get ey;obtain⟨ux,eux,rx⟩:=ra.get Zb;obtain⟨uy,euy,ry⟩:=rb.get L?;have e1:its.toArray[j]=ux:=by have:=A01 _0;rw[eux]at this;simpa using(A04 this).symm
  have e2:g_.toArray[j]=uy:=by have:=A01 SA;rw[euy]at this;simpa using(A04 this).symm
  rw[e1,e2];exact(ih hu ((l7 hk).2 j x y ex ey) (.inl dx) (.inl dy) rx ry).2.1
theorem bz{K:W.Frag}(h:Z.EO d1 d2=some k)(h1:bU K H d1 v)(h2:bU K H d2 v):k=true:=by
 unfold Z.EO at h;split at h<;>first
  |(cases h;rfl)
  |(cases h;done)
  |(have e:=h1.bl.symm.trans h2.bl;cases h;injection e with e;subst e;simp)
  |(have e:=h1.int.symm.trans h2.int;cases h;injection e with e;subst e;simp)
  |(have e:=h1.str.symm.trans h2.str;cases h;injection e with e;rw[<-x?,e];simp)
  |(have e:=h1.bl.symm.trans h2.int;cases e)
  |(have e:=h1.int.symm.trans h2.bl;cases e)
  |(have e:=h1.non.symm.trans h2.bl;cases e)
  |(have e:=h1.non.symm.trans h2.int;cases e)
  |(have e:=h1.non.symm.trans h2.str;cases e)
  |(have e:=h1.bl.symm.trans h2.non;cases e)
  |(have e:=h1.bl.symm.trans h2.str;cases e)
  |(have e:=h1.int.symm.trans h2.non;cases e)
  |(have e:=h1.int.symm.trans h2.str;cases e)
  |(have e:=h1.str.symm.trans h2.non;cases e)
  |(have e:=h1.str.symm.trans h2.bl;cases e)
  |(have e:=h1.str.symm.trans h2.int;cases e)
theorem se{K:W.Frag}(ih:∀{d1 d2}{v}{k},Z.fS n d1 d2=some k->bU K H d1 v->bU K H d2 v->k=true)(h:Z.allEq (Z.fS n) as bs=some k)(ta:aE K H as vs)(tb:aE K H bs vs):k=true:=by
 obtain⟨h1,h2⟩:=l7 h;have la:=ta.length;have lb:=tb.length;rw[h1,show(as.length==bs.length)=true by simp;lia,Bool.and_true,A27];intro j hj;rw[A19]at hj;obtain⟨x,ex⟩:∃x,as[j]?=some x:=⟨as[j]'(by lia),A01 (by lia)⟩
 obtain⟨y,ey⟩:∃y,bs[j]?=some y:=⟨bs[j]'(by lia),A01 (by lia)⟩
 obtain⟨vx,Zb,dx⟩:=ta.get ex;obtain⟨vy,L?,dy⟩:=tb.get ey;rw[Zb]at L?;cases L?;exact ih (h2 j x y ex ey) (.inl dx) (.inl dy)
theorem vQ{a:δ}(I:Inv X χ σ H s)(h:lx X.K H a xs)(h':jw X.K H a ys):False:=by obtain⟨its,r,⟨o,e,c,n,d⟩,_⟩:=I.tuple h;obtain⟨pj,r',⟨o',n',e',c',_⟩,_⟩:=I.list h';rw[e]at e';cases e';rw[c]at c';injection c' with z;exact absurd z (by decide)
def sq:Z.D->Bool
 |.tup _=>true
 |.lst _=>true
 |_=>false
def dc:Z.D->Bool
 |.dct _ _=>true
 |_=>false
theorem aW(n:Nat)(h:(sq d1=false/\sq d2=false)\/dc d1=true\/dc d2=true):Z.fS n d1 d2=Z.EO d1 d2:=by cases d1<;>cases d2<;>cases n<;>first|rfl|(simp[sq,dc]at h)
theorem Ee(I:Inv X χ σ H s)(n:Nat)(ih:∀m,m<n->∀{d1 d2}{v}{k},Z.fS m d1 d2=some k->bU X.K H d1 v->bU X.K H d2 v->k=true)(h:Z.fS n d1 d2=some k)(h1:bU X.K H d1 v)(h2:bU X.K H d2 v):k=true:=by
  cases d1<;>cases d2
  case non.non=>exact bz ((aW n (.inl ⟨rfl,rfl⟩)).symm.trans h) h1 h2
  case non.bl=>exact bz ((aW n (.inl ⟨rfl,rfl⟩)).symm.trans h) h1 h2
  case non.int=>exact bz ((aW n (.inl ⟨rfl,rfl⟩)).symm.trans h) h1 h2
  case non.str=>exact bz ((aW n (.inl ⟨rfl,rfl⟩)).symm.trans h) h1 h2
  case non.tup=>obtain⟨_,_,e,_⟩:=h2.tup;rw[e]at h1;cases h1.non
  case non.lst=>obtain⟨_,_,e,_⟩:=h2.lst;rw[e]at h1;cases h1.non
  case non.dct=>exact bz ((aW n (.inl ⟨rfl,rfl⟩)).symm.trans h) h1 h2
  case bl.non=>exact bz ((aW n (.inl ⟨rfl,rfl⟩)).symm.trans h) h1 h2
  case bl.bl=>exact bz ((aW n (.inl ⟨rfl,rfl⟩)).symm.trans h) h1 h2
  case bl.int=>exact bz ((aW n (.inl ⟨rfl,rfl⟩)).symm.trans h) h1 h2
  case bl.str=>exact bz ((aW n (.inl ⟨rfl,rfl⟩)).symm.trans h) h1 h2
  case bl.tup=>obtain⟨_,_,e,_⟩:=h2.tup;rw[e]at h1;cases h1.bl
  case bl.lst=>obtain⟨_,_,e,_⟩:=h2.lst;rw[e]at h1;cases h1.bl
  case bl.dct=>exact bz ((aW n (.inl ⟨rfl,rfl⟩)).symm.trans h) h1 h2
  case int.non=>exact bz ((aW n (.inl ⟨rfl,rfl⟩)).symm.trans h) h1 h2
  case int.bl=>exact bz ((aW n (.inl ⟨rfl,rfl⟩)).symm.trans h) h1 h2
  case int.int=>exact bz ((aW n (.inl ⟨rfl,rfl⟩)).symm.trans h) h1 h2
  case int.str=>exact bz ((aW n (.inl ⟨rfl,rfl⟩)).symm.trans h) h1 h2
  case int.tup=>obtain⟨_,_,e,_⟩:=h2.tup;rw[e]at h1;cases h1.int
  case int.lst=>obtain⟨_,_,e,_⟩:=h2.lst;rw[e]at h1;cases h1.int
  case int.dct=>exact bz ((aW n (.inl ⟨rfl,rfl⟩)).symm.trans h) h1 h2
  case str.non=>exact bz ((aW n (.inl ⟨rfl,rfl⟩)).symm.trans h) h1 h2
  case str.bl=>exact bz ((aW n (.inl ⟨rfl,rfl⟩)).symm.trans h) h1 h2
  case str.int=>exact bz ((aW n (.inl ⟨rfl,rfl⟩)).symm.trans h) h1 h2
  case str.str=>exact bz ((aW n (.inl ⟨rfl,rfl⟩)).symm.trans h) h1 h2
  case str.tup=>obtain⟨_,_,e,_⟩:=h2.tup;rw[e]at h1;cases h1.str
  case str.lst=>obtain⟨_,_,e,_⟩:=h2.lst;rw[e]at h1;cases h1.str
  case str.dct=>exact bz ((aW n (.inl ⟨rfl,rfl⟩)).symm.trans h) h1 h2
  case tup.non=>obtain⟨_,_,e,_⟩:=h1.tup;rw[e]at h2;cases h2.non
  case tup.bl=>obtain⟨_,_,e,_⟩:=h1.tup;rw[e]at h2;cases h2.bl
  case tup.int=>obtain⟨_,_,e,_⟩:=h1.tup;rw[e]at h2;cases h2.int
  case tup.str=>obtain⟨_,_,e,_⟩:=h1.tup;rw[e]at h2;cases h2.str
  case tup.tup=>
   cases n with
   |zero=>cases h
   |succ n=>obtain⟨_,_,e,q,ta⟩:=h1.tup;obtain⟨_,_,e',q',tb⟩:=h2.tup;rw[e]at e';cases e';have:=I.oV q q';subst this;exact se (ih n (A71 n)) h ta tb
  case tup.lst=>obtain⟨_,_,e,q,_⟩:=h1.tup;obtain⟨_,_,e',q',_⟩:=h2.lst;rw[e]at e';cases e';exact(vQ I q q').elim
  case tup.dct=>exact bz ((aW n (.inr (.inr rfl))).symm.trans h) h1 h2
  case lst.non=>obtain⟨_,_,e,_⟩:=h1.lst;rw[e]at h2;cases h2.non
  case lst.bl=>obtain⟨_,_,e,_⟩:=h1.lst;rw[e]at h2;cases h2.bl
  case lst.int=>obtain⟨_,_,e,_⟩:=h1.lst;rw[e]at h2;cases h2.int
  case lst.str=>obtain⟨_,_,e,_⟩:=h1.lst;rw[e]at h2;cases h2.str
  case lst.tup=>obtain⟨_,_,e,q,_⟩:=h1.lst;obtain⟨_,_,e',q',_⟩:=h2.tup;rw[e]at e';cases e';exact(vQ I q' q).elim
  case lst.lst=>
   cases n with
   |zero=>cases h
   |succ n=>obtain⟨_,_,e,q,ta⟩:=h1.lst;obtain⟨_,_,e',q',tb⟩:=h2.lst;rw[e]at e';cases e';have:=I.n6 q q';subst this;exact se (ih n (A71 n)) h ta tb
  case lst.dct=>exact bz ((aW n (.inr (.inr rfl))).symm.trans h) h1 h2
  case dct.non=>exact bz ((aW n (.inl ⟨rfl,rfl⟩)).symm.trans h) h1 h2
  case dct.bl=>exact bz ((aW n (.inl ⟨rfl,rfl⟩)).symm.trans h) h1 h2
  case dct.int=>exact bz ((aW n (.inl ⟨rfl,rfl⟩)).symm.trans h) h1 h2
  case dct.str=>exact bz ((aW n (.inl ⟨rfl,rfl⟩)).symm.trans h) h1 h2
  case dct.tup=>exact bz ((aW n (.inr (.inl rfl))).symm.trans h) h1 h2
  case dct.lst=>exact bz ((aW n (.inr (.inl rfl))).symm.trans h) h1 h2
  case dct.dct=>exact bz ((aW n (.inl ⟨rfl,rfl⟩)).symm.trans h) h1 h2
theorem zf(I:Inv X χ σ H s)(n:Nat):∀{d1 d2}{v}{k},Z.fS n d1 d2=some k->bU X.K H d1 v->bU X.K H d2 v->k=true:=by
 induction n using Nat.strongRecOn with
 |_ n ih=>exact Ee I n ih
theorem W5(I:Inv X χ σ H s)(n:Nat)(ih:∀m,m<n->∀{A}{d1 d2}{v1 v2}{u1 u2}{k},A.units+m<cLine->Z.fS m d1 d2=some k->bU X.K H d1 v1->bU X.K H d2 v2->RelV v1 u1->RelV v2 u2->SeqAt.RcAt A s u1 u2 k/\SeqAt.EqAt A s u1 u2 k/\SeqAt.RcNeAt A s u1 u2 (!k))(hu:A.units+n<cLine)(h:Z.fS n d1 d2=some k)(h1:bU X.K H d1 v1)(h2:bU X.K H d2 v2)(r1:RelV v1 u1)(r2:RelV v2 u2):
  SeqAt.RcAt A s u1 u2 k/\SeqAt.EqAt A s u1 u2 k/\SeqAt.RcNeAt A s u1 u2 (!k):=by
  have gv:A.units<cLine:=by lia
  have tN:∀{ds}{v}{u},bU X.K H (.tup ds) v->RelV v u->∃q its,u=.ref q/\s.heap.IsTuple q its:=λ hd rv=>by obtain⟨q,vs,rfl,hq,_⟩:=hd.tup;cases rv;obtain⟨its,_,p,_⟩:=I.tuple hq;exact⟨q,its.toArray,rfl,p⟩
  have t6:∀{ds}{v}{u},bU X.K H (.lst ds) v->RelV v u->∃q its,u=.ref q/\s.heap.IsList q its:=λ hd rv=>by obtain⟨q,vs,rfl,hq,_⟩:=hd.lst;cases rv;obtain⟨its,_,p,_⟩:=I.list hq;exact⟨q,its.toArray,rfl,p.isList⟩
  cases d1<;>cases d2
  case non.non=>exact nW ((aW n (.inl ⟨rfl,rfl⟩)).symm.trans h) h1 h2 r1 r2
  case non.bl=>exact nW ((aW n (.inl ⟨rfl,rfl⟩)).symm.trans h) h1 h2 r1 r2
  case non.int=>exact nW ((aW n (.inl ⟨rfl,rfl⟩)).symm.trans h) h1 h2 r1 r2
  case non.str=>exact nW ((aW n (.inl ⟨rfl,rfl⟩)).symm.trans h) h1 h2 r1 r2
  case non.tup=>
   obtain rfl:k=false:=by cases n<;>cases h<;>rfl
   rw[h1.non]at r1;cases r1;obtain⟨q2,g_,rfl,p2⟩:=tN h2 r2;exact⟨SeqAt.RcAt.none_tuple p2 gv,SeqAt.EqAt.none_tuple p2 gv,SeqAt.RcNeAt.none_tuple p2 gv⟩
  case non.lst=>
   obtain rfl:k=false:=by cases n<;>cases h<;>rfl
   rw[h1.non]at r1;cases r1;obtain⟨q2,g_,rfl,p2⟩:=t6 h2 r2;exact⟨SeqAt.RcAt.none_list p2 gv,SeqAt.EqAt.none_list p2 gv,SeqAt.RcNeAt.none_list p2 gv⟩
  case non.dct=>exact nW ((aW n (.inl ⟨rfl,rfl⟩)).symm.trans h) h1 h2 r1 r2
  case bl.non=>exact nW ((aW n (.inl ⟨rfl,rfl⟩)).symm.trans h) h1 h2 r1 r2
  case bl.bl=>exact nW ((aW n (.inl ⟨rfl,rfl⟩)).symm.trans h) h1 h2 r1 r2
  case bl.int=>exact nW ((aW n (.inl ⟨rfl,rfl⟩)).symm.trans h) h1 h2 r1 r2
  case bl.str=>exact nW ((aW n (.inl ⟨rfl,rfl⟩)).symm.trans h) h1 h2 r1 r2
  case bl.tup=>
   obtain rfl:k=false:=by cases n<;>cases h<;>rfl
   rw[h1.bl]at r1;cases r1;obtain⟨q2,g_,rfl,p2⟩:=tN h2 r2;exact⟨SeqAt.RcAt.bool_tuple _ p2 gv,SeqAt.EqAt.bool_tuple _ p2 gv,SeqAt.RcNeAt.bool_tuple _ p2 gv⟩
  case bl.lst=>
   obtain rfl:k=false:=by cases n<;>cases h<;>rfl
   rw[h1.bl]at r1;cases r1;obtain⟨q2,g_,rfl,p2⟩:=t6 h2 r2;exact⟨SeqAt.RcAt.bool_list _ p2 gv,SeqAt.EqAt.bool_list _ p2 gv,SeqAt.RcNeAt.bool_list _ p2 gv⟩
  case bl.dct=>exact nW ((aW n (.inl ⟨rfl,rfl⟩)).symm.trans h) h1 h2 r1 r2
  case int.non=>exact nW ((aW n (.inl ⟨rfl,rfl⟩)).symm.trans h) h1 h2 r1 r2
  case int.bl=>exact nW ((aW n (.inl ⟨rfl,rfl⟩)).symm.trans h) h1 h2 r1 r2
  case int.int=>exact nW ((aW n (.inl ⟨rfl,rfl⟩)).symm.trans h) h1 h2 r1 r2
  case int.str=>exact nW ((aW n (.inl ⟨rfl,rfl⟩)).symm.trans h) h1 h2 r1 r2
  case int.tup=>
   obtain rfl:k=false:=by cases n<;>cases h<;>rfl
   rw[h1.int]at r1;obtain⟨t1,rfl⟩:=r1;obtain⟨q2,g_,rfl,p2⟩:=tN h2 r2;exact⟨SeqAt.RcAt.int_tuple _ _ p2 gv,SeqAt.EqAt.int_tuple _ _ p2 gv,SeqAt.RcNeAt.int_tuple _ _ p2 gv⟩
  case int.lst=>
   obtain rfl:k=false:=by cases n<;>cases h<;>rfl
   rw[h1.int]at r1;obtain⟨t1,rfl⟩:=r1;obtain⟨q2,g_,rfl,p2⟩:=t6 h2 r2;exact⟨SeqAt.RcAt.int_list _ _ p2 gv,SeqAt.EqAt.int_list _ _ p2 gv,SeqAt.RcNeAt.int_list _ _ p2 gv⟩
  case int.dct=>exact nW ((aW n (.inl ⟨rfl,rfl⟩)).symm.trans h) h1 h2 r1 r2
  case str.non=>exact nW ((aW n (.inl ⟨rfl,rfl⟩)).symm.trans h) h1 h2 r1 r2
  case str.bl=>exact nW ((aW n (.inl ⟨rfl,rfl⟩)).symm.trans h) h1 h2 r1 r2
  case str.int=>exact nW ((aW n (.inl ⟨rfl,rfl⟩)).symm.trans h) h1 h2 r1 r2
  case str.str=>exact nW ((aW n (.inl ⟨rfl,rfl⟩)).symm.trans h) h1 h2 r1 r2
  case str.tup=>
   obtain rfl:k=false:=by cases n<;>cases h<;>rfl
   rw[h1.str]at r1;obtain⟨t1,rfl⟩:=r1;obtain⟨q2,g_,rfl,p2⟩:=tN h2 r2;exact⟨SeqAt.RcAt.str_tuple _ _ p2 gv,SeqAt.EqAt.str_tuple _ _ p2 gv,SeqAt.RcNeAt.str_tuple _ _ p2 gv⟩
  case str.lst=>
   obtain rfl:k=false:=by cases n<;>cases h<;>rfl
   rw[h1.str]at r1;obtain⟨t1,rfl⟩:=r1;obtain⟨q2,g_,rfl,p2⟩:=t6 h2 r2;exact⟨SeqAt.RcAt.str_list _ _ p2 gv,SeqAt.EqAt.str_list _ _ p2 gv,SeqAt.RcNeAt.str_list _ _ p2 gv⟩
  case str.dct=>exact nW ((aW n (.inl ⟨rfl,rfl⟩)).symm.trans h) h1 h2 r1 r2
  case tup.non=>
   obtain rfl:k=false:=by cases n<;>cases h<;>rfl
   obtain⟨q1,wj,rfl,p1⟩:=tN h1 r1;rw[h2.non]at r2;cases r2;exact⟨SeqAt.RcAt.tuple_none p1 gv,SeqAt.EqAt.tuple_none p1 gv,SeqAt.RcNeAt.tuple_none p1 gv⟩
  case tup.bl=>
   obtain rfl:k=false:=by cases n<;>cases h<;>rfl
   obtain⟨q1,wj,rfl,p1⟩:=tN h1 r1;rw[h2.bl]at r2;cases r2;exact⟨SeqAt.RcAt.tuple_bool _ p1 gv,SeqAt.EqAt.tuple_bool _ p1 gv,SeqAt.RcNeAt.tuple_bool _ p1 gv⟩
  case tup.int=>
   obtain rfl:k=false:=by cases n<;>cases h<;>rfl
   obtain⟨q1,wj,rfl,p1⟩:=tN h1 r1;rw[h2.int]at r2;obtain⟨t2,rfl⟩:=r2;exact⟨SeqAt.RcAt.tuple_int _ _ p1 gv,SeqAt.EqAt.tuple_int _ _ p1 gv,SeqAt.RcNeAt.tuple_int _ _ p1 gv⟩
  case tup.str=>
   obtain rfl:k=false:=by cases n<;>cases h<;>rfl
   obtain⟨q1,wj,rfl,p1⟩:=tN h1 r1;rw[h2.str]at r2;obtain⟨t2,rfl⟩:=r2;exact⟨SeqAt.RcAt.tuple_str _ _ p1 gv,SeqAt.EqAt.tuple_str _ _ p1 gv,SeqAt.RcNeAt.tuple_str _ _ p1 gv⟩
  case tup.lst=>
   obtain rfl:k=false:=by cases n<;>cases h<;>rfl
   obtain⟨q1,wj,rfl,p1⟩:=tN h1 r1;obtain⟨q2,g_,rfl,p2⟩:=t6 h2 r2;exact⟨SeqAt.RcAt.tuple_list p1 p2 gv,SeqAt.EqAt.tuple_list p1 p2 gv,SeqAt.RcNeAt.tuple_list p1 p2 gv⟩
  case tup.dct=>exact nW ((aW n (.inr (.inr rfl))).symm.trans h) h1 h2 r1 r2
  case lst.non=>
   obtain rfl:k=false:=by cases n<;>cases h<;>rfl
   obtain⟨q1,wj,rfl,p1⟩:=t6 h1 r1;rw[h2.non]at r2;cases r2;exact⟨SeqAt.RcAt.list_none p1 gv,SeqAt.EqAt.list_none p1 gv,SeqAt.RcNeAt.list_none p1 gv⟩
  case lst.bl=>
   obtain rfl:k=false:=by cases n<;>cases h<;>rfl
   obtain⟨q1,wj,rfl,p1⟩:=t6 h1 r1;rw[h2.bl]at r2;cases r2;exact⟨SeqAt.RcAt.list_bool _ p1 gv,SeqAt.EqAt.list_bool _ p1 gv,SeqAt.RcNeAt.list_bool _ p1 gv⟩
  case lst.int=>
   obtain rfl:k=false:=by cases n<;>cases h<;>rfl
   obtain⟨q1,wj,rfl,p1⟩:=t6 h1 r1;rw[h2.int]at r2;obtain⟨t2,rfl⟩:=r2;exact⟨SeqAt.RcAt.list_int _ _ p1 gv,SeqAt.EqAt.list_int _ _ p1 gv,SeqAt.RcNeAt.list_int _ _ p1 gv⟩
  case lst.str=>
   obtain rfl:k=false:=by cases n<;>cases h<;>rfl
   obtain⟨q1,wj,rfl,p1⟩:=t6 h1 r1;rw[h2.str]at r2;obtain⟨t2,rfl⟩:=r2;exact⟨SeqAt.RcAt.list_str _ _ p1 gv,SeqAt.EqAt.list_str _ _ p1 gv,SeqAt.RcNeAt.list_str _ _ p1 gv⟩
  case lst.tup=>
   obtain rfl:k=false:=by cases n<;>cases h<;>rfl
   obtain⟨q1,wj,rfl,p1⟩:=t6 h1 r1;obtain⟨q2,g_,rfl,p2⟩:=tN h2 r2;exact⟨SeqAt.RcAt.list_tuple p1 p2 gv,SeqAt.EqAt.list_tuple p1 p2 gv,SeqAt.RcNeAt.list_tuple p1 p2 gv⟩
  case lst.dct=>exact nW ((aW n (.inr (.inr rfl))).symm.trans h) h1 h2 r1 r2
  case dct.non=>exact nW ((aW n (.inl ⟨rfl,rfl⟩)).symm.trans h) h1 h2 r1 r2
  case dct.bl=>exact nW ((aW n (.inl ⟨rfl,rfl⟩)).symm.trans h) h1 h2 r1 r2
  case dct.int=>exact nW ((aW n (.inl ⟨rfl,rfl⟩)).symm.trans h) h1 h2 r1 r2
  case dct.str=>exact nW ((aW n (.inl ⟨rfl,rfl⟩)).symm.trans h) h1 h2 r1 r2
  case dct.tup=>exact nW ((aW n (.inr (.inl rfl))).symm.trans h) h1 h2 r1 r2
  case dct.lst=>exact nW ((aW n (.inr (.inl rfl))).symm.trans h) h1 h2 r1 r2
  case dct.dct=>exact nW ((aW n (.inl ⟨rfl,rfl⟩)).symm.trans h) h1 h2 r1 r2
  case tup.tup as bs=>
   cases n with
   |zero=>cases h
   |succ n=>
    have hk:=h;have hs:=λ(z:v1=v2)=>zf I (n+1) (d1:=.tup as) (d2:=.tup bs) (v:=v1) h h1 (z▸h2);obtain⟨q,vs,rfl,hq,ta⟩:=h1.tup;obtain⟨q',ws,rfl,iU,tb⟩:=h2.tup;cases r1;cases r2;obtain⟨its,ra,pa,_⟩:=I.tuple hq;obtain⟨g_,rb,pb,_⟩:=I.tuple iU;have hi:=yM I n (A:=A.in1) (show A.units+1+n<cLine by lia) (ih n (A71 n)) hk ta tb ra rb;have e:=(l7 hk).1;have la:=ta.length;have lb:=tb.length;have U2:=ra.length;have W6:=rb.length;have t1:=SeqAt.RcAt.tuples (s:=s) (A:=A) (pa) (pb) gv hi;have t2:=SeqAt.RcNeAt.tuples (s:=s) (A:=A) (pa) (pb) gv hi;simp only[A07]at t1 t2;rw[<-U2,<-W6,la,lb,<-e]at t1 t2;refine⟨t1,?_,t2⟩;by_cases Sl:q=q'
    ·subst Sl;rw[hs rfl];exact B86 _
    ·exact SeqAt.EqAt.of_refs Sl t1
  case lst.lst as bs=>
   cases n with
   |zero=>cases h
   |succ n=>
    have hk:=h;have hs:=λ(z:v1=v2)=>zf I (n+1) (d1:=.lst as) (d2:=.lst bs) (v:=v1) h h1 (z▸h2);obtain⟨q,vs,rfl,hq,ta⟩:=h1.lst;obtain⟨q',ws,rfl,iU,tb⟩:=h2.lst;cases r1;cases r2;obtain⟨its,ra,pa,_⟩:=I.list hq;obtain⟨g_,rb,pb,_⟩:=I.list iU;have e:=(l7 hk).1;have la:=ta.length;have lb:=tb.length;have U2:=ra.length;have W6:=rb.length;have t:SeqAt.RcAt A s (.ref q) (.ref q') k/\SeqAt.RcNeAt A s (.ref q) (.ref q') (!k):=by
     by_cases ψ:as.length=bs.length
     ·have hi:=yM I n (A:=A.in1) (show A.units+1+n<cLine by lia) (ih n (A71 n)) hk ta tb ra rb;have t1:=SeqAt.RcAt.lists (s:=s) (A:=A) pa.isList pb.isList (by simp only[A07];lia) gv hi;have t2:=SeqAt.RcNeAt.lists (s:=s) (A:=A) pa.isList pb.isList (by simp only[A07];lia) gv hi;simp only[A07]at t1 t2;rw[<-U2,la]at t1 t2;rw[ψ,Nat.min_self,B48,Bool.and_true,<-ψ]at e;rw[<-e]at t1 t2;exact⟨t1,t2⟩
     ·have:(as.length==bs.length)=false:=by simpa using ψ
      rw[this,Bool.and_false]at e;subst e;exact⟨SeqAt.RcAt.lists_lengths pa.isList pb.isList (by simp only[A07,B51,ne_eq];lia) gv,SeqAt.RcNeAt.lists_lengths pa.isList pb.isList (by simp only[A07,B51,ne_eq];lia) gv⟩
    refine⟨t.1,?_,t.2⟩;by_cases Sl:q=q'
    ·subst Sl;rw[hs rfl];exact B86 _
    ·exact SeqAt.EqAt.of_refs Sl t.1
theorem QO(I:Inv X χ σ H s)(n:Nat):∀{A}{d1 d2}{v1 v2}{u1 u2}{k},A.units+n<cLine->Z.fS n d1 d2=some k->bU X.K H d1 v1->bU X.K H d2 v2->RelV v1 u1->RelV v2 u2->SeqAt.RcAt A s u1 u2 k/\SeqAt.EqAt A s u1 u2 k/\SeqAt.RcNeAt A s u1 u2 (!k):=by
 induction n using Nat.strongRecOn with
 |_ n ih=>exact W5 I n ih
theorem j!(hu:X.A.units+64<cLine):Bp X .Eq Z.oEq:=by
 have ho:jv X (compareOp .Eq) (λ x y H Q=>∃d1 d2 k,bU X.K H d1 x/\bU X.K H d2 y/\Z.i' d1 d2=some k/\Q (.bl k) H):=by intro χ s σ H x y v u Q I rx ry h;obtain⟨d1,d2,k,h1,h2,e,q⟩:=h;exact(QO I 6 (by lia) e h1 h2 rx ry).1 _ X.w X.xe _ ⟨.bl k,H,I,rfl,q⟩
 exact⟨_,ho,λ x y dx dy d H Q h1 h2 e k=>by
  unfold Z.oEq at e;split at e
  ·rename_i z hz;cases e;exact⟨dx,dy,z,h1,h2,hz,k _ H (aH.refl H) dG⟩
  ·cases e⟩
theorem mD(hu:X.A.units+64<cLine):Bp X .NotEq Z.jY:=by
 have ho:jv X (compareOp .NotEq) (λ x y H Q=>∃d1 d2 k,bU X.K H d1 x/\bU X.K H d2 y/\Z.i' d1 d2=some k/\Q (.bl (!k)) H):=by intro χ s σ H x y v u Q I rx ry h;obtain⟨d1,d2,k,h1,h2,e,q⟩:=h;exact(QO I 6 (by lia) e h1 h2 rx ry).2.2 _ X.w X.xe _ ⟨.bl (!k),H,I,rfl,q⟩
 exact⟨_,ho,λ x y dx dy d H Q h1 h2 e k=>by
  unfold Z.jY at e;split at e
  ·rename_i z hz;cases e;exact⟨dx,dy,z,h1,h2,hz,k _ H (aH.refl H) dG⟩
  ·cases e⟩
theorem Gx:∀{a b},DO a=DO b->a=b
 |.inl a,.inl b,h=>by injection h with h;rw[h]
 |.inl _,.inr _,h=>by cases h
 |.inr _,.inl _,h=>by cases h
 |.inr a,.inr b,h=>by
  injection h with h
  injection h with h
  have:a=b:=by simpa using A22 Array.toList h
  rw[this]
theorem uL:∀{a b:γ _},a.map DO=b.map DO->a=b
 |[],[],_=>rfl
 |[],_::_,h=>by cases h
 |_::_,[],h=>by cases h
 |a::as,b::bs,h=>by simp only[A05,List.cons.injEq]at h;rw[Gx h.1,uL h.2]
theorem Cu{a:δ}(I:Inv X χ σ H s)(hq:H a=some (.fM o (.dK kvs))):∃o',s.heap.get? a=some o'/\o'.cls=.type "dict":=by
 obtain⟨_,_,_,_,_,o',es,ep,h1,h2,_⟩:=(I.cC a _ hq)
 exact⟨o',h1,h2.1⟩
theorem FA{a:δ}(I:Inv X χ σ H s)(h:lx X.K H a xs)(h':H a=some (.fM o (.dK kvs))):False:=by obtain⟨its,r,⟨o1,e,c,n,d⟩,_⟩:=I.tuple h;obtain⟨o2,e',c'⟩:=Cu I h';rw[e]at e';cases e';rw[c]at c';injection c' with z;exact absurd z (by decide)
theorem FC{a:δ}(I:Inv X χ σ H s)(h:jw X.K H a xs)(h':H a=some (.fM o (.dK kvs))):False:=by obtain⟨its,r,⟨o1,n,e,c,_⟩,_⟩:=I.list h;obtain⟨o2,e',c'⟩:=Cu I h';rw[e]at e';cases e';rw[c]at c';injection c' with z;exact absurd z (by decide)
mutual
theorem Den.inj{χ:γ (δ×ι)}{σ:St}{H:Hp}{s:η}(I:Inv X χ σ H s):∀(d1 d2:Z.D)(v:V),Den X.K H d1 v->Den X.K H d2 v->d1=d2
 |.non,d2,v,h1,h2=>by
  simp only[Den]at h1;subst h1;cases d2<;>simp only[Den]at h2<;>first|rfl|(cases h2;done)|skip
  case tup=>obtain⟨_,_,e,_⟩:=h2;cases e
  case lst=>obtain⟨_,_,e,_⟩:=h2;cases e
  case dct=>obtain⟨_,_,_,e,_⟩:=h2;cases e
 |.bl b,d2,v,h1,h2=>by
  simp only[Den]at h1;subst h1;cases d2<;>simp only[Den]at h2<;>first|(injection h2 with h2;rw[h2])|(cases h2;done)|skip
  case tup=>obtain⟨_,_,e,_⟩:=h2;cases e
  case lst=>obtain⟨_,_,e,_⟩:=h2;cases e
  case dct=>obtain⟨_,_,_,e,_⟩:=h2;cases e
 |.int i,d2,v,h1,h2=>by
  simp only[Den]at h1;subst h1;cases d2<;>simp only[Den]at h2<;>first|(injection h2 with h2;rw[h2])|(cases h2;done)|skip
  case tup=>obtain⟨_,_,e,_⟩:=h2;cases e
  case lst=>obtain⟨_,_,e,_⟩:=h2;cases e
  case dct=>obtain⟨_,_,_,e,_⟩:=h2;cases e
 |.str cs,d2,v,h1,h2=>by
  simp only[Den]at h1;subst h1;cases d2<;>simp only[Den]at h2<;>first|(injection h2 with h2;injection h2 with h2;have:=A22 Array.toList h2;simp at this;rw[this])|(cases h2;done)|skip
  case tup=>obtain⟨_,_,e,_⟩:=h2;cases e
  case lst=>obtain⟨_,_,e,_⟩:=h2;cases e
  case dct=>obtain⟨_,_,_,e,_⟩:=h2;cases e
 |.tup ds,d2,v,h1,h2=>by
  simp only[Den]at h1;obtain⟨a,vs,rfl,q,t⟩:=h1;cases d2<;>simp only[Den]at h2
  case tup es=>obtain⟨a',IQ,e,q',t'⟩:=h2;cases e;rw[I.oV q' q]at t';rw[aE.inj I ds es vs t t']
  case lst es=>obtain⟨a',IQ,e,q',t'⟩:=h2;cases e;exact(vQ I q q'.sq).elim
  case dct ks es=>obtain⟨a',o,kvs,e,q',_⟩:=h2;cases e;exact(FA I q q').elim
  all_goals cases h2
 |.lst ds,d2,v,h1,h2=>by
  simp only[Den]at h1;obtain⟨a,vs,rfl,q,t⟩:=h1;cases d2<;>simp only[Den]at h2
  case lst es=>obtain⟨a',IQ,e,q',t'⟩:=h2;cases e;rw[I.n6 q'.sq q.sq]at t';rw[aE.inj I ds es vs t t']
  case tup es=>obtain⟨a',IQ,e,q',t'⟩:=h2;cases e;exact(vQ I q' q.sq).elim
  case dct ks es=>obtain⟨a',o,kvs,e,q',_⟩:=h2;cases e;exact(FC I q.sq q').elim
  all_goals cases h2
 |.dct ks ds,d2,v,h1,h2=>by
  simp only[Den]at h1;obtain⟨a,o,kvs,rfl,q,hk,t,_⟩:=h1;cases d2<;>simp only[Den]at h2
  case lst es=>obtain⟨a',IQ,e,q',t'⟩:=h2;cases e;exact(FC I q'.sq q).elim
  case tup es=>obtain⟨a',IQ,e,q',t'⟩:=h2;cases e;exact(FA I q' q).elim
  case dct _E es=>obtain⟨a',o',abM,e,q',Sx,t',_⟩:=h2;cases e;rw[q]at q';cases q';rw[aE.inj I ds es _ t t',uL (hk.symm.trans Sx)]
  all_goals cases h2
theorem aE.inj{χ:γ (δ×ι)}{σ:St}{H:Hp}{s:η}(I:Inv X χ σ H s):∀(d1 d2:γ Z.D)(v:γ V),aE X.K H d1 v->aE X.K H d2 v->d1=d2
 |[],d2,v,h1,h2=>by
  simp only[aE]at h1;subst h1;cases d2 with
  |nil=>rfl
  |cons d ds=>simp only[aE]at h2;obtain⟨_,_,e,_⟩:=h2;cases e
 |d::ds,d2,v,h1,h2=>by
  simp only[aE]at h1;obtain⟨u,r,rfl,q,t⟩:=h1;cases d2 with
  |nil=>simp only[aE]at h2;cases h2
  |cons d' ZD=>simp only[aE]at h2;obtain⟨u',r',e,q',t'⟩:=h2;cases e;rw[Den.inj I d d' u q q',aE.inj I ds ZD r t t']
end
theorem sY:∀{ys}{k},Z.fK x ys=some k->k=ys.any (λ y=>(Z.i' y x).getD false)/\∀y∈ys,Z.i' y x=some ((Z.i' y x).getD false)
 |[],k,h=>by cases h;exact⟨rfl,λ y hy=>by cases hy⟩
 |y::ys,k,h=>by
  unfold Z.fK at h;split at h
  ·rename_i a b ea eb;cases h;obtain⟨h1,h2⟩:=sY eb;refine⟨by rw[A92,ea,h1];rfl,λ z hz=>?_⟩;rcases v6.mp hz with rfl|hz
   ·rw[ea];rfl
   ·exact h2 z hz
  ·cases h
theorem wm(I:Inv X χ σ H s)(hu:A.units+60<cLine)(hx:bU X.K H x v)(rx:RelV v u):∀{ys}{vs}{us},aE X.K H ys vs->Vals vs us->(∀y∈ys,Z.i' y x=some ((Z.i' y x).getD false)) ->
  ∃e,(∀w∈us,SeqAt.EqAt A s w u (e w))/\us.any e=ys.any (λ y=>(Z.i' y x).getD false):=by
 intro ys vs us;have key:∀{ys}{vs}{us},aE X.K H ys vs->Vals vs us->(∀y∈ys,Z.i' y x=some ((Z.i' y x).getD false))->(∀w∈us,∃b,SeqAt.EqAt A s w u b)/\∀e,(∀w∈us,∀y vy,Den X.K H y vy->RelV vy w->y∈ys->e w=(Z.i' y x).getD false)->us.any e=ys.any (λ y=>(Z.i' y x).getD false):=by
  intro ys
  induction ys with
  |nil=>intro vs us t r _;simp only[aE]at t;subst t;cases r;exact⟨λ w hw=>(by cases hw),λ _ _=>rfl⟩
  |cons y ys ih=>
   intro vs us t r hh;simp only[aE]at t;obtain⟨vy,vr,rfl,dy,tr⟩:=t;cases r with
   |cons ry rr=>
    obtain⟨h1,h2⟩:=ih tr rr (λ z hz=>hh z (A09 _ hz));refine⟨λ w hw=>?_,λ e he=>?_⟩
    ·rcases v6.mp hw with rfl|hw
     ·exact⟨_,(QO I 6 (by lia) (hh y A12) (.inl dy) hx ry rx).2.1⟩
     ·exact h1 w hw
    ·rw[A92,A92,he _ A12 y vy dy ry A12,h2 e λ w hw z vz dz rz hz=>he w (A09 _ hw) z vz dz rz (A09 _ hz)]
 intro t r hh
 classical
 let e:=λ w=>if h:∃y vy,Den X.K H y vy/\RelV vy w/\y∈ys then(Z.i' h.choose x).getD false else false
 have he:∀w y vy,Den X.K H y vy->RelV vy w->y∈ys->e w=(Z.i' y x).getD false:=by
  intro w y vy dy ry hy;have hex:∃y vy,Den X.K H y vy/\RelV vy w/\y∈ys:=⟨y,vy,dy,ry,hy⟩
  show(if h:_ then _ else _)=_;rw[dif_pos hex];obtain⟨vy',ZC,WZ,GQ⟩:=hex.choose_spec;have ev:=WZ.inj ry;subst ev;rw[Den.inj I _ _ _ ZC dy]
 refine⟨e,λ w hw=>?_,(key t r hh).2 e λ w hw y vy dy ry hy=>he w y vy dy ry hy⟩;obtain⟨j,hj,ej⟩:=B88 hw;have hl:=r.length;have ht:=t.length;obtain⟨y,ey⟩:∃y,ys[j]?=some y:=⟨ys[j]'(by lia),A01 (by lia)⟩
 obtain⟨vy,L?,dy⟩:=t.get ey;obtain⟨u',Zc,QH⟩:=r.get L?;have:u'=w:=by have:=A01 hj;rw[Zc,ej]at this;exact A04 this
 subst this;have hy:=A15 ey;rw[he _ y vy dy QH hy];exact(QO I 6 (by lia) (hh y hy) (.inl dy) hx QH rx).2.1
theorem Nb(hu:X.A.units+64<cLine):jv X (compareOp .In) (λ x y H Q=>∃d ys q vs k,bU X.K H d x/\y=.ref q/\(jw X.K H q vs\/lx X.K H q vs)/\aE X.K H ys vs/\Z.fK d ys=some k/\Q (.bl k) H):=by
 intro χ s σ H x y v u Q I rx ry h;obtain⟨d,ys,q,vs,k,hd,rfl,hq,t,e,k'⟩:=h;cases ry;obtain⟨e1,e2⟩:=sY e;subst e1;rcases hq with hq|hq
 ·obtain⟨its,r,pl,hz⟩:=I.list hq;obtain⟨f,hf,D?⟩:=wm I (A:=X.A.in1) (show X.A.units+1+60<cLine by lia) hd rx t r e2;refine SeqAt.in_listAt f pl.isList (λ w hw=>hf w (by simpa using hw)) ⟨.bl _,H,I,rfl,?_⟩;rw[show its.toArray.any f=its.any f by simp,D?];exact k'
 ·obtain⟨its,r,pl,hz⟩:=I.tuple hq;obtain⟨f,hf,D?⟩:=wm I (A:=X.A.in1) (show X.A.units+1+60<cLine by lia) hd rx t r e2;refine SeqAt.in_tupleAt f pl (λ w hw=>hf w (by simpa using hw)) ⟨.bl _,H,I,rfl,?_⟩;rw[show its.toArray.any f=its.any f by simp,D?];exact k'
theorem Dh(hu:X.A.units+64<cLine):jv X (compareOp .NotIn) (λ x y H Q=>∃d ys q vs k,bU X.K H d x/\y=.ref q/\(jw X.K H q vs\/lx X.K H q vs)/\aE X.K H ys vs/\Z.fK d ys=some k/\Q (.bl (!k)) H):=by
 intro χ s σ H x y v u Q I rx ry h;obtain⟨d,ys,q,vs,k,hd,rfl,hq,t,e,k'⟩:=h;cases ry;obtain⟨e1,e2⟩:=sY e;subst e1;rcases hq with hq|hq
 ·obtain⟨its,r,pl,hz⟩:=I.list hq;obtain⟨f,hf,D?⟩:=wm I (A:=X.A.in1) (show X.A.units+1+60<cLine by lia) hd rx t r e2;refine SeqAt.notIn_listAt f pl.isList (λ w hw=>hf w (by simpa using hw)) ⟨.bl _,H,I,rfl,?_⟩;rw[show its.toArray.any f=its.any f by simp,D?];exact k'
 ·obtain⟨its,r,pl,hz⟩:=I.tuple hq;obtain⟨f,hf,D?⟩:=wm I (A:=X.A.in1) (show X.A.units+1+60<cLine by lia) hd rx t r e2;refine SeqAt.notIn_tupleAt f pl (λ w hw=>hf w (by simpa using hw)) ⟨.bl _,H,I,rfl,?_⟩;rw[show its.toArray.any f=its.any f by simp,D?];exact k'
theorem TM(hu:X.A.units+64<cLine):Bp X .In Z.Ds:=⟨_,Nb hu,λ x y dx dy d H Q h1 h2 e k=>by
 unfold Z.Ds at e;split at e
 ·split at e
  ·rename_i b hb;cases e;obtain⟨q,vs,rfl,hq,t⟩:=h2.tup;exact⟨dx,_,q,vs,b,h1,rfl,.inr hq,t,hb,k _ H (aH.refl H) dG⟩
  ·cases e
 ·split at e
  ·rename_i b hb;cases e;obtain⟨q,vs,rfl,hq,t⟩:=h2.lst;exact⟨dx,_,q,vs,b,h1,rfl,.inl hq,t,hb,k _ H (aH.refl H) dG⟩
  ·cases e
 ·cases e⟩
theorem Cz(hu:X.A.units+64<cLine):Bp X .NotIn Z.kB:=⟨_,Dh hu,λ x y dx dy d H Q h1 h2 e k=>by
 unfold Z.kB at e;split at e
 ·split at e
  ·rename_i b hb;cases e;obtain⟨q,vs,rfl,hq,t⟩:=h2.tup;exact⟨dx,_,q,vs,b,h1,rfl,.inr hq,t,hb,k _ H (aH.refl H) dG⟩
  ·cases e
 ·split at e
  ·rename_i b hb;cases e;obtain⟨q,vs,rfl,hq,t⟩:=h2.lst;exact⟨dx,_,q,vs,b,h1,rfl,.inl hq,t,hb,k _ H (aH.refl H) dG⟩
  ·cases e
 ·cases e⟩
theorem CG:∀{xs}{k},Z.allB xs=some k->∃bs:γ Bool,xs=bs.map Z.D.bl/\k=bs.all id
 |[],k,h=>by cases h;exact⟨[],rfl,rfl⟩
 |x::xs,k,h=>by
  cases x with
  |bl b=>
   have h':(Z.allB xs).map _=some k:=h;cases q:Z.allB xs with
   |none=>rw[q]at h';cases h'
   |some k'=>rw[q]at h';cases h';obtain⟨bs,rfl,rfl⟩:=CG q;exact⟨b::bs,rfl,rfl⟩
  |non=>cases h
  |int _=>cases h
  |str _=>cases h
  |tup _=>cases h
  |lst _=>cases h
  |dct _ _=>cases h
theorem zk{K:W.Frag}:∀{bs:γ Bool}{vs},aE K H (bs.map Z.D.bl) vs->vs=bs.map V.bl
 |[],vs,h=>by simp only[A73]at h;subst h;rfl
 |b::bs,vs,h=>by simp only[A05]at h;obtain⟨v,r,rfl,hv,ht⟩:=h;simp only[Den]at hv;rw[hv,zk ht];rfl
theorem all_range(bs:γ Bool):((List.range bs.length).all λ i=>bs[i]?.getD true)=bs.all id:=by
 induction bs with
 |nil=>rfl
 |cons b bs ih=>
  rw[A36,C37,B87,List.all_map,B87];have:((λ i=>((b::bs)[i]?).getD true)∘Nat.succ)=λ i=>bs[i]?.getD true:=by funext i;simp
  rw[this,ih];simp
theorem Ey(hc:X.calm=true):iG X (.builtin "all") (λ xs H Q=>∃(q:δ) (bs:γ Bool),xs=[.ref q]/\jw X.K H q (bs.map V.bl)/\Q (.bl (bs.all id)) H):=by
 intro χ s σ H xs us Q I r h;obtain⟨q,bs,rfl,hq,k⟩:=h;obtain⟨u,rfl,ru⟩:=vals1 r;cases ru;obtain⟨its,rv,pl,hz⟩:=I.list hq;have hl:=rv.length;rw[A03]at hl;have lN:q<s.heap.objs.size:=by obtain⟨_,e,_⟩:=pl.isList;exact A00 e
 have hh:X.A.in1.handled=none:=I.ok.hd hc;refine call_all_walk (A98 pl.isList ?_);refine⟨_,[s.heap.objs.size,q],[s.heap.objs.size],_,_,_,λ i=>bs[i]?.getD true,rfl,B28 hh _ q (A10 lN) _,⟨⟨_,A11 _ rfl,rfl,rfl⟩,pl.isList.push _⟩,?_,λ h' tk hk=>?_⟩
 ·intro i v s' Q' E' hv hQ;have hi:its[i]?=some v:=by simpa using hv
  obtain⟨KL,_⟩:=A02.mp hi;have hb:(bs.map V.bl)[i]?=some (V.bl (bs[i]'(by lia))):=by rw[P3,A01];rfl
  obtain⟨u,hu,ru⟩:=rv.get hb;rw[hi]at hu;cases hu;cases ru;refine A53 ?_;have:bs[i]?.getD true=bs[i]'(by lia):=by rw[A01];rfl
  rw[<-this];exact hQ
 ·have I1:Inv X χ σ H {s with heap:=s.heap.push {cls:=.type "list_iterator",data:=.fields #[.ref q,.int 0 0]}}:=I.kept λ b o e=>W1 _ e;obtain⟨f0,f1,f2,f3,f4,f5⟩:=I.qy (o0 s.heap.objs.size) I.fresh;have I2:=I1.turned (t':=tk) (λ b o hb e=>hk b o (by simpa using hb) e) f0 f1 f3 f4 f5;refine⟨.bl _,H,I2,rfl,?_⟩;have e:(List.range its.toArray.size).all (λ i=>bs[i]?.getD true)=bs.all id:=by rw[A07,<-hl,all_range]
  rw[e];exact k
theorem _root_.ZQ.gK(hm:X.mg x=none)(ha:ZQ.QW X a fa)(hc:X.calm=true:=by rfl)(hn:x≠ "__name__":=by decide +kernel)(ji:(x == ("__debug__"))=false:=by decide +kernel)(he:Se a [] X.env:=by rfl)(iV:Pn pos [] X.env:=by rfl)(hg:Gl X x:=by rfl)(hv:bootBuiltins x=some (.builtin "all"):=by kernel_rfl):ZQ.QE X (.Call (.Name x p1) [a] [] pos) (Z.eU Z.g? fa):=
 ⟨PE.imp (j6 (Ey hc) hg hm hv (bF ha.p cI he) hn ji he iV) λ σ H Q ⟨ρ,d,r,e,k⟩=>by
  obtain⟨x,ea,e⟩:=Z.Res.ax e;refine⟨ρ,x,r,ea,λ v H1 s1 d1=>?_⟩;unfold Z.g? at e;split at e
  ·split at e
   ·rename_i xs k' hk;cases e;obtain⟨bs,rfl,rfl⟩:=CG hk;obtain⟨q,vs,rfl,hq,t⟩:=d1.lst;rw[zk t]at hq;exact⟨q,bs,rfl,hq,k _ H1 s1 dG⟩
   ·cases e
  ·cases e⟩
end
section
theorem _root_.ZQ.au(ha:ZQ.QE X (.Constant v j p) f)(hr:ZQ.QA X es g):ZQ.QA X ((.Constant v j p)::es) (Z.aa f g):=⟨kR ha.p hr.p rfl⟩
theorem _root_.ZQ.ab(ha:ZQ.QE X (.Name x p) f)(hr:ZQ.QA X es g):ZQ.QA X ((.Name x p)::es) (Z.aa f g):=⟨kR ha.p hr.p rfl⟩
theorem _root_.ZQ.j9(ha:ZQ.QE X (.Tuple xs j p) f)(hr:ZQ.QA X es g):ZQ.QA X ((.Tuple xs j p)::es) (Z.aa f g):=⟨kR ha.p hr.p rfl⟩
theorem _root_.ZQ.eY(ha:ZQ.QE X (.BinOp x o y p) f)(hr:ZQ.QA X es g):ZQ.QA X ((.BinOp x o y p)::es) (Z.aa f g):=⟨kR ha.p hr.p rfl⟩
theorem _root_.ZQ.aZ(ha:ZQ.QE X (.Call x xs ks p) f)(hr:ZQ.QA X es g):ZQ.QA X ((.Call x xs ks p)::es) (Z.aa f g):=⟨kR ha.p hr.p rfl⟩
theorem _root_.ZQ.a5(ha:ZQ.QE X (.Subscript x y p) f)(hr:ZQ.QA X es g):ZQ.QA X ((.Subscript x y p)::es) (Z.aa f g):=⟨kR ha.p hr.p rfl⟩
theorem _root_.ZQ.HK(ha:ZQ.QE X (.ListComp x gs sc p) f)(hr:ZQ.QA X es g):ZQ.QA X ((.ListComp x gs sc p)::es) (Z.aa f g):=⟨kR ha.p hr.p rfl⟩
end
end ZS
namespace ZQ
open PySem PySem.Spec PyProof.Rows L2 ZS
abbrev St:=L2.St
section
theorem qQ(hcalm:X.calm=true)(hN:X.N.Nodup)(hix:X.N[i]?=some x)(hx:Loc X.env.scope x)(hi:QI X tg iter it)(B:qF X.N N' n is scope X.env.scope)(hG:∀d ρ ρ1,G d ρ=.ok ρ1->ρ1.length=ρ.length/\∀i,n<=i->ρ1[i]?=ρ[i]?)(hg:∀cl C fp s H H0,QG (mq X N' scope cl C fp s H) H0 tg G)(ht:∀cl C fp s H,Ia (mq X N' scope cl C fp s H) ifs t)(he:∀cl C fp s H,QE (mq X N' scope cl C fp s H) elt fe)(hsw:swapsWith (.ListComp elt [⟨tg,iter,ifs,0⟩] scope pos) (some (.Name x px)) Ac.line X.env=pure true:=by rfl)(hs:∀x,foldedSetIterable iter X.env x=pure x:=by intro _;rfl)(hf:Fl X x:=by trivial):QS X H0 (.Assign [.Name x px] (.ListComp elt [⟨tg,iter,ifs,0⟩] scope pos) Ac) (Z.jQ i (Z.bK it n is G t fe)):=⟨ZS.qQ (hcalm:=hcalm) (hN:=hN) (hix:=hix) (hx:=hx) (hi:=hi.p) (B:=B) (hG:=hG) (hg:=λ y0 y1 y2 y3 y4 y5=>(hg y0 y1 y2 y3 y4 y5).p) (ht:=λ y0 y1 y2 y3 y4=>(ht y0 y1 y2 y3 y4).p) (he:=λ y0 y1 y2 y3 y4=>(he y0 y1 y2 y3 y4).p) (hsw:=hsw) (hs:=hs) (hf:=hf)⟩
theorem _root_.ZS.S!(h1:sc.kind=.function:=by rfl)(h2:sc.isCoroutine=false:=by rfl)(h3:sc.isGenerator=false:=by rfl)(h4:N.Nodup:=by decide +kernel)(h5:N.take P.length=P:=by rfl)(h6:∀x∈P,sc.names.lookup x=some .local\/sc.names.lookup x=some .cell:=by decide +kernel)(h7:∀y∈sc.names,y.2≠.free:=by decide +kernel):c6 N P sc:=⟨h1,h2,h3,h4,h5,h6,h7⟩
theorem bq{K:W.Frag}{st:ν}(d:ZS.Def K mg x st ps)(hb:∀{f}{cV}{A}{outer}{s}{H}{E},N.Nodup->(A.deeper (envOfC x (aB st) s.heap.objs.size f cV)).units+64<cLine->d? k (A.deeper (envOfC x (aB st) s.heap.objs.size f cV))->CH (iZ oO P w K mg base N x (aB st) f cV A outer s H E).qJ H (bB st) b)(S:c6 N ps (aB st):=by exact ZS.S!):ZS.e6 P w K mg base x (k+1) ps (Z.fn ps.length N.length b):=ZS.e6.mk' d S λ f cV A outer s H E hr=>(hb S.nd hr.units hr).p
theorem Y?{K:W.Frag}{st:ν}(F:Ii K x qual st f fd)(hb:∀{cV}{A}{outer}{s}{H}{E},N.Nodup->(A.deeper (envOfC qual (aB st) s.heap.objs.size f cV)).units+64<cLine->d? k (A.deeper (envOfC qual (aB st) s.heap.objs.size f cV))->CH (iZ oO P w K mg base N qual (aB st) f cV A outer s H E).qJ H (bB st) b)(S:c6 N ps (aB st):=by exact ZS.S!):ki P w K mg base oO (k+1) f fd ps (ZS.xl K (Z.fn ps.length N.length b)):=ZS.fnZ F S λ cV A outer s H E hr=>(hb S.nd hr.units hr).p
end
end ZQ
noncomputable section
namespace Z
def dX:D->Res D
 |.lst xs=>.ok (.tup xs)
 |.tup xs=>.ok (.tup xs)
 |_=>.bad
@[simp] theorem Nj(xs:γ D):dX (.lst xs)=.ok (.tup xs):=rfl
@[simp] theorem Ni(xs:γ D):dX (.tup xs)=.ok (.tup xs):=rfl
def Nm:D->D->Res D
 |.int i,.int j=>.ok (.bl (decide (0<=i/\i<j)))
 |_,_=>.bad
@[simp] theorem Nl(i j:Int):Nm (.int i) (.int j)=.ok (.bl (decide (0<=i/\i<j))):=rfl
def Dp:D->D->Res D
 |.int i,.int j=>.ok (.bl (!decide (0<=i/\i<j)))
 |_,_=>.bad
@[simp] theorem Iq(i j:Int):Dp (.int i) (.int j)=.ok (.bl (!decide (0<=i/\i<j))):=rfl
def aS:γ Nat:=[97,98,99,100,101,102,103,104,105,106,107,108,109,110,111,112,113,114,115,116,117,118,119,120,121,122]
def signs:γ Nat:=[46,61,35,97,98,99,100,101,102,103,104,105,106,107,108,109,110,111,112,113,114,115,116,117,118,119,120,121,122]
def F9:D->D->Res D
 |.int i,.int j=>.ok (.int (max i j))
 |_,_=>.bad
@[simp] theorem Rp(i j:Int):F9 (.int i) (.int j)=.ok (.int (max i j)):=rfl
def Xj:D->D->Res D
 |.int i,.int j=>.ok (.int (min i j))
 |_,_=>.bad
@[simp] theorem Ro(i j:Int):Xj (.int i) (.int j)=.ok (.int (min i j)):=rfl
def t5:D->Res D
 |.int i=>.ok (.int i)
 |.bl b=>.ok (.int (if b then 1 else 0))
 |_=>.bad
@[simp] theorem Rw(i:Int):t5 (.int i)=.ok (.int i):=rfl
@[simp] theorem U_(b:Bool):t5 (.bl b)=.ok (.int (if b then 1 else 0)):=rfl
def lOf(a:EF)(ρ:Env):Res (γ D):=(a ρ).bind λ x=>match x with
 |.lst xs=>.ok xs
 |.tup xs=>.ok xs
 |_=>.bad
def Gr:D->Res (γ D)
 |.lst xs=>.ok xs
 |.tup xs=>.ok xs
 |_=>.bad
@[simp] theorem _D(a:EF)(ρ:Env):lOf a ρ=(a ρ).bind Gr:=rfl
@[simp] theorem Pm(xs:γ D):Gr (.lst xs)=.ok xs:=rfl
@[simp] theorem Pk(xs:γ D):Gr (.tup xs)=.ok xs:=rfl
def sO(x:D):γ D->ε Nat
 |[]=>some 0
 |y::r=>match i' y x,sO x r with
  |some a,some b=>some (b+(if a then 1 else 0))
  |_,_=>none
def v?:D->D->Res D
 |.lst ys,x=>match sO x ys with
  |some n=>.ok (.int n)
  |none=>.bad
 |_,_=>.bad
def x!:γ D->ε Int
 |[]=>some 0
 |.int i::r=>(x! r).map (i+·)
 |_::_=>none
def F4:D->Res D
 |.lst xs=>match x! xs with
  |some i=>.ok (.int i)
  |none=>.bad
 |_=>.bad
theorem uu:∀(ns:γ Int),x! (ns.map D.int)=some ns.sum
 |[]=>rfl
 |n::ns=>by simp[x!,uu ns]
def qr(i:Nat)(l:LF)(ρ:Env):Res Fl:=(l ρ).bind λ ys=>match ρ[i]? with
 |some (some (.own xs))=>guard (xs.length+ys.length<=line) (.ok (.nx (ρ.set i (some (.own (xs++ys))))))
 |_=>.bad
def pair(a b:D):D:=.tup [a,b]
def gm(k:Nat):γ D->γ D
 |[]=>[]
 |d::ds=>pair (.int k) d::gm (k+1) ds
def e!:γ D->γ D->γ D
 |a::as,b::bs=>pair a b::e! as bs
 |_,_=>[]
def GN(a:EF)(ρ:Env):Res (γ D):=(a ρ).bind λ x=>(jD x).bind λ ds=>.ok (gm 0 ds)
@[simp] theorem VB(a:EF)(ρ:Env):GN a ρ=(a ρ).bind λ x=>(jD x).bind λ ds=>.ok (gm 0 ds):=rfl
def Jm:D->Res (γ D)
 |.tup xs=>.ok xs
 |.lst xs=>.ok xs
 |_=>.bad
@[simp] theorem Qx(xs:γ D):Jm (.tup xs)=.ok xs:=rfl
@[simp] theorem Qy(xs:γ D):Jm (.lst xs)=.ok xs:=rfl
def Mw:D->Res (γ D)
 |.tup xs=>.ok xs
 |_=>.bad
@[simp] theorem Qc(xs:γ D):Mw (.tup xs)=.ok xs:=rfl
def AN(a b:EF)(ρ:Env):Res (γ D):=(a ρ).bind λ x=>(b ρ).bind λ y=>(Jm x).bind λ xs=>(Mw y).bind λ ys=>.ok (e! xs ys)
@[simp] theorem X3(a b:EF)(ρ:Env):AN a b ρ=(a ρ).bind λ x=>(b ρ).bind λ y=>(Jm x).bind λ xs=>(Mw y).bind λ ys=>.ok (e! xs ys):=rfl
end Z
end
namespace ZS
open PySem PySem.Spec PyProof.Rows L2
section
variable {X:Cx}
theorem _root_.ZQ.dI(hm:X.mg x=none)(ha:ZQ.QW X a fa)(hn:x≠ "__name__":=by decide +kernel)(ji:(x==("__debug__"))=false:=by decide +kernel)(he:Se a [] X.env:=by rfl)(iV:Pn pos [] X.env:=by rfl)(hg:Gl X x:=by rfl)(hv:bootBuiltins x=some (.type "tuple"):=by kernel_rfl):ZQ.QE X (.Call (.Name x p1) [a] [] pos) (Z.eU Z.dX fa):=
 ⟨PE.imp (j5 ui hg hm hv (bF ha.p cI he) hn ji he iV) λ σ H Q ⟨ρ,d,r,e,k⟩=>by
  obtain⟨x,ea,e⟩:=Z.Res.ax e;refine⟨ρ,x,r,ea,λ v H1 s1 d1=>?_⟩;unfold Z.dX at e;split at e
  ·cases e;obtain⟨q,vs,rfl,hq,t⟩:=d1.lst;refine⟨q,vs,rfl,.inl ⟨hq,λ l hl=>?_⟩⟩;have s2:aH H1 (upd H1 l (.tup vs)):=cA hl;exact k _ _ (s1.trans s2) (fG (.inl (.inl bC)) (t.up s2))
  ·cases e;obtain⟨q,vs,rfl,hq,t⟩:=d1.tup;exact⟨q,vs,rfl,.inr ⟨hq,k _ H1 s1 (fG hq t)⟩⟩
  ·cases e⟩
end
end ZS
namespace ZQ
open PySem PySem.Spec PyProof.Rows L2 ZS
section
theorem lX(ho:PE X o (oX i))(ha:QE X a fa)(hs:swapsWith (.Call (.Attribute o "append" p1) [a] [] p2) none pos.line X.env=pure false:=by rfl)(ml:Se a [] X.env:=by rfl)
  (iD:attributeBase o "append" X.env (eval o X.env)=eval o X.env:=by rfl)
  (lO:((backTo p2 (starEach (a::[]) X.env)).all (λ x=>!x.1)&&(backToKw p2 (keywordEach [] X.env)).all (λ x=>x.1.isSome)
   && decide ((a::[]).length+([]:γ π).length+(if([]:γ π).isEmpty then 0 else 1)<30))=true:=by rfl)
  (iC:(p1.endLine==p2.line)=true:=by rfl) (f9:Pn p2 [] X.env:=by rfl) :
  QS X H0 (.Expr (.Call (.Attribute o "append" p1) [a] [] p2) pos) (Z.dC i fa):=
 ⟨ZS.Ek ho ha.p hs ml (rM B89 PySem.F.slot_list_append PySem.F.type_list_append uI ho (bF ha.p cI ml) iD lO iC ml f9)⟩
theorem Cn(ho:PE X o (oX i))(hk:QE X kx fk)(ha:QE X a fa)
  (YQ:∀ v,assign (.Subscript o kx p1) X.env v=(do
   let ov ←holding [v] (eval o X.env)
   let iv ←holding [v,ov] (eval kx X.env)
   standAt p1
   holding [v,ov,iv] (setItem ov iv v)
   release [v,ov,iv] []):=by intro _;rfl) (hs:swapsWithSole [.Subscript o kx p1] a pos.line X.env=pure false:=by rfl) (hw:swappedStores [.Subscript o kx p1] a X.env=pure none:=by rfl)
  (h1:(assignEach [.Subscript o kx p1] X.env).map (·.2)=[assign (.Subscript o kx p1) X.env]:=by rfl):QS X H0 (.Assign [.Subscript o kx p1] a pos) (Z.vK i fk fa):=⟨ZS.Ov hk.p ha.p (MY ho hk.p set_list YQ) hs hw h1⟩
end
end ZQ
namespace ZS
open PySem PySem.Spec PyProof.Rows L2
section
variable {X:Cx}
theorem Nw(i j:Int):(if j>i then j else i)=max i j:=by split<;>lia
theorem _root_.ZQ.Cq(hg:Gl X x)(hm:X.mg x=none)(hv:bootBuiltins x=some (.builtin "max"))(ha:ZQ.QW X a fa)(hb:ZQ.QW X b fb)(hc:X.calm=true:=by rfl)(hn:x≠ "__name__":=by decide +kernel)(ji:(x==("__debug__"))=false:=by decide +kernel)
  (he:Se a [b] X.env:=by rfl) (PN:Se b [] X.env:=by rfl) (iV:(backTo pos (starEach [b] X.env)).any (·.1)=false:=by rfl):ZQ.QE X (.Call (.Name x p1) [a,b] [] pos) (Z.eB Z.F9 fa fb):=
 ⟨PE.imp (j6 (Et hc) hg hm hv (bF ha.p (bF hb.p cI PN) he) hn ji he iV) λ σ H Q ⟨ρ,d,r,e,k⟩=>by
  obtain⟨x,ea,e⟩:=Z.Res.ax e;obtain⟨y,eb,e⟩:=Z.Res.ax e;refine⟨ρ,x,r,ea,λ v H1 s1 d1=>⟨ρ,y,r.up s1,eb,λ u H2 s2 d2=>?_⟩⟩;obtain⟨i,j,rfl,rfl,rfl⟩:∃i j,x=.int i/\y=.int j/\d=.int (max i j):=by
   unfold Z.F9 at e;split at e
   ·cases e;exact⟨_,_,rfl,rfl,rfl⟩
   ·cases e
  refine⟨i,j,by rw[d1.int,d2.int],?_⟩;rw[Nw];exact k _ H2 (s1.trans s2) cP⟩
theorem _root_.ZQ.Cr(hg:Gl X x)(hm:X.mg x=none)(hv:bootBuiltins x=some (.type "int"))(ha:ZQ.QW X a fa)(hn:x≠ "__name__":=by decide +kernel)(ji:(x==("__debug__"))=false:=by decide +kernel)
  (he:Se a [] X.env:=by rfl) (iV:Pn pos [] X.env:=by rfl):ZQ.QE X (.Call (.Name x p1) [a] [] pos) (Z.eU Z.t5 fa):=
 ⟨PE.imp (j5 Ex hg hm hv (bF ha.p cI he) hn ji he iV) λ σ H Q ⟨ρ,d,r,e,k⟩=>by
  obtain⟨x,ea,e⟩:=Z.Res.ax e;refine⟨ρ,x,r,ea,λ v H1 s1 d1=>?_⟩;unfold Z.t5 at e;split at e
  ·cases e;exact .inl ⟨_,by rw[d1.int],k _ H1 s1 cP⟩
  ·cases e;exact .inr ⟨_,by rw[d1.bl],k _ H1 s1 cP⟩
  ·cases e⟩
theorem Ej(hs:swapsWith (.Call (.Attribute o "extend" p1) [a] [] p2) none pos.line X.env=pure false:=by rfl)
  (YM:PE X (.Call (.Attribute o "extend" p1) [a] [] p2) (Wx X.K "list" BK (oX i) (Fd (_i X.K l) MC))) :
  DS X H0 (.Expr (.Call (.Attribute o "extend" p1) [a] [] p2) pos) (Z.qr i l):=PS.imp (BM YM hs) λ D σ H ⟨ρ,fl,rs,e,k⟩=>by
 obtain⟨ys,ea,e⟩:=Z.Res.ax e;split at e
 ·rename_i xs ei;unfold Z.guard at e;split at e
  ·rename_i hl;cases e;obtain⟨v,si,q,us,rfl,hq,t⟩:=rs.re.get i _ ei;refine⟨_,si,.inl ⟨rfl,us,jw.of hq⟩,ρ,ys,rs.re,ea,λ c vs H1 s1 hn hc tc=>?_⟩;have NU:=s1 _ _ hq;refine⟨q,c,us,vs,rfl,rfl,NU,hc,by rw[t.length,tc.length,A29];exact hl,?_⟩;exact k σ _ ((o4 s1).trans (iQ NU)) ((rs.up s1).chg ei si NU ((t.up s1).append tc))
  ·cases e
 ·cases e
theorem zw:∀{ys}{k},Z.sO x ys=some k->k=ys.countP (λ y=>(Z.i' y x).getD false)/\∀y∈ys,Z.i' y x=some ((Z.i' y x).getD false)
 |[],k,h=>by cases h;exact⟨rfl,λ y hy=>by cases hy⟩
 |y::ys,k,h=>by
  unfold Z.sO at h;split at h
  ·rename_i a b ea eb;cases h;obtain⟨h1,h2⟩:=zw eb;refine⟨by rw[B29,ea,h1];rfl,λ z hz=>?_⟩;rcases v6.mp hz with rfl|hz
   ·rw[ea];rfl
   ·exact h2 z hz
  ·cases h
theorem Lj(I:Inv X χ σ H s)(hu:A.units+60<cLine)(hx:bU X.K H x v)(rx:RelV v u)(t:aE X.K H ys vs)(r:Vals vs us)(hh:∀y∈ys,Z.i' y x=some ((Z.i' y x).getD false)):
  ∃e,(∀w∈us,SeqAt.EqAt A s w u (e w))/\us.countP e=ys.countP (λ y=>(Z.i' y x).getD false):=by
 classical
 let e:=λ w=>if h:∃y vy,Den X.K H y vy/\RelV vy w/\y∈ys then(Z.i' h.choose x).getD false else false
 have he:∀w y vy,Den X.K H y vy->RelV vy w->y∈ys->e w=(Z.i' y x).getD false:=by
  intro w y vy dy ry hy;have hex:∃y vy,Den X.K H y vy/\RelV vy w/\y∈ys:=⟨y,vy,dy,ry,hy⟩
  show(if h:_ then _ else _)=_;rw[dif_pos hex];obtain⟨vy',ZC,WZ,GQ⟩:=hex.choose_spec;have ev:=WZ.inj ry;subst ev;rw[Den.inj I _ _ _ ZC dy]
 have cnt:∀{zs}{vs}{us},aE X.K H zs vs->Vals vs us->(∀z∈zs,z∈ys)->us.countP e=zs.countP (λ y=>(Z.i' y x).getD false):=by
  intro zs
  induction zs with
  |nil=>intro vs us t r _;simp only[aE]at t;subst t;cases r;rfl
  |cons z zs ih=>
   intro vs us t r hm;simp only[aE]at t;obtain⟨vy,vr,rfl,dy,tr⟩:=t;cases r with
   |cons ry rr=>rw[B29,B29,ih tr rr (λ w hw=>hm w (A09 _ hw)),he _ z vy dy ry (hm z A12)]
 refine⟨e,λ w hw=>?_,cnt t r λ _ h=>h⟩;obtain⟨j,hj,ej⟩:=B88 hw;have hl:=r.length;have ht:=t.length;obtain⟨y,ey⟩:∃y,ys[j]?=some y:=⟨ys[j]'(by lia),A01 (by lia)⟩
 obtain⟨vy,L?,dy⟩:=t.get ey;obtain⟨u',Zc,QH⟩:=r.get L?;have:u'=w:=by have:=A01 hj;rw[Zc,ej]at this;exact A04 this
 subst this;have hy:=A15 ey;rw[he _ y vy dy QH hy];exact(QO I 6 (by lia) (hh y hy) (.inl dy) hx QH rx).2.1
def MP(K:W.Frag):V->γ V->Hp->VK->Prop:=λ x vs H Q=>∃d ys q us v k,x=.ref q/\vs=[v]/\jw K H q us/\aE K H ys us/\bU K H d v/\Z.sO d ys=some k/\Q (.int k) H
theorem Gj(hu:X.A.units+64<cLine):Ic X "list.count" (MP X.K):=by intro χ s σ H x vs v us Q I rx rv h;obtain⟨d,ys,q,us',v',k,rfl,rfl,hq,t,hd,e,k'⟩:=h;cases rx;obtain⟨u,rfl,ru⟩:=rv.one;obtain⟨e1,e2⟩:=zw e;subst e1;obtain⟨its,r,pl,hz⟩:=I.list hq;obtain⟨f,hf,D?⟩:=Lj I (A:=X.A.in1) (show X.A.units+1+60<cLine by lia) hd ru t r e2;obtain⟨⟨cls,dd,data,sl⟩,ho,hc,n,pq⟩:=id pl.isList;simp only at hc pq;subst hc pq;refine A50 F.slot_list_count ⟨_,ho,rfl⟩ F.entry_list_count (F.args_list_count_2 _ _) (SeqAt.list_countAt q _ n dd sl u f) ⟨ho,λ w hw=>hf w (by simpa using hw),?_⟩;refine⟨.int _,H,I.tok _,⟨_,rfl⟩,?_⟩;rw[D?];exact k'
theorem _root_.ZQ.HJ(hu:X.A.units+64<cLine)(ho:ZQ.QW X o fa)(hb:ZQ.QW X b fb)
  (iD:attributeBase o "count" X.env (eval o X.env)=eval o X.env:=by rfl)
  (lO:((backTo p2 (starEach (b::[]) X.env)).all (λ x=>!x.1)&&(backToKw p2 (keywordEach [] X.env)).all (λ x=>x.1.isSome)
   && decide ((b::[]).length+([]:γ π).length+(if([]:γ π).isEmpty then 0 else 1)<30))=true:=by rfl)
  (iC:(p1.endLine==p2.line)=true:=by rfl) (ml:Se b [] X.env:=by rfl) (f9:Pn p2 [] X.env:=by rfl) :
  ZQ.QE X (.Call (.Attribute o "count" p1) [b] [] p2) (Z.eB Z.v? fa fb):=
 ⟨PE.imp (rM B89 PySem.F.slot_list_count PySem.F.type_list_count (Gj hu) ho.p (bF hb.p cI ml) iD lO iC ml f9) λ σ H Q ⟨ρ,d,r,e,k⟩=>by
  obtain⟨x,ea,e⟩:=Z.Res.ax e;obtain⟨y,eb,e⟩:=Z.Res.ax e;refine⟨ρ,x,r,ea,λ v H1 s1 d1=>?_⟩;unfold Z.v? at e;split at e
  ·rename_i ys _;split at e
   ·rename_i n hn;cases e;obtain⟨q,vs,rfl,hq,t⟩:=d1.lst;refine⟨.inl ⟨rfl,vs,hq⟩,ρ,y,r.up s1,eb,λ u H2 s2 d2=>?_⟩;exact⟨y,ys,q,vs,u,n,rfl,rfl,s2.seq hq,t.up s2,d2,hn,k _ H2 (s1.trans s2) cP⟩
   ·cases e
  ·cases e⟩
theorem BE:∀{xs}{k},Z.x! xs=some k->∃ns:γ Int,xs=ns.map Z.D.int/\k=ns.sum
 |[],k,h=>by cases h;exact⟨[],rfl,rfl⟩
 |x::xs,k,h=>by
  cases x with
  |int b=>
   have h':(Z.x! xs).map _=some k:=h;cases q:Z.x! xs with
   |none=>rw[q]at h';cases h'
   |some k'=>rw[q]at h';cases h';obtain⟨bs,rfl,rfl⟩:=BE q;exact⟨b::bs,rfl,rfl⟩
  |non=>cases h
  |bl _=>cases h
  |str _=>cases h
  |tup _=>cases h
  |lst _=>cases h
  |dct _ _=>cases h
theorem pI{K:W.Frag}:∀{ns:γ Int}{vs},aE K H (ns.map Z.D.int) vs->vs=ns.map V.int
 |[],vs,h=>by simp only[A73]at h;subst h;rfl
 |b::bs,vs,h=>by simp only[A05]at h;obtain⟨v,r,rfl,hv,ht⟩:=h;simp only[Den]at hv;rw[hv,pI ht];rfl
theorem Ju(ns:γ Int):preSum (λ i=>ns[i]?.getD 0) ns.length=ns.sum:=by
 have key:∀k,k<=ns.length->preSum (λ i=>ns[i]?.getD 0) k=(ns.take k).sum:=by
  intro k
  induction k with
  |zero=>intro _;simp[preSum]
  |succ k ih=>
   intro hk;have e:preSum (λ i=>ns[i]?.getD 0) (k+1)=preSum (λ i=>ns[i]?.getD 0) k+ns[k]?.getD 0:=rfl;have Ya:∀(xs ys:γ Int),(xs++ys).sum=xs.sum+ys.sum:=λ xs ys=>by
    induction xs with
    |nil=>simp
    |cons x xs ih=>simp only[B90,B91];lia
   rw[e,ih (by lia),B30,Ya,A01 (show k<ns.length by lia)];simp
 have:=key _ (o0 _);rwa [A59]at this
theorem Er(hc:X.calm=true):iG X (.builtin "sum") (λ xs H Q=>∃(q:δ) (ns:γ Int),xs=[.ref q]/\jw X.K H q (ns.map V.int)/\Q (.int ns.sum) H):=by
 intro χ s σ H xs us Q I r h;obtain⟨q,ns,rfl,hq,k⟩:=h;obtain⟨u,rfl,ru⟩:=vals1 r;cases ru;obtain⟨its,rv,pl,hz⟩:=I.list hq;have hl:=rv.length;rw[A03]at hl;have lN:q<s.heap.objs.size:=by obtain⟨_,e,_⟩:=pl.isList;exact A00 e
 have hh:X.A.in1.handled=none:=I.ok.hd hc;refine call_sum_walkG (A98 pl.isList ?_);refine⟨s.heap.objs.size,[s.heap.objs.size,q],[s.heap.objs.size],its.toArray.size,_,_,λ i=>ns[i]?.getD 0,rfl,B28 hh s.heap.objs.size q (A10 lN) its.toArray,⟨⟨_,A11 _ rfl,rfl,rfl⟩,pl.isList.push _⟩,?_,?_,λ h' tk t' hk=>?_⟩
 ·intro b hb;rw[A58];rcases v6.mp hb with rfl|hb
  ·exact A71 _
  ·rw[A13.mp hb];exact B27 lN
 ·intro i v hv;have hi:its[i]?=some v:=by simpa using hv
  obtain⟨KL,_⟩:=A02.mp hi;have hb:(ns.map V.int)[i]?=some (V.int (ns[i]'(by lia))):=by rw[P3,A01];rfl
  obtain⟨u,hu,ru⟩:=rv.get hb;rw[hi]at hu;cases hu;obtain⟨t,rfl⟩:=ru;exact⟨t,by show Value.int _ t=Value.int (ns[i]?.getD 0) t;rw[A01];rfl⟩
 ·have I1:Inv X χ σ H {s with heap:=s.heap.push {cls:=.type "list_iterator",data:=.fields #[.ref q,.int 0 0]}}:=I.kept λ b o e=>W1 _ e;obtain⟨f0,f1,f2,f3,f4,f5⟩:=I.qy (o0 s.heap.objs.size) I.fresh;have I2:=I1.turned (t':=tk) (λ b o hb e=>hk b o (by simpa using hb) e) f0 f1 f3 f4 f5;refine⟨.int _,H,I2,⟨t',rfl⟩,?_⟩;rw[A07,<-hl,Ju];exact k
theorem _root_.ZQ.Cp(hm:X.mg x=none)(ha:ZQ.QW X a fa)(hc:X.calm=true:=by rfl)(hn:x≠ "__name__":=by decide +kernel)(ji:(x == ("__debug__"))=false:=by decide +kernel)(he:Se a [] X.env:=by rfl)(iV:Pn pos [] X.env:=by rfl)(hg:Gl X x:=by rfl)(hv:bootBuiltins x=some (.builtin "sum"):=by kernel_rfl):ZQ.QE X (.Call (.Name x p1) [a] [] pos) (Z.eU Z.F4 fa):=
 ⟨PE.imp (j6 (Er hc) hg hm hv (bF ha.p cI he) hn ji he iV) λ σ H Q ⟨ρ,d,r,e,k⟩=>by
  obtain⟨x,ea,e⟩:=Z.Res.ax e;refine⟨ρ,x,r,ea,λ v H1 s1 d1=>?_⟩;unfold Z.F4 at e;split at e
  ·split at e
   ·rename_i xs k' hk;cases e;obtain⟨bs,rfl,rfl⟩:=BE hk;obtain⟨q,vs,rfl,hq,t⟩:=d1.lst;rw[pI t]at hq;exact⟨q,bs,rfl,hq,k _ H1 s1 cP⟩
   ·cases e
  ·cases e⟩
end
end ZS
namespace ZQ
open PySem PySem.Spec PyProof.Rows L2 ZS
section
theorem pH(ho:PE X o (oX i))(ha:QL X a l)(hs:swapsWith (.Call (.Attribute o "extend" p1) [a] [] p2) none pos.line X.env=pure false:=by rfl)(ml:Se a [] X.env:=by rfl)
  (iD:attributeBase o "extend" X.env (eval o X.env)=eval o X.env:=by rfl)
  (lO:((backTo p2 (starEach (a::[]) X.env)).all (λ x=>!x.1)&&(backToKw p2 (keywordEach [] X.env)).all (λ x=>x.1.isSome)
   && decide ((a::[]).length+([]:γ π).length+(if([]:γ π).isEmpty then 0 else 1)<30))=true:=by rfl)
  (iC:(p1.endLine==p2.line)=true:=by rfl) (f9:Pn p2 [] X.env:=by rfl) :
  QS X H0 (.Expr (.Call (.Attribute o "extend" p1) [a] [] p2) pos) (Z.qr i l):=
 ⟨ZS.Ej hs (rM B89 PySem.F.slot_list_extend PySem.F.type_list_extend Dz ho (bF ha.p cI ml) iD lO iC ml f9)⟩
end
end ZQ
namespace ZS
open PySem PySem.Spec PyProof.Rows L2 PySem.W
theorem pV:∀{ns:γ Int},i∈ns->WData.weight (.int i)<=WData.weightAll (ns.map WData.int)
 |[],h=>by cases h
 |n::ns,h=>by
  rcases v6.mp h with rfl|h
  ·simp only[A05,WData.weightAll];lia
  ·have:=pV h;simp only[A05,WData.weightAll];lia
theorem zD{ns:γ Int}(h:WData.layableAll [WData.list (ns.map WData.int)]=true):∀i∈ns,Z.bits i<=2^20:=by
 intro i hi;have h1:=A27.mp h _ A12;unfold WData.layable at h1;rw[A40]at h1;have h3:WData.weight (.list (ns.map WData.int))=WData.weightAll (ns.map WData.int):=by simp only[WData.weight]
 have h4:=pV hi;have h5:WData.weight (.int i)=Z.bits i:=by
  simp only[WData.weight];unfold Z.bits;by_cases hz:i=0
  ·subst hz;rfl
  ·rw[f8 hz,f8 (by simpa using hz)]
 lia
def Ig(q:ο)(K:Frag):Prop:=noTabs K=true/\(∀x∈dN,∀c P,tabIn K x=some (c,P)->∃d,(recsOf q).find? (λ e=>e.name==x)=some d) /\
 ∀x y c P c',x∈dN->y∈dN->tabIn K x=some (c,P)->tabIn K y=some (c',P)->x=y
theorem rn{K:Frag}(h:nsIn K mainGlobals x=some (some (.ref f)))(h2:K.lookup f=some ⟨o1,d1,.func fd,s1⟩)(h3:fd.code=.ref c)
  (h4:K.lookup c=some ⟨o2,d2,.fields vs,s2⟩) (h5:vs[11]?=some (.ref p)):tabIn K x=some (c,p):=by
 unfold tabIn;rw[h];dsimp only;rw[h2];dsimp only;rw[h3];dsimp only;rw[h4];dsimp only;rw[h5]
theorem gD{p:Str->Prop}(h1:p "best_among")(h2:p "paper_beside"):∀x∈dN,p x:=by
 intro x hx;rcases v6.mp hx with rfl|hx
 ·exact h1
 ·rw[A13.mp hx];exact h2
theorem NB{K:Frag}(n:noTabs K=true)(h1:tabIn K "best_among"=r1)(h2:tabIn K "paper_beside"=r2)(g1:r1=none\/((recsOf q).find? (λ e=>e.name==Str.ofString "best_among")).isSome=true)(g2:r2=none\/((recsOf q).find? (λ e=>e.name==Str.ofString "paper_beside")).isSome=true)
  (ne:∀c P c' P',r1=some (c,P)->r2=some (c',P')->P≠P'):Ig q K:=by
 refine⟨n,gD (λ c P e=>?_) (λ c P e=>?_),λ x y c P c' hx hy=>?_⟩
 ·rcases g1 with z|z
  ·rw[h1,z]at e;cases e
  ·exact A91.mp z
 ·rcases g2 with z|z
  ·rw[h2,z]at e;cases e
  ·exact A91.mp z
 ·refine gD (p:=λ x=>tabIn K x=some (c,P)->tabIn K y=some (c',P)->x=y) (λ e1=>?_) (λ e1=>?_) x hx
  ·refine gD (p:=λ y=>tabIn K y=some (c',P)-> "best_among"=y) (λ _=>rfl) (λ e2=>?_) y hy;exact absurd rfl (ne c P c' P (h1.symm.trans e1) (h2.symm.trans e2))
  ·refine gD (p:=λ y=>tabIn K y=some (c',P)-> "paper_beside"=y) (λ e2=>?_) (λ _=>rfl) y hy;exact absurd rfl (ne c' P c P (h1.symm.trans e2) (h2.symm.trans e1))
theorem Mo{l:OpenLaw}{n k:Nat}{q:ο}{loose:γ Str}{XP:(Str->ε ζ)->μ->Prop}{YP:ξ->μ->Prop}{d:DefRec}{K:Params->Frag}{m:γ Z.D->Z.Res Z.D}{x:Str}
  (hn:l.most=some n) (Yr:n<=sizeLine) (YH:d.params.defaults=[]) (hr:d? k callerA)
  (hY:∀w h,YP w h->(K w.params).In h)
  (F:∀ w mg fa h,(K w.params).In h->h.Ns mainGlobals mg->mg d.name=some (.ref fa) ->
   ∃fd:υ,(∀(s:η)(u:ζ),BindsTo s fd ⟨[u],[]⟩ [(x,u)]) /\
    ∀base:μ,(K w.params).In base->base.Ns mainGlobals mg->ki l.prog w (K w.params) mg base oO k fa fd [x] (xl (K w.params) m)) (hL:∀w:ξ,Ig q (K w.params))
  (hold:∀ns:γ Int,ns.length<=n->(∀i∈ns,Z.bits i<=2^20)->m [.lst (ns.map .int)]=.ok (.bl true)) :
  WalkO q loose XP YP l.row.toRowW d [] (λ f vs=>PySem.call f vs):=by
 intro w s₀ s₁ mg mb G Y fa o pm cd doc dV kV ho hd tu hD Yt hg args vals as AQ Yw hrd Px hlo;cases Dflts.none hD YH;cases Dflts.noKw hD;obtain⟨a,vs,ns,rfl,rfl,Yl,hints,ψ⟩:=Z'.C9 hn AQ Px;have KX:=hY w _ Y;obtain⟨fd,hb,hF⟩:=F w mg fa _ KX G.T.g Yt;have C:=Gu KX G.T.g G.T.b G.T.builtins G.T.nolimit hg Yl hints (A16 ψ Yr) hr hF hb (λ H hO hS=>NA hO hS (hold ns ψ (zD Yw))) (λ H e s' z=>z)
  (hL w).2.2 (λ y hy c p e=>let ⟨d,hd⟩:=(hL w).2.1 y hy c p e;let T:=tab_of G.T KX hd e;⟨T,T.1.tab T.2⟩) G.T.bmain (hL w).1
 refine enter_call (B44 C λ r s' hq=>?_);obtain⟨rfl,h2,h3,h4⟩:=hq;exact⟨.inl ⟨.bool true,.bool true,[],rfl,λ _=>rfl,.bool true,Z'.Df l _,λ _=>⟨List.Pairwise.nil,λ _ hm=>(nomatch hm)⟩⟩,h2,h3,h4⟩
end ZS
namespace ZS
open PySem PySem.Spec PyProof.Rows L2
section
theorem Az(hit:s.heap.IsTupleIter it t i)(ht:s.heap.IsTuple t items)(hx:items[i]?=some x)
  (hQ:∀h',h'.IsTupleIter it t (i+1)->Heap.SameBut it s.heap h'->Q x {s with heap:=h'}):wpAny (model prog w) A (Builtin.SmallTypes.nextOf (.ref it)) Q E s:=by
 obtain⟨ob,L5,uS,KP⟩:=id hit;obtain⟨ot,Kz,_,nt,SQ⟩:=ht;refine T0 (B04 hit.typeIs B52 (B06 B52 hit.typeIs C38 ?_ (C39 _)));show wpAny _ _ (field _ 0>>=_) _ _ _;refine T0 (A32 L5 KP (x:=.ref t) rfl ?_);have B_:¬(Value.ref t==Value.none)=true:=B47;rw[f8 B_];refine T0 (A32 L5 KP rfl ?_);refine T0 (A24 Kz SQ ?_);simp only[A85,hx];refine T0 (B53 L5 KP (by simp) (v0 ⟨x,rfl,v0 (hQ _ ⟨_,A66 _ L5 (B54 (A75 KP _)),(B92 ..).trans uS,?_⟩ (Heap.SameBut.update ..))⟩));rw[A75 KP];simp[rawInt]
theorem Dx(hh:A.handled=none)(hit:s.heap.IsTupleIter it t i)(ht:s.heap.IsTuple t items)(hx:items[i]?=none)
  (hE:∀h' e,Heap.ExtBut it s.heap h'->(∃o,h'.get? e=some o/\o.cls=.type "StopIteration")->E (.ref e) {s with heap:=h'}):wpAny (model prog w) A (Builtin.SmallTypes.nextOf (.ref it)) Q E s:=by
 obtain⟨ob,L5,uS,KP⟩:=id hit;obtain⟨ot,Kz,_,nt,SQ⟩:=ht;refine T0 (B04 hit.typeIs B52 (B06 B52 hit.typeIs C38 ?_ (C39 _)));show wpAny _ _ (field _ 0>>=_) _ _ _;refine T0 (A32 L5 KP (x:=.ref t) rfl ?_);have B_:¬(Value.ref t==Value.none)=true:=B47;rw[f8 B_];refine T0 (A32 L5 KP rfl ?_);refine T0 (A24 Kz SQ ?_);simp only[A85,hx];refine T0 (A96 (T0 (B53 L5 KP (by simp) ?_)));refine T0 ?_;simp only[newExc,newTuple];refine T0 (A55 ?_ (by size_fits));refine T0 (wpAny_of_eq (by first|rfl|(simp only[firstArgMember];rfl)) ?_);refine A55 ?_ (by size_fits);simp only[raiseNew];refine T0 (wpAny_handled ?_)
 first|rw[hh]|rw[hh]
 exact T0 (v0 (wpAny_throw (hE _ _ (((Heap.SameBut.update ..).extBut.push _).push _) ⟨_,A11 _ rfl,rfl⟩)))
end
theorem Ow(hh:A.handled=none)(it t:δ)(p7:t≠it)(items:Array ζ):
  Draws prog w A it [it,t] items.size (λ i v=>items[i]?=some v) (λ i h=>h.IsTupleIter it t i/\h.IsTuple t items) where
 live:=λ _ _ st=>let ⟨o,ho,_⟩:=st.1;⟨o,ho⟩
 frame:=λ _ _ _ st hk=>by obtain⟨⟨o,e,r⟩,⟨o2,e2,r2⟩⟩:=st;exact⟨⟨o,hk it (by simp) o e,r⟩,⟨o2,hk t (by simp) o2 e2,r2⟩⟩
 item:=λ i s Q E hi st hQ=>by refine Az st.1 st.2 (x:=items[i]) (by simp) λ h' KJ zN=>?_;exact hQ _ h' _ (by simp) ⟨KJ,st.2.extBut zN.extBut p7⟩ zN
 done:=λ s Q E st hE=>Dx hh st.1 st.2 (by simp) hE
theorem By{ch:γ δ}(I:Inv X χ σ H s)(k:∀b o,b∉ch->s.heap.get? b=some o->h'.get? b=some o)(hf:∀b∈ch,oN X χ H b):Inv X χ σ H {s with heap:=h',toks:=t'}:=by
 have yD:∀b u,H b=some u->b∉ch:=λ b u e hb=>by rw[(hf b hb).1]at e;cases e
 refine I.step (λ b hb=>?_) (λ b o _ _ hc e _=>k b o hc e) (λ b o _ _ hc e _=>⟨_,k b o hc e⟩) (λ _ _ _ _ n=>n)
  (λ b o hc e=>⟨o,k b o hc e⟩) (λ _ _ e=>e) (λ _ _ _ e=>e) (λ _ _ _ e=>e) (λ m hm=>?_) (λ b u e=>?_) I.bare
 ·obtain⟨f0,f1,f2,f3,f4,f5⟩:=hf b hb;exact⟨f3,f1,f4,f5⟩
 ·obtain⟨o,es,ep,ho,r⟩:=hm;exact⟨o,es,ep,k _ o (λ hb=>(hf _ hb).2.1 rfl) ho,r⟩
 ·refine(I.cC b u e).qq (λ c v hc q=>k c v ?_ q) (λ _ q=>q) (λ _ _ q=>q) λ _ _ _ q=>q;rcases hc with z|z
  ·rw[z];exact yD b u e
  ·exact yD c _ z
theorem Bx{ch:γ δ}(I:Inv X χ σ H s)(k:∀b o,b∉ch->s.heap.get? b=some o->h'.get? b=some o)(hf:∀b∈ch,oN X χ H b)
  (hT:s.heap.objs.size<=T) (hTT:oM h' T us.toArray) (r:Vals xs us) (hz:xs.length<=sizeLine):Inv X χ σ (upd H T (.tup xs)) {s with heap:=h',toks:=t'}:=by
 have hn:=I.cC.fresh hT;have yD:∀b u,H b=some u->b∉ch:=λ b u e hb=>by rw[(hf b hb).1]at e;cases e
 have up:∀b u,H b=some u->upd H T (.tup xs) b=some u:=λ b u e=>by rw[aV (b! e hn)];exact e
 have lt:∀b o,s.heap.get? b=some o->b≠T:=λ b o e z=>by rw[z]at e;exact absurd (A00 e) (B08.mpr hT)
 refine I.step (λ b hb=>?_) (λ b o _ _ hc e _=>k b o hc e) (λ b o _ _ hc e _=>⟨_,k b o hc e⟩) (λ b o _ e n=>by rw[aV (lt b o e)];exact n)
  (λ b o hc e=>⟨o,k b o hc e⟩) (λ b ys e=>up b _ e) (λ b o u e=>up b _ e) (λ b u _ e=>up b _ e) (λ m hm=>?_) (λ b u e=>?_) I.bare
 ·obtain⟨f0,f1,f2,f3,f4,f5⟩:=hf b hb;exact⟨f3,f1,f4,f5⟩
 ·obtain⟨o,es,ep,ho,q⟩:=hm;exact⟨o,es,ep,k _ o (λ hb=>(hf _ hb).2.1 rfl) ho,q⟩
 ·by_cases hb:b=T
  ·subst hb;rw[bC]at e;cases e;exact⟨hz,us,r,hTT⟩
  ·rw[aV hb]at e;refine(I.cC b u e).qq (λ c v hc q=>k c v ?_ q) (λ c q=>?_) (λ c ys q=>up c _ q) λ c v _ q=>up c _ q
   ·rcases hc with z|z
    ·rw[z];exact yD b u e
    ·exact yD c _ z
   ·exact up c _ q
structure O8 where
 at_:Nat->Hp->V->Prop
 end_:Nat->Hp->Prop
def Uh(J:O8):It:=⟨λ i H=>∃y,J.at_ i H y,λ i H x H'=>∃T y,H T=none/\x=.ref T/\H'=upd H T (.tup [.int (i:Nat),y])/\J.at_ i H y,J.end_⟩
structure Src(P:Program)(w:World)(K:W.Frag)(J:O8)(it:Addr)(NM:Nat->Heap->Prop):Prop where
 obj:∀i h,NM i h->∃o,h.get? it=some o/\(∀v,o.data≠.cell v)/\o.cls≠.type "enumerate" /\ o.cls≠.type "zip" /\ o.cls≠.type "tuple"
 keep:∀i h h',NM i h->(∀o,h.get? it=some o->h'.get? it=some o)->NM i h'
 draw:∀(X:Cx),X.prog=P->X.w=w->X.K=K->X.calm=true->∀(i:Nat)(χ:List (Addr×Obj))(s:Shared)(σ:St)(H:Hp),Inv X χ σ H s->NM i s.heap->((∃y,J.at_ i H y)\/J.end_ i H) ->
  ∃(fp:List Addr) (n:Nat) (Pv:Nat->Value->Prop) (S:Nat->Heap->Prop),Draws P w X.A.in1 it fp n Pv S/\S i s.heap/\it∈fp/\(∀b∈fp,b=it\/∃o,s.heap.get? b=some o/\o.cls≠.type "enumerate" /\ o.cls≠.type "zip" /\ (H b=none->∃o',K.lookup b=some o')) /\
   ((∃y,J.at_ i H y)->i<n/\∀u,Pv i u->∃y,RelV y u/\J.at_ i H y)/\(J.end_ i H->i=n)/\∀j h,S j h->NM j h
theorem oU{K:PySem.W.Frag}(S:Src P w K J it NM)(SO:e≠it):
  Turn P w K (.Tuple elts x1 pos) (Uh J) [e,it] e (λ i h=>(∃old,IsEnum h e it i old)/\NM i h) where
 mem:=by simp
 obj:=λ i h st b hb=>by
  rcases v6.mp hb with rfl|hb
  ·obtain⟨⟨old,he⟩,_⟩:=st;exact⟨_,he,λ v z=>by have z':=z;cases z'⟩
  ·rw[A13]at hb;subst hb;obtain⟨o,h1,h2,_⟩:=S.obj i h st.2;exact⟨o,h1,h2⟩
 keep:=λ i h h' st k=>⟨let ⟨old,he⟩:=st.1;⟨old,k e (by simp) _ he⟩,S.keep i h h' st.2 λ o q=>k it (by simp) o q⟩
 item:=by
  intro X hP hw hK hc i χ s σ H E I hf st hg;obtain⟨fp,n,Pv,St',D,Yd,YA,YD,hat,_,PJ⟩:=S.draw X hP hw hK hc i χ s σ H I st.2 (.inl hg);obtain⟨hi,hv⟩:=hat hg;subst hP hw hK;obtain⟨old,he⟩:=st.1;have VN:e∉fp:=λ hb=>by
   rcases YD e hb with z|⟨o,q,p7,_⟩
   ·exact SO z
   ·rw[he]at q;cases q;exact p7 rfl
  have W:=WalksT.enumerateD (A:=X.A) D e SO VN YA;have SN:=A00 he;have SG:it<s.heap.objs.size:=by obtain⟨o,q,_⟩:=S.obj _ _ st.2;exact A00 q
  refine wpAny_pyNext_enum_itemD D he Yd hi SO VN λ u h' t' hu ho zN hTx AO hk=>⟨.ref s.heap.objs.size,rfl,?_⟩
  have hT:s.heap.objs.size<=s.heap.objs.size:=o0 _;have kk:∀b o,b∉[e,it]->s.heap.get? b=some o->h'.get? b=some o:=λ b o hb y=>hk b o (λ e'=>hb (by simp[e'])) (λ e'=>hb (by simp[e'])) y;obtain⟨y,ry,hy⟩:=hv u hu;have _?:s.heap.objs.size∉[e,it]:=by simp only[v6,A18,A21,A76];exact⟨A48 SN,A48 SG⟩
  refine W.go elts x1 pos i s.heap.objs.size _ _ _ ⟨⟨_,ho⟩,zN,A48 SN,A48 SG⟩ λ h2 Sk _F=>?_;have YT:=I.cC.fresh hT;have YU:oM h2 s.heap.objs.size [Value.int i t',u].toArray:=⟨_,_F _ _ _? hTx⟩
  have I2:Inv X χ σ (upd H s.heap.objs.size (.tup [.int (i:Nat),y])) {s with heap:=h2,toks:=t'+1}:=
   Bx (ch:=[e,it]) I (λ b o hb q=>_F b o hb (kk b o hb q)) hf hT YU (.cons ⟨t',rfl⟩ (.cons ry .nil)) (by show 2<=sizeLine;decide)
  refine⟨.ref s.heap.objs.size,_,I2,rfl,⟨s.heap.objs.size,y,YT,rfl,rfl,hy⟩,⟨Sk.1,PJ _ _ Sk.2⟩,λ b hb=>?_⟩;have YO:b≠s.heap.objs.size:=λ z=>_? (z▸hb);rw[aV YO];exact(hf b hb).1
 done:=by
  intro X hP hw hK hc i χ s σ H E I hf st hg;obtain⟨fp,n,Pv,St',D,Yd,YA,YD,_,N5,PJ⟩:=S.draw X hP hw hK hc i χ s σ H I st.2 (.inr hg);have Yz:=N5 hg;subst hP hw hK Yz;obtain⟨old,he⟩:=st.1;have VN:e∉fp:=λ hb=>by
   rcases YD e hb with z|⟨o,q,p7,_⟩
   ·exact SO z
   ·rw[he]at q;cases q;exact p7 rfl
  have W:=WalksT.enumerateD (A:=X.A) D e SO VN YA;exact W.done s _ _ ⟨⟨old,he⟩,Yd⟩ λ h' tk kk=>⟨rfl,By (ch:=[e,it]) I kk hf⟩
 self:=λ A i s Q E st hQ=>by obtain⟨old,he⟩:=st.1;exact B55 he hQ
def DY(K:W.Frag)(t:δ)(vs:γ V):O8:=⟨λ i H y=>lx K H t vs/\vs[i]?=some y,λ i H=>lx K H t vs/\vs.length=i⟩
def Kx(K:W.Frag)(t:δ)(vs:γ V):O8:=⟨λ i H y=>jw K H t vs/\vs[i]?=some y,λ i H=>jw K H t vs/\vs.length=i⟩
def GI(z:Str):O8:=⟨λ i _ y=>∃c,z.cps[i]?=some c/\y=.str ⟨#[c]⟩,λ i _=>i=z.cps.size⟩
theorem qH{K:PySem.W.Frag}:Src P w K (DY K t xs) it (λ i h=>h.IsTupleIter it t i) where
 obj:=λ i h st=>by obtain⟨o,e,c,d⟩:=st;exact⟨o,e,λ v z=>(by rw[d]at z;cases z),by rw[c];decide,by rw[c];decide,by rw[c];decide⟩
 keep:=λ i h h' st k=>let ⟨o,e,r⟩:=st;⟨o,k o e,r⟩
 draw:=by
  intro X hP hw hK hc i χ s σ H I st hg;subst hP hw hK;have hq:lx X.K H t xs:=by rcases hg with⟨y,h,_⟩|⟨h,_⟩<;>exact h
  obtain⟨its,r,p,hz⟩:=I.tuple hq;obtain⟨ot,Kz,N8,nt,SQ⟩:=id p;obtain⟨oi,Sq,SS,N6⟩:=id st;have p7:t≠it:=by rintro rfl;rw[Kz]at Sq;cases Sq;rw[N8]at SS;injection SS with z;exact absurd z (by decide)
  refine⟨[it,t],_,_,_,Ow (A:=X.A.in1) (I.ok.hd hc) it t p7 _,⟨st,p⟩,by simp,λ b hb=>?_,λ⟨y,_,Sj⟩=>?_,λ⟨_,hl⟩=>?_,λ j h q=>q.1⟩
  ·rcases v6.mp hb with rfl|hb
   ·exact .inl rfl
   ·rw[A13]at hb;subst hb;refine .inr ⟨ot,Kz,by rw[N8];decide,by rw[N8];decide,λ hn=>?_⟩;rcases hq with(z|⟨o,z⟩)|⟨o,_,_,z,_⟩
    ·rw[hn]at z;cases z
    ·rw[hn]at z;cases z
    ·exact⟨o,z⟩
  ·obtain⟨u,hu,ru⟩:=r.get Sj;refine⟨by rw[A07];exact(A02.mp hu).1,λ u' Pz=>⟨y,?_,hq,Sj⟩⟩;have:its[i]?=some u':=by simpa using Pz
   rw[hu]at this;cases this;exact ru
  ·rw[A07,<-r.length,hl]
theorem BF{K:PySem.W.Frag}:Src P w K (Kx K t xs) it (λ i h=>h.IsListIter it t i) where
 obj:=λ i h st=>by obtain⟨o,e,c,d⟩:=st;exact⟨o,e,λ v z=>(by rw[d]at z;cases z),by rw[c];decide,by rw[c];decide,by rw[c];decide⟩
 keep:=λ i h h' st k=>let ⟨o,e,r⟩:=st;⟨o,k o e,r⟩
 draw:=by
  intro X hP hw hK hc i χ s σ H I st hg;subst hP hw hK;have hq:jw X.K H t xs:=by rcases hg with⟨y,h,_⟩|⟨h,_⟩<;>exact h
  obtain⟨its,r,p,hz⟩:=I.list hq;obtain⟨ot,Kz,N8,nt,SQ⟩:=id p.isList;obtain⟨oi,Sq,SS,N6⟩:=id st;have p7:t≠it:=by rintro rfl;rw[Kz]at Sq;cases Sq;rw[N8]at SS;injection SS with z;exact absurd z (by decide)
  refine⟨[it,t],_,_,_,Draws.list (A:=X.A.in1) (I.ok.hd hc) it t p7 _,⟨st,p.isList⟩,by simp,λ b hb=>?_,λ⟨y,_,Sj⟩=>?_,λ⟨_,hl⟩=>?_,λ j h q=>q.1⟩
  ·rcases v6.mp hb with rfl|hb
   ·exact .inl rfl
   ·rw[A13]at hb;subst hb;refine .inr ⟨ot,Kz,by rw[N8];decide,by rw[N8];decide,λ hn=>?_⟩;rcases hq with(z|⟨o,z⟩)|⟨o,_,_,z,_⟩
    ·rw[hn]at z;cases z
    ·rw[hn]at z;cases z
    ·exact⟨o,z⟩
  ·obtain⟨u,hu,ru⟩:=r.get Sj;refine⟨by rw[A07];exact(A02.mp hu).1,λ u' Pz=>⟨y,?_,hq,Sj⟩⟩;have:its[i]?=some u':=by simpa using Pz
   rw[hu]at this;cases this;exact ru
  ·rw[A07,<-r.length,hl]
theorem Jd{K:PySem.W.Frag}:Src P w K (GI z) it (λ i h=>h.IsStrIter it (strIterType z) z tk i) where
 obj:=λ i h st=>by obtain⟨o,e,c,d⟩:=st;refine⟨o,e,λ v q=>(by rw[d]at q;cases q),?_,?_,?_⟩<;>(rw[c];unfold strIterType;split<;>decide)
 keep:=λ i h h' st k=>let ⟨o,e,r⟩:=st;⟨o,k o e,r⟩
 draw:=by
  intro X hP hw hK hc i χ s σ H I st hg;subst hP hw hK;have hh:X.A.in1.handled=none:=I.ok.hd hc;have fin:∀Pv,(∀i u,Pv i u->∃c t,z.cps[i]?=some c/\u=.str ⟨#[c]⟩ t)->∀S,Draws X.prog X.w X.A.in1 it [it] z.cps.size Pv S->S i s.heap->(∀j h,S j h->h.IsStrIter it (strIterType z) z tk j) ->
    ∃fp n Pv S,Draws X.prog X.w X.A.in1 it fp n Pv S/\S i s.heap/\it∈fp/\(∀b∈fp,b=it\/∃o,s.heap.get? b=some o/\o.cls≠.type "enumerate" /\ o.cls≠.type "zip" /\ (H b=none->∃o',X.K.lookup b=some o')) /\
     ((∃y,(GI z).at_ i H y)->i<n/\∀u,Pv i u->∃y,RelV y u/\(GI z).at_ i H y)/\((GI z).end_ i H->i=n)/\∀j h,S j h->h.IsStrIter it (strIterType z) z tk j:=by
   intro Pv hPv S D hs hS;refine⟨[it],z.cps.size,Pv,S,D,hs,by simp,λ b hb=>.inl (by simpa using hb),λ⟨y,c,hy,_⟩=>⟨?_,λ u hu=>?_⟩,λ q=>q,hS⟩
   ·rcases Nat.lt_or_ge i z.cps.size with q|q
    ·exact q
    ·rw[Array.getElem?_eq_none q]at hy;cases hy
   ·obtain⟨c',t',xq,rfl⟩:=hPv i u hu;exact⟨.str ⟨#[c']⟩,⟨t',rfl⟩,c',xq,rfl⟩
  cases ha:z.cps.all (· < 128)
  ·have e:strIterType z="str_iterator":=by unfold strIterType;rw[ha];rfl
   exact fin _ (λ _ _ q=>q) _ (Draws.strWide hh it z tk) (by rw[<-e];exact st) (λ j h q=>by rw[e];exact q)
  ·have e:strIterType z="str_ascii_iterator":=by unfold strIterType;rw[ha];rfl
   exact fin _ (λ _ _ q=>q) _ (Draws.strAscii hh it z tk) (by rw[<-e];exact st) (λ j h q=>by rw[e];exact q)
theorem yJ(l:δ)(items:Array ζ)(n:Nat)(dct:ε δ)(sl:Array _):
  Meets (Builtin.«enumerate.__new__» ⟨[.type "enumerate",.ref l],[]⟩) (λ _ R s=>s.heap.get? l=some {cls:=.type "tuple",dict:=dct,data:=.seq items n,slots:=sl} /\
   R (.ok (.ret (.ref (s.heap.push {cls:=.type "tuple_iterator",data:=.fields #[.ref l,.int 0 0]}).objs.size)))
    {s with heap:=(s.heap.push {cls:=.type "tuple_iterator",data:=.fields #[.ref l,.int 0 0]}).push {cls:=.type "enumerate",data:=.fields #[.none,.bool false,.ref s.heap.objs.size,rawInt 0,.none,.none]}}):=
 .of_wp λ prog w A R s h=>by
  obtain⟨hp,gs,dr,tk,os⟩:=s;obtain⟨hl,h⟩:=h;have Yc:=sub_enumerate;have hL:Heap.IsTuple _ l items:=⟨_,hl,rfl,n,rfl⟩
  wp_walk using B93 hl
  refine wpAny_stack_any λ st=>v0 ?_;split
  ·rename_i c _ _ _ _ _;cases (c==Value.type "enumerate")<;>(wp_walk using B93 hl,A97 hL;exact⟨_,rfl,h⟩)
  ·wp_walk using B93 hl,A97 hL
   exact⟨_,rfl,h⟩
theorem A?(hL:s.heap.IsTuple l items)
  (h:∀h',IsEnum h' (s.heap.objs.size+1) s.heap.objs.size 0 .none->h'.IsTupleIter s.heap.objs.size l 0->(∀b o,s.heap.get? b=some o->h'.get? b=some o)->Q (.ref (s.heap.objs.size+1)) {s with heap:=h'}) :
  wpAny (model prog w) A (call (.type "enumerate") [.ref l]) Q E s:=by
 obtain⟨⟨c,dct,dt,sl⟩,hl,hc,n,hd⟩:=hL;have xq:=hc;have pq:=hd;subst xq pq;refine callType_new F.called_enumerate (by decide) (F.typeCall_enumerate_1 _) (F.newCall_enumerate_1 _) (λ obj=>F.args_object_init_2 obj _) F.entry_enumerate_new (yJ l items n dct sl) ⟨hl,?_⟩;have hz:(s.heap.push {cls:=.type "tuple_iterator",data:=.fields #[.ref l,.int 0 0]}).objs.size=s.heap.objs.size+1:=A58 ..;have he:=A11 (s.heap.push {cls:=.type "tuple_iterator",data:=.fields #[.ref l,.int 0 0]}) (o:={cls:=.type "enumerate",data:=.fields #[.none,.bool false,.ref s.heap.objs.size,rawInt 0,.none,.none]}) rfl;rw[hz]at he ⊢;exact⟨⟨_,he,rfl⟩,h _ he ⟨_,W1 _ (A11 _ rfl),rfl,rfl⟩ λ b o x=>W1 _ (W1 _ x)⟩
theorem pG:∀ds k i,(Z.gm k ds)[i]?=(ds[i]?).map λ d=>Z.pair (.int ((k+i:Nat))) d
 |[],_,_=>by simp[Z.gm]
 |d::ds,k,0=>by simp[Z.gm]
 |d::ds,k,i+1=>by simp only[Z.gm,B95,pG ds _ i];rw[show k+1+i=k+(i+1)by lia]
theorem u0:∀ds k,(Z.gm k ds).length=ds.length
 |[],_=>rfl
 |d::ds,k=>by simp[Z.gm,u0 ds]
theorem r_{K:W.Frag}(h1:∀i d H1,S H1->ds[i]?=some d->(∃y,J.at_ i H1 y)/\∀y,J.at_ i H1 y->Den K H1 d y)(h2:∀H1,S H1->J.end_ ds.length H1):zP K (Uh J) S (Z.gm 0 ds) where
 go:=λ i d H1 s hi=>by
  rw[pG]at hi;cases q:ds[i]? with
  |none=>rw[q]at hi;cases hi
  |some d0=>exact(h1 i d0 H1 s q).1
 Br:=λ i d H1 H2 x s hi y=>by
  obtain⟨T,y,hT,rfl,rfl,hy⟩:=y;rw[pG]at hi;cases q:ds[i]? with
  |none=>rw[q]at hi;cases hi
  |some d0=>rw[q]at hi;cases hi;have sm:aH H1 (upd H1 T (.tup [.int (i),y])):=cA hT;refine⟨sm,fG (.inl (.inl bC)) (aE.cons ?_ (aE.cons (((h1 i d0 H1 s q).2 y hy).up sm) aE.nil))⟩;rw[B31];exact cP
 stop:=λ H1 s=>by rw[u0];exact h2 H1 s
section
theorem AY(I:Inv X χ σ H s):∀b∈[s.heap.objs.size+1,s.heap.objs.size],oN X χ H b:=λ b hb=>by
 rcases v6.mp hb with rfl|hb
 ·exact I.qy (A84 _) (I.cC.fresh (A84 _))
 ·rw[A13]at hb;subst hb;exact I.qy (o0 _) (I.cC.fresh (o0 _))
theorem _root_.ZQ.Hx(hm:X.mg "enumerate"=none)(ha:ZQ.QE X a fa)(hs:starEach [a] X.env=[(false,eval a X.env)]:=by rfl)(ml:Se a [] X.env:=by rfl)(hg:Gl X "enumerate":=by rfl):ZQ.QJ X (.Tuple elts x1 p2) (.Call (.Name "enumerate" p) [a] [] pos) (Z.GN fa):=⟨by
 have ha:=ha.p;intro χ s σ H R I w;obtain⟨ρ,ds,r,e,k⟩:=w;obtain⟨d,ea,e⟩:=Z.Res.ax e;obtain⟨ds0,ei,e⟩:=Z.Res.ax e;cases e;refine Call_ (jV I hg hm PyProof.Rows.boot_enumerate (B03 (dB ((bF ha cI ml) pos χ s σ H (λ vs H1=>∃v,vs=[v]/\aH H H1/\Den X.K H1 d v) I ⟨ρ,d,r,ea,λ v H1 s1 d1=>⟨v,rfl,s1,d1⟩⟩) λ us s1 ⟨vs,H1,I1,r1,q1⟩=>?_) hs rfl));obtain⟨v,rfl,sm,hd⟩:=q1;obtain⟨u,rfl,ru⟩:=vals1 r1;cases d with
 |tup Wf=>
  cases ei;obtain⟨q,vs,rfl,hq,t⟩:=bU.tup (.inl hd);cases ru;obtain⟨its,rv,pt,hz⟩:=I1.tuple hq;refine A? pt λ h' he hit hk=>B55 he ?_;refine⟨_,[s1.heap.objs.size+1,s1.heap.objs.size],_,Uh (DY X.K q vs),H1,rfl,I1.kept hk,oU qH (B96 _),⟨⟨_,he⟩,hit⟩,AY I1,k _ H1 sm (r_ (λ i d0 H2 s2 hi=>?_) λ H2 s2=>?_)⟩
  ·obtain⟨y,hy,dy⟩:=t.get hi;refine⟨⟨y,fN s2 hq,hy⟩,λ y' GQ=>?_⟩;have:=GQ.2;rw[hy]at this;cases this;exact dy.ups s2
  ·exact⟨fN s2 hq,t.length⟩
 |lst Wf=>
  cases ei;simp only[Den]at hd;obtain⟨q,vs,rfl,hq,t⟩:=hd;cases ru;obtain⟨its,rv,pt,hz⟩:=I1.list hq.sq;refine call_enumerate_list pt.isList λ h' he hit AO hk=>B55 he ?_;refine⟨_,[s1.heap.objs.size+1,s1.heap.objs.size],_,Uh (Kx X.K q vs),H1,rfl,I1.kept hk,oU BF (B96 _),⟨⟨_,he⟩,hit⟩,AY I1,k _ H1 sm (r_ (λ i d0 H2 s2 hi=>?_) λ H2 s2=>?_)⟩
  ·obtain⟨y,hy,dy⟩:=t.get hi;refine⟨⟨y,(hq.mono s2).sq,hy⟩,λ y' GQ=>?_⟩;have:=GQ.2;rw[hy]at this;cases this;exact dy.ups s2
  ·exact⟨(hq.mono s2).sq,t.length⟩
 |str cs=>
  cases ei;simp only[Den]at hd;rw[hd]at ru;obtain⟨tk,rfl⟩:=ru;refine call_enumerate_str λ h' he hit AO hk=>B55 he ?_;refine⟨_,[s1.heap.objs.size+1,s1.heap.objs.size],_,Uh (GI ⟨cs.toArray⟩),H1,rfl,I1.kept hk,oU Jd (B96 _),⟨⟨_,he⟩,hit⟩,AY I1,k _ H1 sm (r_ (λ i d0 H2 s2 hi=>?_) λ H2 s2=>?_)⟩
  ·rw[P3]at hi;cases hc:cs[i]? with
   |none=>rw[hc]at hi;cases hi
   |some c=>
    rw[hc]at hi;cases hi;refine⟨⟨_,c,by simpa using hc,rfl⟩,λ y ⟨c',xq,hy⟩=>?_⟩;have:cs[i]?=some c':=by simpa using xq
    rw[hc]at this;cases this;rw[hy];exact eI
  ·show(cs.map λ c=>Z.D.str [c]).length=cs.toArray.size;simp
 |non=>cases ei
 |bl _=>cases ei
 |int _=>cases ei
 |dct _ _=>cases ei⟩
end
structure Z6(z TI TO i1 i2:Addr)(f1 f2:List Addr):Prop where
 ne:[z,TI,TO,i1,i2].Nodup
 a1:z∉f1/\TO∉f1/\i2∉f1
 a2:z∉f2/\TO∉f2/\i1∉f2
section
theorem CN{z TI TO i1 i2:δ}{Q:ζ->η->Prop}(F:Z6 z TI TO i1 i2 f1 f2)(D1:Draws prog w A i1 f1 n1 P1 S1)(D2:Draws prog w A i2 f2 n2 P2 S2)
  (hz:IsZip s.heap z TI TO .none) (Ea:IsPair s.heap TI (.ref i1) (.ref i2)) (EM:IsPair s.heap TO a b) (h1:S1 k s.heap) (h2:S2 k s.heap) (L7:k<n1) (hk2:k<n2)
  (hQ:∀x y h' tk,P1 k x->P2 k y->IsZip h' z TI TO (rawInt s.heap.objs.size)->IsPair h' TO x y->S1 (k+1) h'->S2 (k+1) h'->IsPair h' s.heap.objs.size x y->(∀c o,c∉[z,TO,i1,i2]->s.heap.get? c=some o->h'.get? c=some o)->Q (.ref s.heap.objs.size) {s with heap:=h',toks:=tk}) :
  wpAny (model prog w) A (Builtin.«zip.__next__» ⟨[.ref z],[]⟩) (λ fin s'=>∃v,fin=.done (.ret v)/\Q v s') E s:=by
 have ne:=F.ne;simp only[A49,v6,A18,A21,A76,B09,and_true,B32]at ne;obtain⟨⟨P9,Il,LJ,Mm⟩,⟨TITO,TIi1,TIi2⟩,⟨TOi1,TOi2⟩,i12⟩:=ne;obtain⟨Us,O4,Sh⟩:=F.a1;obtain⟨Ur,Lx,NN⟩:=F.a2;obtain⟨hp,gs,dr,_g,os⟩:=s;show wpAny _ _ (field (.ref z) 2>>=_) _ _ _;refine T0 (A32 hz rfl (x:=.bool false) rfl ?_);show wpAny _ _ (field (.ref z) 3>>=_) _ _ _;refine T0 (A32 hz rfl (x:=.ref TI) rfl (T0 (A24 Ea rfl ?_)));show wpAny _ _ (Builtin.SmallTypes.ownedTupleIsFree (.ref z)>>=_) _ _ _;refine T0 ?_;unfold Builtin.SmallTypes.ownedTupleIsFree;refine T0 (A32 hz rfl (x:=.none) rfl (v0 ?_));simp only[A20];refine T0 (A96 (T0 (A32 hz rfl (x:=.ref TO) rfl (T0 (B10 hz (by simp) λ g1 L1 e1=>?_)))));have L1:=L1;have e1:=e1;refine T0 ?_;simp only[List.zipIdx_cons,List.zipIdx_nil,B50,List.forIn_nil];refine T0 (T0 (B56 ?_));show wpAny _ _ (Builtin.SmallTypes.nextOf (.ref i1)>>=_) _ _ _;refine T0 (D1.item k _ _ _ L7 (D1.frame k hp g1 h1 λ c hc o q=>e1.extBut c o (λ y=>Us (y▸hc)) q) λ x g2 t2 hx h12 e2=>v0 ?_);have e2:=e2;have G3:=e2.extBut _ _ TOi1 (e1.extBut _ _ (A06 Il) EM);refine T0 (A24 G3 rfl (T0 (B97 G3 λ g3 KR e3=>?_)));have KR:=KR;have e3:Heap.SameBut TO g2 g3:=e3;refine T0 (A42 (v0 ?_));refine T0 (T0 (B56 ?_));show wpAny _ _ (Builtin.SmallTypes.nextOf (.ref i2)>>=_) _ _ _;have Y2:S2 k g3:=D2.frame k hp g3 h2 λ c hc o q=>e3.extBut c o (λ y=>Lx (y▸hc)) (e2.extBut c o (λ y=>NN (y▸hc)) (e1.extBut c o (λ y=>Ur (y▸hc)) q));refine T0 (D2.item k _ _ _ hk2 Y2 λ y g4 t4 hy h24 e4=>v0 ?_);have e4:Heap.SameBut i2 g3 g4:=e4;have S3:IsPair g4 TO x b:=e4.extBut _ _ TOi2 KR;refine T0 (A24 S3 rfl (T0 (B97 S3 λ g5 KQ e5=>?_)));have KQ:IsPair g5 TO x y:=KQ;have e5:Heap.SameBut TO g4 g5:=e5;refine T0 (A42 (v0 (v0 ?_)));refine T0 (A24 KQ rfl (T0 (wpAny_newTuple ?_)));have AO:g5.objs.size=hp.objs.size:=by rw[e5.1,e4.1,e3.1,e2.1,e1.1]
 have _K:IsZip g5 z TI TO .ellipsis:=e5.extBut _ _ Il (e4.extBut _ _ Mm (e3.extBut _ _ Il (e2.extBut _ _ LJ L1)));have VC:z<g5.objs.size:=A00 _K;show wpAny _ _ (Builtin.SmallTypes.ownedTupleHandOut (.ref z) (.ref g5.objs.size)>>=_) _ _ _;refine T0 ?_;unfold Builtin.SmallTypes.ownedTupleHandOut;have hz6:IsZip (g5.push {cls:=.type "tuple",data:=.seq #[x,y]}) z TI TO .ellipsis:=W1 _ _K;refine T0 (B10 hz6 (by simp) λ g7 X5 e7=>?_);have X5:IsZip g7 z TI TO (rawInt g5.objs.size):=X5;refine B10 X5 (by simp) λ g8 VD e8=>?_;have VD:IsZip g8 z TI TO (rawInt g5.objs.size):=VD;have up:∀c o,c≠z->g5.get? c=some o->g8.get? c=some o:=λ c o h q=>e8.extBut _ _ h (e7.extBut _ _ h (W1 _ q));have __:IsPair g8 g5.objs.size x y:=e8.extBut _ _ (A48 VC) (e7.extBut _ _ (A48 VC) (A11 _ rfl));have s1:S1 (k+1) g8:=D1.frame _ g2 g8 h12 λ c hc o q=>up c o (λ y=>Us (y▸hc)) (e5.extBut c o (λ y=>O4 (y▸hc)) (e4.extBut c o (λ y=>Sh (y▸hc)) (e3.extBut c o (λ y=>O4 (y▸hc)) q)));have s2:S2 (k+1) g8:=D2.frame _ g4 g8 h24 λ c hc o q=>up c o (λ y=>Ur (y▸hc)) (e5.extBut c o (λ y=>Lx (y▸hc)) q);have kp:∀c o,c∉[z,TO,i1,i2]->hp.get? c=some o->g8.get? c=some o:=λ c o hc q=>by simp only[v6,A18,A21,A76]at hc;exact up c o hc.1 (e5.extBut _ _ hc.2.1 (e4.extBut _ _ hc.2.2.2 (e3.extBut _ _ hc.2.1 (e2.extBut _ _ hc.2.2.1 (e1.extBut _ _ hc.1 q)))))
 rw[AO]at VD __;refine v0 ⟨_,rfl,?_⟩;show Q (.ref g5.objs.size) _;rw[AO];exact hQ x y g8 t4 hx hy VD (up _ _ (A06 Il) KQ) s1 s2 __ kp
theorem ER{z TI TO i1 i2:δ}(F:Z6 z TI TO i1 i2 f1 f2)(D1:Draws prog w A i1 f1 n1 P1 S1)(D2:Draws prog w A i2 f2 n2 P2 S2)
  (hz:IsZip s.heap z TI TO .none) (Ea:IsPair s.heap TI (.ref i1) (.ref i2)) (EM:IsPair s.heap TO a b) (h1:S1 k s.heap) (h2:S2 k s.heap) (N5:k=n1\/(k<n1/\k=n2))
  (hE:∀h' e tk,(∀c o,c∉[z,TO,i1,i2]->s.heap.get? c=some o->h'.get? c=some o)->(∃o,h'.get? e=some o/\o.cls=.type "StopIteration")->E (.ref e) {s with heap:=h',toks:=tk}) :
  wpAny (model prog w) A (Builtin.«zip.__next__» ⟨[.ref z],[]⟩) Q E s:=by
 have ne:=F.ne;simp only[A49,v6,A18,A21,A76,B09,and_true,B32]at ne;obtain⟨⟨P9,Il,LJ,Mm⟩,⟨TITO,TIi1,TIi2⟩,⟨TOi1,TOi2⟩,i12⟩:=ne;obtain⟨Us,O4,Sh⟩:=F.a1;obtain⟨Ur,Lx,NN⟩:=F.a2;obtain⟨hp,gs,dr,_g,os⟩:=s;show wpAny _ _ (field (.ref z) 2>>=_) _ _ _;refine T0 (A32 hz rfl (x:=.bool false) rfl ?_);show wpAny _ _ (field (.ref z) 3>>=_) _ _ _;refine T0 (A32 hz rfl (x:=.ref TI) rfl (T0 (A24 Ea rfl ?_)));show wpAny _ _ (Builtin.SmallTypes.ownedTupleIsFree (.ref z)>>=_) _ _ _;refine T0 ?_;unfold Builtin.SmallTypes.ownedTupleIsFree;refine T0 (A32 hz rfl (x:=.none) rfl (v0 ?_));simp only[A20];refine T0 (A96 (T0 (A32 hz rfl (x:=.ref TO) rfl (T0 (B10 hz (by simp) λ g1 L1 e1=>?_)))));have L1:=L1;have e1:=e1;refine T0 ?_;simp only[List.zipIdx_cons,List.zipIdx_nil,B50,List.forIn_nil];refine T0 (T0 (B56 ?_));show wpAny _ _ (Builtin.SmallTypes.nextOf (.ref i1)>>=_) _ _ _;have h11:=D1.frame k hp g1 h1 λ c hc o q=>e1.extBut c o (λ y=>Us (y▸hc)) q;rcases N5 with rfl|⟨L7,rfl⟩
 ·refine T0 (D1.done _ _ _ h11 λ g2 e e2 he=>?_);obtain⟨oe,NX,SU⟩:=he;have e2:=e2;have VE:IsZip g2 z TI TO .ellipsis:=e2 _ _ LJ L1;have YG:e≠z:=λ q=>by subst q;rw[VE]at NX;cases NX;simp at SU
  refine B10 VE (by simp) λ g3 _ e3=>hE g3 e _g (λ c o hc q=>?_) ⟨oe,e3.extBut _ _ YG NX,SU⟩;simp only[v6,A18,A21,A76]at hc;exact e3.extBut _ _ hc.1 (e2 _ _ hc.2.2.1 (e1.extBut _ _ hc.1 q))
 ·refine T0 (D1.item k _ _ _ L7 h11 λ x g2 t2 hx h12 e2=>v0 ?_);have e2:Heap.SameBut i1 g1 g2:=e2;have G3:IsPair g2 TO a b:=e2.extBut _ _ TOi1 (e1.extBut _ _ (A06 Il) EM);refine T0 (A24 G3 rfl (T0 (B97 G3 λ g3 KR e3=>?_)));have e3:Heap.SameBut TO g2 g3:=e3;refine T0 (A42 (v0 ?_));refine T0 (T0 (B56 ?_));show wpAny _ _ (Builtin.SmallTypes.nextOf (.ref i2)>>=_) _ _ _;have Y2:S2 k g3:=D2.frame k hp g3 h2 λ c hc o q=>e3.extBut c o (λ y=>Lx (y▸hc)) (e2.extBut c o (λ y=>NN (y▸hc)) (e1.extBut c o (λ y=>Ur (y▸hc)) q));refine T0 (D2.done _ _ _ Y2 λ g4 e e4 he=>?_);obtain⟨oe,NX,SU⟩:=he;have e4:Heap.ExtBut i2 g3 g4:=e4;have _L:IsZip g4 z TI TO .ellipsis:=e4 _ _ Mm (e3.extBut _ _ Il (e2.extBut _ _ LJ L1));have YG:e≠z:=λ q=>by subst q;rw[_L]at NX;cases NX;simp at SU
  refine B10 _L (by simp) λ g5 _ e5=>hE g5 e t2 (λ c o hc q=>?_) ⟨oe,e5.extBut _ _ YG NX,SU⟩;simp only[v6,A18,A21,A76]at hc;exact e5.extBut _ _ hc.1 (e4 _ _ hc.2.2.2 (e3.extBut _ _ hc.2.1 (e2.extBut _ _ hc.2.2.1 (e1.extBut _ _ hc.1 q))))
end
def Wb(J1 J2:O8):It:=⟨λ i H=>(∃y,J1.at_ i H y)/\∃y,J2.at_ i H y,
 λ i H x H'=>∃T y1 y2,H T=none/\x=.ref T/\H'=upd H T (.tup [y1,y2])/\J1.at_ i H y1/\J2.at_ i H y2,
 λ i H=>(J1.end_ i H/\((∃y,J2.at_ i H y)\/J2.end_ i H))\/((∃y,J1.at_ i H y)/\J2.end_ i H)⟩
theorem RD(I:Inv X χ σ H s)(f:oN X χ H b)(h:X.K.lookup b=some o):False:=by
 have hb:=I.ok.mod.Vo b o h;rcases f.2.2.2.1 with z|z
 ·exact I.ok.Dw b o hb z
 ·exact absurd (A00 (I.ok.bs b o hb).1) (B08.mpr z)
def tnZ(z TI TO i1 i2:δ)(n1 n2:Nat->μ->Prop)(i:Nat)(h:μ):Prop:=IsZip h z TI TO .none/\IsPair h TI (.ref i1) (.ref i2)/\(∃a b,IsPair h TO a b)/\n1 i h/\n2 i h
theorem yi(p:IsPair h T a b):∃o,h.get? T=some o/\∀v,o.data≠.cell v:=
 ⟨_,p,λ v z=>by have z':=z;cases z'⟩
theorem xW{K:PySem.W.Frag}{z TI TO i1 i2:δ}(S1:Src P w K J1 i1 n1)(S2:Src P w K J2 i2 n2)(nd:[z,TI,TO,i1,i2].Nodup):
  Turn P w K (.Tuple elts x1 pos) (Wb J1 J2) [z,TI,TO,i1,i2] z (tnZ z TI TO i1 i2 n1 n2):=by
 have far:∀{X}{χ}{σ}{H}{s}{f1 f2},X.K=K->Inv X χ σ H s->(∀b∈[z,TI,TO,i1,i2],oN X χ H b) ->
   (∀b∈f1,b=i1\/∃o,s.heap.get? b=some o/\o.cls≠.type "enumerate" /\ o.cls≠.type "zip" /\ (H b=none->∃o',K.lookup b=some o')) ->
   (∀b∈f2,b=i2\/∃o,s.heap.get? b=some o/\o.cls≠.type "enumerate" /\ o.cls≠.type "zip" /\ (H b=none->∃o',K.lookup b=some o'))->Z6 z TI TO i1 i2 f1 f2:=by
  intro X χ σ H s f1 f2 hK I hf g1 g2;subst hK;have RM:=nd;simp only[A49,v6,A18,A21,A76,B09,and_true,B32]at RM;obtain⟨⟨P9,Il,LJ,Mm⟩,⟨TITO,TIi1,TIi2⟩,⟨TOi1,TOi2⟩,i12⟩:=RM;have Xr:∀b,b∈[z,TI,TO,i1,i2]->b≠i1->b∉f1:=λ b hb p7 hm=>by
   rcases g1 b hm with q|⟨o,_,_,_,q⟩
   ·exact p7 q
   ·obtain⟨o',h'⟩:=q (hf b hb).1;exact RD I (hf b hb) h'
  have Xq:∀b,b∈[z,TI,TO,i1,i2]->b≠i2->b∉f2:=λ b hb p7 hm=>by
   rcases g2 b hm with q|⟨o,_,_,_,q⟩
   ·exact p7 q
   ·obtain⟨o',h'⟩:=q (hf b hb).1;exact RD I (hf b hb) h'
  exact⟨nd,⟨Xr z (by simp) LJ,Xr TO (by simp) TOi1,Xr i2 (by simp) (A06 i12)⟩,⟨Xq z (by simp) Mm,Xq TO (by simp) TOi2,Xq i1 (by simp) i12⟩⟩
 refine⟨by simp,λ i h st b hb=>?_,λ i h h' st k=>?_,?_,?_,λ A i s Q E st hQ=>B98 st.1 hQ⟩
 ·obtain⟨hz,Ea,⟨a,b',EM⟩,h1,h2⟩:=st;simp only[v6,A18,A21]at hb;rcases hb with rfl|rfl|rfl|rfl|rfl
  ·exact⟨_,hz,λ v z=>by have z':Data.fields _=Data.cell v:=z;cases z'⟩
  ·exact yi Ea
  ·exact yi EM
  ·obtain⟨o,q,r,_⟩:=S1.obj i h h1;exact⟨o,q,r⟩
  ·obtain⟨o,q,r,_⟩:=S2.obj i h h2;exact⟨o,q,r⟩
 ·obtain⟨hz,Ea,⟨a,b',EM⟩,h1,h2⟩:=st;exact⟨k z (by simp) _ hz,k TI (by simp) _ Ea,⟨a,b',k TO (by simp) _ EM⟩,S1.keep i h h' h1 λ o q=>k i1 (by simp) o q,S2.keep i h h' h2 λ o q=>k i2 (by simp) o q⟩
 ·intro X hP hw hK hc i χ s σ H E I hf st hg;obtain⟨hz,Ea,⟨a,b',EM⟩,h1,h2⟩:=st;obtain⟨f1,m1,P1,T1,D1,ml,_,N4,N!,_,SE⟩:=S1.draw X hP hw hK hc i χ s σ H I h1 (.inl hg.1);obtain⟨f2,m2,P2,T2,D2,wq,_,N3,SV,_,SD⟩:=S2.draw X hP hw hK hc i χ s σ H I h2 (.inl hg.2);obtain⟨KL,DZ⟩:=N! hg.1;obtain⟨N0,Py⟩:=SV hg.2;have FR:=far hK I hf N4 N3;subst hP hw hK;have hT:s.TypeIs (.ref z) "zip":=⟨_,hz,rfl⟩
  unfold pyNext;refine T0 (wpAny_attempt (B04 (name:=Str.ofString "__next__") hT B57 (B06 B57 hT F.entry_zip_next (CN FR D1 D2 hz Ea EM ml wq KL N0 λ x y h' tk px py z' to' s1' s2' tt kp=>v0 ?_) (F.args_zip_next_1 _))));refine⟨_,rfl,?_⟩;obtain⟨y1,r1,a1⟩:=DZ x px;obtain⟨y2,r2,a2⟩:=Py y py;have lt:∀{c o},s.heap.get? c=some o->c≠s.heap.objs.size:=λ q=>A10 (A00 q);have YT:H s.heap.objs.size=none:=I.fresh;have hTz:s.heap.objs.size≠z:=(lt hz).symm;refine wpAny_letOwnedTupleGo_zip z' λ Eb VE D7=>?_;have RM:=nd;simp only[A49,v6,A18,A21,A76,B09,and_true,B32]at RM;obtain⟨⟨P9,Il,LJ,Mm⟩,⟨TITO,TIi1,TIi2⟩,⟨TOi1,TOi2⟩,i12⟩:=RM;have tt2:oM Eb s.heap.objs.size [x,y].toArray:=⟨_,D7.extBut _ _ hTz tt⟩
  have I2:Inv X χ σ (upd H s.heap.objs.size (.tup [y1,y2])) {s with heap:=Eb,toks:=tk}:=
   Bx (ch:=[z,TO,i1,i2]) I (λ b o hb q=>D7.extBut b o (λ e=>hb (by simp[e])) (kp b o hb q)) (λ b hb=>hf b (by simp only[v6,A18,A21]at hb ⊢;rcases hb with e|e|e|e<;>simp[e])) (o0 _) tt2 (.cons r1 (.cons r2 .nil)) (by show 2<=sizeLine;decide)
  have k1:n1 (i+1) Eb:=S1.keep _ _ _ (SE _ _ s1') λ o q=>D7.extBut i1 o (A06 LJ) q;have k2:n2 (i+1) Eb:=S2.keep _ _ _ (SD _ _ s2') λ o q=>D7.extBut i2 o (A06 Mm) q;have kTI:IsPair Eb TI (.ref i1) (.ref i2):=D7.extBut _ _ (A06 P9) (kp TI _ (by simp only[v6,A18,A21,A76];exact⟨A06 P9,TITO,TIi1,TIi2⟩) Ea);refine⟨.ref _,_,I2,rfl,⟨_,y1,y2,YT,rfl,rfl,a1,a2⟩,⟨VE,kTI,⟨x,y,D7.extBut _ _ (A06 Il) to'⟩,k1,k2⟩,λ b hb=>?_⟩;have YO:b≠s.heap.objs.size:=by
   simp only[v6,A18,A21]at hb;rcases hb with rfl|rfl|rfl|rfl|rfl
   ·exact lt hz
   ·exact lt Ea
   ·exact lt EM
   ·obtain⟨o,q,_⟩:=S1.obj i _ h1;exact lt q
   ·obtain⟨o,q,_⟩:=S2.obj i _ h2;exact lt q
  rw[aV YO];exact(hf b hb).1
 ·intro X hP hw hK hc i χ s σ H E I hf st hg;obtain⟨hz,Ea,⟨a,b',EM⟩,h1,h2⟩:=st;have g1:(∃y,J1.at_ i H y)\/J1.end_ i H:=by
   rcases hg with⟨q,_⟩|⟨q,_⟩
   ·exact .inr q
   ·exact .inl q
  have g2:(∃y,J2.at_ i H y)\/J2.end_ i H:=by
   rcases hg with⟨_,q⟩|⟨_,q⟩
   ·exact q
   ·exact .inr q
  obtain⟨f1,m1,P1,T1,D1,ml,_,N4,N!,SM,SE⟩:=S1.draw X hP hw hK hc i χ s σ H I h1 g1;obtain⟨f2,m2,P2,T2,D2,wq,_,N3,SV,SK,SD⟩:=S2.draw X hP hw hK hc i χ s σ H I h2 g2;have FR:=far hK I hf N4 N3;have he:i=m1\/(i<m1/\i=m2):=by
   rcases hg with⟨q,_⟩|⟨q,q2⟩
   ·exact .inl (SM q)
   ·exact .inr ⟨(N! q).1,SK q2⟩
  subst hP hw hK;have hT:s.TypeIs (.ref z) "zip":=⟨_,hz,rfl⟩
  unfold pyNext;refine T0 (wpAny_attempt (B04 (name:=Str.ofString "__next__") hT B57 (B06 B57 hT F.entry_zip_next (ER FR D1 D2 hz Ea EM ml wq he λ h' e tk kp hx=>?_) (F.args_zip_next_1 _))));obtain⟨o,ho,G2⟩:=hx;refine T0 (wpAny_isInstance (T:="StopIteration") (b:=true) ⟨o,ho,G2⟩ isSubtype_stop (v0 ⟨rfl,?_⟩));exact By (ch:=[z,TO,i1,i2]) I kp λ b hb=>hf b (by simp only[v6,A18,A21]at hb ⊢;rcases hb with e| e| e| e<;>simp[e])
abbrev zh(T1 T2:String)(h:μ)(l1 l2:δ):μ:=((((h.push {cls:=.type T1,data:=.fields #[.ref l1,.int 0 0]}).push {cls:=.type T2,data:=.fields #[.ref l2,.int 0 0]}).push {cls:=.type "tuple",data:=.seq #[.ref h.objs.size,.ref (h.objs.size+1)]}).push {cls:=.type "tuple",data:=.seq #[.none,.none]}).push
 {cls:=.type "zip",data:=.fields #[.none,.bool false,.bool false,.ref (h.objs.size+2),.ref (h.objs.size+3)]}
theorem yH(l1 l2:δ)(xs ys:Array ζ):Meets (Builtin.«zip.__new__» ⟨[.type "zip",.ref l1,.ref l2],[]⟩) (λ _ R s=>s.heap.IsTuple l1 xs/\s.heap.IsTuple l2 ys/\R (.ok (.ret (.ref (s.heap.objs.size+4)))) {s with heap:=zh "tuple_iterator" "tuple_iterator" s.heap l1 l2}):=
 .of_wp λ prog w A R s h=>by
  obtain⟨hp,gs,dr,tk,os⟩:=s;obtain⟨GZ,L6,h⟩:=h;have m8:=sub_zip;have q1:=GZ;have q2:Heap.IsTuple (Shared.heap ⟨hp.push {cls:=.type "tuple_iterator",data:=.fields #[.ref l1,.int 0 0]},gs,dr,tk,os⟩) l2 ys:=Heap.IsTuple.push L6 _
  wp_walk using A97 q1,A97 q2
  simp only[A58]at h ⊢;exact⟨_,rfl,h⟩
theorem yI(l1 l2:δ)(xs ys:Array ζ):Meets (Builtin.«zip.__new__» ⟨[.type "zip",.ref l1,.ref l2],[]⟩) (λ _ R s=>s.heap.IsList l1 xs/\s.heap.IsTuple l2 ys/\R (.ok (.ret (.ref (s.heap.objs.size+4)))) {s with heap:=zh "list_iterator" "tuple_iterator" s.heap l1 l2}):=
 .of_wp λ prog w A R s h=>by
  obtain⟨hp,gs,dr,tk,os⟩:=s;obtain⟨GZ,L6,h⟩:=h;have m8:=sub_zip;have q1:=GZ;have q2:Heap.IsTuple (Shared.heap ⟨hp.push {cls:=.type "list_iterator",data:=.fields #[.ref l1,.int 0 0]},gs,dr,tk,os⟩) l2 ys:=Heap.IsTuple.push L6 _
  wp_walk using A98 q1,A97 q2
  simp only[A58]at h ⊢;exact⟨_,rfl,h⟩
theorem xv(T1 T2:String)(h:μ)(l1 l2:δ):IsZip (zh T1 T2 h l1 l2) (h.objs.size+4) (h.objs.size+2) (h.objs.size+3) .none/\IsPair (zh T1 T2 h l1 l2) (h.objs.size+2) (.ref h.objs.size) (.ref (h.objs.size+1))/\IsPair (zh T1 T2 h l1 l2) (h.objs.size+3) .none .none /\
  (zh T1 T2 h l1 l2).get? h.objs.size=some {cls:=.type T1,data:=.fields #[.ref l1,.int 0 0]}/\(zh T1 T2 h l1 l2).get? (h.objs.size+1)=some {cls:=.type T2,data:=.fields #[.ref l2,.int 0 0]}/\∀c o,h.get? c=some o->(zh T1 T2 h l1 l2).get? c=some o:=by
 have z1:(h.push {cls:=.type T1,data:=.fields #[.ref l1,.int 0 0]}).objs.size=h.objs.size+1:=A58 ..;have z2:((h.push {cls:=.type T1,data:=.fields #[.ref l1,.int 0 0]}).push {cls:=.type T2,data:=.fields #[.ref l2,.int 0 0]}).objs.size=h.objs.size+2:=by rw[A58,z1]
 have z3:(((h.push {cls:=.type T1,data:=.fields #[.ref l1,.int 0 0]}).push {cls:=.type T2,data:=.fields #[.ref l2,.int 0 0]}).push {cls:=.type "tuple",data:=.seq #[.ref h.objs.size,.ref (h.objs.size+1)]}).objs.size=h.objs.size+3:=by rw[A58,z2]
 have z4:((((h.push {cls:=.type T1,data:=.fields #[.ref l1,.int 0 0]}).push {cls:=.type T2,data:=.fields #[.ref l2,.int 0 0]}).push {cls:=.type "tuple",data:=.seq #[.ref h.objs.size,.ref (h.objs.size+1)]}).push {cls:=.type "tuple",data:=.seq #[.none,.none]}).objs.size=h.objs.size+4:=by rw[A58,z3]
 refine⟨?_,?_,?_,?_,?_,λ c o q=>?_⟩
 ·skip
  rw[<-z4];exact A11 _ rfl
 ·skip
  rw[<-z2];exact W1 _ (W1 _ (A11 _ rfl))
 ·skip
  rw[<-z3];exact W1 _ (A11 _ rfl)
 ·exact W1 _ (W1 _ (W1 _ (W1 _ (A11 _ rfl))))
 ·skip
  rw[<-z1];exact W1 _ (W1 _ (W1 _ (A11 _ rfl)))
 ·exact W1 _ (W1 _ (W1 _ (W1 _ (W1 _ q))))
theorem qX:∀xs ys (i:Nat),(Z.e! xs ys)[i]?=(xs[i]?).bind λ x=>(ys[i]?).map λ y=>Z.pair x y
 |[],ys,i=>by cases ys<;>simp[Z.e!]
 |x::xs,[],i=>by simp[Z.e!]
 |x::xs,y::ys,0=>by simp[Z.e!]
 |x::xs,y::ys,i+1=>by simp[Z.e!,qX xs ys i]
theorem xu:∀xs ys,(Z.e! xs ys).length=min xs.length ys.length
 |[],ys=>by cases ys<;>simp[Z.e!]
 |x::xs,[]=>by simp[Z.e!]
 |x::xs,y::ys=>by simp[Z.e!,xu xs ys]
structure Gives(K:W.Frag)(J:O8)(S:Hp->Prop)(ds:List Z.D):Prop where
 at_:∀(i:Nat) d H1,S H1->ds[i]?=some d->(∃y,J.at_ i H1 y)/\∀y,J.at_ i H1 y->Den K H1 d y
 end_:∀H1,S H1->J.end_ ds.length H1
theorem B8{K:PySem.W.Frag}(g1:Gives K J1 S xs)(g2:Gives K J2 S ys):zP K (Wb J1 J2) S (Z.e! xs ys) where
 go:=λ i d H1 s hi=>by
  rw[qX]at hi;cases q:xs[i]? with
  |none=>rw[q]at hi;cases hi
  |some x=>
   rw[q]at hi;cases q2:ys[i]? with
   |none=>simp[q2]at hi
   |some y=>exact⟨(g1.at_ i x H1 s q).1,(g2.at_ i y H1 s q2).1⟩
 Br:=λ i d H1 H2 x s hi y=>by
  obtain⟨T,y1,y2,hT,rfl,rfl,a1,a2⟩:=y;rw[qX]at hi;cases q:xs[i]? with
  |none=>rw[q]at hi;cases hi
  |some x=>
   rw[q]at hi;cases q2:ys[i]? with
   |none=>simp[q2]at hi
   |some y=>simp only[q2,Option.bind_some,A83,A99]at hi;subst hi;have sm:aH H1 (upd H1 T (.tup [y1,y2])):=cA hT;exact⟨sm,fG (.inl (.inl bC)) (aE.cons (((g1.at_ i x H1 s q).2 y1 a1).up sm) (aE.cons (((g2.at_ i y H1 s q2).2 y2 a2).up sm) aE.nil))⟩
 stop:=λ H1 s=>by
  rw[xu];have e1:=g1.end_ H1 s;have e2:=g2.end_ H1 s;rcases Nat.lt_trichotomy _ _ with h|h|h
  ·rw[B11 (A80 h)];exact .inl ⟨e1,.inl (g2.at_ _ _ H1 s (A01 h)).1⟩
  ·rw[B11 (Nat.le_of_eq h)];rw[<-h]at e2;exact .inl ⟨e1,.inr e2⟩
  ·rw[Nat.min_eq_right (A80 h)];exact .inr ⟨(g1.at_ _ _ H1 s (A01 h)).1,e2⟩
theorem pw{K:W.Frag}(h:lx K H q vs)(t:aE K H ds vs):Gives K (DY K q vs) (kh H) ds:=
 ⟨λ i d H1 s hi=>by obtain⟨y,hy,dy⟩:=t.get hi;refine⟨⟨y,fN s h,hy⟩,λ y' GQ=>?_⟩;have:=GQ.2;rw[hy]at this;cases this;exact dy.ups s,λ H1 s=>⟨fN s h,t.length⟩⟩
theorem Ec{K:W.Frag}(h:Ml K H q vs)(t:aE K H ds vs):Gives K (Kx K q vs) (kh H) ds:=
 ⟨λ i d H1 s hi=>by obtain⟨y,hy,dy⟩:=t.get hi;refine⟨⟨y,(h.mono s).sq,hy⟩,λ y' GQ=>?_⟩;have:=GQ.2;rw[hy]at this;cases this;exact dy.ups s,λ H1 s=>⟨(h.mono s).sq,t.length⟩⟩
section
variable {X:Cx}{a b:θ}{pos p p2:Pos}{fa fb:Z.EF}{elts:γ θ}{x1:Nat}
theorem Cg(I:Inv X χ σ H s):∀b∈[s.heap.objs.size+4,s.heap.objs.size+2,s.heap.objs.size+3,s.heap.objs.size,s.heap.objs.size+1],oN X χ H b:=λ b hb=>by
 have h:s.heap.objs.size<=b:=by simp only[v6,A18]at hb;lia
 exact I.qy h (I.cC.fresh h)
theorem BW(n:Nat):[n+4,n+2,n+3,n,n+1].Nodup:=by simp only[A49,v6,A18,B09,B32];lia
theorem _root_.ZQ.oH(hm:X.mg "zip"=none)(ha:ZQ.QE X a fa)(hb:ZQ.QE X b fb)(hs:starEach [a,b] X.env=[(false,eval a X.env),(false,eval b X.env)]:=by rfl)(wq:starEach [b] X.env=[(false,eval b X.env)]:=by rfl)(h1:Se a [b] X.env:=by rfl)(h2:Se b [] X.env:=by rfl)(hg:Gl X "zip":=by rfl):ZQ.QJ X (.Tuple elts x1 p2) (.Call (.Name "zip" p) [a,b] [] pos) (Z.AN fa fb):=⟨by
 intro χ s σ H R I w;obtain⟨ρ,ds,r,e,k⟩:=w;obtain⟨d1,ea,e⟩:=Z.Res.ax e;obtain⟨d2,eb,e⟩:=Z.Res.ax e;obtain⟨xs,ex,e⟩:=Z.Res.ax e;obtain⟨ys,ey,e⟩:=Z.Res.ax e;cases e;refine Call_ (jV I hg hm (by kernel_rfl:bootBuiltins "zip"=some (.type "zip")) (B03 (dB ((bF ha.p (bF hb.p cI h2) h1) pos χ s σ H (λ vs H1=>∃v u,vs=[v,u]/\aH H H1/\Den X.K H1 d1 v/\Den X.K H1 d2 u) I ⟨ρ,d1,r,ea,λ v H1 s1 q1=>⟨ρ,d2,r.up s1,eb,λ u H2 s2 q2=>⟨v,u,rfl,s1.trans s2,q1.up s2,q2⟩⟩⟩) λ us s1 ⟨vs,H1,I1,r1,q1⟩=>?_) (by rw[hs,wq]) (by rw[wq];rfl)));obtain⟨v,u,rfl,sm,L9,hd2⟩:=q1;obtain⟨u1,u2,rfl,_p,W0⟩:=vals2 r1;have YJ:∃We,d2=.tup We/\We=ys:=by
  cases d2 with
  |tup We=>cases ey;exact⟨_,rfl,rfl⟩
  |non=>cases ey
  |bl _=>cases ey
  |int _=>cases ey
  |str _=>cases ey
  |lst _=>cases ey
  |dct _ _=>cases ey
 obtain⟨_,rfl,rfl⟩:=YJ;obtain⟨q2,_a,rfl,D8,t2⟩:=bU.tup (.inl hd2);cases W0;obtain⟨g_,rv2,_s,_⟩:=I1.tuple D8;cases d1 with
 |tup Wf=>cases ex;obtain⟨q,vs,rfl,hq,t⟩:=bU.tup (.inl L9);cases _p;obtain⟨its,rv,pt,hz⟩:=I1.tuple hq;obtain⟨f1,f2,f3,f4,f5,f6⟩:=xv "tuple_iterator" "tuple_iterator" s1.heap q q2;refine callType_new F.called_zip (by decide) (F.typeCall_zip_2 _ _) (F.newCall_zip_2 _ _) (λ obj=>F.args_object_init_3 obj _ _) F.entry_zip_new (yH q q2 its.toArray g_.toArray) ⟨pt,_s,⟨_,f1,rfl⟩,B98 f1 ?_⟩;exact⟨_,[s1.heap.objs.size+4,s1.heap.objs.size+2,s1.heap.objs.size+3,s1.heap.objs.size,s1.heap.objs.size+1],_,Wb (DY X.K q vs) (DY X.K q2 _a),H1,rfl,I1.kept f6,xW qH qH (BW _),⟨f1,f2,⟨_,_,f3⟩,⟨_,f4,rfl,rfl⟩,⟨_,f5,rfl,rfl⟩⟩,Cg I1,k _ H1 sm (B8 (pw hq t) (pw D8 t2))⟩
 |lst Wf=>cases ex;simp only[Den]at L9;obtain⟨q,vs,rfl,hq,t⟩:=L9;cases _p;obtain⟨its,rv,pt,hz⟩:=I1.list hq.sq;obtain⟨f1,f2,f3,f4,f5,f6⟩:=xv "list_iterator" "tuple_iterator" s1.heap q q2;refine callType_new F.called_zip (by decide) (F.typeCall_zip_2 _ _) (F.newCall_zip_2 _ _) (λ obj=>F.args_object_init_3 obj _ _) F.entry_zip_new (yI q q2 its.toArray g_.toArray) ⟨pt.isList,_s,⟨_,f1,rfl⟩,B98 f1 ?_⟩;exact⟨_,[s1.heap.objs.size+4,s1.heap.objs.size+2,s1.heap.objs.size+3,s1.heap.objs.size,s1.heap.objs.size+1],_,Wb (Kx X.K q vs) (DY X.K q2 _a),H1,rfl,I1.kept f6,xW BF qH (BW _),⟨f1,f2,⟨_,_,f3⟩,⟨_,f4,rfl,rfl⟩,⟨_,f5,rfl,rfl⟩⟩,Cg I1,k _ H1 sm (B8 (Ec hq t) (pw D8 t2))⟩
 |non=>cases ex
 |bl _=>cases ex
 |int _=>cases ex
 |str _=>cases ex
 |dct _ _=>cases ex⟩
end
end ZS
namespace ZQ
open PySem PySem.Spec PyProof.Rows L2 ZS
section
end
end ZQ
noncomputable section
namespace Z
end Z
end
namespace ZS
open PySem PySem.Spec PyProof.Rows L2
end ZS
namespace ZQ
open PySem PySem.Spec PyProof.Rows L2 ZS
end ZQ
noncomputable section
namespace Z
def R!(hi:Int)(n:Nat):γ D:=(List.range n).map λ i=>D.int (hi-(i:Nat))
def Ma:D->D->D->Res (γ D)
 |.int i,.int j,.int k=>guard (k=-1/\-1000000000<=i/\i<=1000000000/\-1000000000<=j/\j<=1000000000) (.ok (R! i (i-j).toNat))
 |_,_,_=>.bad
def Sf(a b c:EF)(ρ:Env):Res (γ D):=(a ρ).bind λ x=>(b ρ).bind λ y=>(c ρ).bind λ z=>Ma x y z
@[simp] theorem Vx(a b c:EF)(ρ:Env):Sf a b c ρ=(a ρ).bind λ x=>(b ρ).bind λ y=>(c ρ).bind λ z=>Ma x y z:=rfl
def QN:D->D->Res (γ D)
 |.lst [d],.int n=>guard (0<=n/\n<=16777216) (.ok (List.replicate n.toNat d))
 |_,_=>.bad
def R6(a:LF)(b:EF)(ρ:Env):Res (γ D):=(a ρ).bind λ xs=>(b ρ).bind λ y=>QN (.lst xs) y
@[simp] theorem XJ(a:LF)(b:EF)(ρ:Env):R6 a b ρ=(a ρ).bind λ xs=>(b ρ).bind λ y=>QN (.lst xs) y:=rfl
def Rj:D->Res D
 |.bl b=>.ok (.bl (!b))
 |_=>.bad
@[simp] theorem Ri(b:Bool):Rj (.bl b)=.ok (.bl (!b)):=rfl
end Z
end
namespace ZS
open PySem PySem.Spec PyProof.Rows L2
section
variable {X:Cx}
theorem zj{K:W.Frag}(h:Den K H d w):∀n,aE K H (List.replicate n d) (List.replicate n w)
 |0=>aE.nil
 |n+1=>aE.cons h (zj h n)
end
end ZS
namespace ZQ
open PySem PySem.Spec PyProof.Rows L2 ZS
section
end
end ZQ
noncomputable section
namespace Z
def iH:γ D->ε (γ (γ Nat))
 |[]=>some []
 |.str c::r=>(iH r).map (c::·)
 |_::_=>none
def cw(sep:γ Nat):γ (γ Nat)->γ Nat
 |[]=>[]
 |[x]=>x
 |x::y::r=>x++sep++cw sep (y::r)
def iO:D->D->Res D
 |.str sep,.lst xs=>match iH xs with
  |some ts=>guard ((ts.map List.length).sum+ts.length*sep.length<=line) (.ok (.str (cw sep ts)))
  |none=>.bad
 |_,_=>.bad
theorem yy(h:iO x y=.ok d):∃sep xs ts,x=.str sep/\y=.lst xs/\iH xs=some ts/\(ts.map List.length).sum+ts.length*sep.length<=16777216/\d=.str (cw sep ts):=by
 unfold iO at h;split at h
 ·split at h
  ·rename_i hs;obtain⟨h1,e⟩:=fQ h;cases e;exact⟨_,_,_,rfl,rfl,hs,h1,rfl⟩
  ·cases h
 ·cases h
theorem ko:∀ts,iH (ts.map D.str)=some ts
 |[]=>rfl
 |t::ts=>by simp[iH,ko ts]
theorem uV:∀ts,cw [] ts=ts.flatten
 |[]=>rfl
 |[x]=>by simp[cw]
 |x::y::r=>by rw[cw,uV];simp
theorem Dq{ts:γ _}(h:ts.flatten.length<=16777216):iO (.str []) (.lst (ts.map D.str))=.ok (.str ts.flatten):=by show(match iH _ with|some ts=>guard _ _|none=>Res.bad)=_;rw[ko];simp only[uV];rw[guard_pos];rw[List.length_flatten]at h;simpa using h
def RA:D->D->Res D
 |.str t,.str [c]=>.ok (.int (t.count c))
 |_,_=>.bad
@[simp] theorem Ve(t:γ Nat)(c:Nat):RA (.str t) (.str [c])=.ok (.int (t.count c)):=rfl
def Rh:D->Res D
 |.tup xs=>.ok (.tup xs.reverse)
 |.str cs=>guard (cs.length<=line) (.ok (.str cs.reverse))
 |_=>.bad
@[simp] theorem Rf(xs:γ D):Rh (.tup xs)=.ok (.tup xs.reverse):=rfl
@[simp] theorem Rg(cs:γ Nat):Rh (.str cs)=guard (cs.length<=line) (.ok (.str cs.reverse)):=rfl
end Z
end
namespace ZS
open PySem PySem.Spec PyProof.Rows L2
def Ij(K:W.Frag)(H:Hp)(b:Bool)(d:Z.D)(v:V):Prop:=if b=true then l9 K H d v else Den K H d v
def kj(K:W.Frag)(H:Hp):γ Bool->γ Z.D->γ V->Prop
 |[],[],vs=>vs=[]
 |b::bs,d::ds,vs=>∃v r,vs=v::r/\Ij K H b d v/\kj K H bs ds r
 |_,_,_=>False
theorem Ij.up{K:W.Frag}(h:Ij K H b d v)(e:aH H H'):Ij K H' b d v:=by
 cases b with
 |true=>exact l9.up (h) e
 |false=>exact Den.up (h) e
theorem kj.up{K:W.Frag}(e:aH H H'):∀{bs}{ds}{vs},kj K H bs ds vs->kj K H' bs ds vs
 |[],[],_,h=>h
 |[],_::_,_,h=>h.elim
 |_::_,[],_,h=>h.elim
 |b::bs,d::ds,_,⟨v,r,e1,h1,h2⟩=>⟨v,r,e1,h1.up e,kj.up e h2⟩
theorem kj.length{K:W.Frag}:∀{bs}{ds}{vs},kj K H bs ds vs->vs.length=ds.length/\ds.length=bs.length
 |[],[],vs,h=>by have:=h;subst this;exact⟨rfl,rfl⟩
 |[],_::_,_,h=>h.elim
 |_::_,[],_,h=>h.elim
 |b::bs,d::ds,_,⟨v,r,e1,h1,h2⟩=>by have:=kj.length h2;subst e1;simp[this.1,this.2]
theorem kj.get{K:W.Frag}{H:Hp}:∀{bs}{ds}{vs}{i:Nat} {b} {d},kj K H bs ds vs->bs[i]?=some b->ds[i]?=some d->∃v,vs[i]?=some v/\Ij K H b d v
 |[],[],_,_,_,_,_,e,_=>by simp at e
 |[],_::_,_,_,_,_,h,_,_=>h.elim
 |_::_,[],_,_,_,_,h,_,_=>h.elim
 |b::bs,d::ds,_,0,b',d',⟨v,r,e1,h1,h2⟩,eb,ed=>by simp at eb ed;subst e1;subst eb;subst ed;exact⟨v,rfl,h1⟩
 |b::bs,d::ds,_,i+1,b',d',⟨v,r,e1,h1,h2⟩,eb,ed=>by subst e1;obtain⟨u,q1,q2⟩:=kj.get h2 (by simpa using eb) (by simpa using ed);exact⟨u,by simpa using q1,q2⟩
def Wl(K:W.Frag)(bs:γ Bool)(f:Z.AF):TA:=λ σ H Q=>∃ρ ds,RE K H σ ρ/\f ρ=.ok ds/\∀vs H',aH H H'->kj K H' bs ds vs->Q vs H'
abbrev DAF(X:Cx)(es:γ θ)(bs:γ Bool)(f:Z.AF):Prop:=PA X es (Wl X.K bs f)
structure _root_.ZQ.QAF(X:Cx)(es:List Expr)(bs:List Bool)(f:Z.AF):Prop where p:DAF X es bs f
section
def WC(K:W.Frag)(bs:γ Bool)(m:γ Z.D->Z.Res Z.D):Sp:=λ vs H Q _=>∃ds d,kj K H bs ds vs/\m ds=.ok d/\∀v H',aH H H'->Den K H' d v->Q v H'
end
section
variable {K:W.Frag}
structure adK(P:Program)(w:World)(K:W.Frag)(mg:Str->Option Value)(base:Heap)(x:Str)(k:Nat)(ps:List Str)(bs:List Bool)(m:List Z.D->Z.Res Z.D):Prop where
 ex:∃g fd,ki P w K mg base oO k g fd ps (WC K bs m)/\mg x=some (.ref g)/\PySem.W.keepIn K (.ref g)=true/\Binds K fd ps []
end
section
end
end ZS
namespace ZQ
open PySem PySem.Spec PyProof.Rows L2 ZS
section
end
end ZQ
namespace ZS
open PySem PySem.Spec PyProof.Rows L2
section
end
section
theorem qZ:∀{ts}{its},Vals (ts.map V.str) its->∃l,strValues l=its/\l.map (·.1)=ts
 |[],its,h=>by cases h;exact⟨[],rfl,rfl⟩
 |t::ts,its,h=>by
  cases h with
  |cons r rr=>obtain⟨tk,rfl⟩:=r;obtain⟨l,rfl,h2⟩:=qZ rr;exact⟨(t,tk)::l,rfl,by rw[<-h2];rfl⟩
def rJoin(K:W.Frag):V->γ V->Hp->VK->Prop:=λ x vs H Q=>∃sep q ts,x=.str sep/\vs=[.ref q]/\jw K H q (ts.map V.str)/\JoinOk sep ts=true/\Q (.str (Txt.join sep ts)) H
theorem J':Ic X "str.join" (rJoin X.K):=by intro χ s σ H x vs v us Q I rx rv h;obtain⟨sep,q,ts,rfl,rfl,hq,cC,k⟩:=h;obtain⟨t,rfl⟩:=rx;obtain⟨u,rfl,ru⟩:=rv.one;cases ru;obtain⟨its,r,pl,hz⟩:=I.list hq;obtain⟨l,rfl,hl⟩:=qZ r;exact SC.join pl.isList hl cC λ t' c=>⟨.str _,H,I.tok c,⟨t',rfl⟩,k⟩
def eT(cs:γ Nat):Str:=⟨cs.toArray⟩
theorem ng{K:PySem.W.Frag}:∀{xs}{ts}{vs},Z.iH xs=some ts->aE K H xs vs->vs=(ts.map eT).map V.str
 |[],ts,vs,e,h=>by cases e;simp only[aE]at h;subst h;rfl
 |x::xs,ts,vs,e,h=>by
  cases x with
  |str c=>
   have e':(Z.iH xs).map _=some ts:=e;cases q:Z.iH xs with
   |none=>rw[q]at e';cases e'
   |some O! =>rw[q]at e';cases e';simp only[aE]at h;obtain⟨v,r,rfl,hv,ht⟩:=h;simp only[Den]at hv;rw[hv,ng q ht];rfl
  |non=>cases e
  |bl _=>cases e
  |int _=>cases e
  |tup _=>cases e
  |lst _=>cases e
  |dct _ _=>cases e
theorem kC(cs:γ Nat):(eT cs).length=cs.length:=by simp[eT,Str.length]
theorem BZ(a b:γ Nat):eT a++eT b=eT (a++b):=by show(⟨a.toArray++b.toArray⟩:Str)=_;simp[eT]
theorem we(sep:γ Nat):∀ts,Txt.join (eT sep) (ts.map eT)=eT (Z.cw sep ts):=by
 intro ts;show Builtin.Str.glued _ _=_;rw[StrLaws.glued_eq_join]
 induction ts with
 |nil=>rfl
 |cons x ts ih=>
  cases ts with
  |nil=>rfl
  |cons y r=>show eT x++eT sep++Str.join _ _=_;rw[ih,BZ,BZ];rfl
theorem B6{ts:γ _}(h:(ts.map List.length).sum+ts.length*sep.length<=16777216):JoinOk (eT sep) (ts.map eT)=true:=by
 unfold JoinOk;rw[StrLaws.joinTotal];have e:(ts.map eT).map (·.length)=ts.map List.length:=by rw[A14];exact A67 λ x _=>kC x
 rw[e,A03,kC];simp only[Builtin.Str.tooLong,Bool.not_eq_true',decide_eq_false_iff_not,B08];rw[A29];exact h
theorem _root_.ZQ.wX(ho:ZQ.QE X o fa)(hb:ZQ.QW X b fb)
  (iD:attributeBase o "join" X.env (eval o X.env)=eval o X.env:=by rfl)
  (lO:((backTo p2 (starEach (b::[]) X.env)).all (λ x=>!x.1)&&(backToKw p2 (keywordEach [] X.env)).all (λ x=>x.1.isSome)
   && decide ((b::[]).length+([]:γ π).length+(if([]:γ π).isEmpty then 0 else 1)<30))=true:=by rfl)
  (iC:(p1.endLine==p2.line)=true:=by rfl) (ml:Se b [] X.env:=by rfl) (f9:Pn p2 [] X.env:=by rfl) :
  ZQ.QE X (.Call (.Attribute o "join" p1) [b] [] p2) (Z.eB Z.iO fa fb):=
 ⟨PE.imp (rM B58 C41 C42 J' ho.p (bF hb.p cI ml) iD lO iC ml f9) λ σ H Q ⟨ρ,d,r,e,k⟩=>by obtain⟨x,ea,e⟩:=Z.Res.ax e;obtain⟨y,eb,e⟩:=Z.Res.ax e;obtain⟨sep,xs,ts,rfl,rfl,et,hl,rfl⟩:=Z.yy e;refine⟨ρ,_,r,ea,λ v H1 s1 d1=>?_⟩;simp only[Den]at d1;subst d1;refine⟨rfl,ρ,_,r.up s1,eb,λ u H2 s2 d2=>?_⟩;obtain⟨q,vs,rfl,hq,t⟩:=d2.lst;rw[ng et t]at hq;refine⟨eT sep,q,ts.map eT,rfl,rfl,hq,B6 hl,?_⟩;rw[we];exact k _ H2 (s1.trans s2) eI⟩
end
end ZS
namespace ZQ
open PySem PySem.Spec PyProof.Rows L2 ZS
section
end
end ZQ
namespace ZS
open PySem PySem.Spec PyProof.Rows L2
section
end
section
variable {e st:θ}
end
end ZS
namespace ZQ
open PySem PySem.Spec PyProof.Rows L2 ZS
section
end
end ZQ
noncomputable section
namespace Z
def qt(_:Env):Res Fl:=.bad
@[simp] theorem WY(ρ:Env):qt ρ=.bad:=rfl
def Zy(_:Env):Res D:=.bad
@[simp] theorem Zx(ρ:Env):Zy ρ=.bad:=rfl
def yw:D->D->Res D
 |.tup [d],.int n=>guard (0<=n/\n<=1000000) (.ok (.tup (List.replicate n.toNat d)))
 |_,_=>.bad
theorem JX(d:D)(n:Int):yw (.tup [d]) (.int n)=guard (0<=n/\n<=1000000) (.ok (.tup (List.replicate n.toNat d))):=rfl
theorem F5(h:yw x y=.ok d):∃e n,x=.tup [e]/\y=.int n/\0<=n/\n<=1000000/\d=.tup (List.replicate n.toNat e):=by
 unfold yw at h;split at h
 ·obtain⟨⟨h0,h1⟩,e⟩:=fQ h;cases e;exact⟨_,_,rfl,rfl,h0,h1,rfl⟩
 ·cases h
def P!(f:γ D->Res D)(ds:γ D):Res D:=f (ds++[.non])
@[simp] theorem Uw(f:γ D->Res D)(ds:γ D):P! f ds=f (ds++[.non]):=rfl
end Z
end
namespace ZS
open PySem PySem.Spec PyProof.Rows L2
theorem _root_.ZQ.m_{st:ν}:ZQ.QS X H0 st Z.qt:=⟨λ _ _ _ _ _ _ ⟨_,_,_,e,_⟩=>nomatch e⟩
theorem _root_.ZQ.Cm:ZQ.CH X H0 C6 Z.qt:=⟨λ _ _ _ _ _ _ ⟨_,_,_,e,_⟩=>nomatch e⟩
theorem HQ{K:W.Frag}(C:e6 P w K mg base x k ps m)(hm:∀ds d,m ds≠.ok d:=by intro ds d h;unfold Z.fn at h;split at h<;>cases h):e6 P w K mg base x k ps (λ _=>.bad):=by
 obtain⟨g,fd,F,h⟩:=C.ex;have:xl K m=xl K λ _=>.bad:=by
  funext vs H Q E
  refine propext ⟨λ⟨ds,d,_,e,_⟩=>absurd e (hm ds d),λ⟨ds,d,_,e,_⟩=>nomatch e⟩
 rw[this]at F;exact⟨g,fd,F,h⟩
structure LD(K:W.Frag)(x qual:Str)(st:Stmt)(f:Addr)(fd:FuncData):Prop where
 ex:∃(oc:Value)(od:Option Addr)(dV kV doc pm:Value)(an:Option Addr)(cV ct:Value)(zM:Array (Option Value)),
  fd=PySem.W.fnOf x qual (cQ st) (bB st) (aB st) dV kV doc pm an cV ct/\K.lookup f=some ⟨oc,od,.func fd,zM⟩/\PySem.W.codeIn K cV qual=true
 kp:PySem.W.keepIn K (.ref f)=true
section
variable {K:W.Frag}
theorem LD.ok{st:ν}(F:LD K x qual st f fd)(S:c6 N ps (aB st))(len:∀vs H Q E,sp vs H Q E->vs.length=ps.length)
  (yR:∀ cV A outer s H vs Q E,d? k (A.deeper (envOfC qual (aB st) s.heap.objs.size f cV))->sp vs H Q E ->
   ∃t,tD (iZ oO P w K mg base N qual (aB st) f cV A outer s H E).qJ (bB st) t/\t {nx:=λ _ H'=>Q .non H',rt:=Q} (start N vs) H):ki P w K mg base oO (k+1) f fd ps sp:=by
 obtain⟨oc,od,dV,kV,doc,pm,an,cV,ct,zM,rfl,lk,tu⟩:=F.ex;refine Cj lk tu S len λ A outer s H vs Q E hr L3=>?_;obtain⟨t,h,q⟩:=yR cV A outer s H vs Q E hr L3;exact⟨t,h.qJ,q⟩
theorem Y!{st:ν}(F:LD K x qual st f fd)(S:c6 N ps (aB st))
  (hb:∀ cV A outer s H E,d? k (A.deeper (envOfC qual (aB st) s.heap.objs.size f cV)) ->
   O9 (iZ oO P w K mg base N qual (aB st) f cV A outer s H E).qJ H (bB st) b):ki P w K mg base oO (k+1) f fd ps (xl K (Z.fn ps.length N.length b)):=by
 have ψ:∀vs H Q E,xl K (Z.fn ps.length N.length b) vs H Q E->vs.length=ps.length:=λ vs H Q E ⟨ds,d,t,e,_⟩=>by
  unfold Z.fn at e;split at e
  ·rename_i h;rw[t.length];exact h
  ·cases e
 refine F.ok S ψ (λ cV A outer s H vs Q E hr h=>⟨_,hb cV A outer s H E hr,?_⟩);have hl:=ψ vs H Q E h;obtain⟨ds,d,t,e,k⟩:=h;have iV:ps.length<=N.length:=by have:=A22 List.length S.pre;rw[A34]at this;lia
 have rs:RS K H H (L2.start N vs) (Z.start N.length ds):=md t (by lia);unfold Z.fn at e;split at e
 ·cases eb:b (Z.start N.length ds)with
  |bad=>rw[eb]at e;cases e
  |ok fl=>
   rw[eb]at e;refine⟨_,fl,rs,eb,?_⟩;cases fl with
   |rt d'=>cases e;exact λ v H' s' dv=>k v H' s' dv
   |nx ρ'=>cases e;exact λ σ' H' _ Io=>k .non H' Io.same oK
   |bk ρ'=>cases e
   |ct ρ'=>cases e
 ·cases e
structure LG(K:W.Frag)(mg:Str->Option Value)(x:Str)(st:Stmt)(ps:List Str):Prop where
 ex:∃f fd,LD K x x st f fd/\mg x=some (.ref f)/\Binds K fd ps []/\Binds K fd ps [.none]
structure pU(P:Program)(w:World)(K:W.Frag)(mg:Str->Option Value)(base:Heap)(x:Str)(k:Nat)(ps:List Str)(m:List Z.D->Z.Res Z.D):Prop where
 ex:∃g fd,ki P w K mg base oO k g fd ps (xl K m)/\mg x=some (.ref g)/\PySem.W.keepIn K (.ref g)=true/\Binds K fd ps []/\Binds K fd ps [.none]
theorem pU.full(C:pU P w K mg base x k ps m):e6 P w K mg base x k ps m:=
 let ⟨g,fd,h1,h2,h3,h4,_⟩:=C.ex;⟨g,fd,h1,h2,h3,h4⟩
theorem pU.mk'{st:ν}(d:LG K mg x st ps)(S:c6 N ps (aB st))
  (hb:∀ f cV A outer s H E,d? k (A.deeper (envOfC x (aB st) s.heap.objs.size f cV)) ->
   O9 (iZ oO P w K mg base N x (aB st) f cV A outer s H E).qJ H (bB st) b):pU P w K mg base x (k+1) ps (Z.fn ps.length N.length b):=by
 obtain⟨f,fd,F,hm,AU,PQ⟩:=d.ex;exact⟨f,fd,Y! F S (hb f),hm,F.kp,AU,PQ⟩
theorem K'{st:ν}{ps:γ Str}{f t:δ}{oc:ζ}{od an:ε δ}{zM:Array (ε ζ)}{kV doc pm cV ct tc:ζ}{td:ε δ}{tn:Nat}{tsl:Array (ε ζ)}
  (l:K.lookup f=some ⟨oc,od,.func (PySem.W.fnOf x x (cQ st) (bB st) (aB st) (.ref t) kV doc pm an cV ct),zM⟩)
  (c:PySem.W.codeIn K cV x=true) (k:PySem.W.keepIn K (.ref f)=true) (lt:K.lookup t=some ⟨tc,td,.seq #[.none] tn,tsl⟩) (hm:mg x=some (.ref f))
  (h1:∀us,us.length=ps.length->∃kk,bindArgs (PySem.W.fnOf x x (cQ st) (bB st) (aB st) (.ref t) kV doc pm an cV ct) ⟨us,[]⟩=seqItems? (.ref t)>>=kk/\kk (some #[.none])=pure (ps.zip us))
  (h2:∀us,us.length+1=ps.length->∃kk,bindArgs (PySem.W.fnOf x x (cQ st) (bB st) (aB st) (.ref t) kV doc pm an cV ct) ⟨us,[]⟩=seqItems? (.ref t)>>=kk/\kk (some #[.none])=pure (ps.zip (us++[.none]))):LG K mg x st ps:=by
 refine⟨f,_,⟨⟨oc,od,.ref t,kV,doc,pm,an,cV,ct,zM,rfl,l,c⟩,k⟩,hm,λ s us hK hl=>?_,λ s us hK hl=>?_⟩
 ·rw[A87]at hl ⊢;obtain⟨kk,e1,e2⟩:=h1 us hl;exact BindsTo.of_defaults (T:=t) (items:=#[.none]) rfl (hK t _ lt) rfl e1 e2
 ·obtain⟨kk,e1,e2⟩:=h2 us (by simpa using hl);exact BindsTo.of_defaults (T:=t) (items:=#[.none]) rfl (hK t _ lt) rfl e1 e2
end
section
end
end ZS
namespace ZQ
open PySem PySem.Spec PyProof.Rows L2 ZS
section
theorem nk{K:W.Frag}{st:ν}(d:ZS.LG K mg x st ps)(hb:∀{f}{cV}{A}{outer}{s}{H}{E},N.Nodup->(A.deeper (envOfC x (aB st) s.heap.objs.size f cV)).units+64<cLine->d? k (A.deeper (envOfC x (aB st) s.heap.objs.size f cV))->CH (iZ oO P w K mg base N x (aB st) f cV A outer s H E).qJ H (bB st) b)(S:c6 N ps (aB st):=by exact ZS.S!):ZS.pU P w K mg base x (k+1) ps (Z.fn ps.length N.length b):=ZS.pU.mk' d S λ f cV A outer s H E hr=>(hb S.nd hr.units hr).p
end
end ZQ
namespace PySem
open Sem (wp)
open Builtin
theorem o?:fillsNumberSlot (.type "tuple") "mul"=pure false:=
 fillsNumberSlot_seq B33.lookup (by decide +kernel) F.slot_tuple_rmul.lookup (by decide +kernel)
theorem vP:seqRepeat? (.type "tuple")=pure (some (.builtin "tuple.__mul__")):=by unfold seqRepeat?;rw[seqSlot_of (name:="__mul__") B33.lookup (by decide +kernel),seqSlot_of (name:="__rmul__") F.slot_tuple_rmul.lookup (by decide +kernel)];rfl
theorem kF(a:Int)(t:Tok)(l:δ)(items:Array ζ)(n:Nat)(dd:ε δ)(sl:Array _):
  Meets (Builtin.«int.__rmul__» ⟨[.int a t,.ref l],[]⟩) (λ _ R s=>s.heap.get? l=some {cls:=.type "tuple",dict:=dd,data:=.seq items n,slots:=sl}/\R (.ok (.ret Value.notImplemented)) s):=
 .of_wp λ prog w A R s h=>by obtain⟨hp,g,d,tk,os⟩:=s;obtain⟨hl,h⟩:=h;wp_walk;exact⟨_,rfl,h⟩
theorem qo(a:Int)(t:Tok)(l:δ)(x:ζ)(n:Nat)(dd:ε δ)(sl:Array _)(h0:a=0):
  Meets (Builtin.«tuple.__mul__» ⟨[.ref l,.int a t],[]⟩) (λ _ R s=>s.heap.get? l=some {cls:=.type "tuple",dict:=dd,data:=.seq #[x] n,slots:=sl}/\R (.ok (.ret (.ref s.heap.objs.size))) {s with heap:=s.heap.push {cls:=.type "tuple",data:=.seq #[]}}):=
 .of_wp λ prog w A R s h=>by
  obtain⟨hp,g,d,tk,os⟩:=s;obtain⟨hl,h⟩:=h;subst h0
  wp_walk
  exact⟨_,rfl,h⟩
theorem qm(a:Int)(t:Tok)(l:δ)(x:ζ)(n:Nat)(dd:ε δ)(sl:Array _)(h0:a=1):
  Meets (Builtin.«tuple.__mul__» ⟨[.ref l,.int a t],[]⟩) (λ _ R s=>s.heap.get? l=some {cls:=.type "tuple",dict:=dd,data:=.seq #[x] n,slots:=sl}/\R (.ok (.ret (.ref l))) s):=
 .of_wp λ prog w A R s h=>by
  obtain⟨hp,g,d,tk,os⟩:=s;obtain⟨hl,h⟩:=h;subst h0
  wp_walk
  exact⟨_,rfl,h⟩
theorem qk(a:Int)(t:Tok)(l:δ)(x:ζ)(n:Nat)(dd:ε δ)(sl:Array _)(h1:¬(decide (a < -(2^63))||decide (a≥2^63))=true)(h2:¬((#[x]).isEmpty||a==1)=true)(h3:¬(decide (a<=0)||(#[x]).isEmpty)=true)(h4:¬((#[x]).size)*a>(2^63-1) / 8)(h5:¬Tuple.tupleTooMany (((#[x]).size)*a)=true)(h6:((List.replicate a.toNat #[x]).foldl (·++·) #[]).size<=sizeLine):
  Meets (Builtin.«tuple.__mul__» ⟨[.ref l,.int a t],[]⟩) (λ _ R s=>s.heap.get? l=some {cls:=.type "tuple",dict:=dd,data:=.seq #[x] n,slots:=sl}/\R (.ok (.ret (.ref s.heap.objs.size))) {s with heap:=s.heap.push {cls:=.type "tuple",data:=.seq ((List.replicate a.toNat #[x]).foldl (·++·) #[])}}):=
 .of_wp λ prog w A R s h=>by
  obtain⟨hp,g,d,tk,os⟩:=s;obtain⟨hl,h⟩:=h
  wp_walk
  refine B34 (by simpa using h1) ?_
  wp_walk
  refine B34 (by simpa using h2) ?_
  wp_walk
  refine B34 (by simpa using h3) ?_
  wp_walk
  refine B34 (A63 h4) ?_
  wp_walk
  refine B34 (by simpa using h5) ?_
  wp_walk
  exact⟨_,rfl,h⟩
end PySem
namespace ZS
open PySem PySem.Spec PyProof.Rows L2
section
def QR(K:W.Frag):R2:=λ x y H Q=>∃l k w,x=.ref l/\y=.int k/\lx K H l [w]/\0<=k/\k<=1000000/\(k=1->Q (.ref l) H)/\(k≠1->∀p,H p=none->Q (.ref p) (upd H p (.tup (List.replicate k.toNat w))))
theorem uY(v:ζ):∀k acc,List.foldl (λ x1 x2=>x1++x2) acc (List.replicate k #[v])=acc++(List.replicate k v).toArray
 |0,acc=>by simp
 |k+1,acc=>by rw[List.replicate_succ,B59,uY,List.replicate_succ];apply Array.toList_inj.mp;simp
theorem uo(r:RelV w u):∀k,Vals (List.replicate k w) (List.replicate k u)
 |0=>.nil
 |k+1=>.cons r (uo r k)
theorem JJ:jv X (binaryOp .Mult) (QR X.K):=by
 intro χ s σ H x y v u Q I rx ry h;obtain⟨l,k,w,rfl,rfl,hq,h0,h1,q1,q2⟩:=h;cases rx;obtain⟨t,rfl⟩:=ry;obtain⟨its,r,ht,hz⟩:=I.tuple hq;obtain⟨x,rfl,rx⟩:=vals1 r;obtain⟨⟨cls,dd,data,sl⟩,ho,hc,n,hd⟩:=id ht;simp only at hc hd;subst hc hd;have e:=ho;refine wpAny_binaryOp_repeat_ref (by decide) ⟨_,e,rfl⟩ (λ s'=>typeIs_int s' k t) o? F.fills_int_mul F.slot_int_rmul vP F.slot_int_index.lookup
  (A50 F.slot_int_rmul (typeIs_int s k t) F.entry_int_rmul (F.args_int_rmul_2 _ _) (kF k t l #[x] n dd sl) ⟨e,rfl,⟨_,e,rfl⟩,?_⟩)
 by_cases L7:k=1
 ·exact A50 B33 ⟨_,e,rfl⟩ B99 (C00 _ _) (qm k t l x n dd sl L7) ⟨e,⟨.ref l,H,I,rfl,q1 L7⟩⟩
 ·by_cases PH:k=0
  ·refine A50 B33 ⟨_,e,rfl⟩ B99 (C00 _ _) (qo k t l x n dd sl PH) ⟨e,?_⟩;have q:=q2 L7 _ (I.cC.fresh (o0 s.heap.objs.size));rw[PH]at q;refine⟨.ref _,_,I.laid (λ b ob z=>W1 _ z) (o0 _) ?_,rfl,q⟩;exact⟨A51 _,[],.nil,oM.new _ _⟩
  ·skip
   have hf:=uY x k.toNat #[];rw[Array.empty_append]at hf;have hs:(1000000)<=sizeLine:=by decide
   refine A50 B33 ⟨_,e,rfl⟩ B99 (C00 _ _) (qk k t l x n dd sl ?_ ?_ ?_ ?_ ?_ ?_) ⟨e,?_⟩
   ·simp;lia
   ·simp;lia
   ·simp;lia
   ·show ¬((1))*k>(2^63-1) / 8;lia
   ·show ¬(decide (((1))*k>(sizeLine)))=true;rw[A89];have:=Int.ofNat_le.mpr hs;generalize (sizeLine)=z at this ⊢;lia
   ·rw[hf,A07,B18];lia
   ·rw[hf];refine⟨.ref _,_,I.laid (λ b ob z=>W1 _ z) (o0 _) ?_,rfl,q2 L7 _ (I.cC.fresh (o0 _))⟩;exact⟨by rw[B18];lia,_,uo rx k.toNat,oM.new _ _⟩
theorem _root_.ZQ.K?(ha:ZQ.QW X a fa)(hb:ZQ.QW X b fb):ZQ.QE X (.BinOp a .Mult b pos) (Z.eB Z.yw fa fb):=⟨PE.imp (FQ JJ ha.p hb.p) λ σ H Q ⟨ρ,d,r,e,k⟩=>by
 obtain⟨x,ea,e⟩:=Z.Res.ax e;obtain⟨y,eb,e⟩:=Z.Res.ax e;obtain⟨d0,n,rfl,rfl,h0,h1,rfl⟩:=Z.F5 e;refine⟨ρ,_,r,ea,λ v H1 s1 d1=>⟨ρ,_,r.up s1,eb,λ u H2 s2 d2=>?_⟩⟩;obtain⟨q,vs,rfl,hq,t⟩:=d1.tup;simp only[aE]at t;obtain⟨w,r',rfl,dw,rfl⟩:=t;refine⟨q,n,w,rfl,d2.int,?_,h0,h1,λ hn=>?_,λ hn p hp=>?_⟩
 ·exact fN (o4 s2) hq
 ·subst hn;exact k _ H2 (s1.trans s2) (fG (fN (o4 s2) hq) (aE.cons (dw.up s2) aE.nil))
 ·have s3:aH H2 (upd H2 p (.tup (List.replicate n.toNat w))):=cA hp;exact k _ _ ((s1.trans s2).trans s3) (fG (lx.of bC) (zj ((dw.up s2).up s3) _))⟩
end
end ZS
namespace ZQ
open PySem PySem.Spec PyProof.Rows L2 ZS
section
end
end ZQ
noncomputable section
namespace Z
def nh(c:Nat):γ Nat->γ (γ Nat)
 |[]=>[[]]
 |x::r=>if x=c then[]::nh c r else match nh c r with
  |[]=>[[x]]
  |p::ps=>(x::p)::ps
theorem u9:∀{p},c∉p->nh c p=[p]
 |[],_=>rfl
 |x::r,h=>by have h1:x≠c:=λ e=>h (by simp[e]);have h2:=λ e=>h (A09 _ e);rw[nh,f8 h1,u9 h2]
theorem zp:∀{p} r,c∉p->nh c (p++c::r)=p::nh c r
 |[],r,_=>by rw[B35,nh,M2 rfl]
 |x::p,r,h=>by have h1:x≠c:=λ e=>h (by simp[e]);have h2:=λ e=>h (A09 _ e);rw[B90,nh,f8 h1,zp r h2]
theorem kS:∀{ts},ts≠[]->(∀p∈ts,c∉p)->nh c (cw [c] ts)=ts
 |[],h,_=>absurd rfl h
 |[x],_,h=>u9 (h x (by simp))
 |x::y::r,_,h=>by rw[cw,A69,List.singleton_append,zp _ (h x (by simp)),kS (by simp) λ p hp=>h p (A09 _ hp)]
def Ad:D->D->Res (γ D)
 |.str cs,.str [c]=>guard (cs.length+2<=line) (.ok ((nh c cs).map .str))
 |_,_=>.bad
def wb(a b:EF)(ρ:Env):Res (γ D):=(a ρ).bind λ x=>(b ρ).bind λ y=>Ad x y
theorem Fi(cs:γ Nat)(c:Nat):Ad (.str cs) (.str [c])=guard (cs.length+2<=line) (.ok ((nh c cs).map .str)):=rfl
theorem Je(h:Ad x y=.ok ds):∃cs c,x=.str cs/\y=.str [c]/\cs.length+2<=line/\ds=(nh c cs).map .str:=by
 unfold Ad at h;split at h
 ·obtain⟨h1,e⟩:=fQ h;cases e;exact⟨_,_,rfl,rfl,h1,rfl⟩
 ·cases h
def rR:D->D->Res D
 |.str sep,.tup xs=>iO (.str sep) (.lst xs)
 |_,_=>.bad
theorem Dr(h:rR x y=.ok d):∃sep xs ts,x=.str sep/\y=.tup xs/\iH xs=some ts/\(ts.map List.length).sum+ts.length*sep.length<=16777216/\d=.str (cw sep ts):=by
 unfold rR at h;split at h
 ·obtain⟨sep,xs,ts,e1,e2,h1,h2,h3⟩:=yy h;cases e1;cases e2;exact⟨_,_,ts,rfl,rfl,h1,h2,h3⟩
 ·cases h
def Wj:D->D->Res (γ D)
 |.tup xs,.lst ys=>.ok (e! xs ys)
 |_,_=>.bad
def Sb(a b:EF)(ρ:Env):Res (γ D):=(a ρ).bind λ x=>(b ρ).bind λ y=>Wj x y
@[simp] theorem Vv(a b:EF)(ρ:Env):Sb a b ρ=(a ρ).bind λ x=>(b ρ).bind λ y=>Wj x y:=rfl
@[simp] theorem _d(xs ys:γ D):Wj (.tup xs) (.lst ys)=.ok (e! xs ys):=rfl
@[simp] theorem R4(a b:EF)(ρ:Env):wb a b ρ=(a ρ).bind λ x=>(b ρ).bind λ y=>Ad x y:=rfl
end Z
end
namespace ZS
open PySem PySem.Spec PyProof.Rows L2
section
theorem zz(hy:(y.length == 0)=false)(hx:x.length+2<=sizeLine)
  (hq:∀l k,l.map (·.1)=Txt.split x y->Q (.ref s.heap.objs.size) {s with toks:=k,heap:=s.heap.push {cls:=.type "list",data:=.seq (strValues l).toArray}}) :
  wpAny (model prog w) A (call (.builtin "str.split") [.str x t,.str y u]) Q E s:=by
 cases h1:(decide (x.length<y.length)||decide (Builtin.Str.strKind x<Builtin.Str.strKind y))
 ·cases hf:(Builtin.Str.occurrences x y 0 _ _).isEmpty
  ·have e:Txt.split x y=Builtin.Str.partsBetween x _ _:=(f8 (C01 h1)).trans (f8 (C01 hf));refine A50 C02 (A88 _ _ _) C03 (C04 _ _) (meets_str_split_sep x y t u h1 hy hf (by lia) (by rw[<-e];exact A16 (C43 x y) hx)) ?_;rw[strsFrom_eq];exact hq (numbered s.toks _) _ ((numbered_texts _ _).trans e.symm)
  ·exact A50 C02 (A88 _ _ _) C03 (C04 _ _) (meets_str_split_not_found x y t u h1 hy hf)
    (hq [(x,t)] s.toks ((f8 (C01 h1)).trans (M2 hf)).symm)
 ·exact A50 C02 (A88 _ _ _) C03 (C04 _ _) (meets_str_split_cannot_occur x y t u h1)
   (hq [(x,t)] s.toks (M2 h1).symm)
end
theorem J!(x:Str):eT x.cps.toList=x:=by cases x;rfl
theorem uA(cs:γ Nat)(c:Nat):Txt.split (eT cs) ⟨#[c]⟩=(Z.nh c cs).map eT:=by
 have hf:=StrLaws.split_free (eT cs) c;have hj:=StrLaws.join_split (eT cs) ⟨#[c]⟩;have hp:=PyProof.Rows.split_pos (eT cs) ⟨#[c]⟩;generalize Txt.split _ ⟨#[c]⟩=L at hf hj hp;have e:L=(L.map (·.cps.toList)).map eT:=by rw[A14];have:(eT∘λ x=>x.cps.toList)=id:=funext J!;rw[this,List.map_id]
 have SA:Txt.join (eT [c]) L=eT cs:=by show Builtin.Str.glued _ _=_;rw[StrLaws.glued_eq_join];exact hj
 rw[e,we]at SA;have h3:Z.cw [c] (L.map (·.cps.toList))=cs:=by
  have:((eT (Z.cw [c] (L.map (·.cps.toList)))).cps).toList=(eT cs).cps.toList:=by rw[SA]
  simpa[eT]using this
 rw[<-h3,Z.kS]
 ·exact e
 ·intro z;have:=List.map_eq_nil_iff.mp z;rw[this]at hp;simp at hp
 ·intro p Sm;obtain⟨q,hq,rfl⟩:=A08.mp Sm;exact hf q hq
section
theorem uv:∀l,Vals ((l.map (·.1)).map V.str) (strValues l)
 |[]=>.nil
 |(x,t)::l=>.cons ⟨t,rfl⟩ (uv l)
def MN:V->γ V->Hp->VK->Prop:=λ x vs H Q=>∃cs c,x=.str (eT cs)/\vs=[.str ⟨#[c]⟩]/\cs.length+2<=sizeLine/\∀q,H q=none->Q (.ref q) (upd H q (.lst (((Z.nh c cs).map eT).map V.str)))
theorem Gh:Ic X "str.split" MN:=by
 intro χ s σ H x vs v us Q I rx rv h;obtain⟨cs,c,rfl,rfl,hl,k⟩:=h;obtain⟨tk,rfl⟩:=rx;obtain⟨u,rfl,ru⟩:=rv.one;obtain⟨_e,rfl⟩:=ru;refine zz rfl (by rw[kC];exact hl) λ l kk e=>?_;rw[uA]at e;rw[<-e]at k;refine⟨.ref _,_,I.laid (λ b ob q=>W1 _ q) (o0 _) ?_,rfl,k _ (I.cC.fresh (o0 _))⟩;have ψ:(l.map (·.1)).length<=sizeLine:=by rw[e,<-uA];refine A16 (C43 _ _) ?_;rw[kC];exact hl
 exact⟨by rw[A03];exact ψ,_,_,uv l,A11 _ rfl⟩
theorem u7{K:W.Frag}:∀(ts:γ _),aE K H (ts.map Z.D.str) ((ts.map eT).map V.str)
 |[]=>aE.nil
 |t::ts=>aE.cons eI (u7 ts)
theorem _root_.ZQ.zg(ho:ZQ.QW X o fa)(hb:ZQ.QW X b fb)
  (iD:attributeBase o "split" X.env (eval o X.env)=eval o X.env:=by rfl)
  (lO:((backTo p2 (starEach (b::[]) X.env)).all (λ x=>!x.1)&&(backToKw p2 (keywordEach [] X.env)).all (λ x=>x.1.isSome)
   && decide ((b::[]).length+([]:γ π).length+(if([]:γ π).isEmpty then 0 else 1)<30))=true:=by rfl)
  (iC:(p1.endLine==p2.line)=true:=by rfl) (ml:Se b [] X.env:=by rfl) (f9:Pn p2 [] X.env:=by rfl) :
  ZQ.QL X (.Call (.Attribute o "split" p1) [b] [] p2) (Z.wb fa fb):=
 ⟨PE.imp (rM B58 PySem.F.slot_str_split PySem.F.type_str_split Gh ho.p (bF hb.p cI ml) iD lO iC ml f9) λ σ H Q ⟨ρ,d,r,e,k⟩=>by obtain⟨x,ea,e⟩:=Z.Res.ax e;obtain⟨y,eb,e⟩:=Z.Res.ax e;obtain⟨cs,c,rfl,rfl,hl,rfl⟩:=Z.Je e;refine⟨ρ,_,r,ea,λ v H1 s1 d1=>?_⟩;have OH:=d1.str;subst OH;refine⟨rfl,ρ,_,r.up s1,eb,λ u H2 s2 d2=>?_⟩;have OG:=d2.str;subst OG;refine⟨cs,c,rfl,rfl,by rw[A29];exact hl,λ q hq=>?_⟩;have s3:aH H2 (upd H2 q (.lst (((Z.nh c cs).map eT).map V.str))):=cA hq;exact k q _ _ ((s1.trans s2).trans s3) ((s1.trans s2).free hq) bC (u7 _)⟩
def MO(K:W.Frag):V->γ V->Hp->VK->Prop:=λ x vs H Q=>∃sep q ts,x=.str sep/\vs=[.ref q]/\lx K H q (ts.map V.str)/\JoinOk sep ts=true/\Q (.str (Txt.join sep ts)) H
theorem Gi:Ic X "str.join" (MO X.K):=by intro χ s σ H x vs v us Q I rx rv h;obtain⟨sep,q,ts,rfl,rfl,hq,cC,k⟩:=h;obtain⟨t,rfl⟩:=rx;obtain⟨u,rfl,ru⟩:=rv.one;cases ru;obtain⟨its,r,pl,hz⟩:=I.tuple hq;obtain⟨l,rfl,hl⟩:=qZ r;subst hl;unfold JoinOk at cC;rw[Bool.not_eq_true']at cC;obtain⟨o,ho,hc,n,hd⟩:=pl;exact A50 F.slot_str_join (A88 _ _ _) F.entry_str_join (F.args_str_join_2 _ _) (meets_str_join_tuple sep t q l cC) ⟨⟨o,n,ho,hc,hd⟩,post_join l ⟨joinFit_length cC,λ t' c=>⟨.str _,H,I.tok c,⟨t',rfl⟩,k⟩⟩⟩
theorem _root_.ZQ.HF(ho:ZQ.QE X o fa)(hb:ZQ.QW X b fb)
  (iD:attributeBase o "join" X.env (eval o X.env)=eval o X.env:=by rfl)
  (lO:((backTo p2 (starEach (b::[]) X.env)).all (λ x=>!x.1)&&(backToKw p2 (keywordEach [] X.env)).all (λ x=>x.1.isSome)
   && decide ((b::[]).length+([]:γ π).length+(if([]:γ π).isEmpty then 0 else 1)<30))=true:=by rfl)
  (iC:(p1.endLine==p2.line)=true:=by rfl) (ml:Se b [] X.env:=by rfl) (f9:Pn p2 [] X.env:=by rfl) :
  ZQ.QE X (.Call (.Attribute o "join" p1) [b] [] p2) (Z.eB Z.rR fa fb):=
 ⟨PE.imp (rM B58 C41 C42 Gi ho.p (bF hb.p cI ml) iD lO iC ml f9) λ σ H Q ⟨ρ,d,r,e,k⟩=>by obtain⟨x,ea,e⟩:=Z.Res.ax e;obtain⟨y,eb,e⟩:=Z.Res.ax e;obtain⟨sep,xs,ts,rfl,rfl,et,hl,rfl⟩:=Z.Dr e;refine⟨ρ,_,r,ea,λ v H1 s1 d1=>?_⟩;simp only[Den]at d1;subst d1;refine⟨rfl,ρ,_,r.up s1,eb,λ u H2 s2 d2=>?_⟩;obtain⟨q,vs,rfl,hq,t⟩:=d2.tup;rw[ng et t]at hq;refine⟨eT sep,q,_,rfl,rfl,hq,B6 hl,?_⟩;rw[we];exact k _ H2 (s1.trans s2) eI⟩
end
end ZS
namespace ZQ
open PySem PySem.Spec PyProof.Rows L2 ZS
section
end
end ZQ
noncomputable section
namespace Z
def Ag(cs:γ Nat):γ D:=cs.map λ c=>.str [c]
def Vi:D->Res (γ D)
 |.str cs=>guard (cs.length<=line) (.ok (Ag cs))
 |_=>.bad
def XO(a:EF)(ρ:Env):Res (γ D):=(a ρ).bind Vi
@[simp] theorem XM(a:EF)(ρ:Env):XO a ρ=(a ρ).bind Vi:=rfl
@[simp] theorem RZ(cs:γ Nat):Vi (.str cs)=guard (cs.length<=line) (.ok (Ag cs)):=rfl
def LU(x:D):Res D:=(Vi x).map D.tup
@[simp] theorem U4(cs:γ Nat):LU (.str cs)=guard (cs.length<=line) (.ok (.tup (Ag cs))):=by unfold LU;rw[RZ];unfold guard;split<;>rfl
end Z
end
namespace ZS
open PySem PySem.Spec PyProof.Rows L2
section
end
section
end
end ZS
namespace ZQ
open PySem PySem.Spec PyProof.Rows L2 ZS
section
end
end ZQ
namespace PySem
namespace F
end F
def Heap.zI(h:μ)(a t:δ)(i:Int):Prop:=∃o,h.get? a=some o/\o.cls=.type "reversed" /\ o.data=.fields #[.ref t,rawInt i]
theorem Heap.zI.typeIs{s:η}(x:s.heap.zI a l i):s.TypeIs (.ref a) "reversed":=let ⟨o,ho,hc,_⟩:=x;⟨o,ho,hc⟩
theorem Heap.zI.at{h h':μ}(x:h.zI a l i)(e:∀o,h.get? a=some o->h'.get? a=some o):h'.zI a l i:=let ⟨o,ho,r⟩:=x;⟨o,e _ ho,r⟩
section
end
end PySem
noncomputable section
namespace Z
def UX:D->Res (γ D)
 |.tup xs=>.ok xs.reverse
 |.lst xs=>.ok xs.reverse
 |_=>.bad
def R5(a:EF)(ρ:Env):Res (γ D):=(a ρ).bind UX
@[simp] theorem Vj(a:EF)(ρ:Env):R5 a ρ=(a ρ).bind UX:=rfl
@[simp] theorem UU(xs:γ D):UX (.tup xs)=.ok xs.reverse:=rfl
@[simp] theorem UW(xs:γ D):UX (.lst xs)=.ok xs.reverse:=rfl
end Z
end
namespace PySem
section
variable {prog:ο}{w:ξ}{A:τ}{s:η}{R:Result->η->Prop}
variable {I:δ}{fp wr:γ δ}{G:Array GenState->Array GenState->Prop}{n:Nat}{P:Nat->ζ->Prop}{St:Nat->η->Prop}
end
section
end
end PySem
namespace ZS
open PySem PySem.Spec PyProof.Rows L2
section
variable {X:Cx}{a:θ}{pos p p1 p2:Pos}{fa:Z.EF}
end
end ZS
namespace ZQ
open PySem PySem.Spec PyProof.Rows L2 ZS
section
end
end ZQ
noncomputable section
namespace Z
def Uv(x:D):ε (ε L)->Res (γ D)
 |some (some (.bor (.lst ys)))=>match x with
  |.tup xs=>.ok (e! xs ys)
  |_=>.bad
 |some (some (.val (.tup ys)))=>match x with
  |.tup xs=>.ok (e! xs ys)
  |_=>.bad
 |_=>.bad
def Sd(a:EF)(i:Nat)(ρ:Env):Res (γ D):=(a ρ).bind λ x=>Uv x ρ[i]?
@[simp] theorem Vw(a:EF)(i:Nat)(ρ:Env):Sd a i ρ=(a ρ).bind λ x=>Uv x ρ[i]?:=rfl
@[simp] theorem Uu(xs ys:γ D):Uv (.tup xs) (some (some (.bor (.lst ys))))=.ok (e! xs ys):=rfl
@[simp] theorem Ut(xs ys:γ D):Uv (.tup xs) (some (some (.val (.tup ys))))=.ok (e! xs ys):=rfl
end Z
end
namespace ZS
open PySem PySem.Spec PyProof.Rows L2
theorem tx{ps:γ Str}(h:∀a0,bindArgs fd ⟨[a0],[]⟩=pure (ps.zip [a0])):∀us,us.length=1->bindArgs fd ⟨us,[]⟩=pure (ps.zip us)
 |[a0],_=>h a0
theorem xa{ps:γ Str}(h:∀a0 a1,bindArgs fd ⟨[a0,a1],[]⟩=pure (ps.zip [a0,a1])):∀us,us.length=2->bindArgs fd ⟨us,[]⟩=pure (ps.zip us)
 |[a0,a1],_=>h a0 a1
theorem EC{ps:γ Str}(h:∀a0 a1 a2,bindArgs fd ⟨[a0,a1,a2],[]⟩=pure (ps.zip [a0,a1,a2])):∀us,us.length=3->bindArgs fd ⟨us,[]⟩=pure (ps.zip us)
 |[a0,a1,a2],_=>h a0 a1 a2
theorem Lo{ps:γ Str}(h:∀a0 a1 a2 a3,bindArgs fd ⟨[a0,a1,a2,a3],[]⟩=pure (ps.zip [a0,a1,a2,a3])):∀us,us.length=4->bindArgs fd ⟨us,[]⟩=pure (ps.zip us)
 |[a0,a1,a2,a3],_=>h a0 a1 a2 a3
theorem bd5{ps:γ Str}(h:∀a0 a1 a2 a3 a4,bindArgs fd ⟨[a0,a1,a2,a3,a4],[]⟩=pure (ps.zip [a0,a1,a2,a3,a4])):∀us,us.length=5->bindArgs fd ⟨us,[]⟩=pure (ps.zip us)
 |[a0,a1,a2,a3,a4],_=>h a0 a1 a2 a3 a4
def ZW(H0 H1:Hp):Hp->Prop:=λ H2=>kh H1 H2/\aH H0 H2
def tZk(K:W.Frag)(H0:Hp)(f:Z.LF):TI:=λ σ H R=>∃ρ ds,RS K H0 H σ ρ/\f ρ=.ok ds/\∀J H',aH H H'->zP K J (ZW H0 H') ds->R J H'
abbrev DK(X:Cx)(H0:Hp)(tg e:θ)(f:Z.LF):Prop:=PI X tg e (tZk X.K H0 f)
structure _root_.ZQ.QK(X:Cx)(H0:Hp)(tg e:Expr)(f:Z.LF):Prop where p:DK X H0 tg e f
theorem Gives.imp{K:W.Frag}(h:Gives K J S ds)(k:∀H,S' H->S H):Gives K J S' ds:=
 ⟨λ i d H1 s=>h.at_ i d H1 (k _ s),λ H1 s=>h.end_ H1 (k _ s)⟩
section
end
end ZS
namespace ZQ
open PySem PySem.Spec PyProof.Rows L2 ZS
section
end
end ZQ
noncomputable section
namespace Z
def intsOf:γ D->ε (γ Int)
 |[]=>some []
 |d::r=>match d,intsOf r with
  |.int i,some is=>some (i::is)
  |_,_=>none
def keyOf:D->ε (γ Int)
 |.tup ds=>intsOf ds
 |_=>none
def putD(ks:γ (γ Int))(k:γ Int):γ (γ Int):=if k∈ks then ks else ks++[k]
def WX(i:Nat)(ρ:Env):Res Fl:=.ok (.nx (ρ.set i (some (.wR []))))
def Ht(i:Nat)(ρ:Env)(k:ε (γ Int))(o:ε (ε L)):Res Fl:=match k,o with
 |some k,some (some (.dc (.inl ks)))=>guard (ks.length<line) (.ok (.nx (ρ.set i (some (.wR (putD ks k))))))
 |_,_=>.bad
def Fv(i:Nat)(e:EF)(ρ:Env):Res Fl:=(e ρ).bind λ d=>Ht i ρ (keyOf d) ρ[i]?
def HC(i:Nat)(ρ:Env)(o:ε (ε L)):Env:=match o with
 |some (some (.dc (.inl ks)))=>ρ.set i (some (.zO ks))
 |_=>ρ
def QC(i:Nat)(a:SF)(ρ:Env):Res Fl:=a (HC i ρ ρ[i]?)
def Hy(k:ε (γ Int))(o:ε (ε L)):Res Bool:=match k,o with
 |some k,some (some (.zO ks))=>.ok (decide (k∈ks))
 |_,_=>.bad
def Wu(e:EF)(i:Nat)(ρ:Env):Res Bool:=(e ρ).bind λ d=>Hy (keyOf d) ρ[i]?
def Qi(e:EF)(i:Nat)(ρ:Env):Res Bool:=(e ρ).bind λ d=>(Hy (keyOf d) ρ[i]?).bind λ b=>.ok (!b)
@[simp] theorem WV(i:Nat)(ρ:Env):WX i ρ=.ok (.nx (ρ.set i (some (.wR [])))):=rfl
@[simp] theorem UR(i:Nat)(e:EF)(ρ:Env):Fv i e ρ=(e ρ).bind λ d=>Ht i ρ (keyOf d) ρ[i]?:=rfl
@[simp] theorem VZ(i:Nat)(ρ:Env)(k:γ Int)(ks:γ _):Ht i ρ (some k) (some (some (.wR ks)))=guard (ks.length<line) (.ok (.nx (ρ.set i (some (.wR (putD ks k)))))):=rfl
@[simp] theorem US(i:Nat)(a:SF)(ρ:Env):QC i a ρ=a (HC i ρ ρ[i]?):=rfl
@[simp] theorem V0(i:Nat)(ρ:Env)(ks:γ _):HC i ρ (some (some (.wR ks)))=ρ.set i (some (.zO ks)):=rfl
@[simp] theorem Wt(e:EF)(i:Nat)(ρ:Env):Wu e i ρ=(e ρ).bind λ d=>Hy (keyOf d) ρ[i]?:=rfl
@[simp] theorem UH(e:EF)(i:Nat)(ρ:Env):Qi e i ρ=(e ρ).bind λ d=>(Hy (keyOf d) ρ[i]?).bind λ b=>.ok (!b):=rfl
@[simp] theorem ZE(k:γ Int)(ks:γ _):Hy (some k) (some (some (.zO ks)))=.ok (decide (k∈ks)):=rfl
def lstK:D->Res (γ D)
 |.lst xs=>.ok xs
 |_=>.bad
def XI(a:EF)(ρ:Env):Res (γ D):=(a ρ).bind lstK
@[simp] theorem XH(a:EF)(ρ:Env):XI a ρ=(a ρ).bind lstK:=rfl
@[simp] theorem Xz(xs:γ D):lstK (.lst xs)=.ok xs:=rfl
end Z
namespace ZS
open PySem PySem.Spec PyProof.Rows L2
section
theorem items_int:∀{k}{its},Vals (k.map V.int) its->PySem.ItemsAre (intKind P w) k its
 |[],_,.nil=>.nil
 |i::k,_,.cons r t=>.cons (by obtain⟨t,rfl⟩:=r;simp[intKind,Value.isInt]) (items_int t)
theorem CM.mono(h:CM a ks as h1)(k:∀o,h1.get? a=some o->h2.get? a=some o):CM a ks as h2:=by obtain⟨z,hd,xs,o,es,ep,e1,e2,e3,e4⟩:=h;exact⟨z,hd,xs,o,es,ep,e1,e2,k _ e3,e4⟩
end
theorem RS.upq{K:PySem.W.Frag}{q:δ}{ks:Z.DK}{as:γ δ}{u:HO}{l:Z.L}(h:RS K H0 H σ ρ)(ei:ρ[i]?=some (some (.dc ks)))(si:σ[i]?=some (some (.ref q)))
  (hq:H q=some (P8 q ks as)) (hl:RL K (upd H q u) l (.ref q)) (n1:∀xs,l≠.own xs) (n2:∀xs,l≠.bor xs):RS K H0 (upd H q u) σ (ρ.set i (some l)):=by
 have st:kh H (upd H q u):=vF hq (λ _=>Lg) (λ _ _=>Lh);have h0:H0 q=none:=h.wR.2 i ks q ei si;have hs:aH H0 (upd H q u):=λ b u e=>by rw[aV (b! e h0)];exact h.same b u e
 have old:∀{j:Nat}{ls},(ρ.set i (some l))[j]?=some (some (.dc ls))->∃ls',ρ[j]?=some (some (.dc ls')):=λ {j ls} e=>by
  rcases aQ e with⟨rfl,_,_⟩|⟨_,e⟩
  ·exact⟨ks,ei⟩
  ·exact⟨ls,e⟩
 refine⟨hs,⟨by simp[h.re.len],λ j l' e=>?_,λ j k Bs ys p e1 e2 e3 e4=>?_⟩,λ j Bs p e1 e2=>?_,λ j Bs e1=>?_,⟨λ j k XQ ks2 a e1 e2 e3 e4=>?_,λ j XQ p e1 e2=>?_⟩⟩
 ·rcases aQ e with⟨rfl,_,e⟩|⟨hj,e⟩
  ·cases e;exact⟨.ref q,si,hl⟩
  ·obtain⟨v,e1,r⟩:=h.re.get j l' e;refine⟨v,e1,?_⟩;cases l' with
   |val d=>exact Den.ups (show Den K H d v from r) st
   |own zs=>
    obtain⟨q',ws,rfl,iU,t'⟩:=r;have:q'≠q:=by rintro rfl;rw[hq]at iU;exact wZ (A04 iU)
    exact⟨q',ws,rfl,by rw[aV this];exact iU,t'.ups st⟩
   |bor zs=>obtain⟨v',e2,r2⟩:=h.pK j zs e;rw[e1]at e2;cases e2;exact r2.re r h.same hs st
   |dc ls=>
    obtain⟨q',ZO,rfl,iU,t'⟩:=r;have:q'≠q:=by rintro rfl;exact hj (h.wR.1 i j ks ls q' ei e si e1)
    exact⟨q',ZO,rfl,by rw[aV this];exact iU,t'.ups st⟩
   |zO ls=>obtain⟨q',o',ZO,rfl,iU,t'⟩:=r;exact⟨q',o',ZO,rfl,st.fM _ _ _ iU,t'.ups st⟩
   |Ky ps=>obtain⟨q',o',rfl,iU⟩:=r;exact⟨q',o',rfl,st.fM _ _ _ iU⟩
   |exc c=>obtain⟨q',o',u',C',rfl,iU,r1,r2,r3⟩:=r;exact⟨q',o',u',C',rfl,st.fM _ _ _ iU,r1,r2,r3.ups st⟩
 ·rcases aQ e1 with⟨_,_,e⟩|⟨_,e1⟩
  ·exact absurd (A04 e) (n1 _)
  ·rcases aQ e2 with⟨_,_,e⟩|⟨_,e2⟩
   ·exact absurd (A04 e) (n1 _)
   ·exact h.re.sep j k _ _ p e1 e2 e3 e4
 ·rcases aQ e1 with⟨_,_,e⟩|⟨_,e1⟩
  ·exact absurd (A04 e) (n1 _)
  ·exact h.fresh j Bs p e1 e2
 ·rcases aQ e1 with⟨_,_,e⟩|⟨_,e1⟩
  ·exact absurd (A04 e) (n2 _)
  ·exact h.pK j Bs e1
 ·obtain⟨_,o1⟩:=old e1;obtain⟨_,o2⟩:=old e2;exact h.wR.1 j k _ _ a o1 o2 e3 e4
 ·obtain⟨_,o1⟩:=old e1;exact h.wR.2 j _ p o1 e2
theorem RS.setG{K:PySem.W.Frag}{H0 H H':Hp}{σ:St}{ρ:Z.Env}{i:Nat}{q:δ}{kd:Z.DK}{as:γ δ}(h:RS K H0 H σ ρ)(hq:H q=none)(sm:aH H H')(iU:H' q=some (P8 q kd as))(hk:Uj K H' kd as):RS K H0 H' (σ.set i (some (.ref q))) (ρ.set i (some (.dc kd))):=by
 have getσ:∀j,i≠j->(σ.set i (some (V.ref q)))[j]?=σ[j]?:=λ j hj=>A52 hj;have h':=h.up sm;have nq:∀(j:Nat)(ks:Z.DK),ρ[j]?=some (some (.dc ks))->σ[j]?≠some (some (.ref q)):=λ j ks e z=>by obtain⟨v,e1,q',as,rfl,h2,_⟩:=h.re.get j _ e;rw[z]at e1;cases e1;rw[hq]at h2;cases h2
 refine⟨h'.same,⟨by simp[h.re.len],λ j l e=>?_,λ j k xs ys p e1 e2 e3 e4=>?_⟩,λ j xs p e1 e2=>?_,λ j xs e1=>?_,⟨λ j k XQ ks2 a e1 e2 e3 e4=>?_,λ j XQ p e1 e2=>?_⟩⟩
 ·rcases aQ e with⟨rfl,hl,e⟩|⟨hj,e⟩
  ·cases e;exact⟨.ref q,A31 (by rw[<-h.re.len];exact hl),q,as,rfl,iU,hk⟩
  ·rw[getσ j hj];exact h'.re.get j l e
 ·rcases aQ e1 with⟨_,_,e⟩|⟨hj,e1⟩
  ·cases e
  ·rcases aQ e2 with⟨_,_,e⟩|⟨hk,e2⟩
   ·cases e
   ·rw[getσ j hj]at e3;rw[getσ k hk]at e4;exact h.re.sep j k xs ys p e1 e2 e3 e4
 ·rcases aQ e1 with⟨_,_,e⟩|⟨hj,e1⟩
  ·cases e
  ·rw[getσ j hj]at e2;exact h.fresh j xs p e1 e2
 ·rcases aQ e1 with⟨_,_,e⟩|⟨hj,e1⟩
  ·cases e
  ·rw[getσ j hj];exact h.pK j xs e1
 ·rcases aQ e1 with⟨rfl,hl,_⟩|⟨hj,e1⟩
  ·rcases aQ e2 with⟨rfl,_,_⟩|⟨hk,e2⟩
   ·rfl
   ·rw[A31 (by rw[<-h.re.len];exact hl)]at e3;cases e3;rw[getσ k hk]at e4;exact absurd e4 (nq k _ e2)
  ·rcases aQ e2 with⟨rfl,hl,_⟩|⟨hk,e2⟩
   ·rw[A31 (by rw[<-h.re.len];exact hl)]at e4;cases e4;rw[getσ j hj]at e3;exact absurd e3 (nq j _ e1)
   ·rw[getσ j hj]at e3;rw[getσ k hk]at e4;exact h.wR.1 j k _ _ a e1 e2 e3 e4
 ·rcases aQ e1 with⟨rfl,hl,_⟩|⟨hj,e1⟩
  ·rw[A31 (by rw[<-h.re.len];exact hl)]at e2;cases e2;exact h.same.free hq
  ·rw[getσ j hj]at e2;exact h.wR.2 j _ p e1 e2
section
end
end ZS
namespace ZQ
open PySem PySem.Spec PyProof.Rows L2 ZS
section
end
end ZQ
namespace ZS
open PySem PySem.Spec PyProof.Rows L2
section
variable {X:Cx}{a:θ}{pos:Pos}{fa:Z.EF}
end
end ZS
namespace ZQ
open PySem PySem.Spec PyProof.Rows L2 ZS
section
variable {X:Cx}{a:θ}{pos:Pos}{fa:Z.EF}{H0:Hp}
end
end ZQ
noncomputable section
namespace Z
def Q3(i j:Nat)(ρ:Env)(d:D)(o:ε (ε L)):Res Fl:=match d,o with
 | .int k,some (some (.own xs))=>guard (0<=k/\xs.length<=line) (match xs[k.toNat]? with
  |some y=>.ok (.nx ((ρ.set j (some (.own (xs.eraseIdx k.toNat)))).set i (some (.val y))))
  | none=>.bad)
 |_,_=>.bad
def WN(i j:Nat)(e:EF)(ρ:Env):Res Fl:=(e ρ).bind λ d=>Q3 i j ρ d ρ[j]?
@[simp] theorem WM(i j:Nat)(e:EF)(ρ:Env):WN i j e ρ=(e ρ).bind λ d=>Q3 i j ρ d ρ[j]?:=rfl
end Z
namespace ZS
open PySem PySem.Spec PyProof.Rows L2
section
variable {X:Cx}{H0:Hp}{pos:Pos}
end
end ZS
namespace ZQ
open PySem PySem.Spec PyProof.Rows L2 ZS
section
variable {X:Cx}{H0:Hp}{pos:Pos}
end
end ZQ
noncomputable section
namespace Z
def uG:D->D->Res D
 |.int a,.int b=>.ok (.int (a+b))
 |_,_=>.bad
@[simp] theorem Pj(a b:Int):uG (.int a) (.int b)=.ok (.int (a+b)):=rfl
def J0(c:Bool):D->Res D
 |.bl b=>.ok (.bl (b==c))
 |_=>.bad
@[simp] theorem U?(c b:Bool):J0 c (.bl b)=.ok (.bl (b==c)):=rfl
def Rl(c:Bool):D->Res D
 |.bl b=>.ok (.bl (b != c))
 |_=>.bad
@[simp] theorem Rk(c b:Bool):Rl c (.bl b)=.ok (.bl (b != c)):=rfl
def yP:γ D->ε (γ Int)
 |[]=>some []
 |.int i::r=>(yP r).map (i::·)
 |_::_=>none
theorem yO:∀{ds}{ns},yP ds=some ns->ds=ns.map .int
 |[],ns,h=>by cases h;rfl
 |d::r,ns,h=>by
  cases d with
  |int i=>obtain⟨ms,e,rfl⟩:=A56.mp (h);rw[yO e];rfl
  |non=>cases h
  |bl _=>cases h
  |str _=>cases h
  |tup _=>cases h
  |lst _=>cases h
  |dct _ _=>cases h
@[simp] theorem uO:∀ns,yP (ns.map .int)=some ns
 |[]=>rfl
 |n::ns=>by show(yP _).map _=_;rw[uO];rfl
def RW(k:Int):γ Int->Int
 |[]=>k
 |n::ns=>ns.foldl max n
theorem fold_max:∀(ns:γ Int) n,n<=ns.foldl max n/\(∀m∈ns,m<=ns.foldl max n)/\(ns.foldl max n=n\/ns.foldl max n∈ns)
 |[],n=>⟨Int.le_refl _,by simp,.inl rfl⟩
 |m::ns,n=>by
  obtain⟨a,b,c⟩:=fold_max ns (max n m);rw[B59];refine⟨by lia,λ x hx=>?_,?_⟩
  ·rcases v6.mp hx with rfl|hx
   ·lia
   ·exact b x hx
  ·rcases c with c|c
   ·rw[c];by_cases h:n<=m
    ·rw[show max n m=m by lia];exact .inr A12
    ·rw[show max n m=n by lia];exact .inl rfl
   ·exact .inr (A09 _ c)
theorem Nv(h:M∈ns)(g:∀m∈ns,m<=M):RW k ns=M:=by
 cases ns with
 |nil=>cases h
 |cons n ns=>
  obtain⟨a,b,c⟩:=fold_max ns n;show ns.foldl max n=M;have h1:M<=ns.foldl max n:=by
   rcases v6.mp h with rfl|h
   ·exact a
   ·exact b M h
  have h2:ns.foldl max n<=M:=by
   rcases c with c|c
   ·rw[c];exact g n A12
   ·exact g _ (A09 _ c)
  lia
end Z
end
noncomputable section
namespace Z
def rQ:D->Res D
 |.lst ds=>match yP ds with
  |some (n::ns)=>.ok (.int (ns.foldl max n))
  |_=>.bad
 |_=>.bad
theorem JY(n:Int)(ns:γ Int):rQ (.lst ((n::ns).map .int))=.ok (.int (ns.foldl max n)):=by unfold rQ;simp only[uO]
theorem F8(h:rQ x=.ok d):∃n ns,x=.lst ((n::ns).map .int)/\d=.int (RW 0 (n::ns)):=by
 unfold rQ at h;split at h
 ·split at h
  ·rename_i n ns e;cases h;exact⟨n,ns,by rw[yO e],rfl⟩
  ·cases h
 ·cases h
end Z
end
namespace ZS
open PySem PySem.Spec PyProof.Rows L2
section
theorem Tr(h:Z.eV i ρ=.ok d):ρ[i]?=some (some (.val d)):=by
 unfold Z.eV at h;split at h
 ·rename_i e;cases h;exact e
 ·cases h
theorem Hs(hN:X.N.Nodup)(hi:X.N[i]?=some x)(hx:Loc X.env.scope x)(hr:jv X (inplaceOp op) r)(hz:CJ X.K r o)(he:DE X a fa)(hf:X.fn x=true\/X.env.scope.names.lookup x=some .local):
  DS X H0 (.AugAssign (.Name x pos') op a pos) (Z.aO i (Z.eB o (Z.eV i) fa)):=PS.imp (MV hN hi hx he hr hf) λ D σ H ⟨ρ,fl,rs,e,k⟩=>by
 obtain⟨d,ea,e⟩:=Z.Res.ax e;cases e;obtain⟨dx,e1,ea⟩:=Z.Res.ax ea;obtain⟨dy,e2,ea⟩:=Z.Res.ax ea;obtain⟨v,si,dv⟩:=rs.re.get i _ (Tr e1);refine⟨v,si,ρ,dy,rs.re,e2,λ y H1 s1 dy1=>?_⟩;exact hz v y dx dy d H1 _ (.inl (Den.up dv s1)) (.inl dy1) ea λ z H2 s2 dz=>k _ H2 (o4 (s1.trans s2)) ((rs.up (s1.trans s2)).Jl dz)
theorem GD:jv X (inplaceOp .Mult) (rI Ik λ i j=>.int (i*j)):=Ng λ _ _ _ _ _ _ _ hc q=>imul_int q hc
theorem M6{K:W.Frag}:CJ K (rI Ik λ i j=>.int (i*j)) Z.fA:=kq λ dx dy d e=>by
 unfold Z.fA at e;split at e
 ·unfold Z.guard at e;split at e
  ·rename_i h;cases e;exact⟨_,_,rfl,rfl,rV h,rfl⟩
  ·cases e
 ·cases e
theorem JH{K:W.Frag}:CJ K (FE λ i j=>.int (i+j)) Z.uG:=lE (λ dx dy d e=>by
 unfold Z.uG at e;split at e
 ·cases e;exact⟨_,_,rfl,rfl,rfl⟩
 ·cases e) λ _ _ _=>cP
end
end ZS
namespace ZQ
open PySem PySem.Spec PyProof.Rows L2 ZS
section
theorem K7(hN:X.N.Nodup)(hi:X.N[i]?=some x)(hx:Loc X.env.scope x)(he:QE X a fa)(hf:Fl X x:=by trivial):
  QS X H0 (.AugAssign (.Name x pos') .Mult a pos) (Z.aO i (Z.eB Z.fA (Z.eV i) fa)):=⟨ZS.Hs hN hi hx GD M6 he.p hf⟩
theorem K8(hN:X.N.Nodup)(hi:X.N[i]?=some x)(hx:Loc X.env.scope x)(he:QE X a fa)(hf:Fl X x:=by trivial):
  QS X H0 (.AugAssign (.Name x pos') .Add a pos) (Z.aO i (Z.eB Z.uG (Z.eV i) fa)):=⟨ZS.Hs hN hi hx Kw JH he.p hf⟩
end
end ZQ
namespace V9
open PySem PySem.Spec PyProof.Rows
section
variable {St:Nat->μ->Prop}
abbrev two(b:ζ)(c:Nat):ι:={cls:=.type "list",data:=.seq #[b,b] c}
abbrev lp(I S:δ)(kw:γ (Str×ζ)):Code:=.builtin "max.loop" ⟨[.ref I,.none,.ref S],kw⟩
theorem nm:(toString "max"++toString ".loop")="max.loop":=by decide
theorem go(W:Walks prog w A.in1 I fp wr n P St)(hc:CmpOf prog w A.in1 .Gt P bt)(out:S∉fp)(kw:γ (Str×ζ)):
  ∀k j s b c,n=j+1+k->St (j+1) s.heap->P (argBest bt j) b->s.heap.get? S=some (two b c) ->
   (∀v h' tk,P (argBest bt (n-1)) v->(∀a o,a≠S->a∉wr->s.heap.get? a=some o->h'.get? a=some o)->R (.ok (.ret v)) {s with heap:=h',toks:=tk}) ->
   codeAny (model prog w) A (lp I S kw) R s:=by
 have ow:=λ z=>out (W.sub S z);have JI:∀{h:μ}{a}{o} f,a≠S->h.get? a=some o->(h.update S f).get? a=some o:=λ f ne e=>(A41 _ _ (A06 ne)).trans e;intro k
 induction k with
 |zero=>intro j s b c hn st pb gS fin;refine A60 B00 ?_;rw[A77 A37 (⟨[.ref I,.none,.ref S],kw⟩)];refine T0 (A24 gS rfl (T0 (A28 (W.done s _ _ (by rw[hn];exact st) λ h1 t1 k1=>?_))));have g1:=k1 S _ ow gS;refine T0 (A78 g1 rfl (T0 (A42 (v0 ?_))));refine fin b _ t1 (by rw[hn];exact pb) λ a o ne nw e=>JI _ ne (k1 a o nw e)
 |succ k ih=>
  intro j s b c hn st pb gS fin;refine A60 B00 ?_;rw[A77 A37 (⟨[.ref I,.none,.ref S],kw⟩)];refine T0 (A24 gS rfl (T0 (A28 (W.item (j+1) s _ _ (by lia) st λ v h1 t1 pv tP k1=>?_))));have g1:=k1 S _ ow gS;refine T0 (v0 ?_);refine T0 (A28 (A33 (T0 (hc (j+1) (argBest bt j) v b _ _ _ pv pb (T0 (A33 (A53 (T0 (A42 (v0 ?_))))))))));have qq:=λ f=>W.frame _ _ _ tP λ a ha o e=>JI f (λ z=>out (z▸ha)) e;cases q:bt (j+1) (argBest bt j)with
  |true=>simp only[A20];refine T0 (A78 g1 rfl (T0 (A42 ?_)));rw[nm];refine v0 ⟨A46 A37 _,ih (j+1) _ v _ (by lia) (qq _) (by simp only[argBest,q,A20];exact pv) (A66 _ g1 rfl) λ v' h2 t2 MQ k2=>?_⟩;exact fin v' h2 t2 MQ λ a o ne nw e=>k2 a o ne nw (JI _ ne (k1 a o nw e))
  |false=>simp only[A45,A65];refine T0 (A42 ?_);rw[nm];refine v0 ⟨A46 A37 _,ih (j+1) _ b c (by lia) tP (by simp only[argBest,q,A45,A65];exact pb) g1 λ v' h2 t2 MQ k2=>?_⟩;exact fin v' h2 t2 MQ λ a o ne nw e=>k2 a o ne nw (k1 a o nw e)
theorem first(W:Walks prog w A.in1 I fp wr n P St)(hc:CmpOf prog w A.in1 .Gt P bt)(out:S∉fp)(st:St 0 s.heap)(gS:s.heap.get? S=some {cls:=.type "list",data:=.seq #[] c})
  (none_:n=0->∀h' tk,(∀a o,a≠S->a∉wr->s.heap.get? a=some o->h'.get? a=some o)->R (.ok (.ret d)) {s with heap:=h',toks:=tk})
  (fin:0<n->∀v h' tk,P (argBest bt (n-1)) v->(∀a o,a≠S->a∉wr->s.heap.get? a=some o->h'.get? a=some o)->R (.ok (.ret v)) {s with heap:=h',toks:=tk}) :
  codeAny (model prog w) A (lp I S [(x,d)]) R s:=by
 have ow:=λ z=>out (W.sub S z);have JI:∀{h:μ}{a}{o} f,a≠S->h.get? a=some o->(h.update S f).get? a=some o:=λ f ne e=>(A41 _ _ (A06 ne)).trans e;refine A60 B00 ?_;rw[A77 A37 _];by_cases h0:n=0
 ·subst h0;refine T0 (A24 gS rfl (T0 (A28 (W.done s _ _ st λ h1 t1 k1=>?_))));refine T0 (A96 (v0 ?_));exact none_ rfl h1 t1 λ a o _ nw e=>k1 a o nw e
 ·have hp:=Nat.pos_of_ne_zero h0;refine T0 (A24 gS rfl (T0 (A28 (W.item 0 s _ _ hp st λ v h1 t1 pv tP k1=>?_))));have g1:=k1 S _ ow gS;refine T0 (v0 ?_);refine T0 (A78 g1 rfl ?_);rw[nm];refine v0 ⟨A46 A37 _,go W hc out [(x,d)] (n-1) 0 _ v _ (by lia) (W.frame _ _ _ tP λ a ha o e=>JI _ (λ z=>out (z▸ha)) e) pv (A66 _ g1 rfl) λ v' h2 t2 MQ k2=>?_⟩;exact fin hp v' h2 t2 MQ λ a o ne nw e=>k2 a o ne nw (JI _ ne (k1 a o nw e))
theorem args(a d:ζ):argsOk "max" ⟨[a],[(Str.ofString "default",d)]⟩:=by kernel_rfl
theorem binds(d:ζ):Builtin.Builtins.bindParams "max" ["key","default"] 0 ⟨[],[(Str.ofString "default",d)]⟩=pure [none,some d]:=by kernel_rfl
theorem call
  (h:wpAny (model prog w) A.in1 (pyIter x) (λ it s2=>∃ I fp wr n P St bt,it=.ref I/\Walks prog w A.in1 I fp wr n P St/\St 0 s2.heap/\(∀ b∈fp,b<s2.heap.objs.size)/\CmpOf prog w A.in1 .Gt P bt /\
   (n=0->∀h' tk,(∀a o,a∉wr->s2.heap.get? a=some o->h'.get? a=some o)->Q d {s2 with heap:=h',toks:=tk}) /\
   (0<n->∀v h' tk,P (argBest bt (n-1)) v->(∀a o,a∉wr->s2.heap.get? a=some o->h'.get? a=some o)->Q v {s2 with heap:=h',toks:=tk})) E s) :
  wpAny (model prog w) A (PySem.call (.builtin "max") [x] [(Str.ofString "default",d)]) Q E s:=by
 refine kmk_tree C05 C06 C07 (args x d) ?_;show wpAny _ A.in1 (Builtin.Builtins.bindParams "max" ["key","default"] 0 ⟨[],[(Str.ofString "default",d)]⟩>>=_) _ _ s;rw[binds];refine T0 (v0 (T0 (v0 (T0 (A26 h (λ it s2 q=>?_) λ _ _ e=>e)))));obtain⟨I,fp,wr,n,P,St,bt,rfl,W,st,lt,hc,q0,q1⟩:=q;refine T0 (A55 ?_);have out:=λ z=>A79 _ (lt _ z);have keep:∀{h':μ},(∀a o,a≠s2.heap.objs.size->a∉wr->(s2.heap.push {cls:=.type "list",data:=.seq #[]}).get? a=some o->h'.get? a=some o)->∀a o,a∉wr->s2.heap.get? a=some o->h'.get? a=some o:=
  λ k a o nw e=>k a o (A10 (A00 e)) nw (W1 _ e)
 rw[nm];refine v0 ⟨A46 A37 _,first W hc out (W.frame _ _ _ st λ a _ o e=>W1 _ e) (A11 _ rfl) (λ z h' tk k=>q0 z h' tk (keep k)) λ z v h' tk pv k=>q1 z v h' tk pv (keep k)⟩
end
section
variable {St:Nat->μ->Prop}
theorem Og(W:Walks prog w A.in1 I fp wr n P St)(hc:CmpOf prog w A.in1 .Gt P bt)(out:S∉fp)(hp:0<n)(st:St 0 s.heap)(gS:s.heap.get? S=some {cls:=.type "list",data:=.seq #[] c})
  (fin:∀v h' tk,P (argBest bt (n-1)) v->(∀a o,a≠S->a∉wr->s.heap.get? a=some o->h'.get? a=some o)->R (.ok (.ret v)) {s with heap:=h',toks:=tk}) :
  codeAny (model prog w) A (lp I S []) R s:=by
 have ow:=λ z=>out (W.sub S z);have JI:∀{h:μ}{a}{o} f,a≠S->h.get? a=some o->(h.update S f).get? a=some o:=λ f ne e=>(A41 _ _ (A06 ne)).trans e;refine A60 B00 ?_;rw[A77 A37 _];refine T0 (A24 gS rfl (T0 (A28 (W.item 0 s _ _ hp st λ v h1 t1 pv tP k1=>?_))));have g1:=k1 S _ ow gS;refine T0 (v0 ?_);refine T0 (A78 g1 rfl ?_);rw[nm];refine v0 ⟨A46 A37 _,go W hc out [] (n-1) 0 _ v _ (by lia) (W.frame _ _ _ tP λ a ha o e=>JI _ (λ z=>out (z▸ha)) e) pv (A66 _ g1 rfl) λ v' h2 t2 MQ k2=>?_⟩;exact fin v' h2 t2 MQ λ a o ne nw e=>k2 a o ne nw (JI _ ne (k1 a o nw e))
theorem T5(a:ζ):argsOk "max" ⟨[a],[]⟩:=by kernel_rfl
theorem OW:Builtin.Builtins.bindParams "max" ["key","default"] 0 ⟨[],[]⟩=pure [none,none]:=by kernel_rfl
theorem TJ
  (h:wpAny (model prog w) A.in1 (pyIter x) (λ it s2=>∃ I fp wr n P St bt,it=.ref I/\Walks prog w A.in1 I fp wr n P St/\St 0 s2.heap/\(∀ b∈fp,b<s2.heap.objs.size)/\CmpOf prog w A.in1 .Gt P bt/\0<n /\
   (∀v h' tk,P (argBest bt (n-1)) v->(∀a o,a∉wr->s2.heap.get? a=some o->h'.get? a=some o)->Q v {s2 with heap:=h',toks:=tk})) E s) :
  wpAny (model prog w) A (PySem.call (.builtin "max") [x] []) Q E s:=by
 refine kmk_tree C05 C06 C07 (T5 x) ?_;show wpAny _ A.in1 (Builtin.Builtins.bindParams "max" ["key","default"] 0 ⟨[],[]⟩>>=_) _ _ s;rw[OW];refine T0 (v0 (T0 (v0 (T0 (A26 h (λ it s2 q=>?_) λ _ _ e=>e)))));obtain⟨I,fp,wr,n,P,St,bt,rfl,W,st,lt,hc,hp,q1⟩:=q;refine T0 (A55 ?_);have out:=λ z=>A79 _ (lt _ z);have keep:∀{h':μ},(∀a o,a≠s2.heap.objs.size->a∉wr->(s2.heap.push {cls:=.type "list",data:=.seq #[]}).get? a=some o->h'.get? a=some o)->∀a o,a∉wr->s2.heap.get? a=some o->h'.get? a=some o:=
  λ k a o nw e=>k a o (A10 (A00 e)) nw (W1 _ e)
 rw[nm];refine v0 ⟨A46 A37 _,Og W hc out hp (W.frame _ _ _ st λ a _ o e=>W1 _ e) (A11 _ rfl) λ v h' tk pv k=>q1 v h' tk pv (keep k)⟩
end
end V9
namespace ZS
open PySem PySem.Spec PyProof.Rows L2
section
variable {X:Cx}
theorem Na(c:Bool):jv X (compareOp .Is) (λ x y H Q=>∃b,x=.bl b/\y=.bl c/\Q (.bl (b==c)) H):=by intro χ s σ H x y v u Q I rx ry h;obtain⟨b,rfl,rfl,q⟩:=h;cases rx;cases ry;refine wpAny_is_plain rfl ⟨_,H,I,?_,q⟩;cases b<;>cases c<;>rfl
theorem Kv{a:θ}(c:Bool):∀σ H Q,tZ X.K (Z.eU (Z.J0 c) fa) σ H Q->LM (λ x y H Q=>∃b,x=.bl b/\y=.bl c/\Q (.bl (b==c)) H) (I! X.K fa) (tC (.bl c)) σ H Q:=by
 rintro σ H Q ⟨ρ,d,r,e,k⟩;obtain⟨x,ea,e⟩:=Z.Res.ax e;refine⟨ρ,x,r,ea,λ v H1 s1 d1=>?_⟩;cases x with
 |bl b=>cases e;exact⟨b,d1.bl,rfl,k _ H1 s1 dG⟩
 |_=>cases e
theorem _root_.ZQ.OD(ha:ZQ.QW X a fa):ZQ.QE X (.Compare a [.Is] [.Constant (.bool c) j pos'] pos) (Z.eU (Z.J0 c) fa):=⟨PE.imp (qI (Na c) ha.p LS (mY _)) (Kv (a:=a) c)⟩
end
end ZS
namespace ZQ
open PySem PySem.Spec PyProof.Rows L2 ZS
section
end
end ZQ
namespace ZS
open PySem PySem.Spec PyProof.Rows L2
section
theorem Eu(hcalm:X.calm=true):iG X (.builtin "max") (λ xs H Q=>∃q ns,xs=[.ref q]/\jw X.K H q (ns.map V.int)/\ns≠[]/\Q (.int (Z.RW 0 ns)) H):=by
 intro χ s σ H xs us Q I r h;obtain⟨q,ns,rfl,hq,p7,w⟩:=h;obtain⟨u,rfl,ru⟩:=vals1 r;cases ru;obtain⟨its,rv,pl,hz⟩:=I.list hq;have hl:=rv.length;rw[A03]at hl;have lN:q<s.heap.objs.size:=by obtain⟨_,e,_⟩:=pl.isList;exact A00 e
 have hh:X.A.in1.handled=none:=I.ok.hd hcalm;have KI:=List.length_pos_iff.mpr p7;have item:∀(i:Nat) v,its.toArray[i]?=some v->∃u,v=Value.int (ns[i]?.getD 0) u:=by
  intro i v hv;have hi:its[i]?=some v:=by simpa using hv
  obtain⟨KL,_⟩:=A02.mp hi;have hb:(ns.map V.int)[i]?=some (V.int (ns[i]'(by lia))):=by rw[P3,A01 (by lia)];rfl
  obtain⟨u,hu,ru⟩:=rv.get hb;rw[hi]at hu;cases hu;obtain⟨u,rfl⟩:=ru;exact⟨u,by rw[A01 (by lia)];rfl⟩
 have I1:Inv X χ σ H {s with heap:=s.heap.push {cls:=.type "list_iterator",data:=.fields #[.ref q,.int 0 0]}}:=I.kept λ b o e=>W1 _ e;obtain⟨f0,f1,f2,f3,f4,f5⟩:=I.qy (o0 s.heap.objs.size) I.fresh;have I2:∀h' tk,(∀b o,b∉[s.heap.objs.size]->(s.heap.push {cls:=.type "list_iterator",data:=.fields #[.ref q,.int 0 0]}).get? b=some o->h'.get? b=some o)->Inv X χ σ H {s with heap:=h',toks:=tk}:=λ h' tk hk=>by have z:=I1.turned (t':=tk) (it:=s.heap.objs.size) (λ b o hb e=>hk b o (by simpa using hb) e) f0 f1 f3 f4 f5;exact z
 refine V9.TJ (A98 pl.isList ?_);refine⟨s.heap.objs.size,[s.heap.objs.size,q],[s.heap.objs.size],its.toArray.size,_,_,λ i j=>decide (ns[i]?.getD 0>ns[j]?.getD 0),rfl,B28 hh s.heap.objs.size q (A10 lN) its.toArray,⟨⟨_,A11 _ rfl,rfl,rfl⟩,pl.isList.push _⟩,?_,CmpOf.ints_gt (λ i=>ns[i]?.getD 0) item,by rw[A07];lia,λ v h' tk hv hk=>?_⟩
 ·intro b hb;rw[A58];rcases v6.mp hb with rfl|hb
  ·exact A71 _
  ·rw[A13.mp hb];exact B27 lN
 ·obtain⟨u,rfl⟩:=item _ _ hv;obtain⟨b1,b2⟩:=argBest_gt (λ i=>ns[i]?.getD 0) (its.toArray.size-1);have hM:ns[argBest (λ i j=>decide (ns[i]?.getD 0>ns[j]?.getD 0)) (its.toArray.size-1)]?.getD 0=Z.RW 0 ns:=by
   refine(Z.Nv ?_ λ m hm=>?_).symm
   ·rw[A07]at b1 ⊢;rw[A01 (by lia)];exact A93 _
   ·obtain⟨j,hj,rfl⟩:=B88 hm;have:=b2 j (by rw[A07];lia);rw[A01 hj]at this;exact this
  refine⟨.int (Z.RW 0 ns),H,I2 h' tk hk,⟨u,by rw[hM]⟩,w⟩
theorem _root_.ZQ.Lb(hg:Gl X x)(hm:X.mg x=none)(hv:bootBuiltins x=some (.builtin "max"))(ha:ZQ.QW X a fa)(hc:X.calm=true:=by rfl)(hn:x≠ "__name__":=by decide +kernel)(ji:(x==("__debug__"))=false:=by decide +kernel)
  (he:Se a [] X.env:=by rfl) (iV:Pn pos [] X.env:=by rfl):ZQ.QE X (.Call (.Name x p1) [a] [] pos) (Z.eU Z.rQ fa):=
 ⟨PE.imp (j6 (Eu hc) hg hm hv (bF ha.p cI he) hn ji he iV) λ σ H Q ⟨ρ,d,r,e,k⟩=>by obtain⟨x,ea,e⟩:=Z.Res.ax e;refine⟨ρ,x,r,ea,λ v H1 s1 d1=>?_⟩;obtain⟨n,ns,rfl,rfl⟩:=Z.F8 e;obtain⟨q,vs,rfl,hq,t⟩:=d1.lst;rw[pI t]at hq;exact⟨q,n::ns,rfl,hq,by simp,k _ H1 s1 cP⟩⟩
end
end ZS
namespace ZQ
open PySem PySem.Spec PyProof.Rows L2 ZS
section
end
end ZQ
noncomputable section
namespace Z
def t7(e:EF)(ρ:Env)(d:D):Res Int:=(e (some (.val d)::ρ)).bind λ y=>match y with
 |.int k=>.ok k
 |_=>.bad
theorem Km(h:t7 e ρ d=.ok k):e (some (.val d)::ρ)=.ok (.int k):=by
 obtain⟨y,e1,e2⟩:=Res.ax h;split at e2
 ·cases e2;exact e1
 ·cases e2
theorem Gy(h:e (some (.val d)::ρ)=.ok (.int k)):t7 e ρ d=.ok k:=by unfold t7;rw[h];rfl
def Be(mx:Bool)(k kb:Int):Bool:=if mx=true then decide (k>kb)else decide (k<kb)
def G8(mx:Bool)(e:D->Res Int)(b:D)(kb:Int):γ D->Res D
 |[]=>.ok b
 |d::r=>(e d).bind λ k=>if Be mx k kb=true then G8 mx e d k r else G8 mx e b kb r
def pickK(mx:Bool)(z:Res D)(e:D->Res Int):γ D->Res D
 |[]=>z
 |d::r=>(e d).bind λ k=>G8 mx e d k r
def wQ(mx:Bool)(z:Res D)(a:EF)(is:γ Nat)(e:EF)(ρ:Env):Res D:=(a ρ).bind λ x=>match x with
 |.lst ds=>pickK mx z (t7 e (fL ρ is)) ds
 |_=>.bad
end Z
end
noncomputable section
namespace Z
end Z
end
namespace ZS
open PySem PySem.Spec PyProof.Rows L2 PySem.W
section
theorem Off.Np(o:Off X χ H C)(ok:X.Ok):C∉X.fs:=λ hb=>by obtain⟨_,ob,ho,_⟩:=ok.og.mem hb;exact absurd (A17 (A00 ho) o.new) (A79 _)
theorem Off.RF(o:Off X χ H C)(I:Inv X χ σ H s):C∉qN X.stack:=λ hb=>by
 rcases v6.mp (I.oZ C hb)with z|z
 ·exact o.loc z
 ·exact o.Np I.ok z
theorem Off.up(o:Off X χ H C)(h:H' C=none):Off X χ H' C:=⟨h,o.loc,o.new,o.cell,o.pin⟩
theorem Off.fresh(I:Inv X χ σ H s)(hC:s.heap.objs.size<=C)(h:H' C=none):Off X χ H' C where
 free:=h
 loc:=A48 (A17 I.lt hC)
 new:=A16 I.sz hC
 cell:=λ x c e=>by obtain⟨v,o,ho,_⟩:=I.cell x c e;exact A10 (A17 (A00 ho) hC)
 pin:=λ p hp=>A10 (A17 (A00 (I.pin p hp).1) hC)
theorem Ep{pos q:Pos}(l:γ ζ)(h:TriplesOk l)(e:codeAmong q (l++[rawInt pos.line,rawInt pos.col,c])=some cv):codeAmong q l=some cv\/cv=c:=by
 fun_induction TriplesOk l with
 |case1=>
  simp only[B35,codeAmong,rawInt]at e;split at e
  ·cases e;exact .inr rfl
  ·cases e
 |case2 a t b u x rest ih=>
  simp only[B90,codeAmong]at e ⊢;split at e
  ·rename_i hc;rw[M2 hc];exact .inl e
  ·rename_i hc;rw[f8 hc];exact ih h e
 |case3 l h1 h2=>exact h.elim
structure CK(X:Cx)(χ:List (Addr×Obj))(q:Str)(params:Arguments)(body:Expr)(scope:Scope)(cl:List (Str×Addr))(H:Hp)(s:Shared)(f c':Addr)(pm qf:Value):Prop where
 off:Off X χ H f
 obj:s.heap.get? f=some (kla_obj "<lambda>" q params body scope cl pm c' qf)
 code:H c'=some (.IE q)
theorem yK(hx:x∈dN)(ht:tabIn X.K x=some (c,P))(L':X.env.code=.ref c)(hq:X.env.qual++ "<lambda>"=jx x)
  (wx:defaultsOf params X.env=([],[])) (uS:closureFor scope X.env=pure cl) (I:Inv X χ σ H s) :
  wpAny (model X.prog X.w) X.A (eval (.Lambda params body scope pos) X.env) (λ r s'=>∃f c' pm qf H',r=.ref f/\Inv X χ σ H' s'/\aH H H'/\CK X χ (jx x) params body scope cl H' s' f c' pm qf) X.xe s:=by
 refine kla_eval wx ?_;rw[hq];obtain⟨hT,hC,bm,ob,b1,b2,b3,b4,b5,b6⟩:=I.tab x hx c P ht;obtain⟨ps,g,UB,am⟩:=I.cC P _ hT;have _3:=I.mod.glob.keeps I.bk;have Mg:∀b o,X.base.get? b=some o->b≠P:=λ b o e z=>by have:=(I.bs b o e).2;rw[z,hT]at this;cases this
 have hgP:mainGlobals≠P:=by obtain⟨o,es,ep,e,_⟩:=I.mod.glob;exact Mg _ _ e
 have hbG:bm≠mainGlobals:=λ z=>by obtain⟨o,es,ep,e,hd,_⟩:=I.mod.glob;rw[z,e]at b3;cases b3;rw[hd]at b6;cases b6
 have hB:s.heap.BuiltinsAt X.mg P:=⟨bm,ob,b1,b2,hbG,Mg _ _ b3,I.bk _ _ b3,b4,b5,b6⟩
 cases hf:codeAmong pos ps.toList with
 | some cv=>obtain⟨c',rfl,xq⟩:=am pos cv hf;refine kla_makeFunctionHit (mg:=X.mg) uS I.ok.glob _3 L' (hC.keeps I.bk) g UB hf hB λ qf h' tk hk AO=>?_;have I':Inv X χ σ H {s with heap:=h'.push (kla_obj "<lambda>" (jx x) params body scope cl ((X.mg "__name__").getD .none) c' qf),toks:=tk}:=I.kept λ b u e=>W1 _ (hk b u e);exact⟨_,c',_,qf,H,rfl,I',aH.refl H,⟨Off.fresh I AO (I.cC.fresh AO),A11 _ rfl,xq⟩⟩
 |none=>
  refine kla_makeFunction (mg:=X.mg) uS I.ok.glob _3 L' (hC.keeps I.bk) g UB hf hgP hB λ c' qf h' tk EK VL lN NT htb=>?_;have hn:H c'=none:=I.cC.fresh VL;have kp:∀b o,b≠P->s.heap.get? b=some o->(h'.push (kla_obj "<lambda>" (jx x) params body scope cl ((X.mg "__name__").getD .none) c' qf)).get? b=some o:=λ b o hb e=>W1 _ (EK b o hb e);have Xt:∀b,H b=none->b≠P:=λ b e z=>by rw[z,hT]at e;cases e
  have Nr:∀b u,H b=some u->b≠c':=λ b u e=>b! e hn;have ltc:∀b o,s.heap.get? b=some o->b≠c':=λ b o e=>A10 (A17 (A00 e) VL);have hP:(h'.push (kla_obj "<lambda>" (jx x) params body scope cl ((X.mg "__name__").getD .none) c' qf)).get? P=some (tabObj (ps++#[rawInt pos.line,rawInt pos.col,.ref c'])):=W1 _ htb;have un:Un X.fs [] H (upd H c' (.IE (jx x))) s.heap (h'.push (kla_obj "<lambda>" (jx x) params body scope cl ((X.mg "__name__").getD .none) c' qf)):=by
   refine⟨λ b o e n _ _=>kp b o (Xt b n) e,λ b o e n _ _=>⟨o.slots,kp b o (Xt b n) e⟩,λ b o e n _=>by rw[aV (ltc b o e)];exact n,λ b o e _=>?_,λ b xs e=>by rw[aV (Nr _ _ e)];exact e,λ b o u e=>by rw[aV (Nr _ _ e)];exact e,λ b u _ e=>by rw[aV (Nr _ _ e)];exact e⟩;by_cases hb:b=P
   ·exact⟨_,hb▸hP⟩
   ·exact⟨o,kp b o hb e⟩
  have cC:l8 X.prog X.w (upd H c' (.IE (jx x))) (h'.push (kla_obj "<lambda>" (jx x) params body scope cl ((X.mg "__name__").getD .none) c' qf)):=λ b u e=>by
   by_cases hb:b=c'
   ·subst hb;rw[bC]at e;cases e;obtain⟨c2,oc,vs,t,e2,VF,r⟩:=NT;cases e2;exact⟨_,oc,vs,t,rfl,W1 _ VF,r⟩
   ·rw[aV hb]at e;by_cases _':b=P
    ·subst _';rw[hT]at e;cases e;refine⟨_,hP,by rw[Array.toList_append];exact TriplesOk_snoc _ _ _ _ UB,λ p cv e2=>?_⟩;rw[Array.toList_append]at e2;rcases Ep _ UB e2 with z|rfl
     ·obtain⟨c2,e3,e4⟩:=am p cv z;exact⟨c2,e3,by rw[aV (Nr _ _ e4)];exact e4⟩
     ·exact⟨c',rfl,bC⟩
    ·refine(I.cC b u e).qq (λ b2 v hc q=>kp b2 v ?_ q) (λ b2 q=>by rw[aV (Nr _ _ q)];exact q) (λ b2 xs q=>by rw[aV (Nr _ _ q)];exact q) λ b2 v _ q=>by rw[aV (Nr _ _ q)];exact q
     rcases hc with rfl|hc
     ·exact _'
     ·exact LY hc hT (λ z=>nomatch z)
  have SI:(upd H c' (.IE (jx x))) h'.objs.size=none:=by rw[aV (A48 lN)];exact I.cC.fresh (A80 (B60 VL lN))
  exact⟨_,c',_,qf,_,rfl,I.un (t':=tk) un cC,cA hn,⟨Off.fresh I (A80 (B60 VL lN)) SI,A11 _ rfl,bC⟩⟩
end
abbrev AE(X:Cx)(N':γ Str)(q:Str)(scope:ς)(cl:γ (Str×δ))(f c':δ)(s₂:η)(H₂:Hp):Cx:=
 {prog:=X.prog,w:=X.w,K:=X.K,mg:=X.mg,base:=X.base,A:=X.A.in1.deeper (envX q scope s₂.heap.objs.size f (.ref c') cl),N:=N',s₀:=s₂,H₀:=H₂,env:=envX q scope s₂.heap.objs.size f (.ref c') cl,outer:=X.stack,stack:=envX q scope s₂.heap.objs.size f (.ref c') cl::X.stack,ex:=[],fn:=λ _=>false,calm:=true,pn:=[],xe:=λ _ _=>False}
section
theorem ML{K:W.Frag}(h:RE K H σ ρ)(hd:Den K H d v):RE K H (some v::mU σ 0 is) (some (.val d)::Z.fL ρ is):=by
 have R:=FD (n:=0) (is:=is) h (aH.refl H);refine⟨by simp[mU,Z.fL],λ i l e=>?_,λ i j xs ys a e1=>?_⟩
 ·cases i with
  |zero=>simp only[C08,A99]at e;subst e;exact⟨v,rfl,hd⟩
  |succ i=>obtain⟨u,h1,h2⟩:=R.re.get i l (by simpa using e);exact⟨u,by simpa using h1,h2⟩
 ·cases i with
  |zero=>simp at e1
  |succ i=>exact absurd (by simpa using e1) (gq 0 is ρ i xs)
theorem yL(hcalm:X.calm=true)(n?:X.A.in1.depth<recursionLimit)(B:qF X.N N' 1 is scope X.env.scope)(Ir:N'[0]?=some x)(wu:scope.isGenerator=false)(G2:scope.isCoroutine=false)
  (lP:∀u,bindArgs (kla_fn "<lambda>" q params body scope cl pm (.ref c') qf) ⟨[u],[]⟩=pure [(x,u)])
  (jy:∀x c,cl.lookup x=some c->X.env.cells.lookup x=some c) (sj:∀y∈scope.names,y.2=.free->(cl.lookup y.1).isSome=true)
  (he:∀cl f c' s H,DE (AE X N' q scope cl f c' s H) body fe)
  (L:CK X χ q params body scope cl H s f c' pm qf) (I:Inv X χ σ H s) (re:RE X.K H σ ρ) (rv:RelV v u) (dv:Den X.K H d v) (ek:Z.t7 fe (Z.fL ρ is) d=.ok k) :
  wpAny (model X.prog X.w) X.A.in1 (call (.ref f) [u]) (λ r s'=>∃t H',r=.int k t/\aH H H'/\Un (qN X.stack) [] H H' s.heap s'.heap/\l8 X.prog X.w H' s'.heap/\AllBare s'.gens/\s'.os=s.os) E s:=by
 have NT:=I.cC c' _ L.code;obtain⟨x0,Pw,X8⟩:=B.own 0 (Nat.zero_lt_one);rw[Ir]at Pw;cases Pw;refine wpAny_call (kla_callFunE n? L.obj rfl G2 wu rfl NT ?_);rw[lP];refine v0 (wpAny_newFunctionEnv B.cell (λ y hy=>by rw[A13.mp hy];exact X8) (λ h₁ KI Yc=>⟨I.nolimit.fresh _ Yc,?_⟩) B.kind);show codeAny _ _ (.expr body (envX q scope s.heap.objs.size f (.ref c') cl)) _ _;have old:=λ b o e=>Yc.extBut b o (A10 (A00 e)) (W1 _ e);have N2:=I.cC.fresh (o0 _);have ok:(AE X N' q scope cl f c' s H).Ok:=by
  refine⟨I.ok.mod,B.kind,rfl,rfl,o0 _,λ x y c e1 e2=>I.ok.inj x y c (jy x c e1) (jy y c e2),λ y hy=>?_,λ y c hf=>(by cases hf),λ _=>I.ok.hd hcalm,Around.frames_deeper I.ok.frames,.inr ⟨rfl,rfl⟩,
   λ b hb=>absurd (show b∈([]:γ δ)from hb) (by simp),I.bs,A16 I.ok.IF I.sz,λ b o _ hb=>absurd (show b∈([]:γ δ)from hb) (by simp),λ b hb=>absurd (show b∈([]:γ δ)from hb) (by simp),I.stack,I.qG⟩
  have GQ:=hy;rcases GQ with z|z
  ·exact absurd rfl (B.cell _ (A72 z))
  ·exact A91.mp (sj _ (A72 z) rfl)
 have sP:∀x c,X.env.cells.lookup x=some c->c<s.heap.objs.size/\∀v,s.heap.IsCell c v->h₁.IsCell c v:=λ x c e=>by obtain⟨v,o,ho,hd⟩:=I.cell x c e;exact⟨A00 ho,λ v' ⟨o',mM,pq⟩=>⟨o',old c o' mM,pq⟩⟩
 have I4:Inv (AE X N' q scope cl f c' s H) [] (some v::mU σ 0 is) H {s with heap:=h₁,toks:=s.toks + [(x,u)].length}:=by
  refine⟨ok,rfl,I.bare,Un.kept old,⟨_,KI,λ i y w e1 e2 e3=>?_⟩,λ y c e=>?_,N2,λ y c e=>I.jE y c (jy y c e),λ p hp=>absurd (show p∈([]:γ (δ×ι))from hp) (by simp),I.cC.kept old,?_,I.tab⟩
  ·cases i with
   |zero=>have ID:=e1;rw[Ir]at ID;cases ID;simp only[C08,A99]at e2;subst e2;refine⟨u,rv,.inl ⟨X8,?_⟩⟩;simp
   |succ i=>
    have IC:(mU σ 0 is)[i]?=some (some w):=by simpa using e2
    unfold mU at IC;simp only[List.replicate_zero,B35,P3]at IC;cases r:is[i]? with
    |none=>rw[r]at IC;cases IC
    |some j=>
     rw[r]at IC;simp only[A83]at IC;obtain⟨x',c1,c2,c3⟩:=B.cap i j r;have ID:=e1;rw[show i+1=1+i from B12 _ _,c1]at ID;cases ID;have hσ:σ[j]?=some (some w):=by
      cases r2:σ[j]? with
      |none=>rw[r2]at IC;cases IC
      |some z=>
       rw[r2]at IC;have:z=some w:=by simpa using IC
       rw[this]
     obtain⟨m,hn,hl⟩:=I.loc;have hm:=A72 c3;have hk:=B.free _ hm rfl;have NP:Mh X.env.scope y:=by
      rcases hk with k|k
      ·exact .inr (.inl k)
      ·exact .inr (.inr k)
     obtain⟨u',ru,lk⟩:=hl j y w c2 hσ NP;refine⟨u',ru,?_⟩;rcases lk with⟨k1,_⟩|⟨k1,c,hc,p9⟩
     ·have Ko:X.env.scope.names.lookup y=some .local:=k1;rcases hk with k|k
      ·rw[k]at Ko;cases Ko
      ·rw[k]at Ko;cases Ko
     ·obtain⟨V2,xq⟩:=A91.mp (sj _ hm rfl);have:V2=c:=by have:=jy y V2 xq;rw[hc]at this;exact(A04 this).symm
      subst this;exact .inr ⟨.inr c3,V2,xq,(sP y V2 hc).2 _ p9⟩
  ·obtain⟨v',hv⟩:=I.cell y c (jy y c e);exact⟨v',(sP y c (jy y c e)).2 v' hv⟩
  ·have:=B.len;simp[mU,this,B12]
 refine kla_codeExpr (A26 (he cl f c' s H [] _ _ H (λ v' H'=>aH H H'/\v'=.int k) I4 ⟨_,_,ML re dv,Z.Km ek,λ v' H' s' d'=>⟨s',by simpa only[Den]using d'⟩⟩) (λ r s' hq=>?_) λ e s' hq=>hq.elim);obtain⟨v',H',J,rv',sm,rfl⟩:=hq;obtain⟨t,rfl⟩:=rv';exact⟨t,H',rfl,sm,J.base,J.cC,J.bare,J.os⟩
end
abbrev held(b:ζ)(k:ζ)(c:Nat):ι:={cls:=.type "list",data:=.seq #[b,k] c}
structure KLp(X:Cx)(χ:List (Addr×Obj))(σ:St)(H₀:Hp)(l I S:Addr)(vs:List V)(H:Hp)(s:Shared)(j i:Nat)(kb:Int):Prop where
 inv:Inv X χ σ H s
 sm:aH H₀ H
 it:s.heap.IsListIter I l j
 yv:Off X χ H I
 n0:Off X χ H S
 best:∃b v tb c,vs[i]?=some v/\RelV v b/\s.heap.get? S=some (held b (.int kb tb) c)
section
theorem n9(hcalm:X.calm=true)(I1:Inv X χ σ H s)(hq:jw X.K H l vs)(it:s.heap.IsListIter I l j)(oI:Off X χ H I)(hj:j<vs.length)
  (h:∀u v h' tk,vs[j]?=some v->RelV v u->Inv X χ σ H {s with heap:=h',toks:=tk}->h'.IsListIter I l (j+1)->(∀b o,b≠I->s.heap.get? b=some o->h'.get? b=some o)->Q (some u) {s with heap:=h',toks:=tk}) :
  wpAny (model X.prog X.w) X.A.in1 (pyNext (.ref I)) Q E s:=by
 obtain⟨its,rv,pl,hz⟩:=I1.list hq;have hl:=rv.length;have hh:=I1.ok.hd hcalm;have p7:l≠I:=by rintro rfl;obtain⟨o,e,hc,_⟩:=pl.isList;obtain⟨o2,e2,uT,_⟩:=it;rw[e]at e2;cases e2;rw[hc]at uT;exact absurd (Value.type.inj uT) (by decide)
 have W:=B28 (prog:=X.prog) (w:=X.w) (A:=X.A.in1) hh I l p7 its.toArray;refine W.item j s Q E (by rw[A07,<-hl];exact hj) ⟨it,pl.isList⟩ λ u h' tk pv st k1=>?_;have hv:its[j]?=some u:=by simpa using pv
 obtain⟨v,Py⟩:∃v,vs[j]?=some v:=⟨vs[j],by simp[hj]⟩
 obtain⟨u',Pz,rvu⟩:=rv.get Py;rw[hv]at Pz;cases Pz;have kp:=λ b o hb e=>k1 b o (by simpa using hb) e;exact h u v h' tk Py rvu (I1.turned kp oI.free oI.loc (.inr oI.new) oI.cell oI.pin) st.1 kp
theorem r9(hcalm:X.calm=true)(I1:Inv X χ σ H s)(hq:jw X.K H l vs)(it:s.heap.IsListIter I l j)(oI:Off X χ H I)(hj:j=vs.length)
  (h:∀h' tk,Inv X χ σ H {s with heap:=h',toks:=tk}->(∀b o,b≠I->s.heap.get? b=some o->h'.get? b=some o)->Q none {s with heap:=h',toks:=tk}) :
  wpAny (model X.prog X.w) X.A.in1 (pyNext (.ref I)) Q E s:=by
 obtain⟨its,rv,pl,hz⟩:=I1.list hq;have hl:=rv.length;have hh:=I1.ok.hd hcalm;have p7:l≠I:=by rintro rfl;obtain⟨o,e,hc,_⟩:=pl.isList;obtain⟨o2,e2,uT,_⟩:=it;rw[e]at e2;cases e2;rw[hc]at uT;exact absurd (Value.type.inj uT) (by decide)
 have W:=B28 (prog:=X.prog) (w:=X.w) (A:=X.A.in1) hh I l p7 its.toArray;refine W.done s Q E ⟨by rw[A07,<-hl,<-hj];exact it,pl.isList⟩ λ h' tk k1=>?_;have kp:=λ b o hb e=>k1 b o (by simpa using hb) e;exact h h' tk (I1.turned kp oI.free oI.loc (.inr oI.new) oI.cell oI.pin) kp
def zH(X:Cx)(χ:γ (δ×ι))(σ:St)(H₀:Hp)(f:δ)(St:Hp->η->Prop)(e:Z.D->Z.Res Int):Prop:=
 ∀(H:Hp)(s:η)(u:ζ)(v:V)(d:Z.D)(k:Int),Inv X χ σ H s->aH H₀ H->St H s->RelV v u->Den X.K H d v->e d=.ok k ->
  wpAny (model X.prog X.w) X.A.in1 (call (.ref f) [u]) (λ r s'=>∃t H',r=.int k t/\aH H H'/\Un (qN X.stack) [] H H' s.heap s'.heap/\l8 X.prog X.w H' s'.heap/\AllBare s'.gens/\s'.os=s.os) (λ _ _=>False) s
structure H!(X:Cx)(χ:List (Addr×Obj))(σ:St)(f:Addr)(St:Hp->Shared->Prop):Prop where
 off:∀H s,St H s->Off X χ H f
 un:∀H H' s s',Inv X χ σ H s->St H s->aH H H'->H' f=none->(∀o,s.heap.get? f=some o->s'.heap.get? f=some o)->St H' s'
end
section
variable {St:Hp->η->Prop}
theorem E3(h:Q (.bool (decide (k>kb))) s):wpAny (model prog w) A (richCompare .Gt (.int k t) (.int kb tb)) Q E s:=
 CmpOf.ints_gt (λ i=>if i=0 then k else kb) (λ i v h=>h) 0 1 _ _ _ _ _ ⟨t,rfl⟩ ⟨tb,rfl⟩ h
theorem C3(h:Q (.bool (decide (k<kb))) s):wpAny (model prog w) A (richCompare .Lt (.int k t) (.int kb tb)) Q E s:=
 CmpOf.ints_lt (λ i=>if i=0 then k else kb) (λ i v h=>h) 0 1 _ _ _ _ _ ⟨t,rfl⟩ ⟨tb,rfl⟩ h
theorem qL(KO:zH X χ σ H₀ f St e)(SY:H! X χ σ f St)(Iv:Inv X χ σ H s)(sm:aH H₀ H)(st:St H s)(rv:RelV v u)(dv:Den X.K H d v)(ek:e d=.ok k)
  (oI:Off X χ H I) (oS:Off X χ H S){oi os:ι}(gI:s.heap.get? I=some oi) (gS:s.heap.get? S=some os) (gf:∃o,s.heap.get? f=some o)
  (h:∀t H' s',Inv X χ σ H' s'->aH H H'->St H' s'->Off X χ H' I->Off X χ H' S->s'.heap.get? I=some oi->s'.heap.get? S=some os->(∃o,s'.heap.get? f=some o)->Q (.int k t) s') :
  wpAny (model X.prog X.w) X.A.in1 (call (.ref f) [u]) Q E s:=by
 refine A26 (KO H s u v d k Iv sm st rv dv ek) (λ x s' hq=>?_) λ _ _ z=>z.elim;obtain⟨t,H',rfl,O?,un,cC,bare,Xe⟩:=hq;have Iv':=Iv.Mc Xe un cC bare λ b hb=>absurd hb (by simp);have of:=SY.off H s st;have kp:∀{b}{o},Off X χ H b->s.heap.get? b=some o->s'.heap.get? b=some o/\H' b=none:=λ {b o} ob e=>⟨un.keep b o e ob.free (ob.RF Iv) (by simp),un.free b o e ob.free (by simp)⟩
 obtain⟨fo,gf⟩:=gf;exact h t H' s' Iv' O? (SY.un H H' s s' Iv st O? (kp of gf).2 λ o e=>(kp of e).1) (oI.up (kp oI gI).2) (oS.up (kp oS gS).2) (kp oI gI).1 (kp oS gS).1 ⟨fo,(kp of gf).1⟩
theorem AH(hcalm:X.calm=true)(KO:zH X χ σ H₀ f St e)(SY:H! X χ σ f St)(wy:S≠I)(AS:f≠I)(AR:f≠S)(hl:jw X.K H₀ l vs)(dn:aE X.K H₀ ds vs)
  (fin:∀H s u v,Inv X χ σ H s->aH H₀ H->RelV v u->Den X.K H r v->R (.ok (.ret u)) s) :
  ∀n j i H s kb db,ds.length=j+n->ds[i]?=some db->Z.G8 true e db kb (ds.drop j)=.ok r->KLp X χ σ H₀ l I S vs H s j i kb->St H s->(∃o,s.heap.get? f=some o) ->
   codeAny (model X.prog X.w) X.A (.builtin "max.loop" ⟨[.ref I,.ref f,.ref S],kw⟩) R s:=by
 have nm:(toString "max"++toString ".loop")="max.loop":=by decide
 have ψ:=dn.length;intro n
 induction n with
 |zero=>
  intro j i H s kb db hn ji eg L st gf;obtain⟨b,v,tb,c,hv,rb,gS⟩:=L.best;refine A60 B00 ?_;rw[A77 A37 _];refine T0 (A24 gS rfl (T0 (A28 (r9 hcalm L.inv (L.sm.seq hl) L.it L.yv (by lia) λ h1 t1 I1 k1=>?_))));have g1:=k1 S _ wy gS;refine T0 (A78 g1 rfl (T0 (A42 (v0 ?_))));have hr:db=r:=by rw[C44 (by lia)]at eg;unfold Z.G8 at eg;cases eg;rfl
  subst hr;obtain⟨v',yQ,dv⟩:=dn.get ji;rw[hv]at yQ;cases yQ;exact fin H _ b v (I1.turned (t':=t1) (λ b o hb e=>(A41 _ _ (A06 hb)).trans e) L.n0.free L.n0.loc (.inr L.n0.new) L.n0.cell L.n0.pin) L.sm rb (dv.up L.sm)
 |succ n ih=>
  intro j i H s kb db hn ji eg L st gf;obtain⟨b,v,tb,c,hv,rb,gS⟩:=L.best;have hj:j<ds.length:=by lia
  obtain⟨dj,KN⟩:∃d,ds[j]?=some d:=⟨ds[j],by simp[hj]⟩
  have sh:ds.drop j=dj::ds.drop (j+1):=by
   rw[B25 hj];have:ds[j]=dj:=by have:=A01 hj;rw[this]at KN;exact A04 KN
   rw[this]
  rw[sh]at eg;unfold Z.G8 at eg;obtain⟨k,ek,eg⟩:=Z.Res.ax eg;refine A60 B00 ?_;rw[A77 A37 _];refine T0 (A24 gS rfl (T0 (A28 (n9 hcalm L.inv (L.sm.seq hl) L.it L.yv (by lia) λ u v1 h1 t1 DZ Fw I1 X0 k1=>?_))));have g1:=k1 S _ wy gS;obtain⟨oI,gI,rI⟩:=id X0;obtain⟨of,gf⟩:=gf;have KW:=k1 f _ AS gf;obtain⟨v',yQ,dv⟩:=dn.get KN;rw[DZ]at yQ;cases yQ;have tP:St H {s with heap:=h1,toks:=t1}:=SY.un H H s _ L.inv st (aH.refl H) (SY.off H s st).free λ o e=>k1 f o AS e;refine T0 (A28 (A33 (qL KO SY I1 L.sm tP Fw (dv.up L.sm) ek L.yv L.n0 gI g1 ⟨of,KW⟩ λ t2 H2 s2 I2 Af C7 Rx Ay KY Od S4=>?_)));refine T0 (A28 (A33 (T0 (E3 (T0 (A33 (A53 (T0 (A42 (v0 ?_))))))))));have Fn:=L.sm.trans Af;have NL:s2.heap.IsListIter I l (j+1):=⟨oI,KY,rI⟩
  by_cases hb:k>kb
  ·simp only[hb,decide_true,A20];refine T0 (A78 Od rfl (T0 (A42 ?_)));rw[nm];rw[M2 (by unfold Z.Be;simpa using hb)]at eg;have kp:∀b o,b≠S->s2.heap.get? b=some o->(s2.heap.update S (Obj.mapSeq λ _=>#[u,.int k t2])).get? b=some o:=λ b o hb e=>(A41 _ _ (A06 hb)).trans e;have I3:=I2.turned (t':=s2.toks) kp Ay.free Ay.loc (.inr Ay.new) Ay.cell Ay.pin;refine v0 ⟨A46 A37 _,ih (j+1) j H2 _ k dj (by lia) KN eg ⟨I3,Fn,⟨oI,kp I _ (A06 wy) KY,rI⟩,Rx,Ay,u,v1,t2,_,DZ,Fw,A66 _ Od rfl⟩ (SY.un H2 H2 s2 _ I2 C7 (aH.refl H2) (SY.off H2 s2 C7).free λ o e=>kp f o AR e) (let ⟨o,e⟩:=S4;⟨o,kp f o AR e⟩)⟩
  ·simp only[hb,decide_false,A45,A65];refine T0 (A42 ?_);rw[nm];rw[f8 (by unfold Z.Be;simpa using hb)]at eg;exact v0 ⟨A46 A37 _,ih (j+1) i H2 s2 kb db (by lia) ji eg ⟨I2,Fn,NL,Rx,Ay,b,v,tb,c,hv,rb,Od⟩ C7 S4⟩
theorem AG(hcalm:X.calm=true)(KO:zH X χ σ H₀ f St e)(SY:H! X χ σ f St)(wy:S≠I)(AS:f≠I)(AR:f≠S)(hl:jw X.K H₀ l vs)(dn:aE X.K H₀ ds vs)
  (fin:∀H s u v,Inv X χ σ H s->aH H₀ H->RelV v u->Den X.K H r v->R (.ok (.ret u)) s) :
  ∀n j i H s kb db,ds.length=j+n->ds[i]?=some db->Z.G8 false e db kb (ds.drop j)=.ok r->KLp X χ σ H₀ l I S vs H s j i kb->St H s->(∃o,s.heap.get? f=some o) ->
   codeAny (model X.prog X.w) X.A (.builtin "min.loop" ⟨[.ref I,.ref f,.ref S],kw⟩) R s:=by
 have nm:(toString "min"++toString ".loop")="min.loop":=by decide
 have ψ:=dn.length;intro n
 induction n with
 |zero=>
  intro j i H s kb db hn ji eg L st gf;obtain⟨b,v,tb,c,hv,rb,gS⟩:=L.best;refine A60 C09 ?_;rw[A77 B01 _];refine T0 (A24 gS rfl (T0 (A28 (r9 hcalm L.inv (L.sm.seq hl) L.it L.yv (by lia) λ h1 t1 I1 k1=>?_))));have g1:=k1 S _ wy gS;refine T0 (A78 g1 rfl (T0 (A42 (v0 ?_))));have hr:db=r:=by rw[C44 (by lia)]at eg;unfold Z.G8 at eg;cases eg;rfl
  subst hr;obtain⟨v',yQ,dv⟩:=dn.get ji;rw[hv]at yQ;cases yQ;exact fin H _ b v (I1.turned (λ b o hb e=>(A41 _ _ (A06 hb)).trans e) L.n0.free L.n0.loc (.inr L.n0.new) L.n0.cell L.n0.pin) L.sm rb (dv.up L.sm)
 |succ n ih=>
  intro j i H s kb db hn ji eg L st gf;obtain⟨b,v,tb,c,hv,rb,gS⟩:=L.best;have hj:j<ds.length:=by lia
  obtain⟨dj,KN⟩:∃d,ds[j]?=some d:=⟨ds[j],by simp[hj]⟩
  have sh:ds.drop j=dj::ds.drop (j+1):=by
   rw[B25 hj];have:ds[j]=dj:=by have:=A01 hj;rw[this]at KN;exact A04 KN
   rw[this]
  rw[sh]at eg;unfold Z.G8 at eg;obtain⟨k,ek,eg⟩:=Z.Res.ax eg;refine A60 C09 ?_;rw[A77 B01 _];refine T0 (A24 gS rfl (T0 (A28 (n9 hcalm L.inv (L.sm.seq hl) L.it L.yv (by lia) λ u v1 h1 t1 DZ Fw I1 X0 k1=>?_))));have g1:=k1 S _ wy gS;obtain⟨oI,gI,rI⟩:=id X0;obtain⟨of,gf⟩:=gf;have KW:=k1 f _ AS gf;obtain⟨v',yQ,dv⟩:=dn.get KN;rw[DZ]at yQ;cases yQ;have tP:St H {s with heap:=h1,toks:=t1}:=SY.un H H s _ L.inv st (aH.refl H) (SY.off H s st).free λ o e=>k1 f o AS e;refine T0 (A28 (A33 (qL KO SY I1 L.sm tP Fw (dv.up L.sm) ek L.yv L.n0 gI g1 ⟨of,KW⟩ λ t2 H2 s2 I2 Af C7 Rx Ay KY Od S4=>?_)));refine T0 (A28 (A33 (T0 (C3 (T0 (A33 (A53 (T0 (A42 (v0 ?_))))))))));have Fn:=L.sm.trans Af;have NL:s2.heap.IsListIter I l (j+1):=⟨oI,KY,rI⟩
  by_cases hb:k<kb
  ·simp only[hb,decide_true,A20];refine T0 (A78 Od rfl (T0 (A42 ?_)));rw[nm];rw[M2 (by unfold Z.Be;simpa using hb)]at eg;have kp:∀b o,b≠S->s2.heap.get? b=some o->(s2.heap.update S (Obj.mapSeq λ _=>#[u,.int k t2])).get? b=some o:=λ b o hb e=>(A41 _ _ (A06 hb)).trans e;have I3:=I2.turned (t':=s2.toks) kp Ay.free Ay.loc (.inr Ay.new) Ay.cell Ay.pin;refine v0 ⟨A46 B01 _,ih (j+1) j H2 _ k dj (by lia) KN eg ⟨I3,Fn,⟨oI,kp I _ (A06 wy) KY,rI⟩,Rx,Ay,u,v1,t2,_,DZ,Fw,A66 _ Od rfl⟩ (SY.un H2 H2 s2 _ I2 C7 (aH.refl H2) (SY.off H2 s2 C7).free λ o e=>kp f o AR e) (let ⟨o,e⟩:=S4;⟨o,kp f o AR e⟩)⟩
  ·simp only[hb,decide_false,A45,A65];refine T0 (A42 ?_);rw[nm];rw[f8 (by unfold Z.Be;simpa using hb)]at eg;exact v0 ⟨A46 B01 _,ih (j+1) i H2 s2 kb db (by lia) ji eg ⟨I2,Fn,NL,Rx,Ay,b,v,tb,c,hv,rb,Od⟩ C7 S4⟩
end
def tj(X:Cx)(nm:Str):Prop:=∃c P,nm∈dN/\tabIn X.K nm=some (c,P)/\X.env.code=.ref c/\X.env.qual++ "<lambda>"=jx nm
theorem EG(a k:ζ):argsOk "max" ⟨[a],[(Str.ofString "key",k),(Str.ofString "default",.none)]⟩:=by kernel_rfl
theorem Bg(k:ζ):Builtin.Builtins.bindParams "max" ["key","default"] 0 ⟨[],[(Str.ofString "key",k),(Str.ofString "default",.none)]⟩=pure [some k,some .none]:=by kernel_rfl
section
variable {St:Hp->η->Prop}
theorem K3(hcalm:X.calm=true)(KO:zH X χ σ H f St e)(SY:H! X χ σ f St)(Iv:Inv X χ σ H s)(st:St H s)(gf:∃o,s.heap.get? f=some o)(hl:jw X.K H l vs)(dn:aE X.K H ds vs)(ek:Z.pickK true (.ok .non) e ds=.ok r)
  (k:∀v H',aH H H'->Den X.K H' r v->Q v H'):wpAny (model X.prog X.w) X.A (call (.builtin "max") [.ref l] ([(Str.ofString "key",.ref f),(Str.ofString "default",.none)])) (EP X χ σ Q) X.xe s:=by
 have nm:(toString "max"++toString ".loop")="max.loop":=by decide
 have ψ:=dn.length;obtain⟨fo,gf⟩:=gf;obtain⟨its,rv,pl,hz⟩:=Iv.list hl;refine kmk_tree C05 C06 C07 (EG _ _) ?_;show wpAny (model X.prog X.w) X.A.in1 (Builtin.Builtins.bindParams "max" ["key","default"] 0 ⟨[],[(Str.ofString "key",.ref f),(Str.ofString "default",.none)]⟩>>=_) _ _ s;rw[Bg];refine T0 (v0 (T0 (v0 (T0 (A98 pl.isList ?_)))));refine T0 (A55 ?_);rw[nm];generalize G4:s.heap.push {cls:=.type "list_iterator",data:=.fields #[.ref l,.int 0 0]}=HH;have hS:HH.objs.size=s.heap.objs.size+1:=by rw[<-G4,A58]
 have Y8:HH.get? s.heap.objs.size=some {cls:=.type "list_iterator",data:=.fields #[.ref l,.int 0 0]}:=by rw[<-G4];exact A11 _ rfl
 have NC:∀b o,s.heap.get? b=some o->(HH.push {cls:=.type "list",data:=.seq ([]).toArray}).get? b=some o:=λ b o e=>W1 _ (by rw[<-G4];exact W1 _ e);have I1:=Iv.kept (t':=s.toks) NC;have oI:=Off.fresh Iv (o0 _) (Iv.cC.fresh (o0 _));have oS:Off X χ H HH.objs.size:=Off.fresh Iv (by rw[hS];exact A84 _) (Iv.cC.fresh (by rw[hS];exact A84 _));have wy:HH.objs.size≠s.heap.objs.size:=by rw[hS];exact A48 (A71 _)
 have AS:=A10 (A00 gf);have AR:f≠HH.objs.size:=by rw[hS];exact A10 (B27 (A00 gf))
 have gS:(HH.push {cls:=.type "list",data:=.seq ([]).toArray}).get? HH.objs.size=some {cls:=.type "list",data:=.seq ([]).toArray}:=A11 _ rfl;have gI:(HH.push {cls:=.type "list",data:=.seq ([]).toArray}).get? s.heap.objs.size=some {cls:=.type "list_iterator",data:=.fields #[.ref l,.int 0 0]}:=W1 _ Y8;have tP:St H {s with heap:=HH.push {cls:=.type "list",data:=.seq ([]).toArray}}:=SY.un H H s _ Iv st (aH.refl H) (SY.off H s st).free λ o e=>NC f o e;have KW:=NC f fo gf;generalize hS2:HH.objs.size=S at oS wy AR gS;generalize hI2:s.heap.objs.size=I at oI wy AS gI;generalize ml:({s with heap:=HH.push {cls:=.type "list",data:=.seq ([]).toArray}})=s1 at I1 tP;have e1:HH.push {cls:=.type "list",data:=.seq ([]).toArray}=s1.heap:=by rw[<-ml]
 rw[e1]at gS gI KW;refine v0 ⟨A46 A37 _,?_⟩;refine A60 B00 ?_;rw[A77 A37 _];cases ds with
 |nil=>refine T0 (A24 gS rfl (T0 (A28 (r9 (j:=0) hcalm I1 hl ⟨_,gI,rfl,rfl⟩ oI (by simp at ψ;simp[ψ]) λ h1 t1 I2 k1=>?_))));refine T0 (A96 (v0 ?_));cases ek;exact⟨.non,H,I2,rfl,k .non H (aH.refl H) oK⟩
 |cons d0 dr=>unfold Z.pickK at ek;obtain⟨k0,Zq,ek⟩:=Z.Res.ax ek;refine T0 (A24 gS rfl (T0 (A28 (n9 (j:=0) hcalm I1 hl ⟨_,gI,rfl,rfl⟩ oI (by simp at ψ;lia) λ u v1 h1 t1 DZ Fw I2 NL k1=>?_))));have g1:=k1 S _ wy gS;obtain⟨oi,KY,rI⟩:=id NL;obtain⟨v',yQ,dv⟩:=dn.get (i:=0) (d:=d0) rfl;rw[DZ]at yQ;cases yQ;have C7:St H {s1 with heap:=h1,toks:=t1}:=SY.un H H s1 _ I1 tP (aH.refl H) (SY.off H s1 tP).free λ o e=>k1 f o AS e;refine T0 (A28 (A33 (qL KO SY I2 (aH.refl H) C7 Fw dv Zq oI oS KY g1 ⟨fo,k1 f _ AS KW⟩ λ t3 H3 s3 I3 Ae Fh Xk Dn Y7 S8 Y5=>?_)));refine T0 (A78 S8 rfl ?_);rw[nm];have kp:∀b o,b≠S->s3.heap.get? b=some o->(s3.heap.update S (Obj.mapSeq λ _=>#[u,.int k0 t3])).get? b=some o:=λ b o hb e=>(A41 _ _ (A06 hb)).trans e;have I4:=I3.turned (t':=s3.toks) kp Dn.free Dn.loc (.inr Dn.new) Dn.cell Dn.pin;exact v0 ⟨A46 A37 _,AH hcalm KO SY wy AS AR hl dn (λ H5 s5 u5 v5 I5 Fm MI Ot=>⟨v5,H5,I5,MI,k v5 H5 Fm Ot⟩) dr.length 1 0 H3 _ k0 d0 (by simp;lia) rfl ek ⟨I4,Ae,⟨oi,kp _ _ (A06 wy) Y7,rI⟩,Xk,Dn,u,v1,t3,_,DZ,Fw,A66 _ S8 rfl⟩ (SY.un H3 H3 s3 _ I3 Fh (aH.refl H3) (SY.off H3 s3 Fh).free λ o e=>kp f o AR e) (let ⟨o,e⟩:=Y5;⟨o,kp f o AR e⟩)⟩
end
section
theorem wW(hL:tj X nm)(n?:X.A.in1.depth<recursionLimit)(hg:Gl X x)(hm:X.mg x=none)(hv:bootBuiltins x=some (.builtin "max"))(ha:DW X a fa)
  (B:qF X.N N' 1 is scope X.env.scope) (Ir:N'[0]?=some y) (he:∀cl f c' s H,DE (AE X N' (jx nm) scope cl f c' s H) body fe)
  (lP:∀q cl pm c' qf u,bindArgs (kla_fn "<lambda>" q params body scope cl pm (.ref c') qf) ⟨[u],[]⟩=pure [(y,u)])
  (wx:defaultsOf params X.env=([],[]):=by rfl) (wu:scope.isGenerator=false:=by rfl) (G2:scope.isCoroutine=false:=by rfl)
  (hc:X.calm=true:=by rfl) (hn:x≠ "__name__":=by decide +kernel) (ji:Nd x:=by decide +kernel)
  (NS:Se a [] X.env:=by rfl) (Cb:backTo pos (starEach (a::[]) X.env)=(false,eval a X.env)::backTo pos (starEach [] X.env):=by rfl) (iV:(backTo pos (starEach (a::[]) X.env)).any (·.1)=false:=by rfl) :
  DE X (.Call (.Name x p1) [a] [⟨some (Str.ofString "key"),.Lambda params body scope lp,kp⟩,⟨some (Str.ofString "default"),.Constant .none jj cp,kp2⟩] pos) (Z.wQ true (.ok .non) fa is fe):=by
 intro χ s σ H Q I h;obtain⟨ρ,d,r,e,k⟩:=h;obtain⟨dx,ea,e⟩:=Z.Res.ax e;obtain⟨c,P,h1,h2,h3,h4⟩:=hL;split at e
 ·rename_i ds;refine B17 (jV I hg hm hv ?_ hn ji);refine callWith_kw ?_ Cb iV;refine dB (bF ha cI NS pos χ s σ H (λ vs H1=>∃v,vs=[v]/\aH H H1/\bU X.K H1 (.lst ds) v) I ⟨ρ,_,r,ea,λ v H1 s1 d1=>⟨v,rfl,s1,d1⟩⟩) λ us s1 ⟨vs,H1,I1,r1,q1⟩=>?_;obtain⟨v,rfl,sm,d1⟩:=q1;obtain⟨u,rfl,ru⟩:=vals1 r1;have p8:∀y∈scope.names,y.2=.free->∃c,X.env.cells.lookup y.1=some c:=λ y hy hf=>I1.ok.has y.1 (B.free y hy hf);obtain⟨cl,uS,jy,sj⟩:=jW p8;refine kws_cons (dB (yK h1 h2 h3 h4 wx uS I1) λ w s2 ⟨f,c',pm,qf,H2,ew,I2,Af,LA⟩=>?_);subst ew;refine kws_cons (Constant_none (kws_nil ?_));obtain⟨q,vs,rfl,hq,tt⟩:=(d1.up Af).lst;cases ru;have W4:=(r.up sm).up Af;refine K3 (St:=λ H s=>CK X χ (jx nm) params body scope cl H s f c' pm qf) hc (λ H5 s5 u5 v5 d5 k5 I5 Fm vG MI Ot Zp=>?_) ⟨λ _ _ st=>st.off,λ H5 H6 s5 s6 I5 vG Fm YF Ym=>⟨vG.off.up YF,Ym _ vG.obj,Fm _ _ vG.code⟩⟩ I2 LA ⟨_,LA.obj⟩ hq tt e λ v' H' s' d'=>k v' H' ((sm.trans Af).trans s') d';exact yL (x:=y) hc n? B Ir wu G2 (λ u=>lP _ _ _ _ _ u) jy sj he vG I5 (W4.up Fm) MI Ot Zp
 ·cases e
end
theorem EE(a k:ζ):argsOk "min" ⟨[a],[(Str.ofString "key",k)]⟩:=by kernel_rfl
theorem Bf(k:ζ):Builtin.Builtins.bindParams "min" ["key","default"] 0 ⟨[],[(Str.ofString "key",k)]⟩=pure [some k,none]:=by kernel_rfl
section
variable {St:Hp->η->Prop}
theorem K2(hcalm:X.calm=true)(KO:zH X χ σ H f St e)(SY:H! X χ σ f St)(Iv:Inv X χ σ H s)(st:St H s)(gf:∃o,s.heap.get? f=some o)(hl:jw X.K H l vs)(dn:aE X.K H ds vs)(ek:Z.pickK false .bad e ds=.ok r)
  (k:∀v H',aH H H'->Den X.K H' r v->Q v H'):wpAny (model X.prog X.w) X.A (call (.builtin "min") [.ref l] ([(Str.ofString "key",.ref f)])) (EP X χ σ Q) X.xe s:=by
 have nm:(toString "min"++toString ".loop")="min.loop":=by decide
 have ψ:=dn.length;obtain⟨fo,gf⟩:=gf;obtain⟨its,rv,pl,hz⟩:=Iv.list hl;refine kmk_tree PySem.F.kind_min PySem.F.plain_min PySem.F.entry_min (EE _ _) ?_;show wpAny (model X.prog X.w) X.A.in1 (Builtin.Builtins.bindParams "min" ["key","default"] 0 ⟨[],[(Str.ofString "key",.ref f)]⟩>>=_) _ _ s;rw[Bf];refine T0 (v0 (T0 (v0 (T0 (A98 pl.isList ?_)))));refine T0 (A55 ?_);rw[nm];generalize G4:s.heap.push {cls:=.type "list_iterator",data:=.fields #[.ref l,.int 0 0]}=HH;have hS:HH.objs.size=s.heap.objs.size+1:=by rw[<-G4,A58]
 have Y8:HH.get? s.heap.objs.size=some {cls:=.type "list_iterator",data:=.fields #[.ref l,.int 0 0]}:=by rw[<-G4];exact A11 _ rfl
 have NC:∀b o,s.heap.get? b=some o->(HH.push {cls:=.type "list",data:=.seq ([]).toArray}).get? b=some o:=λ b o e=>W1 _ (by rw[<-G4];exact W1 _ e);have I1:=Iv.kept (t':=s.toks) NC;have oI:=Off.fresh Iv (o0 _) (Iv.cC.fresh (o0 _));have oS:Off X χ H HH.objs.size:=Off.fresh Iv (by rw[hS];exact A84 _) (Iv.cC.fresh (by rw[hS];exact A84 _));have wy:HH.objs.size≠s.heap.objs.size:=by rw[hS];exact A48 (A71 _)
 have AS:=A10 (A00 gf);have AR:f≠HH.objs.size:=by rw[hS];exact A10 (B27 (A00 gf))
 have gS:(HH.push {cls:=.type "list",data:=.seq ([]).toArray}).get? HH.objs.size=some {cls:=.type "list",data:=.seq ([]).toArray}:=A11 _ rfl;have gI:(HH.push {cls:=.type "list",data:=.seq ([]).toArray}).get? s.heap.objs.size=some {cls:=.type "list_iterator",data:=.fields #[.ref l,.int 0 0]}:=W1 _ Y8;have tP:St H {s with heap:=HH.push {cls:=.type "list",data:=.seq ([]).toArray}}:=SY.un H H s _ Iv st (aH.refl H) (SY.off H s st).free λ o e=>NC f o e;have KW:=NC f fo gf;generalize hS2:HH.objs.size=S at oS wy AR gS;generalize hI2:s.heap.objs.size=I at oI wy AS gI;generalize ml:({s with heap:=HH.push {cls:=.type "list",data:=.seq ([]).toArray}})=s1 at I1 tP;have e1:HH.push {cls:=.type "list",data:=.seq ([]).toArray}=s1.heap:=by rw[<-ml]
 rw[e1]at gS gI KW;refine v0 ⟨A46 B01 _,?_⟩;refine A60 C09 ?_;rw[A77 B01 _];cases ds with
 |nil=>cases ek
 |cons d0 dr=>unfold Z.pickK at ek;obtain⟨k0,Zq,ek⟩:=Z.Res.ax ek;refine T0 (A24 gS rfl (T0 (A28 (n9 (j:=0) hcalm I1 hl ⟨_,gI,rfl,rfl⟩ oI (by simp at ψ;lia) λ u v1 h1 t1 DZ Fw I2 NL k1=>?_))));have g1:=k1 S _ wy gS;obtain⟨oi,KY,rI⟩:=id NL;obtain⟨v',yQ,dv⟩:=dn.get (i:=0) (d:=d0) rfl;rw[DZ]at yQ;cases yQ;have C7:St H {s1 with heap:=h1,toks:=t1}:=SY.un H H s1 _ I1 tP (aH.refl H) (SY.off H s1 tP).free λ o e=>k1 f o AS e;refine T0 (A28 (A33 (qL KO SY I2 (aH.refl H) C7 Fw dv Zq oI oS KY g1 ⟨fo,k1 f _ AS KW⟩ λ t3 H3 s3 I3 Ae Fh Xk Dn Y7 S8 Y5=>?_)));refine T0 (A78 S8 rfl ?_);rw[nm];have kp:∀b o,b≠S->s3.heap.get? b=some o->(s3.heap.update S (Obj.mapSeq λ _=>#[u,.int k0 t3])).get? b=some o:=λ b o hb e=>(A41 _ _ (A06 hb)).trans e;have I4:=I3.turned (t':=s3.toks) kp Dn.free Dn.loc (.inr Dn.new) Dn.cell Dn.pin;exact v0 ⟨A46 B01 _,AG hcalm KO SY wy AS AR hl dn (λ H5 s5 u5 v5 I5 Fm MI Ot=>⟨v5,H5,I5,MI,k v5 H5 Fm Ot⟩) dr.length 1 0 H3 _ k0 d0 (by simp;lia) rfl ek ⟨I4,Ae,⟨oi,kp _ _ (A06 wy) Y7,rI⟩,Xk,Dn,u,v1,t3,_,DZ,Fw,A66 _ S8 rfl⟩ (SY.un H3 H3 s3 _ I3 Fh (aH.refl H3) (SY.off H3 s3 Fh).free λ o e=>kp f o AR e) (let ⟨o,e⟩:=Y5;⟨o,kp f o AR e⟩)⟩
end
section
theorem wV(hL:tj X nm)(n?:X.A.in1.depth<recursionLimit)(hg:Gl X x)(hm:X.mg x=none)(hv:bootBuiltins x=some (.builtin "min"))(ha:DW X a fa)
  (B:qF X.N N' 1 is scope X.env.scope) (Ir:N'[0]?=some y) (he:∀cl f c' s H,DE (AE X N' (jx nm) scope cl f c' s H) body fe)
  (lP:∀q cl pm c' qf u,bindArgs (kla_fn "<lambda>" q params body scope cl pm (.ref c') qf) ⟨[u],[]⟩=pure [(y,u)])
  (wx:defaultsOf params X.env=([],[]):=by rfl) (wu:scope.isGenerator=false:=by rfl) (G2:scope.isCoroutine=false:=by rfl)
  (hc:X.calm=true:=by rfl) (hn:x≠ "__name__":=by decide +kernel) (ji:(x==("__debug__"))=false:=by decide +kernel)
  (NS:Se a [] X.env:=by rfl) (Cb:backTo pos (starEach (a::[]) X.env)=(false,eval a X.env)::backTo pos (starEach [] X.env):=by rfl) (iV:(backTo pos (starEach (a::[]) X.env)).any (·.1)=false:=by rfl) :
  DE X (.Call (.Name x p1) [a] [⟨some (Str.ofString "key"),.Lambda params body scope lp,kp⟩] pos) (Z.wQ false .bad fa is fe):=by
 intro χ s σ H Q I h;obtain⟨ρ,d,r,e,k⟩:=h;obtain⟨dx,ea,e⟩:=Z.Res.ax e;obtain⟨c,P,h1,h2,h3,h4⟩:=hL;split at e
 ·rename_i ds;refine B17 (jV I hg hm hv ?_ hn ji);refine callWith_kw ?_ Cb iV;refine dB (bF ha cI NS pos χ s σ H (λ vs H1=>∃v,vs=[v]/\aH H H1/\bU X.K H1 (.lst ds) v) I ⟨ρ,_,r,ea,λ v H1 s1 d1=>⟨v,rfl,s1,d1⟩⟩) λ us s1 ⟨vs,H1,I1,r1,q1⟩=>?_;obtain⟨v,rfl,sm,d1⟩:=q1;obtain⟨u,rfl,ru⟩:=vals1 r1;have p8:∀y∈scope.names,y.2=.free->∃c,X.env.cells.lookup y.1=some c:=λ y hy hf=>I1.ok.has y.1 (B.free y hy hf);obtain⟨cl,uS,jy,sj⟩:=jW p8;refine kws_cons (dB (yK h1 h2 h3 h4 wx uS I1) λ w s2 ⟨f,c',pm,qf,H2,ew,I2,Af,LA⟩=>?_);subst ew;refine kws_nil ?_;obtain⟨q,vs,rfl,hq,tt⟩:=(d1.up Af).lst;cases ru;have W4:=(r.up sm).up Af;refine K2 (St:=λ H s=>CK X χ (jx nm) params body scope cl H s f c' pm qf) hc (λ H5 s5 u5 v5 d5 k5 I5 Fm vG MI Ot Zp=>?_) ⟨λ _ _ st=>st.off,λ H5 H6 s5 s6 I5 vG Fm YF Ym=>⟨vG.off.up YF,Ym _ vG.obj,Fm _ _ vG.code⟩⟩ I2 LA ⟨_,LA.obj⟩ hq tt e λ v' H' s' d'=>k v' H' ((sm.trans Af).trans s') d';exact yL hc n? B Ir wu G2 (λ u=>lP _ _ _ _ _ u) jy sj he vG I5 (W4.up Fm) MI Ot Zp
 ·cases e
end
theorem yd(r:d? (k+2) A)(env:PySem.Env):d? k (A.in1.deeper env):=(d?.in1 r).deeper env
theorem Fz(r:d? k A):A.in1.depth<recursionLimit:=r.depth
def LB(K:Frag)(mg:Str->ε ζ)(x:Str):Prop:=∃c P,tabIn K x=some (c,P)/\∀f fd oc od sl,mg x=some (.ref f)->K.lookup f=some ⟨oc,od,.func fd,sl⟩->fd.code=.ref c
theorem Kd{K:Frag}(X:K.In h)(G:h.Ns mainGlobals mg)(t:tabIn K x=some (c,P)):LB K mg x:=⟨c,P,t,λ f fd oc od sl hm hl=>law_code X G t hm (X _ _ hl) rfl⟩
def O7(K:Frag)(x:Str)(cV:ζ):Prop:=∃c P,cV=.ref c/\tabIn K x=some (c,P)
theorem B2{K:Frag}(h:O7 K x cd)(hx:x∈dN):
  tj (iZ CX P w K mg base N x scope f cd A outer s H E).qJ x:=by
 obtain⟨c,p,e,t⟩:=h;exact⟨c,p,hx,t,e,rfl⟩
section
variable {K:W.Frag}
theorem Y'{st:ν}(F:Ii K x qual st f fd)(S:c6 N ps (aB st))
  (hb:∀ A outer s H E,d? k (A.deeper (envOfC qual (aB st) s.heap.objs.size f fd.code)) ->
   O9 (iZ oO P w K mg base N qual (aB st) f fd.code A outer s H E).qJ H (bB st) b):ki P w K mg base oO (k+1) f fd ps (xl K (Z.fn ps.length N.length b)):=by
 have ψ:∀vs H Q E,xl K (Z.fn ps.length N.length b) vs H Q E->vs.length=ps.length:=λ vs H Q E ⟨ds,d,t,e,_⟩=>by
  unfold Z.fn at e;split at e
  ·rename_i h;rw[t.length];exact h
  ·cases e
 obtain⟨oc,od,kV,doc,pm,an,cV,ct,zM,rfl,lk,tu⟩:=F.ex;refine Cj lk tu S ψ λ A outer s H vs Q E hr h=>?_;refine⟨_,tD.qJ (hb A outer s H E hr),?_⟩;have hl:=ψ vs H Q E h;obtain⟨ds,d,t,e,k⟩:=h;have iV:ps.length<=N.length:=by have:=A22 List.length S.pre;rw[A34]at this;lia
 have rs:RS K H H (L2.start N vs) (Z.start N.length ds):=md t (by lia);unfold Z.fn at e;split at e
 ·cases eb:b (Z.start N.length ds)with
  |bad=>rw[eb]at e;cases e
  |ok fl=>
   rw[eb]at e;refine⟨_,fl,rs,eb,?_⟩;cases fl with
   |rt d'=>cases e;exact λ v H' s' dv=>k v H' s' dv
   |nx ρ'=>cases e;exact λ σ' H' _ Io=>k .non H' Io.same oK
   |bk ρ'=>cases e
   |ct ρ'=>cases e
 ·cases e
theorem ZF{st:ν}(d:Def K mg x st ps)(S:c6 N ps (aB st))(L:LB K mg x)
  (hb:∀ f cV A outer s H E,O7 K x cV->d? k (A.deeper (envOfC x (aB st) s.heap.objs.size f cV)) ->
   O9 (iZ oO P w K mg base N x (aB st) f cV A outer s H E).qJ H (bB st) b):e6 P w K mg base x (k+1) ps (Z.fn ps.length N.length b):=by
 obtain⟨f,fd,F,hm,AU⟩:=d.ex;obtain⟨c,p,t,hc⟩:=L;have hfd:fd.code=.ref c:=by obtain⟨oc,od,kV,doc,pm,an,cV,ct,zM,e,lk,tu⟩:=F.ex;exact hc f fd _ _ _ hm lk
 exact⟨f,fd,Y' F S λ A outer s H E hr=>hb f _ A outer s H E ⟨c,p,hfd,t⟩ hr,hm,F.kp,AU⟩
end
end ZS
namespace ZQ
open PySem PySem.Spec PyProof.Rows L2 PySem.W ZS
section
theorem wW(hL:tj X nm)(n?:X.A.in1.depth<recursionLimit)(hg:Gl X x)(hm:X.mg x=none)(hv:bootBuiltins x=some (.builtin "max"))(ha:QW X a fa)
  (B:qF X.N N' 1 is scope X.env.scope) (Ir:N'[0]?=some y) (he:∀cl f c' s H,QE (AE X N' (jx nm) scope cl f c' s H) body fe)
  (lP:∀q cl pm c' qf u,bindArgs (kla_fn "<lambda>" q params body scope cl pm (.ref c') qf) ⟨[u],[]⟩=pure [(y,u)])
  (wx:defaultsOf params X.env=([],[]):=by rfl) (wu:scope.isGenerator=false:=by rfl) (G2:scope.isCoroutine=false:=by rfl)
  (hc:X.calm=true:=by rfl) (hn:x≠ "__name__":=by decide +kernel) (ji:Nd x:=by decide +kernel)
  (NS:Se a [] X.env:=by rfl) (Cb:backTo pos (starEach (a::[]) X.env)=(false,eval a X.env)::backTo pos (starEach [] X.env):=by rfl) (iV:(backTo pos (starEach (a::[]) X.env)).any (·.1)=false:=by rfl) :
  QE X (.Call (.Name x p1) [a] [⟨some (Str.ofString "key"),.Lambda params body scope lp,kp⟩,⟨some (Str.ofString "default"),.Constant .none jj cp,kp2⟩] pos) (Z.wQ true (.ok .non) fa is fe):=
 ⟨ZS.wW hL n? hg hm hv ha.p B Ir (λ cl f c' s H=>(he cl f c' s H).p) lP wx wu G2 hc hn ji NS Cb iV⟩
theorem wV(hL:tj X nm)(n?:X.A.in1.depth<recursionLimit)(hg:Gl X x)(hm:X.mg x=none)(hv:bootBuiltins x=some (.builtin "min"))(ha:QW X a fa)
  (B:qF X.N N' 1 is scope X.env.scope) (Ir:N'[0]?=some y) (he:∀cl f c' s H,QE (AE X N' (jx nm) scope cl f c' s H) body fe)
  (lP:∀q cl pm c' qf u,bindArgs (kla_fn "<lambda>" q params body scope cl pm (.ref c') qf) ⟨[u],[]⟩=pure [(y,u)])
  (wx:defaultsOf params X.env=([],[]):=by rfl) (wu:scope.isGenerator=false:=by rfl) (G2:scope.isCoroutine=false:=by rfl)
  (hc:X.calm=true:=by rfl) (hn:x≠ "__name__":=by decide +kernel) (ji:(x==("__debug__"))=false:=by decide +kernel)
  (NS:Se a [] X.env:=by rfl) (Cb:backTo pos (starEach (a::[]) X.env)=(false,eval a X.env)::backTo pos (starEach [] X.env):=by rfl) (iV:(backTo pos (starEach (a::[]) X.env)).any (·.1)=false:=by rfl) :
  QE X (.Call (.Name x p1) [a] [⟨some (Str.ofString "key"),.Lambda params body scope lp,kp⟩] pos) (Z.wQ false .bad fa is fe):=
 ⟨ZS.wV hL n? hg hm hv ha.p B Ir (λ cl f c' s H=>(he cl f c' s H).p) lP wx wu G2 hc hn ji NS Cb iV⟩
end
theorem Md{K:W.Frag}{st:ν}(d:ZS.Def K mg x st ps)(S:c6 N ps (aB st))(L:ZS.LB K mg x)
  (hb:∀ f cV A outer s H E,ZS.O7 K x cV->d? k (A.deeper (envOfC x (aB st) s.heap.objs.size f cV)) ->
   CH (iZ oO P w K mg base N x (aB st) f cV A outer s H E).qJ H (bB st) b):ZS.e6 P w K mg base x (k+1) ps (Z.fn ps.length N.length b):=
 ZS.ZF d S L λ f cV A outer s H E hl hr=>(hb f cV A outer s H E hl hr).p
end ZQ
namespace ZS
open PySem PySem.Spec PyProof.Rows L2 PySem.W
def bW(K:Frag)(n:Str)(st:ν):Prop:=∃(f:δ)(od an:ε δ)(sl:Array (ε ζ))(oc kV dc pm cd ct:ζ),nsIn K mainGlobals n=some (some (.ref f))/\K.lookup f=some ⟨oc,od,.func (fnOf n n (cQ st) (bB st) (aB st) .none kV dc pm an cd ct),sl⟩/\codeIn K cd n=true/\keepIn K (.ref f)=true
def lu(K:Frag)(n:Str)(st:ν):Prop:=∃(f t:δ)(od an td:ε δ)(sl ts:Array (ε ζ))(tn:Nat)(oc kV dc pm cd ct tc:ζ),nsIn K mainGlobals n=some (some (.ref f))/\K.lookup f=some ⟨oc,od,.func (fnOf n n (cQ st) (bB st) (aB st) (.ref t) kV dc pm an cd ct),sl⟩/\codeIn K cd n=true/\keepIn K (.ref f)=true/\K.lookup t=some ⟨tc,td,.seq #[.none] tn,ts⟩
def tm(K:Frag)(n:Str)(st:ν):Prop:=bW K n st/\∃c p,tabIn K n=some (c,p)
section
variable {K:Frag}{st:ν}
theorem bW.mk'{oc kV dc pm cd ct:ζ}(a:nsIn K mainGlobals n=some (some (.ref f)))(l:K.lookup f=some ⟨oc,od,.func (fnOf n n (cQ st) (bB st) (aB st) .none kV dc pm an cd ct),sl⟩)(c:codeIn K cd n=true)(k:keepIn K (.ref f)=true):bW K n st:=⟨f,od,an,sl,oc,kV,dc,pm,cd,ct,a,l,c,k⟩
theorem lu.mk'{oc kV dc pm cd ct tc:ζ}(a:nsIn K mainGlobals n=some (some (.ref f)))(l:K.lookup f=some ⟨oc,od,.func (fnOf n n (cQ st) (bB st) (aB st) (.ref t) kV dc pm an cd ct),sl⟩)(c:codeIn K cd n=true)(k:keepIn K (.ref f)=true)(q:K.lookup t=some ⟨tc,td,.seq #[.none] tn,ts⟩):lu K n st:=⟨f,t,od,an,td,sl,ts,tn,oc,kV,dc,pm,cd,ct,tc,a,l,c,k,q⟩
theorem tm.mk'{oc kV dc pm ct to:ζ}(a:nsIn K mainGlobals n=some (some (.ref f)))(l:K.lookup f=some ⟨oc,od,.func (fnOf n n (cQ st) (bB st) (aB st) .none kV dc pm an (.ref cc) ct),sl⟩)(c:codeIn K (.ref cc) n=true)(k:keepIn K (.ref f)=true)(tl:K.lookup cc=some ⟨to,td,.fields tv,ts⟩)(tp:tv[11]?=some (.ref pp)):tm K n st:=⟨⟨f,od,an,sl,oc,kV,dc,pm,_,ct,a,l,c,k⟩,cc,pp,rn a l rfl tl tp⟩
theorem bW.df(d:bW K n st)(X:K.In h)(G:h.Ns mainGlobals mg)(hb:∀kV doc pm an cV ct us,us.length=ps.length->bindArgs (fnOf n n (cQ st) (bB st) (aB st) .none kV doc pm an cV ct) ⟨us,[]⟩=pure (ps.zip us)):Def K mg n st ps:=by obtain⟨f,od,an,sl,oc,kV,dc,pm,cd,ct,a,l,c,k⟩:=d;have F:=G9 l c k;exact⟨f,_,F,mg_of X G a,F.binds hb⟩
theorem lu.df(d:lu K n st)(X:K.In h)(G:h.Ns mainGlobals mg)
  (h1:∀t kV doc pm an cV ct us,us.length=ps.length->∃kk,bindArgs (fnOf n n (cQ st) (bB st) (aB st) (.ref t) kV doc pm an cV ct) ⟨us,[]⟩=seqItems? (.ref t)>>=kk/\kk (some #[.none])=pure (ps.zip us))
  (h2:∀t kV doc pm an cV ct us,us.length+1=ps.length->∃kk,bindArgs (fnOf n n (cQ st) (bB st) (aB st) (.ref t) kV doc pm an cV ct) ⟨us,[]⟩=seqItems? (.ref t)>>=kk/\kk (some #[.none])=pure (ps.zip (us++[.none]))):LG K mg n st ps:=by
 obtain⟨f,t,od,an,td,sl,ts,tn,oc,kV,dc,pm,cd,ct,tc,a,l,c,k,q⟩:=d;exact K' l c k q (mg_of X G a) (h1 t kV dc pm an cd ct) (h2 t kV dc pm an cd ct)
theorem bW.law(d:bW K n st)(X:K.In h)(G:h.Ns mainGlobals mg)(D?:mg n=some (.ref fa))(hb:∀kV doc pm an cV ct s v,BindsTo s (fnOf n n (cQ st) (bB st) (aB st) .none kV doc pm an cV ct) ⟨[v],[]⟩ [(x,v)]):∃fd,(∀s v,BindsTo s fd ⟨[v],[]⟩ [(x,v)])/\Ii K n n st fa fd:=by obtain⟨f,od,an,sl,oc,kV,dc,pm,cd,ct,a,l,c,k⟩:=d;have e:=D?.symm.trans (mg_of X G a);cases e;exact⟨_,hb kV dc pm an cd ct,G9 l c k⟩
theorem tm.lam(d:tm K n st)(X:K.In h)(G:h.Ns mainGlobals mg):LB K mg n:=let ⟨c,p,t⟩:=d.2;Kd X G t
end
end ZS
namespace ZQ
open PySem PySem.Spec L2
def R0(sc:ς)(x:Str):Bool:=match sc.names.lookup x with
 |some .local=>true
 |some .cell=>true
 |_=>false
theorem lo(h:R0 sc x=true):Loc sc x:=by
 unfold R0 at h;split at h
 ·rename_i e;exact .inl e
 ·rename_i e;exact .inr e
 ·cases h
end ZQ
namespace ZS
open PySem PySem.Spec PyProof.Rows L2
section
open PySem.SeqAt
open PySem.AutoSeq1 (wpAny_loadPart')
open PySem.MeetsSeq PySem.MeetsSeq2 PySem.MeetsSeq3
end
section
open PySem.SeqAt
open PySem.AutoSeq1 (wpAny_loadPart')
open PySem.MeetsSeq PySem.MeetsSeq2 PySem.MeetsSeq3
end
section
variable {X:Cx}
end
end ZS
namespace Z
end Z
namespace ZS
open PySem PySem.Spec PyProof.Rows L2 PySem.W
structure KL0(X:Cx)(χ:List (Addr×Obj))(σ:St)(H:Hp)(l I S:Addr)(s:Shared)(j:Nat)(db:Z.D):Prop where
 inv:Inv X χ σ H s
 it:s.heap.IsListIter I l j
 yv:Off X χ H I
 n0:Off X χ H S
 best:∃b v c,Den X.K H db v/\RelV v b/\s.heap.get? S=some (held b b c)
section
end
section
end
end ZS
namespace ZQ
open PySem PySem.Spec PyProof.Rows L2 ZS
section
end
end ZQ
noncomputable section
namespace Z
end Z
end
namespace ZS
open PySem PySem.Spec PyProof.Rows L2 PySem.W
section
open PySem.SeqAt
open PySem.AutoSeq1 (wpAny_loadPart')
open PySem.MeetsSeq PySem.MeetsSeq2 PySem.MeetsSeq3
end
section
end
structure KLd(X:Cx)(χ:List (Addr×Obj))(σ:St)(H₀:Hp)(l I S:Addr)(H:Hp)(s:Shared)(j:Nat)(db kb:Z.D):Prop where
 inv:Inv X χ σ H s
 sm:aH H₀ H
 it:s.heap.IsListIter I l j
 yv:Off X χ H I
 n0:Off X χ H S
 best:∃b v t tv c,Den X.K H db v/\RelV v b/\Den X.K H kb tv/\RelV tv t/\s.heap.get? S=some (held b t c)
section
end
section
variable {X:Cx}{a:θ}{fa:Z.EF}{pos:Pos}
end
end ZS
namespace ZQ
open PySem PySem.Spec PyProof.Rows L2 ZS
section
end
end ZQ
namespace ZS
open PySem PySem.Spec PyProof.Rows L2
structure Up(N':List Str)(n:Nat)(sc:Scope):Prop where
 kind:sc.kind=.function
 Gd:∀y∈sc.names,y.2≠.free
 loc:∀y∈sc.names,y.2=.local->sc.names.lookup y.1=some .local
 len:N'.length=n
section
variable {X:Cx}{tg e a b elt iter:θ}{ifs:γ θ}{pos:Pos}{N':γ Str}{n:Nat}{scope:ς}
end
def HU(N':γ Str)(n:Nat)(sc:ς):Bool:=
 (sc.kind==.function)&&sc.names.all (λ y=>y.2 != .free)&&sc.names.all (λ y=>y.2 != .local||sc.names.lookup y.1==some .local)&&(N'.length==n)
theorem Up.of(h:HU N' n sc=true):Up N' n sc:=by
 unfold HU at h;simp only[A40,A27,A74,B85,B51]at h;obtain⟨⟨⟨h1,h2⟩,h3⟩,h4⟩:=h;refine⟨h1,h2,λ y hy e=>?_,h4⟩;rcases h3 y hy with q|q
 ·exact absurd e q
 ·exact q
end ZS
namespace ZQ
open PySem PySem.Spec PyProof.Rows L2 ZS
end ZQ
namespace ZS
open PySem PySem.Spec PyProof.Rows L2
section
end
end ZS
namespace ZQ
open PySem PySem.Spec PyProof.Rows L2 ZS
end ZQ
noncomputable section
namespace Z
abbrev XN:=γ Nat×γ (γ Nat×D)
abbrev XF:=Env->ε XN
def fx(ps n:Nat)(b:XF)(ds:γ D):ε XN:=if ds.length=ps then b (start n ds)else none
end Z
end
namespace ZS
open PySem PySem.Spec PyProof.Rows L2 PySem.W
theorem F3(x:gQ P w H h a o):∃ob,h.get? a=some ob:=by
 cases o with
 |lst xs=>obtain⟨_,_,_,_,e⟩:=x;exact⟨_,e⟩
 |tup xs=>obtain⟨_,_,_,tn⟩:=x;obtain⟨ob,e,_⟩:=tn.is;exact⟨_,e⟩
 |dK kvs=>obtain⟨_,_,_,_,o,_,_,e,_⟩:=x;exact⟨_,e⟩
 |dT kvs=>obtain⟨_,_,_,_,o,_,_,e,_⟩:=x;exact⟨_,e⟩
 |set S n=>obtain⟨o,_,_,_,e,_⟩:=x;exact⟨_,e⟩
 |ins C dx fs=>obtain⟨_,_,_,e,_⟩:=x;exact⟨_,e⟩
 |own y=>obtain⟨_,e⟩:=x;exact⟨_,e⟩
 |xd fs=>obtain⟨_,⟨_,_,_,e,_⟩,_⟩:=x;exact⟨_,e⟩
 |UZ lo hi=>obtain⟨_,_,_,e⟩:=x;exact⟨_,e⟩
 |fM ob u=>obtain⟨e,_⟩:=x;exact⟨_,e⟩
 |E9 q=>obtain⟨_,e,_⟩:=x;exact⟨_,e⟩
 |IE q=>obtain⟨_,_,_,_,e1,e2,_⟩:=x;cases e1;exact⟨_,e2⟩
 |met f y=>exact⟨_,(x)⟩
 |ext φ=>obtain⟨_,⟨_,e⟩,_⟩:=x;exact⟨_,e⟩
section
variable {X:Cx}{χ:γ (δ×ι)}{σ:St}{H H':Hp}{s:η}{h':μ}
theorem Qr{ch:γ δ}(I:Inv X χ σ H s)
  (xp:∀b∈ch,X.s₀.heap.get? b=none/\b≠X.env.locals/\(∀x c,X.env.cells.lookup x=some c->c≠b)/\∀p∈X.pn++χ,p.1≠b)
  (keep:∀b o,b≠X.env.locals->b∉X.fs->b∉ch->s.heap.get? b=some o->H b=none->h'.get? b=some o)
  (slot:∀b o,b≠X.env.locals->b∈X.fs->b∉ch->s.heap.get? b=some o->H b=none->∃sl,h'.get? b=some {o with slots:=sl}) (free:∀b o,b∉ch->s.heap.get? b=some o->H b=none->H' b=none)
  (there:∀b o,b∉ch->s.heap.get? b=some o->∃o',h'.get? b=some o')
  (qj:∀b xs,H b=some (.tup xs)->H' b=some (.tup xs)) (pz:∀b o u,H b=some (.fM o u)->H' b=some (.fM o u)) (mT:∀b u,P6 u->H b=some u->H' b=some u)
  (ns:∀m,s.heap.Ns X.env.locals m->h'.Ns X.env.locals m) (cC:l8 X.prog X.w H' h') (hg:AllBare g') :
  Inv X χ σ H' {s with heap:=h',gens:=g',drawn:=d',toks:=t'}:=by
 have RK:∀b o,X.s₀.heap.get? b=some o->b≠X.env.locals:=λ b o e=>A10 (A17 (A00 e) I.ok.above);have Gf:∀b o,X.s₀.heap.get? b=some o->b∉ch:=λ b o e hb=>by rw[(xp b hb).1]at e;cases e
 have cellK:∀x c,X.env.cells.lookup x=some c->∀v,s.heap.IsCell c v->h'.IsCell c v:=λ x c e v ⟨o,ho,hd⟩=>by
  have yD:=λ z=>(xp c z).2.2.1 x c e rfl;by_cases hc:c∈X.fs
  ·obtain⟨sl,q⟩:=slot c o (I.Lk x c e) hc yD ho (I.jE x c e);exact⟨_,q,hd⟩
  ·exact⟨o,keep c o (I.Lk x c e) hc yD ho (I.jE x c e),hd⟩
 refine⟨I.ok,I.os,hg,⟨λ b o e n hb hx=>?_,λ b o e n hb hx=>?_,λ b o e n hx=>?_,λ b o e hx=>?_,λ b xs e=>qj b xs (I.base.qj b xs e),λ b o xs e=>pz b o xs (I.base.pz b o xs e),λ b u p e=>mT b u p (I.base.mT b u p e)⟩,?_,λ x c e=>?_,?_,λ x c e=>?_,λ p hp=>?_,cC,I.len,I.tab.up mT⟩
 ·exact keep b o (RK b o e) hb (Gf b o e) (I.base.keep b o e n hb hx) (I.base.free b o e n hx)
 ·obtain⟨sl,e1⟩:=I.base.slot b o e n hb hx;obtain⟨WJ,e2⟩:=slot b _ (RK b o e) hb (Gf b o e) e1 (I.base.free b o e n hx);exact⟨WJ,e2⟩
 ·obtain⟨o',e1⟩:=I.base.there b o e hx;exact free b o' (Gf b o e) e1 (I.base.free b o e n hx)
 ·obtain⟨o',e1⟩:=I.base.there b o e hx;exact there b o' (Gf b o e) e1
 ·obtain⟨m,hn,hl⟩:=I.loc;refine⟨m,ns m hn,λ i x v e1 e2 e3=>?_⟩;obtain⟨u,r,l⟩:=hl i x v e1 e2 e3;refine⟨u,r,?_⟩;rcases l with l|⟨k,c,e,z⟩
  ·exact .inl l
  ·exact .inr ⟨k,c,e,cellK x c e _ z⟩
 ·obtain⟨v,z⟩:=I.cell x c e;exact⟨v,cellK x c e v z⟩
 ·obtain⟨m,⟨o,_,_,ho,_⟩,_⟩:=I.loc;exact free _ o (λ z=>(xp _ z).2.1 rfl) ho I.free
 ·obtain⟨v,o,ho,hd⟩:=I.cell x c e;exact free c o (λ z=>(xp c z).2.2.1 x c e rfl) ho (I.jE x c e)
 ·obtain⟨e,n,ne,nf,d⟩:=I.pin p hp;have yD:=λ z=>(xp p.1 z).2.2.2 p hp rfl;exact⟨keep p.1 p.2 ne nf yD e n,free p.1 p.2 yD e n,ne,nf,d⟩
structure nF(X:Cx)(χ:List (Addr×Obj))(H:Hp)(s:Shared)(a:Addr):Prop where
 free:H a=none
 new:X.s₀.heap.get? a=none
 pin:∀p∈X.pn++χ,p.1≠a
 X1:∃o vs,s.heap.get? a=some o/\o.data=.fields vs
theorem nF.loc(o:nF X χ H s a)(I:Inv X χ σ H s):a≠X.env.locals:=λ z=>by obtain⟨ob,vs,e,d⟩:=o.X1;obtain⟨m,⟨o',es,ep,mM,pq,_⟩,_⟩:=I.loc;rw[z,mM]at e;cases e;rw[pq]at d;cases d
theorem nF.cell(o:nF X χ H s a)(I:Inv X χ σ H s)(x:Str)(c:δ)(hc:X.env.cells.lookup x=some c):c≠a:=λ z=>by obtain⟨ob,vs,e,d⟩:=o.X1;obtain⟨v,o',mM,pq⟩:=I.cell x c hc;rw[z,e]at mM;cases mM;rw[d]at pq;cases pq
theorem nF.Jb(o:nF X χ H s a)(I:Inv X χ σ H s):a∉qN X.stack:=λ z=>by obtain⟨ob,vs,e,d⟩:=o.X1;obtain⟨_,o',mM,pq⟩:=I.stack.mem z;rw[e]at mM;cases mM;exact pq vs d
theorem absent(I:Inv X χ σ H s)(h:s.heap.get? a=none):H a=none/\X.s₀.heap.get? a=none\/a∈X.ex:=by
 by_cases hx:a∈X.ex
 ·exact .inr hx
 ·refine .inl ⟨?_,?_⟩
  ·cases e:H a with
   |none=>rfl
   |some u=>obtain⟨ob,q⟩:=F3 (I.cC a u e);rw[h]at q;cases q
  ·cases e:X.s₀.heap.get? a with
   |none=>rfl
   |some o=>obtain⟨o',q⟩:=I.base.there a o e hx;rw[h]at q;cases q
theorem Inv.snap(I:Inv X χ σ H s)(off:∀a∈l,nF X χ H s a)(k1:(hideAll s.heap (qN X.stack++l)).StaysIn h')
  (k4:∀b o,s.heap.get? b=some o->(∀vs,o.data≠.fields vs)->∃sl,h'.get? b=some {o with slots:=sl}):Inv X χ σ H {s with heap:=h',toks:=t'}:=by
 have Vr:=λ b o n1 n2 e=>k1 b o (hideAll_get _ e (λ z=>(A25.mp z).elim n1 n2));have My:∀b u,H b=some u->b∉qN _/\b∉l:=λ b u e=>⟨λ z=>(by rw[I.qG b z]at e;cases e),λ z=>(by rw[(off b z).free]at e;cases e)⟩
 refine Qr I (λ b hb=>⟨(off b hb).new,(off b hb).loc I,(off b hb).cell I,(off b hb).pin⟩) (λ b o hL hf hc e n=>Vr b o (λ z=>(v6.mp (I.oZ b z)).elim hL hf) hc e) (λ b o hL hf hc e n=>?_) (λ _ _ _ _ n=>n) (λ b o hc e=>?_) (λ _ _ e=>e) (λ _ _ _ e=>e) (λ _ _ _ e=>e) (λ m hm=>?_) (λ b u e=>?_) I.bare
 ·obtain⟨_,o',mM,pq⟩:=I.og.mem hf;rw[e]at mM;cases mM;exact k4 b o e pq
 ·by_cases hz:b∈qN X.stack
  ·obtain⟨_,o',mM,pq⟩:=I.stack.mem hz;rw[e]at mM;cases mM;obtain⟨sl,q⟩:=k4 b o e pq;exact⟨_,q⟩
  ·exact⟨o,Vr b o hz hc e⟩
 ·obtain⟨o,es,ep,ho,hd,r⟩:=hm;obtain⟨sl,q⟩:=k4 _ o ho (λ vs z=>by rw[hd]at z;cases z);exact⟨_,es,ep,q,hd,r⟩
 ·refine(I.cC b u e).qq (λ c v hc q=>?_) (λ _ q=>q) (λ _ _ q=>q) λ _ _ _ q=>q;rcases hc with rfl|hc
  ·exact Vr c v (My c u e).1 (My c u e).2 q
  ·exact Vr c v (My c _ hc).1 (My c _ hc).2 q
theorem x_(hex:X.ex=[])(I:Inv X χ σ H s)(off:∀a∈l,nF X χ H s a)(k2:h'.FunFrames (hideAll s.heap (qN X.stack++l)) X.stack)
  (hT:(hideAll s.heap (qN X.stack++l)).get? T=none) (YV:h'.get? T=some oT) (hd:oT.data=.fields ts):H T=none/\X.s₀.heap.get? T=none/\∀p∈X.pn++χ,p.1≠T:=by
 have nst:T∉qN _:=λ z=>by obtain⟨_,o',mM,pq⟩:=k2.mem z;rw[YV]at mM;cases mM;exact pq ts hd
 by_cases hl:T∈l
 ·exact⟨(off T hl).free,(off T hl).new,(off T hl).pin⟩
 ·have hn:s.heap.get? T=none:=by
   cases e:s.heap.get? T with
   |none=>rfl
   |some o=>rw[hideAll_get _ e (λ z=>(A25.mp z).elim nst hl)]at hT;cases hT
  rcases absent I hn with z|z
  ·exact⟨z.1,z.2,λ p hp q=>by rw[<-q,(I.pin p hp).1]at hn;cases hn⟩
  ·rw[hex]at z;cases z
end
theorem Hj{rest:γ PySem.Env}
  (fr:A.frames=some (env::rest)) (ff:s.heap.FunFrames ground (env::rest)) (el:env.frame=some L) (ge:s.heap.get? e=some oe) (st:ground.StaysIn s.heap) (ne:ground.get? e=none) (de:oe.data=.fields fl) (sz:1<fl.size)
  (k:∀ h' T oT ts,ground.StaysIn h'->h'.FunFrames ground (env::rest)->h'.get? e=some (oe.mapFields (·.setIfInBounds 1 (.ref T)))->ground.get? T=none->T≠e->h'.get? T=some oT->oT.data=.fields ts->3<ts.size ->
   (∀b o,s.heap.get? b=some o->(∀vs,o.data≠.fields vs)->∃sl,h'.get? b=some {o with slots:=sl})->Q () {s with heap:=h'}) :
  wpAny M A (do let a ←frameOf env;let pl ←entryPlaceOf L nx;let b ←EntryCells.newEntry _8 a .none (rawInt L) .none pl;setField (.ref e) 1 b) Q E s:=by
 have out:e∉(env::rest).filterMap (·.frame):=λ z=>by obtain⟨_,o,go,no⟩:=ff.mem z;rw[ge]at go;cases go;exact no fl de
 refine T0 (wpAny_frameOf_fun fr ff el λ h1 so=>T0 (wpAny_entryPlaceOf λ pl ip=>?_));unfold EntryCells.newEntry newFields;refine T0 (A55 ?_ (ip.sizeOk5 _ _ _ _ _));generalize Yp:({cls:=.type "traceback",dict:=none,data:=.fields ([_8,.ref L,.none,rawInt L,.none]++(if pl.isEmpty then List.replicate 6 Value.none else pl)).toArray}:ι)=new;have Tx:new.data=.fields ([_8,.ref L,.none,rawInt L,.none]++(if pl.isEmpty then List.replicate 6 Value.none else pl)).toArray:=by rw[<-Yp]
 have ge1:=(so.2.1 e out).trans ge;have tP:ground.StaysIn h1:=λ b o q=>(so.2.1 b λ z=>by rw[(ff.mem z).1]at q;cases q).trans (st b o q);have ge2:=W1 (h:=h1) new ge1;refine B53 ge2 de sz ?_;have Te:=A48 (A00 ge1);have d3:=A75 de (·.setIfInBounds 1 (Value.ref h1.objs.size));have ge3:=A66 (Obj.mapFields (·.setIfInBounds 1 (Value.ref h1.objs.size))) ge2 (B54 d3);have gT:=(A41 (h1.push new) (Obj.mapFields (·.setIfInBounds 1 (Value.ref h1.objs.size))) (A06 Te)).trans (A11 h1 (B54 Tx));have hold:∀b o,b≠e->h1.get? b=some o->((h1.push new).update e (Obj.mapFields (·.setIfInBounds 1 (Value.ref h1.objs.size)))).get? b=some o:=λ b o n q=>by rw[A41 _ _ (A06 n)];exact W1 _ q
 have apart:∀b o,s.heap.get? b=some o->(∀vs,o.data≠.fields vs)->b≠e:=λ b o q n z=>by rw[z,ge]at q;cases q;exact n fl de
 refine k _ h1.objs.size new _ (λ b o q=>hold b o (λ z=>by rw[z,ne]at q;cases q) (tP b o q)) (ff.of_keeps λ b o q n=>?_) ge3 tP.fresh Te gT Tx (by simp only[A07,A23,A36,A81];lia) λ b o q n=>?_
 ·obtain⟨sl,z⟩:=so.2.2 b o q;exact⟨_,hold b _ (apart b o q n) z,rfl⟩
 ·obtain⟨sl,z⟩:=so.2.2 b o q;exact⟨sl,hold b _ (apart b o q n) z⟩
theorem lK(o:ι)(f:Array ζ->Array ζ):(o.mapFields f).dict=o.dict:=by obtain⟨_,_,d,_⟩:=o;cases d<;>rfl
structure V!(X:Cx)(χ:List (Addr×Obj))(H:Hp)(s:Shared)(e C:Addr)(dd:Option Addr):Prop where
 off:nF X χ H s e
 ex:∃oe vs,s.heap.get? e=some oe/\oe.cls=.ref C/\oe.dict=dd/\oe.data=.fields vs/\(vs[1]?=some .none\/∃T oT ts,vs[1]?=some (.ref T)/\T≠e/\nF X χ H s T/\s.heap.get? T=some oT/\oT.data=.fields ts/\ts[3]?=some .none)
def Z1(h0:μ)(H':Hp)(h':μ)(e C:δ)(dd:ε δ):Prop:=h0.get? e=none/\H' e=none/\∃oe vs T oT ts,h'.get? e=some oe/\oe.cls=.ref C/\oe.dict=dd/\oe.data=.fields vs/\vs[1]?=some (.ref T)/\T≠e/\H' T=none/\h0.get? T=none/\h'.get? T=some oT/\oT.data=.fields ts/\ts[3]?=some .none
def LH(P:ο)(w:ξ):O':=λ outer H s E ev s'=>∃e C dd H',ev=.ref e/\s'.os=s.os/\AllBare s'.gens/\Un (qN outer) [] H H' s.heap s'.heap/\l8 P w H' s'.heap/\Z1 s.heap H' s'.heap e C dd/\E (.ref C) dd H'
theorem Fg:∀env∈l,∀a,env.frame=some a->a∈qN l++as:=λ env he a ha=>B15 _ (B73.mpr ⟨env,he,ha⟩)
section
variable {X:Cx}{χ:γ (δ×ι)}{σ:St}{H:Hp}{s:η}
structure Z9(X:Cx)(χ:List (Addr×Obj))(σ:St)(H:Hp)(s:Shared)(e C:Addr)(dd:Option Addr)(lands:Bool):Prop where
 inv:Inv X χ σ H s
 off:nF X χ H s e
 ex:∃oe vs T oT ts,s.heap.get? e=some oe/\oe.cls=.ref C/\oe.dict=dd/\oe.data=.fields vs/\vs[1]?=some (.ref T)/\T≠e/\nF X χ H s T/\s.heap.get? T=some oT/\oT.data=.fields ts/\3<ts.size/\(lands=true->ts[3]?=some .none)
theorem F_(hex:X.ex=[])(Iu:X.stack=X.env::X.outer)(Iz:X.env.frame=some X.env.locals)(I:Inv X χ σ H s)(t:V! X χ H s e C dd)
  (k:∀s',Z9 X χ σ H s' e C dd false->Q () s'):wpAny M X.A (noteFrame (.ref e) X.env) Q E s:=by
 obtain⟨oe,vs,he,uS,VO,hd,h1⟩:=t.ex;have _6:X.A.frames=some (X.env::X.outer):=by rw[<-Iu];exact I.ok.frames
 have Jb:=I.stack;rw[Iu]at Jb;unfold noteFrame;simp only[Iz];rcases h1 with h1|⟨T,oT,ts,h1,VR,JT,gT,dT,h3⟩
 ·have off:∀a∈[e],nF X χ H s a:=λ a ha=>by rw[A13.mp ha];exact t.off
  refine T0 (A32 he hd h1 ?_);rw[f8 (by decide)];refine Hj _6 (funFrames_hide Jb Fg) Iz he (λ b o=>of_hideAll _) (B61 _ (A39 _ (A13.mpr rfl))) hd (B36.mp h1).1 λ h' T' JT O! k1 k2 g1 g2 g3 g4 g5 g6 k4=>k _ ?_;rw[<-Iu]at k1 k2 g2;have J:=Inv.snap (t':=s.toks) I off k1 k4;obtain⟨n1,n2,n3⟩:=x_ hex I off k2 g2 g4 g5;have sz:=(B36.mp h1).1;exact⟨J,⟨t.off.free,t.off.new,t.off.pin,_,_,g1,A75 hd _⟩,_,_,T',JT,O!,g1,(B92 _ _).trans uS,(lK _ _).trans VO,A75 hd _,by simp[sz],g3,⟨n1,n2,n3,JT,O!,g4,g5⟩,g4,g5,g6,λ z=>nomatch z⟩
 ·have off:∀a∈[e,T],nF X χ H s a:=λ a ha=>by
   rcases v6.mp ha with rfl|ha
   ·exact t.off
   ·rw[A13.mp ha];exact JT
  refine T0 (A32 he hd h1 ?_);rw[M2 (by simp)];refine T0 (A32 gT dT h3 ?_);rw[f8 (by simp[rawInt])];refine T0 (B53 gT dT (B36.mp h3).1 ?_);have other:∀b,b≠T->(s.heap.update T (Obj.mapFields (·.setIfInBounds 3 Value.none))).get? b=s.heap.get? b:=λ b hb=>A41 _ _ (A06 hb);have apart:∀b o,s.heap.get? b=some o->(∀vs,o.data≠.fields vs)->b≠T:=λ b o q n z=>by rw[z,gT]at q;cases q;exact n ts dT
  have inT:T∈qN (X.env::X.outer)++[e,T]:=A39 _ (by simp);refine Hj _6 ((funFrames_hide Jb Fg).of_keeps λ b o q n=>⟨o,(other b (apart b o q n)).trans q,rfl⟩) Iz ((other e (A06 VR)).trans he)
   (λ b o q=>(other b (λ z=>by rw[z,B61 _ inT]at q;cases q)).trans (of_hideAll _ q)) (B61 _ (A39 _ (by simp))) hd (B36.mp h1).1 λ h' T' _x O! k1 k2 g1 g2 g3 g4 g5 g6 k4=>k _ ?_
  rw[<-Iu]at k1 k2 g2;have J:=Inv.snap (t':=s.toks) I off k1 λ b o q n=>k4 b o ((other b (apart b o q n)).trans q) n;obtain⟨n1,n2,n3⟩:=x_ hex I off k2 g2 g4 g5;have sz:=(B36.mp h1).1;exact⟨J,⟨t.off.free,t.off.new,t.off.pin,_,_,g1,A75 hd _⟩,_,_,T',_x,O!,g1,(B92 _ _).trans uS,(lK _ _).trans VO,A75 hd _,by simp[sz],g3,⟨n1,n2,n3,_x,O!,g4,g5⟩,g4,g5,g6,λ z=>nomatch z⟩
theorem land(c:Z9 X χ σ H s e C dd l)(k:∀s',Z9 X χ σ H s' e C dd true->Q () s'):wpAny M A (setFlight (.ref e) none) Q E s:=by
 obtain⟨oe,vs,T,oT,ts,he,uS,VO,hd,h1,VR,JT,gT,dT,h3,_⟩:=c.ex;refine wpAny_setFlight_none he hd h1 gT dT h3 (k _ ?_);have other:∀b o,b≠T->s.heap.get? b=some o->(s.heap.update T (Obj.mapFields (·.setIfInBounds 3 .none))).get? b=some o:=λ b o hb q=>(A41 _ _ (A06 hb)).trans q;have gT2:=A66 (Obj.mapFields (·.setIfInBounds 3 Value.none)) gT (B54 (A75 dT _));have off:∀a∈[T],nF X χ H s a:=λ a ha=>by rw[A13.mp ha];exact JT
 have J:=Inv.snap (t':=s.toks) c.inv off (λ b o q=>by
   by_cases hb:b=T
   ·rw[hb,B61 _ (A39 _ (A13.mpr rfl))]at q;cases q
   ·exact other b o hb (of_hideAll _ q)) (λ b o q n=>⟨_,other b o (λ z=>by rw[z,gT]at q;cases q;exact n ts dT) q⟩)
 have PN:=other e oe (A06 VR) he;exact⟨J,⟨c.off.free,c.off.new,c.off.pin,oe,vs,PN,hd⟩,oe,vs,T,_,_,PN,uS,VO,hd,h1,VR,⟨JT.free,JT.new,JT.pin,_,_,gT2,A75 dT _⟩,gT2,A75 dT _,by simpa using h3,λ _=>by simp[h3]⟩
end
theorem DM{K:W.Frag}
  (I:Inv (iZ (LH P w) P w K mg base N qual scope f cd A outer s0 H0 E) χ σ H s) (t:V! (iZ (LH P w) P w K mg base N qual scope f cd A outer s0 H0 E) χ H s e C dd) (hE:E (.ref C) dd H) :
  (iZ (LH P w) P w K mg base N qual scope f cd A outer s0 H0 E).xe (.ref e) s:=by
 show wpAny _ (iZ (LH P w) P w K mg base N qual scope f cd A outer s0 H0 E).A _ (λ _ Pb=>LH P w outer H0 s0 E _ Pb) _ s;refine T0 (F_ rfl rfl rfl I t λ s1 c1=>land c1 λ s2 c2=>?_);obtain⟨oe,vs,T,oT,ts,q1,q2,qd,q3,q4,q5,q6,q7,q8,q9,q10⟩:=c2.ex;exact⟨e,C,dd,H,rfl,c2.inv.os,c2.inv.bare,c2.inv.base,c2.inv.cC,⟨c2.off.new,c2.off.free,oe,vs,T,oT,ts,q1,q2,qd,q3,q4,q5,q6.free,q6.new,q7,q8,q10 rfl⟩,hE⟩
section
theorem PW.qJ(h:PW X.qJ e t):PW X e t:=λ whole χ s σ H Q I hw=>A26 (h whole χ s σ H Q (I.wish _) hw) (λ _ _ ⟨H',I',q⟩=>⟨H',I'.ja,q⟩) λ _ _ z=>False.elim z
theorem PA.qJ(h:PA X.qJ es t):PA X es t:=λ pos χ s σ H Q I hw=>A26 (h pos χ s σ H Q (I.wish _) hw) (λ _ _ ⟨vs,H',I',r,q⟩=>⟨vs,H',I'.ja,r,q⟩) λ _ _ z=>False.elim z
theorem PS.qJ{st:ν}(h:PS X.qJ st t):PS X st t:=λ χ s σ H D I hw=>A26 (h χ s σ H D (I.wish _) hw) (λ _ _ q=>q.ja) λ _ _ z=>False.elim z
def V'(X:Cx)(σ:St)(H:Hp)(c:Z.XN):Prop:=∀χ H' s e C dd,aH H H'->Bn X.K H' c C dd->Inv X χ σ H' s->V! X χ H' s e C dd->X.xe (.ref e) s
def Xw(X:Cx)(H0:Hp)(c:Z.XN):Prop:=∀χ σ H' s e C dd,aH H0 H'->Bn X.K H' c C dd->Inv X χ σ H' s->V! X χ H' s e C dd->X.xe (.ref e) s
theorem V'.up(h:V' X σ H c)(e:aH H H'):V' X σ H' c:=λ χ H2 s a C dd sm=>h χ H2 s a C dd (e.trans sm)
def xR(X:Cx)(f:Z.XF)(σ:St)(H:Hp):Prop:=∃ρ c,RE X.K H σ ρ/\f ρ=some c/\V' X σ H c
abbrev XE(X:Cx)(e:θ)(f:Z.XF):Prop:=PE X e (λ σ H _=>xR X f σ H)
structure _root_.ZQ.QXE(X:Cx)(e:Expr)(f:Z.XF):Prop where p:XE X e f
abbrev XA(X:Cx)(es:γ θ)(f:Z.XF):Prop:=PA X es (λ σ H _=>xR X f σ H)
structure _root_.ZQ.QXA(X:Cx)(es:List Expr)(f:Z.XF):Prop where p:XA X es f
abbrev XT(X:Cx)(e:θ)(f:Z.XF):Prop:=PT X e (λ σ H _=>xR X f σ H)
structure _root_.ZQ.QXT(X:Cx)(e:Expr)(f:Z.XF):Prop where p:XT X e f
abbrev XR(X:Cx)(st:ν)(f:Z.XF):Prop:=PS X st (λ _ σ H=>xR X f σ H)
structure _root_.ZQ.QXR(X:Cx)(st:Stmt)(f:Z.XF):Prop where p:XR X st f
abbrev XRs(X:Cx)(C6:γ ν)(f:Z.XF):Prop:=tD X C6 (λ _ σ H=>xR X f σ H)
structure _root_.ZQ.adz(X:Cx)(C6:List Stmt)(f:Z.XF):Prop where p:XRs X C6 f
def xS(X:Cx)(H0:Hp)(f:Z.XF)(σ:St)(H:Hp):Prop:=∃ρ c,RS X.K H0 H σ ρ/\f ρ=some c/\Xw X H0 c
abbrev XS(X:Cx)(H0:Hp)(st:ν)(f:Z.XF):Prop:=PS X st (λ _ σ H=>xS X H0 f σ H)
structure _root_.ZQ.QXS(X:Cx)(H0:Hp)(st:Stmt)(f:Z.XF):Prop where p:XS X H0 st f
abbrev ZU(X:Cx)(H0:Hp)(C6:γ ν)(f:Z.XF):Prop:=tD X C6 (λ _ σ H=>xS X H0 f σ H)
structure _root_.ZQ.ady(X:Cx)(H0:Hp)(C6:List Stmt)(f:Z.XF):Prop where p:ZU X H0 C6 f
theorem xS.r(h:xS X H0 f σ H):xR X f σ H:=by obtain⟨ρ,c,rs,e,k⟩:=h;exact⟨ρ,c,rs.re,e,λ χ H' s a C dd sm=>k χ σ H' s a C dd (rs.same.trans sm)⟩
end
def WE(K:W.Frag)(m:γ Z.D->ε Z.XN):Sp:=λ vs H _ E=>∃ds c,aE K H ds vs/\m ds=some c/\∀C dd H',aH H H'->Bn K H' c C dd->E (.ref C) dd H'
structure Uk(P:Program)(w:World)(K:W.Frag)(mg:Str->Option Value)(base:Heap)(x:Str)(k:Nat)(ps:List Str)(m:List Z.D->Option Z.XN):Prop where
 ex:∃g fd,ki P w K mg base (LH P w) k g fd ps (WE K m)/\mg x=some (.ref g)/\PySem.W.keepIn K (.ref g)=true/\Binds K fd ps []
section
section
variable {st:ν}
end
end
section
variable {K:W.Frag}
theorem fnX{st:ν}{dV kV doc pm cV ct oc:ζ}
  (lk:K.lookup f=some ⟨oc,od,.func (PySem.W.fnOf name qual (cQ st) (bB st) (aB st) dV kV doc pm an cV ct),zM⟩) (tu:PySem.W.codeIn K cV qual=true) (S:c6 N ps (aB st))
  (hb:∀ A outer s H E,d? k (A.deeper (envOfC qual (aB st) s.heap.objs.size f cV)) ->
   ZU (iZ (LH P w) P w K mg base N qual (aB st) f cV A outer s H E) H (bB st) xb):ki P w K mg base (LH P w) (k+1) f (PySem.W.fnOf name qual (cQ st) (bB st) (aB st) dV kV doc pm an cV ct) ps (WE K (Z.fx ps.length N.length xb)):=by
 have ψ:∀vs H Q E,WE K (Z.fx ps.length N.length xb) vs H Q E->vs.length=ps.length:=λ vs H Q E ⟨ds,d,t,e,_⟩=>by
  unfold Z.fx at e;split at e
  ·rename_i h;rw[t.length];exact h
  ·cases e
 refine Cj lk tu S ψ λ A outer s H vs Q E hr h=>?_;refine⟨_,hb A outer s H E hr,?_⟩;have hl:=ψ vs H Q E h;obtain⟨ds,c,t,e,k⟩:=h;have iV:ps.length<=N.length:=by have:=A22 List.length S.pre;rw[A34]at this;lia
 have rs:RS K H H (L2.start N vs) (Z.start N.length ds):=md t (by lia);unfold Z.fx at e;split at e
 ·exact⟨_,c,rs,e,λ χ σ H' s' a C dd sm xc I th=>DM I th (k C dd H' sm xc)⟩
 ·cases e
theorem Uk.mk'{st:ν}(d:Def K mg x st ps)(S:c6 N ps (aB st))
  (hb:∀ f cV A outer s H E,d? k (A.deeper (envOfC x (aB st) s.heap.objs.size f cV)) ->
   ZU (iZ (LH P w) P w K mg base N x (aB st) f cV A outer s H E) H (bB st) xb):Uk P w K mg base x (k+1) ps (Z.fx ps.length N.length xb):=by
 obtain⟨f,fd,F,hm,AU⟩:=d.ex;have kp:=F.kp;obtain⟨oc,od,kV,doc,pm,an,cV,ct,zM,rfl,lk,tu⟩:=F.ex;exact⟨f,_,fnX lk tu S (hb f cV),hm,kp,AU⟩
end
section
end
section
end
section
end
structure Z7(K:W.Frag)(C:Addr):Prop where
 ga:findIn K (.ref C) "__getattribute__"=some (some (.builtin "BaseException.__getattribute__"))
 gn:findIn K (.ref C) "__getattr__"=some none
 cl:findIn K (.ref C) "__class__"=some (some (.builtin "object.__class__"))
 hn:specialIn K (.builtin "object.__class__") "__get__"=some (some (.builtin "getset_descriptor.__get__"))
 tk:takesIn K (.builtin "object.__class__")=some true
 mo:mroIn K C (.type "object")=some true
 mb:mroIn K C (.type "BaseException")=some true
section
variable {K:W.Frag}
end
section
variable {X:Cx}
end
structure Ua(k:Nat)(A:Around):Prop where
 dp:A.depth+3*k+5<recursionLimit
 un:A.units+16*k+200<cLine
section
variable {K:W.Frag}
def ZX(P:ο)(w:ξ)(K:W.Frag)(mg:Str->ε ζ)(base:μ)(k:Nat)(g:δ)(fd:υ)(ps:γ Str)(m:Z.XN->Z.Res Z.D):Prop:=
 ∀(A:τ)(outer:γ PySem.Env)(s:η)(H:Hp)(args:Args)(u:ζ)(v:V)(Q:VK)(c:Z.XN)(d:Z.D),Ua k A->zJ P w K mg base A outer s H->BindsTo s fd args (ps.zip [u])->RelV v u->RL K H (.exc c) v->m c=.ok d->(∀v' H',aH H H'->Den K H' d v'->Q v' H') ->
  codeAny (model P w) A (.call (.ref g) args) (CR oO outer P w H s Q E0) s
structure adJ(P:Program)(w:World)(K:W.Frag)(mg:Str->Option Value)(base:Heap)(x:Str)(k:Nat)(ps:List Str)(m:Z.XN->Z.Res Z.D):Prop where
 ex:∃g fd,ZX P w K mg base k g fd ps m/\mg x=some (.ref g)/\PySem.W.keepIn K (.ref g)=true/\Binds K fd ps []/\ps.length=1
end
section
end
end ZS
namespace ZQ
open PySem PySem.Spec PyProof.Rows L2 ZS PySem.W
section
end
section
variable {K:W.Frag}
end
end ZQ
noncomputable section
namespace Z
def jc(c:Nat)(cs:γ Nat):γ Nat×γ Nat×γ Nat:=match PySem.Builtin.Str.occurrences ⟨cs.toArray⟩ ⟨#[c]⟩ 0 cs.length 1 with
 |i::_=>(cs.take i,[c],cs.drop (i+1))
 |[]=>(cs,[],[])
def uF:D->D->Res D
 |.str cs,.str [c]=>guard (cs.length<=line) (.ok (.tup [.str (jc c cs).1,.str (jc c cs).2.1,.str (jc c cs).2.2]))
 |_,_=>.bad
end Z
end
namespace ZS
open PySem PySem.Spec PyProof.Rows L2 PySem.W
section
theorem Fe(cs:γ Nat)(i:Nat):Builtin.Str.strSub ⟨cs.toArray⟩ 0 i=eT (cs.take i):=by unfold Builtin.Str.strSub eT;simp
theorem Ff(cs:γ Nat)(i:Nat):Builtin.Str.strSub ⟨cs.toArray⟩ i cs.length=eT (cs.drop i):=by unfold Builtin.Str.strSub eT;simp;exact C10 (by simp)
def QU:V->γ V->Hp->VK->Prop:=λ x vs H Q=>∃cs c,x=.str (eT cs)/\vs=[.str ⟨#[c]⟩]/\cs.length<=sizeLine/\∀q,H q=none->Q (.ref q) (upd H q (.tup [.str (eT (Z.jc c cs).1),.str (eT (Z.jc c cs).2.1),.str (eT (Z.jc c cs).2.2)]))
theorem J9:Ic X "str.partition" QU:=by
 intro χ s σ H x vs v us Q I rx rv h;obtain⟨cs,c,rfl,rfl,hl,k⟩:=h;obtain⟨tk,rfl⟩:=rx;obtain⟨u,rfl,ru⟩:=rv.one;obtain⟨_e,rfl⟩:=ru;refine A50 F.slot_str_partition (A88 _ _ _) F.entry_str_partition (F.args_str_partition_2 _ _) (meets_str_partition _ ⟨#[c]⟩ tk _e rfl (by rw[kC];exact hl)) ?_;unfold Z.jc at k;have lm:=kC cs;rw[lm];have fin:∀a b d t1 t2 t3 kk,(∀q,H q=none->Q (.ref q) (upd H q (.tup [.str (eT a),.str (eT b),.str (eT d)]))) ->
   EP X χ σ Q (.ref s.heap.objs.size) {s with toks:=kk,heap:=s.heap.push {cls:=.type "tuple",data:=.seq [.str (eT a) t1,.str (eT b) t2,.str (eT d) t3].toArray}}:=λ a b d t1 t2 t3 kk q=>
  ⟨.ref _,_,I.laid (o:=.tup [.str (eT a),.str (eT b),.str (eT d)]) (λ b ob q=>W1 _ q) (o0 _) ⟨by show 3<=sizeLine;decide,_,.cons ⟨t1,rfl⟩ (.cons ⟨t2,rfl⟩ (.cons ⟨t3,rfl⟩ .nil)),_,A11 _ rfl⟩,rfl,q _ (I.cC.fresh (o0 _))⟩
 cases e:Builtin.Str.occurrences (eT cs) ⟨#[c]⟩ 0 cs.length 1 with
 |nil=>have e':Builtin.Str.occurrences ⟨cs.toArray⟩ ⟨#[c]⟩ 0 cs.length 1=[]:=e;rw[e']at k;exact fin cs [] [] tk _ _ _ k
 |cons i r=>have e':Builtin.Str.occurrences ⟨cs.toArray⟩ ⟨#[c]⟩ 0 cs.length 1=i::r:=e;rw[e']at k;dsimp only;have a1:Builtin.Str.strSub (eT cs) 0 i=eT (cs.take i):=Fe cs i;have a2:Builtin.Str.strSub (eT cs) (i+Str.length ⟨#[c]⟩) cs.length=eT (cs.drop (i+1)):=Ff cs (i+1);rw[a1,a2];exact fin (cs.take i) [c] (cs.drop (i+1)) _ _ _ _ k
theorem F6(h:Z.uF x y=.ok d):∃cs c,x=.str cs/\y=.str [c]/\cs.length<=Z.line/\d=.tup [.str (Z.jc c cs).1,.str (Z.jc c cs).2.1,.str (Z.jc c cs).2.2]:=by
 unfold Z.uF at h;split at h
 ·rename_i cs c;obtain⟨h1,h2⟩:=Z.fQ h;cases h2;exact⟨cs,c,rfl,rfl,h1,rfl⟩
 ·cases h
theorem _root_.ZQ.K_(ho:ZQ.QW X o fa)(hb:ZQ.QW X b fb)
  (iD:attributeBase o "partition" X.env (eval o X.env)=eval o X.env:=by rfl)
  (lO:((backTo p2 (starEach (b::[]) X.env)).all (λ x=>!x.1)&&(backToKw p2 (keywordEach [] X.env)).all (λ x=>x.1.isSome)
   && decide ((b::[]).length+([]:γ π).length+(if([]:γ π).isEmpty then 0 else 1)<30))=true:=by rfl)
  (iC:(p1.endLine==p2.line)=true:=by rfl) (ml:Se b [] X.env:=by rfl) (f9:Pn p2 [] X.env:=by rfl) :
  ZQ.QE X (.Call (.Attribute o "partition" p1) [b] [] p2) (Z.eB Z.uF fa fb):=
 ⟨PE.imp (rM B58 PySem.F.slot_str_partition PySem.F.type_str_partition J9 ho.p (bF hb.p cI ml) iD lO iC ml f9) λ σ H Q ⟨ρ,d,r,e,k⟩=>by obtain⟨x,ea,e⟩:=Z.Res.ax e;obtain⟨y,eb,e⟩:=Z.Res.ax e;obtain⟨cs,c,rfl,rfl,hl,rfl⟩:=F6 e;refine⟨ρ,_,r,ea,λ v H1 s1 d1=>?_⟩;have OH:=d1.str;subst OH;refine⟨rfl,ρ,_,r.up s1,eb,λ u H2 s2 d2=>?_⟩;have OG:=d2.str;subst OG;refine⟨cs,c,rfl,rfl,by rw[A29];exact hl,λ q hq=>?_⟩;have s3:aH H2 (upd H2 q (.tup [.str (eT (Z.jc c cs).1),.str (eT (Z.jc c cs).2.1),.str (eT (Z.jc c cs).2.2)])):=cA hq;exact k _ _ ((s1.trans s2).trans s3) (fG (.inl (.inl bC)) (aE.cons eI (aE.cons eI (aE.cons eI aE.nil))))⟩
end
section
def tCs(vs:γ V):TA:=λ _ H Q=>Q vs H
def NoK(K:W.Frag)(c0:γ Nat)(as:γ δ):Prop:=∃C,nsIn K mainGlobals ⟨c0.toArray⟩=some (some (.ref C))/\Z7 K C/\kitAny K (.ref C) (as.map Value.ref)=some false
structure PCs(X:Cx)(c0:List Nat)(es:List Expr)(as:List Addr):Prop where
 pa:PA X es (tCs (as.map V.ref))
 k:NoK X.K c0 as
end
end ZS
namespace ZQ
open PySem PySem.Spec PyProof.Rows L2 ZS PySem.W
section
end
end ZQ
noncomputable section
namespace Z
def UO(i:Nat)(kvs:γ (γ Nat×γ Nat))(ρ:Env):Res Fl:=.ok (.nx (ρ.set i (some (.zL kvs))))
def o8(kvs:γ (γ Nat×γ Nat))(k v:γ Nat):γ (γ Nat×γ Nat):=if(kvs.any λ kv=>decide (kv.1=k))=true then kvs.map (λ kv=>if kv.1=k then(kv.1,v)else kv)else kvs++[(k,v)]
def q!(kvs:γ (γ Nat×γ Nat))(k:γ Nat):ε (γ Nat):=(kvs.find? λ kv=>decide (kv.1=k)).map (·.2)
def xX(i:Nat)(ρ:Env)(k v:D)(o:ε (ε L)):Res Fl:=match k,v,o with
 |.str k,.str v,some (some (.dc (.inr kvs)))=>guard (kvs.length<line) (.ok (.nx (ρ.set i (some (.zL (o8 kvs k v))))))
 |_,_,_=>.bad
def BJ(i:Nat)(e e':EF)(ρ:Env):Res Fl:=(e' ρ).bind λ v=>(e ρ).bind λ k=>xX i ρ k v ρ[i]?
def M8:ε (γ Nat)->Res D
 |some v=>.ok (.str v)
 |none=>.bad
def xY(k:D)(o:ε (ε L)):Res D:=match k,o with
 |.str k,some (some (.dc (.inr kvs)))=>M8 (q! kvs k)
 |_,_=>.bad
def mO(i:Nat)(e:EF)(ρ:Env):Res D:=(e ρ).bind λ k=>xY k ρ[i]?
theorem E6(h:xX i ρ k v o=.ok fl):∃k' v' kvs,k=.str k'/\v=.str v'/\o=some (some (.zL kvs))/\kvs.length<line/\fl=.nx (ρ.set i (some (.zL (o8 kvs k' v')))):=by
 unfold xX at h;split at h
 ·rename_i k' v' kvs;obtain⟨h1,h2⟩:=fQ h;cases h2;exact⟨k',v',kvs,rfl,rfl,rfl,h1,rfl⟩
 ·cases h
theorem E8(h:xY k o=.ok d):∃k' kvs v,k=.str k'/\o=some (some (.zL kvs))/\q! kvs k'=some v/\d=.str v:=by
 unfold xY at h;split at h
 ·rename_i k' kvs;cases e:q! kvs k' with
  |none=>rw[e]at h;cases h
  |some v=>rw[e]at h;cases h;exact⟨k',kvs,v,rfl,rfl,e,rfl⟩
 ·cases h
@[simp] theorem _n(i:Nat)(kvs:γ _)(ρ:Env):UO i kvs ρ=.ok (.nx (ρ.set i (some (.zL kvs)))):=rfl
@[simp] theorem UN(i:Nat)(e e':EF)(ρ:Env):BJ i e e' ρ=(e' ρ).bind λ v=>(e ρ).bind λ k=>xX i ρ k v ρ[i]?:=rfl
@[simp] theorem VU(i:Nat)(e:EF)(ρ:Env):mO i e ρ=(e ρ).bind λ k=>xY k ρ[i]?:=rfl
@[simp] theorem UC(i:Nat)(ρ:Env)(k v:γ Nat)(kvs:γ _):xX i ρ (.str k) (.str v) (some (some (.zL kvs)))=guard (kvs.length<line) (.ok (.nx (ρ.set i (some (.zL (o8 kvs k v)))))):=rfl
@[simp] theorem UE(k:γ Nat)(kvs:γ _):xY (.str k) (some (some (.zL kvs)))=M8 (q! kvs k):=rfl
@[simp] theorem Xf(v:γ Nat):M8 (some v)=.ok (.str v):=rfl
def bX(m:Nat):γ Nat:=(Nat.toDigits 10 m).map Char.toNat
def g!:D->Res D
 |.int n=>guard (0<=n/\n<10^70) (.ok (.str (bX n.toNat)))
 |_=>.bad
theorem JU(h:g! x=.ok d):∃n:Nat,x=.int n/\(n:Int)<10^70/\d=.str (bX n):=by
 unfold g! at h;split at h
 ·rename_i n;obtain⟨h1,h2⟩:=fQ h;cases h2;exact⟨_,by rw[C11 h1.1],by rw[C11 h1.1];exact h1.2,rfl⟩
 ·cases h
theorem Nk(n:Nat)(h:(n:Int)<10^70):g! (.int n)=.ok (.str (bX n)):=by show guard _ _=_;rw[guard_pos ⟨Int.natCast_nonneg n,h⟩,A85]
def CQ(cs:γ Nat):Nat:=cs.foldl (λ acc c=>acc*10+(c-48)) 0
def yz:D->Res D
 |.str cs=>guard (cs≠[]/\cs.length<=640/\∀c∈cs,48<=c/\c<=57) (.ok (.int (CQ cs)))
 |_=>.bad
theorem F'(h:yz x=.ok d):∃cs,x=.str cs/\cs≠[]/\cs.length<=640/\(∀c∈cs,48<=c/\c<=57)/\d=.int (CQ cs):=by
 unfold yz at h;split at h
 ·rename_i cs;obtain⟨h1,h2⟩:=fQ h;cases h2;exact⟨cs,rfl,h1.1,h1.2.1,h1.2.2,rfl⟩
 ·cases h
def ints3(lo:Int)(n:Nat):γ D:=(List.range n).map λ i=>D.int (lo+(i:Nat)*3)
def P0:D->D->D->Res (γ D)
 |.int i,.int j,.int k=>guard (k=3/\-1000000000<=i/\i<=1000000000/\-1000000000<=j/\j<=1000000000) (.ok (ints3 i ((j-i+2) / 3).toNat))
 |_,_,_=>.bad
theorem TR(i j k:Int):P0 (.int i) (.int j) (.int k)=guard (k=3/\-1000000000<=i/\i<=1000000000/\-1000000000<=j/\j<=1000000000) (.ok (ints3 i ((j-i+2) / 3).toNat)):=rfl
theorem OK(h:P0 x y z=.ok ds):∃i j,x=.int i/\y=.int j/\z=.int 3/\-1000000000<=i/\i<=1000000000/\-1000000000<=j/\j<=1000000000/\ds=ints3 i ((j-i+2) / 3).toNat:=by
 unfold P0 at h;split at h
 ·obtain⟨⟨rfl,h1,h2,h3,h4⟩,e⟩:=fQ h;cases e;exact⟨_,_,rfl,rfl,rfl,h1,h2,h3,h4,rfl⟩
 ·cases h
def GL(a b c:EF)(ρ:Env):Res (γ D):=(a ρ).bind λ x=>(b ρ).bind λ y=>(c ρ).bind λ z=>P0 x y z
@[simp] theorem Vy(a b c:EF)(ρ:Env):GL a b c ρ=(a ρ).bind λ x=>(b ρ).bind λ y=>(c ρ).bind λ z=>P0 x y z:=rfl
end Z
end
namespace ZS
open PySem PySem.Spec PyProof.Rows L2 PySem.W
theorem mk_inj{a b:γ Nat}:((⟨a.toArray⟩:Str)=⟨b.toArray⟩)↔a=b:=⟨λ h=>by have h1:=A22 Str.cps h;simpa using h1,λ h=>by rw[h]⟩
theorem n!{a b:γ Nat}:((Sum.inr ⟨a.toArray⟩:Key)=Sum.inr ⟨b.toArray⟩)↔a=b:=⟨λ h=>mk_inj.mp (Sum.inr.inj h),λ h=>by rw[h]⟩
theorem Kh(kvs:γ _)(k:γ Nat):((tq kvs).any λ kv=>decide (kv.1=Sum.inr ⟨k.toArray⟩))=kvs.any λ kv=>decide (kv.1=k):=by
 induction kvs with
 |nil=>rfl
 |cons x r ih=>
  show(decide _||(tq r).any _)=_;rw[ih,A92]
  congr 1
  exact C12.mpr n!
theorem Kg(kvs:γ _)(k v:γ Nat):tq (Z.o8 kvs k v)=putK (tq kvs) (Sum.inr ⟨k.toArray⟩) (.str ⟨v.toArray⟩):=by
 unfold Z.o8 putK;rw[Kh];split
 ·unfold tq;rw[A14,A14];refine A67 λ x _=>?_;show(_)=if(Sum.inr ⟨x.1.toArray⟩:Key)=Sum.inr ⟨_⟩then _ else _
  by_cases h:x.1=k
  ·rw[M2 (n!.mpr h)];show((Sum.inr ⟨(if x.1=k then(x.1,v)else x).1.toArray⟩:Key),V.str ⟨(if x.1=k then(x.1,v)else x).2.toArray⟩)=_;rw[M2 h]
  ·rw[f8 (λ z=>h (n!.mp z))];show((Sum.inr ⟨(if x.1=k then(x.1,v)else x).1.toArray⟩:Key),V.str ⟨(if x.1=k then(x.1,v)else x).2.toArray⟩)=_;rw[f8 h]
 ·unfold tq;rw[A68];rfl
theorem Kf(kvs:γ _)(k:γ Nat):nL (tq kvs) (Sum.inr ⟨k.toArray⟩)=(Z.q! kvs k).map λ v=>V.str ⟨v.toArray⟩:=by
 induction kvs with
 |nil=>rfl
 |cons x r ih=>
  by_cases h:x.1=k
  ·rw[show tq _=(Sum.inr ⟨x.1.toArray⟩,V.str ⟨x.2.toArray⟩)::tq r from rfl,nJ (n!.mpr h)];unfold Z.q!;rw[List.find?_cons,A35 h];rfl
  ·rw[show tq _=(Sum.inr ⟨x.1.toArray⟩,V.str ⟨x.2.toArray⟩)::tq r from rfl,nK (λ z=>h (n!.mp z)),ih];unfold Z.q!;rw[List.find?_cons,A63 h]
section
def cT(kvs:γ (γ Nat×γ Nat)):γ (TE×TE):=kvs.map λ p=>(tC (.str ⟨p.1.toArray⟩),tC (.str ⟨p.2.toArray⟩))
theorem FY(kvs:γ _)(σ:St)(H:Hp)(Q:γ _->Hp->Prop)(h:Q (kvs.map λ p=>(V.str ⟨p.1.toArray⟩,V.str ⟨p.2.toArray⟩)) H):vD (cT kvs) σ H Q:=by
 induction kvs generalizing Q with
 |nil=>exact h
 |cons x r ih=>exact ih _ h
def xk(X:Cx)(pos:Pos)(ks:γ (ε θ))(vs:γ θ)(kvs:γ (γ Nat×γ Nat)):Prop:=Uc X pos ks vs (cT kvs)
theorem OI:xk X pos [] [] []:=Jv
theorem qT(hx:x=⟨k.toArray⟩)(hy:y=⟨v.toArray⟩)(h:xk X pos ks vs kvs):
  xk X pos (some (.Constant (.str x) j q)::ks) (.Constant (.str y) j' q'::vs) ((k,v)::kvs):=by
 subst hx hy;exact FN An An h
theorem _root_.ZQ.Tw(hN:X.N.Nodup)(hi:X.N[i]?=some x)(hx:Loc X.env.scope x)(hc:xk X p ks vs kvs)
  (hm:o_ [] (tq kvs)=tq kvs) (Yx:kvs.length<=15)
  (hall:ks.all (·.isSome)=true:=by rfl) (hl:ks.length=vs.length:=by rfl) (h0:ks≠[]:=by exact List.cons_ne_nil _ _) (Y3:ks.length<=15:=by exact Nat.le_of_ble_eq_true rfl)
  (hs:swapsWith (.Dict ks vs p) (some (.Name x pos')) pos.line X.env=pure false:=by rfl) (hf:Fl X x:=by trivial) :
  ZQ.QS X H0 (.Assign [.Name x pos'] (.Dict ks vs p) pos) (Z.UO i kvs):=⟨PS.imp (Ak hN hi hx (JB hc hall hl h0 Y3) hs hf) λ D σ H ⟨ρ,fl,rs,e,k⟩=>by
 cases e;intro q hq;refine FY kvs σ _ _ ?_;refine⟨bC,tq kvs,?_,by unfold tq;rw[A03];exact Yx,?_⟩
 ·unfold tq;rw[A14];rfl
 ·rw[hm,IW];exact k _ _ (o4 (cA hq)) (rs.setG (as:=[]) hq (cA hq) bC True.intro)⟩
theorem _root_.ZQ.K6(hu:X.A.units+64<cLine)(ho:PE X o (oX i))(hk:ZQ.QE X kx fk)(hv:ZQ.QE X vx fv)(hs:swapsWith vx (some (.Subscript o kx p1)) pos.line X.env=pure false:=by rfl):
  ZQ.QS X H0 (.Assign [.Subscript o kx p1] vx pos) (Z.BJ i fk fv):=⟨PS.imp (Jt (by lia) ho hk.p hv.p hs) λ D σ H ⟨ρ,fl,rs,e,k⟩=>by
 obtain⟨dv,ev,e⟩:=Z.Res.ax e;obtain⟨dk,ek,e⟩:=Z.Res.ax e;obtain⟨k',v',kvs,rfl,rfl,eo,hl,rfl⟩:=Z.E6 e;refine⟨ρ,_,rs.re,ev,λ v H1 s1 d1=>?_⟩;have OH:v=V.str (eT v'):=by simp only[Den]at d1;exact d1
 subst OH;obtain⟨w,si,q,as,rfl,hq,_⟩:=rs.re.get i _ eo;refine⟨_,si,ρ,_,rs.re.up s1,ek,λ u H2 s2 d2=>?_⟩;have OG:u=V.str (eT k'):=by simp only[Den]at d2;exact d2
 subst OG;have PB:=hq;have D8:=s2 _ _ (s1 _ _ PB);have Jn:=s1.trans s2;refine⟨q,_,rfl,Bo.k (k:=Sum.inr (eT k')) D8 (by unfold tq;rw[A03,A29];exact hl),?_⟩;rw[show putK (tq kvs) (Sum.inr (eT k')) (V.str (eT v'))=tq (Z.o8 kvs k' v')from(Kg kvs k' v').symm];have st:kh H2 (upd H2 q (.dK (tq (Z.o8 kvs k' v')))):=vF D8 (λ _ z=>nomatch z) (λ _ _ z=>nomatch z);exact k σ _ ((o4 Jn).trans st) ((rs.up Jn).upq (as:=[]) eo si D8 (l:=.zL _) ⟨q,[],rfl,bC,True.intro⟩ (λ _ z=>nomatch z) (λ _ z=>nomatch z))⟩
theorem _root_.ZQ.qR(hu:X.A.units+64<cLine)(ho:PE X o (oX i))(hk:ZQ.QE X kx fk)(hs:O6 kx:=by intro _ _;rfl):
  ZQ.QE X (.Subscript o kx pos) (Z.mO i fk):=⟨PE.imp (JC (by lia) ho hk.p hs) λ σ H Q ⟨ρ,d,r,e,k⟩=>by
 obtain⟨dk,ek,e⟩:=Z.Res.ax e;obtain⟨k',kvs,v,rfl,eo,hv,rfl⟩:=Z.E8 e;obtain⟨w,si,q,as,rfl,hq,_⟩:=r.get i _ eo;refine⟨_,si,ρ,_,r,ek,λ u H2 s2 d2=>?_⟩;have OG:u=V.str (eT k'):=by simp only[Den]at d2;exact d2
 subst OG;have PB:=hq;have D8:=s2 _ _ PB;refine⟨q,_,rfl,?_,k _ _ s2 eI⟩;have g:=zK.k (k:=Sum.inr (eT k')) D8;have e2:nL (tq kvs) (Sum.inr (eT k'))=some (V.str (eT v)):=by have:=Kf kvs k';rw[hv]at this;exact this
 rw[e2]at g;exact g⟩
theorem _root_.ZQ.HI(hg:Gl X x)(hm:X.mg x=some (.str ⟨cs.toArray⟩ t))(hb:(x==("__debug__"))=false:=by decide +kernel):ZQ.QE X (.Name x pos) (Z.eC (.str cs)):=⟨El (BP (v:=.str ⟨_⟩) hg hm ⟨t,rfl⟩ hb) λ _=>eI⟩
theorem K!(n:Nat):Str.ofString (toString ((n):Int))=eT (Z.bX n):=by
 have h:=KIN.signs_num n;have:(Str.ofString _)=⟨(Str.ofString (toString ((n):Int))).cps⟩:=rfl;rw[this];show(⟨_⟩:Str)=⟨(Z.bX n).toArray⟩
 unfold Z.bX;rw[<-h]
theorem Nz{n:Nat}(h:(n:Int)<10^70):((n):Int).natAbs.log2<1920:=by
 rw[Int.natAbs_natCast];have h1:n<2^1920:=by
  have:n<10^70:=by exact_mod_cast h
  exact B07 this (A17 (show 10^70<2^256 by decide) (C13 (by decide) (by decide)))
 by_cases h0:n=0
 ·subst h0;decide
 ·exact(Nat.log2_lt h0).mpr h1
theorem Es:iG X (.type "str") (λ xs H Q=>∃n:Nat,xs=[.int n]/\(n:Int)<10^70/\Q (.str (eT (Z.bX n))) H):=by intro χ s σ H xs us Q I r h;obtain⟨n,rfl,hn,q⟩:=h;obtain⟨u,rfl,ru⟩:=r.one;obtain⟨t,rfl⟩:=ru;refine PySem.P.str_of_int (Nz hn) ?_;refine⟨.str _,H,I.tok _,⟨s.toks,?_⟩,q⟩;rw[<-K!]
theorem _root_.ZQ.eK{x:Str}(hm:X.mg x=none)(ha:ZQ.QW X a fa)(hn:x≠ "__name__":=by decide +kernel)(ji:(x==("__debug__"))=false:=by decide +kernel)(he:Se a [] X.env:=by rfl)(iV:Pn pos [] X.env:=by rfl)(hg:Gl X x:=by rfl)(hv:bootBuiltins x=some (.type "str"):=by kernel_rfl):ZQ.QE X (.Call (.Name x p1) [a] [] pos) (Z.eU Z.g! fa):=
 ⟨PE.imp (j5 Es hg hm hv (bF ha.p cI he) hn ji he iV) λ σ H Q ⟨ρ,d,r,e,k⟩=>by obtain⟨x,ea,e⟩:=Z.Res.ax e;obtain⟨n,rfl,hl,rfl⟩:=Z.JU e;refine⟨ρ,_,r,ea,λ v H1 s1 d1=>?_⟩;exact⟨n,by rw[d1.int],hl,k _ H1 s1 eI⟩⟩
theorem Ew:iG X (.type "int") (λ xs H Q=>∃cs,xs=[.str (eT cs)]/\cs≠[]/\cs.length<=640/\(∀c∈cs,48<=c/\c<=57)/\Q (.int (Z.CQ cs)) H):=by
 intro χ s σ H xs us Q I r h;obtain⟨cs,rfl,h0,hl,hd,q⟩:=h;obtain⟨u,rfl,ru⟩:=r.one;obtain⟨t,rfl⟩:=ru;have e:(eT cs).cps.toList=cs:=by show cs.toArray.toList=cs;simp
 have qx:(eT cs).length<=640:=by rw[kC];exact hl
 have hi:=PySem.intText_digits (by rw[e];exact hd) (by rw[e];exact h0) (A16 qx (by decide));refine KIN.call_text hi qx ?_;refine⟨.int _,H,I.tok _,⟨s.toks,?_⟩,q⟩;rw[e];rfl
theorem _root_.ZQ.Lc(hg:Gl X x)(hm:X.mg x=none)(hv:bootBuiltins x=some (.type "int"))(ha:ZQ.QW X a fa)(hn:x≠ "__name__":=by decide +kernel)(ji:(x==("__debug__"))=false:=by decide +kernel)
  (he:Se a [] X.env:=by rfl) (iV:Pn pos [] X.env:=by rfl):ZQ.QE X (.Call (.Name x p1) [a] [] pos) (Z.eU Z.yz fa):=
 ⟨PE.imp (j5 Ew hg hm hv (bF ha.p cI he) hn ji he iV) λ σ H Q ⟨ρ,d,r,e,k⟩=>by obtain⟨x,ea,e⟩:=Z.Res.ax e;obtain⟨cs,rfl,h0,hl,hd,rfl⟩:=Z.F' e;refine⟨ρ,_,r,ea,λ v H1 s1 d1=>?_⟩;have OH:=d1.str;subst OH;exact⟨cs,rfl,h0,hl,hd,k _ H1 s1 cP⟩⟩
end
def Wc(lo:Int)(n:Nat):It:=⟨λ i _=>i<n,λ i H x H'=>H'=H/\x=.int (lo+(i:Nat)*3),λ i _=>n<=i⟩
theorem E5{K:W.Frag}(it:δ)(lo:Int)(n:Nat):Turn P w K tg (Wc lo n) [it] it (λ i h=>IsRangeIter h it (lo+(i)*3) ((n)-(i)) 3) where
 mem:=by simp
 obj:=λ i h st b hb=>by
  have e:b=it:=by simpa using hb
  subst e;exact⟨_,st,λ v z=>by have z':=z;cases z'⟩
 keep:=λ i h h' st k=>k it (by simp) _ st
 item:=by intro X hP hw hK hc i χ s σ H E I hf st hg;subst hP hw hK;obtain⟨f0,f1,f2,f3,f4,f5⟩:=hf it (by simp);have W:=Walks.range (prog:=X.prog) (w:=X.w) (I.ok.hd hc) it lo 3 n;refine W.item i s _ _ hg st λ v h' tk hv uz kk=>?_;obtain⟨t,rfl⟩:=hv;have I1:Inv X χ σ H {s with heap:=h',toks:=tk}:=I.turned (λ b o hb e=>kk b o (by simpa using hb) e) f0 f1 f3 f4 f5;exact⟨_,rfl,uU uz rfl rfl (by decide) ⟨.int (lo+(i)*3),H,I1,⟨t,rfl⟩,⟨rfl,rfl⟩,uz,λ b hb=>(hf b hb).1⟩⟩
 done:=by intro X hP hw hK hc i χ s σ H E I hf st hg;subst hP hw hK;obtain⟨f0,f1,f2,f3,f4,f5⟩:=hf it (by simp);exact wpAny_pyNext_range_end (I.ok.hd hc) st (by have:n<=i:=hg;lia) λ h' eb=>⟨rfl,I.turned (λ b o hb e=>eb b o hb e) f0 f1 f3 f4 f5⟩
 self:=λ _ _ _ _ _ st h=>wpAny_pyIter_rangeiter st h
theorem ya(a b:Int):Builtin.Range.rangeSize a b 3=(((b-a+2) / 3).toNat):=by
 unfold Builtin.Range.rangeSize;rw[M2 (by decide)];split
 ·lia
 ·lia
theorem C8(h1:-1000000000<=a)(h2:a<=1000000000)(h3:-1000000000<=b)(h4:b<=1000000000):Builtin.Range.small a b 3=true:=by
 unfold Builtin.Range.small;rw[ya];simp only[Builtin.Range.rangeFitsLong,A20]
 try simp
 try lia
section
theorem Dd{lo hi:Int}{t u v:Tok}{tk:Nat}(I:Inv X χ σ H s)(h1:-1000000000<=lo)(h2:lo<=1000000000)(h3:-1000000000<=hi)(h4:hi<=1000000000)
  (q:R (Wc lo ((hi-lo+2) / 3).toNat) H):wpAny (model X.prog X.w) X.A (pyIter (.ref s.heap.objs.size)) (Ud X χ σ tg R) E {s with heap:=s.heap.push {cls:=.type "range",data:=.fields #[.int lo t,.int hi u,.int 3 v]},toks:=tk}:=by
 refine wpAny_pyIter_range (IsRange.new ..) (C8 h1 h2 h3 h4) ?_;have I1:Inv X χ σ H {s with heap:=s.heap.push {cls:=.type "range",data:=.fields #[.int lo t,.int hi u,.int 3 v]},toks:=tk}:=I.kept λ b o e=>W1 _ e;refine⟨(s.heap.push {cls:=.type "range",data:=.fields #[.int lo t,.int hi u,.int 3 v]}).objs.size,[(s.heap.push {cls:=.type "range",data:=.fields #[.int lo t,.int hi u,.int 3 v]}).objs.size],_,_,H,rfl,
  I1.kept (t':=tk) λ b o e=>W1 _ e,E5 _ lo ((hi-lo+2) / 3).toNat,?_,λ b hb=>?_,q⟩
 ·have e1:lo+((0:Nat):Int)*3=lo:=by simp
  have e2:((((hi-lo+2) / 3).toNat:Nat):Int)-((0:Nat):Int)=Builtin.Range.rangeSize lo hi 3:=by rw[ya];simp
  show IsRangeIter _ _ (lo+((0:Nat):Int)*3) (((((hi-lo+2) / 3).toNat:Nat):Int)-((0:Nat):Int)) 3;rw[e1,e2];exact A11 _ rfl
 ·have e:b=(s.heap.push {cls:=.type "range",data:=.fields #[.int lo t,.int hi u,.int 3 v]}).objs.size:=by simpa using hb
  subst e;exact I1.qy (o0 _) (I1.cC.fresh (o0 _))
def T8(ta:TA):TI:=λ σ H R=>ta σ H λ vs H1=>∃i j:Int,vs=[.int i,.int j,.int 3]/\(-1000000000<=i/\i<=1000000000/\-1000000000<=j/\j<=1000000000)/\R (Wc i ((j-i+2) / 3).toNat) H1
theorem MW(hg:Gl X "range")(hm:X.mg "range"=none)(ha:PA X [a,b,c] ta)(hs:starEach [a,b,c] X.env=[(false,eval a X.env),(false,eval b X.env),(false,eval c X.env)]:=by rfl)(wq:starEach [b,c] X.env=[(false,eval b X.env),(false,eval c X.env)]:=by rfl):
  PI X tg (.Call (.Name "range" p) [a,b,c] [] pos) (T8 ta):=by
 intro χ s σ H R I h;refine Call_ (jV I hg hm boot_range (B03 (dB (ha pos χ s σ H _ I h) λ us s1 ⟨vs,H1,I1,r1,q1⟩=>?_) (by rw[hs,wq]) (by rw[wq];rfl)));obtain⟨i,j,e,⟨q1,q2,q3,q4⟩,q⟩:=q1;subst e;cases r1 with
 |cons r rr=>
  cases rr with
  |cons r' rr=>
   cases rr with
   |cons r'' rr=>cases rr;obtain⟨t,rfl⟩:=r;obtain⟨t',rfl⟩:=r';obtain⟨t'',rfl⟩:=r'';exact call_range_3 (by decide) (Dd I1 q1 q2 q3 q4 q)
theorem uP(lo:Int)(n i:Nat)(d:Z.D)(h:(Z.ints3 lo n)[i]?=some d):i<n/\d=.int (lo+(i)*3):=by
 unfold Z.ints3 at h;rw[P3]at h;cases q:(List.range n)[i]? with
 |none=>rw[q]at h;cases h
 |some x=>rw[q]at h;cases h;obtain⟨h1,h2⟩:=A02.mp q;rw[B21]at h2;subst h2;exact⟨by simpa using h1,rfl⟩
theorem Ku{K:W.Frag}(lo:Int)(n:Nat):zP K (Wc lo n) S (Z.ints3 lo n) where
 go:=λ i d H1 s hi=>(uP lo n i d hi).1
 Br:=λ i d H1 H2 x s hi y=>by obtain⟨e,y⟩:=y;obtain⟨_,rfl⟩:=uP lo n i d hi;subst e;rw[y];exact⟨aH.refl _,cP⟩
 stop:=λ H1 s=>by unfold Z.ints3;rw[A03,A94];exact o0 _
theorem _root_.ZQ.Oy(hg:Gl X "range")(hm:X.mg "range"=none)(ha:ZQ.QE X a fa)(hb:ZQ.QE X b fb)(hc:ZQ.QE X c fc)(hs:starEach [a,b,c] X.env=[(false,eval a X.env),(false,eval b X.env),(false,eval c X.env)]:=by rfl)(wq:starEach [b,c] X.env=[(false,eval b X.env),(false,eval c X.env)]:=by rfl)
  (h1:starEach (a::[b,c]) X.env=(false,eval a X.env)::starEach [b,c] X.env:=by rfl) (h2:Se b [c] X.env:=by rfl) (h3:Se c [] X.env:=by rfl):ZQ.QJ X tg (.Call (.Name "range" p) [a,b,c] [] pos) (Z.GL fa fb fc):=
 ⟨PI.imp (MW hg hm (bF ha.p (bF hb.p (bF hc.p cI h3) h2) h1) hs wq) λ σ H R ⟨ρ,ds,r,e,k⟩=>by obtain⟨x,ea,e⟩:=Z.Res.ax e;obtain⟨y,eb,e⟩:=Z.Res.ax e;obtain⟨z,ec,e⟩:=Z.Res.ax e;obtain⟨i,j,rfl,rfl,rfl,b1,b2,b3,b4,rfl⟩:=Z.OK e;refine⟨ρ,_,r,ea,λ v H1 s1 d1=>⟨ρ,_,r.up s1,eb,λ u H2 s2 d2=>⟨ρ,_,(r.up s1).up s2,ec,λ u3 H3 s3 d3=>?_⟩⟩⟩;simp only[Den]at d1 d2 d3;exact⟨i,j,by rw[d1,d2,d3],⟨b1,b2,b3,b4⟩,k _ H3 ((s1.trans s2).trans s3) (Ku i ((j-i+2) / 3).toNat)⟩⟩
end
end ZS
namespace ZQ
open PySem PySem.Spec PyProof.Rows L2 ZS PySem.W
section
end
end ZQ
noncomputable section
namespace Z
def pairsOf:γ D->ε (γ (Int×Int))
 |[]=>some []
 |d::r=>match d,pairsOf r with
  |.tup [.int k,.int v],some ps=>some ((k,v)::ps)
  |_,_=>none
def Sa(i:Nat)(ρ:Env):D->Res Fl
 |.tup ds=>match pairsOf ds with
  |some ps=>guard ((ps.map (·.1)).Nodup/\ps.length<=line) (.ok (.nx (ρ.set i (some (.Ky ps)))))
  |none=>.bad
 |_=>.bad
def WR(i:Nat)(e:EF)(ρ:Env):Res Fl:=(e ρ).bind (Sa i ρ)
def GJ(k c:D)(o:ε (ε L)):Res D:=match k,c,o with
 |.int k,.int c,some (some (.Ky ps))=>.ok (.int ((ps.lookup k).getD c))
 |_,_,_=>.bad
def Ts(i:Nat)(e f:EF)(ρ:Env):Res D:=(e ρ).bind λ k=>(f ρ).bind λ c=>GJ k c ρ[i]?
theorem rN:∀{ds}{ps},pairsOf ds=some ps->ds=ps.map λ p=>.tup [.int p.1,.int p.2]
 |[],ps,h=>by cases h;rfl
 |d::r,ps,h=>by
  unfold pairsOf at h;split at h
  ·rename_i k v qs e;cases h;rw[rN e];rfl
  ·cases h
theorem pZ:∀ps,pairsOf (ps.map λ p=>.tup [.int p.1,.int p.2])=some ps
 |[]=>rfl
 |p::ps=>by rw[A05];unfold pairsOf;rw[pZ]
@[simp] theorem WQ(i:Nat)(e:EF)(ρ:Env):WR i e ρ=(e ρ).bind (Sa i ρ):=rfl
@[simp] theorem VW(i:Nat)(e f:EF)(ρ:Env):Ts i e f ρ=(e ρ).bind λ k=>(f ρ).bind λ c=>GJ k c ρ[i]?:=rfl
@[simp] theorem Vu(k c:Int)(ps:γ _):GJ (.int k) (.int c) (some (some (.Ky ps)))=.ok (.int ((ps.lookup k).getD c)):=rfl
end Z
noncomputable section
namespace Z
def sG(k c:D):D->Res D
 |.tup ds=>match k,c,pairsOf ds with
  |.int k,.int c,some ps=>guard ((ps.map (·.1)).Nodup/\ps.length<=line) (.ok (.int ((ps.lookup k).getD c)))
  |_,_,_=>.bad
 |_=>.bad
def Ho(e f g:EF)(ρ:Env):Res D:=(e ρ).bind λ d=>(f ρ).bind λ k=>(g ρ).bind λ c=>sG k c d
theorem HB(h:sG k c d=.ok r):∃(k' c':Int)(ps:γ _),d=.tup (ps.map λ p=>.tup [.int p.1,.int p.2])/\k=.int k'/\c=.int c'/\(ps.map (·.1)).Nodup/\ps.length<=line/\r=.int ((ps.lookup k').getD c'):=by
 cases d with
 |tup ds=>
  unfold sG at h;simp only at h;split at h
  ·rename_i k' c' ps e;obtain⟨h1,h2⟩:=fQ h;cases h2;exact⟨k',c',ps,by rw[rN e],rfl,rfl,h1.1,h1.2,rfl⟩
  ·cases h
 |_=>cases h
@[simp] theorem VX(e f g:EF)(ρ:Env):Ho e f g ρ=(e ρ).bind λ d=>(f ρ).bind λ k=>(g ρ).bind λ c=>sG k c d:=rfl
theorem K9(k c:Int)(ps:γ _)(h:(ps.map (·.1)).Nodup)(hl:ps.length<=line):sG (.int k) (.int c) (.tup (ps.map λ p=>.tup [.int p.1,.int p.2]))=.ok (.int ((ps.lookup k).getD c)):=by unfold sG;simp only[pZ];exact guard_pos ⟨h,hl⟩
end Z
namespace PySem
theorem DN
  (hx:s.heap.get? a=some {cls:=.type "tuple",data:=.seq xs k}) (Ss:typeLookup (.type "tuple") name=pure none) (Sr:(["__module__","__name__","__qualname__","__doc__","__annotations__"]:γ Str).contains name=false) (hA:A.handled=none)
  (h:∀h' tk e,Heap.NewExcOf s.heap h' e "AttributeError" -> Q none {s with heap:=h',toks:=tk}) (AO:name.length+100<=sizeLine:=by size_fits) :
  wpAny (model prog w) A (getAttr? (.ref a) name) Q E s:=by
 obtain⟨hh,gg,dd,kk,oo⟩:=s;have ty:∀z,(⟨hh,gg,dd,z,oo⟩:η).TypeIs (.ref a) "tuple":=λ z=>⟨_,hx,rfl⟩
 have a1:=sub_AttributeError;have a2:=Slot.lookup C14;have a3:=Slot.bind C14 (Value.ref a);have a4:=am_tuple_getattr_none;unfold getAttr?;unfold getAttrBy? getAttrBy
 repeat (any_goals (first| assumption| exact ty _| ((with_reducible show wpAny _ _ (call (Value.builtin "tuple.__getattribute__") _ _) _ _ _);refine A50 C14 (ty _) am_entry_tuple_getattribute (F.args_tuple_getattribute_2 _ _) (meets_getattribute_miss_tuple a xs k #[] name _ Ss Sr AO) ⟨hx,hA,λ h' _h e EK=>?_⟩)| wp_step))
 obtain⟨m1,m2,here⟩:=EK.there;unfold getattributeRaised
 repeat any_goals first|assumption|wp_step
 exact h _ _ _ EK.of
theorem rX:entryFor table "dict.update.loop"=some Builtin.«dict.update.loop»:=entryFor_of_tree (by kernel_rfl)
def CL(d it:δ)(h h':μ):Prop:=∀b o,b≠d->b≠it->h.get? b=some o->h'.get? b=some o
section
variable [DecidableEq K]{knd:KeyKind prog w K}
def pS(knd:KeyKind prog w K)(h:μ)(x:ζ)(p:K×ζ):Prop:=∃a o key n,x=.ref a/\h.get? a=some o/\o.cls=.type "tuple" /\ o.data=.seq #[key,p.2] n/\knd.is p.1 key=true
theorem pS.kept(q:pS knd h x p)(k:CL d it h h')(hd:h.DictOf knd d kvs)(hi:h.IsTupleIter it t i):pS knd h' x p:=by
 obtain⟨a,o,key,n,rfl,h1,h2,h3,h4⟩:=q;refine⟨a,o,key,n,rfl,k a o ?_ ?_ h1,h2,h3,h4⟩
 ·rintro rfl;obtain⟨_,_,_,ho,⟨hc,_⟩,_⟩:=hd;rw[h1]at ho;cases ho;rw[h2]at hc;exact absurd hc (by decide)
 ·rintro rfl;obtain⟨_,ho,hc,_⟩:=hi;rw[h1]at ho;cases ho;rw[h2]at hc;exact absurd hc (by decide)
theorem rW(hA:A.handled=none)(N6:d≠it)(X!:t≠it)(X?:t≠d):
  ∀(r:γ (K×ζ))(i:Nat) kvs s,s.heap.IsTupleIter it t i->s.heap.IsTuple t its->s.heap.DictOf knd d kvs ->
   (∀j,(r[j]?=none->its[i+j]?=none)/\∀p,r[j]?=some p->∃x,its[i+j]?=some x/\pS knd s.heap x p)->kvs.length+r.length<=sizeLine ->
   (∀h' tk,h'.DictOf knd d (r.foldl (λ a p=>stored a p.1 p.2) kvs)->CL d it s.heap h'->R (.ok (.ret .none)) {s with heap:=h',toks:=tk}) ->
   codeAny (model prog w) A (.builtin "dict.update.loop" ⟨[.ref d,.ref it,.int i 0,.none],[]⟩) R s
 |[],i,kvs,s,hit,ht,hd,hr,hz,h=>by refine A60 rX ?_;unfold Builtin.«dict.update.loop»;refine T0 (wpAny_pyNext_tuple_end (A:=A.under _) hA hit ht (by simpa using(hr 0).1 rfl) λ h' hx=>?_);show wpAny (model prog w) _ (Builtin.Dict.addKeywords d []>>=_) _ _ _;refine T0 (v0 (v0 (h h' s.toks (hd.extBut hx N6) λ b o _ hb e=>hx b o hb e)))
 |p::r,i,kvs,s,hit,ht,hd,hr,hz,h=>by
  refine A60 rX ?_;unfold Builtin.«dict.update.loop»;obtain⟨x,hx,hp⟩:=(hr 0).2 p rfl;refine T0 (wpAny_pyNext_tuple_item hit ht (by simpa using hx) λ h' KJ hs=>?_);have k1:CL d it s.heap h':=λ b o _ hb e=>(hs.2 b hb).trans e;have Sm:=hp.kept k1 hd hit;obtain⟨a,o,key,n,rfl,g1,g2,g3,g4⟩:=Sm;refine T0 (A33 (T0 (A28 ?_)));unfold Builtin.Dict.pairItems;refine T0 (B19 (T:="tuple") ⟨o,g1,g2⟩ ?_);rw[M2 (by decide)];refine T0 (A24 g1 g3 (v0 ?_));show wpAny _ _ (holding [key,p.2] (dictSet d key p.2)) _ _ _;refine A33 (wpAny_dictSet_pairs (kvs:=kvs) g4 (hd.sameBut hs N6) (λ h2 hd2 wq=>?_) (by lia));refine v0 ⟨Code.quiet_builtin _ (by decide +kernel),?_⟩;have k2:CL d it h' h2:=λ b o hb _ e=>(wq.2 b hb).trans e;have hl:=stored_length_le kvs p.1 p.2;rw[A36]at hz;have hT:s.heap.IsTuple t its:=ht;show codeAny _ _ (.builtin "dict.update.loop" ⟨[.ref d,.ref it,.int ((i+1:Nat):Int) 0,.none],[]⟩) _ _;refine rW (its:=its) hA N6 X! X? r (i+1) (stored kvs p.1 p.2) {s with heap:=h2,toks:=s.toks+1} ?_ ?_ hd2 ?_ (by lia) ?_
  ·obtain⟨o1,e1,e2⟩:=KJ;exact⟨o1,(wq.2 it (A06 N6)).trans e1,e2⟩
  ·obtain⟨o1,e1,e2⟩:=ht;exact⟨o1,k2 t o1 X? X! (k1 t o1 X? X! e1),e2⟩
  ·intro j;have hj:=hr (j+1);rw[B95,show i+(j+1)=i+1+j by lia]at hj;refine⟨hj.1,λ q hq=>?_⟩;obtain⟨x,Pw,hx2⟩:=hj.2 q hq;exact⟨x,Pw,(hx2.kept k1 hd hit).kept k2 (hd.sameBut hs N6) KJ⟩
  ·intro h3 tk VP k3;exact h h3 tk VP λ b o hb AU e=>k3 b o hb AU (k2 b o hb AU (k1 b o hb AU e))
theorem tM:typeLookup (.type "tuple") "keys"=pure none:=by rw[typeLookup_type,builtinLookup_eq_fast];kernel_rfl
theorem A8(hA:A.handled=none){r:γ (K×ζ)}{Q:ζ->η->Prop}(ht:s.heap.get? t=some {cls:=.type "tuple",data:=.seq its n})
  (hr:∀j:Nat,(r[j]?=none->its[j]?=none)/\∀p,r[j]?=some p->∃x,its[j]?=some x/\pS knd s.heap x p) (hz:r.length<=sizeLine)
  (h:∀h' tk,h'.DictOf knd s.heap.objs.size (r.foldl (λ a p=>stored a p.1 p.2) [])->(∀b o,s.heap.get? b=some o->h'.get? b=some o)->Q (.ref s.heap.objs.size) {s with heap:=h',toks:=tk}) :
  wpAny (model prog w) A (call (.type "dict") [.ref t]) Q E s:=by
 refine callType_codes (Q₁:=λ x s2=>x=.ref s.heap.objs.size/\s2={s with heap:=s.heap.push {cls:=.type "dict",data:=.dict #[]}}) F.kt_called_dict (F.kt_typeCall_dict_1 _) F.entry_dict_init (kt_code_dict_new _ ⟨rfl,rfl⟩) ?_;rintro x s2 ⟨rfl,rfl⟩;have fresh:(s.heap.push {cls:=.type "dict",data:=.dict #[]}).DictOf knd s.heap.objs.size []:=Heap.DictOf.new s.heap;have X_:=W1 {cls:=.type "dict",data:=.dict #[]} ht;refine⟨fresh.typeIs,PySem.F.args_dict_init_2 _ _,?_⟩
 delta Builtin.«dict.__init__»
 refine T0 ?_
 delta Builtin.Dict.selfAndRest
 refine T0 (wpAny_notOrdered_dict (fresh.typeIs) ?_);show wpAny _ _ (pure (s.heap.objs.size,[Value.ref t])) _ _ _;refine v0 ?_;show wpAny _ _ (Builtin.Dict.updateFrom "dict.__init__" s.heap.objs.size (.ref t) [] .none) _ _ _
 delta Builtin.Dict.updateFrom
 refine T0 (B19 (T:="tuple") ⟨_,X_,rfl⟩ ?_);rw[M2 (by decide)];refine T0 (DN (A:=A.in1.in1) (a:=t) X_ tM (by decide +kernel) hA λ h1 tk e hx=>?_);rw[M2 (show(none:ε ζ).isNone=true from rfl)];refine T0 (A96 (T0 ?_));have _S:=hx.keeps t _ X_;have hT1:h1.IsTuple t its:=⟨_,_S,rfl,n,rfl⟩
 refine A97 (s:={s with heap:=h1,toks:=tk}) hT1 ?_;refine v0 ⟨Code.quiet_builtin _ (by decide +kernel),?_⟩;have L9:h1.DictOf knd s.heap.objs.size []:=by obtain⟨o,es,ep,ho,r⟩:=fresh;exact⟨o,es,ep,hx.keeps _ _ ho,r⟩
 have lN:s.heap.objs.size<h1.objs.size:=by obtain⟨o,es,ep,ho,r⟩:=L9;exact A00 ho
 have _R:t<s.heap.objs.size:=A00 ht;refine rW (A:=A.in1) (knd:=knd) (its:=its) (t:=t) hA (A10 lN) (A10 (B07 _R lN)) (A10 _R) r 0 [] {s with heap:=h1.push {cls:=.type "tuple_iterator",data:=.fields #[.ref t,.int 0 0]},toks:=tk} ?_ ?_ ?_ ?_ ?_ ?_
 ·exact⟨_,A11 _ rfl,rfl,rfl⟩
 ·exact⟨_,W1 _ _S,rfl,n,rfl⟩
 ·exact L9.push _
 ·intro j;rw[B31];refine⟨(hr j).1,λ p hp=>?_⟩;obtain⟨x,Pw,a,o,key,m,h2,h3,h4⟩:=(hr j).2 p hp;exact⟨x,Pw,a,o,key,m,h2,W1 _ (hx.keeps _ _ (W1 _ h3)),h4⟩
 ·simpa using hz
 ·intro h' _h pq hk;refine⟨rfl,h h' _h pq λ b o e=>?_⟩;have hb:=A00 e;exact hk b o (A10 hb) (A10 (B07 hb lN)) (W1 _ (hx.keeps _ _ (W1 _ e)))
end
end PySem
namespace ZS
open PySem PySem.Spec PyProof.Rows L2
section
theorem Inv.Wi(I:Inv X χ σ H s)(h:lx X.K H a xs):∃its n,Vals xs its/\s.heap.get? a=some {cls:=.type "tuple",data:=.seq its.toArray n}/\xs.length<=sizeLine:=by
 rcases h with h|⟨o,its,n,hk,hc,⟨hs,h1,h2⟩,hz,r⟩
 ·obtain⟨z,its,r,n,p⟩:=h.ok I.cC;exact⟨its,n,r,p,z⟩
 ·refine⟨_,n,r,?_,?_⟩
  ·obtain⟨c,d,dt,sl⟩:=o;simp only at hc hs h1 h2;subst hc hs h1 h2;simpa using I.B4 a _ hk
  ·have e:=r.length;simp only[B42]at e;lia
abbrev pD(p:Int×Int):Z.D:=.tup [.int p.1,.int p.2]
theorem pairs_at(I:Inv X χ σ H s):∀{ps}{vs}{its},aE X.K H (ps.map pD) vs->Vals vs its ->
  ∃rs,KV (Ki ps) rs/\rs.length=its.length/\∀(j:Nat) p,rs[j]?=some p->∃x,its[j]?=some x/\pS (cY X.prog X.w) s.heap x p
 |[],vs,its,d,v=>by simp only[A73]at d;subst d;cases v;exact⟨[],.nil,rfl,λ j p e=>nomatch e⟩
 |p::ps,vs,its,d,v=>by
  simp only[A05]at d;obtain⟨x,r,rfl,dx,t⟩:=d;cases v with
  |cons rx rt=>
   rename_i u us;obtain⟨rs,h1,h2,h3⟩:=pairs_at I t rt;simp only[Den]at dx;obtain⟨a,ws,rfl,hq,w1,r1,rfl,rfl,w2,r2,rfl,rfl,rfl⟩:=dx;obtain⟨g_,rv,⟨o,g1,g2,n,g3⟩,_⟩:=I.tuple hq;obtain rfl:u=Value.ref a:=rx;cases rv with
   |cons q1 rv=>
    cases rv with
    |cons q2 rv=>
     cases rv;obtain⟨t1,rfl⟩:=q1;obtain⟨t2,rfl⟩:=q2;refine⟨(Sum.inl p.1,Value.int p.2 t2)::rs,.cons ⟨rfl,t2,rfl⟩ h1,by simp[h2],λ j q e=>?_⟩;cases j with
     |zero=>cases e;exact⟨_,rfl,a,o,Value.int p.1 t1,n,rfl,g1,g2,by simpa using g3,pe p.1 t1⟩
     |succ j=>exact h3 j q e
theorem KV.keys{ps:γ (Int×Int)}:∀{qs}{rs:γ (Key×ζ)},KV qs rs->rs.map (·.1)=qs.map (·.1)
 |_,_,.nil=>rfl
 |_,_,.cons r t=>by rw[A05,A05,KV.keys (ps:=ps) t,r.1]
theorem stored_new{k:Key}(h:k∉kvs.map (·.1)):stored kvs k v=kvs++[(k,v)]:=by unfold stored;rw[f8];simp only[List.any_eq_true,A89,not_exists,not_and];intro q hq e;exact h (A08.mpr ⟨q,hq,e⟩)
theorem oh:∀(rs acc:γ (Key×ζ)),((acc++rs).map (·.1)).Nodup->rs.foldl (λ a p=>stored a p.1 p.2) acc=acc++rs
 |[],acc,_=>by simp
 |p::rs,acc,h=>by
  have hp:=λ hm=>by rw[A68,A05]at h;exact(List.nodup_append.mp h).2.2 _ hm _ (A12) rfl
  rw[B59,stored_new hp,oh rs _ (by simpa using h)];simp
theorem uK:∀{ps},(ps.map (·.1)).Nodup->((Ki ps).map (·.1)).Nodup
 |[],_=>B09
 |p::ps,h=>by rw[A05,A49]at h;refine A49.mpr ⟨λ hm=>h.1 ?_,uK h.2⟩;obtain⟨q,hq,e⟩:=A08.mp hm;obtain⟨y,hy,rfl⟩:=A08.mp hq;exact A08.mpr ⟨y,hy,Sum.inl.inj e⟩
theorem Hz(I:Inv X χ σ H s):sysModules<s.heap.objs.size:=by have h:=(I.mod.glob.keeps I.bk).lt;exact B07 (by decide) h
theorem w6(hc:X.calm=true):iG X (.type "dict") (λ xs H Q=>∃v ps,xs=[v]/\Den X.K H (.tup (ps.map pD)) v/\(ps.map (·.1)).Nodup/\ps.length<=sizeLine/\∀p o,H p=none->Q (.ref p) (upd H p (.fM o (.dK (Ki ps))))):=by
 intro χ s σ H xs us Q I r h;obtain⟨v,ps,rfl,d,hn,hl,q⟩:=h;obtain⟨u,rfl,rx⟩:=vals1 r;simp only[Den]at d;obtain⟨a,vs,rfl,hq,t⟩:=d;obtain rfl:u=Value.ref a:=rx;obtain⟨its,n,rv,ht,hz⟩:=Inv.Wi I hq;obtain⟨rs,h1,h2,h3⟩:=pairs_at I t rv;have hk:=KV.keys (ps:=ps) h1;have Yf:rs.length=ps.length:=by have:=A22 List.length hk;simpa[Ki]using this
 refine A8 (knd:=cY _ X.w) (I.ok.hd hc) ht (λ j=>⟨λ e=>?_,λ p e=>?_⟩) (by rw[Yf];exact hl) λ h' tk dd kp=>?_
 ·rw[List.getElem?_eq_none_iff]at e;simpa[<-h2]using e
 ·obtain⟨x,e1,e2⟩:=h3 j p e;exact⟨x,by simpa using e1,e2⟩
 ·rw[oh rs [] (by rw[B35,hk];exact uK hn),B35]at dd;obtain⟨o,es,ep,g1,g⟩:=dd;refine⟨.ref _,_,I.laid (o:=.fM o (.dK (Ki ps))) kp (o0 _) ⟨g1,by simpa[Ki]using hl,B68.mpr (A06 (A10 (Hz I))),rs,h1,o,es,ep,g1,g⟩,rfl,q _ o (I.cC.fresh (o0 _))⟩
theorem EZ:∀{ps}{vs} k c t,KV (Ki ps) vs->∃t',(valueAt vs (Sum.inl k)).getD (.int c t)=.int ((ps.lookup k).getD c) t'
 |[],_,k,c,t,.nil=>⟨t,rfl⟩
 |p::ps,_::vs,k,c,t,.cons r q=>by
  obtain⟨e1,t1,e2⟩:=r;unfold valueAt;by_cases h:p.1=k
  ·refine⟨t1,?_⟩;subst h;rw[List.find?_cons_of_pos (by rw[<-e1];simp),A82];simp[<-e2]
  ·obtain⟨t',e⟩:=EZ k c t q;refine⟨t',?_⟩;rw[List.find?_cons_of_neg (by rw[<-e1];simpa using h),A82,show(k==p.1)=false by simpa using λ z=>h z.symm];exact e
theorem _root_.ZQ.Le(hg:Gl X x2)(hm:X.mg x2=none)(hv:bootBuiltins x2=some (.type "dict"))(ha:ZQ.QE X a fa)(hk:ZQ.QE X kx fk)(YK:ZQ.QE X cx fc)(hc:X.calm=true:=by rfl)
  (hn:x2≠ "__name__":=by decide) (ji:Nd x2:=by rfl) (he:Se a [] X.env:=by rfl) (iV:Pn V1 [] X.env:=by rfl)
  (iD:attributeBase (.Call (.Name x2 p1) [a] [] V1) "get" X.env (eval (.Call (.Name x2 p1) [a] [] V1) X.env)=eval (.Call (.Name x2 p1) [a] [] V1) X.env:=by rfl)
  (lO:((backTo sM (starEach [kx,cx] X.env)).all (λ x=>!x.1)&&(backToKw sM (keywordEach [] X.env)).all (λ x=>x.1.isSome)
   && decide (([kx,cx]:γ θ).length+([]:γ π).length+(if([]:γ π).isEmpty then 0 else 1)<30))=true:=by rfl)
  (iC:(apos.endLine==sM.line)=true:=by rfl) (ht:backTo sM (starEach [kx,cx] X.env)=[(false,eval kx X.env),(false,eval cx X.env)]:=by rfl) :
  ZQ.QE X (.Call (.Attribute (.Call (.Name x2 p1) [a] [] V1) "get" apos) [kx,cx] [] sM) (Z.Ho fa fk fc):=⟨by
 have hk:=hk.p;have YK:=YK.p;intro χ s σ H Q I w;obtain⟨ρ,d,r,e,k⟩:=w;obtain⟨d0,e0,e⟩:=Z.Res.ax e;obtain⟨d1,e1,e⟩:=Z.Res.ax e;obtain⟨d2,e2,e⟩:=Z.Res.ax e;obtain⟨k',c',ps,rfl,rfl,rfl,VH,hl,rfl⟩:=Z.HB e;refine wpAny_Call_method_late iD lO iC ht (dB (j5 (w6 hc) hg hm hv (bF ha.p cI he) hn ji he iV χ s σ H (λ v H1=>∃q o',v=.ref q/\H1 q=some (.fM o' (.dK (Ki ps)))/\aH H H1) I
  ⟨ρ,_,r,e0,λ v H1 s1 dv=>⟨v,ps,rfl,dv,VH,by rw[A29];exact hl,λ p o hp=>⟨p,o,rfl,bC,s1.trans (cA hp)⟩⟩⟩) ?_)
 rintro u s1 ⟨v1,H1,I1,ru,q,o',rfl,hq,WI⟩;obtain rfl:u=Value.ref q:=ru;obtain⟨g0,_,_,_,_,oo,_,_,g1,gx,_⟩:=(I1.cC q _ hq)
 refine⟨"dict","dict.get",PySem.F.plainAttrs_dict,C45,PySem.F.type_dict_get,⟨oo,g1,gx.1⟩,λ b eb=>?_,?_⟩
 ·cases eb;exact⟨oo,g1,gx.2.1⟩
 refine Calls.callWith_builtin rfl (Calls.evalArgs_plain (B74 (dB (hk χ s1 σ H1 (λ v H2=>aH H1 H2/\Den X.K H2 (.int k') v) I1 ⟨ρ,_,r.up WI,e1,λ v H2 s2 dv=>⟨s2,dv⟩⟩) ?_)));rintro u2 s2 ⟨v2,H2,I2,W0,Af,dv2⟩;refine B74 (dB (YK χ s2 σ H2 (λ v H3=>aH H2 H3/\Den X.K H3 (.int c') v) I2 ⟨ρ,_,r.up (WI.trans Af),e2,λ v H3 s3 dv=>⟨s3,dv⟩⟩) ?_);rintro u3 s3 ⟨v3,H3,I3,ru3,Ae,dv3⟩;refine Calls.spliced_nil ?_;simp only[Den]at dv2 dv3;subst dv2 dv3;obtain⟨t2,rfl⟩:=W0;obtain⟨t3,rfl⟩:=ru3;obtain⟨_,hz,hd,vs,rel,dd⟩:=(I3.cC q _ (Ae _ _ (Af _ _ hq)))
 obtain⟨t',et⟩:=EZ k' c' t3 rel;refine call_meetsIn C45 dd.typeIs PySem.F.entry_dict_get (PySem.F.args_dict_get_3 _ _ _) (meets_dict_get_default (cY X.prog X.w) q (k:=(Sum.inl k':Key)) (show(cY X.prog X.w).is (Sum.inl k') (Value.int k' t2)=true from pe k' t2) hd (Value.int c' t3)) ⟨_,dd.mapOf,?_⟩;rw[et];exact⟨.int ((ps.lookup k').getD c'),H3,I3.tok _,⟨t',rfl⟩,k _ _ (WI.trans (Af.trans Ae)) (by simp only[Den])⟩⟩
end
end ZS
namespace ZQ
open PySem PySem.Spec PyProof.Rows L2 ZS
section
end
end ZQ
namespace ZS
open PySem PySem.Spec PyProof.Rows L2 PySem.W
end ZS
noncomputable section
namespace Z
def Ok{α:Type}(r:Res α)(Q:α->Prop):Prop:=∃a,r=.ok a/\Q a
theorem Ok.intro(h:r=.ok a)(q:Q a):Ok r Q:=⟨a,h,q⟩
theorem Ok.imp(h:Ok r P)(k:∀a,P a->Q a):Ok r Q:=let ⟨a,e,p⟩:=h;⟨a,e,k a p⟩
theorem Ok.eq(h:Ok r λ x=>x=a):r=.ok a:=by obtain⟨x,e,rfl⟩:=h;exact e
@[simp] theorem zG(a:α)(Q:α->Prop):Ok (.ok a) Q↔Q a:=⟨λ⟨_,e,q⟩=>by cases e;exact q,λ q=>⟨a,rfl,q⟩⟩
@[simp] theorem Z0(Q:α->Prop):Ok (.bad) Q↔False:=⟨λ⟨_,e,_⟩=>(by cases e),False.elim⟩
@[simp] theorem qW(r:Res α)(f:α->Res β)(Q:β->Prop):Ok (r.bind f) Q↔Ok r λ a=>Ok (f a) Q:=by
 cases r with
 |ok a=>simp
 |bad=>simp
@[simp] theorem ZY(r:Res α)(f:α->β)(Q:β->Prop):Ok (r.map f) Q↔Ok r λ a=>Q (f a):=by
 cases r with
 |ok a=>simp
 |bad=>simp
@[simp] theorem Ue(p:Prop)(r:Res α)(Q:α->Prop):Ok (guard p r) Q↔p/\Ok r Q:=by
 constructor
 ·rintro⟨a,e,q⟩;obtain⟨h,e⟩:=fQ e;exact⟨h,a,e,q⟩
 ·rintro⟨h,k⟩;rw[guard_pos h];exact k
@[simp] theorem ZZ[Decidable c](r r':Res α)(Q:α->Prop):Ok (if c then r else r') Q↔if c then Ok r Q else Ok r' Q:=by split<;>rfl
abbrev v(d:D):ε L:=some (.val d)
abbrev vi(i:Int):ε L:=some (.val (.int i))
abbrev vs(cs:γ Nat):ε L:=some (.val (.str cs))
abbrev ow(xs:γ D):ε L:=some (.own xs)
abbrev bo(xs:γ D):ε L:=some (.bor (.lst xs))
def T4:ε (ε L)->Res D
 |some (some (.val d))=>.ok d
 |some (some (.own xs))=>.ok (.lst xs)
 |some (some (.bor (.lst xs)))=>.ok (.lst xs)
 |_=>.bad
def ZN:ε (ε L)->Res D
 |some (some (.val d))=>.ok d
 |_=>.bad
@[simp] theorem Zs(i:Nat)(ρ:Env):eW i ρ=T4 ρ[i]?:=by
 unfold eW T4;cases ρ[i]? with
 |none=>rfl
 |some o=>cases o with
  |none=>rfl
  |some l=>cases l<;>rfl
@[simp] theorem adm(i:Nat)(ρ:Env):eV i ρ=ZN ρ[i]?:=by
 unfold eV ZN;cases ρ[i]? with
 |none=>rfl
 |some o=>cases o with
  |none=>rfl
  |some l=>cases l<;>rfl
@[simp] theorem Lu(d:D):T4 (some (some (.val d)))=.ok d:=rfl
@[simp] theorem Lv(xs:γ D):T4 (some (some (.own xs)))=.ok (.lst xs):=rfl
@[simp] theorem V6(xs:γ D):T4 (some (some (.bor (.lst xs))))=.ok (.lst xs):=rfl
@[simp] theorem V7(d:D):ZN (some (some (.val d)))=.ok d:=rfl
theorem aD{b:SF}(h:Ok (b ρ) λ fl=>br (.ok fl)=.ok d):br (b ρ)=.ok d:=by obtain⟨fl,e,q⟩:=h;rw[e,q]
theorem lD{b:SF}(h:Ok (b ρ) λ fl=>Ok (br (.ok fl)) P):Ok (br (b ρ)) P:=by obtain⟨fl,e,q⟩:=h;rw[e];exact q
@[simp] theorem UT(ρ:Env):QD ρ=.ok (.ct ρ):=rfl
@[simp] theorem QF(ρ:Env):MH ρ=.ok (.bk ρ):=rfl
@[simp] theorem WS(e:EF)(g:GF)(ρ:Env):C! e g ρ=(e ρ).bind λ d=>(g d ρ).bind λ ρ'=>.ok (.nx ρ'):=rfl
@[simp] theorem S6(i j:Nat)(a b:D)(ρ:Env):fB [i,j] (.tup [a,b]) ρ=.ok ((ρ.set i (v a)).set j (v b)):=rfl
def T7(i:Nat)(ρ:Env)(d:D):ε (ε L)->Res Fl
 |some (some (.own xs))=>guard (xs.length<line) (.ok (.nx (ρ.set i (ow (xs++[d])))))
 |_=>.bad
@[simp] theorem Pa(i:Nat)(e:EF)(ρ:Env):dC i e ρ=(e ρ).bind λ d=>T7 i ρ d ρ[i]?:=rfl
@[simp] theorem T6(i:Nat)(ρ:Env)(d:D)(xs:γ D):T7 i ρ d (some (some (.own xs)))=guard (xs.length<line) (.ok (.nx (ρ.set i (ow (xs++[d]))))):=rfl
def Tg(i:Nat)(ρ:Env)(ys:γ D):ε (ε L)->Res Fl
 |some (some (.own xs))=>guard (xs.length+ys.length<=line) (.ok (.nx (ρ.set i (ow (xs++ys)))))
 |_=>.bad
@[simp] theorem WU(i:Nat)(l:LF)(ρ:Env):qr i l ρ=(l ρ).bind λ ys=>Tg i ρ ys ρ[i]?:=rfl
@[simp] theorem Tf(i:Nat)(ρ:Env)(ys xs:γ D):Tg i ρ ys (some (some (.own xs)))=guard (xs.length+ys.length<=line) (.ok (.nx (ρ.set i (ow (xs++ys))))):=rfl
def G'(i:Nat)(ρ:Env):ε (ε L)->Env
 |some (some (.own xs))=>ρ.set i (v (.lst xs))
 |_=>ρ
@[simp] theorem WT(i:Nat)(a:SF)(ρ:Env):vM i a ρ=a (G' i ρ ρ[i]?):=by
 unfold vM fM G';cases ρ[i]? with
 |none=>rfl
 |some o=>cases o with
  |none=>rfl
  |some l=>cases l<;>rfl
@[simp] theorem S_(i:Nat)(ρ:Env)(xs:γ D):G' i ρ (some (some (.own xs)))=ρ.set i (v (.lst xs)):=rfl
@[simp] theorem S?(i:Nat)(ρ:Env)(d:D):G' i ρ (some (some (.val d)))=ρ:=rfl
@[simp] theorem PR(i:Nat)(ρ:Env):G' i ρ (some none)=ρ:=rfl
def TH:D->D->Res (γ D)
 |.lst xs,.lst ys=>guard (xs.length+ys.length<=line) (.ok (xs++ys))
 |_,_=>.bad
theorem r8(a b:EF)(ρ:Env):n8 a b ρ=(a ρ).bind λ x=>(b ρ).bind λ y=>TH x y:=rfl
@[simp] theorem TC(xs ys:γ D):TH (.lst xs) (.lst ys)=guard (xs.length+ys.length<=line) (.ok (xs++ys)):=rfl
def _m(l h:ε Int):D->Res (γ D)
 |.lst xs=>.ok (cut xs l h)
 |_=>.bad
theorem Gv(a:EF)(lo hi:PF)(ρ:Env):Ke a lo hi ρ=(a ρ).bind λ x=>(lo ρ).bind λ l=>(hi ρ).bind λ h=>_m l h x:=rfl
@[simp] theorem UJ(l h:ε Int)(xs:γ D):_m l h (.lst xs)=.ok (cut xs l h):=rfl
@[simp] theorem U5(xs:γ D)(l h:ε Int):Rb (.tup xs) l h=.ok (.tup (cut xs l h)):=rfl
@[simp] theorem Ra(cs:γ Nat)(l h:ε Int):Rb (.str cs) l h=guard (cs.length<=line) (.ok (.str (cut cs l h))):=rfl
@[simp] theorem Dt(a b:γ Nat):aX (.str a) (.str b)=guard (a.length+b.length<=line) (.ok (.str (a++b))):=rfl
@[simp] theorem Ph(a b:γ D):aX (.tup a) (.tup b)=guard (a.length+b.length<=line) (.ok (.tup (a++b))):=rfl
@[simp] theorem F7(a:Int):yx (.int a)=.ok (.int (-a)):=rfl
@[simp] theorem Rv:iS .non=.ok (.bl true):=rfl
@[simp] theorem Ru(xs:γ D):iS (.tup xs)=.ok (.bl false):=rfl
@[simp] theorem Pg:d6 .non=.ok (.bl false):=rfl
@[simp] theorem Pf(xs:γ D):d6 (.tup xs)=.ok (.bl true):=rfl
theorem je(a b:Nat)(hb:b<=1000000)(ha:a<18446744073709551616):mX (.int (a)) (.int (b))=.ok (.int ((a^b:Nat))):=by
 have h:(0:Int)<=b/\(b:Int)<=1000000/\(a:Int).natAbs<2^64:=⟨by lia,by lia,by rw[Int.natAbs_natCast];exact ha⟩
 show guard _ _=_;rw[guard_pos h,A85,Int.natCast_pow]
@[simp] theorem W?:mX (.int 10) (.int 60)=.ok (.int 1000000000000000000000000000000000000000000000000000000000000):=je 10 60 (by decide) (by decide)
@[simp] theorem W_:mX (.int 10) (.int 59)=.ok (.int 100000000000000000000000000000000000000000000000000000000000):=je 10 59 (by decide) (by decide)
@[simp] theorem Xa:mX (.int 10) (.int 55)=.ok (.int 10000000000000000000000000000000000000000000000000000000):=je 10 55 (by decide) (by decide)
@[simp] theorem Xb:mX (.int 10) (.int 50)=.ok (.int 100000000000000000000000000000000000000000000000000):=je 10 50 (by decide) (by decide)
@[simp] theorem U3:mX (.int 7919) (.int 9)=.ok (.int 122470950010456506152021579891552879):=je 7919 9 (by decide) (by decide)
def atK:ε D->Res D
 |some d=>.ok d
 |none=>.bad
@[simp] theorem TZ(d:D):atK (some d)=.ok d:=rfl
theorem JZ(xs:γ D)(i:Int):aI (.tup xs) (.int i)=atK ((ph xs.length i).bind λ j=>xs[j]?):=by show(match (ph _ i).bind λ j=>xs[j]? with|some v=>Res.ok v|none=>.bad)=_;cases (ph _ i).bind λ j=>xs[j]?<;>rfl
theorem BU(xs:γ D)(i:Int):aI (.lst xs) (.int i)=atK ((ph xs.length i).bind λ j=>xs[j]?):=by show(match (ph _ i).bind λ j=>xs[j]? with|some v=>Res.ok v|none=>.bad)=_;cases (ph _ i).bind λ j=>xs[j]?<;>rfl
theorem c9{i:Int}{j:Nat}(h:i=j)(e:xs[j]?=some d):aI (.tup xs) (.int i)=.ok d/\aI (.lst xs) (.int i)=.ok d:=by
 subst h;have hj:=(A02.mp e).1;have:ph xs.length (j)=some j:=by simp[ph,hj]
 rw[JZ,BU,this];simp[e]
theorem GB{i:Int}{j c:Nat}(h:i=j)(e:cs[j]?=some c)(hl:cs.length<=line):aI (.str cs) (.int i)=.ok (.str [c]):=by
 subst h;have hj:=(A02.mp e).1;have:ph cs.length (j)=some j:=by simp[ph,hj]
 show guard _ _=_;rw[guard_pos hl,this];simp[e]
theorem wg(h0:0<=i)(h1:i<xs.length):∃d∈xs,aI (.lst xs) (.int i)=.ok d/\aI (.tup xs) (.int i)=.ok d:=by
 have hj:i.toNat<xs.length:=by lia
 refine⟨xs[i.toNat],A93 hj,?_⟩;have:=c9 (i:=i) (by lia) (A01 hj);exact⟨this.2,this.1⟩
def turn(I:Env->Prop)(Q:Fl->Prop):Fl->Prop
 |.nx ρ=>I ρ
 |.ct ρ=>I ρ
 |.bk ρ=>Q (.nx ρ)
 |.rt d=>Q (.rt d)
@[simp] theorem jz(I:Env->Prop)(Q:Fl->Prop)(ρ:Env):turn I Q (.nx ρ)↔I ρ:=Iff.rfl
@[simp] theorem Uy(I:Env->Prop)(Q:Fl->Prop)(ρ:Env):turn I Q (.ct ρ)↔I ρ:=Iff.rfl
@[simp] theorem Uz(I:Env->Prop)(Q:Fl->Prop)(ρ:Env):turn I Q (.bk ρ)↔Q (.nx ρ):=Iff.rfl
@[simp] theorem Ux(I:Env->Prop)(Q:Fl->Prop)(d:D):turn I Q (.rt d)↔Q (.rt d):=Iff.rfl
theorem G!(I:Nat->Env->Prop):∀ds ρ i,I i ρ->(∀j d ρ,ds[j]?=some d->I (i+j) ρ->Ok (g d ρ) λ ρ1=>Ok (b ρ1) (turn (I (i+j+1)) Q))->(∀ρ,I (i+ds.length) ρ->Q (.nx ρ))->Ok (iP g b ds ρ) Q
 |[],ρ,i,h,_,e=>by simpa[iP]using e ρ h
 |d::ds,ρ,i,h,k,e=>by
  obtain⟨ρ1,e1,fl,e2,t⟩:=k 0 d ρ rfl h;have ih:=λ ρ' (h')=>G! I ds ρ' (i+1) h' (λ j x ρ hj hP=>by have:=k (j+1) x ρ (by simpa using hj) (by simpa[C15,B12 1 j]using hP);simpa[C15,B12 1 j]using this) (λ ρ hP=>e ρ (by simpa[C15,B12 1]using hP))
  unfold iP;rw[e1,Res.fW,e2,Res.fW];cases fl with
  |nx ρ'=>exact ih ρ' (by simpa using t)
  |ct ρ'=>exact ih ρ' (by simpa using t)
  |bk ρ'=>simpa using t
  |rt d=>simpa using t
theorem dE(I:Nat->Env->Prop)(h0:I 0 ρ)(hs:∀j d ρ,ds[j]?=some d->I j ρ->Ok (g d ρ) λ ρ1=>Ok (b ρ1) (turn (I (j+1)) Q))(he:∀ρ,I ds.length ρ->Q (.nx ρ)):Ok (iP g b ds ρ) Q:=
 G! I ds ρ 0 h0 (λ j d ρ hd hI=>by rw[B31]at hI ⊢;exact hs j d ρ hd hI) (λ ρ h=>he ρ (by rwa [B31]at h))
theorem Cs(p:D->Bool)(h:D->D)(hs:∀d∈ds,Ok (g d ρ) λ ρ1=>Ok (t ρ1) λ c=>c=p d/\(p d=true->Ok (e ρ1) λ y=>y=h d))(hq:Q ((ds.filter p).map h)):Ok (a9 g t e ρ ds) Q:=by refine⟨_,mP ds λ d hd=>?_,hq⟩;obtain⟨ρ1,e1,c,e2,hc,k⟩:=hs d hd;exact⟨ρ1,e1,by rw[e2,hc],λ hp=>(k hp).eq⟩
theorem comp_map(h:D->D)(hs:∀d∈ds,Ok (g d ρ) λ ρ1=>Ok (e ρ1) λ y=>y=h d)(hq:Q (ds.map h)):Ok (a9 g bD e ρ ds) Q:=by refine⟨_,sN ds λ d hd=>?_,hq⟩;obtain⟨ρ1,e1,k⟩:=hs d hd;rw[e1];exact k.eq
theorem bE{α:Type}(enc:α->D)(f:α->Bool)(h:α->D):∀{xs:γ α}{Q},(∀x∈xs,Ok (g (enc x) ρ) λ ρ1=>Ok (t ρ1) λ c=>c=f x/\(f x=true->Ok (e ρ1) λ y=>y=h x))->Q ((xs.filter f).map h)->Ok (a9 g t e ρ (xs.map enc)) Q:=by
 intro xs Q hs hq;refine⟨_,?_,hq⟩;clear hq
 induction xs with
 |nil=>rfl
 |cons x xs ih=>
  obtain⟨ρ1,e1,c,e2,hc,k⟩:=hs x A12;have _J:=ih λ y hy=>hs y (A09 _ hy);cases hf:f x with
  |true=>rw[hf]at hc;have:=(k hf).eq;simp[a9,e1,e2,hc,this,_J,hf]
  |false=>rw[hf]at hc;simp[a9,e1,e2,hc,_J,hf]
theorem my{α:Type}[DecidableEq α]{h:α->D}(k:∀x y,f (h x) (h y)=some (decide (x=y))):∀(xs ys:γ α),allEq f (xs.map h) (ys.map h)=some (decide (xs=ys))
 |[],[]=>rfl
 |[],_::_=>rfl
 |_::_,[]=>rfl
 |x::xs,y::ys=>by simp[allEq,k,my k xs ys]
end Z
end
set_option maxRecDepth 4000
noncomputable section
namespace KA
open Z
def fz:SF:=(aR (lV (eB oEq (eU b7 (eW 0)) (eC (.int 1))) (hU oLe oLe (eC (.str [97])) (eW 0) (eC (.str [122])))))
def c4:γ D->Res D:=fn 1 1 fz
theorem kM(x0:D):c4 [x0]=br (fz [some (.val x0)]):=bL _ _ _ _ rfl
def i!:SF:=(aR (Oo (eB Ds (eW 0) (dF (aa (eC (.str [46])) (aa (eC (.str [61])) (aa (eC (.str [35])) av))))) (aw c4 (aa (eV 0) av))))
def jm:γ D->Res D:=fn 1 1 i!
theorem A3(x0:D):jm [x0]=br (i! [some (.val x0)]):=bL _ _ _ _ rfl
def fy:SF:=(ay (d! (qp (dM (tE (eU (fJ .str) (eW 0)))) (dM (tE (hU oLe oLe (eC (.int 1)) (eU b7 (eW 0)) (eC (.int 12)))))) (aR (eC (.bl false))) aT) (aR (eU g? (eL (bK (dh (eW 0)) 1 [] (aJ 0) bD (aw jm (aa (eV 0) av)))))))
def i9:γ D->Res D:=fn 1 1 fy
theorem hJ(x0:D):i9 [x0]=br (fy [some (.val x0)]):=bL _ _ _ _ rfl
def dJ:SF:=(ay (d! (qp (dM (tE (eU (fJ .tuple) (eW 0)))) (dM (tE (hU oLe oLe (eC (.int 1)) (eU b7 (eW 0)) (eC (.int 6)))))) (aR (eC (.bl false))) aT) (ay (d! (dM (tE (eU g? (eL (bK (dh (eW 0)) 1 [] (aJ 0) bD (aw i9 (aa (eV 0) av))))))) (aR (eC (.bl false))) aT) (aR (eU g? (eL (bK (dh (eW 0)) 1 [0] (aJ 0) bD (eB oEq (eU b7 (eW 0)) (eU b7 (eB aI (eW 1) (eC (.int 0)))))))))))
def jn:γ D->Res D:=fn 1 1 dJ
theorem f?(x0:D):jn [x0]=br (dJ [some (.val x0)]):=bL _ _ _ _ rfl
def cH:SF:=(ay (d! (tE (eB oLt (eW 1) (eU b7 (eW 0)))) (aR (eB aI (eW 0) (eW 1))) aT) (aR (eC (.int 0))))
def aN:γ D->Res D:=fn 2 2 cH
theorem fm(x0 x1:D):aN [x0,x1]=br (cH [some (.val x0),some (.val x1)]):=bL _ _ _ _ rfl
def da:SF:=(ay (d! (tE (eB oEq (eB oMod (eB oDiv (eW 0) (eC (.int 1000003))) (eC (.int 2))) (eC (.int 1)))) (aR (eB oMod (eB JV (eB oDiv (eW 0) (eC (.int 2000006))) (eB fA (eC (.int 12)) (eW 1))) (eC (.int 4096)))) aT) (ay (aO 2 (eB oMod (eB fA (eB aX (eB aX (eB oMod (eW 0) (eC (.int 2147483647))) (eB fA (eB fA (eC (.int 7919)) (eW 1)) (eW 1))) (eW 1)) (eC (.int 48271))) (eC (.int 2147483647)))) (ay (aO 2 (eB oMod (eB fA (eW 2) (eW 2)) (eC (.int 1000003)))) (aR (eB oMod (eB aX (eB aX (eB fA (eW 2) (eW 2)) (eB fA (eC (.int 69621)) (eW 2))) (eW 1)) (eC (.int 998244353)))))))
def bx:γ D->Res D:=fn 2 3 da
theorem kL(x0 x1:D):bx [x0,x1]=br (da [some (.val x0),some (.val x1),none]):=bL _ _ _ _ rfl
def dY:SF:=(ay (aO 1 (eC (.str aS))) (aR (eL (bg (aa (eB aI (eW 1) (eB oMod (eB oDiv (eW 0) (eC (.int 100))) (eC (.int 26)))) (aa (eB aI (eW 1) (eB oMod (eB oDiv (eW 0) (eC (.int 2600))) (eC (.int 26)))) av))))))
def bN:γ D->Res D:=fn 1 2 dY
theorem jq(x0:D):bN [x0]=br (dY [some (.val x0),none]):=bL _ _ _ _ rfl
def dA:SF:=(ay (aO 4 (eB aX (eC (.int 1)) (eB oMod (eW 1) (eW 2)))) (ay (aO 5 (eB aX (eC (.int 1)) (eB oMod (eB oDiv (eW 1) (eC (.int 8))) (eW 3)))) (ay (aO 6 (eL (n8 (eL (n8 (eL (bg (aa (eC (.str [46])) (aa (eC (.str [46])) (aa (eC (.str [61])) (aa (eC (.str [46])) av)))))) (aw bN (aa (eV 1) av)))) (eL (bg (aa (eC (.str [35])) (aa (eC (.str [46])) av))))))) (ay (aO 7 (aw aN (aa (eV 0) (aa (eC (.int 0)) av)))) (ay (jQ 8 (bg av)) (ay (eZ (dP (eB fA (eW 4) (eW 5))) (aJ 9) (ay (d! (tE (eB oEq (eB oMod (eW 9) (eW 5)) (eC (.int 0)))) (dC 8 (eC (.str []))) aT) (ay (aO 10 (eB aI (eW 6) (eB oMod (aw bx (aa (aw aN (aa (eV 0) (aa (eV 9) av))) (aa (eV 9) av))) (eC (.int 8))))) (ay (d! (tE (eB oEq (eB oMod (eB oDiv (eW 1) (eC (.int 67600))) (eC (.int 2))) (eC (.int 1)))) (ay (aO 10 (eB aI (eC (.str signs)) (eB oMod (eW 7) (eC (.int 29))))) (aO 7 (eB oDiv (eW 7) (eC (.int 29))))) aT) (vK 8 (eU yx (eC (.int 1))) (eB aX (eB aI (eW 8) (eU yx (eC (.int 1)))) (eW 10))))))) (aR (eU dX (eW 8)))))))))
def dS:γ D->Res D:=fn 4 11 dA
theorem jK(x0 x1 x2 x3:D):dS [x0,x1,x2,x3]=br (dA [some (.val x0),some (.val x1),some (.val x2),some (.val x3),none,none,none,none,none,none,none]):=bL _ _ _ _ rfl
end KA
end
set_option maxRecDepth 8000
namespace KA
open Z
def Ih(xs:γ D):Prop:=∀d∈xs,∃c,d=.int c
theorem i4(hx:Ih xs)(h:0<=k):∃c,aN [.lst xs,.int k]=.ok (.int c):=by
 by_cases hk:k<xs.length
 ·obtain⟨d,hd,e,_⟩:=wg h hk;obtain⟨c,rfl⟩:=hx d hd;refine⟨c,?_⟩;rw[fm];refine aD ?_;simp[cH,hk,e]
 ·refine⟨0,?_⟩;rw[fm];refine aD ?_;simp[cH,hk]
theorem mixed(c:Int)(h0:0<=k)(h1:k<=1000):∃m,bx [.int c,.int k]=.ok (.int m)/\0<=m:=by
 have f1:bS 12 k:=cN (by decide) (by decide);have f2:bS 7919 k:=cN (by decide) (by decide);have f3:bS (7919*k) k:=i8 (by lia) (by lia);have f4:∀x,bS x 48271:=λ x=>i8 (by decide) (by decide);have f5:∀x,bS (x % 2147483647) (x % 2147483647):=λ x=>cN (by lia) (by lia);have f6:∀x,bS (x % 1000003) (x % 1000003):=λ x=>cN (by lia) (by lia);have f7:∀x,bS 69621 x:=λ x=>cN (by decide) (by decide);have hk:(0)<=12*k:=by lia
 rw[kL];have:Ok (br (da [v (.int c),v (.int k),none])) λ d=>∃m,d=.int m/\0<=m:=by
  refine lD ?_;by_cases h:c / 1000003 % 2=1
  ·simp[da,cE,h];lia
  ·simp[da,cE,f1,f2,f3,f4,f5,f6,f7,hk,h];lia
 obtain⟨d,e,m,rfl,hm⟩:=this;exact⟨m,e,hm⟩
theorem gi(z:Int):∃q∈aS,aI (.str aS) (.int (z % 26))=.ok (.str [q]):=
 r? (by lia) (by simp[aS];lia) (by decide)
theorem sign_of(z:Int):∃q∈signs,aI (.str signs) (.int (z % 29))=.ok (.str [q]):=
 r? (by lia) (by simp[signs];lia) (by decide)
theorem gC(h:q∈aS):q∈signs:=(by decide:∀q∈aS,q∈signs) q h
theorem kE(h:Int):∃a b,a∈aS/\b∈aS/\bN [.int h]=.ok (.lst [.str [a],.str [b]]):=by obtain⟨a,ha,ea⟩:=gi (h / 100);obtain⟨b,hb,eb⟩:=gi (h / 2600);refine⟨a,b,ha,hb,?_⟩;rw[jq];refine aD ?_;simp[dY,cE,ea,eb,line]
abbrev Rows:=γ (γ Nat)
def Shape(L:Nat)(k:Nat)(rows:Rows):Prop:=(k=0/\rows=[])\/∃full last,rows=full++[last]/\(∀x∈full,x.length=L)/\1<=last.length/\last.length<=L/\k=full.length*L+last.length
theorem Shape.end{L R:Nat}(hL:1<=L)(hR:1<=R)(h:Shape L (R*L) rows):rows.length=R/\∀x∈rows,x.length=L:=by
 rcases h with⟨h,_⟩|⟨full,last,rfl,hf,h1,h2,h3⟩
 ·have:=A61 hR hL;lia
 ·have lN:full.length<R:=by apply Nat.lt_of_mul_lt_mul_right (a:=L);lia
  obtain⟨m,hm⟩:∃m,R=full.length+1+m:=⟨R-(full.length+1),by lia⟩
  have e:R*L=full.length*L+L+m*L:=by rw[hm,B37,B37,Nat.one_mul]
  have hm0:m=0:=by
   rcases Nat.eq_zero_or_pos m with h|h
   ·exact h
   ·have:=A61 h hL;lia
  subst hm0;refine⟨by simp;lia,λ x hx=>?_⟩;rcases A25.mp hx with hx|hx
  ·exact hf x hx
  ·rw[A13]at hx;subst hx;lia
theorem Shape.len{L k:Nat}(hL:1<=L)(h:Shape L k rows):rows.length<=k:=by
 rcases h with⟨h,rfl⟩|⟨full,last,rfl,hf,h1,h2,h3⟩
 ·simp
 ·have:full.length*1<=full.length*L:=Nat.mul_le_mul_left _ hL;simp;lia
def fresh(L j:Nat)(rows:Rows):Rows:=if j % L=0 then rows++[[]]else rows
theorem Shape.step{L j:Nat}(hL:1<=L)(h:Shape L j rows):∃full last,fresh L j rows=full++[last]/\last.length<L/\(∀s,Shape L (j+1) (full++[last++[s]]))/\((∀x∈rows,∀c∈x,c∈signs)->(∀x∈full,∀c∈x,c∈signs)/\∀c∈last,c∈signs):=by
 rcases h with⟨rfl,rfl⟩|⟨full,last,rfl,hf,h1,h2,h3⟩
 ·refine⟨[],[],by simp[fresh],by simp;lia,λ s=>Or.inr ⟨[],[s],rfl,by simp,by simp,by simpa using hL,by simp⟩,by simp⟩
 ·by_cases e:last.length=L
  ·have e0:j % L=0:=by rw[h3,e,<-B38];exact Nat.mul_mod_left _ _
   refine⟨full++[last],[],by simp[fresh,e0],by simp;lia,λ s=>Or.inr ⟨full++[last],[s],rfl,?_,by simp,by simpa using hL,?_⟩,λ h=>⟨h,by simp⟩⟩
   ·intro x hx;rcases A25.mp hx with hx|hx
    ·exact hf x hx
    ·rw[A13]at hx;subst hx;exact e
   ·simp;lia
  ·have e0:j % L≠0:=by rw[h3,B12,Nat.add_mul_mod_self_right,Nat.mod_eq_of_lt (by lia)];lia
   refine⟨full,last,by simp[fresh,e0],by lia,λ s=>Or.inr ⟨full,last++[s],rfl,hf,by simp,by simp;lia,by simp;lia⟩,λ h=>⟨λ x hx=>h x (B15 _ hx),h last (by simp)⟩⟩
structure Hall(R L:Nat)(rows:Rows):Prop where
 r1:1<=R
 r2:R<=6
 l1:1<=L
 l2:L<=12
 len:rows.length=R
 each:∀x∈rows,x.length=L
 sg:∀x∈rows,∀c∈x,c∈signs
noncomputable def Lr:SF:=(d! (tE (eB oEq (eB oMod (eW 9) (eW 5)) (eC (.int 0)))) (dC 8 (eC (.str []))) aT)
theorem HX(x0 x1 x2 x3 x4 x6 x7 Bt:ε Z.L)(L j:Nat)(hL:1<=L)(rows:Rows)(hr:rows.length<16777216):Lr [x0,x1,x2,x3,x4,vi L,x6,x7,ow (rows.map .str),vi j,Bt]=.ok (.nx [x0,x1,x2,x3,x4,vi L,x6,x7,ow ((fresh L j rows).map .str),vi j,Bt]):=by
 have h0:0<L:=by lia
 by_cases e:j % L=0
 ·have e':(j) % (L:Int)=0:=by exact_mod_cast e
  simp[Lr,h0,e',fresh,e,hr,guard_pos]
 ·have e':¬(j) % (L:Int)=0:=by exact_mod_cast e
  simp[Lr,h0,e',fresh,e,line]
noncomputable def HW:SF:=(aO 10 (eB aI (eW 6) (eB oMod (aw bx (aa (aw aN (aa (eV 0) (aa (eV 9) av))) (aa (eV 9) av))) (eC (.int 8)))))
def Sg(sg:γ D):Prop:=sg.length=8/\∀d∈sg,∃c∈signs,d=.str [c]
theorem Cy(hx:Ih xs)(hs:Sg sg)(j:Nat)(hj:j<=1000)(x1 x2 x3 x4 x5 x7 x8 Bt:ε Z.L):∃s∈signs,HW [v (.lst xs),x1,x2,x3,x4,x5,v (.lst sg),x7,x8,vi j,Bt]=.ok (.nx [v (.lst xs),x1,x2,x3,x4,x5,v (.lst sg),x7,x8,vi j,vs [s]]):=by obtain⟨c,ec⟩:=i4 hx (k:=(j)) (by lia);obtain⟨m,em,hm⟩:=mixed c (k:=(j)) (by lia) (by lia);obtain⟨d,hd,ed,_⟩:=wg (xs:=sg) (i:=m % 8) (C16 _ (by decide)) (by rw[hs.1];lia);obtain⟨s,hs,rfl⟩:=hs.2 d hd;exact⟨s,hs,by simp[HW,ec,em,ed]⟩
noncomputable def CF:SF:=(d! (tE (eB oEq (eB oMod (eB oDiv (eW 1) (eC (.int 67600))) (eC (.int 2))) (eC (.int 1)))) (ay (aO 10 (eB aI (eC (.str signs)) (eB oMod (eW 7) (eC (.int 29))))) (aO 7 (eB oDiv (eW 7) (eC (.int 29))))) aT)
theorem BY(h c:Int)(s:Nat)(hs:s∈signs)(x0 x2 x3 x4 x5 x6 x8 x9:ε Z.L):∃c',∃s'∈signs,CF [x0,vi h,x2,x3,x4,x5,x6,vi c,x8,x9,vs [s]]=.ok (.nx [x0,vi h,x2,x3,x4,x5,x6,vi c',x8,x9,vs [s']]):=by
 obtain⟨a,ha,ea⟩:=sign_of c;by_cases e:h / 67600 % 2=1
 ·exact⟨c / 29,a,ha,by simp[CF,cE,e,ea]⟩
 ·exact⟨c,s,hs,by simp[CF,cE,e]⟩
theorem Kq(full:Rows)(last:γ Nat):aI (.lst ((full++[last]).map D.str)) (.int (-1))=.ok (.str last):=by
 have e:ph ((full++[last]).map D.str).length (-1)=some full.length:=by simp[ph];lia
 simp only[aI,e];simp
theorem FG(full:Rows)(last s:γ Nat):ph ((full++[last]).map D.str).length (-1)=some full.length/\((full++[last]).map D.str).set full.length (.str s)=(full++[s]).map D.str:=by refine⟨by simp[ph];lia,?_⟩;simp
noncomputable def O0:SF:=(vK 8 (eU yx (eC (.int 1))) (eB aX (eB aI (eW 8) (eU yx (eC (.int 1)))) (eW 10)))
theorem FF(full:Rows)(last:γ Nat)(s:Nat)(hl:last.length<100)(x0 x1 x2 x3 x4 x5 x6 x7 x9:ε Z.L):O0 [x0,x1,x2,x3,x4,x5,x6,x7,ow ((full++[last]).map .str),x9,vs [s]]=.ok (.nx [x0,x1,x2,x3,x4,x5,x6,x7,ow ((full++[last++[s]]).map .str),x9,vs [s]]):=by
 have e1:=Kq full last;obtain⟨e2,e3⟩:=FG full last (last++[s]);have e4:aX (.str last) (.str [s])=.ok (.str (last++[s])):=by rw[Dt,guard_pos];simp;lia
 simp only[O0,vK,Zz,Zt,Zw,Zs,Lu,Lv,F7,Res.bind,B95,C08,e1,e4,e2,e3,B62,C17]
theorem eb:dA=(ay (aO 4 (eB aX (eC (.int 1)) (eB oMod (eW 1) (eW 2)))) (ay (aO 5 (eB aX (eC (.int 1)) (eB oMod (eB oDiv (eW 1) (eC (.int 8))) (eW 3)))) (ay (aO 6 (eL (n8 (eL (n8 (eL (bg (aa (eC (.str [46])) (aa (eC (.str [46])) (aa (eC (.str [61])) (aa (eC (.str [46])) av)))))) (aw bN (aa (eV 1) av)))) (eL (bg (aa (eC (.str [35])) (aa (eC (.str [46])) av))))))) (ay (aO 7 (aw aN (aa (eV 0) (aa (eC (.int 0)) av)))) (ay (jQ 8 (bg av)) (ay (eZ (dP (eB fA (eW 4) (eW 5))) (aJ 9) (ay Lr (ay HW (ay CF O0)))) (aR (eU dX (eW 8))))))))):=rfl
theorem hall(hx:Ih xs)(h:Int):∃R L rows,Hall R L rows/\dS [.lst xs,.int h,.int 6,.int 12]=.ok (.tup (rows.map .str)):=by
 obtain⟨R,hR⟩:∃R:Nat,1+h % 6=R:=⟨(1+h % 6).toNat,by lia⟩
 obtain⟨L,hL⟩:∃L:Nat,1+h / 8 % 12=L:=⟨(1+h / 8 % 12).toNat,by lia⟩
 have r1:1<=R:=by lia
 have r2:R<=6:=by lia
 have l1:1<=L:=by lia
 have l2:L<=12:=by lia
 have rl:=A61 r2 l2;have f1:bS (R) (L):=cN (by lia) (by lia);have eR:((R)*(L:Int)).toNat=R*L:=by rw[<-C18,A85]
 obtain⟨c0,e0⟩:=i4 hx (k:=0) (by decide);obtain⟨a,b,ha,hb,el⟩:=kE h;have Yb:Sg [.str [46],.str [46],.str [61],.str [46],.str [a],.str [b],.str [35],.str [46]]:=by
  refine⟨rfl,λ d hd=>?_⟩;have Kn:46∈signs:=by decide
  have XX:61∈signs:=by decide
  have XY:35∈signs:=by decide
  simp only[v6,A18,A21]at hd;rcases hd with rfl|rfl|rfl|rfl|rfl|rfl|rfl|rfl
  ·exact⟨_,Kn,rfl⟩
  ·exact⟨_,Kn,rfl⟩
  ·exact⟨_,XX,rfl⟩
  ·exact⟨_,Kn,rfl⟩
  ·exact⟨_,gC ha,rfl⟩
  ·exact⟨_,gC hb,rfl⟩
  ·exact⟨_,XY,rfl⟩
  ·exact⟨_,Kn,rfl⟩
 have:Ok (br (dA [v (.lst xs),v (.int h),v (.int 6),v (.int 12),none,none,none,none,none,none,none])) λ d=>∃rows,Hall R L rows/\d=.tup (rows.map .str):=by
  refine lD ?_;rw[eb];simp[cE,hR,hL,r8,el,line,e0,f1,eR];refine dE (λ i ρ=>∃rows c o9 F?,Shape L i rows/\(∀x∈rows,∀c∈x,c∈signs)/\ρ=[v (.lst xs),vi h,vi 6,vi 12,vi R,vi L,v (.lst [.str [46],.str [46],.str [61],.str [46],.str [a],.str [b],.str [35],.str [46]]),vi c,ow (rows.map .str),o9,F?]) ⟨[],c0,none,none,.inl ⟨rfl,rfl⟩,by simp,rfl⟩ ?_ ?_
  ·rintro j d ρ hd ⟨rows,c,o9,F?,D0,NR,rfl⟩;obtain⟨hj,rfl⟩:=B! hd;obtain⟨full,last,ef,hl,hn,NQ⟩:=D0.step l1;have hr:rows.length<16777216:=by have:=D0.len l1;lia
   obtain⟨s,hs,es⟩:=Cy hx Yb j (by lia) (vi h) (vi 6) (vi 12) (vi R) (vi L) (vi c) (ow ((fresh L j rows).map .str)) F?;obtain⟨c',s',zN,em⟩:=BY h c s hs (v (.lst xs)) (vi 6) (vi 12) (vi R) (vi L) (v (.lst [.str [46],.str [46],.str [61],.str [46],.str [a],.str [b],.str [35],.str [46]])) (ow ((fresh L j rows).map .str)) (vi j);have q1:=HX (v (.lst xs)) (vi h) (vi 6) (vi 12) (vi R) (v (.lst [.str [46],.str [46],.str [61],.str [46],.str [a],.str [b],.str [35],.str [46]])) (vi c) F? L j l1 rows hr;have q2:=FF full last s' (by lia) (v (.lst xs)) (vi h) (vi 6) (vi 12) (vi R) (vi L) (v (.lst [.str [46],.str [46],.str [61],.str [46],.str [a],.str [b],.str [35],.str [46]])) (vi c') (vi j);rw[<-ef]at q2;refine⟨_,rfl,?_⟩;simp only[B62,C17];rw[iJ,q1,Res.bind,gy,iJ,es,Res.bind,gy,iJ,em,Res.bind,gy,q2];refine⟨_,rfl,full++[last++[s']],c',_,_,hn s',?_,rfl⟩;obtain⟨g1,g2⟩:=NQ NR;intro x hx c hc;rcases A25.mp hx with hx|hx
   ·exact g1 x hx c hc
   ·rw[A13]at hx;subst hx;rcases A25.mp hc with hc|hc
    ·exact g2 c hc
    ·rw[A13]at hc;subst hc;exact zN
  ·rintro ρ ⟨rows,c,o9,F?,D0,NR,rfl⟩;rw[jh]at D0;obtain⟨q1,q2⟩:=D0.end l1 r1;simp;exact⟨rows,⟨r1,r2,l1,l2,q1,q2,NR⟩,rfl⟩
 rw[<-jK]at this;obtain⟨d,e,rows,H,rfl⟩:=this;exact⟨R,L,rows,H,e⟩
theorem mL(c:Nat):c4 [.str [c]]=.ok (.bl (decide (97<=c)&&decide (c<=122))):=by
 rw[kM];refine aD ?_;by_cases h1:c<97
 ·simp[fz,EJ,line,Nat.not_le.mpr h1]
 ·by_cases h2:122<c
  ·simp[fz,EJ,line,h2,B08.mp h1]
  ·simp[fz,EJ,line,B08.mp h1,B08.mp h2]
theorem DB(c:Nat):decide (c∈signs)=(c==46||c==61||c==35||(decide (97<=c)&&decide (c<=122))):=by
 by_cases h:c<128
 ·exact(by decide:∀c<128,decide _=(c==46||c==61||c==35||(decide _&&decide (c<=122)))) c h
 ·have h1:c∉signs:=λ m=>h ((by decide:∀c∈signs,c<128) c m);have h2:¬c<=122:=by lia
  have h3:c≠46:=by lia
  have h4:c≠61:=by lia
  have h5:c≠35:=by lia
  simp[h1,h2,h3,h4,h5]
theorem yN(c:Nat):jm [.str [c]]=.ok (.bl (decide (c∈signs))):=by
 rw[A3,DB];refine aD ?_;have e:=mL c;by_cases h1:c=46
 ·subst h1;simp[i!,line,Ds,fK,i',fS,EO]
 ·by_cases h2:c=61
  ·subst h2;simp[i!,line,Ds,fK,i',fS,EO]
  ·by_cases h3:c=35
   ·subst h3;simp[i!,line,Ds,fK,i',fS,EO]
   ·simp[i!,Ds,fK,i',fS,EO,e,h1,h2,h3];lia
theorem all_map{α:Type}(f:α->Bool)(xs:γ α):allB (xs.map λ x=>D.bl (f x))=some (xs.all f):=by
 have:=xj (xs.map f);rw[A14]at this;rw[show(xs.map λ x=>D.bl _)=xs.map (D.bl∘f)from rfl,this]
 congr 1
 induction xs with
 |nil=>rfl
 |cons x xs ih=>simp
def Fy(cs:γ Nat):Bool:=decide (1<=cs.length/\cs.length<=12)&&cs.all λ c=>decide (c∈signs)
theorem Fx(cs:γ Nat):Ok (a9 (aJ 0) bD (aw jm (aa (eV 0) av)) [none] (cs.map λ c=>.str [c])) λ ds=>ds=cs.map λ c=>D.bl (decide (c∈signs)):=
 bE (λ c=>D.str [c]) (λ _=>true) (λ c=>.bl (decide (c∈signs))) (λ c _=>by simp[yN]) (by rw[A86.mpr (λ _ _=>rfl)])
theorem AL(cs:γ Nat)(h:cs.length<=1000):i9 [.str cs]=.ok (.bl (Fy cs)):=by
 have hl:cs.length<=16777216:=by lia
 rw[hJ];refine aD ?_;unfold Fy;by_cases h1:1<=cs.length
 ·by_cases h2:cs.length<=12
  ·have e1:(1)<=(cs.length:Int):=by lia
   have e2:(cs.length:Int)<=12:=by lia
   simp[fy,cW,hl,h1,h2,e1,e2,ba];refine(Fx cs).imp ?_;rintro ds rfl;simp[g?,all_map]
  ·have e2:¬(cs.length:Int)<=12:=by lia
   simp[fy,cW,hl,h1,h2,e2,line]
 ·have e1:¬(1)<=(cs.length:Int):=by lia
  simp[fy,cW,hl,h1,e1,line]
def nV:D->Bool
 |.str cs=>Fy cs
 |_=>false
def Z5(d:D):Prop:=∀cs,d=.str cs->cs.length<=1000
theorem DU(d:D)(h:Z5 d):i9 [d]=.ok (.bl (nV d)):=by
 cases d with
 |str cs=>exact AL cs (h cs rfl)
 |non=>rw[hJ];exact aD (by simp[fy,cW,nV])
 |bl _=>rw[hJ];exact aD (by simp[fy,cW,nV])
 |int _=>rw[hJ];exact aD (by simp[fy,cW,nV])
 |tup _=>rw[hJ];exact aD (by simp[fy,cW,nV])
 |lst _=>rw[hJ];exact aD (by simp[fy,cW,nV])
 |dct _ _=>rw[hJ];exact aD (by simp[fy,cW,nV])
def AD:D->Nat
 |.str cs=>cs.length
 |_=>0
def Cc(xs:γ D):Bool:=decide (1<=xs.length/\xs.length<=6)&&xs.all nV&&xs.all λ d=>AD d==AD (xs.headD .non)
def n_:D->Bool
 |.tup xs=>Cc xs
 |_=>false
theorem AW(xs:γ D)(h:∀d∈xs,Z5 d):Ok (a9 (aJ 0) bD (aw i9 (aa (eV 0) av)) [none] xs) λ ds=>ds=xs.map λ d=>D.bl (nV d):=
 comp_map (λ d=>.bl _) (λ d hd=>by simp[DU d (h d hd)]) rfl
theorem B0(h:nV d=true):b7 d=.ok (.int (AD d)):=by
 cases d with
 |str cs=>
  have:cs.length<=16777216:=by simp only[nV,Fy,A89]at h;lia
  simp[AD,this]
 |_=>cases h
theorem AV(h:∀d∈xs,nV d=true):Ok (a9 (aJ 0) bD (eB oEq (eU b7 (eW 0)) (eU b7 (eB aI (eW 1) (eC (.int 0))))) [none,v (.tup xs)] xs) λ ds=>ds=xs.map λ d=>D.bl (AD d==AD (xs.headD .non)):=
 comp_map (λ d=>.bl _) (λ d hd=>by
  cases xs with
  |nil=>cases hd
  | cons x xs=>have e0:aI (.tup (x::xs)) (.int 0)=.ok x:=(c9 rfl rfl).1;have e1:=B0 (h d hd);have e2:=B0 (h x A12);simp[e0,e1,e2];exact A57.mpr (by simp;lia)) rfl
theorem AM(d:D)(h:∀xs,d=.tup xs->xs.length<=1000/\∀x∈xs,Z5 x):jn [d]=.ok (.bl (n_ d)):=by
 cases d with
 |tup xs=>
  obtain⟨h1,h2⟩:=h xs rfl;have hl:xs.length<=16777216:=by lia
  rw[f?];refine aD ?_;simp only[n_,Cc];by_cases q1:1<=xs.length
  ·by_cases q2:xs.length<=6
   ·have e1:(1)<=(xs.length:Int):=by lia
    have e2:(xs.length:Int)<=6:=by lia
    have c1:=AW xs h2;cases q3:xs.all nV with
    |false=>simp[dJ,cW,hl,q1,q2,e1,e2,line,ba,fL];refine c1.imp ?_;rintro ds rfl;simp[g?,all_map,q3]
    |true=>have q4:=A27.mp q3;have c2:=AV q4;simp[dJ,cW,hl,q1,q2,e1,e2,line,ba,fL];refine c1.imp ?_;rintro ds rfl;simp[g?,all_map,q3];refine c2.imp ?_;rintro ds rfl;simp[g?,all_map]
   ·have e2:¬(xs.length:Int)<=6:=by lia
    simp[dJ,cW,hl,q1,q2,e2,line]
  ·have e1:¬(1)<=(xs.length:Int):=by lia
   simp[dJ,cW,hl,q1,e1,line]
 |str _=>rw[f?];exact aD (by simp[dJ,cW,n_])
 |non=>rw[f?];exact aD (by simp[dJ,cW,n_])
 |bl _=>rw[f?];exact aD (by simp[dJ,cW,n_])
 |int _=>rw[f?];exact aD (by simp[dJ,cW,n_])
 |lst _=>rw[f?];exact aD (by simp[dJ,cW,n_])
 |dct _ _=>rw[f?];exact aD (by simp[dJ,cW,n_])
theorem Hall.b{R L:Nat}(H:Hall R L rows):Cc (rows.map .str)=true:=by
 unfold Cc;have h1:=H.r1;have h2:=H.r2;have h3:=H.l1;have h4:=H.l2;simp only[A40,A89,A03,H.len,A27];refine⟨⟨⟨h1,h2⟩,λ d hd=>?_⟩,λ d hd=>?_⟩
 ·obtain⟨r,hr,rfl⟩:=A08.mp hd;simp only[nV,Fy,A40,A89,A27,H.each r hr];exact⟨⟨h3,h4⟩,H.sg r hr⟩
 ·obtain⟨r,hr,rfl⟩:=A08.mp hd;cases rows with
  |nil=>cases hr
  |cons x xs=>simp[AD,H.each r hr,H.each x _]
end KA
set_option maxRecDepth 4000
noncomputable section
namespace KS
open Z KA
def LL:γ Nat:=[48,49,50,51,52,53,54,55,56,57]
def gb:SF:=(aR (lV (eU (fJ .int) (eW 0)) (Hn (eU (fJ .bool) (eW 0)))))
def eA:γ D->Res D:=fn 1 1 gb
theorem lU(x0:D):eA [x0]=br (gb [some (.val x0)]):=bL _ _ _ _ rfl
def bH:SF:=(aR (lV (aw eA (aa (eV 0) av)) (hU oLe oLe (eW 1) (eW 0) (eW 2))))
def a6:γ D->Res D:=fn 3 3 bH
theorem f'(x0 x1 x2:D):a6 [x0,x1,x2]=br (bH [some (.val x0),some (.val x1),some (.val x2)]):=bL _ _ _ _ rfl
def j?:SF:=(ay (d! (qp (dM (tE (eU (fJ .str) (eW 0)))) (dM (tE (hU oLe oLe (eC (.int 1)) (eU b7 (eW 0)) (eC (.int 8)))))) (aR (eC (.bl false))) aT) (aR (eU g? (eL (bK (dh (eW 0)) 1 [] (aJ 0) bD (aw KA.c4 (aa (eV 0) av)))))))
def kJ:γ D->Res D:=fn 1 1 j?
theorem A4(x0:D):kJ [x0]=br (j? [some (.val x0)]):=bL _ _ _ _ rfl
def mr:SF:=(aR (lV (eU (fJ .str) (eW 0)) (Oo (eB oEq (eW 0) (eC (.str []))) (aw KA.c4 (aa (eV 0) av)))))
def kK:γ D->Res D:=fn 1 1 mr
theorem A5(x0:D):kK [x0]=br (mr [some (.val x0)]):=bL _ _ _ _ rfl
def l6:SF:=(aR (aw a6 (aa (eV 0) (aa (eV 1) (aa (eB tY (eB mX (eC (.int 10)) (eC (.int 60))) (eC (.int 1))) av)))))
def gH:γ D->Res D:=fn 2 2 l6
theorem wN(x0 x1:D):gH [x0,x1]=br (l6 [some (.val x0),some (.val x1)]):=bL _ _ _ _ rfl
def pQ:SF:=(ay (d! (qp (dM (tE (eU (fJ .tuple) (eW 0)))) (tE (eB jY (eU b7 (eW 0)) (eC (.int 2))))) (aR (eC (.bl false))) aT) (aR (lV (aw a6 (aa (eB aI (eW 0) (eC (.int 0))) (aa (eC (.int 0)) (aa (eC (.int 5)) av)))) (aw gH (aa (eB aI (eW 0) (eC (.int 1))) (aa (eC (.int 1)) av))))))
def jl:γ D->Res D:=fn 1 1 pQ
theorem A2(x0:D):jl [x0]=br (pQ [some (.val x0)]):=bL _ _ _ _ rfl
def k8:SF:=(ay (d! (qp (dM (tE (eU (fJ .tuple) (eW 0)))) (dM (tE (eU g? (eL (bK (dh (eW 0)) 1 [] (aJ 0) bD (aw jl (aa (eV 0) av)))))))) (aR (eC (.bl false))) aT) (aR (eU g? (eL (bK (dP (eB tY (eU b7 (eW 0)) (eC (.int 1)))) 1 [0] (aJ 0) bD (eB oLt (eB aI (eB aI (eW 1) (eW 0)) (eC (.int 0))) (eB aI (eB aI (eW 1) (eB aX (eW 0) (eC (.int 1)))) (eC (.int 0)))))))))
def iw:γ D->Res D:=fn 1 1 k8
theorem uf(x0:D):iw [x0]=br (k8 [some (.val x0)]):=bL _ _ _ _ rfl
def h_:SF:=(ay (d! (dM (tE (aw a6 (aa (eB aI (eW 0) (eC (.int 1))) (aa (eC (.int 1)) (aa (eC (.int 12)) av)))))) (aR (eC (.bl false))) aT) (ay (d! (dM (tE (aw a6 (aa (eB aI (eW 0) (eC (.int 2))) (aa (eC (.int 1)) (aa (eC (.int 3)) av)))))) (aR (eC (.bl false))) aT) (ay (d! (dM (tE (aw a6 (aa (eB aI (eW 0) (eC (.int 4))) (aa (eC (.int 0)) (aa (eB fA (eB aI (eW 0) (eC (.int 1))) (eB aI (eW 0) (eC (.int 2)))) av)))))) (aR (eC (.bl false))) aT) (aR (lV (aw kK (aa (eB aI (eW 0) (eC (.int 3))) av)) (aw a6 (aa (eB aI (eW 0) (eC (.int 5))) (aa (eC (.int 0)) (aa (eC (.int 6)) av)))))))))
def eX:γ D->Res D:=fn 1 1 h_
theorem oB(x0:D):eX [x0]=br (h_ [some (.val x0)]):=bL _ _ _ _ rfl
def nD:SF:=(ay (d! (qp (dM (tE (eU (fJ .tuple) (eW 0)))) (tE (eB jY (eU b7 (eW 0)) (eC (.int 8))))) (aR (eC (.bl false))) aT) (ay (d! (qp (dM (tE (aw kJ (aa (eB aI (eW 0) (eC (.int 0))) av)))) (dM (tE (aw eX (aa (eV 0) av))))) (aR (eC (.bl false))) aT) (aR (lV (aw gH (aa (eB aI (eW 0) (eC (.int 6))) (aa (eC (.int 0)) av))) (aw iw (aa (eB aI (eW 0) (eC (.int 7))) av))))))
def jI:γ D->Res D:=fn 1 1 nD
theorem zd(x0:D):jI [x0]=br (nD [some (.val x0)]):=bL _ _ _ _ rfl
def kU:SF:=(ay (jQ 1 (bg (aa (eB aI (eW 0) (eC (.int 0))) (aa (eB aX (eB aX (eU g! (eB aI (eW 0) (eC (.int 1)))) (eC (.str [120]))) (eU g! (eB aI (eW 0) (eC (.int 2))))) av)))) (ay (d! (tE (eB jY (eB aI (eW 0) (eC (.int 3))) (eC (.str [])))) (qr 1 (bg (aa (eC (.str [107,105,110,100])) (aa (eB aI (eW 0) (eC (.int 3))) av)))) aT) (ay (eZ (dh (dF (aa (dF (aa (eC (.str [119,105,100,101])) (aa (eC (.int 4)) av))) (aa (dF (aa (eC (.str [103,97,112])) (aa (eC (.int 5)) av))) (aa (dF (aa (eC (.str [119,111,114,116,104])) (aa (eC (.int 6)) av))) av))))) (fB [2,3]) (d! (tE (eB BV (eB aI (eW 0) (eW 3)) (eC (.int 0)))) (qr 1 (bg (aa (eV 2) (aa (eU g! (eB aI (eW 0) (eW 3))) av)))) aT)) (ay (eZ (dh (eB aI (eW 0) (eC (.int 7)))) (aJ 4) (qr 1 (bg (aa (eC (.str [114,111,119])) (aa (eU g! (eB aI (eW 4) (eC (.int 0)))) (aa (eU g! (eB aI (eW 4) (eC (.int 1)))) av)))))) (aR (eB iO (eC (.str [32])) (eW 1)))))))
def il:γ D->Res D:=fn 1 5 kU
theorem t?(x0:D):il [x0]=br (kU [some (.val x0),none,none,none,none]):=bL _ _ _ _ rfl
def gr:SF:=(ay (d! (qp (dM (tE (hU oLe oLe (eC (.int 1)) (eU b7 (eW 0)) (eC (.int 60))))) (dM (tE (eU g? (eL (bK (dh (eW 0)) 1 [] (aJ 0) bD (eB F! (eW 0) (eC (.str LL))))))))) (aR (eC .non)) aT) (aR (eU yz (eW 0))))
def bj:γ D->Res D:=fn 1 1 gr
theorem wF(x0:D):bj [x0]=br (gr [some (.val x0)]):=bL _ _ _ _ rfl
def lZ:SF:=(aR (eU dX (eL (bK (GL (eC (.int 0)) (eB tY (eU b7 (eW 0)) (eC (.int 2))) (eC (.int 3))) 1 [0] (aJ 0) bD (dF (aa (aw bj (aa (eB aI (eW 1) (eB aX (eW 0) (eC (.int 1)))) av)) (aa (aw bj (aa (eB aI (eW 1) (eB aX (eW 0) (eC (.int 2)))) av)) av)))))))
def gE:γ D->Res D:=fn 1 1 lZ
theorem wB(x0:D):gE [x0]=br (lZ [some (.val x0)]):=bL _ _ _ _ rfl
def nE:SF:=(ay (aO 1 (eB uF (eB aI (eW 0) (eC (.int 1))) (eC (.str [120])))) (ay (UO 2 [([107,105,110,100],[]),([119,105,100,101],[48]),([103,97,112],[48]),([119,111,114,116,104],[48])]) (ay (aO 3 (eC (.int 2))) (ay (eZ (dh (dF (aa (eC (.str [107,105,110,100])) (aa (eC (.str [119,105,100,101])) (aa (eC (.str [103,97,112])) (aa (eC (.str [119,111,114,116,104])) av)))))) (aJ 4) (d! (tO (tE (eB oLt (eB aX (eW 3) (eC (.int 1))) (eU b7 (eW 0)))) (tE (eB oEq (eB aI (eW 0) (eW 3)) (eW 4)))) (ay (BJ 2 (eV 4) (eB aI (eW 0) (eB aX (eW 3) (eC (.int 1))))) (aO 3 (eB uG (eV 3) (eC (.int 2))))) aT)) (aR (dF (aa (eB aI (eW 0) (eC (.int 0))) (aa (aw bj (aa (eB aI (eW 1) (eC (.int 0))) av)) (aa (aw bj (aa (eB aI (eW 1) (eC (.int 2))) av)) (aa (mO 2 (eC (.str [107,105,110,100]))) (aa (aw bj (aa (mO 2 (eC (.str [119,105,100,101]))) av)) (aa (aw bj (aa (mO 2 (eC (.str [103,97,112]))) av)) (aa (aw bj (aa (mO 2 (eC (.str [119,111,114,116,104]))) av)) (aa (aw gE (aa (eL (Ke (eW 0) (xm (eW 3)) BQ)) av)) av))))))))))))))
def jJ:γ D->Res D:=fn 1 5 nE
theorem ze(x0:D):jJ [x0]=br (nE [some (.val x0),none,none,none,none]):=bL _ _ _ _ rfl
def kW:SF:=(ay (d! (dM (tE (eU (fJ .str) (eW 0)))) qt aT) (ay (aO 1 (eL (wb (eW 0) (eC (.str [32]))))) (ay (d! (tE (eB oLt (eU b7 (eW 1)) (eC (.int 2)))) qt aT) (ay (aO 2 (aw jJ (aa (eV 1) av))) (ay (d! (qp (dM (tE (aw jI (aa (eV 2) av)))) (tE (eB jY (aw il (aa (eV 2) av)) (eW 0)))) qt aT) (aR (eV 2)))))))
def eM:γ D->Res D:=fn 1 3 kW
theorem t_(x0:D):eM [x0]=br (kW [some (.val x0),none,none]):=bL _ _ _ _ rfl
def jM:SF:=(ay (aO 2 (eC (.str aS))) (ay (aO 3 (eB aX (eC (.int 1)) (eB oMod (eW 0) (eC (.int 8))))) (ay (aO 4 (eB oMod (eB oDiv (eW 0) (eC (.int 8))) (eW 3))) (ay (jQ 5 (bK (dP (eV 3)) 1 [2,0] (aJ 0) bD (eB aI (eW 1) (eB oMod (aw KA.bx (aa (eV 2) (aa (eB aX (eC (.int 100)) (eW 0)) av))) (eC (.int 26)))))) (ay (jQ 6 (bg av)) (ay (eZ (dP (eV 1)) (aJ 7) (ay (vK 5 (eV 4) (eB aI (eW 2) (eB oMod (eB aX (eB oDiv (eW 0) (eC (.int 64))) (eW 7)) (eC (.int 26))))) (dC 6 (eB iO (eC (.str [])) (eW 5))))) (vM 6 (aR (eV 6)))))))))
def iX:γ D->Res D:=fn 2 8 jM
theorem wJ(x0 x1:D):iX [x0,x1]=br (jM [some (.val x0),some (.val x1),none,none,none,none,none,none]):=bL _ _ _ _ rfl
def i5:SF:=(ay (aO 1 (aw KA.bx (aa (eV 0) (aa (eC (.int 67)) av)))) (ay (jQ 2 (bg av)) (ay (eZ (dP (eC (.int 6))) (aJ 3) (d! (tO (tE (eB oEq (eB oMod (eB oDiv (eB oDiv (eW 1) (eC (.int 8))) (eB JW (eC (.int 1)) (eW 3))) (eC (.int 2))) (eC (.int 1)))) (tE (eB BV (eB oMod (eW 1) (eC (.int 8))) (eC (.int 3))))) (ay (aO 4 (eB aX (eC (.int 1)) (eB oMod (aw KA.bx (aa (eV 0) (aa (eB aX (eC (.int 70)) (eW 3)) av))) (eC (.int 3))))) (ay (d! (tE (eB oEq (eB oMod (eW 1) (eC (.int 8))) (eC (.int 7)))) (aO 4 (eB aX (eC (.int 1)) (eB oMod (eB aX (eB fA (eW 0) (eB mX (eC (.int 10)) (eC (.int 55)))) (eW 3)) (eB tY (eB mX (eC (.int 10)) (eC (.int 60))) (eC (.int 1)))))) aT) (dC 2 (dF (aa (eV 3) (aa (eV 4) av)))))) aT)) (aR (eU dX (eW 2))))))
def iq:γ D->Res D:=fn 1 5 i5
theorem ub(x0:D):iq [x0]=br (i5 [some (.val x0),none,none,none,none]):=bL _ _ _ _ rfl
def jN:SF:=(ay (aO 3 (eL (bK (dP (eC (.int 7))) 1 [0] (aJ 0) bD (aw KA.bx (aa (eV 1) (aa (eB aX (eC (.int 60)) (eW 0)) av)))))) (ay (aO 4 (eB aI (eL (bg (aa (eC (.int 1)) (aa (eC (.int 2)) (aa (eC (.int 1)) (aa (eC (.int 3)) (aa (eC (.int 2)) (aa (eC (.int 1)) (aa (eC (.int 4)) (aa (eB aX (eC (.int 1)) (eB oMod (eB oDiv (eB aI (eW 3) (eC (.int 0))) (eC (.int 8))) (eC (.int 12)))) av)))))))))) (eB oMod (eB aI (eW 3) (eC (.int 0))) (eC (.int 8))))) (ay (aO 5 (eB aI (eL (bg (aa (eC (.int 1)) (aa (eC (.int 1)) (aa (eC (.int 1)) (aa (eC (.int 2)) (aa (eC (.int 1)) (aa (eC (.int 1)) (aa (eC (.int 2)) (aa (eC (.int 3)) av)))))))))) (eB oMod (eB aI (eW 3) (eC (.int 1))) (eC (.int 8))))) (ay (aO 6 (eB aI (eL (bg (aa (eC (.str [])) (aa (eC (.str [])) (aa (eC (.str [])) (aa (eB aI (eW 2) (eC (.int 0))) (aa (eB aI (eW 2) (eC (.int 1))) (aa (eC (.str [])) av)))))))) (eB oMod (eB aI (eW 3) (eC (.int 2))) (eC (.int 6))))) (ay (aO 7 (eB aI (eL (bg (aa (eC (.int 0)) (aa (eC (.int 0)) (aa (eC (.int 1)) (aa (eC (.int 0)) (aa (eB oMod (eB oDiv (eB aI (eW 3) (eC (.int 3))) (eC (.int 8))) (eB aX (eB fA (eW 4) (eW 5)) (eC (.int 1)))) av))))))) (eB oMod (eB aI (eW 3) (eC (.int 3))) (eC (.int 5))))) (ay (aO 8 (eB aI (eL (bg (aa (eC (.int 0)) (aa (eC (.int 0)) (aa (eC (.int 1)) (aa (eC (.int 2)) (aa (eC (.int 1)) (aa (eB oMod (eB oDiv (eB aI (eW 3) (eC (.int 4))) (eC (.int 8))) (eC (.int 7))) av)))))))) (eB oMod (eB aI (eW 3) (eC (.int 4))) (eC (.int 6))))) (ay (aO 9 (eB aI (eL (bg (aa (eC (.int 0)) (aa (eC (.int 1)) (aa (eC (.int 1)) (aa (eC (.int 2)) (aa (eB oMod (eB oDiv (eB aI (eW 3) (eC (.int 5))) (eC (.int 8))) (eC (.int 9))) (aa (eB oMod (eB fA (eW 0) (eB mX (eC (.int 10)) (eC (.int 50)))) (eB mX (eC (.int 10)) (eC (.int 60)))) av)))))))) (eB oMod (eB aI (eW 3) (eC (.int 5))) (eC (.int 6))))) (aR (dF (aa (eV 1) (aa (eV 4) (aa (eV 5) (aa (eV 6) (aa (eV 7) (aa (eV 8) (aa (eV 9) (aa (aw iq (aa (eV 0) av)) av)))))))))))))))))
def fE:γ D->Res D:=fn 3 10 jN
theorem wK(x0 x1 x2:D):fE [x0,x1,x2]=br (jN [some (.val x0),some (.val x1),some (.val x2),none,none,none,none,none,none,none]):=bL _ _ _ _ rfl
def gL:SF:=(ay (C! (Hm (eW 0) BQ (xm (eC (.int 4)))) (fB [1,2,3,4])) (ay (C! (Hm (eW 0) (xm (eC (.int 4))) BQ) (fB [5,6,7,8])) (ay (aO 9 (eL (bg (aa (eV 1) (aa (eB aX (eB aX (eU g! (eW 2)) (eC (.str [120]))) (eU g! (eW 3))) av))))) (ay (d! (tE (eB jY (eW 4) (eC (.str [])))) (aO 9 (eL (n8 (eW 9) (eL (bg (aa (eC (.str [107,105,110,100])) (aa (eV 4) av))))))) aT) (ay (d! (tE (eB BV (eW 5) (eC (.int 0)))) (aO 9 (eL (n8 (eW 9) (eL (bg (aa (eC (.str [119,105,100,101])) (aa (eU g! (eW 5)) av))))))) aT) (ay (d! (tE (eB BV (eW 6) (eC (.int 0)))) (aO 9 (eL (n8 (eW 9) (eL (bg (aa (eC (.str [103,97,112])) (aa (eU g! (eW 6)) av))))))) aT) (ay (d! (tE (eB BV (eW 7) (eC (.int 0)))) (aO 9 (eL (n8 (eW 9) (eL (bg (aa (eC (.str [119,111,114,116,104])) (aa (eU g! (eW 7)) av))))))) aT) (ay (eZ (dh (eV 8)) (fB [10,11]) (aO 9 (eL (n8 (eW 9) (eL (bg (aa (eC (.str [114,111,119])) (aa (eU g! (eW 10)) (aa (eU g! (eW 11)) av))))))))) (aR (eV 9))))))))))
def cD:γ D->Res D:=fn 1 12 gL
theorem m?(x0:D):cD [x0]=br (gL [some (.val x0),none,none,none,none,none,none,none,none,none,none,none]):=bL _ _ _ _ rfl
end KS
end
set_option maxRecDepth 8000
namespace KS
open Z KA
theorem sH(n:Nat):∀c∈bX n,48<=c/\c<=57:=by intro c hc;obtain⟨ch,xp,e⟩:=A08.mp hc;have r:=PyProof.Rows.digit_range (Nat.isDigit_of_mem_toDigits (by decide) (by decide) xp);rw[<-e];exact r
theorem Co(n:Nat):CQ (bX n)=n:=PySem.W.KIN.val_back n
theorem Oz(n:Nat):bX n≠[]:=by intro e;have h:=Co n;have h2:=List.map_eq_nil_iff.mp e;have:=Nat.length_toDigits_pos (b:=10) (n:=n);rw[h2]at this;simp at this
theorem fH(hk:0<k)(h:n<10^k):(bX n).length<=k:=by unfold bX;rw[A03];exact(Nat.length_toDigits_le_iff (by decide) hk).mpr h
theorem Y_(c:Nat):LL.contains c=decide (48<=c/\c<=57):=by
 by_cases h:c<128
 ·exact(by decide:∀c<128,LL.contains c=decide (48<=c/\c<=57)) c h
 ·have h2:=λ m=>h ((by decide:∀c∈LL,c<128) c m);rw[A57];simp;lia
theorem yZ(cs:γ Nat):Ok (a9 (aJ 0) bD (eB F! (eW 0) (eC (.str LL))) [none] (cs.map λ c=>.str [c])) λ ds=>ds=cs.map λ c=>D.bl (decide (48<=c/\c<=57)):=
 bE (λ c=>D.str [c]) (λ _=>true) (λ c=>.bl (decide (48<=c/\c<=57))) (λ c _=>by
  have e:F! (.str [c]) (.str LL)=.ok (.bl (decide (48<=c/\c<=57))):=by show Res.ok _=_;rw[Y_]
  simp[e]) (by rw[A86.mpr (λ _ _=>rfl)])
def J5(cs:γ Nat):D:=if 1<=cs.length/\cs.length<=60/\∀c∈cs,48<=c/\c<=57 then .int (CQ cs)else .non
theorem Du(cs:γ Nat)(h:cs.length<=16777216):bj [.str cs]=.ok (J5 cs):=by
 rw[wF];refine aD ?_;unfold J5;by_cases h1:1<=cs.length
 ·by_cases h2:cs.length<=60
  ·have e1:(1)<=(cs.length:Int):=by lia
   have e2:(cs.length:Int)<=60:=by lia
   by_cases h3:∀c∈cs,48<=c/\c<=57
   ·have e3:(cs.all λ c=>decide (48<=c/\c<=57))=true:=by rw[A27];exact λ c hc=>A35 (h3 c hc)
    have e4:yz (.str cs)=.ok (.int (CQ cs)):=guard_pos ⟨by intro z;rw[z]at h1;simp at h1,by lia,h3⟩;have e5:g? (.lst (cs.map λ c=>D.bl (decide (48<=c/\c<=57))))=.ok (.bl true):=by simp only[g?,all_map,e3]
    rw[M2 ⟨h1,h2,h3⟩];simp[gr,h,e1,e2,line,ba,fL];refine(yZ cs).imp ?_;rintro ds rfl;rw[e5];simp[e4]
   ·have e3:(cs.all λ c=>decide (48<=c/\c<=57))=false:=by rw[Bool.eq_false_iff];intro z;exact h3 λ c hc=>B24 (A27.mp z c hc)
    have e5:g? (.lst (cs.map λ c=>D.bl (decide (48<=c/\c<=57))))=.ok (.bl false):=by simp only[g?,all_map,e3]
    rw[f8 (λ z=>h3 z.2.2)];simp[gr,h,e1,e2,line,ba,fL];refine(yZ cs).imp ?_;rintro ds rfl;rw[e5];simp
  ·have e2:¬(cs.length:Int)<=60:=by lia
   simp[gr,h,h1,h2,e2,line]
 ·have e1:¬(1)<=(cs.length:Int):=by lia
  simp[gr,h,h1,e1,line]
theorem J3(h:n<10^60):J5 (bX n)=.int n:=by unfold J5;rw[M2 ⟨List.length_pos_iff.mpr (Oz n),fH (by decide) h,sH n⟩,Co]
theorem fZ(h:n<10^60):bj [.str (bX n)]=.ok (.int n):=by rw[Du _ (A16 (fH (by decide) h) (by decide)),J3 h]
structure Gp where
 nm:List Nat
 w:Nat
 d:Nat
 kd:List Nat
 wi:Nat
 ga:Nat
 wo:Nat
 ws:List (Nat×Nat)
def fq(p:Nat×Nat):D:=.tup [.int p.1,.int p.2]
def b_(g:Gp):D:=.tup [.str g.nm,.int g.w,.int g.d,.str g.kd,.int g.wi,.int g.ga,.int g.wo,.tup (g.ws.map fq)]
structure ie(g:Gp):Prop where
 n1:1<=g.nm.length
 n2:g.nm.length<=8
 nl:∀c∈g.nm,c∈aS
 w1:1<=g.w
 w2:g.w<=12
 d1:1<=g.d
 d2:g.d<=3
 kd:g.kd=[]\/∃c∈aS,g.kd=[c]
 wi:g.wi<=g.w*g.d
 ga:g.ga<=6
 wo:g.wo<10^60
 wl:g.ws.length<=6
 wr:∀p∈g.ws,p.1<=5/\1<=p.2/\p.2<10^60
 up:(g.ws.map (·.1)).Pairwise (· < ·)
abbrev c_:γ Nat:=[107,105,110,100]
abbrev bQ:γ Nat:=[119,105,100,101]
abbrev cU:γ Nat:=[103,97,112]
abbrev a_:γ Nat:=[119,111,114,116,104]
abbrev EB:γ Nat:=[114,111,119]
def d_(g:Gp):γ Nat:=bX g.w++[120]++bX g.d
def fg(k:γ Nat):Rows:=if k=[]then[]else[c_,k]
def cM(key:γ Nat)(n:Nat):Rows:=if 0<n then[key,bX n]else[]
def b8(p:Nat×Nat):Rows:=[EB,bX p.1,bX p.2]
def bP(g:Gp):Rows:=[g.nm,d_ g]++fg g.kd++cM bQ g.wi++cM cU g.ga++cM a_ g.wo++(g.ws.map b8).flatten
theorem jk(h:Ok (g d ρ) λ ρ1=>Ok (b ρ1) (turn (λ ρ2=>Ok (iP g b r ρ2) Q) Q)):Ok (iP g b (d::r) ρ) Q:=by
 obtain⟨ρ1,e1,fl,e2,h⟩:=h;unfold iP;rw[e1,Res.fW,e2,Res.fW];cases fl with
 |nx ρ=>exact h
 |ct ρ=>exact h
 |bk ρ=>exact⟨_,rfl,h⟩
 |rt d=>exact⟨_,rfl,h⟩
theorem Ci(h:Q (.nx ρ)):Ok (iP g b [] ρ) Q:=⟨_,rfl,h⟩
theorem Xy{n:Nat}(h:n<10^60):(n:Int)<10^70:=by have:n<10^70:=B07 h (by decide);exact_mod_cast this
theorem ij{n:Nat}(h:n<10^60):g! (.int n)=.ok (.str (bX n)):=Nk n (Xy h)
section
theorem Bv(k:ie g):g.wi<10^60:=by have h1:=k.wi;have h2:=A61 k.w2 k.d2;exact B60 (A16 h1 h2) (by decide)
theorem bT(h:n<=100):n<10^60:=B60 h (by decide)
noncomputable def CD:SF:=(d! (tE (eB BV (eB aI (eW 0) (eW 3)) (eC (.int 0)))) (qr 1 (bg (aa (eV 2) (aa (eU g! (eB aI (eW 0) (eW 3))) av)))) aT)
theorem o5{n:Nat}(e:aI (b_ g) (.int k)=.ok (.int n))(hn:n<10^60)(hl:ws.length<=100)(x2 x3 x4:ε L):
  Ok (fB [2,3] (.tup [.str key,.int k]) [v (b_ g),ow (ws.map .str),x2,x3,x4]) λ ρ1=>Ok (CD ρ1) λ fl=>fl=.nx [v (b_ g),ow ((ws++cM key n).map .str),v (.str key),vi k,x4]:=by
 have es:=ij hn;have qx:ws.length+2<=16777216:=by lia
 by_cases h:0<n
 ·have h':(0)<(n):=by lia
  simp -implicitDefEqProofs [CD,e,h,es,cM,line,qx]
 ·have h':¬(0)<(n):=by lia
  simp -implicitDefEqProofs [CD,e,h,cM]
theorem B5{ts:Rows}(hl:ts.length<=1000)(h:∀x∈ts,x.length<=1000):iO (.str [32]) (.lst (ts.map .str))=.ok (.str (cw [32] ts)):=by
 have h1:(ts.map List.length).sum<=ts.length*1000:=by
  clear hl
  induction ts with
  |nil=>simp
  |cons x r ih=>have:=ih λ y hy=>h y (A09 _ hy);have:=h x A12;simp only[A05,B91,A36];lia
 show(match iH _ with|some ts=>guard ((ts.map _).sum+ts.length*1<=line) _|none=>Res.bad)=_;rw[ko];simp only;rw[guard_pos];simp only[line];lia
theorem e_(key:γ Nat)(n:Nat):(cM key n).length<=2:=by unfold cM;split<;>simp
theorem mj(k:γ Nat):(fg k).length<=2:=by unfold fg;split<;>simp
theorem nI(ws:γ _):((ws.map b8).flatten).length=3*ws.length:=by
 induction ws with
 |nil=>rfl
 |cons p r ih=>simp only[A05,List.flatten_cons,A23,ih];simp[b8];lia
theorem l!(k:ie g):(bP g).length<=28:=by have:=e_ bQ g.wi;have:=e_ cU g.ga;have:=e_ a_ g.wo;have:=mj g.kd;have:=k.wl;simp only[bP,A23,nI,A36,A81];lia
theorem rT(hk:key.length<=60)(hn:n<10^60):∀x∈cM key n,x.length<=121:=by
 intro x hx;unfold cM at hx;split at hx
 ·rcases v6.mp hx with rfl|hx
  ·lia
  ·rw[A13.mp hx];have:=fH (by decide) hn;lia
 ·cases hx
theorem mR(k:ie g):∀x∈bP g,x.length<=121:=by
 intro x hx;simp only[bP,A25]at hx;rcases hx with((((hx|hx)|hx)|hx)|hx)|hx
 ·rcases v6.mp hx with rfl|hx
  ·have:=k.n2;lia
  ·rw[A13.mp hx];have h1:=fH (n:=g.w) (by decide) (bT (by have:=k.w2;lia));have h2:=fH (n:=g.d) (by decide) (bT (by have:=k.d2;lia));simp only[d_,A23,A36,A81];lia
 ·unfold fg at hx;split at hx
  ·cases hx
  ·rcases v6.mp hx with rfl|hx
   ·decide
   ·rw[A13.mp hx];rcases k.kd with h|⟨c,_,h⟩<;>rw[h]<;>simp
 ·exact rT (by decide) (Bv k) x hx
 ·exact rT (by decide) (bT (by have:=k.ga;lia)) x hx
 ·exact rT (by decide) k.wo x hx
 ·obtain⟨y,hy,hx⟩:=List.mem_flatten.mp hx;obtain⟨p,hp,rfl⟩:=A08.mp hy;obtain⟨h1,h2,h3⟩:=k.wr p hp;have l1:=fH (n:=p.1) (by decide) (bT (by lia));have l2:=fH (by decide) h3;simp only[b8,v6,A18,A21]at hx;rcases hx with rfl|rfl|rfl
  ·decide
  ·lia
  ·lia
theorem iI(h:Ok (a ρ) λ fl=>fl=.nx ρ1)(k:Ok (b ρ1) Q):Ok (ay a b ρ) Q:=by obtain⟨fl,e,rfl⟩:=h;rw[iJ,e,Res.fW];exact k
theorem Oj:aI (b_ g) (.int 0)=.ok (.str g.nm):=rfl
theorem ex1:aI (b_ g) (.int 1)=.ok (.int g.w):=rfl
theorem ex2:aI (b_ g) (.int 2)=.ok (.int g.d):=rfl
theorem Za:aI (b_ g) (.int 3)=.ok (.str g.kd):=rfl
theorem ex4:aI (b_ g) (.int 4)=.ok (.int g.wi):=rfl
theorem ex5:aI (b_ g) (.int 5)=.ok (.int g.ga):=rfl
theorem ex6:aI (b_ g) (.int 6)=.ok (.int g.wo):=rfl
theorem ex7:aI (b_ g) (.int 7)=.ok (.tup (g.ws.map fq)):=rfl
noncomputable def ZK:SF:=jQ 1 (bg (aa (eB aI (eW 0) (eC (.int 0))) (aa (eB aX (eB aX (eU g! (eB aI (eW 0) (eC (.int 1)))) (eC (.str [120]))) (eU g! (eB aI (eW 0) (eC (.int 2))))) av)))
noncomputable def V4:SF:=d! (tE (eB jY (eB aI (eW 0) (eC (.int 3))) (eC (.str [])))) (qr 1 (bg (aa (eC (.str [107,105,110,100])) (aa (eB aI (eW 0) (eC (.int 3))) av)))) aT
noncomputable def ZJ:SF:=eZ (dh (dF (aa (dF (aa (eC (.str [119,105,100,101])) (aa (eC (.int 4)) av))) (aa (dF (aa (eC (.str [103,97,112])) (aa (eC (.int 5)) av))) (aa (dF (aa (eC (.str [119,111,114,116,104])) (aa (eC (.int 6)) av))) av))))) (fB [2,3]) CD
noncomputable def ZI:SF:=eZ (dh (eB aI (eW 0) (eC (.int 7)))) (aJ 4) (qr 1 (bg (aa (eC (.str [114,111,119])) (aa (eU g! (eB aI (eW 4) (eC (.int 0)))) (aa (eU g! (eB aI (eW 4) (eC (.int 1)))) av)))))
theorem hbs:kU=ay ZK (ay V4 (ay ZJ (ay ZI (aR (eB iO (eC (.str [32])) (eW 1)))))):=rfl
theorem OT(k:ie g):Ok (ZK [v (b_ g),none,none,none,none]) λ fl=>fl=.nx [v (b_ g),ow ([g.nm,d_ g].map .str),none,none,none]:=by
 have sw:=ij (bT (n:=g.w) (by have:=k.w2;lia));have sd:=ij (bT (n:=g.d) (by have:=k.d2;lia));have lw:=fH (n:=g.w) (by decide) (bT (by have:=k.w2;lia));have ld:=fH (n:=g.d) (by decide) (bT (by have:=k.d2;lia));have q1:(bX g.w).length+1<=16777216:=by lia
 have q2:(bX g.w).length+1+(bX g.d).length<=16777216:=by lia
 simp -implicitDefEqProofs [ZK,Oj,ex1,ex2,sw,sd,line,q1,q2,d_]
theorem OS:Ok (V4 [v (b_ g),ow ([g.nm,d_ g].map .str),none,none,none]) λ fl=>fl=.nx [v (b_ g),ow (([g.nm,d_ g]++fg g.kd).map .str),none,none,none]:=by
 by_cases h:g.kd=[]
 ·simp -implicitDefEqProofs [V4,Za,h,fg]
 ·simp -implicitDefEqProofs [V4,Za,h,fg,line]
theorem OR(k:ie g):Ok (ZJ [v (b_ g),ow (([g.nm,d_ g]++fg g.kd).map .str),none,none,none]) λ fl=>∃x2 x3,fl=.nx [v (b_ g),ow (([g.nm,d_ g]++fg g.kd++cM bQ g.wi++cM cU g.ga++cM a_ g.wo).map .str),x2,x3,none]:=by
 have hk:=mj g.kd;have h1:=e_ bQ g.wi;have h2:=e_ cU g.ga;have hi:∀ρ,dh (dF (aa (dF (aa (eC _) (aa (eC _) av))) (aa (dF (aa (eC (.str [103,97,112])) (aa (eC (.int 5)) av))) (aa (dF (aa (eC (.str [119,111,114,116,104])) (aa (eC (.int 6)) av))) av)))) ρ=.ok [.tup [.str bQ,.int 4],.tup [.str cU,.int 5],.tup [.str a_,.int 6]]:=λ ρ=>by have g2:∀a b,guard ([a,b].length<=line) (Res.ok (D.tup [a,b]))=.ok (.tup [a,b]):=λ a b=>guard_pos (by simp[line]);have g3:∀a b c,guard ([a,b,c].length<=line) (Res.ok (D.tup [a,b,c]))=.ok (.tup [a,b,c]):=λ a b c=>guard_pos (by simp[line]);show(((guard ([D.str [119,105,100,101],.int 4].length<=line) (Res.ok (D.tup [.str [119,105,100,101],.int 4]))).bind λ x=>((guard ([D.str [103,97,112],.int 5].length<=line) (Res.ok (D.tup [.str [103,97,112],.int 5]))).bind λ x=>((guard ([D.str [119,111,114,116,104],.int 6].length<=line) (Res.ok (D.tup [.str [119,111,114,116,104],.int 6]))).bind λ x=>Res.ok [x]).bind λ xs=>.ok (x::xs)).bind λ xs=>.ok (x::xs)).bind λ xs=>guard (xs.length<=line) (.ok (.tup xs))).bind jD=_;rw[g2,g2,g2];simp only[Res.fW];rw[g3];rfl
 unfold ZJ;rw[vN,hi,Res.fW];refine jk ((o5 ex4 (Bv k) (by simp;lia) none none none).imp λ ρ1 h=>h.imp ?_);rintro fl rfl;rw[jz];refine jk ((o5 ex5 (bT (by have:=k.ga;lia)) (by simp;lia) _ _ none).imp λ ρ1 h=>h.imp ?_);rintro fl rfl;rw[jz];refine jk ((o5 ex6 k.wo (by simp;lia) _ _ none).imp λ ρ1 h=>h.imp ?_);rintro fl rfl;rw[jz];exact Ci ⟨_,_,rfl⟩
theorem OQ(k:ie g)(hw:Rows)(hl:hw.length<=20)(x2 x3:ε L):Ok (ZI [v (b_ g),ow (hw.map .str),x2,x3,none]) λ fl=>∃x4,fl=.nx [v (b_ g),ow ((hw++(g.ws.map b8).flatten).map .str),x2,x3,x4]:=by
 unfold ZI;have hi:dh (eB aI (eW 0) (eC (.int 7))) [v (b_ g),ow (hw.map .str),x2,x3,none]=.ok (g.ws.map fq):=by simp -implicitDefEqProofs [ex7]
 rw[vN,hi,Res.fW];refine dE (λ i ρ=>∃x4,ρ=[v (b_ g),ow ((hw++((g.ws.take i).map b8).flatten).map .str),x2,x3,x4]) ⟨none,by simp⟩ ?_ ?_
 ·rintro j d ρ hj ⟨x4,rfl⟩;rw[P3]at hj;obtain⟨p,hp,rfl⟩:=A56.mp hj;obtain⟨r1,r2,r3⟩:=k.wr p (A15 hp);have s1:=ij (bT (n:=p.1) (by lia));have s2:=ij r3;have i0:aI (fq p) (.int 0)=.ok _:=rfl;have i1:aI (fq p) (.int 1)=.ok _:=rfl;have wl:=nI (g.ws.take j);have tl:(g.ws.take j).length<=6:=by have:=k.wl;rw[A34];lia
  have ht:g.ws.take (j+1)=g.ws.take j++[p]:=by rw[B30,hp];rfl
  obtain⟨W,hW⟩:∃W,W=hw++((g.ws.take j).map b8).flatten:=⟨_,rfl⟩
  have hn:hw++((g.ws.take (j+1)).map b8).flatten=W++b8 p:=by rw[ht,hW];simp
  rw[hn,<-hW];have YR:W.length+3<=16777216:=by rw[hW,A23];lia
  clear hW hn ht;simp -implicitDefEqProofs [i0,i1,s1,s2,line,YR,b8]
 ·rintro ρ ⟨x4,rfl⟩;rw[A03,A59];exact⟨x4,rfl⟩
theorem Jk(k:ie g):il [b_ g]=.ok (.str (cw [32] (bP g))):=by
 have hk:=mj g.kd;have h1:=e_ bQ g.wi;have h2:=e_ cU g.ga;have h3:=e_ a_ g.wo;have ej:=B5 (ts:=bP g) (by have:=l! k;lia) λ x hx=>by have:=mR k x hx;lia
 rw[t?,hbs];refine aD (iI (OT k) (iI OS ?_));rw[iJ,qW];refine(OR k).imp ?_;rintro fl ⟨x2,x3,rfl⟩;rw[gy,iJ,qW];refine(OQ k _ (by simp;lia) x2 x3).imp ?_;rintro fl ⟨x4,rfl⟩;rw[gy];show Ok (aR _ [v _,ow ((bP g).map .str),x2,x3,x4]) _;simp -implicitDefEqProofs [ej]
noncomputable def bw1:SF:=C! (Hm (eW 0) BQ (xm (eC (.int 4)))) (fB [1,2,3,4])
noncomputable def bw2:SF:=C! (Hm (eW 0) (xm (eC (.int 4))) BQ) (fB [5,6,7,8])
noncomputable def ZH:SF:=aO 9 (eL (bg (aa (eV 1) (aa (eB aX (eB aX (eU g! (eW 2)) (eC (.str [120]))) (eU g! (eW 3))) av))))
noncomputable def V3:SF:=d! (tE (eB jY (eW 4) (eC (.str [])))) (aO 9 (eL (n8 (eW 9) (eL (bg (aa (eC (.str [107,105,110,100])) (aa (eV 4) av))))))) aT
noncomputable def P4(i:Nat)(key:γ Nat):SF:=d! (tE (eB BV (eW i) (eC (.int 0)))) (aO 9 (eL (n8 (eW 9) (eL (bg (aa (eC (.str key)) (aa (eU g! (eW i)) av))))))) aT
noncomputable def ZG:SF:=eZ (dh (eV 8)) (fB [10,11]) (aO 9 (eL (n8 (eW 9) (eL (bg (aa (eC (.str [114,111,119])) (aa (eU g! (eW 10)) (aa (eU g! (eW 11)) av))))))))
theorem hbw:gL=ay bw1 (ay bw2 (ay ZH (ay V3 (ay (P4 5 bQ) (ay (P4 6 cU) (ay (P4 7 a_) (ay ZG (aR (eV 9))))))))):=rfl
abbrev eg(g:Gp)(x9 Bt IJ:ε L):Env:=[v (b_ g),vs g.nm,vi g.w,vi g.d,vs g.kd,vi g.wi,vi g.ga,vi g.wo,v (.tup (g.ws.map fq)),x9,Bt,IJ]
theorem OP:Ok (bw1 [v (b_ g),none,none,none,none,none,none,none,none,none,none,none]) λ fl=>fl=.nx [v (b_ g),vs g.nm,vi g.w,vi g.d,vs g.kd,none,none,none,none,none,none,none]:=⟨_,rfl,rfl⟩
theorem OO:Ok (bw2 [v (b_ g),vs g.nm,vi g.w,vi g.d,vs g.kd,none,none,none,none,none,none,none]) λ fl=>fl=.nx (eg g none none none):=⟨_,rfl,rfl⟩
theorem ON(k:ie g):Ok (ZH (eg g none none none)) λ fl=>fl=.nx (eg g (v (.lst ([g.nm,d_ g].map .str))) none none):=by
 have sw:=ij (bT (n:=g.w) (by have:=k.w2;lia));have sd:=ij (bT (n:=g.d) (by have:=k.d2;lia));have lw:=fH (n:=g.w) (by decide) (bT (by have:=k.w2;lia));have ld:=fH (n:=g.d) (by decide) (bT (by have:=k.d2;lia));have q1:(bX g.w).length+1<=16777216:=by lia
 have q2:(bX g.w).length+1+(bX g.d).length<=16777216:=by lia
 simp -implicitDefEqProofs [ZH,sw,sd,line,q1,q2,d_]
theorem OM(W:Rows)(hl:W.length<=100):Ok (V3 (eg g (v (.lst (W.map .str))) none none)) λ fl=>fl=.nx (eg g (v (.lst ((W++fg g.kd).map .str))) none none):=by
 have qx:W.length+2<=16777216:=by lia
 by_cases h:g.kd=[]
 ·simp -implicitDefEqProofs [V3,h,fg]
 ·simp -implicitDefEqProofs [V3,h,fg,line,r8,qx]
theorem Bc(hl:W.length<=100){n:Nat}(hn:n<10^60)(hi:i<9)(e:(eg g (v (.lst (W.map .str))) none none)[i]?=some (vi n)):Ok (P4 i key (eg g (v (.lst (W.map .str))) none none)) λ fl=>fl=.nx (eg g (v (.lst ((W++cM key n).map .str))) none none):=by
 have qx:W.length+2<=16777216:=by lia
 have es:=ij hn;by_cases h:0<n
 ·have h':(0)<(n):=by lia
  simp -implicitDefEqProofs [P4,e,h,es,cM,line,r8,qx]
 ·have h':¬(0)<(n):=by lia
  simp -implicitDefEqProofs [P4,e,h,cM]
theorem OL(k:ie g)(hw:Rows)(hl:hw.length<=20):Ok (ZG (eg g (v (.lst (hw.map .str))) none none)) λ fl=>∃Bt IJ,fl=.nx (eg g (v (.lst ((hw++(g.ws.map b8).flatten).map .str))) Bt IJ):=by
 unfold ZG;have hi:dh (eV 8) (eg g (v (.lst (hw.map .str))) none none)=.ok _:=rfl;rw[vN,hi,Res.fW];refine dE (λ i ρ=>∃Bt IJ,ρ=eg g (v (.lst ((hw++((g.ws.take i).map b8).flatten).map .str))) Bt IJ) ⟨none,none,by simp⟩ ?_ ?_
 ·rintro j d ρ hj ⟨Bt,IJ,rfl⟩;rw[P3]at hj;obtain⟨p,hp,rfl⟩:=A56.mp hj;obtain⟨r1,r2,r3⟩:=k.wr p (A15 hp);have s1:=ij (bT (n:=p.1) (by lia));have s2:=ij r3;have wl:=nI (g.ws.take j);have tl:(g.ws.take j).length<=6:=by have:=k.wl;rw[A34];lia
  have ht:g.ws.take (j+1)=g.ws.take j++[p]:=by rw[B30,hp];rfl
  obtain⟨W,hW⟩:∃W,W=hw++((g.ws.take j).map b8).flatten:=⟨_,rfl⟩
  have hn:hw++((g.ws.take (j+1)).map b8).flatten=W++b8 p:=by rw[ht,hW];simp
  rw[hn,<-hW];have YR:W.length+3<=16777216:=by rw[hW,A23];lia
  clear hW hn ht;simp -implicitDefEqProofs [fq,s1,s2,line,YR,b8,r8]
 ·rintro ρ ⟨Bt,IJ,rfl⟩;rw[A03,A59];exact⟨Bt,IJ,rfl⟩
theorem ET(k:ie g):cD [b_ g]=.ok (.lst ((bP g).map .str)):=by have hk:=mj g.kd;have h1:=e_ bQ g.wi;have h2:=e_ cU g.ga;have h3:=e_ a_ g.wo;rw[m?,hbw];refine aD (iI OP (iI OO (iI (ON k) (iI (OM _ (by simp)) (iI (Bc (by simp;lia) (Bv k) (by decide) rfl) (iI (Bc (by simp;lia) (bT (by have:=k.ga;lia)) (by decide) rfl) (iI (Bc (by simp;lia) k.wo (by decide) rfl) ?_)))))));rw[iJ,qW];refine(OL k _ (by simp;lia)).imp ?_;rintro fl ⟨Bt,IJ,rfl⟩;rw[gy];exact⟨_,rfl,rfl⟩
end
theorem R3{n:Nat}(h:n<10^60):(n:Int)<=10^60-1:=by
 have h2:(n:Int)<10^60:=by exact_mod_cast h
 exact Int.le_sub_one_of_lt h2
theorem uk(n:Int):eA [.int n]=.ok (.bl true):=by rw[lU];exact aD (by simp[gb,cW])
theorem within_int(n a b:Int):a6 [.int n,.int a,.int b]=.ok (.bl (decide (a<=n/\n<=b))):=by
 rw[f'];refine aD ?_;by_cases h1:a<=n
 ·simp[bH,uk,h1]
 ·simp[bH,uk,h1]
theorem sZ(n a:Int):gH [.int n,.int a]=.ok (.bl (decide (a<=n/\n<=10^60-1))):=by rw[wN];refine aD ?_;simp[l6,within_int]
theorem Kb(c:Nat):decide (c∈aS)=(decide (97<=c)&&decide (c<=122)):=by
 by_cases h:c<128
 ·exact(by decide:∀c<128,decide _=(decide _&&decide (c<=122))) c h
 ·have h1:c∉aS:=λ m=>h ((by decide:∀c∈aS,c<128) c m);have h2:¬c<=122:=by lia
  simp[h1,h2]
theorem rZ(c:Nat):c4 [.str [c]]=.ok (.bl (decide (c∈aS))):=by rw[mL,Kb]
theorem Dy(cs:γ Nat):Ok (a9 (aJ 0) bD (aw KA.c4 (aa (eV 0) av)) [none] (cs.map λ c=>.str [c])) λ ds=>ds=cs.map λ c=>D.bl (decide (c∈aS)):=
 bE (λ c=>D.str [c]) (λ _=>true) (λ c=>.bl (decide (c∈aS))) (λ c _=>by simp[rZ]) (by rw[A86.mpr (λ _ _=>rfl)])
def BX(cs:γ Nat):Bool:=decide (1<=cs.length/\cs.length<=8)&&cs.all λ c=>decide (c∈aS)
theorem J6(cs:γ Nat)(h:cs.length<=16777216):kJ [.str cs]=.ok (.bl (BX cs)):=by
 rw[A4];refine aD ?_;unfold BX;by_cases h1:1<=cs.length
 ·by_cases h2:cs.length<=8
  ·have e1:(1)<=(cs.length:Int):=by lia
   have e2:(cs.length:Int)<=8:=by lia
   simp[j?,cW,h,h1,h2,e1,e2,ba,fL];refine(Dy cs).imp ?_;rintro ds rfl;simp[g?,all_map]
  ·have e2:¬(cs.length:Int)<=8:=by lia
   simp[j?,cW,h,h1,h2,e2,line]
 ·have e1:¬(1)<=(cs.length:Int):=by lia
  simp[j?,cW,h,h1,e1,line]
def kindB(cs:γ Nat):Bool:=cs==[]||(decide (cs.length=1)&&cs.all λ c=>decide (c∈aS))
theorem DF(cs:γ Nat)(h:cs.length<=16777216):c4 [.str cs]=.ok (.bl (decide (cs.length=1)&&cs.all λ c=>decide (c∈aS))):=by
 cases cs with
 |nil=>rw[kM];exact aD (by simp[fz])
 |cons c r=>
  cases r with
  |nil=>rw[rZ];simp
  |cons c' r=>
   rw[kM];refine aD ?_;have e:¬((r.length:Int)+1+1=1):=by lia
   have h':r.length+1+1<=16777216:=by simpa using h
   simp[fz,h',e]
theorem Kl(cs:γ Nat)(h:cs.length<=16777216):kK [.str cs]=.ok (.bl (kindB cs)):=by
 have hl:=DF cs h;rw[A5];refine aD ?_;unfold kindB;have en:oEq (.str cs) (.str [])=.ok (.bl (decide (cs=[]))):=by cases cs<;>rfl
 by_cases h0:cs=[]
 ·subst h0;have en':oEq (.str []) (.str [])=.ok _:=rfl;simp[mr,cW]
 ·have hb:(cs==[])=false:=by simpa using h0
  simp[mr,cW,hl,hb]
section
variable {g:Gp}
theorem IL(h:p.1<=5/\1<=p.2/\p.2<10^60):jl [fq p]=.ok (.bl true):=by have i0:aI (fq p) (.int 0)=.ok _:=rfl;have i1:aI (fq p) (.int 1)=.ok _:=rfl;have w1:=within_int p.1 0 5;have w2:=sZ p.2 1;have q1:decide ((0)<=(p.1:Int)/\(p.1:Int)<=5)=true:=A35 (by lia);have q2:decide ((1)<=(p.2:Int)/\(p.2:Int)<=10^60-1)=true:=A35 ⟨by lia,R3 h.2.2⟩;rw[q1]at w1;rw[q2]at w2;rw[A2];refine aD ?_;have ty:cW .tuple (fq p)=true:=rfl;have ln:b7 (fq p)=.ok _:=rfl;simp[pQ,ty,ln,i0,i1,w1,w2]
theorem CP(hw:∀p∈g.ws,p.1<=5/\1<=p.2/\p.2<10^60):Ok (a9 (aJ 0) bD (aw jl (aa (eV 0) av)) [none] (g.ws.map fq)) λ ds=>ds=g.ws.map λ _=>D.bl true:=
 bE fq (λ _=>true) (λ _=>.bl true) (λ p hp=>by simp[IL (hw p hp)]) (by rw[A86.mpr (λ _ _=>rfl)])
theorem Dc(hu:(g.ws.map (·.1)).Pairwise (· < ·)):Ok (a9 (aJ 0) bD (eB oLt (eB aI (eB aI (eW 1) (eW 0)) (eC (.int 0))) (eB aI (eB aI (eW 1) (eB aX (eW 0) (eC (.int 1)))) (eC (.int 0)))) [none,v (.tup (g.ws.map fq))] ((List.range (g.ws.length-1)).map λ n=>D.int (n:Nat))) λ ds=>ds=(List.range (g.ws.length-1)).map λ _=>D.bl true:=
 bE (λ n=>D.int (n:Nat)) (λ _=>true) (λ _=>.bl true) (λ n hn=>by
  have Iw:=A19.mp hn;have l1:n<g.ws.length:=by lia
  have l2:n+1<g.ws.length:=by lia
  have i1:aI (.tup (g.ws.map fq)) (.int (n))=.ok (fq g.ws[n]):=(c9 rfl (by rw[P3,A01];rfl)).1;have i2:aI (.tup (g.ws.map fq)) (.int ((n)+1))=.ok (fq g.ws[n+1]):=(c9 (j:=n+1) (by lia) (by rw[P3,A01 l2];rfl)).1;have j1:∀p,aI (fq p) (.int 0)=.ok (.int p.1):=λ p=>rfl;have lt:g.ws[n].1<g.ws[n+1].1:=by have:=C19.mp hu n (n+1) (by simp;lia) (by simp;lia) (by lia);simpa using this
  have lt':((g.ws[n].1))<(g.ws[n+1].1):=by lia
  simp[i1,i2,j1,lt']) (by rw[A86.mpr (λ _ _=>rfl)])
theorem all_true{α:Type}(xs:γ α):g? (.lst (xs.map λ _=>D.bl true))=.ok (.bl true):=by have:=all_map (λ _=>true) xs;simp only[g?,this];simp
theorem zQ(k:ie g):iw [.tup (g.ws.map fq)]=.ok (.bl true):=by
 have hl:g.ws.length<=16777216:=by have:=k.wl;lia
 have e1:«zints» 0 (g.ws.length-1)=(List.range (g.ws.length-1)).map λ n=>D.int (n:Nat):=by exact A67 λ n _=>by simp
 rw[uf];refine aD ?_;simp[k8,cW,hl,ba];refine(CP k.wr).imp ?_;rintro ds rfl;rw[all_true];simp[hl];rw[e1];refine⟨by lia,(Dc k.up).imp ?_⟩;rintro ds rfl;rw[all_true];simp
theorem Ls(k:ie g):eX [b_ g]=.ok (.bl true):=by
 have w1:=within_int g.w 1 12;have w2:=within_int g.d 1 3;have w3:=within_int g.wi 0 ((g.w)*(g.d));have w4:=within_int g.ga 0 6;rw[A35 (⟨by have:=k.w1;lia,by have:=k.w2;lia⟩)]at w1;rw[A35 (⟨by have:=k.d1;lia,by have:=k.d2;lia⟩)]at w2;rw[A35 (⟨by lia,by have:=k.wi;exact_mod_cast this⟩)]at w3;rw[A35 (⟨by lia,by have:=k.ga;lia⟩)]at w4;have wk:=Kl g.kd (by rcases k.kd with h|⟨c,_,h⟩<;>rw[h]<;>simp);have wk':kindB g.kd=true:=by
  rcases k.kd with h|⟨c,hc,h⟩<;>rw[h]
  ·rfl
  ·simp[kindB,hc]
 rw[wk']at wk;have m:bS (g.w) (g.d):=cN (by lia) (by have:=k.w2;lia);rw[oB];refine aD ?_;simp[h_,ex1,ex2,Za,ex4,ex5,w1,w2,w3,w4,wk,m]
theorem G6(k:ie g):jI [b_ g]=.ok (.bl true):=by
 have hn:=J6 g.nm (by have:=k.n2;lia);have Iw:BX g.nm=true:=by unfold BX;rw[A35 ⟨k.n1,k.n2⟩,B23,A27];exact λ c hc=>A35 (k.nl c hc)
 rw[Iw]at hn;have ha:=Ls k;have hw:=zQ k;have ho:=sZ g.wo 0;rw[A35 (⟨by lia,R3 k.wo⟩)]at ho;have ty:cW .tuple (b_ g)=true:=rfl;have ln:b7 (b_ g)=.ok _:=rfl;rw[zd];refine aD ?_;simp[nD,ty,ln,Oj,ex6,ex7,hn,ha,ho,hw]
theorem HD(h:c<48\/57<c):c∉bX n:=λ m=>by have:=sH n c m;lia
theorem Gs(h:c∈aS):c≠32:=by rintro rfl;exact absurd h (by decide)
theorem EU(k:ie g):∀x∈bP g,32∉x:=by
 have dn:∀n,32∉bX n:=λ n=>HD (by decide);intro x hx;simp only[bP,A25]at hx;have NY:∀{key}{n},32∉key->x∈cM key n->32∉x:=by
  intro key n hk hx;unfold cM at hx;split at hx
  ·rcases v6.mp hx with rfl|hx
   ·exact hk
   ·rw[A13.mp hx];exact dn n
  ·cases hx
 rcases hx with((((hx|hx)|hx)|hx)|hx)|hx
 ·rcases v6.mp hx with rfl|hx
  ·exact λ m=>Gs (k.nl _ m) rfl
  ·rw[A13.mp hx,d_];simp only[A25,A76];exact⟨⟨dn _,by decide⟩,dn _⟩
 ·unfold fg at hx;split at hx
  ·cases hx
  ·rcases v6.mp hx with rfl|hx
   ·decide
   ·rw[A13.mp hx];rcases k.kd with h|⟨c,hc,h⟩<;>rw[h]
    ·simp
    ·intro m;exact Gs hc (A13.mp m).symm
 ·exact NY (by decide) hx
 ·exact NY (by decide) hx
 ·exact NY (by decide) hx
 ·obtain⟨y,hy,hx⟩:=List.mem_flatten.mp hx;obtain⟨p,hp,rfl⟩:=A08.mp hy;simp only[b8,v6,A18,A21]at hx;rcases hx with rfl|rfl|rfl
  ·decide
  ·exact dn _
  ·exact dn _
theorem yT:∀(ts:Rows),(∀x∈ts,x.length<=m)->(cw [32] ts).length<=ts.length*(m+1)
 |[],_=>by simp[cw]
 |[x],h=>by have:=h x (by simp);simp[cw];lia
 |x::y::r,h=>by have h1:=h x (by simp);have h2:=yT _ λ z hz=>h z (A09 _ hz);simp only[cw,A23,A36,A81]at h2 ⊢;rw[B37,B37]at *;lia
theorem Bk(cs:γ Nat)(c i:Nat):PySem.StrLaws.At (⟨cs.toArray⟩) ⟨#[c]⟩ (⟨cs.toArray⟩:PySem.Str).length i↔cs[i]?=some c:=by have:=PySem.StrLaws.subAt_one (⟨cs.toArray⟩) c i;rw[show(⟨_⟩:PySem.Str).cps.toList=cs from rfl]at this;exact this
theorem JS(cs:γ Nat)(c:Nat):(PySem.Builtin.Str.occurrences ⟨cs.toArray⟩ ⟨#[c]⟩ 0 cs.length 1=[]/\c∉cs)\/∃i r,PySem.Builtin.Str.occurrences ⟨cs.toArray⟩ ⟨#[c]⟩ 0 cs.length 1=i::r/\cs[i]?=some c/\∀k,k<i->cs[k]?≠some c:=by
 have hl:(⟨cs.toArray⟩:PySem.Str).length=cs.length:=by show cs.toArray.size=cs.length;simp
 rcases PySem.StrLaws.occ_head (⟨_⟩) ⟨#[c]⟩ 1 (o0 _)with⟨h,hn⟩|⟨i,r,h,ha,hn⟩
 ·left;rw[hl]at h;refine⟨h,λ m=>?_⟩;obtain⟨i,hi⟩:=C46.mp m;exact hn i ((Bk cs c i).mpr hi)
 ·right;rw[hl]at h;exact⟨i,r,h,(Bk cs c i).mp ha,λ k hk z=>hn k hk ((Bk cs c k).mpr z)⟩
theorem JG(h:c∉a):jc c (a++c::b)=(a,[c],b):=by
 have ha:(a++c::b)[a.length]?=some c:=by simp
 unfold jc;rcases JS (a++c::b) c with⟨_,hn⟩|⟨i,r,e,hi,hm⟩
 ·exact absurd (A25.mpr (.inr A12)) hn
 ·rw[e];have e1:i=a.length:=by
   rcases Nat.lt_trichotomy i _ with lN|heq|hgt
   ·rw[A44 lN]at hi;exact absurd (A15 hi) h
   ·exact heq
   ·exact absurd ha (hm _ hgt)
  subst e1;simp
def mE(g:Gp):D:=.tup [.str (bX g.w),.str [120],.str (bX g.d)]
theorem JF(k:ie g):uF (.str (d_ g)) (.str [120])=.ok (mE g):=by
 have lw:=fH (n:=g.w) (by decide) (bT (by have:=k.w2;lia));have ld:=fH (n:=g.d) (by decide) (bT (by have:=k.d2;lia));have hl:(d_ g).length<=line:=by simp only[d_,A23,A36,A81];lia
 show guard _ _=_;rw[guard_pos hl,show d_ g=bX g.w++120::bX g.d by simp[d_],JG (HD (by decide))];rfl
theorem HS(ws:γ (Nat×Nat))(hl:ws.length<=100)(hw:∀p∈ws,p.1<10^60/\p.2<10^60):gE [.lst ((ws.map b8).flatten.map .str)]=.ok (.tup (ws.map fq)):=by
 have len:=nI ws;have e3:ints3 0 ws.length=(List.range ws.length).map λ n=>D.int ((n:Nat)*3):=by unfold ints3;exact A67 λ n _=>by simp
 have T3:∀n h,((ws.map b8).flatten.map D.str)[3*n+1]?=some (.str (bX ws[n].1))/\((ws.map b8).flatten.map D.str)[3*n+2]?=some (.str (bX ws[n].2)):=by
  clear e3 hl len hw
  induction ws with
  |nil=>intro n h;cases h
  |cons p r ih=>
   intro n h;cases n with
   |zero=>exact⟨rfl,rfl⟩
   |succ n=>have:=ih n (by simpa using h);rw[show 3*(n+1)+1=(3*n+1)+1+1+1 by lia,show 3*(n+1)+2=(3*n+2)+1+1+1 by lia];simpa[b8]using this
 obtain⟨f,hf⟩:∃f,∀n h,f n=fq ws[n]:=⟨λ n=>if h:n<ws.length then fq ws[n]else .non,λ n h=>by simp[h]⟩
 have R1:(((ws.map b8).flatten.map D.str).length:Int)=3*(ws.length:Int):=by rw[A03,len];push_cast;rfl
 have qx:((ws.map b8).flatten.map D.str).length<=16777216:=by rw[A03];lia
 generalize (ws.map b8).flatten.map D.str=WD at T3 R1 qx ⊢;have ec:Ok (a9 (aJ 0) bD (dF (aa (aw bj (aa (eB aI (eW 1) (eB aX (eW 0) (eC (.int 1)))) av)) (aa (aw bj (aa (eB aI (eW 1) (eB aX (eW 0) (eC (.int 2)))) av)) av))) [none,v (.lst WD)] ((List.range ws.length).map λ n=>D.int ((n:Nat)*3))) λ ds=>ds=ws.map fq:=by
  refine bE (λ n=>D.int ((n:Nat)*3)) (λ _=>true) f (xs:=List.range ws.length) (λ n hn=>?_) ?_
  ·have Iw:=A19.mp hn;obtain⟨a1,a2⟩:=T3 n Iw;have i1:aI (.lst WD) (.int ((n:Nat)*3+1))=.ok (.str (bX ws[n].1)):=(c9 (j:=3*n+1) (by push_cast;lia) a1).2;have i2:aI (.lst WD) (.int ((n:Nat)*3+2))=.ok (.str (bX ws[n].2)):=(c9 (j:=3*n+2) (by push_cast;lia) a2).2;obtain⟨p1,p2⟩:=hw ws[n] (A93 Iw);have d1:=fZ p1;have d2:=fZ p2;have hg:=hf n Iw;unfold fq at hg;simp -implicitDefEqProofs [i1,i2,d1,d2,line,hg]
  ·rw[A86.mpr (λ _ _=>rfl)];refine B39 (by simp) λ n h1 h2=>?_;have Eb:n<ws.length:=by simpa using h2
   simp[hf n Eb]
 rw[wB];refine aD ?_;have sz:((3*(ws.length:Int)-2+2) / 3).toNat=ws.length:=by lia
 have g1:(3*(ws.length:Int)-2)<=1000000000:=by lia
 have g0:-1000000000<=(3*(ws.length:Int)-2):=by lia
 have hr:ws.length<=16777216:=by lia
 have hb:P0 (.int 0) (.int (3*(ws.length:Int)-2)) (.int 3)=.ok ((List.range ws.length).map λ n=>D.int ((n:Nat)*3)):=by rw[TR,guard_pos ⟨rfl,by decide,by decide,g0,g1⟩,Int.sub_zero,sz,e3]
 have oL:b7 (.lst WD)=.ok (.int (3*(ws.length:Int))):=by
  rw[<-R1]
  first|rfl|simp[line,qx]
 simp -implicitDefEqProofs [lZ,oL,hb,ba,fL,line,hr];refine ec.imp ?_;rintro ds rfl;simp
end
section
abbrev td(a b c d:γ Nat):ε L:=some (.zL [(c_,a),(bQ,b),(cU,c),(a_,d)])
noncomputable def bG:SF:=(d! (tO (tE (eB oLt (eB aX (eW 3) (eC (.int 1))) (eU b7 (eW 0)))) (tE (eB oEq (eB aI (eW 0) (eW 3)) (eW 4)))) (ay (BJ 2 (eV 4) (eB aI (eW 0) (eB aX (eW 3) (eC (.int 1))))) (aO 3 (eB uG (eV 3) (eC (.int 2))))) aT)
theorem O1{WD:Rows}(h1:WD[at']?=some key)(h2:WD[at'+1]?=some val)(hl:WD.length<=100000)(hT:T.length<10)(x4:ε L):
  Ok (aJ 4 (.str key) [v (.lst (WD.map .str)),x1,some (.zL T),vi (at':Nat),x4]) λ ρ1=>Ok (bG ρ1) λ fl=>fl=.nx [v (.lst (WD.map .str)),x1,some (.zL (o8 T key val)),vi ((at'+2:Nat)),vs key]:=by
 have l2:=(A02.mp h2).1;have i1:aI (.lst (WD.map .str)) (.int (at':Nat))=.ok (.str key):=(c9 (j:=at') rfl (by rw[P3,h1];rfl)).2;have i2:aI (.lst (WD.map .str)) (.int ((at':Nat)+1))=.ok (.str val):=(c9 (j:=at'+1) (by lia) (by rw[P3,h2];rfl)).2;have qx:WD.length<=16777216:=by lia
 have q:((at':Nat):Int)+1<(WD.length:Int):=by lia
 have eq:oEq (.str key) (.str key)=.ok (.bl true):=by
  have:i' (.str key) (.str key)=some true:=by show some (key==key)=_;simp
  simp[oEq,this]
 have YV:T.length<16777216:=by lia
 simp -implicitDefEqProofs [bG,i1,i2,qx,q,eq,line,YV]
theorem Lq{WD:Rows}(h:∀w,WD[at']?=some w->w≠key)(hl:WD.length<=100000)(x4:ε L):
  Ok (aJ 4 (.str key) [v (.lst (WD.map .str)),x1,x2,vi (at':Nat),x4]) λ ρ1=>Ok (bG ρ1) λ fl=>fl=.nx [v (.lst (WD.map .str)),x1,x2,vi (at':Nat),vs key]:=by
 have qx:WD.length<=16777216:=by lia
 by_cases q:((at':Nat):Int)+1<(WD.length:Int)
 ·have l1:at'<WD.length:=by lia
  have i1:aI (.lst (WD.map .str)) (.int (at':Nat))=.ok (.str WD[at']):=(c9 (j:=at') rfl (by rw[P3,A01 l1];rfl)).2;have ne:=h _ (A01 l1);have eq:oEq (.str WD[at']) (.str key)=.ok (.bl false):=by
   have:i' (.str WD[at']) (.str key)=some false:=by show some (WD[at']==key)=_;simp[ne]
   simp[oEq,this]
  simp -implicitDefEqProofs [bG,i1,qx,q,eq,line]
 ·simp -implicitDefEqProofs [bG,qx,q,line]
theorem sf(h:(cM key n++rest)[0]?=some w):w=key\/rest[0]?=some w:=by
 unfold cM at h;split at h
 ·left;simpa using h.symm
 ·right;simpa using h
theorem D_{ws:γ _}(h:(ws.map b8).flatten[0]?=some w):w=EB:=by
 cases ws with
 |nil=>simp at h
 |cons p r=>simp[b8]at h;exact h.symm
theorem Bl{pre part rest:Rows}:(pre++part++rest)[pre.length+i]?=(part++rest)[i]?:=by
 rw[A69,A54 (by lia)]
 congr 1
 lia
theorem ma{pre rest:Rows}{b:Bool}(hl:(pre++(if b then[key,val]else[])++rest).length<=100000)(hT:T.length<10)(hh:∀w,rest[0]?=some w->w≠key)(x4:ε L):
  Ok (aJ 4 (.str key) [v (.lst ((pre++(if b then[key,val]else[])++rest).map .str)),x1,some (.zL T),vi (pre.length),x4]) λ ρ1=>Ok (bG ρ1) λ fl=>fl=.nx [v (.lst ((pre++(if b then[key,val]else[])++rest).map .str)),x1,some (.zL (if b then o8 T key val else T)),vi ((pre++(if b then[key,val]else[])).length),vs key]:=by
 cases b with
 |true=>
  have h1:(pre++[key,val]++rest)[pre.length]?=some key:=by have:=Bl (pre:=pre) (part:=[key,val]) (rest:=rest) (i:=0);rw[Nat.add_zero]at this;rw[this];rfl
  have h2:(pre++[key,val]++rest)[pre.length+1]?=some val:=by rw[Bl];rfl
  have:=O1 (x1:=x1) h1 h2 hl hT x4;simp only[A20]at this ⊢;rw[show(pre++[key,val]).length=pre.length+2 by simp];exact this
 |false=>
  have:=Lq (x1:=x1) (x2:=some (.zL T)) (WD:=pre++[]++rest) (at':=pre.length) (key:=key) (λ w hw=>by have h:=Bl (pre:=pre) (part:=[]) (rest:=rest) (i:=0);rw[Nat.add_zero]at h;rw[h]at hw;exact hh w (by simpa using hw)) hl x4
  simp only[A45,A65]at this ⊢;rw[show(pre++([]:Rows)).length=pre.length by simp];exact this
theorem v_(key:γ Nat)(n:Nat):cM key n=if decide (0<n)then[key,bX n]else[]:=by unfold cM;by_cases h:0<n<;>simp
theorem Gw(k:γ Nat):fg k=if decide (k≠[])then[c_,k]else[]:=by unfold fg;by_cases h:k=[]<;>simp
theorem HL(xs ys:γ D):cut (xs++ys) (some (xs.length)) none=ys:=by
 have:¬(xs.length:Int)<0:=by lia
 simp[cut,eu,this]
noncomputable def bg1:SF:=aO 1 (eB uF (eB aI (eW 0) (eC (.int 1))) (eC (.str [120])))
noncomputable def ZL:SF:=eZ (dh (dF (aa (eC (.str [107,105,110,100])) (aa (eC (.str [119,105,100,101])) (aa (eC (.str [103,97,112])) (aa (eC (.str [119,111,114,116,104])) av)))))) (aJ 4) bG
noncomputable def bg5:SF:=(aR (dF (aa (eB aI (eW 0) (eC (.int 0))) (aa (aw bj (aa (eB aI (eW 1) (eC (.int 0))) av)) (aa (aw bj (aa (eB aI (eW 1) (eC (.int 2))) av)) (aa (mO 2 (eC (.str [107,105,110,100]))) (aa (aw bj (aa (mO 2 (eC (.str [119,105,100,101]))) av)) (aa (aw bj (aa (mO 2 (eC (.str [103,97,112]))) av)) (aa (aw bj (aa (mO 2 (eC (.str [119,111,114,116,104]))) av)) (aa (aw gE (aa (eL (Ke (eW 0) (xm (eW 3)) BQ)) av)) av))))))))))
theorem hbg:nE=ay bg1 (ay (UO 2 [(c_,[]),(bQ,[48]),(cU,[48]),(a_,[48])]) (ay (aO 3 (eC (.int 2))) (ay ZL bg5))):=rfl
theorem OY(k:ie g):Ok (ZL [v (.lst ((bP g).map .str)),v (mE g),td [] [48] [48] [48],vi 2,none]) λ fl=>∃x4,fl=.nx [v (.lst ((bP g).map .str)),v (mE g),td g.kd (bX g.wi) (bX g.ga) (bX g.wo),vi (([g.nm,d_ g]++fg g.kd++cM bQ g.wi++cM cU g.ga++cM a_ g.wo).length),x4]:=by
 have hi:∀ρ,dh (dF (aa (eC (.str [107,105,110,100])) (aa (eC (.str [119,105,100,101])) (aa (eC (.str [103,97,112])) (aa (eC (.str [119,111,114,116,104])) av))))) ρ=.ok [.str c_,.str bQ,.str cU,.str a_]:=λ ρ=>by show(guard ([D.str c_,.str bQ,.str cU,.str a_].length<=line) (Res.ok (D.tup [.str c_,.str bQ,.str cU,.str a_]))).bind jD=_;rw[guard_pos (by simp[line])];rfl
 have hl:=l! k;unfold ZL;rw[vN,hi,Res.fW];have k1:=Gw g.kd;have n1:=v_ bQ g.wi;have n2:=v_ cU g.ga;have n3:=v_ a_ g.wo;have e1:[g.nm,d_ g]++(if decide (g.kd≠[])then[c_,g.kd]else[])++(cM bQ g.wi++(cM cU g.ga++(cM a_ g.wo++(g.ws.map b8).flatten)))=bP g:=by rw[<-k1];simp[bP]
 have e2:([g.nm,d_ g]++fg g.kd)++(if decide (0<g.wi)then[bQ,bX g.wi]else[])++(cM cU g.ga++(cM a_ g.wo++(g.ws.map b8).flatten))=bP g:=by rw[<-n1];simp[bP]
 have e3:([g.nm,d_ g]++fg g.kd++cM bQ g.wi)++(if decide (0<g.ga)then[cU,bX g.ga]else[])++(cM a_ g.wo++(g.ws.map b8).flatten)=bP g:=by rw[<-n2];simp[bP]
 have e4:([g.nm,d_ g]++fg g.kd++cM bQ g.wi++cM cU g.ga)++(if decide (0<g.wo)then[a_,bX g.wo]else[])++(g.ws.map b8).flatten=bP g:=by rw[<-n3];simp[bP]
 have t1:(if decide (g.kd≠[])then o8 [(c_,[]),(bQ,[48]),(cU,[48]),(a_,[48])] c_ g.kd else[(c_,[]),(bQ,[48]),(cU,[48]),(a_,[48])])=[(c_,g.kd),(bQ,[48]),(cU,[48]),(a_,[48])]:=by
  by_cases h:g.kd=[]
  ·simp[h]
  ·rw[A35 h,M2 rfl];rfl
 have d0:bX 0=[48]:=by decide
 have t2:(if decide (0<g.wi)then o8 [(c_,g.kd),(bQ,[48]),(cU,[48]),(a_,[48])] bQ (bX g.wi)else[(c_,g.kd),(bQ,[48]),(cU,[48]),(a_,[48])])=[(c_,g.kd),(bQ,bX g.wi),(cU,[48]),(a_,[48])]:=by
  by_cases h:0<g.wi
  ·rw[A35 h,M2 rfl];rfl
  ·rw[show g.wi=0 by lia,d0];rfl
 have t3:(if decide (0<g.ga)then o8 [(c_,g.kd),(bQ,bX g.wi),(cU,[48]),(a_,[48])] cU (bX g.ga)else[(c_,g.kd),(bQ,bX g.wi),(cU,[48]),(a_,[48])])=[(c_,g.kd),(bQ,bX g.wi),(cU,bX g.ga),(a_,[48])]:=by
  by_cases h:0<g.ga
  ·rw[A35 h,M2 rfl];rfl
  ·rw[show g.ga=0 by lia,d0];rfl
 have t4:(if decide (0<g.wo)then o8 [(c_,g.kd),(bQ,bX g.wi),(cU,bX g.ga),(a_,[48])] a_ (bX g.wo)else[(c_,g.kd),(bQ,bX g.wi),(cU,bX g.ga),(a_,[48])])=[(c_,g.kd),(bQ,bX g.wi),(cU,bX g.ga),(a_,bX g.wo)]:=by
  by_cases h:0<g.wo
  ·rw[A35 h,M2 rfl];rfl
  ·rw[show g.wo=0 by lia,d0];rfl
 have _7:∀w,(g.ws.map b8).flatten[0]?=some w->w=EB:=λ w h=>D_ h;have VP:∀w,(cM a_ g.wo++(g.ws.map b8).flatten)[0]?=some w->w=a_\/w=EB:=λ w h=>(sf h).imp id (_7 w);have hd2:∀w,(cM cU g.ga++(cM a_ g.wo++(g.ws.map b8).flatten))[0]?=some w->w=cU\/w=a_\/w=EB:=λ w h=>(sf h).imp id (VP w);have L9:∀w,(cM bQ g.wi++(cM cU g.ga++(cM a_ g.wo++(g.ws.map b8).flatten)))[0]?=some w->w=bQ\/w=cU\/w=a_\/w=EB:=λ w h=>(sf h).imp id (hd2 w);have s1:=ma (pre:=[g.nm,d_ g]) (b:=decide (g.kd≠[])) (key:=c_) (val:=g.kd) (x1:=v (mE g)) (T:=[(c_,[]),(bQ,[48]),(cU,[48]),(a_,[48])]) (rest:=cM bQ g.wi++(cM cU g.ga++(cM a_ g.wo++(g.ws.map b8).flatten))) (by rw[e1];lia) (by decide) (λ w h=>by rcases L9 w h with rfl|rfl|rfl|rfl<;>decide) none;rw[e1,t1,<-k1]at s1;have s2:=ma (pre:=[g.nm,d_ g]++fg g.kd) (b:=decide (0<g.wi)) (key:=bQ) (val:=bX g.wi) (x1:=v (mE g)) (T:=[(c_,g.kd),(bQ,[48]),(cU,[48]),(a_,[48])]) (rest:=cM cU g.ga++(cM a_ g.wo++(g.ws.map b8).flatten)) (by rw[e2];lia) (by show 4<10;decide) (λ w h=>by rcases hd2 w h with rfl|rfl|rfl<;>decide) (vs c_);rw[e2,t2,<-n1]at s2;have s3:=ma (pre:=[g.nm,d_ g]++fg g.kd++cM bQ g.wi) (b:=decide (0<g.ga)) (key:=cU) (val:=bX g.ga) (x1:=v (mE g)) (T:=[(c_,g.kd),(bQ,bX g.wi),(cU,[48]),(a_,[48])]) (rest:=cM a_ g.wo++(g.ws.map b8).flatten) (by rw[e3];lia) (by show 4<10;decide) (λ w h=>by rcases VP w h with rfl|rfl<;>decide) (vs bQ);rw[e3,t3,<-n2]at s3;have s4:=ma (pre:=[g.nm,d_ g]++fg g.kd++cM bQ g.wi++cM cU g.ga) (b:=decide (0<g.wo)) (key:=a_) (val:=bX g.wo) (x1:=v (mE g)) (T:=[(c_,g.kd),(bQ,bX g.wi),(cU,bX g.ga),(a_,[48])]) (rest:=(g.ws.map b8).flatten) (by rw[e4];lia) (by show 4<10;decide) (λ w h=>by rw[_7 w h];decide) (vs cU);rw[e4,t4,<-n3]at s4;refine jk (s1.imp λ ρ1 h=>h.imp ?_);rintro fl rfl;rw[jz];refine jk (s2.imp λ ρ1 h=>h.imp ?_);rintro fl rfl;rw[jz];refine jk (s3.imp λ ρ1 h=>h.imp ?_);rintro fl rfl;rw[jz];refine jk (s4.imp λ ρ1 h=>h.imp ?_);rintro fl rfl;rw[jz];exact Ci ⟨_,rfl⟩
theorem yS(k:ie g):jJ [.lst ((bP g).map .str)]=.ok (b_ g):=by
 have i0:aI (.lst ((bP g).map .str)) (.int 0)=.ok _:=(c9 rfl rfl).2;have i1:aI (.lst ((bP g).map .str)) (.int 1)=.ok _:=(c9 rfl rfl).2;have ep:=JF k;rw[ze,hbg];refine aD ?_;refine iI (ρ1:=[v (.lst ((bP g).map .str)),v (mE g),none,none,none]) (by simp -implicitDefEqProofs [bg1,i1,ep]) ?_;refine iI ⟨_,rfl,rfl⟩ ?_;refine iI ⟨_,rfl,rfl⟩ ?_;rw[iJ,qW];refine(OY k).imp ?_;rintro fl ⟨x4,rfl⟩;rw[gy];have j0:aI (mE g) (.int 0)=.ok (.str (bX g.w)):=rfl;have j2:aI (mE g) (.int 2)=.ok (.str (bX g.d)):=rfl;have n1:=fZ (bT (n:=g.w) (by have:=k.w2;lia));have n2:=fZ (bT (n:=g.d) (by have:=k.d2;lia));have n3:=fZ (Bv k);have n4:=fZ (bT (n:=g.ga) (by have:=k.ga;lia));have n5:=fZ k.wo;have hw:=HS g.ws (by have:=k.wl;lia) λ p hp=>by obtain⟨h1,h2,h3⟩:=k.wr p hp;exact⟨bT (by lia),h3⟩
 obtain⟨pre,AQ⟩:∃pre,pre=[g.nm,d_ g]++fg g.kd++cM bQ g.wi++cM cU g.ga++cM a_ g.wo:=⟨_,rfl⟩
 have N7:cut ((bP g).map D.str) (some (pre.length)) none=(g.ws.map b8).flatten.map D.str:=by
  have:(bP g).map D.str=pre.map D.str++(g.ws.map b8).flatten.map D.str:=by rw[AQ,<-A68];rfl
  rw[this];have h2:=HL (pre.map D.str) ((g.ws.map b8).flatten.map D.str);rw[A03]at h2;exact h2
 rw[<-AQ];have v1:∀a b c d,q! [(c_,a),(bQ,b),(cU,c),(a_,d)] c_=some a:=λ a b c d=>rfl;have v2:∀a b c d,q! [(c_,a),(bQ,b),(cU,c),(a_,d)] bQ=some b:=λ a b c d=>rfl;have v3:∀a b c d,q! [(c_,a),(bQ,b),(cU,c),(a_,d)] cU=some c:=λ a b c d=>rfl;have v4:∀a b c d,q! [(c_,a),(bQ,b),(cU,c),(a_,d)] a_=some d:=λ a b c d=>rfl;generalize (bP g).map D.str=WD at i0 N7 ⊢;generalize (g.ws.map b8).flatten.map D.str=WW at N7 hw;simp -implicitDefEqProofs [bg5,i0,j0,j2,n1,n2,n3,n4,n5,Gv,N7,hw,v1,v2,v3,v4,line,b_]
theorem Jp(k:ie g):eM [.str (cw [32] (bP g))]=.ok (b_ g):=by
 have ψ:=l! k;have gl:=yT _ (mR k);have hg:(cw [32] (bP g)).length<=10000:=by lia
 have hc:=kS (λ e=>by have:=A22 List.length e;simp[bP]at this) (EU k);have es:Ad (.str (cw [32] (bP g))) (.str [32])=.ok ((bP g).map .str):=by rw[Fi,hc,guard_pos];simp only[line];lia
 have h2:2<=(bP g).length:=by simp only[bP,A23,A36,A81];lia
 have hi:=yS k;have PK:=G6 k;have hs:=Jk k;have q:¬(((bP g).length):Int)<2:=by lia
 have qx:(bP g).length<=16777216:=by lia
 have en:∀t,jY (.str t) (.str t)=.ok (.bl false):=λ t=>by
  have:i' (.str t) (.str t)=some true:=by show some _=_;simp
  simp[jY,this]
 rw[t_];refine aD ?_;simp -implicitDefEqProofs [kW,cW,es,qx,q,hi,PK,hs,en,line]
end
theorem jf{z:Int}(h:0<=z):∃n:Nat,z=n:=⟨z.toNat,by lia⟩
theorem ints_get(h:(«zints» lo n)[j]?=some d):j<n/\d=.int (lo+(j)):=by
 unfold «zints» at h;rw[P3]at h;cases q:(List.range n)[j]? with
 |none=>rw[q]at h;cases h
 |some x=>rw[q]at h;cases h;obtain⟨h1,h2⟩:=A02.mp q;rw[B21]at h2;subst h2;exact⟨by simpa using h1,rfl⟩
theorem GG(n:Nat):«zints» 0 n=(List.range n).map λ i=>D.int (i:Nat):=by exact A67 λ n _=>by simp
def one(c:Nat):D:=.str [c]
theorem join_one(bs:γ Nat)(h:bs.length<=100):iO (.str []) (.lst (bs.map one))=.ok (.str bs):=by
 have e:bs.map one=(bs.map λ c=>[c]).map D.str:=by rw[A14];rfl
 have f:(bs.map λ c=>[c]).flatten=bs:=by
  clear e h
  induction bs with
  |nil=>rfl
  |cons x r ih=>rw[A05,List.flatten_cons,ih];rfl
 rw[e,Dq (by rw[f];lia),f]
def Ib(nm:γ Nat):Prop:=1<=nm.length/\nm.length<=8/\∀c∈nm,c∈aS
theorem ED(c:Int)(S:Nat)(hS:S<=8):Ok (a9 (aJ 0) bD (eB aI (eW 1) (eB oMod (aw KA.bx (aa (eV 2) (aa (eB aX (eC (.int 100)) (eW 0)) av))) (eC (.int 26)))) [none,vs aS,vi c] ((List.range S).map λ i=>D.int (i:Nat))) λ ds=>∃bs:γ Nat,bs.length=S/\(∀c∈bs,c∈aS)/\ds=bs.map one:=by
 have H:∀n,n<S->∃q∈aS,Ok (eB aI (eW 1) (eB oMod (aw KA.bx (aa (eV 2) (aa (eB aX (eC (.int 100)) (eW 0)) av))) (eC (.int 26))) [vi (n),vs aS,vi c]) λ y=>y=one q:=by intro n hn;obtain⟨m,em,hm⟩:=mixed c (k:=100+(n)) (by lia) (by lia);obtain⟨q,hq,eq⟩:=gi m;exact⟨q,hq,by simp[em,eq,one]⟩
 obtain⟨f,hf⟩:∃f,∀n,n<S->f n∈aS/\Ok (eB aI _ _ [vi (n),vs aS,vi c]) λ y=>y=one (f n):=
  ⟨λ n=>if h:n<S then(H n h).choose else 0,λ n h=>by simp only[dif_pos h];exact(H n h).choose_spec⟩
 refine bE (λ n=>D.int (n:Nat)) (λ _=>true) (λ n=>one (f n)) (λ n hn=>?_) ?_
 ·have:=(hf n (A19.mp hn)).2;rw[Cf,zG];refine⟨true,rfl,rfl,λ _=>?_⟩;exact this
 ·rw[A86.mpr (λ _ _=>rfl)];refine⟨(List.range S).map f,by simp,?_,by rw[A14];rfl⟩;intro q hq;obtain⟨n,hn,rfl⟩:=A08.mp hq;exact(hf n (A19.mp hn)).1
theorem Jq(he:e ρ=.ok d)(hk:k ρ=.ok (.int z))(ho:ρ[i]?=some (some (.own xs)))(hz:ph xs.length z=some j):vK i k e ρ=.ok (.nx (ρ.set i (some (.own (xs.set j d))))):=by unfold vK;rw[he,hk];simp only[Res.bind,ho,hz]
theorem Gg(c:Int)(n:Nat)(hn:n<=100):∃mi:γ (γ Nat),mi.length=n/\(∀x∈mi,Ib x)/\iX [.int c,.int n]=.ok (.lst (mi.map .str)):=by
 obtain⟨S,hS⟩:=jf (z:=1+c % 8) (by lia);have hS1:1<=S/\S<=8:=by lia
 have hS0:(0:Int)<S:=by lia
 obtain⟨pt,hpt⟩:=jf (z:=c / 8 % S) (C16 _ (by lia));have iV:pt<S:=by have:=Int.emod_lt_of_pos (c / 8) hS0;lia
 have d8:iA 8:=cE (by decide) (by decide);have d64:iA 64:=cE (by decide) (by decide);have hr:=GG S;have:Ok (br (jM [v (.int c),v (.int n),none,none,none,none,none,none])) λ d=>∃mi:γ (γ Nat),mi.length=n/\(∀x∈mi,Ib x)/\d=.lst (mi.map .str):=by
  refine lD ?_;have hSl:S<=16777216:=by lia
  simp[jM,d8,hS,hS0,hpt,ba,fL,line,hr,hSl];refine⟨by lia,(ED c S hS1.2).imp ?_⟩;rintro ds ⟨bs,Cb,PQ,rfl⟩;refine dE (λ i ρ=>∃mi bs x7,mi.length=i/\(∀x∈mi,Ib x)/\bs.length=S/\(∀c∈bs,c∈aS)/\ρ=[v (.int c),v (.int n),vs aS,vi S,vi pt,ow (bs.map one),ow (mi.map .str),x7]) ⟨[],bs,none,rfl,by simp,Cb,PQ,rfl⟩ ?_ ?_
  ·rintro i d ρ hi ⟨mi,bs,x7,hl,B_,Cb,PQ,rfl⟩;obtain⟨N1,rfl⟩:=ints_get hi;obtain⟨q,hq,eq⟩:=gi (c / 64+(i:Nat));have GU:((bs.map one).set pt (.str [q]))=(bs.set pt q).map one:=by rw[B63];rfl
   have ej:=join_one (bs.set pt q) (by rw[B20];lia);have L4:∀c∈bs.set pt q,c∈aS:=λ c hc=>by
    rcases C47 hc with h|h
    ·exact PQ c h
    ·rw[h];exact hq
   have ix:ph bs.length (pt:Int)=some pt:=by unfold ph;rw[M2 (by lia),M2 (by lia)];simp
   have VG:mi.length<16777216:=by lia
   rw[Cf,zG,iJ];have hp:=Jq (i:=5) (k:=eV 4) (e:=eB aI (eW 2) (eB oMod (eB aX (eB oDiv (eW 0) (eC (.int 64))) (eW 7)) (eC (.int 26)))) (ρ:=[v (.int c),v (.int n),vs aS,vi S,vi pt,ow (bs.map one),ow (mi.map .str),vi (0+(i:Nat))]) (xs:=bs.map one) (j:=pt) (z:=(pt:Int)) (d:=.str [q]) (by simp[d64,eq]) rfl rfl (by rw[A03];exact ix);show Ok ((vK 5 (eV 4) _ [v (.int c),v (.int n),vs aS,vi S,vi pt,ow (bs.map one),ow (mi.map .str),vi (0+(i:Nat))]).bind _) _;rw[hp,Res.fW,gy];show Ok (dC 6 (eB iO (eC (.str [])) (eW 5)) [v (.int c),v (.int n),vs aS,vi S,vi pt,ow ((bs.map one).set pt (.str [q])),ow (mi.map .str),vi (0+(i:Nat))]) _;rw[GU];have _9:(bs.set pt q).length=S:=by rw[B20];exact Cb
   generalize bs.set pt q=tw at ej L4 _9 ⊢;have hap:dC 6 (eB iO (eC (.str [])) (eW 5)) [v (.int c),v (.int n),vs aS,vi S,vi pt,ow (tw.map one),ow (mi.map .str),vi (0+(i:Nat))]=.ok (.nx [v (.int c),v (.int n),vs aS,vi S,vi pt,ow (tw.map one),ow ((mi++[tw]).map .str),vi (0+(i:Nat))]):=by simp -implicitDefEqProofs [ej,line,VG,guard_pos]
   rw[hap,zG,jz];refine⟨mi++[tw],tw,_,by simp[hl],?_,_9,L4,rfl⟩;intro x hx;rcases A25.mp hx with hx|hx
   ·exact B_ x hx
   ·rw[A13.mp hx];exact⟨by lia,by lia,L4⟩
  ·rintro ρ ⟨mi,bs,x7,hl,B_,Cb,PQ,rfl⟩;have qx:mi.length=n:=by rw[hl];unfold «zints»;simp
   simp -implicitDefEqProofs;exact⟨mi,qx,B_,rfl⟩
 rw[<-wJ]at this;obtain⟨d,e,mi,h1,h2,rfl⟩:=this;exact⟨mi,h1,h2,e⟩
structure qD(n:Nat)(ws:List (Nat×Nat)):Prop where
 l:ws.length<=n
 r:∀p∈ws,p.1<n/\1<=p.2/\p.2<10^60
 up:(ws.map (·.1)).Pairwise (· < ·)
theorem qD.next(h:qD n ws):qD (n+1) ws:=⟨by have:=h.l;lia,λ p hp=>by obtain⟨a,b⟩:=h.r p hp;exact⟨by lia,b⟩,h.up⟩
theorem qD.snoc(h:qD n ws)(h1:1<=a)(h2:a<10^60):qD (n+1) (ws++[(n,a)]):=by
 refine⟨by have:=h.l;simp;lia,λ p hp=>?_,?_⟩
 ·rcases A25.mp hp with hp|hp
  ·obtain⟨a,b⟩:=h.r p hp;exact⟨by lia,b⟩
  ·rw[A13.mp hp];exact⟨by lia,h1,h2⟩
 ·rw[A68,List.pairwise_append];refine⟨h.up,by simp,λ x hx y hy=>?_⟩;obtain⟨p,hp,rfl⟩:=A08.mp hx;simp at hy;rw[hy];exact(h.r p hp).1
theorem MF(j:Nat)(hj:j<6):∃q,JW (.int 1) (.int (j))=.ok (.int q)/\iA q:=by
 refine⟨1*2^j,?_,?_⟩
 ·show guard _ _=_;rw[guard_pos ⟨by lia,by lia,by decide⟩,A85]
 ·have:j=0\/j=1\/j=2\/j=3\/j=4\/j=5:=by lia
  rcases this with rfl|rfl|rfl|rfl|rfl|rfl<;>exact cE (by decide) (by decide)
theorem OU:bits 10000000000000000000000000000000000000000000000000000000<=16777216:=CB (A17 (show(10000000000000000000000000000000000000000000000000000000:Int).natAbs<2^200 by decide) (C13 (by decide) (by decide)))
theorem OV:bits 100000000000000000000000000000000000000000000000000<=16777216:=CB (A17 (show(100000000000000000000000000000000000000000000000000:Int).natAbs<2^200 by decide) (C13 (by decide) (by decide)))
theorem CO(hc:bits c<=2^20):∃ws,qD 6 ws/\iq [.int c]=.ok (.tup (ws.map fq)):=by
 obtain⟨m,em,hm⟩:=mixed c (k:=67) (by decide) (by decide);have d8:iA 8:=cE (by decide) (by decide);have mf:=uH (A16 hc (by decide)) OU;have:Ok (br (i5 [v (.int c),none,none,none,none])) λ d=>∃ ws,qD 6 ws/\d=.tup (ws.map fq):=by
  refine lD ?_;simp[i5,em];refine dE (λ i ρ=>∃ws x3 x4,qD i ws/\ρ=[v (.int c),vi m,ow (ws.map fq),x3,x4]) ⟨[],none,none,⟨by simp,by simp,by simp⟩,rfl⟩ ?_ ?_
  ·rintro j d ρ hj ⟨ws,x3,x4,hw,rfl⟩;obtain⟨Ca,rfl⟩:=ints_get hj;rw[C20];obtain⟨q,eq,hq⟩:=MF j Ca;have Px:ws.length<16777216:=by have:=hw.l;lia
   by_cases c1:m / 8 / q % 2=1
   ·by_cases c2:3<m % 8
    ·by_cases c3:m % 8=7
     ·obtain⟨a,ha⟩:=jf (z:=1+(c*10000000000000000000000000000000000000000000000000000000+(j)) % 999999999999999999999999999999999999999999999999999999999999) (by lia);obtain⟨m2,Zn,PC⟩:=mixed c (k:=70+(j)) (by lia) (by lia);have X9:qD (j+1) (ws++[(j,a)]):=hw.snoc (by lia) (by lia);simp -implicitDefEqProofs [eq,d8,hq,c1,c3,Zn,mf,line,Px];rw[ha];exact⟨_,X9,by simp[fq]⟩
     ·obtain⟨m2,Zn,PC⟩:=mixed c (k:=70+(j)) (by lia) (by lia);obtain⟨a,ha⟩:=jf (z:=1+m2 % 3) (by lia);have X9:qD (j+1) (ws++[(j,a)]):=hw.snoc (by lia) (by lia);simp -implicitDefEqProofs [eq,d8,hq,c1,c2,c3,Zn,line,Px];rw[ha];exact⟨_,X9,by simp[fq]⟩
    ·simp -implicitDefEqProofs [eq,d8,hq,c1,c2];exact⟨ws,hw.next,rfl⟩
   ·simp -implicitDefEqProofs [eq,d8,hq,c1];exact⟨ws,hw.next,rfl⟩
  ·rintro ρ ⟨ws,x3,x4,hw,rfl⟩;have _N:qD 6 ws:=by have:=hw;unfold «zints» at this;simpa using this
   simp -implicitDefEqProofs;exact⟨ws,_N,rfl⟩
 rw[<-ub]at this;obtain⟨d,e,ws,h1,rfl⟩:=this;exact⟨ws,h1,e⟩
theorem pick(h0:0<=i)(h1:i<xs.length)(h:∀d∈xs,Q d):Ok (aI (.lst xs) (.int i)) Q:=by obtain⟨d,hd,e,_⟩:=wg h0 h1;exact⟨d,e,h d hd⟩
theorem Ah(c:Int):Ok (a9 (aJ 0) bD (aw KA.bx (aa (eV 1) (aa (eB aX (eC (.int 60)) (eW 0)) av))) [none,vi c] («zints» 0 7)) λ ds=>∃a b d e f g h,0<=a/\0<=b/\0<=d/\0<=e/\0<=f/\0<=g/\ds=[.int a,.int b,.int d,.int e,.int f,.int g,.int h]:=by obtain⟨a,ea,ha⟩:=mixed c (k:=60) (by decide) (by decide);obtain⟨b,eb,hb⟩:=mixed c (k:=61) (by decide) (by decide);obtain⟨d,ed,hd⟩:=mixed c (k:=62) (by decide) (by decide);obtain⟨e,ee,he⟩:=mixed c (k:=63) (by decide) (by decide);obtain⟨f,ef,hf⟩:=mixed c (k:=64) (by decide) (by decide);obtain⟨g,eg,hg⟩:=mixed c (k:=65) (by decide) (by decide);obtain⟨h,eh,hh⟩:=mixed c (k:=66) (by decide) (by decide);refine⟨_,?_,a,b,d,e,f,g,h,ha,hb,hd,he,hf,hg,rfl⟩;have e7:«zints» 0 7=[.int 0,.int 1,.int 2,.int 3,.int 4,.int 5,.int 6]:=rfl;rw[e7];simp[a9,bD,ea,eb,ed,ee,ef,eg,eh]
theorem G5(hc:bits c<=2^20)(hn:Ib nm)(ha:ka∈aS)(hb:kb∈aS):∃g,ie g/\g.nm=nm/\fE [.int c,.str nm,.lst [.str [ka],.str [kb]]]=.ok (b_ g):=by
 obtain⟨ws,hw,ew⟩:=CO hc;have d8:iA 8:=cE (by decide) (by decide);have mf:bS c 100000000000000000000000000000000000000000000000000:=uH (A16 hc (by decide)) OV;have k0:aI (.lst [.str [ka],.str [kb]]) (.int 0)=.ok (.str [ka]):=rfl;have k1:aI (.lst [.str [ka],.str [kb]]) (.int 1)=.ok (.str [kb]):=rfl;have:Ok (br (jN [v (.int c),v (.str nm),v (.lst [.str [ka],.str [kb]]),none,none,none,none,none,none,none])) λ d=>∃g,ie g/\g.nm=nm/\d=b_ g:=by
  refine lD ?_;simp[jN,ba,fL,line];refine(Ah c).imp ?_;rintro ds ⟨m0,m1,m2,m3,m4,m5,m6,p0,p1,p2,p3,p4,p5,rfl⟩;have x0:aI (.lst [.int m0,.int m1,.int m2,.int m3,.int m4,.int m5,.int m6]) (.int 0)=.ok (.int m0):=rfl;have x1:aI (.lst [.int m0,.int m1,.int m2,.int m3,.int m4,.int m5,.int m6]) (.int 1)=.ok (.int m1):=rfl;have x2:aI (.lst [.int m0,.int m1,.int m2,.int m3,.int m4,.int m5,.int m6]) (.int 2)=.ok (.int m2):=rfl;have x3:aI (.lst [.int m0,.int m1,.int m2,.int m3,.int m4,.int m5,.int m6]) (.int 3)=.ok (.int m3):=rfl;have x4:aI (.lst [.int m0,.int m1,.int m2,.int m3,.int m4,.int m5,.int m6]) (.int 4)=.ok (.int m4):=rfl;have x5:aI (.lst [.int m0,.int m1,.int m2,.int m3,.int m4,.int m5,.int m6]) (.int 5)=.ok (.int m5):=rfl;generalize D.lst [.int m0,.int m1,.int m2,.int m3,.int m4,.int m5,.int m6]=MM at x0 x1 x2 x3 x4 x5 ⊢;simp -implicitDefEqProofs [x0,d8,line];refine pick (by lia) (by simp;lia) ?_;intro D1 Y0;obtain⟨w,rfl,_O,X'⟩:∃w:Nat,D1=.int w/\1<=w/\w<=12:=by
   obtain⟨w,hw⟩:=jf (z:=1+m0 / 8 % 12) (by lia);rw[hw]at Y0;simp only[v6,A18,A21]at Y0;rcases Y0 with rfl|rfl|rfl|rfl|rfl|rfl|rfl|rfl
   ·exact⟨1,rfl,by decide,by decide⟩
   ·exact⟨2,rfl,by decide,by decide⟩
   ·exact⟨1,rfl,by decide,by decide⟩
   ·exact⟨3,rfl,by decide,by decide⟩
   ·exact⟨2,rfl,by decide,by decide⟩
   ·exact⟨1,rfl,by decide,by decide⟩
   ·exact⟨4,rfl,by decide,by decide⟩
   ·exact⟨w,rfl,by lia,by lia⟩
  simp -implicitDefEqProofs [x1];refine pick (by lia) (by simp;lia) ?_;intro D2 hD2;obtain⟨h,rfl,_2,hh2⟩:∃w:Nat,D2=.int w/\1<=w/\w<=3:=by
   simp only[v6,A18,A21]at hD2;rcases hD2 with rfl|rfl|rfl|rfl|rfl|rfl|rfl|rfl
   ·exact⟨1,rfl,by decide,by decide⟩
   ·exact⟨1,rfl,by decide,by decide⟩
   ·exact⟨1,rfl,by decide,by decide⟩
   ·exact⟨2,rfl,by decide,by decide⟩
   ·exact⟨1,rfl,by decide,by decide⟩
   ·exact⟨1,rfl,by decide,by decide⟩
   ·exact⟨2,rfl,by decide,by decide⟩
   ·exact⟨3,rfl,by decide,by decide⟩
  simp -implicitDefEqProofs [k0,k1,x2];refine pick (by lia) (by simp;lia) ?_;intro D3 N_;obtain⟨kd,rfl,hkd⟩:∃kd,D3=.str kd/\(kd=[]\/∃c∈aS,kd=[c]):=by
   simp only[v6,A18,A21]at N_;rcases N_ with rfl|rfl|rfl|rfl|rfl|rfl
   ·exact⟨_,rfl,.inl rfl⟩
   ·exact⟨_,rfl,.inl rfl⟩
   ·exact⟨_,rfl,.inl rfl⟩
   ·exact⟨_,rfl,.inr ⟨ka,ha,rfl⟩⟩
   ·exact⟨_,rfl,.inr ⟨kb,hb,rfl⟩⟩
   ·exact⟨_,rfl,.inl rfl⟩
  have mwh:bS (w:Int) (h:Int):=cN (by lia) (by lia);obtain⟨A,hA⟩:∃A,A=w*h:=⟨_,rfl⟩
  have hA1:1<=A:=by rw[hA];exact Nat.mul_pos _O _2
  have hA2:(w:Int)*(h:Int)=(A:Nat):=by rw[hA];push_cast;rfl
  have hA3:(0:Int)<(A:Int)+1:=by lia
  simp -implicitDefEqProofs [x3,mwh,d8,hA2,hA3];refine pick (by lia) (by simp;lia) ?_;intro D4 YZ;obtain⟨wi,rfl,hwi⟩:∃w:Nat,D4=.int w/\w<=A:=by
   have Cb:=Int.emod_lt_of_pos (m3 / 8) hA3;obtain⟨w,hw⟩:=jf (z:=m3 / 8 % ((A:Int)+1)) (C16 _ (by lia));rw[hw]at YZ Cb;simp only[v6,A18,A21]at YZ;rcases YZ with rfl|rfl|rfl|rfl|rfl
   ·exact⟨0,rfl,by lia⟩
   ·exact⟨0,rfl,by lia⟩
   ·exact⟨1,rfl,by lia⟩
   ·exact⟨0,rfl,by lia⟩
   ·exact⟨w,rfl,by lia⟩
  simp -implicitDefEqProofs [x4,d8];refine pick (by lia) (by simp;lia) ?_;intro D5 YY;obtain⟨ga,rfl,hga⟩:∃w:Nat,D5=.int w/\w<=6:=by
   obtain⟨w,hw⟩:=jf (z:=m4 / 8 % 7) (by lia);rw[hw]at YY;simp only[v6,A18,A21]at YY;rcases YY with rfl|rfl|rfl|rfl|rfl|rfl
   ·exact⟨0,rfl,by lia⟩
   ·exact⟨0,rfl,by lia⟩
   ·exact⟨1,rfl,by lia⟩
   ·exact⟨2,rfl,by lia⟩
   ·exact⟨1,rfl,by lia⟩
   ·exact⟨w,rfl,by lia⟩
  simp -implicitDefEqProofs [x5,d8,mf];refine pick (by lia) (by simp;lia) ?_;intro D6 YX;obtain⟨wo,rfl,hwo⟩:∃w:Nat,D6=.int w/\w<10^60:=by
   obtain⟨w,hw⟩:=jf (z:=m5 / 8 % 9) (by lia);obtain⟨w2,X'⟩:=jf (z:=c*100000000000000000000000000000000000000000000000000 % 1000000000000000000000000000000000000000000000000000000000000) (by lia);rw[hw,X']at YX;simp only[v6,A18,A21]at YX;rcases YX with rfl|rfl|rfl|rfl|rfl|rfl
   ·exact⟨0,rfl,by decide⟩
   ·exact⟨1,rfl,by decide⟩
   ·exact⟨1,rfl,by decide⟩
   ·exact⟨2,rfl,by decide⟩
   ·exact⟨w,rfl,bT (by lia)⟩
   ·exact⟨w2,rfl,by lia⟩
  simp -implicitDefEqProofs [ew,line];exact⟨⟨nm,w,h,kd,wi,ga,wo,ws⟩,⟨hn.1,hn.2.1,hn.2.2,_O,X',_2,hh2,hkd,by rw[<-hA];exact hwi,hga,hwo,hw.l,λ p hp=>by obtain⟨a,b,d⟩:=hw.r p hp;exact⟨by lia,b,d⟩,hw.up⟩,rfl,rfl⟩
 rw[<-wK]at this;obtain⟨d,e,g,h1,h2,rfl⟩:=this;exact⟨g,h1,h2,e⟩
end KS
set_option maxRecDepth 4000
noncomputable section
namespace KG
open Z
def LL:γ Nat:=[46,46,46,46,46,46,46,46,46,61]
def qV:SF:=(aR (Oo (eB Ds (eW 0) (dF (aa (eC (.str [46])) (aa (eC (.str [61])) av)))) (eB oEq (eW 0) (eW 1))))
def oj:γ D->Res D:=fn 2 2 qV
theorem G_(x0 x1:D):oj [x0,x1]=br (qV [some (.val x0),some (.val x1)]):=bL _ _ _ _ rfl
def nz:SF:=(ay (jQ 2 (bg av)) (ay (eZ (uQ (eB aI (eW 1) (eC (.int 0))) (eB aX (eB aI (eW 1) (eC (.int 0))) (eB aI (eW 0) (eC (.int 2))))) (aJ 3) (qr 2 (bK (uQ (eB aI (eW 1) (eC (.int 1))) (eB aX (eB aI (eW 1) (eC (.int 1))) (eB aI (eW 0) (eC (.int 1))))) 1 [3] (aJ 0) bD (dF (aa (eV 1) (aa (eV 0) av)))))) (aR (eU dX (eW 2)))))
def jG:γ D->Res D:=fn 2 4 nz
theorem y?(x0 x1:D):jG [x0,x1]=br (nz [some (.val x0),some (.val x1),none,none]):=bL _ _ _ _ rfl
def cH:SF:=(ay (d! (tE (eB oLt (eW 1) (eU b7 (eW 0)))) (aR (eB aI (eW 0) (eW 1))) aT) (aR (eC (.int 0))))
def aN:γ D->Res D:=fn 2 2 cH
theorem fm(x0 x1:D):aN [x0,x1]=br (cH [some (.val x0),some (.val x1)]):=bL _ _ _ _ rfl
def da:SF:=(ay (aO 2 (eB oMod (eB fA (eB aX (eB aX (eB oMod (eW 0) (eC (.int 2147483629))) (eB fA (eB fA (eC (.int 7919)) (eW 1)) (eW 1))) (eW 1)) (eC (.int 48271))) (eC (.int 2147483647)))) (ay (aO 2 (eB oMod (eB aX (eB aX (eB fA (eW 2) (eW 2)) (eB fA (eC (.int 69621)) (eW 2))) (eW 1)) (eC (.int 2147483647)))) (aR (eB oMod (eB aX (eB fA (eW 2) (eC (.int 39373))) (eB fA (eC (.int 11)) (eW 1))) (eC (.int 2147483587))))))
def bx:γ D->Res D:=fn 2 3 da
theorem kL(x0 x1:D):bx [x0,x1]=br (da [some (.val x0),some (.val x1),none]):=bL _ _ _ _ rfl
def l5:SF:=(aR (lV (eU (fJ .int) (eW 0)) (Hn (eU (fJ .bool) (eW 0)))))
def gF:γ D->Res D:=fn 1 1 l5
theorem wH(x0:D):gF [x0]=br (l5 [some (.val x0)]):=bL _ _ _ _ rfl
def dY:SF:=(ay (aO 1 (eC (.str aS))) (aR (eL (bK (dP (eC (.int 3))) 1 [1,0] (aJ 0) bD (eB aI (eW 1) (eB oMod (eB aX (eB oDiv (eW 2) (eC (.int 3))) (eB fA (eC (.int 7)) (eW 0))) (eC (.int 26))))))))
def bN:γ D->Res D:=fn 1 2 dY
theorem jq(x0:D):bN [x0]=br (dY [some (.val x0),none]):=bL _ _ _ _ rfl
def sX:SF:=(ay (aO 2 (eB aX (eC (.int 1)) (eB oMod (eW 0) (eC (.int 6))))) (ay (aO 3 (eB aX (eC (.int 1)) (eB oMod (eB oDiv (eW 0) (eC (.int 6))) (eC (.int 12))))) (ay (jQ 4 (bg av)) (ay (eZ (dP (eV 2)) (aJ 5) (ay (aO 6 (eC (.str []))) (ay (eZ (dP (eV 3)) (aJ 7) (ay (aO 6 (eB aX (eW 6) (eB aI (eC (.str signs)) (eB oMod (eW 1) (eC (.int 29)))))) (aO 1 (eB oDiv (eW 1) (eC (.int 29)))))) (dC 4 (eV 6))))) (aR (eU dX (eW 4)))))))
def qz:γ D->Res D:=fn 2 8 sX
def dA:SF:=(ay (aO 1 (aw aN (aa (eV 0) (aa (eC (.int 0)) av)))) (ay (d! (tE (eB oEq (eB oMod (eB oDiv (eW 1) (eC (.int 4096))) (eC (.int 2))) (eC (.int 1)))) (aR (aw qz (aa (eB oDiv (eW 1) (eC (.int 8192))) (aa (aw aN (aa (eV 0) (aa (eC (.int 1)) av))) av)))) aT) (ay (aO 2 (eB aI (eL (bg (aa (eB aX (eC (.int 1)) (eB oMod (eW 1) (eC (.int 4)))) (aa (eC (.int 6)) av)))) (eU t5 (eB oEq (eB oMod (eB oDiv (eW 1) (eC (.int 4))) (eC (.int 8))) (eC (.int 5)))))) (ay (aO 3 (eB aI (eL (bg (aa (eB aX (eC (.int 1)) (eB oMod (eB oDiv (eW 1) (eC (.int 32))) (eC (.int 8)))) (aa (eC (.int 12)) av)))) (eU t5 (eB oEq (eB oMod (eB oDiv (eW 1) (eC (.int 256))) (eC (.int 8))) (eC (.int 5)))))) (ay (aO 4 (aw bN (aa (eV 1) av))) (ay (aO 5 (eB aI (eL (bg (aa (eC (.str LL)) (aa (eB aX (eC (.str [46,46,46,61,61,46,46,35])) (eB aI (eW 4) (eC (.int 0)))) (aa (eB aX (eB aX (eC (.str [46,46,61,35])) (eB aI (eW 4) (eC (.int 0)))) (eB aI (eW 4) (eC (.int 1)))) (aa (eC (.str [46])) av)))))) (eB oMod (eB oDiv (eW 1) (eC (.int 2048))) (eC (.int 4))))) (ay (jQ 6 (bg av)) (ay (eZ (dP (eV 2)) (aJ 7) (ay (aO 8 (eC (.str []))) (ay (eZ (dP (eV 3)) (aJ 9) (ay (aO 10 (eB aX (eB fA (eW 7) (eW 3)) (eW 9))) (ay (aO 11 (aw aN (aa (eV 0) (aa (eB aX (eC (.int 1)) (eB oMod (eW 10) (eC (.int 62)))) av)))) (aO 8 (eB aX (eW 8) (eB aI (eW 5) (eB oMod (aw bx (aa (eV 11) (aa (eV 10) av))) (eU b7 (eW 5))))))))) (dC 6 (eV 8))))) (aR (eU dX (eW 6)))))))))))
def dS:γ D->Res D:=fn 1 12 dA
theorem jK(x0:D):dS [x0]=br (dA [some (.val x0),none,none,none,none,none,none,none,none,none,none,none]):=bL _ _ _ _ rfl
def h!:SF:=(ay (aO 2 (eB aI (eW 1) (eC (.int 0)))) (ay (aO 3 (eB aI (eW 1) (eC (.int 1)))) (ay (d! (tO (tE (hU oLe oLt (eC (.int 0)) (eW 2) (eU b7 (eW 0)))) (tE (hU oLe oLt (eC (.int 0)) (eW 3) (eU b7 (eB aI (eW 0) (eC (.int 0))))))) (aR (eB aI (eB aI (eW 0) (eW 2)) (eW 3))) aT) (aR (eC .non)))))
def kG:γ D->Res D:=fn 2 4 h!
theorem AZ(x0 x1:D):kG [x0,x1]=br (h! [some (.val x0),some (.val x1),none,none]):=bL _ _ _ _ rfl
def Bj:SF:=(ay (aO 3 (eL (bK (dh (aw jG (aa (eV 1) (aa (eV 2) av)))) 1 [0] (aJ 0) bD (aw kG (aa (eV 1) (aa (eV 0) av)))))) (ay (d! (dM (tE (eU g? (eL (bK (dh (eW 3)) 1 [1] (aJ 0) bD (aw oj (aa (eV 0) (aa (eB aI (eW 1) (eC (.int 3))) av)))))))) (aR (eC (.bl false))) aT) (aR (eB Ry (eB v? (eW 3) (eC (.str [61]))) (eB aI (eW 1) (eC (.int 4)))))))
def oq:γ D->Res D:=fn 3 4 Bj
theorem K0(x0 x1 x2:D):oq [x0,x1,x2]=br (Bj [some (.val x0),some (.val x1),some (.val x2),none]):=bL _ _ _ _ rfl
def l3:SF:=(ay (jQ 2 (bg av)) (ay (eZ (dP (eU b7 (eW 0))) (aJ 3) (qr 2 (bK (dP (eU b7 (eB aI (eW 0) (eW 3)))) 1 [0,1,3] (aJ 0) (tE (aw oq (aa (eV 1) (aa (eV 2) (aa (dF (aa (eV 3) (aa (eV 0) av))) av))))) (dF (aa (eV 3) (aa (eV 0) av)))))) (aR (eU dX (eW 2)))))
def fD:γ D->Res D:=fn 2 4 l3
theorem wD(x0 x1:D):fD [x0,x1]=br (l3 [some (.val x0),some (.val x1),none,none]):=bL _ _ _ _ rfl
def mv:SF:=(ay (d! (qp (tE (eB oLe (eB aX (eB aI (eW 1) (eC (.int 0))) (eB aI (eW 0) (eC (.int 2)))) (eB aI (eW 3) (eC (.int 0))))) (tE (eB oLe (eB aX (eB aI (eW 3) (eC (.int 0))) (eB aI (eW 2) (eC (.int 2)))) (eB aI (eW 1) (eC (.int 0)))))) (aR (eC (.bl true))) aT) (ay (aO 4 (eB F9 (eB aI (eW 0) (eC (.int 5))) (eB aI (eW 2) (eC (.int 5))))) (aR (Oo (eB oLe (eB aX (eB aX (eB aI (eW 1) (eC (.int 1))) (eB aI (eW 0) (eC (.int 1)))) (eW 4)) (eB aI (eW 3) (eC (.int 1)))) (eB oLe (eB aX (eB aX (eB aI (eW 3) (eC (.int 1))) (eB aI (eW 2) (eC (.int 1)))) (eW 4)) (eB aI (eW 1) (eC (.int 1))))))))
def ou:γ D->Res D:=fn 4 5 mv
theorem Hb(x0 x1 x2 x3:D):ou [x0,x1,x2,x3]=br (mv [some (.val x0),some (.val x1),some (.val x2),some (.val x3),none]):=bL _ _ _ _ rfl
def h9:SF:=(aR (eL (bK (AN (eV 0) (eV 1)) 2 [] (fB [0,1]) (tE (eU d6 (eW 1))) (dF (aa (eV 0) (aa (eV 1) av))))))
def cj:γ D->Res D:=fn 2 2 h9
theorem oz(x0 x1:D):cj [x0,x1]=br (h9 [some (.val x0),some (.val x1)]):=bL _ _ _ _ rfl
def ic:SF:=(aR (eU g? (eL (bK (dh (eW 2)) 2 [0,1] (fB [0,1]) bD (aw ou (aa (eV 2) (aa (eV 3) (aa (eV 0) (aa (eV 1) av)))))))))
def dU:γ D->Res D:=fn 3 3 ic
theorem oC(x0 x1 x2:D):dU [x0,x1,x2]=br (ic [some (.val x0),some (.val x1),some (.val x2)]):=bL _ _ _ _ rfl
def xh:SF:=(ay (aO 3 (aw cj (aa (eV 1) (aa (eV 2) av)))) (ay (d! (dM (tE (eU g? (eL (bK (dh (eW 3)) 2 [0] (fB [0,1]) bD (aw oq (aa (eV 2) (aa (eV 0) (aa (eV 1) av))))))))) (aR (eC (.bl false))) aT) (aR (eU g? (eL (bK (dP (eU b7 (eW 3))) 1 [3] (aJ 0) bD (aw dU (aa (eB aI (eB aI (eW 1) (eW 0)) (eC (.int 0))) (aa (eB aI (eB aI (eW 1) (eW 0)) (eC (.int 1))) (aa (eL (Ke (eW 1) BQ (xm (eW 0)))) av))))))))))
def lT:γ D->Res D:=fn 3 4 xh
theorem Ha(x0 x1 x2:D):lT [x0,x1,x2]=br (xh [some (.val x0),some (.val x1),some (.val x2),none]):=bL _ _ _ _ rfl
end KG
end
namespace KG
open Z
abbrev Rows:=γ (γ Nat)
abbrev Pl:=Int×Int
structure Hall(rows:Rows)(C:Nat):Prop where
 r1:1<=rows.length
 r2:rows.length<=100
 c1:1<=C
 c2:C<=100
 len:∀x∈rows,x.length=C
structure G where
 name:List Nat
 w:Nat
 d:Nat
 kind:List Nat
 wide:Nat
 gap:Nat
 worth:D
 mS:D
structure GOk(g:G):Prop where
 w1:1<=g.w
 w2:g.w<=13
 d1:1<=g.d
 d2:g.d<=4
 kd:g.kind.length<=1
 wd:g.wide<=100
 gp:g.gap<=100
def cm(rows:Rows):D:=.tup (rows.map .str)
def aU(p:Pl):D:=.tup [.int p.1,.int p.2]
def bA(g:G):D:=.tup [.str g.name,.int g.w,.int g.d,.str g.kind,.int g.wide,.int g.gap,g.worth,g.mS]
def b_:ε Nat->D
 |some c=>.str [c]
 |none=>.non
@[simp] theorem _u(p:Pl):aI (aU p) (.int 0)=.ok (.int p.1):=rfl
@[simp] theorem _t(p:Pl):aI (aU p) (.int 1)=.ok (.int p.2):=rfl
@[simp] theorem aaq(g:G):aI (bA g) (.int 0)=.ok (.str g.name):=rfl
@[simp] theorem aap(g:G):aI (bA g) (.int 1)=.ok (.int g.w):=rfl
@[simp] theorem aao(g:G):aI (bA g) (.int 2)=.ok (.int g.d):=rfl
@[simp] theorem aan(g:G):aI (bA g) (.int 3)=.ok (.str g.kind):=rfl
@[simp] theorem aam(g:G):aI (bA g) (.int 4)=.ok (.int g.wide):=rfl
@[simp] theorem aal(g:G):aI (bA g) (.int 5)=.ok (.int g.gap):=rfl
@[simp] theorem aak(g:G):aI (bA g) (.int 6)=.ok g.worth:=rfl
@[simp] theorem aaj(g:G):aI (bA g) (.int 7)=.ok g.mS:=rfl
@[simp] theorem _!(rows:Rows):b7 (cm rows)=.ok (.int rows.length):=by simp[cm]
@[simp] theorem _c(a b:Int):D.tup [.int a,.int b]=aU (a,b):=rfl
theorem cy(ρ:Env)(is:γ Nat):fL ρ is=is.map (sR ρ):=rfl
def zy:ε (ε L)->ε L
 |some (some (.val d))=>some (.val d)
 |some (some (.bor d))=>some (.bor d)
 |some (some (.zO ks))=>some (.zO ks)
 |_=>none
theorem bV(ρ:Env)(i:Nat):sR ρ i=zy ρ[i]?:=by
 unfold sR zy;cases ρ[i]? with
 |none=>rfl
 |some o=>cases o with
  |none=>rfl
  |some l=>cases l<;>rfl
@[simp] theorem PZ(d:D):zy (some (some (.bor d)))=some (.bor d):=rfl
@[simp] theorem PY(ks:γ _):zy (some (some (.zO ks)))=some (.zO ks):=rfl
@[simp] theorem PX(d:D):zy (some (some (.val d)))=some (.val d):=rfl
theorem Hall.row(H:Hall rows C)(h:r<rows.length):∃row,rows[r]?=some row/\row.length=C/\aI (cm rows) (.int r)=.ok (.str row):=by refine⟨rows[r],A01 h,H.len _ (A93 h),(c9 rfl ?_).1⟩;rw[P3,A01];rfl
theorem Hall.C_(H:Hall rows C):∃row,row.length=C/\aI (cm rows) (.int 0)=.ok (.str row):=by obtain⟨row,_,h1,h2⟩:=H.row H.r1;exact⟨row,h1,h2⟩
def cR(rows:Rows)(p:Pl):ε Nat:=if 0<=p.1/\0<=p.2 then(rows[p.1.toNat]?).bind (λ r=>r[p.2.toNat]?)else none
theorem Jj(H:Hall rows C){p:Pl}(h1:0<=p.1)(h2:p.1<rows.length)(h3:0<=p.2)(h4:p.2<C):∃row c,aI (cm rows) (.int p.1)=.ok (.str row)/\row.length=C/\aI (.str row) (.int p.2)=.ok (.str [c])/\cR rows p=some c:=by
 obtain⟨row,e1,hl,e2⟩:=H.row (r:=p.1.toNat) (by lia);rw[C11 h1]at e2;have hc:p.2.toNat<row.length:=by lia
 have qx:=H.c2;refine⟨row,row[p.2.toNat],e2,hl,GB (by lia) (A01 hc) (by simp only[line];lia),?_⟩;simp[cR,h1,h3,e1]
theorem rF(H:Hall rows C){p:Pl}(h:¬(0<=p.1/\p.1<rows.length/\0<=p.2/\p.2<C)):cR rows p=none:=by
 unfold cR;by_cases h0:0<=p.1/\0<=p.2
 ·rw[M2 h0];cases e:rows[p.1.toNat]? with
  |none=>rfl
  |some row=>obtain⟨h1,h2⟩:=A02.mp e;have:=H.len row (A15 e);simp only[Option.bind_some];exact B49 (by lia)
 ·rw[f8 h0]
theorem Ji(H:Hall rows C)(p:Pl):kG [cm rows,aU p]=.ok (b_ (cR rows p)):=by
 rw[AZ];refine aD ?_;obtain⟨C_,xn,e0⟩:=H.C_;have uT:=H.c2;have D9:C<=line:=by simp only[line];lia
 by_cases h:0<=p.1/\p.1<rows.length/\0<=p.2/\p.2<C
 ·obtain⟨row,c,e1,_,e2,e3⟩:=Jj H h.1 h.2.1 h.2.2.1 h.2.2.2;simp[h!,e0,xn,D9,h.1,h.2.1,h.2.2.1,h.2.2.2,e1,e2,e3,b_]
 ·rw [rF H h];by_cases a1:0<=p.1
  ·by_cases a2:p.1<rows.length
   ·by_cases a3:0<=p.2
    ·have a4:¬p.2<C:=λ z=>h ⟨a1,a2,a3,z⟩;simp[h!,e0,xn,D9,a1,a2,a3,a4,b_]
    ·simp[h!,e0,xn,D9,a1,a2,a3,b_]
   ·simp[h!,e0,xn,D9,a1,a2,b_]
  ·simp[h!,e0,xn,D9,a1,b_]
def dD(kind:γ Nat):ε Nat->Bool
 |some c=>decide (c=46\/c=61\/kind=[c])
 |none=>false
theorem Om(c:γ Nat):i' (.str c) .non=some false:=rfl
theorem Hh(c:γ Nat):i' .non (.str c)=some false:=rfl
theorem Hg(a b:γ Nat):i' (.str a) (.str b)=some (a==b):=rfl
theorem in2(c:Nat):Ds (.str [c]) (.tup [.str [46],.str [61]])=.ok (.bl (decide (c=46\/c=61))):=by
 simp only[Ds,fK,Hg];by_cases h1:c=46
 ·subst h1;rfl
 ·by_cases h2:c=61
  ·subst h2;rfl
  ·have KU:¬46=c:=λ h=>h1 h.symm;have Eb:¬61=c:=λ h=>h2 h.symm;simp[h1,h2,KU,Eb]
theorem E!(s:ε Nat)(k:γ Nat):oj [b_ s,.str k]=.ok (.bl (dD k s)):=by
 rw[G_];refine aD ?_;cases s with
 |none=>simp[qV,b_,dD,line,Ds,fK,Hh,Om,oEq]
 |some c=>
  simp[qV,b_,dD,line,in2];by_cases h1:c=46
  ·simp[h1]
  ·by_cases h2:c=61
   ·simp[h2]
   ·by_cases h3:k=[c]
    ·subst h3;simp[h1,h2]
    ·have Y1:¬[c]=k:=λ h=>h3 h.symm;simp[h1,h2,h3,Y1]
def bZ(w:Nat)(r c:Int):γ Pl:=(List.range w).map λ j=>(r,c+(j:Nat))
def eD(w:Nat)(p:Pl)(n:Nat):γ Pl:=(List.range n).flatMap λ i=>bZ w (p.1+(i:Nat)) p.2
def seats(g:G)(p:Pl):γ Pl:=eD g.w p g.d
theorem jA(w:Nat)(p:Pl)(n:Nat):eD w p (n+1)=eD w p n++bZ w (p.1+(n)) p.2:=by simp[eD,B22]
theorem vO(w:Nat)(r c:Int):(bZ w r c).length=w:=by simp[bZ]
theorem rG(w:Nat)(p:Pl)(n:Nat):(eD w p n).length=n*w:=by
 induction n with
 |zero=>simp[eD]
 |succ n ih=>rw[jA,A23,ih,vO,B38]
theorem ints_map(lo:Int)(n:Nat):zints lo n=(List.range n).map λ i=>D.int (lo+(i:Nat)):=rfl
theorem ints_get(h:(zints lo n)[j]?=some d):j<n/\d=.int (lo+(j)):=by
 rw[ints_map,P3]at h;cases q:(List.range n)[j]? with
 |none=>rw[q]at h;cases h
 |some i=>rw[q]at h;obtain⟨h1,h2⟩:=A02.mp q;rw[A94]at h1;rw[B21]at h2;subst h2;simp at h;exact⟨h1,h.symm⟩
theorem toNat_sub(a:Int)(n:Nat):(a+(n)-a).toNat=n:=by lia
theorem Ft(k:GOk g)(p:Pl):jG [bA g,aU p]=.ok (.tup ((seats g p).map aU)):=by
 rw[y?];refine aD ?_;have hw:=k.w2;have hd:=k.d2;simp[nz,toNat_sub];refine dE (λ i ρ=>∃x,ρ=[v _,v _,ow ((eD g.w p i).map aU),x]) ⟨none,rfl⟩ ?_ ?_
 ·rintro j d ρ hj ⟨x,rfl⟩;obtain⟨hj,rfl⟩:=ints_get hj;simp[ba,toNat_sub,cy,bV];refine⟨by lia,comp_map (λ d=>.tup [.int (p.1+(j)),d]) ?_ ?_⟩
  ·rintro d hd;obtain⟨i,hi⟩:=B40 hd;obtain⟨_,rfl⟩:=ints_get hi;simp[line]
  ·refine⟨?_,?_⟩
   ·rw[A03,rG,jh];have:j*g.w<=4*13:=A61 (by lia) hw;lia
   ·simp[jA,bZ,ints_map]
 ·rintro ρ ⟨x,rfl⟩;simp[seats]
def uj(rows:Rows)(s:Pl):Bool:=cR rows s==some 61
def cX(rows:Rows)(g:G)(p:Pl):Bool:=(seats g p).all (λ s=>dD g.kind (cR rows s))&&decide (g.wide<=(seats g p).countP (uj rows))
theorem zr(rows:Rows):∀(ss:γ Pl),sO (.str [61]) (ss.map λ s=>b_ (cR rows s))=some (ss.countP (uj rows))
 |[]=>rfl
 |s::ss=>by
  rw[A05,sO,zr,B29];cases e:cR rows s with
  |none=>simp[b_,uj,e,Hh]
  |some c=>simp[b_,uj,e,Hg]
theorem all_map{α:Type}(f:α->Bool)(xs:γ α):allB (xs.map λ x=>D.bl (f x))=some (xs.all f):=by
 have:=xj (xs.map f);rw[A14]at this;rw[show(xs.map λ x=>D.bl _)=xs.map (D.bl∘f)from rfl,this]
 congr 1
 induction xs with
 |nil=>rfl
 |cons x xs ih=>simp
theorem Ck(H:Hall rows C)(k:GOk g)(p:Pl):oq [cm rows,bA g,aU p]=.ok (.bl (cX rows g p)):=by
 rw[K0];refine aD ?_;have ψ:(seats g p).length<=16777216:=by rw[seats,rG];have:=A61 k.d2 k.w2;lia
 simp[Bj,ba,Ft k,line,cy,bV,ψ];refine comp_map (λ d=>match d with|.tup [.int a,.int b]=>b_ (cR rows (a,b))|_=>.non) ?_ ?_
 ·intro d hd;obtain⟨q,_,rfl⟩:=A08.mp hd;simp[Ji H];rfl
 ·have e1:(List.map aU (seats g p)).map (λ d=>match d with|.tup [.int a,.int b]=>b_ (cR rows (a,b))|_=>.non)=(seats g p).map λ s=>b_ (cR rows s):=by rw[A14];rfl
  rw[e1];simp[ba,line,ψ,cy,bV];refine comp_map (λ d=>match d with|.str [c]=>.bl (dD g.kind (some c))|_=>.bl false) ?_ ?_
  ·intro d hd;obtain⟨q,_,rfl⟩:=A08.mp hd;simp[E!];cases cR rows q<;>rfl
  ·have e2:((seats g p).map λ s=>b_ (cR rows s)).map (λ d=>match d with|.str [c]=>D.bl (dD g.kind (some c))|_=>D.bl false)=(seats g p).map λ s=>D.bl (dD g.kind (cR rows s)):=by rw[A14];apply A67;intro s _;show(match b_ (cR rows s)with|.str [c]=>D.bl (dD g.kind (some c))|_=>D.bl false)=_;cases cR rows s<;>rfl
   rw[e2];simp only[g?,all_map,zG];cases ha:(seats g p).all λ s=>dD g.kind (cR rows s)with
   |false=>simp[cX,ha]
   |true=>simp[cX,ha,v?,zr]
def Ip(rows:Rows)(g:G)(s:Pl):Bool:=dD g.kind (cR rows s)
theorem all_false{α:Type}{f:α->Bool}{xs:γ α}{x:α}(h:x∈xs)(e:f x=false):xs.all f=false:=by rw[Bool.eq_false_iff];intro z;rw[A27]at z;rw[z x h]at e;cases e
theorem J?(h:j<w):(r,c+(j))∈bZ w r c:=A08.mpr ⟨j,A19.mpr h,rfl⟩
theorem pd(hi:i<g.d)(hj:j<g.w):(p.1+(i),p.2+(j))∈seats g p:=
 B13.mpr ⟨i,A19.mpr hi,J? hj⟩
theorem m9(h:s∈seats g p)(e:Ip rows g s=false):cX rows g p=false:=by unfold cX;have:=all_false h e;rw[show(seats g p).all (λ s=>dD _ _)=(seats g p).all (Ip rows g)from rfl,this];rfl
theorem ik(w:Nat)(r c:Int):bZ (w+1) r c=bZ w r c++[(r,c+(w))]:=by simp[bZ,B22]
def ni(rows:Rows)(ss:γ Pl):Nat:=ss.countP (uj rows)
def qg(rows:Rows)(g:G)(ss:γ Pl):Prop:=∀s∈ss,Ip rows g s=true
theorem zu(rows:Rows)(ss ts:γ Pl):ni rows (ss++ts)=ni rows ss+ni rows ts:=List.countP_append
theorem ve(h:qg rows g ss)(k:qg rows g ts):qg rows g (ss++ts):=λ s hs=>(A25.mp hs).elim (h s) (k s)
theorem zt(rows:Rows)(s:Pl)(c:Nat)(h:cR rows s=some c):ni rows [s]=if c=61 then 1 else 0:=by simp[ni,uj,h]
theorem G?(h:qg rows g (seats g p)):cX rows g p=decide (g.wide<=ni rows (seats g p)):=by unfold cX ni;rw[show(seats g p).all (λ s=>dD _ _)=true from A27.mpr h,B23]
def gU(r C:Nat):γ Pl:=(List.range C).map λ(c:Nat)=>(((r:Nat):Int),((c:Nat):Int))
def gP(n C:Nat):γ Pl:=(List.range n).flatMap λ r=>gU r C
theorem k!(n C:Nat):gP (n+1) C=gP n C++gU n C:=by simp[gP,B22]
theorem o7(r C:Nat):(gU r C).length=C:=by simp[gU]
theorem pR(n C:Nat):(gP n C).length=n*C:=by
 induction n with
 |zero=>simp[gP]
 |succ n ih=>rw[k!,A23,ih,o7,B38]
def places(rows:Rows)(C:Nat)(g:G):γ Pl:=(gP rows.length C).filter (cX rows g)
theorem places_of_ok(H:Hall rows C)(k:GOk g):fD [cm rows,bA g]=.ok (.tup ((places rows C g).map aU)):=by
 rw[wD];refine aD ?_;have uT:=H.c2;have _T:=H.r2;simp[l3,line];refine dE (λ i ρ=>i<=rows.length/\∃x,ρ=[v _,v _,ow (((gP i C).filter (cX rows g)).map aU),x]) ⟨A51 _,none,rfl⟩ ?_ ?_
 ·rintro i d ρ hi ⟨_,x,rfl⟩;obtain⟨N1,rfl⟩:=ints_get hi;obtain⟨row,_,hl,e1⟩:=H.row N1;have D9:C<=16777216:=by lia
  simp[e1,hl,ba,line,cy,bV,D9];refine Cs (λ d=>match d with|.int c=>cX rows g ((i),c)|_=>false) (λ d=>.tup [.int (i),d]) ?_ ?_
  ·intro d hd;obtain⟨c,hc⟩:=B40 hd;obtain⟨_,rfl⟩:=ints_get hc;simp[line,Ck H k]
  ·have e2:((zints 0 C).filter (λ d=>match d with|.int c=>cX rows g ((i),c)|_=>false)).map (λ d=>D.tup [.int (i),d])=((gU i C).filter (cX rows g)).map aU:=by
    rw[ints_map,gU,B14,B14,A14,A14]
    congr 1
    ·funext c;simp
    ·congr 1;funext c;simp
   rw[e2,k!,B02,A68];have h1:=A70 (cX rows g) (gP i C);have h2:=A70 (cX rows g) (gU i C);rw[pR]at h1;rw[o7]at h2;have h3:i*C<=100*100:=A61 (by lia) uT;refine⟨?_,by lia,rfl⟩;rw[A03];lia
 ·rintro ρ ⟨_,x,rfl⟩;simp[places]
def b?(g:G)(p:Pl)(h:G)(q:Pl):Bool:=decide (p.1+g.d<=q.1\/q.1+h.d<=p.1\/p.2+g.w+max (g.gap:Int) (h.gap:Int)<=q.2\/q.2+h.w+max (g.gap:Int) (h.gap:Int)<=p.2)
theorem HY(g:G)(p:Pl)(h:G)(q:Pl):ou [bA g,aU p,bA h,aU q]=.ok (.bl (b? g p h q)):=by
 rw[Hb];refine aD ?_;by_cases h1:p.1+g.d<=q.1
 ·simp[mv,b?,h1]
 ·by_cases h2:q.1+h.d<=p.1
  ·simp[mv,b?,h2]
  ·by_cases h3:p.2+g.w+max (g.gap:Int) h.gap<=q.2
   ·simp[mv,b?,h1,h2,h3]
   ·simp[mv,b?,h1,h2,h3]
def Bd(ns:γ Int):Prop:=∀i∈ns,bits i<=2^20
theorem i4(hb:Bd ns)(h:0<=k):∃c,aN [.lst (ns.map .int),.int k]=.ok (.int c)/\bits c<=2^20:=by
 by_cases hk:k<ns.length
 ·have hj:k.toNat<ns.length:=by lia
  have e:=(c9 (xs:=ns.map D.int) (i:=k) (j:=k.toNat) (d:=.int ns[k.toNat]) (by lia) (by simp)).2;refine⟨ns[k.toNat],?_,hb _ (A93 hj)⟩;rw[fm];refine aD ?_;simp[cH,hk,e]
 ·refine⟨0,?_,by decide⟩;rw[fm];refine aD ?_;simp[cH,hk]
theorem mixed(c:Int)(h0:0<=k)(h1:k<=1000):∃m,bx [.int c,.int k]=.ok (.int m)/\0<=m:=by
 have q1:bS 7919 k:=cN (by decide) (by decide);have q2:bS (7919*k) k:=i8 (by lia) (by lia);have q3:∀x,bS x 48271:=λ x=>i8 (by decide) (by decide);have q4:∀x,bS (x % 2147483647) (x % 2147483647):=λ x=>cN (by lia) (by lia);have q5:∀x,bS 69621 x:=λ x=>cN (by decide) (by decide);have q6:∀x,bS x 39373:=λ x=>i8 (by decide) (by decide);have q7:∀x,bS 11 x:=λ x=>cN (by decide) (by decide);rw[kL];have:Ok (br (da [v (.int c),v (.int k),none])) λ d=>∃m,d=.int m/\0<=m:=by refine lD ?_;simp[da,q1,q2,q3,q4,q5,q6,q7];lia
 obtain⟨d,e,m,rfl,hm⟩:=this;exact⟨m,e,hm⟩
theorem gi(z:Int):∃q∈aS,aI (.str aS) (.int (z % 26))=.ok (.str [q]):=
 r? (by lia) (by simp[aS];lia) (by decide)
theorem gC(h:q∈aS):q∈signs:=(by decide:∀q∈aS,q∈signs) q h
theorem kE(z:Int):∃a b c,a∈aS/\b∈aS/\c∈aS/\bN [.int z]=.ok (.lst [.str [a],.str [b],.str [c]]):=by obtain⟨a,ha,ea⟩:=gi (z / 3+7*0);obtain⟨b,hb,eb⟩:=gi (z / 3+7*1);obtain⟨c,hc,ec⟩:=gi (z / 3+7*2);refine⟨a,b,c,ha,hb,hc,?_⟩;rw[jq];refine aD ?_;have q:∀x,bS 7 x:=λ x=>cN (by decide) (by decide);have e3:zints 0 3=[.int 0,.int 1,.int 2]:=rfl;simp at ea eb ec;simp[dY,ba,line,cy,bV,e3,a9,cE,q,ea,eb,ec]
structure Mj(rows:Rows)(C:Nat):Prop extends Hall rows C where
 r6:rows.length<=6
 c12:C<=12
 sg:∀x∈rows,∀c∈x,c∈signs
theorem SW(h1:1<=rows.length)(h2:rows.length<=6)(h3:1<=C)(h4:C<=12)(h:∀x∈rows,x.length=C/\∀c∈x,c∈signs):Mj rows C:=
 ⟨⟨h1,by lia,h3,by lia,λ x hx=>(h x hx).1⟩,h2,h4,λ x hx=>(h x hx).2⟩
def H_(C i:Nat)(rows:Rows):Prop:=rows.length=i/\∀x∈rows,x.length=C/\∀c∈x,c∈signs
def Ie(j:Nat)(ln:γ Nat):Prop:=ln.length=j/\∀c∈ln,c∈signs
theorem Ie.nil:Ie 0 []:=⟨rfl,λ c h=>by cases h⟩
theorem H_.nil(C:Nat):H_ C 0 []:=⟨rfl,λ c h=>by cases h⟩
theorem jf{z:Int}(h:0<=z):∃n:Nat,z=n:=⟨z.toNat,by lia⟩
structure GrpG(g:G):Prop extends GOk g where
 w12:g.w<=12
 d3:g.d<=3
 kl:g.kind=[]\/∃c∈aS,g.kind=[c]
 wdd:g.wide<=g.w*g.d
 g6:g.gap<=6
 wsh:∃(wt:Int)(ws:List Pl),ws.length<=6/\g.worth=.int wt/\g.mS=.tup (ws.map aU)
theorem Y4(h1:1<=g.w)(h2:g.w<=12)(h3:1<=g.d)(h4:g.d<=3)(h5:g.kind=[]\/∃c∈aS,g.kind=[c])(h6:g.wide<=g.w*g.d)(h7:g.gap<=6)(h8:∃(wt:Int)(ws:γ Pl),ws.length<=6/\g.worth=.int wt/\g.mS=.tup (ws.map aU)):GrpG g:=
 ⟨⟨h1,by lia,h3,by lia,by rcases h5 with h|⟨c,_,h⟩<;>rw [h]<;>simp,by have:=A61 h2 h4;lia,by lia⟩,h2,h4,h5,h6,h7,h8⟩
end KG
noncomputable section
namespace KG
open Z
@[simp] theorem Vq(b:Bool):cW .bool (.bl b)=true:=rfl
@[simp] theorem R8(xs:γ D):cW .tuple (.tup xs)=true:=rfl
@[simp] theorem X2(p:Pl):cW .tuple (aU p)=true:=rfl
@[simp] theorem R9(i:Int):cW .int (.int i)=true:=rfl
@[simp] theorem Pu(i:Int):cW .bool (.int i)=false:=rfl
theorem EV(i:Int):gF [.int i]=.ok (.bl true):=by rw[wH];refine aD ?_;simp[l5]
theorem eqP(n:Nat)(p q:Pl):fS (n+1) (aU p) (aU q)=some (decide (p=q)):=by
 show allEq _ [.int p.1,.int p.2] [.int q.1,.int q.2]=_;have e:∀a b,fS n (.int a) (.int b)=some (decide (a=b)):=λ a b=>by cases n<;>rfl
 simp only[allEq,e]
 congr 1
 rw[A57];simp[Prod.ext_iff]
theorem Ol(n:Nat)(ps qs:γ Pl):allEq (fS (n+1)) (ps.map aU) (qs.map aU)=some (decide (ps=qs)):=my (eqP n) ps qs
theorem Zi(n:Nat)(ps qs:γ Int):allEq (fS n) (ps.map D.int) (qs.map D.int)=some (decide (ps=qs)):=my (λ a b=>by cases n<;>rfl) ps qs
@[simp] theorem Xt(ps qs:γ Pl):jY (.lst (ps.map aU)) (.lst (qs.map aU))=.ok (.bl (!decide (ps=qs))):=by have:i' (.lst _) (.lst _)=some _:=Ol 4 ps qs;unfold jY;rw[this]
@[simp] theorem ade(ps qs:γ Pl):oEq (.lst (ps.map aU)) (.lst (qs.map aU))=.ok (.bl (decide (ps=qs))):=by have:i' (.lst _) (.lst _)=some _:=Ol 4 ps qs;unfold oEq;rw[this]
@[simp] theorem adb(ps qs:γ Pl):oEq (.tup (ps.map aU)) (.tup (qs.map aU))=.ok (.bl (decide (ps=qs))):=by have:i' (.tup _) (.tup _)=some _:=Ol 4 ps qs;unfold oEq;rw[this]
@[simp] theorem Xu(ps qs:γ Int):jY (.lst (ps.map D.int)) (.lst (qs.map D.int))=.ok (.bl (!decide (ps=qs))):=by have:i' (.lst _) (.lst _)=some _:=Zi 5 ps qs;unfold jY;rw[this]
theorem O3(p:Pl):∀(qs:γ Pl),fK (aU p) (qs.map aU)=some (decide (p∈qs))
 |[]=>rfl
 |q::qs=>by
  rw[A05,fK,O3,show i' _ _=some _ from eqP 5 q p];show some _=_
  congr 1
  rw[A57];simp only[B85,A89,v6];exact⟨λ h=>h.imp Eq.symm id,λ h=>h.imp Eq.symm id⟩
@[simp] theorem abT(p:Pl)(qs:γ Pl):Ds (aU p) (.tup (qs.map aU))=.ok (.bl (decide (p∈qs))):=by simp only[Ds,O3]
@[simp] theorem Vg(p:Pl)(qs:γ Pl):kB (aU p) (.tup (qs.map aU))=.ok (.bl (!decide (p∈qs))):=by simp only[kB,O3]
end KG
end
noncomputable section
namespace KG
open Z
def ltP(p q:Pl):Prop:=p.1<q.1\/p.1=q.1/\p.2<q.2
theorem DC(h:p∈gU r C):p.1=r/\0<=p.2/\p.2<C:=by obtain⟨c,hc,rfl⟩:=A08.mp h;rw[A19]at hc;exact⟨rfl,by lia,by lia⟩
theorem DD:p∈gP n C↔0<=p.1/\p.1<n/\0<=p.2/\p.2<C:=by
 constructor
 ·intro h;obtain⟨r,hr,h⟩:=B13.mp h;rw[A19]at hr;obtain⟨h1,h2,h3⟩:=DC h;exact⟨by lia,by lia,h2,h3⟩
 ·rintro⟨h1,h2,h3,h4⟩;refine B13.mpr ⟨p.1.toNat,A19.mpr (by lia),A08.mpr ⟨p.2.toNat,A19.mpr (by lia),?_⟩⟩;apply Prod.ext
  ·lia
  ·lia
theorem take_snoc{α:Type}{xs:γ α}{x:α}(h:xs[i]?=some x):xs.take (i+1)=xs.take i++[x]:=by rw[B30,h];rfl
theorem places_len(H:Hall rows C)(g:G):(places rows C g).length<=10000:=by have h1:=A70 (cX rows g) (gP rows.length C);rw[pR]at h1;have:=A61 H.r2 H.c2;unfold places;lia
end KG
end
set_option maxRecDepth 4000
namespace KG
open Z
abbrev GP:=G×Pl
abbrev GO:=G×ε Pl
def cb:ε Pl->D
 |none=>.non
 |some p=>aU p
@[simp] theorem Ei(p:Pl):cb (some p)=aU p:=rfl
@[simp] theorem PU:cb none=.non:=rfl
def oD(x:GP):D:=.tup [bA x.1,aU x.2]
def Hk(x:GO):D:=.tup [bA x.1,cb x.2]
theorem LI:∀(xs:γ GO),e! (xs.map λ x=>bA x.1) (xs.map λ x=>cb x.2)=xs.map Hk
 |[]=>rfl
 |x::xs=>by simp[e!,LI xs];rfl
@[simp] theorem Xo(o:ε Pl):d6 (cb o)=.ok (.bl o.isSome):=by cases o<;>rfl
@[simp] theorem _I(o:ε Pl):iS (cb o)=.ok (.bl o.isNone):=by cases o<;>rfl
@[simp] theorem gX(x:GP)(i j:Nat)(ρ:Env):fB [i,j] (oD x) ρ=.ok ((ρ.set i (v (bA x.1))).set j (v (aU x.2))):=rfl
@[simp] theorem gY(x:GO)(i j:Nat)(ρ:Env):fB [i,j] (Hk x) ρ=.ok ((ρ.set i (v (bA x.1))).set j (v (cb x.2))):=rfl
theorem pF{α:Type}(xs:γ α):xs.filter (λ _=>true)=xs:=A86.mpr λ _ _=>rfl
def mz:γ GO->γ GP
 |[]=>[]
 |(g,some p)::xs=>(g,p)::mz xs
 |(_,none)::xs=>mz xs
theorem vI:∀xs,(xs.filter λ x=>x.2.isSome).map Hk=(mz xs).map oD
 |[]=>rfl
 |(g,some p)::xs=>by rw[A90 (by rfl)];simp only[A05,vI xs];rfl
 |(g,none)::xs=>by rw[A62 (by simp)];simp only[mz,vI xs]
theorem me:∀xs,(mz xs).length<=xs.length
 |[]=>o0 _
 |(g,some p)::xs=>by have:=me xs;simp only[mz,A36];lia
 |(g,none)::xs=>by have:=me xs;simp only[mz,A36];lia
theorem iT:∀{xs}{y},y∈mz xs↔(y.1,some y.2)∈xs
 |[],y=>by simp[mz]
 |(g,some p)::xs,y=>by
  simp only[mz,v6,iT,C21,A99];constructor
  ·rintro(rfl|h)
   ·exact .inl ⟨rfl,rfl⟩
   ·exact .inr h
  ·rintro(⟨h1,h2⟩|h)
   ·left;rw[<-h1,<-h2]
   ·exact .inr h
 |(g,none)::xs,y=>by simp only[mz,v6,iT,C21,reduceCtorEq,and_false,false_or]
theorem nR(h:xs.length<=16777216):cj [.tup (xs.map λ x=>bA x.1),.tup (xs.map λ x=>cb x.2)]=.ok (.lst ((mz xs).map oD)):=by
 rw[oz];refine aD ?_;simp[h9,ba,LI,h];refine bE Hk (λ x=>x.2.isSome) Hk ?_ ?_
 ·intro x hx;simp;exact λ _=>⟨by decide,rfl⟩
 ·rw[vI]
theorem rS{α:Type}(f:α->Bool)(xs:γ α):g? (.lst (xs.map λ x=>D.bl (f x)))=.ok (.bl (xs.all f)):=by simp only[g?,all_map]
theorem HZ(g:G)(p:Pl){xs:γ GP}(h:xs.length<=16777216):dU [bA g,aU p,.lst (xs.map oD)]=.ok (.bl (xs.all λ x=>b? g p x.1 x.2)):=by
 rw[oC];refine aD ?_;simp[ic,ba,cy,bV,h];refine bE oD (λ _=>true) (λ x=>.bl (b? g p x.1 x.2)) ?_ ?_
 ·intro x hx;simp[HY]
 ·rw[pF,rS];simp
theorem zo(xs:γ α)(h:k<=xs.length):cut xs none (some (k))=xs.take k:=by
 have:¬(k:Int)<0:=by lia
 simp[cut,eu,this]
def r!(ss:γ GP)(k:Nat):Bool:=match ss[k]? with
 |some x=>(ss.take k).all λ y=>b? x.1 x.2 y.1 y.2
 |none=>true
def pf(rows:Rows)(ss:γ GP):Bool:=(ss.all λ x=>cX rows x.1 x.2)&&(List.range ss.length).all (r! ss)
theorem Gz(H:Hall rows C)(h6:xs.length<=6)(hg:∀x∈xs,GOk x.1):lT [cm rows,.tup (xs.map λ x=>bA x.1),.tup (xs.map λ x=>cb x.2)]=.ok (.bl (pf rows (mz xs))):=by
 rw[Ha];refine aD ?_;have xn:=me xs;have hl:(mz xs).length<=16777216:=by lia
 have Yu:xs.length<=16777216:=by lia
 have hk:∀x∈mz xs,GOk x.1:=λ x hx=>hg _ (iT.mp hx);generalize hss:mz xs=ss at xn hl hk;simp[xh,ba,line,cy,bV,nR Yu,hss,hl];refine bE oD (λ _=>true) (λ x=>.bl (cX rows x.1 x.2)) ?_ ?_
 ·intro x hx;simp[Ck H (hk x hx)]
 ·rw [pF,rS];cases e:(ss.all λ x=>cX rows x.1 x.2)with
  |false=>simp[pf,e]
  |true=>
   simp[hl];refine Z.comp_map (λ d=>match d with|.int c=>.bl (r! ss c.toNat)|d=>d) ?_ ?_
   ·intro d hd;obtain⟨j,hj⟩:=B40 hd;obtain⟨Ca,rfl⟩:=ints_get hj;obtain⟨x,ex⟩:∃x,ss[j]?=some x:=⟨_,A01 Ca⟩
    have i1:=(c9 (d:=oD x) rfl (by rw[P3,ex];rfl)).2;have i2:aI (oD x) (.int 0)=.ok (bA x.1):=rfl;have i3:aI (oD x) (.int 1)=.ok (aU x.2):=rfl;have ct:=zo (ss.map oD) (k:=j) (by rw[A03];lia);have af:=HZ x.1 x.2 (xs:=ss.take j) (by rw[A34];lia);rw[List.map_take]at af;rw[C20];simp[i1,i2,i3,Gv,ct,af,r!,ex]
   ·have:(zints 0 ss.length).map (λ d=>match d with|.int c=>.bl (r! ss c.toNat)|d=>d)=(List.range ss.length).map λ j=>D.bl (r! ss j):=by rw[ints_map,A14];refine A67 λ j _=>?_;simp
    rw[this,rS];simp[pf,e]
theorem AJ:pf rows ss=true↔(∀x∈ss,cX rows x.1 x.2=true)/\ss.Pairwise λ a b=>b? b.1 b.2 a.1 a.2=true:=by
 unfold pf;rw[A40,A27,A27,C19];refine and_congr_right λ _=>?_;constructor
 ·intro h i j hi hj D';have:=h j (A19.mpr hj);rw[r!,A01]at this;rw[A27]at this;exact this ss[i] (List.mem_iff_getElem.mpr ⟨i,by rw[A34];lia,by rw[List.getElem_take]⟩)
 ·intro h k hk;rw[A19]at hk;rw[r!,A01];rw[A27];intro y hy;obtain⟨i,hi,rfl⟩:=List.mem_iff_getElem.mp hy;rw[A34]at hi;rw[List.getElem_take];exact h i k (by lia) hk (by lia)
theorem mw(g:G)(p:Pl)(h:G)(q:Pl):b? g p h q=b? h q g p:=by unfold b?;rw[C12,Int.max_comm];lia
theorem rE:∀{xs},(mz xs).Pairwise R↔xs.Pairwise λ a b=>∀p q,a.2=some p->b.2=some q->R (a.1,p) (b.1,q)
 |[]=>by simp[mz]
 |(g,some p)::xs=>by
  simp only[mz,List.pairwise_cons,rE];refine and_congr_left λ _=>?_;constructor
  ·intro h b hb p' q hp hq;cases hp;exact h (b.1,q) (iT.mpr (by simp only[<-hq];exact hb))
  ·intro h y hy;exact h _ (iT.mp hy) p y.2 rfl rfl
 |(g,none)::xs=>by simp only[mz,List.pairwise_cons,rE];exact⟨λ h=>⟨λ b hb p q hp=>(by cases hp),h⟩,λ h=>h.2⟩
end KG
set_option maxRecDepth 4000
noncomputable section
namespace KH
open Z KG
def kT:SF:=(aR (eB aX (eB aX (Hm (eW 0) BQ (xm (eW 1))) (dF (aa (eV 2) av))) (Hm (eW 0) (xm (eB aX (eW 1) (eC (.int 1)))) BQ)))
def c!:γ D->Res D:=fn 3 3 kT
theorem t!(x0 x1 x2:D):c! [x0,x1,x2]=br (kT [some (.val x0),some (.val x1),some (.val x2)]):=bL _ _ _ _ rfl
def kY:SF:=(aR (eU dX (eL (bK (dh (eW 0)) 1 [1,2] (aJ 0) (tE (aw KG.dU (aa (eV 1) (aa (eV 0) (aa (eV 2) av))))) (eV 0)))))
def eN:γ D->Res D:=fn 3 3 kY
theorem ua(x0 x1 x2:D):eN [x0,x1,x2]=br (kY [some (.val x0),some (.val x1),some (.val x2)]):=bL _ _ _ _ rfl
def xg:SF:=(ay (jQ 2 (bg av)) (ay (eZ (dh (eV 1)) (aJ 3) (ay (dC 2 (eB oMod (eW 0) (eW 3))) (aO 0 (eB oDiv (eW 0) (eW 3))))) (vM 2 (aR (eV 2)))))
def t9:γ D->Res D:=fn 2 4 xg
def dA:SF:=(ay (aO 1 (aw KG.aN (aa (eV 0) (aa (eC (.int 0)) av)))) (ay (aO 2 (eB aX (eC (.int 1)) (eB oMod (eB oDiv (eW 1) (eC (.int 2))) (eC (.int 6))))) (ay (aO 3 (eB aX (eC (.int 1)) (eB oMod (eB oDiv (eW 1) (eC (.int 12))) (eC (.int 12))))) (ay (aO 4 (eB aI (eC (.str aS)) (eB oMod (eB oDiv (eW 1) (eC (.int 144))) (eC (.int 26))))) (ay (aO 5 (eB aI (eC (.str aS)) (eB oMod (eB aX (eB aX (eB oDiv (eW 1) (eC (.int 144))) (eC (.int 1))) (eB oMod (eB oDiv (eW 1) (eC (.int 3744))) (eC (.int 25)))) (eC (.int 26))))) (ay (aO 6 (eB aI (eL (bg (aa (eC (.str [46,46,46,46,46,46,46,61])) (aa (eB aX (eB aX (eC (.str [46,46])) (eC (.str [46,46,46,61,35]))) (eW 4)) (aa (eB aX (eB aX (eB aX (eC (.str [46,46,46])) (eC (.str [61,61,35]))) (eW 4)) (eW 5)) av))))) (eB oMod (eB oDiv (eW 1) (eC (.int 93600))) (eC (.int 3))))) (ay (d! (tE (eB oEq (eB oMod (eW 1) (eC (.int 2))) (eC (.int 1)))) (ay (aO 6 (eC (.str signs))) (aO 7 (aw t9 (aa (aw KG.aN (aa (eV 0) (aa (eC (.int 1)) av))) (aa (eL (R6 (bg (aa (eC (.int 29)) av)) (eB fA (eW 2) (eW 3)))) av))))) (ay (aO 2 (eB aI (eL (bg (aa (eC (.int 1)) (aa (eC (.int 2)) (aa (eC (.int 3)) (aa (eC (.int 4)) (aa (eC (.int 2)) (aa (eC (.int 3)) av)))))))) (eB tY (eW 2) (eC (.int 1))))) (ay (aO 3 (eB aI (eL (bg (aa (eC (.int 1)) (aa (eC (.int 2)) (aa (eC (.int 3)) (aa (eC (.int 4)) (aa (eC (.int 5)) (aa (eC (.int 6)) (aa (eC (.int 8)) (aa (eC (.int 3)) (aa (eC (.int 4)) (aa (eC (.int 5)) (aa (eC (.int 6)) (aa (eC (.int 12)) av)))))))))))))) (eB tY (eW 3) (eC (.int 1))))) (aO 7 (eL (bK (dP (eB fA (eW 2) (eW 3))) 1 [0] (aJ 0) bD (eB oMod (eB oDiv (aw KG.bx (aa (aw KG.aN (aa (eV 1) (aa (eC (.int 1)) av))) (aa (eV 0) av))) (eC (.int 5))) (eC (.int 8))))))))) (ay (jQ 8 (bg av)) (ay (eZ (dP (eV 2)) (aJ 9) (dC 8 (eB iO (eC (.str [])) (eL (bK (dh (eL (Ke (eW 7) (xm (eB fA (eW 9) (eW 3))) (xm (eB fA (eB aX (eW 9) (eC (.int 1))) (eW 3)))))) 1 [6] (aJ 0) bD (eB aI (eW 1) (eW 0))))))) (aR (dF (aa (eU dX (eW 8)) (aa (eV 4) (aa (eV 5) av))))))))))))))
def dS:γ D->Res D:=fn 1 10 dA
theorem jK(x0:D):dS [x0]=br (dA [some (.val x0),none,none,none,none,none,none,none,none,none]):=bL _ _ _ _ rfl
def gu:SF:=(ay (d! (qp (tE (eB oLe (eB aX (eB aI (eW 1) (eC (.int 0))) (eB aI (eW 0) (eC (.int 2)))) (eB aI (eW 3) (eC (.int 0))))) (tE (eB oLe (eB aX (eB aI (eW 3) (eC (.int 0))) (eB aI (eW 2) (eC (.int 2)))) (eB aI (eW 1) (eC (.int 0)))))) (aR (eC (.bl true))) aT) (ay (aO 4 (eB F9 (eB aI (eW 0) (eC (.int 5))) (eB aI (eW 2) (eC (.int 5))))) (aR (Oo (eB oLe (eB aX (eB aX (eB aI (eW 1) (eC (.int 1))) (eB aI (eW 0) (eC (.int 1)))) (eW 4)) (eB aI (eW 3) (eC (.int 1)))) (eB oLe (eB aX (eB aX (eB aI (eW 3) (eC (.int 1))) (eB aI (eW 2) (eC (.int 1)))) (eW 4)) (eB aI (eW 1) (eC (.int 1))))))))
def gG:γ D->Res D:=fn 4 5 gu
theorem wM(x0 x1 x2 x3:D):gG [x0,x1,x2,x3]=br (gu [some (.val x0),some (.val x1),some (.val x2),some (.val x3),none]):=bL _ _ _ _ rfl
def nA:SF:=(aR (eB aX (eB aX (Hm (eW 0) BQ (xm (eW 1))) (dF (aa (eV 2) av))) (Hm (eW 0) (xm (eB aX (eW 1) (eC (.int 1)))) BQ)))
def lS:γ D->Res D:=fn 3 3 nA
theorem y_(x0 x1 x2:D):lS [x0,x1,x2]=br (nA [some (.val x0),some (.val x1),some (.val x2)]):=bL _ _ _ _ rfl
end KH
end
set_option maxRecDepth 8000
namespace KH
open Z KG
@[simp] theorem Xc:mX (.int 10) (.int 40)=.ok (.int 10000000000000000000000000000000000000000):=je 10 40 (by decide) (by decide)
@[simp] theorem Xd:mX (.int 10) (.int 39)=.ok (.int 1000000000000000000000000000000000000000):=je 10 39 (by decide) (by decide)
theorem Li(row:γ Nat)(h:c+w<=row.length):cut row (some (c)) (some ((c)+w))=(row.drop c).take w:=by
 have n1:¬(c:Int)<0:=by lia
 have n2:¬(c:Int)+w<0:=by lia
 have e:((c:Int)+w).toNat=c+w:=by lia
 simp only[cut,eu,n1,n2,A65,A85,e];rw[B11 h,B11 (by lia),Nat.add_sub_cancel_left]
theorem ZM(k:γ Nat)(c:Nat):(!(c == 46)&&(!(c == 61)&& !([c] == k)))= !dD k (some c):=by
 by_cases h1:c=46
 ·simp[dD,h1]
 ·by_cases h2:c=61
  ·simp[dD,h2]
  ·by_cases h3:k=[c]
   ·subst h3;simp[dD]
   ·have Y1:¬[c]=k:=λ h=>h3 h.symm;simp[dD,h1,h2,h3,Y1]
theorem qv(g:G)(p:Pl)(h:G)(q:Pl):gG [bA g,aU p,bA h,aU q]=.ok (.bl (b? g p h q)):=by
 rw[wM];refine aD ?_;by_cases h1:p.1+g.d<=q.1
 ·simp[gu,b?,h1]
 ·by_cases h2:q.1+h.d<=p.1
  ·simp[gu,b?,h2]
  ·by_cases h3:p.2+g.w+max (g.gap:Int) h.gap<=q.2
   ·simp[gu,b?,h1,h2,h3]
   ·simp[gu,b?,h1,h2,h3]
def Xg(xs:γ GO)(g:G)(k:Nat)(p:Pl)(j:Nat):Bool:=decide (j=k)||match xs[j]? with
 |some (h,some q)=>b? g p h q
 |_=>true
def openAt(xs:γ GO)(g:G)(k:Nat)(p:Pl):Bool:=(List.range xs.length).all (Xg xs g k p)
def cg(rows:Rows)(C:Nat)(xs:γ GO)(g:G)(k:Nat):γ Pl:=(places rows C g).filter (openAt xs g k)
def aP(xs:γ GO):D:=.tup (xs.map λ x=>bA x.1)
def aF(xs:γ GO):D:=.tup (xs.map λ x=>cb x.2)
theorem BH{k:Nat}(h:k<ds.length)(d:D):cut ds none (some (k))++(d::cut ds (some ((k)+1)) none)=ds.set k d:=by
 have e1:cut ds none _=ds.take k:=zo ds (by lia);have e2:cut ds (some ((k)+1)) none=ds.drop (k+1):=by
  have:¬(k:Int)+1<0:=by lia
  have h3:((k:Int)+1).toNat=k+1:=by lia
  have h4:min (k+1) ds.length=k+1:=by lia
  simp[cut,eu,this,h4];rw[C10 (by simp)]
 rw[e1,e2,List.set_eq_take_append_cons_drop,M2 h]
theorem IK(h:k<ds.length)(hl:ds.length<=1000)(d:D):lS [.tup ds,.int (k:Nat),d]=.ok (.tup (ds.set k d)):=by
 rw[y_];refine aD ?_;have c1:=qS ds none (some (k));have c2:=qS ds (some ((k)+1)) none;have g1:(cut ds none (some (k))).length+1<=16777216:=by lia
 have g2:(cut ds none (some (k))).length+1+(cut ds (some ((k)+1)) none).length<=16777216:=by lia
 simp[nA,line,g1,g2,BH h]
theorem tF(h:k<ds.length)(hl:ds.length<=1000)(d:D):c! [.tup ds,.int (k:Nat),d]=.ok (.tup (ds.set k d)):=by
 rw[t!];refine aD ?_;have c1:=qS ds none (some (k));have c2:=qS ds (some ((k)+1)) none;have g1:(cut ds none (some (k))).length+1<=16777216:=by lia
 have g2:(cut ds none (some (k))).length+1+(cut ds (some ((k)+1)) none).length<=16777216:=by lia
 simp[kT,line,g1,g2,BH h]
theorem Eh(xs:γ GO)(k:Nat)(g:G)(o:ε Pl):aF (xs.set k (g,o))=.tup ((xs.map λ x=>cb x.2).set k (cb o)):=by simp[aF]
theorem u4(h:xs[k]?=some x)(o:ε Pl):aP (xs.set k (x.1,o))=aP xs:=by
 have hk:=(A02.mp h).1;have e:x=xs[k]:=by rw[A01]at h;exact(A04 h).symm
 unfold aP;rw[B63]
 congr 1
 subst e;apply B39 (by simp);intro i h1 h2;rw[List.getElem_set];split
 ·rename_i e;subst e;simp
 ·rfl
def Good(rows:Rows)(xs:γ GO):Prop:=∀(i:Nat)(g:G)(p:Pl),xs[i]?=some (g,some p)->cX rows g p=true/\∀(j:Nat)(h:G)(q:Pl),xs[j]?=some (h,some q)->j≠i->b? g p h q=true
theorem fY:openAt xs g k p=true↔∀(j:Nat) h q,xs[j]?=some (h,some q)->j≠k->b? g p h q=true:=by
 unfold openAt;rw[A27];constructor
 ·intro h j hh q e hj;have hl:=(A02.mp e).1;have:=h j (A19.mpr hl);simpa[Xg,e,hj]using this
 ·intro h j hj;unfold Xg;by_cases hk:j=k
  ·simp[hk]
  ·cases e:xs[j]? with
   |none=>simp
   |some y=>
    obtain⟨hh,o⟩:=y;cases o with
    |none=>simp
    |some q=>simp[h j hh q e hk]
theorem Good.put(h:Good rows xs)(hk:xs[k]?=some x)(hf:cX rows x.1 p=true)(ho:openAt xs x.1 k p=true):Good rows (xs.set k (x.1,some p)):=by
 rw[fY]at ho;have hl:=(A02.mp hk).1;intro i g q e;rw[A38]at e;by_cases hi:k=i
 ·subst hi;rw[M2 rfl,M2 hl]at e;cases e;refine⟨hf,λ j hh r ej hj=>?_⟩;rw[A38,f8 (λ z=>hj z.symm)]at ej;exact ho j hh r ej hj
 ·rw[f8 hi]at e;obtain⟨h1,h2⟩:=h i g q e;refine⟨h1,λ j hh r ej hj=>?_⟩;rw[A38]at ej;by_cases Ca:k=j
  ·subst Ca;rw[M2 rfl,M2 hl]at ej;cases ej;rw[mw];exact ho i g q e (λ z=>hi z.symm)
  ·rw[f8 Ca]at ej;exact h2 j hh r ej hj
theorem Good.sub{xs ys:γ GO}(h:Good rows xs)(hs:∀(i:Nat) g p,ys[i]?=some (g,some p)->xs[i]?=some (g,some p)):Good rows ys:=by intro i g p e;obtain⟨h1,h2⟩:=h i g p (hs i g p e);exact⟨h1,λ j hh q ej hj=>h2 j hh q (hs j hh q ej) hj⟩
theorem Good.keeps(h:Good rows xs):pf rows (mz xs)=true:=by
 rw[AJ];constructor
 ·intro y hy;obtain⟨i,hi⟩:=B40 (iT.mp hy);exact(h i y.1 y.2 hi).1
 ·rw[rE,C19];intro i j hi hj D' p q ep eq;have e1:xs[i]?=some (xs[i].1,some p):=by rw[A01,<-ep]
  have e2:xs[j]?=some (xs[j].1,some q):=by rw[A01,<-eq]
  exact(h j _ q e2).2 i _ p e1 (by lia)
theorem mG(ps:γ Pl)(g:G){ss:γ GP}(hp:ps.length<=10000)(hs:ss.length<=6):eN [.tup (ps.map aU),bA g,.lst (ss.map oD)]=.ok (.tup ((ps.filter λ p=>ss.all λ x=>b? g p x.1 x.2).map aU)):=by
 rw[ua];refine aD ?_;have Sm:ps.length<=16777216:=by lia
 simp[kY,ba,cy,bV,Sm];refine bE aU (λ p=>ss.all λ x=>b? g p x.1 x.2) aU ?_ ?_
 ·intro p hp;simp[HZ g p (xs:=ss) (by lia)]
 ·rfl
theorem yb(hk:xs[k]?=some x)(p:Pl):((mz (xs.set k (x.1,none))).all λ y=>b? g p y.1 y.2)=openAt xs g k p:=by
 rw[A57,fY,A27];have hl:=(A02.mp hk).1;constructor
 ·intro h j hh q e hj;have hm:(hh,some q)∈xs.set k (x.1,none):=by refine A15 (i:=j) ?_;rw[A38,f8 (λ z=>hj z.symm)];exact e
  exact h (hh,q) (iT.mpr hm)
 ·intro h y hy;obtain⟨j,e⟩:=B40 (iT.mp hy);rw[A38]at e;by_cases hj:k=j
  ·rw[M2 hj]at e;subst hj;rw[M2 hl]at e;exact nomatch A22 Prod.snd (A04 e)
  ·rw[f8 hj]at e;exact h j y.1 y.2 e (λ z=>hj z.symm)
theorem jT(h:p∈places rows C g):cX rows g p=true:=(A43.mp h).2
structure adF(g:G):Prop extends GrpG g where
 pos:∃(wt:Int)(ws:List Pl),ws.length<=6/\0<=wt/\(∀p∈ws,0<=p.2)/\g.worth=.int wt/\g.mS=.tup (ws.map aU)
end KH
set_option maxRecDepth 4000
noncomputable section
namespace KB
open Z KG KH
def nv:SF:=(aR (eB aX (eB aI (eW 0) (eC (.int 6))) (eU F4 (eL (bK (dh (eB aI (eW 0) (eC (.int 7)))) 1 [1] (aJ 0) (tE (eB oEq (eB aI (eW 0) (eC (.int 0))) (eW 1))) (eB aI (eW 0) (eC (.int 1))))))))
def jF:γ D->Res D:=fn 2 2 nv
theorem y9(x0 x1:D):jF [x0,x1]=br (nv [some (.val x0),some (.val x1)]):=bL _ _ _ _ rfl
def nu:SF:=(aR (eU F4 (eL (bK (dh (aw KG.cj (aa (eV 0) (aa (eV 1) av)))) 2 [] (fB [0,1]) bD (aw jF (aa (eV 0) (aa (eB aI (eW 1) (eC (.int 0))) av)))))))
def dQ:γ D->Res D:=fn 2 2 nu
theorem y8(x0 x1:D):dQ [x0,x1]=br (nu [some (.val x0),some (.val x1)]):=bL _ _ _ _ rfl
def gN:SF:=(ay (aO 3 (Tt (tE (eU iS (eW 2))) (eB yw (dF (aa (eC .non) av)) (eU b7 (eW 1))) (eV 2))) (ay (d! (dM (tE (aw KG.lT (aa (eV 0) (aa (eV 1) (aa (eV 3) av)))))) qt aT) (aR (eV 3))))
def a7:γ D->Res D:=fn 3 4 gN
theorem lq(x0 x1 x2:D):a7 [x0,x1,x2]=br (gN [some (.val x0),some (.val x1),some (.val x2),none]):=bL _ _ _ _ rfl
def Bi:SF:=(ay (aO 3 (eC (.int 1))) (ay (eZ (AN (eV 1) (aw a7 (aa (eV 0) (aa (eV 1) (aa (eV 2) av))))) (fB [4,5]) (d! (tE (eU iS (eW 5))) (aO 3 (eB fA (eV 3) (eB aX (eU b7 (aw KG.fD (aa (eV 0) (aa (eV 4) av)))) (eC (.int 1))))) aT)) (aR (eV 3))))
def qO:γ D->Res D:=fn 3 6 Bi
theorem KZ(x0 x1 x2:D):qO [x0,x1,x2]=br (Bi [some (.val x0),some (.val x1),some (.val x2),none,none,none]):=bL _ _ _ _ rfl
def jX:SF:=(ay (aO 3 (aw qO (aa (eV 0) (aa (eV 1) (aa (eV 2) av))))) (ay (d! (tE (eB BV (eW 3) (eC (.int 2000)))) qt aT) (aR (aw a7 (aa (eV 0) (aa (eV 1) (aa (eV 2) av)))))))
def d7:γ D->Res D:=fn 3 4 jX
theorem sv(x0 x1 x2:D):d7 [x0,x1,x2]=br (jX [some (.val x0),some (.val x1),some (.val x2),none]):=bL _ _ _ _ rfl
def iL:SF:=(ay (aO 5 (aw KG.fD (aa (eV 0) (aa (eB aI (eW 1) (eW 3)) av)))) (ay (jQ 6 (bg av)) (ay (eZ (dh (eV 2)) (aJ 7) (ay (aO 8 (aw KG.cj (aa (eV 1) (aa (eV 7) av)))) (ay (qr 6 (bK (dh (aw KH.eN (aa (eV 5) (aa (eB aI (eW 1) (eW 3)) (aa (eV 8) av))))) 1 [7,3] (aJ 0) bD (aw KH.c! (aa (eV 1) (aa (eV 2) (aa (eV 0) av)))))) (d! (tE (eV 4)) (dC 6 (eV 7)) aT)))) (vM 6 (aR (eV 6))))))
def fC:γ D->Res D:=fn 5 9 iL
theorem pC(x0 x1 x2 x3 x4:D):fC [x0,x1,x2,x3,x4]=br (iL [some (.val x0),some (.val x1),some (.val x2),some (.val x3),some (.val x4),none,none,none,none]):=bL _ _ _ _ rfl
def iM:SF:=(ay (aO 4 (eL (bg (aa (eV 2) av)))) (ay (eZ (dP (eU b7 (eW 1))) (aJ 5) (d! (tE (eU iS (eB aI (eW 2) (eW 5)))) (aO 4 (aw fC (aa (eV 0) (aa (eV 1) (aa (eV 4) (aa (eV 5) (aa (eV 3) av))))))) aT)) (aR (eV 4))))
def di:γ D->Res D:=fn 4 6 iM
theorem pE(x0 x1 x2 x3:D):di [x0,x1,x2,x3]=br (iM [some (.val x0),some (.val x1),some (.val x2),some (.val x3),none,none]):=bL _ _ _ _ rfl
def gO:SF:=(aR (wQ true (.ok .non) (eW 1) [0] (aw dQ (aa (eV 1) (aa (eV 0) av)))))
def eP:γ D->Res D:=fn 2 2 gO
theorem mN(x0 x1:D):eP [x0,x1]=br (gO [some (.val x0),some (.val x1)]):=bL _ _ _ _ rfl
def ju:SF:=(ay (aO 3 (aw d7 (aa (eV 0) (aa (eV 1) (aa (eV 2) av))))) (aR (aw eP (aa (eV 1) (aa (aw di (aa (eV 0) (aa (eV 1) (aa (eV 3) (aa (eC (.bl true)) av))))) av)))))
def dH:γ D->Res D:=fn 3 4 ju
theorem qB(x0 x1 x2:D):dH [x0,x1,x2]=br (ju [some (.val x0),some (.val x1),some (.val x2),none]):=bL _ _ _ _ rfl
def iB:SF:=(ay (aO 3 (aw d7 (aa (eV 0) (aa (eV 1) (aa (eV 2) av))))) (aR (aw eP (aa (eV 1) (aa (aw di (aa (eV 0) (aa (eV 1) (aa (eV 3) (aa (eC (.bl false)) av))))) av)))))
def gJ:γ D->Res D:=fn 3 4 iB
theorem sx(x0 x1 x2:D):gJ [x0,x1,x2]=br (iB [some (.val x0),some (.val x1),some (.val x2),none]):=bL _ _ _ _ rfl
def k6:SF:=(aR (aw dQ (aa (eV 1) (aa (aw dH (aa (eV 0) (aa (eV 1) (aa (eV 2) av)))) av))))
def iu:γ D->Res D:=fn 3 3 k6
theorem ue(x0 x1 x2:D):iu [x0,x1,x2]=br (k6 [some (.val x0),some (.val x1),some (.val x2)]):=bL _ _ _ _ rfl
end KB
end
set_option maxRecDepth 8000
namespace KB
open Z KG
open KH
theorem uE(H:Hall rows C)(xs:γ GO)(g:G)(k:Nat):(cg rows C xs g k).length<=10000:=A16 (A70 _ _) (places_len H g)
theorem GA(H:Hall rows C)(h6:xs.length<=6)(hg:∀x∈xs,GOk x.1)(hk:Good rows xs):KG.lT [cm rows,aP xs,aF xs]=.ok (.bl true):=by have:=Gz H h6 hg;rw[hk.keeps]at this;exact this
theorem uZ(H:Hall rows C)(h6:xs.length<=6)(hg:∀x∈xs,GOk x.1)(hk:Good rows xs):a7 [cm rows,aP xs,aF xs]=.ok (aF xs):=by rw[lq];refine aD ?_;have hN:iS (aF xs)=.ok _:=rfl;simp[gN,hN,GA H h6 hg hk]
def wtD:D->Int
 |.int w=>w
 |_=>0
def W!:D->Pl
 |.tup [.int a,.int b]=>(a,b)
 |_=>(0,0)
def Z!:D->γ Pl
 |.tup ds=>ds.map W!
 |_=>[]
def more(ws:γ Pl)(row:Int):Int:=((ws.filter λ p=>decide (p.1=row)).map (·.2)).sum
def IP(g:G)(row:Int):Int:=wtD g.worth+more (Z! g.mS) row
def wO(x:GO):Int:=match x.2 with
 |none=>0
 |some p=>IP x.1 p.1
theorem Bu(ws:γ Pl):Z! (.tup (ws.map aU))=ws:=by show(ws.map aU).map W!=ws;rw[A14];have:(W!∘aU)=id:=funext λ p=>rfl;rw[this,List.map_id]
theorem LV(ns:γ Int):F4 (.lst (ns.map D.int))=.ok (.int ns.sum):=by show(match x! _ with|some i=>Res.ok _|none=>.bad)=_;rw[uu]
theorem xy(h:GrpG g)(row:Int):jF [bA g,.int row]=.ok (.int (IP g row)):=by
 obtain⟨wt,ws,hl,e1,e2⟩:=h.wsh;rw[y9];refine aD ?_;have qx:ws.length<=16777216:=by lia
 have e3:IP g row=wt+more ws row:=by unfold IP;rw[e1,e2,Bu];rfl
 rw[e3];simp[nv,ba,cy,bV,e1,e2,qx];refine bE aU (λ p=>decide (p.1=row)) (λ p=>.int p.2) (λ p _=>?_) ?_
 ·simp;rfl
 ·rw[show(ws.filter λ p=>decide _).map (λ p=>D.int p.2)=((ws.filter λ p=>decide _).map _).map D.int from by rw[A14];rfl,LV];simp[more]
theorem vE:∀xs,((mz xs).map λ y=>IP y.1 y.2.1).sum=(xs.map wO).sum
 |[]=>rfl
 |(g,none)::xs=>by simp[mz,wO,vE xs]
 |(g,some p)::xs=>by simp[mz,wO,vE xs]
theorem xx{xs:γ GO}(h:xs.length<=6)(hg:∀x∈xs,GrpG x.1):dQ [.tup (xs.map λ x=>bA x.1),.tup (xs.map λ x=>cb x.2)]=.ok (.int (xs.map wO).sum):=by
 rw[y8];refine aD ?_;have et:=nR (xs:=xs) (by lia);have L4:=me xs;have GS:(mz xs).length<=16777216:=by lia
 simp[nu,et,ba,GS];refine bE oD (λ _=>true) (λ y=>.int (IP y.1 y.2.1)) (λ y hy=>?_) ?_
 ·have:=xy (hg _ (iT.mp hy)) y.2.1;have gX:∀ρ,fB [0,1] (oD y) ρ=.ok _:=λ ρ=>rfl;simp[this]
 ·rw[pF,show(mz xs).map (λ y=>D.int _)=((mz xs).map λ y=>IP y.1 y.2.1).map D.int from by rw[A14];rfl,LV,vE];simp
theorem BG{xs:γ GO}:(xs.set k x).length=xs.length:=B20
theorem nH{xs:γ GO}(h6:xs.length<=6){k:Nat}(hk:xs[k]?=some (g,o))(p:Pl):KH.c! [aF xs,.int (k),aU p]=.ok (aF (xs.set k (g,some p)))/\KH.lS [aF xs,.int (k),aU p]=.ok (aF (xs.set k (g,some p))):=by have hl:=(A02.mp hk).1;have h1:=tF (ds:=xs.map λ x=>cb x.2) (k:=k) (by simp;lia) (by simp;lia) (aU p);have h2:=IK (ds:=xs.map λ x=>cb x.2) (k:=k) (by simp;lia) (by simp;lia) (aU p);rw[Eh];exact⟨h1,h2⟩
theorem Fo{C:Nat}(hr:∀x∈rows,x.length=C)(h:cR rows s=some c):0<=s.1/\s.1<rows.length/\0<=s.2/\s.2<C:=by
 unfold cR at h;split at h
 ·rename_i z;cases e:rows[s.1.toNat]? with
  |none=>rw[e]at h;cases h
  |some r=>rw[e]at h;have h:=h;have h1:=(A02.mp h).1;have h2:=(A02.mp e).1;have hl:=hr r (A15 e);lia
 ·cases h
theorem Qz(k:GOk g)(p:Pl):p∈seats g p:=by have hw:=k.w1;have hd:=k.d1;unfold seats eD bZ;simp only[B13,A19,A08];exact⟨0,by lia,0,by lia,by simp⟩
theorem yX(H:Hall rows C)(k:GOk g)(h:cX rows g p=true):p∈places rows C g:=by
 refine A43.mpr ⟨DD.mpr ?_,h⟩;unfold cX at h;rw[A40,A27]at h;have:=h.1 p (Qz k p);cases e:cR rows p with
 |none=>rw[e]at this;cases this
 |some c=>exact Fo H.len e
structure Ext(cs hs:List GO):Prop where
 gs:cs.map (·.1)=hs.map (·.1)
 sub:∀(i:Nat)(g:G)(p:Pl),cs[i]?=some (g,some p)->hs[i]?=some (g,some p)
theorem Ext.len(e:Ext cs hs):cs.length=hs.length:=by have:=A22 List.length e.gs;rwa [A03,A03]at this
theorem Ext.at(e:Ext cs hs){k:Nat}(h:cs[k]?=some (g,o)):∃o',hs[k]?=some (g,o')/\(∀p,o=some p->o'=some p):=by
 have hl:=(A02.mp h).1;rw[e.len]at hl;obtain⟨⟨g',o'⟩,e'⟩:∃x,hs[k]?=some x:=⟨_,A01 hl⟩
 have z:=A22 (λ l=>l[k]?) e.gs;simp only[P3,h,e',A83,A99]at z;subst z;refine⟨o',e',λ p hp=>?_⟩;subst hp;have:=e.sub k g p h;rw[e']at this;exact(Prod.mk.inj (A04 this)).2
theorem zip_map{α:Type}(f h:α->D):∀xs:γ α,e! (xs.map f) (xs.map h)=xs.map λ x=>.tup [f x,h x]
 |[]=>rfl
 |x::xs=>by simp[e!,zip_map f h xs];rfl
open KH
def fO:γ Nat->Nat
 |[]=>1
 |n::r=>n*fO r
theorem iR:∀a b,fO (a++b)=fO a*fO b
 |[],b=>by simp[fO]
 |n::a,b=>by simp[fO,iR a b,Nat.mul_assoc]
theorem uB:∀{l},(∀n∈l,0<n)->0<fO l
 |[],_=>Nat.one_pos
 |n::l,h=>Nat.mul_pos (h n A12) (uB λ m hm=>h m (A09 _ hm))
def km(rows:Rows)(C:Nat)(x:GO):Nat:=match x.2 with
 |none=>(places rows C x.1).length+1
 |some _=>1
theorem EX(rows:Rows)(C:Nat)(x:GO):0<km rows C x:=by unfold km;split<;>lia
def gR(rows:Rows)(C:Nat)(xs:γ GO):Nat:=fO (xs.map (km rows C))
theorem EW(xs:γ GO):0<fO (xs.map (km rows C)):=uB λ n hn=>by obtain⟨x,_,rfl⟩:=A08.mp hn;exact EX rows C x
theorem um(xs:γ GO)(j:Nat):fO ((xs.take j).map (km rows C))<=gR rows C xs:=by
 unfold gR;have e:xs.map (km rows C)=(xs.take j).map (km rows C)++(xs.drop j).map (km rows C):=by rw[<-A68,List.take_append_drop]
 rw[e,iR];exact Nat.le_mul_of_pos_right _ (EW _)
theorem l_{xs:γ GO}(h:xs[j]?=some x):fO ((xs.take (j+1)).map (km rows C))=fO ((xs.take j).map (km rows C))*km rows C x:=by rw[take_snoc h,A68,iR];simp[fO]
theorem IM(H:Hall rows C)(h6:xs.length<=6)(hg:∀x∈xs,GOk x.1)(ef:a7 [cm rows,aP xs,fd]=.ok (aF xs)):qO [cm rows,aP xs,fd]=.ok (.int (gR rows C xs)):=by
 rw[KZ];refine aD ?_;simp[Bi,ef];unfold aP aF at *;simp[zip_map];refine dE (λ i ρ=>∃x4 x5,ρ=[v _,v _,v fd,vi (fO ((xs.take i).map (km rows C))),x4,x5]) ⟨none,none,rfl⟩ ?_ ?_
 ·rintro j d ρ hj ⟨x4,x5,rfl⟩;rw[P3]at hj;obtain⟨⟨g,o⟩,hx,rfl⟩:=A56.mp hj;have gX:∀ρ,fB [4,5] (.tup [bA g,cb o]) ρ=.ok _:=λ ρ=>rfl;rw[l_ hx];generalize fO _=m;cases o with
  |some p=>have en:iS (aU p)=.ok _:=rfl;simp[gX,cb,en,km]
  |none=>have pl:=places_of_ok H (hg _ (A15 hx));have iV:=places_len H g;rw[show km rows C (g,none)=(places rows C g).length+1 from rfl];generalize places rows C g=ps at pl iV ⊢;have q1:bS (m) ((ps.length)+1):=Or.inr (Or.inl ⟨by lia,by lia⟩);simp[gX,cb,pl,q1]
 ·rintro ρ ⟨x4,x5,rfl⟩;rw[A03,A59];simp[gR]
theorem Ed(H:Hall rows C)(h6:xs.length<=6)(hg:∀x∈xs,GOk x.1)(hn:∀x∈xs,x.2=none):a7 [cm rows,aP xs,.non]=.ok (aF xs):=by
 have hk:Good rows xs:=λ i g p e=>by have:=hn _ (A15 e);cases this
 rw[lq];refine aD ?_;have hl:b7 (aP xs)=.ok (.int xs.length):=by simp[aP]
 have e0:List.replicate xs.length D.non=xs.map λ x=>cb x.2:=by refine B39 (by simp) λ i h1 h2=>?_;have:=hn (xs[i]'(by simpa using h2)) (A93 _);simp[this]
 have h6':(xs.length:Int)<=1000000:=by lia
 have kk:=GA H h6 hg hk;unfold aF at kk ⊢;rw[<-e0]at kk ⊢;simp[gN,hl,JX,h6',kk,line]
theorem rC(H:Hall rows C)(h6:xs.length<=6)(hg:∀x∈xs,GOk x.1)(ef:a7 [cm rows,aP xs,fd]=.ok (aF xs))(hw:gR rows C xs<=2000):d7 [cm rows,aP xs,fd]=.ok (aF xs):=by
 have ew:=IM H h6 hg ef;rw[sv];refine aD ?_;have:¬(2000:Int)<(gR rows C xs):=by lia
 simp[jX,ew,ef,this]
def gw(rows:Rows)(C:Nat)(sm:Bool)(g:G)(k:Nat)(cs:γ GO):γ (γ GO):=(cg rows C cs g k).map (λ p=>cs.set k (g,some p))++if sm then[cs]else[]
theorem rB:(gw rows C sm g k cs).length<=(places rows C g).length+1:=by have:=A70 (openAt cs g k) (places rows C g);unfold gw cg;cases sm<;>simp<;>lia
theorem ox{α β:Type}{f:α->γ β}:∀{L:γ α},(∀x∈L,(f x).length<=m)->(L.flatMap f).length<=L.length*m
 |[],_=>by simp
 |x::L,h=>by have:=ox λ y hy=>h y (A09 _ hy);have hx:=h x A12;rw[B64,A23,A36,B37,Nat.one_mul];lia
theorem sk(h:cs.map (·.1)=xs.map (·.1)):aP cs=aP xs:=by have:=A22 (List.map bA) h;rw[A14,A14]at this;exact A22 D.tup this
theorem Dg(H:Hall rows C){cs:γ GO}(h6:cs.length<=6){k:Nat}(hk:cs[k]?=some (g,none)):KH.eN [.tup ((places rows C g).map aU),bA g,.lst ((mz cs).map oD)]=.ok (.tup ((cg rows C cs g k).map aU)):=by
 have hl:=(A02.mp hk).1;have L4:=me cs;have ho:=mG _ g (ss:=mz cs) (places_len H g) (by lia);have GU:cs.set k (g,none)=cs:=by have:=(A02.mp hk).2;rw[<-this];exact C48 hl
 have he:(places rows C g).filter (λ p=>(mz cs).all λ x=>b? g p x.1 x.2)=cg rows C cs g k:=by refine C22 λ p _=>?_;have:=yb (g:=g) hk p;simp only at this;rw[GU]at this;exact this
 rw[he]at ho;exact ho
theorem yl(H:Hall rows C){xs:γ GO}(h6:xs.length<=6)(hg:∀x∈xs,GOk x.1){k:Nat}{g:G}(hk:xs[k]?=some (g,none))(sm:Bool){L:γ (γ GO)}(hL:∀cs∈L,cs.map (·.1)=xs.map (·.1)/\cs[k]?=some (g,none))(hB:L.length*((places rows C g).length+1)<=1000000):
  fC [cm rows,aP xs,.lst (L.map aF),.int (k:Nat),.bl sm]=.ok (.lst ((L.flatMap (gw rows C sm g k)).map aF)):=by
 rw[pC];refine aD ?_;have Vp:aI (aP xs) (.int (k:Nat))=.ok (bA g):=(c9 (xs:=xs.map λ y:GO=>bA y.1) (i:=k) (j:=k) rfl (by rw[P3,hk];rfl)).1;have pl:=places_of_ok H (hg _ (A15 hk));simp[iL,Vp,pl,line];refine dE (λ i ρ=>∃x7 x8,ρ=[v (cm rows),v (aP xs),v (.lst (L.map aF)),vi (k:Nat),v (.bl sm),v (.tup ((places rows C g).map aU)),ow (((L.take i).flatMap (gw rows C sm g k)).map aF),x7,x8]) ⟨none,none,by simp⟩ ?_ ?_
 ·rintro i d ρ hi ⟨x7,x8,rfl⟩;rw[P3]at hi;obtain⟨cs,G1,rfl⟩:=A56.mp hi;obtain⟨e1,e2⟩:=hL cs (A15 G1);have uS:cs.length<=6:=by have:=A22 List.length e1;rw[A03,A03]at this;lia
  have ht:=nR (xs:=cs) (by lia);rw[show D.tup (cs.map λ x=>bA x.1)=aP cs from rfl,show D.tup (cs.map λ x=>cb x.2)=aF cs from rfl,sk e1]at ht;have ho:=Dg H uS e2;have L8:i<L.length:=(A02.mp G1).1;have Iz:((L.take i).flatMap (gw rows C sm g k)).length<=(L.take i).length*((places rows C g).length+1):=ox λ x _=>rB;rw[A34,B11 (A80 L8)]at Iz;have SJ:i*((places rows C g).length+1)+((places rows C g).length+1)<=L.length*((places rows C g).length+1):=by rw[<-B38];exact B41 _ L8
  rw[take_snoc G1,List.flatMap_append];generalize (L.take i).flatMap (gw rows C sm g k)=fs at Iz;have Sn:=A70 (openAt cs g k) (places rows C g);have NW:(cg rows C cs g k).length<=(places rows C g).length:=Sn;have EL:(cg rows C cs g k).length<=16777216:=by lia
  have _W:fs.length+(cg rows C cs g k).length<=16777216:=by lia
  have ho4:fs.length+(cg rows C cs g k).length<16777216:=by lia
  simp[ht,Vp,ho,ba,cy,bV,line,EL];refine bE aU (λ _=>true) (λ p=>aF (cs.set k (g,some p))) (λ p hp=>?_) ?_
  ·simp[(nH uS e2 p).1]
  ·rw[pF];cases sm with
   |true=>simp[line,_W,ho4,gw]
   |false=>simp[line,_W,gw]
 ·rintro ρ ⟨x7,x8,rfl⟩;rw[A03,A59];simp
open KH
def bJ(rows:Rows)(C:Nat)(sm:Bool)(xs:γ GO):Nat->γ (γ GO)
 |0=>[xs]
 |j+1=>match xs[j]? with
  |some (g,none)=>(bJ rows C sm xs j).flatMap (gw rows C sm g j)
  |_=>bJ rows C sm xs j
section
variable {rows:Rows}{C:Nat}{sm:Bool}{xs:γ GO}
theorem cS{j:Nat}(h:xs[j]?=some (g,none)):bJ rows C sm xs (j+1)=(bJ rows C sm xs j).flatMap (gw rows C sm g j):=by simp only[bJ,h]
theorem fX{j:Nat}(h:xs[j]?=some (g,some p)):bJ rows C sm xs (j+1)=bJ rows C sm xs j:=by simp only[bJ,h]
theorem j4:∀{j},j<=xs.length->(bJ rows C sm xs j).length<=fO ((xs.take j).map (km rows C))
 |0,_=>by simp[bJ,fO]
 |j+1,hj=>by
  have ih:=j4 (j:=j) (by lia);obtain⟨⟨g,o⟩,e⟩:∃x,xs[j]?=some x:=⟨_,A01 (by lia)⟩
  rw[l_ e];cases o with
  |some p=>rw[fX e,show km rows C (g,some p)=1 from rfl,Nat.mul_one];exact ih
  |none=>rw[cS e];exact A16 (ox λ x _=>rB) (B41 _ ih)
structure H?(rows:Rows)(sm:Bool)(xs:List GO)(j:Nat)(z:List GO):Prop where
 gs:z.map (·.1)=xs.map (·.1)
 rest:∀i:Nat,j<=i->z[i]?=xs[i]?
 ext:Ext xs z
 good:Good rows z
 full:sm=false->∀(i:Nat)(g:G),i<j->z[i]?≠some (g,none)
theorem Jc{j:Nat}(e:xs[j]?=some (g,none))(h:H? rows sm xs j z)(hy:y∈gw rows C sm g j z):H? rows sm xs (j+1) y:=by
 have hz:=(h.rest j (o0 _)).trans e;have hl:=(A02.mp hz).1;rcases A25.mp hy with hy|hy
 ·obtain⟨p,hp,rfl⟩:=A08.mp hy;obtain⟨h1,h2⟩:=A43.mp hp;have gs:(z.set j (g,some p)).map (·.1)=xs.map (·.1):=by
   rw[<-h.gs];refine B65 λ i=>?_;rw[P3,P3,A38];split
   ·rename_i ei;subst ei;rw[hz];rfl
   ·rfl
  refine⟨gs,λ i hi=>?_,⟨gs.symm,λ i g' q ei=>?_⟩,h.good.put hz (KH.jT h1) h2,λ hs i g' hi=>?_⟩
  ·rw[A38,f8 (by lia)];exact h.rest i (by lia)
  ·have:=h.ext.sub i g' q ei;rw[A38];split
   ·rename_i ej;subst ej;rw[hz]at this;cases this
   ·exact this
  ·rw[A38];split
   ·rename_i ej;subst ej;intro q;cases q
   ·exact h.full hs i g' (by lia)
 ·cases sm with
  |false=>simp at hy
  |true=>
   have:y=z:=by simpa using hy
   subst this;exact⟨h.gs,λ i hi=>h.rest i (by lia),h.ext,h.good,λ hs=>nomatch hs⟩
theorem gA(hk:Good rows xs):∀{j},j<=xs.length->∀z∈bJ rows C sm xs j,H? rows sm xs j z
 |0,_,z,hz=>by
  have:z=xs:=by simpa[bJ]using hz
  subst this;exact⟨rfl,λ _ _=>rfl,⟨rfl,λ _ _ _ e=>e⟩,hk,λ _ i g hi=>absurd hi (Nat.not_lt_zero _)⟩
 |j+1,hj,z,hz=>by
  obtain⟨⟨g,o⟩,e⟩:∃x,xs[j]?=some x:=⟨_,A01 (by lia)⟩
  have ih:=gA hk (j:=j) (by lia);cases o with
  |some p=>
   rw[fX e]at hz;have h:=ih z hz;refine⟨h.gs,λ i hi=>h.rest i (by lia),h.ext,h.good,λ hs i g' hi=>?_⟩;by_cases D':i=j
   ·subst D';rw[h.rest i (o0 _),e];intro q;cases q
   ·exact h.full hs i g' (by lia)
  |none=>rw[cS e]at hz;obtain⟨y,hy,hzy⟩:=B13.mp hz;exact Jc e (ih y hy) hzy
theorem yc(H:Hall rows C)(hg:∀x∈xs,GOk x.1)(e:Ext xs z)(hz:Good rows z)(hs:sm=true\/∀(i:Nat) g,z[i]?≠some (g,none)):∀{j},j<=xs.length->z.take j++xs.drop j∈bJ rows C sm xs j
 |0,_=>by simp[bJ]
 |j+1,hj=>by
  have ih:=yc H hg e hz hs (j:=j) (by lia);have VC:=e.len;obtain⟨⟨g,o⟩,ex⟩:∃x,xs[j]?=some x:=⟨_,A01 (by lia)⟩
  obtain⟨o',ez,ho⟩:=e.at ex;have Sz:j<xs.length:=by lia
  have _Z:j<z.length:=by lia
  have d1:xs.drop j=(g,o)::xs.drop (j+1):=by rw[B25 Sz];rw[A01 Sz]at ex;rw[A04 ex]
  have t1:=take_snoc ez;have tl:(z.take j).length=j:=by rw[A34];lia
  cases o with
  |some p=>rw[ho p rfl]at t1;rw[fX ex,t1,A69];rw[d1]at ih;exact ih
  |none=>
   rw[cS ex];refine B13.mpr ⟨_,ih,?_⟩;rw[d1];cases o' with
   |none=>
    rcases hs with rfl|hs
    ·refine A39 _ ?_;rw[t1,A69];simp
    ·exact absurd ez (hs j g)
   |some p=>
    refine B15 _ (A08.mpr ⟨p,?_,?_⟩)
    ·obtain⟨f,ap⟩:=hz j g p ez;refine A43.mpr ⟨yX H (hg _ (A15 ex)) f,fY.mpr λ i g' q ei ne=>?_⟩;rw[<-d1]at ei;refine ap i g' q ?_ ne;by_cases hi:i<j
     ·rw[A44 (by rw[tl];exact hi),B76 hi]at ei;exact ei
     ·rw[A54 (by rw[tl];lia),List.getElem?_drop,tl,show j+(i-j)=i by lia]at ei;exact e.sub i g' q ei
    ·rw[t1,A69,List.set_append_right _ _ (by rw[tl];exact o0 _),tl,Nat.sub_self];rfl
theorem rH(H:Hall rows C)(hg:∀x∈xs,GOk x.1)(e:Ext xs z)(hz:Good rows z)(hs:sm=true\/∀(i:Nat) g,z[i]?≠some (g,none)):z∈bJ rows C sm xs xs.length:=by have:=yc H hg e hz hs (o0 _);rw[B84,A87,e.len,A59]at this;rw[e.len];exact this
theorem wz(H:Hall rows C)(h6:xs.length<=6)(hg:∀x∈xs,GOk x.1)(hk:Good rows xs)(hw:gR rows C xs<=2000):di [cm rows,aP xs,aF xs,.bl sm]=.ok (.lst ((bJ rows C sm xs xs.length).map aF)):=by
 rw[pE];refine aD ?_;have hl:b7 (aP xs)=.ok (.int xs.length):=by simp[aP]
 simp[iM,hl,line];refine dE (λ i ρ=>∃x5,ρ=[v (cm rows),v (aP xs),v (aF xs),v (.bl sm),v (.lst ((bJ rows C sm xs i).map aF)),x5]) ⟨none,rfl⟩ ?_ ?_
 ·rintro j d ρ hj ⟨x5,rfl⟩;obtain⟨Ca,rfl⟩:=ints_get hj;obtain⟨⟨g,o⟩,e⟩:∃x,xs[j]?=some x:=⟨_,A01 Ca⟩
  have ix:aI (aF xs) (.int (j))=.ok (cb o):=(c9 rfl (by rw[P3,e];rfl)).1;cases o with
  |some p=>have en:iS (aU p)=.ok (.bl false):=rfl;rw[fX e];simp[ix,cb,en]
  |none=>
   have hi:=gA (C:=C) (sm:=sm) hk (j:=j) (by lia);have ψ:=j4 (rows:=rows) (C:=C) (sm:=sm) (xs:=xs) (j:=j) (by lia);have h1:=um (rows:=rows) (C:=C) xs (j+1);rw[l_ e,show km rows C (g,none)=(places rows C g).length+1 from rfl]at h1;have hB:(bJ rows C sm xs j).length*((places rows C g).length+1)<=1000000:=by have:=B41 ((places rows C g).length+1) ψ;lia
   have om:=yl H h6 hg e sm (L:=bJ rows C sm xs j) (λ cs G1=>⟨(hi cs G1).gs,((hi cs G1).rest j (o0 _)).trans e⟩) hB;rw[cS e];simp[ix,cb,om]
 ·rintro ρ ⟨x5,rfl⟩;rw[jh];simp
def b0{α:Type}(mx:Bool)(w:α->Int)(b:α):γ α->α
 |[]=>b
 |x::r=>if Be mx (w x) (w b)=true then b0 mx w x r else b0 mx w b r
theorem nX{enc:α->D}:∀r b,(∀x∈r,e (enc x)=.ok (w x))->G8 mx e (enc b) (w b) (r.map enc)=.ok (enc (b0 mx w b r))
 |[],b,_=>rfl
 |x::r,b,h=>by
  have hx:=h x A12;have hr:=λ y hy=>h y (A09 _ hy);rw[A05];unfold G8 b0;rw[hx];simp only[Res.fW];split
  ·exact nX r x hr
  ·exact nX r b hr
theorem gZ{w:α->Int}:∀r b,b0 mx w b r=b\/b0 mx w b r∈r
 |[],b=>.inl rfl
 |x::r,b=>by
  unfold b0;split
  ·rcases gZ r x with h|h
   ·rw[h];exact .inr A12
   ·exact .inr (A09 _ h)
  ·rcases gZ r b with h|h
   ·exact .inl h
   ·exact .inr (A09 _ h)
theorem mh{w:α->Int}:∀r b,w b<=w (b0 true w b r)/\∀x∈r,w x<=w (b0 true w b r)
 |[],b=>⟨Int.le_refl _,λ x h=>by cases h⟩
 |x::r,b=>by
  unfold b0;by_cases hb:Be true (w x) (w b)=true
  ·rw[M2 hb];obtain⟨h1,h2⟩:=mh (w:=w) r x;have:w b<w x:=by simpa[Be]using hb
   exact⟨by lia,λ y hy=>by
    rcases v6.mp hy with rfl|hy
    ·exact h1
    ·exact h2 y hy⟩
  ·rw[f8 hb];obtain⟨h1,h2⟩:=mh (w:=w) r b;have:w x<=w b:=by simpa[Be]using hb
   exact⟨h1,λ y hy=>by
    rcases v6.mp hy with rfl|hy
    ·lia
    ·exact h2 y hy⟩
def wS(z:γ GO):Int:=(z.map wO).sum
theorem Ob{z:γ GO}(hg:∀x∈xs,GrpG x.1)(h:z.map (·.1)=xs.map (·.1)):∀x∈z,GrpG x.1:=λ x hx=>by
 have:x.1∈xs.map (·.1):=by rw[<-h];exact A08.mpr ⟨x,hx,rfl⟩
 obtain⟨y,hy,e⟩:=A08.mp this;rw[<-e];exact hg y hy
theorem jU{z:γ GO}(h:z.map (·.1)=xs.map (·.1)):z.length=xs.length:=by have:=A22 List.length h;rwa [A03,A03]at this
theorem qY(h6:xs.length<=6)(hg:∀x∈xs,GrpG x.1)(h:z.map (·.1)=xs.map (·.1)):dQ [aP xs,aF z]=.ok (.int (wS z)):=by have:=xx (by rw[jU h];exact h6) (Ob hg h);rw[show D.tup _=aP z from rfl,sk h]at this;exact this
theorem zE(h6:xs.length<=6)(hg:∀x∈xs,GrpG x.1)(hL:∀z∈b::r,z.map (·.1)=xs.map (·.1)):eP [aP xs,.lst ((b::r).map aF)]=.ok (aF (b0 true wS b r)):=by
 rw[mN];refine aD ?_;have ke:∀z∈b::r,t7 (aw dQ (aa (eV 1) (aa (eV 0) av))) [v (aP xs)] (aF z)=.ok (wS z):=λ z hz=>by refine Gy ?_;simp[qY h6 hg (hL z hz)]
 have pk:=nX (mx:=true) r b λ z hz=>ke z (A09 _ hz);have kb:=ke b A12;have e:wQ true (.ok .non) (eW 1) [0] (aw dQ (aa (eV 1) (aa (eV 0) av))) [v (aP xs),v (.lst ((b::r).map aF))]=.ok (aF (b0 true wS b r)):=by show pickK true (.ok .non) (t7 _ [v _]) (aF b::r.map aF)=_;unfold pickK;dsimp only;rw[kb];exact pk
 simp only[A05]at e;simp[gO,e]
theorem EH:eP [aP xs,.lst []]=.ok .non:=by rw[mN];refine aD ?_;have e:wQ true _ (eW 1) [0] (aw dQ (aa (eV 1) (aa (eV 0) av))) [v (aP xs),v (.lst [])]=.ok .non:=rfl;simp[gO,e]
end
open KH
def gc(rows:Rows)(C:Nat)(gs:γ G):Nat:=fO (gs.map λ g=>(places rows C g).length+1)
theorem yf{α:Type}{f h:α->Nat}:∀{l:γ α},(∀x∈l,f x<=h x)->fO (l.map f)<=fO (l.map h)
 |[],_=>o0 _
 |x::l,k=>A61 (k x A12) (yf λ y hy=>k y (A09 _ hy))
theorem Bw(h:xs.map (·.1)=gs):gR rows C xs<=gc rows C gs:=by
 unfold gR gc;rw[<-h,A14];refine yf λ x _=>?_;unfold km;split
 ·exact o0 _
 ·exact Nat.succ_le_succ (A51 _)
open KH
open KH
open KH
def ltO:ε Pl->ε Pl->Prop
 |some p,some q=>ltP p q
 |some _,none=>True
 |_,_=>False
def ltS(a b:γ GO):Prop:=∃(i:Nat)(g:G)(o o':ε Pl),(∀j,j<i->a[j]?=b[j]?)/\a[i]?=some (g,o)/\b[i]?=some (g,o')/\ltO o o'
section
variable {C:Nat}{sm:Bool}
end
open Classical in
def Full(z:γ GO):Prop:=∀(i:Nat)(g:G),z[i]?≠some (g,none)
theorem Th(p q:Pl):fS 5 (aU p) (aU q)=some (decide (p=q)):=by obtain⟨a,b⟩:=p;obtain⟨c,d⟩:=q;show allEq _ [.int a,.int b] [.int c,.int d]=_;simp only[allEq,fS,EO];by_cases h1:a=c<;>by_cases h2:b=d<;>simp[h1,h2]
open KH
theorem mV(w:α->Int):∀r b,∃t,(b::r).filter (λ z=>decide (w z=w (b0 true w b r)))=b0 true w b r::t
 |[],b=>⟨[],by simp[b0]⟩
 |x::r,b=>by
  unfold b0;by_cases hb:Be true (w x) (w b)=true
  ·rw[M2 hb];obtain⟨t,e⟩:=mV w r x;have h1:=(mh (w:=w) r x).1;have lN:w b<w x:=by simpa[Be]using hb
   have:¬w b=w (b0 true w x r):=by lia
   exact⟨t,by rw[A62 (by simpa using this)];exact e⟩
  ·rw[f8 hb];obtain⟨t,e⟩:=mV w r b;have h1:=(mh (w:=w) r b).1;have hle:w x<=w b:=by simpa[Be]using hb
   by_cases he:w b=w (b0 true w b r)
   ·rw[A90 (by simpa using he)]at e ⊢;injection e with e1 e2
    exact⟨_,by rw[<-e1]⟩
   ·rw[A62 (by simpa using he)]at e;have hx:¬w x=w (b0 true w b r):=by lia
    exact⟨t,by rw[A62 (by simpa using he),A62 (by simpa using hx)];exact e⟩
theorem EI(H:Hall rows C)(h6:xs.length<=6)(hg:∀x∈xs,GrpG x.1)(hk:Good rows xs)(hw:gR rows C xs<=2000)(ef:a7 [cm rows,aP xs,fd]=.ok (aF xs)):
  gJ [cm rows,aP xs,fd]=.ok (match bJ rows C false xs xs.length with|[]=>.non|b::r=>aF (b0 true wS b r)):=by
 have xo:=λ x hx=>(hg x hx).toGOk;have hi:=gA (C:=C) (sm:=false) hk (o0 _);have fr:=wz (sm:=false) H h6 xo hk hw;have sm:=rC H h6 xo ef hw;rw[sx];refine aD ?_;cases e:bJ rows C false xs _ with
 |nil=>rw[e]at fr;simp only[A73]at fr;simp[iB,sm,fr,EH]
 |cons b r=>rw[e]at hi fr;have am:=zE h6 hg λ z hz=>(hi z hz).gs;simp only[A05]at am fr;simp[iB,sm,fr,am]
structure adL(rows:Rows)(C:Nat)(xs m:List GO):Prop where
 ext:Ext xs m
 good:Good rows m
 full:Full m
 most:∀z,Ext xs z->Good rows z->Full z->wS z<=wS m/\(wS z=wS m->z=m\/ltS m z)
end KB
set_option maxRecDepth 4000
noncomputable section
namespace KC
open Z KG KH KB
def gb:SF:=(aR (lV (eU (fJ .int) (eW 0)) (Hn (eU (fJ .bool) (eW 0)))))
def eA:γ D->Res D:=fn 1 1 gb
theorem lU(x0:D):eA [x0]=br (gb [some (.val x0)]):=bL _ _ _ _ rfl
def bH:SF:=(aR (lV (aw eA (aa (eV 0) av)) (hU oLe oLe (eW 1) (eW 0) (eW 2))))
def a6:γ D->Res D:=fn 3 3 bH
theorem f'(x0 x1 x2:D):a6 [x0,x1,x2]=br (bH [some (.val x0),some (.val x1),some (.val x2)]):=bL _ _ _ _ rfl
def gM:SF:=(ay (aO 3 (aw KB.di (aa (eV 0) (aa (eV 1) (aa (aw KB.d7 (aa (eV 0) (aa (eV 1) (aa (eV 2) av)))) (aa (eC (.bl false)) av)))))) (aR (Tt (tE (eB BV (eU b7 (eW 3)) (eC (.int 0)))) (eB aI (eW 3) (eC (.int 0))) (eC .non))))
def eJ:γ D->Res D:=fn 3 4 gM
theorem qA(x0 x1 x2:D):eJ [x0,x1,x2]=br (gM [some (.val x0),some (.val x1),some (.val x2),none]):=bL _ _ _ _ rfl
def k9:SF:=(aR (eL (bK (dh (eW 1)) 1 [0] (aJ 0) bD (aw KG.fD (aa (eV 1) (aa (eV 0) av))))))
def fR:γ D->Res D:=fn 2 2 k9
theorem ug(x0 x1:D):fR [x0,x1]=br (k9 [some (.val x0),some (.val x1)]):=bL _ _ _ _ rfl
def ny:SF:=(aR (aw KH.eN (aa (eB aI (eW 1) (eW 3)) (aa (eB aI (eW 0) (eW 3)) (aa (aw KG.cj (aa (eV 0) (aa (eV 2) av))) av)))))
def cJ:γ D->Res D:=fn 4 4 ny
theorem y!(x0 x1 x2 x3:D):cJ [x0,x1,x2,x3]=br (ny [some (.val x0),some (.val x1),some (.val x2),some (.val x3)]):=bL _ _ _ _ rfl
def fI:SF:=(aR (lV (aw a6 (aa (eV 1) (aa (eC (.int 0)) (aa (eB tY (eU b7 (eW 0)) (eC (.int 1))) av)))) (eU iS (eB aI (eW 0) (eW 1)))))
def ir:γ D->Res D:=fn 2 2 fI
theorem ud(x0 x1:D):ir [x0,x1]=br (fI [some (.val x0),some (.val x1)]):=bL _ _ _ _ rfl
def dZ:SF:=(ay (d! (qp (dM (tE (eU (fJ .tuple) (eW 0)))) (tE (eB jY (eU b7 (eW 0)) (eW 2)))) (aR (eC (.bl false))) aT) (aR (lV (eU (fJ .str) (eB aI (eW 0) (eC (.int 0)))) (eB oEq (eB aI (eW 0) (eC (.int 0))) (eW 1)))))
def du:γ D->Res D:=fn 3 3 dZ
theorem sA(x0 x1 x2:D):du [x0,x1,x2]=br (dZ [some (.val x0),some (.val x1),some (.val x2)]):=bL _ _ _ _ rfl
def j_:SF:=(aR (lV (aw du (aa (eV 0) (aa (eC (.str [101,97,99,104])) (aa (eC (.int 3)) av)))) (eU (fJ .tuple) (eB aI (eW 0) (eC (.int 2))))))
def jo:γ D->Res D:=fn 1 1 j_
theorem A6(x0:D):jo [x0]=br (j_ [some (.val x0)]):=bL _ _ _ _ rfl
def bc(self:γ D->Res D):SF:=(ay (d! (tO (dM (tE (aw du (aa (eV 3) (aa (eC (.str [115,116,117,99,107])) (aa (eC (.int 2)) av)))))) (dM (tE (aw jo (aa (eV 3) av))))) (aR (eC (.bl false))) aT) (ay (d! (dM (tE (aw ir (aa (eV 2) (aa (eB aI (eW 3) (eC (.int 1))) av))))) (aR (eC (.bl false))) aT) (ay (aO 4 (eB aI (eW 3) (eC (.int 1)))) (ay (aO 5 (aw cJ (aa (eV 0) (aa (eV 1) (aa (eV 2) (aa (eV 4) av)))))) (ay (aO 6 (Tt (tE (aw jo (aa (eV 3) av))) (eB aI (eW 3) (eC (.int 2))) (dF av))) (ay (d! (tE (eB jY (eU b7 (eW 6)) (eU b7 (eW 5)))) (aR (eC (.bl false))) aT) (ay (eZ (AN (eV 5) (eV 6)) (fB [7,8]) (d! (dM (tE (aw self (aa (eV 0) (aa (eV 1) (aa (aw KH.c! (aa (eV 2) (aa (eV 4) (aa (eV 7) av)))) (aa (eV 8) av))))))) (aR (eC (.bl false))) aT)) (aR (eC (.bl true))))))))))
def ck:Nat->γ D->Res D
 |0=>λ _=>.bad
 |k+1=>fn 4 9 (bc (ck k))
theorem oA(k:Nat)(x0 x1 x2 x3:D):ck (k+1) [x0,x1,x2,x3]=br (bc (ck k) [some (.val x0),some (.val x1),some (.val x2),some (.val x3),none,none,none,none,none]):=bL _ _ _ _ rfl
def pO:SF:=(ay (aO 4 (aw KB.a7 (aa (eV 0) (aa (eV 1) (aa (eV 3) av))))) (aR (aw (ck 9) (aa (eV 1) (aa (aw fR (aa (eV 0) (aa (eV 1) av))) (aa (eV 4) (aa (eV 2) av)))))))
def kH:γ D->Res D:=fn 4 5 pO
theorem A0(x0 x1 x2 x3:D):kH [x0,x1,x2,x3]=br (pO [some (.val x0),some (.val x1),some (.val x2),some (.val x3),none]):=bL _ _ _ _ rfl
def fu(self:γ D->Res D):SF:=(ay (aO 3 (eL (bK (dP (eU b7 (eW 0))) 1 [2] (aJ 0) (tE (eU iS (eB aI (eW 1) (eW 0)))) (eV 0)))) (ay (aO 4 (wQ false .bad (eW 3) [0,1,2] (eU b7 (aw cJ (aa (eV 1) (aa (eV 2) (aa (eV 3) (aa (eV 0) av)))))))) (ay (aO 5 (aw cJ (aa (eV 0) (aa (eV 1) (aa (eV 2) (aa (eV 4) av)))))) (ay (d! (tE (eB oEq (eW 5) (dF av))) (aR (dF (aa (eC (.str [115,116,117,99,107])) (aa (eV 4) av)))) aT) (ay (aO 6 (eL (bK (dh (eW 5)) 1 [0,1,2,4] (aJ 0) bD (aw self (aa (eV 1) (aa (eV 2) (aa (aw KH.c! (aa (eV 3) (aa (eV 4) (aa (eV 0) av)))) av))))))) (aR (dF (aa (eC (.str [101,97,99,104])) (aa (eV 4) (aa (eU dX (eW 6)) av))))))))))
def bM:Nat->γ D->Res D
 |0=>λ _=>.bad
 |k+1=>fn 3 7 (fu (bM k))
theorem ll(k:Nat)(x0 x1 x2:D):bM (k+1) [x0,x1,x2]=br (fu (bM k) [some (.val x0),some (.val x1),some (.val x2),none,none,none,none]):=bL _ _ _ _ rfl
def kX:SF:=(ay (d! (tE (eU d6 (aw eJ (aa (eV 0) (aa (eV 1) (aa (eV 2) av)))))) (aR (eC .non)) aT) (aR (aw (bM 9) (aa (eV 1) (aa (aw fR (aa (eV 0) (aa (eV 1) av))) (aa (aw KB.a7 (aa (eV 0) (aa (eV 1) (aa (eV 2) av)))) av))))))
def iE:γ D->Res D:=fn 3 3 kX
theorem p?(x0 x1 x2:D):iE [x0,x1,x2]=br (kX [some (.val x0),some (.val x1),some (.val x2)]):=bL _ _ _ _ rfl
end KC
end
set_option maxRecDepth 8000
namespace KC
open Z KG KB
open KH
def jP:γ Nat:=[115,116,117,99,107]
def qb:γ Nat:=[101,97,99,104]
def isStr(d:D)(w:γ Nat):Bool:=match d with
 |.str t=>t==w
 |_=>false
def i_(xs:γ GO)(d:D):Bool:=match d with
 | .int i=>decide (0<=i)&&(decide (i<xs.length)&&match xs[i.toNat]? with
  |some (_,none)=>true
  | _=>false)
 |_=>false
theorem xB(h:i_ xs d=true):∃k g,d=.int (k:Nat)/\xs[k]?=some (g,none):=by
 cases d with
 |int i=>
  simp only[i_,A40]at h;obtain⟨h0,h1,h2⟩:=h;refine⟨i.toNat,?_⟩;split at h2
  ·rename_i g e;exact⟨g,by congr 1;lia,e⟩
  ·cases h2
 |_=>cases h
theorem EY{xs:γ GO}{k:Nat}(h:xs[k]?=some (g,none)):i_ xs (.int (k))=true:=by
 have hl:=(A02.mp h).1;have qx:(k)<xs.length:=by lia
 simp only[i_,A85,h];simp[qx]
theorem mZ(d:D):eA [d]=.ok (.bl (match d with|.int _=>true|_=>false)):=by rw[lU];refine aD ?_;cases d<;>simp[gb,cW]
theorem l?(d:D)(a b:Int):a6 [d,.int a,.int b]=.ok (.bl (match d with|.int i=>decide (a<=i)&&decide (i<=b)|_=>false)):=by
 rw[f'];refine aD ?_;cases d with
 |int i=>
  by_cases h:a<=i
  ·simp[bH,mZ,h]
  ·simp[bH,mZ,h]
 |_=>simp[bH,mZ]
theorem kn{xs:γ GO}(d:D):ir [aF xs,d]=.ok (.bl (i_ xs d)):=by
 rw[ud];refine aD ?_;have hl:b7 (aF xs)=.ok (.int xs.length):=by simp[aF]
 cases d with
 |int i=>
  by_cases h0:0<=i
  ·by_cases h1:i<xs.length
   ·have KU:i<=(xs.length:Int)-1:=by lia
    have hk:i.toNat<xs.length:=by lia
    have ix:aI (aF xs) (.int i)=.ok (cb (xs[i.toNat]).2):=(c9 (xs:=xs.map λ y:GO=>cb y.2) (i:=i) (j:=i.toNat) (by lia) (by rw[P3,A01 hk];rfl)).1;have e:i_ xs (.int i)=(xs[i.toNat]).2.isNone:=by simp only[i_,h0,h1,decide_true,B23,A01 hk];generalize xs[i.toNat]=y;obtain⟨g,o⟩:=y;cases o<;>rfl
    rw[e];simp[fI,hl,l?,h0,KU,ix]
   ·have KU:¬i<=(xs.length:Int)-1:=by lia
    simp[fI,hl,l?,h0,KU,h1,i_]
  ·simp[fI,hl,l?,h0,i_]
 |_=>simp[fI,hl,l?,i_]
def pL(d:D)(w:γ Nat)(n:Nat):Bool:=match d with
 |.tup (a::r)=>(r.length+1==n)&&isStr a w
 |_=>false
theorem vc(d:D)(w:γ Nat)(hn:1<=n):du [d,.str w,.int (n:Nat)]=.ok (.bl (pL d w n)):=by
 rw[sA];refine aD ?_;cases d with
 |tup xs=>
  cases xs with
  |nil=>
   have:¬(0)=(n:Int):=by lia
   simp[dZ,cW,pL,this]
  |cons a r=>
   have i0:=(c9 (xs:=a::r) (i:=0) rfl rfl).1;by_cases h:r.length+1=n
   ·have h':(r.length)+1=(n):=by lia
    cases a with
    |str t=>simp[dZ,cW,pL,h',h,i0,isStr]
    |_=>simp[dZ,cW,pL,h',h,i0,isStr]
   ·have h':¬(r.length)+1=(n:Int):=by lia
    simp[dZ,cW,pL,h',h]
 |_=>simp[dZ,cW,pL]
def oE(d:D):Bool:=match d with
 |.tup [a,_,.tup _]=>isStr a qb
 |_=>false
theorem K5(d:D):jo [d]=.ok (.bl (oE d)):=by
 rw[A6];refine aD ?_;have bo:=vc d qb (n:=3) (by decide);have TV:du [d,.str [101,97,99,104],.int 3]=.ok _:=bo;cases hb:pL d qb 3 with
 |false=>
  rw[hb]at TV;have:oE d=false:=by
   unfold oE;split
   ·rename_i a _ _;have AU:(((2)+1==3)&&isStr a qb)=false:=hb;simpa using AU
   ·rfl
  simp[j_,TV,this]
 |true=>
  rw[hb]at TV;unfold pL at hb;split at hb
  ·rename_i a r;simp only[A40,A74]at hb
   match r,hb with
   |[b,c],⟨_,hs⟩=>
    have i2:aI (.tup [a,b,c]) (.int 2)=.ok c:=rfl;cases c with
    |tup ps=>simp[j_,TV,i2,cW,oE,hs]
    |_=>simp[j_,TV,i2,cW,oE]
  ·cases hb
def i?(f:Pl->D->Bool):γ Pl->γ D->Bool
 |p::ps,d::ds=>f p d&&i? f ps ds
 |_,_=>true
def fP(rows:Rows)(C:Nat):Nat->γ GO->D->Bool
 |0,_,_=>false
 |n+1,xs,d=>match d with
  | .tup [a,.int i]=>isStr a jP&&(i_ xs (.int i)&&match xs[i.toNat]? with
   |some (g,_)=>(cg rows C xs g i.toNat).isEmpty
   | none=>false)
  | .tup [a,.int i,.tup ps]=>isStr a qb&&(i_ xs (.int i)&&match xs[i.toNat]? with
   |some (g,_)=>(ps.length==(cg rows C xs g i.toNat).length)&&i? (λ p e=>fP rows C n (xs.set i.toNat (g,some p)) e) (cg rows C xs g i.toNat) ps
   | none=>false)
  |_=>false
def cG(rows:Rows)(C:Nat)(xs:γ GO):D:=.lst (xs.map λ x=>.tup ((places rows C x.1).map aU))
theorem nU{rows:Rows}{C:Nat}(H:Hall rows C){xs:γ GO}(h6:xs.length<=6){k:Nat}{g:G}(hk:xs[k]?=some (g,none)):cJ [aP xs,cG rows C xs,aF xs,.int (k:Nat)]=.ok (.tup ((cg rows C xs g k).map aU)):=by
 rw[y!];refine aD ?_;have hl:k<xs.length:=(A02.mp hk).1;have i1:aI (cG rows C xs) (.int (k:Nat))=.ok (.tup ((places rows C g).map aU)):=(c9 (xs:=xs.map λ y:GO=>D.tup ((places rows C y.1).map aU)) (i:=(k:Nat)) (j:=k) rfl (by rw[P3,hk];rfl)).2;have i2:aI (aP xs) (.int (k:Nat))=.ok (bA g):=(c9 (xs:=xs.map λ y:GO=>bA y.1) (i:=(k:Nat)) (j:=k) rfl (by rw[P3,hk];rfl)).1;have ht:=nR (xs:=xs) (by lia);rw[show D.tup (xs.map λ x=>bA x.1)=aP xs from rfl,show D.tup (xs.map λ x=>cb x.2)=aF xs from rfl]at ht;have L4:=me xs;have ho:=mG (places rows C g) g (ss:=mz xs) (places_len H g) (by lia);have GU:xs.set k (g,none)=xs:=by have:xs[k]=(g,none):=(A02.mp hk).2;rw[<-this];exact C48 hl
 have he:(places rows C g).filter (λ p=>(mz xs).all λ x=>b? g p x.1 x.2)=cg rows C xs g k:=by unfold cg;refine C22 λ p _=>?_;have:=yb (g:=g) hk p;simp only at this;rw[GU]at this;exact this
 rw[he]at ho;simp[ny,i1,i2,ht,ho]
def nN(xs:γ GO):Nat:=xs.countP λ x=>x.2.isNone
theorem AA:∀{xs:γ GO}{k:Nat} {g} p,xs[k]?=some (g,none)->nN (xs.set k (g,some p))+1=nN xs
 |[],_,_,_,h=>by simp at h
 |(h,o)::xs,0,g,p,e=>by simp at e;obtain⟨rfl,rfl⟩:=e;simp[nN]
 |(h,o)::xs,k+1,g,p,e=>by have:=AA p (by simpa using e);simp only[nN,B62,B29]at this ⊢;lia
theorem II(ps:γ Pl)(ds:γ D):∀{j:Nat}{d},(e! (ps.map aU) ds)[j]?=some d->∃p e,ps[j]?=some p/\ds[j]?=some e/\d=.tup [aU p,e]:=by
 induction ps generalizing ds with
 |nil=>intro j d h;cases ds<;>simp[e!]at h
 |cons p ps ih=>
  intro j d h;cases ds with
  |nil=>simp[e!]at h
  |cons e ds=>
   cases j with
   |zero=>simp[e!]at h;exact⟨p,e,rfl,rfl,h.symm⟩
   |succ j=>
    have h':(e! (ps.map aU) ds)[j]?=some d:=by simpa[e!]using h
    obtain⟨p',e',h1,h2,h3⟩:=ih ds h';exact⟨p',e',by simpa using h1,by simpa using h2,h3⟩
theorem nG:∀{ps}{ds}{j:Nat} {p} {e},ps[j]?=some p->ds[j]?=some e->f p e=false->i? f ps ds=false
 |[],_,_,_,_,h,_,_=>by simp at h
 |_::_,[],_,_,_,_,h,_=>by simp at h
 |p::ps,d::ds,0,_,_,h1,h2,h3=>by simp at h1 h2;subst h1;subst h2;simp[i?,h3]
 |p::ps,d::ds,j+1,_,_,h1,h2,h3=>by have:=nG (by simpa using h1) (by simpa using h2) h3;simp[i?,this]
theorem ly:∀{ps}{ds},(∀(j:Nat) p e,ps[j]?=some p->ds[j]?=some e->f p e=true)->i? f ps ds=true
 |[],ds,_=>by cases ds<;>rfl
 |p::ps,[],_=>rfl
 |p::ps,d::ds,h=>by simp only[i?,h 0 p d rfl rfl];exact ly λ j p' e' h1 h2=>h (j+1) p' e' (by simpa using h1) (by simpa using h2)
theorem xt(as bs:γ D):(e! as bs).length=min as.length bs.length:=by
 induction as generalizing bs with
 |nil=>cases bs<;>simp[e!]
 |cons a as ih=>cases bs with
  |nil=>simp[e!]
  |cons b bs=>simp[e!,ih]
theorem IH{I:Env->Prop}(hI:I ρ)
  (hs:∀ ρ p e,I ρ->(∃ n:Nat,ps[n]?=some p/\ds[n]?=some e)->Ok (b ((ρ.set i (v (aU p))).set j (v e))) λ fl=>(f p e=true->∃ ρ',fl=.nx ρ'/\I ρ')/\(f p e=false->fl=.rt (.bl false)))
   (hf:i? f ps ds=false->Q (.rt (.bl false))) (ht:i? f ps ds=true->∀ρ,I ρ->Q (.nx ρ)):Ok (iP (fB [i,j]) b (e! (ps.map aU) ds) ρ) Q:=by
 refine dE (λ n ρ=>I ρ/\∀m p e,m<n->ps[m]?=some p->ds[m]?=some e->f p e=true) ⟨hI,λ m p e h=>absurd h (Nat.not_lt_zero _)⟩ ?_ ?_
 ·rintro n d ρ hn ⟨hI,hold⟩;obtain⟨p,e,h1,h2,rfl⟩:=II ps ds hn;rw[S6];simp only[zG];refine(hs ρ p e hI ⟨n,h1,h2⟩).imp λ fl ⟨k1,k2⟩=>?_;cases VM:f p e with
  |true=>
   obtain⟨ρ',rfl,hI'⟩:=k1 VM;refine⟨hI',λ m p' e' hm KU Eb=>?_⟩;by_cases h:m<n
   ·exact hold m p' e' h KU Eb
   ·have:m=n:=by lia
    subst this;rw[h1]at KU;cases KU;rw[h2]at Eb;cases Eb;exact VM
  |false=>rw[k2 VM];exact hf (nG h1 h2 VM)
 ·rintro ρ ⟨hI,hold⟩;refine ht (ly λ m p e h1 h2=>hold m p e ?_ h1 h2) ρ hI;rw[xt,A03];have a:=(A02.mp h1).1;have b:=(A02.mp h2).1;lia
def zF:Nat->D->Prop
 |0,_=>True
 |n+1,d=>(∃xs,d=.lst xs)\/(∃w,d=.tup [.str w])\/(∃w b,d=.tup [.str w,b])\/∃w b c,d=.tup [.str w,b,c]/\∀ps,c=.tup ps->ps.length<=100000/\∀p∈ps,zF n p
theorem pY(h:xs[k]?=some x)(o:ε Pl):cG rows C (xs.set k (x.1,o))=cG rows C xs:=by
 have e:=(A02.mp h).2;unfold cG;rw[B63]
 congr 1
 refine B39 (by simp) λ i h1 h2=>?_;rw[List.getElem_set];split
 ·rename_i q;subst q;simp[e]
 ·rfl
theorem uD(h:i_ xs b=false):fP rows C (n+1) xs (.tup [.str w,b])=false/\∀c,fP rows C (n+1) xs (.tup [.str w,b,c])=false:=by
 cases b with
 |int i=>refine⟨by simp[fP,h],λ c=>?_⟩;cases c<;>simp[fP,h]
 |_=>exact⟨by simp[fP],λ c=>by cases c<;>simp[fP]⟩
theorem Ka (H:Hall rows C):∀ n xs d,xs.length<=6->nN xs<n->zF n d ->
  ck n [aP xs,cG rows C xs,aF xs,d]=.ok (.bl (fP rows C n xs d)):=by
 intro n
 induction n with
 |zero=>intro xs d _ h;lia
 |succ n ih=>
  intro xs d h6 hn hp;rw[oA];refine aD ?_;have bs:=vc d jP (n:=2) (by decide);have tw:du [d,.str [115,116,117,99,107],.int 2]=.ok (.bl (pL d jP 2)):=bs;have be:=K5 d;rcases hp with⟨zs,rfl⟩|⟨w,rfl⟩|⟨w,b,rfl⟩|⟨w,b,c,rfl,hc⟩
  ·have e1:pL (.lst zs) jP 2=false:=rfl;have e2:oE (.lst zs)=false:=rfl;rw[e1]at tw;rw[e2]at be;simp[bc,tw,be,fP]
  ·have e1:pL (.tup [.str w]) jP 2=false:=rfl;have e2:oE (.tup [.str w])=false:=rfl;rw[e1]at tw;rw[e2]at be;simp[bc,tw,be,fP]
  ·have e1:pL (.tup [.str w,b]) jP 2=(w==jP):=rfl;have e2:oE (.tup [.str w,b])=false:=rfl;have i1:aI (.tup [.str w,b]) (.int 1)=.ok b:=rfl;rw[e1]at tw;rw[e2]at be;cases hw:(w==jP)with
   |false=>
    rw[hw]at tw;have:fP rows C (n+1) xs (.tup [.str w,b])=false:=by
     cases b with
     |int i=>simp[fP,isStr,hw]
     |_=>simp[fP]
    simp[bc,tw,be,this]
   |true=>
    rw[hw]at tw;cases GR:i_ xs b with
    |false=>have wo:=kn (xs:=xs) b;rw[GR]at wo;simp[bc,tw,be,i1,wo,(uD (rows:=rows) (C:=C) (n:=n) (w:=w) GR).1]
    |true=>
     have wo:=kn (xs:=xs) b;rw[GR]at wo;obtain⟨k,g,rfl,hk⟩:=xB GR;have so:=nU H h6 hk;have Yi:fP rows C (n+1) xs (.tup [.str w,.int (k:Nat)])=(cg rows C xs g k).isEmpty:=by simp[fP,isStr,hw,GR,hk]
     rw[Yi];cases ho:cg rows C xs g k with
     |nil=>rw[ho]at so;simp[bc,tw,be,i1,wo,so,line,e!,iP]
     |cons p0 ps=>
      rw[ho]at so;have:¬(0:Int)=(ps.length:Int)+1:=by lia
      simp[bc,tw,be,i1,wo,so,line,this]
  ·have e1:pL (.tup [.str w,b,c]) jP 2=false:=rfl;have i1:aI (.tup [.str w,b,c]) (.int 1)=.ok b:=rfl;have i2:aI (.tup [.str w,b,c]) (.int 2)=.ok c:=rfl;rw[e1]at tw;cases he:oE (.tup [.str w,b,c])with
   |false=>
    rw[he]at be;have:fP rows C (n+1) xs (.tup [.str w,b,c])=false:=by
     cases c with
     |tup ps=>
      have hw:(w==qb)=false:=he;cases b with
      |int i=>simp[fP,isStr,hw]
      |_=>simp[fP]
     |_=>cases b<;>simp[fP]
    simp[bc,tw,be,this]
   |true=>
    rw[he]at be;obtain⟨ps,rfl⟩:∃ps,c=.tup ps:=by
     cases c with
     |tup ps=>exact⟨ps,rfl⟩
     |_=>cases he
    have hw:(w==qb)=true:=he;cases GR:i_ xs b with
    |false=>have wo:=kn (xs:=xs) b;rw[GR]at wo;simp[bc,tw,be,i1,wo,(uD (rows:=rows) (C:=C) (n:=n) (w:=w) GR).2 (.tup ps)]
    |true=>
     have wo:=kn (xs:=xs) b;rw[GR]at wo;obtain⟨k,g,rfl,hk⟩:=xB GR;have so:=nU H h6 hk;have Yi:fP rows C (n+1) xs (.tup [.str w,.int (k:Nat),.tup ps])=((ps.length==(cg rows C xs g k).length)&&i? (λ p e=>fP rows C n (xs.set k (g,some p)) e) (cg rows C xs g k) ps):=by simp[fP,isStr,hw,GR,hk]
     rw[Yi];have Sn:=uE H xs g k;generalize cg rows C xs g k=op at so Sn;by_cases ψ:ps.length=op.length
     ·have GY:(ps.length:Int)=(op.length:Int):=by lia
      simp[bc,tw,be,i1,i2,wo,so,line,GY,ψ];refine IH (f:=λ p e=>fP rows C n (xs.set k (g,some p)) e) (I:=λ ρ=>∃x7 x8,ρ=[v (aP xs),v (cG rows C xs),v (aF xs),v (.tup [.str w,.int (k:Nat),.tup ps]),vi (k:Nat),v (.tup (op.map aU)),v (.tup ps),x7,x8]) ⟨none,none,rfl⟩ ?_ ?_ ?_
      ·rintro ρ p e ⟨x7,x8,rfl⟩ ⟨m,_Y,PC⟩;have PJ:zF n e:=(hc ps rfl).2 e (A15 PC);have Yn:=AA p hk;have:=ih (xs.set k (g,some p)) e (by rw[BG];exact h6) (by lia) PJ;rw[show aP (xs.set k (g,some p))=aP xs from u4 hk (some p),show cG rows C (xs.set k (g,some p))=cG rows C xs from pY hk (some p)]at this;cases _V:fP rows C n (xs.set k (g,some p)) e with
       |true=>rw[_V]at this;simp[(nH h6 hk p).1,this]
       |false=>rw[_V]at this;simp[(nH h6 hk p).1,this]
      ·intro h;simp[h]
      ·rintro h ρ ⟨x7,x8,rfl⟩;simp[h]
     ·have GY:¬(ps.length:Int)=(op.length:Int):=by lia
      simp[bc,tw,be,i1,i2,wo,so,line,GY,ψ]
theorem mQ(H:Hall rows C)(h6:xs.length<=6)(hg:∀x∈xs,GOk x.1):fR [cm rows,aP xs]=.ok (cG rows C xs):=by
 rw[ug];refine aD ?_;have hl:xs.length<=16777216:=by lia
 unfold aP;simp[k9,ba,cy,bV,hl];refine bE (λ x:GO=>bA x.1) (λ _=>true) (λ x=>.tup ((places rows C x.1).map aU)) ?_ ?_
 ·intro x hx;simp[places_of_ok H (hg x hx)]
 ·rw[pF];rfl
section
theorem yY(H:Hall rows C)(h6:xs.length<=6)(hg:∀x∈xs,GOk x.1)(hk:Good rows xs)(hw:gR rows C xs<=2000)(ef:a7 [cm rows,aP xs,fd]=.ok (aF xs)):
  eJ [cm rows,aP xs,fd]=.ok (match bJ rows C false xs xs.length with|[]=>.non|z::_=>aF z):=by
 have fr:=wz (sm:=false) H h6 hg hk hw;have sm:=rC H h6 hg ef hw;rw[qA];refine aD ?_;cases e:bJ rows C false xs _ with
 |nil=>rw[e]at fr;simp only[A73]at fr;simp[gM,sm,fr]
 |cons z r=>
  rw[e]at fr;simp only[A05]at fr;have i0:=(c9 (xs:=aF z::r.map aF) (i:=0) rfl rfl).2;have hl:(0)<(r.length)+1:=by lia
  simp[gM,sm,fr,i0]
def s_(rows:Rows)(xs:γ GO):Prop:=∀z,Ext xs z->Good rows z->∃(i:Nat)(g:G),z[i]?=some (g,none)
theorem Dv(H:Hall rows C)(hg:∀x∈xs,GOk x.1)(h:bJ rows C false xs xs.length=[]):s_ rows xs:=by intro z e gz;refine Classical.byContradiction λ hn=>?_;have:=rH (sm:=false) H hg e gz (.inr λ i g q=>hn ⟨i,g,q⟩);rw[h]at this;cases this
theorem K1{cs:γ GO}{k:Nat}(hk:cs[k]?=some (g,none))(p:Pl):Ext cs (cs.set k (g,some p)):=by
 have hl:=(A02.mp hk).1;refine⟨?_,λ i g' q hi=>?_⟩
 ·refine B65 λ i=>?_;rw[P3,P3,A38];split
  ·rename_i ei;subst ei;rw[hk];rfl
  ·rfl
 ·rw[A38];split
  ·rename_i ej;subst ej;rw[hk]at hi;cases hi
  ·exact hi
theorem s_.put(h:s_ rows xs){k:Nat}(hk:xs[k]?=some (g,none))(p:Pl):s_ rows (xs.set k (g,some p)):=λ z e gz=>
 have e1:=K1 hk p
 h z ⟨e1.gs.trans e.gs,λ i g p q=>e.sub i g p (e1.sub i g p q)⟩ gz
def lz(xs:γ GO)(k:Nat):Bool:=match xs[k]? with
 |some (_,none)=>true
 |_=>false
theorem xA(h:lz xs k=true):∃g,xs[k]?=some (g,none):=by
 unfold lz at h;split at h
 ·rename_i g e;exact⟨g,e⟩
 ·cases h
def opens(rows:Rows)(C:Nat)(xs:γ GO)(k:Nat):γ Pl:=match xs[k]? with
 |some (g,_)=>cg rows C xs g k
 |none=>[]
theorem Ti(ps:γ Pl):oEq (.tup (ps.map aU)) (.tup [])=.ok (.bl ps.isEmpty):=by cases ps<;>rfl
theorem FX(H:Hall rows C):∀(n:Nat)(xs:γ GO),xs.length<=6->(∀x∈xs,GOk x.1)->nN xs<n->Good rows xs->s_ rows xs ->
  ∃d,bM n [aP xs,cG rows C xs,aF xs]=.ok d/\(∀m,zF m d)/\fP rows C n xs d=true/\d6 d=.ok (.bl true):=by
 intro n
 induction n with
 |zero=>intro xs _ _ h;lia
 |succ n ih=>
  intro xs h6 hg hn _5 B_;have VI:b7 (aP xs)=.ok (.int xs.length):=by simp[aP]
  have hl:xs.length<=16777216:=by lia
  -- who Z_
  have p7:(List.range xs.length).filter (lz xs)≠[]:=λ z=>by obtain⟨i,g,e⟩:=B_ xs ⟨rfl,λ _ _ _ e=>e⟩ _5;have hi:i<xs.length:=(A02.mp e).1;have:i∈(List.range xs.length).filter (lz xs):=A43.mpr ⟨A19.mpr hi,by unfold lz;rw[e]⟩;rw[z]at this;cases this
  have hall:∀k∈(List.range xs.length).filter (lz xs),lz xs k=true:=λ k hk=>(A43.mp hk).2;generalize Sv:(List.range xs.length).filter (lz xs)=ks at p7 hall;cases ks with
  |nil=>exact absurd rfl p7
  |cons k0 kr=>
   have key:∀k∈k0::kr,t7 (eU b7 (aw cJ (aa (eV 1) (aa (eV 2) (aa (eV 3) (aa (eV 0) av)))))) [v (aP xs),v (cG rows C xs),v (aF xs)] (.int (k:Nat))=.ok ((opens rows C xs k).length:Int):=λ k hk=>by obtain⟨g,e⟩:=xA (hall k hk);have so:=nU H h6 e;refine Gy ?_;simp[so,opens,e]
   have pk:=nX (mx:=false) (e:=t7 (eU b7 (aw cJ (aa (eV 1) (aa (eV 2) (aa (eV 3) (aa (eV 0) av)))))) [v (aP xs),v (cG rows C xs),v (aF xs)]) (enc:=λ k=>D.int (k:Nat)) (w:=λ k=>((opens rows C xs k).length:Int)) kr k0 λ k hk=>key k (A09 _ hk);have mem:b0 false (λ k=>((opens rows C xs k).length:Int)) k0 kr∈k0::kr:=by
    rcases gZ (mx:=false) (w:=λ k=>((opens rows C xs k).length:Int)) kr k0 with h|h
    ·rw[h];exact A12
    ·exact A09 _ h
   generalize b0 false (λ k=>((opens rows C xs k).length:Int)) k0 kr=k at pk mem;obtain⟨g,hk⟩:=xA (hall k mem);have ex:∀x4 x5 x6,wQ false .bad (eW 3) [0,1,2] (eU b7 (aw cJ (aa (eV 1) (aa (eV 2) (aa (eV 3) (aa (eV 0) av)))))) [v (aP xs),v (cG rows C xs),v (aF xs),v (.lst ((k0::kr).map λ k=>D.int (k:Nat))),x4,x5,x6]=.ok (.int (k:Nat)):=λ x4 x5 x6=>by show pickK false .bad (t7 (eU b7 (aw cJ (aa (eV 1) (aa (eV 2) (aa (eV 3) (aa (eV 0) av)))))) [v (aP xs),v (cG rows C xs),v (aF xs)]) (D.int (k0:Nat)::kr.map λ k=>D.int (k:Nat))=_;unfold pickK;dsimp only;rw[key k0 A12];exact pk
   have so:=nU H h6 hk;have Sn:=uE H xs g k;have hop:∀p∈cg rows C xs g k,cX rows g p=true/\openAt xs g k p=true:=λ p hp=>by obtain⟨h1,h2⟩:=A43.mp hp;exact⟨KH.jT h1,h2⟩
   have kg:=hg _ (A15 hk);have hw:=EY hk;have step:∀p∈cg rows C xs g k,∃d,bM n [aP xs,cG rows C xs,aF (xs.set k (g,some p))]=.ok d/\(∀m,zF m d)/\fP rows C n (xs.set k (g,some p)) d=true:=λ p hp=>by
    have n1:=AA p hk;obtain⟨f1,f2⟩:=hop p hp;obtain⟨d,e1,e2,e3,_⟩:=ih (xs.set k (g,some p)) (by rw[BG];exact h6) (λ x hx=>by
     rcases C47 hx with z|z
     ·exact hg x z
     ·rw[z];exact kg) (by lia) (_5.put hk f1 f2) (B_.put hk p)
    rw[show aP (xs.set k (g,some p))=aP xs from u4 hk (some p),show cG rows C (xs.set k (g,some p))=cG rows C xs from pY hk (some p)]at e1;exact⟨d,e1,e2,e3⟩
   obtain⟨f,hf⟩:∃f:Pl->D,∀p∈cg rows C xs g k,bM n [aP xs,cG rows C xs,aF (xs.set k (g,some p))]=.ok (f p)/\(∀m,zF m (f p))/\fP rows C n (xs.set k (g,some p)) (f p)=true:=by
    classical
    exact⟨λ p=>if h:p∈cg rows C xs g k then(step p h).choose else .non,λ p hp=>by simp only[hp,dif_pos];exact(step p hp).choose_spec⟩
   have start:∀Q,(∀x5 x6,Ok ((ay (aO 5 (aw cJ (aa (eV 0) (aa (eV 1) (aa (eV 2) (aa (eV 4) av)))))) (ay (d! (tE (eB oEq (eW 5) (dF av))) (aR (dF (aa (eC (.str [115,116,117,99,107])) (aa (eV 4) av)))) aT) (ay (aO 6 (eL (bK (dh (eW 5)) 1 [0,1,2,4] (aJ 0) bD (aw (bM n) (aa (eV 1) (aa (eV 2) (aa (aw KH.c! (aa (eV 3) (aa (eV 4) (aa (eV 0) av)))) av))))))) (aR (dF (aa (eC (.str [101,97,99,104])) (aa (eV 4) (aa (eU dX (eW 6)) av)))))))) [v (aP xs),v (cG rows C xs),v (aF xs),v (.lst ((k0::kr).map λ k=>D.int (k:Nat))),vi (k:Nat),x5,x6]) Q)->Ok (fu (bM n) [v (aP xs),v (cG rows C xs),v (aF xs),none,none,none,none]) Q:=λ Q hQ=>by
    have el:zints 0 xs.length=(List.range xs.length).map λ k=>D.int (k:Nat):=by rw[ints_map];exact A67 λ j _=>by rw[C20]
    simp[fu,ba,cy,bV,line,VI,hl];rw[el];refine bE (λ k:Nat=>D.int (k:Nat)) (lz xs) (λ k=>D.int (k:Nat)) (xs:=List.range xs.length) (λ j hj=>?_) ?_
    ·have Ca:j<xs.length:=A19.mp hj;obtain⟨⟨g',o⟩,e⟩:∃x,xs[j]?=some x:=⟨_,A01 Ca⟩
     have ix:aI (aF xs) (.int (j:Nat))=.ok (cb o):=(c9 (xs:=xs.map λ y:GO=>cb y.2) (i:=j) (j:=j) rfl (by rw[P3,e];rfl)).1;cases o with
     |none=>simp[ix,cb,lz,e]
     |some p=>have en:iS (aU p)=.ok (.bl false):=rfl;simp[ix,cb,en,lz,e]
    ·rw[Sv];have:=hQ none none;have e4:=ex none none none;simp only[A05]at this e4 ⊢;simp[e4];simpa[ba,cy,bV,line]using this
   by_cases h0:cg rows C xs g k=[]
   ·refine⟨.tup [.str jP,.int (k:Nat)],?_,λ m=>?_,?_,rfl⟩
    ·rw[ll];refine aD (start _ λ x5 x6=>?_);rw[h0]at so;have e0:=Ti [];simp only[A73,List.isEmpty_nil]at so e0;simp[so,e0,line];rfl
    ·cases m with
     |zero=>trivial
     |succ m=>exact .inr (.inr (.inl ⟨_,_,rfl⟩))
    ·simp[fP,isStr,hw,hk,h0]
   ·have Yq:(cg rows C xs g k).isEmpty=false:=by
     cases q:cg rows C xs g k with
     |nil=>exact absurd q h0
     |cons a r=>rfl
    refine⟨.tup [.str qb,.int (k:Nat),.tup ((cg rows C xs g k).map f)],?_,λ m=>?_,?_,rfl⟩
    ·rw[ll];refine aD (start _ λ x5 x6=>?_);have e0:=Ti (cg rows C xs g k);rw[Yq]at e0;have NW:(cg rows C xs g k).length<=16777216:=by lia
     generalize cg rows C xs g k=op at so Sn hf e0 NW;simp[so,e0,line,ba,cy,bV,NW];refine bE aU (λ _=>true) f (xs:=op) (λ p hp=>?_) ?_
     ·simp[(nH h6 hk p).1,(hf p hp).1]
     ·rw[pF];simp[line];rfl
    ·cases m with
     |zero=>trivial
     |succ m=>refine .inr (.inr (.inr ⟨_,_,_,rfl,λ ps e=>?_⟩));cases e;refine⟨by rw[A03];lia,λ q hq=>?_⟩;obtain⟨p,hp,rfl⟩:=A08.mp hq;exact(hf p hp).2.1 m
    ·have za:i? (λ p e=>fP rows C n (xs.set k (g,some p)) e) (cg rows C xs g k) ((cg rows C xs g k).map f)=true:=ly λ j p e hj he=>by rw[P3,hj]at he;cases he;exact(hf p (A15 hj)).2.2
     simp[fP,isStr,hw,hk,za]
theorem yh(H:Hall rows C)(h6:xs.length<=6)(hg:∀x∈xs,GOk x.1)(hk:Good rows xs)(hw:gR rows C xs<=2000)(ef:a7 [cm rows,aP xs,fd]=.ok (aF xs)):
  (bJ rows C false xs xs.length≠[]/\iE [cm rows,aP xs,fd]=.ok .non)\/(bJ rows C false xs xs.length=[]/\∃d,iE [cm rows,aP xs,fd]=.ok d/\(∀m,zF m d)/\fP rows C 9 xs d=true/\d6 d=.ok (.bl true)):=by
 have fo:=yY H h6 hg hk hw ef;have ap:=mQ H h6 hg;cases e:bJ rows C false xs _ with
 |cons z r=>rw[e]at fo;dsimp only at fo;refine .inl ⟨by simp,?_⟩;rw[p?];refine aD ?_;have en:d6 (aF z)=.ok _:=rfl;simp[kX,fo,en]
 |nil=>
  rw[e]at fo;dsimp only at fo;have hn:nN xs<9:=by have:nN xs<=xs.length:=C49;lia
  obtain⟨d,e1,e2,e3,e4⟩:=FX H 9 xs h6 hg hn hk (Dv H hg e);refine .inr ⟨rfl,d,?_,e2,e3,e4⟩;rw[p?];refine aD ?_;have en:d6 D.non=.ok _:=rfl;simp[kX,fo,ap,ef,e1]
theorem DH(H:Hall rows C)(h6:xs.length<=6)(hg:∀x∈xs,GOk x.1)(ef:a7 [cm rows,aP xs,fd]=.ok (aF xs))(hp:zF 9 d):kH [cm rows,aP xs,d,fd]=.ok (.bl (fP rows C 9 xs d)):=by
 rw[A0];refine aD ?_;have hn:nN xs<9:=by have:nN xs<=xs.length:=C49;lia
 simp[pO,ef,mQ H h6 hg,Ka H 9 xs d h6 hn hp]
end
end KC
set_option maxRecDepth 4000
noncomputable section
namespace iN
open Z KG KH KB KC KA KS
def l0:SF:=(ay (d! (dM (tE (eU (fJ .str) (eW 0)))) qt aT) (ay (aO 1 (eU dX (eL (wb (eW 0) (eC (.str [10])))))) (ay (d! (dM (tE (aw KA.jn (aa (eV 1) av)))) qt aT) (aR (eV 1)))))
def iW:γ D->Res D:=fn 1 2 l0
theorem wC(x0:D):iW [x0]=br (l0 [some (.val x0),none]):=bL _ _ _ _ rfl
def jt:SF:=(ay (d! (qp (tE (eB BV (eB aX (eW 2) (eB aI (eW 1) (eC (.int 2)))) (eU b7 (eW 0)))) (tE (eB BV (eB aX (eW 3) (eB aI (eW 1) (eC (.int 1)))) (eU b7 (eB aI (eW 0) (eC (.int 0))))))) (aR (eC (.bl false))) aT) (ay (aO 4 (eC (.int 0))) (ay (eZ (uQ (eV 2) (eB aX (eW 2) (eB aI (eW 1) (eC (.int 2))))) (aJ 5) (eZ (dh (Hm (eB aI (eW 0) (eW 5)) (xm (eW 3)) (xm (eB aX (eW 3) (eB aI (eW 1) (eC (.int 1))))))) (aJ 6) (ay (d! (tO (tE (eB kB (eW 6) (dF (aa (eC (.str [46])) (aa (eC (.str [61])) av))))) (tE (eB jY (eW 6) (eB aI (eW 1) (eC (.int 3)))))) (aR (eC (.bl false))) aT) (aO 4 (eB aX (eW 4) (eU t5 (eB oEq (eW 6) (eC (.str [61]))))))))) (aR (eB Ry (eW 4) (eB aI (eW 1) (eC (.int 4))))))))
def jH:γ D->Res D:=fn 4 7 jt
theorem zc(x0 x1 x2 x3:D):jH [x0,x1,x2,x3]=br (jt [some (.val x0),some (.val x1),some (.val x2),some (.val x3),none,none,none]):=bL _ _ _ _ rfl
def kZ:SF:=(ay (jQ 2 (bg av)) (ay (eZ (dP (eU b7 (eW 0))) (aJ 3) (eZ (dP (eU b7 (eB aI (eW 0) (eC (.int 0))))) (aJ 4) (d! (tE (aw jH (aa (eV 0) (aa (eV 1) (aa (eV 3) (aa (eV 4) av)))))) (dC 2 (dF (aa (eV 3) (aa (eV 4) av)))) aT))) (vM 2 (aR (eV 2)))))
def eO:γ D->Res D:=fn 2 5 kZ
theorem uc(x0 x1:D):eO [x0,x1]=br (kZ [some (.val x0),some (.val x1),none,none,none]):=bL _ _ _ _ rfl
def jO:SF:=(ay (jQ 3 (bg av)) (ay (aO 4 (eC (.int 1))) (ay (eZ (dh (eV 1)) (aJ 5) (ay (aO 6 (eB fA (eW 4) (eB aX (eC (.int 1)) (eU b7 (aw eO (aa (eV 0) (aa (eV 5) av))))))) (d! (tE (eB oLe (eW 6) (eW 2))) (ay (dC 3 (eV 5)) (aO 4 (eV 6))) aT))) (aR (eU dX (eW 3))))))
def iY:γ D->Res D:=fn 3 7 jO
theorem wL(x0 x1 x2:D):iY [x0,x1,x2]=br (jO [some (.val x0),some (.val x1),some (.val x2),none,none,none,none]):=bL _ _ _ _ rfl
def pP:SF:=(ay (aO 2 (eL (bg (aa (dF av) av)))) (ay (eZ (dP (eU b7 (eW 1))) (aJ 3) (ay (jQ 4 (bg av)) (ay (eZ (dh (eV 2)) (aJ 5) (ay (eZ (dh (aw eO (aa (eV 0) (aa (eB aI (eW 1) (eW 3)) av)))) (aJ 6) (ay (aO 7 (eL (bK (dP (eV 3)) 1 [5] (aJ 0) (tE (eU d6 (eB aI (eW 1) (eW 0)))) (eV 0)))) (d! (tE (eB oEq (eL (bK (dh (eW 7)) 1 [1,5,3,6] (aJ 0) (dM (tE (aw KH.gG (aa (eB aI (eW 1) (eW 0)) (aa (eB aI (eW 2) (eW 0)) (aa (eB aI (eW 1) (eW 3)) (aa (eV 4) av))))))) (eV 0))) (eL (bg av)))) (dC 4 (eB aX (eW 5) (dF (aa (eV 6) av)))) aT))) (dC 4 (eB aX (eW 5) (dF (aa (eC .non) av)))))) (vM 4 (aO 2 (eV 4)))))) (aR (eV 2))))
def kI:γ D->Res D:=fn 2 8 pP
theorem A1(x0 x1:D):kI [x0,x1]=br (pP [some (.val x0),some (.val x1),none,none,none,none,none,none]):=bL _ _ _ _ rfl
def l4:SF:=(ay (aO 2 (eC (.int 0))) (ay (eZ (AN (eV 0) (eV 1)) (fB [3,4]) (d! (tE (eU d6 (eW 4))) (aO 2 (eB aX (eB aX (eW 2) (eB aI (eW 3) (eC (.int 6)))) (Ho (eB aI (eW 3) (eC (.int 7))) (eB aI (eW 4) (eC (.int 0))) (eC (.int 0))))) aT)) (aR (eV 2))))
def cZ:γ D->Res D:=fn 2 5 l4
theorem wG(x0 x1:D):cZ [x0,x1]=br (l4 [some (.val x0),some (.val x1),none,none,none]):=bL _ _ _ _ rfl
def nC:SF:=(ay (aO 2 (eU rQ (eL (bK (dh (eW 1)) 1 [0] (aJ 0) bD (aw cZ (aa (eV 1) (aa (eV 0) av))))))) (aR (eB aI (eL (bK (dh (eW 1)) 1 [0,2] (aJ 0) (tE (eB oEq (aw cZ (aa (eV 1) (aa (eV 0) av))) (eW 2))) (eV 0))) (eC (.int 0)))))
def gj:γ D->Res D:=fn 2 3 nC
theorem zb(x0 x1:D):gj [x0,x1]=br (nC [some (.val x0),some (.val x1),none]):=bL _ _ _ _ rfl
def nB:SF:=(ay (d! (qp (tE (eU iS (eW 1))) (tE (eU iS (eW 0)))) (aR (lV (eU iS (eW 0)) (eU iS (eW 1)))) aT) (ay (d! (qp (dM (tE (eU (fJ .tuple) (eW 0)))) (tE (eB jY (eU b7 (eW 0)) (eU b7 (eW 1))))) (aR (eC (.bl false))) aT) (ay (eZ (AN (eV 0) (eV 1)) (fB [2,3]) (d! (qp (tE (eU iS (eW 2))) (tE (eU iS (eW 3)))) (d! (qp (tE (eU d6 (eW 2))) (tE (eU d6 (eW 3)))) (aR (eC (.bl false))) aT) (d! (qp (dM (tE (eU (fJ .tuple) (eW 2)))) (qp (tE (eB jY (eL (bK (dh (eW 2)) 1 [] (aJ 0) (dM (tE (aw KG.gF (aa (eV 0) av)))) (eV 0))) (eL (bg av)))) (tE (eB jY (eW 2) (eW 3))))) (aR (eC (.bl false))) aT))) (aR (eC (.bl true))))))
def fi:γ D->Res D:=fn 2 4 nB
theorem p_(x0 x1:D):fi [x0,x1]=br (nB [some (.val x0),some (.val x1),none,none]):=bL _ _ _ _ rfl
def jL:SF:=(ay (aO 4 (aw gj (aa (eV 1) (aa (eV 2) av)))) (ay (aO 5 (eL (bK (dh (eW 2)) 1 [] (aJ 0) (tE (eB kB (eC .non) (eW 0))) (eV 0)))) (ay (aO 6 (eC .non)) (ay (aO 7 (eC .non)) (ay (d! (tE (eB jY (eW 5) (eL (bg av)))) (ay (aO 6 (eB aI (eW 5) (eC (.int 0)))) (aO 7 (aw gj (aa (eV 1) (aa (eV 5) av))))) aT) (ay (d! (qp (dM (tE (aw fi (aa (aw KB.dH (aa (eV 0) (aa (eV 1) (aa (eV 3) av)))) (aa (eV 4) av))))) (dM (tE (aw fi (aa (aw KB.gJ (aa (eV 0) (aa (eV 1) (aa (eV 3) av)))) (aa (eV 7) av)))))) (aR (eC (.bl false))) aT) (ay (d! (dM (tE (aw fi (aa (aw KC.eJ (aa (eV 0) (aa (eV 1) (aa (eV 3) av)))) (aa (eV 6) av))))) (aR (eC (.bl false))) aT) (ay (d! (tE (eB jY (aw KB.iu (aa (eV 0) (aa (eV 1) (aa (eV 3) av)))) (aw cZ (aa (eV 1) (aa (eV 4) av))))) (aR (eC (.bl false))) aT) (ay (aO 8 (aw KC.iE (aa (eV 0) (aa (eV 1) (aa (eV 3) av))))) (ay (d! (tE (eB jY (eW 5) (eL (bg av)))) (aR (eU iS (eW 8))) aT) (aR (lV (eU d6 (eW 8)) (eU (J0 true) (aw KC.kH (aa (eV 0) (aa (eV 1) (aa (eV 8) (aa (eV 3) av))))))))))))))))))
def dR:γ D->Res D:=fn 4 9 jL
theorem wI(x0 x1 x2 x3:D):dR [x0,x1,x2,x3]=br (jL [some (.val x0),some (.val x1),some (.val x2),some (.val x3),none,none,none,none,none]):=bL _ _ _ _ rfl
def HV:SF:=(ay (aO 1 (aw KG.aN (aa (eV 0) (aa (eC (.int 0)) av)))) (ay (aO 2 (aw KA.dS (aa (eL (Ke (eW 0) (xm (eC (.int 8))) BQ)) (aa (eV 1) (aa (eC (.int 4)) (aa (eC (.int 8)) av)))))) (ay (aO 3 (eB aI (eL (bg (aa (eC (.int 4)) (aa (eC (.int 3)) (aa (eC (.int 2)) (aa (eC (.int 4)) (aa (eC (.int 1)) (aa (eC (.int 3)) (aa (eC (.int 0)) (aa (eC (.int 4)) av)))))))))) (eB oMod (aw KG.aN (aa (eV 0) (aa (eC (.int 1)) av))) (eC (.int 8))))) (ay (aO 4 (aw KS.iX (aa (aw KG.aN (aa (eV 0) (aa (eC (.int 2)) av))) (aa (eV 3) av)))) (ay (aO 5 (eL (bK (dP (eV 3)) 1 [0] (aJ 0) bD (aw KG.aN (aa (eV 1) (aa (eB aX (eC (.int 3)) (eW 0)) av)))))) (ay (aO 6 (eL (bK (dP (eV 3)) 1 [5,4,1] (aJ 0) bD (aw KS.fE (aa (eB aI (eW 1) (eW 0)) (aa (eB aI (eW 2) (eW 0)) (aa (aw KA.bN (aa (eV 3) av)) av))))))) (ay (aO 7 (aw iY (aa (eV 2) (aa (eV 6) (aa (eC (.int 240)) av))))) (ay (d! (tE (eB jY (aw iW (aa (eB rR (eC (.str [10])) (eW 2)) av)) (eW 2))) (aR (eC (.bl false))) aT) (ay (d! (tE (eB jY (eU dX (eL (bK (dh (eW 7)) 1 [] (aJ 0) bD (aw KS.eM (aa (eB iO (eC (.str [32])) (aw KS.cD (aa (eV 0) av))) av))))) (eW 7))) (aR (eC (.bl false))) aT) (ay (aO 8 (aw kI (aa (eV 2) (aa (eV 7) av)))) (ay (d! (dM (tE (aw dR (aa (eV 2) (aa (eV 7) (aa (eV 8) (aa (eC .non) av))))))) (aR (eC (.bl false))) aT) (ay (aO 9 (eL (bK (GN (aw gj (aa (eV 7) (aa (eV 8) av)))) 2 [] (fB [0,1]) (tE (eU d6 (eW 1))) (eV 0)))) (ay (d! (qp (tE (eB oEq (eB oMod (aw KG.aN (aa (eV 0) (aa (eC (.int 7)) av))) (eC (.int 2))) (eC (.int 0)))) (tE (eB oEq (eW 9) (eL (bg av))))) (aR (aw dR (aa (eV 2) (aa (eV 7) (aa (eV 8) (aa (eU dX (eL (bK (dh (eW 7)) 1 [] (aJ 0) bD (eC .non)))) av)))))) aT) (ay (aO 10 (eB aI (aw eO (aa (eV 2) (aa (eB aI (eW 7) (eB aI (eW 9) (eC (.int 0)))) av))) (eU yx (eC (.int 1))))) (ay (aO 11 (eU dX (eL (bK (dP (eU b7 (eW 7))) 1 [10,9] (aJ 0) bD (eB aI (eL (bg (aa (eC .non) (aa (eV 1) av)))) (eU t5 (eB oEq (eW 0) (eB aI (eW 2) (eC (.int 0)))))))))) (aR (aw dR (aa (eV 2) (aa (eV 7) (aa (eL (bK (dh (eW 8)) 1 [9,10] (aJ 0) (tE (eB oEq (eB aI (eW 0) (eB aI (eW 1) (eC (.int 0)))) (eW 2))) (eV 0))) (aa (eV 11) av)))))))))))))))))))))
def pB:γ D->Res D:=fn 1 12 HV
theorem Oi(x0:D):pB [x0]=br (HV [some (.val x0),none,none,none,none,none,none,none,none,none,none,none]):=bL _ _ _ _ rfl
end iN
end
set_option maxRecDepth 8000
namespace iN
open Z KG KB
open KH
theorem oy{α β:Type}{f g:α->γ β}{q:α->Bool}:∀{L:γ α},(∀z∈L,f z=if q z then g z else[])->L.flatMap f=(L.filter q).flatMap g
 |[],_=>rfl
 |z::L,h=>by
  rw[B64,h z A12,oy λ y hy=>h y (A09 _ hy)];cases e:q z with
  |true=>rw[A90 e,B64];rfl
  |false=>rw[A62 (by simp[e])];rfl
theorem su{α:Type}(b:Bool)(l:γ α):l.filter (λ _=>b)=if b then l else[]:=by
 cases b with
 |true=>exact A86.mpr λ _ _=>rfl
 |false=>exact B66.mpr λ _ _ h=>nomatch h
section
variable {C:Nat}{xs:γ GO}
theorem o3(g:G)(j:Nat)(z:γ GO):gw rows C true g j z=(cg rows C z g j).map (λ p=>z.set j (g,some p))++[z]:=by simp[gw]
theorem MD(g:G)(j:Nat)(z:γ GO):gw rows C false g j z=(cg rows C z g j).map (λ p=>z.set j (g,some p)):=by simp[gw]
def fh(j:Nat)(z:γ GO):Bool:=(z.take j).all λ x=>x.2.isSome
theorem lR{j:Nat}{z:γ GO}(h:z[j]?=some (g,o)):fh (j+1) z=(fh j z&&o.isSome):=by unfold fh;rw[take_snoc h,List.all_append];simp
theorem AX:fh j (z.set j y)=fh j z:=by unfold fh;rw[List.take_set_of_le (o0 _)]
theorem uX(hk:Good rows xs):∀{j},j<=xs.length->(bJ rows C true xs j).filter (fh j)=bJ rows C false xs j
 |0,_=>by simp[bJ,fh]
 |j+1,hj=>by
  obtain⟨⟨g,o⟩,e⟩:∃x,xs[j]?=some x:=⟨_,A01 (by lia)⟩
  have ih:=uX hk (j:=j) (by lia);have hi:=gA (C:=C) (sm:=true) hk (j:=j) (by lia);cases o with
  |some p=>rw[fX e,fX e,<-ih];refine C22 λ z hz=>?_;rw[lR (((hi z hz).rest j (o0 _)).trans e)];simp
  |none=>
   rw[cS e,cS e,<-ih,B67];refine oy λ z hz=>?_;have ez:=((hi z hz).rest j (o0 _)).trans e;have hl:=(A02.mp ez).1;have h1:∀p,fh _ (z.set j (g,some p))=fh j z:=λ p=>by rw[lR (by rw[A31 hl]),AX];simp
   have h2:fh (j+1) z=false:=by rw[lR ez];simp
   rw[o3,MD,B02,A62 (by simp[h2]),List.filter_nil,A87,B14];rw[show(fh (j+1)∘λ p=>z.set j (g,some p))=λ _=>fh j z from funext h1,su];cases fh j z<;>rfl
theorem yj{z:γ GO}{i k:Nat}(e:z[k]?=some (h,none))(hk:k≠i):openAt (z.set k (h,some q)) g i p=(openAt z g i p&&b? g p h q):=by
 have hl:=(A02.mp e).1;rw[A57,A40,fY,fY];constructor
 ·intro a;refine⟨λ j g' q' ej hj=>a j g' q' ?_ hj,a k h q (A31 hl) hk⟩;rw[A38];split
  ·rename_i ek;subst ek;rw[e]at ej;cases ej
  ·exact ej
 ·rintro⟨a,b⟩ j g' q' ej hj;rw[A38]at ej;split at ej
  ·rename_i ek;subst ek;simp only[A99,C21]at ej;obtain⟨rfl,rfl⟩:=ej;exact b
  ·exact a j g' q' ej hj
theorem xw(hn:∀x∈xs,x.2=none)(hj:j<xs.length):∃g,xs[j]?=some (g,none):=by
 obtain⟨⟨g,o⟩,e⟩:∃x,xs[j]?=some x:=⟨_,A01 hj⟩
 have:=hn _ (A15 e);subst this;exact⟨g,e⟩
theorem He(hk:Good rows xs)(hn:∀x∈xs,x.2=none){k0:Nat}(e0:xs[k0]?=some (g0,none)):∀{j},j<=k0->bJ rows C true (xs.set k0 (g0,some p0)) j=((bJ rows C true xs j).filter (λ z=>openAt z g0 k0 p0)).map λ z=>z.set k0 (g0,some p0)
 |0,_=>by
  have:openAt xs g0 k0 p0=true:=fY.mpr λ j h q ej _=>by have:=hn _ (A15 ej);cases this
  simp[bJ,this]
 |j+1,hj=>by
  have xn:=(A02.mp e0).1;obtain⟨g,e⟩:=xw hn (j:=j) (by lia);have NZ:k0≠j:=by lia
  have e':(xs.set k0 (g0,some p0))[j]?=some (g,none):=by rw[A52 NZ];exact e
  have hi:=gA (C:=C) (sm:=true) hk (j:=j) (by lia);rw[cS e',cS e,He hk hn e0 (by lia),List.flatMap_map,B67,List.map_flatMap];refine(oy λ z hz=>?_).symm;have ez:=((hi z hz).rest j (o0 _)).trans e;have ez0:=((hi z hz).rest k0 (by lia)).trans e0;have h1:∀p,openAt (z.set j (g,some p)) g0 k0 p0=(openAt z g0 k0 p0&&b? g p g0 p0):=λ p=>by rw[yj ez (A06 NZ),mw g0 p0 g p]
  have h2:∀p,openAt (z.set k0 (g0,some p0)) g j p=(openAt z g j p&&b? g p g0 p0):=λ p=>yj ez0 NZ;rw[o3,o3];unfold cg;rw[B02,B14,A68,A14];rw[show((λ z=>openAt z g0 k0 p0)∘λ p=>z.set j (g,some p))=λ p=>(openAt z g0 k0 p0&&b? g p g0 p0)from funext h1];rw[funext h2];cases hq:openAt z g0 k0 p0 with
  |false=>simp[hq]
  |true=>
   simp only[B23,A20,C23];rw[show List.filter (λ z=>openAt z g0 k0 p0) [z]=[z]from A90 hq]
   congr 1
   rw[funext λ p=>Bool.and_comm _ _];refine A67 λ p _=>?_;exact List.set_comm _ _ (A06 NZ)
def xr(k0:Nat)(p0:Pl)(z:γ GO):Bool:=decide (z[k0]?.bind (·.2)=some p0)
theorem yk:∀{l:γ Pl},l.Nodup->p0∈l->l.filter (λ p=>decide (p=p0))=[p0]
 |[],_,h=>nomatch h
 |p::l,hn,h=>by
  rw[A49]at hn;by_cases e:p=p0
  ·subst e;rw[A90 (by simp)]
   congr 1
   refine B66.mpr λ q hq=>?_;simp only[A89];rintro rfl;exact hn.1 hq
  ·rw[A62 (by simpa using e)];exact yk hn.2 (by
    rcases v6.mp h with h|h
    ·exact absurd h.symm e
    ·exact h)
theorem Hc(hk:Good rows xs)(hn:∀x∈xs,x.2=none){k0:Nat}(e0:xs[k0]?=some (g0,none))(hp:p0∈places rows C g0)(hd:(places rows C g0).Nodup):∀{j},k0<j->j<=xs.length->bJ rows C true (xs.set k0 (g0,some p0)) j=(bJ rows C true xs j).filter (xr k0 p0)
 |0,h,_=>nomatch h
 |j+1,h,hj=>by
  have xn:=(A02.mp e0).1;have hi:=gA (C:=C) (sm:=true) hk (j:=j) (by lia);by_cases NZ:j=k0
  ·subst NZ;have e':(xs.set j (g0,some p0))[j]?=some (g0,some p0):=A31 xn;rw[fX e',He hk hn e0 (o0 _),cS e0,B67,<-List.flatMap_singleton' (List.map _ _),List.flatMap_map];refine(oy λ z hz=>?_).symm;have ez:=((hi z hz).rest j (o0 _)).trans e0;have hl:=(A02.mp ez).1;have h1:∀p,xr j p0 (z.set j (g0,some p))=decide (p=p0):=λ p=>by unfold xr;rw[A31 hl];simp
   have h2:xr j p0 z=false:=by unfold xr;rw[ez];simp
   rw[o3];unfold cg;rw[B02,A62 (by simp[h2]),List.filter_nil,A87,B14];rw[show(xr j p0∘λ p=>z.set j (g0,some p))=λ p=>decide (p=p0)from funext h1,C23,funext λ a=>Bool.and_comm _ _,<-C23,yk hd hp];cases hq:openAt z g0 j p0 with
   |true=>rw[A90 hq];simp
   |false=>rw[A62 (by simp[hq])];simp
  ·obtain⟨g,e⟩:=xw hn (j:=j) (by lia);have e':(xs.set k0 (g0,some p0))[j]?=some (g,none):=by rw[A52 (by lia)];exact e
   rw[cS e',cS e,Hc hk hn e0 hp hd (by lia) (by lia),B67];refine(oy λ z hz=>?_).symm;have h1:∀p,xr k0 p0 (z.set j (g,some p))=xr k0 p0 z:=λ p=>by unfold xr;rw[A52 NZ]
   rw[o3,B02,B14];rw[show(xr k0 p0∘λ p=>z.set j (g,some p))=λ _=>xr k0 p0 z from funext h1,su];cases hq:xr k0 p0 z with
   |true=>rw[A90 hq];rfl
   |false=>rw[A62 (by simp[hq])];rfl
end
theorem ye:∀n,(List.range n).Nodup:=λ n=>List.nodup_range
theorem C?(r C:Nat):(gU r C).Nodup:=by refine C24.mpr (List.Pairwise.imp (λ {a b} h e=>h ?_) (ye C));have:=(Prod.mk.inj e).2;lia
theorem vd:∀n C,(gP n C).Nodup/\∀p∈gP n C,p.1<(n)
 |0,C=>⟨by simp[gP],by simp[gP]⟩
 |n+1,C=>by
  obtain⟨h1,h2⟩:=vd n C;rw[k!];have h3:∀p∈gU n C,p.1=(n):=λ p hp=>by obtain⟨c,_,rfl⟩:=A08.mp hp;rfl
  refine⟨List.nodup_append.mpr ⟨h1,C? n C,λ a ha b hb e=>?_⟩,λ p hp=>?_⟩
  ·have:=h2 a ha;have:=h3 b hb;subst e;lia
  ·rcases A25.mp hp with hp|hp
   ·have:=h2 p hp;lia
   ·have:=h3 p hp;lia
theorem vT(rows:Rows)(C:Nat)(g:G):(places rows C g).Nodup:=(vd _ C).1.filter _
end iN
namespace iN
section
open Z KA
theorem uW:∀(ts:Rows),(∀x∈ts,x.length<=12)->(cw [10] ts).length<=ts.length*13
 |[],_=>by simp[cw]
 |[x],h=>by have:=h x (by simp);simp[cw];lia
 |x::y::r,h=>by have h1:=h x (by simp);have h2:=uW _ λ z hz=>h z (A09 _ hz);simp only[cw,A23,A36,A81]at h2 ⊢;lia
theorem BD:∀(ts:Rows),(∀x∈ts,x.length<=12)->(ts.map List.length).sum<=ts.length*12
 |[],_=>by simp
 |x::r,h=>by have h1:=h x (by simp);have h2:=BD r λ z hz=>h z (A09 _ hz);simp only[A05,B91,A36]at h2 ⊢;lia
variable {R L:Nat}
theorem DR(H:Hall R L rows):rR (.str [10]) (.tup (rows.map .str))=.ok (.str (cw [10] rows)):=by
 have hs:=BD rows λ x hx=>by rw[H.each x hx];exact H.l2
 have hl:=H.len;have hr:=H.r2;show(match iH _ with|some ts=>guard ((ts.map _).sum+ts.length*1<=line) _|none=>Res.bad)=_;rw[ko];simp only;rw[guard_pos];simp only[line];lia
theorem vR(H:Hall R L rows):iW [.str (cw [10] rows)]=.ok (.tup (rows.map .str)):=by
 have hl:=uW rows λ x hx=>by rw[H.each x hx];exact H.l2
 have hn:=H.len;have hr:=H.r2;have hr1:=H.r1;have hb:=H.b;have hc:=kS (λ e=>by rw[e]at hn;simp at hn;lia) λ x hx hm=>(by decide:(10)∉signs) (H.sg x hx _ hm)
 have e:Ad (.str (cw [10] rows)) (.str [10])=.ok (rows.map .str):=by rw[Fi,hc,guard_pos];simp only[line];lia
 have eh:jn [.tup (rows.map .str)]=.ok (.bl true):=by
  rw[AM]
  ·simp only[n_,hb]
  ·intro xs h;cases h;refine⟨by simp;lia,λ x hx=>?_⟩;obtain⟨r,hr,rfl⟩:=A08.mp hx;intro cs h;cases h;have:=H.each r hr;have:=H.l2;lia
 rw[wC];refine aD ?_;simp[l0,cW,e,eh]
theorem Hf:∀(a b:Rows),allEq (fS 5) (a.map .str) (b.map .str)=some (decide (a=b)):=my λ x y=>by show some _=_;rw[show(x==y)=decide (x=y)from by rw[A57];simp]
theorem N?(hx:Ih xs)(h:Int):∃R L rows,Hall R L rows/\dS [.lst xs,.int h,.int 4,.int 8]=.ok (.tup (rows.map .str)):=by
 obtain⟨R,hR⟩:∃R:Nat,1+h % 4=R:=⟨(1+h % 4).toNat,by lia⟩
 obtain⟨L,hL⟩:∃L:Nat,1+h / 8 % 8=L:=⟨(1+h / 8 % 8).toNat,by lia⟩
 have r1:1<=R:=by lia
 have r2:R<=6:=by lia
 have l1:1<=L:=by lia
 have l2:L<=12:=by lia
 have rl:=A61 (by lia:R<=6) (by lia:L<=12);have f1:bS (R) (L:Int):=cN (by lia) (by lia);have eR:((R:Int)*(L:Int)).toNat=R*L:=by rw[<-C18,A85]
 obtain⟨c0,e0⟩:=i4 hx (k:=0) (by decide);obtain⟨a,b,ha,hb,el⟩:=kE h;have Yb:Sg [.str [46],.str [46],.str [61],.str [46],.str [a],.str [b],.str [35],.str [46]]:=by
  refine⟨rfl,λ d hd=>?_⟩;have Kn:46∈signs:=by decide
  have XX:61∈signs:=by decide
  have XY:35∈signs:=by decide
  simp only[v6,A18,A21]at hd;rcases hd with rfl|rfl|rfl|rfl|rfl|rfl|rfl|rfl
  ·exact⟨_,Kn,rfl⟩
  ·exact⟨_,Kn,rfl⟩
  ·exact⟨_,XX,rfl⟩
  ·exact⟨_,Kn,rfl⟩
  ·exact⟨_,gC ha,rfl⟩
  ·exact⟨_,gC hb,rfl⟩
  ·exact⟨_,XY,rfl⟩
  ·exact⟨_,Kn,rfl⟩
 have:Ok (br (dA [v (.lst xs),v (.int h),v (.int 4),v (.int 8),none,none,none,none,none,none,none])) λ d=>∃rows,Hall R L rows/\d=.tup (rows.map .str):=by
  refine lD ?_;rw[eb];simp[cE,hR,hL,r8,el,line,e0,f1,eR];refine dE (λ i ρ=>∃rows c o9 F?,Shape L i rows/\(∀x∈rows,∀c∈x,c∈signs)/\ρ=[v (.lst xs),vi h,vi 4,vi 8,vi R,vi L,v (.lst [.str [46],.str [46],.str [61],.str [46],.str [a],.str [b],.str [35],.str [46]]),vi c,ow (rows.map .str),o9,F?]) ⟨[],c0,none,none,.inl ⟨rfl,rfl⟩,by simp,rfl⟩ ?_ ?_
  ·rintro j d ρ hd ⟨rows,c,o9,F?,D0,NR,rfl⟩;obtain⟨hj,rfl⟩:=B! hd;obtain⟨full,last,ef,hl,hn,NQ⟩:=D0.step l1;have hr:rows.length<16777216:=by have:=D0.len l1;lia
   obtain⟨s,hs,es⟩:=Cy hx Yb j (by lia) (vi h) (vi 4) (vi 8) (vi R) (vi L) (vi c) (ow ((fresh L j rows).map .str)) F?;obtain⟨c',s',zN,em⟩:=BY h c s hs (v (.lst xs)) (vi 4) (vi 8) (vi R) (vi L) (v (.lst [.str [46],.str [46],.str [61],.str [46],.str [a],.str [b],.str [35],.str [46]])) (ow ((fresh L j rows).map .str)) (vi j);have q1:=HX (v (.lst xs)) (vi h) (vi 4) (vi 8) (vi R) (v (.lst [.str [46],.str [46],.str [61],.str [46],.str [a],.str [b],.str [35],.str [46]])) (vi c) F? L j l1 rows hr;have q2:=FF full last s' (by lia) (v (.lst xs)) (vi h) (vi 4) (vi 8) (vi R) (vi L) (v (.lst [.str [46],.str [46],.str [61],.str [46],.str [a],.str [b],.str [35],.str [46]])) (vi c') (vi j);rw[<-ef]at q2;refine⟨_,rfl,?_⟩;simp only[B62,C17];rw[iJ,q1,Res.bind,gy,iJ,es,Res.bind,gy,iJ,em,Res.bind,gy,q2];refine⟨_,rfl,full++[last++[s']],c',_,_,hn s',?_,rfl⟩;obtain⟨g1,g2⟩:=NQ NR;intro x hx c hc;rcases A25.mp hx with hx|hx
   ·exact g1 x hx c hc
   ·rw[A13]at hx;subst hx;rcases A25.mp hc with hc|hc
    ·exact g2 c hc
    ·rw[A13]at hc;subst hc;exact zN
  ·rintro ρ ⟨rows,c,o9,F?,D0,NR,rfl⟩;rw[jh]at D0;obtain⟨q1,q2⟩:=D0.end l1 r1;simp;exact⟨rows,⟨r1,r2,l1,l2,q1,q2,NR⟩,rfl⟩
 rw[<-jK]at this;obtain⟨d,e,rows,H,rfl⟩:=this;exact⟨R,L,rows,H,e⟩
end
section
open Z KG KB
open KH
theorem Ge(H:Hall rows C)(k:GOk g){r c:Nat}(h:(rows.length)<(r:Int)+g.d\/(C)<(c:Int)+g.w):cX rows g ((r),(c))=false:=by
 have w1:=k.w1;have d1:=k.d1;rcases h with h1|h2
 ·refine m9 (s:=((r)+((g.d-1:Nat)),(c)+((0)))) (pd (p:=((r),(c))) (i:=g.d-1) (j:=0) (by lia) (by lia)) ?_;unfold Ip;rw[rF H (by simp only;lia)];rfl
 ·refine m9 (s:=((r)+((0)),(c)+((g.w-1:Nat)))) (pd (p:=((r),(c))) (i:=0) (j:=g.w-1) (by lia) (by lia)) ?_;unfold Ip;rw[rF H (by simp only;lia)];rfl
def FJ(rows:Rows)(C:Nat)(g:G)(r c:Nat)(i:Nat)(ρ:Env):Prop:=i<=g.d/\∃x y,ρ=[v (cm rows),v (bA g),vi (r:Nat),vi (c:Nat),vi (ni rows (eD g.w ((r:Int),(c:Int)) i):Nat),x,y]/\qg rows g (eD g.w ((r:Int),(c:Int)) i)
def FK(rows:Rows)(C:Nat)(g:G)(r c i:Nat)(j:Nat)(ρ:Env):Prop:=j<=g.w/\∃y,ρ=[v (cm rows),v (bA g),vi (r:Nat),vi (c:Nat),vi (ni rows (eD g.w ((r:Int),(c:Int)) i++bZ j ((r:Int)+(i:Nat)) (c:Int)):Nat),vi ((r:Int)+(i:Nat)),y]/\qg rows g (eD g.w ((r:Int),(c:Int)) i++bZ j ((r:Int)+(i:Nat)) (c:Int))
theorem Vs(x:Nat):kB (.str [x]) (.tup [.str [46],.str [61]])=.ok (.bl (!decide (x=46\/x=61))):=by
 have e1:i' (.str [46]) (.str [x])=some _:=rfl;have e2:i' (.str [61]) (.str [x])=some _:=rfl;show(match fK (.str [x]) [.str [46],.str [61]]with|some b=>Res.ok _|none=>Res.bad)=_;simp only[fK,e1,e2];by_cases h1:x=46
 ·subst h1;rfl
 ·by_cases h2:x=61
  ·subst h2;rfl
  ·have a1:([46]==[x])=false:=by simp;exact λ e=>h1 e.symm
   have a2:([61]==[x])=false:=by simp;exact λ e=>h2 e.symm
   simp[a1,a2,h1,h2]
theorem Qe(k:γ Nat)(x:Nat):dD k (some x)=(decide (x=46\/x=61)||([x] == k)):=by
 have:=ZM k x;cases h:dD k _ with
 |true=>
  rw[h]at this;by_cases h1:x=46
  ·simp[h1]
  ·by_cases h2:x=61
   ·simp[h2]
   ·simp[h1,h2]at this ⊢;exact this
 |false=>rw[h]at this;simp at this;obtain⟨a,b,c⟩:=this;simp[a,b,c]
theorem Tc(H:Hall rows C)(k:GOk g)(hr:r<rows.length)(hc:c<C):jH [cm rows,bA g,.int (r:Nat),.int (c:Nat)]=.ok (.bl (cX rows g ((r:Int),(c:Int)))):=by
 rw[zc];refine aD ?_;obtain⟨C_,xn,e0⟩:=H.C_;have uT:=H.c2;have _T:=H.r2;have D9:C<=16777216:=by lia
 have Ye:rows.length<=16777216:=by lia
 by_cases o1:(rows.length:Int)<(r:Int)+g.d
 ·have:=Ge (c:=c) H k (.inl o1);simp[jt,e0,xn,line,D9,Ye,o1,this]
 by_cases o2:(C:Int)<(c:Int)+g.w
 ·have:=Ge (r:=r) H k (.inr o2);simp[jt,e0,xn,line,D9,Ye,o1,o2,this]
 have tn:((r:Int)+g.d).toNat-r=g.d:=by lia
 simp -implicitDefEqProofs [jt,e0,xn,line,D9,Ye,o1,o2,toNat_sub,tn];refine dE (FJ rows C g r c) ⟨A51 _,none,none,rfl,λ s hs=>by cases hs⟩ ?_ ?_
 ·rintro i d ρ hi ⟨_,x,y,rfl,hall⟩;obtain⟨N1,rfl⟩:=ints_get hi;obtain⟨row,eg,hl,e1⟩:=H.row (r:=r+i) (by lia);have ID:aI (cm rows) (.int ((r:Int)+(i:Nat)))=.ok (.str row):=by
   have:((r+i:Nat):Int)=(r:Int)+(i:Nat):=by simp
   rw[<-this];exact e1
  have Yf:row.length<=16777216:=by lia
  have cr:=Li row (c:=c) (w:=g.w) (by lia);simp -implicitDefEqProofs [ID,line,Yf,cr];refine dE (FK rows C g r c i) ⟨A51 _,y,by simp[bZ],by simpa[bZ]using hall⟩ ?_ ?_
  ·rintro j d ρ hj ⟨_,y,rfl,hall⟩;have Sz:j<((row.drop c).take g.w).length:=by have:=(A02.mp hj).1;simpa using this
   have Sy:j<g.w:=by simp at Sz;lia
   obtain⟨q,eq⟩:∃q,row[c+j]?=some q:=⟨_,A01 (by simp at Sz;lia)⟩
   have ed:d=.str [q]:=by rw[List.getElem?_take,M2 Sy,List.getElem?_drop,P3,eq]at hj;exact(A04 hj).symm
   subst ed;have hm:=pd (p:=((r:Int),(c:Int))) N1 Sy;have e3:cR rows ((r:Int)+(i:Nat),(c:Int)+(j:Nat))=some q:=by
    unfold cR;rw[M2 ⟨by simp only;lia,by simp only;lia⟩];have t1:((r:Int)+(i:Nat)).toNat=r+i:=by lia
    have t2:((c:Int)+(j:Nat)).toNat=c+j:=by lia
    simp only[t1,t2,eg];exact eq
   have ne:jY (.str [q]) (.str g.kind)=.ok (.bl (!([q]==g.kind))):=rfl;have i3:aI (bA g) (.int 3)=.ok (.str g.kind):=rfl;have To:oEq (.str [q]) (.str [61])=.ok (.bl ([q]==[61])):=rfl;have tk:=Qe g.kind q;by_cases hq:q=46\/q=61
   ·have ht:dD g.kind (some q)=true:=by rw[tk];simp[hq]
    have hs:Ip rows g ((r:Int)+(i:Nat),(c:Int)+(j:Nat))=true:=by rw[Ip,e3,ht]
    have al:qg rows g (eD g.w ((r:Int),(c:Int)) i++bZ (j+1) ((r:Int)+(i:Nat)) (c:Int)):=by rw[ik,<-A69];exact ve hall λ s zN=>by rw[A13.mp zN];exact hs
    have cn:ni rows (eD g.w ((r:Int),(c:Int)) i++bZ (j+1) ((r:Int)+(i:Nat)) (c:Int))=ni rows (eD g.w ((r:Int),(c:Int)) i++bZ j ((r:Int)+(i:Nat)) (c:Int))+if q=61 then 1 else 0:=by rw[ik,<-A69,zu _ (_++_),zt rows _ q e3]
    by_cases Oa:q=61
    ·have eqt:oEq (.str [q]) (.str [61])=.ok (.bl true):=by rw[Oa];rfl
     have fk:FK rows C g r c i (j+1) [v (cm rows),v (bA g),vi (r:Nat),vi (c:Nat),vi ((ni rows (eD g.w ((r:Int),(c:Int)) i++bZ j ((r:Int)+(i:Nat)) (c:Int)):Nat)+1),vi ((r:Int)+(i:Nat)),vs [q]]:=⟨Sy,vs [q],by rw[cn,M2 Oa];rfl,al⟩
     simp -implicitDefEqProofs [Vs,hq,eqt,line];exact fk
    ·have Zf:oEq (.str [q]) (.str [61])=.ok (.bl false):=by rw[To];simp[Oa]
     have fk:FK rows C g r c i (j+1) [v (cm rows),v (bA g),vi (r:Nat),vi (c:Nat),vi (ni rows (eD g.w ((r:Int),(c:Int)) i++bZ j ((r:Int)+(i:Nat)) (c:Int)):Nat),vi ((r:Int)+(i:Nat)),vs [q]]:=⟨Sy,vs [q],by rw[cn,f8 Oa];rfl,al⟩
     simp -implicitDefEqProofs [Vs,hq,Zf,line];exact fk
   ·by_cases hk:[q]=g.kind
    ·have ht:dD g.kind (some q)=true:=by rw[tk];simp[hk]
     have hs:Ip rows g ((r:Int)+(i:Nat),(c:Int)+(j:Nat))=true:=by rw[Ip,e3,ht]
     have Oa:¬q=61:=λ e=>hq (.inr e);have fk:FK rows C g r c i (j+1) [v (cm rows),v (bA g),vi (r:Nat),vi (c:Nat),vi (ni rows (eD g.w ((r:Int),(c:Int)) i++bZ j ((r:Int)+(i:Nat)) (c:Int)):Nat),vi ((r:Int)+(i:Nat)),vs [q]]:=by
      refine⟨Sy,vs [q],?_,?_⟩
      ·rw[ik,<-A69,zu _ (_++_),zt rows _ q e3,f8 Oa];rfl
      ·rw[ik,<-A69];exact ve hall λ s zN=>by rw[A13.mp zN];exact hs
     have Xs:jY (.str [q]) (.str g.kind)=.ok (.bl false):=by rw[ne,hk];simp
     have Zf:oEq (.str [q]) (.str [61])=.ok (.bl false):=by rw[To];simp[Oa]
     simp -implicitDefEqProofs [Vs,hq,i3,Xs,Zf,line];exact fk
    ·have ht:dD g.kind (some q)=false:=by rw[tk];simp[hq];exact hk
     have hf:=m9 (rows:=rows) hm (by rw[Ip,e3,ht]);have Xs:jY (.str [q]) (.str g.kind)=.ok (.bl true):=by rw[ne];simp[hk]
     simp -implicitDefEqProofs [Vs,hq,i3,Xs,hf,line]
  ·rintro ρ ⟨_,y,rfl,hall⟩;have ψ:(List.take g.w (List.drop c (List.map (λ c=>D.str [c]) row))).length=g.w:=by simp;lia
   rw[ψ]at hall ⊢;have fj:FJ rows C g r c (i+1) [v (cm rows),v (bA g),vi (r:Nat),vi (c:Nat),vi (ni rows (eD g.w ((r:Int),(c:Int)) i++bZ g.w ((r:Int)+(i:Nat)) (c:Int)):Nat),vi ((r:Int)+(i:Nat)),y]:=⟨N1,_,_,by rw[jA],by rw[jA];exact hall⟩
   simp;exact fj
 ·rintro ρ ⟨_,x,y,rfl,hall⟩;simp only[jh]at hall ⊢;have SX:qg rows g (seats g ((r:Int),(c:Int))):=hall;simp[G? SX,seats];exact C12.mpr Iff.rfl
theorem vU(H:Hall rows C)(k:GOk g):eO [cm rows,bA g]=.ok (.lst ((places rows C g).map aU)):=by
 rw[uc];refine aD ?_;have uT:=H.c2;have _T:=H.r2;obtain⟨C_,xn,e0⟩:=H.C_;have D9:C<=16777216:=by lia
 simp[kZ,line];refine dE (λ i ρ=>i<=rows.length/\∃x y,ρ=[v _,v _,ow (((gP i C).filter (cX rows g)).map aU),x,y]) ⟨A51 _,none,none,rfl⟩ ?_ ?_
 ·rintro i d ρ hi ⟨_,x,y,rfl⟩;obtain⟨N1,rfl⟩:=ints_get hi;simp[e0,xn,line,D9];refine dE (λ j ρ=>j<=C/\∃y,ρ=[v (cm rows),v (bA g),ow (((gP i C++gU i j).filter (cX rows g)).map aU),vi (i),y]) ⟨A51 _,y,by simp[gU]⟩ ?_ ?_
  ·rintro j d ρ hj ⟨_,y,rfl⟩;obtain⟨Ca,rfl⟩:=ints_get hj;have e3:gU i (j+1)=gU i j++[((i:Int),(j:Int))]:=by simp[gU,B22]
   have h1:=A70 (cX rows g) (gP i C++gU i j);rw[A23,pR,o7]at h1;have h3:i*C<=100*100:=A61 (by lia) uT;rw[e3,<-A69,B02 (gP i C++gU i j)];generalize (gP i C++gU i j).filter (cX rows g)=fs at h1 ⊢;have ff:=Tc H k N1 Ca;cases hf:cX rows g ((i),(j))with
   |true=>rw[hf]at ff;simp[ff,hf,line];lia
   |false=>rw[hf]at ff;simp[ff,hf,line];lia
  ·rintro ρ ⟨_,y,rfl⟩;simp only[jh];simp;rw[k!];exact⟨by lia,by simp⟩
 ·rintro ρ ⟨_,x,y,rfl⟩;simp[places]
def FW(rows:Rows)(C:Nat)(gs:γ G)(most:Int)(i:Nat)(ρ:Env):Prop:=∃(hs:γ G)(x5 x6:ε L),(gc rows C hs:Int)<=most/\hs.length<=i/\(∀h∈hs,h∈gs)/\ρ=[v (cm rows),v (.lst (gs.map bA)),vi most,ow (hs.map bA),vi (gc rows C hs:Nat),x5,x6]
theorem Oh(H:Hall rows C){gs:γ G}(h6:gs.length<=6)(hg:∀g∈gs,GOk g)(_Y:1<=most)(PC:most<=1000000):∃hs,hs.length<=gs.length/\(∀h∈hs,h∈gs)/\(gc rows C hs:Int)<=most/\iY [cm rows,.lst (gs.map bA),.int most]=.ok ((.tup (hs.map bA))):=by
 have:Ok (br (jO [v (cm rows),v (.lst (gs.map bA)),v (.int most),none,none,none,none])) λ d=>∃hs,hs.length<=gs.length/\(∀h∈hs,h∈gs)/\(gc rows C hs:Int)<=most/\d=(.tup (hs.map bA)):=by
  refine lD ?_;simp -implicitDefEqProofs [jO,line];refine dE (FW rows C gs most) ⟨[],none,none,_Y,A51 _,λ h hh=>absurd hh A18,rfl⟩ ?_ ?_
  ·rintro i d ρ hi ⟨hs,x5,x6,hm,hl,m8,rfl⟩;rw[P3]at hi;cases eg:gs[i]? with
   |none=>rw[eg]at hi;cases hi
   |some g=>
    rw[eg]at hi;cases hi;have _4:=A15 eg;have lp:=vU H (hg g _4);have iV:=places_len H g;have ew:(gc rows C (hs++[g]):Nat)=gc rows C hs*((places rows C g).length+1):=by unfold gc;rw[A68,iR];simp[fO]
    generalize places rows C g=ps at lp iV ew;have q1:bS (gc rows C hs:Nat) (1+(ps.length:Int)):=i8 (by lia) (by lia);have L8:=(A02.mp eg).1;have PD:hs.length<16777216:=by lia
    have ez:((gc rows C hs:Nat):Int)*(1+(ps.length:Int))=(gc rows C (hs++[g]):Nat):=by rw[ew,C18,Int.natCast_add,Int.add_comm];rfl
    by_cases hle:((gc rows C hs:Nat):Int)*(1+(ps.length:Int))<=most
    ·have fw:FW rows C gs most (i+1) [v (cm rows),v (.lst (gs.map bA)),vi most,ow (hs.map bA++[bA g]),vi (((gc rows C hs:Nat):Int)*(1+(ps.length:Int))),v (bA g),vi (((gc rows C hs:Nat):Int)*(1+(ps.length:Int)))]:=⟨hs++[g],v (bA g),vi (((gc rows C hs:Nat):Int)*(1+(ps.length:Int))),by rw[<-ez];exact hle,by simp;lia,λ h hh=>(A25.mp hh).elim (m8 h) (λ e=>by rw[A13.mp e];exact _4),by rw[ez];simp⟩
     simp -implicitDefEqProofs [lp,q1,hle,line,PD];exact fw
    ·have fw:FW rows C gs most (i+1) [v (cm rows),v (.lst (gs.map bA)),vi most,ow (hs.map bA),vi (gc rows C hs:Nat),v (bA g),vi (((gc rows C hs:Nat):Int)*(1+(ps.length:Int)))]:=⟨hs,_,_,hm,by lia,m8,rfl⟩
     simp -implicitDefEqProofs [lp,q1,hle];exact fw
  ·rintro ρ ⟨hs,x5,x6,hm,hl,m8,rfl⟩;rw[A03]at hl;simp -implicitDefEqProofs;exact⟨hs,hl,m8,hm,rfl⟩
 obtain⟨d,e,hs,a2,a3,a4,rfl⟩:=this;exact⟨hs,a2,a3,a4,by rw[wL];exact e⟩
end
section
open Z KG KB KC
open KH
def GW(g:G):Prop:=∃(wt:Int)(ws:γ Pl),ws.length<=6/\g.worth=.int wt/\g.mS=.tup (ws.map aU)/\(ws.map (·.1)).Nodup
theorem uJ(r:Int):∀{ws},(ws.map (·.1)).Nodup->more ws r=(ws.lookup r).getD 0
 |[],_=>rfl
 |p::ws,h=>by
  rw[A05,A49]at h;have ih:=uJ r h.2;unfold more at ih ⊢;rw[A82];by_cases e:p.1=r
  ·have hz:ws.filter (λ p=>decide (p.1=r))=[]:=B66.mpr λ q hq=>by simp only[A89];exact λ e2=>h.1 (by rw[e,<-e2];exact A08.mpr ⟨q,hq,rfl⟩)
   rw[A90 (by simpa using e),hz];simp[e]
  ·rw[A62 (by simpa using e),ih];have:(r==p.1)=false:=by simpa using λ z=>e z.symm
   rw[this]
theorem Mn(h6:xs.length<=6)(hg:∀x∈xs,GW x.1):iN.cZ [aP xs,aF xs]=.ok (.int (wS xs)):=by
 have hl:xs.length<=16777216:=by lia
 unfold aP aF wS;rw[iN.wG];refine aD ?_;simp[iN.l4,zip_map,line,hl];refine dE (λ i ρ=>∃x3 x4,ρ=[v (.tup (xs.map λ x=>bA x.1)),v (.tup (xs.map λ x=>cb x.2)),vi (((xs.take i).map wO).sum),x3,x4]) ⟨none,none,by simp⟩ ?_ ?_
 ·rintro j d ρ hj ⟨x3,x4,rfl⟩;rw[P3]at hj;obtain⟨⟨g,o⟩,hp,rfl⟩:=A56.mp hj;obtain⟨wt,ws,_N,e1,e2,VH⟩:=hg _ (A15 hp);have ft:((xs.take (j+1)).map wO).sum=((xs.take j).map wO).sum+wO (g,o):=by rw[B30,hp,A68,List.sum_append];simp
  generalize ((xs.take (j+1)).map wO).sum=ta at ft ⊢;generalize ((xs.take j).map wO).sum=tb at ft ⊢;cases o with
  |none=>
   have:ta=tb:=by rw[ft];show tb+0=tb;lia
   have en:d6 D.non=.ok (.bl false):=rfl;subst this;simp[cb,en]
  |some p=>
   have fw:ta=tb+(wt+(ws.lookup p.1).getD 0):=by rw[ft];show tb+IP g p.1=_;unfold IP;dsimp only at e1 e2;rw[e1,e2,Bu,uJ _ VH];rfl
   have en:d6 (aU p)=.ok (.bl true):=rfl;have i6:aI (bA g) (.int 6)=.ok (.int wt):=by dsimp only at e1;rw[<-e1];rfl
   have i7:aI (bA g) (.int 7)=.ok (.tup (ws.map aU)):=by dsimp only at e2;rw[<-e2];rfl
   have dg:sG (.int p.1) (.int 0) (.tup (ws.map aU))=.ok (.int ((ws.lookup p.1).getD 0)):=K9 p.1 0 ws VH (by simp only[line];lia);simp[cb,en,i6,i7,dg];lia
 ·rintro ρ ⟨x3,x4,rfl⟩;rw[A03,C10 (o0 _)];simp
section
theorem vj(h6:xs.length<=6)(hg:∀x∈xs,GW x.1)(h:z.map (·.1)=xs.map (·.1)):iN.cZ [aP xs,aF z]=.ok (.int (wS z)):=by
 have:=Mn (by rw[jU h];exact h6) λ x hx=>by
  have:x.1∈xs.map (·.1):=by rw[<-h];exact A08.mpr ⟨x,hx,rfl⟩
  obtain⟨y,hy,e⟩:=A08.mp this;rw[<-e];exact hg y hy
 rw[sk h]at this;exact this
theorem pA:∀r b,(r.map wS).foldl max (wS b)=wS (b0 true wS b r)
 |[],b=>rfl
 |x::r,b=>by
  rw[A05,B59];unfold b0;by_cases hb:Be true (wS x) (wS b)=true
  ·rw[M2 hb,<-pA];have:wS b<wS x:=by simpa[Be]using hb
   rw[show max _ _=wS x by lia]
  ·rw[f8 hb,<-pA];have:wS x<=wS b:=by simpa[Be]using hb
   rw[show max _ _=wS b by lia]
theorem Gk(h6:xs.length<=6)(hg:∀x∈xs,GW x.1)(hL:∀z∈b::r,z.map (·.1)=xs.map (·.1))(hl:(b::r).length<=1000000):iN.gj [aP xs,.lst ((b::r).map aF)]=.ok (aF (b0 true wS b r)):=by
 rw[iN.zb];refine aD ?_;have PD:r.length+1<=16777216:=by simp at hl;lia
 have c1:Ok (a9 (aJ 0) bD (aw iN.cZ (aa (eV 1) (aa (eV 0) av))) [none,v (aP xs)] ((b::r).map aF)) λ ds=>ds=((b::r).map wS).map .int:=by
  refine bE aF (λ _=>true) (λ z=>.int (wS z)) (λ z hz=>?_) ?_
  ·simp[vj h6 hg (hL z hz)]
  ·rw[su];simp
 have e1:=c1.eq;obtain⟨t,ht⟩:=mV wS r b;have c2:Ok (a9 (aJ 0) (tE (eB oEq (aw iN.cZ (aa (eV 1) (aa (eV 0) av))) (eW 2))) (eV 0) [none,v (aP xs),vi (wS (b0 true wS b r))] ((b::r).map aF)) λ ds=>ds=(b0 true wS b r::t).map aF:=by refine bE aF (λ z=>decide (wS z=wS (b0 true wS b r))) aF (λ z hz=>?_) (by rw[ht]);simp[vj h6 hg (hL z hz)];exact A57.mpr (by simp)
 have e2:=c2.eq;have mx:rQ (.lst (((b::r).map wS).map .int))=.ok (.int (wS (b0 true wS b r))):=by rw[<-pA];exact JY _ _
 simp only[A05,A14]at e1 e2 mx;have ix:aI (.lst (aF (b0 true wS b r)::t.map aF)) (.int 0)=.ok (aF (b0 true wS b r)):=(c9 rfl rfl).2;simp[iN.nC,ba,cy,bV,line,PD,e1,mx,e2,ix]
theorem eqO(p:Pl):jY (aU p) (aU p)=.ok (.bl false):=by
 have:i' (aU p) (aU p)=some true:=by show(allEq (fS 5) [.int p.1,.int p.2] [.int p.1,.int p.2])=some true;simp[allEq,fS,EO]
 unfold jY;rw[this];rfl
theorem Mz:iN.fi [.non,.non]=.ok (.bl true):=by rw[iN.p_];rfl
theorem E7(h6:z.length<=6):iN.fi [aF z,aF z]=.ok (.bl true):=by
 rw[iN.p_];refine aD ?_;have n1:iS (aF z)=.ok _:=rfl;have t1:cW .tuple (aF z)=true:=rfl;have hl:z.length<=16777216:=by lia
 have i1:b7 (aF z)=.ok (.int z.length):=by simp[aF]
 unfold aF at n1 t1 i1 ⊢;simp[iN.nB,n1,t1,i1,zip_map,line,hl];refine dE (λ i ρ=>∃x2 x3,ρ=[v _,v _,x2,x3]) ⟨none,none,rfl⟩ ?_ ?_
 ·rintro j d ρ hj ⟨x3,x4,rfl⟩;rw[P3]at hj;obtain⟨⟨g,o⟩,hp,rfl⟩:=A56.mp hj;cases o with
  |none=>simp[cb]
  |some p=>
   have en:iS (aU p)=.ok _:=rfl;have en2:d6 (aU p)=.ok (.bl true):=rfl;have tt:cW .tuple (aU p)=true:=rfl;have wh:=EV;have cc:∀T,bK (dh (eW 2)) 1 [] (aJ 0) (dM (tE (aw KG.gF (aa (eV 0) av)))) (eV 0) [v T,v T,v (aU p),v (aU p)]=.ok []:=λ T=>by have it:jD (aU p)=.ok [.int p.1,.int p.2]:=rfl;simp[ba,cy,a9,wh,line,it]
   have ne:jY (.lst []) (.lst [])=.ok (.bl false):=rfl;have gX:∀ρ,fB [2,3] (.tup [aU p,aU p]) ρ=.ok ((ρ.set 2 (v (aU p))).set 3 (v (aU p))):=λ ρ=>rfl;generalize D.tup (z.map λ x=>cb x.2)=T;simp[gX,en,en2,tt,cc,ne,eqO]
 ·rintro ρ ⟨x3,x4,rfl⟩;simp
theorem Nn:kB .non (aF z)=.ok (.bl (fh z.length z)):=by
 have key:∀l:γ GO,fK .non (l.map λ x=>cb x.2)=some (!(l.all λ x=>x.2.isSome)):=by
  intro l
  induction l with
  |nil=>rfl
  |cons x l ih=>
   obtain⟨g,o⟩:=x;rw[A05,fK,ih];cases o with
   |none=>rfl
   |some p=>rfl
 show(match fK .non _ with|some b=>Res.ok _|none=>Res.bad)=_;rw[key];unfold fh;rw[A59];simp
theorem Bh(H:Hall rows C)(h6:xs.length<=6)(hg:∀x∈xs,GrpG x.1)(hk:Good rows xs)(hw:gR rows C xs<=2000)(ef:KB.a7 [cm rows,aP xs,fd]=.ok (aF xs))(e:bJ rows C true xs xs.length=b::r):
  KB.dH [cm rows,aP xs,fd]=.ok (aF (b0 true wS b r))/\KB.iu [cm rows,aP xs,fd]=.ok (.int (wS (b0 true wS b r))):=by
 have xo:=λ x hx=>(hg x hx).toGOk;have hi:=gA (C:=C) (sm:=true) hk (o0 _);have fr:=wz (sm:=true) H h6 xo hk hw;have sm:=rC H h6 xo ef hw;rw[e]at hi fr;have am:=zE h6 hg λ z hz=>(hi z hz).gs;have mem:b0 true wS b r∈b::r:=by
  rcases gZ r b with h|h
  ·rw[h];exact A12
  ·exact A09 _ h
 have e1:KB.dH [cm rows,aP xs,fd]=.ok (aF (b0 true wS b r)):=by rw[KB.qB];refine aD ?_;simp only[A05]at am fr;simp[KB.ju,sm,fr,am]
 refine⟨e1,?_⟩;have ew:=qY h6 hg (hi _ mem).gs;rw[KB.ue];refine aD ?_;simp[KB.k6,e1,ew]
theorem BI(H:Hall rows C)(xo:∀x∈xs,GOk x.1)(hk:Good rows xs):∃b r,bJ rows C true xs xs.length=b::r:=by
 have hx:=rH H xo ⟨rfl,λ _ _ _ e=>e⟩ hk (.inl rfl);cases e:bJ rows C true xs _ with
 |nil=>rw[e]at hx;cases hx
 |cons b r=>exact⟨b,r,rfl⟩
theorem Aj(H:Hall rows C)(h6:xs.length<=6)(hg:∀x∈xs,GrpG x.1)(Iy:∀x∈xs,GW x.1)(hk:Good rows xs)(hw:gR rows C xs<=2000)(ef:KB.a7 [cm rows,aP xs,fd]=.ok (aF xs)):
  iN.dR [cm rows,aP xs,.lst ((bJ rows C true xs xs.length).map aF),fd]=.ok (.bl true):=by
 have xo:=λ x hx=>(hg x hx).toGOk;obtain⟨b,r,eb⟩:=BI H xo hk;have hi:=gA (C:=C) (sm:=true) hk (o0 _);have ψ:=j4 (rows:=rows) (C:=C) (sm:=true) (xs:=xs) (o0 _);rw[A59]at ψ;have GZ:(b::r).length<=1000000:=by rw[<-eb];unfold gR at hw;lia
 have fl:=uX (C:=C) hk (o0 xs.length);have fo:=yY H h6 xo hk hw ef;have al:=EI H h6 hg hk hw ef;have pp:=yh H h6 xo hk hw ef;obtain⟨bs,bw⟩:=Bh H h6 hg hk hw ef eb;rw[eb]at hi fl ⊢;have m1:=Gk h6 Iy (λ z hz=>(hi z hz).gs) GZ;have mem:b0 true wS b r∈b::r:=by
  rcases gZ r b with h|h
  ·rw[h];exact A12
  ·exact A09 _ h
 have hlm:=jU (hi _ mem).gs;have t1:=E7 (z:=b0 true wS b r) (by lia);have w1:=vj h6 Iy (hi _ mem).gs;have PD:r.length+1<=16777216:=by simp at GZ;lia
 have c1:Ok (a9 (aJ 0) (tE (eB kB (eC .non) (eW 0))) (eV 0) [none] ((b::r).map aF)) λ ds=>ds=(bJ rows C false xs xs.length).map aF:=by refine bE aF (fh xs.length) aF (λ z hz=>?_) (by rw[fl]);have:=Nn (z:=z);rw[jU (hi z hz).gs]at this;simp[this]
 have e1:=c1.eq;have m8:∀z∈bJ rows C false xs xs.length,z∈b::r:=λ z hz=>by rw[<-fl]at hz;exact(A43.mp hz).1
 have L6:(bJ rows C false xs xs.length).length<=1000000:=by rw[<-fl];exact A16 (A70 _ _) GZ
 rw[iN.wI];refine aD ?_;simp only[A05]at m1 e1 ⊢;have Xu:jY (.int (wS (b0 true wS b r))) (.int (wS (b0 true wS b r)))=.ok (.bl false):=by simp
 cases ef2:bJ rows C false xs xs.length with
 |nil=>
  rw[ef2]at e1 fo al pp;rcases pp with⟨z,_⟩|⟨_,d,ep,hp1,Yj,hp3⟩
  ·exact absurd rfl z
  have lh:=DH H h6 xo ef (hp1 9);rw[Yj]at lh;simp only[A73]at e1;have ne:jY (.lst []) (.lst [])=.ok (.bl false):=rfl;simp[iN.jL,m1,ba,cy,bV,line,PD,e1,ne,bs,t1,al,Mz,fo,bw,w1,Xu,ep,hp3,lh]
 |cons b2 r2=>
  rw[ef2]at e1 fo al pp m8 L6;rcases pp with⟨_,ep⟩|⟨z,_⟩
  ·have m2:=Gk h6 Iy (b:=b2) (r:=r2) (λ z hz=>(hi z (m8 z hz)).gs) L6;have Xv:b0 true wS b2 r2∈b2::r2:=by
    rcases gZ (mx:=true) (w:=wS) r2 b2 with h|h
    ·rw[h];exact A12
    ·exact A09 _ h
   have t2:=E7 (z:=b0 true wS b2 r2) (by have:=jU (hi _ (m8 _ Xv)).gs;lia);have t3:=E7 (z:=b2) (by have:=jU (hi _ (m8 b2 A12)).gs;lia);simp only[A05]at e1 m2 al fo;have ne:jY (.lst (aF b2::r2.map aF)) (.lst [])=.ok (.bl true):=rfl;have ix:aI (.lst (aF b2::r2.map aF)) (.int 0)=.ok (aF b2):=(c9 (i:=0) (j:=0) rfl rfl).2;simp[iN.jL,m1,ba,cy,bV,line,PD,e1,ne,ix,m2,bs,t1,al,t2,fo,t3,bw,w1,Xu,ep]
  ·cases z
end
end
section
open Z KG KB KC
open KH
theorem GH(n:Nat):«zints» 0 n=(List.range n).map λ i=>D.int (i:Nat):=by simp[«zints»]
def jr(j:Nat)(z:γ GO):D:=.tup ((z.take j).map λ x=>cb x.2)
def nr(z:γ GO)(j:Nat):γ Nat:=(List.range j).filter λ i=>(z[i]?.bind (·.2)).isSome
def Mf(z:γ GO)(g:G)(p:Pl)(i:Nat):Bool:=match z[i]? with
 |some (h,some q)=>!b? h q g p
 |_=>false
theorem RJ{z:γ GO}{j:Nat}(hr:∀i,j<=i->∀h q,z[i]?≠some (h,some q)):((nr z j).filter (Mf z g p)).isEmpty=openAt z g j p:=by
 rw[A57,List.isEmpty_iff,B66,fY];constructor
 ·intro a i h q e D';have hi:=Nat.lt_of_not_le λ hh=>hr i hh h q e;have:=a i (A43.mpr ⟨A19.mpr hi,by rw[e];rfl⟩);unfold Mf at this;rw[e]at this;rw[mw];simpa using this
 ·intro a i hi;obtain⟨h1,h2⟩:=A43.mp hi;unfold Mf;split
  ·rename_i h q e;have:=a i h q e (A10 (A19.mp h1));rw[mw]at this;simp[this]
  ·simp
theorem Tj(l:γ Nat):oEq (.lst (l.map λ i=>D.int (i:Nat))) (.lst [])=.ok (.bl l.isEmpty):=by cases l<;>rfl
theorem Eg:jr z.length z=aF z:=by unfold jr aF;rw[A59]
theorem Ef{z:γ GO}{j:Nat}(e:z[j]?=some (g,none)):D.tup ((z.take j).map (λ x=>cb x.2)++[.non])=jr (j+1) z:=by unfold jr;rw[take_snoc e];simp
theorem Hl{z:γ GO}(hl:j<z.length)(p:Pl):D.tup ((z.take j).map (λ x=>cb x.2)++[aU p])=jr (j+1) (z.set j (g,some p)):=by unfold jr;rw[take_snoc (by rw[A31 hl]),List.take_set_of_le (o0 _)];simp
section
theorem ZP(H:Hall rows C)(h6:xs.length<=6)(hg:∀x∈xs,GOk x.1)(hk:Good rows xs)(hn:∀x∈xs,x.2=none)(hw:gR rows C xs<=2000):iN.kI [cm rows,aP xs]=.ok (.lst ((bJ rows C true xs xs.length).map aF)):=by
 rw[iN.A1];refine aD ?_;have hl:b7 (aP xs)=.ok (.int xs.length):=by simp[aP]
 simp[iN.pP,hl,line];refine dE (λ i ρ=>∃x3 x4 x5 x6 x7,ρ=[v (cm rows),v (aP xs),v (.lst ((bJ rows C true xs i).map (jr i))),x3,x4,x5,x6,x7]) ⟨none,none,none,none,none,by simp[bJ,jr]⟩ ?_ ?_
 ·rintro j d ρ hj ⟨x3,x4,x5,x6,x7,rfl⟩;obtain⟨Ca,rfl⟩:=ints_get hj;obtain⟨g,e⟩:=xw hn Ca;have YC:GOk g:=hg _ (A15 e);have ig:aI (aP xs) (.int (j:Nat))=.ok (bA g):=(c9 (xs:=xs.map λ y:GO=>bA y.1) (i:=j) (j:=j) rfl (by rw[P3,e];rfl)).1;have hi:=gA (C:=C) (sm:=true) hk (j:=j) (by lia);have ψ:=j4 (rows:=rows) (C:=C) (sm:=true) (xs:=xs) (j:=j) (by lia);have h1:=um (rows:=rows) (C:=C) xs (j+1);rw[l_ e,show km rows C (g,none)=(places rows C g).length+1 from rfl]at h1;have hB:(bJ rows C true xs j).length*((places rows C g).length+1)<=1000000:=by have:=B41 ((places rows C g).length+1) ψ;lia
  have pl:=vU H YC;rw[cS e];generalize bJ rows C true xs j=L at hi hB;simp[line];refine dE (λ i ρ=>∃(y5 y6 y7:ε Z.L),ρ=[v (cm rows),v (aP xs),v (.lst (L.map (jr j))),vi (j:Nat),ow (((L.take i).flatMap (gw rows C true g j)).map (jr (j+1))),y5,y6,y7]) ⟨x5,x6,x7,by simp⟩ ?_ ?_
  ·rintro i d ρ N0 ⟨y5,y6,y7,rfl⟩;rw[P3]at N0;obtain⟨z,hz,rfl⟩:=A56.mp N0;have hc:=hi z (A15 hz);have e2:z[j]?=some (g,none):=(hc.rest j (o0 _)).trans e;have VC:z.length<=6:=by rw[jU hc.gs];exact h6
   have _Z:j<z.length:=(A02.mp e2).1;have hr:∀i,j<=i->∀h q,z[i]?≠some (h,some q):=λ i D' h q ei=>by rw[hc.rest i D']at ei;exact nomatch hn _ (A15 ei)
   have L8:i<L.length:=(A02.mp hz).1;have Iz:((L.take i).flatMap (gw rows C true g j)).length<=(L.take i).length*((places rows C g).length+1):=ox λ x _=>rB;rw[A34,B11 (A80 L8)]at Iz;have SJ:i*((places rows C g).length+1)+((places rows C g).length+1)<=L.length*((places rows C g).length+1):=by rw[<-B38];exact B41 _ L8
   rw[take_snoc hz,List.flatMap_append];generalize (L.take i).flatMap (gw rows C true g j)=fs at Iz;have est:[z].flatMap (gw rows C true g j)=((places rows C g).filter (openAt z g j)).map (λ p=>z.set j (g,some p))++[z]:=by rw[B64,o3];simp[cg]
   rw[est];generalize places rows C g=ps at pl Iz SJ hB;have hps:ps.length<=16777216:=by lia
   simp[ig,pl,line,hps];refine dE (λ m ρ=>∃(y6 y7:ε Z.L),ρ=[v (cm rows),v (aP xs),v (.lst (L.map (jr j))),vi (j:Nat),ow ((fs++((ps.take m).filter (openAt z g j)).map λ p=>z.set j (g,some p)).map (jr (j+1))),v (jr j z),y6,y7]) ⟨y6,y7,by simp⟩ ?_ ?_
   ·rintro m d ρ hm ⟨y6,y7,rfl⟩;rw[P3]at hm;obtain⟨p,hp,rfl⟩:=A56.mp hm;have _X:m<ps.length:=(A02.mp hp).1;have D':∀i:Nat,i<j->∃h o,z[i]?=some (h,o):=λ i hi=>⟨_,_,A01 (by lia)⟩
    have _G:∀(i:Nat) h o,i<j->z[i]?=some (h,o)->aI (jr j z) (.int (i:Nat))=.ok (cb o):=λ i h o hi ei=>(c9 (xs:=(z.take j).map λ y:GO=>cb y.2) (i:=i) (j:=i) rfl (by rw[P3,B76 hi,ei];rfl)).1;have Vp:∀(i:Nat) h o,z[i]?=some (h,o)->aI (aP xs) (.int (i:Nat))=.ok (bA h):=λ i h o ei=>by rw[<-sk hc.gs];exact(c9 (xs:=z.map λ y:GO=>bA y.1) (i:=i) (j:=i) rfl (by rw[P3,ei];rfl)).1
    have c7:Ok (a9 (aJ 0) (tE (eU d6 (eB aI (eW 1) (eW 0)))) (eV 0) [none,v (jr j z)] («zints» 0 j)) λ ds=>ds=(nr z j).map λ i=>D.int (i:Nat):=by
     rw[GH];refine bE (λ i:Nat=>D.int (i:Nat)) (λ i=>(z[i]?.bind (·.2)).isSome) (λ i:Nat=>D.int (i:Nat)) (λ i hi=>?_) rfl;have hi:=A19.mp hi;obtain⟨h,o,ei⟩:=D' i hi;have ix:=_G i h o hi ei;rw[ei];cases o with
     |none=>have en:d6 D.non=.ok (.bl false):=rfl;simp[ix,cb,en]
     |some q=>have en:d6 (aU q)=.ok (.bl true):=rfl;simp[ix,cb,en]
    have c8:Ok (a9 (aJ 0) (dM (tE (aw KH.gG (aa (eB aI (eW 1) (eW 0)) (aa (eB aI (eW 2) (eW 0)) (aa (eB aI (eW 1) (eW 3)) (aa (eV 4) av))))))) (eV 0) [none,v (aP xs),v (jr j z),vi (j:Nat),v (aU p)] ((nr z j).map λ i=>D.int (i:Nat))) λ ds=>ds=((nr z j).filter (Mf z g p)).map λ i=>D.int (i:Nat):=by
     refine bE (λ i:Nat=>D.int (i:Nat)) (Mf z g p) (λ i:Nat=>D.int (i:Nat)) (λ i hi=>?_) rfl;obtain⟨KL,N0⟩:=A43.mp hi;have KL:=A19.mp KL;obtain⟨h,o,ei⟩:=D' i KL;rw[ei]at N0;cases o with
     |none=>cases N0
     |some q=>
      have ix:=_G i h _ KL ei;have ig2:=Vp i h _ ei;have ap:=KH.qv h q g p;have eb:Mf z g p i=!b? h q g p:=by unfold Mf;rw[ei]
      rw[eb];simp[ix,ig2,ig,cb,ap]
    have e7:=c7.eq;have e8:=c8.eq;have _y:(nr z j).length<=16777216:=by have:=A70 (λ i=>(z[i]?.bind (·.2)).isSome) (List.range j);rw[A94]at this;unfold nr;lia
    have B_:=RJ (g:=g) (p:=p) hr;have en:=Tj ((nr z j).filter (Mf z g p));rw[B_]at en;have YE:((ps.take m).filter (openAt z g j)).length<=m:=A16 (A70 _ _) (by rw[A34];lia);have cat:aX (jr j z) (.tup [aU p])=.ok (jr (j+1) (z.set j (g,some p))):=by rw[<-Hl _Z p];exact yA _ _ (by simp[line];lia)
    rw[take_snoc hp,B02];generalize (ps.take m).filter (openAt z g j)=qs at YE;have ha:fs.length+qs.length<16777216:=by lia
    generalize jr j z=T at e7 e8 cat;cases ho:openAt z g j p with
    |true=>rw[ho]at en;simp[ba,cy,bV,line,e7,_y,e8,en,cat,ha,ho];lia
    |false=>rw[ho]at en;simp[ba,cy,bV,line,e7,_y,e8,en,ho];lia
   ·rintro ρ ⟨y6,y7,rfl⟩;rw[A03,A59];have YE:=A70 (openAt z g j) ps;have cat:aX (jr j z) (.tup [.non])=.ok (jr (j+1) z):=by rw[<-Ef e2];exact yA _ _ (by simp[line];lia)
    generalize ps.filter (openAt z g j)=qs at YE;have ha:fs.length+qs.length<16777216:=by lia
    generalize jr j z=T at cat;simp[cat,line,ha]
  ·rintro ρ ⟨y5,y6,y7,rfl⟩;rw[A03,A59];simp
 ·rintro ρ ⟨x3,x4,x5,x6,x7,rfl⟩;rw[jh];have hi:=gA (C:=C) (sm:=true) hk (o0 xs.length);have:(bJ rows C true xs xs.length).map (jr xs.length)=(bJ rows C true xs xs.length).map aF:=A67 λ z hz=>by rw[<-jU (hi z hz).gs];exact Eg
  rw[this];simp
end
end
section
open Z KG KB KC
open KH
def toG(g:KS.Gp):G:=⟨g.nm,g.w,g.d,g.kd,g.wi,g.ga,.int g.wo,.tup (g.ws.map KS.fq)⟩
theorem ES(l:γ _):l.map KS.fq=(l.map λ p=>((p.1),(p.2))).map aU:=by rw[A14];rfl
theorem toG_ok(k:KS.ie g):GrpG (toG g):=Y4 k.w1 k.w2 k.d1 k.d2 k.kd k.wi k.ga ⟨g.wo,g.ws.map λ p=>((p.1),(p.2)),by rw[A03];exact k.wl,rfl,by rw[<-ES];rfl⟩
theorem toG_w(k:KS.ie g):GW (toG g):=⟨g.wo,g.ws.map λ p=>((p.1),(p.2)),by rw[A03];exact k.wl,rfl,by rw[<-ES];rfl,by rw[A14];refine C24.mpr ((C24.mp k.up).imp λ {a b} h e=>?_);have:=e;lia⟩
theorem Tn(n:Int)(k:Nat):fS (k+1) (.int n) (.int n)=some true:=by show some _=_;simp
theorem Zg(t:γ Nat)(k:Nat):fS (k+1) (.str t) (.str t)=some true:=by show some _=_;simp
theorem Hi:∀{l},(∀d∈l,f d d=some true)->allEq f l l=some true
 |[],_=>rfl
 |d::l,h=>by simp[allEq,h d _,Hi λ x hx=>h x (A09 _ hx)]
theorem Zj(g:KS.Gp):fS 5 (KS.b_ g) (KS.b_ g)=some true:=by
 show allEq _ [.str g.nm,.int g.w,.int g.d,.str g.kd,.int g.wi,.int g.ga,.int g.wo,.tup _] [.str g.nm,.int g.w,.int g.d,.str g.kd,.int g.wi,.int g.ga,.int g.wo,.tup _]=some true;have e3:fS 4 (.tup (g.ws.map KS.fq)) (.tup (g.ws.map KS.fq))=some true:=by refine Hi λ d hd=>?_;obtain⟨p,_,rfl⟩:=A08.mp hd;show allEq _ [.int p.1,.int p.2] [.int p.1,.int p.2]=some true;simp[allEq,Tn]
 simp[allEq,Tn,Zg,e3]
theorem Ct{α:Type}(P:Nat->α->Prop)(enc:α->D)(h:∀i,i<n->∃a,P i a/\Ok (g (.int (i)) ρ) λ ρ1=>Ok (e ρ1) λ y=>y=enc a):
  Ok (a9 g bD e ρ («zints» 0 n)) λ ds=>∃as:γ α,as.length=n/\(∀i a,as[i]?=some a->P i a)/\ds=as.map enc:=by
 obtain⟨f,hf⟩:=Classical.axiomOfChoice (λ i:Fin n=>h i.1 i.2);have e1:«zints» 0 n=(List.ofFn (λ i:Fin n=>i)).map λ i=>D.int (i.1):=by rw[GH];refine B39 (by simp) λ k h1 h2=>by simp
 rw[e1];refine bE (λ i=>D.int (i.1)) (λ _=>true) (λ i=>enc (f i)) (λ i _=>?_) ?_
 ·obtain⟨ρ1,q1,y,q2,q3⟩:=(hf i).2;exact⟨ρ1,q1,true,rfl,rfl,λ _=>⟨y,q2,q3⟩⟩
 ·refine⟨(List.ofFn (λ i=>i)).map f,by simp,λ i a ha=>?_,?_⟩
  ·rw[P3]at ha;obtain⟨j,hj,rfl⟩:=A56.mp ha;rw[List.getElem?_ofFn]at hj;split at hj
   ·rename_i lN;cases hj;exact(hf ⟨i,lN⟩).1
   ·cases hj
  ·rw[su,A14];rfl
theorem qa:∀{xs}{i}{d},d∈gm i xs->∃k x,xs[k]?=some x/\d=.tup [.int ((i+k:Nat)),x]
 |[],_,_,h=>nomatch h
 |x::xs,i,d,h=>by
  rcases v6.mp h with rfl|h
  ·exact⟨0,x,rfl,rfl⟩
  ·obtain⟨k,y,e,rfl⟩:=qa h;exact⟨k+1,y,by simpa using e,by rw[show i+1+k=i+(k+1)by lia]⟩
theorem e?(h:Ok (e ρ) λ y=>y=d)(k:Ok (b (ρ.set i (some (.val d)))) Q):Ok (ay (aO i e) b ρ) Q:=by obtain⟨y,e1,rfl⟩:=h;simp[e1];exact k
theorem qM(h:Ok (t ρ) λ y=>y=false)(k:Ok (b ρ) Q):Ok (ay (d! t a aT) b ρ) Q:=by obtain⟨y,e1,rfl⟩:=h;simp[e1];exact k
theorem GK(h:Ok (t ρ) λ y=>y=true)(k:Ok (e ρ) λ y=>y=d)(q:Q (.rt d)):Ok (ay (d! t (aR e) aT) b ρ) Q:=by obtain⟨y,e1,rfl⟩:=h;obtain⟨y,e2,rfl⟩:=k;simp[e1,e2];exact q
theorem Zh(o:ε Pl)(p0:Pl):oEq (cb o) (aU p0)=.ok (.bl (decide (o=some p0))):=by
 cases o with
 |none=>rfl
 |some p=>
  have:i' (aU p) (aU p0)=some (decide (p=p0)):=by have:=Th p p0;exact this
  unfold oEq;rw[Ei,this];simp
end
section
open Z KG KB KC
open KH
theorem Ox{ns:γ Int}(hb:Bd ns){c0:Int}{n:Nat}(hn:n<=4){mi:γ (γ Nat)}(VG:mi.length=n)(Yo:∀x∈mi,KS.Ib x):
  ∃(cs:γ Int)(Cd:γ KS.Gp),Cd.length=n/\(∀g∈Cd,KS.ie g) /\
   a9 (aJ 0) bD (aw KG.aN (aa (eV 1) (aa (eB aX (eC (.int 3)) (eW 0)) av))) [none,v (.lst (ns.map .int))] («zints» 0 n)=.ok (cs.map .int) /\
   a9 (aJ 0) bD (aw KS.fE (aa (eB aI (eW 1) (eW 0)) (aa (eB aI (eW 2) (eW 0)) (aa (aw KA.bN (aa (eV 3) av)) av)))) [none,v (.lst (cs.map .int)),v (.lst (mi.map .str)),vi c0] («zints» 0 n)=.ok (Cd.map KS.b_):=by
 have c1:Ok (a9 (aJ 0) bD (aw KG.aN (aa (eV 1) (aa (eB aX (eC (.int 3)) (eW 0)) av))) [none,v (.lst (ns.map .int))] («zints» 0 n)) λ ds=>∃cs:γ Int,cs.length=n/\(∀(i:Nat) a,cs[i]?=some a->bits a<=2^20)/\ds=cs.map .int:=by refine Ct (λ _ a=>bits a<=2^20) D.int λ i hi=>?_;obtain⟨c,ec,hc⟩:=i4 hb (k:=3+(i:Nat)) (by lia);exact⟨c,hc,by simp[ec]⟩
 obtain⟨ds,q1,cs,uS,hcb,rfl⟩:=c1;obtain⟨a,b,ha,AU,el⟩:=KA.kE c0;have c2:Ok (a9 (aJ 0) bD (aw KS.fE (aa (eB aI (eW 1) (eW 0)) (aa (eB aI (eW 2) (eW 0)) (aa (aw KA.bN (aa (eV 3) av)) av)))) [none,v (.lst (cs.map .int)),v (.lst (mi.map .str)),vi c0] («zints» 0 n)) λ ds=>∃Cd:γ KS.Gp,Cd.length=n/\(∀(i:Nat) a,Cd[i]?=some a->KS.ie a)/\ds=Cd.map KS.b_:=by
  refine Ct (λ _ a=>KS.ie a) KS.b_ λ i hi=>?_;obtain⟨c,ec⟩:∃c,cs[i]?=some c:=⟨_,A01 (by lia)⟩
  obtain⟨nm,en⟩:∃nm,mi[i]?=some nm:=⟨_,A01 (by lia)⟩
  obtain⟨g,kg,_,eg⟩:=KS.G5 (hcb i c ec) (Yo nm (A15 en)) ha AU;have i1:aI (.lst (cs.map .int)) (.int (i:Nat))=.ok (.int c):=(c9 (i:=i) (j:=i) rfl (by rw[P3,ec];rfl)).2;have i2:aI (.lst (mi.map .str)) (.int (i:Nat))=.ok (.str nm):=(c9 (i:=i) (j:=i) rfl (by rw[P3,en];rfl)).2;exact⟨g,kg,by simp[i1,i2,el,eg]⟩
 obtain⟨ds,q2,Cd,VI,VJ,rfl⟩:=c2;refine⟨cs,Cd,VI,λ g hg=>?_,q1,q2⟩;obtain⟨i,hi⟩:=C46.mp hg;exact VJ i g hi
theorem RX(c:Int):∃n,n<=4/\aI (.lst [.int 4,.int 3,.int 2,.int 4,.int 1,.int 3,.int 0,.int 4]) (.int (c % 8))=.ok (.int (n:Nat)):=by
 obtain⟨j,hj⟩:=jf (z:=c % 8) (by lia);have hl:j<8:=by lia
 rw[hj];have key:∀j:Fin 8,∃n,n<=4/\aI (.lst [.int 4,.int 3,.int 2,.int 4,.int 1,.int 3,.int 0,.int 4]) (.int ((j.1)))=.ok (.int (n:Nat)):=by
  intro j
  match j with
  |0=>exact⟨4,by decide,rfl⟩
  |1=>exact⟨3,by decide,rfl⟩
  |2=>exact⟨2,by decide,rfl⟩
  |3=>exact⟨4,by decide,rfl⟩
  |4=>exact⟨1,by decide,rfl⟩
  |5=>exact⟨3,by decide,rfl⟩
  |6=>exact⟨0,by decide,rfl⟩
  |7=>exact⟨4,by decide,rfl⟩
 exact key ⟨j,hl⟩
theorem TY{hs:γ G}(h6:hs.length<=4)(hk:∀h∈hs,∃g,KS.ie g/\toG g=h):a9 (aJ 0) bD (aw KS.eM (aa (eB iO (eC (.str [32])) (aw KS.cD (aa (eV 0) av))) av)) [none] (hs.map bA)=.ok (hs.map bA)/\jY (.tup (hs.map bA)) (.tup (hs.map bA))=.ok (.bl false):=by
 constructor
 ·have:Ok (a9 (aJ 0) bD (aw KS.eM (aa (eB iO (eC (.str [32])) (aw KS.cD (aa (eV 0) av))) av)) [none] (hs.map bA)) λ ds=>ds=hs.map bA:=by
   refine bE bA (λ _=>true) bA (λ h hh=>?_) (by rw[su];rfl);obtain⟨g,k,rfl⟩:=hk h hh;have ew:=KS.ET k;have er:=KS.Jp k;have ej:=KS.B5 (ts:=KS.bP g) (by have:=KS.l! k;lia) λ x hx=>by have:=KS.mR k x hx;lia
   rw[show bA _=KS.b_ g from rfl];simp[ew,ej,er]
  exact this.eq
 ·have:i' (.tup (hs.map bA)) (.tup (hs.map bA))=some true:=by refine Hi λ d hd=>?_;obtain⟨h,hh,rfl⟩:=A08.mp hd;obtain⟨g,k,rfl⟩:=hk h hh;exact Zj g
  unfold jY;rw[this];rfl
def pN:D->Bool
 |.tup [_,.non]=>false
 |_=>true
def hN:D->D
 |.tup [k,_]=>k
 |_=>.non
theorem Qu(z:γ GO):∃ks:γ Nat,(∀k∈ks,∃g p,z[k]?=some (g,some p))/\a9 (fB [0,1]) (tE (eU d6 (eW 1))) (eV 0) [none,none] (gm 0 (z.map λ x=>cb x.2))=.ok (ks.map λ k=>D.int (k:Nat)):=by
 have key:∀d∈gm 0 (z.map λ x=>cb x.2),∃k g o,z[k]?=some (g,o)/\d=.tup [.int (k:Nat),cb o]:=λ d hd=>by obtain⟨k,x,e,rfl⟩:=qa hd;rw[P3]at e;obtain⟨⟨g,o⟩,e2,rfl⟩:=A56.mp e;exact⟨k,g,o,e2,by rw[B31]⟩
 have c:Ok (a9 (fB [0,1]) (tE (eU d6 (eW 1))) (eV 0) [none,none] (gm 0 (z.map λ x=>cb x.2))) λ ds=>ds=((gm 0 (z.map λ x=>cb x.2)).filter pN).map hN:=by
  refine Cs pN hN (λ d hd=>?_) rfl;obtain⟨k,g,o,e,rfl⟩:=key d hd;have gX:∀x ρ,fB [0,1] (.tup [.int (k:Nat),x]) ρ=.ok ((ρ.set 0 (vi (k:Nat))).set 1 (v x)):=λ x ρ=>rfl;cases o with
  |none=>have en:d6 D.non=.ok (.bl false):=rfl;simp[gX,cb,en,pN]
  |some p=>have en:d6 (aU p)=.ok (.bl true):=rfl;have hp:pN (.tup [.int (k:Nat),aU p])=true:=rfl;have hh:hN (.tup [.int (k:Nat),aU p])=.int (k:Nat):=rfl;simp[gX,en,hp,hh]
 have hm:∀d∈((gm 0 (z.map λ x=>cb x.2)).filter pN).map hN,∃k,d=.int (k:Nat)/\∃g p,z[k]?=some (g,some p):=λ d hd=>by
  obtain⟨d',pq,rfl⟩:=A08.mp hd;obtain⟨h1,h2⟩:=A43.mp pq;obtain⟨k,g,o,e,rfl⟩:=key d' h1;cases o with
  |none=>cases h2
  |some p=>exact⟨k,rfl,g,p,e⟩
 rw[c.eq];generalize ((gm 0 (z.map λ x=>cb x.2)).filter pN).map hN=ds at hm;have:∀ds,(∀d∈ds,∃k,d=.int (k:Nat)/\∃g p,z[k]?=some (g,some p))->∃ks:γ Nat,(∀k∈ks,∃g p,z[k]?=some (g,some p))/\ds=ks.map λ k=>D.int (k:Nat):=by
  intro ds
  induction ds with
  |nil=>exact λ _=>⟨[],(λ _ h=>nomatch h),rfl⟩
  |cons d ds ih=>
   intro h;obtain⟨k,rfl,hk⟩:=h d A12;obtain⟨ks,h1,rfl⟩:=ih λ d hd=>h d (A09 _ hd);exact⟨k::ks,λ k' Sx=>by
    rcases v6.mp Sx with rfl|Sx
    ·exact hk
    ·exact h1 k' Sx,rfl⟩
 obtain⟨ks,h1,rfl⟩:=this ds hm;exact⟨ks,h1,rfl⟩
end
section
open Z KG KB KC
open KH
theorem good_none(hn:∀x∈xs,x.2=none):Good rows xs:=λ i g p e=>by cases hn _ (A15 e)
theorem G7{xs:γ GO}(hn:∀x∈xs,x.2=none){k0:Nat}(e0:xs[k0]?=some (g0,none))(hf:cX rows g0 p0=true):Good rows (xs.set k0 (g0,some p0)):=by
 have key:∀i g p,(xs.set k0 (g0,some p0))[i]?=some (g,some p)->i=k0/\g=g0/\p=p0:=λ i g p e=>by
  rw[A38]at e;split at e
  ·rename_i h;split at e
   ·cases e;exact⟨h.symm,rfl,rfl⟩
   ·cases e
  ·cases hn _ (A15 e)
 intro i g p e;obtain⟨rfl,rfl,rfl⟩:=key i g p e;exact⟨hf,λ j h q ej p7=>absurd (key j h q ej).1 p7⟩
theorem Td{xs:γ GO}(H:Hall rows C)(h6:xs.length<=6)(hg:∀x∈xs,GrpG x.1)(Iy:∀x∈xs,GW x.1)(hn:∀x∈xs,x.2=none)(hw:gc rows C (xs.map (·.1))<=2000){k0:Nat}(e0:xs[k0]?=some (g0,none))(hp:p0∈places rows C g0):
  iN.dR [cm rows,aP xs,.lst (((bJ rows C true xs xs.length).filter (xr k0 p0)).map aF),aF (xs.set k0 (g0,some p0))]=.ok (.bl true):=by
 have xn:=(A02.mp e0).1;have hf:=KH.jT hp;have GX:(xs.set k0 (g0,some p0)).map (·.1)=xs.map (·.1):=by
  refine B65 λ i=>?_;rw[P3,P3,A38];split
  ·rename_i h;subst h;rw[e0];simp
  ·rfl
 have hx:∀x∈xs.set k0 (g0,some p0),∃y∈xs,y.1=x.1:=λ x hx=>by
  have:x.1∈xs.map (·.1):=by rw[<-GX];exact A08.mpr ⟨x,hx,rfl⟩
  obtain⟨y,hy,e⟩:=A08.mp this;exact⟨y,hy,e⟩
 have hk:=G7 hn e0 hf;have hl:(xs.set k0 (g0,some p0)).length=xs.length:=B20;have PL:=λ x h=>let ⟨y,hy,e⟩:=hx x h;e▸hg y hy;have YB:=λ x h=>let ⟨y,hy,e⟩:=hx x h;e▸Iy y hy;have ef:=uZ H (by rw[hl];exact h6) (λ x h=>(PL x h).toGOk) hk;have r:=Aj H (by rw[hl];exact h6) PL YB hk (A16 (Bw GX) hw) ef;rw[hl,Hc (good_none hn) hn e0 hp (vT rows C g0) xn (o0 _),sk GX]at r;exact r
theorem holds(ns:γ Int)(hn:ns.length<=63)(hb:∀i∈ns,bits i<=2^20):iN.pB [.lst (ns.map .int)]=.ok (.bl true):=by
 have hB:Bd ns:=hb;have hx:KA.Ih (cut (ns.map D.int) (some 8) none):=λ d hd=>by obtain⟨c,_,rfl⟩:=A08.mp (Z.J_ hd);exact⟨c,rfl⟩
 obtain⟨c0,e0,_⟩:=i4 hB (k:=0) (by decide);obtain⟨c1,e1,_⟩:=i4 hB (k:=1) (by decide);obtain⟨c2,e2,_⟩:=i4 hB (k:=2) (by decide);obtain⟨c7,e7,_⟩:=i4 hB (k:=7) (by decide);obtain⟨R,L,rows,HA,eh⟩:=N? hx c0;obtain⟨n,hn4,em⟩:=RX c1;obtain⟨mi,VG,Yo,en⟩:=KS.Gg c2 n (by lia);obtain⟨cs,Cd,VI,VJ,ecs,egs⟩:=Ox (c0:=c0) hB hn4 VG Yo;have HG:Mj rows L:=SW (by rw[HA.len];exact HA.r1) (by rw[HA.len];exact HA.r2) HA.l1 HA.l2 λ x hx=>⟨HA.each x hx,HA.sg x hx⟩
 have H:=HG.toHall;have Zr:Cd.map KS.b_=(Cd.map toG).map bA:=by rw[A14];rfl
 obtain⟨hs,L4,m8,_M,efw⟩:=Oh H (gs:=Cd.map toG) (by rw[A03];lia) (λ g hg=>by obtain⟨g',PL,rfl⟩:=A08.mp hg;exact(toG_ok (VJ g' PL)).toGOk) (most:=240) (by decide) (by decide)
 have Sv:∀h∈hs,∃g,KS.ie g/\toG g=h:=λ h hh=>by obtain⟨g,hg,e⟩:=A08.mp (m8 h hh);exact⟨g,VJ g hg,e⟩
 have hs4:hs.length<=4:=by rw[A03]at L4;lia
 obtain⟨xs,NO⟩:∃xs:γ GO,xs=hs.map λ h=>(h,none):=⟨_,rfl⟩
 have X8:xs.length=hs.length:=by rw[NO,A03]
 have GX:xs.map (·.1)=hs:=by rw[NO,A14];exact List.map_id _
 have egx:aP xs=.tup (hs.map bA):=by rw[NO];unfold aP;rw[A14];rfl
 have uR:∀x∈xs,x.2=none:=λ x hx=>by rw[NO]at hx;obtain⟨h,_,rfl⟩:=A08.mp hx;rfl
 have PK:∀x∈xs,GrpG x.1:=λ x hx=>by rw[NO]at hx;obtain⟨h,hh,rfl⟩:=A08.mp hx;obtain⟨g,k,rfl⟩:=Sv h hh;exact toG_ok k
 have Iy:∀x∈xs,GW x.1:=λ x hx=>by rw[NO]at hx;obtain⟨h,hh,rfl⟩:=A08.mp hx;obtain⟨g,k,rfl⟩:=Sv h hh;exact toG_w k
 have xo:∀x∈xs,GOk x.1:=λ x hx=>(PK x hx).toGOk;have hk:=good_none (rows:=rows) uR;have _P:gc rows L (xs.map (·.1))<=2000:=by rw[GX];lia
 have hw:gR rows L xs<=2000:=A16 (Bw rfl) _P;have h6:xs.length<=6:=by lia
 have ej:=DR HA;have er:=vR HA;have ehn:jY (.tup (rows.map .str)) (.tup (rows.map .str))=.ok (.bl false):=by have:i' (.tup (rows.map D.str)) (.tup (rows.map .str))=some (decide (rows=rows)):=Hf rows rows;unfold jY;rw[this];simp
 obtain⟨bk,bkn⟩:=TY hs4 Sv;have al:=ZP H h6 xo hk uR hw;have r1:=Aj H h6 PK Iy hk hw (Ed H h6 xo uR);have r2:=Aj H h6 PK Iy hk hw (uZ H h6 xo hk);have rf:=λ k0 g0 p0 e0 hp=>Td (k0:=k0) (g0:=g0) (p0:=p0) H h6 PK Iy uR _P e0 hp;obtain⟨b,r,eb⟩:=BI H xo hk;have hi:=gA (C:=L) (sm:=true) hk (o0 xs.length);have ψ:=j4 (rows:=rows) (C:=L) (sm:=true) (xs:=xs) (o0 _);rw[A59]at ψ;have GZ:(bJ rows L true xs xs.length).length<=1000000:=by unfold gR at hw;lia
 rw[eb]at hi GZ al r1 r2 rf;have mo:=Gk h6 Iy (b:=b) (r:=r) (λ z hz=>(hi z hz).gs) GZ;have mem:b0 true wS b r∈b::r:=by
  rcases gZ (mx:=true) (w:=wS) r b with h|h
  ·rw[h];exact A12
  ·exact A09 _ h
 have hm:=hi _ mem;have _X:=jU hm.gs;generalize b0 true wS b r=m at mo mem hm _X;obtain⟨ks,Yy,Zd⟩:=Qu m;have acj:mi.length<=16777216:=by lia
 rw[iN.Oi];refine aD ?_;unfold iN.HV;refine e? (d:=.int c0) (by simp[e0]) ?_;refine e? (d:=cm rows) (by simp[Gv,eh];rfl) ?_;refine e? (d:=.int (n:Nat)) (by simp[e1,em,line]) ?_;refine e? (d:=.lst (mi.map .str)) (by simp[e2,en]) ?_;have Yn:n<=16777216:=by lia
 refine e? (d:=.lst (cs.map .int)) (by simp[ba,cy,bV,line,Yn,ecs]) ?_;refine e? (d:=.lst (Cd.map KS.b_)) (by simp[ba,cy,bV,line,Yn,egs]) ?_;rw[Zr];refine e? (d:=.tup (hs.map bA)) (by rw[A14]at efw;simp[efw]) ?_;refine qM (by unfold cm;simp[ej,er,ehn]) ?_;have GS:hs.length<=16777216:=by lia
 refine qM (by simp[ba,cy,bV,line,GS,bk,bkn]) ?_;rw[<-egx];refine e? (d:=.lst ((b::r).map aF)) (by simp[al]) ?_;refine qM (by simp only[A05]at r1;simp[r1]) ?_;have Ys:m.length<=16777216:=by lia
 have it:jD (aF m)=.ok (m.map λ x=>cb x.2):=rfl;have hel:(gm 0 (m.map λ x=>cb x.2)).length<=16777216:=by
  have:∀l i,(gm i l).length=l.length:=by
   intro l
   induction l with
   |nil=>exact λ _=>rfl
   |cons d l ih=>exact λ i=>by simp[gm,ih]
  rw[this,A03];exact Ys
 simp only[A05]at mo;refine e? (d:=.lst (ks.map λ k=>D.int (k:Nat))) (by simp[ba,cy,bV,line,mo,it,hel,Zd]) ?_;have RG:a9 (aJ 0) bD (eC .non) [none] (hs.map bA)=.ok (xs.map λ x=>cb x.2):=by
  have:Ok (a9 (aJ 0) bD (eC .non) [none] (hs.map bA)) λ ds=>ds=(hs.map λ _=>D.non):=by refine bE bA (λ _=>true) (λ _=>.non) (λ h hh=>by simp) (by rw[su];rfl)
  rw[this.eq,NO,A14];rfl
 have _H:jD (aP xs)=.ok (hs.map bA):=by rw[egx];rfl
 have _r:iN.dR [cm rows,aP xs,.lst (aF b::r.map aF),.tup (xs.map λ x=>cb x.2)]=.ok (.bl true):=by simp only[A05]at r2;exact r2
 by_cases hc:c7 % 2=0
 ·refine GK (d:=.bl true) (by simp[e7,hc]) ?_ rfl;simp[ba,cy,bV,line,_H,GS,RG,_r]
 cases ks with
 |nil=>have eq0:oEq (.lst []) (.lst [])=.ok (.bl true):=rfl;refine GK (d:=.bl true) (by simp[e7,hc,eq0]) ?_ rfl;simp[ba,cy,bV,line,_H,GS,RG,_r]
 |cons k0 kt=>
  have eq1:oEq (.lst ((k0::kt).map λ k=>D.int (k:Nat))) (.lst [])=.ok (.bl false):=rfl;refine qM (by simp only[A05]at eq1;simp[e7,hc,eq1]) ?_;obtain⟨g0,q0,Zo⟩:=Yy k0 A12;have PH:k0<xs.length:=by have:=(A02.mp Zo).1;lia
  obtain⟨EN,Oj⟩:=xw uR PH;have YC:EN=g0:=by have z:=A22 (λ l=>l[k0]?) hm.gs;simp only[P3,Zo,Oj,A83,A99]at z;exact z.symm
  subst YC;have SH:GOk EN:=xo _ (A15 Oj);have PB:q0∈places rows L EN:=yX H SH (hm.good k0 EN q0 Zo).1;have pl:=vU H SH;obtain⟨pi,p0,_U⟩:∃pi p0,places rows L EN=pi++[p0]:=by
   have p7:places rows L EN≠[]:=λ e=>by rw[e]at PB;cases PB
   exact⟨_,_,(List.dropLast_concat_getLast p7).symm⟩
  have hp0:p0∈places rows L EN:=by rw[_U];simp
  have ipl:aI (.lst ((places rows L EN).map aU)) (.int (-1))=.ok (aU p0):=by
   rw[_U,BU,A03,A23];have hz:ph (pi.length+[p0].length) (-1)=some pi.length:=by simp[ph];lia
   rw[hz];simp[atK]
  have igk:aI (aP xs) (.int (k0:Nat))=.ok (bA EN):=(c9 (xs:=xs.map λ y:GO=>bA y.1) (i:=k0) (j:=k0) rfl (by rw[P3,Oj];rfl)).1;have Vt:aI (.lst (D.int (k0:Nat)::kt.map λ k=>D.int (k:Nat))) (.int 0)=.ok (.int (k0:Nat)):=(c9 (i:=0) (j:=0) rfl rfl).2;refine e? (d:=aU p0) (by simp[Vt,igk,pl,ipl]) ?_;have Yu:b7 (aP xs)=.ok (.int xs.length):=by simp[aP]
  have cf:a9 (aJ 0) bD (eB aI (eL (bg (aa (eC .non) (aa (eV 1) av)))) (eU t5 (eB oEq (eW 0) (eB aI (eW 2) (eC (.int 0)))))) [none,v (aU p0),v (.lst (D.int (k0:Nat)::kt.map λ k=>D.int (k:Nat)))] («zints» 0 xs.length)=.ok ((xs.set k0 (EN,some p0)).map λ x=>cb x.2):=by
   have:Ok (a9 (aJ 0) bD (eB aI (eL (bg (aa (eC .non) (aa (eV 1) av)))) (eU t5 (eB oEq (eW 0) (eB aI (eW 2) (eC (.int 0)))))) [none,v (aU p0),v (.lst (D.int (k0:Nat)::kt.map λ k=>D.int (k:Nat)))] («zints» 0 xs.length)) λ ds=>ds=(List.range xs.length).map λ i=>if i=k0 then aU p0 else .non:=by
    rw[GH];refine bE (λ i:Nat=>D.int (i:Nat)) (λ _=>true) (λ i=>if i=k0 then aU p0 else .non) (λ i hi=>?_) (by rw[su];rfl);have ia:aI (.lst [.non,aU p0]) (.int 0)=.ok .non:=rfl;have ib:aI (.lst [.non,aU p0]) (.int 1)=.ok (aU p0):=rfl;by_cases e:i=k0
    ·subst e;simp[Vt,ia,ib,line]
    ·have:¬((i:Int)=(k0:Int)):=by lia
     simp[Vt,ia,ib,line,e,this]
   rw[this.eq];refine A22 Res.ok (B65 λ i=>?_);rw[P3,P3,A38];by_cases e:k0=i
   ·subst e;simp[PH]
   ·by_cases hi:i<xs.length
    ·obtain⟨g,eg⟩:=xw uR hi;rw[f8 e,eg,List.getElem?_range hi];simp[A06 e]
    ·rw[f8 e,B49 (by simpa using hi),B49 (by simpa using hi)];rfl
  have X7:xs.length<=16777216:=by lia
  refine e? (d:=aF (xs.set k0 (EN,some p0))) (by simp[ba,cy,bV,line,Yu,X7,cf];unfold aF;rw[B63];rfl) ?_;have fin:=rf k0 EN p0 Oj hp0;have cl:a9 (aJ 0) (tE (eB oEq (eB aI (eW 0) (eB aI (eW 1) (eC (.int 0)))) (eW 2))) (eV 0) [none,v (.lst (D.int (k0:Nat)::kt.map λ k=>D.int (k:Nat))),v (aU p0)] ((b::r).map aF)=.ok (((b::r).filter (xr k0 p0)).map aF):=by
   have:Ok (a9 (aJ 0) (tE (eB oEq (eB aI (eW 0) (eB aI (eW 1) (eC (.int 0)))) (eW 2))) (eV 0) [none,v (.lst (D.int (k0:Nat)::kt.map λ k=>D.int (k:Nat))),v (aU p0)] ((b::r).map aF)) λ ds=>ds=((b::r).filter (xr k0 p0)).map aF:=by
    refine bE aF (xr k0 p0) aF (λ z hz=>?_) rfl;obtain⟨⟨g,o⟩,ez⟩:∃y,z[k0]?=some y:=⟨_,A01 (by rw[jU (hi z hz).gs];exact PH)⟩
    have iz:aI (aF z) (.int (k0:Nat))=.ok (cb o):=(c9 (xs:=z.map λ y:GO=>cb y.2) (i:=k0) (j:=k0) rfl (by rw[P3,ez];rfl)).1;have ea:xr k0 p0 z=decide (o=some p0):=by unfold xr;rw[ez];rfl
    simp[Vt,iz,Zh,ea]
   exact this.eq
  have hbr:r.length+1<=16777216:=by simp at GZ;lia
  simp only[A05]at cl;simp[ba,cy,bV,line,hbr,cl,fin]
end
end iN
set_option maxRecDepth 100000
namespace iN
open PySem PySem.Spec PyProof.Rows L2 ZQ KG KH KB KC KA KS
def top(i:Nat):ν:=PySem.Challenge.pw_besideseats_k90_whole_from_texts.main.body.getD i (.Pass ⟨0,0,0,0⟩)
theorem CC:bootBuiltins "bool"=some (.type "bool"):=by kernel_rfl
theorem Lp:bootBuiltins "dict"=some (.type "dict"):=by kernel_rfl
theorem sW:bootBuiltins "int"=some (.type "int"):=by kernel_rfl
theorem a!:bootBuiltins "isinstance"=some (.builtin "isinstance"):=by kernel_rfl
theorem xf:bootBuiltins "max"=some (.builtin "max"):=by kernel_rfl
theorem OZ:bootBuiltins "min"=some (.builtin "min"):=by kernel_rfl
theorem pM:bootBuiltins "str"=some (.type "str"):=by kernel_rfl
theorem iF:bootBuiltins "tuple"=some (.type "tuple"):=by kernel_rfl
abbrev vJ:ν:=top 61
theorem mF:c6 ["groups","seatings"] ["groups","seatings"] (aB vJ):=ZS.S!
abbrev rJ:ν:=top 73
theorem k?:c6 ["groups","places","seating","waiting","k","spots","papers"] ["groups","places","seating"] (aB rJ):=ZS.S!
structure Fs(K:W.Frag)(mg:Str->Option Value)(h:Heap)where
 X:K.In h
 G:h.Ns mainGlobals mg
 z6:ZS.bW K "is_whole" (top 6)
 nP:ZS.bW K "is_whole_within" (top 7)
 xU:ZS.bW K "is_letter" (top 8)
 CZ:ZS.bW K "is_name" (top 24)
 C0:ZS.bW K "is_kind" (top 25)
 xV:ZS.bW K "is_amount" (top 26)
 CW:ZS.bW K "is_wish" (top 27)
 vB:ZS.bW K "are_wishes" (top 28)
 oQ:ZS.bW K "asks_for_seats" (top 29)
 z7:ZS.bW K "is_group" (top 30)
 zU:ZS.bW K "worth_in" (top 31)
 CY:ZS.bW K "is_sign" (top 35)
 E2:ZS.bW K "is_row" (top 36)
 C1:ZS.bW K "is_hall" (top 37)
 CT:ZS.bW K "sign_at" (top 38)
 IX:ZS.bW K "takes" (top 40)
 zW:ZS.bW K "seats_of" (top 41)
 Mu:ZS.bW K "fits" (top 42)
 xH:ZS.bW K "places_of" (top 43)
 IZ:ZS.bW K "apart" (top 45)
 oP:ZS.bW K "those_that_sit" (top 46)
 oR:ZS.bW K "apart_from_all" (top 47)
 IY:ZS.bW K "keeps" (top 48)
 zT:ZS.bW K "worth_of" (top 49)
 rj:ZS.bW K "fast_seating" (top 52)
 Mt:ZS.lu K "ways" (top 53)
 tH:ZS.bW K "small_start" (top 54)
 vn:ZS.bW K "with_place" (top 55)
 vq:ZS.bW K "open_among" (top 56)
 qh:ZS.bW K "with_one_more" (top 57)
 qi:ZS.bW K "seatings_from" (top 58)
 rh:ZS.lu K "first_of_all" (top 59)
 nQ:ZS.tm K "best_among" (top 61)
 tK:ZS.lu K "best_of_all" (top 62)
 rm:ZS.lu K "best_of_some" (top 63)
 vA:ZS.lu K "best_worth" (top 64)
 vC:ZS.bW K "all_places" (top 66)
 zV:ZS.bW K "spots_of" (top 67)
 vw:ZS.bW K "is_waiting" (top 68)
 tL:ZS.bW K "begins_with" (top 69)
 C2:ZS.bW K "is_each" (top 70)
 jZ:ZS.bW K "lets_by_beside" (top 71)
 CU:ZS.lu K "lets_by" (top 72)
 jb:ZS.tm K "paper_beside" (top 73)
 zX:ZS.lu K "paper_of" (top 74)
 vo:ZS.bW K "show_group" (top 78)
 xG:ZS.bW K "read_hall" (top 79)
 xI:ZS.bW K "number_in" (top 80)
 xF:ZS.bW K "wishes_in" (top 81)
 z8:ZS.bW K "group_in" (top 82)
 vp:ZS.bW K "read_group" (top 83)
 tJ:ZS.bW K "_law_cell_at" (top 85)
 xO:ZS.bW K "_law_mixed" (top 86)
 xK:ZS.bW K "_law_whole" (top 87)
 tI:ZS.bW K "_law_letters" (top 88)
 z0:ZS.bW K "_law_hall" (top 89)
 xN:ZS.bW K "_law_names" (top 90)
 vt:ZS.bW K "_law_wishes" (top 91)
 xP:ZS.bW K "_law_group" (top 92)
 nO:ZS.bW K "_law_group_words" (top 93)
 z5:ZS.bW K "_law_fits" (top 94)
 vv:ZS.bW K "_law_places" (top 95)
 xT:ZS.bW K "_law_apart" (top 96)
 xQ:ZS.bW K "_law_fewer" (top 97)
 CV:ZS.bW K "_law_all" (top 98)
 xJ:ZS.bW K "_law_worth" (top 99)
 zZ:ZS.bW K "_law_most" (top 100)
 zY:ZS.bW K "_law_told" (top 101)
 xM:ZS.bW K "_law_right" (top 102)
 Qa:ZS.bW K "law" (top 103)
 RV:PySem.W.nsIn K mainGlobals "all"=some none
 Nu:PySem.W.nsIn K mainGlobals "bool"=some none
 Nt:PySem.W.nsIn K mainGlobals "dict"=some none
 yE:PySem.W.nsIn K mainGlobals "enumerate"=some none
 RU:PySem.W.nsIn K mainGlobals "int"=some none
 wa:PySem.W.nsIn K mainGlobals "isinstance"=some none
 RT:PySem.W.nsIn K mainGlobals "len"=some none
 RR:PySem.W.nsIn K mainGlobals "max"=some none
 RQ:PySem.W.nsIn K mainGlobals "min"=some none
 J8:PySem.W.nsIn K mainGlobals "range"=some none
 RP:PySem.W.nsIn K mainGlobals "str"=some none
 RO:PySem.W.nsIn K mainGlobals "sum"=some none
 J7:PySem.W.nsIn K mainGlobals "tuple"=some none
 RN:PySem.W.nsIn K mainGlobals "zip"=some none
 {BC:Tok}
 IV:PySem.W.nsIn K mainGlobals "DEPTH"=some (some (.int 2 BC))
 {ur:Tok}
 {vf:Str}
 CS:PySem.W.nsIn K mainGlobals "FIGURES"=some (some (.str vf ur))
 De:vf=⟨[48,49,50,51,52,53,54,55,56,57].toArray⟩
 {LK:Tok}
 P_:PySem.W.nsIn K mainGlobals "GAP"=some (some (.int 5 LK))
 {Fb:Tok}
 Mr:PySem.W.nsIn K mainGlobals "KIND"=some (some (.int 3 Fb))
 {rq:Tok}
 zS:PySem.W.nsIn K mainGlobals "LAST_ROW"=some (some (.int 5 rq))
 {lC:Tok}
 rg:PySem.W.nsIn K mainGlobals "MOST_COLUMNS"=some (some (.int 12 lC))
 {nT:Tok}
 vm:PySem.W.nsIn K mainGlobals "MOST_DEPTH"=some (some (.int 3 nT))
 {lB:Tok}
 q_:PySem.W.nsIn K mainGlobals "MOST_FIGURES"=some (some (.int 60 lB))
 {rp:Tok}
 zR:PySem.W.nsIn K mainGlobals "MOST_GAP"=some (some (.int 6 rp))
 {lA:Tok}
 q?:PySem.W.nsIn K mainGlobals "MOST_LETTERS"=some (some (.int 8 lA))
 {pX:Tok}
 xE:PySem.W.nsIn K mainGlobals "MOST_ROWS"=some (some (.int 6 pX))
 {pW:Tok}
 xD:PySem.W.nsIn K mainGlobals "MOST_WAYS"=some (some (.int 2000 pW))
 {nS:Tok}
 vk:PySem.W.nsIn K mainGlobals "MOST_WIDTH"=some (some (.int 12 nS))
 {E_:Tok}
 Mq:PySem.W.nsIn K mainGlobals "NAME"=some (some (.int 0 E_))
 {BB:Tok}
 IU:PySem.W.nsIn K mainGlobals "PARTS"=some (some (.int 8 BB))
 {E?:Tok}
 Mp:PySem.W.nsIn K mainGlobals "WIDE"=some (some (.int 4 E?))
 {BA:Tok}
 IT:PySem.W.nsIn K mainGlobals "WIDTH"=some (some (.int 1 BA))
 {xZ:Tok}
 E1:PySem.W.nsIn K mainGlobals "WISHES"=some (some (.int 7 xZ))
 {Bz:Tok}
 IS:PySem.W.nsIn K mainGlobals "WORTH"=some (some (.int 6 Bz))
section
variable {P:ο}{w:ξ}{K:W.Frag}{mg:Str->ε ζ}{base h:μ}(z:Fs K mg h)
include z
theorem Fs.lQ:mg "all"=none:=A47 z.X z.G z.RV
theorem Fs.g_bool:mg "bool"=none:=A47 z.X z.G z.Nu
theorem Fs.Oc:mg "dict"=none:=A47 z.X z.G z.Nt
theorem Fs.yW:mg "enumerate"=none:=A47 z.X z.G z.yE
theorem Fs.yV:mg "int"=none:=A47 z.X z.G z.RU
theorem Fs.bh:mg "isinstance"=none:=A47 z.X z.G z.wa
theorem Fs.cu:mg "len"=none:=A47 z.X z.G z.RT
theorem Fs.Ce:mg "max"=none:=A47 z.X z.G z.RR
theorem Fs.S5:mg "min"=none:=A47 z.X z.G z.RQ
theorem Fs.cz:mg "range"=none:=A47 z.X z.G z.J8
theorem Fs.gW:mg "str"=none:=A47 z.X z.G z.RP
theorem Fs.L!:mg "sum"=none:=A47 z.X z.G z.RO
theorem Fs.cO:mg "tuple"=none:=A47 z.X z.G z.J7
theorem Fs.yU:mg "zip"=none:=A47 z.X z.G z.RN
theorem Fs.mn:mg "DEPTH"=some (.int 2 z.BC):=A30 z.X z.G z.IV
theorem Fs.EA:mg "FIGURES"=some (.str ⟨[48,49,50,51,52,53,54,55,56,57].toArray⟩ z.ur):=z.De▸A30 z.X z.G z.CS
theorem Fs.CA:mg "GAP"=some (.int 5 z.LK):=A30 z.X z.G z.P_
theorem Fs.w_:mg "KIND"=some (.int 3 z.Fb):=A30 z.X z.G z.Mr
theorem Fs.Bb:mg "LAST_ROW"=some (.int 5 z.rq):=A30 z.X z.G z.zS
theorem Fs.sV:mg "MOST_COLUMNS"=some (.int 12 z.lC):=A30 z.X z.G z.rg
theorem Fs.w?:mg "MOST_DEPTH"=some (.int 3 z.nT):=A30 z.X z.G z.vm
theorem Fs.sU:mg "MOST_FIGURES"=some (.int 60 z.lB):=A30 z.X z.G z.q_
theorem Fs.Ba:mg "MOST_GAP"=some (.int 6 z.rp):=A30 z.X z.G z.zR
theorem Fs.sT:mg "MOST_LETTERS"=some (.int 8 z.lA):=A30 z.X z.G z.q?
theorem Fs.zB:mg "MOST_ROWS"=some (.int 6 z.pX):=A30 z.X z.G z.xE
theorem Fs.zA:mg "MOST_WAYS"=some (.int 2000 z.pW):=A30 z.X z.G z.xD
theorem Fs.w!:mg "MOST_WIDTH"=some (.int 12 z.nS):=A30 z.X z.G z.vk
theorem Fs.HR:mg "NAME"=some (.int 0 z.E_):=A30 z.X z.G z.Mq
theorem Fs.Lm:mg "PARTS"=some (.int 8 z.BB):=A30 z.X z.G z.IU
theorem Fs.A_:mg "WIDE"=some (.int 4 z.E?):=A30 z.X z.G z.Mp
theorem Fs.mm:mg "WIDTH"=some (.int 1 z.BA):=A30 z.X z.G z.IT
theorem Fs.sS:mg "WISHES"=some (.int 7 z.xZ):=A30 z.X z.G z.E1
theorem Fs.w9:mg "WORTH"=some (.int 6 z.Bz):=A30 z.X z.G z.IS
theorem yr:ZS.e6 P w K mg base "is_whole" 1 ["thing"] (KC.eA):=bq (N:=["thing"]) (z.z6.df z.X z.G λ _ _ _ _ _ _=>ZS.tx λ _=>rfl) λ nd hu hr=>(ao (aA (hZ (bY .int rfl z.bh a! rfl z.yV sW ae) (eQ (HE (bY .bool rfl z.bh a! rfl z.g_bool CC ae))))))
theorem b9:ZS.e6 P w K mg base "is_whole_within" 2 ["thing","least","most"] (KC.a6):=bq (N:=["thing","least","most"]) (z.nP.df z.X z.G λ _ _ _ _ _ _=>ZS.EC λ _ _ _=>rfl) λ nd hu hr=>(ao (aA (hZ (aj (yr z) (ab ak aq)) (eQ (zm ZS.js ZS.js ae ae ae)))))
theorem kA:ZS.e6 P w K mg base "is_letter" 1 ["text"] (KA.c4):=bq (N:=["text"]) (z.xU.df z.X z.G λ _ _ _ _ _ _=>ZS.tx λ _=>rfl) λ nd hu hr=>(ao (aA (hZ (cL (ZS.j! hu) (ai (bf z.cu ae)) (ai ag)) (eQ (zm ZS.js ZS.js (ai aK) ae (ai aK))))))
theorem Av:ZS.e6 P w K mg base "is_name" 2 ["thing"] (KS.kJ):=bq (N:=["thing"]) (z.CZ.df z.X z.G λ _ _ _ _ _ _=>ZS.tx λ _=>rfl) λ nd hu hr=>(ah (bb (qC (fT (bO (eG (bY .str rfl z.bh a! rfl z.gW pM ae))) (d9 (bO (j8 ZS.js ZS.js (ai ag) (ai (bf z.cu ae)) (ai (aM z.sT))))))) (ao (aA cF)) aG) (ao (aA (gK z.lQ (dW (bu (c5 ae) (N':=["sign"]) (aj (kA z) (ab ak aq))))))))
theorem Aw:ZS.e6 P w K mg base "is_kind" 2 ["thing"] (KS.kK):=bq (N:=["thing"]) (z.C0.df z.X z.G λ _ _ _ _ _ _=>ZS.tx λ _=>rfl) λ nd hu hr=>(ao (aA (hZ (bY .str rfl z.bh a! rfl z.gW pM ae) (eQ (zl (cL (ZS.j! hu) ae (ai aK)) (eQ (aj (kA z) (ab ak aq))))))))
theorem nY:ZS.e6 P w K mg base "is_amount" 3 ["thing","least"] (KS.gH):=bq (N:=["thing","least"]) (z.xV.df z.X z.G λ _ _ _ _ _ _=>ZS.xa λ _ _=>rfl) λ nd hu hr=>(ao (aA (aj (b9 z) (ab ak (ab ak (eY (sI (ai (sJ (ai ag) (ai ag))) (ai ag)) aq))))))
theorem As:ZS.e6 P w K mg base "is_wish" 4 ["thing"] (KS.jl):=bq (N:=["thing"]) (z.CW.df z.X z.G λ _ _ _ _ _ _=>ZS.tx λ _=>rfl) λ nd hu hr=>(ah (bb (qC (fT (bO (eG (bY .tuple rfl z.bh a! rfl z.cO iF ae))) (d9 (aL (ZS.mD hu) (ai (bf z.cu ae)) (ai ag))))) (ao (aA cF)) aG) (ao (aA (hZ (aj (b9 z) (a5 (az ae (ai ag)) (au ag (ab (aM z.Bb) aq)))) (eQ (aj (nY z) (a5 (az ae (ai ag)) (au ag aq))))))))
theorem tX:ZS.e6 P w K mg base "are_wishes" 5 ["thing"] (KS.iw):=bq (N:=["thing"]) (z.vB.df z.X z.G λ _ _ _ _ _ _=>ZS.tx λ _=>rfl) λ nd hu hr=>(ah (bb (qC (fT (bO (eG (bY .tuple rfl z.bh a! rfl z.cO iF ae))) (d9 (bO (eG (gK z.lQ (dW (bu (c5 ae) (N':=["wish"]) (aj (As z) (ab ak aq)))))))))) (ao (aA cF)) aG) (ao (aA (gK z.lQ (dW (bu (oJ (cB z.cz (sI (ai (bf z.cu ae)) (ai ag)))) (N':=["k","thing"]) (cL ZS.Ez (ai (az (ai (az ae ae)) (ai ag))) (ai (az (ai (az ae (ai (aY ae (ai ag))))) (ai ag))))))))))
theorem nZ:ZS.e6 P w K mg base "asks_for_seats" 3 ["parts"] (KS.eX):=bq (N:=["parts"]) (z.oQ.df z.X z.G λ _ _ _ _ _ _=>ZS.tx λ _=>rfl) λ nd hu hr=>(ah (bb (bO (eG (aj (b9 z) (a5 (az ae (ai (aM z.mm))) (au ag (ab (aM z.w!) aq)))))) (ao (aA cF)) aG) (ah (bb (bO (eG (aj (b9 z) (a5 (az ae (ai (aM z.mn))) (au ag (ab (aM z.w?) aq)))))) (ao (aA cF)) aG) (ah (bb (bO (eG (aj (b9 z) (a5 (az ae (ai (aM z.A_))) (au ag (eY (hX (ai (az ae (ai (aM z.mm)))) (ai (az ae (ai (aM z.mn))))) aq)))))) (ao (aA cF)) aG) (ao (aA (hZ (aj (Aw z) (a5 (az ae (ai (aM z.w_))) aq)) (eQ (aj (b9 z) (a5 (az ae (ai (aM z.CA))) (au ag (ab (aM z.Ba) aq)))))))))))
theorem yt:ZS.e6 P w K mg base "is_group" 6 ["thing"] (KS.jI):=bq (N:=["thing"]) (z.z7.df z.X z.G λ _ _ _ _ _ _=>ZS.tx λ _=>rfl) λ nd hu hr=>(ah (bb (qC (fT (bO (eG (bY .tuple rfl z.bh a! rfl z.cO iF ae))) (d9 (aL (ZS.mD hu) (ai (bf z.cu ae)) (ai (aM z.Lm)))))) (ao (aA cF)) aG) (ah (bb (qC (fT (bO (eG (aj (Av z) (a5 (az ae (ai (aM z.HR))) aq)))) (d9 (bO (eG (aj (nZ z) (ab ak aq))))))) (ao (aA cF)) aG) (ao (aA (hZ (aj (nY z) (a5 (az ae (ai (aM z.w9))) (au ag aq))) (eQ (aj (tX z) (a5 (az ae (ai (aM z.sS))) aq))))))))
theorem ym:ZS.e6 P w K mg base "worth_in" 1 ["group","row"] (KB.jF):=bq (N:=["group","row"]) (z.zU.df z.X z.G λ _ _ _ _ _ _=>ZS.xa λ _ _=>rfl) λ nd hu hr=>(ao (aA (aY (ai (az ae (ai (aM z.w9)))) (ai (Cp z.L! (dW (bu (c5 (ai (az ae (ai (aM z.sS))))) (N':=["wish","row"]) (az ae (ai ag)) (ht:=(fU (aL (ZS.j! hu) (ai (az ae (ai ag))) ae))))))))))
theorem Au:ZS.e6 P w K mg base "is_sign" 2 ["text"] (KA.jm):=bq (N:=["text"]) (z.CY.df z.X z.G λ _ _ _ _ _ _=>ZS.tx λ _=>rfl) λ nd hu hr=>(ao (aA (zl (cL (ZS.TM hu) ae (ai (cK (au aK (au aK (au aK aq)))))) (eQ (aj (kA z) (ab ak aq))))))
theorem Dl:ZS.e6 P w K mg base "is_row" 3 ["thing"] (KA.i9):=bq (N:=["thing"]) (z.E2.df z.X z.G λ _ _ _ _ _ _=>ZS.tx λ _=>rfl) λ nd hu hr=>(ah (bb (qC (fT (bO (eG (bY .str rfl z.bh a! rfl z.gW pM ae))) (d9 (bO (j8 ZS.js ZS.js (ai ag) (ai (bf z.cu ae)) (ai (aM z.sV))))))) (ao (aA cF)) aG) (ao (aA (gK z.lQ (dW (bu (c5 ae) (N':=["sign"]) (aj (Au z) (ab ak aq))))))))
theorem Ax:ZS.e6 P w K mg base "is_hall" 4 ["thing"] (KA.jn):=bq (N:=["thing"]) (z.C1.df z.X z.G λ _ _ _ _ _ _=>ZS.tx λ _=>rfl) λ nd hu hr=>(ah (bb (qC (fT (bO (eG (bY .tuple rfl z.bh a! rfl z.cO iF ae))) (d9 (bO (j8 ZS.js ZS.js (ai ag) (ai (bf z.cu ae)) (ai (aM z.zB))))))) (ao (aA cF)) aG) (ah (bb (bO (eG (gK z.lQ (dW (bu (c5 ae) (N':=["row"]) (aj (Dl z) (ab ak aq))))))) (ao (aA cF)) aG) (ao (aA (gK z.lQ (dW (bu (c5 ae) (N':=["row","thing"]) (cL (ZS.j! hu) (ai (bf z.cu ae)) (ai (bf z.cu (ai (az ae (ai ag)))))))))))))
theorem Ap:ZS.e6 P w K mg base "sign_at" 1 ["hall","seat"] (KG.kG):=bq (N:=["hall","seat","row","column"]) (z.CT.df z.X z.G λ _ _ _ _ _ _=>ZS.xa λ _ _=>rfl) λ nd hu hr=>(ah (aC (az ae (ai ag))) (ah (aC (az ae (ai ag))) (ah (bb (qC (sC (j8 ZS.js ZS.Ez (ai ag) ae (ai (bf z.cu ae))) (oF (j8 ZS.js ZS.Ez (ai ag) ae (ai (bf z.cu (ai (az ae (ai ag))))))))) (ao (aA (az (ai (az ae ae)) ae))) aG) (ao (aA iK)))))
theorem F0:ZS.e6 P w K mg base "takes" 1 ["sign","kind"] (KG.oj):=bq (N:=["sign","kind"]) (z.IX.df z.X z.G λ _ _ _ _ _ _=>ZS.xa λ _ _=>rfl) λ nd hu hr=>(ao (aA (zl (cL (ZS.TM hu) ae (ai (cK (au aK (au aK aq))))) (eQ (cL (ZS.j! hu) ae ae)))))
theorem yn:ZS.e6 P w K mg base "seats_of" 1 ["group","place"] (KG.jG):=bq (N:=["group","place","seats","row"]) (z.zW.df z.X z.G λ _ _ _ _ _ _=>ZS.xa λ _ _=>rfl) λ nd hu hr=>(ah (iy (bp aq)) (ah (cq (sF z.cz (az ae (ai ag)) (aY (ai (az ae (ai ag))) (ai (az ae (ai (aM z.mn)))))) bI (ao (pH (i:=2) (pv 2) (bu (oJ (sF z.cz (az ae (ai ag)) (aY (ai (az ae (ai ag))) (ai (az ae (ai (aM z.mm))))))) (N':=["column","row"]) (cK (ab ak (ab ak aq))))))) (ao (aA (dI z.cO ae)))))
theorem BS:ZS.e6 P w K mg base "fits" 2 ["hall","group","place"] (KG.oq):=bq (N:=["hall","group","place","signs"]) (z.Mu.df z.X z.G λ _ _ _ _ _ _=>ZS.EC λ _ _ _=>rfl) λ nd hu hr=>(ah (kO (i:=3) rfl nd rfl (lo rfl) (c5 (ai (aj (yn z) (ab ak (ab ak aq))))) (N':=["seat","hall"]) (n:=1) (is:=[0]) (ZS.qF.of (by kernel_rfl)) (ZS.eF (by decide)) (λ _ _ _ _ _ _=>bI) (λ _ _ _ _ _=>oW) (λ _ _ _ _ _=>(aj (Ap z) (ab ak (ab ak aq))))) (ah (bb (bO (eG (gK z.lQ (dW (bu (c5 ae) (N':=["sign","group"]) (aj (F0 z) (ab ak (a5 (az ae (ai (aM z.w_))) aq)))))))) (ao (aA cF)) aG) (ao (aA (cL ZS.TN (ai (HJ hu ae (ai aK))) (ai (az ae (ai (aM z.A_)))))))))
theorem ku:ZS.e6 P w K mg base "places_of" 3 ["hall","group"] (KG.fD):=bq (N:=["hall","group","places","row"]) (z.xH.df z.X z.G λ _ _ _ _ _ _=>ZS.xa λ _ _=>rfl) λ nd hu hr=>(ah (iy (bp aq)) (ah (cq (cB z.cz (bf z.cu ae)) bI (ao (pH (i:=2) (pv 2) (bu (oJ (cB z.cz (bf z.cu (ai (az ae ae))))) (N':=["column","hall","group","row"]) (cK (ab ak (ab ak aq))) (ht:=(fU (eG (aj (BS z) (ab ak (ab ak (j9 (cK (ab ak (ab ak aq))) aq))))))))))) (ao (aA (dI z.cO ae)))))
theorem F2:ZS.e6 P w K mg base "apart" 1 ["one","here","other","there"] (KG.ou):=bq (N:=["one","here","other","there","gap"]) (z.IZ.df z.X z.G λ _ _ _ _ _ _=>ZS.Lo λ _ _ _ _=>rfl) λ nd hu hr=>(ah (bb (qC (fT (aL ZS.js (ai (aY (ai (az ae (ai ag))) (ai (az ae (ai (aM z.mn)))))) (ai (az ae (ai ag)))) (d9 (aL ZS.js (ai (aY (ai (az ae (ai ag))) (ai (az ae (ai (aM z.mn)))))) (ai (az ae (ai ag))))))) (ao (aA cF)) aG) (ah (aC (Cq rfl z.Ce xf (ai (az ae (ai (aM z.CA)))) (ai (az ae (ai (aM z.CA)))))) (ao (aA (zl (cL ZS.js (ai (aY (ai (aY (ai (az ae (ai ag))) (ai (az ae (ai (aM z.mm)))))) ae)) (ai (az ae (ai ag)))) (eQ (cL ZS.js (ai (aY (ai (aY (ai (az ae (ai ag))) (ai (az ae (ai (aM z.mm)))))) ae)) (ai (az ae (ai ag))))))))))
theorem eS:ZS.e6 P w K mg base "those_that_sit" 1 ["groups","seating"] (KG.cj):=bq (N:=["groups","seating"]) (z.oP.df z.X z.G λ _ _ _ _ _ _=>ZS.xa λ _ _=>rfl) λ nd hu hr=>(ao (aA (kQ (bu (oJ (oH z.yU ak ak)) (N':=["group","place"]) (cK (ab ak (ab ak aq))) (ht:=(fU (kN ae))) (hg:=(hV rfl (a8 (a8 fF)) rfl)) (hG:=(ZS.j7 (by decide)))))))
theorem jC:ZS.e6 P w K mg base "apart_from_all" 2 ["group","place","seated"] (KG.dU):=bq (N:=["group","place","seated"]) (z.oR.df z.X z.G λ _ _ _ _ _ _=>ZS.EC λ _ _ _=>rfl) λ nd hu hr=>(ao (aA (gK z.lQ (dW (bu (c5 ae) (N':=["other","there","group","place"]) (aj (F2 z) (ab ak (ab ak (ab ak (ab ak aq))))) (hg:=(hV rfl (a8 (a8 fF)) rfl)) (hG:=(ZS.j7 (by decide))))))))
theorem F1:ZS.e6 P w K mg base "keeps" 3 ["hall","groups","seating"] (KG.lT):=bq (N:=["hall","groups","seating","seated"]) (z.IY.df z.X z.G λ _ _ _ _ _ _=>ZS.EC λ _ _ _=>rfl) λ nd hu hr=>(ah (aC (aj (eS z) (ab ak (ab ak aq)))) (ah (bb (bO (eG (gK z.lQ (dW (bu (c5 ae) (N':=["group","place","hall"]) (aj (BS z) (ab ak (ab ak (ab ak aq)))) (hg:=(hV rfl (a8 (a8 fF)) rfl)) (hG:=(ZS.j7 (by decide)))))))) (ao (aA cF)) aG) (ao (aA (gK z.lQ (dW (bu (oJ (cB z.cz (bf z.cu ae))) (N':=["k","seated"]) (aj (jC z) (a5 (az (ai (az ae ae)) (ai ag)) (a5 (az (ai (az ae ae)) (ai ag)) (a5 (kQ (sE ae sD (oG ae))) aq)))))))))))
theorem p6:ZS.e6 P w K mg base "worth_of" 2 ["groups","seating"] (KB.dQ):=bq (N:=["groups","seating"]) (z.zT.df z.X z.G λ _ _ _ _ _ _=>ZS.xa λ _ _=>rfl) λ nd hu hr=>(ao (aA (Cp z.L! (dW (bu (c5 (ai (aj (eS z) (ab ak (ab ak aq))))) (N':=["group","place"]) (aj (ym z) (ab ak (a5 (az ae (ai ag)) aq))) (hg:=(hV rfl (a8 (a8 fF)) rfl)) (hG:=(ZS.j7 (by decide))))))))
theorem fV:ZS.e6 P w K mg base "fast_seating" 4 ["hall","groups","fast"] (KB.a7):=bq (N:=["hall","groups","fast","seating"]) (z.rj.df z.X z.G λ _ _ _ _ _ _=>ZS.EC λ _ _ _=>rfl) λ nd hu hr=>(ah (aC (sL (lW ae) (K? (ai (cK (au iK aq))) (ai (bf z.cu ae))) ak)) (ah (bb (bO (eG (aj (F1 z) (ab ak (ab ak (ab ak aq)))))) (ao m_) aG) (ao (aA ak))))
theorem JQ:ZS.pU P w K mg base "ways" 5 ["hall","groups","fast"] (KB.qO):=nk (N:=["hall","groups","fast","many","group","place"]) (z.Mt.df z.X z.G (λ _ _ _ _ _ _ _ us hl=>match us,hl with| [_,_,_],_=>⟨_,rfl,rfl⟩) λ _ _ _ _ _ _ _ us hl=>match us,hl with| [_,_],_=>⟨_,rfl,rfl⟩) λ nd hu hr=>(ah (aC ag) (ah (cq (oH z.yU ak (aj (fV z) (ab ak (ab ak (ab ak aq))))) (hV rfl (a8 (a8 fF)) rfl) (ao (bb (lW ae) (ao (K7 (i:=3) nd rfl (lo rfl) (aY (ai (bf z.cu (ai (aj (ku z) (ab ak (ab ak aq)))))) (ai ag)))) aG))) (ao (aA ak))))
theorem jd:ZS.e6 P w K mg base "small_start" 6 ["hall","groups","fast"] (KB.d7):=bq (N:=["hall","groups","fast","many"]) (z.tH.df z.X z.G λ _ _ _ _ _ _=>ZS.EC λ _ _ _=>rfl) λ nd hu hr=>(ah (aC (aj (JQ z).full (ab ak (ab ak (ab ak aq))))) (ah (bb (aL ZS.w8 ae (ai (aM z.zA))) (ao m_) aG) (ao (aA (aj (fV z) (ab ak (ab ak (ab ak aq))))))))
theorem jR:ZS.e6 P w K mg base "with_place" 1 ["seating","k","place"] (KH.c!):=bq (N:=["seating","k","place"]) (z.vn.df z.X z.G λ _ _ _ _ _ _=>ZS.EC λ _ _ _=>rfl) λ nd hu hr=>(ao (aA (aY (ai (aY (ai (lY ae sD (oG ae))) (ai (cK (ab ak aq))))) (ai (lY ae (oG (ai (aY ae (ai ag)))) sD)))))
theorem mH:ZS.e6 P w K mg base "open_among" 3 ["places","group","seated"] (KH.eN):=bq (N:=["places","group","seated"]) (z.vq.df z.X z.G λ _ _ _ _ _ _=>ZS.EC λ _ _ _=>rfl) λ nd hu hr=>(ao (aA (dI z.cO (dW (bu (c5 ae) (N':=["place","group","seated"]) ak (ht:=(fU (eG (aj (jC z) (ab ak (ab ak (ab ak aq))))))))))))
theorem o!:ZS.e6 P w K mg base "with_one_more" 4 ["hall","groups","seatings","k","some"] (KB.fC):=bq (N:=["hall","groups","seatings","k","some","places","wider","seating","seated"]) (z.qh.df z.X z.G λ _ _ _ _ _ _=>ZS.bd5 λ _ _ _ _ _=>rfl) λ nd hu hr=>(ah (aC (aj (ku z) (ab ak (a5 (az ae ae) aq)))) (ah (iy (bp aq)) (ah (cq (kP ak) bI (ah (aC (aj (eS z) (ab ak (ab ak aq)))) (ah (pH (i:=6) (pv 6) (bu (c5 (ai (aj (mH z) (ab ak (a5 (az ae ae) (ab ak aq)))))) (N':=["place","seating","k"]) (aj (jR z) (ab ak (ab ak (ab ak aq)))))) (ao (bb (eG ak) (ao (lX (i:=6) (pv 6) ak)) aG))))) (qP (i:=6) (ao (aA ak))))))
theorem g9:ZS.e6 P w K mg base "seatings_from" 5 ["hall","groups","start","some"] (KB.di):=bq (N:=["hall","groups","start","some","seatings","k"]) (z.qi.df z.X z.G λ _ _ _ _ _ _=>ZS.Lo λ _ _ _ _=>rfl) λ nd hu hr=>(ah (aC (kQ (bp (ab ak aq)))) (ah (cq (cB z.cz (bf z.cu ae)) bI (ao (bb (lW (ai (az ae ae))) (ao (aC (aj (o! z) (ab ak (ab ak (ab ak (ab ak (ab ak aq)))))))) aG))) (ao (aA ak))))
theorem lg:ZS.pU P w K mg base "first_of_all" 7 ["hall","groups","fast"] (KC.eJ):=nk (N:=["hall","groups","fast","seatings"]) (z.rh.df z.X z.G (λ _ _ _ _ _ _ _ us hl=>match us,hl with| [_,_,_],_=>⟨_,rfl,rfl⟩) λ _ _ _ _ _ _ _ us hl=>match us,hl with| [_,_],_=>⟨_,rfl,rfl⟩) λ nd hu hr=>(ah (aC (aj (g9 z) (ab ak (ab ak (aZ (aj (jd z) (ab ak (ab ak (ab ak aq)))) (au cF aq)))))) (ao (aA (sL (aL ZS.w8 (ai (bf z.cu ae)) (ai ag)) (az ae (ai ag)) iK))))
theorem mI:ZS.e6 P w K mg base "best_among" 5 ["groups","seatings"] (KB.eP):=Md (N:=["groups","seatings"]) (b:=KB.gO) (z.nQ.1.df z.X z.G λ _ _ _ _ _ _=>ZS.xa λ _ _=>rfl) mF (z.nQ.lam z.X z.G) λ _ _ _ _ _ _ _ hl hr=>have nd:=mF.nd;have hu:=hr.units;have Yg:=λ env=>ZS.yd (k:=2) (hr.mono (by decide)) env;(ao (aA (wW (ZS.B2 hl (by decide +kernel)) (ZS.Fz hr) rfl z.Ce xf ae (N':=["seating","groups"]) (is:=[0]) (ZS.qF.of (by kernel_rfl)) rfl (λ _ _ _ _ _=>(aj (p6 z) (ab ak (ab ak aq)) (hr:=((Yg _).mono (by decide))))) (λ _ _ _ _ _ _=>rfl))))
theorem rP:ZS.pU P w K mg base "best_of_all" 7 ["hall","groups","fast"] (KB.gJ):=nk (N:=["hall","groups","fast","start"]) (z.tK.df z.X z.G (λ _ _ _ _ _ _ _ us hl=>match us,hl with| [_,_,_],_=>⟨_,rfl,rfl⟩) λ _ _ _ _ _ _ _ us hl=>match us,hl with| [_,_],_=>⟨_,rfl,rfl⟩) λ nd hu hr=>(ah (aC (aj (jd z) (ab ak (ab ak (ab ak aq))))) (ao (aA (aj (mI z) (ab ak (aZ (aj (g9 z) (ab ak (ab ak (ab ak (au cF aq))))) aq))))))
theorem lj:ZS.pU P w K mg base "best_of_some" 7 ["hall","groups","fast"] (KB.dH):=nk (N:=["hall","groups","fast","start"]) (z.rm.df z.X z.G (λ _ _ _ _ _ _ _ us hl=>match us,hl with| [_,_,_],_=>⟨_,rfl,rfl⟩) λ _ _ _ _ _ _ _ us hl=>match us,hl with| [_,_],_=>⟨_,rfl,rfl⟩) λ nd hu hr=>(ah (aC (aj (jd z) (ab ak (ab ak (ab ak aq))))) (ao (aA (aj (mI z) (ab ak (aZ (aj (g9 z) (ab ak (ab ak (ab ak (au cF aq))))) aq))))))
theorem tW:ZS.pU P w K mg base "best_worth" 8 ["hall","groups","fast"] (KB.iu):=nk (N:=["hall","groups","fast"]) (z.vA.df z.X z.G (λ _ _ _ _ _ _ _ us hl=>match us,hl with| [_,_,_],_=>⟨_,rfl,rfl⟩) λ _ _ _ _ _ _ _ us hl=>match us,hl with| [_,_],_=>⟨_,rfl,rfl⟩) λ nd hu hr=>(ao (aA (aj (p6 z) (ab ak (aZ (aj (lj z).full (ab ak (ab ak (ab ak aq)))) aq)))))
theorem mJ:ZS.e6 P w K mg base "all_places" 4 ["hall","groups"] (KC.fR):=bq (N:=["hall","groups"]) (z.vC.df z.X z.G λ _ _ _ _ _ _=>ZS.xa λ _ _=>rfl) λ nd hu hr=>(ao (aA (kQ (bu (c5 ae) (N':=["group","hall"]) (aj (ku z) (ab ak (ab ak aq)))))))
theorem lF:ZS.e6 P w K mg base "spots_of" 4 ["groups","places","seating","k"] (KC.cJ):=bq (N:=["groups","places","seating","k"]) (z.zV.df z.X z.G λ _ _ _ _ _ _=>ZS.Lo λ _ _ _ _=>rfl) λ nd hu hr=>(ao (aA (aj (mH z) (a5 (az ae ae) (a5 (az ae ae) (aZ (aj (eS z) (ab ak (ab ak aq))) aq))))))
theorem tV:ZS.e6 P w K mg base "is_waiting" 3 ["seating","thing"] (KC.ir):=bq (N:=["seating","thing"]) (z.vw.df z.X z.G λ _ _ _ _ _ _=>ZS.xa λ _ _=>rfl) λ nd hu hr=>(ao (aA (hZ (aj (b9 z) (ab ak (au ag (eY (sI (ai (bf z.cu ae)) (ai ag)) aq)))) (eQ (wY (ai (az ae ae)))))))
theorem lJ:ZS.e6 P w K mg base "begins_with" 1 ["thing","word","length"] (KC.du):=bq (N:=["thing","word","length"]) (z.tL.df z.X z.G λ _ _ _ _ _ _=>ZS.EC λ _ _ _=>rfl) λ nd hu hr=>(ah (bb (qC (fT (bO (eG (bY .tuple rfl z.bh a! rfl z.cO iF ae))) (d9 (aL (ZS.mD hu) (ai (bf z.cu ae)) ae)))) (ao (aA cF)) aG) (ao (aA (hZ (bY .str rfl z.bh a! rfl z.gW pM (ai (az ae (ai ag)))) (eQ (cL (ZS.j! hu) (ai (az ae (ai ag))) ae))))))
theorem rO:ZS.e6 P w K mg base "is_each" 2 ["thing"] (KC.jo):=bq (N:=["thing"]) (z.C2.df z.X z.G λ _ _ _ _ _ _=>ZS.tx λ _=>rfl) λ nd hu hr=>(ao (aA (hZ (aj (lJ z) (ab ak (au aK (au ag aq)))) (eQ (bY .tuple rfl z.bh a! rfl z.cO iF (ai (az ae (ai ag))))))))
theorem jB:∀j,ZS.e6 P w K mg base "lets_by_beside" (5+j) ["groups","places","seating","paper"] (KC.ck j)
 | 0=>ZS.HQ (bq (k:=4) (N:=["groups","places","seating","paper","k","spots","papers","place","inner"]) (b:=Z.qt) (z.jZ.df z.X z.G λ _ _ _ _ _ _=>ZS.Lo λ _ _ _ _=>rfl) λ _ _ _=>Cm)
 | j+1=>bq (k:=5+j) (N:=["groups","places","seating","paper","k","spots","papers","place","inner"]) (b:=KC.bc (KC.ck j)) (z.jZ.df z.X z.G λ _ _ _ _ _ _=>ZS.Lo λ _ _ _ _=>rfl) λ nd hu hr=>have Bq:=jB j;(ah (bb (qC (sC (bO (eG (aj (lJ z) (ab ak (au aK (au ag aq)))))) (oF (bO (eG (aj (rO z) (ab ak aq))))))) (ao (aA cF)) aG) (ah (bb (bO (eG (aj (tV z) (ab ak (a5 (az ae (ai ag)) aq))))) (ao (aA cF)) aG) (ah (aC (az ae (ai ag))) (ah (aC (aj (lF z) (ab ak (ab ak (ab ak (ab ak aq)))))) (ah (aC (sL (eG (aj (rO z) (ab ak aq))) (az ae (ai ag)) (cK aq))) (ah (bb (aL (ZS.mD hu) (ai (bf z.cu ae)) (ai (bf z.cu ae))) (ao (aA cF)) aG) (ah (cq (oH z.yU ak ak) (hV rfl (a8 (a8 fF)) rfl) (ao (bb (bO (eG (aj Bq (ab ak (ab ak (aZ (aj (jR z) (ab ak (ab ak (ab ak aq)))) (ab ak aq)))) (hr:=(hr.mono (o0 _)))))) (ao (aA cF)) aG))) (ao (aA cF)))))))))
theorem Aq:ZS.pU P w K mg base "lets_by" 15 ["hall","groups","paper","fast"] (KC.kH):=nk (N:=["hall","groups","paper","fast","seating"]) (z.CU.df z.X z.G (λ _ _ _ _ _ _ _ us hl=>match us,hl with| [_,_,_,_],_=>⟨_,rfl,rfl⟩) λ _ _ _ _ _ _ _ us hl=>match us,hl with| [_,_,_],_=>⟨_,rfl,rfl⟩) λ nd hu hr=>(ah (aC (aj (fV z) (ab ak (ab ak (ab ak aq))))) (ao (aA (aj (jB z 9) (ab ak (aZ (aj (mJ z) (ab ak (ab ak aq))) (ab ak (ab ak aq))))))))
theorem k_:∀j,ZS.e6 P w K mg base "paper_beside" (7+j) ["groups","places","seating"] (KC.bM j)
 | 0=>ZS.HQ (bq (k:=6) (N:=["groups","places","seating","waiting","k","spots","papers"]) (b:=Z.qt) (z.jb.1.df z.X z.G λ _ _ _ _ _ _=>ZS.EC λ _ _ _=>rfl) λ _ _ _=>Cm)
 | j+1=>Md (k:=7+j) (N:=["groups","places","seating","waiting","k","spots","papers"]) (b:=KC.fu (KC.bM j)) (z.jb.1.df z.X z.G λ _ _ _ _ _ _=>ZS.EC λ _ _ _=>rfl) k? (z.jb.lam z.X z.G) λ _ _ _ _ _ _ _ hl hr=>have Bq:=k_ j;have nd:=k?.nd;have hu:=hr.units;have Yg:=λ env=>ZS.yd (k:=4) (hr.mono (by lia)) env;(ah (kO (i:=3) rfl nd rfl (lo rfl) (oJ (cB z.cz (bf z.cu ae))) (N':=["k","seating"]) (n:=1) (is:=[2]) (ZS.qF.of (by kernel_rfl)) (ZS.eF (by decide)) (λ _ _ _ _ _ _=>bI) (λ _ _ _ _ _=>(fU (lW (ai (az ae ae))))) (λ _ _ _ _ _=>ak)) (ah (aC (wV (ZS.B2 hl (by decide +kernel)) (ZS.Fz hr) rfl z.S5 OZ ae (N':=["j","groups","places","seating"]) (is:=[0,1,2]) (ZS.qF.of (by kernel_rfl)) rfl (λ _ _ _ _ _=>(bf z.cu (ai (aj (lF z) (ab ak (ab ak (ab ak (ab ak aq)))) (hr:=((Yg _).mono (by omega))))))) (λ _ _ _ _ _ _=>rfl))) (ah (aC (aj (lF z) (ab ak (ab ak (ab ak (ab ak aq)))))) (ah (bb (aL (ZS.j! hu) ae (ai (cK aq))) (ao (aA (cK (au aK (ab ak aq))))) aG) (ah (kO (i:=6) rfl nd rfl (lo rfl) (c5 ae) (N':=["place","groups","places","seating","k"]) (n:=1) (is:=[0,1,2,4]) (ZS.qF.of (by kernel_rfl)) (ZS.eF (by decide)) (λ _ _ _ _ _ _=>bI) (λ _ _ _ _ _=>oW) (λ _ _ _ _ _=>(aj Bq (ab ak (ab ak (aZ (aj (jR z) (ab ak (ab ak (ab ak aq)))) aq))) (hr:=(hr.mono (o0 _)))))) (ao (aA (cK (au aK (ab ak (aZ (dI z.cO ae) aq)))))))))))
theorem yo:ZS.pU P w K mg base "paper_of" 17 ["hall","groups","fast"] (KC.iE):=nk (N:=["hall","groups","fast"]) (z.zX.df z.X z.G (λ _ _ _ _ _ _ _ us hl=>match us,hl with| [_,_,_],_=>⟨_,rfl,rfl⟩) λ _ _ _ _ _ _ _ us hl=>match us,hl with| [_,_],_=>⟨_,rfl,rfl⟩) λ nd hu hr=>(ah (bb (kN (ai (aj (lg z).full (ab ak (ab ak (ab ak aq)))))) (ao (aA iK)) aG) (ao (aA (aj (k_ z 9) (ab ak (aZ (aj (mJ z) (ab ak (ab ak aq))) (aZ (aj (fV z) (ab ak (ab ak (ab ak aq)))) aq)))))))
theorem tR:ZS.e6 P w K mg base "show_group" 1 ["group"] (KS.il):=bq (N:=["group","words","word","part","wish"]) (z.vo.df z.X z.G λ _ _ _ _ _ _=>ZS.tx λ _=>rfl) λ nd hu hr=>(ah (iy (bp (a5 (az ae (ai (aM z.HR))) (eY (aY (ai (aY (ai (eK z.gW (ai (az ae (ai (aM z.mm)))))) (ai aK))) (ai (eK z.gW (ai (az ae (ai (aM z.mn))))))) aq)))) (ah (bb (aL (ZS.mD hu) (ai (az ae (ai (aM z.w_)))) (ai aK)) (ao (pH (i:=1) (pv 1) (bp (au aK (a5 (az ae (ai (aM z.w_))) aq))))) aG) (ah (cq (kP (cK (j9 (cK (au aK (ab (aM z.A_) aq))) (j9 (cK (au aK (ab (aM z.CA) aq))) (j9 (cK (au aK (ab (aM z.w9) aq))) aq))))) (hV rfl (a8 (a8 fF)) rfl) (ao (bb (aL ZS.w8 (ai (az ae ae)) (ai ag)) (ao (pH (i:=1) (pv 1) (bp (ab ak (aZ (eK z.gW (ai (az ae ae))) aq))))) aG))) (ah (cq (kP (az ae (ai (aM z.sS)))) bI (ao (pH (i:=1) (pv 1) (bp (au aK (aZ (eK z.gW (ai (az ae (ai ag)))) (aZ (eK z.gW (ai (az ae (ai ag)))) aq))))))) (ao (aA (wX aK ae)))))))
theorem vW:ZS.e6 P w K mg base "read_hall" 5 ["text"] (iW):=bq (N:=["text","hall"]) (z.xG.df z.X z.G λ _ _ _ _ _ _=>ZS.tx λ _=>rfl) λ nd hu hr=>(ah (bb (bO (eG (bY .str rfl z.bh a! rfl z.gW pM ae))) (ao m_) aG) (ah (aC (dI z.cO (dW (zg ae (ai aK))))) (ah (bb (bO (eG (aj (Ax z) (ab ak aq)))) (ao m_) aG) (ao (aA ak)))))
theorem eE:ZS.e6 P w K mg base "number_in" 1 ["word"] (KS.bj):=bq (N:=["word"]) (z.xI.df z.X z.G λ _ _ _ _ _ _=>ZS.tx λ _=>rfl) λ nd hu hr=>(ah (bb (qC (fT (bO (j8 ZS.js ZS.js (ai ag) (ai (bf z.cu ae)) (ai (aM z.sU)))) (d9 (bO (eG (gK z.lQ (dW (bu (c5 ae) (N':=["sign"]) (cL ZS.TL ae (ai (HI rfl z.EA))))))))))) (ao (aA iK)) aG) (ao (aA (Lc rfl z.yV sW ae))))
theorem vV:ZS.e6 P w K mg base "wishes_in" 2 ["words"] (KS.gE):=bq (N:=["words"]) (z.xF.df z.X z.G λ _ _ _ _ _ _=>ZS.tx λ _=>rfl) λ nd hu hr=>(ao (aA (dI z.cO (dW (bu (oJ (Oy rfl z.cz ag (sI (ai (bf z.cu ae)) (ai ag)) ag)) (N':=["k","words"]) (cK (aZ (aj (eE z) (a5 (az ae (ai (aY ae (ai ag)))) aq)) (aZ (aj (eE z) (a5 (az ae (ai (aY ae (ai ag)))) aq)) aq))))))))
theorem yu:ZS.e6 P w K mg base "group_in" 3 ["words"] (KS.jJ):=bq (N:=["words","size","told","at","word"]) (z.z8.df z.X z.G λ _ _ _ _ _ _=>ZS.tx λ _=>rfl) λ nd hu hr=>(ah (aC (K_ (ai (az ae (ai ag))) (ai aK))) (ah (Tw (i:=2) nd rfl (lo rfl) (ZS.qT (k:=[107,105,110,100]) (v:=[]) (by decide +kernel) (by decide +kernel) (ZS.qT (k:=[119,105,100,101]) (v:=[48]) (by decide +kernel) (by decide +kernel) (ZS.qT (k:=[103,97,112]) (v:=[48]) (by decide +kernel) (by decide +kernel) (ZS.qT (k:=[119,111,114,116,104]) (v:=[48]) (by decide +kernel) (by decide +kernel) ZS.OI)))) (by decide +kernel) (by decide)) (ah (aC ag) (ah (cq (kP (cK (au aK (au aK (au aK (au aK aq)))))) bI (ao (bb (qC (sC (aL ZS.Ez (ai (aY ae (ai ag))) (ai (bf z.cu ae))) (oF (aL (ZS.j! hu) (ai (az ae ae)) ae)))) (ah (K6 hu (i:=2) (pv 2) ak (az ae (ai (aY ae (ai ag))))) (ao (K8 (i:=3) nd rfl (lo rfl) ag))) aG))) (ao (aA (cK (a5 (az ae (ai ag)) (aZ (aj (eE z) (a5 (az ae (ai ag)) aq)) (aZ (aj (eE z) (a5 (az ae (ai ag)) aq)) (a5 (qR hu (i:=2) (pv 2) aK) (aZ (aj (eE z) (a5 (qR hu (i:=2) (pv 2) aK) aq)) (aZ (aj (eE z) (a5 (qR hu (i:=2) (pv 2) aK) aq)) (aZ (aj (eE z) (a5 (qR hu (i:=2) (pv 2) aK) aq)) (aZ (aj (vV z) (a5 (kQ (sE ae (oG ae) sD)) aq)) aq)))))))))))))))
theorem tT:ZS.e6 P w K mg base "read_group" 7 ["text"] (KS.eM):=bq (N:=["text","words","group"]) (z.vp.df z.X z.G λ _ _ _ _ _ _=>ZS.tx λ _=>rfl) λ nd hu hr=>(ah (bb (bO (eG (bY .str rfl z.bh a! rfl z.gW pM ae))) (ao m_) aG) (ah (aC (kQ (zg ae (ai aK)))) (ah (bb (aL ZS.Ez (ai (bf z.cu ae)) (ai ag)) (ao m_) aG) (ah (aC (aj (yu z) (ab ak aq))) (ah (bb (qC (fT (bO (eG (aj (yt z) (ab ak aq)))) (d9 (aL (ZS.mD hu) (ai (aj (tR z) (ab ak aq))) ae)))) (ao m_) aG) (ao (aA ak)))))))
theorem dm:ZS.e6 P w K mg base "_law_cell_at" 1 ["_law_script","_law_k"] (KG.aN):=bq (N:=["_law_script","_law_k"]) (z.tJ.df z.X z.G λ _ _ _ _ _ _=>ZS.xa λ _ _=>rfl) λ nd hu hr=>(ah (bb (aL ZS.Ez ae (ai (bf z.cu ae))) (ao (aA (az ae ae))) aG) (ao (aA ag)))
theorem gB:ZS.e6 P w K mg base "_law_mixed" 1 ["_law_cell","_law_k"] (KA.bx):=bq (N:=["_law_cell","_law_k","_law_number"]) (z.xO.df z.X z.G λ _ _ _ _ _ _=>ZS.xa λ _ _=>rfl) λ nd hu hr=>(ah (bb (aL (ZS.j! hu) (ai (bR (ai (f_ ae (ai ag))) (ai ag))) (ai ag)) (ao (aA (bR (ai (OB (ai (f_ ae (ai ag))) (ai (hX (ai ag) ae)))) (ai ag)))) aG) (ah (aC (bR (ai (hX (ai (aY (ai (aY (ai (bR ae (ai ag))) (ai (hX (ai (hX (ai ag) ae)) ae)))) ae)) (ai ag))) (ai ag))) (ah (aC (bR (ai (hX ae ae)) (ai ag))) (ao (aA (bR (ai (aY (ai (aY (ai (hX ae ae)) (ai (hX (ai ag) ae)))) ae)) (ai ag)))))))
theorem vX:ZS.e6 P w K mg base "_law_whole" 1 ["_law_found"] (KG.gF):=bq (N:=["_law_found"]) (z.xK.df z.X z.G λ _ _ _ _ _ _=>ZS.tx λ _=>rfl) λ nd hu hr=>(ao (aA (hZ (bY .int rfl z.bh a! rfl z.yV sW ae) (eQ (HE (bY .bool rfl z.bh a! rfl z.g_bool CC ae))))))
theorem lI:ZS.e6 P w K mg base "_law_letters" 1 ["_law_head"] (KA.bN):=bq (N:=["_law_head","_law_letters_here"]) (z.tI.df z.X z.G λ _ _ _ _ _ _=>ZS.tx λ _=>rfl) λ nd hu hr=>(ah (aC aK) (ao (aA (kQ (bp (a5 (az ae (ai (bR (ai (f_ ae (ai ag))) (ai ag)))) (a5 (az ae (ai (bR (ai (f_ ae (ai ag))) (ai ag)))) aq)))))))
theorem yp:ZS.e6 P w K mg base "_law_hall" 2 ["_law_cells","_law_head","_law_most_rows","_law_most_seats"] (KA.dS):=bq (N:=["_law_cells","_law_head","_law_most_rows","_law_most_seats","_law_rows","_law_long","_law_some","_law_left","_law_found","_law_k","_law_sign"]) (z.z0.df z.X z.G λ _ _ _ _ _ _=>ZS.Lo λ _ _ _ _=>rfl) λ nd hu hr=>(ah (aC (aY (ai ag) (ai (bR ae ae)))) (ah (aC (aY (ai ag) (ai (bR (ai (f_ ae (ai ag))) ae)))) (ah (aC (kQ (nc (dW (nc (dW (bp (au aK (au aK (au aK (au aK aq)))))) (ai (aj (lI z) (ab ak aq))))) (dW (bp (au aK (au aK aq))))))) (ah (aC (aj (dm z) (ab ak (au ag aq)))) (ah (iy (bp aq)) (ah (cq (cB z.cz (hX ae ae)) bI (ah (bb (aL (ZS.j! hu) (ai (bR ae ae)) (ai ag)) (ao (lX (i:=8) (pv 8) aK)) aG) (ah (aC (az ae (ai (bR (ai (aj (gB z) (aZ (aj (dm z) (ab ak (ab ak aq))) (ab ak aq)))) (ai ag))))) (ah (bb (aL (ZS.j! hu) (ai (bR (ai (f_ ae (ai ag))) (ai ag))) (ai ag)) (ah (aC (az (ai aK) (ai (bR ae (ai ag))))) (ao (aC (f_ ae (ai ag))))) aG) (ao (Cn (i:=8) (pv 8) (A9 (ai ag)) (aY (ai (az ae (ai (A9 (ai ag))))) ae))))))) (ao (aA (dI z.cO ae)))))))))
theorem vY:ZS.e6 P w K mg base "_law_names" 2 ["_law_cell","_law_many"] (KS.iX):=bq (N:=["_law_cell","_law_many","_law_letters_here","_law_size","_law_at","_law_base","_law_names_here","_law_k"]) (z.xN.df z.X z.G λ _ _ _ _ _ _=>ZS.xa λ _ _=>rfl) λ nd hu hr=>(ah (aC aK) (ah (aC (aY (ai ag) (ai (bR ae (ai ag))))) (ah (aC (bR (ai (f_ ae (ai ag))) ae)) (ah (qQ (i:=5) rfl nd rfl (lo rfl) (oJ (cB z.cz ak)) (N':=["_law_k","_law_letters_here","_law_cell"]) (n:=1) (is:=[2,0]) (ZS.qF.of (by kernel_rfl)) (ZS.eF (by decide)) (λ _ _ _ _ _ _=>bI) (λ _ _ _ _ _=>oW) (λ _ _ _ _ _=>(az ae (ai (bR (ai (aj (gB z) (ab ak (eY (aY (ai ag) ae) aq)))) (ai ag)))))) (ah (iy (bp aq)) (ah (cq (cB z.cz ak) bI (ah (Cn (i:=5) (pv 5) ak (az ae (ai (bR (ai (aY (ai (f_ ae (ai ag))) ae)) (ai ag))))) (ao (lX (i:=6) (pv 6) (wX aK ae))))) (qP (i:=6) (ao (aA ak)))))))))
theorem tU:ZS.e6 P w K mg base "_law_wishes" 2 ["_law_cell"] (KS.iq):=bq (N:=["_law_cell","_law_bits","_law_found","_law_row","_law_more"]) (z.vt.df z.X z.G λ _ _ _ _ _ _=>ZS.tx λ _=>rfl) λ nd hu hr=>(ah (aC (aj (gB z) (ab ak (au ag aq)))) (ah (iy (bp aq)) (ah (cq (cB z.cz ag) bI (ao (bb (qC (sC (aL (ZS.j! hu) (ai (bR (ai (f_ (ai (f_ ae (ai ag))) (ai (OC (ai ag) ae)))) (ai ag))) (ai ag)) (oF (aL ZS.w8 (ai (bR ae (ai ag))) (ai ag))))) (ah (aC (aY (ai ag) (ai (bR (ai (aj (gB z) (ab ak (eY (aY (ai ag) ae) aq)))) (ai ag))))) (ah (bb (aL (ZS.j! hu) (ai (bR ae (ai ag))) (ai ag)) (ao (aC (aY (ai ag) (ai (bR (ai (aY (ai (hX ae (ai (sJ (ai ag) (ai ag))))) ae)) (ai (sI (ai (sJ (ai ag) (ai ag))) (ai ag)))))))) aG) (ao (lX (i:=2) (pv 2) (cK (ab ak (ab ak aq))))))) aG))) (ao (aA (dI z.cO ae))))))
theorem vZ:ZS.e6 P w K mg base "_law_group" 3 ["_law_cell","_law_name","_law_kinds"] (KS.fE):=bq (N:=["_law_cell","_law_name","_law_kinds","_law_xs","_law_width","_law_depth","_law_kind","_law_wide","_law_gap","_law_worth_here"]) (z.xP.df z.X z.G λ _ _ _ _ _ _=>ZS.EC λ _ _ _=>rfl) λ nd hu hr=>(ah (kO (i:=3) rfl nd rfl (lo rfl) (oJ (cB z.cz ag)) (N':=["_law_k","_law_cell"]) (n:=1) (is:=[0]) (ZS.qF.of (by kernel_rfl)) (ZS.eF (by decide)) (λ _ _ _ _ _ _=>bI) (λ _ _ _ _ _=>oW) (λ _ _ _ _ _=>(aj (gB z) (ab ak (eY (aY (ai ag) ae) aq))))) (ah (aC (az (dW (bp (au ag (au ag (au ag (au ag (au ag (au ag (au ag (eY (aY (ai ag) (ai (bR (ai (f_ (ai (az ae (ai ag))) (ai ag))) (ai ag)))) aq)))))))))) (ai (bR (ai (az ae (ai ag))) (ai ag))))) (ah (aC (az (dW (bp (au ag (au ag (au ag (au ag (au ag (au ag (au ag (au ag aq)))))))))) (ai (bR (ai (az ae (ai ag))) (ai ag))))) (ah (aC (az (dW (bp (au aK (au aK (au aK (a5 (az ae (ai ag)) (a5 (az ae (ai ag)) (au aK aq)))))))) (ai (bR (ai (az ae (ai ag))) (ai ag))))) (ah (aC (az (dW (bp (au ag (au ag (au ag (au ag (eY (bR (ai (f_ (ai (az ae (ai ag))) (ai ag))) (ai (aY (ai (hX ae ae)) (ai ag)))) aq))))))) (ai (bR (ai (az ae (ai ag))) (ai ag))))) (ah (aC (az (dW (bp (au ag (au ag (au ag (au ag (au ag (eY (bR (ai (f_ (ai (az ae (ai ag))) (ai ag))) (ai ag)) aq)))))))) (ai (bR (ai (az ae (ai ag))) (ai ag))))) (ah (aC (az (dW (bp (au ag (au ag (au ag (au ag (eY (bR (ai (f_ (ai (az ae (ai ag))) (ai ag))) (ai ag)) (eY (bR (ai (hX ae (ai (sJ (ai ag) (ai ag))))) (ai (sJ (ai ag) (ai ag)))) aq)))))))) (ai (bR (ai (az ae (ai ag))) (ai ag))))) (ao (aA (cK (ab ak (ab ak (ab ak (ab ak (ab ak (ab ak (ab ak (aZ (aj (tU z) (ab ak aq)) aq))))))))))))))))))
theorem mW:ZS.e6 P w K mg base "_law_group_words" 1 ["_law_group_here"] (KS.cD):=bq (N:=["_law_group_here","_law_name","_law_width","_law_depth","_law_kind","_law_wide","_law_gap","_law_worth_here","_law_wishes_here","_law_words","_law_row","_law_more"]) (z.nO.df z.X z.G λ _ _ _ _ _ _=>ZS.tx λ _=>rfl) λ nd hu hr=>(ah (Hr (lY ae sD (oG (ai ag))) (hV rfl (a8 (a8 (a8 (a8 fF)))) rfl)) (ah (Hr (lY ae (oG (ai ag)) sD) (hV rfl (a8 (a8 (a8 (a8 fF)))) rfl)) (ah (aC (kQ (bp (ab ak (eY (aY (ai (aY (ai (eK z.gW ae)) (ai aK))) (ai (eK z.gW ae))) aq))))) (ah (bb (aL (ZS.mD hu) ae (ai aK)) (ao (aC (kQ (nc ae (dW (bp (au aK (ab ak aq)))))))) aG) (ah (bb (aL ZS.w8 ae (ai ag)) (ao (aC (kQ (nc ae (dW (bp (au aK (aZ (eK z.gW ae) aq)))))))) aG) (ah (bb (aL ZS.w8 ae (ai ag)) (ao (aC (kQ (nc ae (dW (bp (au aK (aZ (eK z.gW ae) aq)))))))) aG) (ah (bb (aL ZS.w8 ae (ai ag)) (ao (aC (kQ (nc ae (dW (bp (au aK (aZ (eK z.gW ae) aq)))))))) aG) (ah (cq (kP ak) (hV rfl (a8 (a8 fF)) rfl) (ao (aC (kQ (nc ae (dW (bp (au aK (aZ (eK z.gW ae) (aZ (eK z.gW ae) aq)))))))))) (ao (aA ak))))))))))
theorem yq:ZS.e6 P w K mg base "_law_fits" 1 ["_law_hall_here","_law_group_here","_law_row","_law_column"] (jH):=bq (N:=["_law_hall_here","_law_group_here","_law_row","_law_column","_law_wide","_law_r","_law_sign"]) (z.z5.df z.X z.G λ _ _ _ _ _ _=>ZS.Lo λ _ _ _ _=>rfl) λ nd hu hr=>(ah (bb (qC (fT (aL ZS.w8 (ai (aY ae (ai (az ae (ai ag))))) (ai (bf z.cu ae))) (d9 (aL ZS.w8 (ai (aY ae (ai (az ae (ai ag))))) (ai (bf z.cu (ai (az ae (ai ag))))))))) (ao (aA cF)) aG) (ah (aC ag) (ah (cq (sF z.cz ak (aY ae (ai (az ae (ai ag))))) bI (ao (cq (kP (lY (ai (az ae ae)) (oG ae) (oG (ai (aY ae (ai (az ae (ai ag)))))))) bI (ah (bb (qC (sC (aL (ZS.Cz hu) ae (ai (cK (au aK (au aK aq))))) (oF (aL (ZS.mD hu) ae (ai (az ae (ai ag))))))) (ao (aA cF)) aG) (ao (aC (aY ae (ai (Cr rfl z.yV sW (ai (cL (ZS.j! hu) ae (ai aK)))))))))))) (ao (aA (cL ZS.TN ae (ai (az ae (ai ag)))))))))
theorem jS:ZS.e6 P w K mg base "_law_places" 2 ["_law_hall_here","_law_group_here"] (eO):=bq (N:=["_law_hall_here","_law_group_here","_law_found","_law_row","_law_column"]) (z.vv.df z.X z.G λ _ _ _ _ _ _=>ZS.xa λ _ _=>rfl) λ nd hu hr=>(ah (iy (bp aq)) (ah (cq (cB z.cz (bf z.cu ae)) bI (ao (cq (cB z.cz (bf z.cu (ai (az ae (ai ag))))) bI (ao (bb (eG (aj (yq z) (ab ak (ab ak (ab ak (ab ak aq)))))) (ao (lX (i:=2) (pv 2) (cK (ab ak (ab ak aq))))) aG))))) (qP (i:=2) (ao (aA ak)))))
theorem v!:ZS.e6 P w K mg base "_law_apart" 1 ["_law_one","_law_here","_law_other","_law_there"] (KH.gG):=bq (N:=["_law_one","_law_here","_law_other","_law_there","_law_gap"]) (z.xT.df z.X z.G λ _ _ _ _ _ _=>ZS.Lo λ _ _ _ _=>rfl) λ nd hu hr=>(ah (bb (qC (fT (aL ZS.js (ai (aY (ai (az ae (ai ag))) (ai (az ae (ai ag))))) (ai (az ae (ai ag)))) (d9 (aL ZS.js (ai (aY (ai (az ae (ai ag))) (ai (az ae (ai ag))))) (ai (az ae (ai ag))))))) (ao (aA cF)) aG) (ah (aC (Cq rfl z.Ce xf (ai (az ae (ai ag))) (ai (az ae (ai ag))))) (ao (aA (zl (cL ZS.js (ai (aY (ai (aY (ai (az ae (ai ag))) (ai (az ae (ai ag))))) ae)) (ai (az ae (ai ag)))) (eQ (cL ZS.js (ai (aY (ai (aY (ai (az ae (ai ag))) (ai (az ae (ai ag))))) ae)) (ai (az ae (ai ag))))))))))
theorem v7:ZS.e6 P w K mg base "_law_fewer" 3 ["_law_hall_here","_law_groups","_law_most_here"] (iY):=bq (N:=["_law_hall_here","_law_groups","_law_most_here","_law_found","_law_many","_law_group_here","_law_more"]) (z.xQ.df z.X z.G λ _ _ _ _ _ _=>ZS.EC λ _ _ _=>rfl) λ nd hu hr=>(ah (iy (bp aq)) (ah (aC ag) (ah (cq (kP ak) bI (ah (aC (hX ae (ai (aY (ai ag) (ai (bf z.cu (ai (aj (jS z) (ab ak (ab ak aq)))))))))) (ao (bb (aL ZS.js ae ae) (ah (lX (i:=3) (pv 3) ak) (ao (aC ak))) aG)))) (ao (aA (dI z.cO ae))))))
theorem Ar:ZS.e6 P w K mg base "_law_all" 3 ["_law_hall_here","_law_groups"] (kI):=bq (N:=["_law_hall_here","_law_groups","_law_rows","_law_k","_law_longer","_law_row","_law_place","_law_sits"]) (z.CV.df z.X z.G λ _ _ _ _ _ _=>ZS.xa λ _ _=>rfl) λ nd hu hr=>(ah (aC (kQ (bp (j9 (cK aq) aq)))) (ah (cq (cB z.cz (bf z.cu ae)) bI (ah (iy (bp aq)) (ah (cq (kP ak) bI (ah (cq (kP (aj (jS z) (ab ak (a5 (az ae ae) aq)))) bI (ah (kO (i:=7) rfl nd rfl (lo rfl) (oJ (cB z.cz ak)) (N':=["_law_j","_law_row"]) (n:=1) (is:=[5]) (ZS.qF.of (by kernel_rfl)) (ZS.eF (by decide)) (λ _ _ _ _ _ _=>bI) (λ _ _ _ _ _=>(fU (kN (ai (az ae ae))))) (λ _ _ _ _ _=>ak)) (ao (bb (aL (ZS.j! hu) (dW (bu (c5 ae) (N':=["_law_j","_law_groups","_law_row","_law_k","_law_place"]) ak (ht:=(fU (bO (eG (aj (v! z) (a5 (az ae ae) (a5 (az ae ae) (a5 (az ae ae) (ab ak aq))))))))))) (dW (bp aq))) (ao (lX (i:=4) (pv 4) (aY ae (ai (cK (ab ak aq)))))) aG)))) (ao (lX (i:=4) (pv 4) (aY ae (ai (cK (au iK aq)))))))) (qP (i:=4) (ao (aC ak)))))) (ao (aA ak))))
theorem ky:ZS.e6 P w K mg base "_law_worth" 1 ["_law_groups","_law_seating"] (cZ):=bq (N:=["_law_groups","_law_seating","_law_found","_law_group_here","_law_place"]) (z.xJ.df z.X z.G λ _ _ _ _ _ _=>ZS.xa λ _ _=>rfl) λ nd hu hr=>(ah (aC ag) (ah (cq (oH z.yU ak ak) (hV rfl (a8 (a8 fF)) rfl) (ao (bb (kN ae) (ao (aC (aY (ai (aY ae (ai (az ae (ai ag))))) (ai (Le rfl z.Oc Lp (az ae (ai ag)) (az ae (ai ag)) ag))))) aG))) (ao (aA ak))))
theorem lH:ZS.e6 P w K mg base "_law_most" 2 ["_law_groups","_law_seatings"] (gj):=bq (N:=["_law_groups","_law_seatings","_law_most_here"]) (z.zZ.df z.X z.G λ _ _ _ _ _ _=>ZS.xa λ _ _=>rfl) λ nd hu hr=>(ah (aC (Lb rfl z.Ce xf (dW (bu (c5 ae) (N':=["_law_seating","_law_groups"]) (aj (ky z) (ab ak (ab ak aq))))))) (ao (aA (az (dW (bu (c5 ae) (N':=["_law_seating","_law_groups","_law_most_here"]) ak (ht:=(fU (aL (ZS.j! hu) (ai (aj (ky z) (ab ak (ab ak aq)))) ae))))) (ai ag)))))
theorem lG:ZS.e6 P w K mg base "_law_told" 2 ["_law_found","_law_due"] (fi):=bq (N:=["_law_found","_law_due","_law_place","_law_other"]) (z.zY.df z.X z.G λ _ _ _ _ _ _=>ZS.xa λ _ _=>rfl) λ nd hu hr=>(ah (bb (qC (fT (lW ae) (d9 (lW ae)))) (ao (aA (hZ (wY ae) (eQ (wY ae))))) aG) (ah (bb (qC (fT (bO (eG (bY .tuple rfl z.bh a! rfl z.cO iF ae))) (d9 (aL (ZS.mD hu) (ai (bf z.cu ae)) (ai (bf z.cu ae)))))) (ao (aA cF)) aG) (ah (cq (oH z.yU ak ak) (hV rfl (a8 (a8 fF)) rfl) (ao (bb (qC (fT (lW ae) (d9 (lW ae)))) (ao (bb (qC (fT (kN ae) (d9 (kN ae)))) (ao (aA cF)) aG)) (ao (bb (qC (fT (bO (eG (bY .tuple rfl z.bh a! rfl z.cO iF ae))) (fT (aL (ZS.mD hu) (dW (bu (c5 ae) (N':=["_law_one"]) ak (ht:=(fU (bO (eG (aj (vX z) (ab ak aq)))))))) (dW (bp aq))) (d9 (aL (ZS.mD hu) ae ae))))) (ao (aA cF)) aG))))) (ao (aA cF)))))
theorem kz:ZS.e6 P w K mg base "_law_right" 18 ["_law_hall_here","_law_groups","_law_seatings","_law_fast"] (dR):=bq (N:=["_law_hall_here","_law_groups","_law_seatings","_law_fast","_law_best","_law_full","_law_first","_law_most_here","_law_paper"]) (z.xM.df z.X z.G λ _ _ _ _ _ _=>ZS.Lo λ _ _ _ _=>rfl) λ nd hu hr=>(ah (aC (aj (lH z) (ab ak (ab ak aq)))) (ah (kO (i:=5) rfl nd rfl (lo rfl) (c5 ae) (N':=["_law_seating"]) (n:=1) (is:=[]) (ZS.qF.of (by kernel_rfl)) (ZS.eF (by decide)) (λ _ _ _ _ _ _=>bI) (λ _ _ _ _ _=>(fU (aL (ZS.Cz hu) (ai iK) ae))) (λ _ _ _ _ _=>ak)) (ah (aC iK) (ah (aC iK) (ah (bb (aL (ZS.mD hu) ae (dW (bp aq))) (ah (aC (az ae (ai ag))) (ao (aC (aj (lH z) (ab ak (ab ak aq)))))) aG) (ah (bb (qC (fT (bO (eG (aj (lG z) (aZ (aj (lj z).full (ab ak (ab ak (ab ak aq)))) (ab ak aq))))) (d9 (bO (eG (aj (lG z) (aZ (aj (rP z).full (ab ak (ab ak (ab ak aq)))) (ab ak aq)))))))) (ao (aA cF)) aG) (ah (bb (bO (eG (aj (lG z) (aZ (aj (lg z).full (ab ak (ab ak (ab ak aq)))) (ab ak aq))))) (ao (aA cF)) aG) (ah (bb (aL (ZS.mD hu) (ai (aj (tW z).full (ab ak (ab ak (ab ak aq))))) (ai (aj (ky z) (ab ak (ab ak aq))))) (ao (aA cF)) aG) (ah (aC (aj (yo z).full (ab ak (ab ak (ab ak aq))))) (ah (bb (aL (ZS.mD hu) ae (dW (bp aq))) (ao (aA (wY ae))) aG) (ao (aA (hZ (La ae) (eQ (OD (ai (aj (Aq z).full (ab ak (ab ak (ab ak (ab ak aq)))))))))))))))))))))
theorem Nh{f:δ}{fd:υ}(F:Ii K "law" "law" (top 103) f fd):ki P w K mg base oO 19 f fd ["_law_script"] (ZS.xl K pB):=Y? (N:=["_law_script","_law_head","_law_hall_here","_law_many","_law_names_here","_law_cells","_law_drawn","_law_groups","_law_seatings","_law_sits","_law_there","_law_fast"]) F λ nd hu hr=>(ah (aC (aj (dm z) (ab ak (au ag aq)))) (ah (aC (aj (yp z) (a5 (kQ (sE ae (oG (ai ag)) sD)) (ab ak (au ag (au ag aq)))))) (ah (aC (az (dW (bp (au ag (au ag (au ag (au ag (au ag (au ag (au ag (au ag aq)))))))))) (ai (bR (ai (aj (dm z) (ab ak (au ag aq)))) (ai ag))))) (ah (aC (aj (vY z) (aZ (aj (dm z) (ab ak (au ag aq))) (ab ak aq)))) (ah (aC (kQ (bu (oJ (cB z.cz ak)) (N':=["_law_k","_law_script"]) (aj (dm z) (ab ak (eY (aY (ai ag) ae) aq)))))) (ah (kO (i:=6) rfl nd rfl (lo rfl) (oJ (cB z.cz ak)) (N':=["_law_k","_law_cells","_law_names_here","_law_head"]) (n:=1) (is:=[5,4,1]) (ZS.qF.of (by kernel_rfl)) (ZS.eF (by decide)) (λ _ _ _ _ _ _=>bI) (λ _ _ _ _ _=>oW) (λ _ _ _ _ _=>(aj (vZ z) (a5 (az ae ae) (a5 (az ae ae) (aZ (aj (lI z) (ab ak aq)) aq)))))) (ah (aC (aj (v7 z) (ab ak (ab ak (au ag aq))))) (ah (bb (aL (ZS.mD hu) (ai (aj (vW z) (aZ (HF aK ae) aq))) ae) (ao (aA cF)) aG) (ah (bb (aL (ZS.mD hu) (ai (dI z.cO (dW (bu (c5 ae) (N':=["_law_group_here"]) (aj (tT z) (aZ (wX aK (ai (aj (mW z) (ab ak aq)))) aq)))))) ae) (ao (aA cF)) aG) (ah (aC (aj (Ar z) (ab ak (ab ak aq)))) (ah (bb (bO (eG (aj (kz z) (ab ak (ab ak (ab ak (au iK aq))))))) (ao (aA cF)) aG) (ah (aC (kQ (bu (oJ (Hx z.yW (aj (lH z) (ab ak (ab ak aq))))) (N':=["_law_k","_law_place"]) ak (ht:=(fU (kN ae))) (hg:=(hV rfl (a8 (a8 fF)) rfl)) (hG:=(ZS.j7 (by decide)))))) (ah (bb (qC (fT (aL (ZS.j! hu) (ai (bR (ai (aj (dm z) (ab ak (au ag aq)))) (ai ag))) (ai ag)) (d9 (aL (ZS.j! hu) ae (dW (bp aq)))))) (ao (aA (aj (kz z) (ab ak (ab ak (ab ak (aZ (dI z.cO (dW (bu (c5 ae) (N':=["_law_group_here"]) iK))) aq))))))) aG) (ah (aC (az (ai (aj (jS z) (ab ak (a5 (az ae (ai (az ae (ai ag)))) aq)))) (ai (A9 (ai ag))))) (ah (aC (dI z.cO (dW (bu (oJ (cB z.cz (bf z.cu ae))) (N':=["_law_k","_law_there","_law_sits"]) (az (dW (bp (au iK (ab ak aq)))) (ai (Cr rfl z.yV sW (ai (cL (ZS.j! hu) ae (ai (az ae (ai ag)))))))))))) (ao (aA (aj (kz z) (ab ak (ab ak (HK (kQ (bu (c5 ae) (N':=["_law_seating","_law_sits","_law_there"]) ak (ht:=(fU (aL (ZS.j! hu) (ai (az ae (ai (az ae (ai ag))))) ae))))) (ab ak aq))))))))))))))))))))))
end
theorem all_mk{l:PySem.W.OpenLaw}{w:ξ}{K:W.Frag}{h:μ}{mg:Str->ε ζ}{fa:δ}(D?:mg "law"=some (.ref fa))(z:Fs K mg h):
  ∃fd:υ,(∀(s:η) (v:ζ),BindsTo s fd ⟨[v],[]⟩ [("_law_script",v)])/\∀base:μ,K.In base->base.Ns mainGlobals mg->ki l.prog w K mg base oO 19 fa fd ["_law_script"] (ZS.xl K pB):=by
 obtain⟨fd,hb,F⟩:=z.Qa.law z.X z.G D? (x:="_law_script") λ _ _ _ _ _ _ _ _=>.of_eq rfl;exact⟨fd,hb,λ base _ _=>Nh z F⟩
theorem walk{l:PySem.W.OpenLaw}{q:ο}{loose:γ Str}{XP:(Str->ε ζ)->μ->Prop}{YP:ξ->μ->Prop}{d:DefRec}{K:Params->PySem.W.Frag}(hn:l.most=some 63)(YH:d.params.defaults=[])
  (hY:∀(w:ξ)(h:μ),YP w h->(K w.params).In h)
  (F:∀ (w:ξ) (mg:Str->ε ζ) (fa:δ) (h:μ),(K w.params).In h->h.Ns mainGlobals mg->mg d.name=some (.ref fa) ->
   ∃fd:υ,(∀(s:η) (u:ζ),BindsTo s fd ⟨[u],[]⟩ [("_law_script",u)])/\∀base:μ,(K w.params).In base->base.Ns mainGlobals mg->ki l.prog w (K w.params) mg base oO 19 fa fd ["_law_script"] (ZS.xl (K w.params) pB)) (hL:∀w:ξ,ZS.Ig q (K w.params)) :
  PySem.W.WalkO q loose XP YP l.row.toRowW d [] (λ f vs=>PySem.call f vs):=
 ZS.Mo (n:=63) (k:=19) (x:="_law_script") (m:=pB) hn (by decide) YH ⟨rfl,by decide,by decide⟩ hY F hL holds
end iN
namespace iN
open PySem PySem.Spec PyProof.Rows L2
abbrev XU:String:="besideseats.plain"
abbrev L0:String:="besideseats.groups"
abbrev Vn:String:="besideseats.halls"
abbrev Vm:String:="besideseats.places"
abbrev R7:String:="besideseats.seatings"
abbrev LZ:String:="besideseats.rooms"
abbrev Vl:String:="besideseats.best"
abbrev Kj:String:="besideseats.papers"
abbrev Po:String:="besideseats.texts"
abbrev wc:String:="law_besideseats_k90_whole_from_texts"
noncomputable def kd(P:Params)(n:String)(t:Nat)(v:ζ):DictEntry:={hash:=PyData.keyHash P (Str.ofString n),key:=.str (Str.ofString n) t,val:=v}
noncomputable def kc(n:String)(t l:Nat)(a b c d e f g h i j:ζ)(u:Nat):ι:={cls:=.type "code",data:=.fields #[.str (Str.ofString n) t,.str (Str.ofString n) (t+1),.str (Str.ofString "/claim/cut.py") (t+2),.int l 0,a,.int 0 0,.int 0 0,b,c,.bool true,d,e,f,g,h,i,j,.int l 0,.str (Str.ofString "/claim/cut.py") u]}
noncomputable def kf(n:String)(i:Nat)(m:String)(t c:Nat)(v:ζ:=.none):ι:={cls:=.type "function",data:=.func {name:=Str.ofString n,qualname:=Str.ofString n,params:=cQ (top i),body:=.stmts (bB (top i)),scope:=aB (top i),globals:=3,closure:=[],defaults:=v,kwdefaults:=.none,pyModule:=.str (Str.ofString m) t,code:=.ref c}}
noncomputable def k7(n:String)(t l i r j u:Nat):ι:=kc n t l (.int i 0) (.int 3 0) (.ref r) (.int 181 0) (.ref (r+1)) .none (.ref (r+2)) (.ref (r+3)) (.ref (r+4)) (.int j 0) u
noncomputable def k5(n:String)(t l i r j u:Nat):ι:=kc n t l (.int i 0) (.int 3 0) (.ref r) (.int 181 0) (.ref (r+1)) .none .none .none (.ref (r+2)) (.int j 0) u
noncomputable def KK(P:Params):W.Frag:=(λ(_:Str.ofString "a"=Str.mk #[97])=>(nat_lit 3,{cls:=.type "dict",data:=.dict #[kd P "__name__" 165 (.str (Str.ofString "law_besideseats_k90_whole_from_texts") 734),kd P "__doc__" 166 .none,kd P "__package__" 167 .none,kd P "__loader__" 168 (.builtin "__main__.__loader__#opaque"),kd P "__spec__" 169 .none,kd P "__annotations__" 170 (.ref 6),kd P "__builtins__" 171 (.ref 4),kd P "__file__" 173 (.str (Str.ofString "/claim/cut.py") 172),kd P "__cached__" 174 .none,kd P "SeatError" 206 (.ref 24),kd P "NoText" 222 (.ref 37),kd P "NoSeating" 238 (.ref 49),kd P "TooGreat" 265 (.ref 68),kd P "is_whole" 274 (.ref 77),kd P "is_whole_within" 283 (.ref 84),kd P "is_letter" 290 (.ref 91),kd P "NAME" 294 (.int 0 293),kd P "WIDTH" 296 (.int 1 295),kd P "DEPTH" 298 (.int 2 297),kd P "KIND" 300 (.int 3 299),kd P "WIDE" 302 (.int 4 301),kd P "GAP" 304 (.int 5 303),kd P "WORTH" 306 (.int 6 305),kd P "WISHES" 308 (.int 7 307),kd P "PARTS" 310 (.int 8 309),kd P "MOST_LETTERS" 312 (.int 8 311),kd P "MOST_WIDTH" 314 (.int 12 313),kd P "MOST_DEPTH" 316 (.int 3 315),kd P "MOST_GAP" 318 (.int 6 317),kd P "LAST_ROW" 320 (.int 5 319),kd P "is_name" 326 (.ref 96),kd P "is_kind" 333 (.ref 103),kd P "is_amount" 341 (.ref 110),kd P "is_wish" 348 (.ref 117),kd P "are_wishes" 354 (.ref 122),kd P "asks_for_seats" 361 (.ref 129),kd P "is_group" 368 (.ref 136),kd P "worth_in" 374 (.ref 141),kd P "MOST_ROWS" 378 (.int 6 377),kd P "MOST_COLUMNS" 380 (.int 12 379),kd P "is_sign" 387 (.ref 148),kd P "is_row" 393 (.ref 153),kd P "is_hall" 399 (.ref 158),kd P "sign_at" 409 (.ref 165),kd P "takes" 419 (.ref 172),kd P "seats_of" 425 (.ref 177),kd P "fits" 431 (.ref 182),kd P "places_of" 437 (.ref 187),kd P "apart" 450 (.ref 194),kd P "those_that_sit" 456 (.ref 199),kd P "apart_from_all" 462 (.ref 204),kd P "keeps" 468 (.ref 209),kd P "worth_of" 474 (.ref 214),kd P "MOST_WAYS" 478 (.int 2000 477),kd P "fast_seating" 488 (.ref 221),kd P "ways" 500 (.ref 229),kd P "small_start" 510 (.ref 236),kd P "with_place" 519 (.ref 243),kd P "open_among" 525 (.ref 248),kd P "with_one_more" 531 (.ref 253),kd P "seatings_from" 543 (.ref 260),kd P "first_of_all" 553 (.ref 268),kd P "best_among" 564 (.ref 275),kd P "best_of_all" 574 (.ref 283),kd P "best_of_some" 584 (.ref 291),kd P "best_worth" 593 (.ref 299),kd P "all_places" 601 (.ref 304),kd P "spots_of" 611 (.ref 311),kd P "is_waiting" 619 (.ref 318),kd P "begins_with" 628 (.ref 325),kd P "is_each" 635 (.ref 332),kd P "lets_by_beside" 650 (.ref 339),kd P "lets_by" 661 (.ref 347),kd P "paper_beside" 667 (.ref 352),kd P "paper_of" 676 (.ref 360),kd P "FIGURES" 680 (.str (Str.ofString "0123456789") 679),kd P "MOST_FIGURES" 682 (.int 60 681),kd P "show_group" 693 (.ref 367),kd P "read_hall" 701 (.ref 374),kd P "number_in" 707 (.ref 379),kd P "wishes_in" 713 (.ref 384),kd P "group_in" 724 (.ref 391),kd P "read_group" 733 (.ref 398),kd P "_law_cell_at" 743 (.ref 405),kd P "_law_mixed" 752 (.ref 412),kd P "_law_whole" 759 (.ref 419),kd P "_law_letters" 767 (.ref 426),kd P "_law_hall" 784 (.ref 433),kd P "_law_names" 790 (.ref 438),kd P "_law_wishes" 801 (.ref 445),kd P "_law_group" 807 (.ref 450),kd P "_law_group_words" 825 (.ref 457),kd P "_law_fits" 838 (.ref 464),kd P "_law_places" 849 (.ref 471),kd P "_law_apart" 860 (.ref 478),kd P "_law_fewer" 873 (.ref 485),kd P "_law_all" 879 (.ref 490),kd P "_law_worth" 890 (.ref 497),kd P "_law_most" 896 (.ref 502),kd P "_law_told" 902 (.ref 507),kd P "_law_right" 908 (.ref 512),kd P "law" 914 (.ref 517)] 102}) ::
 (nat_lit 76,k7 "is_whole" 268 14 1 71 272 273) ::
 (nat_lit 77,kf "is_whole" 6 XU 266 76) ::
 (nat_lit 83,k7 "is_whole_within" 275 16 3 78 281 282) ::
 (nat_lit 84,kf "is_whole_within" 7 XU 266 83) ::
 (nat_lit 90,k7 "is_letter" 284 18 1 85 288 289) ::
 (nat_lit 91,kf "is_letter" 8 XU 266 90) ::
 (nat_lit 95,k5 "is_name" 321 35 1 92 324 325) ::
 (nat_lit 96,kf "is_name" 24 L0 291 95) ::
 (nat_lit 102,k7 "is_kind" 327 39 1 97 331 332) ::
 (nat_lit 103,kf "is_kind" 25 L0 291 102) ::
 (nat_lit 109,k7 "is_amount" 334 41 2 104 339 340) ::
 (nat_lit 110,kf "is_amount" 26 L0 291 109) ::
 (nat_lit 116,k7 "is_wish" 342 43 1 111 346 347) ::
 (nat_lit 117,kf "is_wish" 27 L0 291 116) ::
 (nat_lit 121,k5 "are_wishes" 349 47 1 118 352 353) ::
 (nat_lit 122,kf "are_wishes" 28 L0 291 121) ::
 (nat_lit 128,k7 "asks_for_seats" 355 51 1 123 359 360) ::
 (nat_lit 129,kf "asks_for_seats" 29 L0 291 128) ::
 (nat_lit 135,k7 "is_group" 362 59 1 130 366 367) ::
 (nat_lit 136,kf "is_group" 30 L0 291 135) ::
 (nat_lit 140,k5 "worth_in" 369 65 2 137 372 373) ::
 (nat_lit 141,kf "worth_in" 31 L0 291 140) ::
 (nat_lit 147,k7 "is_sign" 381 70 1 142 385 386) ::
 (nat_lit 148,kf "is_sign" 35 Vn 375 147) ::
 (nat_lit 152,k5 "is_row" 388 72 1 149 391 392) ::
 (nat_lit 153,kf "is_row" 36 Vn 375 152) ::
 (nat_lit 157,k5 "is_hall" 394 76 1 154 397 398) ::
 (nat_lit 158,kf "is_hall" 37 Vn 375 157) ::
 (nat_lit 164,k7 "sign_at" 400 82 2 159 407 408) ::
 (nat_lit 165,kf "sign_at" 38 Vn 375 164) ::
 (nat_lit 171,k7 "takes" 412 89 2 166 417 418) ::
 (nat_lit 172,kf "takes" 40 Vm 410 171) ::
 (nat_lit 176,k5 "seats_of" 420 91 2 173 423 424) ::
 (nat_lit 177,kf "seats_of" 41 Vm 410 176) ::
 (nat_lit 181,k5 "fits" 426 96 3 178 429 430) ::
 (nat_lit 182,kf "fits" 42 Vm 410 181) ::
 (nat_lit 186,k5 "places_of" 432 101 2 183 435 436) ::
 (nat_lit 187,kf "places_of" 43 Vm 410 186) ::
 (nat_lit 193,k7 "apart" 440 107 4 188 448 449) ::
 (nat_lit 194,kf "apart" 45 R7 438 193) ::
 (nat_lit 198,k5 "those_that_sit" 451 112 2 195 454 455) ::
 (nat_lit 199,kf "those_that_sit" 46 R7 438 198) ::
 (nat_lit 203,k5 "apart_from_all" 457 114 3 200 460 461) ::
 (nat_lit 204,kf "apart_from_all" 47 R7 438 203) ::
 (nat_lit 208,k5 "keeps" 463 116 3 205 466 467) ::
 (nat_lit 209,kf "keeps" 48 R7 438 208) ::
 (nat_lit 213,k5 "worth_of" 469 121 2 210 472 473) ::
 (nat_lit 214,kf "worth_of" 49 R7 438 213) ::
 (nat_lit 220,k7 "fast_seating" 479 125 3 215 486 487) ::
 (nat_lit 221,kf "fast_seating" 52 LZ 475 220) ::
 (nat_lit 228,k7 "ways" 489 130 3 223 498 499) ::
 (nat_lit 229,kf "ways" 53 LZ 475 228 (.ref 222)) ::
 (nat_lit 235,k7 "small_start" 501 136 3 230 508 509) ::
 (nat_lit 236,kf "small_start" 54 LZ 475 235) ::
 (nat_lit 242,k7 "with_place" 511 141 3 237 517 518) ::
 (nat_lit 243,kf "with_place" 55 LZ 475 242) ::
 (nat_lit 247,k5 "open_among" 520 143 3 244 523 524) ::
 (nat_lit 248,kf "open_among" 56 LZ 475 247) ::
 (nat_lit 252,k5 "with_one_more" 526 145 5 249 529 530) ::
 (nat_lit 253,kf "with_one_more" 57 LZ 475 252) ::
 (nat_lit 259,k7 "seatings_from" 532 154 4 254 541 542) ::
 (nat_lit 260,kf "seatings_from" 58 LZ 475 259) ::
 (nat_lit 267,k7 "first_of_all" 544 160 3 262 551 552) ::
 (nat_lit 268,kf "first_of_all" 59 LZ 475 267 (.ref 261)) ::
 (nat_lit 274,k7 "best_among" 556 164 2 269 562 563) ::
 (nat_lit 275,kf "best_among" 61 Vl 554 274) ::
 (nat_lit 282,k7 "best_of_all" 565 166 3 277 572 573) ::
 (nat_lit 283,kf "best_of_all" 62 Vl 554 282 (.ref 276)) ::
 (nat_lit 290,k7 "best_of_some" 575 169 3 285 582 583) ::
 (nat_lit 291,kf "best_of_some" 63 Vl 554 290 (.ref 284)) ::
 (nat_lit 298,k7 "best_worth" 585 172 3 293 591 592) ::
 (nat_lit 299,kf "best_worth" 64 Vl 554 298 (.ref 292)) ::
 (nat_lit 303,k5 "all_places" 596 175 2 300 599 600) ::
 (nat_lit 304,kf "all_places" 66 Kj 594 303) ::
 (nat_lit 310,k7 "spots_of" 602 177 4 305 609 610) ::
 (nat_lit 311,kf "spots_of" 67 Kj 594 310) ::
 (nat_lit 317,k7 "is_waiting" 612 179 2 312 617 618) ::
 (nat_lit 318,kf "is_waiting" 68 Kj 594 317) ::
 (nat_lit 324,k7 "begins_with" 620 181 3 319 626 627) ::
 (nat_lit 325,kf "begins_with" 69 Kj 594 324) ::
 (nat_lit 331,k7 "is_each" 629 185 1 326 633 634) ::
 (nat_lit 332,kf "is_each" 70 Kj 594 331) ::
 (nat_lit 338,k7 "lets_by_beside" 636 187 4 333 648 649) ::
 (nat_lit 339,kf "lets_by_beside" 71 Kj 594 338) ::
 (nat_lit 346,k7 "lets_by" 651 201 4 341 659 660) ::
 (nat_lit 347,kf "lets_by" 72 Kj 594 346 (.ref 340)) ::
 (nat_lit 351,k5 "paper_beside" 662 204 3 348 665 666) ::
 (nat_lit 352,kf "paper_beside" 73 Kj 594 351) ::
 (nat_lit 359,k7 "paper_of" 668 212 3 354 674 675) ::
 (nat_lit 360,kf "paper_of" 74 Kj 594 359 (.ref 353)) ::
 (nat_lit 366,k7 "show_group" 683 219 1 361 691 692) ::
 (nat_lit 367,kf "show_group" 78 Po 677 366) ::
 (nat_lit 373,k7 "read_hall" 694 229 1 368 699 700) ::
 (nat_lit 374,kf "read_hall" 79 Po 677 373) ::
 (nat_lit 378,k5 "number_in" 702 236 1 375 705 706) ::
 (nat_lit 379,kf "number_in" 80 Po 677 378) ::
 (nat_lit 383,k5 "wishes_in" 708 240 1 380 711 712) ::
 (nat_lit 384,kf "wishes_in" 81 Po 677 383) ::
 (nat_lit 390,k7 "group_in" 714 242 1 385 722 723) ::
 (nat_lit 391,kf "group_in" 82 Po 677 390) ::
 (nat_lit 397,k7 "read_group" 725 251 1 392 731 732) ::
 (nat_lit 398,kf "read_group" 83 Po 677 397) ::
 (nat_lit 404,k7 "_law_cell_at" 736 262 2 399 741 742) ::
 (nat_lit 405,kf "_law_cell_at" 85 wc 734 404) ::
 (nat_lit 411,k7 "_law_mixed" 744 266 2 406 750 751) ::
 (nat_lit 412,kf "_law_mixed" 86 wc 734 411) ::
 (nat_lit 418,k7 "_law_whole" 753 272 1 413 757 758) ::
 (nat_lit 419,kf "_law_whole" 87 wc 734 418) ::
 (nat_lit 425,k7 "_law_letters" 760 274 1 420 765 766) ::
 (nat_lit 426,kf "_law_letters" 88 wc 734 425) ::
 (nat_lit 432,k7 "_law_hall" 768 277 4 427 782 783) ::
 (nat_lit 433,kf "_law_hall" 89 wc 734 432) ::
 (nat_lit 437,k5 "_law_names" 785 292 2 434 788 789) ::
 (nat_lit 438,kf "_law_names" 90 wc 734 437) ::
 (nat_lit 444,k7 "_law_wishes" 791 302 1 439 799 800) ::
 (nat_lit 445,kf "_law_wishes" 91 wc 734 444) ::
 (nat_lit 449,k5 "_law_group" 802 312 3 446 805 806) ::
 (nat_lit 450,kf "_law_group" 92 wc 734 449) ::
 (nat_lit 456,k7 "_law_group_words" 808 321 1 451 823 824) ::
 (nat_lit 457,kf "_law_group_words" 93 wc 734 456) ::
 (nat_lit 463,k7 "_law_fits" 826 336 4 458 836 837) ::
 (nat_lit 464,kf "_law_fits" 94 wc 734 463) ::
 (nat_lit 470,k7 "_law_places" 839 346 2 465 847 848) ::
 (nat_lit 471,kf "_law_places" 95 wc 734 470) ::
 (nat_lit 477,k7 "_law_apart" 850 353 4 472 858 859) ::
 (nat_lit 478,kf "_law_apart" 96 wc 734 477) ::
 (nat_lit 484,k7 "_law_fewer" 861 358 3 479 871 872) ::
 (nat_lit 485,kf "_law_fewer" 97 wc 734 484) ::
 (nat_lit 489,k5 "_law_all" 874 367 2 486 877 878) ::
 (nat_lit 490,kf "_law_all" 98 wc 734 489) ::
 (nat_lit 496,k7 "_law_worth" 880 379 2 491 888 889) ::
 (nat_lit 497,kf "_law_worth" 99 wc 734 496) ::
 (nat_lit 501,k5 "_law_most" 891 385 2 498 894 895) ::
 (nat_lit 502,kf "_law_most" 100 wc 734 501) ::
 (nat_lit 506,k5 "_law_told" 897 388 2 503 900 901) ::
 (nat_lit 507,kf "_law_told" 101 wc 734 506) ::
 (nat_lit 511,k5 "_law_right" 903 400 4 508 906 907) ::
 (nat_lit 512,kf "_law_right" 102 wc 734 511) ::
 (nat_lit 516,k5 "law" 909 418 1 513 912 913) ::
 (nat_lit 517,kf "law" 103 wc 734 516) ::
 (nat_lit 222,{cls:=.type "tuple",data:=.seq #[.none]}) ::
 (nat_lit 261,{cls:=.type "tuple",data:=.seq #[.none]}) ::
 (nat_lit 276,{cls:=.type "tuple",data:=.seq #[.none]}) ::
 (nat_lit 284,{cls:=.type "tuple",data:=.seq #[.none]}) ::
 (nat_lit 292,{cls:=.type "tuple",data:=.seq #[.none]}) ::
 (nat_lit 340,{cls:=.type "tuple",data:=.seq #[.none]}) ::
 (nat_lit 353,{cls:=.type "tuple",data:=.seq #[.none]})::[]) (by kernel_rfl)
def KA:γ δ:=[nat_lit 3,nat_lit 76,nat_lit 77,nat_lit 83,nat_lit 84,nat_lit 90,nat_lit 91,nat_lit 95,nat_lit 96,nat_lit 102,nat_lit 103,nat_lit 109,nat_lit 110,nat_lit 116,nat_lit 117,nat_lit 121,nat_lit 122,nat_lit 128,nat_lit 129,nat_lit 135,nat_lit 136,nat_lit 140,nat_lit 141,nat_lit 147,nat_lit 148,nat_lit 152,nat_lit 153,nat_lit 157,nat_lit 158,nat_lit 164,nat_lit 165,nat_lit 171,nat_lit 172,nat_lit 176,nat_lit 177,nat_lit 181,nat_lit 182,nat_lit 186,nat_lit 187,nat_lit 193,nat_lit 194,nat_lit 198,nat_lit 199,nat_lit 203,nat_lit 204,nat_lit 208,nat_lit 209,nat_lit 213,nat_lit 214,nat_lit 220,nat_lit 221,nat_lit 228,nat_lit 229,nat_lit 235,nat_lit 236,nat_lit 242,nat_lit 243,nat_lit 247,nat_lit 248,nat_lit 252,nat_lit 253,nat_lit 259,nat_lit 260,nat_lit 267,nat_lit 268,nat_lit 274,nat_lit 275,nat_lit 282,nat_lit 283,nat_lit 290,nat_lit 291,nat_lit 298,nat_lit 299,nat_lit 303,nat_lit 304,nat_lit 310,nat_lit 311,nat_lit 317,nat_lit 318,nat_lit 324,nat_lit 325,nat_lit 331,nat_lit 332,nat_lit 338,nat_lit 339,nat_lit 346,nat_lit 347,nat_lit 351,nat_lit 352,nat_lit 359,nat_lit 360,nat_lit 366,nat_lit 367,nat_lit 373,nat_lit 374,nat_lit 378,nat_lit 379,nat_lit 383,nat_lit 384,nat_lit 390,nat_lit 391,nat_lit 397,nat_lit 398,nat_lit 404,nat_lit 405,nat_lit 411,nat_lit 412,nat_lit 418,nat_lit 419,nat_lit 425,nat_lit 426,nat_lit 432,nat_lit 433,nat_lit 437,nat_lit 438,nat_lit 444,nat_lit 445,nat_lit 449,nat_lit 450,nat_lit 456,nat_lit 457,nat_lit 463,nat_lit 464,nat_lit 470,nat_lit 471,nat_lit 477,nat_lit 478,nat_lit 484,nat_lit 485,nat_lit 489,nat_lit 490,nat_lit 496,nat_lit 497,nat_lit 501,nat_lit 502,nat_lit 506,nat_lit 507,nat_lit 511,nat_lit 512,nat_lit 516,nat_lit 517,nat_lit 222,nat_lit 261,nat_lit 276,nat_lit 284,nat_lit 292,nat_lit 340,nat_lit 353]
end iN
namespace PySem.W.Fast
def tw13653772270326290616:Unit:=()
def tw1321415662844653751:Unit:=()
def tw17656346311652551060:Unit:=()
def tw15827839452946865251:Unit:=()
def tw13245293024621323982:Unit:=()
def tw5360849076451259239:Unit:=()
def tw1780159737279157381:Unit:=()
def tw2938894588069958025:Unit:=()
def tw10552015011112743100:Unit:=()
def tw4719562710888082400:Unit:=()
def tw11983487037681023339:Unit:=()
def tw12239449908174420749:Unit:=()
def tw11346365705189302522:Unit:=()
def tw12217673647495517201:Unit:=()
def tw13798145576701112007:Unit:=()
def tw12350885628199147016:Unit:=()
def tw1427164660306514052:Unit:=()
def tw13923034230220372917:Unit:=()
def tw2133504519721870694:Unit:=()
def tw297523158024341840:Unit:=()
def tw2732989121597682384:Unit:=()
def tw8193184013840510833:Unit:=()
def tw14230508473545646804:Unit:=()
def tw4820082175053630553:Unit:=()
def tw16426605041415122462:Unit:=()
def tw1654690843144879290:Unit:=()
def tw338663780100556126:Unit:=()
def tw11497551349806253361:Unit:=()
def tw18288165397635689167:Unit:=()
def tw11050114225087042117:Unit:=()
def tw1337071734965930795:Unit:=()
def tw8776284845930853315:Unit:=()
def tw2714069749975005891:Unit:=()
def tw1152233678400926205:Unit:=()
def tw10320180985730462770:Unit:=()
def tw8100411785966722948:Unit:=()
def tw15744447264124338531:Unit:=()
def tw5477795648647897594:Unit:=()
def tw5699247004160405403:Unit:=()
def tw13923007604826790938:Unit:=()
def tw2827051230806936415:Unit:=()
def tw5036571398079276829:Unit:=()
def tw488352616150594334:Unit:=()
def tw15327866780667480564:Unit:=()
def tw8353819048645768206:Unit:=()
def tw673681638279886638:Unit:=()
def tw15014167046893908540:Unit:=()
def tw4269704991683531252:Unit:=()
def tw1599659238844752272:Unit:=()
def tw14140391659363003647:Unit:=()
def tw4318956751531802911:Unit:=()
def tw14254626955399146757:Unit:=()
def tw4356648891661748538:Unit:=()
def tw10928316762190403618:Unit:=()
def tw3093300295027599367:Unit:=()
def tw17899176592239884351:Unit:=()
def tw1497134326631320112:Unit:=()
def tw11451872903415269867:Unit:=()
def tw4896493958956736749:Unit:=()
def tw15589381391471856005:Unit:=()
def tw330460630944264010:Unit:=()
def tw694651726439218880:Unit:=()
def tw2600969522232398486:Unit:=()
def tw4842359507560922232:Unit:=()
def tw9858901335539290473:Unit:=()
def tw208529752931738505:Unit:=()
def tw2123710252693681499:Unit:=()
def tw11995533145183446416:Unit:=()
def tw9549383271230877994:Unit:=()
def tw5380824102697542298:Unit:=()
def tw16353274104215679904:Unit:=()
def tw2500620671872949020:Unit:=()
def tw15126041136109495661:Unit:=()
def tw6795540741955470336:Unit:=()
def tw11780572798009021361:Unit:=()
def tw6845678983871625140:Unit:=()
def tw13583996757528577961:Unit:=()
def tw12848163883475843046:Unit:=()
def tw11166891849683422249:Unit:=()
def tw12148506759981584738:Unit:=()
def tw7994212281223491519:Unit:=()
def tw11229235084441729315:Unit:=()
def tw1958893342291112084:Unit:=()
def tw16357157165022179219:Unit:=()
def tw7035526613179049836:Unit:=()
def tw12245449633502967442:Unit:=()
def tw4864063203512790189:Unit:=()
def tw18383367405168897522:Unit:=()
def tw6212399992123805941:Unit:=()
def tw9922459104449709293:Unit:=()
def tw17594136882558358363:Unit:=()
def tw718205239204003566:Unit:=()
def tw12371826121338132170:Unit:=()
def tw16538475376784109608:Unit:=()
def tw236350009725535126:Unit:=()
def tw16883983961079492957:Unit:=()
def tw3198516173315147327:Unit:=()
def tw17711244712574064532:Unit:=()
def tw9076333706170094042:Unit:=()
def tw14785981881998983027:Unit:=()
def tw1891804303133255936:Unit:=()
def tw4417852044408260616:Unit:=()
def tw9982630554577254622:Unit:=()
def tw9126586029294692950:Unit:=()
def tw12862757572778181177:Unit:=()
def tw9053387117112709174:Unit:=()
def tw16561523995036530412:Unit:=()
def tw10074583378283305125:Unit:=()
def tw7318390576309685481:Unit:=()
def tw15035493171190506614:Unit:=()
def tw8704343493898873678:Unit:=()
def tw17674478927321239930:Unit:=()
def tw5227393462679561262:Unit:=()
def tw974084095687844773:Unit:=()
def tw2415025692624537394:Unit:=()
def tw165145919226634372:Unit:=()
def tw9676104518321486656:Unit:=()
def tw9420853699513180388:Unit:=()
def tw9860498288972817161:Unit:=()
def tw6850392020699025162:Unit:=()
def tw10028109562454782303:Unit:=()
def tw14843395837408245944:Unit:=()
def tw2789797575899203360:Unit:=()
def tw13457861063823355775:Unit:=()
def tw10760037288203900882:Unit:=()
def tw9313736228961422103:Unit:=()
def tw2267929654274977528:Unit:=()
def tw14478990047356524444:Unit:=()
def tw7261352785649886975:Unit:=()
def tw10981204569387880936:Unit:=()
def tw13287884362424827611:Unit:=()
def tw16367194172712334546:Unit:=()
def tw831222736175367655:Unit:=()
def tw18181606140748186500:Unit:=()
def tw16231884072677227501:Unit:=()
def tw15730940874700683045:Unit:=()
def tw7176382673902100415:Unit:=()
def tw7862237194363650333:Unit:=()
def tw7732450558334738032:Unit:=()
def tw4169884034510087291:Unit:=()
def tw10178415079966362307:Unit:=()
def tw15693437745278016380:Unit:=()
def tw11000937076740761651:Unit:=()
def tw310528174826112168:Unit:=()
def tw16412262864882992670:Unit:=()
def tw5367812656870403083:Unit:=()
def tw8833416826559894916:Unit:=()
def tw18028796243617333210:Unit:=()
def tw2834944891550143189:Unit:=()
def tw5275824183872495945:Unit:=()
def tw17800262825540545216:Unit:=()
def tw4536655230939565591:Unit:=()
def tw8335919857418732684:Unit:=()
def tw757299916955653960:Unit:=()
end PySem.W.Fast
open PySem PySem.W PyProof.Rows
set_option maxRecDepth 100000 in
set_option maxHeartbeats 0 in
theorem PySem.Challenge.cw_besideseats_k90_whole_from_texts_holds : PySem.Challenge.rw_besideseats_k90_whole_from_texts.Holds := by
 w_on;o_law;o_head (PySem.W.kHook iN.KK iN.KA (λ _=>by kernel_rfl));(case hw=>w_witness2)
 k_fill
 refine iN.walk (l:=PySem.Challenge.rw_besideseats_k90_whole_from_texts) rfl rfl (λ w h Y=>PySem.W.kIn_of Y) ?F ?L
 case L=>
  intro w;refine' ZS.NB (r1:=_) (r2:=_) ?n ?h1 ?h2 ?g1 ?g2 ?ne
  (case n=>kernel_rfl)
  (case h1=>refine' ZS.rn ?a1 ?l1 ?e1 ?tl1 ?tp1;(case a1=>k_is);(case l1=>k_is);(case e1=>exact rfl);(case tl1=>k_is);(case tp1=>exact rfl))
  (case g1=>exact .inr rfl)
  (case h2=>refine' ZS.rn ?a2 ?l2 ?e2 ?tl2 ?tp2;(case a2=>k_is);(case l2=>k_is);(case e2=>exact rfl);(case tl2=>k_is);(case tp2=>exact rfl))
  (case g2=>exact .inr rfl)
  (case ne=>exact λ c P c' P' e1 e2=>by first|(cases e1;done)|(cases e2;done)|(cases e1;cases e2;decide))
 case F=>
  intro w mg fa h KX G Yt;refine' iN.all_mk Yt ⟨KX,G,?_,?_,?_,?_,?_,?_,?_,?_,?_,?_,?_,?_,?_,?_,?_,?_,?_,?_,?_,?_,?_,?_,?_,?_,?_,?fw27,?_,?_,?_,?_,?_,?fw33,?fw34,?fw35,?fw36,?fw37,?_,?_,?_,?_,?_,?_,?fw44,?fw45,?fw46,?_,?_,?_,?_,?_,?_,?_,?_,?_,?_,?_,?_,?_,?_,?_,?_,?_,?_,?_,?_,?_,?_,?_,?_,?_,?_,?_,?_,?_,?_,?_,?_,?_,?_,?_,?_,?_,?_,?_,?fw86,?fw87,?fw88,?fw89,?fw90,?fw91,?fw92,?fw93,?fw94,?fw95,?fw96,?fw97,?fw98,?fw99,?fw100,?fw101,?fw102,?fw103,?fw104,?fw105⟩
  (case fw86|fw87|fw89|fw90|fw91|fw92|fw93|fw94|fw95|fw96|fw97|fw98|fw99|fw100|fw101|fw102|fw103|fw104|fw105=>k_is)
  (case fw88=>first|rfl|kernel_rfl|decide +kernel)
  (case fw27|fw33|fw35|fw36|fw37|fw44|fw46=>refine' ZS.lu.mk' ?a ?l ?c ?k ?dq;(case a=>k_is);(case l=>k_is);(case c=>k_is);(case k=>k_is);(case dq=>k_is))
  (case fw34|fw45=>refine' ZS.tm.mk' ?a ?l ?c ?k ?tl ?tp;(case a=>k_is);(case l=>k_is);(case c=>k_is);(case k=>k_is);(case tl=>k_is);(case tp=>exact rfl))
  all_goals first|k_is|(refine' ZS.bW.mk' ?a ?l ?c ?k;(case a=>k_is);(case l=>k_is);(case c=>k_is);(case k=>k_is))
#print axioms PySem.Challenge.cw_besideseats_k90_whole_from_texts_holds
