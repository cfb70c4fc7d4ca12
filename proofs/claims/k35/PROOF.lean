import PyProof.Rows.All
import Wide.All
import OpenK.AllK
import Wide.FinOn
import Lean
import PyProof.EqAt
import PyProof.EqKinds
import PyProof.TupleCall
import PyProof.FactsAll.set_1
import PyProof.FactsAll.set_2
import PyProof.Rows.Range3
import PyProof.AttrMissSeq
import KE.KDictOf
import PyProof.CompUse
import PyProof.Rows.RegReprOcc
import PyProof.FactsAll.list_4
import KE.KItemsList
import KE.KEqDict
import PyProof.Rows.SortRunsK
import PyProof.Rows.SortStr
import PyProof.Draws
import PyProof.EnumMake
import PyProof.SliceStr2
import PyProof.SliceList
import PyProof.DictWalks
import PyProof.SumWalkG
import PyProof.SeqI3
import PyProof.FactsAll.str_6
import PyProof.FactsAll.str_7
import PyProof.StrCalls
import PyProof.MeetsStr
import PyProof.DictItems
import PyProof.DictItemsLoops
import PyProof.DictUpdate
import KE.KPairComp
import PyProof.ZipIter
import PyProof.StrLoop
import PyProof.AttrMissHeap
import PySem.Challenge.RW_fillsay_k35_whole_fillings_that_fill
noncomputable section
local macro_rules|`(tactic|omega)=>`(tactic|lia)
set_option Elab.async false
set_option linter.all false
set_option maxRecDepth 100000
set_option maxHeartbeats 4000000
abbrev Xa:=@List.take_succ_eq_append_getElem
abbrev Xb:=@List.take_append_of_le_length
abbrev Xc:=@List.drop_append_of_le_length
abbrev Xd:=@List.eq_nil_of_length_eq_zero
abbrev Xe:=@PyProof.Rows.callWith_type1
abbrev Xf:=@Array.getD_eq_getD_getElem?
abbrev Xg:=@List.perm_append_comm_assoc
abbrev Xh:=@List.getElem?_append_right
abbrev Xi:=@List.perm_ext_iff_of_nodup
abbrev Xj:=@List.getD_eq_getElem?_getD
abbrev Xk:=@List.length_eraseIdx_of_lt
abbrev Xl:=@Nat.testBit_two_pow_add_gt
abbrev Xm:=@Nat.testBit_two_pow_add_eq
abbrev Xn:=@List.getElem?_eq_some_iff
abbrev Xo:=@List.getElem?_append_left
abbrev Xp:=@Classical.byContradiction
abbrev Xq:=@Array.getElem?_eq_getElem
abbrev Xr:=@PySem.Calls.call_function_entry
abbrev Xs:=@List.extract_eq_take_drop
abbrev Xt:=@List.drop_eq_getElem_cons
abbrev Xu:=@List.pairwise_iff_getElem
abbrev Xv:=@Option.isSome_iff_exists
abbrev Xw:=@List.getElem?_take_of_lt
abbrev Xx:=@PySem.F.args_tuple_add_2
abbrev Xy:=@List.getElem?_eq_getElem
abbrev Xz:=@List.filterMap_cons_some
abbrev X0:=@List.filterMap_cons_none
abbrev X1:=@List.eq_of_mem_replicate
abbrev X2:=@PySem.F.slot_list_append
abbrev X3:=@PySem.F.type_list_append
abbrev X4:=@PySem.wpAny_comprehension_free
abbrev X5:=@List.getElem?_replicate
abbrev X6:=@PySem.F.entry_tuple_add
abbrev X7:=@List.eraseIdx_cons_succ
abbrev X8:=@List.filter_cons_of_pos
abbrev X9:=@List.filter_cons_of_neg
abbrev XA:=@PyProof.Rows.F.plain_set_update_loop
abbrev XB:=@Nat.add_sub_cancel_left
abbrev XC:=@List.length_eq_zero_iff
abbrev XD:=@PySem.F.args_zip_next_1
abbrev XE:=@PySem.F.plainAttrs_list
abbrev XF:=@PySem.wpAny_callSpecial?_slot
abbrev XG:=@PySem.Heap.get?_push_of_some
abbrev XH:=@PySem.Calls.callWith_builtin
abbrev XI:=@PySem.F.slot_tuple_add
abbrev XJ:=@PySem.Heap.get?_update_other
abbrev XL:=@List.take_of_length_le
abbrev XM:=@List.drop_of_length_le
abbrev XN:=@Nat.testBit_lt_two_pow
abbrev XO:=@PySem.F.entry_zip_next
abbrev XQ:=@PySem.F.plainAttrs_str
abbrev XR:=@Nat.le_of_succ_le_succ
abbrev XS:=@List.mem_append_right
abbrev XT:=@List.length_replicate
abbrev XU:=@PySem.F.slot_dict_get
abbrev XV:=@PySem.Heap.get?_update_self
abbrev XW:=@List.length_singleton
abbrev XX:=@Array.getElem?_toList
abbrev XY:=@List.contains_iff_mem
abbrev XZ:=@List.take_append_drop
abbrev Ya:=@List.filterMap_append
abbrev Yb:=@List.getElem?_eq_none
abbrev Yc:=@List.mem_iff_getElem?
abbrev Yd:=@List.getElem?_zipWith
abbrev Ye:=@List.length_filter_le
abbrev Yf:=@PySem.F.slot_zip_next
abbrev Yg:=@PySem.F.slot_str_join
abbrev Yh:=@PySem.F.type_str_join
abbrev Yi:=@PySem.F.slot_list_pop
abbrev Yj:=@PySem.F.type_list_pop
abbrev Yk:=@PySem.builtinLookup_eq_fast
abbrev Yl:=@List.mem_cons_of_mem
abbrev Ym:=@List.mem_append_left
abbrev Yn:=@List.mem_of_getElem?
abbrev Yo:=@PySem.Around.under_plainId
abbrev Yp:=@Array.toList_extract
abbrev Yq:=@List.pairwise_append
abbrev Yr:=@List.mem_of_mem_drop
abbrev Ys:=@List.mem_of_mem_take
abbrev Yt:=@Array.toList_reverse
abbrev Yu:=@Nat.pow_le_pow_right
abbrev Yv:=@List.dropLast_concat
abbrev Yw:=@List.filterMap_cons
abbrev Yx:=@Array.length_toList
abbrev Yy:=@PySem.Heap.get?_push_size
abbrev Yz:=@PySem.mem_of_lookup
abbrev Y0:=@List.replicate_succ
abbrev Y1:=@List.length_zipWith
abbrev Y2:=@List.getElem_of_mem
abbrev Y3:=@PySem.Heap.SameBut.update
abbrev Y4:=@Array.toList_append
abbrev Y5:=@List.reverse_append
abbrev Y6:=@List.length_reverse
abbrev Y7:=@PySem.Paired.length
abbrev Y8:=@List.map_congr_left
abbrev Y9:=@List.getElem?_range
abbrev Za:=@List.map_eq_nil_iff
abbrev Zb:=@beq_eq_false_iff_ne
abbrev Zc:=@PySem.wpAny_setEntries_of
abbrev Zd:=@Nat.lt_of_lt_of_le
abbrev Ze:=@List.mem_cons_self
abbrev Zf:=@Bool.false_ne_true
abbrev Zg:=@PySem.Calls.spliced_cons
abbrev Zh:=@List.length_append
abbrev Zi:=@Nat.lt_of_le_of_lt
abbrev Zj:=@List.pairwise_cons
abbrev Zk:=@List.zip_cons_cons
abbrev Zl:=@Bool.false_eq_true
abbrev Zm:=@List.getElem?_drop
abbrev Zn:=@List.mem_singleton
abbrev Zo:=@Int.emod_lt_of_pos
abbrev Zp:=@PySem.wpAny_Call_Name_kw
abbrev Zq:=@PySem.tupleKind_room_in1
abbrev Zr:=@of_decide_eq_false
abbrev Zs:=@PySem.wpAny_setField_rec
abbrev Zt:=@List.getElem?_map
abbrev Zu:=@List.size_toArray
abbrev Zv:=@Int.toNat_natCast
abbrev Zw:=@List.flatten_cons
abbrev Zx:=@List.append_assoc
abbrev Zy:=@List.nodup_append
abbrev Zz:=@List.pairwise_map
abbrev Z0:=@Nat.lt_succ_of_lt
abbrev Z1:=@List.ext_getElem?
abbrev Z2:=@Array.toList_push
abbrev Z3:=@Bool.eq_false_iff
abbrev Z4:=@List.length_range
abbrev Z5:=@List.foldl_append
abbrev Z6:=@Nat.le_succ_of_le
abbrev Z7:=@PyProof.Rows.KeyOrd.kle_of_klt
abbrev Z8:=@List.getElem_take
abbrev Z9:=@PySem.wpAny_truthy_bool
abbrev Ua:=@PySem.wpAny_pyIter_list
abbrev Ub:=@PySem.wpAny_newObj_type
abbrev Uc:=@PySem.wpAny_pyIter_enum
abbrev Ud:=@PySem.wpAny_storeSet_of
abbrev Ue:=@PySem.fits_of_scanBound
abbrev Uf:=@PySem.wpAny_setState_of
abbrev Ug:=@bne_self_eq_false
abbrev Uh:=@PySem.wpAny_setEpoch_of
abbrev Ui:=@of_decide_eq_true
abbrev Uj:=@List.length_cons
abbrev Uk:=@Nat.lt_succ_self
abbrev Ul:=@List.length_take
abbrev Um:=@List.length_drop
abbrev Uo:=@List.all_eq_true
abbrev Up:=@List.lookup_cons
abbrev Uq:=@Bool.and_eq_true
abbrev Ur:=@List.getElem_mem
abbrev Us:=@List.not_mem_nil
abbrev Ut:=@List.take_length
abbrev Uu:=@PyProof.Rows.KeyOrd.kle_trans
abbrev Uv:=@List.cons_append
abbrev Uw:=@PySem.wpAny_pyIter_zip
abbrev Ux:=@PySem.wpAny_askSetting
abbrev Uy:=@PySem.wpAny_isInstance
abbrev Uz:=@PySem.wpAny_call_entry
abbrev U0:=@List.mem_filter
abbrev U1:=@List.mem_append
abbrev U2:=@Bool.eq_iff_iff
abbrev U3:=@List.length_map
abbrev U4:=@List.append_nil
abbrev U5:=@List.nodup_cons
abbrev U6:=@List.of_mem_zip
abbrev U7:=@List.find?_cons
abbrev U8:=@List.foldl_cons
abbrev U9:=@List.nil_append
abbrev Ja:=@List.map_append
abbrev Jb:=@List.forIn_cons
abbrev Jc:=@Nat.not_lt_zero
abbrev Jd:=@Int.emod_nonneg
abbrev Je:=@List.range_succ
abbrev Jf:=@PyProof.Rows.KeyOrd.kle_refl
abbrev Jg:=@Nat.min_eq_left
abbrev Jh:=@Nat.testBit_and
abbrev Ji:=@Nat.two_pow_pos
abbrev Jj:=@List.length_zip
abbrev Jk:=@PySem.PassesOwn.never
abbrev Jl:=@decide_eq_false
abbrev Jm:=@PySem.wpAny_execs_nil
abbrev Jn:=@PySem.wpAny_passesOwn
abbrev Jo:=@PySem.wpAny_specialOf
abbrev Jp:=@PySem.codeAny_builtin
abbrev Jq:=@PySem.typeLookup_type
abbrev Jr:=@PySem.wpAny_ite_split
abbrev Js:=@List.mem_range
abbrev Jt:=@Bool.false_and
abbrev Ju:=@PySem.Heap.size_push
abbrev Jv:=@Bool.xor_assoc
abbrev Jw:=@List.Perm.refl
abbrev Jx:=@List.forIn_nil
abbrev Jy:=@Bool.and_false
abbrev Jz:=@Bool.not_false
abbrev J0:=@List.drop_zero
abbrev J4:=@List.take_succ
abbrev J5:=@List.take_zero
abbrev J6:=@List.drop_drop
abbrev J7:=@List.take_left
abbrev J8:=@PySem.Draws.strAscii
abbrev J9:=@PySem.boot_len
abbrev Qa:=@decide_eq_true
abbrev Qb:=@PySem.isSubtype_type
abbrev Qc:=@PySem.entryFor_alias
abbrev Qd:=@PySem.wpAny_fieldsOf
abbrev Qe:=@PySem.isSubtype_stop
abbrev Qf:=@PySem.wpAny_seqItems
abbrev Qg:=@PySem.wpAny_newTuple
abbrev Qh:=@Nat.lt_irrefl
abbrev Qi:=@List.mem_cons
abbrev Qj:=@List.map_cons
abbrev Qk:=@List.any_cons
abbrev Ql:=@Bool.false_or
abbrev Qm:=@Bool.or_false
abbrev Qn:=@Bool.not_true
abbrev Qo:=@List.sum_cons
abbrev Qp:=@Nat.add_assoc
abbrev Qq:=@Nat.mul_assoc
abbrev Qr:=@PySem.wpAny_holding
abbrev Qs:=@PySem.wpAny_standAt
abbrev Qt:=@PySem.plainId_quiet
abbrev Qu:=@PySem.wpAny_attempt
abbrev Qv:=@PySem.wpAny_newList
abbrev Qw:=@PySem.Heap.lt_size
abbrev Qx:=@Nat.ne_of_lt
abbrev Qy:=@Nat.le_trans
abbrev Qz:=@Nat.le_of_lt
abbrev Q0:=@Nat.ne_of_gt
abbrev Q1:=@List.map_nil
abbrev Q2:=@Nat.mul_comm
abbrev Q3:=@Nat.pow_succ
abbrev Q4:=@List.mem_map
abbrev Q5:=@List.map_map
abbrev Q6:=@Nat.zero_add
abbrev Q7:=@Nat.lt_or_ge
abbrev Q8:=@Int.zero_add
abbrev Q9:=@PySem.W.mg_none_of
abbrev Va:=@PySem.codeAny_mono
abbrev Vb:=@PySem.wpAny_typeOf
abbrev Vc:=@PyProof.Rows.wpS_forRange
abbrev Vd:=@Nat.le_refl
abbrev Ve:=@Nat.zero_le
abbrev Vg:=@Nat.le_succ
abbrev Vh:=@PySem.sizeLine_eq
abbrev Vi:=@PySem.wpAny_of_eq
abbrev Vj:=@PySem.wpAny_field
abbrev Vk:=@PySem.wpAny_mono
abbrev Vl:=@PySem.wpAny_bind
abbrev Vm:=@PySem.wpAny_pure
abbrev Vn:=@beq_iff_eq
abbrev Vo:=@PySem.typeIs_str
abbrev Vp:=@PySem.call_meets
abbrev Vq:=@PySem.wpAny_rule
abbrev Vr:=@PyProof.Rows.wpS_modify
abbrev Vu:=@PySem.W.kia_one
abbrev Vv:=@if_false
abbrev Vw:=@PyProof.Rows.wpS_pure
abbrev Vx:=@PyProof.Rows.wpS_bind
abbrev Vy:=@PyProof.Rows.wpS_mono
abbrev Vz:=@Ne.symm
abbrev V0:=@PySem.W.mg_of
abbrev V1:=@if_true
abbrev V2:=@PyProof.Rows.wpS_get
abbrev V3:=@dif_pos
abbrev V4:=@if_pos
abbrev V5:=@if_neg
namespace L2
open PySem PySem.Spec PyProof.Rows
noncomputable abbrev sA0:Str:="_law_letters_here"
noncomputable abbrev sA1:Str:="_law_script"
noncomputable abbrev sA2:Str:="_law_row_here"
noncomputable abbrev sA3:Str:="_law_wishes_here"
noncomputable abbrev sA4:Str:="_law_tree_here"
noncomputable abbrev sA5:Str:="_law_number"
noncomputable abbrev sA6:Str:="_law_givens"
noncomputable abbrev sA7:Str:="_law_k"
noncomputable abbrev sA8:Str:="_law_many"
noncomputable abbrev sA9:Str:="_law_gaps"
noncomputable abbrev sB0:Str:="_law_mixed"
noncomputable abbrev sB1:Str:="_law_other"
noncomputable abbrev sB2:Str:="_law_truth"
noncomputable abbrev sB3:Str:="_law_table"
noncomputable abbrev sB4:Str:="_law_form_here"
noncomputable abbrev sB5:Str:="_law_cell"
noncomputable abbrev sB6:Str:="_law_text"
noncomputable abbrev sB7:Str:="_law_drawn_form"
noncomputable abbrev sB8:Str:="_law_letter"
noncomputable abbrev sB9:Str:="_law_at"
noncomputable abbrev sC0:Str:="_law_failing"
noncomputable abbrev sC1:Str:="_law_letters"
noncomputable abbrev sC2:Str:="_law_one"
noncomputable abbrev sC3:Str:="_law_written"
noncomputable abbrev sC4:Str:="_law_wishes"
noncomputable abbrev sC5:Str:="_law_chosen"
noncomputable abbrev sC6:Str:="_law_row"
noncomputable abbrev sC7:Str:="_law_rows"
noncomputable abbrev sC8:Str:="_law_form"
noncomputable abbrev sC9:Str:="_law_both"
noncomputable abbrev sD0:Str:="_law_worth"
noncomputable abbrev sD1:Str:="_law_frees"
noncomputable abbrev sD2:Str:="_law_leaf"
noncomputable abbrev sD3:Str:="_law_tree"
noncomputable abbrev sD4:Str:="_law_most"
noncomputable abbrev sD5:Str:="_law_gap"
abbrev Key:=Sum Int Str
noncomputable def qcs:Key->Value->Bool
 |.inl k,v=>Value.isInt k v
 |.inr x,v=>Value.isStrOf x v
noncomputable def qoQ(w:World):Key->Int
 |.inl k=>hashInt k
 |.inr x=>hashStr w x
theorem zu:∀{k:Key}{v:Value},qcs k v=true->(∃ i t,k=Sum.inl i/\v=Value.int i t)∨(∃ x t,k=Sum.inr x/\v=Value.str x t)
 |.inl i,v,h=>by
  obtain⟨t,e⟩:=Value.isInt_shape (k:=i) (v:=v) h;exact .inl ⟨i,t,rfl,e⟩
 |.inr x,v,h=>by
  obtain⟨t,e⟩:=Value.isStrOf_shape (x:=x) (v:=v) h;exact .inr ⟨x,t,rfl,e⟩
theorem qia(i:Int)(t:Tok):qcs (.inl i) (.int i t)=true:=by simp[qcs,Value.isInt]
theorem qib(x:Str)(t:Tok):qcs (.inr x) (.str x t)=true:=by simp[qcs,Value.isStrOf]
theorem qmH(a b:Int):decide ((Sum.inl a:Key)=Sum.inl b)=(a == b):=by
 by_cases e:a=b
 ·subst e;simp
 ·have h:¬ (Sum.inl a:Key)=Sum.inl b:=λ q=>e (Sum.inl.inj q)
  rw[Jl h];exact(Zb.mpr e).symm
theorem qmI(a b:Str):decide ((Sum.inr a:Key)=Sum.inr b)=decide (a=b):=by
 by_cases e:a=b
 ·subst e;simp
 ·have h:¬ (Sum.inr a:Key)=Sum.inr b:=λ q=>e (Sum.inr.inj q)
  rw[Jl h,Jl e]
theorem qmJ(a:Int)(b:Str):decide ((Sum.inl a:Key)=Sum.inr b)=false:=Jl (λ q=>nomatch q)
theorem qmK(a:Str)(b:Int):decide ((Sum.inr a:Key)=Sum.inl b)=false:=Jl (λ q=>nomatch q)
noncomputable def qw(prog:Program)(w:World):PySem.KeyKind prog w Key where
 is:=qcs
 hash:=qoQ w
 inj:=λ v a b ha hb=>by
  rcases zu ha with⟨i,t,rfl,rfl⟩|⟨x,t,rfl,rfl⟩
  ·rcases zu hb with⟨j,u,rfl,e⟩ | ⟨y,u,rfl,e⟩
   ·injection e with e1 _;rw[e1]
   ·exact nomatch e
  ·rcases zu hb with⟨j,u,rfl,e⟩ | ⟨y,u,rfl,e⟩
   ·exact nomatch e
   ·injection e with e1 _;rw[e1]
 byValue:=λ k v h=>by
  rcases zu h with⟨i,t,rfl,rfl⟩|⟨x,t,rfl,rfl⟩ <;> rfl
 pyHash:=λ hv h=>by
  rcases zu hv with⟨i,t,rfl,rfl⟩|⟨x,t,rfl,rfl⟩
  ·exact wpAny_pyHash_int h
  ·exact wpAny_pyHash_str h
 eqBool:=λ hu hv h=>by
  rcases zu hu with⟨i,t,rfl,rfl⟩|⟨x,t,rfl,rfl⟩
  ·rcases zu hv with⟨j,u,rfl,rfl⟩ | ⟨y,u,rfl,rfl⟩
   ·rw[qmH] at h;exact wpAny_eqBool_int h
   ·rw[qmJ] at h;exact SeqAt.EqAt.int_str i t y u _ _ _ _ h
  ·rcases zu hv with⟨j,u,rfl,rfl⟩ | ⟨y,u,rfl,rfl⟩
   ·rw[qmK] at h;exact SeqAt.EqAt.str_int x t j u _ _ _ _ h
   ·rw[qmI] at h;exact wpAny_eqBool_str h
 «strs»:=λ k x t v h=>by
  rcases zu h with⟨i,u,rfl,e⟩|⟨y,u,rfl,e⟩
  ·exact nomatch e
  ·injection e with e1 _
   subst e1;cases v <;> rfl
theorem qfe(prog:Program)(w:World)(i:Int)(t:Tok):(qw prog w).is (.inl i) (.int i t)=true:=qia i t
theorem zv(prog:Program)(w:World)(x:Str)(t:Tok):(qw prog w).is (.inr x) (.str x t)=true:=qib x t
inductive V where 
 |non|bl (b:Bool)|int (i:Int)|str (x:Str)|byt (b:Array UInt8)|flt (b:UInt64)|ref (a:Addr)|ty (n:String) deriving DecidableEq
def qS:V->Value->Prop
 |.non,u=>u=Value.none
 |.bl b,u=>u=Value.bool b
 |.int i,u=>∃ t,u=Value.int i t
 |.str x,u=>∃ t,u=Value.str x t
 |.byt b,u=>∃ t,u=Value.bytes b t
 |.flt b,u=>∃ t,u=Value.float b t
 |.ref a,u=>u=Value.ref a
 |.ty n,u=>u=Value.type n
abbrev qL:List V->List Value->Prop:=Paired qS
theorem qL.length(r:qL xs us):xs.length=us.length:=Paired.length r
theorem qL.get:∀{xs:List V}{us:List Value}{i:Nat}{x:V},qL xs us->xs[i]?=some x->∃ u,us[i]?=some u/\qS x u
 |_,_,_,_,.nil,e=>by simp at e
 |_,_,0,_,.cons r _,e=>by simp at e;subst e;exact⟨_,rfl,r⟩
 |_,_,i+1,x,.cons _ t,e=>by
  obtain⟨u,h1,h2⟩:=qL.get (i:=i) (x:=x) t (by simpa using e);exact⟨u,by simpa using h1,h2⟩
theorem qL.set(r:qS x u):∀{xs:List V}{us:List Value}(i:Nat),qL xs us->qL (xs.set i x) (us.set i u)
 |_,_,_,.nil=>.nil
 |_,_,0,.cons _ t=>.cons r t
 |_,_,i+1,.cons q t=>.cons q (qL.set r i t)
theorem qL.append:∀{xs ys:List V}{us ws:List Value},qL xs us->qL ys ws->qL (xs++ys) (us++ws)
 |_,_,_,_,.nil,s=>s
 |_,_,_,_,.cons r t,s=>.cons r (qL.append t s)
theorem qL.take:∀{xs:List V}{us:List Value}(n:Nat),qL xs us->qL (xs.take n) (us.take n)
 |_,_,0,_=>.nil
 |_,_,_+1,.nil=>.nil
 |_,_,n+1,.cons r t=>.cons r (qL.take n t)
theorem qL.drop:∀{xs:List V}{us:List Value}(n:Nat),qL xs us->qL (xs.drop n) (us.drop n)
 |_,_,0,r=>r
 |_,_,_+1,.nil=>.nil
 |_,_,n+1,.cons _ t=>qL.drop n t
def vM:Option V->Option Value->Prop
 |some v,some u=>qS v u
 |none,none=>True
 |_,_=>False
def KV{κ:Type}:List (κ×V)->List (κ×Value)->Prop:=Paired λ(p:κ×V)(q:κ×Value)=>p.1=q.1/\qS p.2 q.2
noncomputable def kV:Key->V
 |.inl i=>.int i
 |.inr x=>.str x
inductive HO where 
 
 |lst (xs:List V) 
 |tup (xs:List V) 
 |dK (kvs:List (Key×V))|dT (kvs:List (List Key×V)) 
 |set (S:Int->Bool) (n:Nat)
 
 |ins (C dx:Addr) (fs:List (Str×V))
 
 |own (x:Addr)
 
 |xd (fs:List (Str×V))
 
 |met (f x:Addr)
 
 |rng (lo hi:Int)
 
 |frz (o:Obj) (u:HO)
 
 |tbl (ps:Array Value)
 
 |ext (φ:Heap->Prop)
abbrev Hp:=Addr->Option HO
noncomputable def upd(H:Hp)(a:Addr)(o:HO):Hp:=λ b=>if b=a then some o else H b
theorem qd:upd H a o a=some o:=by unfold upd;rw[V4 rfl]
theorem qv(h:b≠a):upd H a o b=H b:=by unfold upd;rw[V5 h]
theorem qi8{H:Hp}(h:H a=some o)(h':H b=some u)(d:o≠u):a≠b:=by
 intro e;subst e;rw[h] at h';exact d (Option.some.inj h')
theorem zp{H:Hp}(h:H a=some o)(h':H b=none):a≠b:=by
 intro e;subst e;rw[h] at h';cases h'
section
variable (P:Program)(w:World)
def zx(H:Hp)(h:Heap)(a:Addr):HO->Prop
 | .lst xs=>xs.length<=sizeLine/\∃(its:List Value)(n:Nat),qL xs its/\h.get? a=some { cls:=.type "list",data:=.seq its.toArray n }
 |.tup xs=>xs.length<=sizeLine/\∃ its:List Value,qL xs its/\IsTup h a its.toArray
 |.dK kvs=>kvs.length<=sizeLine/\(a == sysModules)=false/\∃ vs,KV kvs vs/\h.DictOf (qw P w) a vs
 | .dT kvs=>kvs.length<=sizeLine/\(a == sysModules)=false/\∃ xs:List (List Key×Addr×Value),
   Paired (λ(p:List Key×V)(q:List Key×Addr×Value)=>p.1=q.1/\H q.2.1=some (.tup (p.1.map kV))/\qS p.2 q.2.2) kvs xs /\
   ∃ o es ep,h.get? a=some o/\o.ExactDict/\o.data=.dict es ep/\es.toList=xs.map (entryOfKey (tupleKind (qw P w)))/\(xs.map (·.1)).Nodup
 |.set S n=>h.SetOf (intKind P w) a S n
 | .ins C dx fs=>H dx=some (.own a)/\fs.length<=1000/\dx≠a/\h.get? a=some (W.instObj C dx) /\
   ∃ mA,h.Ns1 dx mA/\(∀ f,vM (fs.lookup f) (mA f))/\PySem.Within mA (fs.map (·.1))
 |.own _=>∃ o,h.get? a=some o
 |.xd fs=>∃ mA,h.Ns1 a mA/\∀ f,vM (fs.lookup f) (mA f)
 | .rng lo hi=>∃ t u v,h.get? a=some { cls:=.type "range",data:=.fields #[.int lo t,.int hi u,.int 1 v] }
 |.frz o u=>h.get? a=some o/\zx H h a u
 |.tbl ps=>h.get? a=some { cls:=.none,data:=.fields ps }
 |.met f x=>h.get? a=some (W.methodObj (.ref f) (.ref x))
 |.ext φ=>φ h/\(∃ o,h.get? a=some o)/\∀ h1 h2:Heap,φ h1->(∀ o,h1.get? a=some o->h2.get? a=some o)->φ h2
def HOk(H:Hp)(h:Heap):Prop:=∀ a o,H a=some o->zx P w H h a o
end
section
variable {P:Program}{w:World}{H H':Hp}{h h':Heap}{a:Addr}{o:HO}
theorem zx.lt(x:zx P w H h a o):a<h.objs.size:=by
 cases o with
 |lst xs=>obtain⟨_,_,_,_,e⟩:=x;exact Qw e
 |tup xs=>obtain⟨_,_,_,p⟩:=x;exact p.lt
 |dK kvs=>obtain⟨_,_,_,_,o,_,_,e,_⟩:=x;exact Qw e
 |dT kvs=>obtain⟨_,_,_,_,o,_,_,e,_⟩:=x;exact Qw e
 |set S n=>obtain⟨o,_,_,_,e,_⟩:=x;exact Qw e
 |ins C dx fs=>obtain⟨_,_,_,e,_⟩:=x;exact Qw e
 |own y=>obtain⟨_,e⟩:=x;exact Qw e
 |xd fs=>obtain⟨_,⟨_,_,_,e,_⟩,_⟩:=x;exact Qw e
 |rng lo hi=>obtain⟨_,_,_,e⟩:=x;exact Qw e
 |frz ob u=>obtain⟨e,_⟩:=x;exact Qw e
 |tbl ps=>exact Qw (show h.get? a=some _ from x)
 |met f y=>exact Qw (show h.get? a=some _ from x)
 |ext φ=>obtain⟨_,⟨_,e⟩,_⟩:=x;exact Qw e
theorem Paired.mapP:∀{l₁:List α}{l₂:List β},Paired F l₁ l₂->(∀ a b,F a b->G a b)->Paired G l₁ l₂
 |_,_,.nil,_=>.nil
 |_,_,.cons r t,f=>.cons (f _ _ r) (Paired.mapP t f)
theorem zx.stay(x:zx P w H h a o)(k:∀ b u,(b=a∨H b=some (.own a))->h.get? b=some u->h'.get? b=some u)(ho:∀ b,H b=some (.own a)->H' b=some (.own a))(ht:∀ b xs,H b=some (.tup xs)->H' b=some (.tup xs)):zx P w H' h' a o:=by
 induction o with
 |lst xs=>obtain⟨z,its,n,r,e⟩:=x;exact⟨z,its,n,r,k _ _ (.inl rfl) e⟩
 |tup xs=>obtain⟨z,its,r,ob,e,c⟩:=x;exact⟨z,its,r,ob,k _ _ (.inl rfl) e,c⟩
 |dK kvs=>obtain⟨z,y,vs,r,ob,es,ep,e,c⟩:=x;exact⟨z,y,vs,r,ob,es,ep,k _ _ (.inl rfl) e,c⟩
 |dT kvs =>
  obtain⟨z,y,xs,r,ob,es,ep,e,c⟩:=x;exact⟨z,y,xs,Paired.mapP r λ p q z=>⟨z.1,ht _ _ z.2.1,z.2.2⟩,ob,es,ep,k _ _ (.inl rfl) e,c⟩
 |set S n=>obtain⟨ob,es,ep,t,e,c⟩:=x;exact⟨ob,es,ep,t,k _ _ (.inl rfl) e,c⟩
 |ins C dx fs =>
  obtain⟨d,z,ne,e,mA,⟨od,es,ep,e2,c⟩,r⟩:=x;exact⟨ho _ d,z,ne,k _ _ (.inl rfl) e,mA,⟨od,es,ep,k _ _ (.inr d) e2,c⟩,r⟩
 |own y=>obtain⟨ob,e⟩:=x;exact⟨ob,k _ _ (.inl rfl) e⟩
 |xd fs=>obtain⟨mA,⟨od,es,ep,e,c⟩,r⟩:=x;exact⟨mA,⟨od,es,ep,k _ _ (.inl rfl) e,c⟩,r⟩
 |rng lo hi=>obtain⟨t,u,v,e⟩:=x;exact⟨t,u,v,k _ _ (.inl rfl) e⟩
 |frz ob u ih=>obtain⟨e,q⟩:=x;exact⟨k _ _ (.inl rfl) e,ih q⟩
 |tbl ps =>
  have e:h.get? a=some { cls:=.none,data:=.fields ps }:=x;show h'.get? a=some { cls:=.none,data:=.fields ps }
  exact k a _ (.inl rfl) e
 |met f y =>
  have e:h.get? a=some (W.methodObj (.ref f) (.ref y)):=x;show h'.get? a=some (W.methodObj (.ref f) (.ref y))
  exact k a _ (.inl rfl) e
 |ext φ=>obtain⟨p,⟨o,e⟩,st⟩:=x;exact⟨st _ _ p λ o q=>k _ _ (.inl rfl) q,⟨o,k _ _ (.inl rfl) e⟩,st⟩
theorem HOk.lt(x:HOk P w H h)(e:H a=some o):a<h.objs.size:=(x a o e).lt
theorem HOk.fresh(x:HOk P w H h)(e:h.objs.size<=a):H a=none:=by
 cases q:H a with
 |none=>rfl
 |some u=>exact absurd (Zd (x.lt q) e) (Qh _)
theorem HOk.kept(x:HOk P w H h)(k:∀ b u,h.get? b=some u->h'.get? b=some u):HOk P w H h':=λ a o e =>
 (x a o e).stay (λ b u _ q=>k b u q) (λ _ q=>q) λ _ _ q=>q
theorem HOk.laid(x:HOk P w H h)(k:∀ b u,h.get? b=some u->h'.get? b=some u)(hp:h.objs.size<=a)(new:zx P w (upd H a o) h' a o):HOk P w (upd H a o) h':=λ b u e=>by
 have hn:=x.fresh hp;by_cases hb:b=a
 ·subst hb;rw[qd] at e;cases e;exact new
 ·rw[qv hb] at e;exact(x b u e).stay (λ c v _ q=>k c v q) (λ c q=>by rw[qv (zp q hn)];exact q) λ c xs q=>by rw[qv (zp q hn)];exact q
end
def Rd(H:Hp)(a:Addr)(u:HO):Prop:=H a=some u∨∃ o,H a=some (.frz o u)
theorem Rd.ok(r:Rd H a u)(x:HOk P w H h):zx P w H h a u:=by
 rcases r with r|⟨o,r⟩
 ·exact x a u r
 ·obtain⟨_,q⟩:=x a _ r;exact q
def Mut:Option HO->Prop
 |some (.lst _)=>True
 |some (.dK _)=>True
 |some (.dT _)=>True
 |some (.set _ _)=>True
 |some (.ins _ _ _)=>True
 |some (.ext _)=>True
 |_=>False
section
variable {P:Program}{w:World}{H:Hp}{h h':Heap}{x e:Addr}{o':HO}
theorem HOk.write(ok:HOk P w H h)(mu:Mut (H x))(he:e=x∨H e=some (.own x))(k:∀ b u,b≠e->h.get? b=some u->h'.get? b=some u)(bI:∃ u,h'.get? e=some u)(new:zx P w (upd H x o') h' x o'):HOk P w (upd H x o') h':=λ b u q=>by
 have pK:∀ c y,H c=some (.own y)->c≠x:=λ c y r z=>by subst z;rw[r] at mu;exact mu
 have ntup:∀ c xs,H c=some (.tup xs)->c≠x:=λ c xs r z=>by subst z;rw[r] at mu;exact mu
 by_cases hb:b=x
 ·subst hb;rw[qd] at q;cases q;exact new
 ·rw[qv hb] at q;by_cases hbe:b=e
  ·have q':H b=some (.own x):=by
    rcases he with z|z
    ·exact absurd (hbe.trans z) hb
    ·rw[hbe];exact z
   rw[q] at q';cases q';obtain⟨v,hv⟩:=bI;exact⟨v,by rw[hbe];exact hv⟩
  ·refine(ok b u q).stay (λ c v hc r=>k c v ?_ r) (λ c r=>by rw[qv (pK c b r)];exact r) λ c xs r=>by rw[qv (ntup c xs r)];exact r
   rcases hc with rfl|hc
   ·exact hbe
   ·rintro rfl;rcases he with z | z
    ·exact pK c b hc z
    ·rw[hc] at z;cases z;exact hb rfl
end
structure Un(fs ex:List Addr)(H H':Hp)(h h':Heap):Prop where
 keep:∀ b o,h.get? b=some o->H b=none->b∉fs->b∉ex->h'.get? b=some o
 slot:∀ b o,h.get? b=some o->H b=none->b∈fs->b∉ex->∃ sl,h'.get? b=some { o with slots:=sl }
 free:∀ b o,h.get? b=some o->H b=none->b∉ex->H' b=none
 there:∀ b o,h.get? b=some o->b∉ex->∃ o',h'.get? b=some o'
 tups:∀ b xs,H b=some (.tup xs)->H' b=some (.tup xs)
 frzs:∀ b o u,H b=some (.frz o u)->H' b=some (.frz o u)
 tbls:∀ b ps,H b=some (.tbl ps)->∃ more,H' b=some (.tbl (ps++more))
section
variable {fs W6 ex ex':List Addr}{H H1 H2:Hp}{h h1 h2 h':Heap}{a x e:Addr}{o:HO}
theorem Un.any(u:Un fs ex H H1 h h1)(q:h.get? b=some ob)(n:H b=none)(hx:b∉ex):∃ sl,h1.get? b=some { ob with slots:=sl }:=by
 by_cases hb:b∈fs
 ·exact u.slot b ob q n hb hx
 ·exact⟨ob.slots,u.keep b ob q n hb hx⟩
theorem Un.kept(k:∀ b u,h.get? b=some u->h'.get? b=some u):Un fs ex H H h h':=
 ⟨λ b ob q _ _ _=>k b ob q,λ b ob q _ _ _=>⟨ob.slots,k b ob q⟩,λ _ _ _ n _=>n,λ b ob q _=>⟨ob,k b ob q⟩,λ _ _ q=>q,λ _ _ _ q=>q,λ _ ps q=>⟨#[],by rw[q];simp⟩⟩
theorem Un.refl:Un fs ex H H h h:=Un.kept λ _ _ q=>q
theorem Un.laid(k:∀ b u,h.get? b=some u->h'.get? b=some u)(hp:h.objs.size<=a)(hn:H a=none):Un fs ex H (upd H a o) h h' where
 keep:=λ b u q _ _ _=>k b u q
 slot:=λ b u q _ _ _=>⟨u.slots,k b u q⟩
 free:=λ b u q n _=>by rw[qv (Qx (Zd (Qw q) hp))];exact n
 there:=λ b u q _=>⟨u,k b u q⟩
 tups:=λ b xs q=>by rw[qv (zp q hn)];exact q
 frzs:=λ b u xs q=>by rw[qv (zp q hn)];exact q
 tbls:=λ b ps q=>⟨#[],by rw[qv (zp q hn),q];simp⟩
theorem Un.write(mu:Mut (H x))(he:e=x∨H e=some (.own x))(k:∀ b u,b≠e->h.get? b=some u->h'.get? b=some u)(bI:∃ u,h'.get? e=some u):Un fs ex H (upd H x o) h h':=by
 have hx:∀ b,H b=none->b≠x:=λ b n z=>by subst z;rw[n] at mu;exact mu
 have hb:∀ b,H b=none->b≠e:=λ b n z=>by
  subst z;rcases he with r|r
  ·exact hx b n r
  ·rw[n] at r;cases r
 have hm:∀ b u,H b=some u->¬ Mut (some u)->b≠x:=λ b u q nm z=>by subst z;rw[q] at mu;exact nm mu
 refine⟨λ b u q n _ _=>k b u (hb b n) q,λ b u q n _ _=>⟨u.slots,k b u (hb b n) q⟩,λ b u q n _=>by rw[qv (hx b n)];exact n,λ b u q _=>?_,
  λ b xs q=>by rw[qv (hm b _ q λ z=>z)];exact q,λ b u xs q=>by rw[qv (hm b _ q λ z=>z)];exact q,λ b ps q=>⟨#[],by rw[qv (hm b _ q λ z=>z),q];simp⟩⟩
 by_cases hbe:b=e
 ·subst hbe;exact bI
 ·exact⟨u,k b u hbe q⟩
end
noncomputable def trk(h:Heap)(H:Hp):List Addr:=(List.range h.objs.size).filter λ a=>(H a).isSome
noncomputable def qeq(h:Heap)(H:Hp):Heap:=W.hideAll h (trk h H)
theorem qic(h:Heap)(H:Hp):(qeq h H).objs.size=h.objs.size:=W.hideAll_size _ _
theorem qi9(e:h.get? b=some o)(n:H b=none):(qeq h H).get? b=some o:=
 W.hideAll_get _ e λ hm=>by
  have q:(H b).isSome=true:=(U0.mp hm).2;rw[n] at q;simp at q
theorem qlg(e:(qeq h H).get? b=some o):h.get? b=some o/\H b=none:=by
 have e':h.get? b=some o:=W.of_hideAll (trk h H) e;refine⟨e',?_⟩;cases q:H b with
 |none=>rfl
 |some x =>
  have hm:b∈trk h H:=U0.mpr ⟨Js.mpr (Qw e'),by simp[q]⟩;have z:(qeq h H).get? b=none:=W.hideAll_none (trk h H) hm;rw[z] at e;cases e
noncomputable def qlh(g h:Heap)(L:Addr):List (Addr×Obj):=(List.range h.objs.size).filterMap λ a=>if a=L∨(g.get? a).isSome=true then none else(h.get? a).map λ o=>(a,o)
noncomputable def rest(g h:Heap)(L d:Addr):List (Addr×Obj):=(qlh g h L).filter λ p=>decide (p.1≠d)
structure Mod(K:W.Frag)(mg:Str->Option Value)(base:Heap):Prop where
 kin:K.In base
 glob:base.Ns mainGlobals mg
 blt:∃ mb,base.Ns builtinsNs mb/\∀ x:Str,x≠"__name__"->mb x=bootBuiltins x
 nolimit:base.NoLimit
structure Cx where 
 prog:Program
 w:World
 K:W.Frag
 mg:Str->Option Value
 base:Heap
 A:Around
 N:List Str
 s₀:Shared
 H₀:Hp
 env:Env
 outer:List Env
 stack:List Env
 ex:List Addr
 fn:Str->Bool
 calm:Bool
 pn:List (Addr×Obj)
 xe:Value->Shared->Prop
noncomputable def frs(l:List Env):List Addr:=l.filterMap (·.frame)
noncomputable abbrev Cx.fs(X:Cx):List Addr:=frs X.outer
def Vis(sc:Scope)(x:Str):Prop:=sc.names.lookup x=some .local∨sc.names.lookup x=some .cell∨sc.names.lookup x=some .free
def Loc(sc:Scope)(x:Str):Prop:=sc.names.lookup x=some .local∨sc.names.lookup x=some .cell
def qoR(env:Env)(h:Heap)(m:Str->Option Value)(x:Str)(u:Value):Prop:=
 (env.kindOf x=some .local/\m x=some u)∨((env.kindOf x=some .cell∨env.kindOf x=some .free)/\∃ c,env.cells.lookup x=some c/\h.IsCell c (some u))
structure Cx.Ok(X:Cx):Prop where
 mod:Mod X.K X.mg X.base
 kind:X.env.scope.kind=.function
 glob:X.env.globals=mainGlobals
 blt:X.env.builtins=builtinsNs
 above:X.s₀.heap.objs.size<=X.env.locals
 inj:∀ x y c,X.env.cells.lookup x=some c->X.env.cells.lookup y=some c->x=y
 has:∀ x,(X.env.kindOf x=some .cell∨X.env.kindOf x=some .free)->∃ c,X.env.cells.lookup x=some c
 cab:∀ x c,X.fn x=true->X.env.cells.lookup x=some c->X.s₀.heap.objs.size<=c
 hd:X.calm=true->X.A.handled=none
 frames:X.A.frames=some X.stack
 stk:X.stack=X.outer∨(X.stack=X.env::X.outer/\X.env.frame=some X.env.locals)
 exf:∀ b∈X.ex,b≠X.env.locals/\∀ x c,X.env.cells.lookup x=some c->c≠b
 bs:∀ b o,X.base.get? b=some o->X.s₀.heap.get? b=some o/\X.H₀ b=none
 bsz:X.base.objs.size<=X.s₀.heap.objs.size
 noex:∀ b o,X.base.get? b=some o->b∉X.ex
 exfs:∀ b∈X.ex,b∉X.fs
 funs:X.s₀.heap.FunFrames X.base X.outer
 frf:∀ b∈X.fs,X.H₀ b=none
structure Inv(X:Cx)(pins:List (Addr×Obj))(σ:List (Option V))(H:Hp)(s:Shared):Prop where
 ok:X.Ok
 os:s.os=X.s₀.os
 bare:AllBare s.gens
 base:Un X.fs X.ex X.H₀ H X.s₀.heap s.heap
 loc:∃ m,s.heap.Ns X.env.locals m/\∀(i:Nat)(x:Str)(v:V),X.N[i]?=some x->σ[i]?=some (some v)->Vis X.env.scope x->∃ u,qS v u/\qoR X.env s.heap m x u
 cell:∀ x c,X.env.cells.lookup x=some c->∃ v,s.heap.IsCell c v
 free:H X.env.locals=none
 freeC:∀ x c,X.env.cells.lookup x=some c->H c=none
 pin:∀ p∈X.pn++pins,s.heap.get? p.1=some p.2/\H p.1=none/\p.1≠X.env.locals/\p.1∉X.fs/\∀ v,p.2.data≠.cell v
 hok:HOk X.prog X.w H s.heap
 len:σ.length=X.N.length
section
variable {X:Cx}{pins:List (Addr×Obj)}{σ:List (Option V)}{H H':Hp}{s:Shared}{h':Heap}
theorem Cx.Ok.nofr(ok:X.Ok)(e:X.base.get? b=some o):b∉X.fs:=λ hb=>by
 have:=(ok.funs.mem hb).1
 rw[e] at this;cases this
theorem Inv.bs(I:Inv X pins σ H s):∀ b o,X.base.get? b=some o->s.heap.get? b=some o/\H b=none:=λ b o e =>
 ⟨I.base.keep b o (I.ok.bs b o e).1 (I.ok.bs b o e).2 (I.ok.nofr e) (I.ok.noex b o e),I.base.free b o (I.ok.bs b o e).1 (I.ok.bs b o e).2 (I.ok.noex b o e)⟩
theorem Inv.bk(I:Inv X pins σ H s):∀ b o,X.base.get? b=some o->s.heap.get? b=some o:=λ b o e=>(I.bs b o e).1
theorem Inv.mod(I:Inv X pins σ H s):Mod X.K X.mg X.base:=I.ok.mod
theorem Inv.kIn(I:Inv X pins σ H s):X.K.In s.heap:=I.ok.mod.kin.keeps I.bk
theorem Inv.fr(I:Inv X pins σ H s):∃ m,Fr X.base X.env.locals s.heap m:=
 let ⟨m,hn,_⟩:=I.loc
 ⟨m,hn,I.bk,Qy I.ok.bsz I.ok.above⟩
theorem Inv.lt(I:Inv X pins σ H s):X.env.locals<s.heap.objs.size:=let ⟨_,hn,_⟩:=I.loc;hn.lt
theorem Inv.sz(I:Inv X pins σ H s):X.s₀.heap.objs.size<=s.heap.objs.size:=Qy I.ok.above (Qz I.lt)
theorem Inv.nofs(I:Inv X pins σ H s){a:Addr}(h:s.heap.objs.size<=a):a∉X.fs:=λ hb=>by
 obtain⟨_,o,ho,_⟩:=I.ok.funs.mem hb;exact absurd (Zd (Qw ho) (Qy I.sz h)) (Qh _)
theorem Inv.cne(I:Inv X pins σ H s):∀ x c,X.env.cells.lookup x=some c->c≠X.env.locals:=λ x c e z=>by
 obtain⟨v,o,ho,hd⟩:=I.cell x c e;obtain⟨m,⟨o',es,ep,aT,bJ,_⟩,_⟩:=I.loc;rw[z,aT] at ho;cases ho;rw[bJ] at hd;cases hd
theorem Inv.funs(I:Inv X pins σ H s):s.heap.FunFrames X.base X.outer:=by
 have all:∀(l:List Env),(∀ b∈frs l,b∈X.fs)->X.s₀.heap.FunFrames X.base l->s.heap.FunFrames X.base l:=by
  intro l;induction l with
  |nil=>intro _ _;trivial
  |cons env r ih =>
   intro hs hl;obtain⟨hk,⟨L,o,hf,hn,ho,hd⟩,hr⟩:=hl;have hL:L∈X.fs:=hs L (by unfold frs;rw[Yw,hf];exact Ze);obtain⟨sl,e⟩:=I.base.slot L o ho (I.ok.frf L hL) hL λ z=>I.ok.exfs L z hL
   exact⟨hk,⟨L,_,hf,hn,e,hd⟩,ih (λ b hb=>hs b (by unfold frs;rw[Yw,hf];exact Yl _ hb)) hr⟩
 exact all X.outer (λ _ hb=>hb) I.ok.funs
theorem Inv.stack(I:Inv X pins σ H s):s.heap.FunFrames X.base X.stack:=by
 rcases I.ok.stk with e|⟨e,hf⟩
 ·rw[e];exact I.funs
 ·rw[e];obtain⟨m,hn,_⟩:=I.loc;refine .cons (by rw[I.ok.kind];decide) hf hn ?_ I.funs;exact Heap.get?_none_of_le (Qy I.ok.bsz I.ok.above)
theorem Inv.stkSub(I:Inv X pins σ H s):∀ b∈frs X.stack,b∈X.env.locals::X.fs:=λ b hb=>by
 rcases I.ok.stk with e|⟨e,hf⟩
 ·rw[e] at hb;exact Yl _ hb
 ·rw[e] at hb;unfold frs at hb;rw[Yw,hf] at hb;exact hb
theorem Inv.stkFree(I:Inv X pins σ H s):∀ b∈frs X.stack,H b=none:=λ b hb=>by
 rcases Qi.mp (I.stkSub b hb) with e|hb
 ·rw[e];exact I.free
 ·obtain⟨_,o,ho,_⟩:=I.ok.funs.mem hb;exact I.base.free b o ho (I.ok.frf b hb) λ z=>I.ok.exfs b z hb
theorem Inv.step{ch:List Addr}(I:Inv X pins σ H s)(dW:∀ b∈ch,(b∈X.ex∨X.s₀.heap.objs.size<=b)/\b≠X.env.locals/\(∀ x c,X.env.cells.lookup x=some c->c≠b)/\∀ p∈X.pn++pins,p.1≠b)(keep:∀ b o,b≠X.env.locals->b∉X.fs->b∉ch->s.heap.get? b=some o->H b=none->h'.get? b=some o)(slot:∀ b o,b≠X.env.locals->b∈X.fs->b∉ch->s.heap.get? b=some o->H b=none->∃ sl,h'.get? b=some { o with slots:=sl })(free:∀ b o,b∉ch->s.heap.get? b=some o->H b=none->H' b=none)(there:∀ b o,b∉ch->s.heap.get? b=some o->∃ o',h'.get? b=some o')(tups:∀ b xs,H b=some (.tup xs)->H' b=some (.tup xs))(frzs:∀ b o u,H b=some (.frz o u)->H' b=some (.frz o u))(tbls:∀ b ps,H b=some (.tbl ps)->∃ more,H' b=some (.tbl (ps++more)))(ns:∀ m,s.heap.Ns X.env.locals m->h'.Ns X.env.locals m)(hok:HOk X.prog X.w H' h')(hg:AllBare g'):
  Inv X pins σ H' { s with heap:=h',gens:=g',drawn:=d',toks:=t' }:=by
 have neL:∀ b o,X.s₀.heap.get? b=some o->b≠X.env.locals:=λ b o e=>Qx (Zd (Qw e) I.ok.above)
 have wJ:∀ b o,X.s₀.heap.get? b=some o->b∉X.ex->b∉ch:=λ b o e hx hb=>by
  rcases(dW b hb).1 with z|z
  ·exact hx z
  ·exact absurd (Zd (Qw e) z) (Qh _)
 have iZ:∀ x c,X.env.cells.lookup x=some c->∀ v,s.heap.IsCell c v->h'.IsCell c v:=λ x c e v ⟨o,ho,hd⟩=>by
  have pN:c∉ch:=λ z=>(dW c z).2.2.1 x c e rfl
  by_cases hc:c∈X.fs
  ·obtain⟨sl,q⟩:=slot c o (I.cne x c e) hc pN ho (I.freeC x c e);exact⟨_,q,hd⟩
  ·exact⟨o,keep c o (I.cne x c e) hc pN ho (I.freeC x c e),hd⟩
 refine⟨I.ok,I.os,hg,⟨λ b o e n hb hx=>?_,λ b o e n hb hx=>?_,λ b o e n hx=>?_,λ b o e hx=>?_,λ b xs e=>tups b xs (I.base.tups b xs e),λ b o xs e=>frzs b o xs (I.base.frzs b o xs e),λ b ps e=>?_⟩,?_,λ x c e=>?_,?_,λ x c e=>?_,λ p hp=>?_,hok,I.len⟩
 ·exact keep b o (neL b o e) hb (wJ b o e hx) (I.base.keep b o e n hb hx) (I.base.free b o e n hx)
 ·obtain⟨sl,e1⟩:=I.base.slot b o e n hb hx;obtain⟨sl',e2⟩:=slot b _ (neL b o e) hb (wJ b o e hx) e1 (I.base.free b o e n hx);exact⟨sl',e2⟩
 ·obtain⟨o',e1⟩:=I.base.there b o e hx;exact free b o' (wJ b o e hx) e1 (I.base.free b o e n hx)
 ·obtain⟨o',e1⟩:=I.base.there b o e hx;exact there b o' (wJ b o e hx) e1
 ·obtain⟨m1,e1⟩:=I.base.tbls b ps e;obtain⟨m2,e2⟩:=tbls b _ e1;exact⟨m1++m2,by rw[e2,Array.append_assoc]⟩
 ·obtain⟨m,hn,hl⟩:=I.loc;refine⟨m,ns m hn,λ i x v e1 e2 e3=>?_⟩;obtain⟨u,r,l⟩:=hl i x v e1 e2 e3;refine⟨u,r,?_⟩;rcases l with l | ⟨k,c,e,z⟩
  ·exact .inl l
  ·exact .inr ⟨k,c,e,iZ x c e _ z⟩
 ·obtain⟨v,z⟩:=I.cell x c e;exact⟨v,iZ x c e v z⟩
 ·obtain⟨m,⟨o,_,_,ho,_⟩,_⟩:=I.loc;exact free _ o (λ z=>(dW _ z).2.1 rfl) ho I.free
 ·obtain⟨v,o,ho,hd⟩:=I.cell x c e;exact free c o (λ z=>(dW c z).2.2.1 x c e rfl) ho (I.freeC x c e)
 ·obtain⟨e,n,ne,nf,d⟩:=I.pin p hp;have pN:p.1∉ch:=λ z=>(dW p.1 z).2.2.2 p hp rfl
  exact⟨keep p.1 p.2 ne nf pN e n,free p.1 p.2 pN e n,ne,nf,d⟩
theorem Inv.un(I:Inv X pins σ H s)(u:Un X.fs [] H H' s.heap h')(hok:HOk X.prog X.w H' h'):Inv X pins σ H' { s with heap:=h',toks:=t' }:=by
 obtain⟨m,⟨o,es,ep,ho,r⟩,_⟩:=id I.loc;obtain⟨sl,hL⟩:=u.any ho I.free (by simp);exact I.step (g':=s.gens) (d':=s.drawn) (ch:=[]) (λ _ z=>nomatch z) (λ b o _ hb _ e n=>u.keep b o e n hb (by simp)) (λ b o _ hb _ e n=>u.slot b o e n hb (by simp)) (λ b o _ e n=>u.free b o e n (by simp)) (λ b o _ e=>u.there b o e (by simp)) u.tups u.frzs u.tbls (λ m' hm=>by
  obtain⟨o',o7,ep',aT,r'⟩:=hm;rw[ho] at aT;cases aT;exact⟨_,o7,ep',hL,r'⟩) hok I.bare
theorem Inv.call(I:Inv X pins σ H s)(u:Un (frs X.stack) ch H H' s.heap h')(hok:HOk X.prog X.w H' h')(hg:AllBare g')(dW:∀ b∈ch,(b∈X.ex∨X.s₀.heap.objs.size<=b)/\b≠X.env.locals/\(∀ x c,X.env.cells.lookup x=some c->c≠b)/\∀ p∈X.pn++pins,p.1≠b):
  Inv X pins σ H' { s with heap:=h',gens:=g',drawn:=d',toks:=t' }:=by
 obtain⟨m,⟨o,es,ep,ho,r⟩,_⟩:=id I.loc;obtain⟨sl,hL⟩:=u.any ho I.free λ z=>(dW _ z).2.1 rfl
 exact I.step (ch:=ch) dW (λ b o hL hb hc e n=>u.keep b o e n (λ z=>(Qi.mp (I.stkSub b z)).elim hL hb) hc) (λ b o _ _ hc e n=>u.any e n hc) (λ b o hc e n=>u.free b o e n hc) (λ b o hc e=>u.there b o e hc) u.tups u.frzs u.tbls (λ m' hm=>by
  obtain⟨o',o7,ep',aT,r'⟩:=hm;rw[ho] at aT;cases aT;exact⟨_,o7,ep',hL,r'⟩) hok hg
theorem Inv.turned(I:Inv X pins σ H s)(k:∀ b o,b≠it->s.heap.get? b=some o->h'.get? b=some o)(hn:H it=none)(hL:it≠X.env.locals)(h1:it∈X.ex∨X.s₀.heap.objs.size<=it)(h2:∀ x c,X.env.cells.lookup x=some c->c≠it)(h3:∀ p∈X.pn++pins,p.1≠it):Inv X pins σ H { s with heap:=h',toks:=t' }:=by
 have nit:∀ b u,H b=some u->b≠it:=λ b u e z=>by rw[z,hn] at e;cases e
 refine I.step (g':=s.gens) (d':=s.drawn) (ch:=[it]) (λ b hb=>?_) (λ b o _ _ hc e _=>k b o (λ z=>hc (by simp[z])) e) (λ b o _ _ hc e _=>⟨o.slots,k b o (λ z=>hc (by simp[z])) e⟩) (λ _ _ _ _ n=>n)
  (λ b o hc e=>⟨o,k b o (λ z=>hc (by simp[z])) e⟩) (λ _ _ e=>e) (λ _ _ _ e=>e) (λ b ps e=>⟨#[],by rw[e];simp⟩) (λ m hm=>?_) (λ b u e=>?_) I.bare
 ·have e:b=it:=by simpa using hb
  subst e;exact⟨h1,hL,h2,h3⟩
 ·obtain⟨o,es,ep,ho,r⟩:=hm;exact⟨o,es,ep,k _ o (Vz hL) ho,r⟩
 ·refine(I.hok b u e).stay (λ c v hc q=>k c v ?_ q) (λ _ q=>q) λ _ _ q=>q
  rcases hc with z|z
  ·rw[z];exact nit b u e
  ·exact nit c _ z
theorem Inv.tok(I:Inv X pins σ H s)(t:Nat):Inv X pins σ H { s with toks:=t }:=I.un (h':=s.heap) (t':=t) Un.refl I.hok
theorem Inv.kept(I:Inv X pins σ H s)(k:∀ b u,s.heap.get? b=some u->h'.get? b=some u):Inv X pins σ H { s with heap:=h',toks:=t' }:=I.un (Un.kept k) (I.hok.kept k)
theorem Inv.laid{a:Addr}(I:Inv X pins σ H s)(k:∀ b u,s.heap.get? b=some u->h'.get? b=some u)(hp:s.heap.objs.size<=a)(new:zx X.prog X.w (upd H a o) h' a o):
  Inv X pins σ (upd H a o) { s with heap:=h',toks:=t' }:=I.un (Un.laid k hp (I.hok.fresh hp)) (I.hok.laid k hp new)
theorem Inv.write(I:Inv X pins σ H s)(mu:Mut (H x))(he:e=x∨H e=some (.own x))(k:∀ b u,b≠e->s.heap.get? b=some u->h'.get? b=some u)(bI:∃ u,h'.get? e=some u)(new:zx X.prog X.w (upd H x o) h' x o):Inv X pins σ (upd H x o) { s with heap:=h',toks:=t' }:=I.un (Un.write mu he k bI) (I.hok.write mu he k bI new)
theorem Inv.weak(I:Inv X pins σ H s)(hl:σ'.length=σ.length)(w:∀(i:Nat) v,σ'[i]?=some (some v)->σ[i]?=some (some v)):Inv X pins σ' H s:=
 ⟨I.ok,I.os,I.bare,I.base,let ⟨m,hn,P7⟩:=I.loc;⟨m,hn,λ i x v e1 e2 e3=>P7 i x v e1 (w i v e2) e3⟩,I.cell,I.free,I.freeC,I.pin,I.hok,hl.trans I.len⟩
theorem Inv.pins_of(I:Inv X pins σ H s)(h:∀ p∈iC,s.heap.get? p.1=some p.2/\H p.1=none/\p.1≠X.env.locals/\p.1∉X.fs/\∀ v,p.2.data≠.cell v):Inv X iC σ H s:=
 ⟨I.ok,I.os,I.bare,I.base,I.loc,I.cell,I.free,I.freeC,λ p hp=>(U1.mp hp).elim (λ z=>I.pin p (Ym _ z)) (h p),I.hok,I.len⟩
theorem qff{N:List Str}(hN:N.Nodup) {i:Nat}(a:N[i]?=some x)(b:N[j]?=some x):i=j:=by
 obtain⟨h1,e1⟩:=Xn.mp a;obtain⟨h2,e2⟩:=Xn.mp b;exact(List.getElem_inj hN).mp (e1.trans e2.symm)
theorem qdR{M:Model}{A:Around}{E:Value->Shared->Prop}{i:Nat}{x:Str}{v:V}{u:Value}{Q:Unit->Shared->Prop}(I:Inv X pins σ H s)(hN:X.N.Nodup)(hi:X.N[i]?=some x)(hx:Loc X.env.scope x)(r:qS v u)(h:∀ s',Inv X pins (σ.set i (some v)) H s'->(∃ a,Heap.SameBut a s.heap s'.heap/\(a=X.env.locals∨X.env.cells.lookup x=some a))->Q () s')(hf:X.fn x=true∨X.env.scope.names.lookup x=some .local:=by first|exact .inl rfl|exact .inr rfl|assumption):wpAny M A (storeName X.env x u) Q E s:=by
 obtain⟨m,hn,hl⟩:=id I.loc;have hcls:(X.env.scope.kind == .class || (X.env.scope.kind == .module && X.env.locals != X.env.globals))=false:=by rw[I.ok.kind];rfl
 have hiσ:i < σ.length:=by rw[I.len];exact(Xn.mp hi).1
 have cne:=I.cne;have V8:∀{a:Addr}{h':Heap},(∃ o,s.heap.get? a=some o/\H a=none)->Heap.SameBut a s.heap h'->HOk X.prog X.w H h':=λ{a h'} ha hs b ob e=>by
  obtain⟨_,_,B4⟩:=ha;refine(I.hok b ob e).stay (λ c w' hc q=>(hs.2 c ?_).trans q) (λ _ q=>q) λ _ _ q=>q
  rintro rfl;rcases hc with rfl|hc
  ·rw[B4] at e;cases e
  ·rw[B4] at hc;cases hc
 rcases hx with hk|hk
 ·refine wpAny_storeName_local hk hn (λ h' iJ hs=>?_) hcls;obtain⟨oL,_,_,fQ,_⟩:=id hn;refine h _ ⟨I.ok,I.os,I.bare,⟨λ b o e n hb hx=>?_,λ b o e n hb hx=>?_,I.base.free,λ b o e hx=>?_,I.base.tups,I.base.frzs,I.base.tbls⟩,⟨_,iJ,λ j y v' e1 e2 e3=>?_⟩,λ y c e=>?_,I.free,I.freeC,λ p hp=>?_,V8 ⟨oL,fQ,I.free⟩ hs,by simpa using I.len⟩ ⟨_,hs,.inl rfl⟩
  ·exact(hs.2 b (Qx (Zd (Qw e) I.ok.above))).trans (I.base.keep b o e n hb hx)
  ·obtain⟨sl,e1⟩:=I.base.slot b o e n hb hx;exact⟨sl,(hs.2 b (Qx (Zd (Qw e) I.ok.above))).trans e1⟩
  ·obtain⟨o',e1⟩:=I.base.there b o e hx;exact⟨o',(hs.2 b (Qx (Zd (Qw e) I.ok.above))).trans e1⟩
  ·by_cases hj:j=i
   ·subst hj;rw[hi] at e1;cases e1;rw[List.getElem?_set_self hiσ] at e2;cases e2
    exact⟨u,r,.inl ⟨hk,by simp⟩⟩
   ·rw[List.getElem?_set_ne (Vz hj)] at e2;obtain⟨u',r',q⟩:=hl j y v' e1 e2 e3;refine⟨u',r',?_⟩;rcases q with⟨k,e⟩ | ⟨k,c,e,z⟩
    ·refine .inl ⟨k,?_⟩
     have:y≠x:=λ e=>hj (qff hN e1 (e ▸ hi))
     simp[this,e]
    ·exact .inr ⟨k,c,e,z.sameBut hs (cne y c e)⟩
  ·obtain⟨w',z⟩:=I.cell y c e;exact⟨w',z.sameBut hs (cne y c e)⟩
  ·obtain⟨e,n,ne,nf,d⟩:=I.pin p hp;exact⟨(hs.2 p.1 ne).trans e,n,ne,nf,d⟩
 ·have hfn:X.fn x=true:=by
   rcases hf with z|z
   ·exact z
   ·rw[z] at hk;cases hk
  obtain⟨c,hc⟩:=I.ok.has x (.inl hk);obtain⟨w',z⟩:=I.cell x c hc;refine wpAny_storeName_cell I.ok.kind hk hc z (λ h' C3 hs=>?_);obtain⟨oc,hoc,hocd⟩:=id z;refine h { s with heap:=h' } ⟨I.ok,I.os,I.bare,⟨λ b o e n hb hx=>?_,λ b o e n hb hx=>?_,I.base.free,λ b o e hx=>?_,I.base.tups,I.base.frzs,I.base.tbls⟩,⟨m,hn.sameBut hs (Vz (cne x c hc)),λ j y v' e1 e2 e3=>?_⟩,λ y c' e=>?_,I.free,I.freeC,λ p hp=>?_,V8 ⟨oc,hoc,I.freeC x c hc⟩ hs,by simpa using I.len⟩ ⟨c,hs,.inr hc⟩
  ·exact(hs.2 b (Qx (Zd (Qw e) (I.ok.cab x c hfn hc)))).trans (I.base.keep b o e n hb hx)
  ·obtain⟨sl,e1⟩:=I.base.slot b o e n hb hx;exact⟨sl,(hs.2 b (Qx (Zd (Qw e) (I.ok.cab x c hfn hc)))).trans e1⟩
  ·obtain⟨o',e1⟩:=I.base.there b o e hx;exact⟨o',(hs.2 b (Qx (Zd (Qw e) (I.ok.cab x c hfn hc)))).trans e1⟩
  ·by_cases hj:j=i
   ·subst hj;rw[hi] at e1;cases e1;rw[List.getElem?_set_self hiσ] at e2;cases e2
    exact⟨u,r,.inr ⟨.inl hk,c,hc,C3⟩⟩
   ·rw[List.getElem?_set_ne (Vz hj)] at e2;obtain⟨u',r',q⟩:=hl j y v' e1 e2 e3;refine⟨u',r',?_⟩;rcases q with q | ⟨k,c',e,z'⟩
    ·exact .inl q
    ·refine .inr ⟨k,c',e,z'.sameBut hs ?_⟩;rintro rfl;exact hj (qff hN e1 (I.ok.inj _ _ _ e hc ▸ hi))
  ·by_cases c5:c'=c
   ·subst c5;exact⟨_,C3⟩
   ·obtain⟨w2,z2⟩:=I.cell y c' e;exact⟨w2,z2.sameBut hs c5⟩
  ·obtain⟨e,n,ne,nf,d⟩:=I.pin p hp;refine⟨(hs.2 p.1 ?_).trans e,n,ne,nf,d⟩;intro q;rw[q,hoc] at e;have q':oc=p.2:=Option.some.inj e;exact d w' (by rw[<- q'];exact hocd)
theorem qfg{M:Model}{A:Around}{E:Value->Shared->Prop}{i:Nat}{x:Str}{v:V}{u:Value}{Q:Unit->Shared->Prop}(I:Inv X pins σ H s)(hN:X.N.Nodup)(hi:X.N[i]?=some x)(hx:Loc X.env.scope x)(r:qS v u)(h:∀ s',Inv X pins (σ.set i (some v)) H s'->Q () s')(hf:X.fn x=true∨X.env.scope.names.lookup x=some .local:=by first | exact .inl rfl | exact .inr rfl | assumption):wpAny M A (storeName X.env x u) Q E s:=
 qdR I hN hi hx r (λ s' I' _=>h s' I') hf
theorem Inv.call'(I:Inv X pins σ H s)(ho:s'.os=s.os)(u:Un (frs X.stack) ch H H' s.heap s'.heap)(hok:HOk X.prog X.w H' s'.heap)(hg:AllBare s'.gens)(dW:∀ b∈ch,(b∈X.ex∨X.s₀.heap.objs.size<=b)/\b≠X.env.locals/\(∀ x c,X.env.cells.lookup x=some c->c≠b)/\∀ p∈X.pn++pins,p.1≠b):Inv X pins σ H' s':=by
 obtain⟨h',g',d',t',o'⟩:=s';have e:o'=s.os:=ho;subst e;exact I.call (g':=g') (t':=t') (d':=d') u hok hg dW
end
abbrev XK:=Value->Option Addr->Hp->Prop
abbrev St:=List (Option V)
abbrev VK:=V->Hp->Prop
abbrev TE:=St->Hp->VK->Prop
abbrev TT:=St->Hp->(Bool->Hp->Prop)->Prop
abbrev TA:=St->Hp->(List V->Hp->Prop)->Prop
structure Ends where 
 nx:St->Hp->Prop
 rt:VK
 bk:St->Hp->Prop:=λ _ _=>False
 ct:St->Hp->Prop:=λ _ _=>False
abbrev TS:=Ends->St->Hp->Prop
def EP(X:Cx)(pins:List (Addr×Obj))(σ:St)(Q:VK)(u:Value)(s':Shared):Prop:=∃ v H',Inv X pins σ H' s'/\qS v u/\Q v H'
def TP(X:Cx)(pins:List (Addr×Obj))(σ:St)(Q:Bool->Hp->Prop)(b:Bool)(s':Shared):Prop:=∃ H',Inv X pins σ H' s'/\Q b H'
def AP(X:Cx)(pins:List (Addr×Obj))(σ:St)(Q:List V->Hp->Prop)(us:List Value)(s':Shared):Prop:=∃ vs H',Inv X pins σ H' s'/\qL vs us/\Q vs H'
def SP(X:Cx)(pins:List (Addr×Obj))(D:Ends)(f:Flow)(s':Shared):Prop:=
 match f with
 |.next=>∃ σ' H',Inv X pins σ' H' s'/\D.nx σ' H'
 |.brk=>∃ σ' H',Inv X pins σ' H' s'/\D.bk σ' H'
 |.cont=>∃ σ' H',Inv X pins σ' H' s'/\D.ct σ' H'
 |.ret u=>∃ v σ' H',Inv X pins σ' H' s'/\qS v u/\D.rt v H'
def PE(X:Cx)(e:Expr)(t:TE):Prop:=
 ∀(pins:List (Addr×Obj))(s:Shared)(σ:St)(H:Hp)(Q:VK),Inv X pins σ H s->t σ H Q->wpAny (model X.prog X.w) X.A (eval e X.env) (EP X pins σ Q) X.xe s
def PT(X:Cx)(e:Expr)(t:TT):Prop:=
 ∀(pins:List (Addr×Obj))(s:Shared)(σ:St)(H:Hp)(Q:Bool->Hp->Prop),Inv X pins σ H s->t σ H Q->wpAny (model X.prog X.w) X.A (isTrue e X.env (eval e X.env)) (TP X pins σ Q) X.xe s
def PW(X:Cx)(e:Expr)(t:TT):Prop:=
 ∀(V7:Sem Value)(pins:List (Addr×Obj))(s:Shared)(σ:St)(H:Hp)(Q:Bool->Hp->Prop),Inv X pins σ H s->t σ H Q->wpAny (model X.prog X.w) X.A (isTrue e X.env V7) (TP X pins σ Q) X.xe s
theorem PW.pt(h:PW X e t):PT X e t:=h _
def PA(X:Cx)(es:List Expr)(t:TA):Prop:=
 ∀(pos:Pos)(pins:List (Addr×Obj))(s:Shared)(σ:St)(H:Hp)(Q:List V->Hp->Prop),Inv X pins σ H s->t σ H Q->wpAny (model X.prog X.w) X.A (spliced (backTo pos (starEach es X.env))) (AP X pins σ Q) X.xe s
def PS(X:Cx)(st:Stmt)(t:TS):Prop:=
 ∀(pins:List (Addr×Obj))(s:Shared)(σ:St)(H:Hp)(D:Ends),Inv X pins σ H s->t D σ H->wpAny (model X.prog X.w) X.A (exec st X.env) (SP X pins D) X.xe s
def PSs(X:Cx)(st:List Stmt)(t:TS):Prop:=
 ∀(pins:List (Addr×Obj))(s:Shared)(σ:St)(H:Hp)(D:Ends),Inv X pins σ H s->t D σ H->wpAny (model X.prog X.w) X.A (execs st X.env) (SP X pins D) X.xe s
theorem thn{t:Sem α}{Q Q':α->Shared->Prop}(h:wpAny M A t Q E s)(hQ:∀ a s,Q a s->Q' a s):wpAny M A t Q' E s:=Vk h hQ λ _ _ x=>x
section
variable {X:Cx}
theorem bin(ha:PE X a ta)(hb:PE X b tb){σ:St}{R:V->V->Hp->Prop}(I:Inv X pins σ H s)(h:ta σ H λ x H1=>tb σ H1 λ y H2=>R x y H2){Q:α->Shared->Prop}{f:Value->Value->Sem α}(hf:∀ v u s2 x y H2,Inv X pins σ H2 s2->qS x v->qS y u->R x y H2->wpAny (model X.prog X.w) X.A (f v u) Q X.xe s2):
  wpAny (model X.prog X.w) X.A (eval a X.env) (λ v s₁=>wpAny (model X.prog X.w) X.A (eval b X.env) (λ u s₂=>wpAny (model X.prog X.w) X.A (f v u) Q X.xe s₂) X.xe s₁) X.xe s:=by
 refine thn (ha pins s σ H _ I h) λ v s1 ⟨x,H1,I1,r1,q1⟩=>?_
 refine thn (hb pins s1 σ H1 _ I1 q1) λ u s2 ⟨y,H2,I2,r2,q2⟩=>?_
 exact hf v u s2 x y H2 I2 r1 r2 q2
def qfh(i:Nat):TE:=λ σ H Q=>∃ v,σ[i]?=some (some v)/\Q v H
def tC(v:V):TE:=λ _ H Q=>Q v H
theorem qmL{i:Nat}{x:Str}{pos:Pos}(hN:X.N[i]?=some x)(hv:Vis X.env.scope x)(hd:(x == ("__debug__":Str))=false:=by decide)(R9:(x == ("__classdict__":Str))=false:=by decide):PE X (.Name x pos) (qfh i):=by
 intro pins s σ H Q I h;obtain⟨v,e,h⟩:=h;obtain⟨m,hn,hl⟩:=I.loc;obtain⟨u,r,l⟩:=hl i x v hN e hv;have fin:EP X pins σ Q u s:=⟨v,H,I,r,h⟩;rcases l with⟨hk,hm⟩|⟨hk,c,hc,O6⟩
 ·exact wpAny_Name (wpAny_loadName_local I.ok.kind hk hn hm fin) hd
 ·rcases hk with hk | hk
  ·exact wpAny_Name (wpAny_loadName_cell I.ok.kind hk hc O6 fin) hd
  ·exact wpAny_Name (wpAny_loadName_free I.ok.kind hk hc O6 fin R9) hd
theorem qf{i j pos}:PE X (.Constant (.int i) j pos) (tC (.int i)):=λ _ _ _ H _ I h=>wpAny_Constant_int ⟨.int i,H,I.tok _,⟨_,rfl⟩,h⟩
theorem qfi{b j pos}:PE X (.Constant (.bool b) j pos) (tC (.bl b)):=λ _ _ _ H _ I h=>Constant_bool ⟨.bl b,H,I,rfl,h⟩
theorem qby{j pos}:PE X (.Constant .none j pos) (tC .non):=λ _ _ _ H _ I h=>Constant_none ⟨.non,H,I,rfl,h⟩
theorem qm{x j pos}:PE X (.Constant (.str x) j pos) (tC (.str x)):=λ _ _ _ H _ I h=>Calls.Constant_str ⟨.str x,H,I.tok _,⟨_,rfl⟩,h⟩
def Gl(X:Cx)(x:Str):Prop:=X.env.kindOf x=some .globalImplicit
theorem qca{E:Value->Shared->Prop}{pins:List (Addr×Obj)}{s:Shared}{σ:St}{H:Hp}{x:Str}{u:Value}{pos:Pos}{Q:Value->Shared->Prop}(I:Inv X pins σ H s)(hg:Gl X x)(hm:X.mg x=some u)(h:Q u s)(hd:(x == ("__debug__":Str))=false:=by decide):wpAny (model X.prog X.w) X.A (eval (.Name x pos) X.env) Q E s:=
 Calls.Name_function_global I.ok.kind hg (Calls.loadGlobal_global (by rw[I.ok.glob];exact I.mod.glob.keeps I.bk) hm h) hd
theorem jW{E:Value->Shared->Prop}{pins:List (Addr×Obj)}{s:Shared}{σ:St}{H:Hp}{x:Str}{u:Value}{pos:Pos}{Q:Value->Shared->Prop}(I:Inv X pins σ H s)(hg:Gl X x)(hm:X.mg x=none)(hv:bootBuiltins x=some u)(h:Q u s)(hn:x≠"__name__":=by decide)(hd:(x == ("__debug__":Str))=false:=by decide):wpAny (model X.prog X.w) X.A (eval (.Name x pos) X.env) Q E s:=by
 obtain⟨mb,h1,h2⟩:=I.mod.blt;exact Calls.Name_function_global I.ok.kind hg (Calls.loadGlobal_builtin (by rw[I.ok.glob];exact I.mod.glob.keeps I.bk) hm (by rw[I.ok.blt];exact h1.keeps I.bk) ((h2 x hn).trans hv) h) hd
theorem yh{x:Str}{v:V}{u:Value}{pos:Pos}(hg:Gl X x)(hm:X.mg x=some u)(r:qS v u)(hd:(x == ("__debug__":Str))=false:=by decide):PE X (.Name x pos) (tC v):=
 λ _ _ _ H _ I h=>qca I hg hm ⟨v,H,I,r,h⟩ hd
theorem qli{x:Str}{v:V}{u:Value}{pos:Pos}(hg:Gl X x)(hm:X.mg x=none)(hv:bootBuiltins x=some u)(r:qS v u)(hn:x≠"__name__":=by decide)(hd:(x == ("__debug__":Str))=false:=by decide):PE X (.Name x pos) (tC v):=
 λ _ _ _ H _ I h=>jW I hg hm hv ⟨v,H,I,r,h⟩ hn hd
variable {a b:Expr}{ta tb:TE}{pos:Pos}
def PC(X:Cx)(op:CmpOp)(a b:Expr)(t:TE):Prop:=
 ∀(pins:List (Addr×Obj))(s:Shared)(σ:St)(H:Hp)(Q:VK),Inv X pins σ H s->t σ H Q ->
  wpAny (model X.prog X.w) X.A (eval a X.env) (λ v s₁=>wpAny (model X.prog X.w) X.A (eval b X.env) (λ u s₂=>wpAny (model X.prog X.w) X.A (compareOp op v u) (EP X pins σ Q) X.xe s₂) X.xe s₁) X.xe s
def tB(t:TE):TT:=λ σ H Q=>t σ H λ x H1=>∃ c,x=.bl c/\Q c H1
theorem qmM{op:CmpOp}{t:TE}(h:PC X op a b t)(h1:behindInMarks op b=false:=by first|exact nobehind _ (by decide) (by decide)|rfl):PE X (.Compare a [op] [b] pos) t:=λ pins s σ H Q I hw=>wpAny_Compare1 (h pins s σ H Q I hw) h1
theorem jX{e:Expr}{t:TE}(h:PE X e t)(he:∀ V7,isTrue e X.env V7=(do let v <- V7;standAt e.pos;holding [v] (truthy v)):=by intro _;rfl):PT X e (tB t):=by
 intro pins s σ H Q I hw;refine isTrue_plain (thn (h pins s σ H _ I hw) λ v s1 ⟨x,H1,I1,r1,q1⟩=>?_) (he _);obtain⟨d,rfl,q⟩:=q1;cases r1
 exact Z9 ⟨H1,I1,q⟩
variable {tA wA:TT}{rest:List Expr}
def qoS(t u:TT):TT:=λ σ H Q=>t σ H λ c H1=>if c=true then u σ H1 Q else Q false H1
def tOr(t u:TT):TT:=λ σ H Q=>t σ H λ c H1=>if c=true then Q true H1 else u σ H1 Q
def qoT(t:TT):TT:=λ σ H Q=>t σ H λ c H1=>Q (!c) H1
theorem qcb(ha:PT X a tA):PW X (.BoolOp .And [a] pos) tA:=by
 intro wh pins s σ H Q I h;refine isTrue_and (thn (ha pins s σ H Q I h) λ c s1 e=>?_);cases c with
 |true=>exact isTrue_and_nil e
 |false=>exact e
theorem qct(ha:PT X a tA):PW X (.BoolOp .Or [a] pos) tA:=by
 intro wh pins s σ H Q I h;refine isTrue_or (thn (ha pins s σ H Q I h) λ c s1 e=>?_);cases c with
 |false=>exact isTrue_or_nil e
 |true=>exact e
theorem qer(ha:PT X a tA)(hb:PW X (.BoolOp .And (b::rest) pos) wA):PW X (.BoolOp .And (a::b::rest) pos) (qoS tA wA):=by
 intro wh pins s σ H Q I h;refine isTrue_and (thn (ha pins s σ H _ I h) λ c s1 ⟨H1,I1,q1⟩=>?_);cases c with
 |true=>exact hb wh pins s1 σ H1 Q I1 q1
 |false=>exact⟨H1,I1,q1⟩
theorem qfj(ha:PT X a tA)(hb:PW X (.BoolOp .Or (b::rest) pos) wA):PW X (.BoolOp .Or (a::b::rest) pos) (tOr tA wA):=by
 intro wh pins s σ H Q I h;refine isTrue_or (thn (ha pins s σ H _ I h) λ c s1 ⟨H1,I1,q1⟩=>?_);cases c with
 |true=>exact⟨H1,I1,q1⟩
 |false=>exact hb wh pins s1 σ H1 Q I1 q1
theorem qja(ha:PT X a tA):PT X (.UnaryOp .Not a pos) (qoT tA):=by
 intro pins s σ H Q I h;exact isTrue_not (ha pins s σ H (λ c H1=>Q (!c) H1) I h)
def qmu(ta tb:TE):TE:=λ σ H Q=>ta σ H λ x H1=>∃ c,x=.bl c/\if c=true then tb σ H1 Q else Q (.bl false) H1
def qnJ(ta tb:TE):TE:=λ σ H Q=>ta σ H λ x H1=>∃ c,x=.bl c/\if c=true then Q (.bl true) H1 else tb σ H1 Q
def qmv(ta:TE):TE:=λ σ H Q=>ta σ H λ x H1=>∃ c,x=.bl c/\Q (.bl (!c)) H1
theorem qcu{op}(h:PE X a t):PE X (.BoolOp op [a] pos) t:=λ pins s σ H Q I hw=>BoolOp_one (h pins s σ H Q I hw)
theorem qcv(ha:PE X a ta)(hb:PE X (.BoolOp .And (b::rest) pos) tb):PE X (.BoolOp .And (a::b::rest) pos) (qmu ta tb):=by
 intro pins s σ H Q I h;refine BoolOp_and (thn (ha pins s σ H _ I h) λ v s1 ⟨x,H1,I1,r1,q1⟩=>?_);obtain⟨c,rfl,q1⟩:=q1;cases r1
 refine Z9 ?_;cases c with
 |true=>exact hb pins s1 σ H1 Q I1 q1
 |false=>exact⟨.bl false,H1,I1,rfl,q1⟩
theorem qnK(ha:PE X a ta)(hb:PE X (.BoolOp .Or (b::rest) pos) tb):PE X (.BoolOp .Or (a::b::rest) pos) (qnJ ta tb):=by
 intro pins s σ H Q I h;refine BoolOp_or (thn (ha pins s σ H _ I h) λ v s1 ⟨x,H1,I1,r1,q1⟩=>?_);obtain⟨c,rfl,q1⟩:=q1;cases r1
 refine Z9 ?_;cases c with
 |false=>exact hb pins s1 σ H1 Q I1 q1
 |true=>exact⟨.bl true,H1,I1,rfl,q1⟩
theorem qgo(ha:PE X a ta):PE X (.UnaryOp .Not a pos) (qmv ta):=by
 intro pins s σ H Q I h;refine UnaryOp_ (thn (ha pins s σ H _ I h) λ v s1 ⟨x,H1,I1,r1,q1⟩=>?_);obtain⟨c,rfl,q1⟩:=q1;cases r1
 exact not_of (Z9 ⟨.bl (!c),H1,I1,rfl,q1⟩)
def tIf(t:TT)(ta tb:TE):TE:=λ σ H Q=>t σ H λ c H1=>if c=true then ta σ H1 Q else tb σ H1 Q
theorem qfk(hc:PT X c tA)(ha:PE X a ta)(hb:PE X b tb):PE X (.IfExp c a b pos) (tIf tA ta tb):=by
 intro pins s σ H Q I h;refine wpAny_IfExp (thn (hc pins s σ H _ I h) λ d s1 ⟨H1,I1,q1⟩=>?_);cases d with
 |true=>exact ha pins s1 σ H1 Q I1 q1
 |false=>exact hb pins s1 σ H1 Q I1 q1
end
def SqL(K:W.Frag)(H:Hp)(a:Addr)(xs:List V):Prop:=
 Rd H a (.lst xs) ∨
  ∃(o:Obj)(its:Array Value)(n:Nat),K.lookup a=some o/\o.cls=.type "list"/\o.dict=none/\o.data=.seq its n/\its.size<=sizeLine/\qL xs its.toList
def SqT(K:W.Frag)(H:Hp)(a:Addr)(xs:List V):Prop:=
 Rd H a (.tup xs) ∨
  ∃(o:Obj)(its:Array Value)(n:Nat),K.lookup a=some o/\o.cls=.type "tuple"/\o.data=.seq its n/\its.size<=sizeLine/\qL xs its.toList
noncomputable def qoU:Value->Option V
 |.none=>some .non
 |.bool b=>some (.bl b)
 |.int i _=>some (.int i)
 |.str x _=>some (.str x)
 |.bytes b _=>some (.byt b)
 |.float b _=>some (.flt b)
 |.ref a=>some (.ref a)
 |.type n=>some (.ty n)
 |_=>none
theorem qS.abs(r:qS x u):qoU u=some x:=by
 cases x with
 |non=>cases r;rfl
 |bl _=>cases r;rfl
 |int _=>obtain⟨t,rfl⟩:=r;rfl
 |str _=>obtain⟨t,rfl⟩:=r;rfl
 |byt _=>obtain⟨t,rfl⟩:=r;rfl
 |flt _=>obtain⟨t,rfl⟩:=r;rfl
 |ref _=>cases r;rfl
 |ty _=>cases r;rfl
theorem qS.inj(r:qS x u)(q:qS y u):x=y:=Option.some.inj (r.abs.symm.trans q.abs)
theorem qL.inj:∀{xs ys:List V}{us:List Value},qL xs us->qL ys us->xs=ys
 |_,_,_,.nil,.nil=>rfl
 |_,_,_,.cons r t,.cons r' t'=>by rw[r.inj r',qL.inj t t']
section
variable {X:Cx}{pins:List (Addr×Obj)}{σ:St}{H:Hp}{s:Shared}{a:Addr}{xs ys:List V}
theorem SqL.of{K:W.Frag}(h:H a=some (.lst xs)):SqL K H a xs:=.inl (.inl h)
theorem SqT.of{K:W.Frag}(h:H a=some (.tup xs)):SqT K H a xs:=.inl (.inl h)
theorem Inv.list(I:Inv X pins σ H s)(h:SqL X.K H a xs):∃ its:List Value,qL xs its/\PlainL s.heap a its.toArray/\xs.length<=sizeLine:=by
 rcases h with h|⟨o,its,n,hk,hc,hd,hs,hz,r⟩
 ·obtain⟨z,its,n,r,e⟩:=h.ok I.hok;exact⟨its,r,⟨_,n,e,rfl,rfl,rfl⟩,z⟩
 ·refine⟨its.toList,r,⟨o,n,I.kIn a o hk,hc,hd,by simpa using hs⟩,?_⟩;have e:=r.length;simp only[Yx] at e;omega
theorem Inv.tuple(I:Inv X pins σ H s)(h:SqT X.K H a xs):∃ its:List Value,qL xs its/\IsTup s.heap a its.toArray/\xs.length<=sizeLine:=by
 rcases h with h|⟨o,its,n,hk,hc,hs,hz,r⟩
 ·obtain⟨z,its,r,p⟩:=h.ok I.hok;exact⟨its,r,p,z⟩
 ·refine⟨its.toList,r,⟨o,I.kIn a o hk,hc,n,by simpa using hs⟩,?_⟩;have e:=r.length;simp only[Yx] at e;omega
theorem Inv.list_inj(I:Inv X pins σ H s)(h:SqL X.K H a xs)(h':SqL X.K H a ys):xs=ys:=by
 obtain⟨its,r,⟨o,n,e,_,_,d⟩,_⟩:=I.list h;obtain⟨its',r',⟨o',n',e',_,_,d'⟩,_⟩:=I.list h';rw[e] at e';cases e';rw[d] at d';injection d' with d1 _
 have:its=its':=by simpa using congrArg Array.toList d1
 subst this;exact r.inj r'
theorem Inv.tuple_inj(I:Inv X pins σ H s)(h:SqT X.K H a xs)(h':SqT X.K H a ys):xs=ys:=by
 obtain⟨its,r,⟨o,e,_,n,d⟩,_⟩:=I.tuple h;obtain⟨its',r',⟨o',e',_,n',d'⟩,_⟩:=I.tuple h';rw[e] at e';cases e';rw[d] at d';injection d' with d1 _
 have:its=its':=by simpa using congrArg Array.toList d1
 subst this;exact r.inj r'
end
noncomputable abbrev Cx.wish(X:Cx)(E:Value->Shared->Prop):Cx:={ X with xe:=E }
noncomputable abbrev Cx.nox(X:Cx):Cx:=X.wish λ _ _=>False
theorem Cx.Ok.wish{X:Cx}(ok:X.Ok)(E:Value->Shared->Prop):(X.wish E).Ok:=
 ⟨ok.mod,ok.kind,ok.glob,ok.blt,ok.above,ok.inj,ok.has,ok.cab,ok.hd,ok.frames,ok.stk,ok.exf,ok.bs,ok.bsz,ok.noex,ok.exfs,ok.funs,ok.frf⟩
theorem Cx.Ok.unwish{X:Cx}(ok:(X.wish E).Ok):X.Ok:=
 ⟨ok.mod,ok.kind,ok.glob,ok.blt,ok.above,ok.inj,ok.has,ok.cab,ok.hd,ok.frames,ok.stk,ok.exf,ok.bs,ok.bsz,ok.noex,ok.exfs,ok.funs,ok.frf⟩
section
variable {X:Cx}{pins:List (Addr×Obj)}{σ:St}{H:Hp}{s:Shared}{E:Value->Shared->Prop}
theorem Inv.wish(I:Inv X pins σ H s)(E:Value->Shared->Prop):Inv (X.wish E) pins σ H s:=⟨I.ok.wish E,I.os,I.bare,I.base,I.loc,I.cell,I.free,I.freeC,I.pin,I.hok,I.len⟩
theorem Inv.unwish(I:Inv (X.wish E) pins σ H s):Inv X pins σ H s:=⟨I.ok.unwish,I.os,I.bare,I.base,I.loc,I.cell,I.free,I.freeC,I.pin,I.hok,I.len⟩
theorem SP.unwish(h:SP (X.wish E) pins D f s'):SP X pins D f s':=by
 cases f with
 |next=>obtain⟨σ',H',I,q⟩:=h;exact⟨σ',H',I.unwish,q⟩
 |brk=>obtain⟨σ',H',I,q⟩:=h;exact⟨σ',H',I.unwish,q⟩
 |cont=>obtain⟨σ',H',I,q⟩:=h;exact⟨σ',H',I.unwish,q⟩
 |ret u=>obtain⟨v,σ',H',I,r,q⟩:=h;exact⟨v,σ',H',I.unwish,r,q⟩
theorem PSs.nox{st:List Stmt}(h:PSs X.nox st t):PSs X st t:=λ pins s σ H D I hw =>
 Vk (h pins s σ H D (I.wish _) hw) (λ _ _ q=>q.unwish) λ _ _ z=>False.elim z
end
section
variable {X:Cx}{st:Stmt}{rest:List Stmt}{t u:TS}{e:Expr}{te:TE}{pos:Pos}
def qnL:TS:=λ D σ H=>D.nx σ H
def qoV(t u:TS):TS:=λ D σ H=>t { D with nx:=u D } σ H
theorem qF:PSs X [] qnL:=λ _ _ σ H _ I h=>Jm ⟨σ,H,I,h⟩
theorem qc(h1:PS X st t)(h2:PSs X rest u):PSs X (st::rest) (qoV t u):=by
 intro pins s σ H D I h;refine wpAny_execs_cons (thn (h1 pins s σ H { D with nx:=u D } I h) λ f s1 q=>?_);cases f with
 |next =>
  obtain⟨σ',H',I',q⟩:=q;exact h2 pins s1 σ' H' D I' q
 |ret v=>exact q
 |brk=>exact q
 |cont=>exact q
theorem qe(h1:PS X st t):PSs X [st] t:=by
 intro pins s σ H D I h;refine wpAny_execs_cons (thn (h1 pins s σ H D I h) λ f s1 q=>?_);cases f with
 |next=>exact Jm q
 |ret v=>exact q
 |brk=>exact q
 |cont=>exact q
theorem Inv.quiet{σ:St}(I:Inv X pins σ H s):interactive X.env=false:=by simp[interactive,I.ok.kind]
def qnM(te:TE):TS:=λ D σ H=>te σ H λ _ H1=>D.nx σ H1
theorem ja(he:PE X e te)(hs:swapsWith e none pos.line X.env=pure false:=by rfl):PS X (.Expr e pos) (qnM te):=by
 intro pins s σ H D I h;exact wpAny_Expr_any (thn (he pins s σ H _ I h) λ v s1 ⟨x,H1,I1,r1,q1⟩=>⟨σ,H1,I1,q1⟩) I.quiet hs
def qlj(te:TE):TS:=λ D σ H=>te σ H D.rt
theorem qo(he:PE X e te):PS X (.Return (some e) pos) (qlj te):=by
 intro pins s σ H D I h;exact wpAny_Return_some (thn (he pins s σ H _ I h) λ v s1 ⟨x,H1,I1,r1,q1⟩=>⟨x,σ,H1,I1,r1,q1⟩)
def qnN(c:TT)(t u:TS):TS:=λ D σ H=>c σ H λ b H1=>if b=true then t D σ H1 else u D σ H1
theorem zb(hc:PT X c tc)(ha:PSs X a t)(hb:PSs X b u):PS X (.If c a b pos) (qnN tc t u):=by
 intro pins s σ H D I h;refine wpAny_If (thn (hc pins s σ H _ I h) λ d s1 ⟨H1,I1,q1⟩=>?_);cases d with
 |true=>exact ha pins s1 σ H1 D I1 q1
 |false=>exact hb pins s1 σ H1 D I1 q1
def qmN:TS:=λ _ _ _=>False
theorem jl:PS X st qmN:=λ _ _ _ _ _ _ h=>h.elim
end
abbrev TG:=V->St->Hp->(St->Hp->Prop)->Prop
abbrev TGs:=List V->St->Hp->(St->Hp->Prop)->Prop
def PG(X:Cx)(B8:Expr)(t:TG):Prop:=
 ∀(pins:List (Addr×Obj))(s:Shared)(σ:St)(H:Hp)(v:V)(u:Value)(Q:St->Hp->Prop),Inv X pins σ H s->qS v u->t v σ H Q ->
  wpAny (model X.prog X.w) X.A (assign B8 X.env u) (λ _ s'=>∃ σ' H',Inv X pins σ' H' s'/\Q σ' H') X.xe s
def PGs(X:Cx)(ts:List Expr)(t:TGs):Prop:=
 ∀(pins:List (Addr×Obj))(s:Shared)(σ:St)(H:Hp)(vs:List V)(us:List Value)(Q:St->Hp->Prop),Inv X pins σ H s->qL vs us->t vs σ H Q ->
  wpAny (model X.prog X.w) X.A (assignInOrder ((assignEach ts X.env).map (·.2)) us) (λ _ s'=>∃ σ' H',Inv X pins σ' H' s'/\Q σ' H') X.xe s
abbrev qmO:=V->V->V->Hp->(Hp->Prop)->Prop
def qnO(X:Cx)(t:qmO):Prop:=
 ∀(pins:List (Addr×Obj))(s:Shared)(σ:St)(H:Hp)(o i v:V)(ov iv u:Value)(Q:Hp->Prop),Inv X pins σ H s->qS o ov->qS i iv->qS v u->t o i v H Q ->
  wpAny (model X.prog X.w) X.A (setItem ov iv u) (λ _ s'=>∃ H',Inv X pins σ H' s'/\Q H') X.xe s
section
variable {X:Cx}{pos:Pos}
def vI(i:Nat):TG:=λ v σ H Q=>Q (σ.set i (some v)) H
theorem qr{i:Nat}{x:Str}(hN:X.N.Nodup)(hi:X.N[i]?=some x)(hx:Loc X.env.scope x)(hf:X.fn x=true∨X.env.scope.names.lookup x=some .local:=by first|exact .inl rfl|exact .inr rfl|assumption):PG X (.Name x pos) (vI i):=by
 intro pins s σ H v u Q I r h;exact wpAny_assign_Name (qfg I hN hi hx r (λ s' I'=>⟨_,H,I',h⟩) hf)
def qlk:TGs:=λ vs σ H Q=>vs=[]/\Q σ H
def qcw(t:TG)(u:TGs):TGs:=λ vs σ H Q=>∃ v r,vs=v::r/\t v σ H λ σ' H'=>u r σ' H' Q
theorem zC:PGs X [] qlk:=by
 intro pins s σ H vs us Q I r h;obtain⟨e,h⟩:=h;subst e;cases r
 exact assignInOrder_nil ⟨σ,H,I,h⟩
theorem qE{e:Expr}{es:List Expr}{t:TG}{u:TGs}(h1:PG X e t)(h2:PGs X es u)(hs:(assignEach (e::es) X.env).map (·.2)=assign e X.env::(assignEach es X.env).map (·.2):=by rfl):PGs X (e::es) (qcw t u):=by
 intro pins s σ H vs us Q I r h;obtain⟨v,vr,e1,h⟩:=h;subst e1;cases r with
 |cons r rr =>
  rw[hs];refine assignInOrder_cons (thn (h1 pins s σ H _ _ _ I r h) λ _ s1 ⟨σ1,H1,I1,q1⟩=>?_);exact h2 pins s1 σ1 H1 _ _ Q I1 rr q1
def qll(K:W.Frag)(n:Nat)(t:TGs):TG:=λ v σ H Q=>∃ a xs,v=.ref a/\SqT K H a xs/\xs.length=n/\t xs σ H Q
theorem qcx{es:List Expr}{k:Nat}{t:TGs}{n:Nat}(hc:X.calm=true)(h:PGs X es t)(hn:(assignEach es X.env).length=n:=by rfl)(B9:(assignEach es X.env).findIdx? (·.1)=none:=by rfl):PG X (.Tuple es k pos) (qll X.K n t):=by
 intro pins s σ H v u Q I r hw;obtain⟨a,xs,e1,hq,hl,hw⟩:=hw;subst e1;cases r
 obtain⟨its,rv,ht,hz⟩:=I.tuple hq;refine assign_Tuple_tuple (I.ok.hd hc) ht (by simp[hn,<- hl,rv.length]) B9 λ h' hx=>?_
 have I1:Inv X pins σ H { s with heap:=h' }:=I.kept (t':=s.toks) λ b o e=>hx b o (Qx (Qw e)) e
 exact h pins _ σ H xs _ Q I1 (by simpa using rv) hw
def qoW(to ti:TE)(t:qmO):TG:=λ v σ H Q=>to σ H λ o H1=>ti σ H1 λ i H2=>t o i v H2 λ H3=>Q σ H3
theorem qes{o i:Expr}{to ti:TE}{t:qmO}(ho:PE X o to)(hi:PE X i ti)(hs:qnO X t)(ha:∀ v,assign (.Subscript o i pos) X.env v=(do
   let ov <- holding [v] (eval o X.env)
   let iv <- holding [v,ov] (eval i X.env)
   standAt pos
   holding [v,ov,iv] (setItem ov iv v)
   release [v,ov,iv] []):=by intro _;rfl):PG X (.Subscript o i pos) (qoW to ti t):=by
 intro pins s σ H v u Q I r h;rw[ha];refine Vl (Qr (thn (ho pins s σ H _ I h) λ ov s1 ⟨x,H1,I1,r1,q1⟩=>?_));refine Vl (Qr (thn (hi pins s1 σ H1 _ I1 q1) λ iv s2 ⟨y,H2,I2,r2,q2⟩=>?_));refine Vl (Qs (Vl (Qr (thn (hs pins s2 σ H2 x y v ov iv u _ I2 r1 r2 r q2) λ _ s3 ⟨H3,I3,q3⟩=>?_))));exact wpAny_release ⟨σ,H3,I3,q3⟩
def qjb(te:TE)(g:TG):TS:=λ D σ H=>te σ H λ x H1=>g x σ H1 D.nx
theorem qcy{tg e:Expr}{te:TE}{g:TG}(he:PE X e te)(hg:PG X tg g)(hs:swapsWithSole [tg] e pos.line X.env=pure false:=by rfl)(hw:swappedStores [tg] e X.env=pure none:=by rfl)(h1:(assignEach [tg] X.env).map (·.2)=[assign tg X.env]:=by rfl):PS X (.Assign [tg] e pos) (qjb te g):=by
 intro pins s σ H D I h;refine wpAny_Assign_stores (thn (he pins s σ H _ I h) λ v s1 ⟨x,H1,I1,r1,q1⟩=>?_) hs hw;rw[h1];exact thn (hg pins s1 σ H1 x v _ I1 r1 q1) λ _ s2 q=>q
theorem qt{i:Nat}{x:Str}{e:Expr}{te:TE}{p7:Pos}(hN:X.N.Nodup)(hi:X.N[i]?=some x)(hx:Loc X.env.scope x)(he:PE X e te)(hs:swapsWith e (some (.Name x p7)) pos.line X.env=pure false:=by rfl)(hf:X.fn x=true∨X.env.scope.names.lookup x=some .local:=by first | exact .inl rfl | exact .inr rfl | assumption):
  PS X (.Assign [.Name x p7] e pos) (qjb te (vI i)):=by
 intro pins s σ H D I h;refine wpAny_Assign_Name (thn (he pins s σ H _ I h) λ v s1 ⟨y,H1,I1,r1,q1⟩=>?_) hs;exact qfg I1 hN hi hx r1 (λ s2 I2=>⟨_,H1,I2,q1⟩) hf
def qmP(c:TT)(tb:TS):TS:=λ D σ H=>∃ W:Nat->St->Hp->Prop,(∃ m,W m σ H)/\∀ m σ H,W m σ H ->
 c σ H λ b H1=>if b=true then ∃ N:St->Hp->Prop,(∀ σ' H',N σ' H'->∃ m',m'<m/\W m' σ' H')/\tb { D with nx:=N,ct:=N,bk:=D.nx } σ H1 else D.nx σ H1
theorem qfl(hp:PassesOwn (model X.prog X.w) X.A X.env X.xe)(hc:PT X c tc)(hb:PSs X body tb):PS X (.While c body [] pos) (qmP tc tb):=by
 intro pins s σ H D I h;obtain⟨W,⟨m0,w0⟩,turn⟩:=h;refine wpAny_While (codeAny_whileLoop (λ n s'=>∃ σ' H',Inv X pins σ' H' s'/\W n σ' H') ?_ m0 ⟨σ,H,I,w0⟩);rintro n s1 ⟨σ1,H1,I1,w1⟩;refine Jn hp (thn (hc pins s1 σ1 H1 _ I1 (turn n σ1 H1 w1)) λ b s2 ⟨H2,I2,q2⟩=>?_);cases b with
 |true =>
  obtain⟨N,hN,q2⟩:=q2;rw[V4 rfl];refine Jn hp (thn (hb pins s2 σ1 H2 _ I2 q2) λ f s3 q3=>?_);cases f with
  |next =>
   obtain⟨σ3,H3,I3,n3⟩:=q3;obtain⟨m',hm,w3⟩:=hN σ3 H3 n3;exact⟨m',hm,σ3,H3,I3,w3⟩
  |cont =>
   obtain⟨σ3,H3,I3,n3⟩:=q3;obtain⟨m',hm,w3⟩:=hN σ3 H3 n3;exact⟨m',hm,σ3,H3,I3,w3⟩
  |brk=>exact q3
  |ret v=>exact q3
 |false =>
  rw[V5 Zf];exact Jm ⟨σ1,H2,I2,q2⟩
end
structure It where 
 go:Nat->Hp->Prop
 yld:Nat->Hp->V->Hp->Prop
 stop:Nat->Hp->Prop
def jF(X:Cx)(pins:List (Addr×Obj))(H:Hp)(b:Addr):Prop:=
 H b=none/\b≠X.env.locals/\b∉X.fs/\(b∈X.ex∨X.s₀.heap.objs.size<=b)/\(∀ x c,X.env.cells.lookup x=some c->c≠b)/\∀ p∈X.pn++pins,p.1≠b
theorem Inv.fpOk{σ:St}{b:Addr}(I:Inv X pins σ H s)(hb:s.heap.objs.size<=b)(hn:H' b=none):jF X pins H' b:=by
 refine⟨hn,Q0 (Zd I.lt hb),I.nofs hb,.inr (Qy I.sz hb),λ x c e z=>?_,λ p hp z=>?_⟩
 ·obtain⟨v,q⟩:=I.cell x c e;exact absurd (Zd q.lt (by rw[z];exact hb)) (Qh _)
 ·exact absurd (Zd (Qw (I.pin p hp).1) (by rw[z];exact hb)) (Qh _)
structure Turn(P:Program)(w:World)(K:W.Frag)(tg:Expr)(J:It)(fp:List Addr)(it:Addr)(tn:Nat->Heap->Prop):Prop where
 mem:it∈fp
 obj:∀ i h,tn i h->∀ b∈fp,∃ o,h.get? b=some o/\∀ v,o.data≠.cell v
 keep:∀ i h h',tn i h->(∀ b∈fp,∀ o,h.get? b=some o->h'.get? b=some o)->tn i h'
 item:∀(X:Cx),X.prog=P->X.w=w->X.K=K->X.calm=true->∀(i:Nat)(pins:List (Addr×Obj))(s:Shared)(σ:St)(H:Hp)(E:Value->Shared->Prop),Inv X pins σ H s->(∀ b∈fp,jF X pins H b)->tn i s.heap->J.go i H ->
  wpAny (model P w) X.A (pyNext (.ref it)) (λ r s1=>∃ u,r=some u /\
   wpAny (model P w) X.A (letOwnedTupleGo tg (.ref it) u) (λ _ s2=>∃ x H',Inv X pins σ H' s2/\qS x u/\J.yld i H x H'/\tn (i+1) s2.heap/\∀ b∈fp,H' b=none) E s1) E s
 done:∀(X:Cx),X.prog=P->X.w=w->X.K=K->X.calm=true->∀(i:Nat)(pins:List (Addr×Obj))(s:Shared)(σ:St)(H:Hp)(E:Value->Shared->Prop),Inv X pins σ H s->(∀ b∈fp,jF X pins H b)->tn i s.heap->J.stop i H ->
  wpAny (model P w) X.A (pyNext (.ref it)) (λ r s1=>r=none/\Inv X pins σ H s1) E s
 self:∀(A:Around)(i:Nat)(s:Shared)(Q:Value->Shared->Prop)(E:Value->Shared->Prop),tn i s.heap->Q (.ref it) s->wpAny (model P w) A (pyIter (.ref it)) Q E s
abbrev TI:=St->Hp->(It->Hp->Prop)->Prop
def PIE(X:Cx)(pins:List (Addr×Obj))(σ:St)(tg:Expr)(R:It->Hp->Prop)(eY:Value)(s2:Shared):Prop:=
 ∃(it:Addr)(fp:List Addr)(tn:Nat->Heap->Prop)(J:It)(H':Hp),eY=.ref it/\Inv X pins σ H' s2/\Turn X.prog X.w X.K tg J fp it tn/\tn 0 s2.heap/\(∀ b∈fp,jF X pins H' b)/\R J H'
def PI(X:Cx)(tg iter:Expr)(wi:TI):Prop:=
 ∀(pins:List (Addr×Obj))(s:Shared)(σ:St)(H:Hp)(R:It->Hp->Prop),Inv X pins σ H s->wi σ H R ->
  wpAny (model X.prog X.w) X.A (eval iter X.env) (λ v s1=>wpAny (model X.prog X.w) X.A (pyIter v) (PIE X pins σ tg R) X.xe s1) X.xe s
theorem qhu(ho:s.heap.get? it=some o)(hc:o.cls=.type n)(hd:o.data=.fields vs)(hn:["enumerate","zip","dict_itemiterator","dict_reverseitemiterator","odict_iterator","itertools.zip_longest","itertools.pairwise"].contains n=false)(hQ:Q () s):wpAny M A (letOwnedTupleGo tg (.ref it) u) Q E s:=by
 unfold letOwnedTupleGo;cases tg <;> first
  |exact Vm hQ
  | (cases u <;> first
    |exact Vm hQ
    | (refine Vl (wpAny_load ho ?_)
       rw[hc,hd];show wpAny M A (if (["enumerate","zip","dict_itemiterator","dict_reverseitemiterator","odict_iterator","itertools.zip_longest","itertools.pairwise"].contains n && vs[0]? == some (rawInt _))=true then _ else _) Q E s
       rw[V5 (by intro h;rw[hn,Jt] at h;cases h)];exact Vm hQ))
noncomputable def Itl(K:W.Frag)(a:Addr):It:=
 ⟨λ i H=>∃ xs x,SqL K H a xs/\xs[i]?=some x,λ i H x H'=>H'=H/\∀ xs,SqL K H a xs->xs[i]?=some x,λ i H=>∃ xs,SqL K H a xs/\xs.length<=i⟩
noncomputable def Itt(K:W.Frag)(a:Addr):It:=
 ⟨λ i H=>∃ xs x,SqT K H a xs/\xs[i]?=some x,λ i H x H'=>H'=H/\∀ xs,SqT K H a xs->xs[i]?=some x,λ i H=>∃ xs,SqT K H a xs/\xs.length<=i⟩
noncomputable def Itr(lo:Int)(n:Nat):It:=⟨λ i _=>i<n,λ i H x H'=>H'=H/\x=.int (lo+i),λ i _=>n<=i⟩
theorem qid{K:W.Frag}(a it:Addr):Turn P w K tg (Itl K a) [it] it (λ i h=>h.IsListIter it a i) where
 mem:=by simp
 obj:=λ i h st b hb=>by
  have e:b=it:=by simpa using hb
  subst e;obtain⟨o,e,c,d⟩:=st;exact⟨o,e,λ v z=>by rw[d] at z;cases z⟩
 keep:=λ i h h' st k=>st.at λ o e=>k it (by simp) o e
 item:=by
  intro X hP hw hK hc i pins s σ H E I hf st hg;subst hP hw hK;obtain⟨xs,x,hq,hx⟩:=hg;obtain⟨its,rv,p,hz⟩:=I.list hq;obtain⟨u,hu,ru⟩:=rv.get hx;obtain⟨f0,f1,f2,f3,f4,f5⟩:=hf it (by simp);refine wpAny_pyNext_list_item st p.isList (x:=u) (by simpa using hu) λ h' b0 sb=>?_
  have I1:Inv X pins σ H { s with heap:=h' }:=I.turned (t':=s.toks) (λ b o hb e=>(sb.2 b hb).trans e) f0 f1 f3 f4 f5;obtain⟨o,e,c,d⟩:=id b0;exact⟨u,rfl,qhu (s:={ s with heap:=h' }) e c d (by decide) ⟨x,H,I1,ru,⟨rfl,λ ys hy=>by rw[I.list_inj hy hq];exact hx⟩,b0,λ b hb=>(hf b hb).1⟩⟩
 done:=by
  intro X hP hw hK hc i pins s σ H E I hf st hg;subst hP hw hK;obtain⟨xs,hq,hx⟩:=hg;obtain⟨its,rv,p,hz⟩:=I.list hq;obtain⟨f0,f1,f2,f3,f4,f5⟩:=hf it (by simp);have hl:=rv.length;exact wpAny_pyNext_list_end (I.ok.hd hc) st p.isList (by simp;omega) λ h' eb=>⟨rfl,I.turned (t':=s.toks) (λ b o hb e=>eb b o hb e) f0 f1 f3 f4 f5⟩
 self:=λ _ _ _ _ _ st h=>wpAny_pyIter_listiter st h
theorem qgp{K:W.Frag}(a it:Addr):Turn P w K tg (Itt K a) [it] it (λ i h=>h.IsTupleIter it a i) where
 mem:=by simp
 obj:=λ i h st b hb=>by
  have e:b=it:=by simpa using hb
  subst e;obtain⟨o,e,c,d⟩:=st;exact⟨o,e,λ v z=>by rw[d] at z;cases z⟩
 keep:=λ i h h' st k=>st.at λ o e=>k it (by simp) o e
 item:=by
  intro X hP hw hK hc i pins s σ H E I hf st hg;subst hP hw hK;obtain⟨xs,x,hq,hx⟩:=hg;obtain⟨its,rv,p,hz⟩:=I.tuple hq;obtain⟨u,hu,ru⟩:=rv.get hx;obtain⟨f0,f1,f2,f3,f4,f5⟩:=hf it (by simp);refine wpAny_pyNext_tuple_item st (show s.heap.IsTuple a its.toArray from p) (x:=u) (by simpa using hu) λ h' b0 sb=>?_
  have I1:Inv X pins σ H { s with heap:=h' }:=I.turned (t':=s.toks) (λ b o hb e=>(sb.2 b hb).trans e) f0 f1 f3 f4 f5;obtain⟨o,e,c,d⟩:=id b0;exact⟨u,rfl,qhu (s:={ s with heap:=h' }) e c d (by decide) ⟨x,H,I1,ru,⟨rfl,λ ys hy=>by rw[I.tuple_inj hy hq];exact hx⟩,b0,λ b hb=>(hf b hb).1⟩⟩
 done:=by
  intro X hP hw hK hc i pins s σ H E I hf st hg;subst hP hw hK;obtain⟨xs,hq,hx⟩:=hg;obtain⟨its,rv,p,hz⟩:=I.tuple hq;obtain⟨f0,f1,f2,f3,f4,f5⟩:=hf it (by simp);have hl:=rv.length;exact wpAny_pyNext_tuple_end (I.ok.hd hc) st (show s.heap.IsTuple a its.toArray from p) (by simp;omega) λ h' eb=>⟨rfl,I.turned (t':=s.toks) (λ b o hb e=>eb b o hb e) f0 f1 f3 f4 f5⟩
 self:=λ _ _ _ _ _ st h=>wpAny_pyIter_tupleiter st h
theorem qgq{K:W.Frag}(it:Addr)(lo:Int)(n:Nat):Turn P w K tg (Itr lo n) [it] it (λ i h=>IsRangeIter h it (lo+(i:Nat)*1) ((n:Int)-(i:Nat)) 1) where
 mem:=by simp
 obj:=λ i h st b hb=>by
  have e:b=it:=by simpa using hb
  subst e;exact⟨_,st,λ v z=>by
   have z':Data.fields _=Data.cell v:=z;cases z'⟩
 keep:=λ i h h' st k=>k it (by simp) _ st
 item:=by
  intro X hP hw hK hc i pins s σ H E I hf st hg;subst hP hw hK;obtain⟨f0,f1,f2,f3,f4,f5⟩:=hf it (by simp);have W:=Walks.range (prog:=X.prog) (w:=X.w) (I.ok.hd hc) it lo 1 n;refine W.item i s _ _ hg st λ v h' tk hv b0 kk=>?_
  obtain⟨t,rfl⟩:=hv;have I1:Inv X pins σ H { s with heap:=h',toks:=tk }:=I.turned (λ b o hb e=>kk b o (by simpa using hb) e) f0 f1 f3 f4 f5;refine⟨_,rfl,qhu (s:={ s with heap:=h',toks:=tk }) (n:="range_iterator") b0 rfl rfl (by decide) ⟨.int (lo+i),H,I1,⟨t,?_⟩,⟨rfl,rfl⟩,b0,λ b hb=>(hf b hb).1⟩⟩;rw[Int.mul_one]
 done:=by
  intro X hP hw hK hc i pins s σ H E I hf st hg;subst hP hw hK;obtain⟨f0,f1,f2,f3,f4,f5⟩:=hf it (by simp);exact wpAny_pyNext_range_end (I.ok.hd hc) st (by have:n<=i:=hg;omega) λ h' eb=>⟨rfl,I.turned (t':=s.toks) (λ b o hb e=>eb b o hb e) f0 f1 f3 f4 f5⟩
 self:=λ _ _ _ _ _ st h=>wpAny_pyIter_rangeiter st h
section
variable {X:Cx}{tg:Expr}
def qnP(K:W.Frag)(tl:TE):TI:=λ σ H R=>tl σ H λ x H1=>∃ a,x=.ref a/\(∃ xs,SqL K H1 a xs)/\R (Itl K a) H1
def qoX(K:W.Frag)(tl:TE):TI:=λ σ H R=>tl σ H λ x H1=>∃ a,x=.ref a/\(∃ xs,SqT K H1 a xs)/\R (Itt K a) H1
theorem zU(hl:PE X l tl):PI X tg l (qnP X.K tl):=by
 intro pins s σ H R I h;refine thn (hl pins s σ H _ I h) λ v s1 ⟨x,H1,I1,r1,q1⟩=>?_
 obtain⟨a,e,⟨xs,hq⟩,q⟩:=q1;subst e;cases r1
 obtain⟨its,rv,p,hz⟩:=I1.list hq;refine Ua p.isList ?_;refine⟨s1.heap.objs.size,[s1.heap.objs.size],_,_,H1,rfl,I1.kept (t':=s1.toks) λ b o e=>XG _ e,qid a _,⟨_,Yy _ rfl,rfl,rfl⟩,λ b hb=>?_,q⟩;have e:b=s1.heap.objs.size:=by simpa using hb
 subst e;exact I1.fpOk (Vd _) (I1.hok.fresh (Vd _))
theorem qjc(hl:PE X l tl):PI X tg l (qoX X.K tl):=by
 intro pins s σ H R I h;refine thn (hl pins s σ H _ I h) λ v s1 ⟨x,H1,I1,r1,q1⟩=>?_
 obtain⟨a,e,⟨xs,hq⟩,q⟩:=q1;subst e;cases r1
 obtain⟨its,rv,p,hz⟩:=I1.tuple hq;refine wpAny_pyIter_tuple (show s1.heap.IsTuple a its.toArray from p) ?_;refine⟨s1.heap.objs.size,[s1.heap.objs.size],_,_,H1,rfl,I1.kept (t':=s1.toks) λ b o e=>XG _ e,qgp a _,⟨_,Yy _ rfl,rfl,rfl⟩,λ b hb=>?_,q⟩;have e:b=s1.heap.objs.size:=by simpa using hb
 subst e;exact I1.fpOk (Vd _) (I1.hok.fresh (Vd _))
theorem qjd{σ:St} {lo:Int}(I:Inv X pins σ H s)(h1:-(2^62)<=lo)(h2:lo<2^62)(h3:-(2^62)<=hi)(h4:hi<2^62)(q:R (Itr lo (hi-lo).toNat) H):wpAny (model X.prog X.w) X.A (pyIter (.ref s.heap.objs.size)) (PIE X pins σ tg R) E { s with heap:=s.heap.push { cls:=.type "range",data:=.fields #[.int lo t,.int hi u,.int 1 v] },toks:=tk }:=by
 refine wpAny_pyIter_range (IsRange.new ..) (small_one h1 h2 h3 h4) ?_;have I1:Inv X pins σ H { s with heap:=s.heap.push { cls:=.type "range",data:=.fields #[.int lo t,.int hi u,.int 1 v] },toks:=tk }:=I.kept λ b o e=>XG _ e
 refine⟨(s.heap.push { cls:=.type "range",data:=.fields #[.int lo t,.int hi u,.int 1 v] }).objs.size,[(s.heap.push { cls:=.type "range",data:=.fields #[.int lo t,.int hi u,.int 1 v] }).objs.size],_,_,H,rfl,
  I1.kept (t':=tk) λ b o e=>XG _ e,qgq _ lo (hi-lo).toNat,?_,λ b hb=>?_,q⟩
 ·have e1:lo+((0:Nat):Int)*1=lo:=by simp
  have e2:(((hi-lo).toNat:Nat):Int)-((0:Nat):Int)=Builtin.Range.rangeSize lo hi 1:=by rw[rangeSize_one];split <;> omega
  show IsRangeIter _ _ (lo+((0:Nat):Int)*1) ((((hi-lo).toNat:Nat):Int)-((0:Nat):Int)) 1
  rw[e1,e2];exact Yy _ rfl
 ·have e:b=(s.heap.push { cls:=.type "range",data:=.fields #[.int lo t,.int hi u,.int 1 v] }).objs.size:=by simpa using hb
  subst e;exact I1.fpOk (Vd _) (I1.hok.fresh (Vd _))
def qnQ(ta:TA):TI:=λ σ H R=>ta σ H λ vs H1=>∃ j:Int,vs=[.int j]/\-(2^62)<=j/\j<2^62/\R (Itr 0 j.toNat) H1
theorem zM{a:Expr}{ta:TA}{p pos:Pos}(hg:Gl X "range")(hm:X.mg "range"=none)(ha:PA X [a] ta)(hs:starEach [a] X.env=[(false,eval a X.env)]:=by rfl):PI X tg (.Call (.Name "range" p) [a] [] pos) (qnQ ta):=by
 intro pins s σ H R I h;refine Call_ (jW I hg hm boot_range (Xe (thn (ha pos pins s σ H _ I h) λ us s1 ⟨vs,H1,I1,r1,q1⟩=>?_) hs rfl));obtain⟨j,e,q1,q2,q⟩:=q1;subst e;cases r1 with
 |cons r rr =>
  cases rr
  obtain⟨t,rfl⟩:=r;exact call_range_1 (qjd I1 (by omega) (by omega) q1 q2 (by simpa using q))
def qoY(wi:TI)(g:TG)(tb:TS):TS:=λ D σ H=>wi σ H λ J H1=>∃ W:Nat->Nat->St->Hp->Prop,(∃ m,W 0 m σ H1)/\∀ i m σ H,W i m σ H ->
 (J.stop i H/\D.nx σ H)∨(J.go i H/\∃ N:St->Hp->Prop,(∀ σ' H',N σ' H'->∃ m',m'<m/\W (i+1) m' σ' H')/\∀ x H',J.yld i H x H'->g x σ H' λ σ2 H2=>tb { D with nx:=N,ct:=N,bk:=D.nx } σ2 H2)
noncomputable def vP(fp:List Addr)(h:Heap):List (Addr×Obj):=fp.filterMap λ b=>(h.get? b).map λ o=>(b,o)
theorem yB(hb:b∈fp)(e:h.get? b=some o):(b,o)∈vP fp h:=List.mem_filterMap.mpr ⟨b,hb,by rw[e];rfl⟩
theorem qie(hp:p∈vP fp h):p.1∈fp/\h.get? p.1=some p.2:=by
 obtain⟨b,hb,e⟩:=List.mem_filterMap.mp hp;cases q:h.get? b with
 |none=>rw[q] at e;cases e
 |some o =>
  rw[q] at e;have e':(b,o)=p:=Option.some.inj e;subst e';exact⟨hb,q⟩
theorem Inv.pinned{σ:St}(I:Inv X pins σ H s)(hf:∀ b∈fp,jF X pins H b)(ho:∀ b∈fp,∃ o,s.heap.get? b=some o/\∀ v,o.data≠.cell v):Inv X (pins++vP fp s.heap) σ H s:=
 I.pins_of λ p hp=>(U1.mp hp).elim (λ z=>I.pin p (XS _ z)) λ z=>by
  obtain⟨hb,e⟩:=qie z;obtain⟨f0,f1,f2,_⟩:=hf p.1 hb;obtain⟨o,e',d⟩:=ho p.1 hb;rw[e] at e';cases e';exact⟨e,f0,f1,f2,d⟩
theorem Inv.unpinned{σ:St}(I:Inv X (pins++pl) σ H s):Inv X pins σ H s:=I.pins_of λ p hp=>I.pin p (XS _ (Ym _ hp))
theorem yq{iter:Expr}{body:List Stmt}{wi:TI}{g:TG}{tb:TS}{pos:Pos}(hp:PassesOwn (model X.prog X.w) X.A X.env X.xe)(hc:X.calm=true)(hi:PI X tg iter wi)(hg:PG X tg g)(hb:PSs X body tb)(hs:∀ x,foldedSetIterable iter X.env x=pure x:=by intro _;rfl):PS X (.For tg iter body [] pos) (qoY wi g tb):=by
 intro pins s σ H D I h;refine wpAny_For (thn (hi pins s σ H _ I h) λ v s1 h1=>thn h1 λ eY s2 h2=>?_) hs;obtain⟨it,fp,tn,J,H2,e,I2,T,l0,f2,W,⟨m0,w0⟩,turn⟩:=h2;subst e;have R0:∀{H':Hp},(∀ b∈fp,H' b=none)->∀ b∈fp,jF X pins H' b:=λ hn b hb=>⟨hn b hb,(f2 b hb).2⟩
 refine codeAny_forLoop_any (λ n s'=>∃ i σ' H',Inv X pins σ' H' s'/\tn i s'.heap/\(∀ b∈fp,H' b=none)/\W i n σ' H') ?_ m0 ⟨0,σ,H2,I2,l0,λ b hb=>(f2 b hb).1,w0⟩;rintro n s3 ⟨i,σ3,H3,I3,G5,cV,w3⟩;rcases turn i n σ3 H3 w3 with⟨stop,qn⟩|⟨go,N,hN,step⟩
 ·refine Jn hp (thn (T.done X rfl rfl rfl hc i pins s3 σ3 H3 X.xe I3 (R0 cV) G5 stop) λ r s4 ⟨hr,I4⟩=>?_);subst hr;exact Jm ⟨σ3,H3,I4,qn⟩
 ·refine Jn hp (thn (T.item X rfl rfl rfl hc i pins s3 σ3 H3 X.xe I3 (R0 cV) G5 go) λ r s4 ⟨u,hr,h4⟩=>?_);subst hr;refine Jn hp (thn h4 λ _ s5 ⟨x,H5,I5,r5,y5,R1,nB⟩=>?_);have I5':=I5.pinned (R0 nB) (T.obj _ _ R1);refine Jn hp (thn (hg _ s5 σ3 H5 x u _ I5' r5 (step x H5 y5)) λ _ s6 ⟨σ6,H6,I6,q6⟩=>?_);refine Jn hp (thn (hb _ s6 σ6 H6 _ I6 q6) λ f s7 q7=>?_);have again:∀{σ7:St}{H7:Hp},Inv X (pins++vP fp s5.heap) σ7 H7 s7->N σ7 H7->∃ m,m<n/\∃ i σ' H',Inv X pins σ' H' s7/\tn i s7.heap/\(∀ b∈fp,H' b=none)/\W i m σ' H':=λ{σ7 H7} I7 n7=>by
   obtain⟨m',hm,w7⟩:=hN σ7 H7 n7;refine⟨m',hm,i+1,σ7,H7,I7.unpinned,T.keep _ _ _ R1 λ b hb o e=>(I7.pin (b,o) (XS _ (XS _ (yB hb e)))).1,λ b hb=>?_,w7⟩;obtain⟨o,e,d⟩:=T.obj _ _ R1 b hb;exact(I7.pin (b,o) (XS _ (XS _ (yB hb e)))).2.1
  cases f with
  |next=>obtain⟨σ7,H7,I7,n7⟩:=q7;exact again I7 n7
  |cont=>obtain⟨σ7,H7,I7,n7⟩:=q7;exact again I7 n7
  |brk=>obtain⟨σ7,H7,I7,q7⟩:=q7;exact⟨σ7,H7,I7.unpinned,q7⟩
  |ret v=>obtain⟨x7,σ7,H7,I7,r7,q7⟩:=q7;exact⟨x7,σ7,H7,I7.unpinned,r7,q7⟩
end
theorem qcz{K:W.Frag}{g:TG}{tb:TS}{D:Ends}(Pv:Nat->St->Hp->Prop)(h0:Pv 0 σ H)(hl:∀ i σ H,i<=xs.length->Pv i σ H->SqL K H a xs)(hs:∀ i x σ H,xs[i]?=some x->Pv i σ H->g x σ H λ σ2 H2=>tb { D with nx:=Pv (i+1),ct:=Pv (i+1),bk:=D.nx } σ2 H2)(hd:∀ σ H,Pv xs.length σ H->D.nx σ H):
  ∃ W:Nat->Nat->St->Hp->Prop,(∃ m,W 0 m σ H)/\∀ i m σ H,W i m σ H ->
   ((Itl K a).stop i H/\D.nx σ H)∨((Itl K a).go i H/\∃ N:St->Hp->Prop,(∀ σ' H',N σ' H'->∃ m',m'<m/\W (i+1) m' σ' H')/\∀ x H',(Itl K a).yld i H x H'->g x σ H' λ σ2 H2=>tb { D with nx:=N,ct:=N,bk:=D.nx } σ2 H2):=by
 refine⟨λ i m σ H=>m=xs.length-i/\i<=xs.length/\Pv i σ H,⟨xs.length,by simp,Ve _,h0⟩,?_⟩;rintro i m σ H ⟨rfl,hi,p⟩;have q:=hl i σ H hi p;by_cases c8:i<xs.length
 ·refine .inr ⟨⟨xs,xs[i],q,by simp[c8]⟩,Pv (i+1),λ σ' H' p'=>⟨xs.length-(i+1),by omega,rfl,c8,p'⟩,λ x H' y=>?_⟩;obtain⟨e,y⟩:=y;subst e;exact hs i x σ _ (y xs q) p
 ·have e:i=xs.length:=by omega
  subst e;exact .inl ⟨⟨xs,q,Vd _⟩,hd σ H p⟩
theorem qlm{K:W.Frag}{g:TG}{tb:TS}{D:Ends}(Pv:Nat->St->Hp->Prop)(h0:Pv 0 σ H)(hl:∀ i σ H,i<=xs.length->Pv i σ H->SqT K H a xs)(hs:∀ i x σ H,xs[i]?=some x->Pv i σ H->g x σ H λ σ2 H2=>tb { D with nx:=Pv (i+1),ct:=Pv (i+1),bk:=D.nx } σ2 H2)(hd:∀ σ H,Pv xs.length σ H->D.nx σ H):
  ∃ W:Nat->Nat->St->Hp->Prop,(∃ m,W 0 m σ H)/\∀ i m σ H,W i m σ H ->
   ((Itt K a).stop i H/\D.nx σ H)∨((Itt K a).go i H/\∃ N:St->Hp->Prop,(∀ σ' H',N σ' H'->∃ m',m'<m/\W (i+1) m' σ' H')/\∀ x H',(Itt K a).yld i H x H'->g x σ H' λ σ2 H2=>tb { D with nx:=N,ct:=N,bk:=D.nx } σ2 H2):=by
 refine⟨λ i m σ H=>m=xs.length-i/\i<=xs.length/\Pv i σ H,⟨xs.length,by simp,Ve _,h0⟩,?_⟩;rintro i m σ H ⟨rfl,hi,p⟩;have q:=hl i σ H hi p;by_cases c8:i<xs.length
 ·refine .inr ⟨⟨xs,xs[i],q,by simp[c8]⟩,Pv (i+1),λ σ' H' p'=>⟨xs.length-(i+1),by omega,rfl,c8,p'⟩,λ x H' y=>?_⟩;obtain⟨e,y⟩:=y;subst e;exact hs i x σ _ (y xs q) p
 ·have e:i=xs.length:=by omega
  subst e;exact .inl ⟨⟨xs,q,Vd _⟩,hd σ H p⟩
theorem yj{lo:Int}{g:TG}{tb:TS}{D:Ends}(Pv:Nat->St->Hp->Prop)(h0:Pv 0 σ H)(hs:∀ i σ H,i<n->Pv i σ H->g (.int (lo+i)) σ H λ σ2 H2=>tb { D with nx:=Pv (i+1),ct:=Pv (i+1),bk:=D.nx } σ2 H2)(hd:∀ σ H,Pv n σ H->D.nx σ H):
  ∃ W:Nat->Nat->St->Hp->Prop,(∃ m,W 0 m σ H)/\∀ i m σ H,W i m σ H ->
   ((Itr lo n).stop i H/\D.nx σ H)∨((Itr lo n).go i H/\∃ N:St->Hp->Prop,(∀ σ' H',N σ' H'->∃ m',m'<m/\W (i+1) m' σ' H')/\∀ x H',(Itr lo n).yld i H x H'->g x σ H' λ σ2 H2=>tb { D with nx:=N,ct:=N,bk:=D.nx } σ2 H2):=by
 refine⟨λ i m σ H=>m=n-i/\i<=n/\Pv i σ H,⟨n,by simp,Ve _,h0⟩,?_⟩;rintro i m σ H ⟨rfl,hi,p⟩;by_cases c8:i<n
 ·refine .inr ⟨c8,Pv (i+1),λ σ' H' p'=>⟨n-(i+1),by omega,rfl,c8,p'⟩,λ x H' y=>?_⟩;obtain⟨e,y⟩:=y;subst e y;exact hs i σ _ c8 p
 ·have e:i=n:=by omega
  subst e;exact .inl ⟨Vd _,hd σ H p⟩
abbrev R2:=V->V->Hp->VK->Prop
def OpR(X:Cx)(f:Value->Value->Sem Value)(r:R2):Prop:=
 ∀(pins:List (Addr×Obj))(s:Shared)(σ:St)(H:Hp)(x y:V)(v u:Value)(Q:VK),Inv X pins σ H s->qS x v->qS y u->r x y H Q ->
  wpAny (model X.prog X.w) X.A (f v u) (EP X pins σ Q) X.xe s
def UnR(X:Cx)(f:Value->Sem Value)(r:V->Hp->VK->Prop):Prop:=
 ∀(pins:List (Addr×Obj))(s:Shared)(σ:St)(H:Hp)(x:V)(v:Value)(Q:VK),Inv X pins σ H s->qS x v->r x H Q ->
  wpAny (model X.prog X.w) X.A (f v) (EP X pins σ Q) X.xe s
def y9(X:Cx)(f:Value)(r:List V->Hp->VK->Prop):Prop:=
 ∀(pins:List (Addr×Obj))(s:Shared)(σ:St)(H:Hp)(xs:List V)(us:List Value)(Q:VK),Inv X pins σ H s->qL xs us->r xs H Q ->
  wpAny (model X.prog X.w) X.A (call f us) (EP X pins σ Q) X.xe s
def tOp(r:R2)(ta tb:TE):TE:=λ σ H Q=>ta σ H λ x H1=>tb σ H1 λ y H2=>r x y H2 Q
def tUn(r:V->Hp->VK->Prop)(ta:TE):TE:=λ σ H Q=>ta σ H λ x H1=>r x H1 Q
def rI(C:Int->Int->Prop)(g:Int->Int->V):R2:=λ x y H Q=>∃ i j,x=.int i/\y=.int j/\C i j/\Q (g i j) H
def rI0(g:Int->Int->V):R2:=λ x y H Q=>∃ i j,x=.int i/\y=.int j/\Q (g i j) H
def rU(g:Int->V):V->Hp->VK->Prop:=λ x H Q=>∃ i,x=.int i/\Q (g i) H
section
variable {X:Cx}{a b c:Expr}{ta tb tc:TE}{pos:Pos}
theorem qmQ(ha:PE X a ta)(hb:PE X b tb){σ:St}{R:V->V->Hp->Prop}(I:Inv X pins σ H s)(h:ta σ H λ x H1=>tb σ H1 λ y H2=>R x y H2){f:Value->Value->Sem Value}(hf:∀ v u s2 x y H2,Inv X pins σ H2 s2->qS x v->qS y u->R x y H2->wpAny (model X.prog X.w) X.A (f v u) Q X.xe s2):
  wpAny (model X.prog X.w) X.A (eval a X.env) (λ v s₁=>wpAny (model X.prog X.w) X.A (eval b X.env) (λ u s₂=>wpAny (model X.prog X.w) X.A (f v u) Q X.xe s₂) X.xe s₁) X.xe s:=by
 refine thn (ha pins s σ H _ I h) λ v s1 ⟨x,H1,I1,r1,q1⟩=>?_
 refine thn (hb pins s1 σ H1 _ I1 q1) λ u s2 ⟨y,H2,I2,r2,q2⟩=>?_
 exact hf v u s2 x y H2 I2 r1 r2 q2
theorem qp(ho:OpR X (binaryOp op) r)(ha:PE X a ta)(hb:PE X b tb):PE X (.BinOp a op b pos) (tOp r ta tb):=by
 intro pins s σ H Q I h;exact wpAny_BinOp (qmQ ha hb I h λ v u s2 x y H2 I2 rx ry q=>ho pins s2 σ H2 x y v u Q I2 rx ry q)
theorem qaX(ho:UnR X (unaryOp op) r)(ha:PE X a ta):PE X (.UnaryOp op a pos) (tUn r ta):=by
 intro pins s σ H Q I h;exact UnaryOp_ (thn (ha pins s σ H _ I h) λ v s1 ⟨x,H1,I1,r1,q1⟩=>ho pins s1 σ H1 x v Q I1 r1 q1)
theorem opI{g:Int->Int->Int}(rule:∀(i j:Int)(t u:Tok)(s:Shared)(Q:Value->Shared->Prop)(E:Value->Shared->Prop),C i j->Q (.int (g i j) s.toks) { s with toks:=s.toks+1 }->wpAny (model X.prog X.w) X.A (f (.int i t) (.int j u)) Q E s):
  OpR X f (rI C λ i j=>.int (g i j)):=by
 intro pins s σ H x y v u Q I rx ry h;obtain⟨i,j,rfl,rfl,hc,q⟩:=h;obtain⟨t,rfl⟩:=rx;obtain⟨t',rfl⟩:=ry;exact rule i j t t' s _ _ hc ⟨.int (g i j),H,I.tok _,⟨_,rfl⟩,q⟩
theorem qmR{g:Int->Int->Int}(rule:∀(i j:Int)(t u:Tok)(s:Shared)(Q:Value->Shared->Prop)(E:Value->Shared->Prop),Q (.int (g i j) s.toks) { s with toks:=s.toks+1 }->wpAny (model X.prog X.w) X.A (f (.int i t) (.int j u)) Q E s):
  OpR X f (rI0 λ i j=>.int (g i j)):=by
 intro pins s σ H x y v u Q I rx ry h;obtain⟨i,j,rfl,rfl,q⟩:=h;obtain⟨t,rfl⟩:=rx;obtain⟨t',rfl⟩:=ry;exact rule i j t t' s _ _ ⟨.int (g i j),H,I.tok _,⟨_,rfl⟩,q⟩
theorem qnR{g:Int->Int->Bool}(rule:∀(i j:Int)(t u:Tok)(s:Shared)(Q:Value->Shared->Prop)(E:Value->Shared->Prop),Q (.bool (g i j)) s->wpAny (model X.prog X.w) X.A (f (.int i t) (.int j u)) Q E s):
  OpR X f (rI0 λ i j=>.bl (g i j)):=by
 intro pins s σ H x y v u Q I rx ry h;obtain⟨i,j,rfl,rfl,q⟩:=h;obtain⟨t,rfl⟩:=rx;obtain⟨t',rfl⟩:=ry;exact rule i j t t' s _ _ ⟨.bl (g i j),H,I,rfl,q⟩
def qnS(i j:Int):Prop:=0<j/\j<1073741824
def qmS(i j:Int):Prop:=(-(2^64)<i/\i<2^64)∨(-(2^64)<j/\j<2^64)
theorem qmS.ok(h:qmS i j):IntMulOk i j:=by
 rcases h with⟨h1,h2⟩|⟨h1,h2⟩
 ·exact .of_left (intBits_le_64 h1 h2)
 ·exact .of_right (intBits_le_64 h1 h2)
theorem zz:OpR X (binaryOp .Add) (rI0 λ i j=>.int (i+j)):=qmR λ _ _ _ _ _ _ _ q=>add_int q
theorem qje:OpR X (binaryOp .Sub) (rI0 λ i j=>.int (i-j)):=qmR λ _ _ _ _ _ _ _ q=>sub_int q
theorem vQ:OpR X (binaryOp .Mult) (rI qmS λ i j=>.int (i*j)):=opI λ _ _ _ _ _ _ _ hc q=>mul_int q hc.ok
theorem yH:OpR X (binaryOp .FloorDiv) (rI qnS λ i j=>.int (i / j)):=opI λ i j _ _ _ _ _ hc q=>by
 have h1:(0:Int)<j:=hc.1;have h2:j<1073741824:=hc.2;exact floordiv_int (by omega) (by rw[Int.fdiv_eq_ediv_of_nonneg i (by omega)];exact q) (.inl (PyProof.noPylong_small (by omega)))
theorem zc:OpR X (binaryOp .Mod) (rI (λ _ j=>0<j) λ i j=>.int (i % j)):=opI λ i j _ _ _ _ _ hc q=>by
 have h1:(0:Int)<j:=hc;exact mod_int' (by omega) (by rw[Int.fmod_eq_emod_of_nonneg i (by omega)];exact q)
theorem qmT:OpR X (binaryOp .BitAnd) (rI0 λ i j=>.int (Builtin.bitAnd i j)):=qmR λ _ _ _ _ _ _ _ q=>and_int q
theorem unI{g:Int->Int}(rule:∀(i:Int)(t:Tok)(s:Shared)(Q:Value->Shared->Prop)(E:Value->Shared->Prop),Q (.int (g i) s.toks) { s with toks:=s.toks+1 }->wpAny (model X.prog X.w) X.A (f (.int i t)) Q E s):
  UnR X f (rU λ i=>.int (g i)):=by
 intro pins s σ H x v Q I rx h;obtain⟨i,rfl,q⟩:=h;obtain⟨t,rfl⟩:=rx;exact rule i t s _ _ ⟨.int (g i),H,I.tok _,⟨_,rfl⟩,q⟩
theorem jY:UnR X (unaryOp .USub) (rU λ i=>.int (-i)):=unI λ _ _ _ _ _ q=>neg_int q
end
noncomputable def qnT:V->V->Bool
 |.non,.non=>true|.non,.int _=>true|.int _,.non=>true|.non,.bl _=>true|.bl _,.non=>true|.non,.str _=>true|.str _,.non=>true
 |.int _,.int _=>true|.bl _,.bl _=>true|.str _,.str _=>true|.byt _,.byt _=>true
 |.int _,.str _=>true|.str _,.int _=>true|.bl _,.str _=>true|.str _,.bl _=>true
 |_,_=>false
def rEq:R2:=λ x y H Q=>qnT x y=true/\Q (.bl (decide (x=y))) H
def rNe:R2:=λ x y H Q=>qnT x y=true/\Q (.bl (!decide (x=y))) H
theorem qhv:decide (V.int i=V.int j)=(i == j):=by
 rw[U2];simp
theorem qjf:decide (V.bl i=V.bl j)=(i == j):=by
 rw[U2];simp
theorem qhw:decide (V.str i=V.str j)=(i == j):=by
 rw[U2];simp
theorem qhx:decide (V.byt i=V.byt j)=(i.toList == j.toList):=by
 rw[U2];cases i
 cases j
 simp
section
variable {X:Cx}{a b c:Expr}{ta tb tc:TE}{pos:Pos}
theorem q0{σ:St}(I:Inv X pins σ H s)(q:Q (.bl k) H)(e:k=k'):EP X pins σ Q (.bool k') s:=by
 subst e;exact⟨.bl k,H,I,rfl,q⟩
theorem zg:OpR X (compareOp .Eq) rEq:=by
 intro pins s σ H x y v u Q I rx ry h;obtain⟨hs,q⟩:=h;cases x with
 |non =>
  cases rx
  cases y with
  |non=>cases ry;exact PySem.EqNone.eq_none_none (q0 I q (by simp))
  |bl j=>cases ry;exact PySem.EqNone.eq_none_bool (q0 I q (by simp))
  |int j=>obtain⟨t',rfl⟩:=ry;exact PySem.EqNone.eq_none_int (q0 I q (by simp))
  |str j=>obtain⟨t',rfl⟩:=ry;exact PySem.EqNone.eq_none_str (q0 I q (by simp))
  |_=>exact absurd (show false=true from hs) Zf
 |bl i =>
  cases rx
  cases y with
  |non=>cases ry;exact PySem.EqNone.eq_bool_none (q0 I q (by simp))
  |bl j=>cases ry;exact eq_bool (q0 I q qjf)
  |str j=>obtain⟨t',rfl⟩:=ry;exact PySem.EqMixed.eq_bool_str (q0 I q (by simp))
  |_=>exact absurd (show false=true from hs) Zf
 |int i =>
  obtain⟨t,rfl⟩:=rx;cases y with
  |non=>cases ry;exact PySem.EqNone.eq_int_none (q0 I q (by simp))
  |int j=>obtain⟨t',rfl⟩:=ry;exact eq_int (q0 I q qhv)
  |str j=>obtain⟨t',rfl⟩:=ry;exact PySem.EqMixed.eq_int_str (q0 I q (by simp))
  |_=>exact absurd (show false=true from hs) Zf
 |str i =>
  obtain⟨t,rfl⟩:=rx;cases y with
  |non=>cases ry;exact PySem.EqNone.eq_str_none (q0 I q (by simp))
  |bl j=>cases ry;exact PySem.EqMixed.eq_str_bool (q0 I q (by simp))
  |int j=>obtain⟨t',rfl⟩:=ry;exact PySem.EqMixed.eq_str_int (q0 I q (by simp))
  |str j=>obtain⟨t',rfl⟩:=ry;exact eq_str (q0 I q qhw)
  |_=>exact absurd (show false=true from hs) Zf
 |byt i =>
  obtain⟨t,rfl⟩:=rx;cases y with
  |byt j=>obtain⟨t',rfl⟩:=ry;exact W.eq_bytes (q0 I q qhx)
  |_=>exact absurd (show false=true from hs) Zf
 |_=>cases y <;> exact absurd (show false=true from hs) Zf
theorem qjg:OpR X (compareOp .NotEq) rNe:=by
 intro pins s σ H x y v u Q I rx ry h;obtain⟨hs,q⟩:=h;cases x with
 |non =>
  cases rx
  cases y with
  |non=>cases ry;exact PySem.EqNone.ne_none_none (q0 I q (by simp))
  |bl j=>cases ry;exact PySem.EqNone.ne_none_bool (q0 I q (by simp))
  |int j=>obtain⟨t',rfl⟩:=ry;exact PySem.EqNone.ne_none_int (q0 I q (by simp))
  |str j=>obtain⟨t',rfl⟩:=ry;exact PySem.EqNone.ne_none_str (q0 I q (by simp))
  |_=>exact absurd (show false=true from hs) Zf
 |bl i =>
  cases rx
  cases y with
  |non=>cases ry;exact PySem.EqNone.ne_bool_none (q0 I q (by simp))
  |bl j=>cases ry;exact ne_bool (q0 I q (congrArg not qjf))
  |str j=>obtain⟨t',rfl⟩:=ry;exact PySem.EqMixed.ne_bool_str (q0 I q (by simp))
  |_=>exact absurd (show false=true from hs) Zf
 |int i =>
  obtain⟨t,rfl⟩:=rx;cases y with
  |non=>cases ry;exact PySem.EqNone.ne_int_none (q0 I q (by simp))
  |int j=>obtain⟨t',rfl⟩:=ry;exact ne_int (q0 I q (congrArg not qhv))
  |str j=>obtain⟨t',rfl⟩:=ry;exact PySem.EqMixed.ne_int_str (q0 I q (by simp))
  |_=>exact absurd (show false=true from hs) Zf
 |str i =>
  obtain⟨t,rfl⟩:=rx;cases y with
  |non=>cases ry;exact PySem.EqNone.ne_str_none (q0 I q (by simp))
  |bl j=>cases ry;exact PySem.EqMixed.ne_str_bool (q0 I q (by simp))
  |int j=>obtain⟨t',rfl⟩:=ry;exact PySem.EqMixed.ne_str_int (q0 I q (by simp))
  |str j=>obtain⟨t',rfl⟩:=ry;exact ne_str (q0 I q (congrArg not qhw))
  |_=>exact absurd (show false=true from hs) Zf
 |byt i =>
  obtain⟨t,rfl⟩:=rx;cases y with
  |byt j=>obtain⟨t',rfl⟩:=ry;exact W.ne_bytes (q0 I q (congrArg not qhx))
  |_=>exact absurd (show false=true from hs) Zf
 |_=>cases y <;> exact absurd (show false=true from hs) Zf
theorem qnU:OpR X (compareOp .Lt) (rI0 λ i j=>.bl (decide (i<j))):=qnR λ _ _ _ _ _ _ _ q=>lt_int q
theorem jM:OpR X (compareOp .Gt) (rI0 λ i j=>.bl (decide (j<i))):=qnR λ _ _ _ _ _ _ _ q=>gt_int q
theorem qif:OpR X (compareOp .In) (λ x y H Q=>∃ i j,x=.str i/\y=.str j/\Q (.bl (!(Builtin.Str.occurrences j i 0 j.length 1).isEmpty)) H):=by
 intro pins s σ H x y v u Q I rx ry h;obtain⟨i,j,rfl,rfl,q⟩:=h;obtain⟨t,rfl⟩:=rx;obtain⟨t',rfl⟩:=ry;exact in_str (q0 I q rfl)
theorem qjh:OpR X (compareOp .Is) (λ x y H Q=>y=.non/\Q (.bl (decide (x=.non))) H):=by
 intro pins s σ H x y v u Q I rx ry h;obtain⟨rfl,q⟩:=h;cases ry
 refine is_none_gen (q0 I q ?_);cases x <;> first
  |(cases rx;rfl)
  |(obtain⟨t,rfl⟩:=rx;rfl)
theorem qy(b:Expr){op:CmpOp}(h:op≠.In:=by decide)(h2:op≠.NotIn:=by decide):behindInMarks op b=false:=by
 have e1:(op == CmpOp.In)=false:=by cases op <;> first|rfl|exact absurd rfl h
 have e2:(op == CmpOp.NotIn)=false:=by cases op <;> first|rfl|exact absurd rfl h2
 cases b <;> simp[behindInMarks,e1,e2]
theorem zE(ho:OpR X (compareOp op) r)(ha:PE X a ta)(hb:PE X b tb)(hm:behindInMarks op b=false):PE X (.Compare a [op] [b] pos) (tOp r ta tb):=by
 intro pins s σ H Q I h;exact wpAny_Compare1 (qmQ ha hb I h λ v u s2 x y H2 I2 rx ry q=>ho pins s2 σ H2 x y v u Q I2 rx ry q) hm
def qji(t:TE):TT:=λ σ H Q=>t σ H λ x H'=>∃ k,x=.bl k/\Q k H'
theorem qx(ho:OpR X (compareOp op) r)(ha:PE X a ta)(hb:PE X b tb)(hm:behindInMarks op b=false):PT X (.Compare a [op] [b] pos) (qji (tOp r ta tb)):=by
 intro pins s σ H Q I h;refine wpAny_isTrue_Compare1 (thn (ha pins s σ H _ I h) λ v s1 ⟨x,H1,I1,r1,q1⟩=>thn (hb pins s1 σ H1 _ I1 q1) λ u s2 ⟨y,H2,I2,r2,q2⟩ =>
  thn (ho pins s2 σ H2 x y v u _ I2 r1 r2 q2) λ c s3 ⟨z,H3,I3,r3,k,e,q3⟩=>?_) hm
 subst e;cases r3
 exact Z9 ⟨H3,I3,q3⟩
theorem vR:(sizeLine:Nat)<2^63:=by rw[Vh];decide
theorem qcA:OpR X (binaryOp .Add) (λ x y H Q=>∃ i j,x=.str i/\y=.str j/\i.length+j.length<=sizeLine/\Q (.str (i++j)) H):=by
 intro pins s σ H x y v u Q I rx ry h;obtain⟨i,j,rfl,rfl,hz,q⟩:=h;obtain⟨t,rfl⟩:=rx;obtain⟨t',rfl⟩:=ry;exact add_str (λ t' tk=>⟨.str (i++j),H,I.tok _,⟨_,rfl⟩,q⟩) hz
theorem yk(r:qL [x] us):∃ u,us=[u]/\qS x u:=by
 cases r with
 |cons r1 r2=>cases r2;exact⟨_,rfl,r1⟩
theorem qdS(r:qL [x,y] us):∃ u w',us=[u,w']/\qS x u/\qS y w':=by
 cases r with
 |cons r1 r2 =>
  cases r2 with
  |cons r3 r4=>cases r4;exact⟨_,_,rfl,r1,r3⟩
theorem qig(hc:X.calm=true):y9 X (.builtin "min") (λ xs H Q=>∃ i j,xs=[.int i,.int j]/\Q (.int (if j<i then j else i)) H):=by
 intro pins s σ H xs us Q I r h;obtain⟨i,j,rfl,q⟩:=h;obtain⟨u,w',rfl,⟨t,rfl⟩,⟨t',rfl⟩⟩:=qdS r;refine min_two_ints (I.ok.hd hc) λ h' tk k=>⟨_,H,I.kept k,?_,q⟩
 by_cases hj:j<i
 ·rw[V4 hj,V4 hj];exact⟨_,rfl⟩
 ·rw[V5 hj,V5 hj];exact⟨_,rfl⟩
theorem qih:y9 X (.type "int") (λ xs H Q=>(∃ i,xs=[.int i]/\Q (.int i) H)∨∃ k,xs=[.bl k]/\Q (.int (if k then 1 else 0)) H):=by
 intro pins s σ H xs us Q I r h;rcases h with⟨i,rfl,q⟩|⟨k,rfl,q⟩
 ·obtain⟨u,rfl,t,rfl⟩:=yk r;exact call_int_int ⟨.int i,H,I,⟨_,rfl⟩,q⟩
 ·obtain⟨u,rfl,r1⟩:=yk r;cases r1
  exact call_int_bool ⟨.int (if k then 1 else 0),H,I.tok _,⟨_,rfl⟩,q⟩
end
structure ObjM(h:Heap)(x dx C:Addr)(mA:Str->Option Value):Prop where
 obj:h.get? x=some (W.instObj C dx)
 ns:h.Ns1 dx mA
 ne:dx≠x
theorem qii{h:Heap}(n:h.Ns1 dx mA):∃ od,h.get? dx=some od/\∀ name,W.lookIn name od=some (mA name):=by
 obtain⟨o,es,ep,ho,hd,hk,_,hm⟩:=n;refine⟨o,ho,λ name=>?_⟩;have e:=hm name;unfold nsFind findBy at e;rw[<- Array.find?_toList] at e;unfold W.lookIn;rw[hd];dsimp only;split
 ·rename_i y q;rw[q] at e;exact congrArg some e
 ·rename_i q;rw[q] at e;have a:es.toList.any (·.refKey)=false:=by
   rw[List.any_eq_false];intro y hy;obtain⟨z,t,C8⟩:=hk y (Array.mem_toList_iff.mp hy);simp[DictEntry.refKey,C8]
  have a':¬ es.toList.any (·.refKey)=true:=by rw[a];exact Zf
  rw[V5 a'];exact congrArg some e
theorem ObjM.look(I:ObjM h x dx C mA):∃ od,PySem.W.InstAt h x (W.instObj C dx) C (some od)/\∀ name,W.lookIn name od=some (mA name):=
 let ⟨od,ho,hl⟩:=qii I.ns
 ⟨od,⟨I.obj,rfl,rfl,ho⟩,hl⟩
section
variable {prog:Program}{w:World}{A:Around}{E:Value->Shared->Prop}{s:Shared}{K:W.Frag}{x dx C f:Addr}{mA:Str->Option Value}{name:Str}{v:Value}
theorem qln(X:K.In s.heap)(I:ObjM s.heap x dx C mA)(hg:W.plainGet K C name=true)(hh:W.hasDictIn K C=true)(ha:W.findIn K (.ref C) name=some none)(hv:mA name=some v)(aG:W.handedIn v=true)(h:Q v { s with toks:=s.toks+1 }):
  wpAny (model prog w) A (getAttr (.ref x) name expr) Q E s:=by
 obtain⟨od,J,hl⟩:=I.look;exact W.get_value X J (W.plainGet_of hg).1 (W.findObj_own hh ha rfl (by rw[hl,hv])) aG h
theorem qjj(X:K.In s.heap)(I:ObjM s.heap x dx C mA)(hg:W.plainGet K C name=true)(hf:W.findIn K (.ref C) name=some (some (.ref f)))(ht:W.isFn K (.ref f)=true)(hv:mA name=none)(h:Q (.ref f,[.ref x]) s):
  wpAny (model prog w) A (getMethod (.ref x) name pl) Q E s:=by
 obtain⟨od,J,hl⟩:=I.look;exact W.method_fn X J (W.plainGet_of hg).1 (W.plainGet_of hg).2 hf (Vn.mp ht) (by show(W.lookIn name od).map (·.isSome)=some false;rw[hl,hv];rfl) h
theorem qlo(X:K.In s.heap)(I:ObjM s.heap x dx C mA)(hs:W.findIn K (.ref C) "__setattr__"=some (some (.builtin "object.__setattr__")))(hp:W.plainOver K C=true)(ht:W.takerIn K C name=some none)(hh:W.hasDictIn K C=true)(hw:PySem.Within mA ns)(hsz:ns.length<=sizeLine)(h:∀ h',ObjM h' x dx C (λ y=>if y=name then some v else mA y)->Heap.SameBut dx s.heap h'->Q () { s with heap:=h',toks:=s.toks+2 }):
  wpAny (model prog w) A (setAttr (.ref x) name v) Q E s:=by
 obtain⟨od,J,hl⟩:=I.look;refine W.set_plain X J hs (W.osa_open (s:={ s with toks:=s.toks+1 }) (r:=none) X J hp ht λ b=>?_);obtain⟨cd,hc,bJ⟩:=W.any_some hh;have hx:s.heap.get? x=some ⟨.ref C,some dx,.plain,#[]⟩:=I.obj;refine Vl (Vm (Vl (Vl (wpAny_loadPart hx (Vl (PySem.W.Looks.here (s:={ s with toks:=s.toks+1 }) (W.looks_clsIn X hc) ?_))))));rw[bJ];refine Vm (a:=some dx) (Vl (Vm (Vl ?_)));refine wpAny_nsSet1 (s:={ s with toks:=s.toks+1 }) I.ns λ h' aU l7=>?_
 obtain⟨oD,esD,epD,hoD,hdD,hcD⟩:=aU.count (PySem.Within.cons name v hw);refine Vl (wpAny_lookBehind hoD (by rw[hdD];exact pastItsLine_dict (Qy hcD (by rw[Uj];omega))) ?_);exact Vm (h _ ⟨(l7.2 _ (Vz I.ne)).trans I.obj,aU,I.ne⟩ l7)
theorem qjk(X:K.In s.heap)(hm:W.makesIn K C=true)(hi:W.findIn K (.ref C) "__init__"=some (some (.ref f)))(hf:W.typeIn K (.ref f)=some (.type "function"))(h:codeAny (model prog w) (A.under (.builtin "type.__call__" ⟨.ref C::vs,kw⟩)) (.call (.ref f) ⟨.ref (s.heap.objs.size+1)::vs,kw⟩) (PySem.W.InitBack (s.heap.objs.size+1) R)
   { s with heap:=(s.heap.push W.emptyDict).push (W.instObj C s.heap.objs.size) }):
  codeAny (model prog w) A (.call (.ref C) ⟨vs,kw⟩) R s:=by
 obtain⟨hh,g,d,t,os⟩:=s;exact W.make_core (W.makes_of X hm) (W.looks_findIn X hi) (λ self=>W.bind_fn X self hf) (.inl rfl) h
theorem qij(X:K.In s.heap)(hm:W.makesIn K C=true)(hi:W.findIn K (.ref C) "__init__"=some (some (.builtin "object.__init__")))(hb:∀ self,PySem.W.Looks (model prog w) s.heap (bindSpecial (.builtin "object.__init__") self) (.builtin "object.__init__",[self]))(h:codeAny (model prog w) (A.under (.builtin "type.__call__" ⟨[.ref C],[]⟩)) (.call (.builtin "object.__init__") ⟨[.ref (s.heap.objs.size+1)],[]⟩) (PySem.W.InitBack (s.heap.objs.size+1) R)
   { s with heap:=(s.heap.push W.emptyDict).push (W.instObj C s.heap.objs.size) }):
  codeAny (model prog w) A (.call (.ref C) ⟨[],[]⟩) R s:=by
 obtain⟨hh,g,d,t,os⟩:=s;exact W.make_core (W.makes_of X hm) (W.looks_findIn X hi) hb (.inr ⟨rfl,rfl⟩) h
end
noncomputable def qap(f:Str)(v:V):List (Str×V)->List (Str×V)
 | []=>[(f,v)]
 |(g,x)::r=>if g=f then(g,v)::r else(g,x)::qap f v r
theorem qbT(f g:Str)(v:V):∀ fs:List (Str×V),(qap f v fs).lookup g=if g=f then some v else fs.lookup g
 | []=>by
  show List.lookup g [(f,v)]=_
  by_cases h:g=f
  ·have hb:(g == f)=true:=Vn.mpr h;simp only[List.lookup,hb,V4 h]
  ·have hb:(g == f)=false:=Zb.mpr h;simp only[List.lookup,hb,V5 h]
 |(k,x)::r=>by
  have ih:=qbT f g v r;rw[show qap f v ((k,x)::r)=(if k=f then(k,v)::r else(k,x)::qap f v r) from rfl];by_cases hk:k=f
  ·rw[V4 hk];by_cases h:g=k
   ·have hb:(g == k)=true:=Vn.mpr h;simp only[List.lookup,hb,V4 (h.trans hk)]
   ·have hb:(g == k)=false:=Zb.mpr h;simp only[List.lookup,hb,V5 (λ e:g=f=>h (e.trans hk.symm))]
  ·rw[V5 hk];by_cases h:g=k
   ·have hb:(g == k)=true:=Vn.mpr h;simp only[List.lookup,hb,V5 (λ e:g=f=>hk (h.symm.trans e))]
   ·have hb:(g == k)=false:=Zb.mpr h;simp only[List.lookup,hb];exact ih
theorem qbz(f:Str)(v:V):∀ fs:List (Str×V),f∈(qap f v fs).map (·.1)/\∀ g,g∈fs.map (·.1)->g∈(qap f v fs).map (·.1)
 | []=>⟨by simp[qap],λ g h=>by simp at h⟩
 |(k,x)::r=>by
  obtain⟨i1,i2⟩:=qbz f v r;rw[show qap f v ((k,x)::r)=(if k=f then(k,v)::r else(k,x)::qap f v r) from rfl];by_cases hk:k=f
  ·rw[V4 hk];subst hk;exact⟨by simp,λ g h=>by simpa using h⟩
  ·rw[V5 hk];refine⟨?_,λ g h=>?_⟩
   ·rw[Qj];exact Yl _ i1
   ·rw[Qj] at h ⊢;rcases Qi.mp h with e | e
    ·exact Qi.mpr (.inl e)
    ·exact Yl _ (i2 g e)
theorem qbU(f:Str)(v:V):∀ fs:List (Str×V),(qap f v fs).length<=fs.length+1
 | []=>by simp[qap]
 |(k,x)::r=>by
  have ih:=qbU f v r;rw[show qap f v ((k,x)::r)=(if k=f then(k,v)::r else(k,x)::qap f v r) from rfl];by_cases hk:k=f
  ·rw[V4 hk,Uj,Uj];omega
  ·rw[V5 hk,Uj,Uj];omega
theorem vM.some_of(r:vM (some v) o):∃ u,o=some u/\qS v u:=by
 cases o with
 |none=>exact(show False from r).elim
 |some u=>exact⟨u,rfl,r⟩
theorem vM.none_of(r:vM none o):o=none:=by
 cases o with
 |none=>rfl
 |some u=>exact(show False from r).elim
theorem qik(r:qS v u):W.handedIn u=true:=by
 cases v with
 |non=>cases(show u=Value.none from r);rfl
 |bl b=>cases(show u=Value.bool b from r);rfl
 |int i=>obtain⟨t,e⟩:=(show ∃ t,u=Value.int i t from r);cases e;rfl
 |str x=>obtain⟨t,e⟩:=(show ∃ t,u=Value.str x t from r);cases e;rfl
 |byt b=>obtain⟨t,e⟩:=(show ∃ t,u=Value.bytes b t from r);cases e;rfl
 |flt b=>obtain⟨t,e⟩:=(show ∃ t,u=Value.float b t from r);cases e;rfl
 |ref a=>cases(show u=Value.ref a from r);rfl
 |ty n=>cases(show u=Value.type n from r);rfl
section
variable {P:Program}{w:World}{H H':Hp}{h h':Heap}{a C dx:Addr}{fs W6:List (Str×V)}
theorem qcc(hok:HOk P w H h)(e:H a=some (.ins C dx fs)):∃ mA,ObjM h a dx C mA/\(∀ f,vM (fs.lookup f) (mA f))/\PySem.Within mA (fs.map (·.1))/\fs.length<=1000/\H dx=some (.own a):=by
 obtain⟨d,z,ne,ob,mA,n,r,q⟩:=(show zx P w H h a (.ins C dx fs) from hok a _ e);exact⟨mA,⟨ob,n,ne⟩,r,q,z,d⟩
end
structure Cls(K:W.Frag)(C:Addr):Prop where
 pg:W.plainGet K C Str.empty=true
 hd:W.hasDictIn K C=true
 po:W.plainOver K C=true
 sa:W.findIn K (.ref C) "__setattr__"=some (some (.builtin "object.__setattr__"))
theorem Cls.get{K:W.Frag}(c:Cls K C)(f:Str):W.plainGet K C f=true:=c.pg
def NoAttr(K:W.Frag)(C:Addr)(f:Str):Prop:=W.findIn K (.ref C) f=some none
theorem NoAttr.taker{K:W.Frag}(n:NoAttr K C f):W.takerIn K C f=some none:=by
 unfold W.takerIn;rw[show W.findIn K (.ref C) f=some none from n];rfl
structure Meth(K:W.Frag)(C:Addr)(m:Str)(f:Addr):Prop where
 at_:W.findIn K (.ref C) m=some (some (.ref f))
 fn:W.isFn K (.ref f)=true
 kp:W.keepIn K (.ref f)=true
section
variable {X:Cx}{pins:List (Addr×Obj)}{σ:St}{H:Hp}{s:Shared}{a C dx:Addr}{fs:List (Str×V)}{f:Str}{v:V}{A:Around}{E:Value->Shared->Prop}
theorem qgr(I:Inv X pins σ H s)(e:H a=some (.ins C dx fs))(c:Cls X.K C)(n:NoAttr X.K C f)(l:fs.lookup f=some v)(h:∀ u s',Inv X pins σ H s'->qS v u->Q u s'):wpAny (model X.prog X.w) A (getAttr (.ref a) f b) Q E s:=by
 obtain⟨mA,O,r,_,_,_⟩:=qcc I.hok e;obtain⟨u,hu,ru⟩:=vM.some_of (v:=v) (o:=mA f) (by rw[<- l];exact r f);exact qln I.kIn O (c.get f) c.hd n hu (qik ru) (h u _ (I.tok _) ru)
theorem qcB(I:Inv X pins σ H s)(e:H a=some (.ins C dx fs))(c:Cls X.K C)(k:Meth X.K C m g)(l:fs.lookup m=none)(h:Q (.ref g,[.ref a]) s):wpAny (model X.prog X.w) A (getMethod (.ref a) m pl) Q E s:=by
 obtain⟨mA,O,r,_,_,_⟩:=qcc I.hok e;have hn:mA m=none:=vM.none_of (by rw[<- l];exact r m);exact qjj I.kIn O (c.get m) k.at_ k.fn hn h
theorem qgs(I:Inv X pins σ H s)(e:H a=some (.ins C dx fs))(c:Cls X.K C)(n:NoAttr X.K C f)(hl:fs.length<1000)(ry:qS y u)(h:∀ s',Inv X pins σ (upd H a (.ins C dx (qap f y fs))) s'->Q () s'):wpAny (model X.prog X.w) A (setAttr (.ref a) f u) Q E s:=by
 obtain⟨mA,O,r,wi,_,ho⟩:=qcc I.hok e;have hz:(fs.map (·.1)).length<=sizeLine:=by rw[U3,Vh];omega
 refine qlo I.kIn O c.sa c.po n.taker c.hd wi hz λ h' O' sb=>h _ ?_
 have hd:∃ o,h'.get? dx=some o:=let ⟨o,_,_,e',_⟩:=O'.ns;⟨o,e'⟩;refine I.write (x:=a) (e:=dx) (by rw[e];exact True.intro) (.inr ho) (λ b q hb z=>(sb.2 b hb).trans z) hd ?_;refine⟨by rw[qv O.ne];exact ho,?_,O.ne,O'.obj,_,O'.ns,λ g=>?_,λ g hg=>?_⟩
 ·have:=qbU f y fs;omega
 ·show vM ((qap f y fs).lookup g) (if g=f then some u else mA g)
  rw[qbT];by_cases q:g=f
  ·rw[V4 q,V4 q];exact ry
  ·rw[V5 q,V5 q];exact r g
 ·by_cases q:g=f
  ·rw[q];exact(qbz f y fs).1
  ·refine(qbz f y fs).2 g (wi g λ z=>hg ?_);show(if g=f then some u else mA g)=none
   rw[V5 q];exact z
theorem Inv.made(I:Inv X pins σ H s):Inv X pins σ (upd (upd H s.heap.objs.size (.own (s.heap.objs.size+1))) (s.heap.objs.size+1) (.ins C s.heap.objs.size []))
  { s with heap:=(s.heap.push W.emptyDict).push (W.instObj C s.heap.objs.size) }:=by
 have e1:(s.heap.push W.emptyDict).get? s.heap.objs.size=some W.emptyDict:=Yy s.heap rfl;have e2:((s.heap.push W.emptyDict).push (W.instObj C s.heap.objs.size)).get? (s.heap.objs.size+1)=some (W.instObj C s.heap.objs.size):=by
  have:=Yy (s.heap.push W.emptyDict) (o:=W.instObj C s.heap.objs.size) rfl
  rwa [Ju] at this
 have e3:(s.heap.push W.emptyDict).Ns s.heap.objs.size (λ _=>none):=⟨W.emptyDict,#[],_,e1,rfl,(λ e he=>absurd he (by simp)),λ _=>rfl⟩;have I1:=I.laid (a:=s.heap.objs.size) (o:=.own (s.heap.objs.size+1)) (h':=s.heap.push W.emptyDict) (t':=s.toks) (λ b u q=>XG _ q) (Vd _) ⟨_,e1⟩;refine I1.laid (a:=s.heap.objs.size+1) (o:=.ins C s.heap.objs.size []) (t':=s.toks) (λ b u q=>XG _ q) (Nat.le_of_eq (Ju _ _)) ?_;have ne:s.heap.objs.size≠s.heap.objs.size+1:=Qx (Uk _);refine⟨by rw[qv ne,qd],Ve _,ne,e2,λ _=>none,(Heap.Ns1.of_empty e3).at λ o q=>XG _ q,λ _=>True.intro,λ y hy=>absurd rfl hy⟩
theorem qlp(hb:attributeBase e f env (eval e env)=eval e env)(h:wpAny (model prog w) A (eval e env) (λ o s₁=>wpAny (model prog w) A (getAttr o f true) Q E s₁) E s):wpAny (model prog w) A (eval (.Attribute e f pos) env) Q E s:=
 Attribute_any_ h (by rw[arm_eval_Attribute,hb])
end
def qnV(K:W.Frag)(ta:TE)(f:Str):TE:=λ σ H Q=>ta σ H λ x H1=>∃ a C dx fs v,x=.ref a/\H1 a=some (.ins C dx fs)/\Cls K C/\NoAttr K C f/\fs.lookup f=some v/\Q v H1
def qoZ(K:W.Frag)(ta tv:TE)(f:Str):TS:=λ D σ H=>tv σ H λ y H1=>ta σ H1 λ x H2=>∃ a C dx fs,x=.ref a/\H2 a=some (.ins C dx fs)/\Cls K C/\NoAttr K C f/\fs.length<1000 /\
 D.nx σ (upd H2 a (.ins C dx (qap f y fs)))
section
variable {X:Cx}{o e value:Expr}{f:Str}{pos p7 p4:Pos}{ta tv:TE}
theorem zA(he:PE X e ta)(hb:attributeBase e f X.env (eval e X.env)=eval e X.env):PE X (.Attribute e f pos) (qnV X.K ta f):=by
 intro pins s σ H Q I h;refine qlp hb (thn (he pins s σ H _ I h) λ u s1 ⟨x,H1,I1,rx,a,C,dx,fs,v,ex,ea,c,n,l,q⟩=>?_);subst ex;obtain rfl:u=Value.ref a:=rx;exact qgr I1 ea c n l λ u' s2 I2 ru=>⟨v,H1,I2,ru,q⟩
theorem jZ(ha:PE X o ta)(hv:PE X value tv)(hs:swapsWith value (some (.Attribute o f p7)) pos.line X.env=pure false):PS X (.Assign [.Attribute o f p7] value pos) (qoZ X.K ta tv f):=by
 intro pins s σ H D I h;refine plainObj_wpAny_Assign_Attribute (thn (hv pins s σ H _ I h) λ u s1 ⟨y,H1,I1,ry,q⟩=>thn (ha pins s1 σ H1 _ I1 q) λ ov s2 ⟨x,H2,I2,rx,a,C,dx,fs,ex,ea,c,n,l,q2⟩=>?_) hs;subst ex;obtain rfl:ov=Value.ref a:=rx;exact qgs I2 ea c n l ry λ s3 I3=>⟨σ,_,I3,q2⟩
end
section
variable {X:Cx}{pins:List (Addr×Obj)}{σ:St}{H:Hp}{s:Shared}{A:Around}{E:Value->Shared->Prop}{Q:Value->Shared->Prop}{c:Value}{b:Bool}
inductive TyOf(K:W.Frag)(H:Hp):V->Value->Prop where
 | non:TyOf K H .non (.type "NoneType")
 | bl (x:Bool):TyOf K H (.bl x) (.type "bool")
 | int (i:Int):TyOf K H (.int i) (.type "int")
 | str (x:Str):TyOf K H (.str x) (.type "str")
 | flt (x:UInt64):TyOf K H (.flt x) (.type "float")
 | lst {a:Addr} {xs:List V} (e:H a=some (.lst xs)):TyOf K H (.ref a) (.type "list")
 | frz {a:Addr} {o:Obj} {xs:List V} (e:H a=some (.frz o (.lst xs))):TyOf K H (.ref a) (.type "list")
 | tup {a:Addr} {xs:List V} (e:H a=some (.tup xs)):TyOf K H (.ref a) (.type "tuple")
 | dK {a:Addr} {kvs:List (Key×V)} (e:H a=some (.dK kvs)):TyOf K H (.ref a) (.type "dict")
 | dT {a:Addr} {kvs:List (List Key×V)} (e:H a=some (.dT kvs)):TyOf K H (.ref a) (.type "dict")
 | ins {a C dx:Addr} {fs:List (Str×V)} (e:H a=some (.ins C dx fs)) (cl:Cls K C) (ha:W.findIn K (.ref C) "__class__"=some (some (.builtin "object.__class__")))
   (hn:W.specialIn K (.builtin "object.__class__") "__get__"=some (some (.builtin "getset_descriptor.__get__"))) (htk:W.takesIn K (.builtin "object.__class__")=some true)
   (hm:W.mroIn K C (.type "object")=some true):TyOf K H (.ref a) (.ref C)
theorem qil(I:Inv X pins σ H s)(rx:qS x u)(ty:TyOf X.K H x t)(e:W.kitOne X.K t c=some b)(h:∀ tk,Q (.bool b) { s with toks:=tk }):
  wpAny (model X.prog X.w) A (call (.builtin "isinstance") [u,c]) Q E s:=by
 cases ty with
 |non=>cases(show u=Value.none from rx);exact Vu W.kitx_none I.kIn True.intro e (λ z=>nomatch z) h
 |bl y=>cases(show u=Value.bool y from rx);exact Vu W.kitx_bool I.kIn True.intro e (λ z=>nomatch z) h
 |int i=>obtain⟨t,q⟩:=(show ∃ t,u=Value.int i t from rx);cases q;exact Vu W.kitx_int I.kIn True.intro e (λ z=>nomatch z) h
 |str y=>obtain⟨t,q⟩:=(show ∃ t,u=Value.str y t from rx);cases q;exact Vu W.kitx_str I.kIn True.intro e (λ z=>nomatch z) h
 |flt y=>obtain⟨t,q⟩:=(show ∃ t,u=Value.float y t from rx);cases q;exact Vu W.kitx_float I.kIn True.intro e (λ z=>nomatch z) h
 | @lst a xs ea =>
  cases(show u=Value.ref a from rx)
  obtain⟨_,_,n,_,h1⟩:=(show zx X.prog X.w H s.heap a (.lst xs) from I.hok a _ ea);exact Vu W.kitx_list I.kIn ⟨_,h1,rfl⟩ e (λ z=>nomatch z) h
 | @frz a ob xs ea =>
  cases(show u=Value.ref a from rx)
  obtain⟨_,_,_,n,_,h1⟩:=(show zx X.prog X.w H s.heap a (.frz ob (.lst xs)) from I.hok a _ ea);exact Vu W.kitx_list I.kIn ⟨_,h1,rfl⟩ e (λ z=>nomatch z) h
 | @tup a xs ea =>
  cases(show u=Value.ref a from rx)
  obtain⟨_,_,_,p⟩:=(show zx X.prog X.w H s.heap a (.tup xs) from I.hok a _ ea);obtain⟨o,h1,h2,_⟩:=p;exact Vu W.kitx_tuple I.kIn ⟨o,h1,h2⟩ e (λ z=>nomatch z) h
 | @dK a kvs ea =>
  cases(show u=Value.ref a from rx)
  obtain⟨_,_,vs,_,p⟩:=(show zx X.prog X.w H s.heap a (.dK kvs) from I.hok a _ ea);obtain⟨o,es,ep,h1,h2,_⟩:=p;exact Vu W.kitx_dict I.kIn ⟨o,h1,h2.1⟩ e (λ z=>nomatch z) h
 | @dT a kvs ea =>
  cases(show u=Value.ref a from rx)
  obtain⟨_,_,xs,_,o,es,ep,h1,h2,_⟩:=(show zx X.prog X.w H s.heap a (.dT kvs) from I.hok a _ ea);exact Vu W.kitx_dict I.kIn ⟨o,h1,h2.1⟩ e (λ z=>nomatch z) h
 | @ins a C dx fs ea cl ha hn htk hm =>
  cases(show u=Value.ref a from rx)
  obtain⟨mA,O,_⟩:=qcc I.hok ea;obtain⟨od,J,_⟩:=O.look;exact Vu (W.kitx_own (cl.get _) cl.hd ha hn htk hm) I.kIn J e (λ z=>nomatch z) h
end
structure Room(k:Nat)(A:Around):Prop where
 hd:A.handled=none
 dp:A.depth+3*k+5<recursionLimit
 un:A.units+16*k+200<cLine
theorem Room.mono(r:Room k A)(h:j<=k):Room j A:=⟨r.hd,by have:=r.dp;omega,by have:=r.un;omega⟩
theorem Room.deeper(r:Room (k+1) A)(env:Env):Room k (A.deeper env):=
 ⟨r.hd,by have:=r.dp;show A.depth+1+3*k+5<_;omega,by have:=r.un;show A.units+3+16*k+200<_;omega⟩
theorem qgt{A:Around}:(A.under (.builtin "type.__call__" ⟨.ref C::us,kw⟩)).depth=A.depth+1:=by
 first|rfl|simp[Around.under,Code.weight,Code.isCreation,Code.isGuard,Code.isCaller,Code.frames,Code.isFrame,guardIds]
theorem qgu{A:Around}:(A.under (.builtin "type.__call__" ⟨.ref C::us,kw⟩)).units=A.units+1:=by
 first|rfl|simp[Around.under,Code.cUnits,Code.frames,Code.isFrame]
theorem Room.make(r:Room (k+1) A)(C:Addr)(us:List Value)(kw:List (Str×Value)):Room k (A.under (.builtin "type.__call__" ⟨.ref C::us,kw⟩)):=
 ⟨r.hd,by have:=r.dp;rw[qgt];omega,by have:=r.un;rw[qgu];omega⟩
theorem Room.depth(r:Room k A):A.depth<recursionLimit:=by have:=r.dp;omega
theorem Room.units(r:Room k A):A.units+64<cLine:=by have:=r.un;omega
def yT:TA:=λ _ H Q=>Q [] H
def vJ(ta:TE)(tr:TA):TA:=λ σ H Q=>ta σ H λ x H1=>tr σ H1 λ xs H2=>Q (x::xs) H2
section
variable {X:Cx}{e:Expr}{es:List Expr}{te:TE}{t:TA}{pos:Pos}
theorem qb:PA X [] yT:=λ _ _ _ _ H Q I h=>Calls.spliced_nil ⟨[],H,I,.nil,h⟩
theorem qa(ha:PE X e te)(hr:PA X es t)(hs:starEach (e::es) X.env=(false,eval e X.env)::starEach es X.env:=by rfl):PA X (e::es) (vJ te t):=by
 intro pos pins s σ H Q I h;rw[hs];show wpAny _ _ (spliced ((false,eval e X.env)::backTo pos (starEach es X.env))) _ _ s
 refine Zg (thn (ha pins s σ H _ I h) λ u s1 ⟨x,H1,I1,r1,q1⟩=>?_);exact thn (hr pos pins s1 σ H1 _ I1 q1) λ us s2 ⟨xs,H2,I2,r2,q2⟩=>⟨x::xs,H2,I2,.cons r1 r2,q2⟩
def qnW(t:TA):TE:=λ σ H Q=>t σ H λ xs H1=>xs.length<=sizeLine/\∀ p,H1 p=none->Q (.ref p) (upd H1 p (.tup xs))
def qo0(t:TA):TE:=λ σ H Q=>t σ H λ xs H1=>xs.length<=sizeLine/\∀ p,H1 p=none->Q (.ref p) (upd H1 p (.lst xs))
theorem zF{x1}(h:PA X es t):PE X (.Tuple es x1 pos) (qnW t):=by
 intro pins s σ H Q I hq;refine wpAny_Tuple_spliced (thn (h pos pins s σ H _ I hq) λ us s1 ⟨xs,H1,I1,r,z,q⟩=>⟨by rw[<- r.length];exact z,?_⟩);have hf:H1 s1.heap.objs.size=none:=I1.hok.fresh (Vd _);refine⟨.ref s1.heap.objs.size,upd H1 s1.heap.objs.size (.tup xs),I1.laid (t':=s1.toks) (λ b u e=>XG _ e) (Vd _) ?_,rfl,q _ hf⟩;exact⟨z,us,r,⟨_,Yy _ rfl,rfl,_,rfl⟩⟩
theorem zO(h:PA X es t):PE X (.List es pos) (qo0 t):=by
 intro pins s σ H Q I hq;refine wpAny_List_spliced (thn (h pos pins s σ H _ I hq) λ us s1 ⟨xs,H1,I1,r,z,q⟩=>⟨by rw[<- r.length];exact z,?_⟩);have hf:H1 s1.heap.objs.size=none:=I1.hok.fresh (Vd _);refine⟨.ref s1.heap.objs.size,upd H1 s1.heap.objs.size (.lst xs),I1.laid (t':=s1.toks) (λ b u e=>XG _ e) (Vd _) ?_,rfl,q _ hf⟩;exact⟨z,us,0,r,Yy _ rfl⟩
end
abbrev Sp:=List V->Hp->VK->XK->Prop
abbrev CXT:=List Env->Hp->Shared->XK->Value->Shared->Prop
structure Env0(P:Program)(w:World)(K:W.Frag)(mg:Str->Option Value)(base:Heap)(A:Around)(outer:List Env)(s:Shared)(H:Hp):Prop where
 frames:A.frames=some outer
 mod:Mod K mg base
 bs:∀ b o,base.get? b=some o->s.heap.get? b=some o/\H b=none
 bsz:base.objs.size<=s.heap.objs.size
 funs:s.heap.FunFrames base outer
 frf:∀ b∈frs outer,H b=none
 hok:HOk P w H s.heap
 bare:AllBare s.gens
def CE(outer:List Env)(P:Program)(w:World)(H:Hp)(s:Shared)(Q:VK)(u:Value)(s':Shared):Prop:=
 ∃ v H',s'.os=s.os/\AllBare s'.gens/\Un (frs outer) [] H H' s.heap s'.heap/\HOk P w H' s'.heap/\qS v u/\Q v H'
def CR(CX:CXT)(outer:List Env)(P:Program)(w:World)(H:Hp)(s:Shared)(Q:VK)(E:XK)(r:Result)(s':Shared):Prop:=
 match r with
 |.ok (.ret u)=>CE outer P w H s Q u s'
 |.ok _=>False
 |.error e=>CX outer H s E e s'
structure FnOk(P:Program)(w:World)(K:W.Frag)(mg:Str->Option Value)(base:Heap)(CX:CXT)(k:Nat)(f:Addr)(fd:FuncData)(ps:List Str)(sp:Sp):Prop where
 len:∀ vs H Q E,sp vs H Q E->vs.length=ps.length
 run:∀(A:Around)(outer:List Env)(s:Shared)(H:Hp)(args:Args)(us:List Value)(vs:List V)(Q:VK)(E:XK),Room k A->Env0 P w K mg base A outer s H->BindsTo s fd args (ps.zip us)->qL vs us->sp vs H Q E ->
  codeAny (model P w) A (.call (.ref f) args) (CR CX outer P w H s Q E) s
theorem Env0.make{K:W.Frag}(e:Env0 P w K mg base A outer s H)(C:Addr)(us:List Value)(kw:List (Str×Value)):
  Env0 P w K mg base (A.under (.builtin "type.__call__" ⟨.ref C::us,kw⟩)) outer s H:=⟨by first | exact e.frames | (simpa [Around.under,Code.envs,Code.isFrame,pushEnvs] using e.frames),e.mod,e.bs,e.bsz,e.funs,e.frf,e.hok,e.bare⟩
section
variable {X:Cx}{pins:List (Addr×Obj)}{σ:St}{H:Hp}{s s':Shared}
theorem Inv.env0(I:Inv X pins σ H s):Env0 X.prog X.w X.K X.mg X.base X.A X.stack s H:=
 ⟨I.ok.frames,I.ok.mod,I.bs,Qy I.ok.bsz I.sz,I.stack,I.stkFree,I.hok,I.bare⟩
theorem Inv.after(I:Inv X pins σ H s)(h:CE X.stack X.prog X.w H s Q u s'):EP X pins σ Q u s':=by
 obtain⟨v,H',os,bare,un,hok,r,q⟩:=h;obtain⟨hh,g,d,t,pJ⟩:=s';obtain rfl:pJ=s.os:=os;exact⟨v,H',I.call (h':=hh) (g':=g) (d':=d) (t':=t) (ch:=[]) un hok bare (λ b z=>absurd z (by simp)),r,q⟩
end
def qbV(sp:Sp)(K5:List V)(E:XK)(t:TA):TE:=λ σ H Q=>t σ H λ vs H1=>sp (vs++K5) H1 Q E
def yy(C:Addr)(m:Str)(sp:Sp)(K5:List V)(E:XK)(ta:TE)(t:TA):TE:=λ σ H Q=>ta σ H λ x H1=>∃ a dx fs,x=.ref a/\H1 a=some (.ins C dx fs)/\fs.lookup m=none /\
 t σ H1 λ vs H2=>sp (x::(vs++K5)) H2 Q E
def qnX(C:Addr)(sp:Sp)(K5:List V)(E:XK)(t:TA):TE:=λ σ H Q=>t σ H λ vs H1=>∀ x dx,H1 x=none->H1 dx=none->dx≠x ->
 sp (.ref x::(vs++K5)) (upd (upd H1 dx (.own x)) x (.ins C dx [])) (λ v H2=>v=.non/\Q (.ref x) H2) E
def qh(K:W.Frag)(fd:FuncData)(ps:List Str)(ds:List Value):Prop:=
 ∀(s:Shared)(us:List Value),K.In s.heap->(us++ds).length=ps.length->BindsTo s fd ⟨us,[]⟩ (ps.zip (us++ds))
theorem qh.all{K:W.Frag}(h:∀ us:List Value,us.length=ps.length->bindArgs fd ⟨us,[]⟩=pure (ps.zip us)):qh K fd ps []:=λ s us _ hl=>by
 rw[U4] at hl ⊢;exact .of_eq (h us hl)
def qay(CX:CXT)(X:Cx)(E:XK):Prop:=∀(pins:List (Addr×Obj))(σ:St)(H:Hp)(s:Shared)(e:Value)(s':Shared),Inv X pins σ H s->CX X.stack H s E e s'->X.xe e s'
section
variable {X:Cx}{CX:CXT}{k:Nat}{f C:Addr}{fd:FuncData}{ps:List Str}{sp:Sp}{K5:List V}{ds:List Value}{E:XK}{x m:Str}{p pos apos:Pos}{e o:Expr}{es:List Expr}{ta:TE}{t:TA}
theorem qgv{σ:St}(F:FnOk X.prog X.w X.K X.mg X.base CX k f fd ps sp)(hr:Room k X.A)(hb:qh X.K fd ps ds)(hd:qL K5 ds)(hx:qay CX X E)(I:Inv X pins σ H s)(r:qL vs us)(h:sp (vs++K5) H Q E):wpAny (model X.prog X.w) X.A (call (.ref f) us) (EP X pins σ Q) X.xe s:=by
 have r2:qL (vs++K5) (us++ds):=r.append hd;have hl:(us++ds).length=ps.length:=by rw[<- r2.length];exact F.len _ _ _ _ h
 refine wpAny_call (Va (F.run X.A X.stack s H ⟨us,[]⟩ (us++ds) (vs++K5) Q E hr I.env0 (hb s us I.kIn hl) r2 h) λ r s' hq=>?_);cases r with
 |error e=>exact hx pins σ H s e s' I hq
 |ok fl =>
  cases fl with
  |ret u=>exact I.after hq
  |next=>exact False.elim hq
  |brk=>exact False.elim hq
  |cont=>exact False.elim hq
theorem qZ(F:FnOk X.prog X.w X.K X.mg X.base CX k f fd ps sp)(hr:Room k X.A)(hg:Gl X x)(hm:X.mg x=some (.ref f))(hk:W.keepIn X.K (.ref f)=true)(hb:qh X.K fd ps ds)(hd:qL K5 ds)(hx:qay CX X E)(ha:PA X (e::es) t)(aI:(x == ("__debug__":Str))=false:=by decide)(he:starEach (e::es) X.env=(false,eval e X.env)::starEach es X.env:=by rfl)(p8:(backTo pos (starEach es X.env)).any (·.1)=false:=by rfl):
  PE X (.Call (.Name x p) (e::es) [] pos) (qbV sp K5 E t):=by
 intro pins s σ H Q I h;refine Zp (qca I hg hm ?_ aI);refine W.callWith_K (h₀:=X.base) I.ok.mod.kin hk (thn (ha pos pins s σ H _ I h) λ us s1 ⟨vs,H1,I1,r,q⟩=>⟨I1.kIn,?_⟩) he p8;exact qgv F hr hb hd hx I1 r q
theorem qlq{pl:Sem Bool}(he:PE X o ta)(c:Cls X.K C)(hm:Meth X.K C m f)(F:FnOk X.prog X.w X.K X.mg X.base CX k f fd ps sp)(hr:Room k X.A)(hb:qh X.K fd ps ds)(hd:qL K5 ds)(hx:qay CX X E)(ha:PA X (e::es) t)(B9:starEach (e::es) X.env=(false,eval e X.env)::starEach es X.env:=by rfl)(p8:(backTo pos (starEach es X.env)).any (·.1)=false:=by rfl)(ht:eval (.Call (.Attribute o m apos) (e::es) [] pos) X.env=(do
   let ov <- eval o X.env
   standAt apos.atName
   let (f,first) <- holding [ov] (getMethod ov m pl)
   callWith pos f first (backTo pos (starEach (e::es) X.env)) (backToKw pos (keywordEach [] X.env))):=by rfl):
  PE X (.Call (.Attribute o m apos) (e::es) [] pos) (yy C m sp K5 E ta t):=by
 intro pins s σ H Q I h;refine W.methodCall_KW (pl:=pl) (thn (he pins s σ H _ I h) λ u s1 ⟨x,H1,I1,rx,a,dx,fs,ex,ea,l,q⟩=>?_) ht;subst ex;obtain rfl:u=Value.ref a:=rx;refine qcB I1 ea c hm l ?_;refine W.callWith_K (first:=[.ref a]) (h₀:=X.base) I.ok.mod.kin hm.kp (thn (ha pos pins s1 σ H1 _ I1 q) λ us s2 ⟨vs,H2,I2,r,q2⟩=>⟨I2.kIn,?_⟩) B9 p8;exact qgv (us:=.ref a::us) (vs:=.ref a::vs) F hr hb hd hx I2 (.cons rfl r) q2
theorem qI{pl:Sem Bool}(he:PE X o ta)(c:Cls X.K C)(hm:Meth X.K C m f)(F:FnOk X.prog X.w X.K X.mg X.base CX k f fd ps sp)(hr:Room k X.A)(hb:qh X.K fd ps ds)(hd:qL K5 ds)(hx:qay CX X E)(ht:eval (.Call (.Attribute o m apos) [] [] pos) X.env=(do
   let ov <- eval o X.env
   standAt apos.atName
   let (f,first) <- holding [ov] (getMethod ov m pl)
   callWith pos f first (backTo pos (starEach [] X.env)) (backToKw pos (keywordEach [] X.env))):=by rfl):
  PE X (.Call (.Attribute o m apos) [] [] pos) (yy C m sp K5 E ta yT):=by
 intro pins s σ H Q I h;refine W.methodCall_KW (pl:=pl) (thn (he pins s σ H _ I h) λ u s1 ⟨x,H1,I1,rx,a,dx,fs,ex,ea,l,q⟩=>?_) ht;subst ex;obtain rfl:u=Value.ref a:=rx;refine qcB I1 ea c hm l ?_;exact W.callWith_K0 (first:=[.ref a]) I1.kIn hm.kp (qgv (us:=[.ref a]) (vs:=[.ref a]) F hr hb hd hx I1 (.cons rfl .nil) q)
structure Mk(K:W.Frag)(C f:Addr):Prop where
 makes:W.makesIn K C=true
 init:W.findIn K (.ref C) "__init__"=some (some (.ref f))
 fn:W.isFn K (.ref f)=true
 kp:W.keepIn K (.ref C)=true
theorem qjl{σ:St}(M:Mk X.K C f)(F:FnOk X.prog X.w X.K X.mg X.base CX k f fd ps sp)(hr:Room (k+1) X.A)(hb:qh X.K fd ps ds)(hd:qL K5 ds)(hx:qay CX X E)(I:Inv X pins σ H s)(r:qL vs us)(h:∀ x dx,H x=none->H dx=none->dx≠x->sp (.ref x::(vs++K5)) (upd (upd H dx (.own x)) x (.ins C dx [])) (λ v H2=>v=.non/\Q (.ref x) H2) E):
  wpAny (model X.prog X.w) X.A (call (.ref C) us) (EP X pins σ Q) X.xe s:=by
 have hq:=h (s.heap.objs.size+1) s.heap.objs.size (I.hok.fresh (Vg _)) (I.hok.fresh (Vd _)) (Qx (Uk _));have I2:=Inv.made (C:=C) I;have r2:qL (V.ref (s.heap.objs.size+1)::(vs++K5)) (Value.ref (s.heap.objs.size+1)::(us++ds)):=.cons rfl (r.append hd);have hl:(Value.ref (s.heap.objs.size+1)::us++ds).length=ps.length:=by
  have e:=r2.length;rw[F.len _ _ _ _ hq] at e;exact e.symm
 refine wpAny_call (qjk (f:=f) I.kIn M.makes M.init (Vn.mp M.fn) (Va (F.run _ X.stack _ _ ⟨Value.ref (s.heap.objs.size+1)::us,[]⟩ (Value.ref (s.heap.objs.size+1)::(us++ds)) _ _ E (hr.make C us [])
  (I2.env0.make C us []) (hb _ (Value.ref (s.heap.objs.size+1)::us) I2.kIn hl) r2 hq) λ r s' rV=>?_))
 cases r with
 |error e=>exact hx pins σ _ _ e s' I2 rV
 |ok fl =>
  cases fl with
  |ret u =>
   obtain⟨v,H',I3,rv,ev,q3⟩:=I2.after rV;subst ev;exact⟨rv,⟨V.ref (s.heap.objs.size+1),H',I3,rfl,q3⟩⟩
  |next=>exact False.elim rV
  |brk=>exact False.elim rV
  |cont=>exact False.elim rV
theorem qaa(M:Mk X.K C f)(F:FnOk X.prog X.w X.K X.mg X.base CX k f fd ps sp)(hr:Room (k+1) X.A)(hg:Gl X x)(hm:X.mg x=some (.ref C))(hb:qh X.K fd ps ds)(hd:qL K5 ds)(hx:qay CX X E)(ha:PA X (e::es) t)(aI:(x == ("__debug__":Str))=false:=by decide)(he:starEach (e::es) X.env=(false,eval e X.env)::starEach es X.env:=by rfl)(p8:(backTo pos (starEach es X.env)).any (·.1)=false:=by rfl):
  PE X (.Call (.Name x p) (e::es) [] pos) (qnX C sp K5 E t):=by
 intro pins s σ H Q I h;refine Zp (qca I hg hm ?_ aI);refine W.callWith_K (h₀:=X.base) I.ok.mod.kin M.kp (thn (ha pos pins s σ H _ I h) λ us s1 ⟨vs,H1,I1,r,q⟩=>⟨I1.kIn,?_⟩) he p8;exact qjl M F hr hb hd hx I1 r q
end
structure FnScope(N P:List Str)(sc:Scope):Prop where
 kind:sc.kind=.function
 co:sc.isCoroutine=false
 gen:sc.isGenerator=false
 nd:N.Nodup
 pre:N.take P.length=P
 par:∀ x∈P,sc.names.lookup x=some .local∨sc.names.lookup x=some .cell
 nofree:∀ y∈sc.names,y.2≠.free
theorem scF{N P:List Str}{sc:Scope}(a:sc.kind=.function:=by rfl)(b:sc.isCoroutine=false:=by rfl)(c:sc.isGenerator=false:=by rfl)(d:N.take P.length=P:=by rfl)(h:N.Nodup ∧ (∀ x∈P,sc.names.lookup x=some .local∨sc.names.lookup x=some .cell) ∧ ∀ y∈sc.names,y.2≠.free:=by decide +kernel):FnScope N P sc:=⟨a,b,c,h.1,d,h.2.1,h.2.2⟩
theorem qdT{kindOf:Str->Option NameKind}:∀{binds:List (Str×Value)}{m:Str->Option Value},(∀ v,(x,v)∉binds)->bindL kindOf binds m x=m x
 | [],_,_=>rfl
 |(n,v)::r,m,h=>by
  unfold bindL;rw[qdT λ w hw=>h w (Yl _ hw)];split
  ·have:x≠n:=by rintro rfl;exact h v Ze
   simp[this]
  ·rfl
theorem qdU{kindOf:Str->Option NameKind}:∀{binds:List (Str×Value)}{m:Str->Option Value},(∀ v,(x,v)∉binds)->bindC kindOf binds m x=m x
 | [],_,_=>rfl
 |(n,v)::r,m,h=>by
  unfold bindC;rw[qdU λ w hw=>h w (Yl _ hw)];split
  ·rfl
  ·have:x≠n:=by rintro rfl;exact h v Ze
   simp[this]
theorem qdV{kindOf:Str->Option NameKind}:∀{P:List Str}{vs:List Value}{i:Nat}{m:Str->Option Value},P.Nodup->P[i]?=some x->vs[i]?=some v->kindOf x=some .local ->
  bindL kindOf (P.zip vs) m x=some v
 | [],_,_,_,_,h,_,_=>by simp at h
 |_::_,[],_,_,_,_,h,_=>by simp at h
 |p::P,w::vs,0,m,nd,h1,h2,hk=>by
  simp at h1 h2;subst h1;subst h2;show bindL kindOf ((p,w)::P.zip vs) m p=_
  unfold bindL;rw[qdT λ v hv=>(U5.mp nd).1 (U6 hv).1,V4 hk];simp
 |p::P,w::vs,i+1,m,nd,h1,h2,hk=>by
  show bindL kindOf ((p,w)::P.zip vs) m x=_
  unfold bindL;exact qdV (i:=i) (U5.mp nd).2 (by simpa using h1) (by simpa using h2) hk
theorem qdW{kindOf:Str->Option NameKind}:∀{P:List Str}{vs:List Value}{i:Nat}{m:Str->Option Value},P.Nodup->P[i]?=some x->vs[i]?=some v->kindOf x≠some .local ->
  bindC kindOf (P.zip vs) m x=some v
 | [],_,_,_,_,h,_,_=>by simp at h
 |_::_,[],_,_,_,_,h,_=>by simp at h
 |p::P,w::vs,0,m,nd,h1,h2,hk=>by
  simp at h1 h2;subst h1;subst h2;show bindC kindOf ((p,w)::P.zip vs) m p=_
  unfold bindC;rw[qdU λ v hv=>(U5.mp nd).1 (U6 hv).1,V5 hk];simp
 |p::P,w::vs,i+1,m,nd,h1,h2,hk=>by
  show bindC kindOf ((p,w)::P.zip vs) m x=_
  unfold bindC;exact qdW (i:=i) (U5.mp nd).2 (by simpa using h1) (by simpa using h2) hk
noncomputable def qaY(N:List Str)(vs:List V):St:=vs.map some++List.replicate (N.length-vs.length) none
noncomputable def qgw(CX:CXT)(P:Program)(w:World)(K:W.Frag)(mg:Str->Option Value)(base:Heap)(N:List Str)(qual:Str)(scope:Scope)(f:Addr)(cd:Value)(A:Around)(outer:List Env)(s:Shared)(H:Hp)(E:XK):Cx where
 prog:=P
 w:=w
 K:=K
 mg:=mg
 base:=base
 A:=A.deeper (envOfC qual scope s.heap.objs.size f cd)
 N:=N
 s₀:=s
 H₀:=H
 env:=envOfC qual scope s.heap.objs.size f cd
 outer:=outer
 stack:=envOfC qual scope s.heap.objs.size f cd::outer
 ex:=[]
 calm:=true
 fn:=λ _=>true
 pn:=[]
 xe:=λ e s'=>wpAny (model P w) (A.deeper (envOfC qual scope s.heap.objs.size f cd)) (leaving (envOfC qual scope s.heap.objs.size f cd) e) (λ _ L8=>CX outer H s E e L8) (λ e' L8=>CX outer H s E e' L8) s'
theorem qfm{sc:Scope}(h:sc.names.lookup x=some .cell):∃ c,(cellsFrom n sc.names []).lookup x=some c:=by
 have q:=W.cellsFrom_some sc.names n [] (.inl h);exact Xv.mp q
theorem qim{K:W.Frag}(S:FnScope N ps scope)(hd:A.handled=none)(e0:Env0 P w K mg base A outer s H)(hl:vs.length=ps.length)(r:qL vs us)(x:InCallC s s.heap.objs.size (bindL (envOfC qual scope s.heap.objs.size f cd).kindOf (ps.zip us) λ _=>none) (cellsFrom (s.heap.objs.size+1) scope.names []) (bindC (envOfC qual scope s.heap.objs.size f cd).kindOf (ps.zip us) λ _=>none) s1):
  Inv (qgw CX P w K mg base N qual scope f cd A outer s H E) [] (qaY N vs) H s1:=by
 have p8:ps.length<=N.length:=by have:=congrArg List.length S.pre;rw[Ul] at this;omega
 obtain⟨h1,tk,rfl,hk⟩:=x.done;have pM:∀ b:Addr,b∉(qgw CX P w K mg base N qual scope f cd A outer s H E).ex:=λ b z=>absurd (show b∈([]:List Addr) from z) (by simp)
 refine⟨⟨e0.mod,S.kind,rfl,rfl,Vd _,λ y z c h1 h2=>?_,λ y hy=>?_,λ y c _ h=>?_,λ _=>hd,Around.frames_deeper e0.frames,.inr ⟨rfl,rfl⟩,λ b z=>absurd z (pM b),e0.bs,e0.bsz,λ b _ _=>pM b,λ b z=>absurd z (pM b),e0.funs,e0.frf⟩,
  rfl,e0.bare,Un.kept hk,⟨_,x.toInCall.ns,λ i y v h1 h2 h3=>?_⟩,λ y c h=>⟨_,x.cell y c h⟩,e0.hok.fresh (Vd _),λ y c h=>?_,λ p hp=>absurd (show p∈([]:List (Addr×Obj)) from hp) (by simp),e0.hok.kept hk,?_⟩
 ·exact name_of_addr x.apart (Yz h1) (Yz h2)
 ·have hy:scope.names.lookup y=some .cell∨scope.names.lookup y=some .free:=hy;rcases hy with hy | hy
  ·exact qfm hy
  ·exact absurd rfl (S.nofree _ (Yz hy))
 ·exact Qz (x.above y c (Yz h))
 ·have hi:i<vs.length:=by
   unfold qaY at h2;by_cases hi:i<vs.length
   ·exact hi
   ·rw[Xh (by simpa using hi)] at h2;rw[X5] at h2;split at h2 <;> cases h2
  have ha:vs[i]?=some v:=by
   unfold qaY at h2;rw[Xo (by simpa using hi),Zt] at h2;cases e:vs[i]? with
   |none=>rw[e] at h2;cases h2
   |some a=>rw[e] at h2;cases h2;rfl
  obtain⟨u,hu,rv⟩:=r.get ha;have hp:ps[i]?=some y:=by
   rw[<- S.pre,Xw (by omega)];exact h1
  have ndP:ps.Nodup:=by rw[<- S.pre];exact S.nd.sublist (List.take_sublist _ _)
  refine⟨u,rv,?_⟩;rcases S.par y (Yn hp) with k|k
  ·exact .inl ⟨k,qdV ndP hp hu k⟩
  ·obtain⟨c,e⟩:=qfm (n:=s.heap.objs.size+1) k;refine .inr ⟨.inl k,c,e,?_⟩;have q:=x.cell y c e;rw[qdW ndP hp hu (by show scope.names.lookup y≠_;rw[k];decide)] at q;exact q
 ·exact e0.hok.fresh (Qz (x.above y c (Yz h)))
 ·unfold qaY;show _=N.length
  rw[Zh,U3,XT];omega
theorem qnY{K:W.Frag} {kV:Value}(lk:K.lookup f=some ⟨oc,od,.func (W.fnOf name qual params body scope dV kV doc pm an cdv ct),osl⟩)(R9:W.codeIn K cdv qual=true)(S:FnScope N ps scope)(len:∀ vs H Q E,sp vs H Q E->vs.length=ps.length)(O7:∀(A:Around)(outer:List Env)(s:Shared)(H:Hp)(vs:List V)(Q:VK)(E:XK),Room k (A.deeper (envOfC qual scope s.heap.objs.size f cdv))->sp vs H Q E ->
   ∃ t,PSs (qgw CX P w K mg base N qual scope f cdv A outer s H E) body t/\t { nx:=λ _ H'=>Q .non H',rt:=Q } (qaY N vs) H):
  FnOk P w K mg base CX (k+1) f (W.fnOf name qual params body scope dV kV doc pm an cdv ct) ps sp:=by
 refine⟨len,λ A outer s H args us vs Q E hr e0 hb r P6=>?_⟩;have hl:=len _ _ _ _ P6;have KX:K.In s.heap:=e0.mod.kin.keeps λ b o e=>(e0.bs b o e).1
 have lim:s.heap.NoLimit:=e0.mod.nolimit.keeps λ b o e=>(e0.bs b o e).1
 have sJ:∀ y∈ps.zip us,scope.names.lookup y.1=some .local∨(scope.names.lookup y.1=some .cell/\((cellsFrom (s.heap.objs.size+1) scope.names []).lookup y.1).isSome=true):=λ ⟨n,v⟩ hy=>by
  rcases S.par n (U6 hy).1 with q|q
  ·exact .inl q
  ·exact .inr ⟨q,W.cellsFrom_some _ _ _ (.inl q)⟩
 refine codeAny_call_function hr.depth (KX _ _ lk) rfl S.co S.gen rfl (W.codeRec_of KX R9) (hb _ _ _ _ ?_);refine wpAny_newFunctionEnv_cells S.kind sJ λ env he s1 x=>?_
 subst he;refine⟨lim.keeps x.toInCall.keep,codeAny_func ?_⟩;obtain⟨t,ht,hq⟩:=O7 A outer s H vs Q E (hr.deeper _) P6;have I:Inv (qgw CX P w K mg base N qual scope f cdv A outer s H E) [] (qaY N vs) H s1:=qim S hr.hd e0 hl r x;refine Vk (ht [] s1 (qaY N vs) H _ I hq) (λ fl s' hs=>?_) λ e s' hs=>hs
 have fin:∀{σ':St}{H':Hp}{v:V}{u:Value},Inv (qgw CX P w K mg base N qual scope f cdv A outer s H E) [] σ' H' s'->qS v u->Q v H'->CE outer P w H s Q u s':=
  λ{σ' H' v u} J rv q=>⟨v,H',J.os,J.bare,J.base,J.hok,rv,q⟩
 cases fl with
 |ret u =>
  obtain⟨v,σ',H',J,rv,q⟩:=hs;exact fin J rv q
 |next =>
  obtain⟨σ',H',J,q⟩:=hs;exact fin (v:=V.non) (u:=Value.none) J rfl q
 |brk =>
  obtain⟨_,_,_,q⟩:=hs;exact False.elim q
 |cont =>
  obtain⟨_,_,_,q⟩:=hs;exact False.elim q
section
variable {X:Cx}{x:Str}{p pos:Pos}{e:Expr}{es:List Expr}{t:TA}{id T:String}{r:List V->Hp->VK->Prop}
def tCB(r:List V->Hp->VK->Prop)(t:TA):TE:=λ σ H Q=>t σ H λ vs H1=>r vs H1 Q
theorem qz(hc:y9 X (.builtin id) r)(hg:Gl X x)(hm:X.mg x=none)(hv:bootBuiltins x=some (.builtin id))(ha:PA X (e::es) t)(hn:x≠"__name__":=by decide)(aI:(x == ("__debug__":Str))=false:=by decide)(he:starEach (e::es) X.env=(false,eval e X.env)::starEach es X.env:=by rfl)(p8:(backTo pos (starEach es X.env)).any (·.1)=false:=by rfl):PE X (.Call (.Name x p) (e::es) [] pos) (tCB r t):=by
 intro pins s σ H Q I h;refine Zp (jW I hg hm hv ?_ hn aI);exact PyProof.Rows.callWith_builtin1 (thn (ha pos pins s σ H _ I h) λ us s1 ⟨vs,H1,I1,r1,q1⟩=>hc pins s1 σ H1 vs us Q I1 r1 q1) he p8
theorem zo(hc:y9 X (.type T) r)(hg:Gl X x)(hm:X.mg x=none)(hv:bootBuiltins x=some (.type T))(ha:PA X (e::es) t)(hn:x≠"__name__":=by decide)(aI:(x == ("__debug__":Str))=false:=by decide)(he:starEach (e::es) X.env=(false,eval e X.env)::starEach es X.env:=by rfl)(p8:(backTo pos (starEach es X.env)).any (·.1)=false:=by rfl):PE X (.Call (.Name x p) (e::es) [] pos) (tCB r t):=by
 intro pins s σ H Q I h;refine Zp (jW I hg hm hv ?_ hn aI);exact Xe (thn (ha pos pins s σ H _ I h) λ us s1 ⟨vs,H1,I1,r1,q1⟩=>hc pins s1 σ H1 vs us Q I1 r1 q1) he p8
end
section
variable {κ:Type}[DecidableEq κ]
noncomputable def zP(kvs:List (κ×V))(k:κ):Option V:=(kvs.find? λ kv=>decide (kv.1=k)).map (·.2)
noncomputable def jb(kvs:List (κ×V))(k:κ)(v:V):List (κ×V):=
 if (kvs.any λ kv=>decide (kv.1=k))=true then kvs.map (λ kv=>if kv.1=k then(kv.1,v) else kv) else kvs++[(k,v)]
theorem qaZ{p:κ×V}{r:List (κ×V)}{k:κ}(e:p.1=k):zP (p::r) k=some p.2:=by simp[zP,U7,e]
theorem qa0{p:κ×V}{r:List (κ×V)}{k:κ}(e:¬ p.1=k):zP (p::r) k=zP r k:=by simp[zP,U7,e]
theorem vT(k:κ):∀ kvs:List (κ×V),(kvs.any λ kv=>decide (kv.1=k))=(zP kvs k).isSome
 | []=>rfl
 |p::r=>by
  rw[Qk];by_cases e:p.1=k
  ·simp only[qaZ e,Qa e,Bool.true_or,Option.isSome_some]
  ·rw[qa0 e,Jl e,Ql];exact vT k r
theorem yl(kvs:List (κ×V))(k:κ)(v:V):(jb kvs k v).length<=kvs.length+1:=by
 unfold jb;split
 ·rw[U3];omega
 ·rw[Zh,Uj,List.length_nil];omega
theorem qcC{kvs:List (κ×V)}{k:κ}(v:V)(h:zP kvs k=none):jb kvs k v=kvs++[(k,v)]:=by
 unfold jb;rw[vT,h];exact V5 (by decide)
theorem vM.isSome_eq(r:vM o u):o.isSome=u.isSome:=by
 cases o with
 |none=>cases u with
  |none=>rfl
  |some _=>exact(show False from r).elim
 |some _=>cases u with
  |none=>exact(show False from r).elim
  |some _=>rfl
theorem vM.getD(r:vM o u)(rd:qS d d'):qS (o.getD d) (u.getD d'):=by
 cases o with
 |none=>cases u with
  |none=>exact rd
  |some _=>exact(show False from r).elim
 |some _=>cases u with
  |none=>exact(show False from r).elim
  |some _=>exact r
theorem KV.val{kvs:List (κ×V)}{vs:List (κ×Value)}(r:KV kvs vs)(k:κ):vM (zP kvs k) (valueAt vs k):=by
 unfold KV at r;induction r with
 |nil=>exact True.intro
 | @cons p q ps qs h t ih =>
  obtain⟨h1,h2⟩:=h;by_cases e:p.1=k
  ·have e':q.1=k:=h1.symm.trans e;have b:valueAt (q::qs) k=some q.2:=by simp[valueAt,U7,e']
   rw[qaZ e,b];exact h2
  ·have e':¬ q.1=k:=λ z=>e (h1.trans z)
   have b:valueAt (q::qs) k=valueAt qs k:=by simp[valueAt,U7,e']
   rw[qa0 e,b];exact ih
theorem KV.any{kvs:List (κ×V)}{vs:List (κ×Value)}(r:KV kvs vs)(k:κ):(kvs.any λ kv=>decide (kv.1=k))=vs.any λ kv=>decide (kv.1=k):=by
 unfold KV at r;induction r with
 |nil=>rfl
 |cons h t ih=>rw[Qk,Qk,ih,h.1]
theorem KV.repl{kvs:List (κ×V)}{vs:List (κ×Value)}(r:KV kvs vs)(k:κ){y:V}{u:Value}(ry:qS y u):
  KV (kvs.map λ kv=>if kv.1=k then(kv.1,y) else kv) (vs.map λ kv=>if kv.1=k then(kv.1,u) else kv):=by
 unfold KV at r ⊢;induction r with
 |nil=>exact .nil
 | @cons p q ps qs h t ih =>
  rw[Qj,Qj];refine .cons ?_ ih;obtain⟨h1,h2⟩:=h;by_cases e:p.1=k
  ·rw[V4 e,V4 (h1.symm.trans e)];exact⟨h1,ry⟩
  ·rw[V5 e,V5 (λ z=>e (h1.trans z))];exact⟨h1,h2⟩
theorem KV.put{kvs:List (κ×V)}{vs:List (κ×Value)}(r:KV kvs vs)(k:κ){y:V}{u:Value}(ry:qS y u):KV (jb kvs k y) (stored vs k u):=by
 unfold jb stored;rw[r.any k];by_cases e:(vs.any λ kv=>decide (kv.1=k))=true
 ·rw[V4 e,V4 e];exact r.repl k ry
 ·rw[V5 e,V5 e];exact Paired.snoc r ⟨rfl,ry⟩
theorem KV.length{kvs:List (κ×V)}{vs:List (κ×Value)}(r:KV kvs vs):kvs.length=vs.length:=Paired.length r
end
theorem qdX(r:qS (kV k) u):(qw P w).is k u=true:=by
 cases k with
 |inl i=>obtain⟨t,e⟩:=(show ∃ t,u=Value.int i t from r);subst e;exact qfe P w i t
 |inr x=>obtain⟨t,e⟩:=(show ∃ t,u=Value.str x t from r);subst e;exact zv P w x t
theorem qdY:∀{ks:List Key}{us:List Value},qL (ks.map kV) us->ItemsAre (qw P w) ks us
 | [],_,r=>by rw[Q1] at r;cases r;exact .nil
 |k::ks,_,r=>by
  rw[Qj] at r;cases r with
  |cons h t=>exact .cons (qdX h) (qdY t)
abbrev KT(H:Hp):List (List Key×V)->List (List Key×Addr×Value)->Prop:=Paired λ p q=>p.1=q.1/\H q.2.1=some (.tup (p.1.map kV))/\qS p.2 q.2.2
theorem KT.val(r:KT H kvs xs)(k:List Key):vM (zP kvs k) ((atKey xs k).map (·.2)):=by
 induction r with
 |nil=>exact True.intro
 | @cons p q ps qs h t ih =>
  obtain⟨h1,_,h2⟩:=h;by_cases e:p.1=k
  ·have e':q.1=k:=h1.symm.trans e;have b:atKey (q::qs) k=some q.2:=by simp[atKey,U7,e']
   rw[qaZ e,b];exact h2
  ·have e':¬ q.1=k:=λ z=>e (h1.trans z)
   have b:atKey (q::qs) k=atKey qs k:=by simp[atKey,U7,e']
   rw[qa0 e,b];exact ih
theorem KT.repl(r:KT H kvs xs)(k:List Key)(ry:qS y u):
  KT H (kvs.map λ kv=>if kv.1=k then(kv.1,y) else kv) (xs.map (putAt k u)):=by
 induction r with
 |nil=>exact .nil
 | @cons p q ps qs h t ih =>
  rw[Qj,Qj];refine .cons ?_ ih;obtain⟨h1,h2,h3⟩:=h;unfold putAt;by_cases e:p.1=k
  ·rw[V4 e,V4 (h1.symm.trans e)];exact⟨h1,h2,ry⟩
  ·rw[V5 e,V5 (λ z=>e (h1.trans z))];exact⟨h1,h2,h3⟩
theorem KT.put(r:KT H kvs xs)(k:List Key)(hb:H b=some (.tup (k.map kV)))(ry:qS y u):
  KT H (jb kvs k y) (storedH xs k b u):=by
 have e:(kvs.any λ kv=>decide (kv.1=k))=(atKey xs k).isSome:=by
  rw[vT,(r.val k).isSome_eq,Option.isSome_map]
 unfold jb storedH;rw[e];by_cases q:(atKey xs k).isSome=true
 ·rw[V4 q,V4 q];exact r.repl k ry
 ·rw[V5 q,V5 q];exact Paired.snoc r ⟨rfl,hb,ry⟩
theorem KT.keeps(r:KT H kvs xs)(ht:∀ b ys,H b=some (.tup ys)->H' b=some (.tup ys)):KT H' kvs xs:=
 Paired.mapP r λ _ _ z=>⟨z.1,ht _ _ z.2.1,z.2.2⟩
section
variable {P:Program}{w:World}{H:Hp}{h:Heap}{a:Addr}
theorem qmw(ok:HOk P w H h)(e:Rd H a u):zx P w H h a u:=e.ok ok
theorem qdZ(ok:HOk P w H h)(e:Rd H a (.dK kvs)):kvs.length<=sizeLine/\(a == sysModules)=false/\∃ vs,KV kvs vs/\h.DictOf (qw P w) a vs:=
 show zx P w H h a (.dK kvs) from qmw ok e
theorem qjm(ok:HOk P w H h)(e:H a=some (.dK kvs)):kvs.length<=sizeLine/\(a == sysModules)=false/\∃ vs,KV kvs vs/\h.DictOf (qw P w) a vs:=qdZ ok (.inl e)
theorem qcD(ok:HOk P w H h)(e:H a=some (.tup (ks.map kV))):(tupleKind (qw P w)).is h ks a:=by
 obtain⟨_,its,r,o,h1,h2,n,h3⟩:=(show zx P w H h a (.tup (ks.map kV)) from ok a _ e);exact⟨o,its.toArray,n,h1,h2,h3,by simpa using qdY r⟩
theorem qd0(ok:HOk P w H h)(e:Rd H a (.dT kvs)):kvs.length<=sizeLine/\(a == sysModules)=false /\
  ∃ xs,KT H kvs xs/\h.DictOfH (tupleKind (qw P w)) a xs:=by
 obtain⟨z,y,xs,r,o,es,ep,h1,h2,h3,h4,h5⟩:=(show zx P w H h a (.dT kvs) from qmw ok e);refine⟨z,y,xs,r,o,es,ep,h1,h2,h3,h4,λ x hx=>?_,h5⟩;have all:∀{l:List (List Key×V)}{m:List (List Key×Addr×Value)},KT H l m->∀ x∈m,(tupleKind (qw P w)).is h x.1 x.2.1:=by
  intro l m q;induction q with
  |nil=>intro x hx;exact nomatch hx
  | @cons p q ps qs hq t ih =>
   intro x hx;rcases Qi.mp hx with e|hx
   ·subst e;exact qcD ok (by rw[<- hq.1];exact hq.2.1)
   ·exact ih x hx
 exact all r x hx
theorem qnZ(ok:HOk P w H h)(e:H a=some (.dT kvs)):kvs.length<=sizeLine/\(a == sysModules)=false /\
  ∃ xs,KT H kvs xs/\h.DictOfH (tupleKind (qw P w)) a xs:=qd0 ok (.inl e)
end
def vN(H:Hp)(a:Addr)(y:V)(r:Option V):Prop:=
 (∃ kvs k,Rd H a (.dK kvs)/\y=kV k/\r=zP kvs k)∨∃ kvs k b,Rd H a (.dT kvs)/\y=.ref b/\H b=some (.tup (k.map kV))/\r=zP kvs k
def qn0(H:Hp)(a:Addr)(y v:V)(H':Hp):Prop:=
 (∃ kvs k,H a=some (.dK kvs)/\y=kV k/\kvs.length<sizeLine/\H'=upd H a (.dK (jb kvs k v))) ∨
 ∃ kvs k b,H a=some (.dT kvs)/\y=.ref b/\H b=some (.tup (k.map kV))/\kvs.length<sizeLine/\H'=upd H a (.dT (jb kvs k v))
theorem vN.k{k:Key}(e:H a=some (.dK kvs)):vN H a (kV k) (zP kvs k):=.inl ⟨kvs,k,.inl e,rfl,rfl⟩
section
variable {X:Cx}{pins:List (Addr×Obj)}{σ:St}{H:Hp}{s:Shared}{a:Addr}{y v:V}{u r:Value}{o:Option V}{A:Around}{E:Value->Shared->Prop}
theorem Inv.big(I:Inv X pins σ H s):sysModules<s.heap.objs.size:=by
 have h:mainGlobals<s.heap.objs.size:=(I.mod.glob.keeps I.bk).lt;exact Nat.lt_trans (by decide) h
theorem qin(hu:A.units+1<cLine)(I:Inv X pins σ H s)(g:vN H a y (some v))(ry:qS y u)(h:∀ w' s',Inv X pins σ H s'->qS v w'->Q w' s'):
  wpAny (model X.prog X.w) A (getItem (.ref a) u) Q E s:=by
 rcases g with⟨kvs,k,e,ey,l⟩|⟨kvs,k,b,e,ey,eb,l⟩
 ·subst ey;obtain⟨z,hd,vs,rel,dd⟩:=qdZ I.hok e;obtain⟨w',hw,bV⟩:=vM.some_of (v:=v) (o:=valueAt vs k) (by rw[l];exact rel.val k);exact wpAny_getItem_of (qdX ry) dd.mapOf hw (h w' _ (I.tok _) bV)
 ·subst ey;cases(show u=Value.ref b from ry)
  obtain⟨z,hd,xs,rel,dd⟩:=qd0 I.hok e;obtain⟨w',hw,bV⟩:=vM.some_of (v:=v) (o:=(atKey xs k).map (·.2)) (by rw[l];exact rel.val k);obtain⟨p,hp,W1⟩:=Option.map_eq_some_iff.mp hw;refine wpAny_getItem_heap (Zq hu) (qcD I.hok eb) dd hp ?_;rw[W1];exact h w' _ (I.tok _) bV
theorem qo1(hu:A.units+1<cLine)(I:Inv X pins σ H s)(g:vN H a y o)(ry:qS y u)(h:∀ s',Inv X pins σ H s'->Q (.bool o.isSome) s'):
  wpAny (model X.prog X.w) A (compareOp .In u (.ref a)) Q E s:=by
 rcases g with⟨kvs,k,e,ey,l⟩|⟨kvs,k,b,e,ey,eb,l⟩
 ·subst ey;obtain⟨z,hd,vs,rel,dd⟩:=qdZ I.hok e;refine wpAny_in_of (qdX ry) hd dd.mapOf ?_;rw[<- (rel.val k).isSome_eq,<- l];exact h _ (I.tok _)
 ·subst ey;cases(show u=Value.ref b from ry)
  obtain⟨z,hd,xs,rel,dd⟩:=qd0 I.hok e;refine wpAny_in_heap (Zq hu) (qcD I.hok eb) hd dd ?_;have q:=(rel.val k).isSome_eq;rw[Option.isSome_map] at q;rw[<- q,<- l];exact h _ (I.tok _)
theorem qet(I:Inv X pins σ H s)(mu:Mut (H a))(hs:Heap.SameBut a s.heap h')(he:∃ q,h'.get? a=some q)(new:zx X.prog X.w (upd H a ob) h' a ob):
  Inv X pins σ (upd H a ob) { s with heap:=h',toks:=t' }:=
 I.write (x:=a) (e:=a) mu (.inl rfl) (λ b q hb z=>(hs.2 b hb).trans z) he new
theorem qcE(z:kvs.length<=sizeLine)(hd:(a == sysModules)=false)(rel:KV kvs vs)(dd:h'.DictOf (qw P w) a vs):
  zx P w H' h' a (.dK kvs):=⟨z,hd,vs,rel,dd⟩
theorem qio(hu:A.units+1<cLine)(I:Inv X pins σ H s)(g:qn0 H a y v H')(ry:qS y u)(rv:qS v r)(h:∀ s',Inv X pins σ H' s'->Q () s'):
  wpAny (model X.prog X.w) A (setItem (.ref a) u r) Q E s:=by
 rcases g with⟨kvs,k,e,ey,l,eH⟩|⟨kvs,k,b,e,ey,eb,l,eH⟩
 ·subst ey eH;obtain⟨z,hd,vs,rel,dd⟩:=qjm I.hok e;have hz:vs.length<=sizeLine:=by rw[<- rel.length];exact z
  have hl:(jb kvs k v).length<=sizeLine:=by have:=yl kvs k v;omega
  refine wpAny_setItem_pairs (hsz:=hz) (qdX ry) dd λ h' nQ hs=>h _ ?_
  have he:∃ q,h'.get? a=some q:=let ⟨q,_,_,hq,_⟩:=nQ;⟨q,hq⟩;exact qet I (by rw[e];exact True.intro) hs he (qcE hl hd (rel.put k rv) nQ)
 ·subst ey eH;cases(show u=Value.ref b from ry)
  obtain⟨z,hd,xs,rel,dd⟩:=qnZ I.hok e;have hz:xs.length<=sizeLine:=by rw[<- Paired.length rel];exact z
  have hl:(jb kvs k v).length<=sizeLine:=by have:=yl kvs k v;omega
  refine wpAny_setItem_heap (hsz:=hz) (Zq hu) (qcD I.hok eb) dd λ h' nQ hs=>h _ ?_
  obtain⟨q,es,ep,hq,h2,h3,h4,_,h5⟩:=nQ;refine qet I (by rw[e];exact True.intro) hs ⟨q,hq⟩ ⟨hl,hd,_,(rel.put k eb rv).keeps λ c ys ec=>?_,q,es,ep,hq,h2,h3,h4,h5⟩;rw[qv (qi8 ec e (λ z=>nomatch z))];exact ec
end
def qn1(i:Expr):Prop:=∀ ov iv,subscripted i false ov iv=operate [ov,iv] (getItem ov iv)
theorem qlr {id:String}(hl:typeLookup (.type T) "__getitem__"=pure (some (.builtin id)))(hs:qn1 x9)(h:wpAny (model prog w) A (eval value env) (λ o s₁=>wpAny (model prog w) A (eval x9 env) (λ i s₂=>s₂.TypeIs o T/\wpAny (model prog w) A (getItem o i) Q E s₂) E s₁) E s):
  wpAny (model prog w) A (eval (.Subscript value x9 pos) env) Q E s:=by
 refine Subscript_ (Vk h (λ o s₁ h₁=>Vk h₁ (λ i s₂ h₂=>?_) λ _ _ x=>x) λ _ _ x=>x);obtain⟨hT,h₂⟩:=h₂;unfold subscriptTail;refine Vl ?_;rw[getitemInPython_of_ne hT.not_modules];refine Vl (Jo hT hl ?_);have fin:wpAny (model prog w) A (subscripted x9 false o i) (λ r s₃=>wpAny (model prog w) A (letTemporaryGo value o r >>= λ _=>pure r) Q E s₃) E s₂:=by
  rw[hs o i];exact wpAny_operating (Vk h₂ (λ r s₃ h₃=>Vl (wpAny_letTemporaryGo (Vm h₃))) λ _ _ x=>x)
 first
  |exact Vm (Vl fin)
  |exact Vl (Vm (Vl fin))
  |exact Vl fin
theorem qfn{σ:St}(I:Inv X pins σ H s)(g:vN H a y o):s.TypeIs (.ref a) "dict":=by
 rcases g with⟨kvs,k,e,_,_⟩|⟨kvs,k,b,e,_,_,_⟩
 ·obtain⟨_,_,vs,_,dd⟩:=qdZ I.hok e;exact dd.typeIs
 ·obtain⟨_,_,xs,_,dd⟩:=qd0 I.hok e;exact dd.typeIs
def qn2(td ty:TE):TE:=λ σ H Q=>td σ H λ x H1=>ty σ H1 λ y H2=>∃ a v,x=.ref a/\vN H2 a y (some v)/\Q v H2
def qo2(ty td:TE):TE:=λ σ H Q=>ty σ H λ y H1=>td σ H1 λ x H2=>∃ a o,x=.ref a/\vN H2 a y o/\Q (.bl o.isSome) H2
def qn3(td ty tv:TE):TS:=λ D σ H=>tv σ H λ v H1=>td σ H1 λ x H2=>ty σ H2 λ y H3=>∃ a H4,x=.ref a/\qn0 H3 a y v H4/\D.nx σ H4
section
variable {X:Cx}{o i e value:Expr}{pos p7 p4:Pos}{td ty tv:TE}
theorem j2(hu:X.A.units+1<cLine)(ho:PE X o td)(hi:PE X i ty)(hs:qn1 i):PE X (.Subscript o i pos) (qn2 td ty):=by
 intro pins s σ H Q I h;refine qlr PySem.F.slot_dict_getitem.lookup hs (thn (ho pins s σ H _ I h) λ u s1 ⟨x,H1,I1,rx,q1⟩=>thn (hi pins s1 σ H1 _ I1 q1) λ iv s2 ⟨y,H2,I2,ry,a,v,ex,g,q2⟩=>?_);subst ex;obtain rfl:u=Value.ref a:=rx;exact⟨qfn I2 g,qin hu I2 g ry λ w' s3 I3 bV=>⟨v,H2,I3,bV,q2⟩⟩
theorem qmU(hu:X.A.units+1<cLine)(hi:PE X i ty)(ho:PE X o td):PC X .In i o (qo2 ty td):=by
 intro pins s σ H Q I h;refine thn (hi pins s σ H _ I h) λ iv s1 ⟨y,H1,I1,ry,q1⟩=>thn (ho pins s1 σ H1 _ I1 q1) λ u s2 ⟨x,H2,I2,rx,a,ov,ex,g,q2⟩=>?_
 subst ex;obtain rfl:u=Value.ref a:=rx;exact qo1 hu I2 g ry λ s3 I3=>⟨.bl ov.isSome,H2,I3,rfl,q2⟩
theorem qeu(hu:X.A.units+1<cLine)(ho:PE X o td)(hi:PE X i ty)(hv:PE X value tv)(hs:swapsWith value (some (.Subscript o i p7)) pos.line X.env=pure false):
  PS X (.Assign [.Subscript o i p7] value pos) (qn3 td ty tv):=by
 intro pins s σ H D I h;refine wpAny_Assign_Subscript (thn (hv pins s σ H _ I h) λ r s1 ⟨v,H1,I1,rv,q1⟩=>thn (ho pins s1 σ H1 _ I1 q1) λ u s2 ⟨x,H2,I2,rx,q2⟩=>thn (hi pins s2 σ H2 _ I2 q2) λ iv s3 ⟨y,H3,I3,ry,a,H4,ex,g,q3⟩=>?_) hs;subst ex;obtain rfl:u=Value.ref a:=rx;exact qio hu I3 g ry rv λ s4 I4=>⟨σ,H4,I4,q3⟩
end
theorem qfo(h:Heap)(hb:sysModules<h.objs.size):zx P w H (h.push { cls:=.type "dict",data:=.dict #[] }) h.objs.size (.dK []):=
 ⟨Ve _,Zb.mpr (Vz (Qx hb)),[],.nil,Heap.DictOf.new h⟩
def qmV:TE:=λ _ H Q=>∀ p,H p=none->Q (.ref p) (upd H p (.dK []))
section
variable {X:Cx}{pos:Pos}
theorem qfp:PE X (.Dict [] [] pos) qmV:=λ pins s σ H Q I h =>
 wpAny_Dict_empty ⟨.ref s.heap.objs.size,_,I.laid (a:=s.heap.objs.size) (o:=.dK []) (t':=s.toks) (λ _ _ q=>XG _ q) (Vd _) (qfo s.heap I.big),rfl,h _ (I.hok.fresh (Vd _))⟩
end
def qgx:List (TE×TE)->St->Hp->(List (V×V)->Hp->Prop)->Prop
 | [],_,H,Q=>Q [] H
 |(tk,tv)::r,σ,H,Q=>tk σ H λ x H1=>tv σ H1 λ y H2=>qgx r σ H2 λ ps H3=>Q ((x,y)::ps) H3
abbrev VV:List (V×V)->List (Value×Value)->Prop:=Paired λ p q=>qS p.1 q.1/\qS p.2 q.2
def PPs(X:Cx)(pos:Pos)(keys:List (Option Expr))(D9:List Expr)(eI:List (TE×TE)):Prop:=
 ∀(pins:List (Addr×Obj))(s:Shared)(σ:St)(H:Hp)(Q:List (V×V)->Hp->Prop),Inv X pins σ H s->qgx eI σ H Q ->
  wpAny (model X.prog X.w) X.A (evalPairs (pairTrees keys D9 X.env pos)) (λ vs s'=>∃ ps H',Inv X pins σ H' s'/\VV ps vs/\Q ps H') X.xe s
theorem qhy:PPs X pos [] [] []:=λ pins s σ H Q I h=>pairTrees_nil_walk ⟨[],H,I,.nil,h⟩
theorem jN(hk:PE X k tk)(hv:PE X v tv)(hr:PPs X pos ks vs eI):
  PPs X pos (some k::ks) (v::vs) ((tk,tv)::eI):=λ pins s σ H Q I h =>
 pairTrees_cons_walk (thn (hk pins s σ H _ I h) λ u s1 ⟨x,H1,I1,rx,q1⟩=>thn (hv pins s1 σ H1 _ I1 q1) λ w2 s2 ⟨y,H2,I2,ry,q2⟩ =>
  thn (hr pins s2 σ H2 _ I2 q2) λ ws s3 ⟨ps,H3,I3,rel,q3⟩=>⟨(x,y)::ps,H3,I3,.cons ⟨rx,ry⟩ rel,q3⟩)
noncomputable def qH(kvs more:List (Key×V)):List (Key×V):=more.foldl (λ c9 kv=>jb c9 kv.1 kv.2) kvs
theorem KV.merge:∀{more:List (Key×V)}{rs:List (Key×Value)}{kvs:List (Key×V)}{vs:List (Key×Value)},KV more rs->KV kvs vs->KV (qH kvs more) (merged vs rs):=by
 intro more rs kvs vs r;unfold KV at r;induction r generalizing kvs vs with
 |nil=>intro q;exact q
 | @cons p q ps qs h t ih =>
  intro r0;have e:KV (jb kvs p.1 p.2) (stored vs q.1 q.2):=by
   have:=r0.put p.1 h.2
   rw[<- h.1];exact this
  exact ih e
theorem yI:∀(more kvs:List (Key×V)),(qH kvs more).length<=kvs.length+more.length
 | [],kvs=>by show kvs.length<=kvs.length+0;omega
 |p::r,kvs=>by
  have h1:=yI r (jb kvs p.1 p.2);have h2:=yl kvs p.1 p.2;show(qH (jb kvs p.1 p.2) r).length<=_
  rw[Uj];omega
theorem qcF:∀{kvs:List (Key×V)}{ws:List (Value×Value)},VV (kvs.map λ kv=>(kV kv.1,kv.2)) ws->∃ rs,Carries (qw P w) ws rs/\KV kvs rs
 | [],_,r=>by rw[Q1] at r;cases r;exact⟨[],True.intro,.nil⟩
 |p::kvs,_,r=>by
  rw[Qj] at r;cases r with
  | @cons a b as bs h t =>
   obtain⟨rs,c,q⟩:=qcF (P:=P) (w:=w) t;obtain⟨b1,b2⟩:=b;exact⟨(p.1,b2)::rs,⟨qdX h.1,rfl,c⟩,.cons ⟨rfl,h.2⟩ q⟩
def qn4(eI:List (TE×TE)):TE:=λ σ H Q=>∀ p,H p=none->qgx eI σ (upd H p (.dK [])) λ ps H2=>H2 p=some (.dK [])/\∃ kvs:List (Key×V),ps=kvs.map (λ kv=>(kV kv.1,kv.2))/\kvs.length<=15/\Q (.ref p) (upd H2 p (.dK (qH [] kvs)))
theorem qhz(h:PPs X pos keys D9 eI)(aJ:keys.all (·.isSome)=true)(hl:keys.length=D9.length)(h0:keys≠[])(h15:keys.length<=15):PE X (.Dict keys D9 pos) (qn4 eI):=by
 intro pins s σ H Q I q;have hn:=I.hok.fresh (Vd s.heap.objs.size);have I1:=I.laid (a:=s.heap.objs.size) (o:=.dK []) (h':=s.heap.push { cls:=.type "dict",data:=.dict #[] }) (t':=s.toks) (λ _ _ q=>XG _ q) (Vd _) (qfo s.heap I.big);refine wpAny_Dict_walk (knd:=qw X.prog X.w) aJ hl h0 h15 (thn (h pins _ σ _ _ I1 (q _ hn)) λ ws s2 ⟨ps,H2,I2,rel,e,kvs,ep,lk,q2⟩=>?_);subst ep;obtain⟨rs,c,rk⟩:=qcF (P:=X.prog) (w:=X.w) rel;obtain⟨z,hd,vs0,r0,dd⟩:=qjm I2.hok e;cases r0
 refine⟨rs,c,dd,λ h' nQ hs=>⟨.ref s.heap.objs.size,_,?_,rfl,q2⟩⟩;have hz:(qH [] kvs).length<=sizeLine:=by
  have h1:=yI kvs [];rw[List.length_nil] at h1;rw[Vh];omega
 have he:∃ q,h'.get? s.heap.objs.size=some q:=let ⟨q,_,_,hq,_⟩:=nQ;⟨q,hq⟩;exact qet I2 (by rw[e];exact True.intro) hs he (qcE hz hd (rk.merge .nil) nQ)
structure M2(X:Cx)(o:Expr)(m:Str)(apos:Pos)(e f:Expr)(cpos:Pos):Prop where
 base:attributeBase o m X.env (eval o X.env)=eval o X.env
 few:((backTo cpos (starEach [e,f] X.env)).all (λ x=>!x.1) && (backToKw cpos (keywordEach [] X.env)).all (λ x=>x.1.isSome)
  && decide (([e,f]:List Expr).length+([]:List Keyword).length+(if ([]:List Keyword).isEmpty then 0 else 1)<30))=true
 line:(apos.endLine == cpos.line)=true
 trees:backTo cpos (starEach [e,f] X.env)=[(false,eval e X.env),(false,eval f X.env)]
def IsD(H:Hp)(a:Addr):Prop:=(∃ kvs,Rd H a (.dK kvs))∨∃ kvs,Rd H a (.dT kvs)
theorem qmW{σ:St}(I:Inv X pins σ H s)(d:IsD H a):
  s.TypeIs (.ref a) "dict"/\(∀ b,Value.ref a=.ref b->∃ ob,s.heap.get? b=some ob/\ob.dict=none)/\(a == sysModules)=false:=by
 rcases d with⟨kvs,e⟩|⟨kvs,e⟩
 ·obtain⟨_,hd,vs,_,dd⟩:=qdZ I.hok e;refine⟨dd.typeIs,λ b q=>?_,hd⟩;cases q
  obtain⟨ob,_,_,h1,h2,_⟩:=dd;exact⟨ob,h1,h2.2.1⟩
 ·obtain⟨_,hd,xs,_,dd⟩:=qd0 I.hok e;refine⟨dd.typeIs,λ b q=>?_,hd⟩;cases q
  obtain⟨ob,_,_,h1,h2,_⟩:=dd;exact⟨ob,h1,h2.2.1⟩
section
variable {X:Cx}{pins:List (Addr×Obj)}{σ:St}{H:Hp}{s:Shared}{a:Addr}{y d:V}{u r:Value}{o:Option V}{A:Around}{E:Value->Shared->Prop}
theorem qmX(hu:A.units+1<cLine)(I:Inv X pins σ H s)(g:vN H a y o)(ry:qS y u)(rd:qS d r)(h:∀ w' s',Inv X pins σ H s'->qS (o.getD d) w'->Q w' s'):
  wpAny (model X.prog X.w) A (call (.builtin "dict.get") [.ref a,u,r]) Q E s:=by
 rcases g with⟨kvs,k,e,ey,l⟩|⟨kvs,k,b,e,ey,eb,l⟩
 ·subst ey;obtain⟨z,hd,vs,rel,dd⟩:=qdZ I.hok e;refine call_meetsIn XU dd.typeIs PySem.F.entry_dict_get (PySem.F.args_dict_get_3 _ _ _) (meets_dict_get_default (qw X.prog X.w) a (qdX ry) hd r) ⟨_,dd.mapOf,h _ _ (I.tok _) ?_⟩;rw[l];exact(rel.val k).getD rd
 ·subst ey;cases(show u=Value.ref b from ry)
  obtain⟨z,hd,xs,rel,dd⟩:=qd0 I.hok e;refine call_meetsIn XU dd.typeIs PySem.F.entry_dict_get (PySem.F.args_dict_get_3 _ _ _) (meetsH_dict_get_default (tupleKind (qw X.prog X.w)) a b hd r) ⟨Zq hu,k,xs,qcD I.hok eb,dd,h _ _ (I.tok _) ?_⟩;rw[l];exact(rel.val k).getD rd
end
def qmY(td ty tx:TE):TE:=λ σ H Q=>td σ H λ x H1=>∃ a,x=.ref a/\IsD H1 a/\ty σ H1 λ y H2=>tx σ H2 λ z H3=>∃ o,vN H3 a y o/\Q (o.getD z) H3
section
variable {X:Cx}{o e f:Expr}{apos cpos:Pos}{td ty tx:TE}
theorem qjn(hu:X.A.units+1<cLine)(ho:PE X o td)(he:PE X e ty)(hf:PE X f tx)(m:M2 X o "get" apos e f cpos):PE X (.Call (.Attribute o "get" apos) [e,f] [] cpos) (qmY td ty tx):=by
 intro pins s σ H Q I h;refine wpAny_Call_method m.base m.few m.line PySem.F.plainAttrs_dict XU PySem.F.type_dict_get (thn (ho pins s σ H _ I h) λ u s1 ⟨x,H1,I1,rx,a,ex,d,q1⟩=>?_);subst ex;obtain rfl:u=Value.ref a:=rx;obtain⟨t1,t2,_⟩:=qmW I1 d;refine⟨t1,t2,?_⟩;rw[m.trees];refine XH rfl (Calls.evalArgs_plain (Zg (thn (he pins s1 σ H1 _ I1 q1) λ iv s2 ⟨y,H2,I2,ry,q2⟩ =>
  Zg (thn (hf pins s2 σ H2 _ I2 q2) λ fv s3 ⟨z,H3,I3,rz,ov,g,q3⟩=>Calls.spliced_nil ?_))))
 exact qmX hu I3 g ry rz λ w' s4 I4 bV=>⟨_,H3,I4,bV,q3⟩
end
end L2
namespace HT
open PySem PyProof.Rows
section
variable {prog:Program}{w:World}{A:Around}{E:Value->Shared->Prop}{s:Shared}
theorem cat_tup(ht:IsTup s.heap t vs.toArray)(hb:IsTup s.heap b ws.toArray)(hv:vs≠[])(h1:ws=[]->Q (.ref t) s)(h2:ws≠[]->Q (.ref s.heap.objs.size) { s with heap:=s.heap.push { cls:=.type "tuple",data:=.seq (vs++ws).toArray } })(hsz:vs.length+ws.length<=sizeLine):wpAny (model prog w) A (binaryOp .Add (.ref t) (.ref b)) Q E s:=by
 obtain⟨⟨cls,dd,data,sl⟩,ho,hc,n,hd⟩:=id ht;obtain⟨⟨cls2,iY,data2,wF⟩,O3,mS,n2,W4⟩:=id hb;simp only at hc hd mS W4;subst hc hd mS W4;have e:vs.toArray++ws.toArray=(vs++ws).toArray:=by simp
 by_cases hw:ws=[]
 ·exact concat_meets ⟨_,ho,rfl⟩ ⟨_,O3,rfl⟩ noFill_tuple_add seq_tuple_add XI X6 (Xx _ _)
   (tuple_addW1 t b vs.toArray ws.toArray n n2 dd iY sl wF (by simpa using hv) (by simp[hw])) ⟨ho,O3,h1 hw⟩
 ·refine concat_meets ⟨_,ho,rfl⟩ ⟨_,O3,rfl⟩ noFill_tuple_add seq_tuple_add XI X6 (Xx _ _)
   (tuple_addW2 t b vs.toArray ws.toArray n n2 dd iY sl wF (by simpa using hv) (by simpa using hw) (by rw[Zu,Zu];exact hsz)) ⟨ho,O3,?_⟩
  rw[e];exact h2 hw
noncomputable def sIx(n d:Nat):Option Int->Nat
 |none=>d
 |some v=>if v<0 then(v+(n:Int)).toNat else min v.toNat n
theorem sIx_nat(n d k:Nat):sIx n d (some (k:Int))=min k n:=by
 show(if (k:Int)<0 then((k:Int)+(n:Int)).toNat else min (k:Int).toNat n)=min k n
 rw[V5 (by omega),Zv]
end
end HT
namespace L2
open PySem PySem.Spec PyProof.Rows
abbrev TO:=St->Hp->(Option Int->Hp->Prop)->Prop
def PO(X:Cx)(e:Option Expr)(t:TO):Prop:=
 ∀(pins:List (Addr×Obj))(s:Shared)(σ:St)(H:Hp)(Q:Option Int->Hp->Prop),Inv X pins σ H s->t σ H Q ->
  wpAny (model X.prog X.w) X.A (evalPart e X.env) (λ u s'=>∃ o H',Inv X pins σ H' s'/\IsPart u o/\Q o H') X.xe s
def qls:TO:=λ _ H Q=>Q none H
def qn5(t:TE):TO:=λ σ H Q=>t σ H λ x H1=>∃ i,x=.int i/\Q (some i) H1
section
variable {X:Cx}{e:Expr}{te:TE}{lo hi:Option Expr}{tl th:TO}{pos p2:Pos}
theorem qhA:PO X none qls:=by
 intro pins s σ H Q I h;rw[evalPart_none];exact Vm ⟨none,H,I,.none,h⟩
theorem qhB(h:PE X e te):PO X (some e) (qn5 te):=by
 intro pins s σ H Q I hw;rw[evalPart_some];refine thn (h pins s σ H _ I hw) λ u s1 ⟨x,H1,I1,r1,q1⟩=>?_
 obtain⟨i,rfl,q⟩:=q1;obtain⟨t,rfl⟩:=r1;exact⟨some i,H1,I1,.int i t,q⟩
def SlR(X:Cx)(r:V->Option Int->Option Int->Hp->VK->Prop):Prop:=
 ∀(pins:List (Addr×Obj))(s:Shared)(σ:St)(H:Hp)(x:V)(v vl vu:Value)(lo hi:Option Int)(sl:Addr)(Q:VK),Inv X pins σ H s->qS x v->s.heap.IsSliceOf sl vl vu .none->IsPart vl lo->IsPart vu hi->r x lo hi H Q ->
  ∃ T id,typeLookup (.type T) "__getitem__"=pure (some (.builtin id))/\s.TypeIs v T/\wpAny (model X.prog X.w) X.A (getItem v (.ref sl)) (EP X pins σ Q) X.xe s
def tSl(r:V->Option Int->Option Int->Hp->VK->Prop)(te:TE)(tl th:TO):TE:=λ σ H Q=>te σ H λ x H1=>tl σ H1 λ l H2=>th σ H2 λ u H3=>r x l u H3 Q
theorem qfq(hr:SlR X r)(he:PE X e te)(hl:PO X lo tl)(hu:PO X hi th):PE X (.Subscript e (.Slice lo hi none p2) pos) (tSl r te tl th):=by
 intro pins s σ H Q I h;refine Subscript_ (thn (he pins s σ H _ I h) λ v s1 ⟨x,H1,I1,r1,q1⟩=>?_);refine wpAny_Slice (thn (hl pins s1 σ H1 _ I1 q1) λ vl s2 ⟨l,H2,I2,pl,q2⟩=>thn (hu pins s2 σ H2 _ I2 q2) λ vu s3 ⟨u,H3,I3,pu,q3⟩=>?_);rw[evalPart_none];refine Vm ?_;have I4:Inv X pins σ H3 { s3 with heap:=s3.heap.push { cls:=.type "slice",data:=.fields #[vl,vu,.none] } }:=I3.kept (t':=s3.toks) λ b ob q=>XG _ q
 obtain⟨T,id,hT,ht,hg⟩:=hr pins { s3 with heap:=s3.heap.push { cls:=.type "slice",data:=.fields #[vl,vu,.none] } } σ H3 x v vl vu l u s3.heap.objs.size Q I4 r1 (Heap.IsSliceOf.new ..) pl pu q3;show wpAny (model X.prog X.w) X.A (subscriptTail e (.Slice lo hi none p2) v (.ref s3.heap.objs.size)) (EP X pins σ Q) X.xe { s3 with heap:=s3.heap.push { cls:=.type "slice",data:=.fields #[vl,vu,.none] } }
 exact tail_any (ops:=[.ref s3.heap.objs.size,v]) ht hT hg (by with_unfolding_all rfl)
noncomputable def qfr(xs:List V)(lo hi:Option Int):List V:=(xs.drop (HT.sIx xs.length 0 lo)).take (HT.sIx xs.length xs.length hi-HT.sIx xs.length 0 lo)
theorem qfs(xs:List V)(lo hi:Option Int):(qfr xs lo hi).length<=xs.length:=by
 unfold qfr;rw[Ul,Um];omega
end
noncomputable def ixN(n:Nat)(i:Int):Option Nat:=if 0<=i then(if i<n then some i.toNat else none) else if -(n:Int)<=i then some (i+n).toNat else none
noncomputable def atI{α:Type}(xs:List α)(i:Int):Option α:=(ixN xs.length i).bind λ j=>xs[j]?
theorem qhC(h:ixN n i=some j):seqIndex? i n=some j/\j<n/\-(n:Int)<=i/\i<n:=by
 unfold ixN at h;by_cases h0:0<=i
 ·rw[V4 h0] at h;by_cases h1:i<n
  ·rw[V4 h1] at h;have e:i.toNat=j:=Option.some.inj h;exact⟨by rw[seqIndex_of h0 h1,e],by omega,by omega,h1⟩
  ·rw[V5 h1] at h;cases h
 ·rw[V5 h0] at h;by_cases h1:-(n:Int)<=i
  ·rw[V4 h1] at h;have e:(i+n).toNat=j:=Option.some.inj h;exact⟨by rw[seqIndex_neg (by omega) h1,e],by omega,h1,by omega⟩
  ·rw[V5 h1] at h;cases h
theorem qev{xs:List α}{v:α}(h:atI xs i=some v):∃ j,seqIndex? i xs.length=some j/\xs[j]?=some v/\j<xs.length/\-(xs.length:Int)<=i/\i<xs.length:=by
 unfold atI at h;cases e:ixN xs.length i with
 |none=>rw[e] at h;cases h
 |some j =>
  rw[e] at h;obtain⟨h1,h2,h3,h4⟩:=qhC e;exact⟨j,h1,h,h2,h3,h4⟩
theorem yr{xs:List α}{j:Nat}{v:α}(h:xs[j]?=some v):atI xs (j:Int)=some v:=by
 have hj:j<xs.length:=(Xn.mp h).1;have e:ixN xs.length (j:Int)=some j:=by
  unfold ixN;rw[V4 (by omega),V4 (by omega)];simp
 unfold atI;rw[e];exact h
theorem vU(xs:List α)(v:α):atI (xs++[v]) (-1)=some v:=by
 have hl:(xs++[v]).length=xs.length+1:=by simp
 have e:ixN (xs++[v]).length (-1)=some xs.length:=by
  unfold ixN;rw[hl,V5 (by decide),V4 (by omega)];congr 1
  omega
 unfold atI;rw[e];show(xs++[v])[xs.length]?=some v
 simp
def qlt(b:Expr):Prop:=∀ o i,subscripted b false o i=operate [o,i] (getItem o i)
def IxR(X:Cx)(r:R2):Prop:=
 ∀(value x9:Expr)(pins:List (Addr×Obj))(s:Shared)(σ:St)(H:Hp)(x y:V)(v u:Value)(Q:VK),Inv X pins σ H s->qS x v->qS y u->r x y H Q ->
  subscripted x9 false v u=operate [v,u] (getItem v u)->wpAny (model X.prog X.w) X.A (subscriptTail value x9 v u) (EP X pins σ Q) X.xe s
def MtR(X:Cx)(id:String)(r:V->List V->Hp->VK->Prop):Prop:=
 ∀(pins:List (Addr×Obj))(s:Shared)(σ:St)(H:Hp)(x:V)(xs:List V)(v:Value)(us:List Value)(Q:VK),Inv X pins σ H s->qS x v->qL xs us->r x xs H Q ->
  wpAny (model X.prog X.w) X.A (call (.builtin id) (v::us)) (EP X pins σ Q) X.xe s
section
variable {X:Cx}{a b:Expr}{ta tb:TE}{pos:Pos}
theorem qY(hr:IxR X r)(ha:PE X a ta)(hb:PE X b tb)(hs:qlt b):PE X (.Subscript a b pos) (tOp r ta tb):=by
 intro pins s σ H Q I h;exact Subscript_ (qmQ ha hb I h λ v u s2 x y H2 I2 rx ry q=>hr a b pins s2 σ H2 x y v u Q I2 rx ry q (hs _ _))
def qn6(K:W.Frag):R2:=λ x y H Q=>∃ p xs i v,x=.ref p/\y=.int i/\SqL K H p xs/\atI xs i=some v/\Q v H
def qlu(K:W.Frag):R2:=λ x y H Q=>∃ p xs i v,x=.ref p/\y=.int i/\SqT K H p xs/\atI xs i=some v/\Q v H
def qo3:R2:=λ x y H Q=>∃ z i c,x=.str z/\y=.int i/\z.length<=sizeLine/\atI z.cps.toList i=some c/\Q (.str ⟨#[c]⟩) H
theorem zj:IxR X (qn6 X.K):=by
 intro value x9 pins s σ H x y v u Q I rx ry h hs;obtain⟨p,xs,i,z,rfl,rfl,hq,he,q⟩:=h;cases rx
 obtain⟨t,rfl⟩:=ry;obtain⟨its,r,pl,hz⟩:=I.list hq;obtain⟨j,h1,h2,h3,h4,h5⟩:=qev he;obtain⟨w,ew,bV⟩:=r.get h2;have hl:=r.length;have hn:=vR;have fin:EP X pins σ Q w s:=⟨z,H,I,bV,q⟩;by_cases h0:0<=i
 ·have hj:i.toNat=j:=by
   rw[seqIndex_of h0 h5] at h1;exact Option.some.inj h1
  exact item_listR pl.isList h0 (by omega) (by rw[hj];simpa using ew) fin hs
 ·have hj:(i+(its.toArray.size:Int)).toNat=j:=by
   rw[seqIndex_neg (by omega) h4] at h1;rw[Zu,<- hl];exact Option.some.inj h1
  exact subscriptTail_builtinR (x:=w) pl.isList.typeIs slot_list_getitem.lookup
   (wpAny_getItem_list_neg (Q:=λ r s'=>r=w/\EP X pins σ Q r s') pl.isList (by omega) (by rw[Zu] <;> omega) (by omega) (by rw[hj];simpa using ew) ⟨rfl,fin⟩) hs
theorem zr:IxR X (qlu X.K):=by
 intro value x9 pins s σ H x y v u Q I rx ry h hs;obtain⟨p,xs,i,z,rfl,rfl,hq,he,q⟩:=h;cases rx
 obtain⟨t,rfl⟩:=ry;obtain⟨its,r,pl,hz⟩:=I.tuple hq;obtain⟨j,h1,h2,h3,h4,h5⟩:=qev he;obtain⟨w,ew,bV⟩:=r.get h2;have hl:=r.length;have hn:=vR;have fin:EP X pins σ Q w s:=⟨z,H,I,bV,q⟩;exact subscriptTail_builtinR (x:=w) pl.typeIs slot_tuple_getitem.lookup
  (getItem_tuple (j:=j) (Q:=λ r s'=>r=w/\EP X pins σ Q r s') pl (by omega) (by omega) (by rw[Zu,<- hl];exact h1) (by simpa using ew) ⟨rfl,fin⟩) hs
theorem qmZ:IxR X qo3:=by
 intro value x9 pins s σ H x y v u Q I rx ry h hs;obtain⟨z,i,c,rfl,rfl,hz,he,q⟩:=h;obtain⟨t,rfl⟩:=rx;obtain⟨t',rfl⟩:=ry;obtain⟨j,h1,h2,h3,h4,h5⟩:=qev he;have hl:z.cps.toList.length=z.length:=by simp[Str.length]
 rw[hl] at h1 h4 h5;have hn:=vR;exact tail_any (Vo s z t) slot_str_getitem.lookup (getItem_str (c:=c) (by
  have e1:decide (i < -(2^63:Int))=false:=Jl (by omega);have e2:decide (i ≥ 2^63)=false:=Jl (by omega);rw[e1,e2,Qm]) (by rw[h1];simpa using h2) ⟨.str ⟨#[c]⟩,H,I.tok _,⟨_,rfl⟩,q⟩) hs
theorem qgy(its:List Value)(n j:Nat)(u:Value):Obj.mapSeq (·.setIfInBounds j u) { cls:=.type "list",data:=.seq its.toArray n }={ cls:=.type "list",data:=.seq (its.set j u).toArray n }:=by
 simp[Obj.mapSeq]
theorem Inv.lst{pins:List (Addr×Obj)}{σ:St}{H:Hp}{s:Shared}{p:Addr}{xs:List V}(I:Inv X pins σ H s)(h:H p=some (.lst xs)):
  ∃(its:List Value)(n:Nat),qL xs its/\s.heap.get? p=some { cls:=.type "list",data:=.seq its.toArray n }/\xs.length<=sizeLine:=by
 obtain⟨z,its,n,r,e⟩:=I.hok p _ h;exact⟨its,n,r,e,z⟩
theorem Inv.lstUpd{σ:St} {its:List Value}(I:Inv X pins σ H s)(h:H p=some (.lst xs))(ho:s.heap.get? p=some { cls:=.type "list",data:=.seq its.toArray n })(hf:f { cls:=.type "list",data:=.seq its.toArray n }={ cls:=.type "list",data:=.seq its'.toArray n' })(r:qL ys its')(hz:ys.length<=sizeLine)(t:Nat):
  Inv X pins σ (upd H p (.lst ys)) { s with heap:=s.heap.update p f,toks:=t }:=by
 have e:(s.heap.update p f).get? p=some { cls:=.type "list",data:=.seq its'.toArray n' }:=by
  rw[XV f ho (by rw[hf] <;> rfl),hf]
 refine I.write (x:=p) (e:=p) (by rw[h];trivial) (.inl rfl) (λ b u hb q=>(XJ _ _ (Vz hb)).trans q) ⟨_,e⟩ ?_;exact⟨hz,its',n',r,e⟩
def qn7:V->V->V->Hp->(Hp->Prop)->Prop:=λ o i v H Q=>∃ p xs k j,o=.ref p/\i=.int k/\H p=some (.lst xs)/\ixN xs.length k=some j/\Q (upd H p (.lst (xs.set j v)))
theorem qa1:qnO X qn7:=by
 intro pins s σ H o i v ov iv u Q I ro ri rv h;obtain⟨p,xs,k,j,rfl,rfl,hp,hj,q⟩:=h;cases ro
 obtain⟨t,rfl⟩:=ri;obtain⟨its,n,r,ho,hz⟩:=I.lst hp;obtain⟨h1,h2,h3,h4⟩:=qhC hj;have hl:=r.length;have hn:=vR;have I':Inv X pins σ (upd H p (.lst (xs.set j v))) { s with heap:=s.heap.update p (Obj.mapSeq (·.setIfInBounds j u)) }:=
  I.lstUpd hp ho (qgy its n j u) (r.set rv j) (by rw[List.length_set];exact hz) s.toks
 by_cases h0:0<=k
 ·have hk:k.toNat=j:=by
   rw[seqIndex_of h0 h4] at h1;exact Option.some.inj h1
  exact W.ki_setAt ho h0 (by omega) (by rw[Zu,<- hl];exact h4) (by rw[hk];exact⟨_,I',q⟩)
 ·have hk:(k+(its.toArray.size:Int)).toNat=j:=by
   rw[seqIndex_neg (by omega) h3] at h1;rw[Zu,<- hl];exact Option.some.inj h1
  exact W.ki_setBack ho (by omega) (by rw[Zu,<- hl];exact h3) (by omega) (by rw[hk];exact⟨_,I',q⟩)
theorem qew(lo hi:Option Int)(n:Nat):(sliceBounds lo hi none n).1=((HT.sIx n 0 lo:Nat):Int)/\(sliceBounds lo hi none n).2.1=((HT.sIx n n hi:Nat):Int)/\(sliceBounds lo hi none n).2.2=1:=by
 refine⟨?_,?_,rfl⟩
 ·cases lo with
  |none=>simp[sliceBounds,HT.sIx]
  |some i =>
   simp only[sliceBounds,HT.sIx,Option.getD_none,show(1:Int) > 0 by decide,V1];by_cases h:i<0
   ·simp only[h,V1] <;> omega
   ·simp only[h,Vv] <;> omega
 ·cases hi with
  |none=>simp[sliceBounds,HT.sIx]
  |some i =>
   simp only[sliceBounds,HT.sIx,Option.getD_none,show(1:Int) > 0 by decide,V1];by_cases h:i<0
   ·simp only[h,V1] <;> omega
   ·simp only[h,Vv] <;> omega
theorem qdI(its:List Value)(lo hi:Option Int):slicePick its.toArray lo hi none=((its.drop (HT.sIx its.length 0 lo)).take (HT.sIx its.length its.length hi-HT.sIx its.length 0 lo)).toArray:=by
 obtain⟨h1,h2,h3⟩:=qew lo hi its.toArray.size;unfold slicePick;rw[h1,h2,h3];simp only[sliceRange_one,pick_run,Zu] <;> rfl
def qo4(K:W.Frag):V->Option Int->Option Int->Hp->VK->Prop:=λ x lo hi H Q=>∃ a xs,x=.ref a/\SqL K H a xs/\∀ p,H p=none->Q (.ref p) (upd H p (.lst (qfr xs lo hi)))
theorem qhD:SlR X (qo4 X.K):=by
 intro pins s σ H x v vl vu lo hi sl Q I rx hs pl pu h;obtain⟨a,xs,rfl,hx,q⟩:=h;cases rx
 obtain⟨its,r,ht,hz⟩:=I.list hx;have c7:=r.length;refine⟨"list",_,slot_list_getitem.lookup,ht.isList.typeIs,?_⟩;refine wpAny_getItem_list_slice ht.isList hs pl pu .none (by simp) ?_ (by rw[Zu] <;> omega);rw[qdI,<- c7];refine⟨.ref s.heap.objs.size,_,I.laid (t':=s.toks) (o:=.lst (qfr xs lo hi)) (λ b ob q=>XG _ q) (Vd _) ?_,rfl,q _ (I.hok.fresh (Vd _))⟩;exact⟨Qy (qfs xs lo hi) hz,_,0,(r.drop (HT.sIx xs.length 0 lo)).take (HT.sIx xs.length xs.length hi-HT.sIx xs.length 0 lo),Yy _ rfl⟩
noncomputable def qjo:V->Bool
 |.non=>true
 |.bl _=>true
 |.int _=>true
 |.str _=>true
 |_=>false
noncomputable def eqV:V->V->Bool
 |.non,.non=>true
 |.bl a,.bl b=>a == b
 |.bl a,.int b=>(if a then 1 else 0) == b
 |.int a,.bl b=>a == (if b then 1 else 0)
 |.int a,.int b=>a == b
 |.str a,.str b=>a == b
 |_,_=>false
theorem qm0(ry:qS y u)(rx:qS x v)(fy:qjo y=true)(fx:qjo x=true):SeqAt.EqAt A s u v (eqV y x):=by
 cases y with
 |non =>
  cases ry
  cases x with
  |non=>cases rx;exact SeqAt.EqAt.same _
  |bl b=>cases rx;exact SeqAt.EqAt.none_bool b
  |int b=>obtain⟨t,rfl⟩:=rx;exact SeqAt.EqAt.none_int b t
  |str b=>obtain⟨t,rfl⟩:=rx;exact SeqAt.EqAt.none_str b t
  |_=>exact absurd (show false=true from fx) Zf
 |bl a =>
  cases ry
  cases x with
  |non=>cases rx;exact SeqAt.EqAt.bool_none a
  |bl b=>cases rx;exact SeqAt.EqAt.bool_bool a b
  |int b=>obtain⟨t,rfl⟩:=rx;exact SeqAt.EqAt.bool_int a b t
  |str b=>obtain⟨t,rfl⟩:=rx;exact SeqAt.EqAt.bool_str a b t
  |_=>exact absurd (show false=true from fx) Zf
 |int a =>
  obtain⟨t',rfl⟩:=ry;cases x with
  |non=>cases rx;exact SeqAt.EqAt.int_none a t'
  |bl b=>cases rx;exact SeqAt.EqAt.int_bool a t' b
  |int b=>obtain⟨t,rfl⟩:=rx;exact SeqAt.EqAt.int_int a t' b t
  |str b=>obtain⟨t,rfl⟩:=rx;exact SeqAt.EqAt.int_str a t' b t
  |_=>exact absurd (show false=true from fx) Zf
 |str a =>
  obtain⟨t',rfl⟩:=ry;cases x with
  |non=>cases rx;exact SeqAt.EqAt.str_none a t'
  |bl b=>cases rx;exact SeqAt.EqAt.str_bool a t' b
  |int b=>obtain⟨t,rfl⟩:=rx;exact SeqAt.EqAt.str_int a t' b t
  |str b=>obtain⟨t,rfl⟩:=rx;exact SeqAt.EqAt.str_str a t' b t
  |_=>exact absurd (show false=true from fx) Zf
 |_=>exact absurd (show false=true from fy) Zf
theorem qex:OpR X (compareOp .NotIn) (λ x y H Q=>∃ i j,x=.str i/\y=.str j/\Q (.bl (!(!(Builtin.Str.occurrences j i 0 j.length 1).isEmpty))) H):=by
 intro pins s σ H x y v u Q I rx ry h;obtain⟨i,j,rfl,rfl,q⟩:=h;obtain⟨t,rfl⟩:=rx;obtain⟨t',rfl⟩:=ry;exact notIn_str ⟨.bl _,H,I,rfl,q⟩
theorem qA:y9 X (.builtin "len") (λ xs H Q=>∃ p ys,xs=[.ref p]/\(SqL X.K H p ys∨SqT X.K H p ys)/\Q (.int ys.length) H):=by
 intro pins s σ H xs us Q I r h;obtain⟨p,ys,rfl,hq,q⟩:=h;obtain⟨u,rfl,rx⟩:=yk r;cases rx
 have hn:=vR;rcases hq with hq|hq
 ·obtain⟨its,r',pl,hz⟩:=I.list hq;have c7:=r'.length;exact Calls.call_len_list pl.isList (by simp only[Zu] <;> omega) ⟨.int ys.length,H,I.tok _,⟨s.toks+1,by rw[Zu,c7]⟩,q⟩
 ·obtain⟨its,r',pl,hz⟩:=I.tuple hq;have c7:=r'.length;exact len_tuple pl (by simp only[Zu] <;> omega) ⟨.int ys.length,H,I.tok _,⟨s.toks+1,by rw[Zu,c7]⟩,q⟩
theorem zG:y9 X (.builtin "len") (λ xs H Q=>∃ z,xs=[.str z]/\z.length<=sizeLine/\Q (.int z.length) H):=by
 intro pins s σ H xs us Q I r h;obtain⟨z,rfl,hz,q⟩:=h;obtain⟨u,rfl,t,rfl⟩:=yk r;have hn:=vR;exact len_str (by omega) ⟨.int z.length,H,I.tok _,⟨_,rfl⟩,q⟩
theorem qa2:y9 X (.type "list") (λ xs H Q=>∃ p ys,xs=[.ref p]/\(SqL X.K H p ys∨SqT X.K H p ys)/\∀ l,H l=none->Q (.ref l) (upd H l (.lst ys))):=by
 intro pins s σ H xs us Q I r h;obtain⟨p,ys,rfl,hq,q⟩:=h;obtain⟨u,rfl,rx⟩:=yk r;cases rx
 have fin:∀(its:List Value),qL ys its->ys.length<=sizeLine->∀(h':Heap)(c':Nat),(∀ b o',s.heap.get? b=some o'->h'.get? b=some o') ->
   h'.get? s.heap.objs.size=some { cls:=.type "list",dict:=none,data:=.seq its.toArray c',slots:=#[] }->EP X pins σ Q (.ref s.heap.objs.size) { s with heap:=h' }:=λ its r' hz h' c' kp e =>
  ⟨.ref s.heap.objs.size,_,I.laid (t':=s.toks) kp (Vd _) (show zx X.prog X.w _ h' _ (.lst ys) from⟨hz,its,c',r',e⟩),rfl,q _ (I.hok.fresh (Vd _))⟩
 rcases hq with hq|hq
 ·obtain⟨its,r',pl,hz⟩:=I.list hq;have c7:=r'.length;obtain⟨o,ho,hc,n,hd⟩:=pl.isList;exact call_list_seq p (.inl rfl) ho hc hd (λ h' c' kp e=>fin its r' hz h' c' kp e) (by simp only[Zu] <;> omega)
 ·obtain⟨its,r',pl,hz⟩:=I.tuple hq;have c7:=r'.length;obtain⟨o,ho,hc,n,hd⟩:=pl;exact call_list_seq p (.inr rfl) ho hc hd (λ h' c' kp e=>fin its r' hz h' c' kp e) (by simp only[Zu] <;> omega)
theorem yJ:y9 X (.type "tuple") (λ xs H Q=>∃ p ys,xs=[.ref p]/\((SqL X.K H p ys/\∀ l,H l=none->Q (.ref l) (upd H l (.tup ys)))∨(SqT X.K H p ys/\Q (.ref p) H))):=by
 intro pins s σ H xs us Q I r h;obtain⟨p,ys,rfl,h⟩:=h;obtain⟨u,rfl,rx⟩:=yk r;cases rx
 rcases h with⟨hq,q⟩|⟨hq,q⟩
 ·obtain⟨its,r',pl,hz⟩:=I.list hq;have c7:=r'.length;refine call_tuple_list pl.isList (λ h' kp=>?_) (by simp only[Zu] <;> omega);have I1:Inv X pins σ H { s with heap:=h' }:=I.kept (t':=s.toks) kp;have I2:Inv X pins σ (upd H h'.objs.size (.tup ys)) { s with heap:=h'.push { cls:=.type "tuple",data:=.seq its.toArray } }:=
   I1.laid (t':=s.toks) (λ b o e=>XG _ e) (Vd _) (show zx X.prog X.w _ _ _ (.tup ys) from⟨hz,its,r',IsTup.new _ _⟩)
  exact⟨.ref h'.objs.size,_,I2,rfl,q _ (I1.hok.fresh (Vd _))⟩
 ·obtain⟨its,r',pl,hz⟩:=I.tuple hq;exact call_tuple_same pl ⟨.ref p,H,I,rfl,q⟩
def tyV(K:W.Frag)(T:String)(x:V)(H:Hp):Prop:=match x with
 | .str _=>T="str"
 | .int _=>T="int"
 | .ref p=>(T="list"/\∃ xs,SqL K H p xs)∨(T="tuple"/\∃ o,K.lookup p=some o/\o.cls=.type "tuple"/\o.dict=none) ∨
   (T="dict"/\((∃ kvs,H p=some (.dK kvs))∨∃ kvs,H p=some (.dT kvs)))∨(T="set"/\∃ S n,H p=some (.set S n))
 |_=>False
theorem qgz{σ:St}(I:Inv X pins σ H s)(r:qS x v)(ty:tyV X.K T x H):
  s.TypeIs v T/\∀ a,v=.ref a->∃ ob,s.heap.get? a=some ob/\ob.dict=none:=by
 cases x with
 |str z =>
  obtain⟨t,rfl⟩:=r;cases(show T="str" from ty)
  exact⟨Vo s z t,λ _ e=>nomatch e⟩
 |int i =>
  obtain⟨t,rfl⟩:=r;cases(show T="int" from ty)
  exact⟨typeIs_int s i t,λ _ e=>nomatch e⟩
 |ref p =>
  cases r
  rcases ty with⟨rfl,xs,hq⟩|⟨rfl,o,hk,hc,hd⟩|⟨rfl,hk⟩|⟨rfl,S,n,hk⟩
  ·obtain⟨its,_,pl,_⟩:=I.list hq;refine⟨pl.isList.typeIs,λ a e=>?_⟩;cases e
   obtain⟨o,n,e,c,hd,_⟩:=pl;exact⟨o,e,hd⟩
  ·refine⟨⟨o,I.kIn p o hk,hc⟩,λ a e=>?_⟩;cases e
   exact⟨o,I.kIn _ o hk,hd⟩
  ·have z:∃ o,s.heap.get? p=some o/\o.ExactDict:=by
    rcases hk with⟨kvs,hk⟩|⟨kvs,hk⟩
    ·obtain⟨_,_,_,_,o,_,_,e,ex,_⟩:=I.hok p _ hk;exact⟨o,e,ex⟩
    ·obtain⟨_,_,_,_,o,_,_,e,ex,_⟩:=I.hok p _ hk;exact⟨o,e,ex⟩
   obtain⟨o,e,ex⟩:=z;refine⟨⟨o,e,ex.1⟩,λ a e2=>?_⟩;cases e2
   exact⟨o,e,ex.2.1⟩
  ·obtain⟨o,_,_,_,e,ex,_⟩:=I.hok p _ hk;refine⟨⟨o,e,ex.1⟩,λ a e2=>?_⟩;cases e2
   exact⟨o,e,ex.2.1⟩
 |_=>exact False.elim ty
def qo5(K:W.Frag)(T:String)(r:V->List V->Hp->VK->Prop)(to:TE):TE:=λ σ H Q=>to σ H λ x H1=>tyV K T x H1/\r x [] H1 Q
def tBM(K:W.Frag)(T:String)(r:V->List V->Hp->VK->Prop)(to:TE)(t:TA):TE:=λ σ H Q=>to σ H λ x H1=>tyV K T x H1/\t σ H1 λ xs H2=>r x xs H2 Q
variable {o e:Expr}{es:List Expr}{to:TE}{t:TA}{name:Str}{apos cpos:Pos}{T id:String}{r:V->List V->Hp->VK->Prop}
theorem qey(pa:PlainAttrs T)(slot:Slot T name id)(hty:typeOf (.builtin id)=pure (.type "method_descriptor"))(hm:MtR X id r)(ho:PE X o to)(O8:attributeBase o name X.env (eval o X.env)=eval o X.env:=by rfl)(O5:(apos.endLine == cpos.line)=true:=by rfl):PE X (.Call (.Attribute o name apos) [] [] cpos) (qo5 X.K T r to):=by
 intro pins s σ H Q I h;refine wpAny_Call_method0_late O8 O5 (thn (ho pins s σ H _ I h) λ v s1 ⟨x,H1,I1,r1,ty,q1⟩=>?_);obtain⟨h1,h2⟩:=qgz I1 r1 ty;exact⟨T,id,pa,slot,hty,h1,h2,XH rfl (PySem.evalArgs_none (hm pins s1 σ H1 x [] v [] Q I1 r1 .nil q1))⟩
theorem yA(pa:PlainAttrs T)(slot:Slot T name id)(hty:typeOf (.builtin id)=pure (.type "method_descriptor"))(hm:MtR X id r)(ho:PE X o to)(ha:PA X (e::es) t)(O8:attributeBase o name X.env (eval o X.env)=eval o X.env:=by rfl)(hfew:((backTo cpos (starEach (e::es) X.env)).all (λ x=>!x.1) && (backToKw cpos (keywordEach [] X.env)).all (λ x=>x.1.isSome)
   && decide ((e::es).length+([]:List Keyword).length+(if ([]:List Keyword).isEmpty then 0 else 1)<30))=true:=by rfl)(O5:(apos.endLine == cpos.line)=true:=by rfl)(hs:starEach (e::es) X.env=(false,eval e X.env)::starEach es X.env:=by rfl)(M1:(backTo cpos (starEach es X.env)).any (·.1)=false:=by rfl):
  PE X (.Call (.Attribute o name apos) (e::es) [] cpos) (tBM X.K T r to t):=by
 intro pins s σ H Q I h;refine wpAny_Call_method_late O8 hfew O5 rfl (thn (ho pins s σ H _ I h) λ v s1 ⟨x,H1,I1,r1,ty,q1⟩=>?_);obtain⟨h1,h2⟩:=qgz I1 r1 ty;refine⟨T,id,pa,slot,hty,h1,h2,?_⟩;have hA:=ha cpos pins s1 σ H1 _ I1 q1;rw[hs] at hA ⊢;refine XH (by show(false || (backTo cpos (starEach es X.env)).any (·.1))=false;rw[M1] <;> rfl) (Calls.evalArgs_plain ?_);exact thn hA λ us s2 ⟨vs,H2,I2,r2,q2⟩=>hm pins s2 σ H2 x vs v us Q I2 r1 r2 q2
end
def MtM(X:Cx)(id:String)(r:V->List V->Hp->VK->Prop):Prop:=
 ∀(pins:List (Addr×Obj))(s:Shared)(σ:St)(H:Hp)(x:V)(xs:List V)(v:Value)(us:List Value)(Q:VK),Inv X pins σ H s->qS x v->qL xs us->r x xs H Q ->
  wpAny (model X.prog X.w) X.A (call (.builtin id) (v::us)) (EP X pins σ Q) X.xe s
theorem qL.one:∀{x:V}{us:List Value},qL [x] us->∃ u,us=[u]/\qS x u
 |_,_,.cons r .nil=>⟨_,rfl,r⟩
theorem qL.zero:∀{us:List Value},qL [] us->us=[]
 |_,.nil=>rfl
theorem qL.dropLast(h:qL xs us):qL xs.dropLast us.dropLast:=by
 induction h with
 |nil=>exact .nil
 |cons r t ih =>
  cases t with
  |nil=>exact .nil
  |cons q t'=>exact .cons r ih
theorem qL.rep(h:qL xs us):∀ k:Nat,qL (List.replicate k xs).flatten (List.replicate k us).flatten
 |0=>.nil
 |k+1=>by
  rw[Y0,Y0,Zw,Zw];exact qL.append h (qL.rep h k)
theorem qgA{α:Type}(l:List α):l.eraseIdx (l.length-1)=l.dropLast:=by
 induction l with
 |nil=>rfl
 |cons a r ih =>
  cases r with
  |nil=>rfl
  |cons b r =>
   have e:(a::b::r).length-1=((b::r).length-1)+1:=by
    have h1:(a::b::r).length=r.length+2:=rfl;have h2:(b::r).length=r.length+1:=rfl;omega
   rw[e,X7,ih]
   all_goals rfl
theorem qd1(its:List Value):∀(k:Nat)(c9:List Value),
  List.foldl (λ x1 x2=>x1++x2) c9.toArray (List.replicate k its.toArray)=(c9++(List.replicate k its).flatten).toArray
 |0,c9=>by simp
 |k+1,c9=>by
  have e:c9.toArray++its.toArray=(c9++its).toArray:=by simp
  have e2:(c9++its)++(List.replicate k its).flatten=c9++(List.replicate (k+1) its).flatten:=by
   rw[Y0,Zw,Zx]
  rw[<- e2,<- qd1 its k (c9++its),<- e,Y0,U8]
section
variable {X:Cx}{pins:List (Addr×Obj)}{σ:St}{H:Hp}{s:Shared}{l b:Addr}{xs ys zs:List V}
theorem Inv.lset {its:List Value}(I:Inv X pins σ H s)(hH:H l=some (.lst xs))(e:s.heap.get? l=some { cls:=.type "list",data:=.seq its.toArray n })(hf:f its.toArray=its'.toArray)(hv:qL ys its')(hz:ys.length<=sizeLine):
  Inv X pins σ (upd H l (.lst ys)) { s with heap:=s.heap.update l (Obj.mapSeq f),toks:=t' }:=by
 have q:=PySem.IsL.update e f;rw[hf] at q;refine I.write (x:=l) (e:=l) (by rw[hH];exact trivial) (.inl rfl) (λ b' u hb hu=>(XJ s.heap (Obj.mapSeq f) (Vz hb)).trans hu) ⟨_,q⟩ ?_;exact⟨hz,its',_,hv,q⟩
theorem Inv.lnew(I:Inv X pins σ H s)(hv:qL ys its)(hz:ys.length<=sizeLine):
  Inv X pins σ (upd H s.heap.objs.size (.lst ys)) { s with heap:=s.heap.push { cls:=.type "list",data:=.seq its.toArray },toks:=t' }:=
 I.laid (λ _ _ q=>XG _ q) (Vd _) ⟨hz,its,0,hv,Yy _ rfl⟩
theorem Inv.fresh(I:Inv X pins σ H s):H s.heap.objs.size=none:=I.hok.fresh (Vd _)
theorem Inv.lstM(I:Inv X pins σ H s)(hH:H l=some (.lst xs)):xs.length<=sizeLine/\∃(its:List Value)(n:Nat),qL xs its/\xs.length=its.length/\s.heap.get? l=some { cls:=.type "list",data:=.seq its.toArray n }:=by
 obtain⟨z,its,n,r,e⟩:=I.hok l _ hH;exact⟨z,its,n,r,r.length,e⟩
theorem qjp(h:n<=sizeLine):Builtin.List.listTooLong n=false:=by
 unfold Builtin.List.listTooLong;exact Jl (by omega)
end
section
variable {X:Cx}
def qlv:V->List V->Hp->VK->Prop:=λ x vs H Q=>∃ l xs y,x=.ref l/\vs=[y]/\H l=some (.lst xs)/\xs.length<sizeLine/\Q .non (upd H l (.lst (xs++[y])))
theorem zV:MtM X "list.append" qlv:=by
 intro pins s σ H x vs v us Q I rx rv h;obtain⟨l,xs,y,rfl,rfl,hH,hz,q⟩:=h;cases rx
 obtain⟨u,rfl,ru⟩:=rv.one;obtain⟨z,its,n,r,hl,e⟩:=I.lstM hH;refine Vp F.slot_list_append ⟨_,e,rfl⟩ F.entry_list_append (F.args_list_append_2 _ _) (PySem.list_append l its.toArray n u (by rw[Zu];omega)) ⟨e,?_⟩;refine⟨.non,_,I.lset (its':=its++[u]) hH e (by simp) (r.append (.cons ru .nil)) ?_,rfl,q⟩;rw[Zh,XW];omega
def qo6:V->List V->Hp->VK->Prop:=λ x vs H Q=>∃ l xs y,x=.ref l/\vs=[]/\H l=some (.lst xs)/\xs[xs.length-1]?=some y/\Q y (upd H l (.lst xs.dropLast))
theorem qez:MtM X "list.pop" qo6:=by
 intro pins s σ H x vs v us Q I rx rv h;obtain⟨l,xs,y,rfl,rfl,hH,hy,q⟩:=h;cases rx
 have hus:=rv.zero;subst hus;obtain⟨z,its,n,r,hl,e⟩:=I.lstM hH;obtain⟨u,hu,ru⟩:=r.get hy;have rH:its.toArray[its.toArray.size-1]?=some u:=by
  show its.toArray[its.length-1]?=some u
  rw[<- XX,<- hl];exact hu
 refine Vp F.slot_list_pop ⟨_,e,rfl⟩ F.entry_list_pop (F.args_list_pop_1 _) (MeetsSeq.list_pop_last l its.toArray n u rH (by rw[Zu];omega)) ⟨e,?_⟩;refine⟨y,_,I.lset (its':=its.dropLast) hH e ?_ r.dropLast ?_,ru,q⟩
 ·show its.toArray.eraseIdxIfInBounds (its.toArray.size-1)=its.dropLast.toArray
  rw[Zu,List.eraseIdxIfInBounds_toArray,qgA]
 ·rw[List.length_dropLast];omega
def qo7:R2:=λ x y H Q=>∃ l b xs zs,x=.ref l/\y=.ref b/\H l=some (.lst xs)/\H b=some (.lst zs)/\xs.length+zs.length<=sizeLine/\∀ p,H p=none->Q (.ref p) (upd H p (.lst (xs++zs)))
theorem qjq:OpR X (binaryOp .Add) qo7:=by
 intro pins s σ H x y v u Q I rx ry h;obtain⟨l,b,xs,zs,rfl,rfl,hH,hB,hz,q⟩:=h;cases rx
 cases ry
 obtain⟨z,its,n,r,hl,e⟩:=I.lstM hH;obtain⟨z2,o8,n2,r2,L5,e2⟩:=I.lstM hB;refine PySem.P.add_list e e2 ?_ (by rw[Zu,Zu];omega);have ea:its.toArray++o8.toArray=(its++o8).toArray:=by simp
 rw[ea];exact⟨.ref _,_,I.lnew (t':=s.toks) (r.append r2) (by rw[Zh];omega),rfl,q _ I.fresh⟩
def qo8:R2:=λ x y H Q=>∃ l k xs,x=.ref l/\y=.int k/\H l=some (.lst xs)/\-(2^63)<=k/\k<2^63/\xs.length*k.toNat<=sizeLine /\
 ∀ p,H p=none->Q (.ref p) (upd H p (.lst (List.replicate k.toNat xs).flatten))
theorem qlw{α:Type}(xs:List α)(k:Nat):(List.replicate k xs).flatten.length=k*xs.length:=by
 induction k with
 |zero=>simp
 |succ k ih=>rw[Y0,Zw,Zh,ih,Nat.succ_mul,Nat.add_comm]
theorem qm1:OpR X (binaryOp .Mult) qo8:=by
 intro pins s σ H x y v u Q I rx ry h;obtain⟨l,k,xs,rfl,rfl,hH,h1,h2,hz,q⟩:=h;cases rx
 obtain⟨t,rfl⟩:=ry;obtain⟨z,its,n,r,hl,e⟩:=I.lstM hH;have c7:its.toArray.size*k.toNat<=sizeLine:=by rw[Zu,<- hl];exact hz
 have hcap:¬ its.toArray.size*k.toNat > (2^63-1) / 8:=by
  have:(sizeLine:Nat)<=(2^63-1) / 8:=by decide
  omega
 have hfit:¬ (!Builtin.List.listFitsIndex k)=true:=by
  rw[fitsIndex_both h1 h2];exact Zf
 have sF:¬ Builtin.List.listTooLong (its.toArray.size*k.toNat)=true:=by
  rw[qjp c7];exact Zf
 have u7:List.foldl (λ x1 x2=>x1++x2) #[] (List.replicate (if its.toArray.isEmpty=true then 0 else k.toNat) its.toArray)=(List.replicate k.toNat its).flatten.toArray:=by
  have f0:∀ m:Nat,List.foldl (λ x1 x2=>x1++x2) #[] (List.replicate m its.toArray)=(List.replicate m its).flatten.toArray:=λ m=>by
   have:=qd1 its m []
   rw[U9] at this;exact this
  rw[f0];cases its with
  |nil=>simp
  |cons a r'=>rw[V5 (by simp)]
 refine wpAny_binaryOp_repeat_ref (T:="list") (U:="int") (by decide) ⟨_,e,rfl⟩ (λ s'=>typeIs_int s' k t) noFill_list_mul F.fills_int_mul F.slot_int_rmul repeat_list F.slot_int_index.lookup
  (Vp F.slot_int_rmul (typeIs_int s k t) F.entry_int_rmul (F.args_int_rmul_2 _ _) (int___rmul___int_list k t l its.toArray n)
   ⟨e,rfl,⟨_,e,rfl⟩,Vp F.slot_list_mul ⟨_,e,rfl⟩ F.entry_list_mul (F.args_list_mul_2 _ _) (AutoListH.list___mul___list_int_3 l its.toArray n k t hfit hcap sF) ⟨e,?_⟩⟩)
 rw[u7];exact⟨.ref _,_,I.lnew (t':=s.toks) (r.rep k.toNat) (by rw[qlw,Q2];exact hz),rfl,q _ I.fresh⟩
end
end L2
namespace Att
open PySem PySem.W PySem.Calls PyProof.Rows
theorem qb5:∀(ns:List Int)(vs:List Value),WellAll P h vs (ns.map WData.int)->IntsAre vs ns:=by
 intro ns;induction ns with
 |nil =>
  intro vs w;rw[Q1] at w;cases w
  exact .nil
 |cons n ns ih =>
  intro vs w;rw[Qj] at w;cases w with
  |cons a b =>
   cases a
   exact .cons _ _ (ih _ b)
theorem qip{l:OpenLaw}(hn:l.most=some n)(fK:l.row.toRowW.claim.pre args=true)(hwl:WellAll P h lD args):
  ∃ a vs ns,lD=[Value.ref a]/\args=[WData.list (ns.map WData.int)]/\h.get? a=some { cls:=.type "list",data:=.seq vs.toArray }/\IntsAre vs ns/\ns.length<=n:=by
 have hsh:WShape.hasAll [] args [.list .int]=true:=(pre_splitW fK).1;have hc:l.pre.holds [] { args:=args }=true:=(pre_splitW fK).2;obtain⟨d,r,rfl,h1,h2⟩:=hasAllW_cons hsh;obtain rfl:=hasAllW_nil h2;obtain⟨xs,rfl,h3⟩:=hasW_list h1;obtain⟨ns,rfl⟩:=items_int h3;have c7:ns.length<=n:=by
  unfold OpenLaw.pre at hc;have h4:(WTm.not (.lt (.lit (.int (n:Int))) (.len (.arg 0)))).holds [] { args:=[.list (ns.map .int)] }=true:=by
   have h4:=(holds_andW hc).1;rw[hn] at h4;exact h4
  have h5:=condW_of h4 (w_not (w_lt w_lit (w_len_list (w_arg rfl))));rw[U3] at h5;refine Nat.le_of_not_lt λ q=>?_
  have q':(n:Int)<((ns.length:Nat):Int):=by omega
  first
   |(rw[Qa q'] at h5;exact absurd h5 (by decide))
   |(simp at h5;omega)
 cases hwl with
 |cons w1 w2 =>
  cases w2
  cases w1 with
  |list ho aJ=>exact⟨_,_,ns,rfl,rfl,ho,qb5 ns _ aJ,c7⟩
theorem qiq(l:OpenLaw)(args:List WData):l.row.toRowW.claim.post args (.bool true) args=true:=
 postW_of (r:=l.row.toRowW) (X:=(true == true))
  (show WShape.has [] (.bool true) .bool=true by first|rfl|decide|simp[WShape.has,WShape.arms,WShape.armsAll])
  (show(WTm.eq .res (.lit (.bool true))).value [] { args:=args,res:=some (.bool true),after:=args }=some (.bool (true == true)) from w_eq_bool (w_res rfl) w_lit) rfl
theorem attach_call{l:OpenLaw}(hn:l.most=some n)(sU:d.params.defaults=[])(call:∀(w:World)(s₀ s₁:Shared)(mg mb:Str->Option Value)(fa:Addr)(o:Obj)(pm cd doc:Value)(a:Addr)(vs:List Value)(ns:List Int),
   Ground q L1 [] XP w s₀ mg mb s₁.heap->YP w s₁.heap ->
   s₁.heap.get? fa=some o->o.data=.func (docDef d.name d.params d.body d.scope pm cd doc)->s₁.heap.CodeRec cd d.name->mg d.name=some (.ref fa) ->
   s₁.heap.get? a=some { cls:=.type "list",data:=.seq vs.toArray }->IntsAre vs ns->ns.length<=n->s₁.gens=#[] ->
   codeAny (model l.prog w) callerA (.call (.ref fa) ⟨[.ref a],[]⟩) (λ r s'=>r=.ok (.ret (.bool true))/\OldK s₁.heap s'.heap/\s'.os=s₁.os/\AllBare s'.gens) s₁):
  WalkO q L1 XP YP l.row.toRowW d [] (λ f vs=>PySem.call f vs):=by
 intro w s₀ s₁ mg mb G Y fa o pm cd doc dV kV ho hd R9 hD sD hg args lD as fK hlay hrd hwl hlo;obtain rfl:dV=.none:=Dflts.none hD sU;obtain rfl:kV=.none:=Dflts.noKw hD;obtain⟨a,vs,ns,rfl,rfl,mK,cJ,c7⟩:=qip hn fK hwl;refine enter_call (Va (call w s₀ s₁ mg mb fa o pm cd doc a vs ns G Y ho (fd_plain hd) R9 sD mK cJ c7 hg) λ r s' hq=>?_);obtain⟨rfl,h2,h3,h4⟩:=hq;exact⟨.inl ⟨.bool true,.bool true,[],rfl,λ _=>rfl,.bool true,qiq l _,λ _=>⟨List.Pairwise.nil,λ _ hm=>(nomatch hm)⟩⟩,h2,h3,h4⟩
end Att
namespace L2
open PySem PySem.Spec PyProof.Rows
theorem qd2:∀{vs:List Value}{ns:List Int},IntsAre vs ns->qL (ns.map V.int) vs
 |_,_,.nil=>.nil
 |_,_,.cons n t h=>.cons ⟨t,rfl⟩ (qd2 h)
def qm2(H:Hp):Prop:=∀ b,H b=none∨∃ o xs,H b=some (.frz o (.lst xs))
theorem qjr{K:W.Frag}(KX:K.In s₁.heap)(hns:s₁.heap.Ns mainGlobals mg)(hb:s₁.heap.Ns builtinsNs mb)(fX:∀ x:Str,x≠"__name__"->mb x=bootBuiltins x)(hlim:s₁.heap.NoLimit)(hg:s₁.gens=#[])(ha:s₁.heap.get? a=some { cls:=.type "list",data:=.seq vs.toArray })(hi:IntsAre vs ns)(hl:ns.length<=sizeLine)(hr:Room k callerA)(F:∀ base:Heap,K.In base->base.Ns mainGlobals mg->FnOk P w K mg base CX k fa fd [x] sp)(sW:∀(s:Shared)(u:Value),BindsTo s fd ⟨[u],[]⟩ [(x,u)])(P6:∀ H:Hp,qm2 H->SqL K H a (ns.map V.int)->sp [.ref a] H (λ v _=>v=.bl true) λ _ _ _=>False)(hCX:∀ H e s',CX [] H s₁ (λ _ _ _=>False) e s'->False):
  codeAny (model P w) callerA (.call (.ref fa) ⟨[.ref a],[]⟩) (λ r s'=>r=.ok (.ret (.bool true))/\OldK s₁.heap s'.heap/\s'.os=s₁.os/\AllBare s'.gens) s₁:=by
 have rv:=qd2 hi;have lenV:=hi.length;have uL:∀ H:Hp,qm2 H->SqL K H a (ns.map V.int)->HOk P w H s₁.heap->(∀ b,H b≠none->b=a)->(H a≠none->K.lookup a=none) ->
   codeAny (model P w) callerA (.call (.ref fa) ⟨[.ref a],[]⟩) (λ r s'=>r=.ok (.ret (.bool true))/\OldK s₁.heap s'.heap/\s'.os=s₁.os/\AllBare s'.gens) s₁:=by
  intro H hO hS hok hA hK;have W7:∀{b:Addr}{o:Obj},s₁.heap.get? b=some o->H b=none->(qeq s₁.heap H).get? b=some o:=λ e n=>qi9 e n
  have pM:∀{b:Addr}{o:Obj}{es:Array DictEntry}{ep:Nat},s₁.heap.get? b=some o->o.data=.dict es ep->H b=none:=λ{b o es ep} e d=>by
   cases q:H b with
   |none=>rfl
   |some u =>
    have e':b=a:=hA b (by rw[q];simp);subst e';rw[ha] at e;cases e;have d':Data.seq vs.toArray _=Data.dict es ep:=d;cases d'
  have wI:∀{b:Addr}{m:Str->Option Value},s₁.heap.Ns b m->(qeq s₁.heap H).Ns b m:=λ{b m} ⟨o,es,ep,e,d,r⟩=>⟨o,es,ep,W7 e (pM e d),d,r⟩
  have hKb:K.In (qeq s₁.heap H):=λ b o e=>W7 (KX b o e) (by
   cases q:H b with
   |none=>rfl
   |some u =>
    have e':b=a:=hA b (by rw[q];simp);subst e';rw[hK (by rw[q];simp)] at e;cases e)
  have hM:Mod K mg (qeq s₁.heap H):=⟨hKb,wI hns,⟨mb,wI hb,fX⟩,let ⟨mc,h1,h2⟩:=hlim;⟨mc,wI h1,h2⟩⟩;have e0:Env0 P w K mg (qeq s₁.heap H) callerA [] s₁ H:=⟨rfl,hM,λ b o e=>qlg e,Nat.le_of_eq (qic _ _),trivial,λ b hb=>absurd (show b∈([]:List Addr) from hb) (by simp),hok,.of_eq hg⟩;refine Va ((F _ hKb (wI hns)).run callerA [] s₁ H ⟨[.ref a],[]⟩ [.ref a] [.ref a] _ _ hr e0 (sW s₁ (.ref a)) (.cons rfl .nil) (P6 H hO hS)) λ r s' h=>?_
  cases r with
  |error e=>exact(hCX H e s' h).elim
  |ok fl =>
   cases fl with
   |next=>exact False.elim h
   |brk=>exact False.elim h
   |cont=>exact False.elim h
   |ret u =>
    obtain⟨v,H',os,bare,un,hok',r',q⟩:=h;have q':v=.bl true:=q;subst q';obtain rfl:u=Value.bool true:=r';refine⟨rfl,OldK.of_keep λ b o e=>?_,os,bare⟩;cases q:H b with
    |none=>exact un.keep b o e q (by intro z;exact absurd (show b∈([]:List Addr) from z) (by simp)) (by simp)
    |some u =>
     rcases hO b with z|⟨ob,xs,z⟩
     ·rw[q] at z;cases z
     ·have z2:=un.frzs b ob _ z;obtain⟨e1,_⟩:=hok b _ z;obtain⟨e2,_⟩:=hok' b _ z2;rw[e] at e1;cases e1;exact e2
 cases hk:K.lookup a with
 |some o =>
  have e:=KX a o hk;rw[ha] at e;cases e
  refine uL (λ _=>none) (λ _=>.inl rfl) (.inr ⟨_,vs.toArray,_,hk,rfl,rfl,rfl,by rw[Zu,lenV];exact hl,by simpa using rv⟩) (λ b u z=>by have z':(none:Option HO)=some u:=z;cases z') (λ b z=>absurd rfl z) λ z=>absurd rfl z
 |none =>
  refine uL (λ b=>if b=a then some (.frz { cls:=.type "list",data:=.seq vs.toArray } (.lst (ns.map V.int))) else none) (λ b=>?_) (.inl (.inr ⟨{ cls:=.type "list",data:=.seq vs.toArray },V4 rfl⟩)) (λ b u z=>?_) (λ b z=>?_) λ _=>hk
  ·by_cases hb:b=a
   ·exact .inr ⟨_,_,V4 hb⟩
   ·exact .inl (V5 hb)
  ·by_cases hb:b=a
   ·have z':=(V4 hb).symm.trans z;cases z'
    subst hb;exact⟨ha,by rw[U3];exact hl,vs,_,rv,ha⟩
   ·have z':=(V5 hb).symm.trans z;cases z'
  ·by_cases hb:b=a
   ·exact hb
   ·exact absurd (V5 hb) z
theorem walk_of{l:W.OpenLaw}{K:Params->W.Frag}{CX:World->CXT}{sp:World->Sp}(hn:l.most=some n)(aU:n<=sizeLine)(sU:d.params.defaults=[])(hr:Room k callerA)(hY:∀(w:World)(h:Heap),YP w h->(K w.params).In h)(F:∀(w:World)(mg:Str->Option Value)(fa:Addr)(h:Heap),(K w.params).In h->h.Ns mainGlobals mg->mg d.name=some (.ref fa) ->
   ∃ fd:FuncData,(∀(s:Shared)(u:Value),BindsTo s fd ⟨[u],[]⟩ [(x,u)]) /\
    ∀ base:Heap,(K w.params).In base->base.Ns mainGlobals mg->FnOk l.prog w (K w.params) mg base (CX w) k fa fd [x] (sp w))(P6:∀(w:World)(H:Hp)(a:Addr)(ns:List Int),ns.length<=n->qm2 H->SqL (K w.params) H a (ns.map V.int)->sp w [.ref a] H (λ v _=>v=.bl true) λ _ _ _=>False)(hCX:∀(w:World)(H:Hp)(s:Shared)(e:Value)(s':Shared),CX w [] H s (λ _ _ _=>False) e s'->False):
  PySem.W.WalkO q L1 XP YP l.row.toRowW d [] (λ f vs=>PySem.call f vs):=by
 refine Att.attach_call hn sU λ w s₀ s₁ mg mb fa o pm cd doc a vs ns G Y ho hd R9 sD mK cJ c7 hg=>?_
 have KX:=hY w _ Y;obtain⟨fd,hb,hF⟩:=F w mg fa _ KX G.T.g sD;exact qjr KX G.T.g G.T.b G.T.builtins G.T.nolimit hg mK cJ (Qy c7 aU) hr hF hb (λ H hO hS=>P6 w H a ns c7 hO hS) λ H e s'=>hCX w H s₁ e s'
noncomputable def za(s:Stmt)(j:Nat):Stmt:=match s with
 |.ClassDef _ _ _ body _ _ _ _ _ _ _=>body.getD j (.Pass ⟨0,0,0,0⟩)
 |_=>.Pass ⟨0,0,0,0⟩
noncomputable def qa3(s:Stmt):Arguments:=match s with
 |.FunctionDef _ a _ _ _ _ _ _ _ _=>a
 |_=>{ posonlyargs:=[],args:=[],vararg:=none,kwonlyargs:=[],kw_defaults:=[],kwarg:=none,defaults:=[] }
noncomputable def j3(s:Stmt):List Stmt:=match s with
 |.FunctionDef _ _ b _ _ _ _ _ _ _=>b
 |_=>[]
noncomputable def qj(s:Stmt):Scope:=match s with
 |.FunctionDef _ _ _ _ _ _ sc _ _ _=>sc
 |_=>{ kind:=.function,names:=[],isGenerator:=false,isCoroutine:=false }
abbrev CX0:CXT:=λ _ _ _ _ _ _=>False
abbrev E0:XK:=λ _ _ _=>False
theorem qG:qay CX0 X E0:=λ _ _ _ _ _ _ _ h=>h.elim
structure Fun(K:W.Frag)(x qual:Str)(st:Stmt)(f:Addr)(fd:FuncData):Prop where
 ex:∃(oc:Value)(od:Option Addr)(kV doc pm:Value)(an:Option Addr)(cdv ct:Value)(osl:Array (Option Value)),
  fd=W.fnOf x qual (qa3 st) (j3 st) (qj st) .none kV doc pm an cdv ct/\K.lookup f=some ⟨oc,od,.func fd,osl⟩/\W.codeIn K cdv qual=true
 kp:W.keepIn K (.ref f)=true
section
variable {P:Program}{w:World}{K:W.Frag}{mg:Str->Option Value}{base:Heap}
theorem qir{X:Cx}{k:Nat}{f:Addr}{fd:FuncData}{ps:List Str}{sp:Sp}{x:Str}{p pos:Pos}{e:Expr}{es:List Expr}{t:TA}(F:FnOk X.prog X.w X.K X.mg X.base CX0 k f fd ps sp)(hr:Room k X.A)(hm:X.mg x=some (.ref f))(hk:W.keepIn X.K (.ref f)=true)(hb:qh X.K fd ps [])(ha:PA X (e::es) t)(hg:Gl X x:=by rfl)(aI:(x == ("__debug__":Str))=false:=by decide)(he:starEach (e::es) X.env=(false,eval e X.env)::starEach es X.env:=by rfl)(p8:(backTo pos (starEach es X.env)).any (·.1)=false:=by rfl):PE X (.Call (.Name x p) (e::es) [] pos) (qbV sp [] E0 t):=qZ F hr hg hm hk hb .nil qG ha aI he p8
structure Dp(P:Program)(w:World)(K:W.Frag)(mg:Str->Option Value)(base:Heap)(k:Nat)(f:Addr)(d:FuncData)(ps:List Str)(sp:Sp)(x:Str):Prop where
 g:FnOk P w K mg base CX0 k f d ps sp
 b:qh K d ps []
 e:W.keepIn K (.ref f)=true
 m:mg x=some (.ref f)
theorem zk{X:Cx}{k:Nat}{f:Addr}{fd:FuncData}{ps:List Str}{sp:Sp}{x:Str}{p pos:Pos}{e:Expr}{es:List Expr}{t:TA}(D:Dp X.prog X.w X.K X.mg X.base k f fd ps sp x){j:Nat}(hr:Room j X.A)(ha:PA X (e::es) t)(hg:Gl X x:=by rfl)(aI:(x == ("__debug__":Str))=false:=by decide)(he:starEach (e::es) X.env=(false,eval e X.env)::starEach es X.env:=by rfl)(p8:(backTo pos (starEach es X.env)).any (·.1)=false:=by rfl)(hj:k<=j:=by decide):PE X (.Call (.Name x p) (e::es) [] pos) (qbV sp [] E0 t):=qir D.g (hr.mono hj) D.m D.e D.b ha hg aI he p8
theorem Fun.ok{st:Stmt}(F:Fun K x qual st f fd)(S:FnScope N ps (qj st))(len:∀ vs H Q E,sp vs H Q E->vs.length=ps.length)(O7:∀(cdv:Value)(A:Around)(outer:List Env)(s:Shared)(H:Hp)(vs:List V)(Q:VK)(E:XK),Room k (A.deeper (envOfC qual (qj st) s.heap.objs.size f cdv))->sp vs H Q E ->
   ∃ t,PSs (qgw CX0 P w K mg base N qual (qj st) f cdv A outer s H E).nox (j3 st) t/\t { nx:=λ _ H'=>Q .non H',rt:=Q } (qaY N vs) H):FnOk P w K mg base CX0 (k+1) f fd ps sp:=by
 obtain⟨oc,od,kV,doc,pm,an,cdv,ct,osl,rfl,lk,R9⟩:=F.ex;refine qnY lk R9 S len λ A outer s H vs Q E hr P6=>?_
 obtain⟨t,h,q⟩:=O7 cdv A outer s H vs Q E hr P6;exact⟨t,h.nox,q⟩
theorem Fun.okd{x qual:Str}{st:Stmt}{f:Addr}{fd:FuncData}{N ps:List Str}{k:Nat}{sp:Sp}(F:Fun K x qual st f fd)(S:FnScope N ps (qj st))(O7:∀(cdv:Value)(A:Around)(outer:List Env)(s:Shared)(H:Hp)(vs:List V)(Q:VK)(E:XK),Room k (A.deeper (envOfC qual (qj st) s.heap.objs.size f cdv))->sp vs H Q E ->
   ∃ t,PSs (qgw CX0 P w K mg base N qual (qj st) f cdv A outer s H E).nox (j3 st) t/\t { nx:=λ _ H'=>Q .non H',rt:=Q } (qaY N vs) H)(len:∀ vs H Q E,sp vs H Q E->vs.length=ps.length:=by intro vs H Q E h;repeat (first|(obtain⟨rfl,_⟩:=h;rfl)|(obtain⟨_,h⟩:=h))):FnOk P w K mg base CX0 (k+1) f fd ps sp:=F.ok S len O7
theorem ls1{us:List Value}(h:us.length=1):∃ a,us=[a]:=match us,h with| [a],_=>⟨a,rfl⟩
theorem ls2{us:List Value}(h:us.length=2):∃ a b,us=[a,b]:=match us,h with| [a,b],_=>⟨a,b,rfl⟩
theorem ls3{us:List Value}(h:us.length=3):∃ a b c,us=[a,b,c]:=match us,h with| [a,b,c],_=>⟨a,b,c,rfl⟩
theorem ls4{us:List Value}(h:us.length=4):∃ a b c d,us=[a,b,c,d]:=match us,h with| [a,b,c,d],_=>⟨a,b,c,d,rfl⟩
theorem Fun.binds{x qual:Str}{st:Stmt}{f:Addr}{fd:FuncData}{ps:List Str}(F:Fun K x qual st f fd)(h:∀(kV doc pm:Value)(an:Option Addr)(cdv ct:Value)(us:List Value),us.length=ps.length->bindArgs (W.fnOf x qual (qa3 st) (j3 st) (qj st) .none kV doc pm an cdv ct) ⟨us,[]⟩=pure (ps.zip us):=by intro _ _ _ _ _ _ us hl;first|(obtain⟨_,rfl⟩:=ls1 hl;rfl)|(obtain⟨_,_,rfl⟩:=ls2 hl;rfl)|(obtain⟨_,_,_,rfl⟩:=ls3 hl;rfl)|(obtain⟨_,_,_,_,rfl⟩:=ls4 hl;rfl)):qh K fd ps []:=by
 obtain⟨oc,od,kV,doc,pm,an,cdv,ct,osl,rfl,lk,R9⟩:=F.ex;exact .all (h kV doc pm an cdv ct)
theorem fun_mk{st:Stmt} {kV:Value}(l:K.lookup f=some ⟨oc,od,.func (W.fnOf x qual (qa3 st) (j3 st) (qj st) .none kV doc pm an cdv ct),osl⟩)(c:W.codeIn K cdv qual=true)(k:W.keepIn K (.ref f)=true):Fun K x qual st f (W.fnOf x qual (qa3 st) (j3 st) (qj st) .none kV doc pm an cdv ct):=⟨⟨oc,od,kV,doc,pm,an,cdv,ct,osl,rfl,l,c⟩,k⟩
end
theorem jv(hr:Room k A):A.units+1<cLine:=Zi (Nat.add_le_add_left (by decide:1<=64) _) hr.units
section
variable {X:Cx}
theorem pv(i:Nat){x:Str}{pos:Pos}(hN:X.N[i]?=some x:=by rfl)(hv:Vis X.env.scope x:=by first | exact Or.inl rfl | exact Or.inr (Or.inl rfl) | exact Or.inr (Or.inr rfl))(hd:(x == ("__debug__":Str))=false:=by decide)(R9:(x == ("__classdict__":Str))=false:=by decide):PE X (.Name x pos) (qfh i):=qmL hN hv hd R9
end
theorem yp {B:Prop}(h:B):if false=true then A else B:=by
 rw[V5 Zf];exact h
theorem j4 {B:Prop}(h:A):if true=true then A else B:=by
 rw[V4 rfl];exact h
theorem vV{c A B:Prop}[Decidable c](h1:c->A)(h2:¬ c->B):if c then A else B:=by
 by_cases h:c
 ·rw[V4 h];exact h1 h
 ·rw[V5 h];exact h2 h
def qk(H H':Hp):Prop:=∀ b o,H b=some o->H' b=some o
theorem qk.refl(H:Hp):qk H H:=λ _ _ h=>h
theorem qk.trans(a:qk H H1)(b:qk H1 H2):qk H H2:=λ c o h=>b c o (a c o h)
theorem qk.free(e:qk H H')(h:H' l=Option.none):H l=Option.none:=by
 cases q:H l with
 |none=>rfl
 |some o =>
  rw[e l o q] at h;cases h
theorem qk.seq{K:W.Frag}(e:qk H H')(h:SqL K H a xs):SqL K H' a xs:=by
 rcases h with(h|⟨o,h⟩)|h
 ·exact .inl (.inl (e _ _ h))
 ·exact .inl (.inr ⟨o,e _ _ h⟩)
 ·exact .inr h
end L2
namespace Fs
abbrev Pr:=List Nat
theorem vW{α:Type}{r:α->α->Prop}(pZ:∀ a,¬ r a a)(uY:∀ a b,r a b->¬ r b a):∀{l m:List α},l.Pairwise r->m.Pairwise r->(∀ x,x∈l ↔ x∈m)->l=m
 | [],[],_,_,_=>rfl
 | [],b::m,_,_,h=>by have:=(h b).mpr Ze;cases this
 |a::l,[],_,_,h=>by have:=(h a).mp Ze;cases this
 |a::l,b::m,hl,hm,h=>by
  have P7:=Zj.mp hl;have oJ:=Zj.mp hm;have ab:a=b:=by
   rcases Qi.mp ((h a).mp Ze) with e|e
   ·exact e
   ·rcases Qi.mp ((h b).mpr Ze) with e' | e'
    ·exact e'.symm
    ·exact absurd (oJ.1 a e) (uY _ _ (P7.1 b e'))
  subst ab
  have:l=m:=vW pZ uY P7.2 oJ.2 λ x=>by
   constructor
   ·intro hx;rcases Qi.mp ((h x).mp (Yl _ hx)) with e | e
    ·subst e;exact absurd (P7.1 x hx) (pZ x)
    ·exact e
   ·intro hx;rcases Qi.mp ((h x).mpr (Yl _ hx)) with e | e
    ·subst e;exact absurd (oJ.1 x hx) (pZ x)
    ·exact e
  rw[this]
theorem qeA(a:Pr):¬ a<a:=List.lt_irrefl a
theorem qft(a b:Pr)(h:a<b):¬ b<a:=λ h'=>qeA a (List.lt_trans h h')
structure Vf(F:List Pr):Prop where
 rise:F.Pairwise (·<·)
 prod:∀ p∈F,p.Pairwise (·<·)
theorem qQ{α:Type}{r:α->α->Prop}(pZ:∀ a,¬ r a a):∀{l:List α},l.Pairwise r->l.Nodup:=λ{l} h=>h.imp λ{a b} A1 e=>by subst e;exact pZ _ A1
theorem Vf.nodup(h:Vf F):F.Nodup:=qQ qeA h.rise
theorem Vf.ext(hF:Vf F)(hG:Vf G)(h:∀ p,p∈F ↔ p∈G):F=G:=vW qeA qft hF.rise hG.rise h
noncomputable def qu(ρ:Nat->Bool):List Pr->Bool
 | []=>false
 |p::F=>xor (p.all ρ) (qu ρ F)
theorem jc(ρ:Nat->Bool):∀ F G:List Pr,qu ρ (F++G)=xor (qu ρ F) (qu ρ G)
 | [],G=>by simp[qu]
 |p::F,G=>by
  show xor (p.all ρ) (qu ρ (F++G))=_
  rw[jc ρ F G];show _=xor (xor (p.all ρ) (qu ρ F)) (qu ρ G)
  rw[Jv]
theorem j5(ρ:Nat->Bool)(h:F.Perm G):qu ρ F=qu ρ G:=by
 induction h with
 |nil=>rfl
 |cons x _ ih=>show xor _ _=xor _ _;rw[ih]
 |swap x y l=>show xor _ (xor _ _)=xor _ (xor _ _);rw[<- Jv,<- Jv,Bool.xor_comm (y.all ρ)]
 |trans _ _ a b=>exact a.trans b
theorem vX(ρ:Nat->Bool)(q:Pr->Bool):∀ F:List Pr,qu ρ F=xor (qu ρ (F.filter q)) (qu ρ (F.filter λ p=>!q p))
 | []=>rfl
 |p::F=>by
  have ih:=vX ρ q F;cases h:q p with
  |true =>
   rw[X8 h,X9 (by simp[h])];show xor _ _=xor (xor _ _) _
   rw[ih,Jv]
  |false =>
   rw[X9 (by simp[h]),X8 (by simp[h])];show xor _ _=xor _ (xor _ _)
   rw[ih];cases p.all ρ <;> cases qu ρ (F.filter q) <;> cases qu ρ (F.filter λ p=>!q p) <;> rfl
noncomputable def qcG(F G:List Pr):List Pr:=F.filter (λ p=>!G.contains p)++G.filter (λ p=>!F.contains p)
theorem vY:p∈qcG F G ↔ ((p∈F/\p∉G)∨(p∈G/\p∉F)):=by
 simp[qcG,U1,U0]
theorem qcH(ρ:Nat->Bool)(hF:F.Nodup)(hG:G.Nodup):qu ρ (qcG F G)=xor (qu ρ F) (qu ρ G):=by
 have e1:=vX ρ (λ p=>G.contains p) F;have e2:=vX ρ (λ p=>F.contains p) G;have e3:qu ρ (F.filter λ p=>G.contains p)=qu ρ (G.filter λ p=>F.contains p):=by
  refine j5 ρ ?_;rw[Xi (hF.filter _) (hG.filter _)];intro p;simp only[U0,XY];exact⟨λ ⟨a,b⟩=>⟨b,a⟩,λ ⟨a,b⟩=>⟨b,a⟩⟩
 rw[qcG,jc,e1,e2,e3];cases qu ρ (G.filter λ p=>F.contains p) <;> cases qu ρ (F.filter λ p=>!G.contains p) <;> cases qu ρ (G.filter λ p=>!F.contains p) <;> rfl
theorem qaz(hF:F.Nodup)(hG:G.Nodup):(qcG F G).Nodup:=by
 refine Zy.mpr ⟨hF.filter _,hG.filter _,?_⟩;intro a ha b hb e;subst e;simp[U0] at ha hb;exact hb.2 ha.1
theorem zW{α:Type}[DecidableEq α]:∀{l m:List α},l.Nodup->(∀ x∈l,x∈m)->l.length<=m.length
 | [],_,_,_=>Ve _
 |a::l,m,nd,h=>by
  have x3:=U5.mp nd;have ha:a∈m:=h a Ze
  have:=zW (l:=l) (m:=m.erase a) x3.2 λ x hx=>(List.mem_erase_of_ne (λ(e:x=a)=>x3.1 (by rw[<- e];exact hx))).mpr (h x (Yl _ hx))
  rw[List.length_erase_of_mem ha] at this
  have:0<m.length:=List.length_pos_of_mem ha
  rw[Uj];omega
theorem qgB {q:Pr}(hp:p.Pairwise (·<·))(hq:q.Pairwise (·<·))(h:∀ x∈q,x∈p)(hl:p.length<=q.length):q=p:=by
 have nd:q.Nodup:=qQ Qh hq;refine vW (r:=(·<·)) Qh (λ a b=>Nat.lt_asymm) hq hp λ x=>⟨h x,λ hx=>?_⟩
 exact Xp λ hn=>by
  have R6:(x::q).length<=p.length:=by
   have bY:(x::q).Nodup:=U5.mpr ⟨hn,nd⟩;exact zW bY (by intro y hy;rcases Qi.mp hy with e|e;exact e ▸ hx;exact h y e)
  simp at R6;omega
theorem qfu:∀(D:List Pr),D≠[]->∃ p∈D,∀ q∈D,p.length<=q.length
 | [p],_=>⟨p,Ze,λ q hq=>by simp at hq;rw[hq];exact Vd _⟩
 |p::r::D,_=>by
  obtain⟨m,hm,h⟩:=qfu (r::D) (by simp);by_cases wV:p.length<=m.length
  ·exact⟨p,Ze,λ q hq=>by
    rcases Qi.mp hq with e|e
    ·rw[e];exact Vd _
    ·exact Qy wV (h q e)⟩
  ·exact⟨m,Yl _ hm,λ q hq=>by
    rcases Qi.mp hq with e|e
    ·rw[e];omega
    ·exact h q e⟩
theorem qd3(ρ:Nat->Bool):∀{D:List Pr},D.Nodup->p∈D->(∀ q∈D,q.all ρ=true ↔ q=p)->qu ρ D=true
 |q::D,nd,hp,h=>by
  have x3:=U5.mp nd;have rest:∀(E:List Pr),(∀ q∈E,q.all ρ=true ↔ q=p)->p∉E->qu ρ E=false:=by
   intro E;induction E with
   |nil=>intro _ _;rfl
   |cons r E ih =>
    intro hE x8;have hr:r.all ρ=false:=by
     cases hb:r.all ρ with
     |false=>rfl
     |true=>exact absurd ((hE r Ze).mp hb) (λ e=>x8 (e ▸ Ze))
    show xor (r.all ρ) (qu ρ E)=false
    rw[hr,ih (λ q hq=>hE q (Yl _ hq)) (λ e=>x8 (Yl _ e))];rfl
  show xor (q.all ρ) (qu ρ D)=true
  rcases Qi.mp hp with e|e
  ·subst e;rw[(h p Ze).mpr rfl,rest D (λ q hq=>h q (Yl _ hq)) x3.1];rfl
  ·have hq:q.all ρ=false:=by
    cases hb:q.all ρ with
    |false=>rfl
    |true=>exact absurd ((h q Ze).mp hb) (λ e'=>x3.1 (e' ▸ e))
   rw[hq,qd3 ρ x3.2 e λ q hq=>h q (Yl _ hq)];rfl
theorem Vf.only(hF:Vf F)(hG:Vf G)(h:∀ ρ,qu ρ F=qu ρ G):F=G:=by
 by_cases hd:qcG F G=[]
 ·refine hF.ext hG λ p=>?_
  have:¬ p∈qcG F G:=by rw[hd];simp
  rw[vY] at this;constructor
  ·intro hp;exact Xp λ hn=>this (.inl ⟨hp,hn⟩)
  ·intro hp;exact Xp λ hn=>this (.inr ⟨hp,hn⟩)
 ·obtain⟨p,hp,hl⟩:=qfu _ hd;have ris:∀ q∈qcG F G,q.Pairwise (·<·):=λ q hq=>by
   rcases vY.mp hq with⟨a,_⟩|⟨a,_⟩
   ·exact hF.prod q a
   ·exact hG.prod q a
  have w:=qd3 (λ x=>p.contains x) (qaz hF.nodup hG.nodup) hp λ q hq=>by
   constructor
   ·intro ha;refine qgB (ris p hp) (ris q hq) (λ x hx=>?_) (hl q hq)
    have:=Uo.mp ha x hx
    simpa using this
   ·intro e;subst e;exact Uo.mpr λ x hx=>by simpa using hx
  rw[qcH _ hF.nodup hG.nodup,h] at w;simp at w
noncomputable def zh:List Nat->List Pr
 | []=>[[]]
 |l::ls=>zh ls++(zh ls).map (l::·)
theorem qN:∀ ls:List Nat,(zh ls).length=2^ls.length
 | []=>rfl
 |l::ls=>by rw[zh,Zh,U3,qN ls,Uj,Q3];omega
theorem zN:∀{ls:List Nat}{p:Pr},p∈zh ls ↔ p.Sublist ls
 | [],p=>by simp[zh]
 |l::ls,p=>by
  rw[zh,U1,Q4];constructor
  ·rintro(h | ⟨q,h,rfl⟩)
   ·exact(zN.mp h).cons _
   ·exact(zN.mp h).cons₂ _
  ·intro h;cases h with
   |cons _ h=>exact .inl (zN.mpr h)
   |cons_cons _ h=>exact .inr ⟨_,zN.mpr h,rfl⟩
theorem jw:∀{ls:List Nat},ls.Nodup->(zh ls).Nodup
 | [],_=>by simp[zh]
 |l::ls,h=>by
  have h':=U5.mp h;rw[zh];refine Zy.mpr ⟨jw h'.2,?_,?_⟩
  ·have:=jw h'.2
   exact Zz.mpr (this.imp λ{a b} A1 e=>A1 (List.cons.inj e).2)
  ·intro a ha b hb e;subst e;obtain⟨q,hq,rfl⟩:=Q4.mp hb;exact h'.1 ((zN.mp ha).subset Ze)
noncomputable def zl:Nat->List Bool->List Bool
 |0,t=>t
 |n+1,t=>zl n (t.take (2^n))++List.zipWith (· != ·) (zl n (t.take (2^n))) (zl n (t.drop (2^n)))
theorem qV:∀(n:Nat)(t:List Bool),t.length=2^n->(zl n t).length=2^n
 |0,t,h=>h
 |n+1,t,h=>by
  have hp:2^(n+1)=2^n+2^n:=by rw[Q3];omega
  have h1:(t.take (2^n)).length=2^n:=by rw[Ul];omega
  have h2:(t.drop (2^n)).length=2^n:=by rw[Um];omega
  rw[zl,Zh,Y1,qV n _ h1,qV n _ h2];omega
noncomputable def look(ρ:Nat->Bool):List Nat->List Bool->Bool
 | [],t=>t.headD false
 |l::ls,t=>if ρ l=true then look ρ ls (t.drop (2^ls.length)) else look ρ ls (t.take (2^ls.length))
noncomputable def pol(ρ:Nat->Bool):List Nat->List Bool->Bool
 | [],t=>t.headD false
 |l::ls,t=>xor (pol ρ ls (t.take (2^ls.length))) (ρ l && pol ρ ls (t.drop (2^ls.length)))
theorem qa4(f:Bool->Bool->Bool)(ρ:Nat->Bool):∀(ls:List Nat)(t u:List Bool),t.length=2^ls.length->u.length=2^ls.length->look ρ ls (List.zipWith f t u)=f (look ρ ls t) (look ρ ls u)
 | [],[a],[b],_,_=>rfl
 |l::ls,t,u,ht,hu=>by
  rw[Uj,Q3] at ht hu;rw[look,look,look];by_cases h:ρ l=true
  ·rw[V4 h,V4 h,V4 h,List.drop_zipWith];exact qa4 f ρ ls _ _ (by rw[Um];omega) (by rw[Um];omega)
  ·rw[V5 h,V5 h,V5 h,List.take_zipWith];exact qa4 f ρ ls _ _ (by rw[Ul];omega) (by rw[Ul];omega)
theorem qab(ρ:Nat->Bool):∀(ls:List Nat)(t:List Bool),t.length=2^ls.length->look ρ ls (zl ls.length t)=pol ρ ls t
 | [],t,_=>rfl
 |l::ls,t,h=>by
  rw[Uj,Q3] at h;have h1:(t.take (2^ls.length)).length=2^ls.length:=by rw[Ul];omega
  have h2:(t.drop (2^ls.length)).length=2^ls.length:=by rw[Um];omega
  have s1:=qV ls.length _ h1;have s2:=qV ls.length _ h2;have e1:(zl (ls.length+1) t).take (2^ls.length)=zl ls.length (t.take (2^ls.length)):=by
   rw[zl,Xb (by omega),XL (by omega)]
  have e2:(zl (ls.length+1) t).drop (2^ls.length)=List.zipWith (· != ·) (zl ls.length (t.take (2^ls.length))) (zl ls.length (t.drop (2^ls.length))):=by
   rw[zl,Xc (by omega),XM (by omega),U9]
  rw[look,pol,Uj,e1,e2];rw[qa4 (· != ·) ρ ls _ _ s1 s2,qab ρ ls _ h1,qab ρ ls _ h2];cases ρ l <;> simp <;> cases pol ρ ls (t.take (2^ls.length)) <;> cases pol ρ ls (t.drop (2^ls.length)) <;> rfl
theorem qcI:∀(n:Nat)(t u:List Bool),t.length=2^n->u.length=2^n->zl n (List.zipWith (· != ·) t u)=List.zipWith (· != ·) (zl n t) (zl n u)
 |0,t,u,_,_=>rfl
 |n+1,t,u,ht,hu=>by
  have hp:2^(n+1)=2^n+2^n:=by rw[Q3];omega
  have t1:(t.take (2^n)).length=2^n:=by rw[Ul];omega
  have t2:(t.drop (2^n)).length=2^n:=by rw[Um];omega
  have u1:(u.take (2^n)).length=2^n:=by rw[Ul];omega
  have u2:(u.drop (2^n)).length=2^n:=by rw[Um];omega
  rw[zl,zl,zl,List.take_zipWith,List.drop_zipWith,qcI n _ _ t1 u1,qcI n _ _ t2 u2];rw[List.zipWith_append (by rw[qV n _ t1,qV n _ u1])];congr 1
  have q:∀(a b c d:List Bool),List.zipWith (· != ·) (List.zipWith (· != ·) a b) (List.zipWith (· != ·) c d)=List.zipWith (· != ·) (List.zipWith (· != ·) a c) (List.zipWith (· != ·) b d):=by
   intro a;induction a with
   |nil=>intro b c d;simp
   |cons x a ih =>
    intro b c d;cases b with
    |nil=>cases c <;> simp
    |cons y b =>
     cases c with
     |nil=>simp
     |cons z c =>
      cases d with
      |nil=>simp
      |cons w d =>
       simp only[List.zipWith_cons_cons,ih];cases x <;> cases y <;> cases z <;> cases w <;> rfl
  exact q _ _ _ _
theorem qa5:∀(a b:List Bool),a.length=b.length->List.zipWith (· != ·) a (List.zipWith (· != ·) a b)=b
 | [],[],_=>rfl
 |x::a,y::b,h=>by
  simp only[List.zipWith_cons_cons];rw[qa5 a b (by simpa using h)];cases x <;> cases y <;> rfl
theorem qbA:∀(n:Nat)(t:List Bool),t.length=2^n->zl n (zl n t)=t
 |0,t,_=>rfl
 |n+1,t,h=>by
  have hp:2^(n+1)=2^n+2^n:=by rw[Q3];omega
  have t1:(t.take (2^n)).length=2^n:=by rw[Ul];omega
  have t2:(t.drop (2^n)).length=2^n:=by rw[Um];omega
  have s1:=qV n _ t1;have s2:=qV n _ t2;have e1:(zl (n+1) t).take (2^n)=zl n (t.take (2^n)):=by
   rw[zl,Xb (by omega),XL (by omega)]
  have e2:(zl (n+1) t).drop (2^n)=List.zipWith (· != ·) (zl n (t.take (2^n))) (zl n (t.drop (2^n))):=by
   rw[zl,Xc (by omega),XM (by omega),U9]
  conv=>lhs;rw[zl]
  rw[e1,e2,qcI n _ _ s1 s2,qbA n _ t1,qbA n _ t2,qa5 _ _ (by omega)];exact XZ _ _
noncomputable def yd(ls:List Nat)(t:List Bool):List Pr:=((zh ls).zip t).filterMap λ x=>if x.2=true then some x.1 else none
theorem j6(ρ:Nat->Bool):∀(ls:List Nat)(t:List Bool),t.length=2^ls.length->qu ρ (yd ls t)=pol ρ ls t
 | [],[b],_=>by cases b <;> simp[yd,zh,qu,pol]
 |l::ls,t,h=>by
  rw[Uj,Q3] at h;have h1:(t.take (2^ls.length)).length=2^ls.length:=by rw[Ul];omega
  have h2:(t.drop (2^ls.length)).length=2^ls.length:=by rw[Um];omega
  have e:yd (l::ls) t=yd ls (t.take (2^ls.length))++(yd ls (t.drop (2^ls.length))).map (l::·):=by
   unfold yd;rw[zh]
   conv=>lhs;rw[<- XZ (2^ls.length) t]
   rw[List.zip_append (by rw[qN];omega),Ya];congr 1
   rw[List.zip_map_left,List.filterMap_map,List.map_filterMap];congr 1
   funext x
   obtain⟨a,b⟩:=x;cases b <;> rfl
  have m:∀ F:List Pr,qu ρ (F.map (l::·))=(ρ l && qu ρ F):=by
   intro F;induction F with
   |nil=>simp[qu]
   |cons p F ih =>
    show xor ((l::p).all ρ) _=_
    rw[ih,List.all_cons];show _=(ρ l && xor (p.all ρ) (qu ρ F))
    cases ρ l <;> simp
  rw[e,jc,m,j6 ρ ls _ h1,j6 ρ ls _ h2,pol]
theorem qcJ(h:p∈yd ls t):p.Sublist ls:=by
 unfold yd at h;obtain⟨x,hx,e⟩:=List.mem_filterMap.mp h;split at e
 ·cases e;exact zN.mp (U6 hx).1
 ·cases e
theorem j7:∀(P:List Pr)(t:List Bool),((P.zip t).filterMap λ x=>if x.2=true then some x.1 else none).Sublist P
 | [],t=>by simp
 |p::P,[]=>by simp
 |p::P,b::t=>by
  rw[Zk,Yw];cases b with
  |true=>exact(j7 P t).cons₂ _
  |false=>exact(j7 P t).cons _
theorem j8(t:List Bool)(h:ls.Nodup):(yd ls t).Nodup:=(jw h).sublist (j7 _ _)
theorem qcK(F:List Pr):∀(P:List Pr),((P.zip (P.map λ p=>F.contains p)).filterMap λ x=>if x.2=true then some x.1 else none)=P.filter λ p=>F.contains p
 | []=>rfl
 |p::P=>by
  rw[Qj,Zk,Yw,qcK F P];cases h:F.contains p with
  |true=>rw[X8 h];rfl
  |false=>rw[X9 (by rw[h];exact Zf)];rfl
theorem qfv(ρ:Nat->Bool)(hl:ls.Nodup)(hF:F.Nodup)(h:∀ p∈F,p.Sublist ls):
  look ρ ls (zl ls.length ((zh ls).map λ p=>F.contains p))=qu ρ F:=by
 have len:((zh ls).map λ p=>F.contains p).length=2^ls.length:=by rw[U3,qN]
 rw[qab ρ ls _ len,<- j6 ρ ls _ len];refine j5 ρ ?_;unfold yd;rw[qcK,Xi ((jw hl).filter _) hF];intro p;rw[U0,zN,XY];exact⟨λ x=>x.2,λ x=>⟨h p x,x⟩⟩
theorem plt_total {b:Pr}(h1:¬ a<b)(h2:¬ b<a):a=b:=List.le_antisymm (List.not_lt.mp h2) (List.not_lt.mp h1)
noncomputable def ins(a:Pr):List Pr->List Pr
 | []=>[a]
 |b::l=>if b<a then b::ins a l else a::b::l
noncomputable def srt:List Pr->List Pr
 | []=>[]
 |a::l=>ins a (srt l)
theorem qcL(a:Pr):∀ l:List Pr,(ins a l).Perm (a::l)
 | []=>Jw _
 |b::l=>by
  rw[ins];split
  ·exact((qcL a l).cons b).trans (List.Perm.swap a b l)
  ·exact Jw _
theorem zR:∀ l:List Pr,(srt l).Perm l
 | []=>Jw _
 |a::l=>(qcL a (srt l)).trans ((zR l).cons a)
theorem qjs(a:Pr):∀{l:List Pr},l.Pairwise (λ x y=>¬ y<x)->(ins a l).Pairwise (λ x y=>¬ y<x)
 | [],_=>by simp[ins]
 |b::l,h=>by
  have h':=Zj.mp h;rw[ins];split
  ·rename_i hb;refine Zj.mpr ⟨λ x hx=>?_,qjs a h'.2⟩;rcases Qi.mp ((qcL a l).mem_iff.mp hx) with e | e
   ·rw[e];exact qft _ _ hb
   ·exact h'.1 x e
  ·rename_i hb;refine Zj.mpr ⟨λ x hx=>?_,h⟩;rcases Qi.mp hx with e | e
   ·rw[e];exact hb
   ·intro wO;have t7:=h'.1 x e
    have:x<b:=by
     by_cases A1:a<b
     ·exact List.lt_trans wO A1
     ·have:=plt_total A1 hb
      rw[<- this];exact wO
    exact t7 this
theorem qeB:∀ l:List Pr,(srt l).Pairwise (λ x y=>¬ y<x)
 | []=>List.Pairwise.nil
 |a::l=>qjs a (qeB l)
theorem qd4:∀{l m:List Pr},l.Perm m->l.Pairwise (λ x y=>¬ y<x)->m.Pairwise (λ x y=>¬ y<x)->l=m
 | [],m,h,_,_=>h.nil_eq
 |a::l,m,h,hl,hm=>by
  cases m with
  |nil=>exact absurd h.length_eq (by simp)
  |cons b m =>
   have P7:=Zj.mp hl;have oJ:=Zj.mp hm;have ab:a=b:=by
    rcases Qi.mp (h.mem_iff.mp Ze) with e|e
    ·exact e
    ·rcases Qi.mp (h.mem_iff.mpr Ze) with e' | e'
     ·exact e'.symm
     ·exact plt_total (oJ.1 a e) (P7.1 b e')
   subst ab;rw[qd4 (List.Perm.cons_inv h) P7.2 oJ.2]
theorem srt_of(h:l.Perm m)(hl:l.Pairwise (λ x y=>¬ y<x)):l=srt m:=qd4 (h.trans (zR m).symm) hl (qeB m)
theorem qa6(h:l.Nodup):(srt l).Pairwise (·<·):=by
 have nd:(srt l).Nodup:=(zR l).nodup_iff.mpr h
 have:=qeB l
 exact(this.and nd).imp λ{a b} A1=>Xp λ hn=>A1.2 (plt_total hn A1.1)
theorem jx:p∈srt l ↔ p∈l:=(zR l).mem_iff
theorem srt_perm_eq(h:l.Perm m):srt l=srt m:=srt_of ((zR l).trans h) (qeB l)
noncomputable def added(F G:List Pr):List Pr:=srt (qcG F G)
theorem qfw(hF:Vf F)(hG:Vf G):Vf (added F G):=⟨qa6 (qaz hF.nodup hG.nodup),λ p hp=>by
 rcases vY.mp (jx.mp hp) with⟨a,_⟩|⟨a,_⟩
 ·exact hF.prod p a
 ·exact hG.prod p a⟩
theorem yU(ρ:Nat->Bool)(hF:Vf F)(hG:Vf G):qu ρ (added F G)=xor (qu ρ F) (qu ρ G):=by
 rw[added,j5 ρ (zR _),qcH ρ hF.nodup hG.nodup]
noncomputable def vK{α:Type}[DecidableEq α]:List α->List α
 | []=>[]
 |a::l=>a::(vK l).filter λ b=>decide (b≠a)
theorem zX{α:Type}[DecidableEq α]{x:α}:∀{l:List α},x∈vK l ↔ x∈l
 | []=>by simp[vK]
 |a::l=>by
  rw[vK,Qi,U0,zX,Qi];constructor
  ·rintro(h | h)
   ·exact .inl h
   ·exact .inr h.1
  ·rintro(h | h)
   ·exact .inl h
   ·by_cases e:x=a
    ·exact .inl e
    ·exact .inr ⟨h,by simpa using e⟩
theorem yV{α:Type}[DecidableEq α]:∀(l:List α),(vK l).Nodup
 | []=>by simp[vK]
 |a::l=>by
  rw[vK];refine U5.mpr ⟨λ h=>?_,(yV l).filter _⟩
  have:=(U0.mp h).2
  simp at this
noncomputable def qg(F:List Pr):List Nat:=(srt (vK (F.flatten.map λ c=>[c]))).flatten
theorem qlx{l:List Pr}(h:∀ p∈l,∃ c,p=[c]):l=l.flatten.map λ c=>[c]:=by
 induction l with
 |nil=>rfl
 |cons p l ih =>
  obtain⟨c,hc⟩:=h p Ze;subst hc;rw[Zw,Ja,<- ih λ q hq=>h q (Yl _ hq)];rfl
theorem zY(F:List Pr):srt (vK (F.flatten.map λ c=>[c]))=(qg F).map λ c=>[c]:=by
 refine qlx λ p hp=>?_
 obtain⟨c,_,e⟩:=Q4.mp (zX.mp (jx.mp hp));exact⟨c,e.symm⟩
theorem zm:c∈qg F ↔ ∃ p∈F,c∈p:=by
 have h:[c]∈(qg F).map (λ c=>[c]) ↔ c∈qg F:=by
  rw[Q4];exact⟨λ ⟨d,hd,e⟩=>by cases e;exact hd,λ hd=>⟨c,hd,rfl⟩⟩
 rw[<- h,<- zY,jx,zX,Q4];constructor
 ·rintro⟨d,hd,e⟩;cases e
  exact(List.mem_flatten.mp hd).imp λ p hp=>⟨hp.1,hp.2⟩
 ·rintro⟨p,hp,hc⟩;exact⟨c,List.mem_flatten.mpr ⟨p,hp,hc⟩,rfl⟩
theorem qT(F:List Pr):(qg F).Pairwise (·<·):=by
 have h:=qa6 (yV (F.flatten.map λ c=>[c]));rw[zY,Zz] at h;refine h.imp λ{a b} A1=>?_
 cases A1 with
 |rel h=>exact h
 |cons h=>cases h
theorem vZ:∀{ls p:List Nat},ls.Pairwise (·<·)->p.Pairwise (·<·)->(∀ x∈p,x∈ls)->p.Sublist ls
 |_,[],_,_,_=>List.nil_sublist _
 | [],x::p,_,_,h=>absurd (h x Ze) (by simp)
 |l::ls,x::p,hl,hp,h=>by
  have P7:=Zj.mp hl;have x8:=Zj.mp hp;rcases Qi.mp (h x Ze) with e|e
  ·subst e;refine(vZ P7.2 x8.2 λ y hy=>?_).cons₂ x;rcases Qi.mp (h y (Yl _ hy)) with e | e
   ·subst e;exact absurd (x8.1 _ hy) (Qh _)
   ·exact e
  ·refine(vZ P7.2 hp λ y hy=>?_).cons l;rcases Qi.mp (h y hy) with e' | e'
   ·subst e';rcases Qi.mp hy with q | q
    ·subst q;exact e
    ·exact absurd (x8.1 _ q) (Nat.lt_asymm (P7.1 _ e))
   ·exact e'
noncomputable def q9(F:List Pr)(ls:List Nat):List Bool:=zl ls.length ((zh ls).map λ p=>F.contains p)
theorem qP(F:List Pr)(ls:List Nat):(q9 F ls).length=2^ls.length:=qV _ _ (by rw[U3,qN])
theorem j9(ρ:Nat->Bool)(hl:ls.Pairwise (·<·))(hF:Vf F)(h:∀ p∈F,∀ c∈p,c∈ls):look ρ ls (q9 F ls)=qu ρ F:=
 qfv ρ (qQ Qh hl) hF.nodup λ p hp=>vZ hl (hF.prod p hp) (h p hp)
noncomputable def formOf(ls:List Nat)(t:List Bool):List Pr:=srt (yd ls (zl ls.length t))
theorem qbB(hl:ls.Pairwise (·<·))(t:List Bool):Vf (formOf ls t):=
 ⟨qa6 (j8 _ (qQ Qh hl)),λ p hp=>hl.sublist (qcJ (jx.mp hp))⟩
theorem qa7(ρ:Nat->Bool)(ht:t.length=2^ls.length):qu ρ (formOf ls t)=look ρ ls t:=by
 rw[formOf,j5 ρ (zR _),j6 ρ ls _ (qV _ _ ht),<- qab ρ ls _ (qV _ _ ht),qbA _ _ ht]
theorem kc(hp:p∈formOf ls t):p.Sublist ls:=qcJ (jx.mp hp)
noncomputable def mult(F G:List Pr):List Pr:=formOf (qg (F++G)) (List.zipWith (· && ·) (q9 F (qg (F++G))) (q9 G (qg (F++G))))
theorem qhE(F G:List Pr):Vf (mult F G):=qbB (qT _) _
theorem qcM(ρ:Nat->Bool)(hF:Vf F)(hG:Vf G):qu ρ (mult F G)=(qu ρ F && qu ρ G):=by
 rw[mult,qa7 ρ (by rw[Y1,qP,qP,Nat.min_self]),qa4 _ ρ _ _ _ (qP _ _) (qP _ _),
  j9 ρ (qT _) hF λ p hp c hc=>zm.mpr ⟨p,Ym _ hp,hc⟩,j9 ρ (qT _) hG λ p hp c hc=>zm.mpr ⟨p,XS _ hp,hc⟩]
noncomputable def opp(F:List Pr):List Pr:=added F [[]]
noncomputable def join(F G:List Pr):List Pr:=added (added F G) (mult F G)
theorem qjt:Vf [[]]:=⟨by simp,by simp⟩
theorem qju:Vf []:=⟨List.Pairwise.nil,by simp⟩
theorem qis(ρ:Nat->Bool)(hF:Vf F):qu ρ (opp F)=!qu ρ F:=by
 rw[opp,yU ρ hF qjt];simp[qu]
theorem qcN(ρ:Nat->Bool)(hF:Vf F)(hG:Vf G):qu ρ (join F G)=(qu ρ F || qu ρ G):=by
 rw[join,yU ρ (qfw hF hG) (qhE F G),yU ρ hF hG,qcM ρ hF hG];cases qu ρ F <;> cases qu ρ G <;> rfl
end Fs
namespace L2
open PySem PySem.Spec PyProof.Rows
noncomputable def va(env:Env):List (Str×NameKind)->List (Str×Addr)->List (Str×Addr)
 | [],c9=>c9
 |(n,k)::r,c9=>va env r (if (k == NameKind.free)=true then(n,(env.cells.lookup n).getD 0)::c9 else c9)
theorem qcO(env:Env):∀(l:List (Str×NameKind))(c9:List (Str×Addr)),(∀ y∈l,y.2=.free->∃ c,env.cells.lookup y.1=some c) ->
  (forIn l c9 λ(x:Str×NameKind)(cs:List (Str×Addr))=>match x with
   |(name,kind)=>if (kind == NameKind.free)=true then do let a <- cellOf env name;pure (ForInStep.yield ((name,a)::cs)) else pure (ForInStep.yield cs):Sem (List (Str×Addr)))=pure (va env l c9)
 | [],c9,_=>by rw[Jx];rfl
 |(n,k)::r,c9,h=>by
  rw[Jb];by_cases hk:(k == NameKind.free)=true
  ·obtain⟨c,hc⟩:=h (n,k) Ze (by simpa using hk);have e:cellOf env n=pure c:=by unfold cellOf;rw[show env.cells.lookup n=some c from hc]
   simp only[hk,V1,e,pure_bind];rw[qcO env r _ λ y hy=>h y (Yl _ hy)];rw[va,V4 hk,show env.cells.lookup n=some c from hc];rfl
  ·have E6:(k == NameKind.free)=false:=by simpa using hk
   simp only[E6,Zl,Vv,pure_bind];rw[qcO env r _ λ y hy=>h y (Yl _ hy),va,V5 hk]
theorem yK(h:∀ y∈scope.names,y.2=.free->∃ c,env.cells.lookup y.1=some c):closureFor scope env=pure (va env scope.names []):=by
 unfold closureFor
 have:=qcO env scope.names [] h
 simp only[bind_pure];exact this
theorem qcP(env:Env):∀(l:List (Str×NameKind))(c9:List (Str×Addr)),(∀ y∈l,y.2=.free->∃ c,env.cells.lookup y.1=some c)->(∀ x c,c9.lookup x=some c->env.cells.lookup x=some c) ->
  ∀ x c,(va env l c9).lookup x=some c->env.cells.lookup x=some c
 | [],c9,_,ha,x,c,e=>ha x c e
 |(n,k)::r,c9,h,ha,x,c,e=>by
  rw[va] at e;refine qcP env r _ (λ y hy=>h y (Yl _ hy)) ?_ x c e;clear e;intro x c e;by_cases hk:(k == NameKind.free)=true
  ·rw[V4 hk] at e;obtain⟨c',hc⟩:=h (n,k) Ze (by simpa using hk);rw[show env.cells.lookup n=some c' from hc] at e;rw[Up] at e;by_cases hx:(x == n)=true
   ·rw[hx] at e
    have:x=n:=by simpa using hx
    subst this;cases e
    exact hc
   ·rw[show(x == n)=false by simpa using hx] at e;exact ha x c e
  ·rw[V5 hk] at e;exact ha x c e
theorem qfx(env:Env):∀(l:List (Str×NameKind))(c9:List (Str×Addr))(x:Str),(c9.lookup x).isSome=true->((va env l c9).lookup x).isSome=true
 | [],_,_,h=>h
 |(n,k)::r,c9,x,h=>by
  rw[va];refine qfx env r _ x ?_;by_cases hk:(k == NameKind.free)=true
  ·rw[V4 hk,Up];cases x == n with
   |true=>rfl
   |false=>exact h
  ·rw[V5 hk];exact h
theorem qcQ(env:Env):∀(l:List (Str×NameKind))(c9:List (Str×Addr))(x:Str),(x,NameKind.free)∈l->((va env l c9).lookup x).isSome=true
 |(n,k)::r,c9,x,h=>by
  rw[va];rcases Qi.mp h with e|e
  ·cases e
   refine qfx env r _ _ ?_;rw[V4 (by decide),Up];simp only[beq_self_eq_true,Option.isSome_some]
  ·exact qcQ env r _ x e
noncomputable def zq(X:Cx)(NY:List Str)(scope:Scope)(C:Addr)(s:Shared)(H:Hp)(fp:List Addr)(pins:List (Addr×Obj)):Cx:=
 { X with N:=NY,s₀:=s,H₀:=H,env:=compEnvC scope (va X.env scope.names []) C X.env,outer:=X.stack,ex:=fp,fn:=λ _=>false,pn:=X.pn++pins,xe:=λ _ _=>False }
structure CompScope(X:Cx)(NY:List Str)(o:Nat)(caps:List Nat)(scope:Scope):Prop where
 kind:scope.kind=.function
 nd:NY.Nodup
 nocell:∀ y∈scope.names,y.2≠.cell
 frees:∀ y∈scope.names,y.2=.free->(X.env.kindOf y.1=some .cell∨X.env.kindOf y.1=some .free)
 locs:∀ y∈scope.names,y.2=.local->scope.names.lookup y.1=some .local
 capOk:∀(j:Nat)(i:Nat),caps[j]?=some i->∃ x,NY[o+j]?=some x/\X.N[i]?=some x/\scope.names.lookup x=some .free
 len:NY.length=o+caps.length
noncomputable def stY(o:Nat)(caps:List Nat)(σ:St):St:=List.replicate o none++caps.map λ i=>(σ[i]?).getD none
theorem qa8{env:Env}:∀{names:List (Str×NameKind)}{x:Str},names.lookup x=some .free ->
  (names.map λ(n,k)=>if (k == NameKind.free && env.scope.kind == .function && env.kindOf n == some .cell) then(n,NameKind.cell) else(n,k)).lookup x=some .cell ∨
  (names.map λ(n,k)=>if (k == NameKind.free && env.scope.kind == .function && env.kindOf n == some .cell) then(n,NameKind.cell) else(n,k)).lookup x=some .free
 | [],_,h=>by simp at h
 |(n,k)::r,x,h=>by
  have ih:=@qa8 env r x;show List.lookup x ((if (k == NameKind.free && env.scope.kind == .function && env.kindOf n == some .cell)=true then(n,NameKind.cell) else(n,k))::_)=_∨List.lookup x ((if (k == NameKind.free && env.scope.kind == .function && env.kindOf n == some .cell)=true then(n,NameKind.cell) else(n,k))::_)=_
  cases hx:x == n with
  |true =>
   simp only[Up,hx] at h;cases h
   by_cases hc:(NameKind.free == NameKind.free && env.scope.kind == .function && env.kindOf n == some .cell)=true
   ·rw[V4 hc];left;simp only[Up,hx]
   ·rw[V5 hc];right;simp only[Up,hx]
  |false =>
   simp only[Up,hx] at h;by_cases hc:(k == NameKind.free && env.scope.kind == .function && env.kindOf n == some .cell)=true
   ·rw[V4 hc];simp only[Up,hx];exact ih h
   ·rw[V5 hc];simp only[Up,hx];exact ih h
theorem qaA{env:Env}:∀{names:List (Str×NameKind)}{x:Str}{k:NameKind},(∀ y∈names,y.2≠.cell) ->
  (names.map λ(n,k)=>if (k == NameKind.free && env.scope.kind == .function && env.kindOf n == some .cell) then(n,NameKind.cell) else(n,k)).lookup x=some k->(k=.cell∨k=.free)->names.lookup x=some .free
 | [],_,_,_,h,_=>by simp at h
 |(n,k0)::r,x,k,nc,h,hk=>by
  have ih:=@qaA env r x k (λ y hy=>nc y (Yl _ hy));replace h:List.lookup x ((if (k0 == NameKind.free && env.scope.kind == .function && env.kindOf n == some .cell)=true then(n,NameKind.cell) else(n,k0))::(r.map λ(n,k)=>if (k == NameKind.free && env.scope.kind == .function && env.kindOf n == some .cell) then(n,NameKind.cell) else(n,k)))=some k:=h;have n0:k0≠.cell:=nc (n,k0) Ze;cases hx:x == n with
  |true =>
   by_cases hc:(k0 == NameKind.free && env.scope.kind == .function && env.kindOf n == some .cell)=true
   ·have:k0=.free:=by
     simp only[Uq] at hc;simpa using hc.1.1
    simp only[Up,hx,this]
   ·rw[V5 hc] at h;simp only[Up,hx] at h ⊢;cases h
    rcases hk with e|e
    ·exact absurd e n0
    ·rw[e]
  |false =>
   by_cases hc:(k0 == NameKind.free && env.scope.kind == .function && env.kindOf n == some .cell)=true
   ·rw[V4 hc] at h;simp only[Up,hx] at h ⊢;exact ih h hk
   ·rw[V5 hc] at h;simp only[Up,hx] at h ⊢;exact ih h hk
theorem Un.but(u:Un fs ex H H' h h1)(hs:Heap.SameBut C h1 h2)(hC:h.objs.size<=C):Un fs ex H H' h h2:=by
 have ne:∀ b o,h.get? b=some o->b≠C:=λ b o e z=>by subst z;exact absurd (Zd (Qw e) hC) (Qh _)
 refine⟨λ b o e n hb hx=>(hs.2 b (ne b o e)).trans (u.keep b o e n hb hx),λ b o e n hb hx=>?_,u.free,λ b o e hx=>?_,u.tups,u.frzs,u.tbls⟩
 ·obtain⟨sl,q⟩:=u.slot b o e n hb hx;exact⟨sl,(hs.2 b (ne b o e)).trans q⟩
 ·obtain⟨o',q⟩:=u.there b o e hx;exact⟨o',(hs.2 b (ne b o e)).trans q⟩
theorem HOk.but(ok:HOk P w H h)(hs:Heap.SameBut C h h')(hC:H C=none):HOk P w H h':=λ a o e=>by
 refine(ok a o e).stay (λ b u hb q=>(hs.2 b ?_).trans q) (λ _ q=>q) λ _ _ q=>q
 rcases hb with z|z
 ·rw[z];exact λ y=>by rw[y,hC] at e;cases e
 ·exact λ y=>by rw[y,hC] at z;cases z
abbrev Adv:=Nat->St->Hp->(St->Hp->Prop)->Prop
structure Walk(Y:Cx)(tg:Expr)(fp:List Addr)(it:Addr)(tn:Nat->Heap->Prop)(adv:Adv)(stop:Nat->Hp->Prop):Prop where
 obj:∀ i h,tn i h->∀ b∈fp,∃ o,h.get? b=some o/\∀ v,o.data≠.cell v
 keep:∀ i h h',tn i h->(∀ b∈fp,∀ o,h.get? b=some o->h'.get? b=some o)->tn i h'
 item:∀(i:Nat)(pins:List (Addr×Obj))(s:Shared)(σ:St)(H:Hp)(N:St->Hp->Prop),Inv Y pins σ H s->(∀ b∈fp,jF Y pins H b)->tn i s.heap->adv i σ H N ->
  wpAny (model Y.prog Y.w) Y.A (pyNext (.ref it)) (λ r s1=>∃ u,r=some u/\wpAny (model Y.prog Y.w) Y.A (letOwnedTupleGo tg (.ref it) u) (λ _ s2 =>
   wpAny (model Y.prog Y.w) Y.A (assign tg Y.env u) (λ _ s3=>∃ σ' H',Inv Y pins σ' H' s3/\N σ' H'/\tn (i+1) s3.heap/\∀ b∈fp,H' b=none) Y.xe s2) Y.xe s1) Y.xe s
 done:∀(i:Nat)(pins:List (Addr×Obj))(s:Shared)(σ:St)(H:Hp),Inv Y pins σ H s->(∀ b∈fp,jF Y pins H b)->tn i s.heap->stop i H ->
  wpAny (model Y.prog Y.w) Y.A (pyNext (.ref it)) (λ r s1=>r=none/\Inv Y pins σ H s1) Y.xe s
 self:∀(A:Around)(i:Nat)(s:Shared)(Q:Value->Shared->Prop)(E:Value->Shared->Prop),tn i s.heap->Q (.ref it) s->wpAny (model Y.prog Y.w) A (pyIter (.ref it)) Q E s
theorem ym{tg:Expr}{tn:Nat->Heap->Prop} {s5:Shared}{σ6:St}(obj:∀ b∈fp,∃ o,s5.heap.get? b=some o/\∀ v,o.data≠.cell v)(keep:∀ h',(∀ b∈fp,∀ o,s5.heap.get? b=some o->h'.get? b=some o)->tn i h')(I6:Inv Y (pins++vP fp s5.heap) σ6 H6 s6):Inv Y pins σ6 H6 s6/\tn i s6.heap/\∀ b∈fp,H6 b=none:=by
 refine⟨I6.unpinned,keep _ λ b hb o e=>(I6.pin (b,o) (XS _ (XS _ (yB hb e)))).1,λ b hb=>?_⟩;obtain⟨o,e,d⟩:=obj b hb;exact(I6.pin (b,o) (XS _ (XS _ (yB hb e)))).2.1
def qhF(J:It)(g:TG):Adv:=λ i σ H N=>J.go i H/\∀ x H',J.yld i H x H'->g x σ H' N
theorem Turn.walk(hc:Y.calm=true)(T:Turn Y.prog Y.w Y.K tg J fp it tn)(hg:PG Y tg g):Walk Y tg fp it tn (qhF J g) J.stop where
 obj:=T.obj
 keep:=T.keep
 item:=by
  intro i pins s σ H N I hf st ⟨go,step⟩;refine thn (T.item Y rfl rfl rfl hc i pins s σ H Y.xe I hf st go) λ r s4 ⟨u,hr,h4⟩=>⟨u,hr,?_⟩
  refine thn h4 λ _ s5 ⟨x,H5,I5,r5,y5,R1,nB⟩=>?_
  have I5':=I5.pinned (fp:=fp) (λ b hb=>⟨nB b hb,(hf b hb).2⟩) (T.obj _ _ R1);refine thn (hg _ s5 σ H5 x u _ I5' r5 (step x H5 y5)) λ _ s6 ⟨σ6,H6,I6,q6⟩=>?_
  obtain⟨J1,J2,J3⟩:=ym (tg:=tg) (tn:=tn) (i:=i+1) (T.obj _ _ R1) (λ h' k=>T.keep _ _ _ R1 k) I6;exact⟨σ6,H6,J1,q6,J2,J3⟩
 done:=λ i pins s σ H I hf st hs=>T.done Y rfl rfl rfl hc i pins s σ H Y.xe I hf st hs
 self:=T.self
structure It2 where 
 go:Nat->Hp->Prop
 yld:Nat->Hp->List V->Hp->Prop
 stop:Nat->Hp->Prop
structure Turn2(P:Program)(w:World)(K:W.Frag)(tg:Expr)(J:It2)(fp:List Addr)(it:Addr)(tn:Nat->Heap->Prop):Prop where
 obj:∀ i h,tn i h->∀ b∈fp,∃ o,h.get? b=some o/\∀ v,o.data≠.cell v
 keep:∀ i h h',tn i h->(∀ b∈fp,∀ o,h.get? b=some o->h'.get? b=some o)->tn i h'
 item:∀(X:Cx),X.prog=P->X.w=w->X.K=K->X.calm=true->∀(i:Nat)(pins:List (Addr×Obj))(s:Shared)(σ:St)(H:Hp)(E:Value->Shared->Prop),Inv X pins σ H s->(∀ b∈fp,jF X pins H b)->tn i s.heap->J.go i H ->
  wpAny (model P w) X.A (pyNext (.ref it)) (λ r s1=>∃ p,r=some (.ref p) /\
   wpAny (model P w) X.A (letOwnedTupleGo tg (.ref it) (.ref p)) (λ _ s2=>∃ xs us H',Inv X pins σ H' s2/\IsTup s2.heap p us.toArray/\qL xs us/\J.yld i H xs H'/\tn (i+1) s2.heap/\∀ b∈fp,H' b=none) E s1) E s
 done:∀(X:Cx),X.prog=P->X.w=w->X.K=K->X.calm=true->∀(i:Nat)(pins:List (Addr×Obj))(s:Shared)(σ:St)(H:Hp)(E:Value->Shared->Prop),Inv X pins σ H s->(∀ b∈fp,jF X pins H b)->tn i s.heap->J.stop i H ->
  wpAny (model P w) X.A (pyNext (.ref it)) (λ r s1=>r=none/\Inv X pins σ H s1) E s
 self:∀(A:Around)(i:Nat)(s:Shared)(Q:Value->Shared->Prop)(E:Value->Shared->Prop),tn i s.heap->Q (.ref it) s->wpAny (model P w) A (pyIter (.ref it)) Q E s
def qgC(J:It2)(n:Nat)(t:TGs):Adv:=λ i σ H N=>J.go i H/\∀ xs H',J.yld i H xs H'->xs.length=n/\t xs σ H' N
theorem Turn2.walk{Y:Cx}{es:List Expr}{k:Nat}{pos:Pos}{J:It2}{fp:List Addr}{it:Addr}{tn:Nat->Heap->Prop}{t:TGs}{n:Nat}(hc:Y.calm=true)(T:Turn2 Y.prog Y.w Y.K (.Tuple es k pos) J fp it tn)(hg:PGs Y es t)(hn:(assignEach es Y.env).length=n:=by rfl)(B9:(assignEach es Y.env).findIdx? (·.1)=none:=by rfl):Walk Y (.Tuple es k pos) fp it tn (qgC J n t) J.stop where
 obj:=T.obj
 keep:=T.keep
 item:=by
  intro i pins s σ H N I hf st ⟨go,step⟩;refine thn (T.item Y rfl rfl rfl hc i pins s σ H Y.xe I hf st go) λ r s4 ⟨p,hr,h4⟩=>⟨.ref p,hr,?_⟩
  refine thn h4 λ _ s5 ⟨xs,us,H5,I5,ht,r5,y5,R1,nB⟩=>?_
  have I5':=I5.pinned (fp:=fp) (λ b hb=>⟨nB b hb,(hf b hb).2⟩) (T.obj _ _ R1);obtain⟨hl,hw⟩:=step xs H5 y5;refine assign_Tuple_tuple (I5.ok.hd hc) ht (by simp[hn,<- hl,r5.length]) B9 λ h' hx=>?_
  have I6:Inv Y (pins++vP fp s5.heap) σ H5 { s5 with heap:=h' }:=I5'.kept (t':=s5.toks) λ b o e=>hx b o (Qx (Qw e)) e
  refine thn (hg _ _ σ H5 xs _ N I6 (by simpa using r5) hw) λ _ s6 ⟨σ6,H6,I7,q6⟩=>?_
  obtain⟨J1,J2,J3⟩:=ym (tg:=.Tuple es k pos) (tn:=tn) (i:=i+1) (T.obj _ _ R1) (λ h' k=>T.keep _ _ _ R1 k) I7;exact⟨σ6,H6,J1,q6,J2,J3⟩
 done:=λ i pins s σ H I hf st hs=>T.done Y rfl rfl rfl hc i pins s σ H Y.xe I hf st hs
 self:=T.self
abbrev TI2:=St->Hp->(It2->Hp->Prop)->Prop
def PI2(X:Cx)(tg iter:Expr)(wi:TI2):Prop:=
 ∀(pins:List (Addr×Obj))(s:Shared)(σ:St)(H:Hp)(R:It2->Hp->Prop),Inv X pins σ H s->wi σ H R ->
  wpAny (model X.prog X.w) X.A (eval iter X.env) (λ v s1=>wpAny (model X.prog X.w) X.A (pyIter v) (λ eY s2 =>
   ∃(it:Addr)(fp:List Addr)(tn:Nat->Heap->Prop)(J:It2)(H':Hp),eY=.ref it/\Inv X pins σ H' s2/\Turn2 X.prog X.w X.K tg J fp it tn/\tn 0 s2.heap/\(∀ b∈fp,jF X pins H' b)/\R J H') X.xe s1) X.xe s
def PTs(X:Cx)(A3:List Expr)(tt:TT):Prop:=∀(pins:List (Addr×Obj))(s:Shared)(σ:St)(H:Hp)(Q:Bool->Hp->Prop),Inv X pins σ H s->tt σ H Q ->
 wpAny (model X.prog X.w) X.A (forIn A3 true λ c r=>if r=true then do let ok <- isTrue c X.env (eval c X.env);pure (ForInStep.yield ok) else pure (ForInStep.yield r)) (TP X pins σ Q) X.xe s
def qo9:TT:=λ _ H Q=>Q true H
theorem zt:PTs X [] qo9:=λ _ _ _ H _ I h=>wpAny_tests_nil ⟨H,I,h⟩
theorem qac(hc:PT X c tt):PTs X [c] tt:=λ pins s σ H Q I h=>wpAny_tests_one (hc pins s σ H Q I h)
section
variable {prog:Program}{w:World}{A:Around}{R:Result->Shared->Prop}{s:Shared}
theorem qa9(I:Nat->Shared->Prop)(turn:∀ n s,I n s->wpAny (model prog w) A (pyNext it) (λ r s₁=>match r with
   |none=>R (.ok .next) s₁
   |some v=>wpAny (model prog w) A (letOwnedTupleGo B8 it v) (λ _ s₁'=>wpAny (model prog w) A (assign B8 env v) (λ _ s₂ =>
     wpAny (model prog w) A (forIn A3 true λ c r=>if r=true then do let ok <- isTrue c env (eval c env);pure (ForInStep.yield ok) else pure (ForInStep.yield r)) (λ ok s₃ =>
      if ok=true then wpAny (model prog w) A (eval D3 env) (λ x s₄ =>
       wpAny (model prog w) A (call (.builtin "list.append") [c9,x]) (λ _ s₅=>∃ m,m<n/\I m s₅) (λ _ _=>False) s₄) (λ _ _=>False) s₃
      else ∃ m,m<n/\I m s₃) (λ _ _=>False) s₂) (λ _ _=>False) s₁') (λ _ _=>False) s₁) (λ _ _=>False) s)(n:Nat)(h:I n s):
  codeAny (model prog w) A (.compLoop (.ListComp D3 [⟨B8,iter,A3,0⟩] scope pos) 0 it c9 env) R s:=by
 refine codeAny_loop rfl I (λ n s hI=>?_) n h;show wpAny _ A ((compTurn (.ListComp D3 [⟨B8,iter,A3,0⟩] scope pos) 0 it c9 env).onRaise (λ x=>do noteFrame x env;theTreesLotGoes x)) _ _ s
 refine wpAny_noted ?_;rw[compTurn_list];have no:∀{E:Value->Shared->Prop}(x:Value)(s':Shared),False->E x s':=λ _ _ f=>f.elim
 refine Vl (Qs (Vl (Vk (turn n s hI) (λ r s₁ h₁=>?_) no)));cases r with
 |none=>exact Vm h₁
 |some v =>
  refine Vl (Vk h₁ (λ _ s₁' h₁'=>?_) no);refine Vl (Vk h₁' (λ _ s₂ h₂=>Vl (Vk h₂ (λ ok s₃ h₃=>?_) no)) no);cases ok with
  |false=>exact Vm ⟨rfl,h₃⟩
  |true =>
   exact Vl (Vl (Vk h₃ (λ x s₄ h₄=>Vl (Vk h₄ (λ _ s₅ h₅=>Vm (Vm ⟨rfl,h₅⟩)) no)) no))
end
def Kp(o:Nat)(σ0 σ:St):Prop:=σ.drop o=σ0.drop o/\σ.length=σ0.length
theorem Kp.get(k:Kp o (stY o caps σ) σ2):∀(j:Nat)(v:V),(stY o caps σ)[j]?=some (some v)->σ2[j]?=some (some v):=by
 intro j v e;by_cases hj:j<o
 ·unfold stY at e;rw[Xo (by simpa using hj),X5,V4 hj] at e;cases e
 ·have e1:(σ2.drop o)[j-o]?=((stY o caps σ).drop o)[j-o]?:=by rw[k.1]
  rw[Zm,Zm,show o+(j-o)=j by omega] at e1;rw[e1];exact e
theorem qm3(e:(stY o caps σ)[j]?=some (some v)):∃ j' i,j=o+j'/\caps[j']?=some i/\σ[i]?=some (some v):=by
 unfold stY at e;by_cases hj:j<o
 ·rw[Xo (by simpa using hj),X5,V4 hj] at e;cases e
 ·rw[Xh (by simpa using hj),XT,Zt] at e;cases q:caps[j-o]? with
  |none=>rw[q] at e;cases e
  |some i =>
   rw[q] at e;refine⟨j-o,i,by omega,q,?_⟩;cases q2:σ[i]? with
   |none=>rw[Option.map_some,q2] at e;cases e
   |some z =>
    rw[Option.map_some,q2] at e;have e':z=some v:=Option.some.inj e;rw[e']
def vb(o:Nat)(caps:List Nat)(adv:Adv)(stop:Nat->Hp->Prop)(tt:TT)(te:TE)(σ:St)(H1:Hp)(Q:VK):Prop:=
 ∀ D,H1 D=none->∃ W:Nat->Nat->List V->Hp->Prop,(∃ m,W 0 m [] (upd H1 D (.lst [])))/\∀ i m ys H,W i m ys H ->
  (stop i H/\Q (.ref D) H)∨adv i (stY o caps σ) H λ σ2 H2=>Kp o (stY o caps σ) σ2/\tt σ2 H2 λ b H3=>if b=true then te σ2 H3 λ y H4=>H4 D=some (.lst ys)/\ys.length<sizeLine/\∃ m',m'<m/\W (i+1) m' (ys++[y]) (upd H4 D (.lst (ys++[y])))
   else ∃ m',m'<m/\W (i+1) m' ys H3
section
variable {X:Cx}
theorem qfy{σ:St}(S:CompScope X NY o caps scope)(I2:Inv X pins σ H2 s2)(G9:∀ b∈fp,jF X pins H2 b)(oI:∀ b∈fp,∃ ob,s2.heap.get? b=some ob)(hns:h₁.Ns (s2.heap.objs.size+1) λ _=>none)(w4:∀ b ob,s2.heap.get? b=some ob->h₁.get? b=some ob)(hD:∃ n,h₁.get? s2.heap.objs.size=some { cls:=.type "list",data:=.seq ([]:List Value).toArray n })(t':Nat):
  Inv (zq X NY scope (s2.heap.objs.size+1) s2 H2 fp pins) [] (stY o caps σ) (upd H2 s2.heap.objs.size (.lst [])) { s2 with heap:=h₁,toks:=t' }:=by
 have frees:∀ y∈scope.names,y.2=.free->∃ c,X.env.cells.lookup y.1=some c:=λ y hy e=>I2.ok.has _ (S.frees y hy e)
 have E3:∀ x c,(va X.env scope.names []).lookup x=some c->X.env.cells.lookup x=some c:=qcP X.env scope.names [] frees (λ x c e=>by simp at e);have aZ:H2 s2.heap.objs.size=none:=I2.hok.fresh (Vd _);have hfr1:H2 (s2.heap.objs.size+1)=none:=I2.hok.fresh (Vg _);have ltC:∀ b ob,s2.heap.get? b=some ob->b≠s2.heap.objs.size+1:=λ b ob e=>Qx (Z0 (Qw e))
 have ltD:∀ b ob,s2.heap.get? b=some ob->b≠s2.heap.objs.size:=λ b ob e=>Qx (Qw e)
 have hok1:HOk X.prog X.w (upd H2 s2.heap.objs.size (.lst [])) h₁:=by
  obtain⟨n,hD⟩:=hD;exact I2.hok.laid w4 (Vd _) ⟨Ve _,[],n,.nil,hD⟩
 refine⟨?_,rfl,I2.bare,?_,?_,?_,?_,?_,?_,hok1,?_⟩
 ·refine⟨I2.ok.mod,S.kind,I2.ok.glob,I2.ok.blt,Vg _,λ x y c h1 h2=>I2.ok.inj x y c (E3 x c h1) (E3 y c h2),λ x hx=>?_,λ x c e=>absurd e Zf,I2.ok.hd,I2.ok.frames,.inl rfl,λ b hb=>?_,
   I2.bs,Qy I2.ok.bsz I2.sz,λ b ob e hb=>?_,λ b hb z=>?_,I2.stack,I2.stkFree⟩
  ·have t7:scope.names.lookup x=some .free:=by
    rcases hx with q|q
    ·exact qaA (env:=X.env) S.nocell q (.inl rfl)
    ·exact qaA (env:=X.env) S.nocell q (.inr rfl)
   exact Xv.mp (qcQ X.env scope.names [] x (Yz t7))
  ·obtain⟨ob,e⟩:=oI b hb;exact⟨ltC b ob e,λ x c q=>(G9 b hb).2.2.2.2.1 x c (E3 x c q)⟩
  ·rcases(G9 b hb).2.2.2.1 with q | q
   ·exact I2.ok.noex b ob e q
   ·exact absurd (Zd (Qw e) (Qy I2.ok.bsz q)) (Qh _)
  ·rcases Qi.mp (I2.stkSub b z) with q | q
   ·exact(G9 b hb).2.1 q
   ·exact(G9 b hb).2.2.1 q
 ·exact Un.laid w4 (Vd _) aZ
 ·refine⟨_,hns,λ j x v e1 e2 e3=>?_⟩;obtain⟨j',i,ej,ec,es⟩:=qm3 e2;obtain⟨x',n1,n2,n3⟩:=S.capOk j' i ec;rw[<- ej] at n1;have ex:x=x':=Option.some.inj ((show NY[j]?=some x from e1).symm.trans n1);subst ex;have hk:=S.frees (x,.free) (Yz n3) rfl;obtain⟨m,_,hl⟩:=I2.loc;have hv:Vis X.env.scope x:=hk.elim (λ q=>.inr (.inl q)) λ q=>.inr (.inr q)
  obtain⟨u,ru,lk⟩:=hl i x v n2 es hv;refine⟨u,ru,.inr ⟨qa8 (env:=X.env) n3,?_⟩⟩;rcases lk with⟨q,_⟩|⟨_,c,ec,cell⟩
  ·rcases hk with z | z
   ·rw[show X.env.kindOf x=some .cell from z] at q;cases q
   ·rw[show X.env.kindOf x=some .free from z] at q;cases q
  ·obtain⟨c',C3⟩:=Xv.mp (qcQ X.env scope.names [] x (Yz n3))
   have:=E3 x c' C3
   rw[ec] at this;cases this
   obtain⟨ob,e,d⟩:=cell;exact⟨c,C3,ob,w4 c ob e,d⟩
 ·intro x c e;obtain⟨v,ob,q,d⟩:=I2.cell x c (E3 x c e);exact⟨v,ob,w4 c ob q,d⟩
 ·show upd H2 s2.heap.objs.size (.lst []) (s2.heap.objs.size+1)=none
  rw[qv (Nat.succ_ne_self _)];exact hfr1
 ·intro x c e;obtain⟨v,ob,q,d⟩:=I2.cell x c (E3 x c e);rw[qv (ltD c ob q)];exact I2.freeC x c (E3 x c e)
 ·intro p hp;have x8:p∈X.pn++pins:=by
   have:p∈(X.pn++pins)++[]:=hp
   simpa using this
  obtain⟨e,n,ne,nf,d⟩:=I2.pin p x8;refine⟨w4 _ _ e,by rw[qv (ltD _ _ e)];exact n,ltC _ _ e,λ z=>?_,d⟩;rcases Qi.mp (I2.stkSub p.1 z) with q|q
  ·exact ne q
  ·exact nf q
 ·show(stY o caps σ).length=NY.length
  unfold stY;rw[Zh,XT,U3,S.len]
theorem qcR{σ:St}(S:CompScope X NY o caps scope)(I2:Inv X pins σ H2 s2)(G9:∀ b∈fp,jF X pins H2 b)(l0:tn 0 s2.heap)(Wk:∀ C,Walk (zq X NY scope C s2 H2 fp pins) tg fp it tn adv stop)(ht:∀ C,PTs (zq X NY scope C s2 H2 fp pins) A3 tt)(he:∀ C,PE (zq X NY scope C s2 H2 fp pins) D3 te)(h:vb o caps adv stop tt te σ H2 Q):
  wpAny (model X.prog X.w) X.A (newList []) (λ c9 s₃=>wpAny (model X.prog X.w) X.A (newFunctionEnv scope X.env.globals (va X.env scope.names []) [] X.env.qual none .none (some X.env)) (λ T3 s₄ =>
   codeAny (model X.prog X.w) X.A (.compStart (.ListComp D3 [⟨tg,iter,A3,0⟩] scope pos) 0 (.ref it) c9 { T3 with scope:=relabel scope X.env }) (compPost (model X.prog X.w) X.A X.xe none (EP X pins σ Q) c9 T3.locals) s₄) X.xe s₃) X.xe s2:=by
 refine Ub (wpAny_newFunctionEnv S.nocell (by intro y hy;simp at hy) (λ h₁ hns₁ L3₁=>?_) S.kind);dsimp only at hns₁ L3₁ ⊢;have hC:(s2.heap.push { cls:=.type "list",dict:=none,data:=.seq ([]:List Value).toArray }).objs.size=s2.heap.objs.size+1:=Ju _ _;rw[hC] at hns₁ L3₁ ⊢;have w4:∀ b ob,s2.heap.get? b=some ob->h₁.get? b=some ob:=λ b ob e =>
  (L3₁.2 b (Qx (Z0 (Qw e)))).trans (XG _ (XG _ e))
 have hD:∃ n,h₁.get? s2.heap.objs.size=some { cls:=.type "list",data:=.seq ([]:List Value).toArray n }:=
  ⟨_,(L3₁.2 _ (Qx (Uk _))).trans (XG _ (Yy _ rfl))⟩
 have aZ:H2 s2.heap.objs.size=none:=I2.hok.fresh (Vd _);obtain⟨W,⟨m0,w0⟩,turn⟩:=h _ aZ;have lM:=(Wk 0).obj 0 s2.heap l0;have I4:=qfy S I2 G9 (λ b hb=>(lM b hb).imp λ _ q=>q.1) (hns:=hns₁) w4 hD (s2.toks+([]:List (Str×Value)).length);have pD:tn 0 h₁:=(Wk 0).keep _ _ _ l0 λ b _ ob e=>w4 b ob e
 have fr4:∀ b∈fp,upd H2 s2.heap.objs.size (.lst []) b=none:=λ b hb=>by
  obtain⟨ob,e,_⟩:=lM b hb;rw[qv (Qx (Qw e))];exact(G9 b hb).1
 have loop:codeAny (model X.prog X.w) X.A (.compLoop (.ListComp D3 [⟨tg,iter,A3,0⟩] scope pos) 0 (.ref it) (.ref s2.heap.objs.size) (compEnvC scope (va X.env scope.names []) (s2.heap.objs.size+1) X.env))
   (compPost (model X.prog X.w) X.A X.xe none (EP X pins σ Q) (.ref s2.heap.objs.size) (s2.heap.objs.size+1)) { s2 with heap:=h₁,toks:=s2.toks+([]:List (Str×Value)).length }:=by
  have Wk:=Wk (s2.heap.objs.size+1);have ht:=ht (s2.heap.objs.size+1);have he:=he (s2.heap.objs.size+1);generalize hY:zq X NY scope (s2.heap.objs.size+1) s2 H2 fp pins=Y at Wk ht he I4;have nC:∀{H':Hp},(∀ b∈fp,H' b=none)->∀ b∈fp,jF Y [] H' b:=λ{H'} hn b hb=>by
   subst hY;obtain⟨ob,e,_⟩:=lM b hb;have k:=I4.ok.exf b hb;refine⟨hn b hb,k.1,I4.ok.exfs b hb,.inl hb,k.2,λ p hp=>?_⟩;have x8:p∈X.pn++pins:=by
    have:p∈(X.pn++pins)++[]:=hp
    simpa using this
   exact(G9 b hb).2.2.2.2.2 p x8
  refine qa9 (λ n s'=>∃ i ys H',Inv Y [] (stY o caps σ) H' s'/\tn i s'.heap/\(∀ b∈fp,H' b=none)/\W i n ys H') ?_ m0 ⟨0,[],_,I4,pD,fr4,w0⟩;rintro n s3 ⟨i,ys,H3,I3,G5,cV,w3⟩;have eE:Y.xe=λ _ _=>False:=by subst hY;rfl
  have ePw:Y.prog=X.prog/\Y.w=X.w/\Y.A=X.A/\Y.env=compEnvC scope (va X.env scope.names []) (s2.heap.objs.size+1) X.env:=by subst hY;exact⟨rfl,rfl,rfl,rfl⟩
  obtain⟨eP,ew,eA,ee⟩:=ePw;rw[<- eP,<- ew,<- eA,<- ee,<- eE];rcases turn i n ys H3 w3 with⟨stp,qn⟩|av
  ·refine thn (Wk.done i [] s3 _ H3 I3 (nC cV) G5 stp) λ r s4 ⟨hr,I5⟩=>?_
   subst hr;obtain⟨m,hn,_⟩:=id I5.loc;have eC:Y.env.locals=s2.heap.objs.size+1:=by rw[ee];rfl
   rw[eC] at hn;refine⟨m,hn,λ h' hs=>?_⟩;have u:=I5.base;have mI:=I5.hok;have B4:=I5.free;rw[eC] at B4;have cM:=I5.bare;have hos:=I5.os;subst hY;have u2:Un (frs X.stack) fp H2 H3 s2.heap h':=Un.but u hs (Vg _);have mJ:HOk X.prog X.w H3 h':=HOk.but mI hs B4;refine⟨.ref s2.heap.objs.size,H3,?_,rfl,qn⟩;obtain⟨hh,g,d,t,pJ⟩:=s4;obtain rfl:pJ=s2.os:=hos;exact Inv.call (s:=s2) (h':=h') (g':=g) (d':=d) (t':=t) (ch:=fp) I2 u2 mJ cM λ b hb=>⟨(G9 b hb).2.2.2.1,(G9 b hb).2.1,(G9 b hb).2.2.2.2.1,(G9 b hb).2.2.2.2.2⟩
  ·refine thn (Wk.item i [] s3 _ H3 _ I3 (nC cV) G5 av) λ r s4 ⟨u,hr,h4⟩=>?_
   subst hr;refine thn h4 λ _ s5 h5=>thn h5 λ _ s6 ⟨σ6,H6,I6,⟨kp,q6⟩,bU,fr6⟩=>?_
   have I6':=I6.pinned (fp:=fp) (nC fr6) (Wk.obj _ _ bU);refine thn (ht _ s6 σ6 H6 _ I6' q6) λ b s7 ⟨H7,I7,q7⟩=>?_
   cases b with
   |false =>
    obtain⟨m',hm,w7⟩:=q7;obtain⟨J1,J2,J3⟩:=ym (tg:=tg) (tn:=tn) (i:=i+1) (Wk.obj _ _ bU) (λ h' k=>Wk.keep _ _ _ bU k) I7;exact⟨m',hm,i+1,ys,H7,J1.weak kp.2.symm kp.get,J2,J3,w7⟩
   |true =>
    refine thn (he _ s7 σ6 H7 _ I7 q7) λ y s8 ⟨yv,H8,I8,r8,hD8,oC,m',hm,w8⟩=>?_
    refine thn (zV (X:=Y) _ s8 σ6 H8 (.ref s2.heap.objs.size) [yv] _ _ (λ v H'=>v=.non/\H'=upd H8 s2.heap.objs.size (.lst (ys++[yv]))) I8 rfl (.cons r8 .nil) ⟨_,ys,yv,rfl,rfl,hD8,oC,rfl,rfl⟩) λ v s9 ⟨_,H9,I9,_,_,e9⟩=>?_
    subst e9;obtain⟨J1,J2,J3⟩:=ym (tg:=tg) (tn:=tn) (i:=i+1) (Wk.obj _ _ bU) (λ h' k=>Wk.keep _ _ _ bU k) I9;exact⟨m',hm,i+1,ys++[yv],_,J1.weak kp.2.symm kp.get,J2,J3,w8⟩
 exact codeAny_compStart_list loop ((Wk 0).self _ 0 _ _ _ pD loop)
def qmx(o:Nat)(caps:List Nat)(wi:TI)(g:TG)(tt:TT)(te:TE):TE:=λ σ H Q=>wi σ H λ J H1=>vb o caps (qhF J g) J.stop tt te σ H1 Q
theorem zH{D3 iter tg:Expr}{A3:List Expr}{scope:Scope}{pos:Pos}{NY:List Str}{o:Nat}{caps:List Nat}{wi:TI}{g:TG}{tt:TT}{te:TE}(S:CompScope X NY o caps scope)(hc:X.calm=true)(hi:PI X tg iter wi)(hg:∀ C s H fp pins,PG (zq X NY scope C s H fp pins) tg g)(ht:∀ C s H fp pins,PTs (zq X NY scope C s H fp pins) A3 tt)(he:∀ C s H fp pins,PE (zq X NY scope C s H fp pins) D3 te)(hs:∀ x,foldedSetIterable iter X.env x=pure x:=by intro _;rfl):PE X (.ListComp D3 [⟨tg,iter,A3,0⟩] scope pos) (qmx o caps wi g tt te):=by
 intro pins s σ H Q I h;rw[eval_ListComp];refine X4 (use:=none) (g:=⟨tg,iter,A3,0⟩) (gs:=[]) rfl hs (yK λ y hy e=>I.ok.has _ (S.frees y hy e)) S.kind S.locs ?_;show wpAny _ _ (eval iter X.env) _ _ s
 refine thn (hi pins s σ H _ I h) λ v s1 h1=>thn h1 λ eY s2 h2=>?_
 obtain⟨it,fp,tn,J,H2,e,I2,T,l0,f2,hr⟩:=h2;subst e;exact qcR S I2 f2 l0 (λ C=>Turn.walk (Y:=zq X NY scope C s2 H2 fp pins) hc T (hg _ _ _ _ _)) (λ C=>ht _ _ _ _ _) (λ C=>he _ _ _ _ _) hr
def qjv(o:Nat)(caps:List Nat)(wi:TI2)(n:Nat)(t:TGs)(tt:TT)(te:TE):TE:=λ σ H Q=>wi σ H λ J H1=>vb o caps (qgC J n t) J.stop tt te σ H1 Q
theorem qba{D3 iter:Expr}{es:List Expr}{k n:Nat}{p4:Pos}{A3:List Expr}{scope:Scope}{pos:Pos}{NY:List Str}{o:Nat}{caps:List Nat}{wi:TI2}{t:TGs}{tt:TT}{te:TE}(S:CompScope X NY o caps scope)(hc:X.calm=true)(hi:PI2 X (.Tuple es k p4) iter wi)(hg:∀ C s H fp pins,PGs (zq X NY scope C s H fp pins) es t)(hn:∀ env,(assignEach es env).length=n)(B9:∀ env,(assignEach es env).findIdx? (·.1)=none)(ht:∀ C s H fp pins,PTs (zq X NY scope C s H fp pins) A3 tt)(he:∀ C s H fp pins,PE (zq X NY scope C s H fp pins) D3 te)(hs:∀ x,foldedSetIterable iter X.env x=pure x:=by intro _;rfl):PE X (.ListComp D3 [⟨.Tuple es k p4,iter,A3,0⟩] scope pos) (qjv o caps wi n t tt te):=by
 intro pins s σ H Q I h;rw[eval_ListComp];refine X4 (use:=none) (g:=⟨.Tuple es k p4,iter,A3,0⟩) (gs:=[]) rfl hs (yK λ y hy e=>I.ok.has _ (S.frees y hy e)) S.kind S.locs ?_;show wpAny _ _ (eval iter X.env) _ _ s
 refine thn (hi pins s σ H _ I h) λ v s1 h1=>thn h1 λ eY s2 h2=>?_
 obtain⟨it,fp,tn,J,H2,e,I2,T,l0,f2,hr⟩:=h2;subst e;exact qcR S I2 f2 l0 (λ C=>Turn2.walk (Y:=zq X NY scope C s2 H2 fp pins) hc T (hg _ _ _ _ _) (hn _) (B9 _)) (λ C=>ht _ _ _ _ _) (λ C=>he _ _ _ _ _) hr
end
noncomputable def ItV(n:Nat)(val:Nat->V):It:=⟨λ i _=>i<n,λ i H x H'=>H'=H/\x=val i,λ i _=>i=n⟩
theorem qaB{K:W.Frag}{St:Nat->Heap->Prop}(val:Nat->V)(W:∀ A:Around,A.handled=none->Walks P w A it [it] [it] n Pv St)(hv:∀ i v,Pv i v->qS (val i) v)(ob:∀ i h,St i h->∃ o nm vs,h.get? it=some o/\o.cls=.type nm/\o.data=.fields vs/\["enumerate","zip","dict_itemiterator","dict_reverseitemiterator","odict_iterator","itertools.zip_longest","itertools.pairwise"].contains nm=false)(self:∀(A:Around)(i:Nat)(s:Shared)(Q:Value->Shared->Prop)(E:Value->Shared->Prop),St i s.heap->Q (.ref it) s->wpAny (model P w) A (pyIter (.ref it)) Q E s):
  Turn P w K tg (ItV n val) [it] it St where
 mem:=by simp
 obj:=λ i h st b hb=>by
  have e:b=it:=by simpa using hb
  subst e;obtain⟨o,nm,vs,e,_,d,_⟩:=ob i h st;exact⟨o,e,λ v z=>by rw[d] at z;cases z⟩
 keep:=λ i h h' st k=>by
  have ha:callerA.handled=none:=rfl;exact(W callerA ha).frame i h h' st k
 item:=by
  intro X hP hw hK hc i pins s σ H E I hf st hg;subst hP hw hK;obtain⟨f0,f1,f2,f3,f4,f5⟩:=hf it (by simp);refine(W X.A (I.ok.hd hc)).item i s _ _ hg st λ v h' tk aG b0 kk=>?_
  have I1:Inv X pins σ H { s with heap:=h',toks:=tk }:=I.turned (λ b o hb e=>kk b o (by simpa using hb) e) f0 f1 f3 f4 f5;obtain⟨o,nm,vs,e,c,d,nn⟩:=ob _ _ b0;exact⟨_,rfl,qhu (s:={ s with heap:=h',toks:=tk }) e c d nn ⟨val i,H,I1,hv i v aG,⟨rfl,rfl⟩,b0,λ b hb=>(hf b hb).1⟩⟩
 done:=by
  intro X hP hw hK hc i pins s σ H E I hf st hg;subst hP hw hK;obtain⟨f0,f1,f2,f3,f4,f5⟩:=hf it (by simp);have hg:i=n:=hg;subst hg;exact(W X.A (I.ok.hd hc)).done s _ _ st λ h' tk kk=>⟨rfl,I.turned (λ b o hb e=>kk b o (by simpa using hb) e) f0 f1 f3 f4 f5⟩
 self:=self
theorem qhG{g:TG}{tb:TS}{D:Ends}(Pv:Nat->St->Hp->Prop)(h0:Pv 0 σ H)(hs:∀ i σ H,i<n->Pv i σ H->g (val i) σ H λ σ2 H2=>tb { D with nx:=Pv (i+1),ct:=Pv (i+1),bk:=D.nx } σ2 H2)(hd:∀ σ H,Pv n σ H->D.nx σ H):
  ∃ W:Nat->Nat->St->Hp->Prop,(∃ m,W 0 m σ H)/\∀ i m σ H,W i m σ H ->
   ((ItV n val).stop i H/\D.nx σ H)∨((ItV n val).go i H/\∃ N:St->Hp->Prop,(∀ σ' H',N σ' H'->∃ m',m'<m/\W (i+1) m' σ' H')/\∀ x H',(ItV n val).yld i H x H'->g x σ H' λ σ2 H2=>tb { D with nx:=N,ct:=N,bk:=D.nx } σ2 H2):=by
 refine⟨λ i m σ H=>m=n-i/\i<=n/\Pv i σ H,⟨n,by simp,Ve _,h0⟩,?_⟩;rintro i m σ H ⟨rfl,hi,p⟩;by_cases c8:i<n
 ·refine .inr ⟨c8,Pv (i+1),λ σ' H' p'=>⟨n-(i+1),by omega,rfl,c8,p'⟩,λ x H' y=>?_⟩;obtain⟨e,y⟩:=y;subst e y;exact hs i σ _ c8 p
 ·have e:i=n:=by omega
  subst e;exact .inl ⟨rfl,hd σ H p⟩
noncomputable def sgn(z:Str)(i:Nat):V:=.str ⟨#[z.cps.getD i 0]⟩
theorem qeC(h:SignAt z i v):qS (sgn z i) v:=by
 obtain⟨c,u,e,rfl⟩:=h;refine⟨u,?_⟩
 have:z.cps.getD i 0=c:=by rw[Xf,e];rfl
 rw[this]
def qpa(te:TE):TI:=λ σ H R=>te σ H λ x H1=>∃ z,x=.str z/\R (ItV z.cps.size (sgn z)) H1
theorem kf(he:PE X e te):PI X tg e (qpa te):=by
 intro pins s σ H R I h;refine thn (he pins s σ H _ I h) λ v s1 ⟨x,H1,I1,r1,z,ez,q⟩=>?_
 subst ez;obtain⟨t,rfl⟩:=r1;cases ha:z.cps.all (·<128) with
 |false =>
  refine wpAny_pyIter_wide ha ⟨s1.heap.objs.size,[s1.heap.objs.size],_,_,H1,rfl,I1.kept (t':=s1.toks) λ b o e=>XG _ e,
   qaB (sgn z) (λ A hA=>Walks.strWide hA _ z t) (λ i v=>qeC) (λ i h st=>?_) (λ _ _ _ _ _ st h=>wpAny_pyIter_striter_wide st h),⟨_,Yy _ rfl,rfl,rfl⟩,λ b hb=>?_,q⟩
  ·obtain⟨o,e,c,d⟩:=st;exact⟨o,_,_,e,c,d,by decide⟩
  ·have e:b=s1.heap.objs.size:=by simpa using hb
   subst e;exact I1.fpOk (Vd _) (I1.hok.fresh (Vd _))
 |true =>
  refine wpAny_pyIter_ascii ha ⟨s1.heap.objs.size,[s1.heap.objs.size],_,_,H1,rfl,I1.kept (t':=s1.toks) λ b o e=>XG _ e,
   qaB (sgn z) (λ A hA=>Walks.strAscii hA _ z t) (λ i v=>qeC) (λ i h st=>?_) (λ _ _ _ _ _ st h=>wpAny_pyIter_striter_ascii st h),⟨_,Yy _ rfl,rfl,rfl⟩,λ b hb=>?_,q⟩
  ·obtain⟨o,e,c,d⟩:=st;exact⟨o,_,_,e,c,d,by decide⟩
  ·have e:b=s1.heap.objs.size:=by simpa using hb
   subst e;exact I1.fpOk (Vd _) (I1.hok.fresh (Vd _))
theorem qcS{X:Cx}{T:String}{x:Str}{a:Expr}{ta:TA}{p pos:Pos}{pins:List (Addr×Obj)}{s:Shared}{σ:St}{H:Hp}{Q:Value->Shared->Prop}{R:List V->Hp->Prop}(hg:Gl X x)(hm:X.mg x=none)(hv:bootBuiltins x=some (.type T))(ha:PA X [a] ta)(I:Inv X pins σ H s)(h:ta σ H R)(hk:∀ us s1 vs H1,Inv X pins σ H1 s1->qL vs us->R vs H1->wpAny (model X.prog X.w) X.A (call (.type T) us) Q X.xe s1)(hn:x≠"__name__":=by decide)(hd:(x == ("__debug__":Str))=false:=by decide)(hs:starEach [a] X.env=[(false,eval a X.env)]:=by rfl):wpAny (model X.prog X.w) X.A (eval (.Call (.Name x p) [a] [] pos) X.env) Q X.xe s:=by
 refine Call_ (jW I hg hm hv (Xe (thn (ha pos pins s σ H _ I h) λ us s1 ⟨vs,H1,I1,r1,q1⟩=>hk us s1 vs H1 I1 r1 q1) hs rfl) hn hd)
noncomputable def qit(K:W.Frag)(a:Addr):It2:=
 ⟨λ i H=>∃ xs x,SqL K H a xs/\xs[i]?=some x,λ i H ys H'=>H'=H/\∃ x,ys=[.int i,x]/\∀ xs,SqL K H a xs->xs[i]?=some x,λ i H=>∃ xs,SqL K H a xs/\xs.length<=i⟩
def qm4(e it a:Addr)(i:Nat)(h:Heap):Prop:=(∃ R4,IsEnum h e it i R4)/\h.IsListIter it a i
theorem qiu{K:W.Frag}(a e it:Addr)(O4:e≠it):Turn2 P w K (.Tuple es k pos) (qit K a) [e,it] e (qm4 e it a) where
 obj:=λ i h st b hb=>by
  obtain⟨⟨R4,he⟩,o,ho,c,d⟩:=st;have hb:b=e∨b=it:=by simpa using hb
  rcases hb with z|z
  ·subst z;exact⟨_,he,λ v q=>by cases q⟩
  ·subst z;exact⟨o,ho,λ v q=>by rw[d] at q;cases q⟩
 keep:=λ i h h' st k=>by
  obtain⟨⟨R4,he⟩,n9⟩:=st;exact⟨⟨R4,k e (by simp) _ he⟩,n9.at λ o q=>k it (by simp) o q⟩
 item:=by
  intro X hP hw hK hc i pins s σ H E I hf st hg;subst hP hw hK;obtain⟨xs,x,hq,hx⟩:=hg;obtain⟨its,rv,p,hz⟩:=I.list hq;obtain⟨u,hu,ru⟩:=rv.get hx;obtain⟨⟨R4,he⟩,n9⟩:=st;have fe:=hf e (by simp);have fi:=hf it (by simp);refine wpAny_pyNext_enum_item he n9 p.isList (x:=u) (by simpa using hu) O4 λ h' bI E7 ht hsz hk=>?_
  refine⟨s.heap.objs.size,rfl,wpAny_letOwnedTupleGo_enum bI λ h2 sR l7=>?_⟩;replace l7:Heap.SameBut e h' h2:=l7;have cL:e<s.heap.objs.size:=Qw he;have k2:∀ b o,b≠e->b≠it->s.heap.get? b=some o->h2.get? b=some o:=λ b o h1 h3 q=>l7.extBut b o h1 (hk b o h1 h3 q)
  have I1:Inv X pins σ H { s with heap:=h2,toks:=s.toks+1 }:=by
   refine I.step (g':=s.gens) (d':=s.drawn) (ch:=[e,it]) (λ b hb=>?_) (λ b o _ _ c5 q _=>k2 b o (λ z=>c5 (by simp[z])) (λ z=>c5 (by simp[z])) q)
    (λ b o _ _ c5 q _=>⟨o.slots,k2 b o (λ z=>c5 (by simp[z])) (λ z=>c5 (by simp[z])) q⟩) (λ _ _ _ _ n=>n) (λ b o c5 q=>⟨o,k2 b o (λ z=>c5 (by simp[z])) (λ z=>c5 (by simp[z])) q⟩)
    (λ _ _ q=>q) (λ _ _ _ q=>q) (λ b ps q=>⟨#[],by rw[q];simp⟩) (λ m hm=>?_) (λ b u q=>?_) I.bare
   ·have hb:b=e∨b=it:=by simpa using hb
    rcases hb with z|z
    ·subst z;exact⟨fe.2.2.2.1,fe.2.1,fe.2.2.2.2.1,fe.2.2.2.2.2⟩
    ·subst z;exact⟨fi.2.2.2.1,fi.2.1,fi.2.2.2.2.1,fi.2.2.2.2.2⟩
   ·obtain⟨o,o7,ep,ho,r⟩:=hm;exact⟨o,o7,ep,k2 _ o (Vz fe.2.1) (Vz fi.2.1) ho,r⟩
   ·refine(I.hok b u q).stay (λ c v c5 z=>k2 c v (λ y=>?_) (λ y=>?_) z) (λ _ z=>z) λ _ _ z=>z
    ·rcases c5 with y' | y'
     ·rw[<- y',y,fe.1] at q;cases q
     ·rw[y,fe.1] at y';cases y'
    ·rcases c5 with y' | y'
     ·rw[<- y',y,fi.1] at q;cases q
     ·rw[y,fi.1] at y';cases y'
  refine⟨[.int i,x],[.int i s.toks,u],H,I1,⟨_,(l7.extBut _ _ (Q0 cL) ht),rfl,_,rfl⟩,.cons ⟨_,rfl⟩ (.cons ru .nil),⟨rfl,x,rfl,λ ys hy=>by rw[I.list_inj hy hq];exact hx⟩,⟨⟨u,?_⟩,E7.extBut l7.extBut (Vz O4)⟩,λ b hb=>(hf b hb).1⟩
  ·have:((i:Int)+1)=((i+1:Nat):Int):=by omega
   rw[<- this];exact sR
 done:=by
  intro X hP hw hK hc i pins s σ H E I hf st hg;subst hP hw hK;obtain⟨xs,hq,hx⟩:=hg;obtain⟨its,rv,p,hz⟩:=I.list hq;obtain⟨⟨R4,he⟩,n9⟩:=st;obtain⟨f0,f1,f2,f3,f4,f5⟩:=hf it (by simp);have hl:=rv.length;exact wpAny_pyNext_enum_end (I.ok.hd hc) he n9 p.isList (by simp;omega) λ h' eb=>⟨rfl,I.turned (t':=s.toks) (λ b o hb e=>eb b o hb e) f0 f1 f3 f4 f5⟩
 self:=λ A i s Q E st h=>by
  obtain⟨⟨R4,he⟩,n9⟩:=st;exact Uc he h
def qn8(K:W.Frag)(ta:TA):TI2:=λ σ H R=>ta σ H λ vs H1=>∃ a,vs=[.ref a]/\(∃ xs,SqL K H1 a xs)/\R (qit K a) H1
theorem qhH{X:Cx}{es:List Expr}{k:Nat}{p4:Pos}{l:Expr}{ta:TA}{p pos:Pos}(hg:Gl X "enumerate")(hm:X.mg "enumerate"=none)(ha:PA X [l] ta)(hs:starEach [l] X.env=[(false,eval l X.env)]:=by rfl):
  PI2 X (.Tuple es k p4) (.Call (.Name "enumerate" p) [l] [] pos) (qn8 X.K ta):=by
 intro pins s σ H R I h;refine qcS (R:=λ vs H1=>∃ a,vs=[.ref a]/\(∃ xs,SqL X.K H1 a xs)/\R (qit X.K a) H1) hg hm boot_enumerate ha I h (λ us s1 vs H1 I1 r1 q1=>?_) (hs:=hs);obtain⟨a,e,⟨xs,hq⟩,q⟩:=q1;subst e;obtain⟨u,rfl,ru⟩:=yk r1;cases ru
 obtain⟨its,rv,pl,hz⟩:=I1.list hq;refine call_enumerate_list pl.isList λ h' he n9 hsz hk=>Uc he ?_
 refine⟨s1.heap.objs.size+1,[s1.heap.objs.size+1,s1.heap.objs.size],_,_,H1,rfl,I1.kept (t':=s1.toks) hk,qiu a _ _ (Nat.succ_ne_self _),⟨⟨_,he⟩,n9⟩,λ b hb=>?_,q⟩;have hb:b=s1.heap.objs.size+1∨b=s1.heap.objs.size:=by simpa using hb
 rcases hb with z|z
 ·subst z;exact I1.fpOk (Vg _) (I1.hok.fresh (Vg _))
 ·subst z;exact I1.fpOk (Vd _) (I1.hok.fresh (Vd _))
noncomputable def ItZ(K:W.Frag)(a b:Addr):It2:=
 ⟨λ i H=>∃ xs ys x y,SqL K H a xs/\SqL K H b ys/\xs[i]?=some x/\ys[i]?=some y,λ i H zs H'=>H'=H/\∃ x y,zs=[x,y]/\(∀ xs,SqL K H a xs->xs[i]?=some x)/\(∀ ys,SqL K H b ys->ys[i]?=some y),
  λ i H=>∃ xs ys,SqL K H a xs/\SqL K H b ys/\(xs.length<=i∨ys.length<=i)⟩
def qn9(z TI TO i1 i2 a b:Addr)(i:Nat)(h:Heap):Prop:=IsZip h z TI TO .none/\IsPair h TI (.ref i1) (.ref i2)/\(∃ c d,IsPair h TO c d)/\h.IsListIter i1 a i/\h.IsListIter i2 b i
theorem qjw{K:W.Frag} {TI TO:Addr}(D:ZipApart z TI TO i1 i2 a b):
  Turn2 P w K (.Tuple es k pos) (ItZ K a b) [z,TI,TO,i1,i2] z (qn9 z TI TO i1 i2 a b) where
 obj:=λ i h st c hc=>by
  obtain⟨hz,B1,⟨c1,d1,t4⟩,⟨o1,G8,cc1,dd1⟩,⟨o2,O3,cc2,iY⟩⟩:=st;have hc:c=z∨c=TI∨c=TO∨c=i1∨c=i2:=by simpa using hc
  rcases hc with e|e|e|e|e
  ·subst e;exact⟨_,hz,λ v q=>by cases q⟩
  ·subst e;exact⟨_,B1,λ v q=>by cases q⟩
  ·subst e;exact⟨_,t4,λ v q=>by cases q⟩
  ·subst e;exact⟨o1,G8,λ v q=>by rw[dd1] at q;cases q⟩
  ·subst e;exact⟨o2,O3,λ v q=>by rw[iY] at q;cases q⟩
 keep:=λ i h h' st k=>by
  obtain⟨hz,B1,⟨c1,d1,t4⟩,h1,h2⟩:=st;exact⟨k z (by simp) _ hz,k TI (by simp) _ B1,⟨c1,d1,k TO (by simp) _ t4⟩,h1.at λ o q=>k i1 (by simp) o q,h2.at λ o q=>k i2 (by simp) o q⟩
 item:=by
  intro X hP hw hK hc i pins s σ H E I hf st hg;subst hP hw hK;obtain⟨xs,ys,x,y,fB,M0,hx,hy⟩:=hg;obtain⟨pY,wG,p1,rD⟩:=I.list fB;obtain⟨o8,dQ,p2,rC⟩:=I.list M0;obtain⟨u1,B6,lJ⟩:=wG.get hx;obtain⟨u2,wR,eL⟩:=dQ.get hy;obtain⟨hz,B1,⟨c1,d1,t4⟩,h1,h2⟩:=st;refine wpAny_pyNext_zip_item D hz B1 t4 h1 h2 p1.isList p2.isList (x:=u1) (y:=u2) (by simpa using B6) (by simpa using wR) λ h' hz' mV h1' cQ hp hsz hk=>?_
  refine⟨s.heap.objs.size,rfl,wpAny_letOwnedTupleGo_zip hz' λ cQ aF l7=>?_⟩;rename_i oU;replace l7:Heap.SameBut z h' cQ:=l7;have rB:z<s.heap.objs.size:=Qw hz;have k2:∀ c o,c≠z->c≠TO->c≠i1->c≠i2->s.heap.get? c=some o->cQ.get? c=some o:=λ c o a1 a2 a3 a4 q=>l7.extBut c o a1 (hk c o a1 a2 a3 a4 q)
  have fz:=hf z (by simp);have fO:=hf TO (by simp);have f1:=hf i1 (by simp);have f2:=hf i2 (by simp);have nn:∀ c,c∉[z,TO,i1,i2]->c≠z/\c≠TO/\c≠i1/\c≠i2:=λ c c5=>by simpa using c5
  have I1:Inv X pins σ H { s with heap:=cQ }:=by
   refine I.step (g':=s.gens) (d':=s.drawn) (t':=s.toks) (ch:=[z,TO,i1,i2]) (λ c c5=>?_) (λ c o _ _ c5 q _=>k2 c o (nn c c5).1 (nn c c5).2.1 (nn c c5).2.2.1 (nn c c5).2.2.2 q)
    (λ c o _ _ c5 q _=>⟨o.slots,k2 c o (nn c c5).1 (nn c c5).2.1 (nn c c5).2.2.1 (nn c c5).2.2.2 q⟩) (λ _ _ _ _ n=>n) (λ c o c5 q=>⟨o,k2 c o (nn c c5).1 (nn c c5).2.1 (nn c c5).2.2.1 (nn c c5).2.2.2 q⟩)
    (λ _ _ q=>q) (λ _ _ _ q=>q) (λ c ps q=>⟨#[],by rw[q];simp⟩) (λ m hm=>?_) (λ c u q=>?_) I.bare
   ·have:jF X pins H c:=by
     have c5:c=z∨c=TO∨c=i1∨c=i2:=by simpa using c5
     rcases c5 with e|e|e|e <;> subst e <;> assumption
    exact⟨this.2.2.2.1,this.2.1,this.2.2.2.2.1,this.2.2.2.2.2⟩
   ·obtain⟨o,o7,ep,ho,r⟩:=hm;exact⟨o,o7,ep,k2 _ o (Vz fz.2.1) (Vz fO.2.1) (Vz f1.2.1) (Vz f2.2.1) ho,r⟩
   ·have no:∀ b',H b'=none->∀ c',(c'=c∨H c'=some (.own c))->c'≠b':=λ b' cN c' C3 e=>by
     subst e;rcases C3 with e|e
     ·subst e;rw[cN] at q;cases q
     ·rw[cN] at e;cases e
    exact(I.hok c u q).stay (λ c' v c5 r=>k2 c' v (no z fz.1 c' c5) (no TO fO.1 c' c5) (no i1 f1.1 c' c5) (no i2 f2.1 c' c5) r) (λ _ r=>r) λ _ _ r=>r
  have hpt:IsPair cQ s.heap.objs.size u1 u2:=l7.extBut _ _ (Q0 rB) hp;refine⟨[x,y],[u1,u2],H,I1,⟨_,hpt,rfl,_,rfl⟩,.cons lJ (.cons eL .nil),⟨rfl,x,y,rfl,λ ws hw=>by rw[I.list_inj hw fB];exact hx,λ ws hw=>by rw[I.list_inj hw M0];exact hy⟩,?_,λ c c5=>(hf c c5).1⟩;refine⟨aF,l7.extBut _ _ D.TIz (hk _ _ D.TIz D.TITO D.TIi1 D.TIi2 B1),⟨_,_,l7.extBut _ _ D.TOz mV⟩,h1'.extBut l7.extBut D.i1z,oU.extBut l7.extBut D.i2z⟩
 done:=by
  intro X hP hw hK hc i pins s σ H E I hf st hg;subst hP hw hK;obtain⟨xs,ys,fB,M0,hx⟩:=hg;obtain⟨pY,wG,p1,rD⟩:=I.list fB;obtain⟨o8,dQ,p2,rC⟩:=I.list M0;obtain⟨hz,B1,⟨c1,d1,t4⟩,h1,h2⟩:=st;have iM:=wG.length;have L5:=dQ.length;have fz:=hf z (by simp);have fO:=hf TO (by simp);have f1:=hf i1 (by simp);have f2:=hf i2 (by simp);have nn:∀ c,c∉[z,TO,i1,i2]->c≠z/\c≠TO/\c≠i1/\c≠i2:=λ c c5=>by simpa using c5
  refine wpAny_pyNext_zip_end (I.ok.hd hc) D hz B1 t4 h1 h2 p1.isList p2.isList (by rcases hx with q|q;left;simp;omega;right;simp;omega) λ h' k2=>⟨rfl,?_⟩
  refine I.step (g':=s.gens) (d':=s.drawn) (t':=s.toks) (ch:=[z,TO,i1,i2]) (λ c c5=>?_) (λ c o _ _ c5 q _=>k2 c o (nn c c5).1 (nn c c5).2.1 (nn c c5).2.2.1 (nn c c5).2.2.2 q)
   (λ c o _ _ c5 q _=>⟨o.slots,k2 c o (nn c c5).1 (nn c c5).2.1 (nn c c5).2.2.1 (nn c c5).2.2.2 q⟩) (λ _ _ _ _ n=>n) (λ c o c5 q=>⟨o,k2 c o (nn c c5).1 (nn c c5).2.1 (nn c c5).2.2.1 (nn c c5).2.2.2 q⟩)
   (λ _ _ q=>q) (λ _ _ _ q=>q) (λ c ps q=>⟨#[],by rw[q];simp⟩) (λ m hm=>?_) (λ c u q=>?_) I.bare
  ·have:jF X pins H c:=by
    have c5:c=z∨c=TO∨c=i1∨c=i2:=by simpa using c5
    rcases c5 with e|e|e|e <;> subst e <;> assumption
   exact⟨this.2.2.2.1,this.2.1,this.2.2.2.2.1,this.2.2.2.2.2⟩
  ·obtain⟨o,o7,ep,ho,r⟩:=hm;exact⟨o,o7,ep,k2 _ o (Vz fz.2.1) (Vz fO.2.1) (Vz f1.2.1) (Vz f2.2.1) ho,r⟩
  ·have no:∀ b',H b'=none->∀ c',(c'=c∨H c'=some (.own c))->c'≠b':=λ b' cN c' C3 e=>by
    subst e;rcases C3 with e|e
    ·subst e;rw[cN] at q;cases q
    ·rw[cN] at e;cases e
   exact(I.hok c u q).stay (λ c' v c5 r=>k2 c' v (no z fz.1 c' c5) (no TO fO.1 c' c5) (no i1 f1.1 c' c5) (no i2 f2.1 c' c5) r) (λ _ r=>r) λ _ _ r=>r
 self:=λ A i s Q E st h=>Uw st.1 h
def qpb(K:W.Frag)(ta:TA):TI2:=λ σ H R=>ta σ H λ vs H1=>∃ a b,vs=[.ref a,.ref b]/\(∃ xs,SqL K H1 a xs)/\(∃ ys,SqL K H1 b ys)/\R (ItZ K a b) H1
theorem qeD{X:Cx}{es:List Expr}{k:Nat}{p4:Pos}{l1 l2:Expr}{ta:TA}{p pos:Pos}(hg:Gl X "zip")(hm:X.mg "zip"=none)(ha:PA X [l1,l2] ta)(hs:starEach [l1,l2] X.env=[(false,eval l1 X.env),(false,eval l2 X.env)]:=by rfl)(l7:starEach [l2] X.env=[(false,eval l2 X.env)]:=by rfl):
  PI2 X (.Tuple es k p4) (.Call (.Name "zip" p) [l1,l2] [] pos) (qpb X.K ta):=by
 intro pins s σ H R I h;refine Call_ (jW I hg hm boot_zip (Xe (thn (ha pos pins s σ H _ I h) λ us s1 ⟨vs,H1,I1,r1,q1⟩=>?_) (by rw[hs,l7]) (by rw[l7];rfl)));obtain⟨a,b,e,⟨xs,fB⟩,⟨ys,M0⟩,q⟩:=q1;subst e;obtain⟨u1,u2,rfl,lJ,eL⟩:=qdS r1;cases lJ
 cases eL
 obtain⟨pY,wG,p1,rD⟩:=I1.list fB;obtain⟨o8,dQ,p2,rC⟩:=I1.list M0;have a1:a<s1.heap.objs.size:=by obtain⟨_,e,_⟩:=p1.isList;exact Qw e
 have a2:b<s1.heap.objs.size:=by obtain⟨_,e,_⟩:=p2.isList;exact Qw e
 refine call_zip_2 p1.isList p2.isList λ h' hz B1 t4 hi1 hi2 hsz hk=>Uw hz ?_
 refine⟨s1.heap.objs.size+4,[s1.heap.objs.size+4,s1.heap.objs.size+2,s1.heap.objs.size+3,s1.heap.objs.size,s1.heap.objs.size+1],_,_,H1,rfl,I1.kept (t':=s1.toks) hk,qjw (zipApart_new a1 a2),⟨hz,B1,⟨_,_,t4⟩,hi1,hi2⟩,λ c hc=>?_,q⟩;have hc:c=s1.heap.objs.size+4∨c=s1.heap.objs.size+2∨c=s1.heap.objs.size+3∨c=s1.heap.objs.size∨c=s1.heap.objs.size+1:=by simpa using hc
 have A0:s1.heap.objs.size<=c:=by rcases hc with e|e|e|e|e <;> rw[e] <;> omega
 exact I1.fpOk A0 (I1.hok.fresh A0)
noncomputable abbrev cs(z:Str):List Nat:=z.cps.toList
noncomputable def qi(l:List Nat):Str:=⟨l.toArray⟩
theorem qjx(z:Str):qi (cs z)=z:=rfl
theorem qeE(h:cs a=cs b):a=b:=by rw[<- qjx a,<- qjx b,h]
noncomputable abbrev vS(l:List Nat):V:=.str (qi l)
theorem qgD(h:vS a=vS b):a=b:=by
 injection h with h
 have:=congrArg cs h
 exact this
theorem vc:∀{ss:List Str}{us:List Value},qL (ss.map V.str) us->StrsAre us ss
 | [],_,r=>by cases r;exact .nil
 |x::ss,_,r=>by
  rw[Qj] at r;cases r with
  |cons h t =>
   obtain⟨t',rfl⟩:=h;exact .cons _ _ (vc t)
theorem vd:∀{ss:List Str}{us:List Value},StrsAre us ss->qL (ss.map V.str) us
 |_,_,.nil=>.nil
 |_,_,.cons x t h=>.cons ⟨t,rfl⟩ (vd h)
section
variable {X:Cx}
def qoa(K:W.Frag):V->List V->Hp->VK->Prop:=λ x vs H Q=>∃ z p ss,x=.str z/\vs=[.ref p]/\(SqL K H p (ss.map V.str)∨SqT K H p (ss.map V.str))/\(ss.map (·.length)).sum+ss.length*z.length<=16777216/\Q (.str (Txt.join z ss)) H
theorem jy:MtR X "str.join" (qoa X.K):=by
 intro pins s σ H x vs v us Q I rx rv h;obtain⟨z,p,ss,rfl,rfl,hq,hz,q⟩:=h;obtain⟨t,rfl⟩:=rx;obtain⟨u,rfl,ru⟩:=yk rv;cases ru
 rcases hq with hq|hq
 ·obtain⟨its,r,pl,_⟩:=I.list hq;exact join_list pl.isList (vc (by simpa using r)) hz λ t' k=>⟨.str (Txt.join z ss),H,I.tok _,⟨_,rfl⟩,q⟩
 ·obtain⟨its,r,pl,_⟩:=I.tuple hq;exact join_tuple pl (vc (by simpa using r)) hz λ t' k=>⟨.str (Txt.join z ss),H,I.tok _,⟨_,rfl⟩,q⟩
noncomputable def qbb(ss:List Str):List Str:=(Fs.srt (ss.map cs)).map qi
theorem qiv(a b:List Nat):ltCps a b=decide (a<b):=ltCps_eq a b
theorem qeF(hp:A9.Perm ss)(hs:sortedS A9=true):A9=qbb ss:=by
 have i9:∀(p:Str)(l:List Str),risingS p l=true->(∀ x∈l,¬ cs x<cs p)/\(l.map cs).Pairwise (λ x y=>¬ y<x):=by
  intro p l;induction l generalizing p with
  |nil=>intro _;exact⟨by simp,by simp⟩
  |cons a l ih =>
   intro h;simp only[risingS,Uq,Bool.not_eq_true'] at h;obtain⟨h1,h2⟩:=h;have ha:¬ cs a<cs p:=by
    have:=h1
    rw[qiv] at this;exact Zr this
   obtain⟨i1,i2⟩:=ih a h2;refine⟨λ x hx=>?_,?_⟩
   ·rcases Qi.mp hx with e | e
    ·rw[e];exact ha
    ·intro c8
     have:=i1 x e
     by_cases hpa:cs p<cs a
     ·exact this (List.lt_trans c8 hpa)
     ·have e':=Fs.plt_total hpa ha;rw[e'] at c8;exact this c8
   ·rw[Qj];exact Zj.mpr ⟨λ y hy=>by
     obtain⟨x,hx,rfl⟩:=Q4.mp hy;exact i1 x hx,i2⟩
 have hpw:(A9.map cs).Pairwise (λ x y=>¬ y<x):=by
  cases A9 with
  |nil=>simp
  |cons a l =>
   have h:risingS a l=true:=hs;obtain⟨i1,i2⟩:=i9 a l h;rw[Qj];exact Zj.mpr ⟨λ y hy=>by
    obtain⟨x,hx,rfl⟩:=Q4.mp hy;exact i1 x hx,i2⟩
 have e:=Fs.srt_of (hp.map cs) hpw;unfold qbb;rw[<- e,Q5]
 have:qi ∘ cs=id:=funext λ z=>qjx z
 rw[this,List.map_id]
structure Kind{α:Type}(f:α->V):Prop where
 flat:∀ a,qjo (f a)=true
 eq:∀ a b,eqV (f a) (f b)=true ↔ a=b
theorem qcT:Kind V.str:=⟨λ _=>rfl,λ a b=>by show(a == b)=true ↔ a=b;exact Vn⟩
noncomputable def qd5{α:Type}(f:α->V)(as bs:List α)(j:Nat):Bool:=match as[j]?,bs[j]? with
 |some a,some b=>eqV (f a) (f b)
 |_,_=>true
theorem qbC{α:Type}[DecidableEq α]{f:α->V}(k:Kind f):∀(as bs:List α),((List.range (min as.length bs.length)).all (qd5 f as bs) && as.length == bs.length)=decide (as=bs):=by
 intro as bs;rw[U2,Uq,decide_eq_true_iff,Uo];constructor
 ·rintro⟨h1,h2⟩;have hl:as.length=bs.length:=by simpa using h2
  refine Z1 λ j=>?_
  by_cases hj:j<as.length
  ·have:=h1 j (by rw[Js];omega)
   have ea:as[j]?=some as[j]:=Xy hj;have eb:bs[j]?=some (bs[j]'(by omega)):=Xy (by omega);unfold qd5 at this;rw[ea,eb] at this;rw[ea,eb,(k.eq _ _).mp this]
  ·rw[Yb (by omega),Yb (by omega)]
 ·rintro rfl;refine⟨λ j hj=>?_,by simp⟩;unfold qd5;cases e:as[j]? with
  |none=>rfl
  |some a=>exact(k.eq a a).mpr rfl
theorem qcU{f:α->V}(k:Kind f){as bs:List α}(ra:qL (as.map f) us)(rb:qL (bs.map f) vs)(j:Nat)(h1:j<us.toArray.size)(h2:j<vs.toArray.size):
  SeqAt.EqAt A s us.toArray[j] vs.toArray[j] (qd5 f as bs j):=by
 have l1:=ra.length;have l2:=rb.length;rw[U3] at l1 l2;rw[Zu] at h1 h2;have ea:as[j]?=some (as[j]'(by omega)):=Xy (by omega);have eb:bs[j]?=some (bs[j]'(by omega)):=Xy (by omega);obtain⟨u,hu,ru⟩:=ra.get (i:=j) (x:=f (as[j]'(by omega))) (by rw[Zt,ea];rfl);obtain⟨v,hv,rv⟩:=rb.get (i:=j) (x:=f (bs[j]'(by omega))) (by rw[Zt,eb];rfl);have hu':us.toArray[j]=u:=by
  have:us[j]?=some us[j]:=Xy h1
  rw[hu] at this;simpa using(Option.some.inj this).symm
 have aG:vs.toArray[j]=v:=by
  have:vs[j]?=some vs[j]:=Xy h2
  rw[hv] at this;simpa using(Option.some.inj this).symm
 rw[hu',aG];unfold qd5;rw[ea,eb];exact qm0 ru rv (k.flat _) (k.flat _)
def qob{α:Type}[DecidableEq α](K:W.Frag)(f:α->V)(neg:Bool):R2:=λ x y H Q=>∃(a b:Addr)(as bs:List α),x=.ref a/\y=.ref b/\((SqT K H a (as.map f)/\SqT K H b (bs.map f))∨(SqL K H a (as.map f)/\SqL K H b (bs.map f)))/\Q (.bl (if neg then !decide (as=bs) else decide (as=bs))) H
theorem qly{α:Type}[DecidableEq α]{f:α->V}(k:Kind f)(hu:X.A.units<cLine):OpR X (compareOp .Eq) (qob X.K f false):=by
 intro pins s σ H x y v u Q I rx ry h;obtain⟨a,b,as,bs,rfl,rfl,hq,q⟩:=h;cases rx
 cases ry
 have q:Q (.bl (decide (as=bs))) H:=q;rcases hq with⟨h1,h2⟩|⟨h1,h2⟩
 ·obtain⟨its,r1,p1,_⟩:=I.tuple h1;obtain⟨o8,r2,p2,_⟩:=I.tuple h2;have l1:=r1.length;have l2:=r2.length;rw[U3] at l1 l2;refine SeqAt.eq_tupleAt (show s.heap.IsTuple a its.toArray from p1) (show s.heap.IsTuple b o8.toArray from p2) hu (λ j h1 h2=>qcU k r1 r2 j h1 h2) ⟨.bl (decide (as=bs)),H,I,?_,q⟩;rw[Zu,Zu,<- l1,<- l2,qbC k];rfl
 ·obtain⟨its,r1,p1,_⟩:=I.list h1;obtain⟨o8,r2,p2,_⟩:=I.list h2;have l1:=r1.length;have l2:=r2.length;rw[U3] at l1 l2;by_cases hs:its.toArray.size=o8.toArray.size
  ·refine SeqAt.eq_listAt p1.isList p2.isList hs hu (λ j h1 h2=>qcU k r1 r2 j h1 h2) ⟨.bl (decide (as=bs)),H,I,?_,q⟩;have e:=qbC k as bs;rw[Zu,Zu] at hs;rw[show as.length=bs.length by omega,Nat.min_self,beq_self_eq_true,Bool.and_true] at e;rw[Zu,show its.length=bs.length by omega,e];rfl
  ·refine SeqAt.eq_list_lengthsAt p1.isList p2.isList (by simpa using hs) hu ⟨.bl (decide (as=bs)),H,I,?_,q⟩;rw[Jl]
   ·rfl
   ·intro e;rw[Zu,Zu,<- l1,<- l2,e] at hs;exact hs rfl
def qm5(K:W.Frag):R2:=λ x y H Q=>∃ a b xs ys,x=.ref a/\y=.ref b/\SqT K H a xs/\SqT K H b ys/\xs.length+ys.length<=sizeLine /\
 ∀ p H',qk H H'->SqT K H' p (xs++ys)->Q (.ref p) H'
theorem qcV(h:H p=none)(o:HO):qk H (upd H p o):=λ b u q=>by rw[qv (zp q h)];exact q
theorem qlz(ht:IsTup s.heap t vs.toArray)(hb:IsTup s.heap b ws.toArray)(h0:vs=[]->Q (.ref b) s)(h1:vs≠[]->ws=[]->Q (.ref t) s)(h2:vs≠[]->ws≠[]->Q (.ref s.heap.objs.size) { s with heap:=s.heap.push { cls:=.type "tuple",data:=.seq (vs++ws).toArray } })(hsz:vs.length+ws.length<=sizeLine):wpAny (model prog w) A (binaryOp .Add (.ref t) (.ref b)) Q E s:=by
 by_cases hv:vs=[]
 ·obtain⟨⟨cls,dd,data,sl⟩,ho,hc,n,hd⟩:=id ht;obtain⟨⟨cls2,iY,data2,wF⟩,O3,mS,n2,W4⟩:=id hb;simp only at hc hd mS W4;subst hc hd mS W4;exact concat_meets ⟨_,ho,rfl⟩ ⟨_,O3,rfl⟩ noFill_tuple_add seq_tuple_add XI X6 (Xx _ _)
   (tuple_addW0 t b vs.toArray ws.toArray n n2 dd iY sl wF (by simp[hv])) ⟨ho,O3,h0 hv⟩
 ·exact HT.cat_tup ht hb hv (h1 hv) (h2 hv) hsz
theorem qjy:OpR X (binaryOp .Add) (qm5 X.K):=by
 intro pins s σ H x y v u Q I rx ry h;obtain⟨a,b,xs,ys,rfl,rfl,fB,M0,hz,q⟩:=h;cases rx
 cases ry
 obtain⟨its,r1,p1,_⟩:=I.tuple fB;obtain⟨o8,r2,p2,_⟩:=I.tuple M0;have l1:=r1.length;have l2:=r2.length;have e0:its=[]->xs=[]:=λ e=>by rw[e] at l1;exact Xd l1
 have e1:o8=[]->ys=[]:=λ e=>by rw[e] at l2;exact Xd l2
 refine qlz p1 p2 (λ h=>⟨.ref b,H,I,rfl,?_⟩) (λ h h'=>⟨.ref a,H,I,rfl,?_⟩) (λ h h'=>⟨.ref s.heap.objs.size,_,I.laid (a:=s.heap.objs.size) (o:=.tup (xs++ys)) (t':=s.toks) (λ _ _ q=>XG _ q) (Vd _) ⟨?_,its++o8,r1.append r2,?_⟩,rfl,?_⟩) (by omega)
 ·refine q b H (qk.refl H) ?_;rw[e0 h];exact M0
 ·refine q a H (qk.refl H) ?_;rw[e1 h',U4];exact fB
 ·rw[Zh];exact hz
 ·exact⟨_,Yy _ rfl,rfl,_,rfl⟩
 ·have hf:=I.hok.fresh (Vd s.heap.objs.size);exact q _ _ (qcV hf _) (SqT.of qd)
theorem qfz(hc:X.calm=true):y9 X (.builtin "all") (λ xs H Q=>∃(p:Addr)(bs:List Bool),xs=[.ref p]/\SqL X.K H p (bs.map V.bl)/\Q (.bl (bs.all id)) H):=by
 intro pins s σ H xs us Q I r h;obtain⟨p,bs,rfl,hq,q⟩:=h;obtain⟨u,rfl,ru⟩:=yk r;cases ru
 obtain⟨its,rv,pl,hz⟩:=I.list hq;have hl:=rv.length;rw[U3] at hl;have hh:X.A.in1.handled=none:=by simp[I.ok.hd hc]
 have lK:p<s.heap.objs.size:=by obtain⟨_,e,_⟩:=pl.isList;exact Qw e
 refine call_all_walk (Ua pl.isList ⟨s.heap.objs.size,_,_,_,_,_,λ i=>bs.getD i true,rfl,Walks.list hh s.heap.objs.size p (Qx lK) its.toArray,
  ⟨⟨_,Yy _ rfl,rfl,rfl⟩,pl.isList.push _⟩,λ i v s Q E hv hQ=>?_,λ h' tk hk=>?_⟩)
 ·have e:its[i]?=some v:=by simpa using hv
  have hi:i<bs.length:=by rw[hl];exact(Xn.mp e).1
  obtain⟨u,hu,ru⟩:=rv.get (i:=i) (x:=.bl bs[i]) (by rw[Zt,Xy hi];rfl);rw[e] at hu;cases hu
  cases ru
  refine Z9 ?_
  have:bs.getD i true=bs[i]:=by rw[Xj,Xy hi];rfl
  have hQ':Q (bs.getD i true) s:=hQ;rw[this] at hQ';exact hQ'
 ·have hf:=I.hok.fresh (Vd s.heap.objs.size);refine⟨.bl (bs.all id),H,?_,?_,q⟩
  ·have I1:Inv X pins σ H { s with heap:=s.heap.push { cls:=.type "list_iterator",data:=.fields #[.ref p,.int 0 0] } }:=I.kept (t':=s.toks) λ _ _ e=>XG _ e
   refine I.kept (t':=tk) λ b o e=>hk b o (λ z=>?_) (XG _ e)
   have:b=s.heap.objs.size:=by simpa using z
   exact absurd (Qw e) (by rw[this];exact Qh _)
  ·show Value.bool _=Value.bool _
   congr 1
   rw[Zu,<- hl,U2,Uo,Uo];constructor
   ·intro h b hb;obtain⟨i,hi,e⟩:=Y2 hb
    have:=h i (Js.mpr hi)
    rw[Xj,Xy hi,e] at this;exact this
   ·intro h i hi;have hi:=Js.mp hi;rw[Xj,Xy hi];exact h _ (Ur hi)
end
theorem qaC{α:Type}:∀(l:List α)(i:Nat)(h:i<l.length),(l[i]::l.eraseIdx i).Perm l
 |x::l,0,_=>Jw _
 |x::l,i+1,h=>by
  have:=qaC l i (by simpa using h)
  rw[List.getElem_cons_succ,X7];exact(List.Perm.swap _ _ _).trans (this.cons x)
section
variable {prog:Program}{w:World}{A:Around}{E:Value->Shared->Prop}{s:Shared}
theorem qeG(hn:n≠0)(h:∀ i d,i<n->Q i { s with drawn:=d }):wpAny M A (choose wB n) Q E s:=λ Γ p hΓ=>by
 show Sem.wp M Γ (Sem.choose wB n Sem.pure) _ _ p s
 rw[Sem.wp];refine⟨hn,?_⟩;rw[Sem.wp];exact h _ _ (Nat.mod_lt _ (Nat.pos_of_ne_zero hn))
theorem y4:∀(n:Nat)(xs:List α)(s:Shared)(Q:List α->Shared->Prop),xs.length=n->(∀ ys d,ys.Perm xs->Q ys { s with drawn:=d })->wpAny M A (drawOrder n xs) Q E s
 |0,xs,s,Q,hl,h=>by
  have:xs=[]:=Xd hl
  subst this;unfold drawOrder;have e:=h [] s.drawn (Jw _);cases s
  exact Vm e
 |n+1,[],s,Q,hl,h=>by simp at hl
 |n+1,x::xs,s,Q,hl,h=>by
  unfold drawOrder;refine Vl (qeG (by simp) λ i d hi=>?_);have e:(x::xs)[i]?=some (x::xs)[i]:=Xy hi;rw[e];dsimp only;refine Vl (y4 n ((x::xs).eraseIdx i) _ _ ?_ λ ys d' hp=>Vm ?_)
  ·rw[Xk hi];omega
  ·refine h _ d' ((hp.cons _).trans ?_);exact qaC (x::xs) i hi
def byT(w:World):Prop:=w.params.followText "set-order"=true
def qbD(P:Program)(w:World)(x:Str)(e:Int×Value):Prop:=e.1=(qw P w).hash (.inr x)/\∃ t,e.2=.str x t
def qW(P:Program)(w:World)(h:Heap)(a:Addr)(ys:List Str):Prop:=
 ∃ o es ep t,h.get? a=some o/\o.ExactSet/\o.data=.set es ep t/\Paired (qbD P w) ys es.toList/\ys.Nodup/\ys.length<scanBound/\t.fits es.size=true/\(t.led=true∨byT w)/\(ys=[]∨t.plain=false)
theorem qcW(h:Paired (qbD P w) ys l):ElemsOf (qw P w) l:=by
 induction h with
 |nil=>intro e he;cases he
 |cons h _ ih =>
  intro e he;rcases Qi.mp he with z|z
  ·subst z;obtain⟨h1,t,h2⟩:=h;exact⟨⟨.inr _,by rw[h2];exact zv _ _ _ _,h1⟩,by rw[h2];rfl⟩
  ·exact ih e z
theorem qcX(h:Paired (qbD P w) ys l)(k:Key):(∃ e∈l,(qw P w).is k e.2=true) ↔ ∃ y∈ys,k=.inr y:=by
 induction h with
 |nil=>simp
 | @cons y e ys l h _ ih =>
  obtain⟨h1,t,h2⟩:=h;have hk:(qw P w).is k e.2=true ↔ k=.inr y:=by
   rw[h2];constructor
   ·intro q;exact(qw P w).inj _ _ _ q (zv P w y t)
   ·rintro rfl;exact zv P w y t
  simp only[Qi,exists_eq_or_imp,ih,hk]
theorem yW{F:α->β->Prop}{xs:List α}{l l':List β}(h:Paired F xs l)(p:l'.Perm l):∃ oZ,oZ.Perm xs/\Paired F oZ l':=by
 induction p generalizing xs with
 |nil=>cases h;exact⟨[],Jw _,.nil⟩
 |cons b p ih =>
  cases h with
  |cons h t =>
   obtain⟨oZ,h1,h2⟩:=ih t;exact⟨_::oZ,h1.cons _,.cons h h2⟩
 |swap a b l =>
  cases h with
  |cons h t =>
   cases t with
   |cons h' t=>exact⟨_,List.Perm.swap _ _ _,.cons h' (.cons h t)⟩
 |trans _ _ i1 i2 =>
  obtain⟨oZ,h1,h2⟩:=i2 h;obtain⟨xs'',h3,h4⟩:=i1 h2;exact⟨xs'',h3.trans h1,h4⟩
theorem q8:∀{xs ys:List α}{us vs:List β},Paired F xs us->Paired F ys vs->Paired F (xs++ys) (us++vs)
 |_,_,_,_,.nil,s=>s
 |_,_,_,_,.cons r t,s=>.cons r (q8 t s)
theorem qiw(t:SetTable)(es:Array (Int×Value))(h:Int)(x:Value):(layNew t es h x).2.1.led=t.led/\(t.plain=false->(layNew t es h x).2.1.plain=false):=by
 unfold layNew;split
 ·rename_i slot wd e;dsimp only;unfold SetTable.orStandIn;split
  ·exact⟨rfl,λ h=>h⟩
  ·exact⟨rfl,λ _=>rfl⟩
 ·exact⟨rfl,λ _=>rfl⟩
theorem qgE {plain:Bool}(h:SetTable.laid mask finger moves led plain hs=some r):r.1.led=led/\r.1.plain=plain:=by
 unfold SetTable.laid at h;cases e:SetTable.layClean mask hs with
 |none=>rw[e] at h;cases h
 |some o=>rw[e] at h;cases h;exact⟨rfl,rfl⟩
theorem qfA(t:SetTable)(es:Array (Int×Value))(n:Nat):(relayAll t es n).2.1.led=t.led/\(t.plain=false->(relayAll t es n).2.1.plain=false):=by
 unfold relayAll;split
 ·rename_i t' p6 e;have f:=qgE (show SetTable.laid _ _ _ _ _ _=some (t',p6) from e);dsimp only;split
  ·exact⟨f.1,λ h=>f.2.trans h⟩
  ·exact⟨rfl,λ _=>rfl⟩
 ·exact⟨rfl,λ _=>rfl⟩
theorem jj{h:Heap}(ho:h.get? a=some o)(hex:o.ExactSet)(hd:o.data=.set es ep t)(hp:Paired (qbD P w) ys o7.toList)(nd:ys.Nodup)(hb:ys.length<scanBound)(hf:t'.fits o7.size=true)(hl:t'.led=true∨byT w)(p8:ys=[]∨t'.plain=false):
  (h.update a (Obj.putSet o7 t')).get? a=some { o with data:=.set o7 (ep+1) t' }/\qW P w (h.update a (Obj.putSet o7 t')) a ys:=by
 have hg:(h.update a (Obj.putSet o7 t')).get? a=some { o with data:=.set o7 (ep+1) t' }:=by
  have:=XV (Obj.putSet o7 t') ho (by rw[putSet_of o7 t' hd];rfl)
  rw[putSet_of o7 t' hd] at this;exact this
 exact⟨hg,_,o7,ep+1,t',hg,hex,rfl,hp,nd,hb,hf,hl,p8⟩
theorem qfB{g:Bool->Sem Unit}(hg:∀(b:Bool)(s₁:Shared)(Q':Unit->Shared->Prop),Q' () s₁->wpAny (model prog w) A (g b) Q' E s₁)(ho:s.heap.get? a=some o)(hex:o.ExactSet)(hd:o.data=.set es ep t)(O2:Paired (qbD prog w) ys G0.toList)(nd:ys.Nodup)(P8:ys.length<scanBound)(xD:t2.fits G0.size=true)(hl:t2.led=true∨byT w)(p8:t2.plain=false)(h:∀ h' o0,Heap.SameBut a s.heap h'->o0.Perm ys->qW prog w h' a o0->R (some true) { s with heap:=h' }):
  wpAny (model prog w) A (do
    storeSet a G0 t2
    if (!O1 && t2.tooFull)=true then do
        g (relayAll t2 G0 (SetTable.grown G0.size)).2.2
        storeSet a (relayAll t2 G0 (SetTable.grown G0.size)).1 (relayAll t2 G0 (SetTable.grown G0.size)).2.1
        pure (some true)
     else pure (some true)) R E s:=by
 have c7:G0.size<scanBound:=by rw[<- Yx,<- O2.length];exact P8
 refine Vl (Ud ho hd ?_ (Ue c7));obtain⟨G8,bM⟩:=jj (P:=prog) (w:=w) ho hex hd O2 nd P8 xD hl (.inr p8);have rN:=Y3 s.heap a (Obj.putSet G0 t2);split
 ·have hp:=relayAll_perm t2 G0 (SetTable.grown G0.size);have aZ:=relayAll_fits t2 G0 (SetTable.grown G0.size);have bH:=qfA t2 G0 (SetTable.grown G0.size);generalize hRl:relayAll t2 G0 (SetTable.grown G0.size)=Rl at hp aZ bH ⊢;obtain⟨es2,t3,aA5⟩:=Rl;dsimp only at hp aZ bH ⊢;obtain⟨o0,hy,W1⟩:=yW O2 hp;have L4:es2.size<scanBound:=by rw[<- Yx,hp.length_eq,Yx];exact c7
  refine Vl (hg _ _ _ ?_);refine Vl (Ud G8 rfl ?_ (Ue L4));obtain⟨_,fZ⟩:=jj (P:=prog) (w:=w) G8 hex rfl W1 (hy.nodup_iff.mpr nd) (by rw[hy.length_eq];exact P8) aZ (by rw[bH.1];exact hl) (.inr (bH.2 p8));exact Vm (h _ o0 (rN.trans (Y3 _ a _)) hy fZ)
 ·exact Vm (h _ ys rN (Jw _) bM)
theorem qfC(hS:qW prog w s.heap a ys)(rP:ys.length+1<scanBound)(h0:x∈ys->Q false s)(h1:x∉ys->∀ h' o0,Heap.SameBut a s.heap h'->o0.Perm (ys++[x])->qW prog w h' a o0->Q true { s with heap:=h' }):
  wpAny (model prog w) A (setAddHashed a (.str x t0) ((qw prog w).hash (.inr x))) Q E s:=by
 obtain⟨o,es,ep,t,ho,hex,hd,hp,nd,hb,hf,hl,p8⟩:=hS;have cL:=qcW hp;have C8:(qw prog w).is (.inr x) (.str x t0)=true:=zv _ _ _ _;have wT:(Value.str x t0).scannable=true:=rfl;have c7:es.size<scanBound:=by rw[<- Yx,<- hp.length];exact hb
 unfold setAddHashed setAddHashedIn;refine Qr (Vl (Uf ho hd hf ?_));dsimp only;rw[byScan_of wT c7 cL];simp only[↓reduceIte];unfold setAddByScan;refine Vl ?_;refine Vl (Vq ?_);refine Vl (wpAny_setScan_of C8 ho hd hf cL ?_);cases hr:List.findIdx? (λ e=>(qw prog w).is (.inr x) e.2) es.toList with
 |some j =>
  dsimp only;obtain⟨hj,rY,_⟩:=List.findIdx?_eq_some_iff_getElem.mp hr;obtain⟨y,hy,e⟩:=(qcX hp (.inr x)).mp ⟨es.toList[j],Ur hj,rY⟩;cases e
  exact Vm (Vm (h0 hy))
 |none =>
  dsimp only;have hx:x∉ys:=λ hx=>by
   obtain⟨e,he,q⟩:=(qcX hp (.inr x)).mpr ⟨x,hx,rfl⟩
   have:=List.findIdx?_eq_none_iff.mp hr e he
   rw[q] at this;exact Bool.noConfusion this
  have hgw:∀(b:Bool){s₁:Shared}{Q':Unit->Shared->Prop},Q' () s₁->wpAny (model prog w) A (match b with | true=>rule "set.scan.the-table-gave-way" | false=>pure ()) Q' E s₁:=
   λ b s₁ Q' hq=>by cases b <;> first|exact Vm hq|exact Vq hq
  have W0:=layNew_perm t es ((qw prog w).hash (.inr x)) (.str x t0);have W3:=layNew_fits t es ((qw prog w).hash (.inr x)) (.str x t0);have bH:=qiw t es ((qw prog w).hash (.inr x)) (.str x t0);generalize hL:layNew t es ((qw prog w).hash (.inr x)) (.str x t0)=L at W0 W3 bH ⊢;obtain⟨G0,t1,O1,gave⟩:=L;dsimp only at W0 W3 bH ⊢;rw[Z2] at W0;obtain⟨ys1,rE,O2⟩:=yW (q8 hp (.cons (F:=qbD prog w) (a:=x) (b:=((qw prog w).hash (.inr x),.str x t0)) ⟨rfl,t0,rfl⟩ .nil)) W0;have wL:ys1.Nodup:=by
   rw[rE.nodup_iff];exact Zy.mpr ⟨nd,by simp,λ a ha b hb e=>by simp at hb;subst hb;subst e;exact hx ha⟩
  have P8:ys1.length<scanBound:=by rw[rE.length_eq,Zh];exact rP
  refine Vl (hgw _ ?_);have sP:∀ h' o0,Heap.SameBut a s.heap h'->o0.Perm ys1->qW prog w h' a o0->Q true { s with heap:=h' }:=λ h' o0 L3 hq dX=>h1 hx h' o0 L3 (hq.trans rE) dX
  split
  ·refine Vl ?_;rw[hashByValue_scannable 8 wT];refine Vm ?_;refine qfB (t2:=_) ?_ ho hex hd O2 wL P8 (SetTable.fits_plain_off W3) (by show t1.led=true∨_;rw[bH.1];exact hl) rfl ?_
   ·intro b s₁ Q' hq;cases b <;> first|exact Vm hq|exact Vq hq
   ·intro h' o0 L3 hq dX;dsimp only;exact Vm (sP h' o0 L3 hq dX)
  ·rename_i hnp;refine Vl (Vm ?_);simp only[↓reduceIte];refine qfB ?_ ho hex hd O2 wL P8 W3 (by rw[bH.1];exact hl) (by simpa using hnp) ?_
   ·intro b s₁ Q' hq;cases b <;> first|exact Vm hq|exact Vq hq
   ·intro h' o0 L3 hq dX;dsimp only;exact Vm (sP h' o0 L3 hq dX)
noncomputable abbrev qK(w:World):Obj:={ cls:=.type "set",dict:=none,data:=.set #[] 0 (.fresh 0 0 (!(w.params.followText "set-order"))) }
theorem jz(e:h.get? a=some (qK w)):qW prog w h a []:=
 ⟨_,#[],0,_,e,⟨rfl,rfl,rfl⟩,rfl,.nil,List.nodup_nil,by decide,rfl,by
  unfold byT;cases w.params.followText "set-order"
  ·exact .inl rfl
  ·exact .inr rfl,.inl rfl⟩
theorem qix(a:Value)(h:Q₁ (.ref s.heap.objs.size) { s with heap:=s.heap.push (qK w) }):
  codeAny (model prog w) A (.call (.builtin "set.__new__") ⟨[.type "set",a],[]⟩) (wants Q₁ E) s:=by
 refine codeAny_of_tree ?_;show wpAny _ A.in1 (do checkBuiltinCall "set.__new__" ⟨[.type "set",a],[]⟩;again (.builtin "set.__new__" ⟨[.type "set",a],[]⟩)) _ _ s
 refine Vl (Vi (F.newCall_set_1 a) (Vm ⟨Qt F.plain_set_new _,Jp F.entry_set_new ?_⟩));rw[Yo F.plain_set_new _];unfold Builtin.«set.__new__» Builtin.Frozenset.newClass;have R6:=sub_set_self;obtain⟨hp,g,d,tk,os⟩:=s;dsimp only
 wp_walk
 refine Ux (Vm ?_);dsimp only;simp only[newObj];refine Vl (wpAny_alloc (Vm ?_));exact Vm h
set_option maxHeartbeats 3200000 in
theorem kg(a:Value)(h:wpAny (model prog w) A.in1.in1 (Builtin.Frozenset.updateFrom "set.__init__" s.heap.objs.size a) (λ _ s2=>s2.TypeIs (.ref s.heap.objs.size) "set"/\Q (.ref s.heap.objs.size) s2) E { s with heap:=s.heap.push (qK w) }):
  wpAny (model prog w) A (call (.type "set") [a]) Q E s:=by
 obtain⟨c,tl,hmro⟩:=F.called_set.mro;have aA4:=F.called_set.made;have R6:=F.called_set.sub;refine wpAny_call (codeAny_of_tree ?_);show wpAny _ _ (callAny (.type "set") _) _ _ _
 refine Vm ⟨Code.quiet_builtin _ (by decide +kernel),Jp F.entry_type_call ?_⟩;rw[Around.under_plain (weight_type_call_type "set" [a] []) rfl];have h1:=F.called_set.notType;have h2:=F.called_set.canCreate;have xE:=F.typeCall_set_1 a
 repeat (any_goals (first|assumption|wp_step))
 refine Va (qix a (E:=E) (Q₁:=λ obj s₁=>obj=.ref s.heap.objs.size/\s₁={ s with heap:=s.heap.push (qK w) }) ⟨rfl,rfl⟩) λ r s₁ hr=>?_
 cases r with
 |error e=>exact hr
 |ok fl =>
  cases fl with
  |ret obj =>
   obtain⟨rfl,rfl⟩:=hr;have hS:(s.heap.push (qK w)).get? s.heap.objs.size=some (qK w):=Yy _ rfl;have hT:Shared.TypeIs { s with heap:=s.heap.push (qK w) } (.ref s.heap.objs.size) "set":=⟨_,hS,rfl⟩;have hli:=F.called_set.init.lookup;have hbi:=F.called_set.init.bind (.ref s.heap.objs.size)
   repeat (any_goals (first|assumption|wp_step))
   refine Va (codeAny_call_builtin (R:=wants (λ r s₂=>r=.none/\s₂.TypeIs (.ref s.heap.objs.size) "set"/\Q (.ref s.heap.objs.size) s₂) E) F.called_set.init.plain F.entry_set_init (check_set_init_1 hT ?_)) λ r₂ s₂ hr₂=>?_
   ·unfold Builtin.«set.__init__» noKeywords;generalize hUF:Builtin.Frozenset.updateFrom=UF at h ⊢
    wp_walk
    refine Vk h (λ _ s2 h2=>?_) (λ _ _ x=>x);show wpAny _ _ (ret Value.none) _ _ _
    exact Vm ⟨rfl,h2⟩
   ·cases r₂ with
    |error e=>exact hr₂
    |ok fl₂ =>
     cases fl₂ with
     |ret r =>
      obtain⟨rfl,hT2,hq⟩:=hr₂
      repeat (any_goals (first|assumption|wp_step))
     |_=>exact hr₂.elim
  |_=>exact hr.elim
theorem qjz(hT:s.TypeIs x T)(h1:isSubtype (.type T) (.type "set")=pure false)(h2:isSubtype (.type T) (.type "frozenset")=pure false)(h:Q false s):
  wpAny (model prog w) A (Builtin.Frozenset.isAnySet x) Q E s:=by
 unfold Builtin.Frozenset.isAnySet;refine Vl (Uy hT h1 ?_);show wpAny _ _ (isInstance x (.type "frozenset")) _ _ s
 exact Uy hT h2 h
theorem qad(hT:s.TypeIs x "set")(h:Q true s):wpAny (model prog w) A (Builtin.Frozenset.isAnySet x) Q E s:=by
 unfold Builtin.Frozenset.isAnySet;refine Vl (Uy hT sub_set_self ?_);exact Vm h
theorem y6{id:String}(hT:s.TypeIs x T)(h1:isSubtype (.type T) (.type "set")=pure false)(h2:isSubtype (.type T) (.type "frozenset")=pure false)(h3:(Value.type T == Value.type "dict")=false)(h:wpAny (model prog w) A (pyIter x) (λ it s2=>codeAny (model prog w) A (.builtin "set.update.loop" ⟨[.ref S,it],[]⟩) (λ r s3=>r=.ok (.ret .none)/\Q () s3) s2) E s):
  wpAny (model prog w) A (Builtin.Frozenset.updateFrom id S x) Q E s:=by
 unfold Builtin.Frozenset.updateFrom;refine Vl (qjz hT h1 h2 ?_);simp only[Zl,Vv];refine Vl (Vb hT ?_);simp only[h3,Zl,Vv];refine Vl (Vk h (λ it s2 h2=>?_) λ _ _ e=>e);refine Vl (wpAny_runValue (Va h2 λ r s3 hr=>?_));obtain⟨rfl,hq⟩:=hr;exact Vm hq
theorem kh{St:Nat->Heap->Prop}(W:Walks prog w A.in1 I fp wr n P St)(S:Addr)(hSf:S∉fp)(val:Nat->Str)(hval:∀ i v,P i v->∃ t,v=.str (val i) t)(hb:n+1<scanBound):
  ∀(k i:Nat)(s:Shared)(ys:List Str),n-i=k->i<=n->St i s.heap->qW prog w s.heap S ys->ys.length<=i->(∀ x,x∈ys ↔ ∃ j,j<i/\val j=x) ->
   (∀ h' tk o0,(∀ b o,b∉S::wr->s.heap.get? b=some o->h'.get? b=some o)->qW prog w h' S o0->(∀ x,x∈o0 ↔ ∃ j,j<n/\val j=x)->R (.ok (.ret .none)) { s with heap:=h',toks:=tk }) ->
   codeAny (model prog w) A (.builtin "set.update.loop" ⟨[.ref S,.ref I],[]⟩) R s:=by
 have hSw:S∉wr:=λ h=>hSf (W.sub _ h)
 have stay:∀{h h':Heap}{ys:List Str},qW prog w h S ys->(∀ o,h.get? S=some o->h'.get? S=some o)->qW prog w h' S ys:=λ hS k=>by
  obtain⟨o,es,ep,t,ho,rest⟩:=hS;exact⟨o,es,ep,t,k o ho,rest⟩
 intro k;induction k with
 |zero =>
  intro i s ys hk hi B9 hS hl hm hR;have cK:i=n:=by omega
  subst cK;refine Jp F.entry_set_update_loop ?_;rw[Yo XA _];show wpAny _ A.in1 (pyNext (.ref I) >>= _) _ _ s
  refine Vl (W.done s _ _ B9 λ h' tk K2=>?_);show wpAny _ A.in1 (ret Value.none) _ _ _
  exact Vm (hR h' tk ys (λ b o hb e=>K2 b o (λ z=>hb (Yl _ z)) e) (stay hS λ o e=>K2 S o hSw e) hm)
 |succ k ih =>
  intro i s ys hk hi B9 hS hl hm hR;have c8:i<n:=by omega
  refine Jp F.entry_set_update_loop ?_;rw[Yo XA _];show wpAny _ A.in1 (pyNext (.ref I) >>= _) _ _ s
  refine Vl (W.item i s _ _ c8 B9 λ v h1 tk hP rM K2=>?_);obtain⟨t,rfl⟩:=hval i v hP;have bM:qW prog w h1 S ys:=stay hS λ o e=>K2 S o hSw e
  refine Vl (Qr ?_);unfold setAdd;refine Qr ?_;refine Vl ((qw prog w).pyHash (k:=.inr (val i)) (zv _ _ _ _) ?_);have pQ:∀ x,(x∈ys∨x=val i) ↔ ∃ j,j<i+1/\val j=x:=λ x=>by
   rw[hm x];constructor
   ·rintro(⟨j,hj,e⟩ | e)
    ·exact⟨j,by omega,e⟩
    ·exact⟨i,by omega,e.symm⟩
   ·rintro⟨j,hj,e⟩;by_cases hji:j=i
    ·subst hji;exact .inr e.symm
    ·exact .inl ⟨j,by omega,e⟩
  refine qfC (s:={ s with heap:=h1,toks:=tk+1 }) bM (by omega) (λ hx=>?_) (λ hx h2 ys2 L3 hp fZ=>?_)
  ·refine Vm ⟨Qt XA _,ih (i+1) _ ys (by omega) c8 rM bM (by omega) (λ x=>?_) λ h3 tk3 ys3 oK hS3 sE=>?_⟩
   ·rw[<- pQ x];exact⟨.inl,λ z=>z.elim id λ e=>e ▸ hx⟩
   ·exact hR h3 tk3 ys3 (λ b o hb e=>oK b o hb (K2 b o (λ z=>hb (Yl _ z)) e)) hS3 sE
  ·refine Vm ⟨Qt XA _,ih (i+1) _ ys2 (by omega) c8 (W.frame _ _ _ rM λ b hb o e=>?_) fZ (by rw[hp.length_eq,Zh];simp;omega) (λ x=>?_) λ h3 tk3 ys3 oK hS3 sE=>?_⟩
   ·exact(L3.2 b (λ z=>hSf (z ▸ hb))).trans e
   ·rw[<- pQ x,hp.mem_iff,U1,Zn]
   ·refine hR h3 tk3 ys3 (λ b o hb e=>oK b o hb ((L3.2 b (λ z=>hb (z ▸ Ze))).trans (K2 b o (λ z=>hb (Yl _ z)) e))) hS3 sE
end
noncomputable def qeH(P:Program)(w:World)(a:Addr)(xs:List Str):HO:=.ext λ h=>∃ ys,ys.Perm xs/\qW P w h a ys
theorem qhI(hp:ys.Perm xs)(hS:qW P w h a ys):zx P w H h a (qeH P w a xs):=by
 refine⟨⟨ys,hp,hS⟩,?_,?_⟩
 ·obtain⟨o,_,_,_,e,_⟩:=hS;exact⟨o,e⟩
 ·rintro h1 h2 ⟨zs,hz,o,es,ep,t,e,rest⟩ k;exact⟨zs,hz,o,es,ep,t,k o e,rest⟩
theorem Inv.set{σ:St}(I:Inv X pins σ H s)(h:H a=some (qeH X.prog X.w a xs)):∃ ys,ys.Perm xs/\qW X.prog X.w s.heap a ys:=
 (I.hok a _ h).1
theorem qW.typeIs{s:Shared}(h:qW P w s.heap a ys):s.TypeIs (.ref a) "set":=by
 obtain⟨o,es,ep,t,e,hx,_⟩:=h;exact⟨o,e,hx.1⟩
namespace F
theorem sub_tuple_set:isSubtype (.type "tuple") (.type "set")=pure false:=by rw[Qb];kernel_rfl
theorem sub_tuple_frozenset:isSubtype (.type "tuple") (.type "frozenset")=pure false:=by rw[Qb];kernel_rfl
theorem sub_str_set:isSubtype (.type "str") (.type "set")=pure false:=by rw[Qb];kernel_rfl
theorem sub_str_frozenset:isSubtype (.type "str") (.type "frozenset")=pure false:=by rw[Qb];kernel_rfl
end F
section
variable {X:Cx}
def qpc(K:W.Frag)(P:Program)(w:World):List V->Hp->VK->Prop:=λ xs H Q=>∃ ss:List Str,(((∃ p,xs=[.ref p]/\(SqL K H p (ss.map V.str)∨SqT K H p (ss.map V.str)))∨∃ z,xs=[.str z]/\ss=(cs z).map λ c=>qi [c]))/\ss.length+1<scanBound /\
 ∀ l ys,H l=none->ys.Nodup->(∀ x,x∈ys ↔ x∈ss)->Q (.ref l) (upd H l (qeH P w l ys))
theorem ki(hc:X.calm=true):y9 X (.type "set") (qpc X.K X.prog X.w):=by
 intro pins s σ H xs us Q I r h;obtain⟨ss,wB,hb,q⟩:=h;have hf:H s.heap.objs.size=none:=I.hok.fresh (Vd _);have hh:X.A.in1.in1.in1.handled=none:=by simp[I.ok.hd hc]
 have u7:(s.heap.push (qK X.w)).get? s.heap.objs.size=some (qK X.w):=Yy _ rfl;have fin:∀(h':Heap)(tk:Nat)(o0:List Str),(∀ b o,b<s.heap.objs.size->s.heap.get? b=some o->h'.get? b=some o)->qW X.prog X.w h' s.heap.objs.size o0->(∀ x,x∈o0 ↔ x∈ss) ->
   Shared.TypeIs { s with heap:=h',toks:=tk } (.ref s.heap.objs.size) "set"/\EP X pins σ Q (.ref s.heap.objs.size) { s with heap:=h',toks:=tk }:=by
  intro h' tk o0 hk hS hm;refine⟨hS.typeIs (s:={ s with heap:=h',toks:=tk }),.ref s.heap.objs.size,_,I.laid (a:=s.heap.objs.size) (o:=qeH X.prog X.w s.heap.objs.size o0) (t':=tk) (λ b o e=>hk b o (Qw e) e) (Vd _) (qhI (Jw _) hS),rfl,q _ o0 hf ?_ hm⟩;obtain⟨_,_,_,_,_,_,_,_,nd,_⟩:=hS;exact nd
 have R5:∀(o0:List Str),(∀ x,x∈o0 ↔ ∃ j,j<ss.length/\ss.getD j default=x)->∀ x,x∈o0 ↔ x∈ss:=λ o0 hm x=>by
  rw[hm x];constructor
  ·rintro⟨j,hj,e⟩;rw[Xj,Xy hj] at e;rw[<- e];exact Ur hj
  ·intro hx;obtain⟨j,hj,e⟩:=Y2 hx;exact⟨j,hj,by rw[Xj,Xy hj];exact e⟩
 have tM:∀{its:List Value},qL (ss.map V.str) its->∀(i:Nat)(v:Value),its.toArray[i]?=some v->∃ t,v=.str (ss.getD i default) t:=λ{its} rv i v hv=>by
  have e:its[i]?=some v:=by simpa using hv
  have hl:=rv.length;rw[U3] at hl;have hi:i<ss.length:=by rw[hl];exact(Xn.mp e).1
  obtain⟨u,hu,ru⟩:=rv.get (i:=i) (x:=.str ss[i]) (by rw[Zt,Xy hi];rfl);rw[e] at hu;cases hu
  obtain⟨t,rfl⟩:=ru;exact⟨t,by rw[Xj,Xy hi];rfl⟩
 rcases wB with⟨p,rfl,hq⟩|⟨z,rfl,ez⟩
 ·obtain⟨u,rfl,ru⟩:=yk r;cases ru
  rcases hq with hq|hq
  ·obtain⟨its,rv,pl,hz⟩:=I.list hq;have hl:=rv.length;rw[U3] at hl;have lK:p<s.heap.objs.size:=by obtain⟨_,e,_⟩:=pl.isList;exact Qw e
   have iM:(s.heap.push (qK X.w)).IsList p its.toArray:=pl.isList.push _;have sz:(s.heap.push (qK X.w)).objs.size=s.heap.objs.size+1:=Ju _ _;refine kg (.ref p) (y6 (s:={ s with heap:=s.heap.push (qK X.w) }) iM.typeIs F.sub_list_set F.sub_list_frozenset (by decide) (Ua iM ?_));refine kh (Walks.list hh _ p (by rw[sz];exact Qx (Z0 lK)) its.toArray) s.heap.objs.size (by rw[sz];simp;exact Q0 lK) (λ i=>ss.getD i default) (tM rv) (by rw[Zu,<- hl];exact hb)
    (its.toArray.size-0) 0 _ [] rfl (Ve _) ⟨⟨_,Yy _ rfl,rfl,rfl⟩,iM.push _⟩ (jz (XG _ u7)) (Vd _) (by simp) λ h' tk o0 hk hS hm=>⟨rfl,?_⟩
   refine fin h' tk o0 (λ b o hb e=>hk b o (by simp[sz];exact⟨Qx hb,Qx (Z0 hb)⟩) (XG _ (XG _ e))) hS (R5 o0 λ x=>?_);rw[hm x,Zu,<- hl]
  ·obtain⟨its,rv,pl,hz⟩:=I.tuple hq;have hl:=rv.length;rw[U3] at hl;have lK:p<s.heap.objs.size:=by obtain⟨_,e,_⟩:=pl;exact Qw e
   have iM:(s.heap.push (qK X.w)).IsTuple p its.toArray:=by
    obtain⟨o,e,rest⟩:=pl;exact⟨o,XG _ e,rest⟩
   have sz:(s.heap.push (qK X.w)).objs.size=s.heap.objs.size+1:=Ju _ _;have hT:Shared.TypeIs { s with heap:=s.heap.push (qK X.w) } (.ref p) "tuple":=by
    obtain⟨o,e,c,rest⟩:=iM;exact⟨o,e,c⟩
   refine kg (.ref p) (y6 (s:={ s with heap:=s.heap.push (qK X.w) }) hT F.sub_tuple_set F.sub_tuple_frozenset (by decide) (wpAny_pyIter_tuple iM ?_));have L5:((s.heap.push (qK X.w)).push { cls:=.type "tuple_iterator",data:=.fields #[.ref p,.int 0 0] }).IsTuple p its.toArray:=by
    obtain⟨o,e,rest⟩:=iM;exact⟨o,XG _ e,rest⟩
   refine kh (Walks.tuple hh _ p (by rw[sz];exact Qx (Z0 lK)) its.toArray) s.heap.objs.size (by rw[sz];simp;exact Q0 lK) (λ i=>ss.getD i default) (tM rv) (by rw[Zu,<- hl];exact hb)
    (its.toArray.size-0) 0 _ [] rfl (Ve _) ⟨⟨_,Yy _ rfl,rfl,rfl⟩,L5⟩ (jz (XG _ u7)) (Vd _) (by simp) λ h' tk o0 hk hS hm=>⟨rfl,?_⟩
   refine fin h' tk o0 (λ b o hb e=>hk b o (by simp[sz];exact⟨Qx hb,Qx (Z0 hb)⟩) (XG _ (XG _ e))) hS (R5 o0 λ x=>?_);rw[hm x,Zu,<- hl]
 ·obtain⟨u,rfl,ru⟩:=yk r;obtain⟨t,rfl⟩:=ru;have hl:ss.length=z.cps.size:=by rw[ez,U3];simp
  have sz:(s.heap.push (qK X.w)).objs.size=s.heap.objs.size+1:=Ju _ _;refine kg (.str z t) (y6 (s:={ s with heap:=s.heap.push (qK X.w) }) (Vo _ z t) F.sub_str_set F.sub_str_frozenset (by decide) (wpAny_pyIter_str λ o St W B9=>?_));refine kh (W _ hh) s.heap.objs.size (by rw[sz];simp) (λ i=>ss.getD i default) (λ i v hv=>?_) (by rw[<- hl];exact hb)
   (z.cps.size-0) 0 _ [] rfl (Ve _) B9 (jz (XG _ u7)) (Vd _) (by simp) λ h' tk o0 hk hS hm=>⟨rfl,?_⟩
  ·obtain⟨c,u,e,rfl⟩:=hv;refine⟨u,?_⟩;have e':(cs z)[i]?=some c:=by rw[XX];exact e
   rw[Xj,ez,Zt,e'];rfl
  ·refine fin h' tk o0 (λ b o hb e=>hk b o (by simp[sz];exact⟨Qx hb,Qx (Z0 hb)⟩) (XG _ (XG _ e))) hS (R5 o0 λ x=>?_);rw[hm x,<- hl]
end
noncomputable def qjA(mask i:Nat):Nat:=(i*5+1) % (mask+1)
noncomputable def lit(mask:Nat):Nat->Nat->Nat
 |0,i=>i
 |k+1,i=>lit mask k (qjA mask i)
theorem qcd(mask:Nat):∀ a b i,lit mask (a+b) i=lit mask b (lit mask a i)
 |0,b,i=>by rw[Q6];rfl
 |a+1,b,i=>by rw[Nat.add_right_comm];exact qcd mask a b (qjA mask i)
def kn(mask:Nat):Prop:=∀ i j,i<=mask->j<=mask->∃ k,k<=mask/\lit mask k i=j
noncomputable def qjB(mask:Nat):Nat->Nat->List Nat
 |0,_=>[]
 |n+1,i=>i::qjB mask n (qjA mask i)
theorem qfD(mask:Nat):∀ n i j,j∈qjB mask n i->∃ k,k<n/\lit mask k i=j
 |0,_,_,h=>by cases h
 |n+1,i,j,h=>by
  rcases Qi.mp h with e|e
  ·exact⟨0,Nat.succ_pos _,e.symm⟩
  ·obtain⟨k,hk,e⟩:=qfD mask n _ _ e;exact⟨k+1,Nat.succ_lt_succ hk,e⟩
theorem qlA(h:(List.range (mask+1)).all (λ j=>(qjB mask (mask+1) 0).contains j)=true)(hz:lit mask (mask+1) 0=0):kn mask:=by
 have cov:∀ j,j<=mask->∃ k,k<=mask/\lit mask k 0=j:=λ j hj=>by
  have:=Uo.mp h j (Js.mpr (by omega))
  obtain⟨k,hk,e⟩:=qfD mask _ _ _ (XY.mp this);exact⟨k,by omega,e⟩
 intro i j hi hj;obtain⟨a,ha,ea⟩:=cov i hi;obtain⟨b,hb,eb⟩:=cov j hj;by_cases A1:a<=b
 ·refine⟨b-a,by omega,?_⟩;rw[<- ea,<- qcd,show a+(b-a)=b by omega,eb]
 ·refine⟨mask+1-a+b,by omega,?_⟩;rw[<- ea,<- qcd,show a+(mask+1-a+b)=(mask+1)+b by omega,qcd,hz,eb]
theorem qd6:∀(l:List Nat)(c9 j:Nat),(l.foldl (λ a x=>a ||| (1 <<< x)) c9).testBit j=(c9.testBit j || l.contains j)
 | [],c9,j=>by simp
 |x::l,c9,j=>by
  rw[U8,qd6 l,Nat.testBit_or,Nat.one_shiftLeft,Nat.testBit_two_pow,List.contains_cons,Bool.or_assoc];congr 1
  congr 1
  by_cases h:x=j
  ·subst h;simp
  ·rw[Jl h];exact(Zb.mpr (Vz h)).symm
theorem jd(h:(qjB mask (mask+1) 0).foldl (λ a x=>a ||| (1 <<< x)) 0=2^(mask+1)-1)(hz:lit mask (mask+1) 0=0):kn mask:=by
 refine qlA (Uo.mpr λ j hj=>?_) hz;have hj:=Js.mp hj;have e:=qd6 (qjB mask (mask+1) 0) 0 j;rw[h,Nat.testBit_two_pow_sub_one,Qa hj,Nat.zero_testBit,Ql] at e;exact e.symm
theorem qmy:kn 7:=jd (by decide +kernel) (by decide +kernel)
theorem qm6:kn 15:=jd (by decide +kernel) (by decide +kernel)
theorem qm7:kn 31:=jd (by decide +kernel) (by decide +kernel)
theorem qm8:kn 63:=jd (by decide +kernel) (by decide +kernel)
theorem qlB:kn 127:=jd (by decide +kernel) (by decide +kernel)
theorem qlC:kn 255:=jd (by decide +kernel) (by decide +kernel)
theorem qlD:kn 511:=jd (by decide +kernel) (by decide +kernel)
theorem qjC:kn 1023:=jd (by decide +kernel) (by decide +kernel)
theorem qjD:kn 2047:=jd (by decide +kernel) (by decide +kernel)
theorem qbc{α β:Type}{f g:α->Option β}:∀{l:List α},(∀ x∈l,f x=g x)->l.filterMap f=l.filterMap g
 | [],_=>rfl
 |a::l,h=>by
  rw[Yw,Yw,h a Ze,qbc λ x hx=>h x (Yl _ hx)]
noncomputable def pos(mask:Nat):Nat->Nat->Nat->Nat
 |0,i,_=>i
 |t+1,i,p=>pos mask t (SetTable.leap mask i p).1 (SetTable.leap mask i p).2
theorem qd7:∀(fuel i p:Nat),SetTable.layClean.free mask owner fuel i p=none->∀ t,t<fuel->(owner.getD (pos mask t i p) (some 0)).isNone=false
 |0,_,_,_,t,ht=>absurd ht (Jc _)
 |fuel+1,i,p,h,t,ht=>by
  unfold SetTable.layClean.free at h;cases e:(List.range (SetTable.runEnd mask i+1-i)).find? λ k=>(owner.getD (i+k) (some 0)).isNone with
  |some k=>rw[e] at h;cases h
  |none =>
   rw[e] at h;cases t with
   |zero =>
    have hr:i<=SetTable.runEnd mask i:=by unfold SetTable.runEnd;split <;> omega
    have:=List.find?_eq_none.mp e 0 (Js.mpr (by omega))
    rw[Nat.add_zero] at this;show(owner.getD i (some 0)).isNone=false
    exact Z3.mpr this
   |succ t=>exact qd7 fuel _ _ h t (by omega)
theorem qd8:∀(fuel i p j:Nat),SetTable.layClean.free mask owner fuel i p=some j->owner.getD j (some 0)=none
 |0,_,_,_,h=>by unfold SetTable.layClean.free at h;cases h
 |fuel+1,i,p,j,h=>by
  unfold SetTable.layClean.free at h;cases e:(List.range (SetTable.runEnd mask i+1-i)).find? λ k=>(owner.getD (i+k) (some 0)).isNone with
  |some k =>
   rw[e] at h;cases h
   have:=List.find?_some e
   simpa using this
  |none=>rw[e] at h;exact qd8 fuel _ _ _ h
theorem ve(mask:Nat):∀(a b i p:Nat),∃ i',pos mask (a+b) i p=pos mask b i' (p / 32^a)/\(i<=mask->i'<=mask)
 |0,b,i,p=>⟨i,by simp,id⟩
 |a+1,b,i,p=>by
  obtain⟨i',e,h⟩:=ve mask a b (SetTable.leap mask i p).1 (SetTable.leap mask i p).2;refine⟨i',?_,λ _=>h ?_⟩
  ·rw[show a+1+b=(a+b)+1 by omega];show pos mask (a+b) _ _=_
   rw[e]
   have:(SetTable.leap mask i p).2 / 32^a=p / 32^(a+1):=by
    show p / 32 / 32^a=_
    rw[Nat.div_div_eq_div_mul,Q3,Q2]
   rw[this]
  ·show(_ % _)<=_
   exact Nat.le_of_lt_succ (Nat.mod_lt _ (Nat.succ_pos _))
theorem qcY(mask:Nat):∀(t i:Nat),pos mask t i 0=lit mask t i
 |0,_=>rfl
 |t+1,i=>by
  show pos mask t ((i*5+1+0 / 32) % (mask+1)) (0 / 32)=lit mask t ((i*5+1) % (mask+1))
  rw[Nat.zero_div,Nat.add_zero];exact qcY mask t _
theorem qlE(g:kn mask)(hi:i<=mask)(hp:p<2^64)(hj:j0<=mask)(h0:owner.getD j0 (some 0)=none):
  ∃ j,SetTable.layClean.free mask owner (SetTable.turns mask) i p=some j:=by
 cases e:SetTable.layClean.free mask owner (SetTable.turns mask) i p with
 |some j=>exact⟨j,rfl⟩
 |none =>
  exfalso
  obtain⟨i',_,sM⟩:=ve mask 13 0 i p;have hz:p / 32^13=0:=Nat.div_eq_of_lt (Zd hp (by decide));obtain⟨i',ei,sM⟩:=ve mask 13 0 i p;obtain⟨k,hk,ek⟩:=g i' j0 (sM hi) hj;obtain⟨i2,e2,h2⟩:=ve mask 13 k i p;obtain⟨k2,W2,ek2⟩:=g i2 j0 (h2 hi) hj;have same:∀ b,∃ i',pos mask (13+b) i p=lit mask b i'/\i'=pos mask 13 i p:=λ b=>by
   obtain⟨i3,e3,_⟩:=ve mask 13 b i p;obtain⟨i4,e4,_⟩:=ve mask 13 0 i p;rw[hz,qcY] at e3 e4;exact⟨pos mask 13 i p,by
    have gen:∀(a b i p:Nat),pos mask (a+b) i p=pos mask b (pos mask a i p) (p / 32^a):=by
     intro a;induction a with
     |zero=>intro b i p;simp[pos]
     |succ a ih =>
      intro b i p;rw[show a+1+b=(a+b)+1 by omega];show pos mask (a+b) _ _=pos mask b (pos mask a _ _) _
      rw[ih]
      have:(SetTable.leap mask i p).2 / 32^a=p / 32^(a+1):=by
       show p / 32 / 32^a=_
       rw[Nat.div_div_eq_div_mul,Q3,Q2]
      rw[this]
    rw[gen 13 b i p,hz,qcY],rfl⟩
  have A0:pos mask 13 i p<=mask:=by
   obtain⟨i4,e4,h4⟩:=ve mask 13 0 i p;rw[show 13+0=13 from rfl,hz] at e4;rw[e4];exact h4 hi
  obtain⟨k,hk,ek⟩:=g _ j0 A0 hj;obtain⟨i5,e5,e6⟩:=same k
  have:=qd7 _ _ _ e (13+k) (by unfold SetTable.turns;omega)
  rw[e5,e6,ek,h0] at this;cases this
noncomputable def ow(owner:Array (Option Nat))(mask:Nat):List Nat:=(List.range (mask+1)).filterMap λ j=>owner.getD j none
theorem qas {v:Nat}(h1:f j=none)(h2:f' j=some v)(h3:∀ i,i≠j->f' i=f i):∀{l:List Nat},l.Nodup->j∈l->(l.filterMap f').Perm (v::l.filterMap f)
 | [],_,h=>by cases h
 |a::l,nd,h=>by
  have x3:=U5.mp nd;by_cases ha:a=j
  ·subst ha;rw[Xz h2,X0 h1]
   have:l.filterMap f'=l.filterMap f:=qbc λ x hx=>h3 x λ e=>x3.1 (e ▸ hx)
   rw[this]
  ·have hm:j∈l:=by
    rcases Qi.mp h with e|e
    ·exact absurd e.symm ha
    ·exact e
   have ih:=qas h1 h2 h3 x3.2 hm;cases e:f a with
   |none=>rw[X0 e,X0 ((h3 a ha).trans e)];exact ih
   |some b=>rw[Xz e,Xz ((h3 a ha).trans e)];exact(ih.cons b).trans (List.Perm.swap _ _ _)
theorem qeI{owner:Array (Option Nat)}(h:owner.getD j (some 0)=none):j<owner.size/\owner.getD j none=none:=by
 rw[Xf] at h ⊢;cases e:owner[j]? with
 |none=>rw[e] at h;cases h
 |some o =>
  rw[e] at h;exact⟨(Array.getElem?_eq_some_iff.mp e).1,h⟩
theorem qgF(hs:owner.size=mask+1)(h:(ow owner mask).length<=mask):∃ j,j<=mask/\owner.getD j (some 0)=none:=by
 by_cases aJ:∃ j,j<=mask/\owner.getD j (some 0)=none
 ·exact aJ
 ·exfalso
  have all:∀ j∈List.range (mask+1),∃ v,owner.getD j none=some v:=λ j hj=>by
   have hj:=Js.mp hj
   have:owner.getD j (some 0)≠none:=λ e=>aJ ⟨j,by omega,e⟩
   rw[Xf] at this ⊢;cases e:owner[j]? with
   |none=>have:=Array.getElem?_eq_none_iff.mp e;omega
   |some o =>
    rw[e] at this;cases o with
    |none=>exact absurd rfl this
    |some v=>exact⟨v,rfl⟩
  have len:∀ l:List Nat,(∀ j∈l,∃ v,owner.getD j none=some v)->(l.filterMap λ j=>owner.getD j none).length=l.length:=by
   intro l;induction l with
   |nil=>intro _;rfl
   |cons a l ih =>
    intro h;obtain⟨v,hv⟩:=h a Ze;have e1:(List.filterMap (λ j=>owner.getD j none) (a::l))=v::List.filterMap (λ j=>owner.getD j none) l:=by
     rw[Yw];rw[hv]
    rw[e1,Uj,Uj,ih λ j hj=>h j (Yl _ hj)]
  have:=len _ all
  rw[Z4] at this;unfold ow at h;omega
theorem qlF(h:Int):SetTable.bits h<2^64:=by
 unfold SetTable.bits;have h1:0<=h % (2^64:Int):=Jd _ (by decide);have h2:h % (2^64:Int)<2^64:=Zo _ (by decide);omega
noncomputable def qlG(mask:Nat)(c9:Option (Array (Option Nat)×Nat))(h:Int):Option (Array (Option Nat)×Nat):=do
  let (owner,k) <- c9
  let j <- SetTable.layClean.free mask owner (SetTable.turns mask) (SetTable.bits h % (mask+1)) (SetTable.bits h)
  pure (owner.setIfInBounds j (some k),k+1)
theorem qfE(g:kn mask):∀(hs:List Int)(owner:Array (Option Nat))(k:Nat),owner.size=mask+1->(ow owner mask).Perm (List.range k)->k+hs.length<=mask ->
  ∃ o',hs.foldl (qlG mask) (some (owner,k))=some (o',k+hs.length)/\o'.size=mask+1/\(ow o' mask).Perm (List.range (k+hs.length))
 | [],owner,k,hs,hp,_=>⟨owner,rfl,hs,hp⟩
 |h::hs,owner,k,hsz,hp,hk=>by
  rw[Uj] at hk;obtain⟨j0,hj0,e0⟩:=qgF hsz (by rw[hp.length_eq,Z4];omega);obtain⟨j,ej⟩:=qlE g (owner:=owner) (i:=SetTable.bits h % (mask+1)) (p:=SetTable.bits h) (Nat.le_of_lt_succ (Nat.mod_lt _ (Nat.succ_pos _))) (qlF h) hj0 e0;obtain⟨hjs,hjn⟩:=qeI (qd8 _ _ _ _ ej);have step:qlG mask (some (owner,k)) h=some (owner.setIfInBounds j (some k),k+1):=by
   unfold qlG;show(SetTable.layClean.free mask owner (SetTable.turns mask) (SetTable.bits h % (mask+1)) (SetTable.bits h) >>= _)=_
   rw[ej];rfl
  have x8:(ow (owner.setIfInBounds j (some k)) mask).Perm (List.range (k+1)):=by
   have:=qas (f:=λ j=>owner.getD j none) (f':=λ i=>(owner.setIfInBounds j (some k)).getD i none) (j:=j) (v:=k) hjn
    (by show(owner.setIfInBounds j (some k)).getD j none=_;rw[Xf,Array.getElem?_setIfInBounds_self_of_lt hjs];rfl)
    (λ i hi=>by show(owner.setIfInBounds j (some k)).getD i none=_;rw[Xf,Array.getElem?_setIfInBounds_ne (Vz hi),<- Xf])
    (l:=List.range (mask+1)) List.nodup_range (Js.mpr (by omega))
   refine this.trans ?_;rw[show List.range (k+1)=List.range k++[k] from Je];exact(List.Perm.cons k hp).trans (List.perm_append_comm (l₁:=[k]) (l₂:=List.range k))
  obtain⟨o',e,h1,h2⟩:=qfE g hs (owner.setIfInBounds j (some k)) (k+1) (by rw[Array.size_setIfInBounds];exact hsz) x8 (by omega);refine⟨o',?_,h1,?_⟩
  ·rw[U8,step,e,Uj];congr 2;omega
  ·rw[Uj,show k+(hs.length+1)=k+1+hs.length by omega];exact h2
theorem qfF(g:kn mask)(hs:Array Int)(hk:hs.size<=mask):∃ o',SetTable.layClean mask hs=some o'/\o'.size=mask+1/\(ow o' mask).Perm (List.range hs.size):=by
 have h0:(ow (Array.replicate (mask+1) none) mask).Perm (List.range 0):=by
  have:ow (Array.replicate (mask+1) none) mask=[]:=by
   unfold ow;rw[List.filterMap_eq_nil_iff];intro j hj;rw[Xf,Array.getElem?_replicate];split <;> rfl
  rw[this];exact Jw _
 obtain⟨o',e,h1,h2⟩:=qfE g hs.toList (Array.replicate (mask+1) none) 0 (by simp) h0 (by simpa using hk);refine⟨o',?_,h1,by simpa using h2⟩;unfold SetTable.layClean;rw[<- Array.foldl_toList]
 have:(List.foldl (qlG mask) (some (Array.replicate (mask+1) none,0)) hs.toList).map (·.1)=some o':=by rw[e];rfl
 exact this
theorem qhJ(g:kn mask)(finger moves:Nat)(led plain:Bool)(hs:Array Int)(hk:hs.size<=mask):
  ∃ t p6,SetTable.laid mask finger moves led plain hs=some (t,p6)/\t.fits hs.size=true/\t.led=led/\t.plain=plain/\t.mask=mask/\t.dummies=#[]/\t.place.size=hs.size/\p6.toList.Perm (List.range hs.size):=by
 obtain⟨o',e,h1,h2⟩:=qfF g hs hk;have c7:((List.range (mask+1)).filterMap λ j=>(o'.getD j none).map (j,·)).length=hs.size:=by
  rw[<- U3 (f:=(·.2)),List.map_filterMap]
  have:(List.range (mask+1)).filterMap (λ x=>Option.map (λ x=>x.2) ((o'.getD x none).map (x,·)))=ow o' mask:=by
   unfold ow;refine qbc λ j _=>?_
   cases o'.getD j none with
   |none=>rfl
   |some v=>rfl
  rw[this,h2.length_eq,Z4]
 refine⟨_,_,by unfold SetTable.laid;rw[e];rfl,?_,rfl,rfl,rfl,rfl,?_,?_⟩
 ·unfold SetTable.fits SetTable.fill;rw[Zu,U3,c7];simpa using hk
 ·dsimp only;rw[Zu,U3,c7]
 ·show(((List.range (mask+1)).filterMap λ j=>(o'.getD j none).map (j,·)).map (·.2)).Perm _
  rw[List.map_filterMap]
  have:(List.range (mask+1)).filterMap (λ x=>Option.map (λ x=>x.2) ((o'.getD x none).map (x,·)))=ow o' mask:=by
   unfold ow;refine qbc λ j _=>?_
   cases o'.getD j none with
   |none=>rfl
   |some v=>rfl
  rw[this];exact h2
theorem qgG{α:Type}(es:Array α){p6:List Nat}(hp:p6.Perm (List.range es.size)):(p6.filterMap (es[·]?)).Perm es.toList:=by
 refine(hp.filterMap _).trans ?_
 have:∀(l:List α),(List.range l.length).filterMap (λ i=>l[i]?)=l:=by
  intro l;induction l with
  |nil=>rfl
  |cons a l ih =>
   have e:(List.filterMap (λ i=>(a::l)[i]?) (0::List.map Nat.succ (List.range l.length)))=a::List.filterMap (λ i=>(a::l)[i]?) (List.map Nat.succ (List.range l.length)):=by
    rw[Yw];rfl
   rw[Uj,List.range_succ_eq_map,e,List.filterMap_map];exact congrArg (a::·) ih
 have h:=this es.toList;rw[Yx] at h;have e:(λ i=>es.toList[i]?)=λ i=>es[i]?:=funext λ i=>XX
 rw[e] at h;rw[h]
namespace F
theorem slot_set_iterator_next:Slot "set_iterator" "__next__" "set_iterator.__next__":=
 .of (owner:="set_iterator") (n:="__next__") (by rw[Jq,Yk];kernel_rfl) (by decide +kernel) (by decide +kernel) (by decide +kernel)
  (by first|exact .inl (by decide +kernel)|exact .inr (by decide +kernel)) (by rw[Qb];kernel_rfl)
theorem entry_set_iterator_next:entryFor table "set_iterator.__next__"=some Builtin.«set_iterator.__next__»:=entryFor_of_fast (by kernel_rfl)
theorem args_set_iterator_next_1(a:Value):argsOk "set_iterator.__next__" ⟨[a],[]⟩:=by unfold argsOk;kernel_rfl
theorem slot_set_iterator_iter:Slot "set_iterator" "__iter__" "set_iterator.__iter__":=
 .of (owner:="set_iterator") (n:="__iter__") (by rw[Jq,Yk];kernel_rfl) (by decide +kernel) (by decide +kernel) (by decide +kernel)
  (by first|exact .inl (by decide +kernel)|exact .inr (by decide +kernel)) (by rw[Qb];kernel_rfl)
theorem entry_set_iterator_iter:entryFor table "set_iterator.__iter__"=some Builtin.«dict_keyiterator.__iter__»:=
 Qc (id':="dict_keyiterator.__iter__") (by kernel_rfl) rfl (by decide +kernel) (by kernel_rfl)
theorem args_set_iterator_iter_1(a:Value):argsOk "set_iterator.__iter__" ⟨[a],[]⟩:=by unfold argsOk;kernel_rfl
theorem entry_set_iter:entryFor table "set.__iter__"=some Builtin.«frozenset.__iter__»:=
 Qc (id':="frozenset.__iter__") (by kernel_rfl) rfl (by decide +kernel) (by kernel_rfl)
theorem args_set_iter_1(a:Value):argsOk "set.__iter__" ⟨[a],[]⟩:=by unfold argsOk;kernel_rfl
theorem entry_set_xor:entryFor table "set.__xor__"=some Builtin.«frozenset.__xor__»:=
 Qc (id':="frozenset.__xor__") (by kernel_rfl) rfl (by decide +kernel) (by kernel_rfl)
end F
theorem qbd(next:Nat->Nat):∀(fuel k:Nat)(left:List α)(out:Array α),fuel=left.length->(pickOrder.go next fuel k left out).toList.Perm (out.toList++left)
 |0,k,left,out,h=>by
  have:left=[]:=Xd h.symm
  subst this;unfold pickOrder.go;rw[U4]
 |fuel+1,k,left,out,h=>by
  unfold pickOrder.go;have c8:next k % left.length<left.length:=Nat.mod_lt _ (by omega);rw[Xy c8];dsimp only;refine(qbd next fuel (k+1) _ _ (by rw[Xk c8];omega)).trans ?_;rw[Z2,Zx];exact List.Perm.append_left _ (qaC left _ c8)
theorem qd9(next:Nat->Nat)(xs:Array α):(pickOrder next xs).toList.Perm xs.toList:=by
 unfold pickOrder
 have:=qbd next xs.size 0 xs.toList #[] (by simp)
 simpa using this
section
variable {prog:Program}{w:World}{A:Around}{E:Value->Shared->Prop}{s:Shared}
theorem qiy(ho:s.heap.get? a=some o)(hd:o.data=.set es ep t)(hf:t.fits es.size=true)(hl:t.led=true∨byT w)(h:∀ o7 d,o7.toList.Perm es.toList->Q o7 { s with drawn:=d }):wpAny (model prog w) A (setWalk a) Q E s:=by
 have h0:∀ o7,o7.toList.Perm es.toList->Q o7 s:=λ o7 hp=>by
  have:=h o7 s.drawn hp
  cases s;exact this
 unfold setWalk;refine Vl (Uf ho hd hf ?_);dsimp only;unfold setsByText;refine Vl (Vl (Ux (Vm ?_)));dsimp only;refine Jr (λ hb=>?_) (λ hb=>?_)
 ·refine Vl (Ux (Vm ?_));exact h0 _ (qd9 _ _)
 ·refine Jr (λ bJ=>?_) (λ bJ=>?_)
  ·refine Vl (y4 es.size es.toList _ _ (by simp) λ ys d hp=>Vm ?_);exact h _ d (by simpa using hp)
  ·refine Vl ?_;have aH:t.led=true:=hl.resolve_right hb;show wpAny _ _ (if (!t.led && decide (es.size > 1))=true then _ else _) _ _ s
   rw[aH];simp only[Qn,Jt,Zl,Vv];exact Vm (Vm (h0 _ (Jw _)))
noncomputable abbrev itO(first:Value)(i:Nat)(S:Addr)(n ep:Nat):Obj:={ cls:=.type "set_iterator",data:=.fields #[first,.int i 0,.ref S,.int n 0,.int ep 0] }
theorem qfG {sl:Nat}(n9:s.heap.get? I=some (itO (.int sl 0) i S n ep))(ho:s.heap.get? S=some o)(hd:o.data=.set es ep t)(hf:t.fits es.size=true)(hn:es.size=n)(hN:∀(Q:Option (Value×Nat)->Shared->Prop)(E:Value->Shared->Prop),Q (some (x,nx)) s->wpAny (model prog w) A.in1 (setNext S sl i ep) Q E s)(hQ:∀ h',h'.get? I=some (itO (.int nx 0) (i+1) S n ep)->Heap.SameBut I s.heap h'->Q (some x) { s with heap:=h' }):wpAny (model prog w) A (pyNext (.ref I)) Q E s:=by
 have hT:s.TypeIs (.ref I) "set_iterator":=⟨_,n9,rfl⟩;unfold pyNext;refine Vl (Qu (XF (name:=Str.ofString "__next__") hT F.slot_set_iterator_next
  (Uz F.slot_set_iterator_next hT F.entry_set_iterator_next ?_ (F.args_set_iterator_next_1 _))))
 unfold Builtin.«set_iterator.__next__»;show wpAny _ _ (fieldsOf (.ref I) >>= _) _ _ s
 refine Vl (Qd n9 rfl ?_);show wpAny _ _ (setEntries S >>= _) _ _ s
 refine Vl (Zc ho hd hf ?_);rw[hn];simp only[Ug,Zl,Vv];show wpAny _ _ (setNext S (sl:Int).toNat (i:Int).toNat (ep:Int).toNat >>= _) _ _ s
 simp only[Zv];refine Vl (hN _ _ ?_);dsimp only;refine Vl (Zs n9 (by simp) λ h1 M3 V9=>?_);refine Vl (Zs M3 (by simp) λ h2 hit2 l7=>?_);refine Vm ⟨x,rfl,Vm (hQ h2 ?_ (V9.trans l7))⟩;rw[hit2];rfl
theorem qfH {sl:Nat}(hh:A.handled=none)(n9:s.heap.get? I=some (itO (.int sl 0) i S n ep))(ho:s.heap.get? S=some o)(hd:o.data=.set es ep t)(hf:t.fits es.size=true)(hn:es.size=n)(hN:∀(Q:Option (Value×Nat)->Shared->Prop)(E:Value->Shared->Prop),Q none s->wpAny (model prog w) A.in1 (setNext S sl i ep) Q E s)(hQ:∀ h',Heap.ExtBut I s.heap h'->Q none { s with heap:=h' }):wpAny (model prog w) A (pyNext (.ref I)) Q E s:=by
 have hT:s.TypeIs (.ref I) "set_iterator":=⟨_,n9,rfl⟩;unfold pyNext;refine Vl (Qu (XF (name:=Str.ofString "__next__") hT F.slot_set_iterator_next
  (Uz F.slot_set_iterator_next hT F.entry_set_iterator_next ?_ (F.args_set_iterator_next_1 _))))
 unfold Builtin.«set_iterator.__next__»;show wpAny _ _ (fieldsOf (.ref I) >>= _) _ _ s
 refine Vl (Qd n9 rfl ?_);show wpAny _ _ (setEntries S >>= _) _ _ s
 refine Vl (Zc ho hd hf ?_);rw[hn];simp only[Ug,Zl,Vv];show wpAny _ _ (setNext S (sl:Int).toNat (i:Int).toNat (ep:Int).toNat >>= _) _ _ s
 simp only[Zv];refine Vl (hN _ _ ?_);dsimp only;refine Vl (wpAny_setField n9 rfl (by simp) ?_);show wpAny _ _ (newExc (.type "StopIteration") [] >>= _) _ _ _
 refine Vl ?_;simp only[newExc,newTuple];refine Vl (Ub ?_ (by size_fits));refine Vl (m:=firstArgMember _ _) (Vi (a:=Value.none) (by first|rfl|(simp only[firstArgMember];rfl)) ?_);refine Ub ?_ (by size_fits);simp only[raiseNew];refine Vl (wpAny_handled ?_)
 first|rw[show A.in1.handled=none from hh]|rw[hh]
 refine Vl (Vm (wpAny_throw ?_));refine Vl (Uy (T:="StopIteration") (b:=true) ⟨_,Yy _ rfl,rfl⟩ Qe ?_);exact Vm (hQ _ (((Y3 ..).extBut.push _).push _))
theorem qjE {k:Nat}(n9:s.heap.get? I=some (itO (.ref T) i S n ep))(hp:s.heap.IsTuple T pl)(ho:s.heap.get? S=some o)(hd:o.data=.set es ep t)(hf:t.fits es.size=true)(hn:es.size=n)(hk:pl[i]?=some (.int k 0))(hx:es[k]?=some (hx,x))(hQ:∀ h',h'.get? I=some (itO (.ref T) (i+1) S n ep)->Heap.SameBut I s.heap h'->Q (some x) { s with heap:=h' }):wpAny (model prog w) A (pyNext (.ref I)) Q E s:=by
 have hT:s.TypeIs (.ref I) "set_iterator":=⟨_,n9,rfl⟩;obtain⟨ot,iI,_,nt,fU⟩:=hp;unfold pyNext;refine Vl (Qu (XF (name:=Str.ofString "__next__") hT F.slot_set_iterator_next
  (Uz F.slot_set_iterator_next hT F.entry_set_iterator_next ?_ (F.args_set_iterator_next_1 _))))
 unfold Builtin.«set_iterator.__next__»;show wpAny _ _ (fieldsOf (.ref I) >>= _) _ _ s
 refine Vl (Qd n9 rfl ?_);show wpAny _ _ (setEntries S >>= _) _ _ s
 refine Vl (Zc ho hd hf ?_);rw[hn];simp only[Ug,Zl,Vv];show wpAny _ _ (seqItems? (.ref T) >>= _) _ _ s
 refine Vl (Qf iI fU ?_);simp only[Zv,hk];show wpAny _ _ (setNextDrawn S (k:Int).toNat (ep:Int).toNat >>= _) _ _ s
 simp only[Zv];unfold setNextDrawn;refine Vl (Vl (Uf ho hd hf ?_));simp only[Ug,Zl,Vv,hx];refine Vm ?_;refine Vl (Zs n9 (by simp) λ h1 M3 V9=>?_);refine Vm ⟨x,rfl,Vm (hQ h1 ?_ V9)⟩;rw[M3];rfl
theorem qjF(hh:A.handled=none)(n9:s.heap.get? I=some (itO (.ref T) i S n ep))(hp:s.heap.IsTuple T pl)(ho:s.heap.get? S=some o)(hd:o.data=.set es ep t)(hf:t.fits es.size=true)(hn:es.size=n)(hk:pl[i]?=none)(hQ:∀ h',Heap.ExtBut I s.heap h'->Q none { s with heap:=h' }):wpAny (model prog w) A (pyNext (.ref I)) Q E s:=by
 have hT:s.TypeIs (.ref I) "set_iterator":=⟨_,n9,rfl⟩;obtain⟨ot,iI,_,nt,fU⟩:=hp;unfold pyNext;refine Vl (Qu (XF (name:=Str.ofString "__next__") hT F.slot_set_iterator_next
  (Uz F.slot_set_iterator_next hT F.entry_set_iterator_next ?_ (F.args_set_iterator_next_1 _))))
 unfold Builtin.«set_iterator.__next__»;show wpAny _ _ (fieldsOf (.ref I) >>= _) _ _ s
 refine Vl (Qd n9 rfl ?_);show wpAny _ _ (setEntries S >>= _) _ _ s
 refine Vl (Zc ho hd hf ?_);rw[hn];simp only[Ug,Zl,Vv];show wpAny _ _ (seqItems? (.ref T) >>= _) _ _ s
 refine Vl (Qf iI fU ?_);simp only[Zv,hk];refine Vl (Zs n9 (by simp) λ h1 M3 V9=>?_);refine Vl (wpAny_setField M3 rfl (by simp) ?_);show wpAny _ _ (newExc (.type "StopIteration") [] >>= _) _ _ _
 refine Vl ?_;simp only[newExc,newTuple];refine Vl (Ub ?_ (by size_fits));refine Vl (m:=firstArgMember _ _) (Vi (a:=Value.none) (by first|rfl|(simp only[firstArgMember];rfl)) ?_);refine Ub ?_ (by size_fits);simp only[raiseNew];refine Vl (wpAny_handled ?_)
 first|rw[show A.in1.handled=none from hh]|rw[hh]
 refine Vl (Vm (wpAny_throw ?_));refine Vl (Uy (T:="StopIteration") (b:=true) ⟨_,Yy _ rfl,rfl⟩ Qe ?_);exact Vm (hQ _ ((((V9.trans (Y3 ..))).extBut.push _).push _))
theorem qeJ(n9:s.heap.get? I=some (itO first i S n ep))(h:Q (.ref I) s):wpAny (model prog w) A (pyIter (.ref I)) Q E s:=by
 have hT:s.TypeIs (.ref I) "set_iterator":=⟨_,n9,rfl⟩;refine wpAny_pyIter_slot hT F.slot_set_iterator_iter (Uz F.slot_set_iterator_iter hT F.entry_set_iterator_iter ?_ (F.args_set_iterator_iter_1 _));show wpAny _ _ (ret (.ref I)) _ _ s
 exact Vm ⟨_,rfl,"set_iterator",_,hT,F.slot_set_iterator_next.lookup,h⟩
theorem qaD:∀{xs:List α}{l:List β},Paired F xs l->∀(k:Nat)(b:β),l[k]?=some b->∃ a,xs[k]?=some a/\F a b
 |_,_,.nil,k,b,h=>by simp at h
 |_,_,.cons r t,0,b,h=>by simp at h;subst h;exact⟨_,rfl,r⟩
 |_,_,.cons r t,k+1,b,h=>by
  obtain⟨a,h1,h2⟩:=qaD t k b (by simpa using h);exact⟨a,by simpa using h1,h2⟩
theorem jA:∀{xs:List α}{l:List β},Paired F xs l->∀(k:Nat)(a:α),xs[k]?=some a->∃ b,l[k]?=some b/\F a b
 |_,_,.nil,k,b,h=>by simp at h
 |_,_,.cons r t,0,b,h=>by simp at h;subst h;exact⟨_,rfl,r⟩
 |_,_,.cons r t,k+1,b,h=>by
  obtain⟨a,h1,h2⟩:=jA t k b (by simpa using h);exact⟨a,by simpa using h1,h2⟩
abbrev qcZ(zs:List Str)(i:Nat)(v:Value):Prop:=∃ t,v=.str (zs.getD i default) t
theorem qea{α:Type}[Inhabited α]{l:List α}{i:Nat}{x:α}(h:l[i]?=some x):l.getD i default=x:=by rw[Xj,h];rfl
theorem qc0{ys:List Str}{p:List Nat}(hp:p.Perm (List.range ys.length)):(p.map λ k=>ys.getD k default).Perm ys:=by
 refine(hp.map _).trans ?_
 have:∀(l:List Str),(List.range l.length).map (λ k=>l.getD k default)=l:=by
  intro l;refine List.ext_getElem (by simp) λ i h1 h2=>?_
  simp at h1;simp[h1]
 rw[this]
theorem Walks.setDrawn(hh:A.handled=none)(hIT:T≠I)(tI:S≠I){p:List Nat}(hp:p.Perm (List.range ys.length))(hd:o.data=.set es ep t)(hf:t.fits es.size=true)(N7:Paired (qbD prog w) ys es.toList):
  Walks prog w A I [I,T,S] [I] ys.length (qcZ (p.map λ k=>ys.getD k default)) (λ i h=>h.get? I=some (itO (.ref T) i S ys.length ep)/\h.IsTuple T ((p.map λ k=>(.int (k:Nat) 0:Value)).toArray)/\h.get? S=some o) where
 sub:=λ b hb=>by simp at hb;simp[hb]
 frame:=λ i h h' st k=>⟨k I (by simp) _ st.1,let ⟨o,ho,r⟩:=st.2.1;⟨o,k T (by simp) _ ho,r⟩,k S (by simp) _ st.2.2⟩
 item:=λ i s Q E hi st hQ=>by
  have hn:es.size=ys.length:=by rw[<- Yx,<- N7.length]
  have hip:i<p.length:=by rw[hp.length_eq,Z4];exact hi
  have hk:p[i]<ys.length:=Js.mp (hp.mem_iff.mp (Ur hip));obtain⟨e,he,h1,t',h2⟩:=jA N7 p[i] ys[p[i]] (Xy hk);have sQ:es[p[i]]?=some (e.1,e.2):=by rw[<- XX];exact he
  refine qjE (k:=p[i]) (x:=e.2) (hx:=e.1) st.1 st.2.1 st.2.2 hd hf hn ?_ sQ λ h' E7 B2=>?_
  ·simp[hip]
  ·refine hQ _ h' s.toks ⟨t',?_⟩ ⟨E7,?_,?_⟩ λ b o hb e=>B2.extBut b o (λ h=>hb (by simp[h])) e
   ·rw[h2];congr 1
    rw[Xj,Zt,Xy hip];show _=ys.getD p[i] default
    rw[Xj,Xy hk];rfl
   ·obtain⟨o,ho,r⟩:=st.2.1;exact⟨o,(B2.2 T hIT).trans ho,r⟩
   ·exact(B2.2 S tI).trans st.2.2
 done:=λ s Q E st hQ=>by
  have hn:es.size=ys.length:=by rw[<- Yx,<- N7.length]
  refine qjF hh st.1 st.2.1 st.2.2 hd hf hn ?_ λ h' fS=>hQ h' s.toks λ b o hb e=>fS b o (λ h=>hb (by simp[h])) e
  have:p.length=ys.length:=by rw[hp.length_eq,Z4]
  simp[this]
 self:=λ i s Q E st hQ=>qeJ st.1 hQ
theorem Walks.setText(hb:byT w)(hh:A.handled=none)(tI:S≠I) {ys:List Str}(hd:o.data=.set es ep t)(hf:t.fits es.size=true)(hn:es.size=ys.length)(he:o7=pickOrder (w.params.setOrder S ep) es)(N7:Paired (qbD prog w) zs o7.toList)(hz:zs.length=ys.length):
  Walks prog w A I [I,S] [I] ys.length (qcZ zs) (λ i h=>h.get? I=some (itO (.int (0:Nat) 0) i S ys.length ep)/\h.get? S=some o) where
 sub:=λ b hb=>by simp at hb;simp[hb]
 frame:=λ i h h' st k=>⟨k I (by simp) _ st.1,k S (by simp) _ st.2⟩
 item:=λ i s Q E hi st hQ=>by
  obtain⟨e,sQ,h1,t',h2⟩:=jA N7 i (zs[i]'(by omega)) (Xy (by omega));refine qfG (nx:=0) (x:=e.2) st.1 st.2 hd hf hn ?_ λ h' E7 B2=>?_
  ·intro Q E h;unfold setNext;refine Vl (Uf st.2 hd hf ?_);dsimp only;unfold setsByText;refine Vl (Vl (Ux (Vm ?_)));dsimp only;refine Jr (λ _=>?_) (λ dU=>absurd hb dU);simp only[Ug,Zl,Vv];unfold setWalk;refine Vl (Vl (Uf st.2 hd hf ?_));dsimp only;unfold setsByText;refine Vl (Vl (Ux (Vm ?_)));dsimp only;refine Jr (λ _=>?_) (λ dU=>absurd hb dU);refine Vl (Ux (Vm (Vm ?_)));have e1:(pickOrder (w.params.setOrder S ep) es)[i]?=some e:=by rw[<- he,<- XX];exact sQ
   show Q (((pickOrder (w.params.setOrder S ep) es)[i]?).map λ e=>(e.2,0)) s
   rw[e1];exact h
  ·refine hQ _ h' s.toks ⟨t',?_⟩ ⟨E7,(B2.2 S tI).trans st.2⟩ λ b o hb e=>B2.extBut b o (λ h=>hb (by simp[h])) e
   rw[h2,qea (Xy (by omega))]
 done:=λ s Q E st hQ=>by
  refine qfH hh st.1 st.2 hd hf hn ?_ λ h' fS=>hQ h' s.toks λ b o hb e=>fS b o (λ h=>hb (by simp[h])) e
  intro Q E h;unfold setNext;refine Vl (Uf st.2 hd hf ?_);dsimp only;unfold setsByText;refine Vl (Vl (Ux (Vm ?_)));dsimp only;refine Jr (λ _=>?_) (λ dU=>absurd hb dU);simp only[Ug,Zl,Vv];unfold setWalk;refine Vl (Vl (Uf st.2 hd hf ?_));dsimp only;unfold setsByText;refine Vl (Vl (Ux (Vm ?_)));dsimp only;refine Jr (λ _=>?_) (λ dU=>absurd hb dU);refine Vl (Ux (Vm (Vm ?_)));have e1:(pickOrder (w.params.setOrder S ep) es)[ys.length]?=none:=by
   rw[<- he,<- XX,Yb];rw[<- N7.length];omega
  show Q (((pickOrder (w.params.setOrder S ep) es)[ys.length]?).map λ e=>(e.2,0)) s
  rw[e1];exact h
 self:=λ i s Q E st hQ=>qeJ st.1 hQ
theorem Walks.setOne(hb:¬ byT w)(hh:A.handled=none)(tI:S≠I)(hd:o.data=.set es ep t)(hf:t.fits es.size=true)(hl:t.led=true)(N7:Paired (qbD prog w) ys es.toList)(h1:ys.length<=1):
  Walks prog w A I [I,S] [I] ys.length (qcZ ys) (λ i h=>h.get? I=some (itO (.int (if i=0 then 0 else t.place.getD 0 0+1:Nat) 0) i S ys.length ep)/\h.get? S=some o) where
 sub:=λ b hb=>by simp at hb;simp[hb]
 frame:=λ i h h' st k=>⟨k I (by simp) _ st.1,k S (by simp) _ st.2⟩
 item:=λ i s Q E hi st hQ=>by
  have hi0:i=0:=by omega
  subst hi0;have hn:es.size=ys.length:=by rw[<- Yx,<- N7.length]
  obtain⟨e,sQ,q1,t',q2⟩:=jA N7 0 (ys[0]'hi) (Xy hi);have fJ:t.place.size=1:=by
   simp only[SetTable.fits,Uq,Vn] at hf;omega
  have p8:t.place[0]?=some (t.place.getD 0 0):=by
   rw[Xf,Xq (by omega)];rfl
  refine qfG (nx:=t.place.getD 0 0+1) (x:=e.2) st.1 st.2 hd hf hn ?_ λ h' E7 B2=>?_
  ·intro Q E h;unfold setNext;refine Vl (Uf st.2 hd hf ?_);dsimp only;unfold setsByText;refine Vl (Vl (Ux (Vm ?_)));dsimp only;refine Jr (λ fX=>absurd fX hb) (λ _=>?_);refine Jr (λ fX=>absurd fX ?_) (λ _=>?_)
   ·show ¬ ((!t.plain && decide (es.size > 1))=true)
    rw[show decide (es.size > 1)=false from Jl (by omega),Jy];exact Zf
   refine Vl ?_;show wpAny _ _ (if (!t.led && !es.isEmpty)=true then _ else _) _ _ s
   rw[hl];simp only[Qn,Jt,Zl,Vv];refine Vm ?_;have eb:SetTable.below t.place 0=0:=by
    unfold SetTable.below;rw[fJ];unfold SetTable.below.go;simp
    unfold SetTable.below.go;rfl
   refine Vm ?_;simp only[V1,eb];have ee:es[0]?=some (e.1,e.2):=by rw[<- XX];exact sQ
   rw[ee,p8];exact h
  ·refine hQ _ h' s.toks ⟨t',?_⟩ ⟨?_,(B2.2 S tI).trans st.2⟩ λ b o hb e=>B2.extBut b o (λ h=>hb (by simp[h])) e
   ·rw[q2,qea (Xy hi)]
   ·rw[E7,V5 (by omega)]
 done:=λ s Q E st hQ=>by
  have hn:es.size=ys.length:=by rw[<- Yx,<- N7.length]
  refine qfH hh st.1 st.2 hd hf hn ?_ λ h' fS=>hQ h' s.toks λ b o hb e=>fS b o (λ h=>hb (by simp[h])) e
  intro Q E h;unfold setNext;refine Vl (Uf st.2 hd hf ?_);dsimp only;unfold setsByText;refine Vl (Vl (Ux (Vm ?_)));dsimp only;refine Jr (λ fX=>absurd fX hb) (λ _=>?_);refine Jr (λ fX=>absurd fX ?_) (λ _=>?_)
  ·show ¬ ((!t.plain && decide (es.size > 1))=true)
   rw[show decide (es.size > 1)=false from Jl (by omega),Jy];exact Zf
  refine Vl ?_;show wpAny _ _ (if (!t.led && !es.isEmpty)=true then _ else _) _ _ s
  rw[hl];simp only[Qn,Jt,Zl,Vv];refine Vm (Vm ?_);have fJ:t.place.size=ys.length:=by
   simp only[SetTable.fits,Uq,Vn] at hf;omega
  have i9:es[SetTable.below t.place (if ys.length=0 then 0 else t.place.getD 0 0+1)]?=none:=by
   by_cases h0:ys.length=0
   ·rw[Array.getElem?_eq_none (by omega)]
   ·rw[V5 h0];have rE:ys.length=1:=by omega
    have eb:SetTable.below t.place (t.place.getD 0 0+1)=1:=by
     unfold SetTable.below;rw[fJ,rE];unfold SetTable.below.go
     have:t.place.getD 0 (t.place.getD 0 0+1)<t.place.getD 0 0+1:=by
      have e:t.place.getD 0 (t.place.getD 0 0+1)=t.place.getD 0 0:=by
       rw[Xf,Xf,Xq (by omega)];rfl
      rw[e];exact Uk _
     simp only[Nat.zero_lt_one,V1,Nat.reduceAdd,Nat.reduceDiv,this];unfold SetTable.below.go;rfl
    rw[eb,Array.getElem?_eq_none (by omega)]
  rw[i9];exact h
 self:=λ i s Q E st hQ=>qeJ st.1 hQ
theorem qjG(hS:qW prog w s.heap S ys)(h:∀(I:Addr)(h':Heap)(d:Drawn)(zs:List Str)(fp:List Addr)(St:Nat->Heap->Prop),zs.Perm ys->(∀ b o,s.heap.get? b=some o->h'.get? b=some o)->s.heap.objs.size<=I->I∈fp->(∀ b∈fp,b<h'.objs.size/\(b=S∨s.heap.objs.size<=b)) ->
   (∀ A:Around,A.handled=none->Walks prog w A I fp [I] ys.length (qcZ zs) St)->St 0 h'->Q (.ref I) { s with heap:=h',drawn:=d }):wpAny (model prog w) A (pyIter (.ref S)) Q E s:=by
 have hTy:=hS.typeIs (s:=s);obtain⟨o,es,ep,t,ho,hex,hd,N7,nd,hb,hf,hl,p8⟩:=hS;have hn:es.size=ys.length:=by rw[<- Yx,<- N7.length]
 have c8:S<s.heap.objs.size:=Qw ho;have hsz:ys.length<=sizeLine:=Qz (Zd hb (by decide));refine wpAny_pyIter_slot hTy PySem.F.slot_set_iter (Uz PySem.F.slot_set_iter hTy F.entry_set_iter ?_ (F.args_set_iter_1 _));unfold Builtin.«frozenset.__iter__»;show wpAny _ _ (Builtin.Frozenset.sizeOf S >>= _) _ _ s
 unfold Builtin.Frozenset.sizeOf;refine Vl (Vl (Zc ho hd hf (Vm ?_)));unfold setDrawn;refine Vl (Vl (Uf ho hd hf ?_));dsimp only;unfold setsByText;refine Vl (Vl (Ux (Vm (Vm ?_))));show wpAny _ _ (if (!w.params.followText "set-order" && (!t.plain && decide (es.size > 1)))=true then _ else _) _ _ s
 refine Jr (λ hc=>?_) (λ hc=>?_)
 ·refine Vl (y4 es.size (List.range es.size) _ _ (by simp) λ p d hp=>?_);rw[hn] at hp;have hpl':p.length=ys.length:=by rw[hp.length_eq,Z4]
  refine Vl (Qg (items:=p.map λ(i:Nat)=>rawInt i) ?_ (by rw[U3,hpl'];exact hsz));refine Vl (Uh (XG _ ho) hd hf ?_);rw[hn];refine Vl (Ub (Vm ⟨_,rfl,"set_iterator",_,⟨_,Yy _ rfl,rfl⟩,F.slot_set_iterator_next.lookup,?_⟩));have lI:(s.heap.push { cls:=Value.type "tuple",data:=Data.seq (p.map λ(i:Nat)=>rawInt i).toArray }).objs.size=s.heap.objs.size+1:=Ju _ _;refine h _ _ d (p.map λ k=>ys.getD k default) [_,s.heap.objs.size,S] _ (qc0 hp) (λ b o e=>XG _ (XG _ e)) ?_ (by simp) ?_ (λ A hA=>Walks.setDrawn hA (I:=(s.heap.push { cls:=Value.type "tuple",data:=Data.seq (p.map λ(i:Nat)=>rawInt i).toArray }).objs.size) (T:=s.heap.objs.size) (by rw[lI];exact Qx (Uk _)) (by rw[lI];exact Qx (Z0 c8)) hp hd hf N7) ⟨?_,?_,?_⟩
  ·show _<=(s.heap.push _).objs.size
   rw[lI];omega
  ·intro b hb;rw[Ju,lI];simp only[lI,Qi,Us,or_false] at hb;rcases hb with e | e | e <;> rw[e]
   ·exact⟨Uk _,.inr (Vg _)⟩
   ·exact⟨Z0 (Uk _),.inr (Vd _)⟩
   ·exact⟨Z0 (Z0 c8),.inl rfl⟩
  ·exact Yy _ rfl
  ·exact⟨_,XG _ (Yy _ rfl),rfl,_,rfl⟩
  ·exact XG _ (XG _ ho)
 ·refine Vl (Vm ?_);refine Vl (Uh ho hd hf ?_);rw[hn];refine Vl (Ub (Vm ⟨_,rfl,"set_iterator",_,⟨_,Yy _ rfl,rfl⟩,F.slot_set_iterator_next.lookup,?_⟩));have szb:∀ b∈[s.heap.objs.size,S],b<(s.heap.push (itO (.int (0:Nat) 0) 0 S ys.length ep)).objs.size/\(b=S∨s.heap.objs.size<=b):=by
   intro b hb;rw[Ju];simp only[Qi,Us,or_false] at hb;rcases hb with e|e <;> rw[e]
   ·exact⟨Uk _,.inr (Vd _)⟩
   ·exact⟨Z0 c8,.inl rfl⟩
  by_cases hbt:byT w
  ·obtain⟨zs,hz,hpz⟩:=yW N7 (qd9 (w.params.setOrder S ep) es);exact h s.heap.objs.size _ s.drawn zs [s.heap.objs.size,S] _ hz (λ b o e=>XG _ e) (Vd _) (by simp) szb (λ A hA=>Walks.setText hbt hA (Qx c8) hd hf hn rfl hpz hz.length_eq) ⟨Yy _ rfl,XG _ ho⟩
  ·have c7:ys.length<=1:=by
    have hft:w.params.followText "set-order"=false:=Z3.mpr hbt;rw[hft] at hc;rcases p8 with e | e
    ·rw[e];simp
    ·rw[e] at hc;simp only[Jz,Bool.true_and,decide_eq_true_eq] at hc;omega
   exact h s.heap.objs.size _ s.drawn ys [s.heap.objs.size,S] _ (Jw _) (λ b o e=>XG _ e) (Vd _) (by simp) szb (λ A hA=>Walks.setOne hbt hA (Qx c8) hd hf (hl.resolve_right hbt) N7 c7) ⟨Yy _ rfl,XG _ ho⟩
theorem qjH(hT:s.TypeIs (.ref r) "set")(h:Q false s):wpAny (model prog w) A (Builtin.List.listLengthHint (.ref r)) Q E s:=by
 unfold Builtin.List.listLengthHint;refine Vl (Jo hT PySem.F.slot_set_len.lookup ?_);generalize xC:("set.__len__":String)=id0
 wp_delta
 rw[show splitId id0=some ("set","__len__") from by subst xC;decide +kernel];subst xC;refine Vl (Uy (T:="set") (b:=true) hT (by rw[Qb];kernel_rfl) ?_);refine Jr (λ A1=>absurd A1 (by decide)) (λ _=>?_);refine Jr (λ _=>?_) (λ A1=>absurd (by decide +kernel) A1);refine Vl (Vb hT ?_);exact Vm h
theorem qeb(hh:A.handled=none)(hS:qW prog w s.heap S ys)(h:∀(h':Heap)(tk:Nat)(d:Drawn)(c9:List Value)(zs:List Str),(∀ b o,s.heap.get? b=some o->h'.get? b=some o)->s.heap.objs.size<h'.objs.size->zs.Perm ys->StrsAre c9 zs->R c9 { s with heap:=h',toks:=tk,drawn:=d }):
  wpAny (model prog w) A (collect (.ref S)) R E s:=by
 have c8:S<s.heap.objs.size:=by obtain⟨o,_,_,_,ho,_⟩:=hS;exact Qw ho
 have hsz:ys.length<=sizeLine:=by
  obtain⟨_,_,_,_,_,_,_,_,_,hb,_⟩:=hS;exact Qz (Zd hb (by decide))
 unfold collect;refine Vl (wpAny_runValue (Jp entry_proto_collect' ?_));rw[Yo PySem.F.plain_proto_collect _];show wpAny _ A.in1 (newList [] >>= λ l=>again (.builtin "list.__iadd__" ⟨[l,.ref S],[]⟩)) _ _ s
 refine Vl (Ub ?_);refine Vm ⟨Qt PySem.F.plain_list_iadd _,Jp entry_list_iadd' ?_⟩;rw[Yo PySem.F.plain_list_iadd _];have hL:(s.heap.push { cls:=.type "list",data:=.seq ([]:List Value).toArray }).get? s.heap.objs.size=some { cls:=.type "list",data:=.seq #[] }:=Yy _ rfl;show wpAny _ A.in1 (Builtin.List.listExtendWith (.ref s.heap.objs.size) (.ref S) (.ref s.heap.objs.size)) _ _ _
 have bM:qW prog w (s.heap.push { cls:=.type "list",data:=.seq ([]:List Value).toArray }) S ys:=by
  obtain⟨o,es,ep,t,ho,rest⟩:=hS;exact⟨o,es,ep,t,XG _ ho,rest⟩
 unfold Builtin.List.listExtendWith;refine Vl (Vb (T:="set") (bM.typeIs (s:={ s with heap:=s.heap.push { cls:=.type "list",data:=.seq ([]:List Value).toArray } })) ?_);have h1:Builtin.List.listSameRef (.ref s.heap.objs.size) (.ref S)=false:=by simp[Builtin.List.listSameRef];exact Q0 c8
 simp only[h1,show(Value.type "set" == Value.type "list")=false by decide,show(Value.type "set" == Value.type "tuple")=false by decide,Qm,Zl,Vv];refine Vl (qjG (s:={ s with heap:=s.heap.push { cls:=.type "list",data:=.seq ([]:List Value).toArray } }) bM λ I h2 d zs fp St hz W2 hI hIfp G9 W st=>?_);have lI:(s.heap.push { cls:=.type "list",data:=.seq ([]:List Value).toArray }).objs.size=s.heap.objs.size+1:=Ju _ _;have hI':s.heap.objs.size+1<=I:=by have:(s.heap.push { cls:=.type "list",data:=.seq ([]:List Value).toArray }).objs.size<=I:=hI;omega
 have mW:=W2 _ _ hL;have fZ:qW prog w h2 S ys:=by
  obtain⟨o,es,ep,t,ho,rest⟩:=bM;exact⟨o,es,ep,t,W2 _ _ ho,rest⟩
 refine Vl (Qr (qjH (fZ.typeIs (s:={ s with heap:=h2,drawn:=d })) ?_));have K2:∀ b o,s.heap.get? b=some o->h2.get? b=some o:=λ b o e=>W2 b o (XG _ e)
 have hnf:s.heap.objs.size∉fp:=λ hm=>by
  rcases(G9 _ hm).2 with e|e
  ·exact absurd c8 (by rw[<- e];exact Qh _)
  ·have e:(s.heap.push { cls:=.type "list",data:=.seq ([]:List Value).toArray }).objs.size<=s.heap.objs.size:=e;rw[lI] at e;exact absurd e (Nat.not_succ_le_self _)
 have i9:∀(h:Heap)(c₁:Nat),St 0 h->(∀ b o,b≠s.heap.objs.size->h2.get? b=some o->h.get? b=some o) ->
   h.get? s.heap.objs.size=some { cls:=.type "list",data:=.seq #[] c₁ } ->
   codeAny (model prog w) A (.builtin "list.extend.loop" ⟨[.ref s.heap.objs.size,.ref I,.ref s.heap.objs.size],[]⟩) (λ r s'=>∃ h' tk N3 c',r=.ok (.ret (.ref s.heap.objs.size))/\s'={ s with heap:=h',toks:=tk,drawn:=d } /\
    (∀ b o,s.heap.get? b=some o->h'.get? b=some o)/\h'.get? s.heap.objs.size=some { cls:=.type "list",dict:=none,data:=.seq N3 c',slots:=#[] }/\ItemsOf (qcZ zs) N3 ys.length) { s with heap:=h,drawn:=d }:=by
  intro h c₁ B9 hk hS₁;refine codeAny_extend_loopS (W _ (by simpa using hh)).toS hsz s.heap.objs.size hnf _ ys.length 0 _ #[] c₁ rfl (Ve _) B9 hS₁ (ItemsOf.nil _) λ s' N3 c' hm dX fY=>?_
  rw[Moved.eq_with hm];refine⟨s'.heap,s'.toks,N3,c',rfl,rfl,λ b o e=>hm.heap b o (λ hmem=>?_) (hk b o (Qx (Qw e)) (K2 b o e)),dX,fY⟩;have c8:=Qw e;rcases Qi.mp hmem with e'|hmem
  ·rw[e'] at c8;exact Qh _ c8
  ·rw[Zn.mp hmem] at c8;exact absurd (Zd c8 (Nat.le_of_succ_le hI')) (Qh _)
 have fin:∀ r s',(∃ h' tk N3 c',r=(.ok (.ret (.ref s.heap.objs.size)):Result)/\s'={ s with heap:=h',toks:=tk,drawn:=d } /\
    (∀ b o,s.heap.get? b=some o->h'.get? b=some o)/\h'.get? s.heap.objs.size=some { cls:=.type "list",dict:=none,data:=.seq N3 c',slots:=#[] }/\ItemsOf (qcZ zs) N3 ys.length) ->
   match r with | .ok (.ret v)=>wpAny (model prog w) A (do
    let .ref a:=v | unsupported "internal:collect"
    let o <- load a
    match o.data with
    |.seq xs _=>pure xs.toList
    | _=>unsupported "internal:collect") R E s' | _=>True:=by
  rintro r s' ⟨h',tk,N3,c',rfl,rfl,hk,dX,fY⟩;show wpAny _ A (load s.heap.objs.size >>= _) _ _ _
  refine Vl (wpAny_load dX (Vm (h h' tk d N3.toList zs hk (Qw dX) hz ?_)));have rB:zs.length=ys.length:=hz.length_eq
  have:∀(as:List Value)(zs:List Str),as.length=zs.length->(∀(j:Nat) v,as[j]?=some v->qcZ zs j v)->StrsAre as zs:=by
   intro as;induction as with
   |nil=>intro zs hl _;cases zs with
    |nil=>exact .nil
    |cons _ _=>simp at hl
   |cons a as ih =>
    intro zs hl hh;cases zs with
    |nil=>simp at hl
    |cons z zs =>
     obtain⟨t,e⟩:=hh 0 a rfl;have e:a=.str z t:=e;subst e;exact .cons _ _ (ih zs (by simpa using hl) λ j v e=>by
      obtain⟨t,e2⟩:=hh (j+1) v (by simpa using e);exact⟨t,by simpa using e2⟩)
  exact this _ _ (by rw[Yx,fY.1,rB]) λ j v e=>fY.2 j v (by rw[<- XX];exact e)
 refine Jr (λ _=>?_) (λ _=>Vm ⟨Qt PySem.F.plain_extend_loop _,Va (i9 _ _ st (λ b o _ e=>e) mW) λ r s' hr=>?_⟩)
 ·refine Vl (Vq ?_);refine Vl ?_;show wpAny _ _ (updateSeq s.heap.objs.size (·.push .none) >>= λ _=>updateSeq s.heap.objs.size (·.pop)) _ _ _
  refine Vl (wpAny_updateSeq mW rfl ?_);have hS₂:=XV (Obj.mapSeq (·.push Value.none)) mW rfl;refine wpAny_updateSeq (hz:=by seq_fits) hS₂ rfl ?_;have hS₃:=XV (Obj.mapSeq (·.pop)) hS₂ rfl;refine Vm ⟨Qt PySem.F.plain_extend_loop _,Va (i9 _ _ ?_ (λ b o hb e=>?_) hS₃) λ r s' hr=>?_⟩
  ·refine(W A hh).frame 0 _ _ st λ b hb o e=>?_
   have hbS:b≠s.heap.objs.size:=λ h=>hnf (h ▸ hb)
   exact(XJ _ _ (Vz hbS)).trans ((XJ _ _ (Vz hbS)).trans e)
  ·exact(XJ _ _ (Vz hb)).trans ((XJ _ _ (Vz hb)).trans e)
  ·have:=fin r s' hr
   obtain⟨_,_,_,_,rfl,_⟩:=hr;exact this
 ·have:=fin r s' hr
  obtain⟨_,_,_,_,rfl,_⟩:=hr;exact this
theorem qjI(hh:A.handled=none)(hS:qW prog w s.heap S ys)(bS:ys.length<64)(h:∀(l:Addr)(h':Heap)(tk e:Nat)(d:Drawn)(out:Array Value)(A9:List Str),(∀ b o,s.heap.get? b=some o->h'.get? b=some o)->s.heap.objs.size<=l->h'.get? l=some (seqObj "list" out e)->StrsAre out.toList A9->A9.Perm ys->sortedS A9=true ->
   Q (.ref l) { s with heap:=h',toks:=tk,drawn:=d }):wpAny (model prog w) A (call (.builtin "sorted") [.ref S]) Q E s:=by
 refine Xr kind_sorted plain_sorted entry_sorted (args_sorted1 _) ?_;unfold Builtin.«sorted»;refine Vl (m:=checkCount "sorted" 1 1 _) (Vm ?_);refine Vl (qeb (by simpa using hh) hS λ h1 tk d vs zs hk A0 hz hA=>?_);have hl:vs.length<64:=by
  have:vs.length=zs.length:=hA.length
  rw[this,hz.length_eq];exact bS
 refine Vl (Qv ?_);have fQ:(h1.push (seqObj "list" vs.toArray 0)).get? h1.objs.size=some (seqObj "list" vs.toArray 0):=Yy _ rfl;refine Vl (Qr (Uz slot_list_sort ⟨_,fQ,rfl⟩ entry_list_sort (list_sort_treeK strKind_oneLt fQ hA.keysOf (λ v₁ v₂ rest e=>keyKind_strs (by rw[<- e];exact hA)) hl λ b0 a1 a2=>⟨_,rfl,?_⟩) (args_list_sort _)));obtain⟨A9,b1,b2,b3⟩:=sorted_out_str hA a1 a2;obtain⟨e,he⟩:=sortedHeap_at (out:=(arrOf b0).map (·.2)) fQ;refine Vm ⟨_,rfl,h h1.objs.size _ tk e d _ A9 (λ b o q=>?_) (Qz A0) he b1 (b2.trans hz) b3⟩;have q1:=hk b o q;have hb:=Qw q1;rw[sortedHeap_old (Qx hb) (by rw[Ju];exact Z0 hb)];exact XG _ q1
end
section
variable {X:Cx}
theorem qat(hc:X.calm=true):y9 X (.builtin "sorted") (λ xs H Q=>∃ p ys,xs=[.ref p]/\H p=some (qeH X.prog X.w p ys)/\ys.length<64/\∀ l,H l=none->Q (.ref l) (upd H l (.lst ((qbb ys).map V.str)))):=by
 intro pins s σ H xs us Q I r h;obtain⟨p,ys,rfl,hp,bS,q⟩:=h;obtain⟨u,rfl,ru⟩:=yk r;cases ru
 obtain⟨o0,x8,hS⟩:=I.set hp;refine qjI (I.ok.hd hc) hS (by rw[x8.length_eq];exact bS) λ l h' tk e d out A9 hk A0 he h1 h2 h3=>?_
 have es:=qeF (h2.trans x8) h3;subst es;have hf:=I.hok.fresh A0;refine⟨.ref l,upd H l (.lst ((qbb ys).map V.str)),I.call' (s':={ s with heap:=h',toks:=tk,drawn:=d }) (ch:=[]) rfl (Un.laid hk A0 hf) (I.hok.laid hk A0 ⟨?_,out.toList,e,vd h1,he⟩) I.bare (λ _ z=>nomatch z),rfl,q _ hf⟩
 have:(qbb ys).length=ys.length:=(h2.trans x8).length_eq
 rw[U3,this];exact Qz (Zd bS (by decide))
end
theorem qmz:∀ n,n<1024->((SetTable.sizeAbove (2*n)-1=7∨SetTable.sizeAbove (2*n)-1=15∨SetTable.sizeAbove (2*n)-1=31∨SetTable.sizeAbove (2*n)-1=63∨SetTable.sizeAbove (2*n)-1=127∨SetTable.sizeAbove (2*n)-1=255∨SetTable.sizeAbove (2*n)-1=511∨SetTable.sizeAbove (2*n)-1=1023∨SetTable.sizeAbove (2*n)-1=2047)/\n<=SetTable.sizeAbove (2*n)-1):=by decide +kernel
theorem qgH(h:n<1024):kn (SetTable.sizeAbove (2*n)-1):=by
 rcases(qmz n h).1 with e|e|e|e|e|e|e|e|e <;> rw[e]
 ·exact qmy
 ·exact qm6
 ·exact qm7
 ·exact qm8
 ·exact qlB
 ·exact qlC
 ·exact qlD
 ·exact qjC
 ·exact qjD
section
variable {prog:Program}{w:World}{A:Around}{E:Value->Shared->Prop}{s:Shared}
theorem jm{t:SetTable}:t.fits n=true ↔ (t.place.size=n/\t.place.size+t.dummies.size<=t.mask):=by
 unfold SetTable.fits;rw[Uq,Vn];exact⟨λ ⟨a,b⟩=>⟨a,Ui b⟩,λ ⟨a,b⟩=>⟨a,Qa b⟩⟩
theorem qbe(xs:Array α)(i:Nat):(SetTable.eraseAt xs i).toList=xs.toList.eraseIdx i:=by
 unfold SetTable.eraseAt;rw[Y4,Yp,Yp,List.eraseIdx_eq_take_drop_succ,Xs,Xs,J0,Nat.sub_zero];congr 1
 exact XL (by simp)
theorem qbf(xs:Array α)(h:i<xs.size):(SetTable.eraseAt xs i).size+1=xs.size:=by
 rw[<- Yx,qbe,Xk (by simpa using h),Yx];omega
theorem qdJ(xs:Array α)(p:Nat)(x:α):(SetTable.insertAt xs p x).size=xs.size+1:=by
 unfold SetTable.insertAt;simp
 omega
theorem qbg:∀{xs:List α}{l:List β}(i:Nat),Paired F xs l->Paired F (xs.eraseIdx i) (l.eraseIdx i)
 |_,_,_,.nil=>.nil
 |_,_,0,.cons _ t=>t
 |_,_,i+1,.cons r t=>.cons r (qbg i t)
theorem jn{α:Type}:∀{l:List α}{i:Nat}{x y:α},l.Nodup->l[i]?=some x->(y∈l.eraseIdx i ↔ (y∈l/\y≠x))
 | [],_,_,_,_,h=>by simp at h
 |a::l,0,x,y,nd,h=>by
  have ex:a=x:=by simpa using h
  subst ex;have x3:=U5.mp nd;show y∈l ↔ _
  constructor
  ·intro hy;exact⟨Yl _ hy,λ e=>x3.1 (e ▸ hy)⟩
  ·rintro⟨hy,O4⟩;rcases Qi.mp hy with e | e
   ·exact absurd e O4
   ·exact e
 |a::l,i+1,x,y,nd,h=>by
  have x3:=U5.mp nd;have hx:l[i]?=some x:=by simpa using h
  have ih:=jn (y:=y) x3.2 hx;rw[X7,Qi,ih,Qi];have cO:a≠x:=λ e=>x3.1 (e ▸ Yn hx)
  constructor
  ·rintro(e | ⟨h1,h2⟩)
   ·exact⟨.inl e,e ▸ cO⟩
   ·exact⟨.inr h1,h2⟩
  ·rintro⟨e | h1,h2⟩
   ·exact .inl e
   ·exact .inr ⟨h1,h2⟩
theorem qeK(hS:qW prog w s.heap a ys)(h0:x∉ys->Q false s)(h1:x∈ys->∀ h' o0,Heap.SameBut a s.heap h'->(∀ y,y∈o0 ↔ (y∈ys/\y≠x))->o0.length<=ys.length->qW prog w h' a o0->Q true { s with heap:=h' }):
  wpAny (model prog w) A (setDiscardHashed a (.str x t0) ((qw prog w).hash (.inr x))) Q E s:=by
 obtain⟨o,es,ep,t,ho,hex,hd,hp,nd,hb,hf,hl,p8⟩:=hS;have cL:=qcW hp;have C8:(qw prog w).is (.inr x) (.str x t0)=true:=zv _ _ _ _;have wT:(Value.str x t0).scannable=true:=rfl;have c7:es.size<scanBound:=by rw[<- Yx,<- hp.length];exact hb
 unfold setDiscardHashed setFind setFindIn;refine Vl (Vl (Uf ho hd hf ?_));dsimp only;rw[byScan_of wT c7 cL];simp only[↓reduceIte];refine Vl (Vq ?_);refine Vl (wpAny_setScan_of C8 ho hd hf cL ?_);cases hr:List.findIdx? (λ e=>(qw prog w).is (.inr x) e.2) es.toList with
 |none =>
  dsimp only;refine Vm (Vm (h0 λ hx=>?_));obtain⟨e,he,q⟩:=(qcX hp (.inr x)).mpr ⟨x,hx,rfl⟩
  have:=List.findIdx?_eq_none_iff.mp hr e he
  rw[q] at this;exact Bool.noConfusion this
 |some j =>
  dsimp only;refine Vm ?_;dsimp only;rw[Q6];obtain⟨hj,rY,_⟩:=List.findIdx?_eq_some_iff_getElem.mp hr;have hjs:j<es.size:=by simpa using hj
  obtain⟨y,hy,hye,t',hye2⟩:=qaD hp j es.toList[j] (Xy hj);have exy:y=x:=by
   have:=(qw prog w).inj _ _ _ rY (by rw[hye2];exact zv prog w y t')
   exact(Sum.inr.inj this).symm
  subst exy;refine Vl (Uf ho hd hf ?_);dsimp only;have hsz:=qbf es hjs;refine Vl (Ud ho hd ?_ (Ue (by omega)));have O2:Paired (qbD prog w) (ys.eraseIdx j) (SetTable.eraseAt es j).toList:=by rw[qbe];exact qbg j hp
  obtain⟨fJ,iO⟩:=jm.mp hf;have hpj':t.place[j]?=some (t.place[j]'(by omega)):=Xq (by omega);have cY:t.drop j={ t with place:=SetTable.eraseAt t.place j,dummies:=SetTable.insertAt t.dummies (SetTable.below t.dummies (t.place[j]'(by omega))) (t.place[j]'(by omega)) }:=by
   unfold SetTable.drop;rw[hpj']
  have hf1:(t.drop j).fits (SetTable.eraseAt es j).size=true:=by
   rw[cY];have e1:=qbf t.place (i:=j) (by omega);have e2:=qdJ t.dummies (SetTable.below t.dummies (t.place[j]'(by omega))) (t.place[j]'(by omega));refine jm.mpr ⟨?_,?_⟩
   ·show(SetTable.eraseAt t.place j).size=_
    omega
   ·show(SetTable.eraseAt t.place j).size+(SetTable.insertAt t.dummies (SetTable.below t.dummies (t.place[j]'(by omega))) (t.place[j]'(by omega))).size<=t.mask
    omega
  have A0:(ys.eraseIdx j).length<=ys.length:=List.length_eraseIdx_le _ _;obtain⟨_,bM⟩:=jj (P:=prog) (w:=w) ho hex hd O2 (nd.sublist (List.eraseIdx_sublist _ _)) (Zi A0 hb) hf1 (by rw[cY];exact hl) (by
   rcases p8 with e|e
   ·rw[e];exact .inl rfl
   ·exact .inr (by rw[cY];exact e))
  refine Vl (wpAny_point ?_);exact Vm (h1 (Yn hy) _ _ (Y3 _ _ _) (λ z=>jn nd hy) A0 bM)
theorem qec {α:Type}(f:α->β->Sem (ForInStep β))(I:List α->β->Shared->Prop)(Q:β->Shared->Prop)(turn:∀ x rest b s,I (x::rest) b s->wpAny M A (f x b) (λ r s'=>match r with|.yield b'=>I rest b' s'|.done b'=>Q b' s') E s)(fin:∀ b s,I [] b s->Q b s)(xs:Array α)(b:β)(h:I xs.toList b s):wpAny M A (forIn xs b f) Q E s:=by
 rw[<- Array.forIn_toList];exact wpAny_forIn_list f I Q turn fin _ b h
theorem qfI(hA:qW prog w s.heap a ys)(hB:qW prog w s.heap b zs)(h:Q true s):wpAny (model prog w) A (setsQuiet [a,b]) Q E s:=by
 have one:∀{c:Addr}{us:List Str},qW prog w s.heap c us->∀{R:Array (Int×Value)->Shared->Prop},(∀ es:Array (Int×Value),(∀ e∈es,∃ x t,e.2=.str x t)->R es s)->wpAny (model prog w) A (setEntries c) R E s:=by
  intro c us hC R hR;obtain⟨o,es,ep,t,ho,hex,hd,hp,nd,hb,hf,hl,p8⟩:=hC;refine Zc ho hd hf (hR es λ e he=>?_);have fS:e∈es.toList:=by simpa using he
  obtain⟨k,hk⟩:=Yc.mp fS;obtain⟨y,_,_,t',e2⟩:=qaD hp k e hk;exact⟨y,t',e2⟩
 unfold setsQuiet;refine Vl (wpAny_forIn_list _ (λ rest r s'=>s'=s/\r=⟨none,()⟩/\∀ c∈rest,c=a∨c=b) _ ?turn ?fin _ _ ⟨rfl,rfl,by simp⟩)
 case turn =>
  rintro c rest r s' ⟨rfl,rfl,hc⟩;have hC:∃ us,qW prog w s'.heap c us:=by
   rcases hc c Ze with e|e
   ·exact⟨_,e ▸ hA⟩
   ·exact⟨_,e ▸ hB⟩
  obtain⟨us,hC⟩:=hC;refine Vl (one hC λ es oN=>?_);refine Vl (qec _ (λ rest r L8=>L8=s'/\r=⟨none,()⟩/\∀ e∈rest,∃ x t,e.2=.str x t) _ ?turn2 ?fin2 _ _ ⟨rfl,rfl,λ e he=>oN e (by simpa using he)⟩)
  case turn2 =>
   rintro e aA2 r L8 ⟨rfl,rfl,he⟩;obtain⟨x,t,ex⟩:=he e Ze;obtain⟨e1,e2⟩:=e;have ex:e2=.str x t:=ex;subst ex;exact Vm ⟨rfl,rfl,λ e h=>he e (Yl _ h)⟩
  case fin2 =>
   rintro r L8 ⟨rfl,rfl,_⟩;exact Vm ⟨rfl,rfl,λ c h=>hc c (Yl _ h)⟩
 case fin =>
  rintro r s' ⟨rfl,rfl,_⟩;exact Vm h
theorem qb6(O4:f≠a)(hA:qW prog w s.heap a ys)(hF:qW prog w s.heap f zs)(h:∀ o7 o0 h' d,o0.Perm ys->Paired (qbD prog w) o0 o7.toList->Heap.SameBut f s.heap h'->qW prog w h' f zs->Q o7 { s with heap:=h',drawn:=d }):wpAny (model prog w) A (setWalkUnseen a [f] (some f)) Q E s:=by
 obtain⟨o,es,ep,t,ho,hex,hd,hp,nd,hb,hf,hl,p8⟩:=id hA;have c7:es.size=ys.length:=by rw[<- Yx,<- hp.length]
 have same:Heap.SameBut f s.heap s.heap:=⟨rfl,λ _ _=>rfl⟩;have walk:wpAny (model prog w) A (setWalk a) Q E s:=qiy ho hd hf hl λ o7 d oE=>by
  obtain⟨o0,h1,h2⟩:=yW hp oE;exact h o7 o0 s.heap d h1 h2 same hF
 unfold setWalkUnseen;refine Vl (Uf ho hd hf ?_);dsimp only;unfold setsByText;refine Vl (Vl (Ux (Vm ?_)));dsimp only;refine Jr (λ _=>?_) (λ hc=>?_)
 ·exact walk
 ·refine Vl (qfI hA hF ?_);simp only[Qn,Zl,Vv];refine Vl (Vq ?_);obtain⟨o2,es2,ep2,t2,O3,hex2,W4,W1,bY,S0,xD,L5,rX⟩:=id hF;have L4:es2.size<scanBound:=by rw[<- Yx,<- W1.length];exact S0
  refine Vl (Uf O3 W4 xD ?_);dsimp only;have dU:¬ byT w:=λ hb=>hc (by
   have:w.params.followText "set-order"=true:=hb
   show(w.params.followText "set-order" || _ || _)=true
   rw[this];rfl)
  have aH:t.led=true:=hl.resolve_right dU;have sH:t2.led=true:=L5.resolve_right dU;refine Jr (λ _=>?_) (λ _=>?_)
  ·refine Vl (Ud O3 W4 ?_ (Ue L4));obtain⟨_,fZ⟩:=jj (P:=prog) (w:=w) (t':={ t2 with led:=t2.led && t.led,plain:=t2.plain && t.plain }) O3 hex2 W4 W1 bY S0 (jm.mpr (jm.mp xD)) (.inl (by show(t2.led && t.led)=true;rw[aH,sH];rfl)) (by
    rcases rX with e|e
    ·exact .inl e
    ·exact .inr (by show(t2.plain && t.plain)=false;rw[e];rfl))
   exact Vm (h es ys _ s.drawn (Jw _) hp (Y3 _ _ _) fZ)
  ·exact Vm (h es ys s.heap s.drawn (Jw _) hp same hF)
theorem qb7(O4:r≠l)(hL:qW prog w s.heap l ys)(hR:qW prog w s.heap r zs)(hb:ys.length+zs.length+1<scanBound)(h:∀ us h' d,(∀ x,x∈us ↔ ((x∈zs/\x∉ys)∨(x∈ys/\x∉zs)))->Heap.SameBut r s.heap h'->qW prog w h' r us->Q () { s with heap:=h',drawn:=d }):
  wpAny (model prog w) A (Builtin.Frozenset.symmetricDifferenceUpdate nm r (.ref l)) Q E s:=by
 have mU:=hL.typeIs (s:=s);obtain⟨o,es,ep,t,ho,hex,hd,hp,nd,hbl,hf,hl,p8⟩:=id hL;unfold Builtin.Frozenset.symmetricDifferenceUpdate;have e1:(Value.ref l == Value.ref r)=false:=by
  have:¬ (Value.ref l=Value.ref r):=λ e=>O4 (by injection e with e;exact e.symm)
  simpa using this
 rw[e1];simp only[Zl,Vv];refine Vl (Vb mU ?_);rw[show(Value.type "set" == Value.type "dict")=false by decide];simp only[Zl,Vv];refine Vl (qad mU ?_);simp only[V1];refine Vl (Vm ?_);show wpAny _ _ (setEpoch l >>= _) _ _ s
 refine Vl (Uh ho hd hf ?_);refine Qr ?_;refine Vl (qb6 O4 hL hR λ o7 o0 h1 d hpy oE V9 tG=>?_);have x3:o0.Nodup:=hpy.nodup_iff.mpr nd;refine Vl (qec _ (λ rest u s'=>∃ qs ps us h',o0=qs++ps/\Paired (qbD prog w) ps rest/\s'={ s with heap:=h',drawn:=d }/\Heap.SameBut r s.heap h'/\qW prog w h' r us /\
   (∀ x,x∈us ↔ ((x∈zs/\x∉qs)∨(x∈qs/\x∉zs)))/\us.length<=zs.length+qs.length) _ ?turn ?fin _ _ ⟨[],o0,zs,h1,rfl,oE,rfl,V9,tG,by simp,by simp⟩)
 case turn =>
  rintro⟨eh,ex⟩ rest u s' ⟨qs,ps,us,h',e,aS,rfl,B2,hU,hm,hul⟩;cases aS with
  | @cons p _ ps _ hpe1 aS =>
   obtain⟨q1,t',q2⟩:=hpe1;have q1:eh=(qw prog w).hash (.inr p):=q1;have q2:ex=.str p t':=q2;subst q1 q2;have fM:p∉qs:=λ hq=>by
    rw[e] at x3;exact(Zy.mp x3).2.2 p hq p Ze rfl
   have c7:qs.length+ps.length+1=ys.length:=by
    have:=hpy.length_eq
    rw[e,Zh,Uj] at this;omega
   have go:∀(h2:Heap)(dZ:List Str),Heap.SameBut r h' h2->qW prog w h2 r dZ->(∀ x,x∈dZ ↔ ((x∈zs/\x∉qs++[p])∨(x∈qs++[p]/\x∉zs)))->dZ.length<=zs.length+(qs++[p]).length ->
     wpAny (model prog w) A (Builtin.Frozenset.unchanged nm l ep) (λ _ s'=>wpAny (model prog w) A (pure (ForInStep.yield PUnit.unit)) (λ r_1 pE=>match r_1 with
      |.yield b'=>∃ qs ps us h',o0=qs++ps/\Paired (qbD prog w) ps rest/\pE={ s with heap:=h',drawn:=d }/\Heap.SameBut r s.heap h'/\qW prog w h' r us/\(∀ x,x∈us ↔ ((x∈zs/\x∉qs)∨(x∈qs/\x∉zs)))/\us.length<=zs.length+qs.length
      |.done b'=>wpAny (model prog w) A (pure ()) Q E pE) E s') E { s with heap:=h2,drawn:=d }:=by
    intro h2 dZ l7 tF aV L5;unfold Builtin.Frozenset.unchanged;have O3:h2.get? l=some o:=(l7.2 l (Vz O4)).trans ((B2.2 l (Vz O4)).trans ho);refine Vl (Uh O3 hd hf ?_);simp only[Ug,Zl,Vv];refine Vm (Vm ⟨qs++[p],ps,dZ,h2,by rw[e,Zx];rfl,aS,rfl,B2.trans l7,tF,aV,L5⟩)
   refine Vl (Qr (Vl (qeK (s:={ s with heap:=h',drawn:=d }) hU (λ fH=>?_) (λ fH h2 dZ l7 aV hle2 tF=>?_))))
   ·simp only[Jz,V1];refine Vl (qfC (s:={ s with heap:=h',drawn:=d }) hU (by omega) (λ hx=>absurd hx fH) (λ _ h2 dZ l7 W1 tF=>?_));refine Vm (Vl (go h2 dZ l7 tF (λ x=>?_) ?_))
    ·rw[W1.mem_iff,U1,Zn,hm x,U1,Zn];have hz:p∉zs:=λ hz=>fH ((hm p).mpr (.inl ⟨hz,fM⟩))
     by_cases hxp:x=p
     ·subst hxp;simp[hz]
     ·simp[hxp]
    ·rw[W1.length_eq,Zh,Zh];simp;omega
   ·simp only[Qn,Zl,Vv];refine Vm (Vl (go h2 dZ l7 tF (λ x=>?_) ?_))
    ·rw[aV x,hm x,U1,Zn];have hz:p∈zs:=by
      rcases(hm p).mp fH with⟨h1,_⟩|⟨h1,_⟩
      ·exact h1
      ·exact absurd h1 fM
     by_cases hxp:x=p
     ·subst hxp;simp[hz]
     ·simp[hxp]
    ·rw[Zh];simp;omega
 case fin =>
  rintro u s' ⟨qs,ps,us,h',e,aS,rfl,B2,hU,hm,hul⟩;cases aS
  rw[U4] at e;refine Vm (h us h' d (λ x=>?_) B2 hU);rw[hm x,<- e,hpy.mem_iff]
theorem qlH(O4:r≠o)(hr:s.heap.get? r=some (qK w))(hO:qW prog w s.heap o ys)(hn:ys.length<1024)(h:∀ us h',us.Perm ys->Heap.SameBut r s.heap h'->qW prog w h' r us->Q () { s with heap:=h' }):wpAny (model prog w) A (setMerge r o uH) Q E s:=by
 obtain⟨ob,es,ep,t,ho,hex,hd,hp,nd,hb,hf,hl,p8⟩:=id hO;have c7:es.size=ys.length:=by rw[<- Yx,<- hp.length]
 have aH:((!(w.params.followText "set-order")) && t.led)=true∨byT w:=by
  by_cases hb:byT w
  ·exact .inr hb
  ·refine .inl ?_;have e1:w.params.followText "set-order"=false:=Z3.mpr hb;rw[e1,hl.resolve_right hb];rfl
 unfold setMerge;have e1:(r == o)=false:=by simpa using O4
 rw[e1];simp only[Zl,Vv];refine Vl (Uf ho hd hf ?_);dsimp only;by_cases h0:es.isEmpty=true
 ·rw[h0];simp only[V1];have e0:ys=[]:=by
   have:es.size=0:=by simpa using h0
   exact Xd (by omega)
  have:=h [] s.heap (by rw[e0]) ⟨rfl,λ _ _=>rfl⟩ (jz hr)
  cases s
  exact Vm this
 ·have tL:es.isEmpty=false:=Z3.mpr h0;have mB:0<es.size:=by
   rcases Nat.eq_zero_or_pos es.size with e|e
   ·exact absurd (by simpa using e) h0
   ·exact e
  have M1:t.plain=false:=by
   rcases p8 with e|e
   ·have:ys.length=0:=by rw[e];rfl
    omega
   ·exact e
  rw[tL];simp only[Zl,Vv];have L4:es.size<scanBound:=by rw[c7];exact hb
  have iB:∀(s1:Shared)(T:SetTable)(ep1:Nat),s1.heap.get? r=some { cls:=.type "set",dict:=none,data:=.set #[] ep1 T }->Heap.SameBut r s.heap s1.heap->s1={ s with heap:=s1.heap }->T.place=#[]->T.dummies=#[]->T.led=(!(w.params.followText "set-order"))->kn T.mask->es.size<=T.mask ->
    wpAny (model prog w) A (do
     let (_,_,ts) <- setState r
     match ts.road t with
     |.slotForSlot=>storeSet r es { t with finger:=ts.finger,led:=ts.led && t.led,moves:=ts.moves,plain:=ts.plain && t.plain }
     |.clean =>
      let (es,t) <- (do
        let some (t,p6):=(SetTable.laid ts.mask ts.finger ts.moves (led:=ts.led && t.led) (plain:=ts.plain && t.plain) (es.map (·.1))) | unsupported "internal:set-table-without-room"
        let o7:=p6.filterMap (es[·]?)
        if o7.size != es.size then unsupported "internal:set-table-lost-an-element"
        pure (o7,t))
      storeSet r es t
     |.oneByOne =>
      for (h,x) in <- setWalkUnseen o [r] (some r) do
       let _ <- holding [x] (setAddHashed r x h)
       uH
       if (<- setState o).2.1 != ep then unsupported "set.changed-during-merge") Q E s1:=by
   intro s1 T ep1 B0 V9 G0 mC sT hld hg A0;have hf1:T.fits (#[]:Array (Int×Value)).size=true:=jm.mpr ⟨by rw[mC];rfl,by rw[mC,sT];simp⟩;refine Vl (Uf B0 rfl hf1 ?_);dsimp only;have iO:T.fill=0:=by unfold SetTable.fill;rw[mC,sT];rfl
   unfold SetTable.road;rw[iO];simp only[Ug,Zl,Vv];by_cases hc:(T.mask == t.mask && t.dummies.isEmpty)=true
   ·rw[V4 hc];dsimp only;refine Ud B0 rfl ?_ (Ue L4);obtain⟨_,hS⟩:=jj (P:=prog) (w:=w) (t':={ t with finger:=T.finger,led:=T.led && t.led,moves:=T.moves,plain:=T.plain && t.plain }) B0 ⟨rfl,rfl,rfl⟩ rfl hp nd hb (jm.mpr (jm.mp hf)) (by rw[hld];exact aH) (.inr (by show(T.plain && t.plain)=false;rw[M1,Jy]));rw[G0];exact h ys _ (Jw _) (V9.trans (Y3 _ _ _)) hS
   ·rw[V5 hc];dsimp only;obtain⟨t',p6,el,q1,q2,q3,q4,q5,q6,q7⟩:=qhJ hg T.finger T.moves (T.led && t.led) (T.plain && t.plain) (es.map (·.1)) (by simpa using A0);rw[el];dsimp only;have oE:(p6.filterMap (es[·]?)).toList.Perm es.toList:=by
     rw[Array.toList_filterMap];exact qgG es (by simpa using q7)
    have hsz:(p6.filterMap (es[·]?)).size=es.size:=by rw[<- Yx,oE.length_eq,Yx]
    rw[hsz];simp only[Ug,Zl,Vv];refine Vl (Vm ?_);dsimp only;obtain⟨us,hu,fH⟩:=yW hp oE;refine Ud B0 rfl ?_ (Ue (by rw[hsz];exact L4));obtain⟨_,hS⟩:=jj (P:=prog) (w:=w) (t':=t') B0 ⟨rfl,rfl,rfl⟩ rfl fH (hu.nodup_iff.mpr nd) (by rw[hu.length_eq];exact hb) (by rw[hsz];simpa using q1) (by rw[q2,hld];exact aH) (.inr (by rw[q3,M1,Jy]));rw[G0];exact h us _ hu (V9.trans (Y3 _ _ _)) hS
  have aZ:(SetTable.fresh 0 0 (!(w.params.followText "set-order"))).fits (#[]:Array (Int×Value)).size=true:=rfl;unfold setRoomFor;refine Vl (Vl (Uf hr rfl aZ ?_));have hrf:(SetTable.fresh 0 0 (!(w.params.followText "set-order"))).roomFor es.size=if es.size*5 ≥ 21 then some (es.size*2) else none:=by
   unfold SetTable.roomFor SetTable.fill SetTable.fresh;simp
  dsimp only;rw[hrf];by_cases h5:es.size*5 ≥ 21
  ·rw[V4 h5];dsimp only;unfold setRelay;refine Vl (Uf hr rfl aZ ?_);dsimp only;have aU:es.size<1024:=by omega
   have hgm:=qgH aU;have hmm:=qmz es.size aU;rw[Q2 es.size 2];have wS:¬ SetTable.sizeAbove (2*es.size) > sizeLine:=by
    have h256:SetTable.sizeAbove (2*es.size)<=2048:=by
     rcases hmm.1 with e|e|e|e|e|e|e|e|e <;> omega
    have:(2048:Nat)<=sizeLine:=by decide
    omega
   rw[V5 wS];obtain⟨t',p6,el,q1,q2,q3,q4,q5,q6,q7⟩:=qhJ hgm (SetTable.fresh 0 0 (!(w.params.followText "set-order"))).finger ((SetTable.fresh 0 0 (!(w.params.followText "set-order"))).movedTo (SetTable.sizeAbove (2*es.size)-1)) (SetTable.fresh 0 0 (!(w.params.followText "set-order"))).led (SetTable.fresh 0 0 (!(w.params.followText "set-order"))).plain ((#[]:Array (Int×Value)).map (·.1)) (by simp);have er:(SetTable.fresh 0 0 (!(w.params.followText "set-order"))).relaid ((#[]:Array (Int×Value)).map (·.1)) (2*es.size)=some (t',p6):=el;rw[er];have eo:p6=#[]:=by
    have:=q7.length_eq
    simp at this;exact this
   subst eo;refine Vl (m:=(do
        if ((#[]:Array Nat).filterMap ((#[]:Array (Int×Value))[·]?)).size != (#[]:Array (Int×Value)).size then unsupported "internal:set-table-lost-an-element"
        pure (((#[]:Array Nat).filterMap ((#[]:Array (Int×Value))[·]?)),t'):Sem (Array (Int×Value)×SetTable))) ?_
   rw[show((#[]:Array Nat).filterMap ((#[]:Array (Int×Value))[·]?))=#[] from rfl];simp only[Ug,Zl,Vv];refine Vm ?_;dsimp only;refine Ud hr rfl ?_ (by decide);have hg2:(s.heap.update r (Obj.putSet #[] t')).get? r=some { cls:=.type "set",dict:=none,data:=.set #[] (0+1) t' }:=by
    have:=XV (Obj.putSet (#[]:Array (Int×Value)) t') hr (by rw[putSet_of #[] t' rfl];rfl)
    rw[putSet_of #[] t' rfl] at this;exact this
   refine iB { s with heap:=s.heap.update r (Obj.putSet #[] t') } t' 1 hg2 (Y3 _ _ _) rfl ?_ q5 q2 (by rw[q4];exact hgm) (by rw[q4];exact hmm.2);exact Array.eq_empty_of_size_eq_zero (by simpa using q6)
  ·rw[V5 h5];dsimp only;refine Vm ?_;exact iB s _ 0 hr ⟨rfl,λ _ _=>rfl⟩ rfl rfl rfl rfl qmy (by show es.size<=7;omega)
theorem qjJ(h:Q (.ref s.heap.objs.size) { s with heap:=s.heap.push (qK w) }):wpAny (model prog w) A (newSet (.type "set")) Q E s:=by
 unfold newSet setsByText;refine Vl (Vl (Ux (Vm ?_)));dsimp only;simp only[newObj];exact Vl (wpAny_alloc (Vm h))
theorem qoc(hL:qW prog w s.heap l ys)(hR:qW prog w s.heap r zs)(hn:zs.length<1024)(hm:ys.length<1024)(h:∀ us h' d,us.Nodup->(∀ x,x∈us ↔ ((x∈zs/\x∉ys)∨(x∈ys/\x∉zs)))->(∀ b o,s.heap.get? b=some o->h'.get? b=some o)->qW prog w h' s.heap.objs.size us->Q (.ref s.heap.objs.size) { s with heap:=h',drawn:=d }):
  wpAny (model prog w) A (binaryOp .BitXor (.ref l) (.ref r)) Q E s:=by
 have mU:=hL.typeIs (s:=s);have hTr:=hR.typeIs (s:=s);have mP:l<s.heap.objs.size:=by obtain⟨_,_,_,_,e,_⟩:=hL;exact Qw e
 have lY:r<s.heap.objs.size:=by obtain⟨_,_,_,_,e,_⟩:=hR;exact Qw e
 refine wpAny_binaryOp_same (op:=.BitXor) mU hTr PySem.F.fills_set_xor PySem.F.slot_set_xor (Uz PySem.F.slot_set_xor mU F.entry_set_xor ?_ (PySem.F.args_set_xor_2 _ _));unfold Builtin.«frozenset.__xor__»;show wpAny _ _ ((Builtin.Frozenset.isAnySet (.ref l) <&&> Builtin.Frozenset.isAnySet (.ref r)) >>= _) _ _ s
 refine Vl (Vl (qad mU ?_));show wpAny _ _ (Builtin.Frozenset.isAnySet (.ref r)) _ _ s
 refine qad hTr ?_;simp only[Qn,Zl,Vv];refine Vl (Vm ?_);refine Vl ?_;show wpAny _ _ (Builtin.Frozenset.baseOf l >>= _) _ _ s
 unfold Builtin.Frozenset.baseOf;refine Vl ?_;refine Vl (Uy mU sub_set_self (Vm ?_));show wpAny _ _ (Builtin.Frozenset.newFrom _ (.type "set") (.ref r) >>= _) _ _ s
 refine Vl ?_;unfold Builtin.Frozenset.newFrom;refine Vl (qjJ ?_);have mQ:∀ b o,s.heap.get? b=some o->(s.heap.push (qK w)).get? b=some o:=λ b o e=>XG _ e
 have up:∀{h h':Heap}{a:Addr}{us:List Str},qW prog w h a us->(∀ o,h.get? a=some o->h'.get? a=some o)->qW prog w h' a us:=λ hS k=>by
  obtain⟨o,es,ep,t,ho,rest⟩:=hS;exact⟨o,es,ep,t,k o ho,rest⟩
 have tG:qW prog w (s.heap.push (qK w)) r zs:=up hR λ o e=>mQ r o e
 have u7:(s.heap.push (qK w)).get? s.heap.objs.size=some (qK w):=Yy _ rfl;refine Vl (Vm ?_);refine Vl (Qr ?_);unfold Builtin.Frozenset.updateFrom;refine Vl (qad (tG.typeIs (s:={ s with heap:=s.heap.push (qK w) })) ?_);simp only[V1];show wpAny _ _ (Builtin.Frozenset.merge _ s.heap.objs.size r) _ _ _
 unfold Builtin.Frozenset.merge;obtain⟨o,es,ep,t,ho,hex,hd,hp,nd,hb,hf,hl,p8⟩:=id tG;refine Vl (Uh ho hd hf ?_);refine qlH (s:={ s with heap:=s.heap.push (qK w) }) (Vz (Qx lY)) u7 tG hn λ us h2 hu l7 hU=>?_
 have W2:∀ b o,s.heap.get? b=some o->h2.get? b=some o:=λ b o e=>(l7.2 b (Qx (Qw e))).trans (mQ b o e)
 refine Vm ?_;refine Vl (Vm ?_);refine Vl (Qr ?_);have mW:qW prog w h2 l ys:=up hL λ o e=>W2 l o e
 refine qb7 (s:={ s with heap:=h2 }) (Vz (Qx mP)) mW hU ?_ λ vs h3 d sE hs3 hV=>?_
 ·have:=hu.length_eq
  have oO:(2048:Nat)<scanBound:=by decide
  omega
 ·refine Vm (Vm ⟨_,rfl,(λ e=>by cases e),?_⟩);refine h vs h3 d ?_ (λ x=>?_) (λ b o e=>(hs3.2 b (Qx (Qw e))).trans (W2 b o e)) hV
  ·obtain⟨_,_,_,_,_,_,_,_,nd,_⟩:=hV;exact nd
  ·rw[sE x,hu.mem_iff]
end
section
variable {X:Cx}
def qpd(P:Program)(w:World):R2:=λ x y H Q=>∃ a b ys zs,x=.ref a/\y=.ref b/\H a=some (qeH P w a ys)/\H b=some (qeH P w b zs)/\ys.length<1024/\zs.length<1024 /\
 ∀ l us,H l=none->us.Nodup->(∀ x,x∈us ↔ ((x∈ys/\x∉zs)∨(x∈zs/\x∉ys)))->Q (.ref l) (upd H l (qeH P w l us))
theorem qjK:OpR X (binaryOp .BitXor) (qpd X.prog X.w):=by
 intro pins s σ H x y v u Q I rx ry h;obtain⟨a,b,ys,zs,rfl,rfl,ha,hb,hn,hm,q⟩:=h;cases rx
 cases ry
 obtain⟨o0,hy,bM⟩:=I.set ha;obtain⟨zs',hz,fZ⟩:=I.set hb;refine qoc bM fZ (by rw[hz.length_eq];exact hm) (by rw[hy.length_eq];exact hn) λ us h' d nd hm hk hU=>?_
 have hf:=I.hok.fresh (Vd s.heap.objs.size);refine⟨.ref s.heap.objs.size,_,I.call' (s':={ s with heap:=h',drawn:=d }) (ch:=[]) rfl (Un.laid hk (Vd _) hf) (I.hok.laid hk (Vd _) (qhI (Jw us) hU)) I.bare (λ _ z=>nomatch z),rfl,q _ us hf nd λ x=>?_⟩;rw[hm x,hy.mem_iff,hz.mem_iff];exact Or.comm
end
namespace F
theorem qaE:Slot "reversed" "__init__" "object.__init__":=
 .of (owner:="object") (n:="__init__") (by rw[Jq,Yk];kernel_rfl) (by decide +kernel) (by decide +kernel) (by decide +kernel)
  (by first|exact .inl (by decide +kernel)|exact .inr (by decide +kernel)) (by rw[Qb];kernel_rfl)
theorem called_reversed:TypeCalled "reversed" "reversed.__new__" "object.__init__":=
 ⟨by decide +kernel,by decide +kernel,⟨_,_,PySem.F.mro_reversed⟩,PySem.F.made_reversed,by decide +kernel,by rw[Qb];kernel_rfl,qaE⟩
theorem no_str_reversed:typeLookup (.type "str") "__reversed__"=pure none:=by rw[Jq,Yk];kernel_rfl
theorem sub_str_dict:isSubtype (.type "str") (.type "dict")=pure false:=by rw[Qb];kernel_rfl
theorem slot_reversed_next:Slot "reversed" "__next__" "reversed.__next__":=
 .of (owner:="reversed") (n:="__next__") (by rw[Jq,Yk];kernel_rfl) (by decide +kernel) (by decide +kernel) (by decide +kernel)
  (by first|exact .inl (by decide +kernel)|exact .inr (by decide +kernel)) (by rw[Qb];kernel_rfl)
theorem entry_reversed_next:entryFor table "reversed.__next__"=some Builtin.«reversed.__next__»:=entryFor_of_fast (by kernel_rfl)
theorem args_reversed_next_1(a:Value):argsOk "reversed.__next__" ⟨[a],[]⟩:=by unfold argsOk;kernel_rfl
theorem slot_reversed_iter:Slot "reversed" "__iter__" "reversed.__iter__":=
 .of (owner:="reversed") (n:="__iter__") (by rw[Jq,Yk];kernel_rfl) (by decide +kernel) (by decide +kernel) (by decide +kernel)
  (by first|exact .inl (by decide +kernel)|exact .inr (by decide +kernel)) (by rw[Qb];kernel_rfl)
theorem entry_reversed_iter:entryFor table "reversed.__iter__"=some Builtin.«dict_keyiterator.__iter__»:=
 Qc (id':="dict_keyiterator.__iter__") (by kernel_rfl) (by first | rfl | decide +kernel) (by decide +kernel) (by kernel_rfl)
theorem args_reversed_iter_1(a:Value):argsOk "reversed.__iter__" ⟨[a],[]⟩:=by unfold argsOk;kernel_rfl
theorem boot_reversed:bootBuiltins "reversed"=some (.type "reversed"):=by decide +kernel
end F
section
variable {prog:Program}{w:World}{A:Around}{E:Value->Shared->Prop}{s:Shared}
noncomputable abbrev qdK(z:Str)(t:Tok)(i:Int):Obj:={ cls:=.type "reversed",data:=.fields #[.str z t,.int i 0] }
theorem qb8(z:Str)(t:Tok)(hz:z.length<=sizeLine):MeetsIn prog w (Builtin.«reversed.__new__» ⟨[.type "reversed",.str z t],[]⟩)
  (λ _ R s=>∀ tk,R (.ok (.ret (.ref s.heap.objs.size))) { s with heap:=s.heap.push (qdK z t ((z.length:Int)-1)),toks:=tk }):=
 .of_wp λ A R s h=>by
  have hn:=vR;unfold Builtin.«reversed.__new__»;refine Vl (Vi (newClass_reversed _) ?_)
  try dsimp only
  refine Vl (Vi (a:=()) (by first|rfl|kernel_rfl) ?_);refine Vl (Vi (a:=()) (by first|rfl|kernel_rfl) ?_)
  try dsimp only
  refine Vl (Jo (Vo s z t) F.no_str_reversed ?_)
  try dsimp only
  refine Vl ?_;show wpAny _ _ (isInstance (.str z t) (.type "dict") >>= _) _ _ s
  refine Vl (Uy (Vo s z t) F.sub_str_dict ?_);simp only[Zl,Vv];refine Vl (Jo (Vo s z t) slot_str_getitem.lookup ?_)
  try dsimp only
  refine Jr (λ _=>Vm ?_) (λ A1=>absurd (by decide +kernel) A1);simp only[Qn,Zl,Vv];refine Vl (len_str (by omega) ?_);refine Vl (Vm ?_);dsimp only;refine Vl (m:=newObj (.type "reversed") (.fields #[.str z t,rawInt ((z.length:Int)-1)])) (Ub ?_);exact Vm ⟨_,rfl,h _⟩
theorem qbh(hz:z.length<=sizeLine)(h:∀ tk,Q (.ref s.heap.objs.size) { s with heap:=s.heap.push (qdK z t ((z.length:Int)-1)),toks:=tk }):
  wpAny (model prog w) A (call (.type "reversed") [.str z t]) Q E s:=
 callType_newIn F.called_reversed (by decide) (PySem.F.typeCall_reversed_1 _) (PySem.F.newCall_reversed_1 _) (λ obj=>PySem.F.args_object_init_2 obj _) PySem.F.entry_reversed_new (qb8 z t hz)
  λ tk=>⟨⟨_,Yy _ rfl,rfl⟩,h tk⟩
theorem qjL{i:Nat}(n9:s.heap.get? I=some (qdK z t (i:Int)))(hz:z.length<=sizeLine)(hc:z.cps[i]?=some c)(hQ:∀ h' tk u,h'.get? I=some (qdK z t ((i:Int)-1))->Heap.SameBut I s.heap h'->Q (some (.str ⟨#[c]⟩ u)) { s with heap:=h',toks:=tk }):wpAny (model prog w) A (pyNext (.ref I)) Q E s:=by
 have hT:s.TypeIs (.ref I) "reversed":=⟨_,n9,rfl⟩;have hn:=vR;have hil:i<z.length:=(Array.getElem?_eq_some_iff.mp hc).1;unfold pyNext;refine Vl (Qu (XF (name:=Str.ofString "__next__") hT F.slot_reversed_next
  (Uz F.slot_reversed_next hT F.entry_reversed_next ?_ (F.args_reversed_next_1 _))))
 unfold Builtin.«reversed.__next__»;refine Vl (Vi (a:=(Value.ref I,[])) rfl ?_)
 try dsimp only
 refine Vl (Vj n9 rfl (x:=.str z t) rfl ?_);refine Vl (Vj n9 rfl (x:=.int (i:Int) 0) rfl ?_);dsimp only;rw[V5 (by omega)];refine Vl (Jo (Vo s z t) slot_str_getitem.lookup ?_);simp only[Option.isNone_some,Zl,Vv];refine Vl (wpAny_mkInt ?_);refine Vl (Qu (getItem_str (c:=c) (by
  have e1:decide ((i:Int) < -(2^63:Int))=false:=Jl (by omega);have e2:decide ((i:Int) ≥ 2^63)=false:=Jl (by omega);rw[e1,e2,Qm]) (by
   have e:seqIndex? (i:Int) z.length=some i:=by
    have e1:(if (i:Int)<0 then(i:Int)+(z.length:Int) else(i:Int))=(i:Int):=V5 (by omega);unfold seqIndex?;dsimp only;rw[e1,V4 (by
     rw[Uq];exact⟨Qa (by omega),Qa (by omega)⟩),Zv]
   rw[e];exact hc) ?_))
 dsimp only;refine Vl (Vj n9 rfl (x:=.int (i:Int) 0) rfl ?_);dsimp only;refine Vl (Zs n9 (by simp) λ h1 M3 V9=>?_);refine Vm ⟨_,rfl,Vm (hQ h1 _ _ ?_ V9)⟩;rw[M3];rfl
theorem qjM(hh:A.handled=none)(n9:s.heap.get? I=some (qdK z t (-1)))(hQ:∀ h',Heap.ExtBut I s.heap h'->Q none { s with heap:=h' }):wpAny (model prog w) A (pyNext (.ref I)) Q E s:=by
 have hT:s.TypeIs (.ref I) "reversed":=⟨_,n9,rfl⟩;unfold pyNext;refine Vl (Qu (XF (name:=Str.ofString "__next__") hT F.slot_reversed_next
  (Uz F.slot_reversed_next hT F.entry_reversed_next ?_ (F.args_reversed_next_1 _))))
 unfold Builtin.«reversed.__next__»;refine Vl (Vi (a:=(Value.ref I,[])) rfl ?_)
 try dsimp only
 refine Vl (Vj n9 rfl (x:=.str z t) rfl ?_);refine Vl (Vj n9 rfl (x:=.int (-1) 0) rfl ?_);dsimp only;rw[V4 (by decide)];refine Vl (Vq ?_);refine Vl ?_;refine Vl (m:=setField (.ref I) 1 (rawInt (-1))) (Zs n9 (by simp) λ h1 M3 V9=>?_);refine wpAny_setField M3 rfl (by simp) ?_;refine Vl ?_;show wpAny _ _ (newExc (.type "StopIteration") [] >>= _) _ _ _
 refine Vl ?_;simp only[newExc,newTuple];refine Vl (Ub ?_ (by size_fits));refine Vl (m:=firstArgMember _ _) (Vi (a:=Value.none) (by first|rfl|(simp only[firstArgMember];rfl)) ?_);refine Ub ?_ (by size_fits);simp only[raiseNew];refine Vl (wpAny_handled ?_)
 first|rw[show A.in1.handled=none from hh]|rw[hh]
 refine Vl (Vm (wpAny_throw ?_));refine Vl (Uy (T:="StopIteration") (b:=true) ⟨_,Yy _ rfl,rfl⟩ Qe ?_);exact Vm (hQ _ ((((V9.trans (Y3 ..))).extBut.push _).push _))
theorem qc1(n9:s.heap.get? I=some (qdK z t i))(h:Q (.ref I) s):wpAny (model prog w) A (pyIter (.ref I)) Q E s:=by
 have hT:s.TypeIs (.ref I) "reversed":=⟨_,n9,rfl⟩;refine wpAny_pyIter_slot hT F.slot_reversed_iter (Uz F.slot_reversed_iter hT F.entry_reversed_iter ?_ (F.args_reversed_iter_1 _));show wpAny _ _ (ret (.ref I)) _ _ s
 exact Vm ⟨_,rfl,"reversed",_,hT,F.slot_reversed_next.lookup,h⟩
noncomputable def qjN(z:Str)(i:Nat):V:=.str ⟨#[z.cps.getD (z.length-1-i) 0]⟩
theorem Walks.rev(hh:A.handled=none)(I:Addr)(z:Str)(t:Tok)(hz:z.length<=sizeLine):
  Walks prog w A I [I] [I] z.length (λ i v=>qS (qjN z i) v) (λ i h=>h.get? I=some (qdK z t ((z.length:Int)-1-i))) where
 sub:=λ _ hb=>hb
 frame:=λ _ _ _ st hk=>hk I (by simp) _ st
 item:=λ i s Q E hi st hQ=>by
  have e:(z.length:Int)-1-i=((z.length-1-i:Nat):Int):=by omega
  rw[e] at st;have c8:z.length-1-i<z.cps.size:=by show _<z.length;omega
  refine qjL st hz (c:=z.cps.getD (z.length-1-i) 0) ?_ λ h' tk u E7 B2=>?_
  ·rw[Xf,Xq c8];rfl
  ·refine hQ _ h' tk ⟨u,rfl⟩ ?_ λ b o hb e=>B2.extBut b o (λ h=>hb (by simp[h])) e
   rw[E7];congr 1
   have:((z.length-1-i:Nat):Int)-1=(z.length:Int)-1-((i+1:Nat):Int):=by omega
   rw[this]
 done:=λ s Q E st hQ=>by
  have e:(z.length:Int)-1-(z.length:Nat)=-1:=by omega
  rw[e] at st;exact qjM hh st λ h' fS=>hQ h' s.toks λ b o hb e=>fS b o (λ h=>hb (by simp[h])) e
 self:=λ _ _ _ _ st hQ=>qc1 st hQ
end
section
variable {X:Cx}
def qpe(ta:TA):TI:=λ σ H R=>ta σ H λ vs H1=>∃ z,vs=[.str z]/\z.length<=sizeLine/\R (ItV z.length (qjN z)) H1
theorem qm9{tg l:Expr}{ta:TA}{p pos:Pos}(hg:Gl X "reversed")(hm:X.mg "reversed"=none)(ha:PA X [l] ta)(hs:starEach [l] X.env=[(false,eval l X.env)]:=by rfl):
  PI X tg (.Call (.Name "reversed" p) [l] [] pos) (qpe ta):=by
 intro pins s σ H R I h;refine qcS hg hm F.boot_reversed ha I h (λ us s1 vs H1 I1 r1 q1=>?_) (hs:=hs);obtain⟨z,rfl,hz,q⟩:=q1;obtain⟨u,rfl,ru⟩:=yk r1;obtain⟨t,rfl⟩:=ru;refine qbh hz λ tk=>?_
 have u7:(s1.heap.push (qdK z t ((z.length:Int)-1))).get? s1.heap.objs.size=some (qdK z t ((z.length:Int)-1)):=Yy _ rfl;refine qc1 u7 ⟨s1.heap.objs.size,[s1.heap.objs.size],_,_,H1,rfl,I1.kept (t':=tk) λ b o e=>XG _ e,
  qaB (qjN z) (λ A hA=>Walks.rev hA _ z t hz) (λ i v h=>h) (λ i h st=>⟨_,_,_,st,rfl,rfl,by decide⟩) (λ _ _ _ _ _ st h=>qc1 st h),?_,λ b hb=>?_,q⟩
 ·show(s1.heap.push _).get? _=some (qdK z t ((z.length:Int)-1-((0:Nat):Int)))
  rw[u7];congr 1;rw[show((0:Nat):Int)=0 from rfl,Int.sub_zero]
 ·have e:b=s1.heap.objs.size:=by simpa using hb
  subst e;exact I1.fpOk (Vd _) (I1.hok.fresh (Vd _))
end
namespace F
theorem lk_list_keys:typeLookup (.type "list") "keys"=pure none:=by rw[Jq,Yk];kernel_rfl
theorem entry_dict_update_loop:entryFor table "dict.update.loop"=some Builtin.«dict.update.loop»:=entryFor_of_fast (by kernel_rfl)
theorem plain_dict_update_loop:plainId "dict.update.loop"=true:=by decide +kernel
theorem boot_dict:bootBuiltins "dict"=some (.type "dict"):=by decide +kernel
end F
section
variable {prog:Program}{w:World}{A:Around}{E:Value->Shared->Prop}{s:Shared}
theorem qiz(hx:s.heap.get? a=some o)(hc:o.cls=.type "list")(sV:o.data=.seq xs k)(hd:o.dict=none)(hA:A.handled=none)(h:∀ h' tk,(∀ b o,s.heap.get? b=some o->h'.get? b=some o)->Q none { s with heap:=h',toks:=tk }):wpAny (model prog w) A (getAttr? (.ref a) "keys") Q E s:=by
 obtain⟨c,dct,dat,sl⟩:=o;simp only at hc sV hd;subst hc sV hd;obtain⟨hp,g,d,tk,os⟩:=s;have hT:∀ P9,(⟨hp,g,d,P9,os⟩:Shared).TypeIs (.ref a) "list":=λ _=>⟨_,hx,rfl⟩
 have f1:=sub_AttributeError;have f3:=PySem.F.slot_list_getattribute.lookup;have f4:=PySem.F.slot_list_getattribute.bind (.ref a);have f5:=am_list_getattr_none;have hsz:("keys":Str).length+100<=sizeLine:=by decide
 unfold getAttr? getAttrBy? getAttrBy
 repeat (any_goals (first | assumption | exact hT _ | ((with_reducible show wpAny _ _ (call (Value.builtin "list.__getattribute__") _ _) _ _ _);refine Vp PySem.F.slot_list_getattribute (hT _) am_entry_list_getattribute (PySem.F.args_list_getattribute_2 _ _) (meets_getattribute_miss_list a xs k sl "keys" _ F.lk_list_keys (by decide +kernel) hsz) ⟨hx,hA,λ h' P9 e t7=>?_⟩) | wp_step))
 obtain⟨t',u',he⟩:=t7.there;show wpAny _ _ (getattributeRaised _ _ _ _ _ _ _) _ _ _
 unfold getattributeRaised
 repeat (any_goals (first|assumption|wp_step))
 exact h _ _ t7.keeps
noncomputable def kvK(l:List (Str×V)):List (Key×V):=l.map λ x=>(.inr x.1,x.2)
theorem qbW(a b:List (Key×V))(x:Key×V):qH a (b++[x])=jb (qH a b) x.1 x.2:=by
 unfold qH;rw[Z5];rfl
theorem qiA{s0:Shared}(hh:A.handled=none)(hlI:l≠I)(hDI:D≠I)(hDl:D≠l)(hn:items.size=qJ.length)(hsz:qJ.length<=sizeLine)(hp:∀(j:Nat) kv,qJ[j]?=some kv->∃ p its tk u,items[j]?=some (.ref p)/\s0.heap.IsTuple p its/\its=#[.str kv.1 tk,u]/\qS kv.2 u/\p≠D/\p≠I)(hR:∀ s' D4,s'.os=s0.os->s'.gens=s0.gens->s'.drawn=s0.drawn->(∀ b o,b≠D->b≠I->s0.heap.get? b=some o->s'.heap.get? b=some o)->s'.heap.DictOf (qw prog w) D D4->KV (qH [] (kvK qJ)) D4->R (.ok (.ret .none)) s'):
  ∀(k i:Nat)(s:Shared)(D4:List (Key×Value))(ti:Tok),qJ.length-i=k->i<=qJ.length->s.os=s0.os->s.gens=s0.gens->s.drawn=s0.drawn->(∀ b o,b≠D->b≠I->s0.heap.get? b=some o->s.heap.get? b=some o)->s.heap.IsListIter I l i->s.heap.IsList l items ->
   s.heap.DictOf (qw prog w) D D4->KV (qH [] (kvK (qJ.take i))) D4->D4.length<=i->codeAny (model prog w) A (.builtin "dict.update.loop" ⟨[.ref D,.ref I,.int i ti,.none],[]⟩) R s:=by
 intro k;induction k with
 |zero =>
  intro i s D4 ti hk hi e1 e2 e3 aW n9 hl hD P0 fV;have cK:i=qJ.length:=by omega
  subst cK;refine Jp F.entry_dict_update_loop ?_;rw[Yo F.plain_dict_update_loop _];unfold Builtin.«dict.update.loop»;refine Vl ((Walks.list (A:=A.in1) (by simpa using hh) I l hlI items).done s _ _ (by rw[hn];exact⟨n9,hl⟩) λ h' tk K2=>?_);show wpAny _ _ (Builtin.Dict.addKeywords D [] >>= _) _ _ _
  refine Vl (Vm (Vm ?_));refine hR _ D4 e1 e2 e3 (λ b o P8 S0 e=>K2 b o (by simpa using S0) (aW b o P8 S0 e)) ?_ (by rw[Ut] at P0;exact P0);obtain⟨o,es,ep,ho,rest⟩:=hD;exact⟨o,es,ep,K2 D o (by simpa using hDI) ho,rest⟩
 |succ k ih =>
  intro i s D4 ti hk hi e1 e2 e3 aW n9 hl hD P0 fV;have c8:i<qJ.length:=by omega
  refine Jp F.entry_dict_update_loop ?_;rw[Yo F.plain_dict_update_loop _];unfold Builtin.«dict.update.loop»;refine Vl ((Walks.list (A:=A.in1) (by simpa using hh) I l hlI items).item i s _ _ (by omega) ⟨n9,hl⟩ λ v h1 tk hP B9 K2=>?_);obtain⟨p,its,P9,u,ei,hT,rfl,ru,hpD,hpI⟩:=hp i qJ[i] (Xy c8);have ev:v=.ref p:=by rw[ei] at hP;exact(Option.some.inj hP).symm
  subst ev;obtain⟨ot,iI,xE,nt,fU⟩:=hT;have rZ:h1.get? p=some ot:=K2 p ot (by simpa using hpI) (aW p ot hpD hpI iI);have hD1:h1.DictOf (qw prog w) D D4:=by
   obtain⟨o,es,ep,ho,rest⟩:=hD;exact⟨o,es,ep,K2 D o (by simpa using hDI) ho,rest⟩
  refine Vl (Qr ?_);refine Vl (wpAny_tryCatch ?_);unfold Builtin.Dict.pairItems;refine Vl (Vb (T:="tuple") ⟨ot,rZ,xE⟩ ?_);simp only[show(Value.type "tuple" == Value.type "list")=false by decide,show(Value.type "tuple" == Value.type "tuple")=true by decide,Bool.or_true,Ql,V1];refine Vl (Qf rZ fU ?_);refine Vm ?_;show wpAny _ _ (holding _ (dictSet D (.str qJ[i].1 P9) u)) _ _ _
  refine Qr (wpAny_dictSet_pairs (hsz:=by omega) (k:=.inr qJ[i].1) (zv prog w _ P9) hD1 λ h2 M4 l7=>?_);refine Vm ⟨Qt F.plain_dict_update_loop _,?_⟩;refine ih (i+1) { s with heap:=h2,toks:=tk+1 } (stored D4 (.inr qJ[i].1) u) 0 (by omega) c8 e1 e2 e3 (λ b o P8 S0 e=>(l7.2 b P8).trans (K2 b o (by simpa using S0) (aW b o P8 S0 e))) ?_ ?_ M4 ?_ ?_
  ·exact B9.1.at λ o e=>(l7.2 I (Vz hDI)).trans e
  ·exact B9.2.at λ o e=>(l7.2 l (Vz hDl)).trans e
  ·have et:qJ.take (i+1)=qJ.take i++[qJ[i]]:=by rw[J4,Xy c8];rfl
   rw[et];unfold kvK;rw[Ja,Qj,Q1,qbW];exact P0.put _ ru
  ·have:=P0.length
   have h2:=(P0.put (.inr qJ[i].1) ru).length;rw[<- h2];have h3:=yl (qH [] (kvK (qJ.take i))) (.inr qJ[i].1) qJ[i].2;omega
end
section
variable {X:Cx}
theorem qbX:∀{xs:List α}{l:List β},Paired F xs l->∀(k:Nat)(b:β),l[k]?=some b->∃ a,xs[k]?=some a/\F a b
 |_,_,.nil,k,b,h=>by simp at h
 |_,_,.cons r t,0,b,h=>by simp at h;subst h;exact⟨_,rfl,r⟩
 |_,_,.cons r t,k+1,b,h=>by
  obtain⟨a,h1,h2⟩:=qbX t k b (by simpa using h);exact⟨a,by simpa using h1,h2⟩
def qna(K:W.Frag):List V->Hp->VK->Prop:=λ xs H Q=>∃(p:Addr)(ps:List Addr)(qJ:List (Str×V)),xs=[.ref p]/\SqL K H p (ps.map V.ref)/\Paired (λ a kv=>SqT K H a [.str kv.1,kv.2]) ps qJ /\
 ∀ d,H d=none->Q (.ref d) (upd H d (.dK (qH [] (kvK qJ))))
theorem qfJ(hc:X.calm=true):y9 X (.type "dict") (qna X.K):=by
 intro pins s σ H xs us Q I r h;obtain⟨l,ps,qJ,rfl,hq,aS,q⟩:=h;obtain⟨u,rfl,ru⟩:=yk r;cases ru
 obtain⟨its,rv,⟨ol,nl,hol,fV,hdl,wS⟩,hz⟩:=I.list hq;have hA:=I.ok.hd hc;have mP:l<s.heap.objs.size:=Qw hol;have c7:ps.length=qJ.length:=aS.length;have hits:its.length=qJ.length:=by rw[<- rv.length,U3];exact c7
 have hsz:qJ.length<=sizeLine:=by rw[U3] at hz;omega
 refine callType_codes (Q₁:=λ obj s₁=>obj=.ref s.heap.objs.size/\s₁={ s with heap:=s.heap.push { cls:=.type "dict",data:=.dict #[] } }) PySem.F.kt_called_dict (PySem.F.kt_typeCall_dict_1 _) PySem.F.entry_dict_init (kt_code_dict_new _ ⟨rfl,rfl⟩) ?_;rintro obj s₁ ⟨rfl,rfl⟩;have u7:(s.heap.push { cls:=.type "dict",data:=.dict #[] }).DictOf (qw X.prog X.w) s.heap.objs.size []:=Heap.DictOf.new s.heap;refine⟨u7.typeIs,PySem.F.args_dict_init_2 _ _,?_⟩;unfold Builtin.«dict.__init__»;refine Vl ?_;unfold Builtin.Dict.selfAndRest;refine Vl (wpAny_notOrdered_dict u7.typeIs ?_);show wpAny _ _ (pure (s.heap.objs.size,[Value.ref l])) _ _ _
 refine Vm ?_;show wpAny _ _ (Builtin.Dict.updateFrom "dict.__init__" s.heap.objs.size (.ref l) [] .none) _ _ _
 unfold Builtin.Dict.updateFrom;have mH:(s.heap.push { cls:=.type "dict",data:=.dict #[] }).get? l=some ol:=XG _ hol;refine Vl (Vb (T:="list") ⟨ol,mH,fV⟩ ?_);rw[V4 (by decide)];refine Vl (qiz (s:={ s with heap:=s.heap.push { cls:=.type "dict",data:=.dict #[] } }) mH fV wS hdl (by simpa using hA) λ h2 pC W2=>?_);simp only[Option.isNone_none,V1];refine Vl (Vq ?_);have sA:h2.get? l=some ol:=W2 l ol mH;have L5:h2.IsList l its.toArray:=⟨ol,sA,fV,nl,wS⟩;have M4:h2.DictOf (qw X.prog X.w) s.heap.objs.size []:=by
  obtain⟨o,es,ep,ho,rest⟩:=u7;exact⟨o,es,ep,W2 _ o ho,rest⟩
 have cP:s.heap.objs.size<h2.objs.size:=by
  obtain⟨o,es,ep,ho,rest⟩:=M4;exact Qw ho
 have hllt:l<h2.objs.size:=Qw sA;refine Vl (Ua (s:={ s with heap:=h2,toks:=pC }) L5 ?_);refine Vm ⟨Qt F.plain_dict_update_loop _,?_⟩;have oK:∀ b o,s.heap.get? b=some o->(h2.push { cls:=.type "list_iterator",data:=.fields #[.ref l,.int 0 0] }).get? b=some o:=λ b o e=>XG _ (W2 b o (XG _ e))
 refine qiA (A:=X.A.in1) (I:=h2.objs.size) (l:=l) (D:=s.heap.objs.size) (items:=its.toArray) (qJ:=qJ) (s0:={ s with heap:=h2.push { cls:=.type "list_iterator",data:=.fields #[.ref l,.int 0 0] },toks:=pC })
  (by simpa using hA) (Qx hllt) (Qx cP) (Q0 mP) (by rw[Zu];exact hits) hsz ?_ ?_ qJ.length 0 _ [] 0 (by omega) (Ve _) rfl rfl rfl (λ b o _ _ e=>e) ?_ ?_ ?_ (by rw[J5];exact .nil) (Vd _)
 ·intro j kv hkv;obtain⟨p,rY,hT⟩:=qbX aS j kv hkv;obtain⟨tis,rt,pt,_⟩:=I.tuple hT;obtain⟨u1,u2,e2,r1,r2⟩:=qdS rt;obtain⟨t1,rfl⟩:=r1;subst e2;obtain⟨ot,iI,xE,nt,fU⟩:=pt;have rW:p<s.heap.objs.size:=Qw iI;obtain⟨v,hv,rvv⟩:=rv.get (i:=j) (x:=.ref p) (by rw[Zt,rY];rfl);cases rvv
  refine⟨p,_,t1,u2,by simpa using hv,⟨ot,oK p ot iI,xE,nt,fU⟩,rfl,r2,Qx rW,Qx (Nat.lt_trans rW cP)⟩
 ·intro s' D4 e1 e2 e3 aW hD P0;refine⟨rfl,?_⟩;have hf:=I.hok.fresh (Vd s.heap.objs.size);have sK:∀ b o,s.heap.get? b=some o->s'.heap.get? b=some o:=λ b o e=>aW b o (Qx (Qw e)) (Qx (Nat.lt_trans (Qw e) cP)) (oK b o e)
  have hmz:(qH [] (kvK qJ)).length<=sizeLine:=by
   have gen:∀(ls c9:List (Key×V)),(qH c9 ls).length<=c9.length+ls.length:=by
    intro ls;induction ls with
    |nil=>intro c9;exact Vd _
    |cons x ls ih =>
     intro c9;show(qH (jb c9 x.1 x.2) ls).length<=_
     have:=ih (jb c9 x.1 x.2)
     have h3:=yl c9 x.1 x.2;rw[Uj];omega
   have:=gen (kvK qJ) []
   have e:(kvK qJ).length=qJ.length:=by unfold kvK;rw[U3]
   simp at this;omega
  refine⟨.ref s.heap.objs.size,_,I.call' (s':=s') (ch:=[]) e1 (Un.laid sK (Vd _) hf) (I.hok.laid sK (Vd _) (qcE hmz (Zb.mpr (Vz (Qx I.big))) P0 hD)) (by rw[e2];exact I.bare) (λ _ z=>nomatch z),rfl,q _ hf⟩
 ·exact⟨_,Yy _ rfl,rfl,rfl⟩
 ·exact L5.push _
 ·obtain⟨o,es,ep,ho,rest⟩:=M4;exact⟨o,es,ep,XG _ ho,rest⟩
theorem qbY{σ:St}{pos:Pos}(S:CompScope X NY o caps scope)(I2:Inv X pins σ H2 s2)(G9:∀ b∈fp,jF X pins H2 b)(l0:tn 0 s2.heap)(Wk:∀ C,Walk (zq X NY scope C s2 H2 fp pins) tg fp it tn adv stop)(ht:∀ C,PTs (zq X NY scope C s2 H2 fp pins) A3 tt)(he:∀ C,PE (zq X NY scope C s2 H2 fp pins) D3 te)(h:vb o caps adv stop tt te σ H2 Q)(fin:∀(s4:Shared)(H3:Hp)(m:Str->Option Value),s4.heap.Ns (s2.heap.objs.size+1) m->Inv X pins σ H3 s4->H3 (s2.heap.objs.size+1)=none->Q (.ref s2.heap.objs.size) H3->R (.ok .next) s4):
  wpAny (model X.prog X.w) X.A (newList []) (λ c9 s₃=>wpAny (model X.prog X.w) X.A (newFunctionEnv scope X.env.globals (va X.env scope.names []) [] X.env.qual none .none (some X.env)) (λ T3 s₄ =>
   c9=.ref s2.heap.objs.size/\T3.locals=s2.heap.objs.size+1/\codeAny (model X.prog X.w) X.A (.compStart (.ListComp D3 [⟨tg,iter,A3,0⟩] scope pos) 0 (.ref it) c9 { T3 with scope:=relabel scope X.env }) R s₄) X.xe s₃) X.xe s2:=by
 refine Ub (wpAny_newFunctionEnv S.nocell (by intro y hy;simp at hy) (λ h₁ hns₁ L3₁=>?_) S.kind);dsimp only at hns₁ L3₁ ⊢;have hC:(s2.heap.push { cls:=.type "list",dict:=none,data:=.seq ([]:List Value).toArray }).objs.size=s2.heap.objs.size+1:=Ju _ _;rw[hC] at hns₁ L3₁ ⊢;have w4:∀ b ob,s2.heap.get? b=some ob->h₁.get? b=some ob:=λ b ob e =>
  (L3₁.2 b (Qx (Z0 (Qw e)))).trans (XG _ (XG _ e))
 have hD:∃ n,h₁.get? s2.heap.objs.size=some { cls:=.type "list",data:=.seq ([]:List Value).toArray n }:=
  ⟨_,(L3₁.2 _ (Qx (Uk _))).trans (XG _ (Yy _ rfl))⟩
 have aZ:H2 s2.heap.objs.size=none:=I2.hok.fresh (Vd _);obtain⟨W,⟨m0,w0⟩,turn⟩:=h _ aZ;have lM:=(Wk 0).obj 0 s2.heap l0;have I4:=qfy S I2 G9 (λ b hb=>(lM b hb).imp λ _ q=>q.1) (hns:=hns₁) w4 hD (s2.toks+([]:List (Str×Value)).length);have pD:tn 0 h₁:=(Wk 0).keep _ _ _ l0 λ b _ ob e=>w4 b ob e
 have fr4:∀ b∈fp,upd H2 s2.heap.objs.size (.lst []) b=none:=λ b hb=>by
  obtain⟨ob,e,_⟩:=lM b hb;rw[qv (Qx (Qw e))];exact(G9 b hb).1
 have loop:codeAny (model X.prog X.w) X.A (.compLoop (.ListComp D3 [⟨tg,iter,A3,0⟩] scope pos) 0 (.ref it) (.ref s2.heap.objs.size) (compEnvC scope (va X.env scope.names []) (s2.heap.objs.size+1) X.env))
   R { s2 with heap:=h₁,toks:=s2.toks+([]:List (Str×Value)).length }:=by
  have Wk:=Wk (s2.heap.objs.size+1);have ht:=ht (s2.heap.objs.size+1);have he:=he (s2.heap.objs.size+1);generalize hY:zq X NY scope (s2.heap.objs.size+1) s2 H2 fp pins=Y at Wk ht he I4;have nC:∀{H':Hp},(∀ b∈fp,H' b=none)->∀ b∈fp,jF Y [] H' b:=λ{H'} hn b hb=>by
   subst hY;obtain⟨ob,e,_⟩:=lM b hb;have k:=I4.ok.exf b hb;refine⟨hn b hb,k.1,I4.ok.exfs b hb,.inl hb,k.2,λ p hp=>?_⟩;have x8:p∈X.pn++pins:=by
    have:p∈(X.pn++pins)++[]:=hp
    simpa using this
   exact(G9 b hb).2.2.2.2.2 p x8
  refine qa9 (λ n s'=>∃ i ys H',Inv Y [] (stY o caps σ) H' s'/\tn i s'.heap/\(∀ b∈fp,H' b=none)/\W i n ys H') ?_ m0 ⟨0,[],_,I4,pD,fr4,w0⟩;rintro n s3 ⟨i,ys,H3,I3,G5,cV,w3⟩;have eE:Y.xe=λ _ _=>False:=by subst hY;rfl
  have ePw:Y.prog=X.prog/\Y.w=X.w/\Y.A=X.A/\Y.env=compEnvC scope (va X.env scope.names []) (s2.heap.objs.size+1) X.env:=by subst hY;exact⟨rfl,rfl,rfl,rfl⟩
  obtain⟨eP,ew,eA,ee⟩:=ePw;rw[<- eP,<- ew,<- eA,<- ee,<- eE];rcases turn i n ys H3 w3 with⟨stp,qn⟩|av
  ·refine thn (Wk.done i [] s3 _ H3 I3 (nC cV) G5 stp) λ r s4 ⟨hr,I5⟩=>?_
   subst hr;obtain⟨m,hn,_⟩:=id I5.loc;have eC:Y.env.locals=s2.heap.objs.size+1:=by rw[ee];rfl
   rw[eC] at hn;have u:=I5.base;have mI:=I5.hok;have B4:=I5.free;rw[eC] at B4;have cM:=I5.bare;have hos:=I5.os;subst hY;have hs:Heap.SameBut (s2.heap.objs.size+1) s4.heap s4.heap:=⟨rfl,λ _ _=>rfl⟩;have u2:Un (frs X.stack) fp H2 H3 s2.heap s4.heap:=Un.but u hs (Vg _);have mJ:HOk X.prog X.w H3 s4.heap:=HOk.but mI hs B4;refine fin s4 H3 m hn ?_ B4 qn;obtain⟨hh,g,d,t,pJ⟩:=s4;obtain rfl:pJ=s2.os:=hos;exact Inv.call (s:=s2) (h':=hh) (g':=g) (d':=d) (t':=t) (ch:=fp) I2 u2 mJ cM λ b hb=>⟨(G9 b hb).2.2.2.1,(G9 b hb).2.1,(G9 b hb).2.2.2.2.1,(G9 b hb).2.2.2.2.2⟩
  ·refine thn (Wk.item i [] s3 _ H3 _ I3 (nC cV) G5 av) λ r s4 ⟨u,hr,h4⟩=>?_
   subst hr;refine thn h4 λ _ s5 h5=>thn h5 λ _ s6 ⟨σ6,H6,I6,⟨kp,q6⟩,bU,fr6⟩=>?_
   have I6':=I6.pinned (fp:=fp) (nC fr6) (Wk.obj _ _ bU);refine thn (ht _ s6 σ6 H6 _ I6' q6) λ b s7 ⟨H7,I7,q7⟩=>?_
   cases b with
   |false =>
    obtain⟨m',hm,w7⟩:=q7;obtain⟨J1,J2,J3⟩:=ym (tg:=tg) (tn:=tn) (i:=i+1) (Wk.obj _ _ bU) (λ h' k=>Wk.keep _ _ _ bU k) I7;exact⟨m',hm,i+1,ys,H7,J1.weak kp.2.symm kp.get,J2,J3,w7⟩
   |true =>
    refine thn (he _ s7 σ6 H7 _ I7 q7) λ y s8 ⟨yv,H8,I8,r8,hD8,oC,m',hm,w8⟩=>?_
    refine thn (zV (X:=Y) _ s8 σ6 H8 (.ref s2.heap.objs.size) [yv] _ _ (λ v H'=>v=.non/\H'=upd H8 s2.heap.objs.size (.lst (ys++[yv]))) I8 rfl (.cons r8 .nil) ⟨_,ys,yv,rfl,rfl,hD8,oC,rfl,rfl⟩) λ v s9 ⟨_,H9,I9,_,_,e9⟩=>?_
    subst e9;obtain⟨J1,J2,J3⟩:=ym (tg:=tg) (tn:=tn) (i:=i+1) (Wk.obj _ _ bU) (λ h' k=>Wk.keep _ _ _ bU k) I9;exact⟨m',hm,i+1,ys++[yv],_,J1.weak kp.2.symm kp.get,J2,J3,w8⟩
 exact⟨rfl,rfl,codeAny_compStart_list loop ((Wk 0).self _ 0 _ _ _ pD loop)⟩
theorem qbi{σ:St}{Q:St->Hp->Prop}{R:Flow->Shared->Prop}(I2:Inv X pins σ H2 s2)(hN:X.N.Nodup)(hi:X.N[i]?=some x)(hx:X.env.scope.names.lookup x=some .local)(hR:∀ s H,Inv X pins (σ.set i (some (.ref s2.heap.objs.size))) H s->Q (σ.set i (some (.ref s2.heap.objs.size))) H->R .next s)(hn:s4.heap.Ns (s2.heap.objs.size+1) m)(I4:Inv X pins σ H3 s4)(hf:H3 (s2.heap.objs.size+1)=none)(q:Q (σ.set i (some (.ref s2.heap.objs.size))) H3):
  wpAny (model X.prog X.w) X.A (assign (.Name x p7) X.env (.ref s2.heap.objs.size)) (λ _ L8=>∃ m,L8.heap.Ns (s2.heap.objs.size+1) m/\∀ h',Heap.SameBut (s2.heap.objs.size+1) L8.heap h'->R .next { L8 with heap:=h' }) X.xe s4:=by
 have hCL:s2.heap.objs.size+1≠X.env.locals:=Q0 (Z0 I2.lt);have O6:∀ y c,X.env.cells.lookup y=some c->c≠s2.heap.objs.size+1:=λ y c e=>by
  obtain⟨v,o,ho,_⟩:=I2.cell y c e;exact Qx (Z0 (Qw ho))
 refine wpAny_assign_Name (qdR (v:=.ref s2.heap.objs.size) I4 hN hi (.inl hx) rfl (λ s5 I5 L3=>?_) (.inr hx));obtain⟨a,sb,ha⟩:=L3;have hCa:s2.heap.objs.size+1≠a:=by
  rcases ha with e|e
  ·rw[e];exact hCL
  ·exact Vz (O6 x a e)
 refine⟨m,hn.sameBut sb hCa,λ h' hs=>hR _ H3 ?_ q⟩;refine I5.turned (it:=s2.heap.objs.size+1) (t':=s5.toks) (λ b o hb e=>(hs.2 b hb).trans e) hf hCL (.inr (Z6 I2.sz)) O6 λ p hp=>?_
 obtain⟨e,_⟩:=I2.pin p hp;exact Qx (Z0 (Qw e))
theorem qbj{i:Nat}{x:Str}{p7 pos:Pos}{D3 iter tg:Expr}{A3:List Expr}{scope:Scope}{cpos:Pos}{NY:List Str}{o:Nat}{caps:List Nat}{wi:TI}{g:TG}{tt:TT}{te:TE}(hN:X.N.Nodup)(hi:X.N[i]?=some x)(hx:X.env.scope.names.lookup x=some .local)(S:CompScope X NY o caps scope)(hc:X.calm=true)(n9:PI X tg iter wi)(hg:∀ C s H fp pins,PG (zq X NY scope C s H fp pins) tg g)(ht:∀ C s H fp pins,PTs (zq X NY scope C s H fp pins) A3 tt)(he:∀ C s H fp pins,PE (zq X NY scope C s H fp pins) D3 te)(hsw:swapsWith (.ListComp D3 [⟨tg,iter,A3,0⟩] scope cpos) (some (.Name x p7)) pos.line X.env=pure true:=by rfl)(hs:∀ x,foldedSetIterable iter X.env x=pure x:=by intro _;rfl):PS X (.Assign [.Name x p7] (.ListComp D3 [⟨tg,iter,A3,0⟩] scope cpos) pos) (qjb (qmx o caps wi g tt te) (vI i)):=by
 intro pins s σ H D I h;rw[exec_Assign_Name_used _ _ _ _ hsw];refine Vl (Qs (Vl ?_));refine Vl (X4 (env:=X.env) (use:=some (assign (.Name x p7) X.env)) (g:=⟨tg,iter,A3,0⟩) (gs:=[]) rfl hs (yK λ y hy e=>I.ok.has _ (S.frees y hy e)) S.kind S.locs ?_);refine thn (n9 pins s σ H _ I h) λ v s1 h1=>thn h1 λ eY s2 h2=>?_
 obtain⟨it,fp,tn,J,H2,e,I2,T,l0,f2,hr⟩:=h2;subst e;refine thn (qbY (iter:=iter) (pos:=cpos) (R:=λ r s'=>r=.ok .next/\wpAny (model X.prog X.w) X.A (assign (.Name x p7) X.env (.ref s2.heap.objs.size)) (λ _ L8=>∃ m,L8.heap.Ns (s2.heap.objs.size+1) m/\∀ h',Heap.SameBut (s2.heap.objs.size+1) L8.heap h'->SP X pins D .next { L8 with heap:=h' }) X.xe s')
  S I2 f2 l0 (λ C=>Turn.walk (Y:=zq X NY scope C s2 H2 fp pins) hc T (hg _ _ _ _ _)) (λ C=>ht _ _ _ _ _) (λ C=>he _ _ _ _ _) hr λ s4 H3 m hn I4 hf q=>⟨rfl,qbi (Q:=D.nx) (R:=SP X pins D) I2 hN hi hx (λ s H I q=>⟨_,H,I,q⟩) hn I4 hf q⟩) λ c9 s3 h3=>thn h3 λ T3 s4 h4=>?_
 obtain⟨rfl,eC,h4⟩:=h4;refine Va h4 λ r s5 ⟨er,h5⟩=>?_
 subst er;show wpAny _ _ (assign (.Name x p7) X.env (.ref s2.heap.objs.size)) _ _ s5
 rw[eC];refine thn h5 λ _ s6 ⟨m,hn,h6⟩=>⟨m,hn,λ h' B2=>?_⟩
 exact Vm (Vm (h6 h' B2))
theorem qjO{i:Nat}{x:Str}{p7 pos:Pos}{D3 iter:Expr}{es:List Expr}{k n:Nat}{p4:Pos}{A3:List Expr}{scope:Scope}{cpos:Pos}{NY:List Str}{o:Nat}{caps:List Nat}{wi:TI2}{t:TGs}{tt:TT}{te:TE}(hN:X.N.Nodup)(hi:X.N[i]?=some x)(hx:X.env.scope.names.lookup x=some .local)(S:CompScope X NY o caps scope)(hc:X.calm=true)(n9:PI2 X (.Tuple es k p4) iter wi)(hg:∀ C s H fp pins,PGs (zq X NY scope C s H fp pins) es t)(hn:∀ env,(assignEach es env).length=n)(B9:∀ env,(assignEach es env).findIdx? (·.1)=none)(ht:∀ C s H fp pins,PTs (zq X NY scope C s H fp pins) A3 tt)(he:∀ C s H fp pins,PE (zq X NY scope C s H fp pins) D3 te)(hsw:swapsWith (.ListComp D3 [⟨.Tuple es k p4,iter,A3,0⟩] scope cpos) (some (.Name x p7)) pos.line X.env=pure true:=by rfl)(hs:∀ x,foldedSetIterable iter X.env x=pure x:=by intro _;rfl):PS X (.Assign [.Name x p7] (.ListComp D3 [⟨.Tuple es k p4,iter,A3,0⟩] scope cpos) pos) (qjb (qjv o caps wi n t tt te) (vI i)):=by
 intro pins s σ H D I h;rw[exec_Assign_Name_used _ _ _ _ hsw];refine Vl (Qs (Vl ?_));refine Vl (X4 (env:=X.env) (use:=some (assign (.Name x p7) X.env)) (g:=⟨.Tuple es k p4,iter,A3,0⟩) (gs:=[]) rfl hs (yK λ y hy e=>I.ok.has _ (S.frees y hy e)) S.kind S.locs ?_);refine thn (n9 pins s σ H _ I h) λ v s1 h1=>thn h1 λ eY s2 h2=>?_
 obtain⟨it,fp,tn,J,H2,e,I2,T,l0,f2,hr⟩:=h2;subst e;refine thn (qbY (iter:=iter) (pos:=cpos) (R:=λ r s'=>r=.ok .next/\wpAny (model X.prog X.w) X.A (assign (.Name x p7) X.env (.ref s2.heap.objs.size)) (λ _ L8=>∃ m,L8.heap.Ns (s2.heap.objs.size+1) m/\∀ h',Heap.SameBut (s2.heap.objs.size+1) L8.heap h'->SP X pins D .next { L8 with heap:=h' }) X.xe s')
  S I2 f2 l0 (λ C=>Turn2.walk (Y:=zq X NY scope C s2 H2 fp pins) hc T (hg _ _ _ _ _) (hn _) (B9 _)) (λ C=>ht _ _ _ _ _) (λ C=>he _ _ _ _ _) hr λ s4 H3 m hn I4 hf q=>⟨rfl,qbi (Q:=D.nx) (R:=SP X pins D) I2 hN hi hx (λ s H I q=>⟨_,H,I,q⟩) hn I4 hf q⟩) λ c9 s3 h3=>thn h3 λ T3 s4 h4=>?_
 obtain⟨rfl,eC,h4⟩:=h4;refine Va h4 λ r s5 ⟨er,h5⟩=>?_
 subst er;show wpAny _ _ (assign (.Name x p7) X.env (.ref s2.heap.objs.size)) _ _ s5
 rw[eC];refine thn h5 λ _ s6 ⟨m,hn,h6⟩=>⟨m,hn,λ h' B2=>?_⟩
 exact Vm (Vm (h6 h' B2))
end
theorem qk.seqT{K:W.Frag}(e:qk H H')(h:SqT K H a xs):SqT K H' a xs:=by
 rcases h with(h|⟨o,h⟩)|h
 ·exact .inl (.inl (e _ _ h))
 ·exact .inl (.inr ⟨o,e _ _ h⟩)
 ·exact .inr h
theorem qk.up(h:H p=none):qk H (upd H p o):=qcV h o
theorem qk.to(s:qk H H1)(h:H1 p=none):qk H (upd H1 p o):=s.trans (qcV h o)
theorem qk.at(s:qk H H1)(h:H p=none):qk H (upd H1 p o):=λ b u q=>by rw[qv (zp q h)];exact s b u q
theorem qgI(frees:List Str)(k:scope.kind=.function)(nd:NY.Nodup)(nc:scope.names.all (λ y=>y.2 != .cell)=true)(lc:scope.names.all (λ y=>y.2 != .local || scope.names.lookup y.1 == some .local)=true)(fr:scope.names.all (λ y=>y.2 != .free || frees.contains y.1)=true)(fk:∀ x∈frees,X.env.kindOf x=some .cell∨X.env.kindOf x=some .free)(cap:∀(j i:Nat),caps[j]?=some i->∃ x,NY[o+j]?=some x/\X.N[i]?=some x/\scope.names.lookup x=some .free)(len:NY.length=o+caps.length):CompScope X NY o caps scope where
 kind:=k
 nd:=nd
 nocell:=λ y hy e=>by have:=Uo.mp nc y hy;rw[e] at this;cases this
 frees:=λ y hy e=>by
  have:=Uo.mp fr y hy
  rw[e] at this;exact fk _ (XY.mp this)
 locs:=λ y hy e=>by
  have:=Uo.mp lc y hy
  rw[e] at this;simpa using this
 capOk:=cap
 len:=len
theorem csc{X:Cx}{NY:List Str}{o:Nat}{caps:List Nat}{scope:Scope}(frees:List Str)(k:scope.kind=.function)(fk:∀ x∈frees,X.env.kindOf x=some .cell∨X.env.kindOf x=some .free)(cap:∀(j i:Nat),caps[j]?=some i->∃ x,NY[o+j]?=some x/\X.N[i]?=some x/\scope.names.lookup x=some .free)(len:NY.length=o+caps.length)(h:NY.Nodup ∧ scope.names.all (λ y=>y.2 != .cell)=true ∧ scope.names.all (λ y=>y.2 != .local || scope.names.lookup y.1 == some .local)=true ∧ scope.names.all (λ y=>y.2 != .free || frees.contains y.1)=true:=by decide +kernel):CompScope X NY o caps scope:=qgI frees k h.1 h.2.1 h.2.2.1 h.2.2.2 fk cap len
theorem y7{X:Cx}{NY:List Str}{scope:Scope}:∀(j i:Nat),([]:List Nat)[j]?=some i->∃ x,NY[o+j]?=some x/\X.N[i]?=some x/\scope.names.lookup x=some .free:=λ j i h=>by simp at h
theorem kq{X:Cx}{NY:List Str}{scope:Scope}(h0:NY[o]?=some x)(h1:X.N[a]?=some x)(h2:scope.names.lookup x=some .free)(hr:∀(j i:Nat),as[j]?=some i->∃ x,NY[o+1+j]?=some x/\X.N[i]?=some x/\scope.names.lookup x=some .free):
  ∀(j i:Nat),(a::as)[j]?=some i->∃ x,NY[o+j]?=some x/\X.N[i]?=some x/\scope.names.lookup x=some .free
 |0,i,h=>by simp at h;subst h;exact⟨x,h0,h1,h2⟩
 |j+1,i,h=>by
  obtain⟨y,q⟩:=hr j i (by simpa using h);exact⟨y,by rw[show o+(j+1)=o+1+j by omega];exact q.1,q.2⟩
theorem qeL(n:Nat)(out:Nat->List V)(h0:out 0=[])(c7:∀ i,i<n->(out i).length<sizeLine)(turn:∀(i:Nat)(H:Hp)(D:Addr)(Y:V->Hp->Prop)(Z:Hp->Prop),i<n->H1 D=none->H D=some (.lst (out i))->qk H1 H ->
   (∀ y H4,H4 D=some (.lst (out i))->qk H1 H4->out (i+1)=out i++[y]->Y y H4)->(∀ H3,H3 D=some (.lst (out i))->qk H1 H3->out (i+1)=out i->Z H3) ->
   adv i (stY o caps σ) H λ σ2 H2=>Kp o (stY o caps σ) σ2/\tt σ2 H2 λ b H3=>if b=true then te σ2 H3 Y else Z H3)(stp:∀ H,qk H1 H->stop n H)(fin:∀(D:Addr)(H:Hp),H1 D=none->qk H1 H->H D=some (.lst (out n))->Q (.ref D) H):vb o caps adv stop tt te σ H1 Q:=by
 intro D hD;refine⟨λ i m ys H=>m=n-i/\i<=n/\ys=out i/\H D=some (.lst (out i))/\qk H1 H,⟨n,by simp,Ve _,h0.symm,by rw[h0];exact qd,qk.up hD⟩,?_⟩;rintro i m ys H ⟨rfl,hi,rfl,hH,sm⟩;by_cases c8:i<n
 ·refine .inr (turn i H D _ _ c8 hD hH sm (λ y H4 e1 e2 e3=>⟨e1,c7 i c8,n-(i+1),by omega,rfl,c8,e3.symm,by rw[e3];exact qd,e2.at hD⟩) (λ H3 e1 e2 e3=>⟨n-(i+1),by omega,rfl,c8,e3.symm,by rw[e3];exact e1,e2⟩))
 ·have e:i=n:=by omega
  subst e;exact .inl ⟨stp H sm,fin D H hD sm hH⟩
theorem ye(n:Nat)(R:Nat->List V->Hp->Prop)(h0:∀ D,H1 D=none->R 0 [] (upd H1 D (.lst [])))(c7:∀ i ys H,i<n->R i ys H->ys.length<sizeLine)(turn:∀(i:Nat)(ys:List V)(H:Hp)(D:Addr)(Y:V->Hp->Prop)(Z:Hp->Prop),i<n->H1 D=none->H D=some (.lst ys)->qk H1 H->R i ys H ->
   (∀ y H4,H4 D=some (.lst ys)->qk H1 H4->R (i+1) (ys++[y]) (upd H4 D (.lst (ys++[y])))->Y y H4)->(∀ H3,H3 D=some (.lst ys)->qk H1 H3->R (i+1) ys H3->Z H3) ->
   adv i (stY o caps σ) H λ σ2 H2=>Kp o (stY o caps σ) σ2/\tt σ2 H2 λ b H3=>if b=true then te σ2 H3 Y else Z H3)(stp:∀ H,qk H1 H->stop n H)(fin:∀(D:Addr)(H:Hp)(ys:List V),H1 D=none->qk H1 H->H D=some (.lst ys)->R n ys H->Q (.ref D) H):vb o caps adv stop tt te σ H1 Q:=by
 intro D hD;refine⟨λ i m ys H=>m=n-i/\i<=n/\H D=some (.lst ys)/\qk H1 H/\R i ys H,⟨n,by simp,Ve _,qd,qk.up hD,h0 D hD⟩,?_⟩;rintro i m ys H ⟨rfl,hi,hH,sm,r⟩;by_cases c8:i<n
 ·refine .inr (turn i ys H D _ _ c8 hD hH sm r (λ y H4 e1 e2 e3=>⟨e1,c7 i ys H c8 r,n-(i+1),by omega,rfl,c8,qd,e2.at hD,e3⟩) (λ H3 e1 e2 e3=>⟨n-(i+1),by omega,rfl,c8,e1,e2,e3⟩))
 ·have e:i=n:=by omega
  subst e;exact .inl ⟨stp H sm,fin D H ys hD sm hH r⟩
section
variable {K:W.Frag}{o:Nat}{caps:List Nat}{g:TG}{tg:TGs}{tt:TT}{te:TE}{σ:St}{H1:Hp}{Q:VK}
abbrev qjP(o:Nat)(caps:List Nat)(σ:St)(tt:TT)(te:TE)(Y:V->Hp->Prop)(Z:Hp->Prop):St->Hp->Prop:=λ σ2 H2=>Kp o (stY o caps σ) σ2/\tt σ2 H2 λ b H3=>if b=true then te σ2 H3 Y else Z H3
theorem qbE(hx:SqL K H1 a xs)(out:Nat->List V)(h0:out 0=[])(c7:∀ i,i<xs.length->(out i).length<sizeLine)(turn:∀(i:Nat)(x:V)(H:Hp)(D:Addr)(Y:V->Hp->Prop)(Z:Hp->Prop),xs[i]?=some x->H1 D=none->H D=some (.lst (out i))->qk H1 H ->
   (∀ y H4,H4 D=some (.lst (out i))->qk H1 H4->out (i+1)=out i++[y]->Y y H4)->(∀ H3,H3 D=some (.lst (out i))->qk H1 H3->out (i+1)=out i->Z H3)->g x (stY o caps σ) H (qjP o caps σ tt te Y Z))(fin:∀(D:Addr)(H:Hp),H1 D=none->qk H1 H->H D=some (.lst (out xs.length))->Q (.ref D) H):vb o caps (qhF (Itl K a) g) (Itl K a).stop tt te σ H1 Q:=
 qeL xs.length out h0 c7 (λ i H D Y Z hi hD hH sm hy hz=>⟨⟨xs,xs[i],sm.seq hx,Xy hi⟩,λ x H' ⟨e,t7⟩=>by subst e;exact turn i x _ D Y Z (t7 xs (sm.seq hx)) hD hH sm hy hz⟩) (λ H sm=>⟨xs,sm.seq hx,Vd _⟩) fin
theorem qc2(out:Nat->List V)(h0:out 0=[])(c7:∀ i,i<n->(out i).length<sizeLine)(turn:∀(i:Nat)(H:Hp)(D:Addr)(Y:V->Hp->Prop)(Z:Hp->Prop),i<n->H1 D=none->H D=some (.lst (out i))->qk H1 H ->
   (∀ y H4,H4 D=some (.lst (out i))->qk H1 H4->out (i+1)=out i++[y]->Y y H4)->(∀ H3,H3 D=some (.lst (out i))->qk H1 H3->out (i+1)=out i->Z H3)->g (val i) (stY o caps σ) H (qjP o caps σ tt te Y Z))(fin:∀(D:Addr)(H:Hp),H1 D=none->qk H1 H->H D=some (.lst (out n))->Q (.ref D) H):vb o caps (qhF (ItV n val) g) (ItV n val).stop tt te σ H1 Q:=
 qeL n out h0 c7 (λ i H D Y Z hi hD hH sm hy hz=>⟨hi,λ x H' ⟨e,ex⟩=>by subst e ex;exact turn i _ D Y Z hi hD hH sm hy hz⟩) (λ H sm=>rfl) fin
theorem qeM(hx:SqL K H1 a xs)(hy:SqL K H1 b ys)(hl:xs.length=ys.length)(out:Nat->List V)(h0:out 0=[])(c7:∀ i,i<xs.length->(out i).length<sizeLine)(turn:∀(i:Nat)(x y:V)(H:Hp)(D:Addr)(Y:V->Hp->Prop)(Z:Hp->Prop),xs[i]?=some x->ys[i]?=some y->H1 D=none->H D=some (.lst (out i))->qk H1 H ->
   (∀ y H4,H4 D=some (.lst (out i))->qk H1 H4->out (i+1)=out i++[y]->Y y H4)->(∀ H3,H3 D=some (.lst (out i))->qk H1 H3->out (i+1)=out i->Z H3)->tg [x,y] (stY o caps σ) H (qjP o caps σ tt te Y Z))(fin:∀(D:Addr)(H:Hp),H1 D=none->qk H1 H->H D=some (.lst (out xs.length))->Q (.ref D) H):vb o caps (qgC (ItZ K a b) 2 tg) (ItZ K a b).stop tt te σ H1 Q:=
 qeL xs.length out h0 c7 (λ i H D Y Z hi hD hH sm rH hz=>⟨⟨xs,ys,xs[i],ys[i]'(by omega),sm.seq hx,sm.seq hy,Xy hi,Xy (by omega)⟩,λ zs H' ⟨e,x,y,ez,t7,hy''⟩=>by
  subst e ez;exact⟨rfl,turn i x y _ D Y Z (t7 xs (sm.seq hx)) (hy'' ys (sm.seq hy)) hD hH sm rH hz⟩⟩) (λ H sm=>⟨xs,ys,sm.seq hx,sm.seq hy,.inl (Vd _)⟩) fin
end
theorem zi(h:n<=100000):n<sizeLine:=Zi h (by decide)
theorem qB(h:n<=100000):n<=sizeLine:=Qz (zi h)
theorem vk{Q:VK}(e:x=y)(h:Q y H):Q x H:=e ▸ h
theorem ql{α β:Type}{f:α->β}{l:List α}{i:Nat}{y:β}(h:(l.map f)[i]?=some y):∃ x,l[i]?=some x/\y=f x:=by
 rw[Zt] at h;cases e:l[i]? with
 |none=>rw[e] at h;cases h
 |some x=>rw[e] at h;exact⟨x,rfl,(Option.some.inj h).symm⟩
theorem ze{α:Type}{l:List α}{x:α}(h:l[i]?=some x):l.take (i+1)=l.take i++[x]:=by rw[J4,h];rfl
theorem yf{α β:Type}{f:α->β}{l:List α}{x:α}(h:l[i]?=some x):(l.take (i+1)).map f=(l.take i).map f++[f x]:=by rw[ze h,Ja];rfl
theorem vg{α β γ:Type}{f:α->β->γ}{as:List α}{bs:List β}{i:Nat}{a:α}{b:β}(h1:as[i]?=some a)(h2:bs[i]?=some b):(List.zipWith f as bs)[i]?=some (f a b):=by
 rw[Yd,h1,h2]
theorem yi{α:Type}{l:List α}{x:α}(h:l[i]?=some x):i<l.length:=(Xn.mp h).1
theorem qeN(a b:Bool):(!decide (V.bl a=V.bl b))=(a != b):=by cases a <;> cases b <;> rfl
theorem jO(a b:List Nat):qi a++qi b=qi (a++b):=by
 show(⟨a.toArray++b.toArray⟩:Str)=⟨(a++b).toArray⟩
 rw[List.append_toArray]
theorem qD(a:List Nat):(qi a).length=a.length:=by
 show a.toArray.size=a.length
 simp
theorem yX(F:List (List Nat)):Txt.join ("":Str) (F.map qi)=qi F.flatten:=by
 show(⟨((F.map qi).drop 1).foldl (λ c9 p=>c9++("":Str).cps++p.cps) ((F.map qi).headD Str.empty).cps⟩:Str)=qi F.flatten
 have e0:("":Str).cps=#[]:=by decide
 rw[e0];have gen:∀(G:List (List Nat))(c9:Array Nat),(G.map qi).foldl (λ c9 p=>c9++#[]++p.cps) c9=c9++(G.flatten).toArray:=by
  intro G;induction G with
  |nil=>intro c9;simp
  |cons g G ih =>
   intro c9;rw[Qj,U8,ih,Zw];show c9++#[]++g.toArray++G.flatten.toArray=c9++(g++G.flatten).toArray
   simp
 cases F with
 |nil=>rfl
 |cons f F =>
  show(⟨(F.map qi).foldl (λ c9 p=>c9++#[]++p.cps) f.toArray⟩:Str)=qi (f++F.flatten)
  rw[gen F f.toArray,List.append_toArray];rfl
theorem zI(F:List (List Nat)):F.map vS=(F.map qi).map V.str:=by rw[Q5];rfl
theorem qc3(F:List (List Nat)):(F.map qi).map cs=F:=by
 rw[Q5]
 have:cs ∘ qi=id:=rfl
 rw[this,List.map_id]
theorem jP(h:qi a=qi b):a=b:=congrArg cs h
theorem kr{F:List (List Nat)}:x∈F.map qi ↔ cs x∈F:=by
 rw[Q4];constructor
 ·rintro⟨a,ha,rfl⟩;exact ha
 ·intro h;exact⟨cs x,h,rfl⟩
theorem yY(F:List (List Nat)):((F.map qi).map (·.length)).sum=F.flatten.length:=by
 induction F with
 |nil=>rfl
 |cons f F ih =>
  rw[Qj,Qj,Qo,ih,qD,Zw,Zh]
theorem qce{F:List (List Nat)}(h1:us.Nodup)(h2:F.Nodup)(h:∀ x,x∈us ↔ cs x∈F):(qbb us).map V.str=(Fs.srt F).map vS:=by
 unfold qbb;rw[zI];have hp:(us.map cs).Perm F:=by
  refine(Xi ?_ h2).mpr λ p=>?_
  ·exact Zz.mpr (h1.imp λ{a b} A1 e=>A1 (qeE e))
  ·rw[Q4];constructor
   ·rintro⟨x,hx,rfl⟩;exact(h x).mp hx
   ·intro hp;exact⟨qi p,(h _).mpr hp,rfl⟩
 rw[Fs.srt_perm_eq hp]
theorem jQ{us:List Str}{F:List (List Nat)}(h1:us.Nodup)(h2:F.Nodup)(h:∀ x,x∈us ↔ cs x∈F):us.length=F.length:=by
 have hp:(us.map cs).Perm F:=by
  refine(Xi ?_ h2).mpr λ p=>?_
  ·exact Zz.mpr (h1.imp λ{a b} A1 e=>A1 (qeE e))
  ·rw[Q4];constructor
   ·rintro⟨x,hx,rfl⟩;exact(h x).mp hx
   ·intro hp;exact⟨qi p,(h _).mpr hp,rfl⟩
 rw[<- hp.length_eq,U3]
end L2
namespace Fs
structure On(ls:List Nat)(F:List Pr):Prop where
 vf:Vf F
 mem:∀ p∈F,∀ c∈p,c∈ls
theorem On.sub(h:On ls F)(hl:ls.Pairwise (·<·)):∀ p∈F,p.Sublist ls:=λ p hp=>vZ hl (h.vf.prod p hp) (h.mem p hp)
theorem On.len(h:On ls F)(hl:ls.Pairwise (·<·)):F.length<=2^ls.length:=by
 rw[<- qN];exact zW h.vf.nodup λ p hp=>zN.mpr (h.sub hl p hp)
theorem qcf:∀{F:List Pr},(∀ p∈F,p.length<=n)->F.flatten.length<=F.length*n
 | [],_=>by simp
 |p::F,h=>by
  rw[Zw,Zh,Uj,Nat.succ_mul];have h1:=h p Ze;have h2:=qcf λ q hq=>h q (Yl _ hq)
  omega
theorem On.flat(h:On ls F)(hl:ls.Pairwise (·<·)):F.flatten.length<=F.length*ls.length:=qcf λ p hp=>(h.sub hl p hp).length_le
theorem On.added{ls:List Nat}{F G:List Pr}(hF:On ls F)(hG:On ls G):On ls (added F G):=⟨qfw hF.vf hG.vf,λ p hp=>by
 rcases vY.mp (jx.mp hp) with h|h
 ·exact hF.mem p h.1
 ·exact hG.mem p h.1⟩
theorem qc4{ls:List Nat}(h:∀ p∈F,∀ c∈p,c∈ls):∀ c∈qg F,c∈ls:=λ c hc=>by
 obtain⟨p,hp,hc⟩:=zm.mp hc;exact h p hp c hc
theorem qfK{ls:List Nat}(hl:ls.Pairwise (·<·))(h:∀ p∈F,∀ c∈p,c∈ls):(qg F).length<=ls.length:=
 (vZ hl (qT F) (qc4 h)).length_le
theorem On.formOf{ls:List Nat}(hl:ls.Pairwise (·<·))(t:List Bool):On ls (formOf ls t):=⟨qbB hl t,λ p hp c hc=>(kc hp).subset hc⟩
theorem On.mult{ls:List Nat}{F G:List Pr}(hF:On ls F)(hG:On ls G):On ls (mult F G):=⟨qhE F G,λ p hp c hc=>by
 have:=(kc hp).subset hc
 refine qc4 (F:=F++G) (λ q hq=>?_) c this;rcases U1.mp hq with h|h
 ·exact hF.mem q h
 ·exact hG.mem q h⟩
theorem On.one(ls:List Nat):On ls [[]]:=⟨qjt,by simp⟩
theorem On.nil(ls:List Nat):On ls []:=⟨qju,by simp⟩
theorem On.opp{ls:List Nat}{F:List Pr}(hF:On ls F):On ls (opp F):=hF.added (On.one ls)
theorem On.join{ls:List Nat}{F G:List Pr}(hF:On ls F)(hG:On ls G):On ls (join F G):=(hF.added hG).added (hF.mult hG)
end Fs
namespace L2
open PySem PySem.Spec PyProof.Rows
section
variable {X:Cx}
def qpf(K:W.Frag):List V->Hp->VK->Prop:=λ xs H Q=>∃(x:V)(T:String),xs=[x,.ty T]/\TyOf K H x (.type T)/\Q (.bl true) H
theorem qjQ:y9 X (.builtin "isinstance") (qpf X.K):=by
 intro pins s σ H xs us Q I r h;obtain⟨x,T,rfl,ty,q⟩:=h;obtain⟨u1,u2,rfl,r1,r2⟩:=qdS r;cases r2
 refine qil (c:=.type T) I r1 ty (b:=true) ?_ λ tk=>⟨.bl true,H,I.tok tk,rfl,q⟩
 unfold W.kitOne;rw[V4 (by simp)]
theorem qae:OpR X (compareOp .In) (λ x y H Q=>∃(c:Nat)(p:List Nat),x=vS [c]/\y=vS p/\Q (.bl (decide (c∈p))) H):=by
 intro pins s σ H x y v u Q I rx ry h;obtain⟨c,p,rfl,rfl,q⟩:=h;refine qif pins s σ H _ _ v u Q I rx ry ⟨_,_,rfl,rfl,?_⟩;rw[show qi [c]=(⟨#[c]⟩:Str) from rfl,empty_one,Bool.not_not];exact q
theorem vh:OpR X (compareOp .NotIn) (λ x y H Q=>∃(c:Nat)(p:List Nat),x=vS [c]/\y=vS p/\Q (.bl (!decide (c∈p))) H):=by
 intro pins s σ H x y v u Q I rx ry h;obtain⟨c,p,rfl,rfl,q⟩:=h;refine qex pins s σ H _ _ v u Q I rx ry ⟨_,_,rfl,rfl,?_⟩;rw[show qi [c]=(⟨#[c]⟩:Str) from rfl,empty_one,Bool.not_not];exact q
def qnb:List V->Hp->VK->Prop:=λ xs H Q=>∃(p:Addr)(kvs:List (Key×V)),xs=[.ref p]/\H p=some (.dK kvs)/\∀ d,H d=none->Q (.ref d) (upd H d (.dK kvs))
theorem qfL:y9 X (.type "dict") qnb:=by
 intro pins s σ H xs us Q I r h;obtain⟨p,kvs,rfl,hp,q⟩:=h;obtain⟨u,rfl,ru⟩:=yk r;cases ru
 obtain⟨hz,hS,vs,rel,dd⟩:=qjm I.hok hp;refine kt_call_dict hS dd (by rw[<- rel.length];exact hz) λ h' bJ hs=>?_
 have hf:=I.hok.fresh (Vd s.heap.objs.size);have hk:∀ b o,s.heap.get? b=some o->h'.get? b=some o:=λ b o e=>(hs.2 b (Qx (Qw e))).trans (XG _ e)
 exact⟨.ref s.heap.objs.size,_,I.laid (a:=s.heap.objs.size) (o:=.dK kvs) (t':=s.toks) hk (Vd _) (qcE hz (Zb.mpr (Vz (Qx I.big))) rel bJ),rfl,q _ hf⟩
end
section
variable {prog:Program}{w:World}{A:Around}{E:Value->Shared->Prop}{s:Shared}{z TI TO i1 i2 l1 l2 S:Addr}{i:Nat}{xs ys:Array Value}
theorem qhK(ho:s.heap.get? a=some o)(h:Q (some o) s):wpAny (model prog w) A (loadIfAlive a) Q E s:=λ _ _ _=>(show Q (s.heap.get? a) s from by rw[ho];exact h)
end
structure Mk0(K:W.Frag)(C:Addr):Prop where
 makes:W.makesIn K C=true
 init:W.findIn K (.ref C) "__init__"=some (some (.builtin "object.__init__"))
 kp:W.keepIn K (.ref C)=true
def qnc(C:Addr):TE:=λ σ H Q=>∀ x dx,H x=none->H dx=none->dx≠x->Q (.ref x) (upd (upd H dx (.own x)) x (.ins C dx []))
theorem qfM{X:Cx}{C:Addr}{x:Str}{p pos:Pos}(M:Mk0 X.K C)(hg:Gl X x)(hm:X.mg x=some (.ref C))(aI:(x == ("__debug__":Str))=false:=by decide):PE X (.Call (.Name x p) [] [] pos) (qnc C):=by
 intro pins s σ H Q I h;refine Zp (qca I hg hm ?_ aI);refine W.callWith_K0 I.kIn M.kp (wpAny_call (qij I.kIn M.makes M.init (λ self=>PySem.W.Looks.of_pure (W.oi_bind self)) ?_));have Y:=W.makes_of (M:=model X.prog X.w) I.kIn M.makes;have hx:((s.heap.push W.emptyDict).push (W.instObj C s.heap.objs.size)).get? (s.heap.objs.size+1)=some (W.instObj C s.heap.objs.size):=by
  rw[<- Ju s.heap W.emptyDict];exact Yy _ rfl
 have t1:PySem.W.Looks (model X.prog X.w) ((s.heap.push W.emptyDict).push (W.instObj C s.heap.objs.size)) (typeOf (.ref (s.heap.objs.size+1))) (.ref C):=(PySem.W.Looks.ld hx).andThen .now;have t2:PySem.W.Looks (model X.prog X.w) ((s.heap.push W.emptyDict).push (W.instObj C s.heap.objs.size)) (isInstance (.ref (s.heap.objs.size+1)) (.type "object")) true:=t1.andThen (Y.top.keeps λ b o e=>XG _ (XG _ e));refine codeAny_call_builtin W.oi_plain W.entry_oi (@W.check_slot (model X.prog X.w) _ _ _ "object.__init__" "object" "__init__" (.ref (s.heap.objs.size+1)) [] [] _ W.oi_kind W.oi_split t2 (W.oi_args _) ?_);rw[W.oi_run];have hq:=h (s.heap.objs.size+1) s.heap.objs.size (I.hok.fresh (Vg _)) (I.hok.fresh (Vd _)) (Qx (Uk _));exact Vm (And.intro rfl ⟨.ref (s.heap.objs.size+1),_,Inv.made (C:=C) I,rfl,hq⟩)
theorem PE.or(h:PE X e t)(h':PE X e u):PE X e (λ σ H Q=>t σ H Q∨u σ H Q):=λ pins s σ H Q I hw=>hw.elim (h pins s σ H Q I) (h' pins s σ H Q I)
theorem qlI(h:qcs k v=true):qS (kV k) v:=by
 rcases zu h with⟨i,t,rfl,rfl⟩|⟨x,t,rfl,rfl⟩
 ·exact⟨t,rfl⟩
 ·exact⟨t,rfl⟩
theorem qbk:∀{xs:List α}{l:List β},Paired F xs l->∀(k:Nat)(a:α),xs[k]?=some a->∃ b,l[k]?=some b/\F a b
 |_,_,.nil,k,a,h=>by simp at h
 |_,_,.cons r t,0,a,h=>by simp at h;subst h;exact⟨_,rfl,r⟩
 |_,_,.cons r t,k+1,a,h=>qbk t k a (by simpa using h)
def qod(wi:TI2)(n:Nat)(t:TGs)(tb:TS):TS:=λ D σ H=>wi σ H λ J H1=>∃ W:Nat->Nat->St->Hp->Prop,(∃ m,W 0 m σ H1)/\∀ i m σ H,W i m σ H ->
 (J.stop i H/\D.nx σ H)∨(J.go i H/\∃ N:St->Hp->Prop,(∀ σ' H',N σ' H'->∃ m',m'<m/\W (i+1) m' σ' H')/\∀ xs H',J.yld i H xs H'->xs.length=n/\t xs σ H' λ σ2 H2=>tb { D with nx:=N,ct:=N,bk:=D.nx } σ2 H2)
theorem qaf{X:Cx}{es:List Expr}{k n:Nat}{p4:Pos}{iter:Expr}{body:List Stmt}{wi:TI2}{t:TGs}{tb:TS}{pos:Pos}(hp:PassesOwn (model X.prog X.w) X.A X.env X.xe)(hc:X.calm=true)(hi:PI2 X (.Tuple es k p4) iter wi)(hg:PGs X es t)(hb:PSs X body tb)(hn:(assignEach es X.env).length=n:=by rfl)(B9:(assignEach es X.env).findIdx? (·.1)=none:=by rfl)(hs:∀ x,foldedSetIterable iter X.env x=pure x:=by intro _;rfl):PS X (.For (.Tuple es k p4) iter body [] pos) (qod wi n t tb):=by
 intro pins s σ H D I h;refine wpAny_For (thn (hi pins s σ H _ I h) λ v s1 h1=>thn h1 λ eY s2 h2=>?_) hs;obtain⟨it,fp,tn,J,H2,e,I2,T,l0,f2,W,⟨m0,w0⟩,turn⟩:=h2;subst e;have R0:∀{H':Hp},(∀ b∈fp,H' b=none)->∀ b∈fp,jF X pins H' b:=λ hn b hb=>⟨hn b hb,(f2 b hb).2⟩
 refine codeAny_forLoop_any (λ n s'=>∃ i σ' H',Inv X pins σ' H' s'/\tn i s'.heap/\(∀ b∈fp,H' b=none)/\W i n σ' H') ?_ m0 ⟨0,σ,H2,I2,l0,λ b hb=>(f2 b hb).1,w0⟩;rintro n' s3 ⟨i,σ3,H3,I3,G5,cV,w3⟩;rcases turn i n' σ3 H3 w3 with⟨stop,qn⟩|⟨go,N,hN,step⟩
 ·refine Jn hp (thn (T.done X rfl rfl rfl hc i pins s3 σ3 H3 X.xe I3 (R0 cV) G5 stop) λ r s4 ⟨hr,I4⟩=>?_);subst hr;exact Jm ⟨σ3,H3,I4,qn⟩
 ·refine Jn hp (thn (T.item X rfl rfl rfl hc i pins s3 σ3 H3 X.xe I3 (R0 cV) G5 go) λ r s4 ⟨p,hr,h4⟩=>?_);subst hr;refine Jn hp (thn h4 λ _ s5 ⟨xs,us,H5,I5,ht,r5,y5,R1,nB⟩=>?_);have I5':=I5.pinned (R0 nB) (T.obj _ _ R1);obtain⟨hl,hw⟩:=step xs H5 y5;refine Jn hp (assign_Tuple_tuple (I5.ok.hd hc) ht (by simp[hn,<- hl,r5.length]) B9 λ h' hx=>?_);have I6:Inv X (pins++vP fp s5.heap) σ3 H5 { s5 with heap:=h' }:=I5'.kept (t':=s5.toks) λ b o e=>hx b o (Qx (Qw e)) e
  refine thn (hg _ _ σ3 H5 xs _ _ I6 (by simpa using r5) hw) λ _ s6 ⟨σ6,H6,I7,q6⟩=>?_
  refine Jn hp (thn (hb _ s6 σ6 H6 _ I7 q6) λ f s7 q7=>?_);have again:∀{σ7:St}{H7:Hp},Inv X (pins++vP fp s5.heap) σ7 H7 s7->N σ7 H7->∃ m,m<n'/\∃ i σ' H',Inv X pins σ' H' s7/\tn i s7.heap/\(∀ b∈fp,H' b=none)/\W i m σ' H':=λ{σ7 H7} I7 n7=>by
   obtain⟨m',hm,w7⟩:=hN σ7 H7 n7;refine⟨m',hm,i+1,σ7,H7,I7.unpinned,T.keep _ _ _ R1 λ b hb o e=>(I7.pin (b,o) (XS _ (XS _ (yB hb e)))).1,λ b hb=>?_,w7⟩;obtain⟨o,e,d⟩:=T.obj _ _ R1 b hb;exact(I7.pin (b,o) (XS _ (XS _ (yB hb e)))).2.1
  cases f with
  |next=>obtain⟨σ7,H7,I7,n7⟩:=q7;exact again I7 n7
  |cont=>obtain⟨σ7,H7,I7,n7⟩:=q7;exact again I7 n7
  |brk=>obtain⟨σ7,H7,I7,q7⟩:=q7;exact⟨σ7,H7,I7.unpinned,q7⟩
  |ret v=>obtain⟨x7,σ7,H7,I7,r7,q7⟩:=q7;exact⟨x7,σ7,H7,I7.unpinned,r7,q7⟩
theorem qjR{K:W.Frag}{t:TGs}{tb:TS}{D:Ends}(Pv:Nat->St->Hp->Prop)(h0:Pv 0 σ H)(hl:∀ i σ H,i<=xs.length->Pv i σ H->SqL K H a xs)(hs:∀ i x σ H,xs[i]?=some x->Pv i σ H->t [.int i,x] σ H λ σ2 H2=>tb { D with nx:=Pv (i+1),ct:=Pv (i+1),bk:=D.nx } σ2 H2)(hd:∀ σ H,Pv xs.length σ H->D.nx σ H):
  ∃ W:Nat->Nat->St->Hp->Prop,(∃ m,W 0 m σ H)/\∀ i m σ H,W i m σ H ->
   ((qit K a).stop i H/\D.nx σ H)∨((qit K a).go i H/\∃ N:St->Hp->Prop,(∀ σ' H',N σ' H'->∃ m',m'<m/\W (i+1) m' σ' H')/\∀ zs H',(qit K a).yld i H zs H'->zs.length=2/\t zs σ H' λ σ2 H2=>tb { D with nx:=N,ct:=N,bk:=D.nx } σ2 H2):=by
 refine⟨λ i m σ H=>m=xs.length-i/\i<=xs.length/\Pv i σ H,⟨xs.length,by simp,Ve _,h0⟩,?_⟩;rintro i m σ H ⟨rfl,hi,p⟩;have q:=hl i σ H hi p;by_cases c8:i<xs.length
 ·refine .inr ⟨⟨xs,xs[i],q,Xy c8⟩,Pv (i+1),λ σ' H' p'=>⟨xs.length-(i+1),by omega,rfl,c8,p'⟩,λ zs H' y=>?_⟩;obtain⟨e,x,ez,hx⟩:=y;subst e ez;exact⟨rfl,hs i x σ _ (hx xs q) p⟩
 ·have e:i=xs.length:=by omega
  subst e;exact .inl ⟨⟨xs,q,Vd _⟩,hd σ H p⟩
end L2
namespace FsS
open PySem PyProof.Rows
noncomputable def ky(κ:KeyKind)(x:Keyed):κ.α:=(κ.keyOf x.1).getD κ.dflt
def Kd(κ:KeyKind)(x:Keyed):Prop:=∃ a,κ.keyOf x.1=some a
theorem Kd.eq(h:Kd κ x):κ.keyOf x.1=some (ky κ x):=by
 obtain⟨a,h⟩:=h;unfold ky;rw[h];rfl
noncomputable def zZ:Bool->Keyed->Array Keyed->Nat->Nat->Nat->StateT SortSt Sem (Option Nat):=sortPriv% PySem.Builtin.gallop
noncomputable def bey(left:Bool)(i9:Keyed)(arr:Array Keyed)(base i:Nat):StateT SortSt Sem (Option Bool):=do
 let x <- elem' arr (base+i)
 if left then lt' x i9 else return (<- lt' i9 x).map (!·)
theorem qiB(left:Bool)(i9:Keyed)(arr:Array Keyed)(base n i6:Nat):zZ left i9 arr base n i6=(do
 let mut u:=0
 let mut v:=1
 let mut p:=0
 let mut q:=0
 let some r <- bey left i9 arr base i6|return none
 if r then
  let m:=n-i6
  for _ in [0:n] do
   if v ≥ m then break
   let some c <- bey left i9 arr base (i6+v)|return none
   if !c then break
   u:=v
   v:=2*v+1
  p:=i6+u+1
  q:=i6+min v m
 else
  let m:=i6+1
  for _ in [0:n] do
   if v ≥ m then break
   let some c <- bey left i9 arr base (i6-v)|return none
   if c then break
   u:=v
   v:=2*v+1
  p:=i6+1-min v m
  q:=i6-u
 for _ in [0:n] do
  if p ≥ q then break
  let c:=p+(q-p) / 2
  let some d <- bey left i9 arr base c|return none
  if d then p:=c+1 else q:=c
 return some q):=rfl
section
variable {prog:Program}{w:World}{A:Around}{E:Value->Shared->Prop}{s:Shared}{κ:KeyKind}
theorem qX{st:SortSt}(h:arr[i]?=some p)(hq:Q p st):wpS (model prog w) A E s (elem' arr i) Q st:=by
 rw[elem'_eq,h];exact Vw hq
theorem qc5(hO:κ.OneLt){st:SortSt}(hk:kindOf st=oneType')(hx:Kd κ x)(hy:Kd κ y)(hq:Q (some (κ.blt (ky κ x) (ky κ y))) st):wpS (model prog w) A E s (lt' x y) Q st:=by
 rw[lt'_eq];refine Vx (V2 ?_);rw[hk,keyLt'_oneType];refine Vx (wpS_lift (Qu (hO prog w A _ s x.1 y.1 _ _ hx.eq hy.eq ⟨rfl,?_⟩)));exact Vw hq
noncomputable def Bt(κ:KeyKind)(left:Bool)(i9 x:Keyed):Bool:=if left then κ.blt (ky κ x) (ky κ i9) else !(κ.blt (ky κ i9) (ky κ x))
theorem qlJ(hO:κ.OneLt){st:SortSt}(hk:kindOf st=oneType')(C8:Kd κ i9)(e:arr[base+i]?=some x)(hx:Kd κ x)(hq:Q (some (Bt κ left i9 x)) st):wpS (model prog w) A E s (bey left i9 arr base i) Q st:=by
 unfold bey;refine Vx (qX e ?_);cases left with
 |true=>exact qc5 hO hk hx C8 hq
 |false=>exact Vx (qc5 hO hk C8 hx (Vw hq))
theorem qgJ{st:SortSt}(B:Nat->Bool)(hb:∀ i,i<n->∀ R:Option Bool->SortSt->Prop,R (some (B i)) st->wpS (model prog w) A E s (bey left i9 arr base i) R st)(mono:∀ i j,i<=j->j<n->B j=true->B i=true)(hn:i6<n)(h:∀ k,k<=n->(∀ i,i<k->B i=true)->(∀ i,k<=i->i<n->B i=false)->Q (some k) st):wpS (model prog w) A E s (zZ left i9 arr base n i6) Q st:=by
 have nS:∀ i j,i<=j->j<n->B i=false->B j=false:=λ i j hij hj hi=>by
  cases hB:B j with
  |false=>rfl
  |true=>rw[mono i j hij hj hB] at hi;exact absurd hi (by simp)
 have fin:∀ p q:Nat,p<=q->q<=n->(∀ i,i<p->B i=true)->(∀ i,q<=i->i<n->B i=false) ->
   wpS (model prog w) A E s (do
    let mut p:=p
    let mut q:=q
    for _ in [0:n] do
     if p ≥ q then break
     let c:=p+(q-p) / 2
     let some d <- bey left i9 arr base c|return none
     if d then p:=c+1 else q:=c
    return some q) Q st:=by
  intro p q fM iH h1 h2;refine Vx (Vy (Vc (I:=λ x c b0=>b0=st/\∃ p q,c=(none,p,q)/\p<=q/\q<=n/\q-p<=n-x/\(∀ i,i<p->B i=true)/\(∀ i,q<=i->i<n->B i=false))
   (Q:=λ c b0=>b0=st/\∃ p q,c=(none,p,q)/\q<=p/\p<=q/\q<=n/\(∀ i,i<p->B i=true)/\(∀ i,q<=i->i<n->B i=false)) ?step ?fin ⟨rfl,p,q,rfl,fM,iH,by omega,h1,h2⟩) ?post)
  case post =>
   rintro c b0 ⟨rfl,p,q,rfl,hqp,fM,iH,h1,h2⟩
   have:p=q:=by omega
   subst this;exact Vw (h p iH h1 h2)
  case fin =>
   rintro c b0 ⟨rfl,p,q,rfl,fM,iH,hm,h1,h2⟩;exact⟨rfl,p,q,rfl,by omega,fM,iH,h1,h2⟩
  case step =>
   rintro x c b0 _ hx ⟨rfl,p,q,rfl,fM,iH,hm,h1,h2⟩;dsimp only;by_cases hge:p ≥ q
   ·rw[V4 hge];exact Vw ⟨rfl,p,q,rfl,hge,fM,iH,h1,h2⟩
   ·rw[V5 hge];refine Vx (hb _ (by omega) _ ?_);cases hB:B (p+(q-p) / 2) with
    |true =>
     simp only[V1];exact Vw ⟨rfl,_,q,rfl,by omega,iH,by omega,λ i hi=>mono i _ (by omega) (by omega) hB,h2⟩
    |false =>
     simp only[Zl,Vv];exact Vw ⟨rfl,p,_,rfl,by omega,by omega,by omega,h1,λ i hi cK=>nS _ i hi cK hB⟩
 rw[qiB];refine Vx (hb i6 hn _ ?_);dsimp only;cases hB:B i6 with
 |true =>
  simp only[V1];refine Vx (Vy (Vc (I:=λ x c b0=>b0=st/\∃ u v,c=(none,u,v)/\u<v/\x<v/\i6+u<n/\B (i6+u)=true)
   (Q:=λ c b0=>b0=st/\∃ u v,c=(none,u,v)/\u<v/\i6+u<n/\B (i6+u)=true/\(n-i6<=v∨(i6+v<n/\B (i6+v)=false))) ?step ?fin ⟨rfl,0,1,rfl,by omega,by omega,by omega,hB⟩) ?post)
  case post =>
   rintro c b0 ⟨rfl,u,v,rfl,cF,aR,hu,hv⟩;refine fin (i6+u+1) (i6+min v (n-i6)) (by omega) (by omega) (λ i hi=>mono i _ (by omega) aR hu) (λ i hi cK=>?_);rcases hv with hv|⟨h1,h2⟩
   ·omega
   ·exact nS _ i (by omega) cK h2
  case fin =>
   rintro c b0 ⟨rfl,u,v,rfl,cF,hxv,aR,hu⟩;exact⟨rfl,u,v,rfl,cF,aR,hu,.inl (by omega)⟩
  case step =>
   rintro x c b0 _ hx ⟨rfl,u,v,rfl,cF,hxv,aR,hu⟩;dsimp only;by_cases hge:v ≥ n-i6
   ·rw[V4 hge];exact Vw ⟨rfl,u,v,rfl,cF,aR,hu,.inl hge⟩
   ·rw[V5 hge];refine Vx (hb _ (by omega) _ ?_);cases hB2:B (i6+v) with
    |true =>
     simp only[Qn,Zl,Vv];exact Vw ⟨rfl,v,_,rfl,by omega,by omega,by omega,hB2⟩
    |false =>
     simp only[Jz,V1];exact Vw ⟨rfl,u,v,rfl,cF,aR,hu,.inr ⟨by omega,hB2⟩⟩
 |false =>
  simp only[Zl,Vv];refine Vx (Vy (Vc (I:=λ x c b0=>b0=st/\∃ u v,c=(none,u,v)/\u<v/\x<v/\u<=i6/\B (i6-u)=false)
   (Q:=λ c b0=>b0=st/\∃ u v,c=(none,u,v)/\u<v/\u<=i6/\B (i6-u)=false/\(i6+1<=v∨(v<=i6/\B (i6-v)=true))) ?step ?fin ⟨rfl,0,1,rfl,by omega,by omega,by omega,hB⟩) ?post)
  case post =>
   rintro c b0 ⟨rfl,u,v,rfl,cF,aR,hu,hv⟩;refine fin (i6+1-min v (i6+1)) (i6-u) (by omega) (by omega) (λ i hi=>?_) (λ i hi cK=>nS _ i hi cK hu);rcases hv with hv|⟨h1,h2⟩
   ·omega
   ·exact mono i _ (by omega) (by omega) h2
  case fin =>
   rintro c b0 ⟨rfl,u,v,rfl,cF,hxv,aR,hu⟩;exact⟨rfl,u,v,rfl,cF,aR,hu,.inl (by omega)⟩
  case step =>
   rintro x c b0 _ hx ⟨rfl,u,v,rfl,cF,hxv,aR,hu⟩;dsimp only;by_cases hge:v ≥ i6+1
   ·rw[V4 hge];exact Vw ⟨rfl,u,v,rfl,cF,aR,hu,.inl hge⟩
   ·rw[V5 hge];refine Vx (hb _ (by omega) _ ?_);cases hB2:B (i6-v) with
    |false =>
     simp only[Zl,Vv];exact Vw ⟨rfl,v,_,rfl,by omega,by omega,by omega,hB2⟩
    |true =>
     simp only[V1];exact Vw ⟨rfl,u,v,rfl,cF,aR,hu,.inr ⟨by omega,hB2⟩⟩
end
structure MI{α:Type}(r:α->α->Prop)(la lb O:List α)(i j:Nat):Prop where
 sa:(O++la.drop i).Pairwise r
 sb:(O++lb.drop j).Pairwise r
 pm:(O++(la.drop i++lb.drop j)).Perm (la++lb)
theorem MI.takeA{r:α->α->Prop}{la lb O:List α}(h:MI r la lb O i j){X:List α}(e:la.drop i=X++la.drop i')(hx:∀ x∈X,∀ y∈lb.drop j,r x y):MI r la lb (O++X) i' j:=by
 have h1:=h.sa;rw[e,<- Zx] at h1;have h2:=Yq.mp h.sb;refine⟨h1,Yq.mpr ⟨(Yq.mp h1).1,h2.2.1,λ x t7 y hy=>?_⟩,?_⟩
 ·rcases U1.mp t7 with hO | hX
  ·exact h2.2.2 x hO y hy
  ·exact hx x hX y hy
 ·have:=h.pm
  rw[e] at this;simpa [Zx] using this
theorem MI.takeB{r:α->α->Prop}{la lb O:List α}(h:MI r la lb O i j){X:List α}(e:lb.drop j=X++lb.drop j')(hx:∀ x∈X,∀ y∈la.drop i,r x y):MI r la lb (O++X) i j':=by
 have h1:=h.sb;rw[e,<- Zx] at h1;have h2:=Yq.mp h.sa;refine⟨Yq.mpr ⟨(Yq.mp h1).1,h2.2.1,λ x t7 y hy=>?_⟩,h1,?_⟩
 ·rcases U1.mp t7 with hO | hX
  ·exact h2.2.2 x hO y hy
  ·exact hx x hX y hy
 ·have:=h.pm
  rw[e] at this;rw[Zx];exact((Xg X (la.drop i) (lb.drop j')).append_left O).trans this
def Gd{α:Type}(r:α->α->Prop)(la lb:List α)(o:List α):Prop:=o.Pairwise r/\o.Perm (la++lb)
theorem MI.endB{r:α->α->Prop}{la lb O:List α}(h:MI r la lb O i j)(e:lb.length<=j):Gd r la lb (O++la.drop i++lb.drop j):=by
 have:=h.sa
 have hp:=h.pm;rw[XM e] at hp ⊢;rw[U4] at hp ⊢;exact⟨this,hp⟩
theorem MI.endA{r:α->α->Prop}{la lb O:List α}(h:MI r la lb O i j)(e:la.length<=i):Gd r la lb (O++la.drop i++lb.drop j):=by
 have:=h.sb
 have hp:=h.pm;rw[XM e] at hp ⊢;rw[U9] at hp;rw[U4];exact⟨this,hp⟩
theorem MI.last{r:α->α->Prop}{la lb O:List α}(h:MI r la lb O i j)(hl:∀ x∈la.drop i,∀ y∈lb,r y x):Gd r la lb (O++lb.drop j++la.drop i):=by
 have ha:=Yq.mp h.sa;refine⟨Yq.mpr ⟨h.sb,ha.2.1,λ x hx y hy=>?_⟩,?_⟩
 ·rcases U1.mp hx with hO | hX
  ·exact ha.2.2 x hO y hy
  ·exact hl y hy x (Yr hX)
 ·rw[Zx];exact((List.perm_append_comm).append_left O).trans h.pm
theorem yn{α:Type}{l:List α}{x:α}(h:l[i]?=some x):l.drop i=[x]++l.drop (i+1):=by
 obtain⟨hi,e⟩:=Xn.mp h;rw[Xt hi,e];rfl
theorem drop_take{α:Type}(l:List α)(i k:Nat):l.drop i=(l.drop i).take k++l.drop (i+k):=by
 have:=(XZ k (l.drop i)).symm
 rwa [J6] at this
abbrev kl(κ:KeyKind)(x y:Keyed):Prop:=κ.kle (ky κ x) (ky κ y)
abbrev So(κ:KeyKind)(l:List Keyed):Prop:=l.Pairwise (kl κ)
section
variable {prog:Program}{w:World}{A:Around}{E:Value->Shared->Prop}{s:Shared}{κ:KeyKind}
theorem qlK(h:kl κ x y)(hy:Bt κ left i9 y=true):Bt κ left i9 x=true:=by
 cases left with
 |true=>exact KeyOrd.klt_of_kle_of_klt h hy
 |false =>
  have rH:κ.blt (ky κ i9) (ky κ y)=false:=by simpa [Bt] using hy
  have:κ.kle (ky κ x) (ky κ i9):=Uu h rH
  show(!(κ.blt (ky κ i9) (ky κ x)))=true
  rw[show κ.blt (ky κ i9) (ky κ x)=false from this];rfl
theorem BtF(h:Bt κ false i9 x=true):kl κ x i9:=by
 have:κ.blt (ky κ i9) (ky κ x)=false:=by simpa [Bt] using h
 exact this
theorem qnd(h:Bt κ false i9 x=false):kl κ i9 x:=by
 have:κ.blt (ky κ i9) (ky κ x)=true:=by simpa [Bt] using h
 exact Z7 this
theorem BtT(h:Bt κ true i9 x=true):kl κ x i9:=Z7 h
theorem qlL(h:Bt κ true i9 x=false):kl κ i9 x:=h
theorem yo(hO:κ.OneLt){st:SortSt}(dM:List Keyed)(es:(arr.toList.drop base).take n=dM)(hk:kindOf st=oneType')(C8:Kd κ i9)(hs:base+n<=arr.size)(hd:∀ x∈dM,Kd κ x)(so:So κ dM)(hn:i6<n)(h:∀ k,k<=n->(∀ x∈dM.take k,Bt κ left i9 x=true)->(∀ x∈dM.drop k,Bt κ left i9 x=false)->Q (some k) st):wpS (model prog w) A E s (zZ left i9 arr base n i6) Q st:=by
 have ln:dM.length=n:=by rw[<- es,Ul,Um,Yx];omega
 have at_:∀ i,(hi:i<n)->arr[base+i]?=some (dM[i]'(by omega)):=λ i hi=>by
  have:dM[i]?=some (dM[i]'(by omega)):=Xy _
  rw[<- this,<- es,Xw hi,Zm,XX]
 refine qgJ (λ i=>if hi:i<n then Bt κ left i9 (dM[i]'(by omega)) else false) ?_ ?_ hn ?_
 ·intro i hi R hR;rw[V3 hi] at hR;exact qlJ hO hk C8 (at_ i hi) (hd _ (Ur _)) hR
 ·intro i j hij hj hB;rw[V3 hj] at hB;rw[V3 (by omega)];rcases Q7 i j with c8 | hge
  ·exact qlK (Xu.mp so i j (by omega) (by omega) c8) hB
  ·have:i=j:=by omega
   subst this;exact hB
 ·intro k mQ h1 h2;refine h k mQ (λ x hx=>?_) (λ x hx=>?_)
  ·obtain⟨i,hi,rfl⟩:=Y2 hx;rw[Ul] at hi
   have:=h1 i (by omega)
   rw[V3 (by omega)] at this;rw[Z8];exact this
  ·obtain⟨i,hi,rfl⟩:=Y2 hx;rw[Um] at hi
   have:=h2 (k+i) (by omega) (by omega)
   rw[V3 (by omega)] at this;rw[List.getElem_drop];exact this
end
noncomputable abbrev vi(st:SortSt)(g:Nat):SortSt:=SortSt.mk' (kindOf st) (arrOf st) (pendingOf st) g (failedOf st)
abbrev SM:=StateT SortSt Sem
noncomputable def qc6:Array Keyed->Array Keyed->SM (Array Keyed):=sortPriv% PySem.Builtin.mergeLo
noncomputable def qiC(g:Nat):SM Unit:=modify λ st=>vi st g
noncomputable def kt(a b o:Array Keyed)(i j:Nat):Array Keyed:=o++a.extract i a.size++b.extract j b.size
noncomputable def qeO(a b o:Array Keyed)(i j:Nat):Array Keyed:=o++b.extract j b.size++a.extract i a.size
abbrev C1:=Option (Array Keyed)×Array Keyed×Nat×Nat×Nat×Nat
abbrev C2:=Option (Array Keyed)×Array Keyed×Nat×Nat×Nat×Nat×Nat
abbrev C0:=Option (Array Keyed)×Array Keyed×Nat×Nat×Nat
noncomputable def lo3(a b o:Array Keyed)(i j g p q:Nat):SM (ForInStep C2):=do
 let x <- elem' a i
 if i+1+1 == a.size then pure (.done (some (qeO a b (o.push x) (i+1) j),o.push x,i+1,j,g,p,q))
 else if p<7 && q<7 then pure (.done (none,o.push x,i+1,j,g,p,q))
 else pure (.yield (none,o.push x,i+1,j,g,p,q))
noncomputable def lo2(a b o:Array Keyed)(i j g p q:Nat):SM (ForInStep C2):=do
 let x <- elem' b j
 if j+1 == b.size then pure (.done (some (kt a b (o.push x) i (j+1)),o.push x,i,j+1,g,p,q))
 else do
  let y <- elem' a i
  let c <- zZ true y b (j+1) (b.size-(j+1)) 0
  match c with
  |some k =>
   if k > 0 then
    if j+1+k == b.size then pure (.done (some (kt a b (o.push x++b.extract (j+1) (j+1+k)) i (j+1+k)),o.push x++b.extract (j+1) (j+1+k),i,j+1+k,g,p,k))
    else lo3 a b (o.push x++b.extract (j+1) (j+1+k)) i (j+1+k) g p k
   else lo3 a b (o.push x) i (j+1) g p k
  |_=>pure (.done (some (kt a b (o.push x) i (j+1)),o.push x,i,j+1,g,p,q))
noncomputable def lo1(a b o:Array Keyed)(i j g p q:Nat):SM (ForInStep C2):=do
 qiC g
 let x <- elem' b j
 let c <- zZ false x a i (a.size-i) 0
 match c with
 |some k =>
  if k > 0 then
   if i+k+1 == a.size then pure (.done (some (qeO a b (o++a.extract i (i+k)) (i+k) j),o++a.extract i (i+k),i+k,j,g,k,q))
   else if i+k == a.size then pure (.done (some (kt a b (o++a.extract i (i+k)) (i+k) j),o++a.extract i (i+k),i+k,j,g,k,q))
   else lo2 a b (o++a.extract i (i+k)) (i+k) j g k q
  else lo2 a b o i j g k q
 |_=>pure (.done (some (kt a b o i j),o,i,j,g,p,q))
noncomputable def lo0(a b:Array Keyed)(g:Nat)(r:C1):SM (ForInStep C1):=do
 let y <- elem' b r.2.2.2.1
 let x <- elem' a r.2.2.1
 let c <- lt' y x
 match c with
 |some c =>
  if c then do
   let z <- elem' b r.2.2.2.1
   if r.2.2.2.1+1 == b.size then pure (.done (some (kt a b (r.2.1.push z) r.2.2.1 (r.2.2.2.1+1)),r.2.1.push z,r.2.2.1,r.2.2.2.1+1,0,r.2.2.2.2.2+1))
   else if r.2.2.2.2.2+1 ≥ g then pure (.done (none,r.2.1.push z,r.2.2.1,r.2.2.2.1+1,0,r.2.2.2.2.2+1))
   else pure (.yield (none,r.2.1.push z,r.2.2.1,r.2.2.2.1+1,0,r.2.2.2.2.2+1))
  else do
   let z <- elem' a r.2.2.1
   if r.2.2.1+1+1 == a.size then pure (.done (some (qeO a b (r.2.1.push z) (r.2.2.1+1) r.2.2.2.1),r.2.1.push z,r.2.2.1+1,r.2.2.2.1,r.2.2.2.2.1+1,0))
   else if r.2.2.2.2.1+1 ≥ g then pure (.done (none,r.2.1.push z,r.2.2.1+1,r.2.2.2.1,r.2.2.2.2.1+1,0))
   else pure (.yield (none,r.2.1.push z,r.2.2.1+1,r.2.2.2.1,r.2.2.2.2.1+1,0))
 |_=>pure (.done (some (kt a b r.2.1 r.2.2.1 r.2.2.2.1),r.2.1,r.2.2.1,r.2.2.2.1,r.2.2.2.2.1,r.2.2.2.2.2))
theorem qgK(a b:Array Keyed):qc6 a b=(do
 rule "list.sort.merge-lo"
 let t:=a.size+b.size
 let mut o:Array Keyed:=#[<- elem' b 0]
 let mut i:=0
 let mut j:=1
 if j == b.size then return kt a b o i j
 if i+1 == a.size then return qeO a b o i j
 let mut g:=gallopOf (<- get)
 for _ in [0:t] do
  let mut p:=0
  let mut q:=0
  for _ in [0:t] do
   let some c <- lt' (<- elem' b j) (<- elem' a i)|return kt a b o i j
   if c then
    o:=o.push (<- elem' b j);j:=j+1;q:=q+1;p:=0
    if j == b.size then return kt a b o i j
    if q ≥ g then break
   else
    o:=o.push (<- elem' a i);i:=i+1;p:=p+1;q:=0
    if i+1 == a.size then return qeO a b o i j
    if p ≥ g then break
  rule "list.sort.gallop"
  g:=g+1
  for _ in [0:t] do
   if g > 1 then g:=g-1
   qiC g
   let some k <- zZ false (<- elem' b j) a i (a.size-i) 0|return kt a b o i j
   p:=k
   if k > 0 then
    o:=o++a.extract i (i+k);i:=i+k
    if i+1 == a.size then return qeO a b o i j
    if i == a.size then return kt a b o i j
   o:=o.push (<- elem' b j);j:=j+1
   if j == b.size then return kt a b o i j
   let some k <- zZ true (<- elem' a i) b j (b.size-j) 0|return kt a b o i j
   q:=k
   if k > 0 then
    o:=o++b.extract j (j+k);j:=j+k
    if j == b.size then return kt a b o i j
   o:=o.push (<- elem' a i);i:=i+1
   if i+1 == a.size then return qeO a b o i j
   if p<7 && q<7 then break
  g:=g+1
  qiC g
 unsupported "internal:list.sort.merge-bound"):=rfl
def Ok{γ:Type}(κ:KeyKind)(a b:Array Keyed)(st:SortSt)(m:Nat)(c:Option (Array Keyed)×Array Keyed×Nat×Nat×γ)(b0:SortSt):Prop:=
 (∃ g,b0=vi st g)/\((∃ r,c.1=some r/\Gd (kl κ) a.toList b.toList r.toList)∨(c.1=none/\MI (kl κ) a.toList b.toList c.2.1.toList c.2.2.1 c.2.2.2.1/\c.2.2.1+1<a.size/\c.2.2.2.1<b.size/\m<=c.2.2.1+c.2.2.2.1))
def qbF{γ:Type}(κ:KeyKind)(a b:Array Keyed)(st:SortSt)(m:Nat):ForInStep (Option (Array Keyed)×Array Keyed×Nat×Nat×γ)->SortSt->Prop
 |.done c,b0=>Ok κ a b st m c b0
 |.yield c,b0=>Ok κ a b st m c b0/\c.1=none
theorem qcg(a:Array Keyed)(i:Nat):(a.extract i a.size).toList=a.toList.drop i:=by
 rw[Yp,Xs];exact XL (by rw[Um,Yx];exact Vd _)
theorem qfN(a:Array Keyed)(i k:Nat):(a.extract i (i+k)).toList=(a.toList.drop i).take k:=by
 rw[Yp,Xs,XB]
theorem qc7(a b o:Array Keyed)(i j:Nat):(kt a b o i j).toList=o.toList++a.toList.drop i++b.toList.drop j:=by
 unfold kt;rw[Y4,Y4,qcg,qcg]
theorem qeP(a b o:Array Keyed)(i j:Nat):(qeO a b o i j).toList=o.toList++b.toList.drop j++a.toList.drop i:=by
 unfold qeO;rw[Y4,Y4,qcg,qcg]
theorem qbl{a:Array Keyed}(h:i<a.size):a.toList[i]?=some a[i]:=by
 rw[XX];exact getElem?_pos a i h
section
variable {prog:Program}{w:World}{A:Around}{E:Value->Shared->Prop}{s:Shared}{κ:KeyKind}{a b:Array Keyed}{st:SortSt}
variable (hO:κ.OneLt)(hk:kindOf st=oneType')(ka:∀ x∈a.toList,Kd κ x)(kb:∀ x∈b.toList,Kd κ x)(hl:∀ x∈a.toList.drop (a.size-1),∀ y∈b.toList,kl κ y x)
include hO hk ka kb hl
theorem qch(e:i+1=a.size):∀ x∈a.toList.drop i,∀ y∈b.toList,kl κ y x:=by
 have:a.size-1=i:=by omega
 rw[<- this];exact hl
theorem MI.headA(m:MI (kl κ) a.toList b.toList O i j)(hi:i<a.size):∀ y∈a.toList.drop i,kl κ a[i] y:=by
 have:=(Yq.mp m.sa).2.1
 rw[yn (qbl hi)] at this ⊢;intro y hy;rcases U1.mp hy with h|h
 ·rw[Zn.mp h];exact Jf _
 ·exact(Zj.mp this).1 y h
theorem MI.headB(m:MI (kl κ) a.toList b.toList O i j)(hj:j<b.size):∀ y∈b.toList.drop j,kl κ b[j] y:=by
 have:=(Yq.mp m.sb).2.1
 rw[yn (qbl hj)] at this ⊢;intro y hy;rcases U1.mp hy with h|h
 ·rw[Zn.mp h];exact Jf _
 ·exact(Zj.mp this).1 y h
theorem qjS(hs:∃ g,b0=vi st g)(mi:MI (kl κ) a.toList b.toList o.toList i j)(hi:i+1<a.size)(hj:j<b.size)(hm:m<=i+j)(hx:∀ y∈b.toList.drop j,kl κ a[i] y):wpS (model prog w) A E s (lo3 a b o i j g p q) (qbF κ a b st m) b0:=by
 unfold lo3;refine Vx (qX (p:=a[i]) (getElem?_pos a i (by omega)) ?_);have x6:MI (kl κ) a.toList b.toList (o.push a[i]).toList (i+1) j:=by
  rw[Z2];exact mi.takeA (yn (qbl (by omega))) (λ x t7 y hy=>by rw[Zn.mp t7];exact hx y hy)
 by_cases h1:i+1+1=a.size
 ·rw[V4 (by simpa using h1)];refine Vw ⟨hs,.inl ⟨_,rfl,?_⟩⟩;rw[qeP];exact x6.last (qch hO hk ka kb hl h1)
 ·rw[V5 (by simpa using h1)];by_cases h2:(decide (p<7) && decide (q<7))=true
  ·rw[V4 h2];exact Vw ⟨hs,.inr ⟨rfl,x6,by show i+1+1<a.size;omega,hj,by show m<=i+1+j;omega⟩⟩
  ·rw[V5 h2];exact Vw ⟨⟨hs,.inr ⟨rfl,x6,by show i+1+1<a.size;omega,hj,by show m<=i+1+j;omega⟩⟩,rfl⟩
theorem qjT(hs:∃ g,b0=vi st g)(mi:MI (kl κ) a.toList b.toList o.toList i j)(hi:i+1<a.size)(hj:j<b.size)(hm:m<=i+j)(hx:∀ y∈a.toList.drop i,kl κ b[j] y):wpS (model prog w) A E s (lo2 a b o i j g p q) (qbF κ a b st m) b0:=by
 unfold lo2;refine Vx (qX (p:=b[j]) (getElem?_pos b j (by omega)) ?_);have x6:MI (kl κ) a.toList b.toList (o.push b[j]).toList i (j+1):=by
  rw[Z2];exact mi.takeB (yn (qbl (by omega))) (λ x t7 y hy=>by rw[Zn.mp t7];exact hx y hy)
 by_cases h1:j+1=b.size
 ·rw[V4 (by simpa using h1)];refine Vw ⟨hs,.inl ⟨_,rfl,?_⟩⟩;rw[qc7];exact x6.endB (by rw[Yx];omega)
 ·rw[V5 (by simpa using h1)];refine Vx (qX (p:=a[i]) (getElem?_pos a i (by omega)) ?_);have E6:kindOf b0=oneType':=by obtain⟨g,rfl⟩:=hs;exact hk
  refine Vx (yo hO (b.toList.drop (j+1)) (XL (by rw[Um,Yx];exact Vd _)) E6 (ka _ (by simp)) (by omega) (λ x hx=>kb x (Yr hx)) ((Yq.mp x6.sb).2.1) (by omega) λ k mQ k1 k2=>?_);have ha:=mi.headA hO hk ka kb hl (show i<a.size by omega);have mk:MI (kl κ) a.toList b.toList (o.push b[j]++b.extract (j+1) (j+1+k)).toList i (j+1+k):=by
   rw[Y4,qfN];exact x6.takeB (drop_take _ _ _) λ x hx y hy=>Uu (BtT (k1 x hx)) (ha y hy)
  have eZ:∀ y∈b.toList.drop (j+1+k),kl κ a[i] y:=λ y hy=>qlL (k2 y (by rw[J6];exact hy))
  dsimp only;by_cases hk0:k > 0
  ·rw[V4 hk0];by_cases h3:j+1+k=b.size
   ·rw[V4 (by simpa using h3)];refine Vw ⟨hs,.inl ⟨_,rfl,?_⟩⟩;rw[qc7];exact mk.endB (by rw[Yx];omega)
   ·rw[V5 (by simpa using h3)];exact qjS hO hk ka kb hl hs mk hi (by omega) (by omega) eZ
  ·rw[V5 hk0]
   have:k=0:=by omega
   subst this;exact qjS hO hk ka kb hl hs x6 hi (by omega) (by omega) eZ
theorem qjU(hs:∃ g,b0=vi st g)(mi:MI (kl κ) a.toList b.toList o.toList i j)(hi:i+1<a.size)(hj:j<b.size)(hm:m<=i+j):wpS (model prog w) A E s (lo1 a b o i j g p q) (qbF κ a b st m) b0:=by
 unfold lo1;refine Vx (Vr ?_);have B2:∃ g',vi b0 g=vi st g':=by obtain⟨g1,rfl⟩:=hs;exact⟨g,rfl⟩
 have E6:kindOf (vi b0 g)=oneType':=by obtain⟨g1,rfl⟩:=hs;exact hk
 refine Vx (qX (p:=b[j]) (getElem?_pos b j (by omega)) ?_);refine Vx (yo hO (a.toList.drop i) (XL (by rw[Um,Yx];exact Vd _)) E6 (kb _ (by simp)) (by omega) (λ x hx=>ka x (Yr hx)) ((Yq.mp mi.sa).2.1) (by omega) λ k mQ k1 k2=>?_);have hb:=mi.headB hO hk ka kb hl hj;have mk:MI (kl κ) a.toList b.toList (o++a.extract i (i+k)).toList (i+k) j:=by
  rw[Y4,qfN];exact mi.takeA (drop_take _ _ _) λ x hx y hy=>Uu (BtF (k1 x hx)) (hb y hy)
 have rK:∀ y∈a.toList.drop (i+k),kl κ b[j] y:=λ y hy=>qnd (k2 y (by rw[J6];exact hy))
 dsimp only;by_cases hk0:k > 0
 ·rw[V4 hk0];by_cases h3:i+k+1=a.size
  ·rw[V4 (by simpa using h3)];refine Vw ⟨B2,.inl ⟨_,rfl,?_⟩⟩;rw[qeP];exact mk.last (qch hO hk ka kb hl h3)
  ·rw[V5 (by simpa using h3)];by_cases h4:i+k=a.size
   ·rw[V4 (by simpa using h4)];refine Vw ⟨B2,.inl ⟨_,rfl,?_⟩⟩;rw[qc7];exact mk.endA (by rw[Yx];omega)
   ·rw[V5 (by simpa using h4)];exact qjT hO hk ka kb hl B2 mk (by omega) hj (by omega) rK
 ·rw[V5 hk0]
  have:k=0:=by omega
  subst this;exact qjT hO hk ka kb hl B2 mi hi hj hm rK
theorem qne{r:C1}(ok:Ok κ a b st m r b0)(hn:r.1=none):wpS (model prog w) A E s (lo0 a b g r) (qbF κ a b st (m+1)) b0:=by
 obtain⟨v,o,i,j,p,q⟩:=r;obtain⟨hs,⟨r,h1,h2⟩|⟨_,mi,hi,hj,hm⟩⟩:=ok
 ·rw[hn] at h1;cases h1
 change MI (kl κ) a.toList b.toList o.toList i j at mi
 change i+1<a.size at hi
 change j<b.size at hj
 change m<=i+j at hm
 unfold lo0;dsimp only;have E6:kindOf b0=oneType':=by obtain⟨g,rfl⟩:=hs;exact hk
 refine Vx (qX (p:=b[j]) (getElem?_pos b j (by omega)) ?_);refine Vx (qX (p:=a[i]) (getElem?_pos a i (by omega)) ?_);refine Vx (qc5 hO E6 (kb _ (by simp)) (ka _ (by simp)) ?_);dsimp only;cases hc:κ.blt (ky κ b[j]) (ky κ a[i]) with
 |true =>
  rw[V4 rfl];refine Vx (qX (p:=b[j]) (getElem?_pos b j (by omega)) ?_);have ha:=mi.headA hO hk ka kb hl (show i<a.size by omega);have x6:MI (kl κ) a.toList b.toList (o.push b[j]).toList i (j+1):=by
   rw[Z2];exact mi.takeB (yn (qbl (by omega))) (λ x t7 y hy=>by rw[Zn.mp t7];exact Uu (Z7 hc) (ha y hy))
  by_cases h1:j+1=b.size
  ·rw[V4 (by simpa using h1)];refine Vw ⟨hs,.inl ⟨_,rfl,?_⟩⟩;rw[qc7];exact x6.endB (by rw[Yx];omega)
  ·rw[V5 (by simpa using h1)];by_cases h2:q+1 ≥ g
   ·rw[V4 h2];exact Vw ⟨hs,.inr ⟨rfl,x6,hi,by show j+1<b.size;omega,by show m+1<=i+(j+1);omega⟩⟩
   ·rw[V5 h2];exact Vw ⟨⟨hs,.inr ⟨rfl,x6,hi,by show j+1<b.size;omega,by show m+1<=i+(j+1);omega⟩⟩,rfl⟩
 |false =>
  rw[V5 (by simp)];refine Vx (qX (p:=a[i]) (getElem?_pos a i (by omega)) ?_);have hb:=mi.headB hO hk ka kb hl hj;have x6:MI (kl κ) a.toList b.toList (o.push a[i]).toList (i+1) j:=by
   rw[Z2];exact mi.takeA (yn (qbl (by omega))) (λ x t7 y hy=>by rw[Zn.mp t7];exact Uu hc (hb y hy))
  by_cases h1:i+1+1=a.size
  ·rw[V4 (by simpa using h1)];refine Vw ⟨hs,.inl ⟨_,rfl,?_⟩⟩;rw[qeP];exact x6.last (qch hO hk ka kb hl h1)
  ·rw[V5 (by simpa using h1)];by_cases h2:p+1 ≥ g
   ·rw[V4 h2];exact Vw ⟨hs,.inr ⟨rfl,x6,by show i+1+1<a.size;omega,hj,by show m+1<=i+1+j;omega⟩⟩
   ·rw[V5 h2];exact Vw ⟨⟨hs,.inr ⟨rfl,x6,by show i+1+1<a.size;omega,hj,by show m+1<=i+1+j;omega⟩⟩,rfl⟩
end
section
variable {prog:Program}{w:World}{A:Around}{E:Value->Shared->Prop}{s:Shared}{κ:KeyKind}{a b:Array Keyed}{st:SortSt}
theorem Ok.mono{c:Option (Array Keyed)×Array Keyed×Nat×Nat×γ}(h:Ok κ a b st m c b0)(hm:m'<=m):Ok κ a b st m' c b0:=by
 obtain⟨hs,h|⟨h1,h2,h3,h4,h5⟩⟩:=h
 ·exact⟨hs,.inl h⟩
 ·exact⟨hs,.inr ⟨h1,h2,h3,h4,Qy hm h5⟩⟩
theorem qfO(hO:κ.OneLt)(hk:kindOf st=oneType')(ka:∀ x∈a.toList,Kd κ x)(kb:∀ x∈b.toList,Kd κ x)(h0:MI (kl κ) a.toList b.toList [] 0 0)(a1:0<a.size)(b1:0<b.size)(hd:∀ y∈a.toList,kl κ b[0] y)(hl:∀ x∈a.toList.drop (a.size-1),∀ y∈b.toList,kl κ y x)(h:∀(o:Array Keyed)(g:Nat),Gd (kl κ) a.toList b.toList o.toList->Q o (vi st g)):wpS (model prog w) A E s (qc6 a b) Q st:=by
 rw[qgK];refine Vx (wpS_lift (Vq ⟨rfl,?_⟩));refine Vx (qX (p:=b[0]) (getElem?_pos b 0 b1) ?_);dsimp only;have mi:MI (kl κ) a.toList b.toList (#[b[0]]:Array Keyed).toList 0 1:=by
  have:=h0.takeB (yn (qbl b1)) (λ x hx y hy=>by rw[Zn.mp hx];exact hd y (Yr hy))
  simpa using this
 by_cases h1:1=b.size
 ·rw[V4 (by simpa using h1)];refine Vw (h _ (gallopOf st) ?_);rw[qc7];exact mi.endB (by rw[Yx];omega)
 rw[V5 (by simpa using h1)];by_cases h2:0+1=a.size
 ·rw[V4 (by simpa using h2)];refine Vw (h _ (gallopOf st) ?_);rw[qeP];exact mi.last (qch hO hk ka kb hl h2)
 rw[V5 (by simpa using h2)];refine Vx (V2 ?_);refine Vx (Vy (Vc (I:=λ x (c:C0) b0=>Ok κ a b st (x+1) c b0/\c.1=none) (Q:=λ c b0=>Ok κ a b st 0 c b0/\c.1≠none) ?step ?fin ⟨⟨⟨gallopOf st,rfl⟩,.inr ⟨rfl,mi,by show 0+1<a.size;omega,by show 1<b.size;omega,by show 0+1<=0+1;omega⟩⟩,rfl⟩) ?post)
 case post =>
  rintro⟨v,c⟩ b0 ⟨⟨⟨g,rfl⟩,ok⟩,hv⟩;rcases ok with⟨r,e,gd⟩|⟨e,_⟩
  ·cases e
   exact Vw (h r g gd)
  ·exact absurd e hv
 case fin =>
  rintro⟨v,o,i,j,g⟩ b0 ⟨⟨hs,ok⟩,hv⟩;rcases ok with⟨r,e,gd⟩|⟨e,_,hi,hj,hm⟩
  ·rw[hv] at e;cases e
  ·change i+1<a.size at hi
   change j<b.size at hj
   change _<=i+j at hm
   omega
 case step =>
  rintro x c b0 _ hx ⟨ok,hn⟩;obtain⟨v,o,i,j,g⟩:=c;cases hn
  have ok1:Ok κ a b st (x+1) ((none,o,i,j,0,0):C1) b0:=ok;refine Vx (Vy (Vc (I:=λ y (c:C1) b0=>Ok κ a b st (x+1+y) c b0/\c.1=none) (Q:=λ c b0=>Ok κ a b st (x+2) c b0) ?istep ?ifin ⟨ok1,rfl⟩) ?ipost)
  case istep =>
   rintro y c l0 _ hy ⟨K7,aU⟩;refine Vy (show wpS (model prog w) A E s (lo0 a b g c) (qbF κ a b st (x+1+y+1)) l0 from qne hO hk ka kb hl K7 aU) λ r G5 hr=>?_
   cases r with
   |done c=>exact Ok.mono hr (by omega)
   |yield c=>exact hr
  case ifin =>
   rintro⟨v,o,i,j,p,q⟩ l0 ⟨⟨hs,K7⟩,hv⟩;rcases K7 with⟨r,e,gd⟩|⟨e,_,hi,hj,hm⟩
   ·rw[hv] at e;cases e
   ·change i+1<a.size at hi
    change j<b.size at hj
    change _<=i+j at hm
    omega
  case ipost =>
   rintro⟨v,o,i,j,p,q⟩ l0 ⟨hs,K7⟩;dsimp only;cases v with
   |some v =>
    rcases K7 with⟨r,e,gd⟩|⟨e,_⟩
    ·cases e
     exact Vw ⟨⟨hs,.inl ⟨_,rfl,gd⟩⟩,by simp⟩
    ·cases e
   |none =>
    dsimp only;refine Vx (wpS_lift (Vq ⟨rfl,?_⟩));have ok3:Ok κ a b st (x+2) ((none,o,i,j,g+1,p,q):C2) l0:=⟨hs,K7⟩;refine Vx (Vy (Vc (I:=λ y (c:C2) b0=>Ok κ a b st (x+2) c b0/\c.1=none) (Q:=λ c b0=>Ok κ a b st (x+2) c b0) ?jstep ?jfin ⟨ok3,rfl⟩) ?jpost)
    case jfin=>exact λ c b0 hc=>hc.1
    case jstep =>
     rintro y ⟨v,o,i,j,g,p,q⟩ G5 _ hy ⟨⟨hs,eN⟩,hn⟩;have iJ:v=none:=hn;subst iJ;rcases eN with⟨r,e,gd⟩|⟨_,mi,hi,hj,hm⟩
     ·cases e
     change MI (kl κ) a.toList b.toList o.toList i j at mi
     change i+1<a.size at hi
     change j<b.size at hj
     change _<=i+j at hm
     refine Vy (Q:=qbF κ a b st (x+2)) ?_ λ r G5 hr=>?_
     ·by_cases hg:g > 1
      ·dsimp only;rw[V4 hg];show wpS (model prog w) A E s (lo1 a b o i j (g-1) p q) _ _
       exact qjU hO hk ka kb hl hs mi hi hj hm
      ·dsimp only;rw[V5 hg];show wpS (model prog w) A E s (lo1 a b o i j g p q) _ _
       exact qjU hO hk ka kb hl hs mi hi hj hm
     ·cases r with
      |done c=>exact hr
      |yield c=>exact hr
    case jpost =>
     rintro⟨v,o,i,j,g,p,q⟩ G5 ⟨hs,eN⟩;dsimp only;cases v with
     |some v =>
      rcases eN with⟨r,e,gd⟩|⟨e,_⟩
      ·cases e
       exact Vw ⟨⟨hs,.inl ⟨_,rfl,gd⟩⟩,by simp⟩
      ·cases e
     |none =>
      refine Vx (Vr (Vw ⟨⟨?_,eN⟩,rfl⟩));obtain⟨g1,rfl⟩:=hs;exact⟨g+1,rfl⟩
end
structure MH{α:Type}(r:α->α->Prop)(la lb O:List α)(i j:Nat):Prop where
 sa:(la.take i++O).Pairwise r
 sb:(lb.take j++O).Pairwise r
 pm:(la.take i++(lb.take j++O)).Perm (la++lb)
theorem MH.takeA{r:α->α->Prop}{la lb O:List α}(h:MH r la lb O i j){X:List α}(e:la.take i=la.take i'++X)(hx:∀ x∈X,∀ y∈lb.take j,r y x):MH r la lb (X++O) i' j:=by
 have h1:=h.sa;rw[e,Zx] at h1;have h2:=Yq.mp h.sb;refine⟨h1,Yq.mpr ⟨h2.1,(Yq.mp h1).2.1,λ x t7 y hy=>?_⟩,?_⟩
 ·rcases U1.mp hy with hX | hO
  ·exact hx y hX x t7
  ·exact h2.2.2 x t7 y hO
 ·have:=h.pm
  rw[e,Zx] at this;exact((Xg (lb.take j) X O).append_left (la.take i')).trans this
theorem MH.takeB{r:α->α->Prop}{la lb O:List α}(h:MH r la lb O i j){X:List α}(e:lb.take j=lb.take j'++X)(hx:∀ x∈X,∀ y∈la.take i,r y x):MH r la lb (X++O) i j':=by
 have h1:=h.sb;rw[e,Zx] at h1;have h2:=Yq.mp h.sa;refine⟨Yq.mpr ⟨h2.1,(Yq.mp h1).2.1,λ x t7 y hy=>?_⟩,h1,?_⟩
 ·rcases U1.mp hy with hX | hO
  ·exact hx y hX x t7
  ·exact h2.2.2 x t7 y hO
 ·have:=h.pm
  rw[e,Zx] at this;exact this
theorem MH.endA{r:α->α->Prop}{la lb O:List α}(h:MH r la lb O i j)(e:i=0):Gd r la lb (la.take i++lb.take j++O):=by
 subst e;exact⟨h.sb,h.pm⟩
theorem MH.endB{r:α->α->Prop}{la lb O:List α}(h:MH r la lb O i 0):Gd r la lb (la.take i++lb.take 0++O):=by
 have h1:=h.pm;rw[J5,U4];exact⟨h.sa,h1⟩
theorem MH.first{r:α->α->Prop}{la lb O:List α}(h:MH r la lb O i j)(hl:∀ x∈lb.take j,∀ y∈la,r x y):Gd r la lb (lb.take j++la.take i++O):=by
 have hb:=Yq.mp h.sb;refine⟨?_,?_⟩
 ·rw[Zx];refine Yq.mpr ⟨hb.1,h.sa,λ x hx y hy=>?_⟩;rcases U1.mp hy with hA | hO
  ·exact hl x hx y (Ys hA)
  ·exact hb.2.2 x hx y hO
 ·rw[Zx];exact(Xg (lb.take j) (la.take i) O).trans h.pm
theorem ze{α:Type}{l:List α}{x:α}(h:l[i]?=some x):l.take (i+1)=l.take i++[x]:=by
 obtain⟨hi,e⟩:=Xn.mp h;rw[Xa hi,e]
theorem qed{α:Type}(l:List α)(h:k<=i):l.take i=l.take k++(l.take i).drop k:=by
 have:=(XZ k (l.take i)).symm
 rwa [List.take_take,Jg h] at this
noncomputable def qc8:Array Keyed->Array Keyed->SM (Array Keyed):=sortPriv% PySem.Builtin.mergeHi
noncomputable def ku(a b o:Array Keyed)(i j:Nat):Array Keyed:=a.extract 0 i++b.extract 0 j++o.reverse
noncomputable def qeQ(a b o:Array Keyed)(i j:Nat):Array Keyed:=b.extract 0 j++a.extract 0 i++o.reverse
abbrev D1:=Option (Array Keyed)×Nat×Nat×Array Keyed×Nat×Nat
abbrev D2:=Option (Array Keyed)×Nat×Nat×Array Keyed×Nat×Nat×Nat
abbrev D0:=Option (Array Keyed)×Nat×Nat×Array Keyed×Nat
theorem qgL(a b:Array Keyed):qc8 a b=(do
 rule "list.sort.merge-hi"
 let t:=a.size+b.size
 let mut i:=a.size-1
 let mut j:=b.size
 let mut o:Array Keyed:=#[<- elem' a i]
 if i == 0 then return ku a b o i j
 if j == 1 then return qeQ a b o i j
 let mut g:=gallopOf (<- get)
 for _ in [0:t] do
  let mut p:=0
  let mut q:=0
  for _ in [0:t] do
   let some c <- lt' (<- elem' b (j-1)) (<- elem' a (i-1))|return ku a b o i j
   if c then
    i:=i-1;o:=o.push (<- elem' a i);p:=p+1;q:=0
    if i == 0 then return ku a b o i j
    if p ≥ g then break
   else
    j:=j-1;o:=o.push (<- elem' b j);q:=q+1;p:=0
    if j == 1 then return qeQ a b o i j
    if q ≥ g then break
  rule "list.sort.gallop"
  g:=g+1
  for _ in [0:t] do
   if g > 1 then g:=g-1
   qiC g
   let some u <- zZ false (<- elem' b (j-1)) a 0 i (i-1)|return ku a b o i j
   let k:=i-u
   p:=k
   if k > 0 then
    o:=o++(a.extract u i).reverse;i:=u
    if i == 0 then return ku a b o i j
   j:=j-1;o:=o.push (<- elem' b j)
   if j == 1 then return qeQ a b o i j
   let some u <- zZ true (<- elem' a (i-1)) b 0 j (j-1)|return ku a b o i j
   let k:=j-u
   q:=k
   if k > 0 then
    o:=o++(b.extract u j).reverse;j:=u
    if j == 1 then return qeQ a b o i j
    if j == 0 then return ku a b o i j
   i:=i-1;o:=o.push (<- elem' a i)
   if i == 0 then return ku a b o i j
   if p<7 && q<7 then break
  g:=g+1
  qiC g
 unsupported "internal:list.sort.merge-bound"):=rfl
noncomputable def hi3(a b o:Array Keyed)(i j g p q:Nat):SM (ForInStep D2):=do
 let x <- elem' a (i-1)
 if i-1 == 0 then pure (.done (some (ku a b (o.push x) (i-1) j),i-1,j,o.push x,g,p,q))
 else if p<7 && q<7 then pure (.done (none,i-1,j,o.push x,g,p,q))
 else pure (.yield (none,i-1,j,o.push x,g,p,q))
noncomputable def hi2(a b o:Array Keyed)(i j g p q:Nat):SM (ForInStep D2):=do
 let x <- elem' b (j-1)
 if j-1 == 1 then pure (.done (some (qeQ a b (o.push x) i (j-1)),i,j-1,o.push x,g,p,q))
 else do
  let y <- elem' a (i-1)
  let c <- zZ true y b 0 (j-1) (j-1-1)
  match c with
  |some u =>
   if j-1-u > 0 then
    if u == 1 then pure (.done (some (qeQ a b (o.push x++(b.extract u (j-1)).reverse) i u),i,u,o.push x++(b.extract u (j-1)).reverse,g,p,j-1-u))
    else if u == 0 then pure (.done (some (ku a b (o.push x++(b.extract u (j-1)).reverse) i u),i,u,o.push x++(b.extract u (j-1)).reverse,g,p,j-1-u))
    else hi3 a b (o.push x++(b.extract u (j-1)).reverse) i u g p (j-1-u)
   else hi3 a b (o.push x) i (j-1) g p (j-1-u)
  |_=>pure (.done (some (ku a b (o.push x) i (j-1)),i,j-1,o.push x,g,p,q))
noncomputable def hi1(a b o:Array Keyed)(i j g p q:Nat):SM (ForInStep D2):=do
 qiC g
 let x <- elem' b (j-1)
 let c <- zZ false x a 0 i (i-1)
 match c with
 |some u =>
  if i-u > 0 then
   if u == 0 then pure (.done (some (ku a b (o++(a.extract u i).reverse) u j),u,j,o++(a.extract u i).reverse,g,i-u,q))
   else hi2 a b (o++(a.extract u i).reverse) u j g (i-u) q
  else hi2 a b o i j g (i-u) q
 |_=>pure (.done (some (ku a b o i j),i,j,o,g,p,q))
noncomputable def hi0(a b:Array Keyed)(g:Nat)(r:D1):SM (ForInStep D1):=do
 let y <- elem' b (r.2.2.1-1)
 let x <- elem' a (r.2.1-1)
 let c <- lt' y x
 match c with
 |some c =>
  if c then do
   let z <- elem' a (r.2.1-1)
   if r.2.1-1 == 0 then pure (.done (some (ku a b (r.2.2.2.1.push z) (r.2.1-1) r.2.2.1),r.2.1-1,r.2.2.1,r.2.2.2.1.push z,r.2.2.2.2.1+1,0))
   else if r.2.2.2.2.1+1 ≥ g then pure (.done (none,r.2.1-1,r.2.2.1,r.2.2.2.1.push z,r.2.2.2.2.1+1,0))
   else pure (.yield (none,r.2.1-1,r.2.2.1,r.2.2.2.1.push z,r.2.2.2.2.1+1,0))
  else do
   let z <- elem' b (r.2.2.1-1)
   if r.2.2.1-1 == 1 then pure (.done (some (qeQ a b (r.2.2.2.1.push z) r.2.1 (r.2.2.1-1)),r.2.1,r.2.2.1-1,r.2.2.2.1.push z,0,r.2.2.2.2.2+1))
   else if r.2.2.2.2.2+1 ≥ g then pure (.done (none,r.2.1,r.2.2.1-1,r.2.2.2.1.push z,0,r.2.2.2.2.2+1))
   else pure (.yield (none,r.2.1,r.2.2.1-1,r.2.2.2.1.push z,0,r.2.2.2.2.2+1))
 |_=>pure (.done (some (ku a b r.2.2.2.1 r.2.1 r.2.2.1),r.2.1,r.2.2.1,r.2.2.2.1,r.2.2.2.2.1,r.2.2.2.2.2))
def OkH{γ:Type}(κ:KeyKind)(a b:Array Keyed)(st:SortSt)(m:Nat)(c:Option (Array Keyed)×Nat×Nat×Array Keyed×γ)(b0:SortSt):Prop:=
 (∃ g,b0=vi st g)/\((∃ r,c.1=some r/\Gd (kl κ) a.toList b.toList r.toList)∨(c.1=none/\MH (kl κ) a.toList b.toList c.2.2.2.1.toList.reverse c.2.1 c.2.2.1/\0<c.2.1/\c.2.1<=a.size/\1<c.2.2.1/\c.2.2.1<=b.size/\c.2.1+c.2.2.1+m<=a.size+b.size))
def qee{γ:Type}(κ:KeyKind)(a b:Array Keyed)(st:SortSt)(m:Nat):ForInStep (Option (Array Keyed)×Nat×Nat×Array Keyed×γ)->SortSt->Prop
 |.done c,b0=>OkH κ a b st m c b0
 |.yield c,b0=>OkH κ a b st m c b0/\c.1=none
theorem qeR(a:Array Keyed)(i:Nat):(a.extract 0 i).toList=a.toList.take i:=by
 rw[Yp,Xs,J0,Nat.sub_zero]
theorem qhL(a:Array Keyed)(u i:Nat):((a.extract u i).reverse).toList.reverse=(a.toList.take i).drop u:=by
 rw[Yt,List.reverse_reverse,Yp,Xs,List.drop_take]
theorem qc9(a b o:Array Keyed)(i j:Nat):(ku a b o i j).toList=a.toList.take i++b.toList.take j++o.toList.reverse:=by
 unfold ku;rw[Y4,Y4,qeR,qeR,Yt]
theorem qeS(a b o:Array Keyed)(i j:Nat):(qeQ a b o i j).toList=b.toList.take j++a.toList.take i++o.toList.reverse:=by
 unfold qeQ;rw[Y4,Y4,qeR,qeR,Yt]
theorem qbm(o:Array Keyed)(x:Keyed):(o.push x).toList.reverse=[x]++o.toList.reverse:=by
 rw[Z2,Y5];rfl
theorem qhM(o u:Array Keyed):(o++u).toList.reverse=u.toList.reverse++o.toList.reverse:=by
 rw[Y4,Y5]
theorem yC{a:Array Keyed}{i:Nat}(h0:0<i)(h:i<=a.size):a.toList.take i=a.toList.take (i-1)++[a[i-1]]:=by
 have:=ze (qbl (a:=a) (i:=i-1) (by omega))
 rwa [Nat.sub_add_cancel h0] at this
section
variable {prog:Program}{w:World}{A:Around}{E:Value->Shared->Prop}{s:Shared}{κ:KeyKind}{a b:Array Keyed}{st:SortSt}
variable (hO:κ.OneLt)(hk:kindOf st=oneType')(ka:∀ x∈a.toList,Kd κ x)(kb:∀ x∈b.toList,Kd κ x)(hd:∀ x∈b.toList.take 1,∀ y∈a.toList,kl κ x y)
include hO hk ka kb hd
theorem MH.tailA(m:MH (kl κ) a.toList b.toList O i j)(h0:0<i)(hi:i<=a.size):∀ y∈a.toList.take i,kl κ y a[i-1]:=by
 have:=(Yq.mp m.sa).1
 rw[yC h0 hi] at this ⊢;intro y hy;rcases U1.mp hy with h|h
 ·exact(Yq.mp this).2.2 y h _ (Zn.mpr rfl)
 ·rw[Zn.mp h];exact Jf _
theorem MH.tailB(m:MH (kl κ) a.toList b.toList O i j)(h0:0<j)(hj:j<=b.size):∀ y∈b.toList.take j,kl κ y b[j-1]:=by
 have:=(Yq.mp m.sb).1
 rw[yC h0 hj] at this ⊢;intro y hy;rcases U1.mp hy with h|h
 ·exact(Yq.mp this).2.2 y h _ (Zn.mpr rfl)
 ·rw[Zn.mp h];exact Jf _
theorem qjV(hs:∃ g,b0=vi st g)(mi:MH (kl κ) a.toList b.toList o.toList.reverse i j)(i0:0<i)(hi:i<=a.size)(j1:1<j)(hj:j<=b.size)(hm:i+j+m<=a.size+b.size)(hx:∀ y∈b.toList.take j,kl κ y a[i-1]):wpS (model prog w) A E s (hi3 a b o i j g p q) (qee κ a b st m) b0:=by
 unfold hi3;refine Vx (qX (p:=a[i-1]) (getElem?_pos a (i-1) (by omega)) ?_);have x6:MH (kl κ) a.toList b.toList (o.push a[i-1]).toList.reverse (i-1) j:=by
  rw[qbm];exact mi.takeA (yC i0 hi) (λ x t7 y hy=>by rw[Zn.mp t7];exact hx y hy)
 by_cases h1:i-1=0
 ·rw[V4 (by simpa using h1)];refine Vw ⟨hs,.inl ⟨_,rfl,?_⟩⟩;rw[qc9];exact x6.endA h1
 ·rw[V5 (by simpa using h1)];by_cases h2:(decide (p<7) && decide (q<7))=true
  ·rw[V4 h2];exact Vw ⟨hs,.inr ⟨rfl,x6,by show 0<i-1;omega,by show i-1<=a.size;omega,j1,hj,by show i-1+j+m<=_;omega⟩⟩
  ·rw[V5 h2];exact Vw ⟨⟨hs,.inr ⟨rfl,x6,by show 0<i-1;omega,by show i-1<=a.size;omega,j1,hj,by show i-1+j+m<=_;omega⟩⟩,rfl⟩
theorem qjW(hs:∃ g,b0=vi st g)(mi:MH (kl κ) a.toList b.toList o.toList.reverse i j)(i0:0<i)(hi:i<=a.size)(j1:1<j)(hj:j<=b.size)(hm:i+j+m<=a.size+b.size)(hx:∀ y∈a.toList.take i,kl κ y b[j-1]):wpS (model prog w) A E s (hi2 a b o i j g p q) (qee κ a b st m) b0:=by
 unfold hi2;refine Vx (qX (p:=b[j-1]) (getElem?_pos b (j-1) (by omega)) ?_);have x6:MH (kl κ) a.toList b.toList (o.push b[j-1]).toList.reverse i (j-1):=by
  rw[qbm];exact mi.takeB (yC (by omega) hj) (λ x t7 y hy=>by rw[Zn.mp t7];exact hx y hy)
 by_cases h1:j-1=1
 ·rw[V4 (by simpa using h1)];refine Vw ⟨hs,.inl ⟨_,rfl,?_⟩⟩;rw[qeS];exact x6.first (by rw[h1];exact hd)
 ·rw[V5 (by simpa using h1)];refine Vx (qX (p:=a[i-1]) (getElem?_pos a (i-1) (by omega)) ?_);have E6:kindOf b0=oneType':=by obtain⟨g,rfl⟩:=hs;exact hk
  refine Vx (yo hO (b.toList.take (j-1)) (by rw[J0]) E6 (ka _ (by simp)) (by omega) (λ x hx=>kb x (Ys hx)) ((Yq.mp x6.sb).1) (by omega) λ u B6 k1 k2=>?_);have ha:=mi.tailA hO hk ka kb hd i0 hi;have mk:MH (kl κ) a.toList b.toList (o.push b[j-1]++(b.extract u (j-1)).reverse).toList.reverse i u:=by
   rw[qhM,qhL];exact x6.takeB (qed _ B6) λ x hx y hy=>Uu (ha y hy) (qlL (k2 x hx))
  have eZ:∀ y∈b.toList.take u,kl κ y a[i-1]:=λ y hy=>BtT (k1 y (by rw[List.take_take,Jg B6];exact hy))
  dsimp only;by_cases hk0:j-1-u > 0
  ·rw[V4 hk0];by_cases h3:u=1
   ·rw[V4 (by simpa using h3)];refine Vw ⟨hs,.inl ⟨_,rfl,?_⟩⟩;rw[qeS];exact mk.first (by rw[h3];exact hd)
   ·rw[V5 (by simpa using h3)];by_cases h4:u=0
    ·rw[V4 (by simpa using h4)];refine Vw ⟨hs,.inl ⟨_,rfl,?_⟩⟩;rw[qc9];subst h4;exact mk.endB
    ·rw[V5 (by simpa using h4)];exact qjV hO hk ka kb hd hs mk i0 hi (by omega) (by omega) (by omega) eZ
  ·rw[V5 hk0]
   have:u=j-1:=by omega
   subst this;exact qjV hO hk ka kb hd hs x6 i0 hi (by omega) (by omega) (by omega) eZ
theorem qjX(hs:∃ g,b0=vi st g)(mi:MH (kl κ) a.toList b.toList o.toList.reverse i j)(i0:0<i)(hi:i<=a.size)(j1:1<j)(hj:j<=b.size)(hm:i+j+m<=a.size+b.size):wpS (model prog w) A E s (hi1 a b o i j g p q) (qee κ a b st m) b0:=by
 unfold hi1;refine Vx (Vr ?_);have B2:∃ g',vi b0 g=vi st g':=by obtain⟨g1,rfl⟩:=hs;exact⟨g,rfl⟩
 have E6:kindOf (vi b0 g)=oneType':=by obtain⟨g1,rfl⟩:=hs;exact hk
 refine Vx (qX (p:=b[j-1]) (getElem?_pos b (j-1) (by omega)) ?_);refine Vx (yo hO (a.toList.take i) (by rw[J0]) E6 (kb _ (by simp)) (by omega) (λ x hx=>ka x (Ys hx)) ((Yq.mp mi.sa).1) (by omega) λ u B6 k1 k2=>?_);have hb:=mi.tailB hO hk ka kb hd (by omega) hj;have mk:MH (kl κ) a.toList b.toList (o++(a.extract u i).reverse).toList.reverse u j:=by
  rw[qhM,qhL];exact mi.takeA (qed _ B6) λ x hx y hy=>Uu (hb y hy) (qnd (k2 x hx))
 have rK:∀ y∈a.toList.take u,kl κ y b[j-1]:=λ y hy=>BtF (k1 y (by rw[List.take_take,Jg B6];exact hy))
 dsimp only;by_cases hk0:i-u > 0
 ·rw[V4 hk0];by_cases h4:u=0
  ·rw[V4 (by simpa using h4)];refine Vw ⟨B2,.inl ⟨_,rfl,?_⟩⟩;rw[qc9];exact mk.endA h4
  ·rw[V5 (by simpa using h4)];exact qjW hO hk ka kb hd B2 mk (by omega) (by omega) j1 hj (by omega) rK
 ·rw[V5 hk0]
  have:u=i:=by omega
  subst this;exact qjW hO hk ka kb hd B2 mi i0 hi j1 hj hm rK
theorem qnf{r:D1}(ok:OkH κ a b st m r b0)(hn:r.1=none):wpS (model prog w) A E s (hi0 a b g r) (qee κ a b st (m+1)) b0:=by
 obtain⟨v,i,j,o,p,q⟩:=r;obtain⟨hs,⟨r,h1,h2⟩|⟨_,mi,i0,hi,j1,hj,hm⟩⟩:=ok
 ·rw[hn] at h1;cases h1
 change MH (kl κ) a.toList b.toList o.toList.reverse i j at mi
 change 0<i at i0
 change i<=a.size at hi
 change 1<j at j1
 change j<=b.size at hj
 change i+j+m<=_ at hm
 unfold hi0;dsimp only;have E6:kindOf b0=oneType':=by obtain⟨g,rfl⟩:=hs;exact hk
 refine Vx (qX (p:=b[j-1]) (getElem?_pos b (j-1) (by omega)) ?_);refine Vx (qX (p:=a[i-1]) (getElem?_pos a (i-1) (by omega)) ?_);refine Vx (qc5 hO E6 (kb _ (by simp)) (ka _ (by simp)) ?_);dsimp only;cases hc:κ.blt (ky κ b[j-1]) (ky κ a[i-1]) with
 |true =>
  rw[V4 rfl];refine Vx (qX (p:=a[i-1]) (getElem?_pos a (i-1) (by omega)) ?_);have hb:=mi.tailB hO hk ka kb hd (by omega) hj;have x6:MH (kl κ) a.toList b.toList (o.push a[i-1]).toList.reverse (i-1) j:=by
   rw[qbm];exact mi.takeA (yC i0 hi) (λ x t7 y hy=>by rw[Zn.mp t7];exact Uu (hb y hy) (Z7 hc))
  by_cases h1:i-1=0
  ·rw[V4 (by simpa using h1)];refine Vw ⟨hs,.inl ⟨_,rfl,?_⟩⟩;rw[qc9];exact x6.endA h1
  ·rw[V5 (by simpa using h1)];by_cases h2:p+1 ≥ g
   ·rw[V4 h2];exact Vw ⟨hs,.inr ⟨rfl,x6,by show 0<i-1;omega,by show i-1<=a.size;omega,j1,hj,by show i-1+j+(m+1)<=_;omega⟩⟩
   ·rw[V5 h2];exact Vw ⟨⟨hs,.inr ⟨rfl,x6,by show 0<i-1;omega,by show i-1<=a.size;omega,j1,hj,by show i-1+j+(m+1)<=_;omega⟩⟩,rfl⟩
 |false =>
  rw[V5 (by simp)];refine Vx (qX (p:=b[j-1]) (getElem?_pos b (j-1) (by omega)) ?_);have ha:=mi.tailA hO hk ka kb hd i0 hi;have x6:MH (kl κ) a.toList b.toList (o.push b[j-1]).toList.reverse i (j-1):=by
   rw[qbm];exact mi.takeB (yC (by omega) hj) (λ x t7 y hy=>by rw[Zn.mp t7];exact Uu (ha y hy) hc)
  by_cases h1:j-1=1
  ·rw[V4 (by simpa using h1)];refine Vw ⟨hs,.inl ⟨_,rfl,?_⟩⟩;rw[qeS];exact x6.first (by rw[h1];exact hd)
  ·rw[V5 (by simpa using h1)];by_cases h2:q+1 ≥ g
   ·rw[V4 h2];exact Vw ⟨hs,.inr ⟨rfl,x6,i0,hi,by show 1<j-1;omega,by show j-1<=b.size;omega,by show i+(j-1)+(m+1)<=_;omega⟩⟩
   ·rw[V5 h2];exact Vw ⟨⟨hs,.inr ⟨rfl,x6,i0,hi,by show 1<j-1;omega,by show j-1<=b.size;omega,by show i+(j-1)+(m+1)<=_;omega⟩⟩,rfl⟩
end
section
variable {prog:Program}{w:World}{A:Around}{E:Value->Shared->Prop}{s:Shared}{κ:KeyKind}{a b:Array Keyed}{st:SortSt}
theorem OkH.mono{c:Option (Array Keyed)×Nat×Nat×Array Keyed×γ}(h:OkH κ a b st m c b0)(hm:m'<=m):OkH κ a b st m' c b0:=by
 obtain⟨hs,h|⟨h1,h2,h3,h4,h5,h6,h7⟩⟩:=h
 ·exact⟨hs,.inl h⟩
 ·exact⟨hs,.inr ⟨h1,h2,h3,h4,h5,h6,by omega⟩⟩
theorem qfP(hO:κ.OneLt)(hk:kindOf st=oneType')(ka:∀ x∈a.toList,Kd κ x)(kb:∀ x∈b.toList,Kd κ x)(h0:MH (kl κ) a.toList b.toList [] a.size b.size)(a1:0<a.size)(b1:0<b.size)(hd:∀ x∈b.toList.take 1,∀ y∈a.toList,kl κ x y)(hl:∀ y∈b.toList,kl κ y a[a.size-1])(h:∀(o:Array Keyed)(g:Nat),Gd (kl κ) a.toList b.toList o.toList->Q o (vi st g)):wpS (model prog w) A E s (qc8 a b) Q st:=by
 rw[qgL];refine Vx (wpS_lift (Vq ⟨rfl,?_⟩));refine Vx (qX (p:=a[a.size-1]) (getElem?_pos a (a.size-1) (by omega)) ?_);dsimp only;have mi:MH (kl κ) a.toList b.toList (#[a[a.size-1]]:Array Keyed).toList.reverse (a.size-1) b.size:=by
  have:=h0.takeA (yC a1 (Vd _)) (λ x hx y hy=>by rw[Zn.mp hx];exact hl y (Ys hy))
  simpa using this
 by_cases h1:a.size-1=0
 ·rw[V4 (by simpa using h1)];refine Vw (h _ (gallopOf st) ?_);rw[qc9];exact mi.endA h1
 rw[V5 (by simpa using h1)];by_cases h2:b.size=1
 ·rw[V4 (by simpa using h2)];refine Vw (h _ (gallopOf st) ?_);rw[qeS];exact mi.first (by rw[h2];exact hd)
 rw[V5 (by simpa using h2)];refine Vx (V2 ?_);refine Vx (Vy (Vc (I:=λ x (c:D0) b0=>OkH κ a b st (x+1) c b0/\c.1=none) (Q:=λ c b0=>OkH κ a b st 0 c b0/\c.1≠none) ?step ?fin ⟨⟨⟨gallopOf st,rfl⟩,.inr ⟨rfl,mi,by show 0<a.size-1;omega,by show a.size-1<=a.size;omega,by show 1<b.size;omega,Vd _,by show a.size-1+b.size+(0+1)<=_;omega⟩⟩,rfl⟩) ?post)
 case post =>
  rintro⟨v,c⟩ b0 ⟨⟨⟨g,rfl⟩,ok⟩,hv⟩;rcases ok with⟨r,e,gd⟩|⟨e,_⟩
  ·cases e
   exact Vw (h r g gd)
  ·exact absurd e hv
 case fin =>
  rintro⟨v,i,j,o,g⟩ b0 ⟨⟨hs,ok⟩,hv⟩;rcases ok with⟨r,e,gd⟩|⟨e,_,i0,hi,j1,hj,hm⟩
  ·rw[hv] at e;cases e
  ·change 0<i at i0
   change i+j+_<=_ at hm
   omega
 case step =>
  rintro x c b0 _ hx ⟨ok,hn⟩;obtain⟨v,i,j,o,g⟩:=c;cases hn
  have ok1:OkH κ a b st (x+1) ((none,i,j,o,0,0):D1) b0:=ok;refine Vx (Vy (Vc (I:=λ y (c:D1) b0=>OkH κ a b st (x+1+y) c b0/\c.1=none) (Q:=λ c b0=>OkH κ a b st (x+2) c b0) ?istep ?ifin ⟨ok1,rfl⟩) ?ipost)
  case istep =>
   rintro y c l0 _ hy ⟨K7,aU⟩;refine Vy (show wpS (model prog w) A E s (hi0 a b g c) (qee κ a b st (x+1+y+1)) l0 from qnf hO hk ka kb hd K7 aU) λ r G5 hr=>?_
   cases r with
   |done c=>exact OkH.mono hr (by omega)
   |yield c=>exact hr
  case ifin =>
   rintro⟨v,i,j,o,p,q⟩ l0 ⟨⟨hs,K7⟩,hv⟩;rcases K7 with⟨r,e,gd⟩|⟨e,_,i0,hi,j1,hj,hm⟩
   ·rw[hv] at e;cases e
   ·change 0<i at i0
    change i+j+_<=_ at hm
    omega
  case ipost =>
   rintro⟨v,i,j,o,p,q⟩ l0 ⟨hs,K7⟩;dsimp only;cases v with
   |some v =>
    rcases K7 with⟨r,e,gd⟩|⟨e,_⟩
    ·cases e
     exact Vw ⟨⟨hs,.inl ⟨_,rfl,gd⟩⟩,by simp⟩
    ·cases e
   |none =>
    dsimp only;refine Vx (wpS_lift (Vq ⟨rfl,?_⟩));have ok3:OkH κ a b st (x+2) ((none,i,j,o,g+1,p,q):D2) l0:=⟨hs,K7⟩;refine Vx (Vy (Vc (I:=λ y (c:D2) b0=>OkH κ a b st (x+2) c b0/\c.1=none) (Q:=λ c b0=>OkH κ a b st (x+2) c b0) ?jstep ?jfin ⟨ok3,rfl⟩) ?jpost)
    case jfin=>exact λ c b0 hc=>hc.1
    case jstep =>
     rintro y ⟨v,i,j,o,g,p,q⟩ G5 _ hy ⟨⟨hs,eN⟩,hn⟩;have iJ:v=none:=hn;subst iJ;rcases eN with⟨r,e,gd⟩|⟨_,mi,i0,hi,j1,hj,hm⟩
     ·cases e
     change MH (kl κ) a.toList b.toList o.toList.reverse i j at mi
     change 0<i at i0
     change i<=a.size at hi
     change 1<j at j1
     change j<=b.size at hj
     change i+j+_<=_ at hm
     refine Vy (Q:=qee κ a b st (x+2)) ?_ λ r G5 hr=>?_
     ·by_cases hg:g > 1
      ·dsimp only;rw[V4 hg];show wpS (model prog w) A E s (hi1 a b o i j (g-1) p q) _ _
       exact qjX hO hk ka kb hd hs mi i0 hi j1 hj hm
      ·dsimp only;rw[V5 hg];show wpS (model prog w) A E s (hi1 a b o i j g p q) _ _
       exact qjX hO hk ka kb hd hs mi i0 hi j1 hj hm
     ·cases r with
      |done c=>exact hr
      |yield c=>exact hr
    case jpost =>
     rintro⟨v,i,j,o,g,p,q⟩ G5 ⟨hs,eN⟩;dsimp only;cases v with
     |some v =>
      rcases eN with⟨r,e,gd⟩|⟨e,_⟩
      ·cases e
       exact Vw ⟨⟨hs,.inl ⟨_,rfl,gd⟩⟩,by simp⟩
      ·cases e
     |none =>
      refine Vx (Vr (Vw ⟨⟨?_,eN⟩,rfl⟩));obtain⟨g1,rfl⟩:=hs;exact⟨g+1,rfl⟩
end
theorem qlM{x:σ}{Q:PUnit->σ->Prop}{st:σ}(h:Q ⟨⟩ x):wpS M A E s (set x:StateT σ Sem PUnit) Q st:=by
 unfold wpS;rw[StateT.run_set];exact Vm ⟨rfl,h⟩
theorem qgM(i:Nat):mergeAt' i=(do
 let st <- get
 let (some (sa,na,pw),some (sb,nb,_)):=((pendingOf st)[i]?,(pendingOf st)[i+1]?) | unsupported "internal:list.sort.pending"
 set (SortSt.mk' (kindOf st) (arrOf st) (((pendingOf st).setIfInBounds i (sa,na+nb,pw)).eraseIdxIfInBounds (i+1)) (gallopOf st) (failedOf st))
 let some k <- zZ false (<- elem' (arrOf st) sb) (arrOf st) sa na 0|return false
 let (sa,na):=(sa+k,na-k)
 if na == 0 then return true
 let some nb <- zZ true (<- elem' (arrOf st) (sa+na-1)) (arrOf st) sb nb (nb-1)|return false
 if nb == 0 then return true
 let x:=(arrOf st).extract sa sb
 let y:=(arrOf st).extract sb (sb+nb)
 let m <- if na<=nb then qc6 x y else qc8 x y
 modify λ s=>setArr s (m.toList.zipIdx.foldl (λ a (p,j)=>a.setIfInBounds (sa+j) p) (arrOf s))
 return (failedOf (<- get)).isNone):=rfl
theorem qfQ {U:List Keyed}:∀(l:List Keyed)(k:Nat)(M:List Keyed)(U:List Keyed)(arr:Array Keyed),arr.toList=U++(M++V)->U.length=sa+k->M.length=l.length ->
  ((l.zipIdx k).foldl (λ a (x:Keyed×Nat)=>a.setIfInBounds (sa+x.2) x.1) arr).toList=U++(l++V)
 | [],k,M,U,arr,e,hu,hm=>by
  have:M=[]:=XC.mp hm
  subst this;exact e
 |x::l,k,M,U,arr,e,hu,hm=>by
  obtain⟨m,M,rfl⟩:∃ m M',M=m::M':=by
   cases M with
   |nil=>cases hm
   |cons m M=>exact⟨m,M,rfl⟩
  rw[List.zipIdx_cons,U8]
  have:=qfQ (V:=V) (U:=U) (sa:=sa) l (k+1) M (U++[x]) (arr.setIfInBounds (sa+k) x) (by
   rw[Array.toList_setIfInBounds,e,<- hu,List.set_append_right _ _ (Vd _),Nat.sub_self];simp) (by rw[Zh,hu];rfl) (by simpa using hm)
  rw[this];simp
section
variable {prog:Program}{w:World}{A:Around}{E:Value->Shared->Prop}{s:Shared}{κ:KeyKind}{st:SortSt}
theorem qfR(hO:κ.OneLt)(hk:kindOf st=oneType')(hf:failedOf st=none)(e1:(pendingOf st)[i]?=some (sa,na,pa))(e2:(pendingOf st)[i+1]?=some (sb,nb,pb))(A1:sb=sa+na)(ea:(arrOf st).toList=L++(X++(Y++R)))(hL:L.length=sa)(hX:X.length=na)(hY:Y.length=nb)(na0:0<na)(nb0:0<nb)(sx:So κ X)(sy:So κ Y)(kx:∀ x∈X,Kd κ x)(kY:∀ x∈Y,Kd κ x)(h:∀(Z:List Keyed)(arr:Array Keyed)(g:Nat),Z.Perm (X++Y)->So κ Z->arr.toList=L++(Z++R) ->
   Q true (SortSt.mk' (kindOf st) arr (((pendingOf st).setIfInBounds i (sa,na+nb,pa)).eraseIdxIfInBounds (i+1)) g (failedOf st))):wpS (model prog w) A E s (mergeAt' i) Q st:=by
 have sz:(arrOf st).size=sa+na+nb+R.length:=by
  rw[<- Yx,ea];simp[hL,hX,hY];omega
 have gX:(arrOf st).toList.drop sa=X++(Y++R):=by rw[ea,<- hL,List.drop_left]
 have gY:(arrOf st).toList.drop sb=Y++R:=by rw[A1,<- J6,gX,<- hX,List.drop_left]
 have y0:Y[0]?=some (Y[0]'(by omega)):=Xy _;have aY:(arrOf st)[sb]?=some (Y[0]'(by omega)):=by
  have e:(arrOf st).toList[sb+0]?=some (Y[0]'(by omega)):=by rw[<- Zm,gY,Xo (by omega),y0]
  rw[<- XX];exact e
 have hy0:∀ y∈Y,kl κ (Y[0]'(by omega)) y:=by
  cases Y with
  |nil=>simp at hY;omega
  |cons z Y =>
   intro y hy;rcases Qi.mp hy with e|e
   ·rw[e];exact Jf _
   ·exact(Zj.mp sy).1 y e
 rw[qgM];refine Vx (V2 ?_);rw[e1,e2];dsimp only;refine Vx (qlM ?_);refine Vx (qX aY ?_);refine Vx (yo hO X (by rw[gX,<- hX,J7]) hk (kY _ (Ur _)) (by omega) kx sx (by omega) λ k mQ k1 k2=>?_);dsimp only;by_cases h0:na-k=0
 ·rw[V4 (by simpa using h0)];refine Vw (h (X++Y) (arrOf st) _ (Jw _) (Yq.mpr ⟨sx,sy,λ x hx y hy=>?_⟩) (by rw[ea,Zx]));have E6:k=X.length:=by omega
  rw[E6,Ut] at k1;exact Uu (BtF (k1 x hx)) (hy0 y hy)
 rw[V5 (by simpa using h0)];have xl:X[na-1]?=some (X[na-1]'(by omega)):=Xy _;have wN:∀ x∈X,kl κ x (X[na-1]'(by omega)):=by
  intro x hx;obtain⟨j,hj,rfl⟩:=Y2 hx;rcases Q7 j (na-1) with h1|h1
  ·exact Xu.mp sx j (na-1) hj (by omega) h1
  ·have:j=na-1:=by omega
   subst this;exact Jf _
 have aX:(arrOf st)[sa+k+(na-k)-1]?=some (X[na-1]'(by omega)):=by
  have e:sa+k+(na-k)-1=sa+(na-1):=by omega
  rw[e,<- XX,<- Zm,gX,Xo (by omega),xl]
 refine Vx (qX aX ?_);refine Vx (yo hO Y (by rw[gY,<- hY,J7]) hk (kx _ (Ur _)) (by omega) kY sy (by omega) λ n wZ n1 n2=>?_);dsimp only;by_cases tL:n=0
 ·rw[V4 (by simpa using tL)];refine Vw (h (X++Y) (arrOf st) _ (Jw _) (Yq.mpr ⟨sx,sy,λ x hx y hy=>?_⟩) (by rw[ea,Zx]));subst tL;exact Uu (wN x hx) (qlL (n2 y hy))
 rw[V5 (by simpa using tL)];have ex:((arrOf st).extract (sa+k) sb).toList=X.drop k:=by
  rw[Yp,Xs,<- J6,gX,Xc (by omega)];rw[show sb-(sa+k)=(X.drop k).length by rw[Um];omega,J7]
 have ey:((arrOf st).extract sb (sb+n)).toList=Y.take n:=by
  rw[Yp,Xs,gY,XB,Xb (by omega)]
 generalize hxe:(arrOf st).extract (sa+k) sb=x at ex ⊢;generalize hye:(arrOf st).extract sb (sb+n)=y at ey ⊢;have lx:x.size=na-k:=by rw[<- Yx,ex,Um,hX]
 have ly:y.size=n:=by rw[<- Yx,ey,Ul,hY];omega
 have sx':So κ (X.drop k):=sx.sublist (List.drop_sublist _ _);have sy':So κ (Y.take n):=sy.sublist (List.take_sublist _ _);have kx':∀ z∈x.toList,Kd κ z:=λ z hz=>kx z (Yr (by rw[<- ex];exact hz))
 have ky':∀ z∈y.toList,Kd κ z:=λ z hz=>kY z (Ys (by rw[<- ey];exact hz))
 have yz:y[0]'(by omega)=Y[0]'(by omega):=by
  have h1:y.toList[0]?=some (y[0]'(by omega)):=qbl (by omega);rw[ey,Xw (by omega),y0] at h1;exact(Option.some.inj h1).symm
 have xz:x[x.size-1]'(by omega)=X[na-1]'(by omega):=by
  have h1:x.toList[x.size-1]?=some (x[x.size-1]'(by omega)):=qbl (by omega);rw[ex,Zm,show k+(x.size-1)=na-1 by omega,xl] at h1;exact(Option.some.inj h1).symm
 have hd:∀ z∈x.toList,kl κ (y[0]'(by omega)) z:=λ z hz=>by
  rw[yz];rw[ex] at hz;exact qnd (k2 z hz)
 have hl:∀ z∈y.toList,kl κ z (x[x.size-1]'(by omega)):=λ z hz=>by
  rw[xz];rw[ey] at hz;exact BtT (n1 z hz)
 have post:∀(o:Array Keyed)(g:Nat),Gd (kl κ) x.toList y.toList o.toList->wpS (model prog w) A E s (do
   modify λ s=>setArr s (o.toList.zipIdx.foldl (λ a (p,j)=>a.setIfInBounds (sa+k+j) p) (arrOf s))
   return (failedOf (<- get)).isNone) Q (vi (SortSt.mk' (kindOf st) (arrOf st) (((pendingOf st).setIfInBounds i (sa,na+nb,pa)).eraseIdxIfInBounds (i+1)) (gallopOf st) (failedOf st)) g):=by
  rintro o g ⟨so,po⟩;refine Vx (Vr (Vx (V2 (Vw ?_))));rw[ex,ey] at po;have lo:o.toList.length=(X.drop k++Y.take n).length:=po.length_eq
  have:=h (X.take k++(o.toList++Y.drop n)) (o.toList.zipIdx.foldl (λ a (x:Keyed×Nat)=>a.setIfInBounds (sa+k+x.2) x.1) (arrOf st)) g ?_ ?_ ?_
  ·have e:(failedOf (vi st g)).isNone=true:=by show(failedOf st).isNone=true;rw[hf];rfl
   show Q (failedOf st).isNone _
   rw[show(failedOf st).isNone=true from e];exact this
  ·refine(((po.append_right (Y.drop n)).append_left (X.take k))).trans (List.Perm.of_eq ?_);rw[Zx,XZ,<- Zx,XZ]
  ·have mo:∀ z∈o.toList,z∈X.drop k∨z∈Y.take n:=λ z hz=>U1.mp (po.mem_iff.mp hz)
   have sX:So κ (X.take k++X.drop k):=by rw[XZ];exact sx
   have sY:So κ (Y.take n++Y.drop n):=by rw[XZ];exact sy
   refine Yq.mpr ⟨(Yq.mp sX).1,Yq.mpr ⟨so,(Yq.mp sY).2.1,λ z hz u hu=>?_⟩,λ z hz u hu=>?_⟩
   ·rcases mo z hz with h1 | h1
    ·exact Uu (wN z (Yr h1)) (qlL (n2 u hu))
    ·exact(Yq.mp sY).2.2 z h1 u hu
   ·rcases U1.mp hu with h1 | h1
    ·rcases mo u h1 with h2 | h2
     ·exact(Yq.mp sX).2.2 z hz u h2
     ·exact Uu (BtF (k1 z hz)) (hy0 u (Ys h2))
    ·exact Uu (BtF (k1 z hz)) (hy0 u (Yr h1))
  ·have:=qfQ (V:=Y.drop n++R) (U:=[]) (sa:=sa+k) o.toList 0 (X.drop k++Y.take n) (L++X.take k) (arrOf st) (by
    rw[ea]
    conv=>lhs;rw[<- XZ k X,<- XZ n Y]
    simp only[Zx]) (by rw[Zh,Ul];omega) lo.symm
   rw[this];simp only[Zx]
 by_cases A0:na-k<=n
 ·rw[V4 A0];refine Vx (qfO hO hk kx' ky' ⟨by simpa [ex] using sx',by simpa [ey] using sy',by simp⟩ (by omega) (by omega) hd (λ z hz u hu=>?_) post);rw[yn (qbl (by omega)),XM (by rw[Yx];omega),U4,Zn] at hz;rw[hz];exact hl u hu
 ·rw[V5 A0];refine Vx (qfP hO hk kx' ky' ⟨?_,?_,?_⟩ (by omega) (by omega) (λ z hz u hu=>?_) hl post)
  ·rw[U4,XL (by rw[Yx];exact Vd _),ex];exact sx'
  ·rw[U4,XL (by rw[Yx];exact Vd _),ey];exact sy'
  ·rw[U4,XL (by rw[Yx];exact Vd _),XL (by rw[Yx];exact Vd _)]
  ·rw[show(1:Nat)=0+1 from rfl,ze (qbl (a:=y) (i:=0) (by omega)),J5,U9,Zn] at hz;rw[hz];exact hd u hu
end
theorem qaF{α:Type}{r:α->α->Prop}(tr:∀ x y z,r x y->r y z->r x z){T:List α}{x:Nat}(h:(T.take x).Pairwise r)(h1:1<=x)(hx:x<T.length)(hr:r (T[x-1]'(by omega)) T[x]):(T.take (x+1)).Pairwise r:=by
 rw[Xa hx];refine Yq.mpr ⟨h,List.pairwise_singleton _ _,λ y hy z hz=>?_⟩;rw[Zn.mp hz];obtain⟨j,hj,rfl⟩:=Y2 hy;rw[Ul] at hj;rw[Z8];rcases Q7 j (x-1) with h2|h2
 ·have:=Xu.mp h j (x-1) (by rw[Ul];omega) (by rw[Ul];omega) h2
  rw[Z8,Z8] at this;exact tr _ _ _ this hr
 ·have:j=x-1:=by omega
  subst this;exact hr
theorem qbZ:∀(T U:List Keyed)(arr:Array Keyed),arr.toList=U++(T++(x::V))->(bubble arr (U.length+T.length) T.length).toList=U++(x::(T++V))
 | [],U,arr,e=>e
 |t::T,U,arr,e=>by
  have ih:=qbZ (x:=x) (V:=V) T (U++[t]) arr (by rw[e];simp);have e1:(U++[t]).length+T.length=U.length+(t::T).length:=by simp;omega
  rw[e1] at ih;show(bubble arr (U.length+(t::T).length) (T.length+1)).toList=_
  rw[bubble_succ];generalize bubble arr (U.length+(t::T).length) T.length=b at ih ⊢;have sz:b.size=U.length+1+(1+(T.length+V.length)):=by rw[<- Yx,ih];simp;omega
  have l1:U.length+(t::T).length-T.length=U.length+1:=by simp;omega
  rw[l1,show U.length+1-1=U.length by omega,Array.swapIfInBounds_def,V3 (by omega),V3 (by omega),Array.toList_swap];have a1:b[U.length]'(by omega)=t:=by
   have:b.toList[U.length]?=some (b[U.length]'(by omega)):=qbl (by omega)
   rw[ih] at this;simpa using this.symm
  have a2:b[U.length+1]'(by omega)=x:=by
   have:b.toList[U.length+1]?=some (b[U.length+1]'(by omega)):=qbl (by omega)
   rw[ih] at this;simpa using this.symm
  rw[a1,a2,ih];simp[List.set_append]
theorem qfS{arr:Array Keyed}(e:arr.toList=L++(D++R)):(mirror arr L.length (L.length+D.length) ((L.length+D.length-L.length) / 2)).toList=L++(D.reverse++R):=by
 have sz:arr.size=L.length+(D.length+R.length):=by rw[<- Yx,e];simp
 refine Z1 λ k=>?_
 rw[XX,getElem?_mirror_all (by omega)];by_cases h:L.length<=k/\k<L.length+D.length
 ·rw[V4 h,<- XX,e,Xh (by omega),Xo (by omega),Xh (by omega),Xo (by rw[Y6];omega),List.getElem?_reverse (by omega)];congr 1;omega
 ·rw[V5 h,<- XX,e];rcases Q7 k L.length with h1 | h1
  ·rw[Xo h1,Xo h1]
  ·rw[Xh h1,Xh h1,Xh (by omega),Xh (by rw[Y6];omega),Y6]
section
variable {prog:Program}{w:World}{A:Around}{E:Value->Shared->Prop}{s:Shared}{κ:KeyKind}{st:SortSt}
theorem qbn(hO:κ.OneLt)(hk:kindOf st=oneType')(e1:(arrOf st)[i]?=some x)(e2:(arrOf st)[j]?=some y)(hx:Kd κ x)(hy:Kd κ y)(h:Q (some (κ.blt (ky κ x) (ky κ y))) st):wpS (model prog w) A E s (ltAt' i j) Q st:=by
 rw[ltAt'_eq];refine Vx (V2 ?_);exact Vx (qX e1 (Vx (qX e2 (qc5 hO hk hx hy h))))
theorem jB{arr:Array Keyed}(e:arr.toList=L++T)(hi:i<T.length):arr[L.length+i]?=some T[i]:=by
 rw[<- XX,e,Xh (by omega),XB];exact Xy hi
theorem qjY(x y z:Keyed)(h1:kl κ x y)(h2:kl κ y z):kl κ x z:=Uu h1 h2
theorem qda(T:List Keyed):(T.take 1).Pairwise r:=by
 cases T with
 |nil=>simp
 |cons x T=>simp
theorem qdb(hO:κ.OneLt) {lo:Nat}(hk:kindOf st=oneType')(ea:(arrOf st).toList=L++T)(hL:L.length=lo)(hn:n<=T.length)(hok:ok<=n)(kT:∀ x∈T,Kd κ x)(so:So κ (T.take ok))(n1:1<=n)(h:∀(T':List Keyed)(arr:Array Keyed),T'.Perm T->arr.toList=L++T'->So κ (T'.take n)->Q true (setArr st arr)):wpS (model prog w) A E s (binarySort' lo n ok) Q st:=by
 subst hL;rw[binarySort'_eq];refine Vx (Vy (Vc
  (I:=λ k c b0=>c=(none,())/\∃(T':List Keyed)(arr:Array Keyed),T'.Perm T/\arr.toList=L++T'/\So κ (T'.take (min k n))/\b0=setArr st arr)
  (Q:=λ c b0=>c=(none,())/\∃(T':List Keyed)(arr:Array Keyed),T'.Perm T/\arr.toList=L++T'/\So κ (T'.take n)/\b0=setArr st arr) ?step ?fin ?init) ?post)
 case post =>
  rintro c b0 ⟨rfl,T',arr,p,e,R3,rfl⟩;exact Vw (h T' arr p e R3)
 case fin =>
  rintro c b0 ⟨hc,T',arr,p,e,R3,rfl⟩;rw[show min (max (max ok 1) n) n=n by omega] at R3;exact⟨hc,T',arr,p,e,R3,rfl⟩
 case init =>
  refine⟨rfl,T,arrOf st,Jw _,ea,?_,rfl⟩;by_cases h1:ok=0
  ·subst h1;rw[show min (max 0 1) n=1 by omega];exact qda T
  ·rw[show min (max ok 1) n=ok by omega];exact so
 case step =>
  rintro k c b0 hak hkn ⟨rfl,T',arr,p,e,R3,rfl⟩;rw[show min k n=k by omega] at R3;have lT:T'.length=T.length:=p.length_eq;have kT':∀ x∈T',Kd κ x:=λ x hx=>kT x (p.mem_iff.mp hx)
  have hkl:k<T'.length:=by omega
  have E6:kindOf (setArr st arr)=oneType':=hk;refine Vx (Vy (Vc (I:=λ x c l0=>l0=setArr st arr/\∃ l r,c=(none,l,r)/\l<=r/\r<=k/\r-l<=k-x /\
    (∀ y∈(T'.take k).take l,kl κ y T'[k])/\(∀ y∈(T'.take k).drop r,kl κ T'[k] y))
   (Q:=λ c l0=>l0=setArr st arr/\∃ l r,c=(none,l,r)/\l<=k/\(∀ y∈(T'.take k).take l,kl κ y T'[k])/\(∀ y∈(T'.take k).drop l,kl κ T'[k] y)) ?istep ?ifin ?iinit) ?ipost)
  case iinit=>exact⟨rfl,0,k,rfl,by omega,by omega,by omega,λ y hy=>by simp at hy,λ y hy=>by rw[XM (by rw[Ul];omega)] at hy;cases hy⟩
  case ifin =>
   rintro c l0 ⟨rfl,l,r,rfl,hlr,hrk,hm,h1,h2⟩
   have:l=r:=by omega
   subst this;exact⟨rfl,l,l,rfl,hrk,h1,h2⟩
  case istep =>
   rintro x c l0 _ hxk ⟨rfl,l,r,rfl,hlr,hrk,hm,h1,h2⟩;dsimp only;by_cases hge:l ≥ r
   ·rw[V4 hge]
    have:l=r:=by omega
    subst this;exact Vw ⟨rfl,l,l,rfl,hrk,h1,h2⟩
   ·rw[V5 hge];have hml:(l+r) / 2<T'.length:=by omega
    have hmk:(l+r) / 2<(T'.take k).length:=by rw[Ul];omega
    refine Vx (qbn hO E6 (jB e hkl) (jB e hml) (kT' _ (Ur _)) (kT' _ (Ur _)) ?_);cases hc:κ.blt (ky κ T'[k]) (ky κ T'[(l+r) / 2])
    case true =>
     simp only[V1];refine Vw ⟨rfl,l,(l+r) / 2,rfl,by omega,by omega,by omega,h1,λ y hy=>?_⟩;obtain⟨j,hj,rfl⟩:=Y2 hy;rw[Um] at hj;rw[List.getElem_drop];rcases Nat.eq_zero_or_pos j with h3|h3
     ·subst h3;have e3:(T'.take k)[(l+r) / 2+0]'(by omega)=T'[(l+r) / 2]:=by rw[Z8];rfl
      rw[e3];exact Z7 hc
     ·have:=Xu.mp R3 ((l+r) / 2) ((l+r) / 2+j) hmk (by omega) (by omega)
      rw[Z8] at this;exact Uu (Z7 hc) this
    case false =>
     simp only[Zl,Vv];refine Vw ⟨rfl,(l+r) / 2+1,r,rfl,by omega,by omega,by omega,λ y hy=>?_,h2⟩;obtain⟨j,hj,rfl⟩:=Y2 hy;rw[Ul] at hj;rw[Z8];rcases Q7 j ((l+r) / 2) with h3|h3
     ·have:=Xu.mp R3 j ((l+r) / 2) (by omega) hmk h3
      rw[Z8 (j:=k) (i:=(l+r) / 2)] at this;exact Uu this hc
     ·have:j=(l+r) / 2:=by omega
      subst this;rw[Z8];exact hc
  case ipost =>
   rintro c l0 ⟨rfl,l,r,rfl,hlk,h1,h2⟩;show wpS _ _ _ _ (do moveDown' (L.length+k) (L.length+l);pure (ForInStep.yield (none,()))) _ _
   rw[moveDown'_eq];have eT:T'=(T'.take k).take l++((T'.take k).drop l++(T'[k]::T'.drop (k+1))):=by
    rw[<- Zx,XZ,<- Xt,XZ]
   have lS:((T'.take k).drop l).length=k-l:=by rw[Um,Ul];omega
   have lU:(L++(T'.take k).take l).length=L.length+l:=by rw[Zh,Ul,Ul];omega
   have bl:=qbZ (x:=T'[k]) (V:=T'.drop (k+1)) ((T'.take k).drop l) (L++(T'.take k).take l) arr (by rw[e,Zx];conv=>lhs;rw[eT]);rw[lU,lS] at bl;refine Vx (Vr (Vw ⟨rfl,(T'.take k).take l++(T'[k]::((T'.take k).drop l++T'.drop (k+1))),bubble arr (L.length+k) (L.length+k-(L.length+l)),?_,?_,?_,rfl⟩))
   ·refine List.Perm.trans ?_ p
    conv=>rhs;rw[eT]
    exact(List.perm_middle.symm).append_left _
   ·rw[show L.length+k-(L.length+l)=k-l by omega];rw[show L.length+l+(k-l)=L.length+k by omega] at bl;rw[bl,Zx]
   ·rw[show min (k+1) n=k+1 by omega];have e3:((T'.take k).take l++(T'[k]::((T'.take k).drop l++T'.drop (k+1)))).take (k+1)=(T'.take k).take l++(T'[k]::(T'.take k).drop l):=by
     rw[show(T'.take k).take l++(T'[k]::((T'.take k).drop l++T'.drop (k+1)))=((T'.take k).take l++(T'[k]::(T'.take k).drop l))++T'.drop (k+1) by simp];rw[show k+1=((T'.take k).take l++(T'[k]::(T'.take k).drop l)).length by rw[Zh,Uj,lS,Ul,Ul];omega,J7]
    rw[e3];have wC:So κ ((T'.take k).take l++(T'.take k).drop l):=by rw[XZ];exact R3
    have so3:=Yq.mp wC;refine Yq.mpr ⟨so3.1,Zj.mpr ⟨h2,so3.2.1⟩,λ y hy z hz=>?_⟩;rcases Qi.mp hz with h4|h4
    ·rw[h4];exact h1 y hy
    ·exact so3.2.2 y hy z h4
end
noncomputable def asc(lo a nrem:Nat):SM (Option (Option Nat)×Nat):=forIn [a:nrem] ((none,a):Option (Option Nat)×Nat) λ _ r=>do
 let c <- ltAt' (lo+r.2) (lo+r.2-1)
 match c with
 |some c=>if c then pure (.done (none,r.2)) else pure (.yield (none,r.2+1))
 |_=>pure (.done (some none,r.2))
abbrev Nk(κ:KeyKind)(l:List Keyed):Prop:=l.Pairwise λ x y=>ky κ x≠ky κ y
section
variable {prog:Program}{w:World}{A:Around}{E:Value->Shared->Prop}{s:Shared}{κ:KeyKind}{st:SortSt}
theorem qjZ(hO:κ.OneLt){lo a:Nat}{L T:List Keyed}(hk:kindOf st=oneType')(ea:(arrOf st).toList=L++T)(hL:L.length=lo)(ha:1<=a)(haT:a<=T.length)(kT:∀ x∈T,Kd κ x)(so:So κ (T.take a))(h:∀ n,a<=n->n<=T.length->So κ (T.take n)->(∀(hn:n<T.length),κ.klt (ky κ T[n]) (ky κ (T[n-1]'(by omega))))->Q (none,n) st):wpS (model prog w) A E s (asc lo a T.length) Q st:=by
 subst hL;unfold asc;refine Vc (I:=λ x c b0=>b0=st/\c=(none,x)/\So κ (T.take x)) ?step ?fin ⟨rfl,rfl,so⟩
 case fin =>
  rintro c b0 ⟨rfl,rfl,R3⟩;rw[show max a T.length=T.length by omega] at R3 ⊢;exact h T.length haT (Vd _) R3 (λ hn=>absurd hn (Qh _))
 case step =>
  rintro x c b0 cO hx ⟨rfl,rfl,R3⟩;dsimp only;have e2:(arrOf b0)[L.length+x-1]?=some (T[x-1]'(by omega)):=by
   rw[show L.length+x-1=L.length+(x-1) by omega];exact jB ea (by omega)
  refine Vx (qbn hO hk (jB ea hx) e2 (kT _ (Ur _)) (kT _ (Ur _)) ?_);cases hc:κ.blt (ky κ T[x]) (ky κ (T[x-1]'(by omega)))
  case true =>
   simp only[V1];exact Vw (h x cO (by omega) R3 (λ _=>hc))
  case false =>
   simp only[Zl,Vv];exact Vw ⟨rfl,rfl,qaF qjY R3 (by omega) hx hc⟩
theorem qeT(hO:κ.OneLt){lo:Nat}(hk:kindOf st=oneType')(ea:(arrOf st).toList=L++T)(hL:L.length=lo)(h1:1<=T.length)(kT:∀ x∈T,Kd κ x)(nk:Nk κ T)(h:∀(m:Nat)(T':List Keyed)(arr:Array Keyed),T'.Perm T->arr.toList=L++T'->1<=m->m<=T.length->So κ (T'.take m)->Q (some m) (setArr st arr)):wpS (model prog w) A E s (countRun' lo T.length) Q st:=by
 rw[countRun'_eq];refine Vx (show wpS (model prog w) A E s (asc lo 1 T.length) _ _ from qjZ hO hk ea hL (Vd _) h1 kT (qda T) λ n n1 n2 so hn=>?_);dsimp only;by_cases hnn:n=T.length
 ·rw[V4 (by simpa using hnn)];exact Vw (h n T (arrOf st) (Jw _) ea n1 n2 so)
 rw[V5 (by simpa using hnn)];by_cases hgt:n > 1
 ·rw[V4 hgt];have e0:(arrOf st)[lo]?=some T[0]:=by rw[<- hL];exact jB (i:=0) ea (by omega)
  have e1:(arrOf st)[lo+n-1]?=some (T[n-1]'(by omega)):=by
   rw[<- hL,show L.length+n-1=L.length+(n-1) by omega];exact jB ea (by omega)
  refine Vx (qbn hO hk e0 e1 (kT _ (Ur _)) (kT _ (Ur _)) ?_);have c8:κ.blt (ky κ T[0]) (ky κ (T[n-1]'(by omega)))=true:=by
   cases hc:κ.blt (ky κ T[0]) (ky κ (T[n-1]'(by omega))) with
   |true=>rfl
   |false =>
    have h2:=Xu.mp so 0 (n-1) (by rw[Ul];omega) (by rw[Ul];omega) (by omega);rw[Z8,Z8] at h2;exact absurd (KeyOrd.kle_antisymm (O:=κ.toKeyOrd) h2 hc) (Xu.mp nk 0 (n-1) (by omega) (by omega) (by omega))
  rw[c8];dsimp only;rw[V4 rfl];exact Vw (h n T (arrOf st) (Jw _) ea n1 n2 so)
 rw[V5 hgt];have wZ:n=1:=by omega
 subst wZ;refine Vx (wpS_lift (Vq ⟨rfl,?_⟩));refine Vx (Vy (Vc (I:=λ x c b0=>b0=st/\c=(none,x,0)/\(T.take x).Pairwise (λ x y=>kl κ y x))
  (Q:=λ c b0=>b0=st/\∃ x,c=(none,x,0)/\2<=x/\x<=T.length/\(T.take x).Pairwise (λ x y=>kl κ y x)) ?step ?fin ⟨rfl,rfl,?init⟩) ?post)
 case init =>
  exact qaF (r:=λ x y=>kl κ y x) (λ x y z a b=>qjY _ _ _ b a) (qda T) (Vd _) (by omega) (Z7 (hn (by omega)))
 case fin =>
  rintro c b0 ⟨rfl,rfl,hp⟩;rw[show max (1+1) T.length=T.length by omega] at hp ⊢;exact⟨rfl,_,rfl,by omega,Vd _,hp⟩
 case step =>
  rintro x c b0 cO hx ⟨rfl,rfl,hp⟩;dsimp only;have ex:(arrOf b0)[lo+x]?=some T[x]:=by rw[<- hL];exact jB ea hx
  have ey:(arrOf b0)[lo+x-1]?=some (T[x-1]'(by omega)):=by
   rw[<- hL,show L.length+x-1=L.length+(x-1) by omega];exact jB ea (by omega)
  refine Vx (qbn hO hk ex ey (kT _ (Ur _)) (kT _ (Ur _)) ?_);cases hc:κ.blt (ky κ T[x]) (ky κ (T[x-1]'(by omega)))
  case true =>
   simp only[V1];rw[V5 (by omega)];exact Vw ⟨rfl,rfl,qaF (r:=λ x y=>kl κ y x) (λ x y z a b=>qjY _ _ _ b a) hp (by omega) hx (Z7 hc)⟩
  case false =>
   simp only[Zl,Vv];refine Vx (qbn hO hk ey ex (kT _ (Ur _)) (kT _ (Ur _)) ?_);have c8:κ.blt (ky κ (T[x-1]'(by omega))) (ky κ T[x])=true:=by
    cases mS:κ.blt (ky κ (T[x-1]'(by omega))) (ky κ T[x]) with
    |true=>rfl
    |false=>exact absurd (KeyOrd.kle_antisymm (O:=κ.toKeyOrd) hc mS) (Xu.mp nk (x-1) x (by omega) (by omega) (by omega))
   rw[c8];simp only[V1];exact Vw ⟨rfl,x,rfl,cO,by omega,hp⟩
 case post =>
  rintro c b0 ⟨rfl,x,rfl,x2,xT,hp⟩;dsimp only;rw[V5 (by omega)];rw[reverseSlice'_eq];have ml:=qfS (L:=L) (D:=T.take x) (R:=T.drop x) (arr:=arrOf b0) (by rw[XZ];exact ea);rw[Ul,show min x T.length=x by omega,hL] at ml;refine Vx (Vr ?_);have pT:((T.take x).reverse++T.drop x).Perm T:=by
   refine((List.reverse_perm _).append_right _).trans (List.Perm.of_eq (XZ x T))
  have lT:((T.take x).reverse++T.drop x).length=T.length:=pT.length_eq;rw[<- lT];refine Vx (show wpS (model prog w) A E s (asc lo x ((T.take x).reverse++T.drop x).length) _ _ from qjZ (T:=(T.take x).reverse++T.drop x) hO hk ml hL (by omega) (by omega) (λ y hy=>kT y (pT.mem_iff.mp hy)) ?_ λ n n1 n2 so hn=>?_)
  ·have:x=(T.take x).reverse.length:=by rw[Y6,Ul];omega
   rw[Xb (by omega),XL (by omega)];exact List.pairwise_reverse.mpr hp
  ·exact Vw (h n _ _ pT ml (by omega) (by omega) so)
end
inductive Rs(κ:KeyKind):Nat->List (Nat×Nat×Nat)->List Keyed->Prop
 |nil (o:Nat):Rs κ o [] []
 |cons {o n p:Nat} {X:List Keyed} {ps:List (Nat×Nat×Nat)} {T:List Keyed}:X.length=n->0<n->So κ X->Rs κ (o+n) ps T->Rs κ o ((o,n,p)::ps) (X++T)
theorem Rs.snoc{κ:KeyKind}{o:Nat}{ps:List (Nat×Nat×Nat)}{T X:List Keyed}{n p:Nat}(h:Rs κ o ps T)(hX:X.length=n)(hn:0<n)(so:So κ X):Rs κ o (ps++[(o+T.length,n,p)]) (T++X):=by
 induction h with
 |nil o=>
  have:=Rs.cons (p:=p) (o:=o) hX hn so (Rs.nil (κ:=κ) (o+n))
  simpa using this
 |cons e1 e2 e3 _ ih =>
  rw[Zx,Zh,e1];refine Rs.cons e1 e2 e3 ?_;rw[<- Qp];exact ih
theorem Rs.len(h:Rs κ o ps T):ps.length<=T.length:=by
 induction h with
 |nil o=>exact Vd _
 |cons e1 e2 _ _ ih=>rw[Uj,Zh];omega
theorem Rs.at2(h:Rs κ o ps T):∀{i:Nat}{sa na pa sb nb pb:Nat},ps[i]?=some (sa,na,pa)->ps[i+1]?=some (sb,nb,pb) ->
  ∃ L X Y R,T=L++(X++(Y++R))/\o+L.length=sa/\X.length=na/\Y.length=nb/\0<na/\0<nb/\sb=sa+na/\So κ X/\So κ Y /\
   ∀ Z,Z.length=na+nb->So κ Z->Rs κ o ((ps.set i (sa,na+nb,pa)).eraseIdx (i+1)) (L++(Z++R)):=by
 induction h with
 |nil o=>intro i sa na pa sb nb pb h1 _;simp at h1
 | @cons o n p X ps T e1 e2 e3 hr ih =>
  intro i sa na pa sb nb pb h1 h2;cases i with
  |zero =>
   simp only[List.getElem?_cons_zero,Option.some.injEq,Prod.mk.injEq] at h1;obtain⟨rfl,rfl,rfl⟩:=h1;cases hr with
   |nil=>simp at h2
   | @cons _ n2 p2 Y ps T e4 e5 e6 hr =>
    simp only[List.getElem?_cons_succ,List.getElem?_cons_zero,Option.some.injEq,Prod.mk.injEq] at h2;obtain⟨rfl,rfl,rfl⟩:=h2;refine⟨[],X,Y,T,rfl,rfl,e1,e4,e2,e5,rfl,e3,e6,λ Z hZ so=>?_⟩;show Rs κ o ((o,n+n2,p)::ps) (Z++T)
    refine Rs.cons hZ (by omega) so ?_;rw[<- Qp];exact hr
  |succ i =>
   rw[List.getElem?_cons_succ] at h1 h2;obtain⟨L,X',Y,R,rfl,a1,a2,a3,a4,a5,a6,a7,a8,a9⟩:=ih h1 h2;refine⟨X++L,X',Y,R,by rw[Zx],by rw[Zh];omega,a2,a3,a4,a5,a6,a7,a8,λ Z hZ so=>?_⟩;rw[Zx];exact Rs.cons e1 e2 e3 (a9 Z hZ so)
theorem Rs.repower(h:Rs κ o ps T)(q:Nat):∀ i,Rs κ o (ps.modify i λ x=>(x.1,x.2.1,q)) T:=by
 induction h with
 |nil o=>intro i;cases i <;> exact Rs.nil _
 |cons e1 e2 e3 hr ih =>
  intro i;cases i with
  |zero=>exact Rs.cons e1 e2 e3 hr
  |succ i=>exact Rs.cons e1 e2 e3 (ih i)
theorem Rs.one(h:Rs κ 0 ps T)(hl:ps.length<=1):So κ T:=by
 cases h with
 |nil=>exact List.Pairwise.nil
 |cons e1 e2 e3 hr =>
  cases hr with
  |nil=>rw[U4];exact e3
  |cons _ _ _ _=>simp at hl
def Rt(κ:KeyKind)(a₀:List Keyed)(st:SortSt)(lo:Nat)(T:List Keyed):Prop:=
 kindOf st=oneType'/\failedOf st=none/\∃ D,(arrOf st).toList=D++T/\D.length=lo/\(D++T).Perm a₀/\Rs κ 0 (pendingOf st).toList D
section
variable {prog:Program}{w:World}{A:Around}{E:Value->Shared->Prop}{s:Shared}{κ:KeyKind}{st:SortSt}
theorem qaG(hO:κ.OneLt) {lo:Nat}(k0:∀ x∈a₀,Kd κ x)(rt:Rt κ a₀ st lo T)(hi:i+1<(pendingOf st).size)(h:∀ b0,Rt κ a₀ b0 lo T->(pendingOf b0).size+1=(pendingOf st).size->Q true b0):wpS (model prog w) A E s (mergeAt' i) Q st:=by
 obtain⟨hk,hf,D,ea,hD,pm,rs⟩:=rt;obtain⟨⟨sa,na,pa⟩,e1⟩:∃ x,(pendingOf st).toList[i]?=some x:=⟨_,Xy (by rw[Yx];omega)⟩;obtain⟨⟨sb,nb,pb⟩,e2⟩:∃ x,(pendingOf st).toList[i+1]?=some x:=⟨_,Xy (by rw[Yx];omega)⟩;obtain⟨L,X,Y,R,rfl,a1,a2,a3,a4,a5,a6,a7,a8,a9⟩:=rs.at2 e1 e2;have kd:∀ x∈X++Y,Kd κ x:=λ x hx=>k0 x (pm.mem_iff.mp (by
  rcases U1.mp hx with h|h <;> simp[h]))
 refine qfR hO (L:=L) (X:=X) (Y:=Y) (R:=R++T) hk hf (by rw[<- XX];exact e1) (by rw[<- XX];exact e2) a6 (by rw[ea];simp only[Zx]) (by omega) a2 a3 a4 a5 a7 a8 (λ x hx=>kd x (Ym _ hx)) (λ x hx=>kd x (XS _ hx)) λ Z arr g pz sz ez=>?_
 have lZ:Z.length=na+nb:=by rw[pz.length_eq,Zh,a2,a3]
 refine h _ ⟨hk,hf,L++(Z++R),?_,?_,?_,?_⟩ ?_
 ·show arr.toList=_
  rw[ez];simp only[Zx]
 ·rw[<- hD];simp only[Zh];omega
 ·refine List.Perm.trans ?_ pm;refine List.Perm.append_right T (List.Perm.append_left L ?_);rw[<- Zx X];exact pz.append_right R
 ·show Rs κ 0 (((pendingOf st).setIfInBounds i (sa,na+nb,pa)).eraseIdxIfInBounds (i+1)).toList _
  rw[show(((pendingOf st).setIfInBounds i (sa,na+nb,pa)).eraseIdxIfInBounds (i+1)).toList=((pendingOf st).toList.set i (sa,na+nb,pa)).eraseIdx (i+1) by simp[Array.eraseIdxIfInBounds,hi]];exact a9 Z lZ sz
 ·show(((pendingOf st).setIfInBounds i (sa,na+nb,pa)).eraseIdxIfInBounds (i+1)).size+1=_
  simp only[Array.eraseIdxIfInBounds,Array.size_setIfInBounds,hi,V3,Array.size_eraseIdx];omega
theorem Rt.len{lo:Nat}(h:Rt κ a₀ st lo T):lo+T.length=a₀.length:=by
 obtain⟨_,_,D,_,hD,pm,_⟩:=h
 have:=pm.length_eq
 rw[Zh] at this;omega
theorem Rt.push {lo:Nat}(h:Rt κ a₀ st lo T)(n1:1<=n)(n2:n<=T.length)(so:So κ (T.take n)):Rt κ a₀ (setPending st ((pendingOf st).push (lo,n,0))) (lo+n) (T.drop n):=by
 obtain⟨b1,b2,D,b3,b4,b5,b6⟩:=h;refine⟨b1,b2,D++T.take n,?_,?_,?_,?_⟩
 ·show(arrOf st).toList=_
  rw[b3,Zx,XZ]
 ·rw[Zh,Ul];omega
 ·rw[Zx,XZ];exact b5
 ·show Rs κ 0 ((pendingOf st).push (lo,n,0)).toList _
  rw[Z2]
  have:=b6.snoc (p:=0) (X:=T.take n) (n:=n) (by rw[Ul];omega) (by omega) so
  rw[Q6,b4] at this;exact this
theorem Rt.repower {lo:Nat}(h:Rt κ a₀ st lo T)(hf:f=λ x=>(x.1,x.2.1,q))(i:Nat):Rt κ a₀ (setPending st ((pendingOf st).modify i f)) lo T:=by
 subst hf;obtain⟨b1,b2,D,b3,b4,b5,b6⟩:=h;refine⟨b1,b2,D,b3,b4,b5,?_⟩;show Rs κ 0 ((pendingOf st).modify i λ x=>(x.1,x.2.1,q)).toList D
 rw[Array.toList_modify];exact b6.repower _ _
theorem qdL(hO:κ.OneLt)(k0:∀ x∈a₀.toList,Kd κ x)(nk:Nk κ a₀.toList)(hk:kindOf st=oneType')(hf:failedOf st=none)(hp:pendingOf st=#[])(ha:arrOf st=a₀)(h:∀ b0,(arrOf b0).Perm a₀->failedOf b0=none->So κ (arrOf b0).toList->Q () b0):wpS (model prog w) A E s sortRuns' Q st:=by
 have nkp:∀{l:List Keyed},l.Perm a₀.toList->Nk κ l:=λ p=>(p.pairwise_iff (λ{x y} hxy e=>hxy e.symm)).mpr nk
 rw[sortRuns'_eq];refine Vx (V2 ?_);dsimp only;rw[ha];have rt0:Rt κ a₀.toList st 0 a₀.toList:=⟨hk,hf,[],by rw[ha];rfl,rfl,Jw _,by rw[hp];exact Rs.nil _⟩;refine Vx (Vy (Vc
  (I:=λ x (c:Option Unit×Nat) b0=>c.1=none/\∃ T,Rt κ a₀.toList b0 c.2 T/\(x<=c.2∨c.2=a₀.size))
  (Q:=λ c b0=>c.1=none/\Rt κ a₀.toList b0 a₀.size []) ?step ?fin ⟨rfl,_,rt0,.inl (Vd _)⟩) ?post)
 case fin =>
  rintro⟨v,lo⟩ b0 ⟨hv,T,rt,hx⟩
  have:=rt.len
  have xB:a₀.toList.length=a₀.size:=Yx;change lo+_=_ at this
  change max 0 a₀.size<=lo∨lo=a₀.size at hx
  have e:lo=a₀.size:=by omega
  have e2:T=[]:=XC.mp (by omega);subst e;subst e2;exact⟨hv,rt⟩
 case step =>
  rintro x ⟨v,lo⟩ b0 _ hx ⟨hv,T,rt,wN⟩;have aG:v=none:=hv;subst aG;change x<=lo∨lo=a₀.size at wN
  change Rt κ a₀.toList b0 lo T at rt
  dsimp only;have A0:=rt.len;have xB:a₀.toList.length=a₀.size:=Yx;by_cases hge:lo ≥ a₀.size
  ·rw[V4 hge];have e:lo=a₀.size:=by omega
   have e2:T=[]:=XC.mp (by omega);subst e;subst e2;exact Vw ⟨rfl,rt⟩
  rw[V5 hge];obtain⟨E6,hf',D,ea,hD,pm,rs⟩:=rt;have lT:a₀.size-lo=T.length:=by omega
  have kT:∀ x∈T,Kd κ x:=λ x hx=>k0 x (pm.mem_iff.mp (XS _ hx))
  have nT:Nk κ T:=(Yq.mp (nkp pm)).2.1;rw[lT];refine Vx (qeT hO E6 ea hD (by omega) kT nT λ m T1 gZ p1 ea1 m1 m2 so1=>?_);dsimp only;have l1:T1.length=T.length:=p1.length_eq;have wH:∀(T2:List Keyed)(T5:Array Keyed),T2.Perm T->T5.toList=D++T2->Rt κ a₀.toList (setArr b0 T5) lo T2:=λ T2 T5 p2 xN=>⟨E6,hf',D,xN,hD,(p2.append_left D).trans pm,rs⟩
  by_cases c8:m<minRun' a₀.size a₀.size 0
  ·rw[V4 c8];refine Vx (wpS_lift (Vq ⟨rfl,?_⟩));refine Vx (qdb hO (st:=setArr b0 gZ) E6 ea1 hD (n:=min T.length (minRun' a₀.size a₀.size 0)) (by omega) (by omega) (λ y hy=>kT y (p1.mem_iff.mp hy)) so1 (by omega) λ T2 T5 p2 xN wC=>?_);simp only[Qn,Zl,Vv];have l2:T2.length=T.length:=(p2.trans p1).length_eq;refine Vx (V2 ?_);cases(pendingOf (setArr b0 T5)).back? with
   |none =>
    dsimp only;exact Vx (Vr (Vw ⟨rfl,_,Rt.push (wH T2 T5 (p2.trans p1) xN) (by omega) (by omega) wC,.inl (by show x+1<=lo+min T.length (minRun' a₀.size a₀.size 0);omega)⟩))
   |some u =>
    obtain⟨s1,k1,z⟩:=u;dsimp only;refine Vx (Vy (Vc (I:=λ _ (c:Option Unit×Unit) l0=>c=(none,())/\Rt κ a₀.toList l0 lo T2) (Q:=λ c l0=>c=(none,())/\Rt κ a₀.toList l0 lo T2) ?cstep (λ _ _ hh=>hh) ⟨rfl,wH T2 T5 (p2.trans p1) xN⟩) ?cpost)
    case cstep =>
     rintro y c l0 _ _ ⟨rfl,N6⟩;refine Vx (V2 ?_);by_cases h2:(pendingOf l0).size > 1
     ·rw[V4 h2];obtain⟨⟨u,v,z⟩,e⟩:∃ x,(pendingOf l0)[(pendingOf l0).size-2]?=some x:=⟨_,getElem?_pos _ _ (by omega)⟩;rw[e];dsimp only;by_cases h3:z<=power' a₀.size (2*s1+k1) (2*s1+k1+k1+min T.length (minRun' a₀.size a₀.size 0)) a₀.size
      ·rw[V4 h3];exact Vw ⟨rfl,N6⟩
      ·rw[V5 h3];refine Vx (qaG hO k0 N6 (by omega) λ G5 pH _=>?_);simp only[Qn,Zl,Vv];exact Vw ⟨rfl,pH⟩
     ·rw[V5 h2];exact Vw ⟨rfl,N6⟩
    case cpost =>
     rintro c l0 ⟨rfl,N6⟩;dsimp only;refine Vx (Vr ?_);refine Vx (Vr (Vw ⟨rfl,_,Rt.push (N6.repower rfl _) (by omega) (by omega) wC,.inl (by show x+1<=lo+min T.length (minRun' a₀.size a₀.size 0);omega)⟩))
  ·rw[V5 c8];refine Vx (V2 ?_);cases(pendingOf (setArr b0 gZ)).back? with
   |none =>
    dsimp only;exact Vx (Vr (Vw ⟨rfl,_,Rt.push (wH T1 gZ p1 ea1) m1 (by omega) so1,.inl (by show x+1<=lo+m;omega)⟩))
   |some u =>
    obtain⟨s1,k1,z⟩:=u;dsimp only;refine Vx (Vy (Vc (I:=λ _ (c:Option Unit×Unit) l0=>c=(none,())/\Rt κ a₀.toList l0 lo T1) (Q:=λ c l0=>c=(none,())/\Rt κ a₀.toList l0 lo T1) ?cstep (λ _ _ hh=>hh) ⟨rfl,wH T1 gZ p1 ea1⟩) ?cpost)
    case cstep =>
     rintro y c l0 _ _ ⟨rfl,N6⟩;refine Vx (V2 ?_);by_cases h2:(pendingOf l0).size > 1
     ·rw[V4 h2];obtain⟨⟨u,v,z⟩,e⟩:∃ x,(pendingOf l0)[(pendingOf l0).size-2]?=some x:=⟨_,getElem?_pos _ _ (by omega)⟩;rw[e];dsimp only;by_cases h3:z<=power' a₀.size (2*s1+k1) (2*s1+k1+k1+m) a₀.size
      ·rw[V4 h3];exact Vw ⟨rfl,N6⟩
      ·rw[V5 h3];refine Vx (qaG hO k0 N6 (by omega) λ G5 pH _=>?_);simp only[Qn,Zl,Vv];exact Vw ⟨rfl,pH⟩
     ·rw[V5 h2];exact Vw ⟨rfl,N6⟩
    case cpost =>
     rintro c l0 ⟨rfl,N6⟩;dsimp only;refine Vx (Vr ?_);refine Vx (Vr (Vw ⟨rfl,_,Rt.push (N6.repower rfl _) m1 (by omega) so1,.inl (by show x+1<=lo+m;omega)⟩))
 case post =>
  rintro⟨v,lo⟩ b0 ⟨hv,rt⟩;have aG:v=none:=hv;subst aG;dsimp only;have fin:∀ b0,Rt κ a₀.toList b0 a₀.size []->(pendingOf b0).size<=1->Q () b0:=by
   rintro b0 ⟨b1,b2,D,b3,b4,b5,b6⟩ hs;rw[U4] at b3 b5;exact h b0 (Array.perm_iff_toList_perm.mpr (by rw[b3];exact b5)) b2 (by rw[b3];exact b6.one (by rw[Yx];exact hs))
  have hsz:(pendingOf b0).size<=a₀.size:=by
   obtain⟨b1,b2,D,b3,b4,b5,b6⟩:=rt
   have:=b6.len
   rw[Yx] at this;omega
  refine Vx (Vy (Vc (I:=λ x (c:Option Unit×Unit) l0=>c=(none,())/\Rt κ a₀.toList l0 a₀.size []/\((pendingOf l0).size<=1∨(pendingOf l0).size+x<=a₀.size))
   (Q:=λ c l0=>c=(none,())/\Rt κ a₀.toList l0 a₀.size []/\(pendingOf l0).size<=1) ?step2 ?fin2 ⟨rfl,rt,.inr hsz⟩) ?post2)
  case post2 =>
   rintro c l0 ⟨rfl,N6,hs⟩;exact Vw (fin l0 N6 hs)
  case fin2 =>
   rintro c l0 ⟨rfl,N6,hs⟩;exact⟨rfl,N6,by omega⟩
  case step2 =>
   rintro x c l0 _ hx ⟨rfl,N6,hs⟩;refine Vx (V2 ?_);by_cases h1:(pendingOf l0).size<=1
   ·rw[V4 h1];exact Vw ⟨rfl,N6,h1⟩
   ·rw[V5 h1];refine Vx (qaG hO k0 N6 ?_ λ G5 pH hs3=>?_)
    ·repeat' split
     all_goals omega
    ·simp only[Qn,Zl,Vv];exact Vw ⟨rfl,pH,.inr (by omega)⟩
end
end FsS
namespace FsS
open PySem PyProof.Rows PySem.Spec
section
variable {prog:Program}{w:World}{A:Around}{E:Value->Shared->Prop}{s:Shared}
theorem So.to(h:So κ xs.toList):SortedToK κ xs xs.size:=by
 intro i j hij hj;have kk:∀ k,(hk:k<xs.size)->KK κ xs k=ky κ xs[k]:=λ k hk=>by
  unfold KK ky;rw[getElem?_pos xs k hk]
 rw[kk i (by omega),kk j hj];rcases Q7 i j with h1|h1
 ·have:=Xu.mp h i j (by rw[Yx];omega) (by rw[Yx];omega) h1
  simpa using this
 ·have:i=j:=by omega
  subst this;exact Jf _
theorem nk_strs:∀{vs:List Value}{ss:List Str},StrsAre vs ss->ss.Nodup->Nk strKind (vs.zip vs)
 |_,_,.nil,_=>List.Pairwise.nil
 |_,_,.cons (ys:=ss) x t h,nd=>by
  have x3:=U5.mp nd;rw[Zk];refine Zj.mpr ⟨λ p hp e=>?_,nk_strs h x3.2⟩;have hm:=(mem_zip_self hp).2;obtain⟨y,u,ey⟩:=h.all _ hm;have hy:y∈ss:=by
   rw[<- h.strs];exact Q4.mpr ⟨p.1,hm,by rw[ey];rfl⟩
  have e1:ky strKind p=y.cps.toList:=by unfold ky;rw[ey];rfl
  have e2:x.cps.toList=y.cps.toList:=(show ky strKind (Value.str x t,Value.str x t)=_ from rfl).symm.trans (e.trans e1);have e3:x=y:=by
   cases x;cases y
   congr 1
   exact Array.toList_inj.mp e2
  exact x3.1 (e3 ▸ hy)
theorem sort_method(one:κ.OneLt)(at_:s.heap.get? l=some (seqObj "list" vs.toArray c))(ks:KeysOf κ (pairsOf vs))(un:Nk κ (pairsOf vs).toList)(kind:∀ u v r,vs=u::v::r->keyKind' (u::v::r).toArray=pure oneType')(few:vs.length<100000)(fin:∀ b0:SortSt,(arrOf b0).Perm (pairsOf vs)->SortedToK κ (arrOf b0) (pairsOf vs).size->R (.done (.ret .none)) { s with heap:=sortedHeap s.heap l vs ((arrOf b0).map (·.2)) }):
  wpAny (model prog w) A (Builtin.«list.sort» ⟨[.ref l],[]⟩) R E s:=by
 by_cases short:vs.length<64
 ·exact list_sort_treeK one at_ ks kind short fin
 have lt0:l<s.heap.objs.size:=Qw at_;rw[list_sort_plain];refine Vl (listItems_at at_ rfl (Vl (listUpdate_at at_ rfl ?_ (by rw[Vh,Zu];omega))));obtain⟨e,h1⟩:∃ e,(s.heap.update l (Obj.mapSeq λ _=>#[])).get? l=some (seqObj "list" #[] e):=⟨_,get?_update_seq at_ (λ _=>#[])⟩;refine Vl (seqEpoch_at h1 rfl (Vl (Qg (Vl (Qv (Qr ?_))))));have h2:(((s.heap.update l (Obj.mapSeq λ _=>#[])).push (seqObj "tuple" vs.toArray 0)).push (seqObj "list" #[] 0)).get? l=some (seqObj "list" #[] e):=
  (Heap.get?_push_ne _ _ _ (by rw[size_push',Heap.size_update];exact Qx (Z0 lt0))).trans ((Heap.get?_push_ne _ _ _ (by rw[Heap.size_update];exact Qx lt0)).trans h1)
 show wpAny (model prog w) A _ R E { s with heap:=((s.heap.update l (Obj.mapSeq λ _=>#[])).push (seqObj "tuple" vs.toArray 0)).push (seqObj "list" #[] 0) }
 have big:¬ vs.toArray.size<2:=by simp;omega
 dsimp only;rw[V5 big,V5 big];obtain⟨u,v,r,rfl⟩:∃ u v r,vs=u::v::r:=by
  match vs,short with
  | [],h=>simp at h
  | [_],h=>simp at h
  |u::v::r,_=>exact⟨u,v,r,rfl⟩
 rw[kind u v r rfl];refine Vl (Vm (Vl (Vk (qdL one (a₀:=pairsOf (u::v::r)) (st:=SortSt.mk' oneType' (pairsOf (u::v::r)) #[] 7 none)
  (Q:=λ _ b0=>(arrOf b0).Perm (pairsOf (u::v::r))/\failedOf b0=none/\So κ (arrOf b0).toList) ks un rfl rfl rfl rfl λ b0 p f o=>⟨p,f,o⟩) ?_ λ _ _ z=>z)))
 rintro⟨⟨⟩,b0⟩ s' ⟨rfl,p,f,o⟩;have sz:(arrOf b0).size=(u::v::r).length:=p.size_eq.trans (pairsOf_size _);dsimp only;refine Vl (seqEpoch_at h2 rfl (Vl (listUpdate_at h2 rfl ?_ (hsz2:=by rw[Array.size_map,sz,Vh];omega))));rw[f];simp only[Ug,Zl,Vv];refine Vm (fin b0 p ?_);rw[<- p.size_eq];exact o.to
end
end FsS
namespace L2
open PySem PySem.Spec PyProof.Rows
section
variable {prog:Program}{w:World}{A:Around}{E:Value->Shared->Prop}{s:Shared}
theorem qiD(hh:A.handled=none)(hS:qW prog w s.heap S ys)(few:ys.length<4096)(un:ys.Nodup)(h:∀(l:Addr)(h':Heap)(tk e:Nat)(d:Drawn)(out:Array Value)(A9:List Str),(∀ b o,s.heap.get? b=some o->h'.get? b=some o)->s.heap.objs.size<=l->h'.get? l=some (seqObj "list" out e)->StrsAre out.toList A9->A9.Perm ys->sortedS A9=true ->
   Q (.ref l) { s with heap:=h',toks:=tk,drawn:=d }):wpAny (model prog w) A (call (.builtin "sorted") [.ref S]) Q E s:=by
 refine Xr kind_sorted plain_sorted entry_sorted (args_sorted1 _) ?_;unfold Builtin.«sorted»;refine Vl (m:=checkCount "sorted" 1 1 _) (Vm ?_);refine Vl (qeb (by simpa using hh) hS λ h1 tk d vs zs hk A0 hz hA=>?_);have nz:zs.Nodup:=hz.nodup_iff.mpr un;have hl:vs.length<100000:=by
  have:vs.length=zs.length:=hA.length
  rw[this,hz.length_eq];omega
 refine Vl (Qv ?_);have fQ:(h1.push (seqObj "list" vs.toArray 0)).get? h1.objs.size=some (seqObj "list" vs.toArray 0):=Yy _ rfl;refine Vl (Qr (Uz slot_list_sort ⟨_,fQ,rfl⟩ entry_list_sort (FsS.sort_method strKind_oneLt fQ hA.keysOf (by rw[pairsOf_toList];exact FsS.nk_strs hA nz) (λ v₁ v₂ rest e=>keyKind_strs (by rw[<- e];exact hA)) hl λ b0 a1 a2=>⟨_,rfl,?_⟩) (args_list_sort _)));obtain⟨A9,b1,b2,b3⟩:=sorted_out_str hA a1 a2;obtain⟨e,he⟩:=sortedHeap_at (out:=(arrOf b0).map (·.2)) fQ;refine Vm ⟨_,rfl,h h1.objs.size _ tk e d _ A9 (λ b o q=>?_) (Qz A0) he b1 (b2.trans hz) b3⟩;have q1:=hk b o q;have hb:=Qw q1;rw[sortedHeap_old (Qx hb) (by rw[Ju];exact Z0 hb)];exact XG _ q1
theorem qiE(hl:s.heap.IsList l vs.toArray)(hA:StrsAre vs ss)(few:vs.length<4096)(un:ss.Nodup)(h:∀(out:Array Value)(A9:List Str),StrsAre out.toList A9->A9.Perm ss->sortedS A9=true->Q (.ref (s.heap.objs.size+1)) { s with heap:=sortedAll s.heap vs out }):
  wpAny (model prog w) A (call (.builtin "sorted") [.ref l]) Q E s:=by
 refine Xr kind_sorted plain_sorted entry_sorted (args_sorted1 _) ?_;unfold Builtin.«sorted»;refine Vl (m:=checkCount "sorted" 1 1 _) (Vm ?_);refine Vl (collect_list hl (Vl (Qv ?_)));generalize hg:(s.heap.push (seqObj "list" #[] 0)).update s.heap.objs.size (Obj.mapSeq (·++vs.toArray))=g;have sz:g.objs.size=s.heap.objs.size+1:=by rw[<- hg,Heap.size_update,size_push']
 have at_:(g.push (seqObj "list" vs.toArray 0)).get? (s.heap.objs.size+1)=some (seqObj "list" vs.toArray 0):=by rw[<- sz];exact Yy _ rfl
 show wpAny _ _ _ _ _ { s with heap:=g.push (seqObj "list" vs.toArray 0) }
 rw[sz];refine Vl (Qr (Uz slot_list_sort ⟨_,at_,rfl⟩ entry_list_sort (FsS.sort_method strKind_oneLt at_ hA.keysOf (by rw[pairsOf_toList];exact FsS.nk_strs hA un) (λ v₁ v₂ rest e=>keyKind_strs (by rw[<- e];exact hA)) (by omega) λ b0 a1 a2=>⟨_,rfl,?_⟩) (args_list_sort _)));obtain⟨A9,b1,b2,b3⟩:=sorted_out_str hA a1 a2
 have:=h _ A9 b1 b2 b3
 refine Vm ⟨_,rfl,?_⟩;subst hg;exact this
end
section
variable {X:Cx}
theorem kz(hc:X.calm=true):y9 X (.builtin "sorted") (λ xs H Q=>∃ p ys,xs=[.ref p]/\H p=some (qeH X.prog X.w p ys)/\ys.length<4096/\ys.Nodup/\∀ l,H l=none->Q (.ref l) (upd H l (.lst ((qbb ys).map V.str)))):=by
 intro pins s σ H xs us Q I r h;obtain⟨p,ys,rfl,hp,bS,un,q⟩:=h;obtain⟨u,rfl,ru⟩:=yk r;cases ru
 obtain⟨o0,x8,hS⟩:=I.set hp;refine qiD (I.ok.hd hc) hS (by rw[x8.length_eq];exact bS) (x8.nodup_iff.mpr un) λ l h' tk e d out A9 hk A0 he h1 h2 h3=>?_
 have es:=qeF (h2.trans x8) h3;subst es;have hf:=I.hok.fresh A0;refine⟨.ref l,upd H l (.lst ((qbb ys).map V.str)),I.call' (s':={ s with heap:=h',toks:=tk,drawn:=d }) (ch:=[]) rfl (Un.laid hk A0 hf) (I.hok.laid hk A0 ⟨?_,out.toList,e,vd h1,he⟩) I.bare (λ _ z=>nomatch z),rfl,q _ hf⟩
 have:(qbb ys).length=ys.length:=(h2.trans x8).length_eq
 rw[U3,this];exact Qz (Zd bS (by decide))
theorem kC:y9 X (.builtin "sorted") (λ xs H Q=>∃ p ss,xs=[.ref p]/\SqL X.K H p (ss.map V.str)/\ss.length<4096/\ss.Nodup/\∀ l,H l=none->Q (.ref l) (upd H l (.lst ((qbb ss).map V.str)))):=by
 intro pins s σ H xs us Q I r h;obtain⟨p,ss,rfl,hq,bS,un,q⟩:=h;obtain⟨u,rfl,ru⟩:=yk r;cases ru
 obtain⟨its,rv,pl,hz⟩:=I.list hq;have hl:=rv.length;rw[U3] at hl;refine qiE pl.isList (vc rv) (by omega) un λ out A9 h1 h2 h3=>?_
 obtain⟨e,he⟩:=sortedAll_at s.heap its out;have es:=qeF h2 h3;subst es;refine⟨.ref (s.heap.objs.size+1),_,I.laid (a:=s.heap.objs.size+1) (o:=.lst ((qbb ss).map V.str)) (t':=s.toks) (λ _ _=>sortedAll_old) (Vg _) ⟨?_,out.toList,e,vd h1,he⟩,rfl,q _ (I.hok.fresh (Vg _))⟩;rw[U3] at hz ⊢;rw[h2.length_eq];exact hz
end
end L2
namespace Fs
noncomputable def yD(ρ:Nat->Bool):Nat->List Nat->Nat
 |n,[]=>n
 |n,c::ls=>yD ρ (2*n+if ρ c then 1 else 0) ls
theorem kF(ρ:Nat->Bool):∀(ls:List Nat)(n:Nat),yD ρ n ls=n*2^ls.length+yD ρ 0 ls
 | [],n=>by simp[yD]
 |c::ls,n=>by
  rw[yD,kF ρ ls,yD,kF ρ ls (2*0+_),Uj,Q3];rw[Nat.add_mul,Nat.add_mul,<- Qp,Nat.mul_zero,Nat.zero_mul,Q6,Q2 2 n,Qq,Q2 2]
theorem qag(ρ:Nat->Bool):∀(ls:List Nat),yD ρ 0 ls<2^ls.length
 | []=>by simp[yD]
 |c::ls=>by
  rw[yD,kF,Uj,Q3]
  have:=qag ρ ls
  split <;> omega
theorem kH(ρ:Nat->Bool):∀(ls:List Nat)(t:List Bool),t.length=2^ls.length->look ρ ls t=t.getD (yD ρ 0 ls) false
 | [],[b],_=>by simp[look,yD]
 |c::ls,t,h=>by
  rw[Uj,Q3] at h;have h1:(t.take (2^ls.length)).length=2^ls.length:=by rw[Ul];omega
  have h2:(t.drop (2^ls.length)).length=2^ls.length:=by rw[Um];omega
  have hl:=qag ρ ls;rw[look,yD,kF];cases ρ c with
  |true =>
   simp only[V1,Nat.mul_zero,Q6,Nat.one_mul];rw[kH ρ ls _ h2];simp[Xj,Zm]
  |false =>
   simp only[Zl,Vv,Nat.mul_zero,Q6,Nat.zero_mul];rw[kH ρ ls _ h1];simp[Xj,Xw hl]
theorem kI:∀{F:List Pr},(∀ p∈F,∀ c∈p,ρ c=τ c)->qu ρ F=qu τ F
 | [],_=>rfl
 |p::F,h=>by
  show xor (p.all ρ) (qu ρ F)=xor (p.all τ) (qu τ F)
  rw[kI λ q hq=>h q (Yl _ hq)];congr 1
  have h1:=h p Ze;revert h1;clear h;induction p with
  |nil=>intro _;rfl
  |cons c p ih=>intro h1;rw[List.all_cons,List.all_cons,h1 c Ze,ih λ d hd=>h1 d (Yl _ hd)]
noncomputable def vL(ns:List Nat)(t:List Bool):List Nat:=List.zipWith (λ n b=>2*n+if b then 1 else 0) ns t
noncomputable def qaH(L:List Nat)(ps:List (List Pr)):List Nat:=ps.foldl (λ ns p=>vL ns (q9 p L)) (List.replicate (2^L.length) 0)
noncomputable def qR(ps:List (List Pr)):List Nat:=qg (ps.map qg)
noncomputable def putIn(F:List Pr)(g:Nat->List Pr):List Pr:=
 formOf (qR ((qg F).map g)) ((qaH (qR ((qg F).map g)) ((qg F).map g)).map λ n=>(q9 F (qg F)).getD n false)
theorem qbG(p:List Pr)(h:ns.length=2^L.length):(vL ns (q9 p L)).length=2^L.length:=by
 rw[vL,Y1,qP,h,Nat.min_self]
theorem qdc:∀(ps:List (List Pr))(ns:List Nat),ns.length=2^L.length->(ps.foldl (λ ns p=>vL ns (q9 p L)) ns).length=2^L.length
 | [],ns,h=>h
 |p::ps,ns,h=>qdc ps _ (qbG p h)
theorem qdd(L:List Nat)(ps:List (List Pr)):(qaH L ps).length=2^L.length:=qdc ps _ (XT ..)
theorem qhN:c∈qR ps ↔ ∃ F∈ps,∃ p∈F,c∈p:=by
 rw[qR,zm];constructor
 ·rintro⟨p,hp,hc⟩;obtain⟨F,hF,rfl⟩:=Q4.mp hp;exact⟨F,hF,zm.mp hc⟩
 ·rintro⟨F,hF,p,hp,hc⟩;exact⟨qg F,Q4.mpr ⟨F,hF,rfl⟩,zm.mpr ⟨p,hp,hc⟩⟩
theorem qhO(ρ:Nat->Bool)(g:Nat->List Pr)(hl:L.Pairwise (·<·)):∀(ls:List Nat)(ns:List Nat)(n:Nat),ns.length=2^L.length->ns[yD ρ 0 L]?=some n->(∀ c∈ls,Vf (g c))->(∀ c∈ls,∀ p∈g c,∀ d∈p,d∈L) ->
  ((ls.map g).foldl (λ ns p=>vL ns (q9 p L)) ns)[yD ρ 0 L]?=some (yD (λ c=>qu ρ (g c)) n ls)
 | [],ns,n,_,h,_,_=>h
 |c::ls,ns,n,hn,h,hv,hm=>by
  rw[Qj,U8,yD];refine qhO ρ g hl ls _ _ (qbG _ hn) ?_ (λ d hd=>hv d (Yl _ hd)) λ d hd=>hm d (Yl _ hd)
  have ht:=j9 ρ hl (hv c Ze) (hm c Ze);rw[kH ρ L _ (qP _ _)] at ht;have c8:=qag ρ L;have e:(q9 (g c) L)[yD ρ 0 L]?=some (qu ρ (g c)):=by
   have h1:yD ρ 0 L<(q9 (g c) L).length:=by rw[qP];exact c8
   rw[Xy h1];rw[Xj,Xy h1] at ht;exact congrArg some ht
  rw[vL,Yd,h,e]
theorem qj0(F:List Pr)(g:Nat->List Pr):Vf (putIn F g):=qbB (qT _) _
theorem qfT(ρ:Nat->Bool)(hF:Vf F)(hg:∀ c∈qg F,Vf (g c)):qu ρ (putIn F g)=qu (λ c=>qu ρ (g c)) F:=by
 have hl:(qR ((qg F).map g)).Pairwise (·<·):=qT _;have lt:=qag ρ (qR ((qg F).map g));rw[putIn,qa7 ρ (by rw[U3,qdd]),kH ρ _ _ (by rw[U3,qdd])];have hn:=qhO ρ g hl (qg F) (List.replicate (2^(qR ((qg F).map g)).length) 0) 0 (XT ..) (by rw[X5,V4 lt]) hg
  λ c hc p hp d hd=>qhN.mpr ⟨g c,Q4.mpr ⟨c,hc,rfl⟩,p,hp,hd⟩
 rw[Xj,Zt];rw[show(qaH (qR ((qg F).map g)) ((qg F).map g))[yD ρ 0 (qR ((qg F).map g))]?=some _ from hn];show(q9 F (qg F)).getD _ false=_
 rw[<- kH (λ c=>qu ρ (g c)) _ _ (qP _ _)];exact j9 _ (qT F) hF λ p hp c hc=>zm.mpr ⟨p,hp,hc⟩
end Fs
namespace L2
open PySem PySem.Spec PyProof.Rows
theorem Draws.strAny(hh:A.handled=none)(it:Addr)(x:Str)(t:Tok):
  Draws prog w A it [it] x.cps.size (λ i v=>∃ c u,x.cps[i]?=some c/\v=.str ⟨#[c]⟩ u) (λ i h=>h.IsStrIter it (strIterType x) x t i):=by
 unfold strIterType;cases ha:x.cps.all (·<128) with
 |true=>rw[V4 (by simpa using ha)];exact J8 hh it x t
 |false=>rw[V5 (by simpa using ha)];exact Draws.strWide hh it x t
noncomputable def qiF(z:Str):It2:=⟨λ i H=>i<z.cps.size,λ i H ys H'=>H'=H/\ys=[.int i,sgn z i],λ i H=>i=z.cps.size⟩
def qng(z:Str)(t:Tok)(e it:Addr)(i:Nat)(h:Heap):Prop:=(∃ R4,IsEnum h e it i R4)/\h.IsStrIter it (strIterType z) z t i
theorem qgN{K:W.Frag}{pos:Pos}(z:Str)(t:Tok)(e it:Addr)(O4:e≠it):Turn2 P w K (.Tuple es k pos) (qiF z) [e,it] e (qng z t e it) where
 obj:=λ i h st b hb=>by
  obtain⟨⟨R4,he⟩,o,ho,c,d⟩:=st;have hb:b=e∨b=it:=by simpa using hb
  rcases hb with y|y
  ·subst y;exact⟨_,he,λ v q=>by cases q⟩
  ·subst y;exact⟨o,ho,λ v q=>by rw[d] at q;cases q⟩
 keep:=λ i h h' st k=>by
  obtain⟨⟨R4,he⟩,n9⟩:=st;obtain⟨o,ho,r⟩:=n9;exact⟨⟨R4,k e (by simp) _ he⟩,o,k it (by simp) o ho,r⟩
 item:=by
  intro X hP hw hK hc i pins s σ H E I hf st hg;subst hP hw hK;have c8:i<z.cps.size:=hg;obtain⟨⟨R4,he⟩,n9⟩:=st;have fe:=hf e (by simp);have fi:=hf it (by simp);refine wpAny_pyNext_enum_itemD (Draws.strAny (A:=X.A.in1) (by simpa using I.ok.hd hc) it z t) he n9 c8 O4 (by simpa using O4) λ u h' tk hP bI E7 ht hsz hk=>?_
  refine⟨s.heap.objs.size,rfl,wpAny_letOwnedTupleGo_enum bI λ h2 sR l7=>?_⟩;replace l7:Heap.SameBut e h' h2:=l7;have cL:e<s.heap.objs.size:=Qw he;have k2:∀ b o,b≠e->b≠it->s.heap.get? b=some o->h2.get? b=some o:=λ b o h1 h3 q=>l7.extBut b o h1 (hk b o h1 h3 q)
  have I1:Inv X pins σ H { s with heap:=h2,toks:=tk+1 }:=by
   refine I.step (g':=s.gens) (d':=s.drawn) (ch:=[e,it]) (λ b hb=>?_) (λ b o _ _ c5 q _=>k2 b o (λ z=>c5 (by simp[z])) (λ z=>c5 (by simp[z])) q)
    (λ b o _ _ c5 q _=>⟨o.slots,k2 b o (λ z=>c5 (by simp[z])) (λ z=>c5 (by simp[z])) q⟩) (λ _ _ _ _ n=>n) (λ b o c5 q=>⟨o,k2 b o (λ z=>c5 (by simp[z])) (λ z=>c5 (by simp[z])) q⟩)
    (λ _ _ q=>q) (λ _ _ _ q=>q) (λ b ps q=>⟨#[],by rw[q];simp⟩) (λ m hm=>?_) (λ b u q=>?_) I.bare
   ·have hb:b=e∨b=it:=by simpa using hb
    rcases hb with z|z
    ·subst z;exact⟨fe.2.2.2.1,fe.2.1,fe.2.2.2.2.1,fe.2.2.2.2.2⟩
    ·subst z;exact⟨fi.2.2.2.1,fi.2.1,fi.2.2.2.2.1,fi.2.2.2.2.2⟩
   ·obtain⟨o,o7,ep,ho,r⟩:=hm;exact⟨o,o7,ep,k2 _ o (Vz fe.2.1) (Vz fi.2.1) ho,r⟩
   ·refine(I.hok b u q).stay (λ c v c5 z=>k2 c v (λ y=>?_) (λ y=>?_) z) (λ _ z=>z) λ _ _ z=>z
    ·rcases c5 with y' | y'
     ·rw[<- y',y,fe.1] at q;cases q
     ·rw[y,fe.1] at y';cases y'
    ·rcases c5 with y' | y'
     ·rw[<- y',y,fi.1] at q;cases q
     ·rw[y,fi.1] at y';cases y'
  obtain⟨c,u',ec,rfl⟩:=hP;obtain⟨o3,ho3,r3⟩:=E7;refine⟨[.int i,sgn z i],[.int i tk,.str ⟨#[c]⟩ u'],H,I1,⟨_,(l7.extBut _ _ (Q0 cL) ht),rfl,_,rfl⟩,.cons ⟨_,rfl⟩ (.cons (qeC (v:=.str ⟨#[c]⟩ u') ⟨c,u',ec,rfl⟩) .nil),⟨rfl,rfl⟩,⟨⟨.str ⟨#[c]⟩ u',?_⟩,o3,l7.extBut _ _ (Vz O4) ho3,r3⟩,λ b hb=>(hf b hb).1⟩
  ·have:((i:Int)+1)=((i+1:Nat):Int):=by omega
   rw[<- this];exact sR
 done:=by
  intro X hP hw hK hc i pins s σ H E I hf st hg;subst hP hw hK;have hi:i=z.cps.size:=hg;subst hi;obtain⟨⟨R4,he⟩,n9⟩:=st;obtain⟨f0,f1,f2,f3,f4,f5⟩:=hf it (by simp);exact wpAny_pyNext_enum_endD (Draws.strAny (A:=X.A.in1) (by simpa using I.ok.hd hc) it z t) he n9 λ h' eb=>⟨rfl,I.turned (t':=s.toks) (λ b o hb e=>eb b o hb e) f0 f1 f3 f4 f5⟩
 self:=λ A i s Q E st h=>by
  obtain⟨⟨R4,he⟩,n9⟩:=st;exact Uc he h
def qnh(ta:TA):TI2:=λ σ H R=>ta σ H λ vs H1=>∃ z,vs=[.str z]/\R (qiF z) H1
theorem qde{X:Cx}{es:List Expr}{k:Nat}{p4:Pos}{l:Expr}{ta:TA}{p pos:Pos}(hg:Gl X "enumerate")(hm:X.mg "enumerate"=none)(ha:PA X [l] ta)(hs:starEach [l] X.env=[(false,eval l X.env)]:=by rfl):
  PI2 X (.Tuple es k p4) (.Call (.Name "enumerate" p) [l] [] pos) (qnh ta):=by
 intro pins s σ H R I h;refine qcS (R:=λ vs H1=>∃ z,vs=[.str z]/\R (qiF z) H1) hg hm boot_enumerate ha I h (λ us s1 vs H1 I1 r1 q1=>?_) (hs:=hs);obtain⟨z,e,q⟩:=q1;subst e;obtain⟨u,rfl,t,rfl⟩:=yk r1;refine call_enumerate_str λ h' he n9 hsz hk=>Uc he ?_
 refine⟨s1.heap.objs.size+1,[s1.heap.objs.size+1,s1.heap.objs.size],_,_,H1,rfl,I1.kept (t':=s1.toks) hk,qgN z t _ _ (Nat.succ_ne_self _),⟨⟨_,he⟩,n9⟩,λ b hb=>?_,q⟩;have hb:b=s1.heap.objs.size+1∨b=s1.heap.objs.size:=by simpa using hb
 rcases hb with z|z
 ·subst z;exact I1.fpOk (Vg _) (I1.hok.fresh (Vg _))
 ·subst z;exact I1.fpOk (Vd _) (I1.hok.fresh (Vd _))
noncomputable def qiG(Fs Gs:List (List (List Nat)))(j:Nat):Bool:=match Fs[j]?,Gs[j]? with
 |some F,some G=>decide (F=G)
 |_,_=>true
theorem qj1(Fs Gs:List (List (List Nat)))(hl:Fs.length=Gs.length):(List.range Fs.length).all (qiG Fs Gs)=decide (Fs=Gs):=by
 rw[U2,decide_eq_true_iff,Uo];constructor
 ·intro h1;refine Z1 λ j=>?_
  by_cases hj:j<Fs.length
  ·have:=h1 j (by rw[Js];omega)
   have ea:Fs[j]?=some Fs[j]:=Xy hj;have eb:Gs[j]?=some (Gs[j]'(by omega)):=Xy (by omega);unfold qiG at this;rw[ea,eb] at this;rw[ea,eb,Ui this]
  ·rw[Yb (by omega),Yb (by omega)]
 ·rintro rfl j _;unfold qiG;cases Fs[j]? with
  |none=>rfl
  |some a=>exact Qa rfl
theorem qfU:∀{ss A9:List Str}{us:List Value},qL (ss.map V.str) us->qL (A9.map V.str) us->ss=A9
 | [],[],_,_,_=>rfl
 | [],_::_,_,.nil,h=>by cases h
 |_::_,[],_,.cons _ _,h=>by cases h
 |a::ss,b::A9,_,.cons r t,.cons r' t'=>by
  obtain⟨u,rfl⟩:=r;obtain⟨u',e⟩:=r';injection e with e1 e2
  rw[e1,qfU t t']
theorem qaI:∀{xs:List α}{l:List β},Paired F xs l->∀(k:Nat)(a:α),xs[k]?=some a->∃ b,l[k]?=some b/\F a b
 |_,_,.nil,k,a,h=>by simp at h
 |_,_,.cons r t,0,a,h=>by simp at h;subst h;exact⟨_,rfl,r⟩
 |_,_,.cons r t,k+1,a,h=>qaI t k a (by simpa using h)
def qoe(K:W.Frag):R2:=λ x y H Q=>∃(a b:Addr)(as bs:List Addr)(Fs Gs:List (List (List Nat))),x=.ref a/\y=.ref b/\SqL K H a (as.map V.ref)/\SqL K H b (bs.map V.ref)/\Paired (λ c (F:List (List Nat))=>SqT K H c (F.map vS)) as Fs/\Paired (λ c (F:List (List Nat))=>SqT K H c (F.map vS)) bs Gs/\Fs.length=Gs.length/\Q (.bl (decide (Fs=Gs))) H
theorem qlN(hu:X.A.units+1<cLine):OpR X (compareOp .Eq) (qoe X.K):=by
 intro pins s σ H x y v u Q I rx ry h;obtain⟨a,b,as,bs,Fs,Gs,rfl,rfl,h1,h2,pa,pb,hl,q⟩:=h;cases rx
 cases ry
 obtain⟨its,r1,p1,_⟩:=I.list h1;obtain⟨o8,r2,p2,_⟩:=I.list h2;have l1:=r1.length;have l2:=r2.length;rw[U3] at l1 l2;have la:=Y7 pa;have lb:=Y7 pb;have hs:its.toArray.size=o8.toArray.size:=by rw[Zu,Zu];omega
 refine SeqAt.eq_listAt (e:=qiG Fs Gs) p1.isList p2.isList hs (by omega) (λ j h1 h2=>?_) ⟨.bl (decide (Fs=Gs)),H,I,?_,q⟩
 ·rw[Zu] at h1 h2;have ea:as[j]?=some (as[j]'(by omega)):=Xy (by omega);have eb:bs[j]?=some (bs[j]'(by omega)):=Xy (by omega);generalize as[j]'(by omega)=c at ea;generalize bs[j]'(by omega)=d at eb;obtain⟨F,eF,hF⟩:=qaI pa j c ea;obtain⟨G,eG,hG⟩:=qaI pb j d eb;obtain⟨u,hu',ru⟩:=r1.get (i:=j) (x:=V.ref c) (by rw[Zt,ea];rfl);obtain⟨v,aG,rv⟩:=r2.get (i:=j) (x:=V.ref d) (by rw[Zt,eb];rfl);cases ru
  cases rv
  have eu:its.toArray[j]=Value.ref c:=by
   have:its[j]?=some its[j]:=Xy h1
   rw[hu'] at this;simpa using(Option.some.inj this).symm
  have ev:o8.toArray[j]=Value.ref d:=by
   have:o8[j]?=some o8[j]:=Xy h2
   rw[aG] at this;simpa using(Option.some.inj this).symm
  rw[eu,ev];have ee:qiG Fs Gs j=decide (F=G):=by unfold qiG;rw[eF,eG]
  rw[ee];rw[zI] at hF hG;obtain⟨iF,rF,pF,_⟩:=I.tuple hF;obtain⟨iG,rG,pG,_⟩:=I.tuple hG;by_cases R9:c=d
  ·subst R9;have e1:iF=iG:=by
    obtain⟨o,ho,_,n,hd⟩:=(show s.heap.IsTuple c iF.toArray from pF);obtain⟨o',aT,_,n',bJ⟩:=(show s.heap.IsTuple c iG.toArray from pG);rw[ho] at aT;cases aT
    rw[hd] at bJ;injection bJ with e _
    exact List.toArray_inj e
   subst e1;have e2:=qfU rF rG;have e3:F=G:=by
    have:=congrArg (List.map cs) e2
    rwa [qc3,qc3] at this
   rw[Qa e3];exact SeqAt.EqAt.same _
  ·have lF:=rF.length;have lG:=rG.length;rw[U3] at lF lG
   have:=SeqAt.RcAt.tuples (A:=X.A.in1) (s:=s) (e:=qd5 V.str (F.map qi) (G.map qi)) (show s.heap.IsTuple c iF.toArray from pF) (show s.heap.IsTuple d iG.toArray from pG) (show X.A.in1.units<cLine from hu) (λ j h1 h2=>qcU qcT rF rG j h1 h2)
   rw[Zu,Zu,<- lF,<- lG,qbC qcT] at this;have e4:decide (F.map qi=G.map qi)=decide (F=G):=by
    by_cases h:F=G
    ·subst h;simp
    ·rw[Jl h,Jl];intro e
     have:=congrArg (List.map cs) e
     rw[qc3,qc3] at this;exact h this
   rw[e4] at this;exact SeqAt.EqAt.of_refs R9 this
 ·rw[Zu,show its.length=Fs.length by omega,qj1 Fs Gs hl];rfl
end L2
namespace Fs
structure Ok9(ls:List Nat):Prop where
 rise:ls.Pairwise (·<·)
 len:ls.length<=9
end Fs
namespace L2
open PySem PySem.Spec PyProof.Rows
theorem qbH{t:TGs}{tb:TS}{D:Ends}(Pv:Nat->St->Hp->Prop)(h0:Pv 0 σ H)(hs:∀ i σ H,i<z.cps.size->Pv i σ H->t [.int i,sgn z i] σ H λ σ2 H2=>tb { D with nx:=Pv (i+1),ct:=Pv (i+1),bk:=D.nx } σ2 H2)(hd:∀ σ H,Pv z.cps.size σ H->D.nx σ H):
  ∃ W:Nat->Nat->St->Hp->Prop,(∃ m,W 0 m σ H)/\∀ i m σ H,W i m σ H ->
   ((qiF z).stop i H/\D.nx σ H)∨((qiF z).go i H/\∃ N:St->Hp->Prop,(∀ σ' H',N σ' H'->∃ m',m'<m/\W (i+1) m' σ' H')/\∀ zs H',(qiF z).yld i H zs H'->zs.length=2/\t zs σ H' λ σ2 H2=>tb { D with nx:=N,ct:=N,bk:=D.nx } σ2 H2):=by
 refine⟨λ i m σ H=>m=z.cps.size-i/\i<=z.cps.size/\Pv i σ H,⟨z.cps.size,by simp,Ve _,h0⟩,?_⟩;rintro i m σ H ⟨rfl,hi,p⟩;by_cases c8:i<z.cps.size
 ·refine .inr ⟨c8,Pv (i+1),λ σ' H' p'=>⟨z.cps.size-(i+1),by omega,rfl,c8,p'⟩,λ zs H' y=>?_⟩;obtain⟨e,ez⟩:=y;subst e ez;exact⟨rfl,hs i σ _ c8 p⟩
 ·have e:i=z.cps.size:=by omega
  subst e;exact .inl ⟨rfl,hd σ H p⟩
end L2
namespace Fs
theorem qiH(F G:List Pr):(added F G).length<=F.length+G.length:=by
 unfold added;rw[(zR _).length_eq,qcG,Zh]
 have:=Ye (λ p=>!G.contains p) F
 have:=Ye (λ p=>!F.contains p) G
 omega
noncomputable def uni(a b:Pr):Pr:=qg [a++b]
theorem qhP:c∈uni a b ↔ c∈a∨c∈b:=by unfold uni;rw[zm];simp
end Fs
namespace L2
open PySem PySem.Spec PyProof.Rows
section
variable {X:Cx}{pins:List (Addr×Obj)}{σ:St}{H:Hp}{s:Shared}{a:Addr}
theorem Inv.swap(I:Inv X pins σ H s)(e:H a=some u)(n1:∀ x,u≠.own x)(n2:∀ xs,u≠.tup xs)(n3:∀ ps,u≠.tbl ps)(n4:∀ o v,X.H₀ a≠some (.frz o v))(ok:zx X.prog X.w (upd H a u') s.heap a u'):Inv X pins σ (upd H a u') s:=by
 have ne:∀{b:Addr},H b=none->b≠a:=λ h q=>by rw[q,e] at h;cases h
 refine⟨I.ok,I.os,I.bare,⟨I.base.keep,I.base.slot,λ b o q n hx=>?_,I.base.there,λ b xs q=>?_,λ b o v q=>?_,λ b ps q=>?_⟩,I.loc,I.cell,?_,λ x c q=>?_,λ p hp=>?_,λ b v q=>?_,I.len⟩
 ·have:=I.base.free b o q n hx
  rw[qv (ne this)];exact this
 ·have:=I.base.tups b xs q
  rw[qv (λ z=>by rw[z,e] at this;exact n2 _ (Option.some.inj this))];exact this
 ·have:=I.base.frzs b o v q
  rw[qv (show b≠a from λ z=>n4 o v (by rw[<- z];exact q))];exact this
 ·obtain⟨more,h⟩:=I.base.tbls b ps q;exact⟨more,by rw[qv (λ z=>by rw[z,e] at h;exact n3 _ (Option.some.inj h))];exact h⟩
 ·rw[qv (ne I.free)];exact I.free
 ·rw[qv (ne (I.freeC x c q))];exact I.freeC x c q
 ·obtain⟨p1,p2,p3⟩:=I.pin p hp;exact⟨p1,by rw[qv (ne p2)];exact p2,p3⟩
 ·by_cases hb:b=a
  ·subst hb;rw[qd] at q;cases q
   exact ok
  ·rw[qv hb] at q;refine(I.hok b v q).stay (λ c w _ r=>r) (λ c r=>?_) λ c xs r=>?_
   ·rw[qv (λ z=>by rw[z,e] at r;exact n1 _ (Option.some.inj r))];exact r
   ·rw[qv (λ z=>by rw[z,e] at r;exact n2 _ (Option.some.inj r))];exact r
theorem Inv.nofrz(I:Inv X pins σ H s)(e:H a=some u)(h:∀ o v,u≠.frz o v):∀ o v,X.H₀ a≠some (.frz o v):=λ o v q=>by
 have:=I.base.frzs a o v q
 rw[e] at this;exact h o v (Option.some.inj this)
end
noncomputable def qof(a:Addr)(kvs:List (Key×V))(D:Ends):Ends where
 nx:=λ σ H=>∃ o,H a=some (.frz o (.dK kvs))/\D.nx σ (upd H a (.dK kvs))
 rt:=λ v H=>∃ o,H a=some (.frz o (.dK kvs))/\D.rt v (upd H a (.dK kvs))
 bk:=λ σ H=>∃ o,H a=some (.frz o (.dK kvs))/\D.bk σ (upd H a (.dK kvs))
 ct:=λ σ H=>∃ o,H a=some (.frz o (.dK kvs))/\D.ct σ (upd H a (.dK kvs))
def qni(t:TS):TS:=λ D σ H=>∃ a kvs,H a=some (.dK kvs)/\t (qof a kvs D) σ H
section
variable {X:Cx}
theorem Inv.thaw{σ:St}(I:Inv X pins σ H s)(nf:∀ o v,X.H₀ a≠some (.frz o v))(ho:H a=some (.frz o (.dK kvs))):Inv X pins σ (upd H a (.dK kvs)) s:=by
 refine I.swap ho (λ _ z=>by cases z) (λ _ z=>by cases z) (λ _ z=>by cases z) nf ?_;obtain⟨_,z,y,vs,r,k⟩:=(show zx X.prog X.w H s.heap a (.frz o (.dK kvs)) from I.hok a _ ho);exact⟨z,y,vs,r,k⟩
theorem qlO{st:Stmt}(h:PS X st t):PS X st (qni t):=by
 intro pins s σ H D I hw;obtain⟨a,kvs,ha,hw⟩:=hw;have nf:=I.nofrz ha λ _ _ z=>by cases z
 refine thn (h pins s σ H _ I hw) λ f s1 q=>?_
 cases f with
 |next=>obtain⟨σ1,H1,I1,o,ho,q⟩:=q;exact⟨σ1,_,I1.thaw nf ho,q⟩
 |brk=>obtain⟨σ1,H1,I1,o,ho,q⟩:=q;exact⟨σ1,_,I1.thaw nf ho,q⟩
 |cont=>obtain⟨σ1,H1,I1,o,ho,q⟩:=q;exact⟨σ1,_,I1.thaw nf ho,q⟩
 |ret u=>obtain⟨v,σ1,H1,I1,r,o,ho,q⟩:=q;exact⟨v,σ1,_,I1.thaw nf ho,r,q⟩
end
end L2
namespace L2
open PySem PySem.Spec PyProof.Rows PySem.StrLaws PySem.Builtin PySem.Builtin.Str
noncomputable def qeU(c:Nat):Nat->List Nat->List Nat
 |_,[]=>[]
 |k,x::l=>if x=c then k::qeU c (k+1) l else qeU c (k+1) l
end L2
namespace L2
open PySem PySem.Spec PyProof.Rows
theorem qcf:∀(G:List (List Nat)),(∀ p∈G,p.length<=n)->G.flatten.length<=n*G.length:=by
 intro G;induction G with
 |nil=>intro _;simp
 |cons g G ih =>
  intro h;have h1:=h g (Ze ..);have h2:=ih λ p hp=>h p (Yl _ hp)
  rw[Zw,Zh,Uj,Nat.mul_succ];omega
end L2
namespace Fs
theorem qhQ{α:Type}[DecidableEq α](f:α->Nat):∀{l m:List α},l.Nodup->(∀ x∈l,x∈m)->(l.map f).sum<=(m.map f).sum
 | [],_,_,_=>Ve _
 |a::l,m,nd,h=>by
  have x3:=U5.mp nd;have ha:a∈m:=h a Ze;have ih:=qhQ f (l:=l) (m:=m.erase a) x3.2 λ x hx=>(List.mem_erase_of_ne (λ(e:x=a)=>x3.1 (by rw[<- e];exact hx))).mpr (h x (Yl _ hx))
  have e:(m.map f).sum=((a::m.erase a).map f).sum:=by
   have:=(List.perm_cons_erase ha).map f
   clear ih;generalize m.map f=u at this;generalize (a::m.erase a).map f=v at this;induction this with
   |nil=>rfl
   |cons x _ ih=>rw[Qo,Qo,ih]
   |swap x y l=>rw[Qo,Qo,Qo,Qo];omega
   |trans _ _ a b=>exact a.trans b
  rw[e,Qj,Qj,Qo,Qo];omega
theorem qbo(l:Nat):∀ P:List Pr,((P.map (l::·)).map List.length).sum=(P.map List.length).sum+P.length
 | []=>rfl
 |p::P=>by
  have ih:=qbo l P;rw[Qj,Qj,Qo,Qj,Qo,ih,Uj,Uj];omega
theorem qlP(u v:List Nat):(u++v).sum=u.sum+v.sum:=by
 induction u with
 |nil=>simp
 |cons a u ih=>rw[Uv,Qo,Qo,ih];omega
theorem qdf:∀ ls:List Nat,2*((zh ls).map List.length).sum=ls.length*2^ls.length
 | []=>rfl
 |l::ls=>by
  have ih:=qdf ls;have pl:=qN ls;rw[zh,Ja,qlP,qbo,Uj,Q3,pl];generalize 2^ls.length=N at ih ⊢
  have:(ls.length+1)*(N*2)=2*(ls.length*N)+2*N:=by
   rw[Nat.add_mul,Nat.one_mul,Q2 N 2,<- Qq,Q2 ls.length 2,Qq]
  rw[this];omega
theorem On.flat2(h:On ls F)(hl:ls.Pairwise (·<·)):2*F.flatten.length<=ls.length*2^ls.length:=by
 rw[<- qdf,List.length_flatten]
 have:=qhQ List.length (l:=F) (m:=zh ls) h.vf.nodup λ p hp=>zN.mpr (h.sub hl p hp)
 omega
theorem Ok9.le(o:Ok9 ls)(h:On ls F):F.length<=512:=by
 have h1:=h.len o.rise;have h2:2^ls.length<=2^9:=Yu (by decide) o.len;omega
noncomputable def qJ(F G:List Pr):List Pr:=F.flatMap λ p=>G.map λ q=>uni p q
end Fs
namespace L2
open PySem PySem.Spec PyProof.Rows
section
variable {X:Cx}
abbrev rAS:R2:=λ x y H Q=>∃ i j,x=.str i/\y=.str j/\i.length+j.length<=sizeLine/\Q (.str (i++j)) H
theorem qU:OpR X (binaryOp .Add) rAS:=qcA
end
end L2
namespace L2
open PySem PySem.Spec PyProof.Rows PySem.StrLaws PySem.Builtin PySem.Builtin.Str
theorem qj2(z:Str)(c:Nat):∀(m k:Nat)(st:Array Nat×Nat),1<=st.1.size->(forIn (List.range' k m) st (occBody z ⟨#[c]⟩ z.length 1)).run.fst.toList=st.1.toList:=by
 intro m;induction m with
 |zero=>intro k st h;rfl
 |succ m ih =>
  intro k st h;rw[List.range'_succ,Jb];unfold occBody;rw[V5 (λ q=>by have:st.1.size<1:=q.1.1.1;omega)];exact ih (k+1) (st.1,st.2) h
theorem qiI(z:Str)(c:Nat):∀(m k:Nat)(st:Array Nat×Nat),st.2<=k->st.1.toList=[]->(forIn (List.range' k m) st (occBody z ⟨#[c]⟩ z.length 1)).run.fst.toList=(qeU c k ((cs z).drop k |>.take m)).take 1:=by
 intro m;induction m with
 |zero=>intro k st h1 h2;rw[J5];exact h2
 |succ m ih =>
  intro k st h1 h2;have hz:st.1.size=0:=by rw[<- Yx,h2];rfl
  rw[List.range'_succ,Jb];unfold occBody;by_cases e:(cs z)[k]?=some c
  ·obtain⟨c1,c2⟩:=(subAt_one z c k).mpr e;rw[V4 ⟨⟨⟨by omega,h1⟩,c1⟩,c2⟩]
   have:=qj2 z c m (k+1) (st.1.push k,k+1) (by rw[Array.size_push];omega)
   refine Eq.trans this ?_;rw[Z2,h2];obtain⟨c8,ek⟩:=Xn.mp e;rw[Xt c8,List.take_succ_cons,ek];show _=List.take 1 (if c=c then _ else _)
   rw[V4 rfl];rfl
  ·rw[V5 (λ q=>e ((subAt_one z c k).mp ⟨q.1.2,q.2⟩))]
   have:=ih (k+1) (st.1,st.2) (Z6 h1) h2
   refine Eq.trans this ?_;congr 1
   by_cases c8:k<(cs z).length
   ·rw[Xt c8,List.take_succ_cons];show _=(if (cs z)[k]=c then _ else _)
    rw[V5 (λ q=>e (by rw[Xy c8,q]))]
   ·rw[XM (by omega),XM (by omega)];simp[qeU]
theorem qlQ(z:Str)(c:Nat):occurrences z ⟨#[c]⟩ 0 z.length 1=(qeU c 0 (cs z)).take 1:=by
 rw[occ_eq,qiI z c _ 0 (#[],0) (Vd _) rfl,J0];congr 2
 exact XL (by simp[Str.length])
theorem qfV(c:Nat):∀(w r:List Nat)(k:Nat),c∉w->qeU c k (w++c::r)=(k+w.length)::qeU c (k+w.length+1) r
 | [],r,k,_=>by show(if c=c then _ else _)=_;rw[V4 rfl];rfl
 |x::w,r,k,h=>by
  have hx:¬ x=c:=λ e=>h (by rw[e];exact Ze ..)
  show(if x=c then _ else qeU c (k+1) (w++c::r))=_
  rw[V5 hx,qfV c w r (k+1) (λ hm=>h (Yl _ hm))];simp[Qp,Nat.add_comm 1]
theorem qbI(l:List Nat)(i j:Nat):strSub (qi l) i j=qi ((l.drop i).take (j-i)):=by
 show(⟨(l.toArray).extract i j⟩:Str)=⟨((l.drop i).take (j-i)).toArray⟩
 congr 1
 apply Array.toList_inj.mp
 simp[List.extract_eq_drop_take]
section
variable {X:Cx}
def qog:V->List V->Hp->VK->Prop:=λ x vs H Q=>∃(w r:List Nat)(c:Nat),x=vS (w++c::r)/\vs=[vS [c]]/\c∉w/\w.length+r.length<=60000/\∀ p,H p=none->Q (.ref p) (upd H p (.tup [vS w,vS [c],vS r]))
theorem qlR:MtR X "str.partition" qog:=by
 intro pins s σ H x vs v us Q I rx rv h;obtain⟨w,r,c,rfl,rfl,hc,hz,q⟩:=h;obtain⟨t,rfl⟩:=rx;obtain⟨u,rfl,ru⟩:=yk rv;obtain⟨tu,rfl⟩:=ru;have hl:(qi (w++c::r)).length=w.length+(r.length+1):=by rw[qD,Zh,Uj]
 refine Vp PySem.F.slot_str_partition (Vo _ _ _) PySem.F.entry_str_partition (PySem.F.args_str_partition_2 _ _) (meets_str_partition (qi (w++c::r)) (qi [c]) t tu rfl (by rw[hl];exact qB (by omega))) ?_;have ho:occurrences (qi (w++c::r)) (qi [c]) 0 (qi (w++c::r)).length 1=[w.length]:=by
  rw[show qi [c]=(⟨#[c]⟩:Str) from rfl,qlQ];show(qeU c 0 (w++c::r)).take 1=_
  rw[qfV c w r 0 hc];simp
 rw[ho];have hf:=I.hok.fresh (Vd s.heap.objs.size);have e1:strSub (qi (w++c::r)) 0 w.length=qi w:=by rw[qbI];simp
 have e2:strSub (qi (w++c::r)) (w.length+(qi [c]).length) (qi (w++c::r)).length=qi r:=by
  rw[qbI,hl,qD,XW]
  have:(w++c::r).drop (w.length+1)=r:=by rw[show w++c::r=(w++[c])++r by simp,Xc (by simp)];simp
  rw[this,XL (by omega)]
 dsimp only;rw[e1,e2];refine⟨.ref s.heap.objs.size,_,I.laid (a:=s.heap.objs.size) (o:=.tup [vS w,vS [c],vS r]) (t':=s.toks+1+1) (λ _ _ h=>XG _ h) (Vd _) ⟨qB (by show 3<=_;decide),_,.cons ⟨_,rfl⟩ (.cons ⟨_,rfl⟩ (.cons ⟨_,rfl⟩ .nil)),⟨_,Yy _ rfl,rfl,_,rfl⟩⟩,rfl,q _ hf⟩
def qnj:V->List V->Hp->VK->Prop:=λ x vs H Q=>∃(i j:Nat)(w:List Nat),x=vS (List.replicate i 32++w++List.replicate j 32)/\vs=[vS [32]]/\w≠[]/\32∉w/\i+w.length+j<=60000/\Q (vS w) H
theorem qfW(n:Nat)(l:List Nat)(h:∀ x,l.head?=some x->¬ x=32):((List.replicate n 32++l).takeWhile λ c=>(#[32]:Array Nat).contains c).length=n:=by
 induction n with
 |zero =>
  cases l with
  |nil=>rfl
  |cons x l =>
   have:¬ x=32:=h x rfl
   have e:(#[32]:Array Nat).contains x=false:=by simp[this]
   rw[List.replicate_zero,U9,List.takeWhile_cons,e];rfl
 |succ n ih =>
  rw[Y0,Uv,List.takeWhile_cons];have e:(#[32]:Array Nat).contains 32=true:=by simp
  rw[e,V4 rfl,Uj,ih]
theorem qj3(i j:Nat)(w:List Nat)(hw:w≠[])(h:32∉w):Txt.stripChars (qi (List.replicate i 32++w++List.replicate j 32)) (qi [32])=qi w:=by
 have lo:stripLo (#[32]:Array Nat).contains true (qi (List.replicate i 32++w++List.replicate j 32))=i:=by
  unfold stripLo;rw[V4 rfl];show(((List.replicate i 32++w++List.replicate j 32)).takeWhile _).length=i
  rw[Zx];refine qfW i _ λ x hx=>?_
  cases w with
  |nil=>exact absurd rfl hw
  |cons a w=>simp at hx;subst hx;exact λ e=>h (by rw[e];exact Ze ..)
 have hl:(qi (List.replicate i 32++w++List.replicate j 32)).length=i+w.length+j:=by rw[qD];simp[Qp]
 have hi:stripHi (#[32]:Array Nat).contains true (qi (List.replicate i 32++w++List.replicate j 32)) i=i+w.length:=by
  unfold stripHi;rw[V4 rfl,hl];show i+w.length+j-((((List.replicate i 32++w++List.replicate j 32)).drop i).reverse.takeWhile _).length=_
  have e:((List.replicate i 32++w++List.replicate j 32)).drop i=w++List.replicate j 32:=by
   rw[Zx,Xc (by simp)];simp
  rw[e,Y5,List.reverse_replicate,qfW j _ λ x hx=>λ e2=>?_]
  ·omega
  ·subst e2
   have:32∈w.reverse:=List.mem_of_mem_head? hx
   exact h (List.mem_reverse.mp this)
 have st:stripped (#[32]:Array Nat).contains true true (qi (List.replicate i 32++w++List.replicate j 32))=qi w:=by
  unfold stripped;rw[lo,hi,qbI];have e:((List.replicate i 32++w++List.replicate j 32)).drop i=w++List.replicate j 32:=by
   rw[Zx,Xc (by simp)];simp
  rw[e,show i+w.length-i=w.length by omega];simp
 show Txt.stripBy (#[32]:Array Nat).contains true true _=_
 unfold Txt.stripBy;split
 ·rename_i hs;unfold stripSame at hs;rw[lo,hi,hl] at hs;have hs:i=0/\i+w.length=i+w.length+j:=by simpa using hs
  obtain⟨h1,h2⟩:=hs;have hj:j=0:=by omega
  subst h1 hj;simp
 ·exact st
theorem qfX:MtR X "str.strip" qnj:=by
 intro pins s σ H x vs v us Q I rx rv h;obtain⟨i,j,w,rfl,rfl,hw,hn,hz,q⟩:=h;obtain⟨t,rfl⟩:=rx;obtain⟨u,rfl,ru⟩:=yk rv;obtain⟨tu,rfl⟩:=ru;have hl:(qi (List.replicate i 32++w++List.replicate j 32)).length=i+w.length+j:=by rw[qD];simp[Qp]
 refine SC.stripChars (y:=qi [32]) (λ t' k=>?_) (by rw[hl];exact qB (by omega));rw[qj3 i j w hw hn];exact⟨vS w,H,I.tok k,⟨_,rfl⟩,q⟩
end
end L2
namespace Fs
theorem qj4(hM:M<2^k)(hN:N<2^k):M &&& (2^k+N)=M &&& N:=by
 apply Nat.eq_of_testBit_eq
 intro i;rw[Jh,Jh];by_cases h:i<k
 ·rw[Xl h]
 ·have:M.testBit i=false:=XN (Zd hM (Yu (by decide) (Nat.le_of_not_lt h)))
  rw[this];rfl
theorem qiJ(hM:M<2^k)(hN:N<2^k):(2^k+M) &&& (2^k+N)=2^k+(M &&& N):=by
 have hMN:M &&& N<2^k:=Zi Nat.and_le_left hM;apply Nat.eq_of_testBit_eq
 intro i;rw[Jh];rcases Nat.lt_trichotomy i k with h|h|h
 ·rw[Xl h,Xl h,Xl h,Jh]
 ·subst h;rw[Xm,Xm,Xm,XN hM,XN hN,XN hMN];rfl
 ·have up:∀ x,x<2^k->(2^k+x).testBit i=false:=λ x hx=>XN (by
   have:2^(k+1)<=2^i:=Yu (by decide) h
   rw[Q3] at this;omega)
  rw[up _ hM,up _ hMN];rfl
noncomputable def prt(N M:Nat):Bool:=(M &&& N) == M
theorem qnk(h:prt N M=true):M<=N:=by
 have e:M &&& N=M:=by simpa [prt] using h
 rw[<- e];exact Nat.and_le_right
noncomputable def vO(l:List Bool):Bool:=l.foldl (λ a b=>xor a b) false
theorem qfY(l:List Bool)(a:Bool):l.foldl (λ a b=>xor a b) a=xor a (vO l):=by
 induction l generalizing a with
 |nil=>simp[vO]
 |cons x l ih=>unfold vO;rw[U8,U8,ih,ih (xor false x)];cases a <;> cases x <;> simp
theorem kJ(l m:List Bool):vO (l++m)=xor (vO l) (vO m):=by unfold vO;rw[Z5,qfY];rfl
theorem qiK(h:∀ b∈l,b=false):vO l=false:=by
 induction l with
 |nil=>rfl
 |cons x l ih =>
  unfold vO;rw[U8,qfY,h x (Ze ..),ih λ b hb=>h b (Yl _ hb)];rfl
noncomputable def vj(t:List Bool)(N:Nat):Bool:=vO ((List.range (N+1)).map λ M=>prt N M && t.getD M false)
theorem qj5(t:List Bool)(h:N<K):vO ((List.range K).map λ M=>prt N M && t.getD M false)=vj t N:=by
 obtain⟨d,rfl⟩:∃ d,K=N+1+d:=⟨K-(N+1),by omega⟩;rw[List.range_add,Ja,kJ,qiK (l:=List.map _ (List.map _ _)) λ b hb=>?_]
 ·unfold vj;simp
 ·rw[Q5] at hb;obtain⟨j,_,rfl⟩:=Q4.mp hb;show(prt N (N+1+j) && _)=false
  have:prt N (N+1+j)=false:=by
   cases e:prt N (N+1+j) with
   |false=>rfl
   |true=>have:=qnk e;omega
  rw[this];rfl
theorem qj6(hl:aQ.length=2^k)(hN:N<2^k):vj (aQ++R8) N=vj aQ N:=by
 unfold vj;congr 1
 refine Y8 λ M hM=>?_
 have:M<aQ.length:=by have:=Js.mp hM;omega
 rw[Xj,Xj,Xo this]
theorem qiL(hl:aQ.length=2^k)(hN:N<2^k):vj (aQ++R8) (2^k+N)=xor (vj aQ N) (vj R8 N):=by
 have e:vj (aQ++R8) (2^k+N)=vO ((List.range (2^k+(N+1))).map λ M=>prt (2^k+N) M && (aQ++R8).getD M false):=by unfold vj;rw[Qp]
 rw[e,List.range_add,Ja,kJ];congr 1
 ·rw[<- qj5 aQ hN];congr 1
  refine Y8 λ M hM=>?_
  have hM:M<2^k:=Js.mp hM;have e1:prt (2^k+N) M=prt N M:=by unfold prt;rw[qj4 hM hN]
  rw[e1,Xj,Xj,Xo (by omega)]
 ·unfold vj;rw[Q5];congr 1
  refine Y8 λ M hM=>?_
  have tH:M<2^k:=by have:=Js.mp hM;omega
  show(prt (2^k+N) (2^k+M) && (aQ++R8).getD (2^k+M) false)=_
  have e1:prt (2^k+N) (2^k+M)=prt N M:=by
   unfold prt;rw[qiJ tH hN];rw[U2,Vn,Vn];omega
  rw[e1,Xj,Xj,Xh (by omega),hl,XB]
theorem qci:∀(n:Nat)(t:List Bool),t.length=2^n->∀ N,N<2^n->(zl n t)[N]?=some (vj t N)
 |0,t,h,N,hN=>by
  have e:N=0:=by simpa using hN
  subst e
  match t,h with
  | [b],_=>cases b <;> rfl
 |n+1,t,h,N,hN=>by
  have hp:2^(n+1)=2^n+2^n:=by rw[Q3];omega
  have h1:(t.take (2^n)).length=2^n:=by rw[Ul];omega
  have h2:(t.drop (2^n)).length=2^n:=by rw[Um];omega
  have l1:=qV n _ h1;have et:t=t.take (2^n)++t.drop (2^n):=(XZ _ _).symm;rw[zl];by_cases c8:N<2^n
  ·rw[Xo (by omega),qci n _ h1 N c8]
   conv=>rhs;rw[et,qj6 h1 c8]
  ·obtain⟨N',rfl⟩:∃ N',N=2^n+N':=⟨N-2^n,by omega⟩;have hN':N'<2^n:=by omega
   rw[Xh (by omega),l1,XB,Yd,qci n _ h1 N' hN',qci n _ h2 N' hN']
   conv=>rhs;rw[et,qiL h1 hN']
end Fs
namespace Fs
noncomputable def qM(n N:Nat):List Bool:=(List.range n).map λ k=>decide (N / 2^(n-1-k) % 2=1)
theorem ya(n N:Nat):(qM n N).length=n:=by unfold qM;rw[U3,Z4]
theorem qj7(h:k<n):(qM n N)[k]?=some (decide (N / 2^(n-1-k) % 2=1)):=by
 unfold qM;rw[Zt,Y9 h];rfl
theorem qdg(n N:Nat):qM (n+1) N=decide (N / 2^n % 2=1)::qM n N:=by
 unfold qM;rw[List.range_succ_eq_map,Qj,Q5];congr 1
 refine Y8 λ k hk=>?_
 show decide (N / 2^(n+1-1-(k+1)) % 2=1)=_
 rw[show n+1-1-(k+1)=n-1-k by omega]
theorem qef(n N:Nat):qM n (N % 2^n)=qM n N:=by
 unfold qM;refine Y8 λ k hk=>?_
 have hk:=Js.mp hk;rw[<- Nat.testBit_eq_decide_div_mod_eq,<- Nat.testBit_eq_decide_div_mod_eq,Nat.testBit_mod_two_pow,Qa (show n-1-k<n by omega)];rfl
noncomputable def asg(ls:List Nat)(r:List Bool)(c:Nat):Bool:=(((ls.zip r).find? λ x=>decide (x.1=c)).map (·.2)).getD false
theorem kK(c:Nat)(ls:List Nat)(b:Bool)(r:List Bool):asg (c::ls) (b::r) c=b:=by unfold asg;rw[Zk,U7];simp
theorem jR(ls:List Nat)(b:Bool)(r:List Bool)(h:¬ c=d):asg (c::ls) (b::r) d=asg ls r d:=by
 unfold asg;rw[Zk,U7,show decide ((c,b).1=d)=false from Jl h]
theorem qfZ(ρ:Nat->Bool):∀{ls:List Nat},ls.Nodup->∀ c∈ls,asg ls (qM ls.length (yD ρ 0 ls)) c=ρ c
 | [],_,c,h=>by simp at h
 |d::ls,nd,c,hc=>by
  have x3:=U5.mp nd;have c8:=qag ρ ls;have hM:yD ρ 0 (d::ls)=(if ρ d then 1 else 0)*2^ls.length+yD ρ 0 ls:=by rw[yD,kF];simp
  have hp:0<2^ls.length:=Ji _;have e1:yD ρ 0 (d::ls) / 2^ls.length=if ρ d then 1 else 0:=by
   rw[hM,Q2,Nat.mul_add_div hp,Nat.div_eq_of_lt c8,Nat.add_zero]
  have e2:yD ρ 0 (d::ls) % 2^ls.length=yD ρ 0 ls:=by
   rw[hM,Q2,Nat.mul_add_mod,Nat.mod_eq_of_lt c8]
  rw[Uj,qdg,e1,<- qef,e2];by_cases h:d=c
  ·subst h;rw[kK];cases ρ d <;> rfl
  ·rw[jR _ _ _ h];have C3:c∈ls:=by
    rcases Qi.mp hc with e|e
    ·exact absurd e.symm h
    ·exact e
   exact qfZ ρ x3.2 c C3
noncomputable def sel(ls:List Nat)(N:Nat):Pr:=ls.filter (asg ls (qM ls.length N))
theorem qj8(nd:(d::ls).Nodup)(N:Nat):sel (d::ls) N=if N / 2^ls.length % 2=1 then d::sel ls (N % 2^ls.length) else sel ls (N % 2^ls.length):=by
 have x3:=U5.mp nd;unfold sel;rw[Uj,qdg,qef];have e:ls.filter (asg (d::ls) (decide (N / 2^ls.length % 2=1)::qM ls.length N))=ls.filter (asg ls (qM ls.length N)):=
  List.filter_congr λ c hc=>jR _ _ _ λ e=>x3.1 (e ▸ hc)
 rw[List.filter_cons,kK,e];by_cases h:N / 2^ls.length % 2=1
 ·rw[V4 h,Qa h,V4 rfl]
 ·rw[V5 h,Jl h,V5 (by decide)]
theorem qdh:∀{ls:List Nat},ls.Nodup->∀{N:Nat},N<2^ls.length->(zh ls)[N]?=some (sel ls N)
 | [],_,N,h=>by
  have e:N=0:=by simpa using h
  rw[e];rfl
 |d::ls,nd,N,h=>by
  have x3:=U5.mp nd;have hp:0<2^ls.length:=Ji _;rw[Uj,Q3] at h;rw[zh,qj8 nd];by_cases c8:N<2^ls.length
  ·rw[Xo (by rw[qN];exact c8),Nat.div_eq_of_lt c8,Nat.mod_eq_of_lt c8,V5 (by decide),qdh x3.2 c8]
  ·have e1:N / 2^ls.length=1:=by
    rw[Nat.div_eq_iff hp];omega
   have e2:N % 2^ls.length=N-2^ls.length:=by
    rw[Nat.mod_eq_sub_mod (by omega),Nat.mod_eq_of_lt (by omega)]
   rw[Xh (by rw[qN];omega),qN,Zt,qdh x3.2 (N:=N-2^ls.length) (by omega),e1,e2,V4 rfl];rfl
noncomputable def qau(ls:List Nat)(t:List Bool)(i:Nat):List Pr:=(List.range i).filterMap λ N=>if vj t N=true then some (sel ls N) else none
theorem qdi(ls:List Nat)(t:List Bool)(i:Nat):qau ls t (i+1)=qau ls t i++(if vj t i=true then [sel ls i] else []):=by
 unfold qau;rw[Je,Ya];congr 1
 by_cases h:vj t i=true
 ·simp[h]
 ·simp[h]
theorem qeg(ls:List Nat)(t:List Bool)(i:Nat):(qau ls t i).length<=i:=by
 have:=List.length_filterMap_le (λ N=>if vj t N=true then some (sel ls N) else none) (List.range i)
 rw[Z4] at this;exact this
theorem qeh(nd:ls.Nodup)(ht:t.length=2^ls.length):qau ls t (2^ls.length)=yd ls (zl ls.length t):=by
 have e:(zh ls).zip (zl ls.length t)=(List.range (2^ls.length)).map λ N=>(sel ls N,vj t N):=by
  refine Z1 λ N=>?_
  rw[Zt];by_cases h:N<2^ls.length
  ·have e1:((zh ls).zip (zl ls.length t))[N]?=some (sel ls N,vj t N):=List.getElem?_zip_eq_some.mpr ⟨qdh nd h,qci _ _ ht N h⟩;rw[Y9 h,e1];rfl
  ·rw[Yb (by rw[Jj,qN];omega),Yb (by rw[Z4];omega)];rfl
 unfold yd qau;rw[e,List.filterMap_map];rfl
theorem qj9(l:List Bool)(b:Bool):vO (l++[b])=xor (vO l) b:=by rw[kJ];congr 1;cases b <;> rfl
end Fs
namespace Fs
open PySem L2
theorem zd{F G:α->β->Prop}(h:∀ a b,F a b->G a b):∀{xs:List α}{ys:List β},Paired F xs ys->Paired G xs ys
 |_,_,.nil=>.nil
 |_,_,.cons r t=>.cons (h _ _ r) (zd h t)
theorem zf:∀{xs:List α}{l:List β},Paired F xs l->∀(k:Nat)(a:α),xs[k]?=some a->∃ b,l[k]?=some b/\F a b
 |_,_,.nil,k,a,h=>by simp at h
 |_,_,.cons r t,0,a,h=>by simp at h;subst h;exact⟨_,rfl,r⟩
 |_,_,.cons r t,k+1,a,h=>zf t k a (by simpa using h)
theorem qbp(n:Nat):ixN (n+1) (-1)=some n:=by
 unfold ixN;rw[V5 (by decide),V4 (by omega)];congr 1;omega
def qoh(K:W.Frag):List V->Hp->VK->Prop:=λ xs H Q=>∃ p ys,xs=[.ref p]/\(SqL K H p ys∨SqT K H p ys)/\Q (.int ys.length) H
theorem qlS(M N:Nat):Builtin.bitAnd (M:Int) (N:Int)=((M &&& N:Nat):Int):=by
 unfold Builtin.bitAnd;rw[Qa (Int.natCast_nonneg M),Qa (Int.natCast_nonneg N)];rfl
theorem qoi(p:List Nat):decide (vS p=vS p)=true:=Qa rfl
theorem qf0 {ls:List Nat}(hl:ls.Pairwise (·<·))(hp:p.Pairwise (·<·))(h:∀ c∈p,c∈ls):(ls.filter λ c=>decide (c∈p))=p:=
 vW Qh (λ a b h=>Nat.lt_asymm h) (hl.filter _) hp λ c=>by
  rw[U0];exact⟨λ h=>Ui h.2,λ hc=>⟨h c hc,Qa hc⟩⟩
theorem kM{α:Type}{l:List α}{f:α->Bool}(hi:i<l.length):(l.take (i+1)).filter f=(l.take i).filter f++(if f l[i]=true then [l[i]] else []):=by
 rw[Xa hi,List.filter_append];congr 1
 rw[List.filter_cons];rfl
theorem vm(ls:List Nat):(ls.map λ c=>vS [c])=(ls.map λ c=>[c]).map vS:=by rw[Q5];rfl
end Fs
namespace L2
open PySem PySem.Spec PyProof.Rows
noncomputable def qka(a:Addr)(o:Obj)(kvs:List (Key×V)):It2:=
 ⟨λ i H=>H a=some (.frz o (.dK kvs))/\i<kvs.length,λ i H xs H'=>H'=H/\∃ k v,kvs[i]?=some (k,v)/\xs=[kV k,v],λ i H=>H a=some (.frz o (.dK kvs))/\kvs.length<=i⟩
def qnl(it a:Addr)(n ep:Nat)(i:Nat)(h:Heap):Prop:=∃ ok ov,IsItemIter h it a i n ep ok ov
theorem qgO{K:W.Frag}{pos:Pos}(a it:Addr)(o:Obj)(kvs:List (Key×V))(vs:List (Key×Value))(ep:Nat)(r:KV kvs vs)(hd:∀ h:Heap,h.get? a=some o->h.DictAt (qw P w) a vs ep):
  Turn2 P w K (.Tuple es k pos) (qka a o kvs) [it] it (qnl it a vs.length ep) where
 obj:=λ i h st b hb=>by
  obtain⟨ok,ov,he⟩:=st;have e:b=it:=by simpa using hb
  subst e;exact⟨_,he,λ v q=>by cases q⟩
 keep:=λ i h h' st k=>by
  obtain⟨ok,ov,he⟩:=st;exact⟨ok,ov,k it (by simp) _ he⟩
 item:=by
  intro X hP hw hK hc i pins s σ H E I hf st hg;subst hP hw hK;obtain⟨hq,hi⟩:=hg;have ho:s.heap.get? a=some o:=(I.hok a _ hq).1;obtain⟨f0,f1,f2,f3,f4,f5⟩:=hf it (by simp);have hx:kvs[i]?=some kvs[i]:=Xy hi;obtain⟨q,M0,rk⟩:=qbk r i kvs[i] hx;obtain⟨k,v⟩:=q;obtain⟨ok,ov,he⟩:=st;refine wpAny_pyNext_items_item he (hd _ ho) M0 λ i9 h' C8 bI ht hsz hk=>?_
  refine⟨s.heap.objs.size,rfl,wpAny_letOwnedTupleGo_items bI λ h2 sR l7=>?_⟩;replace l7:Heap.SameBut it h' h2:=l7;have cL:it<s.heap.objs.size:=Qw he;have I1:Inv X pins σ H { s with heap:=h2 }:=I.turned (t':=s.toks) (λ b o hb e=>l7.extBut b o hb (hk b o hb e)) f0 f1 f3 f4 f5;have ek:kvs[i].1=k:=rk.1;exact⟨[kV k,kvs[i].2],[i9,v],H,I1,⟨_,(l7.extBut _ _ (Q0 cL) ht),rfl,_,rfl⟩,.cons (qlI C8) (.cons rk.2 .nil),⟨rfl,k,kvs[i].2,by rw[hx,<- ek],rfl⟩,⟨_,_,sR⟩,λ b hb=>(hf b hb).1⟩
 done:=by
  intro X hP hw hK hc i pins s σ H E I hf st hg;subst hP hw hK;obtain⟨hq,hi⟩:=hg;have ho:s.heap.get? a=some o:=(I.hok a _ hq).1;have lv:kvs.length=vs.length:=Y7 r;obtain⟨f0,f1,f2,f3,f4,f5⟩:=hf it (by simp);obtain⟨ok,ov,he⟩:=st;exact wpAny_pyNext_items_end (I.ok.hd hc) he (hd _ ho) (Yb (by omega)) λ h' eb=>⟨rfl,I.turned (t':=s.toks) (λ b o hb e=>eb b o hb e) f0 f1 f3 f4 f5⟩
 self:=λ A i s Q E st h=>by
  obtain⟨ok,ov,he⟩:=st;exact W.kcp_self he h
section
variable {X:Cx}{tg:Expr}
def qnm(tl:TE):TI2:=λ σ H R=>tl σ H λ x H1=>∃ a kvs,x=.ref a/\H1 a=some (.dK kvs)/\∀ o,R (qka a o kvs) (upd H1 a (.frz o (.dK kvs)))
theorem qkb{es:List Expr}{k:Nat}{p4:Pos}{o:Expr}{to:TE}{apos cpos:Pos}(ho:PE X o to)(O8:attributeBase o "items" X.env (eval o X.env)=eval o X.env:=by rfl)(O5:(apos.endLine == cpos.line)=true:=by rfl):PI2 X (.Tuple es k p4) (.Call (.Attribute o "items" apos) [] [] cpos) (qnm to):=by
 intro pins s σ H R I h;refine wpAny_Call_method0_late O8 O5 (thn (ho pins s σ H _ I h) λ v s1 ⟨x,H1,I1,r1,q1⟩=>?_);obtain⟨d,kvs,rfl,hd,q⟩:=q1;cases r1
 obtain⟨z,y,vs,r,ob,es,ep,oI,rest⟩:=(show zx X.prog X.w H1 s1.heap d (.dK kvs) from I1.hok d _ hd);have dd:s1.heap.DictOf (qw X.prog X.w) d vs:=⟨ob,es,ep,oI,rest⟩;have hdA:∀ h:Heap,h.get? d=some ob->h.DictAt (qw X.prog X.w) d vs ep:=λ h e=>⟨ob,es,e,rest⟩
 obtain⟨h1,h2⟩:=qgz (T:="dict") I1 (x:=.ref d) (v:=.ref d) rfl (.inr (.inr (.inl ⟨rfl,.inl ⟨kvs,hd⟩⟩)));refine⟨"dict","dict.items",PySem.F.plainAttrs_dict,PySem.F.slot_dict_items,PySem.F.type_dict_items,h1,h2,XH rfl (PySem.evalArgs_none ?_)⟩;refine call_meetsIn PySem.F.slot_dict_items dd.typeIs PySem.F.entry_dict_items (PySem.F.args_dict_items_1 _) (meets_dict_items (qw X.prog X.w) d y) ⟨⟨vs,dd⟩,?_⟩;refine wpAny_pyIter_items (knd:=qw X.prog X.w) (kvs:=vs) (ep:=ep) (d:=d) (s:={ s1 with heap:=s1.heap.push { cls:=.type "dict_items",data:=.fields #[.ref d] } }) ⟨_,Yy _ rfl,rfl,rfl⟩ (hdA _ (XG _ oI)) ?_;have I2:Inv X pins σ (upd H1 d (.frz ob (.dK kvs))) s1:=I1.swap hd (λ _ z=>by cases z) (λ _ z=>by cases z) (λ _ z=>by cases z) (I1.nofrz hd λ _ _ z=>by cases z) ⟨oI,z,y,vs,r,ob,es,ep,oI,rest⟩;have I3:Inv X pins σ (upd H1 d (.frz ob (.dK kvs))) { s1 with heap:=s1.heap.push { cls:=.type "dict_items",data:=.fields #[.ref d] } }:=I2.kept (t':=s1.toks) λ b o e=>XG _ e
 refine⟨(s1.heap.push { cls:=.type "dict_items",data:=.fields #[.ref d] }).objs.size,[(s1.heap.push { cls:=.type "dict_items",data:=.fields #[.ref d] }).objs.size],_,_,upd H1 d (.frz ob (.dK kvs)),rfl,I3.kept (t':=s1.toks) λ b o e=>XG _ e,qgO d _ ob kvs vs ep r hdA,⟨_,_,Yy _ rfl⟩,λ b hb=>?_,q ob⟩;have e:b=(s1.heap.push { cls:=.type "dict_items",data:=.fields #[.ref d] }).objs.size:=by simpa using hb
 subst e;exact I3.fpOk (Vd _) (I3.hok.fresh (Vd _))
end
theorem qnn{t:TGs}{tb:TS}{D:Ends}(Pv:Nat->St->Hp->Prop)(h0:Pv 0 σ H)(hl:∀ i σ H,i<=kvs.length->Pv i σ H->H a=some (.frz ob (.dK kvs)))(hs:∀ i k v σ H,kvs[i]?=some (k,v)->Pv i σ H->t [kV k,v] σ H λ σ2 H2=>tb { D with nx:=Pv (i+1),ct:=Pv (i+1),bk:=D.nx } σ2 H2)(hd:∀ σ H,Pv kvs.length σ H->D.nx σ H):
  ∃ W:Nat->Nat->St->Hp->Prop,(∃ m,W 0 m σ H)/\∀ i m σ H,W i m σ H ->
   ((qka a ob kvs).stop i H/\D.nx σ H)∨((qka a ob kvs).go i H/\∃ N:St->Hp->Prop,(∀ σ' H',N σ' H'->∃ m',m'<m/\W (i+1) m' σ' H')/\∀ zs H',(qka a ob kvs).yld i H zs H'->zs.length=2/\t zs σ H' λ σ2 H2=>tb { D with nx:=N,ct:=N,bk:=D.nx } σ2 H2):=by
 refine⟨λ i m σ H=>m=kvs.length-i/\i<=kvs.length/\Pv i σ H,⟨kvs.length,by simp,Ve _,h0⟩,?_⟩;rintro i m σ H ⟨rfl,hi,p⟩;have q:=hl i σ H hi p;by_cases c8:i<kvs.length
 ·refine .inr ⟨⟨q,c8⟩,Pv (i+1),λ σ' H' p'=>⟨kvs.length-(i+1),by omega,rfl,c8,p'⟩,λ zs H' y=>?_⟩;obtain⟨e,k,v,hk,ex⟩:=y;subst e ex;exact⟨rfl,hs i k v σ _ hk p⟩
 ·have e:i=kvs.length:=by omega
  subst e;exact .inl ⟨⟨q,Vd _⟩,hd σ H p⟩
end L2
namespace PySem
open Sem (wp)
structure ZApart(z TI TO i1 i2:Addr)(fp1 fp2:List Addr):Prop where
 TIz:TI≠z
 TOz:TO≠z
 i1z:i1≠z
 i2z:i2≠z
 TITO:TI≠TO
 TIi1:TI≠i1
 TIi2:TI≠i2
 TOi1:TO≠i1
 TOi2:TO≠i2
 i12:i1≠i2
 z1:z∉fp1
 TO1:TO∉fp1
 o1:i2∉fp1
 z2:z∉fp2
 TO2:TO∉fp2
 o2:i1∉fp2
section
variable {prog:Program}{w:World}{A:Around}{E:Value->Shared->Prop}{s:Shared}
theorem Draws.past(D:Draws prog w A it fp n P St)(st:St i h)(hs:Heap.ExtBut c h h')(nc:c∉fp):St i h':=
 D.frame i h h' st λ b hb o e=>hs b o (λ z=>nc (z ▸ hb)) e
theorem kQ{Q:Value->Shared->Prop}(D1:Draws prog w A i1 fp1 n1 P1 S1)(D2:Draws prog w A i2 fp2 n2 P2 S2)(D:ZApart z TI TO i1 i2 fp1 fp2)(hz:IsZip s.heap z TI TO .none)(B1:IsPair s.heap TI (.ref i1) (.ref i2))(t4:IsPair s.heap TO a b)(h1:S1 k1 s.heap)(h2:S2 k2 s.heap)(hx:k1<n1)(hy:k2<n2)(hQ:∀ x y h' tk,P1 k1 x->P2 k2 y->IsZip h' z TI TO (rawInt s.heap.objs.size)->IsPair h' TO x y->S1 (k1+1) h'->S2 (k2+1) h'->IsPair h' s.heap.objs.size x y->h'.objs.size=s.heap.objs.size+1 ->
   (∀ c o,c≠z->c≠TO->c≠i1->c≠i2->s.heap.get? c=some o->h'.get? c=some o)->Q (.ref s.heap.objs.size) { s with heap:=h',toks:=tk }):
  wpAny (model prog w) A (Builtin.«zip.__next__» ⟨[.ref z],[]⟩) (λ fin s'=>∃ v,fin=.done (.ret v)/\Q v s') E s:=by
 show wpAny _ _ (field (.ref z) 2 >>= _) _ _ _
 refine Vl (Vj hz rfl (x:=.bool false) rfl ?_);show wpAny _ _ (field (.ref z) 3 >>= _) _ _ _
 refine Vl (Vj hz rfl (x:=.ref TI) rfl ?_);refine Vl (Qf B1 rfl ?_);show wpAny _ _ (Builtin.SmallTypes.ownedTupleIsFree (.ref z) >>= _) _ _ _
 refine Vl ?_;unfold Builtin.SmallTypes.ownedTupleIsFree;refine Vl (Vj hz rfl (x:=.none) rfl (Vm ?_));simp only[V1];refine Vl (Vq ?_);refine Vl (Vj hz rfl (x:=.ref TO) rfl ?_);refine Vl (Zs hz (by simp) λ h₁ hz₁ hs₁=>?_);replace hz₁:IsZip h₁ z TI TO .ellipsis:=hz₁;refine Vl ?_;simp only[List.zipIdx_cons,List.zipIdx_nil,Jb,Jx];refine Vl (Vl (wpAny_onRaise ?_));show wpAny _ _ (Builtin.SmallTypes.nextOf (.ref i1) >>= _) _ _ _
 refine Vl (D1.item k1 _ _ _ hx (D1.past h1 hs₁.extBut D.z1) λ x h₂ tk hPx h1₂ hs₂=>Vm ?_);replace hs₂:Heap.SameBut i1 h₁ h₂:=hs₂;have t4₂:IsPair h₂ TO a b:=hs₂.extBut _ _ D.TOi1 (hs₁.extBut _ _ D.TOz t4);refine Vl (Qf t4₂ rfl ?_);refine Vl (wpAny_updateSeq_pair t4₂ λ h₃ t4₃ hs₃=>?_);replace t4₃:IsPair h₃ TO x b:=t4₃;replace hs₃:Heap.SameBut TO h₂ h₃:=hs₃;refine Vl (wpAny_letGo (Vm ?_));refine Vl (Vl (wpAny_onRaise ?_));show wpAny _ _ (Builtin.SmallTypes.nextOf (.ref i2) >>= _) _ _ _
 refine Vl (D2.item k2 _ _ _ hy (D2.past (D2.past (D2.past h2 hs₁.extBut D.z2) hs₂.extBut D.o2) hs₃.extBut D.TO2) λ y h₄ P9 hPy h2₄ hs₄=>Vm ?_);replace hs₄:Heap.SameBut i2 h₃ h₄:=hs₄;have t4₄:IsPair h₄ TO x b:=hs₄.extBut _ _ D.TOi2 t4₃;refine Vl (Qf t4₄ rfl ?_);refine Vl (wpAny_updateSeq_pair t4₄ λ h₅ t4₅ hs₅=>?_);replace t4₅:IsPair h₅ TO x y:=t4₅;replace hs₅:Heap.SameBut TO h₄ h₅:=hs₅;refine Vl (wpAny_letGo (Vm (Vm ?_)));refine Vl (Qf t4₅ rfl ?_);refine Vl (Qg ?_);have hsz:h₅.objs.size=s.heap.objs.size:=by rw[hs₅.1,hs₄.1,hs₃.1,hs₂.1,hs₁.1]
 have hz₅:IsZip h₅ z TI TO .ellipsis:=hs₅.extBut _ _ D.TOz.symm (hs₄.extBut _ _ D.i2z.symm (hs₃.extBut _ _ D.TOz.symm (hs₂.extBut _ _ D.i1z.symm hz₁)));have hk₅:∀ c o,c≠z->c≠TO->c≠i1->c≠i2->s.heap.get? c=some o->h₅.get? c=some o:=λ c o c1 c2 c3 c4 e =>
  hs₅.extBut _ _ c2 (hs₄.extBut _ _ c4 (hs₃.extBut _ _ c2 (hs₂.extBut _ _ c3 (hs₁.extBut _ _ c1 e))))
 have h1₅:S1 (k1+1) h₅:=D1.past (D1.past (D1.past h1₂ hs₃.extBut D.TO1) hs₄.extBut D.o1) hs₅.extBut D.TO1;have h2₅:S2 (k2+1) h₅:=D2.past h2₄ hs₅.extBut D.TO2;have rA:z<h₅.objs.size:=Qw hz₅;show wpAny _ _ (Builtin.SmallTypes.ownedTupleHandOut (.ref z) (.ref h₅.objs.size) >>= _) _ _ _
 refine Vl ?_;unfold Builtin.SmallTypes.ownedTupleHandOut;have hz₆:IsZip (h₅.push { cls:=.type "tuple",data:=.seq #[x,y] }) z TI TO .ellipsis:=XG _ hz₅;refine Vl (Zs hz₆ (by simp) λ h₇ hz₇ hs₇=>?_);replace hz₇:IsZip h₇ z TI TO (rawInt h₅.objs.size):=hz₇;refine Zs hz₇ (by simp) λ h₈ hz₈ hs₈=>?_
 replace hz₈:IsZip h₈ z TI TO (rawInt h₅.objs.size):=hz₈;have up:∀ c o,c≠z->h₅.get? c=some o->h₈.get? c=some o:=λ c o c1 e=>hs₈.extBut _ _ c1 (hs₇.extBut _ _ c1 (XG _ e))
 have hT₈:IsPair h₈ h₅.objs.size x y:=hs₈.extBut _ _ (Q0 rA) (hs₇.extBut _ _ (Q0 rA) (Yy _ rfl));have oC:h₈.objs.size=h₅.objs.size+1:=by rw[hs₈.1,hs₇.1,Ju]
 rw[hsz] at hz₈ hT₈ oC;refine Vm ⟨_,rfl,?_⟩;show Q (.ref h₅.objs.size) _
 rw[hsz];exact hQ x y h₈ P9 hPx hPy hz₈ (up _ _ D.TOz t4₅) (D1.frame _ _ _ h1₅ λ c hc o e=>up c o (λ q=>D.z1 (q ▸ hc)) e) (D2.frame _ _ _ h2₅ λ c hc o e=>up c o (λ q=>D.z2 (q ▸ hc)) e) hT₈ oC λ c o c1 c2 c3 c4 e=>up c o c1 (hk₅ c o c1 c2 c3 c4 e)
end
end PySem
namespace L2
open PySem PySem.Spec PyProof.Rows
structure ZD(S1 S2:Nat->Heap->Prop)(h:Heap)(z TI TO i1 i2 S:Addr)(i:Nat):Prop where
 zip:∃ f0 fl,h.get? z=some { cls:=.type "zip",dict:=none,data:=.fields #[f0,.bool fl,.bool false,.ref TI,.ref TO],slots:=#[] }/\((f0=.none/\fl=false)∨∃(a:Addr)(oa:Obj),f0=rawInt a/\h.get? a=some oa/\a∉[z,TO,i1,i2,S])
 ti:IsPair h TI (.ref i1) (.ref i2)
 to:∃ a b,IsPair h TO a b
 it1:S1 i h
 it2:S2 i h
section
variable {prog:Program}{w:World}{A:Around}{E:Value->Shared->Prop}{s:Shared}{z TI TO i1 i2 S:Addr}{i n1 n2:Nat}{fp1 fp2:List Addr}{P1 P2:Nat->Value->Prop}{S1 S2:Nat->Heap->Prop}
theorem ZD.keep(D1:Draws prog w A i1 fp1 n1 P1 S1)(D2:Draws prog w A i2 fp2 n2 P2 S2)(st:ZD S1 S2 h z TI TO i1 i2 S i)(hk:∀ b o,b≠S->h.get? b=some o->h'.get? b=some o)(hn:S∉[z,TI,TO])(h1:S∉fp1)(h2:S∉fp2):ZD S1 S2 h' z TI TO i1 i2 S i:=by
 have ne:∀ c,c∈[z,TI,TO]->c≠S:=λ c hc e=>hn (e ▸ hc)
 obtain⟨⟨f0,fl,hz,hf⟩,ti,⟨a,b,to⟩,s1,s2⟩:=st;refine⟨⟨f0,fl,hk _ _ (ne z (by simp)) hz,?_⟩,hk _ _ (ne TI (by simp)) ti,⟨a,b,hk _ _ (ne TO (by simp)) to⟩,D1.frame _ _ _ s1 λ c hc o e=>hk c o (λ q=>h1 (q ▸ hc)) e,D2.frame _ _ _ s2 λ c hc o e=>hk c o (λ q=>h2 (q ▸ hc)) e⟩;rcases hf with hf|⟨a,oa,e,ha,iJ⟩
 ·exact .inl hf
 ·exact .inr ⟨a,oa,e,hk _ _ (λ q=>iJ (by rw[q];simp)) ha,iJ⟩
theorem qno{a:Addr}(hh:A.handled=none)(D1:∀ A':Around,A'.handled=none->Draws prog w A' i1 fp1 n1 P1 S1)(D2:∀ A':Around,A'.handled=none->Draws prog w A' i2 fp2 n2 P2 S2)(D:ZApart z TI TO i1 i2 fp1 fp2)(hz:s.heap.get? z=some { cls:=.type "zip",dict:=none,data:=.fields #[rawInt a,.bool fl,.bool false,.ref TI,.ref TO],slots:=#[] })(ha:s.heap.get? a=some oa)(mM:a∉[z,TO,i1,i2,S])(B1:IsPair s.heap TI (.ref i1) (.ref i2))(t4:∃ a b,IsPair s.heap TO a b)(h1:S1 i s.heap)(h2:S2 i s.heap)(hx:i<n1)(hy:i<n2)(hQ:∀ x y h' tk,P1 i x->P2 i y->ZD S1 S2 h' z TI TO i1 i2 S (i+1)->IsPair h' s.heap.objs.size x y->h'.objs.size=s.heap.objs.size+1->(∀ c o,c∉[z,TO,i1,i2]->s.heap.get? c=some o->h'.get? c=some o)->Q (some (.ref s.heap.objs.size)) { s with heap:=h',toks:=tk }):
  wpAny (model prog w) A (pyNext (.ref z)) Q E s:=by
 have hT:s.TypeIs (.ref z) "zip":=⟨_,hz,rfl⟩;have haz:a≠z:=λ q=>mM (by rw[q];simp)
 have ha1:a≠i1:=λ q=>mM (by rw[q];simp)
 have ha2:a≠i2:=λ q=>mM (by rw[q];simp)
 obtain⟨c1,c2,t4⟩:=t4;unfold pyNext;refine Vl (Qu (XF (name:=Str.ofString "__next__") hT Yf (Uz Yf hT XO ?_ (XD _))));show wpAny _ _ (field (.ref z) 2 >>= _) _ _ _
 refine Vl (Vj hz rfl (x:=.bool false) rfl ?_);show wpAny _ _ (field (.ref z) 3 >>= _) _ _ _
 refine Vl (Vj hz rfl (x:=.ref TI) rfl ?_);refine Vl (Qf B1 rfl ?_);show wpAny _ _ (Builtin.SmallTypes.ownedTupleIsFree (.ref z) >>= _) _ _ _
 refine Vl (thn (Q:=λ b s1=>b=false/\∃ h₁:Heap,s1={ s with heap:=h₁ }/\h₁.get? z=some { cls:=.type "zip",dict:=none,data:=.fields #[rawInt a,.bool true,.bool false,.ref TI,.ref TO],slots:=#[] }/\Heap.SameBut z s.heap h₁) ?_ ?_)
 ·unfold Builtin.SmallTypes.ownedTupleIsFree;refine Vl (Vj hz rfl (x:=rawInt a) rfl ?_);show wpAny _ _ (loadIfAlive ((a:Int).toNat) >>= _) _ _ _
  rw[Zv];refine Vl (qhK ha ?_);simp only[Option.isNone_some,Zl,Vv];refine Vl (Vj hz rfl (x:=.bool fl) rfl ?_);cases fl with
  |true =>
   rw[V5 (show ¬ ((Value.bool true != Value.bool true)=true) from Zf)];exact Vm ⟨rfl,s.heap,rfl,hz,Heap.SameBut.refl _ _⟩
  |false =>
   rw[V4 (show(Value.bool false != Value.bool true)=true from rfl)];refine Vl (Zs hz (by simp) λ h₃ he₃ hs₃=>?_);exact Vm ⟨rfl,h₃,rfl,he₃,hs₃⟩
 rintro b s1 ⟨rfl,h₁,rfl,hz₁,hs₁⟩;simp only[Zl,Vv];simp only[List.forIn_toArray,Jb,Jx];refine Vl (Vl (Vl (Qr ?_)));show wpAny _ _ (Builtin.SmallTypes.nextOf (.ref i1) >>= _) _ _ _
 have E1:=D1 _ hh;have E2:=D2 _ hh;refine Vl ((D1 _ (by simpa using hh)).item i _ _ _ hx (E1.past h1 hs₁.extBut D.z1) λ x h₂ tk hPx h1₂ hs₂=>Vm (Vm ?_));replace hs₂:Heap.SameBut i1 h₁ h₂:=hs₂;refine Vl (Vl (Qr ?_));show wpAny _ _ (Builtin.SmallTypes.nextOf (.ref i2) >>= _) _ _ _
 refine Vl ((D2 _ (by simpa using hh)).item i _ _ _ hy (E2.past (E2.past h2 hs₁.extBut D.z2) hs₂.extBut D.o2) λ y h₃ P9 hPy h2₃ hs₃=>Vm (Vm (Vm ?_)));replace hs₃:Heap.SameBut i2 h₂ h₃:=hs₃;refine Vl (Qg (hsz:=by show 2<=_;decide) ?_);have sz:h₃.objs.size=s.heap.objs.size:=by rw[hs₃.1,hs₂.1,hs₁.1]
 have up:∀ c o,c≠z->c≠i1->c≠i2->s.heap.get? c=some o->(h₃.push { cls:=.type "tuple",data:=.seq #[x,y] }).get? c=some o:=λ c o e1 e2 e3 q=>XG _ (hs₃.extBut _ _ e3 (hs₂.extBut _ _ e2 (hs₁.extBut _ _ e1 q)))
 refine Vm ⟨_,rfl,?_⟩;refine Vm ?_;show Q (some (.ref h₃.objs.size)) _
 rw[sz];have ht:IsPair (h₃.push { cls:=.type "tuple",data:=.seq #[x,y] }) s.heap.objs.size x y:=by rw[<- sz];exact Yy _ rfl
 refine hQ x y _ P9 hPx hPy ⟨⟨rawInt a,true,XG _ (hs₃.extBut _ _ D.i2z.symm (hs₂.extBut _ _ D.i1z.symm hz₁)),.inr ⟨a,oa,rfl,up a oa haz ha1 ha2 ha,mM⟩⟩,up _ _ D.TIz D.TIi1 D.TIi2 B1,⟨c1,c2,up _ _ D.TOz D.TOi1 D.TOi2 t4⟩,?_,?_⟩ ht (by rw[Ju,sz]) λ c o hc e=>up c o (λ q=>hc (by simp[q])) (λ q=>hc (by simp[q])) (λ q=>hc (by simp[q])) e
 ·exact E1.frame _ _ _ (E1.past h1₂ hs₃.extBut D.o1) λ c hc o e=>XG _ e
 ·exact E2.frame _ _ _ h2₃ λ c hc o e=>XG _ e
theorem qlT(hh:A.handled=none)(D1:∀ A':Around,A'.handled=none->Draws prog w A' i1 fp1 n1 P1 S1)(D2:∀ A':Around,A'.handled=none->Draws prog w A' i2 fp2 n2 P2 S2)(D:ZApart z TI TO i1 i2 fp1 fp2)(st:ZD S1 S2 s.heap z TI TO i1 i2 S i)(hS:S<s.heap.objs.size)(hx:i<n1)(hy:i<n2)(hQ:∀ x y h' tk,P1 i x->P2 i y->ZD S1 S2 h' z TI TO i1 i2 S (i+1)->IsPair h' s.heap.objs.size x y->h'.objs.size=s.heap.objs.size+1->(∀ c o,c∉[z,TO,i1,i2]->s.heap.get? c=some o->h'.get? c=some o)->Q (some (.ref s.heap.objs.size)) { s with heap:=h',toks:=tk }):
  wpAny (model prog w) A (pyNext (.ref z)) Q E s:=by
 obtain⟨⟨f0,fl,hz,hf⟩,ti,to,h1,h2⟩:=st;rcases hf with⟨rfl,rfl⟩|⟨a,oa,rfl,ha,mM⟩
 ·obtain⟨c1,c2,to⟩:=to;have hT:s.TypeIs (.ref z) "zip":=⟨_,hz,rfl⟩;unfold pyNext;refine Vl (Qu (XF (name:=Str.ofString "__next__") hT Yf
   (Uz Yf hT XO
    (kQ (D1 _ (by simpa using hh)) (D2 _ (by simpa using hh)) D hz ti to h1 h2 hx hy λ x y h' tk px py a1 a2 a3 a4 a5 a6 a7=>Vm ?_) (XD _))))
  have l1':z<s.heap.objs.size:=Qw hz;have l2':TO<s.heap.objs.size:=Qw to;have l3':i1<s.heap.objs.size:=by obtain⟨_,e⟩:=(D1 _ hh).live _ _ h1;exact Qw e
  have l4':i2<s.heap.objs.size:=by obtain⟨_,e⟩:=(D2 _ hh).live _ _ h2;exact Qw e
  refine hQ x y h' tk px py ⟨⟨_,false,a1,.inr ⟨_,_,rfl,a5,?_⟩⟩,a7 _ _ D.TIz D.TITO D.TIi1 D.TIi2 ti,⟨_,_,a2⟩,a3,a4⟩ a5 a6 λ c o hc e=>a7 c o (λ q=>hc (by simp[q])) (λ q=>hc (by simp[q])) (λ q=>hc (by simp[q])) (λ q=>hc (by simp[q])) e
  intro hm;have hm:s.heap.objs.size=z∨s.heap.objs.size=TO∨s.heap.objs.size=i1∨s.heap.objs.size=i2∨s.heap.objs.size=S:=by simpa using hm
  rcases hm with e|e|e|e|e
  ·exact Qh _ (e ▸ l1')
  ·exact Qh _ (e ▸ l2')
  ·exact Qh _ (e ▸ l3')
  ·exact Qh _ (e ▸ l4')
  ·exact Qh _ (e ▸ hS)
 ·exact qno hh D1 D2 D hz ha mM ti to h1 h2 hx hy hQ
end
section
variable {prog:Program}{w:World}{A:Around}{E:Value->Shared->Prop}{s:Shared}{z TI TO i1 i2 S:Addr}{n1 n2:Nat}{fp1 fp2:List Addr}{P1 P2:Nat->Value->Prop}{S1 S2:Nat->Heap->Prop}
theorem qav(D1:Draws prog w A i1 fp1 n1 P1 S1)(D:ZApart z TI TO i1 i2 fp1 fp2)(hz:IsZip s.heap z TI TO .none)(B1:IsPair s.heap TI (.ref i1) (.ref i2))(t4:IsPair s.heap TO a b)(h1:S1 n1 s.heap)(hE:∀ h' e,(∀ c o,c≠z->c≠TO->c≠i1->c≠i2->s.heap.get? c=some o->h'.get? c=some o)->(∃ o,h'.get? e=some o/\o.cls=.type "StopIteration")->E (.ref e) { s with heap:=h' }):
  wpAny (model prog w) A (Builtin.«zip.__next__» ⟨[.ref z],[]⟩) Q E s:=by
 show wpAny _ _ (field (.ref z) 2 >>= _) _ _ _
 refine Vl (Vj hz rfl (x:=.bool false) rfl ?_);show wpAny _ _ (field (.ref z) 3 >>= _) _ _ _
 refine Vl (Vj hz rfl (x:=.ref TI) rfl ?_);refine Vl (Qf B1 rfl ?_);show wpAny _ _ (Builtin.SmallTypes.ownedTupleIsFree (.ref z) >>= _) _ _ _
 refine Vl ?_;unfold Builtin.SmallTypes.ownedTupleIsFree;refine Vl (Vj hz rfl (x:=.none) rfl (Vm ?_));simp only[V1];refine Vl (Vq ?_);refine Vl (Vj hz rfl (x:=.ref TO) rfl ?_);refine Vl (Zs hz (by simp) λ h₁ hz₁ hs₁=>?_);replace hz₁:IsZip h₁ z TI TO .ellipsis:=hz₁;refine Vl ?_;simp only[List.zipIdx_cons,List.zipIdx_nil,Jb,Jx];refine Vl (Vl (wpAny_onRaise ?_));show wpAny _ _ (Builtin.SmallTypes.nextOf (.ref i1) >>= _) _ _ _
 refine Vl (D1.done _ _ _ (D1.past h1 hs₁.extBut D.z1) λ h₂ e hs₂ he=>?_);obtain⟨oe,sB,xF⟩:=he;have hz₂:IsZip h₂ z TI TO .ellipsis:=hs₂ _ _ D.i1z.symm hz₁;have hez:e≠z:=λ x=>by subst x;rw[hz₂] at sB;cases sB;simp at xF
 refine Zs hz₂ (by simp) λ h₃ _ hs₃=>hE h₃ e (λ c o c1 _ c3 _ x=>hs₃.extBut _ _ c1 (hs₂ _ _ c3 (hs₁.extBut _ _ c1 x))) ⟨oe,hs₃.extBut _ _ hez sB,xF⟩
theorem qlU(hh:A.handled=none)(D1:∀ A':Around,A'.handled=none->Draws prog w A' i1 fp1 n1 P1 S1)(D:ZApart z TI TO i1 i2 fp1 fp2)(st:ZD S1 S2 s.heap z TI TO i1 i2 S n1)(hQ:∀ h',(∀ c o,c∉[z,TO,i1,i2]->s.heap.get? c=some o->h'.get? c=some o)->Q none { s with heap:=h' }):wpAny (model prog w) A (pyNext (.ref z)) Q E s:=by
 obtain⟨⟨f0,fl,hz,hf⟩,ti,⟨c1,c2,to⟩,h1,h2⟩:=st;have hT:s.TypeIs (.ref z) "zip":=⟨_,hz,rfl⟩;rcases hf with⟨rfl,rfl⟩ | ⟨a,oa,rfl,ha,mM⟩
 ·unfold pyNext;refine Vl (Qu (XF (name:=Str.ofString "__next__") hT Yf
   (Uz Yf hT XO (qav (fp2:=fp2) (D1 _ (by simpa using hh)) D hz ti to h1 λ h' e hk he=>?_) (XD _))))
  obtain⟨o,ho,hc⟩:=he;refine Vl (Uy (T:="StopIteration") (b:=true) ⟨o,ho,hc⟩ Qe ?_);exact Vm (hQ _ λ c o hc e=>hk c o (λ q=>hc (by simp[q])) (λ q=>hc (by simp[q])) (λ q=>hc (by simp[q])) (λ q=>hc (by simp[q])) e)
 unfold pyNext;refine Vl (Qu (XF (name:=Str.ofString "__next__") hT Yf (Uz Yf hT XO ?_ (XD _))));show wpAny _ _ (field (.ref z) 2 >>= _) _ _ _
 refine Vl (Vj hz rfl (x:=.bool false) rfl ?_);show wpAny _ _ (field (.ref z) 3 >>= _) _ _ _
 refine Vl (Vj hz rfl (x:=.ref TI) rfl ?_);refine Vl (Qf ti rfl ?_);show wpAny _ _ (Builtin.SmallTypes.ownedTupleIsFree (.ref z) >>= _) _ _ _
 refine Vl (thn (Q:=λ b s1=>b=false/\∃ h₁:Heap,s1={ s with heap:=h₁ }/\Heap.SameBut z s.heap h₁) ?_ ?_)
 ·unfold Builtin.SmallTypes.ownedTupleIsFree;refine Vl (Vj hz rfl (x:=rawInt a) rfl ?_);show wpAny _ _ (loadIfAlive ((a:Int).toNat) >>= _) _ _ _
  rw[Zv];refine Vl (qhK ha ?_);simp only[Option.isNone_some,Zl,Vv];refine Vl (Vj hz rfl (x:=.bool fl) rfl ?_);cases fl with
  |true =>
   rw[V5 (show ¬ ((Value.bool true != Value.bool true)=true) from Zf)];exact Vm ⟨rfl,s.heap,rfl,Heap.SameBut.refl _ _⟩
  |false =>
   rw[V4 (show(Value.bool false != Value.bool true)=true from rfl)];refine Vl (Zs hz (by simp) λ h₃ he₃ hs₃=>?_);exact Vm ⟨rfl,h₃,rfl,hs₃⟩
 rintro b s1 ⟨rfl,h₁,rfl,hs₁⟩;simp only[Zl,Vv];simp only[List.forIn_toArray,Jb,Jx];refine Vl (Vl (Vl (Qr ?_)));show wpAny _ _ (Builtin.SmallTypes.nextOf (.ref i1) >>= _) _ _ _
 have E1:=D1 _ hh;refine Vl ((D1 _ (by simpa using hh)).done _ _ _ (E1.past h1 hs₁.extBut D.z1) λ h₂ e hs₂ he=>?_);obtain⟨oe,sB,xF⟩:=he;refine Vl (Uy (T:="StopIteration") (b:=true) ⟨oe,sB,xF⟩ Qe ?_);exact Vm (hQ _ λ c o hc q=>hs₂ c o (λ x=>hc (by simp[x])) (hs₁.extBut c o (λ x=>hc (by simp[x])) q))
end
end L2
namespace PySem
open Sem (wp)
noncomputable abbrev qlV(h:Heap)(x:Str)(t:Tok):Heap:=h.push { cls:=.type "str_ascii_iterator",data:=.fields #[.str x t,.int 0 0] }
noncomputable abbrev qlW(h:Heap)(x:Str)(t:Tok)(l2:Addr):Heap:=(qlV h x t).push { cls:=.type "list_iterator",data:=.fields #[.ref l2,.int 0 0] }
noncomputable abbrev qlX(h:Heap)(x:Str)(t:Tok)(l2:Addr):Heap:=(qlW h x t l2).push { cls:=.type "tuple",data:=.seq #[.ref h.objs.size,.ref (qlV h x t).objs.size] }
noncomputable abbrev qlY(h:Heap)(x:Str)(t:Tok)(l2:Addr):Heap:=(qlX h x t l2).push { cls:=.type "tuple",data:=.seq #[.none,.none] }
noncomputable abbrev qgP(h:Heap)(x:Str)(t:Tok)(l2:Addr):Heap:=(qlY h x t l2).push { cls:=.type "zip",data:=.fields #[.none,.bool false,.bool false,.ref (qlW h x t l2).objs.size,.ref (qlX h x t l2).objs.size] }
theorem qdj(x:Str)(t:Tok)(ha:x.cps.all (·<128)=true)(l2:Addr)(ys:Array Value):
  Meets (Builtin.«zip.__new__» ⟨[.type "zip",.str x t,.ref l2],[]⟩) (λ _ R s=>s.heap.IsList l2 ys /\
   R (.ok (.ret (.ref (qlY s.heap x t l2).objs.size))) { s with heap:=qgP s.heap x t l2 }):=
 .of_wp λ prog w A R s h=>by
  obtain⟨hp,g,d,tk,os⟩:=s;obtain⟨L5,h⟩:=h;have R6:=sub_zip;have mW:Heap.IsList (Shared.heap ⟨hp.push { cls:=.type "str_ascii_iterator",data:=.fields #[.str x t,.int 0 0] },g,d,tk,os⟩) l2 ys:=Heap.IsList.push L5 _
  wp_walk using wpAny_pyIter_ascii ha,Ua mW
  exact⟨_,rfl,h⟩
section
variable {prog:Program}{w:World}{A:Around}{E:Value->Shared->Prop}{s:Shared}
theorem qdk(ha:x.cps.all (·<128)=true)(L5:s.heap.IsList l2 ys)(h:∀ h',IsZip h' (s.heap.objs.size+4) (s.heap.objs.size+2) (s.heap.objs.size+3) .none->IsPair h' (s.heap.objs.size+2) (.ref s.heap.objs.size) (.ref (s.heap.objs.size+1)) ->
   IsPair h' (s.heap.objs.size+3) .none .none->h'.IsStrIter s.heap.objs.size "str_ascii_iterator" x t 0->h'.IsListIter (s.heap.objs.size+1) l2 0->h'.objs.size=s.heap.objs.size+5 ->
   (∀ c o,s.heap.get? c=some o->h'.get? c=some o)->Q (.ref (s.heap.objs.size+4)) { s with heap:=h' }):
  wpAny (model prog w) A (call (.type "zip") [.str x t,.ref l2]) Q E s:=by
 refine callType_new F.called_zip (by decide) (F.typeCall_zip_2 _ _) (F.newCall_zip_2 _ _) (λ obj=>F.args_object_init_3 obj _ _) F.entry_zip_new
  (qdj x t ha l2 ys) ⟨L5,?_⟩
 have z1:(qlV s.heap x t).objs.size=s.heap.objs.size+1:=Ju ..;have z2:(qlW s.heap x t l2).objs.size=s.heap.objs.size+2:=by rw[Ju,z1]
 have z3:(qlX s.heap x t l2).objs.size=s.heap.objs.size+3:=by rw[Ju,z2]
 have z4:(qlY s.heap x t l2).objs.size=s.heap.objs.size+4:=by rw[Ju,z3]
 have z5:(qgP s.heap x t l2).objs.size=s.heap.objs.size+5:=by rw[Ju,z4]
 have g5:(qgP s.heap x t l2).get? (qlY s.heap x t l2).objs.size=some _:=Yy _ rfl;have g4:(qgP s.heap x t l2).get? (qlX s.heap x t l2).objs.size=some _:=XG _ (Yy _ rfl);have g3:(qgP s.heap x t l2).get? (qlW s.heap x t l2).objs.size=some _:=XG _ (XG _ (Yy _ rfl));have g2:(qgP s.heap x t l2).get? (qlV s.heap x t).objs.size=some _:=XG _ (XG _ (XG _ (Yy _ rfl)));have g1:(qgP s.heap x t l2).get? s.heap.objs.size=some _:=XG _ (XG _ (XG _ (XG _ (Yy _ rfl))));show _/\_
 rw[z2,z3,z4] at g5;rw[z1,z2] at g3;rw[z3] at g4;rw[z1] at g2;rw[z4];exact⟨⟨_,g5,rfl⟩,h _ g5 g3 g4 ⟨_,g1,rfl,rfl⟩ ⟨_,g2,rfl,rfl⟩ z5 λ c o x =>
  XG _ (XG _ (XG _ (XG _ (XG _ x))))⟩
theorem qdl {l2:Nat}(h2:l2<n):ZApart (n+4) (n+2) (n+3) (n+0) (n+1) [n+0] [n+1,l2] where
 TIz:=(by show(n+2:Nat)≠n+4;omega)
 TOz:=(by show(n+3:Nat)≠n+4;omega)
 i1z:=(by show(n+0:Nat)≠n+4;omega)
 i2z:=(by show(n+1:Nat)≠n+4;omega)
 TITO:=(by show(n+2:Nat)≠n+3;omega)
 TIi1:=(by show(n+2:Nat)≠n+0;omega)
 TIi2:=(by show(n+2:Nat)≠n+1;omega)
 TOi1:=(by show(n+3:Nat)≠n+0;omega)
 TOi2:=(by show(n+3:Nat)≠n+1;omega)
 i12:=(by show(n+0:Nat)≠n+1;omega)
 z1:=λ h=>by have h:(n+4:Nat)=n+0:=Zn.mp h;omega
 TO1:=λ h=>by have h:(n+3:Nat)=n+0:=Zn.mp h;omega
 o1:=λ h=>by have h:(n+1:Nat)=n+0:=Zn.mp h;omega
 z2:=λ h=>by
  rcases Qi.mp h with e|e
  ·have e:(n+4:Nat)=n+1:=e;omega
  ·have e:(n+4:Nat)=l2:=Zn.mp e;omega
 TO2:=λ h=>by
  rcases Qi.mp h with e|e
  ·have e:(n+3:Nat)=n+1:=e;omega
  ·have e:(n+3:Nat)=l2:=Zn.mp e;omega
 o2:=λ h=>by
  rcases Qi.mp h with e|e
  ·have e:(n+0:Nat)=n+1:=e;omega
  ·have e:(n+0:Nat)=l2:=Zn.mp e;omega
end
end PySem
namespace L2
open PySem PySem.Spec PyProof.Rows
section
variable {prog:Program}{w:World}{A:Around}
abbrev zS1(i1:Addr)(x:Str)(t:Tok)(i:Nat)(h:Heap):Prop:=h.IsStrIter i1 "str_ascii_iterator" x t i
abbrev zS2(i2 l2:Addr)(ys:Array Value)(i:Nat)(h:Heap):Prop:=h.IsListIter i2 l2 i/\h.IsList l2 ys
theorem qgQ {TI TO:Addr}{s0:Shared}(hh:A.handled=none)(Ap:ZApart z TI TO i1 i2 [i1] [i2,l2])(hli:l2≠i2)(nD:D∉[z,TI,TO,i1,i2,l2])(wZ:x.cps.size=qJ.length)(aU:ys.size=qJ.length)(hsz:qJ.length<=sizeLine)(hp:∀(j:Nat) kv,qJ[j]?=some kv->∃ c u,x.cps[j]?=some c/\kv.1=⟨#[c]⟩/\ys[j]?=some u/\qS kv.2 u)(hR:∀ s' D4,s'.os=s0.os->s'.gens=s0.gens->s'.drawn=s0.drawn->(∀ b o,b∉[D,z,TO,i1,i2]->s0.heap.get? b=some o->s'.heap.get? b=some o)->s'.heap.DictOf (qw prog w) D D4->KV (qH [] (kvK qJ)) D4->R (.ok (.ret .none)) s'):
  ∀(k i:Nat)(s:Shared)(D4:List (Key×Value))(ti:Tok),qJ.length-i=k->i<=qJ.length->s.os=s0.os->s.gens=s0.gens->s.drawn=s0.drawn->(∀ b o,b∉[D,z,TO,i1,i2]->s0.heap.get? b=some o->s.heap.get? b=some o)->ZD (zS1 i1 x t) (zS2 i2 l2 ys) s.heap z TI TO i1 i2 D i ->
   s.heap.DictOf (qw prog w) D D4->KV (qH [] (kvK (qJ.take i))) D4->D4.length<=i->codeAny (model prog w) A (.builtin "dict.update.loop" ⟨[.ref D,.ref z,.int i ti,.none],[]⟩) R s:=by
 have D1:∀ A':Around,A'.handled=none->Draws prog w A' i1 [i1] x.cps.size _ (zS1 i1 x t):=λ A' h=>J8 h i1 x t
 have D2:∀ A':Around,A'.handled=none->Draws prog w A' i2 [i2,l2] ys.size _ (zS2 i2 l2 ys):=λ A' h=>Draws.list h i2 l2 hli ys
 have ne:∀ c,c∈[z,TI,TO,i1,i2,l2]->D≠c:=λ c hc e=>nD (e ▸ hc)
 have dz:D∉[z,TO,i1,i2]:=λ h=>by
  have h:D=z∨D=TO∨D=i1∨D=i2:=by simpa using h
  rcases h with e|e|e|e
  ·exact ne z (by simp) e
  ·exact ne TO (by simp) e
  ·exact ne i1 (by simp) e
  ·exact ne i2 (by simp) e
 intro k;induction k with
 |zero =>
  intro i s D4 ti hk hi e1 e2 e3 aW B9 hD P0 fV;have cK:i=qJ.length:=by omega
  subst cK;refine Jp F.entry_dict_update_loop ?_;rw[Yo F.plain_dict_update_loop _];unfold Builtin.«dict.update.loop»;refine Vl (qlU (A:=A.in1) (by simpa using hh) D1 Ap (by rw[wZ];exact B9) λ h' K2=>?_);show wpAny _ _ (Builtin.Dict.addKeywords D [] >>= _) _ _ _
  refine Vl (Vm (Vm ?_));refine hR _ D4 e1 e2 e3 (λ b o hb e=>K2 b o (λ h=>hb (Yl _ h)) (aW b o hb e)) ?_ (by rw[Ut] at P0;exact P0);obtain⟨o,es,ep,ho,rest⟩:=hD;exact⟨o,es,ep,K2 D o dz ho,rest⟩
 |succ k ih =>
  intro i s D4 ti hk hi e1 e2 e3 aW B9 hD P0 fV;have c8:i<qJ.length:=by omega
  have cP:D<s.heap.objs.size:=by obtain⟨o,es,ep,ho,rest⟩:=hD;exact Qw ho
  refine Jp F.entry_dict_update_loop ?_;rw[Yo F.plain_dict_update_loop _];unfold Builtin.«dict.update.loop»;refine Vl (qlT (A:=A.in1) (by simpa using hh) D1 D2 Ap B9 cP (by omega) (by omega) λ v1 v2 h1 tk hP1 xG hst1 N7 hsz1 K2=>?_);obtain⟨c,u,hc,ek,hu,ru⟩:=hp i qJ[i] (Xy c8);obtain⟨c',P9,C3,rfl⟩:=hP1;have ec:c'=c:=by rw[hc] at C3;exact(Option.some.inj C3).symm
  have ev:v2=u:=by rw[hu] at xG;exact(Option.some.inj xG).symm
  subst ec ev;have hD1':h1.DictOf (qw prog w) D D4:=by
   obtain⟨o,es,ep,ho,rest⟩:=hD;exact⟨o,es,ep,K2 D o dz ho,rest⟩
  refine Vl (Qr ?_);refine Vl (wpAny_tryCatch ?_);unfold Builtin.Dict.pairItems;refine Vl (Vb (T:="tuple") ⟨_,N7,rfl⟩ ?_);simp only[show(Value.type "tuple" == Value.type "list")=false by decide,show(Value.type "tuple" == Value.type "tuple")=true by decide,Bool.or_true,Ql,V1];refine Vl (Qf N7 rfl ?_);refine Vm ?_;show wpAny _ _ (holding _ (dictSet D (.str ⟨#[c']⟩ P9) v2)) _ _ _
  rw[<- ek];refine Qr (wpAny_dictSet_pairs (hsz:=by omega) (k:=.inr qJ[i].1) (zv prog w _ P9) hD1' λ h2 M4 l7=>?_);refine Vm ⟨Qt F.plain_dict_update_loop _,?_⟩;refine ih (i+1) { s with heap:=h2,toks:=tk+1 } (stored D4 (.inr qJ[i].1) v2) 0 (by omega) c8 e1 e2 e3 (λ b o hb e=>(l7.2 b (λ q=>hb (by simp[q]))).trans (K2 b o (λ h=>hb (Yl _ h)) (aW b o hb e))) ?_ M4 ?_ ?_
  ·refine hst1.keep (D1 _ hh) (D2 _ hh) (λ b o hb e=>(l7.2 b hb).trans e) (λ h=>?_) (λ h=>?_) (λ h=>?_)
   ·have h:D=z∨D=TI∨D=TO:=by simpa using h
    rcases h with e|e|e
    ·exact ne z (by simp) e
    ·exact ne TI (by simp) e
    ·exact ne TO (by simp) e
   ·exact ne i1 (by simp) (Zn.mp h)
   ·have h:D=i2∨D=l2:=by simpa using h
    rcases h with e|e
    ·exact ne i2 (by simp) e
    ·exact ne l2 (by simp) e
  ·have et:qJ.take (i+1)=qJ.take i++[qJ[i]]:=by rw[J4,Xy c8];rfl
   rw[et];unfold kvK;rw[Ja,Qj,Q1,qbW];exact P0.put _ ru
  ·have:=P0.length
   have h2:=(P0.put (.inr qJ[i].1) ru).length;rw[<- h2];have h3:=yl (qH [] (kvK (qJ.take i))) (.inr qJ[i].1) qJ[i].2;omega
end
namespace F
theorem lk_zip_keys:typeLookup (.type "zip") "keys"=pure none:=by rw[Jq,Yk];kernel_rfl
theorem zip_getattr_none:typeLookup (.type "zip") "__getattr__"=pure none:=by rw[Jq,Yk];kernel_rfl
theorem entry_zip_getattribute:entryFor table "zip.__getattribute__"=some Builtin.«object.__getattribute__»:=
 Qc (id':="object.__getattribute__") (by kernel_rfl) (by first | rfl | decide +kernel | (unfold String.splitOn;simp +decide [String.splitOnAux])) (by decide +kernel) (by kernel_rfl)
end F
theorem qdm(a:Addr)(fs:Array Value)(sl:Array (Option Value))(name:Str)(u:Tok)(aA3:typeLookup (.type "zip") name=pure none)(sC:(["__module__","__name__","__qualname__","__doc__","__annotations__"]:List Str).contains name=false)(hsz:name.length+100<=sizeLine):
  Meets (Builtin.«object.__getattribute__» ⟨[.ref a,.str name u],[]⟩) (λ A R s=>s.heap.get? a=some { cls:=.type "zip",dict:=none,data:=.fields fs,slots:=sl }/\raisesAttr (.ref a) name A R s):=
 Meets.of_wp λ prog w A R s hs=>by
  obtain⟨hp,g,d,tk,os⟩:=s;obtain⟨hx,hs⟩:=hs;have hT:(⟨hp,g,d,tk,os⟩:Shared).TypeIs (.ref a) "zip":=⟨_,hx,rfl⟩;unfold Builtin.«object.__getattribute__»
  repeat (any_goals (first|assumption|wp_step))
  simp only[sC,Zl,Vv]
  repeat (any_goals (first|assumption|wp_step))
  exact wpAny_raiseAttrError hs.1 hs.2 (attrMsg_fits (by decide +kernel) hsz)
section
variable {prog:Program}{w:World}{A:Around}{E:Value->Shared->Prop}{s:Shared}
theorem qgR(hx:s.heap.get? a=some { cls:=.type "zip",dict:=none,data:=.fields fs,slots:=#[] })(hA:A.handled=none)(h:∀ h' tk,(∀ b o,s.heap.get? b=some o->h'.get? b=some o)->Q none { s with heap:=h',toks:=tk }):wpAny (model prog w) A (getAttr? (.ref a) "keys") Q E s:=by
 obtain⟨hp,g,d,tk,os⟩:=s;have hT:∀ P9,(⟨hp,g,d,P9,os⟩:Shared).TypeIs (.ref a) "zip":=λ _=>⟨_,hx,rfl⟩
 have f1:=sub_AttributeError;have f3:=PySem.F.slot_zip_getattribute.lookup;have f4:=PySem.F.slot_zip_getattribute.bind (.ref a);have f5:=F.zip_getattr_none;have hsz:("keys":Str).length+100<=sizeLine:=by decide
 unfold getAttr? getAttrBy? getAttrBy
 repeat (any_goals (first | assumption | exact hT _ | ((with_reducible show wpAny _ _ (call (Value.builtin "zip.__getattribute__") _ _) _ _ _);refine Vp PySem.F.slot_zip_getattribute (hT _) F.entry_zip_getattribute (PySem.F.args_zip_getattribute_2 _ _) (qdm a fs #[] "keys" _ F.lk_zip_keys (by decide +kernel) hsz) ⟨hx,hA,λ h' P9 e t7=>?_⟩) | wp_step))
 obtain⟨t',u',he⟩:=t7.there;show wpAny _ _ (getattributeRaised _ _ _ _ _ _ _) _ _ _
 unfold getattributeRaised
 repeat (any_goals (first|assumption|wp_step))
 exact h _ _ t7.keeps
end
noncomputable def zS(x:Str)(ys:List V):List (Str×V):=(x.cps.toList.map λ c=>(⟨#[c]⟩:Str)).zip ys
theorem qgS(h:x.cps.size=ys.length):(zS x ys).length=ys.length:=by
 unfold zS;rw[Jj,U3,Yx];omega
theorem qiM{j:Nat}(h:(zS x ys)[j]?=some kv):∃ c,x.cps[j]?=some c/\kv.1=⟨#[c]⟩/\ys[j]?=some kv.2:=by
 unfold zS at h;rw[List.getElem?_zip_eq_some] at h;obtain⟨h1,h2⟩:=h;rw[Zt] at h1;obtain⟨c,hc,e⟩:=Option.map_eq_some_iff.mp h1;exact⟨c,by rw[<- XX];exact hc,e.symm,h2⟩
def qkc(K:W.Frag)(ta:TA):TE:=λ σ H Q=>ta σ H λ vs H1=>∃(x:Str)(b:Addr)(ys:List V),vs=[.str x,.ref b]/\x.cps.all (·<128)=true/\SqL K H1 b ys/\x.cps.size=ys.length /\
 ∀ d,H1 d=none->Q (.ref d) (upd H1 d (.dK (qH [] (kvK (zS x ys)))))
theorem qgT{X:Cx}{l1 l2:Expr}{ta:TA}{p p2 pos bW:Pos}(hc:X.calm=true)(hgl:Gl X "dict")(hml:X.mg "dict"=none)(hgz:Gl X "zip")(hmz:X.mg "zip"=none)(ha:PA X [l1,l2] ta)(hs0:starEach [.Call (.Name "zip" p2) [l1,l2] [] bW] X.env=[(false,eval (.Call (.Name "zip" p2) [l1,l2] [] bW) X.env)]:=by rfl)(hs:starEach [l1,l2] X.env=[(false,eval l1 X.env),(false,eval l2 X.env)]:=by rfl)(l7:starEach [l2] X.env=[(false,eval l2 X.env)]:=by rfl):
  PE X (.Call (.Name "dict" p) [.Call (.Name "zip" p2) [l1,l2] [] bW] [] pos) (qkc X.K ta):=by
 intro pins s σ H Q I h;refine Zp (jW I hgl hml F.boot_dict ?_);refine Xe ?_ (by rw[hs0];rfl) (by rfl);rw[hs0];show wpAny _ _ (spliced [(false,eval (.Call (.Name "zip" p2) [l1,l2] [] bW) X.env)]) _ _ s
 refine Zg ?_;refine Call_ (jW I hgz hmz boot_zip (Xe (thn (ha bW pins s σ H _ I h) λ us s1 ⟨vs,H1,I1,r1,q1⟩=>?_) (by rw[hs,l7]) (by rw[l7];rfl)));obtain⟨x,b,ys,e,mT,M0,hl,q⟩:=q1;subst e;obtain⟨u1,u2,rfl,lJ,eL⟩:=qdS r1;obtain⟨t,rfl⟩:=lJ;cases eL
 obtain⟨o8,dQ,pl2,rC⟩:=I1.list M0;have a2:b<s1.heap.objs.size:=by obtain⟨_,e,_⟩:=pl2.isList;exact Qw e
 have n2:=dQ.length;have hA:=I1.ok.hd hc;have plen:=qgS hl;refine qdk mT pl2.isList λ h' hz B1 t4 hi1 hi2 hsz hk=>?_
 refine Calls.spliced_nil ?_;refine callType_codes (s:={ s1 with heap:=h' }) (Q₁:=λ obj s₁=>obj=.ref h'.objs.size/\s₁={ s1 with heap:=h'.push { cls:=.type "dict",data:=.dict #[] } }) PySem.F.kt_called_dict (PySem.F.kt_typeCall_dict_1 _) PySem.F.entry_dict_init (kt_code_dict_new _ ⟨rfl,rfl⟩) ?_;rintro obj s₁ ⟨rfl,rfl⟩;have u7:(h'.push { cls:=.type "dict",data:=.dict #[] }).DictOf (qw X.prog X.w) h'.objs.size []:=Heap.DictOf.new h';refine⟨u7.typeIs,PySem.F.args_dict_init_2 _ _,?_⟩;unfold Builtin.«dict.__init__»;refine Vl ?_;unfold Builtin.Dict.selfAndRest;refine Vl (wpAny_notOrdered_dict u7.typeIs ?_);show wpAny _ _ (pure (h'.objs.size,[Value.ref (s1.heap.objs.size+4)])) _ _ _
 refine Vm ?_;show wpAny _ _ (Builtin.Dict.updateFrom "dict.__init__" h'.objs.size (.ref (s1.heap.objs.size+4)) [] .none) _ _ _
 unfold Builtin.Dict.updateFrom;have rD:(h'.push { cls:=.type "dict",data:=.dict #[] }).get? (s1.heap.objs.size+4)=some _:=XG _ hz;refine Vl (Vb (T:="zip") ⟨_,rD,rfl⟩ ?_);rw[V4 (by decide)];refine Vl (qgR (s:={ s1 with heap:=h'.push { cls:=.type "dict",data:=.dict #[] } }) rD (by simpa using hA) λ h2 pC W2=>?_);simp only[Option.isNone_none,V1];refine Vl (Vq ?_);have lE:∀ c o,h'.get? c=some o->h2.get? c=some o:=λ c o e=>W2 c o (XG _ e)
 have aF:IsZip h2 (s1.heap.objs.size+4) (s1.heap.objs.size+2) (s1.heap.objs.size+3) .none:=lE _ _ hz;have M4:h2.DictOf (qw X.prog X.w) h'.objs.size []:=by
  obtain⟨o,es,ep,ho,rest⟩:=u7;exact⟨o,es,ep,W2 _ o ho,rest⟩
 refine Vl (Uw (s:={ s1 with heap:=h2,toks:=pC }) aF ?_);refine Vm ⟨Qt F.plain_dict_update_loop _,?_⟩;rw[hsz] at M4 ⊢;have bN:@LT.lt Nat _ b s1.heap.objs.size:=a2;have D1:Draws X.prog X.w X.A s1.heap.objs.size [s1.heap.objs.size] x.cps.size _ (zS1 s1.heap.objs.size x t):=J8 hA _ x t;refine qgQ (A:=X.A.in1) (z:=s1.heap.objs.size+4) (TI:=s1.heap.objs.size+2) (TO:=s1.heap.objs.size+3) (i1:=s1.heap.objs.size) (i2:=s1.heap.objs.size+1) (l2:=b) (D:=s1.heap.objs.size+5) (x:=x) (t:=t) (ys:=o8.toArray) (qJ:=zS x ys) (s0:={ s1 with heap:=h2,toks:=pC })
  (by simpa using hA) (qdl a2) (Qx (Z0 a2)) ?nD (by omega) (by rw[Zu];omega) (by omega) ?hp ?hR (zS x ys).length 0 _ [] 0 (by omega) (Ve _) rfl rfl rfl (λ b o _ e=>e) ?st M4 (by rw[J5];exact .nil) (Vd _)
 case nD =>
  intro hm;have hm:@Eq Nat (s1.heap.objs.size+5) (s1.heap.objs.size+4)∨@Eq Nat (s1.heap.objs.size+5) (s1.heap.objs.size+2)∨@Eq Nat (s1.heap.objs.size+5) (s1.heap.objs.size+3)∨@Eq Nat (s1.heap.objs.size+5) s1.heap.objs.size∨@Eq Nat (s1.heap.objs.size+5) (s1.heap.objs.size+1)∨@Eq Nat (s1.heap.objs.size+5) b:=by
   have h0:=hm;simp only[Qi,Zn,Us,or_false] at h0;exact h0
  omega
 case hp =>
  intro j kv hkv;obtain⟨c,C3,ek,hy⟩:=qiM hkv;obtain⟨u,hu,ru⟩:=dQ.get hy;exact⟨c,u,C3,ek,by simpa using hu,ru⟩
 case st =>
  exact⟨⟨.none,false,aF,.inl ⟨rfl,rfl⟩⟩,lE _ _ B1,⟨_,_,lE _ _ t4⟩,D1.frame _ _ _ hi1 λ c hc o e=>lE c o e,hi2.at λ o e=>lE _ o e,pl2.isList.at λ o e=>lE _ o (hk _ o e)⟩
 case hR =>
  intro s' D4 e1 e2 e3 aW hD P0;refine⟨rfl,?_⟩;have A0:s1.heap.objs.size<=s1.heap.objs.size+5:=Nat.le_add_right _ _;have hf:=I1.hok.fresh A0;have sK:∀ c o,s1.heap.get? c=some o->s'.heap.get? c=some o:=λ c o e=>aW c o (λ hm=>by
   have c8:@LT.lt Nat _ c s1.heap.objs.size:=Qw e;have hm:@Eq Nat c (s1.heap.objs.size+5)∨@Eq Nat c (s1.heap.objs.size+4)∨@Eq Nat c (s1.heap.objs.size+3)∨@Eq Nat c s1.heap.objs.size∨@Eq Nat c (s1.heap.objs.size+1):=by
    have h0:=hm;simp only[Qi,Zn,Us,or_false] at h0;exact h0
   omega) (lE c o (hk c o e))
  have hmz':(qH [] (kvK (zS x ys))).length<=sizeLine:=by
   have:=yI (kvK (zS x ys)) []
   have e:(kvK (zS x ys)).length=(zS x ys).length:=by unfold kvK;rw[U3]
   simp at this;omega
  refine⟨.ref (s1.heap.objs.size+5),_,I1.call' (s':=s') (ch:=[]) e1 (Un.laid sK A0 hf) (I1.hok.laid sK A0 (qcE hmz' (Zb.mpr ?_) P0 hD)) (by rw[e2];exact I1.bare) (λ _ z=>nomatch z),rfl,q _ hf⟩;exact Vz (Qx (Zd I1.big (Nat.le_add_right _ _)))
noncomputable def qkd(K:W.Frag)(x:Str)(b:Addr):It2:=
 ⟨λ i H=>i<x.cps.size/\∃ ys y,SqL K H b ys/\ys[i]?=some y,λ i H zs H'=>H'=H/\∃ y,zs=[sgn x i,y]/\∀ ys,SqL K H b ys->ys[i]?=some y,λ i H=>i=x.cps.size/\∃ ys,SqL K H b ys⟩
def qpg(z TI TO i1 i2:Addr)(x:Str)(t:Tok)(b:Addr)(i:Nat)(h:Heap):Prop:=IsZip h z TI TO .none/\IsPair h TI (.ref i1) (.ref i2)/\(∃ c d,IsPair h TO c d)/\h.IsStrIter i1 "str_ascii_iterator" x t i/\h.IsListIter i2 b i
theorem qiN{K:W.Frag}{pos:Pos} {TI TO:Addr}(D:ZApart z TI TO i1 i2 [i1] [i2,b])(S0:b≠i2):
  Turn2 P w K (.Tuple es k pos) (qkd K x b) [z,TI,TO,i1,i2] z (qpg z TI TO i1 i2 x t b) where
 obj:=λ i h st c hc=>by
  obtain⟨hz,B1,⟨c1,d1,t4⟩,⟨o1,G8,cc1,dd1⟩,⟨o2,O3,cc2,iY⟩⟩:=st;have hc:c=z∨c=TI∨c=TO∨c=i1∨c=i2:=by simpa using hc
  rcases hc with e|e|e|e|e
  ·subst e;exact⟨_,hz,λ v q=>by cases q⟩
  ·subst e;exact⟨_,B1,λ v q=>by cases q⟩
  ·subst e;exact⟨_,t4,λ v q=>by cases q⟩
  ·subst e;exact⟨o1,G8,λ v q=>by rw[dd1] at q;cases q⟩
  ·subst e;exact⟨o2,O3,λ v q=>by rw[iY] at q;cases q⟩
 keep:=λ i h h' st k=>by
  obtain⟨hz,B1,⟨c1,d1,t4⟩,⟨o1,G8,r1⟩,h2⟩:=st;exact⟨k z (by simp) _ hz,k TI (by simp) _ B1,⟨c1,d1,k TO (by simp) _ t4⟩,⟨o1,k i1 (by simp) _ G8,r1⟩,h2.at λ o q=>k i2 (by simp) o q⟩
 item:=by
  intro X hP hw hK hc i pins s σ H E I hf st hg;subst hP hw hK;obtain⟨hi,ys,y,M0,hy⟩:=hg;obtain⟨o8,dQ,p2,rC⟩:=I.list M0;obtain⟨u2,wR,eL⟩:=dQ.get hy;obtain⟨hz,B1,⟨c1,d1,t4⟩,h1,h2⟩:=st;have hh:=I.ok.hd hc;have hT:s.TypeIs (.ref z) "zip":=⟨_,hz,rfl⟩;have hy2:i<o8.toArray.size:=by
   have:=Xn.mp wR
   obtain⟨h,_⟩:=this;simpa using h
  unfold pyNext;refine Vl (Qu (XF (name:=Str.ofString "__next__") hT Yf
   (Uz Yf hT XO
    (kQ (J8 (by simpa using hh) i1 x t) (Draws.list (by simpa using hh) i2 b S0 o8.toArray) D hz B1 t4 h1 ⟨h2,p2.isList⟩ hi hy2 λ v1 v2 h' tk hP1 xG hz' mV h1' cQ hp hsz hk=>Vm ?_) (XD _))))
  have e2:v2=u2:=by
   have:o8[i]?=some v2:=by simpa using xG
   rw[wR] at this;exact(Option.some.inj this).symm
  subst e2;have rs:qS (sgn x i) v1:=qeC hP1;refine⟨s.heap.objs.size,rfl,wpAny_letOwnedTupleGo_zip hz' λ cQ aF l7=>?_⟩;rename_i oU;replace l7:Heap.SameBut z h' cQ:=l7;have rB:z<s.heap.objs.size:=Qw hz;have k2:∀ c o,c≠z->c≠TO->c≠i1->c≠i2->s.heap.get? c=some o->cQ.get? c=some o:=λ c o a1 a2 a3 a4 q=>l7.extBut c o a1 (hk c o a1 a2 a3 a4 q)
  have fz:=hf z (by simp);have fO:=hf TO (by simp);have f1:=hf i1 (by simp);have f2:=hf i2 (by simp);have nn:∀ c,c∉[z,TO,i1,i2]->c≠z/\c≠TO/\c≠i1/\c≠i2:=λ c c5=>by simpa using c5
  have I1:Inv X pins σ H { s with heap:=cQ,toks:=tk }:=by
   refine I.step (g':=s.gens) (d':=s.drawn) (t':=tk) (ch:=[z,TO,i1,i2]) (λ c c5=>?_) (λ c o _ _ c5 q _=>k2 c o (nn c c5).1 (nn c c5).2.1 (nn c c5).2.2.1 (nn c c5).2.2.2 q)
    (λ c o _ _ c5 q _=>⟨o.slots,k2 c o (nn c c5).1 (nn c c5).2.1 (nn c c5).2.2.1 (nn c c5).2.2.2 q⟩) (λ _ _ _ _ n=>n) (λ c o c5 q=>⟨o,k2 c o (nn c c5).1 (nn c c5).2.1 (nn c c5).2.2.1 (nn c c5).2.2.2 q⟩)
    (λ _ _ q=>q) (λ _ _ _ q=>q) (λ c ps q=>⟨#[],by rw[q];simp⟩) (λ m hm=>?_) (λ c u q=>?_) I.bare
   ·have:jF X pins H c:=by
     have c5:c=z∨c=TO∨c=i1∨c=i2:=by simpa using c5
     rcases c5 with e|e|e|e <;> subst e <;> assumption
    exact⟨this.2.2.2.1,this.2.1,this.2.2.2.2.1,this.2.2.2.2.2⟩
   ·obtain⟨o,o7,ep,ho,r⟩:=hm;exact⟨o,o7,ep,k2 _ o (Vz fz.2.1) (Vz fO.2.1) (Vz f1.2.1) (Vz f2.2.1) ho,r⟩
   ·have no:∀ b',H b'=none->∀ c',(c'=c∨H c'=some (.own c))->c'≠b':=λ b' cN c' C3 e=>by
     subst e;rcases C3 with e|e
     ·subst e;rw[cN] at q;cases q
     ·rw[cN] at e;cases e
    exact(I.hok c u q).stay (λ c' v c5 r=>k2 c' v (no z fz.1 c' c5) (no TO fO.1 c' c5) (no i1 f1.1 c' c5) (no i2 f2.1 c' c5) r) (λ _ r=>r) λ _ _ r=>r
  have hpt:IsPair cQ s.heap.objs.size v1 v2:=l7.extBut _ _ (Q0 rB) hp;refine⟨[sgn x i,y],[v1,v2],H,I1,⟨_,hpt,rfl,_,rfl⟩,.cons rs (.cons eL .nil),⟨rfl,y,rfl,λ ws hw=>by rw[I.list_inj hw M0];exact hy⟩,?_,λ c c5=>(hf c c5).1⟩;obtain⟨o1,G8,r1⟩:=h1';refine⟨aF,l7.extBut _ _ D.TIz (hk _ _ D.TIz D.TITO D.TIi1 D.TIi2 B1),⟨_,_,l7.extBut _ _ D.TOz mV⟩,⟨o1,l7.extBut _ _ D.i1z G8,r1⟩,?_⟩;exact oU.1.extBut l7.extBut D.i2z
 done:=by
  intro X hP hw hK hc i pins s σ H E I hf st hg;subst hP hw hK;obtain⟨hx,ys,M0⟩:=hg;subst hx;obtain⟨hz,B1,⟨c1,d1,t4⟩,h1,h2⟩:=st;have hh:=I.ok.hd hc;have hT:s.TypeIs (.ref z) "zip":=⟨_,hz,rfl⟩;have fz:=hf z (by simp);have fO:=hf TO (by simp);have f1:=hf i1 (by simp);have f2:=hf i2 (by simp);have nn:∀ c,c∉[z,TO,i1,i2]->c≠z/\c≠TO/\c≠i1/\c≠i2:=λ c c5=>by simpa using c5
  unfold pyNext;refine Vl (Qu (XF (name:=Str.ofString "__next__") hT Yf
   (Uz Yf hT XO (qav (fp2:=[i2,b]) (J8 (by simpa using hh) i1 x t) D hz B1 t4 h1 λ h' e k2 he=>?_) (XD _))))
  obtain⟨o,ho,fV⟩:=he;refine Vl (Uy (T:="StopIteration") (b:=true) ⟨o,ho,fV⟩ Qe ?_);refine Vm ⟨rfl,?_⟩;refine I.step (g':=s.gens) (d':=s.drawn) (t':=s.toks) (ch:=[z,TO,i1,i2]) (λ c c5=>?_) (λ c o _ _ c5 q _=>k2 c o (nn c c5).1 (nn c c5).2.1 (nn c c5).2.2.1 (nn c c5).2.2.2 q)
   (λ c o _ _ c5 q _=>⟨o.slots,k2 c o (nn c c5).1 (nn c c5).2.1 (nn c c5).2.2.1 (nn c c5).2.2.2 q⟩) (λ _ _ _ _ n=>n) (λ c o c5 q=>⟨o,k2 c o (nn c c5).1 (nn c c5).2.1 (nn c c5).2.2.1 (nn c c5).2.2.2 q⟩)
   (λ _ _ q=>q) (λ _ _ _ q=>q) (λ c ps q=>⟨#[],by rw[q];simp⟩) (λ m hm=>?_) (λ c u q=>?_) I.bare
  ·have:jF X pins H c:=by
    have c5:c=z∨c=TO∨c=i1∨c=i2:=by simpa using c5
    rcases c5 with e|e|e|e <;> subst e <;> assumption
   exact⟨this.2.2.2.1,this.2.1,this.2.2.2.2.1,this.2.2.2.2.2⟩
  ·obtain⟨o,o7,ep,ho,r⟩:=hm;exact⟨o,o7,ep,k2 _ o (Vz fz.2.1) (Vz fO.2.1) (Vz f1.2.1) (Vz f2.2.1) ho,r⟩
  ·have no:∀ b',H b'=none->∀ c',(c'=c∨H c'=some (.own c))->c'≠b':=λ b' cN c' C3 e=>by
    subst e;rcases C3 with e|e
    ·subst e;rw[cN] at q;cases q
    ·rw[cN] at e;cases e
   exact(I.hok c u q).stay (λ c' v c5 r=>k2 c' v (no z fz.1 c' c5) (no TO fO.1 c' c5) (no i1 f1.1 c' c5) (no i2 f2.1 c' c5) r) (λ _ r=>r) λ _ _ r=>r
 self:=λ A i s Q E st h=>Uw st.1 h
def qoj(K:W.Frag)(ta:TA):TI2:=λ σ H R=>ta σ H λ vs H1=>∃ x b,vs=[.str x,.ref b]/\x.cps.all (·<128)=true/\(∃ ys,SqL K H1 b ys)/\R (qkd K x b) H1
theorem qlZ{X:Cx}{es:List Expr}{k:Nat}{p4:Pos}{l1 l2:Expr}{ta:TA}{p pos:Pos}(hg:Gl X "zip")(hm:X.mg "zip"=none)(ha:PA X [l1,l2] ta)(hs:starEach [l1,l2] X.env=[(false,eval l1 X.env),(false,eval l2 X.env)]:=by rfl)(l7:starEach [l2] X.env=[(false,eval l2 X.env)]:=by rfl):
  PI2 X (.Tuple es k p4) (.Call (.Name "zip" p) [l1,l2] [] pos) (qoj X.K ta):=by
 intro pins s σ H R I h;refine Call_ (jW I hg hm boot_zip (Xe (thn (ha pos pins s σ H _ I h) λ us s1 ⟨vs,H1,I1,r1,q1⟩=>?_) (by rw[hs,l7]) (by rw[l7];rfl)));obtain⟨x,b,e,mT,⟨ys,M0⟩,q⟩:=q1;subst e;obtain⟨u1,u2,rfl,lJ,eL⟩:=qdS r1;obtain⟨t,rfl⟩:=lJ;cases eL
 obtain⟨o8,dQ,p2,rC⟩:=I1.list M0;have a2:b<s1.heap.objs.size:=by obtain⟨_,e,_⟩:=p2.isList;exact Qw e
 refine qdk mT p2.isList λ h' hz B1 t4 hi1 hi2 hsz hk=>Uw hz ?_
 refine⟨s1.heap.objs.size+4,[s1.heap.objs.size+4,s1.heap.objs.size+2,s1.heap.objs.size+3,s1.heap.objs.size,s1.heap.objs.size+1],_,_,H1,rfl,I1.kept (t':=s1.toks) hk,qiN (qdl a2) (Qx (Z0 a2)),⟨hz,B1,⟨_,_,t4⟩,hi1,hi2⟩,λ c hc=>?_,q⟩;have hc:c=s1.heap.objs.size+4∨c=s1.heap.objs.size+2∨c=s1.heap.objs.size+3∨c=s1.heap.objs.size∨c=s1.heap.objs.size+1:=by simpa using hc
 have A0:s1.heap.objs.size<=c:=by rcases hc with e|e|e|e|e <;> rw[e] <;> omega
 exact I1.fpOk A0 (I1.hok.fresh A0)
theorem qke{K:W.Frag}{t:TGs}{tb:TS}{D:Ends}(Pv:Nat->St->Hp->Prop)(h0:Pv 0 σ H)(c7:x.cps.size=ys.length)(hl:∀ i σ H,i<=ys.length->Pv i σ H->SqL K H b ys)(hs:∀ i y σ H,i<x.cps.size->ys[i]?=some y->Pv i σ H->t [sgn x i,y] σ H λ σ2 H2=>tb { D with nx:=Pv (i+1),ct:=Pv (i+1),bk:=D.nx } σ2 H2)(hd:∀ σ H,Pv ys.length σ H->D.nx σ H):
  ∃ W:Nat->Nat->St->Hp->Prop,(∃ m,W 0 m σ H)/\∀ i m σ H,W i m σ H ->
   ((qkd K x b).stop i H/\D.nx σ H)∨((qkd K x b).go i H/\∃ N:St->Hp->Prop,(∀ σ' H',N σ' H'->∃ m',m'<m/\W (i+1) m' σ' H')/\∀ zs H',(qkd K x b).yld i H zs H'->zs.length=2/\t zs σ H' λ σ2 H2=>tb { D with nx:=N,ct:=N,bk:=D.nx } σ2 H2):=by
 refine⟨λ i m σ H=>m=ys.length-i/\i<=ys.length/\Pv i σ H,⟨ys.length,by simp,Ve _,h0⟩,?_⟩;rintro i m σ H ⟨rfl,hi,p⟩;have q2:=hl i σ H hi p;by_cases c8:i<ys.length
 ·refine .inr ⟨⟨by omega,ys,ys[i],q2,Xy c8⟩,Pv (i+1),λ σ' H' p'=>⟨ys.length-(i+1),by omega,rfl,c8,p'⟩,λ zs H' y=>?_⟩;obtain⟨e,y,ez,hy⟩:=y;subst e ez;exact⟨rfl,hs i y σ _ (by omega) (hy ys q2) p⟩
 ·have e:i=ys.length:=by omega
  subst e;exact .inl ⟨⟨c7.symm,ys,q2⟩,hd σ H p⟩
end L2
namespace Law
open PySem L2 Fs
noncomputable def top(i:Nat):Stmt:=PySem.Challenge.pw_fillsay_k35_whole_fillings_that_fill.main.body.getD i (.Pass ⟨0,0,0,0⟩)
noncomputable abbrev qeV:Stmt:=top 10
noncomputable abbrev vo:Stmt:=top 11
noncomputable abbrev qdn:Stmt:=top 12
noncomputable abbrev qaJ:Stmt:=top 13
noncomputable abbrev vp:Stmt:=top 14
noncomputable abbrev kS:Stmt:=top 15
noncomputable abbrev qaK:Stmt:=top 16
noncomputable abbrev qbJ:Stmt:=top 17
noncomputable abbrev y8:Stmt:=top 18
noncomputable abbrev qbq:Stmt:=top 19
noncomputable abbrev qdo:Stmt:=top 21
noncomputable abbrev vq:Stmt:=top 22
noncomputable abbrev yE:Stmt:=top 23
noncomputable abbrev yL:Stmt:=za (top 26) 0
noncomputable abbrev yM:Stmt:=za (top 26) 1
noncomputable abbrev yN:Stmt:=za (top 26) 4
noncomputable abbrev je:Stmt:=za (top 27) 0
noncomputable abbrev jf:Stmt:=za (top 27) 1
noncomputable abbrev jg:Stmt:=za (top 27) 4
noncomputable abbrev jG:Stmt:=za (top 28) 0
noncomputable abbrev yO:Stmt:=za (top 28) 1
noncomputable abbrev yP:Stmt:=za (top 28) 2
noncomputable abbrev yQ:Stmt:=za (top 28) 5
noncomputable abbrev qaL:Stmt:=za (top 29) 0
noncomputable abbrev vt:Stmt:=za (top 29) 1
noncomputable abbrev vv:Stmt:=za (top 29) 2
noncomputable abbrev vw:Stmt:=za (top 29) 5
noncomputable abbrev kU:Stmt:=za (top 30) 0
noncomputable abbrev jC:Stmt:=za (top 30) 1
noncomputable abbrev vy:Stmt:=za (top 31) 0
noncomputable abbrev vA:Stmt:=za (top 31) 2
noncomputable abbrev qah:Stmt:=za (top 32) 0
noncomputable abbrev qai:Stmt:=za (top 32) 2
noncomputable abbrev yR:Stmt:=za (top 33) 0
noncomputable abbrev yS:Stmt:=za (top 33) 2
noncomputable abbrev qgU:Stmt:=top 38
noncomputable abbrev jo:Stmt:=top 39
noncomputable abbrev qeW:Stmt:=top 40
noncomputable abbrev kW:Stmt:=top 41
noncomputable abbrev qbK:Stmt:=top 42
noncomputable abbrev kX:Stmt:=top 43
noncomputable abbrev qdp:Stmt:=top 44
noncomputable abbrev kZ:Stmt:=za (top 50) 0
noncomputable abbrev vB:Stmt:=za (top 50) 9
noncomputable abbrev k4:Stmt:=top 51
noncomputable abbrev yF:Stmt:=top 52
noncomputable abbrev qaM:Stmt:=top 53
noncomputable abbrev k5:Stmt:=top 55
noncomputable abbrev qaN:Stmt:=top 56
noncomputable abbrev qaO:Stmt:=top 57
noncomputable abbrev vC:Stmt:=top 58
noncomputable abbrev jD:Stmt:=top 59
noncomputable abbrev qbL:Stmt:=top 60
noncomputable abbrev qaP:Stmt:=top 61
noncomputable abbrev qaQ:Stmt:=top 62
noncomputable abbrev k6:Stmt:=top 63
noncomputable abbrev jH:Stmt:=top 64
noncomputable abbrev vD:Stmt:=top 65
noncomputable abbrev jI:Stmt:=top 66
noncomputable abbrev jJ:Stmt:=top 67
noncomputable abbrev qaR:Stmt:=top 68
noncomputable abbrev yG:Stmt:=top 69
noncomputable abbrev k7:Stmt:=top 70
noncomputable abbrev vE:Stmt:=top 71
noncomputable abbrev qei:Stmt:=top 72
structure Txt(mg:Str->Option Value):Prop where
 len:mg "len"=none
 list:mg "list"=none
 sorted:mg "sorted"=none
 set:mg "set"=none
 tuple:mg "tuple"=none
 dict:mg "dict"=none
 zip:mg "zip"=none
 reversed:mg "reversed"=none
 range:mg "range"=none
 enumerate:mg "enumerate"=none
 all:mg "all"=none
 min:mg "min"=none
 max:mg "max"=none
 isinstance:mg "isinstance"=none
 tup:mg "str"=none
 bool:mg "bool"=none
theorem qhR:bootBuiltins "list"=some (.type "list"):=by decide +kernel
theorem qbr:bootBuiltins "tuple"=some (.type "tuple"):=by decide +kernel
theorem qdq:bootBuiltins "set"=some (.type "set"):=by decide +kernel
theorem qhS:bootBuiltins "dict"=some (.type "dict"):=by decide +kernel
theorem jk:bootBuiltins "sorted"=some (.builtin "sorted"):=by decide +kernel
theorem qnp:bootBuiltins "all"=some (.builtin "all"):=by decide +kernel
theorem qnq:bootBuiltins "min"=some (.builtin "min"):=by decide +kernel
section
variable {P:Program}{w:World}{K:W.Frag}{mg:Str->Option Value}{base:Heap}
def qf1(K:W.Frag)(n:Nat):Sp:=λ vs H Q _=>∃(a:Addr)(t:List Bool)(m:Nat),vs=[.ref a]/\SqL K H a (t.map V.bl)/\t.length=2^m/\m<n/\m<=9 /\
 ∀ r H',qk H H'->H' r=some (.lst ((zl m t).map V.bl))->Q (.ref r) H'
theorem qaj:FnScope ["truths","half","low","high"] ["truths"] (qj qbq):=scF
theorem vF(h:m<=9):2^m<=512:=by
 have:2^m<=2^9:=Yu (by decide) h
 exact this
theorem qhT:(["left","right"]:List Str).Nodup:=by decide +kernel
theorem qf2(F:Fun K "summed" "summed" qbq f fd)(T:Txt mg)(bF:qh K fd ["truths"] [])(mF:mg "summed"=some (.ref f))(G:FnOk P w K mg base CX0 n f fd ["truths"] (qf1 K n)):FnOk P w K mg base CX0 (n+1) f fd ["truths"] (qf1 K (n+1)):=by
 refine F.okd qaj (λ cdv A outer s H vs Q E hr h=>?_);obtain⟨a,t,m,rfl,hS,ht,hm,h9,q⟩:=h;have h512:=vF h9;refine⟨_,qc (zb (qx zg (qz qA rfl T.len J9 (qa (pv 0) qb)) qf (qy _)) (qe (qo (zo qa2 rfl T.list qhR (qa (pv 0) qb)))) qF)
  (qc (qt (i:=1) qaj.nd rfl (Or.inl rfl) (qp yH (qz qA rfl T.len J9 (qa (pv 0) qb)) qf))
  (qc (qt (i:=2) qaj.nd rfl (Or.inl rfl) (qZ G hr rfl mF F.kp bF .nil qG (qa (qfq qhD (pv 0) qhA (qhB (pv 1))) qb)))
  (qc (qt (i:=3) qaj.nd rfl (Or.inl rfl) (qZ G hr rfl mF F.kp bF .nil qG (qa (qfq qhD (pv 0) (qhB (pv 1)) qhA) qb)))
  (qe (qo (qp qjq (pv 2) (qba (n:=2) (csc (NY:=["left","right"]) (o:=2) (caps:=[]) [] rfl (by simp) y7 rfl) rfl
   (qeD rfl T.zip (qa (pv 2) (qa (pv 3) qb)))
   (λ C s H fp pins=>qE (qr (i:=0) qhT rfl (Or.inl rfl)) (qE (qr (i:=1) qhT rfl (Or.inl rfl)) zC)) (λ _=>rfl) (λ _=>rfl)
   (λ C s H fp pins=>zt) (λ C s H fp pins=>zE qjg (pv 0) (pv 1) (qy _))))))))),?_⟩
 have hl:(t.map V.bl).length=2^m:=by rw[U3,ht]
 refine⟨_,rfl,a,_,rfl,.inl hS,rfl,_,rfl,?_⟩;refine vV (λ c=>?_) (λ c=>?_)
 ·have c':V.int (((t.map V.bl).length:Nat):Int)=V.int 1:=Ui c;rw[hl] at c';have c2:((2^m:Nat):Int)=1:=by injection c'
  have hm0:m=0:=by
   cases m with
   |zero=>rfl
   |succ k=>rw[Q3] at c2;omega
  subst hm0;refine⟨_,rfl,a,_,rfl,.inl hS,λ r E4=>?_⟩;exact q r _ (qk.up E4) qd
 ·have c':¬ V.int (((t.map V.bl).length:Nat):Int)=V.int 1:=Zr (Z3.mpr c);rw[hl] at c';obtain⟨k,rfl⟩:∃ k,m=k+1:=by
   cases m with
   |zero=>exact absurd rfl c'
   |succ k=>exact⟨k,rfl⟩
  have W1:2^(k+1)=2^k+2^k:=by rw[Q3];omega
  have h1:(t.take (2^k)).length=2^k:=by rw[Ul];omega
  have h2:(t.drop (2^k)).length=2^k:=by rw[Um];omega
  have uG:(((t.map V.bl).length:Nat):Int) / 2=((2^k:Nat):Int):=by rw[hl];omega
  refine⟨_,rfl,a,_,rfl,.inl hS,_,_,rfl,rfl,⟨by decide,by decide⟩,?_⟩;dsimp only;rw[uG];refine⟨_,rfl,_,rfl,_,rfl,a,_,rfl,hS,λ p1 O2=>?_⟩;have e1:qfr (t.map V.bl) none (some ((2^k:Nat):Int))=(t.take (2^k)).map V.bl:=by
   unfold qfr;rw[HT.sIx_nat,hl,W1];show((t.map V.bl).drop 0).take (min (2^k) (2^k+2^k)-0)=_
   rw[J0,Nat.sub_zero,Jg (by omega),List.map_take]
  rw[e1];refine⟨p1,t.take (2^k),k,rfl,SqL.of qd,h1,by omega,by omega,λ r1 H1 g1 e1=>?_⟩;have g1':qk H H1:=(qk.up O2).trans g1;refine⟨_,rfl,_,rfl,_,rfl,a,_,rfl,g1'.seq hS,λ p2 hp2'=>?_⟩;have e2:qfr (t.map V.bl) (some ((2^k:Nat):Int)) none=(t.drop (2^k)).map V.bl:=by
   unfold qfr;rw[HT.sIx_nat,hl,W1,Jg (by omega)];show((t.map V.bl).drop (2^k)).take (2^k+2^k-2^k)=_
   rw[<- List.map_drop,XL (by rw[U3,h2];omega)]
  rw[e2];refine⟨p2,t.drop (2^k),k,rfl,SqL.of qd,h2,by omega,by omega,λ r2 H2 g2 e3=>?_⟩;have oU:qk H1 H2:=(qk.up hp2').trans g2;have f1:H2 r1=some (.lst ((zl k (t.take (2^k))).map V.bl)):=oU _ _ e1;have l1:=qV k _ h1;have l2:=qV k _ h2;refine⟨_,rfl,_,rfl,_,rfl,r1,r2,rfl,⟨_,SqL.of f1⟩,⟨_,SqL.of e3⟩,?_⟩;refine qeM (SqL.of f1) (SqL.of e3) (by rw[U3,U3,l1,l2]) (λ i=>((List.zipWith (· != ·) (zl k (t.take (2^k))) (zl k (t.drop (2^k)))).take i).map V.bl) rfl (λ i hi=>?_) ?_ ?_
  ·rw[U3,Ul];rw[U3,l1] at hi;exact zi (by omega)
  ·intro i x y H3 D Y Z hx hy hD bQ sm hY hZ;obtain⟨b1,P8,rfl⟩:=ql hx;obtain⟨b2,S0,rfl⟩:=ql hy;refine⟨_,_,rfl,_,_,rfl,rfl,⟨rfl,rfl⟩,?_⟩;refine⟨_,rfl,_,rfl,rfl,?_⟩;rw[qeN];exact hY _ _ bQ sm (yf (vg P8 S0))
  ·intro D H3 hD sm bQ;have e4:(((List.zipWith (· != ·) (zl k (t.take (2^k))) (zl k (t.drop (2^k)))).take ((zl k (t.take (2^k))).map V.bl).length).map V.bl)=(List.zipWith (· != ·) (zl k (t.take (2^k))) (zl k (t.drop (2^k)))).map V.bl:=by
    rw[XL (by rw[Y1,U3];omega)]
   rw[e4] at bQ;refine⟨r1,D,_,_,rfl,rfl,sm _ _ f1,bQ,?_,λ r3 iE=>?_⟩
   ·rw[U3,U3,Y1,l1,l2];exact qB (by omega)
   ·refine q r3 _ ((g1'.trans oU).trans (sm.to iE)) ?_;rw[qd,<- Ja];rfl
theorem qej(F:Fun K "summed" "summed" qbq f fd)(T:Txt mg)(bF:qh K fd ["truths"] [])(mF:mg "summed"=some (.ref f)):∀ n,FnOk P w K mg base CX0 n f fd ["truths"] (qf1 K n)
 |0=>⟨λ vs H Q E h=>by obtain⟨_,_,_,_,_,_,h,_⟩:=h;exact absurd h (Jc _),λ A outer s H args us vs Q E _ _ _ _ h=>by obtain⟨_,_,_,_,_,_,h,_⟩:=h;exact absurd h (Jc _)⟩
 |n+1=>qf2 F T bF mF (qej F T bF mF n)
def qcj:Sp:=λ vs H Q _=>∃(ls:List Nat),vs=[vS ls]/\ls.length<=9/\∀ r H',qk H H'->H' r=some (.lst ((zh ls).map vS))->Q (.ref r) H'
theorem qbs:FnScope ["letters","products","letter"] ["letters"] (qj y8):=scF
theorem qok:(["product","letter"]:List Str).Nodup:=by decide +kernel
theorem qkf(F:Fun K "products_over" "products_over" y8 f fd)(T:Txt mg):FnOk P w K mg base CX0 (k+1) f fd ["letters"] qcj:=by
 refine F.okd qbs (λ cdv A outer s H vs Q E hr h=>?_);obtain⟨ls,rfl,h9,q⟩:=h;refine⟨_,qc (qt (i:=1) qbs.nd rfl (Or.inl rfl) (zO (qa qm qb)))
  (qc (yq Jk rfl (qm9 rfl T.reversed (qa (pv 0) qb)) (qr (i:=2) qbs.nd rfl (Or.inr rfl))
   (qe (qt (i:=1) qbs.nd rfl (Or.inl rfl) (qp qjq (pv 1) (zH (csc (NY:=["product","letter"]) (o:=1) (caps:=[2]) ["letter"] rfl
    (by intro x hx;rw[Zn.mp hx];exact .inl rfl) (kq rfl rfl rfl y7) rfl) rfl
    (zU (pv 1)) (λ C s H fp pins=>qr (i:=0) qok rfl (Or.inl rfl)) (λ C s H fp pins=>zt) (λ C s H fp pins=>qp qcA (pv 1) (pv 0)))))))
  (qe (qo (pv 1)))),?_⟩
 have hz:(qi ls).length=ls.length:=qD ls;refine⟨qB (by show 1<=_;decide),λ p0 oH=>?_⟩;refine⟨_,rfl,_,rfl,by rw[hz];exact qB (by omega),?_⟩;refine qhG (λ i σ H1=>∃(r:Addr)(v:Option V),σ=[some (vS ls),some (.ref r),v]/\qk H H1/\H1 r=some (.lst ((zh (ls.drop (ls.length-i))).map vS))) ?_ ?_ ?_
 ·refine⟨p0,none,rfl,qk.up oH,?_⟩;rw[qd,Nat.sub_zero,List.drop_length];rfl
 ·rintro i σ H1 hi ⟨r,v,rfl,g1,e1⟩;rw[hz] at hi;have c8:ls.length-1-i<ls.length:=by omega
  have ev:qjN (qi ls) i=vS [ls[ls.length-1-i]]:=by
   unfold qjN;rw[hz];show V.str ⟨#[ls.toArray.getD (ls.length-1-i) 0]⟩=V.str ⟨#[ls[ls.length-1-i]]⟩
   rw[Xf];simp[c8]
  have ed:ls.drop (ls.length-(i+1))=ls[ls.length-1-i]::ls.drop (ls.length-i):=by
   rw[show ls.length-(i+1)=ls.length-1-i by omega,Xt c8,show ls.length-1-i+1=ls.length-i by omega]
  rw[ev];have p8:(zh (ls.drop (ls.length-i))).length<=512:=by
   rw[qN,Um];exact vF (by omega)
  refine⟨_,rfl,_,rfl,r,rfl,⟨_,SqL.of e1⟩,?_⟩;refine qbE (SqL.of e1) (λ j=>((((zh (ls.drop (ls.length-i))).map (ls[ls.length-1-i]::·)).take j).map vS)) rfl (λ j hj=>?_) ?_ ?_
  ·rw[U3,Ul,U3];exact zi (by omega)
  ·intro j x H2 D Y Z hx hD t6 sm hY hZ;obtain⟨p,hp,rfl⟩:=ql hx;have rX:p.length<=9:=by
    have:=(zN.mp (Yn hp)).length_le
    rw[Um] at this;omega
   refine⟨⟨rfl,rfl⟩,?_⟩;refine⟨_,rfl,_,rfl,_,_,rfl,rfl,by rw[qD,qD];exact qB (by simp;omega),?_⟩;rw[jO];refine hY _ _ t6 sm ?_;exact yf (f:=vS) (by rw[Zt,hp];rfl)
  ·intro D H2 hD sm t6;rw[U3,XL (by rw[U3];exact Vd _)] at t6;refine⟨r,D,_,_,rfl,rfl,sm _ _ e1,t6,?_,λ r3 iE=>?_⟩
   ·rw[U3,U3,U3];exact qB (by omega)
   ·refine⟨r3,_,rfl,g1.trans (sm.to iE),?_⟩;rw[qd,ed,zh,Ja]
 ·rintro σ H1 ⟨r,v,rfl,g1,e1⟩;rw[hz,Nat.sub_self,J0] at e1;exact⟨_,rfl,q r H1 g1 e1⟩
def jS(K:W.Frag):Sp:=λ vs H Q _=>∃(a:Addr)(F:List Pr),vs=[.ref a]/\SqT K H a (F.map vS)/\F.flatten.length<=4000/\F.length<=2000/\(qg F).length<64/\∀ H',qk H H'->Q (vS (qg F)) H'
theorem qgV:FnScope ["form"] ["form"] (qj vp):=scF
theorem zB(l:List Nat):(l.map λ c=>[c]).flatten=l:=by
 induction l with
 |nil=>rfl
 |cons a l ih=>rw[Qj,Zw,ih];rfl
theorem qgW(F:Fun K "letters_of" "letters_of" vp f fd)(T:Txt mg):FnOk P w K mg base CX0 (k+1) f fd ["form"] (jS K):=by
 refine F.okd qgV (λ cdv A outer s H vs Q E hr h=>?_);obtain⟨a,F,rfl,hS,h4,h2,bS,q⟩:=h;refine⟨_,qe (qo (yA XQ Yg Yh jy qm (qa (qz (qat rfl) rfl T.sorted jk (qa (zo (ki rfl) rfl T.set qdq (qa
  (yA XQ Yg Yh jy qm (qa (pv 0) qb)) qb)) qb)) qb))),?_⟩
 rw[zI] at hS;have hz:("":Str).length=0:=by decide
 refine⟨rfl,rfl,?_⟩;refine⟨_,rfl,_,a,F.map qi,rfl,rfl,.inr hS,?_,?_⟩
 ·rw[yY,hz];show F.flatten.length+_*0<=_;omega
 rw[yX];refine⟨F.flatten.map λ c=>qi [c],.inr ⟨_,rfl,rfl⟩,by rw[U3];show _<4096;omega,λ l ys hl nd hm=>?_⟩;have bY:=yV (F.flatten.map λ c=>[c]);have aV:∀ x,x∈ys ↔ cs x∈vK (F.flatten.map λ c=>[c]):=λ x=>by
  rw[hm x,zX,Q4,Q4];constructor
  ·rintro⟨c,hc,rfl⟩;exact⟨c,hc,rfl⟩
  ·rintro⟨c,hc,e⟩;exact⟨c,hc,qeE e⟩
 have c7:ys.length=(qg F).length:=by
  rw[jQ nd bY aV,<- (zR _).length_eq,zY,U3]
 refine⟨l,ys,rfl,qd,by rw[c7];exact bS,λ l2 L5=>?_⟩;rw[qce nd bY aV,zY,zI];refine⟨_,l2,((qg F).map λ c=>[c]).map qi,rfl,rfl,.inl (SqL.of qd),?_,?_⟩
 ·rw[yY,hz,zB];show _+_*0<=_;omega
 rw[yX,zB];exact q _ ((qk.up hl).to L5)
def qck(K:W.Frag):Sp:=λ vs H Q _=>∃(a:Addr)(F:List Pr)(ls:List Nat),vs=[.ref a,vS ls]/\SqT K H a (F.map vS)/\F.length<=2000/\ls.length<=9/\∀ r H',qk H H'->H' r=some (.lst ((q9 F ls).map V.bl))->Q (.ref r) H'
theorem qf3:FnScope ["form","letters","standing"] ["form","letters"] (qj qaK):=scF
theorem qph:(["product"]:List Str).Nodup:=by decide +kernel
theorem qol:(["product","standing"]:List Str).Nodup:=by decide +kernel
theorem qkg(kvs:List (Key×V))(k k':Key)(v:V):(zP (jb kvs k v) k').isSome=((zP kvs k').isSome || decide (k=k')):=by
 rw[<- vT,<- vT];unfold jb;split
 ·rename_i h;rw[List.any_map];have e:((λ kv:Key×V=>decide (kv.1=k')) ∘ λ kv=>if kv.1=k then(kv.1,v) else kv)=λ kv=>decide (kv.1=k'):=by
   funext kv
   show decide ((if kv.1=k then(kv.1,v) else kv).1=k')=_
   split <;> rfl
  rw[e];by_cases hk:k=k'
  ·subst hk;rw[h];simp
  ·simp[hk]
 ·rw[List.any_append];simp
theorem qek(k':Key):∀(ls c9:List (Key×V)),(zP (qH c9 ls) k').isSome=((zP c9 k').isSome || ls.any λ kv=>decide (kv.1=k'))
 | [],c9=>by simp[qH]
 |x::ls,c9=>by
  show(zP (qH (jb c9 x.1 x.2) ls) k').isSome=_
  rw[qek k' ls,qkg,Qk,Bool.or_assoc]
theorem qeX(F:List Pr)(p:Pr):(zP (qH [] (kvK (F.map λ p=>(qi p,V.bl true)))) (.inr (qi p))).isSome=F.contains p:=by
 rw[qek];show(false || _)=_
 rw[Ql];unfold kvK;rw[Q5,List.any_map,U2,List.any_eq_true,XY];constructor
 ·rintro⟨q,hq,e⟩;have e:(Sum.inr (qi q):Key)=.inr (qi p):=Ui e;rw[<- jP (Sum.inr.inj e)];exact hq
 ·intro hp;exact⟨p,hp,Qa rfl⟩
theorem qkh(F:Fun K "table_of" "table_of" qaK f fd)(T:Txt mg)(Gp:Dp P w K mg base 1 fp uD ["letters"] qcj "products_over")(Gs:Dp P w K mg base 10 fs uC ["truths"] (qf1 K 10) "summed"):FnOk P w K mg base CX0 11 f fd ["form","letters"] (qck K):=by
 refine F.okd qf3 (λ cdv A outer s H vs Q E hr h=>?_);obtain⟨a,F,ls,rfl,hS,hF,h9,q⟩:=h;have hu:=jv hr;have B0:Room 1 _:=hr.mono (by decide);refine⟨_,qc (qt (i:=2) qf3.nd rfl (Or.inr rfl) (zo (qfJ rfl) rfl T.dict qhS (qa (zH (csc (NY:=["product"]) (o:=1) (caps:=[]) [] rfl (by simp) y7 rfl) rfl
   (qjc (pv 0)) (λ C s H fp pins=>qr (i:=0) qph rfl (Or.inl rfl)) (λ C s H fp pins=>zt) (λ C s H fp pins=>zF (qa (pv 0) (qa qfi qb)))) qb)))
  (qe (qo (qZ Gs.g hr rfl Gs.m Gs.e Gs.b .nil qG (qa (zH (csc (NY:=["product","standing"]) (o:=1) (caps:=[2]) ["standing"] rfl
    (by intro x hx;rw[Zn.mp hx];exact .inl rfl) (kq rfl rfl rfl y7) rfl) rfl
   (zU (qZ Gp.g B0 rfl Gp.m Gp.e Gp.b .nil qG (qa (pv 1) qb))) (λ C s H fp pins=>qr (i:=0) qol rfl (Or.inl rfl)) (λ C s H fp pins=>zt) (λ C s H fp pins=>qmM (qmU hu (pv 0) (pv 1)))) qb)))),?_⟩
 have xI:(F.map vS).length=F.length:=U3 _;refine⟨_,rfl,a,rfl,⟨_,hS⟩,?_⟩;refine ye (F.map vS).length (λ i ys H2=>∃ ps:List Addr,ys=ps.map V.ref/\Paired (λ a (kv:Str×V)=>H2 a=some (.tup [.str kv.1,kv.2])) ps ((F.take i).map λ p=>(qi p,V.bl true))) ?_ ?_ ?_ ?_ ?_
 ·intro D hD;exact⟨[],rfl,.nil⟩
 ·rintro i ys H2 hi ⟨ps,rfl,hp⟩
  have:=hp.length
  rw[U3,Ul] at this;rw[U3];rw[xI] at hi;exact zi (by omega)
 ·rintro i ys H2 D Y Z hi hD t6 sm ⟨ps,rfl,hp⟩ hY hZ;rw[xI] at hi;refine⟨⟨_,_,sm.seqT hS,Xy (by rw[xI];exact hi)⟩,?_⟩;rintro x H' ⟨rfl,t7⟩;have ex:=t7 _ (sm.seqT hS);obtain⟨p,x8,rfl⟩:=ql ex;refine⟨⟨rfl,rfl⟩,?_⟩;refine⟨_,rfl,qB (by show 2<=_;decide),λ t ht=>?_⟩;have oQ:D≠t:=zp t6 ht;refine hY _ _ (by rw[qv oQ];exact t6) (sm.to ht) ⟨ps++[t],by rw[Ja];rfl,?_⟩;rw[ze x8,Ja];refine q8 (L2.Paired.mapP hp λ b kv e=>?_) (.cons ?_ .nil)
  ·have hbD:b≠D:=qi8 e t6 (by intro z;cases z);rw[qv hbD,qv (zp e ht)];exact e
  ·rw[qv (Vz oQ),qd]
 ·intro H2 sm;exact⟨_,sm.seqT hS,Vd _⟩
 rintro D H2 ys hD sm t6 ⟨ps,rfl,hp⟩;rw[xI,Ut] at hp;refine⟨D,ps,_,rfl,SqL.of t6,L2.Paired.mapP hp λ b kv e=>SqT.of e,λ d hd=>?_⟩;have g3:qk H (upd H2 d (.dK (qH [] (kvK (F.map λ p=>(qi p,V.bl true)))))):=sm.to hd;refine⟨_,rfl,ls,rfl,h9,λ r1 H3 g4 e3=>?_⟩;have hd3:H3 d=some (.dK (qH [] (kvK (F.map λ p=>(qi p,V.bl true))))):=g4 _ _ qd;have p8:(zh ls).length<=512:=by rw[qN];exact vF h9
 refine⟨r1,rfl,⟨_,SqL.of e3⟩,?_⟩;refine qbE (SqL.of e3) (λ j=>(((zh ls).map λ p=>F.contains p).take j).map V.bl) rfl (λ j hj=>?_) ?_ ?_
 ·rw[U3,Ul,U3];exact zi (by omega)
 ·intro j x H4 D2 Y Z hx M4 xH wE hY hZ;obtain⟨p,x8,rfl⟩:=ql hx;refine⟨⟨rfl,rfl⟩,?_⟩;refine⟨_,rfl,_,rfl,d,_,rfl,vN.k (k:=Sum.inr (qi p)) (wE _ _ hd3),?_⟩;rw[qeX];exact hY _ _ xH wE (yf (f:=V.bl) (by rw[Zt,x8];rfl))
 ·intro D2 H4 M4 wE xH;rw[U3,XL (by rw[U3];exact Vd _)] at xH;refine⟨D2,(zh ls).map λ p=>F.contains p,ls.length,rfl,SqL.of xH,by rw[U3,qN],by omega,h9,λ r H5 g5 e5=>?_⟩;exact q r H5 (((g3.trans g4).trans wE).trans g5) e5
def qgX(K:W.Frag):Sp:=λ vs H Q _=>∃(a:Addr)(t:List Bool)(ls:List Nat),vs=[vS ls,.ref a]/\SqL K H a (t.map V.bl)/\t.length=2^ls.length/\ls.length<=9/\ls.Nodup /\
 ∀ r H',qk H H'->H' r=some (.tup ((formOf ls t).map vS))->Q (.ref r) H'
theorem qhU:FnScope ["letters","table","products"] ["letters","table"] (qj qbJ):=scF
theorem qki:(["product","stands"]:List Str).Nodup:=by decide +kernel
theorem qnr{α β:Type}{as:List α}{bs:List β}{i:Nat}{a:α}{b:β}(h1:as[i]?=some a)(h2:bs[i]?=some b):(as.zip bs)[i]?=some (a,b):=vg h1 h2
theorem qb0(h:ss.map V.str=F.map vS):(qbb ss).map V.str=(srt F).map vS:=by
 have e:ss=F.map qi:=by
  rw[zI] at h;exact List.map_inj_right (λ a b e=>by injection e) |>.mp h
 subst e;unfold qbb;rw[qc3,zI]
theorem ql0(F:Fun K "form_of" "form_of" qbJ f fd)(T:Txt mg)(Gp:Dp P w K mg base 1 fp uD ["letters"] qcj "products_over")(Gs:Dp P w K mg base 10 fs uC ["truths"] (qf1 K 10) "summed"):FnOk P w K mg base CX0 11 f fd ["letters","table"] (qgX K):=by
 refine F.okd qhU (λ cdv A outer s H vs Q E hr h=>?_);obtain⟨a,t,ls,rfl,hS,ht,h9,nd,q⟩:=h;have B0:Room 1 _:=hr.mono (by decide);refine⟨_,qc (qt (i:=2) qhU.nd rfl (Or.inl rfl) (qZ Gp.g B0 rfl Gp.m Gp.e Gp.b .nil qG (qa (pv 0) qb)))
  (qe (qo (zo yJ rfl T.tuple qbr (qa (qz kC rfl T.sorted jk (qa (qba (n:=2) (csc (NY:=["product","stands"]) (o:=2) (caps:=[]) [] rfl (by simp) y7 rfl) rfl
   (qeD rfl T.zip (qa (pv 2) (qa (qZ Gs.g hr rfl Gs.m Gs.e Gs.b .nil qG (qa (pv 1) qb)) qb)))
   (λ C s H fp pins=>qE (qr (i:=0) qki rfl (Or.inl rfl)) (qE (qr (i:=1) qki rfl (Or.inl rfl)) zC)) (λ _=>rfl) (λ _=>rfl)
   (λ C s H fp pins=>qac (jX (pv 1))) (λ C s H fp pins=>pv 0)) qb)) qb)))),?_⟩
 have p8:(zh ls).length<=512:=by rw[qN];exact vF h9
 refine⟨_,rfl,ls,rfl,h9,λ r1 H1 g1 e1=>?_⟩;refine⟨_,rfl,_,rfl,a,t,ls.length,rfl,g1.seq hS,ht,by omega,h9,λ r2 H2 g2 e2=>?_⟩;have f1:=g2 _ _ e1;have sl:=qV _ _ ht;refine⟨r1,r2,rfl,⟨_,SqL.of f1⟩,⟨_,SqL.of e2⟩,?_⟩;have pk:∀ i,((((zh ls).zip (zl ls.length t)).take i).filterMap λ x=>if x.2=true then some x.1 else none).length<=512:=λ i=>by
  refine Qy (List.length_filterMap_le _ _) ?_;rw[Ul,Jj];omega
 refine qeM (SqL.of f1) (SqL.of e2) (by rw[U3,U3,sl,qN]) (λ i=>((((zh ls).zip (zl ls.length t)).take i).filterMap λ x=>if x.2=true then some x.1 else none).map vS) rfl (λ i hi=>?_) ?_ ?_
 ·rw[U3];exact zi (Qy (pk i) (by decide))
 ·intro i x y H3 D Y Z hx hy hD bQ sm hY hZ;obtain⟨p,hp,rfl⟩:=ql hx;obtain⟨b,hb,rfl⟩:=ql hy;refine⟨_,_,rfl,_,_,rfl,rfl,⟨rfl,rfl⟩,?_⟩;refine⟨_,rfl,b,rfl,?_⟩;have ez:(((zh ls).zip (zl ls.length t)).take (i+1))=((zh ls).zip (zl ls.length t)).take i++[(p,b)]:=ze (qnr hp hb);cases b with
  |true =>
   refine j4 ?_;refine⟨_,rfl,hY _ _ bQ sm ?_⟩;rw[ez,Ya,Ja];rfl
  |false =>
   refine yp ?_;refine hZ _ bQ sm ?_;rw[ez,Ya,Ja];exact U4 _
 ·intro D H3 hD sm bQ;rw[XL (by rw[Jj,U3];omega)] at bQ;have fJ:(yd ls (zl ls.length t)).length<=512:=Qy (j7 _ _).length_le p8;have hnd:((yd ls (zl ls.length t)).map qi).Nodup:=Zz.mpr ((j8 _ nd).imp λ{a b} A1 e=>A1 (jP e));refine⟨D,(yd ls (zl ls.length t)).map qi,rfl,SqL.of (by rw[<- zI];exact bQ),by rw[U3];show _<4096;omega,hnd,λ l hl=>?_⟩;rw[qb0 (zI _).symm];refine⟨l,_,rfl,.inl ⟨SqL.of qd,λ r E4=>?_⟩⟩;exact q r _ (((g1.trans g2).trans (sm.to hl)).to E4) qd
def qgY(K:W.Frag)(g:List Pr->List Pr->List Pr):Sp:=λ vs H Q _=>∃(a b:Addr)(F G:List Pr)(ls:List Nat),vs=[.ref a,.ref b]/\SqT K H a (F.map vS)/\SqT K H b (G.map vS)/\Ok9 ls/\On ls F/\On ls G /\
 ∀ r H',qk H H'->H' r=some (.tup ((g F G).map vS))->Q (.ref r) H'
def sp2(K:W.Frag)(g:List Pr->List Pr->List Pr):Sp:=λ vs H Q _=>∃(a b:Addr)(F G:List Pr)(ls:List Nat),vs=[.ref a,.ref b]/\SqT K H a (F.map vS)/\SqT K H b (G.map vS)/\Ok9 ls/\On ls F/\On ls G/\F.flatten.length+G.flatten.length<=4000 /\
 ∀ r H',qk H H'->H' r=some (.tup ((g F G).map vS))->Q (.ref r) H'
theorem qkj:FnScope ["one","other"] ["one","other"] (qj qeV):=scF
theorem qkk(F:Fun K "added" "added" qeV f fd)(T:Txt mg):FnOk P w K mg base CX0 (k+1) f fd ["one","other"] (qgY K added):=by
 refine F.okd qkj (λ cdv A outer s H vs Q E hr h=>?_);obtain⟨a,b,F,G,ls,rfl,hF,hG,o5,oF,oG,q⟩:=h;have lF:=o5.le oF;have lG:=o5.le oG;refine⟨_,qe (qo (zo yJ rfl T.tuple qbr (qa (qz (kz rfl) rfl T.sorted jk (qa (qp qjK (zo (ki rfl) rfl T.set qdq (qa (pv 0) qb)) (zo (ki rfl) rfl T.set qdq (qa (pv 1) qb))) qb)) qb))),?_⟩;rw[zI] at hF hG;refine⟨_,rfl,F.map qi,.inl ⟨a,rfl,.inr hF⟩,by rw[U3];show _<4096;omega,λ l1 ys h1 wL m1=>?_⟩;refine⟨_,rfl,G.map qi,.inl ⟨b,rfl,.inr ((qk.up h1).seqT hG)⟩,by rw[U3];show _<4096;omega,λ l2 zs h2 bY m2=>?_⟩;have n12:l1≠l2:=zp qd h2;have y1:ys.length=F.length:=jQ wL oF.vf.nodup λ x=>(m1 x).trans kr
 have z1:zs.length=G.length:=jQ bY oG.vf.nodup λ x=>(m2 x).trans kr
 refine⟨l1,l2,ys,zs,rfl,rfl,by rw[qv n12,qd],qd,by omega,by omega,λ l3 us h3 nd3 m3=>?_⟩;have lN:=qaz oF.vf.nodup oG.vf.nodup;have md:∀ x,x∈us ↔ cs x∈qcG F G:=λ x=>by rw[m3 x,m1 x,m2 x,kr,kr,vY]
 have ld:us.length=(added F G).length:=by rw[jQ nd3 lN md];exact((zR _).length_eq).symm
 have l32:=qiH F G;refine⟨l3,us,rfl,qd,by show _<4096;omega,nd3,λ l4 h4=>?_⟩;rw[qce nd3 lN md];refine⟨l4,_,rfl,.inl ⟨SqL.of qd,λ r E4=>?_⟩⟩;exact q r _ (((((qk.up h1).to h2).to h3).to h4).to E4) qd
theorem qcl:FnScope ["one","other","letters","lefts","rights"] ["one","other"] (qj vo):=scF
theorem ql1(F:Fun K "multiplied" "multiplied" vo f fd)(T:Txt mg)(Gl:Dp P w K mg base 1 fl nF ["form"] (jS K) "letters_of")(Gt:Dp P w K mg base 11 ft nE ["form","letters"] (qck K) "table_of")(Gf:Dp P w K mg base 11 ff uE ["letters","table"] (qgX K) "form_of"):FnOk P w K mg base CX0 12 f fd ["one","other"] (sp2 K mult):=by
 refine F.okd qcl (λ cdv A outer s H vs Q E hr h=>?_);obtain⟨a,b,F,G,ls,rfl,hF,hG,o5,oF,oG,sN,q⟩:=h;have B0:Room 1 _:=hr.mono (by decide);have lF:=o5.le oF;have lG:=o5.le oG;refine⟨_,qc (qt (i:=2) qcl.nd rfl (Or.inl rfl) (qZ Gl.g B0 rfl Gl.m Gl.e Gl.b .nil qG (qa (qp qjy (pv 0) (pv 1)) qb)))
  (qc (qt (i:=3) qcl.nd rfl (Or.inl rfl) (qZ Gt.g hr rfl Gt.m Gt.e Gt.b .nil qG (qa (pv 0) (qa (pv 2) qb))))
  (qc (qt (i:=4) qcl.nd rfl (Or.inl rfl) (qZ Gt.g hr rfl Gt.m Gt.e Gt.b .nil qG (qa (pv 1) (qa (pv 2) qb))))
  (qe (qo (qZ Gf.g hr rfl Gf.m Gf.e Gf.b .nil qG (qa (pv 2) (qa (qba (n:=2) (csc (NY:=["left","right"]) (o:=2) (caps:=[]) [] rfl (by simp) y7 rfl) rfl
   (qeD rfl T.zip (qa (pv 3) (qa (pv 4) qb)))
   (λ C s H fp pins=>qE (qr (i:=0) qhT rfl (Or.inl rfl)) (qE (qr (i:=1) qhT rfl (Or.inl rfl)) zC)) (λ _=>rfl) (λ _=>rfl)
   (λ C s H fp pins=>zt) (λ C s H fp pins=>qcv (pv 0) (qcu (pv 1)))) qb))))))),?_⟩
 have inls:∀ p∈F++G,∀ c∈p,c∈ls:=λ p hp=>by
  rcases U1.mp hp with h|h
  ·exact oF.mem p h
  ·exact oG.mem p h
 have lle:=qfK o5.rise inls;have l5:=o5.len;have lr:=qT (F++G);have bH:(F++G).flatten.length<=4000:=by
  rw[List.flatten_append,Zh];omega
 refine⟨_,rfl,_,rfl,a,b,_,_,rfl,rfl,hF,hG,by rw[U3,U3];exact qB (by omega),λ p H1 g1 hp=>?_⟩;rw[<- Ja] at hp;refine⟨p,F++G,rfl,hp,bH,by rw[Zh];omega,by omega,λ H2 g2=>?_⟩;have u0:=g1.trans g2;refine⟨_,rfl,_,rfl,a,F,qg (F++G),rfl,u0.seqT hF,by omega,by omega,λ r1 H3 g3 e3=>?_⟩;have N9:=u0.trans g3;refine⟨_,rfl,_,rfl,b,G,qg (F++G),rfl,N9.seqT hG,by omega,by omega,λ r2 H4 g4 e4=>?_⟩;have f3:=g4 _ _ e3;have t1:=qP F (qg (F++G));have t2:=qP G (qg (F++G));have h512:2^(qg (F++G)).length<=512:=vF (by omega);refine⟨_,rfl,_,rfl,_,rfl,r1,r2,rfl,⟨_,SqL.of f3⟩,⟨_,SqL.of e4⟩,?_⟩;refine qeM (SqL.of f3) (SqL.of e4) (by rw[U3,U3,t1,t2]) (λ i=>((List.zipWith (· && ·) (q9 F (qg (F++G))) (q9 G (qg (F++G)))).take i).map V.bl) rfl (λ i hi=>?_) ?_ ?_
 ·rw[U3,Ul];rw[U3,t1] at hi;exact zi (by omega)
 ·intro i x y H5 D Y Z hx hy hD gF sm hY hZ;obtain⟨b1,P8,rfl⟩:=ql hx;obtain⟨b2,S0,rfl⟩:=ql hy;refine⟨_,_,rfl,_,_,rfl,rfl,⟨rfl,rfl⟩,?_⟩;refine⟨_,rfl,b1,rfl,?_⟩;have st:=yf (f:=V.bl) (vg (f:=(· && ·)) P8 S0);cases b1 with
  |true =>
   refine j4 ?_;exact⟨_,rfl,hY _ _ gF sm st⟩
  |false =>
   refine yp ?_;exact hY _ _ gF sm st
 ·intro D H5 hD sm gF;rw[XL (by rw[Y1,U3];omega)] at gF;refine⟨D,_,qg (F++G),rfl,SqL.of gF,by rw[Y1,t1,t2];exact Nat.min_self _,by omega,qQ Qh lr,λ r H6 g6 e6=>?_⟩;exact q r H6 (((N9.trans g4).trans sm).trans g6) e6
theorem qiO:FnScope ["one","other"] ["one","other"] (qj qdn):=scF
theorem qiP(F:Fun K "joined" "joined" qdn f fd)(Ga:Dp P w K mg base 1 fa nG ["one","other"] (qgY K added) "added")(Gm:Dp P w K mg base 12 fm fdm ["one","other"] (sp2 K mult) "multiplied"):FnOk P w K mg base CX0 13 f fd ["one","other"] (sp2 K join):=by
 refine F.okd qiO (λ cdv A outer s H vs Q E hr h=>?_);obtain⟨a,b,F,G,ls,rfl,hF,hG,o5,oF,oG,sN,q⟩:=h;have B0:Room 1 _:=hr.mono (by decide);refine⟨_,qe (qo (qZ Ga.g B0 rfl Ga.m Ga.e Ga.b .nil qG (qa (qZ Ga.g B0 rfl Ga.m Ga.e Ga.b .nil qG (qa (pv 0) (qa (pv 1) qb))) (qa (qZ Gm.g hr rfl Gm.m Gm.e Gm.b .nil qG (qa (pv 0) (qa (pv 1) qb))) qb)))),?_⟩;refine⟨_,rfl,_,rfl,a,b,F,G,ls,rfl,hF,hG,o5,oF,oG,λ r1 H1 g1 e1=>?_⟩;refine⟨_,rfl,_,rfl,a,b,F,G,ls,rfl,g1.seqT hF,g1.seqT hG,o5,oF,oG,sN,λ r2 H2 g2 e2=>?_⟩;refine⟨r1,r2,_,_,ls,rfl,SqT.of (g2 _ _ e1),SqT.of e2,o5,oF.added oG,oF.mult oG,λ r H3 g3 e3=>?_⟩;exact q r H3 ((g1.trans g2).trans g3) e3
def sp1(K:W.Frag)(g:List Pr->List Pr):Sp:=λ vs H Q _=>∃(a:Addr)(F:List Pr)(ls:List Nat),vs=[.ref a]/\SqT K H a (F.map vS)/\Ok9 ls/\On ls F/\∀ r H',qk H H'->H' r=some (.tup ((g F).map vS))->Q (.ref r) H'
theorem qns:FnScope ["form"] ["form"] (qj qaJ):=scF
theorem qnt(F:Fun K "opposite" "opposite" qaJ f fd)(mal:mg "ALWAYS"=some (.ref al))(hal:∀ H,SqT K H al (([[]]:List Pr).map vS))(Ga:Dp P w K mg base 1 fa nG ["one","other"] (qgY K added) "added"):FnOk P w K mg base CX0 2 f fd ["form"] (sp1 K opp):=by
 refine F.okd qns (λ cdv A outer s H vs Q E hr h=>?_);obtain⟨a,F,ls,rfl,hF,o5,oF,q⟩:=h;refine⟨_,qe (qo (qZ Ga.g hr rfl Ga.m Ga.e Ga.b .nil qG (qa (pv 0) (qa (yh (v:=.ref al) rfl mal rfl) qb)))),?_⟩;refine⟨_,rfl,a,al,F,[[]],ls,rfl,hF,hal _,o5,oF,On.one ls,λ r H1 g1 e1=>?_⟩;exact q r H1 g1 e1
noncomputable def zD:List Nat:=[97,98,99,112,113,114,120,121,122]
theorem qiQ:zD.Pairwise (·<·):=by decide
theorem qf4:("abcpqrxyz":Str)=qi zD:=by decide +kernel
theorem jp(h:i<ls.length):sgn (qi ls) i=vS [ls[i]]:=by
 unfold sgn;show V.str ⟨#[ls.toArray.getD i 0]⟩=V.str ⟨#[ls[i]]⟩
 rw[Xf];simp[h]
def Dv(Γ:St->Hp->Prop)(te:TE)(v:V):Prop:=∀ σ H Q,Γ σ H->(∀ H',qk H H'->Q v H')->te σ H Q
def Dt(Γ:St->Hp->Prop)(tt:TT)(b:Bool):Prop:=∀ σ H Q,Γ σ H->(∀ H',qk H H'->Q b H')->tt σ H Q
def Stb(Γ:St->Hp->Prop):Prop:=∀ σ H H',Γ σ H->qk H H'->Γ σ H'
section
variable {Γ:St->Hp->Prop}{t1 t2 t3:TE}{F G:List Pr}{ls:List Nat}{g:List Pr->List Pr->List Pr}{g1:List Pr->List Pr}
theorem ql2:([V.str ""]:List V)=([[]]:List Pr).map vS:=by
 have hz:("":Str)=qi []:=by decide +kernel
 rw[hz];rfl
theorem qpi(st:Stb Γ)(h1:Dv Γ t1 (.bl a))(h2:Dv Γ t2 (.bl b)):Dv Γ (tOp rNe t1 t2) (.bl (a != b)):=λ σ H Q hΓ q =>
 h1 σ H _ hΓ λ H1 g1=>h2 σ H1 _ (st _ _ _ hΓ g1) λ H2 g2=>⟨rfl,by rw[qeN];exact q H2 (g1.trans g2)⟩
theorem zy(h:Dv Γ t1 (.bl b)):Dt Γ (qji t1) b:=λ σ H Q hΓ q=>h σ H _ hΓ λ H1 g1=>⟨b,rfl,q H1 g1⟩
end
def At(σ0:St)(H0:Hp):St->Hp->Prop:=λ σ H=>σ=σ0/\qk H0 H
theorem qC:Stb (At σ0 H0):=λ _ _ _ h g=>⟨h.1,h.2.trans g⟩
theorem at0:At σ0 H0 σ0 H0:=⟨rfl,qk.refl _⟩
section
variable {Γ:St->Hp->Prop}{t1 t2 t3:TE}
theorem qpj(st:Stb Γ)(h1:Dv Γ t1 (.bl a))(h2:Dv Γ t2 (.bl b)):Dv Γ (qnJ t1 t2) (.bl (a || b)):=λ σ H Q hΓ q=>h1 σ H _ hΓ λ H1 g1=>⟨a,rfl,by
 cases a with
 |true=>exact j4 (q H1 g1)
 |false=>exact yp (h2 σ H1 _ (st _ _ _ hΓ g1) λ H2 g2=>q H2 (g1.trans g2))⟩
theorem qom(st:Stb Γ)(h1:Dv Γ t1 (.bl a))(h2:Dv Γ t2 (.bl b)):Dv Γ (qmu t1 t2) (.bl (a && b)):=λ σ H Q hΓ q=>h1 σ H _ hΓ λ H1 g1=>⟨a,rfl,by
 cases a with
 |true=>exact j4 (h2 σ H1 _ (st _ _ _ hΓ g1) λ H2 g2=>q H2 (g1.trans g2))
 |false=>exact yp (q H1 g1)⟩
theorem qon(h1:Dv Γ t1 (.bl a)):Dv Γ (qmv t1) (.bl (!a)):=λ σ H Q hΓ q=>h1 σ H _ hΓ λ H1 g1=>⟨a,rfl,q H1 g1⟩
theorem jq(e:σ0[i]?=some (some (.ref p)))(h:SqT K H0 p xs)(ha:atI xs n=some v):Dv (At σ0 H0) (tOp (qlu K) (qfh i) (tC (.int n))) v:=λ σ H Q g q =>
 ⟨_,by rw[g.1];exact e,p,xs,n,v,rfl,rfl,g.2.seqT h,ha,q H (qk.refl H)⟩
end
inductive Tr where 
 |letter (c:Nat)|one
 |zero
 |neg (t:Tr)|bin (op:Nat)(t u:Tr)
noncomputable def qeY:List Nat:=[108,101,116,116,101,114]
theorem qaS:("letter":Str)=qi qeY:=by decide +kernel
def zJ(H H':Hp):Prop:=∀ b xs,H b=some (.tup xs)->H' b=some (.tup xs)
theorem zw(g:qk H H'):zJ H H':=λ _ _ e=>g _ _ e
theorem zJ.updL(h:H l=some (.lst xs)):zJ H (upd H l o):=λ b ys e=>by
 have:b≠l:=λ q=>by rw[q,h] at e;cases e
 rw[qv this];exact e
theorem zJ.trans(a:zJ H H1)(b:zJ H1 H2):zJ H H2:=λ c xs e=>b _ _ (a _ _ e)
noncomputable def Tr.ht:Tr->Nat
 |.neg t=>t.ht+1
 |.bin _ t u=>max t.ht u.ht+1
 |_=>1
def Tr.Of(ls:List Nat):Tr->Prop
 |.letter c=>c∈ls
 |.neg t=>t.Of ls
 |.bin op t u=>(op=38∨op=124∨op=43)/\t.Of ls/\u.Of ls
 |_=>True
section
variable {Γ:St->Hp->Prop}{t1 t2:TE}{u1 u2:TT}
theorem qpk(st:Stb Γ)(h1:Dt Γ u1 a)(h2:Dt Γ u2 b):Dt Γ (tOr u1 u2) (a || b):=λ σ H Q hΓ q=>h1 σ H _ hΓ λ H1 g1=>by
 cases a with
 |true=>exact j4 (q H1 g1)
 |false=>exact yp (h2 σ H1 _ (st _ _ _ hΓ g1) λ H2 g2=>q H2 (g1.trans g2))
theorem dI0(st:Stb Γ)(h1:Dv Γ t1 (.int i))(h2:Dv Γ t2 (.int j)):Dv Γ (tOp (rI0 g) t1 t2) (g i j):=λ σ H Q hΓ q =>
 h1 σ H _ hΓ λ H1 g1=>h2 σ H1 _ (st _ _ _ hΓ g1) λ H2 g2=>⟨i,j,rfl,rfl,q H2 (g1.trans g2)⟩
theorem dIE(st:Stb Γ)(h1:Dv Γ t1 (.int i))(h2:Dv Γ t2 (.int j)):Dv Γ (tOp rEq t1 t2) (.bl (decide (i=j))):=λ σ H Q hΓ q =>
 h1 σ H _ hΓ λ H1 g1=>h2 σ H1 _ (st _ _ _ hΓ g1) λ H2 g2=>⟨rfl,by rw[show decide (V.int i=V.int j)=decide (i=j) by simp];exact q H2 (g1.trans g2)⟩
theorem qmA(st:Stb Γ)(h1:Dv Γ t1 (.int i))(hj:0<j):Dv Γ (tOp (rI (λ _ j=>0<j) λ i j=>.int (i % j)) t1 (tC (.int j))) (.int (i % j)):=λ σ H Q hΓ q =>
 h1 σ H _ hΓ λ H1 g1=>⟨i,j,rfl,rfl,hj,q H1 g1⟩
theorem qpl(st:Stb Γ)(h1:Dv Γ t1 (.int i))(h2:Dv Γ t2 (.int j)):Dt Γ (qji (tOp (rI0 λ i j=>.bl (decide (i<j))) t1 t2)) (decide (i<j)):=zy (dI0 st h1 h2)
theorem dC:Dv Γ (tC v) v:=λ σ H Q hΓ q=>q H (qk.refl H)
theorem dvA(e:σ0[i]?=some (some v)):Dv (At σ0 H0) (qfh i) v:=λ σ H Q g q=>⟨v,by rw[g.1];exact e,q H (qk.refl H)⟩
theorem qpm(e:σ0[i]?=some (some (.ref p)))(h:SqL K H0 p xs):Dv (At σ0 H0) (tCB (λ xs H Q=>∃ p ys,xs=[.ref p]/\(SqL K H p ys∨SqT K H p ys)/\Q (.int ys.length) H) (vJ (qfh i) yT)) (.int xs.length):=λ σ H Q g q =>
 ⟨.ref p,by rw[g.1];exact e,p,xs,rfl,.inl (g.2.seq h),q H (qk.refl H)⟩
theorem yt(h:Dt Γ tc b)(hΓ:Γ σ H)(kA:b=true->∀ H',qk H H'->A D σ H')(kB:b=false->∀ H',qk H H'->B D σ H'):qnN tc A B D σ H:=h σ H _ hΓ λ H' g=>by
 cases b with
 |true=>exact j4 (kA rfl H' g)
 |false=>exact yp (kB rfl H' g)
end
noncomputable def Tr.wt:Tr->Nat
 |.neg t=>t.wt+1
 |.bin _ t u=>t.wt+u.wt
 |_=>1
theorem Tr.wt_pos:∀ t:Tr,1<=t.wt
 |.letter _=>Vd _
 |.one=>Vd _
 |.zero=>Vd _
 |.neg t=>by show 1<=t.wt+1;omega
 |.bin _ t u=>by have:=Tr.wt_pos t;show 1<=t.wt+u.wt;omega
theorem Tr.ht_wt:∀ t:Tr,t.ht<=t.wt
 |.letter _=>Vd _
 |.one=>Vd _
 |.zero=>Vd _
 |.neg t=>Nat.succ_le_succ (Tr.ht_wt t)
 |.bin _ t u=>by
  have a:=Tr.ht_wt t;have b:=Tr.ht_wt u;have c:=Tr.wt_pos t;have d:=Tr.wt_pos u;show max t.ht u.ht+1<=t.wt+u.wt
  omega
theorem Tr.ht1(t:Tr):1<=t.ht:=by cases t <;> simp[Tr.ht]
theorem qak{α:Type}(l:List α)(x:α):(l++[x])[(l++[x]).length-1]?=some x:=by simp
theorem qoo:("&|+":Str)=qi [38,124,43]:=by decide +kernel
theorem qnu:("~":Str)=qi [126]:=by decide +kernel
theorem qop{l:List Nat}(h0:0<=i)(h:i<(l.length:Int)):∃ c∈l,atI l i=some c:=by
 have hk:i.toNat<l.length:=by omega
 have:=yr (xs:=l) (j:=i.toNat) (Xy hk)
 rw[show((i.toNat:Nat):Int)=i by omega] at this;exact⟨_,Ur hk,this⟩
def Tr.Has(c:Nat):Tr->Prop
 |.letter l=>c=l
 |.neg t=>t.Has c
 |.bin _ t u=>t.Has c∨u.Has c
 |_=>False
theorem Tr.Of.has:∀{t:Tr},t.Of ls->t.Has c->c∈ls
 |.letter l,h,e=>by rw[show c=l from e];exact h
 |.neg t,h,e=>Tr.Of.has (t:=t) h e
 |.bin _ t u,h,e=>e.elim (Tr.Of.has (t:=t) h.2.1) (Tr.Of.has (t:=u) h.2.2)
 |.one,_,e=>e.elim
 |.zero,_,e=>e.elim
theorem qkl:("1":Str)=qi [49]:=by decide +kernel
theorem qgZ:("0":Str)=qi [48]:=by decide +kernel
theorem qkm:("&":Str)=qi [38]:=by decide +kernel
theorem qkn:("|":Str)=qi [124]:=by decide +kernel
section
variable {Γ:St->Hp->Prop}{t1 t2:TE}
theorem jK(st:Stb Γ)(h1:Dv Γ t1 (vS p))(h2:Dv Γ t2 (vS q)):Dv Γ (tOp rEq t1 t2) (.bl (decide (p=q))):=λ σ H Q hΓ k =>
 h1 σ H _ hΓ λ H1 g1=>h2 σ H1 _ (st _ _ _ hΓ g1) λ H2 g2=>⟨rfl,by
  have e:decide (vS p=vS q)=decide (p=q):=by
   by_cases h:p=q
   ·rw[h];simp
   ·rw[Jl h,Jl λ e=>h (qgD e)]
  rw[e];exact k H2 (g1.trans g2)⟩
theorem qaw(e:σ0[i]?=some (some (.ref p)))(h:SqT K H0 p xs):Dv (At σ0 H0) (tCB (λ xs H Q=>∃ p ys,xs=[.ref p]/\(SqL K H p ys∨SqT K H p ys)/\Q (.int ys.length) H) (vJ (qfh i) yT)) (.int xs.length):=λ σ H Q g q =>
 ⟨.ref p,by rw[g.1];exact e,p,xs,rfl,.inr (g.2.seqT h),q H (qk.refl H)⟩
theorem qaq(h:Dv Γ t1 v)(hΓ:Γ σ H)(k:∀ H',qk H H'->D.rt v H'):qlj t1 D σ H:=h σ H _ hΓ k
theorem qko(h:Dv Γ t1 v)(hΓ:Γ σ H)(k:∀ H',qk H H'->D.nx (σ.set i (some v)) H'):qjb t1 (vI i) D σ H:=h σ H _ hΓ k
end
structure CA where 
 always:Addr
 never:Addr
 letter:Addr
 not:Addr
 and:Addr
 or:Addr
 either:Addr
noncomputable def CA.bin(c:CA)(op:Nat):Addr:=if op=38 then c.and else if op=124 then c.or else c.either
structure CTxt(K:W.Frag)(c:CA)(iL iN iP:Addr):Prop where
 always:Cls K c.always
 never:Cls K c.never
 letter:Cls K c.letter
 not:Cls K c.not
 and:Cls K c.and
 or:Cls K c.or
 either:Cls K c.either
 mAlways:Mk0 K c.always
 mNever:Mk0 K c.never
 mLetter:Mk K c.letter iL
 mNot:Mk K c.not iN
 mAnd:Mk K c.and iP
 mOr:Mk K c.or iP
 mEither:Mk K c.either iP
 aLetter:NoAttr K c.letter "letter"
 aNot:NoAttr K c.not "one"
 aAnd:NoAttr K c.and "one"/\NoAttr K c.and "other"
 aOr:NoAttr K c.or "one"/\NoAttr K c.or "other"
 aEither:NoAttr K c.either "one"/\NoAttr K c.either "other"
theorem CTxt.bin(h:CTxt K c iL iN iP)(op:Nat):Cls K (c.bin op)/\NoAttr K (c.bin op) "one"/\NoAttr K (c.bin op) "other":=by
 unfold CA.bin;split
 ·exact⟨h.and,h.aAnd⟩
 ·split
  ·exact⟨h.or,h.aOr⟩
  ·exact⟨h.either,h.aEither⟩
def qO(c:CA)(H:Hp):Tr->V->Prop
 | .letter l,v=>∃ a dx,v=.ref a/\H a=some (.ins c.letter dx [("letter",vS [l])])
 |.one,v=>∃ a dx,v=.ref a/\H a=some (.ins c.always dx [])
 |.zero,v=>∃ a dx,v=.ref a/\H a=some (.ins c.never dx [])
 | .neg t,v=>∃ a dx x,v=.ref a/\H a=some (.ins c.not dx [("one",x)])/\qO c H t x
 | .bin op t u,v=>∃ a dx x y,v=.ref a/\H a=some (.ins (c.bin op) dx [("one",x),("other",y)])/\qO c H t x/\qO c H u y
theorem qO.mono(g:qk H H'):∀{t:Tr}{v:V},qO c H t v->qO c H' t v
 |.letter _,_,⟨a,dx,e,h⟩=>⟨a,dx,e,g _ _ h⟩
 |.one,_,⟨a,dx,e,h⟩=>⟨a,dx,e,g _ _ h⟩
 |.zero,_,⟨a,dx,e,h⟩=>⟨a,dx,e,g _ _ h⟩
 |.neg t,_,⟨a,dx,x,e,h,r⟩=>⟨a,dx,x,e,g _ _ h,qO.mono g r⟩
 |.bin op t u,_,⟨a,dx,x,y,e,h,r,r'⟩=>⟨a,dx,x,y,e,g _ _ h,qO.mono g r,qO.mono g r'⟩
def qal(K:W.Frag)(f:Str):Sp:=λ vs H Q _=>∃(C x dx:Addr)(y:V),vs=[.ref x,y]/\H x=some (.ins C dx [])/\Cls K C/\NoAttr K C f/\Q .non (upd H x (.ins C dx [(f,y)]))
def qeZ(K:W.Frag)(f g:Str):Sp:=λ vs H Q _=>∃(C x dx:Addr)(y z:V),vs=[.ref x,y,z]/\H x=some (.ins C dx [])/\Cls K C/\NoAttr K C f/\NoAttr K C g/\Q .non (upd (upd H x (.ins C dx [(f,y)])) x (.ins C dx [(f,y),(g,z)]))
theorem qkp:FnScope ["self","letter"] ["self","letter"] (qj jG):=scF
theorem qkq:FnScope ["self","one"] ["self","one"] (qj qaL):=scF
theorem qkr:FnScope ["self","one","other"] ["self","one","other"] (qj kU):=scF
theorem qks(F:Fun K "__init__" "Letter.__init__" jG f fd):FnOk P w K mg base CX0 (k+1) f fd ["self","letter"] (qal K "letter"):=by
 refine F.okd qkp (λ cdv A outer s H vs Q E hr h=>?_);obtain⟨C,x,dx,y,rfl,hx,c,n,q⟩:=h;refine⟨_,qe (jZ (pv 0) (pv 1) rfl),?_⟩;exact⟨_,rfl,_,rfl,x,C,dx,[],rfl,hx,c,n,by decide,q⟩
theorem qkt(F:Fun K "__init__" "Not.__init__" qaL f fd):FnOk P w K mg base CX0 (k+1) f fd ["self","one"] (qal K "one"):=by
 refine F.okd qkq (λ cdv A outer s H vs Q E hr h=>?_);obtain⟨C,x,dx,y,rfl,hx,c,n,q⟩:=h;refine⟨_,qe (jZ (pv 0) (pv 1) rfl),?_⟩;exact⟨_,rfl,_,rfl,x,C,dx,[],rfl,hx,c,n,by decide,q⟩
theorem qku(F:Fun K "__init__" "Pair.__init__" kU f fd):FnOk P w K mg base CX0 (k+1) f fd ["self","one","other"] (qeZ K "one" "other"):=by
 refine F.okd qkr (λ cdv A outer s H vs Q E hr h=>?_);obtain⟨C,x,dx,y,z,rfl,hx,c,n,n2,q⟩:=h;refine⟨_,qc (jZ (pv 0) (pv 1) rfl) (qe (jZ (pv 0) (pv 2) rfl)),?_⟩;exact⟨_,rfl,_,rfl,x,C,dx,[],rfl,hx,c,n,by decide,_,rfl,_,rfl,x,C,dx,_,rfl,qd,c,n2,by show 1<1000;decide,q⟩
def qe0:Sp:=λ vs H Q _=>∃(ls:List Nat),vs=[vS ls]/\ls.length<=9/\Q (.int ((2^ls.length:Nat):Int)) H
theorem qbt:FnScope ["letters","count","place"] ["letters"] (qj kS):=scF
theorem qkv(F:Fun K "row_count" "row_count" kS f fd)(T:Txt mg):FnOk P w K mg base CX0 (k+1) f fd ["letters"] qe0:=by
 refine F.okd qbt (λ cdv A outer s H vs Q E hr h=>?_);obtain⟨ls,rfl,h9,q⟩:=h;refine⟨_,qc (qt (i:=1) qbt.nd rfl (Or.inl rfl) qf)
  (qc (yq Jk rfl (zM rfl T.range (qa (qz zG rfl T.len J9 (qa (pv 0) qb)) qb)) (qr (i:=2) qbt.nd rfl (Or.inl rfl))
   (qe (qt (i:=1) qbt.nd rfl (Or.inl rfl) (qp vQ qf (pv 1)))))
  (qe (qo (pv 1)))),?_⟩
 have hz:(qi ls).length=ls.length:=qD ls;refine⟨_,rfl,_,rfl,by rw[hz];exact qB (by omega),_,rfl,by rw[hz];omega,by rw[hz];omega,?_⟩;rw[hz];refine yj (λ i σ H1=>∃(v:Option V),σ=[some (vS ls),some (.int ((2^i:Nat):Int)),v]/\H1=H) ⟨none,rfl,rfl⟩ ?_ ?_
 ·rintro i σ H1 hi ⟨v,rfl,rfl⟩;refine⟨_,rfl,_,_,rfl,rfl,.inl ⟨by decide,by decide⟩,?_⟩;refine⟨some (.int (0+(i:Int))),?_,rfl⟩;show [some (vS ls),some (V.int (2*((2^i:Nat):Int))),_]=_
  rw[show(2:Int)*((2^i:Nat):Int)=((2^(i+1):Nat):Int) by rw[Q3];omega]
 ·rintro σ H1 ⟨v,rfl,rfl⟩;have e:((ls.length:Int)).toNat=ls.length:=Zv _;rw[e];exact⟨_,rfl,q⟩
structure Fit(F:List Pr):Prop where
 flat:F.flatten.length<=4000
 len:F.length<=2000
 few:(qg F).length<=9
def qkw(K:W.Frag):Sp:=λ vs H Q _=>∃(a:Addr)(as:List Addr)(Fs:List (List Pr)),vs=[.ref a]/\SqL K H a (as.map V.ref)/\Paired (λ c (F:List Pr)=>SqT K H c (F.map vS)) as Fs/\Fs.length<=9/\(∀ F∈Fs,Fit F)/\(qR Fs).length<=9/\∀ H',qk H H'->Q (vS (qR Fs)) H'
theorem qnv:FnScope ["forms"] ["forms"] (qj yE):=scF
theorem qoq:(["form"]:List Str).Nodup:=by decide +kernel
theorem qaT:∀{xs:List α}{l:List β},Paired F xs l->∀(k:Nat)(a:α),xs[k]?=some a->∃ b,l[k]?=some b/\F a b
 |_,_,.nil,k,a,h=>by simp at h
 |_,_,.cons r t,0,a,h=>by simp at h;subst h;exact⟨_,rfl,r⟩
 |_,_,.cons r t,k+1,a,h=>qaT t k a (by simpa using h)
theorem qnw(F:Fun K "letters_in_all" "letters_in_all" yE f fd)(T:Txt mg)(Gl:Dp P w K mg base 1 fl nF ["form"] (jS K) "letters_of"):FnOk P w K mg base CX0 2 f fd ["forms"] (qkw K):=by
 refine F.okd qnv (λ cdv A outer s H vs Q E hr h=>?_);obtain⟨a,as,Fs,rfl,hS,hp,h9,hf,ha,q⟩:=h;refine⟨_,qe (qo (yA XQ Yg Yh jy qm (qa (qz (qat rfl) rfl T.sorted jk (qa (zo (ki rfl) rfl T.set qdq (qa
  (yA XQ Yg Yh jy qm (qa (zH (csc (NY:=["form"]) (o:=1) (caps:=[]) [] rfl (by simp) y7 rfl) rfl
   (zU (pv 0)) (λ C s H fp pins=>qr (i:=0) qoq rfl (Or.inl rfl)) (λ C s H fp pins=>zt) (λ C s H fp pins=>qZ Gl.g hr rfl Gl.m Gl.e Gl.b .nil qG (qa (pv 0) qb))) qb)) qb)) qb)) qb))),?_⟩
 have hz:("":Str).length=0:=by decide
 have la:as.length=Fs.length:=hp.length;refine⟨rfl,rfl,?_⟩;refine⟨_,rfl,a,rfl,⟨_,hS⟩,?_⟩;refine qbE hS (λ j=>((Fs.take j).map qg).map vS) rfl (λ j hj=>?_) ?_ ?_
 ·rw[U3,U3,Ul];exact zi (by omega)
 ·intro j x H2 D Y Z hx hD t6 sm hY hZ;obtain⟨c,hc,rfl⟩:=ql hx;obtain⟨G,hG,hcG⟩:=qaT hp j c hc;have fG:=hf G (Yn hG);refine⟨⟨rfl,rfl⟩,?_⟩;refine⟨_,rfl,c,G,rfl,sm.seqT hcG,fG.flat,fG.len,by have:=fG.few;omega,λ H3 g3=>?_⟩;refine hY _ _ (g3 _ _ t6) (sm.trans g3) ?_;rw[ze hG,Ja,Ja];rfl
 ·intro D H2 hD sm t6;rw[U3,la,Ut] at t6;have bH:(Fs.map qg).flatten.length<=81:=by
   refine Qy (qcf (n:=9) (F:=Fs.map qg) λ p hp=>?_) (by rw[U3];omega);obtain⟨G,hG,rfl⟩:=Q4.mp hp;exact(hf G hG).few
  rw[zI] at t6;refine⟨_,D,(Fs.map qg).map qi,rfl,rfl,.inl (SqL.of t6),?_,?_⟩
  ·rw[yY,hz];show _+_*0<=_;omega
  rw[yX];refine⟨(Fs.map qg).flatten.map λ c=>qi [c],.inr ⟨_,rfl,rfl⟩,by rw[U3];show _<4096;omega,λ l ys hl nd hm=>?_⟩;have bY:=yV ((Fs.map qg).flatten.map λ c=>[c]);have aV:∀ x,x∈ys ↔ cs x∈vK ((Fs.map qg).flatten.map λ c=>[c]):=λ x=>by
   rw[hm x,zX,Q4,Q4];constructor
   ·rintro⟨c,hc,rfl⟩;exact⟨c,hc,rfl⟩
   ·rintro⟨c,hc,e⟩;exact⟨c,hc,qeE e⟩
  have c7:ys.length=(qR Fs).length:=by
   rw[jQ nd bY aV,<- (zR _).length_eq,zY,U3];rfl
  refine⟨l,ys,rfl,qd,by rw[c7];omega,λ l2 L5=>?_⟩;rw[qce nd bY aV,zY,zI];refine⟨_,l2,((qR Fs).map λ c=>[c]).map qi,rfl,rfl,.inl (SqL.of qd),?_,?_⟩
  ·rw[yY,hz,zB];show _+_*0<=_;omega
  rw[yX,zB];exact q _ ((sm.to hl).to L5)
def qpn(K:W.Frag)(H:Hp)(d:Addr)(ls:List Nat)(g:Nat->List Pr):Prop:=∃ kvs,H d=some (.dK kvs)/\∀ c∈ls,(zP kvs (.inr (qi [c]))=none/\g c=[[c]])∨∃ r,zP kvs (.inr (qi [c]))=some (.ref r)/\SqT K H r ((g c).map vS)
def qkx(K:W.Frag):Sp:=λ vs H Q _=>∃(a d:Addr)(F:List Pr)(g:Nat->List Pr),vs=[.ref a,.ref d]/\SqT K H a (F.map vS)/\qpn K H d (qg F) g/\Fit F/\(∀ c∈qg F,Fit (g c))/\(qR ((qg F).map g)).length<=9 /\
 ∀ r H',qk H H'->H' r=some (.tup ((putIn F g).map vS))->Q (.ref r) H'
theorem qdr:FnScope ["form","forms","own_letters","put_ones","letters","own_table"] ["form","forms"] (qj qdo):=scF
theorem qor:(["letter","forms"]:List Str).Nodup:=by decide +kernel
theorem qmB:(["number","truth"]:List Str).Nodup:=by decide +kernel
theorem qos:(["number","own_table"]:List Str).Nodup:=by decide +kernel
theorem qky(n:Nat)(v:V):(List.replicate n [v]).flatten=List.replicate n v:=by
 induction n with
 |zero=>rfl
 |succ n ih=>rw[Y0,Zw,ih,Y0];rfl
theorem qds:∀(ps:List (List Pr))(ns:List Nat)(b:Nat),(∀ n∈ns,n<b)->∀ n∈ps.foldl (λ ns p=>vL ns (q9 p L)) ns,n<b*2^ps.length
 | [],ns,b,h=>by intro n hn;have:=h n hn;simpa using this
 |p::ps,ns,b,h=>by
  intro n hn;rw[U8] at hn
  have:=qds ps (vL ns (q9 p L)) (2*b) (λ m hm=>by
   unfold vL at hm;obtain⟨i,hi,e⟩:=Y2 hm;rw[List.getElem_zipWith] at e;rw[Y1] at hi;have h1:=h (ns[i]'(by omega)) (Ur _);rw[<- e];split <;> omega) n hn
  rw[Uj,Q3]
  calc n<2*b*2^ps.length:=this
   _=b*(2^ps.length*2):=by rw[Q2 2 b,Qq,Q2 2]
def qg0(K:W.Frag):Sp:=λ vs H Q _=>∃(a:Addr)(as:List Addr)(Fs:List (List Pr))(L:List Nat),vs=[.ref a,vS L]/\SqL K H a (as.map V.ref)/\Paired (λ c (F:List Pr)=>SqT K H c (F.map vS)) as Fs/\(∀ F∈Fs,Fit F)/\L.length<=9 /\
 ∀ r H',qk H H'->H' r=some (.lst ((qaH L Fs).map λ n:Nat=>V.int n))->Q (.ref r) H'
theorem qcm:FnScope ["forms","letters","numbers","form"] ["forms","letters"] (qj vq):=scF
theorem ql3(F:Fun K "numbers_by" "numbers_by" vq f fd)(T:Txt mg)(Gc:Dp P w K mg base 1 fc fdc ["letters"] qe0 "row_count")(Gt:Dp P w K mg base 11 ft nE ["form","letters"] (qck K) "table_of"):FnOk P w K mg base CX0 12 f fd ["forms","letters"] (qg0 K):=by
 refine F.okd qcm (λ cdv A outer s H vs Q E hr h=>?_);obtain⟨D,as,Fs,L,rfl,hD,hp,hf,N2,q⟩:=h;have B0:Room 1 _:=hr.mono (by decide);refine⟨_,qc (qt (i:=2) qcm.nd rfl (Or.inl rfl) (qp qm1 (zO (qa qf qb)) (qZ Gc.g B0 rfl Gc.m Gc.e Gc.b .nil qG (qa (pv 1) qb))))
  (qc (yq Jk rfl (zU (pv 0)) (qr (i:=3) qcm.nd rfl (Or.inl rfl))
   (qe (qjO (i:=2) (n:=2) qcm.nd rfl rfl (csc (NY:=["number","truth"]) (o:=2) (caps:=[]) [] rfl (by simp) y7 rfl) rfl
    (qeD rfl T.zip (qa (pv 2) (qa (qZ Gt.g hr rfl Gt.m Gt.e Gt.b .nil qG (qa (pv 3) (qa (pv 1) qb))) qb)))
    (λ C s H fp pins=>qE (qr (i:=0) qmB rfl (Or.inl rfl)) (qE (qr (i:=1) qmB rfl (Or.inl rfl)) zC)) (λ _=>rfl) (λ _=>rfl)
    (λ C s H fp pins=>zt) (λ C s H fp pins=>qp zz (qp vQ qf (pv 0)) (qfk (jX (pv 1)) qf qf)))))
  (qe (qo (pv 2)))),?_⟩
 have pL:2^L.length<=512:=vF N2;refine⟨qB (by show 1<=_;decide),λ p0 oH=>?_⟩;refine⟨_,rfl,L,rfl,N2,p0,_,_,rfl,rfl,qd,?_,?_,?_,λ p1 O2=>?_⟩
 ·generalize 2^L.length=N at pL;omega
 ·generalize 2^L.length=N at pL;omega
 ·rw[Zv];exact qB (by show 1*_<=_;omega)
 rw[Zv,qky];have xL:=((qk.refl H).to oH (o:=.lst [V.int 0])).to O2 (o:=.lst (List.replicate (2^L.length) (V.int 0)));have e0:(upd (upd H p0 (.lst [V.int 0])) p1 (.lst (List.replicate (2^L.length) (V.int 0)))) p1=some (.lst ((List.replicate (2^L.length) 0).map λ n:Nat=>V.int n)):=by rw[qd,List.map_replicate];rfl
 have tJ:=xL.seq hD;have hp3:Paired (λ c (G:List Pr)=>SqT K _ c (G.map vS)) as Fs:=L2.Paired.mapP hp λ b G e=>xL.seqT e
 generalize upd (upd H p0 (.lst [V.int 0])) p1 (.lst (List.replicate (2^L.length) (V.int 0)))=H4 at xL tJ hp3 e0 ⊢;refine⟨_,rfl,D,rfl,⟨_,tJ⟩,?_⟩;refine qcz (K:=K) (xs:=as.map V.ref) (λ j σ H'=>∃(r:Addr)(v6:Option V),σ=[some (.ref D),some (vS L),some (.ref r),v6]/\qk H4 H'/\H' r=some (.lst (((Fs.take j).foldl (λ ns p=>vL ns (q9 p L)) (List.replicate (2^L.length) 0)).map λ n:Nat=>V.int n))) ⟨p1,none,rfl,qk.refl _,e0⟩ (λ i σ H' _ ⟨_,_,_,g,_⟩=>g.seq tJ) ?_ ?_
 ·rintro j x σ H5 hj ⟨r,v6,rfl,g5,e5⟩;obtain⟨c,hc,rfl⟩:=ql hj;obtain⟨G,hG,hcG⟩:=qaT hp3 j c hc;have fG:Fit G:=hf G (Yn hG);have ln:=qdc (L:=L) (Fs.take j) (List.replicate (2^L.length) 0) (XT ..);have ek:Fs.take (j+1)=Fs.take j++[G]:=ze hG;generalize hns:(Fs.take j).foldl (λ ns p=>vL ns (q9 p L)) (List.replicate (2^L.length) 0)=ns at ln e5;refine⟨_,rfl,_,rfl,_,rfl,c,G,L,rfl,g5.seqT hcG,fG.len,N2,λ rt H6 g6 e6=>?_⟩;have tl:=qP G L;refine⟨r,rt,rfl,⟨_,SqL.of (g6 _ _ e5)⟩,⟨_,SqL.of e6⟩,?_⟩;refine qeM (SqL.of (g6 _ _ e5)) (SqL.of e6) (by rw[U3,U3,ln,tl]) (λ i=>((vL ns (q9 G L)).take i).map λ n:Nat=>V.int n) rfl (λ i hi=>?_) ?_ ?_
  ·rw[U3] at hi;rw[U3,Ul];exact zi (by omega)
  ·intro i x y H7 D7 Y Z hx hy iQ W5 eK hY hZ;obtain⟨n,hn,rfl⟩:=ql hx;obtain⟨b,hb,rfl⟩:=ql hy;refine⟨_,_,rfl,_,_,rfl,rfl,⟨rfl,rfl⟩,?_⟩;refine⟨_,rfl,_,_,rfl,rfl,.inl ⟨by decide,by decide⟩,?_⟩;have st:=yf (f:=λ n:Nat=>V.int n) (vg (f:=λ(n:Nat)(b:Bool)=>2*n+if b then 1 else 0) hn hb);refine⟨_,rfl,b,rfl,?_⟩;cases b with
   |true =>
    refine j4 ⟨_,_,rfl,rfl,?_⟩;have ev:V.int (2*(n:Int)+1)=V.int (((2*n+if true=true then 1 else 0:Nat)):Int):=by congr 1
    show Y (V.int (2*(n:Int)+1)) H7
    rw[ev];exact hY _ _ W5 eK st
   |false =>
    refine yp ⟨_,_,rfl,rfl,?_⟩;have ev:V.int (2*(n:Int)+0)=V.int (((2*n+if false=true then 1 else 0:Nat)):Int):=by congr 1
    show Y (V.int (2*(n:Int)+0)) H7
    rw[ev];exact hY _ _ W5 eK st
  ·intro D7 H7 iQ eK W5;rw[XL (by rw[U3,qbG G ln,ln];exact Vd _)] at W5;refine⟨D7,_,rfl,g5.trans (g6.trans eK),?_⟩;rw[W5,ek,Z5,hns];rfl
 ·rintro σ H5 ⟨r,v6,rfl,g5,e5⟩;have lm:(as.map V.ref).length=Fs.length:=by rw[U3,hp.length]
  rw[lm,Ut] at e5;exact⟨_,rfl,q r H5 (xL.trans g5) e5⟩
theorem qnx(F:Fun K "put_in" "put_in" qdo f fd)(T:Txt mg)(Gl:Dp P w K mg base 1 fl nF ["form"] (jS K) "letters_of")(Ga:Dp P w K mg base 2 fa nG ["forms"] (qkw K) "letters_in_all")(Gt:Dp P w K mg base 11 ft nE ["form","letters"] (qck K) "table_of")(Gn:Dp P w K mg base 12 fn fdn ["forms","letters"] (qg0 K) "numbers_by")(Gf:Dp P w K mg base 11 ff uE ["letters","table"] (qgX K) "form_of"):FnOk P w K mg base CX0 13 f fd ["form","forms"] (qkx K):=by
 refine F.okd qdr (λ cdv A outer s H vs Q E hr h=>?_);obtain⟨a,d,F,g,rfl,hF,⟨kvs,hd,hk⟩,fF,fg,N2,q⟩:=h;have B0:Room 1 _:=hr.mono (by decide);have cI:Room 2 _:=hr.mono (by decide);have rT:Room 11 _:=hr.mono (by decide);have hu:=jv hr;refine⟨_,qc (qt (i:=2) qdr.nd rfl (Or.inl rfl) (qZ Gl.g B0 rfl Gl.m Gl.e Gl.b .nil qG (qa (pv 0) qb)))
  (qc (qbj (i:=3) qdr.nd rfl rfl (csc (NY:=["letter","forms"]) (o:=1) (caps:=[1]) ["forms"] rfl
    (by intro x hx;rw[Zn.mp hx];exact .inl rfl) (kq rfl rfl rfl y7) rfl) rfl
   (kf (pv 2)) (λ C s H fp pins=>qr (i:=0) qor rfl (Or.inl rfl)) (λ C s H fp pins=>zt) (λ C s H fp pins=>qjn hu (pv 1) (pv 0) (zF (qa (pv 0) qb)) ⟨rfl,rfl,rfl,rfl⟩))
  (qc (qt (i:=4) qdr.nd rfl (Or.inl rfl) (qZ Ga.g cI rfl Ga.m Ga.e Ga.b .nil qG (qa (pv 3) qb)))
  (qc (qt (i:=5) qdr.nd rfl (Or.inr rfl) (qZ Gt.g rT rfl Gt.m Gt.e Gt.b .nil qG (qa (pv 0) (qa (pv 2) qb))))
  (qe (qo (qZ Gf.g rT rfl Gf.m Gf.e Gf.b .nil qG (qa (pv 4) (qa (zH (csc (NY:=["number","own_table"]) (o:=1) (caps:=[5]) ["own_table"] rfl
    (by intro x hx;rw[Zn.mp hx];exact .inl rfl) (kq rfl rfl rfl y7) rfl) rfl
   (zU (qZ Gn.g hr rfl Gn.m Gn.e Gn.b .nil qG (qa (pv 3) (qa (pv 4) qb)))) (λ C s H fp pins=>qr (i:=0) qos rfl (Or.inl rfl)) (λ C s H fp pins=>zt) (λ C s H fp pins=>qY (r:=qn6 K) zj (pv 1) (pv 0) (λ _ _=>rfl))) qb)))))))),?_⟩
 have own9:=fF.few;have hs:(qi (qg F)).cps.size=(qg F).length:=qD _;refine⟨_,rfl,a,F,rfl,hF,fF.flat,fF.len,by omega,λ H1 g1=>?_⟩;refine⟨_,rfl,_,rfl,?_⟩;rw[hs];refine ye (qg F).length (λ i ys H2=>∃ as:List Addr,ys=as.map V.ref/\Paired (λ c (G:List Pr)=>SqT K H1 c (G.map vS)∨H2 c=some (.tup (G.map vS))) as (((qg F).take i).map g)) (λ D hD=>⟨[],rfl,.nil⟩) ?_ ?_ (λ H2 sm=>rfl) ?_
 ·rintro i ys H2 hi ⟨as,rfl,hp⟩
  have:=hp.length
  rw[U3,Ul] at this;rw[U3];exact zi (by omega)
 ·rintro i ys H2 D Y Z hi hD t6 sm ⟨as,rfl,hp⟩ hY hZ;refine⟨hi,?_⟩;rintro x H' ⟨rfl,rfl⟩;rw[jp hi];refine⟨⟨rfl,rfl⟩,?_⟩;have W4:H' d=some (.dK kvs):=sm _ _ (g1 _ _ hd);refine⟨_,rfl,d,rfl,.inl ⟨kvs,.inl W4⟩,_,rfl,_,rfl,qB (by show 1<=_;decide),λ t ht=>?_⟩;have oQ:D≠t:=zp t6 ht;have fU:upd H' t (.tup [vS [(qg F)[i]]]) d=some (.dK kvs):=(qk.up ht) _ _ W4;refine⟨_,vN.k (k:=Sum.inr (qi [(qg F)[i]])) fU,?_⟩;have et:(qg F).take (i+1)=(qg F).take i++[(qg F)[i]]:=Xa hi;have keep:Paired (λ c (G:List Pr)=>SqT K H1 c (G.map vS)∨(upd (upd H' t (.tup [vS [(qg F)[i]]])) D (.lst (as.map V.ref++[(zP kvs (Sum.inr (qi [(qg F)[i]]))).getD (.ref t)]))) c=some (.tup (G.map vS))) as (((qg F).take i).map g):=
   L2.Paired.mapP hp λ b G e=>by
    rcases e with e|e
    ·exact .inl e
    ·right
     have hbD:b≠D:=qi8 e t6 (by intro z;cases z);rw[qv hbD,qv (zp e ht)];exact e
  rcases hk (qg F)[i] (Ur _) with⟨e1,e2⟩|⟨r,e1,e2⟩
  ·rw[e1] at keep ⊢;refine hY _ _ (by rw[qv oQ];exact t6) (sm.to ht) ⟨as++[t],by rw[Ja];rfl,?_⟩;rw[et,Ja];refine q8 keep (.cons (.inr ?_) .nil);rw[qv (Vz oQ),qd,e2];rfl
  ·rw[e1] at keep ⊢;refine hY _ _ (by rw[qv oQ];exact t6) (sm.to ht) ⟨as++[r],by rw[Ja];rfl,?_⟩;rw[et,Ja];exact q8 keep (.cons (.inl (g1.seqT e2)) .nil)
 rintro D H2 ys hD sm t6 ⟨as,rfl,hp⟩;rw[Ut] at hp;have x8:Paired (λ c (G:List Pr)=>SqT K H2 c (G.map vS)) as ((qg F).map g):=L2.Paired.mapP hp λ b G e=>e.elim (λ h=>sm.seqT h) (λ h=>SqT.of h)
 have la:as.length=(qg F).length:=by rw[x8.length,U3]
 have u0:=g1.trans sm;refine⟨_,rfl,D,as,_,rfl,SqL.of t6,x8,by rw[U3];omega,λ G hG=>?_,N2,λ H3 g3=>?_⟩
 ·obtain⟨c,hc,rfl⟩:=Q4.mp hG;exact fg c hc
 generalize hL:qR ((qg F).map g)=L at N2 ⊢;have pL:2^L.length<=512:=vF N2;have N9:=u0.trans g3;refine⟨_,rfl,_,rfl,a,F,qg F,rfl,N9.seqT hF,fF.len,own9,λ rt H4 g4 e4=>?_⟩;have tl:=qP F (qg F);have tN:=g3.trans g4;refine⟨_,rfl,_,rfl,_,rfl,D,as,(qg F).map g,L,rfl,SqL.of (tN _ _ t6),L2.Paired.mapP x8 (λ b G e=>tN.seqT e),λ G hG=>?_,N2,λ r H5 g5 e5=>?_⟩
 ·obtain⟨c,hc,rfl⟩:=Q4.mp hG;exact fg c hc
 have ln:=qdd L ((qg F).map g);have wD:=qds (L:=L) ((qg F).map g) (List.replicate (2^L.length) 0) 1 (λ n hn=>by rw[X1 hn];decide);rw[U3,Nat.one_mul] at wD;change ∀ n∈qaH L ((qg F).map g),n<2^(qg F).length at wD
 have uF:Fs.putIn F g=formOf L ((qaH L ((qg F).map g)).map λ n=>(q9 F (qg F)).getD n false):=by rw[Fs.putIn,hL]
 generalize qaH L ((qg F).map g)=ns at ln wD e5 uF;have gG:=N9.trans (g4.trans g5);refine⟨r,rfl,⟨_,SqL.of e5⟩,?_⟩;refine qbE (SqL.of e5) (λ j=>((ns.map λ n=>(q9 F (qg F)).getD n false).take j).map V.bl) rfl (λ j hj=>?_) ?_ ?_
 ·rw[U3,Ul,U3];exact zi (by omega)
 ·intro j x H7 D7 Y Z hx iQ W5 eK hY hZ;obtain⟨n,hn,rfl⟩:=ql hx;have c8:n<(q9 F (qg F)).length:=by rw[tl];exact wD n (Yn hn)
  refine⟨⟨rfl,rfl⟩,?_⟩;have at_:=yr (xs:=(q9 F (qg F)).map V.bl) (j:=n) (v:=.bl ((q9 F (qg F)).getD n false)) (by
   rw[Zt,Xy c8,Xj,Xy c8];rfl)
  refine⟨_,rfl,_,rfl,rt,_,_,_,rfl,rfl,SqL.of (eK _ _ (g5 _ _ e4)),at_,?_⟩;exact hY _ _ W5 eK (yf (f:=V.bl) (by rw[Zt,hn];rfl))
 ·intro D7 H7 iQ eK W5;rw[XL (by rw[U3,U3];exact Vd _)] at W5;refine⟨D7,_,L,rfl,SqL.of W5,by rw[U3,ln],N2,by rw[<- hL];exact qQ Qh (qT _),λ r8 H8 g8 e8=>?_⟩;refine q r8 H8 (gG.trans (eK.trans g8)) ?_;rw[e8,uF]
theorem qdt(d:Nat):qg [[d]]=[d]:=vW Qh (λ a b h=>Nat.lt_asymm h) (qT _) (by simp) λ x=>by rw[zm];simp
theorem qg1(d:Nat):Fit [[d]]:=⟨by simp,by simp,by rw[qdt];simp⟩
noncomputable def Tr.text:Tr->List Nat
 |.letter c=>[c]
 |.one=>[49]
 |.zero=>[48]
 |.neg t=>[126]++t.text
 |.bin op t u=>[40]++t.text++[op]++u.text++[41]
noncomputable def Tr.nodes:Tr->Int
 |.neg t=>1+t.nodes
 |.bin _ t u=>1+t.nodes+u.nodes
 |_=>1
noncomputable def Tr.lets:Tr->List Nat
 |.letter c=>[c]
 |.neg t=>t.lets
 |.bin _ t u=>uni t.lets u.lets
 |_=>[]
theorem Tr.text_len':∀ t:Tr,t.text.length+3<=4*t.wt
 |.letter _=>by show 1+3<=4*1;decide
 |.one=>by show 1+3<=4*1;decide
 |.zero=>by show 1+3<=4*1;decide
 |.neg t=>by
  have:=Tr.text_len' t
  show([126]++t.text).length+3<=4*(t.wt+1)
  rw[Zh,XW];omega
 |.bin op t u=>by
  have h1:=Tr.text_len' t;have h2:=Tr.text_len' u;show([40]++t.text++[op]++u.text++[41]).length+3<=4*(t.wt+u.wt)
  simp only[Zh,XW];omega
theorem Tr.text_len:∀ t:Tr,t.text.length<=4*t.wt
 |.letter _=>by show 1<=4*1;decide
 |.one=>by show 1<=4*1;decide
 |.zero=>by show 1<=4*1;decide
 |.neg t=>by
  have:=Tr.text_len t
  show([126]++t.text).length<=4*(t.wt+1)
  rw[Zh,XW];omega
 |.bin op t u=>by
  have h1:=Tr.text_len' t;have h2:=Tr.text_len' u;show([40]++t.text++[op]++u.text++[41]).length<=4*(t.wt+u.wt)
  simp only[Zh,XW];omega
theorem ql4(p q:List Nat):(uni p q).length<=p.length+q.length:=by
 rw[<- Zh];exact zW (m:=p++q) (qQ Qh (qT _)) λ c hc=>U1.mpr (qhP.mp hc)
theorem Tr.lets_len:∀ t:Tr,t.lets.length<=t.wt
 |.letter _=>Vd _
 |.one=>Ve _
 |.zero=>Ve _
 |.neg t=>Z6 (Tr.lets_len t)
 |.bin op t u=>Qy (ql4 _ _) (Nat.add_le_add (Tr.lets_len t) (Tr.lets_len u))
theorem Tr.lets_rise:∀ t:Tr,t.lets.Pairwise (·<·)
 |.letter _=>by simp[Tr.lets]
 |.one=>by simp[Tr.lets]
 |.zero=>by simp[Tr.lets]
 |.neg t=>Tr.lets_rise t
 |.bin op t u=>qT _
theorem Tr.mem_lets:∀ t:Tr,c∈t.lets ↔ t.Has c
 |.letter _=>Zn
 |.one=>⟨λ h=>(by cases h),λ h=>h.elim⟩
 |.zero=>⟨λ h=>(by cases h),λ h=>h.elim⟩
 |.neg t=>Tr.mem_lets t
 |.bin op t u=>qhP.trans (or_congr (Tr.mem_lets t) (Tr.mem_lets u))
def kA(t:Tr):Prop:=t=.one
def kN(t:Tr):Prop:=t=.zero
def kL(t:Tr):Prop:=∃ l,t=.letter l
def kO(t:Tr):Prop:=∃ u,t=.neg u
def kD(t:Tr):Prop:=∃ u v,t=.bin 38 u v
def kR(t:Tr):Prop:=∃ u v,t=.bin 124 u v
def kE(t:Tr):Prop:=∃ u v,t=.bin 43 u v
def kP(t:Tr):Prop:=∃ op u v,t=.bin op u v
def spV(f:Tr->V)(c:CA)(n:Nat)(κ:Tr->Prop):Sp:=λ vs H Q _=>∃(o:V)(t:Tr),vs=[o]/\qO c H t o/\t.ht<=n/\t.wt<=1000/\t.Of zD/\κ t/\∀ H',qk H H'->Q (f t) H'
abbrev tV(f:Tr->V)(c:CA)(n:Nat)(m:Str)(κd κr κe:Tr->Prop)(te:TE):TE:=(λ σ H Q=>yy c.always m (spV f c n kA) [] E0 te yT σ H Q∨(λ σ H Q=>yy c.never m (spV f c n kN) [] E0 te yT σ H Q∨(λ σ H Q=>yy c.letter m (spV f c n kL) [] E0 te yT σ H Q∨(λ σ H Q=>yy c.not m (spV f c n kO) [] E0 te yT σ H Q∨(λ σ H Q=>yy c.and m (spV f c n κd) [] E0 te yT σ H Q∨(λ σ H Q=>yy c.or m (spV f c n κr) [] E0 te yT σ H Q∨yy c.either m (spV f c n κe) [] E0 te yT σ H Q) σ H Q) σ H Q) σ H Q) σ H Q) σ H Q)
theorem dV(hl:∀ x y:V,List.lookup m [(("letter":Str),x)]=none/\List.lookup m [(("one":Str),x)]=none/\List.lookup m [(("one":Str),x),(("other":Str),y)]=none)(hd:∀ u v,κd (.bin 38 u v))(hr:∀ u v,κr (.bin 124 u v))(he:∀ u v,κe (.bin 43 u v))(h1:Dv (At σ0 H0) te o)(ob:qO c H0 t o)(ht:t.ht<=n)(hw:t.wt<=1000)(of:t.Of zD):
  Dv (At σ0 H0) (tV f c n m κd κr κe te) (f t):=by
 intro σ H Q hΓ q;have go:∀(κ:Tr->Prop)(C:Addr)(a dx:Addr)(fs:List (Str×V)),κ t->o=.ref a->H0 a=some (.ins C dx fs)->fs.lookup m=none->yy C m (spV f c n κ) [] E0 te yT σ H Q:=λ κ C a dx fs hκ eo ha hl =>
  h1 σ H _ hΓ λ H1 g1=>⟨a,dx,fs,eo,(hΓ.2.trans g1) _ _ ha,hl,o,t,rfl,ob.mono (hΓ.2.trans g1),ht,hw,of,hκ,λ H' g=>q H' (g1.trans g)⟩
 cases t with
 |one=>obtain⟨a,dx,e,h⟩:=ob;exact .inl (go kA _ a dx _ rfl e h rfl)
 |zero=>obtain⟨a,dx,e,h⟩:=ob;exact .inr (.inl (go kN _ a dx _ rfl e h rfl))
 |letter l=>obtain⟨a,dx,e,h⟩:=ob;exact .inr (.inr (.inl (go kL _ a dx _ ⟨l,rfl⟩ e h (hl _ .non).1)))
 |neg u=>obtain⟨a,dx,x,e,h,_⟩:=ob;exact .inr (.inr (.inr (.inl (go kO _ a dx _ ⟨u,rfl⟩ e h (hl _ .non).2.1))))
 |bin op u v =>
  obtain⟨a,dx,x,y,e,h,_⟩:=ob;rcases of.1 with rfl|rfl|rfl
  ·exact .inr (.inr (.inr (.inr (.inl (go κd _ a dx _ (hd u v) e h (hl _ _).2.2)))))
  ·exact .inr (.inr (.inr (.inr (.inr (.inl (go κr _ a dx _ (hr u v) e h (hl _ _).2.2))))))
  ·exact .inr (.inr (.inr (.inr (.inr (.inr (go κe _ a dx _ (he u v) e h (hl _ _).2.2))))))
structure MTxt(K:W.Frag)(c:CA)(m:Str)(fA fN fL fO fD fR fE:Addr):Prop where
 always:Meth K c.always m fA
 never:Meth K c.never m fN
 letter:Meth K c.letter m fL
 not:Meth K c.not m fO
 and:Meth K c.and m fD
 or:Meth K c.or m fR
 either:Meth K c.either m fE
structure VOk(P:Program)(w:World)(K:W.Frag)(mg:Str->Option Value)(base:Heap)(f:Tr->V)(c:CA)(n:Nat)(κd κr κe:Tr->Prop)(fA fN fL fO fD fR fE:Addr)(dA dN dL dO dD dR dE:FuncData):Prop where
 always:FnOk P w K mg base CX0 n fA dA ["self"] (spV f c n kA)
 never:FnOk P w K mg base CX0 n fN dN ["self"] (spV f c n kN)
 letter:FnOk P w K mg base CX0 n fL dL ["self"] (spV f c n kL)
 not:FnOk P w K mg base CX0 n fO dO ["self"] (spV f c n kO)
 and:FnOk P w K mg base CX0 n fD dD ["self"] (spV f c n κd)
 or:FnOk P w K mg base CX0 n fR dR ["self"] (spV f c n κr)
 either:FnOk P w K mg base CX0 n fE dE ["self"] (spV f c n κe)
theorem qar{X:Cx}{f:Tr->V}{c:CA}{n:Nat}{m:Str}{κd κr κe:Tr->Prop}{iL iN iP fA fN fL fO fD fR fE:Addr}{dA dN dL dO dD dR dE:FuncData}{o:Expr}{ta:TE}{apos pos:Pos}{pl:Sem Bool}(he:PE X o ta)(C:CTxt X.K c iL iN iP)(M:MTxt X.K c m fA fN fL fO fD fR fE)(G:VOk X.prog X.w X.K X.mg X.base f c n κd κr κe fA fN fL fO fD fR fE dA dN dL dO dD dR dE)(hr:Room n X.A)(bA:qh X.K dA ["self"] [])(bN:qh X.K dN ["self"] [])(bL:qh X.K dL ["self"] [])(bO:qh X.K dO ["self"] [])(bD:qh X.K dD ["self"] [])(bR:qh X.K dR ["self"] [])(bE:qh X.K dE ["self"] [])(ht:eval (.Call (.Attribute o m apos) [] [] pos) X.env=(do
   let ov <- eval o X.env
   standAt apos.atName
   let (f,first) <- holding [ov] (getMethod ov m pl)
   callWith pos f first (backTo pos (starEach [] X.env)) (backToKw pos (keywordEach [] X.env))):=by rfl):PE X (.Call (.Attribute o m apos) [] [] pos) (tV f c n m κd κr κe ta):=
 PE.or (qI he C.always M.always G.always hr bA .nil qG ht) (PE.or (qI he C.never M.never G.never hr bN .nil qG ht) (PE.or (qI he C.letter M.letter G.letter hr bL .nil qG ht) (PE.or (qI he C.not M.not G.not hr bO .nil qG ht) (PE.or (qI he C.and M.and G.and hr bD .nil qG ht) (PE.or (qI he C.or M.or G.or hr bR .nil qG ht) (qI he C.either M.either G.either hr bE .nil qG ht))))))
theorem vG(e:σ0[0]?=some (some (.ref a)))(h:H0 a=some (.ins C dx fs))(c:Cls K C)(n:NoAttr K C f)(l:fs.lookup f=some v):Dv (At σ0 H0) (qnV K (qfh 0) f) v:=λ σ H Q g q =>
 ⟨.ref a,by rw[g.1];exact e,a,C,dx,fs,v,rfl,g.2 _ _ h,c,n,l,q H (qk.refl H)⟩
theorem jr(st:Stb Γ)(h1:Dv Γ t1 (vS p))(h2:Dv Γ t2 (vS q))(hl:p.length+q.length<=100000):Dv Γ (tOp rAS t1 t2) (vS (p++q)):=λ σ H Q hΓ k =>
 h1 σ H _ hΓ λ H1 g1=>h2 σ H1 _ (st _ _ _ hΓ g1) λ H2 g2=>⟨qi p,qi q,rfl,rfl,by rw[qD,qD];exact qB hl,by rw[jO];exact k H2 (g1.trans g2)⟩
theorem qdu:("(":Str)=qi [40]:=by decide +kernel
theorem qam:(")":Str)=qi [41]:=by decide +kernel
theorem qkz:("+":Str)=qi [43]:=by decide +kernel
theorem qny:("":Str)=qi []:=by decide +kernel
noncomputable abbrev yb(t:Tr):V:=vS t.text
noncomputable abbrev vSz(t:Tr):V:=.int t.nodes
theorem qdM:FnScope ["self"] ["self"] (qj yL):=scF
theorem qe1:FnScope ["self"] ["self"] (qj je):=scF
theorem qdN:FnScope ["self"] ["self"] (qj yO):=scF
theorem qg2:FnScope ["self"] ["self"] (qj vt):=scF
theorem qg3:FnScope ["self"] ["self"] (qj vy):=scF
theorem qiR:FnScope ["self"] ["self"] (qj qah):=scF
theorem qdO:FnScope ["self"] ["self"] (qj yR):=scF
theorem qdP:FnScope ["self"] ["self"] (qj yM):=scF
theorem qe2:FnScope ["self"] ["self"] (qj jf):=scF
theorem qdQ:FnScope ["self"] ["self"] (qj yP):=scF
theorem qg4:FnScope ["self"] ["self"] (qj vv):=scF
theorem qf5:FnScope ["self"] ["self"] (qj jC):=scF
section
variable {c:CA}{iL iN iP fA fN fL fO fD fR fE fP:Addr}{dA dN dL dO dD dR dE dP:FuncData}{n:Nat}
theorem qf6(F:Fun K "text" "Always.text" yL fA dA):FnOk P w K mg base CX0 (n+1) fA dA ["self"] (spV yb c (n+1) kA):=by
 refine F.okd qdM (λ cdv A outer s H vs Q E hr h=>?_);obtain⟨o,t,rfl,ob,ht,hw,of,rfl,q⟩:=h;refine⟨_,qe (qo qm),?_⟩;rw[qkl];exact q H (qk.refl H)
theorem qg5(F:Fun K "text" "Never.text" je fN dN):FnOk P w K mg base CX0 (n+1) fN dN ["self"] (spV yb c (n+1) kN):=by
 refine F.okd qe1 (λ cdv A outer s H vs Q E hr h=>?_);obtain⟨o,t,rfl,ob,ht,hw,of,rfl,q⟩:=h;refine⟨_,qe (qo qm),?_⟩;rw[qgZ];exact q H (qk.refl H)
theorem qf7(C:CTxt K c iL iN iP)(F:Fun K "text" "Letter.text" yO fL dL):FnOk P w K mg base CX0 (n+1) fL dL ["self"] (spV yb c (n+1) kL):=by
 refine F.okd qdN (λ cdv A outer s H vs Q E hr h=>?_);obtain⟨o,t,rfl,ob,ht,hw,of,⟨l,rfl⟩,q⟩:=h;refine⟨_,qe (qo (zA (pv 0) (by rfl))),?_⟩;obtain⟨a,dx,rfl,h⟩:=ob;exact qaq (vG (K:=K) rfl h C.letter C.aLetter rfl) at0 q
theorem qkA(C:CTxt K c iL iN iP)(M:MTxt K c "text" fA fN fL fO fD fR fE)(G:VOk P w K mg base yb c n kD kR kE fA fN fL fO fD fR fE dA dN dL dO dD dR dE)(bA:qh K dA ["self"] [])(bN:qh K dN ["self"] [])(bL:qh K dL ["self"] [])(bO:qh K dO ["self"] [])(bD:qh K dD ["self"] [])(bR:qh K dR ["self"] [])(bE:qh K dE ["self"] [])(F:Fun K "text" "Not.text" vt fO dO):FnOk P w K mg base CX0 (n+1) fO dO ["self"] (spV yb c (n+1) kO):=by
 refine F.okd qg2 (λ cdv A outer s H vs Q E hr h=>?_);obtain⟨o,t,rfl,ob,ht,hw,of,⟨u,rfl⟩,q⟩:=h;have lX:u.wt+1<=1000:=hw;refine⟨_,qe (qo (qp qU qm (qar (zA (pv 0) (by rfl)) C M G hr bA bN bL bO bD bR bE))),?_⟩;rw[qnu];obtain⟨a,dx,x,rfl,h,ou⟩:=ob;exact qaq (jr qC dC (dV (f:=yb) (n:=n) (κd:=kD) (κr:=kR) (κe:=kE) (λ _ _=>⟨rfl,rfl,rfl⟩) (λ _ _=>⟨_,_,rfl⟩) (λ _ _=>⟨_,_,rfl⟩) (λ _ _=>⟨_,_,rfl⟩) (vG rfl h C.not C.aNot rfl) ou (XR ht) (by omega) of) (by have:=u.text_len;rw[XW];omega)) at0 q
theorem qkB(C:CTxt K c iL iN iP)(M:MTxt K c "text" fA fN fL fO fD fR fE)(G:VOk P w K mg base yb c n kD kR kE fA fN fL fO fD fR fE dA dN dL dO dD dR dE)(bA:qh K dA ["self"] [])(bN:qh K dN ["self"] [])(bL:qh K dL ["self"] [])(bO:qh K dO ["self"] [])(bD:qh K dD ["self"] [])(bR:qh K dR ["self"] [])(bE:qh K dE ["self"] [])(F:Fun K "text" "And.text" vy fD dD):FnOk P w K mg base CX0 (n+1) fD dD ["self"] (spV yb c (n+1) kD):=by
 refine F.okd qg3 (λ cdv A outer s H vs Q E hr h=>?_);obtain⟨o,t,rfl,ob,ht,hw,of,⟨u,v,rfl⟩,q⟩:=h;refine⟨_,qe (qo (qp qU (qp qU (qp qU (qp qU qm (qar (zA (pv 0) (by rfl)) C M G hr bA bN bL bO bD bR bE)) qm) (qar (zA (pv 0) (by rfl)) C M G hr bA bN bL bO bD bR bE)) qm)),?_⟩;rw[qdu,qam,qkm];obtain⟨a,dx,x,y,rfl,h,ou,ov⟩:=ob;obtain⟨op3,fu,fv⟩:=of;have hm:max u.ht v.ht<=n:=XR ht;have lX:u.wt+v.wt<=1000:=hw;obtain⟨cB,n1,n2⟩:=C.bin 38;have l1:=u.text_len;have l2:=v.text_len;exact qaq (jr qC (jr qC (jr qC (jr qC dC (dV (f:=yb) (n:=n) (κd:=kD) (κr:=kR) (κe:=kE) (λ _ _=>⟨rfl,rfl,rfl⟩) (λ _ _=>⟨_,_,rfl⟩) (λ _ _=>⟨_,_,rfl⟩) (λ _ _=>⟨_,_,rfl⟩) (vG rfl h cB n1 rfl) ou (by omega) (by omega) fu) (by rw[XW];omega)) dC (by simp only[Zh,XW];omega)) (dV (f:=yb) (n:=n) (κd:=kD) (κr:=kR) (κe:=kE) (λ _ _=>⟨rfl,rfl,rfl⟩) (λ _ _=>⟨_,_,rfl⟩) (λ _ _=>⟨_,_,rfl⟩) (λ _ _=>⟨_,_,rfl⟩) (vG rfl h cB n2 rfl) ov (by omega) (by omega) fv) (by simp only[Zh,XW];omega)) dC (by simp only[Zh,XW];omega)) at0 q
theorem ql5(C:CTxt K c iL iN iP)(M:MTxt K c "text" fA fN fL fO fD fR fE)(G:VOk P w K mg base yb c n kD kR kE fA fN fL fO fD fR fE dA dN dL dO dD dR dE)(bA:qh K dA ["self"] [])(bN:qh K dN ["self"] [])(bL:qh K dL ["self"] [])(bO:qh K dO ["self"] [])(bD:qh K dD ["self"] [])(bR:qh K dR ["self"] [])(bE:qh K dE ["self"] [])(F:Fun K "text" "Or.text" qah fR dR):FnOk P w K mg base CX0 (n+1) fR dR ["self"] (spV yb c (n+1) kR):=by
 refine F.okd qiR (λ cdv A outer s H vs Q E hr h=>?_);obtain⟨o,t,rfl,ob,ht,hw,of,⟨u,v,rfl⟩,q⟩:=h;refine⟨_,qe (qo (qp qU (qp qU (qp qU (qp qU qm (qar (zA (pv 0) (by rfl)) C M G hr bA bN bL bO bD bR bE)) qm) (qar (zA (pv 0) (by rfl)) C M G hr bA bN bL bO bD bR bE)) qm)),?_⟩;rw[qdu,qam,qkn];obtain⟨a,dx,x,y,rfl,h,ou,ov⟩:=ob;obtain⟨op3,fu,fv⟩:=of;have hm:max u.ht v.ht<=n:=XR ht;have lX:u.wt+v.wt<=1000:=hw;obtain⟨cB,n1,n2⟩:=C.bin 124;have l1:=u.text_len;have l2:=v.text_len;exact qaq (jr qC (jr qC (jr qC (jr qC dC (dV (f:=yb) (n:=n) (κd:=kD) (κr:=kR) (κe:=kE) (λ _ _=>⟨rfl,rfl,rfl⟩) (λ _ _=>⟨_,_,rfl⟩) (λ _ _=>⟨_,_,rfl⟩) (λ _ _=>⟨_,_,rfl⟩) (vG rfl h cB n1 rfl) ou (by omega) (by omega) fu) (by rw[XW];omega)) dC (by simp only[Zh,XW];omega)) (dV (f:=yb) (n:=n) (κd:=kD) (κr:=kR) (κe:=kE) (λ _ _=>⟨rfl,rfl,rfl⟩) (λ _ _=>⟨_,_,rfl⟩) (λ _ _=>⟨_,_,rfl⟩) (λ _ _=>⟨_,_,rfl⟩) (vG rfl h cB n2 rfl) ov (by omega) (by omega) fv) (by simp only[Zh,XW];omega)) dC (by simp only[Zh,XW];omega)) at0 q
theorem qf8(C:CTxt K c iL iN iP)(M:MTxt K c "text" fA fN fL fO fD fR fE)(G:VOk P w K mg base yb c n kD kR kE fA fN fL fO fD fR fE dA dN dL dO dD dR dE)(bA:qh K dA ["self"] [])(bN:qh K dN ["self"] [])(bL:qh K dL ["self"] [])(bO:qh K dO ["self"] [])(bD:qh K dD ["self"] [])(bR:qh K dR ["self"] [])(bE:qh K dE ["self"] [])(F:Fun K "text" "Either.text" yR fE dE):FnOk P w K mg base CX0 (n+1) fE dE ["self"] (spV yb c (n+1) kE):=by
 refine F.okd qdO (λ cdv A outer s H vs Q E hr h=>?_);obtain⟨o,t,rfl,ob,ht,hw,of,⟨u,v,rfl⟩,q⟩:=h;refine⟨_,qe (qo (qp qU (qp qU (qp qU (qp qU qm (qar (zA (pv 0) (by rfl)) C M G hr bA bN bL bO bD bR bE)) qm) (qar (zA (pv 0) (by rfl)) C M G hr bA bN bL bO bD bR bE)) qm)),?_⟩;rw[qdu,qam,qkz];obtain⟨a,dx,x,y,rfl,h,ou,ov⟩:=ob;obtain⟨op3,fu,fv⟩:=of;have hm:max u.ht v.ht<=n:=XR ht;have lX:u.wt+v.wt<=1000:=hw;obtain⟨cB,n1,n2⟩:=C.bin 43;have l1:=u.text_len;have l2:=v.text_len;exact qaq (jr qC (jr qC (jr qC (jr qC dC (dV (f:=yb) (n:=n) (κd:=kD) (κr:=kR) (κe:=kE) (λ _ _=>⟨rfl,rfl,rfl⟩) (λ _ _=>⟨_,_,rfl⟩) (λ _ _=>⟨_,_,rfl⟩) (λ _ _=>⟨_,_,rfl⟩) (vG rfl h cB n1 rfl) ou (by omega) (by omega) fu) (by rw[XW];omega)) dC (by simp only[Zh,XW];omega)) (dV (f:=yb) (n:=n) (κd:=kD) (κr:=kR) (κe:=kE) (λ _ _=>⟨rfl,rfl,rfl⟩) (λ _ _=>⟨_,_,rfl⟩) (λ _ _=>⟨_,_,rfl⟩) (λ _ _=>⟨_,_,rfl⟩) (vG rfl h cB n2 rfl) ov (by omega) (by omega) fv) (by simp only[Zh,XW];omega)) dC (by simp only[Zh,XW];omega)) at0 q
theorem qf9(F:Fun K "size" "Always.size" yM fA dA):FnOk P w K mg base CX0 (n+1) fA dA ["self"] (spV vSz c (n+1) kA):=by
 refine F.okd qdP (λ cdv A outer s H vs Q E hr h=>?_);obtain⟨o,t,rfl,ob,ht,hw,of,rfl,q⟩:=h;refine⟨_,qe (qo qf),?_⟩;exact q H (qk.refl H)
theorem qg6(F:Fun K "size" "Never.size" jf fN dN):FnOk P w K mg base CX0 (n+1) fN dN ["self"] (spV vSz c (n+1) kN):=by
 refine F.okd qe2 (λ cdv A outer s H vs Q E hr h=>?_);obtain⟨o,t,rfl,ob,ht,hw,of,rfl,q⟩:=h;refine⟨_,qe (qo qf),?_⟩;exact q H (qk.refl H)
theorem qga(F:Fun K "size" "Letter.size" yP fL dL):FnOk P w K mg base CX0 (n+1) fL dL ["self"] (spV vSz c (n+1) kL):=by
 refine F.okd qdQ (λ cdv A outer s H vs Q E hr h=>?_);obtain⟨o,t,rfl,ob,ht,hw,of,⟨l,rfl⟩,q⟩:=h;exact⟨_,qe (qo qf),q H (qk.refl H)⟩
theorem qkC(C:CTxt K c iL iN iP)(M:MTxt K c "size" fA fN fL fO fD fR fE)(G:VOk P w K mg base vSz c n kP kP kP fA fN fL fO fD fR fE dA dN dL dO dD dR dE)(bA:qh K dA ["self"] [])(bN:qh K dN ["self"] [])(bL:qh K dL ["self"] [])(bO:qh K dO ["self"] [])(bD:qh K dD ["self"] [])(bR:qh K dR ["self"] [])(bE:qh K dE ["self"] [])(F:Fun K "size" "Not.size" vv fO dO):FnOk P w K mg base CX0 (n+1) fO dO ["self"] (spV vSz c (n+1) kO):=by
 refine F.okd qg4 (λ cdv A outer s H vs Q E hr h=>?_);obtain⟨o,t,rfl,ob,ht,hw,of,⟨u,rfl⟩,q⟩:=h;have lX:u.wt+1<=1000:=hw;refine⟨_,qe (qo (qp zz qf (qar (zA (pv 0) (by rfl)) C M G hr bA bN bL bO bD bR bE))),?_⟩;obtain⟨a,dx,x,rfl,h,ou⟩:=ob;exact qaq (dI0 qC dC (dV (f:=vSz) (n:=n) (κd:=kP) (κr:=kP) (κe:=kP) (λ _ _=>⟨rfl,rfl,rfl⟩) (λ _ _=>⟨_,_,_,rfl⟩) (λ _ _=>⟨_,_,_,rfl⟩) (λ _ _=>⟨_,_,_,rfl⟩) (vG rfl h C.not C.aNot rfl) ou (XR ht) (by omega) of)) at0 q
theorem qbM(C:CTxt K c iL iN iP)(M:MTxt K c "size" fA fN fL fO fD fR fE)(G:VOk P w K mg base vSz c n kP kP kP fA fN fL fO fD fR fE dA dN dL dO dD dR dE)(bA:qh K dA ["self"] [])(bN:qh K dN ["self"] [])(bL:qh K dL ["self"] [])(bO:qh K dO ["self"] [])(bD:qh K dD ["self"] [])(bR:qh K dR ["self"] [])(bE:qh K dE ["self"] [])(F:Fun K "size" "Pair.size" jC fP dP):FnOk P w K mg base CX0 (n+1) fP dP ["self"] (spV vSz c (n+1) kP):=by
 refine F.okd qf5 (λ cdv A outer s H vs Q E hr h=>?_);obtain⟨o,t,rfl,ob,ht,hw,of,⟨op,u,v,rfl⟩,q⟩:=h;refine⟨_,qe (qo (qp zz (qp zz qf (qar (zA (pv 0) (by rfl)) C M G hr bA bN bL bO bD bR bE)) (qar (zA (pv 0) (by rfl)) C M G hr bA bN bL bO bD bR bE))),?_⟩;obtain⟨a,dx,x,y,rfl,h,ou,ov⟩:=ob;obtain⟨op3,fu,fv⟩:=of;have hm:max u.ht v.ht<=n:=XR ht;have lX:u.wt+v.wt<=1000:=hw;obtain⟨cB,n1,n2⟩:=C.bin op;exact qaq (dI0 qC (dI0 qC dC (dV (f:=vSz) (n:=n) (κd:=kP) (κr:=kP) (κe:=kP) (λ _ _=>⟨rfl,rfl,rfl⟩) (λ _ _=>⟨_,_,_,rfl⟩) (λ _ _=>⟨_,_,_,rfl⟩) (λ _ _=>⟨_,_,_,rfl⟩) (vG rfl h cB n1 rfl) ou (by omega) (by omega) fu)) (dV (f:=vSz) (n:=n) (κd:=kP) (κr:=kP) (κe:=kP) (λ _ _=>⟨rfl,rfl,rfl⟩) (λ _ _=>⟨_,_,_,rfl⟩) (λ _ _=>⟨_,_,_,rfl⟩) (λ _ _=>⟨_,_,_,rfl⟩) (vG rfl h cB n2 rfl) ov (by omega) (by omega) fv)) at0 q
theorem yu:FnOk P w K mg base CX0 0 g fd ["self"] (spV f c 0 κ):=
 ⟨λ vs H Q E h=>by obtain⟨_,t,_,_,h,_⟩:=h;have:=t.ht1;omega,λ A outer s H args us vs Q E _ _ _ _ h=>by obtain⟨_,t,_,_,h,_⟩:=h;have:=t.ht1;omega⟩
theorem qgb(C:CTxt K c iL iN iP)(M:MTxt K c "text" fA fN fL fO fD fR fE)(bA:qh K dA ["self"] [])(bN:qh K dN ["self"] [])(bL:qh K dL ["self"] [])(bO:qh K dO ["self"] [])(bD:qh K dD ["self"] [])(bR:qh K dR ["self"] [])(bE:qh K dE ["self"] [])(FA:Fun K "text" "Always.text" yL fA dA)(FN:Fun K "text" "Never.text" je fN dN)(FL:Fun K "text" "Letter.text" yO fL dL)(FO:Fun K "text" "Not.text" vt fO dO)(FD:Fun K "text" "And.text" vy fD dD)(FR:Fun K "text" "Or.text" qah fR dR)(FE:Fun K "text" "Either.text" yR fE dE):
  ∀ n,VOk P w K mg base yb c n kD kR kE fA fN fL fO fD fR fE dA dN dL dO dD dR dE
 |0=>⟨yu,yu,yu,yu,yu,yu,yu⟩
 |n+1 =>
  have G:=qgb C M bA bN bL bO bD bR bE FA FN FL FO FD FR FE n
  ⟨qf6 FA,qg5 FN,qf7 C FL,qkA C M G bA bN bL bO bD bR bE FO,qkB C M G bA bN bL bO bD bR bE FD,ql5 C M G bA bN bL bO bD bR bE FR,qf8 C M G bA bN bL bO bD bR bE FE⟩
theorem qgc(C:CTxt K c iL iN iP)(M:MTxt K c "size" fA fN fL fO fP fP fP)(bA:qh K dA ["self"] [])(bN:qh K dN ["self"] [])(bL:qh K dL ["self"] [])(bO:qh K dO ["self"] [])(bP:qh K dP ["self"] [])(FA:Fun K "size" "Always.size" yM fA dA)(FN:Fun K "size" "Never.size" jf fN dN)(FL:Fun K "size" "Letter.size" yP fL dL)(FO:Fun K "size" "Not.size" vv fO dO)(FP:Fun K "size" "Pair.size" jC fP dP):
  ∀ n,VOk P w K mg base vSz c n kP kP kP fA fN fL fO fP fP fP dA dN dL dO dP dP dP
 |0=>⟨yu,yu,yu,yu,yu,yu,yu⟩
 |n+1 =>
  have G:=qgc C M bA bN bL bO bP FA FN FL FO FP n
  ⟨qf9 FA,qg6 FN,qga FL,qkC C M G bA bN bL bO bP bP bP FO,qbM C M G bA bN bL bO bP bP bP FP,qbM C M G bA bN bL bO bP bP bP FP,qbM C M G bA bN bL bO bP bP bP FP⟩
end
noncomputable def Tr.val(ρ:Nat->Bool):Tr->Bool
 |.letter c=>ρ c
 |.one=>true
 |.zero=>false
 |.neg t=>!t.val ρ
 |.bin op t u=>if op=38 then t.val ρ && u.val ρ else if op=124 then t.val ρ || u.val ρ else t.val ρ != u.val ρ
noncomputable def Tr.form:Tr->List Pr
 |.letter l=>[[l]]
 |.one=>[[]]
 |.zero=>[]
 |.neg t=>opp t.form
 |.bin op t u=>if op=38 then mult t.form u.form else if op=124 then join t.form u.form else added t.form u.form
theorem qiS(h:l∈ls):On ls [[l]]:=⟨⟨by simp,by simp⟩,λ p hp c hc=>by
 rw[Zn.mp hp] at hc;rw[Zn.mp hc];exact h⟩
theorem Tr.on:∀{t:Tr},t.Of ls->On ls t.form
 |.letter _,h=>qiS h
 |.one,_=>On.one ls
 |.zero,_=>On.nil ls
 |.neg t,h=>On.opp (Tr.on (t:=t) h)
 |.bin op t u,h=>by
  have h1:=Tr.on (t:=t) h.2.1;have h2:=Tr.on (t:=u) h.2.2;unfold Tr.form;split
  ·exact h1.mult h2
  ·split
   ·exact h1.join h2
   ·exact h1.added h2
theorem Tr.form_worth(ρ:Nat->Bool):∀{t:Tr},t.Of ls->qu ρ t.form=t.val ρ
 |.letter _,_=>by simp[Tr.form,Tr.val,qu]
 |.one,_=>by simp[Tr.form,Tr.val,qu]
 |.zero,_=>by simp[Tr.form,Tr.val,qu]
 |.neg t,h=>by
  have h1:=Tr.on (t:=t) h;show qu ρ (opp t.form)=!t.val ρ
  rw[qis ρ h1.vf,Tr.form_worth ρ (t:=t) h]
 |.bin op t u,h=>by
  have h1:=Tr.on (t:=t) h.2.1;have h2:=Tr.on (t:=u) h.2.2;have e1:=Tr.form_worth ρ (t:=t) h.2.1;have e2:=Tr.form_worth ρ (t:=u) h.2.2;unfold Tr.form Tr.val;split
  ·rw[qcM ρ h1.vf h2.vf,e1,e2]
  ·split
   ·rw[qcN ρ h1.vf h2.vf,e1,e2]
   ·rw[yU ρ h1.vf h2.vf,e1,e2]
theorem jh{t u:Tr}(h:∀ c,t.Has c->u.Has c):t.lets.length<=u.lets.length:=zW (qQ Qh t.lets_rise) λ c hc=>u.mem_lets.mpr (h c (t.mem_lets.mp hc))
theorem Tr.Of.sub:∀{t:Tr},t.Of ls->(∀ c,t.Has c->c∈us)->t.Of us
 |.letter l,_,h=>h l rfl
 |.neg t,o,h=>Tr.Of.sub (t:=t) o h
 |.bin _ t u,o,h=>⟨o.1,Tr.Of.sub (t:=t) o.2.1 λ c hc=>h c (.inl hc),Tr.Of.sub (t:=u) o.2.2 λ c hc=>h c (.inr hc)⟩
 |.one,_,_=>trivial
 |.zero,_,_=>trivial
def Szd(t:Tr):Prop:=t.Of zD/\(t.lets.length<=6∨t.wt<=10)
theorem Szd.neg(h:Szd (.neg t)):Szd t:=⟨h.1,h.2.elim .inl λ x=>.inr (Nat.le_of_succ_le x)⟩
theorem Szd.l(h:Szd (.bin op t u)):Szd t:=⟨h.1.2.1,h.2.elim (λ x=>.inl (Qy (jh (t:=t) (u:=.bin op t u) λ c hc=>.inl hc) x)) λ x=>.inr (by have:t.wt+u.wt<=10:=x;omega)⟩
theorem Szd.r(h:Szd (.bin op t u)):Szd u:=⟨h.1.2.2,h.2.elim (λ x=>.inl (Qy (jh (t:=u) (u:=.bin op t u) λ c hc=>.inr hc) x)) λ x=>.inr (by have:t.wt+u.wt<=10:=x;omega)⟩
theorem Tr.onl{t:Tr}(h:t.Of zD):On t.lets t.form:=Tr.on (Tr.Of.sub h λ c hc=>t.mem_lets.mpr hc)
theorem ql6:∀ a,a<=9->∀ b,b<=9->a+b<=10->a*2^a+b*2^b<=8000:=by decide
theorem qnz:∀ a,a<=6->a*2^a<=384:=by decide
theorem Szd.flat(h:Szd (.bin op t u)):t.form.flatten.length+u.form.flatten.length<=4000:=by
 have f1:=(Tr.onl h.1.2.1).flat2 t.lets_rise;have f2:=(Tr.onl h.1.2.2).flat2 u.lets_rise;have l1:=t.lets_len;have l2:=u.lets_len;rcases h.2 with x|x
 ·have a1:=qnz t.lets.length (Qy (jh (t:=t) (u:=.bin op t u) λ c hc=>.inl hc) x);have a2:=qnz u.lets.length (Qy (jh (t:=u) (u:=.bin op t u) λ c hc=>.inr hc) x);omega
 ·have hx:t.wt+u.wt<=10:=x;have p1:=t.wt_pos;have p2:=u.wt_pos
  have:=ql6 t.lets.length (by omega) u.lets.length (by omega) (by omega)
  omega
theorem qnA:Ok9 zD:=⟨qiQ,by decide⟩
def gA(t:Tr):Prop:=t=.one
def gN(t:Tr):Prop:=t=.zero
def gL(t:Tr):Prop:=∃ l,t=.letter l
def gO(t:Tr):Prop:=∃ u,t=.neg u
def gD(t:Tr):Prop:=∃ u v,t=.bin 38 u v
def gR(t:Tr):Prop:=∃ u v,t=.bin 124 u v
def gE(t:Tr):Prop:=∃ op u v,t=.bin op u v/\¬ op=38/\¬ op=124
def DT(Γ:St->Hp->Prop)(te:TE)(F:List Pr):Prop:=∀ σ H Q,Γ σ H->(∀ r H',qk H H'->H' r=some (.tup (F.map vS))->Q (.ref r) H')->te σ H Q
section
variable {Γ:St->Hp->Prop}{t1 t2:TE}{F G:List Pr}{g:List Pr->List Pr->List Pr}{g1:List Pr->List Pr}
theorem dT2(st:Stb Γ)(h1:DT Γ t1 F)(h2:DT Γ t2 G)(oF:On zD F)(oG:On zD G)(hf:F.flatten.length+G.flatten.length<=4000):DT Γ (qbV (sp2 K g) [] E0 (vJ t1 (vJ t2 yT))) (g F G):=λ σ H Q hΓ q =>
 h1 σ H _ hΓ λ r1 H1 g1 e1=>h2 σ H1 _ (st _ _ _ hΓ g1) λ r2 H2 g2 e2=>⟨r1,r2,F,G,zD,rfl,SqT.of (g2 _ _ e1),SqT.of e2,qnA,oF,oG,hf,λ r H' g e=>q r H' ((g1.trans g2).trans g) e⟩
theorem qpo(st:Stb Γ)(h1:DT Γ t1 F)(h2:DT Γ t2 G)(oF:On zD F)(oG:On zD G):DT Γ (qbV (qgY K g) [] E0 (vJ t1 (vJ t2 yT))) (g F G):=λ σ H Q hΓ q =>
 h1 σ H _ hΓ λ r1 H1 g1 e1=>h2 σ H1 _ (st _ _ _ hΓ g1) λ r2 H2 g2 e2=>⟨r1,r2,F,G,zD,rfl,SqT.of (g2 _ _ e1),SqT.of e2,qnA,oF,oG,λ r H' g e=>q r H' ((g1.trans g2).trans g) e⟩
theorem dT1(h1:DT Γ t1 F)(oF:On zD F):DT Γ (qbV (sp1 K g1) [] E0 (vJ t1 yT)) (g1 F):=λ σ H Q hΓ q =>
 h1 σ H _ hΓ λ r1 H1 g1 e1=>⟨r1,F,zD,rfl,SqT.of e1,qnA,oF,λ r H' g e=>q r H' (g1.trans g) e⟩
theorem qhV(h:DT Γ t1 F)(hΓ:Γ σ H)(k:∀ r H',qk H H'->H' r=some (.tup (F.map vS))->D.rt (.ref r) H'):qlj t1 D σ H:=h σ H _ hΓ k
end
def js(K:W.Frag)(c:CA)(n:Nat)(κ:Tr->Prop):Sp:=λ vs H Q _=>∃(o:V)(t:Tr),vs=[o]/\qO c H t o/\t.ht<=n/\Szd t/\κ t/\∀ r H',qk H H'->H' r=some (.tup (t.form.map vS))->Q (.ref r) H'
abbrev tFm(K:W.Frag)(c:CA)(n:Nat)(te:TE):TE:=(λ σ H Q=>yy c.always "form" (js K c n gA) [] E0 te yT σ H Q∨(λ σ H Q=>yy c.never "form" (js K c n gN) [] E0 te yT σ H Q∨(λ σ H Q=>yy c.letter "form" (js K c n gL) [] E0 te yT σ H Q∨(λ σ H Q=>yy c.not "form" (js K c n gO) [] E0 te yT σ H Q∨(λ σ H Q=>yy c.and "form" (js K c n gD) [] E0 te yT σ H Q∨(λ σ H Q=>yy c.or "form" (js K c n gR) [] E0 te yT σ H Q∨yy c.either "form" (js K c n gE) [] E0 te yT σ H Q) σ H Q) σ H Q) σ H Q) σ H Q) σ H Q)
theorem dfm(h1:Dv (At σ0 H0) te o)(ob:qO c H0 t o)(ht:t.ht<=n)(sz:Szd t):
  DT (At σ0 H0) (tFm K c n te) t.form:=by
 intro σ H Q hΓ q;have go:∀(κ:Tr->Prop)(C:Addr)(a dx:Addr)(fs:List (Str×V)),κ t->o=.ref a->H0 a=some (.ins C dx fs)->fs.lookup ("form":Str)=none->yy C "form" (js K c n κ) [] E0 te yT σ H Q:=λ κ C a dx fs hκ eo ha hl =>
  h1 σ H _ hΓ λ H1 g1=>⟨a,dx,fs,eo,(hΓ.2.trans g1) _ _ ha,hl,o,t,rfl,ob.mono (hΓ.2.trans g1),ht,sz,hκ,λ r H' g e=>q r H' (g1.trans g) e⟩
 cases t with
 |one=>obtain⟨a,dx,e,h⟩:=ob;exact .inl (go gA _ a dx _ rfl e h rfl)
 |zero=>obtain⟨a,dx,e,h⟩:=ob;exact .inr (.inl (go gN _ a dx _ rfl e h rfl))
 |letter l=>obtain⟨a,dx,e,h⟩:=ob;exact .inr (.inr (.inl (go gL _ a dx _ ⟨l,rfl⟩ e h rfl)))
 |neg u=>obtain⟨a,dx,x,e,h,_⟩:=ob;exact .inr (.inr (.inr (.inl (go gO _ a dx _ ⟨u,rfl⟩ e h rfl))))
 |bin op u v =>
  obtain⟨a,dx,x,y,e,h,_⟩:=ob;by_cases e38:op=38
  ·rw[CA.bin,V4 e38] at h;exact .inr (.inr (.inr (.inr (.inl (go gD _ a dx _ ⟨u,v,by rw[e38]⟩ e h rfl)))))
  ·by_cases e124:op=124
   ·rw[CA.bin,V5 e38,V4 e124] at h;exact .inr (.inr (.inr (.inr (.inr (.inl (go gR _ a dx _ ⟨u,v,by rw[e124]⟩ e h rfl))))))
   ·rw[CA.bin,V5 e38,V5 e124] at h;exact .inr (.inr (.inr (.inr (.inr (.inr (go gE _ a dx _ ⟨op,u,v,rfl,e38,e124⟩ e h rfl))))))
structure FTxt(K:W.Frag)(c:CA)(fA fN fL fO fD fR fE:Addr):Prop where
 always:Meth K c.always "form" fA
 never:Meth K c.never "form" fN
 letter:Meth K c.letter "form" fL
 not:Meth K c.not "form" fO
 and:Meth K c.and "form" fD
 or:Meth K c.or "form" fR
 either:Meth K c.either "form" fE
structure FOk(P:Program)(w:World)(K:W.Frag)(mg:Str->Option Value)(base:Heap)(c:CA)(n:Nat)(fA fN fL fO fD fR fE:Addr)(dA dN dL dO dD dR dE:FuncData):Prop where
 always:FnOk P w K mg base CX0 (n+13) fA dA ["self"] (js K c n gA)
 never:FnOk P w K mg base CX0 (n+13) fN dN ["self"] (js K c n gN)
 letter:FnOk P w K mg base CX0 (n+13) fL dL ["self"] (js K c n gL)
 not:FnOk P w K mg base CX0 (n+13) fO dO ["self"] (js K c n gO)
 and:FnOk P w K mg base CX0 (n+13) fD dD ["self"] (js K c n gD)
 or:FnOk P w K mg base CX0 (n+13) fR dR ["self"] (js K c n gR)
 either:FnOk P w K mg base CX0 (n+13) fE dE ["self"] (js K c n gE)
theorem qdv{X:Cx}{c:CA}{n:Nat}{iL iN iP fA fN fL fO fD fR fE:Addr}{dA dN dL dO dD dR dE:FuncData}{o:Expr}{ta:TE}{apos pos:Pos}{pl:Sem Bool}(he:PE X o ta)(C:CTxt X.K c iL iN iP)(M:FTxt X.K c fA fN fL fO fD fR fE)(G:FOk X.prog X.w X.K X.mg X.base c n fA fN fL fO fD fR fE dA dN dL dO dD dR dE)(hr:Room (n+13) X.A)(bA:qh X.K dA ["self"] [])(bN:qh X.K dN ["self"] [])(bL:qh X.K dL ["self"] [])(bO:qh X.K dO ["self"] [])(bD:qh X.K dD ["self"] [])(bR:qh X.K dR ["self"] [])(bE:qh X.K dE ["self"] [])(ht:eval (.Call (.Attribute o "form" apos) [] [] pos) X.env=(do
   let ov <- eval o X.env
   standAt apos.atName
   let (f,first) <- holding [ov] (getMethod ov "form" pl)
   callWith pos f first (backTo pos (starEach [] X.env)) (backToKw pos (keywordEach [] X.env))):=by rfl):PE X (.Call (.Attribute o "form" apos) [] [] pos) (tFm X.K c n ta):=
 PE.or (qI he C.always M.always G.always hr bA .nil qG ht) (PE.or (qI he C.never M.never G.never hr bN .nil qG ht) (PE.or (qI he C.letter M.letter G.letter hr bL .nil qG ht) (PE.or (qI he C.not M.not G.not hr bO .nil qG ht) (PE.or (qI he C.and M.and G.and hr bD .nil qG ht) (PE.or (qI he C.or M.or G.or hr bR .nil qG ht) (qI he C.either M.either G.either hr bE .nil qG ht))))))
structure FFn(P:Program)(w:World)(K:W.Frag)(mg:Str->Option Value)(base:Heap)(fa fm fj fo:Addr)(da dm dj dp:FuncData):Prop where
 Ga:FnOk P w K mg base CX0 1 fa da ["one","other"] (qgY K added)
 ba:qh K da ["one","other"] []
 ka:W.keepIn K (.ref fa)=true
 ma:mg "added"=some (.ref fa)
 Gm:FnOk P w K mg base CX0 12 fm dm ["one","other"] (sp2 K mult)
 bm:qh K dm ["one","other"] []
 km:W.keepIn K (.ref fm)=true
 mm:mg "multiplied"=some (.ref fm)
 Gj:FnOk P w K mg base CX0 13 fj dj ["one","other"] (sp2 K join)
 bj:qh K dj ["one","other"] []
 kj:W.keepIn K (.ref fj)=true
 mj:mg "joined"=some (.ref fj)
 Go:FnOk P w K mg base CX0 2 fo dp ["form"] (sp1 K opp)
 bo:qh K dp ["form"] []
 ko:W.keepIn K (.ref fo)=true
 mo:mg "opposite"=some (.ref fo)
theorem qg7:FnScope ["self"] ["self"] (qj yN):=scF
theorem qiT:FnScope ["self"] ["self"] (qj jg):=scF
theorem qg8:FnScope ["self"] ["self"] (qj yQ):=scF
theorem ql7:FnScope ["self"] ["self"] (qj vw):=scF
theorem ql8:FnScope ["self"] ["self"] (qj vA):=scF
theorem qnB:FnScope ["self"] ["self"] (qj qai):=scF
theorem qg9:FnScope ["self"] ["self"] (qj yS):=scF
section
variable {c:CA}{iL iN iP fA fN fL fO fD fR fE fa fm fj fo:Addr}{dA dN dL dO dD dR dE da dm dj dp:FuncData}{n:Nat}
theorem qkD(F:Fun K "form" "Always.form" yN fA dA):FnOk P w K mg base CX0 (n+1+13) fA dA ["self"] (js K c (n+1) gA):=by
 refine F.okd qg7 (λ cdv A outer s H vs Q E hr h=>?_);obtain⟨o,t,rfl,ob,ht,sz,rfl,q⟩:=h;refine⟨_,qe (qo (zF (qa qm qb))),?_⟩;exact⟨qB (by show 1<=_;decide),λ p hp=>q p _ (qk.up hp) (by rw[qd,ql2];rfl)⟩
theorem ql9(F:Fun K "form" "Never.form" jg fN dN):FnOk P w K mg base CX0 (n+1+13) fN dN ["self"] (js K c (n+1) gN):=by
 refine F.okd qiT (λ cdv A outer s H vs Q E hr h=>?_);obtain⟨o,t,rfl,ob,ht,sz,rfl,q⟩:=h;refine⟨_,qe (qo (zF qb)),?_⟩;exact⟨Ve _,λ p hp=>q p _ (qk.up hp) qd⟩
theorem qkE(C:CTxt K c iL iN iP)(F:Fun K "form" "Letter.form" yQ fL dL):FnOk P w K mg base CX0 (n+1+13) fL dL ["self"] (js K c (n+1) gL):=by
 refine F.okd qg8 (λ cdv A outer s H vs Q E hr h=>?_);obtain⟨o,t,rfl,ob,ht,sz,⟨l,rfl⟩,q⟩:=h;refine⟨_,qe (qo (zF (qa (zA (pv 0) rfl) qb))),?_⟩;obtain⟨a,dx,rfl,h⟩:=ob;exact vG (K:=K) rfl h C.letter C.aLetter rfl _ _ _ at0 λ H1 g1=>⟨qB (by show 1<=_;decide),λ p hp=>q p _ (g1.to hp) qd⟩
theorem qot(C:CTxt K c iL iN iP)(M:FTxt K c fA fN fL fO fD fR fE)(G:FOk P w K mg base c n fA fN fL fO fD fR fE dA dN dL dO dD dR dE)(N:FFn P w K mg base fa fm fj fo da dm dj dp)(bA:qh K dA ["self"] [])(bN:qh K dN ["self"] [])(bL:qh K dL ["self"] [])(bO:qh K dO ["self"] [])(bD:qh K dD ["self"] [])(bR:qh K dR ["self"] [])(bE:qh K dE ["self"] [])(F:Fun K "form" "Not.form" vw fO dO):FnOk P w K mg base CX0 (n+1+13) fO dO ["self"] (js K c (n+1) gO):=by
 refine F.okd ql7 (λ cdv A outer s H vs Q E hr h=>?_);obtain⟨o,t,rfl,ob,ht,sz,⟨u,rfl⟩,q⟩:=h;have C7:Room (n+13) _:=hr.mono (by omega);have cI:Room 2 _:=hr.mono (by omega);refine⟨_,qe (qo (qZ N.Go cI (by rfl) N.mo N.ko N.bo .nil qG (qa (qdv (zA (pv 0) (by rfl)) C M G C7 bA bN bL bO bD bR bE) qb))),?_⟩;obtain⟨a,dx,x,rfl,h,ou⟩:=ob;exact qhV (dT1 (dfm (n:=n) (vG rfl h C.not C.aNot rfl) ou (XR ht) sz.neg) (Tr.on (t:=u) sz.1)) at0 q
theorem qou(C:CTxt K c iL iN iP)(M:FTxt K c fA fN fL fO fD fR fE)(G:FOk P w K mg base c n fA fN fL fO fD fR fE dA dN dL dO dD dR dE)(N:FFn P w K mg base fa fm fj fo da dm dj dp)(bA:qh K dA ["self"] [])(bN:qh K dN ["self"] [])(bL:qh K dL ["self"] [])(bO:qh K dO ["self"] [])(bD:qh K dD ["self"] [])(bR:qh K dR ["self"] [])(bE:qh K dE ["self"] [])(F:Fun K "form" "And.form" vA fD dD):FnOk P w K mg base CX0 (n+1+13) fD dD ["self"] (js K c (n+1) gD):=by
 refine F.okd ql8 (λ cdv A outer s H vs Q E hr h=>?_);obtain⟨o,t,rfl,ob,ht,sz,⟨u,v,rfl⟩,q⟩:=h;have C7:Room (n+13) _:=hr.mono (by omega);have rQ:Room 12 _:=hr.mono (by omega);refine⟨_,qe (qo (qZ N.Gm rQ (by rfl) N.mm N.km N.bm .nil qG (qa (qdv (zA (pv 0) (by rfl)) C M G C7 bA bN bL bO bD bR bE) (qa (qdv (zA (pv 0) (by rfl)) C M G C7 bA bN bL bO bD bR bE) qb)))),?_⟩;obtain⟨a,dx,x,y,rfl,h,ou,ov⟩:=ob;have hb:c.bin 38=c.and:=by rw[CA.bin,V4 rfl]
 rw[hb] at h;obtain⟨_,fu,fv⟩:=sz.1;have hm:max u.ht v.ht<=n:=XR ht;rw[Tr.form,V4 rfl] at q;exact qhV (dT2 qC (dfm (n:=n) (vG rfl h C.and C.aAnd.1 rfl) ou (by omega) sz.l) (dfm (n:=n) (vG rfl h C.and C.aAnd.2 rfl) ov (by omega) sz.r) (Tr.on (t:=u) fu) (Tr.on (t:=v) fv) sz.flat) at0 q
theorem qpp(C:CTxt K c iL iN iP)(M:FTxt K c fA fN fL fO fD fR fE)(G:FOk P w K mg base c n fA fN fL fO fD fR fE dA dN dL dO dD dR dE)(N:FFn P w K mg base fa fm fj fo da dm dj dp)(bA:qh K dA ["self"] [])(bN:qh K dN ["self"] [])(bL:qh K dL ["self"] [])(bO:qh K dO ["self"] [])(bD:qh K dD ["self"] [])(bR:qh K dR ["self"] [])(bE:qh K dE ["self"] [])(F:Fun K "form" "Or.form" qai fR dR):FnOk P w K mg base CX0 (n+1+13) fR dR ["self"] (js K c (n+1) gR):=by
 refine F.okd qnB (λ cdv A outer s H vs Q E hr h=>?_);obtain⟨o,t,rfl,ob,ht,sz,⟨u,v,rfl⟩,q⟩:=h;have C7:Room (n+13) _:=hr.mono (by omega);have rQ:Room 13 _:=hr.mono (by omega);refine⟨_,qe (qo (qZ N.Gj rQ (by rfl) N.mj N.kj N.bj .nil qG (qa (qdv (zA (pv 0) (by rfl)) C M G C7 bA bN bL bO bD bR bE) (qa (qdv (zA (pv 0) (by rfl)) C M G C7 bA bN bL bO bD bR bE) qb)))),?_⟩;obtain⟨a,dx,x,y,rfl,h,ou,ov⟩:=ob;have hb:c.bin 124=c.or:=by rw[CA.bin,V5 (by decide),V4 rfl]
 rw[hb] at h;obtain⟨_,fu,fv⟩:=sz.1;have hm:max u.ht v.ht<=n:=XR ht;rw[Tr.form,V5 (by decide),V4 rfl] at q;exact qhV (dT2 qC (dfm (n:=n) (vG rfl h C.or C.aOr.1 rfl) ou (by omega) sz.l) (dfm (n:=n) (vG rfl h C.or C.aOr.2 rfl) ov (by omega) sz.r) (Tr.on (t:=u) fu) (Tr.on (t:=v) fv) sz.flat) at0 q
theorem qkF(C:CTxt K c iL iN iP)(M:FTxt K c fA fN fL fO fD fR fE)(G:FOk P w K mg base c n fA fN fL fO fD fR fE dA dN dL dO dD dR dE)(N:FFn P w K mg base fa fm fj fo da dm dj dp)(bA:qh K dA ["self"] [])(bN:qh K dN ["self"] [])(bL:qh K dL ["self"] [])(bO:qh K dO ["self"] [])(bD:qh K dD ["self"] [])(bR:qh K dR ["self"] [])(bE:qh K dE ["self"] [])(F:Fun K "form" "Either.form" yS fE dE):FnOk P w K mg base CX0 (n+1+13) fE dE ["self"] (js K c (n+1) gE):=by
 refine F.okd qg9 (λ cdv A outer s H vs Q E hr h=>?_);obtain⟨o,t,rfl,ob,ht,sz,⟨op,u,v,rfl,iD,aE⟩,q⟩:=h;have C7:Room (n+13) _:=hr.mono (by omega);have rQ:Room 1 _:=hr.mono (by omega);refine⟨_,qe (qo (qZ N.Ga rQ (by rfl) N.ma N.ka N.ba .nil qG (qa (qdv (zA (pv 0) (by rfl)) C M G C7 bA bN bL bO bD bR bE) (qa (qdv (zA (pv 0) (by rfl)) C M G C7 bA bN bL bO bD bR bE) qb)))),?_⟩;obtain⟨a,dx,x,y,rfl,h,ou,ov⟩:=ob;have hb:c.bin op=c.either:=by rw[CA.bin,V5 iD,V5 aE]
 rw[hb] at h;obtain⟨_,fu,fv⟩:=sz.1;have hm:max u.ht v.ht<=n:=XR ht;rw[Tr.form,V5 iD,V5 aE] at q;exact qhV (qpo qC (dfm (n:=n) (vG rfl h C.either C.aEither.1 rfl) ou (by omega) sz.l) (dfm (n:=n) (vG rfl h C.either C.aEither.2 rfl) ov (by omega) sz.r) (Tr.on (t:=u) fu) (Tr.on (t:=v) fv)) at0 q
theorem qaU:FnOk P w K mg base CX0 (0+13) f fd ["self"] (js K c 0 κ):=
 ⟨λ vs H Q E h=>by obtain⟨_,t,_,_,h,_⟩:=h;have:=t.ht1;omega,λ A outer s H args us vs Q E _ _ _ _ h=>by obtain⟨_,t,_,_,h,_⟩:=h;have:=t.ht1;omega⟩
theorem qkG(C:CTxt K c iL iN iP)(M:FTxt K c fA fN fL fO fD fR fE)(N:FFn P w K mg base fa fm fj fo da dm dj dp)(bA:qh K dA ["self"] [])(bN:qh K dN ["self"] [])(bL:qh K dL ["self"] [])(bO:qh K dO ["self"] [])(bD:qh K dD ["self"] [])(bR:qh K dR ["self"] [])(bE:qh K dE ["self"] [])(FA:Fun K "form" "Always.form" yN fA dA)(FN:Fun K "form" "Never.form" jg fN dN)(FL:Fun K "form" "Letter.form" yQ fL dL)(FO:Fun K "form" "Not.form" vw fO dO)(FD:Fun K "form" "And.form" vA fD dD)(FR:Fun K "form" "Or.form" qai fR dR)(FE:Fun K "form" "Either.form" yS fE dE):
  ∀ n,FOk P w K mg base c n fA fN fL fO fD fR fE dA dN dL dO dD dR dE
 |0=>⟨qaU,qaU,qaU,qaU,qaU,qaU,qaU⟩
 |n+1 =>
  have G:=qkG C M N bA bN bL bO bD bR bE FA FN FL FO FD FR FE n
  ⟨qkD FA,ql9 FN,qkE C FL,qot C M G N bA bN bL bO bD bR bE FO,qou C M G N bA bN bL bO bD bR bE FD,qpp C M G N bA bN bL bO bD bR bE FR,qkF C M G N bA bN bL bO bD bR bE FE⟩
end
abbrev Fr:=Nat×Option Tr
abbrev PSt:=List Fr×Option Tr
noncomputable def wn:List Fr->Tr->List Fr×Tr
 | [],t=>([],t)
 |fr::fs,t=>if fr.1=126 then wn fs (.neg t) else(fr::fs,t)
noncomputable def yZ(s:PSt):List Nat:=match s.2 with
 |none=>[48,49]++zD++[126,40]
 |some _=>match s.1 with
  | []=>[]
  |fr::_=>if fr.1=40 then [38,124,43] else [41]
noncomputable def jt(c:Nat):Tr:=if c=49 then .one else if c=48 then .zero else .letter c
noncomputable def stp(s:PSt)(c:Nat):PSt:=
 if c∈[126,40] then((c,none)::s.1,none)
 else if c∈[38,124,43] then(match s.1 with
  | []=>s
  |_::fs=>((c,s.2)::fs,none))
 else if c=41 then(match s.1,s.2 with
  |(op,some l)::fs,some r=>((wn fs (.bin op l r)).1,some (wn fs (.bin op l r)).2)
  |_,_=>s)
 else((wn s.1 (jt c)).1,some (wn s.1 (jt c)).2)
noncomputable def run:PSt->List Nat->Option PSt
 |s,[]=>some s
 |s,c::l=>if c∈yZ s then run (stp s c) l else none
theorem qe3:∀(l1 l2:List Nat)(s:PSt),run s (l1++l2)=(run s l1).bind λ s'=>run s' l2
 | [],_,_=>rfl
 |c::l1,l2,s=>by
  rw[Uv,run,run];split
  ·exact qe3 l1 l2 _
  ·rfl
theorem qdw:∀ c∈zD,c∈[48,49]++zD++[126,40]/\c∉[126,40]/\c∉[38,124,43]/\¬ c=41/\¬ c=49/\¬ c=48:=by decide
theorem qgd(h:c∈zD):jt c=.letter c:=by
 obtain⟨_,_,_,_,h1,h2⟩:=qdw c h;rw[jt,V5 h1,V5 h2]
theorem qaV{rest:List Nat}(h1:c∈[48,49]++zD++[126,40])(h2:c∉[126,40])(h3:c∉[38,124,43])(h4:¬ c=41):run (fs,none) (c::rest)=run ((wn fs (jt c)).1,some (wn fs (jt c)).2) rest:=by
 rw[run,V4 (show c∈yZ (fs,none) from h1),stp,V5 h2,V5 h3,V5 h4]
theorem qhW(h:¬ fr.1=126):wn (fr::fs) t=(fr::fs,t):=V5 h
theorem qbu:∀(t:Tr)(fs:List Fr)(rest:List Nat),t.Of zD->run (fs,none) (t.text++rest)=run ((wn fs t).1,some (wn fs t).2) rest
 |.letter c,fs,rest,h=>by
  obtain⟨h1,h2,h3,h4,_,_⟩:=qdw c h;show run (fs,none) (c::rest)=_
  rw[qaV h1 h2 h3 h4,qgd h]
 |.one,fs,rest,_=>by
  show run (fs,none) (49::rest)=_
  rw[qaV (by decide) (by decide) (by decide) (by decide)];rfl
 |.zero,fs,rest,_=>by
  show run (fs,none) (48::rest)=_
  rw[qaV (by decide) (by decide) (by decide) (by decide)];rfl
 |.neg t,fs,rest,h=>by
  show run (fs,none) (126::(t.text++rest))=_
  rw[run,V4 (show 126∈yZ (fs,none) from(by decide:126∈[48,49]++zD++[126,40])),stp,V4 (by decide),qbu t _ _ h];rfl
 |.bin op t u,fs,rest,h=>by
  obtain⟨E5,ht,hu⟩:=h;have e:(Tr.bin op t u).text++rest=40::(t.text++(op::(u.text++(41::rest)))):=by simp[Tr.text]
  have no:op∉[126,40]/\op∈[38,124,43]/\¬ op=126/\¬ op=40:=by rcases E5 with rfl|rfl|rfl <;> decide
  rw[e,run,V4 (show 40∈yZ (fs,none) from(by decide:40∈[48,49]++zD++[126,40])),stp,V4 (by decide),qbu t _ _ ht,qhW (show ¬ ((40,none):Fr).1=126 from by decide)];rw[run,V4 (show op∈yZ ((40,none)::fs,some t) from no.2.1),stp,V5 no.1,V4 no.2.1];show run ((op,some t)::fs,none) (u.text++(41::rest))=_
  rw[qbu u _ _ hu,qhW (show ¬ ((op,some t):Fr).1=126 from no.2.2.1)];rw[run,V4 (show 41∈yZ ((op,some t)::fs,some u) from by show 41∈(if op=40 then [38,124,43] else [41]);rw[V5 no.2.2.2];decide),stp,V5 (by decide),V5 (by decide),V4 rfl]
theorem qiU(h:t.Of zD):run ([],none) t.text=some ([],some t):=by
 have:=qbu t [] [] h
 rw[U4] at this;rw[this];rfl
def Fok(fr:Fr):Prop:=(fr.2=none/\(fr.1=126∨fr.1=40))∨(∃ l,fr.2=some l/\(fr.1=38∨fr.1=124∨fr.1=43))
structure Wfs(s:PSt):Prop where
 all:∀ fr∈s.1,Fok fr
 top:∀ r fr fs,s.2=some r->s.1=fr::fs->¬ fr.1=126
theorem qkH:∀{fs:List Fr}{t:Tr}{fr:Fr},fr∈(wn fs t).1->fr∈fs
 | [],_,_,h=>h
 |f::fs,t,fr,h=>by
  unfold wn at h;split at h
  ·exact Yl _ (qkH h)
  ·exact h
theorem qkI:∀{fs:List Fr}{t:Tr}{fr:Fr}{gs:List Fr},(wn fs t).1=fr::gs->¬ fr.1=126
 | [],_,_,_,h=>by cases h
 |f::fs,t,fr,gs,h=>by
  unfold wn at h;split at h
  ·exact qkI h
  ·rename_i hn;cases h
   exact hn
theorem qkJ(h:∀ fr∈fs,Fok fr):Wfs ((wn fs t).1,some (wn fs t).2):=⟨λ fr hf=>h fr (qkH hf),λ _ _ _ _ e=>qkI e⟩
theorem Wfs.step(h:Wfs s)(hl:c∈yZ s):Wfs (stp s c):=by
 unfold stp;split
 ·rename_i hc;have hc:c=126∨c=40:=by simpa using hc
  refine⟨λ fr hf=>?_,λ r fr fs e=>by cases e⟩;rcases Qi.mp hf with e|hf
  ·subst e;exact .inl ⟨rfl,hc⟩
  ·exact h.all fr hf
 ·split
  ·rename_i hc;have C3:c=38∨c=124∨c=43:=by simpa using hc
   obtain⟨fs,e⟩:=s;cases fs with
   |nil=>exact h
   |cons f fs =>
    cases e with
    |none=>exact absurd hl (by show ¬ c∈[48,49]++zD++[126,40];rcases C3 with rfl|rfl|rfl <;> decide)
    |some r =>
     refine⟨λ fr hf=>?_,λ r fr fs e=>by cases e⟩;rcases Qi.mp hf with e|hf
     ·subst e;exact .inr ⟨r,rfl,C3⟩
     ·exact h.all fr (Yl _ hf)
  ·split
   ·obtain⟨fs,e⟩:=s;split
    ·rename_i op l W6 r h1 h2;cases h1
     exact qkJ λ fr hf=>h.all fr (Yl _ hf)
    ·exact h
   ·exact qkJ h.all
theorem qpq:Wfs ([],none):=⟨λ _ h=>(by cases h),λ _ _ _ e=>by cases e⟩
theorem qhX:∀{l:List Nat}{s s':PSt},Wfs s->run s l=some s'->Wfs s'
 | [],_,_,h,e=>by cases e;exact h
 |c::l,s,s',h,e=>by
  rw[run] at e;split at e
  ·rename_i hl;exact qhX (h.step hl) e
  ·cases e
theorem qnC(h:run ([],none) L=some fin)(hi:i<L.length)(hs:run ([],none) (L.take i)=some s):L[i]∈yZ s/\run ([],none) (L.take (i+1))=some (stp s L[i]):=by
 have e:L=L.take i++(L[i]::L.drop (i+1)):=by rw[<- Xt hi,XZ]
 have h2:run s (L[i]::L.drop (i+1))=some fin:=by
  rw[e,qe3,hs] at h;exact h
 rw[run] at h2;have hl:L[i]∈yZ s:=by
  by_cases hl:L[i]∈yZ s
  ·exact hl
  ·rw[V5 hl] at h2;cases h2
 refine⟨hl,?_⟩;rw[Xa hi,qe3,hs];show run s [L[i]]=_
 rw[run,V4 hl];rfl
theorem qiV(h:Wfs s)(hl:41∈yZ s):∃ op l fs r,s=((op,some l)::fs,some r)/\(op=38∨op=124∨op=43):=by
 obtain⟨fs,e⟩:=s;cases e with
 |none=>exact absurd hl (by show ¬ 41∈[48,49]++zD++[126,40];decide)
 |some r =>
  cases fs with
  |nil=>exact absurd hl (by simp[yZ])
  |cons f fs =>
   obtain⟨op,o⟩:=f;have h1:=h.all (op,o) (Ze ..);have h2:=h.top r (op,o) fs rfl rfl;have h3:¬ op=40:=λ e=>by subst e;exact absurd hl (by show ¬ 41∈(if (40:Nat)=40 then [38,124,43] else [41]);decide)
   rcases h1 with⟨_,h1|h1⟩|⟨l,h1,h4⟩
   ·exact absurd h1 h2
   ·exact absurd h1 h3
   ·exact⟨op,l,fs,r,by rw[show o=some l from h1],h4⟩
theorem qge(hc:c∈[38,124,43])(hl:c∈yZ s):∃ fr fs r,s=(fr::fs,some r):=by
 have C3:c=38∨c=124∨c=43:=by simpa using hc
 obtain⟨fs,e⟩:=s;cases e with
 |none=>exact absurd hl (by show ¬ c∈[48,49]++zD++[126,40];rcases C3 with rfl|rfl|rfl <;> decide)
 |some r =>
  cases fs with
  |nil=>exact absurd hl (by simp[yZ])
  |cons f fs=>exact⟨f,fs,r,rfl⟩
theorem qha:∀(fs:List Fr)(t:Tr),(wn fs t).1.length<=fs.length
 | [],_=>Vd _
 |f::fs,t=>by
  unfold wn;split
  ·exact Z6 (qha fs _)
  ·exact Vd _
theorem qma(s:PSt)(c:Nat):(stp s c).1.length<=s.1.length+1:=by
 unfold stp;split
 ·exact Vd _
 ·split
  ·obtain⟨fs,e⟩:=s;cases fs with
   |nil=>exact Vg _
   |cons f fs=>exact Vg _
  ·split
   ·obtain⟨fs,e⟩:=s;split
    ·rename_i op l W6 r h1 h2;cases h1
     exact Z6 (Z6 (qha _ _))
    ·exact Vg _
   ·exact Z6 (qha _ _)
def zK(H H':Hp):Prop:=∀ b o,H b=some o->(∀ xs,o≠.lst xs)->H' b=some o
theorem k8(g:qk H H'):zK H H':=λ _ _ e _=>g _ _ e
theorem zK.trans(a:zK H H1)(b:zK H1 H2):zK H H2:=λ _ _ e n=>b _ _ (a _ _ e n) n
theorem zK.updL(h:H l=some (.lst xs)):zK H (upd H l o):=λ b p e n=>by
 have:b≠l:=λ q=>by rw[q,h] at e;cases e;exact n xs rfl
 rw[qv this];exact e
def But(a:Addr)(H H':Hp):Prop:=∀ b o,b≠a->H b=some o->H' b=some o
theorem But.refl(a:Addr)(H:Hp):But a H H:=λ _ _ _ e=>e
theorem But.trans(h:But a H H1)(g:But a H1 H2):But a H H2:=λ _ _ n e=>g _ _ n (h _ _ n e)
theorem zL(g:qk H H'):But a H H':=λ _ _ _ e=>g _ _ e
theorem But.upd{a:Addr}{H H':Hp}{o:HO}(g:But a H H'):But a H (upd H' a o):=λ b p n e=>by rw[qv n];exact g _ _ n e
theorem But.same(g:But a H H')(g0:qk H0 H)(f:H0 a=none):qk H0 H':=λ b o e=>g b o (λ q=>by rw[q,f] at e;cases e) (g0 _ _ e)
theorem qO.monoX(g:zK H H'):∀{t:Tr}{v:V},qO c H t v->qO c H' t v
 |.letter _,_,⟨a,dx,e,h⟩=>⟨a,dx,e,g _ _ h (λ _ z=>nomatch z)⟩
 |.one,_,⟨a,dx,e,h⟩=>⟨a,dx,e,g _ _ h (λ _ z=>nomatch z)⟩
 |.zero,_,⟨a,dx,e,h⟩=>⟨a,dx,e,g _ _ h (λ _ z=>nomatch z)⟩
 |.neg t,_,⟨a,dx,x,e,h,r⟩=>⟨a,dx,x,e,g _ _ h (λ _ z=>nomatch z),qO.monoX g r⟩
 |.bin op t u,_,⟨a,dx,x,y,e,h,r,r'⟩=>⟨a,dx,x,y,e,g _ _ h (λ _ z=>nomatch z),qO.monoX g r,qO.monoX g r'⟩
def qax(c:CA)(H:Hp):Option Tr->V->Prop
 |none,v=>v=.non
 |some t,v=>qO c H t v
theorem qax.monoX(g:zK H H'):∀{e:Option Tr}{v:V},qax c H e v->qax c H' e v
 |none,_,h=>h
 |some _,_,h=>qO.monoX g h
theorem qO.ref(h:qO c H t v):∃ a,v=.ref a:=by
 cases t with
 |letter l=>obtain⟨a,_,e,_⟩:=h;exact⟨a,e⟩
 |one=>obtain⟨a,_,e,_⟩:=h;exact⟨a,e⟩
 |zero=>obtain⟨a,_,e,_⟩:=h;exact⟨a,e⟩
 |neg u=>obtain⟨a,_,_,e,_⟩:=h;exact⟨a,e⟩
 |bin op u w=>obtain⟨a,_,_,_,e,_⟩:=h;exact⟨a,e⟩
theorem qax.non(h:qax c H e v):decide (v=.non)=e.isNone:=by
 cases e with
 |none=>rw[show v=.non from h];rfl
 |some t=>obtain⟨a,rfl⟩:=qO.ref h;rfl
def qkK(c:CA)(H:Hp)(fr:Fr)(x:V):Prop:=∃ a v,x=.ref a/\H a=some (.tup [vS [fr.1],v])/\qax c H fr.2 v
theorem qkK.monoX(h:qkK c H fr x)(g:zK H H'):qkK c H' fr x:=let ⟨a,v,e,h,k⟩:=h;⟨a,v,e,g _ _ h (λ _ z=>nomatch z),k.monoX g⟩
inductive FrmI(c:CA)(H:Hp):List V->List Fr->Prop where
 |nil:FrmI c H [] []
 |snoc {ws:List V} {fs:List Fr} {x:V} {fr:Fr} (h:FrmI c H ws fs) (k:qkK c H fr x):FrmI c H (ws++[x]) (fr::fs)
theorem FrmI.monoX(h:FrmI c H vs fs)(g:zK H H'):FrmI c H' vs fs:=by
 induction h with
 |nil=>exact .nil
 |snoc h k ih=>exact ih.snoc (k.monoX g)
theorem FrmI.len(h:FrmI c H vs fs):vs.length=fs.length:=by
 induction h with
 |nil=>rfl
 |snoc h k ih=>rw[Zh,XW,Uj,ih]
theorem FrmI.top(h:FrmI c H vs (fr::fs)):∃ ws x,vs=ws++[x]/\FrmI c H ws fs/\qkK c H fr x:=by
 cases h with
 |snoc h k=>exact⟨_,_,rfl,h,k⟩
theorem FrmI.empty(h:FrmI c H vs []):vs=[]:=by
 have:=h.len
 exact XC.mp this
theorem qpr{c A B:Prop}[Decidable c](hc:¬ c)(h:B):if c then A else B:=by rw[V5 hc];exact h
theorem ifT{c A B:Prop}[Decidable c](hc:c)(h:A):if c then A else B:=by rw[V4 hc];exact h
def qov(c:CA):Sp:=λ vs H Q _=>∃ s:Nat,vs=[vS [s]]/\∀ o H',qk H H'->qO c H' (jt s) o->Q o H'
def qow(c:CA):Sp:=λ vs H Q _=>∃(op:Nat)(x y:V)(t u:Tr),vs=[vS [op],x,y]/\(op=38∨op=124∨op=43)/\qO c H t x/\qO c H u y/\∀ o H',qk H H'->qO c H' (.bin op t u) o->Q o H'
theorem qox:FnScope ["sign"] ["sign"] (qj kX):=scF
theorem qoy:FnScope ["sign","one","other"] ["sign","one","other"] (qj qbK):=scF
theorem qmC:FnScope ["opened","saying"] ["opened","saying"] (qj kW):=scF
theorem qoz:FnScope ["opened","ended"] ["opened","ended"] (qj jo):=scF
theorem qmD:FnScope ["opened","ended","sign","waiting"] ["opened","ended","sign"] (qj qeW):=scF
theorem qel:FnScope ["text","opened","ended","place","sign"] ["text"] (qj qgU):=scF
section
variable {c:CA}{iL iN iP f:Addr}{fdL fdN fdP fd:FuncData}
theorem qoA(F:Fun K "single_of" "single_of" kX f fd)(C:CTxt K c iL iN iP)(mA:mg "Always"=some (.ref c.always))(mN:mg "Never"=some (.ref c.never))(mL:mg "Letter"=some (.ref c.letter))(GL:FnOk P w K mg base CX0 1 iL fdL ["self","letter"] (qal K "letter"))(bL:qh K fdL ["self","letter"] []):FnOk P w K mg base CX0 3 f fd ["sign"] (qov c):=by
 refine F.okd qox (λ cdv A outer s H vs Q E hr h=>?_);obtain⟨z,rfl,q⟩:=h;have cI:Room 2 _:=hr.mono (by decide);refine⟨_,(qc (zb (qx zg (pv 0) qm (qy _)) (qe (qo (qfM C.mAlways (by rfl) mA))) qF)
  (qc (zb (qx zg (pv 0) qm (qy _)) (qe (qo (qfM C.mNever (by rfl) mN))) qF)
  (qe (qo (qaa C.mLetter GL cI (by rfl) mL bL .nil qG (qa (pv 0) qb)))))),?_⟩
 rw[qkl,qgZ];refine yt (zy (jK qC (dvA rfl) dC)) at0 (λ hb H1 g1=>?_) (λ hb H1 g1=>?_)
 ·have e:z=49:=by simpa using Ui hb
  exact λ x dx hx N8 ne=>q _ _ ((g1.at (g1.free N8)).at (g1.free hx)) (by rw[jt,V4 e];exact⟨x,dx,rfl,qd⟩)
 have n1:¬ z=49:=λ e=>by simpa [e] using Zr hb
 refine yt (zy (jK qC (dvA rfl) dC)) at0 (λ hb H2 g2=>?_) (λ hb H2 g2=>?_)
 ·have e:z=48:=by simpa using Ui hb
  have g:=g1.trans g2;exact λ x dx hx N8 ne=>q _ _ ((g.at (g.free N8)).at (g.free hx)) (by rw[jt,V5 n1,V4 e];exact⟨x,dx,rfl,qd⟩)
 have n0:¬ z=48:=λ e=>by simpa [e] using Zr hb
 have g:=g1.trans g2;refine⟨_,rfl,λ x dx hx N8 ne=>⟨c.letter,x,dx,_,rfl,qd,C.letter,C.aLetter,rfl,?_⟩⟩;exact q _ _ (((g.at (g.free N8)).at (g.free hx)).at (g.free hx)) (by rw[jt,V5 n1,V5 n0];exact⟨x,dx,rfl,qd⟩)
theorem qoB(F:Fun K "pair_of" "pair_of" qbK f fd)(C:CTxt K c iL iN iP)(mD:mg "And"=some (.ref c.and))(mR:mg "Or"=some (.ref c.or))(mE:mg "Either"=some (.ref c.either))(GP:FnOk P w K mg base CX0 1 iP fdP ["self","one","other"] (qeZ K "one" "other"))(bP:qh K fdP ["self","one","other"] []):FnOk P w K mg base CX0 3 f fd ["sign","one","other"] (qow c):=by
 refine F.okd qoy (λ cdv A outer s H vs Q E hr h=>?_);obtain⟨op,o,p,t,u,rfl,E5,ob,pb,q⟩:=h;have cI:Room 2 _:=hr.mono (by decide);refine⟨_,(qc (zb (qx zg (pv 0) qm (qy _)) (qe (qo (qaa C.mAnd GP cI (by rfl) mD bP .nil qG (qa (pv 1) (qa (pv 2) qb))))) qF)
  (qc (zb (qx zg (pv 0) qm (qy _)) (qe (qo (qaa C.mOr GP cI (by rfl) mR bP .nil qG (qa (pv 1) (qa (pv 2) qb))))) qF)
  (qe (qo (qaa C.mEither GP cI (by rfl) mE bP .nil qG (qa (pv 1) (qa (pv 2) qb))))))),?_⟩
 rw[qkm,qkn];have fin:∀(Cl x dx:Addr)(H7:Hp),qk H H7->Cl=c.bin op->H7 x=none->H7 dx=none->Q (.ref x) (upd (upd (upd (upd H7 dx (.own x)) x (.ins Cl dx [])) x (.ins Cl dx [("one",o)])) x (.ins Cl dx [("one",o),("other",p)])):=λ Cl x dx H7 g7 e hx N8=>by
  subst e;have k:=(((g7.at (g7.free N8) (o:=.own x)).at (g7.free hx) (o:=.ins (c.bin op) dx [])).at (g7.free hx) (o:=.ins (c.bin op) dx [("one",o)])).at (g7.free hx) (o:=.ins (c.bin op) dx [("one",o),("other",p)]);exact q _ _ k ⟨x,dx,o,p,rfl,qd,ob.mono k,pb.mono k⟩
 refine yt (zy (jK qC (dvA rfl) dC)) at0 (λ hb H7 g7=>?_) (λ hb H7 g7=>?_)
 ·have e:op=38:=by simpa using Ui hb
  refine⟨_,rfl,_,rfl,λ x dx hx N8 ne=>⟨c.and,x,dx,_,_,rfl,qd,C.and,C.aAnd.1,C.aAnd.2,rfl,?_⟩⟩;exact fin c.and x dx H7 g7 (by rw[CA.bin,V4 e]) hx N8
 have iD:¬ op=38:=λ e=>by simpa [e] using Zr hb
 refine yt (zy (jK qC (dvA rfl) dC)) at0 (λ hb H8 g8=>?_) (λ hb H8 g8=>?_)
 ·have e:op=124:=by simpa using Ui hb
  refine⟨_,rfl,_,rfl,λ x dx hx N8 ne=>⟨c.or,x,dx,_,_,rfl,qd,C.or,C.aOr.1,C.aOr.2,rfl,?_⟩⟩;exact fin c.or x dx H8 (g7.trans g8) (by rw[CA.bin,V5 iD,V4 e]) hx N8
 have aE:¬ op=124:=λ e=>by simpa [e] using Zr hb
 refine⟨_,rfl,_,rfl,λ x dx hx N8 ne=>⟨c.either,x,dx,_,_,rfl,qd,C.either,C.aEither.1,C.aEither.2,rfl,?_⟩⟩;exact fin c.either x dx H8 (g7.trans g8) (by rw[CA.bin,V5 iD,V5 aE]) hx N8
def qoC(c:CA):Sp:=λ vs H Q _=>∃(ao:Addr)(v:V)(ws:List V)(fs:List Fr)(t:Tr),vs=[.ref ao,v]/\H ao=some (.lst ws)/\FrmI c H ws fs/\qO c H t v/\∀ v' N5 H',But ao H H'->H' ao=some (.lst N5)->FrmI c H' N5 (wn fs t).1->qO c H' (wn fs t).2 v'->Q v' H'
theorem qoD(F:Fun K "with_nots" "with_nots" kW f fd)(T:Txt mg)(C:CTxt K c iL iN iP)(mO:mg "Not"=some (.ref c.not))(GN:FnOk P w K mg base CX0 1 iN fdN ["self","one"] (qal K "one"))(bN:qh K fdN ["self","one"] []):FnOk P w K mg base CX0 3 f fd ["opened","saying"] (qoC c):=by
 refine F.okd qmC (λ cdv A outer s H vs Q E hr h=>?_);obtain⟨ao,v,ws,fs,t,rfl,ho,fm,ob,q⟩:=h;have cI:Room 2 _:=hr.mono (by decide);refine⟨_,(qc (qfl Jk (PW.pt (qer (qx jM (qz qA (by rfl) T.len J9 (qa (pv 0) qb)) qf (qy _)) (qcb (qx zg (qY zr (qY zj (pv 0) (qaX jY qf) (λ _ _=>rfl)) qf (λ _ _=>rfl)) qm (qy _))))) (qc (ja (qey XE Yi Yj qez (pv 0)))
  (qe (qt (i:=1) qmC.nd rfl (Or.inl rfl) (qaa C.mNot GN cI (by rfl) mO bN .nil qG (qa (pv 1) qb))))))
  (qe (qo (pv 1)))),?_⟩
 rw[qnu];refine⟨λ μ σ H'=>∃(v':V)(N5:List V)(W6:List Fr)(t':Tr),σ=[some (.ref ao),some v']/\But ao H H'/\H' ao=some (.lst N5)/\FrmI c H' N5 W6/\qO c H' t' v'/\wn W6 t'=wn fs t/\μ=W6.length,⟨_,v,ws,fs,t,rfl,But.refl _ _,ho,fm,ob,rfl,rfl⟩,?_⟩;rintro μ σ H1 ⟨v',N5,W6,t',rfl,g1,G8,fm1,eQ,ew,rfl⟩;refine⟨_,rfl,ao,_,rfl,.inl (SqL.of G8),_,_,rfl,rfl,_,rfl,?_⟩;cases W6 with
 |nil =>
  have e:=fm1.empty;subst e;refine yp ?_;refine yp ?_;rw[wn] at ew;exact⟨_,rfl,q v' [] H1 g1 G8 (by rw[<- ew];exact .nil) (by rw[<- ew];exact eQ)⟩
 |cons fr W6 =>
  obtain⟨us,x,rfl,fu,kx⟩:=fm1.top;obtain⟨ax,vx,rfl,cO,ke⟩:=kx;refine ifT (by rw[Zh,XW];simp) ?_;refine⟨_,rfl,_,rfl,ao,_,_,_,rfl,rfl,SqL.of G8,vU us (.ref ax),ax,_,_,vS [fr.1],rfl,rfl,SqT.of cO,rfl,rfl,_,rfl,?_⟩;have ee:decide (vS [fr.1]=vS [126])=decide (fr.1=126):=by
   by_cases h:fr.1=126
   ·rw[h];simp
   ·rw[Jl h,Jl λ e=>h (by have:=qgD e;simpa using this)]
  rw[show decide (vS [fr.1]=V.str (qi [126]))=decide (fr.1=126) from ee];rw[wn] at ew;by_cases h126:fr.1=126
  ·rw[V4 h126] at ew;rw[Qa h126];refine j4 ?_;refine⟨λ σ' H'=>∃(v':V)(N5:List V)(t':Tr),σ'=[some (.ref ao),some v']/\But ao H H'/\H' ao=some (.lst N5)/\FrmI c H' N5 W6/\qO c H' t' v'/\wn W6 t'=wn fs t,?_,?_⟩
   ·rintro σ' H' ⟨v2,ws2,t2,e,b1,b2,b3,b4,b5⟩;exact⟨W6.length,Uk _,v2,ws2,W6,t2,e,b1,b2,b3,b4,b5,rfl⟩
   refine⟨_,rfl,.inl ⟨rfl,_,SqL.of G8⟩,ao,_,.ref ax,rfl,rfl,G8,qak us (.ref ax),?_⟩;rw[Yv];have x1:zK H1 (upd H1 ao (.lst us)):=zK.updL G8;refine⟨_,rfl,λ x dx hx N8 ne=>⟨c.not,x,dx,_,rfl,qd,C.not,C.aNot,rfl,?_⟩⟩;have k2:=((((qk.refl (upd H1 ao (.lst us))).at N8 (o:=.own x)).at ((qk.refl _).free hx) (o:=.ins c.not dx [])).at ((qk.refl _).free hx) (o:=.ins c.not dx [("one",v')]));refine⟨.ref x,us,.neg t',rfl,(g1.upd (o:=.lst us)).trans (zL k2),k2 _ _ qd,fu.monoX (x1.trans (k8 k2)),⟨x,dx,v',rfl,qd,eQ.monoX (x1.trans (k8 k2))⟩,ew⟩
  ·rw[V5 h126] at ew;rw[Jl h126];refine yp ?_;exact⟨_,rfl,q v' _ H1 g1 G8 (by rw[<- ew];exact fm1) (by rw[<- ew];exact eQ)⟩
def qoE(c:CA):Sp:=λ vs H Q _=>∃(ao:Addr)(v:V)(ws:List V)(s:PSt),vs=[.ref ao,v]/\H ao=some (.lst ws)/\FrmI c H ws s.1/\qax c H s.2 v/\∀ H',qk H H'->Q (vS (yZ s)) H'
theorem qps:("01":Str)=qi [48,49]:=by decide +kernel
theorem qmE:("~(":Str)=qi [126,40]:=by decide +kernel
theorem qoF(F:Fun K "signs_behind" "signs_behind" jo f fd)(T:Txt mg)(lQ:mg "LETTERS"=some (.str "abcpqrxyz" t1))(lP:mg "OPENING"=some (.str "~(" t2))(lV:mg "BETWEEN"=some (.str "&|+" t3)):FnOk P w K mg base CX0 1 f fd ["opened","ended"] (qoE c):=by
 refine F.okd qoz (λ cdv A outer s H vs Q E hr h=>?_);obtain⟨ao,v,ws,s,rfl,ho,fm,ea,q⟩:=h;refine⟨_,(qc (zb (qx qjh (pv 1) qby (qy _)) (qe (qo (qp qU (qp qU qm (yh (v:=.str "abcpqrxyz") (by rfl) lQ ⟨_,rfl⟩)) (yh (v:=.str "~(") (by rfl) lP ⟨_,rfl⟩)))) qF)
  (qc (zb (qx zg (qz qA (by rfl) T.len J9 (qa (pv 0) qb)) qf (qy _)) (qe (qo qm)) qF)
  (qe (qo (qfk (qx zg (qY zr (qY zj (pv 0) (qaX jY qf) (λ _ _=>rfl)) qf (λ _ _=>rfl)) qm (qy _)) (yh (v:=.str "&|+") (by rfl) lV ⟨_,rfl⟩) qm))))),?_⟩
 rw[qps,qf4,qmE,qny,qoo,qdu,qam];obtain⟨fs,e⟩:=s;refine⟨_,rfl,rfl,_,rfl,?_⟩;rw[ea.non];cases e with
 |none =>
  refine j4 ?_;refine⟨_,_,rfl,rfl,qB (by show 2+9<=_;decide),_,_,rfl,rfl,qB (by show 11+2<=_;decide),?_⟩;exact q H (qk.refl H)
 |some r =>
  refine yp ?_;refine⟨_,rfl,ao,_,rfl,.inl (SqL.of ho),rfl,_,rfl,?_⟩;cases fs with
  |nil =>
   have e:=fm.empty;subst e;refine j4 ?_;exact q H (qk.refl H)
  |cons fr fs =>
   obtain⟨us,x,rfl,fu,kx⟩:=fm.top;obtain⟨ax,vx,rfl,cO,ke⟩:=kx;refine qpr (by rw[Zh,XW];simp;omega) ?_;refine⟨_,rfl,_,rfl,ao,_,_,_,rfl,rfl,SqL.of ho,vU us (.ref ax),ax,_,_,vS [fr.1],rfl,rfl,SqT.of cO,rfl,rfl,_,rfl,?_⟩;have ee:decide (vS [fr.1]=vS [40])=decide (fr.1=40):=by
    by_cases h:fr.1=40
    ·rw[h];simp
    ·rw[Jl h,Jl λ e=>h (by have:=qgD e;simpa using this)]
   rw[show decide (vS [fr.1]=V.str (qi [40]))=decide (fr.1=40) from ee];have el:yZ (fr::fs,some r)=if fr.1=40 then [38,124,43] else [41]:=rfl
   by_cases h:fr.1=40
   ·rw[Qa h];rw[el,V4 h] at q;exact j4 (q H (qk.refl H))
   ·rw[Jl h];rw[el,V5 h] at q;exact yp (q H (qk.refl H))
def qoG(c:CA):Sp:=λ vs H Q _=>∃(ao:Addr)(v:V)(z:Nat)(ws:List V)(s:PSt),vs=[.ref ao,v,vS [z]]/\H ao=some (.lst ws)/\FrmI c H ws s.1/\qax c H s.2 v/\Wfs s/\z∈yZ s/\ws.length<=10000/\∀ v' N5 H',But ao H H'->H' ao=some (.lst N5)->FrmI c H' N5 (stp s z).1->qax c H' (stp s z).2 v'->Q v' H'
theorem qoH(F:Fun K "taken" "taken" qeW f fd)(lP:mg "OPENING"=some (.str "~(" t2))(lV:mg "BETWEEN"=some (.str "&|+" t3))(Gw:Dp P w K mg base 3 fw fdw ["opened","saying"] (qoC c) "with_nots")(Gp:Dp P w K mg base 3 fp uD ["sign","one","other"] (qow c) "pair_of")(Gs:Dp P w K mg base 3 fs_ uC ["sign"] (qov c) "single_of"):FnOk P w K mg base CX0 4 f fd ["opened","ended","sign"] (qoG c):=by
 refine F.okd qmD (λ cdv A outer s H vs Q E hr h=>?_);obtain⟨ao,v,z,ws,s,rfl,ho,fm,ea,wf,hl,l4,q⟩:=h;have iE:Room 3 _:=hr.mono (by decide);refine⟨_,(qc (zb (qx qae (pv 2) (yh (v:=.str "~(") (by rfl) lP ⟨_,rfl⟩) rfl) (qc (ja (yA XE X2 X3 zV (pv 0) (qa (zF (qa (pv 2) (qa qby qb))) qb)))
  (qe (qo qby))) qF)
  (qc (zb (qx qae (pv 2) (yh (v:=.str "&|+") (by rfl) lV ⟨_,rfl⟩) rfl) (qc (qcy (zF (qa (pv 2) (qa (pv 1) qb))) (qes (pv 0) (qaX jY qf) qa1))
  (qe (qo qby))) qF)
  (qc (zb (qx zg (pv 2) qm (qy _)) (qc (qt (i:=3) qmD.nd rfl (Or.inl rfl) (qey XE Yi Yj qez (pv 0)))
  (qe (qo (zk Gw iE (qa (pv 0) (qa (zk Gp iE (qa (qY zr (pv 3) qf (λ _ _=>rfl)) (qa (qY zr (pv 3) qf (λ _ _=>rfl)) (qa (pv 1) qb)))) qb)))))) qF)
  (qe (qo (zk Gw iE (qa (pv 0) (qa (zk Gs iE (qa (pv 2) qb)) qb)))))))),?_⟩
 rw[qmE,qoo,qam];refine⟨_,rfl,_,_,rfl,rfl,_,rfl,?_⟩;by_cases h1:z∈[126,40]
 ·rw[Qa h1];refine j4 ?_;rw[stp,V4 h1] at q;refine⟨_,rfl,.inl ⟨rfl,_,SqL.of ho⟩,_,rfl,qB (by show 2<=_;decide),λ p hp=>?_⟩;have E5:upd H p (.tup [vS [z],.non]) ao=some (.lst ws):=(qk.up hp) _ _ ho;refine⟨ao,ws,_,rfl,rfl,E5,zi (by omega),?_⟩;have x1:zK H (upd (upd H p (.tup [vS [z],.non])) ao (.lst (ws++[.ref p]))):=(k8 (qk.up hp)).trans (zK.updL E5);refine q .non _ _ ((zL (qk.up hp)).upd) qd ((fm.monoX x1).snoc ⟨p,.non,rfl,?_,rfl⟩) rfl;exact zK.updL E5 _ _ qd (λ _ z=>nomatch z)
 rw[Jl h1];refine yp ?_;refine⟨_,rfl,_,_,rfl,rfl,_,rfl,?_⟩;by_cases h2:z∈[38,124,43]
 ·rw[Qa h2];refine j4 ?_;obtain⟨fr,fs,r,rfl⟩:=qge h2 hl;rw[stp,V5 h1,V4 h2] at q;obtain⟨us,x,rfl,fu,kx⟩:=fm.top;refine⟨_,rfl,_,rfl,qB (by show 2<=_;decide),λ p hp=>?_⟩;have E5:upd H p (.tup [vS [z],v]) ao=some (.lst (us++[x])):=(qk.up hp) _ _ ho;refine⟨_,rfl,1,rfl,ao,_,_,us.length,rfl,rfl,E5,by rw[Zh,XW];exact qbp _,?_⟩;have es:(us++[x]).set us.length (.ref p)=us++[.ref p]:=by simp
  rw[es];have x1:zK H (upd (upd H p (.tup [vS [z],v])) ao (.lst (us++[.ref p]))):=(k8 (qk.up hp)).trans (zK.updL E5);refine q .non _ _ ((zL (qk.up hp)).upd) qd ((fu.monoX x1).snoc ⟨p,v,rfl,?_,ea.monoX x1⟩) rfl;exact zK.updL E5 _ _ qd (λ _ z=>nomatch z)
 rw[Jl h2];refine yp ?_;refine yt (zy (jK qC (dvA rfl) dC)) at0 (λ hb H1 g1=>?_) (λ hb H1 g1=>?_)
 ·have e:z=41:=by simpa using Ui hb
  subst e;obtain⟨op,l,fs,r,rfl,E5⟩:=qiV wf hl;rw[stp,V5 h1,V5 h2,V4 rfl] at q;obtain⟨us,x,rfl,fu,kx⟩:=fm.top;obtain⟨ax,vx,rfl,cO,ke⟩:=kx;have G8:=g1 _ _ ho;refine⟨_,rfl,.inl ⟨rfl,_,SqL.of G8⟩,ao,_,.ref ax,rfl,rfl,G8,qak us (.ref ax),?_⟩;rw[Yv];have x1:zK H (upd H1 ao (.lst us)):=(k8 g1).trans (zK.updL G8);have sZ:=x1 _ _ cO (λ _ z=>nomatch z);refine⟨_,rfl,_,rfl,ax,_,_,vS [op],rfl,rfl,SqT.of sZ,rfl,_,rfl,ax,_,_,vx,rfl,rfl,SqT.of sZ,rfl,_,rfl,op,vx,v,l,r,rfl,E5,qO.monoX x1 ke,qO.monoX x1 ea,λ o H2 g2 ob=>?_⟩;refine⟨ao,o,us,fs,.bin op l r,rfl,g2 _ _ qd,(fu.monoX x1).monoX (k8 g2),ob,λ v' N5 H3 b3 e3 f3 o3=>?_⟩;exact q v' N5 H3 ((((zL g1).upd).trans (zL g2)).trans b3) e3 f3 o3
 ·have n41:¬ z=41:=λ e=>by simpa [e] using Zr hb
  rw[stp,V5 h1,V5 h2,V5 n41] at q;refine⟨_,rfl,_,rfl,z,rfl,λ o H2 g2 ob=>?_⟩;have u0:=g1.trans g2;refine⟨ao,o,ws,s.1,jt z,rfl,u0 _ _ ho,fm.monoX (k8 u0),ob,λ v' N5 H3 b3 e3 f3 o3=>?_⟩;exact q v' N5 H3 ((zL u0).trans b3) e3 f3 o3
def qoI(c:CA):Sp:=λ vs H Q _=>∃ t:Tr,vs=[vS t.text]/\t.Of zD/\t.wt<=1000/\∀ o H',qk H H'->qO c H' t o->Q o H'
theorem qoJ(F:Fun K "read" "read" qgU f fd)(T:Txt mg)(Gg:Dp P w K mg base 1 fg fdg ["opened","ended"] (qoE c) "signs_behind")(Gt:Dp P w K mg base 4 ft nE ["opened","ended","sign"] (qoG c) "taken"):FnOk P w K mg base CX0 5 f fd ["text"] (qoI c):=by
 refine F.okd qel (λ cdv A outer s H vs Q E hr h=>?_);obtain⟨t,rfl,of,hw,q⟩:=h;have B0:Room 1 _:=hr.mono (by decide);have hr4:Room 4 _:=hr.mono (by decide);refine⟨_,(qc (qt (i:=1) qel.nd rfl (Or.inl rfl) (zO qb))
  (qc (qt (i:=2) qel.nd rfl (Or.inl rfl) qby)
  (qc (qaf Jk rfl (qde (by rfl) T.enumerate (qa (pv 0) qb)) (qE (qr (i:=3) qel.nd rfl (Or.inl rfl)) (qE (qr (i:=4) qel.nd rfl (Or.inl rfl)) zC))
  (qc (zb (qx vh (pv 4) (zk Gg B0 (qa (pv 1) (qa (pv 2) qb))) rfl) (qe jl) qF)
   (qe (qt (i:=2) qel.nd rfl (Or.inl rfl) (zk Gt hr4 (qa (pv 1) (qa (pv 2) (qa (pv 4) qb))))))))
   (qc (zb (PW.pt (qfj (qx qjh (pv 2) qby (qy _))
   (qct (qx jM (qz qA (by rfl) T.len J9 (qa (pv 1) qb)) qf (qy _))))) (qe jl) qF)
   (qe (qo (pv 2))))))),?_⟩
 have tl:=t.text_len;have rw_:=qiU of;have hs:(qi t.text).cps.size=t.text.length:=qD t.text;refine⟨Ve _,λ ao hao=>?_⟩;refine⟨_,rfl,_,rfl,?_⟩;refine qbH (λ i σ H'=>∃(v:V)(ws:List V)(s:PSt)(v3 v4:Option V),σ=[some (vS t.text),some (.ref ao),some v,v3,v4]/\qk H H'/\H' ao=some (.lst ws)/\FrmI c H' ws s.1/\qax c H' s.2 v/\run ([],none) (t.text.take i)=some s/\ws.length<=i)
  ⟨.non,[],([],none),none,none,rfl,qk.up hao,qd,.nil,rfl,rfl,Vd _⟩ ?_ ?_
 ·rintro i σ H1 hi ⟨v,ws,s,v3,v4,rfl,g1,e1,fm,ea,cG,lw⟩;rw[hs] at hi;rw[jp hi];obtain⟨hl,rO⟩:=qnC rw_ hi cG;have wf:=qhX qpq cG;refine⟨_,_,rfl,_,_,rfl,rfl,?_⟩;refine⟨_,rfl,_,rfl,_,rfl,ao,v,ws,s,rfl,e1,fm,ea,λ H2 g2=>?_⟩;refine⟨_,_,rfl,rfl,_,rfl,?_⟩;rw[Qa hl];refine yp ?_;have x2:=k8 g2;refine⟨_,rfl,_,rfl,_,rfl,ao,v,_,ws,s,rfl,g2 _ _ e1,fm.monoX x2,ea.monoX x2,wf,hl,by omega,λ v' N5 H3 b3 e3 f3 o3=>?_⟩;have ln:=f3.len;have B9:(stp s t.text[i]).1.length<=i+1:=by have:=qma s t.text[i];have:=fm.len;omega
  exact⟨v',N5,stp s t.text[i],_,_,rfl,b3.same (g1.trans g2) hao,e3,f3,o3,rO,by omega⟩
 ·rintro σ H1 ⟨v,ws,s,v3,v4,rfl,g1,e1,fm,ea,cG,lw⟩;rw[hs,Ut,rw_] at cG;cases cG
  have e:=fm.empty;subst e;obtain⟨a,rfl⟩:=qO.ref ea;refine⟨_,rfl,rfl,_,rfl,yp ?_⟩;refine⟨_,rfl,ao,_,rfl,.inl (SqL.of e1),_,_,rfl,rfl,_,rfl,yp ?_⟩;exact⟨_,rfl,q _ H1 g1 ea⟩
end
theorem qkL:FnScope ["text","letters","sign"] ["text","letters"] (qj yF):=scF
theorem qhY:FnScope ["wish","letters","halves","left","right"] ["wish","letters"] (qj k4):=scF
theorem qgf:FnScope ["sides","fault","left","right"] ["sides"] (qj qaM):=scF
def qmF:Sp:=λ vs H Q _=>∃ x ls:List Nat,vs=[vS x,vS ls]/\(∀ c∈x,c∈zD->c∈ls)/\∀ H',qk H H'->Q .non H'
theorem qnD(F:Fun K "refuse_strange" "refuse_strange" yF f fd)(lQ:mg "LETTERS"=some (.str "abcpqrxyz" t1)):FnOk P w K mg base CX0 1 f fd ["text","letters"] qmF:=by
 refine F.okd qkL (λ cdv A outer s H vs Q E hr h=>?_);obtain⟨x,ls,rfl,hx,q⟩:=h;refine⟨_,(qe (yq Jk rfl (kf (pv 0)) (qr (i:=2) qkL.nd rfl (Or.inl rfl))
  (qe (zb (PW.pt (qer (qx qae (pv 2) (yh (v:=.str "abcpqrxyz") (by rfl) lQ ⟨_,rfl⟩) rfl) (qcb (qx vh (pv 2) (pv 1) rfl)))) (qe jl) qF)))),?_⟩
 rw[qf4];have hs:(qi x).cps.size=x.length:=qD x;refine⟨_,rfl,_,rfl,?_⟩;refine qhG (λ j σ H'=>∃ v2:Option V,σ=[some (vS x),some (vS ls),v2]/\qk H H') ⟨none,rfl,qk.refl H⟩ ?_ ?_
 ·rintro j σ H1 hj ⟨v2,rfl,g1⟩;rw[hs] at hj;rw[jp hj];refine⟨_,rfl,_,_,rfl,rfl,_,rfl,?_⟩;by_cases h:x[j]∈zD
  ·rw[Qa h];refine j4 ?_;refine⟨_,rfl,_,rfl,_,_,rfl,rfl,_,rfl,?_⟩;rw[Qa (hx _ (Ur hj) h)];exact yp ⟨_,rfl,g1⟩
  ·rw[Jl h];refine yp ?_;exact yp ⟨_,rfl,g1⟩
 ·rintro σ H1 ⟨v2,rfl,g1⟩;exact q H1 g1
theorem zT:∀{t:Tr}{c:Nat},t.Of zD->c∈t.text->¬ c=32/\¬ c=61/\(c∈zD->t.Has c)
 |.letter l,c,h,hc=>by
  have e:c=l:=Zn.mp hc;subst e
  have:=(by decide:∀ c∈zD,¬ c=32/\¬ c=61) c h
  exact⟨this.1,this.2,λ _=>rfl⟩
 |.one,c,_,hc=>by
  have e:c=49:=Zn.mp hc;subst e;exact⟨by decide,by decide,λ h=>absurd h (by decide)⟩
 |.zero,c,_,hc=>by
  have e:c=48:=Zn.mp hc;subst e;exact⟨by decide,by decide,λ h=>absurd h (by decide)⟩
 |.neg t,c,h,hc=>by
  rcases U1.mp hc with e|e
  ·have e:c=126:=Zn.mp e;subst e;exact⟨by decide,by decide,λ h=>absurd h (by decide)⟩
  ·exact zT (t:=t) h e
 |.bin op t u,c,h,hc=>by
  obtain⟨E5,ht,hu⟩:=h;have hc:c∈[40]++t.text++[op]++u.text++[41]:=hc;rcases U1.mp hc with hc|e
  ·rcases U1.mp hc with hc | e
   ·rcases U1.mp hc with hc | e
    ·rcases U1.mp hc with e | e
     ·have e:c=40:=Zn.mp e;subst e;exact⟨by decide,by decide,λ h=>absurd h (by decide)⟩
     ·obtain⟨a,b,d⟩:=zT ht e;exact⟨a,b,λ h=>.inl (d h)⟩
    ·have e:c=op:=Zn.mp e;subst e;rcases E5 with rfl|rfl|rfl <;> exact⟨by decide,by decide,λ h=>absurd h (by decide)⟩
   ·obtain⟨a,b,d⟩:=zT hu e;exact⟨a,b,λ h=>.inr (d h)⟩
  ·have e:c=41:=Zn.mp e;subst e;exact⟨by decide,by decide,λ h=>absurd h (by decide)⟩
theorem qhZ(t:Tr):t.text≠[]:=by cases t <;> simp[Tr.text]
theorem jT:∀ t:Tr,(t.wt:Int)<=t.nodes
 |.letter _=>by show(1:Int)<=1;decide
 |.one=>by show(1:Int)<=1;decide
 |.zero=>by show(1:Int)<=1;decide
 |.neg t=>by have:=jT t;show((t.wt+1:Nat):Int)<=1+t.nodes;omega
 |.bin _ t u=>by have:=jT t;have:=jT u;show((t.wt+u.wt:Nat):Int)<=1+t.nodes+u.nodes;omega
theorem Tr.Of.upL:∀{t:Tr},t.Of ls->(∀ c,c∈ls->c∈us)->t.Of us
 |.letter l,h,g=>g l h
 |.neg t,o,h=>Tr.Of.upL (t:=t) o h
 |.bin _ t u,o,h=>⟨o.1,Tr.Of.upL (t:=t) o.2.1 h,Tr.Of.upL (t:=u) o.2.2 h⟩
 |.one,_,_=>trivial
 |.zero,_,_=>trivial
structure Wsh where 
 i:Nat
 j:Nat
 k:Nat
 l:Nat
 t:Tr
 u:Tr
noncomputable def Wsh.text(x:Wsh):List Nat:=(List.replicate x.i 32++x.t.text++List.replicate x.j 32)++61::(List.replicate x.k 32++x.u.text++List.replicate x.l 32)
structure Wsh.Ok(ls:List Nat)(x:Wsh):Prop where
 bl:x.i<=100/\x.j<=100/\x.k<=100/\x.l<=100
 t:x.t.Of ls
 u:x.u.Of ls
 tn:x.t.nodes<=20
 un:x.u.nodes<=20
def qoK(c:CA):Sp:=λ vs H Q _=>∃(x:Wsh)(ls:List Nat),vs=[vS x.text,vS ls]/\x.Ok ls/\(∀ c∈ls,c∈zD)/\∀ r a b H',qk H H'->H' r=some (.tup [a,b])->qO c H' x.t a->qO c H' x.u b->Q (.ref r) H'
theorem qoL(F:Fun K "wish_read" "wish_read" k4 f fd)(C:CTxt K c iL iN iP)(pP:mg "MOST_PARTS"=some (.int 20 tp))(Mt:MTxt K c "text" iX iT iU iS iW iR iV)(Vt:VOk P w K mg base yb c 21 kD kR kE iX iT iU iS iW iR iV nO nK nL nJ nN nI nM)(Ms:MTxt K c "size" tT tR tS tQ cU cU cU)(Vs:VOk P w K mg base vSz c 21 kP kP kP tT tR tS tQ cU cU cU xS xQ xR xP oV oV oV)(gW:qh K nO ["self"] [])(gS:qh K nK ["self"] [])(gT:qh K nL ["self"] [])(gQ:qh K nJ ["self"] [])(gV:qh K nN ["self"] [])(gP:qh K nI ["self"] [])(gU:qh K nM ["self"] [])(uP:qh K xS ["self"] [])(uN:qh K xQ ["self"] [])(uO:qh K xR ["self"] [])(uM:qh K xP ["self"] [])(oW:qh K oV ["self"] [])(Gr:Dp P w K mg base 5 fr fdr ["text"] (qoI c) "read")(Gf:Dp P w K mg base 1 ff uE ["text","letters"] qmF "refuse_strange"):
  FnOk P w K mg base CX0 22 f fd ["wish","letters"] (qoK c):=by
 refine F.okd qhY (λ cdv A outer s H vs Q E hr h=>?_);obtain⟨x,ls,rfl,ok,l9,q⟩:=h;have B0:Room 1 _:=hr.mono (by decide);have hr5:Room 5 _:=hr.mono (by decide);have R7:Room 21 _:=hr.mono (by decide);have bsD:=oW;have bsR:=oW;have bsE:=oW;refine⟨_,(qc (zb (qx vh qm (pv 0) rfl) (qe jl) qF)
  (qc (qt (i:=2) qhY.nd rfl (Or.inl rfl) (yA XQ PySem.F.slot_str_partition PySem.F.type_str_partition qlR (pv 0) (qa qm qb)))
  (qc (qt (i:=3) qhY.nd rfl (Or.inl rfl) (zk Gr hr5 (qa (yA XQ PySem.F.slot_str_strip PySem.F.type_str_strip qfX (qY zr (pv 2) qf (λ _ _=>rfl)) (qa qm qb)) qb)))
  (qc (qt (i:=4) qhY.nd rfl (Or.inl rfl) (zk Gr hr5 (qa (yA XQ PySem.F.slot_str_strip PySem.F.type_str_strip qfX (qY zr (pv 2) qf (λ _ _=>rfl)) (qa qm qb)) qb)))
  (qc (zb (PW.pt (qfj (qx jM (qar (pv 3) C Ms Vs R7 uP uN uO uM bsD bsR bsE) (yh (v:=.int 20) (by rfl) pP ⟨_,rfl⟩) (qy _))
   (qct (qx jM (qar (pv 4) C Ms Vs R7 uP uN uO uM bsD bsR bsE) (yh (v:=.int 20) (by rfl) pP ⟨_,rfl⟩) (qy _))))) (qe jl) qF)
  (qc (ja (zk Gf B0 (qa (qp qU (qar (pv 3) C Mt Vt R7 gW gS gT gQ gV gP gU) (qar (pv 4) C Mt Vt R7 gW gS gT gQ gV gP gU)) (qa (pv 1) qb))))
  (qe (qo (zF (qa (pv 3) (qa (pv 4) qb))))))))))),?_⟩
 rw[show("=":Str)=qi [61] by decide +kernel,show(" ":Str)=qi [32] by decide +kernel];obtain⟨i,j,k,l,t,u⟩:=x;obtain⟨⟨bi,bj,bk,bl⟩,ot,ou,tn,un⟩:=ok;have bi:i<=100:=bi;have bj:j<=100:=bj;have bk:k<=100:=bk;have bl:l<=100:=bl;have ot:t.Of ls:=ot;have ou:u.Of ls:=ou;have nY:=ot.upL l9;have pI:=ou.upL l9;have wt1:=jT t;have wt2:=jT u;have tn:t.nodes<=20:=tn;have un:u.nodes<=20:=un;have lt1:=t.text_len;have lt2:=u.text_len;have ht1:=t.ht_wt;have ht2:=u.ht_wt;have hw1:t.wt<=20:=by omega
 have hw2:u.wt<=20:=by omega
 have nt:61∉List.replicate i 32++t.text++List.replicate j 32:=λ h=>by
  rcases U1.mp h with h|h
  ·rcases U1.mp h with h | h
   ·exact absurd (X1 h) (by decide)
   ·exact(zT nY h).2.1 rfl
  ·exact absurd (X1 h) (by decide)
 refine⟨_,rfl,_,_,rfl,rfl,_,rfl,?_⟩;rw[Qa (show 61∈Wsh.text ⟨i,j,k,l,t,u⟩ from XS _ (Ze ..))];refine yp ?_;refine⟨_,rfl,rfl,_,_,_,rfl,rfl,nt,by simp only[Zh,XT];omega,λ p hp=>?_⟩;have g1:=qk.up hp (o:=.tup [vS (List.replicate i 32++t.text++List.replicate j 32),vS [61],vS (List.replicate k 32++u.text++List.replicate l 32)]);have e1:upd H p (.tup [vS (List.replicate i 32++t.text++List.replicate j 32),vS [61],vS (List.replicate k 32++u.text++List.replicate l 32)]) p=some (.tup [vS (List.replicate i 32++t.text++List.replicate j 32),vS [61],vS (List.replicate k 32++u.text++List.replicate l 32)]):=qd;generalize upd H p (.tup [vS (List.replicate i 32++t.text++List.replicate j 32),vS [61],vS (List.replicate k 32++u.text++List.replicate l 32)])=H1 at g1 e1;refine⟨_,rfl,p,_,_,_,rfl,rfl,SqT.of e1,rfl,rfl,i,j,t.text,rfl,rfl,qhZ t,λ h=>(zT nY h).1 rfl,by omega,t,rfl,nY,by omega,λ a H2 g2 eQ=>?_⟩;refine⟨_,rfl,p,_,_,_,rfl,rfl,SqT.of (g2 _ _ e1),rfl,rfl,k,l,u.text,rfl,rfl,qhZ u,λ h=>(zT pI h).1 rfl,by omega,u,rfl,pI,by omega,λ b H3 g3 ob2=>?_⟩;have eQ:=eQ.mono g3;refine dV (f:=vSz) (n:=21) (κd:=kP) (κr:=kP) (κe:=kP) (λ _ _=>⟨rfl,rfl,rfl⟩) (λ _ _=>⟨_,_,_,rfl⟩) (λ _ _=>⟨_,_,_,rfl⟩) (λ _ _=>⟨_,_,_,rfl⟩) (dvA rfl) eQ (by omega) (by omega) nY _ _ _ at0 λ H4 g4=>?_
 refine⟨_,_,rfl,rfl,_,rfl,?_⟩;rw[Jl (show ¬ (20:Int)<t.nodes by omega)];refine yp ?_;refine dV (f:=vSz) (n:=21) (κd:=kP) (κr:=kP) (κe:=kP) (λ _ _=>⟨rfl,rfl,rfl⟩) (λ _ _=>⟨_,_,_,rfl⟩) (λ _ _=>⟨_,_,_,rfl⟩) (λ _ _=>⟨_,_,_,rfl⟩) (dvA rfl) (ob2.mono g4) (by omega) (by omega) pI _ _ _ at0 λ H5 g5=>?_
 refine⟨_,_,rfl,rfl,_,rfl,?_⟩;rw[Jl (show ¬ (20:Int)<u.nodes by omega)];refine yp ?_;have mZ:=g4.trans g5;refine(jr qC (dV (f:=yb) (n:=21) (κd:=kD) (κr:=kR) (κe:=kE) (λ _ _=>⟨rfl,rfl,rfl⟩) (λ _ _=>⟨_,_,rfl⟩) (λ _ _=>⟨_,_,rfl⟩) (λ _ _=>⟨_,_,rfl⟩) (dvA rfl) (eQ.mono mZ) (by omega) (by omega) nY)
  (dV (f:=yb) (n:=21) (κd:=kD) (κr:=kR) (κe:=kE) (λ _ _=>⟨rfl,rfl,rfl⟩) (λ _ _=>⟨_,_,rfl⟩) (λ _ _=>⟨_,_,rfl⟩) (λ _ _=>⟨_,_,rfl⟩) (dvA rfl) (ob2.mono mZ) (by omega) (by omega) pI) (by omega)) _ _ _ at0 λ H6 g6=>?_
 refine⟨_,rfl,_,ls,rfl,λ z hz hn=>?_,λ H7 g7=>?_⟩
 ·rcases U1.mp hz with h | h
  ·exact Tr.Of.has ot ((zT nY h).2.2 hn)
  ·exact Tr.Of.has ou ((zT pI h).2.2 hn)
 have g37:=(mZ.trans g6).trans g7;refine⟨_,rfl,_,rfl,qB (by show 2<=_;decide),λ r E4=>?_⟩;have g38:=g37.to E4 (o:=.tup [a,b]);exact q r a b _ (((g1.trans g2).trans g3).trans g38) qd (eQ.mono g38) (ob2.mono g38)
noncomputable def zn(O0:List (List Pr×List Pr)):List Pr:=O0.foldl (λ c9 fg=>join c9 (added fg.1 fg.2)) []
theorem qb1(O0:List (List Pr×List Pr))(x:List Pr×List Pr):zn (O0++[x])=join (zn O0) (added x.1 x.2):=by unfold zn;rw[Z5];rfl
theorem qbN:∀(O0:List (List Pr×List Pr)),(∀ x∈O0,On ls x.1/\On ls x.2)->On ls (zn O0):=by
 intro O0 h;have i9:∀(l:List (List Pr×List Pr))(c9:List Pr),On ls c9->(∀ x∈l,On ls x.1/\On ls x.2)->On ls (l.foldl (λ c9 fg=>join c9 (added fg.1 fg.2)) c9):=by
  intro l;induction l with
  |nil=>intro c9 ha _;exact ha
  |cons x l ih =>
   intro c9 ha hl;have hx:=hl x (Ze ..);exact ih _ (ha.join (hx.1.added hx.2)) λ y hy=>hl y (Yl _ hy)
 exact i9 O0 [] (On.nil ls) h
def yw(H:Hp)(p:Addr)(fg:List Pr×List Pr):Prop:=∃ x y:Addr,H p=some (.tup [.ref x,.ref y])/\H x=some (.tup (fg.1.map vS))/\H y=some (.tup (fg.2.map vS))
theorem yw.mono(h:yw H p fg)(g:qk H H'):yw H' p fg:=let ⟨x,y,a,b,c⟩:=h;⟨x,y,g _ _ a,g _ _ b,g _ _ c⟩
def qoM(K:W.Frag):Sp:=λ vs H Q _=>∃(a:Addr)(ps:List Addr)(O0:List (List Pr×List Pr))(ls:List Nat),vs=[.ref a]/\H a=some (.lst (ps.map V.ref))/\Paired (yw H) ps O0/\ls.Pairwise (·<·)/\ls.length<=6/\(∀ x∈O0,On ls x.1/\On ls x.2)/\∀ r H',qk H H'->H' r=some (.tup ((zn O0).map vS))->Q (.ref r) H'
theorem qmG(h:On ls F)(hl:ls.Pairwise (·<·))(l6:ls.length<=6):F.flatten.length<=192:=by
 have h1:=h.flat2 hl
 have:=qnz ls.length l6
 omega
theorem qoN(F:Fun K "fault_of" "fault_of" qaM f fd)(Ga:Dp P w K mg base 1 fa nG ["one","other"] (qgY K added) "added")(Gj:Dp P w K mg base 13 fj fdj ["one","other"] (sp2 K join) "joined"):FnOk P w K mg base CX0 14 f fd ["sides"] (qoM K):=by
 refine F.okd qgf (λ cdv A outer s H vs Q E hr h=>?_);obtain⟨a,ps,O0,ls,rfl,ha,pr,rl,l6,wY,q⟩:=h;have B0:Room 1 _:=hr.mono (by decide);have C7:Room 13 _:=hr.mono (by decide);have o9:Ok9 ls:=⟨rl,by omega⟩;refine⟨_,(qc (qt (i:=1) qgf.nd rfl (Or.inl rfl) (zF qb))
  (qc (yq Jk rfl (zU (pv 0)) (qcx (n:=2) rfl (qE (qr (i:=2) qgf.nd rfl (Or.inl rfl)) (qE (qr (i:=3) qgf.nd rfl (Or.inl rfl)) zC)))
  (qe (qt (i:=1) qgf.nd rfl (Or.inl rfl) (zk Gj C7 (qa (pv 1) (qa (zk Ga B0 (qa (pv 2) (qa (pv 3) qb))) qb))))))
  (qe (qo (pv 1))))),?_⟩
 refine⟨Ve _,λ f0 hf0=>?_⟩;refine⟨_,rfl,a,rfl,⟨_,SqL.of ((qk.up hf0) _ _ ha)⟩,?_⟩;refine qcz (K:=K) (xs:=ps.map V.ref) (λ i σ H'=>∃(r:Addr)(v2 v3:Option V),σ=[some (.ref a),some (.ref r),v2,v3]/\qk H H'/\H' r=some (.tup ((zn (O0.take i)).map vS))) ⟨f0,none,none,rfl,qk.up hf0,qd⟩ (λ i σ H' _ ⟨_,_,_,_,g,_⟩=>SqL.of (g _ _ ha)) ?_ ?_
 ·rintro i x σ H1 hx ⟨r,v2,v3,rfl,g1,e1⟩;obtain⟨p,hp,rfl⟩:=ql hx;obtain⟨fg,sN,sd⟩:=zf pr i p hp;obtain⟨x,y,s1,s2,s3⟩:=sd.mono g1;obtain⟨o1,o2⟩:=wY fg (Yn sN);have oT:On ls (zn (O0.take i)):=qbN _ λ x hx=>wY x (Ys hx)
  refine⟨p,_,rfl,SqT.of s1,rfl,_,_,rfl,_,_,rfl,rfl,?_⟩;refine⟨_,rfl,_,rfl,_,rfl,x,y,fg.1,fg.2,ls,rfl,SqT.of s2,SqT.of s3,o9,o1,o2,λ r2 H2 g2 e2=>?_⟩;refine⟨r,r2,zn (O0.take i),added fg.1 fg.2,ls,rfl,SqT.of (g2 _ _ e1),SqT.of e2,o9,oT,o1.added o2,?_,λ r3 H3 g3 e3=>?_⟩
  ·have a1:=qmG oT rl l6;have a2:=qmG (o1.added o2) rl l6;omega
  exact⟨r3,_,_,rfl,(g1.trans g2).trans g3,by rw[ze sN,qb1];exact e3⟩
 ·rintro σ H1 ⟨r,v2,v3,rfl,g1,e1⟩;rw[U3,show ps.length=O0.length from Y7 pr,Ut] at e1;exact⟨_,rfl,q r H1 g1 e1⟩
def qh0:Sp:=λ vs H Q _=>∃(p ls:List Nat),vs=[vS p,vS ls]/\ls.length<=9/\p.length<=9/\p.Sublist ls/\ls.Pairwise (·<·)/\∀ H',qk H H'->Q (.bl true) H'
theorem qh1:FnScope ["self","givens","gaps","wishes","pairs"] ["self","givens","gaps","wishes"] (qj kZ):=scF
structure NotC(c:CA)(X:Addr):Prop where
 a:X≠c.always
 n:X≠c.never
 l:X≠c.letter
 o:X≠c.not
 d:X≠c.and
 r:X≠c.or
 e:X≠c.either
theorem NotC.bin(h:NotC c X)(op:Nat):X≠c.bin op:=by
 unfold CA.bin;split
 ·exact h.d
 ·split
  ·exact h.r
  ·exact h.e
theorem qdx{H:Hp}(h:H x=some (.ins X dx fs))(g:H a=some (.ins C dy gs))(n:X≠C):a≠x:=λ e=>by rw[e,h] at g;cases g;exact n rfl
theorem qO.but(n:NotC c X)(h:H x=some (.ins X dx fs))(g:But x H H'):∀{t:Tr}{v:V},qO c H t v->qO c H' t v
 |.letter _,_,⟨a,dx,e,k⟩=>⟨a,dx,e,g _ _ (qdx h k n.l) k⟩
 |.one,_,⟨a,dx,e,k⟩=>⟨a,dx,e,g _ _ (qdx h k n.a) k⟩
 |.zero,_,⟨a,dx,e,k⟩=>⟨a,dx,e,g _ _ (qdx h k n.n) k⟩
 |.neg t,_,⟨a,dx,y,e,k,r⟩=>⟨a,dx,y,e,g _ _ (qdx h k n.o) k,qO.but n h g r⟩
 |.bin op t u,_,⟨a,dx,y,z,e,k,r,r'⟩=>⟨a,dx,y,z,e,g _ _ (qdx h k (n.bin op)) k,qO.but n h g r,qO.but n h g r'⟩
def jL(c:CA)(H:Hp)(p:Addr)(x:Wsh):Prop:=∃ a b:V,H p=some (.tup [a,b])/\qO c H x.t a/\qO c H x.u b
theorem jL.mono(h:jL c H p x)(g:qk H H'):jL c H' p x:=let ⟨a,b,e,o1,o2⟩:=h;⟨a,b,g _ _ e,o1.mono g,o2.mono g⟩
theorem jL.but(n:NotC c X)(hx:H x=some (.ins X dx fs))(g:But x H H')(h:jL c H p y):jL c H' p y:=
 let ⟨a,b,e,o1,o2⟩:=h;⟨a,b,g _ _ (λ q=>by rw[q,hx] at e;cases e) e,qO.but n hx g o1,qO.but n hx g o2⟩
theorem qcn(hx:H x=some (.ins X dx fs))(g:But x H H')(h:H a=some (.tup vs)):H' a=some (.tup vs):=g _ _ (λ q=>by rw[q,hx] at h;cases h) h
theorem vH(hx:H x=some (.ins X dx fs))(g:But x H H')(h:H a=some (.lst vs)):H' a=some (.lst vs):=g _ _ (λ q=>by rw[q,hx] at h;cases h) h
theorem yw.but(hx:H x=some (.ins X dx fs))(g:But x H H')(h:yw H p fg):yw H' p fg:=
 let ⟨a,b,e,o1,o2⟩:=h;⟨a,b,qcn hx g e,qcn hx g o1,qcn hx g o2⟩
noncomputable def Wsh.said(x:Wsh):List Nat:=x.t.text++[32,61,32]++x.u.text
noncomputable def Wsh.side(x:Wsh):List Pr×List Pr:=(x.t.form,x.u.form)
structure TaskAt(CT:Addr)(H:Hp)(o:Addr)(gv gp:List Nat)(ws:List Wsh)(dx a1 a2 a3:Addr)(ps:List Addr):Prop where
 ins:H o=some (.ins CT dx [("given_letters",vS gv),("gap_letters",vS gp),("wish_texts",.ref a1),("side_forms",.ref a2),("fault_form",.ref a3)])
 said:H a1=some (.lst (ws.map λ x=>vS x.said))
 sides:H a2=some (.lst (ps.map V.ref))
 side:Paired (yw H) ps (ws.map Wsh.side)
 fault:H a3=some (.tup ((zn (ws.map Wsh.side)).map vS))
noncomputable def abc:List Nat:=[97,98,99]
noncomputable def xyz:List Nat:=[120,121,122]
theorem qmb:("abc":Str)=qi abc:=by decide +kernel
theorem qmc:("xyz":Str)=qi xyz:=by decide +kernel
theorem qbO {gp:List Nat}(h1:gv.Sublist abc)(h2:gp.Sublist xyz):(gv++gp).Pairwise (·<·)/\(gv++gp).length<=6/\∀ c∈gv++gp,c∈zD:=by
 have s:(gv++gp).Sublist (abc++xyz):=h1.append h2;have r:(abc++xyz).Pairwise (·<·):=by decide
 exact⟨r.sublist s,s.length_le,λ c hc=>(by decide:∀ c∈abc++xyz,c∈zD) c (s.subset hc)⟩
def qkM(K:W.Frag)(CT:Addr):Sp:=λ vs H Q _=>∃(x dx wl:Addr)(gv gp:List Nat)(ws:List Wsh),vs=[.ref x,vS gv,vS gp,.ref wl]/\H x=some (.ins CT dx [])/\SqL K H wl (ws.map λ y=>vS y.text)/\gv.Sublist abc/\gp.Sublist xyz/\ws.length<=6/\(∀ y∈ws,y.Ok (gv++gp))/\∀ a1 a2 a3 ps H',But x H H'->H a1=none->H a2=none->TaskAt CT H' x gv gp ws dx a1 a2 a3 ps->Q .non H'
theorem qmd(F:Fun K "__init__" "Task.__init__" kZ f fd)(T:Txt mg)(C:CTxt K c iL iN iP)(cT:Cls K CT)(nc:NotC c CT)(n1:NoAttr K CT "given_letters")(n2:NoAttr K CT "gap_letters")(n3:NoAttr K CT "wish_texts")(n4:NoAttr K CT "side_forms")(n5:NoAttr K CT "fault_form")(mgiv:mg "GIVENS"=some (.str "abc" t1))(mgap:mg "GAPS"=some (.str "xyz" t2))(mmw:mg "MOST_WISHES"=some (.int 6 t3))(Mt:MTxt K c "text" iX iT iU iS iW iR iV)(Vt:VOk P w K mg base yb c 21 kD kR kE iX iT iU iS iW iR iV nO nK nL nJ nN nI nM)(Mf:FTxt K c uB tX tY tW uA tU tZ)(Gf:FOk P w K mg base c 21 uB tX tY tW uA tU tZ dfA xW xX xV xZ xU xY)(gW:qh K nO ["self"] [])(gS:qh K nK ["self"] [])(gT:qh K nL ["self"] [])(gQ:qh K nJ ["self"] [])(gV:qh K nN ["self"] [])(gP:qh K nI ["self"] [])(gU:qh K nM ["self"] [])(uX:qh K dfA ["self"] [])(uT:qh K xW ["self"] [])(uU:qh K xX ["self"] [])(uS:qh K xV ["self"] [])(uW:qh K xZ ["self"] [])(uR:qh K xU ["self"] [])(uV:qh K xY ["self"] [])(GI:Dp P w K mg base 1 fI fdI ["text","letters"] qh0 "is_row")(GW:Dp P w K mg base 22 fW fdW ["wish","letters"] (qoK c) "wish_read")(GF:Dp P w K mg base 14 fF fdF ["sides"] (qoM K) "fault_of"):
  FnOk P w K mg base CX0 35 f fd ["self","givens","gaps","wishes"] (qkM K CT):=by
 refine F.okd qh1 (λ cdv A outer s H vs Q E hr h=>?_);obtain⟨x,dx,wl,gv,gp,ws,rfl,hx,hw,P5,G7,l6,ok,q⟩:=h;have B0:Room 1 _:=hr.mono (by decide);have hr14:Room 14 _:=hr.mono (by decide);have R7:Room 21 _:=hr.mono (by decide);have hr22:Room 22 _:=hr.mono (by decide);have B3:Room 34 _:=hr.mono (by decide);obtain⟨rl,pU,l9⟩:=qbO P5 G7;have wM:=P5.length_le;have pV:=G7.length_le;have la:abc.length=3:=rfl;have lx:xyz.length=3:=rfl;refine⟨_,(qc (zb (PW.pt (qfj (qja (jX (zk GI B0 (qa (pv 1) (qa (yh (v:=.str "abc") (by rfl) mgiv ⟨_,rfl⟩) qb)))))
   (qct (qja (jX (zk GI B0 (qa (pv 2) (qa (yh (v:=.str "xyz") (by rfl) mgap ⟨_,rfl⟩) qb)))))))) (qe jl) qF)
  (qc (zb (qx jM (qz qA (by rfl) T.len J9 (qa (pv 3) qb)) (yh (v:=.int 6) (by rfl) mmw ⟨_,rfl⟩) (qy _)) (qe jl) qF)
  (qc (qbj (i:=4) qh1.nd rfl rfl (csc (NY:=["wish","givens","gaps"]) (o:=1) (caps:=[1,2]) ["givens","gaps"] rfl
    (by intro x hx;rcases Qi.mp hx with e | hx;· rw[e];exact .inl rfl
        rw[Zn.mp hx];exact .inl rfl) (kq rfl rfl rfl (kq rfl rfl rfl y7)) rfl) rfl
    (zU (pv 3)) (λ C0 s H fp pins=>qr (i:=0) (show(["wish","givens","gaps"]:List Str).Nodup by decide +kernel) rfl (Or.inl rfl)) (λ C0 s H fp pins=>zt) (λ C0 s H fp pins=>(zk GW hr22 (qa (pv 0) (qa (qp qU (pv 1) (pv 2)) qb)))))
  (qc (jZ (pv 0) (pv 1) rfl)
  (qc (jZ (pv 0) (pv 2) rfl)
  (qc (jZ (pv 0) (zH (csc (NY:=["left","right"]) (o:=2) (caps:=[]) [] rfl (by simp) y7 rfl) rfl
    (zU (pv 4)) (λ C0 s H fp pins=>(show PG _ _ (qll K 2 (qcw (vI 0) (qcw (vI 1) qlk))) from qcx (n:=2) rfl (qE (qr (i:=0) (show(["left","right"]:List Str).Nodup by decide +kernel) rfl (Or.inl rfl) (hf:=Or.inr rfl)) (qE (qr (i:=1) (show(["left","right"]:List Str).Nodup by decide +kernel) rfl (Or.inl rfl) (hf:=Or.inr rfl)) zC)))) (λ C0 s H fp pins=>zt) (λ C0 s H fp pins=>(qp qU (qp qU (qar (pv 0) C Mt Vt R7 gW gS gT gQ gV gP gU) qm) (qar (pv 1) C Mt Vt R7 gW gS gT gQ gV gP gU)))) rfl)
  (qc (jZ (pv 0) (zH (csc (NY:=["left","right"]) (o:=2) (caps:=[]) [] rfl (by simp) y7 rfl) rfl
    (zU (pv 4)) (λ C0 s H fp pins=>(show PG _ _ (qll K 2 (qcw (vI 0) (qcw (vI 1) qlk))) from qcx (n:=2) rfl (qE (qr (i:=0) (show(["left","right"]:List Str).Nodup by decide +kernel) rfl (Or.inl rfl) (hf:=Or.inr rfl)) (qE (qr (i:=1) (show(["left","right"]:List Str).Nodup by decide +kernel) rfl (Or.inl rfl) (hf:=Or.inr rfl)) zC)))) (λ C0 s H fp pins=>zt) (λ C0 s H fp pins=>(zF (qa (PE.or (qI (pv 0) C.always Mf.always Gf.always B3 uX .nil qG)
   (PE.or (qI (pv 0) C.never Mf.never Gf.never B3 uT .nil qG)
   (PE.or (qI (pv 0) C.letter Mf.letter Gf.letter B3 uU .nil qG)
   (PE.or (qI (pv 0) C.not Mf.not Gf.not B3 uS .nil qG)
   (PE.or (qI (pv 0) C.and Mf.and Gf.and B3 uW .nil qG)
   (PE.or (qI (pv 0) C.or Mf.or Gf.or B3 uR .nil qG)
   (qI (pv 0) C.either Mf.either Gf.either B3 uV .nil qG))))))) (qa (PE.or (qI (pv 1) C.always Mf.always Gf.always B3 uX .nil qG)
   (PE.or (qI (pv 1) C.never Mf.never Gf.never B3 uT .nil qG)
   (PE.or (qI (pv 1) C.letter Mf.letter Gf.letter B3 uU .nil qG)
   (PE.or (qI (pv 1) C.not Mf.not Gf.not B3 uS .nil qG)
   (PE.or (qI (pv 1) C.and Mf.and Gf.and B3 uW .nil qG)
   (PE.or (qI (pv 1) C.or Mf.or Gf.or B3 uR .nil qG)
   (qI (pv 1) C.either Mf.either Gf.either B3 uV .nil qG))))))) qb))))) rfl)
  (qe (jZ (pv 0) (zk GF hr14 (qa (zA (pv 0) (by rfl)) qb)) rfl))))))))),?_⟩
 rw[qmb,qmc,show(" = ":Str)=qi [32,61,32] by decide +kernel];refine⟨_,rfl,gv,abc,rfl,by decide,by omega,P5,by decide,λ H1 g1=>⟨true,rfl,yp ?_⟩⟩;refine⟨_,rfl,gp,xyz,rfl,by decide,by omega,G7,by decide,λ H2 g2=>⟨true,rfl,yp ?_⟩⟩;have u0:=g1.trans g2;refine⟨_,rfl,wl,_,rfl,.inl (u0.seq hw),_,_,rfl,rfl,_,rfl,?_⟩;rw[U3,Jl (show ¬ (6:Int)<(ws.length:Int) by omega)];refine yp ?_;refine⟨_,rfl,wl,rfl,⟨_,u0.seq hw⟩,?_⟩;refine ye (ws.map λ y=>vS y.text).length (λ i ys H'=>∃ ps:List Addr,ys=ps.map V.ref/\Paired (jL c H') ps (ws.take i)) (λ D hD=>⟨[],rfl,.nil⟩) ?_ ?_ (λ H' sm=>⟨_,(u0.trans sm).seq hw,Vd _⟩) ?_
 ·rintro i ys H' hi ⟨ps,rfl,hp⟩
  have:=hp.length
  rw[Ul] at this;rw[U3];exact zi (by omega)
 ·rintro i ys H' D Y Z hi hD P3 sm ⟨ps,rfl,hp⟩ hY hZ;rw[U3] at hi;refine⟨⟨_,_,(u0.trans sm).seq hw,Xy (by rw[U3];exact hi)⟩,?_⟩;rintro v nU ⟨rfl,hv⟩;have ev:=hv _ ((u0.trans sm).seq hw);obtain⟨y,hy,rfl⟩:=ql ev;refine⟨⟨rfl,rfl⟩,?_⟩;refine⟨_,rfl,_,rfl,_,rfl,_,_,rfl,rfl,by rw[qD,qD];exact qB (by omega),?_⟩;rw[jO];refine⟨y,gv++gp,rfl,ok y (Yn hy),l9,λ r a b H3 g3 e3 o1 o2=>?_⟩;refine hY _ _ (g3 _ _ P3) (sm.trans g3) ⟨ps++[r],by rw[Ja];rfl,?_⟩;have eD:=g3 _ _ P3;have gX:zK H3 (upd H3 D (.lst (ps.map V.ref++[.ref r]))):=zK.updL eD;rw[ze hy];refine q8 (zd (λ p z hz=>?_) hp) (.cons ⟨a,b,gX _ _ e3 (λ _ z=>nomatch z),qO.monoX gX o1,qO.monoX gX o2⟩ .nil);obtain⟨a',b',k1,k2,k3⟩:=hz.mono g3;exact⟨a',b',gX _ _ k1 (λ _ z=>nomatch z),qO.monoX gX k2,qO.monoX gX k3⟩
 rintro D H3 ys hD sm bQ ⟨ps,rfl,fJ⟩;rw[U3,Ut] at fJ;have g3:=u0.trans sm;have eZ:=g3 _ _ hx;have oB:ps.length=ws.length:=fJ.length;have tJ:H3 D=some (.lst (ps.map V.ref)):=bQ;refine⟨_,rfl,_,rfl,x,CT,dx,[],rfl,eZ,cT,n1,by decide,?_⟩;refine⟨_,rfl,_,rfl,x,CT,dx,_,rfl,qd,cT,n2,by show 1<1000;decide,?_⟩;obtain⟨H5,gF⟩:∃ H5,H5=upd (upd H3 x (.ins CT dx [("given_letters",vS gv)])) x (.ins CT dx [("given_letters",vS gv),("gap_letters",vS gp)]):=⟨_,rfl⟩;have b5:But x H3 H5:=by rw[gF];exact((But.refl x H3).upd).upd
 have hx5:H5 x=some (.ins CT dx [("given_letters",vS gv),("gap_letters",vS gp)]):=by rw[gF];exact qd
 have hD5:=vH eZ b5 tJ;have wX:=zd (λ p y h=>jL.but nc eZ b5 h) fJ;have go5:∀ G:Hp->Prop,G H5->G (upd (upd H3 x (.ins CT dx [("given_letters",vS gv)])) x (.ins CT dx [("given_letters",vS gv),("gap_letters",vS gp)])):=λ G h=>gF ▸ h
 refine go5 _ ?_;have nW:∀ y∈ws,∀ t,(t=y.t∨t=y.u)->t.Of (gv++gp)/\t.Of zD/\t.wt<=20/\t.ht<=21/\Szd t:=λ y hy t ht=>by
  have oy:=ok y hy;have h1:t.Of (gv++gp):=by rcases ht with rfl|rfl;exact oy.t;exact oy.u
  have h2:t.nodes<=20:=by rcases ht with rfl|rfl;exact oy.tn;exact oy.un
  have h3:=jT t;have h4:t.wt<=20:=by omega
  have h5:=h1.upL l9;exact⟨h1,h5,h4,by have:=t.ht_wt;omega,h5,.inl (Qy (zW (qQ Qh t.lets_rise) λ c hc=>Tr.Of.has h1 (t.mem_lets.mp hc)) pU)⟩
 refine⟨_,rfl,D,rfl,⟨_,SqL.of hD5⟩,?_⟩;refine qbE (SqL.of hD5) (λ i=>(ws.take i).map λ y=>vS y.said) rfl (λ i hi=>?_) ?_ ?_
 ·rw[U3,Ul];exact zi (by omega)
 ·intro i v H' D2 Y Z hv M4 P3 aP hY hZ;obtain⟨p,hp,rfl⟩:=ql hv;obtain⟨y,hy,pr⟩:=zf wX i p hp;obtain⟨a,b,e1,o1,o2⟩:=pr.mono aP;obtain⟨_,t9,tw,th,_⟩:=nW y (Yn hy) y.t (.inl rfl);obtain⟨_,u9,uw,uh,_⟩:=nW y (Yn hy) y.u (.inr rfl);have lt:=y.t.text_len;have lu:=y.u.text_len;refine⟨p,_,rfl,SqT.of e1,rfl,_,_,rfl,_,_,rfl,rfl,⟨rfl,rfl⟩,?_⟩;refine(jr qC (jr qC (dV (f:=yb) (n:=21) (κd:=kD) (κr:=kR) (κe:=kE) (λ _ _=>⟨rfl,rfl,rfl⟩) (λ _ _=>⟨_,_,rfl⟩) (λ _ _=>⟨_,_,rfl⟩) (λ _ _=>⟨_,_,rfl⟩) (dvA rfl) o1 th (by omega) t9) dC (by show _+3<=_;omega))
   (dV (f:=yb) (n:=21) (κd:=kD) (κr:=kR) (κe:=kE) (λ _ _=>⟨rfl,rfl,rfl⟩) (λ _ _=>⟨_,_,rfl⟩) (λ _ _=>⟨_,_,rfl⟩) (λ _ _=>⟨_,_,rfl⟩) (dvA rfl) o2 uh (by omega) u9) (by rw[Zh];show _+3+_<=_;omega)) _ _ _ at0 λ nU tP=>?_
  exact hY _ _ (tP _ _ P3) (aP.trans tP) (yf (f:=λ y:Wsh=>vS y.said) hy)
 intro a1 H6 hA1 s6 h6;rw[U3,oB,Ut] at h6;have wQ:=s6 _ _ hx5;refine⟨_,rfl,x,CT,dx,_,rfl,wQ,cT,n3,by show 2<1000;decide,?_⟩;obtain⟨H7,W5⟩:∃ H7,H7=upd H6 x (.ins CT dx [("given_letters",vS gv),("gap_letters",vS gp),("wish_texts",.ref a1)]):=⟨_,rfl⟩;have b7:But x H6 H7:=by rw[W5];exact(But.refl x H6).upd
 have hx7:H7 x=some (.ins CT dx [("given_letters",vS gv),("gap_letters",vS gp),("wish_texts",.ref a1)]):=by rw[W5];exact qd
 have iQ:=vH wQ b7 (s6 _ _ hD5);have hA7:=vH wQ b7 h6;have hp7:=zd (λ p y h=>jL.but nc wQ b7 (jL.mono h s6)) wX;have go7:∀ G:Hp->Prop,G H7->G (upd H6 x (.ins CT dx [("given_letters",vS gv),("gap_letters",vS gp),("wish_texts",.ref a1)])):=λ G h=>W5 ▸ h
 refine go7 _ ?_;refine⟨_,rfl,D,rfl,⟨_,SqL.of iQ⟩,?_⟩;refine ye (ps.map V.ref).length (λ i ys H'=>∃ qs:List Addr,ys=qs.map V.ref/\Paired (yw H') qs ((ws.take i).map Wsh.side)) (λ D hD=>⟨[],rfl,.nil⟩) ?_ ?_ (λ H' aP=>⟨_,aP.seq (SqL.of iQ),Vd _⟩) ?_
 ·rintro i ys H' hi ⟨qs,rfl,hq⟩
  have:=hq.length
  rw[U3,Ul] at this;rw[U3];exact zi (by omega)
 ·rintro i ys H' D2 Y Z hi M4 P3 aP ⟨qs,rfl,hq⟩ hY hZ;have sM:i<ps.length:=by rw[U3] at hi;exact hi
  refine⟨⟨_,_,aP.seq (SqL.of iQ),Xy hi⟩,?_⟩;rintro v nU ⟨rfl,hv⟩;have ev:=hv _ (aP.seq (SqL.of iQ));obtain⟨p,hp,rfl⟩:=ql ev;obtain⟨y,hy,pr⟩:=zf hp7 i p hp;obtain⟨a,b,e1,o1,o2⟩:=pr.mono aP;obtain⟨_,t9,tw,th,ts⟩:=nW y (Yn hy) y.t (.inl rfl);obtain⟨_,u9,uw,uh,us⟩:=nW y (Yn hy) y.u (.inr rfl);refine⟨p,_,rfl,SqT.of e1,rfl,_,_,rfl,_,_,rfl,rfl,⟨rfl,rfl⟩,?_⟩;refine dfm (n:=21) (dvA rfl) o1 th ts _ _ _ at0 λ r1 Ha ga ea=>?_
  refine dfm (n:=21) (dvA rfl) (o2.mono ga) uh us _ _ _ at0 λ r2 Hb gb eb=>⟨qB (by show 2<=_;decide),λ pp aS=>?_⟩
  have gc:=(ga.trans gb).to aS (o:=.tup [.ref r1,.ref r2]);have eD:=gc _ _ P3;have gX:zK (upd Hb pp (.tup [.ref r1,.ref r2])) (upd (upd Hb pp (.tup [.ref r1,.ref r2])) D2 (.lst (qs.map V.ref++[.ref pp]))):=zK.updL eD;refine hY _ _ eD (aP.trans gc) ⟨qs++[pp],by rw[Ja];rfl,?_⟩;rw[ze hy,Ja];have W9:∀{z:Addr}{vs:List V},upd Hb pp (.tup [.ref r1,.ref r2]) z=some (.tup vs)->upd (upd Hb pp (.tup [.ref r1,.ref r2])) D2 (.lst (qs.map V.ref++[.ref pp])) z=some (.tup vs):=λ h=>gX _ _ h (λ _ z=>nomatch z)
  refine q8 (zd (λ p' z hz=>?_) hq) (.cons ⟨r1,r2,W9 qd,W9 ((qk.up aS) _ _ (gb _ _ ea)),W9 ((qk.up aS) _ _ eb)⟩ .nil);obtain⟨x1,x2,k1,k2,k3⟩:=yw.mono hz gc;exact⟨x1,x2,W9 k1,W9 k2,W9 k3⟩
 rintro a2 H8 ys hA2 s8 h8 ⟨qs,rfl,hqs⟩;rw[U3,oB,Ut] at hqs;have wP:=s8 _ _ hx7;refine⟨_,rfl,x,CT,dx,_,rfl,wP,cT,n4,by show 3<1000;decide,?_⟩;obtain⟨H9,hH9⟩:∃ H9,H9=upd H8 x (.ins CT dx [("given_letters",vS gv),("gap_letters",vS gp),("wish_texts",.ref a1),("side_forms",.ref a2)]):=⟨_,rfl⟩;have b9:But x H8 H9:=by rw[hH9];exact(But.refl x H8).upd
 have hx9:H9 x=some (.ins CT dx [("given_letters",vS gv),("gap_letters",vS gp),("wish_texts",.ref a1),("side_forms",.ref a2)]):=by rw[hH9];exact qd
 have hA9:=vH wP b9 (s8 _ _ hA7);have hB9:=vH wP b9 h8;have hs9:=zd (λ p y h=>yw.but wP b9 h) hqs;have go9:∀ G:Hp->Prop,G H9->G (upd H8 x (.ins CT dx [("given_letters",vS gv),("gap_letters",vS gp),("wish_texts",.ref a1),("side_forms",.ref a2)])):=λ G h=>hH9 ▸ h
 refine go9 _ ?_;have wY:∀ z∈ws.map Wsh.side,On (gv++gp) z.1/\On (gv++gp) z.2:=λ z hz=>by
  obtain⟨y,hy,rfl⟩:=Q4.mp hz;exact⟨Tr.on (nW y hy y.t (.inl rfl)).1,Tr.on (nW y hy y.u (.inr rfl)).1⟩
 refine⟨_,rfl,x,CT,dx,_,_,rfl,hx9,cT,n4,rfl,a2,qs,ws.map Wsh.side,gv++gp,rfl,hB9,hs9,rl,pU,wY,λ a3 HA gA eA=>?_⟩;have rJ:=gA _ _ hx9;refine⟨_,rfl,x,CT,dx,_,rfl,rJ,cT,n5,by show 4<1000;decide,?_⟩;have bB:But x HA (upd HA x (.ins CT dx [("given_letters",vS gv),("gap_letters",vS gp),("wish_texts",.ref a1),("side_forms",.ref a2),("fault_form",.ref a3)])):=(But.refl x HA).upd;have B5:But x H H5:=(zL g3).trans b5;have B7:But x H H7:=(B5.trans (zL s6)).trans b7;have fr:∀{Ha:Hp}{z:Addr},But x H Ha->(∃ o,Ha x=some o)->Ha z=none->H z=none:=λ{Ha z} b wO hz=>by
  cases e:H z with
  |none=>rfl
  |some o =>
   by_cases hzx:z=x
   ·obtain⟨o',aT⟩:=wO;rw[hzx,aT] at hz;cases hz
   ·rw[b z o hzx e] at hz;cases hz
 refine q a1 a2 a3 qs _ ?_ (fr B5 ⟨_,hx5⟩ hA1) (fr B7 ⟨_,hx7⟩ hA2) ⟨qd,vH rJ bB (gA _ _ hA9),vH rJ bB (gA _ _ hB9),zd (λ p y h=>yw.but rJ bB (yw.mono h gA)) hs9,qcn rJ bB eA⟩;exact((((((zL g3).trans b5).trans (zL s6)).trans b7).trans (zL s8)).trans b9).trans ((zL gA).trans bB)
theorem qkN:FnScope ["text","letters"] ["text","letters"] (qj qdp):=scF
theorem qkO(F:Fun K "is_row" "is_row" qdp f fd)(T:Txt mg): FnOk P w K mg base CX0 1 f fd ["text","letters"] (qh0):=by
 refine F.okd qkN (λ cdv A outer s H vs Q E hr h=>?_);obtain⟨p,ls,rfl,l9,p9,hp,hl,q⟩:=h;refine⟨_,(qe (qo (zE zg (pv 0) (yA XQ Yg Yh jy qm (qa (zH (csc (NY:=["letter","text"]) (o:=1) (caps:=[0]) ["text"] rfl
    (by intro x hx;rw[Zn.mp hx];exact .inl rfl) (kq rfl rfl rfl y7) rfl) rfl
    (kf (pv 1)) (λ C0 s H fp pins=>qr (i:=0) (show(["letter","text"]:List Str).Nodup by decide +kernel) rfl (Or.inl rfl)) (λ C0 s H fp pins=>(qac (qx qae (pv 0) (pv 1) rfl))) (λ C0 s H fp pins=>(pv 0))) qb)) (qy _)))),?_⟩
 have hz:("":Str).length=0:=by decide
 have hs:(qi ls).cps.size=ls.length:=qD ls;refine⟨_,rfl,rfl,?_⟩;refine⟨_,rfl,_,rfl,?_⟩;refine qc2 (λ j=>((ls.take j).filter λ c=>decide (c∈p)).map λ c=>vS [c]) rfl (λ j hj=>?_) ?_ ?_
 ·rw[U3];have:=Ye (λ c=>decide (c∈p)) (ls.take j);rw[Ul] at this;exact zi (by omega)
 ·intro j H6 D6 Y Z hj mY C9 G6 hY hZ;rw[hs] at hj;rw[jp hj];have fs:=kM (f:=λ c=>decide (c∈p)) hj;refine⟨⟨rfl,rfl⟩,?_⟩;refine⟨_,rfl,_,rfl,_,_,rfl,rfl,_,rfl,?_⟩;refine vV (λ c=>?_) (λ c=>?_)
  ·refine⟨_,rfl,hY _ _ C9 G6 ?_⟩;show List.map _ ((ls.take (j+1)).filter _)=_
   rw[fs,V4 c,Ja];rfl
  ·refine hZ _ C9 G6 ?_;show List.map _ ((ls.take (j+1)).filter _)=_
   rw[fs,V5 c,U4]
 ·intro D6 H6 mY G6 C9;rw[hs,Ut,qf0 hl (hl.sublist hp) (λ c h=>hp.subset h)] at C9;refine⟨_,D6,(p.map λ c=>[c]).map qi,rfl,rfl,.inl (SqL.of (by rw[C9,vm,zI])),?_,?_⟩
  ·rw[yY,hz,zB];show _+_*0<=_;omega
  rw[yX,zB];refine⟨rfl,?_⟩;rw[show decide (V.str (qi p)=V.str (qi p))=true from qoi p];exact q _ G6
def Scr(K:W.Frag)(H:Hp)(a:Addr)(ns:List Int):Prop:=SqL K H a (ns.map V.int)/\ns.length<=63
theorem Scr.mono(h:Scr K H a ns)(g:qk H H'):Scr K H' a ns:=⟨g.seq h.1,h.2⟩
theorem qh2{ns:List Int}(h0:0<=k)(h:k<(ns.length:Int)):∃ v:Int,atI (ns.map V.int) k=some (.int v):=by
 have hk:k.toNat<ns.length:=by omega
 have ek:k=((k.toNat:Nat):Int):=by omega
 have:=yr (xs:=ns.map V.int) (j:=k.toNat) (v:=.int ns[k.toNat]) (by rw[Zt,Xy hk];rfl)
 rw[<- ek] at this;exact⟨_,this⟩
theorem qiW{c:Prop}[Decidable c]{A B:Prop}(R:Int->Prop)(hA:c->(∀ z,R z)->A)(hB:¬ c->(∀ z,R z)->B)(hC:∀ z,R z):if c then A else B:=by
 by_cases h:c
 ·rw[V4 h];exact hA h hC
 ·rw[V5 h];exact hB h hC
def y2(K:W.Frag):Sp:=λ vs H Q _=>∃(a:Addr)(ns:List Int)(k:Int),vs=[.ref a,.int k]/\Scr K H a ns/\0<=k/\k<=100000/\∀ z H',qk H H'->0<=z->z<1000000->Q (.int z) H'
theorem jU:FnScope [sA1,sA7,sB5,"_law_turn"] [sA1,sA7] (qj k5):=scF
theorem qkP(F:Fun K sB0 sB0 k5 f fd)(T:Txt mg): FnOk P w K mg base CX0 1 f fd [sA1,sA7] (y2 K):=by
 refine F.okd jU (λ cdv A outer s H vs Q E hr h=>?_);obtain⟨a,ns,k,rfl,hS0,k0,k1,q⟩:=h;refine⟨_,(qc (qt (i:=2) jU.nd rfl (Or.inl rfl) qf)
  (qc (zb (qx jM (qz qA (by rfl) T.len J9 (qa (pv 0) qb)) qf (qy _))
   (qe (qt (i:=2) jU.nd rfl (Or.inl rfl) (qY zj (pv 0) (qp zc (pv 1) (qz qA (by rfl) T.len J9 (qa (pv 0) qb))) (λ _ _=>rfl)))) qF)
  (qc (zb (PW.pt (qer (qx jM (qz qA (by rfl) T.len J9 (qa (pv 0) qb)) qf (qy _))
   (qcb (qx zg (qp zc (qY zj (pv 0) qf (λ _ _=>rfl)) qf) qf (qy _)))))
   (qc (qt (i:=2) jU.nd rfl (Or.inl rfl) (qp yH (pv 2) qf))
  (qc (yq Jk rfl (zM (by rfl) T.range (qa (qz (qig rfl) (by rfl) T.min qnq (qa (qp yH (pv 1) (qz qA (by rfl) T.len J9 (qa (pv 0) qb))) (qa qf qb))) qb)) (qr (i:=3) jU.nd rfl (Or.inl rfl))
  (qe (qt (i:=2) jU.nd rfl (Or.inl rfl) (qp yH (pv 2) qf))))
  (qe (qo (qp zc (pv 2) qf))))) qF)
  (qe (qo (qp zc (qp vQ (qp zc (qp vQ (qp zz (qp zz (qp zc (pv 2) qf) (qp vQ qf (pv 1))) qf) qf) qf) qf) qf)))))),?_⟩
 obtain⟨hS,oR⟩:=hS0;have hl:(ns.map V.int).length=ns.length:=U3 _;have q':∀ z:Int,0<=z->z<1000000->Q (.int z) H:=λ z h1 h2=>q z H (qk.refl H) h1 h2
 refine⟨_,rfl,a,_,rfl,.inl hS,_,_,rfl,rfl,_,rfl,?_⟩;rw[hl];refine qiW ?R (λ c1 C=>?hA) (λ c1 C=>?hB) ?hC
 case hA =>
  have c1':(0:Int)<(ns.length:Int):=Ui c1;obtain⟨v,hv⟩:=qh2 (ns:=ns) (k:=k % (ns.length:Int)) (Jd k (by omega)) (Zo k c1');refine⟨_,rfl,_,rfl,_,rfl,a,_,rfl,.inl hS,?_⟩;rw[hl];refine⟨_,_,rfl,rfl,c1',a,_,_,_,rfl,rfl,hS,hv,?_⟩;exact C v
 case hB=>exact C 0
 intro c;have fin:∀ z:Int,Q (.int (z % 999983)) H:=λ z=>q' _ (Jd z (by decide)) (by have:=Zo z (b:=999983) (by decide);omega)
 refine⟨_,rfl,a,_,rfl,.inl hS,_,_,rfl,rfl,_,rfl,?_⟩;rw[hl];have kb:-(2^64)<k/\k<2^64:=⟨by omega,by omega⟩;refine vV (λ c1=>?_) (λ c1=>?_)
 ·have c1':(0:Int)<(ns.length:Int):=Ui c1;obtain⟨v0,hv0⟩:=qh2 (ns:=ns) (k:=0) (by decide) c1';refine⟨_,rfl,a,_,0,_,rfl,rfl,hS,hv0,_,_,rfl,rfl,(show(0:Int)<2 by decide),rfl,_,rfl,?_⟩;refine vV (λ c2=>?_) (λ c2=>?_)
  ·refine⟨_,rfl,_,_,rfl,rfl,⟨by decide,by decide⟩,?_⟩;refine⟨_,rfl,_,rfl,a,_,rfl,.inl hS,?_⟩;rw[hl];refine⟨_,_,rfl,rfl,⟨by omega,by omega⟩,_,_,rfl,?_⟩;have d0:0<=k / (ns.length:Int):=Int.ediv_nonneg k0 (by omega);refine⟨_,rfl,?_,?_,?_⟩
   ·show -(2^62)<=(if (24:Int)<k / (ns.length:Int) then(24:Int) else k / (ns.length:Int))
    split <;> omega
   ·show(if (24:Int)<k / (ns.length:Int) then(24:Int) else k / (ns.length:Int))<2^62
    split <;> omega
   refine yj (λ i σ H1=>∃(c:Int)(v:Option V),σ=[some (.ref a),some (.int k),some (.int c),v]/\H1=H) ⟨_,none,rfl,rfl⟩ ?_ ?_
   ·rintro i σ H1 hi ⟨c,v,rfl,rfl⟩;refine⟨_,rfl,_,_,rfl,rfl,⟨by decide,by decide⟩,?_⟩;exact⟨_,_,rfl,rfl⟩
   ·rintro σ H1 ⟨c,v,rfl,rfl⟩;refine⟨_,rfl,_,_,rfl,rfl,(show(0:Int)<4096 by decide),?_⟩;exact q' _ (Jd _ (by decide)) (by have:=Zo c (b:=4096) (by decide);omega)
  ·refine⟨_,rfl,_,_,rfl,rfl,(show(0:Int)<1000003 by decide),_,rfl,_,_,rfl,rfl,.inr kb,_,_,rfl,rfl,_,_,rfl,rfl,_,_,rfl,rfl,.inr ⟨by decide,by decide⟩,_,_,rfl,rfl,(show(0:Int)<1000033 by decide),_,_,rfl,rfl,.inr ⟨by decide,by decide⟩,_,_,rfl,rfl,(show(0:Int)<999983 by decide),?_⟩;exact fin _
 ·refine yp ?_;refine⟨_,rfl,_,_,rfl,rfl,(show(0:Int)<1000003 by decide),_,rfl,_,_,rfl,rfl,.inr kb,_,_,rfl,rfl,_,_,rfl,rfl,_,_,rfl,rfl,.inr ⟨by decide,by decide⟩,_,_,rfl,rfl,(show(0:Int)<1000033 by decide),_,_,rfl,rfl,.inr ⟨by decide,by decide⟩,_,_,rfl,rfl,(show(0:Int)<999983 by decide),?_⟩;exact fin _
noncomputable def qhb:List (List Nat):=[[97,98,99],[97,98],[97],[],[98,99],[99],[97,99],[98]]
noncomputable def qhc:List (List Nat):=[[120,121],[120,121,122],[120],[],[121,122],[122],[120,122],[120,121]]
theorem qhd:[V.str "abc",V.str "ab",V.str "a",V.str "",V.str "bc",V.str "c",V.str "ac",V.str "b"]=qhb.map vS:=by
 have e1:("abc":Str)=qi [97,98,99]:=by decide +kernel
 have e2:("ab":Str)=qi [97,98]:=by decide +kernel
 have e3:("a":Str)=qi [97]:=by decide +kernel
 have e4:("":Str)=qi []:=by decide +kernel
 have e5:("bc":Str)=qi [98,99]:=by decide +kernel
 have e6:("c":Str)=qi [99]:=by decide +kernel
 have e7:("ac":Str)=qi [97,99]:=by decide +kernel
 have e8:("b":Str)=qi [98]:=by decide +kernel
 rw[e1,e2,e3,e4,e5,e6,e7,e8];rfl
theorem qhe:[V.str "xy",V.str "xyz",V.str "x",V.str "",V.str "yz",V.str "z",V.str "xz",V.str "xy"]=qhc.map vS:=by
 have e1:("xy":Str)=qi [120,121]:=by decide +kernel
 have e2:("xyz":Str)=qi [120,121,122]:=by decide +kernel
 have e3:("x":Str)=qi [120]:=by decide +kernel
 have e4:("":Str)=qi []:=by decide +kernel
 have e5:("yz":Str)=qi [121,122]:=by decide +kernel
 have e6:("z":Str)=qi [122]:=by decide +kernel
 have e7:("xz":Str)=qi [120,122]:=by decide +kernel
 rw[e1,e2,e3,e4,e5,e6,e7];rfl
theorem qkQ{l:List (List Nat)}(h0:0<=i)(h:i<(l.length:Int)):∃ c∈l,atI (l.map vS) i=some (vS c):=by
 have hk:i.toNat<l.length:=by omega
 have:=yr (xs:=l.map vS) (j:=i.toNat) (v:=vS l[i.toNat]) (by rw[Zt,Xy hk];rfl)
 rw[show((i.toNat:Nat):Int)=i by omega] at this;exact⟨_,Ur hk,this⟩
def qhf(K:W.Frag):Sp:=λ vs H Q _=>∃(a:Addr)(ns:List Int),vs=[.ref a]/\Scr K H a ns/\∀ r (gv gp:List Nat) H',qk H H'->H' r=some (.tup [vS gv,vS gp])->gv.Sublist [97,98,99]->gp.Sublist [120,121,122]->Q (.ref r) H'
theorem qe4:FnScope [sA1,sB5,sA6] [sA1] (qj jH):=scF
theorem qme(F:Fun K sC1 sC1 jH f fd)(T:Txt mg)(c6:Dp P w K mg base 1 n6 n8 [sA1,sA7] (y2 K) sB0): FnOk P w K mg base CX0 2 f fd [sA1] (qhf K):=by
 refine F.okd qe4 (λ cdv A outer s H vs Q E hr h=>?_);obtain⟨a,ns,rfl,hS,q⟩:=h;refine⟨_,(qc (qt (i:=1) qe4.nd rfl (Or.inl rfl) (zk c6 hr (qa (pv 0) (qa qf qb))))
  (qc (qt (i:=2) qe4.nd rfl (Or.inl rfl) (qY zj (zO (qa qm (qa qm (qa qm (qa qm (qa qm (qa qm (qa qm (qa qm qb))))))))) (qp zc (pv 1) qf) (λ _ _=>rfl)))
  (qe (qo (zF (qa (pv 2) (qa (qY zj (zO (qa qm (qa qm (qa qm (qa qm (qa qm (qa qm (qa qm (qa qm qb))))))))) (qp zc (qp yH (pv 1) qf) qf) (λ _ _=>rfl)) qb))))))),?_⟩
 refine⟨_,rfl,a,ns,0,rfl,hS,by decide,by decide,λ z H1 g1 z0 z1=>?_⟩;refine⟨qB (by show 8<=_;decide),λ p hp=>?_⟩;have n0:=Jd z (b:=8) (by decide);have n1:=Zo z (b:=8) (by decide);obtain⟨gv,hgv,bK⟩:=qkQ (l:=qhb) n0 n1;rw[<- qhd] at bK
 have s1:gv.Sublist [97,98,99]:=(by decide:∀ l∈qhb,l.Sublist [97,98,99]) gv hgv;refine⟨_,rfl,_,_,rfl,rfl,(show(0:Int)<8 by decide),p,_,_,_,rfl,rfl,SqL.of qd,bK,?_⟩;have g2:=g1.to hp (o:=.lst [V.str "abc",V.str "ab",V.str "a",V.str "",V.str "bc",V.str "c",V.str "ac",V.str "b"]);have m0:=Jd (z / 8) (b:=8) (by decide);have m1:=Zo (z / 8) (b:=8) (by decide);obtain⟨gp,hgp,tE⟩:=qkQ (l:=qhc) m0 m1;rw[<- qhe] at tE;have s2:gp.Sublist [120,121,122]:=(by decide:∀ l∈qhc,l.Sublist [120,121,122]) gp hgp;refine⟨_,rfl,qB (by show 8<=_;decide),λ p2 W1=>?_⟩;have g3:=g2.to W1 (o:=.lst [V.str "xy",V.str "xyz",V.str "x",V.str "",V.str "yz",V.str "z",V.str "xz",V.str "xy"]);refine⟨_,rfl,_,_,rfl,rfl,⟨by decide,by decide⟩,_,_,rfl,rfl,(show(0:Int)<8 by decide),p2,_,_,_,rfl,rfl,SqL.of qd,tE,qB (by show 2<=_;decide),λ r E4=>?_⟩;exact q r gv gp _ (g3.to E4) qd s1 s2
noncomputable def qh3:List Nat:=[97,108,119,97,121,115]
noncomputable def qhg:List Nat:=[110,101,118,101,114]
noncomputable def qkR:List Nat:=[110,111,116]
noncomputable def qbP:List Nat:=[97,110,100]
noncomputable def wOr:List Nat:=[111,114]
noncomputable def ji:List Nat:=[101,105,116,104,101,114]
theorem qaW:("always":Str)=qi qh3:=by decide +kernel
theorem qiX:("never":Str)=qi qhg:=by decide +kernel
theorem qe5:("not":Str)=qi qkR:=by decide +kernel
theorem qe6:("and":Str)=qi qbP:=by decide +kernel
theorem qhh:("or":Str)=qi wOr:=by decide +kernel
theorem qdy:("either":Str)=qi ji:=by decide +kernel
noncomputable def opW(op:Nat):List Nat:=if op=38 then qbP else if op=124 then wOr else ji
def TrW(H:Hp):Tr->V->Prop
 |.letter c,v=>∃ a,v=.ref a/\H a=some (.tup [vS qeY,vS [c]])
 |.one,v=>∃ a,v=.ref a/\H a=some (.tup [vS qh3])
 |.zero,v=>∃ a,v=.ref a/\H a=some (.tup [vS qhg])
 |.neg t,v=>∃ a x,v=.ref a/\H a=some (.tup [vS qkR,x])/\TrW H t x
 |.bin op t u,v=>∃ a x y,v=.ref a/\H a=some (.tup [vS (opW op),x,y])/\TrW H t x/\TrW H u y
theorem TrW.mono(g:zJ H H'):∀{t:Tr}{v:V},TrW H t v->TrW H' t v
 |.letter c,_,⟨a,e,h⟩=>⟨a,e,g _ _ h⟩
 |.one,_,⟨a,e,h⟩=>⟨a,e,g _ _ h⟩
 |.zero,_,⟨a,e,h⟩=>⟨a,e,g _ _ h⟩
 |.neg t,_,⟨a,x,e,h,r⟩=>⟨a,x,e,g _ _ h,TrW.mono g r⟩
 |.bin op t u,_,⟨a,x,y,e,h,r,r'⟩=>⟨a,x,y,e,g _ _ h,TrW.mono g r,TrW.mono g r'⟩
def qe7:Sp:=λ vs H Q _=>∃(m:Int)(ls:List Nat),vs=[.int m,vS ls]/\0<=m/\ls.length<=9/\∀ t v H',qk H H'->TrW H' t v->t.Of ls->t.wt=1->Q v H'
theorem qmf:FnScope [sB5,sA0] [sB5,sA0] (qj qaN):=scF
theorem qmg(F:Fun K sD2 sD2 qaN f fd)(T:Txt mg): FnOk P w K mg base CX0 1 f fd [sB5,sA0] (qe7):=by
 refine F.okd qmf (λ cdv A outer s H vs Q E hr h=>?_);obtain⟨m,ls,rfl,m0,l9,q⟩:=h;refine⟨_,(qc (zb (qx zg (qp zc (pv 0) qf) qf (qy _))
   (qe (qo (zF (qa qm qb)))) qF)
  (qc (zb (PW.pt (qfj (qx zg (qp zc (pv 0) qf) qf (qy _))
   (qct (qx zg (pv 1) qm (qy _)))))
   (qe (qo (zF (qa qm qb)))) qF)
  (qe (qo (zF (qa qm (qa (qY qmZ (pv 1) (qp zc (qp yH (pv 0) qf) (qz zG (by rfl) T.len J9 (qa (pv 1) qb))) (λ _ _=>rfl)) qb))))))),?_⟩
 rw[qaW,qiX,qaS,show("":Str)=qi [] by decide +kernel];have hl:(qi ls).length=ls.length:=qD ls;refine⟨_,rfl,_,_,rfl,rfl,(show(0:Int)<9 by decide),rfl,_,rfl,?_⟩;refine vV (λ c1=>?_) (λ c1=>?_)
 ·refine⟨qB (by show 1<=_;decide),λ p hp=>?_⟩;exact q .one _ _ (qk.up hp) ⟨p,rfl,qd⟩ trivial rfl
 have never:qlj (qnW (vJ (tC (.str (qi qhg))) yT)) { nx:=λ x H'=>Q V.non H',rt:=Q } [some (.int m),some (vS ls)] H:=⟨qB (by show 1<=_;decide),λ p hp=>q .zero _ _ (qk.up hp) ⟨p,rfl,qd⟩ trivial rfl⟩;refine⟨_,rfl,_,_,rfl,rfl,(show(0:Int)<9 by decide),rfl,_,rfl,?_⟩;refine vV (λ c2=>?_) (λ c2=>?_)
 ·exact j4 never
 refine⟨_,rfl,rfl,_,rfl,?_⟩;refine vV (λ c3=>?_) (λ c3=>?_)
 ·exact never
 have ne:0<ls.length:=by
  cases ls with
  |nil=>exact absurd rfl c3
  |cons x l=>simp
 have i0:=Jd (m / 9) (b:=(ls.length:Int)) (by omega);have i1:=Zo (m / 9) (b:=(ls.length:Int)) (by omega);obtain⟨c,hc,bK⟩:=qop (l:=ls) i0 i1;refine⟨_,rfl,_,rfl,_,_,rfl,rfl,⟨by decide,by decide⟩,_,rfl,_,rfl,by rw[hl];exact qB (by omega),?_⟩;rw[hl];refine⟨_,_,rfl,rfl,(by show(0:Int)<(ls.length:Int);omega),_,_,c,rfl,rfl,by rw[hl];exact qB (by omega),bK,qB (by show 2<=_;decide),λ p hp=>?_⟩;exact q (.letter c) _ _ (qk.up hp) ⟨p,rfl,qd⟩ hc rfl
inductive StW(ls:List Nat)(H:Hp):List V->Nat->Prop where
 |nil:StW ls H [] 0
 |snoc {ws:List V} {n:Nat} {x:V} {t:Tr} (h:StW ls H ws n) (tr:TrW H t x) (of:t.Of ls):StW ls H (ws++[x]) (n+t.wt)
theorem StW.mono(h:StW ls H vs n)(g:zJ H H'):StW ls H' vs n:=by
 induction h with
 |nil=>exact .nil
 |snoc h tr of ih=>exact ih.snoc (tr.mono g) of
theorem StW.len(h:StW ls H vs n):vs.length<=n:=by
 induction h with
 |nil=>exact Vd _
 | @snoc ws n x t h tr of ih=>rw[Zh,XW];have:=t.wt_pos;omega
theorem StW.top(h:StW ls H vs n)(hl:0<vs.length):∃ ws x t k,vs=ws++[x]/\TrW H t x/\t.Of ls/\StW ls H ws k/\n=k+t.wt:=by
 cases h with
 |nil=>cases hl
 |snoc h tr of=>exact⟨_,_,_,_,rfl,tr,of,h,rfl⟩
theorem qdz(ws:List V)(x y:V):(ws++[x]).set ws.length y=ws++[y]:=by simp
theorem qkS:[V.str (qi qbP),V.str (qi wOr),V.str (qi ji),V.str (qi qbP)]=([38,124,43,38].map opW).map vS:=rfl
theorem qiY:[V.str (qi ji),V.str (qi qbP),V.str (qi wOr)]=([43,38,124].map opW).map vS:=rfl
theorem qh4{l:List Nat}(h0:0<=i)(h:i<(l.length:Int)):∃ c∈l,atI ((l.map opW).map vS) i=some (vS (opW c)):=by
 have hk:i.toNat<l.length:=by omega
 have:=yr (xs:=(l.map opW).map vS) (j:=i.toNat) (v:=vS (opW l[i.toNat])) (by rw[Zt,Zt,Xy hk];rfl)
 rw[show((i.toNat:Nat):Int)=i by omega] at this;exact⟨_,Ur hk,this⟩
def qhi(K:W.Frag):Sp:=λ vs H Q _=>∃(a:Addr)(ns:List Int)(I0 m:Int)(ls:List Nat),vs=[.ref a,.int I0,.int m,vS ls]/\Scr K H a ns/\0<=I0/\I0<=1000/\1<=m/\m<=100/\ls.length<=9 /\
 ∀ t v H',qk H H'->TrW H' t v->t.Of ls->(t.wt:Int)<=m->Q v H'
theorem qan:FnScope [sA1,sB9,sA8,sA0,"_law_stack",sA7,sB5,sB1] [sA1,sB9,sA8,sA0] (qj qaO):=scF
theorem qmh(F:Fun K sD3 sD3 qaO f fd)(T:Txt mg)(Gm:Dp P w K mg base 1 fm fdm [sA1,sA7] (y2 K) sB0)(Gl:Dp P w K mg base 1 fl nF [sB5,sA0] qe7 sD2):FnOk P w K mg base CX0 2 f fd [sA1,sB9,sA8,sA0] (qhi K):=by
 refine F.okd qan (λ cdv A outer s H vs Q E hr h=>?_);obtain⟨a,ns,I0,m,ls,rfl,hS,a0,a1,m0,m1,l9,q⟩:=h;have B0:Room 1 _:=hr.mono (by decide);refine⟨_,(qc (qt (i:=4) qan.nd rfl (Or.inl rfl) (zO qb))
  (qc (yq Jk rfl (zM (by rfl) T.range (qa (pv 2) qb)) (qr (i:=5) qan.nd rfl (Or.inl rfl))
  (qc (qt (i:=6) qan.nd rfl (Or.inl rfl) (zk Gm B0 (qa (pv 0) (qa (qp zz (pv 1) (pv 5)) qb))))
  (qe (zb (PW.pt (qfj (qx qnU (qp zc (pv 6) qf) qf (qy _)) (qct (qx zg (qz qA (by rfl) T.len J9 (qa (pv 4) qb)) qf (qy _))))) (qe (ja (yA XE X2 X3 zV (pv 4) (qa (zk Gl B0 (qa (qp yH (pv 6) qf) (qa (pv 3) qb))) qb)))) (qe (zb (qx zg (qp zc (pv 6) qf) qf (qy _)) (qe (qcy (zF (qa qm (qa (qY zj (pv 4) (qaX jY qf) (λ _ _=>rfl)) qb))) (qes (pv 4) (qaX jY qf) qa1))) (qe (zb (qx jM (qz qA (by rfl) T.len J9 (qa (pv 4) qb)) qf (qy _)) (qc (qt (i:=7) qan.nd rfl (Or.inl rfl) (qey XE Yi Yj qez (pv 4)))
  (qe (qcy (zF (qa (qY zj (zO (qa qm (qa qm (qa qm (qa qm qb))))) (qp qje (qp zc (pv 6) qf) qf) (λ _ _=>rfl)) (qa (qY zj (pv 4) (qaX jY qf) (λ _ _=>rfl)) (qa (pv 7) qb)))) (qes (pv 4) (qaX jY qf) qa1)))) qF))))))))
  (qc (qfl Jk (qx jM (qz qA (by rfl) T.len J9 (qa (pv 4) qb)) qf (qy _)) (qc (qt (i:=7) qan.nd rfl (Or.inl rfl) (qey XE Yi Yj qez (pv 4)))
  (qe (qcy (zF (qa (qY zj (zO (qa qm (qa qm (qa qm qb)))) (qp zc (qz qA (by rfl) T.len J9 (qa (pv 4) qb)) qf) (λ _ _=>rfl)) (qa (qY zj (pv 4) (qaX jY qf) (λ _ _=>rfl)) (qa (pv 7) qb)))) (qes (pv 4) (qaX jY qf) qa1)))))
  (qe (qo (qY zj (pv 4) qf (λ _ _=>rfl))))))),?_⟩
 rw[qe5,qe6,qhh,qdy];have cX:(0:Int)<8:=by decide
 refine⟨Ve _,λ tb rL=>?_⟩;have fT:H tb=none:=rL;refine⟨_,rfl,m,rfl,by omega,by omega,?_⟩;refine yj (λ i σ H'=>∃(vs:List V)(n:Nat)(v5 v6 v7:Option V),σ=[some (.ref a),some (.int I0),some (.int m),some (vS ls),some (.ref tb),v5,v6,v7]/\qk H H'/\H' tb=some (.lst vs)/\StW ls H' vs n/\n<=i/\(0<i->0<vs.length))
  ⟨[],0,none,none,none,rfl,qk.up rL,qd,.nil,Vd _,λ h=>absurd h (Qh _)⟩ ?_ ?_
 ·rintro i σ H3 hi ⟨vs,n,v5,v6,v7,rfl,g3,e3,sk,hn,hv⟩;have sM:(i:Int)<m:=by omega
  have lv:=sk.len;refine⟨_,rfl,_,rfl,_,rfl,_,_,rfl,rfl,a,ns,_,rfl,hS.mono g3,?_,?_,λ z H4 g4 z0 z1=>?_⟩
  ·show(0:Int)<=I0+(0+(i:Int));omega
  ·show I0+(0+(i:Int))<=100000;omega
  have e4:=g4 _ _ e3;have tN:=g3.trans g4;have sk4:=sk.mono (zw g4);dsimp only[vI];refine yt (qpk qC (qpl qC (qmA qC (dvA rfl) cX) dC) (zy (dIE qC (qpm (K:=K) (by rfl) (SqL.of e4)) dC))) at0 (λ hb H5 g5=>?_) (λ hb H5 g5=>?_)
  ·have e5:=g5 _ _ e4;refine⟨_,rfl,.inl ⟨rfl,_,SqL.of e5⟩,_,rfl,_,_,rfl,rfl,⟨by decide,by decide⟩,_,rfl,z / 8,ls,rfl,Int.ediv_nonneg z0 (by decide),l9,λ t' v' H6 g6 tr' tof' tw'=>⟨tb,vs,v',rfl,rfl,g6 _ _ e5,zi (by omega),?_⟩⟩;have e6:=g6 _ _ e5;refine⟨vs++[v'],n+t'.wt,_,_,_,rfl,((tN.trans g5).trans g6).at fT,qd,?_,by omega,λ _=>by simp⟩;exact(((sk4.mono (zw g5)).mono (zw g6)).mono (zJ.updL e6)).snoc (tr'.mono (zJ.updL e6)) tof'
  have e5:=g5 _ _ e4;have mZ:=tN.trans g5;rw[Bool.or_eq_false_iff] at hb;have P8:¬ z % 8<3:=Zr hb.1;have S0:¬ ((vs.length:Nat):Int)=0:=Zr hb.2;have z80:=Jd z (b:=8) (by decide);have z81:=Zo z (b:=8) (by decide);obtain⟨ws,x,t,k,rfl,tx,ox,nX,rfl⟩:=(sk4.mono (zw g5)).top (by omega);refine yt (zy (dIE qC (qmA qC (dvA rfl) cX) dC)) at0 (λ hb3 H6 g6=>?_) (λ hb3 H6 g6=>?_)
  ·have e6:=g6 _ _ e5;refine⟨_,rfl,_,rfl,tb,_,_,_,rfl,rfl,SqL.of e6,vU ws x,qB (by show 2<=_;decide),λ p hp=>?_⟩;have e7:upd H6 p (.tup [vS qkR,x]) tb=some (.lst (ws++[x])):=(qk.up hp) _ _ e6;refine⟨_,rfl,_,rfl,tb,_,_,ws.length,rfl,rfl,e7,by rw[Zh,XW];exact qbp _,?_⟩;rw[qdz];have cc:zJ H5 (upd (upd H6 p (.tup [vS qkR,x])) tb (.lst (ws++[.ref p]))):=((zw g6).trans (zw (qk.up hp))).trans (zJ.updL e7);refine⟨ws++[.ref p],k+(t.wt+1),_,_,_,rfl,((mZ.trans g6).to hp).at fT,qd,?_,by omega,λ _=>by simp⟩;exact StW.snoc (t:=.neg t) (nX.mono cc) ⟨p,x,rfl,(zJ.updL e7) _ _ qd,tx.mono cc⟩ ox
  have hb3':¬ z % 8=3:=Zr hb3;have e6:=g6 _ _ e5;refine⟨_,rfl,tb,_,rfl,.inl (SqL.of e6),_,_,rfl,rfl,_,rfl,?_⟩;refine vV (λ cw=>?_) (λ cw=>?_)
  ·have uK:(1:Int)<(((ws++[x]).length:Nat):Int):=Ui cw;rw[Zh,XW] at uK;obtain⟨us,y,t',k',rfl,ty,oy,sku,rfl⟩:=nX.top (by omega);refine⟨_,rfl,.inl ⟨rfl,_,SqL.of e6⟩,tb,_,x,rfl,rfl,e6,qak _ x,?_⟩;rw[Yv];have e7:upd H6 tb (.lst (us++[y])) tb=some (.lst (us++[y])):=qd;obtain⟨c,hc,bK⟩:=qh4 (l:=[38,124,43,38]) (i:=z % 8-4) (by omega) (by show z % 8-4<4;omega);rw[<- qkS] at bK
   refine⟨qB (by show 4<=_;decide),λ pl p8=>?_⟩;have e8:upd (upd H6 tb (.lst (us++[y]))) pl (.lst [V.str (qi qbP),V.str (qi wOr),V.str (qi ji),V.str (qi qbP)]) tb=some (.lst (us++[y])):=(qk.up p8) _ _ e7;refine⟨_,rfl,_,_,rfl,rfl,cX,_,_,rfl,rfl,pl,_,_,_,rfl,rfl,SqL.of qd,bK,_,rfl,_,rfl,tb,_,_,_,rfl,rfl,SqL.of e8,vU us y,_,rfl,qB (by show 3<=_;decide),λ p hp=>?_⟩;have e9:=(qk.up hp (o:=.tup [vS (opW c),y,x])) _ _ e8;refine⟨_,rfl,_,rfl,tb,_,_,us.length,rfl,rfl,e9,by rw[Zh,XW];exact qbp _,?_⟩;rw[qdz];have c1:zJ H5 (upd H6 tb (.lst (us++[y]))):=(zw g6).trans (zJ.updL e6);have c2:=c1.trans (zw (qk.up p8 (o:=.lst [V.str (qi qbP),V.str (qi wOr),V.str (qi ji),V.str (qi qbP)])));have c3:=c2.trans (zw (qk.up hp (o:=.tup [vS (opW c),y,x])));have c4:=zJ.updL e9 (o:=.lst (us++[.ref p]));have cc:=c3.trans c4;have E5:c=38∨c=124∨c=43:=by
    have:c=38∨c=124∨c=43∨c=38:=by simpa using hc
    rcases this with e|e|e|e <;> simp[e]
   refine⟨us++[.ref p],k'+(t'.wt+t.wt),_,_,_,rfl,((((mZ.trans g6).at fT).to p8).to hp).at fT,qd,?_,by omega,λ _=>by simp⟩;exact StW.snoc (t:=.bin c t' t) (sku.mono cc) ⟨p,y,x,rfl,c4 _ _ qd,ty.mono cc,tx.mono cc⟩ ⟨E5,oy,ox⟩
  ·refine⟨ws++[x],k+t.wt,_,_,_,rfl,mZ.trans g6,e6,?_,by omega,λ _=>by simp⟩;exact(nX.mono (zw g6)).snoc (tx.mono (zw g6)) ox
 ·rintro σ H3 ⟨vs,n,v5,v6,v7,rfl,g3,e3,sk,hn,hv⟩;have lv:0<vs.length:=hv (by omega);refine⟨λ μ σ H'=>∃(vs:List V)(n:Nat)(v7:Option V),σ=[some (.ref a),some (.int I0),some (.int m),some (vS ls),some (.ref tb),v5,v6,v7]/\qk H H'/\H' tb=some (.lst vs)/\0<vs.length/\StW ls H' vs n/\n<=m.toNat/\μ=vs.length,⟨_,vs,n,v7,rfl,g3,e3,lv,sk,hn,rfl⟩,?_⟩;rintro μ σ H4 ⟨vs,n,v7,rfl,g4,e4,lv,sk,hn,rfl⟩;have lvn:=sk.len;refine⟨_,rfl,tb,_,rfl,.inl (SqL.of e4),_,_,rfl,rfl,_,rfl,?_⟩;refine vV (λ cw=>?_) (λ cw=>?_)
  ·have uK:(1:Int)<((vs.length:Nat):Int):=Ui cw;obtain⟨ws,x,t,k,rfl,tx,ox,nX,rfl⟩:=sk.top lv;rw[Zh,XW] at uK;obtain⟨us,y,t',k',rfl,ty,oy,sku,rfl⟩:=nX.top (by omega);refine⟨λ σ' H'=>∃(lC:List V)(n:Nat)(v7:Option V),σ'=[some (.ref a),some (.int I0),some (.int m),some (vS ls),some (.ref tb),v5,v6,v7]/\qk H H'/\H' tb=some (.lst lC)/\0<lC.length/\StW ls H' lC n/\n<=m.toNat/\lC.length<(us++[y]++[x]).length,?_,?_⟩
   ·rintro σ' H' ⟨lC,n,v7,e,b1,b2,b3,b4,b5,b6⟩;exact⟨lC.length,b6,lC,n,v7,e,b1,b2,b3,b4,b5,rfl⟩
   refine⟨_,rfl,.inl ⟨rfl,_,SqL.of e4⟩,tb,_,x,rfl,rfl,e4,qak _ x,?_⟩;rw[Yv];have e7:upd H4 tb (.lst (us++[y])) tb=some (.lst (us++[y])):=qd;have n0:=Jd (((us++[y]).length:Nat):Int) (b:=3) (by decide);have n1:=Zo (((us++[y]).length:Nat):Int) (b:=3) (by decide);obtain⟨c,hc,bK⟩:=qh4 (l:=[43,38,124]) n0 n1;rw[<- qiY] at bK
   refine⟨qB (by show 3<=_;decide),λ pl p8=>?_⟩;have e8:upd (upd H4 tb (.lst (us++[y]))) pl (.lst [V.str (qi ji),V.str (qi qbP),V.str (qi wOr)]) tb=some (.lst (us++[y])):=(qk.up p8) _ _ e7;refine⟨_,rfl,tb,_,rfl,.inl (SqL.of e8),_,_,rfl,rfl,(show(0:Int)<3 by decide),pl,_,_,_,rfl,rfl,SqL.of qd,bK,_,rfl,_,rfl,tb,_,_,_,rfl,rfl,SqL.of e8,vU us y,_,rfl,qB (by show 3<=_;decide),λ p hp=>?_⟩;have e9:=(qk.up hp (o:=.tup [vS (opW c),y,x])) _ _ e8;refine⟨_,rfl,_,rfl,tb,_,_,us.length,rfl,rfl,e9,by rw[Zh,XW];exact qbp _,?_⟩;rw[qdz];have c1:zJ H4 (upd H4 tb (.lst (us++[y]))):=zJ.updL e4;have c2:=c1.trans (zw (qk.up p8 (o:=.lst [V.str (qi ji),V.str (qi qbP),V.str (qi wOr)])));have c3:=c2.trans (zw (qk.up hp (o:=.tup [vS (opW c),y,x])));have c4:=zJ.updL e9 (o:=.lst (us++[.ref p]));have cc:=c3.trans c4;have E5:c=38∨c=124∨c=43:=by
    have:c=43∨c=38∨c=124:=by simpa using hc
    rcases this with e|e|e <;> simp[e]
   refine⟨us++[.ref p],k'+(t'.wt+t.wt),_,rfl,(((g4.at fT).to p8).to hp).at fT,qd,by simp,?_,by omega,by simp⟩;exact StW.snoc (t:=.bin c t' t) (sku.mono cc) ⟨p,y,x,rfl,c4 _ _ qd,ty.mono cc,tx.mono cc⟩ ⟨E5,oy,ox⟩
  ·have uK:¬ (1:Int)<((vs.length:Nat):Int):=Zr (Z3.mpr cw);obtain⟨ws,x,t,k,rfl,tx,ox,nX,rfl⟩:=sk.top lv;have hws:ws=[]:=by
    rw[Zh,XW] at uK;exact XC.mp (by omega)
   subst hws;exact⟨_,rfl,tb,_,_,x,rfl,rfl,SqL.of e4,rfl,q t x H4 g4 tx ox (by omega)⟩
theorem qnE:bootBuiltins "int"=some (.type "int"):=by decide +kernel
def qkT(f:Tr->V)(n:Nat):Sp:=λ vs H Q _=>∃(v:V)(t:Tr),vs=[v]/\TrW H t v/\t.ht<=n/\t.wt<=1000/\t.Of zD/\∀ H',qk H H'->Q (f t) H'
theorem dwv(h1:Dv (At σ0 H0) t1 x)(tr:TrW H0 t x)(ht:t.ht<=n)(hw:t.wt<=1000)(of:t.Of zD):
  Dv (At σ0 H0) (qbV (qkT f n) [] E0 (vJ t1 yT)) (f t):=λ σ H Q hΓ q =>
 h1 σ H _ hΓ λ H1 g1=>⟨x,t,rfl,tr.mono (zw (hΓ.2.trans g1)),ht,hw,of,λ H' g=>q H' (g1.trans g)⟩
theorem qgg:FnScope [sA4,"_law_sign"] [sA4] (qj vC):=scF
noncomputable def sgK:List (Key×V):=[(.inr (qi qbP),vS [38]),(.inr (qi wOr),vS [124]),(.inr (qi ji),vS [43])]
theorem qmi(h:op=38∨op=124∨op=43):zP (qH [] sgK) (.inr (qi (opW op)))=some (vS [op]):=by
 rcases h with rfl|rfl|rfl <;> rfl
theorem qkU(h:op=38∨op=124∨op=43):opW op≠qeY/\opW op≠qkR/\(opW op=qbP ↔ op=38)/\(opW op=wOr ↔ op=124):=by
 rcases h with rfl|rfl|rfl <;> decide
theorem qhj(F:Fun K sB6 sB6 vC f fd)(T:Txt mg)(u8:mg "int"=none)(bG:qh K fd [sA4] [])(mG:mg sB6=some (.ref f))(GG:FnOk P w K mg base CX0 n f fd [sA4] (qkT yb n)):FnOk P w K mg base CX0 (n+1) f fd [sA4] (qkT yb (n+1)):=by
 refine F.okd qgg (λ cdv A outer s H vs Q E hr h=>?_);obtain⟨v,t,rfl,tr,ht,hw,of,q⟩:=h;have kG:=F.kp;have B6:=jv hr;refine⟨_,(qc (zb (qx zg (qz qA (by rfl) T.len J9 (qa (pv 0) qb)) qf (qy _)) (qe (qo (qY zj (zO (qa qm (qa qm qb))) (zo qih (by rfl) u8 qnE (qa (zE zg (qY zr (pv 0) qf (λ _ _=>rfl)) qm (qy _)) qb)) (λ _ _=>rfl)))) qF)
  (qc (zb (qx zg (qY zr (pv 0) qf (λ _ _=>rfl)) qm (qy _)) (qe (qo (qY zr (pv 0) qf (λ _ _=>rfl)))) qF)
  (qc (zb (qx zg (qY zr (pv 0) qf (λ _ _=>rfl)) qm (qy _)) (qe (qo (qp qU qm (qir GG hr mG kG bG (qa (qY zr (pv 0) qf (λ _ _=>rfl)) qb))))) qF)
  (qc (qt (i:=1) qgg.nd rfl (Or.inl rfl) (j2 B6 (qhz (jN qm qm (jN qm qm (jN qm qm qhy))) rfl rfl (by simp) (by simp)) (qY zr (pv 0) qf (λ _ _=>rfl)) (λ _ _=>rfl)))
  (qe (qo (qp qU (qp qU (qp qU (qp qU qm (qir GG hr mG kG bG (qa (qY zr (pv 0) qf (λ _ _=>rfl)) qb))) (pv 1)) (qir GG hr mG kG bG (qa (qY zr (pv 0) qf (λ _ _=>rfl)) qb))) qm))))))),?_⟩
 rw[qaS,qaW,qe5,qe6,qhh,qdy,qnu,qdu,qam,qkm,qkn,qkz,qgZ,qkl];cases t with
 |letter c =>
  obtain⟨a,rfl,h⟩:=tr;have hT:SqT K H a _:=SqT.of h;refine yt (zy (dIE qC (qaw rfl hT) dC)) at0 (λ hb=>absurd hb (by simp)) (λ _ H1 g1=>?_);refine yt (zy (jK qC (jq rfl (g1.seqT hT) rfl) dC)) at0 (λ _ H2 g2=>?_) (λ hb=>absurd hb (by simp));exact qaq (jq rfl ((g1.trans g2).seqT hT) rfl) at0 λ H3 g3=>q H3 ((g1.trans g2).trans g3)
 |one =>
  obtain⟨a,rfl,h⟩:=tr;have hT:SqT K H a _:=SqT.of h;refine yt (zy (dIE qC (qaw rfl hT) dC)) at0 (λ _ H1 g1=>?_) (λ hb=>absurd hb (by simp));refine⟨qB (by show 2<=_;decide),λ p hp=>?_⟩;have g2:=g1.to hp (o:=.lst [vS [48],vS [49]]);refine jK qC (jq rfl (g2.seqT hT) rfl) dC _ _ _ at0 λ H3 g3=>.inr ⟨_,rfl,?_⟩
  refine⟨p,_,1,vS [49],rfl,rfl,SqL.of (g3 _ _ qd),rfl,?_⟩;exact q H3 (g2.trans g3)
 |zero =>
  obtain⟨a,rfl,h⟩:=tr;have hT:SqT K H a _:=SqT.of h;refine yt (zy (dIE qC (qaw rfl hT) dC)) at0 (λ _ H1 g1=>?_) (λ hb=>absurd hb (by simp));refine⟨qB (by show 2<=_;decide),λ p hp=>?_⟩;have g2:=g1.to hp (o:=.lst [vS [48],vS [49]]);refine jK qC (jq rfl (g2.seqT hT) rfl) dC _ _ _ at0 λ H3 g3=>.inr ⟨_,rfl,?_⟩
  refine⟨p,_,0,vS [48],rfl,rfl,SqL.of (g3 _ _ qd),rfl,?_⟩;exact q H3 (g2.trans g3)
 |neg t =>
  obtain⟨a,x,rfl,h,tx⟩:=tr;have hT:SqT K H a _:=SqT.of h;have dS:t.ht<=n:=XR ht;have lX:t.wt+1<=1000:=hw;have l1:=t.text_len;refine yt (zy (dIE qC (qaw rfl hT) dC)) at0 (λ hb=>absurd hb (by simp)) (λ _ H1 g1=>?_);refine yt (zy (jK qC (jq rfl (g1.seqT hT) rfl) dC)) at0 (λ hb=>absurd hb (by decide)) (λ _ H2 g2=>?_);have u0:=g1.trans g2;refine yt (zy (jK qC (jq rfl (u0.seqT hT) rfl) dC)) at0 (λ _ H3 g3=>?_) (λ hb=>absurd hb (by decide));have N9:=u0.trans g3;exact qaq (jr qC dC (dwv (f:=yb) (n:=n) (jq rfl (N9.seqT hT) rfl) (tx.mono (zw N9)) dS (by omega) of) (by rw[XW];omega)) at0 λ H4 g4=>q H4 (N9.trans g4)
 |bin op t u =>
  obtain⟨a,x,y,rfl,h,tx,uy⟩:=tr;have hT:SqT K H a _:=SqT.of h;have hm:max t.ht u.ht+1<=n+1:=ht;have lX:t.wt+u.wt<=1000:=hw;obtain⟨E5,ot,ou⟩:=of;obtain⟨nl,nn,_,_⟩:=qkU E5;have l1:=t.text_len;have l2:=u.text_len;refine yt (zy (dIE qC (qaw rfl hT) dC)) at0 (λ hb=>absurd hb (by simp)) (λ _ H1 g1=>?_);refine yt (zy (jK qC (jq rfl (g1.seqT hT) rfl) dC)) at0 (λ hb=>absurd (Ui hb) nl) (λ _ H2 g2=>?_);have u0:=g1.trans g2;refine yt (zy (jK qC (jq rfl (u0.seqT hT) rfl) dC)) at0 (λ hb=>absurd (Ui hb) nn) (λ _ H3 g3=>?_);have N9:=u0.trans g3;refine λ p hp=>?_
  refine⟨qd,sgK,rfl,by decide,?_⟩;have g4:qk H (upd (upd H3 p (.dK [])) p (.dK (qH [] sgK))):=(N9.to hp).at (N9.free hp);have gd:=vN.k (k:=Sum.inr (qi (opW op))) (show upd (upd H3 p (.dK [])) p (.dK (qH [] sgK)) p=some (.dK (qH [] sgK)) from qd);rw[qmi E5] at gd;generalize upd (upd H3 p (.dK [])) p (.dK (qH [] sgK))=H4 at g4 gd;refine⟨_,rfl,a,_,_,vS (opW op),rfl,rfl,g4.seqT hT,rfl,p,vS [op],rfl,gd,?_⟩;exact qaq (jr qC (jr qC (jr qC (jr qC dC (dwv (f:=yb) (n:=n) (jq rfl (g4.seqT hT) rfl) (tx.mono (zw g4)) (by omega) (by omega) ot) (by rw[XW];omega))
   (dvA rfl) (by simp only[Zh,XW];omega)) (dwv (f:=yb) (n:=n) (jq rfl (g4.seqT hT) rfl) (uy.mono (zw g4)) (by omega) (by omega) ou) (by simp only[Zh,XW];omega))
   dC (by simp only[Zh,XW];omega)) at0 λ H5 g5=>q H5 (g4.trans g5)
theorem qgh(F:Fun K sB6 sB6 vC f fd)(T:Txt mg)(u8:mg "int"=none)(bG:qh K fd [sA4] [])(mG:mg sB6=some (.ref f)):∀ n,FnOk P w K mg base CX0 n f fd [sA4] (qkT yb n)
 |0=>⟨λ vs H Q E h=>by obtain⟨_,t,_,_,h,_⟩:=h;have:=t.ht1;omega,λ A outer s H args us vs Q E _ _ _ _ h=>by obtain⟨_,t,_,_,h,_⟩:=h;have:=t.ht1;omega⟩
 |n+1=>qhj F T u8 bG mG (qgh F T u8 bG mG n)
def qkV(n:Nat):Sp:=λ vs H Q _=>∃(v:V)(d:Addr)(t:Tr)(kvs:List (Key×V))(ρ:Nat->Bool)(ls:List Nat),vs=[v,.ref d]/\TrW H t v/\t.ht<=n/\t.Of ls/\H d=some (.dK kvs)/\(∀ c∈ls,zP kvs (.inr (qi [c]))=some (.bl (ρ c)))/\∀ H',qk H H'->Q (.bl (t.val ρ)) H'
theorem qbQ:FnScope [sA4,sA2,sC2,sB1] [sA4,sA2] (qj jD):=scF
theorem dwt(h1:Dv (At σ0 H0) t1 x)(e1:σ0[1]?=some (some (.ref d)))(tr:TrW H0 t x)(ht:t.ht<=n)(of:t.Of ls)(hd:H0 d=some (.dK kvs))(hv:∀ c∈ls,zP kvs (.inr (qi [c]))=some (.bl (ρ c))):
  Dv (At σ0 H0) (qbV (qkV n) [] E0 (vJ t1 (vJ (qfh 1) yT))) (.bl (t.val ρ)):=λ σ H Q hΓ q =>
 h1 σ H _ hΓ λ H1 g1=>⟨.ref d,by rw[hΓ.1];exact e1,x,d,t,kvs,ρ,ls,rfl,tr.mono (zw (hΓ.2.trans g1)),ht,of,(hΓ.2.trans g1) _ _ hd,hv,λ H' g=>q H' (g1.trans g)⟩
theorem qgi(F:Fun K sB2 sB2 jD f fd)(T:Txt mg)(bG:qh K fd [sA4,sA2] [])(mG:mg sB2=some (.ref f))(GG:FnOk P w K mg base CX0 n f fd [sA4,sA2] (qkV n)):FnOk P w K mg base CX0 (n+1) f fd [sA4,sA2] (qkV (n+1)):=by
 refine F.okd qbQ (λ cdv A outer s H vs Q E hr h=>?_);obtain⟨v,d,t,kvs,ρ,ls,rfl,tr,ht,of,hd,hv,q⟩:=h;have B6:=jv hr;have kG:=F.kp;refine⟨_,(qc (zb (qx zg (qz qA (by rfl) T.len J9 (qa (pv 0) qb)) qf (qy _)) (qe (qo (zE zg (qY zr (pv 0) qf (λ _ _=>rfl)) qm (qy _)))) qF)
  (qc (zb (qx zg (qY zr (pv 0) qf (λ _ _=>rfl)) qm (qy _)) (qe (qo (j2 B6 (pv 1) (qY zr (pv 0) qf (λ _ _=>rfl)) (λ _ _=>rfl)))) qF)
  (qc (qt (i:=2) qbQ.nd rfl (Or.inl rfl) (qir GG hr mG kG bG (qa (qY zr (pv 0) qf (λ _ _=>rfl)) (qa (pv 1) qb))))
  (qc (zb (qx zg (qY zr (pv 0) qf (λ _ _=>rfl)) qm (qy _)) (qe (qo (qgo (pv 2)))) qF)
  (qc (qt (i:=3) qbQ.nd rfl (Or.inl rfl) (qir GG hr mG kG bG (qa (qY zr (pv 0) qf (λ _ _=>rfl)) (qa (pv 1) qb))))
  (qc (zb (qx zg (qY zr (pv 0) qf (λ _ _=>rfl)) qm (qy _)) (qe (qo (qcv (pv 2) (qcu (pv 3))))) qF)
  (qc (zb (qx zg (qY zr (pv 0) qf (λ _ _=>rfl)) qm (qy _)) (qe (qo (qnK (pv 2) (qcu (pv 3))))) qF)
  (qe (qo (zE qjg (pv 2) (pv 3) (qy _))))))))))),?_⟩
 rw[qaS,qaW,qe5,qe6,qhh];cases t with
 |letter c =>
  obtain⟨a,rfl,h⟩:=tr;have hT:SqT K H a _:=SqT.of h;refine yt (zy (dIE qC (qaw rfl hT) dC)) at0 (λ hb=>absurd hb (by simp)) (λ _ H1 g1=>?_);refine yt (zy (jK qC (jq rfl (g1.seqT hT) rfl) dC)) at0 (λ _ H2 g2=>?_) (λ hb=>absurd hb (by simp));have u0:=g1.trans g2;have gd:=vN.k (k:=Sum.inr (qi [c])) (u0 _ _ hd);rw[hv c of] at gd;exact⟨_,rfl,_,rfl,a,_,_,_,rfl,rfl,u0.seqT hT,rfl,d,_,rfl,gd,q H2 u0⟩
 |one =>
  obtain⟨a,rfl,h⟩:=tr;have hT:SqT K H a _:=SqT.of h;refine yt (zy (dIE qC (qaw rfl hT) dC)) at0 (λ _ H1 g1=>?_) (λ hb=>absurd hb (by simp));exact qaq (jK qC (jq rfl (g1.seqT hT) rfl) dC) at0 λ H3 g3=>q H3 (g1.trans g3)
 |zero =>
  obtain⟨a,rfl,h⟩:=tr;have hT:SqT K H a _:=SqT.of h;refine yt (zy (dIE qC (qaw rfl hT) dC)) at0 (λ _ H1 g1=>?_) (λ hb=>absurd hb (by simp));exact qaq (jK qC (jq rfl (g1.seqT hT) rfl) dC) at0 λ H3 g3=>q H3 (g1.trans g3)
 |neg t =>
  obtain⟨a,x,rfl,h,tx⟩:=tr;have hT:SqT K H a _:=SqT.of h;have dS:t.ht<=n:=XR ht;refine yt (zy (dIE qC (qaw rfl hT) dC)) at0 (λ hb=>absurd hb (by simp)) (λ _ H1 g1=>?_);refine yt (zy (jK qC (jq rfl (g1.seqT hT) rfl) dC)) at0 (λ hb=>absurd hb (by decide)) (λ _ H2 g2=>?_);have u0:=g1.trans g2;refine qko (i:=2) (dwt (jq rfl (u0.seqT hT) rfl) rfl (tx.mono (zw u0)) dS of (u0 _ _ hd) hv) at0 λ H3 g3=>?_
  have N9:=u0.trans g3;refine yt (zy (jK qC (jq rfl (N9.seqT hT) rfl) dC)) at0 (λ _ H4 g4=>?_) (λ hb=>absurd hb (by decide));exact qaq (qon (dvA rfl)) at0 λ H5 g5=>q H5 ((N9.trans g4).trans g5)
 |bin op t u =>
  obtain⟨a,x,y,rfl,h,tx,uy⟩:=tr;have hT:SqT K H a _:=SqT.of h;have hm:max t.ht u.ht+1<=n+1:=ht;obtain⟨E5,ot,ou⟩:=of;obtain⟨nl,nn,eA,eO⟩:=qkU E5;refine yt (zy (dIE qC (qaw rfl hT) dC)) at0 (λ hb=>absurd hb (by simp)) (λ _ H1 g1=>?_);refine yt (zy (jK qC (jq rfl (g1.seqT hT) rfl) dC)) at0 (λ hb=>absurd (Ui hb) nl) (λ _ H2 g2=>?_);have u0:=g1.trans g2;refine qko (i:=2) (dwt (jq rfl (u0.seqT hT) rfl) rfl (tx.mono (zw u0)) (by omega) ot (u0 _ _ hd) hv) at0 λ H3 g3=>?_
  have N9:=u0.trans g3;refine yt (zy (jK qC (jq rfl (N9.seqT hT) rfl) dC)) at0 (λ hb=>absurd (Ui hb) nn) (λ _ H4 g4=>?_);have xM:=N9.trans g4;refine qko (i:=3) (dwt (jq rfl (xM.seqT hT) rfl) rfl (uy.mono (zw xM)) (by omega) ou (xM _ _ hd) hv) at0 λ H5 g5=>?_
  have gG:=xM.trans g5;refine yt (zy (jK qC (jq rfl (gG.seqT hT) rfl) dC)) at0 (λ hb H6 g6=>?_) (λ hb H6 g6=>?_)
  ·have e:op=38:=eA.mp (Ui hb);refine qaq (qom qC (dvA rfl) (dvA rfl)) at0 λ H7 g7=>?_
   have:=q H7 ((gG.trans g6).trans g7)
   rw[Tr.val,V4 e] at this;exact this
  have iD:¬ op=38:=λ e=>Zr hb (eA.mpr e)
  have g16:=gG.trans g6;refine yt (zy (jK qC (jq rfl (g16.seqT hT) rfl) dC)) at0 (λ hb H7 g7=>?_) (λ hb H7 g7=>?_)
  ·have e:op=124:=eO.mp (Ui hb);refine qaq (qpj qC (dvA rfl) (dvA rfl)) at0 λ H8 g8=>?_
   have:=q H8 ((g16.trans g7).trans g8)
   rw[Tr.val,V5 iD,V4 e] at this;exact this
  have aE:¬ op=124:=λ e=>Zr hb (eO.mpr e)
  refine qaq (qpi qC (dvA rfl) (dvA rfl)) at0 λ H8 g8=>?_
  have:=q H8 ((g16.trans g7).trans g8)
  rw[Tr.val,V5 iD,V5 aE] at this;exact this
theorem qem(F:Fun K sB2 sB2 jD f fd)(T:Txt mg)(bG:qh K fd [sA4,sA2] [])(mG:mg sB2=some (.ref f)):∀ n,FnOk P w K mg base CX0 n f fd [sA4,sA2] (qkV n)
 |0=>⟨λ vs H Q E h=>by obtain⟨_,_,t,_,_,_,_,_,h,_⟩:=h;have:=t.ht1;omega,λ A outer s H args us vs Q E _ _ _ _ h=>by obtain⟨_,_,t,_,_,_,_,_,h,_⟩:=h;have:=t.ht1;omega⟩
 |n+1=>qgi F T bG mG (qem F T bG mG n)
noncomputable def yg(ls:List Nat)(r:List Bool):List (Key×V):=(ls.zip r).map λ x=>(Sum.inr (qi [x.1]),V.bl x.2)
theorem y3(hl:ls.length=r.length):zP (yg ls r) (.inr (qi [c]))=if c∈ls then some (.bl (asg ls r c)) else none:=by
 have i9:∀(l:List (Nat×Bool)),zP (l.map λ x=>((Sum.inr (qi [x.1]):Key),V.bl x.2)) (.inr (qi [c]))=((l.find? λ x=>decide (x.1=c)).map λ x=>V.bl x.2):=by
  intro l;induction l with
  |nil=>rfl
  |cons x l ih =>
   unfold zP at ih ⊢;rw[Qj,U7,U7];have e:decide (((Sum.inr (qi [x.1]):Key))=.inr (qi [c]))=decide (x.1=c):=by
    by_cases h:x.1=c
    ·rw[h];simp
    ·rw[Jl h,Jl];intro e
     have:=jP (Sum.inr.inj e)
     exact h (by simpa using this)
   dsimp only;rw[e];cases decide (x.1=c) with
   |true=>rfl
   |false=>exact ih
 unfold yg;rw[i9];have mem:∀(ls:List Nat)(r:List Bool),ls.length=r.length->(((ls.zip r).find? λ x=>decide (x.1=c)).map λ x=>V.bl x.2)=if c∈ls then some (.bl (asg ls r c)) else none:=by
  intro ls;induction ls with
  |nil=>intro r h;simp
  |cons a ls ih =>
   intro r h;cases r with
   |nil=>simp at h
   |cons b r =>
    unfold asg;rw[Zk,U7];by_cases e:a=c
    ·subst e;simp
    ·have:=ih r (by simpa using h)
     rw[show decide ((a,b).1=c)=false from Jl e];dsimp only;rw[this];unfold asg;simp[Vz e]
 exact mem ls r hl
theorem qb2{ls:List Nat}(hl:ls.Nodup)(hi:i<ls.length):ls[i]∉ls.take i:=λ h=>by
 obtain⟨j,hj,e⟩:=Y2 h;rw[Ul] at hj;rw[Z8] at e;exact absurd ((List.getElem_inj hl).mp e) (by omega)
theorem qmj(g:qk H H1)(h:H1 p=none):H p=none:=by
 cases e:H p with
 |none=>rfl
 |some u=>rw[g _ _ e] at h;cases h
noncomputable def qkW:List Int:=[32,16,8,4,2,1]
theorem qmk {k:Nat}(hn:n<=6)(hk:k<n):atI (qkW.map V.int) ((6:Int)-(n:Int)+(k:Int))=some (.int ((2^(n-1-k):Nat):Int)):=by
 have e:((6:Int)-(n:Int)+(k:Int))=((6-n+k:Nat):Int):=by omega
 rw[e];refine yr ?_;have i9:∀ n,n<=6->∀ k,k<n->(qkW.map V.int)[6-n+k]?=some (V.int ((2^(n-1-k):Nat):Int)):=by decide
 exact i9 n hn k hk
theorem qkX(h:j<=9):qnS 0 ((2^j:Nat):Int):=by
 rcases(show j=0∨j=1∨j=2∨j=3∨j=4∨j=5∨j=6∨j=7∨j=8∨j=9 by omega) with rfl|rfl|rfl|rfl|rfl|rfl|rfl|rfl|rfl|rfl <;> exact⟨by decide,by decide⟩
theorem qgj{ls:List Nat}{r:List Bool}(hc:ls[i]?=some c)(hb:r[i]?=some b):yg (ls.take (i+1)) (r.take (i+1))=yg (ls.take i) (r.take i)++[(.inr (qi [c]),.bl b)]:=by
 unfold yg;rw[ze hc,ze hb,List.zip_append (by
  have h1:=yi hc;have h2:=yi hb;rw[Ul,Ul];omega),Ja]
 rfl
def qdA:Sp:=λ vs H Q _=>∃(ls:List Nat)(N:Nat),vs=[vS ls,.int (N:Int)]/\ls.Nodup/\ls.length<=6/\∀ d H',qk H H'->H' d=some (.dK (yg ls (qM ls.length N)))->Q (.ref d) H'
theorem qco:FnScope [sA0,sA5,sA2,sA7,sB8] [sA0,sA5] (qj qbL):=scF
theorem qml(F:Fun K sC6 sC6 qbL f fd)(T:Txt mg): FnOk P w K mg base CX0 1 f fd [sA0,sA5] (qdA):=by
 refine F.okd qco (λ cdv A outer s H vs Q E hr h=>?_);obtain⟨ls,N,rfl,nd,l6,q⟩:=h;have B6:=jv hr;refine⟨_,(qc (qt (i:=2) qco.nd rfl (Or.inl rfl) qfp)
  (qc (qaf (n:=2) Jk rfl (qde (by rfl) T.enumerate (qa (pv 0) qb)) (qE (qr (i:=3) qco.nd rfl (Or.inl rfl)) (qE (qr (i:=4) qco.nd rfl (Or.inl rfl)) zC))
  (qe (qeu B6 (pv 2) (pv 4) (zE zg (qp zc (qp yH (pv 1) (qY zj (zO (qa qf (qa qf (qa qf (qa qf (qa qf (qa qf qb))))))) (qp zz (qp qje qf (qz zG (by rfl) T.len J9 (qa (pv 0) qb))) (pv 3)) (λ _ _=>rfl))) qf) qf (qy _)) rfl)))
  (qe (qo (pv 2))))),?_⟩
 have hs:(qi ls).cps.size=ls.length:=qD ls;have hl:(qi ls).length=ls.length:=qD ls;refine λ d hd=>?_
 refine⟨_,rfl,_,rfl,?_⟩;refine qbH (λ i σ H'=>∃ v3 v4:Option V,σ=[some (vS ls),some (.int (N:Int)),some (.ref d),v3,v4]/\qk H H'/\H' d=some (.dK (yg (ls.take i) ((qM ls.length N).take i)))) ⟨none,none,rfl,qk.up hd,qd⟩ ?_ ?_
 ·rintro i σ H1 hi ⟨v3,v4,rfl,g1,e1⟩;rw[hs] at hi;rw[jp hi];refine⟨_,_,rfl,_,_,rfl,rfl,?_⟩;have hb:=qj7 (N:=N) hi;have ns_:ls[i]∉ls.take i:=qb2 nd hi;have lr:(ls.take i).length=((qM ls.length N).take i).length:=by rw[Ul,Ul,ya]
  have vn:zP (yg (ls.take i) ((qM ls.length N).take i)) (.inr (qi [ls[i]]))=none:=by rw[y3 lr,V5 ns_]
  have lk:(yg (ls.take i) ((qM ls.length N).take i)).length<sizeLine:=by unfold yg;rw[U3,Jj,Ul,Ul];exact zi (by omega)
  refine⟨_,rfl,qB (by show 6<=_;decide),λ p hp=>?_⟩;refine⟨_,rfl,_,rfl,by rw[hl];exact qB (by omega),?_⟩;rw[hl];refine⟨_,_,rfl,rfl,_,rfl,_,_,rfl,rfl,p,_,_,_,rfl,rfl,SqL.of (show upd H1 p (.lst (qkW.map V.int)) p=some (.lst (qkW.map V.int)) from qd),qmk l6 hi,_,_,rfl,rfl,qkX (by omega),_,_,rfl,rfl,(show(0:Int)<2 by decide),rfl,?_⟩;have e2:=(qk.up hp (o:=.lst (qkW.map V.int))) _ _ e1;refine⟨_,rfl,_,rfl,d,_,rfl,.inl ⟨_,.inr (qi [ls[i]]),e2,rfl,lk,rfl⟩,?_⟩;refine⟨_,_,rfl,(g1.to hp).at hd,?_⟩;rw[qd,qcC _ vn,qgj (Xy hi) hb];congr 5
  have:decide (V.int ((N:Int) / ((2^(ls.length-1-i):Nat):Int) % 2)=V.int 1)=decide (N / 2^(ls.length-1-i) % 2=1):=by
   refine decide_eq_decide.mpr ?_;rw[V.int.injEq];constructor
   ·intro h;exact_mod_cast h
   ·intro h;exact_mod_cast h
  exact congrArg V.bl this
 ·rintro σ H1 ⟨v3,v4,rfl,g1,e1⟩;rw[hs,Ut,XL (by rw[ya];exact Vd _)] at e1;exact⟨_,rfl,q d H1 g1 e1⟩
noncomputable def qhk:List Int:=[1,2,4,8,16,32,64]
theorem qh5{n:Nat}(hn:n<=6):atI (qhk.map V.int) (n:Int)=some (.int ((2^n:Nat):Int)):=by
 refine yr ?_;have i9:∀ n,n<=6->(qhk.map V.int)[n]?=some (V.int ((2^n:Nat):Int)):=by decide
 exact i9 n hn
def qcp:Sp:=λ vs H Q _=>∃ ls:List Nat,vs=[vS ls]/\ls.Nodup/\ls.length<=6/\∀ r ds H',qk H H'->H' r=some (.lst (ds.map V.ref))->Paired (λ d N=>H' d=some (.dK (yg ls (qM ls.length N)))) ds (List.range (2^ls.length))->Q (.ref r) H'
theorem qkY:FnScope [sA0] [sA0] (qj qaP):=scF
theorem qkZ(F:Fun K sC7 sC7 qaP f fd)(T:Txt mg)(u3:Dp P w K mg base 1 E8 G1 [sA0,sA5] (qdA) sC6): FnOk P w K mg base CX0 2 f fd [sA0] (qcp):=by
 refine F.okd qkY (λ cdv A outer s H vs Q E hr h=>?_);obtain⟨ls,rfl,nd,l6,q⟩:=h;refine⟨_,(qe (qo (zH (csc (NY:=[sA5,sA0]) (o:=1) (caps:=[0]) [sA0] rfl
    (by intro x hx;rw[Zn.mp hx];exact .inl rfl) (kq rfl rfl rfl y7) rfl) rfl
    (zM (by rfl) T.range (qa (qY zj (zO (qa qf (qa qf (qa qf (qa qf (qa qf (qa qf (qa qf qb)))))))) (qz zG (by rfl) T.len J9 (qa (pv 0) qb)) (λ _ _=>rfl)) qb)) (λ C0 s H fp pins=>qr (i:=0) (show([sA5,sA0]:List Str).Nodup by decide +kernel) rfl (Or.inl rfl)) (λ C0 s H fp pins=>zt) (λ C0 s H fp pins=>(zk u3 hr (qa (pv 1) (qa (pv 0) qb))))))),?_⟩
 have hl:(qi ls).length=ls.length:=qD ls;have p64:2^ls.length<=64:=Qy (Yu (by decide) l6) (by decide);have c0:=Int.natCast_nonneg (2^ls.length);have c1:((2^ls.length:Nat):Int)<=64:=by exact_mod_cast p64
 refine⟨qB (by show 7<=_;decide),λ p hp=>?_⟩;refine⟨_,rfl,_,rfl,by rw[hl];exact qB (by omega),?_⟩;rw[hl];refine⟨p,_,_,_,rfl,rfl,SqL.of (show upd H p (.lst (qhk.map V.int)) p=some (.lst (qhk.map V.int)) from qd),qh5 l6,_,rfl,Int.le_trans (by decide) c0,Int.lt_of_le_of_lt c1 (by decide),?_⟩;have en:(((2^ls.length:Nat):Int)).toNat=2^ls.length:=Zv _;refine ye (((2^ls.length:Nat):Int)).toNat (λ i ys H2=>∃ ds:List Addr,ys=ds.map V.ref/\Paired (λ d N=>H2 d=some (.dK (yg ls (qM ls.length N)))) ds (List.range i)) (λ D hD=>⟨[],rfl,.nil⟩) ?_ ?_ (λ H2 sm=>Vd _) ?_
 ·rintro i ys H2 hi ⟨ds,rfl,hp⟩
  have:=hp.length
  rw[Z4] at this;rw[U3];exact zi (by omega)
 ·rintro i ys H2 D Y Z hi hD t6 sm ⟨ds,rfl,wW⟩ hY hZ;refine⟨hi,?_⟩;rintro x H' ⟨rfl,rfl⟩;refine⟨⟨rfl,rfl⟩,?_⟩;refine⟨_,rfl,_,rfl,ls,i,(by show [vS ls,V.int (0+(i:Int))]=[vS ls,V.int (i:Int)];rw[Q8]),nd,l6,λ d H3 g3 e3=>?_⟩;have eD:=g3 _ _ t6;refine hY _ _ eD (sm.trans g3) ⟨ds++[d],by rw[Ja];rfl,?_⟩;rw[Je];have up:∀{z:Addr}{kv:List (Key×V)},H3 z=some (.dK kv)->upd H3 D (.lst (ds.map V.ref++[.ref d])) z=some (.dK kv):=λ{z kv} h=>by
   have:z≠D:=λ q=>by rw[q,eD] at h;cases h
   rw[qv this];exact h
  exact q8 (L2.Paired.mapP wW λ z N h=>up (g3 _ _ h)) (.cons (up e3) .nil)
 ·rintro D H2 ys hD sm t6 ⟨ds,rfl,wW⟩;rw[en] at wW;exact q D ds H2 ((qk.up hp).trans sm) t6 wW
def jE(H:Hp)(p:Addr)(x:Tr×Tr):Prop:=∃ a b:V,H p=some (.tup [a,b])/\TrW H x.1 a/\TrW H x.2 b
theorem jE.mono(h:jE H p x)(g:zJ H H'):jE H' p x:=let ⟨a,b,e,o1,o2⟩:=h;⟨a,b,g _ _ e,o1.mono g,o2.mono g⟩
def qdB(K:W.Frag):Sp:=λ vs H Q _=>∃(a:Addr)(ns:List Int)(ls:List Nat)(most i8:Int),vs=[.ref a,vS ls,.int most,.int i8]/\Scr K H a ns/\ls.length<=9/\0<=most/\most<=6/\1<=i8/\i8<=20 /\
 ∀ r ps (xs:List (Tr×Tr)) H',qk H H'->H' r=some (.lst (ps.map V.ref))->Paired (jE H') ps xs->(xs.length:Int)<=most->(∀ x∈xs,x.1.Of ls/\x.2.Of ls/\(x.1.wt:Int)<=i8/\(x.2.wt:Int)<=i8)->Q (.ref r) H'
theorem jV:FnScope [sA1,sA0,sD4,sA8,sA3,sA7,"_law_size","_law_left"] [sA1,sA0,sD4,sA8] (qj vD):=scF
theorem qiZ(F:Fun K sC4 sC4 vD f fd)(T:Txt mg)(c6:Dp P w K mg base 1 n6 n8 [sA1,sA7] (y2 K) sB0)(D8:Dp P w K mg base 2 gH gJ [sA1,sB9,sA8,sA0] (qhi K) sD3): FnOk P w K mg base CX0 3 f fd [sA1,sA0,sD4,sA8] (qdB K):=by
 refine F.okd jV (λ cdv A outer s H vs Q E hr h=>?_);obtain⟨a,ns,ls,most,i8,rfl,hS,l9,s0,s6,n1,n20,q⟩:=h;refine⟨_,(qc (qt (i:=4) jV.nd rfl (Or.inl rfl) (zO qb))
  (qc (yq Jk rfl (zM (by rfl) T.range (qa (qp zc (zk c6 hr (qa (pv 0) (qa qf qb))) (qp zz (pv 2) qf)) qb)) (qr (i:=5) jV.nd rfl (Or.inl rfl))
  (qc (qt (i:=6) jV.nd rfl (Or.inl rfl) (qp zz qf (qp zc (zk c6 hr (qa (pv 0) (qa (qp zz qf (pv 5)) qb))) (pv 3))))
  (qc (qt (i:=7) jV.nd rfl (Or.inl rfl) (zk D8 hr (qa (pv 0) (qa (qp zz qf (qp vQ qf (pv 5))) (qa (pv 6) (qa (pv 1) qb))))))
  (qe (ja (yA XE X2 X3 zV (pv 4) (qa (zF (qa (pv 7) (qa (zk D8 hr (qa (pv 0) (qa (qp zz qf (qp vQ qf (pv 5))) (qa (qp zz qf (qp zc (qp yH (zk c6 hr (qa (pv 0) (qa (qp zz qf (pv 5)) qb))) qf) (pv 3))) (qa (pv 1) qb))))) qb))) qb)))))))
  (qe (qo (pv 4))))),?_⟩
 refine⟨Ve _,λ p0 oH=>?_⟩;have g0:=qk.up oH (o:=.lst []);refine⟨_,rfl,a,ns,1,rfl,hS.mono g0,by decide,by decide,λ z H1 g1 z0 z1=>?_⟩;have m0:=Jd z (b:=most+1) (by omega);have m1:=Zo z (b:=most+1) (by omega);refine⟨_,rfl,_,_,rfl,rfl,_,_,rfl,rfl,(by show(0:Int)<most+1;omega),_,rfl,by show _<=z % (most+1);omega,by show z % (most+1)<_;omega,?_⟩;have nA:=g0.trans g1;refine yj (λ i σ H'=>∃(ps:List Addr)(xs:List (Tr×Tr))(v5 v6 v7:Option V),σ=[some (.ref a),some (vS ls),some (.int most),some (.int i8),some (.ref p0),v5,v6,v7]/\qk H H'/\H' p0=some (.lst (ps.map V.ref))/\Paired (jE H') ps xs/\xs.length=i/\∀ x∈xs,x.1.Of ls/\x.2.Of ls/\(x.1.wt:Int)<=i8/\(x.2.wt:Int)<=i8)
  ⟨[],[],none,none,none,rfl,nA,g1 _ _ qd,.nil,rfl,by simp⟩ ?_ ?_
 ·rintro i σ H2 hi ⟨ps,xs,v5,v6,v7,rfl,g2,e2,pr,lx,ok⟩;have hi6:(i:Int)<7:=by
   have:(i:Int)<z % (most+1):=by omega
   omega
  refine⟨_,rfl,_,rfl,_,_,rfl,rfl,a,ns,_,rfl,hS.mono g2,?_,?_,λ y H3 g3 y0 y1=>?_⟩
  ·show(0:Int)<=2+(0+(i:Int));omega
  ·show 2+(0+(i:Int))<=100000;omega
  have c0:=Jd y (b:=i8) (by omega);have c1:=Zo y (b:=i8) (by omega);refine⟨_,rfl,_,_,rfl,rfl,(by show(0:Int)<i8;omega),_,_,rfl,rfl,?_⟩;have tO:=g2.trans g3;refine⟨_,rfl,_,rfl,_,_,rfl,rfl,.inl ⟨by decide,by decide⟩,_,_,rfl,rfl,_,rfl,_,rfl,a,ns,_,1+y % i8,ls,rfl,hS.mono tO,?_,?_,by omega,by omega,l9,λ t v H4 g4 tr of wt=>?_⟩
  ·show(0:Int)<=10+20*(0+(i:Int));omega
  ·show 10+20*(0+(i:Int))<=1000;omega
  have e4:=(g3.trans g4) _ _ e2;have g24:=tO.trans g4;refine⟨_,rfl,.inl ⟨rfl,_,SqL.of e4⟩,_,rfl,_,rfl,_,rfl,_,_,rfl,rfl,.inl ⟨by decide,by decide⟩,_,_,rfl,rfl,_,rfl,_,rfl,_,_,rfl,rfl,a,ns,_,rfl,hS.mono g24,?_,?_,λ y' H5 g5 y0' y1'=>?_⟩
  ·show(0:Int)<=2+(0+(i:Int));omega
  ·show 2+(0+(i:Int))<=100000;omega
  have d0:=Jd (y' / 16) (b:=i8) (by omega);have d1:=Zo (y' / 16) (b:=i8) (by omega);have g25:=g24.trans g5;refine⟨_,_,rfl,rfl,⟨by decide,by decide⟩,_,rfl,_,_,rfl,rfl,(by show(0:Int)<i8;omega),_,_,rfl,rfl,_,rfl,a,ns,_,1+y' / 16 % i8,ls,rfl,hS.mono g25,?_,?_,by omega,by omega,l9,λ t2 v2 H6 g6 tr2 of2 wt2=>?_⟩
  ·show(0:Int)<=20+20*(0+(i:Int));omega
  ·show 20+20*(0+(i:Int))<=1000;omega
  refine⟨qB (by show 2<=_;decide),λ p hp=>?_⟩;have g46:=g5.trans g6;have e6:=(g46.to hp (o:=.tup [v,v2])) _ _ e4;have lp:ps.length=i:=by rw[pr.length,lx]
  refine⟨p0,_,_,rfl,rfl,e6,by rw[U3];exact zi (by omega),?_⟩;have cT:=(zw ((g3.trans g4).trans (g46.to hp (o:=.tup [v,v2])))).trans (zJ.updL e6 (o:=.lst (ps.map V.ref++[.ref p])));have cT4:=(zw (g46.to hp (o:=.tup [v,v2]))).trans (zJ.updL e6 (o:=.lst (ps.map V.ref++[.ref p])));have cT6:=(zw (qk.up hp (o:=.tup [v,v2]))).trans (zJ.updL e6 (o:=.lst (ps.map V.ref++[.ref p])));refine⟨ps++[p],xs++[(t,t2)],_,_,_,rfl,((g25.trans g6).to hp).at oH,by rw[qd,Ja];rfl,?_,by rw[Zh,lx];rfl,λ x hx=>?_⟩
  ·exact q8 (zd (λ z w h=>jE.mono h cT) pr) (.cons ⟨v,v2,(zJ.updL e6) _ _ qd,tr.mono cT4,tr2.mono cT6⟩ .nil)
  ·rcases U1.mp hx with hx | hx
   ·exact ok x hx
   ·rw[Zn.mp hx];exact⟨of,of2,by show(t.wt:Int)<=i8;omega,by show(t2.wt:Int)<=i8;omega⟩
 ·rintro σ H2 ⟨ps,xs,v5,v6,v7,rfl,g2,e2,pr,lx,ok⟩;exact⟨_,rfl,q p0 ps xs H2 g2 e2 pr (by rw[lx];omega) ok⟩
noncomputable def qdC(x:Tr×Tr):List Nat:=x.1.text++[32,61,32]++x.2.text
def qbR:Sp:=λ vs H Q _=>∃(r:Addr)(ps:List Addr)(xs:List (Tr×Tr)),vs=[.ref r]/\H r=some (.lst (ps.map V.ref))/\Paired (jE H) ps xs/\xs.length<=100/\(∀ x∈xs,x.1.Of zD/\x.2.Of zD/\x.1.wt<=20/\x.2.wt<=20)/\∀ r' H',qk H H'->H' r'=some (.lst (xs.map λ x=>vS (qdC x)))->Q (.ref r') H'
theorem qhl:FnScope [sA3] [sA3] (qj jI):=scF
theorem qk0:(["_law_left","_law_right"]:List Str).Nodup:=by decide +kernel
theorem qhm(F:Fun K sC3 sC3 jI f fd)(GT:Dp P w K mg base 20 fT fdT [sA4] (qkT yb 20) sB6):FnOk P w K mg base CX0 21 f fd [sA3] qbR:=by
 refine F.okd qhl (λ cdv A outer s H vs Q E hr h=>?_);obtain⟨r,ps,xs,rfl,E4,pr,l6,ok,q⟩:=h;have cH:Room 20 _:=hr.mono (by decide);refine⟨_,qe (qo (zH (csc (NY:=["_law_left","_law_right"]) (o:=2) (caps:=[]) [] rfl (by simp) y7 rfl) rfl
    (zU (pv 0)) (λ C0 s H fp pins=>(show PG _ _ (qll K 2 (qcw (vI 0) (qcw (vI 1) qlk))) from qcx (n:=2) rfl (qE (qr (i:=0) qk0 rfl (Or.inl rfl) (hf:=Or.inr rfl)) (qE (qr (i:=1) qk0 rfl (Or.inl rfl) (hf:=Or.inr rfl)) zC)))) (λ C0 s H fp pins=>zt)
    (λ C0 s H fp pins=>(qp qU (qp qU (zk GT cH (qa (pv 0) qb)) qm) (zk GT cH (qa (pv 1) qb)))))),?_⟩
 rw[show(" = ":Str)=qi [32,61,32] by decide +kernel];have oB:ps.length=xs.length:=pr.length;refine⟨_,rfl,r,rfl,⟨_,SqL.of E4⟩,?_⟩;refine qbE (SqL.of E4) (λ i=>(xs.take i).map λ x=>vS (qdC x)) rfl (λ i hi=>?_) ?_ ?_
 ·rw[U3,Ul];exact zi (by omega)
 ·intro i v H' D2 Y Z hv M4 P3 aP hY hZ;obtain⟨p,hp,rfl⟩:=ql hv;obtain⟨x,hx,wp⟩:=zf pr i p hp;obtain⟨a,b,e1,o1,o2⟩:=wp.mono (zw aP);obtain⟨t9,u9,tw,uw⟩:=ok x (Yn hx);have th:=x.1.ht_wt;have uh:=x.2.ht_wt;have lt:=x.1.text_len;have lu:=x.2.text_len;refine⟨p,_,rfl,SqT.of e1,rfl,_,_,rfl,_,_,rfl,rfl,⟨rfl,rfl⟩,?_⟩;refine(jr qC (jr qC (dwv (f:=yb) (n:=20) (dvA rfl) o1 (by omega) (by omega) t9) dC (by show _+3<=_;omega)) (dwv (f:=yb) (n:=20) (dvA rfl) o2 (by omega) (by omega) u9) (by rw[Zh];show _+3+_<=_;omega)) _ _ _ at0 λ nU tP=>?_
  exact hY _ _ (tP _ _ P3) (aP.trans tP) (yf (f:=λ x=>vS (qdC x)) hx)
 intro D H6 hD s6 h6;rw[U3,oB,Ut] at h6;exact q D H6 s6 h6
def qao(K:W.Frag):Sp:=λ vs H Q _=>∃(r d:Addr)(ps:List Addr)(xs:List (Tr×Tr))(kvs:List (Key×V))(ρ:Nat->Bool)(ls:List Nat),vs=[.ref r,.ref d]/\H r=some (.lst (ps.map V.ref))/\Paired (jE H) ps xs/\xs.length<=100/\(∀ x∈xs,x.1.Of ls/\x.2.Of ls/\x.1.ht<=20/\x.2.ht<=20)/\H d=some (.dK kvs)/\(∀ c∈ls,zP kvs (.inr (qi [c]))=some (.bl (ρ c))) /\
 ∀ r' (is:List Int) H',qk H H'->H' r'=some (.lst (is.map V.int))->decide (0<is.length)=(xs.any λ x=>x.1.val ρ != x.2.val ρ)->Q (.ref r') H'
theorem qhn:FnScope [sA3,sA2] [sA3,sA2] (qj jJ):=scF
theorem qk1:([sA7,"_law_wish",sA2]:List Str).Nodup:=by decide +kernel
theorem qho(F:Fun K sC0 sC0 jJ f fd)(T:Txt mg)(GT:Dp P w K mg base 20 fT fdT [sA4,sA2] (qkV 20) sB2):FnOk P w K mg base CX0 21 f fd [sA3,sA2] (qao K):=by
 refine F.okd qhn (λ cdv A outer s H vs Q E hr h=>?_);obtain⟨r,d,ps,xs,kvs,ρ,ls,rfl,E4,pr,l6,ok,hd,hv,q⟩:=h;have cH:Room 20 _:=hr.mono (by decide);refine⟨_,qe (qo (qba (n:=2) (csc (NY:=[sA7,"_law_wish",sA2]) (o:=2) (caps:=[1]) [sA2] rfl
    (by intro x hx;rw[Zn.mp hx];exact .inl rfl) (kq rfl rfl rfl y7) rfl) rfl
    (qhH (by rfl) T.enumerate (qa (pv 0) qb))
    (λ C0 s H fp pins=>qE (qr (i:=0) qk1 rfl (Or.inl rfl)) (qE (qr (i:=1) qk1 rfl (Or.inl rfl)) zC)) (λ _=>rfl) (λ _=>rfl)
    (λ C0 s H fp pins=>(qac (qx qjg (zk GT cH (qa (qY (r:=qlu K) zr (pv 1) qf (λ _ _=>rfl)) (qa (pv 2) qb))) (zk GT cH (qa (qY (r:=qlu K) zr (pv 1) qf (λ _ _=>rfl)) (qa (pv 2) qb))) (qy _)))) (λ C0 s H fp pins=>(pv 0)))),?_⟩
 have oB:ps.length=xs.length:=pr.length;refine⟨_,rfl,r,rfl,⟨_,SqL.of E4⟩,?_⟩;refine ye (ps.map V.ref).length (λ i ys H'=>∃ is:List Int,ys=is.map V.int/\is.length<=i/\decide (0<is.length)=((xs.take i).any λ x=>x.1.val ρ != x.2.val ρ)) (λ D hD=>⟨[],rfl,Vd _,rfl⟩) (λ i ys H' hi ⟨is,e,hl,_⟩=>by rw[e,U3];rw[U3] at hi;exact zi (by omega)) ?_ (λ H' sm=>⟨_,sm.seq (SqL.of E4),Vd _⟩) ?_
 ·rintro i ys H' D Y Z hi hD P3 sm ⟨is,rfl,hl,O9⟩ hY hZ;refine⟨⟨_,_,sm.seq (SqL.of E4),Xy hi⟩,?_⟩;rintro zs nU ⟨rfl,v,rfl,aG⟩;have ev:=aG _ (sm.seq (SqL.of E4));obtain⟨p,hp,rfl⟩:=ql ev;obtain⟨x,hx,wp⟩:=zf pr i p hp;obtain⟨a,b,e1,o1,o2⟩:=wp.mono (zw sm);obtain⟨t9,u9,th,uh⟩:=ok x (Yn hx);refine⟨rfl,_,_,rfl,_,_,rfl,rfl,⟨rfl,rfl⟩,?_⟩;refine⟨_,rfl,p,_,_,_,rfl,rfl,SqT.of e1,rfl,_,rfl,a,d,x.1,kvs,ρ,ls,rfl,o1,th,t9,sm _ _ hd,hv,λ H1 g1=>?_⟩;refine⟨_,rfl,p,_,_,_,rfl,rfl,SqT.of (g1 _ _ e1),rfl,_,rfl,b,d,x.2,kvs,ρ,ls,rfl,o2.mono (zw g1),uh,u9,g1 _ _ (sm _ _ hd),hv,λ H2 g2=>?_⟩;have u0:=g1.trans g2;have uZ:((xs.take (i+1)).any λ x=>x.1.val ρ != x.2.val ρ)=(((xs.take i).any λ x=>x.1.val ρ != x.2.val ρ) || (x.1.val ρ != x.2.val ρ)):=by rw[ze hx,List.any_append];simp
  refine⟨rfl,_,rfl,?_⟩;rw[qeN];refine vV (λ c=>?_) (λ c=>?_)
  ·refine⟨_,rfl,hY _ _ (u0 _ _ P3) (sm.trans u0) ⟨is++[(i:Int)],by rw[Ja];rfl,by rw[Zh,XW];omega,?_⟩⟩;rw[uZ,c,Bool.or_true];exact Qa (by rw[Zh,XW];omega)
  ·refine hZ _ (u0 _ _ P3) (sm.trans u0) ⟨is,rfl,by omega,?_⟩;rw[uZ,Z3.mpr c,Qm,O9]
 ·rintro D H6 ys hD s6 h6 ⟨is,rfl,hl,O9⟩;rw[U3,oB,Ut] at O9;exact q D is H6 s6 h6 O9
theorem qi0:bootBuiltins "isinstance"=some (.builtin "isinstance"):=by decide +kernel
structure TaskC(K:W.Frag)(CT:Addr):Prop where
 cls:Cls K CT
 n1:NoAttr K CT "given_letters"
 n2:NoAttr K CT "gap_letters"
 n3:NoAttr K CT "wish_texts"
 n4:NoAttr K CT "side_forms"
 n5:NoAttr K CT "fault_form"
def qcq(K:W.Frag):Sp:=λ vs H Q _=>∃(a:Addr)(t:List Bool)(ls:List Nat),vs=[vS ls,.ref a]/\SqL K H a (t.map V.bl)/\t.length=2^ls.length/\ls.Pairwise (·<·)/\ls.length<=6 /\
 ∀ r H',qk H H'->H' r=some (.tup ((formOf ls t).map vS))->Q (.ref r) H'
theorem qmm(i k:Nat):decide (V.int (Builtin.bitAnd (0+(k:Int)) (0+(i:Int)))=V.int (0+(k:Int)))=prt i k:=by
 rw[Q8,Q8,qlS];unfold prt;by_cases h:k &&& i=k
 ·rw[h];simp
 ·rw[Jl (λ e=>h (by have:=V.int.inj e;exact_mod_cast this)),Zb.mpr h]
theorem qoO{t:List Bool}(h:k<t.length):atI (t.map V.bl) (0+(k:Int))=some (.bl (t.getD k false)):=by
 rw[Q8];refine yr ?_;rw[Zt,Xy h,Xj,Xy h];rfl
theorem qgk(nd:ls.Nodup)(ht:t.length=2^ls.length):(qau ls t (2^ls.length)).Nodup:=by rw[qeh nd ht];exact j8 _ nd
theorem ju:FnScope [sA0,sB3,"_law_found",sA5,"_law_odd",sB1,sA2] [sA0,sB3] (qj qaQ):=scF
theorem qk2(F:Fun K sC8 sC8 qaQ f fd)(T:Txt mg)(u3:Dp P w K mg base 1 E8 G1 [sA0,sA5] (qdA) sC6): FnOk P w K mg base CX0 2 f fd [sA0,sB3] (qcq K):=by
 refine F.okd ju (λ cdv A outer s H vs Q E hr h=>?_);obtain⟨a,t,ls,rfl,hT,ht,hl,l6,q⟩:=h;have B6:=jv hr;refine⟨_,(qc (qt (i:=2) ju.nd rfl (Or.inl rfl) (zO qb))
  (qc (yq Jk rfl (zM (by rfl) T.range (qa (qz qA (by rfl) T.len J9 (qa (pv 1) qb)) qb)) (qr (i:=3) ju.nd rfl (Or.inl rfl))
  (qc (qt (i:=4) ju.nd rfl (Or.inl rfl) qfi)
  (qc (yq Jk rfl (zM (by rfl) T.range (qa (qp zz (pv 3) qf) qb)) (qr (i:=5) ju.nd rfl (Or.inl rfl))
  (qe (zb (PW.pt (qer (qx zg (qp qmT (pv 5) (pv 3)) (pv 5) (qy _))
   (qcb (jX (qY zj (pv 1) (pv 5) (λ _ _=>rfl))))))
   (qe (qt (i:=4) ju.nd rfl (Or.inl rfl) (qgo (pv 4)))) qF)))
  (qe (zb (jX (pv 4))
   (qc (qt (i:=6) ju.nd rfl (Or.inr rfl) (zk u3 hr (qa (pv 0) (qa (pv 3) qb))))
  (qe (ja (yA XE X2 X3 zV (pv 2) (qa (yA XQ Yg Yh jy qm (qa (zH (csc (NY:=[sB8,sA2]) (o:=1) (caps:=[6]) [sA2] rfl
    (by intro x hx;rw[Zn.mp hx];exact .inl rfl) (kq rfl rfl rfl y7) rfl) rfl
    (kf (pv 0)) (λ C0 s H fp pins=>qr (i:=0) (show([sB8,sA2]:List Str).Nodup by decide +kernel) rfl (Or.inl rfl)) (λ C0 s H fp pins=>(qac (jX (j2 B6 (pv 1) (pv 0) (λ _ _=>rfl))))) (λ C0 s H fp pins=>(pv 0))) qb)) qb))))) qF)))))
  (qe (qo (zo yJ (by rfl) T.tuple qbr (qa (qz kC (by rfl) T.sorted jk (qa (pv 2) qb)) qb)))))),?_⟩
 have nd:=qQ Qh hl;have hs:(qi ls).cps.size=ls.length:=qD ls;have hz:("":Str).length=0:=by decide
 have bS:2^ls.length<=64:=Yu (n:=2) (by decide) l6;have c7:(t.map V.bl).length=2^ls.length:=by rw[U3,ht]
 refine⟨Ve _,λ fb sO=>?_⟩;have g0:=qk.up sO (o:=.lst []);refine⟨_,rfl,a,_,rfl,.inl (g0.seq hT),_,rfl,?_,?_,?_⟩
 ·rw[c7];omega
 ·rw[c7];omega
 refine yj (λ i σ H1=>∃ v3 v4 v5 v6:Option V,σ=[some (vS ls),some (.ref a),some (.ref fb),v3,v4,v5,v6]/\qk H H1/\H1 fb=some (.lst ((qau ls t i).map vS))) ⟨none,none,none,none,rfl,g0,qd⟩ ?_ ?_
 ·rintro i σ H1 hi ⟨v3,v4,v5,v6,rfl,g1,e1⟩;have sM:i<2^ls.length:=by rw[c7] at hi;omega
  refine⟨_,rfl,_,_,rfl,rfl,_,rfl,?_,?_,?_⟩
  ·show -(2^62)<=(0:Int)+(i:Int)+1;omega
  ·show(0:Int)+(i:Int)+1<2^62;omega
  refine yj (λ k σ H2=>∃ v5:Option V,σ=[some (vS ls),some (.ref a),some (.ref fb),some (.int (0+(i:Int))),some (.bl (vO ((List.range k).map λ M=>prt i M && t.getD M false))),v5,v6]/\H2=H1) ⟨v5,rfl,rfl⟩ ?_ ?_
  ·rintro k σ H2 hk ⟨v5',rfl,rfl⟩;have E6:k<t.length:=by omega
   have ex:vO ((List.range (k+1)).map λ M=>prt i M && t.getD M false)=xor (vO ((List.range k).map λ M=>prt i M && t.getD M false)) (prt i k && t.getD k false):=by
    rw[Je,Ja,List.map_singleton,qj9]
   refine⟨_,rfl,_,rfl,_,_,rfl,rfl,_,rfl,rfl,_,rfl,?_⟩;rw[qmm,ex];cases hp:prt i k with
   |false =>
    refine yp ?_;refine yp ?_;exact⟨_,by rw[Jt,Bool.xor_false];rfl,rfl⟩
   |true =>
    refine j4 ?_;refine⟨_,rfl,_,rfl,a,_,_,_,rfl,rfl,g1.seq hT,qoO E6,_,rfl,?_⟩;cases hb:t.getD k false with
    |false =>
     refine yp ?_;exact⟨_,by rw[Jy,Bool.xor_false];rfl,rfl⟩
    |true =>
     refine j4 ?_;refine⟨_,rfl,_,rfl,?_⟩;exact⟨_,by rw[Bool.and_true,Bool.xor_true];rfl,rfl⟩
  ·rintro σ H2 ⟨v5',rfl,rfl⟩;have en:((0:Int)+(i:Int)+1).toNat=i+1:=by omega
   rw[en];have es:vO ((List.range (i+1)).map λ M=>prt i M && t.getD M false)=vj t i:=rfl;rw[es];refine⟨_,rfl,_,rfl,?_⟩;refine vV (λ c=>?_) (λ c=>?_)
   ·refine⟨_,rfl,_,rfl,ls,i,(by show [vS ls,V.int (0+(i:Int))]=[vS ls,V.int (i:Int)];rw[Q8]),nd,l6,λ d H3 g3 e3=>?_⟩;have eF:=g3 _ _ e1;have lr:ls.length=(qM ls.length i).length:=(ya _ _).symm;refine⟨_,rfl,.inl ⟨rfl,_,SqL.of eF⟩,rfl,?_⟩;refine⟨_,rfl,_,rfl,?_⟩;refine qc2 (λ j=>((ls.take j).filter (asg ls (qM ls.length i))).map λ c=>vS [c]) rfl (λ j hj=>?_) ?_ ?_
    ·rw[U3];have:=Ye (asg ls (qM ls.length i)) (ls.take j);rw[Ul] at this;exact zi (by omega)
    ·intro j H6 D6 Y Z hj mY C9 G6 hY hZ;rw[hs] at hj;rw[jp hj];have fs:=kM (f:=asg ls (qM ls.length i)) hj;have gd:=vN.k (k:=Sum.inr (qi [ls[j]])) (G6 _ _ e3);rw[y3 lr,V4 (Ur hj)] at gd;refine⟨⟨rfl,rfl⟩,?_⟩;refine⟨_,rfl,_,rfl,d,_,rfl,gd,_,rfl,?_⟩;refine vV (λ c=>?_) (λ c=>?_)
     ·refine⟨_,rfl,hY _ _ C9 G6 ?_⟩;show List.map _ ((ls.take (j+1)).filter _)=_
      rw[fs,V4 c,Ja];rfl
     ·refine hZ _ C9 G6 ?_;show List.map _ ((ls.take (j+1)).filter _)=_
      rw[fs,V5 c,U4]
    ·intro D6 H6 mY G6 C9;rw[hs,Ut] at C9;have eS:ls.filter (asg ls (qM ls.length i))=sel ls i:=rfl;rw[eS] at C9;have lS:(sel ls i).length<=ls.length:=Ye _ _;refine⟨_,D6,((sel ls i).map λ c=>[c]).map qi,rfl,rfl,.inl (SqL.of (by rw[C9,vm,zI])),?_,?_⟩
     ·rw[yY,hz,zB];show _+_*0<=_;omega
     rw[yX,zB];have eF6:=G6 _ _ eF;have pl:=qeg ls t i;refine⟨fb,_,_,rfl,rfl,eF6,by rw[U3];exact zi (by omega),?_⟩;refine⟨_,_,_,_,rfl,((g1.trans g3).trans G6).at sO,?_⟩;rw[qd,qdi,V4 c,Ja];rfl
   ·refine⟨_,_,_,_,rfl,g1,?_⟩;rw[e1,qdi,V5 c,U4]
 ·rintro σ H1 ⟨v3,v4,v5,v6,rfl,g1,e1⟩;have en:(((t.map V.bl).length:Nat):Int).toNat=2^ls.length:=by rw[c7];omega
  rw[en] at e1;have pl:=qeg ls t (2^ls.length);have hnd:((qau ls t (2^ls.length)).map qi).Nodup:=Zz.mpr ((qgk nd ht).imp λ{a b} A1 e=>A1 (jP e));refine⟨_,rfl,fb,(qau ls t (2^ls.length)).map qi,rfl,SqL.of (by rw[<- zI];exact e1),by rw[U3];show _<4096;omega,hnd,λ l P7=>?_⟩;rw[qb0 (zI _).symm,qeh nd ht];refine⟨l,_,rfl,.inl ⟨SqL.of qd,λ r E4=>?_⟩⟩;exact q r _ ((g1.to P7).to E4) qd
noncomputable def asW(x:Tr×Tr):Wsh:=⟨0,1,1,0,x.1,x.2⟩
theorem qk3(x:Tr×Tr):(asW x).text=qdC x:=by
 unfold asW qdC Wsh.text;simp
theorem qhp(xs:List (Tr×Tr)):((xs.map asW).map λ y=>vS y.text)=xs.map λ x=>vS (qdC x):=by
 rw[Q5];exact Y8 λ x _=>by show vS (asW x).text=_;rw[qk3]
theorem k9:∀ t:Tr,t.nodes<=2*(t.wt:Int)-1
 |.letter _=>by show(1:Int)<=2*((1:Nat):Int)-1;decide
 |.one=>by show(1:Int)<=2*((1:Nat):Int)-1;decide
 |.zero=>by show(1:Int)<=2*((1:Nat):Int)-1;decide
 |.neg t=>by have:=k9 t;show 1+t.nodes<=2*((t.wt+1:Nat):Int)-1;omega
 |.bin _ t u=>by have:=k9 t;have:=k9 u;show 1+t.nodes+u.nodes<=2*((t.wt+u.wt:Nat):Int)-1;omega
theorem qnF(h1:x.1.Of ls)(h2:x.2.Of ls)(w1:x.1.wt<=10)(w2:x.2.wt<=10):(asW x).Ok ls:=by
 have a:=k9 x.1;have b:=k9 x.2;exact⟨⟨Ve _,by show 1<=100;decide,by show 1<=100;decide,Ve _⟩,h1,h2,by show x.1.nodes<=20;omega,by show x.2.nodes<=20;omega⟩
theorem qgl(ρ:Nat->Bool)(xs:List (Tr×Tr))(h:∀ x∈xs,x.1.Of ls/\x.2.Of ls):qu ρ (zn ((xs.map asW).map Wsh.side))=xs.any λ x=>x.1.val ρ != x.2.val ρ:=by
 have i9:∀(l:List (Tr×Tr)),(∀ x∈l,x.1.Of ls/\x.2.Of ls)->On ls (zn ((l.map asW).map Wsh.side)):=λ l hl=>qbN _ λ z hz=>by
  obtain⟨y,hy,rfl⟩:=Q4.mp hz;obtain⟨x,hx,rfl⟩:=Q4.mp hy;exact⟨Tr.on (hl x hx).1,Tr.on (hl x hx).2⟩
 have ind:∀ n,n<=xs.length->qu ρ (zn (((xs.take n).map asW).map Wsh.side))=(xs.take n).any λ x=>x.1.val ρ != x.2.val ρ:=by
  intro n;induction n with
  |zero=>intro _;rfl
  |succ n ih =>
   intro hn;have hx:xs[n]?=some xs[n]:=Xy (by omega);have hm:=Ur (l:=xs) (n:=n) (by omega);have o1:=Tr.on (h _ hm).1;have o2:=Tr.on (h _ hm).2;rw[ze hx,Ja,Ja,List.any_append];show qu ρ (zn (_++[(xs[n].1.form,xs[n].2.form)]))=_
   rw[qb1,qcN ρ (i9 _ λ x hx=>h x (Ys hx)).vf (o1.added o2).vf,ih (by omega),yU ρ o1.vf o2.vf,Tr.form_worth ρ (h _ hm).1,Tr.form_worth ρ (h _ hm).2];simp
 have:=ind xs.length (Vd _)
 rw[Ut] at this;exact this
theorem qk4{xs:List (Tr×Tr)}(h:∀ x∈xs,x.1.Of ls/\x.2.Of ls):On ls (zn ((xs.map asW).map Wsh.side)):=qbN _ λ z hz=>by
 obtain⟨y,hy,rfl⟩:=Q4.mp hz;obtain⟨x,hx,rfl⟩:=Q4.mp hy;exact⟨Tr.on (h x hx).1,Tr.on (h x hx).2⟩
theorem qi1(hx:H1 x=none)(hd:H1 dx=none)(b:But x (upd (upd H1 dx o1) x o2) H2):qk H1 H2:=λ a o e=>by
 have n1:a≠x:=λ q=>by rw[q,hx] at e;cases e
 have n2:a≠dx:=λ q=>by rw[q,hd] at e;cases e
 exact b a o n1 (by rw[qv n1,qv n2];exact e)
theorem qh6{k:Key}(h:k∉kvs.map (·.1)):zP kvs k=none:=by
 unfold zP;rw[List.find?_eq_none.mpr λ p hp=>by
  intro e;exact h (Q4.mpr ⟨p,hp,Ui e⟩)]
 rfl
theorem qbS:∀(l c9:List (Key×V)),((c9++l).map (·.1)).Nodup->qH c9 l=c9++l
 | [],c9,_=>by rw[U4];rfl
 |x::l,c9,h=>by
  have e:c9++x::l=(c9++[x])++l:=by simp
  have hx:x.1∉c9.map (·.1):=λ hm=>by
   rw[Ja,Qj,Zy] at h;exact h.2.2 _ hm _ (Ze ..) rfl
  show qH (jb c9 x.1 x.2) l=_
  rw[qcC _ (qh6 hx),e];exact qbS l (c9++[x]) (by rw[<- e];exact h)
theorem qdD(h:(Sum.inr (qi [c]):Key)=Sum.inr (qi [d])):c=d:=by have:=jP (Sum.inr.inj h);simpa using this
theorem qi2(gp:List Nat)(ys:List V):kvK (zS (qi gp) ys)=(gp.zip ys).map λ p=>((Sum.inr (qi [p.1]):Key),p.2):=by
 unfold kvK zS;rw[show(qi gp).cps.toList=gp from rfl,List.zip_map_left,Q5];rfl
theorem qpt(nd:gp.Nodup)(hl:gp.length=ys.length):∀ c,(c∉gp->zP (qH [] (kvK (zS (qi gp) ys))) (.inr (qi [c]))=none)/\∀(j:Nat) v,gp[j]?=some c->ys[j]?=some v->zP (qH [] (kvK (zS (qi gp) ys))) (.inr (qi [c]))=some v:=by
 intro c;have e:qH [] (kvK (zS (qi gp) ys))=(gp.zip ys).map λ p=>((Sum.inr (qi [p.1]):Key),p.2):=by
  rw[qi2,qbS _ [] ?_]
  ·rfl
  ·rw[U9,Q5]
   have:(gp.zip ys).map ((λ p:Key×V=>p.1) ∘ λ p:Nat×V=>((Sum.inr (qi [p.1]):Key),p.2))=gp.map λ c=>(Sum.inr (qi [c]):Key):=by
    rw[show((λ p:Key×V=>p.1) ∘ λ p:Nat×V=>((Sum.inr (qi [p.1]):Key),p.2))=(λ c=>(Sum.inr (qi [c]):Key)) ∘ Prod.fst from rfl,<- Q5,List.map_fst_zip (by omega)]
   rw[this];exact Zz.mpr (nd.imp λ{a b} A1 e=>A1 (qdD e))
 rw[e];constructor
 ·intro hc;refine qh6 λ hm=>?_
  rw[Q5] at hm;obtain⟨p,hp,e⟩:=Q4.mp hm;exact hc (qdD e ▸ (U6 hp).1)
 ·intro j v h1 h2;have gen:∀(l:List Nat)(m:List V)(j:Nat),l.Nodup->l[j]?=some c->m[j]?=some v->zP ((l.zip m).map λ p=>((Sum.inr (qi [p.1]):Key),p.2)) (.inr (qi [c]))=some v:=by
   intro l;induction l with
   |nil=>intro m j _ h;simp at h
   |cons a l ih =>
    intro m j nd h1 h2;obtain⟨n1,n2⟩:=U5.mp nd;cases m with
    |nil=>simp at h2
    |cons b m =>
     rw[Zk,Qj];cases j with
     |zero =>
      have e1:a=c:=Option.some.inj h1;have e2:b=v:=Option.some.inj h2;subst e1 e2;exact qaZ rfl
     |succ j =>
      have hm:c∈l:=Yn h1;rw[qa0 (λ q=>n1 (by rw[qdD (c:=a) (d:=c) q];exact hm))];exact ih m j n2 h1 h2
  exact gen gp ys j nd h1 h2
def qh7(K:W.Frag)(CT:Addr):Sp:=λ vs H Q _=>∃(o:Addr)(gv gp:List Nat)(ws:List Wsh)(dx a1 a2 a3:Addr)(ps:List Addr)(b:Addr)(fs:List Addr)(g:Nat->List Pr),vs=[.ref o,.ref b]/\TaskAt CT H o gv gp ws dx a1 a2 a3 ps/\SqL K H b (fs.map V.ref)/\gp.length=fs.length/\gp.Sublist xyz /\
 (∀(j:Nat) c r,gp[j]?=some c->fs[j]?=some r->SqT K H r ((g c).map vS))/\(∀ c,c∉gp->g c=[[c]])/\Fit (zn (ws.map Wsh.side))/\(∀ c∈qg (zn (ws.map Wsh.side)),Fit (g c))/\(qR ((qg (zn (ws.map Wsh.side))).map g)).length<=9 /\
 ∀ H',qk H H'->Q (.bl (decide (putIn (zn (ws.map Wsh.side)) g=[]))) H'
theorem qk5:xyz.Pairwise (·<·):=by decide
theorem qh8:∀ c∈xyz,c<128:=by decide
theorem qk6:FnScope ["self","filling"] ["self","filling"] (qj vB):=scF
theorem qk7(F:Fun K "fills" "Task.fills" vB f fd)(T:Txt mg)(N4:Dp P w K mg base 13 gI gK ["form","forms"] (qkx K) "put_in")(l8:TaskC K i7): FnOk P w K mg base CX0 14 f fd ["self","filling"] (qh7 K i7):=by
 refine F.okd qk6 (λ cdv A outer s H vs Q E hr h=>?_);obtain⟨o,gv,gp,ws,dx,a1,a2,a3,ps,b,fs,g,rfl,t,hb,hl,R6,hg,xC,fit,fits,l9,q⟩:=h;have hu:=Nat.lt_of_succ_lt (jv hr);refine⟨_,(qe (qo (zE (qly qcT hu) (zk N4 hr (qa (zA (pv 0) (by rfl)) (qa (qgT (by rfl) (by rfl) T.dict (by rfl) T.zip (qa (zA (pv 0) (by rfl)) (qa (pv 1) qb))) qb))) (zF qb) (qy _)))),?_⟩;have nd:gp.Nodup:=qQ Qh (qk5.sublist R6);have vz:=qpt (ys:=fs.map V.ref) nd (by rw[U3];exact hl);refine⟨_,rfl,o,i7,dx,_,_,rfl,t.ins,l8.cls,l8.n5,rfl,?_⟩;refine⟨_,rfl,o,i7,dx,_,_,rfl,t.ins,l8.cls,l8.n2,rfl,?_⟩;refine⟨_,rfl,qi gp,b,fs.map V.ref,rfl,?_,hb,?_,λ d hd=>?_⟩
 ·rw[Array.all_eq_true'];intro c hc;exact Qa (qh8 c (R6.subset (by simpa [qi] using hc)))
 ·rw[U3];show gp.length=_;exact hl
 have gd:=qk.up hd (o:=.dK (qH [] (kvK (zS (qi gp) (fs.map V.ref)))));refine⟨a3,d,_,g,rfl,SqT.of (gd _ _ t.fault),⟨_,qd,λ c hc=>?_⟩,fit,fits,l9,λ r H2 g2 e2=>?_⟩
 ·by_cases h:c∈gp
  ·obtain⟨j,hj⟩:=Yc.mp h;have oM:j<fs.length:=by have:=yi hj;omega
   exact .inr ⟨fs[j],(vz c).2 j _ hj (by rw[Zt,Xy oM];rfl),gd.seqT (hg j c _ hj (Xy oM))⟩
  ·exact .inl ⟨(vz c).1 h,xC c h⟩
 refine⟨qB (by show 0<=_;decide),λ p hp=>?_⟩;have g3:=qk.up hp (o:=.tup []);refine⟨r,p,(putIn (zn (ws.map Wsh.side)) g).map qi,[],rfl,rfl,.inl ⟨SqT.of (by rw[<- zI];exact g3 _ _ e2),SqT.of qd⟩,?_⟩;exact vk (by simp) (q _ ((gd.trans g2).trans g3))
def qe8:Sp:=λ vs H Q _=>∃(d1 d2:Addr)(kvs more:List (Key×V)),vs=[.ref d1,.ref d2]/\H d1=some (.dK kvs)/\H d2=some (.dK more)/\kvs.length+more.length<=1000/\∀ d H',qk H H'->H d=none->H' d=some (.dK (qH kvs more))->Q (.ref d) H'
theorem qhq(kvs l:List (Key×V))(x:Key×V):qH kvs (l++[x])=jb (qH kvs l) x.1 x.2:=by unfold qH;rw[Z5];rfl
theorem qcr:FnScope [sC2,sB1,sA2,sB8,"_law_truth_here"] [sC2,sB1] (qj qaR):=scF
theorem qmn(F:Fun K sC9 sC9 qaR f fd)(T:Txt mg): FnOk P w K mg base CX0 1 f fd [sC2,sB1] (qe8):=by
 refine F.okd qcr (λ cdv A outer s H vs Q E hr h=>?_);obtain⟨d1,d2,kvs,more,rfl,h1,h2,hz,q⟩:=h;have B6:=jv hr;refine⟨_,(qc (qt (i:=2) qcr.nd rfl (Or.inl rfl) (zo (qfL) (by rfl) T.dict qhS (qa (pv 0) qb)))
  (qc (qlO (qaf (n:=2) Jk rfl (qkb (pv 1)) (qE (qr (i:=3) qcr.nd rfl (Or.inl rfl)) (qE (qr (i:=4) qcr.nd rfl (Or.inl rfl)) zC))
  (qe (qeu B6 (pv 2) (pv 3) (pv 4) rfl))))
  (qe (qo (pv 2))))),?_⟩
 refine⟨_,rfl,d1,_,rfl,h1,λ p hp=>?_⟩;have g0:=qk.up hp (o:=.dK kvs);have e2:=g0 _ _ h2;have np:p≠d2:=λ e=>by rw[e,h2] at hp;cases hp
 refine⟨d2,more,e2,_,rfl,d2,more,rfl,e2,λ ob=>?_⟩;refine qnn (λ i σ H1=>∃ v3 v4:Option V,σ=[some (.ref d1),some (.ref d2),some (.ref p),v3,v4]/\H1 d2=some (.frz ob (.dK more))/\H1 p=some (.dK (qH kvs (more.take i)))/\∀ b o,b≠d2->H b=some o->H1 b=some o) ⟨none,none,rfl,qd,?_,?_⟩ (λ i σ H1 _ ⟨_,_,_,h,_⟩=>h) ?_ ?_
 ·rw[qv np,qd];rfl
 ·intro b o hb e;rw[qv hb];exact g0 _ _ e
 ·rintro i k v σ H1 hk ⟨v3,v4,rfl,hf,O2,hb⟩;refine⟨_,_,rfl,_,_,rfl,rfl,?_⟩;have hl:(qH kvs (more.take i)).length<sizeLine:=by have:=yI (more.take i) kvs;rw[Ul] at this;exact zi (by omega)
  refine⟨_,rfl,_,rfl,_,rfl,p,_,rfl,.inl ⟨_,k,O2,rfl,hl,rfl⟩,?_⟩;refine⟨_,_,rfl,by rw[qv (Vz np)];exact hf,?_,λ b o oO e=>?_⟩
  ·rw[qd,ze hk,qhq]
  ·rw[qv (λ q=>by rw[q,hp] at e;cases e)];exact hb b o oO e
 ·rintro σ H1 ⟨v3,v4,rfl,hf,O2,hb⟩;rw[Ut] at O2;refine⟨ob,hf,_,rfl,q p _ (λ b o e=>?_) hp (by rw[qv np];exact O2)⟩;by_cases oO:b=d2
  ·rw[oO] at e ⊢;rw[h2] at e;cases e;exact qd
  ·rw[qv oO];exact hb b o oO e
theorem qb3(h:a.length=r.length):yg (a++b) (r++q)=yg a r++yg b q:=by
 unfold yg;rw[List.zip_append h,Ja]
theorem qi3(h:ls.length=r.length):(yg ls r).map (·.1)=ls.map λ c=>(Sum.inr (qi [c]):Key):=by
 unfold yg;rw[Q5]
 have:∀(ls:List Nat)(r:List Bool),ls.length=r.length->(ls.zip r).map ((λ x:Key×V=>x.1) ∘ λ x:Nat×Bool=>((Sum.inr (qi [x.1]):Key),V.bl x.2))=ls.map λ c=>(Sum.inr (qi [c]):Key):=by
  intro ls;induction ls with
  |nil=>intro r _;rfl
  |cons a l ih=>intro r h;cases r with
   |nil=>cases h
   |cons b r=>rw[Zk,Qj,Qj,ih r (by simpa using h)];rfl
 exact this ls r h
theorem qhr(nd:ls.Nodup)(h:ls.length=r.length):((yg ls r).map (·.1)).Nodup:=by
 rw[qi3 h];exact Zz.mpr (nd.imp λ{a b} A1 e=>by
  have:=jP (Sum.inr.inj e)
  simp at this;exact A1 this)
theorem qdE(nd:(a++b).Nodup)(h:a.length=r.length)(h':b.length=q.length):qH (yg a r) (yg b q)=yg (a++b) (r++q):=by
 rw[qb3 h];refine qbS _ _ ?_;rw[<- qb3 h];exact qhr nd (by rw[Zh,Zh,h,h'])
theorem qbv(h:ls.length=r.length):(yg ls r).length=ls.length:=by rw[yg,U3,Jj];omega
def qe9(K:W.Frag):Sp:=λ vs H Q _=>∃(a d:Addr)(F:List Pr)(kvs:List (Key×V))(ρ:Nat->Bool),vs=[.ref a,.ref d]/\SqT K H a (F.map vS)/\H d=some (.dK kvs)/\(∀ p∈F,∀ c∈p,zP kvs (.inr (qi [c]))=some (.bl (ρ c)))/\(∀ p∈F,p.length<=1000)/\∀ H',qk H H'->Q (.bl (qu ρ F)) H'
theorem qhs(ρ:Nat->Bool)(F:List Pr)(p:Pr):qu ρ (F++[p])=xor (qu ρ F) (p.all ρ):=by rw[jc];simp[qu]
theorem qnG(l:List Nat)(ρ:Nat->Bool):(l.map ρ).all id=l.all ρ:=by rw[List.all_map];rfl
theorem qbw:FnScope [sB4,sA2,"_law_odd",sC2] [sB4,sA2] (qj k6):=scF
theorem qk8(F:Fun K sD0 sD0 k6 f fd)(T:Txt mg): FnOk P w K mg base CX0 1 f fd [sB4,sA2] (qe9 K):=by
 refine F.okd qbw (λ cdv A outer s H vs Q E hr h=>?_);obtain⟨a,d,F,kvs,ρ,rfl,hF,hd,hm,h9,q⟩:=h;have B6:=jv hr;refine⟨_,(qc (qt (i:=2) qbw.nd rfl (Or.inl rfl) qfi)
  (qc (yq Jk rfl (qjc (pv 0)) (qr (i:=3) qbw.nd rfl (Or.inl rfl))
  (qe (zb (jX (qz (qfz rfl) (by rfl) T.all qnp (qa (zH (csc (NY:=[sB8,sA2]) (o:=1) (caps:=[1]) [sA2] rfl
    (by intro x hx;rw[Zn.mp hx];exact .inl rfl) (kq rfl rfl rfl y7) rfl) rfl
    (kf (pv 3)) (λ C0 s H fp pins=>qr (i:=0) (show([sB8,sA2]:List Str).Nodup by decide +kernel) rfl (Or.inl rfl)) (λ C0 s H fp pins=>zt) (λ C0 s H fp pins=>(j2 B6 (pv 1) (pv 0) (λ _ _=>rfl)))) qb)))
   (qe (qt (i:=2) qbw.nd rfl (Or.inl rfl) (qgo (pv 2)))) qF)))
  (qe (qo (pv 2))))),?_⟩
 refine⟨_,rfl,a,rfl,⟨_,hF⟩,?_⟩;refine qlm (K:=K) (xs:=F.map vS) (λ i σ H1=>∃(v3:Option V),σ=[some (.ref a),some (.ref d),some (.bl (qu ρ (F.take i))),v3]/\qk H H1) ⟨none,rfl,qk.refl H⟩ (λ i σ H1 hi ⟨_,_,g⟩=>g.seqT hF) ?_ ?_
 ·rintro i x σ H1 hx ⟨v3,rfl,g1⟩;obtain⟨p,hp,rfl⟩:=ql hx;have wV:=Yn hp;have hs:(qi p).cps.size=p.length:=qD p;have wt:qu ρ (F.take (i+1))=xor (qu ρ (F.take i)) (p.all ρ):=by rw[show F.take (i+1)=F.take i++[p] by rw[J4,hp];rfl,qhs]
  refine⟨_,rfl,_,rfl,?_⟩;refine qc2 (λ j=>((p.map ρ).take j).map V.bl) rfl (λ j hj=>?_) ?_ ?_
  ·rw[U3,Ul,U3];have:=h9 p wV;exact zi (by omega)
  ·intro j H2 D Y Z hj hD t6 sm hY hZ;rw[hs] at hj;rw[jp hj];refine⟨⟨rfl,rfl⟩,?_⟩;have gd:=vN.k (k:=Sum.inr (qi [p[j]])) (sm _ _ (g1 _ _ hd));rw[hm p wV _ (Ur hj)] at gd;refine⟨_,rfl,_,rfl,d,_,rfl,gd,?_⟩;exact hY _ _ t6 sm (yf (f:=V.bl) (by rw[Zt,Xy hj];rfl))
  ·intro D H2 hD sm t6;rw[hs,XL (by rw[U3];exact Vd _)] at t6;refine⟨D,p.map ρ,rfl,SqL.of t6,_,rfl,?_⟩;rw[qnG];refine vV (λ c=>?_) (λ c=>?_)
   ·refine⟨_,rfl,_,rfl,?_⟩;exact⟨_,by rw[wt,c,Bool.xor_true];rfl,g1.trans sm⟩
   ·exact⟨_,by rw[wt,Z3.mpr c,Bool.xor_false];rfl,g1.trans sm⟩
 ·rintro σ H1 ⟨v3,rfl,g1⟩;rw[U3,Ut];exact⟨_,rfl,q H1 g1⟩
noncomputable def qbx(c:Nat):Nat:=c-8
def qfa:Sp:=λ vs H Q _=>∃(gp:List Nat),vs=[vS gp]/\gp.Sublist [120,121,122]/\∀ H',qk H H'->Q (vS (gp.map qbx)) H'
noncomputable def qk9:List (Key×V):=[(.inr "x",.str "p"),(.inr "y",.str "q"),(.inr "z",.str "r")]
theorem qmo:∀ c∈([120,121,122]:List Nat),zP (qH [] qk9) (.inr (qi [c]))=some (vS [qbx c]):=by decide +kernel
theorem qla:FnScope [sA9] [sA9] (qj k7):=scF
theorem qlb(F:Fun K sD1 sD1 k7 f fd)(T:Txt mg): FnOk P w K mg base CX0 1 f fd [sA9] (qfa):=by
 refine F.okd qla (λ cdv A outer s H vs Q E hr h=>?_);obtain⟨gp,rfl,G7,q⟩:=h;have B6:=jv hr;refine⟨_,(qe (qo (yA XQ Yg Yh jy qm (qa (zH (csc (NY:=[sD5]) (o:=1) (caps:=[]) [] rfl
    (by simp) y7 rfl) rfl
    (kf (pv 0)) (λ C0 s H fp pins=>qr (i:=0) (show([sD5]:List Str).Nodup by decide +kernel) rfl (Or.inl rfl)) (λ C0 s H fp pins=>zt) (λ C0 s H fp pins=>(j2 B6 (qhz (jN qm qm (jN qm qm (jN qm qm qhy))) rfl rfl (by simp) (by decide)) (pv 0) (λ _ _=>rfl)))) qb)))),?_⟩
 have hs:(qi gp).cps.size=gp.length:=qD gp;have hz:("":Str).length=0:=by decide
 have pV:gp.length<=3:=G7.length_le;refine⟨rfl,?_⟩;refine⟨_,rfl,_,rfl,?_⟩;refine qc2 (λ j=>((gp.map qbx).take j).map λ c=>vS [c]) rfl (λ j hj=>?_) ?_ ?_
 ·rw[U3,Ul,U3];exact zi (by omega)
 ·intro j H6 D6 Y Z hj mY C9 G6 hY hZ;rw[hs] at hj;rw[jp hj];refine⟨⟨rfl,rfl⟩,?_⟩;refine λ p hp=>⟨qd,qk9,rfl,by decide,?_⟩
  have nD:D6≠p:=λ e=>by rw[<- e,C9] at hp;cases hp
  have fH:∀{o o':HO},qk H6 (upd (upd H6 p o) p o'):=λ{o o'} b u e=>by rw[qv (λ q=>by rw[q,hp] at e;cases e),qv (λ q=>by rw[q,hp] at e;cases e)];exact e
  have gd:=vN.k (H:=upd (upd H6 p (.dK [])) p (.dK (qH [] qk9))) (k:=Sum.inr (qi [gp[j]])) (qd (a:=p));rw[qmo _ (G7.subset (Ur hj))] at gd;refine⟨_,rfl,p,_,rfl,gd,?_⟩;exact hY _ _ (fH _ _ C9) (G6.trans fH) (yf (f:=λ c=>vS [c]) (by rw[Zt,Xy hj];rfl))
 ·intro D6 H6 mY G6 C9;rw[hs,XL (by rw[U3];exact Vd _)] at C9;refine⟨_,D6,((gp.map qbx).map λ c=>[c]).map qi,rfl,rfl,.inl (SqL.of (by rw[C9,vm,zI])),?_,?_⟩
  ·rw[yY,hz,zB,U3];show _+_*0<=_;omega
  rw[yX,zB];exact q _ G6
def qfb(K:W.Frag):Sp:=λ vs H Q _=>∃(a:Addr)(ns:List Int)(I0:Int)(ls:List Nat),vs=[.ref a,.int I0,vS ls]/\Scr K H a ns/\0<=I0/\I0<=5000/\ls.Pairwise (·<·)/\ls.length<=6/\∀ r F H',qk H H'->On ls F->H' r=some (.tup (F.map vS))->Q (.ref r) H'
theorem qnH{l:List Bool}(h0:0<=i)(h:i<(l.length:Int)):∃ b,atI (l.map V.bl) i=some (.bl b):=by
 have hk:i.toNat<l.length:=by omega
 have:=yr (xs:=l.map V.bl) (j:=i.toNat) (v:=.bl l[i.toNat]) (by rw[Zt,Xy hk];rfl)
 rw[show((i.toNat:Nat):Int)=i by omega] at this;exact⟨_,this⟩
theorem qi4{c:Prop}[Decidable c]{A B:Prop}(R:Bool->Prop)(hA:c->(∀ z,R z)->A)(hB:¬ c->(∀ z,R z)->B)(hC:∀ z,R z):if c then A else B:=by
 by_cases h:c
 ·rw[V4 h];exact hA h hC
 ·rw[V5 h];exact hB h hC
theorem yx:FnScope [sA1,sB9,sA0,sA8,"_law_way","_law_found",sA7,sA2,sB3,sB5] [sA1,sB9,sA0] (qj yG):=scF
theorem qlc(F:Fun K sB7 sB7 yG f fd)(T:Txt mg)(c6:Dp P w K mg base 1 n6 n8 [sA1,sA7] (y2 K) sB0)(u3:Dp P w K mg base 1 E8 G1 [sA0,sA5] (qdA) sC6)(x4:Dp P w K mg base 2 M6 M9 [sA0,sB3] (qcq K) sC8): FnOk P w K mg base CX0 3 f fd [sA1,sB9,sA0] (qfb K):=by
 refine F.okd yx (λ cdv A outer s H vs Q E hr h=>?_);obtain⟨a,ns,I0,ls,rfl,hS,a0,a1,hl,l6,q⟩:=h;have B6:=jv hr;refine⟨_,(qc (qt (i:=3) yx.nd rfl (Or.inl rfl) (qY zj (zO (qa qf (qa qf (qa qf (qa qf (qa qf (qa qf (qa qf qb)))))))) (qz zG (by rfl) T.len J9 (qa (pv 2) qb)) (λ _ _=>rfl)))
  (qc (qt (i:=4) yx.nd rfl (Or.inl rfl) (qp zc (zk c6 hr (qa (pv 0) (qa (pv 1) qb))) qf))
  (qc (zb (qx jM (qz zG (by rfl) T.len J9 (qa (pv 2) qb)) qf (qy _))
   (qc (qt (i:=5) yx.nd rfl (Or.inl rfl) (zO qb))
  (qc (yq Jk rfl (zM (by rfl) T.range (qa (qp zc (qp yH (zk c6 hr (qa (pv 0) (qa (pv 1) qb))) qf) qf) qb)) (qr (i:=6) yx.nd rfl (Or.inl rfl))
  (qc (qt (i:=7) yx.nd rfl (Or.inr rfl) (zk u3 hr (qa (pv 2) (qa (qp zc (zk c6 hr (qa (pv 0) (qa (qp zz (qp zz (pv 1) qf) (pv 6)) qb))) (pv 3)) qb))))
  (qe (ja (yA XE X2 X3 zV (pv 5) (qa (yA XQ Yg Yh jy qm (qa (zH (csc (NY:=[sB8,sA2]) (o:=1) (caps:=[7]) [sA2] rfl
    (by intro x hx;rw[Zn.mp hx];exact .inl rfl) (kq rfl rfl rfl y7) rfl) rfl
    (kf (pv 2)) (λ C0 s H fp pins=>qr (i:=0) (show([sB8,sA2]:List Str).Nodup by decide +kernel) rfl (Or.inl rfl)) (λ C0 s H fp pins=>(qac (jX (j2 B6 (pv 1) (pv 0) (λ _ _=>rfl))))) (λ C0 s H fp pins=>(pv 0))) qb)) qb))))))
  (qe (qo (zo yJ (by rfl) T.tuple qbr (qa (qz (kz rfl) (by rfl) T.sorted jk (qa (zo (ki rfl) (by rfl) T.set qdq (qa (pv 5) qb)) qb)) qb)))))) qF)
  (qc (qt (i:=8) yx.nd rfl (Or.inl rfl) (zO qb))
  (qc (yq Jk rfl (zM (by rfl) T.range (qa (pv 3) qb)) (qr (i:=6) yx.nd rfl (Or.inl rfl))
  (qc (qt (i:=9) yx.nd rfl (Or.inl rfl) (zk c6 hr (qa (pv 0) (qa (qp zz (qp zz (pv 1) qf) (pv 6)) qb))))
  (qe (ja (yA XE X2 X3 zV (pv 8) (qa (qY zj (zO (qa (zE zg (qp zc (pv 9) qf) qf (qy _)) (qa (zE zg (qp zc (pv 9) qf) qf (qy _)) (qa (zE zg (qp zc (pv 9) qf) qf (qy _)) (qa (zE jM (qp zc (pv 9) qf) qf (qy _)) (qa (qcv (zE zg (pv 4) qf (qy _)) (qcu (zE zg (qp zc (pv 6) qf) qf (qy _)))) qb)))))) (pv 4) (λ _ _=>rfl)) qb))))))
  (qe (qo (zk x4 hr (qa (pv 2) (qa (pv 8) qb)))))))))),?_⟩
 have mP:(qi ls).length=ls.length:=qD ls;have hs:(qi ls).cps.size=ls.length:=qD ls;have nd:=qQ Qh hl;have hz:("":Str).length=0:=by decide
 have p64:2^ls.length<=64:=Qy (Yu (by decide) l6) (by decide);have c0:(0:Int)<((2^ls.length:Nat):Int):=by exact_mod_cast Ji _
 have c1:((2^ls.length:Nat):Int)<=64:=by exact_mod_cast p64
 refine⟨qB (by show 7<=_;decide),λ p hp=>?_⟩;have g0:=qk.up hp (o:=.lst (qhk.map V.int));refine⟨_,rfl,_,rfl,by rw[mP];exact qB (by omega),?_⟩;rw[mP];refine⟨p,_,_,_,rfl,rfl,SqL.of (show upd H p (.lst (qhk.map V.int)) p=some (.lst (qhk.map V.int)) from qd),qh5 l6,?_⟩;refine⟨_,rfl,_,rfl,a,ns,I0,rfl,hS.mono g0,a0,by omega,λ z H1 g1 z0 z1=>?_⟩;have nA:=g0.trans g1;have w0:=Jd z (b:=5) (by decide);have w1:=Zo z (b:=5) (by decide);refine⟨_,_,rfl,rfl,(show(0:Int)<5 by decide),?_⟩;obtain⟨i8,iK⟩:∃ m:Int,m=((2^ls.length:Nat):Int):=⟨_,rfl⟩;rw[<- iK] at c0 c1 ⊢;refine⟨_,rfl,_,rfl,by rw[mP];exact qB (by omega),_,_,rfl,rfl,_,rfl,?_⟩;refine vV (λ c=>?_) (λ c=>?_)
 ·refine⟨Ve _,λ fb sO=>?_⟩;have g2:=qk.up sO (o:=.lst []);refine⟨_,rfl,_,rfl,a,ns,I0,rfl,hS.mono (nA.trans g2),a0,by omega,λ z2 H2 g3 y0 y1=>?_⟩;have n0:=Jd (z2 / 5) (b:=7) (by decide);have n1:=Zo (z2 / 5) (b:=7) (by decide);refine⟨_,_,rfl,rfl,⟨by decide,by decide⟩,_,_,rfl,rfl,(show(0:Int)<7 by decide),_,rfl,by omega,by omega,?_⟩;refine yj (λ i σ H3=>∃(G:List Pr)(v6 v7:Option V),σ=[some (.ref a),some (.int I0),some (vS ls),some (.int i8),some (.int (z % 5)),some (.ref fb),v6,v7,none,none]/\qk H1 H3/\H3 fb=some (.lst (G.map vS))/\G.length=i/\∀ p∈G,p.Sublist ls) ⟨[],none,none,rfl,g2.trans g3,g3 _ _ qd,rfl,by simp⟩ ?_ ?_
  ·rintro i σ H3 hi ⟨G,v6,v7,rfl,g4,e4,lG,sG⟩;refine⟨_,rfl,_,rfl,_,rfl,_,_,rfl,rfl,_,rfl,_,_,rfl,rfl,a,ns,_,rfl,hS.mono (nA.trans g4),?_,?_,λ z3 H4 g5 x0 x1=>?_⟩
   ·show(0:Int)<=I0+1+(0+(i:Int));omega
   ·show I0+1+(0+(i:Int))<=100000;omega
   have m0:=Jd z3 (b:=i8) (by omega);refine⟨_,rfl,_,_,rfl,rfl,c0,ls,(z3 % i8).toNat,(by rw[Int.toNat_of_nonneg m0];rfl),nd,l6,λ d H5 g6 e6=>?_⟩;have eF:=g6 _ _ (g5 _ _ e4);have lr:ls.length=(qM ls.length (z3 % i8).toNat).length:=(ya _ _).symm;refine⟨_,rfl,.inl ⟨rfl,_,SqL.of eF⟩,rfl,?_⟩;refine⟨_,rfl,_,rfl,?_⟩;refine qc2 (λ j=>((ls.take j).filter (asg ls (qM ls.length (z3 % i8).toNat))).map λ c=>vS [c]) rfl (λ j hj=>?_) ?_ ?_
   ·rw[U3];have:=Ye (asg ls (qM ls.length (z3 % i8).toNat)) (ls.take j);rw[Ul] at this;exact zi (by omega)
   ·intro j H6 D6 Y Z hj mY C9 G6 hY hZ;rw[hs] at hj;rw[jp hj];have fs:=kM (f:=asg ls (qM ls.length (z3 % i8).toNat)) hj;have gd:=vN.k (k:=Sum.inr (qi [ls[j]])) (G6 _ _ e6);rw[y3 lr,V4 (Ur hj)] at gd;refine⟨⟨rfl,rfl⟩,?_⟩;refine⟨_,rfl,_,rfl,d,_,rfl,gd,_,rfl,?_⟩;refine vV (λ c=>?_) (λ c=>?_)
    ·refine⟨_,rfl,hY _ _ C9 G6 ?_⟩;show List.map _ ((ls.take (j+1)).filter _)=_
     rw[fs,V4 c,Ja];rfl
    ·refine hZ _ C9 G6 ?_;show List.map _ ((ls.take (j+1)).filter _)=_
     rw[fs,V5 c,U4]
   ·intro D6 H6 mY G6 C9;rw[hs,Ut] at C9;have eS:ls.filter (asg ls (qM ls.length (z3 % i8).toNat))=sel ls (z3 % i8).toNat:=rfl;rw[eS] at C9;have sS:(sel ls (z3 % i8).toNat).Sublist ls:=List.filter_sublist;have lS:=sS.length_le;refine⟨_,D6,((sel ls (z3 % i8).toNat).map λ c=>[c]).map qi,rfl,rfl,.inl (SqL.of (by rw[C9,vm,zI])),?_,?_⟩
    ·rw[yY,hz,zB];show _+_*0<=_;omega
    rw[yX,zB];have eF6:=G6 _ _ eF;refine⟨fb,_,_,rfl,rfl,eF6,by rw[U3];exact zi (by omega),?_⟩;refine⟨G++[sel ls (z3 % i8).toNat],_,_,rfl,(((g4.trans g5).trans g6).trans G6).at sO,by rw[qd,Ja];rfl,by rw[Zh,XW,lG],λ p hp=>?_⟩;rcases U1.mp hp with h|h
    ·exact sG p h
    ·rw[Zn.mp h];exact sS
  ·rintro σ H3 ⟨G,v6,v7,rfl,g4,e4,lG,sG⟩;refine⟨_,rfl,G.map qi,.inl ⟨fb,rfl,.inl (SqL.of (by rw[<- zI];exact e4))⟩,by rw[U3];show _<4096;omega,λ l us P7 x3 hm=>?_⟩;have lN:=yV G;have aV:∀ x,x∈us ↔ cs x∈vK G:=λ x=>by rw[hm x,kr,zX]
   have hul:us.length<=64-1:=by
    have h1:=jQ x3 lN aV;have h2:=zW lN (λ x hx=>(zX (l:=G)).mp hx);omega
   refine⟨l,us,rfl,qd,by show _<4096;omega,x3,λ l2 L5=>?_⟩;rw[qce x3 lN aV];refine⟨l2,_,rfl,.inl ⟨SqL.of qd,λ r E4=>?_⟩⟩;exact q r _ _ ((((nA.trans g4).to P7).to L5).to E4) ⟨⟨qa6 lN,λ p hp=>hl.sublist (sG p (zX.mp (jx.mp hp)))⟩,λ p hp c hc=>(sG p (zX.mp (jx.mp hp))).subset hc⟩ qd
 ·refine⟨Ve _,λ tb rL=>?_⟩;have g2:=qk.up rL (o:=.lst []);refine⟨_,rfl,_,rfl,by omega,by omega,?_⟩;refine yj (λ i σ H3=>∃(t:List Bool)(v6 v9:Option V),σ=[some (.ref a),some (.int I0),some (vS ls),some (.int i8),some (.int (z % 5)),none,v6,none,some (.ref tb),v9]/\qk H1 H3/\H3 tb=some (.lst (t.map V.bl))/\t.length=i) ⟨[],none,none,rfl,g2,qd,rfl⟩ ?_ ?_
  ·rintro i σ H3 hi ⟨t,v6,v9,rfl,g4,e4,lt⟩;refine⟨_,rfl,_,rfl,_,_,rfl,rfl,_,rfl,_,_,rfl,rfl,a,ns,_,rfl,hS.mono (nA.trans g4),?_,?_,λ z3 H4 g5 x0 x1=>?_⟩
   ·show(0:Int)<=I0+1+(0+(i:Int));omega
   ·show I0+1+(0+(i:Int))<=100000;omega
   have eT:=g5 _ _ e4;refine⟨_,rfl,.inl ⟨rfl,_,SqL.of eT⟩,?_⟩;refine⟨_,rfl,_,_,rfl,rfl,(show(0:Int)<2 by decide),rfl,_,rfl,_,_,rfl,rfl,(show(0:Int)<4 by decide),rfl,_,rfl,_,_,rfl,rfl,(show(0:Int)<8 by decide),rfl,_,rfl,_,_,rfl,rfl,(show(0:Int)<3 by decide),_,_,rfl,rfl,_,rfl,rfl,_,rfl,?_⟩;generalize decide (V.int (z3 % 2)=V.int 0)=b1;generalize decide (V.int (z3 % 4)=V.int 0)=b2;generalize decide (V.int (z3 % 8)=V.int 0)=b3;refine qi4 ?R (λ c C=>?hA) (λ c C=>?hB) ?hC
   case hA =>
    refine⟨_,rfl,_,_,rfl,rfl,(show(0:Int)<3 by decide),rfl,?_⟩;generalize decide (V.int ((0+(i:Int)) % 3)=V.int 1)=b5;exact C b5
   case hB =>
    exact C false
   intro b5;refine⟨qB (by show 5<=_;decide),λ p5 wX=>?_⟩;obtain⟨b,hb⟩:=qnH (l:=[b1,b2,b3,decide ((0:Int)<z3 % 3),b5]) w0 w1;have g7:=qk.up wX (o:=.lst [V.bl b1,V.bl b2,V.bl b3,V.bl (decide ((0:Int)<z3 % 3)),V.bl b5]);refine⟨_,rfl,p5,_,_,_,rfl,rfl,SqL.of qd,hb,?_⟩;refine⟨tb,_,_,rfl,rfl,g7 _ _ eT,by rw[U3];exact zi (by omega),?_⟩;exact⟨t++[b],_,_,rfl,((g4.trans g5).trans g7).at rL,by rw[qd,Ja];rfl,by rw[Zh,XW,lt]⟩
  ·rintro σ H3 ⟨t,v6,v9,rfl,g4,e4,lt⟩;refine⟨_,rfl,_,rfl,tb,t,ls,rfl,SqL.of e4,by rw[lt,iK];exact Zv _,hl,l6,λ r H' g e=>?_⟩;exact q r _ H' ((nA.trans g4).trans g) (On.formOf hl t) e
noncomputable def qoP(gv gp:List Nat)(N M:Nat):Nat->Bool:=asg (gv++gp) (qM gv.length N++qM gp.length M)
def qb9(ts:List Addr)(H H':Hp):Prop:=∀ b o,b∉ts->H b=some o->H' b=some o
theorem qb9.refl(ts:List Addr)(H:Hp):qb9 ts H H:=λ _ _ _ e=>e
theorem qb9.same(h:qb9 ts H H1)(g:qk H1 H2):qb9 ts H H2:=λ b o n e=>g _ _ (h b o n e)
theorem qb9.upd{ts:List Addr}{H H':Hp}{t:Addr}(h:qb9 ts H H')(ht:t∈ts){o:HO}:qb9 ts H (upd H' t o):=λ b p n e=>by rw[qv (λ q:b=t=>n (by rw[q];exact ht))];exact h b p n e
theorem qen{c:Prop}[Decidable c]{A B:Prop}(G R:Addr->Hp->Prop)(hA:c->(∀ p H,G p H->R p H)->A)(hB:¬ c->(∀ p H,G p H->R p H)->B)(hC:∀ p H,G p H->R p H):if c then A else B:=by
 by_cases h:c
 ·rw[V4 h];exact hA h hC
 ·rw[V5 h];exact hB h hC
theorem qmp{l:List Addr}(h0:0<=i)(h:i<(l.length:Int)):∃ b∈l,atI (l.map V.ref) i=some (.ref b):=by
 have hk:i.toNat<l.length:=by omega
 have:=yr (xs:=l.map V.ref) (j:=i.toNat) (v:=.ref l[i.toNat]) (by rw[Zt,Xy hk];rfl)
 rw[show((i.toNat:Nat):Int)=i by omega] at this;exact⟨_,Ur hk,this⟩
def qdF(K:W.Frag):Sp:=λ vs H Q _=>∃(a:Addr)(ns:List Int)(gv gp:List Nat)(r:Addr)(ps:List Addr)(xs:List (Tr×Tr)),vs=[.ref a,vS gv,vS gp,.ref r]/\Scr K H a ns/\gv.Sublist [97,98,99]/\gp.Sublist [120,121,122]/\H r=some (.lst (ps.map V.ref))/\Paired (jE H) ps xs/\xs.length<=100/\(∀ x∈xs,x.1.Of (gv++gp)/\x.2.Of (gv++gp)/\x.1.ht<=20/\x.2.ht<=20)/\
 ∀ r' fs (Fs:List (List Pr)) H',qk H H'->H' r'=some (.lst (fs.map V.ref))->Fs.length=gp.length->Paired (λ c (F:List Pr)=>On gv F/\H' c=some (.tup (F.map vS))) fs Fs->Q (.ref r') H'
theorem qgm(h:(List.range n)[i]?=some N):N=i/\i<n:=by
 have hl:=yi h;rw[Z4] at hl;rw[Y9 hl] at h;exact⟨(Option.some.inj h).symm,hl⟩
theorem yc:FnScope [sA1,sA6,sA9,sA3,"_law_tables",sA5,sA2,"_law_some","_law_more",sA7,sD5] [sA1,sA6,sA9,sA3] (qj vE):=scF
theorem qi5(F:Fun K sC5 sC5 vE f fd)(T:Txt mg)(r9:Dp P w K mg base 2 M5 M8 [sA0] (qcp) sC7)(x5:Dp P w K mg base 1 M7 N0 [sC2,sB1] (qe8) sC9)(o4:Dp P w K mg base 21 A4 A5 [sA3,sA2] (qao K) sC0)(c6:Dp P w K mg base 1 n6 n8 [sA1,sA7] (y2 K) sB0)(x4:Dp P w K mg base 2 M6 M9 [sA0,sB3] (qcq K) sC8): FnOk P w K mg base CX0 22 f fd [sA1,sA6,sA9,sA3] (qdF K):=by
 refine F.okd yc (λ cdv A outer s H vs Q E hr h=>?_);obtain⟨a,ns,gv,gp,r,ps,xs,rfl,hS,P5,G7,E4,pr,lx,ok,q⟩:=h;have hu:=Nat.lt_of_succ_lt (jv hr);have B6:=jv hr;refine⟨_,(qc (qbj (i:=4) yc.nd rfl rfl (csc (NY:=[sD5]) (o:=1) (caps:=[]) [] rfl
    (by simp) y7 rfl) rfl
    (kf (pv 2)) (λ C0 s H fp pins=>qr (i:=0) (show([sD5]:List Str).Nodup by decide +kernel) rfl (Or.inl rfl)) (λ C0 s H fp pins=>zt) (λ C0 s H fp pins=>(zO qb)))
  (qc (qaf (n:=2) Jk rfl (qhH (by rfl) T.enumerate (qa (zk r9 hr (qa (pv 1) qb)) qb)) (qE (qr (i:=5) yc.nd rfl (Or.inl rfl)) (qE (qr (i:=6) yc.nd rfl (Or.inr rfl)) zC))
  (qc (qbj (i:=7) yc.nd rfl rfl (csc (NY:=["_law_more",sA3,sA2]) (o:=1) (caps:=[3,6]) [sA3,sA2] rfl
    (by intro x hx;rcases Qi.mp hx with e | hx;· rw[e];exact .inl rfl
        rw[Zn.mp hx];exact .inl rfl) (kq rfl rfl rfl (kq rfl rfl rfl y7)) rfl) rfl
    (zU (zk r9 hr (qa (pv 2) qb))) (λ C0 s H fp pins=>qr (i:=0) (show(["_law_more",sA3,sA2]:List Str).Nodup by decide +kernel) rfl (Or.inl rfl)) (λ C0 s H fp pins=>(qac (qx zg (qz (r:=qoh K) qA (by rfl) T.len J9 (qa (zk o4 hr (qa (pv 1) (qa (zk x5 hr (qa (pv 2) (qa (pv 0) qb))) qb))) qb)) qf (qy _)))) (λ C0 s H fp pins=>(pv 0)))
  (qc (zb (qx zg (qz qA (by rfl) T.len J9 (qa (pv 7) qb)) qf (qy _))
   (qe (qt (i:=7) yc.nd rfl (Or.inl rfl) (zk r9 hr (qa (pv 2) qb)))) qF)
  (qc (qt (i:=8) yc.nd rfl (Or.inl rfl) (qY zj (pv 7) (qp zc (zk c6 hr (qa (pv 0) (qa (qp zz qf (pv 5)) qb))) (qz qA (by rfl) T.len J9 (qa (pv 7) qb))) (λ _ _=>rfl)))
  (qe (qaf (n:=2) Jk rfl (qde (by rfl) T.enumerate (qa (pv 2) qb)) (qE (qr (i:=9) yc.nd rfl (Or.inl rfl)) (qE (qr (i:=10) yc.nd rfl (Or.inl rfl)) zC))
  (qe (ja (yA XE X2 X3 zV (qY zj (pv 4) (pv 9) (λ _ _=>rfl)) (qa (j2 B6 (pv 8) (pv 10) (λ _ _=>rfl)) qb))))))))))
  (qe (qo (zH (csc (NY:=[sB3,sA6]) (o:=1) (caps:=[1]) [sA6] rfl
    (by intro x hx;rw[Zn.mp hx];exact .inl rfl) (kq rfl rfl rfl y7) rfl) rfl
    (zU (pv 4)) (λ C0 s H fp pins=>qr (i:=0) (show([sB3,sA6]:List Str).Nodup by decide +kernel) rfl (Or.inl rfl)) (λ C0 s H fp pins=>zt) (λ C0 s H fp pins=>(zk x4 hr (qa (pv 1) (qa (pv 0) qb))))))))),?_⟩
 obtain⟨lY,pU,l9⟩:=qbO P5 G7;have wM:gv.length<=3:=P5.length_le;have pV:gp.length<=3:=G7.length_le;have nZ:=qQ Qh lY;have ndv:gv.Nodup:=(Zy.mp nZ).1;have aD:gp.Nodup:=(Zy.mp nZ).2.1;have hrv:gv.Pairwise (·<·):=(Yq.mp lY).1;have h8v:2^gv.length<=8:=Yu (n:=2) (by decide) wM;have h8p:2^gp.length<=8:=Yu (n:=2) (by decide) pV;have P6:(qi gp).cps.size=gp.length:=qD gp;refine⟨_,rfl,_,rfl,?_⟩;refine ye (qi gp).cps.size (λ i ys H2=>∃ ts:List Addr,ys=ts.map V.ref/\ts.length=i/\ts.Nodup/\∀ t∈ts,H t=none/\H2 t=some (.lst [])) (λ D hD=>⟨[],rfl,rfl,List.nodup_nil,by simp⟩) (λ i ys H2 hi ⟨ts,e,hl,_⟩=>by rw[e,U3];rw[P6] at hi;exact zi (by omega)) ?_ (λ H2 sm=>rfl) ?_
 ·rintro i ys H2 D Y Z hi hD t6 sm ⟨ts,rfl,lt,nt,ht⟩ hY hZ;refine⟨hi,?_⟩;rintro x H' ⟨rfl,rfl⟩;refine⟨⟨rfl,rfl⟩,?_⟩;refine⟨Ve _,λ t' dS=>?_⟩;have g':=qk.up dS (o:=.lst []);have nD:t'≠D:=λ e=>by rw[e,t6] at dS;cases dS
  refine hY _ _ (g' _ _ t6) (sm.trans g') ⟨ts++[t'],by rw[Ja];rfl,by rw[Zh,XW,lt],?_,λ t h=>?_⟩
  ·refine Zy.mpr ⟨nt,by simp,λ u hu v hv e=>?_⟩;rw[Zn.mp hv] at e;rw[e] at hu;rw[(ht _ hu).2] at dS;cases dS
  ·rcases U1.mp h with h | h
   ·have nt:t≠D:=λ e=>by
     have h2:=(ht t h).2;rw[e,t6] at h2
     have:=HO.lst.inj (Option.some.inj h2)
     rw[Za] at this;rw[this] at h;cases h
    rw[qv nt];exact⟨(ht t h).1,g' _ _ (ht t h).2⟩
   ·rw[Zn.mp h,qv nD,qd];exact⟨qmj sm dS,rfl⟩
 rintro D H2 ys hD sm2 t6 ⟨ts,rfl,lt,nt,ht⟩;rw[P6] at lt;have nDt:D∉ts:=λ h=>by
  have h2:=(ht D h).2;rw[t6] at h2
  have:=HO.lst.inj (Option.some.inj h2)
  rw[Za] at this;rw[this] at h;cases h
 refine⟨_,rfl,gv,rfl,ndv,by omega,λ rr ds H3 g3 e3 pd=>?_⟩;have pX:ds.length=2^gv.length:=by rw[pd.length,Z4]
 have ht3:∀ t∈ts,H3 t=some (.lst []):=λ t h=>g3 _ _ (ht t h).2
 have nrr:rr∉ts:=λ h=>by
  have h2:=ht3 rr h;rw[e3] at h2
  have:=HO.lst.inj (Option.some.inj h2)
  rw[Za] at this;have hp:0<2^gv.length:=Ji _;rw[this] at pX;rw[<- pX] at hp;cases hp
 have nH:∀{z:Addr}{o:HO},H z=some o->z∉ts:=λ h m=>by rw[(ht _ m).1] at h;cases h
 have ndk:∀{z:Addr}{o:HO},H3 z=some o->(∀ l,o≠.lst l)->z∉ts:=λ h n m=>by rw[ht3 _ m] at h;exact n _ (Option.some.inj h).symm
 have tO:=sm2.trans g3;refine⟨rr,rfl,⟨_,SqL.of e3⟩,?_⟩;refine qjR (K:=K) (xs:=ds.map V.ref) (λ i σ H'=>∃(v5 v6 v7 v8 v9 dY:Option V),σ=[some (.ref a),some (vS gv),some (vS gp),some (.ref r),some (.ref D),v5,v6,v7,v8,v9,dY]/\qb9 ts H3 H'/\∀ t∈ts,∃ B:List Bool,H' t=some (.lst (B.map V.bl))/\B.length=i) ⟨none,none,none,none,none,none,rfl,qb9.refl _ _,λ t h=>⟨[],ht3 t h,rfl⟩⟩ (λ i σ H' hi ⟨_,_,_,_,_,_,_,b,_⟩=>SqL.of (b _ _ nrr e3)) ?_ ?_
 ·rintro i y σ H8 hy ⟨v5,v6,v7,v8,v9,dY,rfl,b8,t8⟩;obtain⟨d,hd,rfl⟩:=ql hy;obtain⟨N,hN,ed⟩:=zf pd i d hd;obtain⟨rfl,hNl⟩:=qgm hN;have ed8:H8 d=some (.dK (yg gv (qM gv.length N))):=b8 _ _ (ndk ed λ l z=>nomatch z) ed;have g8:qk H H8:=λ z o e=>b8 _ _ (nH e) (tO _ _ e)
  have uI:H8 D=some (.lst (ts.map V.ref)):=b8 _ _ nDt (g3 _ _ t6);refine⟨_,_,rfl,_,_,rfl,rfl,?_⟩;refine⟨_,rfl,gp,rfl,aD,by omega,λ r2 ds2 H9 g9 e9 pd2=>?_⟩;have lds2:ds2.length=2^gp.length:=by rw[pd2.length,Z4]
  refine⟨r2,rfl,⟨_,SqL.of e9⟩,?_⟩;refine ye (ds2.map V.ref).length (λ j ys H'=>∃ es:List Addr,ys=es.map V.ref/\es.length<=j/\∀ e∈es,∃ M,H' e=some (.dK (yg gp (qM gp.length M)))) (λ D hD=>⟨[],rfl,Vd _,by simp⟩) (λ j ys H' hj ⟨es,e,hl,_⟩=>by rw[e,U3];rw[U3] at hj;exact zi (by omega)) ?_ (λ H' sm=>⟨_,sm.seq (SqL.of e9),Vd _⟩) ?_
  ·rintro j ys H' D' Y Z hj tK P3 sm ⟨es,rfl,hl,oN⟩ hY hZ;refine⟨⟨_,_,sm.seq (SqL.of e9),Xy hj⟩,?_⟩;rintro x nU ⟨rfl,hx⟩;have ev:=hx _ (sm.seq (SqL.of e9));obtain⟨d2,W4,rfl⟩:=ql ev;obtain⟨M,hM,ed2⟩:=zf pd2 j d2 W4;have g9':=g9.trans sm;have lv:gv.length=(qM gv.length N).length:=(ya _ _).symm;have lp:gp.length=(qM gp.length M).length:=(ya _ _).symm;have lb:(gv++gp).length=(qM gv.length N++qM gp.length M).length:=by rw[Zh,Zh,<- lv,<- lp]
   have up:∀{HX:Hp}{z:Addr}{kv:List (Key×V)}{l l':List V},HX D'=some (.lst l)->HX z=some (.dK kv)->upd HX D' (.lst l') z=some (.dK kv):=λ{HX z kv l l'} hX h=>by
    have:z≠D':=λ q=>by rw[q,hX] at h;cases h
    rw[qv this];exact h
   refine⟨⟨rfl,rfl⟩,?_⟩;refine⟨_,rfl,_,rfl,_,rfl,d,d2,_,_,rfl,g9' _ _ ed8,sm _ _ ed2,by rw[qbv lv,qbv lp];omega,λ d3 HC gC fC eC=>?_⟩;rw[qdE nZ lv lp] at eC;have gHC:=(g8.trans g9').trans gC;refine⟨r,d3,ps,xs,_,qoP gv gp N M,gv++gp,rfl,gHC _ _ E4,zd (λ p x h=>jE.mono h (zw gHC)) pr,lx,ok,eC,λ c hc=>by rw[y3 lb,V4 hc];rfl,λ r' is HD gD eD O9=>?_⟩;have oS:=gC.trans gD;refine⟨r',_,rfl,.inl (SqL.of eD),rfl,_,rfl,?_⟩;have M4:=oS _ _ P3;refine vV (λ c=>?_) (λ c=>?_)
   ·refine⟨_,rfl,hY _ _ M4 (sm.trans oS) ⟨es++[d2],by rw[Ja];rfl,by rw[Zh,XW];omega,λ e he=>?_⟩⟩;rcases U1.mp he with h | h
    ·obtain⟨M',tH⟩:=oN e h;exact⟨M',up M4 (oS _ _ tH)⟩
    ·rw[Zn.mp h];exact⟨M,up M4 (oS _ _ (sm _ _ ed2))⟩
   ·refine hZ _ M4 (sm.trans oS) ⟨es,rfl,by omega,λ e he=>?_⟩;obtain⟨M',tH⟩:=oN e he;exact⟨M',oS _ _ tH⟩
  rintro D' HA ys tK iA oP ⟨es,rfl,hl,oN⟩;rw[U3,lds2] at hl;have g8A:=g9.trans iA;refine⟨_,rfl,D',_,rfl,.inl (SqL.of oP),rfl,_,rfl,?_⟩;refine qen (λ p H'=>qk H8 H'/\∃ es:List Addr,es≠[]/\es.length<=8/\H' p=some (.lst (es.map V.ref))/\∀ e∈es,∃ M,H' e=some (.dK (yg gp (qM gp.length M)))) ?R (λ c C=>?hA) (λ c C=>?hB) ?hC
  case hA =>
   refine⟨_,rfl,gp,rfl,aD,by omega,λ r3 ds3 HB gB eB pd3=>?_⟩;have pW:ds3.length=2^gp.length:=by rw[pd3.length,Z4]
   refine C r3 HB ⟨g8A.trans gB,ds3,λ e=>?_,by omega,eB,λ e he=>?_⟩
   ·have hp:0<2^gp.length:=Ji _;rw[e] at pW;rw[<- pW] at hp;cases hp
   ·obtain⟨k,hk⟩:=Yc.mp he;obtain⟨M,_,hM⟩:=zf pd3 k e hk;exact⟨M,hM⟩
  case hB =>
   refine C D' HA ⟨g8A,es,λ e=>?_,by omega,oP,oN⟩;rw[e] at c;exact c rfl
  rintro p HB ⟨g8B,o7,ne',le',eB,hes'⟩;have mB:(0:Int)<(((o7.map V.ref).length:Nat):Int):=by
   rw[U3]
   have:0<o7.length:=List.length_pos_iff.mpr ne'
   omega
  refine⟨_,rfl,_,rfl,_,rfl,_,_,rfl,rfl,a,ns,_,rfl,hS.mono (g8.trans g8B),?_,?_,λ z HC gC z0 z1=>?_⟩
  ·show(0:Int)<=180+(N:Int);omega
  ·show 180+(N:Int)<=100000;omega
  have eC:=gC _ _ eB;obtain⟨e,he,bK⟩:=qmp (l:=o7) (i:=z % (((o7.map V.ref).length:Nat):Int)) (Jd _ (by omega)) (by have:=Zo z mB;rw[U3] at this ⊢;exact this);obtain⟨M,hM⟩:=hes' e he;refine⟨_,rfl,p,_,rfl,.inl (SqL.of eC),_,_,rfl,rfl,mB,p,_,_,_,rfl,rfl,SqL.of eC,bK,?_⟩;have g8C:=g8B.trans gC;have eM:=gC _ _ hM;have lp:gp.length=(qM gp.length M).length:=(ya _ _).symm;refine⟨_,rfl,_,rfl,?_⟩;have bC:qb9 ts H3 HC:=b8.same g8C;refine qbH (λ k σ H'=>∃(v9 dY:Option V),σ=[some (.ref a),some (vS gv),some (vS gp),some (.ref r),some (.ref D),some (.int (N:Int)),some (.ref d),some (.ref p),some (.ref e),v9,dY]/\qb9 ts H3 H'/\H' e=some (.dK (yg gp (qM gp.length M)))/\∀(j:Nat) t,ts[j]?=some t->∃ B:List Bool,H' t=some (.lst (B.map V.bl))/\B.length=if j<k then N+1 else N) ⟨_,_,rfl,bC,eM,λ j t hj=>?_⟩ ?_ ?_
  ·obtain⟨B,hB,lB⟩:=t8 t (Yn hj);exact⟨B,g8C _ _ hB,by rw[V5 (Jc _)];exact lB⟩
  ·rintro k σ HD hk ⟨v9',v10',rfl,bD,eD,tD⟩;rw[P6] at hk;rw[jp hk];have hkt:k<ts.length:=by omega
   have htk:ts[k]?=some ts[k]:=Xy hkt;have mtk:ts[k]∈ts:=Ur hkt;obtain⟨B,hB,lB⟩:=tD k _ htk;rw[V5 (Qh _)] at lB;have eDD:HD D=some (.lst (ts.map V.ref)):=bD _ _ nDt (g3 _ _ t6);have ha:atI (ts.map V.ref) (k:Int)=some (.ref ts[k]):=yr (by rw[Zt,htk];rfl);have gd:=vN.k (k:=Sum.inr (qi [gp[k]])) eD;rw[y3 lp,V4 (Ur hk)] at gd;have net:ts[k]≠e:=λ q=>by rw[<- q,hB] at eD;cases eD
   refine⟨_,_,rfl,_,_,rfl,rfl,?_⟩;refine⟨_,rfl,_,rfl,D,_,_,_,rfl,rfl,SqL.of eDD,ha,?_⟩;refine⟨.inl ⟨rfl,_,SqL.of hB⟩,_,rfl,_,rfl,e,_,rfl,gd,ts[k],_,_,rfl,rfl,hB,by rw[U3];exact zi (by omega),?_⟩;refine⟨_,_,rfl,bD.upd mtk,by rw[qv (Vz net)];exact eD,λ j t hj=>?_⟩;by_cases h:j=k
   ·rw[h,htk] at hj;have e1:=Option.some.inj hj;subst e1;rw[h];exact⟨B++[asg gp (qM gp.length M) gp[k]],by rw[qd,Ja];rfl,by rw[V4 (Uk _),Zh,XW,lB]⟩
   ·have ntk:t≠ts[k]:=λ q=>by
     have oM:=yi hj;rw[Xy oM] at hj;exact h ((List.getElem_inj nt).mp ((Option.some.inj hj).trans q))
    obtain⟨B',hB',lB'⟩:=tD j t hj;refine⟨B',by rw[qv ntk];exact hB',?_⟩;rw[lB'];by_cases h':j<k
    ·rw[V4 h',V4 (by omega)]
    ·rw[V5 h',V5 (by omega)]
  ·rintro σ HD ⟨v9',v10',rfl,bD,eD,tD⟩;rw[P6] at tD;refine⟨_,_,_,_,_,_,rfl,bD,λ t h=>?_⟩;obtain⟨j,hj⟩:=Yc.mp h;have oM:=yi hj;obtain⟨B,hB,lB⟩:=tD j t hj;rw[V4 (by omega)] at lB;exact⟨B,hB,lB⟩
 ·rintro σ H8 ⟨v5,v6,v7,v8,v9,dY,rfl,b8,t8⟩;rw[U3,pX] at t8;have g8:qk H H8:=λ z o e=>b8 _ _ (nH e) (tO _ _ e)
  have uI:H8 D=some (.lst (ts.map V.ref)):=b8 _ _ nDt (g3 _ _ t6);refine⟨_,rfl,D,rfl,⟨_,SqL.of uI⟩,?_⟩;refine ye (ts.map V.ref).length (λ j ys H'=>∃(fs:List Addr)(Fs:List (List Pr)),ys=fs.map V.ref/\Fs.length=j/\Paired (λ c (F:List Pr)=>On gv F/\H' c=some (.tup (F.map vS))) fs Fs) (λ D hD=>⟨[],[],rfl,rfl,.nil⟩) (λ j ys H' hj ⟨fs,Fs,e,hl,pf⟩=>by rw[e,U3,pf.length,hl];rw[U3] at hj;exact zi (by omega)) ?_ (λ H' sm=>⟨_,sm.seq (SqL.of uI),Vd _⟩) ?_
  ·rintro j ys H' D' Y Z hj tK P3 sm ⟨fs,Fs,rfl,hl,pf⟩ hY hZ;refine⟨⟨_,_,sm.seq (SqL.of uI),Xy hj⟩,?_⟩;rintro x nU ⟨rfl,hx⟩;have ev:=hx _ (sm.seq (SqL.of uI));obtain⟨t,htj,rfl⟩:=ql ev;obtain⟨B,hB,lB⟩:=t8 t (Yn htj);have up:∀{HX:Hp}{z:Addr}{kv l l':List V},HX D'=some (.lst l)->HX z=some (.tup kv)->upd HX D' (.lst l') z=some (.tup kv):=λ{HX z kv l l'} hX h=>by
    have:z≠D':=λ q=>by rw[q,hX] at h;cases h
    rw[qv this];exact h
   refine⟨⟨rfl,rfl⟩,?_⟩;refine⟨_,rfl,_,rfl,t,B,gv,rfl,SqL.of (sm _ _ hB),lB,hrv,by omega,λ c HC gC eC=>?_⟩;have mX:=gC _ _ P3;refine hY _ _ mX (sm.trans gC) ⟨fs++[c],Fs++[formOf gv B],by rw[Ja];rfl,by rw[Zh,XW,hl],?_⟩;exact q8 (L2.Paired.mapP pf λ z F h=>⟨h.1,up mX (gC _ _ h.2)⟩) (.cons ⟨On.formOf hrv B,up mX eC⟩ .nil)
  ·rintro D' HA ys tK iA oP ⟨fs,Fs,rfl,hl,pf⟩;rw[U3,lt] at hl;exact q D' fs Fs HA (g8.trans iA) oP hl pf
noncomputable def gOf(gp:List Nat)(Fs:List (List Pr))(c:Nat):List Pr:=(((gp.zip Fs).find? λ x=>decide (x.1=c)).map (·.2)).getD [[c]]
theorem qdG(h:c∉gp):gOf gp Fs c=[[c]]:=by
 unfold gOf;rw[List.find?_eq_none.mpr λ p hp=>by
  intro e;exact h (Ui e ▸ (U6 hp).1)]
 rfl
theorem qht:∀{gp:List Nat}{Fs:List (List Pr)}{j c:Nat}{F:List Pr},gp.Nodup->gp[j]?=some c->Fs[j]?=some F->gOf gp Fs c=F
 | [],_,j,c,F,_,h,_=>by simp at h
 |d::gp,[],j,c,F,_,_,h=>by simp at h
 |d::gp,G::Fs,0,c,F,_,h1,h2=>by
  have e1:d=c:=Option.some.inj h1;have e2:G=F:=Option.some.inj h2;subst e1 e2;unfold gOf;rw[Zk,U7];simp
 |d::gp,G::Fs,j+1,c,F,nd,h1,h2=>by
  obtain⟨n1,n2⟩:=U5.mp nd;have hc:c∈gp:=Yn (i:=j) (by simpa using h1);have ne:¬ d=c:=λ e=>n1 (e ▸ hc)
  have:=qht (j:=j) n2 (by simpa using h1) (by simpa using h2)
  unfold gOf at this ⊢;rw[Zk,U7,show decide ((d,G).1=c)=false from Jl ne];exact this
theorem qgn:∀{a b:List Nat}{r q:List Bool}{c:Nat},a.length=r.length->c∈a->asg (a++b) (r++q) c=asg a r c
 | [],b,r,q,c,_,h=>by simp at h
 |d::a,b,[],q,c,hl,_=>by simp at hl
 |d::a,b,x::r,q,c,hl,h=>by
  by_cases e:d=c
  ·subst e;rw[Uv,Uv,kK,kK]
  ·rw[Uv,Uv,jR _ _ _ e,jR _ _ _ e];refine qgn (by simpa using hl) ?_;rcases Qi.mp h with h | h
   ·exact absurd h.symm e
   ·exact h
theorem qeo:∀{a b:List Nat}{r q:List Bool}{c:Nat},a.length=r.length->c∉a->asg (a++b) (r++q) c=asg b q c
 | [],b,[],q,c,_,_=>rfl
 | [],b,_::_,q,c,hl,_=>by simp at hl
 |d::a,b,[],q,c,hl,_=>by simp at hl
 |d::a,b,x::r,q,c,hl,h=>by
  have e:¬ d=c:=λ e=>h (e ▸ Ze ..)
  rw[Uv,Uv,jR _ _ _ e];exact qeo (by simpa using hl) λ m=>h (Yl _ m)
theorem qld:∀{gp:List Nat}{r:List Bool}{j c:Nat}{b:Bool},gp.Nodup->gp[j]?=some c->r[j]?=some b->asg gp r c=b
 | [],_,j,c,F,_,h,_=>by simp at h
 |d::gp,[],j,c,F,_,_,h=>by simp at h
 |d::gp,G::Fs,0,c,F,_,h1,h2=>by
  have e1:d=c:=Option.some.inj h1;have e2:G=F:=Option.some.inj h2;subst e1 e2;exact kK ..
 |d::gp,G::Fs,j+1,c,F,nd,h1,h2=>by
  obtain⟨n1,n2⟩:=U5.mp nd;have hc:c∈gp:=Yn (i:=j) (by simpa using h1);rw[jR _ _ _ (λ e:d=c=>n1 (e ▸ hc))];exact qld (j:=j) n2 (by simpa using h1) (by simpa using h2)
noncomputable def qdH(L:List Nat)(Fs:List (List Pr))(N:Nat):List Bool:=Fs.map λ F=>qu (asg L (qM L.length N)) F
noncomputable def qfc(L gp:List Nat)(Fs:List (List Pr))(N:Nat):Nat->Bool:=asg (L++gp) (qM L.length N++qdH L Fs N)
theorem qfd(hl:Fs.length=gp.length)(nd:gp.Nodup)(oF:∀ F∈Fs,On L F)(h:c∈gp):∃(j:Nat)(F:List Pr),gp[j]?=some c/\Fs[j]?=some F/\gOf gp Fs c=F/\On L F:=by
 obtain⟨j,hj⟩:=Yc.mp h;have oM:=yi hj;have hF:Fs[j]?=some Fs[j]:=Xy (by omega);exact⟨j,_,hj,hF,qht nd hj hF,oF _ (Yn hF)⟩
theorem qep(hl:Fs.length=gp.length)(nd:(L++gp).Nodup)(oF:∀ F∈Fs,On L F)(sub:∀ c∈gv,c∈L)(bX:On (gv++gp) FF)(hρ:∀ c∈L,asg L (qM L.length N) c=ρ c):qu ρ (putIn FF (gOf gp Fs))=qu (qfc L gp Fs N) FF:=by
 obtain⟨wK,aD,dis⟩:=Zy.mp nd;have lb:L.length=(qM L.length N).length:=(ya _ _).symm;have inL:∀ c∈gp,c∉L:=λ c h m=>dis c m c h rfl
 rw[qfT ρ bX.vf λ c hc=>?_]
 ·refine kI λ p hp c hc=>?_
  by_cases h:c∈gp
  ·obtain⟨j,F,hj,hF,e,o⟩:=qfd hl aD oF h;show qu ρ (gOf gp Fs c)=asg _ _ c
   rw[qeo lb (inL c h),qld (b:=qu (asg L (qM L.length N)) F) aD hj (by unfold qdH;rw[Zt,hF];rfl),e];exact kI λ p hp c hc=>(hρ c (o.mem p hp c hc)).symm
  ·have hv:c∈gv:=(U1.mp (bX.mem p hp c hc)).elim id λ m=>absurd m h
   show qu ρ (gOf gp Fs c)=asg _ _ c
   rw[qgn lb (sub c hv),hρ c (sub c hv),qdG h];simp[qu]
 ·by_cases h:c∈gp
  ·obtain⟨j,F,hj,hF,e,o⟩:=qfd hl aD oF h;rw[e];exact o.vf
  ·rw[qdG h];exact⟨by simp,by simp⟩
theorem qi6(hl:Fs.length=gp.length)(nd:(L++gp).Nodup)(oF:∀ F∈Fs,On L F)(sub:∀ c∈gv,c∈L)(bX:On (gv++gp) FF):
  decide (putIn FF (gOf gp Fs)=[])=(List.range (2^L.length)).all λ N=>!qu (qfc L gp Fs N) FF:=by
 have wK:=(Zy.mp nd).1;rw[U2,decide_eq_true_iff,Uo];constructor
 ·intro h N _
  have:=qep (ρ:=asg L (qM L.length N)) (N:=N) hl nd oF sub bX λ _ _=>rfl
  rw[h] at this;rw[<- this];rfl
 ·intro h;refine(qj0 _ _).only qju λ ρ=>?_
  rw[qep (N:=yD ρ 0 L) hl nd oF sub bX λ c hc=>qfZ ρ wK c hc]
  have:=h _ (Js.mpr (qag ρ L))
  rw[Bool.not_eq_true'] at this;rw[this];rfl
theorem qle(h:On ls F)(hl:ls.Pairwise (·<·))(l6:ls.length<=6):Fit F:=by
 have h1:=h.len hl;have h2:=h.flat hl;have h3:2^ls.length<=64:=Qy (Yu (by decide) l6) (by decide);have h4:F.length*ls.length<=64*6:=Nat.mul_le_mul (by omega) l6;refine⟨by omega,by omega,?_⟩
 have:=zW (m:=ls) (qQ Qh (qT F)) λ c hc=>by
  obtain⟨p,hp,hc⟩:=zm.mp hc;exact h.mem p hp c hc
 omega
theorem qmq(hl:Fs.length=gp.length)(nd:gp.Nodup)(oF:∀ F∈Fs,On L F)(hr:L.Pairwise (·<·))(l6:L.length<=6)(c:Nat):Fit (gOf gp Fs c):=by
 by_cases h:c∈gp
 ·obtain⟨j,F,hj,hF,e,o⟩:=qfd hl nd oF h;rw[e];exact qle o hr l6
 ·rw[qdG h];exact qg1 c
theorem qmr(hl:Fs.length=gp.length)(nd:gp.Nodup)(oF:∀ F∈Fs,On L F)(l6:L.length<=6)(sub:∀ c∈gv,c∈L)(bX:On (gv++gp) FF):(qR ((qg FF).map (gOf gp Fs))).length<=9:=by
 have:=zW (m:=L) (qQ Qh (qT _)) (l:=qR ((qg FF).map (gOf gp Fs))) λ c hc=>by
  obtain⟨F,hF,p,hp,hc⟩:=qhN.mp hc;obtain⟨d,hd,rfl⟩:=Q4.mp hF;obtain⟨p',x8,bJ⟩:=zm.mp hd;by_cases h:d∈gp
  ·obtain⟨j,F,hj,hF,e,o⟩:=qfd hl nd oF h;rw[e] at hp;exact o.mem p hp c hc
  ·rw[qdG h] at hp;rw[Zn.mp hp] at hc;rw[Zn.mp hc];exact sub d ((U1.mp (bX.mem p' x8 d bJ)).elim id λ m=>absurd m h)
 omega
noncomputable def apx:List Nat:=[97,98,99,112,113,114,120,121,122]
theorem qlf {gp:List Nat}(P5:gv.Sublist [97,98,99])(G7:gp.Sublist [120,121,122])(h:L=gv∨L=gv++gp.map qbx):(L++gp).Sublist apx/\L.length<=6/\gv.Sublist L:=by
 have sf:(gp.map qbx).Sublist [112,113,114]:=G7.map qbx;have l1:=P5.length_le;have l2:=sf.length_le;rcases h with rfl|rfl
 ·exact⟨(P5.append G7).trans (by decide),by simp at l1;omega,List.Sublist.refl _⟩
 ·refine⟨(P5.append sf).append G7,?_,List.sublist_append_left ..⟩;rw[Zh];simp at l1 l2 ⊢;omega
def qh9(K:W.Frag):Sp:=λ vs H Q _=>∃(a:Addr)(ns:List Int),vs=[.ref a]/\SqL K H a (ns.map V.int)/\ns.length<=63/\∀ H',Q (.bl true) H'
theorem qms:bootBuiltins "bool"=some (.type "bool"):=by decide +kernel
theorem qi7{c:Prop}[Decidable c]{A B:Prop}(G R:List Nat->Hp->Prop)(hA:c->(∀ p H,G p H->R p H)->A)(hB:¬ c->(∀ p H,G p H->R p H)->B)(hC:∀ p H,G p H->R p H):if c then A else B:=by
 by_cases h:c
 ·rw[V4 h];exact hA h hC
 ·rw[V5 h];exact hB h hC
theorem qb4:∀{xs:List α}{ys:List β},Paired R xs ys->∀ y∈ys,∃ x∈xs,R x y
 |_,_,.nil,y,h=>by simp at h
 |_,_,.cons r t,y,h=>by
  rcases Qi.mp h with e|h
  ·subst e;exact⟨_,Ze ..,r⟩
  ·obtain⟨b,hb,hr⟩:=qb4 t y h;exact⟨b,Yl _ hb,hr⟩
theorem TaskAt.mono(t:TaskAt CT H o gv gp ws dx a1 a2 a3 ps)(g:qk H H'):TaskAt CT H' o gv gp ws dx a1 a2 a3 ps:=
 ⟨g _ _ t.ins,g _ _ t.said,g _ _ t.sides,zd (λ p y h=>yw.mono h g) t.side,g _ _ t.fault⟩
theorem qmt(h:On gv F)(s:∀ c∈gv,c∈L):On L F:=⟨h.vf,λ p hp c hc=>s c (h.mem p hp c hc)⟩
theorem zQ:FnScope [sA1,sA6,sA9,sA3,"_law_task","_law_way",sA0,"_law_filling","_law_due",sA2,"_law_more",sD5,sB4,"_law_handed","_law_found"] [sA1] (qj qei):=scF
theorem qnI(F:Fun K "law" "law" qei f fd)(T:Txt mg)(u8:mg "int"=none)(A7:Dp P w K mg base 2 S4 S7 [sA1] (qhf K) sC1)(C4:Dp P w K mg base 3 aK aM [sA1,sA0,sD4,sA8] (qdB K) sC4)(A6:Dp P w K mg base 21 S3 S6 [sA3] (qbR) sC3)(c6:Dp P w K mg base 1 n6 n8 [sA1,sA7] (y2 K) sB0)(G4:Dp P w K mg base 1 cS dB [sA9] (qfa) sD1)(t5:Dp P w K mg base 3 K3 K4 [sA1,sB9,sA0] (qfb K) sB7)(C5:Dp P w K mg base 22 aL aN [sA1,sA6,sA9,sA3] (qdF K) sC5)(r9:Dp P w K mg base 2 M5 M8 [sA0] (qcp) sC7)(G3:Dp P w K mg base 1 cR cZ [sB4,sA2] (qe9 K) sD0)(x5:Dp P w K mg base 1 M7 N0 [sC2,sB1] (qe8) sC9)(o4:Dp P w K mg base 21 A4 A5 [sA3,sA2] (qao K) sC0)(l8:TaskC K i7)(T6:Mk K i7 E9)(T8:FnOk P w K mg base CX0 35 E9 N1 ["self","givens","gaps","wishes"] (qkM K i7))(T4:qh K N1 ["self","givens","gaps","wishes"] [])(cA:mg "Task"=some (.ref i7))(w6:Meth K i7 "fills" o6)(w9:FnOk P w K mg base CX0 14 o6 r6 ["self","filling"] (qh7 K i7))(w5:qh K r6 ["self","filling"] []): FnOk P w K mg base CX0 37 f fd [sA1] (qh9 K):=by
 refine F.okd zQ (λ cdv A outer s H vs Q E hr h=>?_);obtain⟨a,ns,rfl,hS,oR,q⟩:=h;have B6:=jv hr;have rS:Room 14 _:=hr.mono (by decide);have rR:Room 36 _:=hr.mono (by decide);refine⟨_,(qc (qcy (zk A7 hr (qa (pv 0) qb)) (qcx (n:=2) rfl (qE (qr (i:=1) zQ.nd rfl (Or.inl rfl)) (qE (qr (i:=2) zQ.nd rfl (Or.inl rfl)) zC))))
  (qc (qt (i:=3) zQ.nd rfl (Or.inl rfl) (zk C4 hr (qa (pv 0) (qa (qp qU (pv 1) (pv 2)) (qa qf (qa qf qb))))))
  (qc (qt (i:=4) zQ.nd rfl (Or.inl rfl) (qaa T6 T8 rR (by rfl) cA T4 .nil qG (qa (pv 1) (qa (pv 2) (qa (zk A6 hr (qa (pv 3) qb)) qb)))))
  (qc (qt (i:=5) zQ.nd rfl (Or.inl rfl) (qp zc (zk c6 hr (qa (pv 0) (qa qf qb))) qf))
  (qc (qt (i:=6) zQ.nd rfl (Or.inr rfl) (pv 1))
  (qc (zb (qx zg (pv 5) qf (qy _))
   (qe (qt (i:=6) zQ.nd rfl (Or.inr rfl) (qp qU (pv 1) (zk G4 hr (qa (pv 2) qb))))) qF)
  (qc (qbj (i:=7) zQ.nd rfl rfl (csc (NY:=[sA7,sA1,sA0]) (o:=1) (caps:=[0,6]) [sA1,sA0] rfl
    (by intro x hx;rcases Qi.mp hx with e | hx;· rw[e];exact .inl rfl
        rw[Zn.mp hx];exact .inl rfl) (kq rfl rfl rfl (kq rfl rfl rfl y7)) rfl) rfl
    (zM (by rfl) T.range (qa (qz zG (by rfl) T.len J9 (qa (pv 2) qb)) qb)) (λ C0 s H fp pins=>qr (i:=0) (show([sA7,sA1,sA0]:List Str).Nodup by decide +kernel) rfl (Or.inl rfl)) (λ C0 s H fp pins=>zt) (λ C0 s H fp pins=>(zk t5 hr (qa (pv 1) (qa (qp zz qf (qp vQ qf (pv 0))) (qa (pv 2) qb))))))
  (qc (zb (qx jM (pv 5) qf (qy _))
   (qe (qt (i:=7) zQ.nd rfl (Or.inl rfl) (zk C5 hr (qa (pv 0) (qa (pv 1) (qa (pv 2) (qa (pv 3) qb))))))) qF)
  (qc (qt (i:=8) zQ.nd rfl (Or.inl rfl) qfi)
  (qc (yq Jk rfl (zU (zk r9 hr (qa (pv 6) qb))) (qr (i:=9) zQ.nd rfl (Or.inl rfl))
  (qc (qt (i:=10) zQ.nd rfl (Or.inl rfl) qfp)
  (qc (qaf (n:=2) Jk rfl (qlZ (by rfl) T.zip (qa (pv 2) (qa (pv 7) qb))) (qE (qr (i:=11) zQ.nd rfl (Or.inl rfl)) (qE (qr (i:=12) zQ.nd rfl (Or.inl rfl)) zC))
  (qe (qeu B6 (pv 10) (pv 11) (zk G3 hr (qa (pv 12) (qa (pv 9) qb))) rfl)))
  (qe (zb (qx jM (qz qA (by rfl) T.len J9 (qa (zk o4 hr (qa (pv 3) (qa (zk x5 hr (qa (pv 9) (qa (pv 10) qb))) qb))) qb)) qf (qy _))
   (qe (qt (i:=8) zQ.nd rfl (Or.inl rfl) qfi)) qF)))))
  (qc (qt (i:=13) zQ.nd rfl (Or.inl rfl) (zo qa2 (by rfl) T.list qhR (qa (pv 7) qb)))
  (qc (qt (i:=14) zQ.nd rfl (Or.inl rfl) (qlq (pv 4) l8.cls w6 w9 rS w5 .nil qG (qa (pv 13) qb)))
  (qe (qo (qcv (qz qjQ (by rfl) T.isinstance qi0 (qa (pv 14) (qa (qli (v:=.ty "bool") (by rfl) T.bool qms rfl) qb))) (qcv (zE zg (pv 14) (pv 8) (qy _)) (qcu (zE (qlN B6) (pv 13) (pv 7) (qy _))))))))))))))))))),?_⟩
 refine⟨_,rfl,a,ns,rfl,⟨hS,oR⟩,λ rl gv gp H1 g1 el P5 G7=>?_⟩;refine⟨rl,_,rfl,SqT.of el,rfl,_,_,rfl,_,_,rfl,rfl,?_⟩;obtain⟨lY,pU,l9⟩:=qbO P5 G7;have wM:gv.length<=3:=P5.length_le;have pV:gp.length<=3:=G7.length_le;have nZ:=qQ Qh lY;have ndv:gv.Nodup:=(Zy.mp nZ).1;have aD:gp.Nodup:=(Zy.mp nZ).2.1;have h8v:2^gv.length<=8:=Yu (n:=2) (by decide) wM;have h8p:2^gp.length<=8:=Yu (n:=2) (by decide) pV;refine⟨_,rfl,_,rfl,_,rfl,_,_,rfl,rfl,by rw[qD,qD];exact qB (by omega),?_⟩;rw[jO];refine⟨a,ns,gv++gp,3,6,rfl,⟨g1.seq hS,oR⟩,by omega,by decide,by decide,by decide,by decide,λ r ps xs H2 g2 e2 pr2 l2 K7=>?_⟩;have l3:xs.length<=3:=by omega
 have hof:∀ x∈xs,x.1.Of (gv++gp)/\x.2.Of (gv++gp):=λ x hx=>⟨(K7 x hx).1,(K7 x hx).2.1⟩
 refine⟨_,rfl,_,rfl,_,rfl,r,ps,xs,rfl,e2,pr2,by omega,λ x hx=>?_,λ rw H4 g4 e4=>?_⟩
 ·obtain⟨b1,b2,b3,b4⟩:=K7 x hx;exact⟨b1.upL l9,b2.upL l9,by omega,by omega⟩
 refine λ x dx hx N8 O4=>?_
 have e5:upd (upd H4 dx (.own x)) x (.ins i7 dx []) rw=some (.lst (xs.map λ x=>vS (qdC x))):=by
  rw[qv (λ q=>by rw[q,hx] at e4;cases e4),qv (λ q=>by rw[q,N8] at e4;cases e4)];exact e4
 refine⟨x,dx,rw,gv,gp,xs.map asW,rfl,qd,SqL.of (by rw[qhp];exact e5),P5,G7,by rw[U3];omega,λ y hy=>?_,λ a1 a2 a3 qs H5 b5 na1 na2 tk=>⟨rfl,?_⟩⟩
 ·obtain⟨z,hz,rfl⟩:=Q4.mp hy;obtain⟨b1,b2,b3,b4⟩:=K7 z hz;exact qnF b1 b2 (by omega) (by omega)
 have g5:=qi1 hx N8 b5;have bX:On (gv++gp) (zn ((xs.map asW).map Wsh.side)):=qk4 hof;have e25:=(g4.trans g5) _ _ e2;have gG:qk H H5:=g1.trans (g2.trans (g4.trans g5));have pr5:=zd (λ p x h=>jE.mono h (zw (g4.trans g5))) pr2;have fw:=λ ρ=>qgl ρ xs hof
 refine⟨_,rfl,a,ns,170,rfl,⟨gG.seq hS,oR⟩,by decide,by decide,λ z H6 g6 z0 z1=>?_⟩;refine⟨_,_,rfl,rfl,(show(0:Int)<4 by decide),_,rfl,_,rfl,rfl,_,rfl,?_⟩;refine qi7 (λ L H'=>qk H6 H'/\(L=gv∨L=gv++gp.map qbx)) ?R (λ c C=>?hA) (λ c C=>?hB) ?hC
 case hA =>
  refine⟨_,rfl,_,rfl,gp,rfl,G7,λ H7 g7=>?_⟩;refine⟨_,_,rfl,rfl,by rw[qD,qD,U3];exact qB (by omega),?_⟩;rw[jO];obtain⟨L,hL⟩:∃ L,L=gv++gp.map qbx:=⟨_,rfl⟩;rw[<- hL];exact C L H7 ⟨g7,.inr hL⟩
 case hB=>exact C gv H6 ⟨qk.refl _,.inl rfl⟩
 rintro L H7 ⟨g67,hL⟩;obtain⟨sL,l6,svL⟩:=qlf P5 G7 hL;have hLp:(L++gp).Pairwise (·<·):=(show apx.Pairwise (·<·) by decide).sublist sL;have eR:=qQ Qh hLp;have wU:L.Pairwise (·<·):=(Yq.mp hLp).1;have wK:=qQ Qh wU;have eJ:∀ c∈gv,c∈L:=λ c h=>svL.subset h
 have xA:(qi gp).length=gp.length:=qD gp;have P6:(qi gp).cps.size=gp.length:=qD gp;have g57:=g6.trans g67;have g17:=gG.trans g57;have bS:2^L.length<=64:=Qy (Yu (by decide) l6) (by decide);refine⟨_,rfl,_,rfl,by rw[xA];exact qB (by omega),_,rfl,by rw[xA];omega,by rw[xA];omega,?_⟩;rw[xA];refine ye ((gp.length:Int)).toNat (λ i ys H'=>∃(fs:List Addr)(Fs:List (List Pr)),ys=fs.map V.ref/\Fs.length=i/\Paired (λ c (F:List Pr)=>On L F/\H' c=some (.tup (F.map vS))) fs Fs) (λ D hD=>⟨[],[],rfl,rfl,.nil⟩) (λ j ys H' hj ⟨fs,Fs,e,hl,pf⟩=>by rw[e,U3,pf.length,hl];exact zi (by omega)) ?_ (λ H' sm=>Vd _) ?_
 ·rintro j ys H' D' Y Z hj tK P3 sm ⟨fs,Fs,rfl,hl,pf⟩ hY hZ;refine⟨hj,?_⟩;rintro x' nU ⟨rfl,rfl⟩;have hj':j<gp.length:=by omega
  have up:∀{HX:Hp}{z:Addr}{kv l l':List V},HX D'=some (.lst l)->HX z=some (.tup kv)->upd HX D' (.lst l') z=some (.tup kv):=λ{HX z kv l l'} hX h=>by
   have:z≠D':=λ q=>by rw[q,hX] at h;cases h
   rw[qv this];exact h
  refine⟨⟨rfl,rfl⟩,?_⟩;refine⟨_,rfl,_,rfl,_,_,rfl,rfl,.inl ⟨by decide,by decide⟩,_,_,rfl,rfl,_,rfl,a,ns,_,L,rfl,⟨(g17.trans sm).seq hS,oR⟩,?_,?_,wU,l6,λ c F HC gC oF eC=>?_⟩
  ·show(0:Int)<=200+70*(0+(j:Int));omega
  ·show 200+70*(0+(j:Int))<=5000;omega
  have mX:=gC _ _ P3;refine hY _ _ mX (sm.trans gC) ⟨fs++[c],Fs++[F],by rw[Ja];rfl,by rw[Zh,XW,hl],?_⟩;exact q8 (L2.Paired.mapP pf λ z F h=>⟨h.1,up mX (gC _ _ h.2)⟩) (.cons ⟨oF,up mX eC⟩ .nil)
 rintro D' HA ys tK iA oP ⟨fs0,Fs0,rfl,xB,pf0⟩;rw[Zv] at xB;refine⟨_,rfl,_,_,rfl,rfl,_,rfl,?_⟩;refine qen (λ p H'=>qk H7 H'/\∃(fs:List Addr)(Fs:List (List Pr)),H' p=some (.lst (fs.map V.ref))/\Fs.length=gp.length/\Paired (λ c (F:List Pr)=>On L F/\H' c=some (.tup (F.map vS))) fs Fs) ?R2 (λ c C=>?hA2) (λ c C=>?hB2) ?hC2
 case hA2 =>
  have g5A:=g57.trans iA;refine⟨_,rfl,_,rfl,_,rfl,_,rfl,a,ns,gv,gp,r,ps,xs,rfl,⟨(g17.trans iA).seq hS,oR⟩,P5,G7,g5A _ _ e25,zd (λ p x h=>jE.mono h (zw g5A)) pr5,by omega,λ x hx=>?_,λ p' fs Fs HB gB eB hl pf=>?_⟩
  ·obtain⟨b1,b2,b3,b4⟩:=K7 x hx;have h1:=x.1.ht_wt;have h2:=x.2.ht_wt;exact⟨b1,b2,by omega,by omega⟩
  ·exact C p' HB ⟨iA.trans gB,fs,Fs,eB,hl,L2.Paired.mapP pf λ z F h=>⟨qmt h.1 eJ,h.2⟩⟩
 case hB2=>exact C D' HA ⟨iA,fs0,Fs0,oP,xB,pf0⟩
 rintro p H8 ⟨g78,fs,Fs,e8,sI,pf8⟩;have g58:=g57.trans g78;have g18:=gG.trans g58;have lfs:fs.length=gp.length:=by rw[pf8.length,sI]
 have oF:∀ F∈Fs,On L F:=λ F hF=>by
  obtain⟨c,_,h⟩:=qb4 pf8 F hF;exact h.1
 refine⟨_,rfl,L,rfl,wK,l6,λ rr ds H9 g9 e9 pd=>?_⟩;have pX:ds.length=2^L.length:=by rw[pd.length,Z4]
 have xK:=g58.trans g9;have e29:=xK _ _ e25;have pr9:=zd (λ p x h=>jE.mono h (zw xK)) pr5;have pf9:Paired (λ c (F:List Pr)=>H9 c=some (.tup (F.map vS))) fs Fs:=L2.Paired.mapP pf8 λ z F h=>g9 _ _ h.2
 have xO:=g9 _ _ e8;refine⟨rr,rfl,⟨_,SqL.of e9⟩,?_⟩;refine qcz (K:=K) (xs:=ds.map V.ref) (λ i σ H'=>∃(v9 dY pB pA:Option V),σ=[some (.ref a),some (vS gv),some (vS gp),some (.ref r),some (.ref x),some (.int (z % 4)),some (vS L),some (.ref p),some (.bl ((List.range i).all λ N=>!qu (qfc L gp Fs N) (zn ((xs.map asW).map Wsh.side)))),v9,dY,pB,pA,none,none]/\qk H9 H') ⟨none,none,none,none,rfl,qk.refl _⟩ (λ i σ H' hi ⟨_,_,_,_,_,g⟩=>SqL.of (g _ _ e9)) ?_ ?_
 ·rintro i y σ HB hy ⟨v9,dY,pB,pA,rfl,gB⟩;obtain⟨d,hd,rfl⟩:=ql hy;obtain⟨N,hN,ed⟩:=zf pd i d hd;obtain⟨rfl,hNl⟩:=qgm hN;have edB:=gB _ _ ed;have lL:L.length=(qM L.length N).length:=(ya _ _).symm;have lw:gp.length=(qdH L Fs N).length:=by unfold qdH;rw[U3,sI]
  have lb:(L++gp).length=(qM L.length N++qdH L Fs N).length:=by rw[Zh,Zh,<- lL,<- lw]
  refine λ m hm=>?_
  have gm:=qk.up hm (o:=.dK []);refine⟨_,rfl,_,rfl,qi gp,p,rfl,?_,⟨_,SqL.of (gm _ _ (gB _ _ xO))⟩,?_⟩
  ·rw[Array.all_eq_true'];intro c hc;exact Qa (qh8 c (G7.subset (by simpa [qi] using hc)))
  refine qke (K:=K) (ys:=fs.map V.ref) (λ k σ H'=>∃(pB pA:Option V),σ=[some (.ref a),some (vS gv),some (vS gp),some (.ref r),some (.ref x),some (.int (z % 4)),some (vS L),some (.ref p),some (.bl ((List.range N).all λ N=>!qu (qfc L gp Fs N) (zn ((xs.map asW).map Wsh.side)))),some (.ref d),some (.ref m),pB,pA,none,none]/\qk HB H'/\H' m=some (.dK (yg (gp.take k) ((qdH L Fs N).take k)))) ⟨_,_,rfl,gm,qd⟩ (by rw[P6,U3,lfs]) (λ k σ H' hk ⟨_,_,_,g,_⟩=>SqL.of (g _ _ (gB _ _ xO))) ?_ ?_
  ·rintro k y σ HC hk hy ⟨v11',v12',rfl,gC,eC⟩;obtain⟨c,hc,rfl⟩:=ql hy;obtain⟨F,hF,ec⟩:=zf pf9 k c hc;have oFk:=oF F (Yn hF);rw[P6] at hk;rw[jp hk];refine⟨_,_,rfl,_,_,rfl,rfl,?_⟩;refine⟨_,rfl,_,rfl,c,d,F,_,asg L (qM L.length N),rfl,SqT.of (gC _ _ (gB _ _ ec)),gC _ _ edB,λ q hq e he=>by rw[y3 lL,V4 (oFk.mem q hq e he)],λ q hq=>?_,λ HD gD=>?_⟩
   ·have:=(oFk.sub wU q hq).length_le;omega
   have hb:(qdH L Fs N)[k]?=some (qu (asg L (qM L.length N)) F):=by unfold qdH;rw[Zt,hF];rfl
   have aD:=(Zy.mp eR).2.1;have ns_:gp[k]∉gp.take k:=qb2 aD hk;have lr:(gp.take k).length=((qdH L Fs N).take k).length:=by rw[Ul,Ul,lw]
   have vn:zP (yg (gp.take k) ((qdH L Fs N).take k)) (.inr (qi [gp[k]]))=none:=by rw[y3 lr,V5 ns_]
   have lk:(yg (gp.take k) ((qdH L Fs N).take k)).length<sizeLine:=by unfold yg;rw[U3,Jj,Ul,Ul];exact zi (by omega)
   refine⟨_,rfl,_,rfl,m,_,rfl,.inl ⟨_,.inr (qi [gp[k]]),gD _ _ eC,rfl,lk,rfl⟩,?_⟩;refine⟨_,_,rfl,(gC.trans gD).at hm,?_⟩;rw[qd,qcC _ vn,qgj (Xy hk) hb]
  ·rintro σ HC ⟨v11',v12',rfl,gC,eC⟩;rw[U3,lfs,Ut,lw,Ut] at eC;have g9C:=gB.trans gC;refine⟨_,rfl,_,rfl,_,rfl,d,m,_,_,rfl,gC _ _ edB,eC,by rw[qbv lL,qbv lw];omega,λ d3 HD gD fD eD=>?_⟩;rw[qdE eR lL lw] at eD;have xJ:=g9C.trans gD;refine⟨r,d3,ps,xs,_,qfc L gp Fs N,gv++gp,rfl,xJ _ _ e29,zd (λ p x h=>jE.mono h (zw xJ)) pr9,by omega,λ x hx=>?_,eD,λ c hc=>?_,λ r' is HE gE eE O9=>?_⟩
   ·obtain⟨b1,b2,b3,b4⟩:=K7 x hx;have h1:=x.1.ht_wt;have h2:=x.2.ht_wt;exact⟨b1,b2,by omega,by omega⟩
   ·have C3:c∈L++gp:=(U1.mp hc).elim (λ h=>U1.mpr (.inl (eJ c h))) (λ h=>U1.mpr (.inr h));rw[y3 lb,V4 C3];rfl
   rw[<- fw] at O9;have al:((List.range (N+1)).all λ N=>!qu (qfc L gp Fs N) (zn ((xs.map asW).map Wsh.side)))=(((List.range N).all λ N=>!qu (qfc L gp Fs N) (zn ((xs.map asW).map Wsh.side))) && !qu (qfc L gp Fs N) (zn ((xs.map asW).map Wsh.side))):=by
    rw[Je,List.all_append];simp
   refine⟨r',_,rfl,.inl (SqL.of eE),_,_,rfl,rfl,_,rfl,?_⟩;have er:decide ((0:Int)<(((is.map V.int).length:Nat):Int))=qu (qfc L gp Fs N) (zn ((xs.map asW).map Wsh.side)):=by
    rw[<- O9,U3];refine decide_eq_decide.mpr ?_;omega
   refine vV (λ c=>?_) (λ c=>?_)
   ·have c:=er.symm.trans c;exact⟨_,_,_,_,by rw[al,c,Qn,Jy];rfl,(xJ.trans gE)⟩
   ·have c:=er.symm.trans (Z3.mpr c);exact⟨_,_,_,_,by rw[al,c,Jz,Bool.and_true],(xJ.trans gE)⟩
 rintro σ HB ⟨v9,dY,pB,pA,rfl,gB⟩;rw[U3,pX];have g5B:=xK.trans gB;refine⟨_,rfl,p,_,rfl,.inl (SqL.of (gB _ _ xO)),λ l hl=>?_⟩;have gl:=gB.to hl (o:=.lst (fs.map V.ref));have tkl:=tk.mono (xK.trans gl);have pfl:Paired (λ c (F:List Pr)=>upd HB l (.lst (fs.map V.ref)) c=some (.tup (F.map vS))) fs Fs:=L2.Paired.mapP pf9 λ z F h=>gl _ _ h
 have aD:=(Zy.mp eR).2.1;refine⟨_,rfl,x,dx,_,rfl,tkl.ins,rfl,_,rfl,x,gv,gp,_,dx,a1,a2,a3,qs,l,fs,gOf gp Fs,rfl,tkl,SqL.of qd,lfs.symm,G7,λ j c r hj hr=>?_,λ c hc=>qdG hc,qle bX lY pU,λ c _=>qmq sI aD oF wU l6 c,qmr sI aD oF l6 eJ bX,λ HC gC=>?_⟩
 ·obtain⟨F,hF,e⟩:=zf pfl j r hr;rw[qht aD hj hF];exact SqT.of e
 rw[qi6 sI eR oF eJ bX];refine⟨_,rfl,_,_,rfl,TyOf.bl _,true,rfl,j4 ?_⟩;refine⟨_,rfl,_,rfl,rfl,?_⟩;refine⟨_,rfl,?_⟩;rw[Qa rfl];refine j4 ?_;have eP:=gC _ _ (gl _ _ xO);have pfC:Paired (λ c (F:List (List Nat))=>SqT K HC c (F.map vS)) fs Fs:=L2.Paired.mapP pfl λ z F h=>SqT.of (gC _ _ h)
 refine⟨_,rfl,_,rfl,l,p,fs,fs,Fs,Fs,rfl,rfl,SqL.of (gC _ _ qd),SqL.of eP,pfC,pfC,rfl,?_⟩;rw[Qa rfl];exact q HC
end
def NI(K:W.Frag)(n:Str)(a:Addr):Prop:=W.nsIn K mainGlobals n=some (some (.ref a))
theorem all_mk{l:W.OpenLaw} {i7:Addr}(X:K.In h)(G:h.Ns mainGlobals mg)(hfa:mg "law"=some (.ref fa)){tka aB aA aC bT lH K0 L7 :Tok}{na :Nat}{oda:Option Addr}{sla:Array (Option Value)}{d1 d2 d3 d4 d5 d6 d7 d8 d9 d10 d11 d12 d13 d14 d15 d16 d17 d18 d19 d20 d21 d22 d23 d24 d25 d26 d27 d28 d29 d30 d31 d32 d33 d34 d35 d36 d37 d38 d39 d40 d41 nO nK nL nJ nN nI nM xS xQ xR xP oV dfA xW xX xV xZ xU xY dF uJ nP N1 r6:FuncData}(a1:NI K "added" f1)(a2:NI K "multiplied" f2)(a3:NI K "joined" f3)(a4:NI K "opposite" f4)(a5:NI K "letters_of" f5)(a6:NI K "row_count" f6)(a7:NI K "table_of" f7)(a8:NI K "form_of" f8)(a9:NI K "products_over" f9)(a10:NI K "summed" f10)(a11:NI K "put_in" f11)(a12:NI K "numbers_by" f12)(a13:NI K "letters_in_all" f13)(a14:NI K "read" f14)(a15:NI K "signs_behind" f15)(a16:NI K "taken" f16)(a17:NI K "with_nots" f17)(a18:NI K "pair_of" f18)(a19:NI K "single_of" f19)(a20:NI K "is_row" f20)(a21:NI K "wish_read" f21)(a22:NI K "refuse_strange" f22)(a23:NI K "fault_of" f23)(a24:NI K sB0 f24)(a25:NI K sD2 f25)(a26:NI K sD3 f26)(a27:NI K sB6 f27)(a28:NI K sB2 f28)(a29:NI K sC6 f29)(a30:NI K sC7 f30)(a31:NI K sC8 f31)(a32:NI K sD0 f32)(a33:NI K sC1 f33)(a34:NI K sC4 f34)(a35:NI K sC3 f35)(a36:NI K sC0 f36)(a37:NI K sC9 f37)(a38:NI K sB7 f38)(a39:NI K sD1 f39)(a40:NI K sC5 f40)(a41:NI K "law" f41)(eW:NI K "Always" u6)(lO:NI K "Never" A8)(eU:NI K "Letter" u4)(nNot:NI K "Not" T9)(nAnd:NI K "And" V6)(nOr:NI K "Or" nV)(eV:NI K "Either" u5)(pO:NI K "Task" i7)(aal:NI K "ALWAYS" al)(lal:K.lookup al=some ⟨.type "tuple",oda,.seq #[.str "" tka] na,sla⟩)(S9:W.nsIn K mainGlobals "LETTERS"=some (some (.str "abcpqrxyz" aB)))(S8:W.nsIn K mainGlobals "OPENING"=some (some (.str "~(" aA)))(T0:W.nsIn K mainGlobals "BETWEEN"=some (some (.str "&|+" aC)))(aO:W.nsIn K mainGlobals "GIVENS"=some (some (.str "abc" bT)))(gM:W.nsIn K mainGlobals "GAPS"=some (some (.str "xyz" lH)))(G2:W.nsIn K mainGlobals "MOST_WISHES"=some (some (.int 6 K0)))(K6:W.nsIn K mainGlobals "MOST_PARTS"=some (some (.int 20 L7)))(z1:W.nsIn K mainGlobals "len"=some none)(z2:W.nsIn K mainGlobals "list"=some none)(z3:W.nsIn K mainGlobals "sorted"=some none)(z4:W.nsIn K mainGlobals "set"=some none)(z5:W.nsIn K mainGlobals "tuple"=some none)(z6:W.nsIn K mainGlobals "dict"=some none)(z7:W.nsIn K mainGlobals "zip"=some none)(z8:W.nsIn K mainGlobals "reversed"=some none)(z9:W.nsIn K mainGlobals "range"=some none)(z10:W.nsIn K mainGlobals "enumerate"=some none)(z11:W.nsIn K mainGlobals "all"=some none)(z12:W.nsIn K mainGlobals "min"=some none)(z13:W.nsIn K mainGlobals "max"=some none)(z14:W.nsIn K mainGlobals "isinstance"=some none)(z15:W.nsIn K mainGlobals "str"=some none)(z16:W.nsIn K mainGlobals "bool"=some none)(z17:W.nsIn K mainGlobals "int"=some none)(A2:W.findIn K (.ref i7) "text"=some none)(C:CTxt K ⟨u6,A8,u4,T9,V6,nV,u5⟩ F0 cW S5)(Mt:MTxt K ⟨u6,A8,u4,T9,V6,nV,u5⟩ "text" iX iT iU iS iW iR iV)(Ms:MTxt K ⟨u6,A8,u4,T9,V6,nV,u5⟩ "size" tT tR tS tQ cU cU cU)(Mf:FTxt K ⟨u6,A8,u4,T9,V6,nV,u5⟩ uB tX tY tW uA tU tZ)(T6:Mk K i7 E9)(l8:TaskC K i7)(w6:Meth K i7 "fills" o6)(F1:Fun K "added" "added" qeV f1 d1)(F2:Fun K "multiplied" "multiplied" vo f2 d2)(F3:Fun K "joined" "joined" qdn f3 d3)(F4:Fun K "opposite" "opposite" qaJ f4 d4)(F5:Fun K "letters_of" "letters_of" vp f5 d5)(F6:Fun K "row_count" "row_count" kS f6 d6)(F7:Fun K "table_of" "table_of" qaK f7 d7)(F8:Fun K "form_of" "form_of" qbJ f8 d8)(F9:Fun K "products_over" "products_over" y8 f9 d9)(F10:Fun K "summed" "summed" qbq f10 d10)(F11:Fun K "put_in" "put_in" qdo f11 d11)(F12:Fun K "numbers_by" "numbers_by" vq f12 d12)(F13:Fun K "letters_in_all" "letters_in_all" yE f13 d13)(F14:Fun K "read" "read" qgU f14 d14)(F15:Fun K "signs_behind" "signs_behind" jo f15 d15)(F16:Fun K "taken" "taken" qeW f16 d16)(F17:Fun K "with_nots" "with_nots" kW f17 d17)(F18:Fun K "pair_of" "pair_of" qbK f18 d18)(F19:Fun K "single_of" "single_of" kX f19 d19)(F20:Fun K "is_row" "is_row" qdp f20 d20)(F21:Fun K "wish_read" "wish_read" k4 f21 d21)(F22:Fun K "refuse_strange" "refuse_strange" yF f22 d22)(F23:Fun K "fault_of" "fault_of" qaM f23 d23)(F24:Fun K sB0 sB0 k5 f24 d24)(F25:Fun K sD2 sD2 qaN f25 d25)(F26:Fun K sD3 sD3 qaO f26 d26)(F27:Fun K sB6 sB6 vC f27 d27)(F28:Fun K sB2 sB2 jD f28 d28)(F29:Fun K sC6 sC6 qbL f29 d29)(F30:Fun K sC7 sC7 qaP f30 d30)(F31:Fun K sC8 sC8 qaQ f31 d31)(F32:Fun K sD0 sD0 k6 f32 d32)(F33:Fun K sC1 sC1 jH f33 d33)(F34:Fun K sC4 sC4 vD f34 d34)(F35:Fun K sC3 sC3 jI f35 d35)(F36:Fun K sC0 sC0 jJ f36 d36)(F37:Fun K sC9 sC9 qaR f37 d37)(F38:Fun K sB7 sB7 yG f38 d38)(F39:Fun K sD1 sD1 k7 f39 d39)(F40:Fun K sC5 sC5 vE f40 d40)(F41:Fun K "law" "law" qei f41 d41)(FtA:Fun K "text" "Always.text" yL iX nO)(FtN:Fun K "text" "Never.text" je iT nK)(FtL:Fun K "text" "Letter.text" yO iU nL)(FtO:Fun K "text" "Not.text" vt iS nJ)(FtD:Fun K "text" "And.text" vy iW nN)(FtR:Fun K "text" "Or.text" qah iR nI)(FtE:Fun K "text" "Either.text" yR iV nM)(FsA:Fun K "size" "Always.size" yM tT xS)(FsN:Fun K "size" "Never.size" jf tR xQ)(FsL:Fun K "size" "Letter.size" yP tS xR)(FsO:Fun K "size" "Not.size" vv tQ xP)(FsP:Fun K "size" "Pair.size" jC cU oV)(FfA:Fun K "form" "Always.form" yN uB dfA)(FfN:Fun K "form" "Never.form" jg tX xW)(FfL:Fun K "form" "Letter.form" yQ tY xX)(FfO:Fun K "form" "Not.form" vw tW xV)(FfD:Fun K "form" "And.form" vA uA xZ)(FfR:Fun K "form" "Or.form" qai tU xU)(FfE:Fun K "form" "Either.form" yS tZ xY)(FiLetter:Fun K "__init__" "Letter.__init__" jG F0 dF)(FiNot:Fun K "__init__" "Not.__init__" qaL cW uJ)(FiPair:Fun K "__init__" "Pair.__init__" kU S5 nP)(FiTask:Fun K "__init__" "Task.__init__" kZ E9 N1)(FTask_fills:Fun K "fills" "Task.fills" vB o6 r6): ∃ fd:FuncData,(∀(s:Shared)(v:Value),BindsTo s fd ⟨[v],[]⟩ [(sA1,v)])/\∀ base:Heap,K.In base->base.Ns mainGlobals mg->FnOk l.prog w K mg base CX0 37 fa fd [sA1] (qh9 K):=by
 have e:=hfa.symm.trans (V0 X G a41);cases e
 have T:Txt mg:=⟨Q9 X G z1,Q9 X G z2,Q9 X G z3,Q9 X G z4,Q9 X G z5,Q9 X G z6,Q9 X G z7,Q9 X G z8,Q9 X G z9,Q9 X G z10,Q9 X G z11,Q9 X G z12,Q9 X G z13,Q9 X G z14,Q9 X G z15,Q9 X G z16⟩;have u8:=Q9 X G z17;have b1:=F1.binds (ps:=["one","other"]);have b2:=F2.binds (ps:=["one","other"]);have b3:=F3.binds (ps:=["one","other"]);have b4:=F4.binds (ps:=["form"]);have b5:=F5.binds (ps:=["form"]);have b6:=F6.binds (ps:=["letters"]);have b7:=F7.binds (ps:=["form","letters"]);have b8:=F8.binds (ps:=["letters","table"]);have b9:=F9.binds (ps:=["letters"]);have b10:=F10.binds (ps:=["truths"]);have b11:=F11.binds (ps:=["form","forms"]);have b12:=F12.binds (ps:=["forms","letters"]);have b13:=F13.binds (ps:=["forms"]);have b14:=F14.binds (ps:=["text"]);have b15:=F15.binds (ps:=["opened","ended"]);have b16:=F16.binds (ps:=["opened","ended","sign"]);have b17:=F17.binds (ps:=["opened","saying"]);have b18:=F18.binds (ps:=["sign","one","other"]);have b19:=F19.binds (ps:=["sign"]);have b20:=F20.binds (ps:=["text","letters"]);have b21:=F21.binds (ps:=["wish","letters"]);have b22:=F22.binds (ps:=["text","letters"]);have b23:=F23.binds (ps:=["sides"]);have oX:=F24.binds (ps:=[sA1,sA7]);have b25:=F25.binds (ps:=[sB5,sA0]);have b26:=F26.binds (ps:=[sA1,sB9,sA8,sA0]);have b27:=F27.binds (ps:=[sA4]);have b28:=F28.binds (ps:=[sA4,sA2]);have b29:=F29.binds (ps:=[sA0,sA5]);have b30:=F30.binds (ps:=[sA0]);have b31:=F31.binds (ps:=[sA0,sB3]);have b32:=F32.binds (ps:=[sB4,sA2]);have b33:=F33.binds (ps:=[sA1]);have b34:=F34.binds (ps:=[sA1,sA0,sD4,sA8]);have b35:=F35.binds (ps:=[sA3]);have b36:=F36.binds (ps:=[sA3,sA2]);have b37:=F37.binds (ps:=[sC2,sB1]);have b38:=F38.binds (ps:=[sA1,sB9,sA0]);have b39:=F39.binds (ps:=[sA9]);have b40:=F40.binds (ps:=[sA1,sA6,sA9,sA3]);have gW:=FtA.binds (ps:=["self"]);have gS:=FtN.binds (ps:=["self"]);have gT:=FtL.binds (ps:=["self"]);have gQ:=FtO.binds (ps:=["self"]);have gV:=FtD.binds (ps:=["self"]);have gP:=FtR.binds (ps:=["self"]);have gU:=FtE.binds (ps:=["self"]);have uP:=FsA.binds (ps:=["self"]);have uN:=FsN.binds (ps:=["self"]);have uO:=FsL.binds (ps:=["self"]);have uM:=FsO.binds (ps:=["self"]);have oW:=FsP.binds (ps:=["self"]);have uX:=FfA.binds (ps:=["self"]);have uT:=FfN.binds (ps:=["self"]);have uU:=FfL.binds (ps:=["self"]);have uS:=FfO.binds (ps:=["self"]);have uW:=FfD.binds (ps:=["self"]);have uR:=FfR.binds (ps:=["self"]);have uV:=FfE.binds (ps:=["self"]);have dG:=FiLetter.binds (ps:=["self","letter"]);have uQ:=FiNot.binds (ps:=["self","one"]);have nR:=FiPair.binds (ps:=["self","one","other"]);have T4:=FiTask.binds (ps:=["self","givens","gaps","wishes"]);have w5:=FTask_fills.binds (ps:=["self","filling"]);have m1:=V0 X G a1;have m2:=V0 X G a2;have m3:=V0 X G a3;have m4:=V0 X G a4;have m5:=V0 X G a5;have m6:=V0 X G a6;have m7:=V0 X G a7;have m8:=V0 X G a8;have m9:=V0 X G a9;have m10:=V0 X G a10;have m11:=V0 X G a11;have m12:=V0 X G a12;have m13:=V0 X G a13;have m14:=V0 X G a14;have m15:=V0 X G a15;have m16:=V0 X G a16;have m17:=V0 X G a17;have m18:=V0 X G a18;have m19:=V0 X G a19;have m20:=V0 X G a20;have m21:=V0 X G a21;have m22:=V0 X G a22;have m23:=V0 X G a23;have oA:=V0 X G a24;have m25:=V0 X G a25;have m26:=V0 X G a26;have m27:=V0 X G a27;have m28:=V0 X G a28
 have m29:=V0 X G a29;have m30:=V0 X G a30;have m31:=V0 X G a31;have m32:=V0 X G a32;have m33:=V0 X G a33;have m34:=V0 X G a34;have m35:=V0 X G a35;have m36:=V0 X G a36;have m37:=V0 X G a37;have m38:=V0 X G a38;have m39:=V0 X G a39;have m40:=V0 X G a40;have m41:=V0 X G a41;have cE:=V0 X G eW;have eX:=V0 X G lO;have cC:=V0 X G eU;have pR:=V0 X G nNot;have pS:=V0 X G nAnd;have mCOr:=V0 X G nOr;have cD:=V0 X G eV;have lW:=V0 X G pO;let ca:CA:=⟨u6,A8,u4,T9,V6,nV,u5⟩
 have nc:NotC ca i7:=⟨(λ e=>by have h:=Mt.always.1;rw[<- show i7=u6 from e] at h;rw[A2] at h;cases h),(λ e=>by have h:=Mt.never.1;rw[<- show i7=A8 from e] at h;rw[A2] at h;cases h),(λ e=>by have h:=Mt.letter.1;rw[<- show i7=u4 from e] at h;rw[A2] at h;cases h),(λ e=>by have h:=Mt.not.1;rw[<- show i7=T9 from e] at h;rw[A2] at h;cases h),(λ e=>by have h:=Mt.and.1;rw[<- show i7=V6 from e] at h;rw[A2] at h;cases h),(λ e=>by have h:=Mt.or.1;rw[<- show i7=nV from e] at h;rw[A2] at h;cases h),(λ e=>by have h:=Mt.either.1;rw[<- show i7=u5 from e] at h;rw[A2] at h;cases h)⟩;obtain⟨oc,od,kV,doc,pm,an,cdv,ct,osl,rfl,lk,R9⟩:=F41.ex;refine⟨W.fnOf "law" "law" (qa3 qei) (j3 qei) (qj qei) .none kV doc pm an cdv ct,λ s v=>.of_eq rfl,λ base _ _=>?_⟩;have K9:=V0 X G S9;have K8:=V0 X G S8;have L0:=V0 X G T0;have bZ:=V0 X G aO;have lR:=V0 X G gM;have K1:=V0 X G G2;have L9:=V0 X G K6;have mal:=V0 X G aal;have hal:∀ H,SqT K H al (([[]]:List Pr).map vS):=λ H=>.inr ⟨_,_,_,lal,rfl,rfl,qB (by show 1<=_;decide),.cons ⟨tka,by rw[show("":Str)=qi [] by decide +kernel]⟩ .nil⟩
 have Gp:FnOk l.prog w K mg base CX0 1 f9 _ ["letters"] qcj:=qkf F9 T;have W8:=qej (P:=l.prog) (w:=w) (base:=base) F10 T b10 m10 10;have Gle:FnOk l.prog w K mg base CX0 1 f5 _ ["form"] (jS K):=qgW F5 T;have Gt:=qkh F7 T ⟨Gp,b9,F9.kp,m9⟩ ⟨W8,b10,F10.kp,m10⟩;have Gfo:=ql0 F8 T ⟨Gp,b9,F9.kp,m9⟩ ⟨W8,b10,F10.kp,m10⟩;have GA:FnOk l.prog w K mg base CX0 1 f1 _ ["one","other"] (qgY K added):=qkk F1 T;have GM:=ql1 F2 T ⟨Gle,b5,F5.kp,m5⟩ ⟨Gt,b7,F7.kp,m7⟩ ⟨Gfo,b8,F8.kp,m8⟩;have GJ:=qiP F3 ⟨GA,b1,F1.kp,m1⟩ ⟨GM,b2,F2.kp,m2⟩;have GOp:=qnt F4 mal hal ⟨GA,b1,F1.kp,m1⟩;have NN:FFn l.prog w K mg base f1 f2 f3 f4 _ _ _ _:=⟨GA,b1,F1.kp,m1,GM,b2,F2.kp,m2,GJ,b3,F3.kp,m3,GOp,b4,F4.kp,m4⟩;have GiL:FnOk l.prog w K mg base CX0 1 F0 _ ["self","letter"] (qal K "letter"):=qks FiLetter;have GiN:FnOk l.prog w K mg base CX0 1 cW _ ["self","one"] (qal K "one"):=qkt FiNot;have GiP:FnOk l.prog w K mg base CX0 1 S5 _ ["self","one","other"] (qeZ K "one" "other"):=qku FiPair;have Gsn:=qoA F19 C cE eX cC GiL dG;have Gpr:=qoB F18 C pS mCOr cD GiP nR;have Gwn:=qoD F17 T C pR GiN uQ;have Gsb:=qoF (P:=l.prog) (w:=w) (mg:=mg) (base:=base) (c:=ca) F15 T K9 K8 L0;have Gtk:=qoH F16 K8 L0 ⟨Gwn,b17,F17.kp,m17⟩ ⟨Gpr,b18,F18.kp,m18⟩ ⟨Gsn,b19,F19.kp,m19⟩;have Grd:=qoJ F14 T ⟨Gsb,b15,F15.kp,m15⟩ ⟨Gtk,b16,F16.kp,m16⟩;have Vt:=qgb (P:=l.prog) (w:=w) (mg:=mg) (base:=base) C Mt gW gS gT gQ gV gP gU FtA FtN FtL FtO FtD FtR FtE 21;have Vs:=qgc (P:=l.prog) (w:=w) (mg:=mg) (base:=base) C Ms uP uN uO uM oW FsA FsN FsL FsO FsP 21;have GF:=qkG (P:=l.prog) (w:=w) (mg:=mg) (base:=base) C Mf NN uX uT uU uS uW uR uV FfA FfN FfL FfO FfD FfR FfE 21;have Gir:=qkO (P:=l.prog) (w:=w) (mg:=mg) (base:=base) F20 T;have Gref:=qnD (P:=l.prog) (w:=w) (mg:=mg) (base:=base) F22 K9;have Gwr:=qoL F21 C L9 Mt Vt Ms Vs gW gS gT gQ gV gP gU uP uN uO uM oW ⟨Grd,b14,F14.kp,m14⟩ ⟨Gref,b22,F22.kp,m22⟩;have Gfa:=qoN F23 ⟨GA,b1,F1.kp,m1⟩ ⟨GJ,b3,F3.kp,m3⟩;have cA:=lW;have T8:=qmd FiTask T C l8.cls nc l8.n1 l8.n2 l8.n3 l8.n4 l8.n5 bZ lR K1 Mt Vt Mf GF gW gS gT gQ gV gP gU uX uT uU uS uW uR uV ⟨Gir,b20,F20.kp,m20⟩ ⟨Gwr,b21,F21.kp,m21⟩ ⟨Gfa,b23,F23.kp,m23⟩;have dI:=Gp;have C6:=Gle;have L6:=Gt;have dJ:=Gfo;have aA1:=GA;have lA:=GM;have aA0:=GJ;have oY:=GOp;have D5:FnOk l.prog w K mg base CX0 2 f13 _ ["forms"] (qkw K):=qnw F13 T ⟨C6,b5,F5.kp,m5⟩;have T7:FnOk l.prog w K mg base CX0 1 f6 _ ["letters"] (qe0):=qkv F6 T;have P4:FnOk l.prog w K mg base CX0 12 f12 _ ["forms","letters"] (qg0 K):=ql3 F12 T ⟨T7,b6,F6.kp,m6⟩ ⟨L6,b7,F7.kp,m7⟩;have N4:FnOk l.prog w K mg base CX0 13 f11 _ ["form","forms"] (qkx K):=qnx F11 T ⟨C6,b5,F5.kp,m5⟩ ⟨D5,b13,F13.kp,m13⟩ ⟨L6,b7,F7.kp,m7⟩ ⟨P4,b12,F12.kp,m12⟩ ⟨dJ,b8,F8.kp,m8⟩;have w9:=qk7 FTask_fills T ⟨N4,b11,F11.kp,m11⟩ l8;have c6:FnOk l.prog w K mg base CX0 1 f24 _ [sA1,sA7] (y2 K):=qkP F24 T;have hW:FnOk l.prog w K mg base CX0 1 f25 _ [sB5,sA0] (qe7):=qmg F25 T;have D8:FnOk l.prog w K mg base CX0 2 f26 _ [sA1,sB9,sA8,sA0] (qhi K):=qmh F26 T ⟨c6,oX,F24.kp,oA⟩ ⟨hW,b25,F25.kp,m25⟩;have hJ:=qgh (P:=l.prog) (w:=w) (base:=base) F27 T u8 b27 m27 20;have dH:=qem (P:=l.prog) (w:=w) (base:=base) F28 T b28 m28 20;have u3:FnOk l.prog w K mg base CX0 1 f29 _ [sA0,sA5] (qdA):=qml F29 T;have r9:FnOk l.prog w K mg base CX0 2 f30 _ [sA0] (qcp):=qkZ F30 T ⟨u3,b29,F29.kp,m29⟩;have x4:FnOk l.prog w K mg base CX0 2 f31 _ [sA0,sB3] (qcq K):=qk2 F31 T ⟨u3,b29,F29.kp,m29⟩
 have G3:FnOk l.prog w K mg base CX0 1 f32 _ [sB4,sA2] (qe9 K):=qk8 F32 T;have A7:FnOk l.prog w K mg base CX0 2 f33 _ [sA1] (qhf K):=qme F33 T ⟨c6,oX,F24.kp,oA⟩;have C4:FnOk l.prog w K mg base CX0 3 f34 _ [sA1,sA0,sD4,sA8] (qdB K):=qiZ F34 T ⟨c6,oX,F24.kp,oA⟩ ⟨D8,b26,F26.kp,m26⟩;have A6:FnOk l.prog w K mg base CX0 21 f35 _ [sA3] (qbR):=qhm F35 ⟨hJ,b27,F27.kp,m27⟩;have o4:FnOk l.prog w K mg base CX0 21 f36 _ [sA3,sA2] (qao K):=qho F36 T ⟨dH,b28,F28.kp,m28⟩;have x5:FnOk l.prog w K mg base CX0 1 f37 _ [sC2,sB1] (qe8):=qmn F37 T;have t5:FnOk l.prog w K mg base CX0 3 f38 _ [sA1,sB9,sA0] (qfb K):=qlc F38 T ⟨c6,oX,F24.kp,oA⟩ ⟨u3,b29,F29.kp,m29⟩ ⟨x4,b31,F31.kp,m31⟩;have G4:FnOk l.prog w K mg base CX0 1 f39 _ [sA9] (qfa):=qlb F39 T;have C5:FnOk l.prog w K mg base CX0 22 f40 _ [sA1,sA6,sA9,sA3] (qdF K):=qi5 F40 T ⟨r9,b30,F30.kp,m30⟩ ⟨x5,b37,F37.kp,m37⟩ ⟨o4,b36,F36.kp,m36⟩ ⟨c6,oX,F24.kp,oA⟩ ⟨x4,b31,F31.kp,m31⟩;exact qnI F41 T u8 ⟨A7,b33,F33.kp,m33⟩ ⟨C4,b34,F34.kp,m34⟩ ⟨A6,b35,F35.kp,m35⟩ ⟨c6,oX,F24.kp,oA⟩ ⟨G4,b39,F39.kp,m39⟩ ⟨t5,b38,F38.kp,m38⟩ ⟨C5,b40,F40.kp,m40⟩ ⟨r9,b30,F30.kp,m30⟩ ⟨G3,b32,F32.kp,m32⟩ ⟨x5,b37,F37.kp,m37⟩ ⟨o4,b36,F36.kp,m36⟩ l8 T6 T8 T4 cA w6 w9 w5
theorem walk{l:W.OpenLaw}{K:Params->W.Frag}(hn:l.most=some 63)(sU:d.params.defaults=[])(hY:∀(w:World)(h:Heap),YP w h->(K w.params).In h)(F:∀(w:World)(mg:Str->Option Value)(fa:Addr)(h:Heap),(K w.params).In h->h.Ns mainGlobals mg->mg d.name=some (.ref fa) ->
   ∃ fd:FuncData,(∀(s:Shared)(u:Value),BindsTo s fd ⟨[u],[]⟩ [(sA1,u)])/\∀ base:Heap,(K w.params).In base->base.Ns mainGlobals mg->FnOk l.prog w (K w.params) mg base CX0 37 fa fd [sA1] (qh9 (K w.params))):
  PySem.W.WalkO q L1 XP YP l.row.toRowW d [] (λ f vs=>PySem.call f vs):=
 L2.walk_of (n:=63) (k:=37) (x:=sA1) (CX:=λ _=>CX0) (sp:=λ w=>qh9 (K w.params)) hn (by decide) sU ⟨rfl,by decide,by decide⟩ hY F (λ _ _ a ns hl _ hS=>⟨a,ns,rfl,hS,hl,λ _=>rfl⟩) λ _ _ _ _ _ z=>z
end Law
open PySem PySem.W PyProof.Rows
structure PySem.W.Fast:Prop where (tw15530645359044271238 tw10407565180034958996 tw9002961418990146510 tw16393444452266816946 tw16439674215921354597 tw2247114333640866534 tw18380136809636794359 tw12496426044298694402 tw17596446922006919091 tw5123269952877399408 tw17969022866506186757 tw2399876796704287365 tw9399442882888481388 tw2420176784316372931 tw15261032138025750131 tw9210822418522690129 tw1181018094447174427 tw2775772156027686845 tw17070965912981367932 tw11350598394976012629 tw16097169902154203377 tw2157469482285733216 tw4819096063311235358 tw575737100637035924 tw7587814741881624312 tw5957146247328669624 tw1340158711529078563 tw13888568897414314614 tw12920934282749207816 tw1355901910664084809 tw3185783191713163549 tw16815535074223674216 tw15843138672092725930 tw15858221994352622077 tw17250020429054342631 tw10009628772568493765 tw11989119620376919883 tw7199943413662651913 tw9448483829239028484 tw16473306997686389312 tw15308034970272896788 tw13651204290065958124 tw1166077629454579488 tw5664438092539870087 tw4390545350193343481 tw2834408723188648144 tw8035632514659154826 tw14490389236428096993 tw13058708870832932888 tw13836795707766918422 tw2655187629153881295 tw13499128900940304712 tw3172512184347925475 tw16687846440003892078 tw13564020618764367502 tw2239182029747660558 tw12113171169819008941 tw17553433408847834041 tw8333931563744488358 tw12134844866293808553 tw13505713374863907779 tw6576589817006310638 tw7831387598849729660 tw342451968309297604 tw8739110985420477612 tw1495666157911777973 tw10633668441261890186 tw11938980103340472457 tw8638685405723291033 tw8850855662471721886 tw18088121169131550200 tw17370618559765935543 tw10300799915915280747 tw6799224092442350252 tw2337699145768000225 tw4662315925056328628 tw1033615278424595560 tw13416463689729799324 tw8574997525397894796 tw18323353652327918506 tw3049447668671711318 tw5314216507208571345 tw17830927495556198956 tw14680359892741232871 tw3826578233433619461 tw15000627760417333150 tw14057736434723014123 tw14922097514085248843 tw1730342139612628297 tw14532233170650694256 tw11232763021246083269 tw10499375675855117038 tw15664106165840652526 tw9152700453231800188 tw12268459485425003688 tw3242222946357101360 tw6056242105351716157 tw12520135261872341955 tw9235549818044572607 tw14127778929548480572 tw13312776084677116194 tw5970407357276627224 tw17827426386980667193 tw10463084545198694465 tw8759724093149283230 tw12305911630998217357 tw2999946771591717213 tw2996318014727940856 tw11444783022083019886 tw4846349284441874964 tw6956564046207304681 tw14049774743290112073 tw603509021655384421 tw5734960656182854829 tw13418466719095681677 tw6984269631811356506 tw2206733807935530193 tw11372816681618322769 tw15915671506745961340 tw3654093272986706070 tw6042952152631149724 tw10382468416777983941 tw5352092039180719203 tw7355408000327337044 tw16046821217979341451 tw1077702536599142422 tw10256125303112910639 tw13702269982333973637 tw9307268272505480618 tw1666250585007622144 tw15746951864739813306 tw2757623525211603828 tw2458661542196099275 tw2885221159833872968 tw10037373569161300730 tw8798670655899737540 tw1899791710009339550 tw8987645547962818415 tw3954645017247643624 tw13393458299076380925 tw6042299777147209763 tw5332560292533324493 tw5032560926187307414 tw8087622543267005213 tw4180145682439809997 tw8698569351561355440 tw3592045090730665211 tw2126750316080269230 tw3826617167984316999 tw6167129673426219982 tw16693729661930254477 tw4579081406503737004 tw18044857948059450979 tw6906842654044946202 tw18162864683213509312 tw9419183444329880226 tw17234292921858721967 tw18107002436806244550 tw18015535601972756896 tw4641192989475198348 tw16907206841585814639 tw7875441498936008884 tw2860703132053652650 tw8486767286590617588 tw14465967208304569646 tw17779772712144878297 tw14829676064216349121 tw107041971988831284 tw3033146590619558890 tw9103122637636763280 tw14251133289593703636 tw12828273257818016504 tw13004089684106468870 tw9043125021317197786 tw17451827735855647124 tw1637441599399417679 tw1350361919637583605 tw14400543914699766174 tw14009734477448307883 tw14532355875179051323 tw3708881711756490662 tw2291691667341761571 tw17869518356795570283 tw6987328589053545783 tw6907060134596835867 tw11653216089441585352 tw626877717160026295 tw5877097892887706764 tw2225678891394854942 tw3366845526466526347 tw5138178445081410404 tw12453177461961552509 tw6368071492412503272 tw15225715961556218161 tw8500528239534521443 tw1225747971003022043 tw6370618704344645265 tw5213868670407491924 tw17606726758392111197 tw479877683943165631 tw8733946473054303834 tw6873109174128928803 tw10814423676270466676 tw15406516565161723407 tw10832480519145425511 tw7749602940699222060 tw15398769666012572575 tw10446200204409858085 tw11244632506824397015 tw177078378394172772 tw12308204980442035701 tw9084462305259219868 tw15074106572107929127 tw16433613612277535858 tw9786541402468891001 tw8146222756247459046 tw6514820125805328608 tw13165292191540834686 tw18044954483852366867 tw7386035156943526419 tw5004876401697764 tw15386787246033613485 tw6251898678830016326 tw13628523018259428081 tw12425638760648739500 tw2331752496943524389 tw6705186672705955870 tw5341791250345349397 tw4519878208435349872 tw12027939313620131275 tw8306583755225609698 tw16445313022705346897 tw11816721221802441539 tw1166522919896009626 tw13849195355937868954 tw8385937961320405098 tw2827430973937239632 tw3469108107791487887 tw11004038505977262051 tw4758359092982131647 tw17716494397352260358 tw8266773712163881884 tw18040560362962935043 tw7824603193732265970 tw3184430993490352987 tw1553561179920597481 tw11971901783568974805 tw5290918739857188049 tw9942634413862576048 tw12805200066082341002 tw3357603774158430236 tw13095342116064388145 tw1356320494647428837 tw10033506965642776738 tw10776229045917068231 tw5531508646202436142 tw10120695614143867559 tw17511602170827374150 tw9758434912927615566 tw10345724339147331454 tw10610765957614678992 tw11314832930503737181 tw17389146953734953812 tw8669562929552755800 tw10482860135849786018 tw9795609974531398293 tw9795467418952724043 tw7961850217727551611 tw13457830969061543245 tw2417434068535598036 tw14153186048541499343 tw5682911433463371148 tw15902581034658141879 tw1752561540229051766 tw16094350955069321712 tw7158453935389203355 tw16060453515960857632 tw12342770285231229754 tw7706779015651543770 tw17453068913852613763 tw15247563615858768353 tw3605913896882662804 tw16487223541127108645 tw4710245063590517787 tw3291261006768362162 tw12814517175459909525 tw9933250654503441024 tw9000819632731541722 tw3248331258421196892 tw13993132753153394576 tw7896792680088742863 tw7855877297951516245 tw380917920938194720 tw14072966040712721674 tw9828144149510919722 tw8388439443958453523 tw6246017701960010555 tw2637217670681208257 tw16551992338433366254 tw15896787833179831186 tw1808350876496234294 tw9163237974317188260 tw8212287236676525291 tw6153120933992542728 tw4614046574395454066 tw4328606292487666069 tw2006329219821143906 tw111973008263137474 tw5011223714976312980 tw29824946521969327 tw10223802731586296161 tw6802136489173778154 tw16007468487235718295 tw1451206015229095702 tw1430493904870635737 tw9336707503479232723 tw7260027286342150320 tw1555759389266436156 tw11717847620149780254 tw724938091209278461 tw5556656453078520061 tw14159712671029115276 tw5829655284893478311 tw3544072379040045352 tw12045243456085424439 tw14763832742758658033 tw9940909301281580244 tw7863317386157286792 tw17253181427756340196 tw12042539994635718723 tw282016174540280567 tw11252484100812253200 tw2504224047005481795 tw2091125657723177101 tw4876775269056734337 tw15664434771256671392 tw15506242923039696059 tw17577332839972380260 tw6921001680598160983 tw8683744522535789857 tw7146442419677346149 tw16023890821997384531 tw12038129691122115005 tw16954028638169378370 tw16326727999315326287 tw17030248035537582688 tw13569689397332034141 tw10315161700133370960 tw4497835049170834136 tw1945674070376784153 tw15542026072422382516 tw15419999780882330362 tw15380660438397924722 tw17697937351894141053 tw4777711120906707033 tw15515319074664234288 tw7323659637025797964 tw8272992775511399796 tw11896279246002876837 tw4411454158384067399 tw7643511837284666416 tw1161481189861816248 tw2679546126512909939 tw10829422187981626616 tw4105816400337579297 tw14706240594087119466 tw17196496423641129582 tw13132748286469193280 tw14777026051696972389 tw8914619068225199466 tw3966791394834832049 tw7694364190438008180 tw3214805438293603663 tw9306496303237539013 tw14806327427814284485 tw5142978162103562623 tw2355305602704826033 tw16433188568204202453 tw656021757373359672 tw15356166227910581524 tw4473815834482028060 tw12991212894666129000 tw1963002628740154390 tw17360037709516751563 tw12189380307410695805 tw7619465785256911634 tw10385937959695560328 tw1148218186434217085 tw9674850271735086244 tw314477333900249214 tw471982212386650343 tw16379387621249669433 tw11515628307541267522 tw12360324781444834027 tw13900973256379206444 tw644174550697897694 tw7538160361826625718 tw4771315850575251297 tw1768440203182781875 tw17178627357385335129 tw10611262479357620486 tw7935655383437811637 tw15566205169865952457 tw1684961130540179878 tw14341512019381745102 tw4491302283205253969 tw2692674709699897339 tw12754459931240805014 tw5887858471444729941 tw13535655373971569397 tw2540870751042236846 tw11613893033847965708 tw11380724819486477893 tw15849618568891316660 tw10928938623925491600 tw12559031690532329790 tw15448131719633701693 tw15373787128298174479 tw2687749992471508494 tw6221952512518609510 tw12594124637803394812 tw782139993770761768 tw4024812022359995159 tw15904241952681328559 tw11662657854394966349 tw15807312909593861268 tw9670146945029504738 tw8949815023637487482 tw1940065174275056940 tw16616866787853317954 tw15040276640800214357 tw11613687689612245435 tw4158467769076925324 tw9673188449584219691 tw5577701841568267138 tw5232754753226757347 tw3312680376312086724 tw17622111264507209294 tw16185208763046650813 tw15820234918319454938 tw12022438751247931958 tw10996625929276832855 tw7849145335320908133 tw3785951678046510242 tw197618177322312520 tw6015741473867098209 tw16794123170377285228 tw538777710150985080 tw15893698206594848684 tw10093081821864366578 tw11913597056828778592 tw7953164962025316325 tw14291486889471802901 tw9625142074154012175 tw6720857289807403308 tw6441495632621981658 tw5268822196836159236 tw3166526780302280063 tw16014587076565735431 tw12287131048547338588 tw9955956169485750718 tw8767063863478426101 tw12946616404056792512 tw3362892177710772075 tw3097865689508376747 tw14550697886803845582 tw1576666359904763574 tw17176128219172265732 tw278481152326150051 tw6107403993860762351 tw5789941038698714898 tw9312405649006786405 tw8713794227851772750 tw8308664288246764805 tw7699636872913147963 tw7055762808636617397 tw6580991479596287040 tw6469868116963683685 tw644967963747009347 tw5765308063379893210 tw5484639577913422280 tw4799616653217573566 tw4019474100245261447 tw3807795401257757801 tw3776546262937538795 tw3541477902955673453 tw3508446012013578079 tw1988192093829496895 tw17376376729065368981 tw16609729072953364310 tw16326612539683018451 tw15746746768138399420 tw15410696849409494840 tw12929632618562301756 tw12912629311014990471 tw12860171827506543746 tw12746117246366297086 tw12720752640658802082 tw1241715981181378890 tw12397547554275741073 tw11625167832746447079 tw11507378874423782103 tw11266017449446190527 tw10384794595957230307 tw15660238872402673619 tw1911752615899128058 tw10038117088693784216 tw10101577817027273622 tw995059888611545083 tw8939426207933115467 tw7709675823848074661 tw769879802644347110 tw6536065945221671400 tw5116648211014980070 tw3699607436254598869 tw2698897180456261763 tw17384985657174952875 tw17230010631866003339 tw15830031891185560861 tw15031341270755311459 tw13339022716237361867 tw11951022096133919754 tw11882632460876337 tw11639488602328176114 tw9033282877897631601 tw8589155595203241162 tw8015880928163683407 tw7854440648904864176 tw7236882714128625581 tw7214667147628392820 tw6747437564706712921 tw6113539399695339589 tw3232462752746614800 tw2829530227058201104 tw16700467233798207058 tw13446084820737170157 tw13239891167277084884 tw12816728711185748505 tw12448901939577275913 tw10133163574743994907 tw11336019798212642126 tw965684623795268278 tw8975767935155100318 tw7579523927209225115 tw7382832547554888507 tw7234356553102342769 tw6900515858693906018 tw2935417097751179256 tw2823087117897875899 tw2385673539185005111 tw18125910793713479666 tw16950865924041731759 tw13964999726936828626 tw1034868229158561039 tw9094251585982652544 tw8491875249932882979 tw669799603368537031 tw4466334567798238025 tw4359198511374470906 tw2645700507770542970 tw17395683716311629199 tw16817953893443186946 tw16803903991151829982 tw15768595204488698344 tw15328754118579811752 tw14468870939464553496 tw1347257304032484396 tw11964595720485302153 tw11504610454474599394 tw10559626928626197144 tw9778368864759874368 tw9702737882171725920 tw968201030662478666 tw9441001750856716250 tw9402751524545910843 tw9258025466963975671 tw9202504128749141106 tw9192327615274957224 tw9138643080234069719 tw9130767189925071502 tw8920389141092172686 tw8803614866348741497 tw8574209280347550937 tw8567530419696020794 tw8522575959498935446 tw8429042654141467929 tw8223120628690669650 tw8139460983645796797 tw8007924658348300078 tw7915559881997306003 tw7899267397101661162 tw7702041100943021809 tw7569438373003570220 tw7449560034726435331 tw7443962421855188233 tw7429072048127319655 tw7406740459537408488 tw7234990835004329123 tw7201353439801252981 tw7042762736703965422 tw6898392826801604589 tw6848586667347981662 tw659819332936489859 tw6453498910407914623 tw6242647944702615178 tw6062695333478018482 tw5997178830170704067 tw5953081106850094791 tw5894777166879281597 tw5776492719879847264 tw5560251708446027156 tw5525310645555864543 tw5524671759016463700 tw5396250537348261103 tw5315297853492409538 tw511798520777876540 tw509203841234354170 tw4934827659267855188 tw4927145824846601767 tw4797454381820983409 tw4793014584279471436 tw4503029269946921302 tw4201503326396502329 tw4174750949908037553 tw4109209011270673858 tw4095689444140296657 tw4077282982244759189 tw4015986079929858995 tw3944878393748800810 tw3882691984379012557 tw3820422336428462492 tw3753923258575271505 tw3720599070263882550 tw3587806741612761043 tw3570552139256739557 tw3551733858283257439 tw3526623098981001551 tw3523371701946993206 tw3347984330431904307 tw3323264350689255337 tw3314279153033288655 tw327510190504269462 tw3074592295641120818 tw2769056220389365105 tw259095487841019324 tw2519664668757591510 tw235910256423116380 tw2340683714063792602 tw2261401381932194577 tw2195636787286829099 tw2148813445592483187 tw203311885702730045 tw18399221462813248826 tw18369373826106109927 tw18275906445141365305 tw18170441518663969372 tw18126812417639871860 tw1806784869529236097 tw17965344239331243934 tw17695844518012502715 tw17621671444673416289 tw17577447593861571370 tw17418134371708852832 tw17283982320110028729 tw17278023870352767326 tw17257960834208925543 tw17220157258111499360 tw17204858867703442364 tw17120769871048228629 tw17086648048502569360 tw1706496167729313306 tw16863187740421158455 tw16745324179826307493 tw16744231265034331369 tw16717862683418293242 tw16674340316806477962 tw1652516889088845458 tw1636956289146153307 tw16294826670883578598 tw15961684398971454643 tw15927827298430203319 tw15884144824236741811 tw15810627819352649258 tw15754710392258116067 tw15556534809634350011 tw1547547753678600803 tw15427821063516040659 tw15377528917673992183 tw15288380522708307328 tw15037862310867133966 tw15000913191560277830 tw14977969468152641488 tw14919828781270930241 tw14916806021696576810 tw14716396320626028354 tw14660687558630275901 tw14611440786877116415 tw14503883349728459774 tw1444930764692036295 tw144091982063469204 tw14249658539323152641 tw13994654115655857244 tw13969921266719331549 tw13958334989673039819 tw13876784481308195042 tw13856441722541280013 tw13841798728051131865 tw13840730275671135491 tw13827776118545686903 tw1381237277274016913 tw13759804716321683022 tw13710762064926464532 tw13703677579676884379 tw13693460968327137658 tw13438750369635937558 tw13401459732204515907 tw13379322972833276185 tw1334357496161055379 tw13201972056575253333 tw13086751036480383863 tw13074418586119858286 tw12966639745813477441 tw12855500806202701647 tw12788023770582727949 tw12677285496130965744 tw12659135496287651838 tw12593812557663202639 tw12531938807471223644 tw12483130250159056435 tw12301400422480924669 tw12286603340916517541 tw12229034517551343178 tw12143791035798128813 tw1213276082790355673 tw12043947381323647843 tw11956794723302617196 tw11902131209087351779 tw11737644891606838891 tw11549310717247650287 tw1151813188977718695 tw11487770004305314983 tw11351535336022640541 tw11151640242275291343 tw11146604512998001741 tw11051073500699177244 tw11008778415383467843 tw10876610600296914893 tw1077372133100614789 tw10685943390988643879 tw10577474593197403938 tw10518532668554549193 tw10456733751479505150 tw10346750585555456678 tw1034299931193039260 tw10183262176392241614 tw10020917967136127375:True)
set_option maxRecDepth 100000 in
set_option maxHeartbeats 0 in
theorem PySem.Challenge.cw_fillsay_k35_whole_fillings_that_fill_holds : PySem.Challenge.rw_fillsay_k35_whole_fillings_that_fill.Holds := by
 w_on;o_law;k_head;(case hw=>w_witness2)
 k_fill
 refine Law.walk (l:=PySem.Challenge.rw_fillsay_k35_whole_fillings_that_fill) rfl rfl (λ w h Y=>W.kIn_of Y) ?F
 case F =>
  intro w mg fa h KX G sD;refine' Law.all_mk KX G sD ..
  any_goals first|k_is|(unfold Law.NI;k_is)
  any_goals first|(refine' ⟨⟨?_,?_,?_,?_⟩,⟨?_,?_,?_,?_⟩,⟨?_,?_,?_,?_⟩,⟨?_,?_,?_,?_⟩,⟨?_,?_,?_,?_⟩,⟨?_,?_,?_,?_⟩,⟨?_,?_,?_,?_⟩,⟨?_,?_,?_⟩,⟨?_,?_,?_⟩,⟨?_,?_,?_,?_⟩,⟨?_,?_,?_,?_⟩,⟨?_,?_,?_,?_⟩,⟨?_,?_,?_,?_⟩,⟨?_,?_,?_,?_⟩,?_,?_,⟨?_,?_⟩,⟨?_,?_⟩,⟨?_,?_⟩⟩ <;> (try dsimp only[L2.NoAttr]) <;> try k_is)|(refine' ⟨⟨?_,?_,?_⟩,⟨?_,?_,?_⟩,⟨?_,?_,?_⟩,⟨?_,?_,?_⟩,⟨?_,?_,?_⟩,⟨?_,?_,?_⟩,⟨?_,?_,?_⟩⟩ <;> (try dsimp only[L2.NoAttr]) <;> try k_is)|(refine' ⟨⟨?_,?_,?_,?_⟩,?_,?_,?_,?_,?_⟩ <;> (try dsimp only[L2.NoAttr]) <;> try k_is)|(refine' ⟨?_,?_,?_,?_⟩ <;> try k_is)|(refine' ⟨?_,?_,?_⟩ <;> try k_is)|skip
  any_goals first|(refine' L2.fun_mk ?_ ?_ ?_ <;> try k_is)|skip
