import PyProof.Rows.All
import Wide.All
import OpenK.AllK
import Wide.FinOn
import Lean
import PyProof.EqAt
import PyProof.EqKinds
import PyProof.TupleCall
import PyProof.FactsAll.set_1
import PyProof.FactsAll.set_2
import PyProof.Rows.Range3
import PyProof.AttrMissSeq
import KE.KDictOf
import PyProof.CompUse
import PyProof.Rows.RegReprOcc
import PyProof.FactsAll.list_4
import KE.KItemsList
import KE.KEqDict
import PyProof.Rows.SortRunsK
import PyProof.Rows.SortStr
import PyProof.Draws
import PyProof.EnumMake
import PyProof.SliceStr2
import PyProof.SliceList
import PyProof.DictWalks
import PyProof.SumWalkG
import PyProof.SeqI3
import PyProof.FactsAll.str_6
import PyProof.FactsAll.str_7
import PyProof.StrCalls
import PyProof.MeetsStr
import PyProof.DictItems
import PyProof.DictItemsLoops
import PyProof.DictUpdate
import KE.KPairComp
import PySem.Challenge.RW_fillsay_k76_whole_counts_add_up
noncomputable section
local macro_rules|`(tactic|omega)=>`(tactic|lia)
set_option Elab.async false
set_option linter.all false
set_option maxRecDepth 100000
set_option maxHeartbeats 4000000
abbrev Xa:=@List.take_succ_eq_append_getElem
abbrev Xb:=@Nat.testBit_eq_decide_div_mod_eq
abbrev Xc:=@PyProof.Rows.slot_tuple_getitem
abbrev Xd:=@List.take_append_of_le_length
abbrev Xe:=@List.drop_append_of_le_length
abbrev Xf:=@List.eq_nil_of_length_eq_zero
abbrev Xg:=@List.dropLast_concat_getLast
abbrev Xh:=@PyProof.Rows.callWith_type1
abbrev Xi:=@Array.getD_eq_getD_getElem?
abbrev Xj:=@List.perm_append_comm_assoc
abbrev Xk:=@List.getElem?_append_right
abbrev Xl:=@List.perm_ext_iff_of_nodup
abbrev Xm:=@List.getD_eq_getElem?_getD
abbrev Xn:=@List.length_eraseIdx_of_lt
abbrev Xo:=@Nat.testBit_two_pow_add_gt
abbrev Xp:=@Nat.testBit_two_pow_add_eq
abbrev Xq:=@List.getElem?_eq_some_iff
abbrev Xr:=@List.getElem?_append_left
abbrev Xs:=@Array.getElem?_eq_getElem
abbrev Xt:=@PySem.Calls.call_function_entry
abbrev Xu:=@List.extract_eq_take_drop
abbrev Xv:=@List.getElem?_zip_eq_some
abbrev Xw:=@List.drop_eq_getElem_cons
abbrev Xx:=@List.pairwise_iff_getElem
abbrev Xy:=@Option.isSome_iff_exists
abbrev Xz:=@List.getElem?_take_of_lt
abbrev X0:=@PySem.F.args_tuple_add_2
abbrev X1:=@List.getElem?_eq_getElem
abbrev X2:=@List.filterMap_cons_some
abbrev X3:=@List.filterMap_cons_none
abbrev X4:=@PySem.F.slot_list_append
abbrev X5:=@PySem.F.type_list_append
abbrev X6:=@PySem.wpAny_comprehension_free
abbrev X7:=@List.getElem?_replicate
abbrev X8:=@PySem.F.plainAttrs_dict
abbrev X9:=@PySem.F.entry_tuple_add
abbrev XA:=@List.eraseIdx_cons_succ
abbrev XB:=@List.filter_cons_of_pos
abbrev XC:=@List.filter_cons_of_neg
abbrev XD:=@PyProof.Rows.F.plain_set_update_loop
abbrev XE:=@Nat.add_sub_cancel_left
abbrev XF:=@List.length_eq_zero_iff
abbrev XG:=@PySem.F.plainAttrs_list
abbrev XH:=@PySem.wpAny_callSpecial?_slot
abbrev XI:=@PySem.Heap.get?_push_of_some
abbrev XJ:=@PySem.Calls.callWith_builtin
abbrev XL:=@PySem.F.slot_tuple_add
abbrev XM:=@PySem.Heap.get?_update_other
abbrev XN:=@List.take_of_length_le
abbrev XO:=@List.drop_of_length_le
abbrev XQ:=@Nat.div_div_eq_div_mul
abbrev XR:=@Nat.testBit_lt_two_pow
abbrev XS:=@PySem.F.plainAttrs_str
abbrev XT:=@Nat.le_of_succ_le_succ
abbrev XU:=@List.mem_append_right
abbrev XV:=@List.length_replicate
abbrev XW:=@PySem.F.slot_dict_get
abbrev XX:=@PySem.Heap.get?_update_self
abbrev XY:=@List.length_singleton
abbrev XZ:=@Array.getElem?_toList
abbrev Ya:=@List.contains_iff_mem
abbrev Yb:=@List.take_append_drop
abbrev Yc:=@List.filterMap_append
abbrev Yd:=@List.getElem?_eq_none
abbrev Ye:=@List.mem_iff_getElem?
abbrev Yf:=@List.length_filter_le
abbrev Yg:=@PySem.F.slot_str_join
abbrev Yh:=@PySem.F.type_str_join
abbrev Yi:=@PySem.F.slot_list_pop
abbrev Yj:=@PySem.F.type_list_pop
abbrev Yk:=@PySem.builtinLookup_eq_fast
abbrev Yl:=@List.mem_cons_of_mem
abbrev Ym:=@List.mem_append_left
abbrev Yn:=@List.mem_of_getElem?
abbrev Yo:=@PySem.Around.under_plainId
abbrev Yp:=@Array.toList_extract
abbrev Yq:=@List.pairwise_append
abbrev Yr:=@List.mem_of_mem_drop
abbrev Ys:=@List.mem_of_mem_take
abbrev Yt:=@Array.toList_reverse
abbrev Yu:=@Nat.pow_le_pow_right
abbrev Yv:=@Nat.eq_of_testBit_eq
abbrev Yw:=@List.dropLast_concat
abbrev Yx:=@List.filterMap_cons
abbrev Yy:=@Array.length_toList
abbrev Yz:=@PySem.Heap.get?_push_size
abbrev Y0:=@PySem.mem_of_lookup
abbrev Y1:=@List.replicate_succ
abbrev Y2:=@List.length_zipWith
abbrev Y4:=@List.getElem_of_mem
abbrev Y5:=@PySem.Heap.SameBut.update
abbrev Y6:=@Array.toList_append
abbrev Y7:=@PySem.Paired.length
abbrev Y8:=@List.reverse_append
abbrev Y9:=@List.length_reverse
abbrev Za:=@List.map_congr_left
abbrev Zb:=@List.getElem?_range
abbrev Zc:=@beq_eq_false_iff_ne
abbrev Zd:=@PySem.wpAny_setEntries_of
abbrev Ze:=@Nat.lt_of_lt_of_le
abbrev Zf:=@List.mem_cons_self
abbrev Zg:=@Bool.false_ne_true
abbrev Zh:=@Int.natCast_nonneg
abbrev Zi:=@PySem.Calls.spliced_cons
abbrev Zj:=@List.length_append
abbrev Zk:=@List.filterMap_map
abbrev Zl:=@Nat.lt_of_le_of_lt
abbrev Zm:=@List.pairwise_cons
abbrev Zn:=@List.zip_cons_cons
abbrev Zo:=@Bool.false_eq_true
abbrev Zp:=@List.getElem?_drop
abbrev Zq:=@List.mem_singleton
abbrev Zr:=@Int.emod_lt_of_pos
abbrev Zs:=@PySem.wpAny_Call_Name_kw
abbrev Zt:=@PySem.tupleKind_room_in1
abbrev Zu:=@of_decide_eq_false
abbrev Zv:=@PySem.wpAny_setField_rec
abbrev Zw:=@List.getElem?_map
abbrev Zx:=@List.take_sublist
abbrev Zy:=@List.size_toArray
abbrev Zz:=@Int.toNat_natCast
abbrev Z0:=@List.flatten_cons
abbrev Z1:=@List.append_assoc
abbrev Z2:=@List.nodup_append
abbrev Z4:=@List.pairwise_map
abbrev Z5:=@Nat.lt_succ_of_lt
abbrev Z6:=@Array.toList_push
abbrev Z7:=@Bool.eq_false_iff
abbrev Z8:=@List.length_range
abbrev Z9:=@List.foldl_append
abbrev Ua:=@Nat.le_succ_of_le
abbrev Ub:=@PyProof.Rows.KeyOrd.kle_of_klt
abbrev Uc:=@List.getElem_take
abbrev Ud:=@PySem.wpAny_truthy_bool
abbrev Ue:=@PySem.wpAny_newObj_type
abbrev Uf:=@PySem.wpAny_pyIter_list
abbrev Ug:=@PySem.wpAny_pyIter_enum
abbrev Uh:=@PySem.wpAny_storeSet_of
abbrev Ui:=@PySem.fits_of_scanBound
abbrev Uj:=@PySem.wpAny_setState_of
abbrev Uk:=@bne_self_eq_false
abbrev Ul:=@PySem.wpAny_setEpoch_of
abbrev Um:=@of_decide_eq_true
abbrev Uo:=@List.length_cons
abbrev Up:=@Nat.lt_succ_self
abbrev Uq:=@List.length_take
abbrev Ur:=@List.cons_append
abbrev Us:=@List.length_drop
abbrev Ut:=@Bool.and_eq_true
abbrev Uu:=@List.lookup_cons
abbrev Uv:=@List.all_eq_true
abbrev Uw:=@List.getElem_mem
abbrev Ux:=@List.take_length
abbrev Uy:=@PyProof.Rows.KeyOrd.kle_trans
abbrev Uz:=@List.filter_cons
abbrev U0:=@PySem.wpAny_call_entry
abbrev U1:=@PySem.wpAny_askSetting
abbrev U2:=@PySem.wpAny_isInstance
abbrev U3:=@decide_eq_decide
abbrev U4:=@List.mem_filter
abbrev U5:=@List.mem_append
abbrev U6:=@Bool.eq_iff_iff
abbrev U7:=@List.length_map
abbrev U8:=@List.append_nil
abbrev U9:=@List.nodup_cons
abbrev Ja:=@List.of_mem_zip
abbrev Jb:=@List.find?_cons
abbrev Jc:=@Option.map_some
abbrev Jd:=@List.foldl_cons
abbrev Je:=@List.nil_append
abbrev Jf:=@List.zip_append
abbrev Jg:=@List.map_append
abbrev Jh:=@Int.emod_nonneg
abbrev Ji:=@List.range_succ
abbrev Jj:=@PyProof.Rows.KeyOrd.kle_refl
abbrev Jk:=@Nat.min_eq_left
abbrev Jl:=@Nat.testBit_and
abbrev Jm:=@List.length_zip
abbrev Jn:=@PySem.PassesOwn.never
abbrev Jo:=@List.any_append
abbrev Jp:=@Int.ediv_nonneg
abbrev Jq:=@decide_eq_false
abbrev Jr:=@PySem.wpAny_execs_nil
abbrev Js:=@PySem.wpAny_passesOwn
abbrev Jt:=@PySem.wpAny_specialOf
abbrev Ju:=@PySem.codeAny_builtin
abbrev Jv:=@PySem.typeLookup_type
abbrev Jw:=@PySem.wpAny_ite_split
abbrev Jx:=@List.mem_range
abbrev Jy:=@Bool.false_and
abbrev Jz:=@PySem.Heap.size_push
abbrev J0:=@Bool.xor_assoc
abbrev J4:=@List.Perm.refl
abbrev J5:=@Bool.and_false
abbrev J6:=@List.drop_zero
abbrev J7:=@List.take_succ
abbrev J8:=@List.take_zero
abbrev J9:=@List.drop_drop
abbrev Qa:=@List.take_left
abbrev Qb:=@PySem.boot_len
abbrev Qc:=@decide_eq_true
abbrev Qd:=@PySem.isSubtype_type
abbrev Qe:=@PySem.entryFor_alias
abbrev Qf:=@PySem.wpAny_fieldsOf
abbrev Qg:=@Nat.lt_irrefl
abbrev Qh:=@List.mem_cons
abbrev Qi:=@List.map_cons
abbrev Qj:=@List.any_cons
abbrev Qk:=@Bool.false_or
abbrev Ql:=@Bool.or_false
abbrev Qm:=@List.all_cons
abbrev Qn:=@Bool.not_true
abbrev Qo:=@List.sum_cons
abbrev Qp:=@Nat.add_assoc
abbrev Qq:=@PySem.wpAny_holding
abbrev Qr:=@PySem.wpAny_standAt
abbrev Qs:=@PySem.plainId_quiet
abbrev Qt:=@PySem.wpAny_attempt
abbrev Qu:=@PySem.wpAny_newList
abbrev Qv:=@PySem.Heap.lt_size
abbrev Qw:=@Nat.ne_of_lt
abbrev Qx:=@Nat.le_trans
abbrev Qy:=@Nat.le_of_lt
abbrev Qz:=@Nat.ne_of_gt
abbrev Q0:=@Nat.lt_trans
abbrev Q1:=@Nat.mul_comm
abbrev Q2:=@Nat.pow_succ
abbrev Q3:=@List.mem_map
abbrev Q4:=@List.map_map
abbrev Q5:=@Nat.zero_add
abbrev Q6:=@Nat.lt_or_ge
abbrev Q7:=@Int.zero_add
abbrev Q8:=@PySem.W.mg_none_of
abbrev Q9:=@PySem.codeAny_mono
abbrev Va:=@PySem.wpAny_typeOf
abbrev Vb:=@PyProof.Rows.wpS_forRange
abbrev Vc:=@Nat.le_refl
abbrev Vd:=@Nat.zero_le
abbrev Ve:=@Nat.le_succ
abbrev Vg:=@PySem.Paired.snoc
abbrev Vh:=@PySem.wpAny_field
abbrev Vi:=@PySem.wpAny_of_eq
abbrev Vj:=@PySem.wpAny_mono
abbrev Vk:=@PySem.wpAny_bind
abbrev Vl:=@PySem.wpAny_pure
abbrev Vm:=@PySem.wpAny_rule
abbrev Vn:=@beq_iff_eq
abbrev Vo:=@PySem.typeIs_str
abbrev Vp:=@PySem.call_meets
abbrev Vq:=@PyProof.Rows.wpS_modify
abbrev Vr:=@if_false
abbrev Vu:=@PyProof.Rows.wpS_pure
abbrev Vv:=@PyProof.Rows.wpS_bind
abbrev Vw:=@PyProof.Rows.wpS_mono
abbrev Vx:=@Ne.symm
abbrev Vy:=@PySem.W.mg_of
abbrev Vz:=@if_true
abbrev V0:=@PyProof.Rows.wpS_get
abbrev V1:=@dif_pos
abbrev V2:=@if_pos
abbrev V3:=@if_neg
namespace L2
open PySem PySem.Spec PyProof.Rows
noncomputable abbrev sA0:Str:="_law_script"
noncomputable abbrev sA1:Str:="_law_givens"
noncomputable abbrev sA2:Str:="_law_letters"
noncomputable abbrev sA3:Str:="_law_small_here"
noncomputable abbrev sA4:Str:="_law_tree"
noncomputable abbrev sA5:Str:="_law_mix"
noncomputable abbrev sA6:Str:="_law_written"
noncomputable abbrev sA7:Str:="_law_sides_here"
noncomputable abbrev sA8:Str:="_law_row"
noncomputable abbrev sA9:Str:="_law_filled"
noncomputable abbrev sB0:Str:="_law_k"
noncomputable abbrev sB1:Str:="_law_mixed"
noncomputable abbrev sB2:Str:="_law_product_of"
noncomputable abbrev sB3:Str:="_law_one"
noncomputable abbrev sB4:Str:="_law_gaps"
noncomputable abbrev sB5:Str:="_law_many"
noncomputable abbrev sB6:Str:="_law_form_of"
noncomputable abbrev sB7:Str:="_law_sides"
noncomputable abbrev sB8:Str:="_law_saying"
noncomputable abbrev sB9:Str:="_law_leaf"
noncomputable abbrev sC0:Str:="_law_form"
noncomputable abbrev sC1:Str:="_law_small"
noncomputable abbrev sC2:Str:="_law_drawn"
noncomputable abbrev sC3:Str:="_law_texts"
noncomputable abbrev sC4:Str:="_law_table"
noncomputable abbrev sC5:Str:="_law_rows"
noncomputable abbrev sC6:Str:="_law_said"
noncomputable abbrev sC7:Str:="_law_two"
abbrev Key:=Sum Int Str
noncomputable def qce:Key->Value->Bool
 |.inl k,v=>Value.isInt k v
 |.inr x,v=>Value.isStrOf x v
noncomputable def qof(w:World):Key->Int
 |.inl k=>hashInt k
 |.inr x=>hashStr w x
theorem zj:∀{k:Key}{v:Value},qce k v=true->(∃ i t,k=Sum.inl i/\v=Value.int i t)∨(∃ x t,k=Sum.inr x/\v=Value.str x t)
 |.inl i,v,h=>by
  obtain⟨t,e⟩:=Value.isInt_shape (k:=i) (v:=v) h;exact .inl ⟨i,t,rfl,e⟩
 |.inr x,v,h=>by
  obtain⟨t,e⟩:=Value.isStrOf_shape (x:=x) (v:=v) h;exact .inr ⟨x,t,rfl,e⟩
theorem qh0(i:Int)(t:Tok):qce (.inl i) (.int i t)=true:=by simp[qce,Value.isInt]
theorem qh1(x:Str)(t:Tok):qce (.inr x) (.str x t)=true:=by simp[qce,Value.isStrOf]
theorem ql9(a b:Int):decide ((Sum.inl a:Key)=Sum.inl b)=(a == b):=by
 by_cases e:a=b
 ·subst e;simp
 ·have h:¬ (Sum.inl a:Key)=Sum.inl b:=λ q=>e (Sum.inl.inj q)
  rw[Jq h];exact(Zc.mpr e).symm
theorem qma(a b:Str):decide ((Sum.inr a:Key)=Sum.inr b)=decide (a=b):=by
 by_cases e:a=b
 ·subst e;simp
 ·have h:¬ (Sum.inr a:Key)=Sum.inr b:=λ q=>e (Sum.inr.inj q)
  rw[Jq h,Jq e]
theorem qmb(a:Int)(b:Str):decide ((Sum.inl a:Key)=Sum.inr b)=false:=Jq (λ q=>nomatch q)
theorem qmc(a:Str)(b:Int):decide ((Sum.inr a:Key)=Sum.inl b)=false:=Jq (λ q=>nomatch q)
noncomputable def qw(prog:Program)(w:World):PySem.KeyKind prog w Key where
 is:=qce
 hash:=qof w
 inj:=λ v a b ha hb=>by
  rcases zj ha with⟨i,t,rfl,rfl⟩|⟨x,t,rfl,rfl⟩
  ·rcases zj hb with⟨j,u,rfl,e⟩ | ⟨y,u,rfl,e⟩
   ·injection e with e1 _;rw[e1]
   ·exact nomatch e
  ·rcases zj hb with⟨j,u,rfl,e⟩ | ⟨y,u,rfl,e⟩
   ·exact nomatch e
   ·injection e with e1 _;rw[e1]
 byValue:=λ k v h=>by
  rcases zj h with⟨i,t,rfl,rfl⟩|⟨x,t,rfl,rfl⟩ <;> rfl
 pyHash:=λ hv h=>by
  rcases zj hv with⟨i,t,rfl,rfl⟩|⟨x,t,rfl,rfl⟩
  ·exact wpAny_pyHash_int h
  ·exact wpAny_pyHash_str h
 eqBool:=λ hu hv h=>by
  rcases zj hu with⟨i,t,rfl,rfl⟩|⟨x,t,rfl,rfl⟩
  ·rcases zj hv with⟨j,u,rfl,rfl⟩ | ⟨y,u,rfl,rfl⟩
   ·rw[ql9] at h;exact wpAny_eqBool_int h
   ·rw[qmb] at h;exact SeqAt.EqAt.int_str i t y u _ _ _ _ h
  ·rcases zj hv with⟨j,u,rfl,rfl⟩ | ⟨y,u,rfl,rfl⟩
   ·rw[qmc] at h;exact SeqAt.EqAt.str_int x t j u _ _ _ _ h
   ·rw[qma] at h;exact wpAny_eqBool_str h
 «strs»:=λ k x t v h=>by
  rcases zj h with⟨i,u,rfl,e⟩|⟨y,u,rfl,e⟩
  ·exact nomatch e
  ·injection e with e1 _
   subst e1;cases v <;> rfl
theorem qeX(prog:Program)(w:World)(i:Int)(t:Tok):(qw prog w).is (.inl i) (.int i t)=true:=qh0 i t
theorem zn(prog:Program)(w:World)(x:Str)(t:Tok):(qw prog w).is (.inr x) (.str x t)=true:=qh1 x t
inductive V where 
 |non|bl (b:Bool)|int (i:Int)|str (x:Str)|byt (b:Array UInt8)|flt (b:UInt64)|ref (a:Addr)|ty (n:String) deriving DecidableEq
def qT:V->Value->Prop
 |.non,u=>u=Value.none
 |.bl b,u=>u=Value.bool b
 |.int i,u=>∃ t,u=Value.int i t
 |.str x,u=>∃ t,u=Value.str x t
 |.byt b,u=>∃ t,u=Value.bytes b t
 |.flt b,u=>∃ t,u=Value.float b t
 |.ref a,u=>u=Value.ref a
 |.ty n,u=>u=Value.type n
abbrev qK:List V->List Value->Prop:=Paired qT
theorem qK.length{xs:List V}{us:List Value}(r:qK xs us):xs.length=us.length:=Paired.length r
theorem qK.get:∀{xs:List V}{us:List Value}{i:Nat}{x:V},qK xs us->xs[i]?=some x->∃ u,us[i]?=some u/\qT x u
 |_,_,_,_,.nil,e=>by simp at e
 |_,_,0,_,.cons r _,e=>by simp at e;subst e;exact⟨_,rfl,r⟩
 |_,_,i+1,x,.cons _ t,e=>by
  obtain⟨u,h1,h2⟩:=qK.get (i:=i) (x:=x) t (by simpa using e);exact⟨u,by simpa using h1,h2⟩
theorem qK.set{x:V}{u:Value}(r:qT x u):∀{xs:List V}{us:List Value}(i:Nat),qK xs us->qK (xs.set i x) (us.set i u)
 |_,_,_,.nil=>.nil
 |_,_,0,.cons _ t=>.cons r t
 |_,_,i+1,.cons q t=>.cons q (qK.set r i t)
theorem qK.append:∀{xs ys:List V}{us ws:List Value},qK xs us->qK ys ws->qK (xs++ys) (us++ws)
 |_,_,_,_,.nil,s=>s
 |_,_,_,_,.cons r t,s=>.cons r (qK.append t s)
theorem qK.take:∀{xs:List V}{us:List Value}(n:Nat),qK xs us->qK (xs.take n) (us.take n)
 |_,_,0,_=>.nil
 |_,_,_+1,.nil=>.nil
 |_,_,n+1,.cons r t=>.cons r (qK.take n t)
theorem qK.drop:∀{xs:List V}{us:List Value}(n:Nat),qK xs us->qK (xs.drop n) (us.drop n)
 |_,_,0,r=>r
 |_,_,_+1,.nil=>.nil
 |_,_,n+1,.cons _ t=>qK.drop n t
def vz:Option V->Option Value->Prop
 |some v,some u=>qT v u
 |none,none=>True
 |_,_=>False
def KV{κ:Type}:List (κ×V)->List (κ×Value)->Prop:=Paired λ(p:κ×V)(q:κ×Value)=>p.1=q.1/\qT p.2 q.2
noncomputable def kV:Key->V
 |.inl i=>.int i
 |.inr x=>.str x
inductive HO where 
 
 |lst (xs:List V) 
 |tup (xs:List V) 
 |dK (kvs:List (Key×V))|dT (kvs:List (List Key×V)) 
 |set (S:Int->Bool) (n:Nat)
 
 |ins (C dx:Addr) (fs:List (Str×V))
 
 |own (x:Addr)
 
 |xd (fs:List (Str×V))
 
 |met (f x:Addr)
 
 |rng (lo hi:Int)
 
 |frz (o:Obj) (u:HO)
 
 |tbl (ps:Array Value)
 
 |ext (φ:Heap->Prop)
abbrev Hp:=Addr->Option HO
noncomputable def upd(H:Hp)(a:Addr)(o:HO):Hp:=λ b=>if b=a then some o else H b
theorem qc{H:Hp}{a:Addr}{o:HO}:upd H a o a=some o:=by unfold upd;rw[V2 rfl]
theorem qv{H:Hp}{a b:Addr}{o:HO}(h:b≠a):upd H a o b=H b:=by unfold upd;rw[V3 h]
theorem qlY{H:Hp}{a b:Addr}{o u:HO}(h:H a=some o)(h':H b=some u)(d:o≠u):a≠b:=by
 intro e;subst e;rw[h] at h';exact d (Option.some.inj h')
theorem qZ{H:Hp}{a b:Addr}{o:HO}(h:H a=some o)(h':H b=none):a≠b:=by
 intro e;subst e;rw[h] at h';cases h'
section
variable (P:Program)(w:World)
def zG(H:Hp)(h:Heap)(a:Addr):HO->Prop
 | .lst xs=>xs.length<=sizeLine/\∃(its:List Value)(n:Nat),qK xs its/\h.get? a=some { cls:=.type "list",data:=.seq its.toArray n }
 |.tup xs=>xs.length<=sizeLine/\∃ its:List Value,qK xs its/\IsTup h a its.toArray
 |.dK kvs=>kvs.length<=sizeLine/\(a == sysModules)=false/\∃ vs,KV kvs vs/\h.DictOf (qw P w) a vs
 | .dT kvs=>kvs.length<=sizeLine/\(a == sysModules)=false/\∃ xs:List (List Key×Addr×Value),
   Paired (λ(p:List Key×V)(q:List Key×Addr×Value)=>p.1=q.1/\H q.2.1=some (.tup (p.1.map kV))/\qT p.2 q.2.2) kvs xs /\
   ∃ o es ep,h.get? a=some o/\o.ExactDict/\o.data=.dict es ep/\es.toList=xs.map (entryOfKey (tupleKind (qw P w)))/\(xs.map (·.1)).Nodup
 |.set S n=>h.SetOf (intKind P w) a S n
 | .ins C dx fs=>H dx=some (.own a)/\fs.length<=1000/\dx≠a/\h.get? a=some (W.instObj C dx) /\
   ∃ mA,h.Ns1 dx mA/\(∀ f,vz (fs.lookup f) (mA f))/\PySem.Within mA (fs.map (·.1))
 |.own _=>∃ o,h.get? a=some o
 |.xd fs=>∃ mA,h.Ns1 a mA/\∀ f,vz (fs.lookup f) (mA f)
 | .rng lo hi=>∃ t u v,h.get? a=some { cls:=.type "range",data:=.fields #[.int lo t,.int hi u,.int 1 v] }
 |.frz o u=>h.get? a=some o/\zG H h a u
 |.tbl ps=>h.get? a=some { cls:=.none,data:=.fields ps }
 |.met f x=>h.get? a=some (W.methodObj (.ref f) (.ref x))
 |.ext φ=>φ h/\(∃ o,h.get? a=some o)/\∀ h1 h2:Heap,φ h1->(∀ o,h1.get? a=some o->h2.get? a=some o)->φ h2
def HOk(H:Hp)(h:Heap):Prop:=∀ a o,H a=some o->zG P w H h a o
end
section
variable {P:Program}{w:World}{H H':Hp}{h h':Heap}{a:Addr}{o:HO}
theorem zG.lt(x:zG P w H h a o):a<h.objs.size:=by
 cases o with
 |lst xs=>obtain⟨_,_,_,_,e⟩:=x;exact Qv e
 |tup xs=>obtain⟨_,_,_,p⟩:=x;exact p.lt
 |dK kvs=>obtain⟨_,_,_,_,o,_,_,e,_⟩:=x;exact Qv e
 |dT kvs=>obtain⟨_,_,_,_,o,_,_,e,_⟩:=x;exact Qv e
 |set S n=>obtain⟨o,_,_,_,e,_⟩:=x;exact Qv e
 |ins C dx fs=>obtain⟨_,_,_,e,_⟩:=x;exact Qv e
 |own y=>obtain⟨_,e⟩:=x;exact Qv e
 |xd fs=>obtain⟨_,⟨_,_,_,e,_⟩,_⟩:=x;exact Qv e
 |rng lo hi=>obtain⟨_,_,_,e⟩:=x;exact Qv e
 |frz ob u=>obtain⟨e,_⟩:=x;exact Qv e
 |tbl ps=>exact Qv (show h.get? a=some _ from x)
 |met f y=>exact Qv (show h.get? a=some _ from x)
 |ext φ=>obtain⟨_,⟨_,e⟩,_⟩:=x;exact Qv e
theorem Paired.mapP{α β:Type}{F G:α->β->Prop}:∀{l₁:List α}{l₂:List β},Paired F l₁ l₂->(∀ a b,F a b->G a b)->Paired G l₁ l₂
 |_,_,.nil,_=>.nil
 |_,_,.cons r t,f=>.cons (f _ _ r) (Paired.mapP t f)
theorem zG.stay(x:zG P w H h a o)(k:∀ b u,(b=a∨H b=some (.own a))->h.get? b=some u->h'.get? b=some u)(ho:∀ b,H b=some (.own a)->H' b=some (.own a))(ht:∀ b xs,H b=some (.tup xs)->H' b=some (.tup xs)):zG P w H' h' a o:=by
 induction o with
 |lst xs=>obtain⟨z,its,n,r,e⟩:=x;exact⟨z,its,n,r,k _ _ (.inl rfl) e⟩
 |tup xs=>obtain⟨z,its,r,ob,e,c⟩:=x;exact⟨z,its,r,ob,k _ _ (.inl rfl) e,c⟩
 |dK kvs=>obtain⟨z,y,vs,r,ob,es,ep,e,c⟩:=x;exact⟨z,y,vs,r,ob,es,ep,k _ _ (.inl rfl) e,c⟩
 |dT kvs =>
  obtain⟨z,y,xs,r,ob,es,ep,e,c⟩:=x;exact⟨z,y,xs,Paired.mapP r λ p q z=>⟨z.1,ht _ _ z.2.1,z.2.2⟩,ob,es,ep,k _ _ (.inl rfl) e,c⟩
 |set S n=>obtain⟨ob,es,ep,t,e,c⟩:=x;exact⟨ob,es,ep,t,k _ _ (.inl rfl) e,c⟩
 |ins C dx fs =>
  obtain⟨d,z,ne,e,mA,⟨od,es,ep,e2,c⟩,r⟩:=x;exact⟨ho _ d,z,ne,k _ _ (.inl rfl) e,mA,⟨od,es,ep,k _ _ (.inr d) e2,c⟩,r⟩
 |own y=>obtain⟨ob,e⟩:=x;exact⟨ob,k _ _ (.inl rfl) e⟩
 |xd fs=>obtain⟨mA,⟨od,es,ep,e,c⟩,r⟩:=x;exact⟨mA,⟨od,es,ep,k _ _ (.inl rfl) e,c⟩,r⟩
 |rng lo hi=>obtain⟨t,u,v,e⟩:=x;exact⟨t,u,v,k _ _ (.inl rfl) e⟩
 |frz ob u ih=>obtain⟨e,q⟩:=x;exact⟨k _ _ (.inl rfl) e,ih q⟩
 |tbl ps =>
  have e:h.get? a=some { cls:=.none,data:=.fields ps }:=x;show h'.get? a=some { cls:=.none,data:=.fields ps }
  exact k a _ (.inl rfl) e
 |met f y =>
  have e:h.get? a=some (W.methodObj (.ref f) (.ref y)):=x;show h'.get? a=some (W.methodObj (.ref f) (.ref y))
  exact k a _ (.inl rfl) e
 |ext φ=>obtain⟨p,⟨o,e⟩,st⟩:=x;exact⟨st _ _ p λ o q=>k _ _ (.inl rfl) q,⟨o,k _ _ (.inl rfl) e⟩,st⟩
theorem HOk.lt(x:HOk P w H h)(e:H a=some o):a<h.objs.size:=(x a o e).lt
theorem HOk.fresh(x:HOk P w H h)(e:h.objs.size<=a):H a=none:=by
 cases q:H a with
 |none=>rfl
 |some u=>exact absurd (Ze (x.lt q) e) (Qg _)
theorem HOk.kept(x:HOk P w H h)(k:∀ b u,h.get? b=some u->h'.get? b=some u):HOk P w H h':=λ a o e =>
 (x a o e).stay (λ b u _ q=>k b u q) (λ _ q=>q) λ _ _ q=>q
theorem HOk.laid(x:HOk P w H h)(k:∀ b u,h.get? b=some u->h'.get? b=some u)(hp:h.objs.size<=a)(new:zG P w (upd H a o) h' a o):HOk P w (upd H a o) h':=λ b u e=>by
 have hn:=x.fresh hp;by_cases hb:b=a
 ·subst hb;rw[qc] at e;cases e;exact new
 ·rw[qv hb] at e;exact(x b u e).stay (λ c v _ q=>k c v q) (λ c q=>by rw[qv (qZ q hn)];exact q) λ c xs q=>by rw[qv (qZ q hn)];exact q
end
def Rd(H:Hp)(a:Addr)(u:HO):Prop:=H a=some u∨∃ o,H a=some (.frz o u)
theorem Rd.of{H:Hp}{a:Addr}{u:HO}(h:H a=some u):Rd H a u:=.inl h
theorem Rd.ok{P:Program}{w:World}{H:Hp}{h:Heap}{a:Addr}{u:HO}(r:Rd H a u)(x:HOk P w H h):zG P w H h a u:=by
 rcases r with r|⟨o,r⟩
 ·exact x a u r
 ·obtain⟨_,q⟩:=x a _ r;exact q
def Mut:Option HO->Prop
 |some (.lst _)=>True
 |some (.dK _)=>True
 |some (.dT _)=>True
 |some (.set _ _)=>True
 |some (.ins _ _ _)=>True
 |some (.ext _)=>True
 |_=>False
section
variable {P:Program}{w:World}{H:Hp}{h h':Heap}{x e:Addr}{o':HO}
theorem HOk.write(ok:HOk P w H h)(mu:Mut (H x))(he:e=x∨H e=some (.own x))(k:∀ b u,b≠e->h.get? b=some u->h'.get? b=some u)(cG:∃ u,h'.get? e=some u)(new:zG P w (upd H x o') h' x o'):HOk P w (upd H x o') h':=λ b u q=>by
 have nJ:∀ c y,H c=some (.own y)->c≠x:=λ c y r z=>by subst z;rw[r] at mu;exact mu
 have wP:∀ c xs,H c=some (.tup xs)->c≠x:=λ c xs r z=>by subst z;rw[r] at mu;exact mu
 by_cases hb:b=x
 ·subst hb;rw[qc] at q;cases q;exact new
 ·rw[qv hb] at q;by_cases hbe:b=e
  ·have q':H b=some (.own x):=by
    rcases he with z|z
    ·exact absurd (hbe.trans z) hb
    ·rw[hbe];exact z
   rw[q] at q';cases q';obtain⟨v,hv⟩:=cG;exact⟨v,by rw[hbe];exact hv⟩
  ·refine(ok b u q).stay (λ c v hc r=>k c v ?_ r) (λ c r=>by rw[qv (nJ c b r)];exact r) λ c xs r=>by rw[qv (wP c xs r)];exact r
   rcases hc with rfl|hc
   ·exact hbe
   ·rintro rfl;rcases he with z | z
    ·exact nJ c b hc z
    ·rw[hc] at z;cases z;exact hb rfl
end
structure Un(fs ex:List Addr)(H H':Hp)(h h':Heap):Prop where
 keep:∀ b o,h.get? b=some o->H b=none->b∉fs->b∉ex->h'.get? b=some o
 slot:∀ b o,h.get? b=some o->H b=none->b∈fs->b∉ex->∃ sl,h'.get? b=some { o with slots:=sl }
 free:∀ b o,h.get? b=some o->H b=none->b∉ex->H' b=none
 there:∀ b o,h.get? b=some o->b∉ex->∃ o',h'.get? b=some o'
 tups:∀ b xs,H b=some (.tup xs)->H' b=some (.tup xs)
 frzs:∀ b o u,H b=some (.frz o u)->H' b=some (.frz o u)
 tbls:∀ b ps,H b=some (.tbl ps)->∃ more,H' b=some (.tbl (ps++more))
section
variable {fs T4 ex ex':List Addr}{H H1 H2:Hp}{h h1 h2 h':Heap}{a x e:Addr}{o:HO}
theorem Un.any(u:Un fs ex H H1 h h1){b:Addr}{ob:Obj}(q:h.get? b=some ob)(n:H b=none)(hx:b∉ex):∃ sl,h1.get? b=some { ob with slots:=sl }:=by
 by_cases hb:b∈fs
 ·exact u.slot b ob q n hb hx
 ·exact⟨ob.slots,u.keep b ob q n hb hx⟩
theorem Un.kept(k:∀ b u,h.get? b=some u->h'.get? b=some u):Un fs ex H H h h':=
 ⟨λ b ob q _ _ _=>k b ob q,λ b ob q _ _ _=>⟨ob.slots,k b ob q⟩,λ _ _ _ n _=>n,λ b ob q _=>⟨ob,k b ob q⟩,λ _ _ q=>q,λ _ _ _ q=>q,λ _ ps q=>⟨#[],by rw[q];simp⟩⟩
theorem Un.refl:Un fs ex H H h h:=Un.kept λ _ _ q=>q
theorem Un.laid(k:∀ b u,h.get? b=some u->h'.get? b=some u)(hp:h.objs.size<=a)(hn:H a=none):Un fs ex H (upd H a o) h h' where
 keep:=λ b u q _ _ _=>k b u q
 slot:=λ b u q _ _ _=>⟨u.slots,k b u q⟩
 free:=λ b u q n _=>by rw[qv (Qw (Ze (Qv q) hp))];exact n
 there:=λ b u q _=>⟨u,k b u q⟩
 tups:=λ b xs q=>by rw[qv (qZ q hn)];exact q
 frzs:=λ b u xs q=>by rw[qv (qZ q hn)];exact q
 tbls:=λ b ps q=>⟨#[],by rw[qv (qZ q hn),q];simp⟩
theorem Un.write(mu:Mut (H x))(he:e=x∨H e=some (.own x))(k:∀ b u,b≠e->h.get? b=some u->h'.get? b=some u)(cG:∃ u,h'.get? e=some u):Un fs ex H (upd H x o) h h':=by
 have hx:∀ b,H b=none->b≠x:=λ b n z=>by subst z;rw[n] at mu;exact mu
 have hb:∀ b,H b=none->b≠e:=λ b n z=>by
  subst z;rcases he with r|r
  ·exact hx b n r
  ·rw[n] at r;cases r
 have hm:∀ b u,H b=some u->¬ Mut (some u)->b≠x:=λ b u q nm z=>by subst z;rw[q] at mu;exact nm mu
 refine⟨λ b u q n _ _=>k b u (hb b n) q,λ b u q n _ _=>⟨u.slots,k b u (hb b n) q⟩,λ b u q n _=>by rw[qv (hx b n)];exact n,λ b u q _=>?_,
  λ b xs q=>by rw[qv (hm b _ q λ z=>z)];exact q,λ b u xs q=>by rw[qv (hm b _ q λ z=>z)];exact q,λ b ps q=>⟨#[],by rw[qv (hm b _ q λ z=>z),q];simp⟩⟩
 by_cases hbe:b=e
 ·subst hbe;exact cG
 ·exact⟨u,k b u hbe q⟩
end
noncomputable def trk(h:Heap)(H:Hp):List Addr:=(List.range h.objs.size).filter λ a=>(H a).isSome
noncomputable def qec(h:Heap)(H:Hp):Heap:=W.hideAll h (trk h H)
theorem qh2(h:Heap)(H:Hp):(qec h H).objs.size=h.objs.size:=W.hideAll_size _ _
theorem qi6{h:Heap}{H:Hp}{b:Addr}{o:Obj}(e:h.get? b=some o)(n:H b=none):(qec h H).get? b=some o:=
 W.hideAll_get _ e λ hm=>by
  have q:(H b).isSome=true:=(U4.mp hm).2;rw[n] at q;simp at q
theorem qkX{h:Heap}{H:Hp}{b:Addr}{o:Obj}(e:(qec h H).get? b=some o):h.get? b=some o/\H b=none:=by
 have e':h.get? b=some o:=W.of_hideAll (trk h H) e;refine⟨e',?_⟩;cases q:H b with
 |none=>rfl
 |some x =>
  have hm:b∈trk h H:=U4.mpr ⟨Jx.mpr (Qv e'),by simp[q]⟩;have z:(qec h H).get? b=none:=W.hideAll_none (trk h H) hm;rw[z] at e;cases e
noncomputable def qkY(g h:Heap)(L:Addr):List (Addr×Obj):=(List.range h.objs.size).filterMap λ a=>if a=L∨(g.get? a).isSome=true then none else(h.get? a).map λ o=>(a,o)
noncomputable def rest(g h:Heap)(L d:Addr):List (Addr×Obj):=(qkY g h L).filter λ p=>decide (p.1≠d)
structure Mod(K:W.Frag)(mg:Str->Option Value)(base:Heap):Prop where
 kin:K.In base
 glob:base.Ns mainGlobals mg
 blt:∃ mb,base.Ns builtinsNs mb/\∀ x:Str,x≠"__name__"->mb x=bootBuiltins x
 nolimit:base.NoLimit
structure Cx where 
 prog:Program
 w:World
 K:W.Frag
 mg:Str->Option Value
 base:Heap
 A:Around
 N:List Str
 s₀:Shared
 H₀:Hp
 env:Env
 outer:List Env
 stack:List Env
 ex:List Addr
 fn:Str->Bool
 calm:Bool
 pn:List (Addr×Obj)
 xe:Value->Shared->Prop
noncomputable def frs(l:List Env):List Addr:=l.filterMap (·.frame)
noncomputable abbrev Cx.fs(X:Cx):List Addr:=frs X.outer
def Vis(sc:Scope)(x:Str):Prop:=sc.names.lookup x=some .local∨sc.names.lookup x=some .cell∨sc.names.lookup x=some .free
def Loc(sc:Scope)(x:Str):Prop:=sc.names.lookup x=some .local∨sc.names.lookup x=some .cell
def qog(env:Env)(h:Heap)(m:Str->Option Value)(x:Str)(u:Value):Prop:=
 (env.kindOf x=some .local/\m x=some u)∨((env.kindOf x=some .cell∨env.kindOf x=some .free)/\∃ c,env.cells.lookup x=some c/\h.IsCell c (some u))
structure Cx.Ok(X:Cx):Prop where
 mod:Mod X.K X.mg X.base
 kind:X.env.scope.kind=.function
 glob:X.env.globals=mainGlobals
 blt:X.env.builtins=builtinsNs
 above:X.s₀.heap.objs.size<=X.env.locals
 inj:∀ x y c,X.env.cells.lookup x=some c->X.env.cells.lookup y=some c->x=y
 has:∀ x,(X.env.kindOf x=some .cell∨X.env.kindOf x=some .free)->∃ c,X.env.cells.lookup x=some c
 cab:∀ x c,X.fn x=true->X.env.cells.lookup x=some c->X.s₀.heap.objs.size<=c
 hd:X.calm=true->X.A.handled=none
 frames:X.A.frames=some X.stack
 stk:X.stack=X.outer∨(X.stack=X.env::X.outer/\X.env.frame=some X.env.locals)
 exf:∀ b∈X.ex,b≠X.env.locals/\∀ x c,X.env.cells.lookup x=some c->c≠b
 bs:∀ b o,X.base.get? b=some o->X.s₀.heap.get? b=some o/\X.H₀ b=none
 bsz:X.base.objs.size<=X.s₀.heap.objs.size
 noex:∀ b o,X.base.get? b=some o->b∉X.ex
 exfs:∀ b∈X.ex,b∉X.fs
 funs:X.s₀.heap.FunFrames X.base X.outer
 frf:∀ b∈X.fs,X.H₀ b=none
structure Inv(X:Cx)(pins:List (Addr×Obj))(σ:List (Option V))(H:Hp)(s:Shared):Prop where
 ok:X.Ok
 os:s.os=X.s₀.os
 bare:AllBare s.gens
 base:Un X.fs X.ex X.H₀ H X.s₀.heap s.heap
 loc:∃ m,s.heap.Ns X.env.locals m/\∀(i:Nat)(x:Str)(v:V),X.N[i]?=some x->σ[i]?=some (some v)->Vis X.env.scope x->∃ u,qT v u/\qog X.env s.heap m x u
 cell:∀ x c,X.env.cells.lookup x=some c->∃ v,s.heap.IsCell c v
 free:H X.env.locals=none
 freeC:∀ x c,X.env.cells.lookup x=some c->H c=none
 pin:∀ p∈X.pn++pins,s.heap.get? p.1=some p.2/\H p.1=none/\p.1≠X.env.locals/\p.1∉X.fs/\∀ v,p.2.data≠.cell v
 hok:HOk X.prog X.w H s.heap
 len:σ.length=X.N.length
section
variable {X:Cx}{pins:List (Addr×Obj)}{σ:List (Option V)}{H H':Hp}{s:Shared}{h':Heap}
theorem Cx.Ok.nofr(ok:X.Ok){b:Addr}{o:Obj}(e:X.base.get? b=some o):b∉X.fs:=λ hb=>by
 have:=(ok.funs.mem hb).1
 rw[e] at this;cases this
theorem Inv.bs(I:Inv X pins σ H s):∀ b o,X.base.get? b=some o->s.heap.get? b=some o/\H b=none:=λ b o e =>
 ⟨I.base.keep b o (I.ok.bs b o e).1 (I.ok.bs b o e).2 (I.ok.nofr e) (I.ok.noex b o e),I.base.free b o (I.ok.bs b o e).1 (I.ok.bs b o e).2 (I.ok.noex b o e)⟩
theorem Inv.bk(I:Inv X pins σ H s):∀ b o,X.base.get? b=some o->s.heap.get? b=some o:=λ b o e=>(I.bs b o e).1
theorem Inv.mod(I:Inv X pins σ H s):Mod X.K X.mg X.base:=I.ok.mod
theorem Inv.kIn(I:Inv X pins σ H s):X.K.In s.heap:=I.ok.mod.kin.keeps I.bk
theorem Inv.fr(I:Inv X pins σ H s):∃ m,Fr X.base X.env.locals s.heap m:=
 let ⟨m,hn,_⟩:=I.loc
 ⟨m,hn,I.bk,Qx I.ok.bsz I.ok.above⟩
theorem Inv.lt(I:Inv X pins σ H s):X.env.locals<s.heap.objs.size:=let ⟨_,hn,_⟩:=I.loc;hn.lt
theorem Inv.sz(I:Inv X pins σ H s):X.s₀.heap.objs.size<=s.heap.objs.size:=Qx I.ok.above (Qy I.lt)
theorem Inv.nofs(I:Inv X pins σ H s){a:Addr}(h:s.heap.objs.size<=a):a∉X.fs:=λ hb=>by
 obtain⟨_,o,ho,_⟩:=I.ok.funs.mem hb;exact absurd (Ze (Qv ho) (Qx I.sz h)) (Qg _)
theorem Inv.cne(I:Inv X pins σ H s):∀ x c,X.env.cells.lookup x=some c->c≠X.env.locals:=λ x c e z=>by
 obtain⟨v,o,ho,hd⟩:=I.cell x c e;obtain⟨m,⟨o',es,ep,dU,pI,_⟩,_⟩:=I.loc;rw[z,dU] at ho;cases ho;rw[pI] at hd;cases hd
theorem Inv.funs(I:Inv X pins σ H s):s.heap.FunFrames X.base X.outer:=by
 have all:∀(l:List Env),(∀ b∈frs l,b∈X.fs)->X.s₀.heap.FunFrames X.base l->s.heap.FunFrames X.base l:=by
  intro l;induction l with
  |nil=>intro _ _;trivial
  |cons env r ih =>
   intro hs hl;obtain⟨hk,⟨L,o,hf,hn,ho,hd⟩,hr⟩:=hl;have hL:L∈X.fs:=hs L (by unfold frs;rw[Yx,hf];exact Zf);obtain⟨sl,e⟩:=I.base.slot L o ho (I.ok.frf L hL) hL λ z=>I.ok.exfs L z hL
   exact⟨hk,⟨L,_,hf,hn,e,hd⟩,ih (λ b hb=>hs b (by unfold frs;rw[Yx,hf];exact Yl _ hb)) hr⟩
 exact all X.outer (λ _ hb=>hb) I.ok.funs
theorem Inv.stack(I:Inv X pins σ H s):s.heap.FunFrames X.base X.stack:=by
 rcases I.ok.stk with e|⟨e,hf⟩
 ·rw[e];exact I.funs
 ·rw[e];obtain⟨m,hn,_⟩:=I.loc;refine .cons (by rw[I.ok.kind];decide) hf hn ?_ I.funs;exact Heap.get?_none_of_le (Qx I.ok.bsz I.ok.above)
theorem Inv.stkSub(I:Inv X pins σ H s):∀ b∈frs X.stack,b∈X.env.locals::X.fs:=λ b hb=>by
 rcases I.ok.stk with e|⟨e,hf⟩
 ·rw[e] at hb;exact Yl _ hb
 ·rw[e] at hb;unfold frs at hb;rw[Yx,hf] at hb;exact hb
theorem Inv.stkFree(I:Inv X pins σ H s):∀ b∈frs X.stack,H b=none:=λ b hb=>by
 rcases Qh.mp (I.stkSub b hb) with e|hb
 ·rw[e];exact I.free
 ·obtain⟨_,o,ho,_⟩:=I.ok.funs.mem hb;exact I.base.free b o ho (I.ok.frf b hb) λ z=>I.ok.exfs b z hb
theorem Inv.step{g':Array GenState}{t':Nat}{d':Drawn}{ch:List Addr}(I:Inv X pins σ H s)(cH:∀ b∈ch,(b∈X.ex∨X.s₀.heap.objs.size<=b)/\b≠X.env.locals/\(∀ x c,X.env.cells.lookup x=some c->c≠b)/\∀ p∈X.pn++pins,p.1≠b)(keep:∀ b o,b≠X.env.locals->b∉X.fs->b∉ch->s.heap.get? b=some o->H b=none->h'.get? b=some o)(slot:∀ b o,b≠X.env.locals->b∈X.fs->b∉ch->s.heap.get? b=some o->H b=none->∃ sl,h'.get? b=some { o with slots:=sl })(free:∀ b o,b∉ch->s.heap.get? b=some o->H b=none->H' b=none)(there:∀ b o,b∉ch->s.heap.get? b=some o->∃ o',h'.get? b=some o')(tups:∀ b xs,H b=some (.tup xs)->H' b=some (.tup xs))(frzs:∀ b o u,H b=some (.frz o u)->H' b=some (.frz o u))(tbls:∀ b ps,H b=some (.tbl ps)->∃ more,H' b=some (.tbl (ps++more)))(ns:∀ m,s.heap.Ns X.env.locals m->h'.Ns X.env.locals m)(hok:HOk X.prog X.w H' h')(hg:AllBare g'):
  Inv X pins σ H' { s with heap:=h',gens:=g',drawn:=d',toks:=t' }:=by
 have neL:∀ b o,X.s₀.heap.get? b=some o->b≠X.env.locals:=λ b o e=>Qw (Ze (Qv e) I.ok.above)
 have sU:∀ b o,X.s₀.heap.get? b=some o->b∉X.ex->b∉ch:=λ b o e hx hb=>by
  rcases(cH b hb).1 with z|z
  ·exact hx z
  ·exact absurd (Ze (Qv e) z) (Qg _)
 have gJ:∀ x c,X.env.cells.lookup x=some c->∀ v,s.heap.IsCell c v->h'.IsCell c v:=λ x c e v ⟨o,ho,hd⟩=>by
  have nL:c∉ch:=λ z=>(cH c z).2.2.1 x c e rfl
  by_cases hc:c∈X.fs
  ·obtain⟨sl,q⟩:=slot c o (I.cne x c e) hc nL ho (I.freeC x c e);exact⟨_,q,hd⟩
  ·exact⟨o,keep c o (I.cne x c e) hc nL ho (I.freeC x c e),hd⟩
 refine⟨I.ok,I.os,hg,⟨λ b o e n hb hx=>?_,λ b o e n hb hx=>?_,λ b o e n hx=>?_,λ b o e hx=>?_,λ b xs e=>tups b xs (I.base.tups b xs e),λ b o xs e=>frzs b o xs (I.base.frzs b o xs e),λ b ps e=>?_⟩,?_,λ x c e=>?_,?_,λ x c e=>?_,λ p hp=>?_,hok,I.len⟩
 ·exact keep b o (neL b o e) hb (sU b o e hx) (I.base.keep b o e n hb hx) (I.base.free b o e n hx)
 ·obtain⟨sl,e1⟩:=I.base.slot b o e n hb hx;obtain⟨sl',e2⟩:=slot b _ (neL b o e) hb (sU b o e hx) e1 (I.base.free b o e n hx);exact⟨sl',e2⟩
 ·obtain⟨o',e1⟩:=I.base.there b o e hx;exact free b o' (sU b o e hx) e1 (I.base.free b o e n hx)
 ·obtain⟨o',e1⟩:=I.base.there b o e hx;exact there b o' (sU b o e hx) e1
 ·obtain⟨m1,e1⟩:=I.base.tbls b ps e;obtain⟨m2,e2⟩:=tbls b _ e1;exact⟨m1++m2,by rw[e2,Array.append_assoc]⟩
 ·obtain⟨m,hn,hl⟩:=I.loc;refine⟨m,ns m hn,λ i x v e1 e2 e3=>?_⟩;obtain⟨u,r,l⟩:=hl i x v e1 e2 e3;refine⟨u,r,?_⟩;rcases l with l | ⟨k,c,e,z⟩
  ·exact .inl l
  ·exact .inr ⟨k,c,e,gJ x c e _ z⟩
 ·obtain⟨v,z⟩:=I.cell x c e;exact⟨v,gJ x c e v z⟩
 ·obtain⟨m,⟨o,_,_,ho,_⟩,_⟩:=I.loc;exact free _ o (λ z=>(cH _ z).2.1 rfl) ho I.free
 ·obtain⟨v,o,ho,hd⟩:=I.cell x c e;exact free c o (λ z=>(cH c z).2.2.1 x c e rfl) ho (I.freeC x c e)
 ·obtain⟨e,n,ne,nf,d⟩:=I.pin p hp;have nL:p.1∉ch:=λ z=>(cH p.1 z).2.2.2 p hp rfl
  exact⟨keep p.1 p.2 ne nf nL e n,free p.1 p.2 nL e n,ne,nf,d⟩
theorem Inv.un{t':Nat}(I:Inv X pins σ H s)(u:Un X.fs [] H H' s.heap h')(hok:HOk X.prog X.w H' h'):Inv X pins σ H' { s with heap:=h',toks:=t' }:=by
 obtain⟨m,⟨o,es,ep,ho,r⟩,_⟩:=id I.loc;obtain⟨sl,hL⟩:=u.any ho I.free (by simp);exact I.step (g':=s.gens) (d':=s.drawn) (ch:=[]) (λ _ z=>nomatch z) (λ b o _ hb _ e n=>u.keep b o e n hb (by simp)) (λ b o _ hb _ e n=>u.slot b o e n hb (by simp)) (λ b o _ e n=>u.free b o e n (by simp)) (λ b o _ e=>u.there b o e (by simp)) u.tups u.frzs u.tbls (λ m' hm=>by
  obtain⟨o',r9,ep',dU,r'⟩:=hm;rw[ho] at dU;cases dU;exact⟨_,r9,ep',hL,r'⟩) hok I.bare
theorem Inv.call{g':Array GenState}{t':Nat}{d':Drawn}{ch:List Addr}(I:Inv X pins σ H s)(u:Un (frs X.stack) ch H H' s.heap h')(hok:HOk X.prog X.w H' h')(hg:AllBare g')(cH:∀ b∈ch,(b∈X.ex∨X.s₀.heap.objs.size<=b)/\b≠X.env.locals/\(∀ x c,X.env.cells.lookup x=some c->c≠b)/\∀ p∈X.pn++pins,p.1≠b):
  Inv X pins σ H' { s with heap:=h',gens:=g',drawn:=d',toks:=t' }:=by
 obtain⟨m,⟨o,es,ep,ho,r⟩,_⟩:=id I.loc;obtain⟨sl,hL⟩:=u.any ho I.free λ z=>(cH _ z).2.1 rfl
 exact I.step (ch:=ch) cH (λ b o hL hb hc e n=>u.keep b o e n (λ z=>(Qh.mp (I.stkSub b z)).elim hL hb) hc) (λ b o _ _ hc e n=>u.any e n hc) (λ b o hc e n=>u.free b o e n hc) (λ b o hc e=>u.there b o e hc) u.tups u.frzs u.tbls (λ m' hm=>by
  obtain⟨o',r9,ep',dU,r'⟩:=hm;rw[ho] at dU;cases dU;exact⟨_,r9,ep',hL,r'⟩) hok hg
theorem Inv.turned{t':Nat}{it:Addr}(I:Inv X pins σ H s)(k:∀ b o,b≠it->s.heap.get? b=some o->h'.get? b=some o)(hn:H it=none)(hL:it≠X.env.locals)(h1:it∈X.ex∨X.s₀.heap.objs.size<=it)(h2:∀ x c,X.env.cells.lookup x=some c->c≠it)(h3:∀ p∈X.pn++pins,p.1≠it):Inv X pins σ H { s with heap:=h',toks:=t' }:=by
 have nit:∀ b u,H b=some u->b≠it:=λ b u e z=>by rw[z,hn] at e;cases e
 refine I.step (g':=s.gens) (d':=s.drawn) (ch:=[it]) (λ b hb=>?_) (λ b o _ _ hc e _=>k b o (λ z=>hc (by simp[z])) e) (λ b o _ _ hc e _=>⟨o.slots,k b o (λ z=>hc (by simp[z])) e⟩) (λ _ _ _ _ n=>n)
  (λ b o hc e=>⟨o,k b o (λ z=>hc (by simp[z])) e⟩) (λ _ _ e=>e) (λ _ _ _ e=>e) (λ b ps e=>⟨#[],by rw[e];simp⟩) (λ m hm=>?_) (λ b u e=>?_) I.bare
 ·have e:b=it:=by simpa using hb
  subst e;exact⟨h1,hL,h2,h3⟩
 ·obtain⟨o,es,ep,ho,r⟩:=hm;exact⟨o,es,ep,k _ o (Vx hL) ho,r⟩
 ·refine(I.hok b u e).stay (λ c v hc q=>k c v ?_ q) (λ _ q=>q) λ _ _ q=>q
  rcases hc with z|z
  ·rw[z];exact nit b u e
  ·exact nit c _ z
theorem Inv.tok(I:Inv X pins σ H s)(t:Nat):Inv X pins σ H { s with toks:=t }:=I.un (h':=s.heap) (t':=t) Un.refl I.hok
theorem Inv.kept{t':Nat}(I:Inv X pins σ H s)(k:∀ b u,s.heap.get? b=some u->h'.get? b=some u):Inv X pins σ H { s with heap:=h',toks:=t' }:=I.un (Un.kept k) (I.hok.kept k)
theorem Inv.laid{a:Addr}{o:HO}{t':Nat}(I:Inv X pins σ H s)(k:∀ b u,s.heap.get? b=some u->h'.get? b=some u)(hp:s.heap.objs.size<=a)(new:zG X.prog X.w (upd H a o) h' a o):
  Inv X pins σ (upd H a o) { s with heap:=h',toks:=t' }:=I.un (Un.laid k hp (I.hok.fresh hp)) (I.hok.laid k hp new)
theorem Inv.write{x e:Addr}{o:HO}{t':Nat}(I:Inv X pins σ H s)(mu:Mut (H x))(he:e=x∨H e=some (.own x))(k:∀ b u,b≠e->s.heap.get? b=some u->h'.get? b=some u)(cG:∃ u,h'.get? e=some u)(new:zG X.prog X.w (upd H x o) h' x o):Inv X pins σ (upd H x o) { s with heap:=h',toks:=t' }:=I.un (Un.write mu he k cG) (I.hok.write mu he k cG new)
theorem Inv.weak{σ':List (Option V)}(I:Inv X pins σ H s)(hl:σ'.length=σ.length)(w:∀(i:Nat) v,σ'[i]?=some (some v)->σ[i]?=some (some v)):Inv X pins σ' H s:=
 ⟨I.ok,I.os,I.bare,I.base,let ⟨m,hn,S9⟩:=I.loc;⟨m,hn,λ i x v e1 e2 e3=>S9 i x v e1 (w i v e2) e3⟩,I.cell,I.free,I.freeC,I.pin,I.hok,hl.trans I.len⟩
theorem Inv.pins_of{fC:List (Addr×Obj)}(I:Inv X pins σ H s)(h:∀ p∈fC,s.heap.get? p.1=some p.2/\H p.1=none/\p.1≠X.env.locals/\p.1∉X.fs/\∀ v,p.2.data≠.cell v):Inv X fC σ H s:=
 ⟨I.ok,I.os,I.bare,I.base,I.loc,I.cell,I.free,I.freeC,λ p hp=>(U5.mp hp).elim (λ z=>I.pin p (Ym _ z)) (h p),I.hok,I.len⟩
theorem qeY{N:List Str}(hN:N.Nodup){i j:Nat}{x:Str}(a:N[i]?=some x)(b:N[j]?=some x):i=j:=by
 obtain⟨h1,e1⟩:=Xq.mp a;obtain⟨h2,e2⟩:=Xq.mp b;exact(List.getElem_inj hN).mp (e1.trans e2.symm)
theorem qdr{M:Model}{A:Around}{E:Value->Shared->Prop}{i:Nat}{x:Str}{v:V}{u:Value}{Q:Unit->Shared->Prop}(I:Inv X pins σ H s)(hN:X.N.Nodup)(hi:X.N[i]?=some x)(hx:Loc X.env.scope x)(r:qT v u)(h:∀ s',Inv X pins (σ.set i (some v)) H s'->(∃ a,Heap.SameBut a s.heap s'.heap/\(a=X.env.locals∨X.env.cells.lookup x=some a))->Q () s')(hf:X.fn x=true∨X.env.scope.names.lookup x=some .local:=by first|exact .inl rfl|exact .inr rfl|assumption):wpAny M A (storeName X.env x u) Q E s:=by
 obtain⟨m,hn,hl⟩:=id I.loc;have hcls:(X.env.scope.kind == .class || (X.env.scope.kind == .module && X.env.locals != X.env.globals))=false:=by rw[I.ok.kind];rfl
 have hiσ:i < σ.length:=by rw[I.len];exact(Xq.mp hi).1
 have cne:=I.cne;have S1:∀{a:Addr}{h':Heap},(∃ o,s.heap.get? a=some o/\H a=none)->Heap.SameBut a s.heap h'->HOk X.prog X.w H h':=λ{a h'} ha hs b ob e=>by
  obtain⟨_,_,B2⟩:=ha;refine(I.hok b ob e).stay (λ c w' hc q=>(hs.2 c ?_).trans q) (λ _ q=>q) λ _ _ q=>q
  rintro rfl;rcases hc with rfl|hc
  ·rw[B2] at e;cases e
  ·rw[B2] at hc;cases hc
 rcases hx with hk|hk
 ·refine wpAny_storeName_local hk hn (λ h' oU hs=>?_) hcls;obtain⟨oL,_,_,dS,_⟩:=id hn;refine h _ ⟨I.ok,I.os,I.bare,⟨λ b o e n hb hx=>?_,λ b o e n hb hx=>?_,I.base.free,λ b o e hx=>?_,I.base.tups,I.base.frzs,I.base.tbls⟩,⟨_,oU,λ j y v' e1 e2 e3=>?_⟩,λ y c e=>?_,I.free,I.freeC,λ p hp=>?_,S1 ⟨oL,dS,I.free⟩ hs,by simpa using I.len⟩ ⟨_,hs,.inl rfl⟩
  ·exact(hs.2 b (Qw (Ze (Qv e) I.ok.above))).trans (I.base.keep b o e n hb hx)
  ·obtain⟨sl,e1⟩:=I.base.slot b o e n hb hx;exact⟨sl,(hs.2 b (Qw (Ze (Qv e) I.ok.above))).trans e1⟩
  ·obtain⟨o',e1⟩:=I.base.there b o e hx;exact⟨o',(hs.2 b (Qw (Ze (Qv e) I.ok.above))).trans e1⟩
  ·by_cases hj:j=i
   ·subst hj;rw[hi] at e1;cases e1;rw[List.getElem?_set_self hiσ] at e2;cases e2
    exact⟨u,r,.inl ⟨hk,by simp⟩⟩
   ·rw[List.getElem?_set_ne (Vx hj)] at e2;obtain⟨u',r',q⟩:=hl j y v' e1 e2 e3;refine⟨u',r',?_⟩;rcases q with⟨k,e⟩ | ⟨k,c,e,z⟩
    ·refine .inl ⟨k,?_⟩
     have:y≠x:=λ e=>hj (qeY hN e1 (e ▸ hi))
     simp[this,e]
    ·exact .inr ⟨k,c,e,z.sameBut hs (cne y c e)⟩
  ·obtain⟨w',z⟩:=I.cell y c e;exact⟨w',z.sameBut hs (cne y c e)⟩
  ·obtain⟨e,n,ne,nf,d⟩:=I.pin p hp;exact⟨(hs.2 p.1 ne).trans e,n,ne,nf,d⟩
 ·have hfn:X.fn x=true:=by
   rcases hf with z|z
   ·exact z
   ·rw[z] at hk;cases hk
  obtain⟨c,hc⟩:=I.ok.has x (.inl hk);obtain⟨w',z⟩:=I.cell x c hc;refine wpAny_storeName_cell I.ok.kind hk hc z (λ h' N4 hs=>?_);obtain⟨oc,hoc,hocd⟩:=id z;refine h { s with heap:=h' } ⟨I.ok,I.os,I.bare,⟨λ b o e n hb hx=>?_,λ b o e n hb hx=>?_,I.base.free,λ b o e hx=>?_,I.base.tups,I.base.frzs,I.base.tbls⟩,⟨m,hn.sameBut hs (Vx (cne x c hc)),λ j y v' e1 e2 e3=>?_⟩,λ y c' e=>?_,I.free,I.freeC,λ p hp=>?_,S1 ⟨oc,hoc,I.freeC x c hc⟩ hs,by simpa using I.len⟩ ⟨c,hs,.inr hc⟩
  ·exact(hs.2 b (Qw (Ze (Qv e) (I.ok.cab x c hfn hc)))).trans (I.base.keep b o e n hb hx)
  ·obtain⟨sl,e1⟩:=I.base.slot b o e n hb hx;exact⟨sl,(hs.2 b (Qw (Ze (Qv e) (I.ok.cab x c hfn hc)))).trans e1⟩
  ·obtain⟨o',e1⟩:=I.base.there b o e hx;exact⟨o',(hs.2 b (Qw (Ze (Qv e) (I.ok.cab x c hfn hc)))).trans e1⟩
  ·by_cases hj:j=i
   ·subst hj;rw[hi] at e1;cases e1;rw[List.getElem?_set_self hiσ] at e2;cases e2
    exact⟨u,r,.inr ⟨.inl hk,c,hc,N4⟩⟩
   ·rw[List.getElem?_set_ne (Vx hj)] at e2;obtain⟨u',r',q⟩:=hl j y v' e1 e2 e3;refine⟨u',r',?_⟩;rcases q with q | ⟨k,c',e,z'⟩
    ·exact .inl q
    ·refine .inr ⟨k,c',e,z'.sameBut hs ?_⟩;rintro rfl;exact hj (qeY hN e1 (I.ok.inj _ _ _ e hc ▸ hi))
  ·by_cases c9:c'=c
   ·subst c9;exact⟨_,N4⟩
   ·obtain⟨w2,z2⟩:=I.cell y c' e;exact⟨w2,z2.sameBut hs c9⟩
  ·obtain⟨e,n,ne,nf,d⟩:=I.pin p hp;refine⟨(hs.2 p.1 ?_).trans e,n,ne,nf,d⟩;intro q;rw[q,hoc] at e;have q':oc=p.2:=Option.some.inj e;exact d w' (by rw[<- q'];exact hocd)
theorem qaF{M:Model}{A:Around}{E:Value->Shared->Prop}{i:Nat}{x:Str}{v:V}{u:Value}{Q:Unit->Shared->Prop}(I:Inv X pins σ H s)(hN:X.N.Nodup)(hi:X.N[i]?=some x)(hx:Loc X.env.scope x)(r:qT v u)(h:∀ s',Inv X pins (σ.set i (some v)) H s'->Q () s')(hf:X.fn x=true∨X.env.scope.names.lookup x=some .local:=by first | exact .inl rfl | exact .inr rfl | assumption):wpAny M A (storeName X.env x u) Q E s:=
 qdr I hN hi hx r (λ s' I' _=>h s' I') hf
theorem Inv.call'{s':Shared}{ch:List Addr}(I:Inv X pins σ H s)(ho:s'.os=s.os)(u:Un (frs X.stack) ch H H' s.heap s'.heap)(hok:HOk X.prog X.w H' s'.heap)(hg:AllBare s'.gens)(cH:∀ b∈ch,(b∈X.ex∨X.s₀.heap.objs.size<=b)/\b≠X.env.locals/\(∀ x c,X.env.cells.lookup x=some c->c≠b)/\∀ p∈X.pn++pins,p.1≠b):Inv X pins σ H' s':=by
 obtain⟨h',g',d',t',o'⟩:=s';have e:o'=s.os:=ho;subst e;exact I.call (g':=g') (t':=t') (d':=d') u hok hg cH
end
abbrev XK:=Value->Option Addr->Hp->Prop
abbrev St:=List (Option V)
abbrev VK:=V->Hp->Prop
abbrev TE:=St->Hp->VK->Prop
abbrev TT:=St->Hp->(Bool->Hp->Prop)->Prop
abbrev TA:=St->Hp->(List V->Hp->Prop)->Prop
structure Ends where 
 nx:St->Hp->Prop
 rt:VK
 bk:St->Hp->Prop:=λ _ _=>False
 ct:St->Hp->Prop:=λ _ _=>False
abbrev TS:=Ends->St->Hp->Prop
def EP(X:Cx)(pins:List (Addr×Obj))(σ:St)(Q:VK)(u:Value)(s':Shared):Prop:=∃ v H',Inv X pins σ H' s'/\qT v u/\Q v H'
def TP(X:Cx)(pins:List (Addr×Obj))(σ:St)(Q:Bool->Hp->Prop)(b:Bool)(s':Shared):Prop:=∃ H',Inv X pins σ H' s'/\Q b H'
def AP(X:Cx)(pins:List (Addr×Obj))(σ:St)(Q:List V->Hp->Prop)(us:List Value)(s':Shared):Prop:=∃ vs H',Inv X pins σ H' s'/\qK vs us/\Q vs H'
def SP(X:Cx)(pins:List (Addr×Obj))(D:Ends)(f:Flow)(s':Shared):Prop:=
 match f with
 |.next=>∃ σ' H',Inv X pins σ' H' s'/\D.nx σ' H'
 |.brk=>∃ σ' H',Inv X pins σ' H' s'/\D.bk σ' H'
 |.cont=>∃ σ' H',Inv X pins σ' H' s'/\D.ct σ' H'
 |.ret u=>∃ v σ' H',Inv X pins σ' H' s'/\qT v u/\D.rt v H'
def PE(X:Cx)(e:Expr)(t:TE):Prop:=
 ∀(pins:List (Addr×Obj))(s:Shared)(σ:St)(H:Hp)(Q:VK),Inv X pins σ H s->t σ H Q->wpAny (model X.prog X.w) X.A (eval e X.env) (EP X pins σ Q) X.xe s
def PT(X:Cx)(e:Expr)(t:TT):Prop:=
 ∀(pins:List (Addr×Obj))(s:Shared)(σ:St)(H:Hp)(Q:Bool->Hp->Prop),Inv X pins σ H s->t σ H Q->wpAny (model X.prog X.w) X.A (isTrue e X.env (eval e X.env)) (TP X pins σ Q) X.xe s
def PW(X:Cx)(e:Expr)(t:TT):Prop:=
 ∀(S0:Sem Value)(pins:List (Addr×Obj))(s:Shared)(σ:St)(H:Hp)(Q:Bool->Hp->Prop),Inv X pins σ H s->t σ H Q->wpAny (model X.prog X.w) X.A (isTrue e X.env S0) (TP X pins σ Q) X.xe s
theorem PW.pt{X:Cx}{e:Expr}{t:TT}(h:PW X e t):PT X e t:=h _
def PA(X:Cx)(es:List Expr)(t:TA):Prop:=
 ∀(pos:Pos)(pins:List (Addr×Obj))(s:Shared)(σ:St)(H:Hp)(Q:List V->Hp->Prop),Inv X pins σ H s->t σ H Q->wpAny (model X.prog X.w) X.A (spliced (backTo pos (starEach es X.env))) (AP X pins σ Q) X.xe s
def PS(X:Cx)(st:Stmt)(t:TS):Prop:=
 ∀(pins:List (Addr×Obj))(s:Shared)(σ:St)(H:Hp)(D:Ends),Inv X pins σ H s->t D σ H->wpAny (model X.prog X.w) X.A (exec st X.env) (SP X pins D) X.xe s
def PSs(X:Cx)(st:List Stmt)(t:TS):Prop:=
 ∀(pins:List (Addr×Obj))(s:Shared)(σ:St)(H:Hp)(D:Ends),Inv X pins σ H s->t D σ H->wpAny (model X.prog X.w) X.A (execs st X.env) (SP X pins D) X.xe s
theorem thn{α:Type}{t:Sem α}{Q Q':α->Shared->Prop}{M:Model}{A:Around}{E:Value->Shared->Prop}{s:Shared}(h:wpAny M A t Q E s)(hQ:∀ a s,Q a s->Q' a s):wpAny M A t Q' E s:=Vj h hQ λ _ _ x=>x
section
variable {X:Cx}
theorem bin{a b:Expr}{ta tb:TE}(ha:PE X a ta)(hb:PE X b tb){pins:List (Addr×Obj)}{s:Shared}{σ:St}{H:Hp}{R:V->V->Hp->Prop}(I:Inv X pins σ H s)(h:ta σ H λ x H1=>tb σ H1 λ y H2=>R x y H2){α:Type}{Q:α->Shared->Prop}{f:Value->Value->Sem α}(hf:∀ v u s2 x y H2,Inv X pins σ H2 s2->qT x v->qT y u->R x y H2->wpAny (model X.prog X.w) X.A (f v u) Q X.xe s2):
  wpAny (model X.prog X.w) X.A (eval a X.env) (λ v s₁=>wpAny (model X.prog X.w) X.A (eval b X.env) (λ u s₂=>wpAny (model X.prog X.w) X.A (f v u) Q X.xe s₂) X.xe s₁) X.xe s:=by
 refine thn (ha pins s σ H _ I h) λ v s1 ⟨x,H1,I1,r1,q1⟩=>?_
 refine thn (hb pins s1 σ H1 _ I1 q1) λ u s2 ⟨y,H2,I2,r2,q2⟩=>?_
 exact hf v u s2 x y H2 I2 r1 r2 q2
def qf6(i:Nat):TE:=λ σ H Q=>∃ v,σ[i]?=some (some v)/\Q v H
def tC(v:V):TE:=λ _ H Q=>Q v H
theorem qmd{i:Nat}{x:Str}{pos:Pos}(hN:X.N[i]?=some x)(hv:Vis X.env.scope x)(hd:(x == ("__debug__":Str))=false:=by decide)(aF:(x == ("__classdict__":Str))=false:=by decide):PE X (.Name x pos) (qf6 i):=by
 intro pins s σ H Q I h;obtain⟨v,e,h⟩:=h;obtain⟨m,hn,hl⟩:=I.loc;obtain⟨u,r,l⟩:=hl i x v hN e hv;have fin:EP X pins σ Q u s:=⟨v,H,I,r,h⟩;rcases l with⟨hk,hm⟩|⟨hk,c,hc,N3⟩
 ·exact wpAny_Name (wpAny_loadName_local I.ok.kind hk hn hm fin) hd
 ·rcases hk with hk | hk
  ·exact wpAny_Name (wpAny_loadName_cell I.ok.kind hk hc N3 fin) hd
  ·exact wpAny_Name (wpAny_loadName_free I.ok.kind hk hc N3 fin aF) hd
theorem qf{i j pos}:PE X (.Constant (.int i) j pos) (tC (.int i)):=λ _ _ _ H _ I h=>wpAny_Constant_int ⟨.int i,H,I.tok _,⟨_,rfl⟩,h⟩
theorem qhh{b j pos}:PE X (.Constant (.bool b) j pos) (tC (.bl b)):=λ _ _ _ H _ I h=>Constant_bool ⟨.bl b,H,I,rfl,h⟩
theorem qbm{j pos}:PE X (.Constant .none j pos) (tC .non):=λ _ _ _ H _ I h=>Constant_none ⟨.non,H,I,rfl,h⟩
theorem qm{x j pos}:PE X (.Constant (.str x) j pos) (tC (.str x)):=λ _ _ _ H _ I h=>Calls.Constant_str ⟨.str x,H,I.tok _,⟨_,rfl⟩,h⟩
def Gl(X:Cx)(x:Str):Prop:=X.env.kindOf x=some .globalImplicit
theorem qb0{E:Value->Shared->Prop}{pins:List (Addr×Obj)}{s:Shared}{σ:St}{H:Hp}{x:Str}{u:Value}{pos:Pos}{Q:Value->Shared->Prop}(I:Inv X pins σ H s)(hg:Gl X x)(hm:X.mg x=some u)(h:Q u s)(hd:(x == ("__debug__":Str))=false:=by decide):wpAny (model X.prog X.w) X.A (eval (.Name x pos) X.env) Q E s:=
 Calls.Name_function_global I.ok.kind hg (Calls.loadGlobal_global (by rw[I.ok.glob];exact I.mod.glob.keeps I.bk) hm h) hd
theorem qbn{E:Value->Shared->Prop}{pins:List (Addr×Obj)}{s:Shared}{σ:St}{H:Hp}{x:Str}{u:Value}{pos:Pos}{Q:Value->Shared->Prop}(I:Inv X pins σ H s)(hg:Gl X x)(hm:X.mg x=none)(hv:bootBuiltins x=some u)(h:Q u s)(hn:x≠"__name__":=by decide)(hd:(x == ("__debug__":Str))=false:=by decide):wpAny (model X.prog X.w) X.A (eval (.Name x pos) X.env) Q E s:=by
 obtain⟨mb,h1,h2⟩:=I.mod.blt;exact Calls.Name_function_global I.ok.kind hg (Calls.loadGlobal_builtin (by rw[I.ok.glob];exact I.mod.glob.keeps I.bk) hm (by rw[I.ok.blt];exact h1.keeps I.bk) ((h2 x hn).trans hv) h) hd
theorem zW{x:Str}{v:V}{u:Value}{pos:Pos}(hg:Gl X x)(hm:X.mg x=some u)(r:qT v u)(hd:(x == ("__debug__":Str))=false:=by decide):PE X (.Name x pos) (tC v):=
 λ _ _ _ H _ I h=>qb0 I hg hm ⟨v,H,I,r,h⟩ hd
variable {a b:Expr}{ta tb:TE}{pos:Pos}
def PC(X:Cx)(op:CmpOp)(a b:Expr)(t:TE):Prop:=
 ∀(pins:List (Addr×Obj))(s:Shared)(σ:St)(H:Hp)(Q:VK),Inv X pins σ H s->t σ H Q ->
  wpAny (model X.prog X.w) X.A (eval a X.env) (λ v s₁=>wpAny (model X.prog X.w) X.A (eval b X.env) (λ u s₂=>wpAny (model X.prog X.w) X.A (compareOp op v u) (EP X pins σ Q) X.xe s₂) X.xe s₁) X.xe s
def tB(t:TE):TT:=λ σ H Q=>t σ H λ x H1=>∃ c,x=.bl c/\Q c H1
theorem qme{op:CmpOp}{t:TE}(h:PC X op a b t)(h1:behindInMarks op b=false:=by first|exact nobehind _ (by decide) (by decide)|rfl):PE X (.Compare a [op] [b] pos) t:=λ pins s σ H Q I hw=>wpAny_Compare1 (h pins s σ H Q I hw) h1
theorem qaf{e:Expr}{t:TE}(h:PE X e t)(he:∀ S0,isTrue e X.env S0=(do let v <- S0;standAt e.pos;holding [v] (truthy v)):=by intro _;rfl):PT X e (tB t):=by
 intro pins s σ H Q I hw;refine isTrue_plain (thn (h pins s σ H _ I hw) λ v s1 ⟨x,H1,I1,r1,q1⟩=>?_) (he _);obtain⟨d,rfl,q⟩:=q1;cases r1
 exact Ud ⟨H1,I1,q⟩
variable {tA sI:TT}{rest:List Expr}
def qng(t u:TT):TT:=λ σ H Q=>t σ H λ c H1=>if c=true then u σ H1 Q else Q false H1
def tOr(t u:TT):TT:=λ σ H Q=>t σ H λ c H1=>if c=true then Q true H1 else u σ H1 Q
def qoh(t:TT):TT:=λ σ H Q=>t σ H λ c H1=>Q (!c) H1
theorem qed(ha:PT X a tA):PW X (.BoolOp .And [a] pos) tA:=by
 intro wh pins s σ H Q I h;refine isTrue_and (thn (ha pins s σ H Q I h) λ c s1 e=>?_);cases c with
 |true=>exact isTrue_and_nil e
 |false=>exact e
theorem qee(ha:PT X a tA):PW X (.BoolOp .Or [a] pos) tA:=by
 intro wh pins s σ H Q I h;refine isTrue_or (thn (ha pins s σ H Q I h) λ c s1 e=>?_);cases c with
 |false=>exact isTrue_or_nil e
 |true=>exact e
theorem qf7(ha:PT X a tA)(hb:PW X (.BoolOp .And (b::rest) pos) sI):PW X (.BoolOp .And (a::b::rest) pos) (qng tA sI):=by
 intro wh pins s σ H Q I h;refine isTrue_and (thn (ha pins s σ H _ I h) λ c s1 ⟨H1,I1,q1⟩=>?_);cases c with
 |true=>exact hb wh pins s1 σ H1 Q I1 q1
 |false=>exact⟨H1,I1,q1⟩
theorem qhi(ha:PT X a tA)(hb:PW X (.BoolOp .Or (b::rest) pos) sI):PW X (.BoolOp .Or (a::b::rest) pos) (tOr tA sI):=by
 intro wh pins s σ H Q I h;refine isTrue_or (thn (ha pins s σ H _ I h) λ c s1 ⟨H1,I1,q1⟩=>?_);cases c with
 |true=>exact⟨H1,I1,q1⟩
 |false=>exact hb wh pins s1 σ H1 Q I1 q1
theorem qi7(ha:PT X a tA):PT X (.UnaryOp .Not a pos) (qoh tA):=by
 intro pins s σ H Q I h;exact isTrue_not (ha pins s σ H (λ c H1=>Q (!c) H1) I h)
def qnh(ta tb:TE):TE:=λ σ H Q=>ta σ H λ x H1=>∃ c,x=.bl c/\if c=true then tb σ H1 Q else Q (.bl false) H1
def qoi(ta tb:TE):TE:=λ σ H Q=>ta σ H λ x H1=>∃ c,x=.bl c/\if c=true then Q (.bl true) H1 else tb σ H1 Q
def qni(ta:TE):TE:=λ σ H Q=>ta σ H λ x H1=>∃ c,x=.bl c/\Q (.bl (!c)) H1
theorem qf8{op}{t:TE}(h:PE X a t):PE X (.BoolOp op [a] pos) t:=λ pins s σ H Q I hw=>BoolOp_one (h pins s σ H Q I hw)
theorem qi8(ha:PE X a ta)(hb:PE X (.BoolOp .And (b::rest) pos) tb):PE X (.BoolOp .And (a::b::rest) pos) (qnh ta tb):=by
 intro pins s σ H Q I h;refine BoolOp_and (thn (ha pins s σ H _ I h) λ v s1 ⟨x,H1,I1,r1,q1⟩=>?_);obtain⟨c,rfl,q1⟩:=q1;cases r1
 refine Ud ?_;cases c with
 |true=>exact hb pins s1 σ H1 Q I1 q1
 |false=>exact⟨.bl false,H1,I1,rfl,q1⟩
theorem qnj(ha:PE X a ta)(hb:PE X (.BoolOp .Or (b::rest) pos) tb):PE X (.BoolOp .Or (a::b::rest) pos) (qoi ta tb):=by
 intro pins s σ H Q I h;refine BoolOp_or (thn (ha pins s σ H _ I h) λ v s1 ⟨x,H1,I1,r1,q1⟩=>?_);obtain⟨c,rfl,q1⟩:=q1;cases r1
 refine Ud ?_;cases c with
 |false=>exact hb pins s1 σ H1 Q I1 q1
 |true=>exact⟨.bl true,H1,I1,rfl,q1⟩
theorem qi9(ha:PE X a ta):PE X (.UnaryOp .Not a pos) (qni ta):=by
 intro pins s σ H Q I h;refine UnaryOp_ (thn (ha pins s σ H _ I h) λ v s1 ⟨x,H1,I1,r1,q1⟩=>?_);obtain⟨c,rfl,q1⟩:=q1;cases r1
 exact not_of (Ud ⟨.bl (!c),H1,I1,rfl,q1⟩)
def tIf(t:TT)(ta tb:TE):TE:=λ σ H Q=>t σ H λ c H1=>if c=true then ta σ H1 Q else tb σ H1 Q
theorem qja{c:Expr}(hc:PT X c tA)(ha:PE X a ta)(hb:PE X b tb):PE X (.IfExp c a b pos) (tIf tA ta tb):=by
 intro pins s σ H Q I h;refine wpAny_IfExp (thn (hc pins s σ H _ I h) λ d s1 ⟨H1,I1,q1⟩=>?_);cases d with
 |true=>exact ha pins s1 σ H1 Q I1 q1
 |false=>exact hb pins s1 σ H1 Q I1 q1
end
def SqL(K:W.Frag)(H:Hp)(a:Addr)(xs:List V):Prop:=
 Rd H a (.lst xs) ∨
  ∃(o:Obj)(its:Array Value)(n:Nat),K.lookup a=some o/\o.cls=.type "list"/\o.dict=none/\o.data=.seq its n/\its.size<=sizeLine/\qK xs its.toList
def SqT(K:W.Frag)(H:Hp)(a:Addr)(xs:List V):Prop:=
 Rd H a (.tup xs) ∨
  ∃(o:Obj)(its:Array Value)(n:Nat),K.lookup a=some o/\o.cls=.type "tuple"/\o.data=.seq its n/\its.size<=sizeLine/\qK xs its.toList
noncomputable def qoj:Value->Option V
 |.none=>some .non
 |.bool b=>some (.bl b)
 |.int i _=>some (.int i)
 |.str x _=>some (.str x)
 |.bytes b _=>some (.byt b)
 |.float b _=>some (.flt b)
 |.ref a=>some (.ref a)
 |.type n=>some (.ty n)
 |_=>none
theorem qT.abs{x:V}{u:Value}(r:qT x u):qoj u=some x:=by
 cases x with
 |non=>cases r;rfl
 |bl _=>cases r;rfl
 |int _=>obtain⟨t,rfl⟩:=r;rfl
 |str _=>obtain⟨t,rfl⟩:=r;rfl
 |byt _=>obtain⟨t,rfl⟩:=r;rfl
 |flt _=>obtain⟨t,rfl⟩:=r;rfl
 |ref _=>cases r;rfl
 |ty _=>cases r;rfl
theorem qT.inj{x y:V}{u:Value}(r:qT x u)(q:qT y u):x=y:=Option.some.inj (r.abs.symm.trans q.abs)
theorem qK.inj:∀{xs ys:List V}{us:List Value},qK xs us->qK ys us->xs=ys
 |_,_,_,.nil,.nil=>rfl
 |_,_,_,.cons r t,.cons r' t'=>by rw[r.inj r',qK.inj t t']
section
variable {X:Cx}{pins:List (Addr×Obj)}{σ:St}{H:Hp}{s:Shared}{a:Addr}{xs ys:List V}
theorem SqL.of{K:W.Frag}(h:H a=some (.lst xs)):SqL K H a xs:=.inl (.inl h)
theorem SqT.of{K:W.Frag}(h:H a=some (.tup xs)):SqT K H a xs:=.inl (.inl h)
theorem Inv.list(I:Inv X pins σ H s)(h:SqL X.K H a xs):∃ its:List Value,qK xs its/\PlainL s.heap a its.toArray/\xs.length<=sizeLine:=by
 rcases h with h|⟨o,its,n,hk,hc,hd,hs,hz,r⟩
 ·obtain⟨z,its,n,r,e⟩:=h.ok I.hok;exact⟨its,r,⟨_,n,e,rfl,rfl,rfl⟩,z⟩
 ·refine⟨its.toList,r,⟨o,n,I.kIn a o hk,hc,hd,by simpa using hs⟩,?_⟩;have e:=r.length;simp only[Yy] at e;omega
theorem Inv.tuple(I:Inv X pins σ H s)(h:SqT X.K H a xs):∃ its:List Value,qK xs its/\IsTup s.heap a its.toArray/\xs.length<=sizeLine:=by
 rcases h with h|⟨o,its,n,hk,hc,hs,hz,r⟩
 ·obtain⟨z,its,r,p⟩:=h.ok I.hok;exact⟨its,r,p,z⟩
 ·refine⟨its.toList,r,⟨o,I.kIn a o hk,hc,n,by simpa using hs⟩,?_⟩;have e:=r.length;simp only[Yy] at e;omega
theorem Inv.list_inj(I:Inv X pins σ H s)(h:SqL X.K H a xs)(h':SqL X.K H a ys):xs=ys:=by
 obtain⟨its,r,⟨o,n,e,_,_,d⟩,_⟩:=I.list h;obtain⟨its',r',⟨o',n',e',_,_,d'⟩,_⟩:=I.list h';rw[e] at e';cases e';rw[d] at d';injection d' with d1 _
 have:its=its':=by simpa using congrArg Array.toList d1
 subst this;exact r.inj r'
theorem Inv.tuple_inj(I:Inv X pins σ H s)(h:SqT X.K H a xs)(h':SqT X.K H a ys):xs=ys:=by
 obtain⟨its,r,⟨o,e,_,n,d⟩,_⟩:=I.tuple h;obtain⟨its',r',⟨o',e',_,n',d'⟩,_⟩:=I.tuple h';rw[e] at e';cases e';rw[d] at d';injection d' with d1 _
 have:its=its':=by simpa using congrArg Array.toList d1
 subst this;exact r.inj r'
end
noncomputable abbrev Cx.wish(X:Cx)(E:Value->Shared->Prop):Cx:={ X with xe:=E }
noncomputable abbrev Cx.nox(X:Cx):Cx:=X.wish λ _ _=>False
theorem Cx.Ok.wish{X:Cx}(ok:X.Ok)(E:Value->Shared->Prop):(X.wish E).Ok:=
 ⟨ok.mod,ok.kind,ok.glob,ok.blt,ok.above,ok.inj,ok.has,ok.cab,ok.hd,ok.frames,ok.stk,ok.exf,ok.bs,ok.bsz,ok.noex,ok.exfs,ok.funs,ok.frf⟩
theorem Cx.Ok.unwish{X:Cx}{E:Value->Shared->Prop}(ok:(X.wish E).Ok):X.Ok:=
 ⟨ok.mod,ok.kind,ok.glob,ok.blt,ok.above,ok.inj,ok.has,ok.cab,ok.hd,ok.frames,ok.stk,ok.exf,ok.bs,ok.bsz,ok.noex,ok.exfs,ok.funs,ok.frf⟩
section
variable {X:Cx}{pins:List (Addr×Obj)}{σ:St}{H:Hp}{s:Shared}{E:Value->Shared->Prop}
theorem Inv.wish(I:Inv X pins σ H s)(E:Value->Shared->Prop):Inv (X.wish E) pins σ H s:=⟨I.ok.wish E,I.os,I.bare,I.base,I.loc,I.cell,I.free,I.freeC,I.pin,I.hok,I.len⟩
theorem Inv.unwish(I:Inv (X.wish E) pins σ H s):Inv X pins σ H s:=⟨I.ok.unwish,I.os,I.bare,I.base,I.loc,I.cell,I.free,I.freeC,I.pin,I.hok,I.len⟩
theorem SP.unwish{D:Ends}{f:Flow}{s':Shared}(h:SP (X.wish E) pins D f s'):SP X pins D f s':=by
 cases f with
 |next=>obtain⟨σ',H',I,q⟩:=h;exact⟨σ',H',I.unwish,q⟩
 |brk=>obtain⟨σ',H',I,q⟩:=h;exact⟨σ',H',I.unwish,q⟩
 |cont=>obtain⟨σ',H',I,q⟩:=h;exact⟨σ',H',I.unwish,q⟩
 |ret u=>obtain⟨v,σ',H',I,r,q⟩:=h;exact⟨v,σ',H',I.unwish,r,q⟩
theorem PSs.nox{st:List Stmt}{t:TS}(h:PSs X.nox st t):PSs X st t:=λ pins s σ H D I hw =>
 Vj (h pins s σ H D (I.wish _) hw) (λ _ _ q=>q.unwish) λ _ _ z=>False.elim z
end
section
variable {X:Cx}{st:Stmt}{rest:List Stmt}{t u:TS}{e:Expr}{te:TE}{pos:Pos}
def qnk:TS:=λ D σ H=>D.nx σ H
def qok(t u:TS):TS:=λ D σ H=>t { D with nx:=u D } σ H
theorem qL:PSs X [] qnk:=λ _ _ σ H _ I h=>Jr ⟨σ,H,I,h⟩
theorem qd(h1:PS X st t)(h2:PSs X rest u):PSs X (st::rest) (qok t u):=by
 intro pins s σ H D I h;refine wpAny_execs_cons (thn (h1 pins s σ H { D with nx:=u D } I h) λ f s1 q=>?_);cases f with
 |next =>
  obtain⟨σ',H',I',q⟩:=q;exact h2 pins s1 σ' H' D I' q
 |ret v=>exact q
 |brk=>exact q
 |cont=>exact q
theorem qe(h1:PS X st t):PSs X [st] t:=by
 intro pins s σ H D I h;refine wpAny_execs_cons (thn (h1 pins s σ H D I h) λ f s1 q=>?_);cases f with
 |next=>exact Jr q
 |ret v=>exact q
 |brk=>exact q
 |cont=>exact q
theorem Inv.quiet{pins:List (Addr×Obj)}{σ:St}{H:Hp}{s:Shared}(I:Inv X pins σ H s):interactive X.env=false:=by simp[interactive,I.ok.kind]
def qnl(te:TE):TS:=λ D σ H=>te σ H λ _ H1=>D.nx σ H1
theorem zX(he:PE X e te)(hs:swapsWith e none pos.line X.env=pure false:=by rfl):PS X (.Expr e pos) (qnl te):=by
 intro pins s σ H D I h;exact wpAny_Expr_any (thn (he pins s σ H _ I h) λ v s1 ⟨x,H1,I1,r1,q1⟩=>⟨σ,H1,I1,q1⟩) I.quiet hs
def qmf(te:TE):TS:=λ D σ H=>te σ H D.rt
theorem qo(he:PE X e te):PS X (.Return (some e) pos) (qmf te):=by
 intro pins s σ H D I h;exact wpAny_Return_some (thn (he pins s σ H _ I h) λ v s1 ⟨x,H1,I1,r1,q1⟩=>⟨x,σ,H1,I1,r1,q1⟩)
def qnm(c:TT)(t u:TS):TS:=λ D σ H=>c σ H λ b H1=>if b=true then t D σ H1 else u D σ H1
theorem zf{c:Expr}{a b:List Stmt}{tc:TT}(hc:PT X c tc)(ha:PSs X a t)(hb:PSs X b u):PS X (.If c a b pos) (qnm tc t u):=by
 intro pins s σ H D I h;refine wpAny_If (thn (hc pins s σ H _ I h) λ d s1 ⟨H1,I1,q1⟩=>?_);cases d with
 |true=>exact ha pins s1 σ H1 D I1 q1
 |false=>exact hb pins s1 σ H1 D I1 q1
def qmg:TS:=λ _ _ _=>False
theorem jg:PS X st qmg:=λ _ _ _ _ _ _ h=>h.elim
end
abbrev TG:=V->St->Hp->(St->Hp->Prop)->Prop
abbrev TGs:=List V->St->Hp->(St->Hp->Prop)->Prop
def PG(X:Cx)(B4:Expr)(t:TG):Prop:=
 ∀(pins:List (Addr×Obj))(s:Shared)(σ:St)(H:Hp)(v:V)(u:Value)(Q:St->Hp->Prop),Inv X pins σ H s->qT v u->t v σ H Q ->
  wpAny (model X.prog X.w) X.A (assign B4 X.env u) (λ _ s'=>∃ σ' H',Inv X pins σ' H' s'/\Q σ' H') X.xe s
def PGs(X:Cx)(ts:List Expr)(t:TGs):Prop:=
 ∀(pins:List (Addr×Obj))(s:Shared)(σ:St)(H:Hp)(vs:List V)(us:List Value)(Q:St->Hp->Prop),Inv X pins σ H s->qK vs us->t vs σ H Q ->
  wpAny (model X.prog X.w) X.A (assignInOrder ((assignEach ts X.env).map (·.2)) us) (λ _ s'=>∃ σ' H',Inv X pins σ' H' s'/\Q σ' H') X.xe s
abbrev qmh:=V->V->V->Hp->(Hp->Prop)->Prop
def qnn(X:Cx)(t:qmh):Prop:=
 ∀(pins:List (Addr×Obj))(s:Shared)(σ:St)(H:Hp)(o i v:V)(ov iv u:Value)(Q:Hp->Prop),Inv X pins σ H s->qT o ov->qT i iv->qT v u->t o i v H Q ->
  wpAny (model X.prog X.w) X.A (setItem ov iv u) (λ _ s'=>∃ H',Inv X pins σ H' s'/\Q H') X.xe s
section
variable {X:Cx}{pos:Pos}
def k9(i:Nat):TG:=λ v σ H Q=>Q (σ.set i (some v)) H
theorem qt{i:Nat}{x:Str}(hN:X.N.Nodup)(hi:X.N[i]?=some x)(hx:Loc X.env.scope x)(hf:X.fn x=true∨X.env.scope.names.lookup x=some .local:=by first|exact .inl rfl|exact .inr rfl|assumption):PG X (.Name x pos) (k9 i):=by
 intro pins s σ H v u Q I r h;exact wpAny_assign_Name (qaF I hN hi hx r (λ s' I'=>⟨_,H,I',h⟩) hf)
def qkZ:TGs:=λ vs σ H Q=>vs=[]/\Q σ H
def qcf(t:TG)(u:TGs):TGs:=λ vs σ H Q=>∃ v r,vs=v::r/\t v σ H λ σ' H'=>u r σ' H' Q
theorem zY:PGs X [] qkZ:=by
 intro pins s σ H vs us Q I r h;obtain⟨e,h⟩:=h;subst e;cases r
 exact assignInOrder_nil ⟨σ,H,I,h⟩
theorem qO{e:Expr}{es:List Expr}{t:TG}{u:TGs}(h1:PG X e t)(h2:PGs X es u)(hs:(assignEach (e::es) X.env).map (·.2)=assign e X.env::(assignEach es X.env).map (·.2):=by rfl):PGs X (e::es) (qcf t u):=by
 intro pins s σ H vs us Q I r h;obtain⟨v,vr,e1,h⟩:=h;subst e1;cases r with
 |cons r rr =>
  rw[hs];refine assignInOrder_cons (thn (h1 pins s σ H _ _ _ I r h) λ _ s1 ⟨σ1,H1,I1,q1⟩=>?_);exact h2 pins s1 σ1 H1 _ _ Q I1 rr q1
def qk0(K:W.Frag)(n:Nat)(t:TGs):TG:=λ v σ H Q=>∃ a xs,v=.ref a/\SqT K H a xs/\xs.length=n/\t xs σ H Q
theorem qcg{es:List Expr}{k:Nat}{t:TGs}{n:Nat}(hc:X.calm=true)(h:PGs X es t)(hn:(assignEach es X.env).length=n:=by rfl)(E2:(assignEach es X.env).findIdx? (·.1)=none:=by rfl):PG X (.Tuple es k pos) (qk0 X.K n t):=by
 intro pins s σ H v u Q I r hw;obtain⟨a,xs,e1,hq,hl,hw⟩:=hw;subst e1;cases r
 obtain⟨its,rv,ht,hz⟩:=I.tuple hq;refine assign_Tuple_tuple (I.ok.hd hc) ht (by simp[hn,<- hl,rv.length]) E2 λ h' hx=>?_
 have I1:Inv X pins σ H { s with heap:=h' }:=I.kept (t':=s.toks) λ b o e=>hx b o (Qw (Qv e)) e
 exact h pins _ σ H xs _ Q I1 (by simpa using rv) hw
def qol(to ti:TE)(t:qmh):TG:=λ v σ H Q=>to σ H λ o H1=>ti σ H1 λ i H2=>t o i v H2 λ H3=>Q σ H3
theorem qmi{o i:Expr}{to ti:TE}{t:qmh}(ho:PE X o to)(hi:PE X i ti)(hs:qnn X t)(ha:∀ v,assign (.Subscript o i pos) X.env v=(do
   let ov <- holding [v] (eval o X.env)
   let iv <- holding [v,ov] (eval i X.env)
   standAt pos
   holding [v,ov,iv] (setItem ov iv v)
   release [v,ov,iv] []):=by intro _;rfl):PG X (.Subscript o i pos) (qol to ti t):=by
 intro pins s σ H v u Q I r h;rw[ha];refine Vk (Qq (thn (ho pins s σ H _ I h) λ ov s1 ⟨x,H1,I1,r1,q1⟩=>?_));refine Vk (Qq (thn (hi pins s1 σ H1 _ I1 q1) λ iv s2 ⟨y,H2,I2,r2,q2⟩=>?_));refine Vk (Qr (Vk (Qq (thn (hs pins s2 σ H2 x y v ov iv u _ I2 r1 r2 r q2) λ _ s3 ⟨H3,I3,q3⟩=>?_))));exact wpAny_release ⟨σ,H3,I3,q3⟩
def qmj(te:TE)(g:TG):TS:=λ D σ H=>te σ H λ x H1=>g x σ H1 D.nx
theorem qjb{tg e:Expr}{te:TE}{g:TG}(he:PE X e te)(hg:PG X tg g)(hs:swapsWithSole [tg] e pos.line X.env=pure false:=by rfl)(hw:swappedStores [tg] e X.env=pure none:=by rfl)(h1:(assignEach [tg] X.env).map (·.2)=[assign tg X.env]:=by rfl):PS X (.Assign [tg] e pos) (qmj te g):=by
 intro pins s σ H D I h;refine wpAny_Assign_stores (thn (he pins s σ H _ I h) λ v s1 ⟨x,H1,I1,r1,q1⟩=>?_) hs hw;rw[h1];exact thn (hg pins s1 σ H1 x v _ I1 r1 q1) λ _ s2 q=>q
theorem qr{i:Nat}{x:Str}{e:Expr}{te:TE}{x6:Pos}(hN:X.N.Nodup)(hi:X.N[i]?=some x)(hx:Loc X.env.scope x)(he:PE X e te)(hs:swapsWith e (some (.Name x x6)) pos.line X.env=pure false:=by rfl)(hf:X.fn x=true∨X.env.scope.names.lookup x=some .local:=by first | exact .inl rfl | exact .inr rfl | assumption):
  PS X (.Assign [.Name x x6] e pos) (qmj te (k9 i)):=by
 intro pins s σ H D I h;refine wpAny_Assign_Name (thn (he pins s σ H _ I h) λ v s1 ⟨y,H1,I1,r1,q1⟩=>?_) hs;exact qaF I1 hN hi hx r1 (λ s2 I2=>⟨_,H1,I2,q1⟩) hf
def qom(i j:Nat)(ta:TA):TS:=λ D σ H=>ta σ H λ vs H1=>∃ v w,vs=[v,w]/\D.nx ((σ.set i (some v)).set j (some w)) H1
theorem qmk{i j:Nat}{x y:Str}{a b:Expr}{ta:TA}{px py pt:Pos}{kt k2 pt2}(hc:X.calm=true)(hN:X.N.Nodup)(hi:X.N[i]?=some x)(hj:X.N[j]?=some y)(pA:i≠j)(hx:X.env.scope.names.lookup x=some .local)(hy:X.env.scope.names.lookup y=some .local)(ha:PA X [a,b] ta)(hw:swappedStores [.Tuple [.Name x px,.Name y py] kt pt] (.Tuple [a,b] k2 pt2) X.env=pure (some [x,y]))(hs:swapsWithSole [.Tuple [.Name x px,.Name y py] kt pt] (.Tuple [a,b] k2 pt2) pos.line X.env=pure false:=by rfl):
  PS X (.Assign [.Tuple [.Name x px,.Name y py] kt pt] (.Tuple [a,b] k2 pt2) pos) (qom i j ta):=by
 intro pins s σ H D I h;rw[exec_Assign_arm];refine Vk (Qr ?_);rw[hs];refine Vk (Vl ?_);rw[V3 (by decide)];refine Vk (Tuple_ (thn (ha _ pins s σ H _ I h) λ us s1 ⟨vs,H1,I1,r1,q1⟩=>?_));obtain⟨v,w,e1,q1⟩:=q1;subst e1;obtain⟨u1,u2,rfl,rv,V5⟩:∃ u1 u2,us=[u1,u2]/\qT v u1/\qT w u2:=by
  cases r1 with
  |cons p q =>
   cases q with
   |cons p' q' =>
    cases q'
    exact⟨_,_,rfl,p,p'⟩
 refine Ue ?_ (by show 2<=sizeLine;decide);have I2:Inv X pins σ H1 { s1 with heap:=s1.heap.push { cls:=.type "tuple",data:=.seq [u1,u2].toArray } }:=I1.kept (t':=s1.toks) λ b o e=>XI _ e
 rw[hw];refine Vk (Vl ?_);show wpAny (model X.prog X.w) X.A (do rule "assign.swapped-stores";let items <- unpackItems (.ref s1.heap.objs.size) 2 none;assignInOrder [λ v=>bindName X.env y v,λ v=>bindName X.env x v] items.reverse;pure Flow.next) _ _ _
 refine Vk (Vm (Vk (unpackItems_tuple (items:=#[u1,u2]) (I.ok.hd hc) (IsTup.new s1.heap _) λ h' p8=>?_)));have I3:=I2.kept (h':=h') (t':=s1.toks) λ b o e=>p8 b o (Qw (Qv e)) e
 show wpAny _ _ (assignInOrder [λ v=>bindName X.env y v,λ v=>bindName X.env x v] [u2,u1] >>= λ _=>pure Flow.next) _ _ _
 refine Vk (assignInOrder_cons (wpAny_bindName (qaF I3 hN hj (.inl hy) V5 (λ s2 I4=>?_) (.inr hy))));refine assignInOrder_cons (wpAny_bindName (qaF I4 hN hi (.inl hx) rv (λ s3 I5=>assignInOrder_nil (Vl ?_)) (.inr hx)));rw[List.set_comm _ _ (Vx pA)] at I5;exact⟨_,H1,I5,q1⟩
def qml(c:TT)(tb:TS):TS:=λ D σ H=>∃ W:Nat->St->Hp->Prop,(∃ m,W m σ H)/\∀ m σ H,W m σ H ->
 c σ H λ b H1=>if b=true then ∃ N:St->Hp->Prop,(∀ σ' H',N σ' H'->∃ m',m'<m/\W m' σ' H')/\tb { D with nx:=N,ct:=N,bk:=D.nx } σ H1 else D.nx σ H1
theorem qeZ{c:Expr}{body:List Stmt}{tc:TT}{tb:TS}(hp:PassesOwn (model X.prog X.w) X.A X.env X.xe)(hc:PT X c tc)(hb:PSs X body tb):PS X (.While c body [] pos) (qml tc tb):=by
 intro pins s σ H D I h;obtain⟨W,⟨m0,w0⟩,turn⟩:=h;refine wpAny_While (codeAny_whileLoop (λ n s'=>∃ σ' H',Inv X pins σ' H' s'/\W n σ' H') ?_ m0 ⟨σ,H,I,w0⟩);rintro n s1 ⟨σ1,H1,I1,w1⟩;refine Js hp (thn (hc pins s1 σ1 H1 _ I1 (turn n σ1 H1 w1)) λ b s2 ⟨H2,I2,q2⟩=>?_);cases b with
 |true =>
  obtain⟨N,hN,q2⟩:=q2;rw[V2 rfl];refine Js hp (thn (hb pins s2 σ1 H2 _ I2 q2) λ f s3 q3=>?_);cases f with
  |next =>
   obtain⟨σ3,H3,I3,n3⟩:=q3;obtain⟨m',hm,w3⟩:=hN σ3 H3 n3;exact⟨m',hm,σ3,H3,I3,w3⟩
  |cont =>
   obtain⟨σ3,H3,I3,n3⟩:=q3;obtain⟨m',hm,w3⟩:=hN σ3 H3 n3;exact⟨m',hm,σ3,H3,I3,w3⟩
  |brk=>exact q3
  |ret v=>exact q3
 |false =>
  rw[V3 Zg];exact Jr ⟨σ1,H2,I2,q2⟩
end
structure It where 
 go:Nat->Hp->Prop
 yld:Nat->Hp->V->Hp->Prop
 stop:Nat->Hp->Prop
def jQ(X:Cx)(pins:List (Addr×Obj))(H:Hp)(b:Addr):Prop:=
 H b=none/\b≠X.env.locals/\b∉X.fs/\(b∈X.ex∨X.s₀.heap.objs.size<=b)/\(∀ x c,X.env.cells.lookup x=some c->c≠b)/\∀ p∈X.pn++pins,p.1≠b
theorem Inv.fpOk{X:Cx}{pins:List (Addr×Obj)}{σ:St}{H H':Hp}{s:Shared}{b:Addr}(I:Inv X pins σ H s)(hb:s.heap.objs.size<=b)(hn:H' b=none):jQ X pins H' b:=by
 refine⟨hn,Qz (Ze I.lt hb),I.nofs hb,.inr (Qx I.sz hb),λ x c e z=>?_,λ p hp z=>?_⟩
 ·obtain⟨v,q⟩:=I.cell x c e;exact absurd (Ze q.lt (by rw[z];exact hb)) (Qg _)
 ·exact absurd (Ze (Qv (I.pin p hp).1) (by rw[z];exact hb)) (Qg _)
structure Turn(P:Program)(w:World)(K:W.Frag)(tg:Expr)(J:It)(fp:List Addr)(it:Addr)(tn:Nat->Heap->Prop):Prop where
 mem:it∈fp
 obj:∀ i h,tn i h->∀ b∈fp,∃ o,h.get? b=some o/\∀ v,o.data≠.cell v
 keep:∀ i h h',tn i h->(∀ b∈fp,∀ o,h.get? b=some o->h'.get? b=some o)->tn i h'
 item:∀(X:Cx),X.prog=P->X.w=w->X.K=K->X.calm=true->∀(i:Nat)(pins:List (Addr×Obj))(s:Shared)(σ:St)(H:Hp)(E:Value->Shared->Prop),Inv X pins σ H s->(∀ b∈fp,jQ X pins H b)->tn i s.heap->J.go i H ->
  wpAny (model P w) X.A (pyNext (.ref it)) (λ r s1=>∃ u,r=some u /\
   wpAny (model P w) X.A (letOwnedTupleGo tg (.ref it) u) (λ _ s2=>∃ x H',Inv X pins σ H' s2/\qT x u/\J.yld i H x H'/\tn (i+1) s2.heap/\∀ b∈fp,H' b=none) E s1) E s
 done:∀(X:Cx),X.prog=P->X.w=w->X.K=K->X.calm=true->∀(i:Nat)(pins:List (Addr×Obj))(s:Shared)(σ:St)(H:Hp)(E:Value->Shared->Prop),Inv X pins σ H s->(∀ b∈fp,jQ X pins H b)->tn i s.heap->J.stop i H ->
  wpAny (model P w) X.A (pyNext (.ref it)) (λ r s1=>r=none/\Inv X pins σ H s1) E s
 self:∀(A:Around)(i:Nat)(s:Shared)(Q:Value->Shared->Prop)(E:Value->Shared->Prop),tn i s.heap->Q (.ref it) s->wpAny (model P w) A (pyIter (.ref it)) Q E s
abbrev TI:=St->Hp->(It->Hp->Prop)->Prop
def PIE(X:Cx)(pins:List (Addr×Obj))(σ:St)(tg:Expr)(R:It->Hp->Prop)(fG:Value)(s2:Shared):Prop:=
 ∃(it:Addr)(fp:List Addr)(tn:Nat->Heap->Prop)(J:It)(H':Hp),fG=.ref it/\Inv X pins σ H' s2/\Turn X.prog X.w X.K tg J fp it tn/\tn 0 s2.heap/\(∀ b∈fp,jQ X pins H' b)/\R J H'
def PI(X:Cx)(tg iter:Expr)(wi:TI):Prop:=
 ∀(pins:List (Addr×Obj))(s:Shared)(σ:St)(H:Hp)(R:It->Hp->Prop),Inv X pins σ H s->wi σ H R ->
  wpAny (model X.prog X.w) X.A (eval iter X.env) (λ v s1=>wpAny (model X.prog X.w) X.A (pyIter v) (PIE X pins σ tg R) X.xe s1) X.xe s
theorem qhj{M:Model}{A:Around}{E:Value->Shared->Prop}{s:Shared}{tg:Expr}{it:Addr}{u:Value}{o:Obj}{n:String}{vs:Array Value}{Q:Unit->Shared->Prop}(ho:s.heap.get? it=some o)(hc:o.cls=.type n)(hd:o.data=.fields vs)(hn:["enumerate","zip","dict_itemiterator","dict_reverseitemiterator","odict_iterator","itertools.zip_longest","itertools.pairwise"].contains n=false)(hQ:Q () s):wpAny M A (letOwnedTupleGo tg (.ref it) u) Q E s:=by
 unfold letOwnedTupleGo;cases tg <;> first
  |exact Vl hQ
  | (cases u <;> first
    |exact Vl hQ
    | (refine Vk (wpAny_load ho ?_)
       rw[hc,hd];show wpAny M A (if (["enumerate","zip","dict_itemiterator","dict_reverseitemiterator","odict_iterator","itertools.zip_longest","itertools.pairwise"].contains n && vs[0]? == some (rawInt _))=true then _ else _) Q E s
       rw[V3 (by intro h;rw[hn,Jy] at h;cases h)];exact Vl hQ))
noncomputable def Itl(K:W.Frag)(a:Addr):It:=
 ⟨λ i H=>∃ xs x,SqL K H a xs/\xs[i]?=some x,λ i H x H'=>H'=H/\∀ xs,SqL K H a xs->xs[i]?=some x,λ i H=>∃ xs,SqL K H a xs/\xs.length<=i⟩
noncomputable def Itt(K:W.Frag)(a:Addr):It:=
 ⟨λ i H=>∃ xs x,SqT K H a xs/\xs[i]?=some x,λ i H x H'=>H'=H/\∀ xs,SqT K H a xs->xs[i]?=some x,λ i H=>∃ xs,SqT K H a xs/\xs.length<=i⟩
noncomputable def Itr(lo:Int)(n:Nat):It:=⟨λ i _=>i<n,λ i H x H'=>H'=H/\x=.int (lo+i),λ i _=>n<=i⟩
theorem qh3{P:Program}{w:World}{K:W.Frag}{tg:Expr}(a it:Addr):Turn P w K tg (Itl K a) [it] it (λ i h=>h.IsListIter it a i) where
 mem:=by simp
 obj:=λ i h st b hb=>by
  have e:b=it:=by simpa using hb
  subst e;obtain⟨o,e,c,d⟩:=st;exact⟨o,e,λ v z=>by rw[d] at z;cases z⟩
 keep:=λ i h h' st k=>st.at λ o e=>k it (by simp) o e
 item:=by
  intro X hP hw hK hc i pins s σ H E I hf st hg;subst hP hw hK;obtain⟨xs,x,hq,hx⟩:=hg;obtain⟨its,rv,p,hz⟩:=I.list hq;obtain⟨u,hu,ru⟩:=rv.get hx;obtain⟨f0,f1,f2,f3,f4,f5⟩:=hf it (by simp);refine wpAny_pyNext_list_item st p.isList (x:=u) (by simpa using hu) λ h' b0 sb=>?_
  have I1:Inv X pins σ H { s with heap:=h' }:=I.turned (t':=s.toks) (λ b o hb e=>(sb.2 b hb).trans e) f0 f1 f3 f4 f5;obtain⟨o,e,c,d⟩:=id b0;exact⟨u,rfl,qhj (s:={ s with heap:=h' }) e c d (by decide) ⟨x,H,I1,ru,⟨rfl,λ ys hy=>by rw[I.list_inj hy hq];exact hx⟩,b0,λ b hb=>(hf b hb).1⟩⟩
 done:=by
  intro X hP hw hK hc i pins s σ H E I hf st hg;subst hP hw hK;obtain⟨xs,hq,hx⟩:=hg;obtain⟨its,rv,p,hz⟩:=I.list hq;obtain⟨f0,f1,f2,f3,f4,f5⟩:=hf it (by simp);have hl:=rv.length;exact wpAny_pyNext_list_end (I.ok.hd hc) st p.isList (by simp;omega) λ h' eb=>⟨rfl,I.turned (t':=s.toks) (λ b o hb e=>eb b o hb e) f0 f1 f3 f4 f5⟩
 self:=λ _ _ _ _ _ st h=>wpAny_pyIter_listiter st h
theorem qf9{P:Program}{w:World}{K:W.Frag}{tg:Expr}(a it:Addr):Turn P w K tg (Itt K a) [it] it (λ i h=>h.IsTupleIter it a i) where
 mem:=by simp
 obj:=λ i h st b hb=>by
  have e:b=it:=by simpa using hb
  subst e;obtain⟨o,e,c,d⟩:=st;exact⟨o,e,λ v z=>by rw[d] at z;cases z⟩
 keep:=λ i h h' st k=>st.at λ o e=>k it (by simp) o e
 item:=by
  intro X hP hw hK hc i pins s σ H E I hf st hg;subst hP hw hK;obtain⟨xs,x,hq,hx⟩:=hg;obtain⟨its,rv,p,hz⟩:=I.tuple hq;obtain⟨u,hu,ru⟩:=rv.get hx;obtain⟨f0,f1,f2,f3,f4,f5⟩:=hf it (by simp);refine wpAny_pyNext_tuple_item st (show s.heap.IsTuple a its.toArray from p) (x:=u) (by simpa using hu) λ h' b0 sb=>?_
  have I1:Inv X pins σ H { s with heap:=h' }:=I.turned (t':=s.toks) (λ b o hb e=>(sb.2 b hb).trans e) f0 f1 f3 f4 f5;obtain⟨o,e,c,d⟩:=id b0;exact⟨u,rfl,qhj (s:={ s with heap:=h' }) e c d (by decide) ⟨x,H,I1,ru,⟨rfl,λ ys hy=>by rw[I.tuple_inj hy hq];exact hx⟩,b0,λ b hb=>(hf b hb).1⟩⟩
 done:=by
  intro X hP hw hK hc i pins s σ H E I hf st hg;subst hP hw hK;obtain⟨xs,hq,hx⟩:=hg;obtain⟨its,rv,p,hz⟩:=I.tuple hq;obtain⟨f0,f1,f2,f3,f4,f5⟩:=hf it (by simp);have hl:=rv.length;exact wpAny_pyNext_tuple_end (I.ok.hd hc) st (show s.heap.IsTuple a its.toArray from p) (by simp;omega) λ h' eb=>⟨rfl,I.turned (t':=s.toks) (λ b o hb e=>eb b o hb e) f0 f1 f3 f4 f5⟩
 self:=λ _ _ _ _ _ st h=>wpAny_pyIter_tupleiter st h
theorem qga{P:Program}{w:World}{K:W.Frag}{tg:Expr}(it:Addr)(lo:Int)(n:Nat):Turn P w K tg (Itr lo n) [it] it (λ i h=>IsRangeIter h it (lo+(i:Nat)*1) ((n:Int)-(i:Nat)) 1) where
 mem:=by simp
 obj:=λ i h st b hb=>by
  have e:b=it:=by simpa using hb
  subst e;exact⟨_,st,λ v z=>by
   have z':Data.fields _=Data.cell v:=z;cases z'⟩
 keep:=λ i h h' st k=>k it (by simp) _ st
 item:=by
  intro X hP hw hK hc i pins s σ H E I hf st hg;subst hP hw hK;obtain⟨f0,f1,f2,f3,f4,f5⟩:=hf it (by simp);have W:=Walks.range (prog:=X.prog) (w:=X.w) (I.ok.hd hc) it lo 1 n;refine W.item i s _ _ hg st λ v h' tk hv b0 kk=>?_
  obtain⟨t,rfl⟩:=hv;have I1:Inv X pins σ H { s with heap:=h',toks:=tk }:=I.turned (λ b o hb e=>kk b o (by simpa using hb) e) f0 f1 f3 f4 f5;refine⟨_,rfl,qhj (s:={ s with heap:=h',toks:=tk }) (n:="range_iterator") b0 rfl rfl (by decide) ⟨.int (lo+i),H,I1,⟨t,?_⟩,⟨rfl,rfl⟩,b0,λ b hb=>(hf b hb).1⟩⟩;rw[Int.mul_one]
 done:=by
  intro X hP hw hK hc i pins s σ H E I hf st hg;subst hP hw hK;obtain⟨f0,f1,f2,f3,f4,f5⟩:=hf it (by simp);exact wpAny_pyNext_range_end (I.ok.hd hc) st (by have:n<=i:=hg;omega) λ h' eb=>⟨rfl,I.turned (t':=s.toks) (λ b o hb e=>eb b o hb e) f0 f1 f3 f4 f5⟩
 self:=λ _ _ _ _ _ st h=>wpAny_pyIter_rangeiter st h
section
variable {X:Cx}{tg:Expr}
def qno(K:W.Frag)(tl:TE):TI:=λ σ H R=>tl σ H λ x H1=>∃ a,x=.ref a/\(∃ xs,SqL K H1 a xs)/\R (Itl K a) H1
def qon(K:W.Frag)(tl:TE):TI:=λ σ H R=>tl σ H λ x H1=>∃ a,x=.ref a/\(∃ xs,SqT K H1 a xs)/\R (Itt K a) H1
theorem yi{l:Expr}{tl:TE}(hl:PE X l tl):PI X tg l (qno X.K tl):=by
 intro pins s σ H R I h;refine thn (hl pins s σ H _ I h) λ v s1 ⟨x,H1,I1,r1,q1⟩=>?_
 obtain⟨a,e,⟨xs,hq⟩,q⟩:=q1;subst e;cases r1
 obtain⟨its,rv,p,hz⟩:=I1.list hq;refine Uf p.isList ?_;refine⟨s1.heap.objs.size,[s1.heap.objs.size],_,_,H1,rfl,I1.kept (t':=s1.toks) λ b o e=>XI _ e,qh3 a _,⟨_,Yz _ rfl,rfl,rfl⟩,λ b hb=>?_,q⟩;have e:b=s1.heap.objs.size:=by simpa using hb
 subst e;exact I1.fpOk (Vc _) (I1.hok.fresh (Vc _))
theorem qch{l:Expr}{tl:TE}(hl:PE X l tl):PI X tg l (qon X.K tl):=by
 intro pins s σ H R I h;refine thn (hl pins s σ H _ I h) λ v s1 ⟨x,H1,I1,r1,q1⟩=>?_
 obtain⟨a,e,⟨xs,hq⟩,q⟩:=q1;subst e;cases r1
 obtain⟨its,rv,p,hz⟩:=I1.tuple hq;refine wpAny_pyIter_tuple (show s1.heap.IsTuple a its.toArray from p) ?_;refine⟨s1.heap.objs.size,[s1.heap.objs.size],_,_,H1,rfl,I1.kept (t':=s1.toks) λ b o e=>XI _ e,qf9 a _,⟨_,Yz _ rfl,rfl,rfl⟩,λ b hb=>?_,q⟩;have e:b=s1.heap.objs.size:=by simpa using hb
 subst e;exact I1.fpOk (Vc _) (I1.hok.fresh (Vc _))
theorem qjc{pins:List (Addr×Obj)}{σ:St}{H:Hp}{s:Shared}{R:It->Hp->Prop}{E:Value->Shared->Prop}{lo hi:Int}{t u v:Tok}{tk:Nat}(I:Inv X pins σ H s)(h1:-(2^62)<=lo)(h2:lo<2^62)(h3:-(2^62)<=hi)(h4:hi<2^62)(q:R (Itr lo (hi-lo).toNat) H):wpAny (model X.prog X.w) X.A (pyIter (.ref s.heap.objs.size)) (PIE X pins σ tg R) E { s with heap:=s.heap.push { cls:=.type "range",data:=.fields #[.int lo t,.int hi u,.int 1 v] },toks:=tk }:=by
 refine wpAny_pyIter_range (IsRange.new ..) (small_one h1 h2 h3 h4) ?_;have I1:Inv X pins σ H { s with heap:=s.heap.push { cls:=.type "range",data:=.fields #[.int lo t,.int hi u,.int 1 v] },toks:=tk }:=I.kept λ b o e=>XI _ e
 refine⟨(s.heap.push { cls:=.type "range",data:=.fields #[.int lo t,.int hi u,.int 1 v] }).objs.size,[(s.heap.push { cls:=.type "range",data:=.fields #[.int lo t,.int hi u,.int 1 v] }).objs.size],_,_,H,rfl,
  I1.kept (t':=tk) λ b o e=>XI _ e,qga _ lo (hi-lo).toNat,?_,λ b hb=>?_,q⟩
 ·have e1:lo+((0:Nat):Int)*1=lo:=by simp
  have e2:(((hi-lo).toNat:Nat):Int)-((0:Nat):Int)=Builtin.Range.rangeSize lo hi 1:=by rw[rangeSize_one];split <;> omega
  show IsRangeIter _ _ (lo+((0:Nat):Int)*1) ((((hi-lo).toNat:Nat):Int)-((0:Nat):Int)) 1
  rw[e1,e2];exact Yz _ rfl
 ·have e:b=(s.heap.push { cls:=.type "range",data:=.fields #[.int lo t,.int hi u,.int 1 v] }).objs.size:=by simpa using hb
  subst e;exact I1.fpOk (Vc _) (I1.hok.fresh (Vc _))
def qnp(ta:TA):TI:=λ σ H R=>ta σ H λ vs H1=>∃ j:Int,vs=[.int j]/\-(2^62)<=j/\j<2^62/\R (Itr 0 j.toNat) H1
theorem yc{a:Expr}{ta:TA}{p pos:Pos}(hg:Gl X "range")(hm:X.mg "range"=none)(ha:PA X [a] ta)(hs:starEach [a] X.env=[(false,eval a X.env)]:=by rfl):PI X tg (.Call (.Name "range" p) [a] [] pos) (qnp ta):=by
 intro pins s σ H R I h;refine Call_ (qbn I hg hm boot_range (Xh (thn (ha pos pins s σ H _ I h) λ us s1 ⟨vs,H1,I1,r1,q1⟩=>?_) hs rfl));obtain⟨j,e,q1,q2,q⟩:=q1;subst e;cases r1 with
 |cons r rr =>
  cases rr
  obtain⟨t,rfl⟩:=r;exact call_range_1 (qjc I1 (by omega) (by omega) q1 q2 (by simpa using q))
def qoo(wi:TI)(g:TG)(tb:TS):TS:=λ D σ H=>wi σ H λ J H1=>∃ W:Nat->Nat->St->Hp->Prop,(∃ m,W 0 m σ H1)/\∀ i m σ H,W i m σ H ->
 (J.stop i H/\D.nx σ H)∨(J.go i H/\∃ N:St->Hp->Prop,(∀ σ' H',N σ' H'->∃ m',m'<m/\W (i+1) m' σ' H')/\∀ x H',J.yld i H x H'->g x σ H' λ σ2 H2=>tb { D with nx:=N,ct:=N,bk:=D.nx } σ2 H2)
noncomputable def vB(fp:List Addr)(h:Heap):List (Addr×Obj):=fp.filterMap λ b=>(h.get? b).map λ o=>(b,o)
theorem yr{fp:List Addr}{h:Heap}{b:Addr}{o:Obj}(hb:b∈fp)(e:h.get? b=some o):(b,o)∈vB fp h:=List.mem_filterMap.mpr ⟨b,hb,by rw[e];rfl⟩
theorem qh4{fp:List Addr}{h:Heap}{p:Addr×Obj}(hp:p∈vB fp h):p.1∈fp/\h.get? p.1=some p.2:=by
 obtain⟨b,hb,e⟩:=List.mem_filterMap.mp hp;cases q:h.get? b with
 |none=>rw[q] at e;cases e
 |some o =>
  rw[q] at e;have e':(b,o)=p:=Option.some.inj e;subst e';exact⟨hb,q⟩
theorem Inv.pinned{pins:List (Addr×Obj)}{σ:St}{H:Hp}{s:Shared}{fp:List Addr}(I:Inv X pins σ H s)(hf:∀ b∈fp,jQ X pins H b)(ho:∀ b∈fp,∃ o,s.heap.get? b=some o/\∀ v,o.data≠.cell v):Inv X (pins++vB fp s.heap) σ H s:=
 I.pins_of λ p hp=>(U5.mp hp).elim (λ z=>I.pin p (XU _ z)) λ z=>by
  obtain⟨hb,e⟩:=qh4 z;obtain⟨f0,f1,f2,_⟩:=hf p.1 hb;obtain⟨o,e',d⟩:=ho p.1 hb;rw[e] at e';cases e';exact⟨e,f0,f1,f2,d⟩
theorem Inv.unpinned{pins pl:List (Addr×Obj)}{σ:St}{H:Hp}{s:Shared}(I:Inv X (pins++pl) σ H s):Inv X pins σ H s:=I.pins_of λ p hp=>I.pin p (XU _ (Ym _ hp))
theorem zR{iter:Expr}{body:List Stmt}{wi:TI}{g:TG}{tb:TS}{pos:Pos}(hp:PassesOwn (model X.prog X.w) X.A X.env X.xe)(hc:X.calm=true)(hi:PI X tg iter wi)(hg:PG X tg g)(hb:PSs X body tb)(hs:∀ x,foldedSetIterable iter X.env x=pure x:=by intro _;rfl):PS X (.For tg iter body [] pos) (qoo wi g tb):=by
 intro pins s σ H D I h;refine wpAny_For (thn (hi pins s σ H _ I h) λ v s1 h1=>thn h1 λ fG s2 h2=>?_) hs;obtain⟨it,fp,tn,J,H2,e,I2,T,i8,f2,W,⟨m0,w0⟩,turn⟩:=h2;subst e;have O1:∀{H':Hp},(∀ b∈fp,H' b=none)->∀ b∈fp,jQ X pins H' b:=λ hn b hb=>⟨hn b hb,(f2 b hb).2⟩
 refine codeAny_forLoop_any (λ n s'=>∃ i σ' H',Inv X pins σ' H' s'/\tn i s'.heap/\(∀ b∈fp,H' b=none)/\W i n σ' H') ?_ m0 ⟨0,σ,H2,I2,i8,λ b hb=>(f2 b hb).1,w0⟩;rintro n s3 ⟨i,σ3,H3,I3,G4,bM,w3⟩;rcases turn i n σ3 H3 w3 with⟨stop,qn⟩|⟨go,N,hN,step⟩
 ·refine Js hp (thn (T.done X rfl rfl rfl hc i pins s3 σ3 H3 X.xe I3 (O1 bM) G4 stop) λ r s4 ⟨hr,I4⟩=>?_);subst hr;exact Jr ⟨σ3,H3,I4,qn⟩
 ·refine Js hp (thn (T.item X rfl rfl rfl hc i pins s3 σ3 H3 X.xe I3 (O1 bM) G4 go) λ r s4 ⟨u,hr,h4⟩=>?_);subst hr;refine Js hp (thn h4 λ _ s5 ⟨x,H5,I5,r5,y5,O2,iX⟩=>?_);have I5':=I5.pinned (O1 iX) (T.obj _ _ O2);refine Js hp (thn (hg _ s5 σ3 H5 x u _ I5' r5 (step x H5 y5)) λ _ s6 ⟨σ6,H6,I6,q6⟩=>?_);refine Js hp (thn (hb _ s6 σ6 H6 _ I6 q6) λ f s7 q7=>?_);have again:∀{σ7:St}{H7:Hp},Inv X (pins++vB fp s5.heap) σ7 H7 s7->N σ7 H7->∃ m,m<n/\∃ i σ' H',Inv X pins σ' H' s7/\tn i s7.heap/\(∀ b∈fp,H' b=none)/\W i m σ' H':=λ{σ7 H7} I7 n7=>by
   obtain⟨m',hm,w7⟩:=hN σ7 H7 n7;refine⟨m',hm,i+1,σ7,H7,I7.unpinned,T.keep _ _ _ O2 λ b hb o e=>(I7.pin (b,o) (XU _ (XU _ (yr hb e)))).1,λ b hb=>?_,w7⟩;obtain⟨o,e,d⟩:=T.obj _ _ O2 b hb;exact(I7.pin (b,o) (XU _ (XU _ (yr hb e)))).2.1
  cases f with
  |next=>obtain⟨σ7,H7,I7,n7⟩:=q7;exact again I7 n7
  |cont=>obtain⟨σ7,H7,I7,n7⟩:=q7;exact again I7 n7
  |brk=>obtain⟨σ7,H7,I7,q7⟩:=q7;exact⟨σ7,H7,I7.unpinned,q7⟩
  |ret v=>obtain⟨x7,σ7,H7,I7,r7,q7⟩:=q7;exact⟨x7,σ7,H7,I7.unpinned,r7,q7⟩
end
theorem vC{K:W.Frag}{a:Addr}{xs:List V}{g:TG}{tb:TS}{D:Ends}{σ:St}{H:Hp}(Pv:Nat->St->Hp->Prop)(h0:Pv 0 σ H)(hl:∀ i σ H,i<=xs.length->Pv i σ H->SqL K H a xs)(hs:∀ i x σ H,xs[i]?=some x->Pv i σ H->g x σ H λ σ2 H2=>tb { D with nx:=Pv (i+1),ct:=Pv (i+1),bk:=D.nx } σ2 H2)(hd:∀ σ H,Pv xs.length σ H->D.nx σ H):
  ∃ W:Nat->Nat->St->Hp->Prop,(∃ m,W 0 m σ H)/\∀ i m σ H,W i m σ H ->
   ((Itl K a).stop i H/\D.nx σ H)∨((Itl K a).go i H/\∃ N:St->Hp->Prop,(∀ σ' H',N σ' H'->∃ m',m'<m/\W (i+1) m' σ' H')/\∀ x H',(Itl K a).yld i H x H'->g x σ H' λ σ2 H2=>tb { D with nx:=N,ct:=N,bk:=D.nx } σ2 H2):=by
 refine⟨λ i m σ H=>m=xs.length-i/\i<=xs.length/\Pv i σ H,⟨xs.length,by simp,Vd _,h0⟩,?_⟩;rintro i m σ H ⟨rfl,hi,p⟩;have q:=hl i σ H hi p;by_cases c7:i<xs.length
 ·refine .inr ⟨⟨xs,xs[i],q,by simp[c7]⟩,Pv (i+1),λ σ' H' p'=>⟨xs.length-(i+1),by omega,rfl,c7,p'⟩,λ x H' y=>?_⟩;obtain⟨e,y⟩:=y;subst e;exact hs i x σ _ (y xs q) p
 ·have e:i=xs.length:=by omega
  subst e;exact .inl ⟨⟨xs,q,Vc _⟩,hd σ H p⟩
theorem qhk{K:W.Frag}{a:Addr}{xs:List V}{g:TG}{tb:TS}{D:Ends}{σ:St}{H:Hp}(Pv:Nat->St->Hp->Prop)(h0:Pv 0 σ H)(hl:∀ i σ H,i<=xs.length->Pv i σ H->SqT K H a xs)(hs:∀ i x σ H,xs[i]?=some x->Pv i σ H->g x σ H λ σ2 H2=>tb { D with nx:=Pv (i+1),ct:=Pv (i+1),bk:=D.nx } σ2 H2)(hd:∀ σ H,Pv xs.length σ H->D.nx σ H):
  ∃ W:Nat->Nat->St->Hp->Prop,(∃ m,W 0 m σ H)/\∀ i m σ H,W i m σ H ->
   ((Itt K a).stop i H/\D.nx σ H)∨((Itt K a).go i H/\∃ N:St->Hp->Prop,(∀ σ' H',N σ' H'->∃ m',m'<m/\W (i+1) m' σ' H')/\∀ x H',(Itt K a).yld i H x H'->g x σ H' λ σ2 H2=>tb { D with nx:=N,ct:=N,bk:=D.nx } σ2 H2):=by
 refine⟨λ i m σ H=>m=xs.length-i/\i<=xs.length/\Pv i σ H,⟨xs.length,by simp,Vd _,h0⟩,?_⟩;rintro i m σ H ⟨rfl,hi,p⟩;have q:=hl i σ H hi p;by_cases c7:i<xs.length
 ·refine .inr ⟨⟨xs,xs[i],q,by simp[c7]⟩,Pv (i+1),λ σ' H' p'=>⟨xs.length-(i+1),by omega,rfl,c7,p'⟩,λ x H' y=>?_⟩;obtain⟨e,y⟩:=y;subst e;exact hs i x σ _ (y xs q) p
 ·have e:i=xs.length:=by omega
  subst e;exact .inl ⟨⟨xs,q,Vc _⟩,hd σ H p⟩
theorem jH{lo:Int}{n:Nat}{g:TG}{tb:TS}{D:Ends}{σ:St}{H:Hp}(Pv:Nat->St->Hp->Prop)(h0:Pv 0 σ H)(hs:∀ i σ H,i<n->Pv i σ H->g (.int (lo+i)) σ H λ σ2 H2=>tb { D with nx:=Pv (i+1),ct:=Pv (i+1),bk:=D.nx } σ2 H2)(hd:∀ σ H,Pv n σ H->D.nx σ H):
  ∃ W:Nat->Nat->St->Hp->Prop,(∃ m,W 0 m σ H)/\∀ i m σ H,W i m σ H ->
   ((Itr lo n).stop i H/\D.nx σ H)∨((Itr lo n).go i H/\∃ N:St->Hp->Prop,(∀ σ' H',N σ' H'->∃ m',m'<m/\W (i+1) m' σ' H')/\∀ x H',(Itr lo n).yld i H x H'->g x σ H' λ σ2 H2=>tb { D with nx:=N,ct:=N,bk:=D.nx } σ2 H2):=by
 refine⟨λ i m σ H=>m=n-i/\i<=n/\Pv i σ H,⟨n,by simp,Vd _,h0⟩,?_⟩;rintro i m σ H ⟨rfl,hi,p⟩;by_cases c7:i<n
 ·refine .inr ⟨c7,Pv (i+1),λ σ' H' p'=>⟨n-(i+1),by omega,rfl,c7,p'⟩,λ x H' y=>?_⟩;obtain⟨e,y⟩:=y;subst e y;exact hs i σ _ c7 p
 ·have e:i=n:=by omega
  subst e;exact .inl ⟨Vc _,hd σ H p⟩
abbrev R2:=V->V->Hp->VK->Prop
def OpR(X:Cx)(f:Value->Value->Sem Value)(r:R2):Prop:=
 ∀(pins:List (Addr×Obj))(s:Shared)(σ:St)(H:Hp)(x y:V)(v u:Value)(Q:VK),Inv X pins σ H s->qT x v->qT y u->r x y H Q ->
  wpAny (model X.prog X.w) X.A (f v u) (EP X pins σ Q) X.xe s
def UnR(X:Cx)(f:Value->Sem Value)(r:V->Hp->VK->Prop):Prop:=
 ∀(pins:List (Addr×Obj))(s:Shared)(σ:St)(H:Hp)(x:V)(v:Value)(Q:VK),Inv X pins σ H s->qT x v->r x H Q ->
  wpAny (model X.prog X.w) X.A (f v) (EP X pins σ Q) X.xe s
def jh(X:Cx)(f:Value)(r:List V->Hp->VK->Prop):Prop:=
 ∀(pins:List (Addr×Obj))(s:Shared)(σ:St)(H:Hp)(xs:List V)(us:List Value)(Q:VK),Inv X pins σ H s->qK xs us->r xs H Q ->
  wpAny (model X.prog X.w) X.A (call f us) (EP X pins σ Q) X.xe s
def tOp(r:R2)(ta tb:TE):TE:=λ σ H Q=>ta σ H λ x H1=>tb σ H1 λ y H2=>r x y H2 Q
def tUn(r:V->Hp->VK->Prop)(ta:TE):TE:=λ σ H Q=>ta σ H λ x H1=>r x H1 Q
def rI(C:Int->Int->Prop)(g:Int->Int->V):R2:=λ x y H Q=>∃ i j,x=.int i/\y=.int j/\C i j/\Q (g i j) H
def rI0(g:Int->Int->V):R2:=λ x y H Q=>∃ i j,x=.int i/\y=.int j/\Q (g i j) H
def rU(g:Int->V):V->Hp->VK->Prop:=λ x H Q=>∃ i,x=.int i/\Q (g i) H
section
variable {X:Cx}{a b c:Expr}{ta tb tc:TE}{pos:Pos}
theorem qmm(ha:PE X a ta)(hb:PE X b tb){pins:List (Addr×Obj)}{s:Shared}{σ:St}{H:Hp}{R:V->V->Hp->Prop}(I:Inv X pins σ H s)(h:ta σ H λ x H1=>tb σ H1 λ y H2=>R x y H2){Q:Value->Shared->Prop}{f:Value->Value->Sem Value}(hf:∀ v u s2 x y H2,Inv X pins σ H2 s2->qT x v->qT y u->R x y H2->wpAny (model X.prog X.w) X.A (f v u) Q X.xe s2):
  wpAny (model X.prog X.w) X.A (eval a X.env) (λ v s₁=>wpAny (model X.prog X.w) X.A (eval b X.env) (λ u s₂=>wpAny (model X.prog X.w) X.A (f v u) Q X.xe s₂) X.xe s₁) X.xe s:=by
 refine thn (ha pins s σ H _ I h) λ v s1 ⟨x,H1,I1,r1,q1⟩=>?_
 refine thn (hb pins s1 σ H1 _ I1 q1) λ u s2 ⟨y,H2,I2,r2,q2⟩=>?_
 exact hf v u s2 x y H2 I2 r1 r2 q2
theorem qk{op:Operator}{r:R2}(ho:OpR X (binaryOp op) r)(ha:PE X a ta)(hb:PE X b tb):PE X (.BinOp a op b pos) (tOp r ta tb):=by
 intro pins s σ H Q I h;exact wpAny_BinOp (qmm ha hb I h λ v u s2 x y H2 I2 rx ry q=>ho pins s2 σ H2 x y v u Q I2 rx ry q)
theorem qjd{op:UnaryOp}{r:V->Hp->VK->Prop}(ho:UnR X (unaryOp op) r)(ha:PE X a ta):PE X (.UnaryOp op a pos) (tUn r ta):=by
 intro pins s σ H Q I h;exact UnaryOp_ (thn (ha pins s σ H _ I h) λ v s1 ⟨x,H1,I1,r1,q1⟩=>ho pins s1 σ H1 x v Q I1 r1 q1)
theorem opI{f:Value->Value->Sem Value}{C:Int->Int->Prop}{g:Int->Int->Int}(rule:∀(i j:Int)(t u:Tok)(s:Shared)(Q:Value->Shared->Prop)(E:Value->Shared->Prop),C i j->Q (.int (g i j) s.toks) { s with toks:=s.toks+1 }->wpAny (model X.prog X.w) X.A (f (.int i t) (.int j u)) Q E s):
  OpR X f (rI C λ i j=>.int (g i j)):=by
 intro pins s σ H x y v u Q I rx ry h;obtain⟨i,j,rfl,rfl,hc,q⟩:=h;obtain⟨t,rfl⟩:=rx;obtain⟨t',rfl⟩:=ry;exact rule i j t t' s _ _ hc ⟨.int (g i j),H,I.tok _,⟨_,rfl⟩,q⟩
theorem qnq{f:Value->Value->Sem Value}{g:Int->Int->Int}(rule:∀(i j:Int)(t u:Tok)(s:Shared)(Q:Value->Shared->Prop)(E:Value->Shared->Prop),Q (.int (g i j) s.toks) { s with toks:=s.toks+1 }->wpAny (model X.prog X.w) X.A (f (.int i t) (.int j u)) Q E s):
  OpR X f (rI0 λ i j=>.int (g i j)):=by
 intro pins s σ H x y v u Q I rx ry h;obtain⟨i,j,rfl,rfl,q⟩:=h;obtain⟨t,rfl⟩:=rx;obtain⟨t',rfl⟩:=ry;exact rule i j t t' s _ _ ⟨.int (g i j),H,I.tok _,⟨_,rfl⟩,q⟩
theorem qnr{f:Value->Value->Sem Value}{g:Int->Int->Bool}(rule:∀(i j:Int)(t u:Tok)(s:Shared)(Q:Value->Shared->Prop)(E:Value->Shared->Prop),Q (.bool (g i j)) s->wpAny (model X.prog X.w) X.A (f (.int i t) (.int j u)) Q E s):
  OpR X f (rI0 λ i j=>.bl (g i j)):=by
 intro pins s σ H x y v u Q I rx ry h;obtain⟨i,j,rfl,rfl,q⟩:=h;obtain⟨t,rfl⟩:=rx;obtain⟨t',rfl⟩:=ry;exact rule i j t t' s _ _ ⟨.bl (g i j),H,I,rfl,q⟩
def qns(i j:Int):Prop:=0<j/\j<1073741824
def qk1(i j:Int):Prop:=(-(2^64)<i/\i<2^64)∨(-(2^64)<j/\j<2^64)
theorem qk1.ok{i j:Int}(h:qk1 i j):IntMulOk i j:=by
 rcases h with⟨h1,h2⟩|⟨h1,h2⟩
 ·exact .of_left (intBits_le_64 h1 h2)
 ·exact .of_right (intBits_le_64 h1 h2)
theorem qgb(k:Nat):(0:Int)<=2^k:=by
 rw[two_pow_cast];exact Zh _
theorem yj:OpR X (binaryOp .Add) (rI0 λ i j=>.int (i+j)):=qnq λ _ _ _ _ _ _ _ q=>add_int q
theorem qje:OpR X (binaryOp .Sub) (rI0 λ i j=>.int (i-j)):=qnq λ _ _ _ _ _ _ _ q=>sub_int q
theorem jR:OpR X (binaryOp .Mult) (rI qk1 λ i j=>.int (i*j)):=opI λ _ _ _ _ _ _ _ hc q=>mul_int q hc.ok
theorem zN:OpR X (binaryOp .FloorDiv) (rI qns λ i j=>.int (i / j)):=opI λ i j _ _ _ _ _ hc q=>by
 have h1:(0:Int)<j:=hc.1;have h2:j<1073741824:=hc.2;exact floordiv_int (by omega) (by rw[Int.fdiv_eq_ediv_of_nonneg i (by omega)];exact q) (.inl (PyProof.noPylong_small (by omega)))
theorem q8:OpR X (binaryOp .Mod) (rI (λ _ j=>0<j) λ i j=>.int (i % j)):=opI λ i j _ _ _ _ _ hc q=>by
 have h1:(0:Int)<j:=hc;exact mod_int' (by omega) (by rw[Int.fmod_eq_emod_of_nonneg i (by omega)];exact q)
theorem qmn:OpR X (binaryOp .RShift) (rI (λ _ j=>0<=j) λ i j=>.int (i / 2^j.toNat)):=opI λ i j _ _ _ _ _ hc q =>
 rshift_int hc (by rw[Int.fdiv_eq_ediv_of_nonneg i (qgb _)];exact q)
theorem unI{f:Value->Sem Value}{g:Int->Int}(rule:∀(i:Int)(t:Tok)(s:Shared)(Q:Value->Shared->Prop)(E:Value->Shared->Prop),Q (.int (g i) s.toks) { s with toks:=s.toks+1 }->wpAny (model X.prog X.w) X.A (f (.int i t)) Q E s):
  UnR X f (rU λ i=>.int (g i)):=by
 intro pins s σ H x v Q I rx h;obtain⟨i,rfl,q⟩:=h;obtain⟨t,rfl⟩:=rx;exact rule i t s _ _ ⟨.int (g i),H,I.tok _,⟨_,rfl⟩,q⟩
theorem qgc:UnR X (unaryOp .USub) (rU λ i=>.int (-i)):=unI λ _ _ _ _ _ q=>neg_int q
end
noncomputable def qnt:V->V->Bool
 |.non,.non=>true|.non,.int _=>true|.int _,.non=>true|.non,.bl _=>true|.bl _,.non=>true|.non,.str _=>true|.str _,.non=>true
 |.int _,.int _=>true|.bl _,.bl _=>true|.str _,.str _=>true|.byt _,.byt _=>true
 |.int _,.str _=>true|.str _,.int _=>true|.bl _,.str _=>true|.str _,.bl _=>true
 |_,_=>false
def rEq:R2:=λ x y H Q=>qnt x y=true/\Q (.bl (decide (x=y))) H
def rNe:R2:=λ x y H Q=>qnt x y=true/\Q (.bl (!decide (x=y))) H
theorem qhl{i j:Int}:decide (V.int i=V.int j)=(i == j):=by
 rw[U6];simp
theorem qjf{i j:Bool}:decide (V.bl i=V.bl j)=(i == j):=by
 rw[U6];simp
theorem qhm{i j:Str}:decide (V.str i=V.str j)=(i == j):=by
 rw[U6];simp
theorem qhn{i j:Array UInt8}:decide (V.byt i=V.byt j)=(i.toList == j.toList):=by
 rw[U6];cases i
 cases j
 simp
section
variable {X:Cx}{a b c:Expr}{ta tb tc:TE}{pos:Pos}
theorem qV{pins:List (Addr×Obj)}{σ:St}{H:Hp}{s:Shared}{Q:VK}{k k':Bool}(I:Inv X pins σ H s)(q:Q (.bl k) H)(e:k=k'):EP X pins σ Q (.bool k') s:=by
 subst e;exact⟨.bl k,H,I,rfl,q⟩
theorem zr:OpR X (compareOp .Eq) rEq:=by
 intro pins s σ H x y v u Q I rx ry h;obtain⟨hs,q⟩:=h;cases x with
 |non =>
  cases rx
  cases y with
  |non=>cases ry;exact PySem.EqNone.eq_none_none (qV I q (by simp))
  |bl j=>cases ry;exact PySem.EqNone.eq_none_bool (qV I q (by simp))
  |int j=>obtain⟨t',rfl⟩:=ry;exact PySem.EqNone.eq_none_int (qV I q (by simp))
  |str j=>obtain⟨t',rfl⟩:=ry;exact PySem.EqNone.eq_none_str (qV I q (by simp))
  |_=>exact absurd (show false=true from hs) Zg
 |bl i =>
  cases rx
  cases y with
  |non=>cases ry;exact PySem.EqNone.eq_bool_none (qV I q (by simp))
  |bl j=>cases ry;exact eq_bool (qV I q qjf)
  |str j=>obtain⟨t',rfl⟩:=ry;exact PySem.EqMixed.eq_bool_str (qV I q (by simp))
  |_=>exact absurd (show false=true from hs) Zg
 |int i =>
  obtain⟨t,rfl⟩:=rx;cases y with
  |non=>cases ry;exact PySem.EqNone.eq_int_none (qV I q (by simp))
  |int j=>obtain⟨t',rfl⟩:=ry;exact eq_int (qV I q qhl)
  |str j=>obtain⟨t',rfl⟩:=ry;exact PySem.EqMixed.eq_int_str (qV I q (by simp))
  |_=>exact absurd (show false=true from hs) Zg
 |str i =>
  obtain⟨t,rfl⟩:=rx;cases y with
  |non=>cases ry;exact PySem.EqNone.eq_str_none (qV I q (by simp))
  |bl j=>cases ry;exact PySem.EqMixed.eq_str_bool (qV I q (by simp))
  |int j=>obtain⟨t',rfl⟩:=ry;exact PySem.EqMixed.eq_str_int (qV I q (by simp))
  |str j=>obtain⟨t',rfl⟩:=ry;exact eq_str (qV I q qhm)
  |_=>exact absurd (show false=true from hs) Zg
 |byt i =>
  obtain⟨t,rfl⟩:=rx;cases y with
  |byt j=>obtain⟨t',rfl⟩:=ry;exact W.eq_bytes (qV I q qhn)
  |_=>exact absurd (show false=true from hs) Zg
 |_=>cases y <;> exact absurd (show false=true from hs) Zg
theorem qjg:OpR X (compareOp .NotEq) rNe:=by
 intro pins s σ H x y v u Q I rx ry h;obtain⟨hs,q⟩:=h;cases x with
 |non =>
  cases rx
  cases y with
  |non=>cases ry;exact PySem.EqNone.ne_none_none (qV I q (by simp))
  |bl j=>cases ry;exact PySem.EqNone.ne_none_bool (qV I q (by simp))
  |int j=>obtain⟨t',rfl⟩:=ry;exact PySem.EqNone.ne_none_int (qV I q (by simp))
  |str j=>obtain⟨t',rfl⟩:=ry;exact PySem.EqNone.ne_none_str (qV I q (by simp))
  |_=>exact absurd (show false=true from hs) Zg
 |bl i =>
  cases rx
  cases y with
  |non=>cases ry;exact PySem.EqNone.ne_bool_none (qV I q (by simp))
  |bl j=>cases ry;exact ne_bool (qV I q (congrArg not qjf))
  |str j=>obtain⟨t',rfl⟩:=ry;exact PySem.EqMixed.ne_bool_str (qV I q (by simp))
  |_=>exact absurd (show false=true from hs) Zg
 |int i =>
  obtain⟨t,rfl⟩:=rx;cases y with
  |non=>cases ry;exact PySem.EqNone.ne_int_none (qV I q (by simp))
  |int j=>obtain⟨t',rfl⟩:=ry;exact ne_int (qV I q (congrArg not qhl))
  |str j=>obtain⟨t',rfl⟩:=ry;exact PySem.EqMixed.ne_int_str (qV I q (by simp))
  |_=>exact absurd (show false=true from hs) Zg
 |str i =>
  obtain⟨t,rfl⟩:=rx;cases y with
  |non=>cases ry;exact PySem.EqNone.ne_str_none (qV I q (by simp))
  |bl j=>cases ry;exact PySem.EqMixed.ne_str_bool (qV I q (by simp))
  |int j=>obtain⟨t',rfl⟩:=ry;exact PySem.EqMixed.ne_str_int (qV I q (by simp))
  |str j=>obtain⟨t',rfl⟩:=ry;exact ne_str (qV I q (congrArg not qhm))
  |_=>exact absurd (show false=true from hs) Zg
 |byt i =>
  obtain⟨t,rfl⟩:=rx;cases y with
  |byt j=>obtain⟨t',rfl⟩:=ry;exact W.ne_bytes (qV I q (congrArg not qhn))
  |_=>exact absurd (show false=true from hs) Zg
 |_=>cases y <;> exact absurd (show false=true from hs) Zg
theorem qho:OpR X (compareOp .Lt) (rI0 λ i j=>.bl (decide (i<j))):=qnr λ _ _ _ _ _ _ _ q=>lt_int q
theorem qci:OpR X (compareOp .Gt) (rI0 λ i j=>.bl (decide (j<i))):=qnr λ _ _ _ _ _ _ _ q=>gt_int q
theorem qh5:OpR X (compareOp .In) (λ x y H Q=>∃ i j,x=.str i/\y=.str j/\Q (.bl (!(Builtin.Str.occurrences j i 0 j.length 1).isEmpty)) H):=by
 intro pins s σ H x y v u Q I rx ry h;obtain⟨i,j,rfl,rfl,q⟩:=h;obtain⟨t,rfl⟩:=rx;obtain⟨t',rfl⟩:=ry;exact in_str (qV I q rfl)
theorem qjh:OpR X (compareOp .Is) (λ x y H Q=>y=.non/\Q (.bl (decide (x=.non))) H):=by
 intro pins s σ H x y v u Q I rx ry h;obtain⟨rfl,q⟩:=h;cases ry
 refine is_none_gen (qV I q ?_);cases x <;> first
  |(cases rx;rfl)
  |(obtain⟨t,rfl⟩:=rx;rfl)
theorem qG(b:Expr){op:CmpOp}(h:op≠.In:=by decide)(h2:op≠.NotIn:=by decide):behindInMarks op b=false:=by
 have e1:(op == CmpOp.In)=false:=by cases op <;> first|rfl|exact absurd rfl h
 have e2:(op == CmpOp.NotIn)=false:=by cases op <;> first|rfl|exact absurd rfl h2
 cases b <;> simp[behindInMarks,e1,e2]
theorem yY{op:CmpOp}{r:R2}(ho:OpR X (compareOp op) r)(ha:PE X a ta)(hb:PE X b tb)(hm:behindInMarks op b=false):PE X (.Compare a [op] [b] pos) (tOp r ta tb):=by
 intro pins s σ H Q I h;exact wpAny_Compare1 (qmm ha hb I h λ v u s2 x y H2 I2 rx ry q=>ho pins s2 σ H2 x y v u Q I2 rx ry q) hm
def qji(t:TE):TT:=λ σ H Q=>t σ H λ x H'=>∃ k,x=.bl k/\Q k H'
theorem qx{op:CmpOp}{r:R2}(ho:OpR X (compareOp op) r)(ha:PE X a ta)(hb:PE X b tb)(hm:behindInMarks op b=false):PT X (.Compare a [op] [b] pos) (qji (tOp r ta tb)):=by
 intro pins s σ H Q I h;refine wpAny_isTrue_Compare1 (thn (ha pins s σ H _ I h) λ v s1 ⟨x,H1,I1,r1,q1⟩=>thn (hb pins s1 σ H1 _ I1 q1) λ u s2 ⟨y,H2,I2,r2,q2⟩ =>
  thn (ho pins s2 σ H2 x y v u _ I2 r1 r2 q2) λ c s3 ⟨z,H3,I3,r3,k,e,q3⟩=>?_) hm
 subst e;cases r3
 exact Ud ⟨H3,I3,q3⟩
theorem vD:(sizeLine:Nat)<2^63:=by rw[sizeLine_eq];decide
theorem qcj:OpR X (binaryOp .Add) (λ x y H Q=>∃ i j,x=.str i/\y=.str j/\i.length+j.length<=sizeLine/\Q (.str (i++j)) H):=by
 intro pins s σ H x y v u Q I rx ry h;obtain⟨i,j,rfl,rfl,hz,q⟩:=h;obtain⟨t,rfl⟩:=rx;obtain⟨t',rfl⟩:=ry;exact add_str (λ t' tk=>⟨.str (i++j),H,I.tok _,⟨_,rfl⟩,q⟩) hz
theorem yd{x:V}{us:List Value}(r:qK [x] us):∃ u,us=[u]/\qT x u:=by
 cases r with
 |cons r1 r2=>cases r2;exact⟨_,rfl,r1⟩
theorem qhp{x y:V}{us:List Value}(r:qK [x,y] us):∃ u w',us=[u,w']/\qT x u/\qT y w':=by
 cases r with
 |cons r1 r2 =>
  cases r2 with
  |cons r3 r4=>cases r4;exact⟨_,_,rfl,r1,r3⟩
theorem qh6(hc:X.calm=true):jh X (.builtin "max") (λ xs H Q=>∃ i j,xs=[.int i,.int j]/\Q (.int (if j > i then j else i)) H):=by
 intro pins s σ H xs us Q I r h;obtain⟨i,j,rfl,q⟩:=h;obtain⟨u,w',rfl,⟨t,rfl⟩,⟨t',rfl⟩⟩:=qhp r;refine max_two_ints (I.ok.hd hc) λ h' tk k=>⟨_,H,I.kept k,?_,q⟩
 by_cases hj:j > i
 ·rw[V2 hj,V2 hj];exact⟨_,rfl⟩
 ·rw[V3 hj,V3 hj];exact⟨_,rfl⟩
theorem qh7(hc:X.calm=true):jh X (.builtin "min") (λ xs H Q=>∃ i j,xs=[.int i,.int j]/\Q (.int (if j<i then j else i)) H):=by
 intro pins s σ H xs us Q I r h;obtain⟨i,j,rfl,q⟩:=h;obtain⟨u,w',rfl,⟨t,rfl⟩,⟨t',rfl⟩⟩:=qhp r;refine min_two_ints (I.ok.hd hc) λ h' tk k=>⟨_,H,I.kept k,?_,q⟩
 by_cases hj:j<i
 ·rw[V2 hj,V2 hj];exact⟨_,rfl⟩
 ·rw[V3 hj,V3 hj];exact⟨_,rfl⟩
theorem qbo:jh X (.type "int") (λ xs H Q=>(∃ i,xs=[.int i]/\Q (.int i) H)∨∃ k,xs=[.bl k]/\Q (.int (if k then 1 else 0)) H):=by
 intro pins s σ H xs us Q I r h;rcases h with⟨i,rfl,q⟩|⟨k,rfl,q⟩
 ·obtain⟨u,rfl,t,rfl⟩:=yd r;exact call_int_int ⟨.int i,H,I,⟨_,rfl⟩,q⟩
 ·obtain⟨u,rfl,r1⟩:=yd r;cases r1
  exact call_int_bool ⟨.int (if k then 1 else 0),H,I.tok _,⟨_,rfl⟩,q⟩
end
structure ObjM(h:Heap)(x dx C:Addr)(mA:Str->Option Value):Prop where
 obj:h.get? x=some (W.instObj C dx)
 ns:h.Ns1 dx mA
 ne:dx≠x
theorem qh8{h:Heap}{dx:Addr}{mA:Str->Option Value}(n:h.Ns1 dx mA):∃ od,h.get? dx=some od/\∀ name,W.lookIn name od=some (mA name):=by
 obtain⟨o,es,ep,ho,hd,hk,_,hm⟩:=n;refine⟨o,ho,λ name=>?_⟩;have e:=hm name;unfold nsFind findBy at e;rw[<- Array.find?_toList] at e;unfold W.lookIn;rw[hd];dsimp only;split
 ·rename_i y q;rw[q] at e;exact congrArg some e
 ·rename_i q;rw[q] at e;have a:es.toList.any (·.refKey)=false:=by
   rw[List.any_eq_false];intro y hy;obtain⟨z,t,G9⟩:=hk y (Array.mem_toList_iff.mp hy);simp[DictEntry.refKey,G9]
  have a':¬ es.toList.any (·.refKey)=true:=by rw[a];exact Zg
  rw[V3 a'];exact congrArg some e
theorem ObjM.look{h:Heap}{x dx C:Addr}{mA:Str->Option Value}(I:ObjM h x dx C mA):∃ od,PySem.W.InstAt h x (W.instObj C dx) C (some od)/\∀ name,W.lookIn name od=some (mA name):=
 let ⟨od,ho,hl⟩:=qh8 I.ns
 ⟨od,⟨I.obj,rfl,rfl,ho⟩,hl⟩
section
variable {prog:Program}{w:World}{A:Around}{E:Value->Shared->Prop}{s:Shared}{K:W.Frag}{x dx C f:Addr}{mA:Str->Option Value}{name:Str}{v:Value}
theorem qk2{expr:Bool}{Q:Value->Shared->Prop}(X:K.In s.heap)(I:ObjM s.heap x dx C mA)(hg:W.plainGet K C name=true)(hh:W.hasDictIn K C=true)(ha:W.findIn K (.ref C) name=some none)(hv:mA name=some v)(iE:W.handedIn v=true)(h:Q v { s with toks:=s.toks+1 }):
  wpAny (model prog w) A (getAttr (.ref x) name expr) Q E s:=by
 obtain⟨od,J,hl⟩:=I.look;exact W.get_value X J (W.plainGet_of hg).1 (W.findObj_own hh ha rfl (by rw[hl,hv])) iE h
theorem qjj{pl:Sem Bool}{Q:Value×List Value->Shared->Prop}(X:K.In s.heap)(I:ObjM s.heap x dx C mA)(hg:W.plainGet K C name=true)(hf:W.findIn K (.ref C) name=some (some (.ref f)))(ht:W.isFn K (.ref f)=true)(hv:mA name=none)(h:Q (.ref f,[.ref x]) s):
  wpAny (model prog w) A (getMethod (.ref x) name pl) Q E s:=by
 obtain⟨od,J,hl⟩:=I.look;exact W.method_fn X J (W.plainGet_of hg).1 (W.plainGet_of hg).2 hf (Vn.mp ht) (by show(W.lookIn name od).map (·.isSome)=some false;rw[hl,hv];rfl) h
theorem qk3{ns:List Str}{Q:Unit->Shared->Prop}(X:K.In s.heap)(I:ObjM s.heap x dx C mA)(hs:W.findIn K (.ref C) "__setattr__"=some (some (.builtin "object.__setattr__")))(hp:W.plainOver K C=true)(ht:W.takerIn K C name=some none)(hh:W.hasDictIn K C=true)(hw:PySem.Within mA ns)(hsz:ns.length<=sizeLine)(h:∀ h',ObjM h' x dx C (λ y=>if y=name then some v else mA y)->Heap.SameBut dx s.heap h'->Q () { s with heap:=h',toks:=s.toks+2 }):
  wpAny (model prog w) A (setAttr (.ref x) name v) Q E s:=by
 obtain⟨od,J,hl⟩:=I.look;refine W.set_plain X J hs (W.osa_open (s:={ s with toks:=s.toks+1 }) (r:=none) X J hp ht λ b=>?_);obtain⟨cd,hc,pI⟩:=W.any_some hh;have hx:s.heap.get? x=some ⟨.ref C,some dx,.plain,#[]⟩:=I.obj;refine Vk (Vl (Vk (Vk (wpAny_loadPart hx (Vk (PySem.W.Looks.here (s:={ s with toks:=s.toks+1 }) (W.looks_clsIn X hc) ?_))))));rw[pI];refine Vl (a:=some dx) (Vk (Vl (Vk ?_)));refine wpAny_nsSet1 (s:={ s with toks:=s.toks+1 }) I.ns λ h' aS t5=>?_
 obtain⟨oD,esD,epD,hoD,hdD,hcD⟩:=aS.count (PySem.Within.cons name v hw);refine Vk (wpAny_lookBehind hoD (by rw[hdD];exact pastItsLine_dict (Qx hcD (by rw[Uo];omega))) ?_);exact Vl (h _ ⟨(t5.2 _ (Vx I.ne)).trans I.obj,aS,I.ne⟩ t5)
theorem qjk{R:Result->Shared->Prop}{vs:List Value}{kw:List (Str×Value)}(X:K.In s.heap)(hm:W.makesIn K C=true)(hi:W.findIn K (.ref C) "__init__"=some (some (.ref f)))(hf:W.typeIn K (.ref f)=some (.type "function"))(h:codeAny (model prog w) (A.under (.builtin "type.__call__" ⟨.ref C::vs,kw⟩)) (.call (.ref f) ⟨.ref (s.heap.objs.size+1)::vs,kw⟩) (PySem.W.InitBack (s.heap.objs.size+1) R)
   { s with heap:=(s.heap.push W.emptyDict).push (W.instObj C s.heap.objs.size) }):
  codeAny (model prog w) A (.call (.ref C) ⟨vs,kw⟩) R s:=by
 obtain⟨hh,g,d,t,os⟩:=s;exact W.make_core (W.makes_of X hm) (W.looks_findIn X hi) (λ self=>W.bind_fn X self hf) (.inl rfl) h
theorem qh9{R:Result->Shared->Prop}(X:K.In s.heap)(hm:W.makesIn K C=true)(hi:W.findIn K (.ref C) "__init__"=some (some (.builtin "object.__init__")))(hb:∀ self,PySem.W.Looks (model prog w) s.heap (bindSpecial (.builtin "object.__init__") self) (.builtin "object.__init__",[self]))(h:codeAny (model prog w) (A.under (.builtin "type.__call__" ⟨[.ref C],[]⟩)) (.call (.builtin "object.__init__") ⟨[.ref (s.heap.objs.size+1)],[]⟩) (PySem.W.InitBack (s.heap.objs.size+1) R)
   { s with heap:=(s.heap.push W.emptyDict).push (W.instObj C s.heap.objs.size) }):
  codeAny (model prog w) A (.call (.ref C) ⟨[],[]⟩) R s:=by
 obtain⟨hh,g,d,t,os⟩:=s;exact W.make_core (W.makes_of X hm) (W.looks_findIn X hi) hb (.inr ⟨rfl,rfl⟩) h
end
noncomputable def k6(f:Str)(v:V):List (Str×V)->List (Str×V)
 | []=>[(f,v)]
 |(g,x)::r=>if g=f then(g,v)::r else(g,x)::k6 f v r
theorem qbK(f g:Str)(v:V):∀ fs:List (Str×V),(k6 f v fs).lookup g=if g=f then some v else fs.lookup g
 | []=>by
  show List.lookup g [(f,v)]=_
  by_cases h:g=f
  ·have hb:(g == f)=true:=Vn.mpr h;simp only[List.lookup,hb,V2 h]
  ·have hb:(g == f)=false:=Zc.mpr h;simp only[List.lookup,hb,V3 h]
 |(k,x)::r=>by
  have ih:=qbK f g v r;rw[show k6 f v ((k,x)::r)=(if k=f then(k,v)::r else(k,x)::k6 f v r) from rfl];by_cases hk:k=f
  ·rw[V2 hk];by_cases h:g=k
   ·have hb:(g == k)=true:=Vn.mpr h;simp only[List.lookup,hb,V2 (h.trans hk)]
   ·have hb:(g == k)=false:=Zc.mpr h;simp only[List.lookup,hb,V3 (λ e:g=f=>h (e.trans hk.symm))]
  ·rw[V3 hk];by_cases h:g=k
   ·have hb:(g == k)=true:=Vn.mpr h;simp only[List.lookup,hb,V3 (λ e:g=f=>hk (h.symm.trans e))]
   ·have hb:(g == k)=false:=Zc.mpr h;simp only[List.lookup,hb];exact ih
theorem qbp(f:Str)(v:V):∀ fs:List (Str×V),f∈(k6 f v fs).map (·.1)/\∀ g,g∈fs.map (·.1)->g∈(k6 f v fs).map (·.1)
 | []=>⟨by simp[k6],λ g h=>by simp at h⟩
 |(k,x)::r=>by
  obtain⟨i1,i2⟩:=qbp f v r;rw[show k6 f v ((k,x)::r)=(if k=f then(k,v)::r else(k,x)::k6 f v r) from rfl];by_cases hk:k=f
  ·rw[V2 hk];subst hk;exact⟨by simp,λ g h=>by simpa using h⟩
  ·rw[V3 hk];refine⟨?_,λ g h=>?_⟩
   ·rw[Qi];exact Yl _ i1
   ·rw[Qi] at h ⊢;rcases Qh.mp h with e | e
    ·exact Qh.mpr (.inl e)
    ·exact Yl _ (i2 g e)
theorem qbL(f:Str)(v:V):∀ fs:List (Str×V),(k6 f v fs).length<=fs.length+1
 | []=>by simp[k6]
 |(k,x)::r=>by
  have ih:=qbL f v r;rw[show k6 f v ((k,x)::r)=(if k=f then(k,v)::r else(k,x)::k6 f v r) from rfl];by_cases hk:k=f
  ·rw[V2 hk,Uo,Uo];omega
  ·rw[V3 hk,Uo,Uo];omega
theorem vz.some_of{v:V}{o:Option Value}(r:vz (some v) o):∃ u,o=some u/\qT v u:=by
 cases o with
 |none=>exact(show False from r).elim
 |some u=>exact⟨u,rfl,r⟩
theorem vz.none_of{o:Option Value}(r:vz none o):o=none:=by
 cases o with
 |none=>rfl
 |some u=>exact(show False from r).elim
theorem qia{v:V}{u:Value}(r:qT v u):W.handedIn u=true:=by
 cases v with
 |non=>cases(show u=Value.none from r);rfl
 |bl b=>cases(show u=Value.bool b from r);rfl
 |int i=>obtain⟨t,e⟩:=(show ∃ t,u=Value.int i t from r);cases e;rfl
 |str x=>obtain⟨t,e⟩:=(show ∃ t,u=Value.str x t from r);cases e;rfl
 |byt b=>obtain⟨t,e⟩:=(show ∃ t,u=Value.bytes b t from r);cases e;rfl
 |flt b=>obtain⟨t,e⟩:=(show ∃ t,u=Value.float b t from r);cases e;rfl
 |ref a=>cases(show u=Value.ref a from r);rfl
 |ty n=>cases(show u=Value.type n from r);rfl
section
variable {P:Program}{w:World}{H H':Hp}{h h':Heap}{a C dx:Addr}{fs T4:List (Str×V)}
theorem qef(hok:HOk P w H h)(e:H a=some (.ins C dx fs)):∃ mA,ObjM h a dx C mA/\(∀ f,vz (fs.lookup f) (mA f))/\PySem.Within mA (fs.map (·.1))/\fs.length<=1000/\H dx=some (.own a):=by
 obtain⟨d,z,ne,ob,mA,n,r,q⟩:=(show zG P w H h a (.ins C dx fs) from hok a _ e);exact⟨mA,⟨ob,n,ne⟩,r,q,z,d⟩
end
structure Cls(K:W.Frag)(C:Addr):Prop where
 pg:W.plainGet K C Str.empty=true
 hd:W.hasDictIn K C=true
 po:W.plainOver K C=true
 sa:W.findIn K (.ref C) "__setattr__"=some (some (.builtin "object.__setattr__"))
theorem Cls.get{K:W.Frag}{C:Addr}(c:Cls K C)(f:Str):W.plainGet K C f=true:=c.pg
def NoAttr(K:W.Frag)(C:Addr)(f:Str):Prop:=W.findIn K (.ref C) f=some none
theorem NoAttr.taker{K:W.Frag}{C:Addr}{f:Str}(n:NoAttr K C f):W.takerIn K C f=some none:=by
 unfold W.takerIn;rw[show W.findIn K (.ref C) f=some none from n];rfl
structure Meth(K:W.Frag)(C:Addr)(m:Str)(f:Addr):Prop where
 at_:W.findIn K (.ref C) m=some (some (.ref f))
 fn:W.isFn K (.ref f)=true
 kp:W.keepIn K (.ref f)=true
section
variable {X:Cx}{pins:List (Addr×Obj)}{σ:St}{H:Hp}{s:Shared}{a C dx:Addr}{fs:List (Str×V)}{f:Str}{v:V}{A:Around}{E:Value->Shared->Prop}
theorem qgd{b:Bool}{Q:Value->Shared->Prop}(I:Inv X pins σ H s)(e:H a=some (.ins C dx fs))(c:Cls X.K C)(n:NoAttr X.K C f)(l:fs.lookup f=some v)(h:∀ u s',Inv X pins σ H s'->qT v u->Q u s'):wpAny (model X.prog X.w) A (getAttr (.ref a) f b) Q E s:=by
 obtain⟨mA,O,r,_,_,_⟩:=qef I.hok e;obtain⟨u,hu,ru⟩:=vz.some_of (v:=v) (o:=mA f) (by rw[<- l];exact r f);exact qk2 I.kIn O (c.get f) c.hd n hu (qia ru) (h u _ (I.tok _) ru)
theorem qck{m:Str}{g:Addr}{pl:Sem Bool}{Q:Value×List Value->Shared->Prop}(I:Inv X pins σ H s)(e:H a=some (.ins C dx fs))(c:Cls X.K C)(k:Meth X.K C m g)(l:fs.lookup m=none)(h:Q (.ref g,[.ref a]) s):wpAny (model X.prog X.w) A (getMethod (.ref a) m pl) Q E s:=by
 obtain⟨mA,O,r,_,_,_⟩:=qef I.hok e;have hn:mA m=none:=vz.none_of (by rw[<- l];exact r m);exact qjj I.kIn O (c.get m) k.at_ k.fn hn h
theorem qge{y:V}{u:Value}{Q:Unit->Shared->Prop}(I:Inv X pins σ H s)(e:H a=some (.ins C dx fs))(c:Cls X.K C)(n:NoAttr X.K C f)(hl:fs.length<1000)(ry:qT y u)(h:∀ s',Inv X pins σ (upd H a (.ins C dx (k6 f y fs))) s'->Q () s'):wpAny (model X.prog X.w) A (setAttr (.ref a) f u) Q E s:=by
 obtain⟨mA,O,r,wi,_,ho⟩:=qef I.hok e;have hz:(fs.map (·.1)).length<=sizeLine:=by rw[U7,sizeLine_eq];omega
 refine qk3 I.kIn O c.sa c.po n.taker c.hd wi hz λ h' O' sb=>h _ ?_
 have hd:∃ o,h'.get? dx=some o:=let ⟨o,_,_,e',_⟩:=O'.ns;⟨o,e'⟩;refine I.write (x:=a) (e:=dx) (by rw[e];exact True.intro) (.inr ho) (λ b q hb z=>(sb.2 b hb).trans z) hd ?_;refine⟨by rw[qv O.ne];exact ho,?_,O.ne,O'.obj,_,O'.ns,λ g=>?_,λ g hg=>?_⟩
 ·have:=qbL f y fs;omega
 ·show vz ((k6 f y fs).lookup g) (if g=f then some u else mA g)
  rw[qbK];by_cases q:g=f
  ·rw[V2 q,V2 q];exact ry
  ·rw[V3 q,V3 q];exact r g
 ·by_cases q:g=f
  ·rw[q];exact(qbp f y fs).1
  ·refine(qbp f y fs).2 g (wi g λ z=>hg ?_);show(if g=f then some u else mA g)=none
   rw[V3 q];exact z
theorem Inv.made(I:Inv X pins σ H s):Inv X pins σ (upd (upd H s.heap.objs.size (.own (s.heap.objs.size+1))) (s.heap.objs.size+1) (.ins C s.heap.objs.size []))
  { s with heap:=(s.heap.push W.emptyDict).push (W.instObj C s.heap.objs.size) }:=by
 have e1:(s.heap.push W.emptyDict).get? s.heap.objs.size=some W.emptyDict:=Yz s.heap rfl;have e2:((s.heap.push W.emptyDict).push (W.instObj C s.heap.objs.size)).get? (s.heap.objs.size+1)=some (W.instObj C s.heap.objs.size):=by
  have:=Yz (s.heap.push W.emptyDict) (o:=W.instObj C s.heap.objs.size) rfl
  rwa [Jz] at this
 have e3:(s.heap.push W.emptyDict).Ns s.heap.objs.size (λ _=>none):=⟨W.emptyDict,#[],_,e1,rfl,(λ e he=>absurd he (by simp)),λ _=>rfl⟩;have I1:=I.laid (a:=s.heap.objs.size) (o:=.own (s.heap.objs.size+1)) (h':=s.heap.push W.emptyDict) (t':=s.toks) (λ b u q=>XI _ q) (Vc _) ⟨_,e1⟩;refine I1.laid (a:=s.heap.objs.size+1) (o:=.ins C s.heap.objs.size []) (t':=s.toks) (λ b u q=>XI _ q) (Nat.le_of_eq (Jz _ _)) ?_;have ne:s.heap.objs.size≠s.heap.objs.size+1:=Qw (Up _);refine⟨by rw[qv ne,qc],Vd _,ne,e2,λ _=>none,(Heap.Ns1.of_empty e3).at λ o q=>XI _ q,λ _=>True.intro,λ y hy=>absurd rfl hy⟩
theorem qk4{prog:Program}{w:World}{env:Env}{e:Expr}{f:Str}{pos:Pos}{s:Shared}{Q:Value->Shared->Prop}(hb:attributeBase e f env (eval e env)=eval e env)(h:wpAny (model prog w) A (eval e env) (λ o s₁=>wpAny (model prog w) A (getAttr o f true) Q E s₁) E s):wpAny (model prog w) A (eval (.Attribute e f pos) env) Q E s:=
 Attribute_any_ h (by rw[arm_eval_Attribute,hb])
end
def qnu(K:W.Frag)(ta:TE)(f:Str):TE:=λ σ H Q=>ta σ H λ x H1=>∃ a C dx fs v,x=.ref a/\H1 a=some (.ins C dx fs)/\Cls K C/\NoAttr K C f/\fs.lookup f=some v/\Q v H1
def qop(K:W.Frag)(ta tv:TE)(f:Str):TS:=λ D σ H=>tv σ H λ y H1=>ta σ H1 λ x H2=>∃ a C dx fs,x=.ref a/\H2 a=some (.ins C dx fs)/\Cls K C/\NoAttr K C f/\fs.length<1000 /\
 D.nx σ (upd H2 a (.ins C dx (k6 f y fs)))
section
variable {X:Cx}{o e value:Expr}{f:Str}{pos x6 A9:Pos}{ta tv:TE}
theorem ze(he:PE X e ta)(hb:attributeBase e f X.env (eval e X.env)=eval e X.env):PE X (.Attribute e f pos) (qnu X.K ta f):=by
 intro pins s σ H Q I h;refine qk4 hb (thn (he pins s σ H _ I h) λ u s1 ⟨x,H1,I1,rx,a,C,dx,fs,v,ex,ea,c,n,l,q⟩=>?_);subst ex;obtain rfl:u=Value.ref a:=rx;exact qgd I1 ea c n l λ u' s2 I2 ru=>⟨v,H1,I2,ru,q⟩
theorem jS(ha:PE X o ta)(hv:PE X value tv)(hs:swapsWith value (some (.Attribute o f x6)) pos.line X.env=pure false):PS X (.Assign [.Attribute o f x6] value pos) (qop X.K ta tv f):=by
 intro pins s σ H D I h;refine plainObj_wpAny_Assign_Attribute (thn (hv pins s σ H _ I h) λ u s1 ⟨y,H1,I1,ry,q⟩=>thn (ha pins s1 σ H1 _ I1 q) λ ov s2 ⟨x,H2,I2,rx,a,C,dx,fs,ex,ea,c,n,l,q2⟩=>?_) hs;subst ex;obtain rfl:ov=Value.ref a:=rx;exact qge I2 ea c n l ry λ s3 I3=>⟨σ,_,I3,q2⟩
end
structure Room(k:Nat)(A:Around):Prop where
 hd:A.handled=none
 dp:A.depth+3*k+5<recursionLimit
 un:A.units+16*k+200<cLine
theorem Room.mono{j k:Nat}{A:Around}(r:Room k A)(h:j<=k):Room j A:=⟨r.hd,by have:=r.dp;omega,by have:=r.un;omega⟩
theorem Room.deeper{k:Nat}{A:Around}(r:Room (k+1) A)(env:Env):Room k (A.deeper env):=
 ⟨r.hd,by have:=r.dp;show A.depth+1+3*k+5<_;omega,by have:=r.un;show A.units+3+16*k+200<_;omega⟩
theorem qgf{A:Around}{C:Addr}{us:List Value}{kw:List (Str×Value)}:(A.under (.builtin "type.__call__" ⟨.ref C::us,kw⟩)).depth=A.depth+1:=by
 first|rfl|simp[Around.under,Code.weight,Code.isCreation,Code.isGuard,Code.isCaller,Code.frames,Code.isFrame,guardIds]
theorem qgg{A:Around}{C:Addr}{us:List Value}{kw:List (Str×Value)}:(A.under (.builtin "type.__call__" ⟨.ref C::us,kw⟩)).units=A.units+1:=by
 first|rfl|simp[Around.under,Code.cUnits,Code.frames,Code.isFrame]
theorem Room.make{k:Nat}{A:Around}(r:Room (k+1) A)(C:Addr)(us:List Value)(kw:List (Str×Value)):Room k (A.under (.builtin "type.__call__" ⟨.ref C::us,kw⟩)):=
 ⟨r.hd,by have:=r.dp;rw[qgf];omega,by have:=r.un;rw[qgg];omega⟩
theorem Room.depth{k:Nat}{A:Around}(r:Room k A):A.depth<recursionLimit:=by have:=r.dp;omega
theorem Room.units{k:Nat}{A:Around}(r:Room k A):A.units+64<cLine:=by have:=r.un;omega
def yZ:TA:=λ _ H Q=>Q [] H
def qaG(ta:TE)(tr:TA):TA:=λ σ H Q=>ta σ H λ x H1=>tr σ H1 λ xs H2=>Q (x::xs) H2
section
variable {X:Cx}{e:Expr}{es:List Expr}{te:TE}{t:TA}{pos:Pos}
theorem qb:PA X [] yZ:=λ _ _ _ _ H Q I h=>Calls.spliced_nil ⟨[],H,I,.nil,h⟩
theorem qa(ha:PE X e te)(hr:PA X es t)(hs:starEach (e::es) X.env=(false,eval e X.env)::starEach es X.env:=by rfl):PA X (e::es) (qaG te t):=by
 intro pos pins s σ H Q I h;rw[hs];show wpAny _ _ (spliced ((false,eval e X.env)::backTo pos (starEach es X.env))) _ _ s
 refine Zi (thn (ha pins s σ H _ I h) λ u s1 ⟨x,H1,I1,r1,q1⟩=>?_);exact thn (hr pos pins s1 σ H1 _ I1 q1) λ us s2 ⟨xs,H2,I2,r2,q2⟩=>⟨x::xs,H2,I2,.cons r1 r2,q2⟩
def qoq(t:TA):TE:=λ σ H Q=>t σ H λ xs H1=>xs.length<=sizeLine/\∀ p,H1 p=none->Q (.ref p) (upd H1 p (.tup xs))
def qor(t:TA):TE:=λ σ H Q=>t σ H λ xs H1=>xs.length<=sizeLine/\∀ p,H1 p=none->Q (.ref p) (upd H1 p (.lst xs))
theorem zl{x1}(h:PA X es t):PE X (.Tuple es x1 pos) (qoq t):=by
 intro pins s σ H Q I hq;refine wpAny_Tuple_spliced (thn (h pos pins s σ H _ I hq) λ us s1 ⟨xs,H1,I1,r,z,q⟩=>⟨by rw[<- r.length];exact z,?_⟩);have hf:H1 s1.heap.objs.size=none:=I1.hok.fresh (Vc _);refine⟨.ref s1.heap.objs.size,upd H1 s1.heap.objs.size (.tup xs),I1.laid (t':=s1.toks) (λ b u e=>XI _ e) (Vc _) ?_,rfl,q _ hf⟩;exact⟨z,us,r,⟨_,Yz _ rfl,rfl,_,rfl⟩⟩
theorem zE(h:PA X es t):PE X (.List es pos) (qor t):=by
 intro pins s σ H Q I hq;refine wpAny_List_spliced (thn (h pos pins s σ H _ I hq) λ us s1 ⟨xs,H1,I1,r,z,q⟩=>⟨by rw[<- r.length];exact z,?_⟩);have hf:H1 s1.heap.objs.size=none:=I1.hok.fresh (Vc _);refine⟨.ref s1.heap.objs.size,upd H1 s1.heap.objs.size (.lst xs),I1.laid (t':=s1.toks) (λ b u e=>XI _ e) (Vc _) ?_,rfl,q _ hf⟩;exact⟨z,us,0,r,Yz _ rfl⟩
end
abbrev Sp:=List V->Hp->VK->XK->Prop
abbrev CXT:=List Env->Hp->Shared->XK->Value->Shared->Prop
structure Env0(P:Program)(w:World)(K:W.Frag)(mg:Str->Option Value)(base:Heap)(A:Around)(outer:List Env)(s:Shared)(H:Hp):Prop where
 frames:A.frames=some outer
 mod:Mod K mg base
 bs:∀ b o,base.get? b=some o->s.heap.get? b=some o/\H b=none
 bsz:base.objs.size<=s.heap.objs.size
 funs:s.heap.FunFrames base outer
 frf:∀ b∈frs outer,H b=none
 hok:HOk P w H s.heap
 bare:AllBare s.gens
def CE(outer:List Env)(P:Program)(w:World)(H:Hp)(s:Shared)(Q:VK)(u:Value)(s':Shared):Prop:=
 ∃ v H',s'.os=s.os/\AllBare s'.gens/\Un (frs outer) [] H H' s.heap s'.heap/\HOk P w H' s'.heap/\qT v u/\Q v H'
def CR(CX:CXT)(outer:List Env)(P:Program)(w:World)(H:Hp)(s:Shared)(Q:VK)(E:XK)(r:Result)(s':Shared):Prop:=
 match r with
 |.ok (.ret u)=>CE outer P w H s Q u s'
 |.ok _=>False
 |.error e=>CX outer H s E e s'
structure FnOk(P:Program)(w:World)(K:W.Frag)(mg:Str->Option Value)(base:Heap)(CX:CXT)(k:Nat)(f:Addr)(fd:FuncData)(ps:List Str)(sp:Sp):Prop where
 len:∀ vs H Q E,sp vs H Q E->vs.length=ps.length
 run:∀(A:Around)(outer:List Env)(s:Shared)(H:Hp)(args:Args)(us:List Value)(vs:List V)(Q:VK)(E:XK),Room k A->Env0 P w K mg base A outer s H->BindsTo s fd args (ps.zip us)->qK vs us->sp vs H Q E ->
  codeAny (model P w) A (.call (.ref f) args) (CR CX outer P w H s Q E) s
theorem Env0.make{P:Program}{w:World}{K:W.Frag}{mg:Str->Option Value}{base:Heap}{A:Around}{outer:List Env}{s:Shared}{H:Hp}(e:Env0 P w K mg base A outer s H)(C:Addr)(us:List Value)(kw:List (Str×Value)):
  Env0 P w K mg base (A.under (.builtin "type.__call__" ⟨.ref C::us,kw⟩)) outer s H:=⟨by first | exact e.frames | (simpa [Around.under,Code.envs,Code.isFrame,pushEnvs] using e.frames),e.mod,e.bs,e.bsz,e.funs,e.frf,e.hok,e.bare⟩
section
variable {X:Cx}{pins:List (Addr×Obj)}{σ:St}{H:Hp}{s s':Shared}
theorem Inv.env0(I:Inv X pins σ H s):Env0 X.prog X.w X.K X.mg X.base X.A X.stack s H:=
 ⟨I.ok.frames,I.ok.mod,I.bs,Qx I.ok.bsz I.sz,I.stack,I.stkFree,I.hok,I.bare⟩
theorem Inv.after{Q:VK}{u:Value}(I:Inv X pins σ H s)(h:CE X.stack X.prog X.w H s Q u s'):EP X pins σ Q u s':=by
 obtain⟨v,H',os,bare,un,hok,r,q⟩:=h;obtain⟨hh,g,d,t,nI⟩:=s';obtain rfl:nI=s.os:=os;exact⟨v,H',I.call (h':=hh) (g':=g) (d':=d) (t':=t) (ch:=[]) un hok bare (λ b z=>absurd z (by simp)),r,q⟩
end
def qcl(sp:Sp)(K3:List V)(E:XK)(t:TA):TE:=λ σ H Q=>t σ H λ vs H1=>sp (vs++K3) H1 Q E
def yp(C:Addr)(m:Str)(sp:Sp)(K3:List V)(E:XK)(ta:TE)(t:TA):TE:=λ σ H Q=>ta σ H λ x H1=>∃ a dx fs,x=.ref a/\H1 a=some (.ins C dx fs)/\fs.lookup m=none /\
 t σ H1 λ vs H2=>sp (x::(vs++K3)) H2 Q E
def qnv(C:Addr)(sp:Sp)(K3:List V)(E:XK)(t:TA):TE:=λ σ H Q=>t σ H λ vs H1=>∀ x dx,H1 x=none->H1 dx=none->dx≠x ->
 sp (.ref x::(vs++K3)) (upd (upd H1 dx (.own x)) x (.ins C dx [])) (λ v H2=>v=.non/\Q (.ref x) H2) E
def qh(K:W.Frag)(fd:FuncData)(ps:List Str)(ds:List Value):Prop:=
 ∀(s:Shared)(us:List Value),K.In s.heap->(us++ds).length=ps.length->BindsTo s fd ⟨us,[]⟩ (ps.zip (us++ds))
theorem qh.all{K:W.Frag}{fd:FuncData}{ps:List Str}(h:∀ us:List Value,us.length=ps.length->bindArgs fd ⟨us,[]⟩=pure (ps.zip us)):qh K fd ps []:=λ s us _ hl=>by
 rw[U8] at hl ⊢;exact .of_eq (h us hl)
def qag(CX:CXT)(X:Cx)(E:XK):Prop:=∀(pins:List (Addr×Obj))(σ:St)(H:Hp)(s:Shared)(e:Value)(s':Shared),Inv X pins σ H s->CX X.stack H s E e s'->X.xe e s'
section
variable {X:Cx}{CX:CXT}{k:Nat}{f C:Addr}{fd:FuncData}{ps:List Str}{sp:Sp}{K3:List V}{ds:List Value}{E:XK}{x m:Str}{p pos apos:Pos}{e o:Expr}{es:List Expr}{ta:TE}{t:TA}
theorem qgh{pins:List (Addr×Obj)}{σ:St}{H:Hp}{s:Shared}{Q:VK}{us:List Value}{vs:List V}(F:FnOk X.prog X.w X.K X.mg X.base CX k f fd ps sp)(hr:Room k X.A)(hb:qh X.K fd ps ds)(hd:qK K3 ds)(hx:qag CX X E)(I:Inv X pins σ H s)(r:qK vs us)(h:sp (vs++K3) H Q E):wpAny (model X.prog X.w) X.A (call (.ref f) us) (EP X pins σ Q) X.xe s:=by
 have r2:qK (vs++K3) (us++ds):=r.append hd;have hl:(us++ds).length=ps.length:=by rw[<- r2.length];exact F.len _ _ _ _ h
 refine wpAny_call (Q9 (F.run X.A X.stack s H ⟨us,[]⟩ (us++ds) (vs++K3) Q E hr I.env0 (hb s us I.kIn hl) r2 h) λ r s' hq=>?_);cases r with
 |error e=>exact hx pins σ H s e s' I hq
 |ok fl =>
  cases fl with
  |ret u=>exact I.after hq
  |next=>exact False.elim hq
  |brk=>exact False.elim hq
  |cont=>exact False.elim hq
theorem zi(F:FnOk X.prog X.w X.K X.mg X.base CX k f fd ps sp)(hr:Room k X.A)(hg:Gl X x)(hm:X.mg x=some (.ref f))(hk:W.keepIn X.K (.ref f)=true)(hb:qh X.K fd ps ds)(hd:qK K3 ds)(hx:qag CX X E)(ha:PA X (e::es) t)(V8:(x == ("__debug__":Str))=false:=by decide)(he:starEach (e::es) X.env=(false,eval e X.env)::starEach es X.env:=by rfl)(t8:(backTo pos (starEach es X.env)).any (·.1)=false:=by rfl):
  PE X (.Call (.Name x p) (e::es) [] pos) (qcl sp K3 E t):=by
 intro pins s σ H Q I h;refine Zs (qb0 I hg hm ?_ V8);refine W.callWith_K (h₀:=X.base) I.ok.mod.kin hk (thn (ha pos pins s σ H _ I h) λ us s1 ⟨vs,H1,I1,r,q⟩=>⟨I1.kIn,?_⟩) he t8;exact qgh F hr hb hd hx I1 r q
theorem qhq{pl:Sem Bool}(he:PE X o ta)(c:Cls X.K C)(hm:Meth X.K C m f)(F:FnOk X.prog X.w X.K X.mg X.base CX k f fd ps sp)(hr:Room k X.A)(hb:qh X.K fd ps ds)(hd:qK K3 ds)(hx:qag CX X E)(ha:PA X (e::es) t)(E2:starEach (e::es) X.env=(false,eval e X.env)::starEach es X.env:=by rfl)(t8:(backTo pos (starEach es X.env)).any (·.1)=false:=by rfl)(ht:eval (.Call (.Attribute o m apos) (e::es) [] pos) X.env=(do
   let ov <- eval o X.env
   standAt apos.atName
   let (f,first) <- holding [ov] (getMethod ov m pl)
   callWith pos f first (backTo pos (starEach (e::es) X.env)) (backToKw pos (keywordEach [] X.env))):=by rfl):
  PE X (.Call (.Attribute o m apos) (e::es) [] pos) (yp C m sp K3 E ta t):=by
 intro pins s σ H Q I h;refine W.methodCall_KW (pl:=pl) (thn (he pins s σ H _ I h) λ u s1 ⟨x,H1,I1,rx,a,dx,fs,ex,ea,l,q⟩=>?_) ht;subst ex;obtain rfl:u=Value.ref a:=rx;refine qck I1 ea c hm l ?_;refine W.callWith_K (first:=[.ref a]) (h₀:=X.base) I.ok.mod.kin hm.kp (thn (ha pos pins s1 σ H1 _ I1 q) λ us s2 ⟨vs,H2,I2,r,q2⟩=>⟨I2.kIn,?_⟩) E2 t8;exact qgh (us:=.ref a::us) (vs:=.ref a::vs) F hr hb hd hx I2 (.cons rfl r) q2
theorem qE{pl:Sem Bool}(he:PE X o ta)(c:Cls X.K C)(hm:Meth X.K C m f)(F:FnOk X.prog X.w X.K X.mg X.base CX k f fd ps sp)(hr:Room k X.A)(hb:qh X.K fd ps ds)(hd:qK K3 ds)(hx:qag CX X E)(ht:eval (.Call (.Attribute o m apos) [] [] pos) X.env=(do
   let ov <- eval o X.env
   standAt apos.atName
   let (f,first) <- holding [ov] (getMethod ov m pl)
   callWith pos f first (backTo pos (starEach [] X.env)) (backToKw pos (keywordEach [] X.env))):=by rfl):
  PE X (.Call (.Attribute o m apos) [] [] pos) (yp C m sp K3 E ta yZ):=by
 intro pins s σ H Q I h;refine W.methodCall_KW (pl:=pl) (thn (he pins s σ H _ I h) λ u s1 ⟨x,H1,I1,rx,a,dx,fs,ex,ea,l,q⟩=>?_) ht;subst ex;obtain rfl:u=Value.ref a:=rx;refine qck I1 ea c hm l ?_;exact W.callWith_K0 (first:=[.ref a]) I1.kIn hm.kp (qgh (us:=[.ref a]) (vs:=[.ref a]) F hr hb hd hx I1 (.cons rfl .nil) q)
structure Mk(K:W.Frag)(C f:Addr):Prop where
 makes:W.makesIn K C=true
 init:W.findIn K (.ref C) "__init__"=some (some (.ref f))
 fn:W.isFn K (.ref f)=true
 kp:W.keepIn K (.ref C)=true
theorem qjl{pins:List (Addr×Obj)}{σ:St}{H:Hp}{s:Shared}{Q:VK}{us:List Value}{vs:List V}(M:Mk X.K C f)(F:FnOk X.prog X.w X.K X.mg X.base CX k f fd ps sp)(hr:Room (k+1) X.A)(hb:qh X.K fd ps ds)(hd:qK K3 ds)(hx:qag CX X E)(I:Inv X pins σ H s)(r:qK vs us)(h:∀ x dx,H x=none->H dx=none->dx≠x->sp (.ref x::(vs++K3)) (upd (upd H dx (.own x)) x (.ins C dx [])) (λ v H2=>v=.non/\Q (.ref x) H2) E):
  wpAny (model X.prog X.w) X.A (call (.ref C) us) (EP X pins σ Q) X.xe s:=by
 have hq:=h (s.heap.objs.size+1) s.heap.objs.size (I.hok.fresh (Ve _)) (I.hok.fresh (Vc _)) (Qw (Up _));have I2:=Inv.made (C:=C) I;have r2:qK (V.ref (s.heap.objs.size+1)::(vs++K3)) (Value.ref (s.heap.objs.size+1)::(us++ds)):=.cons rfl (r.append hd);have hl:(Value.ref (s.heap.objs.size+1)::us++ds).length=ps.length:=by
  have e:=r2.length;rw[F.len _ _ _ _ hq] at e;exact e.symm
 refine wpAny_call (qjk (f:=f) I.kIn M.makes M.init (Vn.mp M.fn) (Q9 (F.run _ X.stack _ _ ⟨Value.ref (s.heap.objs.size+1)::us,[]⟩ (Value.ref (s.heap.objs.size+1)::(us++ds)) _ _ E (hr.make C us [])
  (I2.env0.make C us []) (hb _ (Value.ref (s.heap.objs.size+1)::us) I2.kIn hl) r2 hq) λ r s' oK=>?_))
 cases r with
 |error e=>exact hx pins σ _ _ e s' I2 oK
 |ok fl =>
  cases fl with
  |ret u =>
   obtain⟨v,H',I3,rv,ev,q3⟩:=I2.after oK;subst ev;exact⟨rv,⟨V.ref (s.heap.objs.size+1),H',I3,rfl,q3⟩⟩
  |next=>exact False.elim oK
  |brk=>exact False.elim oK
  |cont=>exact False.elim oK
theorem y2(M:Mk X.K C f)(F:FnOk X.prog X.w X.K X.mg X.base CX k f fd ps sp)(hr:Room (k+1) X.A)(hg:Gl X x)(hm:X.mg x=some (.ref C))(hb:qh X.K fd ps ds)(hd:qK K3 ds)(hx:qag CX X E)(ha:PA X (e::es) t)(V8:(x == ("__debug__":Str))=false:=by decide)(he:starEach (e::es) X.env=(false,eval e X.env)::starEach es X.env:=by rfl)(t8:(backTo pos (starEach es X.env)).any (·.1)=false:=by rfl):
  PE X (.Call (.Name x p) (e::es) [] pos) (qnv C sp K3 E t):=by
 intro pins s σ H Q I h;refine Zs (qb0 I hg hm ?_ V8);refine W.callWith_K (h₀:=X.base) I.ok.mod.kin M.kp (thn (ha pos pins s σ H _ I h) λ us s1 ⟨vs,H1,I1,r,q⟩=>⟨I1.kIn,?_⟩) he t8;exact qjl M F hr hb hd hx I1 r q
end
structure FnScope(N P:List Str)(sc:Scope):Prop where
 kind:sc.kind=.function
 co:sc.isCoroutine=false
 gen:sc.isGenerator=false
 nd:N.Nodup
 pre:N.take P.length=P
 par:∀ x∈P,sc.names.lookup x=some .local∨sc.names.lookup x=some .cell
 nofree:∀ y∈sc.names,y.2≠.free
theorem scF{N P:List Str}{sc:Scope}(a:sc.kind=.function:=by rfl)(b:sc.isCoroutine=false:=by rfl)(c:sc.isGenerator=false:=by rfl)(d:N.take P.length=P:=by rfl)(h:N.Nodup ∧ (∀ x∈P,sc.names.lookup x=some .local∨sc.names.lookup x=some .cell) ∧ ∀ y∈sc.names,y.2≠.free:=by decide +kernel):FnScope N P sc:=⟨a,b,c,h.1,d,h.2.1,h.2.2⟩
theorem qds{kindOf:Str->Option NameKind}{x:Str}:∀{binds:List (Str×Value)}{m:Str->Option Value},(∀ v,(x,v)∉binds)->bindL kindOf binds m x=m x
 | [],_,_=>rfl
 |(n,v)::r,m,h=>by
  unfold bindL;rw[qds λ w hw=>h w (Yl _ hw)];split
  ·have:x≠n:=by rintro rfl;exact h v Zf
   simp[this]
  ·rfl
theorem qdt{kindOf:Str->Option NameKind}{x:Str}:∀{binds:List (Str×Value)}{m:Str->Option Value},(∀ v,(x,v)∉binds)->bindC kindOf binds m x=m x
 | [],_,_=>rfl
 |(n,v)::r,m,h=>by
  unfold bindC;rw[qdt λ w hw=>h w (Yl _ hw)];split
  ·rfl
  ·have:x≠n:=by rintro rfl;exact h v Zf
   simp[this]
theorem qdu{kindOf:Str->Option NameKind}{x:Str}{v:Value}:∀{P:List Str}{vs:List Value}{i:Nat}{m:Str->Option Value},P.Nodup->P[i]?=some x->vs[i]?=some v->kindOf x=some .local ->
  bindL kindOf (P.zip vs) m x=some v
 | [],_,_,_,_,h,_,_=>by simp at h
 |_::_,[],_,_,_,_,h,_=>by simp at h
 |p::P,w::vs,0,m,nd,h1,h2,hk=>by
  simp at h1 h2;subst h1;subst h2;show bindL kindOf ((p,w)::P.zip vs) m p=_
  unfold bindL;rw[qds λ v hv=>(U9.mp nd).1 (Ja hv).1,V2 hk];simp
 |p::P,w::vs,i+1,m,nd,h1,h2,hk=>by
  show bindL kindOf ((p,w)::P.zip vs) m x=_
  unfold bindL;exact qdu (i:=i) (U9.mp nd).2 (by simpa using h1) (by simpa using h2) hk
theorem qdv{kindOf:Str->Option NameKind}{x:Str}{v:Value}:∀{P:List Str}{vs:List Value}{i:Nat}{m:Str->Option Value},P.Nodup->P[i]?=some x->vs[i]?=some v->kindOf x≠some .local ->
  bindC kindOf (P.zip vs) m x=some v
 | [],_,_,_,_,h,_,_=>by simp at h
 |_::_,[],_,_,_,_,h,_=>by simp at h
 |p::P,w::vs,0,m,nd,h1,h2,hk=>by
  simp at h1 h2;subst h1;subst h2;show bindC kindOf ((p,w)::P.zip vs) m p=_
  unfold bindC;rw[qdt λ v hv=>(U9.mp nd).1 (Ja hv).1,V3 hk];simp
 |p::P,w::vs,i+1,m,nd,h1,h2,hk=>by
  show bindC kindOf ((p,w)::P.zip vs) m x=_
  unfold bindC;exact qdv (i:=i) (U9.mp nd).2 (by simpa using h1) (by simpa using h2) hk
noncomputable def qaH(N:List Str)(vs:List V):St:=vs.map some++List.replicate (N.length-vs.length) none
noncomputable def qgi(CX:CXT)(P:Program)(w:World)(K:W.Frag)(mg:Str->Option Value)(base:Heap)(N:List Str)(qual:Str)(scope:Scope)(f:Addr)(cd:Value)(A:Around)(outer:List Env)(s:Shared)(H:Hp)(E:XK):Cx where
 prog:=P
 w:=w
 K:=K
 mg:=mg
 base:=base
 A:=A.deeper (envOfC qual scope s.heap.objs.size f cd)
 N:=N
 s₀:=s
 H₀:=H
 env:=envOfC qual scope s.heap.objs.size f cd
 outer:=outer
 stack:=envOfC qual scope s.heap.objs.size f cd::outer
 ex:=[]
 calm:=true
 fn:=λ _=>true
 pn:=[]
 xe:=λ e s'=>wpAny (model P w) (A.deeper (envOfC qual scope s.heap.objs.size f cd)) (leaving (envOfC qual scope s.heap.objs.size f cd) e) (λ _ O5=>CX outer H s E e O5) (λ e' O5=>CX outer H s E e' O5) s'
theorem qe0{sc:Scope}{n:Nat}{x:Str}(h:sc.names.lookup x=some .cell):∃ c,(cellsFrom n sc.names []).lookup x=some c:=by
 have q:=W.cellsFrom_some sc.names n [] (.inl h);exact Xy.mp q
theorem qib{CX:CXT}{P:Program}{w:World}{K:W.Frag}{mg:Str->Option Value}{base:Heap}{N ps:List Str}{qual:Str}{scope:Scope}{f:Addr}{cd:Value}{A:Around}{outer:List Env}{s s1:Shared}{H:Hp}{E:XK}{us:List Value}{vs:List V}(S:FnScope N ps scope)(hd:A.handled=none)(e0:Env0 P w K mg base A outer s H)(hl:vs.length=ps.length)(r:qK vs us)(x:InCallC s s.heap.objs.size (bindL (envOfC qual scope s.heap.objs.size f cd).kindOf (ps.zip us) λ _=>none) (cellsFrom (s.heap.objs.size+1) scope.names []) (bindC (envOfC qual scope s.heap.objs.size f cd).kindOf (ps.zip us) λ _=>none) s1):
  Inv (qgi CX P w K mg base N qual scope f cd A outer s H E) [] (qaH N vs) H s1:=by
 have t8:ps.length<=N.length:=by have:=congrArg List.length S.pre;rw[Uq] at this;omega
 obtain⟨h1,tk,rfl,hk⟩:=x.done;have nK:∀ b:Addr,b∉(qgi CX P w K mg base N qual scope f cd A outer s H E).ex:=λ b z=>absurd (show b∈([]:List Addr) from z) (by simp)
 refine⟨⟨e0.mod,S.kind,rfl,rfl,Vc _,λ y z c h1 h2=>?_,λ y hy=>?_,λ y c _ h=>?_,λ _=>hd,Around.frames_deeper e0.frames,.inr ⟨rfl,rfl⟩,λ b z=>absurd z (nK b),e0.bs,e0.bsz,λ b _ _=>nK b,λ b z=>absurd z (nK b),e0.funs,e0.frf⟩,
  rfl,e0.bare,Un.kept hk,⟨_,x.toInCall.ns,λ i y v h1 h2 h3=>?_⟩,λ y c h=>⟨_,x.cell y c h⟩,e0.hok.fresh (Vc _),λ y c h=>?_,λ p hp=>absurd (show p∈([]:List (Addr×Obj)) from hp) (by simp),e0.hok.kept hk,?_⟩
 ·exact name_of_addr x.apart (Y0 h1) (Y0 h2)
 ·have hy:scope.names.lookup y=some .cell∨scope.names.lookup y=some .free:=hy;rcases hy with hy | hy
  ·exact qe0 hy
  ·exact absurd rfl (S.nofree _ (Y0 hy))
 ·exact Qy (x.above y c (Y0 h))
 ·have hi:i<vs.length:=by
   unfold qaH at h2;by_cases hi:i<vs.length
   ·exact hi
   ·rw[Xk (by simpa using hi)] at h2;rw[X7] at h2;split at h2 <;> cases h2
  have ha:vs[i]?=some v:=by
   unfold qaH at h2;rw[Xr (by simpa using hi),Zw] at h2;cases e:vs[i]? with
   |none=>rw[e] at h2;cases h2
   |some a=>rw[e] at h2;cases h2;rfl
  obtain⟨u,hu,rv⟩:=r.get ha;have hp:ps[i]?=some y:=by
   rw[<- S.pre,Xz (by omega)];exact h1
  have ndP:ps.Nodup:=by rw[<- S.pre];exact S.nd.sublist (Zx _ _)
  refine⟨u,rv,?_⟩;rcases S.par y (Yn hp) with k|k
  ·exact .inl ⟨k,qdu ndP hp hu k⟩
  ·obtain⟨c,e⟩:=qe0 (n:=s.heap.objs.size+1) k;refine .inr ⟨.inl k,c,e,?_⟩;have q:=x.cell y c e;rw[qdv ndP hp hu (by show scope.names.lookup y≠_;rw[k];decide)] at q;exact q
 ·exact e0.hok.fresh (Qy (x.above y c (Y0 h)))
 ·unfold qaH;show _=N.length
  rw[Zj,U7,XV];omega
theorem qnw{CX:CXT}{P:Program}{w:World}{K:W.Frag}{mg:Str->Option Value}{base:Heap}{k:Nat}{f:Addr}{name qual:Str}{params:Arguments}{body:List Stmt}{scope:Scope}{dV kV doc pm cdv ct oc:Value}{an od:Option Addr}{osl:Array (Option Value)}{N ps:List Str}{sp:Sp}(lk:K.lookup f=some ⟨oc,od,.func (W.fnOf name qual params body scope dV kV doc pm an cdv ct),osl⟩)(aF:W.codeIn K cdv qual=true)(S:FnScope N ps scope)(len:∀ vs H Q E,sp vs H Q E->vs.length=ps.length)(N5:∀(A:Around)(outer:List Env)(s:Shared)(H:Hp)(vs:List V)(Q:VK)(E:XK),Room k (A.deeper (envOfC qual scope s.heap.objs.size f cdv))->sp vs H Q E ->
   ∃ t,PSs (qgi CX P w K mg base N qual scope f cdv A outer s H E) body t/\t { nx:=λ _ H'=>Q .non H',rt:=Q } (qaH N vs) H):
  FnOk P w K mg base CX (k+1) f (W.fnOf name qual params body scope dV kV doc pm an cdv ct) ps sp:=by
 refine⟨len,λ A outer s H args us vs Q E hr e0 hb r fH=>?_⟩;have hl:=len _ _ _ _ fH;have KX:K.In s.heap:=e0.mod.kin.keeps λ b o e=>(e0.bs b o e).1
 have lim:s.heap.NoLimit:=e0.mod.nolimit.keeps λ b o e=>(e0.bs b o e).1
 have oZ:∀ y∈ps.zip us,scope.names.lookup y.1=some .local∨(scope.names.lookup y.1=some .cell/\((cellsFrom (s.heap.objs.size+1) scope.names []).lookup y.1).isSome=true):=λ ⟨n,v⟩ hy=>by
  rcases S.par n (Ja hy).1 with q|q
  ·exact .inl q
  ·exact .inr ⟨q,W.cellsFrom_some _ _ _ (.inl q)⟩
 refine codeAny_call_function hr.depth (KX _ _ lk) rfl S.co S.gen rfl (W.codeRec_of KX aF) (hb _ _ _ _ ?_);refine wpAny_newFunctionEnv_cells S.kind oZ λ env he s1 x=>?_
 subst he;refine⟨lim.keeps x.toInCall.keep,codeAny_func ?_⟩;obtain⟨t,ht,hq⟩:=N5 A outer s H vs Q E (hr.deeper _) fH;have I:Inv (qgi CX P w K mg base N qual scope f cdv A outer s H E) [] (qaH N vs) H s1:=qib S hr.hd e0 hl r x;refine Vj (ht [] s1 (qaH N vs) H _ I hq) (λ fl s' hs=>?_) λ e s' hs=>hs
 have fin:∀{σ':St}{H':Hp}{v:V}{u:Value},Inv (qgi CX P w K mg base N qual scope f cdv A outer s H E) [] σ' H' s'->qT v u->Q v H'->CE outer P w H s Q u s':=
  λ{σ' H' v u} J rv q=>⟨v,H',J.os,J.bare,J.base,J.hok,rv,q⟩
 cases fl with
 |ret u =>
  obtain⟨v,σ',H',J,rv,q⟩:=hs;exact fin J rv q
 |next =>
  obtain⟨σ',H',J,q⟩:=hs;exact fin (v:=V.non) (u:=Value.none) J rfl q
 |brk =>
  obtain⟨_,_,_,q⟩:=hs;exact False.elim q
 |cont =>
  obtain⟨_,_,_,q⟩:=hs;exact False.elim q
section
variable {X:Cx}{x:Str}{p pos:Pos}{e:Expr}{es:List Expr}{t:TA}{id T:String}{r:List V->Hp->VK->Prop}
def tCB(r:List V->Hp->VK->Prop)(t:TA):TE:=λ σ H Q=>t σ H λ vs H1=>r vs H1 Q
theorem qD(hc:jh X (.builtin id) r)(hg:Gl X x)(hm:X.mg x=none)(hv:bootBuiltins x=some (.builtin id))(ha:PA X (e::es) t)(hn:x≠"__name__":=by decide)(V8:(x == ("__debug__":Str))=false:=by decide)(he:starEach (e::es) X.env=(false,eval e X.env)::starEach es X.env:=by rfl)(t8:(backTo pos (starEach es X.env)).any (·.1)=false:=by rfl):PE X (.Call (.Name x p) (e::es) [] pos) (tCB r t):=by
 intro pins s σ H Q I h;refine Zs (qbn I hg hm hv ?_ hn V8);exact PyProof.Rows.callWith_builtin1 (thn (ha pos pins s σ H _ I h) λ us s1 ⟨vs,H1,I1,r1,q1⟩=>hc pins s1 σ H1 vs us Q I1 r1 q1) he t8
theorem zd(hc:jh X (.type T) r)(hg:Gl X x)(hm:X.mg x=none)(hv:bootBuiltins x=some (.type T))(ha:PA X (e::es) t)(hn:x≠"__name__":=by decide)(V8:(x == ("__debug__":Str))=false:=by decide)(he:starEach (e::es) X.env=(false,eval e X.env)::starEach es X.env:=by rfl)(t8:(backTo pos (starEach es X.env)).any (·.1)=false:=by rfl):PE X (.Call (.Name x p) (e::es) [] pos) (tCB r t):=by
 intro pins s σ H Q I h;refine Zs (qbn I hg hm hv ?_ hn V8);exact Xh (thn (ha pos pins s σ H _ I h) λ us s1 ⟨vs,H1,I1,r1,q1⟩=>hc pins s1 σ H1 vs us Q I1 r1 q1) he t8
end
section
variable {κ:Type}[DecidableEq κ]
noncomputable def zx(kvs:List (κ×V))(k:κ):Option V:=(kvs.find? λ kv=>decide (kv.1=k)).map (·.2)
noncomputable def yJ(kvs:List (κ×V))(k:κ)(v:V):List (κ×V):=
 if (kvs.any λ kv=>decide (kv.1=k))=true then kvs.map (λ kv=>if kv.1=k then(kv.1,v) else kv) else kvs++[(k,v)]
theorem zI{p:κ×V}{r:List (κ×V)}{k:κ}(e:p.1=k):zx (p::r) k=some p.2:=by simp[zx,Jb,e]
theorem zJ{p:κ×V}{r:List (κ×V)}{k:κ}(e:¬ p.1=k):zx (p::r) k=zx r k:=by simp[zx,Jb,e]
theorem ji(k:κ):∀ kvs:List (κ×V),(kvs.any λ kv=>decide (kv.1=k))=(zx kvs k).isSome
 | []=>rfl
 |p::r=>by
  rw[Qj];by_cases e:p.1=k
  ·simp only[zI e,Qc e,Bool.true_or,Option.isSome_some]
  ·rw[zJ e,Jq e,Qk];exact ji k r
theorem qe1(k j:κ)(y:V):∀ kvs:List (κ×V),zx (kvs.map λ kv=>if kv.1=k then(kv.1,y) else kv) j=(zx kvs j).map λ x=>if j=k then y else x
 | []=>rfl
 |p::r=>by
  have ih:=qe1 k j y r;rw[Qi];by_cases h:p.1=k
  ·rw[V2 h];by_cases e:p.1=j
   ·rw[zI (p:=(p.1,y)) e,zI e,Jc,V2 (e.symm.trans h)]
   ·rw[zJ (p:=(p.1,y)) e,zJ e,ih]
  ·rw[V3 h];by_cases e:p.1=j
   ·rw[zI (p:=p) e,zI e,Jc,V3 (λ z=>h (e.trans z))]
   ·rw[zJ (p:=p) e,zJ e,ih]
theorem qdw(k j:κ)(y:V):∀ kvs:List (κ×V),zx kvs k=none->zx (kvs++[(k,y)]) j=if j=k then some y else zx kvs j
 | [],_=>by
  by_cases e:k=j
  ·rw[V2 e.symm];exact zI (p:=(k,y)) e
  ·rw[V3 (λ z=>e z.symm)];exact zJ (p:=(k,y)) e
 |p::r,hn=>by
  rw[Ur];have hk:¬ p.1=k:=λ z=>by rw[zI z] at hn;cases hn
  rw[zJ hk] at hn;have ih:=qdw k j y r hn;by_cases e:p.1=j
  ·rw[zI e,zI e,V3 (λ z=>hk (e.trans z))]
  ·rw[zJ e,zJ e,ih]
theorem qjm(kvs:List (κ×V))(k j:κ)(y:V):zx (yJ kvs k y) j=if j=k then some y else zx kvs j:=by
 unfold yJ;by_cases a:(kvs.any λ kv=>decide (kv.1=k))=true
 ·rw[V2 a,qe1];rw[ji] at a;by_cases e:j=k
  ·obtain⟨x,hx⟩:=Xy.mp a;rw[V2 e,e,hx,Jc,V2 rfl]
  ·rw[V3 e];cases zx kvs j with
   |none=>rfl
   |some x=>rw[Jc,V3 e]
 ·rw[V3 a];refine qdw k j y kvs ?_;rw[ji] at a;cases q:zx kvs k with
  |none=>rfl
  |some x=>rw[q] at a;exact(a rfl).elim
theorem yK(kvs:List (κ×V))(k:κ)(v:V):(yJ kvs k v).length<=kvs.length+1:=by
 unfold yJ;split
 ·rw[U7];omega
 ·rw[Zj,Uo,List.length_nil];omega
theorem qe2{kvs:List (κ×V)}{k:κ}(v:V)(h:zx kvs k=none):yJ kvs k v=kvs++[(k,v)]:=by
 unfold yJ;rw[ji,h];exact V3 (by decide)
theorem vz.isSome_eq{o:Option V}{u:Option Value}(r:vz o u):o.isSome=u.isSome:=by
 cases o with
 |none=>cases u with
  |none=>rfl
  |some _=>exact(show False from r).elim
 |some _=>cases u with
  |none=>exact(show False from r).elim
  |some _=>rfl
theorem vz.getD{o:Option V}{u:Option Value}{d:V}{d':Value}(r:vz o u)(rd:qT d d'):qT (o.getD d) (u.getD d'):=by
 cases o with
 |none=>cases u with
  |none=>exact rd
  |some _=>exact(show False from r).elim
 |some _=>cases u with
  |none=>exact(show False from r).elim
  |some _=>exact r
theorem KV.val{kvs:List (κ×V)}{vs:List (κ×Value)}(r:KV kvs vs)(k:κ):vz (zx kvs k) (valueAt vs k):=by
 unfold KV at r;induction r with
 |nil=>exact True.intro
 | @cons p q ps qs h t ih =>
  obtain⟨h1,h2⟩:=h;by_cases e:p.1=k
  ·have e':q.1=k:=h1.symm.trans e;have b:valueAt (q::qs) k=some q.2:=by simp[valueAt,Jb,e']
   rw[zI e,b];exact h2
  ·have e':¬ q.1=k:=λ z=>e (h1.trans z)
   have b:valueAt (q::qs) k=valueAt qs k:=by simp[valueAt,Jb,e']
   rw[zJ e,b];exact ih
theorem KV.any{kvs:List (κ×V)}{vs:List (κ×Value)}(r:KV kvs vs)(k:κ):(kvs.any λ kv=>decide (kv.1=k))=vs.any λ kv=>decide (kv.1=k):=by
 unfold KV at r;induction r with
 |nil=>rfl
 |cons h t ih=>rw[Qj,Qj,ih,h.1]
theorem KV.repl{kvs:List (κ×V)}{vs:List (κ×Value)}(r:KV kvs vs)(k:κ){y:V}{u:Value}(ry:qT y u):
  KV (kvs.map λ kv=>if kv.1=k then(kv.1,y) else kv) (vs.map λ kv=>if kv.1=k then(kv.1,u) else kv):=by
 unfold KV at r ⊢;induction r with
 |nil=>exact .nil
 | @cons p q ps qs h t ih =>
  rw[Qi,Qi];refine .cons ?_ ih;obtain⟨h1,h2⟩:=h;by_cases e:p.1=k
  ·rw[V2 e,V2 (h1.symm.trans e)];exact⟨h1,ry⟩
  ·rw[V3 e,V3 (λ z=>e (h1.trans z))];exact⟨h1,h2⟩
theorem KV.put{kvs:List (κ×V)}{vs:List (κ×Value)}(r:KV kvs vs)(k:κ){y:V}{u:Value}(ry:qT y u):KV (yJ kvs k y) (stored vs k u):=by
 unfold yJ stored;rw[r.any k];by_cases e:(vs.any λ kv=>decide (kv.1=k))=true
 ·rw[V2 e,V2 e];exact r.repl k ry
 ·rw[V3 e,V3 e];exact Vg r ⟨rfl,ry⟩
theorem KV.length{kvs:List (κ×V)}{vs:List (κ×Value)}(r:KV kvs vs):kvs.length=vs.length:=Paired.length r
end
theorem qe3{P:Program}{w:World}{k:Key}{u:Value}(r:qT (kV k) u):(qw P w).is k u=true:=by
 cases k with
 |inl i=>obtain⟨t,e⟩:=(show ∃ t,u=Value.int i t from r);subst e;exact qeX P w i t
 |inr x=>obtain⟨t,e⟩:=(show ∃ t,u=Value.str x t from r);subst e;exact zn P w x t
theorem qdx{P:Program}{w:World}:∀{ks:List Key}{us:List Value},qK (ks.map kV) us->ItemsAre (qw P w) ks us
 | [],_,r=>by rw[List.map_nil] at r;cases r;exact .nil
 |k::ks,_,r=>by
  rw[Qi] at r;cases r with
  |cons h t=>exact .cons (qe3 h) (qdx t)
abbrev KT(H:Hp):List (List Key×V)->List (List Key×Addr×Value)->Prop:=Paired λ p q=>p.1=q.1/\H q.2.1=some (.tup (p.1.map kV))/\qT p.2 q.2.2
theorem KT.val{H:Hp}{kvs:List (List Key×V)}{xs:List (List Key×Addr×Value)}(r:KT H kvs xs)(k:List Key):vz (zx kvs k) ((atKey xs k).map (·.2)):=by
 induction r with
 |nil=>exact True.intro
 | @cons p q ps qs h t ih =>
  obtain⟨h1,_,h2⟩:=h;by_cases e:p.1=k
  ·have e':q.1=k:=h1.symm.trans e;have b:atKey (q::qs) k=some q.2:=by simp[atKey,Jb,e']
   rw[zI e,b];exact h2
  ·have e':¬ q.1=k:=λ z=>e (h1.trans z)
   have b:atKey (q::qs) k=atKey qs k:=by simp[atKey,Jb,e']
   rw[zJ e,b];exact ih
theorem KT.repl{H:Hp}{kvs:List (List Key×V)}{xs:List (List Key×Addr×Value)}(r:KT H kvs xs)(k:List Key){y:V}{u:Value}(ry:qT y u):
  KT H (kvs.map λ kv=>if kv.1=k then(kv.1,y) else kv) (xs.map (putAt k u)):=by
 induction r with
 |nil=>exact .nil
 | @cons p q ps qs h t ih =>
  rw[Qi,Qi];refine .cons ?_ ih;obtain⟨h1,h2,h3⟩:=h;unfold putAt;by_cases e:p.1=k
  ·rw[V2 e,V2 (h1.symm.trans e)];exact⟨h1,h2,ry⟩
  ·rw[V3 e,V3 (λ z=>e (h1.trans z))];exact⟨h1,h2,h3⟩
theorem KT.put{H:Hp}{kvs:List (List Key×V)}{xs:List (List Key×Addr×Value)}(r:KT H kvs xs)(k:List Key){b:Addr}{y:V}{u:Value}(hb:H b=some (.tup (k.map kV)))(ry:qT y u):
  KT H (yJ kvs k y) (storedH xs k b u):=by
 have e:(kvs.any λ kv=>decide (kv.1=k))=(atKey xs k).isSome:=by
  rw[ji,(r.val k).isSome_eq,Option.isSome_map]
 unfold yJ storedH;rw[e];by_cases q:(atKey xs k).isSome=true
 ·rw[V2 q,V2 q];exact r.repl k ry
 ·rw[V3 q,V3 q];exact Vg r ⟨rfl,hb,ry⟩
theorem KT.keeps{H H':Hp}{kvs:List (List Key×V)}{xs:List (List Key×Addr×Value)}(r:KT H kvs xs)(ht:∀ b ys,H b=some (.tup ys)->H' b=some (.tup ys)):KT H' kvs xs:=
 Paired.mapP r λ _ _ z=>⟨z.1,ht _ _ z.2.1,z.2.2⟩
section
variable {P:Program}{w:World}{H:Hp}{h:Heap}{a:Addr}
theorem qlZ{u:HO}(ok:HOk P w H h)(e:Rd H a u):zG P w H h a u:=e.ok ok
theorem qdy{kvs:List (Key×V)}(ok:HOk P w H h)(e:Rd H a (.dK kvs)):kvs.length<=sizeLine/\(a == sysModules)=false/\∃ vs,KV kvs vs/\h.DictOf (qw P w) a vs:=
 show zG P w H h a (.dK kvs) from qlZ ok e
theorem qhr{kvs:List (Key×V)}(ok:HOk P w H h)(e:H a=some (.dK kvs)):kvs.length<=sizeLine/\(a == sysModules)=false/\∃ vs,KV kvs vs/\h.DictOf (qw P w) a vs:=qdy ok (.inl e)
theorem qcm{ks:List Key}(ok:HOk P w H h)(e:H a=some (.tup (ks.map kV))):(tupleKind (qw P w)).is h ks a:=by
 obtain⟨_,its,r,o,h1,h2,n,h3⟩:=(show zG P w H h a (.tup (ks.map kV)) from ok a _ e);exact⟨o,its.toArray,n,h1,h2,h3,by simpa using qdx r⟩
theorem qdz{kvs:List (List Key×V)}(ok:HOk P w H h)(e:Rd H a (.dT kvs)):kvs.length<=sizeLine/\(a == sysModules)=false /\
  ∃ xs,KT H kvs xs/\h.DictOfH (tupleKind (qw P w)) a xs:=by
 obtain⟨z,y,xs,r,o,es,ep,h1,h2,h3,h4,h5⟩:=(show zG P w H h a (.dT kvs) from qlZ ok e);refine⟨z,y,xs,r,o,es,ep,h1,h2,h3,h4,λ x hx=>?_,h5⟩;have all:∀{l:List (List Key×V)}{m:List (List Key×Addr×Value)},KT H l m->∀ x∈m,(tupleKind (qw P w)).is h x.1 x.2.1:=by
  intro l m q;induction q with
  |nil=>intro x hx;exact nomatch hx
  | @cons p q ps qs hq t ih =>
   intro x hx;rcases Qh.mp hx with e|hx
   ·subst e;exact qcm ok (by rw[<- hq.1];exact hq.2.1)
   ·exact ih x hx
 exact all r x hx
theorem qnx{kvs:List (List Key×V)}(ok:HOk P w H h)(e:H a=some (.dT kvs)):kvs.length<=sizeLine/\(a == sysModules)=false /\
  ∃ xs,KT H kvs xs/\h.DictOfH (tupleKind (qw P w)) a xs:=qdz ok (.inl e)
end
def qah(H:Hp)(a:Addr)(y:V)(r:Option V):Prop:=
 (∃ kvs k,Rd H a (.dK kvs)/\y=kV k/\r=zx kvs k)∨∃ kvs k b,Rd H a (.dT kvs)/\y=.ref b/\H b=some (.tup (k.map kV))/\r=zx kvs k
def qny(H:Hp)(a:Addr)(y v:V)(H':Hp):Prop:=
 (∃ kvs k,H a=some (.dK kvs)/\y=kV k/\kvs.length<sizeLine/\H'=upd H a (.dK (yJ kvs k v))) ∨
 ∃ kvs k b,H a=some (.dT kvs)/\y=.ref b/\H b=some (.tup (k.map kV))/\kvs.length<sizeLine/\H'=upd H a (.dT (yJ kvs k v))
theorem qah.k{H:Hp}{a:Addr}{kvs:List (Key×V)}{k:Key}(e:H a=some (.dK kvs)):qah H a (kV k) (zx kvs k):=.inl ⟨kvs,k,.inl e,rfl,rfl⟩
section
variable {X:Cx}{pins:List (Addr×Obj)}{σ:St}{H:Hp}{s:Shared}{a:Addr}{y v:V}{u r:Value}{o:Option V}{A:Around}{E:Value->Shared->Prop}
theorem Inv.big(I:Inv X pins σ H s):sysModules<s.heap.objs.size:=by
 have h:mainGlobals<s.heap.objs.size:=(I.mod.glob.keeps I.bk).lt;exact Q0 (by decide) h
theorem qic{Q:Value->Shared->Prop}(hu:A.units+1<cLine)(I:Inv X pins σ H s)(g:qah H a y (some v))(ry:qT y u)(h:∀ w' s',Inv X pins σ H s'->qT v w'->Q w' s'):
  wpAny (model X.prog X.w) A (getItem (.ref a) u) Q E s:=by
 rcases g with⟨kvs,k,e,ey,l⟩|⟨kvs,k,b,e,ey,eb,l⟩
 ·subst ey;obtain⟨z,hd,vs,rel,dd⟩:=qdy I.hok e;obtain⟨w',hw,V5⟩:=vz.some_of (v:=v) (o:=valueAt vs k) (by rw[l];exact rel.val k);exact wpAny_getItem_of (qe3 ry) dd.mapOf hw (h w' _ (I.tok _) V5)
 ·subst ey;cases(show u=Value.ref b from ry)
  obtain⟨z,hd,xs,rel,dd⟩:=qdz I.hok e;obtain⟨w',hw,V5⟩:=vz.some_of (v:=v) (o:=(atKey xs k).map (·.2)) (by rw[l];exact rel.val k);obtain⟨p,hp,D5⟩:=Option.map_eq_some_iff.mp hw;refine wpAny_getItem_heap (Zt hu) (qcm I.hok eb) dd hp ?_;rw[D5];exact h w' _ (I.tok _) V5
theorem qos{Q:Value->Shared->Prop}(hu:A.units+1<cLine)(I:Inv X pins σ H s)(g:qah H a y o)(ry:qT y u)(h:∀ s',Inv X pins σ H s'->Q (.bool o.isSome) s'):
  wpAny (model X.prog X.w) A (compareOp .In u (.ref a)) Q E s:=by
 rcases g with⟨kvs,k,e,ey,l⟩|⟨kvs,k,b,e,ey,eb,l⟩
 ·subst ey;obtain⟨z,hd,vs,rel,dd⟩:=qdy I.hok e;refine wpAny_in_of (qe3 ry) hd dd.mapOf ?_;rw[<- (rel.val k).isSome_eq,<- l];exact h _ (I.tok _)
 ·subst ey;cases(show u=Value.ref b from ry)
  obtain⟨z,hd,xs,rel,dd⟩:=qdz I.hok e;refine wpAny_in_heap (Zt hu) (qcm I.hok eb) hd dd ?_;have q:=(rel.val k).isSome_eq;rw[Option.isSome_map] at q;rw[<- q,<- l];exact h _ (I.tok _)
theorem qeg{h':Heap}{t':Nat}{ob:HO}(I:Inv X pins σ H s)(mu:Mut (H a))(hs:Heap.SameBut a s.heap h')(he:∃ q,h'.get? a=some q)(new:zG X.prog X.w (upd H a ob) h' a ob):
  Inv X pins σ (upd H a ob) { s with heap:=h',toks:=t' }:=
 I.write (x:=a) (e:=a) mu (.inl rfl) (λ b q hb z=>(hs.2 b hb).trans z) he new
theorem qgj{P:Program}{w:World}{H':Hp}{h':Heap}{kvs:List (Key×V)}{vs:List (Key×Value)}(z:kvs.length<=sizeLine)(hd:(a == sysModules)=false)(rel:KV kvs vs)(dd:h'.DictOf (qw P w) a vs):
  zG P w H' h' a (.dK kvs):=⟨z,hd,vs,rel,dd⟩
theorem qid{H':Hp}{Q:Unit->Shared->Prop}(hu:A.units+1<cLine)(I:Inv X pins σ H s)(g:qny H a y v H')(ry:qT y u)(rv:qT v r)(h:∀ s',Inv X pins σ H' s'->Q () s'):
  wpAny (model X.prog X.w) A (setItem (.ref a) u r) Q E s:=by
 rcases g with⟨kvs,k,e,ey,l,eH⟩|⟨kvs,k,b,e,ey,eb,l,eH⟩
 ·subst ey eH;obtain⟨z,hd,vs,rel,dd⟩:=qhr I.hok e;have hz:vs.length<=sizeLine:=by rw[<- rel.length];exact z
  have hl:(yJ kvs k v).length<=sizeLine:=by have:=yK kvs k v;omega
  refine wpAny_setItem_pairs (hsz:=hz) (qe3 ry) dd λ h' lM hs=>h _ ?_
  have he:∃ q,h'.get? a=some q:=let ⟨q,_,_,hq,_⟩:=lM;⟨q,hq⟩;exact qeg I (by rw[e];exact True.intro) hs he (qgj hl hd (rel.put k rv) lM)
 ·subst ey eH;cases(show u=Value.ref b from ry)
  obtain⟨z,hd,xs,rel,dd⟩:=qnx I.hok e;have hz:xs.length<=sizeLine:=by rw[<- Paired.length rel];exact z
  have hl:(yJ kvs k v).length<=sizeLine:=by have:=yK kvs k v;omega
  refine wpAny_setItem_heap (hsz:=hz) (Zt hu) (qcm I.hok eb) dd λ h' lM hs=>h _ ?_
  obtain⟨q,es,ep,hq,h2,h3,h4,_,h5⟩:=lM;refine qeg I (by rw[e];exact True.intro) hs ⟨q,hq⟩ ⟨hl,hd,_,(rel.put k eb rv).keeps λ c ys ec=>?_,q,es,ep,hq,h2,h3,h4,h5⟩;rw[qv (qlY ec e (λ z=>nomatch z))];exact ec
end
def qnz(i:Expr):Prop:=∀ ov iv,subscripted i false ov iv=operate [ov,iv] (getItem ov iv)
theorem qk5{prog:Program}{w:World}{A:Around}{E:Value->Shared->Prop}{s:Shared}{env:Env}{value x9:Expr}{pos:Pos}{T id:String}{Q:Value->Shared->Prop}(hl:typeLookup (.type T) "__getitem__"=pure (some (.builtin id)))(hs:qnz x9)(h:wpAny (model prog w) A (eval value env) (λ o s₁=>wpAny (model prog w) A (eval x9 env) (λ i s₂=>s₂.TypeIs o T/\wpAny (model prog w) A (getItem o i) Q E s₂) E s₁) E s):
  wpAny (model prog w) A (eval (.Subscript value x9 pos) env) Q E s:=by
 refine Subscript_ (Vj h (λ o s₁ h₁=>Vj h₁ (λ i s₂ h₂=>?_) λ _ _ x=>x) λ _ _ x=>x);obtain⟨hT,h₂⟩:=h₂;unfold subscriptTail;refine Vk ?_;rw[getitemInPython_of_ne hT.not_modules];refine Vk (Jt hT hl ?_);have fin:wpAny (model prog w) A (subscripted x9 false o i) (λ r s₃=>wpAny (model prog w) A (letTemporaryGo value o r >>= λ _=>pure r) Q E s₃) E s₂:=by
  rw[hs o i];exact wpAny_operating (Vj h₂ (λ r s₃ h₃=>Vk (wpAny_letTemporaryGo (Vl h₃))) λ _ _ x=>x)
 first
  |exact Vl (Vk fin)
  |exact Vk (Vl (Vk fin))
  |exact Vk fin
theorem qe4{X:Cx}{pins:List (Addr×Obj)}{σ:St}{H:Hp}{s:Shared}{a:Addr}{y:V}{o:Option V}(I:Inv X pins σ H s)(g:qah H a y o):s.TypeIs (.ref a) "dict":=by
 rcases g with⟨kvs,k,e,_,_⟩|⟨kvs,k,b,e,_,_,_⟩
 ·obtain⟨_,_,vs,_,dd⟩:=qdy I.hok e;exact dd.typeIs
 ·obtain⟨_,_,xs,_,dd⟩:=qdz I.hok e;exact dd.typeIs
def qnA(td ty:TE):TE:=λ σ H Q=>td σ H λ x H1=>ty σ H1 λ y H2=>∃ a v,x=.ref a/\qah H2 a y (some v)/\Q v H2
def qot(ty td:TE):TE:=λ σ H Q=>ty σ H λ y H1=>td σ H1 λ x H2=>∃ a o,x=.ref a/\qah H2 a y o/\Q (.bl o.isSome) H2
def qnB(td ty tv:TE):TS:=λ D σ H=>tv σ H λ v H1=>td σ H1 λ x H2=>ty σ H2 λ y H3=>∃ a H4,x=.ref a/\qny H3 a y v H4/\D.nx σ H4
section
variable {X:Cx}{o i e value:Expr}{pos x6 A9:Pos}{td ty tv:TE}
theorem qb1(hu:X.A.units+1<cLine)(ho:PE X o td)(hi:PE X i ty)(hs:qnz i):PE X (.Subscript o i pos) (qnA td ty):=by
 intro pins s σ H Q I h;refine qk5 PySem.F.slot_dict_getitem.lookup hs (thn (ho pins s σ H _ I h) λ u s1 ⟨x,H1,I1,rx,q1⟩=>thn (hi pins s1 σ H1 _ I1 q1) λ iv s2 ⟨y,H2,I2,ry,a,v,ex,g,q2⟩=>?_);subst ex;obtain rfl:u=Value.ref a:=rx;exact⟨qe4 I2 g,qic hu I2 g ry λ w' s3 I3 V5=>⟨v,H2,I3,V5,q2⟩⟩
theorem qmo(hu:X.A.units+1<cLine)(hi:PE X i ty)(ho:PE X o td):PC X .In i o (qot ty td):=by
 intro pins s σ H Q I h;refine thn (hi pins s σ H _ I h) λ iv s1 ⟨y,H1,I1,ry,q1⟩=>thn (ho pins s1 σ H1 _ I1 q1) λ u s2 ⟨x,H2,I2,rx,a,ov,ex,g,q2⟩=>?_
 subst ex;obtain rfl:u=Value.ref a:=rx;exact qos hu I2 g ry λ s3 I3=>⟨.bl ov.isSome,H2,I3,rfl,q2⟩
theorem qk6(hu:X.A.units+1<cLine)(ho:PE X o td)(hi:PE X i ty)(hv:PE X value tv)(hs:swapsWith value (some (.Subscript o i x6)) pos.line X.env=pure false):
  PS X (.Assign [.Subscript o i x6] value pos) (qnB td ty tv):=by
 intro pins s σ H D I h;refine wpAny_Assign_Subscript (thn (hv pins s σ H _ I h) λ r s1 ⟨v,H1,I1,rv,q1⟩=>thn (ho pins s1 σ H1 _ I1 q1) λ u s2 ⟨x,H2,I2,rx,q2⟩=>thn (hi pins s2 σ H2 _ I2 q2) λ iv s3 ⟨y,H3,I3,ry,a,H4,ex,g,q3⟩=>?_) hs;subst ex;obtain rfl:u=Value.ref a:=rx;exact qid hu I3 g ry rv λ s4 I4=>⟨σ,H4,I4,q3⟩
end
theorem qjn{P:Program}{w:World}{H:Hp}(h:Heap)(hb:sysModules<h.objs.size):zG P w H (h.push { cls:=.type "dict",data:=.dict #[] }) h.objs.size (.dK []):=
 ⟨Vd _,Zc.mpr (Vx (Qw hb)),[],.nil,Heap.DictOf.new h⟩
def qmp:TE:=λ _ H Q=>∀ p,H p=none->Q (.ref p) (upd H p (.dK []))
section
variable {X:Cx}{pos:Pos}
theorem qe5:PE X (.Dict [] [] pos) qmp:=λ pins s σ H Q I h =>
 wpAny_Dict_empty ⟨.ref s.heap.objs.size,_,I.laid (a:=s.heap.objs.size) (o:=.dK []) (t':=s.toks) (λ _ _ q=>XI _ q) (Vc _) (qjn s.heap I.big),rfl,h _ (I.hok.fresh (Vc _))⟩
end
noncomputable def qW(kvs more:List (Key×V)):List (Key×V):=more.foldl (λ c6 kv=>yJ c6 kv.1 kv.2) kvs
theorem KV.merge:∀{more:List (Key×V)}{rs:List (Key×Value)}{kvs:List (Key×V)}{vs:List (Key×Value)},KV more rs->KV kvs vs->KV (qW kvs more) (merged vs rs):=by
 intro more rs kvs vs r;unfold KV at r;induction r generalizing kvs vs with
 |nil=>intro q;exact q
 | @cons p q ps qs h t ih =>
  intro r0;have e:KV (yJ kvs p.1 p.2) (stored vs q.1 q.2):=by
   have:=r0.put p.1 h.2
   rw[<- h.1];exact this
  exact ih e
theorem qaa:∀(more kvs:List (Key×V)),(qW kvs more).length<=kvs.length+more.length
 | [],kvs=>by show kvs.length<=kvs.length+0;omega
 |p::r,kvs=>by
  have h1:=qaa r (yJ kvs p.1 p.2);have h2:=yK kvs p.1 p.2;show(qW (yJ kvs p.1 p.2) r).length<=_
  rw[Uo];omega
structure M2(X:Cx)(o:Expr)(m:Str)(apos:Pos)(e f:Expr)(cpos:Pos):Prop where
 base:attributeBase o m X.env (eval o X.env)=eval o X.env
 few:((backTo cpos (starEach [e,f] X.env)).all (λ x=>!x.1) && (backToKw cpos (keywordEach [] X.env)).all (λ x=>x.1.isSome)
  && decide (([e,f]:List Expr).length+([]:List Keyword).length+(if ([]:List Keyword).isEmpty then 0 else 1)<30))=true
 line:(apos.endLine == cpos.line)=true
 trees:backTo cpos (starEach [e,f] X.env)=[(false,eval e X.env),(false,eval f X.env)]
def IsD(H:Hp)(a:Addr):Prop:=(∃ kvs,Rd H a (.dK kvs))∨∃ kvs,Rd H a (.dT kvs)
theorem qmq{X:Cx}{pins:List (Addr×Obj)}{σ:St}{H:Hp}{s:Shared}{a:Addr}(I:Inv X pins σ H s)(d:IsD H a):
  s.TypeIs (.ref a) "dict"/\(∀ b,Value.ref a=.ref b->∃ ob,s.heap.get? b=some ob/\ob.dict=none)/\(a == sysModules)=false:=by
 rcases d with⟨kvs,e⟩|⟨kvs,e⟩
 ·obtain⟨_,hd,vs,_,dd⟩:=qdy I.hok e;refine⟨dd.typeIs,λ b q=>?_,hd⟩;cases q
  obtain⟨ob,_,_,h1,h2,_⟩:=dd;exact⟨ob,h1,h2.2.1⟩
 ·obtain⟨_,hd,xs,_,dd⟩:=qdz I.hok e;refine⟨dd.typeIs,λ b q=>?_,hd⟩;cases q
  obtain⟨ob,_,_,h1,h2,_⟩:=dd;exact⟨ob,h1,h2.2.1⟩
section
variable {X:Cx}{pins:List (Addr×Obj)}{σ:St}{H:Hp}{s:Shared}{a:Addr}{y d:V}{u r:Value}{o:Option V}{A:Around}{E:Value->Shared->Prop}
theorem qmr{Q:Value->Shared->Prop}(hu:A.units+1<cLine)(I:Inv X pins σ H s)(g:qah H a y o)(ry:qT y u)(rd:qT d r)(h:∀ w' s',Inv X pins σ H s'->qT (o.getD d) w'->Q w' s'):
  wpAny (model X.prog X.w) A (call (.builtin "dict.get") [.ref a,u,r]) Q E s:=by
 rcases g with⟨kvs,k,e,ey,l⟩|⟨kvs,k,b,e,ey,eb,l⟩
 ·subst ey;obtain⟨z,hd,vs,rel,dd⟩:=qdy I.hok e;refine call_meetsIn XW dd.typeIs PySem.F.entry_dict_get (PySem.F.args_dict_get_3 _ _ _) (meets_dict_get_default (qw X.prog X.w) a (qe3 ry) hd r) ⟨_,dd.mapOf,h _ _ (I.tok _) ?_⟩;rw[l];exact(rel.val k).getD rd
 ·subst ey;cases(show u=Value.ref b from ry)
  obtain⟨z,hd,xs,rel,dd⟩:=qdz I.hok e;refine call_meetsIn XW dd.typeIs PySem.F.entry_dict_get (PySem.F.args_dict_get_3 _ _ _) (meetsH_dict_get_default (tupleKind (qw X.prog X.w)) a b hd r) ⟨Zt hu,k,xs,qcm I.hok eb,dd,h _ _ (I.tok _) ?_⟩;rw[l];exact(rel.val k).getD rd
end
def qms(td ty tx:TE):TE:=λ σ H Q=>td σ H λ x H1=>∃ a,x=.ref a/\IsD H1 a/\ty σ H1 λ y H2=>tx σ H2 λ z H3=>∃ o,qah H3 a y o/\Q (o.getD z) H3
section
variable {X:Cx}{o e f:Expr}{apos cpos:Pos}{td ty tx:TE}
theorem qjo(hu:X.A.units+1<cLine)(ho:PE X o td)(he:PE X e ty)(hf:PE X f tx)(m:M2 X o "get" apos e f cpos):PE X (.Call (.Attribute o "get" apos) [e,f] [] cpos) (qms td ty tx):=by
 intro pins s σ H Q I h;refine wpAny_Call_method m.base m.few m.line X8 XW PySem.F.type_dict_get (thn (ho pins s σ H _ I h) λ u s1 ⟨x,H1,I1,rx,a,ex,d,q1⟩=>?_);subst ex;obtain rfl:u=Value.ref a:=rx;obtain⟨t1,t2,_⟩:=qmq I1 d;refine⟨t1,t2,?_⟩;rw[m.trees];refine XJ rfl (Calls.evalArgs_plain (Zi (thn (he pins s1 σ H1 _ I1 q1) λ iv s2 ⟨y,H2,I2,ry,q2⟩ =>
  Zi (thn (hf pins s2 σ H2 _ I2 q2) λ fv s3 ⟨z,H3,I3,rz,ov,g,q3⟩=>Calls.spliced_nil ?_))))
 exact qmr hu I3 g ry rz λ w' s4 I4 V5=>⟨_,H3,I4,V5,q3⟩
end
end L2
namespace HT
open PySem PyProof.Rows
section
variable {prog:Program}{w:World}{A:Around}{E:Value->Shared->Prop}{s:Shared}
theorem cat_tup{t b:Addr}{vs ws:List Value}{Q:Value->Shared->Prop}(ht:IsTup s.heap t vs.toArray)(hb:IsTup s.heap b ws.toArray)(hv:vs≠[])(h1:ws=[]->Q (.ref t) s)(h2:ws≠[]->Q (.ref s.heap.objs.size) { s with heap:=s.heap.push { cls:=.type "tuple",data:=.seq (vs++ws).toArray } })(hsz:vs.length+ws.length<=sizeLine):wpAny (model prog w) A (binaryOp .Add (.ref t) (.ref b)) Q E s:=by
 obtain⟨⟨cls,dd,data,sl⟩,ho,hc,n,hd⟩:=id ht;obtain⟨⟨cls2,mV,data2,sN⟩,P1,iQ,n2,aE⟩:=id hb;simp only at hc hd iQ aE;subst hc hd iQ aE;have e:vs.toArray++ws.toArray=(vs++ws).toArray:=by simp
 by_cases hw:ws=[]
 ·exact concat_meets ⟨_,ho,rfl⟩ ⟨_,P1,rfl⟩ noFill_tuple_add seq_tuple_add XL X9 (X0 _ _)
   (tuple_addW1 t b vs.toArray ws.toArray n n2 dd mV sl sN (by simpa using hv) (by simp[hw])) ⟨ho,P1,h1 hw⟩
 ·refine concat_meets ⟨_,ho,rfl⟩ ⟨_,P1,rfl⟩ noFill_tuple_add seq_tuple_add XL X9 (X0 _ _)
   (tuple_addW2 t b vs.toArray ws.toArray n n2 dd mV sl sN (by simpa using hv) (by simpa using hw) (by rw[Zy,Zy];exact hsz)) ⟨ho,P1,?_⟩
  rw[e];exact h2 hw
noncomputable def sIx(n d:Nat):Option Int->Nat
 |none=>d
 |some v=>if v<0 then(v+(n:Int)).toNat else min v.toNat n
theorem sIx_nat(n d k:Nat):sIx n d (some (k:Int))=min k n:=by
 show(if (k:Int)<0 then((k:Int)+(n:Int)).toNat else min (k:Int).toNat n)=min k n
 rw[V3 (by omega),Zz]
theorem qmt(n d:Nat)(hd:d<=n)(o:Option Int):sIx n d o<=n:=by
 cases o with
 |none=>exact hd
 |some v =>
  show(if v<0 then(v+(n:Int)).toNat else min v.toNat n)<=n
  by_cases hv:v<0
  ·rw[V2 hv];omega
  ·rw[V3 hv];exact Nat.min_le_right _ _
theorem qhs(v:Int)(n d:Nat):(if v<0 then max (v+(n:Int)) 0 else min v (n:Int))=((sIx n d (some v):Nat):Int):=by
 show(if v<0 then max (v+(n:Int)) 0 else min v (n:Int))=(((if v<0 then(v+(n:Int)).toNat else min v.toNat n):Nat):Int)
 by_cases hv:v<0
 ·simp only[V2 hv];omega
 ·simp only[V3 hv];omega
theorem qgk(lo hi:Option Int)(n:Nat):Builtin.Slice.sliceAdjust lo hi 1 (n:Int)=(((sIx n 0 lo:Nat):Int),((sIx n n hi:Nat):Int)):=by
 have h1:¬ ((1:Int)<0):=by omega
 unfold Builtin.Slice.sliceAdjust;simp only[h1,Vr];refine Prod.ext ?_ ?_
 ·cases lo with
  |none=>rfl
  |some v=>exact qhs v n 0
 ·cases hi with
  |none=>rfl
  |some v=>exact qhs v n n
theorem qgl(i j:Nat):Builtin.Slice.slicePlaces (i:Int) (j:Int) 1=j-i:=by
 unfold Builtin.Slice.slicePlaces;have h1:(1:Int) > 0:=by omega
 simp only[h1,Vz,Int.ediv_one];split <;> omega
theorem qcn{v:Value}{o:Option Int}{Q:Option Int->Shared->Prop}(p:IsPart v o)(h:Q o s):wpAny (model prog w) A (Builtin.Slice.slicePartIndex v) Q E s:=by
 cases p with
 |none=>exact slicePart_none h
 |int i t=>exact slicePart_int h
theorem qbq{sl:Addr}{vl vu:Value}{lo hi:Option Int}{n:Nat}{Q:Int×Int×Nat->Shared->Prop}(hs:s.heap.IsSliceOf sl vl vu .none)(pl:IsPart vl lo)(pu:IsPart vu hi)(h:Q (((sIx n 0 lo:Nat):Int),1,sIx n n hi-sIx n 0 lo) s):wpAny (model prog w) A (Builtin.Slice.sliceApplied (.ref sl) (pure (n:Int))) Q E s:=by
 obtain⟨os,dQ,hcs,tO⟩:=id hs;unfold Builtin.Slice.sliceApplied Builtin.Slice.sliceFields;refine Vk (Vk (Vh dQ tO (x:=vl) rfl (Vk (Vh dQ tO (x:=vu) rfl (Vk (Vh dQ tO (x:=.none) rfl (Vl ?_)))))));refine Vk (slicePart_none ?_);show wpAny _ _ (if ((1:Int) == 0)=true then _ else _) _ _ s
 rw[V3 (by decide)];refine Vk (qcn pl (Vk (qcn pu (Vk (Vl ?_)))));show wpAny _ _ (match Builtin.Slice.sliceAdjust lo hi 1 (n:Int) with|(lo,hi)=>pure (lo,(1:Int),Builtin.Slice.slicePlaces lo hi 1)) _ _ s
 rw[qgk lo hi n];show wpAny _ _ (pure (((sIx n 0 lo:Nat):Int),(1:Int),Builtin.Slice.slicePlaces ((sIx n 0 lo:Nat):Int) ((sIx n n hi:Nat):Int) 1)) _ _ s
 rw[qgl];exact Vl h
theorem qjp(xs:Array Value)(i k:Nat):((List.range k).filterMap λ(m:Nat)=>xs[((i:Int)+(m:Int)*1).toNat]?).toArray=((xs.toList.drop i).take k).toArray:=by
 have e:(λ(m:Nat)=>xs[((i:Int)+(m:Int)*1).toNat]?)=λ m=>xs[i+m]?:=by
  funext m
  have:((i:Int)+(m:Int)*1).toNat=i+m:=by omega
  rw[this]
 rw[e]
 have:=pick_run xs i k
 rw[Zk] at this;have e2:((λ x=>xs[x]?) ∘ λ x=>i+x)=λ m=>xs[i+m]?:=rfl
 rw[e2] at this;rw[this]
theorem getItem_tuple_cut{t sl:Addr}{items:Array Value}{vl vu:Value}{lo hi:Option Int}{Q:Value->Shared->Prop}(ht:IsTup s.heap t items)(hs:s.heap.IsSliceOf sl vl vu .none)(pl:IsPart vl lo)(pu:IsPart vu hi)(hw:¬ (sIx items.size 0 lo=0/\sIx items.size items.size hi=items.size))(h:Q (.ref s.heap.objs.size) { s with heap:=s.heap.push { cls:=.type "tuple",data:=.seq ((items.toList.drop (sIx items.size 0 lo)).take (sIx items.size items.size hi-sIx items.size 0 lo)).toArray } })(hsz:items.size<=sizeLine):wpAny (model prog w) A (getItem (.ref t) (.ref sl)) Q E s:=by
 have S3:sizeOk (.seq ((items.toList.drop (sIx items.size 0 lo)).take (sIx items.size items.size hi-sIx items.size 0 lo)).toArray):=by
  show((items.toList.drop (sIx items.size 0 lo)).take (sIx items.size items.size hi-sIx items.size 0 lo)).toArray.size<=sizeLine
  rw[Zy,Uq,Us,Yy];omega
 have hj:sIx items.size items.size hi<=items.size:=qmt _ _ (Vc _) hi;obtain⟨os,dQ,hcs,tO⟩:=id hs;have hTs:s.TypeIs (.ref sl) "slice":=⟨os,dQ,hcs⟩;unfold getItem
 try with_reducible refine Qq ?_
 first|refine Vk (Vl ?_)|skip
 refine Vk (wpAny_sequenceKey ht.typeIs (by decide) ?_);refine Vk (XH (name:=Str.ofString "__getitem__") ht.typeIs Xc
  (U0 Xc ht.typeIs entry_tuple_getitem ?_ (args_tuple_getitem _ _)))
 show wpAny _ _ (Builtin.Tuple.tupleItemsOf (.ref t) >>= _) _ _ s
 refine Vk (tupleItemsOf_ ht ?_);refine Vk (Va hTs ?_);rw[V2 (by decide)];refine Vk (qbq hs pl pu ?_);have hno:¬ ((((sIx items.size 0 lo:Nat):Int) == 0 && (1:Int) == 1 && (sIx items.size items.size hi-sIx items.size 0 lo) == items.size)=true):=by
  intro q;rw[Ut,Ut] at q;have q1:((sIx items.size 0 lo:Nat):Int)=0:=eq_of_beq q.1.1;have q2:sIx items.size items.size hi-sIx items.size 0 lo=items.size:=eq_of_beq q.2;exact hw ⟨by omega,by omega⟩
 show wpAny _ _ (if (((sIx items.size 0 lo:Nat):Int) == 0 && (1:Int) == 1 && (sIx items.size items.size hi-sIx items.size 0 lo) == items.size)=true then _ else _) _ _ s
 rw[V3 hno,qjp]
 first
  |exact Vk (m:=Builtin.Tuple.tupleExact _) (Ue (Vl ⟨_,rfl,Vl h⟩) S3)
  |exact Vk (m:=Builtin.Tuple.tupleExact _) (Ue (Vk (Vl (Vl ⟨_,rfl,Vl h⟩))) S3)
  |exact Vk (Vk (m:=Builtin.Tuple.tupleExact _) (Ue (Vl (Vl ⟨_,rfl,Vl h⟩)) S3))
  |exact Vk (Vk (m:=Builtin.Tuple.tupleExact _) (Ue (Vl ⟨_,rfl,Vl h⟩) S3))
end
end HT
namespace L2
open PySem PySem.Spec PyProof.Rows
abbrev TO:=St->Hp->(Option Int->Hp->Prop)->Prop
def PO(X:Cx)(e:Option Expr)(t:TO):Prop:=
 ∀(pins:List (Addr×Obj))(s:Shared)(σ:St)(H:Hp)(Q:Option Int->Hp->Prop),Inv X pins σ H s->t σ H Q ->
  wpAny (model X.prog X.w) X.A (evalPart e X.env) (λ u s'=>∃ o H',Inv X pins σ H' s'/\IsPart u o/\Q o H') X.xe s
def qk7:TO:=λ _ H Q=>Q none H
def qnC(t:TE):TO:=λ σ H Q=>t σ H λ x H1=>∃ i,x=.int i/\Q (some i) H1
section
variable {X:Cx}{e:Expr}{te:TE}{lo hi:Option Expr}{tl th:TO}{pos p2:Pos}
theorem qaI:PO X none qk7:=by
 intro pins s σ H Q I h;rw[evalPart_none];exact Vl ⟨none,H,I,.none,h⟩
theorem qaJ(h:PE X e te):PO X (some e) (qnC te):=by
 intro pins s σ H Q I hw;rw[evalPart_some];refine thn (h pins s σ H _ I hw) λ u s1 ⟨x,H1,I1,r1,q1⟩=>?_
 obtain⟨i,rfl,q⟩:=q1;obtain⟨t,rfl⟩:=r1;exact⟨some i,H1,I1,.int i t,q⟩
def SlR(X:Cx)(r:V->Option Int->Option Int->Hp->VK->Prop):Prop:=
 ∀(pins:List (Addr×Obj))(s:Shared)(σ:St)(H:Hp)(x:V)(v vl vu:Value)(lo hi:Option Int)(sl:Addr)(Q:VK),Inv X pins σ H s->qT x v->s.heap.IsSliceOf sl vl vu .none->IsPart vl lo->IsPart vu hi->r x lo hi H Q ->
  ∃ T id,typeLookup (.type T) "__getitem__"=pure (some (.builtin id))/\s.TypeIs v T/\wpAny (model X.prog X.w) X.A (getItem v (.ref sl)) (EP X pins σ Q) X.xe s
def tSl(r:V->Option Int->Option Int->Hp->VK->Prop)(te:TE)(tl th:TO):TE:=λ σ H Q=>te σ H λ x H1=>tl σ H1 λ l H2=>th σ H2 λ u H3=>r x l u H3 Q
theorem vE{r:V->Option Int->Option Int->Hp->VK->Prop}(hr:SlR X r)(he:PE X e te)(hl:PO X lo tl)(hu:PO X hi th):PE X (.Subscript e (.Slice lo hi none p2) pos) (tSl r te tl th):=by
 intro pins s σ H Q I h;refine Subscript_ (thn (he pins s σ H _ I h) λ v s1 ⟨x,H1,I1,r1,q1⟩=>?_);refine wpAny_Slice (thn (hl pins s1 σ H1 _ I1 q1) λ vl s2 ⟨l,H2,I2,pl,q2⟩=>thn (hu pins s2 σ H2 _ I2 q2) λ vu s3 ⟨u,H3,I3,pu,q3⟩=>?_);rw[evalPart_none];refine Vl ?_;have I4:Inv X pins σ H3 { s3 with heap:=s3.heap.push { cls:=.type "slice",data:=.fields #[vl,vu,.none] } }:=I3.kept (t':=s3.toks) λ b ob q=>XI _ q
 obtain⟨T,id,hT,ht,hg⟩:=hr pins { s3 with heap:=s3.heap.push { cls:=.type "slice",data:=.fields #[vl,vu,.none] } } σ H3 x v vl vu l u s3.heap.objs.size Q I4 r1 (Heap.IsSliceOf.new ..) pl pu q3;show wpAny (model X.prog X.w) X.A (subscriptTail e (.Slice lo hi none p2) v (.ref s3.heap.objs.size)) (EP X pins σ Q) X.xe { s3 with heap:=s3.heap.push { cls:=.type "slice",data:=.fields #[vl,vu,.none] } }
 exact tail_any (ops:=[.ref s3.heap.objs.size,v]) ht hT hg (by with_unfolding_all rfl)
noncomputable def qbU(xs:List V)(lo hi:Option Int):List V:=(xs.drop (HT.sIx xs.length 0 lo)).take (HT.sIx xs.length xs.length hi-HT.sIx xs.length 0 lo)
theorem qbM(xs:List V)(lo hi:Option Int):(qbU xs lo hi).length<=xs.length:=by
 unfold qbU;rw[Uq,Us];omega
def qou(K:W.Frag):V->Option Int->Option Int->Hp->VK->Prop:=λ x lo hi H Q=>∃ a xs,x=.ref a/\SqT K H a xs /\
 ¬ (HT.sIx xs.length 0 lo=0/\HT.sIx xs.length xs.length hi=xs.length)/\∀ p,H p=none->Q (.ref p) (upd H p (.tup (qbU xs lo hi)))
theorem qmu:SlR X (qou X.K):=by
 intro pins s σ H x v vl vu lo hi sl Q I rx hs pl pu h;obtain⟨a,xs,rfl,hx,hw,q⟩:=h;cases rx
 obtain⟨its,r,ht,hz⟩:=I.tuple hx;have c5:its.toArray.size=xs.length:=by rw[Zy];exact r.length.symm
 refine⟨"tuple",_,PyProof.Rows.slot_tuple_getitem.lookup,ht.typeIs,?_⟩;refine HT.getItem_tuple_cut ht hs pl pu (by rw[c5];exact hw) ?_ (by rw[c5];exact hz);rw[c5];refine⟨.ref s.heap.objs.size,_,I.laid (t':=s.toks) (o:=.tup (qbU xs lo hi)) (λ b ob q=>XI _ q) (Vc _) ?_,rfl,q _ (I.hok.fresh (Vc _))⟩;exact⟨Qx (qbM xs lo hi) hz,_,(r.drop (HT.sIx xs.length 0 lo)).take (HT.sIx xs.length xs.length hi-HT.sIx xs.length 0 lo),IsTup.new _ _⟩
def qnD(K:W.Frag):R2:=λ x y H Q=>∃ a b xs ys,x=.ref a/\y=.ref b/\SqT K H a xs/\SqT K H b ys/\xs≠[]/\xs.length+ys.length<=sizeLine /\
 (ys=[]->Q (.ref a) H)/\(ys≠[]->∀ p,H p=none->Q (.ref p) (upd H p (.tup (xs++ys))))
theorem qK.nil_iff{xs:List V}{us:List Value}(r:qK xs us):us=[] ↔ xs=[]:=by
 cases r with
 |nil=>simp
 |cons _ _=>simp
theorem qk8:OpR X (binaryOp .Add) (qnD X.K):=by
 intro pins s σ H x y v u Q I rx ry h;obtain⟨a,b,xs,ys,rfl,rfl,ha,hb,hx,hz,q1,q2⟩:=h;cases rx
 cases ry
 obtain⟨its,r1,p1,_⟩:=I.tuple ha;obtain⟨L5,r2,p2,_⟩:=I.tuple hb;refine HT.cat_tup p1 p2 (λ z=>hx (r1.nil_iff.mp z)) (λ z=>⟨.ref a,H,I,rfl,q1 (r2.nil_iff.mp z)⟩) (λ z=>?_) (by rw[<- r1.length,<- r2.length];exact hz);refine⟨.ref s.heap.objs.size,_,I.laid (t':=s.toks) (o:=.tup (xs++ys)) (λ b ob q=>XI _ q) (Vc _) ?_,rfl,q2 (λ w=>z (r2.nil_iff.mpr w)) _ (I.hok.fresh (Vc _))⟩;exact⟨by rw[Zj];exact hz,_,r1.append r2,IsTup.new _ _⟩
end
noncomputable def ixN(n:Nat)(i:Int):Option Nat:=if 0<=i then(if i<n then some i.toNat else none) else if -(n:Int)<=i then some (i+n).toNat else none
noncomputable def atI{α:Type}(xs:List α)(i:Int):Option α:=(ixN xs.length i).bind λ j=>xs[j]?
theorem qht{n:Nat}{i:Int}{j:Nat}(h:ixN n i=some j):seqIndex? i n=some j/\j<n/\-(n:Int)<=i/\i<n:=by
 unfold ixN at h;by_cases h0:0<=i
 ·rw[V2 h0] at h;by_cases h1:i<n
  ·rw[V2 h1] at h;have e:i.toNat=j:=Option.some.inj h;exact⟨by rw[seqIndex_of h0 h1,e],by omega,by omega,h1⟩
  ·rw[V3 h1] at h;cases h
 ·rw[V3 h0] at h;by_cases h1:-(n:Int)<=i
  ·rw[V2 h1] at h;have e:(i+n).toNat=j:=Option.some.inj h;exact⟨by rw[seqIndex_neg (by omega) h1,e],by omega,h1,by omega⟩
  ·rw[V3 h1] at h;cases h
theorem qeh{α:Type}{xs:List α}{i:Int}{v:α}(h:atI xs i=some v):∃ j,seqIndex? i xs.length=some j/\xs[j]?=some v/\j<xs.length/\-(xs.length:Int)<=i/\i<xs.length:=by
 unfold atI at h;cases e:ixN xs.length i with
 |none=>rw[e] at h;cases h
 |some j =>
  rw[e] at h;obtain⟨h1,h2,h3,h4⟩:=qht e;exact⟨j,h1,h,h2,h3,h4⟩
theorem kI{α:Type}{xs:List α}{j:Nat}{v:α}(h:xs[j]?=some v):atI xs (j:Int)=some v:=by
 have hj:j<xs.length:=(Xq.mp h).1;have e:ixN xs.length (j:Int)=some j:=by
  unfold ixN;rw[V2 (by omega),V2 (by omega)];simp
 unfold atI;rw[e];exact h
theorem qe6{α:Type}(xs:List α)(v:α):atI (xs++[v]) (-1)=some v:=by
 have hl:(xs++[v]).length=xs.length+1:=by simp
 have e:ixN (xs++[v]).length (-1)=some xs.length:=by
  unfold ixN;rw[hl,V3 (by decide),V2 (by omega)];congr 1
  omega
 unfold atI;rw[e];show(xs++[v])[xs.length]?=some v
 simp
def qk9(b:Expr):Prop:=∀ o i,subscripted b false o i=operate [o,i] (getItem o i)
def IxR(X:Cx)(r:R2):Prop:=
 ∀(value x9:Expr)(pins:List (Addr×Obj))(s:Shared)(σ:St)(H:Hp)(x y:V)(v u:Value)(Q:VK),Inv X pins σ H s->qT x v->qT y u->r x y H Q ->
  subscripted x9 false v u=operate [v,u] (getItem v u)->wpAny (model X.prog X.w) X.A (subscriptTail value x9 v u) (EP X pins σ Q) X.xe s
def MtR(X:Cx)(id:String)(r:V->List V->Hp->VK->Prop):Prop:=
 ∀(pins:List (Addr×Obj))(s:Shared)(σ:St)(H:Hp)(x:V)(xs:List V)(v:Value)(us:List Value)(Q:VK),Inv X pins σ H s->qT x v->qK xs us->r x xs H Q ->
  wpAny (model X.prog X.w) X.A (call (.builtin id) (v::us)) (EP X pins σ Q) X.xe s
section
variable {X:Cx}{a b:Expr}{ta tb:TE}{pos:Pos}
theorem zg{r:R2}(hr:IxR X r)(ha:PE X a ta)(hb:PE X b tb)(hs:qk9 b):PE X (.Subscript a b pos) (tOp r ta tb):=by
 intro pins s σ H Q I h;exact Subscript_ (qmm ha hb I h λ v u s2 x y H2 I2 rx ry q=>hr a b pins s2 σ H2 x y v u Q I2 rx ry q (hs _ _))
def qov(K:W.Frag):R2:=λ x y H Q=>∃ p xs i v,x=.ref p/\y=.int i/\SqL K H p xs/\atI xs i=some v/\Q v H
def qnE(K:W.Frag):R2:=λ x y H Q=>∃ p xs i v,x=.ref p/\y=.int i/\SqT K H p xs/\atI xs i=some v/\Q v H
def qow:R2:=λ x y H Q=>∃ z i c,x=.str z/\y=.int i/\z.length<=sizeLine/\atI z.cps.toList i=some c/\Q (.str ⟨#[c]⟩) H
theorem zZ:IxR X (qov X.K):=by
 intro value x9 pins s σ H x y v u Q I rx ry h hs;obtain⟨p,xs,i,z,rfl,rfl,hq,he,q⟩:=h;cases rx
 obtain⟨t,rfl⟩:=ry;obtain⟨its,r,pl,hz⟩:=I.list hq;obtain⟨j,h1,h2,h3,h4,h5⟩:=qeh he;obtain⟨w,ew,V5⟩:=r.get h2;have hl:=r.length;have hn:=vD;have fin:EP X pins σ Q w s:=⟨z,H,I,V5,q⟩;by_cases h0:0<=i
 ·have hj:i.toNat=j:=by
   rw[seqIndex_of h0 h5] at h1;exact Option.some.inj h1
  exact item_listR pl.isList h0 (by omega) (by rw[hj];simpa using ew) fin hs
 ·have hj:(i+(its.toArray.size:Int)).toNat=j:=by
   rw[seqIndex_neg (by omega) h4] at h1;rw[Zy,<- hl];exact Option.some.inj h1
  exact subscriptTail_builtinR (x:=w) pl.isList.typeIs slot_list_getitem.lookup
   (wpAny_getItem_list_neg (Q:=λ r s'=>r=w/\EP X pins σ Q r s') pl.isList (by omega) (by rw[Zy] <;> omega) (by omega) (by rw[hj];simpa using ew) ⟨rfl,fin⟩) hs
theorem zK:IxR X (qnE X.K):=by
 intro value x9 pins s σ H x y v u Q I rx ry h hs;obtain⟨p,xs,i,z,rfl,rfl,hq,he,q⟩:=h;cases rx
 obtain⟨t,rfl⟩:=ry;obtain⟨its,r,pl,hz⟩:=I.tuple hq;obtain⟨j,h1,h2,h3,h4,h5⟩:=qeh he;obtain⟨w,ew,V5⟩:=r.get h2;have hl:=r.length;have hn:=vD;have fin:EP X pins σ Q w s:=⟨z,H,I,V5,q⟩;exact subscriptTail_builtinR (x:=w) pl.typeIs slot_tuple_getitem.lookup
  (getItem_tuple (j:=j) (Q:=λ r s'=>r=w/\EP X pins σ Q r s') pl (by omega) (by omega) (by rw[Zy,<- hl];exact h1) (by simpa using ew) ⟨rfl,fin⟩) hs
theorem qei:IxR X qow:=by
 intro value x9 pins s σ H x y v u Q I rx ry h hs;obtain⟨z,i,c,rfl,rfl,hz,he,q⟩:=h;obtain⟨t,rfl⟩:=rx;obtain⟨t',rfl⟩:=ry;obtain⟨j,h1,h2,h3,h4,h5⟩:=qeh he;have hl:z.cps.toList.length=z.length:=by simp[Str.length]
 rw[hl] at h1 h4 h5;have hn:=vD;exact tail_any (Vo s z t) slot_str_getitem.lookup (getItem_str (c:=c) (by
  have e1:decide (i < -(2^63:Int))=false:=Jq (by omega);have e2:decide (i ≥ 2^63)=false:=Jq (by omega);rw[e1,e2,Ql]) (by rw[h1];simpa using h2) ⟨.str ⟨#[c]⟩,H,I.tok _,⟨_,rfl⟩,q⟩) hs
theorem qgm(its:List Value)(n j:Nat)(u:Value):Obj.mapSeq (·.setIfInBounds j u) { cls:=.type "list",data:=.seq its.toArray n }={ cls:=.type "list",data:=.seq (its.set j u).toArray n }:=by
 simp[Obj.mapSeq]
theorem Inv.lst{pins:List (Addr×Obj)}{σ:St}{H:Hp}{s:Shared}{p:Addr}{xs:List V}(I:Inv X pins σ H s)(h:H p=some (.lst xs)):
  ∃(its:List Value)(n:Nat),qK xs its/\s.heap.get? p=some { cls:=.type "list",data:=.seq its.toArray n }/\xs.length<=sizeLine:=by
 obtain⟨z,its,n,r,e⟩:=I.hok p _ h;exact⟨its,n,r,e,z⟩
theorem Inv.lstUpd{pins:List (Addr×Obj)}{σ:St}{H:Hp}{s:Shared}{p:Addr}{xs ys:List V}{its its':List Value}{n n':Nat}{f:Obj->Obj}(I:Inv X pins σ H s)(h:H p=some (.lst xs))(ho:s.heap.get? p=some { cls:=.type "list",data:=.seq its.toArray n })(hf:f { cls:=.type "list",data:=.seq its.toArray n }={ cls:=.type "list",data:=.seq its'.toArray n' })(r:qK ys its')(hz:ys.length<=sizeLine)(t:Nat):
  Inv X pins σ (upd H p (.lst ys)) { s with heap:=s.heap.update p f,toks:=t }:=by
 have e:(s.heap.update p f).get? p=some { cls:=.type "list",data:=.seq its'.toArray n' }:=by
  rw[XX f ho (by rw[hf] <;> rfl),hf]
 refine I.write (x:=p) (e:=p) (by rw[h];trivial) (.inl rfl) (λ b u hb q=>(XM _ _ (Vx hb)).trans q) ⟨_,e⟩ ?_;exact⟨hz,its',n',r,e⟩
def qnF:V->V->V->Hp->(Hp->Prop)->Prop:=λ o i v H Q=>∃ p xs k j,o=.ref p/\i=.int k/\H p=some (.lst xs)/\ixN xs.length k=some j/\Q (upd H p (.lst (xs.set j v)))
theorem qjq:qnn X qnF:=by
 intro pins s σ H o i v ov iv u Q I ro ri rv h;obtain⟨p,xs,k,j,rfl,rfl,hp,hj,q⟩:=h;cases ro
 obtain⟨t,rfl⟩:=ri;obtain⟨its,n,r,ho,hz⟩:=I.lst hp;obtain⟨h1,h2,h3,h4⟩:=qht hj;have hl:=r.length;have hn:=vD;have I':Inv X pins σ (upd H p (.lst (xs.set j v))) { s with heap:=s.heap.update p (Obj.mapSeq (·.setIfInBounds j u)) }:=
  I.lstUpd hp ho (qgm its n j u) (r.set rv j) (by rw[List.length_set];exact hz) s.toks
 by_cases h0:0<=k
 ·have hk:k.toNat=j:=by
   rw[seqIndex_of h0 h4] at h1;exact Option.some.inj h1
  exact W.ki_setAt ho h0 (by omega) (by rw[Zy,<- hl];exact h4) (by rw[hk];exact⟨_,I',q⟩)
 ·have hk:(k+(its.toArray.size:Int)).toNat=j:=by
   rw[seqIndex_neg (by omega) h3] at h1;rw[Zy,<- hl];exact Option.some.inj h1
  exact W.ki_setBack ho (by omega) (by rw[Zy,<- hl];exact h3) (by omega) (by rw[hk];exact⟨_,I',q⟩)
theorem qej(lo hi:Option Int)(n:Nat):(sliceBounds lo hi none n).1=((HT.sIx n 0 lo:Nat):Int)/\(sliceBounds lo hi none n).2.1=((HT.sIx n n hi:Nat):Int)/\(sliceBounds lo hi none n).2.2=1:=by
 refine⟨?_,?_,rfl⟩
 ·cases lo with
  |none=>simp[sliceBounds,HT.sIx]
  |some i =>
   simp only[sliceBounds,HT.sIx,Option.getD_none,show(1:Int) > 0 by decide,Vz];by_cases h:i<0
   ·simp only[h,Vz] <;> omega
   ·simp only[h,Vr] <;> omega
 ·cases hi with
  |none=>simp[sliceBounds,HT.sIx]
  |some i =>
   simp only[sliceBounds,HT.sIx,Option.getD_none,show(1:Int) > 0 by decide,Vz];by_cases h:i<0
   ·simp only[h,Vz] <;> omega
   ·simp only[h,Vr] <;> omega
theorem qdh(its:List Value)(lo hi:Option Int):slicePick its.toArray lo hi none=((its.drop (HT.sIx its.length 0 lo)).take (HT.sIx its.length its.length hi-HT.sIx its.length 0 lo)).toArray:=by
 obtain⟨h1,h2,h3⟩:=qej lo hi its.toArray.size;unfold slicePick;rw[h1,h2,h3];simp only[sliceRange_one,pick_run,Zy] <;> rfl
def qox(K:W.Frag):V->Option Int->Option Int->Hp->VK->Prop:=λ x lo hi H Q=>∃ a xs,x=.ref a/\SqL K H a xs/\∀ p,H p=none->Q (.ref p) (upd H p (.lst (qbU xs lo hi)))
theorem qek:SlR X (qox X.K):=by
 intro pins s σ H x v vl vu lo hi sl Q I rx hs pl pu h;obtain⟨a,xs,rfl,hx,q⟩:=h;cases rx
 obtain⟨its,r,ht,hz⟩:=I.list hx;have c5:=r.length;refine⟨"list",_,slot_list_getitem.lookup,ht.isList.typeIs,?_⟩;refine wpAny_getItem_list_slice ht.isList hs pl pu .none (by simp) ?_ (by rw[Zy] <;> omega);rw[qdh,<- c5];refine⟨.ref s.heap.objs.size,_,I.laid (t':=s.toks) (o:=.lst (qbU xs lo hi)) (λ b ob q=>XI _ q) (Vc _) ?_,rfl,q _ (I.hok.fresh (Vc _))⟩;exact⟨Qx (qbM xs lo hi) hz,_,0,(r.drop (HT.sIx xs.length 0 lo)).take (HT.sIx xs.length xs.length hi-HT.sIx xs.length 0 lo),Yz _ rfl⟩
theorem qel:OpR X (compareOp .NotIn) (λ x y H Q=>∃ i j,x=.str i/\y=.str j/\Q (.bl (!(!(Builtin.Str.occurrences j i 0 j.length 1).isEmpty))) H):=by
 intro pins s σ H x y v u Q I rx ry h;obtain⟨i,j,rfl,rfl,q⟩:=h;obtain⟨t,rfl⟩:=rx;obtain⟨t',rfl⟩:=ry;exact notIn_str ⟨.bl _,H,I,rfl,q⟩
theorem qC:jh X (.builtin "len") (λ xs H Q=>∃ p ys,xs=[.ref p]/\(SqL X.K H p ys∨SqT X.K H p ys)/\Q (.int ys.length) H):=by
 intro pins s σ H xs us Q I r h;obtain⟨p,ys,rfl,hq,q⟩:=h;obtain⟨u,rfl,rx⟩:=yd r;cases rx
 have hn:=vD;rcases hq with hq|hq
 ·obtain⟨its,r',pl,hz⟩:=I.list hq;have c5:=r'.length;exact Calls.call_len_list pl.isList (by simp only[Zy] <;> omega) ⟨.int ys.length,H,I.tok _,⟨s.toks+1,by rw[Zy,c5]⟩,q⟩
 ·obtain⟨its,r',pl,hz⟩:=I.tuple hq;have c5:=r'.length;exact len_tuple pl (by simp only[Zy] <;> omega) ⟨.int ys.length,H,I.tok _,⟨s.toks+1,by rw[Zy,c5]⟩,q⟩
theorem y3:jh X (.builtin "len") (λ xs H Q=>∃ z,xs=[.str z]/\z.length<=sizeLine/\Q (.int z.length) H):=by
 intro pins s σ H xs us Q I r h;obtain⟨z,rfl,hz,q⟩:=h;obtain⟨u,rfl,t,rfl⟩:=yd r;have hn:=vD;exact len_str (by omega) ⟨.int z.length,H,I.tok _,⟨_,rfl⟩,q⟩
theorem qem:jh X (.type "list") (λ xs H Q=>∃ p ys,xs=[.ref p]/\(SqL X.K H p ys∨SqT X.K H p ys)/\∀ l,H l=none->Q (.ref l) (upd H l (.lst ys))):=by
 intro pins s σ H xs us Q I r h;obtain⟨p,ys,rfl,hq,q⟩:=h;obtain⟨u,rfl,rx⟩:=yd r;cases rx
 have fin:∀(its:List Value),qK ys its->ys.length<=sizeLine->∀(h':Heap)(c':Nat),(∀ b o',s.heap.get? b=some o'->h'.get? b=some o') ->
   h'.get? s.heap.objs.size=some { cls:=.type "list",dict:=none,data:=.seq its.toArray c',slots:=#[] }->EP X pins σ Q (.ref s.heap.objs.size) { s with heap:=h' }:=λ its r' hz h' c' kp e =>
  ⟨.ref s.heap.objs.size,_,I.laid (t':=s.toks) kp (Vc _) (show zG X.prog X.w _ h' _ (.lst ys) from⟨hz,its,c',r',e⟩),rfl,q _ (I.hok.fresh (Vc _))⟩
 rcases hq with hq|hq
 ·obtain⟨its,r',pl,hz⟩:=I.list hq;have c5:=r'.length;obtain⟨o,ho,hc,n,hd⟩:=pl.isList;exact call_list_seq p (.inl rfl) ho hc hd (λ h' c' kp e=>fin its r' hz h' c' kp e) (by simp only[Zy] <;> omega)
 ·obtain⟨its,r',pl,hz⟩:=I.tuple hq;have c5:=r'.length;obtain⟨o,ho,hc,n,hd⟩:=pl;exact call_list_seq p (.inr rfl) ho hc hd (λ h' c' kp e=>fin its r' hz h' c' kp e) (by simp only[Zy] <;> omega)
theorem yy:jh X (.type "tuple") (λ xs H Q=>∃ p ys,xs=[.ref p]/\((SqL X.K H p ys/\∀ l,H l=none->Q (.ref l) (upd H l (.tup ys)))∨(SqT X.K H p ys/\Q (.ref p) H))):=by
 intro pins s σ H xs us Q I r h;obtain⟨p,ys,rfl,h⟩:=h;obtain⟨u,rfl,rx⟩:=yd r;cases rx
 rcases h with⟨hq,q⟩|⟨hq,q⟩
 ·obtain⟨its,r',pl,hz⟩:=I.list hq;have c5:=r'.length;refine call_tuple_list pl.isList (λ h' kp=>?_) (by simp only[Zy] <;> omega);have I1:Inv X pins σ H { s with heap:=h' }:=I.kept (t':=s.toks) kp;have I2:Inv X pins σ (upd H h'.objs.size (.tup ys)) { s with heap:=h'.push { cls:=.type "tuple",data:=.seq its.toArray } }:=
   I1.laid (t':=s.toks) (λ b o e=>XI _ e) (Vc _) (show zG X.prog X.w _ _ _ (.tup ys) from⟨hz,its,r',IsTup.new _ _⟩)
  exact⟨.ref h'.objs.size,_,I2,rfl,q _ (I1.hok.fresh (Vc _))⟩
 ·obtain⟨its,r',pl,hz⟩:=I.tuple hq;exact call_tuple_same pl ⟨.ref p,H,I,rfl,q⟩
def tyV(K:W.Frag)(T:String)(x:V)(H:Hp):Prop:=match x with
 | .str _=>T="str"
 | .int _=>T="int"
 | .ref p=>(T="list"/\∃ xs,SqL K H p xs)∨(T="tuple"/\∃ o,K.lookup p=some o/\o.cls=.type "tuple"/\o.dict=none) ∨
   (T="dict"/\((∃ kvs,H p=some (.dK kvs))∨∃ kvs,H p=some (.dT kvs)))∨(T="set"/\∃ S n,H p=some (.set S n))
 |_=>False
theorem qgn{pins:List (Addr×Obj)}{σ:St}{H:Hp}{s:Shared}{T:String}{x:V}{v:Value}(I:Inv X pins σ H s)(r:qT x v)(ty:tyV X.K T x H):
  s.TypeIs v T/\∀ a,v=.ref a->∃ ob,s.heap.get? a=some ob/\ob.dict=none:=by
 cases x with
 |str z =>
  obtain⟨t,rfl⟩:=r;cases(show T="str" from ty)
  exact⟨Vo s z t,λ _ e=>nomatch e⟩
 |int i =>
  obtain⟨t,rfl⟩:=r;cases(show T="int" from ty)
  exact⟨typeIs_int s i t,λ _ e=>nomatch e⟩
 |ref p =>
  cases r
  rcases ty with⟨rfl,xs,hq⟩|⟨rfl,o,hk,hc,hd⟩|⟨rfl,hk⟩|⟨rfl,S,n,hk⟩
  ·obtain⟨its,_,pl,_⟩:=I.list hq;refine⟨pl.isList.typeIs,λ a e=>?_⟩;cases e
   obtain⟨o,n,e,c,hd,_⟩:=pl;exact⟨o,e,hd⟩
  ·refine⟨⟨o,I.kIn p o hk,hc⟩,λ a e=>?_⟩;cases e
   exact⟨o,I.kIn _ o hk,hd⟩
  ·have z:∃ o,s.heap.get? p=some o/\o.ExactDict:=by
    rcases hk with⟨kvs,hk⟩|⟨kvs,hk⟩
    ·obtain⟨_,_,_,_,o,_,_,e,ex,_⟩:=I.hok p _ hk;exact⟨o,e,ex⟩
    ·obtain⟨_,_,_,_,o,_,_,e,ex,_⟩:=I.hok p _ hk;exact⟨o,e,ex⟩
   obtain⟨o,e,ex⟩:=z;refine⟨⟨o,e,ex.1⟩,λ a e2=>?_⟩;cases e2
   exact⟨o,e,ex.2.1⟩
  ·obtain⟨o,_,_,_,e,ex,_⟩:=I.hok p _ hk;refine⟨⟨o,e,ex.1⟩,λ a e2=>?_⟩;cases e2
   exact⟨o,e,ex.2.1⟩
 |_=>exact False.elim ty
def qoy(K:W.Frag)(T:String)(r:V->List V->Hp->VK->Prop)(to:TE):TE:=λ σ H Q=>to σ H λ x H1=>tyV K T x H1/\r x [] H1 Q
def tBM(K:W.Frag)(T:String)(r:V->List V->Hp->VK->Prop)(to:TE)(t:TA):TE:=λ σ H Q=>to σ H λ x H1=>tyV K T x H1/\t σ H1 λ xs H2=>r x xs H2 Q
variable {o e:Expr}{es:List Expr}{to:TE}{t:TA}{name:Str}{apos cpos:Pos}{T id:String}{r:V->List V->Hp->VK->Prop}
theorem qai(pa:PlainAttrs T)(slot:Slot T name id)(xM:typeOf (.builtin id)=pure (.type "method_descriptor"))(hm:MtR X id r)(ho:PE X o to)(N6:attributeBase o name X.env (eval o X.env)=eval o X.env:=by rfl)(N2:(apos.endLine == cpos.line)=true:=by rfl):PE X (.Call (.Attribute o name apos) [] [] cpos) (qoy X.K T r to):=by
 intro pins s σ H Q I h;refine wpAny_Call_method0_late N6 N2 (thn (ho pins s σ H _ I h) λ v s1 ⟨x,H1,I1,r1,ty,q1⟩=>?_);obtain⟨h1,h2⟩:=qgn I1 r1 ty;exact⟨T,id,pa,slot,xM,h1,h2,XJ rfl (PySem.evalArgs_none (hm pins s1 σ H1 x [] v [] Q I1 r1 .nil q1))⟩
theorem yL(pa:PlainAttrs T)(slot:Slot T name id)(xM:typeOf (.builtin id)=pure (.type "method_descriptor"))(hm:MtR X id r)(ho:PE X o to)(ha:PA X (e::es) t)(N6:attributeBase o name X.env (eval o X.env)=eval o X.env:=by rfl)(hfew:((backTo cpos (starEach (e::es) X.env)).all (λ x=>!x.1) && (backToKw cpos (keywordEach [] X.env)).all (λ x=>x.1.isSome)
   && decide ((e::es).length+([]:List Keyword).length+(if ([]:List Keyword).isEmpty then 0 else 1)<30))=true:=by rfl)(N2:(apos.endLine == cpos.line)=true:=by rfl)(hs:starEach (e::es) X.env=(false,eval e X.env)::starEach es X.env:=by rfl)(L6:(backTo cpos (starEach es X.env)).any (·.1)=false:=by rfl):
  PE X (.Call (.Attribute o name apos) (e::es) [] cpos) (tBM X.K T r to t):=by
 intro pins s σ H Q I h;refine wpAny_Call_method_late N6 hfew N2 rfl (thn (ho pins s σ H _ I h) λ v s1 ⟨x,H1,I1,r1,ty,q1⟩=>?_);obtain⟨h1,h2⟩:=qgn I1 r1 ty;refine⟨T,id,pa,slot,xM,h1,h2,?_⟩;have hA:=ha cpos pins s1 σ H1 _ I1 q1;rw[hs] at hA ⊢;refine XJ (by show(false || (backTo cpos (starEach es X.env)).any (·.1))=false;rw[L6] <;> rfl) (Calls.evalArgs_plain ?_);exact thn hA λ us s2 ⟨vs,H2,I2,r2,q2⟩=>hm pins s2 σ H2 x vs v us Q I2 r1 r2 q2
end
def MtM(X:Cx)(id:String)(r:V->List V->Hp->VK->Prop):Prop:=
 ∀(pins:List (Addr×Obj))(s:Shared)(σ:St)(H:Hp)(x:V)(xs:List V)(v:Value)(us:List Value)(Q:VK),Inv X pins σ H s->qT x v->qK xs us->r x xs H Q ->
  wpAny (model X.prog X.w) X.A (call (.builtin id) (v::us)) (EP X pins σ Q) X.xe s
theorem qK.one:∀{x:V}{us:List Value},qK [x] us->∃ u,us=[u]/\qT x u
 |_,_,.cons r .nil=>⟨_,rfl,r⟩
theorem qK.zero:∀{us:List Value},qK [] us->us=[]
 |_,.nil=>rfl
theorem qK.dropLast{xs:List V}{us:List Value}(h:qK xs us):qK xs.dropLast us.dropLast:=by
 induction h with
 |nil=>exact .nil
 |cons r t ih =>
  cases t with
  |nil=>exact .nil
  |cons q t'=>exact .cons r ih
theorem qK.rep{xs:List V}{us:List Value}(h:qK xs us):∀ k:Nat,qK (List.replicate k xs).flatten (List.replicate k us).flatten
 |0=>.nil
 |k+1=>by
  rw[Y1,Y1,Z0,Z0];exact qK.append h (qK.rep h k)
theorem qgo{α:Type}(l:List α):l.eraseIdx (l.length-1)=l.dropLast:=by
 induction l with
 |nil=>rfl
 |cons a r ih =>
  cases r with
  |nil=>rfl
  |cons b r =>
   have e:(a::b::r).length-1=((b::r).length-1)+1:=by
    have h1:(a::b::r).length=r.length+2:=rfl;have h2:(b::r).length=r.length+1:=rfl;omega
   rw[e,XA,ih]
   all_goals rfl
theorem qdA(its:List Value):∀(k:Nat)(c6:List Value),
  List.foldl (λ x1 x2=>x1++x2) c6.toArray (List.replicate k its.toArray)=(c6++(List.replicate k its).flatten).toArray
 |0,c6=>by simp
 |k+1,c6=>by
  have e:c6.toArray++its.toArray=(c6++its).toArray:=by simp
  have e2:(c6++its)++(List.replicate k its).flatten=c6++(List.replicate (k+1) its).flatten:=by
   rw[Y1,Z0,Z1]
  rw[<- e2,<- qdA its k (c6++its),<- e,Y1,Jd]
section
variable {X:Cx}{pins:List (Addr×Obj)}{σ:St}{H:Hp}{s:Shared}{l b:Addr}{xs ys zs:List V}
theorem Inv.lset{its its':List Value}{n:Nat}{f:Array Value->Array Value}{t':Nat}(I:Inv X pins σ H s)(hH:H l=some (.lst xs))(e:s.heap.get? l=some { cls:=.type "list",data:=.seq its.toArray n })(hf:f its.toArray=its'.toArray)(hv:qK ys its')(hz:ys.length<=sizeLine):
  Inv X pins σ (upd H l (.lst ys)) { s with heap:=s.heap.update l (Obj.mapSeq f),toks:=t' }:=by
 have q:=PySem.IsL.update e f;rw[hf] at q;refine I.write (x:=l) (e:=l) (by rw[hH];exact trivial) (.inl rfl) (λ b' u hb hu=>(XM s.heap (Obj.mapSeq f) (Vx hb)).trans hu) ⟨_,q⟩ ?_;exact⟨hz,its',_,hv,q⟩
theorem Inv.lnew{its:List Value}{t':Nat}(I:Inv X pins σ H s)(hv:qK ys its)(hz:ys.length<=sizeLine):
  Inv X pins σ (upd H s.heap.objs.size (.lst ys)) { s with heap:=s.heap.push { cls:=.type "list",data:=.seq its.toArray },toks:=t' }:=
 I.laid (λ _ _ q=>XI _ q) (Vc _) ⟨hz,its,0,hv,Yz _ rfl⟩
theorem Inv.fresh(I:Inv X pins σ H s):H s.heap.objs.size=none:=I.hok.fresh (Vc _)
theorem Inv.lstM(I:Inv X pins σ H s)(hH:H l=some (.lst xs)):xs.length<=sizeLine/\∃(its:List Value)(n:Nat),qK xs its/\xs.length=its.length/\s.heap.get? l=some { cls:=.type "list",data:=.seq its.toArray n }:=by
 obtain⟨z,its,n,r,e⟩:=I.hok l _ hH;exact⟨z,its,n,r,r.length,e⟩
theorem qjr{n:Nat}(h:n<=sizeLine):Builtin.List.listTooLong n=false:=by
 unfold Builtin.List.listTooLong;exact Jq (by omega)
end
section
variable {X:Cx}
def qla:V->List V->Hp->VK->Prop:=λ x vs H Q=>∃ l xs y,x=.ref l/\vs=[y]/\H l=some (.lst xs)/\xs.length<sizeLine/\Q .non (upd H l (.lst (xs++[y])))
theorem zt:MtM X "list.append" qla:=by
 intro pins s σ H x vs v us Q I rx rv h;obtain⟨l,xs,y,rfl,rfl,hH,hz,q⟩:=h;cases rx
 obtain⟨u,rfl,ru⟩:=rv.one;obtain⟨z,its,n,r,hl,e⟩:=I.lstM hH;refine Vp F.slot_list_append ⟨_,e,rfl⟩ F.entry_list_append (F.args_list_append_2 _ _) (PySem.list_append l its.toArray n u (by rw[Zy];omega)) ⟨e,?_⟩;refine⟨.non,_,I.lset (its':=its++[u]) hH e (by simp) (r.append (.cons ru .nil)) ?_,rfl,q⟩;rw[Zj,XY];omega
def qoz:V->List V->Hp->VK->Prop:=λ x vs H Q=>∃ l xs y,x=.ref l/\vs=[]/\H l=some (.lst xs)/\xs[xs.length-1]?=some y/\Q y (upd H l (.lst xs.dropLast))
theorem qaj:MtM X "list.pop" qoz:=by
 intro pins s σ H x vs v us Q I rx rv h;obtain⟨l,xs,y,rfl,rfl,hH,hy,q⟩:=h;cases rx
 have hus:=rv.zero;subst hus;obtain⟨z,its,n,r,hl,e⟩:=I.lstM hH;obtain⟨u,hu,ru⟩:=r.get hy;have nY:its.toArray[its.toArray.size-1]?=some u:=by
  show its.toArray[its.length-1]?=some u
  rw[<- XZ,<- hl];exact hu
 refine Vp F.slot_list_pop ⟨_,e,rfl⟩ F.entry_list_pop (F.args_list_pop_1 _) (MeetsSeq.list_pop_last l its.toArray n u nY (by rw[Zy];omega)) ⟨e,?_⟩;refine⟨y,_,I.lset (its':=its.dropLast) hH e ?_ r.dropLast ?_,ru,q⟩
 ·show its.toArray.eraseIdxIfInBounds (its.toArray.size-1)=its.dropLast.toArray
  rw[Zy,List.eraseIdxIfInBounds_toArray,qgo]
 ·rw[List.length_dropLast];omega
def qoA:R2:=λ x y H Q=>∃ l b xs zs,x=.ref l/\y=.ref b/\H l=some (.lst xs)/\H b=some (.lst zs)/\xs.length+zs.length<=sizeLine/\∀ p,H p=none->Q (.ref p) (upd H p (.lst (xs++zs)))
theorem qak:OpR X (binaryOp .Add) qoA:=by
 intro pins s σ H x y v u Q I rx ry h;obtain⟨l,b,xs,zs,rfl,rfl,hH,hB,hz,q⟩:=h;cases rx
 cases ry
 obtain⟨z,its,n,r,hl,e⟩:=I.lstM hH;obtain⟨z2,L5,n2,r2,L7,e2⟩:=I.lstM hB;refine PySem.P.add_list e e2 ?_ (by rw[Zy,Zy];omega);have ea:its.toArray++L5.toArray=(its++L5).toArray:=by simp
 rw[ea];exact⟨.ref _,_,I.lnew (t':=s.toks) (r.append r2) (by rw[Zj];omega),rfl,q _ I.fresh⟩
def qoB:R2:=λ x y H Q=>∃ l k xs,x=.ref l/\y=.int k/\H l=some (.lst xs)/\-(2^63)<=k/\k<2^63/\xs.length*k.toNat<=sizeLine /\
 ∀ p,H p=none->Q (.ref p) (upd H p (.lst (List.replicate k.toNat xs).flatten))
theorem qlb{α:Type}(xs:List α)(k:Nat):(List.replicate k xs).flatten.length=k*xs.length:=by
 induction k with
 |zero=>simp
 |succ k ih=>rw[Y1,Z0,Zj,ih,Nat.succ_mul,Nat.add_comm]
theorem qmv:OpR X (binaryOp .Mult) qoB:=by
 intro pins s σ H x y v u Q I rx ry h;obtain⟨l,k,xs,rfl,rfl,hH,h1,h2,hz,q⟩:=h;cases rx
 obtain⟨t,rfl⟩:=ry;obtain⟨z,its,n,r,hl,e⟩:=I.lstM hH;have c5:its.toArray.size*k.toNat<=sizeLine:=by rw[Zy,<- hl];exact hz
 have hcap:¬ its.toArray.size*k.toNat > (2^63-1) / 8:=by
  have:(sizeLine:Nat)<=(2^63-1) / 8:=by decide
  omega
 have hfit:¬ (!Builtin.List.listFitsIndex k)=true:=by
  rw[fitsIndex_both h1 h2];exact Zg
 have oX:¬ Builtin.List.listTooLong (its.toArray.size*k.toNat)=true:=by
  rw[qjr c5];exact Zg
 have B1:List.foldl (λ x1 x2=>x1++x2) #[] (List.replicate (if its.toArray.isEmpty=true then 0 else k.toNat) its.toArray)=(List.replicate k.toNat its).flatten.toArray:=by
  have f0:∀ m:Nat,List.foldl (λ x1 x2=>x1++x2) #[] (List.replicate m its.toArray)=(List.replicate m its).flatten.toArray:=λ m=>by
   have:=qdA its m []
   rw[Je] at this;exact this
  rw[f0];cases its with
  |nil=>simp
  |cons a r'=>rw[V3 (by simp)]
 refine wpAny_binaryOp_repeat_ref (T:="list") (U:="int") (by decide) ⟨_,e,rfl⟩ (λ s'=>typeIs_int s' k t) noFill_list_mul F.fills_int_mul F.slot_int_rmul repeat_list F.slot_int_index.lookup
  (Vp F.slot_int_rmul (typeIs_int s k t) F.entry_int_rmul (F.args_int_rmul_2 _ _) (int___rmul___int_list k t l its.toArray n)
   ⟨e,rfl,⟨_,e,rfl⟩,Vp F.slot_list_mul ⟨_,e,rfl⟩ F.entry_list_mul (F.args_list_mul_2 _ _) (AutoListH.list___mul___list_int_3 l its.toArray n k t hfit hcap oX) ⟨e,?_⟩⟩)
 rw[B1];exact⟨.ref _,_,I.lnew (t':=s.toks) (r.rep k.toNat) (by rw[qlb,Q1];exact hz),rfl,q _ I.fresh⟩
end
end L2
namespace Att
open PySem PySem.W PySem.Calls PyProof.Rows
theorem qbV{P:Params}{h:Heap}:∀(ns:List Int)(vs:List Value),WellAll P h vs (ns.map WData.int)->IntsAre vs ns:=by
 intro ns;induction ns with
 |nil =>
  intro vs w;rw[List.map_nil] at w;cases w
  exact .nil
 |cons n ns ih =>
  intro vs w;rw[Qi] at w;cases w with
  |cons a b =>
   cases a
   exact .cons _ _ (ih _ b)
theorem qie{l:OpenLaw}{n:Nat}(hn:l.most=some n){P:Params}{h:Heap}{args:List WData}{gQ:List Value}(dJ:l.row.toRowW.claim.pre args=true)(xK:WellAll P h gQ args):
  ∃ a vs ns,gQ=[Value.ref a]/\args=[WData.list (ns.map WData.int)]/\h.get? a=some { cls:=.type "list",data:=.seq vs.toArray }/\IntsAre vs ns/\ns.length<=n:=by
 have hsh:WShape.hasAll [] args [.list .int]=true:=(pre_splitW dJ).1;have hc:l.pre.holds [] { args:=args }=true:=(pre_splitW dJ).2;obtain⟨d,r,rfl,h1,h2⟩:=hasAllW_cons hsh;obtain rfl:=hasAllW_nil h2;obtain⟨xs,rfl,h3⟩:=hasW_list h1;obtain⟨ns,rfl⟩:=items_int h3;have c5:ns.length<=n:=by
  unfold OpenLaw.pre at hc;have h4:(WTm.not (.lt (.lit (.int (n:Int))) (.len (.arg 0)))).holds [] { args:=[.list (ns.map .int)] }=true:=by
   have h4:=(holds_andW hc).1;rw[hn] at h4;exact h4
  have h5:=condW_of h4 (w_not (w_lt w_lit (w_len_list (w_arg rfl))));rw[U7] at h5;refine Nat.le_of_not_lt λ q=>?_
  have q':(n:Int)<((ns.length:Nat):Int):=by omega
  first
   |(rw[Qc q'] at h5;exact absurd h5 (by decide))
   |(simp at h5;omega)
 cases xK with
 |cons w1 w2 =>
  cases w2
  cases w1 with
  |list ho hall=>exact⟨_,_,ns,rfl,rfl,ho,qbV ns _ hall,c5⟩
theorem qif(l:OpenLaw)(args:List WData):l.row.toRowW.claim.post args (.bool true) args=true:=
 postW_of (r:=l.row.toRowW) (X:=(true == true))
  (show WShape.has [] (.bool true) .bool=true by first|rfl|decide|simp[WShape.has,WShape.arms,WShape.armsAll])
  (show(WTm.eq .res (.lit (.bool true))).value [] { args:=args,res:=some (.bool true),after:=args }=some (.bool (true == true)) from w_eq_bool (w_res rfl) w_lit) rfl
theorem attach_call{l:OpenLaw}{n:Nat}{q:Program}{K9:List Str}{XP:(Str->Option Value)->Heap->Prop}{YP:World->Heap->Prop}{d:DefRec}(hn:l.most=some n)(pG:d.params.defaults=[])(call:∀(w:World)(s₀ s₁:Shared)(mg mb:Str->Option Value)(fa:Addr)(o:Obj)(pm cd doc:Value)(a:Addr)(vs:List Value)(ns:List Int),
   Ground q K9 [] XP w s₀ mg mb s₁.heap->YP w s₁.heap ->
   s₁.heap.get? fa=some o->o.data=.func (docDef d.name d.params d.body d.scope pm cd doc)->s₁.heap.CodeRec cd d.name->mg d.name=some (.ref fa) ->
   s₁.heap.get? a=some { cls:=.type "list",data:=.seq vs.toArray }->IntsAre vs ns->ns.length<=n->s₁.gens=#[] ->
   codeAny (model l.prog w) callerA (.call (.ref fa) ⟨[.ref a],[]⟩) (λ r s'=>r=.ok (.ret (.bool true))/\OldK s₁.heap s'.heap/\s'.os=s₁.os/\AllBare s'.gens) s₁):
  WalkO q K9 XP YP l.row.toRowW d [] (λ f vs=>PySem.call f vs):=by
 intro w s₀ s₁ mg mb G Y fa o pm cd doc dV kV ho hd aF hD oV hg args gQ as dJ hlay hrd xK hlo;obtain rfl:dV=.none:=Dflts.none hD pG;obtain rfl:kV=.none:=Dflts.noKw hD;obtain⟨a,vs,ns,rfl,rfl,iK,aU,c5⟩:=qie hn dJ xK;refine enter_call (Q9 (call w s₀ s₁ mg mb fa o pm cd doc a vs ns G Y ho (fd_plain hd) aF oV iK aU c5 hg) λ r s' hq=>?_);obtain⟨rfl,h2,h3,h4⟩:=hq;exact⟨.inl ⟨.bool true,.bool true,[],rfl,λ _=>rfl,.bool true,qif l _,λ _=>⟨List.Pairwise.nil,λ _ hm=>(nomatch hm)⟩⟩,h2,h3,h4⟩
end Att
namespace L2
open PySem PySem.Spec PyProof.Rows
theorem qdB:∀{vs:List Value}{ns:List Int},IntsAre vs ns->qK (ns.map V.int) vs
 |_,_,.nil=>.nil
 |_,_,.cons n t h=>.cons ⟨t,rfl⟩ (qdB h)
def qmw(H:Hp):Prop:=∀ b,H b=none∨∃ o xs,H b=some (.frz o (.lst xs))
theorem qjs{P:Program}{w:World}{K:W.Frag}{mg mb:Str->Option Value}{CX:CXT}{k:Nat}{fa a:Addr}{fd:FuncData}{x:Str}{sp:Sp}{s₁:Shared}{vs:List Value}{ns:List Int}(KX:K.In s₁.heap)(hns:s₁.heap.Ns mainGlobals mg)(hb:s₁.heap.Ns builtinsNs mb)(dY:∀ x:Str,x≠"__name__"->mb x=bootBuiltins x)(hlim:s₁.heap.NoLimit)(hg:s₁.gens=#[])(ha:s₁.heap.get? a=some { cls:=.type "list",data:=.seq vs.toArray })(hi:IntsAre vs ns)(hl:ns.length<=sizeLine)(hr:Room k callerA)(F:∀ base:Heap,K.In base->base.Ns mainGlobals mg->FnOk P w K mg base CX k fa fd [x] sp)(pJ:∀(s:Shared)(u:Value),BindsTo s fd ⟨[u],[]⟩ [(x,u)])(fH:∀ H:Hp,qmw H->SqL K H a (ns.map V.int)->sp [.ref a] H (λ v _=>v=.bl true) λ _ _ _=>False)(hCX:∀ H e s',CX [] H s₁ (λ _ _ _=>False) e s'->False):
  codeAny (model P w) callerA (.call (.ref fa) ⟨[.ref a],[]⟩) (λ r s'=>r=.ok (.ret (.bool true))/\OldK s₁.heap s'.heap/\s'.os=s₁.os/\AllBare s'.gens) s₁:=by
 have rv:=qdB hi;have xB:=hi.length;have rR:∀ H:Hp,qmw H->SqL K H a (ns.map V.int)->HOk P w H s₁.heap->(∀ b,H b≠none->b=a)->(H a≠none->K.lookup a=none) ->
   codeAny (model P w) callerA (.call (.ref fa) ⟨[.ref a],[]⟩) (λ r s'=>r=.ok (.ret (.bool true))/\OldK s₁.heap s'.heap/\s'.os=s₁.os/\AllBare s'.gens) s₁:=by
  intro H hO hS hok hA hK;have T5:∀{b:Addr}{o:Obj},s₁.heap.get? b=some o->H b=none->(qec s₁.heap H).get? b=some o:=λ e n=>qi6 e n
  have nK:∀{b:Addr}{o:Obj}{es:Array DictEntry}{ep:Nat},s₁.heap.get? b=some o->o.data=.dict es ep->H b=none:=λ{b o es ep} e d=>by
   cases q:H b with
   |none=>rfl
   |some u =>
    have e':b=a:=hA b (by rw[q];simp);subst e';rw[ha] at e;cases e;have d':Data.seq vs.toArray _=Data.dict es ep:=d;cases d'
  have sT:∀{b:Addr}{m:Str->Option Value},s₁.heap.Ns b m->(qec s₁.heap H).Ns b m:=λ{b m} ⟨o,es,ep,e,d,r⟩=>⟨o,es,ep,T5 e (nK e d),d,r⟩
  have hKb:K.In (qec s₁.heap H):=λ b o e=>T5 (KX b o e) (by
   cases q:H b with
   |none=>rfl
   |some u =>
    have e':b=a:=hA b (by rw[q];simp);subst e';rw[hK (by rw[q];simp)] at e;cases e)
  have hM:Mod K mg (qec s₁.heap H):=⟨hKb,sT hns,⟨mb,sT hb,dY⟩,let ⟨mc,h1,h2⟩:=hlim;⟨mc,sT h1,h2⟩⟩;have e0:Env0 P w K mg (qec s₁.heap H) callerA [] s₁ H:=⟨rfl,hM,λ b o e=>qkX e,Nat.le_of_eq (qh2 _ _),trivial,λ b hb=>absurd (show b∈([]:List Addr) from hb) (by simp),hok,.of_eq hg⟩;refine Q9 ((F _ hKb (sT hns)).run callerA [] s₁ H ⟨[.ref a],[]⟩ [.ref a] [.ref a] _ _ hr e0 (pJ s₁ (.ref a)) (.cons rfl .nil) (fH H hO hS)) λ r s' h=>?_
  cases r with
  |error e=>exact(hCX H e s' h).elim
  |ok fl =>
   cases fl with
   |next=>exact False.elim h
   |brk=>exact False.elim h
   |cont=>exact False.elim h
   |ret u =>
    obtain⟨v,H',os,bare,un,hok',r',q⟩:=h;have q':v=.bl true:=q;subst q';obtain rfl:u=Value.bool true:=r';refine⟨rfl,OldK.of_keep λ b o e=>?_,os,bare⟩;cases q:H b with
    |none=>exact un.keep b o e q (by intro z;exact absurd (show b∈([]:List Addr) from z) (by simp)) (by simp)
    |some u =>
     rcases hO b with z|⟨ob,xs,z⟩
     ·rw[q] at z;cases z
     ·have z2:=un.frzs b ob _ z;obtain⟨e1,_⟩:=hok b _ z;obtain⟨e2,_⟩:=hok' b _ z2;rw[e] at e1;cases e1;exact e2
 cases hk:K.lookup a with
 |some o =>
  have e:=KX a o hk;rw[ha] at e;cases e
  refine rR (λ _=>none) (λ _=>.inl rfl) (.inr ⟨_,vs.toArray,_,hk,rfl,rfl,rfl,by rw[Zy,xB];exact hl,by simpa using rv⟩) (λ b u z=>by have z':(none:Option HO)=some u:=z;cases z') (λ b z=>absurd rfl z) λ z=>absurd rfl z
 |none =>
  refine rR (λ b=>if b=a then some (.frz { cls:=.type "list",data:=.seq vs.toArray } (.lst (ns.map V.int))) else none) (λ b=>?_) (.inl (.inr ⟨{ cls:=.type "list",data:=.seq vs.toArray },V2 rfl⟩)) (λ b u z=>?_) (λ b z=>?_) λ _=>hk
  ·by_cases hb:b=a
   ·exact .inr ⟨_,_,V2 hb⟩
   ·exact .inl (V3 hb)
  ·by_cases hb:b=a
   ·have z':=(V2 hb).symm.trans z;cases z'
    subst hb;exact⟨ha,by rw[U7];exact hl,vs,_,rv,ha⟩
   ·have z':=(V3 hb).symm.trans z;cases z'
  ·by_cases hb:b=a
   ·exact hb
   ·exact absurd (V3 hb) z
theorem walk_of{l:W.OpenLaw}{n k:Nat}{q:Program}{K9:List Str}{XP:(Str->Option Value)->Heap->Prop}{YP:World->Heap->Prop}{d:DefRec}{K:Params->W.Frag}{CX:World->CXT}{sp:World->Sp}{x:Str}(hn:l.most=some n)(aS:n<=sizeLine)(pG:d.params.defaults=[])(hr:Room k callerA)(hY:∀(w:World)(h:Heap),YP w h->(K w.params).In h)(F:∀(w:World)(mg:Str->Option Value)(fa:Addr)(h:Heap),(K w.params).In h->h.Ns mainGlobals mg->mg d.name=some (.ref fa) ->
   ∃ fd:FuncData,(∀(s:Shared)(u:Value),BindsTo s fd ⟨[u],[]⟩ [(x,u)]) /\
    ∀ base:Heap,(K w.params).In base->base.Ns mainGlobals mg->FnOk l.prog w (K w.params) mg base (CX w) k fa fd [x] (sp w))(fH:∀(w:World)(H:Hp)(a:Addr)(ns:List Int),ns.length<=n->qmw H->SqL (K w.params) H a (ns.map V.int)->sp w [.ref a] H (λ v _=>v=.bl true) λ _ _ _=>False)(hCX:∀(w:World)(H:Hp)(s:Shared)(e:Value)(s':Shared),CX w [] H s (λ _ _ _=>False) e s'->False):
  PySem.W.WalkO q K9 XP YP l.row.toRowW d [] (λ f vs=>PySem.call f vs):=by
 refine Att.attach_call hn pG λ w s₀ s₁ mg mb fa o pm cd doc a vs ns G Y ho hd aF oV iK aU c5 hg=>?_
 have KX:=hY w _ Y;obtain⟨fd,hb,hF⟩:=F w mg fa _ KX G.T.g oV;exact qjs KX G.T.g G.T.b G.T.builtins G.T.nolimit hg iK aU (Qx c5 aS) hr hF hb (λ H hO hS=>fH w H a ns c5 hO hS) λ H e s'=>hCX w H s₁ e s'
noncomputable def qU(s:Stmt)(j:Nat):Stmt:=match s with
 |.ClassDef _ _ _ body _ _ _ _ _ _ _=>body.getD j (.Pass ⟨0,0,0,0⟩)
 |_=>.Pass ⟨0,0,0,0⟩
noncomputable def qaK(s:Stmt):Arguments:=match s with
 |.FunctionDef _ a _ _ _ _ _ _ _ _=>a
 |_=>{ posonlyargs:=[],args:=[],vararg:=none,kwonlyargs:=[],kw_defaults:=[],kwarg:=none,defaults:=[] }
noncomputable def jT(s:Stmt):List Stmt:=match s with
 |.FunctionDef _ _ b _ _ _ _ _ _ _=>b
 |_=>[]
noncomputable def qi(s:Stmt):Scope:=match s with
 |.FunctionDef _ _ _ _ _ _ sc _ _ _=>sc
 |_=>{ kind:=.function,names:=[],isGenerator:=false,isCoroutine:=false }
abbrev CX0:CXT:=λ _ _ _ _ _ _=>False
abbrev E0:XK:=λ _ _ _=>False
theorem qF{X:Cx}:qag CX0 X E0:=λ _ _ _ _ _ _ _ h=>h.elim
structure Fun(K:W.Frag)(x qual:Str)(st:Stmt)(f:Addr)(fd:FuncData):Prop where
 ex:∃(oc:Value)(od:Option Addr)(kV doc pm:Value)(an:Option Addr)(cdv ct:Value)(osl:Array (Option Value)),
  fd=W.fnOf x qual (qaK st) (jT st) (qi st) .none kV doc pm an cdv ct/\K.lookup f=some ⟨oc,od,.func fd,osl⟩/\W.codeIn K cdv qual=true
 kp:W.keepIn K (.ref f)=true
section
variable {P:Program}{w:World}{K:W.Frag}{mg:Str->Option Value}{base:Heap}
theorem qjt{X:Cx}{k:Nat}{f:Addr}{fd:FuncData}{ps:List Str}{sp:Sp}{x:Str}{p pos:Pos}{e:Expr}{es:List Expr}{t:TA}(F:FnOk X.prog X.w X.K X.mg X.base CX0 k f fd ps sp)(hr:Room k X.A)(hm:X.mg x=some (.ref f))(hk:W.keepIn X.K (.ref f)=true)(hb:qh X.K fd ps [])(ha:PA X (e::es) t)(hg:Gl X x:=by rfl)(V8:(x == ("__debug__":Str))=false:=by decide)(he:starEach (e::es) X.env=(false,eval e X.env)::starEach es X.env:=by rfl)(t8:(backTo pos (starEach es X.env)).any (·.1)=false:=by rfl):PE X (.Call (.Name x p) (e::es) [] pos) (qcl sp [] E0 t):=zi F hr hg hm hk hb .nil qF ha V8 he t8
structure Dp(P:Program)(w:World)(K:W.Frag)(mg:Str->Option Value)(base:Heap)(k:Nat)(f:Addr)(d:FuncData)(ps:List Str)(sp:Sp)(x:Str):Prop where
 g:FnOk P w K mg base CX0 k f d ps sp
 b:qh K d ps []
 e:W.keepIn K (.ref f)=true
 m:mg x=some (.ref f)
theorem zc{X:Cx}{k:Nat}{f:Addr}{fd:FuncData}{ps:List Str}{sp:Sp}{x:Str}{p pos:Pos}{e:Expr}{es:List Expr}{t:TA}(D:Dp X.prog X.w X.K X.mg X.base k f fd ps sp x){j:Nat}(hr:Room j X.A)(ha:PA X (e::es) t)(hg:Gl X x:=by rfl)(V8:(x == ("__debug__":Str))=false:=by decide)(he:starEach (e::es) X.env=(false,eval e X.env)::starEach es X.env:=by rfl)(t8:(backTo pos (starEach es X.env)).any (·.1)=false:=by rfl)(hj:k<=j:=by decide):PE X (.Call (.Name x p) (e::es) [] pos) (qcl sp [] E0 t):=qjt D.g (hr.mono hj) D.m D.e D.b ha hg V8 he t8
theorem Fun.ok{x qual:Str}{st:Stmt}{f:Addr}{fd:FuncData}{N ps:List Str}{k:Nat}{sp:Sp}(F:Fun K x qual st f fd)(S:FnScope N ps (qi st))(len:∀ vs H Q E,sp vs H Q E->vs.length=ps.length)(N5:∀(cdv:Value)(A:Around)(outer:List Env)(s:Shared)(H:Hp)(vs:List V)(Q:VK)(E:XK),Room k (A.deeper (envOfC qual (qi st) s.heap.objs.size f cdv))->sp vs H Q E ->
   ∃ t,PSs (qgi CX0 P w K mg base N qual (qi st) f cdv A outer s H E).nox (jT st) t/\t { nx:=λ _ H'=>Q .non H',rt:=Q } (qaH N vs) H):FnOk P w K mg base CX0 (k+1) f fd ps sp:=by
 obtain⟨oc,od,kV,doc,pm,an,cdv,ct,osl,rfl,lk,aF⟩:=F.ex;refine qnw lk aF S len λ A outer s H vs Q E hr fH=>?_
 obtain⟨t,h,q⟩:=N5 cdv A outer s H vs Q E hr fH;exact⟨t,h.nox,q⟩
theorem Fun.okd{x qual:Str}{st:Stmt}{f:Addr}{fd:FuncData}{N ps:List Str}{k:Nat}{sp:Sp}(F:Fun K x qual st f fd)(S:FnScope N ps (qi st))(N5:∀(cdv:Value)(A:Around)(outer:List Env)(s:Shared)(H:Hp)(vs:List V)(Q:VK)(E:XK),Room k (A.deeper (envOfC qual (qi st) s.heap.objs.size f cdv))->sp vs H Q E ->
   ∃ t,PSs (qgi CX0 P w K mg base N qual (qi st) f cdv A outer s H E).nox (jT st) t/\t { nx:=λ _ H'=>Q .non H',rt:=Q } (qaH N vs) H)(len:∀ vs H Q E,sp vs H Q E->vs.length=ps.length:=by intro vs H Q E h;repeat (first|(obtain⟨rfl,_⟩:=h;rfl)|(obtain⟨_,h⟩:=h))):FnOk P w K mg base CX0 (k+1) f fd ps sp:=F.ok S len N5
theorem ls1{us:List Value}(h:us.length=1):∃ a,us=[a]:=match us,h with| [a],_=>⟨a,rfl⟩
theorem ls2{us:List Value}(h:us.length=2):∃ a b,us=[a,b]:=match us,h with| [a,b],_=>⟨a,b,rfl⟩
theorem ls3{us:List Value}(h:us.length=3):∃ a b c,us=[a,b,c]:=match us,h with| [a,b,c],_=>⟨a,b,c,rfl⟩
theorem ls4{us:List Value}(h:us.length=4):∃ a b c d,us=[a,b,c,d]:=match us,h with| [a,b,c,d],_=>⟨a,b,c,d,rfl⟩
theorem Fun.binds{x qual:Str}{st:Stmt}{f:Addr}{fd:FuncData}{ps:List Str}(F:Fun K x qual st f fd)(h:∀(kV doc pm:Value)(an:Option Addr)(cdv ct:Value)(us:List Value),us.length=ps.length->bindArgs (W.fnOf x qual (qaK st) (jT st) (qi st) .none kV doc pm an cdv ct) ⟨us,[]⟩=pure (ps.zip us):=by intro _ _ _ _ _ _ us hl;first|(obtain⟨_,rfl⟩:=ls1 hl;rfl)|(obtain⟨_,_,rfl⟩:=ls2 hl;rfl)|(obtain⟨_,_,_,rfl⟩:=ls3 hl;rfl)|(obtain⟨_,_,_,_,rfl⟩:=ls4 hl;rfl)):qh K fd ps []:=by
 obtain⟨oc,od,kV,doc,pm,an,cdv,ct,osl,rfl,lk,aF⟩:=F.ex;exact .all (h kV doc pm an cdv ct)
theorem fun_mk{x qual:Str}{st:Stmt}{f:Addr}{oc:Value}{od an:Option Addr}{osl:Array (Option Value)}{kV doc pm cdv ct:Value}(l:K.lookup f=some ⟨oc,od,.func (W.fnOf x qual (qaK st) (jT st) (qi st) .none kV doc pm an cdv ct),osl⟩)(c:W.codeIn K cdv qual=true)(k:W.keepIn K (.ref f)=true):Fun K x qual st f (W.fnOf x qual (qaK st) (jT st) (qi st) .none kV doc pm an cdv ct):=⟨⟨oc,od,kV,doc,pm,an,cdv,ct,osl,rfl,l,c⟩,k⟩
end
theorem qdC{A:Around}{k:Nat}(hr:Room k A):A.units+1<cLine:=Zl (Nat.add_le_add_left (by decide:1<=64) _) hr.units
section
variable {X:Cx}
theorem pv(i:Nat){x:Str}{pos:Pos}(hN:X.N[i]?=some x:=by rfl)(hv:Vis X.env.scope x:=by first | exact Or.inl rfl | exact Or.inr (Or.inl rfl) | exact Or.inr (Or.inr rfl))(hd:(x == ("__debug__":Str))=false:=by decide)(aF:(x == ("__classdict__":Str))=false:=by decide):PE X (.Name x pos) (qf6 i):=qmd hN hv hd aF
end
theorem yM{A B:Prop}(h:B):if false=true then A else B:=by
 rw[V3 Zg];exact h
theorem qbr{A B:Prop}(h:A):if true=true then A else B:=by
 rw[V2 rfl];exact h
theorem qbs{c A B:Prop}[Decidable c](h1:c->A)(h2:¬ c->B):if c then A else B:=by
 by_cases h:c
 ·rw[V2 h];exact h1 h
 ·rw[V3 h];exact h2 h
def qg(H H':Hp):Prop:=∀ b o,H b=some o->H' b=some o
theorem qg.refl(H:Hp):qg H H:=λ _ _ h=>h
theorem qg.trans{H H1 H2:Hp}(a:qg H H1)(b:qg H1 H2):qg H H2:=λ c o h=>b c o (a c o h)
theorem qg.free{H H':Hp}(e:qg H H'){l:Addr}(h:H' l=Option.none):H l=Option.none:=by
 cases q:H l with
 |none=>rfl
 |some o =>
  rw[e l o q] at h;cases h
theorem qg.seq{K:W.Frag}{H H':Hp}{a:Addr}{xs:List V}(e:qg H H')(h:SqL K H a xs):SqL K H' a xs:=by
 rcases h with(h|⟨o,h⟩)|h
 ·exact .inl (.inl (e _ _ h))
 ·exact .inl (.inr ⟨o,e _ _ h⟩)
 ·exact .inr h
end L2
namespace Fs
abbrev Pr:=List Nat
theorem qe7{α:Type}{r:α->α->Prop}(nW:∀ a,¬ r a a)(sF:∀ a b,r a b->¬ r b a):∀{l m:List α},l.Pairwise r->m.Pairwise r->(∀ x,x∈l ↔ x∈m)->l=m
 | [],[],_,_,_=>rfl
 | [],b::m,_,_,h=>by have:=(h b).mpr Zf;cases this
 |a::l,[],_,_,h=>by have:=(h a).mp Zf;cases this
 |a::l,b::m,hl,hm,h=>by
  have S9:=Zm.mp hl;have mJ:=Zm.mp hm;have ab:a=b:=by
   rcases Qh.mp ((h a).mp Zf) with e|e
   ·exact e
   ·rcases Qh.mp ((h b).mpr Zf) with e' | e'
    ·exact e'.symm
    ·exact absurd (mJ.1 a e) (sF _ _ (S9.1 b e'))
  subst ab
  have:l=m:=qe7 nW sF S9.2 mJ.2 λ x=>by
   constructor
   ·intro hx;rcases Qh.mp ((h x).mp (Yl _ hx)) with e | e
    ·subst e;exact absurd (S9.1 x hx) (nW x)
    ·exact e
   ·intro hx;rcases Qh.mp ((h x).mpr (Yl _ hx)) with e | e
    ·subst e;exact absurd (mJ.1 x hx) (nW x)
    ·exact e
  rw[this]
theorem qhu(a:Pr):¬ a<a:=List.lt_irrefl a
theorem qju(a b:Pr)(h:a<b):¬ b<a:=λ h'=>qhu a (List.lt_trans h h')
structure Vf(F:List Pr):Prop where
 rise:F.Pairwise (·<·)
 prod:∀ p∈F,p.Pairwise (·<·)
theorem zo{α:Type}{r:α->α->Prop}(nW:∀ a,¬ r a a):∀{l:List α},l.Pairwise r->l.Nodup:=λ{l} h=>h.imp λ{a b} x4 e=>by subst e;exact nW _ x4
theorem Vf.nodup{F:List Pr}(h:Vf F):F.Nodup:=zo qhu h.rise
noncomputable def qy(ρ:Nat->Bool):List Pr->Bool
 | []=>false
 |p::F=>xor (p.all ρ) (qy ρ F)
theorem jU(ρ:Nat->Bool):∀ F G:List Pr,qy ρ (F++G)=xor (qy ρ F) (qy ρ G)
 | [],G=>by simp[qy]
 |p::F,G=>by
  show xor (p.all ρ) (qy ρ (F++G))=_
  rw[jU ρ F G];show _=xor (xor (p.all ρ) (qy ρ F)) (qy ρ G)
  rw[J0]
theorem jV(ρ:Nat->Bool){F G:List Pr}(h:F.Perm G):qy ρ F=qy ρ G:=by
 induction h with
 |nil=>rfl
 |cons x _ ih=>show xor _ _=xor _ _;rw[ih]
 |swap x y l=>show xor _ (xor _ _)=xor _ (xor _ _);rw[<- J0,<- J0,Bool.xor_comm (y.all ρ)]
 |trans _ _ a b=>exact a.trans b
theorem vF(ρ:Nat->Bool)(q:Pr->Bool):∀ F:List Pr,qy ρ F=xor (qy ρ (F.filter q)) (qy ρ (F.filter λ p=>!q p))
 | []=>rfl
 |p::F=>by
  have ih:=vF ρ q F;cases h:q p with
  |true =>
   rw[XB h,XC (by simp[h])];show xor _ _=xor (xor _ _) _
   rw[ih,J0]
  |false =>
   rw[XC (by simp[h]),XB (by simp[h])];show xor _ _=xor _ (xor _ _)
   rw[ih];cases p.all ρ <;> cases qy ρ (F.filter q) <;> cases qy ρ (F.filter λ p=>!q p) <;> rfl
noncomputable def qe8(F G:List Pr):List Pr:=F.filter (λ p=>!G.contains p)++G.filter (λ p=>!F.contains p)
theorem qco{F G:List Pr}{p:Pr}:p∈qe8 F G ↔ ((p∈F/\p∉G)∨(p∈G/\p∉F)):=by
 simp[qe8,U5,U4]
theorem qgp(ρ:Nat->Bool){F G:List Pr}(hF:F.Nodup)(hG:G.Nodup):qy ρ (qe8 F G)=xor (qy ρ F) (qy ρ G):=by
 have e1:=vF ρ (λ p=>G.contains p) F;have e2:=vF ρ (λ p=>F.contains p) G;have e3:qy ρ (F.filter λ p=>G.contains p)=qy ρ (G.filter λ p=>F.contains p):=by
  refine jV ρ ?_;rw[Xl (hF.filter _) (hG.filter _)];intro p;simp only[U4,Ya];exact⟨λ ⟨a,b⟩=>⟨b,a⟩,λ ⟨a,b⟩=>⟨b,a⟩⟩
 rw[qe8,jU,e1,e2,e3];cases qy ρ (G.filter λ p=>F.contains p) <;> cases qy ρ (F.filter λ p=>!G.contains p) <;> cases qy ρ (G.filter λ p=>!F.contains p) <;> rfl
theorem qcp{F G:List Pr}(hF:F.Nodup)(hG:G.Nodup):(qe8 F G).Nodup:=by
 refine Z2.mpr ⟨hF.filter _,hG.filter _,?_⟩;intro a ha b hb e;subst e;simp[U4] at ha hb;exact hb.2 ha.1
theorem jI{α:Type}[DecidableEq α]:∀{l m:List α},l.Nodup->(∀ x∈l,x∈m)->l.length<=m.length
 | [],_,_,_=>Vd _
 |a::l,m,nd,h=>by
  have A8:=U9.mp nd;have ha:a∈m:=h a Zf
  have:=jI (l:=l) (m:=m.erase a) A8.2 λ x hx=>(List.mem_erase_of_ne (λ(e:x=a)=>A8.1 (by rw[<- e];exact hx))).mpr (h x (Yl _ hx))
  rw[List.length_erase_of_mem ha] at this
  have:0<m.length:=List.length_pos_of_mem ha
  rw[Uo];omega
noncomputable def za:List Nat->List Pr
 | []=>[[]]
 |l::ls=>za ls++(za ls).map (l::·)
theorem qM:∀ ls:List Nat,(za ls).length=2^ls.length
 | []=>rfl
 |l::ls=>by rw[za,Zj,U7,qM ls,Uo,Q2];omega
theorem zC:∀{ls:List Nat}{p:Pr},p∈za ls ↔ p.Sublist ls
 | [],p=>by simp[za]
 |l::ls,p=>by
  rw[za,U5,Q3];constructor
  ·rintro(h | ⟨q,h,rfl⟩)
   ·exact(zC.mp h).cons _
   ·exact(zC.mp h).cons₂ _
  ·intro h;cases h with
   |cons _ h=>exact .inl (zC.mpr h)
   |cons_cons _ h=>exact .inr ⟨_,zC.mpr h,rfl⟩
theorem jt:∀{ls:List Nat},ls.Nodup->(za ls).Nodup
 | [],_=>by simp[za]
 |l::ls,h=>by
  have h':=U9.mp h;rw[za];refine Z2.mpr ⟨jt h'.2,?_,?_⟩
  ·have:=jt h'.2
   exact Z4.mpr (this.imp λ{a b} x4 e=>x4 (List.cons.inj e).2)
  ·intro a ha b hb e;subst e;obtain⟨q,hq,rfl⟩:=Q3.mp hb;exact h'.1 ((zC.mp ha).subset Zf)
noncomputable def zb:Nat->List Bool->List Bool
 |0,t=>t
 |n+1,t=>zb n (t.take (2^n))++List.zipWith (· != ·) (zb n (t.take (2^n))) (zb n (t.drop (2^n)))
theorem qP:∀(n:Nat)(t:List Bool),t.length=2^n->(zb n t).length=2^n
 |0,t,h=>h
 |n+1,t,h=>by
  have hp:2^(n+1)=2^n+2^n:=by rw[Q2];omega
  have h1:(t.take (2^n)).length=2^n:=by rw[Uq];omega
  have h2:(t.drop (2^n)).length=2^n:=by rw[Us];omega
  rw[zb,Zj,Y2,qP n _ h1,qP n _ h2];omega
noncomputable def look(ρ:Nat->Bool):List Nat->List Bool->Bool
 | [],t=>t.headD false
 |l::ls,t=>if ρ l=true then look ρ ls (t.drop (2^ls.length)) else look ρ ls (t.take (2^ls.length))
noncomputable def pol(ρ:Nat->Bool):List Nat->List Bool->Bool
 | [],t=>t.headD false
 |l::ls,t=>xor (pol ρ ls (t.take (2^ls.length))) (ρ l && pol ρ ls (t.drop (2^ls.length)))
theorem qaL(f:Bool->Bool->Bool)(ρ:Nat->Bool):∀(ls:List Nat)(t u:List Bool),t.length=2^ls.length->u.length=2^ls.length->look ρ ls (List.zipWith f t u)=f (look ρ ls t) (look ρ ls u)
 | [],[a],[b],_,_=>rfl
 |l::ls,t,u,ht,hu=>by
  rw[Uo,Q2] at ht hu;rw[look,look,look];by_cases h:ρ l=true
  ·rw[V2 h,V2 h,V2 h,List.drop_zipWith];exact qaL f ρ ls _ _ (by rw[Us];omega) (by rw[Us];omega)
  ·rw[V3 h,V3 h,V3 h,List.take_zipWith];exact qaL f ρ ls _ _ (by rw[Uq];omega) (by rw[Uq];omega)
theorem kJ(ρ:Nat->Bool):∀(ls:List Nat)(t:List Bool),t.length=2^ls.length->look ρ ls (zb ls.length t)=pol ρ ls t
 | [],t,_=>rfl
 |l::ls,t,h=>by
  rw[Uo,Q2] at h;have h1:(t.take (2^ls.length)).length=2^ls.length:=by rw[Uq];omega
  have h2:(t.drop (2^ls.length)).length=2^ls.length:=by rw[Us];omega
  have s1:=qP ls.length _ h1;have s2:=qP ls.length _ h2;have e1:(zb (ls.length+1) t).take (2^ls.length)=zb ls.length (t.take (2^ls.length)):=by
   rw[zb,Xd (by omega),XN (by omega)]
  have e2:(zb (ls.length+1) t).drop (2^ls.length)=List.zipWith (· != ·) (zb ls.length (t.take (2^ls.length))) (zb ls.length (t.drop (2^ls.length))):=by
   rw[zb,Xe (by omega),XO (by omega),Je]
  rw[look,pol,Uo,e1,e2];rw[qaL (· != ·) ρ ls _ _ s1 s2,kJ ρ ls _ h1,kJ ρ ls _ h2];cases ρ l <;> simp <;> cases pol ρ ls (t.take (2^ls.length)) <;> cases pol ρ ls (t.drop (2^ls.length)) <;> rfl
theorem qcq:∀(n:Nat)(t u:List Bool),t.length=2^n->u.length=2^n->zb n (List.zipWith (· != ·) t u)=List.zipWith (· != ·) (zb n t) (zb n u)
 |0,t,u,_,_=>rfl
 |n+1,t,u,ht,hu=>by
  have hp:2^(n+1)=2^n+2^n:=by rw[Q2];omega
  have t1:(t.take (2^n)).length=2^n:=by rw[Uq];omega
  have t2:(t.drop (2^n)).length=2^n:=by rw[Us];omega
  have u1:(u.take (2^n)).length=2^n:=by rw[Uq];omega
  have u2:(u.drop (2^n)).length=2^n:=by rw[Us];omega
  rw[zb,zb,zb,List.take_zipWith,List.drop_zipWith,qcq n _ _ t1 u1,qcq n _ _ t2 u2];rw[List.zipWith_append (by rw[qP n _ t1,qP n _ u1])];congr 1
  have q:∀(a b c d:List Bool),List.zipWith (· != ·) (List.zipWith (· != ·) a b) (List.zipWith (· != ·) c d)=List.zipWith (· != ·) (List.zipWith (· != ·) a c) (List.zipWith (· != ·) b d):=by
   intro a;induction a with
   |nil=>intro b c d;simp
   |cons x a ih =>
    intro b c d;cases b with
    |nil=>cases c <;> simp
    |cons y b =>
     cases c with
     |nil=>simp
     |cons z c =>
      cases d with
      |nil=>simp
      |cons w d =>
       simp only[List.zipWith_cons_cons,ih];cases x <;> cases y <;> cases z <;> cases w <;> rfl
  exact q _ _ _ _
theorem qaM:∀(a b:List Bool),a.length=b.length->List.zipWith (· != ·) a (List.zipWith (· != ·) a b)=b
 | [],[],_=>rfl
 |x::a,y::b,h=>by
  simp only[List.zipWith_cons_cons];rw[qaM a b (by simpa using h)];cases x <;> cases y <;> rfl
theorem qbt:∀(n:Nat)(t:List Bool),t.length=2^n->zb n (zb n t)=t
 |0,t,_=>rfl
 |n+1,t,h=>by
  have hp:2^(n+1)=2^n+2^n:=by rw[Q2];omega
  have t1:(t.take (2^n)).length=2^n:=by rw[Uq];omega
  have t2:(t.drop (2^n)).length=2^n:=by rw[Us];omega
  have s1:=qP n _ t1;have s2:=qP n _ t2;have e1:(zb (n+1) t).take (2^n)=zb n (t.take (2^n)):=by
   rw[zb,Xd (by omega),XN (by omega)]
  have e2:(zb (n+1) t).drop (2^n)=List.zipWith (· != ·) (zb n (t.take (2^n))) (zb n (t.drop (2^n))):=by
   rw[zb,Xe (by omega),XO (by omega),Je]
  conv=>lhs;rw[zb]
  rw[e1,e2,qcq n _ _ s1 s2,qbt n _ t1,qbt n _ t2,qaM _ _ (by omega)];exact Yb _ _
noncomputable def zS(ls:List Nat)(t:List Bool):List Pr:=((za ls).zip t).filterMap λ x=>if x.2=true then some x.1 else none
theorem jW(ρ:Nat->Bool):∀(ls:List Nat)(t:List Bool),t.length=2^ls.length->qy ρ (zS ls t)=pol ρ ls t
 | [],[b],_=>by cases b <;> simp[zS,za,qy,pol]
 |l::ls,t,h=>by
  rw[Uo,Q2] at h;have h1:(t.take (2^ls.length)).length=2^ls.length:=by rw[Uq];omega
  have h2:(t.drop (2^ls.length)).length=2^ls.length:=by rw[Us];omega
  have e:zS (l::ls) t=zS ls (t.take (2^ls.length))++(zS ls (t.drop (2^ls.length))).map (l::·):=by
   unfold zS;rw[za]
   conv=>lhs;rw[<- Yb (2^ls.length) t]
   rw[Jf (by rw[qM];omega),Yc];congr 1
   rw[List.zip_map_left,Zk,List.map_filterMap];congr 1
   funext x
   obtain⟨a,b⟩:=x;cases b <;> rfl
  have m:∀ F:List Pr,qy ρ (F.map (l::·))=(ρ l && qy ρ F):=by
   intro F;induction F with
   |nil=>simp[qy]
   |cons p F ih =>
    show xor ((l::p).all ρ) _=_
    rw[ih,Qm];show _=(ρ l && xor (p.all ρ) (qy ρ F))
    cases ρ l <;> simp
  rw[e,jU,m,jW ρ ls _ h1,jW ρ ls _ h2,pol]
theorem qcr{ls:List Nat}{t:List Bool}{p:Pr}(h:p∈zS ls t):p.Sublist ls:=by
 unfold zS at h;obtain⟨x,hx,e⟩:=List.mem_filterMap.mp h;split at e
 ·cases e;exact zC.mp (Ja hx).1
 ·cases e
theorem jX:∀(P:List Pr)(t:List Bool),((P.zip t).filterMap λ x=>if x.2=true then some x.1 else none).Sublist P
 | [],t=>by simp
 |p::P,[]=>by simp
 |p::P,b::t=>by
  rw[Zn,Yx];cases b with
  |true=>exact(jX P t).cons₂ _
  |false=>exact(jX P t).cons _
theorem jY{ls:List Nat}(t:List Bool)(h:ls.Nodup):(zS ls t).Nodup:=(jt h).sublist (jX _ _)
theorem qcs(F:List Pr):∀(P:List Pr),((P.zip (P.map λ p=>F.contains p)).filterMap λ x=>if x.2=true then some x.1 else none)=P.filter λ p=>F.contains p
 | []=>rfl
 |p::P=>by
  rw[Qi,Zn,Yx,qcs F P];cases h:F.contains p with
  |true=>rw[XB h];rfl
  |false=>rw[XC (by rw[h];exact Zg)];rfl
theorem qe9(ρ:Nat->Bool){ls:List Nat}{F:List Pr}(hl:ls.Nodup)(hF:F.Nodup)(h:∀ p∈F,p.Sublist ls):
  look ρ ls (zb ls.length ((za ls).map λ p=>F.contains p))=qy ρ F:=by
 have len:((za ls).map λ p=>F.contains p).length=2^ls.length:=by rw[U7,qM]
 rw[kJ ρ ls _ len,<- jW ρ ls _ len];refine jV ρ ?_;unfold zS;rw[qcs,Xl ((jt hl).filter _) hF];intro p;rw[U4,zC,Ya];exact⟨λ x=>x.2,λ x=>⟨h p x,x⟩⟩
theorem plt_total{a b:Pr}(h1:¬ a<b)(h2:¬ b<a):a=b:=List.le_antisymm (List.not_lt.mp h2) (List.not_lt.mp h1)
noncomputable def ins(a:Pr):List Pr->List Pr
 | []=>[a]
 |b::l=>if b<a then b::ins a l else a::b::l
noncomputable def srt:List Pr->List Pr
 | []=>[]
 |a::l=>ins a (srt l)
theorem qct(a:Pr):∀ l:List Pr,(ins a l).Perm (a::l)
 | []=>J4 _
 |b::l=>by
  rw[ins];split
  ·exact((qct a l).cons b).trans (List.Perm.swap a b l)
  ·exact J4 _
theorem zU:∀ l:List Pr,(srt l).Perm l
 | []=>J4 _
 |a::l=>(qct a (srt l)).trans ((zU l).cons a)
theorem qjv(a:Pr):∀{l:List Pr},l.Pairwise (λ x y=>¬ y<x)->(ins a l).Pairwise (λ x y=>¬ y<x)
 | [],_=>by simp[ins]
 |b::l,h=>by
  have h':=Zm.mp h;rw[ins];split
  ·rename_i hb;refine Zm.mpr ⟨λ x hx=>?_,qjv a h'.2⟩;rcases Qh.mp ((qct a l).mem_iff.mp hx) with e | e
   ·rw[e];exact qju _ _ hb
   ·exact h'.1 x e
  ·rename_i hb;refine Zm.mpr ⟨λ x hx=>?_,h⟩;rcases Qh.mp hx with e | e
   ·rw[e];exact hb
   ·intro tE;have p8:=h'.1 x e
    have:x<b:=by
     by_cases x4:a<b
     ·exact List.lt_trans tE x4
     ·have:=plt_total x4 hb
      rw[<- this];exact tE
    exact p8 this
theorem qen:∀ l:List Pr,(srt l).Pairwise (λ x y=>¬ y<x)
 | []=>List.Pairwise.nil
 |a::l=>qjv a (qen l)
theorem qdD:∀{l m:List Pr},l.Perm m->l.Pairwise (λ x y=>¬ y<x)->m.Pairwise (λ x y=>¬ y<x)->l=m
 | [],m,h,_,_=>h.nil_eq
 |a::l,m,h,hl,hm=>by
  cases m with
  |nil=>exact absurd h.length_eq (by simp)
  |cons b m =>
   have S9:=Zm.mp hl;have mJ:=Zm.mp hm;have ab:a=b:=by
    rcases Qh.mp (h.mem_iff.mp Zf) with e|e
    ·exact e
    ·rcases Qh.mp (h.mem_iff.mpr Zf) with e' | e'
     ·exact e'.symm
     ·exact plt_total (mJ.1 a e) (S9.1 b e')
   subst ab;rw[qdD (List.Perm.cons_inv h) S9.2 mJ.2]
theorem srt_of{l m:List Pr}(h:l.Perm m)(hl:l.Pairwise (λ x y=>¬ y<x)):l=srt m:=qdD (h.trans (zU m).symm) hl (qen m)
theorem qcu{l:List Pr}(h:l.Nodup):(srt l).Pairwise (·<·):=by
 have nd:(srt l).Nodup:=(zU l).nodup_iff.mpr h
 have:=qen l
 exact(this.and nd).imp λ{a b} x4=>Classical.byContradiction λ hn=>x4.2 (plt_total hn x4.1)
theorem kK{l:List Pr}{p:Pr}:p∈srt l ↔ p∈l:=(zU l).mem_iff
theorem srt_perm_eq{l m:List Pr}(h:l.Perm m):srt l=srt m:=srt_of ((zU l).trans h) (qen l)
noncomputable def added(F G:List Pr):List Pr:=srt (qe8 F G)
theorem qfa{F G:List Pr}(hF:Vf F)(hG:Vf G):Vf (added F G):=⟨qcu (qcp hF.nodup hG.nodup),λ p hp=>by
 rcases qco.mp (kK.mp hp) with⟨a,_⟩|⟨a,_⟩
 ·exact hF.prod p a
 ·exact hG.prod p a⟩
theorem yN(ρ:Nat->Bool){F G:List Pr}(hF:Vf F)(hG:Vf G):qy ρ (added F G)=xor (qy ρ F) (qy ρ G):=by
 rw[added,jV ρ (zU _),qgp ρ hF.nodup hG.nodup]
noncomputable def qab{α:Type}[DecidableEq α]:List α->List α
 | []=>[]
 |a::l=>a::(qab l).filter λ b=>decide (b≠a)
theorem kM{α:Type}[DecidableEq α]{x:α}:∀{l:List α},x∈qab l ↔ x∈l
 | []=>by simp[qab]
 |a::l=>by
  rw[qab,Qh,U4,kM,Qh];constructor
  ·rintro(h | h)
   ·exact .inl h
   ·exact .inr h.1
  ·rintro(h | h)
   ·exact .inl h
   ·by_cases e:x=a
    ·exact .inl e
    ·exact .inr ⟨h,by simpa using e⟩
theorem vG{α:Type}[DecidableEq α]:∀(l:List α),(qab l).Nodup
 | []=>by simp[qab]
 |a::l=>by
  rw[qab];refine U9.mpr ⟨λ h=>?_,(vG l).filter _⟩
  have:=(U4.mp h).2
  simp at this
noncomputable def qH(F:List Pr):List Nat:=(srt (qab (F.flatten.map λ c=>[c]))).flatten
theorem qlc{l:List Pr}(h:∀ p∈l,∃ c,p=[c]):l=l.flatten.map λ c=>[c]:=by
 induction l with
 |nil=>rfl
 |cons p l ih =>
  obtain⟨c,hc⟩:=h p Zf;subst hc;rw[Z0,Jg,<- ih λ q hq=>h q (Yl _ hq)];rfl
theorem y4(F:List Pr):srt (qab (F.flatten.map λ c=>[c]))=(qH F).map λ c=>[c]:=by
 refine qlc λ p hp=>?_
 obtain⟨c,_,e⟩:=Q3.mp (kM.mp (kK.mp hp));exact⟨c,e.symm⟩
theorem ju{F:List Pr}{c:Nat}:c∈qH F ↔ ∃ p∈F,c∈p:=by
 have h:[c]∈(qH F).map (λ c=>[c]) ↔ c∈qH F:=by
  rw[Q3];exact⟨λ ⟨d,hd,e⟩=>by cases e;exact hd,λ hd=>⟨c,hd,rfl⟩⟩
 rw[<- h,<- y4,kK,kM,Q3];constructor
 ·rintro⟨d,hd,e⟩;cases e
  exact(List.mem_flatten.mp hd).imp λ p hp=>⟨hp.1,hp.2⟩
 ·rintro⟨p,hp,hc⟩;exact⟨c,List.mem_flatten.mpr ⟨p,hp,hc⟩,rfl⟩
theorem zy(F:List Pr):(qH F).Pairwise (·<·):=by
 have h:=qcu (vG (F.flatten.map λ c=>[c]));rw[y4,Z4] at h;refine h.imp λ{a b} x4=>?_
 cases x4 with
 |rel h=>exact h
 |cons h=>cases h
theorem vH:∀{ls p:List Nat},ls.Pairwise (·<·)->p.Pairwise (·<·)->(∀ x∈p,x∈ls)->p.Sublist ls
 |_,[],_,_,_=>List.nil_sublist _
 | [],x::p,_,_,h=>absurd (h x Zf) (by simp)
 |l::ls,x::p,hl,hp,h=>by
  have S9:=Zm.mp hl;have D7:=Zm.mp hp;rcases Qh.mp (h x Zf) with e|e
  ·subst e;refine(vH S9.2 D7.2 λ y hy=>?_).cons₂ x;rcases Qh.mp (h y (Yl _ hy)) with e | e
   ·subst e;exact absurd (D7.1 _ hy) (Qg _)
   ·exact e
  ·refine(vH S9.2 hp λ y hy=>?_).cons l;rcases Qh.mp (h y hy) with e' | e'
   ·subst e';rcases Qh.mp hy with q | q
    ·subst q;exact e
    ·exact absurd (D7.1 _ q) (Nat.lt_asymm (S9.1 _ e))
   ·exact e'
noncomputable def jZ(F:List Pr)(ls:List Nat):List Bool:=zb ls.length ((za ls).map λ p=>F.contains p)
theorem zu(F:List Pr)(ls:List Nat):(jZ F ls).length=2^ls.length:=qP _ _ (by rw[U7,qM])
theorem qcv(ρ:Nat->Bool){ls:List Nat}{F:List Pr}(hl:ls.Pairwise (·<·))(hF:Vf F)(h:∀ p∈F,∀ c∈p,c∈ls):look ρ ls (jZ F ls)=qy ρ F:=
 qe9 ρ (zo Qg hl) hF.nodup λ p hp=>vH hl (hF.prod p hp) (h p hp)
noncomputable def formOf(ls:List Nat)(t:List Bool):List Pr:=srt (zS ls (zb ls.length t))
theorem qdE{ls:List Nat}(hl:ls.Pairwise (·<·))(t:List Bool):Vf (formOf ls t):=
 ⟨qcu (jY _ (zo Qg hl)),λ p hp=>hl.sublist (qcr (kK.mp hp))⟩
theorem qaN(ρ:Nat->Bool){ls:List Nat}{t:List Bool}(ht:t.length=2^ls.length):qy ρ (formOf ls t)=look ρ ls t:=by
 rw[formOf,jV ρ (zU _),jW ρ ls _ (qP _ _ ht),<- kJ ρ ls _ (qP _ _ ht),qbt _ _ ht]
theorem vI{ls:List Nat}{t:List Bool}{p:Pr}(hp:p∈formOf ls t):p.Sublist ls:=qcr (kK.mp hp)
noncomputable def mult(F G:List Pr):List Pr:=formOf (qH (F++G)) (List.zipWith (· && ·) (jZ F (qH (F++G))) (jZ G (qH (F++G))))
theorem qhv(F G:List Pr):Vf (mult F G):=qdE (zy _) _
theorem qcw(ρ:Nat->Bool){F G:List Pr}(hF:Vf F)(hG:Vf G):qy ρ (mult F G)=(qy ρ F && qy ρ G):=by
 rw[mult,qaN ρ (by rw[Y2,zu,zu,Nat.min_self]),qaL _ ρ _ _ _ (zu _ _) (zu _ _),
  qcv ρ (zy _) hF λ p hp c hc=>ju.mpr ⟨p,Ym _ hp,hc⟩,qcv ρ (zy _) hG λ p hp c hc=>ju.mpr ⟨p,XU _ hp,hc⟩]
noncomputable def opp(F:List Pr):List Pr:=added F [[]]
noncomputable def join(F G:List Pr):List Pr:=added (added F G) (mult F G)
theorem qjw:Vf [[]]:=⟨by simp,by simp⟩
theorem qmx:Vf []:=⟨List.Pairwise.nil,by simp⟩
theorem qig(ρ:Nat->Bool){F:List Pr}(hF:Vf F):qy ρ (opp F)=!qy ρ F:=by
 rw[opp,yN ρ hF qjw];simp[qy]
theorem qcx(ρ:Nat->Bool){F G:List Pr}(hF:Vf F)(hG:Vf G):qy ρ (join F G)=(qy ρ F || qy ρ G):=by
 rw[join,yN ρ (qfa hF hG) (qhv F G),yN ρ hF hG,qcw ρ hF hG];cases qy ρ F <;> cases qy ρ G <;> rfl
end Fs
namespace L2
open PySem PySem.Spec PyProof.Rows
noncomputable def j2(env:Env):List (Str×NameKind)->List (Str×Addr)->List (Str×Addr)
 | [],c6=>c6
 |(n,k)::r,c6=>j2 env r (if (k == NameKind.free)=true then(n,(env.cells.lookup n).getD 0)::c6 else c6)
theorem qcy(env:Env):∀(l:List (Str×NameKind))(c6:List (Str×Addr)),(∀ y∈l,y.2=.free->∃ c,env.cells.lookup y.1=some c) ->
  (forIn l c6 λ(x:Str×NameKind)(cs:List (Str×Addr))=>match x with
   |(name,kind)=>if (kind == NameKind.free)=true then do let a <- cellOf env name;pure (ForInStep.yield ((name,a)::cs)) else pure (ForInStep.yield cs):Sem (List (Str×Addr)))=pure (j2 env l c6)
 | [],c6,_=>by rw[List.forIn_nil];rfl
 |(n,k)::r,c6,h=>by
  rw[List.forIn_cons];by_cases hk:(k == NameKind.free)=true
  ·obtain⟨c,hc⟩:=h (n,k) Zf (by simpa using hk);have e:cellOf env n=pure c:=by unfold cellOf;rw[show env.cells.lookup n=some c from hc]
   simp only[hk,Vz,e,pure_bind];rw[qcy env r _ λ y hy=>h y (Yl _ hy)];rw[j2,V2 hk,show env.cells.lookup n=some c from hc];rfl
  ·have I0:(k == NameKind.free)=false:=by simpa using hk
   simp only[I0,Zo,Vr,pure_bind];rw[qcy env r _ λ y hy=>h y (Yl _ hy),j2,V3 hk]
theorem jC{scope:Scope}{env:Env}(h:∀ y∈scope.names,y.2=.free->∃ c,env.cells.lookup y.1=some c):closureFor scope env=pure (j2 env scope.names []):=by
 unfold closureFor
 have:=qcy env scope.names [] h
 simp only[bind_pure];exact this
theorem qcz(env:Env):∀(l:List (Str×NameKind))(c6:List (Str×Addr)),(∀ y∈l,y.2=.free->∃ c,env.cells.lookup y.1=some c)->(∀ x c,c6.lookup x=some c->env.cells.lookup x=some c) ->
  ∀ x c,(j2 env l c6).lookup x=some c->env.cells.lookup x=some c
 | [],c6,_,ha,x,c,e=>ha x c e
 |(n,k)::r,c6,h,ha,x,c,e=>by
  rw[j2] at e;refine qcz env r _ (λ y hy=>h y (Yl _ hy)) ?_ x c e;clear e;intro x c e;by_cases hk:(k == NameKind.free)=true
  ·rw[V2 hk] at e;obtain⟨c',hc⟩:=h (n,k) Zf (by simpa using hk);rw[show env.cells.lookup n=some c' from hc] at e;rw[Uu] at e;by_cases hx:(x == n)=true
   ·rw[hx] at e
    have:x=n:=by simpa using hx
    subst this;cases e
    exact hc
   ·rw[show(x == n)=false by simpa using hx] at e;exact ha x c e
  ·rw[V3 hk] at e;exact ha x c e
theorem qfb(env:Env):∀(l:List (Str×NameKind))(c6:List (Str×Addr))(x:Str),(c6.lookup x).isSome=true->((j2 env l c6).lookup x).isSome=true
 | [],_,_,h=>h
 |(n,k)::r,c6,x,h=>by
  rw[j2];refine qfb env r _ x ?_;by_cases hk:(k == NameKind.free)=true
  ·rw[V2 hk,Uu];cases x == n with
   |true=>rfl
   |false=>exact h
  ·rw[V3 hk];exact h
theorem qcA(env:Env):∀(l:List (Str×NameKind))(c6:List (Str×Addr))(x:Str),(x,NameKind.free)∈l->((j2 env l c6).lookup x).isSome=true
 |(n,k)::r,c6,x,h=>by
  rw[j2];rcases Qh.mp h with e|e
  ·cases e
   refine qfb env r _ _ ?_;rw[V2 (by decide),Uu];simp only[beq_self_eq_true,Option.isSome_some]
  ·exact qcA env r _ x e
noncomputable def zp(X:Cx)(NY:List Str)(scope:Scope)(C:Addr)(s:Shared)(H:Hp)(fp:List Addr)(pins:List (Addr×Obj)):Cx:=
 { X with N:=NY,s₀:=s,H₀:=H,env:=compEnvC scope (j2 X.env scope.names []) C X.env,outer:=X.stack,ex:=fp,fn:=λ _=>false,pn:=X.pn++pins,xe:=λ _ _=>False }
structure CompScope(X:Cx)(NY:List Str)(o:Nat)(caps:List Nat)(scope:Scope):Prop where
 kind:scope.kind=.function
 nd:NY.Nodup
 nocell:∀ y∈scope.names,y.2≠.cell
 frees:∀ y∈scope.names,y.2=.free->(X.env.kindOf y.1=some .cell∨X.env.kindOf y.1=some .free)
 locs:∀ y∈scope.names,y.2=.local->scope.names.lookup y.1=some .local
 capOk:∀(j:Nat)(i:Nat),caps[j]?=some i->∃ x,NY[o+j]?=some x/\X.N[i]?=some x/\scope.names.lookup x=some .free
 len:NY.length=o+caps.length
noncomputable def stY(o:Nat)(caps:List Nat)(σ:St):St:=List.replicate o none++caps.map λ i=>(σ[i]?).getD none
theorem qaO{env:Env}:∀{names:List (Str×NameKind)}{x:Str},names.lookup x=some .free ->
  (names.map λ(n,k)=>if (k == NameKind.free && env.scope.kind == .function && env.kindOf n == some .cell) then(n,NameKind.cell) else(n,k)).lookup x=some .cell ∨
  (names.map λ(n,k)=>if (k == NameKind.free && env.scope.kind == .function && env.kindOf n == some .cell) then(n,NameKind.cell) else(n,k)).lookup x=some .free
 | [],_,h=>by simp at h
 |(n,k)::r,x,h=>by
  have ih:=@qaO env r x;show List.lookup x ((if (k == NameKind.free && env.scope.kind == .function && env.kindOf n == some .cell)=true then(n,NameKind.cell) else(n,k))::_)=_∨List.lookup x ((if (k == NameKind.free && env.scope.kind == .function && env.kindOf n == some .cell)=true then(n,NameKind.cell) else(n,k))::_)=_
  cases hx:x == n with
  |true =>
   simp only[Uu,hx] at h;cases h
   by_cases hc:(NameKind.free == NameKind.free && env.scope.kind == .function && env.kindOf n == some .cell)=true
   ·rw[V2 hc];left;simp only[Uu,hx]
   ·rw[V3 hc];right;simp only[Uu,hx]
  |false =>
   simp only[Uu,hx] at h;by_cases hc:(k == NameKind.free && env.scope.kind == .function && env.kindOf n == some .cell)=true
   ·rw[V2 hc];simp only[Uu,hx];exact ih h
   ·rw[V3 hc];simp only[Uu,hx];exact ih h
theorem qal{env:Env}:∀{names:List (Str×NameKind)}{x:Str}{k:NameKind},(∀ y∈names,y.2≠.cell) ->
  (names.map λ(n,k)=>if (k == NameKind.free && env.scope.kind == .function && env.kindOf n == some .cell) then(n,NameKind.cell) else(n,k)).lookup x=some k->(k=.cell∨k=.free)->names.lookup x=some .free
 | [],_,_,_,h,_=>by simp at h
 |(n,k0)::r,x,k,nc,h,hk=>by
  have ih:=@qal env r x k (λ y hy=>nc y (Yl _ hy));replace h:List.lookup x ((if (k0 == NameKind.free && env.scope.kind == .function && env.kindOf n == some .cell)=true then(n,NameKind.cell) else(n,k0))::(r.map λ(n,k)=>if (k == NameKind.free && env.scope.kind == .function && env.kindOf n == some .cell) then(n,NameKind.cell) else(n,k)))=some k:=h;have n0:k0≠.cell:=nc (n,k0) Zf;cases hx:x == n with
  |true =>
   by_cases hc:(k0 == NameKind.free && env.scope.kind == .function && env.kindOf n == some .cell)=true
   ·have:k0=.free:=by
     simp only[Ut] at hc;simpa using hc.1.1
    simp only[Uu,hx,this]
   ·rw[V3 hc] at h;simp only[Uu,hx] at h ⊢;cases h
    rcases hk with e|e
    ·exact absurd e n0
    ·rw[e]
  |false =>
   by_cases hc:(k0 == NameKind.free && env.scope.kind == .function && env.kindOf n == some .cell)=true
   ·rw[V2 hc] at h;simp only[Uu,hx] at h ⊢;exact ih h hk
   ·rw[V3 hc] at h;simp only[Uu,hx] at h ⊢;exact ih h hk
theorem Un.but{fs ex:List Addr}{H H':Hp}{h h1 h2:Heap}{C:Addr}(u:Un fs ex H H' h h1)(hs:Heap.SameBut C h1 h2)(hC:h.objs.size<=C):Un fs ex H H' h h2:=by
 have ne:∀ b o,h.get? b=some o->b≠C:=λ b o e z=>by subst z;exact absurd (Ze (Qv e) hC) (Qg _)
 refine⟨λ b o e n hb hx=>(hs.2 b (ne b o e)).trans (u.keep b o e n hb hx),λ b o e n hb hx=>?_,u.free,λ b o e hx=>?_,u.tups,u.frzs,u.tbls⟩
 ·obtain⟨sl,q⟩:=u.slot b o e n hb hx;exact⟨sl,(hs.2 b (ne b o e)).trans q⟩
 ·obtain⟨o',q⟩:=u.there b o e hx;exact⟨o',(hs.2 b (ne b o e)).trans q⟩
theorem HOk.but{P:Program}{w:World}{H:Hp}{h h':Heap}{C:Addr}(ok:HOk P w H h)(hs:Heap.SameBut C h h')(hC:H C=none):HOk P w H h':=λ a o e=>by
 refine(ok a o e).stay (λ b u hb q=>(hs.2 b ?_).trans q) (λ _ q=>q) λ _ _ q=>q
 rcases hb with z|z
 ·rw[z];exact λ y=>by rw[y,hC] at e;cases e
 ·exact λ y=>by rw[y,hC] at z;cases z
abbrev Adv:=Nat->St->Hp->(St->Hp->Prop)->Prop
structure Walk(Y:Cx)(tg:Expr)(fp:List Addr)(it:Addr)(tn:Nat->Heap->Prop)(adv:Adv)(stop:Nat->Hp->Prop):Prop where
 obj:∀ i h,tn i h->∀ b∈fp,∃ o,h.get? b=some o/\∀ v,o.data≠.cell v
 keep:∀ i h h',tn i h->(∀ b∈fp,∀ o,h.get? b=some o->h'.get? b=some o)->tn i h'
 item:∀(i:Nat)(pins:List (Addr×Obj))(s:Shared)(σ:St)(H:Hp)(N:St->Hp->Prop),Inv Y pins σ H s->(∀ b∈fp,jQ Y pins H b)->tn i s.heap->adv i σ H N ->
  wpAny (model Y.prog Y.w) Y.A (pyNext (.ref it)) (λ r s1=>∃ u,r=some u/\wpAny (model Y.prog Y.w) Y.A (letOwnedTupleGo tg (.ref it) u) (λ _ s2 =>
   wpAny (model Y.prog Y.w) Y.A (assign tg Y.env u) (λ _ s3=>∃ σ' H',Inv Y pins σ' H' s3/\N σ' H'/\tn (i+1) s3.heap/\∀ b∈fp,H' b=none) Y.xe s2) Y.xe s1) Y.xe s
 done:∀(i:Nat)(pins:List (Addr×Obj))(s:Shared)(σ:St)(H:Hp),Inv Y pins σ H s->(∀ b∈fp,jQ Y pins H b)->tn i s.heap->stop i H ->
  wpAny (model Y.prog Y.w) Y.A (pyNext (.ref it)) (λ r s1=>r=none/\Inv Y pins σ H s1) Y.xe s
 self:∀(A:Around)(i:Nat)(s:Shared)(Q:Value->Shared->Prop)(E:Value->Shared->Prop),tn i s.heap->Q (.ref it) s->wpAny (model Y.prog Y.w) A (pyIter (.ref it)) Q E s
theorem ye{Y:Cx}{tg:Expr}{fp:List Addr}{tn:Nat->Heap->Prop}{pins:List (Addr×Obj)}{s5 s6:Shared}{σ6:St}{H6:Hp}{i:Nat}(obj:∀ b∈fp,∃ o,s5.heap.get? b=some o/\∀ v,o.data≠.cell v)(keep:∀ h',(∀ b∈fp,∀ o,s5.heap.get? b=some o->h'.get? b=some o)->tn i h')(I6:Inv Y (pins++vB fp s5.heap) σ6 H6 s6):Inv Y pins σ6 H6 s6/\tn i s6.heap/\∀ b∈fp,H6 b=none:=by
 refine⟨I6.unpinned,keep _ λ b hb o e=>(I6.pin (b,o) (XU _ (XU _ (yr hb e)))).1,λ b hb=>?_⟩;obtain⟨o,e,d⟩:=obj b hb;exact(I6.pin (b,o) (XU _ (XU _ (yr hb e)))).2.1
def qdF(J:It)(g:TG):Adv:=λ i σ H N=>J.go i H/\∀ x H',J.yld i H x H'->g x σ H' N
theorem Turn.walk{Y:Cx}{tg:Expr}{J:It}{fp:List Addr}{it:Addr}{tn:Nat->Heap->Prop}{g:TG}(hc:Y.calm=true)(T:Turn Y.prog Y.w Y.K tg J fp it tn)(hg:PG Y tg g):Walk Y tg fp it tn (qdF J g) J.stop where
 obj:=T.obj
 keep:=T.keep
 item:=by
  intro i pins s σ H N I hf st ⟨go,step⟩;refine thn (T.item Y rfl rfl rfl hc i pins s σ H Y.xe I hf st go) λ r s4 ⟨u,hr,h4⟩=>⟨u,hr,?_⟩
  refine thn h4 λ _ s5 ⟨x,H5,I5,r5,y5,O2,iX⟩=>?_
  have I5':=I5.pinned (fp:=fp) (λ b hb=>⟨iX b hb,(hf b hb).2⟩) (T.obj _ _ O2);refine thn (hg _ s5 σ H5 x u _ I5' r5 (step x H5 y5)) λ _ s6 ⟨σ6,H6,I6,q6⟩=>?_
  obtain⟨J1,J2,J3⟩:=ye (tg:=tg) (tn:=tn) (i:=i+1) (T.obj _ _ O2) (λ h' k=>T.keep _ _ _ O2 k) I6;exact⟨σ6,H6,J1,q6,J2,J3⟩
 done:=λ i pins s σ H I hf st hs=>T.done Y rfl rfl rfl hc i pins s σ H Y.xe I hf st hs
 self:=T.self
structure It2 where 
 go:Nat->Hp->Prop
 yld:Nat->Hp->List V->Hp->Prop
 stop:Nat->Hp->Prop
structure Turn2(P:Program)(w:World)(K:W.Frag)(tg:Expr)(J:It2)(fp:List Addr)(it:Addr)(tn:Nat->Heap->Prop):Prop where
 obj:∀ i h,tn i h->∀ b∈fp,∃ o,h.get? b=some o/\∀ v,o.data≠.cell v
 keep:∀ i h h',tn i h->(∀ b∈fp,∀ o,h.get? b=some o->h'.get? b=some o)->tn i h'
 item:∀(X:Cx),X.prog=P->X.w=w->X.K=K->X.calm=true->∀(i:Nat)(pins:List (Addr×Obj))(s:Shared)(σ:St)(H:Hp)(E:Value->Shared->Prop),Inv X pins σ H s->(∀ b∈fp,jQ X pins H b)->tn i s.heap->J.go i H ->
  wpAny (model P w) X.A (pyNext (.ref it)) (λ r s1=>∃ p,r=some (.ref p) /\
   wpAny (model P w) X.A (letOwnedTupleGo tg (.ref it) (.ref p)) (λ _ s2=>∃ xs us H',Inv X pins σ H' s2/\IsTup s2.heap p us.toArray/\qK xs us/\J.yld i H xs H'/\tn (i+1) s2.heap/\∀ b∈fp,H' b=none) E s1) E s
 done:∀(X:Cx),X.prog=P->X.w=w->X.K=K->X.calm=true->∀(i:Nat)(pins:List (Addr×Obj))(s:Shared)(σ:St)(H:Hp)(E:Value->Shared->Prop),Inv X pins σ H s->(∀ b∈fp,jQ X pins H b)->tn i s.heap->J.stop i H ->
  wpAny (model P w) X.A (pyNext (.ref it)) (λ r s1=>r=none/\Inv X pins σ H s1) E s
 self:∀(A:Around)(i:Nat)(s:Shared)(Q:Value->Shared->Prop)(E:Value->Shared->Prop),tn i s.heap->Q (.ref it) s->wpAny (model P w) A (pyIter (.ref it)) Q E s
def qgq(J:It2)(n:Nat)(t:TGs):Adv:=λ i σ H N=>J.go i H/\∀ xs H',J.yld i H xs H'->xs.length=n/\t xs σ H' N
theorem Turn2.walk{Y:Cx}{es:List Expr}{k:Nat}{pos:Pos}{J:It2}{fp:List Addr}{it:Addr}{tn:Nat->Heap->Prop}{t:TGs}{n:Nat}(hc:Y.calm=true)(T:Turn2 Y.prog Y.w Y.K (.Tuple es k pos) J fp it tn)(hg:PGs Y es t)(hn:(assignEach es Y.env).length=n:=by rfl)(E2:(assignEach es Y.env).findIdx? (·.1)=none:=by rfl):Walk Y (.Tuple es k pos) fp it tn (qgq J n t) J.stop where
 obj:=T.obj
 keep:=T.keep
 item:=by
  intro i pins s σ H N I hf st ⟨go,step⟩;refine thn (T.item Y rfl rfl rfl hc i pins s σ H Y.xe I hf st go) λ r s4 ⟨p,hr,h4⟩=>⟨.ref p,hr,?_⟩
  refine thn h4 λ _ s5 ⟨xs,us,H5,I5,ht,r5,y5,O2,iX⟩=>?_
  have I5':=I5.pinned (fp:=fp) (λ b hb=>⟨iX b hb,(hf b hb).2⟩) (T.obj _ _ O2);obtain⟨hl,hw⟩:=step xs H5 y5;refine assign_Tuple_tuple (I5.ok.hd hc) ht (by simp[hn,<- hl,r5.length]) E2 λ h' hx=>?_
  have I6:Inv Y (pins++vB fp s5.heap) σ H5 { s5 with heap:=h' }:=I5'.kept (t':=s5.toks) λ b o e=>hx b o (Qw (Qv e)) e
  refine thn (hg _ _ σ H5 xs _ N I6 (by simpa using r5) hw) λ _ s6 ⟨σ6,H6,I7,q6⟩=>?_
  obtain⟨J1,J2,J3⟩:=ye (tg:=.Tuple es k pos) (tn:=tn) (i:=i+1) (T.obj _ _ O2) (λ h' k=>T.keep _ _ _ O2 k) I7;exact⟨σ6,H6,J1,q6,J2,J3⟩
 done:=λ i pins s σ H I hf st hs=>T.done Y rfl rfl rfl hc i pins s σ H Y.xe I hf st hs
 self:=T.self
abbrev TI2:=St->Hp->(It2->Hp->Prop)->Prop
def PI2(X:Cx)(tg iter:Expr)(wi:TI2):Prop:=
 ∀(pins:List (Addr×Obj))(s:Shared)(σ:St)(H:Hp)(R:It2->Hp->Prop),Inv X pins σ H s->wi σ H R ->
  wpAny (model X.prog X.w) X.A (eval iter X.env) (λ v s1=>wpAny (model X.prog X.w) X.A (pyIter v) (λ fG s2 =>
   ∃(it:Addr)(fp:List Addr)(tn:Nat->Heap->Prop)(J:It2)(H':Hp),fG=.ref it/\Inv X pins σ H' s2/\Turn2 X.prog X.w X.K tg J fp it tn/\tn 0 s2.heap/\(∀ b∈fp,jQ X pins H' b)/\R J H') X.xe s1) X.xe s
def PTs(X:Cx)(C6:List Expr)(tt:TT):Prop:=∀(pins:List (Addr×Obj))(s:Shared)(σ:St)(H:Hp)(Q:Bool->Hp->Prop),Inv X pins σ H s->tt σ H Q ->
 wpAny (model X.prog X.w) X.A (forIn C6 true λ c r=>if r=true then do let ok <- isTrue c X.env (eval c X.env);pure (ForInStep.yield ok) else pure (ForInStep.yield r)) (TP X pins σ Q) X.xe s
def qoC:TT:=λ _ H Q=>Q true H
theorem zq{X:Cx}:PTs X [] qoC:=λ _ _ _ H _ I h=>wpAny_tests_nil ⟨H,I,h⟩
theorem qaP{X:Cx}{c:Expr}{tt:TT}(hc:PT X c tt):PTs X [c] tt:=λ pins s σ H Q I h=>wpAny_tests_one (hc pins s σ H Q I h)
section
variable {prog:Program}{w:World}{A:Around}{R:Result->Shared->Prop}{s:Shared}
theorem qaQ{K1 B4 iter:Expr}{C6:List Expr}{scope:Scope}{pos:Pos}{it c6:Value}{env:Env}(I:Nat->Shared->Prop)(turn:∀ n s,I n s->wpAny (model prog w) A (pyNext it) (λ r s₁=>match r with
   |none=>R (.ok .next) s₁
   |some v=>wpAny (model prog w) A (letOwnedTupleGo B4 it v) (λ _ s₁'=>wpAny (model prog w) A (assign B4 env v) (λ _ s₂ =>
     wpAny (model prog w) A (forIn C6 true λ c r=>if r=true then do let ok <- isTrue c env (eval c env);pure (ForInStep.yield ok) else pure (ForInStep.yield r)) (λ ok s₃ =>
      if ok=true then wpAny (model prog w) A (eval K1 env) (λ x s₄ =>
       wpAny (model prog w) A (call (.builtin "list.append") [c6,x]) (λ _ s₅=>∃ m,m<n/\I m s₅) (λ _ _=>False) s₄) (λ _ _=>False) s₃
      else ∃ m,m<n/\I m s₃) (λ _ _=>False) s₂) (λ _ _=>False) s₁') (λ _ _=>False) s₁) (λ _ _=>False) s)(n:Nat)(h:I n s):
  codeAny (model prog w) A (.compLoop (.ListComp K1 [⟨B4,iter,C6,0⟩] scope pos) 0 it c6 env) R s:=by
 refine codeAny_loop rfl I (λ n s hI=>?_) n h;show wpAny _ A ((compTurn (.ListComp K1 [⟨B4,iter,C6,0⟩] scope pos) 0 it c6 env).onRaise (λ x=>do noteFrame x env;theTreesLotGoes x)) _ _ s
 refine wpAny_noted ?_;rw[compTurn_list];have no:∀{E:Value->Shared->Prop}(x:Value)(s':Shared),False->E x s':=λ _ _ f=>f.elim
 refine Vk (Qr (Vk (Vj (turn n s hI) (λ r s₁ h₁=>?_) no)));cases r with
 |none=>exact Vl h₁
 |some v =>
  refine Vk (Vj h₁ (λ _ s₁' h₁'=>?_) no);refine Vk (Vj h₁' (λ _ s₂ h₂=>Vk (Vj h₂ (λ ok s₃ h₃=>?_) no)) no);cases ok with
  |false=>exact Vl ⟨rfl,h₃⟩
  |true =>
   exact Vk (Vk (Vj h₃ (λ x s₄ h₄=>Vk (Vj h₄ (λ _ s₅ h₅=>Vl (Vl ⟨rfl,h₅⟩)) no)) no))
end
def Kp(o:Nat)(σ0 σ:St):Prop:=σ.drop o=σ0.drop o/\σ.length=σ0.length
theorem Kp.get{o:Nat}{caps:List Nat}{σ σ2:St}(k:Kp o (stY o caps σ) σ2):∀(j:Nat)(v:V),(stY o caps σ)[j]?=some (some v)->σ2[j]?=some (some v):=by
 intro j v e;by_cases hj:j<o
 ·unfold stY at e;rw[Xr (by simpa using hj),X7,V2 hj] at e;cases e
 ·have e1:(σ2.drop o)[j-o]?=((stY o caps σ).drop o)[j-o]?:=by rw[k.1]
  rw[Zp,Zp,show o+(j-o)=j by omega] at e1;rw[e1];exact e
theorem qmy{o:Nat}{caps:List Nat}{σ:St}{j:Nat}{v:V}(e:(stY o caps σ)[j]?=some (some v)):∃ j' i,j=o+j'/\caps[j']?=some i/\σ[i]?=some (some v):=by
 unfold stY at e;by_cases hj:j<o
 ·rw[Xr (by simpa using hj),X7,V2 hj] at e;cases e
 ·rw[Xk (by simpa using hj),XV,Zw] at e;cases q:caps[j-o]? with
  |none=>rw[q] at e;cases e
  |some i =>
   rw[q] at e;refine⟨j-o,i,by omega,q,?_⟩;cases q2:σ[i]? with
   |none=>rw[Jc,q2] at e;cases e
   |some z =>
    rw[Jc,q2] at e;have e':z=some v:=Option.some.inj e;rw[e']
def jj(o:Nat)(caps:List Nat)(adv:Adv)(stop:Nat->Hp->Prop)(tt:TT)(te:TE)(σ:St)(H1:Hp)(Q:VK):Prop:=
 ∀ D,H1 D=none->∃ W:Nat->Nat->List V->Hp->Prop,(∃ m,W 0 m [] (upd H1 D (.lst [])))/\∀ i m ys H,W i m ys H ->
  (stop i H/\Q (.ref D) H)∨adv i (stY o caps σ) H λ σ2 H2=>Kp o (stY o caps σ) σ2/\tt σ2 H2 λ b H3=>if b=true then te σ2 H3 λ y H4=>H4 D=some (.lst ys)/\ys.length<sizeLine/\∃ m',m'<m/\W (i+1) m' (ys++[y]) (upd H4 D (.lst (ys++[y])))
   else ∃ m',m'<m/\W (i+1) m' ys H3
section
variable {X:Cx}
theorem qfc{pins:List (Addr×Obj)}{σ:St}{H2:Hp}{s2:Shared}{NY:List Str}{o:Nat}{caps:List Nat}{scope:Scope}{fp:List Addr}{h₁:Heap}(S:CompScope X NY o caps scope)(I2:Inv X pins σ H2 s2)(G6:∀ b∈fp,jQ X pins H2 b)(hob:∀ b∈fp,∃ ob,s2.heap.get? b=some ob)(hns:h₁.Ns (s2.heap.objs.size+1) λ _=>none)(w4:∀ b ob,s2.heap.get? b=some ob->h₁.get? b=some ob)(hD:∃ n,h₁.get? s2.heap.objs.size=some { cls:=.type "list",data:=.seq ([]:List Value).toArray n })(t':Nat):
  Inv (zp X NY scope (s2.heap.objs.size+1) s2 H2 fp pins) [] (stY o caps σ) (upd H2 s2.heap.objs.size (.lst [])) { s2 with heap:=h₁,toks:=t' }:=by
 have frees:∀ y∈scope.names,y.2=.free->∃ c,X.env.cells.lookup y.1=some c:=λ y hy e=>I2.ok.has _ (S.frees y hy e)
 have E1:∀ x c,(j2 X.env scope.names []).lookup x=some c->X.env.cells.lookup x=some c:=qcz X.env scope.names [] frees (λ x c e=>by simp at e);have aD:H2 s2.heap.objs.size=none:=I2.hok.fresh (Vc _);have hfr1:H2 (s2.heap.objs.size+1)=none:=I2.hok.fresh (Ve _);have ltC:∀ b ob,s2.heap.get? b=some ob->b≠s2.heap.objs.size+1:=λ b ob e=>Qw (Z5 (Qv e))
 have ltD:∀ b ob,s2.heap.get? b=some ob->b≠s2.heap.objs.size:=λ b ob e=>Qw (Qv e)
 have hok1:HOk X.prog X.w (upd H2 s2.heap.objs.size (.lst [])) h₁:=by
  obtain⟨n,hD⟩:=hD;exact I2.hok.laid w4 (Vc _) ⟨Vd _,[],n,.nil,hD⟩
 refine⟨?_,rfl,I2.bare,?_,?_,?_,?_,?_,?_,hok1,?_⟩
 ·refine⟨I2.ok.mod,S.kind,I2.ok.glob,I2.ok.blt,Ve _,λ x y c h1 h2=>I2.ok.inj x y c (E1 x c h1) (E1 y c h2),λ x hx=>?_,λ x c e=>absurd e Zg,I2.ok.hd,I2.ok.frames,.inl rfl,λ b hb=>?_,
   I2.bs,Qx I2.ok.bsz I2.sz,λ b ob e hb=>?_,λ b hb z=>?_,I2.stack,I2.stkFree⟩
  ·have p8:scope.names.lookup x=some .free:=by
    rcases hx with q|q
    ·exact qal (env:=X.env) S.nocell q (.inl rfl)
    ·exact qal (env:=X.env) S.nocell q (.inr rfl)
   exact Xy.mp (qcA X.env scope.names [] x (Y0 p8))
  ·obtain⟨ob,e⟩:=hob b hb;exact⟨ltC b ob e,λ x c q=>(G6 b hb).2.2.2.2.1 x c (E1 x c q)⟩
  ·rcases(G6 b hb).2.2.2.1 with q | q
   ·exact I2.ok.noex b ob e q
   ·exact absurd (Ze (Qv e) (Qx I2.ok.bsz q)) (Qg _)
  ·rcases Qh.mp (I2.stkSub b z) with q | q
   ·exact(G6 b hb).2.1 q
   ·exact(G6 b hb).2.2.1 q
 ·exact Un.laid w4 (Vc _) aD
 ·refine⟨_,hns,λ j x v e1 e2 e3=>?_⟩;obtain⟨j',i,ej,ec,es⟩:=qmy e2;obtain⟨x',n1,n2,n3⟩:=S.capOk j' i ec;rw[<- ej] at n1;have ex:x=x':=Option.some.inj ((show NY[j]?=some x from e1).symm.trans n1);subst ex;have hk:=S.frees (x,.free) (Y0 n3) rfl;obtain⟨m,_,hl⟩:=I2.loc;have hv:Vis X.env.scope x:=hk.elim (λ q=>.inr (.inl q)) λ q=>.inr (.inr q)
  obtain⟨u,ru,lk⟩:=hl i x v n2 es hv;refine⟨u,ru,.inr ⟨qaO (env:=X.env) n3,?_⟩⟩;rcases lk with⟨q,_⟩|⟨_,c,ec,cell⟩
  ·rcases hk with z | z
   ·rw[show X.env.kindOf x=some .cell from z] at q;cases q
   ·rw[show X.env.kindOf x=some .free from z] at q;cases q
  ·obtain⟨c',N4⟩:=Xy.mp (qcA X.env scope.names [] x (Y0 n3))
   have:=E1 x c' N4
   rw[ec] at this;cases this
   obtain⟨ob,e,d⟩:=cell;exact⟨c,N4,ob,w4 c ob e,d⟩
 ·intro x c e;obtain⟨v,ob,q,d⟩:=I2.cell x c (E1 x c e);exact⟨v,ob,w4 c ob q,d⟩
 ·show upd H2 s2.heap.objs.size (.lst []) (s2.heap.objs.size+1)=none
  rw[qv (Nat.succ_ne_self _)];exact hfr1
 ·intro x c e;obtain⟨v,ob,q,d⟩:=I2.cell x c (E1 x c e);rw[qv (ltD c ob q)];exact I2.freeC x c (E1 x c e)
 ·intro p hp;have D7:p∈X.pn++pins:=by
   have:p∈(X.pn++pins)++[]:=hp
   simpa using this
  obtain⟨e,n,ne,nf,d⟩:=I2.pin p D7;refine⟨w4 _ _ e,by rw[qv (ltD _ _ e)];exact n,ltC _ _ e,λ z=>?_,d⟩;rcases Qh.mp (I2.stkSub p.1 z) with q|q
  ·exact ne q
  ·exact nf q
 ·show(stY o caps σ).length=NY.length
  unfold stY;rw[Zj,XV,U7,S.len]
theorem qcB{pins:List (Addr×Obj)}{σ:St}{H2:Hp}{s2:Shared}{NY:List Str}{o:Nat}{caps:List Nat}{scope:Scope}{fp:List Addr}{it:Addr}{tn:Nat->Heap->Prop}{adv:Adv}{stop:Nat->Hp->Prop}{K1 tg iter:Expr}{C6:List Expr}{pos:Pos}{tt:TT}{te:TE}{Q:VK}(S:CompScope X NY o caps scope)(I2:Inv X pins σ H2 s2)(G6:∀ b∈fp,jQ X pins H2 b)(i8:tn 0 s2.heap)(Wk:∀ C,Walk (zp X NY scope C s2 H2 fp pins) tg fp it tn adv stop)(ht:∀ C,PTs (zp X NY scope C s2 H2 fp pins) C6 tt)(he:∀ C,PE (zp X NY scope C s2 H2 fp pins) K1 te)(h:jj o caps adv stop tt te σ H2 Q):
  wpAny (model X.prog X.w) X.A (newList []) (λ c6 s₃=>wpAny (model X.prog X.w) X.A (newFunctionEnv scope X.env.globals (j2 X.env scope.names []) [] X.env.qual none .none (some X.env)) (λ W9 s₄ =>
   codeAny (model X.prog X.w) X.A (.compStart (.ListComp K1 [⟨tg,iter,C6,0⟩] scope pos) 0 (.ref it) c6 { W9 with scope:=relabel scope X.env }) (compPost (model X.prog X.w) X.A X.xe none (EP X pins σ Q) c6 W9.locals) s₄) X.xe s₃) X.xe s2:=by
 refine Ue (wpAny_newFunctionEnv S.nocell (by intro y hy;simp at hy) (λ h₁ hns₁ L0₁=>?_) S.kind);dsimp only at hns₁ L0₁ ⊢;have hC:(s2.heap.push { cls:=.type "list",dict:=none,data:=.seq ([]:List Value).toArray }).objs.size=s2.heap.objs.size+1:=Jz _ _;rw[hC] at hns₁ L0₁ ⊢;have w4:∀ b ob,s2.heap.get? b=some ob->h₁.get? b=some ob:=λ b ob e =>
  (L0₁.2 b (Qw (Z5 (Qv e)))).trans (XI _ (XI _ e))
 have hD:∃ n,h₁.get? s2.heap.objs.size=some { cls:=.type "list",data:=.seq ([]:List Value).toArray n }:=
  ⟨_,(L0₁.2 _ (Qw (Up _))).trans (XI _ (Yz _ rfl))⟩
 have aD:H2 s2.heap.objs.size=none:=I2.hok.fresh (Vc _);obtain⟨W,⟨m0,w0⟩,turn⟩:=h _ aD;have gW:=(Wk 0).obj 0 s2.heap i8;have I4:=qfc S I2 G6 (λ b hb=>(gW b hb).imp λ _ q=>q.1) (hns:=hns₁) w4 hD (s2.toks+([]:List (Str×Value)).length);have nB:tn 0 h₁:=(Wk 0).keep _ _ _ i8 λ b _ ob e=>w4 b ob e
 have fr4:∀ b∈fp,upd H2 s2.heap.objs.size (.lst []) b=none:=λ b hb=>by
  obtain⟨ob,e,_⟩:=gW b hb;rw[qv (Qw (Qv e))];exact(G6 b hb).1
 have loop:codeAny (model X.prog X.w) X.A (.compLoop (.ListComp K1 [⟨tg,iter,C6,0⟩] scope pos) 0 (.ref it) (.ref s2.heap.objs.size) (compEnvC scope (j2 X.env scope.names []) (s2.heap.objs.size+1) X.env))
   (compPost (model X.prog X.w) X.A X.xe none (EP X pins σ Q) (.ref s2.heap.objs.size) (s2.heap.objs.size+1)) { s2 with heap:=h₁,toks:=s2.toks+([]:List (Str×Value)).length }:=by
  have Wk:=Wk (s2.heap.objs.size+1);have ht:=ht (s2.heap.objs.size+1);have he:=he (s2.heap.objs.size+1);generalize hY:zp X NY scope (s2.heap.objs.size+1) s2 H2 fp pins=Y at Wk ht he I4;have iY:∀{H':Hp},(∀ b∈fp,H' b=none)->∀ b∈fp,jQ Y [] H' b:=λ{H'} hn b hb=>by
   subst hY;obtain⟨ob,e,_⟩:=gW b hb;have k:=I4.ok.exf b hb;refine⟨hn b hb,k.1,I4.ok.exfs b hb,.inl hb,k.2,λ p hp=>?_⟩;have D7:p∈X.pn++pins:=by
    have:p∈(X.pn++pins)++[]:=hp
    simpa using this
   exact(G6 b hb).2.2.2.2.2 p D7
  refine qaQ (λ n s'=>∃ i ys H',Inv Y [] (stY o caps σ) H' s'/\tn i s'.heap/\(∀ b∈fp,H' b=none)/\W i n ys H') ?_ m0 ⟨0,[],_,I4,nB,fr4,w0⟩;rintro n s3 ⟨i,ys,H3,I3,G4,bM,w3⟩;have eE:Y.xe=λ _ _=>False:=by subst hY;rfl
  have ePw:Y.prog=X.prog/\Y.w=X.w/\Y.A=X.A/\Y.env=compEnvC scope (j2 X.env scope.names []) (s2.heap.objs.size+1) X.env:=by subst hY;exact⟨rfl,rfl,rfl,rfl⟩
  obtain⟨eP,ew,eA,ee⟩:=ePw;rw[<- eP,<- ew,<- eA,<- ee,<- eE];rcases turn i n ys H3 w3 with⟨stp,qn⟩|av
  ·refine thn (Wk.done i [] s3 _ H3 I3 (iY bM) G4 stp) λ r s4 ⟨hr,I5⟩=>?_
   subst hr;obtain⟨m,hn,_⟩:=id I5.loc;have eC:Y.env.locals=s2.heap.objs.size+1:=by rw[ee];rfl
   rw[eC] at hn;refine⟨m,hn,λ h' hs=>?_⟩;have u:=I5.base;have iI:=I5.hok;have B2:=I5.free;rw[eC] at B2;have aZ:=I5.bare;have dQ:=I5.os;subst hY;have u2:Un (frs X.stack) fp H2 H3 s2.heap h':=Un.but u hs (Ve _);have iJ:HOk X.prog X.w H3 h':=HOk.but iI hs B2;refine⟨.ref s2.heap.objs.size,H3,?_,rfl,qn⟩;obtain⟨hh,g,d,t,nI⟩:=s4;obtain rfl:nI=s2.os:=dQ;exact Inv.call (s:=s2) (h':=h') (g':=g) (d':=d) (t':=t) (ch:=fp) I2 u2 iJ aZ λ b hb=>⟨(G6 b hb).2.2.2.1,(G6 b hb).2.1,(G6 b hb).2.2.2.2.1,(G6 b hb).2.2.2.2.2⟩
  ·refine thn (Wk.item i [] s3 _ H3 _ I3 (iY bM) G4 av) λ r s4 ⟨u,hr,h4⟩=>?_
   subst hr;refine thn h4 λ _ s5 h5=>thn h5 λ _ s6 ⟨σ6,H6,I6,⟨kp,q6⟩,aL,fr6⟩=>?_
   have I6':=I6.pinned (fp:=fp) (iY fr6) (Wk.obj _ _ aL);refine thn (ht _ s6 σ6 H6 _ I6' q6) λ b s7 ⟨H7,I7,q7⟩=>?_
   cases b with
   |false =>
    obtain⟨m',hm,w7⟩:=q7;obtain⟨J1,J2,J3⟩:=ye (tg:=tg) (tn:=tn) (i:=i+1) (Wk.obj _ _ aL) (λ h' k=>Wk.keep _ _ _ aL k) I7;exact⟨m',hm,i+1,ys,H7,J1.weak kp.2.symm kp.get,J2,J3,w7⟩
   |true =>
    refine thn (he _ s7 σ6 H7 _ I7 q7) λ y s8 ⟨yv,H8,I8,r8,hD8,xE,m',hm,w8⟩=>?_
    refine thn (zt (X:=Y) _ s8 σ6 H8 (.ref s2.heap.objs.size) [yv] _ _ (λ v H'=>v=.non/\H'=upd H8 s2.heap.objs.size (.lst (ys++[yv]))) I8 rfl (.cons r8 .nil) ⟨_,ys,yv,rfl,rfl,hD8,xE,rfl,rfl⟩) λ v s9 ⟨_,H9,I9,_,_,e9⟩=>?_
    subst e9;obtain⟨J1,J2,J3⟩:=ye (tg:=tg) (tn:=tn) (i:=i+1) (Wk.obj _ _ aL) (λ h' k=>Wk.keep _ _ _ aL k) I9;exact⟨m',hm,i+1,ys++[yv],_,J1.weak kp.2.symm kp.get,J2,J3,w8⟩
 exact codeAny_compStart_list loop ((Wk 0).self _ 0 _ _ _ nB loop)
def ql0(o:Nat)(caps:List Nat)(wi:TI)(g:TG)(tt:TT)(te:TE):TE:=λ σ H Q=>wi σ H λ J H1=>jj o caps (qdF J g) J.stop tt te σ H1 Q
theorem zz{K1 iter tg:Expr}{C6:List Expr}{scope:Scope}{pos:Pos}{NY:List Str}{o:Nat}{caps:List Nat}{wi:TI}{g:TG}{tt:TT}{te:TE}(S:CompScope X NY o caps scope)(hc:X.calm=true)(hi:PI X tg iter wi)(hg:∀ C s H fp pins,PG (zp X NY scope C s H fp pins) tg g)(ht:∀ C s H fp pins,PTs (zp X NY scope C s H fp pins) C6 tt)(he:∀ C s H fp pins,PE (zp X NY scope C s H fp pins) K1 te)(hs:∀ x,foldedSetIterable iter X.env x=pure x:=by intro _;rfl):PE X (.ListComp K1 [⟨tg,iter,C6,0⟩] scope pos) (ql0 o caps wi g tt te):=by
 intro pins s σ H Q I h;rw[eval_ListComp];refine X6 (use:=none) (g:=⟨tg,iter,C6,0⟩) (gs:=[]) rfl hs (jC λ y hy e=>I.ok.has _ (S.frees y hy e)) S.kind S.locs ?_;show wpAny _ _ (eval iter X.env) _ _ s
 refine thn (hi pins s σ H _ I h) λ v s1 h1=>thn h1 λ fG s2 h2=>?_
 obtain⟨it,fp,tn,J,H2,e,I2,T,i8,f2,hr⟩:=h2;subst e;exact qcB S I2 f2 i8 (λ C=>Turn.walk (Y:=zp X NY scope C s2 H2 fp pins) hc T (hg _ _ _ _ _)) (λ C=>ht _ _ _ _ _) (λ C=>he _ _ _ _ _) hr
def qmz(o:Nat)(caps:List Nat)(wi:TI2)(n:Nat)(t:TGs)(tt:TT)(te:TE):TE:=λ σ H Q=>wi σ H λ J H1=>jj o caps (qgq J n t) J.stop tt te σ H1 Q
theorem qaR{K1 iter:Expr}{es:List Expr}{k n:Nat}{A9:Pos}{C6:List Expr}{scope:Scope}{pos:Pos}{NY:List Str}{o:Nat}{caps:List Nat}{wi:TI2}{t:TGs}{tt:TT}{te:TE}(S:CompScope X NY o caps scope)(hc:X.calm=true)(hi:PI2 X (.Tuple es k A9) iter wi)(hg:∀ C s H fp pins,PGs (zp X NY scope C s H fp pins) es t)(hn:∀ env,(assignEach es env).length=n)(E2:∀ env,(assignEach es env).findIdx? (·.1)=none)(ht:∀ C s H fp pins,PTs (zp X NY scope C s H fp pins) C6 tt)(he:∀ C s H fp pins,PE (zp X NY scope C s H fp pins) K1 te)(hs:∀ x,foldedSetIterable iter X.env x=pure x:=by intro _;rfl):PE X (.ListComp K1 [⟨.Tuple es k A9,iter,C6,0⟩] scope pos) (qmz o caps wi n t tt te):=by
 intro pins s σ H Q I h;rw[eval_ListComp];refine X6 (use:=none) (g:=⟨.Tuple es k A9,iter,C6,0⟩) (gs:=[]) rfl hs (jC λ y hy e=>I.ok.has _ (S.frees y hy e)) S.kind S.locs ?_;show wpAny _ _ (eval iter X.env) _ _ s
 refine thn (hi pins s σ H _ I h) λ v s1 h1=>thn h1 λ fG s2 h2=>?_
 obtain⟨it,fp,tn,J,H2,e,I2,T,i8,f2,hr⟩:=h2;subst e;exact qcB S I2 f2 i8 (λ C=>Turn2.walk (Y:=zp X NY scope C s2 H2 fp pins) hc T (hg _ _ _ _ _) (hn _) (E2 _)) (λ C=>ht _ _ _ _ _) (λ C=>he _ _ _ _ _) hr
end
noncomputable def ItV(n:Nat)(val:Nat->V):It:=⟨λ i _=>i<n,λ i H x H'=>H'=H/\x=val i,λ i _=>i=n⟩
theorem qam{P:Program}{w:World}{K:W.Frag}{tg:Expr}{it:Addr}{n:Nat}{Pv:Nat->Value->Prop}{St:Nat->Heap->Prop}(val:Nat->V)(W:∀ A:Around,A.handled=none->Walks P w A it [it] [it] n Pv St)(hv:∀ i v,Pv i v->qT (val i) v)(ob:∀ i h,St i h->∃ o nm vs,h.get? it=some o/\o.cls=.type nm/\o.data=.fields vs/\["enumerate","zip","dict_itemiterator","dict_reverseitemiterator","odict_iterator","itertools.zip_longest","itertools.pairwise"].contains nm=false)(self:∀(A:Around)(i:Nat)(s:Shared)(Q:Value->Shared->Prop)(E:Value->Shared->Prop),St i s.heap->Q (.ref it) s->wpAny (model P w) A (pyIter (.ref it)) Q E s):
  Turn P w K tg (ItV n val) [it] it St where
 mem:=by simp
 obj:=λ i h st b hb=>by
  have e:b=it:=by simpa using hb
  subst e;obtain⟨o,nm,vs,e,_,d,_⟩:=ob i h st;exact⟨o,e,λ v z=>by rw[d] at z;cases z⟩
 keep:=λ i h h' st k=>by
  have ha:callerA.handled=none:=rfl;exact(W callerA ha).frame i h h' st k
 item:=by
  intro X hP hw hK hc i pins s σ H E I hf st hg;subst hP hw hK;obtain⟨f0,f1,f2,f3,f4,f5⟩:=hf it (by simp);refine(W X.A (I.ok.hd hc)).item i s _ _ hg st λ v h' tk iE b0 kk=>?_
  have I1:Inv X pins σ H { s with heap:=h',toks:=tk }:=I.turned (λ b o hb e=>kk b o (by simpa using hb) e) f0 f1 f3 f4 f5;obtain⟨o,nm,vs,e,c,d,nn⟩:=ob _ _ b0;exact⟨_,rfl,qhj (s:={ s with heap:=h',toks:=tk }) e c d nn ⟨val i,H,I1,hv i v iE,⟨rfl,rfl⟩,b0,λ b hb=>(hf b hb).1⟩⟩
 done:=by
  intro X hP hw hK hc i pins s σ H E I hf st hg;subst hP hw hK;obtain⟨f0,f1,f2,f3,f4,f5⟩:=hf it (by simp);have hg:i=n:=hg;subst hg;exact(W X.A (I.ok.hd hc)).done s _ _ st λ h' tk kk=>⟨rfl,I.turned (λ b o hb e=>kk b o (by simpa using hb) e) f0 f1 f3 f4 f5⟩
 self:=self
theorem qb2{n:Nat}{val:Nat->V}{g:TG}{tb:TS}{D:Ends}{σ:St}{H:Hp}(Pv:Nat->St->Hp->Prop)(h0:Pv 0 σ H)(hs:∀ i σ H,i<n->Pv i σ H->g (val i) σ H λ σ2 H2=>tb { D with nx:=Pv (i+1),ct:=Pv (i+1),bk:=D.nx } σ2 H2)(hd:∀ σ H,Pv n σ H->D.nx σ H):
  ∃ W:Nat->Nat->St->Hp->Prop,(∃ m,W 0 m σ H)/\∀ i m σ H,W i m σ H ->
   ((ItV n val).stop i H/\D.nx σ H)∨((ItV n val).go i H/\∃ N:St->Hp->Prop,(∀ σ' H',N σ' H'->∃ m',m'<m/\W (i+1) m' σ' H')/\∀ x H',(ItV n val).yld i H x H'->g x σ H' λ σ2 H2=>tb { D with nx:=N,ct:=N,bk:=D.nx } σ2 H2):=by
 refine⟨λ i m σ H=>m=n-i/\i<=n/\Pv i σ H,⟨n,by simp,Vd _,h0⟩,?_⟩;rintro i m σ H ⟨rfl,hi,p⟩;by_cases c7:i<n
 ·refine .inr ⟨c7,Pv (i+1),λ σ' H' p'=>⟨n-(i+1),by omega,rfl,c7,p'⟩,λ x H' y=>?_⟩;obtain⟨e,y⟩:=y;subst e y;exact hs i σ _ c7 p
 ·have e:i=n:=by omega
  subst e;exact .inl ⟨rfl,hd σ H p⟩
noncomputable def sgn(z:Str)(i:Nat):V:=.str ⟨#[z.cps.getD i 0]⟩
theorem qgr{z:Str}{i:Nat}{v:Value}(h:SignAt z i v):qT (sgn z i) v:=by
 obtain⟨c,u,e,rfl⟩:=h;refine⟨u,?_⟩
 have:z.cps.getD i 0=c:=by rw[Xi,e];rfl
 rw[this]
def qoD(te:TE):TI:=λ σ H R=>te σ H λ x H1=>∃ z,x=.str z/\R (ItV z.cps.size (sgn z)) H1
theorem vJ{X:Cx}{tg e:Expr}{te:TE}(he:PE X e te):PI X tg e (qoD te):=by
 intro pins s σ H R I h;refine thn (he pins s σ H _ I h) λ v s1 ⟨x,H1,I1,r1,z,ez,q⟩=>?_
 subst ez;obtain⟨t,rfl⟩:=r1;cases ha:z.cps.all (·<128) with
 |false =>
  refine wpAny_pyIter_wide ha ⟨s1.heap.objs.size,[s1.heap.objs.size],_,_,H1,rfl,I1.kept (t':=s1.toks) λ b o e=>XI _ e,
   qam (sgn z) (λ A hA=>Walks.strWide hA _ z t) (λ i v=>qgr) (λ i h st=>?_) (λ _ _ _ _ _ st h=>wpAny_pyIter_striter_wide st h),⟨_,Yz _ rfl,rfl,rfl⟩,λ b hb=>?_,q⟩
  ·obtain⟨o,e,c,d⟩:=st;exact⟨o,_,_,e,c,d,by decide⟩
  ·have e:b=s1.heap.objs.size:=by simpa using hb
   subst e;exact I1.fpOk (Vc _) (I1.hok.fresh (Vc _))
 |true =>
  refine wpAny_pyIter_ascii ha ⟨s1.heap.objs.size,[s1.heap.objs.size],_,_,H1,rfl,I1.kept (t':=s1.toks) λ b o e=>XI _ e,
   qam (sgn z) (λ A hA=>Walks.strAscii hA _ z t) (λ i v=>qgr) (λ i h st=>?_) (λ _ _ _ _ _ st h=>wpAny_pyIter_striter_ascii st h),⟨_,Yz _ rfl,rfl,rfl⟩,λ b hb=>?_,q⟩
  ·obtain⟨o,e,c,d⟩:=st;exact⟨o,_,_,e,c,d,by decide⟩
  ·have e:b=s1.heap.objs.size:=by simpa using hb
   subst e;exact I1.fpOk (Vc _) (I1.hok.fresh (Vc _))
theorem qcC{X:Cx}{T:String}{x:Str}{a:Expr}{ta:TA}{p pos:Pos}{pins:List (Addr×Obj)}{s:Shared}{σ:St}{H:Hp}{Q:Value->Shared->Prop}{R:List V->Hp->Prop}(hg:Gl X x)(hm:X.mg x=none)(hv:bootBuiltins x=some (.type T))(ha:PA X [a] ta)(I:Inv X pins σ H s)(h:ta σ H R)(hk:∀ us s1 vs H1,Inv X pins σ H1 s1->qK vs us->R vs H1->wpAny (model X.prog X.w) X.A (call (.type T) us) Q X.xe s1)(hn:x≠"__name__":=by decide)(hd:(x == ("__debug__":Str))=false:=by decide)(hs:starEach [a] X.env=[(false,eval a X.env)]:=by rfl):wpAny (model X.prog X.w) X.A (eval (.Call (.Name x p) [a] [] pos) X.env) Q X.xe s:=by
 refine Call_ (qbn I hg hm hv (Xh (thn (ha pos pins s σ H _ I h) λ us s1 ⟨vs,H1,I1,r1,q1⟩=>hk us s1 vs H1 I1 r1 q1) hs rfl) hn hd)
noncomputable def qih(K:W.Frag)(a:Addr):It2:=
 ⟨λ i H=>∃ xs x,SqL K H a xs/\xs[i]?=some x,λ i H ys H'=>H'=H/\∃ x,ys=[.int i,x]/\∀ xs,SqL K H a xs->xs[i]?=some x,λ i H=>∃ xs,SqL K H a xs/\xs.length<=i⟩
def qmA(e it a:Addr)(i:Nat)(h:Heap):Prop:=(∃ N1,IsEnum h e it i N1)/\h.IsListIter it a i
theorem qii{P:Program}{w:World}{K:W.Frag}{es:List Expr}{k:Nat}{pos:Pos}(a e it:Addr)(C7:e≠it):Turn2 P w K (.Tuple es k pos) (qih K a) [e,it] e (qmA e it a) where
 obj:=λ i h st b hb=>by
  obtain⟨⟨N1,he⟩,o,ho,c,d⟩:=st;have hb:b=e∨b=it:=by simpa using hb
  rcases hb with z|z
  ·subst z;exact⟨_,he,λ v q=>by cases q⟩
  ·subst z;exact⟨o,ho,λ v q=>by rw[d] at q;cases q⟩
 keep:=λ i h h' st k=>by
  obtain⟨⟨N1,he⟩,o0⟩:=st;exact⟨⟨N1,k e (by simp) _ he⟩,o0.at λ o q=>k it (by simp) o q⟩
 item:=by
  intro X hP hw hK hc i pins s σ H E I hf st hg;subst hP hw hK;obtain⟨xs,x,hq,hx⟩:=hg;obtain⟨its,rv,p,hz⟩:=I.list hq;obtain⟨u,hu,ru⟩:=rv.get hx;obtain⟨⟨N1,he⟩,o0⟩:=st;have fe:=hf e (by simp);have fi:=hf it (by simp);refine wpAny_pyNext_enum_item he o0 p.isList (x:=u) (by simpa using hu) C7 λ h' cG E4 ht hsz hk=>?_
  refine⟨s.heap.objs.size,rfl,wpAny_letOwnedTupleGo_enum cG λ h2 he2 t5=>?_⟩;replace t5:Heap.SameBut e h' h2:=t5;have dW:e<s.heap.objs.size:=Qv he;have k2:∀ b o,b≠e->b≠it->s.heap.get? b=some o->h2.get? b=some o:=λ b o h1 h3 q=>t5.extBut b o h1 (hk b o h1 h3 q)
  have I1:Inv X pins σ H { s with heap:=h2,toks:=s.toks+1 }:=by
   refine I.step (g':=s.gens) (d':=s.drawn) (ch:=[e,it]) (λ b hb=>?_) (λ b o _ _ c9 q _=>k2 b o (λ z=>c9 (by simp[z])) (λ z=>c9 (by simp[z])) q)
    (λ b o _ _ c9 q _=>⟨o.slots,k2 b o (λ z=>c9 (by simp[z])) (λ z=>c9 (by simp[z])) q⟩) (λ _ _ _ _ n=>n) (λ b o c9 q=>⟨o,k2 b o (λ z=>c9 (by simp[z])) (λ z=>c9 (by simp[z])) q⟩)
    (λ _ _ q=>q) (λ _ _ _ q=>q) (λ b ps q=>⟨#[],by rw[q];simp⟩) (λ m hm=>?_) (λ b u q=>?_) I.bare
   ·have hb:b=e∨b=it:=by simpa using hb
    rcases hb with z|z
    ·subst z;exact⟨fe.2.2.2.1,fe.2.1,fe.2.2.2.2.1,fe.2.2.2.2.2⟩
    ·subst z;exact⟨fi.2.2.2.1,fi.2.1,fi.2.2.2.2.1,fi.2.2.2.2.2⟩
   ·obtain⟨o,r9,ep,ho,r⟩:=hm;exact⟨o,r9,ep,k2 _ o (Vx fe.2.1) (Vx fi.2.1) ho,r⟩
   ·refine(I.hok b u q).stay (λ c v c9 z=>k2 c v (λ y=>?_) (λ y=>?_) z) (λ _ z=>z) λ _ _ z=>z
    ·rcases c9 with y' | y'
     ·rw[<- y',y,fe.1] at q;cases q
     ·rw[y,fe.1] at y';cases y'
    ·rcases c9 with y' | y'
     ·rw[<- y',y,fi.1] at q;cases q
     ·rw[y,fi.1] at y';cases y'
  refine⟨[.int i,x],[.int i s.toks,u],H,I1,⟨_,(t5.extBut _ _ (Qz dW) ht),rfl,_,rfl⟩,.cons ⟨_,rfl⟩ (.cons ru .nil),⟨rfl,x,rfl,λ ys hy=>by rw[I.list_inj hy hq];exact hx⟩,⟨⟨u,?_⟩,E4.extBut t5.extBut (Vx C7)⟩,λ b hb=>(hf b hb).1⟩
  ·have:((i:Int)+1)=((i+1:Nat):Int):=by omega
   rw[<- this];exact he2
 done:=by
  intro X hP hw hK hc i pins s σ H E I hf st hg;subst hP hw hK;obtain⟨xs,hq,hx⟩:=hg;obtain⟨its,rv,p,hz⟩:=I.list hq;obtain⟨⟨N1,he⟩,o0⟩:=st;obtain⟨f0,f1,f2,f3,f4,f5⟩:=hf it (by simp);have hl:=rv.length;exact wpAny_pyNext_enum_end (I.ok.hd hc) he o0 p.isList (by simp;omega) λ h' eb=>⟨rfl,I.turned (t':=s.toks) (λ b o hb e=>eb b o hb e) f0 f1 f3 f4 f5⟩
 self:=λ A i s Q E st h=>by
  obtain⟨⟨N1,he⟩,o0⟩:=st;exact Ug he h
def qnG(K:W.Frag)(ta:TA):TI2:=λ σ H R=>ta σ H λ vs H1=>∃ a,vs=[.ref a]/\(∃ xs,SqL K H1 a xs)/\R (qih K a) H1
theorem qld{X:Cx}{es:List Expr}{k:Nat}{A9:Pos}{l:Expr}{ta:TA}{p pos:Pos}(hg:Gl X "enumerate")(hm:X.mg "enumerate"=none)(ha:PA X [l] ta)(hs:starEach [l] X.env=[(false,eval l X.env)]:=by rfl):
  PI2 X (.Tuple es k A9) (.Call (.Name "enumerate" p) [l] [] pos) (qnG X.K ta):=by
 intro pins s σ H R I h;refine qcC (R:=λ vs H1=>∃ a,vs=[.ref a]/\(∃ xs,SqL X.K H1 a xs)/\R (qih X.K a) H1) hg hm boot_enumerate ha I h (λ us s1 vs H1 I1 r1 q1=>?_) (hs:=hs);obtain⟨a,e,⟨xs,hq⟩,q⟩:=q1;subst e;obtain⟨u,rfl,ru⟩:=yd r1;cases ru
 obtain⟨its,rv,pl,hz⟩:=I1.list hq;refine call_enumerate_list pl.isList λ h' he o0 hsz hk=>Ug he ?_
 refine⟨s1.heap.objs.size+1,[s1.heap.objs.size+1,s1.heap.objs.size],_,_,H1,rfl,I1.kept (t':=s1.toks) hk,qii a _ _ (Nat.succ_ne_self _),⟨⟨_,he⟩,o0⟩,λ b hb=>?_,q⟩;have hb:b=s1.heap.objs.size+1∨b=s1.heap.objs.size:=by simpa using hb
 rcases hb with z|z
 ·subst z;exact I1.fpOk (Ve _) (I1.hok.fresh (Ve _))
 ·subst z;exact I1.fpOk (Vc _) (I1.hok.fresh (Vc _))
noncomputable def ItZ(K:W.Frag)(a b:Addr):It2:=
 ⟨λ i H=>∃ xs ys x y,SqL K H a xs/\SqL K H b ys/\xs[i]?=some x/\ys[i]?=some y,λ i H zs H'=>H'=H/\∃ x y,zs=[x,y]/\(∀ xs,SqL K H a xs->xs[i]?=some x)/\(∀ ys,SqL K H b ys->ys[i]?=some y),
  λ i H=>∃ xs ys,SqL K H a xs/\SqL K H b ys/\(xs.length<=i∨ys.length<=i)⟩
def qnH(z TI TO i1 i2 a b:Addr)(i:Nat)(h:Heap):Prop:=IsZip h z TI TO .none/\IsPair h TI (.ref i1) (.ref i2)/\(∃ c d,IsPair h TO c d)/\h.IsListIter i1 a i/\h.IsListIter i2 b i
theorem qjx{P:Program}{w:World}{K:W.Frag}{es:List Expr}{k:Nat}{pos:Pos}{a b z TI TO i1 i2:Addr}(D:ZipApart z TI TO i1 i2 a b):
  Turn2 P w K (.Tuple es k pos) (ItZ K a b) [z,TI,TO,i1,i2] z (qnH z TI TO i1 i2 a b) where
 obj:=λ i h st c hc=>by
  obtain⟨hz,cI,⟨c1,d1,dZ⟩,⟨o1,O0,cc1,dd1⟩,⟨o2,P1,cc2,mV⟩⟩:=st;have hc:c=z∨c=TI∨c=TO∨c=i1∨c=i2:=by simpa using hc
  rcases hc with e|e|e|e|e
  ·subst e;exact⟨_,hz,λ v q=>by cases q⟩
  ·subst e;exact⟨_,cI,λ v q=>by cases q⟩
  ·subst e;exact⟨_,dZ,λ v q=>by cases q⟩
  ·subst e;exact⟨o1,O0,λ v q=>by rw[dd1] at q;cases q⟩
  ·subst e;exact⟨o2,P1,λ v q=>by rw[mV] at q;cases q⟩
 keep:=λ i h h' st k=>by
  obtain⟨hz,cI,⟨c1,d1,dZ⟩,h1,h2⟩:=st;exact⟨k z (by simp) _ hz,k TI (by simp) _ cI,⟨c1,d1,k TO (by simp) _ dZ⟩,h1.at λ o q=>k i1 (by simp) o q,h2.at λ o q=>k i2 (by simp) o q⟩
 item:=by
  intro X hP hw hK hc i pins s σ H E I hf st hg;subst hP hw hK;obtain⟨xs,ys,x,y,dH,dG,hx,hy⟩:=hg;obtain⟨nV,sQ,p1,hz1⟩:=I.list dH;obtain⟨L5,sP,p2,hz2⟩:=I.list dG;obtain⟨u1,M7,wF⟩:=sQ.get hx;obtain⟨u2,hu2,wE⟩:=sP.get hy;obtain⟨hz,cI,⟨c1,d1,dZ⟩,h1,h2⟩:=st;refine wpAny_pyNext_zip_item D hz cI dZ h1 h2 p1.isList p2.isList (x:=u1) (y:=u2) (by simpa using M7) (by simpa using hu2) λ h' hz' hTO' h1' pS hp hsz hk=>?_
  refine⟨s.heap.objs.size,rfl,wpAny_letOwnedTupleGo_zip hz' λ pS xF t5=>?_⟩;rename_i tX;replace t5:Heap.SameBut z h' pS:=t5;have xD:z<s.heap.objs.size:=Qv hz;have k2:∀ c o,c≠z->c≠TO->c≠i1->c≠i2->s.heap.get? c=some o->pS.get? c=some o:=λ c o a1 a2 a3 a4 q=>t5.extBut c o a1 (hk c o a1 a2 a3 a4 q)
  have fz:=hf z (by simp);have fO:=hf TO (by simp);have f1:=hf i1 (by simp);have f2:=hf i2 (by simp);have nn:∀ c,c∉[z,TO,i1,i2]->c≠z/\c≠TO/\c≠i1/\c≠i2:=λ c c9=>by simpa using c9
  have I1:Inv X pins σ H { s with heap:=pS }:=by
   refine I.step (g':=s.gens) (d':=s.drawn) (t':=s.toks) (ch:=[z,TO,i1,i2]) (λ c c9=>?_) (λ c o _ _ c9 q _=>k2 c o (nn c c9).1 (nn c c9).2.1 (nn c c9).2.2.1 (nn c c9).2.2.2 q)
    (λ c o _ _ c9 q _=>⟨o.slots,k2 c o (nn c c9).1 (nn c c9).2.1 (nn c c9).2.2.1 (nn c c9).2.2.2 q⟩) (λ _ _ _ _ n=>n) (λ c o c9 q=>⟨o,k2 c o (nn c c9).1 (nn c c9).2.1 (nn c c9).2.2.1 (nn c c9).2.2.2 q⟩)
    (λ _ _ q=>q) (λ _ _ _ q=>q) (λ c ps q=>⟨#[],by rw[q];simp⟩) (λ m hm=>?_) (λ c u q=>?_) I.bare
   ·have:jQ X pins H c:=by
     have c9:c=z∨c=TO∨c=i1∨c=i2:=by simpa using c9
     rcases c9 with e|e|e|e <;> subst e <;> assumption
    exact⟨this.2.2.2.1,this.2.1,this.2.2.2.2.1,this.2.2.2.2.2⟩
   ·obtain⟨o,r9,ep,ho,r⟩:=hm;exact⟨o,r9,ep,k2 _ o (Vx fz.2.1) (Vx fO.2.1) (Vx f1.2.1) (Vx f2.2.1) ho,r⟩
   ·have no:∀ b',H b'=none->∀ c',(c'=c∨H c'=some (.own c))->c'≠b':=λ b' pK c' N4 e=>by
     subst e;rcases N4 with e|e
     ·subst e;rw[pK] at q;cases q
     ·rw[pK] at e;cases e
    exact(I.hok c u q).stay (λ c' v c9 r=>k2 c' v (no z fz.1 c' c9) (no TO fO.1 c' c9) (no i1 f1.1 c' c9) (no i2 f2.1 c' c9) r) (λ _ r=>r) λ _ _ r=>r
  have hpt:IsPair pS s.heap.objs.size u1 u2:=t5.extBut _ _ (Qz xD) hp;refine⟨[x,y],[u1,u2],H,I1,⟨_,hpt,rfl,_,rfl⟩,.cons wF (.cons wE .nil),⟨rfl,x,y,rfl,λ ws hw=>by rw[I.list_inj hw dH];exact hx,λ ws hw=>by rw[I.list_inj hw dG];exact hy⟩,?_,λ c c9=>(hf c c9).1⟩;refine⟨xF,t5.extBut _ _ D.TIz (hk _ _ D.TIz D.TITO D.TIi1 D.TIi2 cI),⟨_,_,t5.extBut _ _ D.TOz hTO'⟩,h1'.extBut t5.extBut D.i1z,tX.extBut t5.extBut D.i2z⟩
 done:=by
  intro X hP hw hK hc i pins s σ H E I hf st hg;subst hP hw hK;obtain⟨xs,ys,dH,dG,hx⟩:=hg;obtain⟨nV,sQ,p1,hz1⟩:=I.list dH;obtain⟨L5,sP,p2,hz2⟩:=I.list dG;obtain⟨hz,cI,⟨c1,d1,dZ⟩,h1,h2⟩:=st;have S8:=sQ.length;have L7:=sP.length;have fz:=hf z (by simp);have fO:=hf TO (by simp);have f1:=hf i1 (by simp);have f2:=hf i2 (by simp);have nn:∀ c,c∉[z,TO,i1,i2]->c≠z/\c≠TO/\c≠i1/\c≠i2:=λ c c9=>by simpa using c9
  refine wpAny_pyNext_zip_end (I.ok.hd hc) D hz cI dZ h1 h2 p1.isList p2.isList (by rcases hx with q|q;left;simp;omega;right;simp;omega) λ h' k2=>⟨rfl,?_⟩
  refine I.step (g':=s.gens) (d':=s.drawn) (t':=s.toks) (ch:=[z,TO,i1,i2]) (λ c c9=>?_) (λ c o _ _ c9 q _=>k2 c o (nn c c9).1 (nn c c9).2.1 (nn c c9).2.2.1 (nn c c9).2.2.2 q)
   (λ c o _ _ c9 q _=>⟨o.slots,k2 c o (nn c c9).1 (nn c c9).2.1 (nn c c9).2.2.1 (nn c c9).2.2.2 q⟩) (λ _ _ _ _ n=>n) (λ c o c9 q=>⟨o,k2 c o (nn c c9).1 (nn c c9).2.1 (nn c c9).2.2.1 (nn c c9).2.2.2 q⟩)
   (λ _ _ q=>q) (λ _ _ _ q=>q) (λ c ps q=>⟨#[],by rw[q];simp⟩) (λ m hm=>?_) (λ c u q=>?_) I.bare
  ·have:jQ X pins H c:=by
    have c9:c=z∨c=TO∨c=i1∨c=i2:=by simpa using c9
    rcases c9 with e|e|e|e <;> subst e <;> assumption
   exact⟨this.2.2.2.1,this.2.1,this.2.2.2.2.1,this.2.2.2.2.2⟩
  ·obtain⟨o,r9,ep,ho,r⟩:=hm;exact⟨o,r9,ep,k2 _ o (Vx fz.2.1) (Vx fO.2.1) (Vx f1.2.1) (Vx f2.2.1) ho,r⟩
  ·have no:∀ b',H b'=none->∀ c',(c'=c∨H c'=some (.own c))->c'≠b':=λ b' pK c' N4 e=>by
    subst e;rcases N4 with e|e
    ·subst e;rw[pK] at q;cases q
    ·rw[pK] at e;cases e
   exact(I.hok c u q).stay (λ c' v c9 r=>k2 c' v (no z fz.1 c' c9) (no TO fO.1 c' c9) (no i1 f1.1 c' c9) (no i2 f2.1 c' c9) r) (λ _ r=>r) λ _ _ r=>r
 self:=λ A i s Q E st h=>wpAny_pyIter_zip st.1 h
def qoE(K:W.Frag)(ta:TA):TI2:=λ σ H R=>ta σ H λ vs H1=>∃ a b,vs=[.ref a,.ref b]/\(∃ xs,SqL K H1 a xs)/\(∃ ys,SqL K H1 b ys)/\R (ItZ K a b) H1
theorem qgs{X:Cx}{es:List Expr}{k:Nat}{A9:Pos}{l1 l2:Expr}{ta:TA}{p pos:Pos}(hg:Gl X "zip")(hm:X.mg "zip"=none)(ha:PA X [l1,l2] ta)(hs:starEach [l1,l2] X.env=[(false,eval l1 X.env),(false,eval l2 X.env)]:=by rfl)(t5:starEach [l2] X.env=[(false,eval l2 X.env)]:=by rfl):
  PI2 X (.Tuple es k A9) (.Call (.Name "zip" p) [l1,l2] [] pos) (qoE X.K ta):=by
 intro pins s σ H R I h;refine Call_ (qbn I hg hm boot_zip (Xh (thn (ha pos pins s σ H _ I h) λ us s1 ⟨vs,H1,I1,r1,q1⟩=>?_) (by rw[hs,t5]) (by rw[t5];rfl)));obtain⟨a,b,e,⟨xs,dH⟩,⟨ys,dG⟩,q⟩:=q1;subst e;obtain⟨u1,u2,rfl,wF,wE⟩:=qhp r1;cases wF
 cases wE
 obtain⟨nV,sQ,p1,hz1⟩:=I1.list dH;obtain⟨L5,sP,p2,hz2⟩:=I1.list dG;have a1:a<s1.heap.objs.size:=by obtain⟨_,e,_⟩:=p1.isList;exact Qv e
 have a2:b<s1.heap.objs.size:=by obtain⟨_,e,_⟩:=p2.isList;exact Qv e
 refine call_zip_2 p1.isList p2.isList λ h' hz cI dZ hi1 hi2 hsz hk=>wpAny_pyIter_zip hz ?_
 refine⟨s1.heap.objs.size+4,[s1.heap.objs.size+4,s1.heap.objs.size+2,s1.heap.objs.size+3,s1.heap.objs.size,s1.heap.objs.size+1],_,_,H1,rfl,I1.kept (t':=s1.toks) hk,qjx (zipApart_new a1 a2),⟨hz,cI,⟨_,_,dZ⟩,hi1,hi2⟩,λ c hc=>?_,q⟩;have hc:c=s1.heap.objs.size+4∨c=s1.heap.objs.size+2∨c=s1.heap.objs.size+3∨c=s1.heap.objs.size∨c=s1.heap.objs.size+1:=by simpa using hc
 have D4:s1.heap.objs.size<=c:=by rcases hc with e|e|e|e|e <;> rw[e] <;> omega
 exact I1.fpOk D4 (I1.hok.fresh D4)
noncomputable abbrev cs(z:Str):List Nat:=z.cps.toList
noncomputable def qj(l:List Nat):Str:=⟨l.toArray⟩
theorem qnI(l:List Nat):cs (qj l)=l:=rfl
theorem qhw(z:Str):qj (cs z)=z:=rfl
theorem qgt{a b:Str}(h:cs a=cs b):a=b:=by rw[<- qhw a,<- qhw b,h]
noncomputable abbrev vS(l:List Nat):V:=.str (qj l)
theorem qgu{a b:List Nat}(h:vS a=vS b):a=b:=by
 injection h with h
 have:=congrArg cs h
 exact this
theorem j3:∀{ss:List Str}{us:List Value},qK (ss.map V.str) us->StrsAre us ss
 | [],_,r=>by cases r;exact .nil
 |x::ss,_,r=>by
  rw[Qi] at r;cases r with
  |cons h t =>
   obtain⟨t',rfl⟩:=h;exact .cons _ _ (j3 t)
theorem j4:∀{ss:List Str}{us:List Value},StrsAre us ss->qK (ss.map V.str) us
 |_,_,.nil=>.nil
 |_,_,.cons x t h=>.cons ⟨t,rfl⟩ (j4 h)
section
variable {X:Cx}
def qnJ(K:W.Frag):V->List V->Hp->VK->Prop:=λ x vs H Q=>∃ z p ss,x=.str z/\vs=[.ref p]/\(SqL K H p (ss.map V.str)∨SqT K H p (ss.map V.str))/\(ss.map (·.length)).sum+ss.length*z.length<=16777216/\Q (.str (Txt.join z ss)) H
theorem qb3:MtR X "str.join" (qnJ X.K):=by
 intro pins s σ H x vs v us Q I rx rv h;obtain⟨z,p,ss,rfl,rfl,hq,hz,q⟩:=h;obtain⟨t,rfl⟩:=rx;obtain⟨u,rfl,ru⟩:=yd rv;cases ru
 rcases hq with hq|hq
 ·obtain⟨its,r,pl,_⟩:=I.list hq;exact join_list pl.isList (j3 (by simpa using r)) hz λ t' k=>⟨.str (Txt.join z ss),H,I.tok _,⟨_,rfl⟩,q⟩
 ·obtain⟨its,r,pl,_⟩:=I.tuple hq;exact join_tuple pl (j3 (by simpa using r)) hz λ t' k=>⟨.str (Txt.join z ss),H,I.tok _,⟨_,rfl⟩,q⟩
noncomputable def qaS(ss:List Str):List Str:=(Fs.srt (ss.map cs)).map qj
theorem qij(a b:List Nat):ltCps a b=decide (a<b):=ltCps_eq a b
theorem qeo{ss C5:List Str}(hp:C5.Perm ss)(hs:sortedS C5=true):C5=qaS ss:=by
 have i9:∀(p:Str)(l:List Str),risingS p l=true->(∀ x∈l,¬ cs x<cs p)/\(l.map cs).Pairwise (λ x y=>¬ y<x):=by
  intro p l;induction l generalizing p with
  |nil=>intro _;exact⟨by simp,by simp⟩
  |cons a l ih =>
   intro h;simp only[risingS,Ut,Bool.not_eq_true'] at h;obtain⟨h1,h2⟩:=h;have ha:¬ cs a<cs p:=by
    have:=h1
    rw[qij] at this;exact Zu this
   obtain⟨i1,i2⟩:=ih a h2;refine⟨λ x hx=>?_,?_⟩
   ·rcases Qh.mp hx with e | e
    ·rw[e];exact ha
    ·intro c7
     have:=i1 x e
     by_cases hpa:cs p<cs a
     ·exact this (List.lt_trans c7 hpa)
     ·have e':=Fs.plt_total hpa ha;rw[e'] at c7;exact this c7
   ·rw[Qi];exact Zm.mpr ⟨λ y hy=>by
     obtain⟨x,hx,rfl⟩:=Q3.mp hy;exact i1 x hx,i2⟩
 have hpw:(C5.map cs).Pairwise (λ x y=>¬ y<x):=by
  cases C5 with
  |nil=>simp
  |cons a l =>
   have h:risingS a l=true:=hs;obtain⟨i1,i2⟩:=i9 a l h;rw[Qi];exact Zm.mpr ⟨λ y hy=>by
    obtain⟨x,hx,rfl⟩:=Q3.mp hy;exact i1 x hx,i2⟩
 have e:=Fs.srt_of (hp.map cs) hpw;unfold qaS;rw[<- e,Q4]
 have:qj ∘ cs=id:=funext λ z=>qhw z
 rw[this,List.map_id]
def qmB(K:W.Frag):R2:=λ x y H Q=>∃ a b xs ys,x=.ref a/\y=.ref b/\SqT K H a xs/\SqT K H b ys/\xs.length+ys.length<=sizeLine /\
 ∀ p H',qg H H'->SqT K H' p (xs++ys)->Q (.ref p) H'
theorem qcD{H:Hp}{p:Addr}(h:H p=none)(o:HO):qg H (upd H p o):=λ b u q=>by rw[qv (qZ q h)];exact q
theorem qle{prog:Program}{w:World}{A:Around}{E:Value->Shared->Prop}{s:Shared}{t b:Addr}{vs ws:List Value}{Q:Value->Shared->Prop}(ht:IsTup s.heap t vs.toArray)(hb:IsTup s.heap b ws.toArray)(h0:vs=[]->Q (.ref b) s)(h1:vs≠[]->ws=[]->Q (.ref t) s)(h2:vs≠[]->ws≠[]->Q (.ref s.heap.objs.size) { s with heap:=s.heap.push { cls:=.type "tuple",data:=.seq (vs++ws).toArray } })(hsz:vs.length+ws.length<=sizeLine):wpAny (model prog w) A (binaryOp .Add (.ref t) (.ref b)) Q E s:=by
 by_cases hv:vs=[]
 ·obtain⟨⟨cls,dd,data,sl⟩,ho,hc,n,hd⟩:=id ht;obtain⟨⟨cls2,mV,data2,sN⟩,P1,iQ,n2,aE⟩:=id hb;simp only at hc hd iQ aE;subst hc hd iQ aE;exact concat_meets ⟨_,ho,rfl⟩ ⟨_,P1,rfl⟩ noFill_tuple_add seq_tuple_add XL X9 (X0 _ _)
   (tuple_addW0 t b vs.toArray ws.toArray n n2 dd mV sl sN (by simp[hv])) ⟨ho,P1,h0 hv⟩
 ·exact HT.cat_tup ht hb hv (h1 hv) (h2 hv) hsz
theorem qjy:OpR X (binaryOp .Add) (qmB X.K):=by
 intro pins s σ H x y v u Q I rx ry h;obtain⟨a,b,xs,ys,rfl,rfl,dH,dG,hz,q⟩:=h;cases rx
 cases ry
 obtain⟨its,r1,p1,_⟩:=I.tuple dH;obtain⟨L5,r2,p2,_⟩:=I.tuple dG;have l1:=r1.length;have l2:=r2.length;have e0:its=[]->xs=[]:=λ e=>by rw[e] at l1;exact Xf l1
 have e1:L5=[]->ys=[]:=λ e=>by rw[e] at l2;exact Xf l2
 refine qle p1 p2 (λ h=>⟨.ref b,H,I,rfl,?_⟩) (λ h h'=>⟨.ref a,H,I,rfl,?_⟩) (λ h h'=>⟨.ref s.heap.objs.size,_,I.laid (a:=s.heap.objs.size) (o:=.tup (xs++ys)) (t':=s.toks) (λ _ _ q=>XI _ q) (Vc _) ⟨?_,its++L5,r1.append r2,?_⟩,rfl,?_⟩) (by omega)
 ·refine q b H (qg.refl H) ?_;rw[e0 h];exact dG
 ·refine q a H (qg.refl H) ?_;rw[e1 h',U8];exact dH
 ·rw[Zj];exact hz
 ·exact⟨_,Yz _ rfl,rfl,_,rfl⟩
 ·have hf:=I.hok.fresh (Vc s.heap.objs.size);exact q _ _ (qcD hf _) (SqT.of qc)
theorem qbN(hc:X.calm=true):jh X (.builtin "all") (λ xs H Q=>∃(p:Addr)(bs:List Bool),xs=[.ref p]/\SqL X.K H p (bs.map V.bl)/\Q (.bl (bs.all id)) H):=by
 intro pins s σ H xs us Q I r h;obtain⟨p,bs,rfl,hq,q⟩:=h;obtain⟨u,rfl,ru⟩:=yd r;cases ru
 obtain⟨its,rv,pl,hz⟩:=I.list hq;have hl:=rv.length;rw[U7] at hl;have hh:X.A.in1.handled=none:=by simp[I.ok.hd hc]
 have gV:p<s.heap.objs.size:=by obtain⟨_,e,_⟩:=pl.isList;exact Qv e
 refine call_all_walk (Uf pl.isList ⟨s.heap.objs.size,_,_,_,_,_,λ i=>bs.getD i true,rfl,Walks.list hh s.heap.objs.size p (Qw gV) its.toArray,
  ⟨⟨_,Yz _ rfl,rfl,rfl⟩,pl.isList.push _⟩,λ i v s Q E hv hQ=>?_,λ h' tk hk=>?_⟩)
 ·have e:its[i]?=some v:=by simpa using hv
  have hi:i<bs.length:=by rw[hl];exact(Xq.mp e).1
  obtain⟨u,hu,ru⟩:=rv.get (i:=i) (x:=.bl bs[i]) (by rw[Zw,X1 hi];rfl);rw[e] at hu;cases hu
  cases ru
  refine Ud ?_
  have:bs.getD i true=bs[i]:=by rw[Xm,X1 hi];rfl
  have hQ':Q (bs.getD i true) s:=hQ;rw[this] at hQ';exact hQ'
 ·have hf:=I.hok.fresh (Vc s.heap.objs.size);refine⟨.bl (bs.all id),H,?_,?_,q⟩
  ·have I1:Inv X pins σ H { s with heap:=s.heap.push { cls:=.type "list_iterator",data:=.fields #[.ref p,.int 0 0] } }:=I.kept (t':=s.toks) λ _ _ e=>XI _ e
   refine I.kept (t':=tk) λ b o e=>hk b o (λ z=>?_) (XI _ e)
   have:b=s.heap.objs.size:=by simpa using z
   exact absurd (Qv e) (by rw[this];exact Qg _)
  ·show Value.bool _=Value.bool _
   congr 1
   rw[Zy,<- hl,U6,Uv,Uv];constructor
   ·intro h b hb;obtain⟨i,hi,e⟩:=Y4 hb
    have:=h i (Jx.mpr hi)
    rw[Xm,X1 hi,e] at this;exact this
   ·intro h i hi;have hi:=Jx.mp hi;rw[Xm,X1 hi];exact h _ (Uw hi)
end
theorem qan{α:Type}:∀(l:List α)(i:Nat)(h:i<l.length),(l[i]::l.eraseIdx i).Perm l
 |x::l,0,_=>J4 _
 |x::l,i+1,h=>by
  have:=qan l i (by simpa using h)
  rw[List.getElem_cons_succ,XA];exact(List.Perm.swap _ _ _).trans (this.cons x)
section
variable {prog:Program}{w:World}{A:Around}{E:Value->Shared->Prop}{s:Shared}
theorem qep{M:Model}{sJ:Source}{n:Nat}{Q:Nat->Shared->Prop}(hn:n≠0)(h:∀ i d,i<n->Q i { s with drawn:=d }):wpAny M A (choose sJ n) Q E s:=λ Γ p hΓ=>by
 show Sem.wp M Γ (Sem.choose sJ n Sem.pure) _ _ p s
 rw[Sem.wp];refine⟨hn,?_⟩;rw[Sem.wp];exact h _ _ (Nat.mod_lt _ (Nat.pos_of_ne_zero hn))
theorem yS{M:Model}{α:Type}:∀(n:Nat)(xs:List α)(s:Shared)(Q:List α->Shared->Prop),xs.length=n->(∀ ys d,ys.Perm xs->Q ys { s with drawn:=d })->wpAny M A (drawOrder n xs) Q E s
 |0,xs,s,Q,hl,h=>by
  have:xs=[]:=Xf hl
  subst this;unfold drawOrder;have e:=h [] s.drawn (J4 _);cases s
  exact Vl e
 |n+1,[],s,Q,hl,h=>by simp at hl
 |n+1,x::xs,s,Q,hl,h=>by
  unfold drawOrder;refine Vk (qep (by simp) λ i d hi=>?_);have e:(x::xs)[i]?=some (x::xs)[i]:=X1 hi;rw[e];dsimp only;refine Vk (yS n ((x::xs).eraseIdx i) _ _ ?_ λ ys d' hp=>Vl ?_)
  ·rw[Xn hi];omega
  ·refine h _ d' ((hp.cons _).trans ?_);exact qan (x::xs) i hi
def byT(w:World):Prop:=w.params.followText "set-order"=true
def qbu(P:Program)(w:World)(x:Str)(e:Int×Value):Prop:=e.1=(qw P w).hash (.inr x)/\∃ t,e.2=.str x t
def qQ(P:Program)(w:World)(h:Heap)(a:Addr)(ys:List Str):Prop:=
 ∃ o es ep t,h.get? a=some o/\o.ExactSet/\o.data=.set es ep t/\Paired (qbu P w) ys es.toList/\ys.Nodup/\ys.length<scanBound/\t.fits es.size=true/\(t.led=true∨byT w)/\(ys=[]∨t.plain=false)
theorem qcE{P:Program}{w:World}{ys:List Str}{l:List (Int×Value)}(h:Paired (qbu P w) ys l):ElemsOf (qw P w) l:=by
 induction h with
 |nil=>intro e he;cases he
 |cons h _ ih =>
  intro e he;rcases Qh.mp he with z|z
  ·subst z;obtain⟨h1,t,h2⟩:=h;exact⟨⟨.inr _,by rw[h2];exact zn _ _ _ _,h1⟩,by rw[h2];rfl⟩
  ·exact ih e z
theorem qcF{P:Program}{w:World}{ys:List Str}{l:List (Int×Value)}(h:Paired (qbu P w) ys l)(k:Key):(∃ e∈l,(qw P w).is k e.2=true) ↔ ∃ y∈ys,k=.inr y:=by
 induction h with
 |nil=>simp
 | @cons y e ys l h _ ih =>
  obtain⟨h1,t,h2⟩:=h;have hk:(qw P w).is k e.2=true ↔ k=.inr y:=by
   rw[h2];constructor
   ·intro q;exact(qw P w).inj _ _ _ q (zn P w y t)
   ·rintro rfl;exact zn P w y t
  simp only[Qh,exists_eq_or_imp,ih,hk]
theorem yO{α β:Type}{F:α->β->Prop}{xs:List α}{l l':List β}(h:Paired F xs l)(p:l'.Perm l):∃ mZ,mZ.Perm xs/\Paired F mZ l':=by
 induction p generalizing xs with
 |nil=>cases h;exact⟨[],J4 _,.nil⟩
 |cons b p ih =>
  cases h with
  |cons h t =>
   obtain⟨mZ,h1,h2⟩:=ih t;exact⟨_::mZ,h1.cons _,.cons h h2⟩
 |swap a b l =>
  cases h with
  |cons h t =>
   cases t with
   |cons h' t=>exact⟨_,List.Perm.swap _ _ _,.cons h' (.cons h t)⟩
 |trans _ _ i1 i2 =>
  obtain⟨mZ,h1,h2⟩:=i2 h;obtain⟨uQ,h3,h4⟩:=i1 h2;exact⟨uQ,h3.trans h1,h4⟩
theorem zD{α β:Type}{F:α->β->Prop}:∀{xs ys:List α}{us vs:List β},Paired F xs us->Paired F ys vs->Paired F (xs++ys) (us++vs)
 |_,_,_,_,.nil,s=>s
 |_,_,_,_,.cons r t,s=>.cons r (zD t s)
theorem qik(t:SetTable)(es:Array (Int×Value))(h:Int)(x:Value):(layNew t es h x).2.1.led=t.led/\(t.plain=false->(layNew t es h x).2.1.plain=false):=by
 unfold layNew;split
 ·rename_i slot wd e;dsimp only;unfold SetTable.orStandIn;split
  ·exact⟨rfl,λ h=>h⟩
  ·exact⟨rfl,λ _=>rfl⟩
 ·exact⟨rfl,λ _=>rfl⟩
theorem qgv{mask finger moves:Nat}{led plain:Bool}{hs:Array Int}{r:SetTable×Array Nat}(h:SetTable.laid mask finger moves led plain hs=some r):r.1.led=led/\r.1.plain=plain:=by
 unfold SetTable.laid at h;cases e:SetTable.layClean mask hs with
 |none=>rw[e] at h;cases h
 |some o=>rw[e] at h;cases h;exact⟨rfl,rfl⟩
theorem qfd(t:SetTable)(es:Array (Int×Value))(n:Nat):(relayAll t es n).2.1.led=t.led/\(t.plain=false->(relayAll t es n).2.1.plain=false):=by
 unfold relayAll;split
 ·rename_i t' o7 e;have f:=qgv (show SetTable.laid _ _ _ _ _ _=some (t',o7) from e);dsimp only;split
  ·exact⟨f.1,λ h=>f.2.trans h⟩
  ·exact⟨rfl,λ _=>rfl⟩
 ·exact⟨rfl,λ _=>rfl⟩
theorem je{P:Program}{w:World}{h:Heap}{a:Addr}{o:Obj}{es:Array (Int×Value)}{ep:Nat}{t:SetTable}(ho:h.get? a=some o)(hex:o.ExactSet)(hd:o.data=.set es ep t){r9:Array (Int×Value)}{t':SetTable}{ys:List Str}(hp:Paired (qbu P w) ys r9.toList)(nd:ys.Nodup)(hb:ys.length<scanBound)(hf:t'.fits r9.size=true)(hl:t'.led=true∨byT w)(t8:ys=[]∨t'.plain=false):
  (h.update a (Obj.putSet r9 t')).get? a=some { o with data:=.set r9 (ep+1) t' }/\qQ P w (h.update a (Obj.putSet r9 t')) a ys:=by
 have hg:(h.update a (Obj.putSet r9 t')).get? a=some { o with data:=.set r9 (ep+1) t' }:=by
  have:=XX (Obj.putSet r9 t') ho (by rw[putSet_of r9 t' hd];rfl)
  rw[putSet_of r9 t' hd] at this;exact this
 exact⟨hg,_,r9,ep+1,t',hg,hex,rfl,hp,nd,hb,hf,hl,t8⟩
theorem qfe{g:Bool->Sem Unit}(hg:∀(b:Bool)(s₁:Shared)(Q':Unit->Shared->Prop),Q' () s₁->wpAny (model prog w) A (g b) Q' E s₁){a:Addr}{o:Obj}{es:Array (Int×Value)}{ep:Nat}{t:SetTable}(ho:s.heap.get? a=some o)(hex:o.ExactSet)(hd:o.data=.set es ep t){E8:Array (Int×Value)}{t2:SetTable}{ys:List Str}(S7:Paired (qbu prog w) ys E8.toList)(nd:ys.Nodup)(P6:ys.length<scanBound)(tN:t2.fits E8.size=true)(hl:t2.led=true∨byT w)(t8:t2.plain=false){M9:Bool}{R:Option Bool->Shared->Prop}(h:∀ h' n6,Heap.SameBut a s.heap h'->n6.Perm ys->qQ prog w h' a n6->R (some true) { s with heap:=h' }):
  wpAny (model prog w) A (do
    storeSet a E8 t2
    if (!M9 && t2.tooFull)=true then do
        g (relayAll t2 E8 (SetTable.grown E8.size)).2.2
        storeSet a (relayAll t2 E8 (SetTable.grown E8.size)).1 (relayAll t2 E8 (SetTable.grown E8.size)).2.1
        pure (some true)
     else pure (some true)) R E s:=by
 have c5:E8.size<scanBound:=by rw[<- Yy,<- S7.length];exact P6
 refine Vk (Uh ho hd ?_ (Ui c5));obtain⟨O0,aH⟩:=je (P:=prog) (w:=w) ho hex hd S7 nd P6 tN hl (.inr t8);have oC:=Y5 s.heap a (Obj.putSet E8 t2);split
 ·have hp:=relayAll_perm t2 E8 (SetTable.grown E8.size);have aD:=relayAll_fits t2 E8 (SetTable.grown E8.size);have aW:=qfd t2 E8 (SetTable.grown E8.size);generalize hRl:relayAll t2 E8 (SetTable.grown E8.size)=Rl at hp aD aW ⊢;obtain⟨es2,t3,aA4⟩:=Rl;dsimp only at hp aD aW ⊢;obtain⟨n6,hy,D5⟩:=yO S7 hp;have L1:es2.size<scanBound:=by rw[<- Yy,hp.length_eq,Yy];exact c5
  refine Vk (hg _ _ _ ?_);refine Vk (Uh O0 rfl ?_ (Ui L1));obtain⟨_,eB⟩:=je (P:=prog) (w:=w) O0 hex rfl D5 (hy.nodup_iff.mpr nd) (by rw[hy.length_eq];exact P6) aD (by rw[aW.1];exact hl) (.inr (aW.2 t8));exact Vl (h _ n6 (oC.trans (Y5 _ a _)) hy eB)
 ·exact Vl (h _ ys oC (J4 _) aH)
theorem qff{a:Addr}{ys:List Str}{x:Str}{t0:Tok}{Q:Bool->Shared->Prop}(hS:qQ prog w s.heap a ys)(oI:ys.length+1<scanBound)(h0:x∈ys->Q false s)(h1:x∉ys->∀ h' n6,Heap.SameBut a s.heap h'->n6.Perm (ys++[x])->qQ prog w h' a n6->Q true { s with heap:=h' }):
  wpAny (model prog w) A (setAddHashed a (.str x t0) ((qw prog w).hash (.inr x))) Q E s:=by
 obtain⟨o,es,ep,t,ho,hex,hd,hp,nd,hb,hf,hl,t8⟩:=hS;have dW:=qcE hp;have G9:(qw prog w).is (.inr x) (.str x t0)=true:=zn _ _ _ _;have tI:(Value.str x t0).scannable=true:=rfl;have c5:es.size<scanBound:=by rw[<- Yy,<- hp.length];exact hb
 unfold setAddHashed setAddHashedIn;refine Qq (Vk (Uj ho hd hf ?_));dsimp only;rw[byScan_of tI c5 dW];simp only[↓reduceIte];unfold setAddByScan;refine Vk ?_;refine Vk (Vm ?_);refine Vk (wpAny_setScan_of G9 ho hd hf dW ?_);cases hr:List.findIdx? (λ e=>(qw prog w).is (.inr x) e.2) es.toList with
 |some j =>
  dsimp only;obtain⟨hj,cD,_⟩:=List.findIdx?_eq_some_iff_getElem.mp hr;obtain⟨y,hy,e⟩:=(qcF hp (.inr x)).mp ⟨es.toList[j],Uw hj,cD⟩;cases e
  exact Vl (Vl (h0 hy))
 |none =>
  dsimp only;have hx:x∉ys:=λ hx=>by
   obtain⟨e,he,q⟩:=(qcF hp (.inr x)).mpr ⟨x,hx,rfl⟩
   have:=List.findIdx?_eq_none_iff.mp hr e he
   rw[q] at this;exact Bool.noConfusion this
  have hgw:∀(b:Bool){s₁:Shared}{Q':Unit->Shared->Prop},Q' () s₁->wpAny (model prog w) A (match b with | true=>rule "set.scan.the-table-gave-way" | false=>pure ()) Q' E s₁:=
   λ b s₁ Q' hq=>by cases b <;> first|exact Vl hq|exact Vm hq
  have S6:=layNew_perm t es ((qw prog w).hash (.inr x)) (.str x t0);have T0:=layNew_fits t es ((qw prog w).hash (.inr x)) (.str x t0);have aW:=qik t es ((qw prog w).hash (.inr x)) (.str x t0);generalize hL:layNew t es ((qw prog w).hash (.inr x)) (.str x t0)=L at S6 T0 aW ⊢;obtain⟨E8,t1,M9,gave⟩:=L;dsimp only at S6 T0 aW ⊢;rw[Z6] at S6;obtain⟨uP,nX,S7⟩:=yO (zD hp (.cons (F:=qbu prog w) (a:=x) (b:=((qw prog w).hash (.inr x),.str x t0)) ⟨rfl,t0,rfl⟩ .nil)) S6;have sV:uP.Nodup:=by
   rw[nX.nodup_iff];exact Z2.mpr ⟨nd,by simp,λ a ha b hb e=>by simp at hb;subst hb;subst e;exact hx ha⟩
  have P6:uP.length<scanBound:=by rw[nX.length_eq,Zj];exact oI
  refine Vk (hgw _ ?_);have pD:∀ h' n6,Heap.SameBut a s.heap h'->n6.Perm uP->qQ prog w h' a n6->Q true { s with heap:=h' }:=λ h' n6 L0 hq T3=>h1 hx h' n6 L0 (hq.trans nX) T3
  split
  ·refine Vk ?_;rw[hashByValue_scannable 8 tI];refine Vl ?_;refine qfe (t2:=_) ?_ ho hex hd S7 sV P6 (SetTable.fits_plain_off T0) (by show t1.led=true∨_;rw[aW.1];exact hl) rfl ?_
   ·intro b s₁ Q' hq;cases b <;> first|exact Vl hq|exact Vm hq
   ·intro h' n6 L0 hq T3;dsimp only;exact Vl (pD h' n6 L0 hq T3)
  ·rename_i hnp;refine Vk (Vl ?_);simp only[↓reduceIte];refine qfe ?_ ho hex hd S7 sV P6 T0 (by rw[aW.1];exact hl) (by simpa using hnp) ?_
   ·intro b s₁ Q' hq;cases b <;> first|exact Vl hq|exact Vm hq
   ·intro h' n6 L0 hq T3;dsimp only;exact Vl (pD h' n6 L0 hq T3)
noncomputable abbrev qI(w:World):Obj:={ cls:=.type "set",dict:=none,data:=.set #[] 0 (.fresh 0 0 (!(w.params.followText "set-order"))) }
theorem jv{h:Heap}{a:Addr}(e:h.get? a=some (qI w)):qQ prog w h a []:=
 ⟨_,#[],0,_,e,⟨rfl,rfl,rfl⟩,rfl,.nil,List.nodup_nil,by decide,rfl,by
  unfold byT;cases w.params.followText "set-order"
  ·exact .inl rfl
  ·exact .inr rfl,.inl rfl⟩
theorem qil(a:Value){Q₁:Value->Shared->Prop}(h:Q₁ (.ref s.heap.objs.size) { s with heap:=s.heap.push (qI w) }):
  codeAny (model prog w) A (.call (.builtin "set.__new__") ⟨[.type "set",a],[]⟩) (wants Q₁ E) s:=by
 refine codeAny_of_tree ?_;show wpAny _ A.in1 (do checkBuiltinCall "set.__new__" ⟨[.type "set",a],[]⟩;again (.builtin "set.__new__" ⟨[.type "set",a],[]⟩)) _ _ s
 refine Vk (Vi (F.newCall_set_1 a) (Vl ⟨Qs F.plain_set_new _,Ju F.entry_set_new ?_⟩));rw[Yo F.plain_set_new _];unfold Builtin.«set.__new__» Builtin.Frozenset.newClass;have xN:=sub_set_self;obtain⟨hp,g,d,tk,os⟩:=s;dsimp only
 wp_walk
 refine U1 (Vl ?_);dsimp only;simp only[newObj];refine Vk (wpAny_alloc (Vl ?_));exact Vl h
set_option maxHeartbeats 3200000 in
theorem vK(a:Value){Q:Value->Shared->Prop}(h:wpAny (model prog w) A.in1.in1 (Builtin.Frozenset.updateFrom "set.__init__" s.heap.objs.size a) (λ _ s2=>s2.TypeIs (.ref s.heap.objs.size) "set"/\Q (.ref s.heap.objs.size) s2) E { s with heap:=s.heap.push (qI w) }):
  wpAny (model prog w) A (call (.type "set") [a]) Q E s:=by
 obtain⟨c,tl,hmro⟩:=F.called_set.mro;have aA3:=F.called_set.made;have xN:=F.called_set.sub;refine wpAny_call (codeAny_of_tree ?_);show wpAny _ _ (callAny (.type "set") _) _ _ _
 refine Vl ⟨Code.quiet_builtin _ (by decide +kernel),Ju F.entry_type_call ?_⟩;rw[Around.under_plain (weight_type_call_type "set" [a] []) rfl];have h1:=F.called_set.notType;have h2:=F.called_set.canCreate;have tQ:=F.typeCall_set_1 a
 repeat (any_goals (first|assumption|wp_step))
 refine Q9 (qil a (E:=E) (Q₁:=λ obj s₁=>obj=.ref s.heap.objs.size/\s₁={ s with heap:=s.heap.push (qI w) }) ⟨rfl,rfl⟩) λ r s₁ hr=>?_
 cases r with
 |error e=>exact hr
 |ok fl =>
  cases fl with
  |ret obj =>
   obtain⟨rfl,rfl⟩:=hr;have hS:(s.heap.push (qI w)).get? s.heap.objs.size=some (qI w):=Yz _ rfl;have hT:Shared.TypeIs { s with heap:=s.heap.push (qI w) } (.ref s.heap.objs.size) "set":=⟨_,hS,rfl⟩;have hli:=F.called_set.init.lookup;have hbi:=F.called_set.init.bind (.ref s.heap.objs.size)
   repeat (any_goals (first|assumption|wp_step))
   refine Q9 (codeAny_call_builtin (R:=wants (λ r s₂=>r=.none/\s₂.TypeIs (.ref s.heap.objs.size) "set"/\Q (.ref s.heap.objs.size) s₂) E) F.called_set.init.plain F.entry_set_init (check_set_init_1 hT ?_)) λ r₂ s₂ hr₂=>?_
   ·unfold Builtin.«set.__init__» noKeywords;generalize hUF:Builtin.Frozenset.updateFrom=UF at h ⊢
    wp_walk
    refine Vj h (λ _ s2 h2=>?_) (λ _ _ x=>x);show wpAny _ _ (ret Value.none) _ _ _
    exact Vl ⟨rfl,h2⟩
   ·cases r₂ with
    |error e=>exact hr₂
    |ok fl₂ =>
     cases fl₂ with
     |ret r =>
      obtain⟨rfl,hT2,hq⟩:=hr₂
      repeat (any_goals (first|assumption|wp_step))
     |_=>exact hr₂.elim
  |_=>exact hr.elim
theorem qjz{x:Value}{T:String}{Q:Bool->Shared->Prop}(hT:s.TypeIs x T)(h1:isSubtype (.type T) (.type "set")=pure false)(h2:isSubtype (.type T) (.type "frozenset")=pure false)(h:Q false s):
  wpAny (model prog w) A (Builtin.Frozenset.isAnySet x) Q E s:=by
 unfold Builtin.Frozenset.isAnySet;refine Vk (U2 hT h1 ?_);show wpAny _ _ (isInstance x (.type "frozenset")) _ _ s
 exact U2 hT h2 h
theorem kQ{x:Value}{Q:Bool->Shared->Prop}(hT:s.TypeIs x "set")(h:Q true s):wpAny (model prog w) A (Builtin.Frozenset.isAnySet x) Q E s:=by
 unfold Builtin.Frozenset.isAnySet;refine Vk (U2 hT sub_set_self ?_);exact Vl h
theorem yT{id:String}{S:Addr}{x:Value}{T:String}{Q:Unit->Shared->Prop}(hT:s.TypeIs x T)(h1:isSubtype (.type T) (.type "set")=pure false)(h2:isSubtype (.type T) (.type "frozenset")=pure false)(h3:(Value.type T == Value.type "dict")=false)(h:wpAny (model prog w) A (pyIter x) (λ it s2=>codeAny (model prog w) A (.builtin "set.update.loop" ⟨[.ref S,it],[]⟩) (λ r s3=>r=.ok (.ret .none)/\Q () s3) s2) E s):
  wpAny (model prog w) A (Builtin.Frozenset.updateFrom id S x) Q E s:=by
 unfold Builtin.Frozenset.updateFrom;refine Vk (qjz hT h1 h2 ?_);simp only[Zo,Vr];refine Vk (Va hT ?_);simp only[h3,Zo,Vr];refine Vk (Vj h (λ it s2 h2=>?_) λ _ _ e=>e);refine Vk (wpAny_runValue (Q9 h2 λ r s3 hr=>?_));obtain⟨rfl,hq⟩:=hr;exact Vl hq
theorem vL{I:Addr}{fp wr:List Addr}{n:Nat}{P:Nat->Value->Prop}{St:Nat->Heap->Prop}{R:Result->Shared->Prop}(W:Walks prog w A.in1 I fp wr n P St)(S:Addr)(hSf:S∉fp)(val:Nat->Str)(xL:∀ i v,P i v->∃ t,v=.str (val i) t)(hb:n+1<scanBound):
  ∀(k i:Nat)(s:Shared)(ys:List Str),n-i=k->i<=n->St i s.heap->qQ prog w s.heap S ys->ys.length<=i->(∀ x,x∈ys ↔ ∃ j,j<i/\val j=x) ->
   (∀ h' tk n6,(∀ b o,b∉S::wr->s.heap.get? b=some o->h'.get? b=some o)->qQ prog w h' S n6->(∀ x,x∈n6 ↔ ∃ j,j<n/\val j=x)->R (.ok (.ret .none)) { s with heap:=h',toks:=tk }) ->
   codeAny (model prog w) A (.builtin "set.update.loop" ⟨[.ref S,.ref I],[]⟩) R s:=by
 have hSw:S∉wr:=λ h=>hSf (W.sub _ h)
 have stay:∀{h h':Heap}{ys:List Str},qQ prog w h S ys->(∀ o,h.get? S=some o->h'.get? S=some o)->qQ prog w h' S ys:=λ hS k=>by
  obtain⟨o,es,ep,t,ho,rest⟩:=hS;exact⟨o,es,ep,t,k o ho,rest⟩
 intro k;induction k with
 |zero =>
  intro i s ys hk hi E2 hS hl hm hR;have aV:i=n:=by omega
  subst aV;refine Ju F.entry_set_update_loop ?_;rw[Yo XD _];show wpAny _ A.in1 (pyNext (.ref I) >>= _) _ _ s
  refine Vk (W.done s _ _ E2 λ h' tk P3=>?_);show wpAny _ A.in1 (ret Value.none) _ _ _
  exact Vl (hR h' tk ys (λ b o hb e=>P3 b o (λ z=>hb (Yl _ z)) e) (stay hS λ o e=>P3 S o hSw e) hm)
 |succ k ih =>
  intro i s ys hk hi E2 hS hl hm hR;have c7:i<n:=by omega
  refine Ju F.entry_set_update_loop ?_;rw[Yo XD _];show wpAny _ A.in1 (pyNext (.ref I) >>= _) _ _ s
  refine Vk (W.item i s _ _ c7 E2 λ v h1 tk hP oB P3=>?_);obtain⟨t,rfl⟩:=xL i v hP;have aH:qQ prog w h1 S ys:=stay hS λ o e=>P3 S o hSw e
  refine Vk (Qq ?_);unfold setAdd;refine Qq ?_;refine Vk ((qw prog w).pyHash (k:=.inr (val i)) (zn _ _ _ _) ?_);have nP:∀ x,(x∈ys∨x=val i) ↔ ∃ j,j<i+1/\val j=x:=λ x=>by
   rw[hm x];constructor
   ·rintro(⟨j,hj,e⟩ | e)
    ·exact⟨j,by omega,e⟩
    ·exact⟨i,by omega,e.symm⟩
   ·rintro⟨j,hj,e⟩;by_cases hji:j=i
    ·subst hji;exact .inr e.symm
    ·exact .inl ⟨j,by omega,e⟩
  refine qff (s:={ s with heap:=h1,toks:=tk+1 }) aH (by omega) (λ hx=>?_) (λ hx h2 ys2 L0 hp eB=>?_)
  ·refine Vl ⟨Qs XD _,ih (i+1) _ ys (by omega) c7 oB aH (by omega) (λ x=>?_) λ h3 uV uO mP hS3 oW=>?_⟩
   ·rw[<- nP x];exact⟨.inl,λ z=>z.elim id λ e=>e ▸ hx⟩
   ·exact hR h3 uV uO (λ b o hb e=>mP b o hb (P3 b o (λ z=>hb (Yl _ z)) e)) hS3 oW
  ·refine Vl ⟨Qs XD _,ih (i+1) _ ys2 (by omega) c7 (W.frame _ _ _ oB λ b hb o e=>?_) eB (by rw[hp.length_eq,Zj];simp;omega) (λ x=>?_) λ h3 uV uO mP hS3 oW=>?_⟩
   ·exact(L0.2 b (λ z=>hSf (z ▸ hb))).trans e
   ·rw[<- nP x,hp.mem_iff,U5,Zq]
   ·refine hR h3 uV uO (λ b o hb e=>mP b o hb ((L0.2 b (λ z=>hb (z ▸ Zf))).trans (P3 b o (λ z=>hb (Yl _ z)) e))) hS3 oW
end
noncomputable def qeq(P:Program)(w:World)(a:Addr)(xs:List Str):HO:=.ext λ h=>∃ ys,ys.Perm xs/\qQ P w h a ys
theorem qhx{P:Program}{w:World}{H:Hp}{h:Heap}{a:Addr}{xs ys:List Str}(hp:ys.Perm xs)(hS:qQ P w h a ys):zG P w H h a (qeq P w a xs):=by
 refine⟨⟨ys,hp,hS⟩,?_,?_⟩
 ·obtain⟨o,_,_,_,e,_⟩:=hS;exact⟨o,e⟩
 ·rintro h1 h2 ⟨zs,hz,o,es,ep,t,e,rest⟩ k;exact⟨zs,hz,o,es,ep,t,k o e,rest⟩
theorem Inv.set{X:Cx}{pins:List (Addr×Obj)}{σ:St}{H:Hp}{s:Shared}{a:Addr}{xs:List Str}(I:Inv X pins σ H s)(h:H a=some (qeq X.prog X.w a xs)):∃ ys,ys.Perm xs/\qQ X.prog X.w s.heap a ys:=
 (I.hok a _ h).1
theorem qQ.typeIs{P:Program}{w:World}{s:Shared}{a:Addr}{ys:List Str}(h:qQ P w s.heap a ys):s.TypeIs (.ref a) "set":=by
 obtain⟨o,es,ep,t,e,hx,_⟩:=h;exact⟨o,e,hx.1⟩
namespace F
theorem sub_tuple_set:isSubtype (.type "tuple") (.type "set")=pure false:=by rw[Qd];kernel_rfl
theorem sub_tuple_frozenset:isSubtype (.type "tuple") (.type "frozenset")=pure false:=by rw[Qd];kernel_rfl
theorem sub_str_set:isSubtype (.type "str") (.type "set")=pure false:=by rw[Qd];kernel_rfl
theorem sub_str_frozenset:isSubtype (.type "str") (.type "frozenset")=pure false:=by rw[Qd];kernel_rfl
end F
section
variable {X:Cx}
def qoF(K:W.Frag)(P:Program)(w:World):List V->Hp->VK->Prop:=λ xs H Q=>∃ ss:List Str,(((∃ p,xs=[.ref p]/\(SqL K H p (ss.map V.str)∨SqT K H p (ss.map V.str)))∨∃ z,xs=[.str z]/\ss=(cs z).map λ c=>qj [c]))/\ss.length+1<scanBound /\
 ∀ l ys,H l=none->ys.Nodup->(∀ x,x∈ys ↔ x∈ss)->Q (.ref l) (upd H l (qeq P w l ys))
theorem qcG(hc:X.calm=true):jh X (.type "set") (qoF X.K X.prog X.w):=by
 intro pins s σ H xs us Q I r h;obtain⟨ss,sJ,hb,q⟩:=h;have hf:H s.heap.objs.size=none:=I.hok.fresh (Vc _);have hh:X.A.in1.in1.in1.handled=none:=by simp[I.ok.hd hc]
 have B1:(s.heap.push (qI X.w)).get? s.heap.objs.size=some (qI X.w):=Yz _ rfl;have fin:∀(h':Heap)(tk:Nat)(n6:List Str),(∀ b o,b<s.heap.objs.size->s.heap.get? b=some o->h'.get? b=some o)->qQ X.prog X.w h' s.heap.objs.size n6->(∀ x,x∈n6 ↔ x∈ss) ->
   Shared.TypeIs { s with heap:=h',toks:=tk } (.ref s.heap.objs.size) "set"/\EP X pins σ Q (.ref s.heap.objs.size) { s with heap:=h',toks:=tk }:=by
  intro h' tk n6 hk hS hm;refine⟨hS.typeIs (s:={ s with heap:=h',toks:=tk }),.ref s.heap.objs.size,_,I.laid (a:=s.heap.objs.size) (o:=qeq X.prog X.w s.heap.objs.size n6) (t':=tk) (λ b o e=>hk b o (Qv e) e) (Vc _) (qhx (J4 _) hS),rfl,q _ n6 hf ?_ hm⟩;obtain⟨_,_,_,_,_,_,_,_,nd,_⟩:=hS;exact nd
 have O6:∀(n6:List Str),(∀ x,x∈n6 ↔ ∃ j,j<ss.length/\ss.getD j default=x)->∀ x,x∈n6 ↔ x∈ss:=λ n6 hm x=>by
  rw[hm x];constructor
  ·rintro⟨j,hj,e⟩;rw[Xm,X1 hj] at e;rw[<- e];exact Uw hj
  ·intro hx;obtain⟨j,hj,e⟩:=Y4 hx;exact⟨j,hj,by rw[Xm,X1 hj];exact e⟩
 have pW:∀{its:List Value},qK (ss.map V.str) its->∀(i:Nat)(v:Value),its.toArray[i]?=some v->∃ t,v=.str (ss.getD i default) t:=λ{its} rv i v hv=>by
  have e:its[i]?=some v:=by simpa using hv
  have hl:=rv.length;rw[U7] at hl;have hi:i<ss.length:=by rw[hl];exact(Xq.mp e).1
  obtain⟨u,hu,ru⟩:=rv.get (i:=i) (x:=.str ss[i]) (by rw[Zw,X1 hi];rfl);rw[e] at hu;cases hu
  obtain⟨t,rfl⟩:=ru;exact⟨t,by rw[Xm,X1 hi];rfl⟩
 rcases sJ with⟨p,rfl,hq⟩|⟨z,rfl,ez⟩
 ·obtain⟨u,rfl,ru⟩:=yd r;cases ru
  rcases hq with hq|hq
  ·obtain⟨its,rv,pl,hz⟩:=I.list hq;have hl:=rv.length;rw[U7] at hl;have gV:p<s.heap.objs.size:=by obtain⟨_,e,_⟩:=pl.isList;exact Qv e
   have S8:(s.heap.push (qI X.w)).IsList p its.toArray:=pl.isList.push _;have sz:(s.heap.push (qI X.w)).objs.size=s.heap.objs.size+1:=Jz _ _;refine vK (.ref p) (yT (s:={ s with heap:=s.heap.push (qI X.w) }) S8.typeIs F.sub_list_set F.sub_list_frozenset (by decide) (Uf S8 ?_));refine vL (Walks.list hh _ p (by rw[sz];exact Qw (Z5 gV)) its.toArray) s.heap.objs.size (by rw[sz];simp;exact Qz gV) (λ i=>ss.getD i default) (pW rv) (by rw[Zy,<- hl];exact hb)
    (its.toArray.size-0) 0 _ [] rfl (Vd _) ⟨⟨_,Yz _ rfl,rfl,rfl⟩,S8.push _⟩ (jv (XI _ B1)) (Vc _) (by simp) λ h' tk n6 hk hS hm=>⟨rfl,?_⟩
   refine fin h' tk n6 (λ b o hb e=>hk b o (by simp[sz];exact⟨Qw hb,Qw (Z5 hb)⟩) (XI _ (XI _ e))) hS (O6 n6 λ x=>?_);rw[hm x,Zy,<- hl]
  ·obtain⟨its,rv,pl,hz⟩:=I.tuple hq;have hl:=rv.length;rw[U7] at hl;have gV:p<s.heap.objs.size:=by obtain⟨_,e,_⟩:=pl;exact Qv e
   have S8:(s.heap.push (qI X.w)).IsTuple p its.toArray:=by
    obtain⟨o,e,rest⟩:=pl;exact⟨o,XI _ e,rest⟩
   have sz:(s.heap.push (qI X.w)).objs.size=s.heap.objs.size+1:=Jz _ _;have hT:Shared.TypeIs { s with heap:=s.heap.push (qI X.w) } (.ref p) "tuple":=by
    obtain⟨o,e,c,rest⟩:=S8;exact⟨o,e,c⟩
   refine vK (.ref p) (yT (s:={ s with heap:=s.heap.push (qI X.w) }) hT F.sub_tuple_set F.sub_tuple_frozenset (by decide) (wpAny_pyIter_tuple S8 ?_));have L7:((s.heap.push (qI X.w)).push { cls:=.type "tuple_iterator",data:=.fields #[.ref p,.int 0 0] }).IsTuple p its.toArray:=by
    obtain⟨o,e,rest⟩:=S8;exact⟨o,XI _ e,rest⟩
   refine vL (Walks.tuple hh _ p (by rw[sz];exact Qw (Z5 gV)) its.toArray) s.heap.objs.size (by rw[sz];simp;exact Qz gV) (λ i=>ss.getD i default) (pW rv) (by rw[Zy,<- hl];exact hb)
    (its.toArray.size-0) 0 _ [] rfl (Vd _) ⟨⟨_,Yz _ rfl,rfl,rfl⟩,L7⟩ (jv (XI _ B1)) (Vc _) (by simp) λ h' tk n6 hk hS hm=>⟨rfl,?_⟩
   refine fin h' tk n6 (λ b o hb e=>hk b o (by simp[sz];exact⟨Qw hb,Qw (Z5 hb)⟩) (XI _ (XI _ e))) hS (O6 n6 λ x=>?_);rw[hm x,Zy,<- hl]
 ·obtain⟨u,rfl,ru⟩:=yd r;obtain⟨t,rfl⟩:=ru;have hl:ss.length=z.cps.size:=by rw[ez,U7];simp
  have sz:(s.heap.push (qI X.w)).objs.size=s.heap.objs.size+1:=Jz _ _;refine vK (.str z t) (yT (s:={ s with heap:=s.heap.push (qI X.w) }) (Vo _ z t) F.sub_str_set F.sub_str_frozenset (by decide) (wpAny_pyIter_str λ o St W E2=>?_));refine vL (W _ hh) s.heap.objs.size (by rw[sz];simp) (λ i=>ss.getD i default) (λ i v hv=>?_) (by rw[<- hl];exact hb)
   (z.cps.size-0) 0 _ [] rfl (Vd _) E2 (jv (XI _ B1)) (Vc _) (by simp) λ h' tk n6 hk hS hm=>⟨rfl,?_⟩
  ·obtain⟨c,u,e,rfl⟩:=hv;refine⟨u,?_⟩;have e':(cs z)[i]?=some c:=by rw[XZ];exact e
   rw[Xm,ez,Zw,e'];rfl
  ·refine fin h' tk n6 (λ b o hb e=>hk b o (by simp[sz];exact⟨Qw hb,Qw (Z5 hb)⟩) (XI _ (XI _ e))) hS (O6 n6 λ x=>?_);rw[hm x,<- hl]
end
noncomputable def qjA(mask i:Nat):Nat:=(i*5+1) % (mask+1)
noncomputable def lit(mask:Nat):Nat->Nat->Nat
 |0,i=>i
 |k+1,i=>lit mask k (qjA mask i)
theorem qb4(mask:Nat):∀ a b i,lit mask (a+b) i=lit mask b (lit mask a i)
 |0,b,i=>by rw[Q5];rfl
 |a+1,b,i=>by rw[Nat.add_right_comm];exact qb4 mask a b (qjA mask i)
def vM(mask:Nat):Prop:=∀ i j,i<=mask->j<=mask->∃ k,k<=mask/\lit mask k i=j
noncomputable def qjB(mask:Nat):Nat->Nat->List Nat
 |0,_=>[]
 |n+1,i=>i::qjB mask n (qjA mask i)
theorem qfg(mask:Nat):∀ n i j,j∈qjB mask n i->∃ k,k<n/\lit mask k i=j
 |0,_,_,h=>by cases h
 |n+1,i,j,h=>by
  rcases Qh.mp h with e|e
  ·exact⟨0,Nat.succ_pos _,e.symm⟩
  ·obtain⟨k,hk,e⟩:=qfg mask n _ _ e;exact⟨k+1,Nat.succ_lt_succ hk,e⟩
theorem qlf{mask:Nat}(h:(List.range (mask+1)).all (λ j=>(qjB mask (mask+1) 0).contains j)=true)(hz:lit mask (mask+1) 0=0):vM mask:=by
 have cov:∀ j,j<=mask->∃ k,k<=mask/\lit mask k 0=j:=λ j hj=>by
  have:=Uv.mp h j (Jx.mpr (by omega))
  obtain⟨k,hk,e⟩:=qfg mask _ _ _ (Ya.mp this);exact⟨k,by omega,e⟩
 intro i j hi hj;obtain⟨a,ha,ea⟩:=cov i hi;obtain⟨b,hb,eb⟩:=cov j hj;by_cases x4:a<=b
 ·refine⟨b-a,by omega,?_⟩;rw[<- ea,<- qb4,show a+(b-a)=b by omega,eb]
 ·refine⟨mask+1-a+b,by omega,?_⟩;rw[<- ea,<- qb4,show a+(mask+1-a+b)=(mask+1)+b by omega,qb4,hz,eb]
theorem qdG:∀(l:List Nat)(c6 j:Nat),(l.foldl (λ a x=>a ||| (1 <<< x)) c6).testBit j=(c6.testBit j || l.contains j)
 | [],c6,j=>by simp
 |x::l,c6,j=>by
  rw[Jd,qdG l,Nat.testBit_or,Nat.one_shiftLeft,Nat.testBit_two_pow,List.contains_cons,Bool.or_assoc];congr 1
  congr 1
  by_cases h:x=j
  ·subst h;simp
  ·rw[Jq h];exact(Zc.mpr (Vx h)).symm
theorem y6{mask:Nat}(h:(qjB mask (mask+1) 0).foldl (λ a x=>a ||| (1 <<< x)) 0=2^(mask+1)-1)(hz:lit mask (mask+1) 0=0):vM mask:=by
 refine qlf (Uv.mpr λ j hj=>?_) hz;have hj:=Jx.mp hj;have e:=qdG (qjB mask (mask+1) 0) 0 j;rw[h,Nat.testBit_two_pow_sub_one,Qc hj,Nat.zero_testBit,Qk] at e;exact e.symm
theorem ql1:vM 7:=y6 (by decide +kernel) (by decide +kernel)
theorem qmC:vM 15:=y6 (by decide +kernel) (by decide +kernel)
theorem qmD:vM 31:=y6 (by decide +kernel) (by decide +kernel)
theorem qmE:vM 63:=y6 (by decide +kernel) (by decide +kernel)
theorem qlg:vM 127:=y6 (by decide +kernel) (by decide +kernel)
theorem qlh:vM 255:=y6 (by decide +kernel) (by decide +kernel)
theorem qli:vM 511:=y6 (by decide +kernel) (by decide +kernel)
theorem qjC:vM 1023:=y6 (by decide +kernel) (by decide +kernel)
theorem qjD:vM 2047:=y6 (by decide +kernel) (by decide +kernel)
theorem qaT{α β:Type}{f g:α->Option β}:∀{l:List α},(∀ x∈l,f x=g x)->l.filterMap f=l.filterMap g
 | [],_=>rfl
 |a::l,h=>by
  rw[Yx,Yx,h a Zf,qaT λ x hx=>h x (Yl _ hx)]
noncomputable def pos(mask:Nat):Nat->Nat->Nat->Nat
 |0,i,_=>i
 |t+1,i,p=>pos mask t (SetTable.leap mask i p).1 (SetTable.leap mask i p).2
theorem qdH{mask:Nat}{owner:Array (Option Nat)}:∀(fuel i p:Nat),SetTable.layClean.free mask owner fuel i p=none->∀ t,t<fuel->(owner.getD (pos mask t i p) (some 0)).isNone=false
 |0,_,_,_,t,ht=>absurd ht (Nat.not_lt_zero _)
 |fuel+1,i,p,h,t,ht=>by
  unfold SetTable.layClean.free at h;cases e:(List.range (SetTable.runEnd mask i+1-i)).find? λ k=>(owner.getD (i+k) (some 0)).isNone with
  |some k=>rw[e] at h;cases h
  |none =>
   rw[e] at h;cases t with
   |zero =>
    have hr:i<=SetTable.runEnd mask i:=by unfold SetTable.runEnd;split <;> omega
    have:=List.find?_eq_none.mp e 0 (Jx.mpr (by omega))
    rw[Nat.add_zero] at this;show(owner.getD i (some 0)).isNone=false
    exact Z7.mpr this
   |succ t=>exact qdH fuel _ _ h t (by omega)
theorem qdI{mask:Nat}{owner:Array (Option Nat)}:∀(fuel i p j:Nat),SetTable.layClean.free mask owner fuel i p=some j->owner.getD j (some 0)=none
 |0,_,_,_,h=>by unfold SetTable.layClean.free at h;cases h
 |fuel+1,i,p,j,h=>by
  unfold SetTable.layClean.free at h;cases e:(List.range (SetTable.runEnd mask i+1-i)).find? λ k=>(owner.getD (i+k) (some 0)).isNone with
  |some k =>
   rw[e] at h;cases h
   have:=List.find?_some e
   simpa using this
  |none=>rw[e] at h;exact qdI fuel _ _ _ h
theorem j5(mask:Nat):∀(a b i p:Nat),∃ i',pos mask (a+b) i p=pos mask b i' (p / 32^a)/\(i<=mask->i'<=mask)
 |0,b,i,p=>⟨i,by simp,id⟩
 |a+1,b,i,p=>by
  obtain⟨i',e,h⟩:=j5 mask a b (SetTable.leap mask i p).1 (SetTable.leap mask i p).2;refine⟨i',?_,λ _=>h ?_⟩
  ·rw[show a+1+b=(a+b)+1 by omega];show pos mask (a+b) _ _=_
   rw[e]
   have:(SetTable.leap mask i p).2 / 32^a=p / 32^(a+1):=by
    show p / 32 / 32^a=_
    rw[XQ,Q2,Q1]
   rw[this]
  ·show(_ % _)<=_
   exact Nat.le_of_lt_succ (Nat.mod_lt _ (Nat.succ_pos _))
theorem qcH(mask:Nat):∀(t i:Nat),pos mask t i 0=lit mask t i
 |0,_=>rfl
 |t+1,i=>by
  show pos mask t ((i*5+1+0 / 32) % (mask+1)) (0 / 32)=lit mask t ((i*5+1) % (mask+1))
  rw[Nat.zero_div,Nat.add_zero];exact qcH mask t _
theorem qlj{mask:Nat}(g:vM mask){owner:Array (Option Nat)}{i p j0:Nat}(hi:i<=mask)(hp:p<2^64)(hj:j0<=mask)(h0:owner.getD j0 (some 0)=none):
  ∃ j,SetTable.layClean.free mask owner (SetTable.turns mask) i p=some j:=by
 cases e:SetTable.layClean.free mask owner (SetTable.turns mask) i p with
 |some j=>exact⟨j,rfl⟩
 |none =>
  exfalso
  obtain⟨i',_,pB⟩:=j5 mask 13 0 i p;have hz:p / 32^13=0:=Nat.div_eq_of_lt (Ze hp (by decide));obtain⟨i',ei,pB⟩:=j5 mask 13 0 i p;obtain⟨k,hk,ek⟩:=g i' j0 (pB hi) hj;obtain⟨i2,e2,h2⟩:=j5 mask 13 k i p;obtain⟨k2,aT,ek2⟩:=g i2 j0 (h2 hi) hj;have same:∀ b,∃ i',pos mask (13+b) i p=lit mask b i'/\i'=pos mask 13 i p:=λ b=>by
   obtain⟨i3,e3,_⟩:=j5 mask 13 b i p;obtain⟨i4,e4,_⟩:=j5 mask 13 0 i p;rw[hz,qcH] at e3 e4;exact⟨pos mask 13 i p,by
    have gen:∀(a b i p:Nat),pos mask (a+b) i p=pos mask b (pos mask a i p) (p / 32^a):=by
     intro a;induction a with
     |zero=>intro b i p;simp[pos]
     |succ a ih =>
      intro b i p;rw[show a+1+b=(a+b)+1 by omega];show pos mask (a+b) _ _=pos mask b (pos mask a _ _) _
      rw[ih]
      have:(SetTable.leap mask i p).2 / 32^a=p / 32^(a+1):=by
       show p / 32 / 32^a=_
       rw[XQ,Q2,Q1]
      rw[this]
    rw[gen 13 b i p,hz,qcH],rfl⟩
  have D4:pos mask 13 i p<=mask:=by
   obtain⟨i4,e4,h4⟩:=j5 mask 13 0 i p;rw[show 13+0=13 from rfl,hz] at e4;rw[e4];exact h4 hi
  obtain⟨k,hk,ek⟩:=g _ j0 D4 hj;obtain⟨i5,e5,e6⟩:=same k
  have:=qdH _ _ _ e (13+k) (by unfold SetTable.turns;omega)
  rw[e5,e6,ek,h0] at this;cases this
noncomputable def ow(owner:Array (Option Nat))(mask:Nat):List Nat:=(List.range (mask+1)).filterMap λ j=>owner.getD j none
theorem qac{f f':Nat->Option Nat}{j v:Nat}(h1:f j=none)(h2:f' j=some v)(h3:∀ i,i≠j->f' i=f i):∀{l:List Nat},l.Nodup->j∈l->(l.filterMap f').Perm (v::l.filterMap f)
 | [],_,h=>by cases h
 |a::l,nd,h=>by
  have A8:=U9.mp nd;by_cases ha:a=j
  ·subst ha;rw[X2 h2,X3 h1]
   have:l.filterMap f'=l.filterMap f:=qaT λ x hx=>h3 x λ e=>A8.1 (e ▸ hx)
   rw[this]
  ·have hm:j∈l:=by
    rcases Qh.mp h with e|e
    ·exact absurd e.symm ha
    ·exact e
   have ih:=qac h1 h2 h3 A8.2 hm;cases e:f a with
   |none=>rw[X3 e,X3 ((h3 a ha).trans e)];exact ih
   |some b=>rw[X2 e,X2 ((h3 a ha).trans e)];exact(ih.cons b).trans (List.Perm.swap _ _ _)
theorem qer{owner:Array (Option Nat)}{j:Nat}(h:owner.getD j (some 0)=none):j<owner.size/\owner.getD j none=none:=by
 rw[Xi] at h ⊢;cases e:owner[j]? with
 |none=>rw[e] at h;cases h
 |some o =>
  rw[e] at h;exact⟨(Array.getElem?_eq_some_iff.mp e).1,h⟩
theorem qgw{owner:Array (Option Nat)}{mask:Nat}(hs:owner.size=mask+1)(h:(ow owner mask).length<=mask):∃ j,j<=mask/\owner.getD j (some 0)=none:=by
 by_cases hall:∃ j,j<=mask/\owner.getD j (some 0)=none
 ·exact hall
 ·exfalso
  have all:∀ j∈List.range (mask+1),∃ v,owner.getD j none=some v:=λ j hj=>by
   have hj:=Jx.mp hj
   have:owner.getD j (some 0)≠none:=λ e=>hall ⟨j,by omega,e⟩
   rw[Xi] at this ⊢;cases e:owner[j]? with
   |none=>have:=Array.getElem?_eq_none_iff.mp e;omega
   |some o =>
    rw[e] at this;cases o with
    |none=>exact absurd rfl this
    |some v=>exact⟨v,rfl⟩
  have len:∀ l:List Nat,(∀ j∈l,∃ v,owner.getD j none=some v)->(l.filterMap λ j=>owner.getD j none).length=l.length:=by
   intro l;induction l with
   |nil=>intro _;rfl
   |cons a l ih =>
    intro h;obtain⟨v,hv⟩:=h a Zf;have e1:(List.filterMap (λ j=>owner.getD j none) (a::l))=v::List.filterMap (λ j=>owner.getD j none) l:=by
     rw[Yx];rw[hv]
    rw[e1,Uo,Uo,ih λ j hj=>h j (Yl _ hj)]
  have:=len _ all
  rw[Z8] at this;unfold ow at h;omega
theorem qlk(h:Int):SetTable.bits h<2^64:=by
 unfold SetTable.bits;have h1:0<=h % (2^64:Int):=Jh _ (by decide);have h2:h % (2^64:Int)<2^64:=Zr _ (by decide);omega
noncomputable def qll(mask:Nat)(c6:Option (Array (Option Nat)×Nat))(h:Int):Option (Array (Option Nat)×Nat):=do
  let (owner,k) <- c6
  let j <- SetTable.layClean.free mask owner (SetTable.turns mask) (SetTable.bits h % (mask+1)) (SetTable.bits h)
  pure (owner.setIfInBounds j (some k),k+1)
theorem qfh{mask:Nat}(g:vM mask):∀(hs:List Int)(owner:Array (Option Nat))(k:Nat),owner.size=mask+1->(ow owner mask).Perm (List.range k)->k+hs.length<=mask ->
  ∃ o',hs.foldl (qll mask) (some (owner,k))=some (o',k+hs.length)/\o'.size=mask+1/\(ow o' mask).Perm (List.range (k+hs.length))
 | [],owner,k,hs,hp,_=>⟨owner,rfl,hs,hp⟩
 |h::hs,owner,k,hsz,hp,hk=>by
  rw[Uo] at hk;obtain⟨j0,hj0,e0⟩:=qgw hsz (by rw[hp.length_eq,Z8];omega);obtain⟨j,ej⟩:=qlj g (owner:=owner) (i:=SetTable.bits h % (mask+1)) (p:=SetTable.bits h) (Nat.le_of_lt_succ (Nat.mod_lt _ (Nat.succ_pos _))) (qlk h) hj0 e0;obtain⟨hjs,hjn⟩:=qer (qdI _ _ _ _ ej);have step:qll mask (some (owner,k)) h=some (owner.setIfInBounds j (some k),k+1):=by
   unfold qll;show(SetTable.layClean.free mask owner (SetTable.turns mask) (SetTable.bits h % (mask+1)) (SetTable.bits h) >>= _)=_
   rw[ej];rfl
  have D7:(ow (owner.setIfInBounds j (some k)) mask).Perm (List.range (k+1)):=by
   have:=qac (f:=λ j=>owner.getD j none) (f':=λ i=>(owner.setIfInBounds j (some k)).getD i none) (j:=j) (v:=k) hjn
    (by show(owner.setIfInBounds j (some k)).getD j none=_;rw[Xi,Array.getElem?_setIfInBounds_self_of_lt hjs];rfl)
    (λ i hi=>by show(owner.setIfInBounds j (some k)).getD i none=_;rw[Xi,Array.getElem?_setIfInBounds_ne (Vx hi),<- Xi])
    (l:=List.range (mask+1)) List.nodup_range (Jx.mpr (by omega))
   refine this.trans ?_;rw[show List.range (k+1)=List.range k++[k] from Ji];exact(List.Perm.cons k hp).trans (List.perm_append_comm (l₁:=[k]) (l₂:=List.range k))
  obtain⟨o',e,h1,h2⟩:=qfh g hs (owner.setIfInBounds j (some k)) (k+1) (by rw[Array.size_setIfInBounds];exact hsz) D7 (by omega);refine⟨o',?_,h1,?_⟩
  ·rw[Jd,step,e,Uo];congr 2;omega
  ·rw[Uo,show k+(hs.length+1)=k+1+hs.length by omega];exact h2
theorem qfi{mask:Nat}(g:vM mask)(hs:Array Int)(hk:hs.size<=mask):∃ o',SetTable.layClean mask hs=some o'/\o'.size=mask+1/\(ow o' mask).Perm (List.range hs.size):=by
 have h0:(ow (Array.replicate (mask+1) none) mask).Perm (List.range 0):=by
  have:ow (Array.replicate (mask+1) none) mask=[]:=by
   unfold ow;rw[List.filterMap_eq_nil_iff];intro j hj;rw[Xi,Array.getElem?_replicate];split <;> rfl
  rw[this];exact J4 _
 obtain⟨o',e,h1,h2⟩:=qfh g hs.toList (Array.replicate (mask+1) none) 0 (by simp) h0 (by simpa using hk);refine⟨o',?_,h1,by simpa using h2⟩;unfold SetTable.layClean;rw[<- Array.foldl_toList]
 have:(List.foldl (qll mask) (some (Array.replicate (mask+1) none,0)) hs.toList).map (·.1)=some o':=by rw[e];rfl
 exact this
theorem qhy{mask:Nat}(g:vM mask)(finger moves:Nat)(led plain:Bool)(hs:Array Int)(hk:hs.size<=mask):
  ∃ t o7,SetTable.laid mask finger moves led plain hs=some (t,o7)/\t.fits hs.size=true/\t.led=led/\t.plain=plain/\t.mask=mask/\t.dummies=#[]/\t.place.size=hs.size/\o7.toList.Perm (List.range hs.size):=by
 obtain⟨o',e,h1,h2⟩:=qfi g hs hk;have c5:((List.range (mask+1)).filterMap λ j=>(o'.getD j none).map (j,·)).length=hs.size:=by
  rw[<- U7 (f:=(·.2)),List.map_filterMap]
  have:(List.range (mask+1)).filterMap (λ x=>Option.map (λ x=>x.2) ((o'.getD x none).map (x,·)))=ow o' mask:=by
   unfold ow;refine qaT λ j _=>?_
   cases o'.getD j none with
   |none=>rfl
   |some v=>rfl
  rw[this,h2.length_eq,Z8]
 refine⟨_,_,by unfold SetTable.laid;rw[e];rfl,?_,rfl,rfl,rfl,rfl,?_,?_⟩
 ·unfold SetTable.fits SetTable.fill;rw[Zy,U7,c5];simpa using hk
 ·dsimp only;rw[Zy,U7,c5]
 ·show(((List.range (mask+1)).filterMap λ j=>(o'.getD j none).map (j,·)).map (·.2)).Perm _
  rw[List.map_filterMap]
  have:(List.range (mask+1)).filterMap (λ x=>Option.map (λ x=>x.2) ((o'.getD x none).map (x,·)))=ow o' mask:=by
   unfold ow;refine qaT λ j _=>?_
   cases o'.getD j none with
   |none=>rfl
   |some v=>rfl
  rw[this];exact h2
theorem qgx{α:Type}(es:Array α){o7:List Nat}(hp:o7.Perm (List.range es.size)):(o7.filterMap (es[·]?)).Perm es.toList:=by
 refine(hp.filterMap _).trans ?_
 have:∀(l:List α),(List.range l.length).filterMap (λ i=>l[i]?)=l:=by
  intro l;induction l with
  |nil=>rfl
  |cons a l ih =>
   have e:(List.filterMap (λ i=>(a::l)[i]?) (0::List.map Nat.succ (List.range l.length)))=a::List.filterMap (λ i=>(a::l)[i]?) (List.map Nat.succ (List.range l.length)):=by
    rw[Yx];rfl
   rw[Uo,List.range_succ_eq_map,e,Zk];exact congrArg (a::·) ih
 have h:=this es.toList;rw[Yy] at h;have e:(λ i=>es.toList[i]?)=λ i=>es[i]?:=funext λ i=>XZ
 rw[e] at h;rw[h]
namespace F
theorem slot_set_iterator_next:Slot "set_iterator" "__next__" "set_iterator.__next__":=
 .of (owner:="set_iterator") (n:="__next__") (by rw[Jv,Yk];kernel_rfl) (by decide +kernel) (by decide +kernel) (by decide +kernel)
  (by first|exact .inl (by decide +kernel)|exact .inr (by decide +kernel)) (by rw[Qd];kernel_rfl)
theorem entry_set_iterator_next:entryFor table "set_iterator.__next__"=some Builtin.«set_iterator.__next__»:=entryFor_of_fast (by kernel_rfl)
theorem args_set_iterator_next_1(a:Value):argsOk "set_iterator.__next__" ⟨[a],[]⟩:=by unfold argsOk;kernel_rfl
theorem slot_set_iterator_iter:Slot "set_iterator" "__iter__" "set_iterator.__iter__":=
 .of (owner:="set_iterator") (n:="__iter__") (by rw[Jv,Yk];kernel_rfl) (by decide +kernel) (by decide +kernel) (by decide +kernel)
  (by first|exact .inl (by decide +kernel)|exact .inr (by decide +kernel)) (by rw[Qd];kernel_rfl)
theorem entry_set_iterator_iter:entryFor table "set_iterator.__iter__"=some Builtin.«dict_keyiterator.__iter__»:=
 Qe (id':="dict_keyiterator.__iter__") (by kernel_rfl) rfl (by decide +kernel) (by kernel_rfl)
theorem args_set_iterator_iter_1(a:Value):argsOk "set_iterator.__iter__" ⟨[a],[]⟩:=by unfold argsOk;kernel_rfl
theorem entry_set_iter:entryFor table "set.__iter__"=some Builtin.«frozenset.__iter__»:=
 Qe (id':="frozenset.__iter__") (by kernel_rfl) rfl (by decide +kernel) (by kernel_rfl)
theorem args_set_iter_1(a:Value):argsOk "set.__iter__" ⟨[a],[]⟩:=by unfold argsOk;kernel_rfl
theorem entry_set_xor:entryFor table "set.__xor__"=some Builtin.«frozenset.__xor__»:=
 Qe (id':="frozenset.__xor__") (by kernel_rfl) rfl (by decide +kernel) (by kernel_rfl)
end F
theorem qaU{α:Type}(next:Nat->Nat):∀(fuel k:Nat)(left:List α)(out:Array α),fuel=left.length->(pickOrder.go next fuel k left out).toList.Perm (out.toList++left)
 |0,k,left,out,h=>by
  have:left=[]:=Xf h.symm
  subst this;unfold pickOrder.go;rw[U8]
 |fuel+1,k,left,out,h=>by
  unfold pickOrder.go;have c7:next k % left.length<left.length:=Nat.mod_lt _ (by omega);rw[X1 c7];dsimp only;refine(qaU next fuel (k+1) _ _ (by rw[Xn c7];omega)).trans ?_;rw[Z6,Z1];exact List.Perm.append_left _ (qan left _ c7)
theorem qdJ{α:Type}(next:Nat->Nat)(xs:Array α):(pickOrder next xs).toList.Perm xs.toList:=by
 unfold pickOrder
 have:=qaU next xs.size 0 xs.toList #[] (by simp)
 simpa using this
section
variable {prog:Program}{w:World}{A:Around}{E:Value->Shared->Prop}{s:Shared}
theorem qim{a:Addr}{o:Obj}{es:Array (Int×Value)}{ep:Nat}{t:SetTable}{Q:Array (Int×Value)->Shared->Prop}(ho:s.heap.get? a=some o)(hd:o.data=.set es ep t)(hf:t.fits es.size=true)(hl:t.led=true∨byT w)(h:∀ r9 d,r9.toList.Perm es.toList->Q r9 { s with drawn:=d }):wpAny (model prog w) A (setWalk a) Q E s:=by
 have h0:∀ r9,r9.toList.Perm es.toList->Q r9 s:=λ r9 hp=>by
  have:=h r9 s.drawn hp
  cases s;exact this
 unfold setWalk;refine Vk (Uj ho hd hf ?_);dsimp only;unfold setsByText;refine Vk (Vk (U1 (Vl ?_)));dsimp only;refine Jw (λ hb=>?_) (λ hb=>?_)
 ·refine Vk (U1 (Vl ?_));exact h0 _ (qdJ _ _)
 ·refine Jw (λ pI=>?_) (λ pI=>?_)
  ·refine Vk (yS es.size es.toList _ _ (by simp) λ ys d hp=>Vl ?_);exact h _ d (by simpa using hp)
  ·refine Vk ?_;have V7:t.led=true:=hl.resolve_right hb;show wpAny _ _ (if (!t.led && decide (es.size > 1))=true then _ else _) _ _ s
   rw[V7];simp only[Qn,Jy,Zo,Vr];exact Vl (Vl (h0 _ (J4 _)))
noncomputable abbrev itO(first:Value)(i:Nat)(S:Addr)(n ep:Nat):Obj:={ cls:=.type "set_iterator",data:=.fields #[first,.int i 0,.ref S,.int n 0,.int ep 0] }
theorem qfj{I S:Addr}{sl i n ep nx:Nat}{x:Value}{o:Obj}{es:Array (Int×Value)}{t:SetTable}{Q:Option Value->Shared->Prop}(o0:s.heap.get? I=some (itO (.int sl 0) i S n ep))(ho:s.heap.get? S=some o)(hd:o.data=.set es ep t)(hf:t.fits es.size=true)(hn:es.size=n)(hN:∀(Q:Option (Value×Nat)->Shared->Prop)(E:Value->Shared->Prop),Q (some (x,nx)) s->wpAny (model prog w) A.in1 (setNext S sl i ep) Q E s)(hQ:∀ h',h'.get? I=some (itO (.int nx 0) (i+1) S n ep)->Heap.SameBut I s.heap h'->Q (some x) { s with heap:=h' }):wpAny (model prog w) A (pyNext (.ref I)) Q E s:=by
 have hT:s.TypeIs (.ref I) "set_iterator":=⟨_,o0,rfl⟩;unfold pyNext;refine Vk (Qt (XH (name:=Str.ofString "__next__") hT F.slot_set_iterator_next
  (U0 F.slot_set_iterator_next hT F.entry_set_iterator_next ?_ (F.args_set_iterator_next_1 _))))
 unfold Builtin.«set_iterator.__next__»;show wpAny _ _ (fieldsOf (.ref I) >>= _) _ _ s
 refine Vk (Qf o0 rfl ?_);show wpAny _ _ (setEntries S >>= _) _ _ s
 refine Vk (Zd ho hd hf ?_);rw[hn];simp only[Uk,Zo,Vr];show wpAny _ _ (setNext S (sl:Int).toNat (i:Int).toNat (ep:Int).toNat >>= _) _ _ s
 simp only[Zz];refine Vk (hN _ _ ?_);dsimp only;refine Vk (Zv o0 (by simp) λ h1 L8 S4=>?_);refine Vk (Zv L8 (by simp) λ h2 hit2 t5=>?_);refine Vl ⟨x,rfl,Vl (hQ h2 ?_ (S4.trans t5))⟩;rw[hit2];rfl
theorem qfk{I S:Addr}{sl i n ep:Nat}{o:Obj}{es:Array (Int×Value)}{t:SetTable}{Q:Option Value->Shared->Prop}(hh:A.handled=none)(o0:s.heap.get? I=some (itO (.int sl 0) i S n ep))(ho:s.heap.get? S=some o)(hd:o.data=.set es ep t)(hf:t.fits es.size=true)(hn:es.size=n)(hN:∀(Q:Option (Value×Nat)->Shared->Prop)(E:Value->Shared->Prop),Q none s->wpAny (model prog w) A.in1 (setNext S sl i ep) Q E s)(hQ:∀ h',Heap.ExtBut I s.heap h'->Q none { s with heap:=h' }):wpAny (model prog w) A (pyNext (.ref I)) Q E s:=by
 have hT:s.TypeIs (.ref I) "set_iterator":=⟨_,o0,rfl⟩;unfold pyNext;refine Vk (Qt (XH (name:=Str.ofString "__next__") hT F.slot_set_iterator_next
  (U0 F.slot_set_iterator_next hT F.entry_set_iterator_next ?_ (F.args_set_iterator_next_1 _))))
 unfold Builtin.«set_iterator.__next__»;show wpAny _ _ (fieldsOf (.ref I) >>= _) _ _ s
 refine Vk (Qf o0 rfl ?_);show wpAny _ _ (setEntries S >>= _) _ _ s
 refine Vk (Zd ho hd hf ?_);rw[hn];simp only[Uk,Zo,Vr];show wpAny _ _ (setNext S (sl:Int).toNat (i:Int).toNat (ep:Int).toNat >>= _) _ _ s
 simp only[Zz];refine Vk (hN _ _ ?_);dsimp only;refine Vk (wpAny_setField o0 rfl (by simp) ?_);show wpAny _ _ (newExc (.type "StopIteration") [] >>= _) _ _ _
 refine Vk ?_;simp only[newExc,newTuple];refine Vk (Ue ?_ (by size_fits));refine Vk (m:=firstArgMember _ _) (Vi (a:=Value.none) (by first|rfl|(simp only[firstArgMember];rfl)) ?_);refine Ue ?_ (by size_fits);simp only[raiseNew];refine Vk (wpAny_handled ?_)
 first|rw[show A.in1.handled=none from hh]|rw[hh]
 refine Vk (Vl (wpAny_throw ?_));refine Vk (U2 (T:="StopIteration") (b:=true) ⟨_,Yz _ rfl,rfl⟩ isSubtype_stop ?_);exact Vl (hQ _ (((Y5 ..).extBut.push _).push _))
theorem qjE{I S T:Addr}{i n ep k:Nat}{pl:Array Value}{x:Value}{hx:Int}{o:Obj}{es:Array (Int×Value)}{t:SetTable}{Q:Option Value->Shared->Prop}(o0:s.heap.get? I=some (itO (.ref T) i S n ep))(hp:s.heap.IsTuple T pl)(ho:s.heap.get? S=some o)(hd:o.data=.set es ep t)(hf:t.fits es.size=true)(hn:es.size=n)(hk:pl[i]?=some (.int k 0))(hx:es[k]?=some (hx,x))(hQ:∀ h',h'.get? I=some (itO (.ref T) (i+1) S n ep)->Heap.SameBut I s.heap h'->Q (some x) { s with heap:=h' }):wpAny (model prog w) A (pyNext (.ref I)) Q E s:=by
 have hT:s.TypeIs (.ref I) "set_iterator":=⟨_,o0,rfl⟩;obtain⟨ot,fM,_,nt,iO⟩:=hp;unfold pyNext;refine Vk (Qt (XH (name:=Str.ofString "__next__") hT F.slot_set_iterator_next
  (U0 F.slot_set_iterator_next hT F.entry_set_iterator_next ?_ (F.args_set_iterator_next_1 _))))
 unfold Builtin.«set_iterator.__next__»;show wpAny _ _ (fieldsOf (.ref I) >>= _) _ _ s
 refine Vk (Qf o0 rfl ?_);show wpAny _ _ (setEntries S >>= _) _ _ s
 refine Vk (Zd ho hd hf ?_);rw[hn];simp only[Uk,Zo,Vr];show wpAny _ _ (seqItems? (.ref T) >>= _) _ _ s
 refine Vk (wpAny_seqItems fM iO ?_);simp only[Zz,hk];show wpAny _ _ (setNextDrawn S (k:Int).toNat (ep:Int).toNat >>= _) _ _ s
 simp only[Zz];unfold setNextDrawn;refine Vk (Vk (Uj ho hd hf ?_));simp only[Uk,Zo,Vr,hx];refine Vl ?_;refine Vk (Zv o0 (by simp) λ h1 L8 S4=>?_);refine Vl ⟨x,rfl,Vl (hQ h1 ?_ S4)⟩;rw[L8];rfl
theorem qjF{I S T:Addr}{i n ep:Nat}{pl:Array Value}{o:Obj}{es:Array (Int×Value)}{t:SetTable}{Q:Option Value->Shared->Prop}(hh:A.handled=none)(o0:s.heap.get? I=some (itO (.ref T) i S n ep))(hp:s.heap.IsTuple T pl)(ho:s.heap.get? S=some o)(hd:o.data=.set es ep t)(hf:t.fits es.size=true)(hn:es.size=n)(hk:pl[i]?=none)(hQ:∀ h',Heap.ExtBut I s.heap h'->Q none { s with heap:=h' }):wpAny (model prog w) A (pyNext (.ref I)) Q E s:=by
 have hT:s.TypeIs (.ref I) "set_iterator":=⟨_,o0,rfl⟩;obtain⟨ot,fM,_,nt,iO⟩:=hp;unfold pyNext;refine Vk (Qt (XH (name:=Str.ofString "__next__") hT F.slot_set_iterator_next
  (U0 F.slot_set_iterator_next hT F.entry_set_iterator_next ?_ (F.args_set_iterator_next_1 _))))
 unfold Builtin.«set_iterator.__next__»;show wpAny _ _ (fieldsOf (.ref I) >>= _) _ _ s
 refine Vk (Qf o0 rfl ?_);show wpAny _ _ (setEntries S >>= _) _ _ s
 refine Vk (Zd ho hd hf ?_);rw[hn];simp only[Uk,Zo,Vr];show wpAny _ _ (seqItems? (.ref T) >>= _) _ _ s
 refine Vk (wpAny_seqItems fM iO ?_);simp only[Zz,hk];refine Vk (Zv o0 (by simp) λ h1 L8 S4=>?_);refine Vk (wpAny_setField L8 rfl (by simp) ?_);show wpAny _ _ (newExc (.type "StopIteration") [] >>= _) _ _ _
 refine Vk ?_;simp only[newExc,newTuple];refine Vk (Ue ?_ (by size_fits));refine Vk (m:=firstArgMember _ _) (Vi (a:=Value.none) (by first|rfl|(simp only[firstArgMember];rfl)) ?_);refine Ue ?_ (by size_fits);simp only[raiseNew];refine Vk (wpAny_handled ?_)
 first|rw[show A.in1.handled=none from hh]|rw[hh]
 refine Vk (Vl (wpAny_throw ?_));refine Vk (U2 (T:="StopIteration") (b:=true) ⟨_,Yz _ rfl,rfl⟩ isSubtype_stop ?_);exact Vl (hQ _ ((((S4.trans (Y5 ..))).extBut.push _).push _))
theorem qes{I S:Addr}{i n ep:Nat}{first:Value}{Q:Value->Shared->Prop}(o0:s.heap.get? I=some (itO first i S n ep))(h:Q (.ref I) s):wpAny (model prog w) A (pyIter (.ref I)) Q E s:=by
 have hT:s.TypeIs (.ref I) "set_iterator":=⟨_,o0,rfl⟩;refine wpAny_pyIter_slot hT F.slot_set_iterator_iter (U0 F.slot_set_iterator_iter hT F.entry_set_iterator_iter ?_ (F.args_set_iterator_iter_1 _));show wpAny _ _ (ret (.ref I)) _ _ s
 exact Vl ⟨_,rfl,"set_iterator",_,hT,F.slot_set_iterator_next.lookup,h⟩
theorem qao{α β:Type}{F:α->β->Prop}:∀{xs:List α}{l:List β},Paired F xs l->∀(k:Nat)(b:β),l[k]?=some b->∃ a,xs[k]?=some a/\F a b
 |_,_,.nil,k,b,h=>by simp at h
 |_,_,.cons r t,0,b,h=>by simp at h;subst h;exact⟨_,rfl,r⟩
 |_,_,.cons r t,k+1,b,h=>by
  obtain⟨a,h1,h2⟩:=qao t k b (by simpa using h);exact⟨a,by simpa using h1,h2⟩
theorem jw{α β:Type}{F:α->β->Prop}:∀{xs:List α}{l:List β},Paired F xs l->∀(k:Nat)(a:α),xs[k]?=some a->∃ b,l[k]?=some b/\F a b
 |_,_,.nil,k,b,h=>by simp at h
 |_,_,.cons r t,0,b,h=>by simp at h;subst h;exact⟨_,rfl,r⟩
 |_,_,.cons r t,k+1,b,h=>by
  obtain⟨a,h1,h2⟩:=jw t k b (by simpa using h);exact⟨a,by simpa using h1,h2⟩
abbrev qcI(zs:List Str)(i:Nat)(v:Value):Prop:=∃ t,v=.str (zs.getD i default) t
theorem qdK{α:Type}[Inhabited α]{l:List α}{i:Nat}{x:α}(h:l[i]?=some x):l.getD i default=x:=by rw[Xm,h];rfl
theorem qcJ{ys:List Str}{p:List Nat}(hp:p.Perm (List.range ys.length)):(p.map λ k=>ys.getD k default).Perm ys:=by
 refine(hp.map _).trans ?_
 have:∀(l:List Str),(List.range l.length).map (λ k=>l.getD k default)=l:=by
  intro l;refine List.ext_getElem (by simp) λ i h1 h2=>?_
  simp at h1;simp[h1]
 rw[this]
theorem Walks.setDrawn(hh:A.handled=none){I S T:Addr}(hIT:T≠I)(pQ:S≠I){ys:List Str}{p:List Nat}(hp:p.Perm (List.range ys.length)){o:Obj}{es:Array (Int×Value)}{ep:Nat}{t:SetTable}(hd:o.data=.set es ep t)(hf:t.fits es.size=true)(P0:Paired (qbu prog w) ys es.toList):
  Walks prog w A I [I,T,S] [I] ys.length (qcI (p.map λ k=>ys.getD k default)) (λ i h=>h.get? I=some (itO (.ref T) i S ys.length ep)/\h.IsTuple T ((p.map λ k=>(.int (k:Nat) 0:Value)).toArray)/\h.get? S=some o) where
 sub:=λ b hb=>by simp at hb;simp[hb]
 frame:=λ i h h' st k=>⟨k I (by simp) _ st.1,let ⟨o,ho,r⟩:=st.2.1;⟨o,k T (by simp) _ ho,r⟩,k S (by simp) _ st.2.2⟩
 item:=λ i s Q E hi st hQ=>by
  have hn:es.size=ys.length:=by rw[<- Yy,<- P0.length]
  have hip:i<p.length:=by rw[hp.length_eq,Z8];exact hi
  have hk:p[i]<ys.length:=Jx.mp (hp.mem_iff.mp (Uw hip));obtain⟨e,he,h1,t',h2⟩:=jw P0 p[i] ys[p[i]] (X1 hk);have pE:es[p[i]]?=some (e.1,e.2):=by rw[<- XZ];exact he
  refine qjE (k:=p[i]) (x:=e.2) (hx:=e.1) st.1 st.2.1 st.2.2 hd hf hn ?_ pE λ h' E4 B6=>?_
  ·simp[hip]
  ·refine hQ _ h' s.toks ⟨t',?_⟩ ⟨E4,?_,?_⟩ λ b o hb e=>B6.extBut b o (λ h=>hb (by simp[h])) e
   ·rw[h2];congr 1
    rw[Xm,Zw,X1 hip];show _=ys.getD p[i] default
    rw[Xm,X1 hk];rfl
   ·obtain⟨o,ho,r⟩:=st.2.1;exact⟨o,(B6.2 T hIT).trans ho,r⟩
   ·exact(B6.2 S pQ).trans st.2.2
 done:=λ s Q E st hQ=>by
  have hn:es.size=ys.length:=by rw[<- Yy,<- P0.length]
  refine qjF hh st.1 st.2.1 st.2.2 hd hf hn ?_ λ h' dX=>hQ h' s.toks λ b o hb e=>dX b o (λ h=>hb (by simp[h])) e
  have:p.length=ys.length:=by rw[hp.length_eq,Z8]
  simp[this]
 self:=λ i s Q E st hQ=>qes st.1 hQ
theorem Walks.setText(hb:byT w)(hh:A.handled=none){I S:Addr}(pQ:S≠I){ys zs:List Str}{o:Obj}{es r9:Array (Int×Value)}{ep:Nat}{t:SetTable}(hd:o.data=.set es ep t)(hf:t.fits es.size=true)(hn:es.size=ys.length)(he:r9=pickOrder (w.params.setOrder S ep) es)(P0:Paired (qbu prog w) zs r9.toList)(hz:zs.length=ys.length):
  Walks prog w A I [I,S] [I] ys.length (qcI zs) (λ i h=>h.get? I=some (itO (.int (0:Nat) 0) i S ys.length ep)/\h.get? S=some o) where
 sub:=λ b hb=>by simp at hb;simp[hb]
 frame:=λ i h h' st k=>⟨k I (by simp) _ st.1,k S (by simp) _ st.2⟩
 item:=λ i s Q E hi st hQ=>by
  obtain⟨e,pE,h1,t',h2⟩:=jw P0 i (zs[i]'(by omega)) (X1 (by omega));refine qfj (nx:=0) (x:=e.2) st.1 st.2 hd hf hn ?_ λ h' E4 B6=>?_
  ·intro Q E h;unfold setNext;refine Vk (Uj st.2 hd hf ?_);dsimp only;unfold setsByText;refine Vk (Vk (U1 (Vl ?_)));dsimp only;refine Jw (λ _=>?_) (λ cE=>absurd hb cE);simp only[Uk,Zo,Vr];unfold setWalk;refine Vk (Vk (Uj st.2 hd hf ?_));dsimp only;unfold setsByText;refine Vk (Vk (U1 (Vl ?_)));dsimp only;refine Jw (λ _=>?_) (λ cE=>absurd hb cE);refine Vk (U1 (Vl (Vl ?_)));have e1:(pickOrder (w.params.setOrder S ep) es)[i]?=some e:=by rw[<- he,<- XZ];exact pE
   show Q (((pickOrder (w.params.setOrder S ep) es)[i]?).map λ e=>(e.2,0)) s
   rw[e1];exact h
  ·refine hQ _ h' s.toks ⟨t',?_⟩ ⟨E4,(B6.2 S pQ).trans st.2⟩ λ b o hb e=>B6.extBut b o (λ h=>hb (by simp[h])) e
   rw[h2,qdK (X1 (by omega))]
 done:=λ s Q E st hQ=>by
  refine qfk hh st.1 st.2 hd hf hn ?_ λ h' dX=>hQ h' s.toks λ b o hb e=>dX b o (λ h=>hb (by simp[h])) e
  intro Q E h;unfold setNext;refine Vk (Uj st.2 hd hf ?_);dsimp only;unfold setsByText;refine Vk (Vk (U1 (Vl ?_)));dsimp only;refine Jw (λ _=>?_) (λ cE=>absurd hb cE);simp only[Uk,Zo,Vr];unfold setWalk;refine Vk (Vk (Uj st.2 hd hf ?_));dsimp only;unfold setsByText;refine Vk (Vk (U1 (Vl ?_)));dsimp only;refine Jw (λ _=>?_) (λ cE=>absurd hb cE);refine Vk (U1 (Vl (Vl ?_)));have e1:(pickOrder (w.params.setOrder S ep) es)[ys.length]?=none:=by
   rw[<- he,<- XZ,Yd];rw[<- P0.length];omega
  show Q (((pickOrder (w.params.setOrder S ep) es)[ys.length]?).map λ e=>(e.2,0)) s
  rw[e1];exact h
 self:=λ i s Q E st hQ=>qes st.1 hQ
theorem Walks.setOne(hb:¬ byT w)(hh:A.handled=none){I S:Addr}(pQ:S≠I){ys:List Str}{o:Obj}{es:Array (Int×Value)}{ep:Nat}{t:SetTable}(hd:o.data=.set es ep t)(hf:t.fits es.size=true)(hl:t.led=true)(P0:Paired (qbu prog w) ys es.toList)(h1:ys.length<=1):
  Walks prog w A I [I,S] [I] ys.length (qcI ys) (λ i h=>h.get? I=some (itO (.int (if i=0 then 0 else t.place.getD 0 0+1:Nat) 0) i S ys.length ep)/\h.get? S=some o) where
 sub:=λ b hb=>by simp at hb;simp[hb]
 frame:=λ i h h' st k=>⟨k I (by simp) _ st.1,k S (by simp) _ st.2⟩
 item:=λ i s Q E hi st hQ=>by
  have hi0:i=0:=by omega
  subst hi0;have hn:es.size=ys.length:=by rw[<- Yy,<- P0.length]
  obtain⟨e,pE,q1,t',q2⟩:=jw P0 0 (ys[0]'hi) (X1 hi);have dI:t.place.size=1:=by
   simp only[SetTable.fits,Ut,Vn] at hf;omega
  have t8:t.place[0]?=some (t.place.getD 0 0):=by
   rw[Xi,Xs (by omega)];rfl
  refine qfj (nx:=t.place.getD 0 0+1) (x:=e.2) st.1 st.2 hd hf hn ?_ λ h' E4 B6=>?_
  ·intro Q E h;unfold setNext;refine Vk (Uj st.2 hd hf ?_);dsimp only;unfold setsByText;refine Vk (Vk (U1 (Vl ?_)));dsimp only;refine Jw (λ dY=>absurd dY hb) (λ _=>?_);refine Jw (λ dY=>absurd dY ?_) (λ _=>?_)
   ·show ¬ ((!t.plain && decide (es.size > 1))=true)
    rw[show decide (es.size > 1)=false from Jq (by omega),J5];exact Zg
   refine Vk ?_;show wpAny _ _ (if (!t.led && !es.isEmpty)=true then _ else _) _ _ s
   rw[hl];simp only[Qn,Jy,Zo,Vr];refine Vl ?_;have eb:SetTable.below t.place 0=0:=by
    unfold SetTable.below;rw[dI];unfold SetTable.below.go;simp
    unfold SetTable.below.go;rfl
   refine Vl ?_;simp only[Vz,eb];have ee:es[0]?=some (e.1,e.2):=by rw[<- XZ];exact pE
   rw[ee,t8];exact h
  ·refine hQ _ h' s.toks ⟨t',?_⟩ ⟨?_,(B6.2 S pQ).trans st.2⟩ λ b o hb e=>B6.extBut b o (λ h=>hb (by simp[h])) e
   ·rw[q2,qdK (X1 hi)]
   ·rw[E4,V3 (by omega)]
 done:=λ s Q E st hQ=>by
  have hn:es.size=ys.length:=by rw[<- Yy,<- P0.length]
  refine qfk hh st.1 st.2 hd hf hn ?_ λ h' dX=>hQ h' s.toks λ b o hb e=>dX b o (λ h=>hb (by simp[h])) e
  intro Q E h;unfold setNext;refine Vk (Uj st.2 hd hf ?_);dsimp only;unfold setsByText;refine Vk (Vk (U1 (Vl ?_)));dsimp only;refine Jw (λ dY=>absurd dY hb) (λ _=>?_);refine Jw (λ dY=>absurd dY ?_) (λ _=>?_)
  ·show ¬ ((!t.plain && decide (es.size > 1))=true)
   rw[show decide (es.size > 1)=false from Jq (by omega),J5];exact Zg
  refine Vk ?_;show wpAny _ _ (if (!t.led && !es.isEmpty)=true then _ else _) _ _ s
  rw[hl];simp only[Qn,Jy,Zo,Vr];refine Vl (Vl ?_);have dI:t.place.size=ys.length:=by
   simp only[SetTable.fits,Ut,Vn] at hf;omega
  have i9:es[SetTable.below t.place (if ys.length=0 then 0 else t.place.getD 0 0+1)]?=none:=by
   by_cases h0:ys.length=0
   ·rw[Array.getElem?_eq_none (by omega)]
   ·rw[V3 h0];have nX:ys.length=1:=by omega
    have eb:SetTable.below t.place (t.place.getD 0 0+1)=1:=by
     unfold SetTable.below;rw[dI,nX];unfold SetTable.below.go
     have:t.place.getD 0 (t.place.getD 0 0+1)<t.place.getD 0 0+1:=by
      have e:t.place.getD 0 (t.place.getD 0 0+1)=t.place.getD 0 0:=by
       rw[Xi,Xi,Xs (by omega)];rfl
      rw[e];exact Up _
     simp only[Nat.zero_lt_one,Vz,Nat.reduceAdd,Nat.reduceDiv,this];unfold SetTable.below.go;rfl
    rw[eb,Array.getElem?_eq_none (by omega)]
  rw[i9];exact h
 self:=λ i s Q E st hQ=>qes st.1 hQ
theorem qjG{S:Addr}{ys:List Str}{Q:Value->Shared->Prop}(hS:qQ prog w s.heap S ys)(h:∀(I:Addr)(h':Heap)(d:Drawn)(zs:List Str)(fp:List Addr)(St:Nat->Heap->Prop),zs.Perm ys->(∀ b o,s.heap.get? b=some o->h'.get? b=some o)->s.heap.objs.size<=I->I∈fp->(∀ b∈fp,b<h'.objs.size/\(b=S∨s.heap.objs.size<=b)) ->
   (∀ A:Around,A.handled=none->Walks prog w A I fp [I] ys.length (qcI zs) St)->St 0 h'->Q (.ref I) { s with heap:=h',drawn:=d }):wpAny (model prog w) A (pyIter (.ref S)) Q E s:=by
 have hTy:=hS.typeIs (s:=s);obtain⟨o,es,ep,t,ho,hex,hd,P0,nd,hb,hf,hl,t8⟩:=hS;have hn:es.size=ys.length:=by rw[<- Yy,<- P0.length]
 have c7:S<s.heap.objs.size:=Qv ho;have hsz:ys.length<=sizeLine:=Qy (Ze hb (by decide));refine wpAny_pyIter_slot hTy PySem.F.slot_set_iter (U0 PySem.F.slot_set_iter hTy F.entry_set_iter ?_ (F.args_set_iter_1 _));unfold Builtin.«frozenset.__iter__»;show wpAny _ _ (Builtin.Frozenset.sizeOf S >>= _) _ _ s
 unfold Builtin.Frozenset.sizeOf;refine Vk (Vk (Zd ho hd hf (Vl ?_)));unfold setDrawn;refine Vk (Vk (Uj ho hd hf ?_));dsimp only;unfold setsByText;refine Vk (Vk (U1 (Vl (Vl ?_))));show wpAny _ _ (if (!w.params.followText "set-order" && (!t.plain && decide (es.size > 1)))=true then _ else _) _ _ s
 refine Jw (λ hc=>?_) (λ hc=>?_)
 ·refine Vk (yS es.size (List.range es.size) _ _ (by simp) λ p d hp=>?_);rw[hn] at hp;have xZ:p.length=ys.length:=by rw[hp.length_eq,Z8]
  refine Vk (wpAny_newTuple (items:=p.map λ(i:Nat)=>rawInt i) ?_ (by rw[U7,xZ];exact hsz));refine Vk (Ul (XI _ ho) hd hf ?_);rw[hn];refine Vk (Ue (Vl ⟨_,rfl,"set_iterator",_,⟨_,Yz _ rfl,rfl⟩,F.slot_set_iterator_next.lookup,?_⟩));have gT:(s.heap.push { cls:=Value.type "tuple",data:=Data.seq (p.map λ(i:Nat)=>rawInt i).toArray }).objs.size=s.heap.objs.size+1:=Jz _ _;refine h _ _ d (p.map λ k=>ys.getD k default) [_,s.heap.objs.size,S] _ (qcJ hp) (λ b o e=>XI _ (XI _ e)) ?_ (by simp) ?_ (λ A hA=>Walks.setDrawn hA (I:=(s.heap.push { cls:=Value.type "tuple",data:=Data.seq (p.map λ(i:Nat)=>rawInt i).toArray }).objs.size) (T:=s.heap.objs.size) (by rw[gT];exact Qw (Up _)) (by rw[gT];exact Qw (Z5 c7)) hp hd hf P0) ⟨?_,?_,?_⟩
  ·show _<=(s.heap.push _).objs.size
   rw[gT];omega
  ·intro b hb;rw[Jz,gT];simp only[gT,Qh,List.not_mem_nil,or_false] at hb;rcases hb with e | e | e <;> rw[e]
   ·exact⟨Up _,.inr (Ve _)⟩
   ·exact⟨Z5 (Up _),.inr (Vc _)⟩
   ·exact⟨Z5 (Z5 c7),.inl rfl⟩
  ·exact Yz _ rfl
  ·exact⟨_,XI _ (Yz _ rfl),rfl,_,rfl⟩
  ·exact XI _ (XI _ ho)
 ·refine Vk (Vl ?_);refine Vk (Ul ho hd hf ?_);rw[hn];refine Vk (Ue (Vl ⟨_,rfl,"set_iterator",_,⟨_,Yz _ rfl,rfl⟩,F.slot_set_iterator_next.lookup,?_⟩));have szb:∀ b∈[s.heap.objs.size,S],b<(s.heap.push (itO (.int (0:Nat) 0) 0 S ys.length ep)).objs.size/\(b=S∨s.heap.objs.size<=b):=by
   intro b hb;rw[Jz];simp only[Qh,List.not_mem_nil,or_false] at hb;rcases hb with e|e <;> rw[e]
   ·exact⟨Up _,.inr (Vc _)⟩
   ·exact⟨Z5 c7,.inl rfl⟩
  by_cases hbt:byT w
  ·obtain⟨zs,hz,hpz⟩:=yO P0 (qdJ (w.params.setOrder S ep) es);exact h s.heap.objs.size _ s.drawn zs [s.heap.objs.size,S] _ hz (λ b o e=>XI _ e) (Vc _) (by simp) szb (λ A hA=>Walks.setText hbt hA (Qw c7) hd hf hn rfl hpz hz.length_eq) ⟨Yz _ rfl,XI _ ho⟩
  ·have c5:ys.length<=1:=by
    have hft:w.params.followText "set-order"=false:=Z7.mpr hbt;rw[hft] at hc;rcases t8 with e | e
    ·rw[e];simp
    ·rw[e] at hc;simp only[Bool.not_false,Bool.true_and,decide_eq_true_eq] at hc;omega
   exact h s.heap.objs.size _ s.drawn ys [s.heap.objs.size,S] _ (J4 _) (λ b o e=>XI _ e) (Vc _) (by simp) szb (λ A hA=>Walks.setOne hbt hA (Qw c7) hd hf (hl.resolve_right hbt) P0 c5) ⟨Yz _ rfl,XI _ ho⟩
theorem qjH{r:Addr}{Q:Bool->Shared->Prop}(hT:s.TypeIs (.ref r) "set")(h:Q false s):wpAny (model prog w) A (Builtin.List.listLengthHint (.ref r)) Q E s:=by
 unfold Builtin.List.listLengthHint;refine Vk (Jt hT PySem.F.slot_set_len.lookup ?_);generalize hid:("set.__len__":String)=id0
 wp_delta
 rw[show splitId id0=some ("set","__len__") from by subst hid;decide +kernel];subst hid;refine Vk (U2 (T:="set") (b:=true) hT (by rw[Qd];kernel_rfl) ?_);refine Jw (λ x4=>absurd x4 (by decide)) (λ _=>?_);refine Jw (λ _=>?_) (λ x4=>absurd (by decide +kernel) x4);refine Vk (Va hT ?_);exact Vl h
theorem qdL{S:Addr}{ys:List Str}{R:List Value->Shared->Prop}(hh:A.handled=none)(hS:qQ prog w s.heap S ys)(h:∀(h':Heap)(tk:Nat)(d:Drawn)(c6:List Value)(zs:List Str),(∀ b o,s.heap.get? b=some o->h'.get? b=some o)->s.heap.objs.size<h'.objs.size->zs.Perm ys->StrsAre c6 zs->R c6 { s with heap:=h',toks:=tk,drawn:=d }):
  wpAny (model prog w) A (collect (.ref S)) R E s:=by
 have c7:S<s.heap.objs.size:=by obtain⟨o,_,_,_,ho,_⟩:=hS;exact Qv ho
 have hsz:ys.length<=sizeLine:=by
  obtain⟨_,_,_,_,_,_,_,_,_,hb,_⟩:=hS;exact Qy (Ze hb (by decide))
 unfold collect;refine Vk (wpAny_runValue (Ju entry_proto_collect' ?_));rw[Yo PySem.F.plain_proto_collect _];show wpAny _ A.in1 (newList [] >>= λ l=>again (.builtin "list.__iadd__" ⟨[l,.ref S],[]⟩)) _ _ s
 refine Vk (Ue ?_);refine Vl ⟨Qs PySem.F.plain_list_iadd _,Ju entry_list_iadd' ?_⟩;rw[Yo PySem.F.plain_list_iadd _];have hL:(s.heap.push { cls:=.type "list",data:=.seq ([]:List Value).toArray }).get? s.heap.objs.size=some { cls:=.type "list",data:=.seq #[] }:=Yz _ rfl;show wpAny _ A.in1 (Builtin.List.listExtendWith (.ref s.heap.objs.size) (.ref S) (.ref s.heap.objs.size)) _ _ _
 have aH:qQ prog w (s.heap.push { cls:=.type "list",data:=.seq ([]:List Value).toArray }) S ys:=by
  obtain⟨o,es,ep,t,ho,rest⟩:=hS;exact⟨o,es,ep,t,XI _ ho,rest⟩
 unfold Builtin.List.listExtendWith;refine Vk (Va (T:="set") (aH.typeIs (s:={ s with heap:=s.heap.push { cls:=.type "list",data:=.seq ([]:List Value).toArray } })) ?_);have h1:Builtin.List.listSameRef (.ref s.heap.objs.size) (.ref S)=false:=by simp[Builtin.List.listSameRef];exact Qz c7
 simp only[h1,show(Value.type "set" == Value.type "list")=false by decide,show(Value.type "set" == Value.type "tuple")=false by decide,Ql,Zo,Vr];refine Vk (qjG (s:={ s with heap:=s.heap.push { cls:=.type "list",data:=.seq ([]:List Value).toArray } }) aH λ I h2 d zs fp St hz aT hI hIfp G6 W st=>?_);have gT:(s.heap.push { cls:=.type "list",data:=.seq ([]:List Value).toArray }).objs.size=s.heap.objs.size+1:=Jz _ _;have hI':s.heap.objs.size+1<=I:=by have:(s.heap.push { cls:=.type "list",data:=.seq ([]:List Value).toArray }).objs.size<=I:=hI;omega
 have pP:=aT _ _ hL;have eB:qQ prog w h2 S ys:=by
  obtain⟨o,es,ep,t,ho,rest⟩:=aH;exact⟨o,es,ep,t,aT _ _ ho,rest⟩
 refine Vk (Qq (qjH (eB.typeIs (s:={ s with heap:=h2,drawn:=d })) ?_));have P3:∀ b o,s.heap.get? b=some o->h2.get? b=some o:=λ b o e=>aT b o (XI _ e)
 have hnf:s.heap.objs.size∉fp:=λ hm=>by
  rcases(G6 _ hm).2 with e|e
  ·exact absurd c7 (by rw[<- e];exact Qg _)
  ·have e:(s.heap.push { cls:=.type "list",data:=.seq ([]:List Value).toArray }).objs.size<=s.heap.objs.size:=e;rw[gT] at e;exact absurd e (Nat.not_succ_le_self _)
 have i9:∀(h:Heap)(c₁:Nat),St 0 h->(∀ b o,b≠s.heap.objs.size->h2.get? b=some o->h.get? b=some o) ->
   h.get? s.heap.objs.size=some { cls:=.type "list",data:=.seq #[] c₁ } ->
   codeAny (model prog w) A (.builtin "list.extend.loop" ⟨[.ref s.heap.objs.size,.ref I,.ref s.heap.objs.size],[]⟩) (λ r s'=>∃ h' tk M1 c',r=.ok (.ret (.ref s.heap.objs.size))/\s'={ s with heap:=h',toks:=tk,drawn:=d } /\
    (∀ b o,s.heap.get? b=some o->h'.get? b=some o)/\h'.get? s.heap.objs.size=some { cls:=.type "list",dict:=none,data:=.seq M1 c',slots:=#[] }/\ItemsOf (qcI zs) M1 ys.length) { s with heap:=h,drawn:=d }:=by
  intro h c₁ E2 hk hS₁;refine codeAny_extend_loopS (W _ (by simpa using hh)).toS hsz s.heap.objs.size hnf _ ys.length 0 _ #[] c₁ rfl (Vd _) E2 hS₁ (ItemsOf.nil _) λ s' M1 c' hm T3 V9=>?_
  rw[Moved.eq_with hm];refine⟨s'.heap,s'.toks,M1,c',rfl,rfl,λ b o e=>hm.heap b o (λ hmem=>?_) (hk b o (Qw (Qv e)) (P3 b o e)),T3,V9⟩;have c7:=Qv e;rcases Qh.mp hmem with e'|hmem
  ·rw[e'] at c7;exact Qg _ c7
  ·rw[Zq.mp hmem] at c7;exact absurd (Ze c7 (Nat.le_of_succ_le hI')) (Qg _)
 have fin:∀ r s',(∃ h' tk M1 c',r=(.ok (.ret (.ref s.heap.objs.size)):Result)/\s'={ s with heap:=h',toks:=tk,drawn:=d } /\
    (∀ b o,s.heap.get? b=some o->h'.get? b=some o)/\h'.get? s.heap.objs.size=some { cls:=.type "list",dict:=none,data:=.seq M1 c',slots:=#[] }/\ItemsOf (qcI zs) M1 ys.length) ->
   match r with | .ok (.ret v)=>wpAny (model prog w) A (do
    let .ref a:=v | unsupported "internal:collect"
    let o <- load a
    match o.data with
    |.seq xs _=>pure xs.toList
    | _=>unsupported "internal:collect") R E s' | _=>True:=by
  rintro r s' ⟨h',tk,M1,c',rfl,rfl,hk,T3,V9⟩;show wpAny _ A (load s.heap.objs.size >>= _) _ _ _
  refine Vk (wpAny_load T3 (Vl (h h' tk d M1.toList zs hk (Qv T3) hz ?_)));have xD:zs.length=ys.length:=hz.length_eq
  have:∀(as:List Value)(zs:List Str),as.length=zs.length->(∀(j:Nat) v,as[j]?=some v->qcI zs j v)->StrsAre as zs:=by
   intro as;induction as with
   |nil=>intro zs hl _;cases zs with
    |nil=>exact .nil
    |cons _ _=>simp at hl
   |cons a as ih =>
    intro zs hl hh;cases zs with
    |nil=>simp at hl
    |cons z zs =>
     obtain⟨t,e⟩:=hh 0 a rfl;have e:a=.str z t:=e;subst e;exact .cons _ _ (ih zs (by simpa using hl) λ j v e=>by
      obtain⟨t,e2⟩:=hh (j+1) v (by simpa using e);exact⟨t,by simpa using e2⟩)
  exact this _ _ (by rw[Yy,V9.1,xD]) λ j v e=>V9.2 j v (by rw[<- XZ];exact e)
 refine Jw (λ _=>?_) (λ _=>Vl ⟨Qs PySem.F.plain_extend_loop _,Q9 (i9 _ _ st (λ b o _ e=>e) pP) λ r s' hr=>?_⟩)
 ·refine Vk (Vm ?_);refine Vk ?_;show wpAny _ _ (updateSeq s.heap.objs.size (·.push .none) >>= λ _=>updateSeq s.heap.objs.size (·.pop)) _ _ _
  refine Vk (wpAny_updateSeq pP rfl ?_);have hS₂:=XX (Obj.mapSeq (·.push Value.none)) pP rfl;refine wpAny_updateSeq (hz:=by seq_fits) hS₂ rfl ?_;have hS₃:=XX (Obj.mapSeq (·.pop)) hS₂ rfl;refine Vl ⟨Qs PySem.F.plain_extend_loop _,Q9 (i9 _ _ ?_ (λ b o hb e=>?_) hS₃) λ r s' hr=>?_⟩
  ·refine(W A hh).frame 0 _ _ st λ b hb o e=>?_
   have hbS:b≠s.heap.objs.size:=λ h=>hnf (h ▸ hb)
   exact(XM _ _ (Vx hbS)).trans ((XM _ _ (Vx hbS)).trans e)
  ·exact(XM _ _ (Vx hb)).trans ((XM _ _ (Vx hb)).trans e)
  ·have:=fin r s' hr
   obtain⟨_,_,_,_,rfl,_⟩:=hr;exact this
 ·have:=fin r s' hr
  obtain⟨_,_,_,_,rfl,_⟩:=hr;exact this
theorem qjI{S:Addr}{ys:List Str}{Q:Value->Shared->Prop}(hh:A.handled=none)(hS:qQ prog w s.heap S ys)(aI:ys.length<64)(h:∀(l:Addr)(h':Heap)(tk e:Nat)(d:Drawn)(out:Array Value)(C5:List Str),(∀ b o,s.heap.get? b=some o->h'.get? b=some o)->s.heap.objs.size<=l->h'.get? l=some (seqObj "list" out e)->StrsAre out.toList C5->C5.Perm ys->sortedS C5=true ->
   Q (.ref l) { s with heap:=h',toks:=tk,drawn:=d }):wpAny (model prog w) A (call (.builtin "sorted") [.ref S]) Q E s:=by
 refine Xt kind_sorted plain_sorted entry_sorted (args_sorted1 _) ?_;unfold Builtin.«sorted»;refine Vk (m:=checkCount "sorted" 1 1 _) (Vl ?_);refine Vk (qdL (by simpa using hh) hS λ h1 tk d vs zs hk D4 hz hA=>?_);have hl:vs.length<64:=by
  have:vs.length=zs.length:=hA.length
  rw[this,hz.length_eq];exact aI
 refine Vk (Qu ?_);have dS:(h1.push (seqObj "list" vs.toArray 0)).get? h1.objs.size=some (seqObj "list" vs.toArray 0):=Yz _ rfl;refine Vk (Qq (U0 slot_list_sort ⟨_,dS,rfl⟩ entry_list_sort (list_sort_treeK strKind_oneLt dS hA.keysOf (λ v₁ v₂ rest e=>keyKind_strs (by rw[<- e];exact hA)) hl λ b0 a1 a2=>⟨_,rfl,?_⟩) (args_list_sort _)));obtain⟨C5,b1,b2,b3⟩:=sorted_out_str hA a1 a2;obtain⟨e,he⟩:=sortedHeap_at (out:=(arrOf b0).map (·.2)) dS;refine Vl ⟨_,rfl,h h1.objs.size _ tk e d _ C5 (λ b o q=>?_) (Qy D4) he b1 (b2.trans hz) b3⟩;have q1:=hk b o q;have hb:=Qv q1;rw[sortedHeap_old (Qw hb) (by rw[Jz];exact Z5 hb)];exact XI _ q1
end
section
variable {X:Cx}
theorem qdi(hc:X.calm=true):jh X (.builtin "sorted") (λ xs H Q=>∃ p ys,xs=[.ref p]/\H p=some (qeq X.prog X.w p ys)/\ys.length<64/\∀ l,H l=none->Q (.ref l) (upd H l (.lst ((qaS ys).map V.str)))):=by
 intro pins s σ H xs us Q I r h;obtain⟨p,ys,rfl,hp,aI,q⟩:=h;obtain⟨u,rfl,ru⟩:=yd r;cases ru
 obtain⟨n6,D7,hS⟩:=I.set hp;refine qjI (I.ok.hd hc) hS (by rw[D7.length_eq];exact aI) λ l h' tk e d out C5 hk D4 he h1 h2 h3=>?_
 have es:=qeo (h2.trans D7) h3;subst es;have hf:=I.hok.fresh D4;refine⟨.ref l,upd H l (.lst ((qaS ys).map V.str)),I.call' (s':={ s with heap:=h',toks:=tk,drawn:=d }) (ch:=[]) rfl (Un.laid hk D4 hf) (I.hok.laid hk D4 ⟨?_,out.toList,e,j4 h1,he⟩) I.bare (λ _ z=>nomatch z),rfl,q _ hf⟩
 have:(qaS ys).length=ys.length:=(h2.trans D7).length_eq
 rw[U7,this];exact Qy (Ze aI (by decide))
end
theorem ql2:∀ n,n<1024->((SetTable.sizeAbove (2*n)-1=7∨SetTable.sizeAbove (2*n)-1=15∨SetTable.sizeAbove (2*n)-1=31∨SetTable.sizeAbove (2*n)-1=63∨SetTable.sizeAbove (2*n)-1=127∨SetTable.sizeAbove (2*n)-1=255∨SetTable.sizeAbove (2*n)-1=511∨SetTable.sizeAbove (2*n)-1=1023∨SetTable.sizeAbove (2*n)-1=2047)/\n<=SetTable.sizeAbove (2*n)-1):=by decide +kernel
theorem qgy{n:Nat}(h:n<1024):vM (SetTable.sizeAbove (2*n)-1):=by
 rcases(ql2 n h).1 with e|e|e|e|e|e|e|e|e <;> rw[e]
 ·exact ql1
 ·exact qmC
 ·exact qmD
 ·exact qmE
 ·exact qlg
 ·exact qlh
 ·exact qli
 ·exact qjC
 ·exact qjD
section
variable {prog:Program}{w:World}{A:Around}{E:Value->Shared->Prop}{s:Shared}
theorem jk{t:SetTable}{n:Nat}:t.fits n=true ↔ (t.place.size=n/\t.place.size+t.dummies.size<=t.mask):=by
 unfold SetTable.fits;rw[Ut,Vn];exact⟨λ ⟨a,b⟩=>⟨a,Um b⟩,λ ⟨a,b⟩=>⟨a,Qc b⟩⟩
theorem qaV{α:Type}(xs:Array α)(i:Nat):(SetTable.eraseAt xs i).toList=xs.toList.eraseIdx i:=by
 unfold SetTable.eraseAt;rw[Y6,Yp,Yp,List.eraseIdx_eq_take_drop_succ,Xu,Xu,J6,Nat.sub_zero];congr 1
 exact XN (by simp)
theorem qaW{α:Type}(xs:Array α){i:Nat}(h:i<xs.size):(SetTable.eraseAt xs i).size+1=xs.size:=by
 rw[<- Yy,qaV,Xn (by simpa using h),Yy];omega
theorem qdj{α:Type}(xs:Array α)(p:Nat)(x:α):(SetTable.insertAt xs p x).size=xs.size+1:=by
 unfold SetTable.insertAt;simp
 omega
theorem qaX{α β:Type}{F:α->β->Prop}:∀{xs:List α}{l:List β}(i:Nat),Paired F xs l->Paired F (xs.eraseIdx i) (l.eraseIdx i)
 |_,_,_,.nil=>.nil
 |_,_,0,.cons _ t=>t
 |_,_,i+1,.cons r t=>.cons r (qaX i t)
theorem jl{α:Type}:∀{l:List α}{i:Nat}{x y:α},l.Nodup->l[i]?=some x->(y∈l.eraseIdx i ↔ (y∈l/\y≠x))
 | [],_,_,_,_,h=>by simp at h
 |a::l,0,x,y,nd,h=>by
  have ex:a=x:=by simpa using h
  subst ex;have A8:=U9.mp nd;show y∈l ↔ _
  constructor
  ·intro hy;exact⟨Yl _ hy,λ e=>A8.1 (e ▸ hy)⟩
  ·rintro⟨hy,C7⟩;rcases Qh.mp hy with e | e
   ·exact absurd e C7
   ·exact e
 |a::l,i+1,x,y,nd,h=>by
  have A8:=U9.mp nd;have hx:l[i]?=some x:=by simpa using h
  have ih:=jl (y:=y) A8.2 hx;rw[XA,Qh,ih,Qh];have bC:a≠x:=λ e=>A8.1 (e ▸ Yn hx)
  constructor
  ·rintro(e | ⟨h1,h2⟩)
   ·exact⟨.inl e,e ▸ bC⟩
   ·exact⟨.inr h1,h2⟩
  ·rintro⟨e | h1,h2⟩
   ·exact .inl e
   ·exact .inr ⟨h1,h2⟩
theorem qet{a:Addr}{ys:List Str}{x:Str}{t0:Tok}{Q:Bool->Shared->Prop}(hS:qQ prog w s.heap a ys)(h0:x∉ys->Q false s)(h1:x∈ys->∀ h' n6,Heap.SameBut a s.heap h'->(∀ y,y∈n6 ↔ (y∈ys/\y≠x))->n6.length<=ys.length->qQ prog w h' a n6->Q true { s with heap:=h' }):
  wpAny (model prog w) A (setDiscardHashed a (.str x t0) ((qw prog w).hash (.inr x))) Q E s:=by
 obtain⟨o,es,ep,t,ho,hex,hd,hp,nd,hb,hf,hl,t8⟩:=hS;have dW:=qcE hp;have G9:(qw prog w).is (.inr x) (.str x t0)=true:=zn _ _ _ _;have tI:(Value.str x t0).scannable=true:=rfl;have c5:es.size<scanBound:=by rw[<- Yy,<- hp.length];exact hb
 unfold setDiscardHashed setFind setFindIn;refine Vk (Vk (Uj ho hd hf ?_));dsimp only;rw[byScan_of tI c5 dW];simp only[↓reduceIte];refine Vk (Vm ?_);refine Vk (wpAny_setScan_of G9 ho hd hf dW ?_);cases hr:List.findIdx? (λ e=>(qw prog w).is (.inr x) e.2) es.toList with
 |none =>
  dsimp only;refine Vl (Vl (h0 λ hx=>?_));obtain⟨e,he,q⟩:=(qcF hp (.inr x)).mpr ⟨x,hx,rfl⟩
  have:=List.findIdx?_eq_none_iff.mp hr e he
  rw[q] at this;exact Bool.noConfusion this
 |some j =>
  dsimp only;refine Vl ?_;dsimp only;rw[Q5];obtain⟨hj,cD,_⟩:=List.findIdx?_eq_some_iff_getElem.mp hr;have hjs:j<es.size:=by simpa using hj
  obtain⟨y,hy,hye,t',xG⟩:=qao hp j es.toList[j] (X1 hj);have exy:y=x:=by
   have:=(qw prog w).inj _ _ _ cD (by rw[xG];exact zn prog w y t')
   exact(Sum.inr.inj this).symm
  subst exy;refine Vk (Uj ho hd hf ?_);dsimp only;have hsz:=qaW es hjs;refine Vk (Uh ho hd ?_ (Ui (by omega)));have S7:Paired (qbu prog w) (ys.eraseIdx j) (SetTable.eraseAt es j).toList:=by rw[qaV];exact qaX j hp
  obtain⟨dI,fQ⟩:=jk.mp hf;have hpj':t.place[j]?=some (t.place[j]'(by omega)):=Xs (by omega);have bS:t.drop j={ t with place:=SetTable.eraseAt t.place j,dummies:=SetTable.insertAt t.dummies (SetTable.below t.dummies (t.place[j]'(by omega))) (t.place[j]'(by omega)) }:=by
   unfold SetTable.drop;rw[hpj']
  have hf1:(t.drop j).fits (SetTable.eraseAt es j).size=true:=by
   rw[bS];have e1:=qaW t.place (i:=j) (by omega);have e2:=qdj t.dummies (SetTable.below t.dummies (t.place[j]'(by omega))) (t.place[j]'(by omega));refine jk.mpr ⟨?_,?_⟩
   ·show(SetTable.eraseAt t.place j).size=_
    omega
   ·show(SetTable.eraseAt t.place j).size+(SetTable.insertAt t.dummies (SetTable.below t.dummies (t.place[j]'(by omega))) (t.place[j]'(by omega))).size<=t.mask
    omega
  have D4:(ys.eraseIdx j).length<=ys.length:=List.length_eraseIdx_le _ _;obtain⟨_,aH⟩:=je (P:=prog) (w:=w) ho hex hd S7 (nd.sublist (List.eraseIdx_sublist _ _)) (Zl D4 hb) hf1 (by rw[bS];exact hl) (by
   rcases t8 with e|e
   ·rw[e];exact .inl rfl
   ·exact .inr (by rw[bS];exact e))
  refine Vk (wpAny_point ?_);exact Vl (h1 (Yn hy) _ _ (Y5 _ _ _) (λ z=>jl nd hy) D4 aH)
theorem qdM{M:Model}{α β:Type}(f:α->β->Sem (ForInStep β))(I:List α->β->Shared->Prop)(Q:β->Shared->Prop)(turn:∀ x rest b s,I (x::rest) b s->wpAny M A (f x b) (λ r s'=>match r with|.yield b'=>I rest b' s'|.done b'=>Q b' s') E s)(fin:∀ b s,I [] b s->Q b s)(xs:Array α)(b:β)(h:I xs.toList b s):wpAny M A (forIn xs b f) Q E s:=by
 rw[<- Array.forIn_toList];exact wpAny_forIn_list f I Q turn fin _ b h
theorem qfl{a b:Addr}{ys zs:List Str}{Q:Bool->Shared->Prop}(hA:qQ prog w s.heap a ys)(hB:qQ prog w s.heap b zs)(h:Q true s):wpAny (model prog w) A (setsQuiet [a,b]) Q E s:=by
 have one:∀{c:Addr}{us:List Str},qQ prog w s.heap c us->∀{R:Array (Int×Value)->Shared->Prop},(∀ es:Array (Int×Value),(∀ e∈es,∃ x t,e.2=.str x t)->R es s)->wpAny (model prog w) A (setEntries c) R E s:=by
  intro c us hC R hR;obtain⟨o,es,ep,t,ho,hex,hd,hp,nd,hb,hf,hl,t8⟩:=hC;refine Zd ho hd hf (hR es λ e he=>?_);have dX:e∈es.toList:=by simpa using he
  obtain⟨k,hk⟩:=Ye.mp dX;obtain⟨y,_,_,t',e2⟩:=qao hp k e hk;exact⟨y,t',e2⟩
 unfold setsQuiet;refine Vk (wpAny_forIn_list _ (λ rest r s'=>s'=s/\r=⟨none,()⟩/\∀ c∈rest,c=a∨c=b) _ ?turn ?fin _ _ ⟨rfl,rfl,by simp⟩)
 case turn =>
  rintro c rest r s' ⟨rfl,rfl,hc⟩;have hC:∃ us,qQ prog w s'.heap c us:=by
   rcases hc c Zf with e|e
   ·exact⟨_,e ▸ hA⟩
   ·exact⟨_,e ▸ hB⟩
  obtain⟨us,hC⟩:=hC;refine Vk (one hC λ es hes=>?_);refine Vk (qdM _ (λ rest r O5=>O5=s'/\r=⟨none,()⟩/\∀ e∈rest,∃ x t,e.2=.str x t) _ ?turn2 ?fin2 _ _ ⟨rfl,rfl,λ e he=>hes e (by simpa using he)⟩)
  case turn2 =>
   rintro e aA2 r O5 ⟨rfl,rfl,he⟩;obtain⟨x,t,ex⟩:=he e Zf;obtain⟨e1,e2⟩:=e;have ex:e2=.str x t:=ex;subst ex;exact Vl ⟨rfl,rfl,λ e h=>he e (Yl _ h)⟩
  case fin2 =>
   rintro r O5 ⟨rfl,rfl,_⟩;exact Vl ⟨rfl,rfl,λ c h=>hc c (Yl _ h)⟩
 case fin =>
  rintro r s' ⟨rfl,rfl,_⟩;exact Vl h
theorem qbW{a f:Addr}{ys zs:List Str}{Q:Array (Int×Value)->Shared->Prop}(C7:f≠a)(hA:qQ prog w s.heap a ys)(hF:qQ prog w s.heap f zs)(h:∀ r9 n6 h' d,n6.Perm ys->Paired (qbu prog w) n6 r9.toList->Heap.SameBut f s.heap h'->qQ prog w h' f zs->Q r9 { s with heap:=h',drawn:=d }):wpAny (model prog w) A (setWalkUnseen a [f] (some f)) Q E s:=by
 obtain⟨o,es,ep,t,ho,hex,hd,hp,nd,hb,hf,hl,t8⟩:=id hA;have c5:es.size=ys.length:=by rw[<- Yy,<- hp.length]
 have same:Heap.SameBut f s.heap s.heap:=⟨rfl,λ _ _=>rfl⟩;have walk:wpAny (model prog w) A (setWalk a) Q E s:=qim ho hd hf hl λ r9 d mC=>by
  obtain⟨n6,h1,h2⟩:=yO hp mC;exact h r9 n6 s.heap d h1 h2 same hF
 unfold setWalkUnseen;refine Vk (Uj ho hd hf ?_);dsimp only;unfold setsByText;refine Vk (Vk (U1 (Vl ?_)));dsimp only;refine Jw (λ _=>?_) (λ hc=>?_)
 ·exact walk
 ·refine Vk (qfl hA hF ?_);simp only[Qn,Zo,Vr];refine Vk (Vm ?_);obtain⟨o2,es2,ep2,t2,P1,hex2,aE,D5,lX,P5,tN,L7,oN⟩:=id hF;have L1:es2.size<scanBound:=by rw[<- Yy,<- D5.length];exact P5
  refine Vk (Uj P1 aE tN ?_);dsimp only;have cE:¬ byT w:=λ hb=>hc (by
   have:w.params.followText "set-order"=true:=hb
   show(w.params.followText "set-order" || _ || _)=true
   rw[this];rfl)
  have V7:t.led=true:=hl.resolve_right cE;have oY:t2.led=true:=L7.resolve_right cE;refine Jw (λ _=>?_) (λ _=>?_)
  ·refine Vk (Uh P1 aE ?_ (Ui L1));obtain⟨_,eB⟩:=je (P:=prog) (w:=w) (t':={ t2 with led:=t2.led && t.led,plain:=t2.plain && t.plain }) P1 hex2 aE D5 lX P5 (jk.mpr (jk.mp tN)) (.inl (by show(t2.led && t.led)=true;rw[V7,oY];rfl)) (by
    rcases oN with e|e
    ·exact .inl e
    ·exact .inr (by show(t2.plain && t.plain)=false;rw[e];rfl))
   exact Vl (h es ys _ s.drawn (J4 _) hp (Y5 _ _ _) eB)
  ·exact Vl (h es ys s.heap s.drawn (J4 _) hp same hF)
theorem qbX{nm:String}{r l:Addr}{ys zs:List Str}{Q:Unit->Shared->Prop}(C7:r≠l)(hL:qQ prog w s.heap l ys)(hR:qQ prog w s.heap r zs)(hb:ys.length+zs.length+1<scanBound)(h:∀ us h' d,(∀ x,x∈us ↔ ((x∈zs/\x∉ys)∨(x∈ys/\x∉zs)))->Heap.SameBut r s.heap h'->qQ prog w h' r us->Q () { s with heap:=h',drawn:=d }):
  wpAny (model prog w) A (Builtin.Frozenset.symmetricDifferenceUpdate nm r (.ref l)) Q E s:=by
 have iR:=hL.typeIs (s:=s);obtain⟨o,es,ep,t,ho,hex,hd,hp,nd,hbl,hf,hl,t8⟩:=id hL;unfold Builtin.Frozenset.symmetricDifferenceUpdate;have e1:(Value.ref l == Value.ref r)=false:=by
  have:¬ (Value.ref l=Value.ref r):=λ e=>C7 (by injection e with e;exact e.symm)
  simpa using this
 rw[e1];simp only[Zo,Vr];refine Vk (Va iR ?_);rw[show(Value.type "set" == Value.type "dict")=false by decide];simp only[Zo,Vr];refine Vk (kQ iR ?_);simp only[Vz];refine Vk (Vl ?_);show wpAny _ _ (setEpoch l >>= _) _ _ s
 refine Vk (Ul ho hd hf ?_);refine Qq ?_;refine Vk (qbW C7 hL hR λ r9 n6 h1 d xY mC S4 pO=>?_);have A8:n6.Nodup:=xY.nodup_iff.mpr nd;refine Vk (qdM _ (λ rest u s'=>∃ qs ps us h',n6=qs++ps/\Paired (qbu prog w) ps rest/\s'={ s with heap:=h',drawn:=d }/\Heap.SameBut r s.heap h'/\qQ prog w h' r us /\
   (∀ x,x∈us ↔ ((x∈zs/\x∉qs)∨(x∈qs/\x∉zs)))/\us.length<=zs.length+qs.length) _ ?turn ?fin _ _ ⟨[],n6,zs,h1,rfl,mC,rfl,S4,pO,by simp,by simp⟩)
 case turn =>
  rintro⟨eh,ex⟩ rest u s' ⟨qs,ps,us,h',e,aC,rfl,B6,hU,hm,hul⟩;cases aC with
  | @cons p _ ps _ hpe1 aC =>
   obtain⟨q1,t',q2⟩:=hpe1;have q1:eh=(qw prog w).hash (.inr p):=q1;have q2:ex=.str p t':=q2;subst q1 q2;have dM:p∉qs:=λ hq=>by
    rw[e] at A8;exact(Z2.mp A8).2.2 p hq p Zf rfl
   have c5:qs.length+ps.length+1=ys.length:=by
    have:=xY.length_eq
    rw[e,Zj,Uo] at this;omega
   have go:∀(h2:Heap)(cM:List Str),Heap.SameBut r h' h2->qQ prog w h2 r cM->(∀ x,x∈cM ↔ ((x∈zs/\x∉qs++[p])∨(x∈qs++[p]/\x∉zs)))->cM.length<=zs.length+(qs++[p]).length ->
     wpAny (model prog w) A (Builtin.Frozenset.unchanged nm l ep) (λ _ s'=>wpAny (model prog w) A (pure (ForInStep.yield PUnit.unit)) (λ r_1 nE=>match r_1 with
      |.yield b'=>∃ qs ps us h',n6=qs++ps/\Paired (qbu prog w) ps rest/\nE={ s with heap:=h',drawn:=d }/\Heap.SameBut r s.heap h'/\qQ prog w h' r us/\(∀ x,x∈us ↔ ((x∈zs/\x∉qs)∨(x∈qs/\x∉zs)))/\us.length<=zs.length+qs.length
      |.done b'=>wpAny (model prog w) A (pure ()) Q E nE) E s') E { s with heap:=h2,drawn:=d }:=by
    intro h2 cM t5 pN mI L7;unfold Builtin.Frozenset.unchanged;have P1:h2.get? l=some o:=(t5.2 l (Vx C7)).trans ((B6.2 l (Vx C7)).trans ho);refine Vk (Ul P1 hd hf ?_);simp only[Uk,Zo,Vr];refine Vl (Vl ⟨qs++[p],ps,cM,h2,by rw[e,Z1];rfl,aC,rfl,B6.trans t5,pN,mI,L7⟩)
   refine Vk (Qq (Vk (qet (s:={ s with heap:=h',drawn:=d }) hU (λ lY=>?_) (λ lY h2 cM t5 mI hle2 pN=>?_))))
   ·simp only[Bool.not_false,Vz];refine Vk (qff (s:={ s with heap:=h',drawn:=d }) hU (by omega) (λ hx=>absurd hx lY) (λ _ h2 cM t5 D5 pN=>?_));refine Vl (Vk (go h2 cM t5 pN (λ x=>?_) ?_))
    ·rw[D5.mem_iff,U5,Zq,hm x,U5,Zq];have hz:p∉zs:=λ hz=>lY ((hm p).mpr (.inl ⟨hz,dM⟩))
     by_cases hxp:x=p
     ·subst hxp;simp[hz]
     ·simp[hxp]
    ·rw[D5.length_eq,Zj,Zj];simp;omega
   ·simp only[Qn,Zo,Vr];refine Vl (Vk (go h2 cM t5 pN (λ x=>?_) ?_))
    ·rw[mI x,hm x,U5,Zq];have hz:p∈zs:=by
      rcases(hm p).mp lY with⟨h1,_⟩|⟨h1,_⟩
      ·exact h1
      ·exact absurd h1 dM
     by_cases hxp:x=p
     ·subst hxp;simp[hz]
     ·simp[hxp]
    ·rw[Zj];simp;omega
 case fin =>
  rintro u s' ⟨qs,ps,us,h',e,aC,rfl,B6,hU,hm,hul⟩;cases aC
  rw[U8] at e;refine Vl (h us h' d (λ x=>?_) B6 hU);rw[hm x,<- e,xY.mem_iff]
theorem qlm{r o:Addr}{ys:List Str}{rP:Sem Unit}{Q:Unit->Shared->Prop}(C7:r≠o)(hr:s.heap.get? r=some (qI w))(hO:qQ prog w s.heap o ys)(hn:ys.length<1024)(h:∀ us h',us.Perm ys->Heap.SameBut r s.heap h'->qQ prog w h' r us->Q () { s with heap:=h' }):wpAny (model prog w) A (setMerge r o rP) Q E s:=by
 obtain⟨ob,es,ep,t,ho,hex,hd,hp,nd,hb,hf,hl,t8⟩:=id hO;have c5:es.size=ys.length:=by rw[<- Yy,<- hp.length]
 have V7:((!(w.params.followText "set-order")) && t.led)=true∨byT w:=by
  by_cases hb:byT w
  ·exact .inr hb
  ·refine .inl ?_;have e1:w.params.followText "set-order"=false:=Z7.mpr hb;rw[e1,hl.resolve_right hb];rfl
 unfold setMerge;have e1:(r == o)=false:=by simpa using C7
 rw[e1];simp only[Zo,Vr];refine Vk (Uj ho hd hf ?_);dsimp only;by_cases h0:es.isEmpty=true
 ·rw[h0];simp only[Vz];have e0:ys=[]:=by
   have:es.size=0:=by simpa using h0
   exact Xf (by omega)
  have:=h [] s.heap (by rw[e0]) ⟨rfl,λ _ _=>rfl⟩ (jv hr)
  cases s
  exact Vl this
 ·have pU:es.isEmpty=false:=Z7.mpr h0;have hpos:0<es.size:=by
   rcases Nat.eq_zero_or_pos es.size with e|e
   ·exact absurd (by simpa using e) h0
   ·exact e
  have L6:t.plain=false:=by
   rcases t8 with e|e
   ·have:ys.length=0:=by rw[e];rfl
    omega
   ·exact e
  rw[pU];simp only[Zo,Vr];have L1:es.size<scanBound:=by rw[c5];exact hb
  have fB:∀(s1:Shared)(T:SetTable)(ep1:Nat),s1.heap.get? r=some { cls:=.type "set",dict:=none,data:=.set #[] ep1 T }->Heap.SameBut r s.heap s1.heap->s1={ s with heap:=s1.heap }->T.place=#[]->T.dummies=#[]->T.led=(!(w.params.followText "set-order"))->vM T.mask->es.size<=T.mask ->
    wpAny (model prog w) A (do
     let (_,_,ts) <- setState r
     match ts.road t with
     |.slotForSlot=>storeSet r es { t with finger:=ts.finger,led:=ts.led && t.led,moves:=ts.moves,plain:=ts.plain && t.plain }
     |.clean =>
      let (es,t) <- (do
        let some (t,o7):=(SetTable.laid ts.mask ts.finger ts.moves (led:=ts.led && t.led) (plain:=ts.plain && t.plain) (es.map (·.1))) | unsupported "internal:set-table-without-room"
        let r9:=o7.filterMap (es[·]?)
        if r9.size != es.size then unsupported "internal:set-table-lost-an-element"
        pure (r9,t))
      storeSet r es t
     |.oneByOne =>
      for (h,x) in <- setWalkUnseen o [r] (some r) do
       let _ <- holding [x] (setAddHashed r x h)
       rP
       if (<- setState o).2.1 != ep then unsupported "set.changed-during-merge") Q E s1:=by
   intro s1 T ep1 E3 S4 E8 iF pF hld hg D4;have hf1:T.fits (#[]:Array (Int×Value)).size=true:=jk.mpr ⟨by rw[iF];rfl,by rw[iF,pF];simp⟩;refine Vk (Uj E3 rfl hf1 ?_);dsimp only;have fQ:T.fill=0:=by unfold SetTable.fill;rw[iF,pF];rfl
   unfold SetTable.road;rw[fQ];simp only[Uk,Zo,Vr];by_cases hc:(T.mask == t.mask && t.dummies.isEmpty)=true
   ·rw[V2 hc];dsimp only;refine Uh E3 rfl ?_ (Ui L1);obtain⟨_,hS⟩:=je (P:=prog) (w:=w) (t':={ t with finger:=T.finger,led:=T.led && t.led,moves:=T.moves,plain:=T.plain && t.plain }) E3 ⟨rfl,rfl,rfl⟩ rfl hp nd hb (jk.mpr (jk.mp hf)) (by rw[hld];exact V7) (.inr (by show(T.plain && t.plain)=false;rw[L6,J5]));rw[E8];exact h ys _ (J4 _) (S4.trans (Y5 _ _ _)) hS
   ·rw[V3 hc];dsimp only;obtain⟨t',o7,el,q1,q2,q3,q4,q5,q6,q7⟩:=qhy hg T.finger T.moves (T.led && t.led) (T.plain && t.plain) (es.map (·.1)) (by simpa using D4);rw[el];dsimp only;have mC:(o7.filterMap (es[·]?)).toList.Perm es.toList:=by
     rw[Array.toList_filterMap];exact qgx es (by simpa using q7)
    have hsz:(o7.filterMap (es[·]?)).size=es.size:=by rw[<- Yy,mC.length_eq,Yy]
    rw[hsz];simp only[Uk,Zo,Vr];refine Vk (Vl ?_);dsimp only;obtain⟨us,hu,lY⟩:=yO hp mC;refine Uh E3 rfl ?_ (Ui (by rw[hsz];exact L1));obtain⟨_,hS⟩:=je (P:=prog) (w:=w) (t':=t') E3 ⟨rfl,rfl,rfl⟩ rfl lY (hu.nodup_iff.mpr nd) (by rw[hu.length_eq];exact hb) (by rw[hsz];simpa using q1) (by rw[q2,hld];exact V7) (.inr (by rw[q3,L6,J5]));rw[E8];exact h us _ hu (S4.trans (Y5 _ _ _)) hS
  have aD:(SetTable.fresh 0 0 (!(w.params.followText "set-order"))).fits (#[]:Array (Int×Value)).size=true:=rfl;unfold setRoomFor;refine Vk (Vk (Uj hr rfl aD ?_));have hrf:(SetTable.fresh 0 0 (!(w.params.followText "set-order"))).roomFor es.size=if es.size*5 ≥ 21 then some (es.size*2) else none:=by
   unfold SetTable.roomFor SetTable.fill SetTable.fresh;simp
  dsimp only;rw[hrf];by_cases h5:es.size*5 ≥ 21
  ·rw[V2 h5];dsimp only;unfold setRelay;refine Vk (Uj hr rfl aD ?_);dsimp only;have aS:es.size<1024:=by omega
   have cF:=qgy aS;have hmm:=ql2 es.size aS;rw[Q1 es.size 2];have tH:¬ SetTable.sizeAbove (2*es.size) > sizeLine:=by
    have h256:SetTable.sizeAbove (2*es.size)<=2048:=by
     rcases hmm.1 with e|e|e|e|e|e|e|e|e <;> omega
    have:(2048:Nat)<=sizeLine:=by decide
    omega
   rw[V3 tH];obtain⟨t',o7,el,q1,q2,q3,q4,q5,q6,q7⟩:=qhy cF (SetTable.fresh 0 0 (!(w.params.followText "set-order"))).finger ((SetTable.fresh 0 0 (!(w.params.followText "set-order"))).movedTo (SetTable.sizeAbove (2*es.size)-1)) (SetTable.fresh 0 0 (!(w.params.followText "set-order"))).led (SetTable.fresh 0 0 (!(w.params.followText "set-order"))).plain ((#[]:Array (Int×Value)).map (·.1)) (by simp);have er:(SetTable.fresh 0 0 (!(w.params.followText "set-order"))).relaid ((#[]:Array (Int×Value)).map (·.1)) (2*es.size)=some (t',o7):=el;rw[er];have eo:o7=#[]:=by
    have:=q7.length_eq
    simp at this;exact this
   subst eo;refine Vk (m:=(do
        if ((#[]:Array Nat).filterMap ((#[]:Array (Int×Value))[·]?)).size != (#[]:Array (Int×Value)).size then unsupported "internal:set-table-lost-an-element"
        pure (((#[]:Array Nat).filterMap ((#[]:Array (Int×Value))[·]?)),t'):Sem (Array (Int×Value)×SetTable))) ?_
   rw[show((#[]:Array Nat).filterMap ((#[]:Array (Int×Value))[·]?))=#[] from rfl];simp only[Uk,Zo,Vr];refine Vl ?_;dsimp only;refine Uh hr rfl ?_ (by decide);have hg2:(s.heap.update r (Obj.putSet #[] t')).get? r=some { cls:=.type "set",dict:=none,data:=.set #[] (0+1) t' }:=by
    have:=XX (Obj.putSet (#[]:Array (Int×Value)) t') hr (by rw[putSet_of #[] t' rfl];rfl)
    rw[putSet_of #[] t' rfl] at this;exact this
   refine fB { s with heap:=s.heap.update r (Obj.putSet #[] t') } t' 1 hg2 (Y5 _ _ _) rfl ?_ q5 q2 (by rw[q4];exact cF) (by rw[q4];exact hmm.2);exact Array.eq_empty_of_size_eq_zero (by simpa using q6)
  ·rw[V3 h5];dsimp only;refine Vl ?_;exact fB s _ 0 hr ⟨rfl,λ _ _=>rfl⟩ rfl rfl rfl rfl ql1 (by show es.size<=7;omega)
theorem qjJ{Q:Value->Shared->Prop}(h:Q (.ref s.heap.objs.size) { s with heap:=s.heap.push (qI w) }):wpAny (model prog w) A (newSet (.type "set")) Q E s:=by
 unfold newSet setsByText;refine Vk (Vk (U1 (Vl ?_)));dsimp only;simp only[newObj];exact Vk (wpAny_alloc (Vl h))
theorem qnK{l r:Addr}{ys zs:List Str}{Q:Value->Shared->Prop}(hL:qQ prog w s.heap l ys)(hR:qQ prog w s.heap r zs)(hn:zs.length<1024)(hm:ys.length<1024)(h:∀ us h' d,us.Nodup->(∀ x,x∈us ↔ ((x∈zs/\x∉ys)∨(x∈ys/\x∉zs)))->(∀ b o,s.heap.get? b=some o->h'.get? b=some o)->qQ prog w h' s.heap.objs.size us->Q (.ref s.heap.objs.size) { s with heap:=h',drawn:=d }):
  wpAny (model prog w) A (binaryOp .BitXor (.ref l) (.ref r)) Q E s:=by
 have iR:=hL.typeIs (s:=s);have hTr:=hR.typeIs (s:=s);have mK:l<s.heap.objs.size:=by obtain⟨_,_,_,_,e,_⟩:=hL;exact Qv e
 have xQ:r<s.heap.objs.size:=by obtain⟨_,_,_,_,e,_⟩:=hR;exact Qv e
 refine wpAny_binaryOp_same (op:=.BitXor) iR hTr PySem.F.fills_set_xor PySem.F.slot_set_xor (U0 PySem.F.slot_set_xor iR F.entry_set_xor ?_ (PySem.F.args_set_xor_2 _ _));unfold Builtin.«frozenset.__xor__»;show wpAny _ _ ((Builtin.Frozenset.isAnySet (.ref l) <&&> Builtin.Frozenset.isAnySet (.ref r)) >>= _) _ _ s
 refine Vk (Vk (kQ iR ?_));show wpAny _ _ (Builtin.Frozenset.isAnySet (.ref r)) _ _ s
 refine kQ hTr ?_;simp only[Qn,Zo,Vr];refine Vk (Vl ?_);refine Vk ?_;show wpAny _ _ (Builtin.Frozenset.baseOf l >>= _) _ _ s
 unfold Builtin.Frozenset.baseOf;refine Vk ?_;refine Vk (U2 iR sub_set_self (Vl ?_));show wpAny _ _ (Builtin.Frozenset.newFrom _ (.type "set") (.ref r) >>= _) _ _ s
 refine Vk ?_;unfold Builtin.Frozenset.newFrom;refine Vk (qjJ ?_);have iM:∀ b o,s.heap.get? b=some o->(s.heap.push (qI w)).get? b=some o:=λ b o e=>XI _ e
 have up:∀{h h':Heap}{a:Addr}{us:List Str},qQ prog w h a us->(∀ o,h.get? a=some o->h'.get? a=some o)->qQ prog w h' a us:=λ hS k=>by
  obtain⟨o,es,ep,t,ho,rest⟩:=hS;exact⟨o,es,ep,t,k o ho,rest⟩
 have pO:qQ prog w (s.heap.push (qI w)) r zs:=up hR λ o e=>iM r o e
 have B1:(s.heap.push (qI w)).get? s.heap.objs.size=some (qI w):=Yz _ rfl;refine Vk (Vl ?_);refine Vk (Qq ?_);unfold Builtin.Frozenset.updateFrom;refine Vk (kQ (pO.typeIs (s:={ s with heap:=s.heap.push (qI w) })) ?_);simp only[Vz];show wpAny _ _ (Builtin.Frozenset.merge _ s.heap.objs.size r) _ _ _
 unfold Builtin.Frozenset.merge;obtain⟨o,es,ep,t,ho,hex,hd,hp,nd,hb,hf,hl,t8⟩:=id pO;refine Vk (Ul ho hd hf ?_);refine qlm (s:={ s with heap:=s.heap.push (qI w) }) (Vx (Qw xQ)) B1 pO hn λ us h2 hu t5 hU=>?_
 have aT:∀ b o,s.heap.get? b=some o->h2.get? b=some o:=λ b o e=>(t5.2 b (Qw (Qv e))).trans (iM b o e)
 refine Vl ?_;refine Vk (Vl ?_);refine Vk (Qq ?_);have pP:qQ prog w h2 l ys:=up hL λ o e=>aT l o e
 refine qbX (s:={ s with heap:=h2 }) (Vx (Qw mK)) pP hU ?_ λ vs h3 d oW hs3 hV=>?_
 ·have:=hu.length_eq
  have hbd:(2048:Nat)<scanBound:=by decide
  omega
 ·refine Vl (Vl ⟨_,rfl,(λ e=>by cases e),?_⟩);refine h vs h3 d ?_ (λ x=>?_) (λ b o e=>(hs3.2 b (Qw (Qv e))).trans (aT b o e)) hV
  ·obtain⟨_,_,_,_,_,_,_,_,nd,_⟩:=hV;exact nd
  ·rw[oW x,hu.mem_iff]
end
section
variable {X:Cx}
def qoG(P:Program)(w:World):R2:=λ x y H Q=>∃ a b ys zs,x=.ref a/\y=.ref b/\H a=some (qeq P w a ys)/\H b=some (qeq P w b zs)/\ys.length<1024/\zs.length<1024 /\
 ∀ l us,H l=none->us.Nodup->(∀ x,x∈us ↔ ((x∈ys/\x∉zs)∨(x∈zs/\x∉ys)))->Q (.ref l) (upd H l (qeq P w l us))
theorem qjK:OpR X (binaryOp .BitXor) (qoG X.prog X.w):=by
 intro pins s σ H x y v u Q I rx ry h;obtain⟨a,b,ys,zs,rfl,rfl,ha,hb,hn,hm,q⟩:=h;cases rx
 cases ry
 obtain⟨n6,hy,aH⟩:=I.set ha;obtain⟨zs',hz,eB⟩:=I.set hb;refine qnK aH eB (by rw[hz.length_eq];exact hm) (by rw[hy.length_eq];exact hn) λ us h' d nd hm hk hU=>?_
 have hf:=I.hok.fresh (Vc s.heap.objs.size);refine⟨.ref s.heap.objs.size,_,I.call' (s':={ s with heap:=h',drawn:=d }) (ch:=[]) rfl (Un.laid hk (Vc _) hf) (I.hok.laid hk (Vc _) (qhx (J4 us) hU)) I.bare (λ _ z=>nomatch z),rfl,q _ us hf nd λ x=>?_⟩;rw[hm x,hy.mem_iff,hz.mem_iff];exact Or.comm
end
namespace F
theorem qap:Slot "reversed" "__init__" "object.__init__":=
 .of (owner:="object") (n:="__init__") (by rw[Jv,Yk];kernel_rfl) (by decide +kernel) (by decide +kernel) (by decide +kernel)
  (by first|exact .inl (by decide +kernel)|exact .inr (by decide +kernel)) (by rw[Qd];kernel_rfl)
theorem called_reversed:TypeCalled "reversed" "reversed.__new__" "object.__init__":=
 ⟨by decide +kernel,by decide +kernel,⟨_,_,PySem.F.mro_reversed⟩,PySem.F.made_reversed,by decide +kernel,by rw[Qd];kernel_rfl,qap⟩
theorem no_str_reversed:typeLookup (.type "str") "__reversed__"=pure none:=by rw[Jv,Yk];kernel_rfl
theorem sub_str_dict:isSubtype (.type "str") (.type "dict")=pure false:=by rw[Qd];kernel_rfl
theorem slot_reversed_next:Slot "reversed" "__next__" "reversed.__next__":=
 .of (owner:="reversed") (n:="__next__") (by rw[Jv,Yk];kernel_rfl) (by decide +kernel) (by decide +kernel) (by decide +kernel)
  (by first|exact .inl (by decide +kernel)|exact .inr (by decide +kernel)) (by rw[Qd];kernel_rfl)
theorem entry_reversed_next:entryFor table "reversed.__next__"=some Builtin.«reversed.__next__»:=entryFor_of_fast (by kernel_rfl)
theorem args_reversed_next_1(a:Value):argsOk "reversed.__next__" ⟨[a],[]⟩:=by unfold argsOk;kernel_rfl
theorem slot_reversed_iter:Slot "reversed" "__iter__" "reversed.__iter__":=
 .of (owner:="reversed") (n:="__iter__") (by rw[Jv,Yk];kernel_rfl) (by decide +kernel) (by decide +kernel) (by decide +kernel)
  (by first|exact .inl (by decide +kernel)|exact .inr (by decide +kernel)) (by rw[Qd];kernel_rfl)
theorem entry_reversed_iter:entryFor table "reversed.__iter__"=some Builtin.«dict_keyiterator.__iter__»:=
 Qe (id':="dict_keyiterator.__iter__") (by kernel_rfl) (by first | rfl | decide +kernel) (by decide +kernel) (by kernel_rfl)
theorem args_reversed_iter_1(a:Value):argsOk "reversed.__iter__" ⟨[a],[]⟩:=by unfold argsOk;kernel_rfl
theorem boot_reversed:bootBuiltins "reversed"=some (.type "reversed"):=by decide +kernel
end F
section
variable {prog:Program}{w:World}{A:Around}{E:Value->Shared->Prop}{s:Shared}
noncomputable abbrev qdk(z:Str)(t:Tok)(i:Int):Obj:={ cls:=.type "reversed",data:=.fields #[.str z t,.int i 0] }
theorem qbY(z:Str)(t:Tok)(hz:z.length<=sizeLine):MeetsIn prog w (Builtin.«reversed.__new__» ⟨[.type "reversed",.str z t],[]⟩)
  (λ _ R s=>∀ tk,R (.ok (.ret (.ref s.heap.objs.size))) { s with heap:=s.heap.push (qdk z t ((z.length:Int)-1)),toks:=tk }):=
 .of_wp λ A R s h=>by
  have hn:=vD;unfold Builtin.«reversed.__new__»;refine Vk (Vi (newClass_reversed _) ?_)
  try dsimp only
  refine Vk (Vi (a:=()) (by first|rfl|kernel_rfl) ?_);refine Vk (Vi (a:=()) (by first|rfl|kernel_rfl) ?_)
  try dsimp only
  refine Vk (Jt (Vo s z t) F.no_str_reversed ?_)
  try dsimp only
  refine Vk ?_;show wpAny _ _ (isInstance (.str z t) (.type "dict") >>= _) _ _ s
  refine Vk (U2 (Vo s z t) F.sub_str_dict ?_);simp only[Zo,Vr];refine Vk (Jt (Vo s z t) slot_str_getitem.lookup ?_)
  try dsimp only
  refine Jw (λ _=>Vl ?_) (λ x4=>absurd (by decide +kernel) x4);simp only[Qn,Zo,Vr];refine Vk (len_str (by omega) ?_);refine Vk (Vl ?_);dsimp only;refine Vk (m:=newObj (.type "reversed") (.fields #[.str z t,rawInt ((z.length:Int)-1)])) (Ue ?_);exact Vl ⟨_,rfl,h _⟩
theorem qaY{z:Str}{t:Tok}{Q:Value->Shared->Prop}(hz:z.length<=sizeLine)(h:∀ tk,Q (.ref s.heap.objs.size) { s with heap:=s.heap.push (qdk z t ((z.length:Int)-1)),toks:=tk }):
  wpAny (model prog w) A (call (.type "reversed") [.str z t]) Q E s:=
 callType_newIn F.called_reversed (by decide) (PySem.F.typeCall_reversed_1 _) (PySem.F.newCall_reversed_1 _) (λ obj=>PySem.F.args_object_init_2 obj _) PySem.F.entry_reversed_new (qbY z t hz)
  λ tk=>⟨⟨_,Yz _ rfl,rfl⟩,h tk⟩
theorem qjL{I:Addr}{z:Str}{t:Tok}{i:Nat}{c:Nat}{Q:Option Value->Shared->Prop}(o0:s.heap.get? I=some (qdk z t (i:Int)))(hz:z.length<=sizeLine)(hc:z.cps[i]?=some c)(hQ:∀ h' tk u,h'.get? I=some (qdk z t ((i:Int)-1))->Heap.SameBut I s.heap h'->Q (some (.str ⟨#[c]⟩ u)) { s with heap:=h',toks:=tk }):wpAny (model prog w) A (pyNext (.ref I)) Q E s:=by
 have hT:s.TypeIs (.ref I) "reversed":=⟨_,o0,rfl⟩;have hn:=vD;have hil:i<z.length:=(Array.getElem?_eq_some_iff.mp hc).1;unfold pyNext;refine Vk (Qt (XH (name:=Str.ofString "__next__") hT F.slot_reversed_next
  (U0 F.slot_reversed_next hT F.entry_reversed_next ?_ (F.args_reversed_next_1 _))))
 unfold Builtin.«reversed.__next__»;refine Vk (Vi (a:=(Value.ref I,[])) rfl ?_)
 try dsimp only
 refine Vk (Vh o0 rfl (x:=.str z t) rfl ?_);refine Vk (Vh o0 rfl (x:=.int (i:Int) 0) rfl ?_);dsimp only;rw[V3 (by omega)];refine Vk (Jt (Vo s z t) slot_str_getitem.lookup ?_);simp only[Option.isNone_some,Zo,Vr];refine Vk (wpAny_mkInt ?_);refine Vk (Qt (getItem_str (c:=c) (by
  have e1:decide ((i:Int) < -(2^63:Int))=false:=Jq (by omega);have e2:decide ((i:Int) ≥ 2^63)=false:=Jq (by omega);rw[e1,e2,Ql]) (by
   have e:seqIndex? (i:Int) z.length=some i:=by
    have e1:(if (i:Int)<0 then(i:Int)+(z.length:Int) else(i:Int))=(i:Int):=V3 (by omega);unfold seqIndex?;dsimp only;rw[e1,V2 (by
     rw[Ut];exact⟨Qc (by omega),Qc (by omega)⟩),Zz]
   rw[e];exact hc) ?_))
 dsimp only;refine Vk (Vh o0 rfl (x:=.int (i:Int) 0) rfl ?_);dsimp only;refine Vk (Zv o0 (by simp) λ h1 L8 S4=>?_);refine Vl ⟨_,rfl,Vl (hQ h1 _ _ ?_ S4)⟩;rw[L8];rfl
theorem qjM{I:Addr}{z:Str}{t:Tok}{Q:Option Value->Shared->Prop}(hh:A.handled=none)(o0:s.heap.get? I=some (qdk z t (-1)))(hQ:∀ h',Heap.ExtBut I s.heap h'->Q none { s with heap:=h' }):wpAny (model prog w) A (pyNext (.ref I)) Q E s:=by
 have hT:s.TypeIs (.ref I) "reversed":=⟨_,o0,rfl⟩;unfold pyNext;refine Vk (Qt (XH (name:=Str.ofString "__next__") hT F.slot_reversed_next
  (U0 F.slot_reversed_next hT F.entry_reversed_next ?_ (F.args_reversed_next_1 _))))
 unfold Builtin.«reversed.__next__»;refine Vk (Vi (a:=(Value.ref I,[])) rfl ?_)
 try dsimp only
 refine Vk (Vh o0 rfl (x:=.str z t) rfl ?_);refine Vk (Vh o0 rfl (x:=.int (-1) 0) rfl ?_);dsimp only;rw[V2 (by decide)];refine Vk (Vm ?_);refine Vk ?_;refine Vk (m:=setField (.ref I) 1 (rawInt (-1))) (Zv o0 (by simp) λ h1 L8 S4=>?_);refine wpAny_setField L8 rfl (by simp) ?_;refine Vk ?_;show wpAny _ _ (newExc (.type "StopIteration") [] >>= _) _ _ _
 refine Vk ?_;simp only[newExc,newTuple];refine Vk (Ue ?_ (by size_fits));refine Vk (m:=firstArgMember _ _) (Vi (a:=Value.none) (by first|rfl|(simp only[firstArgMember];rfl)) ?_);refine Ue ?_ (by size_fits);simp only[raiseNew];refine Vk (wpAny_handled ?_)
 first|rw[show A.in1.handled=none from hh]|rw[hh]
 refine Vk (Vl (wpAny_throw ?_));refine Vk (U2 (T:="StopIteration") (b:=true) ⟨_,Yz _ rfl,rfl⟩ isSubtype_stop ?_);exact Vl (hQ _ ((((S4.trans (Y5 ..))).extBut.push _).push _))
theorem qcK{I:Addr}{z:Str}{t:Tok}{i:Int}{Q:Value->Shared->Prop}(o0:s.heap.get? I=some (qdk z t i))(h:Q (.ref I) s):wpAny (model prog w) A (pyIter (.ref I)) Q E s:=by
 have hT:s.TypeIs (.ref I) "reversed":=⟨_,o0,rfl⟩;refine wpAny_pyIter_slot hT F.slot_reversed_iter (U0 F.slot_reversed_iter hT F.entry_reversed_iter ?_ (F.args_reversed_iter_1 _));show wpAny _ _ (ret (.ref I)) _ _ s
 exact Vl ⟨_,rfl,"reversed",_,hT,F.slot_reversed_next.lookup,h⟩
noncomputable def qjN(z:Str)(i:Nat):V:=.str ⟨#[z.cps.getD (z.length-1-i) 0]⟩
theorem Walks.rev(hh:A.handled=none)(I:Addr)(z:Str)(t:Tok)(hz:z.length<=sizeLine):
  Walks prog w A I [I] [I] z.length (λ i v=>qT (qjN z i) v) (λ i h=>h.get? I=some (qdk z t ((z.length:Int)-1-i))) where
 sub:=λ _ hb=>hb
 frame:=λ _ _ _ st hk=>hk I (by simp) _ st
 item:=λ i s Q E hi st hQ=>by
  have e:(z.length:Int)-1-i=((z.length-1-i:Nat):Int):=by omega
  rw[e] at st;have c7:z.length-1-i<z.cps.size:=by show _<z.length;omega
  refine qjL st hz (c:=z.cps.getD (z.length-1-i) 0) ?_ λ h' tk u E4 B6=>?_
  ·rw[Xi,Xs c7];rfl
  ·refine hQ _ h' tk ⟨u,rfl⟩ ?_ λ b o hb e=>B6.extBut b o (λ h=>hb (by simp[h])) e
   rw[E4];congr 1
   have:((z.length-1-i:Nat):Int)-1=(z.length:Int)-1-((i+1:Nat):Int):=by omega
   rw[this]
 done:=λ s Q E st hQ=>by
  have e:(z.length:Int)-1-(z.length:Nat)=-1:=by omega
  rw[e] at st;exact qjM hh st λ h' dX=>hQ h' s.toks λ b o hb e=>dX b o (λ h=>hb (by simp[h])) e
 self:=λ _ _ _ _ st hQ=>qcK st hQ
end
section
variable {X:Cx}
def qoH(ta:TA):TI:=λ σ H R=>ta σ H λ vs H1=>∃ z,vs=[.str z]/\z.length<=sizeLine/\R (ItV z.length (qjN z)) H1
theorem qmF{tg l:Expr}{ta:TA}{p pos:Pos}(hg:Gl X "reversed")(hm:X.mg "reversed"=none)(ha:PA X [l] ta)(hs:starEach [l] X.env=[(false,eval l X.env)]:=by rfl):
  PI X tg (.Call (.Name "reversed" p) [l] [] pos) (qoH ta):=by
 intro pins s σ H R I h;refine qcC hg hm F.boot_reversed ha I h (λ us s1 vs H1 I1 r1 q1=>?_) (hs:=hs);obtain⟨z,rfl,hz,q⟩:=q1;obtain⟨u,rfl,ru⟩:=yd r1;obtain⟨t,rfl⟩:=ru;refine qaY hz λ tk=>?_
 have B1:(s1.heap.push (qdk z t ((z.length:Int)-1))).get? s1.heap.objs.size=some (qdk z t ((z.length:Int)-1)):=Yz _ rfl;refine qcK B1 ⟨s1.heap.objs.size,[s1.heap.objs.size],_,_,H1,rfl,I1.kept (t':=tk) λ b o e=>XI _ e,
  qam (qjN z) (λ A hA=>Walks.rev hA _ z t hz) (λ i v h=>h) (λ i h st=>⟨_,_,_,st,rfl,rfl,by decide⟩) (λ _ _ _ _ _ st h=>qcK st h),?_,λ b hb=>?_,q⟩
 ·show(s1.heap.push _).get? _=some (qdk z t ((z.length:Int)-1-((0:Nat):Int)))
  rw[B1];congr 1;rw[show((0:Nat):Int)=0 from rfl,Int.sub_zero]
 ·have e:b=s1.heap.objs.size:=by simpa using hb
  subst e;exact I1.fpOk (Vc _) (I1.hok.fresh (Vc _))
end
namespace F
theorem lk_list_keys:typeLookup (.type "list") "keys"=pure none:=by rw[Jv,Yk];kernel_rfl
theorem entry_dict_update_loop:entryFor table "dict.update.loop"=some Builtin.«dict.update.loop»:=entryFor_of_fast (by kernel_rfl)
theorem plain_dict_update_loop:plainId "dict.update.loop"=true:=by decide +kernel
end F
section
variable {prog:Program}{w:World}{A:Around}{E:Value->Shared->Prop}{s:Shared}
theorem qin{a:Addr}{o:Obj}{xs:Array Value}{k:Nat}{Q:Option Value->Shared->Prop}(hx:s.heap.get? a=some o)(hc:o.cls=.type "list")(pH:o.data=.seq xs k)(hd:o.dict=none)(hA:A.handled=none)(h:∀ h' tk,(∀ b o,s.heap.get? b=some o->h'.get? b=some o)->Q none { s with heap:=h',toks:=tk }):wpAny (model prog w) A (getAttr? (.ref a) "keys") Q E s:=by
 obtain⟨c,dct,dat,sl⟩:=o;simp only at hc pH hd;subst hc pH hd;obtain⟨hp,g,d,tk,os⟩:=s;have hT:∀ cP,(⟨hp,g,d,cP,os⟩:Shared).TypeIs (.ref a) "list":=λ _=>⟨_,hx,rfl⟩
 have f1:=sub_AttributeError;have f3:=PySem.F.slot_list_getattribute.lookup;have f4:=PySem.F.slot_list_getattribute.bind (.ref a);have f5:=am_list_getattr_none;have hsz:("keys":Str).length+100<=sizeLine:=by decide
 unfold getAttr? getAttrBy? getAttrBy
 repeat (any_goals (first | assumption | exact hT _ | ((with_reducible show wpAny _ _ (call (Value.builtin "list.__getattribute__") _ _) _ _ _);refine Vp PySem.F.slot_list_getattribute (hT _) am_entry_list_getattribute (PySem.F.args_list_getattribute_2 _ _) (meets_getattribute_miss_list a xs k sl "keys" _ F.lk_list_keys (by decide +kernel) hsz) ⟨hx,hA,λ h' cP e p8=>?_⟩) | wp_step))
 obtain⟨t',u',he⟩:=p8.there;show wpAny _ _ (getattributeRaised _ _ _ _ _ _ _) _ _ _
 unfold getattributeRaised
 repeat (any_goals (first|assumption|wp_step))
 exact h _ _ p8.keeps
noncomputable def kvK(l:List (Str×V)):List (Key×V):=l.map λ x=>(.inr x.1,x.2)
theorem qfm(a b:List (Key×V))(x:Key×V):qW a (b++[x])=yJ (qW a b) x.1 x.2:=by
 unfold qW;rw[Z9];rfl
theorem qio{I l D:Addr}{items:Array Value}{pairs:List (Str×V)}{s0:Shared}{R:Result->Shared->Prop}(hh:A.handled=none)(hlI:l≠I)(hDI:D≠I)(hDl:D≠l)(hn:items.size=pairs.length)(hsz:pairs.length<=sizeLine)(hp:∀(j:Nat) kv,pairs[j]?=some kv->∃ p its tk u,items[j]?=some (.ref p)/\s0.heap.IsTuple p its/\its=#[.str kv.1 tk,u]/\qT kv.2 u/\p≠D/\p≠I)(hR:∀ s' aJ,s'.os=s0.os->s'.gens=s0.gens->s'.drawn=s0.drawn->(∀ b o,b≠D->b≠I->s0.heap.get? b=some o->s'.heap.get? b=some o)->s'.heap.DictOf (qw prog w) D aJ->KV (qW [] (kvK pairs)) aJ->R (.ok (.ret .none)) s'):
  ∀(k i:Nat)(s:Shared)(aJ:List (Key×Value))(ti:Tok),pairs.length-i=k->i<=pairs.length->s.os=s0.os->s.gens=s0.gens->s.drawn=s0.drawn->(∀ b o,b≠D->b≠I->s0.heap.get? b=some o->s.heap.get? b=some o)->s.heap.IsListIter I l i->s.heap.IsList l items ->
   s.heap.DictOf (qw prog w) D aJ->KV (qW [] (kvK (pairs.take i))) aJ->aJ.length<=i->codeAny (model prog w) A (.builtin "dict.update.loop" ⟨[.ref D,.ref I,.int i ti,.none],[]⟩) R s:=by
 intro k;induction k with
 |zero =>
  intro i s aJ ti hk hi e1 e2 e3 mM o0 hl hD fU fS;have aV:i=pairs.length:=by omega
  subst aV;refine Ju F.entry_dict_update_loop ?_;rw[Yo F.plain_dict_update_loop _];unfold Builtin.«dict.update.loop»;refine Vk ((Walks.list (A:=A.in1) (by simpa using hh) I l hlI items).done s _ _ (by rw[hn];exact⟨o0,hl⟩) λ h' tk P3=>?_);show wpAny _ _ (Builtin.Dict.addKeywords D [] >>= _) _ _ _
  refine Vk (Vl (Vl ?_));refine hR _ aJ e1 e2 e3 (λ b o P6 P5 e=>P3 b o (by simpa using P5) (mM b o P6 P5 e)) ?_ (by rw[Ux] at fU;exact fU);obtain⟨o,es,ep,ho,rest⟩:=hD;exact⟨o,es,ep,P3 D o (by simpa using hDI) ho,rest⟩
 |succ k ih =>
  intro i s aJ ti hk hi e1 e2 e3 mM o0 hl hD fU fS;have c7:i<pairs.length:=by omega
  refine Ju F.entry_dict_update_loop ?_;rw[Yo F.plain_dict_update_loop _];unfold Builtin.«dict.update.loop»;refine Vk ((Walks.list (A:=A.in1) (by simpa using hh) I l hlI items).item i s _ _ (by omega) ⟨o0,hl⟩ λ v h1 tk hP E2 P3=>?_);obtain⟨p,its,cP,u,ei,hT,rfl,ru,hpD,hpI⟩:=hp i pairs[i] (X1 c7);have ev:v=.ref p:=by rw[ei] at hP;exact(Option.some.inj hP).symm
  subst ev;obtain⟨ot,fM,tQ,nt,iO⟩:=hT;have oO:h1.get? p=some ot:=P3 p ot (by simpa using hpI) (mM p ot hpD hpI fM);have hD1:h1.DictOf (qw prog w) D aJ:=by
   obtain⟨o,es,ep,ho,rest⟩:=hD;exact⟨o,es,ep,P3 D o (by simpa using hDI) ho,rest⟩
  refine Vk (Qq ?_);refine Vk (wpAny_tryCatch ?_);unfold Builtin.Dict.pairItems;refine Vk (Va (T:="tuple") ⟨ot,oO,tQ⟩ ?_);simp only[show(Value.type "tuple" == Value.type "list")=false by decide,show(Value.type "tuple" == Value.type "tuple")=true by decide,Bool.or_true,Qk,Vz];refine Vk (wpAny_seqItems oO iO ?_);refine Vl ?_;show wpAny _ _ (holding _ (dictSet D (.str pairs[i].1 cP) u)) _ _ _
  refine Qq (wpAny_dictSet_pairs (hsz:=by omega) (k:=.inr pairs[i].1) (zn prog w _ cP) hD1 λ h2 eF t5=>?_);refine Vl ⟨Qs F.plain_dict_update_loop _,?_⟩;refine ih (i+1) { s with heap:=h2,toks:=tk+1 } (stored aJ (.inr pairs[i].1) u) 0 (by omega) c7 e1 e2 e3 (λ b o P6 P5 e=>(t5.2 b P6).trans (P3 b o (by simpa using P5) (mM b o P6 P5 e))) ?_ ?_ eF ?_ ?_
  ·exact E2.1.at λ o e=>(t5.2 I (Vx hDI)).trans e
  ·exact E2.2.at λ o e=>(t5.2 l (Vx hDl)).trans e
  ·have et:pairs.take (i+1)=pairs.take i++[pairs[i]]:=by rw[J7,X1 c7];rfl
   rw[et];unfold kvK;rw[Jg,Qi,List.map_nil,qfm];exact fU.put _ ru
  ·have:=fU.length
   have h2:=(fU.put (.inr pairs[i].1) ru).length;rw[<- h2];have h3:=yK (qW [] (kvK (pairs.take i))) (.inr pairs[i].1) pairs[i].2;omega
end
section
variable {X:Cx}
theorem qbO{α β:Type}{F:α->β->Prop}:∀{xs:List α}{l:List β},Paired F xs l->∀(k:Nat)(b:β),l[k]?=some b->∃ a,xs[k]?=some a/\F a b
 |_,_,.nil,k,b,h=>by simp at h
 |_,_,.cons r t,0,b,h=>by simp at h;subst h;exact⟨_,rfl,r⟩
 |_,_,.cons r t,k+1,b,h=>by
  obtain⟨a,h1,h2⟩:=qbO t k b (by simpa using h);exact⟨a,by simpa using h1,h2⟩
def qmG(K:W.Frag):List V->Hp->VK->Prop:=λ xs H Q=>∃(p:Addr)(ps:List Addr)(pairs:List (Str×V)),xs=[.ref p]/\SqL K H p (ps.map V.ref)/\Paired (λ a kv=>SqT K H a [.str kv.1,kv.2]) ps pairs /\
 ∀ d,H d=none->Q (.ref d) (upd H d (.dK (qW [] (kvK pairs))))
theorem vO(hc:X.calm=true):jh X (.type "dict") (qmG X.K):=by
 intro pins s σ H xs us Q I r h;obtain⟨l,ps,pairs,rfl,hq,aC,q⟩:=h;obtain⟨u,rfl,ru⟩:=yd r;cases ru
 obtain⟨its,rv,⟨ol,nl,hol,fS,hdl,tH⟩,hz⟩:=I.list hq;have hA:=I.ok.hd hc;have mK:l<s.heap.objs.size:=Qv hol;have c5:ps.length=pairs.length:=aC.length;have hits:its.length=pairs.length:=by rw[<- rv.length,U7];exact c5
 have hsz:pairs.length<=sizeLine:=by rw[U7] at hz;omega
 refine callType_codes (Q₁:=λ obj s₁=>obj=.ref s.heap.objs.size/\s₁={ s with heap:=s.heap.push { cls:=.type "dict",data:=.dict #[] } }) PySem.F.kt_called_dict (PySem.F.kt_typeCall_dict_1 _) PySem.F.entry_dict_init (kt_code_dict_new _ ⟨rfl,rfl⟩) ?_;rintro obj s₁ ⟨rfl,rfl⟩;have B1:(s.heap.push { cls:=.type "dict",data:=.dict #[] }).DictOf (qw X.prog X.w) s.heap.objs.size []:=Heap.DictOf.new s.heap;refine⟨B1.typeIs,PySem.F.args_dict_init_2 _ _,?_⟩;unfold Builtin.«dict.__init__»;refine Vk ?_;unfold Builtin.Dict.selfAndRest;refine Vk (wpAny_notOrdered_dict B1.typeIs ?_);show wpAny _ _ (pure (s.heap.objs.size,[Value.ref l])) _ _ _
 refine Vl ?_;show wpAny _ _ (Builtin.Dict.updateFrom "dict.__init__" s.heap.objs.size (.ref l) [] .none) _ _ _
 unfold Builtin.Dict.updateFrom;have iH:(s.heap.push { cls:=.type "dict",data:=.dict #[] }).get? l=some ol:=XI _ hol;refine Vk (Va (T:="list") ⟨ol,iH,fS⟩ ?_);rw[V2 (by decide)];refine Vk (qin (s:={ s with heap:=s.heap.push { cls:=.type "dict",data:=.dict #[] } }) iH fS tH hdl (by simpa using hA) λ h2 tk2 aT=>?_);simp only[Option.isNone_none,Vz];refine Vk (Vm ?_);have oP:h2.get? l=some ol:=aT l ol iH;have L7:h2.IsList l its.toArray:=⟨ol,oP,fS,nl,tH⟩;have eF:h2.DictOf (qw X.prog X.w) s.heap.objs.size []:=by
  obtain⟨o,es,ep,ho,rest⟩:=B1;exact⟨o,es,ep,aT _ o ho,rest⟩
 have iS:s.heap.objs.size<h2.objs.size:=by
  obtain⟨o,es,ep,ho,rest⟩:=eF;exact Qv ho
 have hllt:l<h2.objs.size:=Qv oP;refine Vk (Uf (s:={ s with heap:=h2,toks:=tk2 }) L7 ?_);refine Vl ⟨Qs F.plain_dict_update_loop _,?_⟩;have mP:∀ b o,s.heap.get? b=some o->(h2.push { cls:=.type "list_iterator",data:=.fields #[.ref l,.int 0 0] }).get? b=some o:=λ b o e=>XI _ (aT b o (XI _ e))
 refine qio (A:=X.A.in1) (I:=h2.objs.size) (l:=l) (D:=s.heap.objs.size) (items:=its.toArray) (pairs:=pairs) (s0:={ s with heap:=h2.push { cls:=.type "list_iterator",data:=.fields #[.ref l,.int 0 0] },toks:=tk2 })
  (by simpa using hA) (Qw hllt) (Qw iS) (Qz mK) (by rw[Zy];exact hits) hsz ?_ ?_ pairs.length 0 _ [] 0 (by omega) (Vd _) rfl rfl rfl (λ b o _ _ e=>e) ?_ ?_ ?_ (by rw[J8];exact .nil) (Vc _)
 ·intro j kv hkv;obtain⟨p,cD,hT⟩:=qbO aC j kv hkv;obtain⟨tis,rt,pt,_⟩:=I.tuple hT;obtain⟨u1,u2,e2,r1,r2⟩:=qhp rt;obtain⟨t1,rfl⟩:=r1;subst e2;obtain⟨ot,fM,tQ,nt,iO⟩:=pt;have oM:p<s.heap.objs.size:=Qv fM;obtain⟨v,hv,rvv⟩:=rv.get (i:=j) (x:=.ref p) (by rw[Zw,cD];rfl);cases rvv
  refine⟨p,_,t1,u2,by simpa using hv,⟨ot,mP p ot fM,tQ,nt,iO⟩,rfl,r2,Qw oM,Qw (Q0 oM iS)⟩
 ·intro s' aJ e1 e2 e3 mM hD fU;refine⟨rfl,?_⟩;have hf:=I.hok.fresh (Vc s.heap.objs.size);have hk4:∀ b o,s.heap.get? b=some o->s'.heap.get? b=some o:=λ b o e=>mM b o (Qw (Qv e)) (Qw (Q0 (Qv e) iS)) (mP b o e)
  have hmz:(qW [] (kvK pairs)).length<=sizeLine:=by
   have gen:∀(ls c6:List (Key×V)),(qW c6 ls).length<=c6.length+ls.length:=by
    intro ls;induction ls with
    |nil=>intro c6;exact Vc _
    |cons x ls ih =>
     intro c6;show(qW (yJ c6 x.1 x.2) ls).length<=_
     have:=ih (yJ c6 x.1 x.2)
     have h3:=yK c6 x.1 x.2;rw[Uo];omega
   have:=gen (kvK pairs) []
   have e:(kvK pairs).length=pairs.length:=by unfold kvK;rw[U7]
   simp at this;omega
  refine⟨.ref s.heap.objs.size,_,I.call' (s':=s') (ch:=[]) e1 (Un.laid hk4 (Vc _) hf) (I.hok.laid hk4 (Vc _) (qgj hmz (Zc.mpr (Vx (Qw I.big))) fU hD)) (by rw[e2];exact I.bare) (λ _ z=>nomatch z),rfl,q _ hf⟩
 ·exact⟨_,Yz _ rfl,rfl,rfl⟩
 ·exact L7.push _
 ·obtain⟨o,es,ep,ho,rest⟩:=eF;exact⟨o,es,ep,XI _ ho,rest⟩
theorem qfn{pins:List (Addr×Obj)}{σ:St}{H2:Hp}{s2:Shared}{NY:List Str}{o:Nat}{caps:List Nat}{scope:Scope}{fp:List Addr}{it:Addr}{tn:Nat->Heap->Prop}{adv:Adv}{stop:Nat->Hp->Prop}{K1 tg iter:Expr}{C6:List Expr}{pos:Pos}{tt:TT}{te:TE}{Q:VK}{R:Result->Shared->Prop}(S:CompScope X NY o caps scope)(I2:Inv X pins σ H2 s2)(G6:∀ b∈fp,jQ X pins H2 b)(i8:tn 0 s2.heap)(Wk:∀ C,Walk (zp X NY scope C s2 H2 fp pins) tg fp it tn adv stop)(ht:∀ C,PTs (zp X NY scope C s2 H2 fp pins) C6 tt)(he:∀ C,PE (zp X NY scope C s2 H2 fp pins) K1 te)(h:jj o caps adv stop tt te σ H2 Q)(fin:∀(s4:Shared)(H3:Hp)(m:Str->Option Value),s4.heap.Ns (s2.heap.objs.size+1) m->Inv X pins σ H3 s4->H3 (s2.heap.objs.size+1)=none->Q (.ref s2.heap.objs.size) H3->R (.ok .next) s4):
  wpAny (model X.prog X.w) X.A (newList []) (λ c6 s₃=>wpAny (model X.prog X.w) X.A (newFunctionEnv scope X.env.globals (j2 X.env scope.names []) [] X.env.qual none .none (some X.env)) (λ W9 s₄ =>
   c6=.ref s2.heap.objs.size/\W9.locals=s2.heap.objs.size+1/\codeAny (model X.prog X.w) X.A (.compStart (.ListComp K1 [⟨tg,iter,C6,0⟩] scope pos) 0 (.ref it) c6 { W9 with scope:=relabel scope X.env }) R s₄) X.xe s₃) X.xe s2:=by
 refine Ue (wpAny_newFunctionEnv S.nocell (by intro y hy;simp at hy) (λ h₁ hns₁ L0₁=>?_) S.kind);dsimp only at hns₁ L0₁ ⊢;have hC:(s2.heap.push { cls:=.type "list",dict:=none,data:=.seq ([]:List Value).toArray }).objs.size=s2.heap.objs.size+1:=Jz _ _;rw[hC] at hns₁ L0₁ ⊢;have w4:∀ b ob,s2.heap.get? b=some ob->h₁.get? b=some ob:=λ b ob e =>
  (L0₁.2 b (Qw (Z5 (Qv e)))).trans (XI _ (XI _ e))
 have hD:∃ n,h₁.get? s2.heap.objs.size=some { cls:=.type "list",data:=.seq ([]:List Value).toArray n }:=
  ⟨_,(L0₁.2 _ (Qw (Up _))).trans (XI _ (Yz _ rfl))⟩
 have aD:H2 s2.heap.objs.size=none:=I2.hok.fresh (Vc _);obtain⟨W,⟨m0,w0⟩,turn⟩:=h _ aD;have gW:=(Wk 0).obj 0 s2.heap i8;have I4:=qfc S I2 G6 (λ b hb=>(gW b hb).imp λ _ q=>q.1) (hns:=hns₁) w4 hD (s2.toks+([]:List (Str×Value)).length);have nB:tn 0 h₁:=(Wk 0).keep _ _ _ i8 λ b _ ob e=>w4 b ob e
 have fr4:∀ b∈fp,upd H2 s2.heap.objs.size (.lst []) b=none:=λ b hb=>by
  obtain⟨ob,e,_⟩:=gW b hb;rw[qv (Qw (Qv e))];exact(G6 b hb).1
 have loop:codeAny (model X.prog X.w) X.A (.compLoop (.ListComp K1 [⟨tg,iter,C6,0⟩] scope pos) 0 (.ref it) (.ref s2.heap.objs.size) (compEnvC scope (j2 X.env scope.names []) (s2.heap.objs.size+1) X.env))
   R { s2 with heap:=h₁,toks:=s2.toks+([]:List (Str×Value)).length }:=by
  have Wk:=Wk (s2.heap.objs.size+1);have ht:=ht (s2.heap.objs.size+1);have he:=he (s2.heap.objs.size+1);generalize hY:zp X NY scope (s2.heap.objs.size+1) s2 H2 fp pins=Y at Wk ht he I4;have iY:∀{H':Hp},(∀ b∈fp,H' b=none)->∀ b∈fp,jQ Y [] H' b:=λ{H'} hn b hb=>by
   subst hY;obtain⟨ob,e,_⟩:=gW b hb;have k:=I4.ok.exf b hb;refine⟨hn b hb,k.1,I4.ok.exfs b hb,.inl hb,k.2,λ p hp=>?_⟩;have D7:p∈X.pn++pins:=by
    have:p∈(X.pn++pins)++[]:=hp
    simpa using this
   exact(G6 b hb).2.2.2.2.2 p D7
  refine qaQ (λ n s'=>∃ i ys H',Inv Y [] (stY o caps σ) H' s'/\tn i s'.heap/\(∀ b∈fp,H' b=none)/\W i n ys H') ?_ m0 ⟨0,[],_,I4,nB,fr4,w0⟩;rintro n s3 ⟨i,ys,H3,I3,G4,bM,w3⟩;have eE:Y.xe=λ _ _=>False:=by subst hY;rfl
  have ePw:Y.prog=X.prog/\Y.w=X.w/\Y.A=X.A/\Y.env=compEnvC scope (j2 X.env scope.names []) (s2.heap.objs.size+1) X.env:=by subst hY;exact⟨rfl,rfl,rfl,rfl⟩
  obtain⟨eP,ew,eA,ee⟩:=ePw;rw[<- eP,<- ew,<- eA,<- ee,<- eE];rcases turn i n ys H3 w3 with⟨stp,qn⟩|av
  ·refine thn (Wk.done i [] s3 _ H3 I3 (iY bM) G4 stp) λ r s4 ⟨hr,I5⟩=>?_
   subst hr;obtain⟨m,hn,_⟩:=id I5.loc;have eC:Y.env.locals=s2.heap.objs.size+1:=by rw[ee];rfl
   rw[eC] at hn;have u:=I5.base;have iI:=I5.hok;have B2:=I5.free;rw[eC] at B2;have aZ:=I5.bare;have dQ:=I5.os;subst hY;have hs:Heap.SameBut (s2.heap.objs.size+1) s4.heap s4.heap:=⟨rfl,λ _ _=>rfl⟩;have u2:Un (frs X.stack) fp H2 H3 s2.heap s4.heap:=Un.but u hs (Ve _);have iJ:HOk X.prog X.w H3 s4.heap:=HOk.but iI hs B2;refine fin s4 H3 m hn ?_ B2 qn;obtain⟨hh,g,d,t,nI⟩:=s4;obtain rfl:nI=s2.os:=dQ;exact Inv.call (s:=s2) (h':=hh) (g':=g) (d':=d) (t':=t) (ch:=fp) I2 u2 iJ aZ λ b hb=>⟨(G6 b hb).2.2.2.1,(G6 b hb).2.1,(G6 b hb).2.2.2.2.1,(G6 b hb).2.2.2.2.2⟩
  ·refine thn (Wk.item i [] s3 _ H3 _ I3 (iY bM) G4 av) λ r s4 ⟨u,hr,h4⟩=>?_
   subst hr;refine thn h4 λ _ s5 h5=>thn h5 λ _ s6 ⟨σ6,H6,I6,⟨kp,q6⟩,aL,fr6⟩=>?_
   have I6':=I6.pinned (fp:=fp) (iY fr6) (Wk.obj _ _ aL);refine thn (ht _ s6 σ6 H6 _ I6' q6) λ b s7 ⟨H7,I7,q7⟩=>?_
   cases b with
   |false =>
    obtain⟨m',hm,w7⟩:=q7;obtain⟨J1,J2,J3⟩:=ye (tg:=tg) (tn:=tn) (i:=i+1) (Wk.obj _ _ aL) (λ h' k=>Wk.keep _ _ _ aL k) I7;exact⟨m',hm,i+1,ys,H7,J1.weak kp.2.symm kp.get,J2,J3,w7⟩
   |true =>
    refine thn (he _ s7 σ6 H7 _ I7 q7) λ y s8 ⟨yv,H8,I8,r8,hD8,xE,m',hm,w8⟩=>?_
    refine thn (zt (X:=Y) _ s8 σ6 H8 (.ref s2.heap.objs.size) [yv] _ _ (λ v H'=>v=.non/\H'=upd H8 s2.heap.objs.size (.lst (ys++[yv]))) I8 rfl (.cons r8 .nil) ⟨_,ys,yv,rfl,rfl,hD8,xE,rfl,rfl⟩) λ v s9 ⟨_,H9,I9,_,_,e9⟩=>?_
    subst e9;obtain⟨J1,J2,J3⟩:=ye (tg:=tg) (tn:=tn) (i:=i+1) (Wk.obj _ _ aL) (λ h' k=>Wk.keep _ _ _ aL k) I9;exact⟨m',hm,i+1,ys++[yv],_,J1.weak kp.2.symm kp.get,J2,J3,w8⟩
 exact⟨rfl,rfl,codeAny_compStart_list loop ((Wk 0).self _ 0 _ _ _ nB loop)⟩
theorem qeu{pins:List (Addr×Obj)}{σ:St}{H2:Hp}{s2:Shared}{i:Nat}{x:Str}{Q:St->Hp->Prop}{R:Flow->Shared->Prop}(I2:Inv X pins σ H2 s2)(hN:X.N.Nodup)(hi:X.N[i]?=some x)(hx:X.env.scope.names.lookup x=some .local)(hR:∀ s H,Inv X pins (σ.set i (some (.ref s2.heap.objs.size))) H s->Q (σ.set i (some (.ref s2.heap.objs.size))) H->R .next s){s4:Shared}{H3:Hp}{m:Str->Option Value}{x6:Pos}(hn:s4.heap.Ns (s2.heap.objs.size+1) m)(I4:Inv X pins σ H3 s4)(hf:H3 (s2.heap.objs.size+1)=none)(q:Q (σ.set i (some (.ref s2.heap.objs.size))) H3):
  wpAny (model X.prog X.w) X.A (assign (.Name x x6) X.env (.ref s2.heap.objs.size)) (λ _ O5=>∃ m,O5.heap.Ns (s2.heap.objs.size+1) m/\∀ h',Heap.SameBut (s2.heap.objs.size+1) O5.heap h'->R .next { O5 with heap:=h' }) X.xe s4:=by
 have hCL:s2.heap.objs.size+1≠X.env.locals:=Qz (Z5 I2.lt);have N3:∀ y c,X.env.cells.lookup y=some c->c≠s2.heap.objs.size+1:=λ y c e=>by
  obtain⟨v,o,ho,_⟩:=I2.cell y c e;exact Qw (Z5 (Qv ho))
 refine wpAny_assign_Name (qdr (v:=.ref s2.heap.objs.size) I4 hN hi (.inl hx) rfl (λ s5 I5 L0=>?_) (.inr hx));obtain⟨a,sb,ha⟩:=L0;have hCa:s2.heap.objs.size+1≠a:=by
  rcases ha with e|e
  ·rw[e];exact hCL
  ·exact Vx (N3 x a e)
 refine⟨m,hn.sameBut sb hCa,λ h' hs=>hR _ H3 ?_ q⟩;refine I5.turned (it:=s2.heap.objs.size+1) (t':=s5.toks) (λ b o hb e=>(hs.2 b hb).trans e) hf hCL (.inr (Ua I2.sz)) N3 λ p hp=>?_
 obtain⟨e,_⟩:=I2.pin p hp;exact Qw (Z5 (Qv e))
theorem qhz{i:Nat}{x:Str}{x6 pos:Pos}{K1 iter tg:Expr}{C6:List Expr}{scope:Scope}{cpos:Pos}{NY:List Str}{o:Nat}{caps:List Nat}{wi:TI}{g:TG}{tt:TT}{te:TE}(hN:X.N.Nodup)(hi:X.N[i]?=some x)(hx:X.env.scope.names.lookup x=some .local)(S:CompScope X NY o caps scope)(hc:X.calm=true)(o0:PI X tg iter wi)(hg:∀ C s H fp pins,PG (zp X NY scope C s H fp pins) tg g)(ht:∀ C s H fp pins,PTs (zp X NY scope C s H fp pins) C6 tt)(he:∀ C s H fp pins,PE (zp X NY scope C s H fp pins) K1 te)(hsw:swapsWith (.ListComp K1 [⟨tg,iter,C6,0⟩] scope cpos) (some (.Name x x6)) pos.line X.env=pure true:=by rfl)(hs:∀ x,foldedSetIterable iter X.env x=pure x:=by intro _;rfl):PS X (.Assign [.Name x x6] (.ListComp K1 [⟨tg,iter,C6,0⟩] scope cpos) pos) (qmj (ql0 o caps wi g tt te) (k9 i)):=by
 intro pins s σ H D I h;rw[exec_Assign_Name_used _ _ _ _ hsw];refine Vk (Qr (Vk ?_));refine Vk (X6 (env:=X.env) (use:=some (assign (.Name x x6) X.env)) (g:=⟨tg,iter,C6,0⟩) (gs:=[]) rfl hs (jC λ y hy e=>I.ok.has _ (S.frees y hy e)) S.kind S.locs ?_);refine thn (o0 pins s σ H _ I h) λ v s1 h1=>thn h1 λ fG s2 h2=>?_
 obtain⟨it,fp,tn,J,H2,e,I2,T,i8,f2,hr⟩:=h2;subst e;refine thn (qfn (iter:=iter) (pos:=cpos) (R:=λ r s'=>r=.ok .next/\wpAny (model X.prog X.w) X.A (assign (.Name x x6) X.env (.ref s2.heap.objs.size)) (λ _ O5=>∃ m,O5.heap.Ns (s2.heap.objs.size+1) m/\∀ h',Heap.SameBut (s2.heap.objs.size+1) O5.heap h'->SP X pins D .next { O5 with heap:=h' }) X.xe s')
  S I2 f2 i8 (λ C=>Turn.walk (Y:=zp X NY scope C s2 H2 fp pins) hc T (hg _ _ _ _ _)) (λ C=>ht _ _ _ _ _) (λ C=>he _ _ _ _ _) hr λ s4 H3 m hn I4 hf q=>⟨rfl,qeu (Q:=D.nx) (R:=SP X pins D) I2 hN hi hx (λ s H I q=>⟨_,H,I,q⟩) hn I4 hf q⟩) λ c6 s3 h3=>thn h3 λ W9 s4 h4=>?_
 obtain⟨rfl,eC,h4⟩:=h4;refine Q9 h4 λ r s5 ⟨er,h5⟩=>?_
 subst er;show wpAny _ _ (assign (.Name x x6) X.env (.ref s2.heap.objs.size)) _ _ s5
 rw[eC];refine thn h5 λ _ s6 ⟨m,hn,h6⟩=>⟨m,hn,λ h' B6=>?_⟩
 exact Vl (Vl (h6 h' B6))
end
theorem qg.seqT{K:W.Frag}{H H':Hp}{a:Addr}{xs:List V}(e:qg H H')(h:SqT K H a xs):SqT K H' a xs:=by
 rcases h with(h|⟨o,h⟩)|h
 ·exact .inl (.inl (e _ _ h))
 ·exact .inl (.inr ⟨o,e _ _ h⟩)
 ·exact .inr h
theorem qg.up{H:Hp}{p:Addr}(h:H p=none){o:HO}:qg H (upd H p o):=qcD h o
theorem qg.to{H H1:Hp}{p:Addr}(s:qg H H1)(h:H1 p=none){o:HO}:qg H (upd H1 p o):=s.trans (qcD h o)
theorem qg.at{H H1:Hp}{p:Addr}(s:qg H H1)(h:H p=none){o:HO}:qg H (upd H1 p o):=λ b u q=>by rw[qv (qZ q h)];exact s b u q
theorem qgz{X:Cx}{NY:List Str}{o:Nat}{caps:List Nat}{scope:Scope}(frees:List Str)(k:scope.kind=.function)(nd:NY.Nodup)(nc:scope.names.all (λ y=>y.2 != .cell)=true)(lc:scope.names.all (λ y=>y.2 != .local || scope.names.lookup y.1 == some .local)=true)(fr:scope.names.all (λ y=>y.2 != .free || frees.contains y.1)=true)(fk:∀ x∈frees,X.env.kindOf x=some .cell∨X.env.kindOf x=some .free)(cap:∀(j i:Nat),caps[j]?=some i->∃ x,NY[o+j]?=some x/\X.N[i]?=some x/\scope.names.lookup x=some .free)(len:NY.length=o+caps.length):CompScope X NY o caps scope where
 kind:=k
 nd:=nd
 nocell:=λ y hy e=>by have:=Uv.mp nc y hy;rw[e] at this;cases this
 frees:=λ y hy e=>by
  have:=Uv.mp fr y hy
  rw[e] at this;exact fk _ (Ya.mp this)
 locs:=λ y hy e=>by
  have:=Uv.mp lc y hy
  rw[e] at this;simpa using this
 capOk:=cap
 len:=len
theorem csc{X:Cx}{NY:List Str}{o:Nat}{caps:List Nat}{scope:Scope}(frees:List Str)(k:scope.kind=.function)(fk:∀ x∈frees,X.env.kindOf x=some .cell∨X.env.kindOf x=some .free)(cap:∀(j i:Nat),caps[j]?=some i->∃ x,NY[o+j]?=some x/\X.N[i]?=some x/\scope.names.lookup x=some .free)(len:NY.length=o+caps.length)(h:NY.Nodup ∧ scope.names.all (λ y=>y.2 != .cell)=true ∧ scope.names.all (λ y=>y.2 != .local || scope.names.lookup y.1 == some .local)=true ∧ scope.names.all (λ y=>y.2 != .free || frees.contains y.1)=true:=by decide +kernel):CompScope X NY o caps scope:=qgz frees k h.1 h.2.1 h.2.2.1 h.2.2.2 fk cap len
theorem jD{X:Cx}{NY:List Str}{o:Nat}{scope:Scope}:∀(j i:Nat),([]:List Nat)[j]?=some i->∃ x,NY[o+j]?=some x/\X.N[i]?=some x/\scope.names.lookup x=some .free:=λ j i h=>by simp at h
theorem vP{X:Cx}{NY:List Str}{o a:Nat}{as:List Nat}{scope:Scope}{x:Str}(h0:NY[o]?=some x)(h1:X.N[a]?=some x)(h2:scope.names.lookup x=some .free)(hr:∀(j i:Nat),as[j]?=some i->∃ x,NY[o+1+j]?=some x/\X.N[i]?=some x/\scope.names.lookup x=some .free):
  ∀(j i:Nat),(a::as)[j]?=some i->∃ x,NY[o+j]?=some x/\X.N[i]?=some x/\scope.names.lookup x=some .free
 |0,i,h=>by simp at h;subst h;exact⟨x,h0,h1,h2⟩
 |j+1,i,h=>by
  obtain⟨y,q⟩:=hr j i (by simpa using h);exact⟨y,by rw[show o+(j+1)=o+1+j by omega];exact q.1,q.2⟩
theorem qaZ{o:Nat}{caps:List Nat}{adv:Adv}{stop:Nat->Hp->Prop}{tt:TT}{te:TE}{σ:St}{H1:Hp}{Q:VK}(n:Nat)(out:Nat->List V)(h0:out 0=[])(c5:∀ i,i<n->(out i).length<sizeLine)(turn:∀(i:Nat)(H:Hp)(D:Addr)(Y:V->Hp->Prop)(Z:Hp->Prop),i<n->H1 D=none->H D=some (.lst (out i))->qg H1 H ->
   (∀ y H4,H4 D=some (.lst (out i))->qg H1 H4->out (i+1)=out i++[y]->Y y H4)->(∀ H3,H3 D=some (.lst (out i))->qg H1 H3->out (i+1)=out i->Z H3) ->
   adv i (stY o caps σ) H λ σ2 H2=>Kp o (stY o caps σ) σ2/\tt σ2 H2 λ b H3=>if b=true then te σ2 H3 Y else Z H3)(stp:∀ H,qg H1 H->stop n H)(fin:∀(D:Addr)(H:Hp),H1 D=none->qg H1 H->H D=some (.lst (out n))->Q (.ref D) H):jj o caps adv stop tt te σ H1 Q:=by
 intro D hD;refine⟨λ i m ys H=>m=n-i/\i<=n/\ys=out i/\H D=some (.lst (out i))/\qg H1 H,⟨n,by simp,Vd _,h0.symm,by rw[h0];exact qc,qg.up hD⟩,?_⟩;rintro i m ys H ⟨rfl,hi,rfl,hH,sm⟩;by_cases c7:i<n
 ·refine .inr (turn i H D _ _ c7 hD hH sm (λ y H4 e1 e2 e3=>⟨e1,c5 i c7,n-(i+1),by omega,rfl,c7,e3.symm,by rw[e3];exact qc,e2.at hD⟩) (λ H3 e1 e2 e3=>⟨n-(i+1),by omega,rfl,c7,e3.symm,by rw[e3];exact e1,e2⟩))
 ·have e:i=n:=by omega
  subst e;exact .inl ⟨stp H sm,fin D H hD sm hH⟩
theorem jm{o:Nat}{caps:List Nat}{adv:Adv}{stop:Nat->Hp->Prop}{tt:TT}{te:TE}{σ:St}{H1:Hp}{Q:VK}(n:Nat)(R:Nat->List V->Hp->Prop)(h0:∀ D,H1 D=none->R 0 [] (upd H1 D (.lst [])))(c5:∀ i ys H,i<n->R i ys H->ys.length<sizeLine)(turn:∀(i:Nat)(ys:List V)(H:Hp)(D:Addr)(Y:V->Hp->Prop)(Z:Hp->Prop),i<n->H1 D=none->H D=some (.lst ys)->qg H1 H->R i ys H ->
   (∀ y H4,H4 D=some (.lst ys)->qg H1 H4->R (i+1) (ys++[y]) (upd H4 D (.lst (ys++[y])))->Y y H4)->(∀ H3,H3 D=some (.lst ys)->qg H1 H3->R (i+1) ys H3->Z H3) ->
   adv i (stY o caps σ) H λ σ2 H2=>Kp o (stY o caps σ) σ2/\tt σ2 H2 λ b H3=>if b=true then te σ2 H3 Y else Z H3)(stp:∀ H,qg H1 H->stop n H)(fin:∀(D:Addr)(H:Hp)(ys:List V),H1 D=none->qg H1 H->H D=some (.lst ys)->R n ys H->Q (.ref D) H):jj o caps adv stop tt te σ H1 Q:=by
 intro D hD;refine⟨λ i m ys H=>m=n-i/\i<=n/\H D=some (.lst ys)/\qg H1 H/\R i ys H,⟨n,by simp,Vd _,qc,qg.up hD,h0 D hD⟩,?_⟩;rintro i m ys H ⟨rfl,hi,hH,sm,r⟩;by_cases c7:i<n
 ·refine .inr (turn i ys H D _ _ c7 hD hH sm r (λ y H4 e1 e2 e3=>⟨e1,c5 i ys H c7 r,n-(i+1),by omega,rfl,c7,qc,e2.at hD,e3⟩) (λ H3 e1 e2 e3=>⟨n-(i+1),by omega,rfl,c7,e1,e2,e3⟩))
 ·have e:i=n:=by omega
  subst e;exact .inl ⟨stp H sm,fin D H ys hD sm hH r⟩
section
variable {K:W.Frag}{o:Nat}{caps:List Nat}{g:TG}{tg:TGs}{tt:TT}{te:TE}{σ:St}{H1:Hp}{Q:VK}
abbrev qfo(o:Nat)(caps:List Nat)(σ:St)(tt:TT)(te:TE)(Y:V->Hp->Prop)(Z:Hp->Prop):St->Hp->Prop:=λ σ2 H2=>Kp o (stY o caps σ) σ2/\tt σ2 H2 λ b H3=>if b=true then te σ2 H3 Y else Z H3
theorem qev{a:Addr}{xs:List V}(hx:SqL K H1 a xs)(out:Nat->List V)(h0:out 0=[])(c5:∀ i,i<xs.length->(out i).length<sizeLine)(turn:∀(i:Nat)(x:V)(H:Hp)(D:Addr)(Y:V->Hp->Prop)(Z:Hp->Prop),xs[i]?=some x->H1 D=none->H D=some (.lst (out i))->qg H1 H ->
   (∀ y H4,H4 D=some (.lst (out i))->qg H1 H4->out (i+1)=out i++[y]->Y y H4)->(∀ H3,H3 D=some (.lst (out i))->qg H1 H3->out (i+1)=out i->Z H3)->g x (stY o caps σ) H (qfo o caps σ tt te Y Z))(fin:∀(D:Addr)(H:Hp),H1 D=none->qg H1 H->H D=some (.lst (out xs.length))->Q (.ref D) H):jj o caps (qdF (Itl K a) g) (Itl K a).stop tt te σ H1 Q:=
 qaZ xs.length out h0 c5 (λ i H D Y Z hi hD hH sm hy hz=>⟨⟨xs,xs[i],sm.seq hx,X1 hi⟩,λ x H' ⟨e,p8⟩=>by subst e;exact turn i x _ D Y Z (p8 xs (sm.seq hx)) hD hH sm hy hz⟩) (λ H sm=>⟨xs,sm.seq hx,Vc _⟩) fin
theorem qmH{a:Addr}{xs:List V}(hx:SqT K H1 a xs)(out:Nat->List V)(h0:out 0=[])(c5:∀ i,i<xs.length->(out i).length<sizeLine)(turn:∀(i:Nat)(x:V)(H:Hp)(D:Addr)(Y:V->Hp->Prop)(Z:Hp->Prop),xs[i]?=some x->H1 D=none->H D=some (.lst (out i))->qg H1 H ->
   (∀ y H4,H4 D=some (.lst (out i))->qg H1 H4->out (i+1)=out i++[y]->Y y H4)->(∀ H3,H3 D=some (.lst (out i))->qg H1 H3->out (i+1)=out i->Z H3)->g x (stY o caps σ) H (qfo o caps σ tt te Y Z))(fin:∀(D:Addr)(H:Hp),H1 D=none->qg H1 H->H D=some (.lst (out xs.length))->Q (.ref D) H):jj o caps (qdF (Itt K a) g) (Itt K a).stop tt te σ H1 Q:=
 qaZ xs.length out h0 c5 (λ i H D Y Z hi hD hH sm hy hz=>⟨⟨xs,xs[i],sm.seqT hx,X1 hi⟩,λ x H' ⟨e,p8⟩=>by subst e;exact turn i x _ D Y Z (p8 xs (sm.seqT hx)) hD hH sm hy hz⟩) (λ H sm=>⟨xs,sm.seqT hx,Vc _⟩) fin
theorem qjO{lo:Int}{n:Nat}(out:Nat->List V)(h0:out 0=[])(c5:∀ i,i<n->(out i).length<sizeLine)(turn:∀(i:Nat)(H:Hp)(D:Addr)(Y:V->Hp->Prop)(Z:Hp->Prop),i<n->H1 D=none->H D=some (.lst (out i))->qg H1 H ->
   (∀ y H4,H4 D=some (.lst (out i))->qg H1 H4->out (i+1)=out i++[y]->Y y H4)->(∀ H3,H3 D=some (.lst (out i))->qg H1 H3->out (i+1)=out i->Z H3)->g (.int (lo+i)) (stY o caps σ) H (qfo o caps σ tt te Y Z))(fin:∀(D:Addr)(H:Hp),H1 D=none->qg H1 H->H D=some (.lst (out n))->Q (.ref D) H):jj o caps (qdF (Itr lo n) g) (Itr lo n).stop tt te σ H1 Q:=
 qaZ n out h0 c5 (λ i H D Y Z hi hD hH sm hy hz=>⟨hi,λ x H' ⟨e,ex⟩=>by subst e ex;exact turn i _ D Y Z hi hD hH sm hy hz⟩) (λ H sm=>Vc _) fin
theorem qew{n:Nat}{val:Nat->V}(out:Nat->List V)(h0:out 0=[])(c5:∀ i,i<n->(out i).length<sizeLine)(turn:∀(i:Nat)(H:Hp)(D:Addr)(Y:V->Hp->Prop)(Z:Hp->Prop),i<n->H1 D=none->H D=some (.lst (out i))->qg H1 H ->
   (∀ y H4,H4 D=some (.lst (out i))->qg H1 H4->out (i+1)=out i++[y]->Y y H4)->(∀ H3,H3 D=some (.lst (out i))->qg H1 H3->out (i+1)=out i->Z H3)->g (val i) (stY o caps σ) H (qfo o caps σ tt te Y Z))(fin:∀(D:Addr)(H:Hp),H1 D=none->qg H1 H->H D=some (.lst (out n))->Q (.ref D) H):jj o caps (qdF (ItV n val) g) (ItV n val).stop tt te σ H1 Q:=
 qaZ n out h0 c5 (λ i H D Y Z hi hD hH sm hy hz=>⟨hi,λ x H' ⟨e,ex⟩=>by subst e ex;exact turn i _ D Y Z hi hD hH sm hy hz⟩) (λ H sm=>rfl) fin
theorem qgA{a b:Addr}{xs ys:List V}(hx:SqL K H1 a xs)(hy:SqL K H1 b ys)(hl:xs.length=ys.length)(out:Nat->List V)(h0:out 0=[])(c5:∀ i,i<xs.length->(out i).length<sizeLine)(turn:∀(i:Nat)(x y:V)(H:Hp)(D:Addr)(Y:V->Hp->Prop)(Z:Hp->Prop),xs[i]?=some x->ys[i]?=some y->H1 D=none->H D=some (.lst (out i))->qg H1 H ->
   (∀ y H4,H4 D=some (.lst (out i))->qg H1 H4->out (i+1)=out i++[y]->Y y H4)->(∀ H3,H3 D=some (.lst (out i))->qg H1 H3->out (i+1)=out i->Z H3)->tg [x,y] (stY o caps σ) H (qfo o caps σ tt te Y Z))(fin:∀(D:Addr)(H:Hp),H1 D=none->qg H1 H->H D=some (.lst (out xs.length))->Q (.ref D) H):jj o caps (qgq (ItZ K a b) 2 tg) (ItZ K a b).stop tt te σ H1 Q:=
 qaZ xs.length out h0 c5 (λ i H D Y Z hi hD hH sm nY hz=>⟨⟨xs,ys,xs[i],ys[i]'(by omega),sm.seq hx,sm.seq hy,X1 hi,X1 (by omega)⟩,λ zs H' ⟨e,x,y,ez,p8,xI⟩=>by
  subst e ez;exact⟨rfl,turn i x y _ D Y Z (p8 xs (sm.seq hx)) (xI ys (sm.seq hy)) hD hH sm nY hz⟩⟩) (λ H sm=>⟨xs,ys,sm.seq hx,sm.seq hy,.inl (Vc _)⟩) fin
end
theorem zh{n:Nat}(h:n<=100000):n<sizeLine:=Zl h (by decide)
theorem qp{n:Nat}(h:n<=100000):n<=sizeLine:=Qy (zh h)
theorem vk{Q:VK}{x y:V}{H:Hp}(e:x=y)(h:Q y H):Q x H:=e ▸ h
theorem ql{α β:Type}{f:α->β}{l:List α}{i:Nat}{y:β}(h:(l.map f)[i]?=some y):∃ x,l[i]?=some x/\y=f x:=by
 rw[Zw] at h;cases e:l[i]? with
 |none=>rw[e] at h;cases h
 |some x=>rw[e] at h;exact⟨x,rfl,(Option.some.inj h).symm⟩
theorem q9{α:Type}{l:List α}{i:Nat}{x:α}(h:l[i]?=some x):l.take (i+1)=l.take i++[x]:=by rw[J7,h];rfl
theorem yP{α β:Type}{f:α->β}{l:List α}{i:Nat}{x:α}(h:l[i]?=some x):(l.take (i+1)).map f=(l.take i).map f++[f x]:=by rw[q9 h,Jg];rfl
theorem qaq{α β γ:Type}{f:α->β->γ}{as:List α}{bs:List β}{i:Nat}{a:α}{b:β}(h1:as[i]?=some a)(h2:bs[i]?=some b):(List.zipWith f as bs)[i]?=some (f a b):=by
 rw[List.getElem?_zipWith,h1,h2]
theorem j6{α:Type}{l:List α}{i:Nat}{x:α}(h:l[i]?=some x):i<l.length:=(Xq.mp h).1
theorem qln(a b:Bool):(!decide (V.bl a=V.bl b))=(a != b):=by cases a <;> cases b <;> rfl
theorem zv(a b:List Nat):qj a++qj b=qj (a++b):=by
 show(⟨a.toArray++b.toArray⟩:Str)=⟨(a++b).toArray⟩
 rw[List.append_toArray]
theorem qu(a:List Nat):(qj a).length=a.length:=by
 show a.toArray.size=a.length
 simp
theorem qa0(F:List (List Nat)):Txt.join ("":Str) (F.map qj)=qj F.flatten:=by
 show(⟨((F.map qj).drop 1).foldl (λ c6 p=>c6++("":Str).cps++p.cps) ((F.map qj).headD Str.empty).cps⟩:Str)=qj F.flatten
 have e0:("":Str).cps=#[]:=by decide
 rw[e0];have gen:∀(G:List (List Nat))(c6:Array Nat),(G.map qj).foldl (λ c6 p=>c6++#[]++p.cps) c6=c6++(G.flatten).toArray:=by
  intro G;induction G with
  |nil=>intro c6;simp
  |cons g G ih =>
   intro c6;rw[Qi,Jd,ih,Z0];show c6++#[]++g.toArray++G.flatten.toArray=c6++(g++G.flatten).toArray
   simp
 cases F with
 |nil=>rfl
 |cons f F =>
  show(⟨(F.map qj).foldl (λ c6 p=>c6++#[]++p.cps) f.toArray⟩:Str)=qj (f++F.flatten)
  rw[gen F f.toArray,List.append_toArray];rfl
theorem yU(F:List (List Nat)):F.map vS=(F.map qj).map V.str:=by rw[Q4];rfl
theorem qmI(F:List (List Nat)):(F.map qj).map cs=F:=by
 rw[Q4]
 have:cs ∘ qj=id:=rfl
 rw[this,List.map_id]
theorem yQ{a b:List Nat}(h:qj a=qj b):a=b:=congrArg cs h
theorem qa1{F:List (List Nat)}{x:Str}:x∈F.map qj ↔ cs x∈F:=by
 rw[Q3];constructor
 ·rintro⟨a,ha,rfl⟩;exact ha
 ·intro h;exact⟨cs x,h,rfl⟩
theorem qa2(F:List (List Nat)):((F.map qj).map (·.length)).sum=F.flatten.length:=by
 induction F with
 |nil=>rfl
 |cons f F ih =>
  rw[Qi,Qi,Qo,ih,qu,Z0,Zj]
theorem qhA{us:List Str}{F:List (List Nat)}(h1:us.Nodup)(h2:F.Nodup)(h:∀ x,x∈us ↔ cs x∈F):(qaS us).map V.str=(Fs.srt F).map vS:=by
 unfold qaS;rw[yU];have hp:(us.map cs).Perm F:=by
  refine(Xl ?_ h2).mpr λ p=>?_
  ·exact Z4.mpr (h1.imp λ{a b} x4 e=>x4 (qgt e))
  ·rw[Q3];constructor
   ·rintro⟨x,hx,rfl⟩;exact(h x).mp hx
   ·intro hp;exact⟨qj p,(h _).mpr hp,rfl⟩
 rw[Fs.srt_perm_eq hp]
theorem qa3{us:List Str}{F:List (List Nat)}(h1:us.Nodup)(h2:F.Nodup)(h:∀ x,x∈us ↔ cs x∈F):us.length=F.length:=by
 have hp:(us.map cs).Perm F:=by
  refine(Xl ?_ h2).mpr λ p=>?_
  ·exact Z4.mpr (h1.imp λ{a b} x4 e=>x4 (qgt e))
  ·rw[Q3];constructor
   ·rintro⟨x,hx,rfl⟩;exact(h x).mp hx
   ·intro hp;exact⟨qj p,(h _).mpr hp,rfl⟩
 rw[<- hp.length_eq,U7]
end L2
namespace Fs
structure On(ls:List Nat)(F:List Pr):Prop where
 vf:Vf F
 mem:∀ p∈F,∀ c∈p,c∈ls
theorem On.sub{ls:List Nat}{F:List Pr}(h:On ls F)(hl:ls.Pairwise (·<·)):∀ p∈F,p.Sublist ls:=λ p hp=>vH hl (h.vf.prod p hp) (h.mem p hp)
theorem On.len{ls:List Nat}{F:List Pr}(h:On ls F)(hl:ls.Pairwise (·<·)):F.length<=2^ls.length:=by
 rw[<- qM];exact jI h.vf.nodup λ p hp=>zC.mpr (h.sub hl p hp)
theorem On.added{ls:List Nat}{F G:List Pr}(hF:On ls F)(hG:On ls G):On ls (added F G):=⟨qfa hF.vf hG.vf,λ p hp=>by
 rcases qco.mp (kK.mp hp) with h|h
 ·exact hF.mem p h.1
 ·exact hG.mem p h.1⟩
theorem qcL{ls:List Nat}{F:List Pr}(h:∀ p∈F,∀ c∈p,c∈ls):∀ c∈qH F,c∈ls:=λ c hc=>by
 obtain⟨p,hp,hc⟩:=ju.mp hc;exact h p hp c hc
theorem qfp{ls:List Nat}{F:List Pr}(hl:ls.Pairwise (·<·))(h:∀ p∈F,∀ c∈p,c∈ls):(qH F).length<=ls.length:=
 (vH hl (zy F) (qcL h)).length_le
theorem On.formOf{ls:List Nat}(hl:ls.Pairwise (·<·))(t:List Bool):On ls (formOf ls t):=⟨qdE hl t,λ p hp c hc=>(vI hp).subset hc⟩
theorem On.mult{ls:List Nat}{F G:List Pr}(hF:On ls F)(hG:On ls G):On ls (mult F G):=⟨qhv F G,λ p hp c hc=>by
 have:=(vI hp).subset hc
 refine qcL (F:=F++G) (λ q hq=>?_) c this;rcases U5.mp hq with h|h
 ·exact hF.mem q h
 ·exact hG.mem q h⟩
theorem On.one(ls:List Nat):On ls [[]]:=⟨qjw,by simp⟩
theorem On.nil(ls:List Nat):On ls []:=⟨qmx,by simp⟩
theorem On.opp{ls:List Nat}{F:List Pr}(hF:On ls F):On ls (opp F):=hF.added (On.one ls)
theorem On.join{ls:List Nat}{F G:List Pr}(hF:On ls F)(hG:On ls G):On ls (join F G):=(hF.added hG).added (hF.mult hG)
end Fs
namespace L2
open PySem PySem.Spec PyProof.Rows
section
variable {X:Cx}
theorem kS:OpR X (compareOp .In) (λ x y H Q=>∃(c:Nat)(p:List Nat),x=vS [c]/\y=vS p/\Q (.bl (decide (c∈p))) H):=by
 intro pins s σ H x y v u Q I rx ry h;obtain⟨c,p,rfl,rfl,q⟩:=h;refine qh5 pins s σ H _ _ v u Q I rx ry ⟨_,_,rfl,rfl,?_⟩;rw[show qj [c]=(⟨#[c]⟩:Str) from rfl,empty_one,Bool.not_not];exact q
theorem j7:OpR X (compareOp .NotIn) (λ x y H Q=>∃(c:Nat)(p:List Nat),x=vS [c]/\y=vS p/\Q (.bl (!decide (c∈p))) H):=by
 intro pins s σ H x y v u Q I rx ry h;obtain⟨c,p,rfl,rfl,q⟩:=h;refine qel pins s σ H _ _ v u Q I rx ry ⟨_,_,rfl,rfl,?_⟩;rw[show qj [c]=(⟨#[c]⟩:Str) from rfl,empty_one,Bool.not_not];exact q
end
theorem Inv.lays{X:Cx}{pins:List (Addr×Obj)}{σ:St}{H H':Hp}{s:Shared}{h':Heap}{t':Nat}(I:Inv X pins σ H s)(k:∀ b u,s.heap.get? b=some u->h'.get? b=some u)(sm:qg H H')(N1:∀ b,b<s.heap.objs.size->H b=none->H' b=none)(new:∀ a o,H' a=some o->H a=some o∨zG X.prog X.w H' h' a o):Inv X pins σ H' { s with heap:=h',toks:=t' }:=by
 refine I.un ⟨λ b ob q _ _ _=>k b ob q,λ b ob q _ _ _=>⟨ob.slots,k b ob q⟩,λ b ob q n _=>N1 b (Qv q) n,λ b ob q _=>⟨ob,k b ob q⟩,λ b xs q=>sm _ _ q,λ b o u q=>sm _ _ q,λ b ps q=>⟨#[],by rw[sm _ _ q];simp⟩⟩ ?_;intro a o e;rcases new a o e with q|q
 ·exact(I.hok a o q).stay (λ b u _ q=>k b u q) (λ b q=>sm _ _ q) λ b xs q=>sm _ _ q
 ·exact q
noncomputable def qex(H:Hp):List (Addr×V×V)->Hp
 | []=>H
 |(a,x,y)::ps=>upd (qex H ps) a (.tup [x,y])
theorem qfq{H:Hp}:∀{ps:List (Addr×V×V)}{b:Addr},b∉ps.map (·.1)->qex H ps b=H b
 | [],b,_=>rfl
 |(a,x,y)::ps,b,h=>by
  rw[Qi,Qh] at h;show upd (qex H ps) a _ b=_
  rw[qv (λ e=>h (.inl e)),qfq λ e=>h (.inr e)]
theorem qhB{H:Hp}:∀{ps:List (Addr×V×V)}{a:Addr}{x y:V},(ps.map (·.1)).Nodup->(a,x,y)∈ps->qex H ps a=some (.tup [x,y])
 | [],_,_,_,_,h=>by cases h
 |(b,u,v)::ps,a,x,y,nd,h=>by
  rw[Qi,U9] at nd;show upd (qex H ps) b _ a=_
  rcases Qh.mp h with e|e
  ·cases e;exact qc
  ·have:a≠b:=λ q=>nd.1 (by rw[<- q];exact Q3.mpr ⟨_,e,rfl⟩)
   rw[qv this];exact qhB nd.2 e
theorem qfr{H:Hp}:∀{ps:List (Addr×V×V)}{b:Addr}{o:HO},qex H ps b=some o->H b=some o∨∃ x y,(b,x,y)∈ps/\o=.tup [x,y]
 | [],_,_,h=>.inl h
 |(a,x,y)::ps,b,o,h=>by
  have h:upd (qex H ps) a (.tup [x,y]) b=some o:=h;by_cases e:b=a
  ·subst e;rw[qc] at h;cases h;exact .inr ⟨x,y,Zf ..,rfl⟩
  ·rw[qv e] at h;rcases qfr h with q | ⟨u,v,q,r⟩
   ·exact .inl q
   ·exact .inr ⟨u,v,Yl _ q,r⟩
theorem qdN{α β:Type}{F:α->β->Prop}:∀{l:List α}{m:List β},l.length=m.length->(∀(j:Nat) a b,l[j]?=some a->m[j]?=some b->F a b)->Paired F l m
 | [],[],_,_=>.nil
 | [],_::_,h,_=>by simp at h
 |_::_,[],h,_=>by simp at h
 |a::l,b::m,h,f=>.cons (f 0 a b rfl rfl) (qdN (by simpa using h) λ j c d e1 e2=>f (j+1) c d (by simpa using e1) (by simpa using e2))
theorem qjP:bootBuiltins "list"=some (.type "list"):=by decide +kernel
structure Mk0(K:W.Frag)(C:Addr):Prop where
 makes:W.makesIn K C=true
 init:W.findIn K (.ref C) "__init__"=some (some (.builtin "object.__init__"))
 kp:W.keepIn K (.ref C)=true
def qmJ(C:Addr):TE:=λ σ H Q=>∀ x dx,H x=none->H dx=none->dx≠x->Q (.ref x) (upd (upd H dx (.own x)) x (.ins C dx []))
theorem qfs{X:Cx}{C:Addr}{x:Str}{p pos:Pos}(M:Mk0 X.K C)(hg:Gl X x)(hm:X.mg x=some (.ref C))(V8:(x == ("__debug__":Str))=false:=by decide):PE X (.Call (.Name x p) [] [] pos) (qmJ C):=by
 intro pins s σ H Q I h;refine Zs (qb0 I hg hm ?_ V8);refine W.callWith_K0 I.kIn M.kp (wpAny_call (qh9 I.kIn M.makes M.init (λ self=>PySem.W.Looks.of_pure (W.oi_bind self)) ?_));have Y:=W.makes_of (M:=model X.prog X.w) I.kIn M.makes;have hx:((s.heap.push W.emptyDict).push (W.instObj C s.heap.objs.size)).get? (s.heap.objs.size+1)=some (W.instObj C s.heap.objs.size):=by
  rw[<- Jz s.heap W.emptyDict];exact Yz _ rfl
 have t1:PySem.W.Looks (model X.prog X.w) ((s.heap.push W.emptyDict).push (W.instObj C s.heap.objs.size)) (typeOf (.ref (s.heap.objs.size+1))) (.ref C):=(PySem.W.Looks.ld hx).andThen .now;have t2:PySem.W.Looks (model X.prog X.w) ((s.heap.push W.emptyDict).push (W.instObj C s.heap.objs.size)) (isInstance (.ref (s.heap.objs.size+1)) (.type "object")) true:=t1.andThen (Y.top.keeps λ b o e=>XI _ (XI _ e));refine codeAny_call_builtin W.oi_plain W.entry_oi (@W.check_slot (model X.prog X.w) _ _ _ "object.__init__" "object" "__init__" (.ref (s.heap.objs.size+1)) [] [] _ W.oi_kind W.oi_split t2 (W.oi_args _) ?_);rw[W.oi_run];have hq:=h (s.heap.objs.size+1) s.heap.objs.size (I.hok.fresh (Ve _)) (I.hok.fresh (Vc _)) (Qw (Up _));exact Vl (And.intro rfl ⟨.ref (s.heap.objs.size+1),_,Inv.made (C:=C) I,rfl,hq⟩)
theorem PE.or{X:Cx}{e:Expr}{t u:TE}(h:PE X e t)(h':PE X e u):PE X e (λ σ H Q=>t σ H Q∨u σ H Q):=λ pins s σ H Q I hw=>hw.elim (h pins s σ H Q I) (h' pins s σ H Q I)
theorem qlo{k:Key}{v:Value}(h:qce k v=true):qT (kV k) v:=by
 rcases zj h with⟨i,t,rfl,rfl⟩|⟨x,t,rfl,rfl⟩
 ·exact⟨t,rfl⟩
 ·exact⟨t,rfl⟩
theorem qa4{α β:Type}{F:α->β->Prop}:∀{xs:List α}{l:List β},Paired F xs l->∀(k:Nat)(a:α),xs[k]?=some a->∃ b,l[k]?=some b/\F a b
 |_,_,.nil,k,a,h=>by simp at h
 |_,_,.cons r t,0,a,h=>by simp at h;subst h;exact⟨_,rfl,r⟩
 |_,_,.cons r t,k+1,a,h=>qa4 t k a (by simpa using h)
def qgB(to:TE):TE:=λ σ H Q=>to σ H λ x H1=>∃(d:Addr)(kvs:List (Key×V)),x=.ref d/\H1 d=some (.dK kvs) /\
 ∀(l:Addr)(as:List Addr)(H2:Hp),qg H1 H2->H2 l=some (.lst (as.map V.ref))->Paired (λ c (p:Key×V)=>H2 c=some (.tup [kV p.1,p.2])) as kvs->Q (.ref l) H2
theorem qey{X:Cx}{o:Expr}{to:TE}{p pos apos cpos:Pos}(hc:X.calm=true)(hgl:Gl X "list")(hml:X.mg "list"=none)(ho:PE X o to)(N6:attributeBase o "items" X.env (eval o X.env)=eval o X.env:=by rfl)(N2:(apos.endLine == cpos.line)=true:=by rfl)(hs0:starEach [.Call (.Attribute o "items" apos) [] [] cpos] X.env=[(false,eval (.Call (.Attribute o "items" apos) [] [] cpos) X.env)]:=by rfl):
  PE X (.Call (.Name "list" p) [.Call (.Attribute o "items" apos) [] [] cpos] [] pos) (qgB to):=by
 intro pins s σ H Q I h;refine Zs (qbn I hgl hml qjP ?_);refine Xh ?_ (by rw[hs0];rfl) (by rfl);rw[hs0];show wpAny _ _ (spliced [(false,eval (.Call (.Attribute o "items" apos) [] [] cpos) X.env)]) _ _ s
 refine Zi ?_;refine wpAny_Call_method0_late N6 N2 (thn (ho pins s σ H _ I h) λ v s1 ⟨x,H1,I1,r1,q1⟩=>?_);obtain⟨d,kvs,rfl,hd,q⟩:=q1;cases r1
 obtain⟨hz,hS,vs,rel,dd⟩:=qhr I1.hok hd;obtain⟨h1,h2⟩:=qgn (T:="dict") I1 (x:=.ref d) (v:=.ref d) rfl (.inr (.inr (.inl ⟨rfl,.inl ⟨kvs,hd⟩⟩)));refine⟨"dict","dict.items",X8,PySem.F.slot_dict_items,PySem.F.type_dict_items,h1,h2,XJ rfl (PySem.evalArgs_none ?_)⟩;refine call_meetsIn PySem.F.slot_dict_items dd.typeIs PySem.F.entry_dict_items (PySem.F.args_dict_items_1 _) (meets_dict_items (qw X.prog X.w) d hS) ⟨⟨vs,dd⟩,?_⟩;refine Calls.spliced_nil ?_;obtain⟨od,es,ep,d1,d2,d3,d4,d5,d6⟩:=dd;have lv:vs.length=kvs.length:=(Y7 rel).symm;refine W.kdx_call (knd:=qw X.prog X.w) (kvs:=vs) (ep:=ep) (d:=d) (s:={ s1 with heap:=s1.heap.push { cls:=.type "dict_items",data:=.fields #[.ref d] } }) (I1.ok.hd hc) ⟨_,Yz _ rfl,rfl,rfl⟩ ⟨od,es,XI _ d1,d2,d3,d4,d5,d6⟩ (by rw[lv];exact hz) λ h' tk c6 c as hk T3 hl hG V9=>?_
 dsimp only at hk T3 hG ⊢;rw[Jz] at T3 hG ⊢;have kept:∀ b u,s1.heap.get? b=some u->h'.get? b=some u:=λ b u e=>hk b u (XI _ e)
 have lk:as.length=kvs.length:=hl.trans lv;have fst:(as.zip (kvs.map λ p=>(kV p.1,p.2))).map (·.1)=as:=by rw[<- List.unzip_fst,List.unzip_zip (by rw[U7];exact lk)]
 have big:∀ c∈as,s1.heap.objs.size+1<c:=λ c hc=>hG.above c hc
 have nd:as.Nodup:=hG.rise.imp λ{a b} x4 e=>by subst e;exact Qg _ x4
 let H2:Hp:=upd (qex H1 (as.zip (kvs.map λ p=>(kV p.1,p.2)))) (s1.heap.objs.size+1) (.lst (as.map V.ref))
 have aV:∀ c x y,(c,x,y)∈as.zip (kvs.map λ p=>(kV p.1,p.2))->H2 c=some (.tup [x,y]):=λ c x y hm=>by
  have hca:c∈as:=by rw[<- fst];exact Q3.mpr ⟨_,hm,rfl⟩
  show upd _ _ _ c=_
  rw[qv (Qz (big c hca))];exact qhB (by rw[fst];exact nd) hm
 have O7:∀ c,c<s1.heap.objs.size->H2 c=H1 c:=λ c hc=>by
  show upd _ _ _ c=_
  rw[qv (Qw (Ze hc (Nat.le_add_right _ _)))];refine qfq ?_;rw[fst];exact λ hm=>Qg _ (Q0 hc (Q0 (Nat.lt_add_of_pos_right (by decide)) (big c hm)))
 have sm:qg H1 H2:=λ c o e=>by rw[O7 c (I1.hok.lt e)];exact e
 refine⟨.ref (s1.heap.objs.size+1),H2,I1.lays kept sm (λ c hc e=>by rw[O7 c hc];exact e) ?_,rfl,q _ as H2 sm qc ?_⟩
 ·intro c o e;by_cases fS:c=s1.heap.objs.size+1
  ·subst fS;rw[show H2 (s1.heap.objs.size+1)=some (.lst (as.map V.ref)) from qc] at e;cases e
   refine .inr ⟨by rw[U7,lk];exact hz,c6.toList,_,?_,T3⟩;rw[V9];have gen:∀ l:List Addr,qK (l.map V.ref) (l.map Value.ref):=λ l=>by
    induction l with
    |nil=>exact .nil
    |cons a l ih=>exact .cons rfl ih
   exact gen as
  ·rw[show H2 c=qex H1 (as.zip (kvs.map λ p=>(kV p.1,p.2))) c from qv fS] at e;rcases qfr e with q | ⟨x,y,hm,rfl⟩
   ·exact .inl q
   ·obtain⟨j,hj⟩:=Ye.mp hm;rw[Xv] at hj;obtain⟨hj1,hj2⟩:=hj;obtain⟨⟨k,w⟩,hkw,ekw⟩:=ql hj2;injection ekw with e1 e2
    obtain⟨i9,k',x',w1,w2,w3⟩:=hG.pairs j c hj1;obtain⟨b,hb,hbk,hbv⟩:=qa4 rel j (k,w) hkw;rw[hb] at w1;cases w1
    dsimp only at e1 e2 hbk hbv;subst e1 e2 hbk;exact .inr ⟨qp (by show 2<=_;decide),[_,_],.cons (qlo w2) (.cons hbv .nil),⟨_,w3,rfl,_,rfl⟩⟩
 ·refine qdN lk λ j c pr e1 e2=>?_
  exact aV c (kV pr.1) pr.2 (Ye.mpr ⟨j,Xv.mpr ⟨e1,by rw[Zw,e2];rfl⟩⟩)
def qnL(wi:TI2)(n:Nat)(t:TGs)(tb:TS):TS:=λ D σ H=>wi σ H λ J H1=>∃ W:Nat->Nat->St->Hp->Prop,(∃ m,W 0 m σ H1)/\∀ i m σ H,W i m σ H ->
 (J.stop i H/\D.nx σ H)∨(J.go i H/\∃ N:St->Hp->Prop,(∀ σ' H',N σ' H'->∃ m',m'<m/\W (i+1) m' σ' H')/\∀ xs H',J.yld i H xs H'->xs.length=n/\t xs σ H' λ σ2 H2=>tb { D with nx:=N,ct:=N,bk:=D.nx } σ2 H2)
theorem qez{X:Cx}{es:List Expr}{k n:Nat}{A9:Pos}{iter:Expr}{body:List Stmt}{wi:TI2}{t:TGs}{tb:TS}{pos:Pos}(hp:PassesOwn (model X.prog X.w) X.A X.env X.xe)(hc:X.calm=true)(hi:PI2 X (.Tuple es k A9) iter wi)(hg:PGs X es t)(hb:PSs X body tb)(hn:(assignEach es X.env).length=n:=by rfl)(E2:(assignEach es X.env).findIdx? (·.1)=none:=by rfl)(hs:∀ x,foldedSetIterable iter X.env x=pure x:=by intro _;rfl):PS X (.For (.Tuple es k A9) iter body [] pos) (qnL wi n t tb):=by
 intro pins s σ H D I h;refine wpAny_For (thn (hi pins s σ H _ I h) λ v s1 h1=>thn h1 λ fG s2 h2=>?_) hs;obtain⟨it,fp,tn,J,H2,e,I2,T,i8,f2,W,⟨m0,w0⟩,turn⟩:=h2;subst e;have O1:∀{H':Hp},(∀ b∈fp,H' b=none)->∀ b∈fp,jQ X pins H' b:=λ hn b hb=>⟨hn b hb,(f2 b hb).2⟩
 refine codeAny_forLoop_any (λ n s'=>∃ i σ' H',Inv X pins σ' H' s'/\tn i s'.heap/\(∀ b∈fp,H' b=none)/\W i n σ' H') ?_ m0 ⟨0,σ,H2,I2,i8,λ b hb=>(f2 b hb).1,w0⟩;rintro n' s3 ⟨i,σ3,H3,I3,G4,bM,w3⟩;rcases turn i n' σ3 H3 w3 with⟨stop,qn⟩|⟨go,N,hN,step⟩
 ·refine Js hp (thn (T.done X rfl rfl rfl hc i pins s3 σ3 H3 X.xe I3 (O1 bM) G4 stop) λ r s4 ⟨hr,I4⟩=>?_);subst hr;exact Jr ⟨σ3,H3,I4,qn⟩
 ·refine Js hp (thn (T.item X rfl rfl rfl hc i pins s3 σ3 H3 X.xe I3 (O1 bM) G4 go) λ r s4 ⟨p,hr,h4⟩=>?_);subst hr;refine Js hp (thn h4 λ _ s5 ⟨xs,us,H5,I5,ht,r5,y5,O2,iX⟩=>?_);have I5':=I5.pinned (O1 iX) (T.obj _ _ O2);obtain⟨hl,hw⟩:=step xs H5 y5;refine Js hp (assign_Tuple_tuple (I5.ok.hd hc) ht (by simp[hn,<- hl,r5.length]) E2 λ h' hx=>?_);have I6:Inv X (pins++vB fp s5.heap) σ3 H5 { s5 with heap:=h' }:=I5'.kept (t':=s5.toks) λ b o e=>hx b o (Qw (Qv e)) e
  refine thn (hg _ _ σ3 H5 xs _ _ I6 (by simpa using r5) hw) λ _ s6 ⟨σ6,H6,I7,q6⟩=>?_
  refine Js hp (thn (hb _ s6 σ6 H6 _ I7 q6) λ f s7 q7=>?_);have again:∀{σ7:St}{H7:Hp},Inv X (pins++vB fp s5.heap) σ7 H7 s7->N σ7 H7->∃ m,m<n'/\∃ i σ' H',Inv X pins σ' H' s7/\tn i s7.heap/\(∀ b∈fp,H' b=none)/\W i m σ' H':=λ{σ7 H7} I7 n7=>by
   obtain⟨m',hm,w7⟩:=hN σ7 H7 n7;refine⟨m',hm,i+1,σ7,H7,I7.unpinned,T.keep _ _ _ O2 λ b hb o e=>(I7.pin (b,o) (XU _ (XU _ (yr hb e)))).1,λ b hb=>?_,w7⟩;obtain⟨o,e,d⟩:=T.obj _ _ O2 b hb;exact(I7.pin (b,o) (XU _ (XU _ (yr hb e)))).2.1
  cases f with
  |next=>obtain⟨σ7,H7,I7,n7⟩:=q7;exact again I7 n7
  |cont=>obtain⟨σ7,H7,I7,n7⟩:=q7;exact again I7 n7
  |brk=>obtain⟨σ7,H7,I7,q7⟩:=q7;exact⟨σ7,H7,I7.unpinned,q7⟩
  |ret v=>obtain⟨x7,σ7,H7,I7,r7,q7⟩:=q7;exact⟨x7,σ7,H7,I7.unpinned,r7,q7⟩
theorem qjQ{K:W.Frag}{a:Addr}{xs:List V}{t:TGs}{tb:TS}{D:Ends}{σ:St}{H:Hp}(Pv:Nat->St->Hp->Prop)(h0:Pv 0 σ H)(hl:∀ i σ H,i<=xs.length->Pv i σ H->SqL K H a xs)(hs:∀ i x σ H,xs[i]?=some x->Pv i σ H->t [.int i,x] σ H λ σ2 H2=>tb { D with nx:=Pv (i+1),ct:=Pv (i+1),bk:=D.nx } σ2 H2)(hd:∀ σ H,Pv xs.length σ H->D.nx σ H):
  ∃ W:Nat->Nat->St->Hp->Prop,(∃ m,W 0 m σ H)/\∀ i m σ H,W i m σ H ->
   ((qih K a).stop i H/\D.nx σ H)∨((qih K a).go i H/\∃ N:St->Hp->Prop,(∀ σ' H',N σ' H'->∃ m',m'<m/\W (i+1) m' σ' H')/\∀ zs H',(qih K a).yld i H zs H'->zs.length=2/\t zs σ H' λ σ2 H2=>tb { D with nx:=N,ct:=N,bk:=D.nx } σ2 H2):=by
 refine⟨λ i m σ H=>m=xs.length-i/\i<=xs.length/\Pv i σ H,⟨xs.length,by simp,Vd _,h0⟩,?_⟩;rintro i m σ H ⟨rfl,hi,p⟩;have q:=hl i σ H hi p;by_cases c7:i<xs.length
 ·refine .inr ⟨⟨xs,xs[i],q,X1 c7⟩,Pv (i+1),λ σ' H' p'=>⟨xs.length-(i+1),by omega,rfl,c7,p'⟩,λ zs H' y=>?_⟩;obtain⟨e,x,ez,hx⟩:=y;subst e ez;exact⟨rfl,hs i x σ _ (hx xs q) p⟩
 ·have e:i=xs.length:=by omega
  subst e;exact .inl ⟨⟨xs,q,Vc _⟩,hd σ H p⟩
end L2
namespace FsS
open PySem PyProof.Rows
noncomputable def ky(κ:KeyKind)(x:Keyed):κ.α:=(κ.keyOf x.1).getD κ.dflt
def Kd(κ:KeyKind)(x:Keyed):Prop:=∃ a,κ.keyOf x.1=some a
theorem Kd.eq{κ:KeyKind}{x:Keyed}(h:Kd κ x):κ.keyOf x.1=some (ky κ x):=by
 obtain⟨a,h⟩:=h;unfold ky;rw[h];rfl
noncomputable def zO:Bool->Keyed->Array Keyed->Nat->Nat->Nat->StateT SortSt Sem (Option Nat):=sortPriv% PySem.Builtin.gallop
noncomputable def bey(left:Bool)(i9:Keyed)(arr:Array Keyed)(base i:Nat):StateT SortSt Sem (Option Bool):=do
 let x <- elem' arr (base+i)
 if left then lt' x i9 else return (<- lt' i9 x).map (!·)
theorem qip(left:Bool)(i9:Keyed)(arr:Array Keyed)(base n c8:Nat):zO left i9 arr base n c8=(do
 let mut u:=0
 let mut v:=1
 let mut p:=0
 let mut q:=0
 let some r <- bey left i9 arr base c8|return none
 if r then
  let m:=n-c8
  for _ in [0:n] do
   if v ≥ m then break
   let some c <- bey left i9 arr base (c8+v)|return none
   if !c then break
   u:=v
   v:=2*v+1
  p:=c8+u+1
  q:=c8+min v m
 else
  let m:=c8+1
  for _ in [0:n] do
   if v ≥ m then break
   let some c <- bey left i9 arr base (c8-v)|return none
   if c then break
   u:=v
   v:=2*v+1
  p:=c8+1-min v m
  q:=c8-u
 for _ in [0:n] do
  if p ≥ q then break
  let c:=p+(q-p) / 2
  let some d <- bey left i9 arr base c|return none
  if d then p:=c+1 else q:=c
 return some q):=rfl
section
variable {prog:Program}{w:World}{A:Around}{E:Value->Shared->Prop}{s:Shared}{κ:KeyKind}
theorem qR{arr:Array Keyed}{i:Nat}{p:Keyed}{st:SortSt}{Q:Keyed->SortSt->Prop}(h:arr[i]?=some p)(hq:Q p st):wpS (model prog w) A E s (elem' arr i) Q st:=by
 rw[elem'_eq,h];exact Vu hq
theorem qcM(hO:κ.OneLt){x y:Keyed}{st:SortSt}{Q:Option Bool->SortSt->Prop}(hk:kindOf st=oneType')(hx:Kd κ x)(hy:Kd κ y)(hq:Q (some (κ.blt (ky κ x) (ky κ y))) st):wpS (model prog w) A E s (lt' x y) Q st:=by
 rw[lt'_eq];refine Vv (V0 ?_);rw[hk,keyLt'_oneType];refine Vv (wpS_lift (Qt (hO prog w A _ s x.1 y.1 _ _ hx.eq hy.eq ⟨rfl,?_⟩)));exact Vu hq
noncomputable def Bt(κ:KeyKind)(left:Bool)(i9 x:Keyed):Bool:=if left then κ.blt (ky κ x) (ky κ i9) else !(κ.blt (ky κ i9) (ky κ x))
theorem qlp(hO:κ.OneLt){left:Bool}{i9 x:Keyed}{arr:Array Keyed}{base i:Nat}{st:SortSt}{Q:Option Bool->SortSt->Prop}(hk:kindOf st=oneType')(G9:Kd κ i9)(e:arr[base+i]?=some x)(hx:Kd κ x)(hq:Q (some (Bt κ left i9 x)) st):wpS (model prog w) A E s (bey left i9 arr base i) Q st:=by
 unfold bey;refine Vv (qR e ?_);cases left with
 |true=>exact qcM hO hk hx G9 hq
 |false=>exact Vv (qcM hO hk G9 hx (Vu hq))
theorem qgC{left:Bool}{i9:Keyed}{arr:Array Keyed}{base n c8:Nat}{st:SortSt}{Q:Option Nat->SortSt->Prop}(B:Nat->Bool)(hb:∀ i,i<n->∀ R:Option Bool->SortSt->Prop,R (some (B i)) st->wpS (model prog w) A E s (bey left i9 arr base i) R st)(mono:∀ i j,i<=j->j<n->B j=true->B i=true)(hn:c8<n)(h:∀ k,k<=n->(∀ i,i<k->B i=true)->(∀ i,k<=i->i<n->B i=false)->Q (some k) st):wpS (model prog w) A E s (zO left i9 arr base n c8) Q st:=by
 have lO:∀ i j,i<=j->j<n->B i=false->B j=false:=λ i j pA hj hi=>by
  cases hB:B j with
  |false=>rfl
  |true=>rw[mono i j pA hj hB] at hi;exact absurd hi (by simp)
 have fin:∀ p q:Nat,p<=q->q<=n->(∀ i,i<p->B i=true)->(∀ i,q<=i->i<n->B i=false) ->
   wpS (model prog w) A E s (do
    let mut p:=p
    let mut q:=q
    for _ in [0:n] do
     if p ≥ q then break
     let c:=p+(q-p) / 2
     let some d <- bey left i9 arr base c|return none
     if d then p:=c+1 else q:=c
    return some q) Q st:=by
  intro p q dM fK h1 h2;refine Vv (Vw (Vb (I:=λ x c b0=>b0=st/\∃ p q,c=(none,p,q)/\p<=q/\q<=n/\q-p<=n-x/\(∀ i,i<p->B i=true)/\(∀ i,q<=i->i<n->B i=false))
   (Q:=λ c b0=>b0=st/\∃ p q,c=(none,p,q)/\q<=p/\p<=q/\q<=n/\(∀ i,i<p->B i=true)/\(∀ i,q<=i->i<n->B i=false)) ?step ?fin ⟨rfl,p,q,rfl,dM,fK,by omega,h1,h2⟩) ?post)
  case post =>
   rintro c b0 ⟨rfl,p,q,rfl,hqp,dM,fK,h1,h2⟩
   have:p=q:=by omega
   subst this;exact Vu (h p fK h1 h2)
  case fin =>
   rintro c b0 ⟨rfl,p,q,rfl,dM,fK,hm,h1,h2⟩;exact⟨rfl,p,q,rfl,by omega,dM,fK,h1,h2⟩
  case step =>
   rintro x c b0 _ hx ⟨rfl,p,q,rfl,dM,fK,hm,h1,h2⟩;dsimp only;by_cases hge:p ≥ q
   ·rw[V2 hge];exact Vu ⟨rfl,p,q,rfl,hge,dM,fK,h1,h2⟩
   ·rw[V3 hge];refine Vv (hb _ (by omega) _ ?_);cases hB:B (p+(q-p) / 2) with
    |true =>
     simp only[Vz];exact Vu ⟨rfl,_,q,rfl,by omega,fK,by omega,λ i hi=>mono i _ (by omega) (by omega) hB,h2⟩
    |false =>
     simp only[Zo,Vr];exact Vu ⟨rfl,p,_,rfl,by omega,by omega,by omega,h1,λ i hi aV=>lO _ i hi aV hB⟩
 rw[qip];refine Vv (hb c8 hn _ ?_);dsimp only;cases hB:B c8 with
 |true =>
  simp only[Vz];refine Vv (Vw (Vb (I:=λ x c b0=>b0=st/\∃ u v,c=(none,u,v)/\u<v/\x<v/\c8+u<n/\B (c8+u)=true)
   (Q:=λ c b0=>b0=st/\∃ u v,c=(none,u,v)/\u<v/\c8+u<n/\B (c8+u)=true/\(n-c8<=v∨(c8+v<n/\B (c8+v)=false))) ?step ?fin ⟨rfl,0,1,rfl,by omega,by omega,by omega,hB⟩) ?post)
  case post =>
   rintro c b0 ⟨rfl,u,v,rfl,aQ,aB,hu,hv⟩;refine fin (c8+u+1) (c8+min v (n-c8)) (by omega) (by omega) (λ i hi=>mono i _ (by omega) aB hu) (λ i hi aV=>?_);rcases hv with hv|⟨h1,h2⟩
   ·omega
   ·exact lO _ i (by omega) aV h2
  case fin =>
   rintro c b0 ⟨rfl,u,v,rfl,aQ,xJ,aB,hu⟩;exact⟨rfl,u,v,rfl,aQ,aB,hu,.inl (by omega)⟩
  case step =>
   rintro x c b0 _ hx ⟨rfl,u,v,rfl,aQ,xJ,aB,hu⟩;dsimp only;by_cases hge:v ≥ n-c8
   ·rw[V2 hge];exact Vu ⟨rfl,u,v,rfl,aQ,aB,hu,.inl hge⟩
   ·rw[V3 hge];refine Vv (hb _ (by omega) _ ?_);cases hB2:B (c8+v) with
    |true =>
     simp only[Qn,Zo,Vr];exact Vu ⟨rfl,v,_,rfl,by omega,by omega,by omega,hB2⟩
    |false =>
     simp only[Bool.not_false,Vz];exact Vu ⟨rfl,u,v,rfl,aQ,aB,hu,.inr ⟨by omega,hB2⟩⟩
 |false =>
  simp only[Zo,Vr];refine Vv (Vw (Vb (I:=λ x c b0=>b0=st/\∃ u v,c=(none,u,v)/\u<v/\x<v/\u<=c8/\B (c8-u)=false)
   (Q:=λ c b0=>b0=st/\∃ u v,c=(none,u,v)/\u<v/\u<=c8/\B (c8-u)=false/\(c8+1<=v∨(v<=c8/\B (c8-v)=true))) ?step ?fin ⟨rfl,0,1,rfl,by omega,by omega,by omega,hB⟩) ?post)
  case post =>
   rintro c b0 ⟨rfl,u,v,rfl,aQ,aB,hu,hv⟩;refine fin (c8+1-min v (c8+1)) (c8-u) (by omega) (by omega) (λ i hi=>?_) (λ i hi aV=>lO _ i hi aV hu);rcases hv with hv|⟨h1,h2⟩
   ·omega
   ·exact mono i _ (by omega) (by omega) h2
  case fin =>
   rintro c b0 ⟨rfl,u,v,rfl,aQ,xJ,aB,hu⟩;exact⟨rfl,u,v,rfl,aQ,aB,hu,.inl (by omega)⟩
  case step =>
   rintro x c b0 _ hx ⟨rfl,u,v,rfl,aQ,xJ,aB,hu⟩;dsimp only;by_cases hge:v ≥ c8+1
   ·rw[V2 hge];exact Vu ⟨rfl,u,v,rfl,aQ,aB,hu,.inl hge⟩
   ·rw[V3 hge];refine Vv (hb _ (by omega) _ ?_);cases hB2:B (c8-v) with
    |false =>
     simp only[Zo,Vr];exact Vu ⟨rfl,v,_,rfl,by omega,by omega,by omega,hB2⟩
    |true =>
     simp only[Vz];exact Vu ⟨rfl,u,v,rfl,aQ,aB,hu,.inr ⟨by omega,hB2⟩⟩
end
structure MI{α:Type}(r:α->α->Prop)(la lb O:List α)(i j:Nat):Prop where
 sa:(O++la.drop i).Pairwise r
 sb:(O++lb.drop j).Pairwise r
 pm:(O++(la.drop i++lb.drop j)).Perm (la++lb)
theorem MI.takeA{α:Type}{r:α->α->Prop}{la lb O:List α}{i j i':Nat}(h:MI r la lb O i j){X:List α}(e:la.drop i=X++la.drop i')(hx:∀ x∈X,∀ y∈lb.drop j,r x y):MI r la lb (O++X) i' j:=by
 have h1:=h.sa;rw[e,<- Z1] at h1;have h2:=Yq.mp h.sb;refine⟨h1,Yq.mpr ⟨(Yq.mp h1).1,h2.2.1,λ x p8 y hy=>?_⟩,?_⟩
 ·rcases U5.mp p8 with hO | hX
  ·exact h2.2.2 x hO y hy
  ·exact hx x hX y hy
 ·have:=h.pm
  rw[e] at this;simpa [Z1] using this
theorem MI.takeB{α:Type}{r:α->α->Prop}{la lb O:List α}{i j j':Nat}(h:MI r la lb O i j){X:List α}(e:lb.drop j=X++lb.drop j')(hx:∀ x∈X,∀ y∈la.drop i,r x y):MI r la lb (O++X) i j':=by
 have h1:=h.sb;rw[e,<- Z1] at h1;have h2:=Yq.mp h.sa;refine⟨Yq.mpr ⟨(Yq.mp h1).1,h2.2.1,λ x p8 y hy=>?_⟩,h1,?_⟩
 ·rcases U5.mp p8 with hO | hX
  ·exact h2.2.2 x hO y hy
  ·exact hx x hX y hy
 ·have:=h.pm
  rw[e] at this;rw[Z1];exact((Xj X (la.drop i) (lb.drop j')).append_left O).trans this
def Gd{α:Type}(r:α->α->Prop)(la lb:List α)(o:List α):Prop:=o.Pairwise r/\o.Perm (la++lb)
theorem MI.endB{α:Type}{r:α->α->Prop}{la lb O:List α}{i j:Nat}(h:MI r la lb O i j)(e:lb.length<=j):Gd r la lb (O++la.drop i++lb.drop j):=by
 have:=h.sa
 have hp:=h.pm;rw[XO e] at hp ⊢;rw[U8] at hp ⊢;exact⟨this,hp⟩
theorem MI.endA{α:Type}{r:α->α->Prop}{la lb O:List α}{i j:Nat}(h:MI r la lb O i j)(e:la.length<=i):Gd r la lb (O++la.drop i++lb.drop j):=by
 have:=h.sb
 have hp:=h.pm;rw[XO e] at hp ⊢;rw[Je] at hp;rw[U8];exact⟨this,hp⟩
theorem MI.last{α:Type}{r:α->α->Prop}{la lb O:List α}{i j:Nat}(h:MI r la lb O i j)(hl:∀ x∈la.drop i,∀ y∈lb,r y x):Gd r la lb (O++lb.drop j++la.drop i):=by
 have ha:=Yq.mp h.sa;refine⟨Yq.mpr ⟨h.sb,ha.2.1,λ x hx y hy=>?_⟩,?_⟩
 ·rcases U5.mp hx with hO | hX
  ·exact ha.2.2 x hO y hy
  ·exact hl y hy x (Yr hX)
 ·rw[Z1];exact((List.perm_append_comm).append_left O).trans h.pm
theorem yf{α:Type}{l:List α}{i:Nat}{x:α}(h:l[i]?=some x):l.drop i=[x]++l.drop (i+1):=by
 obtain⟨hi,e⟩:=Xq.mp h;rw[Xw hi,e];rfl
theorem drop_take{α:Type}(l:List α)(i k:Nat):l.drop i=(l.drop i).take k++l.drop (i+k):=by
 have:=(Yb k (l.drop i)).symm
 rwa [J9] at this
abbrev kl(κ:KeyKind)(x y:Keyed):Prop:=κ.kle (ky κ x) (ky κ y)
abbrev So(κ:KeyKind)(l:List Keyed):Prop:=l.Pairwise (kl κ)
section
variable {prog:Program}{w:World}{A:Around}{E:Value->Shared->Prop}{s:Shared}{κ:KeyKind}
theorem qlq{left:Bool}{i9 x y:Keyed}(h:kl κ x y)(hy:Bt κ left i9 y=true):Bt κ left i9 x=true:=by
 cases left with
 |true=>exact KeyOrd.klt_of_kle_of_klt h hy
 |false =>
  have nY:κ.blt (ky κ i9) (ky κ y)=false:=by simpa [Bt] using hy
  have:κ.kle (ky κ x) (ky κ i9):=Uy h nY
  show(!(κ.blt (ky κ i9) (ky κ x)))=true
  rw[show κ.blt (ky κ i9) (ky κ x)=false from this];rfl
theorem BtF{i9 x:Keyed}(h:Bt κ false i9 x=true):kl κ x i9:=by
 have:κ.blt (ky κ i9) (ky κ x)=false:=by simpa [Bt] using h
 exact this
theorem qmK{i9 x:Keyed}(h:Bt κ false i9 x=false):kl κ i9 x:=by
 have:κ.blt (ky κ i9) (ky κ x)=true:=by simpa [Bt] using h
 exact Ub this
theorem BtT{i9 x:Keyed}(h:Bt κ true i9 x=true):kl κ x i9:=Ub h
theorem qlr{i9 x:Keyed}(h:Bt κ true i9 x=false):kl κ i9 x:=h
theorem yg(hO:κ.OneLt){left:Bool}{i9:Keyed}{arr:Array Keyed}{base n c8:Nat}{st:SortSt}{Q:Option Nat->SortSt->Prop}(cA:List Keyed)(es:(arr.toList.drop base).take n=cA)(hk:kindOf st=oneType')(G9:Kd κ i9)(hs:base+n<=arr.size)(hd:∀ x∈cA,Kd κ x)(so:So κ cA)(hn:c8<n)(h:∀ k,k<=n->(∀ x∈cA.take k,Bt κ left i9 x=true)->(∀ x∈cA.drop k,Bt κ left i9 x=false)->Q (some k) st):wpS (model prog w) A E s (zO left i9 arr base n c8) Q st:=by
 have ln:cA.length=n:=by rw[<- es,Uq,Us,Yy];omega
 have at_:∀ i,(hi:i<n)->arr[base+i]?=some (cA[i]'(by omega)):=λ i hi=>by
  have:cA[i]?=some (cA[i]'(by omega)):=X1 _
  rw[<- this,<- es,Xz hi,Zp,XZ]
 refine qgC (λ i=>if hi:i<n then Bt κ left i9 (cA[i]'(by omega)) else false) ?_ ?_ hn ?_
 ·intro i hi R hR;rw[V1 hi] at hR;exact qlp hO hk G9 (at_ i hi) (hd _ (Uw _)) hR
 ·intro i j pA hj hB;rw[V1 hj] at hB;rw[V1 (by omega)];rcases Q6 i j with c7 | hge
  ·exact qlq (Xx.mp so i j (by omega) (by omega) c7) hB
  ·have:i=j:=by omega
   subst this;exact hB
 ·intro k iM h1 h2;refine h k iM (λ x hx=>?_) (λ x hx=>?_)
  ·obtain⟨i,hi,rfl⟩:=Y4 hx;rw[Uq] at hi
   have:=h1 i (by omega)
   rw[V1 (by omega)] at this;rw[Uc];exact this
  ·obtain⟨i,hi,rfl⟩:=Y4 hx;rw[Us] at hi
   have:=h2 (k+i) (by omega) (by omega)
   rw[V1 (by omega)] at this;rw[List.getElem_drop];exact this
end
noncomputable abbrev j8(st:SortSt)(g:Nat):SortSt:=SortSt.mk' (kindOf st) (arrOf st) (pendingOf st) g (failedOf st)
abbrev SM:=StateT SortSt Sem
noncomputable def qcN:Array Keyed->Array Keyed->SM (Array Keyed):=sortPriv% PySem.Builtin.mergeLo
noncomputable def qiq(g:Nat):SM Unit:=modify λ st=>j8 st g
noncomputable def vQ(a b o:Array Keyed)(i j:Nat):Array Keyed:=o++a.extract i a.size++b.extract j b.size
noncomputable def qeA(a b o:Array Keyed)(i j:Nat):Array Keyed:=o++b.extract j b.size++a.extract i a.size
abbrev C1:=Option (Array Keyed)×Array Keyed×Nat×Nat×Nat×Nat
abbrev C2:=Option (Array Keyed)×Array Keyed×Nat×Nat×Nat×Nat×Nat
abbrev C0:=Option (Array Keyed)×Array Keyed×Nat×Nat×Nat
noncomputable def lo3(a b o:Array Keyed)(i j g p q:Nat):SM (ForInStep C2):=do
 let x <- elem' a i
 if i+1+1 == a.size then pure (.done (some (qeA a b (o.push x) (i+1) j),o.push x,i+1,j,g,p,q))
 else if p<7 && q<7 then pure (.done (none,o.push x,i+1,j,g,p,q))
 else pure (.yield (none,o.push x,i+1,j,g,p,q))
noncomputable def lo2(a b o:Array Keyed)(i j g p q:Nat):SM (ForInStep C2):=do
 let x <- elem' b j
 if j+1 == b.size then pure (.done (some (vQ a b (o.push x) i (j+1)),o.push x,i,j+1,g,p,q))
 else do
  let y <- elem' a i
  let c <- zO true y b (j+1) (b.size-(j+1)) 0
  match c with
  |some k =>
   if k > 0 then
    if j+1+k == b.size then pure (.done (some (vQ a b (o.push x++b.extract (j+1) (j+1+k)) i (j+1+k)),o.push x++b.extract (j+1) (j+1+k),i,j+1+k,g,p,k))
    else lo3 a b (o.push x++b.extract (j+1) (j+1+k)) i (j+1+k) g p k
   else lo3 a b (o.push x) i (j+1) g p k
  |_=>pure (.done (some (vQ a b (o.push x) i (j+1)),o.push x,i,j+1,g,p,q))
noncomputable def lo1(a b o:Array Keyed)(i j g p q:Nat):SM (ForInStep C2):=do
 qiq g
 let x <- elem' b j
 let c <- zO false x a i (a.size-i) 0
 match c with
 |some k =>
  if k > 0 then
   if i+k+1 == a.size then pure (.done (some (qeA a b (o++a.extract i (i+k)) (i+k) j),o++a.extract i (i+k),i+k,j,g,k,q))
   else if i+k == a.size then pure (.done (some (vQ a b (o++a.extract i (i+k)) (i+k) j),o++a.extract i (i+k),i+k,j,g,k,q))
   else lo2 a b (o++a.extract i (i+k)) (i+k) j g k q
  else lo2 a b o i j g k q
 |_=>pure (.done (some (vQ a b o i j),o,i,j,g,p,q))
noncomputable def lo0(a b:Array Keyed)(g:Nat)(r:C1):SM (ForInStep C1):=do
 let y <- elem' b r.2.2.2.1
 let x <- elem' a r.2.2.1
 let c <- lt' y x
 match c with
 |some c =>
  if c then do
   let z <- elem' b r.2.2.2.1
   if r.2.2.2.1+1 == b.size then pure (.done (some (vQ a b (r.2.1.push z) r.2.2.1 (r.2.2.2.1+1)),r.2.1.push z,r.2.2.1,r.2.2.2.1+1,0,r.2.2.2.2.2+1))
   else if r.2.2.2.2.2+1 ≥ g then pure (.done (none,r.2.1.push z,r.2.2.1,r.2.2.2.1+1,0,r.2.2.2.2.2+1))
   else pure (.yield (none,r.2.1.push z,r.2.2.1,r.2.2.2.1+1,0,r.2.2.2.2.2+1))
  else do
   let z <- elem' a r.2.2.1
   if r.2.2.1+1+1 == a.size then pure (.done (some (qeA a b (r.2.1.push z) (r.2.2.1+1) r.2.2.2.1),r.2.1.push z,r.2.2.1+1,r.2.2.2.1,r.2.2.2.2.1+1,0))
   else if r.2.2.2.2.1+1 ≥ g then pure (.done (none,r.2.1.push z,r.2.2.1+1,r.2.2.2.1,r.2.2.2.2.1+1,0))
   else pure (.yield (none,r.2.1.push z,r.2.2.1+1,r.2.2.2.1,r.2.2.2.2.1+1,0))
 |_=>pure (.done (some (vQ a b r.2.1 r.2.2.1 r.2.2.2.1),r.2.1,r.2.2.1,r.2.2.2.1,r.2.2.2.2.1,r.2.2.2.2.2))
theorem qgD(a b:Array Keyed):qcN a b=(do
 rule "list.sort.merge-lo"
 let t:=a.size+b.size
 let mut o:Array Keyed:=#[<- elem' b 0]
 let mut i:=0
 let mut j:=1
 if j == b.size then return vQ a b o i j
 if i+1 == a.size then return qeA a b o i j
 let mut g:=gallopOf (<- get)
 for _ in [0:t] do
  let mut p:=0
  let mut q:=0
  for _ in [0:t] do
   let some c <- lt' (<- elem' b j) (<- elem' a i)|return vQ a b o i j
   if c then
    o:=o.push (<- elem' b j);j:=j+1;q:=q+1;p:=0
    if j == b.size then return vQ a b o i j
    if q ≥ g then break
   else
    o:=o.push (<- elem' a i);i:=i+1;p:=p+1;q:=0
    if i+1 == a.size then return qeA a b o i j
    if p ≥ g then break
  rule "list.sort.gallop"
  g:=g+1
  for _ in [0:t] do
   if g > 1 then g:=g-1
   qiq g
   let some k <- zO false (<- elem' b j) a i (a.size-i) 0|return vQ a b o i j
   p:=k
   if k > 0 then
    o:=o++a.extract i (i+k);i:=i+k
    if i+1 == a.size then return qeA a b o i j
    if i == a.size then return vQ a b o i j
   o:=o.push (<- elem' b j);j:=j+1
   if j == b.size then return vQ a b o i j
   let some k <- zO true (<- elem' a i) b j (b.size-j) 0|return vQ a b o i j
   q:=k
   if k > 0 then
    o:=o++b.extract j (j+k);j:=j+k
    if j == b.size then return vQ a b o i j
   o:=o.push (<- elem' a i);i:=i+1
   if i+1 == a.size then return qeA a b o i j
   if p<7 && q<7 then break
  g:=g+1
  qiq g
 unsupported "internal:list.sort.merge-bound"):=rfl
def Ok{γ:Type}(κ:KeyKind)(a b:Array Keyed)(st:SortSt)(m:Nat)(c:Option (Array Keyed)×Array Keyed×Nat×Nat×γ)(b0:SortSt):Prop:=
 (∃ g,b0=j8 st g)/\((∃ r,c.1=some r/\Gd (kl κ) a.toList b.toList r.toList)∨(c.1=none/\MI (kl κ) a.toList b.toList c.2.1.toList c.2.2.1 c.2.2.2.1/\c.2.2.1+1<a.size/\c.2.2.2.1<b.size/\m<=c.2.2.1+c.2.2.2.1))
def qbv{γ:Type}(κ:KeyKind)(a b:Array Keyed)(st:SortSt)(m:Nat):ForInStep (Option (Array Keyed)×Array Keyed×Nat×Nat×γ)->SortSt->Prop
 |.done c,b0=>Ok κ a b st m c b0
 |.yield c,b0=>Ok κ a b st m c b0/\c.1=none
theorem qb5(a:Array Keyed)(i:Nat):(a.extract i a.size).toList=a.toList.drop i:=by
 rw[Yp,Xu];exact XN (by rw[Us,Yy];exact Vc _)
theorem qft(a:Array Keyed)(i k:Nat):(a.extract i (i+k)).toList=(a.toList.drop i).take k:=by
 rw[Yp,Xu,XE]
theorem qcO(a b o:Array Keyed)(i j:Nat):(vQ a b o i j).toList=o.toList++a.toList.drop i++b.toList.drop j:=by
 unfold vQ;rw[Y6,Y6,qb5,qb5]
theorem qeB(a b o:Array Keyed)(i j:Nat):(qeA a b o i j).toList=o.toList++b.toList.drop j++a.toList.drop i:=by
 unfold qeA;rw[Y6,Y6,qb5,qb5]
theorem qa5{a:Array Keyed}{i:Nat}(h:i<a.size):a.toList[i]?=some a[i]:=by
 rw[XZ];exact getElem?_pos a i h
section
variable {prog:Program}{w:World}{A:Around}{E:Value->Shared->Prop}{s:Shared}{κ:KeyKind}{a b:Array Keyed}{st:SortSt}
variable (hO:κ.OneLt)(hk:kindOf st=oneType')(ka:∀ x∈a.toList,Kd κ x)(kb:∀ x∈b.toList,Kd κ x)(hl:∀ x∈a.toList.drop (a.size-1),∀ y∈b.toList,kl κ y x)
include hO hk ka kb hl
theorem qb6{i:Nat}(e:i+1=a.size):∀ x∈a.toList.drop i,∀ y∈b.toList,kl κ y x:=by
 have:a.size-1=i:=by omega
 rw[<- this];exact hl
theorem MI.headA{O:List Keyed}{i j:Nat}(m:MI (kl κ) a.toList b.toList O i j)(hi:i<a.size):∀ y∈a.toList.drop i,kl κ a[i] y:=by
 have:=(Yq.mp m.sa).2.1
 rw[yf (qa5 hi)] at this ⊢;intro y hy;rcases U5.mp hy with h|h
 ·rw[Zq.mp h];exact Jj _
 ·exact(Zm.mp this).1 y h
theorem MI.headB{O:List Keyed}{i j:Nat}(m:MI (kl κ) a.toList b.toList O i j)(hj:j<b.size):∀ y∈b.toList.drop j,kl κ b[j] y:=by
 have:=(Yq.mp m.sb).2.1
 rw[yf (qa5 hj)] at this ⊢;intro y hy;rcases U5.mp hy with h|h
 ·rw[Zq.mp h];exact Jj _
 ·exact(Zm.mp this).1 y h
theorem qjR{o:Array Keyed}{i j g p q m:Nat}{b0:SortSt}(hs:∃ g,b0=j8 st g)(mi:MI (kl κ) a.toList b.toList o.toList i j)(hi:i+1<a.size)(hj:j<b.size)(hm:m<=i+j)(hx:∀ y∈b.toList.drop j,kl κ a[i] y):wpS (model prog w) A E s (lo3 a b o i j g p q) (qbv κ a b st m) b0:=by
 unfold lo3;refine Vv (qR (p:=a[i]) (getElem?_pos a i (by omega)) ?_);have x8:MI (kl κ) a.toList b.toList (o.push a[i]).toList (i+1) j:=by
  rw[Z6];exact mi.takeA (yf (qa5 (by omega))) (λ x p8 y hy=>by rw[Zq.mp p8];exact hx y hy)
 by_cases h1:i+1+1=a.size
 ·rw[V2 (by simpa using h1)];refine Vu ⟨hs,.inl ⟨_,rfl,?_⟩⟩;rw[qeB];exact x8.last (qb6 hO hk ka kb hl h1)
 ·rw[V3 (by simpa using h1)];by_cases h2:(decide (p<7) && decide (q<7))=true
  ·rw[V2 h2];exact Vu ⟨hs,.inr ⟨rfl,x8,by show i+1+1<a.size;omega,hj,by show m<=i+1+j;omega⟩⟩
  ·rw[V3 h2];exact Vu ⟨⟨hs,.inr ⟨rfl,x8,by show i+1+1<a.size;omega,hj,by show m<=i+1+j;omega⟩⟩,rfl⟩
theorem qjS{o:Array Keyed}{i j g p q m:Nat}{b0:SortSt}(hs:∃ g,b0=j8 st g)(mi:MI (kl κ) a.toList b.toList o.toList i j)(hi:i+1<a.size)(hj:j<b.size)(hm:m<=i+j)(hx:∀ y∈a.toList.drop i,kl κ b[j] y):wpS (model prog w) A E s (lo2 a b o i j g p q) (qbv κ a b st m) b0:=by
 unfold lo2;refine Vv (qR (p:=b[j]) (getElem?_pos b j (by omega)) ?_);have x8:MI (kl κ) a.toList b.toList (o.push b[j]).toList i (j+1):=by
  rw[Z6];exact mi.takeB (yf (qa5 (by omega))) (λ x p8 y hy=>by rw[Zq.mp p8];exact hx y hy)
 by_cases h1:j+1=b.size
 ·rw[V2 (by simpa using h1)];refine Vu ⟨hs,.inl ⟨_,rfl,?_⟩⟩;rw[qcO];exact x8.endB (by rw[Yy];omega)
 ·rw[V3 (by simpa using h1)];refine Vv (qR (p:=a[i]) (getElem?_pos a i (by omega)) ?_);have I0:kindOf b0=oneType':=by obtain⟨g,rfl⟩:=hs;exact hk
  refine Vv (yg hO (b.toList.drop (j+1)) (XN (by rw[Us,Yy];exact Vc _)) I0 (ka _ (by simp)) (by omega) (λ x hx=>kb x (Yr hx)) ((Yq.mp x8.sb).2.1) (by omega) λ k iM k1 k2=>?_);have ha:=mi.headA hO hk ka kb hl (show i<a.size by omega);have mk:MI (kl κ) a.toList b.toList (o.push b[j]++b.extract (j+1) (j+1+k)).toList i (j+1+k):=by
   rw[Y6,qft];exact x8.takeB (drop_take _ _ _) λ x hx y hy=>Uy (BtT (k1 x hx)) (ha y hy)
  have cZ:∀ y∈b.toList.drop (j+1+k),kl κ a[i] y:=λ y hy=>qlr (k2 y (by rw[J9];exact hy))
  dsimp only;by_cases hk0:k > 0
  ·rw[V2 hk0];by_cases h3:j+1+k=b.size
   ·rw[V2 (by simpa using h3)];refine Vu ⟨hs,.inl ⟨_,rfl,?_⟩⟩;rw[qcO];exact mk.endB (by rw[Yy];omega)
   ·rw[V3 (by simpa using h3)];exact qjR hO hk ka kb hl hs mk hi (by omega) (by omega) cZ
  ·rw[V3 hk0]
   have:k=0:=by omega
   subst this;exact qjR hO hk ka kb hl hs x8 hi (by omega) (by omega) cZ
theorem qjT{o:Array Keyed}{i j g p q m:Nat}{b0:SortSt}(hs:∃ g,b0=j8 st g)(mi:MI (kl κ) a.toList b.toList o.toList i j)(hi:i+1<a.size)(hj:j<b.size)(hm:m<=i+j):wpS (model prog w) A E s (lo1 a b o i j g p q) (qbv κ a b st m) b0:=by
 unfold lo1;refine Vv (Vq ?_);have B6:∃ g',j8 b0 g=j8 st g':=by obtain⟨g1,rfl⟩:=hs;exact⟨g,rfl⟩
 have I0:kindOf (j8 b0 g)=oneType':=by obtain⟨g1,rfl⟩:=hs;exact hk
 refine Vv (qR (p:=b[j]) (getElem?_pos b j (by omega)) ?_);refine Vv (yg hO (a.toList.drop i) (XN (by rw[Us,Yy];exact Vc _)) I0 (kb _ (by simp)) (by omega) (λ x hx=>ka x (Yr hx)) ((Yq.mp mi.sa).2.1) (by omega) λ k iM k1 k2=>?_);have hb:=mi.headB hO hk ka kb hl hj;have mk:MI (kl κ) a.toList b.toList (o++a.extract i (i+k)).toList (i+k) j:=by
  rw[Y6,qft];exact mi.takeA (drop_take _ _ _) λ x hx y hy=>Uy (BtF (k1 x hx)) (hb y hy)
 have oA:∀ y∈a.toList.drop (i+k),kl κ b[j] y:=λ y hy=>qmK (k2 y (by rw[J9];exact hy))
 dsimp only;by_cases hk0:k > 0
 ·rw[V2 hk0];by_cases h3:i+k+1=a.size
  ·rw[V2 (by simpa using h3)];refine Vu ⟨B6,.inl ⟨_,rfl,?_⟩⟩;rw[qeB];exact mk.last (qb6 hO hk ka kb hl h3)
  ·rw[V3 (by simpa using h3)];by_cases h4:i+k=a.size
   ·rw[V2 (by simpa using h4)];refine Vu ⟨B6,.inl ⟨_,rfl,?_⟩⟩;rw[qcO];exact mk.endA (by rw[Yy];omega)
   ·rw[V3 (by simpa using h4)];exact qjS hO hk ka kb hl B6 mk (by omega) hj (by omega) oA
 ·rw[V3 hk0]
  have:k=0:=by omega
  subst this;exact qjS hO hk ka kb hl B6 mi hi hj hm oA
theorem qmL{g:Nat}{r:C1}{m:Nat}{b0:SortSt}(ok:Ok κ a b st m r b0)(hn:r.1=none):wpS (model prog w) A E s (lo0 a b g r) (qbv κ a b st (m+1)) b0:=by
 obtain⟨v,o,i,j,p,q⟩:=r;obtain⟨hs,⟨r,h1,h2⟩|⟨_,mi,hi,hj,hm⟩⟩:=ok
 ·rw[hn] at h1;cases h1
 change MI (kl κ) a.toList b.toList o.toList i j at mi
 change i+1<a.size at hi
 change j<b.size at hj
 change m<=i+j at hm
 unfold lo0;dsimp only;have I0:kindOf b0=oneType':=by obtain⟨g,rfl⟩:=hs;exact hk
 refine Vv (qR (p:=b[j]) (getElem?_pos b j (by omega)) ?_);refine Vv (qR (p:=a[i]) (getElem?_pos a i (by omega)) ?_);refine Vv (qcM hO I0 (kb _ (by simp)) (ka _ (by simp)) ?_);dsimp only;cases hc:κ.blt (ky κ b[j]) (ky κ a[i]) with
 |true =>
  rw[V2 rfl];refine Vv (qR (p:=b[j]) (getElem?_pos b j (by omega)) ?_);have ha:=mi.headA hO hk ka kb hl (show i<a.size by omega);have x8:MI (kl κ) a.toList b.toList (o.push b[j]).toList i (j+1):=by
   rw[Z6];exact mi.takeB (yf (qa5 (by omega))) (λ x p8 y hy=>by rw[Zq.mp p8];exact Uy (Ub hc) (ha y hy))
  by_cases h1:j+1=b.size
  ·rw[V2 (by simpa using h1)];refine Vu ⟨hs,.inl ⟨_,rfl,?_⟩⟩;rw[qcO];exact x8.endB (by rw[Yy];omega)
  ·rw[V3 (by simpa using h1)];by_cases h2:q+1 ≥ g
   ·rw[V2 h2];exact Vu ⟨hs,.inr ⟨rfl,x8,hi,by show j+1<b.size;omega,by show m+1<=i+(j+1);omega⟩⟩
   ·rw[V3 h2];exact Vu ⟨⟨hs,.inr ⟨rfl,x8,hi,by show j+1<b.size;omega,by show m+1<=i+(j+1);omega⟩⟩,rfl⟩
 |false =>
  rw[V3 (by simp)];refine Vv (qR (p:=a[i]) (getElem?_pos a i (by omega)) ?_);have hb:=mi.headB hO hk ka kb hl hj;have x8:MI (kl κ) a.toList b.toList (o.push a[i]).toList (i+1) j:=by
   rw[Z6];exact mi.takeA (yf (qa5 (by omega))) (λ x p8 y hy=>by rw[Zq.mp p8];exact Uy hc (hb y hy))
  by_cases h1:i+1+1=a.size
  ·rw[V2 (by simpa using h1)];refine Vu ⟨hs,.inl ⟨_,rfl,?_⟩⟩;rw[qeB];exact x8.last (qb6 hO hk ka kb hl h1)
  ·rw[V3 (by simpa using h1)];by_cases h2:p+1 ≥ g
   ·rw[V2 h2];exact Vu ⟨hs,.inr ⟨rfl,x8,by show i+1+1<a.size;omega,hj,by show m+1<=i+1+j;omega⟩⟩
   ·rw[V3 h2];exact Vu ⟨⟨hs,.inr ⟨rfl,x8,by show i+1+1<a.size;omega,hj,by show m+1<=i+1+j;omega⟩⟩,rfl⟩
end
section
variable {prog:Program}{w:World}{A:Around}{E:Value->Shared->Prop}{s:Shared}{κ:KeyKind}{a b:Array Keyed}{st:SortSt}
theorem Ok.mono{γ:Type}{m m':Nat}{c:Option (Array Keyed)×Array Keyed×Nat×Nat×γ}{b0:SortSt}(h:Ok κ a b st m c b0)(hm:m'<=m):Ok κ a b st m' c b0:=by
 obtain⟨hs,h|⟨h1,h2,h3,h4,h5⟩⟩:=h
 ·exact⟨hs,.inl h⟩
 ·exact⟨hs,.inr ⟨h1,h2,h3,h4,Qx hm h5⟩⟩
theorem qfu(hO:κ.OneLt){Q:Array Keyed->SortSt->Prop}(hk:kindOf st=oneType')(ka:∀ x∈a.toList,Kd κ x)(kb:∀ x∈b.toList,Kd κ x)(h0:MI (kl κ) a.toList b.toList [] 0 0)(a1:0<a.size)(b1:0<b.size)(hd:∀ y∈a.toList,kl κ b[0] y)(hl:∀ x∈a.toList.drop (a.size-1),∀ y∈b.toList,kl κ y x)(h:∀(o:Array Keyed)(g:Nat),Gd (kl κ) a.toList b.toList o.toList->Q o (j8 st g)):wpS (model prog w) A E s (qcN a b) Q st:=by
 rw[qgD];refine Vv (wpS_lift (Vm ⟨rfl,?_⟩));refine Vv (qR (p:=b[0]) (getElem?_pos b 0 b1) ?_);dsimp only;have mi:MI (kl κ) a.toList b.toList (#[b[0]]:Array Keyed).toList 0 1:=by
  have:=h0.takeB (yf (qa5 b1)) (λ x hx y hy=>by rw[Zq.mp hx];exact hd y (Yr hy))
  simpa using this
 by_cases h1:1=b.size
 ·rw[V2 (by simpa using h1)];refine Vu (h _ (gallopOf st) ?_);rw[qcO];exact mi.endB (by rw[Yy];omega)
 rw[V3 (by simpa using h1)];by_cases h2:0+1=a.size
 ·rw[V2 (by simpa using h2)];refine Vu (h _ (gallopOf st) ?_);rw[qeB];exact mi.last (qb6 hO hk ka kb hl h2)
 rw[V3 (by simpa using h2)];refine Vv (V0 ?_);refine Vv (Vw (Vb (I:=λ x (c:C0) b0=>Ok κ a b st (x+1) c b0/\c.1=none) (Q:=λ c b0=>Ok κ a b st 0 c b0/\c.1≠none) ?step ?fin ⟨⟨⟨gallopOf st,rfl⟩,.inr ⟨rfl,mi,by show 0+1<a.size;omega,by show 1<b.size;omega,by show 0+1<=0+1;omega⟩⟩,rfl⟩) ?post)
 case post =>
  rintro⟨v,c⟩ b0 ⟨⟨⟨g,rfl⟩,ok⟩,hv⟩;rcases ok with⟨r,e,gd⟩|⟨e,_⟩
  ·cases e
   exact Vu (h r g gd)
  ·exact absurd e hv
 case fin =>
  rintro⟨v,o,i,j,g⟩ b0 ⟨⟨hs,ok⟩,hv⟩;rcases ok with⟨r,e,gd⟩|⟨e,_,hi,hj,hm⟩
  ·rw[hv] at e;cases e
  ·change i+1<a.size at hi
   change j<b.size at hj
   change _<=i+j at hm
   omega
 case step =>
  rintro x c b0 _ hx ⟨ok,hn⟩;obtain⟨v,o,i,j,g⟩:=c;cases hn
  have wK:Ok κ a b st (x+1) ((none,o,i,j,0,0):C1) b0:=ok;refine Vv (Vw (Vb (I:=λ y (c:C1) b0=>Ok κ a b st (x+1+y) c b0/\c.1=none) (Q:=λ c b0=>Ok κ a b st (x+2) c b0) ?istep ?ifin ⟨wK,rfl⟩) ?ipost)
  case istep =>
   rintro y c i8 _ hy ⟨V6,aS⟩;refine Vw (show wpS (model prog w) A E s (lo0 a b g c) (qbv κ a b st (x+1+y+1)) i8 from qmL hO hk ka kb hl V6 aS) λ r G4 hr=>?_
   cases r with
   |done c=>exact Ok.mono hr (by omega)
   |yield c=>exact hr
  case ifin =>
   rintro⟨v,o,i,j,p,q⟩ i8 ⟨⟨hs,V6⟩,hv⟩;rcases V6 with⟨r,e,gd⟩|⟨e,_,hi,hj,hm⟩
   ·rw[hv] at e;cases e
   ·change i+1<a.size at hi
    change j<b.size at hj
    change _<=i+j at hm
    omega
  case ipost =>
   rintro⟨v,o,i,j,p,q⟩ i8 ⟨hs,V6⟩;dsimp only;cases v with
   |some v =>
    rcases V6 with⟨r,e,gd⟩|⟨e,_⟩
    ·cases e
     exact Vu ⟨⟨hs,.inl ⟨_,rfl,gd⟩⟩,by simp⟩
    ·cases e
   |none =>
    dsimp only;refine Vv (wpS_lift (Vm ⟨rfl,?_⟩));have wJ:Ok κ a b st (x+2) ((none,o,i,j,g+1,p,q):C2) i8:=⟨hs,V6⟩;refine Vv (Vw (Vb (I:=λ y (c:C2) b0=>Ok κ a b st (x+2) c b0/\c.1=none) (Q:=λ c b0=>Ok κ a b st (x+2) c b0) ?jstep ?jfin ⟨wJ,rfl⟩) ?jpost)
    case jfin=>exact λ c b0 hc=>hc.1
    case jstep =>
     rintro y ⟨v,o,i,j,g,p,q⟩ G4 _ hy ⟨⟨hs,cQ⟩,hn⟩;have oU:v=none:=hn;subst oU;rcases cQ with⟨r,e,gd⟩|⟨_,mi,hi,hj,hm⟩
     ·cases e
     change MI (kl κ) a.toList b.toList o.toList i j at mi
     change i+1<a.size at hi
     change j<b.size at hj
     change _<=i+j at hm
     refine Vw (Q:=qbv κ a b st (x+2)) ?_ λ r G4 hr=>?_
     ·by_cases hg:g > 1
      ·dsimp only;rw[V2 hg];show wpS (model prog w) A E s (lo1 a b o i j (g-1) p q) _ _
       exact qjT hO hk ka kb hl hs mi hi hj hm
      ·dsimp only;rw[V3 hg];show wpS (model prog w) A E s (lo1 a b o i j g p q) _ _
       exact qjT hO hk ka kb hl hs mi hi hj hm
     ·cases r with
      |done c=>exact hr
      |yield c=>exact hr
    case jpost =>
     rintro⟨v,o,i,j,g,p,q⟩ G4 ⟨hs,cQ⟩;dsimp only;cases v with
     |some v =>
      rcases cQ with⟨r,e,gd⟩|⟨e,_⟩
      ·cases e
       exact Vu ⟨⟨hs,.inl ⟨_,rfl,gd⟩⟩,by simp⟩
      ·cases e
     |none =>
      refine Vv (Vq (Vu ⟨⟨?_,cQ⟩,rfl⟩));obtain⟨g1,rfl⟩:=hs;exact⟨g+1,rfl⟩
end
structure MH{α:Type}(r:α->α->Prop)(la lb O:List α)(i j:Nat):Prop where
 sa:(la.take i++O).Pairwise r
 sb:(lb.take j++O).Pairwise r
 pm:(la.take i++(lb.take j++O)).Perm (la++lb)
theorem MH.takeA{α:Type}{r:α->α->Prop}{la lb O:List α}{i j i':Nat}(h:MH r la lb O i j){X:List α}(e:la.take i=la.take i'++X)(hx:∀ x∈X,∀ y∈lb.take j,r y x):MH r la lb (X++O) i' j:=by
 have h1:=h.sa;rw[e,Z1] at h1;have h2:=Yq.mp h.sb;refine⟨h1,Yq.mpr ⟨h2.1,(Yq.mp h1).2.1,λ x p8 y hy=>?_⟩,?_⟩
 ·rcases U5.mp hy with hX | hO
  ·exact hx y hX x p8
  ·exact h2.2.2 x p8 y hO
 ·have:=h.pm
  rw[e,Z1] at this;exact((Xj (lb.take j) X O).append_left (la.take i')).trans this
theorem MH.takeB{α:Type}{r:α->α->Prop}{la lb O:List α}{i j j':Nat}(h:MH r la lb O i j){X:List α}(e:lb.take j=lb.take j'++X)(hx:∀ x∈X,∀ y∈la.take i,r y x):MH r la lb (X++O) i j':=by
 have h1:=h.sb;rw[e,Z1] at h1;have h2:=Yq.mp h.sa;refine⟨Yq.mpr ⟨h2.1,(Yq.mp h1).2.1,λ x p8 y hy=>?_⟩,h1,?_⟩
 ·rcases U5.mp hy with hX | hO
  ·exact hx y hX x p8
  ·exact h2.2.2 x p8 y hO
 ·have:=h.pm
  rw[e,Z1] at this;exact this
theorem MH.endA{α:Type}{r:α->α->Prop}{la lb O:List α}{i j:Nat}(h:MH r la lb O i j)(e:i=0):Gd r la lb (la.take i++lb.take j++O):=by
 subst e;exact⟨h.sb,h.pm⟩
theorem MH.endB{α:Type}{r:α->α->Prop}{la lb O:List α}{i:Nat}(h:MH r la lb O i 0):Gd r la lb (la.take i++lb.take 0++O):=by
 have h1:=h.pm;rw[J8,U8];exact⟨h.sa,h1⟩
theorem MH.first{α:Type}{r:α->α->Prop}{la lb O:List α}{i j:Nat}(h:MH r la lb O i j)(hl:∀ x∈lb.take j,∀ y∈la,r x y):Gd r la lb (lb.take j++la.take i++O):=by
 have hb:=Yq.mp h.sb;refine⟨?_,?_⟩
 ·rw[Z1];refine Yq.mpr ⟨hb.1,h.sa,λ x hx y hy=>?_⟩;rcases U5.mp hy with hA | hO
  ·exact hl x hx y (Ys hA)
  ·exact hb.2.2 x hx y hO
 ·rw[Z1];exact(Xj (lb.take j) (la.take i) O).trans h.pm
theorem q9{α:Type}{l:List α}{i:Nat}{x:α}(h:l[i]?=some x):l.take (i+1)=l.take i++[x]:=by
 obtain⟨hi,e⟩:=Xq.mp h;rw[Xa hi,e]
theorem qdO{α:Type}(l:List α){i k:Nat}(h:k<=i):l.take i=l.take k++(l.take i).drop k:=by
 have:=(Yb k (l.take i)).symm
 rwa [List.take_take,Jk h] at this
noncomputable def qcP:Array Keyed->Array Keyed->SM (Array Keyed):=sortPriv% PySem.Builtin.mergeHi
noncomputable def vR(a b o:Array Keyed)(i j:Nat):Array Keyed:=a.extract 0 i++b.extract 0 j++o.reverse
noncomputable def qeC(a b o:Array Keyed)(i j:Nat):Array Keyed:=b.extract 0 j++a.extract 0 i++o.reverse
abbrev D1:=Option (Array Keyed)×Nat×Nat×Array Keyed×Nat×Nat
abbrev D2:=Option (Array Keyed)×Nat×Nat×Array Keyed×Nat×Nat×Nat
abbrev D0:=Option (Array Keyed)×Nat×Nat×Array Keyed×Nat
theorem qgE(a b:Array Keyed):qcP a b=(do
 rule "list.sort.merge-hi"
 let t:=a.size+b.size
 let mut i:=a.size-1
 let mut j:=b.size
 let mut o:Array Keyed:=#[<- elem' a i]
 if i == 0 then return vR a b o i j
 if j == 1 then return qeC a b o i j
 let mut g:=gallopOf (<- get)
 for _ in [0:t] do
  let mut p:=0
  let mut q:=0
  for _ in [0:t] do
   let some c <- lt' (<- elem' b (j-1)) (<- elem' a (i-1))|return vR a b o i j
   if c then
    i:=i-1;o:=o.push (<- elem' a i);p:=p+1;q:=0
    if i == 0 then return vR a b o i j
    if p ≥ g then break
   else
    j:=j-1;o:=o.push (<- elem' b j);q:=q+1;p:=0
    if j == 1 then return qeC a b o i j
    if q ≥ g then break
  rule "list.sort.gallop"
  g:=g+1
  for _ in [0:t] do
   if g > 1 then g:=g-1
   qiq g
   let some u <- zO false (<- elem' b (j-1)) a 0 i (i-1)|return vR a b o i j
   let k:=i-u
   p:=k
   if k > 0 then
    o:=o++(a.extract u i).reverse;i:=u
    if i == 0 then return vR a b o i j
   j:=j-1;o:=o.push (<- elem' b j)
   if j == 1 then return qeC a b o i j
   let some u <- zO true (<- elem' a (i-1)) b 0 j (j-1)|return vR a b o i j
   let k:=j-u
   q:=k
   if k > 0 then
    o:=o++(b.extract u j).reverse;j:=u
    if j == 1 then return qeC a b o i j
    if j == 0 then return vR a b o i j
   i:=i-1;o:=o.push (<- elem' a i)
   if i == 0 then return vR a b o i j
   if p<7 && q<7 then break
  g:=g+1
  qiq g
 unsupported "internal:list.sort.merge-bound"):=rfl
noncomputable def hi3(a b o:Array Keyed)(i j g p q:Nat):SM (ForInStep D2):=do
 let x <- elem' a (i-1)
 if i-1 == 0 then pure (.done (some (vR a b (o.push x) (i-1) j),i-1,j,o.push x,g,p,q))
 else if p<7 && q<7 then pure (.done (none,i-1,j,o.push x,g,p,q))
 else pure (.yield (none,i-1,j,o.push x,g,p,q))
noncomputable def hi2(a b o:Array Keyed)(i j g p q:Nat):SM (ForInStep D2):=do
 let x <- elem' b (j-1)
 if j-1 == 1 then pure (.done (some (qeC a b (o.push x) i (j-1)),i,j-1,o.push x,g,p,q))
 else do
  let y <- elem' a (i-1)
  let c <- zO true y b 0 (j-1) (j-1-1)
  match c with
  |some u =>
   if j-1-u > 0 then
    if u == 1 then pure (.done (some (qeC a b (o.push x++(b.extract u (j-1)).reverse) i u),i,u,o.push x++(b.extract u (j-1)).reverse,g,p,j-1-u))
    else if u == 0 then pure (.done (some (vR a b (o.push x++(b.extract u (j-1)).reverse) i u),i,u,o.push x++(b.extract u (j-1)).reverse,g,p,j-1-u))
    else hi3 a b (o.push x++(b.extract u (j-1)).reverse) i u g p (j-1-u)
   else hi3 a b (o.push x) i (j-1) g p (j-1-u)
  |_=>pure (.done (some (vR a b (o.push x) i (j-1)),i,j-1,o.push x,g,p,q))
noncomputable def hi1(a b o:Array Keyed)(i j g p q:Nat):SM (ForInStep D2):=do
 qiq g
 let x <- elem' b (j-1)
 let c <- zO false x a 0 i (i-1)
 match c with
 |some u =>
  if i-u > 0 then
   if u == 0 then pure (.done (some (vR a b (o++(a.extract u i).reverse) u j),u,j,o++(a.extract u i).reverse,g,i-u,q))
   else hi2 a b (o++(a.extract u i).reverse) u j g (i-u) q
  else hi2 a b o i j g (i-u) q
 |_=>pure (.done (some (vR a b o i j),i,j,o,g,p,q))
noncomputable def hi0(a b:Array Keyed)(g:Nat)(r:D1):SM (ForInStep D1):=do
 let y <- elem' b (r.2.2.1-1)
 let x <- elem' a (r.2.1-1)
 let c <- lt' y x
 match c with
 |some c =>
  if c then do
   let z <- elem' a (r.2.1-1)
   if r.2.1-1 == 0 then pure (.done (some (vR a b (r.2.2.2.1.push z) (r.2.1-1) r.2.2.1),r.2.1-1,r.2.2.1,r.2.2.2.1.push z,r.2.2.2.2.1+1,0))
   else if r.2.2.2.2.1+1 ≥ g then pure (.done (none,r.2.1-1,r.2.2.1,r.2.2.2.1.push z,r.2.2.2.2.1+1,0))
   else pure (.yield (none,r.2.1-1,r.2.2.1,r.2.2.2.1.push z,r.2.2.2.2.1+1,0))
  else do
   let z <- elem' b (r.2.2.1-1)
   if r.2.2.1-1 == 1 then pure (.done (some (qeC a b (r.2.2.2.1.push z) r.2.1 (r.2.2.1-1)),r.2.1,r.2.2.1-1,r.2.2.2.1.push z,0,r.2.2.2.2.2+1))
   else if r.2.2.2.2.2+1 ≥ g then pure (.done (none,r.2.1,r.2.2.1-1,r.2.2.2.1.push z,0,r.2.2.2.2.2+1))
   else pure (.yield (none,r.2.1,r.2.2.1-1,r.2.2.2.1.push z,0,r.2.2.2.2.2+1))
 |_=>pure (.done (some (vR a b r.2.2.2.1 r.2.1 r.2.2.1),r.2.1,r.2.2.1,r.2.2.2.1,r.2.2.2.2.1,r.2.2.2.2.2))
def OkH{γ:Type}(κ:KeyKind)(a b:Array Keyed)(st:SortSt)(m:Nat)(c:Option (Array Keyed)×Nat×Nat×Array Keyed×γ)(b0:SortSt):Prop:=
 (∃ g,b0=j8 st g)/\((∃ r,c.1=some r/\Gd (kl κ) a.toList b.toList r.toList)∨(c.1=none/\MH (kl κ) a.toList b.toList c.2.2.2.1.toList.reverse c.2.1 c.2.2.1/\0<c.2.1/\c.2.1<=a.size/\1<c.2.2.1/\c.2.2.1<=b.size/\c.2.1+c.2.2.1+m<=a.size+b.size))
def qdP{γ:Type}(κ:KeyKind)(a b:Array Keyed)(st:SortSt)(m:Nat):ForInStep (Option (Array Keyed)×Nat×Nat×Array Keyed×γ)->SortSt->Prop
 |.done c,b0=>OkH κ a b st m c b0
 |.yield c,b0=>OkH κ a b st m c b0/\c.1=none
theorem qeD(a:Array Keyed)(i:Nat):(a.extract 0 i).toList=a.toList.take i:=by
 rw[Yp,Xu,J6,Nat.sub_zero]
theorem qhC(a:Array Keyed)(u i:Nat):((a.extract u i).reverse).toList.reverse=(a.toList.take i).drop u:=by
 rw[Yt,List.reverse_reverse,Yp,Xu,List.drop_take]
theorem qcQ(a b o:Array Keyed)(i j:Nat):(vR a b o i j).toList=a.toList.take i++b.toList.take j++o.toList.reverse:=by
 unfold vR;rw[Y6,Y6,qeD,qeD,Yt]
theorem qeE(a b o:Array Keyed)(i j:Nat):(qeC a b o i j).toList=b.toList.take j++a.toList.take i++o.toList.reverse:=by
 unfold qeC;rw[Y6,Y6,qeD,qeD,Yt]
theorem qa6(o:Array Keyed)(x:Keyed):(o.push x).toList.reverse=[x]++o.toList.reverse:=by
 rw[Z6,Y8];rfl
theorem qhD(o u:Array Keyed):(o++u).toList.reverse=u.toList.reverse++o.toList.reverse:=by
 rw[Y6,Y8]
theorem yt{a:Array Keyed}{i:Nat}(h0:0<i)(h:i<=a.size):a.toList.take i=a.toList.take (i-1)++[a[i-1]]:=by
 have:=q9 (qa5 (a:=a) (i:=i-1) (by omega))
 rwa [Nat.sub_add_cancel h0] at this
section
variable {prog:Program}{w:World}{A:Around}{E:Value->Shared->Prop}{s:Shared}{κ:KeyKind}{a b:Array Keyed}{st:SortSt}
variable (hO:κ.OneLt)(hk:kindOf st=oneType')(ka:∀ x∈a.toList,Kd κ x)(kb:∀ x∈b.toList,Kd κ x)(hd:∀ x∈b.toList.take 1,∀ y∈a.toList,kl κ x y)
include hO hk ka kb hd
theorem MH.tailA{O:List Keyed}{i j:Nat}(m:MH (kl κ) a.toList b.toList O i j)(h0:0<i)(hi:i<=a.size):∀ y∈a.toList.take i,kl κ y a[i-1]:=by
 have:=(Yq.mp m.sa).1
 rw[yt h0 hi] at this ⊢;intro y hy;rcases U5.mp hy with h|h
 ·exact(Yq.mp this).2.2 y h _ (Zq.mpr rfl)
 ·rw[Zq.mp h];exact Jj _
theorem MH.tailB{O:List Keyed}{i j:Nat}(m:MH (kl κ) a.toList b.toList O i j)(h0:0<j)(hj:j<=b.size):∀ y∈b.toList.take j,kl κ y b[j-1]:=by
 have:=(Yq.mp m.sb).1
 rw[yt h0 hj] at this ⊢;intro y hy;rcases U5.mp hy with h|h
 ·exact(Yq.mp this).2.2 y h _ (Zq.mpr rfl)
 ·rw[Zq.mp h];exact Jj _
theorem qjU{o:Array Keyed}{i j g p q m:Nat}{b0:SortSt}(hs:∃ g,b0=j8 st g)(mi:MH (kl κ) a.toList b.toList o.toList.reverse i j)(i0:0<i)(hi:i<=a.size)(j1:1<j)(hj:j<=b.size)(hm:i+j+m<=a.size+b.size)(hx:∀ y∈b.toList.take j,kl κ y a[i-1]):wpS (model prog w) A E s (hi3 a b o i j g p q) (qdP κ a b st m) b0:=by
 unfold hi3;refine Vv (qR (p:=a[i-1]) (getElem?_pos a (i-1) (by omega)) ?_);have x8:MH (kl κ) a.toList b.toList (o.push a[i-1]).toList.reverse (i-1) j:=by
  rw[qa6];exact mi.takeA (yt i0 hi) (λ x p8 y hy=>by rw[Zq.mp p8];exact hx y hy)
 by_cases h1:i-1=0
 ·rw[V2 (by simpa using h1)];refine Vu ⟨hs,.inl ⟨_,rfl,?_⟩⟩;rw[qcQ];exact x8.endA h1
 ·rw[V3 (by simpa using h1)];by_cases h2:(decide (p<7) && decide (q<7))=true
  ·rw[V2 h2];exact Vu ⟨hs,.inr ⟨rfl,x8,by show 0<i-1;omega,by show i-1<=a.size;omega,j1,hj,by show i-1+j+m<=_;omega⟩⟩
  ·rw[V3 h2];exact Vu ⟨⟨hs,.inr ⟨rfl,x8,by show 0<i-1;omega,by show i-1<=a.size;omega,j1,hj,by show i-1+j+m<=_;omega⟩⟩,rfl⟩
theorem qjV{o:Array Keyed}{i j g p q m:Nat}{b0:SortSt}(hs:∃ g,b0=j8 st g)(mi:MH (kl κ) a.toList b.toList o.toList.reverse i j)(i0:0<i)(hi:i<=a.size)(j1:1<j)(hj:j<=b.size)(hm:i+j+m<=a.size+b.size)(hx:∀ y∈a.toList.take i,kl κ y b[j-1]):wpS (model prog w) A E s (hi2 a b o i j g p q) (qdP κ a b st m) b0:=by
 unfold hi2;refine Vv (qR (p:=b[j-1]) (getElem?_pos b (j-1) (by omega)) ?_);have x8:MH (kl κ) a.toList b.toList (o.push b[j-1]).toList.reverse i (j-1):=by
  rw[qa6];exact mi.takeB (yt (by omega) hj) (λ x p8 y hy=>by rw[Zq.mp p8];exact hx y hy)
 by_cases h1:j-1=1
 ·rw[V2 (by simpa using h1)];refine Vu ⟨hs,.inl ⟨_,rfl,?_⟩⟩;rw[qeE];exact x8.first (by rw[h1];exact hd)
 ·rw[V3 (by simpa using h1)];refine Vv (qR (p:=a[i-1]) (getElem?_pos a (i-1) (by omega)) ?_);have I0:kindOf b0=oneType':=by obtain⟨g,rfl⟩:=hs;exact hk
  refine Vv (yg hO (b.toList.take (j-1)) (by rw[J6]) I0 (ka _ (by simp)) (by omega) (λ x hx=>kb x (Ys hx)) ((Yq.mp x8.sb).1) (by omega) λ u M7 k1 k2=>?_);have ha:=mi.tailA hO hk ka kb hd i0 hi;have mk:MH (kl κ) a.toList b.toList (o.push b[j-1]++(b.extract u (j-1)).reverse).toList.reverse i u:=by
   rw[qhD,qhC];exact x8.takeB (qdO _ M7) λ x hx y hy=>Uy (ha y hy) (qlr (k2 x hx))
  have cZ:∀ y∈b.toList.take u,kl κ y a[i-1]:=λ y hy=>BtT (k1 y (by rw[List.take_take,Jk M7];exact hy))
  dsimp only;by_cases hk0:j-1-u > 0
  ·rw[V2 hk0];by_cases h3:u=1
   ·rw[V2 (by simpa using h3)];refine Vu ⟨hs,.inl ⟨_,rfl,?_⟩⟩;rw[qeE];exact mk.first (by rw[h3];exact hd)
   ·rw[V3 (by simpa using h3)];by_cases h4:u=0
    ·rw[V2 (by simpa using h4)];refine Vu ⟨hs,.inl ⟨_,rfl,?_⟩⟩;rw[qcQ];subst h4;exact mk.endB
    ·rw[V3 (by simpa using h4)];exact qjU hO hk ka kb hd hs mk i0 hi (by omega) (by omega) (by omega) cZ
  ·rw[V3 hk0]
   have:u=j-1:=by omega
   subst this;exact qjU hO hk ka kb hd hs x8 i0 hi (by omega) (by omega) (by omega) cZ
theorem qjW{o:Array Keyed}{i j g p q m:Nat}{b0:SortSt}(hs:∃ g,b0=j8 st g)(mi:MH (kl κ) a.toList b.toList o.toList.reverse i j)(i0:0<i)(hi:i<=a.size)(j1:1<j)(hj:j<=b.size)(hm:i+j+m<=a.size+b.size):wpS (model prog w) A E s (hi1 a b o i j g p q) (qdP κ a b st m) b0:=by
 unfold hi1;refine Vv (Vq ?_);have B6:∃ g',j8 b0 g=j8 st g':=by obtain⟨g1,rfl⟩:=hs;exact⟨g,rfl⟩
 have I0:kindOf (j8 b0 g)=oneType':=by obtain⟨g1,rfl⟩:=hs;exact hk
 refine Vv (qR (p:=b[j-1]) (getElem?_pos b (j-1) (by omega)) ?_);refine Vv (yg hO (a.toList.take i) (by rw[J6]) I0 (kb _ (by simp)) (by omega) (λ x hx=>ka x (Ys hx)) ((Yq.mp mi.sa).1) (by omega) λ u M7 k1 k2=>?_);have hb:=mi.tailB hO hk ka kb hd (by omega) hj;have mk:MH (kl κ) a.toList b.toList (o++(a.extract u i).reverse).toList.reverse u j:=by
  rw[qhD,qhC];exact mi.takeA (qdO _ M7) λ x hx y hy=>Uy (hb y hy) (qmK (k2 x hx))
 have oA:∀ y∈a.toList.take u,kl κ y b[j-1]:=λ y hy=>BtF (k1 y (by rw[List.take_take,Jk M7];exact hy))
 dsimp only;by_cases hk0:i-u > 0
 ·rw[V2 hk0];by_cases h4:u=0
  ·rw[V2 (by simpa using h4)];refine Vu ⟨B6,.inl ⟨_,rfl,?_⟩⟩;rw[qcQ];exact mk.endA h4
  ·rw[V3 (by simpa using h4)];exact qjV hO hk ka kb hd B6 mk (by omega) (by omega) j1 hj (by omega) oA
 ·rw[V3 hk0]
  have:u=i:=by omega
  subst this;exact qjV hO hk ka kb hd B6 mi i0 hi j1 hj hm oA
theorem qmM{g:Nat}{r:D1}{m:Nat}{b0:SortSt}(ok:OkH κ a b st m r b0)(hn:r.1=none):wpS (model prog w) A E s (hi0 a b g r) (qdP κ a b st (m+1)) b0:=by
 obtain⟨v,i,j,o,p,q⟩:=r;obtain⟨hs,⟨r,h1,h2⟩|⟨_,mi,i0,hi,j1,hj,hm⟩⟩:=ok
 ·rw[hn] at h1;cases h1
 change MH (kl κ) a.toList b.toList o.toList.reverse i j at mi
 change 0<i at i0
 change i<=a.size at hi
 change 1<j at j1
 change j<=b.size at hj
 change i+j+m<=_ at hm
 unfold hi0;dsimp only;have I0:kindOf b0=oneType':=by obtain⟨g,rfl⟩:=hs;exact hk
 refine Vv (qR (p:=b[j-1]) (getElem?_pos b (j-1) (by omega)) ?_);refine Vv (qR (p:=a[i-1]) (getElem?_pos a (i-1) (by omega)) ?_);refine Vv (qcM hO I0 (kb _ (by simp)) (ka _ (by simp)) ?_);dsimp only;cases hc:κ.blt (ky κ b[j-1]) (ky κ a[i-1]) with
 |true =>
  rw[V2 rfl];refine Vv (qR (p:=a[i-1]) (getElem?_pos a (i-1) (by omega)) ?_);have hb:=mi.tailB hO hk ka kb hd (by omega) hj;have x8:MH (kl κ) a.toList b.toList (o.push a[i-1]).toList.reverse (i-1) j:=by
   rw[qa6];exact mi.takeA (yt i0 hi) (λ x p8 y hy=>by rw[Zq.mp p8];exact Uy (hb y hy) (Ub hc))
  by_cases h1:i-1=0
  ·rw[V2 (by simpa using h1)];refine Vu ⟨hs,.inl ⟨_,rfl,?_⟩⟩;rw[qcQ];exact x8.endA h1
  ·rw[V3 (by simpa using h1)];by_cases h2:p+1 ≥ g
   ·rw[V2 h2];exact Vu ⟨hs,.inr ⟨rfl,x8,by show 0<i-1;omega,by show i-1<=a.size;omega,j1,hj,by show i-1+j+(m+1)<=_;omega⟩⟩
   ·rw[V3 h2];exact Vu ⟨⟨hs,.inr ⟨rfl,x8,by show 0<i-1;omega,by show i-1<=a.size;omega,j1,hj,by show i-1+j+(m+1)<=_;omega⟩⟩,rfl⟩
 |false =>
  rw[V3 (by simp)];refine Vv (qR (p:=b[j-1]) (getElem?_pos b (j-1) (by omega)) ?_);have ha:=mi.tailA hO hk ka kb hd i0 hi;have x8:MH (kl κ) a.toList b.toList (o.push b[j-1]).toList.reverse i (j-1):=by
   rw[qa6];exact mi.takeB (yt (by omega) hj) (λ x p8 y hy=>by rw[Zq.mp p8];exact Uy (ha y hy) hc)
  by_cases h1:j-1=1
  ·rw[V2 (by simpa using h1)];refine Vu ⟨hs,.inl ⟨_,rfl,?_⟩⟩;rw[qeE];exact x8.first (by rw[h1];exact hd)
  ·rw[V3 (by simpa using h1)];by_cases h2:q+1 ≥ g
   ·rw[V2 h2];exact Vu ⟨hs,.inr ⟨rfl,x8,i0,hi,by show 1<j-1;omega,by show j-1<=b.size;omega,by show i+(j-1)+(m+1)<=_;omega⟩⟩
   ·rw[V3 h2];exact Vu ⟨⟨hs,.inr ⟨rfl,x8,i0,hi,by show 1<j-1;omega,by show j-1<=b.size;omega,by show i+(j-1)+(m+1)<=_;omega⟩⟩,rfl⟩
end
section
variable {prog:Program}{w:World}{A:Around}{E:Value->Shared->Prop}{s:Shared}{κ:KeyKind}{a b:Array Keyed}{st:SortSt}
theorem OkH.mono{γ:Type}{m m':Nat}{c:Option (Array Keyed)×Nat×Nat×Array Keyed×γ}{b0:SortSt}(h:OkH κ a b st m c b0)(hm:m'<=m):OkH κ a b st m' c b0:=by
 obtain⟨hs,h|⟨h1,h2,h3,h4,h5,h6,h7⟩⟩:=h
 ·exact⟨hs,.inl h⟩
 ·exact⟨hs,.inr ⟨h1,h2,h3,h4,h5,h6,by omega⟩⟩
theorem qfv(hO:κ.OneLt){Q:Array Keyed->SortSt->Prop}(hk:kindOf st=oneType')(ka:∀ x∈a.toList,Kd κ x)(kb:∀ x∈b.toList,Kd κ x)(h0:MH (kl κ) a.toList b.toList [] a.size b.size)(a1:0<a.size)(b1:0<b.size)(hd:∀ x∈b.toList.take 1,∀ y∈a.toList,kl κ x y)(hl:∀ y∈b.toList,kl κ y a[a.size-1])(h:∀(o:Array Keyed)(g:Nat),Gd (kl κ) a.toList b.toList o.toList->Q o (j8 st g)):wpS (model prog w) A E s (qcP a b) Q st:=by
 rw[qgE];refine Vv (wpS_lift (Vm ⟨rfl,?_⟩));refine Vv (qR (p:=a[a.size-1]) (getElem?_pos a (a.size-1) (by omega)) ?_);dsimp only;have mi:MH (kl κ) a.toList b.toList (#[a[a.size-1]]:Array Keyed).toList.reverse (a.size-1) b.size:=by
  have:=h0.takeA (yt a1 (Vc _)) (λ x hx y hy=>by rw[Zq.mp hx];exact hl y (Ys hy))
  simpa using this
 by_cases h1:a.size-1=0
 ·rw[V2 (by simpa using h1)];refine Vu (h _ (gallopOf st) ?_);rw[qcQ];exact mi.endA h1
 rw[V3 (by simpa using h1)];by_cases h2:b.size=1
 ·rw[V2 (by simpa using h2)];refine Vu (h _ (gallopOf st) ?_);rw[qeE];exact mi.first (by rw[h2];exact hd)
 rw[V3 (by simpa using h2)];refine Vv (V0 ?_);refine Vv (Vw (Vb (I:=λ x (c:D0) b0=>OkH κ a b st (x+1) c b0/\c.1=none) (Q:=λ c b0=>OkH κ a b st 0 c b0/\c.1≠none) ?step ?fin ⟨⟨⟨gallopOf st,rfl⟩,.inr ⟨rfl,mi,by show 0<a.size-1;omega,by show a.size-1<=a.size;omega,by show 1<b.size;omega,Vc _,by show a.size-1+b.size+(0+1)<=_;omega⟩⟩,rfl⟩) ?post)
 case post =>
  rintro⟨v,c⟩ b0 ⟨⟨⟨g,rfl⟩,ok⟩,hv⟩;rcases ok with⟨r,e,gd⟩|⟨e,_⟩
  ·cases e
   exact Vu (h r g gd)
  ·exact absurd e hv
 case fin =>
  rintro⟨v,i,j,o,g⟩ b0 ⟨⟨hs,ok⟩,hv⟩;rcases ok with⟨r,e,gd⟩|⟨e,_,i0,hi,j1,hj,hm⟩
  ·rw[hv] at e;cases e
  ·change 0<i at i0
   change i+j+_<=_ at hm
   omega
 case step =>
  rintro x c b0 _ hx ⟨ok,hn⟩;obtain⟨v,i,j,o,g⟩:=c;cases hn
  have wK:OkH κ a b st (x+1) ((none,i,j,o,0,0):D1) b0:=ok;refine Vv (Vw (Vb (I:=λ y (c:D1) b0=>OkH κ a b st (x+1+y) c b0/\c.1=none) (Q:=λ c b0=>OkH κ a b st (x+2) c b0) ?istep ?ifin ⟨wK,rfl⟩) ?ipost)
  case istep =>
   rintro y c i8 _ hy ⟨V6,aS⟩;refine Vw (show wpS (model prog w) A E s (hi0 a b g c) (qdP κ a b st (x+1+y+1)) i8 from qmM hO hk ka kb hd V6 aS) λ r G4 hr=>?_
   cases r with
   |done c=>exact OkH.mono hr (by omega)
   |yield c=>exact hr
  case ifin =>
   rintro⟨v,i,j,o,p,q⟩ i8 ⟨⟨hs,V6⟩,hv⟩;rcases V6 with⟨r,e,gd⟩|⟨e,_,i0,hi,j1,hj,hm⟩
   ·rw[hv] at e;cases e
   ·change 0<i at i0
    change i+j+_<=_ at hm
    omega
  case ipost =>
   rintro⟨v,i,j,o,p,q⟩ i8 ⟨hs,V6⟩;dsimp only;cases v with
   |some v =>
    rcases V6 with⟨r,e,gd⟩|⟨e,_⟩
    ·cases e
     exact Vu ⟨⟨hs,.inl ⟨_,rfl,gd⟩⟩,by simp⟩
    ·cases e
   |none =>
    dsimp only;refine Vv (wpS_lift (Vm ⟨rfl,?_⟩));have wJ:OkH κ a b st (x+2) ((none,i,j,o,g+1,p,q):D2) i8:=⟨hs,V6⟩;refine Vv (Vw (Vb (I:=λ y (c:D2) b0=>OkH κ a b st (x+2) c b0/\c.1=none) (Q:=λ c b0=>OkH κ a b st (x+2) c b0) ?jstep ?jfin ⟨wJ,rfl⟩) ?jpost)
    case jfin=>exact λ c b0 hc=>hc.1
    case jstep =>
     rintro y ⟨v,i,j,o,g,p,q⟩ G4 _ hy ⟨⟨hs,cQ⟩,hn⟩;have oU:v=none:=hn;subst oU;rcases cQ with⟨r,e,gd⟩|⟨_,mi,i0,hi,j1,hj,hm⟩
     ·cases e
     change MH (kl κ) a.toList b.toList o.toList.reverse i j at mi
     change 0<i at i0
     change i<=a.size at hi
     change 1<j at j1
     change j<=b.size at hj
     change i+j+_<=_ at hm
     refine Vw (Q:=qdP κ a b st (x+2)) ?_ λ r G4 hr=>?_
     ·by_cases hg:g > 1
      ·dsimp only;rw[V2 hg];show wpS (model prog w) A E s (hi1 a b o i j (g-1) p q) _ _
       exact qjW hO hk ka kb hd hs mi i0 hi j1 hj hm
      ·dsimp only;rw[V3 hg];show wpS (model prog w) A E s (hi1 a b o i j g p q) _ _
       exact qjW hO hk ka kb hd hs mi i0 hi j1 hj hm
     ·cases r with
      |done c=>exact hr
      |yield c=>exact hr
    case jpost =>
     rintro⟨v,i,j,o,g,p,q⟩ G4 ⟨hs,cQ⟩;dsimp only;cases v with
     |some v =>
      rcases cQ with⟨r,e,gd⟩|⟨e,_⟩
      ·cases e
       exact Vu ⟨⟨hs,.inl ⟨_,rfl,gd⟩⟩,by simp⟩
      ·cases e
     |none =>
      refine Vv (Vq (Vu ⟨⟨?_,cQ⟩,rfl⟩));obtain⟨g1,rfl⟩:=hs;exact⟨g+1,rfl⟩
end
theorem qls{M:Model}{A:Around}{E:Value->Shared->Prop}{s:Shared}{σ:Type}{x:σ}{Q:PUnit->σ->Prop}{st:σ}(h:Q ⟨⟩ x):wpS M A E s (set x:StateT σ Sem PUnit) Q st:=by
 unfold wpS;rw[StateT.run_set];exact Vl ⟨rfl,h⟩
theorem qgF(i:Nat):mergeAt' i=(do
 let st <- get
 let (some (sa,na,pw),some (sb,nb,_)):=((pendingOf st)[i]?,(pendingOf st)[i+1]?) | unsupported "internal:list.sort.pending"
 set (SortSt.mk' (kindOf st) (arrOf st) (((pendingOf st).setIfInBounds i (sa,na+nb,pw)).eraseIdxIfInBounds (i+1)) (gallopOf st) (failedOf st))
 let some k <- zO false (<- elem' (arrOf st) sb) (arrOf st) sa na 0|return false
 let (sa,na):=(sa+k,na-k)
 if na == 0 then return true
 let some nb <- zO true (<- elem' (arrOf st) (sa+na-1)) (arrOf st) sb nb (nb-1)|return false
 if nb == 0 then return true
 let x:=(arrOf st).extract sa sb
 let y:=(arrOf st).extract sb (sb+nb)
 let m <- if na<=nb then qcN x y else qcP x y
 modify λ s=>setArr s (m.toList.zipIdx.foldl (λ a (p,j)=>a.setIfInBounds (sa+j) p) (arrOf s))
 return (failedOf (<- get)).isNone):=rfl
theorem qfw{U V:List Keyed}{sa:Nat}:∀(l:List Keyed)(k:Nat)(M:List Keyed)(U:List Keyed)(arr:Array Keyed),arr.toList=U++(M++V)->U.length=sa+k->M.length=l.length ->
  ((l.zipIdx k).foldl (λ a (x:Keyed×Nat)=>a.setIfInBounds (sa+x.2) x.1) arr).toList=U++(l++V)
 | [],k,M,U,arr,e,hu,hm=>by
  have:M=[]:=XF.mp hm
  subst this;exact e
 |x::l,k,M,U,arr,e,hu,hm=>by
  obtain⟨m,M,rfl⟩:∃ m M',M=m::M':=by
   cases M with
   |nil=>cases hm
   |cons m M=>exact⟨m,M,rfl⟩
  rw[List.zipIdx_cons,Jd]
  have:=qfw (V:=V) (U:=U) (sa:=sa) l (k+1) M (U++[x]) (arr.setIfInBounds (sa+k) x) (by
   rw[Array.toList_setIfInBounds,e,<- hu,List.set_append_right _ _ (Vc _),Nat.sub_self];simp) (by rw[Zj,hu];rfl) (by simpa using hm)
  rw[this];simp
section
variable {prog:Program}{w:World}{A:Around}{E:Value->Shared->Prop}{s:Shared}{κ:KeyKind}{st:SortSt}
theorem qfx(hO:κ.OneLt){Q:Bool->SortSt->Prop}{i sa na sb nb pa pb:Nat}{L X Y R:List Keyed}(hk:kindOf st=oneType')(hf:failedOf st=none)(e1:(pendingOf st)[i]?=some (sa,na,pa))(e2:(pendingOf st)[i+1]?=some (sb,nb,pb))(x4:sb=sa+na)(ea:(arrOf st).toList=L++(X++(Y++R)))(hL:L.length=sa)(hX:X.length=na)(hY:Y.length=nb)(na0:0<na)(nb0:0<nb)(sx:So κ X)(sy:So κ Y)(kx:∀ x∈X,Kd κ x)(kY:∀ x∈Y,Kd κ x)(h:∀(Z:List Keyed)(arr:Array Keyed)(g:Nat),Z.Perm (X++Y)->So κ Z->arr.toList=L++(Z++R) ->
   Q true (SortSt.mk' (kindOf st) arr (((pendingOf st).setIfInBounds i (sa,na+nb,pa)).eraseIdxIfInBounds (i+1)) g (failedOf st))):wpS (model prog w) A E s (mergeAt' i) Q st:=by
 have sz:(arrOf st).size=sa+na+nb+R.length:=by
  rw[<- Yy,ea];simp[hL,hX,hY];omega
 have gX:(arrOf st).toList.drop sa=X++(Y++R):=by rw[ea,<- hL,List.drop_left]
 have gY:(arrOf st).toList.drop sb=Y++R:=by rw[x4,<- J9,gX,<- hX,List.drop_left]
 have y0:Y[0]?=some (Y[0]'(by omega)):=X1 _;have aY:(arrOf st)[sb]?=some (Y[0]'(by omega)):=by
  have e:(arrOf st).toList[sb+0]?=some (Y[0]'(by omega)):=by rw[<- Zp,gY,Xr (by omega),y0]
  rw[<- XZ];exact e
 have xH:∀ y∈Y,kl κ (Y[0]'(by omega)) y:=by
  cases Y with
  |nil=>simp at hY;omega
  |cons z Y =>
   intro y hy;rcases Qh.mp hy with e|e
   ·rw[e];exact Jj _
   ·exact(Zm.mp sy).1 y e
 rw[qgF];refine Vv (V0 ?_);rw[e1,e2];dsimp only;refine Vv (qls ?_);refine Vv (qR aY ?_);refine Vv (yg hO X (by rw[gX,<- hX,Qa]) hk (kY _ (Uw _)) (by omega) kx sx (by omega) λ k iM k1 k2=>?_);dsimp only;by_cases h0:na-k=0
 ·rw[V2 (by simpa using h0)];refine Vu (h (X++Y) (arrOf st) _ (J4 _) (Yq.mpr ⟨sx,sy,λ x hx y hy=>?_⟩) (by rw[ea,Z1]));have I0:k=X.length:=by omega
  rw[I0,Ux] at k1;exact Uy (BtF (k1 x hx)) (xH y hy)
 rw[V3 (by simpa using h0)];have xl:X[na-1]?=some (X[na-1]'(by omega)):=X1 _;have tD:∀ x∈X,kl κ x (X[na-1]'(by omega)):=by
  intro x hx;obtain⟨j,hj,rfl⟩:=Y4 hx;rcases Q6 j (na-1) with h1|h1
  ·exact Xx.mp sx j (na-1) hj (by omega) h1
  ·have:j=na-1:=by omega
   subst this;exact Jj _
 have aX:(arrOf st)[sa+k+(na-k)-1]?=some (X[na-1]'(by omega)):=by
  have e:sa+k+(na-k)-1=sa+(na-1):=by omega
  rw[e,<- XZ,<- Zp,gX,Xr (by omega),xl]
 refine Vv (qR aX ?_);refine Vv (yg hO Y (by rw[gY,<- hY,Qa]) hk (kx _ (Uw _)) (by omega) kY sy (by omega) λ n hn1 n1 n2=>?_);dsimp only;by_cases pU:n=0
 ·rw[V2 (by simpa using pU)];refine Vu (h (X++Y) (arrOf st) _ (J4 _) (Yq.mpr ⟨sx,sy,λ x hx y hy=>?_⟩) (by rw[ea,Z1]));subst pU;exact Uy (tD x hx) (qlr (n2 y hy))
 rw[V3 (by simpa using pU)];have ex:((arrOf st).extract (sa+k) sb).toList=X.drop k:=by
  rw[Yp,Xu,<- J9,gX,Xe (by omega)];rw[show sb-(sa+k)=(X.drop k).length by rw[Us];omega,Qa]
 have ey:((arrOf st).extract sb (sb+n)).toList=Y.take n:=by
  rw[Yp,Xu,gY,XE,Xd (by omega)]
 generalize hxe:(arrOf st).extract (sa+k) sb=x at ex ⊢;generalize hye:(arrOf st).extract sb (sb+n)=y at ey ⊢;have lx:x.size=na-k:=by rw[<- Yy,ex,Us,hX]
 have ly:y.size=n:=by rw[<- Yy,ey,Uq,hY];omega
 have sx':So κ (X.drop k):=sx.sublist (List.drop_sublist _ _);have sy':So κ (Y.take n):=sy.sublist (Zx _ _);have kx':∀ z∈x.toList,Kd κ z:=λ z hz=>kx z (Yr (by rw[<- ex];exact hz))
 have ky':∀ z∈y.toList,Kd κ z:=λ z hz=>kY z (Ys (by rw[<- ey];exact hz))
 have yz:y[0]'(by omega)=Y[0]'(by omega):=by
  have h1:y.toList[0]?=some (y[0]'(by omega)):=qa5 (by omega);rw[ey,Xz (by omega),y0] at h1;exact(Option.some.inj h1).symm
 have xz:x[x.size-1]'(by omega)=X[na-1]'(by omega):=by
  have h1:x.toList[x.size-1]?=some (x[x.size-1]'(by omega)):=qa5 (by omega);rw[ex,Zp,show k+(x.size-1)=na-1 by omega,xl] at h1;exact(Option.some.inj h1).symm
 have hd:∀ z∈x.toList,kl κ (y[0]'(by omega)) z:=λ z hz=>by
  rw[yz];rw[ex] at hz;exact qmK (k2 z hz)
 have hl:∀ z∈y.toList,kl κ z (x[x.size-1]'(by omega)):=λ z hz=>by
  rw[xz];rw[ey] at hz;exact BtT (n1 z hz)
 have post:∀(o:Array Keyed)(g:Nat),Gd (kl κ) x.toList y.toList o.toList->wpS (model prog w) A E s (do
   modify λ s=>setArr s (o.toList.zipIdx.foldl (λ a (p,j)=>a.setIfInBounds (sa+k+j) p) (arrOf s))
   return (failedOf (<- get)).isNone) Q (j8 (SortSt.mk' (kindOf st) (arrOf st) (((pendingOf st).setIfInBounds i (sa,na+nb,pa)).eraseIdxIfInBounds (i+1)) (gallopOf st) (failedOf st)) g):=by
  rintro o g ⟨so,po⟩;refine Vv (Vq (Vv (V0 (Vu ?_))));rw[ex,ey] at po;have lo:o.toList.length=(X.drop k++Y.take n).length:=po.length_eq
  have:=h (X.take k++(o.toList++Y.drop n)) (o.toList.zipIdx.foldl (λ a (x:Keyed×Nat)=>a.setIfInBounds (sa+k+x.2) x.1) (arrOf st)) g ?_ ?_ ?_
  ·have e:(failedOf (j8 st g)).isNone=true:=by show(failedOf st).isNone=true;rw[hf];rfl
   show Q (failedOf st).isNone _
   rw[show(failedOf st).isNone=true from e];exact this
  ·refine(((po.append_right (Y.drop n)).append_left (X.take k))).trans (List.Perm.of_eq ?_);rw[Z1,Yb,<- Z1,Yb]
  ·have mo:∀ z∈o.toList,z∈X.drop k∨z∈Y.take n:=λ z hz=>U5.mp (po.mem_iff.mp hz)
   have sX:So κ (X.take k++X.drop k):=by rw[Yb];exact sx
   have sY:So κ (Y.take n++Y.drop n):=by rw[Yb];exact sy
   refine Yq.mpr ⟨(Yq.mp sX).1,Yq.mpr ⟨so,(Yq.mp sY).2.1,λ z hz u hu=>?_⟩,λ z hz u hu=>?_⟩
   ·rcases mo z hz with h1 | h1
    ·exact Uy (tD z (Yr h1)) (qlr (n2 u hu))
    ·exact(Yq.mp sY).2.2 z h1 u hu
   ·rcases U5.mp hu with h1 | h1
    ·rcases mo u h1 with h2 | h2
     ·exact(Yq.mp sX).2.2 z hz u h2
     ·exact Uy (BtF (k1 z hz)) (xH u (Ys h2))
    ·exact Uy (BtF (k1 z hz)) (xH u (Yr h1))
  ·have:=qfw (V:=Y.drop n++R) (U:=[]) (sa:=sa+k) o.toList 0 (X.drop k++Y.take n) (L++X.take k) (arrOf st) (by
    rw[ea]
    conv=>lhs;rw[<- Yb k X,<- Yb n Y]
    simp only[Z1]) (by rw[Zj,Uq];omega) lo.symm
   rw[this];simp only[Z1]
 by_cases D4:na-k<=n
 ·rw[V2 D4];refine Vv (qfu hO hk kx' ky' ⟨by simpa [ex] using sx',by simpa [ey] using sy',by simp⟩ (by omega) (by omega) hd (λ z hz u hu=>?_) post);rw[yf (qa5 (by omega)),XO (by rw[Yy];omega),U8,Zq] at hz;rw[hz];exact hl u hu
 ·rw[V3 D4];refine Vv (qfv hO hk kx' ky' ⟨?_,?_,?_⟩ (by omega) (by omega) (λ z hz u hu=>?_) hl post)
  ·rw[U8,XN (by rw[Yy];exact Vc _),ex];exact sx'
  ·rw[U8,XN (by rw[Yy];exact Vc _),ey];exact sy'
  ·rw[U8,XN (by rw[Yy];exact Vc _),XN (by rw[Yy];exact Vc _)]
  ·rw[show(1:Nat)=0+1 from rfl,q9 (qa5 (a:=y) (i:=0) (by omega)),J8,Je,Zq] at hz;rw[hz];exact hd u hu
end
theorem qar{α:Type}{r:α->α->Prop}(tr:∀ x y z,r x y->r y z->r x z){T:List α}{x:Nat}(h:(T.take x).Pairwise r)(h1:1<=x)(hx:x<T.length)(hr:r (T[x-1]'(by omega)) T[x]):(T.take (x+1)).Pairwise r:=by
 rw[Xa hx];refine Yq.mpr ⟨h,List.pairwise_singleton _ _,λ y hy z hz=>?_⟩;rw[Zq.mp hz];obtain⟨j,hj,rfl⟩:=Y4 hy;rw[Uq] at hj;rw[Uc];rcases Q6 j (x-1) with h2|h2
 ·have:=Xx.mp h j (x-1) (by rw[Uq];omega) (by rw[Uq];omega) h2
  rw[Uc,Uc] at this;exact tr _ _ _ this hr
 ·have:j=x-1:=by omega
  subst this;exact hr
theorem qbP{x:Keyed}{V:List Keyed}:∀(T U:List Keyed)(arr:Array Keyed),arr.toList=U++(T++(x::V))->(bubble arr (U.length+T.length) T.length).toList=U++(x::(T++V))
 | [],U,arr,e=>e
 |t::T,U,arr,e=>by
  have ih:=qbP (x:=x) (V:=V) T (U++[t]) arr (by rw[e];simp);have e1:(U++[t]).length+T.length=U.length+(t::T).length:=by simp;omega
  rw[e1] at ih;show(bubble arr (U.length+(t::T).length) (T.length+1)).toList=_
  rw[bubble_succ];generalize bubble arr (U.length+(t::T).length) T.length=b at ih ⊢;have sz:b.size=U.length+1+(1+(T.length+V.length)):=by rw[<- Yy,ih];simp;omega
  have l1:U.length+(t::T).length-T.length=U.length+1:=by simp;omega
  rw[l1,show U.length+1-1=U.length by omega,Array.swapIfInBounds_def,V1 (by omega),V1 (by omega),Array.toList_swap];have a1:b[U.length]'(by omega)=t:=by
   have:b.toList[U.length]?=some (b[U.length]'(by omega)):=qa5 (by omega)
   rw[ih] at this;simpa using this.symm
  have a2:b[U.length+1]'(by omega)=x:=by
   have:b.toList[U.length+1]?=some (b[U.length+1]'(by omega)):=qa5 (by omega)
   rw[ih] at this;simpa using this.symm
  rw[a1,a2,ih];simp[List.set_append]
theorem qfy{L D R:List Keyed}{arr:Array Keyed}(e:arr.toList=L++(D++R)):(mirror arr L.length (L.length+D.length) ((L.length+D.length-L.length) / 2)).toList=L++(D.reverse++R):=by
 have sz:arr.size=L.length+(D.length+R.length):=by rw[<- Yy,e];simp
 refine List.ext_getElem? λ k=>?_
 rw[XZ,getElem?_mirror_all (by omega)];by_cases h:L.length<=k/\k<L.length+D.length
 ·rw[V2 h,<- XZ,e,Xk (by omega),Xr (by omega),Xk (by omega),Xr (by rw[Y9];omega),List.getElem?_reverse (by omega)];congr 1;omega
 ·rw[V3 h,<- XZ,e];rcases Q6 k L.length with h1 | h1
  ·rw[Xr h1,Xr h1]
  ·rw[Xk h1,Xk h1,Xk (by omega),Xk (by rw[Y9];omega),Y9]
section
variable {prog:Program}{w:World}{A:Around}{E:Value->Shared->Prop}{s:Shared}{κ:KeyKind}{st:SortSt}
theorem qa7(hO:κ.OneLt){i j:Nat}{x y:Keyed}{Q:Option Bool->SortSt->Prop}(hk:kindOf st=oneType')(e1:(arrOf st)[i]?=some x)(e2:(arrOf st)[j]?=some y)(hx:Kd κ x)(hy:Kd κ y)(h:Q (some (κ.blt (ky κ x) (ky κ y))) st):wpS (model prog w) A E s (ltAt' i j) Q st:=by
 rw[ltAt'_eq];refine Vv (V0 ?_);exact Vv (qR e1 (Vv (qR e2 (qcM hO hk hx hy h))))
theorem jx{L T:List Keyed}{arr:Array Keyed}(e:arr.toList=L++T){i:Nat}(hi:i<T.length):arr[L.length+i]?=some T[i]:=by
 rw[<- XZ,e,Xk (by omega),XE];exact X1 hi
theorem qjX(x y z:Keyed)(h1:kl κ x y)(h2:kl κ y z):kl κ x z:=Uy h1 h2
theorem qcR{r:Keyed->Keyed->Prop}(T:List Keyed):(T.take 1).Pairwise r:=by
 cases T with
 |nil=>simp
 |cons x T=>simp
theorem qcS(hO:κ.OneLt){lo n ok:Nat}{L T:List Keyed}{Q:Bool->SortSt->Prop}(hk:kindOf st=oneType')(ea:(arrOf st).toList=L++T)(hL:L.length=lo)(hn:n<=T.length)(hok:ok<=n)(kT:∀ x∈T,Kd κ x)(so:So κ (T.take ok))(n1:1<=n)(h:∀(T':List Keyed)(arr:Array Keyed),T'.Perm T->arr.toList=L++T'->So κ (T'.take n)->Q true (setArr st arr)):wpS (model prog w) A E s (binarySort' lo n ok) Q st:=by
 subst hL;rw[binarySort'_eq];refine Vv (Vw (Vb
  (I:=λ k c b0=>c=(none,())/\∃(T':List Keyed)(arr:Array Keyed),T'.Perm T/\arr.toList=L++T'/\So κ (T'.take (min k n))/\b0=setArr st arr)
  (Q:=λ c b0=>c=(none,())/\∃(T':List Keyed)(arr:Array Keyed),T'.Perm T/\arr.toList=L++T'/\So κ (T'.take n)/\b0=setArr st arr) ?step ?fin ?init) ?post)
 case post =>
  rintro c b0 ⟨rfl,T',arr,p,e,O3,rfl⟩;exact Vu (h T' arr p e O3)
 case fin =>
  rintro c b0 ⟨hc,T',arr,p,e,O3,rfl⟩;rw[show min (max (max ok 1) n) n=n by omega] at O3;exact⟨hc,T',arr,p,e,O3,rfl⟩
 case init =>
  refine⟨rfl,T,arrOf st,J4 _,ea,?_,rfl⟩;by_cases h1:ok=0
  ·subst h1;rw[show min (max 0 1) n=1 by omega];exact qcR T
  ·rw[show min (max ok 1) n=ok by omega];exact so
 case step =>
  rintro k c b0 hak hkn ⟨rfl,T',arr,p,e,O3,rfl⟩;rw[show min k n=k by omega] at O3;have lT:T'.length=T.length:=p.length_eq;have kT':∀ x∈T',Kd κ x:=λ x hx=>kT x (p.mem_iff.mp hx)
  have hkl:k<T'.length:=by omega
  have I0:kindOf (setArr st arr)=oneType':=hk;refine Vv (Vw (Vb (I:=λ x c i8=>i8=setArr st arr/\∃ l r,c=(none,l,r)/\l<=r/\r<=k/\r-l<=k-x /\
    (∀ y∈(T'.take k).take l,kl κ y T'[k])/\(∀ y∈(T'.take k).drop r,kl κ T'[k] y))
   (Q:=λ c i8=>i8=setArr st arr/\∃ l r,c=(none,l,r)/\l<=k/\(∀ y∈(T'.take k).take l,kl κ y T'[k])/\(∀ y∈(T'.take k).drop l,kl κ T'[k] y)) ?istep ?ifin ?iinit) ?ipost)
  case iinit=>exact⟨rfl,0,k,rfl,by omega,by omega,by omega,λ y hy=>by simp at hy,λ y hy=>by rw[XO (by rw[Uq];omega)] at hy;cases hy⟩
  case ifin =>
   rintro c i8 ⟨rfl,l,r,rfl,hlr,xR,hm,h1,h2⟩
   have:l=r:=by omega
   subst this;exact⟨rfl,l,l,rfl,xR,h1,h2⟩
  case istep =>
   rintro x c i8 _ hxk ⟨rfl,l,r,rfl,hlr,xR,hm,h1,h2⟩;dsimp only;by_cases hge:l ≥ r
   ·rw[V2 hge]
    have:l=r:=by omega
    subst this;exact Vu ⟨rfl,l,l,rfl,xR,h1,h2⟩
   ·rw[V3 hge];have hml:(l+r) / 2<T'.length:=by omega
    have hmk:(l+r) / 2<(T'.take k).length:=by rw[Uq];omega
    refine Vv (qa7 hO I0 (jx e hkl) (jx e hml) (kT' _ (Uw _)) (kT' _ (Uw _)) ?_);cases hc:κ.blt (ky κ T'[k]) (ky κ T'[(l+r) / 2])
    case true =>
     simp only[Vz];refine Vu ⟨rfl,l,(l+r) / 2,rfl,by omega,by omega,by omega,h1,λ y hy=>?_⟩;obtain⟨j,hj,rfl⟩:=Y4 hy;rw[Us] at hj;rw[List.getElem_drop];rcases Nat.eq_zero_or_pos j with h3|h3
     ·subst h3;have e3:(T'.take k)[(l+r) / 2+0]'(by omega)=T'[(l+r) / 2]:=by rw[Uc];rfl
      rw[e3];exact Ub hc
     ·have:=Xx.mp O3 ((l+r) / 2) ((l+r) / 2+j) hmk (by omega) (by omega)
      rw[Uc] at this;exact Uy (Ub hc) this
    case false =>
     simp only[Zo,Vr];refine Vu ⟨rfl,(l+r) / 2+1,r,rfl,by omega,by omega,by omega,λ y hy=>?_,h2⟩;obtain⟨j,hj,rfl⟩:=Y4 hy;rw[Uq] at hj;rw[Uc];rcases Q6 j ((l+r) / 2) with h3|h3
     ·have:=Xx.mp O3 j ((l+r) / 2) (by omega) hmk h3
      rw[Uc (j:=k) (i:=(l+r) / 2)] at this;exact Uy this hc
     ·have:j=(l+r) / 2:=by omega
      subst this;rw[Uc];exact hc
  case ipost =>
   rintro c i8 ⟨rfl,l,r,rfl,hlk,h1,h2⟩;show wpS _ _ _ _ (do moveDown' (L.length+k) (L.length+l);pure (ForInStep.yield (none,()))) _ _
   rw[moveDown'_eq];have eT:T'=(T'.take k).take l++((T'.take k).drop l++(T'[k]::T'.drop (k+1))):=by
    rw[<- Z1,Yb,<- Xw,Yb]
   have lS:((T'.take k).drop l).length=k-l:=by rw[Us,Uq];omega
   have lU:(L++(T'.take k).take l).length=L.length+l:=by rw[Zj,Uq,Uq];omega
   have bl:=qbP (x:=T'[k]) (V:=T'.drop (k+1)) ((T'.take k).drop l) (L++(T'.take k).take l) arr (by rw[e,Z1];conv=>lhs;rw[eT]);rw[lU,lS] at bl;refine Vv (Vq (Vu ⟨rfl,(T'.take k).take l++(T'[k]::((T'.take k).drop l++T'.drop (k+1))),bubble arr (L.length+k) (L.length+k-(L.length+l)),?_,?_,?_,rfl⟩))
   ·refine List.Perm.trans ?_ p
    conv=>rhs;rw[eT]
    exact(List.perm_middle.symm).append_left _
   ·rw[show L.length+k-(L.length+l)=k-l by omega];rw[show L.length+l+(k-l)=L.length+k by omega] at bl;rw[bl,Z1]
   ·rw[show min (k+1) n=k+1 by omega];have e3:((T'.take k).take l++(T'[k]::((T'.take k).drop l++T'.drop (k+1)))).take (k+1)=(T'.take k).take l++(T'[k]::(T'.take k).drop l):=by
     rw[show(T'.take k).take l++(T'[k]::((T'.take k).drop l++T'.drop (k+1)))=((T'.take k).take l++(T'[k]::(T'.take k).drop l))++T'.drop (k+1) by simp];rw[show k+1=((T'.take k).take l++(T'[k]::(T'.take k).drop l)).length by rw[Zj,Uo,lS,Uq,Uq];omega,Qa]
    rw[e3];have sK:So κ ((T'.take k).take l++(T'.take k).drop l):=by rw[Yb];exact O3
    have uZ:=Yq.mp sK;refine Yq.mpr ⟨uZ.1,Zm.mpr ⟨h2,uZ.2.1⟩,λ y hy z hz=>?_⟩;rcases Qh.mp hz with h4|h4
    ·rw[h4];exact h1 y hy
    ·exact uZ.2.2 y hy z h4
end
noncomputable def asc(lo a wQ:Nat):SM (Option (Option Nat)×Nat):=forIn [a:wQ] ((none,a):Option (Option Nat)×Nat) λ _ r=>do
 let c <- ltAt' (lo+r.2) (lo+r.2-1)
 match c with
 |some c=>if c then pure (.done (none,r.2)) else pure (.yield (none,r.2+1))
 |_=>pure (.done (some none,r.2))
abbrev Nk(κ:KeyKind)(l:List Keyed):Prop:=l.Pairwise λ x y=>ky κ x≠ky κ y
section
variable {prog:Program}{w:World}{A:Around}{E:Value->Shared->Prop}{s:Shared}{κ:KeyKind}{st:SortSt}
theorem qjY(hO:κ.OneLt){lo a:Nat}{L T:List Keyed}{Q:(Option (Option Nat)×Nat)->SortSt->Prop}(hk:kindOf st=oneType')(ea:(arrOf st).toList=L++T)(hL:L.length=lo)(ha:1<=a)(haT:a<=T.length)(kT:∀ x∈T,Kd κ x)(so:So κ (T.take a))(h:∀ n,a<=n->n<=T.length->So κ (T.take n)->(∀(hn:n<T.length),κ.klt (ky κ T[n]) (ky κ (T[n-1]'(by omega))))->Q (none,n) st):wpS (model prog w) A E s (asc lo a T.length) Q st:=by
 subst hL;unfold asc;refine Vb (I:=λ x c b0=>b0=st/\c=(none,x)/\So κ (T.take x)) ?step ?fin ⟨rfl,rfl,so⟩
 case fin =>
  rintro c b0 ⟨rfl,rfl,O3⟩;rw[show max a T.length=T.length by omega] at O3 ⊢;exact h T.length haT (Vc _) O3 (λ hn=>absurd hn (Qg _))
 case step =>
  rintro x c b0 bC hx ⟨rfl,rfl,O3⟩;dsimp only;have e2:(arrOf b0)[L.length+x-1]?=some (T[x-1]'(by omega)):=by
   rw[show L.length+x-1=L.length+(x-1) by omega];exact jx ea (by omega)
  refine Vv (qa7 hO hk (jx ea hx) e2 (kT _ (Uw _)) (kT _ (Uw _)) ?_);cases hc:κ.blt (ky κ T[x]) (ky κ (T[x-1]'(by omega)))
  case true =>
   simp only[Vz];exact Vu (h x bC (by omega) O3 (λ _=>hc))
  case false =>
   simp only[Zo,Vr];exact Vu ⟨rfl,rfl,qar qjX O3 (by omega) hx hc⟩
theorem qeF(hO:κ.OneLt){lo:Nat}{L T:List Keyed}{Q:Option Nat->SortSt->Prop}(hk:kindOf st=oneType')(ea:(arrOf st).toList=L++T)(hL:L.length=lo)(h1:1<=T.length)(kT:∀ x∈T,Kd κ x)(nk:Nk κ T)(h:∀(m:Nat)(T':List Keyed)(arr:Array Keyed),T'.Perm T->arr.toList=L++T'->1<=m->m<=T.length->So κ (T'.take m)->Q (some m) (setArr st arr)):wpS (model prog w) A E s (countRun' lo T.length) Q st:=by
 rw[countRun'_eq];refine Vv (show wpS (model prog w) A E s (asc lo 1 T.length) _ _ from qjY hO hk ea hL (Vc _) h1 kT (qcR T) λ n n1 n2 so hn=>?_);dsimp only;by_cases hnn:n=T.length
 ·rw[V2 (by simpa using hnn)];exact Vu (h n T (arrOf st) (J4 _) ea n1 n2 so)
 rw[V3 (by simpa using hnn)];by_cases hgt:n > 1
 ·rw[V2 hgt];have e0:(arrOf st)[lo]?=some T[0]:=by rw[<- hL];exact jx (i:=0) ea (by omega)
  have e1:(arrOf st)[lo+n-1]?=some (T[n-1]'(by omega)):=by
   rw[<- hL,show L.length+n-1=L.length+(n-1) by omega];exact jx ea (by omega)
  refine Vv (qa7 hO hk e0 e1 (kT _ (Uw _)) (kT _ (Uw _)) ?_);have c7:κ.blt (ky κ T[0]) (ky κ (T[n-1]'(by omega)))=true:=by
   cases hc:κ.blt (ky κ T[0]) (ky κ (T[n-1]'(by omega))) with
   |true=>rfl
   |false =>
    have h2:=Xx.mp so 0 (n-1) (by rw[Uq];omega) (by rw[Uq];omega) (by omega);rw[Uc,Uc] at h2;exact absurd (KeyOrd.kle_antisymm (O:=κ.toKeyOrd) h2 hc) (Xx.mp nk 0 (n-1) (by omega) (by omega) (by omega))
  rw[c7];dsimp only;rw[V2 rfl];exact Vu (h n T (arrOf st) (J4 _) ea n1 n2 so)
 rw[V3 hgt];have hn1:n=1:=by omega
 subst hn1;refine Vv (wpS_lift (Vm ⟨rfl,?_⟩));refine Vv (Vw (Vb (I:=λ x c b0=>b0=st/\c=(none,x,0)/\(T.take x).Pairwise (λ x y=>kl κ y x))
  (Q:=λ c b0=>b0=st/\∃ x,c=(none,x,0)/\2<=x/\x<=T.length/\(T.take x).Pairwise (λ x y=>kl κ y x)) ?step ?fin ⟨rfl,rfl,?init⟩) ?post)
 case init =>
  exact qar (r:=λ x y=>kl κ y x) (λ x y z a b=>qjX _ _ _ b a) (qcR T) (Vc _) (by omega) (Ub (hn (by omega)))
 case fin =>
  rintro c b0 ⟨rfl,rfl,hp⟩;rw[show max (1+1) T.length=T.length by omega] at hp ⊢;exact⟨rfl,_,rfl,by omega,Vc _,hp⟩
 case step =>
  rintro x c b0 bC hx ⟨rfl,rfl,hp⟩;dsimp only;have ex:(arrOf b0)[lo+x]?=some T[x]:=by rw[<- hL];exact jx ea hx
  have ey:(arrOf b0)[lo+x-1]?=some (T[x-1]'(by omega)):=by
   rw[<- hL,show L.length+x-1=L.length+(x-1) by omega];exact jx ea (by omega)
  refine Vv (qa7 hO hk ex ey (kT _ (Uw _)) (kT _ (Uw _)) ?_);cases hc:κ.blt (ky κ T[x]) (ky κ (T[x-1]'(by omega)))
  case true =>
   simp only[Vz];rw[V3 (by omega)];exact Vu ⟨rfl,rfl,qar (r:=λ x y=>kl κ y x) (λ x y z a b=>qjX _ _ _ b a) hp (by omega) hx (Ub hc)⟩
  case false =>
   simp only[Zo,Vr];refine Vv (qa7 hO hk ey ex (kT _ (Uw _)) (kT _ (Uw _)) ?_);have c7:κ.blt (ky κ (T[x-1]'(by omega))) (ky κ T[x])=true:=by
    cases iQ:κ.blt (ky κ (T[x-1]'(by omega))) (ky κ T[x]) with
    |true=>rfl
    |false=>exact absurd (KeyOrd.kle_antisymm (O:=κ.toKeyOrd) hc iQ) (Xx.mp nk (x-1) x (by omega) (by omega) (by omega))
   rw[c7];simp only[Vz];exact Vu ⟨rfl,x,rfl,bC,by omega,hp⟩
 case post =>
  rintro c b0 ⟨rfl,x,rfl,x2,xT,hp⟩;dsimp only;rw[V3 (by omega)];rw[reverseSlice'_eq];have ml:=qfy (L:=L) (D:=T.take x) (R:=T.drop x) (arr:=arrOf b0) (by rw[Yb];exact ea);rw[Uq,show min x T.length=x by omega,hL] at ml;refine Vv (Vq ?_);have pT:((T.take x).reverse++T.drop x).Perm T:=by
   refine((List.reverse_perm _).append_right _).trans (List.Perm.of_eq (Yb x T))
  have lT:((T.take x).reverse++T.drop x).length=T.length:=pT.length_eq;rw[<- lT];refine Vv (show wpS (model prog w) A E s (asc lo x ((T.take x).reverse++T.drop x).length) _ _ from qjY (T:=(T.take x).reverse++T.drop x) hO hk ml hL (by omega) (by omega) (λ y hy=>kT y (pT.mem_iff.mp hy)) ?_ λ n n1 n2 so hn=>?_)
  ·have:x=(T.take x).reverse.length:=by rw[Y9,Uq];omega
   rw[Xd (by omega),XN (by omega)];exact List.pairwise_reverse.mpr hp
  ·exact Vu (h n _ _ pT ml (by omega) (by omega) so)
end
inductive Rs(κ:KeyKind):Nat->List (Nat×Nat×Nat)->List Keyed->Prop
 |nil (o:Nat):Rs κ o [] []
 |cons {o n p:Nat} {X:List Keyed} {ps:List (Nat×Nat×Nat)} {T:List Keyed}:X.length=n->0<n->So κ X->Rs κ (o+n) ps T->Rs κ o ((o,n,p)::ps) (X++T)
theorem Rs.snoc{κ:KeyKind}{o:Nat}{ps:List (Nat×Nat×Nat)}{T X:List Keyed}{n p:Nat}(h:Rs κ o ps T)(hX:X.length=n)(hn:0<n)(so:So κ X):Rs κ o (ps++[(o+T.length,n,p)]) (T++X):=by
 induction h with
 |nil o=>
  have:=Rs.cons (p:=p) (o:=o) hX hn so (Rs.nil (κ:=κ) (o+n))
  simpa using this
 |cons e1 e2 e3 _ ih =>
  rw[Z1,Zj,e1];refine Rs.cons e1 e2 e3 ?_;rw[<- Qp];exact ih
theorem Rs.len{κ:KeyKind}{o:Nat}{ps:List (Nat×Nat×Nat)}{T:List Keyed}(h:Rs κ o ps T):ps.length<=T.length:=by
 induction h with
 |nil o=>exact Vc _
 |cons e1 e2 _ _ ih=>rw[Uo,Zj];omega
theorem Rs.at2{κ:KeyKind}{o:Nat}{ps:List (Nat×Nat×Nat)}{T:List Keyed}(h:Rs κ o ps T):∀{i:Nat}{sa na pa sb nb pb:Nat},ps[i]?=some (sa,na,pa)->ps[i+1]?=some (sb,nb,pb) ->
  ∃ L X Y R,T=L++(X++(Y++R))/\o+L.length=sa/\X.length=na/\Y.length=nb/\0<na/\0<nb/\sb=sa+na/\So κ X/\So κ Y /\
   ∀ Z,Z.length=na+nb->So κ Z->Rs κ o ((ps.set i (sa,na+nb,pa)).eraseIdx (i+1)) (L++(Z++R)):=by
 induction h with
 |nil o=>intro i sa na pa sb nb pb h1 _;simp at h1
 | @cons o n p X ps T e1 e2 e3 hr ih =>
  intro i sa na pa sb nb pb h1 h2;cases i with
  |zero =>
   simp only[List.getElem?_cons_zero,Option.some.injEq,Prod.mk.injEq] at h1;obtain⟨rfl,rfl,rfl⟩:=h1;cases hr with
   |nil=>simp at h2
   | @cons _ n2 p2 Y ps T e4 e5 e6 hr =>
    simp only[List.getElem?_cons_succ,List.getElem?_cons_zero,Option.some.injEq,Prod.mk.injEq] at h2;obtain⟨rfl,rfl,rfl⟩:=h2;refine⟨[],X,Y,T,rfl,rfl,e1,e4,e2,e5,rfl,e3,e6,λ Z hZ so=>?_⟩;show Rs κ o ((o,n+n2,p)::ps) (Z++T)
    refine Rs.cons hZ (by omega) so ?_;rw[<- Qp];exact hr
  |succ i =>
   rw[List.getElem?_cons_succ] at h1 h2;obtain⟨L,X',Y,R,rfl,a1,a2,a3,a4,a5,a6,a7,a8,a9⟩:=ih h1 h2;refine⟨X++L,X',Y,R,by rw[Z1],by rw[Zj];omega,a2,a3,a4,a5,a6,a7,a8,λ Z hZ so=>?_⟩;rw[Z1];exact Rs.cons e1 e2 e3 (a9 Z hZ so)
theorem Rs.repower{κ:KeyKind}{o:Nat}{ps:List (Nat×Nat×Nat)}{T:List Keyed}(h:Rs κ o ps T)(q:Nat):∀ i,Rs κ o (ps.modify i λ x=>(x.1,x.2.1,q)) T:=by
 induction h with
 |nil o=>intro i;cases i <;> exact Rs.nil _
 |cons e1 e2 e3 hr ih =>
  intro i;cases i with
  |zero=>exact Rs.cons e1 e2 e3 hr
  |succ i=>exact Rs.cons e1 e2 e3 (ih i)
theorem Rs.one{κ:KeyKind}{ps:List (Nat×Nat×Nat)}{T:List Keyed}(h:Rs κ 0 ps T)(hl:ps.length<=1):So κ T:=by
 cases h with
 |nil=>exact List.Pairwise.nil
 |cons e1 e2 e3 hr =>
  cases hr with
  |nil=>rw[U8];exact e3
  |cons _ _ _ _=>simp at hl
def Rt(κ:KeyKind)(a₀:List Keyed)(st:SortSt)(lo:Nat)(T:List Keyed):Prop:=
 kindOf st=oneType'/\failedOf st=none/\∃ D,(arrOf st).toList=D++T/\D.length=lo/\(D++T).Perm a₀/\Rs κ 0 (pendingOf st).toList D
section
variable {prog:Program}{w:World}{A:Around}{E:Value->Shared->Prop}{s:Shared}{κ:KeyKind}{st:SortSt}
theorem qas(hO:κ.OneLt){a₀ T:List Keyed}{lo i:Nat}{Q:Bool->SortSt->Prop}(k0:∀ x∈a₀,Kd κ x)(rt:Rt κ a₀ st lo T)(hi:i+1<(pendingOf st).size)(h:∀ b0,Rt κ a₀ b0 lo T->(pendingOf b0).size+1=(pendingOf st).size->Q true b0):wpS (model prog w) A E s (mergeAt' i) Q st:=by
 obtain⟨hk,hf,D,ea,hD,pm,rs⟩:=rt;obtain⟨⟨sa,na,pa⟩,e1⟩:∃ x,(pendingOf st).toList[i]?=some x:=⟨_,X1 (by rw[Yy];omega)⟩;obtain⟨⟨sb,nb,pb⟩,e2⟩:∃ x,(pendingOf st).toList[i+1]?=some x:=⟨_,X1 (by rw[Yy];omega)⟩;obtain⟨L,X,Y,R,rfl,a1,a2,a3,a4,a5,a6,a7,a8,a9⟩:=rs.at2 e1 e2;have kd:∀ x∈X++Y,Kd κ x:=λ x hx=>k0 x (pm.mem_iff.mp (by
  rcases U5.mp hx with h|h <;> simp[h]))
 refine qfx hO (L:=L) (X:=X) (Y:=Y) (R:=R++T) hk hf (by rw[<- XZ];exact e1) (by rw[<- XZ];exact e2) a6 (by rw[ea];simp only[Z1]) (by omega) a2 a3 a4 a5 a7 a8 (λ x hx=>kd x (Ym _ hx)) (λ x hx=>kd x (XU _ hx)) λ Z arr g pz sz ez=>?_
 have lZ:Z.length=na+nb:=by rw[pz.length_eq,Zj,a2,a3]
 refine h _ ⟨hk,hf,L++(Z++R),?_,?_,?_,?_⟩ ?_
 ·show arr.toList=_
  rw[ez];simp only[Z1]
 ·rw[<- hD];simp only[Zj];omega
 ·refine List.Perm.trans ?_ pm;refine List.Perm.append_right T (List.Perm.append_left L ?_);rw[<- Z1 X];exact pz.append_right R
 ·show Rs κ 0 (((pendingOf st).setIfInBounds i (sa,na+nb,pa)).eraseIdxIfInBounds (i+1)).toList _
  rw[show(((pendingOf st).setIfInBounds i (sa,na+nb,pa)).eraseIdxIfInBounds (i+1)).toList=((pendingOf st).toList.set i (sa,na+nb,pa)).eraseIdx (i+1) by simp[Array.eraseIdxIfInBounds,hi]];exact a9 Z lZ sz
 ·show(((pendingOf st).setIfInBounds i (sa,na+nb,pa)).eraseIdxIfInBounds (i+1)).size+1=_
  simp only[Array.eraseIdxIfInBounds,Array.size_setIfInBounds,hi,V1,Array.size_eraseIdx];omega
theorem Rt.len{a₀ T:List Keyed}{lo:Nat}(h:Rt κ a₀ st lo T):lo+T.length=a₀.length:=by
 obtain⟨_,_,D,_,hD,pm,_⟩:=h
 have:=pm.length_eq
 rw[Zj] at this;omega
theorem Rt.push{a₀ T:List Keyed}{lo n:Nat}(h:Rt κ a₀ st lo T)(n1:1<=n)(n2:n<=T.length)(so:So κ (T.take n)):Rt κ a₀ (setPending st ((pendingOf st).push (lo,n,0))) (lo+n) (T.drop n):=by
 obtain⟨b1,b2,D,b3,b4,b5,b6⟩:=h;refine⟨b1,b2,D++T.take n,?_,?_,?_,?_⟩
 ·show(arrOf st).toList=_
  rw[b3,Z1,Yb]
 ·rw[Zj,Uq];omega
 ·rw[Z1,Yb];exact b5
 ·show Rs κ 0 ((pendingOf st).push (lo,n,0)).toList _
  rw[Z6]
  have:=b6.snoc (p:=0) (X:=T.take n) (n:=n) (by rw[Uq];omega) (by omega) so
  rw[Q5,b4] at this;exact this
theorem Rt.repower{a₀ T:List Keyed}{lo q:Nat}{f:Nat×Nat×Nat->Nat×Nat×Nat}(h:Rt κ a₀ st lo T)(hf:f=λ x=>(x.1,x.2.1,q))(i:Nat):Rt κ a₀ (setPending st ((pendingOf st).modify i f)) lo T:=by
 subst hf;obtain⟨b1,b2,D,b3,b4,b5,b6⟩:=h;refine⟨b1,b2,D,b3,b4,b5,?_⟩;show Rs κ 0 ((pendingOf st).modify i λ x=>(x.1,x.2.1,q)).toList D
 rw[Array.toList_modify];exact b6.repower _ _
theorem qdl(hO:κ.OneLt){a₀:Array Keyed}{Q:Unit->SortSt->Prop}(k0:∀ x∈a₀.toList,Kd κ x)(nk:Nk κ a₀.toList)(hk:kindOf st=oneType')(hf:failedOf st=none)(hp:pendingOf st=#[])(ha:arrOf st=a₀)(h:∀ b0,(arrOf b0).Perm a₀->failedOf b0=none->So κ (arrOf b0).toList->Q () b0):wpS (model prog w) A E s sortRuns' Q st:=by
 have nkp:∀{l:List Keyed},l.Perm a₀.toList->Nk κ l:=λ p=>(p.pairwise_iff (λ{x y} hxy e=>hxy e.symm)).mpr nk
 rw[sortRuns'_eq];refine Vv (V0 ?_);dsimp only;rw[ha];have rt0:Rt κ a₀.toList st 0 a₀.toList:=⟨hk,hf,[],by rw[ha];rfl,rfl,J4 _,by rw[hp];exact Rs.nil _⟩;refine Vv (Vw (Vb
  (I:=λ x (c:Option Unit×Nat) b0=>c.1=none/\∃ T,Rt κ a₀.toList b0 c.2 T/\(x<=c.2∨c.2=a₀.size))
  (Q:=λ c b0=>c.1=none/\Rt κ a₀.toList b0 a₀.size []) ?step ?fin ⟨rfl,_,rt0,.inl (Vc _)⟩) ?post)
 case fin =>
  rintro⟨v,lo⟩ b0 ⟨hv,T,rt,hx⟩
  have:=rt.len
  have hl0:a₀.toList.length=a₀.size:=Yy;change lo+_=_ at this
  change max 0 a₀.size<=lo∨lo=a₀.size at hx
  have e:lo=a₀.size:=by omega
  have e2:T=[]:=XF.mp (by omega);subst e;subst e2;exact⟨hv,rt⟩
 case step =>
  rintro x ⟨v,lo⟩ b0 _ hx ⟨hv,T,rt,tD⟩;have iE:v=none:=hv;subst iE;change x<=lo∨lo=a₀.size at tD
  change Rt κ a₀.toList b0 lo T at rt
  dsimp only;have D4:=rt.len;have hl0:a₀.toList.length=a₀.size:=Yy;by_cases hge:lo ≥ a₀.size
  ·rw[V2 hge];have e:lo=a₀.size:=by omega
   have e2:T=[]:=XF.mp (by omega);subst e;subst e2;exact Vu ⟨rfl,rt⟩
  rw[V3 hge];obtain⟨I0,hf',D,ea,hD,pm,rs⟩:=rt;have lT:a₀.size-lo=T.length:=by omega
  have kT:∀ x∈T,Kd κ x:=λ x hx=>k0 x (pm.mem_iff.mp (XU _ hx))
  have nT:Nk κ T:=(Yq.mp (nkp pm)).2.1;rw[lT];refine Vv (qeF hO I0 ea hD (by omega) kT nT λ m T1 eZ p1 ea1 m1 m2 wA=>?_);dsimp only;have l1:T1.length=T.length:=p1.length_eq;have sR:∀(T2:List Keyed)(R6:Array Keyed),T2.Perm T->R6.toList=D++T2->Rt κ a₀.toList (setArr b0 R6) lo T2:=λ T2 R6 p2 tY=>⟨I0,hf',D,tY,hD,(p2.append_left D).trans pm,rs⟩
  by_cases c7:m<minRun' a₀.size a₀.size 0
  ·rw[V2 c7];refine Vv (wpS_lift (Vm ⟨rfl,?_⟩));refine Vv (qcS hO (st:=setArr b0 eZ) I0 ea1 hD (n:=min T.length (minRun' a₀.size a₀.size 0)) (by omega) (by omega) (λ y hy=>kT y (p1.mem_iff.mp hy)) wA (by omega) λ T2 R6 p2 tY sK=>?_);simp only[Qn,Zo,Vr];have l2:T2.length=T.length:=(p2.trans p1).length_eq;refine Vv (V0 ?_);cases(pendingOf (setArr b0 R6)).back? with
   |none =>
    dsimp only;exact Vv (Vq (Vu ⟨rfl,_,Rt.push (sR T2 R6 (p2.trans p1) tY) (by omega) (by omega) sK,.inl (by show x+1<=lo+min T.length (minRun' a₀.size a₀.size 0);omega)⟩))
   |some u =>
    obtain⟨s1,k1,z⟩:=u;dsimp only;refine Vv (Vw (Vb (I:=λ _ (c:Option Unit×Unit) i8=>c=(none,())/\Rt κ a₀.toList i8 lo T2) (Q:=λ c i8=>c=(none,())/\Rt κ a₀.toList i8 lo T2) ?cstep (λ _ _ hh=>hh) ⟨rfl,sR T2 R6 (p2.trans p1) tY⟩) ?cpost)
    case cstep =>
     rintro y c i8 _ _ ⟨rfl,M6⟩;refine Vv (V0 ?_);by_cases h2:(pendingOf i8).size > 1
     ·rw[V2 h2];obtain⟨⟨u,v,z⟩,e⟩:∃ x,(pendingOf i8)[(pendingOf i8).size-2]?=some x:=⟨_,getElem?_pos _ _ (by omega)⟩;rw[e];dsimp only;by_cases h3:z<=power' a₀.size (2*s1+k1) (2*s1+k1+k1+min T.length (minRun' a₀.size a₀.size 0)) a₀.size
      ·rw[V2 h3];exact Vu ⟨rfl,M6⟩
      ·rw[V3 h3];refine Vv (qas hO k0 M6 (by omega) λ G4 nF _=>?_);simp only[Qn,Zo,Vr];exact Vu ⟨rfl,nF⟩
     ·rw[V3 h2];exact Vu ⟨rfl,M6⟩
    case cpost =>
     rintro c i8 ⟨rfl,M6⟩;dsimp only;refine Vv (Vq ?_);refine Vv (Vq (Vu ⟨rfl,_,Rt.push (M6.repower rfl _) (by omega) (by omega) sK,.inl (by show x+1<=lo+min T.length (minRun' a₀.size a₀.size 0);omega)⟩))
  ·rw[V3 c7];refine Vv (V0 ?_);cases(pendingOf (setArr b0 eZ)).back? with
   |none =>
    dsimp only;exact Vv (Vq (Vu ⟨rfl,_,Rt.push (sR T1 eZ p1 ea1) m1 (by omega) wA,.inl (by show x+1<=lo+m;omega)⟩))
   |some u =>
    obtain⟨s1,k1,z⟩:=u;dsimp only;refine Vv (Vw (Vb (I:=λ _ (c:Option Unit×Unit) i8=>c=(none,())/\Rt κ a₀.toList i8 lo T1) (Q:=λ c i8=>c=(none,())/\Rt κ a₀.toList i8 lo T1) ?cstep (λ _ _ hh=>hh) ⟨rfl,sR T1 eZ p1 ea1⟩) ?cpost)
    case cstep =>
     rintro y c i8 _ _ ⟨rfl,M6⟩;refine Vv (V0 ?_);by_cases h2:(pendingOf i8).size > 1
     ·rw[V2 h2];obtain⟨⟨u,v,z⟩,e⟩:∃ x,(pendingOf i8)[(pendingOf i8).size-2]?=some x:=⟨_,getElem?_pos _ _ (by omega)⟩;rw[e];dsimp only;by_cases h3:z<=power' a₀.size (2*s1+k1) (2*s1+k1+k1+m) a₀.size
      ·rw[V2 h3];exact Vu ⟨rfl,M6⟩
      ·rw[V3 h3];refine Vv (qas hO k0 M6 (by omega) λ G4 nF _=>?_);simp only[Qn,Zo,Vr];exact Vu ⟨rfl,nF⟩
     ·rw[V3 h2];exact Vu ⟨rfl,M6⟩
    case cpost =>
     rintro c i8 ⟨rfl,M6⟩;dsimp only;refine Vv (Vq ?_);refine Vv (Vq (Vu ⟨rfl,_,Rt.push (M6.repower rfl _) m1 (by omega) wA,.inl (by show x+1<=lo+m;omega)⟩))
 case post =>
  rintro⟨v,lo⟩ b0 ⟨hv,rt⟩;have iE:v=none:=hv;subst iE;dsimp only;have fin:∀ b0,Rt κ a₀.toList b0 a₀.size []->(pendingOf b0).size<=1->Q () b0:=by
   rintro b0 ⟨b1,b2,D,b3,b4,b5,b6⟩ hs;rw[U8] at b3 b5;exact h b0 (Array.perm_iff_toList_perm.mpr (by rw[b3];exact b5)) b2 (by rw[b3];exact b6.one (by rw[Yy];exact hs))
  have hsz:(pendingOf b0).size<=a₀.size:=by
   obtain⟨b1,b2,D,b3,b4,b5,b6⟩:=rt
   have:=b6.len
   rw[Yy] at this;omega
  refine Vv (Vw (Vb (I:=λ x (c:Option Unit×Unit) i8=>c=(none,())/\Rt κ a₀.toList i8 a₀.size []/\((pendingOf i8).size<=1∨(pendingOf i8).size+x<=a₀.size))
   (Q:=λ c i8=>c=(none,())/\Rt κ a₀.toList i8 a₀.size []/\(pendingOf i8).size<=1) ?step2 ?fin2 ⟨rfl,rt,.inr hsz⟩) ?post2)
  case post2 =>
   rintro c i8 ⟨rfl,M6,hs⟩;exact Vu (fin i8 M6 hs)
  case fin2 =>
   rintro c i8 ⟨rfl,M6,hs⟩;exact⟨rfl,M6,by omega⟩
  case step2 =>
   rintro x c i8 _ hx ⟨rfl,M6,hs⟩;refine Vv (V0 ?_);by_cases h1:(pendingOf i8).size<=1
   ·rw[V2 h1];exact Vu ⟨rfl,M6,h1⟩
   ·rw[V3 h1];refine Vv (qas hO k0 M6 ?_ λ G4 nF hs3=>?_)
    ·repeat' split
     all_goals omega
    ·simp only[Qn,Zo,Vr];exact Vu ⟨rfl,nF,.inr (by omega)⟩
end
end FsS
namespace FsS
open PySem PyProof.Rows PySem.Spec
section
variable {prog:Program}{w:World}{A:Around}{E:Value->Shared->Prop}{s:Shared}
theorem So.to{κ:KeyKind}{xs:Array Keyed}(h:So κ xs.toList):SortedToK κ xs xs.size:=by
 intro i j pA hj;have kk:∀ k,(hk:k<xs.size)->KK κ xs k=ky κ xs[k]:=λ k hk=>by
  unfold KK ky;rw[getElem?_pos xs k hk]
 rw[kk i (by omega),kk j hj];rcases Q6 i j with h1|h1
 ·have:=Xx.mp h i j (by rw[Yy];omega) (by rw[Yy];omega) h1
  simpa using this
 ·have:i=j:=by omega
  subst this;exact Jj _
theorem nk_strs:∀{vs:List Value}{ss:List Str},StrsAre vs ss->ss.Nodup->Nk strKind (vs.zip vs)
 |_,_,.nil,_=>List.Pairwise.nil
 |_,_,.cons (ys:=ss) x t h,nd=>by
  have A8:=U9.mp nd;rw[Zn];refine Zm.mpr ⟨λ p hp e=>?_,nk_strs h A8.2⟩;have hm:=(mem_zip_self hp).2;obtain⟨y,u,ey⟩:=h.all _ hm;have hy:y∈ss:=by
   rw[<- h.strs];exact Q3.mpr ⟨p.1,hm,by rw[ey];rfl⟩
  have e1:ky strKind p=y.cps.toList:=by unfold ky;rw[ey];rfl
  have e2:x.cps.toList=y.cps.toList:=(show ky strKind (Value.str x t,Value.str x t)=_ from rfl).symm.trans (e.trans e1);have e3:x=y:=by
   cases x;cases y
   congr 1
   exact Array.toList_inj.mp e2
  exact A8.1 (e3 ▸ hy)
theorem sort_method{κ:KeyKind}(one:κ.OneLt){l:Addr}{vs:List Value}{c:Nat}{R:Fin->Shared->Prop}(at_:s.heap.get? l=some (seqObj "list" vs.toArray c))(ks:KeysOf κ (pairsOf vs))(un:Nk κ (pairsOf vs).toList)(kind:∀ u v r,vs=u::v::r->keyKind' (u::v::r).toArray=pure oneType')(few:vs.length<100000)(fin:∀ b0:SortSt,(arrOf b0).Perm (pairsOf vs)->SortedToK κ (arrOf b0) (pairsOf vs).size->R (.done (.ret .none)) { s with heap:=sortedHeap s.heap l vs ((arrOf b0).map (·.2)) }):
  wpAny (model prog w) A (Builtin.«list.sort» ⟨[.ref l],[]⟩) R E s:=by
 by_cases short:vs.length<64
 ·exact list_sort_treeK one at_ ks kind short fin
 have lt0:l<s.heap.objs.size:=Qv at_;rw[list_sort_plain];refine Vk (listItems_at at_ rfl (Vk (listUpdate_at at_ rfl ?_ (by rw[sizeLine_eq,Zy];omega))));obtain⟨e,h1⟩:∃ e,(s.heap.update l (Obj.mapSeq λ _=>#[])).get? l=some (seqObj "list" #[] e):=⟨_,get?_update_seq at_ (λ _=>#[])⟩;refine Vk (seqEpoch_at h1 rfl (Vk (wpAny_newTuple (Vk (Qu (Qq ?_))))));have h2:(((s.heap.update l (Obj.mapSeq λ _=>#[])).push (seqObj "tuple" vs.toArray 0)).push (seqObj "list" #[] 0)).get? l=some (seqObj "list" #[] e):=
  (Heap.get?_push_ne _ _ _ (by rw[size_push',Heap.size_update];exact Qw (Z5 lt0))).trans ((Heap.get?_push_ne _ _ _ (by rw[Heap.size_update];exact Qw lt0)).trans h1)
 show wpAny (model prog w) A _ R E { s with heap:=((s.heap.update l (Obj.mapSeq λ _=>#[])).push (seqObj "tuple" vs.toArray 0)).push (seqObj "list" #[] 0) }
 have big:¬ vs.toArray.size<2:=by simp;omega
 dsimp only;rw[V3 big,V3 big];obtain⟨u,v,r,rfl⟩:∃ u v r,vs=u::v::r:=by
  match vs,short with
  | [],h=>simp at h
  | [_],h=>simp at h
  |u::v::r,_=>exact⟨u,v,r,rfl⟩
 rw[kind u v r rfl];refine Vk (Vl (Vk (Vj (qdl one (a₀:=pairsOf (u::v::r)) (st:=SortSt.mk' oneType' (pairsOf (u::v::r)) #[] 7 none)
  (Q:=λ _ b0=>(arrOf b0).Perm (pairsOf (u::v::r))/\failedOf b0=none/\So κ (arrOf b0).toList) ks un rfl rfl rfl rfl λ b0 p f o=>⟨p,f,o⟩) ?_ λ _ _ z=>z)))
 rintro⟨⟨⟩,b0⟩ s' ⟨rfl,p,f,o⟩;have sz:(arrOf b0).size=(u::v::r).length:=p.size_eq.trans (pairsOf_size _);dsimp only;refine Vk (seqEpoch_at h2 rfl (Vk (listUpdate_at h2 rfl ?_ (hsz2:=by rw[Array.size_map,sz,sizeLine_eq];omega))));rw[f];simp only[Uk,Zo,Vr];refine Vl (fin b0 p ?_);rw[<- p.size_eq];exact o.to
end
end FsS
namespace L2
open PySem PySem.Spec PyProof.Rows
section
variable {prog:Program}{w:World}{A:Around}{E:Value->Shared->Prop}{s:Shared}
theorem qir{S:Addr}{ys:List Str}{Q:Value->Shared->Prop}(hh:A.handled=none)(hS:qQ prog w s.heap S ys)(few:ys.length<4096)(un:ys.Nodup)(h:∀(l:Addr)(h':Heap)(tk e:Nat)(d:Drawn)(out:Array Value)(C5:List Str),(∀ b o,s.heap.get? b=some o->h'.get? b=some o)->s.heap.objs.size<=l->h'.get? l=some (seqObj "list" out e)->StrsAre out.toList C5->C5.Perm ys->sortedS C5=true ->
   Q (.ref l) { s with heap:=h',toks:=tk,drawn:=d }):wpAny (model prog w) A (call (.builtin "sorted") [.ref S]) Q E s:=by
 refine Xt kind_sorted plain_sorted entry_sorted (args_sorted1 _) ?_;unfold Builtin.«sorted»;refine Vk (m:=checkCount "sorted" 1 1 _) (Vl ?_);refine Vk (qdL (by simpa using hh) hS λ h1 tk d vs zs hk D4 hz hA=>?_);have nz:zs.Nodup:=hz.nodup_iff.mpr un;have hl:vs.length<100000:=by
  have:vs.length=zs.length:=hA.length
  rw[this,hz.length_eq];omega
 refine Vk (Qu ?_);have dS:(h1.push (seqObj "list" vs.toArray 0)).get? h1.objs.size=some (seqObj "list" vs.toArray 0):=Yz _ rfl;refine Vk (Qq (U0 slot_list_sort ⟨_,dS,rfl⟩ entry_list_sort (FsS.sort_method strKind_oneLt dS hA.keysOf (by rw[pairsOf_toList];exact FsS.nk_strs hA nz) (λ v₁ v₂ rest e=>keyKind_strs (by rw[<- e];exact hA)) hl λ b0 a1 a2=>⟨_,rfl,?_⟩) (args_list_sort _)));obtain⟨C5,b1,b2,b3⟩:=sorted_out_str hA a1 a2;obtain⟨e,he⟩:=sortedHeap_at (out:=(arrOf b0).map (·.2)) dS;refine Vl ⟨_,rfl,h h1.objs.size _ tk e d _ C5 (λ b o q=>?_) (Qy D4) he b1 (b2.trans hz) b3⟩;have q1:=hk b o q;have hb:=Qv q1;rw[sortedHeap_old (Qw hb) (by rw[Jz];exact Z5 hb)];exact XI _ q1
theorem qis{l:Addr}{vs:List Value}{ss:List Str}{Q:Value->Shared->Prop}(hl:s.heap.IsList l vs.toArray)(hA:StrsAre vs ss)(few:vs.length<4096)(un:ss.Nodup)(h:∀(out:Array Value)(C5:List Str),StrsAre out.toList C5->C5.Perm ss->sortedS C5=true->Q (.ref (s.heap.objs.size+1)) { s with heap:=sortedAll s.heap vs out }):
  wpAny (model prog w) A (call (.builtin "sorted") [.ref l]) Q E s:=by
 refine Xt kind_sorted plain_sorted entry_sorted (args_sorted1 _) ?_;unfold Builtin.«sorted»;refine Vk (m:=checkCount "sorted" 1 1 _) (Vl ?_);refine Vk (collect_list hl (Vk (Qu ?_)));generalize hg:(s.heap.push (seqObj "list" #[] 0)).update s.heap.objs.size (Obj.mapSeq (·++vs.toArray))=g;have sz:g.objs.size=s.heap.objs.size+1:=by rw[<- hg,Heap.size_update,size_push']
 have at_:(g.push (seqObj "list" vs.toArray 0)).get? (s.heap.objs.size+1)=some (seqObj "list" vs.toArray 0):=by rw[<- sz];exact Yz _ rfl
 show wpAny _ _ _ _ _ { s with heap:=g.push (seqObj "list" vs.toArray 0) }
 rw[sz];refine Vk (Qq (U0 slot_list_sort ⟨_,at_,rfl⟩ entry_list_sort (FsS.sort_method strKind_oneLt at_ hA.keysOf (by rw[pairsOf_toList];exact FsS.nk_strs hA un) (λ v₁ v₂ rest e=>keyKind_strs (by rw[<- e];exact hA)) (by omega) λ b0 a1 a2=>⟨_,rfl,?_⟩) (args_list_sort _)));obtain⟨C5,b1,b2,b3⟩:=sorted_out_str hA a1 a2
 have:=h _ C5 b1 b2 b3
 refine Vl ⟨_,rfl,?_⟩;subst hg;exact this
end
section
variable {X:Cx}
theorem qcT(hc:X.calm=true):jh X (.builtin "sorted") (λ xs H Q=>∃ p ys,xs=[.ref p]/\H p=some (qeq X.prog X.w p ys)/\ys.length<4096/\ys.Nodup/\∀ l,H l=none->Q (.ref l) (upd H l (.lst ((qaS ys).map V.str)))):=by
 intro pins s σ H xs us Q I r h;obtain⟨p,ys,rfl,hp,aI,un,q⟩:=h;obtain⟨u,rfl,ru⟩:=yd r;cases ru
 obtain⟨n6,D7,hS⟩:=I.set hp;refine qir (I.ok.hd hc) hS (by rw[D7.length_eq];exact aI) (D7.nodup_iff.mpr un) λ l h' tk e d out C5 hk D4 he h1 h2 h3=>?_
 have es:=qeo (h2.trans D7) h3;subst es;have hf:=I.hok.fresh D4;refine⟨.ref l,upd H l (.lst ((qaS ys).map V.str)),I.call' (s':={ s with heap:=h',toks:=tk,drawn:=d }) (ch:=[]) rfl (Un.laid hk D4 hf) (I.hok.laid hk D4 ⟨?_,out.toList,e,j4 h1,he⟩) I.bare (λ _ z=>nomatch z),rfl,q _ hf⟩
 have:(qaS ys).length=ys.length:=(h2.trans D7).length_eq
 rw[U7,this];exact Qy (Ze aI (by decide))
theorem vT:jh X (.builtin "sorted") (λ xs H Q=>∃ p ss,xs=[.ref p]/\SqL X.K H p (ss.map V.str)/\ss.length<4096/\ss.Nodup/\∀ l,H l=none->Q (.ref l) (upd H l (.lst ((qaS ss).map V.str)))):=by
 intro pins s σ H xs us Q I r h;obtain⟨p,ss,rfl,hq,aI,un,q⟩:=h;obtain⟨u,rfl,ru⟩:=yd r;cases ru
 obtain⟨its,rv,pl,hz⟩:=I.list hq;have hl:=rv.length;rw[U7] at hl;refine qis pl.isList (j3 rv) (by omega) un λ out C5 h1 h2 h3=>?_
 obtain⟨e,he⟩:=sortedAll_at s.heap its out;have es:=qeo h2 h3;subst es;refine⟨.ref (s.heap.objs.size+1),_,I.laid (a:=s.heap.objs.size+1) (o:=.lst ((qaS ss).map V.str)) (t':=s.toks) (λ _ _=>sortedAll_old) (Ve _) ⟨?_,out.toList,e,j4 h1,he⟩,rfl,q _ (I.hok.fresh (Ve _))⟩;rw[U7] at hz ⊢;rw[h2.length_eq];exact hz
end
end L2
namespace Fs
noncomputable def vA(ρ:Nat->Bool):Nat->List Nat->Nat
 |n,[]=>n
 |n,c::ls=>vA ρ (2*n+if ρ c then 1 else 0) ls
theorem vU(ρ:Nat->Bool):∀(ls:List Nat)(n:Nat),vA ρ n ls=n*2^ls.length+vA ρ 0 ls
 | [],n=>by simp[vA]
 |c::ls,n=>by
  rw[vA,vU ρ ls,vA,vU ρ ls (2*0+_),Uo,Q2];rw[Nat.add_mul,Nat.add_mul,<- Qp,Nat.mul_zero,Nat.zero_mul,Q5,Q1 2 n,Nat.mul_assoc,Q1 2]
theorem qhE(ρ:Nat->Bool):∀(ls:List Nat),vA ρ 0 ls<2^ls.length
 | []=>by simp[vA]
 |c::ls=>by
  rw[vA,vU,Uo,Q2]
  have:=qhE ρ ls
  split <;> omega
theorem qcU(ρ:Nat->Bool):∀(ls:List Nat)(t:List Bool),t.length=2^ls.length->look ρ ls t=t.getD (vA ρ 0 ls) false
 | [],[b],_=>by simp[look,vA]
 |c::ls,t,h=>by
  rw[Uo,Q2] at h;have h1:(t.take (2^ls.length)).length=2^ls.length:=by rw[Uq];omega
  have h2:(t.drop (2^ls.length)).length=2^ls.length:=by rw[Us];omega
  have hl:=qhE ρ ls;rw[look,vA,vU];cases ρ c with
  |true =>
   simp only[Vz,Nat.mul_zero,Q5,Nat.one_mul];rw[qcU ρ ls _ h2];simp[Xm,Zp]
  |false =>
   simp only[Zo,Vr,Nat.mul_zero,Q5,Nat.zero_mul];rw[qcU ρ ls _ h1];simp[Xm,Xz hl]
theorem qcV{ρ τ:Nat->Bool}:∀{ls:List Nat}{n:Nat},(∀ c∈ls,ρ c=τ c)->vA ρ n ls=vA τ n ls
 | [],n,_=>rfl
 |c::ls,n,h=>by rw[vA,vA,h c Zf];exact qcV λ d hd=>h d (Yl _ hd)
theorem qbQ{ρ τ:Nat->Bool}:∀{F:List Pr},(∀ p∈F,∀ c∈p,ρ c=τ c)->qy ρ F=qy τ F
 | [],_=>rfl
 |p::F,h=>by
  show xor (p.all ρ) (qy ρ F)=xor (p.all τ) (qy τ F)
  rw[qbQ λ q hq=>h q (Yl _ hq)];congr 1
  have h1:=h p Zf;revert h1;clear h;induction p with
  |nil=>intro _;rfl
  |cons c p ih=>intro h1;rw[Qm,Qm,h1 c Zf,ih λ d hd=>h1 d (Yl _ hd)]
end Fs
namespace L2
open PySem PySem.Spec PyProof.Rows
theorem Draws.strAny{prog:Program}{w:World}{A:Around}(hh:A.handled=none)(it:Addr)(x:Str)(t:Tok):
  Draws prog w A it [it] x.cps.size (λ i v=>∃ c u,x.cps[i]?=some c/\v=.str ⟨#[c]⟩ u) (λ i h=>h.IsStrIter it (strIterType x) x t i):=by
 unfold strIterType;cases ha:x.cps.all (·<128) with
 |true=>rw[V2 (by simpa using ha)];exact Draws.strAscii hh it x t
 |false=>rw[V3 (by simpa using ha)];exact Draws.strWide hh it x t
noncomputable def qit(z:Str):It2:=⟨λ i H=>i<z.cps.size,λ i H ys H'=>H'=H/\ys=[.int i,sgn z i],λ i H=>i=z.cps.size⟩
def qmN(z:Str)(t:Tok)(e it:Addr)(i:Nat)(h:Heap):Prop:=(∃ N1,IsEnum h e it i N1)/\h.IsStrIter it (strIterType z) z t i
theorem qgG{P:Program}{w:World}{K:W.Frag}{es:List Expr}{k:Nat}{pos:Pos}(z:Str)(t:Tok)(e it:Addr)(C7:e≠it):Turn2 P w K (.Tuple es k pos) (qit z) [e,it] e (qmN z t e it) where
 obj:=λ i h st b hb=>by
  obtain⟨⟨N1,he⟩,o,ho,c,d⟩:=st;have hb:b=e∨b=it:=by simpa using hb
  rcases hb with y|y
  ·subst y;exact⟨_,he,λ v q=>by cases q⟩
  ·subst y;exact⟨o,ho,λ v q=>by rw[d] at q;cases q⟩
 keep:=λ i h h' st k=>by
  obtain⟨⟨N1,he⟩,o0⟩:=st;obtain⟨o,ho,r⟩:=o0;exact⟨⟨N1,k e (by simp) _ he⟩,o,k it (by simp) o ho,r⟩
 item:=by
  intro X hP hw hK hc i pins s σ H E I hf st hg;subst hP hw hK;have c7:i<z.cps.size:=hg;obtain⟨⟨N1,he⟩,o0⟩:=st;have fe:=hf e (by simp);have fi:=hf it (by simp);refine wpAny_pyNext_enum_itemD (Draws.strAny (A:=X.A.in1) (by simpa using I.ok.hd hc) it z t) he o0 c7 C7 (by simpa using C7) λ u h' tk hP cG E4 ht hsz hk=>?_
  refine⟨s.heap.objs.size,rfl,wpAny_letOwnedTupleGo_enum cG λ h2 he2 t5=>?_⟩;replace t5:Heap.SameBut e h' h2:=t5;have dW:e<s.heap.objs.size:=Qv he;have k2:∀ b o,b≠e->b≠it->s.heap.get? b=some o->h2.get? b=some o:=λ b o h1 h3 q=>t5.extBut b o h1 (hk b o h1 h3 q)
  have I1:Inv X pins σ H { s with heap:=h2,toks:=tk+1 }:=by
   refine I.step (g':=s.gens) (d':=s.drawn) (ch:=[e,it]) (λ b hb=>?_) (λ b o _ _ c9 q _=>k2 b o (λ z=>c9 (by simp[z])) (λ z=>c9 (by simp[z])) q)
    (λ b o _ _ c9 q _=>⟨o.slots,k2 b o (λ z=>c9 (by simp[z])) (λ z=>c9 (by simp[z])) q⟩) (λ _ _ _ _ n=>n) (λ b o c9 q=>⟨o,k2 b o (λ z=>c9 (by simp[z])) (λ z=>c9 (by simp[z])) q⟩)
    (λ _ _ q=>q) (λ _ _ _ q=>q) (λ b ps q=>⟨#[],by rw[q];simp⟩) (λ m hm=>?_) (λ b u q=>?_) I.bare
   ·have hb:b=e∨b=it:=by simpa using hb
    rcases hb with z|z
    ·subst z;exact⟨fe.2.2.2.1,fe.2.1,fe.2.2.2.2.1,fe.2.2.2.2.2⟩
    ·subst z;exact⟨fi.2.2.2.1,fi.2.1,fi.2.2.2.2.1,fi.2.2.2.2.2⟩
   ·obtain⟨o,r9,ep,ho,r⟩:=hm;exact⟨o,r9,ep,k2 _ o (Vx fe.2.1) (Vx fi.2.1) ho,r⟩
   ·refine(I.hok b u q).stay (λ c v c9 z=>k2 c v (λ y=>?_) (λ y=>?_) z) (λ _ z=>z) λ _ _ z=>z
    ·rcases c9 with y' | y'
     ·rw[<- y',y,fe.1] at q;cases q
     ·rw[y,fe.1] at y';cases y'
    ·rcases c9 with y' | y'
     ·rw[<- y',y,fi.1] at q;cases q
     ·rw[y,fi.1] at y';cases y'
  obtain⟨c,u',ec,rfl⟩:=hP;obtain⟨o3,ho3,r3⟩:=E4;refine⟨[.int i,sgn z i],[.int i tk,.str ⟨#[c]⟩ u'],H,I1,⟨_,(t5.extBut _ _ (Qz dW) ht),rfl,_,rfl⟩,.cons ⟨_,rfl⟩ (.cons (qgr (v:=.str ⟨#[c]⟩ u') ⟨c,u',ec,rfl⟩) .nil),⟨rfl,rfl⟩,⟨⟨.str ⟨#[c]⟩ u',?_⟩,o3,t5.extBut _ _ (Vx C7) ho3,r3⟩,λ b hb=>(hf b hb).1⟩
  ·have:((i:Int)+1)=((i+1:Nat):Int):=by omega
   rw[<- this];exact he2
 done:=by
  intro X hP hw hK hc i pins s σ H E I hf st hg;subst hP hw hK;have hi:i=z.cps.size:=hg;subst hi;obtain⟨⟨N1,he⟩,o0⟩:=st;obtain⟨f0,f1,f2,f3,f4,f5⟩:=hf it (by simp);exact wpAny_pyNext_enum_endD (Draws.strAny (A:=X.A.in1) (by simpa using I.ok.hd hc) it z t) he o0 λ h' eb=>⟨rfl,I.turned (t':=s.toks) (λ b o hb e=>eb b o hb e) f0 f1 f3 f4 f5⟩
 self:=λ A i s Q E st h=>by
  obtain⟨⟨N1,he⟩,o0⟩:=st;exact Ug he h
def qmO(ta:TA):TI2:=λ σ H R=>ta σ H λ vs H1=>∃ z,vs=[.str z]/\R (qit z) H1
theorem qcW{X:Cx}{es:List Expr}{k:Nat}{A9:Pos}{l:Expr}{ta:TA}{p pos:Pos}(hg:Gl X "enumerate")(hm:X.mg "enumerate"=none)(ha:PA X [l] ta)(hs:starEach [l] X.env=[(false,eval l X.env)]:=by rfl):
  PI2 X (.Tuple es k A9) (.Call (.Name "enumerate" p) [l] [] pos) (qmO ta):=by
 intro pins s σ H R I h;refine qcC (R:=λ vs H1=>∃ z,vs=[.str z]/\R (qit z) H1) hg hm boot_enumerate ha I h (λ us s1 vs H1 I1 r1 q1=>?_) (hs:=hs);obtain⟨z,e,q⟩:=q1;subst e;obtain⟨u,rfl,t,rfl⟩:=yd r1;refine call_enumerate_str λ h' he o0 hsz hk=>Ug he ?_
 refine⟨s1.heap.objs.size+1,[s1.heap.objs.size+1,s1.heap.objs.size],_,_,H1,rfl,I1.kept (t':=s1.toks) hk,qgG z t _ _ (Nat.succ_ne_self _),⟨⟨_,he⟩,o0⟩,λ b hb=>?_,q⟩;have hb:b=s1.heap.objs.size+1∨b=s1.heap.objs.size:=by simpa using hb
 rcases hb with z|z
 ·subst z;exact I1.fpOk (Ve _) (I1.hok.fresh (Ve _))
 ·subst z;exact I1.fpOk (Vc _) (I1.hok.fresh (Vc _))
section
variable {X:Cx}
def qoI:V->Option Int->Option Int->Hp->VK->Prop:=λ x lo hi H Q=>∃(z:Str)(j:Nat),x=.str z/\lo=none/\hi=some (j:Int)/\z.length<=1000/\Q (.str (qj ((cs z).take j))) H
theorem vw(l:List Nat):∀ m,m<=l.length->(List.range m).filterMap (l[·]?)=l.take m
 |0,_=>rfl
 |m+1,h=>by
  rw[Ji,Yc,vw l m (by omega),J7];congr 1
theorem qiu(z:Str)(j:Nat)(tk:Tok):slicePicked z none (some ((j:Int),tk)) none=List.range (min j z.length):=by
 unfold slicePicked Builtin.Str.strSliceIndices
 dsimp
 have e:(if (j:Int)<0 then max 0 ((j:Int)+(z.length:Int)) else min (j:Int) (z.length:Int))=((min j z.length:Nat):Int):=by
  rw[V3 (by omega)];omega
 first
 |(rw[show sliceRange 0 _ 1=sliceRange ((0:Nat):Int) ((min j z.length:Nat):Int) 1 by congr 1 <;> (try split) <;> omega,sliceRange_one];simp)
 |skip
theorem qlt:SlR X qoI:=by
 intro pins s σ H x v vl vu lo hi sl Q I rx hs pl pu h;obtain⟨z,j,rfl,rfl,rfl,hz,q⟩:=h;obtain⟨t,rfl⟩:=rx;refine⟨"str",_,PySem.F.slot_str_getitem.lookup,Vo s z t,?_⟩;cases pl
 cases pu
 rename_i tk;refine wpAny_getItem_str_slice (l:=none) (u:=some ((j:Int),tk)) (st:=none) hs rfl ?_;have hl:z.length=(cs z).length:=by show z.cps.size=z.cps.toList.length;rw[Yy]
 unfold sliceMade;rw[qiu,Z8];split
 ·next h =>
  have h2:min j z.length=z.length:=by
   have:=(Bool.and_eq_true_iff.mp h).2
   exact Vn.mp this
  have e:qj ((cs z).take j)=z:=by
   rw[XN (by omega)];exact qhw z
  rw[e] at q;exact⟨.str z,H,I,⟨t,rfl⟩,q⟩
 ·have e:(⟨((List.range (min j z.length)).filterMap (z.cps[·]?)).toArray⟩:Str)=qj ((cs z).take j):=by
   have:=vw (cs z) (min j z.length) (by omega)
   rw[show(λ i:Nat=>z.cps[i]?)=λ i=>(cs z)[i]? from funext λ i=>by show z.cps[i]?=z.cps.toList[i]?;rw[XZ]];rw[this];show qj _=_
   congr 1
   rw[hl,List.take_eq_take_iff];omega
  rw[e];refine⟨?_,.str _,H,I.tok _,⟨_,rfl⟩,q⟩;show(qj ((cs z).take j)).length<=_
  rw[show(qj ((cs z).take j)).length=((cs z).take j).length from qu _,Uq];exact qp (by omega)
end
end L2
namespace Fs
structure Ok9(ls:List Nat):Prop where
 rise:ls.Pairwise (·<·)
 len:ls.length<=9
end Fs
namespace L2
open PySem PySem.Spec PyProof.Rows
theorem qdQ{z:Str}{t:TGs}{tb:TS}{D:Ends}{σ:St}{H:Hp}(Pv:Nat->St->Hp->Prop)(h0:Pv 0 σ H)(hs:∀ i σ H,i<z.cps.size->Pv i σ H->t [.int i,sgn z i] σ H λ σ2 H2=>tb { D with nx:=Pv (i+1),ct:=Pv (i+1),bk:=D.nx } σ2 H2)(hd:∀ σ H,Pv z.cps.size σ H->D.nx σ H):
  ∃ W:Nat->Nat->St->Hp->Prop,(∃ m,W 0 m σ H)/\∀ i m σ H,W i m σ H ->
   ((qit z).stop i H/\D.nx σ H)∨((qit z).go i H/\∃ N:St->Hp->Prop,(∀ σ' H',N σ' H'->∃ m',m'<m/\W (i+1) m' σ' H')/\∀ zs H',(qit z).yld i H zs H'->zs.length=2/\t zs σ H' λ σ2 H2=>tb { D with nx:=N,ct:=N,bk:=D.nx } σ2 H2):=by
 refine⟨λ i m σ H=>m=z.cps.size-i/\i<=z.cps.size/\Pv i σ H,⟨z.cps.size,by simp,Vd _,h0⟩,?_⟩;rintro i m σ H ⟨rfl,hi,p⟩;by_cases c7:i<z.cps.size
 ·refine .inr ⟨c7,Pv (i+1),λ σ' H' p'=>⟨z.cps.size-(i+1),by omega,rfl,c7,p'⟩,λ zs H' y=>?_⟩;obtain⟨e,ez⟩:=y;subst e ez;exact⟨rfl,hs i σ _ c7 p⟩
 ·have e:i=z.cps.size:=by omega
  subst e;exact .inl ⟨rfl,hd σ H p⟩
end L2
namespace Fs
theorem qiv(F G:List Pr):(added F G).length<=F.length+G.length:=by
 unfold added;rw[(zU _).length_eq,qe8,Zj]
 have:=Yf (λ p=>!G.contains p) F
 have:=Yf (λ p=>!F.contains p) G
 omega
noncomputable def uni(a b:Pr):Pr:=qH [a++b]
theorem qhF{a b:Pr}{c:Nat}:c∈uni a b ↔ c∈a∨c∈b:=by unfold uni;rw[ju];simp
end Fs
namespace L2
open PySem PySem.Spec PyProof.Rows
end L2
namespace L2
open PySem PySem.Spec PyProof.Rows PySem.StrLaws PySem.Builtin PySem.Builtin.Str
noncomputable def qeG(c:Nat):Nat->List Nat->List Nat
 |_,[]=>[]
 |k,x::l=>if x=c then k::qeG c (k+1) l else qeG c (k+1) l
end L2
namespace L2
open PySem PySem.Spec PyProof.Rows
end L2
namespace Fs
theorem qhG{α:Type}[DecidableEq α](f:α->Nat):∀{l m:List α},l.Nodup->(∀ x∈l,x∈m)->(l.map f).sum<=(m.map f).sum
 | [],_,_,_=>Vd _
 |a::l,m,nd,h=>by
  have A8:=U9.mp nd;have ha:a∈m:=h a Zf;have ih:=qhG f (l:=l) (m:=m.erase a) A8.2 λ x hx=>(List.mem_erase_of_ne (λ(e:x=a)=>A8.1 (by rw[<- e];exact hx))).mpr (h x (Yl _ hx))
  have e:(m.map f).sum=((a::m.erase a).map f).sum:=by
   have:=(List.perm_cons_erase ha).map f
   clear ih;generalize m.map f=u at this;generalize (a::m.erase a).map f=v at this;induction this with
   |nil=>rfl
   |cons x _ ih=>rw[Qo,Qo,ih]
   |swap x y l=>rw[Qo,Qo,Qo,Qo];omega
   |trans _ _ a b=>exact a.trans b
  rw[e,Qi,Qi,Qo,Qo];omega
theorem qa8(l:Nat):∀ P:List Pr,((P.map (l::·)).map List.length).sum=(P.map List.length).sum+P.length
 | []=>rfl
 |p::P=>by
  have ih:=qa8 l P;rw[Qi,Qi,Qo,Qi,Qo,ih,Uo,Uo];omega
theorem qlu(u v:List Nat):(u++v).sum=u.sum+v.sum:=by
 induction u with
 |nil=>simp
 |cons a u ih=>rw[Ur,Qo,Qo,ih];omega
theorem qcX:∀ ls:List Nat,2*((za ls).map List.length).sum=ls.length*2^ls.length
 | []=>rfl
 |l::ls=>by
  have ih:=qcX ls;have pl:=qM ls;rw[za,Jg,qlu,qa8,Uo,Q2,pl];generalize 2^ls.length=N at ih ⊢
  have:(ls.length+1)*(N*2)=2*(ls.length*N)+2*N:=by
   rw[Nat.add_mul,Nat.one_mul,Q1 N 2,<- Nat.mul_assoc,Q1 ls.length 2,Nat.mul_assoc]
  rw[this];omega
theorem On.flat2{ls:List Nat}{F:List Pr}(h:On ls F)(hl:ls.Pairwise (·<·)):2*F.flatten.length<=ls.length*2^ls.length:=by
 rw[<- qcX,List.length_flatten]
 have:=qhG List.length (l:=F) (m:=za ls) h.vf.nodup λ p hp=>zC.mpr (h.sub hl p hp)
 omega
theorem Ok9.le{ls:List Nat}{F:List Pr}(o:Ok9 ls)(h:On ls F):F.length<=512:=by
 have h1:=h.len o.rise;have h2:2^ls.length<=2^9:=Yu (by decide) o.len;omega
noncomputable def pairs(F G:List Pr):List Pr:=F.flatMap λ p=>G.map λ q=>uni p q
end Fs
namespace L2
open PySem PySem.Spec PyProof.Rows
section
variable {X:Cx}
abbrev rAS:R2:=λ x y H Q=>∃ i j,x=.str i/\y=.str j/\i.length+j.length<=sizeLine/\Q (.str (i++j)) H
theorem qz:OpR X (binaryOp .Add) rAS:=qcj
end
end L2
namespace L2
open PySem PySem.Spec PyProof.Rows PySem.StrLaws PySem.Builtin PySem.Builtin.Str
theorem qjZ(z:Str)(c:Nat):∀(m k:Nat)(st:Array Nat×Nat),1<=st.1.size->(forIn (List.range' k m) st (occBody z ⟨#[c]⟩ z.length 1)).run.fst.toList=st.1.toList:=by
 intro m;induction m with
 |zero=>intro k st h;rfl
 |succ m ih =>
  intro k st h;rw[List.range'_succ,List.forIn_cons];unfold occBody;rw[V3 (λ q=>by have:st.1.size<1:=q.1.1.1;omega)];exact ih (k+1) (st.1,st.2) h
theorem qiw(z:Str)(c:Nat):∀(m k:Nat)(st:Array Nat×Nat),st.2<=k->st.1.toList=[]->(forIn (List.range' k m) st (occBody z ⟨#[c]⟩ z.length 1)).run.fst.toList=(qeG c k ((cs z).drop k |>.take m)).take 1:=by
 intro m;induction m with
 |zero=>intro k st h1 h2;rw[J8];exact h2
 |succ m ih =>
  intro k st h1 h2;have hz:st.1.size=0:=by rw[<- Yy,h2];rfl
  rw[List.range'_succ,List.forIn_cons];unfold occBody;by_cases e:(cs z)[k]?=some c
  ·obtain⟨c1,c2⟩:=(subAt_one z c k).mpr e;rw[V2 ⟨⟨⟨by omega,h1⟩,c1⟩,c2⟩]
   have:=qjZ z c m (k+1) (st.1.push k,k+1) (by rw[Array.size_push];omega)
   refine Eq.trans this ?_;rw[Z6,h2];obtain⟨c7,ek⟩:=Xq.mp e;rw[Xw c7,List.take_succ_cons,ek];show _=List.take 1 (if c=c then _ else _)
   rw[V2 rfl];rfl
  ·rw[V3 (λ q=>e ((subAt_one z c k).mp ⟨q.1.2,q.2⟩))]
   have:=ih (k+1) (st.1,st.2) (Ua h1) h2
   refine Eq.trans this ?_;congr 1
   by_cases c7:k<(cs z).length
   ·rw[Xw c7,List.take_succ_cons];show _=(if (cs z)[k]=c then _ else _)
    rw[V3 (λ q=>e (by rw[X1 c7,q]))]
   ·rw[XO (by omega),XO (by omega)];simp[qeG]
theorem qlv(z:Str)(c:Nat):occurrences z ⟨#[c]⟩ 0 z.length 1=(qeG c 0 (cs z)).take 1:=by
 rw[occ_eq,qiw z c _ 0 (#[],0) (Vc _) rfl,J6];congr 2
 exact XN (by simp[Str.length])
theorem qfz(c:Nat):∀(w r:List Nat)(k:Nat),c∉w->qeG c k (w++c::r)=(k+w.length)::qeG c (k+w.length+1) r
 | [],r,k,_=>by show(if c=c then _ else _)=_;rw[V2 rfl];rfl
 |x::w,r,k,h=>by
  have hx:¬ x=c:=λ e=>h (by rw[e];exact Zf ..)
  show(if x=c then _ else qeG c (k+1) (w++c::r))=_
  rw[V3 hx,qfz c w r (k+1) (λ hm=>h (Yl _ hm))];simp[Qp,Nat.add_comm 1]
theorem qbw(l:List Nat)(i j:Nat):strSub (qj l) i j=qj ((l.drop i).take (j-i)):=by
 show(⟨(l.toArray).extract i j⟩:Str)=⟨((l.drop i).take (j-i)).toArray⟩
 congr 1
 apply Array.toList_inj.mp
 simp[List.extract_eq_drop_take]
section
variable {X:Cx}
def qnM:V->List V->Hp->VK->Prop:=λ x vs H Q=>∃(w r:List Nat)(c:Nat),x=vS (w++c::r)/\vs=[vS [c]]/\c∉w/\w.length+r.length<=60000/\∀ p,H p=none->Q (.ref p) (upd H p (.tup [vS w,vS [c],vS r]))
theorem qlw:MtR X "str.partition" qnM:=by
 intro pins s σ H x vs v us Q I rx rv h;obtain⟨w,r,c,rfl,rfl,hc,hz,q⟩:=h;obtain⟨t,rfl⟩:=rx;obtain⟨u,rfl,ru⟩:=yd rv;obtain⟨tu,rfl⟩:=ru;have hl:(qj (w++c::r)).length=w.length+(r.length+1):=by rw[qu,Zj,Uo]
 refine Vp PySem.F.slot_str_partition (Vo _ _ _) PySem.F.entry_str_partition (PySem.F.args_str_partition_2 _ _) (meets_str_partition (qj (w++c::r)) (qj [c]) t tu rfl (by rw[hl];exact qp (by omega))) ?_;have ho:occurrences (qj (w++c::r)) (qj [c]) 0 (qj (w++c::r)).length 1=[w.length]:=by
  rw[show qj [c]=(⟨#[c]⟩:Str) from rfl,qlv];show(qeG c 0 (w++c::r)).take 1=_
  rw[qfz c w r 0 hc];simp
 rw[ho];have hf:=I.hok.fresh (Vc s.heap.objs.size);have e1:strSub (qj (w++c::r)) 0 w.length=qj w:=by rw[qbw];simp
 have e2:strSub (qj (w++c::r)) (w.length+(qj [c]).length) (qj (w++c::r)).length=qj r:=by
  rw[qbw,hl,qu,XY]
  have:(w++c::r).drop (w.length+1)=r:=by rw[show w++c::r=(w++[c])++r by simp,Xe (by simp)];simp
  rw[this,XN (by omega)]
 dsimp only;rw[e1,e2];refine⟨.ref s.heap.objs.size,_,I.laid (a:=s.heap.objs.size) (o:=.tup [vS w,vS [c],vS r]) (t':=s.toks+1+1) (λ _ _ h=>XI _ h) (Vc _) ⟨qp (by show 3<=_;decide),_,.cons ⟨_,rfl⟩ (.cons ⟨_,rfl⟩ (.cons ⟨_,rfl⟩ .nil)),⟨_,Yz _ rfl,rfl,_,rfl⟩⟩,rfl,q _ hf⟩
def qmP:V->List V->Hp->VK->Prop:=λ x vs H Q=>∃(i j:Nat)(w:List Nat),x=vS (List.replicate i 32++w++List.replicate j 32)/\vs=[vS [32]]/\w≠[]/\32∉w/\i+w.length+j<=60000/\Q (vS w) H
theorem qfA(n:Nat)(l:List Nat)(h:∀ x,l.head?=some x->¬ x=32):((List.replicate n 32++l).takeWhile λ c=>(#[32]:Array Nat).contains c).length=n:=by
 induction n with
 |zero =>
  cases l with
  |nil=>rfl
  |cons x l =>
   have:¬ x=32:=h x rfl
   have e:(#[32]:Array Nat).contains x=false:=by simp[this]
   rw[List.replicate_zero,Je,List.takeWhile_cons,e];rfl
 |succ n ih =>
  rw[Y1,Ur,List.takeWhile_cons];have e:(#[32]:Array Nat).contains 32=true:=by simp
  rw[e,V2 rfl,Uo,ih]
theorem qj0(i j:Nat)(w:List Nat)(hw:w≠[])(h:32∉w):Txt.stripChars (qj (List.replicate i 32++w++List.replicate j 32)) (qj [32])=qj w:=by
 have lo:stripLo (#[32]:Array Nat).contains true (qj (List.replicate i 32++w++List.replicate j 32))=i:=by
  unfold stripLo;rw[V2 rfl];show(((List.replicate i 32++w++List.replicate j 32)).takeWhile _).length=i
  rw[Z1];refine qfA i _ λ x hx=>?_
  cases w with
  |nil=>exact absurd rfl hw
  |cons a w=>simp at hx;subst hx;exact λ e=>h (by rw[e];exact Zf ..)
 have hl:(qj (List.replicate i 32++w++List.replicate j 32)).length=i+w.length+j:=by rw[qu];simp[Qp]
 have hi:stripHi (#[32]:Array Nat).contains true (qj (List.replicate i 32++w++List.replicate j 32)) i=i+w.length:=by
  unfold stripHi;rw[V2 rfl,hl];show i+w.length+j-((((List.replicate i 32++w++List.replicate j 32)).drop i).reverse.takeWhile _).length=_
  have e:((List.replicate i 32++w++List.replicate j 32)).drop i=w++List.replicate j 32:=by
   rw[Z1,Xe (by simp)];simp
  rw[e,Y8,List.reverse_replicate,qfA j _ λ x hx=>λ e2=>?_]
  ·omega
  ·subst e2
   have:32∈w.reverse:=List.mem_of_mem_head? hx
   exact h (List.mem_reverse.mp this)
 have st:stripped (#[32]:Array Nat).contains true true (qj (List.replicate i 32++w++List.replicate j 32))=qj w:=by
  unfold stripped;rw[lo,hi,qbw];have e:((List.replicate i 32++w++List.replicate j 32)).drop i=w++List.replicate j 32:=by
   rw[Z1,Xe (by simp)];simp
  rw[e,show i+w.length-i=w.length by omega];simp
 show Txt.stripBy (#[32]:Array Nat).contains true true _=_
 unfold Txt.stripBy;split
 ·rename_i hs;unfold stripSame at hs;rw[lo,hi,hl] at hs;have hs:i=0/\i+w.length=i+w.length+j:=by simpa using hs
  obtain⟨h1,h2⟩:=hs;have hj:j=0:=by omega
  subst h1 hj;simp
 ·exact st
theorem qfB:MtR X "str.strip" qmP:=by
 intro pins s σ H x vs v us Q I rx rv h;obtain⟨i,j,w,rfl,rfl,hw,hn,hz,q⟩:=h;obtain⟨t,rfl⟩:=rx;obtain⟨u,rfl,ru⟩:=yd rv;obtain⟨tu,rfl⟩:=ru;have hl:(qj (List.replicate i 32++w++List.replicate j 32)).length=i+w.length+j:=by rw[qu];simp[Qp]
 refine SC.stripChars (y:=qj [32]) (λ t' k=>?_) (by rw[hl];exact qp (by omega));rw[qj0 i j w hw hn];exact⟨vS w,H,I.tok k,⟨_,rfl⟩,q⟩
end
end L2
namespace Fs
theorem qj1{k M N:Nat}(hM:M<2^k)(hN:N<2^k):M &&& (2^k+N)=M &&& N:=by
 apply Yv
 intro i;rw[Jl,Jl];by_cases h:i<k
 ·rw[Xo h]
 ·have:M.testBit i=false:=XR (Ze hM (Yu (by decide) (Nat.le_of_not_lt h)))
  rw[this];rfl
theorem qix{k M N:Nat}(hM:M<2^k)(hN:N<2^k):(2^k+M) &&& (2^k+N)=2^k+(M &&& N):=by
 have hMN:M &&& N<2^k:=Zl Nat.and_le_left hM;apply Yv
 intro i;rw[Jl];rcases Nat.lt_trichotomy i k with h|h|h
 ·rw[Xo h,Xo h,Xo h,Jl]
 ·subst h;rw[Xp,Xp,Xp,XR hM,XR hN,XR hMN];rfl
 ·have up:∀ x,x<2^k->(2^k+x).testBit i=false:=λ x hx=>XR (by
   have:2^(k+1)<=2^i:=Yu (by decide) h
   rw[Q2] at this;omega)
  rw[up _ hM,up _ hMN];rfl
noncomputable def prt(N M:Nat):Bool:=(M &&& N) == M
theorem qmQ{N M:Nat}(h:prt N M=true):M<=N:=by
 have e:M &&& N=M:=by simpa [prt] using h
 rw[<- e];exact Nat.and_le_right
noncomputable def qat(l:List Bool):Bool:=l.foldl (λ a b=>xor a b) false
theorem qfC(l:List Bool)(a:Bool):l.foldl (λ a b=>xor a b) a=xor a (qat l):=by
 induction l generalizing a with
 |nil=>simp[qat]
 |cons x l ih=>unfold qat;rw[Jd,Jd,ih,ih (xor false x)];cases a <;> cases x <;> simp
theorem vV(l m:List Bool):qat (l++m)=xor (qat l) (qat m):=by unfold qat;rw[Z9,qfC];rfl
theorem qiy{l:List Bool}(h:∀ b∈l,b=false):qat l=false:=by
 induction l with
 |nil=>rfl
 |cons x l ih =>
  unfold qat
  rw[Jd,qfC,h x (Zf ..),ih λ b hb=>h b (Yl _ hb)];rfl
noncomputable def jJ(t:List Bool)(N:Nat):Bool:=qat ((List.range (N+1)).map λ M=>prt N M && t.getD M false)
theorem qfD(t:List Bool){N K:Nat}(h:N<K):qat ((List.range K).map λ M=>prt N M && t.getD M false)=jJ t N:=by
 obtain⟨d,rfl⟩:∃ d,K=N+1+d:=⟨K-(N+1),by omega⟩;rw[List.range_add,Jg,vV,qiy (l:=List.map _ (List.map _ _)) λ b hb=>?_]
 ·unfold jJ;simp
 ·rw[Q4] at hb;obtain⟨j,_,rfl⟩:=Q3.mp hb;show(prt N (N+1+j) && _)=false
  have:prt N (N+1+j)=false:=by
   cases e:prt N (N+1+j) with
   |false=>rfl
   |true=>have:=qmQ e;omega
  rw[this];rfl
theorem qj2{O7 P4:List Bool}{k N:Nat}(hl:O7.length=2^k)(hN:N<2^k):jJ (O7++P4) N=jJ O7 N:=by
 unfold jJ;congr 1
 refine Za λ M hM=>?_
 have:M<O7.length:=by have:=Jx.mp hM;omega
 rw[Xm,Xm,Xr this]
theorem qiz{O7 P4:List Bool}{k N:Nat}(hl:O7.length=2^k)(hN:N<2^k):jJ (O7++P4) (2^k+N)=xor (jJ O7 N) (jJ P4 N):=by
 have e:jJ (O7++P4) (2^k+N)=qat ((List.range (2^k+(N+1))).map λ M=>prt (2^k+N) M && (O7++P4).getD M false):=by unfold jJ;rw[Qp]
 rw[e,List.range_add,Jg,vV];congr 1
 ·rw[<- qfD O7 hN];congr 1
  refine Za λ M hM=>?_
  have hM:M<2^k:=Jx.mp hM;have e1:prt (2^k+N) M=prt N M:=by unfold prt;rw[qj1 hM hN]
  rw[e1,Xm,Xm,Xr (by omega)]
 ·unfold jJ;rw[Q4];congr 1
  refine Za λ M hM=>?_
  have hM':M<2^k:=by have:=Jx.mp hM;omega
  show(prt (2^k+N) (2^k+M) && (O7++P4).getD (2^k+M) false)=_
  have e1:prt (2^k+N) (2^k+M)=prt N M:=by
   unfold prt;rw[qix hM' hN];rw[U6,Vn,Vn];omega
  rw[e1,Xm,Xm,Xk (by omega),hl,XE]
theorem qb7:∀(n:Nat)(t:List Bool),t.length=2^n->∀ N,N<2^n->(zb n t)[N]?=some (jJ t N)
 |0,t,h,N,hN=>by
  have e:N=0:=by simpa using hN
  subst e
  match t,h with
  | [b],_=>cases b <;> rfl
 |n+1,t,h,N,hN=>by
  have hp:2^(n+1)=2^n+2^n:=by rw[Q2];omega
  have h1:(t.take (2^n)).length=2^n:=by rw[Uq];omega
  have h2:(t.drop (2^n)).length=2^n:=by rw[Us];omega
  have l1:=qP n _ h1;have et:t=t.take (2^n)++t.drop (2^n):=(Yb _ _).symm;rw[zb];by_cases c7:N<2^n
  ·rw[Xr (by omega),qb7 n _ h1 N c7]
   conv=>rhs;rw[et,qj2 h1 c7]
  ·obtain⟨N',rfl⟩:∃ N',N=2^n+N':=⟨N-2^n,by omega⟩;have hN':N'<2^n:=by omega
   rw[Xk (by omega),l1,XE,List.getElem?_zipWith,qb7 n _ h1 N' hN',qb7 n _ h2 N' hN']
   conv=>rhs;rw[et,qiz h1 hN']
end Fs
namespace Fs
noncomputable def qJ(n N:Nat):List Bool:=(List.range n).map λ k=>decide (N / 2^(n-1-k) % 2=1)
theorem zm(n N:Nat):(qJ n N).length=n:=by unfold qJ;rw[U7,Z8]
theorem vW{n N k:Nat}(h:k<n):(qJ n N)[k]?=some (decide (N / 2^(n-1-k) % 2=1)):=by
 unfold qJ;rw[Zw,Zb h];rfl
theorem qcY(n N:Nat):qJ (n+1) N=decide (N / 2^n % 2=1)::qJ n N:=by
 unfold qJ;rw[List.range_succ_eq_map,Qi,Q4];congr 1
 refine Za λ k hk=>?_
 show decide (N / 2^(n+1-1-(k+1)) % 2=1)=_
 rw[show n+1-1-(k+1)=n-1-k by omega]
theorem qdR(n N:Nat):qJ n (N % 2^n)=qJ n N:=by
 unfold qJ;refine Za λ k hk=>?_
 have hk:=Jx.mp hk;rw[<- Xb,<- Xb,Nat.testBit_mod_two_pow,Qc (show n-1-k<n by omega)];rfl
noncomputable def asg(ls:List Nat)(r:List Bool)(c:Nat):Bool:=(((ls.zip r).find? λ x=>decide (x.1=c)).map (·.2)).getD false
theorem qcZ(c:Nat)(ls:List Nat)(b:Bool)(r:List Bool):asg (c::ls) (b::r) c=b:=by unfold asg;rw[Zn,Jb];simp
theorem qc0{c d:Nat}(ls:List Nat)(b:Bool)(r:List Bool)(h:¬ c=d):asg (c::ls) (b::r) d=asg ls r d:=by
 unfold asg;rw[Zn,Jb,show decide ((c,b).1=d)=false from Jq h]
theorem qdS:∀{ls:List Nat},ls.Nodup->∀{N:Nat},N<2^ls.length->vA (asg ls (qJ ls.length N)) 0 ls=N
 | [],_,N,h=>by
  have e:N=0:=by simpa using h
  rw[e];rfl
 |d::ls,nd,N,h=>by
  have A8:=U9.mp nd;have hp:0<2^ls.length:=Nat.two_pow_pos _;rw[Uo,qcY,vA,vU,qcZ,qcV (τ:=asg ls (qJ ls.length (N % 2^ls.length))),qdS A8.2 (Nat.mod_lt _ hp)]
  ·have hd:N / 2^ls.length<2:=by
    rw[Uo,Q2,Q1] at h;exact Nat.div_lt_of_lt_mul (by rw[Q1];exact h)
   have:=Nat.div_add_mod N (2^ls.length)
   generalize hq:N / 2^ls.length=q at this hd ⊢;generalize 2^ls.length=P at *;rcases(show q=0∨q=1 by omega) with e|e
   ·subst e;simpa using this
   ·subst e;simpa using this
  ·intro c hc;rw[qc0 _ _ _ (λ(e:d=c)=>A8.1 (e ▸ hc)),qdR]
noncomputable def sel(ls:List Nat)(N:Nat):Pr:=ls.filter (asg ls (qJ ls.length N))
theorem qj3{d:Nat}{ls:List Nat}(nd:(d::ls).Nodup)(N:Nat):sel (d::ls) N=if N / 2^ls.length % 2=1 then d::sel ls (N % 2^ls.length) else sel ls (N % 2^ls.length):=by
 have A8:=U9.mp nd;unfold sel;rw[Uo,qcY,qdR];have e:ls.filter (asg (d::ls) (decide (N / 2^ls.length % 2=1)::qJ ls.length N))=ls.filter (asg ls (qJ ls.length N)):=
  List.filter_congr λ c hc=>qc0 _ _ _ λ e=>A8.1 (e ▸ hc)
 rw[Uz,qcZ,e];by_cases h:N / 2^ls.length % 2=1
 ·rw[V2 h,Qc h,V2 rfl]
 ·rw[V3 h,Jq h,V3 (by decide)]
theorem qc1:∀{ls:List Nat},ls.Nodup->∀{N:Nat},N<2^ls.length->(za ls)[N]?=some (sel ls N)
 | [],_,N,h=>by
  have e:N=0:=by simpa using h
  rw[e];rfl
 |d::ls,nd,N,h=>by
  have A8:=U9.mp nd;have hp:0<2^ls.length:=Nat.two_pow_pos _;rw[Uo,Q2] at h;rw[za,qj3 nd];by_cases c7:N<2^ls.length
  ·rw[Xr (by rw[qM];exact c7),Nat.div_eq_of_lt c7,Nat.mod_eq_of_lt c7,V3 (by decide),qc1 A8.2 c7]
  ·have e1:N / 2^ls.length=1:=by
    rw[Nat.div_eq_iff hp];omega
   have e2:N % 2^ls.length=N-2^ls.length:=by
    rw[Nat.mod_eq_sub_mod (by omega),Nat.mod_eq_of_lt (by omega)]
   rw[Xk (by rw[qM];omega),qM,Zw,qc1 A8.2 (N:=N-2^ls.length) (by omega),e1,e2,V2 rfl];rfl
noncomputable def qad(ls:List Nat)(t:List Bool)(i:Nat):List Pr:=(List.range i).filterMap λ N=>if jJ t N=true then some (sel ls N) else none
theorem qc2(ls:List Nat)(t:List Bool)(i:Nat):qad ls t (i+1)=qad ls t i++(if jJ t i=true then [sel ls i] else []):=by
 unfold qad;rw[Ji,Yc];congr 1
 by_cases h:jJ t i=true
 ·simp[h]
 ·simp[h]
theorem qdT(ls:List Nat)(t:List Bool)(i:Nat):(qad ls t i).length<=i:=by
 have:=List.length_filterMap_le (λ N=>if jJ t N=true then some (sel ls N) else none) (List.range i)
 rw[Z8] at this;exact this
theorem qdU{ls:List Nat}{t:List Bool}(nd:ls.Nodup)(ht:t.length=2^ls.length):qad ls t (2^ls.length)=zS ls (zb ls.length t):=by
 have e:(za ls).zip (zb ls.length t)=(List.range (2^ls.length)).map λ N=>(sel ls N,jJ t N):=by
  refine List.ext_getElem? λ N=>?_
  rw[Zw];by_cases h:N<2^ls.length
  ·have e1:((za ls).zip (zb ls.length t))[N]?=some (sel ls N,jJ t N):=Xv.mpr ⟨qc1 nd h,qb7 _ _ ht N h⟩;rw[Zb h,e1];rfl
  ·rw[Yd (by rw[Jm,qM];omega),Yd (by rw[Z8];omega)];rfl
 unfold zS qad;rw[e,Zk];rfl
theorem qj4(l:List Bool)(b:Bool):qat (l++[b])=xor (qat l) b:=by rw[vV];congr 1;cases b <;> rfl
theorem qiA{ls:List Nat}{t:List Bool}(hl:ls.Pairwise (·<·))(ht:t.length=2^ls.length){N:Nat}(h:N<2^ls.length):qy (asg ls (qJ ls.length N)) (formOf ls t)=t.getD N false:=by
 rw[qaN _ ht,qcU _ ls t ht,qdS (zo Qg hl) h]
end Fs
namespace Fs
open PySem L2
theorem zL{α β:Type}{F G:α->β->Prop}(h:∀ a b,F a b->G a b):∀{xs:List α}{ys:List β},Paired F xs ys->Paired G xs ys
 |_,_,.nil=>.nil
 |_,_,.cons r t=>.cons (h _ _ r) (zL h t)
theorem zk{α β:Type}{F:α->β->Prop}:∀{xs:List α}{l:List β},Paired F xs l->∀(k:Nat)(a:α),xs[k]?=some a->∃ b,l[k]?=some b/\F a b
 |_,_,.nil,k,a,h=>by simp at h
 |_,_,.cons r t,0,a,h=>by simp at h;subst h;exact⟨_,rfl,r⟩
 |_,_,.cons r t,k+1,a,h=>zk t k a (by simpa using h)
theorem qj5(n:Nat):ixN (n+1) (-1)=some n:=by
 unfold ixN;rw[V3 (by decide),V2 (by omega)];congr 1;omega
def qnN(K:W.Frag):List V->Hp->VK->Prop:=λ xs H Q=>∃(p:Addr)(bs:List Bool),xs=[V.ref p]/\SqL K H p (bs.map V.bl)/\Q (.bl (bs.all id)) H
theorem qnO(p:List Nat):decide (vS p=vS p)=true:=Qc rfl
theorem qfE{ls p:List Nat}(hl:ls.Pairwise (·<·))(hp:p.Pairwise (·<·))(h:∀ c∈p,c∈ls):(ls.filter λ c=>decide (c∈p))=p:=
 qe7 Qg (λ a b h=>Nat.lt_asymm h) (hl.filter _) hp λ c=>by
  rw[U4];exact⟨λ h=>Um h.2,λ hc=>⟨h c hc,Qc hc⟩⟩
theorem vX{α:Type}{l:List α}{f:α->Bool}{i:Nat}(hi:i<l.length):(l.take (i+1)).filter f=(l.take i).filter f++(if f l[i]=true then [l[i]] else []):=by
 rw[Xa hi,List.filter_append];congr 1
 rw[Uz];rfl
theorem qc3(ls:List Nat):(ls.map λ c=>vS [c])=(ls.map λ c=>[c]).map vS:=by rw[Q4];rfl
end Fs
namespace L2
open PySem PySem.Spec PyProof.Rows
section
variable {X:Cx}
theorem qiB:MtR X "dict.update" (λ x vs H Q=>∃ d o kvs more,x=.ref d/\vs=[.ref o]/\H d=some (.dK kvs)/\H o=some (.dK more)/\d≠o/\kvs.length+more.length<=sizeLine/\Q .non (upd H d (.dK (qW kvs more)))):=by
 intro pins s σ H x vs v us Q I rx rv h;obtain⟨d,o,kvs,more,rfl,rfl,hd,ho,C7,hz,q⟩:=h;cases rx
 obtain⟨u,rfl,ru⟩:=yd rv;cases ru
 obtain⟨z1,s1,va,ra,da⟩:=qhr I.hok hd;obtain⟨z2,s2,vb,rb,db⟩:=qhr I.hok ho;refine call_meetsIn PySem.F.slot_dict_update da.typeIs PySem.F.entry_dict_update (PySem.F.args_dict_update_2 _ _) (meets_dict_update (qw X.prog X.w) d o C7 s2) ⟨va,vb,da,db,by rw[<- ra.length,<- rb.length];exact hz,λ h' lM _ hs=>?_⟩;have he:∃ q,h'.get? d=some q:=let ⟨q,_,_,hq,_⟩:=lM;⟨q,hq⟩;exact⟨.non,_,qeg (t':=s.toks) I (by rw[hd];exact True.intro) hs he (qgj (Qx (qaa more kvs) hz) s1 (KV.merge rb ra) lM),rfl,q⟩
end
end L2
namespace Law
open PySem L2 Fs
noncomputable def top(i:Nat):Stmt:=PySem.Challenge.pw_fillsay_k76_whole_counts_add_up.main.body.getD i (.Pass ⟨0,0,0,0⟩)
noncomputable abbrev qeH:Stmt:=top 10
noncomputable abbrev j9:Stmt:=top 11
noncomputable abbrev qc4:Stmt:=top 12
noncomputable abbrev qau:Stmt:=top 13
noncomputable abbrev vc:Stmt:=top 14
noncomputable abbrev qeI:Stmt:=top 15
noncomputable abbrev qc5:Stmt:=top 16
noncomputable abbrev vY:Stmt:=top 17
noncomputable abbrev qav:Stmt:=top 18
noncomputable abbrev qbx:Stmt:=top 19
noncomputable abbrev yV:Stmt:=top 20
noncomputable abbrev qa9:Stmt:=top 21
noncomputable abbrev qaw:Stmt:=top 23
noncomputable abbrev yA:Stmt:=qU (top 26) 0
noncomputable abbrev yB:Stmt:=qU (top 26) 1
noncomputable abbrev yC:Stmt:=qU (top 26) 4
noncomputable abbrev y7:Stmt:=qU (top 27) 0
noncomputable abbrev y8:Stmt:=qU (top 27) 1
noncomputable abbrev y9:Stmt:=qU (top 27) 4
noncomputable abbrev jE:Stmt:=qU (top 28) 0
noncomputable abbrev yD:Stmt:=qU (top 28) 1
noncomputable abbrev yE:Stmt:=qU (top 28) 2
noncomputable abbrev yF:Stmt:=qU (top 28) 5
noncomputable abbrev qax:Stmt:=qU (top 29) 0
noncomputable abbrev vd:Stmt:=qU (top 29) 1
noncomputable abbrev ve:Stmt:=qU (top 29) 2
noncomputable abbrev vg:Stmt:=qU (top 29) 5
noncomputable abbrev vZ:Stmt:=qU (top 30) 0
noncomputable abbrev jy:Stmt:=qU (top 30) 1
noncomputable abbrev vh:Stmt:=qU (top 31) 0
noncomputable abbrev vi:Stmt:=qU (top 31) 2
noncomputable abbrev kU:Stmt:=qU (top 32) 0
noncomputable abbrev kW:Stmt:=qU (top 32) 2
noncomputable abbrev yG:Stmt:=qU (top 33) 0
noncomputable abbrev yH:Stmt:=qU (top 33) 2
noncomputable abbrev qgH:Stmt:=top 38
noncomputable abbrev jn:Stmt:=top 39
noncomputable abbrev qeJ:Stmt:=top 40
noncomputable abbrev v0:Stmt:=top 41
noncomputable abbrev qby:Stmt:=top 42
noncomputable abbrev v1:Stmt:=top 43
noncomputable abbrev qc6:Stmt:=top 44
noncomputable abbrev kc:Stmt:=qU (top 50) 0
noncomputable abbrev kf:Stmt:=qU (top 50) 6
noncomputable abbrev vj:Stmt:=qU (top 50) 7
noncomputable abbrev yW:Stmt:=qU (top 50) 8
noncomputable abbrev kg:Stmt:=top 51
noncomputable abbrev yu:Stmt:=top 52
noncomputable abbrev qay:Stmt:=top 53
noncomputable abbrev ki:Stmt:=top 55
noncomputable abbrev qbz:Stmt:=top 56
noncomputable abbrev qaz:Stmt:=top 57
noncomputable abbrev vm:Stmt:=top 58
noncomputable abbrev yI:Stmt:=top 59
noncomputable abbrev qaA:Stmt:=top 61
noncomputable abbrev kn:Stmt:=top 62
noncomputable abbrev ja:Stmt:=top 63
noncomputable abbrev kq:Stmt:=top 64
noncomputable abbrev kr:Stmt:=top 65
noncomputable abbrev ku:Stmt:=top 66
noncomputable abbrev yw:Stmt:=top 70
noncomputable abbrev jF:Stmt:=top 71
noncomputable abbrev qaB:Stmt:=top 72
noncomputable abbrev qdV:Stmt:=top 73
structure Txt(mg:Str->Option Value):Prop where
 len:mg "len"=none
 list:mg "list"=none
 sorted:mg "sorted"=none
 set:mg "set"=none
 tuple:mg "tuple"=none
 dict:mg "dict"=none
 zip:mg "zip"=none
 reversed:mg "reversed"=none
 range:mg "range"=none
 enumerate:mg "enumerate"=none
 all:mg "all"=none
 min:mg "min"=none
 max:mg "max"=none
 isinstance:mg "isinstance"=none
 tup:mg "str"=none
 bool:mg "bool"=none
theorem qlx:bootBuiltins "list"=some (.type "list"):=by decide +kernel
theorem qba:bootBuiltins "tuple"=some (.type "tuple"):=by decide +kernel
theorem qgI:bootBuiltins "set"=some (.type "set"):=by decide +kernel
theorem qeK:bootBuiltins "dict"=some (.type "dict"):=by decide +kernel
theorem kX:bootBuiltins "sorted"=some (.builtin "sorted"):=by decide +kernel
theorem qj6:bootBuiltins "all"=some (.builtin "all"):=by decide +kernel
theorem qmR:bootBuiltins "min"=some (.builtin "min"):=by decide +kernel
section
variable {P:Program}{w:World}{K:W.Frag}{mg:Str->Option Value}{base:Heap}
def qfF(K:W.Frag)(n:Nat):Sp:=λ vs H Q _=>∃(a:Addr)(t:List Bool)(m:Nat),vs=[.ref a]/\SqL K H a (t.map V.bl)/\t.length=2^m/\m<n/\m<=9 /\
 ∀ r H',qg H H'->H' r=some (.lst ((zb m t).map V.bl))->Q (.ref r) H'
theorem kZ:FnScope ["truths","half","low","high"] ["truths"] (qi qa9):=scF
theorem qbb{m:Nat}(h:m<=9):2^m<=512:=by
 have:2^m<=2^9:=Yu (by decide) h
 exact this
theorem qhH:(["left","right"]:List Str).Nodup:=by decide +kernel
theorem qfG{n:Nat}{f:Addr}{fd:FuncData}(F:Fun K "summed" "summed" qa9 f fd)(T:Txt mg)(bF:qh K fd ["truths"] [])(mF:mg "summed"=some (.ref f))(G:FnOk P w K mg base CX0 n f fd ["truths"] (qfF K n)):FnOk P w K mg base CX0 (n+1) f fd ["truths"] (qfF K (n+1)):=by
 refine F.okd kZ (λ cdv A outer s H vs Q E hr h=>?_);obtain⟨a,t,m,rfl,hS,ht,hm,h9,q⟩:=h;have h512:=qbb h9;refine⟨_,qd (zf (qx zr (qD qC rfl T.len Qb (qa (pv 0) qb)) qf (qG _)) (qe (qo (zd qem rfl T.list qlx (qa (pv 0) qb)))) qL)
  (qd (qr (i:=1) kZ.nd rfl (Or.inl rfl) (qk zN (qD qC rfl T.len Qb (qa (pv 0) qb)) qf))
  (qd (qr (i:=2) kZ.nd rfl (Or.inl rfl) (zi G hr rfl mF F.kp bF .nil qF (qa (vE qek (pv 0) qaI (qaJ (pv 1))) qb)))
  (qd (qr (i:=3) kZ.nd rfl (Or.inl rfl) (zi G hr rfl mF F.kp bF .nil qF (qa (vE qek (pv 0) (qaJ (pv 1)) qaI) qb)))
  (qe (qo (qk qak (pv 2) (qaR (n:=2) (csc (NY:=["left","right"]) (o:=2) (caps:=[]) [] rfl (by simp) jD rfl) rfl
   (qgs rfl T.zip (qa (pv 2) (qa (pv 3) qb)))
   (λ C s H fp pins=>qO (qt (i:=0) qhH rfl (Or.inl rfl)) (qO (qt (i:=1) qhH rfl (Or.inl rfl)) zY)) (λ _=>rfl) (λ _=>rfl)
   (λ C s H fp pins=>zq) (λ C s H fp pins=>yY qjg (pv 0) (pv 1) (qG _))))))))),?_⟩
 have hl:(t.map V.bl).length=2^m:=by rw[U7,ht]
 refine⟨_,rfl,a,_,rfl,.inl hS,rfl,_,rfl,?_⟩;refine qbs (λ c=>?_) (λ c=>?_)
 ·have c':V.int (((t.map V.bl).length:Nat):Int)=V.int 1:=Um c;rw[hl] at c';have c2:((2^m:Nat):Int)=1:=by injection c'
  have hm0:m=0:=by
   cases m with
   |zero=>rfl
   |succ k=>rw[Q2] at c2;omega
  subst hm0;refine⟨_,rfl,a,_,rfl,.inl hS,λ r N9=>?_⟩;exact q r _ (qg.up N9) qc
 ·have c':¬ V.int (((t.map V.bl).length:Nat):Int)=V.int 1:=Zu (Z7.mpr c);rw[hl] at c';obtain⟨k,rfl⟩:∃ k,m=k+1:=by
   cases m with
   |zero=>exact absurd rfl c'
   |succ k=>exact⟨k,rfl⟩
  have D5:2^(k+1)=2^k+2^k:=by rw[Q2];omega
  have h1:(t.take (2^k)).length=2^k:=by rw[Uq];omega
  have h2:(t.drop (2^k)).length=2^k:=by rw[Us];omega
  have rO:(((t.map V.bl).length:Nat):Int) / 2=((2^k:Nat):Int):=by rw[hl];omega
  refine⟨_,rfl,a,_,rfl,.inl hS,_,_,rfl,rfl,⟨by decide,by decide⟩,?_⟩;dsimp only;rw[rO];refine⟨_,rfl,_,rfl,_,rfl,a,_,rfl,hS,λ p1 S7=>?_⟩;have e1:qbU (t.map V.bl) none (some ((2^k:Nat):Int))=(t.take (2^k)).map V.bl:=by
   unfold qbU;rw[HT.sIx_nat,hl,D5];show((t.map V.bl).drop 0).take (min (2^k) (2^k+2^k)-0)=_
   rw[J6,Nat.sub_zero,Jk (by omega),List.map_take]
  rw[e1];refine⟨p1,t.take (2^k),k,rfl,SqL.of qc,h1,by omega,by omega,λ r1 H1 g1 e1=>?_⟩;have g1':qg H H1:=(qg.up S7).trans g1;refine⟨_,rfl,_,rfl,_,rfl,a,_,rfl,g1'.seq hS,λ p2 hp2'=>?_⟩;have e2:qbU (t.map V.bl) (some ((2^k:Nat):Int)) none=(t.drop (2^k)).map V.bl:=by
   unfold qbU;rw[HT.sIx_nat,hl,D5,Jk (by omega)];show((t.map V.bl).drop (2^k)).take (2^k+2^k-2^k)=_
   rw[<- List.map_drop,XN (by rw[U7,h2];omega)]
  rw[e2];refine⟨p2,t.drop (2^k),k,rfl,SqL.of qc,h2,by omega,by omega,λ r2 H2 g2 e3=>?_⟩;have tX:qg H1 H2:=(qg.up hp2').trans g2;have f1:H2 r1=some (.lst ((zb k (t.take (2^k))).map V.bl)):=tX _ _ e1;have l1:=qP k _ h1;have l2:=qP k _ h2;refine⟨_,rfl,_,rfl,_,rfl,r1,r2,rfl,⟨_,SqL.of f1⟩,⟨_,SqL.of e3⟩,?_⟩;refine qgA (SqL.of f1) (SqL.of e3) (by rw[U7,U7,l1,l2]) (λ i=>((List.zipWith (· != ·) (zb k (t.take (2^k))) (zb k (t.drop (2^k)))).take i).map V.bl) rfl (λ i hi=>?_) ?_ ?_
  ·rw[U7,Uq];rw[U7,l1] at hi;exact zh (by omega)
  ·intro i x y H3 D Y Z hx hy hD N8 sm hY hZ;obtain⟨b1,P6,rfl⟩:=ql hx;obtain⟨b2,P5,rfl⟩:=ql hy;refine⟨_,_,rfl,_,_,rfl,rfl,⟨rfl,rfl⟩,?_⟩;refine⟨_,rfl,_,rfl,rfl,?_⟩;rw[qln];exact hY _ _ N8 sm (yP (qaq P6 P5))
  ·intro D H3 hD sm N8;have e4:(((List.zipWith (· != ·) (zb k (t.take (2^k))) (zb k (t.drop (2^k)))).take ((zb k (t.take (2^k))).map V.bl).length).map V.bl)=(List.zipWith (· != ·) (zb k (t.take (2^k))) (zb k (t.drop (2^k)))).map V.bl:=by
    rw[XN (by rw[Y2,U7];omega)]
   rw[e4] at N8;refine⟨r1,D,_,_,rfl,rfl,sm _ _ f1,N8,?_,λ r3 fJ=>?_⟩
   ·rw[U7,U7,Y2,l1,l2];exact qp (by omega)
   ·refine q r3 _ ((g1'.trans tX).trans (sm.to fJ)) ?_;rw[qc,<- Jg];rfl
theorem qdW{f:Addr}{fd:FuncData}(F:Fun K "summed" "summed" qa9 f fd)(T:Txt mg)(bF:qh K fd ["truths"] [])(mF:mg "summed"=some (.ref f)):∀ n,FnOk P w K mg base CX0 n f fd ["truths"] (qfF K n)
 |0=>⟨λ vs H Q E h=>by obtain⟨_,_,_,_,_,_,h,_⟩:=h;exact absurd h (Nat.not_lt_zero _),λ A outer s H args us vs Q E _ _ _ _ h=>by obtain⟨_,_,_,_,_,_,h,_⟩:=h;exact absurd h (Nat.not_lt_zero _)⟩
 |n+1=>qfG F T bF mF (qdW F T bF mF n)
def qb8:Sp:=λ vs H Q _=>∃(ls:List Nat),vs=[vS ls]/\ls.length<=9/\∀ r H',qg H H'->H' r=some (.lst ((za ls).map vS))->Q (.ref r) H'
theorem qbc:FnScope ["letters","products","letter"] ["letters"] (qi yV):=scF
theorem qnP:(["product","letter"]:List Str).Nodup:=by decide +kernel
theorem qj7{k:Nat}{f:Addr}{fd:FuncData}(F:Fun K "products_over" "products_over" yV f fd)(T:Txt mg):FnOk P w K mg base CX0 (k+1) f fd ["letters"] qb8:=by
 refine F.okd qbc (λ cdv A outer s H vs Q E hr h=>?_);obtain⟨ls,rfl,h9,q⟩:=h;refine⟨_,qd (qr (i:=1) qbc.nd rfl (Or.inl rfl) (zE (qa qm qb)))
  (qd (zR Jn rfl (qmF rfl T.reversed (qa (pv 0) qb)) (qt (i:=2) qbc.nd rfl (Or.inr rfl))
   (qe (qr (i:=1) qbc.nd rfl (Or.inl rfl) (qk qak (pv 1) (zz (csc (NY:=["product","letter"]) (o:=1) (caps:=[2]) ["letter"] rfl
    (by intro x hx;rw[Zq.mp hx];exact .inl rfl) (vP rfl rfl rfl jD) rfl) rfl
    (yi (pv 1)) (λ C s H fp pins=>qt (i:=0) qnP rfl (Or.inl rfl)) (λ C s H fp pins=>zq) (λ C s H fp pins=>qk qcj (pv 1) (pv 0)))))))
  (qe (qo (pv 1)))),?_⟩
 have hz:(qj ls).length=ls.length:=qu ls;refine⟨qp (by show 1<=_;decide),λ p0 hp0=>?_⟩;refine⟨_,rfl,_,rfl,by rw[hz];exact qp (by omega),?_⟩;refine qb2 (λ i σ H1=>∃(r:Addr)(v:Option V),σ=[some (vS ls),some (.ref r),v]/\qg H H1/\H1 r=some (.lst ((za (ls.drop (ls.length-i))).map vS))) ?_ ?_ ?_
 ·refine⟨p0,none,rfl,qg.up hp0,?_⟩;rw[qc,Nat.sub_zero,List.drop_length];rfl
 ·rintro i σ H1 hi ⟨r,v,rfl,g1,e1⟩;rw[hz] at hi;have c7:ls.length-1-i<ls.length:=by omega
  have ev:qjN (qj ls) i=vS [ls[ls.length-1-i]]:=by
   unfold qjN;rw[hz];show V.str ⟨#[ls.toArray.getD (ls.length-1-i) 0]⟩=V.str ⟨#[ls[ls.length-1-i]]⟩
   rw[Xi];simp[c7]
  have ed:ls.drop (ls.length-(i+1))=ls[ls.length-1-i]::ls.drop (ls.length-i):=by
   rw[show ls.length-(i+1)=ls.length-1-i by omega,Xw c7,show ls.length-1-i+1=ls.length-i by omega]
  rw[ev];have t8:(za (ls.drop (ls.length-i))).length<=512:=by
   rw[qM,Us];exact qbb (by omega)
  refine⟨_,rfl,_,rfl,r,rfl,⟨_,SqL.of e1⟩,?_⟩;refine qev (SqL.of e1) (λ j=>((((za (ls.drop (ls.length-i))).map (ls[ls.length-1-i]::·)).take j).map vS)) rfl (λ j hj=>?_) ?_ ?_
  ·rw[U7,Uq,U7];exact zh (by omega)
  ·intro j x H2 D Y Z hx hD u8 sm hY hZ;obtain⟨p,hp,rfl⟩:=ql hx;have oN:p.length<=9:=by
    have:=(zC.mp (Yn hp)).length_le
    rw[Us] at this;omega
   refine⟨⟨rfl,rfl⟩,?_⟩;refine⟨_,rfl,_,rfl,_,_,rfl,rfl,by rw[qu,qu];exact qp (by simp;omega),?_⟩;rw[zv];refine hY _ _ u8 sm ?_;exact yP (f:=vS) (by rw[Zw,hp];rfl)
  ·intro D H2 hD sm u8;rw[U7,XN (by rw[U7];exact Vc _)] at u8;refine⟨r,D,_,_,rfl,rfl,sm _ _ e1,u8,?_,λ r3 fJ=>?_⟩
   ·rw[U7,U7,U7];exact qp (by omega)
   ·refine⟨r3,_,rfl,g1.trans (sm.to fJ),?_⟩;rw[qc,ed,za,Jg]
 ·rintro σ H1 ⟨r,v,rfl,g1,e1⟩;rw[hz,Nat.sub_self,J6] at e1;exact⟨_,rfl,q r H1 g1 e1⟩
def qbA(K:W.Frag):Sp:=λ vs H Q _=>∃(a:Addr)(F:List Pr),vs=[.ref a]/\SqT K H a (F.map vS)/\F.flatten.length<=4000/\F.length<=2000/\(qH F).length<64/\∀ H',qg H H'->Q (vS (qH F)) H'
theorem qgJ:FnScope ["form"] ["form"] (qi vc):=scF
theorem jf(l:List Nat):(l.map λ c=>[c]).flatten=l:=by
 induction l with
 |nil=>rfl
 |cons a l ih=>rw[Qi,Z0,ih];rfl
theorem qgK{k:Nat}{f:Addr}{fd:FuncData}(F:Fun K "letters_of" "letters_of" vc f fd)(T:Txt mg):FnOk P w K mg base CX0 (k+1) f fd ["form"] (qbA K):=by
 refine F.okd qgJ (λ cdv A outer s H vs Q E hr h=>?_);obtain⟨a,F,rfl,hS,h4,h2,aI,q⟩:=h;refine⟨_,qe (qo (yL XS Yg Yh qb3 qm (qa (qD (qdi rfl) rfl T.sorted kX (qa (zd (qcG rfl) rfl T.set qgI (qa
  (yL XS Yg Yh qb3 qm (qa (pv 0) qb)) qb)) qb)) qb))),?_⟩
 rw[yU] at hS;have hz:("":Str).length=0:=by decide
 refine⟨rfl,rfl,?_⟩;refine⟨_,rfl,_,a,F.map qj,rfl,rfl,.inr hS,?_,?_⟩
 ·rw[qa2,hz];show F.flatten.length+_*0<=_;omega
 rw[qa0];refine⟨F.flatten.map λ c=>qj [c],.inr ⟨_,rfl,rfl⟩,by rw[U7];show _<4096;omega,λ l ys hl nd hm=>?_⟩;have lX:=vG (F.flatten.map λ c=>[c]);have mI:∀ x,x∈ys ↔ cs x∈qab (F.flatten.map λ c=>[c]):=λ x=>by
  rw[hm x,kM,Q3,Q3];constructor
  ·rintro⟨c,hc,rfl⟩;exact⟨c,hc,rfl⟩
  ·rintro⟨c,hc,e⟩;exact⟨c,hc,qgt e⟩
 have c5:ys.length=(qH F).length:=by
  rw[qa3 nd lX mI,<- (zU _).length_eq,y4,U7]
 refine⟨l,ys,rfl,qc,by rw[c5];exact aI,λ l2 L7=>?_⟩;rw[qhA nd lX mI,y4,yU];refine⟨_,l2,((qH F).map λ c=>[c]).map qj,rfl,rfl,.inl (SqL.of qc),?_,?_⟩
 ·rw[qa2,hz,jf];show _+_*0<=_;omega
 rw[qa0,jf];exact q _ ((qg.up hl).to L7)
def qhI(K:W.Frag):Sp:=λ vs H Q _=>∃(a:Addr)(F:List Pr)(ls:List Nat),vs=[.ref a,vS ls]/\SqT K H a (F.map vS)/\F.length<=2000/\ls.length<=9/\∀ r H',qg H H'->H' r=some (.lst ((jZ F ls).map V.bl))->Q (.ref r) H'
theorem qfH:FnScope ["form","letters","standing"] ["form","letters"] (qi qav):=scF
theorem qoJ:(["product"]:List Str).Nodup:=by decide +kernel
theorem qnQ:(["product","standing"]:List Str).Nodup:=by decide +kernel
theorem qj8(kvs:List (Key×V))(k k':Key)(v:V):(zx (yJ kvs k v) k').isSome=((zx kvs k').isSome || decide (k=k')):=by
 rw[<- ji,<- ji];unfold yJ;split
 ·rename_i h;rw[List.any_map];have e:((λ kv:Key×V=>decide (kv.1=k')) ∘ λ kv=>if kv.1=k then(kv.1,v) else kv)=λ kv=>decide (kv.1=k'):=by
   funext kv
   show decide ((if kv.1=k then(kv.1,v) else kv).1=k')=_
   split <;> rfl
  rw[e];by_cases hk:k=k'
  ·subst hk;rw[h];simp
  ·simp[hk]
 ·rw[Jo];simp
theorem qdX(k':Key):∀(ls c6:List (Key×V)),(zx (qW c6 ls) k').isSome=((zx c6 k').isSome || ls.any λ kv=>decide (kv.1=k'))
 | [],c6=>by simp[qW]
 |x::ls,c6=>by
  show(zx (qW (yJ c6 x.1 x.2) ls) k').isSome=_
  rw[qdX k' ls,qj8,Qj,Bool.or_assoc]
theorem qeL(F:List Pr)(p:Pr):(zx (qW [] (kvK (F.map λ p=>(qj p,V.bl true)))) (.inr (qj p))).isSome=F.contains p:=by
 rw[qdX];show(false || _)=_
 rw[Qk];unfold kvK;rw[Q4,List.any_map,U6,List.any_eq_true,Ya];constructor
 ·rintro⟨q,hq,e⟩;have e:(Sum.inr (qj q):Key)=.inr (qj p):=Um e;rw[<- yQ (Sum.inr.inj e)];exact hq
 ·intro hp;exact⟨p,hp,Qc rfl⟩
theorem qj9{f fp fs:Addr}{fd rM rL:FuncData}(F:Fun K "table_of" "table_of" qav f fd)(T:Txt mg)(Gp:Dp P w K mg base 1 fp rM ["letters"] qb8 "products_over")(Gs:Dp P w K mg base 10 fs rL ["truths"] (qfF K 10) "summed"):FnOk P w K mg base CX0 11 f fd ["form","letters"] (qhI K):=by
 refine F.okd qfH (λ cdv A outer s H vs Q E hr h=>?_);obtain⟨a,F,ls,rfl,hS,hF,h9,q⟩:=h;have hu:=qdC hr;have E3:Room 1 _:=hr.mono (by decide);refine⟨_,qd (qr (i:=2) qfH.nd rfl (Or.inr rfl) (zd (vO rfl) rfl T.dict qeK (qa (zz (csc (NY:=["product"]) (o:=1) (caps:=[]) [] rfl (by simp) jD rfl) rfl
   (qch (pv 0)) (λ C s H fp pins=>qt (i:=0) qoJ rfl (Or.inl rfl)) (λ C s H fp pins=>zq) (λ C s H fp pins=>zl (qa (pv 0) (qa qhh qb)))) qb)))
  (qe (qo (zi Gs.g hr rfl Gs.m Gs.e Gs.b .nil qF (qa (zz (csc (NY:=["product","standing"]) (o:=1) (caps:=[2]) ["standing"] rfl
    (by intro x hx;rw[Zq.mp hx];exact .inl rfl) (vP rfl rfl rfl jD) rfl) rfl
   (yi (zi Gp.g E3 rfl Gp.m Gp.e Gp.b .nil qF (qa (pv 1) qb))) (λ C s H fp pins=>qt (i:=0) qnQ rfl (Or.inl rfl)) (λ C s H fp pins=>zq) (λ C s H fp pins=>qme (qmo hu (pv 0) (pv 1)))) qb)))),?_⟩
 have tT:(F.map vS).length=F.length:=U7 _;refine⟨_,rfl,a,rfl,⟨_,hS⟩,?_⟩;refine jm (F.map vS).length (λ i ys H2=>∃ ps:List Addr,ys=ps.map V.ref/\Paired (λ a (kv:Str×V)=>H2 a=some (.tup [.str kv.1,kv.2])) ps ((F.take i).map λ p=>(qj p,V.bl true))) ?_ ?_ ?_ ?_ ?_
 ·intro D hD;exact⟨[],rfl,.nil⟩
 ·rintro i ys H2 hi ⟨ps,rfl,hp⟩
  have:=hp.length
  rw[U7,Uq] at this;rw[U7];rw[tT] at hi;exact zh (by omega)
 ·rintro i ys H2 D Y Z hi hD u8 sm ⟨ps,rfl,hp⟩ hY hZ;rw[tT] at hi;refine⟨⟨_,_,sm.seqT hS,X1 (by rw[tT];exact hi)⟩,?_⟩;rintro x H' ⟨rfl,p8⟩;have ex:=p8 _ (sm.seqT hS);obtain⟨p,D7,rfl⟩:=ql ex;refine⟨⟨rfl,rfl⟩,?_⟩;refine⟨_,rfl,qp (by show 2<=_;decide),λ t ht=>?_⟩;have hDt:D≠t:=qZ u8 ht;refine hY _ _ (by rw[qv hDt];exact u8) (sm.to ht) ⟨ps++[t],by rw[Jg];rfl,?_⟩;rw[q9 D7,Jg];refine zD (L2.Paired.mapP hp λ b kv e=>?_) (.cons ?_ .nil)
  ·have hbD:b≠D:=qlY e u8 (by intro z;cases z);rw[qv hbD,qv (qZ e ht)];exact e
  ·rw[qv (Vx hDt),qc]
 ·intro H2 sm;exact⟨_,sm.seqT hS,Vc _⟩
 rintro D H2 ys hD sm u8 ⟨ps,rfl,hp⟩;rw[tT,Ux] at hp;refine⟨D,ps,_,rfl,SqL.of u8,L2.Paired.mapP hp λ b kv e=>SqT.of e,λ d hd=>?_⟩;have g3:qg H (upd H2 d (.dK (qW [] (kvK (F.map λ p=>(qj p,V.bl true)))))):=sm.to hd;refine⟨_,rfl,ls,rfl,h9,λ r1 H3 g4 e3=>?_⟩;have hd3:H3 d=some (.dK (qW [] (kvK (F.map λ p=>(qj p,V.bl true))))):=g4 _ _ qc;have t8:(za ls).length<=512:=by rw[qM];exact qbb h9
 refine⟨r1,rfl,⟨_,SqL.of e3⟩,?_⟩;refine qev (SqL.of e3) (λ j=>(((za ls).map λ p=>F.contains p).take j).map V.bl) rfl (λ j hj=>?_) ?_ ?_
 ·rw[U7,Uq,U7];exact zh (by omega)
 ·intro j x H4 D2 Y Z hx eF tS sM hY hZ;obtain⟨p,D7,rfl⟩:=ql hx;refine⟨⟨rfl,rfl⟩,?_⟩;refine⟨_,rfl,_,rfl,d,_,rfl,qah.k (k:=Sum.inr (qj p)) (sM _ _ hd3),?_⟩;rw[qeL];exact hY _ _ tS sM (yP (f:=V.bl) (by rw[Zw,D7];rfl))
 ·intro D2 H4 eF sM tS;rw[U7,XN (by rw[U7];exact Vc _)] at tS;refine⟨D2,(za ls).map λ p=>F.contains p,ls.length,rfl,SqL.of tS,by rw[U7,qM],by omega,h9,λ r H5 g5 e5=>?_⟩;exact q r H5 (((g3.trans g4).trans sM).trans g5) e5
def qka(K:W.Frag):Sp:=λ vs H Q _=>∃(a:Addr)(t:List Bool)(ls:List Nat),vs=[vS ls,.ref a]/\SqL K H a (t.map V.bl)/\t.length=2^ls.length/\ls.length<=9/\ls.Nodup /\
 ∀ r H',qg H H'->H' r=some (.tup ((formOf ls t).map vS))->Q (.ref r) H'
theorem qhJ:FnScope ["letters","table","products"] ["letters","table"] (qi qbx):=scF
theorem qkb:(["product","stands"]:List Str).Nodup:=by decide +kernel
theorem qmS{α β:Type}{as:List α}{bs:List β}{i:Nat}{a:α}{b:β}(h1:as[i]?=some a)(h2:bs[i]?=some b):(as.zip bs)[i]?=some (a,b):=qaq h1 h2
theorem qbR{ss:List Str}{F:List Pr}(h:ss.map V.str=F.map vS):(qaS ss).map V.str=(srt F).map vS:=by
 have e:ss=F.map qj:=by
  rw[yU] at h;exact List.map_inj_right (λ a b e=>by injection e) |>.mp h
 subst e;unfold qaS;rw[qmI,yU]
theorem qly{f fp fs:Addr}{fd rM rL:FuncData}(F:Fun K "form_of" "form_of" qbx f fd)(T:Txt mg)(Gp:Dp P w K mg base 1 fp rM ["letters"] qb8 "products_over")(Gs:Dp P w K mg base 10 fs rL ["truths"] (qfF K 10) "summed"):FnOk P w K mg base CX0 11 f fd ["letters","table"] (qka K):=by
 refine F.okd qhJ (λ cdv A outer s H vs Q E hr h=>?_);obtain⟨a,t,ls,rfl,hS,ht,h9,nd,q⟩:=h;have E3:Room 1 _:=hr.mono (by decide);refine⟨_,qd (qr (i:=2) qhJ.nd rfl (Or.inl rfl) (zi Gp.g E3 rfl Gp.m Gp.e Gp.b .nil qF (qa (pv 0) qb)))
  (qe (qo (zd yy rfl T.tuple qba (qa (qD vT rfl T.sorted kX (qa (qaR (n:=2) (csc (NY:=["product","stands"]) (o:=2) (caps:=[]) [] rfl (by simp) jD rfl) rfl
   (qgs rfl T.zip (qa (pv 2) (qa (zi Gs.g hr rfl Gs.m Gs.e Gs.b .nil qF (qa (pv 1) qb)) qb)))
   (λ C s H fp pins=>qO (qt (i:=0) qkb rfl (Or.inl rfl)) (qO (qt (i:=1) qkb rfl (Or.inl rfl)) zY)) (λ _=>rfl) (λ _=>rfl)
   (λ C s H fp pins=>qaP (qaf (pv 1))) (λ C s H fp pins=>pv 0)) qb)) qb)))),?_⟩
 have t8:(za ls).length<=512:=by rw[qM];exact qbb h9
 refine⟨_,rfl,ls,rfl,h9,λ r1 H1 g1 e1=>?_⟩;refine⟨_,rfl,_,rfl,a,t,ls.length,rfl,g1.seq hS,ht,by omega,h9,λ r2 H2 g2 e2=>?_⟩;have f1:=g2 _ _ e1;have sl:=qP _ _ ht;refine⟨r1,r2,rfl,⟨_,SqL.of f1⟩,⟨_,SqL.of e2⟩,?_⟩;have pk:∀ i,((((za ls).zip (zb ls.length t)).take i).filterMap λ x=>if x.2=true then some x.1 else none).length<=512:=λ i=>by
  refine Qx (List.length_filterMap_le _ _) ?_;rw[Uq,Jm];omega
 refine qgA (SqL.of f1) (SqL.of e2) (by rw[U7,U7,sl,qM]) (λ i=>((((za ls).zip (zb ls.length t)).take i).filterMap λ x=>if x.2=true then some x.1 else none).map vS) rfl (λ i hi=>?_) ?_ ?_
 ·rw[U7];exact zh (Qx (pk i) (by decide))
 ·intro i x y H3 D Y Z hx hy hD N8 sm hY hZ;obtain⟨p,hp,rfl⟩:=ql hx;obtain⟨b,hb,rfl⟩:=ql hy;refine⟨_,_,rfl,_,_,rfl,rfl,⟨rfl,rfl⟩,?_⟩;refine⟨_,rfl,b,rfl,?_⟩;have ez:(((za ls).zip (zb ls.length t)).take (i+1))=((za ls).zip (zb ls.length t)).take i++[(p,b)]:=q9 (qmS hp hb);cases b with
  |true =>
   refine qbr ?_;refine⟨_,rfl,hY _ _ N8 sm ?_⟩;rw[ez,Yc,Jg];rfl
  |false =>
   refine yM ?_;refine hZ _ N8 sm ?_;rw[ez,Yc,Jg];exact U8 _
 ·intro D H3 hD sm N8;rw[XN (by rw[Jm,U7];omega)] at N8;have dI:(zS ls (zb ls.length t)).length<=512:=Qx (jX _ _).length_le t8;have hnd:((zS ls (zb ls.length t)).map qj).Nodup:=Z4.mpr ((jY _ nd).imp λ{a b} x4 e=>x4 (yQ e));refine⟨D,(zS ls (zb ls.length t)).map qj,rfl,SqL.of (by rw[<- yU];exact N8),by rw[U7];show _<4096;omega,hnd,λ l hl=>?_⟩;rw[qbR (yU _).symm];refine⟨l,_,rfl,.inl ⟨SqL.of qc,λ r N9=>?_⟩⟩;exact q r _ (((g1.trans g2).trans (sm.to hl)).to N9) qc
def qgL(K:W.Frag)(g:List Pr->List Pr->List Pr):Sp:=λ vs H Q _=>∃(a b:Addr)(F G:List Pr)(ls:List Nat),vs=[.ref a,.ref b]/\SqT K H a (F.map vS)/\SqT K H b (G.map vS)/\Ok9 ls/\On ls F/\On ls G /\
 ∀ r H',qg H H'->H' r=some (.tup ((g F G).map vS))->Q (.ref r) H'
def sp2(K:W.Frag)(g:List Pr->List Pr->List Pr):Sp:=λ vs H Q _=>∃(a b:Addr)(F G:List Pr)(ls:List Nat),vs=[.ref a,.ref b]/\SqT K H a (F.map vS)/\SqT K H b (G.map vS)/\Ok9 ls/\On ls F/\On ls G/\F.flatten.length+G.flatten.length<=4000 /\
 ∀ r H',qg H H'->H' r=some (.tup ((g F G).map vS))->Q (.ref r) H'
theorem qkc:FnScope ["one","other"] ["one","other"] (qi qeH):=scF
theorem qkd{k:Nat}{f:Addr}{fd:FuncData}(F:Fun K "added" "added" qeH f fd)(T:Txt mg):FnOk P w K mg base CX0 (k+1) f fd ["one","other"] (qgL K added):=by
 refine F.okd qkc (λ cdv A outer s H vs Q E hr h=>?_);obtain⟨a,b,F,G,ls,rfl,hF,hG,o5,oF,oG,q⟩:=h;have lF:=o5.le oF;have lG:=o5.le oG;refine⟨_,qe (qo (zd yy rfl T.tuple qba (qa (qD (qcT rfl) rfl T.sorted kX (qa (qk qjK (zd (qcG rfl) rfl T.set qgI (qa (pv 0) qb)) (zd (qcG rfl) rfl T.set qgI (qa (pv 1) qb))) qb)) qb))),?_⟩;rw[yU] at hF hG;refine⟨_,rfl,F.map qj,.inl ⟨a,rfl,.inr hF⟩,by rw[U7];show _<4096;omega,λ l1 ys h1 sV m1=>?_⟩;refine⟨_,rfl,G.map qj,.inl ⟨b,rfl,.inr ((qg.up h1).seqT hG)⟩,by rw[U7];show _<4096;omega,λ l2 zs h2 lX m2=>?_⟩;have n12:l1≠l2:=qZ qc h2;have y1:ys.length=F.length:=qa3 sV oF.vf.nodup λ x=>(m1 x).trans qa1
 have z1:zs.length=G.length:=qa3 lX oG.vf.nodup λ x=>(m2 x).trans qa1
 refine⟨l1,l2,ys,zs,rfl,rfl,by rw[qv n12,qc],qc,by omega,by omega,λ l3 us h3 wS m3=>?_⟩;have ndd:=qcp oF.vf.nodup oG.vf.nodup;have md:∀ x,x∈us ↔ cs x∈qe8 F G:=λ x=>by rw[m3 x,m1 x,m2 x,qa1,qa1,qco]
 have ld:us.length=(added F G).length:=by rw[qa3 wS ndd md];exact((zU _).length_eq).symm
 have l32:=qiv F G;refine⟨l3,us,rfl,qc,by show _<4096;omega,wS,λ l4 h4=>?_⟩;rw[qhA wS ndd md];refine⟨l4,_,rfl,.inl ⟨SqL.of qc,λ r N9=>?_⟩⟩;exact q r _ (((((qg.up h1).to h2).to h3).to h4).to N9) qc
theorem qb9:FnScope ["one","other","letters","lefts","rights"] ["one","other"] (qi j9):=scF
theorem qlz{f fl ft ff:Addr}{fd fdl fdt fdf:FuncData}(F:Fun K "multiplied" "multiplied" j9 f fd)(T:Txt mg)(Gl:Dp P w K mg base 1 fl fdl ["form"] (qbA K) "letters_of")(Gt:Dp P w K mg base 11 ft fdt ["form","letters"] (qhI K) "table_of")(Gf:Dp P w K mg base 11 ff fdf ["letters","table"] (qka K) "form_of"):FnOk P w K mg base CX0 12 f fd ["one","other"] (sp2 K mult):=by
 refine F.okd qb9 (λ cdv A outer s H vs Q E hr h=>?_);obtain⟨a,b,F,G,ls,rfl,hF,hG,o5,oF,oG,pC,q⟩:=h;have E3:Room 1 _:=hr.mono (by decide);have lF:=o5.le oF;have lG:=o5.le oG;refine⟨_,qd (qr (i:=2) qb9.nd rfl (Or.inl rfl) (zi Gl.g E3 rfl Gl.m Gl.e Gl.b .nil qF (qa (qk qjy (pv 0) (pv 1)) qb)))
  (qd (qr (i:=3) qb9.nd rfl (Or.inl rfl) (zi Gt.g hr rfl Gt.m Gt.e Gt.b .nil qF (qa (pv 0) (qa (pv 2) qb))))
  (qd (qr (i:=4) qb9.nd rfl (Or.inl rfl) (zi Gt.g hr rfl Gt.m Gt.e Gt.b .nil qF (qa (pv 1) (qa (pv 2) qb))))
  (qe (qo (zi Gf.g hr rfl Gf.m Gf.e Gf.b .nil qF (qa (pv 2) (qa (qaR (n:=2) (csc (NY:=["left","right"]) (o:=2) (caps:=[]) [] rfl (by simp) jD rfl) rfl
   (qgs rfl T.zip (qa (pv 3) (qa (pv 4) qb)))
   (λ C s H fp pins=>qO (qt (i:=0) qhH rfl (Or.inl rfl)) (qO (qt (i:=1) qhH rfl (Or.inl rfl)) zY)) (λ _=>rfl) (λ _=>rfl)
   (λ C s H fp pins=>zq) (λ C s H fp pins=>qi8 (pv 0) (qf8 (pv 1)))) qb))))))),?_⟩
 have xC:∀ p∈F++G,∀ c∈p,c∈ls:=λ p hp=>by
  rcases U5.mp hp with h|h
  ·exact oF.mem p h
  ·exact oG.mem p h
 have lle:=qfp o5.rise xC;have l5:=o5.len;have lr:=zy (F++G);have aW:(F++G).flatten.length<=4000:=by
  rw[List.flatten_append,Zj];omega
 refine⟨_,rfl,_,rfl,a,b,_,_,rfl,rfl,hF,hG,by rw[U7,U7];exact qp (by omega),λ p H1 g1 hp=>?_⟩;rw[<- Jg] at hp;refine⟨p,F++G,rfl,hp,aW,by rw[Zj];omega,by omega,λ H2 g2=>?_⟩;have L9:=g1.trans g2;refine⟨_,rfl,_,rfl,a,F,qH (F++G),rfl,L9.seqT hF,by omega,by omega,λ r1 H3 g3 e3=>?_⟩;have W1:=L9.trans g3;refine⟨_,rfl,_,rfl,b,G,qH (F++G),rfl,W1.seqT hG,by omega,by omega,λ r2 H4 g4 e4=>?_⟩;have f3:=g4 _ _ e3;have t1:=zu F (qH (F++G));have t2:=zu G (qH (F++G));have h512:2^(qH (F++G)).length<=512:=qbb (by omega);refine⟨_,rfl,_,rfl,_,rfl,r1,r2,rfl,⟨_,SqL.of f3⟩,⟨_,SqL.of e4⟩,?_⟩;refine qgA (SqL.of f3) (SqL.of e4) (by rw[U7,U7,t1,t2]) (λ i=>((List.zipWith (· && ·) (jZ F (qH (F++G))) (jZ G (qH (F++G)))).take i).map V.bl) rfl (λ i hi=>?_) ?_ ?_
 ·rw[U7,Uq];rw[U7,t1] at hi;exact zh (by omega)
 ·intro i x y H5 D Y Z hx hy hD W0 sm hY hZ;obtain⟨b1,P6,rfl⟩:=ql hx;obtain⟨b2,P5,rfl⟩:=ql hy;refine⟨_,_,rfl,_,_,rfl,rfl,⟨rfl,rfl⟩,?_⟩;refine⟨_,rfl,b1,rfl,?_⟩;have st:=yP (f:=V.bl) (qaq (f:=(· && ·)) P6 P5);cases b1 with
  |true =>
   refine qbr ?_;exact⟨_,rfl,hY _ _ W0 sm st⟩
  |false =>
   refine yM ?_;exact hY _ _ W0 sm st
 ·intro D H5 hD sm W0;rw[XN (by rw[Y2,U7];omega)] at W0;refine⟨D,_,qH (F++G),rfl,SqL.of W0,by rw[Y2,t1,t2];exact Nat.min_self _,by omega,zo Qg lr,λ r H6 g6 e6=>?_⟩;exact q r H6 (((W1.trans g4).trans sm).trans g6) e6
theorem qiC:FnScope ["one","other"] ["one","other"] (qi qc4):=scF
theorem qiD{f fa fm:Addr}{fd rN fdm:FuncData}(F:Fun K "joined" "joined" qc4 f fd)(Ga:Dp P w K mg base 1 fa rN ["one","other"] (qgL K added) "added")(Gm:Dp P w K mg base 12 fm fdm ["one","other"] (sp2 K mult) "multiplied"):FnOk P w K mg base CX0 13 f fd ["one","other"] (sp2 K join):=by
 refine F.okd qiC (λ cdv A outer s H vs Q E hr h=>?_);obtain⟨a,b,F,G,ls,rfl,hF,hG,o5,oF,oG,pC,q⟩:=h;have E3:Room 1 _:=hr.mono (by decide);refine⟨_,qe (qo (zi Ga.g E3 rfl Ga.m Ga.e Ga.b .nil qF (qa (zi Ga.g E3 rfl Ga.m Ga.e Ga.b .nil qF (qa (pv 0) (qa (pv 1) qb))) (qa (zi Gm.g hr rfl Gm.m Gm.e Gm.b .nil qF (qa (pv 0) (qa (pv 1) qb))) qb)))),?_⟩;refine⟨_,rfl,_,rfl,a,b,F,G,ls,rfl,hF,hG,o5,oF,oG,λ r1 H1 g1 e1=>?_⟩;refine⟨_,rfl,_,rfl,a,b,F,G,ls,rfl,g1.seqT hF,g1.seqT hG,o5,oF,oG,pC,λ r2 H2 g2 e2=>?_⟩;refine⟨r1,r2,_,_,ls,rfl,SqT.of (g2 _ _ e1),SqT.of e2,o5,oF.added oG,oF.mult oG,λ r H3 g3 e3=>?_⟩;exact q r H3 ((g1.trans g2).trans g3) e3
def sp1(K:W.Frag)(g:List Pr->List Pr):Sp:=λ vs H Q _=>∃(a:Addr)(F:List Pr)(ls:List Nat),vs=[.ref a]/\SqT K H a (F.map vS)/\Ok9 ls/\On ls F/\∀ r H',qg H H'->H' r=some (.tup ((g F).map vS))->Q (.ref r) H'
theorem qmT:FnScope ["form"] ["form"] (qi qau):=scF
theorem qmU{f fa al:Addr}{fd rN:FuncData}(F:Fun K "opposite" "opposite" qau f fd)(wY:mg "ALWAYS"=some (.ref al))(hal:∀ H,SqT K H al (([[]]:List Pr).map vS))(Ga:Dp P w K mg base 1 fa rN ["one","other"] (qgL K added) "added"):FnOk P w K mg base CX0 2 f fd ["form"] (sp1 K opp):=by
 refine F.okd qmT (λ cdv A outer s H vs Q E hr h=>?_);obtain⟨a,F,ls,rfl,hF,o5,oF,q⟩:=h;refine⟨_,qe (qo (zi Ga.g hr rfl Ga.m Ga.e Ga.b .nil qF (qa (pv 0) (qa (zW (v:=.ref al) rfl wY rfl) qb)))),?_⟩;refine⟨_,rfl,a,al,F,[[]],ls,rfl,hF,hal _,o5,oF,On.one ls,λ r H1 g1 e1=>?_⟩;exact q r H1 g1 e1
noncomputable def zw:List Nat:=[97,98,99,112,113,114,120,121,122]
theorem qiE:zw.Pairwise (·<·):=by decide
theorem qfI:("abcpqrxyz":Str)=qj zw:=by decide +kernel
theorem jo{ls:List Nat}{i:Nat}(h:i<ls.length):sgn (qj ls) i=vS [ls[i]]:=by
 unfold sgn;show V.str ⟨#[ls.toArray.getD i 0]⟩=V.str ⟨#[ls[i]]⟩
 rw[Xi];simp[h]
def Dv(Γ:St->Hp->Prop)(te:TE)(v:V):Prop:=∀ σ H Q,Γ σ H->(∀ H',qg H H'->Q v H')->te σ H Q
def Dt(Γ:St->Hp->Prop)(tt:TT)(b:Bool):Prop:=∀ σ H Q,Γ σ H->(∀ H',qg H H'->Q b H')->tt σ H Q
def Stb(Γ:St->Hp->Prop):Prop:=∀ σ H H',Γ σ H->qg H H'->Γ σ H'
section
variable {Γ:St->Hp->Prop}{t1 t2 t3:TE}{F G:List Pr}{ls:List Nat}{g:List Pr->List Pr->List Pr}{g1:List Pr->List Pr}
theorem qlA:([V.str ""]:List V)=([[]]:List Pr).map vS:=by
 have hz:("":Str)=qj []:=by decide +kernel
 rw[hz];rfl
theorem yh{b:Bool}(h:Dv Γ t1 (.bl b)):Dt Γ (qji t1) b:=λ σ H Q hΓ q=>h σ H _ hΓ λ H1 g1=>⟨b,rfl,q H1 g1⟩
end
def At(σ0:St)(H0:Hp):St->Hp->Prop:=λ σ H=>σ=σ0/\qg H0 H
theorem qA{σ0:St}{H0:Hp}:Stb (At σ0 H0):=λ _ _ _ h g=>⟨h.1,h.2.trans g⟩
theorem at0{σ0:St}{H0:Hp}:At σ0 H0 σ0 H0:=⟨rfl,qg.refl _⟩
section
variable {Γ:St->Hp->Prop}{t1 t2 t3:TE}
theorem k7{K:W.Frag}{σ0:St}{H0:Hp}{i:Nat}{p:Addr}{xs:List V}{n:Int}{v:V}(e:σ0[i]?=some (some (.ref p)))(h:SqT K H0 p xs)(ha:atI xs n=some v):Dv (At σ0 H0) (tOp (qnE K) (qf6 i) (tC (.int n))) v:=λ σ H Q g q =>
 ⟨_,by rw[g.1];exact e,p,xs,n,v,rfl,rfl,g.2.seqT h,ha,q H (qg.refl H)⟩
end
inductive Tr where 
 |letter (c:Nat)|one
 |zero
 |neg (t:Tr)|bin (op:Nat)(t u:Tr)
noncomputable def jz:List Nat:=[108,101,116,116,101,114]
theorem qaC:("letter":Str)=qj jz:=by decide +kernel
def zV(H:Hp):Tr->V->Prop
 |.letter c,v=>∃ a,v=.ref a/\H a=some (.tup [vS jz,vS [c]])
 |.one,v=>∃ a,v=.ref a/\H a=some (.tup [vS [49]])
 |.zero,v=>∃ a,v=.ref a/\H a=some (.tup [vS [48]])
 |.neg t,v=>∃ a x,v=.ref a/\H a=some (.tup [vS [126],x])/\zV H t x
 |.bin op t u,v=>∃ a x y,v=.ref a/\H a=some (.tup [vS [op],x,y])/\zV H t x/\zV H u y
def qY(H H':Hp):Prop:=∀ b xs,H b=some (.tup xs)->H' b=some (.tup xs)
theorem qX{H H':Hp}(g:qg H H'):qY H H':=λ _ _ e=>g _ _ e
theorem qY.updL{H:Hp}{l:Addr}{xs:List V}{o:HO}(h:H l=some (.lst xs)):qY H (upd H l o):=λ b ys e=>by
 have:b≠l:=λ q=>by rw[q,h] at e;cases e
 rw[qv this];exact e
theorem qY.trans{H H1 H2:Hp}(a:qY H H1)(b:qY H1 H2):qY H H2:=λ c xs e=>b _ _ (a _ _ e)
theorem zV.mono{H H':Hp}(g:qY H H'):∀{t:Tr}{v:V},zV H t v->zV H' t v
 |.letter c,_,⟨a,e,h⟩=>⟨a,e,g _ _ h⟩
 |.one,_,⟨a,e,h⟩=>⟨a,e,g _ _ h⟩
 |.zero,_,⟨a,e,h⟩=>⟨a,e,g _ _ h⟩
 |.neg t,_,⟨a,x,e,h,r⟩=>⟨a,x,e,g _ _ h,zV.mono g r⟩
 |.bin op t u,_,⟨a,x,y,e,h,r,r'⟩=>⟨a,x,y,e,g _ _ h,zV.mono g r,zV.mono g r'⟩
noncomputable def Tr.ht:Tr->Nat
 |.neg t=>t.ht+1
 |.bin _ t u=>max t.ht u.ht+1
 |_=>1
def Tr.Of(ls:List Nat):Tr->Prop
 |.letter c=>c∈ls
 |.neg t=>t.Of ls
 |.bin op t u=>(op=38∨op=124∨op=43)/\t.Of ls/\u.Of ls
 |_=>True
section
variable {Γ:St->Hp->Prop}{t1 t2:TE}{u1 u2:TT}
theorem qoK(st:Stb Γ){a b:Bool}(h1:Dt Γ u1 a)(h2:Dt Γ u2 b):Dt Γ (tOr u1 u2) (a || b):=λ σ H Q hΓ q=>h1 σ H _ hΓ λ H1 g1=>by
 cases a with
 |true=>exact qbr (q H1 g1)
 |false=>exact yM (h2 σ H1 _ (st _ _ _ hΓ g1) λ H2 g2=>q H2 (g1.trans g2))
theorem qnR(st:Stb Γ){a b:Bool}(h1:Dt Γ u1 a)(h2:Dt Γ u2 b):Dt Γ (qng u1 u2) (a && b):=λ σ H Q hΓ q=>h1 σ H _ hΓ λ H1 g1=>by
 cases a with
 |true=>exact qbr (h2 σ H1 _ (st _ _ _ hΓ g1) λ H2 g2=>q H2 (g1.trans g2))
 |false=>exact yM (q H1 g1)
theorem dI0(st:Stb Γ){g:Int->Int->V}{i j:Int}(h1:Dv Γ t1 (.int i))(h2:Dv Γ t2 (.int j)):Dv Γ (tOp (rI0 g) t1 t2) (g i j):=λ σ H Q hΓ q =>
 h1 σ H _ hΓ λ H1 g1=>h2 σ H1 _ (st _ _ _ hΓ g1) λ H2 g2=>⟨i,j,rfl,rfl,q H2 (g1.trans g2)⟩
theorem dIE(st:Stb Γ){i j:Int}(h1:Dv Γ t1 (.int i))(h2:Dv Γ t2 (.int j)):Dv Γ (tOp rEq t1 t2) (.bl (decide (i=j))):=λ σ H Q hΓ q =>
 h1 σ H _ hΓ λ H1 g1=>h2 σ H1 _ (st _ _ _ hΓ g1) λ H2 g2=>⟨rfl,by rw[show decide (V.int i=V.int j)=decide (i=j) by simp];exact q H2 (g1.trans g2)⟩
theorem qke(st:Stb Γ){i j:Int}(h1:Dv Γ t1 (.int i))(hj:0<j):Dv Γ (tOp (rI (λ _ j=>0<j) λ i j=>.int (i % j)) t1 (tC (.int j))) (.int (i % j)):=λ σ H Q hΓ q =>
 h1 σ H _ hΓ λ H1 g1=>⟨i,j,rfl,rfl,hj,q H1 g1⟩
theorem qmV(st:Stb Γ){i j:Int}(h1:Dv Γ t1 (.int i))(h2:Dv Γ t2 (.int j)):Dt Γ (qji (tOp (rI0 λ i j=>.bl (decide (i<j))) t1 t2)) (decide (i<j)):=yh (dI0 st h1 h2)
theorem dC{v:V}:Dv Γ (tC v) v:=λ σ H Q hΓ q=>q H (qg.refl H)
theorem dvA{σ0:St}{H0:Hp}{i:Nat}{v:V}(e:σ0[i]?=some (some v)):Dv (At σ0 H0) (qf6 i) v:=λ σ H Q g q=>⟨v,by rw[g.1];exact e,q H (qg.refl H)⟩
theorem qoL{σ0:St}{H0:Hp}{i:Nat}{p:Addr}{xs:List V}(e:σ0[i]?=some (some (.ref p)))(h:SqL K H0 p xs):Dv (At σ0 H0) (tCB (λ xs H Q=>∃ p ys,xs=[.ref p]/\(SqL K H p ys∨SqT K H p ys)/\Q (.int ys.length) H) (qaG (qf6 i) yZ)) (.int xs.length):=λ σ H Q g q =>
 ⟨.ref p,by rw[g.1];exact e,p,xs,rfl,.inl (g.2.seq h),q H (qg.refl H)⟩
theorem jK{tc:TT}{A B:TS}{D:Ends}{σ:St}{H:Hp}{b:Bool}(h:Dt Γ tc b)(hΓ:Γ σ H)(kA:b=true->∀ H',qg H H'->A D σ H')(kB:b=false->∀ H',qg H H'->B D σ H'):qnm tc A B D σ H:=h σ H _ hΓ λ H' g=>by
 cases b with
 |true=>exact qbr (kA rfl H' g)
 |false=>exact yM (kB rfl H' g)
end
noncomputable def Tr.wt:Tr->Nat
 |.neg t=>t.wt+1
 |.bin _ t u=>t.wt+u.wt
 |_=>1
theorem Tr.wt_pos:∀ t:Tr,1<=t.wt
 |.letter _=>Vc _
 |.one=>Vc _
 |.zero=>Vc _
 |.neg t=>by show 1<=t.wt+1;omega
 |.bin _ t u=>by have:=Tr.wt_pos t;show 1<=t.wt+u.wt;omega
theorem Tr.ht_wt:∀ t:Tr,t.ht<=t.wt
 |.letter _=>Vc _
 |.one=>Vc _
 |.zero=>Vc _
 |.neg t=>Nat.succ_le_succ (Tr.ht_wt t)
 |.bin _ t u=>by
  have a:=Tr.ht_wt t;have b:=Tr.ht_wt u;have c:=Tr.wt_pos t;have d:=Tr.wt_pos u;show max t.ht u.ht+1<=t.wt+u.wt
  omega
theorem Tr.ht1(t:Tr):1<=t.ht:=by cases t <;> simp[Tr.ht]
theorem Tr.wt_leaf:∀{t:Tr},t.ht=1->t.wt=1
 |.letter _,_=>rfl
 |.one,_=>rfl
 |.zero,_=>rfl
 |.neg t,h=>by have:t.ht+1=1:=h;have:=t.ht1;omega
 |.bin _ t u,h=>by have:max t.ht u.ht+1=1:=h;have:=t.ht1;omega
theorem yx{α:Type}(l:List α)(x:α):(l++[x])[(l++[x]).length-1]?=some x:=by simp
theorem qlB:("&|+":Str)=qj [38,124,43]:=by decide +kernel
theorem qoM:("|+&":Str)=qj [124,43,38]:=by decide +kernel
theorem qkf:("~":Str)=qj [126]:=by decide +kernel
theorem qhK{l:List Nat}{i:Int}(h0:0<=i)(h:i<(l.length:Int)):∃ c∈l,atI l i=some c:=by
 have hk:i.toNat<l.length:=by omega
 have:=kI (xs:=l) (j:=i.toNat) (X1 hk)
 rw[show((i.toNat:Nat):Int)=i by omega] at this;exact⟨_,Uw hk,this⟩
def Tr.Has(c:Nat):Tr->Prop
 |.letter l=>c=l
 |.neg t=>t.Has c
 |.bin _ t u=>t.Has c∨u.Has c
 |_=>False
theorem Tr.Of.has{ls:List Nat}{c:Nat}:∀{t:Tr},t.Of ls->t.Has c->c∈ls
 |.letter l,h,e=>by rw[show c=l from e];exact h
 |.neg t,h,e=>Tr.Of.has (t:=t) h e
 |.bin _ t u,h,e=>e.elim (Tr.Of.has (t:=t) h.2.1) (Tr.Of.has (t:=u) h.2.2)
 |.one,_,e=>e.elim
 |.zero,_,e=>e.elim
theorem qkg:("1":Str)=qj [49]:=by decide +kernel
theorem qgM:("0":Str)=qj [48]:=by decide +kernel
theorem qkh:("&":Str)=qj [38]:=by decide +kernel
theorem ql3:("|":Str)=qj [124]:=by decide +kernel
section
variable {Γ:St->Hp->Prop}{t1 t2:TE}
theorem qbd(st:Stb Γ){p q:List Nat}(h1:Dv Γ t1 (vS p))(h2:Dv Γ t2 (vS q)):Dv Γ (tOp rEq t1 t2) (.bl (decide (p=q))):=λ σ H Q hΓ k =>
 h1 σ H _ hΓ λ H1 g1=>h2 σ H1 _ (st _ _ _ hΓ g1) λ H2 g2=>⟨rfl,by
  have e:decide (vS p=vS q)=decide (p=q):=by
   by_cases h:p=q
   ·rw[h];simp
   ·rw[Jq h,Jq λ e=>h (qgu e)]
  rw[e];exact k H2 (g1.trans g2)⟩
theorem qhL{σ0:St}{H0:Hp}{i:Nat}{p:Addr}{xs:List V}(e:σ0[i]?=some (some (.ref p)))(h:SqT K H0 p xs):Dv (At σ0 H0) (tCB (λ xs H Q=>∃ p ys,xs=[.ref p]/\(SqL K H p ys∨SqT K H p ys)/\Q (.int ys.length) H) (qaG (qf6 i) yZ)) (.int xs.length):=λ σ H Q g q =>
 ⟨.ref p,by rw[g.1];exact e,p,xs,rfl,.inr (g.2.seqT h),q H (qg.refl H)⟩
theorem qbZ{D:Ends}{σ:St}{H:Hp}{v:V}(h:Dv Γ t1 v)(hΓ:Γ σ H)(k:∀ H',qg H H'->D.rt v H'):qmf t1 D σ H:=h σ H _ hΓ k
end
structure CA where 
 always:Addr
 never:Addr
 letter:Addr
 not:Addr
 and:Addr
 or:Addr
 either:Addr
noncomputable def CA.bin(c:CA)(op:Nat):Addr:=if op=38 then c.and else if op=124 then c.or else c.either
structure CTxt(K:W.Frag)(c:CA)(iL iN iP:Addr):Prop where
 always:Cls K c.always
 never:Cls K c.never
 letter:Cls K c.letter
 not:Cls K c.not
 and:Cls K c.and
 or:Cls K c.or
 either:Cls K c.either
 mAlways:Mk0 K c.always
 mNever:Mk0 K c.never
 mLetter:Mk K c.letter iL
 mNot:Mk K c.not iN
 mAnd:Mk K c.and iP
 mOr:Mk K c.or iP
 mEither:Mk K c.either iP
 aLetter:NoAttr K c.letter "letter"
 aNot:NoAttr K c.not "one"
 aAnd:NoAttr K c.and "one"/\NoAttr K c.and "other"
 aOr:NoAttr K c.or "one"/\NoAttr K c.or "other"
 aEither:NoAttr K c.either "one"/\NoAttr K c.either "other"
theorem CTxt.bin{K:W.Frag}{c:CA}{iL iN iP:Addr}(h:CTxt K c iL iN iP)(op:Nat):Cls K (c.bin op)/\NoAttr K (c.bin op) "one"/\NoAttr K (c.bin op) "other":=by
 unfold CA.bin;split
 ·exact⟨h.and,h.aAnd⟩
 ·split
  ·exact⟨h.or,h.aOr⟩
  ·exact⟨h.either,h.aEither⟩
def qN(c:CA)(H:Hp):Tr->V->Prop
 | .letter l,v=>∃ a dx,v=.ref a/\H a=some (.ins c.letter dx [("letter",vS [l])])
 |.one,v=>∃ a dx,v=.ref a/\H a=some (.ins c.always dx [])
 |.zero,v=>∃ a dx,v=.ref a/\H a=some (.ins c.never dx [])
 | .neg t,v=>∃ a dx x,v=.ref a/\H a=some (.ins c.not dx [("one",x)])/\qN c H t x
 | .bin op t u,v=>∃ a dx x y,v=.ref a/\H a=some (.ins (c.bin op) dx [("one",x),("other",y)])/\qN c H t x/\qN c H u y
theorem qN.mono{c:CA}{H H':Hp}(g:qg H H'):∀{t:Tr}{v:V},qN c H t v->qN c H' t v
 |.letter _,_,⟨a,dx,e,h⟩=>⟨a,dx,e,g _ _ h⟩
 |.one,_,⟨a,dx,e,h⟩=>⟨a,dx,e,g _ _ h⟩
 |.zero,_,⟨a,dx,e,h⟩=>⟨a,dx,e,g _ _ h⟩
 |.neg t,_,⟨a,dx,x,e,h,r⟩=>⟨a,dx,x,e,g _ _ h,qN.mono g r⟩
 |.bin op t u,_,⟨a,dx,x,y,e,h,r,r'⟩=>⟨a,dx,x,y,e,g _ _ h,qN.mono g r,qN.mono g r'⟩
def k4(K:W.Frag)(f:Str):Sp:=λ vs H Q _=>∃(C x dx:Addr)(y:V),vs=[.ref x,y]/\H x=some (.ins C dx [])/\Cls K C/\NoAttr K C f/\Q .non (upd H x (.ins C dx [(f,y)]))
def qeM(K:W.Frag)(f g:Str):Sp:=λ vs H Q _=>∃(C x dx:Addr)(y z:V),vs=[.ref x,y,z]/\H x=some (.ins C dx [])/\Cls K C/\NoAttr K C f/\NoAttr K C g/\Q .non (upd (upd H x (.ins C dx [(f,y)])) x (.ins C dx [(f,y),(g,z)]))
theorem qki:FnScope ["self","letter"] ["self","letter"] (qi jE):=scF
theorem qkj:FnScope ["self","one"] ["self","one"] (qi qax):=scF
theorem qkk:FnScope ["self","one","other"] ["self","one","other"] (qi vZ):=scF
theorem qkl{k:Nat}{f:Addr}{fd:FuncData}(F:Fun K "__init__" "Letter.__init__" jE f fd):FnOk P w K mg base CX0 (k+1) f fd ["self","letter"] (k4 K "letter"):=by
 refine F.okd qki (λ cdv A outer s H vs Q E hr h=>?_);obtain⟨C,x,dx,y,rfl,hx,c,n,q⟩:=h;refine⟨_,qe (jS (pv 0) (pv 1) rfl),?_⟩;exact⟨_,rfl,_,rfl,x,C,dx,[],rfl,hx,c,n,by decide,q⟩
theorem qkm{k:Nat}{f:Addr}{fd:FuncData}(F:Fun K "__init__" "Not.__init__" qax f fd):FnOk P w K mg base CX0 (k+1) f fd ["self","one"] (k4 K "one"):=by
 refine F.okd qkj (λ cdv A outer s H vs Q E hr h=>?_);obtain⟨C,x,dx,y,rfl,hx,c,n,q⟩:=h;refine⟨_,qe (jS (pv 0) (pv 1) rfl),?_⟩;exact⟨_,rfl,_,rfl,x,C,dx,[],rfl,hx,c,n,by decide,q⟩
theorem qkn{k:Nat}{f:Addr}{fd:FuncData}(F:Fun K "__init__" "Pair.__init__" vZ f fd):FnOk P w K mg base CX0 (k+1) f fd ["self","one","other"] (qeM K "one" "other"):=by
 refine F.okd qkk (λ cdv A outer s H vs Q E hr h=>?_);obtain⟨C,x,dx,y,z,rfl,hx,c,n,n2,q⟩:=h;refine⟨_,qd (jS (pv 0) (pv 1) rfl) (qe (jS (pv 0) (pv 2) rfl)),?_⟩;exact⟨_,rfl,_,rfl,x,C,dx,[],rfl,hx,c,n,by decide,_,rfl,_,rfl,x,C,dx,_,rfl,qc,c,n2,by show 1<1000;decide,q⟩
noncomputable def Tr.text:Tr->List Nat
 |.letter c=>[c]
 |.one=>[49]
 |.zero=>[48]
 |.neg t=>[126]++t.text
 |.bin op t u=>[40]++t.text++[op]++u.text++[41]
noncomputable def Tr.nodes:Tr->Int
 |.neg t=>1+t.nodes
 |.bin _ t u=>1+t.nodes+u.nodes
 |_=>1
noncomputable def Tr.lets:Tr->List Nat
 |.letter c=>[c]
 |.neg t=>t.lets
 |.bin _ t u=>uni t.lets u.lets
 |_=>[]
theorem Tr.text_len':∀ t:Tr,t.text.length+3<=4*t.wt
 |.letter _=>by show 1+3<=4*1;decide
 |.one=>by show 1+3<=4*1;decide
 |.zero=>by show 1+3<=4*1;decide
 |.neg t=>by
  have:=Tr.text_len' t
  show([126]++t.text).length+3<=4*(t.wt+1)
  rw[Zj,XY];omega
 |.bin op t u=>by
  have h1:=Tr.text_len' t;have h2:=Tr.text_len' u;show([40]++t.text++[op]++u.text++[41]).length+3<=4*(t.wt+u.wt)
  simp only[Zj,XY];omega
theorem Tr.text_len:∀ t:Tr,t.text.length<=4*t.wt
 |.letter _=>by show 1<=4*1;decide
 |.one=>by show 1<=4*1;decide
 |.zero=>by show 1<=4*1;decide
 |.neg t=>by
  have:=Tr.text_len t
  show([126]++t.text).length<=4*(t.wt+1)
  rw[Zj,XY];omega
 |.bin op t u=>by
  have h1:=Tr.text_len' t;have h2:=Tr.text_len' u;show([40]++t.text++[op]++u.text++[41]).length<=4*(t.wt+u.wt)
  simp only[Zj,XY];omega
theorem qlC(p q:List Nat):(uni p q).length<=p.length+q.length:=by
 rw[<- Zj];exact jI (m:=p++q) (zo Qg (zy _)) λ c hc=>U5.mpr (qhF.mp hc)
theorem Tr.lets_len:∀ t:Tr,t.lets.length<=t.wt
 |.letter _=>Vc _
 |.one=>Vd _
 |.zero=>Vd _
 |.neg t=>Ua (Tr.lets_len t)
 |.bin op t u=>Qx (qlC _ _) (Nat.add_le_add (Tr.lets_len t) (Tr.lets_len u))
theorem Tr.lets_rise:∀ t:Tr,t.lets.Pairwise (·<·)
 |.letter _=>by simp[Tr.lets]
 |.one=>by simp[Tr.lets]
 |.zero=>by simp[Tr.lets]
 |.neg t=>Tr.lets_rise t
 |.bin op t u=>zy _
theorem Tr.mem_lets{c:Nat}:∀ t:Tr,c∈t.lets ↔ t.Has c
 |.letter _=>Zq
 |.one=>⟨λ h=>(by cases h),λ h=>h.elim⟩
 |.zero=>⟨λ h=>(by cases h),λ h=>h.elim⟩
 |.neg t=>Tr.mem_lets t
 |.bin op t u=>qhF.trans (or_congr (Tr.mem_lets t) (Tr.mem_lets u))
def kA(t:Tr):Prop:=t=.one
def kN(t:Tr):Prop:=t=.zero
def kL(t:Tr):Prop:=∃ l,t=.letter l
def kO(t:Tr):Prop:=∃ u,t=.neg u
def kD(t:Tr):Prop:=∃ u v,t=.bin 38 u v
def kR(t:Tr):Prop:=∃ u v,t=.bin 124 u v
def kE(t:Tr):Prop:=∃ u v,t=.bin 43 u v
def kP(t:Tr):Prop:=∃ op u v,t=.bin op u v
def spV(f:Tr->V)(c:CA)(n:Nat)(κ:Tr->Prop):Sp:=λ vs H Q _=>∃(o:V)(t:Tr),vs=[o]/\qN c H t o/\t.ht<=n/\t.wt<=1000/\t.Of zw/\κ t/\∀ H',qg H H'->Q (f t) H'
abbrev tV(f:Tr->V)(c:CA)(n:Nat)(m:Str)(κd κr κe:Tr->Prop)(te:TE):TE:=(λ σ H Q=>yp c.always m (spV f c n kA) [] E0 te yZ σ H Q∨(λ σ H Q=>yp c.never m (spV f c n kN) [] E0 te yZ σ H Q∨(λ σ H Q=>yp c.letter m (spV f c n kL) [] E0 te yZ σ H Q∨(λ σ H Q=>yp c.not m (spV f c n kO) [] E0 te yZ σ H Q∨(λ σ H Q=>yp c.and m (spV f c n κd) [] E0 te yZ σ H Q∨(λ σ H Q=>yp c.or m (spV f c n κr) [] E0 te yZ σ H Q∨yp c.either m (spV f c n κe) [] E0 te yZ σ H Q) σ H Q) σ H Q) σ H Q) σ H Q) σ H Q)
theorem dV{f:Tr->V}{n:Nat}{m:Str}{κd κr κe:Tr->Prop}{c:CA}{σ0:St}{H0:Hp}{te:TE}{o:V}{t:Tr}(hl:∀ x y:V,List.lookup m [(("letter":Str),x)]=none/\List.lookup m [(("one":Str),x)]=none/\List.lookup m [(("one":Str),x),(("other":Str),y)]=none)(hd:∀ u v,κd (.bin 38 u v))(hr:∀ u v,κr (.bin 124 u v))(he:∀ u v,κe (.bin 43 u v))(h1:Dv (At σ0 H0) te o)(ob:qN c H0 t o)(ht:t.ht<=n)(hw:t.wt<=1000)(of:t.Of zw):
  Dv (At σ0 H0) (tV f c n m κd κr κe te) (f t):=by
 intro σ H Q hΓ q;have go:∀(κ:Tr->Prop)(C:Addr)(a dx:Addr)(fs:List (Str×V)),κ t->o=.ref a->H0 a=some (.ins C dx fs)->fs.lookup m=none->yp C m (spV f c n κ) [] E0 te yZ σ H Q:=λ κ C a dx fs hκ eo ha hl =>
  h1 σ H _ hΓ λ H1 g1=>⟨a,dx,fs,eo,(hΓ.2.trans g1) _ _ ha,hl,o,t,rfl,ob.mono (hΓ.2.trans g1),ht,hw,of,hκ,λ H' g=>q H' (g1.trans g)⟩
 cases t with
 |one=>obtain⟨a,dx,e,h⟩:=ob;exact .inl (go kA _ a dx _ rfl e h rfl)
 |zero=>obtain⟨a,dx,e,h⟩:=ob;exact .inr (.inl (go kN _ a dx _ rfl e h rfl))
 |letter l=>obtain⟨a,dx,e,h⟩:=ob;exact .inr (.inr (.inl (go kL _ a dx _ ⟨l,rfl⟩ e h (hl _ .non).1)))
 |neg u=>obtain⟨a,dx,x,e,h,_⟩:=ob;exact .inr (.inr (.inr (.inl (go kO _ a dx _ ⟨u,rfl⟩ e h (hl _ .non).2.1))))
 |bin op u v =>
  obtain⟨a,dx,x,y,e,h,_⟩:=ob;rcases of.1 with rfl|rfl|rfl
  ·exact .inr (.inr (.inr (.inr (.inl (go κd _ a dx _ (hd u v) e h (hl _ _).2.2)))))
  ·exact .inr (.inr (.inr (.inr (.inr (.inl (go κr _ a dx _ (hr u v) e h (hl _ _).2.2))))))
  ·exact .inr (.inr (.inr (.inr (.inr (.inr (go κe _ a dx _ (he u v) e h (hl _ _).2.2))))))
structure MTxt(K:W.Frag)(c:CA)(m:Str)(fA fN fL fO fD fR fE:Addr):Prop where
 always:Meth K c.always m fA
 never:Meth K c.never m fN
 letter:Meth K c.letter m fL
 not:Meth K c.not m fO
 and:Meth K c.and m fD
 or:Meth K c.or m fR
 either:Meth K c.either m fE
structure VOk(P:Program)(w:World)(K:W.Frag)(mg:Str->Option Value)(base:Heap)(f:Tr->V)(c:CA)(n:Nat)(κd κr κe:Tr->Prop)(fA fN fL fO fD fR fE:Addr)(dA dN dL dO dD dR dE:FuncData):Prop where
 always:FnOk P w K mg base CX0 n fA dA ["self"] (spV f c n kA)
 never:FnOk P w K mg base CX0 n fN dN ["self"] (spV f c n kN)
 letter:FnOk P w K mg base CX0 n fL dL ["self"] (spV f c n kL)
 not:FnOk P w K mg base CX0 n fO dO ["self"] (spV f c n kO)
 and:FnOk P w K mg base CX0 n fD dD ["self"] (spV f c n κd)
 or:FnOk P w K mg base CX0 n fR dR ["self"] (spV f c n κr)
 either:FnOk P w K mg base CX0 n fE dE ["self"] (spV f c n κe)
theorem k8{X:Cx}{f:Tr->V}{c:CA}{n:Nat}{m:Str}{κd κr κe:Tr->Prop}{iL iN iP fA fN fL fO fD fR fE:Addr}{dA dN dL dO dD dR dE:FuncData}{o:Expr}{ta:TE}{apos pos:Pos}{pl:Sem Bool}(he:PE X o ta)(C:CTxt X.K c iL iN iP)(M:MTxt X.K c m fA fN fL fO fD fR fE)(G:VOk X.prog X.w X.K X.mg X.base f c n κd κr κe fA fN fL fO fD fR fE dA dN dL dO dD dR dE)(hr:Room n X.A)(bA:qh X.K dA ["self"] [])(bN:qh X.K dN ["self"] [])(bL:qh X.K dL ["self"] [])(bO:qh X.K dO ["self"] [])(bD:qh X.K dD ["self"] [])(bR:qh X.K dR ["self"] [])(bE:qh X.K dE ["self"] [])(ht:eval (.Call (.Attribute o m apos) [] [] pos) X.env=(do
   let ov <- eval o X.env
   standAt apos.atName
   let (f,first) <- holding [ov] (getMethod ov m pl)
   callWith pos f first (backTo pos (starEach [] X.env)) (backToKw pos (keywordEach [] X.env))):=by rfl):PE X (.Call (.Attribute o m apos) [] [] pos) (tV f c n m κd κr κe ta):=
 PE.or (qE he C.always M.always G.always hr bA .nil qF ht) (PE.or (qE he C.never M.never G.never hr bN .nil qF ht) (PE.or (qE he C.letter M.letter G.letter hr bL .nil qF ht) (PE.or (qE he C.not M.not G.not hr bO .nil qF ht) (PE.or (qE he C.and M.and G.and hr bD .nil qF ht) (PE.or (qE he C.or M.or G.or hr bR .nil qF ht) (qE he C.either M.either G.either hr bE .nil qF ht))))))
theorem vn{σ0:St}{H0:Hp}{a C dx:Addr}{fs:List (Str×V)}{f:Str}{v:V}(e:σ0[0]?=some (some (.ref a)))(h:H0 a=some (.ins C dx fs))(c:Cls K C)(n:NoAttr K C f)(l:fs.lookup f=some v):Dv (At σ0 H0) (qnu K (qf6 0) f) v:=λ σ H Q g q =>
 ⟨.ref a,by rw[g.1];exact e,a,C,dx,fs,v,rfl,g.2 _ _ h,c,n,l,q H (qg.refl H)⟩
theorem ya{Γ:St->Hp->Prop}{t1 t2:TE}(st:Stb Γ){p q:List Nat}(h1:Dv Γ t1 (vS p))(h2:Dv Γ t2 (vS q))(hl:p.length+q.length<=100000):Dv Γ (tOp rAS t1 t2) (vS (p++q)):=λ σ H Q hΓ k =>
 h1 σ H _ hΓ λ H1 g1=>h2 σ H1 _ (st _ _ _ hΓ g1) λ H2 g2=>⟨qj p,qj q,rfl,rfl,by rw[qu,qu];exact qp hl,by rw[zv];exact k H2 (g1.trans g2)⟩
theorem qbB:("(":Str)=qj [40]:=by decide +kernel
theorem vo:(")":Str)=qj [41]:=by decide +kernel
theorem qko:("+":Str)=qj [43]:=by decide +kernel
theorem qmW:("":Str)=qj []:=by decide +kernel
noncomputable abbrev zP(t:Tr):V:=vS t.text
noncomputable abbrev vSz(t:Tr):V:=.int t.nodes
theorem qdm:FnScope ["self"] ["self"] (qi yA):=scF
theorem qeN:FnScope ["self"] ["self"] (qi y7):=scF
theorem qdn:FnScope ["self"] ["self"] (qi yD):=scF
theorem qgN:FnScope ["self"] ["self"] (qi vd):=scF
theorem qgO:FnScope ["self"] ["self"] (qi vh):=scF
theorem qiF:FnScope ["self"] ["self"] (qi kU):=scF
theorem qdo:FnScope ["self"] ["self"] (qi yG):=scF
theorem qdp:FnScope ["self"] ["self"] (qi yB):=scF
theorem qeO:FnScope ["self"] ["self"] (qi y8):=scF
theorem qdq:FnScope ["self"] ["self"] (qi yE):=scF
theorem qgP:FnScope ["self"] ["self"] (qi ve):=scF
theorem qfJ:FnScope ["self"] ["self"] (qi jy):=scF
section
variable {c:CA}{iL iN iP fA fN fL fO fD fR fE fP:Addr}{dA dN dL dO dD dR dE dP:FuncData}{n:Nat}
theorem qfK(F:Fun K "text" "Always.text" yA fA dA):FnOk P w K mg base CX0 (n+1) fA dA ["self"] (spV zP c (n+1) kA):=by
 refine F.okd qdm (λ cdv A outer s H vs Q E hr h=>?_);obtain⟨o,t,rfl,ob,ht,hw,of,rfl,q⟩:=h;refine⟨_,qe (qo qm),?_⟩;rw[qkg];exact q H (qg.refl H)
theorem qgQ(F:Fun K "text" "Never.text" y7 fN dN):FnOk P w K mg base CX0 (n+1) fN dN ["self"] (spV zP c (n+1) kN):=by
 refine F.okd qeN (λ cdv A outer s H vs Q E hr h=>?_);obtain⟨o,t,rfl,ob,ht,hw,of,rfl,q⟩:=h;refine⟨_,qe (qo qm),?_⟩;rw[qgM];exact q H (qg.refl H)
theorem qfL(C:CTxt K c iL iN iP)(F:Fun K "text" "Letter.text" yD fL dL):FnOk P w K mg base CX0 (n+1) fL dL ["self"] (spV zP c (n+1) kL):=by
 refine F.okd qdn (λ cdv A outer s H vs Q E hr h=>?_);obtain⟨o,t,rfl,ob,ht,hw,of,⟨l,rfl⟩,q⟩:=h;refine⟨_,qe (qo (ze (pv 0) (by rfl))),?_⟩;obtain⟨a,dx,rfl,h⟩:=ob;exact qbZ (vn (K:=K) rfl h C.letter C.aLetter rfl) at0 q
theorem qkp(C:CTxt K c iL iN iP)(M:MTxt K c "text" fA fN fL fO fD fR fE)(G:VOk P w K mg base zP c n kD kR kE fA fN fL fO fD fR fE dA dN dL dO dD dR dE)(bA:qh K dA ["self"] [])(bN:qh K dN ["self"] [])(bL:qh K dL ["self"] [])(bO:qh K dO ["self"] [])(bD:qh K dD ["self"] [])(bR:qh K dR ["self"] [])(bE:qh K dE ["self"] [])(F:Fun K "text" "Not.text" vd fO dO):FnOk P w K mg base CX0 (n+1) fO dO ["self"] (spV zP c (n+1) kO):=by
 refine F.okd qgN (λ cdv A outer s H vs Q E hr h=>?_);obtain⟨o,t,rfl,ob,ht,hw,of,⟨u,rfl⟩,q⟩:=h;have iD:u.wt+1<=1000:=hw;refine⟨_,qe (qo (qk qz qm (k8 (ze (pv 0) (by rfl)) C M G hr bA bN bL bO bD bR bE))),?_⟩;rw[qkf];obtain⟨a,dx,x,rfl,h,ou⟩:=ob;exact qbZ (ya qA dC (dV (f:=zP) (n:=n) (κd:=kD) (κr:=kR) (κe:=kE) (λ _ _=>⟨rfl,rfl,rfl⟩) (λ _ _=>⟨_,_,rfl⟩) (λ _ _=>⟨_,_,rfl⟩) (λ _ _=>⟨_,_,rfl⟩) (vn rfl h C.not C.aNot rfl) ou (XT ht) (by omega) of) (by have:=u.text_len;rw[XY];omega)) at0 q
theorem qkq(C:CTxt K c iL iN iP)(M:MTxt K c "text" fA fN fL fO fD fR fE)(G:VOk P w K mg base zP c n kD kR kE fA fN fL fO fD fR fE dA dN dL dO dD dR dE)(bA:qh K dA ["self"] [])(bN:qh K dN ["self"] [])(bL:qh K dL ["self"] [])(bO:qh K dO ["self"] [])(bD:qh K dD ["self"] [])(bR:qh K dR ["self"] [])(bE:qh K dE ["self"] [])(F:Fun K "text" "And.text" vh fD dD):FnOk P w K mg base CX0 (n+1) fD dD ["self"] (spV zP c (n+1) kD):=by
 refine F.okd qgO (λ cdv A outer s H vs Q E hr h=>?_);obtain⟨o,t,rfl,ob,ht,hw,of,⟨u,v,rfl⟩,q⟩:=h;refine⟨_,qe (qo (qk qz (qk qz (qk qz (qk qz qm (k8 (ze (pv 0) (by rfl)) C M G hr bA bN bL bO bD bR bE)) qm) (k8 (ze (pv 0) (by rfl)) C M G hr bA bN bL bO bD bR bE)) qm)),?_⟩;rw[qbB,vo,qkh];obtain⟨a,dx,x,y,rfl,h,ou,ov⟩:=ob;obtain⟨wI,fu,fv⟩:=of;have hm:max u.ht v.ht<=n:=XT ht;have iD:u.wt+v.wt<=1000:=hw;obtain⟨cB,n1,n2⟩:=C.bin 38;have l1:=u.text_len;have l2:=v.text_len;exact qbZ (ya qA (ya qA (ya qA (ya qA dC (dV (f:=zP) (n:=n) (κd:=kD) (κr:=kR) (κe:=kE) (λ _ _=>⟨rfl,rfl,rfl⟩) (λ _ _=>⟨_,_,rfl⟩) (λ _ _=>⟨_,_,rfl⟩) (λ _ _=>⟨_,_,rfl⟩) (vn rfl h cB n1 rfl) ou (by omega) (by omega) fu) (by rw[XY];omega)) dC (by simp only[Zj,XY];omega)) (dV (f:=zP) (n:=n) (κd:=kD) (κr:=kR) (κe:=kE) (λ _ _=>⟨rfl,rfl,rfl⟩) (λ _ _=>⟨_,_,rfl⟩) (λ _ _=>⟨_,_,rfl⟩) (λ _ _=>⟨_,_,rfl⟩) (vn rfl h cB n2 rfl) ov (by omega) (by omega) fv) (by simp only[Zj,XY];omega)) dC (by simp only[Zj,XY];omega)) at0 q
theorem qlD(C:CTxt K c iL iN iP)(M:MTxt K c "text" fA fN fL fO fD fR fE)(G:VOk P w K mg base zP c n kD kR kE fA fN fL fO fD fR fE dA dN dL dO dD dR dE)(bA:qh K dA ["self"] [])(bN:qh K dN ["self"] [])(bL:qh K dL ["self"] [])(bO:qh K dO ["self"] [])(bD:qh K dD ["self"] [])(bR:qh K dR ["self"] [])(bE:qh K dE ["self"] [])(F:Fun K "text" "Or.text" kU fR dR):FnOk P w K mg base CX0 (n+1) fR dR ["self"] (spV zP c (n+1) kR):=by
 refine F.okd qiF (λ cdv A outer s H vs Q E hr h=>?_);obtain⟨o,t,rfl,ob,ht,hw,of,⟨u,v,rfl⟩,q⟩:=h;refine⟨_,qe (qo (qk qz (qk qz (qk qz (qk qz qm (k8 (ze (pv 0) (by rfl)) C M G hr bA bN bL bO bD bR bE)) qm) (k8 (ze (pv 0) (by rfl)) C M G hr bA bN bL bO bD bR bE)) qm)),?_⟩;rw[qbB,vo,ql3];obtain⟨a,dx,x,y,rfl,h,ou,ov⟩:=ob;obtain⟨wI,fu,fv⟩:=of;have hm:max u.ht v.ht<=n:=XT ht;have iD:u.wt+v.wt<=1000:=hw;obtain⟨cB,n1,n2⟩:=C.bin 124;have l1:=u.text_len;have l2:=v.text_len;exact qbZ (ya qA (ya qA (ya qA (ya qA dC (dV (f:=zP) (n:=n) (κd:=kD) (κr:=kR) (κe:=kE) (λ _ _=>⟨rfl,rfl,rfl⟩) (λ _ _=>⟨_,_,rfl⟩) (λ _ _=>⟨_,_,rfl⟩) (λ _ _=>⟨_,_,rfl⟩) (vn rfl h cB n1 rfl) ou (by omega) (by omega) fu) (by rw[XY];omega)) dC (by simp only[Zj,XY];omega)) (dV (f:=zP) (n:=n) (κd:=kD) (κr:=kR) (κe:=kE) (λ _ _=>⟨rfl,rfl,rfl⟩) (λ _ _=>⟨_,_,rfl⟩) (λ _ _=>⟨_,_,rfl⟩) (λ _ _=>⟨_,_,rfl⟩) (vn rfl h cB n2 rfl) ov (by omega) (by omega) fv) (by simp only[Zj,XY];omega)) dC (by simp only[Zj,XY];omega)) at0 q
theorem qfM(C:CTxt K c iL iN iP)(M:MTxt K c "text" fA fN fL fO fD fR fE)(G:VOk P w K mg base zP c n kD kR kE fA fN fL fO fD fR fE dA dN dL dO dD dR dE)(bA:qh K dA ["self"] [])(bN:qh K dN ["self"] [])(bL:qh K dL ["self"] [])(bO:qh K dO ["self"] [])(bD:qh K dD ["self"] [])(bR:qh K dR ["self"] [])(bE:qh K dE ["self"] [])(F:Fun K "text" "Either.text" yG fE dE):FnOk P w K mg base CX0 (n+1) fE dE ["self"] (spV zP c (n+1) kE):=by
 refine F.okd qdo (λ cdv A outer s H vs Q E hr h=>?_);obtain⟨o,t,rfl,ob,ht,hw,of,⟨u,v,rfl⟩,q⟩:=h;refine⟨_,qe (qo (qk qz (qk qz (qk qz (qk qz qm (k8 (ze (pv 0) (by rfl)) C M G hr bA bN bL bO bD bR bE)) qm) (k8 (ze (pv 0) (by rfl)) C M G hr bA bN bL bO bD bR bE)) qm)),?_⟩;rw[qbB,vo,qko];obtain⟨a,dx,x,y,rfl,h,ou,ov⟩:=ob;obtain⟨wI,fu,fv⟩:=of;have hm:max u.ht v.ht<=n:=XT ht;have iD:u.wt+v.wt<=1000:=hw;obtain⟨cB,n1,n2⟩:=C.bin 43;have l1:=u.text_len;have l2:=v.text_len;exact qbZ (ya qA (ya qA (ya qA (ya qA dC (dV (f:=zP) (n:=n) (κd:=kD) (κr:=kR) (κe:=kE) (λ _ _=>⟨rfl,rfl,rfl⟩) (λ _ _=>⟨_,_,rfl⟩) (λ _ _=>⟨_,_,rfl⟩) (λ _ _=>⟨_,_,rfl⟩) (vn rfl h cB n1 rfl) ou (by omega) (by omega) fu) (by rw[XY];omega)) dC (by simp only[Zj,XY];omega)) (dV (f:=zP) (n:=n) (κd:=kD) (κr:=kR) (κe:=kE) (λ _ _=>⟨rfl,rfl,rfl⟩) (λ _ _=>⟨_,_,rfl⟩) (λ _ _=>⟨_,_,rfl⟩) (λ _ _=>⟨_,_,rfl⟩) (vn rfl h cB n2 rfl) ov (by omega) (by omega) fv) (by simp only[Zj,XY];omega)) dC (by simp only[Zj,XY];omega)) at0 q
theorem qfN(F:Fun K "size" "Always.size" yB fA dA):FnOk P w K mg base CX0 (n+1) fA dA ["self"] (spV vSz c (n+1) kA):=by
 refine F.okd qdp (λ cdv A outer s H vs Q E hr h=>?_);obtain⟨o,t,rfl,ob,ht,hw,of,rfl,q⟩:=h;refine⟨_,qe (qo qf),?_⟩;exact q H (qg.refl H)
theorem qgR(F:Fun K "size" "Never.size" y8 fN dN):FnOk P w K mg base CX0 (n+1) fN dN ["self"] (spV vSz c (n+1) kN):=by
 refine F.okd qeO (λ cdv A outer s H vs Q E hr h=>?_);obtain⟨o,t,rfl,ob,ht,hw,of,rfl,q⟩:=h;refine⟨_,qe (qo qf),?_⟩;exact q H (qg.refl H)
theorem qfO(F:Fun K "size" "Letter.size" yE fL dL):FnOk P w K mg base CX0 (n+1) fL dL ["self"] (spV vSz c (n+1) kL):=by
 refine F.okd qdq (λ cdv A outer s H vs Q E hr h=>?_);obtain⟨o,t,rfl,ob,ht,hw,of,⟨l,rfl⟩,q⟩:=h;exact⟨_,qe (qo qf),q H (qg.refl H)⟩
theorem qkr(C:CTxt K c iL iN iP)(M:MTxt K c "size" fA fN fL fO fD fR fE)(G:VOk P w K mg base vSz c n kP kP kP fA fN fL fO fD fR fE dA dN dL dO dD dR dE)(bA:qh K dA ["self"] [])(bN:qh K dN ["self"] [])(bL:qh K dL ["self"] [])(bO:qh K dO ["self"] [])(bD:qh K dD ["self"] [])(bR:qh K dR ["self"] [])(bE:qh K dE ["self"] [])(F:Fun K "size" "Not.size" ve fO dO):FnOk P w K mg base CX0 (n+1) fO dO ["self"] (spV vSz c (n+1) kO):=by
 refine F.okd qgP (λ cdv A outer s H vs Q E hr h=>?_);obtain⟨o,t,rfl,ob,ht,hw,of,⟨u,rfl⟩,q⟩:=h;have iD:u.wt+1<=1000:=hw;refine⟨_,qe (qo (qk yj qf (k8 (ze (pv 0) (by rfl)) C M G hr bA bN bL bO bD bR bE))),?_⟩;obtain⟨a,dx,x,rfl,h,ou⟩:=ob;exact qbZ (dI0 qA dC (dV (f:=vSz) (n:=n) (κd:=kP) (κr:=kP) (κe:=kP) (λ _ _=>⟨rfl,rfl,rfl⟩) (λ _ _=>⟨_,_,_,rfl⟩) (λ _ _=>⟨_,_,_,rfl⟩) (λ _ _=>⟨_,_,_,rfl⟩) (vn rfl h C.not C.aNot rfl) ou (XT ht) (by omega) of)) at0 q
theorem qbC(C:CTxt K c iL iN iP)(M:MTxt K c "size" fA fN fL fO fD fR fE)(G:VOk P w K mg base vSz c n kP kP kP fA fN fL fO fD fR fE dA dN dL dO dD dR dE)(bA:qh K dA ["self"] [])(bN:qh K dN ["self"] [])(bL:qh K dL ["self"] [])(bO:qh K dO ["self"] [])(bD:qh K dD ["self"] [])(bR:qh K dR ["self"] [])(bE:qh K dE ["self"] [])(F:Fun K "size" "Pair.size" jy fP dP):FnOk P w K mg base CX0 (n+1) fP dP ["self"] (spV vSz c (n+1) kP):=by
 refine F.okd qfJ (λ cdv A outer s H vs Q E hr h=>?_);obtain⟨o,t,rfl,ob,ht,hw,of,⟨op,u,v,rfl⟩,q⟩:=h;refine⟨_,qe (qo (qk yj (qk yj qf (k8 (ze (pv 0) (by rfl)) C M G hr bA bN bL bO bD bR bE)) (k8 (ze (pv 0) (by rfl)) C M G hr bA bN bL bO bD bR bE))),?_⟩;obtain⟨a,dx,x,y,rfl,h,ou,ov⟩:=ob;obtain⟨wI,fu,fv⟩:=of;have hm:max u.ht v.ht<=n:=XT ht;have iD:u.wt+v.wt<=1000:=hw;obtain⟨cB,n1,n2⟩:=C.bin op;exact qbZ (dI0 qA (dI0 qA dC (dV (f:=vSz) (n:=n) (κd:=kP) (κr:=kP) (κe:=kP) (λ _ _=>⟨rfl,rfl,rfl⟩) (λ _ _=>⟨_,_,_,rfl⟩) (λ _ _=>⟨_,_,_,rfl⟩) (λ _ _=>⟨_,_,_,rfl⟩) (vn rfl h cB n1 rfl) ou (by omega) (by omega) fu)) (dV (f:=vSz) (n:=n) (κd:=kP) (κr:=kP) (κe:=kP) (λ _ _=>⟨rfl,rfl,rfl⟩) (λ _ _=>⟨_,_,_,rfl⟩) (λ _ _=>⟨_,_,_,rfl⟩) (λ _ _=>⟨_,_,_,rfl⟩) (vn rfl h cB n2 rfl) ov (by omega) (by omega) fv)) at0 q
theorem yk{f:Tr->V}{κ:Tr->Prop}{g:Addr}{fd:FuncData}:FnOk P w K mg base CX0 0 g fd ["self"] (spV f c 0 κ):=
 ⟨λ vs H Q E h=>by obtain⟨_,t,_,_,h,_⟩:=h;have:=t.ht1;omega,λ A outer s H args us vs Q E _ _ _ _ h=>by obtain⟨_,t,_,_,h,_⟩:=h;have:=t.ht1;omega⟩
theorem qfP(C:CTxt K c iL iN iP)(M:MTxt K c "text" fA fN fL fO fD fR fE)(bA:qh K dA ["self"] [])(bN:qh K dN ["self"] [])(bL:qh K dL ["self"] [])(bO:qh K dO ["self"] [])(bD:qh K dD ["self"] [])(bR:qh K dR ["self"] [])(bE:qh K dE ["self"] [])(FA:Fun K "text" "Always.text" yA fA dA)(FN:Fun K "text" "Never.text" y7 fN dN)(FL:Fun K "text" "Letter.text" yD fL dL)(FO:Fun K "text" "Not.text" vd fO dO)(FD:Fun K "text" "And.text" vh fD dD)(FR:Fun K "text" "Or.text" kU fR dR)(FE:Fun K "text" "Either.text" yG fE dE):
  ∀ n,VOk P w K mg base zP c n kD kR kE fA fN fL fO fD fR fE dA dN dL dO dD dR dE
 |0=>⟨yk,yk,yk,yk,yk,yk,yk⟩
 |n+1 =>
  have G:=qfP C M bA bN bL bO bD bR bE FA FN FL FO FD FR FE n
  ⟨qfK FA,qgQ FN,qfL C FL,qkp C M G bA bN bL bO bD bR bE FO,qkq C M G bA bN bL bO bD bR bE FD,qlD C M G bA bN bL bO bD bR bE FR,qfM C M G bA bN bL bO bD bR bE FE⟩
theorem qfQ(C:CTxt K c iL iN iP)(M:MTxt K c "size" fA fN fL fO fP fP fP)(bA:qh K dA ["self"] [])(bN:qh K dN ["self"] [])(bL:qh K dL ["self"] [])(bO:qh K dO ["self"] [])(bP:qh K dP ["self"] [])(FA:Fun K "size" "Always.size" yB fA dA)(FN:Fun K "size" "Never.size" y8 fN dN)(FL:Fun K "size" "Letter.size" yE fL dL)(FO:Fun K "size" "Not.size" ve fO dO)(FP:Fun K "size" "Pair.size" jy fP dP):
  ∀ n,VOk P w K mg base vSz c n kP kP kP fA fN fL fO fP fP fP dA dN dL dO dP dP dP
 |0=>⟨yk,yk,yk,yk,yk,yk,yk⟩
 |n+1 =>
  have G:=qfQ C M bA bN bL bO bP FA FN FL FO FP n
  ⟨qfN FA,qgR FN,qfO FL,qkr C M G bA bN bL bO bP bP bP FO,qbC C M G bA bN bL bO bP bP bP FP,qbC C M G bA bN bL bO bP bP bP FP,qbC C M G bA bN bL bO bP bP bP FP⟩
end
noncomputable def Tr.val(ρ:Nat->Bool):Tr->Bool
 |.letter c=>ρ c
 |.one=>true
 |.zero=>false
 |.neg t=>!t.val ρ
 |.bin op t u=>if op=38 then t.val ρ && u.val ρ else if op=124 then t.val ρ || u.val ρ else t.val ρ != u.val ρ
noncomputable def Tr.form:Tr->List Pr
 |.letter l=>[[l]]
 |.one=>[[]]
 |.zero=>[]
 |.neg t=>opp t.form
 |.bin op t u=>if op=38 then mult t.form u.form else if op=124 then join t.form u.form else added t.form u.form
theorem qiG{ls:List Nat}{l:Nat}(h:l∈ls):On ls [[l]]:=⟨⟨by simp,by simp⟩,λ p hp c hc=>by
 rw[Zq.mp hp] at hc;rw[Zq.mp hc];exact h⟩
theorem Tr.on{ls:List Nat}:∀{t:Tr},t.Of ls->On ls t.form
 |.letter _,h=>qiG h
 |.one,_=>On.one ls
 |.zero,_=>On.nil ls
 |.neg t,h=>On.opp (Tr.on (t:=t) h)
 |.bin op t u,h=>by
  have h1:=Tr.on (t:=t) h.2.1;have h2:=Tr.on (t:=u) h.2.2;unfold Tr.form;split
  ·exact h1.mult h2
  ·split
   ·exact h1.join h2
   ·exact h1.added h2
theorem Tr.form_worth{ls:List Nat}(ρ:Nat->Bool):∀{t:Tr},t.Of ls->qy ρ t.form=t.val ρ
 |.letter _,_=>by simp[Tr.form,Tr.val,qy]
 |.one,_=>by simp[Tr.form,Tr.val,qy]
 |.zero,_=>by simp[Tr.form,Tr.val,qy]
 |.neg t,h=>by
  have h1:=Tr.on (t:=t) h;show qy ρ (opp t.form)=!t.val ρ
  rw[qig ρ h1.vf,Tr.form_worth ρ (t:=t) h]
 |.bin op t u,h=>by
  have h1:=Tr.on (t:=t) h.2.1;have h2:=Tr.on (t:=u) h.2.2;have e1:=Tr.form_worth ρ (t:=t) h.2.1;have e2:=Tr.form_worth ρ (t:=u) h.2.2;unfold Tr.form Tr.val;split
  ·rw[qcw ρ h1.vf h2.vf,e1,e2]
  ·split
   ·rw[qcx ρ h1.vf h2.vf,e1,e2]
   ·rw[yN ρ h1.vf h2.vf,e1,e2]
theorem jb{t u:Tr}(h:∀ c,t.Has c->u.Has c):t.lets.length<=u.lets.length:=jI (zo Qg t.lets_rise) λ c hc=>u.mem_lets.mpr (h c (t.mem_lets.mp hc))
theorem Tr.Of.sub{ls us:List Nat}:∀{t:Tr},t.Of ls->(∀ c,t.Has c->c∈us)->t.Of us
 |.letter l,_,h=>h l rfl
 |.neg t,o,h=>Tr.Of.sub (t:=t) o h
 |.bin _ t u,o,h=>⟨o.1,Tr.Of.sub (t:=t) o.2.1 λ c hc=>h c (.inl hc),Tr.Of.sub (t:=u) o.2.2 λ c hc=>h c (.inr hc)⟩
 |.one,_,_=>trivial
 |.zero,_,_=>trivial
def Szd(t:Tr):Prop:=t.Of zw/\(t.lets.length<=6∨t.wt<=10)
theorem Szd.neg{t:Tr}(h:Szd (.neg t)):Szd t:=⟨h.1,h.2.elim .inl λ x=>.inr (Nat.le_of_succ_le x)⟩
theorem Szd.l{op:Nat}{t u:Tr}(h:Szd (.bin op t u)):Szd t:=⟨h.1.2.1,h.2.elim (λ x=>.inl (Qx (jb (t:=t) (u:=.bin op t u) λ c hc=>.inl hc) x)) λ x=>.inr (by have:t.wt+u.wt<=10:=x;omega)⟩
theorem Szd.r{op:Nat}{t u:Tr}(h:Szd (.bin op t u)):Szd u:=⟨h.1.2.2,h.2.elim (λ x=>.inl (Qx (jb (t:=u) (u:=.bin op t u) λ c hc=>.inr hc) x)) λ x=>.inr (by have:t.wt+u.wt<=10:=x;omega)⟩
theorem Tr.onl{t:Tr}(h:t.Of zw):On t.lets t.form:=Tr.on (Tr.Of.sub h λ c hc=>t.mem_lets.mpr hc)
theorem qlE:∀ a,a<=9->∀ b,b<=9->a+b<=10->a*2^a+b*2^b<=8000:=by decide
theorem qmX:∀ a,a<=6->a*2^a<=384:=by decide
theorem Szd.flat{op:Nat}{t u:Tr}(h:Szd (.bin op t u)):t.form.flatten.length+u.form.flatten.length<=4000:=by
 have f1:=(Tr.onl h.1.2.1).flat2 t.lets_rise;have f2:=(Tr.onl h.1.2.2).flat2 u.lets_rise;have l1:=t.lets_len;have l2:=u.lets_len;rcases h.2 with x|x
 ·have a1:=qmX t.lets.length (Qx (jb (t:=t) (u:=.bin op t u) λ c hc=>.inl hc) x);have a2:=qmX u.lets.length (Qx (jb (t:=u) (u:=.bin op t u) λ c hc=>.inr hc) x);omega
 ·have hx:t.wt+u.wt<=10:=x;have p1:=t.wt_pos;have p2:=u.wt_pos
  have:=qlE t.lets.length (by omega) u.lets.length (by omega) (by omega)
  omega
theorem qmY:Ok9 zw:=⟨qiE,by decide⟩
def gA(t:Tr):Prop:=t=.one
def gN(t:Tr):Prop:=t=.zero
def gL(t:Tr):Prop:=∃ l,t=.letter l
def gO(t:Tr):Prop:=∃ u,t=.neg u
def gD(t:Tr):Prop:=∃ u v,t=.bin 38 u v
def gR(t:Tr):Prop:=∃ u v,t=.bin 124 u v
def gE(t:Tr):Prop:=∃ op u v,t=.bin op u v/\¬ op=38/\¬ op=124
def DT(Γ:St->Hp->Prop)(te:TE)(F:List Pr):Prop:=∀ σ H Q,Γ σ H->(∀ r H',qg H H'->H' r=some (.tup (F.map vS))->Q (.ref r) H')->te σ H Q
section
variable {Γ:St->Hp->Prop}{t1 t2:TE}{F G:List Pr}{g:List Pr->List Pr->List Pr}{g1:List Pr->List Pr}
theorem dT2(st:Stb Γ)(h1:DT Γ t1 F)(h2:DT Γ t2 G)(oF:On zw F)(oG:On zw G)(hf:F.flatten.length+G.flatten.length<=4000):DT Γ (qcl (sp2 K g) [] E0 (qaG t1 (qaG t2 yZ))) (g F G):=λ σ H Q hΓ q =>
 h1 σ H _ hΓ λ r1 H1 g1 e1=>h2 σ H1 _ (st _ _ _ hΓ g1) λ r2 H2 g2 e2=>⟨r1,r2,F,G,zw,rfl,SqT.of (g2 _ _ e1),SqT.of e2,qmY,oF,oG,hf,λ r H' g e=>q r H' ((g1.trans g2).trans g) e⟩
theorem qoN(st:Stb Γ)(h1:DT Γ t1 F)(h2:DT Γ t2 G)(oF:On zw F)(oG:On zw G):DT Γ (qcl (qgL K g) [] E0 (qaG t1 (qaG t2 yZ))) (g F G):=λ σ H Q hΓ q =>
 h1 σ H _ hΓ λ r1 H1 g1 e1=>h2 σ H1 _ (st _ _ _ hΓ g1) λ r2 H2 g2 e2=>⟨r1,r2,F,G,zw,rfl,SqT.of (g2 _ _ e1),SqT.of e2,qmY,oF,oG,λ r H' g e=>q r H' ((g1.trans g2).trans g) e⟩
theorem dT1(h1:DT Γ t1 F)(oF:On zw F):DT Γ (qcl (sp1 K g1) [] E0 (qaG t1 yZ)) (g1 F):=λ σ H Q hΓ q =>
 h1 σ H _ hΓ λ r1 H1 g1 e1=>⟨r1,F,zw,rfl,SqT.of e1,qmY,oF,λ r H' g e=>q r H' (g1.trans g) e⟩
theorem qhM{D:Ends}{σ:St}{H:Hp}(h:DT Γ t1 F)(hΓ:Γ σ H)(k:∀ r H',qg H H'->H' r=some (.tup (F.map vS))->D.rt (.ref r) H'):qmf t1 D σ H:=h σ H _ hΓ k
end
def jp(K:W.Frag)(c:CA)(n:Nat)(κ:Tr->Prop):Sp:=λ vs H Q _=>∃(o:V)(t:Tr),vs=[o]/\qN c H t o/\t.ht<=n/\Szd t/\κ t/\∀ r H',qg H H'->H' r=some (.tup (t.form.map vS))->Q (.ref r) H'
abbrev tFm(K:W.Frag)(c:CA)(n:Nat)(te:TE):TE:=(λ σ H Q=>yp c.always "form" (jp K c n gA) [] E0 te yZ σ H Q∨(λ σ H Q=>yp c.never "form" (jp K c n gN) [] E0 te yZ σ H Q∨(λ σ H Q=>yp c.letter "form" (jp K c n gL) [] E0 te yZ σ H Q∨(λ σ H Q=>yp c.not "form" (jp K c n gO) [] E0 te yZ σ H Q∨(λ σ H Q=>yp c.and "form" (jp K c n gD) [] E0 te yZ σ H Q∨(λ σ H Q=>yp c.or "form" (jp K c n gR) [] E0 te yZ σ H Q∨yp c.either "form" (jp K c n gE) [] E0 te yZ σ H Q) σ H Q) σ H Q) σ H Q) σ H Q) σ H Q)
theorem dfm{n:Nat}{c:CA}{σ0:St}{H0:Hp}{te:TE}{o:V}{t:Tr}(h1:Dv (At σ0 H0) te o)(ob:qN c H0 t o)(ht:t.ht<=n)(sz:Szd t):
  DT (At σ0 H0) (tFm K c n te) t.form:=by
 intro σ H Q hΓ q;have go:∀(κ:Tr->Prop)(C:Addr)(a dx:Addr)(fs:List (Str×V)),κ t->o=.ref a->H0 a=some (.ins C dx fs)->fs.lookup ("form":Str)=none->yp C "form" (jp K c n κ) [] E0 te yZ σ H Q:=λ κ C a dx fs hκ eo ha hl =>
  h1 σ H _ hΓ λ H1 g1=>⟨a,dx,fs,eo,(hΓ.2.trans g1) _ _ ha,hl,o,t,rfl,ob.mono (hΓ.2.trans g1),ht,sz,hκ,λ r H' g e=>q r H' (g1.trans g) e⟩
 cases t with
 |one=>obtain⟨a,dx,e,h⟩:=ob;exact .inl (go gA _ a dx _ rfl e h rfl)
 |zero=>obtain⟨a,dx,e,h⟩:=ob;exact .inr (.inl (go gN _ a dx _ rfl e h rfl))
 |letter l=>obtain⟨a,dx,e,h⟩:=ob;exact .inr (.inr (.inl (go gL _ a dx _ ⟨l,rfl⟩ e h rfl)))
 |neg u=>obtain⟨a,dx,x,e,h,_⟩:=ob;exact .inr (.inr (.inr (.inl (go gO _ a dx _ ⟨u,rfl⟩ e h rfl))))
 |bin op u v =>
  obtain⟨a,dx,x,y,e,h,_⟩:=ob;by_cases e38:op=38
  ·rw[CA.bin,V2 e38] at h;exact .inr (.inr (.inr (.inr (.inl (go gD _ a dx _ ⟨u,v,by rw[e38]⟩ e h rfl)))))
  ·by_cases e124:op=124
   ·rw[CA.bin,V3 e38,V2 e124] at h;exact .inr (.inr (.inr (.inr (.inr (.inl (go gR _ a dx _ ⟨u,v,by rw[e124]⟩ e h rfl))))))
   ·rw[CA.bin,V3 e38,V3 e124] at h;exact .inr (.inr (.inr (.inr (.inr (.inr (go gE _ a dx _ ⟨op,u,v,rfl,e38,e124⟩ e h rfl))))))
structure FTxt(K:W.Frag)(c:CA)(fA fN fL fO fD fR fE:Addr):Prop where
 always:Meth K c.always "form" fA
 never:Meth K c.never "form" fN
 letter:Meth K c.letter "form" fL
 not:Meth K c.not "form" fO
 and:Meth K c.and "form" fD
 or:Meth K c.or "form" fR
 either:Meth K c.either "form" fE
structure FOk(P:Program)(w:World)(K:W.Frag)(mg:Str->Option Value)(base:Heap)(c:CA)(n:Nat)(fA fN fL fO fD fR fE:Addr)(dA dN dL dO dD dR dE:FuncData):Prop where
 always:FnOk P w K mg base CX0 (n+13) fA dA ["self"] (jp K c n gA)
 never:FnOk P w K mg base CX0 (n+13) fN dN ["self"] (jp K c n gN)
 letter:FnOk P w K mg base CX0 (n+13) fL dL ["self"] (jp K c n gL)
 not:FnOk P w K mg base CX0 (n+13) fO dO ["self"] (jp K c n gO)
 and:FnOk P w K mg base CX0 (n+13) fD dD ["self"] (jp K c n gD)
 or:FnOk P w K mg base CX0 (n+13) fR dR ["self"] (jp K c n gR)
 either:FnOk P w K mg base CX0 (n+13) fE dE ["self"] (jp K c n gE)
theorem qc7{X:Cx}{c:CA}{n:Nat}{iL iN iP fA fN fL fO fD fR fE:Addr}{dA dN dL dO dD dR dE:FuncData}{o:Expr}{ta:TE}{apos pos:Pos}{pl:Sem Bool}(he:PE X o ta)(C:CTxt X.K c iL iN iP)(M:FTxt X.K c fA fN fL fO fD fR fE)(G:FOk X.prog X.w X.K X.mg X.base c n fA fN fL fO fD fR fE dA dN dL dO dD dR dE)(hr:Room (n+13) X.A)(bA:qh X.K dA ["self"] [])(bN:qh X.K dN ["self"] [])(bL:qh X.K dL ["self"] [])(bO:qh X.K dO ["self"] [])(bD:qh X.K dD ["self"] [])(bR:qh X.K dR ["self"] [])(bE:qh X.K dE ["self"] [])(ht:eval (.Call (.Attribute o "form" apos) [] [] pos) X.env=(do
   let ov <- eval o X.env
   standAt apos.atName
   let (f,first) <- holding [ov] (getMethod ov "form" pl)
   callWith pos f first (backTo pos (starEach [] X.env)) (backToKw pos (keywordEach [] X.env))):=by rfl):PE X (.Call (.Attribute o "form" apos) [] [] pos) (tFm X.K c n ta):=
 PE.or (qE he C.always M.always G.always hr bA .nil qF ht) (PE.or (qE he C.never M.never G.never hr bN .nil qF ht) (PE.or (qE he C.letter M.letter G.letter hr bL .nil qF ht) (PE.or (qE he C.not M.not G.not hr bO .nil qF ht) (PE.or (qE he C.and M.and G.and hr bD .nil qF ht) (PE.or (qE he C.or M.or G.or hr bR .nil qF ht) (qE he C.either M.either G.either hr bE .nil qF ht))))))
structure FFn(P:Program)(w:World)(K:W.Frag)(mg:Str->Option Value)(base:Heap)(fa fm fj fo:Addr)(da dm dj dp:FuncData):Prop where
 Ga:FnOk P w K mg base CX0 1 fa da ["one","other"] (qgL K added)
 ba:qh K da ["one","other"] []
 ka:W.keepIn K (.ref fa)=true
 ma:mg "added"=some (.ref fa)
 Gm:FnOk P w K mg base CX0 12 fm dm ["one","other"] (sp2 K mult)
 bm:qh K dm ["one","other"] []
 km:W.keepIn K (.ref fm)=true
 mm:mg "multiplied"=some (.ref fm)
 Gj:FnOk P w K mg base CX0 13 fj dj ["one","other"] (sp2 K join)
 bj:qh K dj ["one","other"] []
 kj:W.keepIn K (.ref fj)=true
 mj:mg "joined"=some (.ref fj)
 Go:FnOk P w K mg base CX0 2 fo dp ["form"] (sp1 K opp)
 bo:qh K dp ["form"] []
 ko:W.keepIn K (.ref fo)=true
 mo:mg "opposite"=some (.ref fo)
theorem qgS:FnScope ["self"] ["self"] (qi yC):=scF
theorem qiH:FnScope ["self"] ["self"] (qi y9):=scF
theorem qgT:FnScope ["self"] ["self"] (qi yF):=scF
theorem qlF:FnScope ["self"] ["self"] (qi vg):=scF
theorem qlG:FnScope ["self"] ["self"] (qi vi):=scF
theorem qmZ:FnScope ["self"] ["self"] (qi kW):=scF
theorem qgU:FnScope ["self"] ["self"] (qi yH):=scF
section
variable {c:CA}{iL iN iP fA fN fL fO fD fR fE fa fm fj fo:Addr}{dA dN dL dO dD dR dE da dm dj dp:FuncData}{n:Nat}
theorem qks(F:Fun K "form" "Always.form" yC fA dA):FnOk P w K mg base CX0 (n+1+13) fA dA ["self"] (jp K c (n+1) gA):=by
 refine F.okd qgS (λ cdv A outer s H vs Q E hr h=>?_);obtain⟨o,t,rfl,ob,ht,sz,rfl,q⟩:=h;refine⟨_,qe (qo (zl (qa qm qb))),?_⟩;exact⟨qp (by show 1<=_;decide),λ p hp=>q p _ (qg.up hp) (by rw[qc,qlA];rfl)⟩
theorem qlH(F:Fun K "form" "Never.form" y9 fN dN):FnOk P w K mg base CX0 (n+1+13) fN dN ["self"] (jp K c (n+1) gN):=by
 refine F.okd qiH (λ cdv A outer s H vs Q E hr h=>?_);obtain⟨o,t,rfl,ob,ht,sz,rfl,q⟩:=h;refine⟨_,qe (qo (zl qb)),?_⟩;exact⟨Vd _,λ p hp=>q p _ (qg.up hp) qc⟩
theorem qkt(C:CTxt K c iL iN iP)(F:Fun K "form" "Letter.form" yF fL dL):FnOk P w K mg base CX0 (n+1+13) fL dL ["self"] (jp K c (n+1) gL):=by
 refine F.okd qgT (λ cdv A outer s H vs Q E hr h=>?_);obtain⟨o,t,rfl,ob,ht,sz,⟨l,rfl⟩,q⟩:=h;refine⟨_,qe (qo (zl (qa (ze (pv 0) rfl) qb))),?_⟩;obtain⟨a,dx,rfl,h⟩:=ob;exact vn (K:=K) rfl h C.letter C.aLetter rfl _ _ _ at0 λ H1 g1=>⟨qp (by show 1<=_;decide),λ p hp=>q p _ (g1.to hp) qc⟩
theorem qnS(C:CTxt K c iL iN iP)(M:FTxt K c fA fN fL fO fD fR fE)(G:FOk P w K mg base c n fA fN fL fO fD fR fE dA dN dL dO dD dR dE)(N:FFn P w K mg base fa fm fj fo da dm dj dp)(bA:qh K dA ["self"] [])(bN:qh K dN ["self"] [])(bL:qh K dL ["self"] [])(bO:qh K dO ["self"] [])(bD:qh K dD ["self"] [])(bR:qh K dR ["self"] [])(bE:qh K dE ["self"] [])(F:Fun K "form" "Not.form" vg fO dO):FnOk P w K mg base CX0 (n+1+13) fO dO ["self"] (jp K c (n+1) gO):=by
 refine F.okd qlF (λ cdv A outer s H vs Q E hr h=>?_);obtain⟨o,t,rfl,ob,ht,sz,⟨u,rfl⟩,q⟩:=h;have C9:Room (n+13) _:=hr.mono (by omega);have dF:Room 2 _:=hr.mono (by omega);refine⟨_,qe (qo (zi N.Go dF (by rfl) N.mo N.ko N.bo .nil qF (qa (qc7 (ze (pv 0) (by rfl)) C M G C9 bA bN bL bO bD bR bE) qb))),?_⟩;obtain⟨a,dx,x,rfl,h,ou⟩:=ob;exact qhM (dT1 (dfm (n:=n) (vn rfl h C.not C.aNot rfl) ou (XT ht) sz.neg) (Tr.on (t:=u) sz.1)) at0 q
theorem qnT(C:CTxt K c iL iN iP)(M:FTxt K c fA fN fL fO fD fR fE)(G:FOk P w K mg base c n fA fN fL fO fD fR fE dA dN dL dO dD dR dE)(N:FFn P w K mg base fa fm fj fo da dm dj dp)(bA:qh K dA ["self"] [])(bN:qh K dN ["self"] [])(bL:qh K dL ["self"] [])(bO:qh K dO ["self"] [])(bD:qh K dD ["self"] [])(bR:qh K dR ["self"] [])(bE:qh K dE ["self"] [])(F:Fun K "form" "And.form" vi fD dD):FnOk P w K mg base CX0 (n+1+13) fD dD ["self"] (jp K c (n+1) gD):=by
 refine F.okd qlG (λ cdv A outer s H vs Q E hr h=>?_);obtain⟨o,t,rfl,ob,ht,sz,⟨u,v,rfl⟩,q⟩:=h;have C9:Room (n+13) _:=hr.mono (by omega);have oJ:Room 12 _:=hr.mono (by omega);refine⟨_,qe (qo (zi N.Gm oJ (by rfl) N.mm N.km N.bm .nil qF (qa (qc7 (ze (pv 0) (by rfl)) C M G C9 bA bN bL bO bD bR bE) (qa (qc7 (ze (pv 0) (by rfl)) C M G C9 bA bN bL bO bD bR bE) qb)))),?_⟩;obtain⟨a,dx,x,y,rfl,h,ou,ov⟩:=ob;have hb:c.bin 38=c.and:=by rw[CA.bin,V2 rfl]
 rw[hb] at h;obtain⟨_,fu,fv⟩:=sz.1;have hm:max u.ht v.ht<=n:=XT ht;rw[Tr.form,V2 rfl] at q;exact qhM (dT2 qA (dfm (n:=n) (vn rfl h C.and C.aAnd.1 rfl) ou (by omega) sz.l) (dfm (n:=n) (vn rfl h C.and C.aAnd.2 rfl) ov (by omega) sz.r) (Tr.on (t:=u) fu) (Tr.on (t:=v) fv) sz.flat) at0 q
theorem qoO(C:CTxt K c iL iN iP)(M:FTxt K c fA fN fL fO fD fR fE)(G:FOk P w K mg base c n fA fN fL fO fD fR fE dA dN dL dO dD dR dE)(N:FFn P w K mg base fa fm fj fo da dm dj dp)(bA:qh K dA ["self"] [])(bN:qh K dN ["self"] [])(bL:qh K dL ["self"] [])(bO:qh K dO ["self"] [])(bD:qh K dD ["self"] [])(bR:qh K dR ["self"] [])(bE:qh K dE ["self"] [])(F:Fun K "form" "Or.form" kW fR dR):FnOk P w K mg base CX0 (n+1+13) fR dR ["self"] (jp K c (n+1) gR):=by
 refine F.okd qmZ (λ cdv A outer s H vs Q E hr h=>?_);obtain⟨o,t,rfl,ob,ht,sz,⟨u,v,rfl⟩,q⟩:=h;have C9:Room (n+13) _:=hr.mono (by omega);have oJ:Room 13 _:=hr.mono (by omega);refine⟨_,qe (qo (zi N.Gj oJ (by rfl) N.mj N.kj N.bj .nil qF (qa (qc7 (ze (pv 0) (by rfl)) C M G C9 bA bN bL bO bD bR bE) (qa (qc7 (ze (pv 0) (by rfl)) C M G C9 bA bN bL bO bD bR bE) qb)))),?_⟩;obtain⟨a,dx,x,y,rfl,h,ou,ov⟩:=ob;have hb:c.bin 124=c.or:=by rw[CA.bin,V3 (by decide),V2 rfl]
 rw[hb] at h;obtain⟨_,fu,fv⟩:=sz.1;have hm:max u.ht v.ht<=n:=XT ht;rw[Tr.form,V3 (by decide),V2 rfl] at q;exact qhM (dT2 qA (dfm (n:=n) (vn rfl h C.or C.aOr.1 rfl) ou (by omega) sz.l) (dfm (n:=n) (vn rfl h C.or C.aOr.2 rfl) ov (by omega) sz.r) (Tr.on (t:=u) fu) (Tr.on (t:=v) fv) sz.flat) at0 q
theorem qku(C:CTxt K c iL iN iP)(M:FTxt K c fA fN fL fO fD fR fE)(G:FOk P w K mg base c n fA fN fL fO fD fR fE dA dN dL dO dD dR dE)(N:FFn P w K mg base fa fm fj fo da dm dj dp)(bA:qh K dA ["self"] [])(bN:qh K dN ["self"] [])(bL:qh K dL ["self"] [])(bO:qh K dO ["self"] [])(bD:qh K dD ["self"] [])(bR:qh K dR ["self"] [])(bE:qh K dE ["self"] [])(F:Fun K "form" "Either.form" yH fE dE):FnOk P w K mg base CX0 (n+1+13) fE dE ["self"] (jp K c (n+1) gE):=by
 refine F.okd qgU (λ cdv A outer s H vs Q E hr h=>?_);obtain⟨o,t,rfl,ob,ht,sz,⟨op,u,v,rfl,nN,cW⟩,q⟩:=h;have C9:Room (n+13) _:=hr.mono (by omega);have oJ:Room 1 _:=hr.mono (by omega);refine⟨_,qe (qo (zi N.Ga oJ (by rfl) N.ma N.ka N.ba .nil qF (qa (qc7 (ze (pv 0) (by rfl)) C M G C9 bA bN bL bO bD bR bE) (qa (qc7 (ze (pv 0) (by rfl)) C M G C9 bA bN bL bO bD bR bE) qb)))),?_⟩;obtain⟨a,dx,x,y,rfl,h,ou,ov⟩:=ob;have hb:c.bin op=c.either:=by rw[CA.bin,V3 nN,V3 cW]
 rw[hb] at h;obtain⟨_,fu,fv⟩:=sz.1;have hm:max u.ht v.ht<=n:=XT ht;rw[Tr.form,V3 nN,V3 cW] at q;exact qhM (qoN qA (dfm (n:=n) (vn rfl h C.either C.aEither.1 rfl) ou (by omega) sz.l) (dfm (n:=n) (vn rfl h C.either C.aEither.2 rfl) ov (by omega) sz.r) (Tr.on (t:=u) fu) (Tr.on (t:=v) fv)) at0 q
theorem qaD{κ:Tr->Prop}{f:Addr}{fd:FuncData}:FnOk P w K mg base CX0 (0+13) f fd ["self"] (jp K c 0 κ):=
 ⟨λ vs H Q E h=>by obtain⟨_,t,_,_,h,_⟩:=h;have:=t.ht1;omega,λ A outer s H args us vs Q E _ _ _ _ h=>by obtain⟨_,t,_,_,h,_⟩:=h;have:=t.ht1;omega⟩
theorem qkv(C:CTxt K c iL iN iP)(M:FTxt K c fA fN fL fO fD fR fE)(N:FFn P w K mg base fa fm fj fo da dm dj dp)(bA:qh K dA ["self"] [])(bN:qh K dN ["self"] [])(bL:qh K dL ["self"] [])(bO:qh K dO ["self"] [])(bD:qh K dD ["self"] [])(bR:qh K dR ["self"] [])(bE:qh K dE ["self"] [])(FA:Fun K "form" "Always.form" yC fA dA)(FN:Fun K "form" "Never.form" y9 fN dN)(FL:Fun K "form" "Letter.form" yF fL dL)(FO:Fun K "form" "Not.form" vg fO dO)(FD:Fun K "form" "And.form" vi fD dD)(FR:Fun K "form" "Or.form" kW fR dR)(FE:Fun K "form" "Either.form" yH fE dE):
  ∀ n,FOk P w K mg base c n fA fN fL fO fD fR fE dA dN dL dO dD dR dE
 |0=>⟨qaD,qaD,qaD,qaD,qaD,qaD,qaD⟩
 |n+1 =>
  have G:=qkv C M N bA bN bL bO bD bR bE FA FN FL FO FD FR FE n
  ⟨qks FA,qlH FN,qkt C FL,qnS C M G N bA bN bL bO bD bR bE FO,qnT C M G N bA bN bL bO bD bR bE FD,qoO C M G N bA bN bL bO bD bR bE FR,qku C M G N bA bN bL bO bD bR bE FE⟩
end
abbrev Fr:=Nat×Option Tr
abbrev PSt:=List Fr×Option Tr
noncomputable def wn:List Fr->Tr->List Fr×Tr
 | [],t=>([],t)
 |fr::fs,t=>if fr.1=126 then wn fs (.neg t) else(fr::fs,t)
noncomputable def yR(s:PSt):List Nat:=match s.2 with
 |none=>[48,49]++zw++[126,40]
 |some _=>match s.1 with
  | []=>[]
  |fr::_=>if fr.1=40 then [38,124,43] else [41]
noncomputable def jq(c:Nat):Tr:=if c=49 then .one else if c=48 then .zero else .letter c
noncomputable def stp(s:PSt)(c:Nat):PSt:=
 if c∈[126,40] then((c,none)::s.1,none)
 else if c∈[38,124,43] then(match s.1 with
  | []=>s
  |_::fs=>((c,s.2)::fs,none))
 else if c=41 then(match s.1,s.2 with
  |(op,some l)::fs,some r=>((wn fs (.bin op l r)).1,some (wn fs (.bin op l r)).2)
  |_,_=>s)
 else((wn s.1 (jq c)).1,some (wn s.1 (jq c)).2)
noncomputable def run:PSt->List Nat->Option PSt
 |s,[]=>some s
 |s,c::l=>if c∈yR s then run (stp s c) l else none
theorem qeP:∀(l1 l2:List Nat)(s:PSt),run s (l1++l2)=(run s l1).bind λ s'=>run s' l2
 | [],_,_=>rfl
 |c::l1,l2,s=>by
  rw[Ur,run,run];split
  ·exact qeP l1 l2 _
  ·rfl
theorem qc8:∀ c∈zw,c∈[48,49]++zw++[126,40]/\c∉[126,40]/\c∉[38,124,43]/\¬ c=41/\¬ c=49/\¬ c=48:=by decide
theorem qfR{c:Nat}(h:c∈zw):jq c=.letter c:=by
 obtain⟨_,_,_,_,h1,h2⟩:=qc8 c h;rw[jq,V3 h1,V3 h2]
theorem qaE{c:Nat}{fs:List Fr}{rest:List Nat}(h1:c∈[48,49]++zw++[126,40])(h2:c∉[126,40])(h3:c∉[38,124,43])(h4:¬ c=41):run (fs,none) (c::rest)=run ((wn fs (jq c)).1,some (wn fs (jq c)).2) rest:=by
 rw[run,V2 (show c∈yR (fs,none) from h1),stp,V3 h2,V3 h3,V3 h4]
theorem qhN{fr:Fr}{fs:List Fr}{t:Tr}(h:¬ fr.1=126):wn (fr::fs) t=(fr::fs,t):=V3 h
theorem qbe:∀(t:Tr)(fs:List Fr)(rest:List Nat),t.Of zw->run (fs,none) (t.text++rest)=run ((wn fs t).1,some (wn fs t).2) rest
 |.letter c,fs,rest,h=>by
  obtain⟨h1,h2,h3,h4,_,_⟩:=qc8 c h;show run (fs,none) (c::rest)=_
  rw[qaE h1 h2 h3 h4,qfR h]
 |.one,fs,rest,_=>by
  show run (fs,none) (49::rest)=_
  rw[qaE (by decide) (by decide) (by decide) (by decide)];rfl
 |.zero,fs,rest,_=>by
  show run (fs,none) (48::rest)=_
  rw[qaE (by decide) (by decide) (by decide) (by decide)];rfl
 |.neg t,fs,rest,h=>by
  show run (fs,none) (126::(t.text++rest))=_
  rw[run,V2 (show 126∈yR (fs,none) from(by decide:126∈[48,49]++zw++[126,40])),stp,V2 (by decide),qbe t _ _ h];rfl
 |.bin op t u,fs,rest,h=>by
  obtain⟨D8,ht,hu⟩:=h;have e:(Tr.bin op t u).text++rest=40::(t.text++(op::(u.text++(41::rest)))):=by simp[Tr.text]
  have no:op∉[126,40]/\op∈[38,124,43]/\¬ op=126/\¬ op=40:=by rcases D8 with rfl|rfl|rfl <;> decide
  rw[e,run,V2 (show 40∈yR (fs,none) from(by decide:40∈[48,49]++zw++[126,40])),stp,V2 (by decide),qbe t _ _ ht,qhN (show ¬ ((40,none):Fr).1=126 from by decide)];rw[run,V2 (show op∈yR ((40,none)::fs,some t) from no.2.1),stp,V3 no.1,V2 no.2.1];show run ((op,some t)::fs,none) (u.text++(41::rest))=_
  rw[qbe u _ _ hu,qhN (show ¬ ((op,some t):Fr).1=126 from no.2.2.1)];rw[run,V2 (show 41∈yR ((op,some t)::fs,some u) from by show 41∈(if op=40 then [38,124,43] else [41]);rw[V3 no.2.2.2];decide),stp,V3 (by decide),V3 (by decide),V2 rfl]
theorem qiI{t:Tr}(h:t.Of zw):run ([],none) t.text=some ([],some t):=by
 have:=qbe t [] [] h
 rw[U8] at this;rw[this];rfl
def Fok(fr:Fr):Prop:=(fr.2=none/\(fr.1=126∨fr.1=40))∨(∃ l,fr.2=some l/\(fr.1=38∨fr.1=124∨fr.1=43))
structure Wfs(s:PSt):Prop where
 all:∀ fr∈s.1,Fok fr
 top:∀ r fr fs,s.2=some r->s.1=fr::fs->¬ fr.1=126
theorem qkw:∀{fs:List Fr}{t:Tr}{fr:Fr},fr∈(wn fs t).1->fr∈fs
 | [],_,_,h=>h
 |f::fs,t,fr,h=>by
  unfold wn at h;split at h
  ·exact Yl _ (qkw h)
  ·exact h
theorem qkx:∀{fs:List Fr}{t:Tr}{fr:Fr}{gs:List Fr},(wn fs t).1=fr::gs->¬ fr.1=126
 | [],_,_,_,h=>by cases h
 |f::fs,t,fr,gs,h=>by
  unfold wn at h;split at h
  ·exact qkx h
  ·rename_i hn;cases h
   exact hn
theorem qky{fs:List Fr}{t:Tr}(h:∀ fr∈fs,Fok fr):Wfs ((wn fs t).1,some (wn fs t).2):=⟨λ fr hf=>h fr (qkw hf),λ _ _ _ _ e=>qkx e⟩
theorem Wfs.step{s:PSt}{c:Nat}(h:Wfs s)(hl:c∈yR s):Wfs (stp s c):=by
 unfold stp;split
 ·rename_i hc;have hc:c=126∨c=40:=by simpa using hc
  refine⟨λ fr hf=>?_,λ r fr fs e=>by cases e⟩;rcases Qh.mp hf with e|hf
  ·subst e;exact .inl ⟨rfl,hc⟩
  ·exact h.all fr hf
 ·split
  ·rename_i hc;have N4:c=38∨c=124∨c=43:=by simpa using hc
   obtain⟨fs,e⟩:=s;cases fs with
   |nil=>exact h
   |cons f fs =>
    cases e with
    |none=>exact absurd hl (by show ¬ c∈[48,49]++zw++[126,40];rcases N4 with rfl|rfl|rfl <;> decide)
    |some r =>
     refine⟨λ fr hf=>?_,λ r fr fs e=>by cases e⟩;rcases Qh.mp hf with e|hf
     ·subst e;exact .inr ⟨r,rfl,N4⟩
     ·exact h.all fr (Yl _ hf)
  ·split
   ·obtain⟨fs,e⟩:=s;split
    ·rename_i op l T4 r h1 h2;cases h1
     exact qky λ fr hf=>h.all fr (Yl _ hf)
    ·exact h
   ·exact qky h.all
theorem qoP:Wfs ([],none):=⟨λ _ h=>(by cases h),λ _ _ _ e=>by cases e⟩
theorem qhO:∀{l:List Nat}{s s':PSt},Wfs s->run s l=some s'->Wfs s'
 | [],_,_,h,e=>by cases e;exact h
 |c::l,s,s',h,e=>by
  rw[run] at e;split at e
  ·rename_i hl;exact qhO (h.step hl) e
  ·cases e
theorem qm0{L:List Nat}{fin:PSt}(h:run ([],none) L=some fin){i:Nat}(hi:i<L.length){s:PSt}(hs:run ([],none) (L.take i)=some s):L[i]∈yR s/\run ([],none) (L.take (i+1))=some (stp s L[i]):=by
 have e:L=L.take i++(L[i]::L.drop (i+1)):=by rw[<- Xw hi,Yb]
 have h2:run s (L[i]::L.drop (i+1))=some fin:=by
  rw[e,qeP,hs] at h;exact h
 rw[run] at h2;have hl:L[i]∈yR s:=by
  by_cases hl:L[i]∈yR s
  ·exact hl
  ·rw[V3 hl] at h2;cases h2
 refine⟨hl,?_⟩;rw[Xa hi,qeP,hs];show run s [L[i]]=_
 rw[run,V2 hl];rfl
theorem qiJ{s:PSt}(h:Wfs s)(hl:41∈yR s):∃ op l fs r,s=((op,some l)::fs,some r)/\(op=38∨op=124∨op=43):=by
 obtain⟨fs,e⟩:=s;cases e with
 |none=>exact absurd hl (by show ¬ 41∈[48,49]++zw++[126,40];decide)
 |some r =>
  cases fs with
  |nil=>exact absurd hl (by simp[yR])
  |cons f fs =>
   obtain⟨op,o⟩:=f;have h1:=h.all (op,o) (Zf ..);have h2:=h.top r (op,o) fs rfl rfl;have h3:¬ op=40:=λ e=>by subst e;exact absurd hl (by show ¬ 41∈(if (40:Nat)=40 then [38,124,43] else [41]);decide)
   rcases h1 with⟨_,h1|h1⟩|⟨l,h1,h4⟩
   ·exact absurd h1 h2
   ·exact absurd h1 h3
   ·exact⟨op,l,fs,r,by rw[show o=some l from h1],h4⟩
theorem qfS{s:PSt}{c:Nat}(hc:c∈[38,124,43])(hl:c∈yR s):∃ fr fs r,s=(fr::fs,some r):=by
 have N4:c=38∨c=124∨c=43:=by simpa using hc
 obtain⟨fs,e⟩:=s;cases e with
 |none=>exact absurd hl (by show ¬ c∈[48,49]++zw++[126,40];rcases N4 with rfl|rfl|rfl <;> decide)
 |some r =>
  cases fs with
  |nil=>exact absurd hl (by simp[yR])
  |cons f fs=>exact⟨f,fs,r,rfl⟩
theorem qgV:∀(fs:List Fr)(t:Tr),(wn fs t).1.length<=fs.length
 | [],_=>Vc _
 |f::fs,t=>by
  unfold wn;split
  ·exact Ua (qgV fs _)
  ·exact Vc _
theorem qlI(s:PSt)(c:Nat):(stp s c).1.length<=s.1.length+1:=by
 unfold stp;split
 ·exact Vc _
 ·split
  ·obtain⟨fs,e⟩:=s;cases fs with
   |nil=>exact Ve _
   |cons f fs=>exact Ve _
  ·split
   ·obtain⟨fs,e⟩:=s;split
    ·rename_i op l T4 r h1 h2;cases h1
     exact Ua (Ua (qgV _ _))
    ·exact Ve _
   ·exact Ua (qgV _ _)
def zA(H H':Hp):Prop:=∀ b o,H b=some o->(∀ xs,o≠.lst xs)->H' b=some o
theorem kz{H H':Hp}(g:qg H H'):zA H H':=λ _ _ e _=>g _ _ e
theorem zA.trans{H H1 H2:Hp}(a:zA H H1)(b:zA H1 H2):zA H H2:=λ _ _ e n=>b _ _ (a _ _ e n) n
theorem zA.updL{H:Hp}{l:Addr}{xs:List V}{o:HO}(h:H l=some (.lst xs)):zA H (upd H l o):=λ b p e n=>by
 have:b≠l:=λ q=>by rw[q,h] at e;cases e;exact n xs rfl
 rw[qv this];exact e
def But(a:Addr)(H H':Hp):Prop:=∀ b o,b≠a->H b=some o->H' b=some o
theorem But.refl(a:Addr)(H:Hp):But a H H:=λ _ _ _ e=>e
theorem But.trans{a:Addr}{H H1 H2:Hp}(h:But a H H1)(g:But a H1 H2):But a H H2:=λ _ _ n e=>g _ _ n (h _ _ n e)
theorem zB{a:Addr}{H H':Hp}(g:qg H H'):But a H H':=λ _ _ _ e=>g _ _ e
theorem But.upd{a:Addr}{H H':Hp}{o:HO}(g:But a H H'):But a H (upd H' a o):=λ b p n e=>by rw[qv n];exact g _ _ n e
theorem But.same{a:Addr}{H0 H H':Hp}(g:But a H H')(g0:qg H0 H)(f:H0 a=none):qg H0 H':=λ b o e=>g b o (λ q=>by rw[q,f] at e;cases e) (g0 _ _ e)
theorem qN.monoX{c:CA}{H H':Hp}(g:zA H H'):∀{t:Tr}{v:V},qN c H t v->qN c H' t v
 |.letter _,_,⟨a,dx,e,h⟩=>⟨a,dx,e,g _ _ h (λ _ z=>nomatch z)⟩
 |.one,_,⟨a,dx,e,h⟩=>⟨a,dx,e,g _ _ h (λ _ z=>nomatch z)⟩
 |.zero,_,⟨a,dx,e,h⟩=>⟨a,dx,e,g _ _ h (λ _ z=>nomatch z)⟩
 |.neg t,_,⟨a,dx,x,e,h,r⟩=>⟨a,dx,x,e,g _ _ h (λ _ z=>nomatch z),qN.monoX g r⟩
 |.bin op t u,_,⟨a,dx,x,y,e,h,r,r'⟩=>⟨a,dx,x,y,e,g _ _ h (λ _ z=>nomatch z),qN.monoX g r,qN.monoX g r'⟩
def qae(c:CA)(H:Hp):Option Tr->V->Prop
 |none,v=>v=.non
 |some t,v=>qN c H t v
theorem qae.monoX{c:CA}{H H':Hp}(g:zA H H'):∀{e:Option Tr}{v:V},qae c H e v->qae c H' e v
 |none,_,h=>h
 |some _,_,h=>qN.monoX g h
theorem qN.ref{c:CA}{H:Hp}{t:Tr}{v:V}(h:qN c H t v):∃ a,v=.ref a:=by
 cases t with
 |letter l=>obtain⟨a,_,e,_⟩:=h;exact⟨a,e⟩
 |one=>obtain⟨a,_,e,_⟩:=h;exact⟨a,e⟩
 |zero=>obtain⟨a,_,e,_⟩:=h;exact⟨a,e⟩
 |neg u=>obtain⟨a,_,_,e,_⟩:=h;exact⟨a,e⟩
 |bin op u w=>obtain⟨a,_,_,_,e,_⟩:=h;exact⟨a,e⟩
theorem qae.non{c:CA}{H:Hp}{e:Option Tr}{v:V}(h:qae c H e v):decide (v=.non)=e.isNone:=by
 cases e with
 |none=>rw[show v=.non from h];rfl
 |some t=>obtain⟨a,rfl⟩:=qN.ref h;rfl
def qkz(c:CA)(H:Hp)(fr:Fr)(x:V):Prop:=∃ a v,x=.ref a/\H a=some (.tup [vS [fr.1],v])/\qae c H fr.2 v
theorem qkz.monoX{c:CA}{H H':Hp}{fr:Fr}{x:V}(h:qkz c H fr x)(g:zA H H'):qkz c H' fr x:=let ⟨a,v,e,h,k⟩:=h;⟨a,v,e,g _ _ h (λ _ z=>nomatch z),k.monoX g⟩
inductive FrmI(c:CA)(H:Hp):List V->List Fr->Prop where
 |nil:FrmI c H [] []
 |snoc {ws:List V} {fs:List Fr} {x:V} {fr:Fr} (h:FrmI c H ws fs) (k:qkz c H fr x):FrmI c H (ws++[x]) (fr::fs)
theorem FrmI.monoX{c:CA}{H H':Hp}{vs:List V}{fs:List Fr}(h:FrmI c H vs fs)(g:zA H H'):FrmI c H' vs fs:=by
 induction h with
 |nil=>exact .nil
 |snoc h k ih=>exact ih.snoc (k.monoX g)
theorem FrmI.len{c:CA}{H:Hp}{vs:List V}{fs:List Fr}(h:FrmI c H vs fs):vs.length=fs.length:=by
 induction h with
 |nil=>rfl
 |snoc h k ih=>rw[Zj,XY,Uo,ih]
theorem FrmI.top{c:CA}{H:Hp}{vs:List V}{fr:Fr}{fs:List Fr}(h:FrmI c H vs (fr::fs)):∃ ws x,vs=ws++[x]/\FrmI c H ws fs/\qkz c H fr x:=by
 cases h with
 |snoc h k=>exact⟨_,_,rfl,h,k⟩
theorem FrmI.empty{c:CA}{H:Hp}{vs:List V}(h:FrmI c H vs []):vs=[]:=by
 have:=h.len
 exact XF.mp this
theorem qoQ{c A B:Prop}[Decidable c](hc:¬ c)(h:B):if c then A else B:=by rw[V3 hc];exact h
theorem ifT{c A B:Prop}[Decidable c](hc:c)(h:A):if c then A else B:=by rw[V2 hc];exact h
def qnU(c:CA):Sp:=λ vs H Q _=>∃ s:Nat,vs=[vS [s]]/\∀ o H',qg H H'->qN c H' (jq s) o->Q o H'
def qnV(c:CA):Sp:=λ vs H Q _=>∃(op:Nat)(x y:V)(t u:Tr),vs=[vS [op],x,y]/\(op=38∨op=124∨op=43)/\qN c H t x/\qN c H u y/\∀ o H',qg H H'->qN c H' (.bin op t u) o->Q o H'
theorem qnW:FnScope ["sign"] ["sign"] (qi v1):=scF
theorem qnX:FnScope ["sign","one","other"] ["sign","one","other"] (qi qby):=scF
theorem ql4:FnScope ["opened","saying"] ["opened","saying"] (qi v0):=scF
theorem qnY:FnScope ["opened","ended"] ["opened","ended"] (qi jn):=scF
theorem ql5:FnScope ["opened","ended","sign","waiting"] ["opened","ended","sign"] (qi qeJ):=scF
theorem qdY:FnScope ["text","opened","ended","place","sign"] ["text"] (qi qgH):=scF
section
variable {c:CA}{iL iN iP f:Addr}{fdL fdN fdP fd:FuncData}
theorem qnZ(F:Fun K "single_of" "single_of" v1 f fd)(C:CTxt K c iL iN iP)(mA:mg "Always"=some (.ref c.always))(mN:mg "Never"=some (.ref c.never))(mL:mg "Letter"=some (.ref c.letter))(GL:FnOk P w K mg base CX0 1 iL fdL ["self","letter"] (k4 K "letter"))(bL:qh K fdL ["self","letter"] []):FnOk P w K mg base CX0 3 f fd ["sign"] (qnU c):=by
 refine F.okd qnW (λ cdv A outer s H vs Q E hr h=>?_);obtain⟨z,rfl,q⟩:=h;have dF:Room 2 _:=hr.mono (by decide);refine⟨_,(qd (zf (qx zr (pv 0) qm (qG _)) (qe (qo (qfs C.mAlways (by rfl) mA))) qL)
  (qd (zf (qx zr (pv 0) qm (qG _)) (qe (qo (qfs C.mNever (by rfl) mN))) qL)
  (qe (qo (y2 C.mLetter GL dF (by rfl) mL bL .nil qF (qa (pv 0) qb)))))),?_⟩
 rw[qkg,qgM];refine jK (yh (qbd qA (dvA rfl) dC)) at0 (λ hb H1 g1=>?_) (λ hb H1 g1=>?_)
 ·have e:z=49:=by simpa using Um hb
  exact λ x dx hx C8 ne=>q _ _ ((g1.at (g1.free C8)).at (g1.free hx)) (by rw[jq,V2 e];exact⟨x,dx,rfl,qc⟩)
 have n1:¬ z=49:=λ e=>by simpa [e] using Zu hb
 refine jK (yh (qbd qA (dvA rfl) dC)) at0 (λ hb H2 g2=>?_) (λ hb H2 g2=>?_)
 ·have e:z=48:=by simpa using Um hb
  have g:=g1.trans g2;exact λ x dx hx C8 ne=>q _ _ ((g.at (g.free C8)).at (g.free hx)) (by rw[jq,V3 n1,V2 e];exact⟨x,dx,rfl,qc⟩)
 have n0:¬ z=48:=λ e=>by simpa [e] using Zu hb
 have g:=g1.trans g2;refine⟨_,rfl,λ x dx hx C8 ne=>⟨c.letter,x,dx,_,rfl,qc,C.letter,C.aLetter,rfl,?_⟩⟩;exact q _ _ (((g.at (g.free C8)).at (g.free hx)).at (g.free hx)) (by rw[jq,V3 n1,V3 n0];exact⟨x,dx,rfl,qc⟩)
theorem qn0(F:Fun K "pair_of" "pair_of" qby f fd)(C:CTxt K c iL iN iP)(mD:mg "And"=some (.ref c.and))(mR:mg "Or"=some (.ref c.or))(mE:mg "Either"=some (.ref c.either))(GP:FnOk P w K mg base CX0 1 iP fdP ["self","one","other"] (qeM K "one" "other"))(bP:qh K fdP ["self","one","other"] []):FnOk P w K mg base CX0 3 f fd ["sign","one","other"] (qnV c):=by
 refine F.okd qnX (λ cdv A outer s H vs Q E hr h=>?_);obtain⟨op,o,p,t,u,rfl,D8,ob,pb,q⟩:=h;have dF:Room 2 _:=hr.mono (by decide);refine⟨_,(qd (zf (qx zr (pv 0) qm (qG _)) (qe (qo (y2 C.mAnd GP dF (by rfl) mD bP .nil qF (qa (pv 1) (qa (pv 2) qb))))) qL)
  (qd (zf (qx zr (pv 0) qm (qG _)) (qe (qo (y2 C.mOr GP dF (by rfl) mR bP .nil qF (qa (pv 1) (qa (pv 2) qb))))) qL)
  (qe (qo (y2 C.mEither GP dF (by rfl) mE bP .nil qF (qa (pv 1) (qa (pv 2) qb))))))),?_⟩
 rw[qkh,ql3];have fin:∀(Cl x dx:Addr)(H7:Hp),qg H H7->Cl=c.bin op->H7 x=none->H7 dx=none->Q (.ref x) (upd (upd (upd (upd H7 dx (.own x)) x (.ins Cl dx [])) x (.ins Cl dx [("one",o)])) x (.ins Cl dx [("one",o),("other",p)])):=λ Cl x dx H7 g7 e hx C8=>by
  subst e;have k:=(((g7.at (g7.free C8) (o:=.own x)).at (g7.free hx) (o:=.ins (c.bin op) dx [])).at (g7.free hx) (o:=.ins (c.bin op) dx [("one",o)])).at (g7.free hx) (o:=.ins (c.bin op) dx [("one",o),("other",p)]);exact q _ _ k ⟨x,dx,o,p,rfl,qc,ob.mono k,pb.mono k⟩
 refine jK (yh (qbd qA (dvA rfl) dC)) at0 (λ hb H7 g7=>?_) (λ hb H7 g7=>?_)
 ·have e:op=38:=by simpa using Um hb
  refine⟨_,rfl,_,rfl,λ x dx hx C8 ne=>⟨c.and,x,dx,_,_,rfl,qc,C.and,C.aAnd.1,C.aAnd.2,rfl,?_⟩⟩;exact fin c.and x dx H7 g7 (by rw[CA.bin,V2 e]) hx C8
 have nN:¬ op=38:=λ e=>by simpa [e] using Zu hb
 refine jK (yh (qbd qA (dvA rfl) dC)) at0 (λ hb H8 g8=>?_) (λ hb H8 g8=>?_)
 ·have e:op=124:=by simpa using Um hb
  refine⟨_,rfl,_,rfl,λ x dx hx C8 ne=>⟨c.or,x,dx,_,_,rfl,qc,C.or,C.aOr.1,C.aOr.2,rfl,?_⟩⟩;exact fin c.or x dx H8 (g7.trans g8) (by rw[CA.bin,V3 nN,V2 e]) hx C8
 have cW:¬ op=124:=λ e=>by simpa [e] using Zu hb
 refine⟨_,rfl,_,rfl,λ x dx hx C8 ne=>⟨c.either,x,dx,_,_,rfl,qc,C.either,C.aEither.1,C.aEither.2,rfl,?_⟩⟩;exact fin c.either x dx H8 (g7.trans g8) (by rw[CA.bin,V3 nN,V3 cW]) hx C8
def qn1(c:CA):Sp:=λ vs H Q _=>∃(ao:Addr)(v:V)(ws:List V)(fs:List Fr)(t:Tr),vs=[.ref ao,v]/\H ao=some (.lst ws)/\FrmI c H ws fs/\qN c H t v/\∀ v' M5 H',But ao H H'->H' ao=some (.lst M5)->FrmI c H' M5 (wn fs t).1->qN c H' (wn fs t).2 v'->Q v' H'
theorem qn2(F:Fun K "with_nots" "with_nots" v0 f fd)(T:Txt mg)(C:CTxt K c iL iN iP)(mO:mg "Not"=some (.ref c.not))(GN:FnOk P w K mg base CX0 1 iN fdN ["self","one"] (k4 K "one"))(bN:qh K fdN ["self","one"] []):FnOk P w K mg base CX0 3 f fd ["opened","saying"] (qn1 c):=by
 refine F.okd ql4 (λ cdv A outer s H vs Q E hr h=>?_);obtain⟨ao,v,ws,fs,t,rfl,ho,fm,ob,q⟩:=h;have dF:Room 2 _:=hr.mono (by decide);refine⟨_,(qd (qeZ Jn (PW.pt (qf7 (qx qci (qD qC (by rfl) T.len Qb (qa (pv 0) qb)) qf (qG _)) (qed (qx zr (zg zK (zg zZ (pv 0) (qjd qgc qf) (λ _ _=>rfl)) qf (λ _ _=>rfl)) qm (qG _))))) (qd (zX (qai XG Yi Yj qaj (pv 0)))
  (qe (qr (i:=1) ql4.nd rfl (Or.inl rfl) (y2 C.mNot GN dF (by rfl) mO bN .nil qF (qa (pv 1) qb))))))
  (qe (qo (pv 1)))),?_⟩
 rw[qkf];refine⟨λ μ σ H'=>∃(v':V)(M5:List V)(T4:List Fr)(t':Tr),σ=[some (.ref ao),some v']/\But ao H H'/\H' ao=some (.lst M5)/\FrmI c H' M5 T4/\qN c H' t' v'/\wn T4 t'=wn fs t/\μ=T4.length,⟨_,v,ws,fs,t,rfl,But.refl _ _,ho,fm,ob,rfl,rfl⟩,?_⟩;rintro μ σ H1 ⟨v',M5,T4,t',rfl,g1,O0,fm1,cR,ew,rfl⟩;refine⟨_,rfl,ao,_,rfl,.inl (SqL.of O0),_,_,rfl,rfl,_,rfl,?_⟩;cases T4 with
 |nil =>
  have e:=fm1.empty;subst e;refine yM ?_;refine yM ?_;rw[wn] at ew;exact⟨_,rfl,q v' [] H1 g1 O0 (by rw[<- ew];exact .nil) (by rw[<- ew];exact cR)⟩
 |cons fr T4 =>
  obtain⟨us,x,rfl,fu,kx⟩:=fm1.top;obtain⟨ax,vx,rfl,bC,ke⟩:=kx;refine ifT (by rw[Zj,XY];simp) ?_;refine⟨_,rfl,_,rfl,ao,_,_,_,rfl,rfl,SqL.of O0,qe6 us (.ref ax),ax,_,_,vS [fr.1],rfl,rfl,SqT.of bC,rfl,rfl,_,rfl,?_⟩;have ee:decide (vS [fr.1]=vS [126])=decide (fr.1=126):=by
   by_cases h:fr.1=126
   ·rw[h];simp
   ·rw[Jq h,Jq λ e=>h (by have:=qgu e;simpa using this)]
  rw[show decide (vS [fr.1]=V.str (qj [126]))=decide (fr.1=126) from ee];rw[wn] at ew;by_cases h126:fr.1=126
  ·rw[V2 h126] at ew;rw[Qc h126];refine qbr ?_;refine⟨λ σ' H'=>∃(v':V)(M5:List V)(t':Tr),σ'=[some (.ref ao),some v']/\But ao H H'/\H' ao=some (.lst M5)/\FrmI c H' M5 T4/\qN c H' t' v'/\wn T4 t'=wn fs t,?_,?_⟩
   ·rintro σ' H' ⟨v2,ws2,t2,e,b1,b2,b3,b4,b5⟩;exact⟨T4.length,Up _,v2,ws2,T4,t2,e,b1,b2,b3,b4,b5,rfl⟩
   refine⟨_,rfl,.inl ⟨rfl,_,SqL.of O0⟩,ao,_,.ref ax,rfl,rfl,O0,yx us (.ref ax),?_⟩;rw[Yw];have x1:zA H1 (upd H1 ao (.lst us)):=zA.updL O0;refine⟨_,rfl,λ x dx hx C8 ne=>⟨c.not,x,dx,_,rfl,qc,C.not,C.aNot,rfl,?_⟩⟩;have k2:=((((qg.refl (upd H1 ao (.lst us))).at C8 (o:=.own x)).at ((qg.refl _).free hx) (o:=.ins c.not dx [])).at ((qg.refl _).free hx) (o:=.ins c.not dx [("one",v')]));refine⟨.ref x,us,.neg t',rfl,(g1.upd (o:=.lst us)).trans (zB k2),k2 _ _ qc,fu.monoX (x1.trans (kz k2)),⟨x,dx,v',rfl,qc,cR.monoX (x1.trans (kz k2))⟩,ew⟩
  ·rw[V3 h126] at ew;rw[Jq h126];refine yM ?_;exact⟨_,rfl,q v' _ H1 g1 O0 (by rw[<- ew];exact fm1) (by rw[<- ew];exact cR)⟩
def qn3(c:CA):Sp:=λ vs H Q _=>∃(ao:Addr)(v:V)(ws:List V)(s:PSt),vs=[.ref ao,v]/\H ao=some (.lst ws)/\FrmI c H ws s.1/\qae c H s.2 v/\∀ H',qg H H'->Q (vS (yR s)) H'
theorem qoR:("01":Str)=qj [48,49]:=by decide +kernel
theorem ql6:("~(":Str)=qj [126,40]:=by decide +kernel
theorem qn4(F:Fun K "signs_behind" "signs_behind" jn f fd)(T:Txt mg){t1 t2 t3:Tok}(hJ:mg "LETTERS"=some (.str "abcpqrxyz" t1))(hE:mg "OPENING"=some (.str "~(" t2))(iA:mg "BETWEEN"=some (.str "&|+" t3)):FnOk P w K mg base CX0 1 f fd ["opened","ended"] (qn3 c):=by
 refine F.okd qnY (λ cdv A outer s H vs Q E hr h=>?_);obtain⟨ao,v,ws,s,rfl,ho,fm,ea,q⟩:=h;refine⟨_,(qd (zf (qx qjh (pv 1) qbm (qG _)) (qe (qo (qk qz (qk qz qm (zW (v:=.str "abcpqrxyz") (by rfl) hJ ⟨_,rfl⟩)) (zW (v:=.str "~(") (by rfl) hE ⟨_,rfl⟩)))) qL)
  (qd (zf (qx zr (qD qC (by rfl) T.len Qb (qa (pv 0) qb)) qf (qG _)) (qe (qo qm)) qL)
  (qe (qo (qja (qx zr (zg zK (zg zZ (pv 0) (qjd qgc qf) (λ _ _=>rfl)) qf (λ _ _=>rfl)) qm (qG _)) (zW (v:=.str "&|+") (by rfl) iA ⟨_,rfl⟩) qm))))),?_⟩
 rw[qoR,qfI,ql6,qmW,qlB,qbB,vo];obtain⟨fs,e⟩:=s;refine⟨_,rfl,rfl,_,rfl,?_⟩;rw[ea.non];cases e with
 |none =>
  refine qbr ?_;refine⟨_,_,rfl,rfl,qp (by show 2+9<=_;decide),_,_,rfl,rfl,qp (by show 11+2<=_;decide),?_⟩;exact q H (qg.refl H)
 |some r =>
  refine yM ?_;refine⟨_,rfl,ao,_,rfl,.inl (SqL.of ho),rfl,_,rfl,?_⟩;cases fs with
  |nil =>
   have e:=fm.empty;subst e;refine qbr ?_;exact q H (qg.refl H)
  |cons fr fs =>
   obtain⟨us,x,rfl,fu,kx⟩:=fm.top;obtain⟨ax,vx,rfl,bC,ke⟩:=kx;refine qoQ (by rw[Zj,XY];simp;omega) ?_;refine⟨_,rfl,_,rfl,ao,_,_,_,rfl,rfl,SqL.of ho,qe6 us (.ref ax),ax,_,_,vS [fr.1],rfl,rfl,SqT.of bC,rfl,rfl,_,rfl,?_⟩;have ee:decide (vS [fr.1]=vS [40])=decide (fr.1=40):=by
    by_cases h:fr.1=40
    ·rw[h];simp
    ·rw[Jq h,Jq λ e=>h (by have:=qgu e;simpa using this)]
   rw[show decide (vS [fr.1]=V.str (qj [40]))=decide (fr.1=40) from ee];have el:yR (fr::fs,some r)=if fr.1=40 then [38,124,43] else [41]:=rfl
   by_cases h:fr.1=40
   ·rw[Qc h];rw[el,V2 h] at q;exact qbr (q H (qg.refl H))
   ·rw[Jq h];rw[el,V3 h] at q;exact yM (q H (qg.refl H))
def qn5(c:CA):Sp:=λ vs H Q _=>∃(ao:Addr)(v:V)(z:Nat)(ws:List V)(s:PSt),vs=[.ref ao,v,vS [z]]/\H ao=some (.lst ws)/\FrmI c H ws s.1/\qae c H s.2 v/\Wfs s/\z∈yR s/\ws.length<=10000/\∀ v' M5 H',But ao H H'->H' ao=some (.lst M5)->FrmI c H' M5 (stp s z).1->qae c H' (stp s z).2 v'->Q v' H'
theorem qn6{fw fp fs_:Addr}{fdw rM rL:FuncData}(F:Fun K "taken" "taken" qeJ f fd){t2 t3:Tok}(hE:mg "OPENING"=some (.str "~(" t2))(iA:mg "BETWEEN"=some (.str "&|+" t3))(Gw:Dp P w K mg base 3 fw fdw ["opened","saying"] (qn1 c) "with_nots")(Gp:Dp P w K mg base 3 fp rM ["sign","one","other"] (qnV c) "pair_of")(Gs:Dp P w K mg base 3 fs_ rL ["sign"] (qnU c) "single_of"):FnOk P w K mg base CX0 4 f fd ["opened","ended","sign"] (qn5 c):=by
 refine F.okd ql5 (λ cdv A outer s H vs Q E hr h=>?_);obtain⟨ao,v,z,ws,s,rfl,ho,fm,ea,wf,hl,l4,q⟩:=h;have fJ:Room 3 _:=hr.mono (by decide);refine⟨_,(qd (zf (qx kS (pv 2) (zW (v:=.str "~(") (by rfl) hE ⟨_,rfl⟩) rfl) (qd (zX (yL XG X4 X5 zt (pv 0) (qa (zl (qa (pv 2) (qa qbm qb))) qb)))
  (qe (qo qbm))) qL)
  (qd (zf (qx kS (pv 2) (zW (v:=.str "&|+") (by rfl) iA ⟨_,rfl⟩) rfl) (qd (qjb (zl (qa (pv 2) (qa (pv 1) qb))) (qmi (pv 0) (qjd qgc qf) qjq))
  (qe (qo qbm))) qL)
  (qd (zf (qx zr (pv 2) qm (qG _)) (qd (qr (i:=3) ql5.nd rfl (Or.inl rfl) (qai XG Yi Yj qaj (pv 0)))
  (qe (qo (zc Gw fJ (qa (pv 0) (qa (zc Gp fJ (qa (zg zK (pv 3) qf (λ _ _=>rfl)) (qa (zg zK (pv 3) qf (λ _ _=>rfl)) (qa (pv 1) qb)))) qb)))))) qL)
  (qe (qo (zc Gw fJ (qa (pv 0) (qa (zc Gs fJ (qa (pv 2) qb)) qb)))))))),?_⟩
 rw[ql6,qlB,vo];refine⟨_,rfl,_,_,rfl,rfl,_,rfl,?_⟩;by_cases h1:z∈[126,40]
 ·rw[Qc h1];refine qbr ?_;rw[stp,V2 h1] at q;refine⟨_,rfl,.inl ⟨rfl,_,SqL.of ho⟩,_,rfl,qp (by show 2<=_;decide),λ p hp=>?_⟩;have D8:upd H p (.tup [vS [z],.non]) ao=some (.lst ws):=(qg.up hp) _ _ ho;refine⟨ao,ws,_,rfl,rfl,D8,zh (by omega),?_⟩;have x1:zA H (upd (upd H p (.tup [vS [z],.non])) ao (.lst (ws++[.ref p]))):=(kz (qg.up hp)).trans (zA.updL D8);refine q .non _ _ ((zB (qg.up hp)).upd) qc ((fm.monoX x1).snoc ⟨p,.non,rfl,?_,rfl⟩) rfl;exact zA.updL D8 _ _ qc (λ _ z=>nomatch z)
 rw[Jq h1];refine yM ?_;refine⟨_,rfl,_,_,rfl,rfl,_,rfl,?_⟩;by_cases h2:z∈[38,124,43]
 ·rw[Qc h2];refine qbr ?_;obtain⟨fr,fs,r,rfl⟩:=qfS h2 hl;rw[stp,V3 h1,V2 h2] at q;obtain⟨us,x,rfl,fu,kx⟩:=fm.top;refine⟨_,rfl,_,rfl,qp (by show 2<=_;decide),λ p hp=>?_⟩;have D8:upd H p (.tup [vS [z],v]) ao=some (.lst (us++[x])):=(qg.up hp) _ _ ho;refine⟨_,rfl,1,rfl,ao,_,_,us.length,rfl,rfl,D8,by rw[Zj,XY];exact qj5 _,?_⟩;have es:(us++[x]).set us.length (.ref p)=us++[.ref p]:=by simp
  rw[es];have x1:zA H (upd (upd H p (.tup [vS [z],v])) ao (.lst (us++[.ref p]))):=(kz (qg.up hp)).trans (zA.updL D8);refine q .non _ _ ((zB (qg.up hp)).upd) qc ((fu.monoX x1).snoc ⟨p,v,rfl,?_,ea.monoX x1⟩) rfl;exact zA.updL D8 _ _ qc (λ _ z=>nomatch z)
 rw[Jq h2];refine yM ?_;refine jK (yh (qbd qA (dvA rfl) dC)) at0 (λ hb H1 g1=>?_) (λ hb H1 g1=>?_)
 ·have e:z=41:=by simpa using Um hb
  subst e;obtain⟨op,l,fs,r,rfl,D8⟩:=qiJ wf hl;rw[stp,V3 h1,V3 h2,V2 rfl] at q;obtain⟨us,x,rfl,fu,kx⟩:=fm.top;obtain⟨ax,vx,rfl,bC,ke⟩:=kx;have O0:=g1 _ _ ho;refine⟨_,rfl,.inl ⟨rfl,_,SqL.of O0⟩,ao,_,.ref ax,rfl,rfl,O0,yx us (.ref ax),?_⟩;rw[Yw];have x1:zA H (upd H1 ao (.lst us)):=(kz g1).trans (zA.updL O0);have pL:=x1 _ _ bC (λ _ z=>nomatch z);refine⟨_,rfl,_,rfl,ax,_,_,vS [op],rfl,rfl,SqT.of pL,rfl,_,rfl,ax,_,_,vx,rfl,rfl,SqT.of pL,rfl,_,rfl,op,vx,v,l,r,rfl,D8,qN.monoX x1 ke,qN.monoX x1 ea,λ o H2 g2 ob=>?_⟩;refine⟨ao,o,us,fs,.bin op l r,rfl,g2 _ _ qc,(fu.monoX x1).monoX (kz g2),ob,λ v' M5 H3 b3 e3 f3 o3=>?_⟩;exact q v' M5 H3 ((((zB g1).upd).trans (zB g2)).trans b3) e3 f3 o3
 ·have n41:¬ z=41:=λ e=>by simpa [e] using Zu hb
  rw[stp,V3 h1,V3 h2,V3 n41] at q;refine⟨_,rfl,_,rfl,z,rfl,λ o H2 g2 ob=>?_⟩;have L9:=g1.trans g2;refine⟨ao,o,ws,s.1,jq z,rfl,L9 _ _ ho,fm.monoX (kz L9),ob,λ v' M5 H3 b3 e3 f3 o3=>?_⟩;exact q v' M5 H3 ((zB L9).trans b3) e3 f3 o3
def qn7(c:CA):Sp:=λ vs H Q _=>∃ t:Tr,vs=[vS t.text]/\t.Of zw/\t.wt<=1000/\∀ o H',qg H H'->qN c H' t o->Q o H'
theorem qn8{fg ft:Addr}{fdg fdt:FuncData}(F:Fun K "read" "read" qgH f fd)(T:Txt mg)(Gg:Dp P w K mg base 1 fg fdg ["opened","ended"] (qn3 c) "signs_behind")(Gt:Dp P w K mg base 4 ft fdt ["opened","ended","sign"] (qn5 c) "taken"):FnOk P w K mg base CX0 5 f fd ["text"] (qn7 c):=by
 refine F.okd qdY (λ cdv A outer s H vs Q E hr h=>?_);obtain⟨t,rfl,of,hw,q⟩:=h;have E3:Room 1 _:=hr.mono (by decide);have hr4:Room 4 _:=hr.mono (by decide);refine⟨_,(qd (qr (i:=1) qdY.nd rfl (Or.inl rfl) (zE qb))
  (qd (qr (i:=2) qdY.nd rfl (Or.inl rfl) qbm)
  (qd (qez Jn rfl (qcW (by rfl) T.enumerate (qa (pv 0) qb)) (qO (qt (i:=3) qdY.nd rfl (Or.inl rfl)) (qO (qt (i:=4) qdY.nd rfl (Or.inl rfl)) zY))
  (qd (zf (qx j7 (pv 4) (zc Gg E3 (qa (pv 1) (qa (pv 2) qb))) rfl) (qe jg) qL)
   (qe (qr (i:=2) qdY.nd rfl (Or.inl rfl) (zc Gt hr4 (qa (pv 1) (qa (pv 2) (qa (pv 4) qb))))))))
   (qd (zf (PW.pt (qhi (qx qjh (pv 2) qbm (qG _))
   (qee (qx qci (qD qC (by rfl) T.len Qb (qa (pv 1) qb)) qf (qG _))))) (qe jg) qL)
   (qe (qo (pv 2))))))),?_⟩
 have tl:=t.text_len;have N0:=qiI of;have hs:(qj t.text).cps.size=t.text.length:=qu t.text;refine⟨Vd _,λ ao hao=>?_⟩;refine⟨_,rfl,_,rfl,?_⟩;refine qdQ (λ i σ H'=>∃(v:V)(ws:List V)(s:PSt)(v3 v4:Option V),σ=[some (vS t.text),some (.ref ao),some v,v3,v4]/\qg H H'/\H' ao=some (.lst ws)/\FrmI c H' ws s.1/\qae c H' s.2 v/\run ([],none) (t.text.take i)=some s/\ws.length<=i)
  ⟨.non,[],([],none),none,none,rfl,qg.up hao,qc,.nil,rfl,rfl,Vc _⟩ ?_ ?_
 ·rintro i σ H1 hi ⟨v,ws,s,v3,v4,rfl,g1,e1,fm,ea,aR,lw⟩;rw[hs] at hi;rw[jo hi];obtain⟨hl,oH⟩:=qm0 N0 hi aR;have wf:=qhO qoP aR;refine⟨_,_,rfl,_,_,rfl,rfl,?_⟩;refine⟨_,rfl,_,rfl,_,rfl,ao,v,ws,s,rfl,e1,fm,ea,λ H2 g2=>?_⟩;refine⟨_,_,rfl,rfl,_,rfl,?_⟩;rw[Qc hl];refine yM ?_;have x2:=kz g2;refine⟨_,rfl,_,rfl,_,rfl,ao,v,_,ws,s,rfl,g2 _ _ e1,fm.monoX x2,ea.monoX x2,wf,hl,by omega,λ v' M5 H3 b3 e3 f3 o3=>?_⟩;have ln:=f3.len;have E2:(stp s t.text[i]).1.length<=i+1:=by have:=qlI s t.text[i];have:=fm.len;omega
  exact⟨v',M5,stp s t.text[i],_,_,rfl,b3.same (g1.trans g2) hao,e3,f3,o3,oH,by omega⟩
 ·rintro σ H1 ⟨v,ws,s,v3,v4,rfl,g1,e1,fm,ea,aR,lw⟩;rw[hs,Ux,N0] at aR;cases aR
  have e:=fm.empty;subst e;obtain⟨a,rfl⟩:=qN.ref ea;refine⟨_,rfl,rfl,_,rfl,yM ?_⟩;refine⟨_,rfl,ao,_,rfl,.inl (SqL.of e1),_,_,rfl,rfl,_,rfl,yM ?_⟩;exact⟨_,rfl,q _ H1 g1 ea⟩
end
theorem qkA:FnScope ["text","letters","sign"] ["text","letters"] (qi yu):=scF
theorem qhP:FnScope ["wish","letters","halves","left","right"] ["wish","letters"] (qi kg):=scF
theorem qfT:FnScope ["sides","fault","left","right"] ["sides"] (qi qay):=scF
def ql7:Sp:=λ vs H Q _=>∃ x ls:List Nat,vs=[vS x,vS ls]/\(∀ c∈x,c∈zw->c∈ls)/\∀ H',qg H H'->Q .non H'
theorem qm1{f:Addr}{fd:FuncData}(F:Fun K "refuse_strange" "refuse_strange" yu f fd){t1:Tok}(hJ:mg "LETTERS"=some (.str "abcpqrxyz" t1)):FnOk P w K mg base CX0 1 f fd ["text","letters"] ql7:=by
 refine F.okd qkA (λ cdv A outer s H vs Q E hr h=>?_);obtain⟨x,ls,rfl,hx,q⟩:=h;refine⟨_,(qe (zR Jn rfl (vJ (pv 0)) (qt (i:=2) qkA.nd rfl (Or.inl rfl))
  (qe (zf (PW.pt (qf7 (qx kS (pv 2) (zW (v:=.str "abcpqrxyz") (by rfl) hJ ⟨_,rfl⟩) rfl) (qed (qx j7 (pv 2) (pv 1) rfl)))) (qe jg) qL)))),?_⟩
 rw[qfI];have hs:(qj x).cps.size=x.length:=qu x;refine⟨_,rfl,_,rfl,?_⟩;refine qb2 (λ j σ H'=>∃ v2:Option V,σ=[some (vS x),some (vS ls),v2]/\qg H H') ⟨none,rfl,qg.refl H⟩ ?_ ?_
 ·rintro j σ H1 hj ⟨v2,rfl,g1⟩;rw[hs] at hj;rw[jo hj];refine⟨_,rfl,_,_,rfl,rfl,_,rfl,?_⟩;by_cases h:x[j]∈zw
  ·rw[Qc h];refine qbr ?_;refine⟨_,rfl,_,rfl,_,_,rfl,rfl,_,rfl,?_⟩;rw[Qc (hx _ (Uw hj) h)];exact yM ⟨_,rfl,g1⟩
  ·rw[Jq h];refine yM ?_;exact yM ⟨_,rfl,g1⟩
 ·rintro σ H1 ⟨v2,rfl,g1⟩;exact q H1 g1
theorem zM:∀{t:Tr}{c:Nat},t.Of zw->c∈t.text->¬ c=32/\¬ c=61/\(c∈zw->t.Has c)
 |.letter l,c,h,hc=>by
  have e:c=l:=Zq.mp hc;subst e
  have:=(by decide:∀ c∈zw,¬ c=32/\¬ c=61) c h
  exact⟨this.1,this.2,λ _=>rfl⟩
 |.one,c,_,hc=>by
  have e:c=49:=Zq.mp hc;subst e;exact⟨by decide,by decide,λ h=>absurd h (by decide)⟩
 |.zero,c,_,hc=>by
  have e:c=48:=Zq.mp hc;subst e;exact⟨by decide,by decide,λ h=>absurd h (by decide)⟩
 |.neg t,c,h,hc=>by
  rcases U5.mp hc with e|e
  ·have e:c=126:=Zq.mp e;subst e;exact⟨by decide,by decide,λ h=>absurd h (by decide)⟩
  ·exact zM (t:=t) h e
 |.bin op t u,c,h,hc=>by
  obtain⟨D8,ht,hu⟩:=h;have hc:c∈[40]++t.text++[op]++u.text++[41]:=hc;rcases U5.mp hc with hc|e
  ·rcases U5.mp hc with hc | e
   ·rcases U5.mp hc with hc | e
    ·rcases U5.mp hc with e | e
     ·have e:c=40:=Zq.mp e;subst e;exact⟨by decide,by decide,λ h=>absurd h (by decide)⟩
     ·obtain⟨a,b,d⟩:=zM ht e;exact⟨a,b,λ h=>.inl (d h)⟩
    ·have e:c=op:=Zq.mp e;subst e;rcases D8 with rfl|rfl|rfl <;> exact⟨by decide,by decide,λ h=>absurd h (by decide)⟩
   ·obtain⟨a,b,d⟩:=zM hu e;exact⟨a,b,λ h=>.inr (d h)⟩
  ·have e:c=41:=Zq.mp e;subst e;exact⟨by decide,by decide,λ h=>absurd h (by decide)⟩
theorem qhQ(t:Tr):t.text≠[]:=by cases t <;> simp[Tr.text]
theorem wt_nodes:∀ t:Tr,(t.wt:Int)<=t.nodes
 |.letter _=>by show(1:Int)<=1;decide
 |.one=>by show(1:Int)<=1;decide
 |.zero=>by show(1:Int)<=1;decide
 |.neg t=>by have:=wt_nodes t;show((t.wt+1:Nat):Int)<=1+t.nodes;omega
 |.bin _ t u=>by have:=wt_nodes t;have:=wt_nodes u;show((t.wt+u.wt:Nat):Int)<=1+t.nodes+u.nodes;omega
theorem Tr.Of.upL{ls us:List Nat}:∀{t:Tr},t.Of ls->(∀ c,c∈ls->c∈us)->t.Of us
 |.letter l,h,g=>g l h
 |.neg t,o,h=>Tr.Of.upL (t:=t) o h
 |.bin _ t u,o,h=>⟨o.1,Tr.Of.upL (t:=t) o.2.1 h,Tr.Of.upL (t:=u) o.2.2 h⟩
 |.one,_,_=>trivial
 |.zero,_,_=>trivial
structure Wsh where 
 i:Nat
 j:Nat
 k:Nat
 l:Nat
 t:Tr
 u:Tr
noncomputable def Wsh.text(x:Wsh):List Nat:=(List.replicate x.i 32++x.t.text++List.replicate x.j 32)++61::(List.replicate x.k 32++x.u.text++List.replicate x.l 32)
structure Wsh.Ok(ls:List Nat)(x:Wsh):Prop where
 bl:x.i<=100/\x.j<=100/\x.k<=100/\x.l<=100
 t:x.t.Of ls
 u:x.u.Of ls
 tn:x.t.nodes<=20
 un:x.u.nodes<=20
def qn9(c:CA):Sp:=λ vs H Q _=>∃(x:Wsh)(ls:List Nat),vs=[vS x.text,vS ls]/\x.Ok ls/\(∀ c∈ls,c∈zw)/\∀ r a b H',qg H H'->H' r=some (.tup [a,b])->qN c H' x.t a->qN c H' x.u b->Q (.ref r) H'
theorem qoa{c:CA}{iL iN iP gH fZ gB fY gG fX gC rC rA rB pZ bK f fr ff:Addr}{lK lE lH lD lJ lC lI uE uC uD uB mT fd fdr fdf:FuncData}(F:Fun K "wish_read" "wish_read" kg f fd)(C:CTxt K c iL iN iP){tp:Tok}(nO:mg "MOST_PARTS"=some (.int 20 tp))(Mt:MTxt K c "text" gH fZ gB fY gG fX gC)(Vt:VOk P w K mg base zP c 21 kD kR kE gH fZ gB fY gG fX gC lK lE lH lD lJ lC lI)(Ms:MTxt K c "size" rC rA rB pZ bK bK bK)(Vs:VOk P w K mg base vSz c 21 kP kP kP rC rA rB pZ bK bK bK uE uC uD uB mT mT mT)(eY:qh K lK ["self"] [])(eU:qh K lE ["self"] [])(eV:qh K lH ["self"] [])(eS:qh K lD ["self"] [])(eX:qh K lJ ["self"] [])(eR:qh K lC ["self"] [])(eW:qh K lI ["self"] [])(rW:qh K uE ["self"] [])(rT:qh K uC ["self"] [])(rV:qh K uD ["self"] [])(rS:qh K uB ["self"] [])(mW:qh K mT ["self"] [])(Gr:Dp P w K mg base 5 fr fdr ["text"] (qn7 c) "read")(Gf:Dp P w K mg base 1 ff fdf ["text","letters"] ql7 "refuse_strange"):
  FnOk P w K mg base CX0 22 f fd ["wish","letters"] (qn9 c):=by
 refine F.okd qhP (λ cdv A outer s H vs Q E hr h=>?_);obtain⟨x,ls,rfl,ok,l9,q⟩:=h;have E3:Room 1 _:=hr.mono (by decide);have hr5:Room 5 _:=hr.mono (by decide);have O9:Room 21 _:=hr.mono (by decide);have bsD:=mW;have bsR:=mW;have bsE:=mW;refine⟨_,(qd (zf (qx j7 qm (pv 0) rfl) (qe jg) qL)
  (qd (qr (i:=2) qhP.nd rfl (Or.inl rfl) (yL XS PySem.F.slot_str_partition PySem.F.type_str_partition qlw (pv 0) (qa qm qb)))
  (qd (qr (i:=3) qhP.nd rfl (Or.inl rfl) (zc Gr hr5 (qa (yL XS PySem.F.slot_str_strip PySem.F.type_str_strip qfB (zg zK (pv 2) qf (λ _ _=>rfl)) (qa qm qb)) qb)))
  (qd (qr (i:=4) qhP.nd rfl (Or.inl rfl) (zc Gr hr5 (qa (yL XS PySem.F.slot_str_strip PySem.F.type_str_strip qfB (zg zK (pv 2) qf (λ _ _=>rfl)) (qa qm qb)) qb)))
  (qd (zf (PW.pt (qhi (qx qci (k8 (pv 3) C Ms Vs O9 rW rT rV rS bsD bsR bsE) (zW (v:=.int 20) (by rfl) nO ⟨_,rfl⟩) (qG _))
   (qee (qx qci (k8 (pv 4) C Ms Vs O9 rW rT rV rS bsD bsR bsE) (zW (v:=.int 20) (by rfl) nO ⟨_,rfl⟩) (qG _))))) (qe jg) qL)
  (qd (zX (zc Gf E3 (qa (qk qz (k8 (pv 3) C Mt Vt O9 eY eU eV eS eX eR eW) (k8 (pv 4) C Mt Vt O9 eY eU eV eS eX eR eW)) (qa (pv 1) qb))))
  (qe (qo (zl (qa (pv 3) (qa (pv 4) qb))))))))))),?_⟩
 rw[show("=":Str)=qj [61] by decide +kernel,show(" ":Str)=qj [32] by decide +kernel];obtain⟨i,j,k,l,t,u⟩:=x;obtain⟨⟨bi,bj,bk,bl⟩,ot,ou,tn,un⟩:=ok;have bi:i<=100:=bi;have bj:j<=100:=bj;have bk:k<=100:=bk;have bl:l<=100:=bl;have ot:t.Of ls:=ot;have ou:u.Of ls:=ou;have lW:=ot.upL l9;have nH:=ou.upL l9;have wt1:=wt_nodes t;have wt2:=wt_nodes u;have tn:t.nodes<=20:=tn;have un:u.nodes<=20:=un;have lt1:=t.text_len;have lt2:=u.text_len;have ht1:=t.ht_wt;have ht2:=u.ht_wt;have hw1:t.wt<=20:=by omega
 have hw2:u.wt<=20:=by omega
 have nt:61∉List.replicate i 32++t.text++List.replicate j 32:=λ h=>by
  rcases U5.mp h with h|h
  ·rcases U5.mp h with h | h
   ·exact absurd (List.eq_of_mem_replicate h) (by decide)
   ·exact(zM lW h).2.1 rfl
  ·exact absurd (List.eq_of_mem_replicate h) (by decide)
 refine⟨_,rfl,_,_,rfl,rfl,_,rfl,?_⟩;rw[Qc (show 61∈Wsh.text ⟨i,j,k,l,t,u⟩ from XU _ (Zf ..))];refine yM ?_;refine⟨_,rfl,rfl,_,_,_,rfl,rfl,nt,by simp only[Zj,XV];omega,λ p hp=>?_⟩;have g1:=qg.up hp (o:=.tup [vS (List.replicate i 32++t.text++List.replicate j 32),vS [61],vS (List.replicate k 32++u.text++List.replicate l 32)]);have e1:upd H p (.tup [vS (List.replicate i 32++t.text++List.replicate j 32),vS [61],vS (List.replicate k 32++u.text++List.replicate l 32)]) p=some (.tup [vS (List.replicate i 32++t.text++List.replicate j 32),vS [61],vS (List.replicate k 32++u.text++List.replicate l 32)]):=qc;generalize upd H p (.tup [vS (List.replicate i 32++t.text++List.replicate j 32),vS [61],vS (List.replicate k 32++u.text++List.replicate l 32)])=H1 at g1 e1;refine⟨_,rfl,p,_,_,_,rfl,rfl,SqT.of e1,rfl,rfl,i,j,t.text,rfl,rfl,qhQ t,λ h=>(zM lW h).1 rfl,by omega,t,rfl,lW,by omega,λ a H2 g2 cR=>?_⟩;refine⟨_,rfl,p,_,_,_,rfl,rfl,SqT.of (g2 _ _ e1),rfl,rfl,k,l,u.text,rfl,rfl,qhQ u,λ h=>(zM nH h).1 rfl,by omega,u,rfl,nH,by omega,λ b H3 g3 wO=>?_⟩;have cR:=cR.mono g3;refine dV (f:=vSz) (n:=21) (κd:=kP) (κr:=kP) (κe:=kP) (λ _ _=>⟨rfl,rfl,rfl⟩) (λ _ _=>⟨_,_,_,rfl⟩) (λ _ _=>⟨_,_,_,rfl⟩) (λ _ _=>⟨_,_,_,rfl⟩) (dvA rfl) cR (by omega) (by omega) lW _ _ _ at0 λ H4 g4=>?_
 refine⟨_,_,rfl,rfl,_,rfl,?_⟩;rw[Jq (show ¬ (20:Int)<t.nodes by omega)];refine yM ?_;refine dV (f:=vSz) (n:=21) (κd:=kP) (κr:=kP) (κe:=kP) (λ _ _=>⟨rfl,rfl,rfl⟩) (λ _ _=>⟨_,_,_,rfl⟩) (λ _ _=>⟨_,_,_,rfl⟩) (λ _ _=>⟨_,_,_,rfl⟩) (dvA rfl) (wO.mono g4) (by omega) (by omega) nH _ _ _ at0 λ H5 g5=>?_
 refine⟨_,_,rfl,rfl,_,rfl,?_⟩;rw[Jq (show ¬ (20:Int)<u.nodes by omega)];refine yM ?_;have cK:=g4.trans g5;refine(ya qA (dV (f:=zP) (n:=21) (κd:=kD) (κr:=kR) (κe:=kE) (λ _ _=>⟨rfl,rfl,rfl⟩) (λ _ _=>⟨_,_,rfl⟩) (λ _ _=>⟨_,_,rfl⟩) (λ _ _=>⟨_,_,rfl⟩) (dvA rfl) (cR.mono cK) (by omega) (by omega) lW)
  (dV (f:=zP) (n:=21) (κd:=kD) (κr:=kR) (κe:=kE) (λ _ _=>⟨rfl,rfl,rfl⟩) (λ _ _=>⟨_,_,rfl⟩) (λ _ _=>⟨_,_,rfl⟩) (λ _ _=>⟨_,_,rfl⟩) (dvA rfl) (wO.mono cK) (by omega) (by omega) nH) (by omega)) _ _ _ at0 λ H6 g6=>?_
 refine⟨_,rfl,_,ls,rfl,λ z hz hn=>?_,λ H7 g7=>?_⟩
 ·rcases U5.mp hz with h | h
  ·exact Tr.Of.has ot ((zM lW h).2.2 hn)
  ·exact Tr.Of.has ou ((zM nH h).2.2 hn)
 have g37:=(cK.trans g6).trans g7;refine⟨_,rfl,_,rfl,qp (by show 2<=_;decide),λ r N9=>?_⟩;have g38:=g37.to N9 (o:=.tup [a,b]);exact q r a b _ (((g1.trans g2).trans g3).trans g38) qc (cR.mono g38) (wO.mono g38)
noncomputable def qS(M8:List (List Pr×List Pr)):List Pr:=M8.foldl (λ c6 fg=>join c6 (added fg.1 fg.2)) []
theorem qbS(M8:List (List Pr×List Pr))(x:List Pr×List Pr):qS (M8++[x])=join (qS M8) (added x.1 x.2):=by unfold qS;rw[Z9];rfl
theorem qbD{ls:List Nat}:∀(M8:List (List Pr×List Pr)),(∀ x∈M8,On ls x.1/\On ls x.2)->On ls (qS M8):=by
 intro M8 h;have i9:∀(l:List (List Pr×List Pr))(c6:List Pr),On ls c6->(∀ x∈l,On ls x.1/\On ls x.2)->On ls (l.foldl (λ c6 fg=>join c6 (added fg.1 fg.2)) c6):=by
  intro l;induction l with
  |nil=>intro c6 ha _;exact ha
  |cons x l ih =>
   intro c6 ha hl;have hx:=hl x (Zf ..);exact ih _ (ha.join (hx.1.added hx.2)) λ y hy=>hl y (Yl _ hy)
 exact i9 M8 [] (On.nil ls) h
def yl(H:Hp)(p:Addr)(fg:List Pr×List Pr):Prop:=∃ x y:Addr,H p=some (.tup [.ref x,.ref y])/\H x=some (.tup (fg.1.map vS))/\H y=some (.tup (fg.2.map vS))
theorem yl.mono{H H':Hp}{p:Addr}{fg:List Pr×List Pr}(h:yl H p fg)(g:qg H H'):yl H' p fg:=let ⟨x,y,a,b,c⟩:=h;⟨x,y,g _ _ a,g _ _ b,g _ _ c⟩
def qob(K:W.Frag):Sp:=λ vs H Q _=>∃(a:Addr)(ps:List Addr)(M8:List (List Pr×List Pr))(ls:List Nat),vs=[.ref a]/\H a=some (.lst (ps.map V.ref))/\Paired (yl H) ps M8/\ls.Pairwise (·<·)/\ls.length<=6/\(∀ x∈M8,On ls x.1/\On ls x.2)/\∀ r H',qg H H'->H' r=some (.tup ((qS M8).map vS))->Q (.ref r) H'
theorem ql8{ls:List Nat}{F:List Pr}(h:On ls F)(hl:ls.Pairwise (·<·))(l6:ls.length<=6):F.flatten.length<=192:=by
 have h1:=h.flat2 hl
 have:=qmX ls.length l6
 omega
theorem qoc{f fa fj:Addr}{fd rN fdj:FuncData}(F:Fun K "fault_of" "fault_of" qay f fd)(Ga:Dp P w K mg base 1 fa rN ["one","other"] (qgL K added) "added")(Gj:Dp P w K mg base 13 fj fdj ["one","other"] (sp2 K join) "joined"):FnOk P w K mg base CX0 14 f fd ["sides"] (qob K):=by
 refine F.okd qfT (λ cdv A outer s H vs Q E hr h=>?_);obtain⟨a,ps,M8,ls,rfl,ha,pr,rl,l6,tJ,q⟩:=h;have E3:Room 1 _:=hr.mono (by decide);have C9:Room 13 _:=hr.mono (by decide);have o9:Ok9 ls:=⟨rl,by omega⟩;refine⟨_,(qd (qr (i:=1) qfT.nd rfl (Or.inl rfl) (zl qb))
  (qd (zR Jn rfl (yi (pv 0)) (qcg (n:=2) rfl (qO (qt (i:=2) qfT.nd rfl (Or.inl rfl)) (qO (qt (i:=3) qfT.nd rfl (Or.inl rfl)) zY)))
  (qe (qr (i:=1) qfT.nd rfl (Or.inl rfl) (zc Gj C9 (qa (pv 1) (qa (zc Ga E3 (qa (pv 2) (qa (pv 3) qb))) qb))))))
  (qe (qo (pv 1))))),?_⟩
 refine⟨Vd _,λ f0 hf0=>?_⟩;refine⟨_,rfl,a,rfl,⟨_,SqL.of ((qg.up hf0) _ _ ha)⟩,?_⟩;refine vC (K:=K) (xs:=ps.map V.ref) (λ i σ H'=>∃(r:Addr)(v2 v3:Option V),σ=[some (.ref a),some (.ref r),v2,v3]/\qg H H'/\H' r=some (.tup ((qS (M8.take i)).map vS))) ⟨f0,none,none,rfl,qg.up hf0,qc⟩ (λ i σ H' _ ⟨_,_,_,_,g,_⟩=>SqL.of (g _ _ ha)) ?_ ?_
 ·rintro i x σ H1 hx ⟨r,v2,v3,rfl,g1,e1⟩;obtain⟨p,hp,rfl⟩:=ql hx;obtain⟨fg,pC,sd⟩:=zk pr i p hp;obtain⟨x,y,s1,s2,s3⟩:=sd.mono g1;obtain⟨o1,o2⟩:=tJ fg (Yn pC);have oT:On ls (qS (M8.take i)):=qbD _ λ x hx=>tJ x (Ys hx)
  refine⟨p,_,rfl,SqT.of s1,rfl,_,_,rfl,_,_,rfl,rfl,?_⟩;refine⟨_,rfl,_,rfl,_,rfl,x,y,fg.1,fg.2,ls,rfl,SqT.of s2,SqT.of s3,o9,o1,o2,λ r2 H2 g2 e2=>?_⟩;refine⟨r,r2,qS (M8.take i),added fg.1 fg.2,ls,rfl,SqT.of (g2 _ _ e1),SqT.of e2,o9,oT,o1.added o2,?_,λ r3 H3 g3 e3=>?_⟩
  ·have a1:=ql8 oT rl l6;have a2:=ql8 (o1.added o2) rl l6;omega
  exact⟨r3,_,_,rfl,(g1.trans g2).trans g3,by rw[q9 pC,qbS];exact e3⟩
 ·rintro σ H1 ⟨r,v2,v3,rfl,g1,e1⟩;rw[U7,show ps.length=M8.length from Y7 pr,Ux] at e1;exact⟨_,rfl,q r H1 g1 e1⟩
def qhR:Sp:=λ vs H Q _=>∃(p ls:List Nat),vs=[vS p,vS ls]/\ls.length<=9/\p.length<=9/\p.Sublist ls/\ls.Pairwise (·<·)/\∀ H',qg H H'->Q (.bl true) H'
theorem qhS:FnScope ["self","givens","gaps","wishes","pairs"] ["self","givens","gaps","wishes"] (qi kc):=scF
structure NotC(c:CA)(X:Addr):Prop where
 a:X≠c.always
 n:X≠c.never
 l:X≠c.letter
 o:X≠c.not
 d:X≠c.and
 r:X≠c.or
 e:X≠c.either
theorem NotC.bin{c:CA}{X:Addr}(h:NotC c X)(op:Nat):X≠c.bin op:=by
 unfold CA.bin;split
 ·exact h.d
 ·split
  ·exact h.r
  ·exact h.e
theorem qc9{H:Hp}{x a X C dx dy:Addr}{fs gs:List (Str×V)}(h:H x=some (.ins X dx fs))(g:H a=some (.ins C dy gs))(n:X≠C):a≠x:=λ e=>by rw[e,h] at g;cases g;exact n rfl
theorem qN.but{c:CA}{x X dx:Addr}{fs:List (Str×V)}{H H':Hp}(n:NotC c X)(h:H x=some (.ins X dx fs))(g:But x H H'):∀{t:Tr}{v:V},qN c H t v->qN c H' t v
 |.letter _,_,⟨a,dx,e,k⟩=>⟨a,dx,e,g _ _ (qc9 h k n.l) k⟩
 |.one,_,⟨a,dx,e,k⟩=>⟨a,dx,e,g _ _ (qc9 h k n.a) k⟩
 |.zero,_,⟨a,dx,e,k⟩=>⟨a,dx,e,g _ _ (qc9 h k n.n) k⟩
 |.neg t,_,⟨a,dx,y,e,k,r⟩=>⟨a,dx,y,e,g _ _ (qc9 h k n.o) k,qN.but n h g r⟩
 |.bin op t u,_,⟨a,dx,y,z,e,k,r,r'⟩=>⟨a,dx,y,z,e,g _ _ (qc9 h k (n.bin op)) k,qN.but n h g r,qN.but n h g r'⟩
def jG(c:CA)(H:Hp)(p:Addr)(x:Wsh):Prop:=∃ a b:V,H p=some (.tup [a,b])/\qN c H x.t a/\qN c H x.u b
theorem jG.mono{c:CA}{H H':Hp}{p:Addr}{x:Wsh}(h:jG c H p x)(g:qg H H'):jG c H' p x:=let ⟨a,b,e,o1,o2⟩:=h;⟨a,b,g _ _ e,o1.mono g,o2.mono g⟩
theorem jG.but{c:CA}{x X dx:Addr}{fs:List (Str×V)}{H H':Hp}{p:Addr}{y:Wsh}(n:NotC c X)(hx:H x=some (.ins X dx fs))(g:But x H H')(h:jG c H p y):jG c H' p y:=
 let ⟨a,b,e,o1,o2⟩:=h;⟨a,b,g _ _ (λ q=>by rw[q,hx] at e;cases e) e,qN.but n hx g o1,qN.but n hx g o2⟩
theorem qca{x X dx:Addr}{fs:List (Str×V)}{H H':Hp}{a:Addr}{vs:List V}(hx:H x=some (.ins X dx fs))(g:But x H H')(h:H a=some (.tup vs)):H' a=some (.tup vs):=g _ _ (λ q=>by rw[q,hx] at h;cases h) h
theorem vp{x X dx:Addr}{fs:List (Str×V)}{H H':Hp}{a:Addr}{vs:List V}(hx:H x=some (.ins X dx fs))(g:But x H H')(h:H a=some (.lst vs)):H' a=some (.lst vs):=g _ _ (λ q=>by rw[q,hx] at h;cases h) h
theorem yl.but{x X dx:Addr}{fs:List (Str×V)}{H H':Hp}{p:Addr}{fg:List Pr×List Pr}(hx:H x=some (.ins X dx fs))(g:But x H H')(h:yl H p fg):yl H' p fg:=
 let ⟨a,b,e,o1,o2⟩:=h;⟨a,b,qca hx g e,qca hx g o1,qca hx g o2⟩
noncomputable def Wsh.said(x:Wsh):List Nat:=x.t.text++[32,61,32]++x.u.text
noncomputable def Wsh.side(x:Wsh):List Pr×List Pr:=(x.t.form,x.u.form)
structure TaskAt(CT:Addr)(H:Hp)(o:Addr)(gv gp:List Nat)(ws:List Wsh)(dx a1 a2 a3:Addr)(ps:List Addr):Prop where
 ins:H o=some (.ins CT dx [("given_letters",vS gv),("gap_letters",vS gp),("wish_texts",.ref a1),("side_forms",.ref a2),("fault_form",.ref a3)])
 said:H a1=some (.lst (ws.map λ x=>vS x.said))
 sides:H a2=some (.lst (ps.map V.ref))
 side:Paired (yl H) ps (ws.map Wsh.side)
 fault:H a3=some (.tup ((qS (ws.map Wsh.side)).map vS))
noncomputable def abc:List Nat:=[97,98,99]
noncomputable def xyz:List Nat:=[120,121,122]
theorem qlJ:("abc":Str)=qj abc:=by decide +kernel
theorem qlK:("xyz":Str)=qj xyz:=by decide +kernel
theorem qbE{gv gp:List Nat}(h1:gv.Sublist abc)(h2:gp.Sublist xyz):(gv++gp).Pairwise (·<·)/\(gv++gp).length<=6/\∀ c∈gv++gp,c∈zw:=by
 have s:(gv++gp).Sublist (abc++xyz):=h1.append h2;have r:(abc++xyz).Pairwise (·<·):=by decide
 exact⟨r.sublist s,s.length_le,λ c hc=>(by decide:∀ c∈abc++xyz,c∈zw) c (s.subset hc)⟩
def qkB(K:W.Frag)(CT:Addr):Sp:=λ vs H Q _=>∃(x dx wl:Addr)(gv gp:List Nat)(ws:List Wsh),vs=[.ref x,vS gv,vS gp,.ref wl]/\H x=some (.ins CT dx [])/\SqL K H wl (ws.map λ y=>vS y.text)/\gv.Sublist abc/\gp.Sublist xyz/\ws.length<=6/\(∀ y∈ws,y.Ok (gv++gp))/\∀ a1 a2 a3 ps H',But x H H'->H a1=none->H a2=none->TaskAt CT H' x gv gp ws dx a1 a2 a3 ps->Q .non H'
theorem qlL{c:CA}{CT iL iN iP gH fZ gB fY gG fX gC rK rF rG rE rJ rD rH f fI fW fF:Addr}{lK lE lH lD lJ lC lI uL uH uI uG uK uF uJ fd fdI fdW fdF:FuncData}(F:Fun K "__init__" "Task.__init__" kc f fd)(T:Txt mg)(C:CTxt K c iL iN iP)(cT:Cls K CT)(nc:NotC c CT)(n1:NoAttr K CT "given_letters")(n2:NoAttr K CT "gap_letters")(n3:NoAttr K CT "wish_texts")(n4:NoAttr K CT "side_forms")(n5:NoAttr K CT "fault_form"){t1 t2 t3:Tok}(wW:mg "GIVENS"=some (.str "abc" t1))(wX:mg "GAPS"=some (.str "xyz" t2))(mmw:mg "MOST_WISHES"=some (.int 6 t3))(Mt:MTxt K c "text" gH fZ gB fY gG fX gC)(Vt:VOk P w K mg base zP c 21 kD kR kE gH fZ gB fY gG fX gC lK lE lH lD lJ lC lI)(Mf:FTxt K c rK rF rG rE rJ rD rH)(Gf:FOk P w K mg base c 21 rK rF rG rE rJ rD rH uL uH uI uG uK uF uJ)(eY:qh K lK ["self"] [])(eU:qh K lE ["self"] [])(eV:qh K lH ["self"] [])(eS:qh K lD ["self"] [])(eX:qh K lJ ["self"] [])(eR:qh K lC ["self"] [])(eW:qh K lI ["self"] [])(sE:qh K uL ["self"] [])(sA:qh K uH ["self"] [])(sB:qh K uI ["self"] [])(rZ:qh K uG ["self"] [])(sD:qh K uK ["self"] [])(rY:qh K uF ["self"] [])(sC:qh K uJ ["self"] [])(GI:Dp P w K mg base 1 fI fdI ["text","letters"] qhR "is_row")(GW:Dp P w K mg base 22 fW fdW ["wish","letters"] (qn9 c) "wish_read")(GF:Dp P w K mg base 14 fF fdF ["sides"] (qob K) "fault_of"):
  FnOk P w K mg base CX0 35 f fd ["self","givens","gaps","wishes"] (qkB K CT):=by
 refine F.okd qhS (λ cdv A outer s H vs Q E hr h=>?_);obtain⟨x,dx,wl,gv,gp,ws,rfl,hx,hw,O4,S2,l6,ok,q⟩:=h;have E3:Room 1 _:=hr.mono (by decide);have xX:Room 14 _:=hr.mono (by decide);have O9:Room 21 _:=hr.mono (by decide);have xW:Room 22 _:=hr.mono (by decide);have B0:Room 34 _:=hr.mono (by decide);obtain⟨rl,nS,l9⟩:=qbE O4 S2;have iC:=O4.length_le;have nU:=S2.length_le;have la:abc.length=3:=rfl;have lx:xyz.length=3:=rfl;refine⟨_,(qd (zf (PW.pt (qhi (qi7 (qaf (zc GI E3 (qa (pv 1) (qa (zW (v:=.str "abc") (by rfl) wW ⟨_,rfl⟩) qb)))))
   (qee (qi7 (qaf (zc GI E3 (qa (pv 2) (qa (zW (v:=.str "xyz") (by rfl) wX ⟨_,rfl⟩) qb)))))))) (qe jg) qL)
  (qd (zf (qx qci (qD qC (by rfl) T.len Qb (qa (pv 3) qb)) (zW (v:=.int 6) (by rfl) mmw ⟨_,rfl⟩) (qG _)) (qe jg) qL)
  (qd (qhz (i:=4) qhS.nd rfl rfl (csc (NY:=["wish","givens","gaps"]) (o:=1) (caps:=[1,2]) ["givens","gaps"] rfl
    (by intro x hx;rcases Qh.mp hx with e | hx;· rw[e];exact .inl rfl
        rw[Zq.mp hx];exact .inl rfl) (vP rfl rfl rfl (vP rfl rfl rfl jD)) rfl) rfl
    (yi (pv 3)) (λ C0 s H fp pins=>qt (i:=0) (show(["wish","givens","gaps"]:List Str).Nodup by decide +kernel) rfl (Or.inl rfl)) (λ C0 s H fp pins=>zq) (λ C0 s H fp pins=>(zc GW xW (qa (pv 0) (qa (qk qz (pv 1) (pv 2)) qb)))))
  (qd (jS (pv 0) (pv 1) rfl)
  (qd (jS (pv 0) (pv 2) rfl)
  (qd (jS (pv 0) (zz (csc (NY:=["left","right"]) (o:=2) (caps:=[]) [] rfl (by simp) jD rfl) rfl
    (yi (pv 4)) (λ C0 s H fp pins=>(show PG _ _ (qk0 K 2 (qcf (k9 0) (qcf (k9 1) qkZ))) from qcg (n:=2) rfl (qO (qt (i:=0) (show(["left","right"]:List Str).Nodup by decide +kernel) rfl (Or.inl rfl) (hf:=Or.inr rfl)) (qO (qt (i:=1) (show(["left","right"]:List Str).Nodup by decide +kernel) rfl (Or.inl rfl) (hf:=Or.inr rfl)) zY)))) (λ C0 s H fp pins=>zq) (λ C0 s H fp pins=>(qk qz (qk qz (k8 (pv 0) C Mt Vt O9 eY eU eV eS eX eR eW) qm) (k8 (pv 1) C Mt Vt O9 eY eU eV eS eX eR eW)))) rfl)
  (qd (jS (pv 0) (zz (csc (NY:=["left","right"]) (o:=2) (caps:=[]) [] rfl (by simp) jD rfl) rfl
    (yi (pv 4)) (λ C0 s H fp pins=>(show PG _ _ (qk0 K 2 (qcf (k9 0) (qcf (k9 1) qkZ))) from qcg (n:=2) rfl (qO (qt (i:=0) (show(["left","right"]:List Str).Nodup by decide +kernel) rfl (Or.inl rfl) (hf:=Or.inr rfl)) (qO (qt (i:=1) (show(["left","right"]:List Str).Nodup by decide +kernel) rfl (Or.inl rfl) (hf:=Or.inr rfl)) zY)))) (λ C0 s H fp pins=>zq) (λ C0 s H fp pins=>(zl (qa (PE.or (qE (pv 0) C.always Mf.always Gf.always B0 sE .nil qF)
   (PE.or (qE (pv 0) C.never Mf.never Gf.never B0 sA .nil qF)
   (PE.or (qE (pv 0) C.letter Mf.letter Gf.letter B0 sB .nil qF)
   (PE.or (qE (pv 0) C.not Mf.not Gf.not B0 rZ .nil qF)
   (PE.or (qE (pv 0) C.and Mf.and Gf.and B0 sD .nil qF)
   (PE.or (qE (pv 0) C.or Mf.or Gf.or B0 rY .nil qF)
   (qE (pv 0) C.either Mf.either Gf.either B0 sC .nil qF))))))) (qa (PE.or (qE (pv 1) C.always Mf.always Gf.always B0 sE .nil qF)
   (PE.or (qE (pv 1) C.never Mf.never Gf.never B0 sA .nil qF)
   (PE.or (qE (pv 1) C.letter Mf.letter Gf.letter B0 sB .nil qF)
   (PE.or (qE (pv 1) C.not Mf.not Gf.not B0 rZ .nil qF)
   (PE.or (qE (pv 1) C.and Mf.and Gf.and B0 sD .nil qF)
   (PE.or (qE (pv 1) C.or Mf.or Gf.or B0 rY .nil qF)
   (qE (pv 1) C.either Mf.either Gf.either B0 sC .nil qF))))))) qb))))) rfl)
  (qe (jS (pv 0) (zc GF xX (qa (ze (pv 0) (by rfl)) qb)) rfl))))))))),?_⟩
 rw[qlJ,qlK,show(" = ":Str)=qj [32,61,32] by decide +kernel];refine⟨_,rfl,gv,abc,rfl,by decide,by omega,O4,by decide,λ H1 g1=>⟨true,rfl,yM ?_⟩⟩;refine⟨_,rfl,gp,xyz,rfl,by decide,by omega,S2,by decide,λ H2 g2=>⟨true,rfl,yM ?_⟩⟩;have L9:=g1.trans g2;refine⟨_,rfl,wl,_,rfl,.inl (L9.seq hw),_,_,rfl,rfl,_,rfl,?_⟩;rw[U7,Jq (show ¬ (6:Int)<(ws.length:Int) by omega)];refine yM ?_;refine⟨_,rfl,wl,rfl,⟨_,L9.seq hw⟩,?_⟩;refine jm (ws.map λ y=>vS y.text).length (λ i ys H'=>∃ ps:List Addr,ys=ps.map V.ref/\Paired (jG c H') ps (ws.take i)) (λ D hD=>⟨[],rfl,.nil⟩) ?_ ?_ (λ H' sm=>⟨_,(L9.trans sm).seq hw,Vc _⟩) ?_
 ·rintro i ys H' hi ⟨ps,rfl,hp⟩
  have:=hp.length
  rw[Uq] at this;rw[U7];exact zh (by omega)
 ·rintro i ys H' D Y Z hi hD fV sm ⟨ps,rfl,hp⟩ hY hZ;rw[U7] at hi;refine⟨⟨_,_,(L9.trans sm).seq hw,X1 (by rw[U7];exact hi)⟩,?_⟩;rintro v H'' ⟨rfl,hv⟩;have ev:=hv _ ((L9.trans sm).seq hw);obtain⟨y,hy,rfl⟩:=ql ev;refine⟨⟨rfl,rfl⟩,?_⟩;refine⟨_,rfl,_,rfl,_,rfl,_,_,rfl,rfl,by rw[qu,qu];exact qp (by omega),?_⟩;rw[zv];refine⟨y,gv++gp,rfl,ok y (Yn hy),l9,λ r a b H3 g3 e3 o1 o2=>?_⟩;refine hY _ _ (g3 _ _ fV) (sm.trans g3) ⟨ps++[r],by rw[Jg];rfl,?_⟩;have eD:=g3 _ _ fV;have gX:zA H3 (upd H3 D (.lst (ps.map V.ref++[.ref r]))):=zA.updL eD;rw[q9 hy];refine zD (zL (λ p z hz=>?_) hp) (.cons ⟨a,b,gX _ _ e3 (λ _ z=>nomatch z),qN.monoX gX o1,qN.monoX gX o2⟩ .nil);obtain⟨a',b',k1,k2,k3⟩:=hz.mono g3;exact⟨a',b',gX _ _ k1 (λ _ z=>nomatch z),qN.monoX gX k2,qN.monoX gX k3⟩
 rintro D H3 ys hD sm N8 ⟨ps,rfl,dI⟩;rw[U7,Ux] at dI;have g3:=L9.trans sm;have cZ:=g3 _ _ hx;have sZ:ps.length=ws.length:=dI.length;have hD3:H3 D=some (.lst (ps.map V.ref)):=N8;refine⟨_,rfl,_,rfl,x,CT,dx,[],rfl,cZ,cT,n1,by decide,?_⟩;refine⟨_,rfl,_,rfl,x,CT,dx,_,rfl,qc,cT,n2,by show 1<1000;decide,?_⟩;obtain⟨H5,W0⟩:∃ H5,H5=upd (upd H3 x (.ins CT dx [("given_letters",vS gv)])) x (.ins CT dx [("given_letters",vS gv),("gap_letters",vS gp)]):=⟨_,rfl⟩;have b5:But x H3 H5:=by rw[W0];exact((But.refl x H3).upd).upd
 have hx5:H5 x=some (.ins CT dx [("given_letters",vS gv),("gap_letters",vS gp)]):=by rw[W0];exact qc
 have hD5:=vp cZ b5 hD3;have hp5:=zL (λ p y h=>jG.but nc cZ b5 h) dI;have go5:∀ G:Hp->Prop,G H5->G (upd (upd H3 x (.ins CT dx [("given_letters",vS gv)])) x (.ins CT dx [("given_letters",vS gv),("gap_letters",vS gp)])):=λ G h=>W0 ▸ h
 refine go5 _ ?_;have lQ:∀ y∈ws,∀ t,(t=y.t∨t=y.u)->t.Of (gv++gp)/\t.Of zw/\t.wt<=20/\t.ht<=21/\Szd t:=λ y hy t ht=>by
  have oy:=ok y hy;have h1:t.Of (gv++gp):=by rcases ht with rfl|rfl;exact oy.t;exact oy.u
  have h2:t.nodes<=20:=by rcases ht with rfl|rfl;exact oy.tn;exact oy.un
  have h3:=wt_nodes t;have h4:t.wt<=20:=by omega
  have h5:=h1.upL l9;exact⟨h1,h5,h4,by have:=t.ht_wt;omega,h5,.inl (Qx (jI (zo Qg t.lets_rise) λ c hc=>Tr.Of.has h1 (t.mem_lets.mp hc)) nS)⟩
 refine⟨_,rfl,D,rfl,⟨_,SqL.of hD5⟩,?_⟩;refine qev (SqL.of hD5) (λ i=>(ws.take i).map λ y=>vS y.said) rfl (λ i hi=>?_) ?_ ?_
 ·rw[U7,Uq];exact zh (by omega)
 ·intro i v H' D2 Y Z hv eF fV aA hY hZ;obtain⟨p,hp,rfl⟩:=ql hv;obtain⟨y,hy,pr⟩:=zk hp5 i p hp;obtain⟨a,b,e1,o1,o2⟩:=pr.mono aA;obtain⟨_,t9,tw,th,_⟩:=lQ y (Yn hy) y.t (.inl rfl);obtain⟨_,u9,uw,uh,_⟩:=lQ y (Yn hy) y.u (.inr rfl);have lt:=y.t.text_len;have lu:=y.u.text_len;refine⟨p,_,rfl,SqT.of e1,rfl,_,_,rfl,_,_,rfl,rfl,⟨rfl,rfl⟩,?_⟩;refine(ya qA (ya qA (dV (f:=zP) (n:=21) (κd:=kD) (κr:=kR) (κe:=kE) (λ _ _=>⟨rfl,rfl,rfl⟩) (λ _ _=>⟨_,_,rfl⟩) (λ _ _=>⟨_,_,rfl⟩) (λ _ _=>⟨_,_,rfl⟩) (dvA rfl) o1 th (by omega) t9) dC (by show _+3<=_;omega))
   (dV (f:=zP) (n:=21) (κd:=kD) (κr:=kR) (κe:=kE) (λ _ _=>⟨rfl,rfl,rfl⟩) (λ _ _=>⟨_,_,rfl⟩) (λ _ _=>⟨_,_,rfl⟩) (λ _ _=>⟨_,_,rfl⟩) (dvA rfl) o2 uh (by omega) u9) (by rw[Zj];show _+3+_<=_;omega)) _ _ _ at0 λ H'' pY=>?_
  exact hY _ _ (pY _ _ fV) (aA.trans pY) (yP (f:=λ y:Wsh=>vS y.said) hy)
 intro a1 H6 hA1 s6 h6;rw[U7,sZ,Ux] at h6;have tG:=s6 _ _ hx5;refine⟨_,rfl,x,CT,dx,_,rfl,tG,cT,n3,by show 2<1000;decide,?_⟩;obtain⟨H7,hH7⟩:∃ H7,H7=upd H6 x (.ins CT dx [("given_letters",vS gv),("gap_letters",vS gp),("wish_texts",.ref a1)]):=⟨_,rfl⟩;have b7:But x H6 H7:=by rw[hH7];exact(But.refl x H6).upd
 have hx7:H7 x=some (.ins CT dx [("given_letters",vS gv),("gap_letters",vS gp),("wish_texts",.ref a1)]):=by rw[hH7];exact qc
 have tU:=vp tG b7 (s6 _ _ hD5);have hA7:=vp tG b7 h6;have hp7:=zL (λ p y h=>jG.but nc tG b7 (jG.mono h s6)) hp5;have go7:∀ G:Hp->Prop,G H7->G (upd H6 x (.ins CT dx [("given_letters",vS gv),("gap_letters",vS gp),("wish_texts",.ref a1)])):=λ G h=>hH7 ▸ h
 refine go7 _ ?_;refine⟨_,rfl,D,rfl,⟨_,SqL.of tU⟩,?_⟩;refine jm (ps.map V.ref).length (λ i ys H'=>∃ qs:List Addr,ys=qs.map V.ref/\Paired (yl H') qs ((ws.take i).map Wsh.side)) (λ D hD=>⟨[],rfl,.nil⟩) ?_ ?_ (λ H' aA=>⟨_,aA.seq (SqL.of tU),Vc _⟩) ?_
 ·rintro i ys H' hi ⟨qs,rfl,hq⟩
  have:=hq.length
  rw[U7,Uq] at this;rw[U7];exact zh (by omega)
 ·rintro i ys H' D2 Y Z hi eF fV aA ⟨qs,rfl,hq⟩ hY hZ;have pB:i<ps.length:=by rw[U7] at hi;exact hi
  refine⟨⟨_,_,aA.seq (SqL.of tU),X1 hi⟩,?_⟩;rintro v H'' ⟨rfl,hv⟩;have ev:=hv _ (aA.seq (SqL.of tU));obtain⟨p,hp,rfl⟩:=ql ev;obtain⟨y,hy,pr⟩:=zk hp7 i p hp;obtain⟨a,b,e1,o1,o2⟩:=pr.mono aA;obtain⟨_,t9,tw,th,ts⟩:=lQ y (Yn hy) y.t (.inl rfl);obtain⟨_,u9,uw,uh,us⟩:=lQ y (Yn hy) y.u (.inr rfl);refine⟨p,_,rfl,SqT.of e1,rfl,_,_,rfl,_,_,rfl,rfl,⟨rfl,rfl⟩,?_⟩;refine dfm (n:=21) (dvA rfl) o1 th ts _ _ _ at0 λ r1 Ha ga ea=>?_
  refine dfm (n:=21) (dvA rfl) (o2.mono ga) uh us _ _ _ at0 λ r2 Hb gb eb=>⟨qp (by show 2<=_;decide),λ pp aC=>?_⟩
  have gc:=(ga.trans gb).to aC (o:=.tup [.ref r1,.ref r2]);have eD:=gc _ _ fV;have gX:zA (upd Hb pp (.tup [.ref r1,.ref r2])) (upd (upd Hb pp (.tup [.ref r1,.ref r2])) D2 (.lst (qs.map V.ref++[.ref pp]))):=zA.updL eD;refine hY _ _ eD (aA.trans gc) ⟨qs++[pp],by rw[Jg];rfl,?_⟩;rw[q9 hy,Jg];have T7:∀{z:Addr}{vs:List V},upd Hb pp (.tup [.ref r1,.ref r2]) z=some (.tup vs)->upd (upd Hb pp (.tup [.ref r1,.ref r2])) D2 (.lst (qs.map V.ref++[.ref pp])) z=some (.tup vs):=λ h=>gX _ _ h (λ _ z=>nomatch z)
  refine zD (zL (λ p' z hz=>?_) hq) (.cons ⟨r1,r2,T7 qc,T7 ((qg.up aC) _ _ (gb _ _ ea)),T7 ((qg.up aC) _ _ eb)⟩ .nil);obtain⟨x1,x2,k1,k2,k3⟩:=yl.mono hz gc;exact⟨x1,x2,T7 k1,T7 k2,T7 k3⟩
 rintro a2 H8 ys hA2 s8 h8 ⟨qs,rfl,hqs⟩;rw[U7,sZ,Ux] at hqs;have tF:=s8 _ _ hx7;refine⟨_,rfl,x,CT,dx,_,rfl,tF,cT,n4,by show 3<1000;decide,?_⟩;obtain⟨H9,hH9⟩:∃ H9,H9=upd H8 x (.ins CT dx [("given_letters",vS gv),("gap_letters",vS gp),("wish_texts",.ref a1),("side_forms",.ref a2)]):=⟨_,rfl⟩;have b9:But x H8 H9:=by rw[hH9];exact(But.refl x H8).upd
 have hx9:H9 x=some (.ins CT dx [("given_letters",vS gv),("gap_letters",vS gp),("wish_texts",.ref a1),("side_forms",.ref a2)]):=by rw[hH9];exact qc
 have hA9:=vp tF b9 (s8 _ _ hA7);have hB9:=vp tF b9 h8;have hs9:=zL (λ p y h=>yl.but tF b9 h) hqs;have go9:∀ G:Hp->Prop,G H9->G (upd H8 x (.ins CT dx [("given_letters",vS gv),("gap_letters",vS gp),("wish_texts",.ref a1),("side_forms",.ref a2)])):=λ G h=>hH9 ▸ h
 refine go9 _ ?_;have tJ:∀ z∈ws.map Wsh.side,On (gv++gp) z.1/\On (gv++gp) z.2:=λ z hz=>by
  obtain⟨y,hy,rfl⟩:=Q3.mp hz;exact⟨Tr.on (lQ y hy y.t (.inl rfl)).1,Tr.on (lQ y hy y.u (.inr rfl)).1⟩
 refine⟨_,rfl,x,CT,dx,_,_,rfl,hx9,cT,n4,rfl,a2,qs,ws.map Wsh.side,gv++gp,rfl,hB9,hs9,rl,nS,tJ,λ a3 HA gA eA=>?_⟩;have nZ:=gA _ _ hx9;refine⟨_,rfl,x,CT,dx,_,rfl,nZ,cT,n5,by show 4<1000;decide,?_⟩;have bB:But x HA (upd HA x (.ins CT dx [("given_letters",vS gv),("gap_letters",vS gp),("wish_texts",.ref a1),("side_forms",.ref a2),("fault_form",.ref a3)])):=(But.refl x HA).upd;have B5:But x H H5:=(zB g3).trans b5;have B7:But x H H7:=(B5.trans (zB s6)).trans b7;have fr:∀{Ha:Hp}{z:Addr},But x H Ha->(∃ o,Ha x=some o)->Ha z=none->H z=none:=λ{Ha z} b tE hz=>by
  cases e:H z with
  |none=>rfl
  |some o =>
   by_cases hzx:z=x
   ·obtain⟨o',dU⟩:=tE;rw[hzx,dU] at hz;cases hz
   ·rw[b z o hzx e] at hz;cases hz
 refine q a1 a2 a3 qs _ ?_ (fr B5 ⟨_,hx5⟩ hA1) (fr B7 ⟨_,hx7⟩ hA2) ⟨qc,vp nZ bB (gA _ _ hA9),vp nZ bB (gA _ _ hB9),zL (λ p y h=>yl.but nZ bB (yl.mono h gA)) hs9,qca nZ bB eA⟩;exact((((((zB g3).trans b5).trans (zB s6)).trans b7).trans (zB s8)).trans b9).trans ((zB gA).trans bB)
theorem qkC:FnScope ["text","letters"] ["text","letters"] (qi qc6):=scF
theorem qkD{f :Addr}{fd :FuncData}(F:Fun K "is_row" "is_row" qc6 f fd)(T:Txt mg): FnOk P w K mg base CX0 1 f fd ["text","letters"] (qhR):=by
 refine F.okd qkC (λ cdv A outer s H vs Q E hr h=>?_);obtain⟨p,ls,rfl,l9,p9,hp,hl,q⟩:=h;refine⟨_,(qe (qo (yY zr (pv 0) (yL XS Yg Yh qb3 qm (qa (zz (csc (NY:=["letter","text"]) (o:=1) (caps:=[0]) ["text"] rfl
    (by intro x hx;rw[Zq.mp hx];exact .inl rfl) (vP rfl rfl rfl jD) rfl) rfl
    (vJ (pv 1)) (λ C0 s H fp pins=>qt (i:=0) (show(["letter","text"]:List Str).Nodup by decide +kernel) rfl (Or.inl rfl)) (λ C0 s H fp pins=>(qaP (qx kS (pv 0) (pv 1) rfl))) (λ C0 s H fp pins=>(pv 0))) qb)) (qG _)))),?_⟩
 have hz:("":Str).length=0:=by decide
 have hs:(qj ls).cps.size=ls.length:=qu ls;refine⟨_,rfl,rfl,?_⟩;refine⟨_,rfl,_,rfl,?_⟩;refine qew (λ j=>((ls.take j).filter λ c=>decide (c∈p)).map λ c=>vS [c]) rfl (λ j hj=>?_) ?_ ?_
 ·rw[U7];have:=Yf (λ c=>decide (c∈p)) (ls.take j);rw[Uq] at this;exact zh (by omega)
 ·intro j H6 D6 Y Z hj pR N7 G5 hY hZ;rw[hs] at hj;rw[jo hj];have fs:=vX (f:=λ c=>decide (c∈p)) hj;refine⟨⟨rfl,rfl⟩,?_⟩;refine⟨_,rfl,_,rfl,_,_,rfl,rfl,_,rfl,?_⟩;refine qbs (λ c=>?_) (λ c=>?_)
  ·refine⟨_,rfl,hY _ _ N7 G5 ?_⟩;show List.map _ ((ls.take (j+1)).filter _)=_
   rw[fs,V2 c,Jg];rfl
  ·refine hZ _ N7 G5 ?_;show List.map _ ((ls.take (j+1)).filter _)=_
   rw[fs,V3 c,U8]
 ·intro D6 H6 pR G5 N7;rw[hs,Ux,qfE hl (hl.sublist hp) (λ c h=>hp.subset h)] at N7;refine⟨_,D6,(p.map λ c=>[c]).map qj,rfl,rfl,.inl (SqL.of (by rw[N7,qc3,yU])),?_,?_⟩
  ·rw[qa2,hz,jf];show _+_*0<=_;omega
  rw[qa0,jf];refine⟨rfl,?_⟩;rw[show decide (V.str (qj p)=V.str (qj p))=true from qnO p];exact q _ G5
def Scr(K:W.Frag)(H:Hp)(a:Addr)(ns:List Int):Prop:=SqL K H a (ns.map V.int)/\ns.length<=63
theorem Scr.mono{K:W.Frag}{H H':Hp}{a:Addr}{ns:List Int}(h:Scr K H a ns)(g:qg H H'):Scr K H' a ns:=⟨g.seq h.1,h.2⟩
def jL(K:W.Frag):Sp:=λ vs H Q _=>∃(a:Addr)(ns:List Int)(k:Int),vs=[.ref a,.int k]/\Scr K H a ns/\0<=k/\k<=100000/\∀ z H',qg H H'->0<=z->z<1000000007->Q (.int z) H'
theorem jM:FnScope [sA0,sB0,"_law_cell","_law_step",sA5] [sA0,sB0] (qi ki):=scF
theorem qlM{ns:List Int}{k:Int}(h0:0<=k)(h:k<(ns.length:Int)):∃ v:Int,atI (ns.map V.int) k=some (.int v):=by
 have hk:k.toNat<ns.length:=by omega
 have ek:k=((k.toNat:Nat):Int):=by omega
 have:=kI (xs:=ns.map V.int) (j:=k.toNat) (v:=.int ns[k.toNat]) (by rw[Zw,X1 hk];rfl)
 rw[<- ek] at this;exact⟨_,this⟩
theorem qiK{c:Prop}[Decidable c]{A B:Prop}(R:Int->Prop)(hA:c->(∀ z,R z)->A)(hB:¬ c->(∀ z,R z)->B)(hC:∀ z,R z):if c then A else B:=by
 by_cases h:c
 ·rw[V2 h];exact hA h hC
 ·rw[V3 h];exact hB h hC
theorem qm2:bootBuiltins "max"=some (.builtin "max"):=by decide +kernel
theorem qkE{k:Nat}{f:Addr}{fd:FuncData}(F:Fun K sB1 sB1 ki f fd)(T:Txt mg):FnOk P w K mg base CX0 (k+1) f fd [sA0,sB0] (jL K):=by
 refine F.okd jM (λ cdv A outer s H vs Q E hr h=>?_);obtain⟨a,ns,k,rfl,⟨hS,tW⟩,k0,k1,q⟩:=h;refine⟨_,qd (qr (i:=2) jM.nd rfl (Or.inl rfl) qf)
  (qd (zf (qx qci (qD qC (by rfl) T.len Qb (qa (pv 0) qb)) qf (qG _))
   (qe (qr (i:=2) jM.nd rfl (Or.inl rfl) (zg zZ (pv 0) (qk q8 (pv 1) (qD qC (by rfl) T.len Qb (qa (pv 0) qb))) (λ _ _=>rfl)))) qL)
  (qd (zf (qx zr (qk q8 (qD qC (by rfl) T.len Qb (qa (pv 0) qb)) qf) qf (qG _))
   (qd (zR Jn rfl (yc (by rfl) T.range (qa (qD (qh7 rfl) (by rfl) T.min qmR (qa qf (qa (qk zN (pv 1) (qD (qh6 rfl) (by rfl) T.max qm2 (qa qf (qa (qD qC (by rfl) T.len Qb (qa (pv 0) qb)) qb)))) qb))) qb)) (qt (i:=3) jM.nd rfl (Or.inl rfl))
    (qe (qr (i:=2) jM.nd rfl (Or.inl rfl) (qk zN (pv 2) qf))))
   (qe (qo (qk q8 (pv 2) qf)))) qL)
  (qd (qr (i:=4) jM.nd rfl (Or.inl rfl) (qk q8 (qk yj (qk yj (qk yj (qk jR (qk q8 (pv 2) qf) qf) (qk jR (qk jR qf (pv 1)) (pv 1))) (qk jR qf (pv 1))) qf) qf))
  (qe (qo (qk q8 (qk jR (pv 4) qf) qf)))))),?_⟩
 have hl:(ns.map V.int).length=ns.length:=U7 _;have q':∀ z:Int,0<=z->z<1000000007->Q (.int z) H:=λ z h1 h2=>q z H (qg.refl H) h1 h2
 refine⟨_,rfl,a,_,rfl,.inl hS,_,_,rfl,rfl,_,rfl,?_⟩;rw[hl];refine qiK ?R (λ c1 C=>?hA) (λ c1 C=>?hB) ?hC
 case hA =>
  have c1':(0:Int)<(ns.length:Int):=Um c1;obtain⟨v,hv⟩:=qlM (ns:=ns) (k:=k % (ns.length:Int)) (Jh k (by omega)) (Zr k c1');refine⟨_,rfl,_,rfl,_,rfl,a,_,rfl,.inl hS,?_⟩;rw[hl];refine⟨_,_,rfl,rfl,c1',a,_,_,_,rfl,rfl,hS,hv,?_⟩;exact C v
 case hB=>exact C 0
 intro c;refine⟨_,rfl,a,_,rfl,.inl hS,_,_,rfl,rfl,(show(0:Int)<2 by decide),rfl,_,rfl,?_⟩;rw[hl];refine qbs (λ c2=>?_) (λ c2=>?_)
 ·refine⟨_,rfl,_,rfl,a,_,rfl,.inl hS,_,_,rfl,?_⟩;rw[hl];have m1:(1:Int)<=(if (ns.length:Int) > 1 then(ns.length:Int) else 1):=by split <;> omega
  have m2:(if (ns.length:Int) > 1 then(ns.length:Int) else 1)<=63:=by split <;> omega
  generalize (if (ns.length:Int) > 1 then(ns.length:Int) else 1)=m at m1 m2;refine⟨_,_,rfl,rfl,⟨by omega,by omega⟩,_,_,rfl,?_⟩;have d0:0<=k / m:=Jp k0 (by omega);refine⟨_,rfl,?_,?_,?_⟩
  ·show -(2^62)<=(if k / m<(60:Int) then k / m else(60:Int))
   split <;> omega
  ·show(if k / m<(60:Int) then k / m else(60:Int))<2^62
   split <;> omega
  refine jH (λ i σ H1=>∃(c:Int)(v:Option V),σ=[some (.ref a),some (.int k),some (.int c),v,none]/\H1=H) ⟨_,none,rfl,rfl⟩ ?_ ?_
  ·rintro i σ H1 hi ⟨c,v,rfl,rfl⟩;refine⟨_,rfl,_,_,rfl,rfl,⟨by decide,by decide⟩,?_⟩;exact⟨_,_,rfl,rfl⟩
  ·rintro σ H1 ⟨c,v,rfl,rfl⟩;refine⟨_,rfl,_,_,rfl,rfl,(show(0:Int)<1000000007 by decide),?_⟩;exact q' _ (Jh _ (by decide)) (Zr _ (by decide))
 ·have kb:-(2^64)<k/\k<2^64:=⟨by omega,by omega⟩;refine⟨_,rfl,_,_,rfl,rfl,(show(0:Int)<1000003 by decide),_,_,rfl,rfl,.inr ⟨by decide,by decide⟩,_,rfl,_,_,rfl,rfl,.inr kb,_,rfl,_,_,rfl,rfl,.inr kb,_,_,rfl,rfl,_,rfl,_,_,rfl,rfl,.inr kb,_,_,rfl,rfl,_,_,rfl,rfl,_,_,rfl,rfl,(show(0:Int)<2147483647 by decide),?_⟩;refine⟨_,rfl,_,_,rfl,rfl,.inr ⟨by decide,by decide⟩,_,_,rfl,rfl,(show(0:Int)<1000000007 by decide),?_⟩;exact q' _ (Jh _ (by decide)) (Zr _ (by decide))
def qeQ:Sp:=λ vs H Q _=>∃(m:Int)(ls:List Nat),vs=[.int m,vS ls]/\0<=m/\ls.length<=9/\∀ t v H',qg H H'->zV H' t v->t.Of ls->t.ht=1->Q v H'
theorem qhT:FnScope [sA5,sA2,"_law_some"] [sA5,sA2] (qi qaz):=scF
theorem qlN:([sB3]:List Str).Nodup:=by decide +kernel
theorem qlO{k:Nat}{f:Addr}{fd:FuncData}(F:Fun K sB9 sB9 qaz f fd)(T:Txt mg):FnOk P w K mg base CX0 (k+1) f fd [sA5,sA2] qeQ:=by
 refine F.okd qhT (λ cdv A outer s H vs Q E hr h=>?_);obtain⟨m,ls,rfl,m0,l9,q⟩:=h;refine⟨_,qd (qr (i:=2) qhT.nd rfl (Or.inl rfl) (qk qak (qk qmv (zz (csc (NY:=[sB3]) (o:=1) (caps:=[]) [] rfl (by simp) jD rfl) rfl
    (vJ (pv 1)) (λ C s H fp pins=>qt (i:=0) qlN rfl (Or.inl rfl)) (λ C s H fp pins=>zq) (λ C s H fp pins=>zl (qa qm (qa (pv 0) qb)))) qf)
    (zE (qa (zl (qa qm qb)) (qa (zl (qa qm qb)) qb)))))
  (qe (qo (zg zZ (pv 2) (qk q8 (pv 0) (qD qC (by rfl) T.len Qb (qa (pv 2) qb))) (λ _ _=>rfl)))),?_⟩
 have hs:(qj ls).cps.size=ls.length:=qu ls;have z1:("1":Str)=qj [49]:=by decide +kernel
 have z0:("0":Str)=qj [48]:=by decide +kernel
 rw[qaC,z1,z0];refine⟨_,rfl,_,rfl,?_⟩;refine jm (qj ls).cps.size (λ i ys H2=>ys.length=i/\∀ v∈ys,∃ c∈ls,zV H2 (.letter c) v) (λ D hD=>⟨rfl,by simp⟩) (λ i ys H2 hi ⟨e,_⟩=>by rw[hs] at hi;rw[e];exact zh (by omega)) ?_ (λ H2 sm=>rfl) ?_
 ·rintro i ys H2 D Y Z hi hD u8 sm ⟨le,al⟩ hY hZ;refine⟨hi,?_⟩;rintro x H' ⟨rfl,rfl⟩;rw[hs] at hi;rw[jo hi];refine⟨⟨rfl,rfl⟩,?_⟩;refine⟨_,rfl,qp (by show 2<=_;decide),λ p hp=>?_⟩;have hD':upd H' p (.tup [vS jz,vS [ls[i]]]) D=some (.lst ys):=(qg.up hp) _ _ u8;refine hY _ _ hD' (sm.to hp) ⟨by rw[Zj,le];rfl,λ v hv=>?_⟩;rcases U5.mp hv with hv | hv
  ·obtain⟨c,hc,N9⟩:=al v hv;exact⟨c,hc,N9.mono ((qX (qg.up hp)).trans (qY.updL hD'))⟩
  ·rw[Zq.mp hv];exact⟨ls[i],Uw hi,p,rfl,(qY.updL hD') _ _ qc⟩
 rintro D H2 ys hD sm u8 ⟨le,al⟩;rw[hs] at le;refine⟨D,2,ys,rfl,rfl,u8,by decide,by decide,by show ys.length*2<=_;exact qp (by omega),λ p1 S7=>?_⟩;have e2:(List.replicate (2:Int).toNat ys).flatten=ys++ys:=by show(List.replicate 2 ys).flatten=_;simp[List.replicate]
 rw[e2];refine⟨qp (by show 1<=_;decide),λ a1 ha1=>⟨qp (by show 1<=_;decide),λ a0 ha0=>⟨qp (by show 2<=_;decide),λ p2 D5=>?_⟩⟩⟩;have g1:=((qg.up S7 (o:=.lst (ys++ys))).to ha1 (o:=.tup [vS [49]])).to ha0 (o:=.tup [vS [48]]);have g2:=g1.to D5 (o:=.lst [.ref a1,.ref a0]);have e1:=(((qg.up ha1 (o:=.tup [vS [49]])).to ha0 (o:=.tup [vS [48]])).to D5 (o:=.lst [.ref a1,.ref a0])) p1 _ qc;refine⟨p1,p2,_,_,rfl,rfl,e1,qc,by rw[Zj];exact qp (by show ys.length+ys.length+2<=_;omega),λ p3 iG=>?_⟩;have g3:=g2.to iG (o:=.lst (ys++ys++[.ref a1,.ref a0]));have iU:∀ v∈ys++ys++[V.ref a1,V.ref a0],∃ t:Tr,zV (upd (upd (upd (upd (upd H2 p1 (.lst (ys++ys))) a1 (.tup [vS [49]])) a0 (.tup [vS [48]])) p2 (.lst [.ref a1,.ref a0])) p3 (.lst (ys++ys++[.ref a1,.ref a0]))) t v/\t.Of ls/\t.ht=1:=λ v hv=>by
  rcases U5.mp hv with hv|hv
  ·have hv:v∈ys:=by rcases U5.mp hv with h | h <;> exact h
   obtain⟨c,hc,h⟩:=al v hv;exact⟨.letter c,h.mono (qX g3),hc,rfl⟩
  ·have hv:v=.ref a1∨v=.ref a0:=by simpa using hv
   rcases hv with e|e
   ·exact⟨.one,⟨a1,e,((qg.up ha0 (o:=.tup [vS [48]])).to D5 (o:=.lst [.ref a1,.ref a0])).to iG (o:=.lst (ys++ys++[.ref a1,.ref a0])) _ _ qc⟩,trivial,rfl⟩
   ·exact⟨.zero,⟨a0,e,((qg.up D5 (o:=.lst [.ref a1,.ref a0])).to iG (o:=.lst (ys++ys++[.ref a1,.ref a0]))) _ _ qc⟩,trivial,rfl⟩
 have hS:SqL K (upd (upd (upd (upd (upd H2 p1 (.lst (ys++ys))) a1 (.tup [vS [49]])) a0 (.tup [vS [48]])) p2 (.lst [.ref a1,.ref a0])) p3 (.lst (ys++ys++[.ref a1,.ref a0]))) p3 (ys++ys++[.ref a1,.ref a0]):=SqL.of qc;have gF:=sm.trans g3;generalize upd (upd (upd (upd (upd H2 p1 (.lst (ys++ys))) a1 (.tup [vS [49]])) a0 (.tup [vS [48]])) p2 (.lst [.ref a1,.ref a0])) p3 (.lst (ys++ys++[.ref a1,.ref a0]))=H3 at iU hS gF;have len:0<((ys++ys++[V.ref a1,V.ref a0]).length:Int):=by rw[Zj];show 0<(((ys++ys).length+2:Nat):Int);omega
 generalize ys++ys++[V.ref a1,V.ref a0]=zs at iU hS len;have i0:=Jh m (b:=(zs.length:Int)) (by omega);have i1:=Zr m len;have hk:(m % (zs.length:Int)).toNat<zs.length:=by omega
 have aG:atI zs (m % (zs.length:Int))=some zs[(m % (zs.length:Int)).toNat]:=by
  have:=kI (xs:=zs) (j:=(m % (zs.length:Int)).toNat) (X1 hk)
  rw[show(((m % (zs.length:Int)).toNat:Nat):Int)=m % (zs.length:Int) by omega] at this;exact this
 obtain⟨t,h1,h2,h3⟩:=iU _ (Uw hk);refine⟨_,rfl,_,rfl,_,rfl,p3,_,rfl,.inl hS,_,_,rfl,rfl,len,p3,_,_,_,rfl,rfl,hS,aG,?_⟩;exact q t _ H3 gF h1 h2 h3
inductive StkI(ls:List Nat)(H:Hp):List V->Nat->Prop where
 |nil:StkI ls H [] 0
 |snoc {ws:List V} {n:Nat} {x:V} {t:Tr} (h:StkI ls H ws n) (tr:zV H t x) (of:t.Of ls):StkI ls H (ws++[x]) (n+t.wt)
theorem StkI.mono{ls:List Nat}{H H':Hp}{vs:List V}{n:Nat}(h:StkI ls H vs n)(g:qY H H'):StkI ls H' vs n:=by
 induction h with
 |nil=>exact .nil
 |snoc h tr of ih=>exact ih.snoc (tr.mono g) of
theorem StkI.len{ls:List Nat}{H:Hp}{vs:List V}{n:Nat}(h:StkI ls H vs n):vs.length<=n:=by
 induction h with
 |nil=>exact Vc _
 | @snoc ws n x t h tr of ih=>rw[Zj,XY];have:=t.wt_pos;omega
def Stk(ls:List Nat)(B:Nat)(H:Hp)(vs:List V):Prop:=∃ n,n<=B/\StkI ls H vs n
theorem Stk.mono{ls:List Nat}{B:Nat}{H H':Hp}{vs:List V}(h:Stk ls B H vs)(g:qY H H'):Stk ls B H' vs:=let ⟨n,a,b⟩:=h;⟨n,a,b.mono g⟩
theorem Stk.up{ls:List Nat}{B B':Nat}{H:Hp}{vs:List V}(h:Stk ls B H vs)(hB:B<=B'):Stk ls B' H vs:=let ⟨n,a,b⟩:=h;⟨n,Qx a hB,b⟩
theorem StkI.top{ls:List Nat}{n:Nat}{H:Hp}{vs:List V}(h:StkI ls H vs n)(hl:0<vs.length):∃ ws x t k,vs=ws++[x]/\zV H t x/\t.Of ls/\StkI ls H ws k/\n=k+t.wt:=by
 cases h with
 |nil=>cases hl
 |snoc h tr of=>exact⟨_,_,_,_,rfl,tr,of,h,rfl⟩
theorem Stk.top{ls:List Nat}{B:Nat}{H:Hp}{vs:List V}(h:Stk ls B H vs)(hl:0<vs.length):∃ ws x t,vs=ws++[x]/\zV H t x/\t.Of ls/\t.wt+ws.length<=B/\Stk ls (B-t.wt) H ws:=by
 obtain⟨n,hn,h⟩:=h;obtain⟨ws,x,t,k,e,tr,of,h,ek⟩:=h.top hl
 have:=h.len
 exact⟨ws,x,t,e,tr,of,by omega,k,by omega,h⟩
theorem Stk.put{ls:List Nat}{B:Nat}{H:Hp}{ws:List V}{x:V}{t:Tr}(h:Stk ls (B-t.wt) H ws)(tr:zV H t x)(of:t.Of ls)(hB:t.wt<=B):Stk ls B H (ws++[x]):=
 let ⟨n,hn,h⟩:=h;⟨n+t.wt,by omega,h.snoc tr of⟩
def qkF(K:W.Frag):Sp:=λ vs H Q _=>∃(a:Addr)(ns:List Int)(cL m:Int)(ls:List Nat),vs=[.ref a,.int cL,.int m,vS ls]/\Scr K H a ns/\0<=cL/\cL<=1000/\0<=m/\m<=100/\ls.length<=9 /\
 ∀ t v H',qg H H'->zV H' t v->t.Of ls->(t.wt:Int)<=1+m->Q v H'
theorem qbF:FnScope [sA0,"_law_at",sB5,sA2,"_law_stack",sB0,sA5,"_law_other"] [sA0,"_law_at",sB5,sA2] (qi vm):=scF
theorem qm3{fm fl f:Addr}{fdm fdl fd:FuncData}(F:Fun K sB8 sB8 vm f fd)(T:Txt mg)(Gm:Dp P w K mg base 1 fm fdm [sA0,sB0] (jL K) sB1)(Gl:Dp P w K mg base 1 fl fdl [sA5,sA2] qeQ sB9):FnOk P w K mg base CX0 2 f fd [sA0,"_law_at",sB5,sA2] (qkF K):=by
 refine F.okd qbF (λ cdv A outer s H vs Q E hr h=>?_);obtain⟨a,ns,cL,m,ls,rfl,hS,a0,a1,m0,m1,l9,q⟩:=h;refine⟨_,(qd (qr (i:=4) qbF.nd rfl (Or.inl rfl) (zE (qa (zc Gl hr (qa (qk zN (zc Gm hr (qa (pv 0) (qa (pv 1) qb))) qf) (qa (pv 3) qb))) qb)))
  (qd (zR Jn rfl (yc (by rfl) T.range (qa (pv 2) qb)) (qt (i:=5) qbF.nd rfl (Or.inl rfl))
  (qd (qr (i:=6) qbF.nd rfl (Or.inl rfl) (zc Gm hr (qa (pv 0) (qa (qk yj (qk yj (pv 1) qf) (pv 5)) qb))))
  (qe (zf (PW.pt (qhi (qx qho (qk q8 (pv 6) qf) qf (qG _)) (qee (PW.pt (qf7 (qx qho (qk q8 (pv 6) qf) qf (qG _)) (qed (qx qho (qD qC (by rfl) T.len Qb (qa (pv 4) qb)) qf (qG _)))))))) (qe (zX (yL XG X4 X5 zt (pv 4) (qa (zc Gl hr (qa (qk zN (pv 6) qf) (qa (pv 3) qb))) qb)))) (qe (zf (qx zr (qk q8 (pv 6) qf) qf (qG _)) (qe (zX (yL XG X4 X5 zt (pv 4) (qa (zl (qa qm (qa (qai XG Yi Yj qaj (pv 4)) qb))) qb)))) (qd (qr (i:=7) qbF.nd rfl (Or.inl rfl) (qai XG Yi Yj qaj (pv 4)))
  (qe (zX (yL XG X4 X5 zt (pv 4) (qa (zl (qa (zg qei qm (qk q8 (qk zN (pv 6) qf) qf) (λ _ _=>rfl)) (qa (qai XG Yi Yj qaj (pv 4)) (qa (pv 7) qb)))) qb)))))))))))
  (qd (qeZ Jn (qx qci (qD qC (by rfl) T.len Qb (qa (pv 4) qb)) qf (qG _)) (qd (qr (i:=7) qbF.nd rfl (Or.inl rfl) (qai XG Yi Yj qaj (pv 4)))
  (qe (zX (yL XG X4 X5 zt (pv 4) (qa (zl (qa (zg qei qm (qk q8 (qD qC (by rfl) T.len Qb (qa (pv 4) qb)) qf) (λ _ _=>rfl)) (qa (qai XG Yi Yj qaj (pv 4)) (qa (pv 7) qb)))) qb))))))
  (qe (qo (zg zZ (pv 4) qf (λ _ _=>rfl))))))),?_⟩
 rw[qlB,qoM,qkf];have uS:(0:Int)<7:=by decide
 refine⟨_,rfl,_,rfl,a,ns,cL,rfl,hS,a0,by omega,λ z H1 g1 z0 z1=>?_⟩;refine⟨_,_,rfl,rfl,⟨by decide,by decide⟩,_,rfl,z / 3,ls,rfl,Jp z0 (by decide),l9,λ t v H2 g2 tr nA uY=>⟨qp (by show 1<=_;decide),λ tb dB=>?_⟩⟩;have fT:H tb=none:=by
  cases e:H tb with
  |none=>rfl
  |some o=>rw[(g1.trans g2) _ _ e] at dB;cases dB
 have top:∀{B:Nat}{H':Hp}{vs:List V},Stk ls B H' vs->0<vs.length->∃ ws x t,vs=ws++[x]/\zV H' t x/\t.Of ls/\t.wt+ws.length<=B/\Stk ls (B-t.wt) H' ws:=λ E2 hl=>E2.top hl
 have w1:=Tr.wt_leaf uY;refine⟨_,rfl,m,rfl,by omega,by omega,?_⟩;refine jH (λ i σ H'=>∃(vs:List V)(v5 v6 v7:Option V),σ=[some (.ref a),some (.int cL),some (.int m),some (vS ls),some (.ref tb),v5,v6,v7]/\qg H H'/\H' tb=some (.lst vs)/\0<vs.length/\Stk ls (1+i) H' vs)
  ⟨[v],none,none,none,rfl,((g1.trans g2).to dB),qc,Nat.one_pos,⟨0+t.wt,by omega,(show StkI ls _ ([]++[v]) (0+t.wt) from StkI.nil.snoc (tr.mono (qX (qg.up dB))) nA)⟩⟩ ?_ ?_
 ·rintro i σ H3 hi ⟨vs,v5,v6,v7,rfl,g3,e3,lv,sk⟩;have pB:(i:Int)<m:=by omega
  have O8:vs.length<=200:=by
   obtain⟨ws,x,t,rfl,_,_,h,_⟩:=top sk lv;rw[Zj,XY]
   have:=t.wt_pos
   omega
  refine⟨_,rfl,_,rfl,_,_,rfl,rfl,_,rfl,_,_,rfl,rfl,a,ns,_,rfl,hS.mono g3,?_,?_,λ z H4 g4 z0 z1=>?_⟩
  ·show(0:Int)<=cL+1+(0+(i:Int));omega
  ·show cL+1+(0+(i:Int))<=100000;omega
  have e4:=g4 _ _ e3;have g34:=g3.trans g4;have sk4:=sk.mono (qX g4);dsimp only[k9];refine jK (qoK qA (qmV qA (qke qA (dvA rfl) uS) dC) (qnR qA (qmV qA (qke qA (dvA rfl) uS) dC) (qmV qA (qoL (K:=K) (by rfl) (SqL.of e4)) dC))) at0 (λ hb H5 g5=>?_) (λ hb H5 g5=>?_)
  ·-- a leaf
   have e5:=g5 _ _ e4;refine⟨_,rfl,.inl ⟨rfl,_,SqL.of e5⟩,_,rfl,_,_,rfl,rfl,⟨by decide,by decide⟩,_,rfl,z / 7,ls,rfl,Jp z0 (by decide),l9,λ t' v' H6 g6 cO uU uX=>⟨tb,vs,v',rfl,rfl,g6 _ _ e5,zh (by omega),?_⟩⟩;have e6:=g6 _ _ e5;refine⟨vs++[v'],_,_,_,rfl,((g34.trans g5).trans g6).at fT,qc,by simp,?_⟩;have sk6:=((sk4.mono (qX g5)).mono (qX g6)).mono (qY.updL e6 (o:=.lst (vs++[v'])));have w1':=Tr.wt_leaf uX;exact Stk.put (B:=1+(i+1)) (sk6.up (by omega)) (cO.mono (qY.updL e6)) uU (by omega)
  ·have e5:=g5 _ _ e4;have cK:=g34.trans g5;have sk5:=sk4.mono (qX g5);have c5:z % 7≠6->2<=vs.length:=λ C7=>by
    have:=Jh z (b:=7) (by decide)
    have:=Zr z (b:=7) (by decide)
    rw[Bool.or_eq_false_iff,Bool.and_eq_false_iff] at hb;obtain⟨h1,h2⟩:=hb;have h1:¬ z % 7<3:=Zu h1;rcases h2 with h2|h2
    ·have h2:¬ z % 7<6:=Zu h2;omega
    ·have h2:¬ ((vs.length:Nat):Int)<2:=Zu h2;omega
   obtain⟨ws,x,t,rfl,tx,ox,hx,sO⟩:=top sk5 lv;refine jK (yh (dIE qA (qke qA (dvA rfl) uS) dC)) at0 (λ P5 H6 g6=>?_) (λ P5 H6 g6=>?_)
   ·-- not
    have e6:=g6 _ _ e5;refine⟨_,rfl,.inl ⟨rfl,_,SqL.of e6⟩,_,rfl,.inl ⟨rfl,_,SqL.of e6⟩,tb,_,x,rfl,rfl,e6,yx ws x,?_⟩;rw[Yw];refine⟨qp (by show 2<=_;decide),λ p hp=>⟨tb,ws,.ref p,rfl,rfl,(qg.up hp) _ _ qc,zh (by rw[Zj] at O8;simp at O8;omega),?_⟩⟩;have c1:qY H5 (upd H6 tb (.lst ws)):=(qX g6).trans (qY.updL e6);have c2:qY (upd H6 tb (.lst ws)) (upd (upd H6 tb (.lst ws)) p (.tup [vS [126],x])):=qX (qg.up hp);have e7:upd (upd H6 tb (.lst ws)) p (.tup [vS [126],x]) tb=some (.lst ws):=(qg.up hp) _ _ qc;have c3:=qY.updL e7 (o:=.lst (ws++[.ref p]));have cc:=(c1.trans c2).trans c3;refine⟨ws++[.ref p],_,_,_,rfl,(((cK.trans g6).at fT).to hp).at fT,qc,by simp,?_⟩;exact Stk.put (B:=1+(i+1)) (t:=.neg t) ((sO.mono cc).up (by show 1+i-t.wt<=1+(i+1)-(t.wt+1);omega)) ⟨p,x,rfl,c3 _ _ qc,tx.mono cc⟩ ox (by show t.wt+1<=_;omega)
   ·-- a pair
    have e6:=g6 _ _ e5;have C7:z % 7≠6:=Zu P5;have l2:=c5 C7;rw[Zj,XY] at l2;obtain⟨us,y,t',rfl,ty,oy,hy,wC⟩:=top sO (by omega);refine⟨_,rfl,.inl ⟨rfl,_,SqL.of e6⟩,tb,_,x,rfl,rfl,e6,yx _ x,?_⟩;rw[Yw];have e7:upd H6 tb (.lst (us++[y])) tb=some (.lst (us++[y])):=qc;have n0:=Jh (z / 7) (b:=3) (by decide);have n1:=Zr (z / 7) (b:=3) (by decide);obtain⟨c,hc,aG⟩:=qhK (l:=[38,124,43]) n0 n1;refine⟨_,rfl,.inl ⟨rfl,_,SqL.of e7⟩,_,rfl,_,_,rfl,rfl,⟨by decide,by decide⟩,_,_,rfl,rfl,(show(0:Int)<3 by decide),_,_,_,rfl,rfl,qp (by show 3<=_;decide),aG,_,rfl,.inl ⟨rfl,_,SqL.of e7⟩,tb,_,y,rfl,rfl,e7,yx us y,?_⟩;rw[Yw];refine⟨_,rfl,qp (by show 3<=_;decide),λ p hp=>⟨tb,us,.ref p,rfl,rfl,(qg.up hp) _ _ qc,zh (by simp at O8;omega),?_⟩⟩;have c1:qY H5 (upd (upd H6 tb (.lst (us++[y]))) tb (.lst us)):=((qX g6).trans (qY.updL e6)).trans (qY.updL e7);have c2:=qX (qg.up hp (o:=.tup [vS [c],y,x]));have e8:=(qg.up hp (o:=.tup [vS [c],y,x])) tb _ qc;have c3:=qY.updL e8 (o:=.lst (us++[.ref p]));have cc:=(c1.trans c2).trans c3;have D8:c=38∨c=124∨c=43:=by simpa using hc
    refine⟨us++[.ref p],_,_,_,rfl,((((cK.trans g6).at fT).at fT).to hp).at fT,qc,by simp,?_⟩;exact Stk.put (B:=1+(i+1)) (t:=.bin c t' t) ((wC.mono cc).up (by show 1+i-t.wt-t'.wt<=1+(i+1)-(t'.wt+t.wt);omega)) ⟨p,y,x,rfl,c3 _ _ qc,ty.mono cc,tx.mono cc⟩ ⟨D8,oy,ox⟩ (by show t'.wt+t.wt<=_;rw[Zj,XY] at hx;omega)
 ·rintro σ H3 ⟨vs,v5,v6,v7,rfl,g3,e3,lv,sk⟩;refine⟨λ μ σ H'=>∃(vs:List V)(v7:Option V),σ=[some (.ref a),some (.int cL),some (.int m),some (vS ls),some (.ref tb),v5,v6,v7]/\qg H H'/\H' tb=some (.lst vs)/\0<vs.length/\Stk ls (1+m.toNat) H' vs/\μ=vs.length,⟨_,vs,v7,rfl,g3,e3,lv,sk,rfl⟩,?_⟩;rintro μ σ H4 ⟨vs,v7,rfl,g4,e4,lv,sk,rfl⟩;refine⟨_,rfl,tb,_,rfl,.inl (SqL.of e4),_,_,rfl,rfl,_,rfl,?_⟩;refine qbs (λ c=>?_) (λ c=>?_)
  ·have c':(1:Int)<((vs.length:Nat):Int):=Um c;obtain⟨ws,x,t,rfl,tx,ox,hx,sO⟩:=top sk lv;rw[Zj,XY] at c';obtain⟨us,y,t',rfl,ty,oy,hy,wC⟩:=top sO (by omega);rw[Zj,XY] at hx;refine⟨λ σ' H'=>∃(gP:List V)(v7:Option V),σ'=[some (.ref a),some (.int cL),some (.int m),some (vS ls),some (.ref tb),v5,v6,v7]/\qg H H'/\H' tb=some (.lst gP)/\0<gP.length/\Stk ls (1+m.toNat) H' gP/\gP.length<(us++[y]++[x]).length,?_,?_⟩
   ·rintro σ' H' ⟨gP,v7,e,b1,b2,b3,b4,b5⟩;exact⟨gP.length,b5,gP,v7,e,b1,b2,b3,b4,rfl⟩
   refine⟨_,rfl,.inl ⟨rfl,_,SqL.of e4⟩,tb,_,x,rfl,rfl,e4,yx _ x,?_⟩;rw[Yw];have e7:upd H4 tb (.lst (us++[y])) tb=some (.lst (us++[y])):=qc;have n0:=Jh (((us++[y]).length:Nat):Int) (b:=3) (by decide);have n1:=Zr (((us++[y]).length:Nat):Int) (b:=3) (by decide);obtain⟨c,hc,aG⟩:=qhK (l:=[124,43,38]) n0 n1;refine⟨_,rfl,.inl ⟨rfl,_,SqL.of e7⟩,_,rfl,tb,_,rfl,.inl (SqL.of e7),_,_,rfl,rfl,(show(0:Int)<3 by decide),_,_,_,rfl,rfl,qp (by show 3<=_;decide),aG,_,rfl,.inl ⟨rfl,_,SqL.of e7⟩,tb,_,y,rfl,rfl,e7,yx us y,?_⟩;rw[Yw];have aA1:us.length<=200:=by omega
   refine⟨_,rfl,qp (by show 3<=_;decide),λ p hp=>⟨tb,us,.ref p,rfl,rfl,(qg.up hp) _ _ qc,zh (by omega),?_⟩⟩;have c1:qY H4 (upd (upd H4 tb (.lst (us++[y]))) tb (.lst us)):=(qY.updL e4).trans (qY.updL e7);have c2:=qX (qg.up hp (o:=.tup [vS [c],y,x]));have e8:=(qg.up hp (o:=.tup [vS [c],y,x])) tb _ qc;have c3:=qY.updL e8 (o:=.lst (us++[.ref p]));have cc:=(c1.trans c2).trans c3;have D8:c=38∨c=124∨c=43:=by
    have:c=124∨c=43∨c=38:=by simpa using hc
    rcases this with e|e|e <;> simp[e]
   refine⟨us++[.ref p],_,rfl,(((g4.at fT).at fT).to hp).at fT,qc,by simp,?_,by simp⟩;exact Stk.put (B:=1+m.toNat) (t:=.bin c t' t) ((wC.mono cc).up (by show 1+m.toNat-t.wt-t'.wt<=1+m.toNat-(t'.wt+t.wt);omega)) ⟨p,y,x,rfl,c3 _ _ qc,ty.mono cc,tx.mono cc⟩ ⟨D8,oy,ox⟩ (by show t'.wt+t.wt<=_;omega)
  ·have c':¬ (1:Int)<((vs.length:Nat):Int):=Zu (Z7.mpr c);obtain⟨v,rfl⟩:∃ v,vs=[v]:=by
    match vs,lv,c' with
    | [v],_,_=>exact⟨v,rfl⟩
    |_::_::_,_,h=>simp at h;omega
   obtain⟨ws,x,t,e,h1,h2,h3,_⟩:=top sk lv;obtain rfl:v=x:=by
    cases ws with
    |nil=>simpa using e
    |cons a l=>simp at e
   exact⟨_,rfl,tb,_,_,v,rfl,rfl,SqL.of e4,rfl,q t v H4 g4 h1 h2 (by omega)⟩
def qiL(f:Tr->V)(n:Nat):Sp:=λ vs H Q _=>∃(v:V)(t:Tr),vs=[v]/\zV H t v/\t.ht<=n/\t.wt<=1000/\t.Of zw/\∀ H',qg H H'->Q (f t) H'
theorem dtv{f:Tr->V}{n:Nat}{σ0:St}{H0:Hp}{t1:TE}{x:V}{t:Tr}(h1:Dv (At σ0 H0) t1 x)(tr:zV H0 t x)(ht:t.ht<=n)(hw:t.wt<=1000)(of:t.Of zw):
  Dv (At σ0 H0) (qcl (qiL f n) [] E0 (qaG t1 yZ)) (f t):=λ σ H Q hΓ q =>
 h1 σ H _ hΓ λ H1 g1=>⟨x,t,rfl,tr.mono (qX (hΓ.2.trans g1)),ht,hw,of,λ H' g=>q H' (g1.trans g)⟩
theorem qgW:FnScope [sA4] [sA4] (qi yI):=scF
theorem qlP{f:Tr->V}{g:Addr}{fd:FuncData}:FnOk P w K mg base CX0 0 g fd [sA4] (qiL f 0):=
 ⟨λ vs H Q E h=>by obtain⟨_,t,_,_,h,_⟩:=h;have:=t.ht1;omega,λ A outer s H args us vs Q E _ _ _ _ h=>by obtain⟨_,t,_,_,h,_⟩:=h;have:=t.ht1;omega⟩
theorem qeR{n:Nat}{f:Addr}{fd:FuncData}(F:Fun K sA6 sA6 yI f fd)(T:Txt mg)(bG:qh K fd [sA4] [])(mG:mg sA6=some (.ref f))(GG:FnOk P w K mg base CX0 n f fd [sA4] (qiL zP n)):FnOk P w K mg base CX0 (n+1) f fd [sA4] (qiL zP (n+1)):=by
 refine F.okd qgW (λ cdv A outer s H vs Q E hr h=>?_);obtain⟨v,t,rfl,tr,ht,hw,of,q⟩:=h;have kG:=F.kp;refine⟨_,(qd (zf (qx zr (zg zK (pv 0) qf (λ _ _=>rfl)) qm (qG _)) (qe (qo (zg zK (pv 0) qf (λ _ _=>rfl)))) qL)
  (qd (zf (qx zr (qD qC (by rfl) T.len Qb (qa (pv 0) qb)) qf (qG _)) (qe (qo (zg zK (pv 0) qf (λ _ _=>rfl)))) qL)
  (qd (zf (qx zr (zg zK (pv 0) qf (λ _ _=>rfl)) qm (qG _)) (qe (qo (qk qz qm (qjt GG hr mG kG bG (qa (zg zK (pv 0) qf (λ _ _=>rfl)) qb))))) qL)
  (qe (qo (qk qz (qk qz (qk qz (qk qz qm (qjt GG hr mG kG bG (qa (zg zK (pv 0) qf (λ _ _=>rfl)) qb))) (zg zK (pv 0) qf (λ _ _=>rfl))) (qjt GG hr mG kG bG (qa (zg zK (pv 0) qf (λ _ _=>rfl)) qb))) qm)))))),?_⟩
 rw[qaC,qkf,qbB,vo];cases t with
 |letter c =>
  obtain⟨a,rfl,h⟩:=tr;have hT:SqT K H a _:=SqT.of h;refine jK (yh (qbd qA (k7 rfl hT rfl) dC)) at0 (λ _ H1 g1=>?_) (λ hb=>absurd hb (by simp));exact qbZ (k7 rfl (g1.seqT hT) rfl) at0 λ H2 g2=>q H2 (g1.trans g2)
 |one =>
  obtain⟨a,rfl,h⟩:=tr;have hT:SqT K H a _:=SqT.of h;refine jK (yh (qbd qA (k7 rfl hT rfl) dC)) at0 (λ hb=>absurd hb (by decide)) (λ _ H1 g1=>?_);refine jK (yh (dIE qA (qhL rfl (g1.seqT hT)) dC)) at0 (λ _ H2 g2=>?_) (λ hb=>absurd hb (by decide));exact qbZ (k7 rfl ((g1.trans g2).seqT hT) rfl) at0 λ H3 g3=>q H3 ((g1.trans g2).trans g3)
 |zero =>
  obtain⟨a,rfl,h⟩:=tr;have hT:SqT K H a _:=SqT.of h;refine jK (yh (qbd qA (k7 rfl hT rfl) dC)) at0 (λ hb=>absurd hb (by decide)) (λ _ H1 g1=>?_);refine jK (yh (dIE qA (qhL rfl (g1.seqT hT)) dC)) at0 (λ _ H2 g2=>?_) (λ hb=>absurd hb (by decide));exact qbZ (k7 rfl ((g1.trans g2).seqT hT) rfl) at0 λ H3 g3=>q H3 ((g1.trans g2).trans g3)
 |neg t =>
  obtain⟨a,x,rfl,h,tx⟩:=tr;have hT:SqT K H a _:=SqT.of h;have ht':t.ht<=n:=XT ht;have iD:t.wt+1<=1000:=hw;have l1:=t.text_len;refine jK (yh (qbd qA (k7 rfl hT rfl) dC)) at0 (λ hb=>absurd hb (by decide)) (λ _ H1 g1=>?_);refine jK (yh (dIE qA (qhL rfl (g1.seqT hT)) dC)) at0 (λ hb=>absurd hb (by simp)) (λ _ H2 g2=>?_);have L9:=g1.trans g2;refine jK (yh (qbd qA (k7 rfl (L9.seqT hT) rfl) dC)) at0 (λ _ H3 g3=>?_) (λ hb=>absurd hb (by decide));have W1:=L9.trans g3;exact qbZ (ya qA dC (dtv (f:=zP) (n:=n) (k7 rfl (W1.seqT hT) rfl) (tx.mono (qX W1)) ht' (by omega) of) (by rw[XY];omega)) at0 λ H4 g4=>q H4 (W1.trans g4)
 |bin op t u =>
  obtain⟨a,x,y,rfl,h,tx,uy⟩:=tr;have hT:SqT K H a _:=SqT.of h;have hm:max t.ht u.ht+1<=n+1:=ht;have iD:t.wt+u.wt<=1000:=hw;obtain⟨D8,ot,ou⟩:=of;have l1:=t.text_len;have l2:=u.text_len;have nl:decide ([op]=jz)=false:=Jq (by simp[jz]);have nw:decide ([op]=[126])=false:=Jq (by rcases D8 with e | e | e <;> simp[e]);refine jK (yh (qbd qA (k7 rfl hT rfl) dC)) at0 (λ hb=>absurd (nl.symm.trans hb) (by decide)) (λ _ H1 g1=>?_);refine jK (yh (dIE qA (qhL rfl (g1.seqT hT)) dC)) at0 (λ hb=>absurd hb (by simp)) (λ _ H2 g2=>?_);have L9:=g1.trans g2;refine jK (yh (qbd qA (k7 rfl (L9.seqT hT) rfl) dC)) at0 (λ hb=>absurd (nw.symm.trans hb) (by decide)) (λ _ H3 g3=>?_);have W1:=L9.trans g3;exact qbZ (ya qA (ya qA (ya qA (ya qA dC (dtv (f:=zP) (n:=n) (k7 rfl (W1.seqT hT) rfl) (tx.mono (qX W1)) (by omega) (by omega) ot) (by rw[XY];omega))
   (k7 rfl (W1.seqT hT) rfl) (by simp only[Zj,XY];omega)) (dtv (f:=zP) (n:=n) (k7 rfl (W1.seqT hT) rfl) (uy.mono (qX W1)) (by omega) (by omega) ou) (by simp only[Zj,XY];omega))
   dC (by simp only[Zj,XY];omega)) at0 λ H4 g4=>q H4 (W1.trans g4)
theorem qda{f:Addr}{fd:FuncData}(F:Fun K sA6 sA6 yI f fd)(T:Txt mg)(bG:qh K fd [sA4] [])(mG:mg sA6=some (.ref f)):∀ n,FnOk P w K mg base CX0 n f fd [sA4] (qiL zP n)
 |0=>qlP
 |n+1=>qeR F T bG mG (qda F T bG mG n)
noncomputable def yX:Nat->List (List Bool)
 |0=>[[]]
 |n+1=>(yX n).flatMap λ r=>[r++[false],r++[true]]
theorem qdZ:∀{n:Nat}{r:List Bool},r∈yX n->r.length=n
 |0,r,h=>by simp[yX] at h;rw[h];rfl
 |n+1,r,h=>by
  rw[yX,List.mem_flatMap] at h;obtain⟨q,hq,h⟩:=h
  have:=qdZ hq
  simp at h;rcases h with e|e <;> rw[e,Zj,this] <;> rfl
theorem vq:∀ n:Nat,(yX n).length=2^n
 |0=>rfl
 |n+1=>by
  have gen:∀ l:List (List Bool),(l.flatMap λ r=>[r++[false],r++[true]]).length=l.length*2:=by
   intro l;induction l with
   |nil=>rfl
   |cons a l ih=>rw[List.flatMap_cons,Zj,ih,Uo];simp;omega
  rw[yX,gen,vq n,Q2]
noncomputable def ym(ls:List Nat)(r:List Bool):List (Key×V):=(ls.zip r).map λ x=>(Sum.inr (qj [x.1]),V.bl x.2)
theorem kC{ls:List Nat}{r:List Bool}(hl:ls.length=r.length){c:Nat}:zx (ym ls r) (.inr (qj [c]))=if c∈ls then some (.bl (asg ls r c)) else none:=by
 have i9:∀(l:List (Nat×Bool)),zx (l.map λ x=>((Sum.inr (qj [x.1]):Key),V.bl x.2)) (.inr (qj [c]))=((l.find? λ x=>decide (x.1=c)).map λ x=>V.bl x.2):=by
  intro l;induction l with
  |nil=>rfl
  |cons x l ih =>
   unfold zx at ih ⊢;rw[Qi,Jb,Jb];have e:decide (((Sum.inr (qj [x.1]):Key))=.inr (qj [c]))=decide (x.1=c):=by
    by_cases h:x.1=c
    ·rw[h];simp
    ·rw[Jq h,Jq];intro e
     have:=yQ (Sum.inr.inj e)
     exact h (by simpa using this)
   dsimp only;rw[e];cases decide (x.1=c) with
   |true=>rfl
   |false=>exact ih
 unfold ym;rw[i9];have mem:∀(ls:List Nat)(r:List Bool),ls.length=r.length->(((ls.zip r).find? λ x=>decide (x.1=c)).map λ x=>V.bl x.2)=if c∈ls then some (.bl (asg ls r c)) else none:=by
  intro ls;induction ls with
  |nil=>intro r h;simp
  |cons a ls ih =>
   intro r h;cases r with
   |nil=>simp at h
   |cons b r =>
    unfold asg;rw[Zn,Jb];by_cases e:a=c
    ·subst e;simp
    ·have:=ih r (by simpa using h)
     rw[show decide ((a,b).1=c)=false from Jq e];dsimp only;rw[this];unfold asg;simp[Vx e]
 exact mem ls r hl
theorem qiM{ls:List Nat}{r:List Bool}{c:Nat}{b:Bool}(h:ls.length=r.length):ym (ls++[c]) (r++[b])=ym ls r++[((Sum.inr (qj [c]):Key),V.bl b)]:=by
 unfold ym;rw[Jf h,Jg];rfl
theorem qfU{ls:List Nat}(hl:ls.Nodup){i:Nat}(hi:i<ls.length):ls[i]∉ls.take i:=λ h=>by
 obtain⟨j,hj,e⟩:=Y4 h;rw[Uq] at hj;rw[Uc] at e;exact absurd ((List.getElem_inj hl).mp e) (by omega)
def jr(H:Hp)(ls:List Nat)(ds:List Addr)(rs:List (List Bool)):Prop:=Paired (λ d r=>H d=some (.dK (ym ls r))) ds rs
theorem jr.mono{H H':Hp}{ls:List Nat}{ds:List Addr}{rs:List (List Bool)}(h:jr H ls ds rs)(g:qg H H'):jr H' ls ds rs:=L2.Paired.mapP h λ d r e=>g _ _ e
theorem jr.upd{H:Hp}{ls:List Nat}{ds:List Addr}{rs:List (List Bool)}(h:jr H ls ds rs){m:Addr}{xs:List V}(hm:H m=some (.lst xs)){o:HO}:jr (upd H m o) ls ds rs:=L2.Paired.mapP h λ d r e=>by
 have ne:d≠m:=λ q=>by rw[q,hm] at e;cases e
 rw[qv ne];exact e
noncomputable def qgX(r:List Bool):List (List Bool):=[r++[false],r++[true]]
theorem qkG(l:List (List Bool)):(l.flatMap qgX).length=l.length*2:=by
 induction l with
 |nil=>rfl
 |cons a l ih=>rw[List.flatMap_cons,Zj,ih,Uo];show 2+_=_;omega
theorem qlQ{H H1:Hp}(g:qg H H1){p:Addr}(h:H1 p=none):H p=none:=by
 cases e:H p with
 |none=>rfl
 |some u=>rw[g _ _ e] at h;cases h
theorem qfV{H:Hp}{p q:Addr}{o:HO}(h:H p=none)(e:H q=some o):p≠q:=λ x=>by rw[x,e] at h;cases h
theorem qlR{kvs:List (Key×V)}{k:Key}(h:k∉kvs.map (·.1)):zx kvs k=none:=by
 unfold zx;rw[List.find?_eq_none.mpr λ p hp=>by
  intro e;exact h (Q3.mpr ⟨p,hp,Um e⟩)]
 rfl
theorem qbG:∀(l c6:List (Key×V)),((c6++l).map (·.1)).Nodup->qW c6 l=c6++l
 | [],c6,_=>by rw[U8];rfl
 |x::l,c6,h=>by
  have e:c6++x::l=(c6++[x])++l:=by simp
  have hx:x.1∉c6.map (·.1):=λ hm=>by
   rw[Jg,Qi,Z2] at h;exact h.2.2 _ hm _ (Zf ..) rfl
  show qW (yJ c6 x.1 x.2) l=_
  rw[qe2 _ (qlR hx),e];exact qbG l (c6++[x]) (by rw[<- e];exact h)
theorem qd0{ls:List Nat}{r:List Bool}(h:ls.length=r.length):(ym ls r).map (·.1)=ls.map λ c=>(Sum.inr (qj [c]):Key):=by
 unfold ym;rw[Q4]
 have:(ls.zip r).map (·.1)=ls:=by rw[<- List.unzip_fst,List.unzip_zip h]
 conv=>rhs;rw[<- this]
 rw[Q4];rfl
theorem qiN{ls:List Nat}{r:List Bool}(nd:ls.Nodup)(h:ls.length=r.length):qW [] (ym ls r)=ym ls r:=by
 rw[qbG _ [] (by
  rw[Je,qd0 h];exact Z4.mpr (nd.imp λ{a b} x4 e=>x4 (by have:=yQ (Sum.inr.inj e);simpa using this)))]
 rfl
noncomputable def qiO(ls:List Nat)(r:List Bool):List (Str×V):=(ls.zip r).map λ x=>(qj [x.1],V.bl x.2)
theorem qlS(ls:List Nat)(r:List Bool):kvK (qiO ls r)=ym ls r:=by unfold kvK qiO ym;rw[Q4];rfl
theorem qiP{ls:List Nat}{r:List Bool}{c:Nat}{b:Bool}(h:ls.length=r.length):qiO (ls++[c]) (r++[b])=qiO ls r++[(qj [c],V.bl b)]:=by
 unfold qiO;rw[Jf h,Jg];rfl
theorem kF{α β γ δ:Type}{F:α->β->Prop}{G:α->δ->Prop}{f:γ->β}{g:γ->δ}(h:∀ a c,F a (f c)->G a (g c)):∀{l:List α}{m:List γ},Paired F l (m.map f)->Paired G l (m.map g)
 | [],[],_=>.nil
 | [],_::_,p=>by cases p
 |_::_,[],p=>by cases p
 |a::l,c::m,p=>by
  cases p with
  |cons r t=>exact .cons (h _ _ r) (kF h t)
def qeS:Sp:=λ vs H Q _=>∃(ls:List Nat),vs=[vS ls]/\ls.Nodup/\ls.length<=9/\∀ r ds H',qg H H'->H' r=some (.lst (ds.map V.ref))->jr H' ls ds (yX ls.length)->Q (.ref r) H'
theorem vt:FnScope [sA2,"_law_rows_here",sB3,"_law_more",sA8,"_law_bit"] [sA2] (qi qaA):=scF
theorem qkH{k:Nat}{f:Addr}{fd:FuncData}(F:Fun K sC5 sC5 qaA f fd)(T:Txt mg):FnOk P w K mg base CX0 (k+1) f fd [sA2] qeS:=by
 refine F.okd vt (λ cdv A outer s H vs Q E hr h=>?_);obtain⟨ls,rfl,nd,l9,q⟩:=h;refine⟨_,qd (qr (i:=1) vt.nd rfl (Or.inl rfl) (zE (qa qe5 qb)))
  (qd (zR Jn rfl (vJ (pv 0)) (qt (i:=2) vt.nd rfl (Or.inl rfl))
   (qd (qr (i:=3) vt.nd rfl (Or.inl rfl) (zE qb))
   (qd (zR Jn rfl (yi (pv 1)) (qt (i:=4) vt.nd rfl (Or.inl rfl))
    (qe (zR Jn rfl (qch (zl (qa qhh (qa qhh qb)))) (qt (i:=5) vt.nd rfl (Or.inl rfl))
     (qe (zX (yL XG X4 X5 zt (pv 3) (qa (zd (vO rfl) (by rfl) T.dict qeK (qa (qk qak (qey (by rfl) (by rfl) T.list (pv 4)) (zE (qa (zl (qa (pv 2) (qa (pv 5) qb))) qb))) qb)) qb)))))))
   (qe (qr (i:=1) vt.nd rfl (Or.inl rfl) (pv 3))))))
  (qe (qo (pv 1)))),?_⟩
 have hs:(qj ls).cps.size=ls.length:=qu ls;refine λ p0 hp0=>⟨qp (by show 1<=_;decide),λ r0 hr0=>?_⟩
 have n0:r0≠p0:=qfV hr0 qc;refine⟨_,rfl,_,rfl,?_⟩;refine qb2 (λ i σ H1=>∃(r:Addr)(ds:List Addr)(v2 v3 v4 v5:Option V),σ=[some (vS ls),some (.ref r),v2,v3,v4,v5]/\qg H H1/\H1 r=some (.lst (ds.map V.ref))/\jr H1 (ls.take i) ds (yX i)) ⟨r0,[p0],none,none,none,none,rfl,(qg.up hp0).to hr0,qc,.cons (by rw[qv (Vx n0),qc];rfl) .nil⟩ ?_ ?_
 ·rintro i σ H1 hi ⟨r,ds,v2,v3,v4,v5,rfl,g1,e1,ra⟩;rw[hs] at hi;rw[jo hi];have dl:ds.length=2^i:=(Y7 ra).trans (vq i);have d9:2^i<=512:=Qx (Yu (by decide) (by omega:i<=9)) (by decide);refine⟨Vd _,λ m hm=>?_⟩;have nmr:r≠m:=qZ e1 hm;refine⟨_,rfl,r,rfl,⟨_,SqL.of (by rw[qv nmr];exact e1)⟩,?_⟩;refine vC (K:=K) (xs:=ds.map V.ref) (λ j σ H2=>∃(mU:List Addr)(v4 v5:Option V),σ=[some (vS ls),some (.ref r),some (vS [ls[i]]),some (.ref m),v4,v5]/\qg H1 H2/\H2 m=some (.lst (mU.map V.ref))/\jr H2 (ls.take (i+1)) mU (((yX i).take j).flatMap qgX)) ⟨[],v4,v5,rfl,qg.up hm,qc,.nil⟩ (λ j σ H2 hj ⟨_,_,_,_,g2,_⟩=>g2.seq (SqL.of e1)) ?_ ?_
  ·rintro j x σ H2 hj ⟨mU,v4,v5,rfl,g2,e2,rb⟩;obtain⟨d,hd,rfl⟩:=ql hj;obtain⟨N0,oE,tP⟩:=zk ra j d hd;refine⟨qp (by show 2<=_;decide),λ t ht=>?_⟩;refine⟨t,rfl,⟨_,SqT.of qc⟩,?_⟩;refine qhk (K:=K) (xs:=[V.bl false,V.bl true]) (λ k σ H3=>∃(gI:List Addr)(v5:Option V),σ=[some (vS ls),some (.ref r),some (vS [ls[i]]),some (.ref m),some (.ref d),v5]/\qg H1 H3/\H3 t=some (.tup [V.bl false,V.bl true])/\H3 m=some (.lst (gI.map V.ref))/\jr H3 (ls.take (i+1)) gI (((yX i).take j).flatMap qgX++(qgX N0).take k)) ⟨mU,v5,rfl,g2.to ht,qc,by rw[qv (qZ e2 ht)];exact e2,by rw[J8,U8];exact rb.mono (qg.up ht)⟩ (λ k σ H3 hk ⟨_,_,_,_,h,_⟩=>SqT.of h) ?_ ?_
   ·rintro k x σ H3 hk ⟨gI,v5,rfl,g3,tZ,mS,rc⟩;have hb:∃ b,x=V.bl b/\(qgX N0)[k]?=some (N0++[b]):=by
     match k,hk with
     |0,h=>exact⟨false,(Option.some.inj h).symm,rfl⟩
     |1,h=>exact⟨true,(Option.some.inj h).symm,rfl⟩
     |n+2,h=>cases h
    obtain⟨b,rfl,hb⟩:=hb;have l3:gI.length<=1026:=by
     rw[Y7 rc,Zj,qkG,Uq,Uq,vq];show min j _*2+min k 2<=1026
     omega
    have lr:(ls.take i).length=N0.length:=by rw[Uq,qdZ (Yn oE)];omega
    refine⟨_,rfl,.inl ⟨rfl,_,SqL.of mS⟩,_,rfl,d,_,rfl,g3 _ _ tP,λ l as H4 g4 el pr=>?_⟩;refine⟨_,rfl,_,rfl,qp (by show 2<=_;decide),λ p hp=>⟨qp (by show 1<=_;decide),λ l2 L7=>?_⟩⟩;have las:as.length<=9:=by rw[Y7 pr,ym,U7,Jm,Uq];omega
    have s1:=(qg.up hp (o:=.tup [vS [ls[i]],.bl b])).to L7 (o:=.lst [.ref p]);have ep:upd (upd H4 p (.tup [vS [ls[i]],.bl b])) l2 (.lst [.ref p]) p=some (.tup [vS [ls[i]],.bl b]):=(qg.up L7) _ _ qc;refine⟨l,l2,_,_,rfl,rfl,s1 _ _ el,qc,by rw[U7];exact qp (by show as.length+1<=_;omega),λ l3' tL=>?_⟩;have s2:=s1.to tL (o:=.lst (as.map V.ref++[.ref p]));refine⟨l3',as++[p],qiO (ls.take i++[ls[i]]) (N0++[b]),rfl,SqL.of (by rw[qc,Jg];rfl),?_,λ o1 ho=>?_⟩
    ·rw[qiP lr];refine Vg ?_ (SqT.of ((qg.up tL) _ _ ep));have pr':Paired (λ c (x:Nat×Bool)=>H4 c=some (.tup [vS [x.1],.bl x.2])) as ((ls.take i).zip N0):=by
      have:=kF (G:=λ c (x:Nat×Bool)=>H4 c=some (.tup [vS [x.1],.bl x.2])) (f:=λ x:Nat×Bool=>((Sum.inr (qj [x.1]):Key),V.bl x.2)) (g:=λ x=>x) (λ a c h=>h) pr
      rwa [List.map_id'] at this
     have:=kF (G:=λ c (kv:Str×V)=>SqT K (upd (upd (upd H4 p (.tup [vS [ls[i]],.bl b])) l2 (.lst [.ref p])) l3' (.lst (as.map V.ref++[.ref p]))) c [.str kv.1,kv.2]) (f:=λ x:Nat×Bool=>x) (g:=λ x=>(qj [x.1],V.bl x.2)) (λ a c h=>SqT.of (s2 _ _ h)) (by rw[List.map_id'];exact pr')
     exact this
    rw[qlS,<- Xa hi];have lr1:(ls.take (i+1)).length=(N0++[b]).length:=by rw[Zj,<- lr,Uq,Uq];simp;omega
    rw[qiN (nd.sublist (Zx _ _)) lr1];have s3:=(g4.trans s2).to ho (o:=.dK (ym (ls.take (i+1)) (N0++[b])));have e5m:=s3 _ _ mS;have nmo:m≠o1:=qZ ((g4.trans s2) _ _ mS) ho;refine⟨m,_,.ref o1,rfl,rfl,e5m,by rw[U7];exact zh (by omega),?_⟩;have rc':=(rc.mono s3).upd e5m (o:=.lst (gI.map V.ref++[V.ref o1]));refine⟨gI++[o1],_,rfl,(g3.trans s3).at hm,?_,by rw[qc,Jg];rfl,?_⟩
    ·rw[qv];exact s3 _ _ tZ;exact λ q=>by rw[q,mS] at tZ;cases tZ
    ·rw[show(qgX N0).take (k+1)=(qgX N0).take k++[N0++[b]] by rw[J7,hb];rfl,<- Z1];exact Vg rc' (by rw[qv (Vx nmo),qc])
   ·rintro σ H3 ⟨gI,v5,rfl,g3,tZ,mS,rc⟩;refine⟨gI,_,_,rfl,g3,mS,?_⟩;rw[show(yX i).take (j+1)=(yX i).take j++[N0] by rw[J7,oE];rfl,List.flatMap_append];exact rc
  ·rintro σ H2 ⟨mU,v4,v5,rfl,g2,e2,rb⟩;refine⟨_,rfl,m,mU,_,_,_,_,rfl,g1.trans g2,e2,?_⟩;rw[U7,dl,show(yX i).take (2^i)=yX i from XN (by rw[vq];exact Vc _)] at rb;exact rb
 ·rintro σ H1 ⟨r,ds,v2,v3,v4,v5,rfl,g1,e1,ra⟩;rw[hs,Ux] at ra;exact⟨_,rfl,q r ds H1 g1 e1 ra⟩
theorem Tr.wt_nodes:∀ t:Tr,(t.wt:Int)<=t.nodes
 |.letter _=>by show((1:Nat):Int)<=1;decide
 |.one=>by show((1:Nat):Int)<=1;decide
 |.zero=>by show((1:Nat):Int)<=1;decide
 |.neg t=>by have:=Tr.wt_nodes t;show((t.wt+1:Nat):Int)<=1+t.nodes;omega
 |.bin _ t u=>by have:=Tr.wt_nodes t;have:=Tr.wt_nodes u;show((t.wt+u.wt:Nat):Int)<=1+t.nodes+u.nodes;omega
theorem Tr.nodes_leaf:∀{t:Tr},t.ht=1->t.nodes=1
 |.letter _,_=>rfl
 |.one,_=>rfl
 |.zero,_=>rfl
 |.neg t,h=>by have:t.ht+1=1:=h;have:=t.ht1;omega
 |.bin _ t u,h=>by have:max t.ht u.ht+1=1:=h;have:=t.ht1;omega
def qeT:Sp:=λ vs H Q _=>∃(m:Int)(ls:List Nat),vs=[.int m,vS ls]/\0<=m/\ls.length<=9/\∀ t v H',qg H H'->zV H' t v->t.Of ls->t.nodes<=3->Q v H'
theorem qfW:FnScope [sA5,sA1,"_law_leaf_here"] [sA5,sA1] (qi kn):=scF
theorem qkI{f eJ:Addr}{fd eN:FuncData}(F:Fun K sC1 sC1 kn f fd)(T:Txt mg)(B3:Dp P w K mg base 1 eJ eN [sA5,sA2] (qeQ) sB9): FnOk P w K mg base CX0 2 f fd [sA5,sA1] (qeT):=by
 refine F.okd qfW (λ cdv A outer s H vs Q E hr h=>?_);obtain⟨m,ls,rfl,m0,l9,q⟩:=h;refine⟨_,(qd (qr (i:=2) qfW.nd rfl (Or.inl rfl) (zc B3 hr (qa (qk zN (pv 0) qf) (qa (pv 1) qb))))
  (qd (zf (qx zr (qk q8 (pv 0) qf) qf (qG _))
   (qe (qo (zl (qa qm (qa (pv 2) qb))))) qL)
  (qd (zf (qx qho (qk q8 (pv 0) qf) qf (qG _))
   (qe (qo (zl (qa (zg qei qm (qk q8 (qk zN (pv 0) qf) qf) (λ _ _=>rfl)) (qa (pv 2) (qa (zc B3 hr (qa (qk zN (pv 0) qf) (qa (pv 1) qb))) qb)))))) qL)
  (qe (qo (pv 2)))))),?_⟩
 rw[qlB,qkf];refine⟨_,rfl,_,_,rfl,rfl,⟨by decide,by decide⟩,_,rfl,m / 5,ls,rfl,Jp m0 (by decide),l9,λ t v H1 g1 tr nA uY=>?_⟩;have n1:=Tr.nodes_leaf uY;refine⟨_,rfl,_,_,rfl,rfl,(show(0:Int)<5 by decide),rfl,_,rfl,?_⟩;refine qbs (λ c1=>?_) (λ c1=>?_)
 ·refine⟨_,rfl,qp (by show 2<=_;decide),λ p hp=>?_⟩;exact q (.neg t) _ _ (g1.to hp) ⟨p,v,rfl,qc,tr.mono (qX (qg.up hp))⟩ nA (by show 1+t.nodes<=3;omega)
 refine⟨_,rfl,_,_,rfl,rfl,(show(0:Int)<5 by decide),_,_,rfl,rfl,_,rfl,?_⟩;refine qbs (λ c2=>?_) (λ c2=>?_)
 ·have i0:=Jh (m / 50) (b:=3) (by decide);have i1:=Zr (m / 50) (b:=3) (by decide);obtain⟨c,hc,aG⟩:=qhK (l:=[38,124,43]) i0 i1;refine⟨_,rfl,_,_,rfl,rfl,⟨by decide,by decide⟩,_,_,rfl,rfl,(show(0:Int)<3 by decide),_,_,c,rfl,rfl,qp (by show 3<=_;decide),aG,_,rfl,_,rfl,_,_,rfl,rfl,⟨by decide,by decide⟩,_,rfl,m / 150,ls,rfl,Jp m0 (by decide),l9,λ u x H2 g2 ur uof uht=>?_⟩;have n2:=Tr.nodes_leaf uht;refine⟨qp (by show 3<=_;decide),λ p hp=>?_⟩;have D8:c=38∨c=124∨c=43:=by simpa using hc
  exact q (.bin c t u) _ _ ((g1.trans g2).to hp) ⟨p,v,x,rfl,qc,tr.mono (qX (g2.to hp)),ur.mono (qX (qg.up hp))⟩ ⟨D8,nA,uof⟩ (by show 1+t.nodes+u.nodes<=3;omega)
 ·exact⟨_,rfl,q t v H1 g1 tr nA (by omega)⟩
def SmD(H:Hp)(ls:List Nat)(kvs:List (Key×V)):Prop:=∀ c u,zx kvs (.inr (qj [c]))=some u->∃ t,zV H t u/\t.Of ls/\t.nodes<=3
theorem SmD.mono{H H':Hp}{ls:List Nat}{kvs:List (Key×V)}(h:SmD H ls kvs)(g:qY H H'):SmD H' ls kvs:=λ c u e=>by
 obtain⟨t,a,b,n⟩:=h c u e;exact⟨t,a.mono g,b,n⟩
def qkJ(n:Nat):Sp:=λ vs H Q _=>∃(v:V)(d:Addr)(t:Tr)(kvs:List (Key×V))(ls:List Nat),vs=[v,.ref d]/\zV H t v/\t.ht<=n/\t.Of ls/\H d=some (.dK kvs)/\SmD H ls kvs /\
 ∀ t' v' H',qg H H'->zV H' t' v'->t'.Of ls->t'.nodes<=4*(t.wt:Int)-1->Q v' H'
theorem qiQ:FnScope [sA4,sA3] [sA4,sA3] (qi ja):=scF
theorem qod:(["_law_part",sA3]:List Str).Nodup:=by decide +kernel
theorem qlT{g:Addr}{fd:FuncData}:FnOk P w K mg base CX0 0 g fd [sA4,sA3] (qkJ 0):=
 ⟨λ vs H Q E h=>by obtain⟨_,_,t,_,_,_,_,h,_⟩:=h;have:=t.ht1;omega,λ A outer s H args us vs Q E _ _ _ _ h=>by obtain⟨_,_,t,_,_,_,_,h,_⟩:=h;have:=t.ht1;omega⟩
noncomputable def Tr.kids:Tr->List Tr
 |.neg t=>[t]
 |.bin _ t u=>[t,u]
 |_=>[]
theorem qkK{H:Hp}{t:Tr}{v:V}{ls:List Nat}(nl:∀ c,t≠.letter c)(tr:zV H t v)(of:t.Of ls):∃(a:Addr)(xs:List V)(p:List Nat),v=.ref a/\H a=some (.tup (vS p::xs))/\decide (p=jz)=false/\xs.length<=2 /\
  Paired (λ x (k:Tr)=>zV H k x/\k.ht+1<=t.ht/\k.Of ls) xs t.kids /\
  ∀(H':Hp)(b:Addr)(ys:List V)(us:List Tr),H' b=some (.tup (vS p::ys))->Paired (λ y (u:Tr)=>zV H' u y) ys us->Paired (λ(k u:Tr)=>u.Of ls/\u.nodes<=4*(k.wt:Int)-1) t.kids us->∃ t':Tr,zV H' t' (.ref b)/\t'.Of ls/\t'.nodes<=4*(t.wt:Int)-1:=by
 cases t with
 |letter c=>exact absurd rfl (nl c)
 |one =>
  obtain⟨a,rfl,h⟩:=tr;refine⟨a,[],[49],rfl,h,by decide,by decide,.nil,λ H' b ys us e p1 p2=>?_⟩;cases p2
  cases p1
  exact⟨.one,⟨b,rfl,e⟩,trivial,by show(1:Int)<=4*((1:Nat):Int)-1;decide⟩
 |zero =>
  obtain⟨a,rfl,h⟩:=tr;refine⟨a,[],[48],rfl,h,by decide,by decide,.nil,λ H' b ys us e p1 p2=>?_⟩;cases p2
  cases p1
  exact⟨.zero,⟨b,rfl,e⟩,trivial,by show(1:Int)<=4*((1:Nat):Int)-1;decide⟩
 |neg t =>
  obtain⟨a,x,rfl,h,tx⟩:=tr;refine⟨a,[x],[126],rfl,h,by decide,(by show 1<=2;decide),.cons ⟨tx,Vc _,of⟩ .nil,λ H' b ys us e p1 p2=>?_⟩;cases p2 with
  |cons r2 p2 =>
   cases p2
   cases p1 with
   |cons r1 p1 =>
    cases p1
    exact⟨.neg _,⟨b,_,rfl,e,r1⟩,r2.1,by have:=r2.2;show 1+_<=4*((t.wt+1:Nat):Int)-1;omega⟩
 |bin op t u =>
  obtain⟨a,x,y,rfl,h,tx,uy⟩:=tr;obtain⟨D8,ot,ou⟩:=of;have nd:decide ([op]=jz)=false:=Jq (by simp[jz]);refine⟨a,[x,y],[op],rfl,h,nd,(by show 2<=2;decide),.cons ⟨tx,(by show t.ht+1<=max t.ht u.ht+1;omega),ot⟩ (.cons ⟨uy,(by show u.ht+1<=max t.ht u.ht+1;omega),ou⟩ .nil),λ H' b ys us e p1 p2=>?_⟩;cases p2 with
  |cons r2 p2 =>
   cases p2 with
   |cons r3 p2 =>
    cases p2
    cases p1 with
    |cons r1 p1 =>
     cases p1 with
     |cons r4 p1 =>
      cases p1
      exact⟨.bin op _ _,⟨b,_,_,rfl,e,r1,r4⟩,⟨D8,r2.1,r3.1⟩,by have:=r2.2;have:=r3.2;show 1+_+_<=4*((t.wt+u.wt:Nat):Int)-1;omega⟩
theorem qm4{x:V}{xs:List V}:atI (x::xs) 0=some x:=kI (xs:=x::xs) (j:=0) rfl
theorem qhU{x:V}{xs:List V}:qbU (x::xs) (some 1) none=xs:=by
 have e1:HT.sIx (x::xs).length 0 (some 1)=1:=by
  simp[HT.sIx]
 have e2:HT.sIx (x::xs).length (x::xs).length none=(x::xs).length:=rfl;unfold qbU;rw[e1,e2];simp
theorem qiR{x:V}{xs:List V}:¬ (HT.sIx (x::xs).length 0 (some 1)=0/\HT.sIx (x::xs).length (x::xs).length none=(x::xs).length):=λ h=>by
 have e1:HT.sIx (x::xs).length 0 (some 1)=1:=by
  simp[HT.sIx]
 omega
theorem qfX{n:Nat}{f:Addr}{fd:FuncData}(F:Fun K sA9 sA9 ja f fd)(T:Txt mg)(bG:qh K fd [sA4,sA3] [])(mG:mg sA9=some (.ref f))(GG:FnOk P w K mg base CX0 n f fd [sA4,sA3] (qkJ n)):FnOk P w K mg base CX0 (n+1) f fd [sA4,sA3] (qkJ (n+1)):=by
 refine F.okd qiQ (λ cdv A outer s H vs Q E hr h=>?_);obtain⟨v,d,t,kvs,ls,rfl,tr,ht,of,hd,sm,q⟩:=h;have kG:=F.kp;have M7:=qdC hr;refine⟨_,(qd (zf (qx zr (zg zK (pv 0) qf (λ _ _=>rfl)) qm (qG _)) (qe (qo (qjo M7 (pv 1) (zg zK (pv 0) qf (λ _ _=>rfl)) (pv 0) ⟨rfl,rfl,rfl,rfl⟩))) qL)
  (qe (qo (qk qk8 (zl (qa (zg zK (pv 0) qf (λ _ _=>rfl)) qb)) (zd yy (by rfl) T.tuple qba (qa (zz (csc (NY:=["_law_part",sA3]) (o:=1) (caps:=[1]) [sA3] rfl
    (by intro x hx;rw[Zq.mp hx];exact .inl rfl) (vP rfl rfl rfl jD) rfl) rfl
    (qch (vE qmu (pv 0) (qaJ qf) qaI)) (λ C0 s H fp pins=>qt (i:=0) qod rfl (Or.inl rfl)) (λ C0 s H fp pins=>zq)
    (λ C0 s H fp pins=>(qjt GG hr mG kG bG (qa (pv 0) (qa (pv 1) qb))))) qb)))))),?_⟩
 rw[qaC];by_cases isl:∃ c,t=.letter c
 ·obtain⟨c,rfl⟩:=isl;obtain⟨a,rfl,h⟩:=tr;have hT:SqT K H a _:=SqT.of h;refine jK (yh (qbd qA (k7 rfl hT rfl) dC)) at0 (λ _ H1 g1=>?_) (λ hb=>absurd hb (by simp));have gd:=qah.k (k:=Sum.inr (qj [c])) (g1 _ _ hd);refine⟨_,rfl,d,rfl,.inl ⟨_,Rd.of (g1 _ _ hd)⟩,_,rfl,a,_,_,_,rfl,rfl,g1.seqT hT,rfl,_,rfl,_,gd,?_⟩;cases e:zx kvs (.inr (qj [c])) with
  |none=>exact q (.letter c) _ H1 g1 ⟨a,rfl,g1 _ _ h⟩ of (by show(1:Int)<=4*((1:Nat):Int)-1;decide)
  |some u =>
   obtain⟨t',cO,cC,n'⟩:=sm c u e;exact q t' _ H1 g1 (cO.mono (qX g1)) cC (by show t'.nodes<=4*((1:Nat):Int)-1;omega)
 obtain⟨a,xs,p,rfl,h,np,l2,pk,mk⟩:=qkK (λ c e=>isl ⟨c,e⟩) tr of;have hT:SqT K H a _:=SqT.of h;have lk:xs.length=t.kids.length:=pk.length;refine jK (yh (qbd qA (k7 rfl hT qm4) dC)) at0 (λ hb=>absurd (np.symm.trans hb) (by decide)) (λ _ H1 g1=>?_);refine⟨_,rfl,a,_,_,_,rfl,rfl,g1.seqT hT,qm4,qp (by show 1<=_;decide),λ p1 S7=>?_⟩;have g2:=g1.to S7 (o:=.tup [vS p]);refine⟨_,rfl,1,rfl,a,_,rfl,g2.seqT hT,qiR,λ p2 D5=>?_⟩;rw[qhU];have g3:=g2.to D5 (o:=.tup xs);have e1:=(qg.up D5 (o:=.tup xs)) _ _ (qc (H:=H1) (a:=p1) (o:=.tup [vS p]));have e2:upd (upd H1 p1 (.tup [vS p])) p2 (.tup xs) p2=some (.tup xs):=qc;refine⟨p2,rfl,⟨_,SqT.of e2⟩,?_⟩;refine jm xs.length (λ i ys H5=>∃ us:List Tr,Paired (λ y (u:Tr)=>zV H5 u y) ys us/\Paired (λ(k u:Tr)=>u.Of ls/\u.nodes<=4*(k.wt:Int)-1) (t.kids.take i) us) (λ D hD=>⟨[],.nil,.nil⟩) (λ i ys H5 hi ⟨us,a1,a2⟩=>?_) ?_ (λ H5 bZ=>⟨_,bZ.seqT (SqT.of e2),Vc _⟩) ?_
 ·have b1:=a1.length;have b2:=a2.length;rw[Uq] at b2;exact zh (by omega)
 ·rintro i ys H5 D Y Z hi hD W0 bZ ⟨us,a1,a2⟩ hY hZ;refine⟨⟨_,_,bZ.seqT (SqT.of e2),X1 hi⟩,?_⟩;rintro x H6 ⟨rfl,p8⟩;have ex:=p8 _ (bZ.seqT (SqT.of e2));obtain⟨k,hk,tk,kh,ko⟩:=zk pk i x ex;have cK:=g3.trans bZ;refine⟨⟨rfl,rfl⟩,?_⟩;refine⟨_,rfl,_,rfl,x,d,k,kvs,ls,rfl,tk.mono (qX cK),by omega,ko,cK _ _ hd,sm.mono (qX cK),λ t' v' H7 g7 cO cC n'=>?_⟩;have e7:=g7 _ _ W0;refine hY _ _ e7 (bZ.trans g7) ⟨us++[t'],?_,?_⟩
  ·exact Vg (L2.Paired.mapP a1 λ y u z=>z.mono ((qX g7).trans (qY.updL e7))) (cO.mono (qY.updL e7))
  ·rw[q9 hk];exact Vg a2 ⟨cC,n'⟩
 ·rintro D H5 ys hD bZ W0 ⟨us,a1,a2⟩;rw[lk,Ux] at a2;refine⟨D,ys,rfl,.inl ⟨SqL.of W0,λ l hl=>?_⟩⟩;have e1':=(bZ.to hl (o:=.tup ys)) _ _ e1;have ll:ys.length<=2:=by have:=a1.length;have:=a2.length;omega
  refine⟨p1,l,[vS p],ys,rfl,rfl,SqT.of e1',SqT.of qc,by simp,qp (by show 1+ys.length<=_;omega),λ ey=>?_,λ _ b hb=>?_⟩
  ·subst ey;obtain⟨t',cO,cC,n'⟩:=mk _ p1 [] us e1' (L2.Paired.mapP a1 λ y u z=>z.mono (qX (qg.up hl))) a2;exact q t' _ _ ((g3.trans bZ).to hl) cO cC n'
  ·obtain⟨t',cO,cC,n'⟩:=mk _ b ys us qc (L2.Paired.mapP a1 λ y u z=>z.mono (qX ((qg.up hl).to hb))) a2;exact q t' _ _ (((g3.trans bZ).to hl).to hb) cO cC n'
theorem qd1{f:Addr}{fd:FuncData}(F:Fun K sA9 sA9 ja f fd)(T:Txt mg)(bG:qh K fd [sA4,sA3] [])(mG:mg sA9=some (.ref f)):∀ n,FnOk P w K mg base CX0 n f fd [sA4,sA3] (qkJ n)
 |0=>qlT
 |n+1=>qfX F T bG mG (qd1 F T bG mG n)
theorem jN:∀ t:Tr,t.nodes<=2*(t.wt:Int)-1
 |.letter _=>by show(1:Int)<=2*((1:Nat):Int)-1;decide
 |.one=>by show(1:Int)<=2*((1:Nat):Int)-1;decide
 |.zero=>by show(1:Int)<=2*((1:Nat):Int)-1;decide
 |.neg t=>by have:=jN t;show 1+t.nodes<=2*((t.wt+1:Nat):Int)-1;omega
 |.bin _ t u=>by have:=jN t;have:=jN u;show 1+t.nodes+u.nodes<=2*((t.wt+u.wt:Nat):Int)-1;omega
def WP7(H:Hp)(p:Addr)(x:Tr×Tr):Prop:=∃ a b,H p=some (.tup [a,b])/\zV H x.1 a/\zV H x.2 b
theorem WP7.mono{H H':Hp}{p:Addr}{x:Tr×Tr}(h:WP7 H p x)(g:qY H H'):WP7 H' p x:=by
 obtain⟨a,b,e,t,u⟩:=h;exact⟨a,b,g _ _ e,t.mono g,u.mono g⟩
def SOk(ls:List Nat)(x:Tr×Tr):Prop:=x.1.Of ls/\x.2.Of ls/\x.1.nodes<=19/\x.2.nodes<=19
def qcb(K:W.Frag):Sp:=λ vs H Q _=>∃(a:Addr)(ns:List Int)(gv gp:List Nat),vs=[.ref a,vS gv,vS gp]/\Scr K H a ns/\gv.length<=3/\gp.length<=3 /\
 ∀ r ps (xs:List (Tr×Tr)) H',qg H H'->H' r=some (.lst (ps.map V.ref))->Paired (WP7 H') ps xs->xs.length<=4->(∀ x∈xs,SOk (gv++gp) x)->Q (.ref r) H'
theorem qbf{α β:Type}{R:α->β->Prop}:∀{xs:List α}{ys:List β},Paired R xs ys->∀ y∈ys,∃ x∈xs,R x y
 |_,_,.nil,y,h=>by cases h
 |_,_,.cons r t,y,h=>by
  rcases Qh.mp h with rfl|h
  ·exact⟨_,Zf ..,r⟩
  ·obtain⟨x,hx,q⟩:=qbf t y h;exact⟨x,Yl _ hx,q⟩
theorem qd2:∀(kvs:List (Str×V))(c6:List (Key×V))(k:Key)(u:V),zx (qW c6 (kvK kvs)) k=some u->zx c6 k=some u∨∃ kv∈kvs,u=kv.2
 | [],c6,k,u,h=>.inl h
 |x::l,c6,k,u,h=>by
  rcases qd2 l (yJ c6 (.inr x.1) x.2) k u h with h|⟨kv,m,e⟩
  ·rw[qjm] at h;by_cases c:k=.inr x.1
   ·rw[V2 c] at h;exact .inr ⟨x,Zf ..,(Option.some.inj h).symm⟩
   ·rw[V3 c] at h;exact .inl h
  ·exact .inr ⟨kv,Yl _ m,e⟩
theorem zQ:FnScope [sA0,sA1,sB4,sA3,sA7,sB0,sA5,"_law_left","_law_right"] [sA0,sA1,sB4] (qi kq):=scF
theorem qiS{f w5 bI W2 W3:Addr}{fd w6 bU W5 W6:FuncData}(F:Fun K sB7 sB7 kq f fd)(T:Txt mg)(i6:Dp P w K mg base 1 w5 w6 [sA0,sB0] (jL K) sB1)(G2:Dp P w K mg base 2 bI bU [sA5,sA1] (qeT) sC1)(x5:Dp P w K mg base 2 W2 W5 [sA0,"_law_at",sB5,sA2] (qkF K) sB8)(C3:Dp P w K mg base 20 W3 W6 [sA4,sA3] (qkJ 20) sA9): FnOk P w K mg base CX0 21 f fd [sA0,sA1,sB4] (qcb K):=by
 refine F.okd zQ (λ cdv A outer s H vs Q E hr h=>?_);obtain⟨a,ns,gv,gp,rfl,hS,lv,lp,q⟩:=h;refine⟨_,(qd (qr (i:=3) zQ.nd rfl (Or.inl rfl) (zd (vO rfl) (by rfl) T.dict qeK (qa (qaR (n:=2) (csc (NY:=[sB0,sB3,sA0,sA1]) (o:=2) (caps:=[0,1]) [sA0,sA1] rfl
    (by intro x hx;rcases Qh.mp hx with e | hx;· rw[e];exact .inl rfl
        rw[Zq.mp hx];exact .inl rfl) (vP rfl rfl rfl (vP rfl rfl rfl jD)) rfl) rfl
    (qcW (by rfl) T.enumerate (qa (pv 2) qb))
    (λ C0 s H fp pins=>qO (qt (i:=0) (show([sB0,sB3,sA0,sA1]:List Str).Nodup by decide +kernel) rfl (Or.inl rfl)) (qO (qt (i:=1) (show([sB0,sB3,sA0,sA1]:List Str).Nodup by decide +kernel) rfl (Or.inl rfl)) zY)) (λ _=>rfl) (λ _=>rfl)
    (λ C0 s H fp pins=>zq) (λ C0 s H fp pins=>(zl (qa (pv 1) (qa (zc G2 hr (qa (zc i6 hr (qa (pv 2) (qa (qk yj qf (pv 0)) qb))) (qa (pv 3) qb))) qb))))) qb)))
  (qd (qr (i:=4) zQ.nd rfl (Or.inl rfl) (zE qb))
  (qd (zR Jn rfl (yc (by rfl) T.range (qa (qk q8 (zc i6 hr (qa (pv 0) (qa qf qb))) qf) qb)) (qt (i:=5) zQ.nd rfl (Or.inl rfl))
  (qd (qr (i:=6) zQ.nd rfl (Or.inl rfl) (zc i6 hr (qa (pv 0) (qa (qk yj qf (pv 5)) qb))))
  (qd (qr (i:=7) zQ.nd rfl (Or.inl rfl) (zc x5 hr (qa (pv 0) (qa (qk yj qf (qk jR qf (pv 5))) (qa (qk q8 (pv 6) qf) (qa (qk qz (pv 1) (pv 2)) qb))))))
  (qd (qr (i:=8) zQ.nd rfl (Or.inl rfl) (zc C3 hr (qa (pv 7) (qa (pv 3) qb))))
  (qd (zf (qx zr (qk q8 (qk zN (pv 6) qf) qf) qf (qG _))
   (qe (qr (i:=8) zQ.nd rfl (Or.inl rfl) (zc x5 hr (qa (pv 0) (qa (qk yj qf (qk jR qf (pv 5))) (qa (qk q8 (pv 6) qf) (qa (qk qz (pv 1) (pv 2)) qb))))))) qL)
  (qd (zf (qx zr (qk q8 (qk zN (pv 6) qf) qf) qf (qG _))
   (qe (qmk (i:=7) (j:=8) rfl zQ.nd rfl rfl (by decide) rfl rfl (qa (pv 8) (qa (pv 7) qb)) rfl)) qL)
  (qe (zX (yL XG X4 X5 zt (pv 4) (qa (zl (qa (pv 7) (qa (pv 8) qb))) qb))))))))))
  (qe (qo (pv 4)))))),?_⟩
 have hs:(qj gp).cps.size=gp.length:=qu gp;have tM:(qj gv).length=gv.length:=qu gv;have mQ:(qj gp).length=gp.length:=qu gp;refine⟨_,rfl,_,rfl,?_⟩;refine jm (qj gp).cps.size (λ i ys H2=>∃(cs:List Addr)(kvs:List (Str×V)),ys=cs.map V.ref/\cs.length=i/\Paired (λ c (kv:Str×V)=>H2 c=some (.tup [.str kv.1,kv.2])/\∃ t,zV H2 t kv.2/\t.Of (gv++gp)/\t.nodes<=3) cs kvs) (λ D hD=>⟨[],[],rfl,rfl,.nil⟩) (λ i ys H2 hi ⟨cs,kvs,e,l,_⟩=>by rw[hs] at hi;rw[e,U7,l];exact zh (by omega)) ?_ (λ H2 sm=>rfl) ?_
 ·rintro i ys H2 D Y Z hi hD u8 sm ⟨cs,kvs,rfl,l,pr⟩ hY hZ;refine⟨hi,?_⟩;rintro zs H' ⟨rfl,rfl⟩;rw[hs] at hi;rw[jo hi];refine⟨rfl,_,_,rfl,_,_,rfl,rfl,⟨rfl,rfl⟩,?_⟩;refine⟨_,rfl,_,rfl,_,rfl,_,_,rfl,rfl,a,ns,_,rfl,hS.mono sm,?_,?_,λ z H3 g3 z0 z1=>⟨_,rfl,z,gv,rfl,z0,by omega,λ t v H4 g4 tr cC n'=>⟨qp (by show 2<=_;decide),λ p hp=>?_⟩⟩⟩
  ·show(0:Int)<=10+(i:Int);omega
  ·show(10:Int)+(i:Int)<=100000;omega
  have g5:=(g3.trans g4).to hp (o:=.tup [vS [gp[i]],v]);have e5:=g5 _ _ u8;have up:∀{o:HO},qY H4 (upd (upd H4 p (.tup [vS [gp[i]],v])) D o):=λ{o}=>(qX (qg.up hp)).trans (qY.updL e5)
  refine hY _ _ e5 (sm.trans g5) ⟨cs++[p],kvs++[(qj [gp[i]],v)],by rw[Jg];rfl,by rw[Zj,l];rfl,?_⟩;have g24:=(qX (g3.trans g4)).trans (up (o:=.lst (cs.map V.ref++[.ref p])));refine Vg (L2.Paired.mapP pr λ c kv ⟨e,t,a1,a2,a3⟩=>⟨g24 _ _ e,t,a1.mono g24,a2,a3⟩) ⟨(qY.updL e5) _ _ qc,t,tr.mono up,cC.sub λ c hc=>U5.mpr (.inl (cC.has hc)),n'⟩
 rintro D H2 ys hD sm u8 ⟨cs,kvs,rfl,l,pr⟩;refine⟨D,cs,kvs,rfl,SqL.of u8,L2.Paired.mapP pr λ c kv h=>SqT.of h.1,λ d hd=>?_⟩;have g3:=sm.to hd (o:=.dK (qW [] (kvK kvs)));have wB:SmD (upd H2 d (.dK (qW [] (kvK kvs)))) (gv++gp) (qW [] (kvK kvs)):=λ c u e=>by
  rcases qd2 kvs [] _ u e with e|⟨kv,m,rfl⟩
  ·cases e
  obtain⟨c',N4,e1,t,a1,a2,a3⟩:=qbf pr kv m;exact⟨t,a1.mono (qX (qg.up hd)),a2,a3⟩
 generalize qW [] (kvK kvs)=kv at g3 wB ⊢;have e3:upd H2 d (.dK kv) d=some (.dK kv):=qc;generalize upd H2 d (.dK kv)=H3 at g3 wB e3 ⊢;refine⟨Vd _,λ tb dB=>?_⟩;have fT:H tb=none:=qlQ g3 dB;have g4:=g3.to dB (o:=.lst []);refine⟨_,rfl,a,ns,_,rfl,hS.mono g4,by decide,by decide,λ z2 H5 g5 z20 z21=>?_⟩;have m0:=Jh z2 (b:=5) (by decide);have m1:=Zr z2 (b:=5) (by decide);refine⟨_,_,rfl,rfl,(show(0:Int)<5 by decide),_,rfl,by omega,by omega,?_⟩;refine jH (λ i σ H'=>∃(ps:List Addr)(xs:List (Tr×Tr))(v5 v6 v7 v8:Option V),σ=[some (.ref a),some (vS gv),some (vS gp),some (.ref d),some (.ref tb),v5,v6,v7,v8]/\qg H H'/\H' d=some (.dK kv)/\SmD H' (gv++gp) kv/\H' tb=some (.lst (ps.map V.ref))/\Paired (WP7 H') ps xs/\xs.length<=i/\∀ x∈xs,SOk (gv++gp) x)
  ⟨[],[],none,none,none,none,rfl,g4.trans g5,g5 _ _ ((qg.up dB) _ _ e3),(wB.mono (qX (qg.up dB))).mono (qX g5),g5 _ _ qc,.nil,Vc _,λ x hx=>by cases hx⟩ ?_ ?_
 ·rintro i σ H6 hi ⟨ps,xs,v5,v6,v7,v8,rfl,g6,e6,G5,t6,lV,lx,sS⟩;have pB:(i:Int)<5:=by omega
  refine⟨_,rfl,_,rfl,_,_,rfl,rfl,a,ns,_,rfl,hS.mono g6,?_,?_,λ z H7 g7 z0 z1=>?_⟩
  ·show(0:Int)<=20+(0+(i:Int));omega
  ·show(20:Int)+(0+(i:Int))<=100000;omega
  have q0:=Jh z (b:=5) (by decide);have q1:=Zr z (b:=5) (by decide);have r0:=Jh z (b:=4) (by decide);have r1:=Zr z (b:=4) (by decide);have lgg:(gv++gp).length<=6:=by rw[Zj];omega
  refine⟨_,rfl,_,rfl,_,_,rfl,rfl,.inl ⟨by decide,by decide⟩,_,_,rfl,rfl,_,rfl,_,_,rfl,rfl,(show(0:Int)<5 by decide),_,rfl,_,rfl,?_⟩;refine⟨_,_,rfl,rfl,by rw[tM,mQ];exact qp (by omega),?_⟩;rw[zv];refine⟨a,ns,_,_,gv++gp,rfl,hS.mono (g6.trans g7),?_,?_,q0,by omega,by omega,λ tl cY H8 g8 trl wN nl=>?_⟩
  ·show(0:Int)<=30+6*(0+(i:Int));omega
  ·show(30:Int)+6*(0+(i:Int))<=1000;omega
  have g68:=g7.trans g8;have wl:tl.wt<=5:=by omega
  have hl:=tl.ht_wt;refine⟨_,rfl,_,rfl,cY,d,tl,kv,gv++gp,rfl,trl,by omega,wN,g68 _ _ e6,G5.mono (qX g68),λ tr rv H9 g9 uT wM nr=>?_⟩;have nl':=jN tl;have nl9:tl.nodes<=19:=by omega
  have wR:tr.nodes<=19:=by omega
  have cN:=trl.mono (qX g9);have cJ:=g68.trans g9;have s0:=Jh (z / 5) (b:=6) (by decide);refine⟨_,rfl,_,_,rfl,rfl,⟨by decide,by decide⟩,_,_,rfl,rfl,(show(0:Int)<6 by decide),rfl,_,rfl,?_⟩;refine qbs (λ c1=>?A) (λ c1=>?B)
  case' A =>
   refine⟨_,rfl,_,rfl,_,_,rfl,rfl,.inl ⟨by decide,by decide⟩,_,_,rfl,rfl,_,rfl,_,_,rfl,rfl,(show(0:Int)<4 by decide),_,rfl,_,rfl,_,_,rfl,rfl,by rw[tM,mQ];exact qp (by omega),?_⟩;rw[zv];refine⟨a,ns,_,_,gv++gp,rfl,hS.mono (g6.trans cJ),(by show(0:Int)<=60+6*(0+(i:Int));omega),(by show(60:Int)+6*(0+(i:Int))<=1000;omega),r0,by omega,by omega,λ tr rv H9 g10 uT wM nr2=>?_⟩;have nn:=jN tr;have wR:tr.nodes<=19:=by omega
   have cN:=cN.mono (qX g10);have cJ:=cJ.trans g10
  all_goals
   have uA:=cJ _ _ t6;refine⟨_,rfl,_,_,rfl,rfl,⟨by decide,by decide⟩,_,_,rfl,rfl,(show(0:Int)<2 by decide),rfl,_,rfl,?_⟩;refine qbs (λ c2=>?_) (λ c2=>?_)
   ·refine⟨_,rfl,_,rfl,_,_,rfl,?_⟩;refine⟨_,rfl,.inl ⟨rfl,_,SqL.of uA⟩,_,rfl,_,rfl,qp (by show 2<=_;decide),λ p hp=>?_⟩;have iZ:=(qg.up hp (o:=.tup [rv,cY])) _ _ uA;refine⟨tb,_,_,rfl,rfl,iZ,by rw[U7];have:=lV.length;exact zh (by omega),?_⟩;have up:=(qX (qg.up hp (o:=.tup [rv,cY]))).trans (qY.updL iZ (o:=.lst (ps.map V.ref++[.ref p])));have pX:=(qX cJ).trans up;have ed:upd (upd H9 p (.tup [rv,cY])) tb (.lst (ps.map V.ref++[.ref p])) d=some (.dK kv):=by
     rw[qv (λ q=>by rw[q,t6] at e6;cases e6)];exact(qg.up hp) _ _ (cJ _ _ e6)
    refine⟨ps++[p],xs++[(tr,tl)],_,_,_,_,rfl,((g6.trans cJ).to hp).at fT,ed,G5.mono pX,by rw[qc,Jg];rfl,Vg (L2.Paired.mapP lV λ b x h=>h.mono pX) ⟨rv,cY,(qY.updL iZ) _ _ qc,uT.mono up,cN.mono up⟩,by rw[Zj];show _+1<=_;omega,λ x hx=>?_⟩;rcases U5.mp hx with hx|hx
    ·exact sS x hx
    ·rw[Zq.mp hx];exact⟨wM,wN,wR,nl9⟩
   ·refine⟨_,rfl,.inl ⟨rfl,_,SqL.of uA⟩,_,rfl,_,rfl,qp (by show 2<=_;decide),λ p hp=>?_⟩;have iZ:=(qg.up hp (o:=.tup [cY,rv])) _ _ uA;refine⟨tb,_,_,rfl,rfl,iZ,by rw[U7];have:=lV.length;exact zh (by omega),?_⟩;have up:=(qX (qg.up hp (o:=.tup [cY,rv]))).trans (qY.updL iZ (o:=.lst (ps.map V.ref++[.ref p])));have pX:=(qX cJ).trans up;have ed:upd (upd H9 p (.tup [cY,rv])) tb (.lst (ps.map V.ref++[.ref p])) d=some (.dK kv):=by
     rw[qv (λ q=>by rw[q,t6] at e6;cases e6)];exact(qg.up hp) _ _ (cJ _ _ e6)
    refine⟨ps++[p],xs++[(tl,tr)],_,_,_,_,rfl,((g6.trans cJ).to hp).at fT,ed,G5.mono pX,by rw[qc,Jg];rfl,Vg (L2.Paired.mapP lV λ b x h=>h.mono pX) ⟨cY,rv,(qY.updL iZ) _ _ qc,cN.mono up,uT.mono up⟩,by rw[Zj];show _+1<=_;omega,λ x hx=>?_⟩;rcases U5.mp hx with hx|hx
    ·exact sS x hx
    ·rw[Zq.mp hx];exact⟨wN,wM,nl9,wR⟩
 ·rintro σ H6 ⟨ps,xs,v5,v6,v7,v8,rfl,g6,e6,G5,t6,lV,lx,sS⟩;exact⟨_,rfl,q tb ps xs H6 g6 t6 lV (by omega) sS⟩
noncomputable def qgY:List (List Nat):=[[],[97],[98,99],[97,99],[97,98,99],[98],[97,98,99],[97,98]]
noncomputable def qgZ:List (List Nat):=[[],[120],[121,122],[120,122],[120,121,122],[121],[120,121,122],[120,121]]
theorem qg0:[V.str "",V.str "a",V.str "bc",V.str "ac",V.str "abc",V.str "b",V.str "abc",V.str "ab"]=qgY.map vS:=by
 have e1:("abc":Str)=qj [97,98,99]:=by decide +kernel
 have e2:("ab":Str)=qj [97,98]:=by decide +kernel
 have e3:("a":Str)=qj [97]:=by decide +kernel
 have e4:("":Str)=qj []:=by decide +kernel
 have e5:("bc":Str)=qj [98,99]:=by decide +kernel
 have e7:("ac":Str)=qj [97,99]:=by decide +kernel
 have e8:("b":Str)=qj [98]:=by decide +kernel
 rw[e1,e2,e3,e4,e5,e7,e8];rfl
theorem qg1:[V.str "",V.str "x",V.str "yz",V.str "xz",V.str "xyz",V.str "y",V.str "xyz",V.str "xy"]=qgZ.map vS:=by
 have e1:("xy":Str)=qj [120,121]:=by decide +kernel
 have e2:("xyz":Str)=qj [120,121,122]:=by decide +kernel
 have e3:("x":Str)=qj [120]:=by decide +kernel
 have e4:("":Str)=qj []:=by decide +kernel
 have e5:("yz":Str)=qj [121,122]:=by decide +kernel
 have e6:("y":Str)=qj [121]:=by decide +kernel
 have e7:("xz":Str)=qj [120,122]:=by decide +kernel
 rw[e1,e2,e3,e4,e5,e6,e7];rfl
theorem qkL{l:List (List Nat)}{i:Int}(h0:0<=i)(h:i<(l.length:Int)):∃ c∈l,atI (l.map vS) i=some (vS c):=by
 have hk:i.toNat<l.length:=by omega
 have:=kI (xs:=l.map vS) (j:=i.toNat) (v:=vS l[i.toNat]) (by rw[Zw,X1 hk];rfl)
 rw[show((i.toNat:Nat):Int)=i by omega] at this;exact⟨_,Uw hk,this⟩
def qeU(K:W.Frag):Sp:=λ vs H Q _=>∃(a:Addr)(ns:List Int),vs=[.ref a]/\Scr K H a ns/\∀ p r (gv gp:List Nat) ps (xs:List (Tr×Tr)) H',qg H H'->H' p=some (.tup [vS gv,vS gp,.ref r])->gv.Sublist [97,98,99]->gp.Sublist [120,121,122]->H' r=some (.lst (ps.map V.ref))->Paired (WP7 H') ps xs->xs.length<=4->(∀ x∈xs,SOk (gv++gp) x)->Q (.ref p) H'
theorem qbg:FnScope [sA0,sA5,sA1,sB4] [sA0] (qi kr):=scF
seal wpAny in
theorem qkM{f w5 E5:Addr}{fd w6 E9:FuncData}(F:Fun K sC2 sC2 kr f fd)(T:Txt mg)(i6:Dp P w K mg base 1 w5 w6 [sA0,sB0] (jL K) sB1)(t7:Dp P w K mg base 21 E5 E9 [sA0,sA1,sB4] (qcb K) sB7): FnOk P w K mg base CX0 22 f fd [sA0] (qeU K):=by
 refine F.okd qbg (λ cdv A outer s H vs Q E hr h=>?_);obtain⟨a,ns,rfl,hS,q⟩:=h;refine⟨_,(qd (qr (i:=1) qbg.nd rfl (Or.inl rfl) (zc i6 hr (qa (pv 0) (qa qf qb))))
  (qd (qr (i:=2) qbg.nd rfl (Or.inl rfl) (zg zZ (zE (qa qm (qa qm (qa qm (qa qm (qa qm (qa qm (qa qm (qa qm qb))))))))) (qk q8 (pv 1) qf) (λ _ _=>rfl)))
  (qd (qr (i:=3) qbg.nd rfl (Or.inl rfl) (zg zZ (zE (qa qm (qa qm (qa qm (qa qm (qa qm (qa qm (qa qm (qa qm qb))))))))) (qk q8 (qk zN (pv 1) qf) qf) (λ _ _=>rfl)))
  (qe (qo (zl (qa (pv 2) (qa (pv 3) (qa (zc t7 hr (qa (pv 0) (qa (pv 2) (qa (pv 3) qb)))) qb))))))))),?_⟩
 refine⟨_,rfl,a,ns,1,rfl,hS,by decide,by decide,λ z H1 g1 z0 z1=>?_⟩;refine⟨qp (by show 8<=_;decide),λ p hp=>?_⟩;have n0:=Jh z (b:=8) (by decide);have n1:=Zr z (b:=8) (by decide);obtain⟨gv,tM,aG⟩:=qkL (l:=qgY) n0 n1;rw[<- qg0] at aG
 have s1:gv.Sublist [97,98,99]:=(by decide:∀ l∈qgY,l.Sublist [97,98,99]) gv tM;refine⟨_,rfl,_,_,rfl,rfl,(show(0:Int)<8 by decide),p,_,_,_,rfl,rfl,SqL.of qc,aG,?_⟩;have g2:=g1.to hp (o:=.lst [V.str "",V.str "a",V.str "bc",V.str "ac",V.str "abc",V.str "b",V.str "abc",V.str "ab"]);have m0:=Jh (z / 8) (b:=8) (by decide);have m1:=Zr (z / 8) (b:=8) (by decide);obtain⟨gp,mQ,pM⟩:=qkL (l:=qgZ) m0 m1;rw[<- qg1] at pM;have s2:gp.Sublist [120,121,122]:=(by decide:∀ l∈qgZ,l.Sublist [120,121,122]) gp mQ;refine⟨qp (by show 8<=_;decide),λ p2 D5=>?_⟩;have g3:=g2.to D5 (o:=.lst [V.str "",V.str "x",V.str "yz",V.str "xz",V.str "xyz",V.str "y",V.str "xyz",V.str "xy"]);refine⟨_,rfl,_,_,rfl,rfl,⟨by decide,by decide⟩,_,_,rfl,rfl,(show(0:Int)<8 by decide),p2,_,_,_,rfl,rfl,SqL.of qc,pM,?_⟩;refine⟨_,rfl,_,rfl,_,rfl,_,rfl,_,rfl,a,ns,gv,gp,rfl,hS.mono g3,s1.length_le,s2.length_le,λ r ps xs H4 g4 e4 pr lx ok=>⟨qp (by show 3<=_;decide),λ p3 iG=>?_⟩⟩;exact q p3 r gv gp ps xs _ ((g3.trans g4).to iG) qc s1 s2 ((qg.up iG) _ _ e4) (L2.Paired.mapP pr λ b x h=>h.mono (qX (qg.up iG))) lx ok
noncomputable def qd3(x:Tr×Tr):List Nat:=x.1.text++[32,61,32]++x.2.text
def qdb:Sp:=λ vs H Q _=>∃(r:Addr)(ps:List Addr)(xs:List (Tr×Tr)),vs=[.ref r]/\H r=some (.lst (ps.map V.ref))/\Paired (WP7 H) ps xs/\xs.length<=100/\(∀ x∈xs,x.1.Of zw/\x.2.Of zw/\x.1.wt<=20/\x.2.wt<=20)/\∀ r' H',qg H H'->H' r'=some (.lst (xs.map λ x=>vS (qd3 x)))->Q (.ref r') H'
theorem qiT:FnScope [sA7] [sA7] (qi ku):=scF
seal wpAny in
theorem qiU{f P7:Addr}{fd R0:FuncData}(F:Fun K sC3 sC3 ku f fd)(T:Txt mg)(u4:Dp P w K mg base 20 P7 R0 [sA4] (qiL zP 20) sA6): FnOk P w K mg base CX0 21 f fd [sA7] (qdb):=by
 refine F.okd qiT (λ cdv A outer s H vs Q E hr h=>?_);obtain⟨r,ps,xs,rfl,N9,pr,l6,ok,q⟩:=h;refine⟨_,(qe (qo (zz (csc (NY:=["_law_left","_law_right"]) (o:=2) (caps:=[]) [] rfl
    (by simp) jD rfl) rfl
    (yi (pv 0)) (λ C0 s H fp pins=>(show PG _ _ (qk0 K 2 (qcf (k9 0) (qcf (k9 1) qkZ))) from qcg (n:=2) rfl (qO (qt (i:=0) (show(["_law_left","_law_right"]:List Str).Nodup by decide +kernel) rfl (Or.inl rfl) (hf:=Or.inr rfl)) (qO (qt (i:=1) (show(["_law_left","_law_right"]:List Str).Nodup by decide +kernel) rfl (Or.inl rfl) (hf:=Or.inr rfl)) zY)))) (λ C0 s H fp pins=>zq) (λ C0 s H fp pins=>(qk qz (qk qz (zc u4 hr (qa (pv 0) qb)) qm) (zc u4 hr (qa (pv 1) qb))))))),?_⟩
 rw[show(" = ":Str)=qj [32,61,32] by decide +kernel];have sZ:ps.length=xs.length:=pr.length;refine⟨_,rfl,r,rfl,⟨_,SqL.of N9⟩,?_⟩;refine qev (SqL.of N9) (λ i=>(xs.take i).map λ x=>vS (qd3 x)) rfl (λ i hi=>?_) ?_ ?_
 ·rw[U7,Uq];exact zh (by omega)
 ·intro i v H' D2 Y Z hv eF fV aA hY hZ;obtain⟨p,hp,rfl⟩:=ql hv;obtain⟨x,hx,wp⟩:=zk pr i p hp;obtain⟨a,b,e1,o1,o2⟩:=wp.mono (qX aA);obtain⟨t9,u9,tw,uw⟩:=ok x (Yn hx);have th:=x.1.ht_wt;have uh:=x.2.ht_wt;have lt:=x.1.text_len;have lu:=x.2.text_len;refine⟨p,_,rfl,SqT.of e1,rfl,_,_,rfl,_,_,rfl,rfl,⟨rfl,rfl⟩,?_⟩;refine(ya qA (ya qA (dtv (f:=zP) (n:=20) (dvA rfl) o1 (by omega) (by omega) t9) dC (by show _+3<=_;omega)) (dtv (f:=zP) (n:=20) (dvA rfl) o2 (by omega) (by omega) u9) (by rw[Zj];show _+3+_<=_;omega)) _ _ _ at0 λ H'' pY=>?_
  exact hY _ _ (pY _ _ fV) (aA.trans pY) (yP (f:=λ x=>vS (qd3 x)) hx)
 intro D H6 hD s6 h6;rw[U7,sZ,Ux] at h6;exact q D H6 s6 h6
structure TaskC(K:W.Frag)(CT:Addr):Prop where
 cls:Cls K CT
 n1:NoAttr K CT "given_letters"
 n2:NoAttr K CT "gap_letters"
 n3:NoAttr K CT "wish_texts"
 n4:NoAttr K CT "side_forms"
 n5:NoAttr K CT "fault_form"
def qcc:Sp:=λ vs H Q _=>∃(ls:List Nat),vs=[vS ls]/\ls.length<=9/\Q (.int ((2^ls.length:Nat):Int)) H
theorem qbh:FnScope ["letters","count","place"] ["letters"] (qi vY):=scF
theorem qkN{k:Nat}{f:Addr}{fd:FuncData}(F:Fun K "row_count" "row_count" vY f fd)(T:Txt mg):FnOk P w K mg base CX0 (k+1) f fd ["letters"] qcc:=by
 refine F.okd qbh (λ cdv A outer s H vs Q E hr h=>?_);obtain⟨ls,rfl,h9,q⟩:=h;refine⟨_,qd (qr (i:=1) qbh.nd rfl (Or.inl rfl) qf)
  (qd (zR Jn rfl (yc rfl T.range (qa (qD y3 rfl T.len Qb (qa (pv 0) qb)) qb)) (qt (i:=2) qbh.nd rfl (Or.inl rfl))
   (qe (qr (i:=1) qbh.nd rfl (Or.inl rfl) (qk jR qf (pv 1)))))
  (qe (qo (pv 1)))),?_⟩
 have hz:(qj ls).length=ls.length:=qu ls;refine⟨_,rfl,_,rfl,by rw[hz];exact qp (by omega),_,rfl,by rw[hz];omega,by rw[hz];omega,?_⟩;rw[hz];refine jH (λ i σ H1=>∃(v:Option V),σ=[some (vS ls),some (.int ((2^i:Nat):Int)),v]/\H1=H) ⟨none,rfl,rfl⟩ ?_ ?_
 ·rintro i σ H1 hi ⟨v,rfl,rfl⟩;refine⟨_,rfl,_,_,rfl,rfl,.inl ⟨by decide,by decide⟩,?_⟩;refine⟨some (.int (0+(i:Int))),?_,rfl⟩;show [some (vS ls),some (V.int (2*((2^i:Nat):Int))),_]=_
  rw[show(2:Int)*((2^i:Nat):Int)=((2^(i+1):Nat):Int) by rw[Q2];omega]
 ·rintro σ H1 ⟨v,rfl,rfl⟩;have e:((ls.length:Int)).toNat=ls.length:=Zz _;rw[e];exact⟨_,rfl,q⟩
theorem qbT{a b:List Nat}{r q:List Bool}(h:a.length=r.length):ym (a++b) (r++q)=ym a r++ym b q:=by
 unfold ym;rw[Jf h,Jg]
theorem qg2{ls:List Nat}{r:List Bool}(nd:ls.Nodup)(h:ls.length=r.length):((ym ls r).map (·.1)).Nodup:=by
 rw[qd0 h];exact Z4.mpr (nd.imp λ{a b} x4 e=>by
  have:=yQ (Sum.inr.inj e)
  simp at this;exact x4 this)
theorem qg3{a b:List Nat}{r q:List Bool}(nd:(a++b).Nodup)(h:a.length=r.length)(h':b.length=q.length):qW (ym a r) (ym b q)=ym (a++b) (r++q):=by
 rw[qbT h];refine qbG _ _ ?_;rw[<- qbT h];exact qg2 nd (by rw[Zj,Zj,h,h'])
theorem qfY{ls:List Nat}{r:List Bool}(h:ls.length=r.length):(ym ls r).length=ls.length:=by rw[ym,U7,Jm];omega
def qg4:Sp:=λ vs H Q _=>∃(ls:List Nat)(N:Nat),vs=[vS ls,.int (N:Int)]/\ls.Nodup/\ls.length<=9/\∀ d H',qg H H'->H d=none->H' d=some (.dK (ym ls (qJ ls.length N)))->Q (.ref d) H'
theorem qbi:FnScope ["letters","number","row","place","letter","behind"] ["letters","number"] (qi qc5):=scF
theorem qlU{f :Addr}{fd :FuncData}(F:Fun K "row_of" "row_of" qc5 f fd)(T:Txt mg): FnOk P w K mg base CX0 1 f fd ["letters","number"] (qg4):=by
 refine F.okd qbi (λ cdv A outer s H vs Q E hr h=>?_);obtain⟨ls,N,rfl,nd,l9,q⟩:=h;have M7:=qdC hr;refine⟨_,(qd (qr (i:=2) qbi.nd rfl (Or.inl rfl) qe5)
  (qd (qez (n:=2) Jn rfl (qcW (by rfl) T.enumerate (qa (pv 0) qb)) (qO (qt (i:=3) qbi.nd rfl (Or.inl rfl)) (qO (qt (i:=4) qbi.nd rfl (Or.inl rfl)) zY))
  (qd (qr (i:=5) qbi.nd rfl (Or.inl rfl) (qk qje (qk qje (qD y3 (by rfl) T.len Qb (qa (pv 0) qb)) qf) (pv 3)))
  (qe (qk6 M7 (pv 2) (pv 4) (yY zr (qk q8 (qk qmn (pv 1) (pv 5)) qf) qf (qG _)) rfl))))
  (qe (qo (pv 2))))),?_⟩
 have hs:(qj ls).cps.size=ls.length:=qu ls;have mK:(qj ls).length=ls.length:=qu ls;have lR:=zm ls.length N;refine λ p hp=>?_
 refine⟨_,rfl,_,rfl,?_⟩;refine qdQ (λ i σ H1=>∃ v3 v4 v5:Option V,σ=[some (vS ls),some (.int (N:Int)),some (.ref p),v3,v4,v5]/\qg H H1/\H1 p=some (.dK (ym (ls.take i) ((qJ ls.length N).take i)))) ⟨none,none,none,rfl,qg.up hp,qc⟩ ?_ ?_
 ·rintro i σ H1 hi ⟨v3,v4,v5,rfl,g1,e1⟩;rw[hs] at hi;rw[jo hi];refine⟨_,_,rfl,_,_,rfl,rfl,?_⟩;refine⟨_,rfl,_,rfl,by rw[mK];exact qp (by omega),_,_,rfl,rfl,_,rfl,_,_,rfl,rfl,?_⟩;rw[mK];refine⟨_,rfl,_,rfl,_,_,rfl,rfl,(show(0:Int)<=(ls.length:Int)-1-(i:Int) by omega),_,_,rfl,rfl,(show(0:Int)<2 by decide),rfl,_,rfl,_,rfl,p,_,rfl,.inl ⟨_,.inr (qj [ls[i]]),e1,rfl,?_,rfl⟩,?_⟩
  ·rw[ym,U7,Jm,Uq];exact zh (by omega)
  have lr:(ls.take i).length=((qJ ls.length N).take i).length:=by rw[Uq,Uq,lR]
  have nn:zx (ym (ls.take i) ((qJ ls.length N).take i)) (.inr (qj [ls[i]]))=none:=by rw[kC lr,V3 (qfU nd hi)]
  have ev:(qJ ls.length N)[i]?=some (decide (V.int ((N:Int) / 2^((ls.length:Int)-1-(i:Int)).toNat % 2)=V.int 1)):=by
   rw[vW hi,show((ls.length:Int)-1-(i:Int)).toNat=ls.length-1-i by omega];congr 1
   refine U3.mpr ?_;rw[V.int.injEq];constructor
   ·intro h;exact_mod_cast h
   ·intro h;exact_mod_cast h
  refine⟨_,_,_,rfl,g1.at hp,?_⟩;rw[qc,q9 ev,Xa hi,qiM lr];exact congrArg (λ z=>some (HO.dK z)) (qe2 _ nn)
 ·rintro σ H1 ⟨v3,v4,v5,rfl,g1,e1⟩;rw[hs,Ux,XN (by rw[lR];exact Vc _)] at e1;exact⟨_,rfl,q p H1 g1 hp e1⟩
theorem qd4(ρ:Nat->Bool):∀ F:List Pr,qy ρ F=decide ((F.filter λ p=>p.all ρ).length % 2=1)
 | []=>rfl
 |p::F=>by
  show xor (p.all ρ) (qy ρ F)=_
  rw[qd4 ρ F,Uz];cases p.all ρ with
  |false=>rw[V3 (by decide),Bool.false_xor]
  |true =>
   rw[V2 rfl,Uo];generalize (F.filter λ p=>p.all ρ).length=n;by_cases h:n % 2=1
   ·rw[Qc h,Jq (by omega)];rfl
   ·rw[Jq h,Qc (by omega)];rfl
theorem qm5(l:List Nat)(ρ:Nat->Bool):(l.map ρ).all id=l.all ρ:=by rw[List.all_map];rfl
def qdc(K:W.Frag):Sp:=λ vs H Q _=>∃(a d:Addr)(F:List Pr)(kvs:List (Key×V))(ρ:Nat->Bool),vs=[.ref a,.ref d]/\SqT K H a (F.map vS)/\H d=some (.dK kvs)/\(∀ p∈F,∀ c∈p,zx kvs (.inr (qj [c]))=some (.bl (ρ c)))/\(∀ p∈F,p.length<=1000)/\F.length<=1000/\∀ H',qg H H'->Q (.bl (qy ρ F)) H'
theorem qd5:FnScope ["form","row","true_ones"] ["form","row"] (qi qeI):=scF
theorem qiV{f :Addr}{fd :FuncData}(F:Fun K "worth" "worth" qeI f fd)(T:Txt mg): FnOk P w K mg base CX0 1 f fd ["form","row"] (qdc K):=by
 refine F.okd qd5 (λ cdv A outer s H vs Q E hr h=>?_);obtain⟨a,d,F,kvs,ρ,rfl,hF,hd,hv,hp,hl,q⟩:=h;have M7:=qdC hr;refine⟨_,(qd (qhz (i:=2) qd5.nd rfl rfl (csc (NY:=["product","row"]) (o:=1) (caps:=[1]) ["row"] rfl
    (by intro x hx;rw[Zq.mp hx];exact .inl rfl) (vP rfl rfl rfl jD) rfl) rfl
    (qch (pv 0)) (λ C0 s H fp pins=>qt (i:=0) (show(["product","row"]:List Str).Nodup by decide +kernel) rfl (Or.inl rfl)) (λ C0 s H fp pins=>(qaP (qaf (qD (r:=qnN K) (qbN rfl) (by rfl) T.all qj6 (qa (zz (csc (NY:=["letter","row"]) (o:=1) (caps:=[1]) ["row"] rfl
    (by intro x hx;rw[Zq.mp hx];exact .inl rfl) (vP rfl rfl rfl jD) rfl) rfl
    (vJ (pv 0)) (λ C0 s H fp pins=>qt (i:=0) (show(["letter","row"]:List Str).Nodup by decide +kernel) rfl (Or.inl rfl)) (λ C0 s H fp pins=>zq) (λ C0 s H fp pins=>(qb1 M7 (pv 1) (pv 0) (λ _ _=>rfl)))) qb))))) (λ C0 s H fp pins=>(pv 0)))
  (qe (qo (yY zr (qk q8 (qD qC (by rfl) T.len Qb (qa (pv 2) qb)) qf) qf (qG _))))),?_⟩
 refine⟨_,rfl,a,rfl,⟨_,hF⟩,?_⟩;refine qmH hF (λ j=>((F.take j).filter λ p=>p.all ρ).map vS) rfl (λ j hj=>?_) ?_ ?_
 ·rw[U7];have:=Yf (λ p:Pr=>p.all ρ) (F.take j);rw[Uq] at this;exact zh (by omega)
 ·intro j x H2 D Y Z hx hD u8 sm hY hZ;obtain⟨p,cD,rfl⟩:=ql hx;have hpm:=Yn cD;have hs:(qj p).cps.size=p.length:=qu p;have hj:j<F.length:=j6 cD;have ej:F[j]=p:=by rw[X1 hj] at cD;exact Option.some.inj cD
  have fs:=vX (f:=λ p:Pr=>p.all ρ) hj;rw[ej] at fs;refine⟨⟨rfl,rfl⟩,?_⟩;refine⟨_,rfl,_,rfl,?_⟩;refine qew (λ m=>((p.map ρ).take m).map V.bl) rfl (λ m hm=>?_) ?_ ?_
  ·rw[U7,Uq,U7];have:=hp p hpm;exact zh (by omega)
  ·intro m H3 D3 Y3 Z3 hm hD3 N8 gU hY3 hZ3;rw[hs] at hm;rw[jo hm];refine⟨⟨rfl,rfl⟩,?_⟩;have gd:=qah.k (k:=Sum.inr (qj [p[m]])) (gU _ _ (sm _ _ hd));rw[hv p hpm _ (Uw hm)] at gd;refine⟨_,rfl,_,rfl,d,_,rfl,gd,?_⟩;exact hY3 _ _ N8 gU (yP (f:=V.bl) (by rw[Zw,X1 hm];rfl))
  ·intro D3 H3 hD3 gU N8;rw[hs,XN (by rw[U7];exact Vc _)] at N8;refine⟨D3,p.map ρ,rfl,SqL.of N8,_,rfl,?_⟩;rw[qm5];refine qbs (λ c=>?_) (λ c=>?_)
   ·refine⟨_,rfl,hY _ _ (gU _ _ u8) (sm.trans gU) ?_⟩;show List.map _ ((F.take (j+1)).filter _)=_
    rw[fs,V2 c,Jg];rfl
   ·refine hZ _ (gU _ _ u8) (sm.trans gU) ?_;show List.map _ ((F.take (j+1)).filter _)=_
    rw[fs,V3 c,U8]
 ·intro D H2 hD sm u8;rw[U7,Ux] at u8;refine⟨_,rfl,D,_,rfl,.inl (SqL.of u8),_,_,rfl,rfl,(show(0:Int)<2 by decide),rfl,?_⟩;have e:decide (V.int ((((F.filter λ p=>p.all ρ).map vS).length:Int) % 2)=V.int 1)=qy ρ F:=by
   rw[qd4,U7];refine U3.mpr ?_;rw[V.int.injEq];constructor
   ·intro h;exact_mod_cast h
   ·intro h;exact_mod_cast h
  exact vk (congrArg V.bl e) (q _ sm)
theorem TaskAt.mono{CT:Addr}{H H':Hp}{o:Addr}{gv gp:List Nat}{ws:List Wsh}{dx a1 a2 a3:Addr}{ps:List Addr}(t:TaskAt CT H o gv gp ws dx a1 a2 a3 ps)(g:qg H H'):TaskAt CT H' o gv gp ws dx a1 a2 a3 ps:=
 ⟨g _ _ t.ins,g _ _ t.said,g _ _ t.sides,zL (λ p y h=>yl.mono h g) t.side,g _ _ t.fault⟩
structure TkOk(gv gp:List Nat)(ws:List Wsh):Prop where
 sv:gv.Sublist abc
 sp:gp.Sublist xyz
 on:On (gv++gp) (qS (ws.map Wsh.side))
noncomputable def jO(gv gp:List Nat)(N M:Nat):Nat->Bool:=asg (gv++gp) (qJ gv.length N++qJ gp.length M)
noncomputable def qbj(gv gp:List Nat)(F:List Pr)(N M:Nat):Bool:=!qy (jO gv gp N M) F
noncomputable def yb(gv gp:List Nat)(F:List Pr)(N:Nat):List Nat:=(List.range (2^gp.length)).filter (qbj gv gp F N)
noncomputable def vN(M:Nat):V:=.int (M:Int)
def qkO(CT:Addr):Sp:=λ vs H Q _=>∃(o:Addr)(gv gp:List Nat)(ws:List Wsh)(dx a1 a2 a3:Addr)(ps:List Addr)(N M:Nat),vs=[.ref o,.int (N:Int),.int (M:Int)]/\TaskAt CT H o gv gp ws dx a1 a2 a3 ps/\TkOk gv gp ws/\∀ H',qg H H'->Q (.bl (qbj gv gp (qS (ws.map Wsh.side)) N M)) H'
theorem qhV:FnScope ["self","given_row","gap_row","row"] ["self","given_row","gap_row"] (qi kf):=scF
theorem qlV{f eK iV c0:Addr}{fd eO lA:FuncData}(F:Fun K "does" "Task.does" kf f fd)(T:Txt mg)(D9:Dp P w K mg base 1 eK eO ["letters","number"] (qg4) "row_of")(R7:Dp P w K mg base 1 iV lA ["form","row"] (qdc K) "worth")(c4:TaskC K c0): FnOk P w K mg base CX0 2 f fd ["self","given_row","gap_row"] (qkO c0):=by
 refine F.okd qhV (λ cdv A outer s H vs Q E hr h=>?_);obtain⟨o,gv,gp,ws,dx,a1,a2,a3,ps,N,M,rfl,t,ok,q⟩:=h;refine⟨_,(qd (qr (i:=3) qhV.nd rfl (Or.inl rfl) (zc D9 hr (qa (ze (pv 0) (by rfl)) (qa (pv 1) qb))))
  (qd (zX (yL X8 PySem.F.slot_dict_update PySem.F.type_dict_update qiB (pv 3) (qa (zc D9 hr (qa (ze (pv 0) (by rfl)) (qa (pv 2) qb))) qb)))
  (qe (qo (qi9 (zc R7 hr (qa (ze (pv 0) (by rfl)) (qa (pv 3) qb)))))))),?_⟩
 have iC:gv.length<=3:=ok.sv.length_le;have nU:gp.length<=3:=ok.sp.length_le;obtain⟨rl,nS,l9⟩:=qbE ok.sv ok.sp;have nd:=zo Qg rl;have ndv:gv.Nodup:=(Z2.mp nd).1;have ndp:gp.Nodup:=(Z2.mp nd).2.1;have lv:gv.length=(qJ gv.length N).length:=(zm _ _).symm;have lp:gp.length=(qJ gp.length M).length:=(zm _ _).symm;refine⟨_,rfl,o,c0,dx,_,_,rfl,t.ins,c4.cls,c4.n1,rfl,_,rfl,gv,N,rfl,ndv,by omega,λ d1 H1 g1 f1 e1=>?_⟩;refine⟨_,rfl,.inr (.inr (.inl ⟨rfl,.inl ⟨_,e1⟩⟩)),_,rfl,o,c0,dx,_,_,rfl,g1 _ _ t.ins,c4.cls,c4.n2,rfl,_,rfl,gp,M,rfl,ndp,by omega,λ d2 H2 g2 f2 e2=>?_⟩;refine⟨d1,d2,_,_,rfl,rfl,g2 _ _ e1,e2,(λ h=>by rw[<- h,e1] at f2;cases f2),by rw[qfY lv,qfY lp];exact qp (by omega),?_⟩;rw[qg3 nd lv lp];have g3:qg H (upd H2 d1 (.dK (ym (gv++gp) (qJ gv.length N++qJ gp.length M)))):=(g1.trans g2).at f1;have lb:(gv++gp).length=(qJ gv.length N++qJ gp.length M).length:=by rw[Zj,Zj,<- lv,<- lp]
 have lF:=ok.on.len rl;have aI:2^(gv++gp).length<=64:=Yu (n:=2) (by decide) nS;refine⟨_,rfl,o,c0,dx,_,_,rfl,g3 _ _ t.ins,c4.cls,c4.n5,rfl,_,rfl,a3,d1,_,_,jO gv gp N M,rfl,SqT.of (g3 _ _ t.fault),qc,λ p hp c hc=>?_,λ p hp=>?_,by omega,λ H4 g4=>⟨_,rfl,q H4 (g3.trans g4)⟩⟩
 ·rw[kC lb,V2 (ok.on.mem p hp c hc)];rfl
 ·have:=(ok.on.sub rl p hp).length_le;omega
def qd6(CT:Addr):Sp:=λ vs H Q _=>∃(o:Addr)(gv gp:List Nat)(ws:List Wsh)(dx a1 a2 a3:Addr)(ps:List Addr)(N:Nat),vs=[.ref o,.int (N:Int)]/\TaskAt CT H o gv gp ws dx a1 a2 a3 ps/\TkOk gv gp ws /\
 ∀ r H',qg H H'->H r=none->H' r=some (.lst ((yb gv gp (qS (ws.map Wsh.side)) N).map vN))->Q (.ref r) H'
theorem qg5:FnScope ["self","given_row"] ["self","given_row"] (qi yW):=scF
theorem qg6{f A1 c0 o8:Addr}{fd A2 u3:FuncData}(F:Fun K "doing_at" "Task.doing_at" yW f fd)(T:Txt mg)(n8:Dp P w K mg base 1 A1 A2 ["letters"] (qcc) "row_count")(c4:TaskC K c0)(A4:Meth K c0 "does" o8)(A6:FnOk P w K mg base CX0 2 o8 u3 ["self","given_row","gap_row"] (qkO c0))(A3:qh K u3 ["self","given_row","gap_row"] []): FnOk P w K mg base CX0 3 f fd ["self","given_row"] (qd6 c0):=by
 refine F.okd qg5 (λ cdv A outer s H vs Q E hr h=>?_);obtain⟨o,gv,gp,ws,dx,a1,a2,a3,ps,N,rfl,t,ok,q⟩:=h;have xV:Room 2 _:=hr.mono (by decide);refine⟨_,(qe (qo (zz (csc (NY:=["gap_row","self","given_row"]) (o:=1) (caps:=[0,1]) ["self","given_row"] rfl
    (by intro x hx;rcases Qh.mp hx with e | hx;· rw[e];exact .inl rfl
        rw[Zq.mp hx];exact .inl rfl) (vP rfl rfl rfl (vP rfl rfl rfl jD)) rfl) rfl
    (yc (by rfl) T.range (qa (zc n8 hr (qa (ze (pv 0) (by rfl)) qb)) qb)) (λ C0 s H fp pins=>qt (i:=0) (show(["gap_row","self","given_row"]:List Str).Nodup by decide +kernel) rfl (Or.inl rfl)) (λ C0 s H fp pins=>(qaP (qaf (qhq (pv 1) c4.cls A4 A6 xV A3 .nil qF (qa (pv 2) (qa (pv 0) qb)))))) (λ C0 s H fp pins=>(pv 0))))),?_⟩
 have nU:gp.length<=3:=ok.sp.length_le;have h8:2^gp.length<=8:=Yu (n:=2) (by decide) nU;refine⟨_,rfl,o,c0,dx,_,_,rfl,t.ins,c4.cls,c4.n2,rfl,gp,rfl,by omega,_,rfl,?_,?_,?_⟩
 ·generalize 2^gp.length=P2 at h8;omega
 ·generalize 2^gp.length=P2 at h8;omega
 have en:(((2^gp.length:Nat):Int)).toNat=2^gp.length:=Zz _;refine qjO (λ i=>((List.range i).filter (qbj gv gp (qS (ws.map Wsh.side)) N)).map vN) rfl (λ i hi=>?_) ?_ ?_
 ·rw[U7];have:=Yf (qbj gv gp (qS (ws.map Wsh.side)) N) (List.range i);rw[Z8] at this;exact zh (by omega)
 ·intro i H2 D Y Z hi hD u8 sm hY hZ;refine⟨⟨rfl,rfl⟩,?_⟩;refine⟨_,rfl,o,dx,_,rfl,sm _ _ t.ins,rfl,_,rfl,_,rfl,o,gv,gp,ws,dx,a1,a2,a3,ps,N,i,(by show [V.ref o,V.int (N:Int),V.int (0+(i:Int))]=[V.ref o,V.int (N:Int),V.int (i:Int)];rw[Q7]),t.mono sm,ok,λ H3 g3=>⟨_,rfl,?_⟩⟩;have fs:(List.range (i+1)).filter (qbj gv gp (qS (ws.map Wsh.side)) N)=(List.range i).filter (qbj gv gp (qS (ws.map Wsh.side)) N)++(if qbj gv gp (qS (ws.map Wsh.side)) N i=true then [i] else []):=by
   rw[Ji,List.filter_append];congr 1
   rw[Uz];rfl
  refine qbs (λ c=>?_) (λ c=>?_)
  ·refine⟨_,rfl,hY _ _ (g3 _ _ u8) (sm.trans g3) ?_⟩;show List.map _ ((List.range (i+1)).filter _)=_
   rw[fs,V2 c,Jg];show _++[V.int (i:Int)]=_++[V.int (0+(i:Int))]
   rw[Q7]
  ·refine hZ _ (g3 _ _ u8) (sm.trans g3) ?_;show List.map _ ((List.range (i+1)).filter _)=_
   rw[fs,V3 c,U8]
 ·intro D H2 hD sm u8;rw[en] at u8;exact q D H2 sm hD u8
theorem qg7{as:List Addr}{l:List Nat}(h:as.map V.ref=l.map vN):as=[]:=by
 cases as with
 |nil=>rfl
 |cons a as=>cases l with
  |nil=>cases h
  |cons x l=>have:=(List.cons.inj h).1;cases this
def qoe(gv gp:List Nat)(F:List Pr)(H:Hp)(c:Addr)(N:Nat):Prop:=H c=some (.lst ((yb gv gp F N).map vN))
def qhW(CT:Addr):Sp:=λ vs H Q _=>∃(o:Addr)(gv gp:List Nat)(ws:List Wsh)(dx a1 a2 a3:Addr)(ps:List Addr),vs=[.ref o]/\TaskAt CT H o gv gp ws dx a1 a2 a3 ps/\TkOk gv gp ws /\
 ∀ r as H',qg H H'->H r=none->(∀ c∈as,H c=none)->H' r=some (.lst (as.map V.ref))->Paired (qoe gv gp (qS (ws.map Wsh.side)) H') as (List.range (2^gv.length))->Q (.ref r) H'
theorem qiW{H H':Hp}(g:qg H H'){c:Addr}(h:H' c=none):H c=none:=by
 cases e:H c with
 |none=>rfl
 |some u=>rw[g _ _ e] at h;cases h
theorem qkP:FnScope ["self"] ["self"] (qi vj):=scF
theorem qkQ{f A1 c0 i7:Addr}{fd A2 l7:FuncData}(F:Fun K "doing" "Task.doing" vj f fd)(T:Txt mg)(n8:Dp P w K mg base 1 A1 A2 ["letters"] (qcc) "row_count")(c4:TaskC K c0)(p6:Meth K c0 "doing_at" i7)(p7:FnOk P w K mg base CX0 3 i7 l7 ["self","given_row"] (qd6 c0))(p5:qh K l7 ["self","given_row"] []): FnOk P w K mg base CX0 4 f fd ["self"] (qhW c0):=by
 refine F.okd qkP (λ cdv A outer s H vs Q E hr h=>?_);obtain⟨o,gv,gp,ws,dx,a1,a2,a3,ps,rfl,t,ok,q⟩:=h;have xU:Room 3 _:=hr.mono (by decide);refine⟨_,(qe (qo (zz (csc (NY:=["given_row","self"]) (o:=1) (caps:=[0]) ["self"] rfl
    (by intro x hx;rw[Zq.mp hx];exact .inl rfl) (vP rfl rfl rfl jD) rfl) rfl
    (yc (by rfl) T.range (qa (zc n8 hr (qa (ze (pv 0) (by rfl)) qb)) qb)) (λ C0 s H fp pins=>qt (i:=0) (show(["given_row","self"]:List Str).Nodup by decide +kernel) rfl (Or.inl rfl)) (λ C0 s H fp pins=>zq) (λ C0 s H fp pins=>(qhq (pv 1) c4.cls p6 p7 xU p5 .nil qF (qa (pv 0) qb)))))),?_⟩
 have iC:gv.length<=3:=ok.sv.length_le;have h8:2^gv.length<=8:=Yu (n:=2) (by decide) iC;refine⟨_,rfl,o,c0,dx,_,_,rfl,t.ins,c4.cls,c4.n1,rfl,gv,rfl,by omega,_,rfl,?_,?_,?_⟩
 ·generalize 2^gv.length=P2 at h8;omega
 ·generalize 2^gv.length=P2 at h8;omega
 have en:(((2^gv.length:Nat):Int)).toNat=2^gv.length:=Zz _;refine jm (((2^gv.length:Nat):Int)).toNat (λ i ys H2=>∃ as:List Addr,ys=as.map V.ref/\(∀ c∈as,H c=none)/\Paired (qoe gv gp (qS (ws.map Wsh.side)) H2) as (List.range i)) (λ D hD=>⟨[],rfl,by simp,.nil⟩) ?_ ?_ (λ H2 sm=>Vc _) ?_
 ·rintro i ys H2 hi ⟨as,rfl,hn,hp⟩
  have:=hp.length
  rw[Z8] at this;rw[U7];exact zh (by omega)
 ·rintro i ys H2 D Y Z hi hD u8 sm ⟨as,rfl,hn,mH⟩ hY hZ;refine⟨hi,?_⟩;rintro x H' ⟨rfl,rfl⟩;refine⟨⟨rfl,rfl⟩,?_⟩;refine⟨_,rfl,o,dx,_,rfl,sm _ _ t.ins,rfl,_,rfl,o,gv,gp,ws,dx,a1,a2,a3,ps,i,(by show [V.ref o,V.int (0+(i:Int))]=[V.ref o,V.int (i:Int)];rw[Q7]),t.mono sm,ok,λ c H3 g3 f3 e3=>?_⟩;have eD:=g3 _ _ u8;refine hY _ _ eD (sm.trans g3) ⟨as++[c],by rw[Jg];rfl,λ c' N4=>?_,?_⟩
  ·rcases U5.mp N4 with h | h
   ·exact hn c' h
   ·rw[Zq.mp h];exact qiW sm f3
  rw[Ji];have nD:c≠D:=λ h=>by rw[h,u8] at f3;cases f3
  refine zD ?_ (.cons (by show upd H3 D _ c=_;rw[qv nD];exact e3) .nil);by_cases has:as=[]
  ·subst has;generalize List.range i=L at mH ⊢;cases mH
   exact .nil
  ·refine L2.Paired.mapP mH λ z N h=>?_
   have hz:H' z=some (.lst ((yb gv gp (qS (ws.map Wsh.side)) N).map vN)):=h;show upd H3 D _ z=_
   rw[qv (λ q=>by rw[q,u8] at hz;exact has (qg7 (HO.lst.inj (Option.some.inj hz))))];exact g3 _ _ hz
 ·rintro D H2 ys hD sm u8 ⟨as,rfl,hn,mH⟩;rw[en] at mH;exact q D as H2 sm hD hn u8 mH
noncomputable def asW(x:Tr×Tr):Wsh:=⟨0,1,1,0,x.1,x.2⟩
theorem qkR(x:Tr×Tr):(asW x).text=qd3 x:=by
 unfold asW qd3 Wsh.text;simp
theorem vv(xs:List (Tr×Tr)):((xs.map asW).map λ y=>vS y.text)=xs.map λ x=>vS (qd3 x):=by
 rw[Q4];exact Za λ x _=>by show vS (asW x).text=_;rw[qkR]
theorem qcd{ls:List Nat}{x:Tr×Tr}(h:SOk ls x):(asW x).Ok ls:=by
 obtain⟨h1,h2,a,b⟩:=h;exact⟨⟨Vd _,by show 1<=100;decide,by show 1<=100;decide,Vd _⟩,h1,h2,by show x.1.nodes<=20;omega,by show x.2.nodes<=20;omega⟩
theorem qfZ{ls:List Nat}(ρ:Nat->Bool)(xs:List (Tr×Tr))(h:∀ x∈xs,x.1.Of ls/\x.2.Of ls):qy ρ (qS ((xs.map asW).map Wsh.side))=xs.any λ x=>x.1.val ρ != x.2.val ρ:=by
 have i9:∀(l:List (Tr×Tr)),(∀ x∈l,x.1.Of ls/\x.2.Of ls)->On ls (qS ((l.map asW).map Wsh.side)):=λ l hl=>qbD _ λ z hz=>by
  obtain⟨y,hy,rfl⟩:=Q3.mp hz;obtain⟨x,hx,rfl⟩:=Q3.mp hy;exact⟨Tr.on (hl x hx).1,Tr.on (hl x hx).2⟩
 have ind:∀ n,n<=xs.length->qy ρ (qS (((xs.take n).map asW).map Wsh.side))=(xs.take n).any λ x=>x.1.val ρ != x.2.val ρ:=by
  intro n;induction n with
  |zero=>intro _;rfl
  |succ n ih =>
   intro hn;have hx:xs[n]?=some xs[n]:=X1 (by omega);have hm:=Uw (l:=xs) (n:=n) (by omega);have o1:=Tr.on (h _ hm).1;have o2:=Tr.on (h _ hm).2;rw[q9 hx,Jg,Jg,Jo];show qy ρ (qS (_++[(xs[n].1.form,xs[n].2.form)]))=_
   rw[qbS,qcx ρ (i9 _ λ x hx=>h x (Ys hx)).vf (o1.added o2).vf,ih (by omega),yN ρ o1.vf o2.vf,Tr.form_worth ρ (h _ hm).1,Tr.form_worth ρ (h _ hm).2];simp
 have:=ind xs.length (Vc _)
 rw[Ux] at this;exact this
theorem qbk{ls:List Nat}{xs:List (Tr×Tr)}(h:∀ x∈xs,x.1.Of ls/\x.2.Of ls):On ls (qS ((xs.map asW).map Wsh.side)):=qbD _ λ z hz=>by
 obtain⟨y,hy,rfl⟩:=Q3.mp hz;obtain⟨x,hx,rfl⟩:=Q3.mp hy;exact⟨Tr.on (h x hx).1,Tr.on (h x hx).2⟩
theorem qbH{H1 H2:Hp}{x dx:Addr}{o1 o2:HO}(hx:H1 x=none)(hd:H1 dx=none)(b:But x (upd (upd H1 dx o1) x o2) H2):qg H1 H2:=λ a o e=>by
 have n1:a≠x:=λ q=>by rw[q,hx] at e;cases e
 have n2:a≠dx:=λ q=>by rw[q,hd] at e;cases e
 exact b a o n1 (by rw[qv n1,qv n2];exact e)
theorem qd7:∀ m:Nat,List.range (m*2)=(List.range m).flatMap λ N=>[2*N,2*N+1]
 |0=>rfl
 |m+1=>by
  rw[Ji,List.flatMap_append,<- qd7 m,show(m+1)*2=(m*2+1)+1 by omega,Ji,Ji,Z1];rw[show m*2=2*m by omega];rfl
theorem qd8(n N b:Nat)(hb:b<2):qJ (n+1) (2*N+b)=qJ n N++[decide (b=1)]:=by
 refine List.ext_getElem? λ k=>?_
 by_cases h:k<n
 ·rw[vW (by omega:k<n+1),Xr (by rw[zm];exact h),vW h];rw[show n+1-1-k=(n-1-k)+1 by omega,Q2,Q1 (2^(n-1-k)) 2,<- XQ,show(2*N+b) / 2=N by omega]
 ·by_cases e:k=n
  ·subst e;rw[vW (by omega:k<k+1),Xk (by rw[zm];omega),zm,Nat.sub_self];rw[show k+1-1-k=0 by omega,Nat.pow_zero,Nat.div_one];show some (decide ((2*N+b) % 2=1))=some (decide (b=1))
   congr 1
   refine U3.mpr ?_;omega
  ·rw[Yd (by rw[zm];omega),Yd (by rw[Zj,zm,XY];omega)]
theorem qdd:∀ n:Nat,yX n=(List.range (2^n)).map (qJ n)
 |0=>rfl
 |n+1=>by
  rw[yX,qdd n,Q2,qd7,List.map_flatMap,List.flatMap_map];refine congrArg (λ f=>List.flatMap f _) (funext λ N=>?_);show [qJ n N++[false],qJ n N++[true]]=[qJ (n+1) (2*N),qJ (n+1) (2*N+1)]
  rw[qd8 n N 1 (by decide),show 2*N=2*N+0 from rfl,qd8 n N 0 (by decide)];rfl
theorem qd9(f:Nat->Bool)(i:Nat):(List.range (i+1)).filter f=(List.range i).filter f++(if f i=true then [i] else []):=by
 rw[Ji,List.filter_append];congr 1
 rw[Uz];rfl
noncomputable def yn(gv gp:List Nat)(xs:List (Tr×Tr))(N:Nat):List Nat:=(List.range (2^gp.length)).filter λ M=>!(xs.any λ x=>x.1.val (jO gv gp N M) != x.2.val (jO gv gp N M))
noncomputable def yq(ds:List (List Nat)):Int:=ds.foldl (λ m d=>m*(d.length:Int)) 1
theorem qg8{ds:List (List Nat)}{i:Nat}{d:List Nat}(h:ds[i]?=some d):yq (ds.take (i+1))=yq (ds.take i)*(d.length:Int):=by
 unfold yq;rw[q9 h,Z9];rfl
theorem qoS{n:Nat}{i:Int}(h:n<=8):qk1 i (n:Int):=by
 have a:(0:Int)<=(n:Int):=Zh n;have b:(n:Int)<=8:=by omega
 exact .inr ⟨Int.lt_of_lt_of_le (by decide) a,Int.lt_of_le_of_lt b (by decide)⟩
theorem qg9(gv gp:List Nat)(F:List Pr)(N:Nat)(h:gp.length<=3):(yb gv gp F N).length<=8:=by
 have h8:2^gp.length<=8:=Yu (n:=2) (by decide) h
 have:=Yf (qbj gv gp F N) (List.range (2^gp.length))
 rw[Z8] at this;unfold yb;omega
def qkS(CT:Addr):Sp:=λ vs H Q _=>∃(o:Addr)(gv gp:List Nat)(ws:List Wsh)(dx a1 a2 a3:Addr)(ps:List Addr),vs=[.ref o]/\TaskAt CT H o gv gp ws dx a1 a2 a3 ps/\TkOk gv gp ws/\∀ H',qg H H'->Q (.int (yq ((List.range (2^gv.length)).map (yb gv gp (qS (ws.map Wsh.side)))))) H'
theorem qeV:FnScope ["task","count","doing_there"] ["task"] (qi qaw):=scF
theorem qm6{f c0 o4:Addr}{fd r6:FuncData}(F:Fun K "how_many" "how_many" qaw f fd)(T:Txt mg)(c4:TaskC K c0)(x0:Meth K c0 "doing" o4)(x3:FnOk P w K mg base CX0 4 o4 r6 ["self"] (qhW c0))(w9:qh K r6 ["self"] []): FnOk P w K mg base CX0 5 f fd ["task"] (qkS c0):=by
 refine F.okd qeV (λ cdv A outer s H vs Q E hr h=>?_);obtain⟨o,gv,gp,ws,dx,a1,a2,a3,ps,rfl,t,tok,q⟩:=h;have xS:Room 4 _:=hr.mono (by decide);refine⟨_,(qd (qr (i:=1) qeV.nd rfl (Or.inl rfl) qf)
  (qd (zR Jn rfl (yi (qE (pv 0) c4.cls x0 x3 xS w9 .nil qF)) (qt (i:=2) qeV.nd rfl (Or.inl rfl))
  (qe (qr (i:=1) qeV.nd rfl (Or.inl rfl) (qk jR (pv 1) (qD qC (by rfl) T.len Qb (qa (pv 2) qb))))))
  (qe (qo (pv 1))))),?_⟩
 refine⟨_,rfl,o,dx,_,rfl,t.ins,rfl,o,gv,gp,ws,dx,a1,a2,a3,ps,rfl,t,tok,λ r as H1 g1 f1 fa e1 pr=>?_⟩;have lp:gp.length<=3:=tok.sp.length_le;refine⟨r,rfl,⟨_,SqL.of e1⟩,?_⟩;refine vC (K:=K) (xs:=as.map V.ref) (λ i σ H2=>∃ v:Option V,σ=[some (.ref o),some (.int (yq (((List.range (2^gv.length)).map (yb gv gp (qS (ws.map Wsh.side)))).take i))),v]/\H2=H1) ⟨none,rfl,rfl⟩ (λ i σ H2 hi ⟨_,_,e⟩=>by rw[e];exact SqL.of e1) ?_ ?_
 ·rintro i x σ H2 hx ⟨v,rfl,rfl⟩;obtain⟨l,hl,rfl⟩:=ql hx;obtain⟨N,hN,e⟩:=zk pr i l hl;have e':H2 l=some (.lst ((yb gv gp (qS (ws.map Wsh.side)) N).map vN)):=e;have l8:=qg9 gv gp (qS (ws.map Wsh.side)) N lp;refine⟨_,rfl,_,rfl,l,_,rfl,.inl (SqL.of e'),_,_,rfl,rfl,by rw[U7];exact qoS l8,?_⟩;refine⟨some (.ref l),?_,rfl⟩;rw[qg8 (show((List.range (2^gv.length)).map (yb gv gp (qS (ws.map Wsh.side))))[i]?=some (yb gv gp (qS (ws.map Wsh.side)) N) by rw[Zw,hN];rfl),U7];rfl
 ·rintro σ H2 ⟨v,rfl,rfl⟩;rw[U7,show as.length=((List.range (2^gv.length)).map (yb gv gp (qS (ws.map Wsh.side)))).length by rw[U7];exact pr.length,Ux];exact⟨_,rfl,q _ g1⟩
def qkT:Sp:=λ vs H Q _=>∃(ls:List Nat)(d:Addr)(kvs:List (Key×V))(ρ:Nat->Bool),vs=[vS ls,.ref d]/\ls.length<=9/\H d=some (.dK kvs)/\(∀ c∈ls,zx kvs (.inr (qj [c]))=some (.bl (ρ c)))/\∀ H',qg H H'->Q (vS (ls.filter ρ)) H'
theorem qm7:FnScope [sA1,sA8] [sA1,sA8] (qi yw):=scF
theorem qm8{f :Addr}{fd :FuncData}(F:Fun K sB2 sB2 yw f fd)(T:Txt mg): FnOk P w K mg base CX0 1 f fd [sA1,sA8] (qkT):=by
 refine F.okd qm7 (λ cdv A outer s H vs Q E hr h=>?_);obtain⟨ls,d,kvs,ρ,rfl,l9,hd,hv,q⟩:=h;have M7:=qdC hr;refine⟨_,(qe (qo (yL XS Yg Yh qb3 qm (qa (zz (csc (NY:=[sB3,sA8]) (o:=1) (caps:=[1]) [sA8] rfl
    (by intro x hx;rw[Zq.mp hx];exact .inl rfl) (vP rfl rfl rfl jD) rfl) rfl
    (vJ (pv 0)) (λ C0 s H fp pins=>qt (i:=0) (show([sB3,sA8]:List Str).Nodup by decide +kernel) rfl (Or.inl rfl)) (λ C0 s H fp pins=>(qaP (qaf (qb1 M7 (pv 1) (pv 0) (λ _ _=>rfl))))) (λ C0 s H fp pins=>(pv 0))) qb)))),?_⟩
 have hs:(qj ls).cps.size=ls.length:=qu ls;have hz:("":Str).length=0:=by decide
 refine⟨rfl,?_⟩;refine⟨_,rfl,_,rfl,?_⟩;refine qew (λ j=>((ls.take j).filter ρ).map λ c=>vS [c]) rfl (λ j hj=>?_) ?_ ?_
 ·rw[U7];have:=Yf ρ (ls.take j);rw[Uq] at this;exact zh (by omega)
 ·intro j H6 D6 Y Z hj pR N7 G5 hY hZ;rw[hs] at hj;rw[jo hj];have fs:=vX (f:=ρ) hj;have gd:=qah.k (k:=Sum.inr (qj [ls[j]])) (G5 _ _ hd);rw[hv _ (Uw hj)] at gd;refine⟨⟨rfl,rfl⟩,?_⟩;refine⟨_,rfl,_,rfl,d,_,rfl,gd,_,rfl,?_⟩;refine qbs (λ c=>?_) (λ c=>?_)
  ·refine⟨_,rfl,hY _ _ N7 G5 ?_⟩;show List.map _ ((ls.take (j+1)).filter _)=_
   rw[fs,V2 c,Jg];rfl
  ·refine hZ _ N7 G5 ?_;show List.map _ ((ls.take (j+1)).filter _)=_
   rw[fs,V3 c,U8]
 ·intro D6 H6 pR G5 N7;rw[hs,Ux] at N7;have lS:(ls.filter ρ).length<=ls.length:=Yf _ _;refine⟨_,D6,((ls.filter ρ).map λ c=>[c]).map qj,rfl,rfl,.inl (SqL.of (by rw[N7,qc3,yU])),?_,?_⟩
  ·rw[qa2,hz,jf];show _+_*0<=_;omega
  rw[qa0,jf];exact q _ G5
noncomputable def qf0(t:List Bool)(i k:Nat):Nat:=((List.range k).filter λ M=>prt i M && t.getD M false).length
theorem qhX(t:List Bool)(i:Nat):∀ k,decide (qf0 t i k % 2=1)=qat ((List.range k).map λ M=>prt i M && t.getD M false)
 |0=>rfl
 |k+1=>by
  rw[Ji,Jg,List.map_singleton,qj4,<- qhX t i k];unfold qf0;rw[qd9];rw[Zj];generalize ((List.range k).filter λ M=>prt i M && t.getD M false).length=n;cases prt i k && t.getD k false with
  |false=>rw[V3 (by decide),List.length_nil,Nat.add_zero,Bool.xor_false]
  |true =>
   rw[V2 rfl,XY,Bool.xor_true];by_cases h:n % 2=1
   ·rw[Qc h,Jq (by omega)];rfl
   ·rw[Jq h,Qc (by omega)];rfl
theorem qkU{ls:List Nat}(nd:ls.Nodup){N M:Nat}(hM:M<2^ls.length):(ls.all λ c=>asg ls (qJ ls.length N) c || !asg ls (qJ ls.length M) c)=prt N M:=by
 have at_:∀(K k:Nat)(hk:k<ls.length),asg ls (qJ ls.length K) ls[k]=K.testBit (ls.length-1-k):=λ K k hk=>by
  have:∀(l:List Nat)(r:List Bool),l.Nodup->l.length=r.length->∀(k:Nat)(h:k<l.length)(b:Bool),r[k]?=some b->asg l r l[k]=b:=by
   intro l;induction l with
   |nil=>intro r _ _ k h;cases h
   |cons a l ih =>
    intro r nd hl k h b hb;have A8:=U9.mp nd;cases r with
    |nil=>cases hl
    |cons x r =>
     cases k with
     |zero =>
      have:x=b:=by simpa using hb
      subst this;exact qcZ _ _ _ _
     |succ k =>
      have hk:k<l.length:=by simpa using h
      show asg (a::l) (x::r) l[k]=b
      rw[qc0 _ _ _ (λ(e:a=l[k])=>A8.1 (by rw[e];exact Uw hk))];exact ih r A8.2 (by simpa using hl) k hk b (by simpa using hb)
  rw[this ls _ nd (zm _ _).symm k hk _ (vW hk),Xb]
 rw[U6];constructor
 ·intro h;rw[Uv] at h;unfold prt;rw[Vn];refine Yv λ i=>?_
  rw[Jl];by_cases hi:i<ls.length
  ·have:=h _ (Uw (l:=ls) (n:=ls.length-1-i) (by omega))
   rw[at_ N _ (by omega),at_ M _ (by omega),show ls.length-1-(ls.length-1-i)=i by omega] at this;cases hm:M.testBit i with
   |false=>rfl
   |true=>rw[hm] at this;simpa using this
  ·rw[XR (Ze hM (Yu (by decide) (by omega)))];rfl
 ·intro h;unfold prt at h;rw[Vn] at h;rw[Uv];intro c hc;obtain⟨k,hk,rfl⟩:=Y4 hc;rw[at_ N k hk,at_ M k hk];have this:(M &&& N).testBit (ls.length-1-k)=M.testBit (ls.length-1-k):=by rw[h]
  rw[Jl] at this;cases hm:M.testBit (ls.length-1-k) with
  |false=>simp
  |true=>rw[hm] at this;simpa using this
theorem qha:bootBuiltins "int"=some (.type "int"):=by decide +kernel
def qkV(K:W.Frag):Sp:=λ vs H Q _=>∃(a:Addr)(t:List Bool)(ls:List Nat),vs=[vS ls,.ref a]/\SqL K H a (t.map V.bl)/\t.length=2^ls.length/\ls.Pairwise (·<·)/\ls.length<=6 /\
 ∀ r H',qg H H'->H' r=some (.tup ((formOf ls t).map vS))->Q (.ref r) H'
theorem qf1{ls:List Nat}{t:List Bool}(nd:ls.Nodup)(ht:t.length=2^ls.length):(qad ls t (2^ls.length)).Nodup:=by rw[qdU nd ht];exact jY _ nd
theorem qm9{t:List Bool}{k:Nat}(h:k<t.length):atI (t.map V.bl) (k:Int)=some (.bl (t.getD k false)):=by
 refine kI ?_;rw[Zw,X1 h,Xm,X1 h];rfl
theorem kH:FnScope [sA1,sC4,"_law_held","_law_rows_here",sA8,sB5,sB0,"_law_fewer"] [sA1,sC4] (qi jF):=scF
theorem qna{f eI K0:Addr}{fd eM K2:FuncData}(F:Fun K sB6 sB6 jF f fd)(T:Txt mg)(u0:mg "int"=none)(M4:Dp P w K mg base 1 eI eM [sA2] (qeS) sC5)(t4:Dp P w K mg base 1 K0 K2 [sA1,sA8] (qkT) sB2): FnOk P w K mg base CX0 2 f fd [sA1,sC4] (qkV K):=by
 refine F.okd kH (λ cdv A outer s H vs Q E hr h=>?_);obtain⟨a,t,ls,rfl,hT,ht,hl,l6,q⟩:=h;have M7:=qdC hr;refine⟨_,(qd (qr (i:=2) kH.nd rfl (Or.inl rfl) (zE qb))
  (qd (qr (i:=3) kH.nd rfl (Or.inl rfl) (zc M4 hr (qa (pv 0) qb)))
  (qd (zR Jn rfl (yi (pv 3)) (qt (i:=4) kH.nd rfl (Or.inr rfl))
  (qd (qr (i:=5) kH.nd rfl (Or.inl rfl) qf)
  (qd (qez (n:=2) Jn rfl (qld (by rfl) T.enumerate (qa (pv 3) qb)) (qO (qt (i:=6) kH.nd rfl (Or.inl rfl)) (qO (qt (i:=7) kH.nd rfl (Or.inr rfl)) zY))
  (qe (zf (qaf (qD (qbN rfl) (by rfl) T.all qj6 (qa (zz (csc (NY:=[sB3,sA8,"_law_fewer"]) (o:=1) (caps:=[4,7]) [sA8,"_law_fewer"] rfl
    (by intro x hx;rcases Qh.mp hx with e | hx;· rw[e];exact .inl rfl
        rw[Zq.mp hx];exact .inl rfl) (vP rfl rfl rfl (vP rfl rfl rfl jD)) rfl) rfl
    (vJ (pv 0)) (λ C0 s H fp pins=>qt (i:=0) (show([sB3,sA8,"_law_fewer"]:List Str).Nodup by decide +kernel) rfl (Or.inl rfl)) (λ C0 s H fp pins=>zq) (λ C0 s H fp pins=>(qnj (qb1 M7 (pv 1) (pv 0) (λ _ _=>rfl)) (qf8 (qi9 (qb1 M7 (pv 2) (pv 0) (λ _ _=>rfl))))))) qb)))
   (qe (qr (i:=5) kH.nd rfl (Or.inl rfl) (qk yj (pv 5) (zd qbo (by rfl) u0 qha (qa (zg zZ (pv 1) (pv 6) (λ _ _=>rfl)) qb))))) qL)))
  (qe (zf (qx zr (qk q8 (pv 5) qf) qf (qG _))
   (qe (zX (yL XG X4 X5 zt (pv 2) (qa (zc t4 hr (qa (pv 0) (qa (pv 4) qb))) qb)))) qL)))))
  (qe (qo (zd yy (by rfl) T.tuple qba (qa (qD vT (by rfl) T.sorted kX (qa (pv 2) qb)) qb))))))),?_⟩
 have nd:=zo Qg hl;have hs:(qj ls).cps.size=ls.length:=qu ls;have aI:2^ls.length<=64:=Yu (n:=2) (by decide) l6;refine⟨Vd _,λ fb hfb=>?_⟩;have g0:=qg.up hfb (o:=.lst []);refine⟨_,rfl,ls,rfl,nd,by omega,λ r1 ds H1 g1 e1 ra=>?_⟩;rw[qdd] at ra;have ef:=g1 _ _ (qc (H:=H) (a:=fb) (o:=.lst []));have ld:ds.length=2^ls.length:=by have:=Y7 ra;rw[U7,Z8] at this;exact this
 have pos:0<2^ls.length:=Nat.pow_pos (by decide);have n1:r1≠fb:=λ q=>by
  rw[q,ef] at e1
  have:=congrArg List.length (HO.lst.inj (Option.some.inj e1))
  rw[U7,List.length_nil] at this;omega
 refine⟨_,rfl,r1,rfl,⟨_,SqL.of e1⟩,?_⟩;refine vC (K:=K) (xs:=ds.map V.ref) (λ i σ H2=>∃ v4 v5 v6 v7:Option V,σ=[some (vS ls),some (.ref a),some (.ref fb),some (.ref r1),v4,v5,v6,v7]/\qg H H2/\H2 fb=some (.lst ((qad ls t i).map vS))/\H2 r1=some (.lst (ds.map V.ref))/\jr H2 ls ds ((List.range (2^ls.length)).map (qJ ls.length)))
  ⟨none,none,none,none,rfl,g0.trans g1,ef,e1,ra⟩ (λ i σ H2 hi ⟨_,_,_,_,_,_,_,h,_⟩=>SqL.of h) ?_ ?_
 ·rintro i x σ H2 hx ⟨v4,v5,v6,v7,rfl,g2,e2,er,nG⟩;obtain⟨d,hd,rfl⟩:=ql hx;have hi:i<ds.length:=j6 hd;obtain⟨N0,oE,tP⟩:=zk nG i d hd;have xO:N0=qJ ls.length i:=by
   rw[Zw,Zb (by omega)] at oE;exact(Option.some.inj oE).symm
  subst xO;have lr:ls.length=(qJ ls.length i).length:=(zm _ _).symm;refine⟨_,rfl,r1,rfl,⟨_,SqL.of er⟩,?_⟩;refine qjQ (K:=K) (xs:=ds.map V.ref) (λ j σ H4=>∃ v6 v7:Option V,σ=[some (vS ls),some (.ref a),some (.ref fb),some (.ref r1),some (.ref d),some (.int ((qf0 t i j:Nat):Int)),v6,v7]/\qg H2 H4) ⟨v6,v7,rfl,qg.refl H2⟩ (λ j σ H4 hj ⟨_,_,_,g⟩=>SqL.of (g _ _ er)) ?_ ?_
  ·rintro j x σ H4 hx ⟨v6,v7,rfl,g4⟩;obtain⟨d2,aE,rfl⟩:=ql hx;have hj:j<ds.length:=j6 aE;obtain⟨rq,hrq,hdq⟩:=zk nG j d2 aE;have xP:rq=qJ ls.length j:=by
    rw[Zw,Zb (by omega)] at hrq;exact(Option.some.inj hrq).symm
   subst xP;have lq:ls.length=(qJ ls.length j).length:=(zm _ _).symm;refine⟨_,_,rfl,_,_,rfl,rfl,?_⟩;refine⟨_,rfl,_,rfl,?_⟩;refine qew (λ m=>((ls.take m).map λ c=>V.bl (asg ls (qJ ls.length i) c || !asg ls (qJ ls.length j) c))) rfl (λ m hm=>?_) ?_ ?_
   ·rw[U7,Uq];exact zh (by omega)
   ·intro m H6 D6 Y Z hm pR N7 G5 hY hZ;rw[hs] at hm;rw[jo hm];have gd:=qah.k (k:=Sum.inr (qj [ls[m]])) (G5 _ _ (g4 _ _ tP));rw[kC lr,V2 (Uw hm)] at gd;have gq:=qah.k (k:=Sum.inr (qj [ls[m]])) (G5 _ _ (g4 _ _ hdq));rw[kC lq,V2 (Uw hm)] at gq;refine⟨⟨rfl,rfl⟩,?_⟩;have sn:=yP (f:=λ c=>V.bl (asg ls (qJ ls.length i) c || !asg ls (qJ ls.length j) c)) (X1 hm);refine⟨_,rfl,_,rfl,d,_,rfl,gd,_,rfl,?_⟩;cases hb:asg ls (qJ ls.length i) ls[m] with
    |true =>
     rw[hb,Bool.true_or] at sn;exact hY _ _ N7 G5 sn
    |false =>
     rw[hb,Qk] at sn;refine⟨_,rfl,_,rfl,d2,_,rfl,gq,_,rfl,?_⟩;exact hY _ _ N7 G5 sn
   ·intro D6 H6 pR G5 N7;rw[hs,Ux] at N7;refine⟨D6,ls.map λ c=>(asg ls (qJ ls.length i) c || !asg ls (qJ ls.length j) c),rfl,SqL.of (by rw[N7,Q4];rfl),_,rfl,?_⟩;rw[show((ls.map λ c=>(asg ls (qJ ls.length i) c || !asg ls (qJ ls.length j) c)).all id)=prt i j by rw[List.all_map];exact qkU nd (by omega)];have g46:=g4.trans G5;have cs:qf0 t i (j+1)=qf0 t i j+(if (prt i j && t.getD j false)=true then 1 else 0):=by
     unfold qf0;rw[qd9,Zj];cases prt i j && t.getD j false <;> rfl
    cases hp:prt i j with
    |false =>
     refine yM ?_;rw[hp,Jy,V3 (by decide),Nat.add_zero] at cs;exact⟨_,_,by rw[cs];rfl,g46⟩
    |true =>
     refine qbr ?_;rw[hp,Bool.true_and] at cs;refine⟨_,rfl,_,rfl,_,rfl,a,_,_,_,rfl,rfl,(g2.trans g46).seq hT,qm9 (by omega),.inr ⟨_,rfl,_,_,rfl,rfl,?_⟩⟩;refine⟨some (.int (j:Int)),some (.ref d2),?_,g46⟩;rw[cs];cases t.getD j false <;> rfl
  ·rintro σ H4 ⟨v6,v7,rfl,g4⟩;rw[U7,ld];have odd:decide (qf0 t i (2^ls.length) % 2=1)=jJ t i:=by
    rw[qhX];exact qfD t (by omega)
   refine⟨_,rfl,_,_,rfl,rfl,(show(0:Int)<2 by decide),rfl,_,rfl,?_⟩;rw[show decide (V.int (((qf0 t i (2^ls.length):Nat):Int) % 2)=V.int 1)=jJ t i by
    rw[<- odd];refine U3.mpr ?_;rw[V.int.injEq];constructor
    ·intro h;exact_mod_cast h
    ·intro h;exact_mod_cast h]
   have e24:=g4 _ _ e2;refine qbs (λ c=>?_) (λ c=>?_)
   ·refine⟨_,rfl,.inl ⟨rfl,_,SqL.of e24⟩,_,rfl,_,rfl,ls,d,_,asg ls (qJ ls.length i),rfl,by omega,g4 _ _ tP,λ c hc=>by rw[kC lr,V2 hc],λ H5 g5=>?_⟩;have e25:=g5 _ _ e24;have pl:=qdT ls t i;refine⟨fb,_,_,rfl,rfl,e25,by rw[U7];exact zh (by omega),?_⟩;refine⟨_,_,_,_,rfl,((g2.trans g4).trans g5).at hfb,?_,by rw[qv n1];exact g5 _ _ (g4 _ _ er),((nG.mono g4).mono g5).upd e25⟩;rw[qc,qc2,V2 c,Jg];rfl
   ·refine⟨_,_,_,_,rfl,g2.trans g4,?_,g4 _ _ er,nG.mono g4⟩;rw[e24,qc2,V3 c,U8]
 ·rintro σ H1 ⟨v4,v5,v6,v7,rfl,g1,e1,er,nG⟩;rw[U7,ld] at e1;have pl:=qdT ls t (2^ls.length);have hnd:((qad ls t (2^ls.length)).map qj).Nodup:=Z4.mpr ((qf1 nd ht).imp λ{a b} x4 e=>x4 (yQ e));refine⟨_,rfl,fb,(qad ls t (2^ls.length)).map qj,rfl,SqL.of (by rw[<- yU];exact e1),by rw[U7];show _<4096;omega,hnd,λ l S9=>?_⟩;rw[qbR (yU _).symm,qdU nd ht];refine⟨l,_,rfl,.inl ⟨SqL.of qc,λ r N9=>?_⟩⟩;exact q r _ ((g1.to S9).to N9) qc
noncomputable def vy(t:Tr)(c:Nat):Tr:=match t with
 |.one=>.letter c
 |t=>.bin 38 t (.letter c)
noncomputable def qB(p:List Nat):Tr:=p.foldl vy .one
noncomputable def zF(F:List Pr):Tr:=match F with
 | []=>.zero
 |p::l=>l.foldl (λ a q=>.bin 43 a (qB q)) (qB p)
theorem jA(p:List Nat)(c:Nat):qB (p++[c])=vy (qB p) c:=by unfold qB;rw[Z9];rfl
theorem qiX(t:Tr)(c:Nat):vy t c≠.one:=by
 cases t <;> intro e <;> cases e
theorem jP:∀(n:Nat)(p:List Nat),p.length=n->(qB p).wt<=n+1
 |0,p,h=>by rw[Xf h];exact Vc _
 |n+1,p,h=>by
  have C7:p≠[]:=λ e=>by rw[e] at h;cases h
  rw[<- Xg C7,jA];have ih:=jP n p.dropLast (by rw[List.length_dropLast,h];rfl);generalize qB p.dropLast=t at ih;cases t <;> first|(show 1<=_;omega)|(show _+1<=_;exact Nat.succ_le_succ ih)
theorem qf2{p:List Nat}(h:∀ c∈p,c≠49):decide ((qB p).text=[49])=decide (p=[]):=by
 by_cases e:p=[]
 ·rw[e];rfl
 ·rw[Jq e];rw[<- Xg e,jA];have hc:=h _ (List.getLast_mem e);generalize p.getLast e=c at hc;generalize qB p.dropLast=t;refine Jq ?_;cases t <;> first|(intro q;exact hc (by simpa [vy,Tr.text] using q))|(intro q;simp[vy,Tr.text] at q)
theorem qhb(p:List Nat)(c:Nat):(vy (qB p) c).text=if p=[] then [c] else [40]++(qB p).text++[38]++[c]++[41]:=by
 by_cases e:p=[]
 ·rw[e];rfl
 ·rw[V3 e,<- Xg e,jA]
  have:=qiX (qB p.dropLast) (p.getLast e)
  generalize vy (qB p.dropLast) (p.getLast e)=t at this;cases t <;> first|exact absurd rfl this|simp[vy,Tr.text]
theorem qnb(p q:List Nat):decide (V.str (qj p)=V.str (qj q))=decide (p=q):=by
 refine U3.mpr ⟨λ e=>yQ (V.str.inj e),λ e=>by rw[e]⟩
theorem qhY{x y:V}{b:Bool}:atI [x,y] (if b=true then 1 else 0)=some (if b=true then y else x):=by
 cases b <;> rfl
noncomputable def js(t:Tr)(l:List Pr):Tr:=l.foldl (λ a q=>.bin 43 a (qB q)) t
theorem qf3:∀(l:List Pr)(t:Tr),(∀ p∈l,p.length<=4)->(js t l).wt<=t.wt+5*l.length
 | [],t,_=>Vc _
 |p::l,t,h=>by
  have ih:=qf3 l (.bin 43 t (qB p)) λ q hq=>h q (Yl _ hq)
  have w:=jP _ p rfl
  have:=h p (Zf ..)
  have e:(Tr.bin 43 t (qB p)).wt=t.wt+(qB p).wt:=rfl;show(js (.bin 43 t (qB p)) l).wt<=_
  rw[Uo];omega
theorem qhc(t:Tr)(l:List Pr)(p:Pr):js t (l++[p])=.bin 43 (js t l) (qB p):=by unfold js;rw[Z9];rfl
def qhd:Sp:=λ vs H Q _=>∃(a:Addr)(F:List Pr),vs=[.ref a]/\H a=some (.tup (F.map vS))/\F.length<=16/\(∀ p∈F,p.length<=4/\∀ c∈p,c≠49)/\∀ H',qg H H'->Q (vS (zF F).text) H'
theorem jc:FnScope [sC0,"_law_words","_law_product","_law_word",sB3,"_law_said_here"] [sC0] (qi qaB):=scF
theorem qlW{f :Addr}{fd :FuncData}(F:Fun K sC6 sC6 qaB f fd)(T:Txt mg)(u0:mg "int"=none): FnOk P w K mg base CX0 1 f fd [sC0] (qhd):=by
 refine F.okd jc (λ cdv A outer s H vs Q E hr h=>?_);obtain⟨a,F,rfl,hF,l16,hp,q⟩:=h;refine⟨_,(qd (zf (qx zr (qD qC (by rfl) T.len Qb (qa (pv 0) qb)) qf (qG _))
   (qe (qo qm)) qL)
  (qd (qr (i:=1) jc.nd rfl (Or.inl rfl) (zE qb))
  (qd (zR Jn rfl (qch (pv 0)) (qt (i:=2) jc.nd rfl (Or.inl rfl))
  (qd (qr (i:=3) jc.nd rfl (Or.inl rfl) qm)
  (qd (zR Jn rfl (vJ (pv 2)) (qt (i:=4) jc.nd rfl (Or.inl rfl))
  (qe (qr (i:=3) jc.nd rfl (Or.inl rfl) (zg zZ (zE (qa (pv 4) (qa (qk qz (qk qz (qk qz (qk qz qm (pv 3)) qm) (pv 4)) qm) qb))) (zd qbo (by rfl) u0 qha (qa (yY qjg (pv 3) qm (qG _)) qb)) (λ _ _=>rfl)))))
  (qe (zX (yL XG X4 X5 zt (pv 1) (qa (pv 3) qb)))))))
  (qd (qr (i:=5) jc.nd rfl (Or.inl rfl) (zg zZ (pv 1) qf (λ _ _=>rfl)))
  (qd (zR Jn rfl (yi (vE qek (pv 1) (qaJ qf) qaI)) (qt (i:=3) jc.nd rfl (Or.inl rfl))
  (qe (qr (i:=5) jc.nd rfl (Or.inl rfl) (qk qz (qk qz (qk qz (qk qz qm (pv 5)) qm) (pv 3)) qm))))
  (qe (qo (pv 5)))))))),?_⟩
 rw[qbB,vo,qko,qkh,qkg,qgM];refine⟨_,rfl,a,_,rfl,.inr (SqT.of hF),rfl,_,rfl,?_⟩;refine qbs (λ c=>?_) (λ c=>?_)
 ·have e:F=[]:=by
   have:V.int (((F.map vS).length:Nat):Int)=V.int 0:=Um c
   have:=V.int.inj this
   rw[U7] at this;exact Xf (by omega)
  subst e;exact q H (qg.refl H)
 have ne:F≠[]:=λ e=>by subst e;exact c rfl
 refine⟨Vd _,λ wb hwb=>?_⟩;have g0:=qg.up hwb (o:=.lst []);refine⟨_,rfl,a,rfl,⟨_,SqT.of (g0 _ _ hF)⟩,?_⟩;refine qhk (K:=K) (xs:=F.map vS) (λ i σ H1=>∃ v2 v3 v4 v5:Option V,σ=[some (.ref a),some (.ref wb),v2,v3,v4,v5]/\qg H H1/\H1 wb=some (.lst ((F.take i).map λ p=>vS (qB p).text))) ⟨none,none,none,none,rfl,g0,qc⟩ (λ i σ H1 hi ⟨_,_,_,_,_,g,_⟩=>SqT.of (g _ _ hF)) ?_ ?_
 ·rintro i x σ H1 hx ⟨v2,v3,v4,v5,rfl,g1,e1⟩;obtain⟨p,mB,rfl⟩:=ql hx;obtain⟨l4,wV⟩:=hp p (Yn mB);have hs:(qj p).cps.size=p.length:=qu p;refine⟨_,rfl,_,rfl,?_⟩;refine qb2 (λ j σ H2=>∃ v4:Option V,σ=[some (.ref a),some (.ref wb),some (vS p),some (vS (qB (p.take j)).text),v4,v5]/\qg H1 H2) ⟨v4,rfl,qg.refl H1⟩ ?_ ?_
  ·rintro j σ H2 hj ⟨v4,rfl,g2⟩;rw[hs] at hj;rw[jo hj];have wl:=jP _ (p.take j) rfl;have tl:=(qB (p.take j)).text_len;have lt:(p.take j).length<=4:=by rw[Uq];omega
   refine⟨_,rfl,?_⟩;refine(ya qA (ya qA (ya qA (ya qA (p:=[40]) dC (dvA (v:=vS (qB (p.take j)).text) rfl) (by show 1+_<=_;omega)) (q:=[38]) dC (by rw[Zj];show 1+_+1<=_;omega)) (dvA (v:=vS [p[j]]) rfl) (by rw[Zj,Zj];show 1+_+1+1<=_;omega)) (q:=[41]) dC (by rw[Zj,Zj,Zj];show 1+_+1+1+1<=_;omega)) _ _ _ at0 λ H3 g3=>?_
   refine⟨qp (by show 2<=_;decide),λ pl t8=>?_⟩;refine⟨_,rfl,rfl,.inr ⟨_,rfl,pl,_,_,_,rfl,rfl,SqL.of qc,qhY,?_⟩⟩;refine⟨some (vS [p[j]]),?_,(g2.trans g3).to t8⟩;rw[qnb,qf2 (λ c hc=>wV c (Ys hc)),Xa hj,jA,qhb];by_cases e:p.take j=[]
   ·rw[Qc e,V2 e];rfl
   ·rw[Jq e,V3 e];rfl
  ·rintro σ H2 ⟨v4,rfl,g2⟩;rw[hs,Ux];have e2:=g2 _ _ e1;have hi:=j6 mB;refine⟨_,rfl,.inl ⟨rfl,_,SqL.of e2⟩,_,rfl,wb,_,_,rfl,rfl,e2,by rw[U7,Uq];exact zh (by omega),?_⟩;refine⟨_,_,_,_,rfl,(g1.trans g2).at hwb,?_⟩;rw[qc,q9 mB,Jg];rfl
 ·rintro σ H1 ⟨v2,v3,v4,v5,rfl,g1,e1⟩;rw[U7,Ux] at e1;obtain⟨p0,l,rfl⟩:∃ p l,F=p::l:=by
   cases F with
   |nil=>exact absurd rfl ne
   |cons p l=>exact⟨p,l,rfl⟩
  rw[Qi] at e1;refine⟨_,rfl,wb,_,_,_,rfl,rfl,SqL.of e1,qm4,?_⟩;refine⟨_,rfl,1,rfl,wb,_,rfl,SqL.of e1,λ p2 D5=>?_⟩;rw[qhU];have ep:upd H1 p2 (.lst (l.map λ p=>vS (qB p).text)) p2=some (.lst (l.map λ p=>vS (qB p).text)):=qc;have g2:=g1.to D5 (o:=.lst (l.map λ p=>vS (qB p).text));refine⟨p2,rfl,⟨_,SqL.of ep⟩,?_⟩;refine vC (K:=K) (xs:=l.map λ p=>vS (qB p).text) (λ i σ H2=>∃ v3:Option V,σ=[some (.ref a),some (.ref wb),v2,v3,v4,some (vS (js (qB p0) (l.take i)).text)]/\qg (upd H1 p2 (.lst (l.map λ p=>vS (qB p).text))) H2) ⟨v3,rfl,qg.refl _⟩ (λ i σ H2 hi ⟨_,_,g⟩=>SqL.of (g _ _ ep)) ?_ ?_
  ·rintro i x σ H2 hx ⟨v3,rfl,g3⟩;obtain⟨p,mB,rfl⟩:=ql hx;have hm:=Yn mB;obtain⟨l4,_⟩:=hp p (Yl _ hm);have w1:=jP _ p rfl;have t1:=(qB p).text_len;have w0:=jP _ p0 rfl;have l0:=(hp p0 (Zf ..)).1;have w2:=qf3 (l.take i) (qB p0) λ q hq=>(hp q (Yl _ (Ys hq))).1
   have t2:=(js (qB p0) (l.take i)).text_len;have ll:(l.take i).length<=16:=by rw[Uq];rw[Uo] at l16;omega
   refine(ya qA (ya qA (ya qA (ya qA (p:=[40]) dC (dvA (v:=vS (js (qB p0) (l.take i)).text) rfl) (by show 1+_<=_;omega)) (q:=[43]) dC (by rw[Zj];show 1+_+1<=_;omega)) (dvA (v:=vS (qB p).text) rfl) (by rw[Zj,Zj];show 1+_+1+_<=_;omega)) (q:=[41]) dC (by rw[Zj,Zj,Zj];show 1+_+1+_+1<=_;omega)) _ _ _ at0 λ H3 g4=>?_
   refine⟨some (vS (qB p).text),?_,g3.trans g4⟩;rw[q9 mB,qhc];rfl
  ·rintro σ H2 ⟨v3,rfl,g3⟩;rw[U7,Ux];exact⟨_,rfl,q H2 (g2.trans g3)⟩
def qkW:Sp:=λ vs H Q _=>∃ n:Nat,vs=[.int (n:Int)]/\n<=9/\∀ H',qg H H'->Q (.int ((2^n:Nat):Int)) H'
theorem qnc:FnScope ["_law_n"] ["_law_n"] (qi qbz):=scF
seal wpAny in
theorem qnd{f :Addr}{fd :FuncData}(F:Fun K sC7 sC7 qbz f fd)(T:Txt mg): FnOk P w K mg base CX0 1 f fd ["_law_n"] (qkW):=by
 refine F.okd qnc (λ cdv A outer s H vs Q E hr h=>?_);obtain⟨n,rfl,n9,q⟩:=h;refine⟨_,(qe (qo (zg zZ (zE (qa qf (qa qf (qa qf (qa qf (qa qf (qa qf (qa qf (qa qf (qa qf (qa qf qb))))))))))) (pv 0) (λ _ _=>rfl)))),?_⟩;refine⟨qp (by show 10<=_;decide),λ r N9=>?_⟩;refine⟨_,rfl,r,_,_,.int ((2^n:Nat):Int),rfl,rfl,SqL.of qc,?_,q _ (qg.up N9)⟩;rcases(show n=0∨n=1∨n=2∨n=3∨n=4∨n=5∨n=6∨n=7∨n=8∨n=9 by omega) with rfl|rfl|rfl|rfl|rfl|rfl|rfl|rfl|rfl|rfl <;> rfl
noncomputable def zH(P:Nat->Int):Nat->Int
 |0=>0
 |n+1=>zH P n+P n
noncomputable def yo(g:Nat->Int):Nat->Int
 |0=>1
 |n+1=>yo g n*g n
theorem qea(P:Nat->Int)(a:Nat):∀ b,zH P (a+b)=zH P a+zH (λ k=>P (a+k)) b
 |0=>by show zH P a=zH P a+0;omega
 |b+1=>by
  show zH P (a+b)+P (a+b)=zH P a+(zH (λ k=>P (a+k)) b+P (a+b))
  rw[qea P a b];omega
theorem jB{P R:Nat->Int}:∀{n:Nat},(∀ k,k<n->P k=R k)->zH P n=zH R n
 |0,_=>rfl
 |n+1,h=>by
  show zH P n+P n=zH R n+R n
  rw[jB λ k hk=>h k (by omega),h n (by omega)]
theorem qbI(P:Nat->Int)(c:Int):∀ n,zH (λ k=>P k*c) n=zH P n*c
 |0=>by show(0:Int)=0*c;rw[Int.zero_mul]
 |n+1=>by
  show zH (λ k=>P k*c) n+P n*c=(zH P n+P n)*c
  rw[qbI P c n,Int.add_mul]
theorem jd{g h:Nat->Int}:∀{n:Nat},(∀ k,k<n->g k=h k)->yo g n=yo h n
 |0,_=>rfl
 |n+1,e=>by
  show yo g n*g n=yo h n*h n
  rw[jd λ k hk=>e k (by omega),e n (by omega)]
theorem qde(f:Nat->Bool->Int):∀ n,zH (λ k=>yo (λ N=>f N (k.testBit N)) n) (2^n)=yo (λ N=>f N false+f N true) n
 |0=>by show(0:Int)+1=1;decide
 |n+1=>by
  have e2:2^(n+1)=2^n+2^n:=by rw[Q2];omega
  rw[e2,qea];have a:zH (λ k=>yo (λ N=>f N (k.testBit N)) (n+1)) (2^n)=zH (λ k=>yo (λ N=>f N (k.testBit N)) n*f n false) (2^n):=jB λ k hk=>by
   show yo _ n*f n (k.testBit n)=_
   rw[XR hk]
  have b:zH (λ k=>yo (λ N=>f N ((2^n+k).testBit N)) (n+1)) (2^n)=zH (λ k=>yo (λ N=>f N (k.testBit N)) n*f n true) (2^n):=jB λ k hk=>by
   show yo _ n*f n ((2^n+k).testBit n)=_
   rw[Xp,XR hk];congr 1
   exact jd λ N hN=>by rw[Xo hN]
  rw[a,b,qbI,qbI,qde f n,<- Int.mul_add];rfl
theorem qbl(d:Nat->List Nat):∀ n,yq ((List.range n).map d)=yo (λ N=>((d N).length:Int)) n
 |0=>rfl
 |n+1=>by
  rw[Ji,Jg];show yq (_++[d n])=_*_
  rw[<- qbl d n];unfold yq;rw[Z9];rfl
theorem qiY(t:Tr)(c:Nat)(ρ:Nat->Bool):(vy t c).val ρ=(t.val ρ && ρ c):=by
 cases t <;> simp[vy,Tr.val]
theorem qdf(p:List Nat)(ρ:Nat->Bool):(qB p).val ρ=p.all ρ:=by
 have gen:∀(p:List Nat)(t:Tr),(p.foldl vy t).val ρ=(t.val ρ && p.all ρ):=by
  intro p;induction p with
  |nil=>intro t;simp
  |cons c p ih=>intro t;rw[Jd,ih,qiY,Qm,Bool.and_assoc]
 unfold qB;rw[gen];simp[Tr.val]
theorem qhe(F:List Pr)(ρ:Nat->Bool):(zF F).val ρ=qy ρ F:=by
 have gen:∀(l:List Pr)(t:Tr),(js t l).val ρ=xor (t.val ρ) (qy ρ l):=by
  intro l;induction l with
  |nil=>intro t;show t.val ρ=xor (t.val ρ) false;simp
  |cons p l ih =>
   intro t;show(js (.bin 43 t (qB p)) l).val ρ=xor (t.val ρ) (xor (p.all ρ) (qy ρ l))
   rw[ih,<- J0];congr 1
   rw[<- qdf];simp[Tr.val]
 cases F with
 |nil=>rfl
 |cons p l =>
  show(js (qB p) l).val ρ=xor (p.all ρ) (qy ρ l)
  rw[gen,qdf]
theorem qeb{ls:List Nat}{p:List Nat}(h:∀ c∈p,c∈ls):(qB p).Of ls:=by
 have gen:∀(p:List Nat)(t:Tr),t.Of ls->(∀ c∈p,c∈ls)->(p.foldl vy t).Of ls:=by
  intro p;induction p with
  |nil=>intro t ht _;exact ht
  |cons c p ih =>
   intro t ht h;rw[Jd];refine ih _ ?_ λ d hd=>h d (Yl _ hd)
   have hc:=h c (Zf ..);cases t with
   |one=>exact hc
   |letter d=>exact⟨.inl rfl,ht,hc⟩
   |zero=>exact⟨.inl rfl,ht,hc⟩
   |neg t=>exact⟨.inl rfl,ht,hc⟩
   |bin o t u=>exact⟨.inl rfl,ht,hc⟩
 exact gen p .one trivial h
theorem qiZ{ls:List Nat}{F:List Pr}(h:∀ p∈F,∀ c∈p,c∈ls):(zF F).Of ls:=by
 have gen:∀(l:List Pr)(t:Tr),t.Of ls->(∀ p∈l,∀ c∈p,c∈ls)->(js t l).Of ls:=by
  intro l;induction l with
  |nil=>intro t ht _;exact ht
  |cons p l ih =>
   intro t ht h;exact ih _ ⟨.inr (.inr rfl),ht,qeb (h p (Zf ..))⟩ λ q hq=>h q (Yl _ hq)
 cases F with
 |nil=>trivial
 |cons p l=>exact gen l _ (qeb (h p (Zf ..))) λ q hq=>h q (Yl _ hq)
theorem qdg{p:List Nat}(h:p.length<=2):(qB p).wt<=2:=by
 match p,h with
 | [],_=>exact Ve 1
 | [_],_=>exact Ve 1
 | [_,_],_=>exact Vc 2
theorem qeW{F:List Pr}(l4:F.length<=4)(h:∀ p∈F,p.length<=2):(zF F).nodes<=19:=by
 have gen:∀(l:List Pr)(t:Tr),(∀ p∈l,p.length<=2)->(js t l).wt<=t.wt+2*l.length:=by
  intro l;induction l with
  |nil=>intro t _;exact Vc _
  |cons p l ih =>
   intro t h;have a:=ih (.bin 43 t (qB p)) λ q hq=>h q (Yl _ hq)
   have b:=qdg (h p (Zf ..));have e:(Tr.bin 43 t (qB p)).wt=t.wt+(qB p).wt:=rfl;show(js (.bin 43 t (qB p)) l).wt<=_
   rw[Uo];omega
 have n:=jN (zF F);have w:(zF F).wt<=8:=by
  cases F with
  |nil=>decide
  |cons p l =>
   have a:=gen l (qB p) λ q hq=>h q (Yl _ hq)
   have b:=qdg (h p (Zf ..));show(js (qB p) l).wt<=8
   rw[Uo] at l4;omega
 omega
theorem qi0{gv gp:List Nat}{r q:List Bool}(h:gv.length=r.length){c:Nat}(hc:c∈gv):asg (gv++gp) (r++q) c=asg gv r c:=by
 unfold asg;rw[Jf h,List.find?_append]
 have:((gv.zip r).find? λ x=>decide (x.1=c)).isSome=true:=by
  rw[List.find?_isSome];obtain⟨k,hk,e⟩:=Y4 hc;refine⟨(gv[k],r[k]'(by omega)),?_,by simpa using e⟩;rw[List.mem_iff_getElem];exact⟨k,by rw[Jm];omega,by rw[List.getElem_zip]⟩
 obtain⟨x,hx⟩:=Xy.mp this;rw[hx];rfl
theorem qf4{gv gp:List Nat}(hl:gv.Pairwise (·<·)){t:List Bool}(ht:t.length=2^gv.length){N:Nat}(hN:N<2^gv.length)(M:Nat):qy (jO gv gp N M) (formOf gv t)=t.getD N false:=by
 rw[<- qiA hl ht hN];refine qbQ λ p hp c hc=>?_
 exact qi0 (zm _ _).symm ((On.formOf hl t).mem p hp c hc)
theorem qi1{gv gp:List Nat}(hl:gv.Pairwise (·<·)){t:List Bool}(ht:t.length=2^gv.length){N:Nat}(hN:N<2^gv.length)(xs:List (Tr×Tr))(g:Nat):yn gv gp (xs++[(.letter g,zF (formOf gv t))]) N=(yn gv gp xs N).filter λ M=>jO gv gp N M g == t.getD N false:=by
 unfold yn;rw[List.filter_filter];refine List.filter_congr λ M _=>?_
 rw[Jo,Bool.not_or,Bool.and_comm];congr 1
 show(!(List.any [(Tr.letter g,zF (formOf gv t))] λ x=>x.1.val (jO gv gp N M) != x.2.val (jO gv gp N M)))=_
 rw[Qj,List.any_nil,Ql];show(!((Tr.letter g).val (jO gv gp N M) != (zF (formOf gv t)).val (jO gv gp N M)))=_
 rw[qhe,qf4 hl ht hN];show(!(jO gv gp N M g != t.getD N false))=_
 cases jO gv gp N M g <;> cases t.getD N false <;> rfl
theorem qi2(l:List Nat)(f:Nat->Bool):(((l.filter λ M=>f M == false).length:Nat):Int)+(((l.filter λ M=>f M == true).length:Nat):Int)=((l.length:Nat):Int):=by
 induction l with
 |nil=>rfl
 |cons x l ih =>
  rw[Uz,Uz,Uo];cases f x with
  |false=>rw[V2 (by decide),V3 (by decide),Uo];omega
  |true=>rw[V3 (by decide),V2 (by decide),Uo];omega
noncomputable def qbJ(n k:Nat):List Bool:=(List.range (2^n)).map λ N=>k.testBit N
theorem qf5(n k:Nat):(qbJ n k).length=2^n:=by unfold qbJ;rw[U7,Z8]
theorem qlX{n k N:Nat}(h:N<2^n):(qbJ n k).getD N false=k.testBit N:=by
 unfold qbJ;rw[Xm,Zw,Zb h];rfl
theorem qhf{gv gp:List Nat}(hl:gv.Pairwise (·<·))(xs:List (Tr×Tr))(g:Nat):zH (λ k=>yq ((List.range (2^gv.length)).map (yn gv gp (xs++[(.letter g,zF (formOf gv (qbJ gv.length k)))])))) (2^(2^gv.length))=yq ((List.range (2^gv.length)).map (yn gv gp xs)):=by
 rw[qbl];have s:=qde (λ N b=>(((yn gv gp xs N).filter λ M=>jO gv gp N M g == b).length:Int)) (2^gv.length);rw[jd (h:=λ N=>((yn gv gp xs N).length:Int)) λ N _=>qi2 _ _] at s;rw[<- s];refine jB λ k _=>?_
 rw[qbl];refine jd λ N hN=>?_
 rw[qi1 hl (qf5 _ _) hN,qlX hN]
def qhZ(K:W.Frag):Sp:=λ vs H Q _=>∃(a:Addr)(ns:List Int),vs=[.ref a]/\SqL K H a (ns.map V.int)/\ns.length<=63/\∀ H',Q (.bl true) H'
theorem qhg{gv gp:List Nat}{xs:List (Tr×Tr)}(h:∀ x∈xs,x.1.Of (gv++gp)/\x.2.Of (gv++gp))(N:Nat):yb gv gp (qS ((xs.map asW).map Wsh.side)) N=yn gv gp xs N:=by
 unfold yb yn;congr 1
 funext M
 unfold qbj;rw[qfZ _ xs h]
theorem k5{gv gp:List Nat}{xs:List (Tr×Tr)}(h:∀ x∈xs,x.1.Of (gv++gp)/\x.2.Of (gv++gp)):yq ((List.range (2^gv.length)).map (yb gv gp (qS ((xs.map asW).map Wsh.side))))=yq ((List.range (2^gv.length)).map (yn gv gp xs)):=congrArg yq (Za λ N _=>qhg h N)
theorem qi3(gv gp:List Nat)(xs:List (Tr×Tr))(t:Tr)(N:Nat):yn gv gp ((t,t)::xs) N=yn gv gp xs N:=by
 unfold yn;refine List.filter_congr λ M _=>?_
 rw[Qj];simp
theorem qi4(gv gp:List Nat)(xs:List (Tr×Tr))(N:Nat):yn gv gp (xs++[(.one,.zero)]) N=[]:=by
 unfold yn;rw[List.filter_eq_nil_iff];intro M _;rw[Jo];simp[Tr.val]
theorem qi5(gv gp:List Nat)(xs:List (Tr×Tr)):yq ((List.range (2^gv.length)).map (yn gv gp (xs++[(.one,.zero)])))=0:=by
 rw[qbl]
 have:∃ n,2^gv.length=n+1:=⟨2^gv.length-1,by have:0<2^gv.length:=Nat.two_pow_pos _;omega⟩
 obtain⟨n,e⟩:=this;rw[e];show _*(((yn gv gp (xs++[(.one,.zero)]) n).length:Nat):Int)=0
 rw[qi4];simp
theorem qne{j:Nat}(h:j<=9):qns 0 ((2^j:Nat):Int):=by
 rcases(show j=0∨j=1∨j=2∨j=3∨j=4∨j=5∨j=6∨j=7∨j=8∨j=9 by omega) with rfl|rfl|rfl|rfl|rfl|rfl|rfl|rfl|rfl|rfl <;> exact⟨by decide,by decide⟩
theorem zT:FnScope [sA0,sA1,sB4,sA7,"_law_texts_here",sB5,"_law_gap","_law_total","_law_size","_law_number",sC0,"_law_always"] [sA0] (qi qdV):=scF
theorem qnf{f bJ E5 bH W4 w5 iW P8 eG c0 E6:Addr}{fd bV E9 bT W7 w6 lB R1 eL M0:FuncData}(F:Fun K "law" "law" qdV f fd)(T:Txt mg)(u0:mg "int"=none)(G3:Dp P w K mg base 22 bJ bV [sA0] (qeU K) sC2)(t7:Dp P w K mg base 21 E5 E9 [sA0,sA1,sB4] (qcb K) sB7)(G1:Dp P w K mg base 21 bH bT [sA7] (qdb) sC3)(o6:Dp P w K mg base 5 W4 W7 ["task"] (qkS c0) "how_many")(i6:Dp P w K mg base 1 w5 w6 [sA0,sB0] (jL K) sB1)(G0:Dp P w K mg base 1 iW lB ["_law_n"] (qkW) sC7)(A5:Dp P w K mg base 2 P8 R1 [sA1,sC4] (qkV K) sB6)(M3:Dp P w K mg base 1 eG eL [sC0] (qhd) sC6)(c4:TaskC K c0)(B9:Mk K c0 E6)(C4:FnOk P w K mg base CX0 35 E6 M0 ["self","givens","gaps","wishes"] (qkB K c0))(B8:qh K M0 ["self","givens","gaps","wishes"] [])(K8:mg "Task"=some (.ref c0)): FnOk P w K mg base CX0 37 f fd [sA0] (qhZ K):=by
 refine F.okd zT (λ cdv A outer s H vs Q E hr h=>?_);obtain⟨a,ns,rfl,hS,tW,q⟩:=h;have S5:Room 36 _:=hr.mono (by decide);refine⟨_,(qd (qjb (zc G3 hr (qa (pv 0) qb)) (qcg (n:=3) rfl (qO (qt (i:=1) zT.nd rfl (Or.inl rfl)) (qO (qt (i:=2) zT.nd rfl (Or.inl rfl)) (qO (qt (i:=3) zT.nd rfl (Or.inl rfl)) zY)))))
  (qd (qr (i:=1) zT.nd rfl (Or.inl rfl) (vE qlt (pv 1) qaI (qaJ qf)))
  (qd (qr (i:=2) zT.nd rfl (Or.inl rfl) (zg zZ (zE (qa (pv 2) (qa qm qb))) (zd qbo (by rfl) u0 qha (qa (yY zr (pv 2) qm (qG _)) qb)) (λ _ _=>rfl)))
  (qd (qr (i:=3) zT.nd rfl (Or.inl rfl) (zc t7 hr (qa (pv 0) (qa (pv 1) (qa (pv 2) qb)))))
  (qd (qr (i:=4) zT.nd rfl (Or.inl rfl) (zc G1 hr (qa (pv 3) qb)))
  (qd (qr (i:=5) zT.nd rfl (Or.inl rfl) (zc o6 hr (qa (y2 B9 C4 S5 (by rfl) K8 B8 .nil qF (qa (pv 1) (qa (pv 2) (qa (pv 4) qb)))) qb)))
  (qd (qr (i:=6) zT.nd rfl (Or.inl rfl) (zg qei (pv 2) (qk q8 (zc i6 hr (qa (pv 0) (qa qf qb))) (qD y3 (by rfl) T.len Qb (qa (pv 2) qb))) (λ _ _=>rfl)))
  (qd (qr (i:=7) zT.nd rfl (Or.inl rfl) qf)
  (qd (qr (i:=8) zT.nd rfl (Or.inl rfl) (zc G0 hr (qa (qD y3 (by rfl) T.len Qb (qa (pv 1) qb)) qb)))
  (qd (zR Jn rfl (yc (by rfl) T.range (qa (zc G0 hr (qa (pv 8) qb)) qb)) (qt (i:=9) zT.nd rfl (Or.inr rfl))
  (qd (qr (i:=10) zT.nd rfl (Or.inl rfl) (zc A5 hr (qa (pv 1) (qa (zz (csc (NY:=[sB0,"_law_number"]) (o:=1) (caps:=[9]) ["_law_number"] rfl
    (by intro x hx;rw[Zq.mp hx];exact .inl rfl) (vP rfl rfl rfl jD) rfl) rfl
    (yc (by rfl) T.range (qa (pv 8) qb)) (λ C0 s H fp pins=>qt (i:=0) (show([sB0,"_law_number"]:List Str).Nodup by decide +kernel) rfl (Or.inl rfl)) (λ C0 s H fp pins=>zq) (λ C0 s H fp pins=>(yY zr (qk q8 (qk zN (pv 1) (zc G0 hr (qa (pv 0) qb))) qf) qf (qG _)))) qb))))
  (qe (qr (i:=7) zT.nd rfl (Or.inl rfl) (qk yj (pv 7) (zc o6 hr (qa (y2 B9 C4 S5 (by rfl) K8 B8 .nil qF (qa (pv 1) (qa (pv 2) (qa (qk qak (pv 4) (zE (qa (qk qz (qk qz (pv 6) qm) (zc M3 hr (qa (pv 10) qb))) qb))) qb)))) qb)))))))
  (qd (zf (qx qjg (pv 7) (pv 5) (qG _))
   (qe (qo qhh)) qL)
  (qd (qr (i:=11) zT.nd rfl (Or.inl rfl) (zc o6 hr (qa (y2 B9 C4 S5 (by rfl) K8 B8 .nil qF (qa (pv 1) (qa (pv 2) (qa (qk qak (zE (qa (qk qz (qk qz (pv 6) qm) (pv 6)) qb)) (pv 4)) qb)))) qb)))
  (qe (qo (qi8 (yY zr (pv 11) (pv 5) (qG _)) (qf8 (yY zr (zc o6 hr (qa (y2 B9 C4 S5 (by rfl) K8 B8 .nil qF (qa (pv 1) (qa (pv 2) (qa (qk qak (pv 4) (zE (qa qm qb))) qb)))) qb)) qf (qG _)))))))))))))))))),?_⟩
 rw[show(" = ":Str)=qj [32,61,32] by decide +kernel,show(" =":Str)=qj [32,61] by decide +kernel,show("1= 0":Str)=qj [49,61,32,48] by decide +kernel];refine⟨_,rfl,a,ns,rfl,⟨hS,tW⟩,λ p r iT pV ps0 xs0 H1 g1 ep nC wD er pr0 lx0 ok0=>?_⟩;refine⟨p,_,rfl,SqT.of ep,rfl,_,_,rfl,_,_,rfl,_,_,rfl,rfl,?_⟩;have lg0:(qj iT).length=iT.length:=qu iT;have l3:=nC.length_le;refine⟨_,rfl,2,rfl,qj iT,2,rfl,rfl,rfl,by rw[lg0];exact Qx l3 (by decide),?_⟩;rw[qnI];have O4:(iT.take 2).Sublist [97,98,99]:=(Zx _ _).trans nC;have iC:(iT.take 2).length<=2:=by rw[Uq];omega
 generalize iT.take 2=gv at O4 iC ⊢;refine⟨_,rfl,qp (by show 2<=_;decide),λ pl t8=>?_⟩;refine⟨_,rfl,rfl,.inr ⟨_,rfl,pl,_,_,_,rfl,rfl,SqL.of qc,qhY,?_⟩⟩;have g2:=g1.to t8 (o:=.lst [vS pV,V.str "y"]);obtain⟨gp,mQ,S2,ne⟩:∃ gp:List Nat,(if decide (vS pV=V.str "")=true then V.str "y" else vS pV)=vS gp/\gp.Sublist [120,121,122]/\0<gp.length:=by
  by_cases e:pV=[]
  ·subst e;refine⟨[121],?_,by decide,by decide⟩;rw[V2 (Qc (show vS []=V.str "" by rw[show("":Str)=qj [] by decide +kernel]))];rw[show("y":Str)=qj [121] by decide +kernel]
  ·refine⟨pV,?_,wD,List.length_pos_iff.mpr e⟩;rw[V3];intro c;have c:=Um c;rw[show("":Str)=qj [] by decide +kernel] at c;exact e (yQ (V.str.inj c))
 rw[mQ];obtain⟨xQ,nS,l9⟩:=qbE O4 S2;have nU:gp.length<=3:=S2.length_le;have rv:gv.Pairwise (·<·):=(Yq.mp xQ).1;refine⟨_,rfl,_,rfl,_,rfl,a,ns,gv,gp,rfl,⟨g2.seq hS,tW⟩,by omega,nU,λ r ps xs H3 g3 er pr lx ok=>?_⟩;have tK:∀ x∈xs,x.1.Of (gv++gp)/\x.2.Of (gv++gp):=λ x hx=>⟨(ok x hx).1,(ok x hx).2.1⟩
 refine⟨_,rfl,r,ps,xs,rfl,er,pr,by omega,λ x hx=>?_,λ rt H4 g4 e4=>?_⟩
 ·obtain⟨b1,b2,b3,b4⟩:=ok x hx
  have:=x.1.wt_nodes
  have:=x.2.wt_nodes
  exact⟨b1.upL l9,b2.upL l9,by omega,by omega⟩
 refine⟨_,rfl,_,rfl,_,rfl,λ x dx hx C8 C7=>?_⟩;have mk:∀{Hh:Hp}{x dx:Addr}{l:Addr}{vs:List V},Hh x=none->Hh dx=none->Hh l=some (.lst vs)->upd (upd Hh dx (.own x)) x (.ins c0 dx []) l=some (.lst vs):=λ{Hh x dx l vs} hx C8 e=>by
  rw[qv (λ q=>by rw[q,hx] at e;cases e),qv (λ q=>by rw[q,C8] at e;cases e)];exact e
 refine⟨x,dx,rt,gv,gp,xs.map asW,rfl,qc,SqL.of (by rw[vv];exact mk hx C8 e4),O4,S2,by rw[U7];omega,λ y hy=>?_,λ a1 a2 a3 qs H5 b5 na1 na2 tk=>⟨rfl,?_⟩⟩
 ·obtain⟨z,hz,rfl⟩:=Q3.mp hy;exact qcd (ok z hz)
 have g5:=qbH hx C8 b5;refine⟨x,gv,gp,xs.map asW,dx,a1,a2,a3,qs,rfl,tk,⟨O4,S2,qbk tK⟩,λ H6 g6=>?_⟩;rw[k5 tK];have hlp:(qj gp).length=gp.length:=qu gp;have hlv:(qj gv).length=gv.length:=qu gv;have gH6:=(((g2.trans g3).trans g4).trans g5).trans g6;refine⟨_,rfl,_,rfl,a,ns,_,rfl,⟨gH6.seq hS,tW⟩,by decide,by decide,λ z H7 g7 z0 z1=>?_⟩;refine⟨_,rfl,_,rfl,by rw[hlp];exact qp (by omega),?_⟩;rw[hlp];have i0:=Jh z (b:=(gp.length:Int)) (by omega);have i1:=Zr z (b:=(gp.length:Int)) (by omega);obtain⟨g,hg,aG⟩:=qhK (l:=gp) i0 i1;refine⟨_,_,rfl,rfl,(by show(0:Int)<(gp.length:Int);omega),_,_,g,rfl,rfl,by rw[hlp];exact qp (by omega),aG,?_⟩;refine⟨_,rfl,_,rfl,by rw[hlv];exact qp (by omega),?_⟩;rw[hlv];refine⟨gv.length,rfl,by omega,λ H8 g8=>?_⟩;have p4:2^gv.length<=4:=Yu (n:=2) (by decide) iC;have p16:2^(2^gv.length)<=16:=Yu (n:=2) (by decide) p4;refine⟨_,rfl,2^gv.length,rfl,by omega,λ H9 g9=>⟨_,rfl,Int.le_trans (by decide) (Zh _),Int.lt_of_le_of_lt (show((2^(2^gv.length):Nat):Int)<=16 by exact_mod_cast p16) (by decide),?_⟩⟩;have e49:=((((g5.trans g6).trans g7).trans g8).trans g9) _ _ e4;have gH9:=((gH6.trans g7).trans g8).trans g9;have cF:g∈gv++gp:=U5.mpr (.inr hg);have en:(((2^(2^gv.length):Nat):Int)).toNat=2^(2^gv.length):=Zz _;have ens:(((2^gv.length:Nat):Int)).toNat=2^gv.length:=Zz _;have okl:∀{F:List Pr},On gv F->F.length<=4/\(∀ p∈F,p.length<=2):=λ{F} oF=>by
  have l:=oF.len rv;exact⟨by omega,λ p hp=>Qx (oF.sub rv p hp).length_le iC⟩
 have wV:∀ c∈gv,c≠49:=λ c hc e=>by
  have:c∈[97,98,99]:=O4.subset hc
  rw[e] at this;exact absurd this (by decide)
 generalize hmany:yq ((List.range (2^gv.length)).map (yn gv gp xs))=many;refine jH (λ i σ H'=>∃ v9 uR sH:Option V,σ=[some (.ref a),some (vS gv),some (vS gp),some (.ref r),some (.ref rt),some (.int many),some (vS [g]),some (.int (zH (λ k=>yq ((List.range (2^gv.length)).map (yn gv gp (xs++[(.letter g,zF (formOf gv (qbJ gv.length k)))])))) i)),some (.int ((2^gv.length:Nat):Int)),v9,uR,sH]/\qg H9 H') ⟨none,none,none,rfl,qg.refl H9⟩ ?_ ?_
 ·rintro i σ Ha hi ⟨v9,uR,sH,rfl,ga⟩;refine⟨_,rfl,_,rfl,_,rfl,Int.le_trans (by decide) (Zh _),Int.lt_of_le_of_lt (show((2^gv.length:Nat):Int)<=4 by exact_mod_cast p4) (by decide),?_⟩;refine qjO (λ j=>(List.range j).map λ N=>V.bl (i.testBit N)) rfl (λ j hj=>?_) ?_ ?_
  ·rw[U7,Z8];rw[ens] at hj;exact zh (by omega)
  ·intro j Hb D Y Z hj hD tR sL hY hZ;rw[ens] at hj;refine⟨⟨rfl,rfl⟩,?_⟩;refine⟨_,rfl,_,rfl,j,(by show [V.int (0+(j:Int))]=[V.int (j:Int)];rw[Q7]),by omega,λ Hc gc=>?_⟩;refine⟨_,_,rfl,rfl,qne (by omega),_,_,rfl,rfl,(show(0:Int)<2 by decide),rfl,?_⟩;refine hY _ _ (gc _ _ tR) (sL.trans gc) ?_;show List.map _ (List.range (j+1))=_
   rw[Ji,Jg,List.map_singleton];congr 2
   rw[Xb];refine congrArg V.bl (U3.mpr ?_);rw[V.int.injEq,Q7];constructor
   ·intro h;exact_mod_cast h
   ·intro h;exact_mod_cast h
  intro D Hb hD sL tR;rw[ens] at tR;refine⟨D,qbJ gv.length i,gv,rfl,SqL.of (by rw[tR];unfold qbJ;rw[Q4];rfl),qf5 _ _,rv,by omega,λ rf Hc gc ec=>?_⟩;have oF:=On.formOf rv (qbJ gv.length i);obtain⟨lF,lp'⟩:=okl oF;have lt:=(zF (formOf gv (qbJ gv.length i))).text_len;have nn:=qeW lF lp';have wn:=(zF (formOf gv (qbJ gv.length i))).wt_nodes;have sof:(zF (formOf gv (qbJ gv.length i))).Of gv:=qiZ oF.mem;have ea:=((ga.trans sL).trans gc) _ _ e49;generalize hF:formOf gv (qbJ gv.length i)=FF at *;refine⟨_,rfl,_,rfl,_,rfl,_,rfl,_,rfl,_,_,rfl,rfl,?_,_,rfl,rf,FF,rfl,ec,by omega,λ p hp=>⟨Qx (lp' p hp) (by decide),λ c hc=>wV c (oF.mem p hp c hc)⟩,λ Hd gd=>⟨_,_,rfl,rfl,?_,?_⟩⟩
  ·rw[qu,qu];exact qp (by show 1+3<=_;decide)
  ·rw[zv,qu,qu];exact qp (by rw[Zj];show 1+3+_<=_;omega)
  rw[zv,zv];have ed:=gd _ _ ea;refine⟨qp (by show 1<=_;decide),λ l1 S8=>?_⟩;refine⟨rt,l1,_,_,rfl,rfl,(qg.up S8) _ _ ed,qc,by rw[U7];exact qp (by show xs.length+1<=_;omega),λ l2 L7=>?_⟩;refine λ x dx hx C8 C7=>?_
  have wL:∀ z∈xs++[((.letter g:Tr),zF FF)],SOk (gv++gp) z:=λ z hz=>by
   rcases U5.mp hz with hz|hz
   ·exact ok z hz
   ·rw[Zq.mp hz];exact⟨cF,sof.sub λ c hc=>U5.mpr (.inl (sof.has hc)),by show(1:Int)<=19;decide,nn⟩
  have oS:∀ z∈xs++[((.letter g:Tr),zF FF)],z.1.Of (gv++gp)/\z.2.Of (gv++gp):=λ z hz=>⟨(wL z hz).1,(wL z hz).2.1⟩
  refine⟨x,dx,l2,gv,gp,(xs++[((.letter g:Tr),zF FF)]).map asW,rfl,qc,SqL.of (by rw[vv];exact mk hx C8 (by rw[qc,Jg];rfl)),O4,S2,by rw[U7,Zj];show xs.length+1<=_;omega,λ y hy=>?_,λ b1 b2 b3 wH He be nb1 nb2 cP=>⟨rfl,?_⟩⟩
  ·obtain⟨z,hz,rfl⟩:=Q3.mp hy;exact qcd (wL z hz)
  have ge:=qbH hx C8 be;refine⟨x,gv,gp,(xs++[((.letter g:Tr),zF FF)]).map asW,dx,b1,b2,b3,wH,rfl,cP,⟨O4,S2,qbk oS⟩,λ Hf gf=>?_⟩;rw[k5 oS];refine⟨_,_,rfl,rfl,?_⟩;refine⟨some (.int (0+(i:Int))),some (.ref rf),sH,?_,((((((ga.trans sL).trans gc).trans gd).to S8).to L7).trans ge).trans gf⟩;rw[<- hF];rfl
 ·rintro σ Ha ⟨v9,uR,sH,rfl,ga⟩;rw[en,qhf rv,hmany];refine⟨_,rfl,_,rfl,rfl,_,rfl,?_⟩;rw[show(!decide (V.int many=V.int many))=false by rw[Qc rfl];rfl];refine yM ?_;have ea:=ga _ _ e49;refine⟨_,rfl,_,rfl,_,rfl,_,_,rfl,rfl,?_,_,rfl,_,_,rfl,rfl,?_,?_⟩
  ·rw[qu,qu];exact qp (by show 1+2<=_;decide)
  ·rw[zv,qu,qu];exact qp (by show 3+1<=_;decide)
  rw[zv,zv];refine⟨qp (by show 1<=_;decide),λ l1 S8=>⟨_,rfl,l1,rt,_,_,rfl,rfl,qc,(qg.up S8) _ _ ea,by rw[U7];exact qp (by show 1+xs.length<=_;omega),λ l2 L7=>?_⟩⟩;refine λ x dx hx C8 C7=>?_
  have okg:SOk (gv++gp) ((.letter g:Tr),(.letter g:Tr)):=⟨cF,cF,by show(1:Int)<=19;decide,by show(1:Int)<=19;decide⟩;have oR:∀ z∈((.letter g:Tr),(.letter g:Tr))::xs,z.1.Of (gv++gp)/\z.2.Of (gv++gp):=λ z hz=>by
   rcases Qh.mp hz with rfl|hz
   ·exact⟨cF,cF⟩
   ·exact tK z hz
  refine⟨x,dx,l2,gv,gp,⟨0,1,0,0,.letter g,.letter g⟩::xs.map asW,rfl,qc,SqL.of (by rw[Qi,vv];exact mk hx C8 (by rw[qc];rfl)),O4,S2,by rw[Uo,U7];omega,λ y hy=>?_,λ b1 b2 b3 wH He be nb1 nb2 cP=>⟨rfl,?_⟩⟩
  ·rcases Qh.mp hy with rfl | hy
   ·exact⟨⟨Vd _,by show 1<=100;decide,Vd _,Vd _⟩,cF,cF,by show(1:Int)<=20;decide,by show(1:Int)<=20;decide⟩
   ·obtain⟨z,hz,rfl⟩:=Q3.mp hy;exact qcd (ok z hz)
  have ge:=qbH hx C8 be;refine⟨x,gv,gp,⟨0,1,0,0,.letter g,.letter g⟩::xs.map asW,dx,b1,b2,b3,wH,rfl,cP,⟨O4,S2,qbk oR⟩,λ Hf gf=>?_⟩;have e2:yq ((List.range (2^gv.length)).map (yb gv gp (qS (((⟨0,1,0,0,.letter g,.letter g⟩:Wsh)::xs.map asW).map Wsh.side))))=many:=by
   rw[<- hmany,show((⟨0,1,0,0,.letter g,.letter g⟩:Wsh)::xs.map asW).map Wsh.side=((((.letter g:Tr),(.letter g:Tr))::xs).map asW).map Wsh.side from rfl,k5 oR];exact congrArg yq (Za λ N _=>qi3 gv gp xs _ N)
  rw[e2];refine⟨_,rfl,_,rfl,rfl,_,rfl,?_⟩;rw[V2 (Qc rfl)];have ef:=((((qg.up S8).to L7).trans ge).trans gf) _ _ ea;refine⟨_,rfl,_,rfl,_,rfl,qp (by show 1<=_;decide),λ l3 tL=>?_⟩;refine⟨rt,l3,_,_,rfl,rfl,(qg.up tL) _ _ ef,qc,by rw[U7];exact qp (by show xs.length+1<=_;omega),λ l4 hl4=>?_⟩;refine λ x' dx' p8 hdx' hne'=>?_
  have oQ:∀ z∈xs++[((.one:Tr),(.zero:Tr))],z.1.Of (gv++gp)/\z.2.Of (gv++gp):=λ z hz=>by
   rcases U5.mp hz with hz|hz
   ·exact tK z hz
   ·rw[Zq.mp hz];exact⟨trivial,trivial⟩
  have es:((xs.map asW++[(⟨0,0,1,0,.one,.zero⟩:Wsh)]).map Wsh.side)=((xs++[((.one:Tr),(.zero:Tr))]).map asW).map Wsh.side:=by
   rw[Jg,Jg,Jg];rfl
  refine⟨x',dx',l4,gv,gp,xs.map asW++[⟨0,0,1,0,.one,.zero⟩],rfl,qc,SqL.of (by rw[Jg,vv];exact mk p8 hdx' (by rw[qc];rfl)),O4,S2,by rw[Zj,U7];show xs.length+1<=_;omega,λ y hy=>?_,λ c1 c2 c3 wG Hg bg nc1 nc2 uW=>⟨rfl,?_⟩⟩
  ·rcases U5.mp hy with hy | hy
   ·obtain⟨z,hz,rfl⟩:=Q3.mp hy;exact qcd (ok z hz)
   ·rw[Zq.mp hy];exact⟨⟨Vd _,Vd _,by show 1<=100;decide,Vd _⟩,trivial,trivial,by show(1:Int)<=20;decide,by show(1:Int)<=20;decide⟩
  refine⟨x',gv,gp,xs.map asW++[⟨0,0,1,0,.one,.zero⟩],dx',c1,c2,c3,wG,rfl,uW,⟨O4,S2,by rw[es];exact qbk oQ⟩,λ Hh gh=>?_⟩;rw[es,k5 oQ,qi5];exact⟨rfl,q Hh⟩
end
def NI(K:W.Frag)(n:Str)(a:Addr):Prop:=W.nsIn K mainGlobals n=some (some (.ref a))
theorem all_mk{l:W.OpenLaw}{w:World}{K:W.Frag}{h:Heap}{mg:Str->Option Value}{fa al f1 f2 f3 f4 f5 f6 f7 f8 f9 f10 f11 f12 f13 f14 f15 f16 f17 f18 f19 f20 f21 f22 f23 f24 f25 f26 f27 f28 f29 f30 f31 f32 f33 f34 f35 f36 f37 f38 gH fZ gB fY gG fX gC rC rA rB pZ bK rK rF rG rE rJ rD rH E7 bQ P9 E6 o8 o4 i7 u7 A7 u5 R8 R9 lP u6 c0:Addr}(X:K.In h)(G:h.Ns mainGlobals mg)(hfa:mg "law"=some (.ref fa)){tka T9 T8 V4 aK gS G7 L3 :Tok}{na :Nat}{oda:Option Addr}{sla:Array (Option Value)}{d1 d2 d3 d4 d5 d6 d7 d8 d9 d10 d11 d12 d13 d14 d15 d16 d17 d18 d19 d20 d21 d22 d23 d24 d25 d26 d27 d28 d29 d30 d31 d32 d33 d34 d35 d36 d37 d38 lK lE lH lD lJ lC lI uE uC uD uB mT uL uH uI uG uK uF uJ bW rQ lL M0 u3 r6 l7:FuncData}(a1:NI K "added" f1)(a2:NI K "multiplied" f2)(a3:NI K "joined" f3)(a4:NI K "opposite" f4)(a5:NI K "letters_of" f5)(a6:NI K "worth" f6)(a7:NI K "row_of" f7)(a8:NI K "row_count" f8)(a9:NI K "table_of" f9)(a10:NI K "form_of" f10)(a11:NI K "products_over" f11)(a12:NI K "summed" f12)(a13:NI K "how_many" f13)(a14:NI K "read" f14)(a15:NI K "signs_behind" f15)(a16:NI K "taken" f16)(a17:NI K "with_nots" f17)(a18:NI K "pair_of" f18)(a19:NI K "single_of" f19)(a20:NI K "is_row" f20)(a21:NI K "wish_read" f21)(a22:NI K "refuse_strange" f22)(a23:NI K "fault_of" f23)(a24:NI K sB1 f24)(a25:NI K sC7 f25)(a26:NI K sB9 f26)(a27:NI K sB8 f27)(a28:NI K sA6 f28)(a29:NI K sC5 f29)(a30:NI K sC1 f30)(a31:NI K sA9 f31)(a32:NI K sB7 f32)(a33:NI K sC2 f33)(a34:NI K sC3 f34)(a35:NI K sB2 f35)(a36:NI K sB6 f36)(a37:NI K sC6 f37)(a38:NI K "law" f38)(cV:NI K "Always" u7)(gZ:NI K "Never" A7)(cS:NI K "Letter" u5)(wT:NI K "Not" R8)(wU:NI K "And" R9)(nOr:NI K "Or" lP)(cU:NI K "Either" u6)(nM:NI K "Task" c0)(aal:NI K "ALWAYS" al)(lal:K.lookup al=some ⟨.type "tuple",oda,.seq #[.str "" tka] na,sla⟩)(R4:W.nsIn K mainGlobals "LETTERS"=some (some (.str "abcpqrxyz" T9)))(R3:W.nsIn K mainGlobals "OPENING"=some (some (.str "~(" T8)))(R5:W.nsIn K mainGlobals "BETWEEN"=some (some (.str "&|+" V4)))(W8:W.nsIn K mainGlobals "GIVENS"=some (some (.str "abc" aK)))(eQ:W.nsIn K mainGlobals "GAPS"=some (some (.str "xyz" gS)))(F0:W.nsIn K mainGlobals "MOST_WISHES"=some (some (.int 6 G7)))(K4:W.nsIn K mainGlobals "MOST_PARTS"=some (some (.int 20 L3)))(z1:W.nsIn K mainGlobals "len"=some none)(z2:W.nsIn K mainGlobals "list"=some none)(z3:W.nsIn K mainGlobals "sorted"=some none)(z4:W.nsIn K mainGlobals "set"=some none)(z5:W.nsIn K mainGlobals "tuple"=some none)(z6:W.nsIn K mainGlobals "dict"=some none)(z7:W.nsIn K mainGlobals "zip"=some none)(z8:W.nsIn K mainGlobals "reversed"=some none)(z9:W.nsIn K mainGlobals "range"=some none)(z10:W.nsIn K mainGlobals "enumerate"=some none)(z11:W.nsIn K mainGlobals "all"=some none)(z12:W.nsIn K mainGlobals "min"=some none)(z13:W.nsIn K mainGlobals "max"=some none)(z14:W.nsIn K mainGlobals "isinstance"=some none)(z15:W.nsIn K mainGlobals "str"=some none)(z16:W.nsIn K mainGlobals "bool"=some none)(z17:W.nsIn K mainGlobals "int"=some none)(A0:W.findIn K (.ref c0) "text"=some none)(C:CTxt K ⟨u7,A7,u5,R8,R9,lP,u6⟩ E7 bQ P9)(Mt:MTxt K ⟨u7,A7,u5,R8,R9,lP,u6⟩ "text" gH fZ gB fY gG fX gC)(Ms:MTxt K ⟨u7,A7,u5,R8,R9,lP,u6⟩ "size" rC rA rB pZ bK bK bK)(Mf:FTxt K ⟨u7,A7,u5,R8,R9,lP,u6⟩ rK rF rG rE rJ rD rH)(B9:Mk K c0 E6)(c4:TaskC K c0)(A4:Meth K c0 "does" o8)(x0:Meth K c0 "doing" o4)(p6:Meth K c0 "doing_at" i7)(F1:Fun K "added" "added" qeH f1 d1)(F2:Fun K "multiplied" "multiplied" j9 f2 d2)(F3:Fun K "joined" "joined" qc4 f3 d3)(F4:Fun K "opposite" "opposite" qau f4 d4)(F5:Fun K "letters_of" "letters_of" vc f5 d5)(F6:Fun K "worth" "worth" qeI f6 d6)(F7:Fun K "row_of" "row_of" qc5 f7 d7)(F8:Fun K "row_count" "row_count" vY f8 d8)(F9:Fun K "table_of" "table_of" qav f9 d9)(F10:Fun K "form_of" "form_of" qbx f10 d10)(F11:Fun K "products_over" "products_over" yV f11 d11)(F12:Fun K "summed" "summed" qa9 f12 d12)(F13:Fun K "how_many" "how_many" qaw f13 d13)(F14:Fun K "read" "read" qgH f14 d14)(F15:Fun K "signs_behind" "signs_behind" jn f15 d15)(F16:Fun K "taken" "taken" qeJ f16 d16)(F17:Fun K "with_nots" "with_nots" v0 f17 d17)(F18:Fun K "pair_of" "pair_of" qby f18 d18)(F19:Fun K "single_of" "single_of" v1 f19 d19)(F20:Fun K "is_row" "is_row" qc6 f20 d20)(F21:Fun K "wish_read" "wish_read" kg f21 d21)(F22:Fun K "refuse_strange" "refuse_strange" yu f22 d22)(F23:Fun K "fault_of" "fault_of" qay f23 d23)(F24:Fun K sB1 sB1 ki f24 d24)(F25:Fun K sC7 sC7 qbz f25 d25)(F26:Fun K sB9 sB9 qaz f26 d26)(F27:Fun K sB8 sB8 vm f27 d27)(F28:Fun K sA6 sA6 yI f28 d28)(F29:Fun K sC5 sC5 qaA f29 d29)(F30:Fun K sC1 sC1 kn f30 d30)(F31:Fun K sA9 sA9 ja f31 d31)(F32:Fun K sB7 sB7 kq f32 d32)(F33:Fun K sC2 sC2 kr f33 d33)(F34:Fun K sC3 sC3 ku f34 d34)(F35:Fun K sB2 sB2 yw f35 d35)(F36:Fun K sB6 sB6 jF f36 d36)(F37:Fun K sC6 sC6 qaB f37 d37)(F38:Fun K "law" "law" qdV f38 d38)(FtA:Fun K "text" "Always.text" yA gH lK)(FtN:Fun K "text" "Never.text" y7 fZ lE)(FtL:Fun K "text" "Letter.text" yD gB lH)(FtO:Fun K "text" "Not.text" vd fY lD)(FtD:Fun K "text" "And.text" vh gG lJ)(FtR:Fun K "text" "Or.text" kU fX lC)(FtE:Fun K "text" "Either.text" yG gC lI)(FsA:Fun K "size" "Always.size" yB rC uE)(FsN:Fun K "size" "Never.size" y8 rA uC)(FsL:Fun K "size" "Letter.size" yE rB uD)(FsO:Fun K "size" "Not.size" ve pZ uB)(FsP:Fun K "size" "Pair.size" jy bK mT)(FfA:Fun K "form" "Always.form" yC rK uL)(FfN:Fun K "form" "Never.form" y9 rF uH)(FfL:Fun K "form" "Letter.form" yF rG uI)(FfO:Fun K "form" "Not.form" vg rE uG)(FfD:Fun K "form" "And.form" vi rJ uK)(FfR:Fun K "form" "Or.form" kW rD uF)(FfE:Fun K "form" "Either.form" yH rH uJ)(FiLetter:Fun K "__init__" "Letter.__init__" jE E7 bW)(FiNot:Fun K "__init__" "Not.__init__" qax bQ rQ)(FiPair:Fun K "__init__" "Pair.__init__" vZ P9 lL)(FiTask:Fun K "__init__" "Task.__init__" kc E6 M0)(FTask_does:Fun K "does" "Task.does" kf o8 u3)(FTask_doing:Fun K "doing" "Task.doing" vj o4 r6)(FTask_doing_at:Fun K "doing_at" "Task.doing_at" yW i7 l7): ∃ fd:FuncData,(∀(s:Shared)(v:Value),BindsTo s fd ⟨[v],[]⟩ [(sA0,v)])/\∀ base:Heap,K.In base->base.Ns mainGlobals mg->FnOk l.prog w K mg base CX0 37 fa fd [sA0] (qhZ K):=by
 have e:=hfa.symm.trans (Vy X G a38);cases e
 have T:Txt mg:=⟨Q8 X G z1,Q8 X G z2,Q8 X G z3,Q8 X G z4,Q8 X G z5,Q8 X G z6,Q8 X G z7,Q8 X G z8,Q8 X G z9,Q8 X G z10,Q8 X G z11,Q8 X G z12,Q8 X G z13,Q8 X G z14,Q8 X G z15,Q8 X G z16⟩;have u0:=Q8 X G z17;have b1:=F1.binds (ps:=["one","other"]);have b2:=F2.binds (ps:=["one","other"]);have b3:=F3.binds (ps:=["one","other"]);have b4:=F4.binds (ps:=["form"]);have b5:=F5.binds (ps:=["form"]);have b6:=F6.binds (ps:=["form","row"]);have b7:=F7.binds (ps:=["letters","number"]);have b8:=F8.binds (ps:=["letters"]);have b9:=F9.binds (ps:=["form","letters"]);have b10:=F10.binds (ps:=["letters","table"]);have b11:=F11.binds (ps:=["letters"]);have b12:=F12.binds (ps:=["truths"]);have b13:=F13.binds (ps:=["task"]);have b14:=F14.binds (ps:=["text"]);have b15:=F15.binds (ps:=["opened","ended"]);have b16:=F16.binds (ps:=["opened","ended","sign"]);have b17:=F17.binds (ps:=["opened","saying"]);have b18:=F18.binds (ps:=["sign","one","other"]);have b19:=F19.binds (ps:=["sign"]);have b20:=F20.binds (ps:=["text","letters"]);have b21:=F21.binds (ps:=["wish","letters"]);have b22:=F22.binds (ps:=["text","letters"]);have b23:=F23.binds (ps:=["sides"]);have uM:=F24.binds (ps:=[sA0,sB0]);have b25:=F25.binds (ps:=["_law_n"]);have b26:=F26.binds (ps:=[sA5,sA2]);have b27:=F27.binds (ps:=[sA0,"_law_at",sB5,sA2]);have b28:=F28.binds (ps:=[sA4]);have b29:=F29.binds (ps:=[sA2]);have b30:=F30.binds (ps:=[sA5,sA1]);have b31:=F31.binds (ps:=[sA4,sA3]);have b32:=F32.binds (ps:=[sA0,sA1,sB4]);have b33:=F33.binds (ps:=[sA0]);have b34:=F34.binds (ps:=[sA7]);have b35:=F35.binds (ps:=[sA1,sA8]);have b36:=F36.binds (ps:=[sA1,sC4]);have b37:=F37.binds (ps:=[sC0]);have eY:=FtA.binds (ps:=["self"]);have eU:=FtN.binds (ps:=["self"]);have eV:=FtL.binds (ps:=["self"]);have eS:=FtO.binds (ps:=["self"]);have eX:=FtD.binds (ps:=["self"]);have eR:=FtR.binds (ps:=["self"]);have eW:=FtE.binds (ps:=["self"]);have rW:=FsA.binds (ps:=["self"]);have rT:=FsN.binds (ps:=["self"]);have rV:=FsL.binds (ps:=["self"]);have rS:=FsO.binds (ps:=["self"]);have mW:=FsP.binds (ps:=["self"]);have sE:=FfA.binds (ps:=["self"]);have sA:=FfN.binds (ps:=["self"]);have sB:=FfL.binds (ps:=["self"]);have rZ:=FfO.binds (ps:=["self"]);have sD:=FfD.binds (ps:=["self"]);have rY:=FfR.binds (ps:=["self"]);have sC:=FfE.binds (ps:=["self"]);have bX:=FiLetter.binds (ps:=["self","letter"]);have rX:=FiNot.binds (ps:=["self","one"]);have lN:=FiPair.binds (ps:=["self","one","other"]);have B8:=FiTask.binds (ps:=["self","givens","gaps","wishes"]);have A3:=FTask_does.binds (ps:=["self","given_row","gap_row"]);have w9:=FTask_doing.binds (ps:=["self"]);have p5:=FTask_doing_at.binds (ps:=["self","given_row"]);have m1:=Vy X G a1;have m2:=Vy X G a2;have m3:=Vy X G a3;have m4:=Vy X G a4;have m5:=Vy X G a5;have m6:=Vy X G a6;have m7:=Vy X G a7;have m8:=Vy X G a8;have m9:=Vy X G a9;have m10:=Vy X G a10;have m11:=Vy X G a11;have xA:=Vy X G a12;have m13:=Vy X G a13;have m14:=Vy X G a14;have m15:=Vy X G a15;have m16:=Vy X G a16;have m17:=Vy X G a17;have m18:=Vy X G a18;have m19:=Vy X G a19;have m20:=Vy X G a20;have m21:=Vy X G a21;have m22:=Vy X G a22;have m23:=Vy X G a23;have sW:=Vy X G a24;have m25:=Vy X G a25;have m26:=Vy X G a26;have m27:=Vy X G a27;have m28:=Vy X G a28;have m29:=Vy X G a29;have m30:=Vy X G a30;have m31:=Vy X G a31;have m32:=Vy X G a32;have m33:=Vy X G a33;have m34:=Vy X G a34
 have m35:=Vy X G a35;have m36:=Vy X G a36;have m37:=Vy X G a37;have m38:=Vy X G a38;have aP:=Vy X G cV;have cX:=Vy X G gZ;have aN:=Vy X G cS;have nQ:=Vy X G wT;have nR:=Vy X G wU;have wZ:=Vy X G nOr;have aO:=Vy X G cU;have iB:=Vy X G nM;let ca:CA:=⟨u7,A7,u5,R8,R9,lP,u6⟩
 have nc:NotC ca c0:=⟨(λ e=>by have h:=Mt.always.1;rw[<- show c0=u7 from e] at h;rw[A0] at h;cases h),(λ e=>by have h:=Mt.never.1;rw[<- show c0=A7 from e] at h;rw[A0] at h;cases h),(λ e=>by have h:=Mt.letter.1;rw[<- show c0=u5 from e] at h;rw[A0] at h;cases h),(λ e=>by have h:=Mt.not.1;rw[<- show c0=R8 from e] at h;rw[A0] at h;cases h),(λ e=>by have h:=Mt.and.1;rw[<- show c0=R9 from e] at h;rw[A0] at h;cases h),(λ e=>by have h:=Mt.or.1;rw[<- show c0=lP from e] at h;rw[A0] at h;cases h),(λ e=>by have h:=Mt.either.1;rw[<- show c0=u6 from e] at h;rw[A0] at h;cases h)⟩;obtain⟨oc,od,kV,doc,pm,an,cdv,ct,osl,rfl,lk,aF⟩:=F38.ex;refine⟨W.fnOf "law" "law" (qaK qdV) (jT qdV) (qi qdV) .none kV doc pm an cdv ct,λ s v=>.of_eq rfl,λ base _ _=>?_⟩;have K6:=Vy X G R4;have K5:=Vy X G R3;have K7:=Vy X G R5;have aM:=Vy X G W8;have hW:=Vy X G eQ;have G8:=Vy X G F0;have L4:=Vy X G K4;have wY:=Vy X G aal;have hal:∀ H,SqT K H al (([[]]:List Pr).map vS):=λ H=>.inr ⟨_,_,_,lal,rfl,rfl,qp (by show 1<=_;decide),.cons ⟨tka,by rw[show("":Str)=qj [] by decide +kernel]⟩ .nil⟩
 have Gp:FnOk l.prog w K mg base CX0 1 f11 _ ["letters"] qb8:=qj7 F11 T;have T6:=qdW (P:=l.prog) (w:=w) (base:=base) F12 T b12 xA 10;have Gle:FnOk l.prog w K mg base CX0 1 f5 _ ["form"] (qbA K):=qgK F5 T;have Gt:=qj9 F9 T ⟨Gp,b11,F11.kp,m11⟩ ⟨T6,b12,F12.kp,xA⟩;have Gfo:=qly F10 T ⟨Gp,b11,F11.kp,m11⟩ ⟨T6,b12,F12.kp,xA⟩;have GA:FnOk l.prog w K mg base CX0 1 f1 _ ["one","other"] (qgL K added):=qkd F1 T;have GM:=qlz F2 T ⟨Gle,b5,F5.kp,m5⟩ ⟨Gt,b9,F9.kp,m9⟩ ⟨Gfo,b10,F10.kp,m10⟩;have GJ:=qiD F3 ⟨GA,b1,F1.kp,m1⟩ ⟨GM,b2,F2.kp,m2⟩;have GOp:=qmU F4 wY hal ⟨GA,b1,F1.kp,m1⟩;have NN:FFn l.prog w K mg base f1 f2 f3 f4 _ _ _ _:=⟨GA,b1,F1.kp,m1,GM,b2,F2.kp,m2,GJ,b3,F3.kp,m3,GOp,b4,F4.kp,m4⟩;have GiL:FnOk l.prog w K mg base CX0 1 E7 _ ["self","letter"] (k4 K "letter"):=qkl FiLetter;have GiN:FnOk l.prog w K mg base CX0 1 bQ _ ["self","one"] (k4 K "one"):=qkm FiNot;have GiP:FnOk l.prog w K mg base CX0 1 P9 _ ["self","one","other"] (qeM K "one" "other"):=qkn FiPair;have Gsn:=qnZ F19 C aP cX aN GiL bX;have Gpr:=qn0 F18 C nR wZ aO GiP lN;have Gwn:=qn2 F17 T C nQ GiN rX;have Gsb:=qn4 (P:=l.prog) (w:=w) (mg:=mg) (base:=base) (c:=ca) F15 T K6 K5 K7;have Gtk:=qn6 F16 K5 K7 ⟨Gwn,b17,F17.kp,m17⟩ ⟨Gpr,b18,F18.kp,m18⟩ ⟨Gsn,b19,F19.kp,m19⟩;have Grd:=qn8 F14 T ⟨Gsb,b15,F15.kp,m15⟩ ⟨Gtk,b16,F16.kp,m16⟩;have Vt:=qfP (P:=l.prog) (w:=w) (mg:=mg) (base:=base) C Mt eY eU eV eS eX eR eW FtA FtN FtL FtO FtD FtR FtE 21;have Vs:=qfQ (P:=l.prog) (w:=w) (mg:=mg) (base:=base) C Ms rW rT rV rS mW FsA FsN FsL FsO FsP 21;have GF:=qkv (P:=l.prog) (w:=w) (mg:=mg) (base:=base) C Mf NN sE sA sB rZ sD rY sC FfA FfN FfL FfO FfD FfR FfE 21;have Gir:=qkD (P:=l.prog) (w:=w) (mg:=mg) (base:=base) F20 T;have Gref:=qm1 (P:=l.prog) (w:=w) (mg:=mg) (base:=base) F22 K6;have Gwr:=qoa F21 C L4 Mt Vt Ms Vs eY eU eV eS eX eR eW rW rT rV rS mW ⟨Grd,b14,F14.kp,m14⟩ ⟨Gref,b22,F22.kp,m22⟩;have Gfa:=qoc F23 ⟨GA,b1,F1.kp,m1⟩ ⟨GJ,b3,F3.kp,m3⟩;have K8:=iB;have C4:=qlL FiTask T C c4.cls nc c4.n1 c4.n2 c4.n3 c4.n4 c4.n5 aM hW G8 Mt Vt Mf GF eY eU eV eS eX eR eW sE sA sB rZ sD rY sC ⟨Gir,b20,F20.kp,m20⟩ ⟨Gwr,b21,F21.kp,m21⟩ ⟨Gfa,b23,F23.kp,m23⟩;have bY:=Gp;have gM:=Gle;have mX:=Gt;have sG:=Gfo;have aA0:=GA;have gK:=GM;have uN:=GJ;have mY:=GOp;have D9:FnOk l.prog w K mg base CX0 1 f7 _ ["letters","number"] (qg4):=qlU F7 T;have R7:FnOk l.prog w K mg base CX0 1 f6 _ ["form","row"] (qdc K):=qiV F6 T;have A6:=qlV FTask_does T ⟨D9,b7,F7.kp,m7⟩ ⟨R7,b6,F6.kp,m6⟩ c4;have n8:FnOk l.prog w K mg base CX0 1 f8 _ ["letters"] (qcc):=qkN F8 T;have p7:=qg6 FTask_doing_at T ⟨n8,b8,F8.kp,m8⟩ c4 A4 A6 A3;have x3:=qkQ FTask_doing T ⟨n8,b8,F8.kp,m8⟩ c4 p6 p7 p5
 have o6:FnOk l.prog w K mg base CX0 5 f13 _ ["task"] (qkS c0):=qm6 F13 T c4 x0 x3 w9;have i6:FnOk l.prog w K mg base CX0 1 f24 _ [sA0,sB0] (jL K):=qkE F24 T;have G0:FnOk l.prog w K mg base CX0 1 f25 _ ["_law_n"] (qkW):=qnd F25 T;have B3:FnOk l.prog w K mg base CX0 1 f26 _ [sA5,sA2] (qeQ):=qlO F26 T;have x5:FnOk l.prog w K mg base CX0 2 f27 _ [sA0,"_law_at",sB5,sA2] (qkF K):=qm3 F27 T ⟨i6,uM,F24.kp,sW⟩ ⟨B3,b26,F26.kp,m26⟩;have u4:=qda (P:=l.prog) (w:=w) (base:=base) F28 T b28 m28 20;have M4:FnOk l.prog w K mg base CX0 1 f29 _ [sA2] (qeS):=qkH F29 T;have G2:FnOk l.prog w K mg base CX0 2 f30 _ [sA5,sA1] (qeT):=qkI F30 T ⟨B3,b26,F26.kp,m26⟩;have C3:=qd1 (P:=l.prog) (w:=w) (base:=base) F31 T b31 m31 20;have t7:FnOk l.prog w K mg base CX0 21 f32 _ [sA0,sA1,sB4] (qcb K):=qiS F32 T ⟨i6,uM,F24.kp,sW⟩ ⟨G2,b30,F30.kp,m30⟩ ⟨x5,b27,F27.kp,m27⟩ ⟨C3,b31,F31.kp,m31⟩;have G3:FnOk l.prog w K mg base CX0 22 f33 _ [sA0] (qeU K):=qkM F33 T ⟨i6,uM,F24.kp,sW⟩ ⟨t7,b32,F32.kp,m32⟩;have G1:FnOk l.prog w K mg base CX0 21 f34 _ [sA7] (qdb):=qiU F34 T ⟨u4,b28,F28.kp,m28⟩;have t4:FnOk l.prog w K mg base CX0 1 f35 _ [sA1,sA8] (qkT):=qm8 F35 T;have A5:FnOk l.prog w K mg base CX0 2 f36 _ [sA1,sC4] (qkV K):=qna F36 T u0 ⟨M4,b29,F29.kp,m29⟩ ⟨t4,b35,F35.kp,m35⟩;have M3:FnOk l.prog w K mg base CX0 1 f37 _ [sC0] (qhd):=qlW F37 T u0;exact qnf F38 T u0 ⟨G3,b33,F33.kp,m33⟩ ⟨t7,b32,F32.kp,m32⟩ ⟨G1,b34,F34.kp,m34⟩ ⟨o6,b13,F13.kp,m13⟩ ⟨i6,uM,F24.kp,sW⟩ ⟨G0,b25,F25.kp,m25⟩ ⟨A5,b36,F36.kp,m36⟩ ⟨M3,b37,F37.kp,m37⟩ c4 B9 C4 B8 K8
theorem walk{l:W.OpenLaw}{q:Program}{K9:List Str}{XP:(Str->Option Value)->Heap->Prop}{YP:World->Heap->Prop}{d:DefRec}{K:Params->W.Frag}(hn:l.most=some 63)(pG:d.params.defaults=[])(hY:∀(w:World)(h:Heap),YP w h->(K w.params).In h)(F:∀(w:World)(mg:Str->Option Value)(fa:Addr)(h:Heap),(K w.params).In h->h.Ns mainGlobals mg->mg d.name=some (.ref fa) ->
   ∃ fd:FuncData,(∀(s:Shared)(u:Value),BindsTo s fd ⟨[u],[]⟩ [(sA0,u)])/\∀ base:Heap,(K w.params).In base->base.Ns mainGlobals mg->FnOk l.prog w (K w.params) mg base CX0 37 fa fd [sA0] (qhZ (K w.params))):
  PySem.W.WalkO q K9 XP YP l.row.toRowW d [] (λ f vs=>PySem.call f vs):=
 L2.walk_of (n:=63) (k:=37) (x:=sA0) (CX:=λ _=>CX0) (sp:=λ w=>qhZ (K w.params)) hn (by decide) pG ⟨rfl,by decide,by decide⟩ hY F (λ _ _ a ns hl _ hS=>⟨a,ns,rfl,hS,hl,λ _=>rfl⟩) λ _ _ _ _ _ z=>z
end Law
open PySem PySem.W PyProof.Rows
structure PySem.W.Fast:Prop where (tw12907281033213277026 tw4949639655047323772 tw18441701454214943047 tw14053129921388752382 tw9828751945530581084 tw791236225404040540 tw12154288025940060091 tw6019582846728719292 tw9894989627972698466 tw14750114002887115140 tw417216988190967851 tw16668650601801018454 tw14294450617934034296 tw14778784191663412155 tw10034494230173807036 tw2989340257026009621 tw5699450559358173876 tw5064671904442853985 tw5949206008549627908 tw12902064478802114136 tw9918859288102358862 tw11133203122513556065 tw13461604666101251063 tw14496334656217851464 tw6250385559734785325 tw4220819501145234136 tw1717263453735118346 tw5292107830490548906 tw4893589348743173798 tw12486604890716349129 tw13079406295927294372 tw753190256229440028 tw6915943696697566021 tw1855998960697946108 tw14453803078798321046 tw2284070931195880062 tw2743520428837222952 tw17392801404950034627 tw8345673248791002285 tw5822436461379523801 tw10089424880259674379 tw16202585465234358895 tw5062564830012724527 tw13534584651281412903 tw11257089416878504294 tw5040232911123269028 tw15530664792070346130 tw11970814605478061737 tw11006430081324472366 tw9739372279438372042 tw3294075207872575922 tw1888502039533642054 tw9987907796730493117 tw18186172036243704432 tw11338489219585410471 tw1402987748418917452 tw1155203684642482184 tw6725938339590793236 tw7909674616694484722 tw2137689195582149927 tw7240843410486763403 tw11970469463653744210 tw7942262108008791366 tw5567031062215791629 tw7882830812168140965 tw5115883583242663300 tw13745566073625650807 tw2246412782109636459 tw1690555681228327113 tw5296365731182048487 tw12404080800592474857 tw6423831634973601719 tw1825026699029456173 tw17706576755847634469 tw15571486976312624115 tw11959265064535161284 tw8534514199016742183 tw1383525106639610475 tw13495943034214097045 tw14185772532591782971 tw17867870887162139524 tw9046674851614940234 tw7897360299750298567 tw12317710445748387440 tw8746524785694444714 tw17321385114659033871 tw16693789247641066312 tw7917679689266229899 tw8181956871707747296 tw15222031243535993148 tw15592111748459695196 tw15177066026360147366 tw5030284462035055127 tw17892427614847126227 tw4371109200857108817 tw479634070863845445 tw15057259199070625266 tw8720341803513057740 tw14164836893636710452 tw8306372677263889284 tw10991683382325556818 tw2848148818370230609 tw10615493235824918554 tw1398524416504701242 tw9635261715770009945 tw13600404591340344200 tw61069828122599801 tw17529497097549606192 tw13541201998596699767 tw7685297691707971912 tw13334181318122221457 tw4740769132253694807 tw1102869613452726702 tw15556755709688347432 tw1687276929636596123 tw5425202411570204436 tw1238134538764972475 tw7650640552201046552 tw14535100358216688124 tw11416518765420894724 tw13103440479789372435 tw16668845040389951028 tw8550441250860503218 tw17585905633767123549 tw49607951012927632 tw14398248463262241674 tw16659494428409942758 tw7957612255298794603 tw10716260820634634348 tw6909683411678185332 tw6914381038487887908 tw2497570375308495669 tw10553684490962813354 tw14415041779643698971 tw9489557770766117611 tw1065065468305331072 tw5486523196991681993 tw11856157767049045027 tw9627032359869174012 tw13122829399325553244 tw18284480398893104955 tw9514178559351725764 tw9873556245431432159 tw12468686777454921716 tw11199229077971566965 tw16003008067966658292 tw8633926562268978120 tw5457024131326771197 tw2841206584182819569 tw9850578451830592451 tw15301836420274045956 tw10848734978744931069 tw1943510876155315707 tw15452639346374333697 tw2848395746785254358 tw13665994205044948070 tw110377040204475163 tw88509656445226808 tw734886181651766406 tw8345292176845588434 tw8055536332607758638 tw4988251255915842473 tw16702796969534322912 tw7539793122110979644 tw1706007387023303333 tw12703268005070207693 tw10599672950465767299 tw5293616790329794609 tw11385957154376741401 tw16717156265486671038 tw15827361893620054322 tw9689009410430661575 tw5080545054852797418 tw6332092958523940858 tw14747180019342169207 tw4750675105875283166 tw9862621198689550073 tw1308999998581526569 tw8365392662042620065 tw2773812649600691419 tw16890332986989260245 tw10429803736602907737 tw11081888617802930974 tw4240953589645460766 tw12290203518602991445 tw16596217574911314419 tw17956487066501901320 tw10588660198741693410 tw2903775005870973790 tw11198818368848122707 tw5496458688283077864 tw6011141287567158768 tw5290396563921778535 tw4723734201789372509 tw12146935092828414942 tw3807468422025779845 tw9767178279542303001 tw15202003716297085754 tw9649282744971924528 tw17666618498304364244 tw2915584126636320283 tw4608105969023797846 tw10020495666763293371 tw16926419206781081391 tw14508620665112780550 tw7759051823944407726 tw10987295513141259105 tw17427080831451956722 tw12505951072237073169 tw6628696105640216357 tw12490129554743954275 tw4755166133993366495 tw15170406846090283959 tw10364268867755316325 tw5738976671730053378 tw13626288265686592609 tw6202118033637013047 tw14954944806541521478 tw6483685760595323720 tw10430510790081028148 tw10581162147551847858 tw15907569228232026268 tw16122033005200104695 tw7951689744535821905 tw18381311558045672108 tw15698493522618534521 tw17613175537877360275 tw14488505778388616243 tw11171649340500434386 tw16225717037403876356 tw1335635001394049267 tw10661451705698916645 tw6725190643539263361 tw796389458314393855 tw10002079889204266503 tw6469727575864728341 tw10231543299181603 tw1792481263078860972 tw16775036659822416240 tw10765665739717531 tw13773391183205176071 tw1897169017517677190 tw10937863953319445625 tw129763601379544406 tw17010400911426955228 tw18319609005839608774 tw1395622995063925015 tw6195598645560014371 tw6017701321212517100 tw17821445849397932248 tw10085919985361832378 tw8176638466570526633 tw11983452773946394403 tw7392016746537649474 tw6601713505905748600 tw8242133575236621472 tw16364605472265108839 tw8555068167819286757 tw18001861183436079782 tw17694185802682760171 tw2126231747906737103 tw17447417490783809487 tw15663934394443497879 tw8559983457090757133 tw3669820992505262861 tw13687478576263941315 tw13326152533607057257 tw1618132092920157043 tw14708612112236758060 tw2389827461809034954 tw8169894664568077736 tw7456308759882734196 tw2467164784673468826 tw6576392154160883936 tw4227617455320950237 tw2381619481096956213 tw2809931448774159966 tw5225549009688904607 tw14656111757432049900 tw7331239195882678650 tw8498508815607120603 tw2465432233504131474 tw1036917965331402555 tw17728877921107238016 tw13059850353210368268 tw12664611726396036138 tw7507078448511194886 tw8280937234445677048 tw3557679743371566 tw16579496163892510816 tw8658402802886962446 tw16045571483255461740 tw1279576200828873275 tw12083368380354247255 tw10314619965195662802 tw9841259642124879253 tw8835638874132771745 tw5607696485928235290 tw16055850552191567037 tw14378838681475874195 tw13210949214527555699 tw1112960484590502286 tw10026259811038417196 tw1859934217996035333 tw18136160999074196167 tw16905647788328873531 tw15232002029965315184 tw13555661573852690635 tw12012508763947376054 tw11229107905705011047 tw18105584971611539036 tw14136155811401608727 tw6969895323374471054 tw5372934807070648933 tw14259021286508610041 tw11589653645616143147 tw1014436328680071383 tw5975428514763304754 tw11240995662566302530 tw6120496619276480129 tw15506059978153203162 tw8477796901910181372 tw17176393732875048790 tw1601911958995543420 tw1048919864031376512 tw910196250145524661 tw902730637497039318 tw17974731275570377878 tw13497157356339897150 tw2102932823932168207 tw14283563036782139705 tw8987304392070295629 tw16941258239491620573 tw2018050877512654769 tw17623164911680212638 tw17665732892287009735 tw16882542851111430553 tw8692598394844788276 tw597982408154069568 tw6148661460319676187 tw4848924705338589248 tw17442773762431109709 tw14458383357873059056 tw15098382503315125793 tw4964020342786239975 tw16959815151317058853 tw1103223350241861298 tw1002360817948686156 tw9777528096827958628 tw12119746017178204632 tw12016765100365819913 tw9087058840722480630 tw9109965530749307881 tw7075156607632166304 tw5755705430312649635 tw4081345726391497220 tw2430646085856778393 tw13645955454545897168 tw26951793399578024 tw15590929370511694680 tw6776801028113159330 tw1229539141332577984 tw8332062421269793805 tw7102613883883488198 tw3694486383710444707 tw13677757684503014306 tw9142085501751636629 tw9573070592520119838 tw6166948425017819413 tw11176281906062935456 tw6364960394507052397 tw16498510790617760348 tw5718986399017714012 tw8734474029383454070 tw12150452919331702719 tw6675809126383106320 tw5981341453424388459 tw11732856733272380440 tw8929796342727052796 tw16487856768658786980 tw5934051547986703632 tw16833556878826569964 tw15868107580028980361 tw1256573184905177773 tw11938903075361085861 tw17509774355703271728 tw13624034572320549706 tw11133340378776684372 tw312749299495516685 tw11635557929956421513 tw12779128794441662172 tw2801029970512078125 tw6091623493387449442 tw514942737686492289 tw17948234529342722140 tw3615308896168598270 tw10494184996554052714 tw15367137190169941439 tw4841183668816352730 tw13639124488058440037 tw5715267795828948063 tw5256229602385453164 tw6735473642710504427 tw12020749094490277120 tw12282020132946626576 tw18113987173069878037 tw7202574373797016588 tw2683899853526310913 tw16322959815847106244 tw15409981067880227719 tw12334479991397150130 tw4966229314901695705 tw7382403017974169948 tw106637425271430456 tw18173880870662928394 tw9282976837517015345 tw628590505277103458 tw8666803675094939208 tw6343879761586747927 tw336082292421089201 tw14429943064068797782 tw5178590145250649905 tw14356522684667567914 tw11860165346248868102 tw15180735311560401671 tw6850249573858025135 tw1523288995597010885 tw919840423456872077 tw10742127837280511143 tw761972983553189484 tw6825596821337473246 tw4784382696147163541 tw4723649890902024026 tw3061170484599128787 tw11631953356173217587 tw2231116910000811829 tw9249602779730105382 tw8626757619289205524 tw8137505641082218832 tw5824385376660308034 tw575030279336090489 tw15905367685183752770 tw15810972677155573601 tw13279045097791764103 tw12694963100706391321 tw4945459448870263167 tw7534389126601153907 tw1036323610113395711 tw2768642474293245269 tw7632556544783277077 tw378184605132242706 tw14906430993749134921 tw3741876972285370209 tw16844159859644887908 tw1204506212458383788 tw7541155752751522979 tw7173630714318237126 tw4108303152345299038 tw1591141744675969956 tw1588862084744266734 tw1317893157237404366 tw10854001510776639028 tw9354926672293186728 tw617263521496468940 tw4398879582176152065 tw6900619521498943783 tw10291559697488048626 tw12632112793317889863 tw9477509004558863233 tw13971076323955874540 tw16595803433774732477 tw4520666174974145268 tw4670622085918525044 tw14331247640457261426 tw7463627815068058349 tw17840806033872241155 tw9704050324625174053 tw9523913203051525015 tw9385543132429387233 tw8244260210183916407 tw7830250854810801717 tw7646899527471410347 tw716476073742513820 tw5993559058179658255 tw5126822396010424629 tw459642575357491313 tw4009200668295896082 tw2489828937471773775 tw2146092059389182331 tw18039767795609903434 tw17968261534132891429 tw17311223728984301244 tw16357007615530258721 tw15748610223946209583 tw15415062329964072669 tw15271546863018341999 tw1480891870694563908 tw14503667123406144123 tw13994822074492682587 tw13581726809718863095 tw12642167488168146429 tw12427726486243864048 tw12271026986959721167 tw12101319420400074389 tw11362645440876055783 tw10673970223632015760 tw10483421783621313413 tw10455620563632226512 tw17916239238746339348 tw11454598281923841307 tw13117719203626714153 tw1966944699883915903 tw988082487834696042 tw8901062095615428588 tw8192245616283361821 tw7396239686282839097 tw4524915829826978094 tw4472341966422973258 tw4146665570512623146 tw3896360050730186243 tw2030319289408784431 tw1921735212658956868 tw1824699212045669631 tw18097936089135700435 tw13897650695939770650 tw13447362461390644616 tw11444944282202499722 tw11390344426461690948 tw9283658687784744011 tw9180488841134012496 tw9152531495933529818 tw8872626376778129271 tw5100883639802997350 tw4115641991468536838 tw3056910123701422928 tw240246023374086577 tw2351418065358055091 tw17723784709488400218 tw16655355293172577809 tw15136547123521110979 tw14912730804389272168 tw12328507670833118755 tw1134630960439281658 tw10680904494337736680 tw5088237923502740679 tw8729007354387876861 tw6673147233485119847 tw6615092055163156858 tw2351109570179082206 tw1843600059716628063 tw17846053880810255256 tw16450983259408215203 tw14977634032939275649 tw1479051431738909526 tw14627104849484594646 tw12377994316406146962 tw11988857647176617539 tw10518033409479934665 tw9892658926466272939 tw8589844952380321358 tw8237227603829982425 tw7285751498372562743 tw7236063419281515157 tw3980323866461071480 tw3115746930609040588 tw17147549170563507816 tw14818868801954244501 tw13182836981027095367 tw12746079797182296215 tw12636459033045525043 tw12253400183387725211 tw11594118933599205487 tw11468217292544135010 tw10846492744173750081 tw9994392697941414055 tw9969394871949201453 tw9966528095109640850 tw9943258397542566497 tw958678458227025618 tw9572833516972838791 tw947290859588502061 tw94672725490395694 tw9466580660725769554 tw9447915413096882266 tw9409538764838362563 tw9323148398609670129 tw929792590691064385 tw9217908936451953229 tw9176376668917298394 tw917404667982076443 tw9151013686911936459 tw9111853728886092910 tw9061166721996929453 tw9051045859063295441 tw9043649026952059775 tw9012755514591042634 tw8959608059309656214 tw8914018281666922774 tw8904020878000875797 tw8898724746146065891 tw8891840586082180926 tw8743703429022518726 tw8613408338439041357 tw8587634749476576238 tw8549942039294130832 tw8523364553979280946 tw8430657754906589762 tw8067886482217784677 tw7910147199727930587 tw7701438147056087973 tw7639799804390775406 tw7578555896833919349 tw7519469216886077372 tw7455245618947830087 tw7330318528871905407 tw7302925751151322872 tw7283255640832918135 tw7094817685780110690 tw7077755458932261906 tw7041163419291093190 tw6896034314207162663 tw6793264525822291565 tw674992930071028178 tw657068166284297440 tw6444006510900654055 tw6148216255670083930 tw6137515665738365559 tw6109585444190964431 tw5803226086226223620 tw562559691443388933 tw5589775255798360626 tw550444552063742512 tw5229816266963681306 tw5156160928926846654 tw5095284143883843937 tw504941527222774331 tw504239817834869810 tw5030270883257590622 tw4979497731543360366 tw4885060014698501675 tw4866922071432512365 tw4731461872190307313 tw4719094125022724859 tw4646970104686536429 tw4554266380330703060 tw4518717968306591559 tw4504565159402796569 tw4500086939898853340 tw4372173458242668579 tw4368825507632360741 tw4243514205685651632 tw4209774312357205051 tw4040060190601018903 tw4039004671742411874 tw4026936784271895334 tw3728230586060901357 tw372351974883569537 tw3507461419932280258 tw3500511220437725127 tw3345202220714017465 tw332363338349391403 tw3245904396406902867 tw3230942606687775902 tw3163269154008460270 tw3068042984075408447 tw3055047053301391748 tw3051045405549774416 tw3025697973432150500 tw2991641657143196555 tw2925245534459934660 tw2750560220782316680 tw2717736934058552703 tw2632384531101704298 tw2395504662794803553 tw2378973744392461706 tw212574289030792778 tw2042054725734109693 tw2027188257518038015 tw2022196134002837215 tw1959954328805489334 tw1914492685181867900 tw1891495093256909224 tw18299488421813102713 tw18149892922672475781 tw18033435089521754246 tw17942451515618193773 tw17929336026804327524 tw17840085092446246428 tw17493954852482952045 tw17447050798901684916 tw17321183958287793221 tw17314751121489010602 tw17230174215834568748 tw17219525275722418181 tw17195769314606989176 tw17137688388548417217 tw17037783952202227161 tw16854845351844837352 tw16793393400206183819 tw16670266126041810532 tw16479596401527451206 tw16327750944204848000 tw16313572357636779317 tw16285551185064793979 tw16265018423071516334 tw1622381667724639440 tw1618879559561374067 tw16069638474515248717 tw15999223311486769702 tw1592403497789671272 tw15611432214865068241 tw15582345038103527731 tw15457348684369265131 tw15125516582471722224 tw14975228516777581434 tw14956288797568459431 tw14913576640139228177 tw14507084050360235903 tw14467558551569262772 tw14293880002229520215 tw14056864715539697032 tw14052768499444719378 tw13557748202589805148 tw13553035578585198158 tw13253931697516429280 tw13195894903478977412 tw13116105346278450190 tw13103094962907608644 tw12929068235923684207 tw1279947411770724725 tw12778870597490324339 tw1274252784633917367 tw1252842735277427820 tw12324114239426654138 tw12193206684434218680 tw12147982550485082068 tw12127472498745886635 tw11909679150681068389 tw11785794929133917772 tw11784202942273378270 tw11752161264410807251 tw11701639950745962814 tw11626356185759161906 tw11579001051007620491 tw11315905970805034933 tw11248089441231767522 tw11168305372750681628 tw11100150749594675484 tw11071356165648216779 tw10973290574601580748 tw1094696495103430598 tw10828401780207965460 tw10813282309001545602 tw10749915894267070952 tw10703579217262905084 tw10641063777710826986 tw10588571004228599356 tw10549775060353932728 tw10500721861062342375 tw1041871757014740082 tw10314067437977210296 tw10258138970790518530:True)
set_option maxRecDepth 100000 in
set_option maxHeartbeats 0 in
theorem PySem.Challenge.cw_fillsay_k76_whole_counts_add_up_holds : PySem.Challenge.rw_fillsay_k76_whole_counts_add_up.Holds := by
 w_on;o_law;k_head;(case hw=>w_witness2)
 k_fill
 refine Law.walk (l:=PySem.Challenge.rw_fillsay_k76_whole_counts_add_up) rfl rfl (λ w h Y=>W.kIn_of Y) ?F
 case F =>
  intro w mg fa h KX G oV;refine' Law.all_mk KX G oV ..
  any_goals first|k_is|(unfold Law.NI;k_is)
  any_goals first|(refine' ⟨⟨?_,?_,?_,?_⟩,⟨?_,?_,?_,?_⟩,⟨?_,?_,?_,?_⟩,⟨?_,?_,?_,?_⟩,⟨?_,?_,?_,?_⟩,⟨?_,?_,?_,?_⟩,⟨?_,?_,?_,?_⟩,⟨?_,?_,?_⟩,⟨?_,?_,?_⟩,⟨?_,?_,?_,?_⟩,⟨?_,?_,?_,?_⟩,⟨?_,?_,?_,?_⟩,⟨?_,?_,?_,?_⟩,⟨?_,?_,?_,?_⟩,?_,?_,⟨?_,?_⟩,⟨?_,?_⟩,⟨?_,?_⟩⟩ <;> (try dsimp only[L2.NoAttr]) <;> try k_is)|(refine' ⟨⟨?_,?_,?_⟩,⟨?_,?_,?_⟩,⟨?_,?_,?_⟩,⟨?_,?_,?_⟩,⟨?_,?_,?_⟩,⟨?_,?_,?_⟩,⟨?_,?_,?_⟩⟩ <;> (try dsimp only[L2.NoAttr]) <;> try k_is)|(refine' ⟨⟨?_,?_,?_,?_⟩,?_,?_,?_,?_,?_⟩ <;> (try dsimp only[L2.NoAttr]) <;> try k_is)|(refine' ⟨?_,?_,?_,?_⟩ <;> try k_is)|(refine' ⟨?_,?_,?_⟩ <;> try k_is)|skip
  any_goals first|(refine' L2.fun_mk ?_ ?_ ?_ <;> try k_is)|skip
