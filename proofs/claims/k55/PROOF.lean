import PyProof.Rows.All
import Wide.All
import OpenK.AllK
import Wide.FinOn
import Lean
import PyProof.EqAt
import PyProof.EqKinds
import PyProof.TupleCall
import PyProof.FactsAll.set_1
import PyProof.FactsAll.set_2
import PyProof.Rows.Range3
import PyProof.AttrMissSeq
import KE.KDictOf
import PyProof.CompUse
import PyProof.Rows.RegReprOcc
import PyProof.FactsAll.list_4
import KE.KItemsList
import KE.KEqDict
import PyProof.Rows.SortRunsK
import PyProof.Rows.SortStr
import PyProof.Draws
import PyProof.EnumMake
import PyProof.SliceStr2
import PyProof.SliceList
import PyProof.DictWalks
import PyProof.SumWalkG
import PyProof.SeqI3
import PyProof.FactsAll.str_6
import PyProof.FactsAll.str_7
import PyProof.StrCalls
import PyProof.MeetsStr
import PyProof.DictItems
import PyProof.DictItemsLoops
import PyProof.DictUpdate
import KE.KPairComp
import PySem.Challenge.RW_fillsay_k55_whole_gaps_in_turn
noncomputable section
local macro_rules|`(tactic|omega)=>`(tactic|lia)
set_option Elab.async false
set_option linter.all false
set_option maxRecDepth 100000
set_option maxHeartbeats 4000000
abbrev Xa:=@List.take_succ_eq_append_getElem
abbrev Xb:=@List.take_append_of_le_length
abbrev Xc:=@List.drop_append_of_le_length
abbrev Xd:=@List.eq_nil_of_length_eq_zero
abbrev Xe:=@PyProof.Rows.callWith_type1
abbrev Xf:=@Array.getD_eq_getD_getElem?
abbrev Xg:=@List.perm_append_comm_assoc
abbrev Xh:=@List.getElem?_append_right
abbrev Xi:=@List.perm_ext_iff_of_nodup
abbrev Xj:=@List.getD_eq_getElem?_getD
abbrev Xk:=@List.length_eraseIdx_of_lt
abbrev Xl:=@Nat.testBit_two_pow_add_gt
abbrev Xm:=@Nat.testBit_two_pow_add_eq
abbrev Xn:=@List.getElem?_eq_some_iff
abbrev Xo:=@List.getElem?_append_left
abbrev Xp:=@Classical.byContradiction
abbrev Xq:=@Array.getElem?_eq_getElem
abbrev Xr:=@PySem.Calls.call_function_entry
abbrev Xs:=@List.extract_eq_take_drop
abbrev Xt:=@List.drop_eq_getElem_cons
abbrev Xu:=@List.pairwise_iff_getElem
abbrev Xv:=@Option.isSome_iff_exists
abbrev Xw:=@List.getElem?_take_of_lt
abbrev Xx:=@PySem.F.args_tuple_add_2
abbrev Xy:=@List.getElem?_eq_getElem
abbrev Xz:=@List.filterMap_cons_some
abbrev X0:=@List.filterMap_cons_none
abbrev X1:=@PySem.F.slot_list_append
abbrev X2:=@PySem.F.type_list_append
abbrev X3:=@List.eq_of_mem_replicate
abbrev X4:=@PySem.wpAny_comprehension_free
abbrev X5:=@List.getElem?_replicate
abbrev X6:=@PySem.F.plainAttrs_dict
abbrev X7:=@PySem.F.entry_tuple_add
abbrev X8:=@List.eraseIdx_cons_succ
abbrev X9:=@List.filter_cons_of_pos
abbrev XA:=@List.filter_cons_of_neg
abbrev XB:=@PyProof.Rows.F.plain_set_update_loop
abbrev XC:=@Nat.add_sub_cancel_left
abbrev XD:=@List.length_eq_zero_iff
abbrev XE:=@PySem.F.plainAttrs_list
abbrev XF:=@PySem.wpAny_callSpecial?_slot
abbrev XG:=@PySem.Heap.get?_push_of_some
abbrev XH:=@PySem.Calls.callWith_builtin
abbrev XI:=@PySem.F.slot_tuple_add
abbrev XJ:=@PySem.Heap.get?_update_other
abbrev XL:=@List.take_of_length_le
abbrev XM:=@List.drop_of_length_le
abbrev XN:=@Nat.testBit_lt_two_pow
abbrev XO:=@PySem.F.plainAttrs_str
abbrev XQ:=@Nat.le_of_succ_le_succ
abbrev XR:=@PySem.codeAny_compStart_list
abbrev XS:=@List.mem_append_right
abbrev XT:=@List.length_replicate
abbrev XU:=@PySem.F.slot_dict_get
abbrev XV:=@PySem.Heap.get?_update_self
abbrev XW:=@List.length_singleton
abbrev XX:=@Array.getElem?_toList
abbrev XY:=@List.contains_iff_mem
abbrev XZ:=@List.take_append_drop
abbrev Ya:=@List.filterMap_append
abbrev Yb:=@List.getElem?_eq_none
abbrev Yc:=@List.getElem?_zipWith
abbrev Yd:=@List.length_filter_le
abbrev Ye:=@PySem.F.slot_str_join
abbrev Yf:=@PySem.F.type_str_join
abbrev Yg:=@PySem.F.slot_list_pop
abbrev Yh:=@PySem.F.type_list_pop
abbrev Yi:=@PySem.builtinLookup_eq_fast
abbrev Yj:=@List.mem_cons_of_mem
abbrev Yk:=@List.mem_append_left
abbrev Yl:=@List.mem_of_getElem?
abbrev Ym:=@PySem.Around.under_plainId
abbrev Yn:=@Array.toList_extract
abbrev Yo:=@List.pairwise_append
abbrev Yp:=@List.mem_of_mem_drop
abbrev Yq:=@List.mem_of_mem_take
abbrev Yr:=@Array.toList_reverse
abbrev Ys:=@Nat.pow_le_pow_right
abbrev Yt:=@List.dropLast_concat
abbrev Yu:=@List.filterMap_cons
abbrev Yv:=@Array.length_toList
abbrev Yw:=@PySem.Heap.get?_push_size
abbrev Yx:=@PySem.mem_of_lookup
abbrev Yy:=@List.replicate_succ
abbrev Yz:=@List.length_zipWith
abbrev Y0:=@List.getElem_of_mem
abbrev Y1:=@PySem.Heap.SameBut.update
abbrev Y2:=@Array.toList_append
abbrev Y4:=@List.reverse_append
abbrev Y5:=@List.length_reverse
abbrev Y6:=@List.map_congr_left
abbrev Y7:=@List.getElem?_range
abbrev Y8:=@beq_eq_false_iff_ne
abbrev Y9:=@PySem.wpAny_setEntries_of
abbrev Za:=@Nat.lt_of_lt_of_le
abbrev Zb:=@List.mem_cons_self
abbrev Zc:=@Bool.false_ne_true
abbrev Zd:=@Int.natCast_nonneg
abbrev Ze:=@List.length_append
abbrev Zf:=@Nat.lt_of_le_of_lt
abbrev Zg:=@List.pairwise_cons
abbrev Zh:=@List.filterMap_map
abbrev Zi:=@List.zip_cons_cons
abbrev Zj:=@Bool.false_eq_true
abbrev Zk:=@List.getElem?_drop
abbrev Zl:=@List.mem_singleton
abbrev Zm:=@Int.emod_lt_of_pos
abbrev Zn:=@List.map_inj_right
abbrev Zo:=@PySem.wpAny_Call_Name_kw
abbrev Zp:=@PySem.tupleKind_room_in1
abbrev Zq:=@of_decide_eq_false
abbrev Zr:=@decide_eq_true_iff
abbrev Zs:=@PySem.wpAny_setField_rec
abbrev Zt:=@List.getElem?_map
abbrev Zu:=@List.size_toArray
abbrev Zv:=@Int.toNat_natCast
abbrev Zw:=@List.flatten_cons
abbrev Zx:=@List.append_assoc
abbrev Zy:=@List.nodup_append
abbrev Zz:=@List.pairwise_map
abbrev Z0:=@Nat.lt_succ_of_lt
abbrev Z1:=@Array.toList_push
abbrev Z2:=@Bool.eq_false_iff
abbrev Z4:=@List.length_range
abbrev Z5:=@List.foldl_append
abbrev Z6:=@Nat.le_succ_of_le
abbrev Z7:=@PyProof.Rows.KeyOrd.kle_of_klt
abbrev Z8:=@List.getElem_take
abbrev Z9:=@PySem.wpAny_truthy_bool
abbrev Ua:=@PySem.wpAny_pyIter_list
abbrev Ub:=@PySem.wpAny_newObj_type
abbrev Uc:=@PySem.wpAny_pyIter_enum
abbrev Ud:=@PySem.wpAny_storeSet_of
abbrev Ue:=@PySem.fits_of_scanBound
abbrev Uf:=@PySem.wpAny_setState_of
abbrev Ug:=@bne_self_eq_false
abbrev Uh:=@PySem.wpAny_setEpoch_of
abbrev Ui:=@of_decide_eq_true
abbrev Uj:=@List.length_cons
abbrev Uk:=@Nat.lt_succ_self
abbrev Ul:=@List.length_take
abbrev Um:=@List.length_drop
abbrev Uo:=@Bool.and_eq_true
abbrev Up:=@List.all_eq_true
abbrev Uq:=@List.lookup_cons
abbrev Ur:=@Nat.succ_ne_self
abbrev Us:=@List.getElem_mem
abbrev Ut:=@List.take_length
abbrev Uu:=@PyProof.Rows.KeyOrd.kle_trans
abbrev Uv:=@List.cons_append
abbrev Uw:=@List.filter_cons
abbrev Ux:=@beq_self_eq_true
abbrev Uy:=@PySem.wpAny_askSetting
abbrev Uz:=@PySem.wpAny_isInstance
abbrev U0:=@PySem.wpAny_call_entry
abbrev U1:=@decide_eq_decide
abbrev U2:=@List.mem_filter
abbrev U3:=@List.mem_append
abbrev U4:=@Bool.eq_iff_iff
abbrev U5:=@List.length_map
abbrev U6:=@List.append_nil
abbrev U7:=@List.nodup_cons
abbrev U8:=@List.of_mem_zip
abbrev U9:=@List.find?_cons
abbrev Ja:=@List.foldl_cons
abbrev Jb:=@List.nil_append
abbrev Jc:=@List.zip_append
abbrev Jd:=@List.map_append
abbrev Je:=@Int.emod_nonneg
abbrev Jf:=@List.range_succ
abbrev Jg:=@PyProof.Rows.KeyOrd.kle_refl
abbrev Jh:=@Nat.min_eq_left
abbrev Ji:=@Nat.testBit_and
abbrev Jj:=@Nat.two_pow_pos
abbrev Jk:=@List.length_zip
abbrev Jl:=@PySem.PassesOwn.never
abbrev Jm:=@decide_eq_false
abbrev Jn:=@PySem.wpAny_execs_nil
abbrev Jo:=@PySem.wpAny_passesOwn
abbrev Jp:=@PySem.wpAny_specialOf
abbrev Jq:=@PySem.codeAny_builtin
abbrev Jr:=@PySem.typeLookup_type
abbrev Js:=@PySem.wpAny_ite_split
abbrev Jt:=@PySem.pushCells_keeps
abbrev Ju:=@List.mem_range
abbrev Jv:=@Bool.false_and
abbrev Jw:=@PySem.Heap.size_push
abbrev Jx:=@Bool.and_false
abbrev Jy:=@Bool.xor_assoc
abbrev Jz:=@List.Perm.refl
abbrev J0:=@List.drop_zero
abbrev J4:=@List.take_zero
abbrev J5:=@List.drop_drop
abbrev J6:=@List.take_left
abbrev J7:=@PySem.boot_len
abbrev J8:=@decide_eq_true
abbrev J9:=@PySem.isSubtype_type
abbrev Qa:=@PySem.entryFor_alias
abbrev Qb:=@PySem.wpAny_fieldsOf
abbrev Qc:=@Nat.lt_irrefl
abbrev Qd:=@List.mem_cons
abbrev Qe:=@List.map_cons
abbrev Qf:=@List.any_cons
abbrev Qg:=@Bool.false_or
abbrev Qh:=@Bool.or_false
abbrev Qi:=@List.all_cons
abbrev Qj:=@Bool.not_true
abbrev Qk:=@List.sum_cons
abbrev Ql:=@Nat.add_assoc
abbrev Qm:=@Nat.mul_assoc
abbrev Qn:=@PySem.wpAny_holding
abbrev Qo:=@PySem.wpAny_standAt
abbrev Qp:=@PySem.plainId_quiet
abbrev Qq:=@PySem.wpAny_attempt
abbrev Qr:=@PySem.wpAny_newList
abbrev Qs:=@PySem.Heap.lt_size
abbrev Qt:=@Nat.ne_of_lt
abbrev Qu:=@Nat.le_trans
abbrev Qv:=@Nat.le_of_lt
abbrev Qw:=@Nat.ne_of_gt
abbrev Qx:=@Nat.mul_comm
abbrev Qy:=@Nat.pow_succ
abbrev Qz:=@List.mem_map
abbrev Q0:=@Nat.min_self
abbrev Q1:=@List.map_map
abbrev Q2:=@Nat.zero_add
abbrev Q3:=@Nat.lt_or_ge
abbrev Q4:=@Int.zero_add
abbrev Q5:=@PySem.W.mg_none_of
abbrev Q6:=@PySem.codeAny_mono
abbrev Q7:=@PySem.wpAny_typeOf
abbrev Q8:=@PyProof.Rows.wpS_forRange
abbrev Q9:=@Nat.le_refl
abbrev Va:=@Nat.zero_le
abbrev Vb:=@Nat.le_succ
abbrev Vc:=@PySem.sizeLine_eq
abbrev Vd:=@PySem.wpAny_of_eq
abbrev Ve:=@PySem.wpAny_field
abbrev Vg:=@PySem.wpAny_mono
abbrev Vh:=@PySem.wpAny_bind
abbrev Vi:=@PySem.wpAny_pure
abbrev Vj:=@beq_iff_eq
abbrev Vk:=@PySem.typeIs_str
abbrev Vl:=@PySem.call_meets
abbrev Vm:=@PySem.wpAny_rule
abbrev Vn:=@PyProof.Rows.wpS_modify
abbrev Vo:=@if_false
abbrev Vp:=@PyProof.Rows.wpS_pure
abbrev Vq:=@PyProof.Rows.wpS_bind
abbrev Vr:=@PyProof.Rows.wpS_mono
abbrev Vu:=@Ne.symm
abbrev Vv:=@PySem.W.mg_of
abbrev Vw:=@if_true
abbrev Vx:=@PyProof.Rows.wpS_get
abbrev Vy:=@dif_pos
abbrev Vz:=@if_pos
abbrev V0:=@if_neg
namespace L2
open PySem PySem.Spec PyProof.Rows
noncomputable abbrev sA0:Str:="_law_letters_here"
noncomputable abbrev sA1:Str:="_law_script"
noncomputable abbrev sA2:Str:="_law_wishes_here"
noncomputable abbrev sA3:Str:="_law_row_here"
noncomputable abbrev sA4:Str:="_law_tree_here"
noncomputable abbrev sA5:Str:="_law_givens"
noncomputable abbrev sA6:Str:="_law_gaps"
noncomputable abbrev sA7:Str:="_law_many"
noncomputable abbrev sA8:Str:="_law_number"
noncomputable abbrev sA9:Str:="_law_truth"
noncomputable abbrev sB0:Str:="_law_mixed"
noncomputable abbrev sB1:Str:="_law_other"
noncomputable abbrev sB2:Str:="_law_text"
noncomputable abbrev sB3:Str:="_law_k"
noncomputable abbrev sB4:Str:="_law_cell"
noncomputable abbrev sB5:Str:="_law_fillable"
noncomputable abbrev sB6:Str:="_law_letters"
noncomputable abbrev sB7:Str:="_law_written"
noncomputable abbrev sB8:Str:="_law_failing"
noncomputable abbrev sB9:Str:="_law_doing"
noncomputable abbrev sC0:Str:="_law_wishes"
noncomputable abbrev sC1:Str:="_law_tree"
noncomputable abbrev sC2:Str:="_law_table"
noncomputable abbrev sC3:Str:="_law_one"
noncomputable abbrev sC4:Str:="_law_row"
noncomputable abbrev sC5:Str:="_law_leaf"
noncomputable abbrev sC6:Str:="_law_rows"
noncomputable abbrev sC7:Str:="_law_most"
noncomputable abbrev sC8:Str:="_law_form"
noncomputable abbrev sC9:Str:="_law_both"
noncomputable abbrev sD0:Str:="_law_at"
abbrev Key:=Sum Int Str
noncomputable def qc7:Key->Value->Bool
 |.inl k,v=>Value.isInt k v
 |.inr x,v=>Value.isStrOf x v
noncomputable def qql(w:World):Key->Int
 |.inl k=>hashInt k
 |.inr x=>hashStr w x
theorem zx:∀{k:Key}{v:Value},qc7 k v=true->(∃ i t,k=Sum.inl i/\v=Value.int i t)∨(∃ x t,k=Sum.inr x/\v=Value.str x t)
 |.inl i,v,h=>by
  obtain⟨t,e⟩:=Value.isInt_shape (k:=i) (v:=v) h;exact .inl ⟨i,t,rfl,e⟩
 |.inr x,v,h=>by
  obtain⟨t,e⟩:=Value.isStrOf_shape (x:=x) (v:=v) h;exact .inr ⟨x,t,rfl,e⟩
theorem qjl(i:Int)(t:Tok):qc7 (.inl i) (.int i t)=true:=by simp[qc7,Value.isInt]
theorem qjm(x:Str)(t:Tok):qc7 (.inr x) (.str x t)=true:=by simp[qc7,Value.isStrOf]
theorem qn0(a b:Int):decide ((Sum.inl a:Key)=Sum.inl b)=(a == b):=by
 by_cases e:a=b
 ·subst e;simp
 ·have h:¬ (Sum.inl a:Key)=Sum.inl b:=λ q=>e (Sum.inl.inj q)
  rw[Jm h];exact(Y8.mpr e).symm
theorem qn1(a b:Str):decide ((Sum.inr a:Key)=Sum.inr b)=decide (a=b):=by
 by_cases e:a=b
 ·subst e;simp
 ·have h:¬ (Sum.inr a:Key)=Sum.inr b:=λ q=>e (Sum.inr.inj q)
  rw[Jm h,Jm e]
theorem qn2(a:Int)(b:Str):decide ((Sum.inl a:Key)=Sum.inr b)=false:=Jm (λ q=>nomatch q)
theorem qn3(a:Str)(b:Int):decide ((Sum.inr a:Key)=Sum.inl b)=false:=Jm (λ q=>nomatch q)
noncomputable def qw(prog:Program)(w:World):PySem.KeyKind prog w Key where
 is:=qc7
 hash:=qql w
 inj:=λ v a b ha hb=>by
  rcases zx ha with⟨i,t,rfl,rfl⟩|⟨x,t,rfl,rfl⟩
  ·rcases zx hb with⟨j,u,rfl,e⟩ | ⟨y,u,rfl,e⟩
   ·injection e with e1 _;rw[e1]
   ·exact nomatch e
  ·rcases zx hb with⟨j,u,rfl,e⟩ | ⟨y,u,rfl,e⟩
   ·exact nomatch e
   ·injection e with e1 _;rw[e1]
 byValue:=λ k v h=>by
  rcases zx h with⟨i,t,rfl,rfl⟩|⟨x,t,rfl,rfl⟩ <;> rfl
 pyHash:=λ hv h=>by
  rcases zx hv with⟨i,t,rfl,rfl⟩|⟨x,t,rfl,rfl⟩
  ·exact wpAny_pyHash_int h
  ·exact wpAny_pyHash_str h
 eqBool:=λ hu hv h=>by
  rcases zx hu with⟨i,t,rfl,rfl⟩|⟨x,t,rfl,rfl⟩
  ·rcases zx hv with⟨j,u,rfl,rfl⟩ | ⟨y,u,rfl,rfl⟩
   ·rw[qn0] at h;exact wpAny_eqBool_int h
   ·rw[qn2] at h;exact SeqAt.EqAt.int_str i t y u _ _ _ _ h
  ·rcases zx hv with⟨j,u,rfl,rfl⟩ | ⟨y,u,rfl,rfl⟩
   ·rw[qn3] at h;exact SeqAt.EqAt.str_int x t j u _ _ _ _ h
   ·rw[qn1] at h;exact wpAny_eqBool_str h
 «strs»:=λ k x t v h=>by
  rcases zx h with⟨i,u,rfl,e⟩|⟨y,u,rfl,e⟩
  ·exact nomatch e
  ·injection e with e1 _
   subst e1;cases v <;> rfl
theorem qgj(prog:Program)(w:World)(i:Int)(t:Tok):(qw prog w).is (.inl i) (.int i t)=true:=qjl i t
theorem zm(prog:Program)(w:World)(x:Str)(t:Tok):(qw prog w).is (.inr x) (.str x t)=true:=qjm x t
inductive V where 
 |non|bl (b:Bool)|int (i:Int)|str (x:Str)|byt (b:Array UInt8)|flt (b:UInt64)|ref (a:Addr)|ty (n:String) deriving DecidableEq
def qV:V->Value->Prop
 |.non,u=>u=Value.none
 |.bl b,u=>u=Value.bool b
 |.int i,u=>∃ t,u=Value.int i t
 |.str x,u=>∃ t,u=Value.str x t
 |.byt b,u=>∃ t,u=Value.bytes b t
 |.flt b,u=>∃ t,u=Value.float b t
 |.ref a,u=>u=Value.ref a
 |.ty n,u=>u=Value.type n
abbrev qL:List V->List Value->Prop:=Paired qV
theorem qL.length(r:qL xs us):xs.length=us.length:=Paired.length r
theorem qL.get:∀{xs:List V}{us:List Value}{i:Nat}{x:V},qL xs us->xs[i]?=some x->∃ u,us[i]?=some u/\qV x u
 |_,_,_,_,.nil,e=>by simp at e
 |_,_,0,_,.cons r _,e=>by simp at e;subst e;exact⟨_,rfl,r⟩
 |_,_,i+1,x,.cons _ t,e=>by
  obtain⟨u,h1,h2⟩:=qL.get (i:=i) (x:=x) t (by simpa using e);exact⟨u,by simpa using h1,h2⟩
theorem qL.set(r:qV x u):∀{xs:List V}{us:List Value}(i:Nat),qL xs us->qL (xs.set i x) (us.set i u)
 |_,_,_,.nil=>.nil
 |_,_,0,.cons _ t=>.cons r t
 |_,_,i+1,.cons q t=>.cons q (qL.set r i t)
theorem qL.append:∀{xs ys:List V}{us ws:List Value},qL xs us->qL ys ws->qL (xs++ys) (us++ws)
 |_,_,_,_,.nil,s=>s
 |_,_,_,_,.cons r t,s=>.cons r (qL.append t s)
theorem qL.take:∀{xs:List V}{us:List Value}(n:Nat),qL xs us->qL (xs.take n) (us.take n)
 |_,_,0,_=>.nil
 |_,_,_+1,.nil=>.nil
 |_,_,n+1,.cons r t=>.cons r (qL.take n t)
theorem qL.drop:∀{xs:List V}{us:List Value}(n:Nat),qL xs us->qL (xs.drop n) (us.drop n)
 |_,_,0,r=>r
 |_,_,_+1,.nil=>.nil
 |_,_,n+1,.cons _ t=>qL.drop n t
def ki:Option V->Option Value->Prop
 |some v,some u=>qV v u
 |none,none=>True
 |_,_=>False
def KV{κ:Type}:List (κ×V)->List (κ×Value)->Prop:=Paired λ(p:κ×V)(q:κ×Value)=>p.1=q.1/\qV p.2 q.2
noncomputable def kV:Key->V
 |.inl i=>.int i
 |.inr x=>.str x
inductive HO where 
 
 |lst (xs:List V) 
 |tup (xs:List V) 
 |dK (kvs:List (Key×V))|dT (kvs:List (List Key×V)) 
 |set (S:Int->Bool) (n:Nat)
 
 |ins (C dx:Addr) (fs:List (Str×V))
 
 |own (x:Addr)
 
 |xd (fs:List (Str×V))
 
 |met (f x:Addr)
 
 |rng (lo hi:Int)
 
 |frz (o:Obj) (u:HO)
 
 |tbl (ps:Array Value)
 
 |ext (φ:Heap->Prop)
abbrev Hp:=Addr->Option HO
noncomputable def upd(H:Hp)(a:Addr)(o:HO):Hp:=λ b=>if b=a then some o else H b
theorem qc:upd H a o a=some o:=by unfold upd;rw[Vz rfl]
theorem qu(h:b≠a):upd H a o b=H b:=by unfold upd;rw[V0 h]
theorem qgk{H:Hp}(h:H a=some o)(h':H b=some u)(d:o≠u):a≠b:=by
 intro e;subst e;rw[h] at h';exact d (Option.some.inj h')
theorem zk{H:Hp}(h:H a=some o)(h':H b=none):a≠b:=by
 intro e;subst e;rw[h] at h';cases h'
section
variable (P:Program)(w:World)
def zI(H:Hp)(h:Heap)(a:Addr):HO->Prop
 | .lst xs=>xs.length<=sizeLine/\∃(its:List Value)(n:Nat),qL xs its/\h.get? a=some { cls:=.type "list",data:=.seq its.toArray n }
 |.tup xs=>xs.length<=sizeLine/\∃ its:List Value,qL xs its/\IsTup h a its.toArray
 |.dK kvs=>kvs.length<=sizeLine/\(a == sysModules)=false/\∃ vs,KV kvs vs/\h.DictOf (qw P w) a vs
 | .dT kvs=>kvs.length<=sizeLine/\(a == sysModules)=false/\∃ xs:List (List Key×Addr×Value),
   Paired (λ(p:List Key×V)(q:List Key×Addr×Value)=>p.1=q.1/\H q.2.1=some (.tup (p.1.map kV))/\qV p.2 q.2.2) kvs xs /\
   ∃ o es ep,h.get? a=some o/\o.ExactDict/\o.data=.dict es ep/\es.toList=xs.map (entryOfKey (tupleKind (qw P w)))/\(xs.map (·.1)).Nodup
 |.set S n=>h.SetOf (intKind P w) a S n
 | .ins C dx fs=>H dx=some (.own a)/\fs.length<=1000/\dx≠a/\h.get? a=some (W.instObj C dx) /\
   ∃ mA,h.Ns1 dx mA/\(∀ f,ki (fs.lookup f) (mA f))/\PySem.Within mA (fs.map (·.1))
 |.own _=>∃ o,h.get? a=some o
 |.xd fs=>∃ mA,h.Ns1 a mA/\∀ f,ki (fs.lookup f) (mA f)
 | .rng lo hi=>∃ t u v,h.get? a=some { cls:=.type "range",data:=.fields #[.int lo t,.int hi u,.int 1 v] }
 |.frz o u=>h.get? a=some o/\zI H h a u
 |.tbl ps=>h.get? a=some { cls:=.none,data:=.fields ps }
 |.met f x=>h.get? a=some (W.methodObj (.ref f) (.ref x))
 |.ext φ=>φ h/\(∃ o,h.get? a=some o)/\∀ h1 h2:Heap,φ h1->(∀ o,h1.get? a=some o->h2.get? a=some o)->φ h2
def HOk(H:Hp)(h:Heap):Prop:=∀ a o,H a=some o->zI P w H h a o
end
section
variable {P:Program}{w:World}{H H':Hp}{h h':Heap}{a:Addr}{o:HO}
theorem zI.lt(x:zI P w H h a o):a<h.objs.size:=by
 cases o with
 |lst xs=>obtain⟨_,_,_,_,e⟩:=x;exact Qs e
 |tup xs=>obtain⟨_,_,_,p⟩:=x;exact p.lt
 |dK kvs=>obtain⟨_,_,_,_,o,_,_,e,_⟩:=x;exact Qs e
 |dT kvs=>obtain⟨_,_,_,_,o,_,_,e,_⟩:=x;exact Qs e
 |set S n=>obtain⟨o,_,_,_,e,_⟩:=x;exact Qs e
 |ins C dx fs=>obtain⟨_,_,_,e,_⟩:=x;exact Qs e
 |own y=>obtain⟨_,e⟩:=x;exact Qs e
 |xd fs=>obtain⟨_,⟨_,_,_,e,_⟩,_⟩:=x;exact Qs e
 |rng lo hi=>obtain⟨_,_,_,e⟩:=x;exact Qs e
 |frz ob u=>obtain⟨e,_⟩:=x;exact Qs e
 |tbl ps=>exact Qs (show h.get? a=some _ from x)
 |met f y=>exact Qs (show h.get? a=some _ from x)
 |ext φ=>obtain⟨_,⟨_,e⟩,_⟩:=x;exact Qs e
theorem Paired.mapP:∀{l₁:List α}{l₂:List β},Paired F l₁ l₂->(∀ a b,F a b->G a b)->Paired G l₁ l₂
 |_,_,.nil,_=>.nil
 |_,_,.cons r t,f=>.cons (f _ _ r) (Paired.mapP t f)
theorem zI.stay(x:zI P w H h a o)(k:∀ b u,(b=a∨H b=some (.own a))->h.get? b=some u->h'.get? b=some u)(ho:∀ b,H b=some (.own a)->H' b=some (.own a))(ht:∀ b xs,H b=some (.tup xs)->H' b=some (.tup xs)):zI P w H' h' a o:=by
 induction o with
 |lst xs=>obtain⟨z,its,n,r,e⟩:=x;exact⟨z,its,n,r,k _ _ (.inl rfl) e⟩
 |tup xs=>obtain⟨z,its,r,ob,e,c⟩:=x;exact⟨z,its,r,ob,k _ _ (.inl rfl) e,c⟩
 |dK kvs=>obtain⟨z,y,vs,r,ob,es,ep,e,c⟩:=x;exact⟨z,y,vs,r,ob,es,ep,k _ _ (.inl rfl) e,c⟩
 |dT kvs =>
  obtain⟨z,y,xs,r,ob,es,ep,e,c⟩:=x;exact⟨z,y,xs,Paired.mapP r λ p q z=>⟨z.1,ht _ _ z.2.1,z.2.2⟩,ob,es,ep,k _ _ (.inl rfl) e,c⟩
 |set S n=>obtain⟨ob,es,ep,t,e,c⟩:=x;exact⟨ob,es,ep,t,k _ _ (.inl rfl) e,c⟩
 |ins C dx fs =>
  obtain⟨d,z,ne,e,mA,⟨od,es,ep,e2,c⟩,r⟩:=x;exact⟨ho _ d,z,ne,k _ _ (.inl rfl) e,mA,⟨od,es,ep,k _ _ (.inr d) e2,c⟩,r⟩
 |own y=>obtain⟨ob,e⟩:=x;exact⟨ob,k _ _ (.inl rfl) e⟩
 |xd fs=>obtain⟨mA,⟨od,es,ep,e,c⟩,r⟩:=x;exact⟨mA,⟨od,es,ep,k _ _ (.inl rfl) e,c⟩,r⟩
 |rng lo hi=>obtain⟨t,u,v,e⟩:=x;exact⟨t,u,v,k _ _ (.inl rfl) e⟩
 |frz ob u ih=>obtain⟨e,q⟩:=x;exact⟨k _ _ (.inl rfl) e,ih q⟩
 |tbl ps =>
  have e:h.get? a=some { cls:=.none,data:=.fields ps }:=x;show h'.get? a=some { cls:=.none,data:=.fields ps }
  exact k a _ (.inl rfl) e
 |met f y =>
  have e:h.get? a=some (W.methodObj (.ref f) (.ref y)):=x;show h'.get? a=some (W.methodObj (.ref f) (.ref y))
  exact k a _ (.inl rfl) e
 |ext φ=>obtain⟨p,⟨o,e⟩,st⟩:=x;exact⟨st _ _ p λ o q=>k _ _ (.inl rfl) q,⟨o,k _ _ (.inl rfl) e⟩,st⟩
theorem HOk.lt(x:HOk P w H h)(e:H a=some o):a<h.objs.size:=(x a o e).lt
theorem HOk.fresh(x:HOk P w H h)(e:h.objs.size<=a):H a=none:=by
 cases q:H a with
 |none=>rfl
 |some u=>exact absurd (Za (x.lt q) e) (Qc _)
theorem HOk.kept(x:HOk P w H h)(k:∀ b u,h.get? b=some u->h'.get? b=some u):HOk P w H h':=λ a o e =>
 (x a o e).stay (λ b u _ q=>k b u q) (λ _ q=>q) λ _ _ q=>q
theorem HOk.laid(x:HOk P w H h)(k:∀ b u,h.get? b=some u->h'.get? b=some u)(hp:h.objs.size<=a)(new:zI P w (upd H a o) h' a o):HOk P w (upd H a o) h':=λ b u e=>by
 have hn:=x.fresh hp;by_cases hb:b=a
 ·subst hb;rw[qc] at e;cases e;exact new
 ·rw[qu hb] at e;exact(x b u e).stay (λ c v _ q=>k c v q) (λ c q=>by rw[qu (zk q hn)];exact q) λ c xs q=>by rw[qu (zk q hn)];exact q
end
def Rd(H:Hp)(a:Addr)(u:HO):Prop:=H a=some u∨∃ o,H a=some (.frz o u)
theorem Rd.ok(r:Rd H a u)(x:HOk P w H h):zI P w H h a u:=by
 rcases r with r|⟨o,r⟩
 ·exact x a u r
 ·obtain⟨_,q⟩:=x a _ r;exact q
def Mut:Option HO->Prop
 |some (.lst _)=>True
 |some (.dK _)=>True
 |some (.dT _)=>True
 |some (.set _ _)=>True
 |some (.ins _ _ _)=>True
 |some (.ext _)=>True
 |_=>False
section
variable {P:Program}{w:World}{H:Hp}{h h':Heap}{x e:Addr}{o':HO}
theorem HOk.write(ok:HOk P w H h)(mu:Mut (H x))(he:e=x∨H e=some (.own x))(k:∀ b u,b≠e->h.get? b=some u->h'.get? b=some u)(cR:∃ u,h'.get? e=some u)(new:zI P w (upd H x o') h' x o'):HOk P w (upd H x o') h':=λ b u q=>by
 have sF:∀ c y,H c=some (.own y)->c≠x:=λ c y r z=>by subst z;rw[r] at mu;exact mu
 have ntup:∀ c xs,H c=some (.tup xs)->c≠x:=λ c xs r z=>by subst z;rw[r] at mu;exact mu
 by_cases hb:b=x
 ·subst hb;rw[qc] at q;cases q;exact new
 ·rw[qu hb] at q;by_cases hbe:b=e
  ·have q':H b=some (.own x):=by
    rcases he with z|z
    ·exact absurd (hbe.trans z) hb
    ·rw[hbe];exact z
   rw[q] at q';cases q';obtain⟨v,hv⟩:=cR;exact⟨v,by rw[hbe];exact hv⟩
  ·refine(ok b u q).stay (λ c v hc r=>k c v ?_ r) (λ c r=>by rw[qu (sF c b r)];exact r) λ c xs r=>by rw[qu (ntup c xs r)];exact r
   rcases hc with rfl|hc
   ·exact hbe
   ·rintro rfl;rcases he with z | z
    ·exact sF c b hc z
    ·rw[hc] at z;cases z;exact hb rfl
end
structure Un(fs ex:List Addr)(H H':Hp)(h h':Heap):Prop where
 keep:∀ b o,h.get? b=some o->H b=none->b∉fs->b∉ex->h'.get? b=some o
 slot:∀ b o,h.get? b=some o->H b=none->b∈fs->b∉ex->∃ sl,h'.get? b=some { o with slots:=sl }
 free:∀ b o,h.get? b=some o->H b=none->b∉ex->H' b=none
 there:∀ b o,h.get? b=some o->b∉ex->∃ o',h'.get? b=some o'
 tups:∀ b xs,H b=some (.tup xs)->H' b=some (.tup xs)
 frzs:∀ b o u,H b=some (.frz o u)->H' b=some (.frz o u)
 tbls:∀ b ps,H b=some (.tbl ps)->∃ more,H' b=some (.tbl (ps++more))
section
variable {fs bQ ex ex':List Addr}{H H1 H2:Hp}{h h1 h2 h':Heap}{a x e:Addr}{o:HO}
theorem Un.any(u:Un fs ex H H1 h h1)(q:h.get? b=some ob)(n:H b=none)(hx:b∉ex):∃ sl,h1.get? b=some { ob with slots:=sl }:=by
 by_cases hb:b∈fs
 ·exact u.slot b ob q n hb hx
 ·exact⟨ob.slots,u.keep b ob q n hb hx⟩
theorem Un.kept(k:∀ b u,h.get? b=some u->h'.get? b=some u):Un fs ex H H h h':=
 ⟨λ b ob q _ _ _=>k b ob q,λ b ob q _ _ _=>⟨ob.slots,k b ob q⟩,λ _ _ _ n _=>n,λ b ob q _=>⟨ob,k b ob q⟩,λ _ _ q=>q,λ _ _ _ q=>q,λ _ ps q=>⟨#[],by rw[q];simp⟩⟩
theorem Un.refl:Un fs ex H H h h:=Un.kept λ _ _ q=>q
theorem Un.laid(k:∀ b u,h.get? b=some u->h'.get? b=some u)(hp:h.objs.size<=a)(hn:H a=none):Un fs ex H (upd H a o) h h' where
 keep:=λ b u q _ _ _=>k b u q
 slot:=λ b u q _ _ _=>⟨u.slots,k b u q⟩
 free:=λ b u q n _=>by rw[qu (Qt (Za (Qs q) hp))];exact n
 there:=λ b u q _=>⟨u,k b u q⟩
 tups:=λ b xs q=>by rw[qu (zk q hn)];exact q
 frzs:=λ b u xs q=>by rw[qu (zk q hn)];exact q
 tbls:=λ b ps q=>⟨#[],by rw[qu (zk q hn),q];simp⟩
theorem Un.write(mu:Mut (H x))(he:e=x∨H e=some (.own x))(k:∀ b u,b≠e->h.get? b=some u->h'.get? b=some u)(cR:∃ u,h'.get? e=some u):Un fs ex H (upd H x o) h h':=by
 have hx:∀ b,H b=none->b≠x:=λ b n z=>by subst z;rw[n] at mu;exact mu
 have hb:∀ b,H b=none->b≠e:=λ b n z=>by
  subst z;rcases he with r|r
  ·exact hx b n r
  ·rw[n] at r;cases r
 have hm:∀ b u,H b=some u->¬ Mut (some u)->b≠x:=λ b u q nm z=>by subst z;rw[q] at mu;exact nm mu
 refine⟨λ b u q n _ _=>k b u (hb b n) q,λ b u q n _ _=>⟨u.slots,k b u (hb b n) q⟩,λ b u q n _=>by rw[qu (hx b n)];exact n,λ b u q _=>?_,
  λ b xs q=>by rw[qu (hm b _ q λ z=>z)];exact q,λ b u xs q=>by rw[qu (hm b _ q λ z=>z)];exact q,λ b ps q=>⟨#[],by rw[qu (hm b _ q λ z=>z),q];simp⟩⟩
 by_cases hbe:b=e
 ·subst hbe;exact cR
 ·exact⟨u,k b u hbe q⟩
end
noncomputable def trk(h:Heap)(H:Hp):List Addr:=(List.range h.objs.size).filter λ a=>(H a).isSome
noncomputable def qfc(h:Heap)(H:Hp):Heap:=W.hideAll h (trk h H)
theorem qjn(h:Heap)(H:Hp):(qfc h H).objs.size=h.objs.size:=W.hideAll_size _ _
theorem qks(e:h.get? b=some o)(n:H b=none):(qfc h H).get? b=some o:=
 W.hideAll_get _ e λ hm=>by
  have q:(H b).isSome=true:=(U2.mp hm).2;rw[n] at q;simp at q
theorem qmt(e:(qfc h H).get? b=some o):h.get? b=some o/\H b=none:=by
 have e':h.get? b=some o:=W.of_hideAll (trk h H) e;refine⟨e',?_⟩;cases q:H b with
 |none=>rfl
 |some x =>
  have hm:b∈trk h H:=U2.mpr ⟨Ju.mpr (Qs e'),by simp[q]⟩;have z:(qfc h H).get? b=none:=W.hideAll_none (trk h H) hm;rw[z] at e;cases e
noncomputable def qmu(g h:Heap)(L:Addr):List (Addr×Obj):=(List.range h.objs.size).filterMap λ a=>if a=L∨(g.get? a).isSome=true then none else(h.get? a).map λ o=>(a,o)
noncomputable def rest(g h:Heap)(L d:Addr):List (Addr×Obj):=(qmu g h L).filter λ p=>decide (p.1≠d)
structure Mod(K:W.Frag)(mg:Str->Option Value)(base:Heap):Prop where
 kin:K.In base
 glob:base.Ns mainGlobals mg
 blt:∃ mb,base.Ns builtinsNs mb/\∀ x:Str,x≠"__name__"->mb x=bootBuiltins x
 nolimit:base.NoLimit
structure Cx where 
 prog:Program
 w:World
 K:W.Frag
 mg:Str->Option Value
 base:Heap
 A:Around
 N:List Str
 s₀:Shared
 H₀:Hp
 env:Env
 outer:List Env
 stack:List Env
 ex:List Addr
 fn:Str->Bool
 calm:Bool
 pn:List (Addr×Obj)
 xe:Value->Shared->Prop
noncomputable def frs(l:List Env):List Addr:=l.filterMap (·.frame)
noncomputable abbrev Cx.fs(X:Cx):List Addr:=frs X.outer
def Vis(sc:Scope)(x:Str):Prop:=sc.names.lookup x=some .local∨sc.names.lookup x=some .cell∨sc.names.lookup x=some .free
def Loc(sc:Scope)(x:Str):Prop:=sc.names.lookup x=some .local∨sc.names.lookup x=some .cell
def qqm(env:Env)(h:Heap)(m:Str->Option Value)(x:Str)(u:Value):Prop:=
 (env.kindOf x=some .local/\m x=some u)∨((env.kindOf x=some .cell∨env.kindOf x=some .free)/\∃ c,env.cells.lookup x=some c/\h.IsCell c (some u))
structure Cx.Ok(X:Cx):Prop where
 mod:Mod X.K X.mg X.base
 kind:X.env.scope.kind=.function
 glob:X.env.globals=mainGlobals
 blt:X.env.builtins=builtinsNs
 above:X.s₀.heap.objs.size<=X.env.locals
 inj:∀ x y c,X.env.cells.lookup x=some c->X.env.cells.lookup y=some c->x=y
 has:∀ x,(X.env.kindOf x=some .cell∨X.env.kindOf x=some .free)->∃ c,X.env.cells.lookup x=some c
 cab:∀ x c,X.fn x=true->X.env.cells.lookup x=some c->X.s₀.heap.objs.size<=c
 hd:X.calm=true->X.A.handled=none
 frames:X.A.frames=some X.stack
 stk:X.stack=X.outer∨(X.stack=X.env::X.outer/\X.env.frame=some X.env.locals)
 exf:∀ b∈X.ex,b≠X.env.locals/\∀ x c,X.env.cells.lookup x=some c->c≠b
 bs:∀ b o,X.base.get? b=some o->X.s₀.heap.get? b=some o/\X.H₀ b=none
 bsz:X.base.objs.size<=X.s₀.heap.objs.size
 noex:∀ b o,X.base.get? b=some o->b∉X.ex
 exfs:∀ b∈X.ex,b∉X.fs
 funs:X.s₀.heap.FunFrames X.base X.outer
 frf:∀ b∈X.fs,X.H₀ b=none
structure Inv(X:Cx)(pins:List (Addr×Obj))(σ:List (Option V))(H:Hp)(s:Shared):Prop where
 ok:X.Ok
 os:s.os=X.s₀.os
 bare:AllBare s.gens
 base:Un X.fs X.ex X.H₀ H X.s₀.heap s.heap
 loc:∃ m,s.heap.Ns X.env.locals m/\∀(i:Nat)(x:Str)(v:V),X.N[i]?=some x->σ[i]?=some (some v)->Vis X.env.scope x->∃ u,qV v u/\qqm X.env s.heap m x u
 cell:∀ x c,X.env.cells.lookup x=some c->∃ v,s.heap.IsCell c v
 free:H X.env.locals=none
 freeC:∀ x c,X.env.cells.lookup x=some c->H c=none
 pin:∀ p∈X.pn++pins,s.heap.get? p.1=some p.2/\H p.1=none/\p.1≠X.env.locals/\p.1∉X.fs/\∀ v,p.2.data≠.cell v
 hok:HOk X.prog X.w H s.heap
 len:σ.length=X.N.length
section
variable {X:Cx}{pins:List (Addr×Obj)}{σ:List (Option V)}{H H':Hp}{s:Shared}{h':Heap}
theorem Cx.Ok.nofr(ok:X.Ok)(e:X.base.get? b=some o):b∉X.fs:=λ hb=>by
 have:=(ok.funs.mem hb).1
 rw[e] at this;cases this
theorem Inv.bs(I:Inv X pins σ H s):∀ b o,X.base.get? b=some o->s.heap.get? b=some o/\H b=none:=λ b o e =>
 ⟨I.base.keep b o (I.ok.bs b o e).1 (I.ok.bs b o e).2 (I.ok.nofr e) (I.ok.noex b o e),I.base.free b o (I.ok.bs b o e).1 (I.ok.bs b o e).2 (I.ok.noex b o e)⟩
theorem Inv.bk(I:Inv X pins σ H s):∀ b o,X.base.get? b=some o->s.heap.get? b=some o:=λ b o e=>(I.bs b o e).1
theorem Inv.mod(I:Inv X pins σ H s):Mod X.K X.mg X.base:=I.ok.mod
theorem Inv.kIn(I:Inv X pins σ H s):X.K.In s.heap:=I.ok.mod.kin.keeps I.bk
theorem Inv.fr(I:Inv X pins σ H s):∃ m,Fr X.base X.env.locals s.heap m:=
 let ⟨m,hn,_⟩:=I.loc
 ⟨m,hn,I.bk,Qu I.ok.bsz I.ok.above⟩
theorem Inv.lt(I:Inv X pins σ H s):X.env.locals<s.heap.objs.size:=let ⟨_,hn,_⟩:=I.loc;hn.lt
theorem Inv.sz(I:Inv X pins σ H s):X.s₀.heap.objs.size<=s.heap.objs.size:=Qu I.ok.above (Qv I.lt)
theorem Inv.nofs(I:Inv X pins σ H s)(h:s.heap.objs.size<=a):a∉X.fs:=λ hb=>by
 obtain⟨_,o,ho,_⟩:=I.ok.funs.mem hb;exact absurd (Za (Qs ho) (Qu I.sz h)) (Qc _)
theorem Inv.cne(I:Inv X pins σ H s):∀ x c,X.env.cells.lookup x=some c->c≠X.env.locals:=λ x c e z=>by
 obtain⟨v,o,ho,hd⟩:=I.cell x c e;obtain⟨m,⟨o',es,ep,iZ,oV,_⟩,_⟩:=I.loc;rw[z,iZ] at ho;cases ho;rw[oV] at hd;cases hd
theorem Inv.funs(I:Inv X pins σ H s):s.heap.FunFrames X.base X.outer:=by
 have all:∀(l:List Env),(∀ b∈frs l,b∈X.fs)->X.s₀.heap.FunFrames X.base l->s.heap.FunFrames X.base l:=by
  intro l;induction l with
  |nil=>intro _ _;trivial
  |cons env r ih =>
   intro hs hl;obtain⟨hk,⟨L,o,hf,hn,ho,hd⟩,hr⟩:=hl;have hL:L∈X.fs:=hs L (by unfold frs;rw[Yu,hf];exact Zb);obtain⟨sl,e⟩:=I.base.slot L o ho (I.ok.frf L hL) hL λ z=>I.ok.exfs L z hL
   exact⟨hk,⟨L,_,hf,hn,e,hd⟩,ih (λ b hb=>hs b (by unfold frs;rw[Yu,hf];exact Yj _ hb)) hr⟩
 exact all X.outer (λ _ hb=>hb) I.ok.funs
theorem Inv.stack(I:Inv X pins σ H s):s.heap.FunFrames X.base X.stack:=by
 rcases I.ok.stk with e|⟨e,hf⟩
 ·rw[e];exact I.funs
 ·rw[e];obtain⟨m,hn,_⟩:=I.loc;refine .cons (by rw[I.ok.kind];decide) hf hn ?_ I.funs;exact Heap.get?_none_of_le (Qu I.ok.bsz I.ok.above)
theorem Inv.stkSub(I:Inv X pins σ H s):∀ b∈frs X.stack,b∈X.env.locals::X.fs:=λ b hb=>by
 rcases I.ok.stk with e|⟨e,hf⟩
 ·rw[e] at hb;exact Yj _ hb
 ·rw[e] at hb;unfold frs at hb;rw[Yu,hf] at hb;exact hb
theorem Inv.stkFree(I:Inv X pins σ H s):∀ b∈frs X.stack,H b=none:=λ b hb=>by
 rcases Qd.mp (I.stkSub b hb) with e|hb
 ·rw[e];exact I.free
 ·obtain⟨_,o,ho,_⟩:=I.ok.funs.mem hb;exact I.base.free b o ho (I.ok.frf b hb) λ z=>I.ok.exfs b z hb
theorem Inv.step{ch:List Addr}(I:Inv X pins σ H s)(gZ:∀ b∈ch,(b∈X.ex∨X.s₀.heap.objs.size<=b)/\b≠X.env.locals/\(∀ x c,X.env.cells.lookup x=some c->c≠b)/\∀ p∈X.pn++pins,p.1≠b)(keep:∀ b o,b≠X.env.locals->b∉X.fs->b∉ch->s.heap.get? b=some o->H b=none->h'.get? b=some o)(slot:∀ b o,b≠X.env.locals->b∈X.fs->b∉ch->s.heap.get? b=some o->H b=none->∃ sl,h'.get? b=some { o with slots:=sl })(free:∀ b o,b∉ch->s.heap.get? b=some o->H b=none->H' b=none)(there:∀ b o,b∉ch->s.heap.get? b=some o->∃ o',h'.get? b=some o')(tups:∀ b xs,H b=some (.tup xs)->H' b=some (.tup xs))(frzs:∀ b o u,H b=some (.frz o u)->H' b=some (.frz o u))(tbls:∀ b ps,H b=some (.tbl ps)->∃ more,H' b=some (.tbl (ps++more)))(ns:∀ m,s.heap.Ns X.env.locals m->h'.Ns X.env.locals m)(hok:HOk X.prog X.w H' h')(hg:AllBare g'):
  Inv X pins σ H' { s with heap:=h',gens:=g',drawn:=d',toks:=t' }:=by
 have neL:∀ b o,X.s₀.heap.get? b=some o->b≠X.env.locals:=λ b o e=>Qt (Za (Qs e) I.ok.above)
 have neC:∀ b o,X.s₀.heap.get? b=some o->b∉X.ex->b∉ch:=λ b o e hx hb=>by
  rcases(gZ b hb).1 with z|z
  ·exact hx z
  ·exact absurd (Za (Qs e) z) (Qc _)
 have nV:∀ x c,X.env.cells.lookup x=some c->∀ v,s.heap.IsCell c v->h'.IsCell c v:=λ x c e v ⟨o,ho,hd⟩=>by
  have sJ:c∉ch:=λ z=>(gZ c z).2.2.1 x c e rfl
  by_cases hc:c∈X.fs
  ·obtain⟨sl,q⟩:=slot c o (I.cne x c e) hc sJ ho (I.freeC x c e);exact⟨_,q,hd⟩
  ·exact⟨o,keep c o (I.cne x c e) hc sJ ho (I.freeC x c e),hd⟩
 refine⟨I.ok,I.os,hg,⟨λ b o e n hb hx=>?_,λ b o e n hb hx=>?_,λ b o e n hx=>?_,λ b o e hx=>?_,λ b xs e=>tups b xs (I.base.tups b xs e),λ b o xs e=>frzs b o xs (I.base.frzs b o xs e),λ b ps e=>?_⟩,?_,λ x c e=>?_,?_,λ x c e=>?_,λ p hp=>?_,hok,I.len⟩
 ·exact keep b o (neL b o e) hb (neC b o e hx) (I.base.keep b o e n hb hx) (I.base.free b o e n hx)
 ·obtain⟨sl,e1⟩:=I.base.slot b o e n hb hx;obtain⟨sl',e2⟩:=slot b _ (neL b o e) hb (neC b o e hx) e1 (I.base.free b o e n hx);exact⟨sl',e2⟩
 ·obtain⟨o',e1⟩:=I.base.there b o e hx;exact free b o' (neC b o e hx) e1 (I.base.free b o e n hx)
 ·obtain⟨o',e1⟩:=I.base.there b o e hx;exact there b o' (neC b o e hx) e1
 ·obtain⟨m1,e1⟩:=I.base.tbls b ps e;obtain⟨m2,e2⟩:=tbls b _ e1;exact⟨m1++m2,by rw[e2,Array.append_assoc]⟩
 ·obtain⟨m,hn,hl⟩:=I.loc;refine⟨m,ns m hn,λ i x v e1 e2 e3=>?_⟩;obtain⟨u,r,l⟩:=hl i x v e1 e2 e3;refine⟨u,r,?_⟩;rcases l with l | ⟨k,c,e,z⟩
  ·exact .inl l
  ·exact .inr ⟨k,c,e,nV x c e _ z⟩
 ·obtain⟨v,z⟩:=I.cell x c e;exact⟨v,nV x c e v z⟩
 ·obtain⟨m,⟨o,_,_,ho,_⟩,_⟩:=I.loc;exact free _ o (λ z=>(gZ _ z).2.1 rfl) ho I.free
 ·obtain⟨v,o,ho,hd⟩:=I.cell x c e;exact free c o (λ z=>(gZ c z).2.2.1 x c e rfl) ho (I.freeC x c e)
 ·obtain⟨e,n,ne,nf,d⟩:=I.pin p hp;have sJ:p.1∉ch:=λ z=>(gZ p.1 z).2.2.2 p hp rfl
  exact⟨keep p.1 p.2 ne nf sJ e n,free p.1 p.2 sJ e n,ne,nf,d⟩
theorem Inv.un(I:Inv X pins σ H s)(u:Un X.fs [] H H' s.heap h')(hok:HOk X.prog X.w H' h'):Inv X pins σ H' { s with heap:=h',toks:=t' }:=by
 obtain⟨m,⟨o,es,ep,ho,r⟩,_⟩:=id I.loc;obtain⟨sl,hL⟩:=u.any ho I.free (by simp);exact I.step (g':=s.gens) (d':=s.drawn) (ch:=[]) (λ _ z=>nomatch z) (λ b o _ hb _ e n=>u.keep b o e n hb (by simp)) (λ b o _ hb _ e n=>u.slot b o e n hb (by simp)) (λ b o _ e n=>u.free b o e n (by simp)) (λ b o _ e=>u.there b o e (by simp)) u.tups u.frzs u.tbls (λ m' hm=>by
  obtain⟨o',x9,ep',iZ,r'⟩:=hm;rw[ho] at iZ;cases iZ;exact⟨_,x9,ep',hL,r'⟩) hok I.bare
theorem Inv.call(I:Inv X pins σ H s)(u:Un (frs X.stack) ch H H' s.heap h')(hok:HOk X.prog X.w H' h')(hg:AllBare g')(gZ:∀ b∈ch,(b∈X.ex∨X.s₀.heap.objs.size<=b)/\b≠X.env.locals/\(∀ x c,X.env.cells.lookup x=some c->c≠b)/\∀ p∈X.pn++pins,p.1≠b):
  Inv X pins σ H' { s with heap:=h',gens:=g',drawn:=d',toks:=t' }:=by
 obtain⟨m,⟨o,es,ep,ho,r⟩,_⟩:=id I.loc;obtain⟨sl,hL⟩:=u.any ho I.free λ z=>(gZ _ z).2.1 rfl
 exact I.step (ch:=ch) gZ (λ b o hL hb hc e n=>u.keep b o e n (λ z=>(Qd.mp (I.stkSub b z)).elim hL hb) hc) (λ b o _ _ hc e n=>u.any e n hc) (λ b o hc e n=>u.free b o e n hc) (λ b o hc e=>u.there b o e hc) u.tups u.frzs u.tbls (λ m' hm=>by
  obtain⟨o',x9,ep',iZ,r'⟩:=hm;rw[ho] at iZ;cases iZ;exact⟨_,x9,ep',hL,r'⟩) hok hg
theorem Inv.turned(I:Inv X pins σ H s)(k:∀ b o,b≠it->s.heap.get? b=some o->h'.get? b=some o)(hn:H it=none)(hL:it≠X.env.locals)(h1:it∈X.ex∨X.s₀.heap.objs.size<=it)(h2:∀ x c,X.env.cells.lookup x=some c->c≠it)(h3:∀ p∈X.pn++pins,p.1≠it):Inv X pins σ H { s with heap:=h',toks:=t' }:=by
 have nit:∀ b u,H b=some u->b≠it:=λ b u e z=>by rw[z,hn] at e;cases e
 refine I.step (g':=s.gens) (d':=s.drawn) (ch:=[it]) (λ b hb=>?_) (λ b o _ _ hc e _=>k b o (λ z=>hc (by simp[z])) e) (λ b o _ _ hc e _=>⟨o.slots,k b o (λ z=>hc (by simp[z])) e⟩) (λ _ _ _ _ n=>n)
  (λ b o hc e=>⟨o,k b o (λ z=>hc (by simp[z])) e⟩) (λ _ _ e=>e) (λ _ _ _ e=>e) (λ b ps e=>⟨#[],by rw[e];simp⟩) (λ m hm=>?_) (λ b u e=>?_) I.bare
 ·have e:b=it:=by simpa using hb
  subst e;exact⟨h1,hL,h2,h3⟩
 ·obtain⟨o,es,ep,ho,r⟩:=hm;exact⟨o,es,ep,k _ o (Vu hL) ho,r⟩
 ·refine(I.hok b u e).stay (λ c v hc q=>k c v ?_ q) (λ _ q=>q) λ _ _ q=>q
  rcases hc with z|z
  ·rw[z];exact nit b u e
  ·exact nit c _ z
theorem Inv.tok(I:Inv X pins σ H s)(t:Nat):Inv X pins σ H { s with toks:=t }:=I.un (h':=s.heap) (t':=t) Un.refl I.hok
theorem Inv.kept(I:Inv X pins σ H s)(k:∀ b u,s.heap.get? b=some u->h'.get? b=some u):Inv X pins σ H { s with heap:=h',toks:=t' }:=I.un (Un.kept k) (I.hok.kept k)
theorem Inv.laid(I:Inv X pins σ H s)(k:∀ b u,s.heap.get? b=some u->h'.get? b=some u)(hp:s.heap.objs.size<=a)(new:zI X.prog X.w (upd H a o) h' a o):
  Inv X pins σ (upd H a o) { s with heap:=h',toks:=t' }:=I.un (Un.laid k hp (I.hok.fresh hp)) (I.hok.laid k hp new)
theorem Inv.write(I:Inv X pins σ H s)(mu:Mut (H x))(he:e=x∨H e=some (.own x))(k:∀ b u,b≠e->s.heap.get? b=some u->h'.get? b=some u)(cR:∃ u,h'.get? e=some u)(new:zI X.prog X.w (upd H x o) h' x o):Inv X pins σ (upd H x o) { s with heap:=h',toks:=t' }:=I.un (Un.write mu he k cR) (I.hok.write mu he k cR new)
theorem Inv.weak(I:Inv X pins σ H s)(hl:σ'.length=σ.length)(w:∀(i:Nat) v,σ'[i]?=some (some v)->σ[i]?=some (some v)):Inv X pins σ' H s:=
 ⟨I.ok,I.os,I.bare,I.base,let ⟨m,hn,bH⟩:=I.loc;⟨m,hn,λ i x v e1 e2 e3=>bH i x v e1 (w i v e2) e3⟩,I.cell,I.free,I.freeC,I.pin,I.hok,hl.trans I.len⟩
theorem Inv.pins_of(I:Inv X pins σ H s)(h:∀ p∈mX,s.heap.get? p.1=some p.2/\H p.1=none/\p.1≠X.env.locals/\p.1∉X.fs/\∀ v,p.2.data≠.cell v):Inv X mX σ H s:=
 ⟨I.ok,I.os,I.bare,I.base,I.loc,I.cell,I.free,I.freeC,λ p hp=>(U3.mp hp).elim (λ z=>I.pin p (Yk _ z)) (h p),I.hok,I.len⟩
theorem qgl{N:List Str}(hN:N.Nodup) {i:Nat}(a:N[i]?=some x)(b:N[j]?=some x):i=j:=by
 obtain⟨h1,e1⟩:=Xn.mp a;obtain⟨h2,e2⟩:=Xn.mp b;exact(List.getElem_inj hN).mp (e1.trans e2.symm)
theorem qeu(I:Inv X pins σ H s)(hN:X.N.Nodup)(hi:X.N[i]?=some x)(hx:Loc X.env.scope x)(r:qV v u)(h:∀ s',Inv X pins (σ.set i (some v)) H s'->(∃ a,Heap.SameBut a s.heap s'.heap/\(a=X.env.locals∨X.env.cells.lookup x=some a))->Q () s')(hf:X.fn x=true∨X.env.scope.names.lookup x=some .local:=by first|exact .inl rfl|exact .inr rfl|assumption):wpAny M A (storeName X.env x u) Q E s:=by
 obtain⟨m,hn,hl⟩:=id I.loc;have hcls:(X.env.scope.kind == .class || (X.env.scope.kind == .module && X.env.locals != X.env.globals))=false:=by rw[I.ok.kind];rfl
 have hiσ:i < σ.length:=by rw[I.len];exact(Xn.mp hi).1
 have cne:=I.cne;have aT:∀{a:Addr}{h':Heap},(∃ o,s.heap.get? a=some o/\H a=none)->Heap.SameBut a s.heap h'->HOk X.prog X.w H h':=λ{a h'} ha hs b ob e=>by
  obtain⟨_,_,B6⟩:=ha;refine(I.hok b ob e).stay (λ c w' hc q=>(hs.2 c ?_).trans q) (λ _ q=>q) λ _ _ q=>q
  rintro rfl;rcases hc with rfl|hc
  ·rw[B6] at e;cases e
  ·rw[B6] at hc;cases hc
 rcases hx with hk|hk
 ·refine wpAny_storeName_local hk hn (λ h' tU hs=>?_) hcls;obtain⟨oL,_,_,iY,_⟩:=id hn;refine h _ ⟨I.ok,I.os,I.bare,⟨λ b o e n hb hx=>?_,λ b o e n hb hx=>?_,I.base.free,λ b o e hx=>?_,I.base.tups,I.base.frzs,I.base.tbls⟩,⟨_,tU,λ j y v' e1 e2 e3=>?_⟩,λ y c e=>?_,I.free,I.freeC,λ p hp=>?_,aT ⟨oL,iY,I.free⟩ hs,by simpa using I.len⟩ ⟨_,hs,.inl rfl⟩
  ·exact(hs.2 b (Qt (Za (Qs e) I.ok.above))).trans (I.base.keep b o e n hb hx)
  ·obtain⟨sl,e1⟩:=I.base.slot b o e n hb hx;exact⟨sl,(hs.2 b (Qt (Za (Qs e) I.ok.above))).trans e1⟩
  ·obtain⟨o',e1⟩:=I.base.there b o e hx;exact⟨o',(hs.2 b (Qt (Za (Qs e) I.ok.above))).trans e1⟩
  ·by_cases hj:j=i
   ·subst hj;rw[hi] at e1;cases e1;rw[List.getElem?_set_self hiσ] at e2;cases e2
    exact⟨u,r,.inl ⟨hk,by simp⟩⟩
   ·rw[List.getElem?_set_ne (Vu hj)] at e2;obtain⟨u',r',q⟩:=hl j y v' e1 e2 e3;refine⟨u',r',?_⟩;rcases q with⟨k,e⟩ | ⟨k,c,e,z⟩
    ·refine .inl ⟨k,?_⟩
     have:y≠x:=λ e=>hj (qgl hN e1 (e ▸ hi))
     simp[this,e]
    ·exact .inr ⟨k,c,e,z.sameBut hs (cne y c e)⟩
  ·obtain⟨w',z⟩:=I.cell y c e;exact⟨w',z.sameBut hs (cne y c e)⟩
  ·obtain⟨e,n,ne,nf,d⟩:=I.pin p hp;exact⟨(hs.2 p.1 ne).trans e,n,ne,nf,d⟩
 ·have hfn:X.fn x=true:=by
   rcases hf with z|z
   ·exact z
   ·rw[z] at hk;cases hk
  obtain⟨c,hc⟩:=I.ok.has x (.inl hk);obtain⟨w',z⟩:=I.cell x c hc;refine wpAny_storeName_cell I.ok.kind hk hc z (λ h' N3 hs=>?_);obtain⟨oc,hoc,hocd⟩:=id z;refine h { s with heap:=h' } ⟨I.ok,I.os,I.bare,⟨λ b o e n hb hx=>?_,λ b o e n hb hx=>?_,I.base.free,λ b o e hx=>?_,I.base.tups,I.base.frzs,I.base.tbls⟩,⟨m,hn.sameBut hs (Vu (cne x c hc)),λ j y v' e1 e2 e3=>?_⟩,λ y c' e=>?_,I.free,I.freeC,λ p hp=>?_,aT ⟨oc,hoc,I.freeC x c hc⟩ hs,by simpa using I.len⟩ ⟨c,hs,.inr hc⟩
  ·exact(hs.2 b (Qt (Za (Qs e) (I.ok.cab x c hfn hc)))).trans (I.base.keep b o e n hb hx)
  ·obtain⟨sl,e1⟩:=I.base.slot b o e n hb hx;exact⟨sl,(hs.2 b (Qt (Za (Qs e) (I.ok.cab x c hfn hc)))).trans e1⟩
  ·obtain⟨o',e1⟩:=I.base.there b o e hx;exact⟨o',(hs.2 b (Qt (Za (Qs e) (I.ok.cab x c hfn hc)))).trans e1⟩
  ·by_cases hj:j=i
   ·subst hj;rw[hi] at e1;cases e1;rw[List.getElem?_set_self hiσ] at e2;cases e2
    exact⟨u,r,.inr ⟨.inl hk,c,hc,N3⟩⟩
   ·rw[List.getElem?_set_ne (Vu hj)] at e2;obtain⟨u',r',q⟩:=hl j y v' e1 e2 e3;refine⟨u',r',?_⟩;rcases q with q | ⟨k,c',e,z'⟩
    ·exact .inl q
    ·refine .inr ⟨k,c',e,z'.sameBut hs ?_⟩;rintro rfl;exact hj (qgl hN e1 (I.ok.inj _ _ _ e hc ▸ hi))
  ·by_cases i9:c'=c
   ·subst i9;exact⟨_,N3⟩
   ·obtain⟨w2,z2⟩:=I.cell y c' e;exact⟨w2,z2.sameBut hs i9⟩
  ·obtain⟨e,n,ne,nf,d⟩:=I.pin p hp;refine⟨(hs.2 p.1 ?_).trans e,n,ne,nf,d⟩;intro q;rw[q,hoc] at e;have q':oc=p.2:=Option.some.inj e;exact d w' (by rw[<- q'];exact hocd)
theorem qgm(I:Inv X pins σ H s)(hN:X.N.Nodup)(hi:X.N[i]?=some x)(hx:Loc X.env.scope x)(r:qV v u)(h:∀ s',Inv X pins (σ.set i (some v)) H s'->Q () s')(hf:X.fn x=true∨X.env.scope.names.lookup x=some .local:=by first | exact .inl rfl | exact .inr rfl | assumption):wpAny M A (storeName X.env x u) Q E s:=
 qeu I hN hi hx r (λ s' I' _=>h s' I') hf
theorem Inv.call'(I:Inv X pins σ H s)(ho:s'.os=s.os)(u:Un (frs X.stack) ch H H' s.heap s'.heap)(hok:HOk X.prog X.w H' s'.heap)(hg:AllBare s'.gens)(gZ:∀ b∈ch,(b∈X.ex∨X.s₀.heap.objs.size<=b)/\b≠X.env.locals/\(∀ x c,X.env.cells.lookup x=some c->c≠b)/\∀ p∈X.pn++pins,p.1≠b):Inv X pins σ H' s':=by
 obtain⟨h',g',d',t',o'⟩:=s';have e:o'=s.os:=ho;subst e;exact I.call (g':=g') (t':=t') (d':=d') u hok hg gZ
end
abbrev XK:=Value->Option Addr->Hp->Prop
abbrev St:=List (Option V)
abbrev VK:=V->Hp->Prop
abbrev TE:=St->Hp->VK->Prop
abbrev TT:=St->Hp->(Bool->Hp->Prop)->Prop
abbrev TA:=St->Hp->(List V->Hp->Prop)->Prop
structure Ends where 
 nx:St->Hp->Prop
 rt:VK
 bk:St->Hp->Prop:=λ _ _=>False
 ct:St->Hp->Prop:=λ _ _=>False
abbrev TS:=Ends->St->Hp->Prop
def EP(X:Cx)(pins:List (Addr×Obj))(σ:St)(Q:VK)(u:Value)(s':Shared):Prop:=∃ v H',Inv X pins σ H' s'/\qV v u/\Q v H'
def TP(X:Cx)(pins:List (Addr×Obj))(σ:St)(Q:Bool->Hp->Prop)(b:Bool)(s':Shared):Prop:=∃ H',Inv X pins σ H' s'/\Q b H'
def AP(X:Cx)(pins:List (Addr×Obj))(σ:St)(Q:List V->Hp->Prop)(us:List Value)(s':Shared):Prop:=∃ vs H',Inv X pins σ H' s'/\qL vs us/\Q vs H'
def SP(X:Cx)(pins:List (Addr×Obj))(D:Ends)(f:Flow)(s':Shared):Prop:=
 match f with
 |.next=>∃ σ' H',Inv X pins σ' H' s'/\D.nx σ' H'
 |.brk=>∃ σ' H',Inv X pins σ' H' s'/\D.bk σ' H'
 |.cont=>∃ σ' H',Inv X pins σ' H' s'/\D.ct σ' H'
 |.ret u=>∃ v σ' H',Inv X pins σ' H' s'/\qV v u/\D.rt v H'
def PE(X:Cx)(e:Expr)(t:TE):Prop:=
 ∀(pins:List (Addr×Obj))(s:Shared)(σ:St)(H:Hp)(Q:VK),Inv X pins σ H s->t σ H Q->wpAny (model X.prog X.w) X.A (eval e X.env) (EP X pins σ Q) X.xe s
def PT(X:Cx)(e:Expr)(t:TT):Prop:=
 ∀(pins:List (Addr×Obj))(s:Shared)(σ:St)(H:Hp)(Q:Bool->Hp->Prop),Inv X pins σ H s->t σ H Q->wpAny (model X.prog X.w) X.A (isTrue e X.env (eval e X.env)) (TP X pins σ Q) X.xe s
def PW(X:Cx)(e:Expr)(t:TT):Prop:=
 ∀(aS:Sem Value)(pins:List (Addr×Obj))(s:Shared)(σ:St)(H:Hp)(Q:Bool->Hp->Prop),Inv X pins σ H s->t σ H Q->wpAny (model X.prog X.w) X.A (isTrue e X.env aS) (TP X pins σ Q) X.xe s
theorem PW.pt(h:PW X e t):PT X e t:=h _
def PA(X:Cx)(es:List Expr)(t:TA):Prop:=
 ∀(pos:Pos)(pins:List (Addr×Obj))(s:Shared)(σ:St)(H:Hp)(Q:List V->Hp->Prop),Inv X pins σ H s->t σ H Q->wpAny (model X.prog X.w) X.A (spliced (backTo pos (starEach es X.env))) (AP X pins σ Q) X.xe s
def PS(X:Cx)(st:Stmt)(t:TS):Prop:=
 ∀(pins:List (Addr×Obj))(s:Shared)(σ:St)(H:Hp)(D:Ends),Inv X pins σ H s->t D σ H->wpAny (model X.prog X.w) X.A (exec st X.env) (SP X pins D) X.xe s
def PSs(X:Cx)(st:List Stmt)(t:TS):Prop:=
 ∀(pins:List (Addr×Obj))(s:Shared)(σ:St)(H:Hp)(D:Ends),Inv X pins σ H s->t D σ H->wpAny (model X.prog X.w) X.A (execs st X.env) (SP X pins D) X.xe s
theorem thn{t:Sem α}{Q Q':α->Shared->Prop}(h:wpAny M A t Q E s)(hQ:∀ a s,Q a s->Q' a s):wpAny M A t Q' E s:=Vg h hQ λ _ _ x=>x
section
variable {X:Cx}
theorem bin(ha:PE X a ta)(hb:PE X b tb){R:V->V->Hp->Prop}(I:Inv X pins σ H s)(h:ta σ H λ x H1=>tb σ H1 λ y H2=>R x y H2){Q:α->Shared->Prop}{f:Value->Value->Sem α}(hf:∀ v u s2 x y H2,Inv X pins σ H2 s2->qV x v->qV y u->R x y H2->wpAny (model X.prog X.w) X.A (f v u) Q X.xe s2):
  wpAny (model X.prog X.w) X.A (eval a X.env) (λ v s₁=>wpAny (model X.prog X.w) X.A (eval b X.env) (λ u s₂=>wpAny (model X.prog X.w) X.A (f v u) Q X.xe s₂) X.xe s₁) X.xe s:=by
 refine thn (ha pins s σ H _ I h) λ v s1 ⟨x,H1,I1,r1,q1⟩=>?_
 refine thn (hb pins s1 σ H1 _ I1 q1) λ u s2 ⟨y,H2,I2,r2,q2⟩=>?_
 exact hf v u s2 x y H2 I2 r1 r2 q2
def qfd(i:Nat):TE:=λ σ H Q=>∃ v,σ[i]?=some (some v)/\Q v H
def tC(v:V):TE:=λ _ H Q=>Q v H
theorem qn4(hN:X.N[i]?=some x)(hv:Vis X.env.scope x)(hd:(x == ("__debug__":Str))=false:=by decide)(W8:(x == ("__classdict__":Str))=false:=by decide):PE X (.Name x pos) (qfd i):=by
 intro pins s σ H Q I h;obtain⟨v,e,h⟩:=h;obtain⟨m,hn,hl⟩:=I.loc;obtain⟨u,r,l⟩:=hl i x v hN e hv;have fin:EP X pins σ Q u s:=⟨v,H,I,r,h⟩;rcases l with⟨hk,hm⟩|⟨hk,c,hc,S4⟩
 ·exact wpAny_Name (wpAny_loadName_local I.ok.kind hk hn hm fin) hd
 ·rcases hk with hk | hk
  ·exact wpAny_Name (wpAny_loadName_cell I.ok.kind hk hc S4 fin) hd
  ·exact wpAny_Name (wpAny_loadName_free I.ok.kind hk hc S4 fin W8) hd
theorem qg{i j pos}:PE X (.Constant (.int i) j pos) (tC (.int i)):=λ _ _ _ H _ I h=>wpAny_Constant_int ⟨.int i,H,I.tok _,⟨_,rfl⟩,h⟩
theorem qgn{b j pos}:PE X (.Constant (.bool b) j pos) (tC (.bl b)):=λ _ _ _ H _ I h=>Constant_bool ⟨.bl b,H,I,rfl,h⟩
theorem kt{j pos}:PE X (.Constant .none j pos) (tC .non):=λ _ _ _ H _ I h=>Constant_none ⟨.non,H,I,rfl,h⟩
theorem qo{x j pos}:PE X (.Constant (.str x) j pos) (tC (.str x)):=λ _ _ _ H _ I h=>Calls.Constant_str ⟨.str x,H,I.tok _,⟨_,rfl⟩,h⟩
def Gl(X:Cx)(x:Str):Prop:=X.env.kindOf x=some .globalImplicit
theorem qbs(I:Inv X pins σ H s)(hg:Gl X x)(hm:X.mg x=some u)(h:Q u s)(hd:(x == ("__debug__":Str))=false:=by decide):wpAny (model X.prog X.w) X.A (eval (.Name x pos) X.env) Q E s:=
 Calls.Name_function_global I.ok.kind hg (Calls.loadGlobal_global (by rw[I.ok.glob];exact I.mod.glob.keeps I.bk) hm h) hd
theorem qc8(I:Inv X pins σ H s)(hg:Gl X x)(hm:X.mg x=none)(hv:bootBuiltins x=some u)(h:Q u s)(hn:x≠"__name__":=by decide)(hd:(x == ("__debug__":Str))=false:=by decide):wpAny (model X.prog X.w) X.A (eval (.Name x pos) X.env) Q E s:=by
 obtain⟨mb,h1,h2⟩:=I.mod.blt;exact Calls.Name_function_global I.ok.kind hg (Calls.loadGlobal_builtin (by rw[I.ok.glob];exact I.mod.glob.keeps I.bk) hm (by rw[I.ok.blt];exact h1.keeps I.bk) ((h2 x hn).trans hv) h) hd
theorem zZ(hg:Gl X x)(hm:X.mg x=some u)(r:qV v u)(hd:(x == ("__debug__":Str))=false:=by decide):PE X (.Name x pos) (tC v):=
 λ _ _ _ H _ I h=>qbs I hg hm ⟨v,H,I,r,h⟩ hd
variable {a b:Expr}{ta tb:TE}{pos:Pos}
def PC(X:Cx)(op:CmpOp)(a b:Expr)(t:TE):Prop:=
 ∀(pins:List (Addr×Obj))(s:Shared)(σ:St)(H:Hp)(Q:VK),Inv X pins σ H s->t σ H Q ->
  wpAny (model X.prog X.w) X.A (eval a X.env) (λ v s₁=>wpAny (model X.prog X.w) X.A (eval b X.env) (λ u s₂=>wpAny (model X.prog X.w) X.A (compareOp op v u) (EP X pins σ Q) X.xe s₂) X.xe s₁) X.xe s
def tB(t:TE):TT:=λ σ H Q=>t σ H λ x H1=>∃ c,x=.bl c/\Q c H1
theorem qn5(h:PC X op a b t)(h1:behindInMarks op b=false:=by first|exact nobehind _ (by decide) (by decide)|rfl):PE X (.Compare a [op] [b] pos) t:=λ pins s σ H Q I hw=>wpAny_Compare1 (h pins s σ H Q I hw) h1
theorem jp(h:PE X e t)(he:∀ aS,isTrue e X.env aS=(do let v <- aS;standAt e.pos;holding [v] (truthy v)):=by intro _;rfl):PT X e (tB t):=by
 intro pins s σ H Q I hw;refine isTrue_plain (thn (h pins s σ H _ I hw) λ v s1 ⟨x,H1,I1,r1,q1⟩=>?_) (he _);obtain⟨d,rfl,q⟩:=q1;cases r1
 exact Z9 ⟨H1,I1,q⟩
variable {tA xV:TT}{rest:List Expr}
def qqn(t u:TT):TT:=λ σ H Q=>t σ H λ c H1=>if c=true then u σ H1 Q else Q false H1
def tOr(t u:TT):TT:=λ σ H Q=>t σ H λ c H1=>if c=true then Q true H1 else u σ H1 Q
def qqo(t:TT):TT:=λ σ H Q=>t σ H λ c H1=>Q (!c) H1
theorem qcO(ha:PT X a tA):PW X (.BoolOp .And [a] pos) tA:=by
 intro wh pins s σ H Q I h;refine isTrue_and (thn (ha pins s σ H Q I h) λ c s1 e=>?_);cases c with
 |true=>exact isTrue_and_nil e
 |false=>exact e
theorem qb6(ha:PT X a tA):PW X (.BoolOp .Or [a] pos) tA:=by
 intro wh pins s σ H Q I h;refine isTrue_or (thn (ha pins s σ H Q I h) λ c s1 e=>?_);cases c with
 |false=>exact isTrue_or_nil e
 |true=>exact e
theorem qfe(ha:PT X a tA)(hb:PW X (.BoolOp .And (b::rest) pos) xV):PW X (.BoolOp .And (a::b::rest) pos) (qqn tA xV):=by
 intro wh pins s σ H Q I h;refine isTrue_and (thn (ha pins s σ H _ I h) λ c s1 ⟨H1,I1,q1⟩=>?_);cases c with
 |true=>exact hb wh pins s1 σ H1 Q I1 q1
 |false=>exact⟨H1,I1,q1⟩
theorem qev(ha:PT X a tA)(hb:PW X (.BoolOp .Or (b::rest) pos) xV):PW X (.BoolOp .Or (a::b::rest) pos) (tOr tA xV):=by
 intro wh pins s σ H Q I h;refine isTrue_or (thn (ha pins s σ H _ I h) λ c s1 ⟨H1,I1,q1⟩=>?_);cases c with
 |true=>exact⟨H1,I1,q1⟩
 |false=>exact hb wh pins s1 σ H1 Q I1 q1
theorem qkt(ha:PT X a tA):PT X (.UnaryOp .Not a pos) (qqo tA):=by
 intro pins s σ H Q I h;exact isTrue_not (ha pins s σ H (λ c H1=>Q (!c) H1) I h)
def qnM(ta tb:TE):TE:=λ σ H Q=>ta σ H λ x H1=>∃ c,x=.bl c/\if c=true then tb σ H1 Q else Q (.bl false) H1
def qpc(ta tb:TE):TE:=λ σ H Q=>ta σ H λ x H1=>∃ c,x=.bl c/\if c=true then Q (.bl true) H1 else tb σ H1 Q
def qnN(ta:TE):TE:=λ σ H Q=>ta σ H λ x H1=>∃ c,x=.bl c/\Q (.bl (!c)) H1
theorem qhy{op}(h:PE X a t):PE X (.BoolOp op [a] pos) t:=λ pins s σ H Q I hw=>BoolOp_one (h pins s σ H Q I hw)
theorem qku(ha:PE X a ta)(hb:PE X (.BoolOp .And (b::rest) pos) tb):PE X (.BoolOp .And (a::b::rest) pos) (qnM ta tb):=by
 intro pins s σ H Q I h;refine BoolOp_and (thn (ha pins s σ H _ I h) λ v s1 ⟨x,H1,I1,r1,q1⟩=>?_);obtain⟨c,rfl,q1⟩:=q1;cases r1
 refine Z9 ?_;cases c with
 |true=>exact hb pins s1 σ H1 Q I1 q1
 |false=>exact⟨.bl false,H1,I1,rfl,q1⟩
theorem qpd(ha:PE X a ta)(hb:PE X (.BoolOp .Or (b::rest) pos) tb):PE X (.BoolOp .Or (a::b::rest) pos) (qpc ta tb):=by
 intro pins s σ H Q I h;refine BoolOp_or (thn (ha pins s σ H _ I h) λ v s1 ⟨x,H1,I1,r1,q1⟩=>?_);obtain⟨c,rfl,q1⟩:=q1;cases r1
 refine Z9 ?_;cases c with
 |false=>exact hb pins s1 σ H1 Q I1 q1
 |true=>exact⟨.bl true,H1,I1,rfl,q1⟩
theorem qhz(ha:PE X a ta):PE X (.UnaryOp .Not a pos) (qnN ta):=by
 intro pins s σ H Q I h;refine UnaryOp_ (thn (ha pins s σ H _ I h) λ v s1 ⟨x,H1,I1,r1,q1⟩=>?_);obtain⟨c,rfl,q1⟩:=q1;cases r1
 exact not_of (Z9 ⟨.bl (!c),H1,I1,rfl,q1⟩)
def tIf(t:TT)(ta tb:TE):TE:=λ σ H Q=>t σ H λ c H1=>if c=true then ta σ H1 Q else tb σ H1 Q
theorem qbt(hc:PT X c tA)(ha:PE X a ta)(hb:PE X b tb):PE X (.IfExp c a b pos) (tIf tA ta tb):=by
 intro pins s σ H Q I h;refine wpAny_IfExp (thn (hc pins s σ H _ I h) λ d s1 ⟨H1,I1,q1⟩=>?_);cases d with
 |true=>exact ha pins s1 σ H1 Q I1 q1
 |false=>exact hb pins s1 σ H1 Q I1 q1
end
def SqL(K:W.Frag)(H:Hp)(a:Addr)(xs:List V):Prop:=
 Rd H a (.lst xs) ∨
  ∃(o:Obj)(its:Array Value)(n:Nat),K.lookup a=some o/\o.cls=.type "list"/\o.dict=none/\o.data=.seq its n/\its.size<=sizeLine/\qL xs its.toList
def SqT(K:W.Frag)(H:Hp)(a:Addr)(xs:List V):Prop:=
 Rd H a (.tup xs) ∨
  ∃(o:Obj)(its:Array Value)(n:Nat),K.lookup a=some o/\o.cls=.type "tuple"/\o.data=.seq its n/\its.size<=sizeLine/\qL xs its.toList
noncomputable def qqp:Value->Option V
 |.none=>some .non
 |.bool b=>some (.bl b)
 |.int i _=>some (.int i)
 |.str x _=>some (.str x)
 |.bytes b _=>some (.byt b)
 |.float b _=>some (.flt b)
 |.ref a=>some (.ref a)
 |.type n=>some (.ty n)
 |_=>none
theorem qV.abs(r:qV x u):qqp u=some x:=by
 cases x with
 |non=>cases r;rfl
 |bl _=>cases r;rfl
 |int _=>obtain⟨t,rfl⟩:=r;rfl
 |str _=>obtain⟨t,rfl⟩:=r;rfl
 |byt _=>obtain⟨t,rfl⟩:=r;rfl
 |flt _=>obtain⟨t,rfl⟩:=r;rfl
 |ref _=>cases r;rfl
 |ty _=>cases r;rfl
theorem qV.inj(r:qV x u)(q:qV y u):x=y:=Option.some.inj (r.abs.symm.trans q.abs)
theorem qL.inj:∀{xs ys:List V}{us:List Value},qL xs us->qL ys us->xs=ys
 |_,_,_,.nil,.nil=>rfl
 |_,_,_,.cons r t,.cons r' t'=>by rw[r.inj r',qL.inj t t']
section
variable {X:Cx}{pins:List (Addr×Obj)}{σ:St}{H:Hp}{s:Shared}{a:Addr}{xs ys:List V}
theorem SqL.of{K:W.Frag}(h:H a=some (.lst xs)):SqL K H a xs:=.inl (.inl h)
theorem SqT.of{K:W.Frag}(h:H a=some (.tup xs)):SqT K H a xs:=.inl (.inl h)
theorem Inv.list(I:Inv X pins σ H s)(h:SqL X.K H a xs):∃ its:List Value,qL xs its/\PlainL s.heap a its.toArray/\xs.length<=sizeLine:=by
 rcases h with h|⟨o,its,n,hk,hc,hd,hs,hz,r⟩
 ·obtain⟨z,its,n,r,e⟩:=h.ok I.hok;exact⟨its,r,⟨_,n,e,rfl,rfl,rfl⟩,z⟩
 ·refine⟨its.toList,r,⟨o,n,I.kIn a o hk,hc,hd,by simpa using hs⟩,?_⟩;have e:=r.length;simp only[Yv] at e;omega
theorem Inv.tuple(I:Inv X pins σ H s)(h:SqT X.K H a xs):∃ its:List Value,qL xs its/\IsTup s.heap a its.toArray/\xs.length<=sizeLine:=by
 rcases h with h|⟨o,its,n,hk,hc,hs,hz,r⟩
 ·obtain⟨z,its,r,p⟩:=h.ok I.hok;exact⟨its,r,p,z⟩
 ·refine⟨its.toList,r,⟨o,I.kIn a o hk,hc,n,by simpa using hs⟩,?_⟩;have e:=r.length;simp only[Yv] at e;omega
theorem Inv.list_inj(I:Inv X pins σ H s)(h:SqL X.K H a xs)(h':SqL X.K H a ys):xs=ys:=by
 obtain⟨its,r,⟨o,n,e,_,_,d⟩,_⟩:=I.list h;obtain⟨its',r',⟨o',n',e',_,_,d'⟩,_⟩:=I.list h';rw[e] at e';cases e';rw[d] at d';injection d' with d1 _
 have:its=its':=by simpa using congrArg Array.toList d1
 subst this;exact r.inj r'
theorem Inv.tuple_inj(I:Inv X pins σ H s)(h:SqT X.K H a xs)(h':SqT X.K H a ys):xs=ys:=by
 obtain⟨its,r,⟨o,e,_,n,d⟩,_⟩:=I.tuple h;obtain⟨its',r',⟨o',e',_,n',d'⟩,_⟩:=I.tuple h';rw[e] at e';cases e';rw[d] at d';injection d' with d1 _
 have:its=its':=by simpa using congrArg Array.toList d1
 subst this;exact r.inj r'
end
noncomputable abbrev Cx.wish(X:Cx)(E:Value->Shared->Prop):Cx:={ X with xe:=E }
noncomputable abbrev Cx.nox(X:Cx):Cx:=X.wish λ _ _=>False
theorem Cx.Ok.wish{X:Cx}(ok:X.Ok)(E:Value->Shared->Prop):(X.wish E).Ok:=
 ⟨ok.mod,ok.kind,ok.glob,ok.blt,ok.above,ok.inj,ok.has,ok.cab,ok.hd,ok.frames,ok.stk,ok.exf,ok.bs,ok.bsz,ok.noex,ok.exfs,ok.funs,ok.frf⟩
theorem Cx.Ok.unwish{X:Cx}(ok:(X.wish E).Ok):X.Ok:=
 ⟨ok.mod,ok.kind,ok.glob,ok.blt,ok.above,ok.inj,ok.has,ok.cab,ok.hd,ok.frames,ok.stk,ok.exf,ok.bs,ok.bsz,ok.noex,ok.exfs,ok.funs,ok.frf⟩
section
variable {X:Cx}{pins:List (Addr×Obj)}{σ:St}{H:Hp}{s:Shared}{E:Value->Shared->Prop}
theorem Inv.wish(I:Inv X pins σ H s)(E:Value->Shared->Prop):Inv (X.wish E) pins σ H s:=⟨I.ok.wish E,I.os,I.bare,I.base,I.loc,I.cell,I.free,I.freeC,I.pin,I.hok,I.len⟩
theorem Inv.unwish(I:Inv (X.wish E) pins σ H s):Inv X pins σ H s:=⟨I.ok.unwish,I.os,I.bare,I.base,I.loc,I.cell,I.free,I.freeC,I.pin,I.hok,I.len⟩
theorem SP.unwish(h:SP (X.wish E) pins D f s'):SP X pins D f s':=by
 cases f with
 |next=>obtain⟨σ',H',I,q⟩:=h;exact⟨σ',H',I.unwish,q⟩
 |brk=>obtain⟨σ',H',I,q⟩:=h;exact⟨σ',H',I.unwish,q⟩
 |cont=>obtain⟨σ',H',I,q⟩:=h;exact⟨σ',H',I.unwish,q⟩
 |ret u=>obtain⟨v,σ',H',I,r,q⟩:=h;exact⟨v,σ',H',I.unwish,r,q⟩
theorem PSs.nox{st:List Stmt}(h:PSs X.nox st t):PSs X st t:=λ pins s σ H D I hw =>
 Vg (h pins s σ H D (I.wish _) hw) (λ _ _ q=>q.unwish) λ _ _ z=>False.elim z
end
section
variable {X:Cx}{st:Stmt}{rest:List Stmt}{t u:TS}{e:Expr}{te:TE}{pos:Pos}
def qpe:TS:=λ D σ H=>D.nx σ H
def qqq(t u:TS):TS:=λ D σ H=>t { D with nx:=u D } σ H
theorem qG:PSs X [] qpe:=λ _ _ σ H _ I h=>Jn ⟨σ,H,I,h⟩
theorem qd(h1:PS X st t)(h2:PSs X rest u):PSs X (st::rest) (qqq t u):=by
 intro pins s σ H D I h;refine wpAny_execs_cons (thn (h1 pins s σ H { D with nx:=u D } I h) λ f s1 q=>?_);cases f with
 |next =>
  obtain⟨σ',H',I',q⟩:=q;exact h2 pins s1 σ' H' D I' q
 |ret v=>exact q
 |brk=>exact q
 |cont=>exact q
theorem qe(h1:PS X st t):PSs X [st] t:=by
 intro pins s σ H D I h;refine wpAny_execs_cons (thn (h1 pins s σ H D I h) λ f s1 q=>?_);cases f with
 |next=>exact Jn q
 |ret v=>exact q
 |brk=>exact q
 |cont=>exact q
theorem Inv.quiet(I:Inv X pins σ H s):interactive X.env=false:=by simp[interactive,I.ok.kind]
def qpf(te:TE):TS:=λ D σ H=>te σ H λ _ H1=>D.nx σ H1
theorem yn(he:PE X e te)(hs:swapsWith e none pos.line X.env=pure false:=by rfl):PS X (.Expr e pos) (qpf te):=by
 intro pins s σ H D I h;exact wpAny_Expr_any (thn (he pins s σ H _ I h) λ v s1 ⟨x,H1,I1,r1,q1⟩=>⟨σ,H1,I1,q1⟩) I.quiet hs
def qmv(te:TE):TS:=λ D σ H=>te σ H D.rt
theorem qm(he:PE X e te):PS X (.Return (some e) pos) (qmv te):=by
 intro pins s σ H D I h;exact wpAny_Return_some (thn (he pins s σ H _ I h) λ v s1 ⟨x,H1,I1,r1,q1⟩=>⟨x,σ,H1,I1,r1,q1⟩)
def qpg(c:TT)(t u:TS):TS:=λ D σ H=>c σ H λ b H1=>if b=true then t D σ H1 else u D σ H1
theorem zg(hc:PT X c tc)(ha:PSs X a t)(hb:PSs X b u):PS X (.If c a b pos) (qpg tc t u):=by
 intro pins s σ H D I h;refine wpAny_If (thn (hc pins s σ H _ I h) λ d s1 ⟨H1,I1,q1⟩=>?_);cases d with
 |true=>exact ha pins s1 σ H1 D I1 q1
 |false=>exact hb pins s1 σ H1 D I1 q1
def qn6:TS:=λ _ _ _=>False
theorem jq:PS X st qn6:=λ _ _ _ _ _ _ h=>h.elim
end
abbrev TG:=V->St->Hp->(St->Hp->Prop)->Prop
abbrev TGs:=List V->St->Hp->(St->Hp->Prop)->Prop
def PG(X:Cx)(G6:Expr)(t:TG):Prop:=
 ∀(pins:List (Addr×Obj))(s:Shared)(σ:St)(H:Hp)(v:V)(u:Value)(Q:St->Hp->Prop),Inv X pins σ H s->qV v u->t v σ H Q ->
  wpAny (model X.prog X.w) X.A (assign G6 X.env u) (λ _ s'=>∃ σ' H',Inv X pins σ' H' s'/\Q σ' H') X.xe s
def PGs(X:Cx)(ts:List Expr)(t:TGs):Prop:=
 ∀(pins:List (Addr×Obj))(s:Shared)(σ:St)(H:Hp)(vs:List V)(us:List Value)(Q:St->Hp->Prop),Inv X pins σ H s->qL vs us->t vs σ H Q ->
  wpAny (model X.prog X.w) X.A (assignInOrder ((assignEach ts X.env).map (·.2)) us) (λ _ s'=>∃ σ' H',Inv X pins σ' H' s'/\Q σ' H') X.xe s
abbrev qn7:=V->V->V->Hp->(Hp->Prop)->Prop
def qph(X:Cx)(t:qn7):Prop:=
 ∀(pins:List (Addr×Obj))(s:Shared)(σ:St)(H:Hp)(o i v:V)(ov iv u:Value)(Q:Hp->Prop),Inv X pins σ H s->qV o ov->qV i iv->qV v u->t o i v H Q ->
  wpAny (model X.prog X.w) X.A (setItem ov iv u) (λ _ s'=>∃ H',Inv X pins σ H' s'/\Q H') X.xe s
section
variable {X:Cx}{pos:Pos}
def kc(i:Nat):TG:=λ v σ H Q=>Q (σ.set i (some v)) H
theorem qp(hN:X.N.Nodup)(hi:X.N[i]?=some x)(hx:Loc X.env.scope x)(hf:X.fn x=true∨X.env.scope.names.lookup x=some .local:=by first|exact .inl rfl|exact .inr rfl|assumption):PG X (.Name x pos) (kc i):=by
 intro pins s σ H v u Q I r h;exact wpAny_assign_Name (qgm I hN hi hx r (λ s' I'=>⟨_,H,I',h⟩) hf)
def qmw:TGs:=λ vs σ H Q=>vs=[]/\Q σ H
def qc9(t:TG)(u:TGs):TGs:=λ vs σ H Q=>∃ v r,vs=v::r/\t v σ H λ σ' H'=>u r σ' H' Q
theorem zT:PGs X [] qmw:=by
 intro pins s σ H vs us Q I r h;obtain⟨e,h⟩:=h;subst e;cases r
 exact assignInOrder_nil ⟨σ,H,I,h⟩
theorem qJ(h1:PG X e t)(h2:PGs X es u)(hs:(assignEach (e::es) X.env).map (·.2)=assign e X.env::(assignEach es X.env).map (·.2):=by rfl):PGs X (e::es) (qc9 t u):=by
 intro pins s σ H vs us Q I r h;obtain⟨v,vr,e1,h⟩:=h;subst e1;cases r with
 |cons r rr =>
  rw[hs];refine assignInOrder_cons (thn (h1 pins s σ H _ _ _ I r h) λ _ s1 ⟨σ1,H1,I1,q1⟩=>?_);exact h2 pins s1 σ1 H1 _ _ Q I1 rr q1
def qmx(K:W.Frag)(n:Nat)(t:TGs):TG:=λ v σ H Q=>∃ a xs,v=.ref a/\SqT K H a xs/\xs.length=n/\t xs σ H Q
theorem qda(hc:X.calm=true)(h:PGs X es t)(hn:(assignEach es X.env).length=n:=by rfl)(L5:(assignEach es X.env).findIdx? (·.1)=none:=by rfl):PG X (.Tuple es k pos) (qmx X.K n t):=by
 intro pins s σ H v u Q I r hw;obtain⟨a,xs,e1,hq,hl,hw⟩:=hw;subst e1;cases r
 obtain⟨its,rv,ht,hz⟩:=I.tuple hq;refine assign_Tuple_tuple (I.ok.hd hc) ht (by simp[hn,<- hl,rv.length]) L5 λ h' hx=>?_
 have I1:Inv X pins σ H { s with heap:=h' }:=I.kept (t':=s.toks) λ b o e=>hx b o (Qt (Qs e)) e
 exact h pins _ σ H xs _ Q I1 (by simpa using rv) hw
def qqr(to ti:TE)(t:qn7):TG:=λ v σ H Q=>to σ H λ o H1=>ti σ H1 λ i H2=>t o i v H2 λ H3=>Q σ H3
theorem qff(ho:PE X o to)(hi:PE X i ti)(hs:qph X t)(ha:∀ v,assign (.Subscript o i pos) X.env v=(do
   let ov <- holding [v] (eval o X.env)
   let iv <- holding [v,ov] (eval i X.env)
   standAt pos
   holding [v,ov,iv] (setItem ov iv v)
   release [v,ov,iv] []):=by intro _;rfl):PG X (.Subscript o i pos) (qqr to ti t):=by
 intro pins s σ H v u Q I r h;rw[ha];refine Vh (Qn (thn (ho pins s σ H _ I h) λ ov s1 ⟨x,H1,I1,r1,q1⟩=>?_));refine Vh (Qn (thn (hi pins s1 σ H1 _ I1 q1) λ iv s2 ⟨y,H2,I2,r2,q2⟩=>?_));refine Vh (Qo (Vh (Qn (thn (hs pins s2 σ H2 x y v ov iv u _ I2 r1 r2 r q2) λ _ s3 ⟨H3,I3,q3⟩=>?_))));exact wpAny_release ⟨σ,H3,I3,q3⟩
def qkv(te:TE)(g:TG):TS:=λ D σ H=>te σ H λ x H1=>g x σ H1 D.nx
theorem qdb(he:PE X e te)(hg:PG X tg g)(hs:swapsWithSole [tg] e pos.line X.env=pure false:=by rfl)(hw:swappedStores [tg] e X.env=pure none:=by rfl)(h1:(assignEach [tg] X.env).map (·.2)=[assign tg X.env]:=by rfl):PS X (.Assign [tg] e pos) (qkv te g):=by
 intro pins s σ H D I h;refine wpAny_Assign_stores (thn (he pins s σ H _ I h) λ v s1 ⟨x,H1,I1,r1,q1⟩=>?_) hs hw;rw[h1];exact thn (hg pins s1 σ H1 x v _ I1 r1 q1) λ _ s2 q=>q
theorem qv(hN:X.N.Nodup)(hi:X.N[i]?=some x)(hx:Loc X.env.scope x)(he:PE X e te)(hs:swapsWith e (some (.Name x w5)) pos.line X.env=pure false:=by rfl)(hf:X.fn x=true∨X.env.scope.names.lookup x=some .local:=by first | exact .inl rfl | exact .inr rfl | assumption):
  PS X (.Assign [.Name x w5] e pos) (qkv te (kc i)):=by
 intro pins s σ H D I h;refine wpAny_Assign_Name (thn (he pins s σ H _ I h) λ v s1 ⟨y,H1,I1,r1,q1⟩=>?_) hs;exact qgm I1 hN hi hx r1 (λ s2 I2=>⟨_,H1,I2,q1⟩) hf
def qn8(c:TT)(tb:TS):TS:=λ D σ H=>∃ W:Nat->St->Hp->Prop,(∃ m,W m σ H)/\∀ m σ H,W m σ H ->
 c σ H λ b H1=>if b=true then ∃ N:St->Hp->Prop,(∀ σ' H',N σ' H'->∃ m',m'<m/\W m' σ' H')/\tb { D with nx:=N,ct:=N,bk:=D.nx } σ H1 else D.nx σ H1
theorem qgo(hp:PassesOwn (model X.prog X.w) X.A X.env X.xe)(hc:PT X c tc)(hb:PSs X body tb):PS X (.While c body [] pos) (qn8 tc tb):=by
 intro pins s σ H D I h;obtain⟨W,⟨m0,w0⟩,turn⟩:=h;refine wpAny_While (codeAny_whileLoop (λ n s'=>∃ σ' H',Inv X pins σ' H' s'/\W n σ' H') ?_ m0 ⟨σ,H,I,w0⟩);rintro n s1 ⟨σ1,H1,I1,w1⟩;refine Jo hp (thn (hc pins s1 σ1 H1 _ I1 (turn n σ1 H1 w1)) λ b s2 ⟨H2,I2,q2⟩=>?_);cases b with
 |true =>
  obtain⟨N,hN,q2⟩:=q2;rw[Vz rfl];refine Jo hp (thn (hb pins s2 σ1 H2 _ I2 q2) λ f s3 q3=>?_);cases f with
  |next =>
   obtain⟨σ3,H3,I3,n3⟩:=q3;obtain⟨m',hm,w3⟩:=hN σ3 H3 n3;exact⟨m',hm,σ3,H3,I3,w3⟩
  |cont =>
   obtain⟨σ3,H3,I3,n3⟩:=q3;obtain⟨m',hm,w3⟩:=hN σ3 H3 n3;exact⟨m',hm,σ3,H3,I3,w3⟩
  |brk=>exact q3
  |ret v=>exact q3
 |false =>
  rw[V0 Zc];exact Jn ⟨σ1,H2,I2,q2⟩
end
structure It where 
 go:Nat->Hp->Prop
 yld:Nat->Hp->V->Hp->Prop
 stop:Nat->Hp->Prop
def jF(X:Cx)(pins:List (Addr×Obj))(H:Hp)(b:Addr):Prop:=
 H b=none/\b≠X.env.locals/\b∉X.fs/\(b∈X.ex∨X.s₀.heap.objs.size<=b)/\(∀ x c,X.env.cells.lookup x=some c->c≠b)/\∀ p∈X.pn++pins,p.1≠b
theorem Inv.fpOk(I:Inv X pins σ H s)(hb:s.heap.objs.size<=b)(hn:H' b=none):jF X pins H' b:=by
 refine⟨hn,Qw (Za I.lt hb),I.nofs hb,.inr (Qu I.sz hb),λ x c e z=>?_,λ p hp z=>?_⟩
 ·obtain⟨v,q⟩:=I.cell x c e;exact absurd (Za q.lt (by rw[z];exact hb)) (Qc _)
 ·exact absurd (Za (Qs (I.pin p hp).1) (by rw[z];exact hb)) (Qc _)
structure Turn(P:Program)(w:World)(K:W.Frag)(tg:Expr)(J:It)(fp:List Addr)(it:Addr)(tn:Nat->Heap->Prop):Prop where
 mem:it∈fp
 obj:∀ i h,tn i h->∀ b∈fp,∃ o,h.get? b=some o/\∀ v,o.data≠.cell v
 keep:∀ i h h',tn i h->(∀ b∈fp,∀ o,h.get? b=some o->h'.get? b=some o)->tn i h'
 item:∀(X:Cx),X.prog=P->X.w=w->X.K=K->X.calm=true->∀(i:Nat)(pins:List (Addr×Obj))(s:Shared)(σ:St)(H:Hp)(E:Value->Shared->Prop),Inv X pins σ H s->(∀ b∈fp,jF X pins H b)->tn i s.heap->J.go i H ->
  wpAny (model P w) X.A (pyNext (.ref it)) (λ r s1=>∃ u,r=some u /\
   wpAny (model P w) X.A (letOwnedTupleGo tg (.ref it) u) (λ _ s2=>∃ x H',Inv X pins σ H' s2/\qV x u/\J.yld i H x H'/\tn (i+1) s2.heap/\∀ b∈fp,H' b=none) E s1) E s
 done:∀(X:Cx),X.prog=P->X.w=w->X.K=K->X.calm=true->∀(i:Nat)(pins:List (Addr×Obj))(s:Shared)(σ:St)(H:Hp)(E:Value->Shared->Prop),Inv X pins σ H s->(∀ b∈fp,jF X pins H b)->tn i s.heap->J.stop i H ->
  wpAny (model P w) X.A (pyNext (.ref it)) (λ r s1=>r=none/\Inv X pins σ H s1) E s
 self:∀(A:Around)(i:Nat)(s:Shared)(Q:Value->Shared->Prop)(E:Value->Shared->Prop),tn i s.heap->Q (.ref it) s->wpAny (model P w) A (pyIter (.ref it)) Q E s
abbrev TI:=St->Hp->(It->Hp->Prop)->Prop
def PIE(X:Cx)(pins:List (Addr×Obj))(σ:St)(tg:Expr)(R:It->Hp->Prop)(gS:Value)(s2:Shared):Prop:=
 ∃(it:Addr)(fp:List Addr)(tn:Nat->Heap->Prop)(J:It)(H':Hp),gS=.ref it/\Inv X pins σ H' s2/\Turn X.prog X.w X.K tg J fp it tn/\tn 0 s2.heap/\(∀ b∈fp,jF X pins H' b)/\R J H'
def PI(X:Cx)(tg iter:Expr)(wi:TI):Prop:=
 ∀(pins:List (Addr×Obj))(s:Shared)(σ:St)(H:Hp)(R:It->Hp->Prop),Inv X pins σ H s->wi σ H R ->
  wpAny (model X.prog X.w) X.A (eval iter X.env) (λ v s1=>wpAny (model X.prog X.w) X.A (pyIter v) (PIE X pins σ tg R) X.xe s1) X.xe s
theorem qiK(ho:s.heap.get? it=some o)(hc:o.cls=.type n)(hd:o.data=.fields vs)(hn:["enumerate","zip","dict_itemiterator","dict_reverseitemiterator","odict_iterator","itertools.zip_longest","itertools.pairwise"].contains n=false)(hQ:Q () s):wpAny M A (letOwnedTupleGo tg (.ref it) u) Q E s:=by
 unfold letOwnedTupleGo;cases tg <;> first
  |exact Vi hQ
  | (cases u <;> first
    |exact Vi hQ
    | (refine Vh (wpAny_load ho ?_)
       rw[hc,hd];show wpAny M A (if (["enumerate","zip","dict_itemiterator","dict_reverseitemiterator","odict_iterator","itertools.zip_longest","itertools.pairwise"].contains n && vs[0]? == some (rawInt _))=true then _ else _) Q E s
       rw[V0 (by intro h;rw[hn,Jv] at h;cases h)];exact Vi hQ))
noncomputable def Itl(K:W.Frag)(a:Addr):It:=
 ⟨λ i H=>∃ xs x,SqL K H a xs/\xs[i]?=some x,λ i H x H'=>H'=H/\∀ xs,SqL K H a xs->xs[i]?=some x,λ i H=>∃ xs,SqL K H a xs/\xs.length<=i⟩
noncomputable def Itt(K:W.Frag)(a:Addr):It:=
 ⟨λ i H=>∃ xs x,SqT K H a xs/\xs[i]?=some x,λ i H x H'=>H'=H/\∀ xs,SqT K H a xs->xs[i]?=some x,λ i H=>∃ xs,SqT K H a xs/\xs.length<=i⟩
noncomputable def Itr(lo:Int)(n:Nat):It:=⟨λ i _=>i<n,λ i H x H'=>H'=H/\x=.int (lo+i),λ i _=>n<=i⟩
theorem qjo{K:W.Frag}(a it:Addr):Turn P w K tg (Itl K a) [it] it (λ i h=>h.IsListIter it a i) where
 mem:=by simp
 obj:=λ i h st b hb=>by
  have e:b=it:=by simpa using hb
  subst e;obtain⟨o,e,c,d⟩:=st;exact⟨o,e,λ v z=>by rw[d] at z;cases z⟩
 keep:=λ i h h' st k=>st.at λ o e=>k it (by simp) o e
 item:=by
  intro X hP hw hK hc i pins s σ H E I hf st hg;subst hP hw hK;obtain⟨xs,x,hq,hx⟩:=hg;obtain⟨its,rv,p,hz⟩:=I.list hq;obtain⟨u,hu,ru⟩:=rv.get hx;obtain⟨f0,f1,f2,f3,f4,f5⟩:=hf it (by simp);refine wpAny_pyNext_list_item st p.isList (x:=u) (by simpa using hu) λ h' c5 sb=>?_
  have I1:Inv X pins σ H { s with heap:=h' }:=I.turned (t':=s.toks) (λ b o hb e=>(sb.2 b hb).trans e) f0 f1 f3 f4 f5;obtain⟨o,e,c,d⟩:=id c5;exact⟨u,rfl,qiK (s:={ s with heap:=h' }) e c d (by decide) ⟨x,H,I1,ru,⟨rfl,λ ys hy=>by rw[I.list_inj hy hq];exact hx⟩,c5,λ b hb=>(hf b hb).1⟩⟩
 done:=by
  intro X hP hw hK hc i pins s σ H E I hf st hg;subst hP hw hK;obtain⟨xs,hq,hx⟩:=hg;obtain⟨its,rv,p,hz⟩:=I.list hq;obtain⟨f0,f1,f2,f3,f4,f5⟩:=hf it (by simp);have hl:=rv.length;exact wpAny_pyNext_list_end (I.ok.hd hc) st p.isList (by simp;omega) λ h' eb=>⟨rfl,I.turned (t':=s.toks) (λ b o hb e=>eb b o hb e) f0 f1 f3 f4 f5⟩
 self:=λ _ _ _ _ _ st h=>wpAny_pyIter_listiter st h
theorem qhA{K:W.Frag}(a it:Addr):Turn P w K tg (Itt K a) [it] it (λ i h=>h.IsTupleIter it a i) where
 mem:=by simp
 obj:=λ i h st b hb=>by
  have e:b=it:=by simpa using hb
  subst e;obtain⟨o,e,c,d⟩:=st;exact⟨o,e,λ v z=>by rw[d] at z;cases z⟩
 keep:=λ i h h' st k=>st.at λ o e=>k it (by simp) o e
 item:=by
  intro X hP hw hK hc i pins s σ H E I hf st hg;subst hP hw hK;obtain⟨xs,x,hq,hx⟩:=hg;obtain⟨its,rv,p,hz⟩:=I.tuple hq;obtain⟨u,hu,ru⟩:=rv.get hx;obtain⟨f0,f1,f2,f3,f4,f5⟩:=hf it (by simp);refine wpAny_pyNext_tuple_item st (show s.heap.IsTuple a its.toArray from p) (x:=u) (by simpa using hu) λ h' c5 sb=>?_
  have I1:Inv X pins σ H { s with heap:=h' }:=I.turned (t':=s.toks) (λ b o hb e=>(sb.2 b hb).trans e) f0 f1 f3 f4 f5;obtain⟨o,e,c,d⟩:=id c5;exact⟨u,rfl,qiK (s:={ s with heap:=h' }) e c d (by decide) ⟨x,H,I1,ru,⟨rfl,λ ys hy=>by rw[I.tuple_inj hy hq];exact hx⟩,c5,λ b hb=>(hf b hb).1⟩⟩
 done:=by
  intro X hP hw hK hc i pins s σ H E I hf st hg;subst hP hw hK;obtain⟨xs,hq,hx⟩:=hg;obtain⟨its,rv,p,hz⟩:=I.tuple hq;obtain⟨f0,f1,f2,f3,f4,f5⟩:=hf it (by simp);have hl:=rv.length;exact wpAny_pyNext_tuple_end (I.ok.hd hc) st (show s.heap.IsTuple a its.toArray from p) (by simp;omega) λ h' eb=>⟨rfl,I.turned (t':=s.toks) (λ b o hb e=>eb b o hb e) f0 f1 f3 f4 f5⟩
 self:=λ _ _ _ _ _ st h=>wpAny_pyIter_tupleiter st h
theorem qhB{K:W.Frag}(it:Addr)(lo:Int)(n:Nat):Turn P w K tg (Itr lo n) [it] it (λ i h=>IsRangeIter h it (lo+(i:Nat)*1) ((n:Int)-(i:Nat)) 1) where
 mem:=by simp
 obj:=λ i h st b hb=>by
  have e:b=it:=by simpa using hb
  subst e;exact⟨_,st,λ v z=>by
   have z':Data.fields _=Data.cell v:=z;cases z'⟩
 keep:=λ i h h' st k=>k it (by simp) _ st
 item:=by
  intro X hP hw hK hc i pins s σ H E I hf st hg;subst hP hw hK;obtain⟨f0,f1,f2,f3,f4,f5⟩:=hf it (by simp);have W:=Walks.range (prog:=X.prog) (w:=X.w) (I.ok.hd hc) it lo 1 n;refine W.item i s _ _ hg st λ v h' tk hv c5 kk=>?_
  obtain⟨t,rfl⟩:=hv;have I1:Inv X pins σ H { s with heap:=h',toks:=tk }:=I.turned (λ b o hb e=>kk b o (by simpa using hb) e) f0 f1 f3 f4 f5;refine⟨_,rfl,qiK (s:={ s with heap:=h',toks:=tk }) (n:="range_iterator") c5 rfl rfl (by decide) ⟨.int (lo+i),H,I1,⟨t,?_⟩,⟨rfl,rfl⟩,c5,λ b hb=>(hf b hb).1⟩⟩;rw[Int.mul_one]
 done:=by
  intro X hP hw hK hc i pins s σ H E I hf st hg;subst hP hw hK;obtain⟨f0,f1,f2,f3,f4,f5⟩:=hf it (by simp);exact wpAny_pyNext_range_end (I.ok.hd hc) st (by have:n<=i:=hg;omega) λ h' eb=>⟨rfl,I.turned (t':=s.toks) (λ b o hb e=>eb b o hb e) f0 f1 f3 f4 f5⟩
 self:=λ _ _ _ _ _ st h=>wpAny_pyIter_rangeiter st h
section
variable {X:Cx}{tg:Expr}
def qnO(K:W.Frag)(tl:TE):TI:=λ σ H R=>tl σ H λ x H1=>∃ a,x=.ref a/\(∃ xs,SqL K H1 a xs)/\R (Itl K a) H1
def qqs(K:W.Frag)(tl:TE):TI:=λ σ H R=>tl σ H λ x H1=>∃ a,x=.ref a/\(∃ xs,SqT K H1 a xs)/\R (Itt K a) H1
theorem zz(hl:PE X l tl):PI X tg l (qnO X.K tl):=by
 intro pins s σ H R I h;refine thn (hl pins s σ H _ I h) λ v s1 ⟨x,H1,I1,r1,q1⟩=>?_
 obtain⟨a,e,⟨xs,hq⟩,q⟩:=q1;subst e;cases r1
 obtain⟨its,rv,p,hz⟩:=I1.list hq;refine Ua p.isList ?_;refine⟨s1.heap.objs.size,[s1.heap.objs.size],_,_,H1,rfl,I1.kept (t':=s1.toks) λ b o e=>XG _ e,qjo a _,⟨_,Yw _ rfl,rfl,rfl⟩,λ b hb=>?_,q⟩;have e:b=s1.heap.objs.size:=by simpa using hb
 subst e;exact I1.fpOk (Q9 _) (I1.hok.fresh (Q9 _))
theorem qkw(hl:PE X l tl):PI X tg l (qqs X.K tl):=by
 intro pins s σ H R I h;refine thn (hl pins s σ H _ I h) λ v s1 ⟨x,H1,I1,r1,q1⟩=>?_
 obtain⟨a,e,⟨xs,hq⟩,q⟩:=q1;subst e;cases r1
 obtain⟨its,rv,p,hz⟩:=I1.tuple hq;refine wpAny_pyIter_tuple (show s1.heap.IsTuple a its.toArray from p) ?_;refine⟨s1.heap.objs.size,[s1.heap.objs.size],_,_,H1,rfl,I1.kept (t':=s1.toks) λ b o e=>XG _ e,qhA a _,⟨_,Yw _ rfl,rfl,rfl⟩,λ b hb=>?_,q⟩;have e:b=s1.heap.objs.size:=by simpa using hb
 subst e;exact I1.fpOk (Q9 _) (I1.hok.fresh (Q9 _))
theorem qkx {lo:Int}(I:Inv X pins σ H s)(h1:-(2^62)<=lo)(h2:lo<2^62)(h3:-(2^62)<=hi)(h4:hi<2^62)(q:R (Itr lo (hi-lo).toNat) H):wpAny (model X.prog X.w) X.A (pyIter (.ref s.heap.objs.size)) (PIE X pins σ tg R) E { s with heap:=s.heap.push { cls:=.type "range",data:=.fields #[.int lo t,.int hi u,.int 1 v] },toks:=tk }:=by
 refine wpAny_pyIter_range (IsRange.new ..) (small_one h1 h2 h3 h4) ?_;have I1:Inv X pins σ H { s with heap:=s.heap.push { cls:=.type "range",data:=.fields #[.int lo t,.int hi u,.int 1 v] },toks:=tk }:=I.kept λ b o e=>XG _ e
 refine⟨(s.heap.push { cls:=.type "range",data:=.fields #[.int lo t,.int hi u,.int 1 v] }).objs.size,[(s.heap.push { cls:=.type "range",data:=.fields #[.int lo t,.int hi u,.int 1 v] }).objs.size],_,_,H,rfl,
  I1.kept (t':=tk) λ b o e=>XG _ e,qhB _ lo (hi-lo).toNat,?_,λ b hb=>?_,q⟩
 ·have e1:lo+((0:Nat):Int)*1=lo:=by simp
  have e2:(((hi-lo).toNat:Nat):Int)-((0:Nat):Int)=Builtin.Range.rangeSize lo hi 1:=by rw[rangeSize_one];split <;> omega
  show IsRangeIter _ _ (lo+((0:Nat):Int)*1) ((((hi-lo).toNat:Nat):Int)-((0:Nat):Int)) 1
  rw[e1,e2];exact Yw _ rfl
 ·have e:b=(s.heap.push { cls:=.type "range",data:=.fields #[.int lo t,.int hi u,.int 1 v] }).objs.size:=by simpa using hb
  subst e;exact I1.fpOk (Q9 _) (I1.hok.fresh (Q9 _))
def qpi(ta:TA):TI:=λ σ H R=>ta σ H λ vs H1=>∃ j:Int,vs=[.int j]/\-(2^62)<=j/\j<2^62/\R (Itr 0 j.toNat) H1
theorem zN(hg:Gl X "range")(hm:X.mg "range"=none)(ha:PA X [a] ta)(hs:starEach [a] X.env=[(false,eval a X.env)]:=by rfl):PI X tg (.Call (.Name "range" p) [a] [] pos) (qpi ta):=by
 intro pins s σ H R I h;refine Call_ (qc8 I hg hm boot_range (Xe (thn (ha pos pins s σ H _ I h) λ us s1 ⟨vs,H1,I1,r1,q1⟩=>?_) hs rfl));obtain⟨j,e,q1,q2,q⟩:=q1;subst e;cases r1 with
 |cons r rr =>
  cases rr
  obtain⟨t,rfl⟩:=r;exact call_range_1 (qkx I1 (by omega) (by omega) q1 q2 (by simpa using q))
def qqt(wi:TI)(g:TG)(tb:TS):TS:=λ D σ H=>wi σ H λ J H1=>∃ W:Nat->Nat->St->Hp->Prop,(∃ m,W 0 m σ H1)/\∀ i m σ H,W i m σ H ->
 (J.stop i H/\D.nx σ H)∨(J.go i H/\∃ N:St->Hp->Prop,(∀ σ' H',N σ' H'->∃ m',m'<m/\W (i+1) m' σ' H')/\∀ x H',J.yld i H x H'->g x σ H' λ σ2 H2=>tb { D with nx:=N,ct:=N,bk:=D.nx } σ2 H2)
noncomputable def ku(fp:List Addr)(h:Heap):List (Addr×Obj):=fp.filterMap λ b=>(h.get? b).map λ o=>(b,o)
theorem yD(hb:b∈fp)(e:h.get? b=some o):(b,o)∈ku fp h:=List.mem_filterMap.mpr ⟨b,hb,by rw[e];rfl⟩
theorem qjp(hp:p∈ku fp h):p.1∈fp/\h.get? p.1=some p.2:=by
 obtain⟨b,hb,e⟩:=List.mem_filterMap.mp hp;cases q:h.get? b with
 |none=>rw[q] at e;cases e
 |some o =>
  rw[q] at e;have e':(b,o)=p:=Option.some.inj e;subst e';exact⟨hb,q⟩
theorem Inv.pinned(I:Inv X pins σ H s)(hf:∀ b∈fp,jF X pins H b)(ho:∀ b∈fp,∃ o,s.heap.get? b=some o/\∀ v,o.data≠.cell v):Inv X (pins++ku fp s.heap) σ H s:=
 I.pins_of λ p hp=>(U3.mp hp).elim (λ z=>I.pin p (XS _ z)) λ z=>by
  obtain⟨hb,e⟩:=qjp z;obtain⟨f0,f1,f2,_⟩:=hf p.1 hb;obtain⟨o,e',d⟩:=ho p.1 hb;rw[e] at e';cases e';exact⟨e,f0,f1,f2,d⟩
theorem Inv.unpinned(I:Inv X (pins++pl) σ H s):Inv X pins σ H s:=I.pins_of λ p hp=>I.pin p (XS _ (Yk _ hp))
theorem yg(hp:PassesOwn (model X.prog X.w) X.A X.env X.xe)(hc:X.calm=true)(hi:PI X tg iter wi)(hg:PG X tg g)(hb:PSs X body tb)(hs:∀ x,foldedSetIterable iter X.env x=pure x:=by intro _;rfl):PS X (.For tg iter body [] pos) (qqt wi g tb):=by
 intro pins s σ H D I h;refine wpAny_For (thn (hi pins s σ H _ I h) λ v s1 h1=>thn h1 λ gS s2 h2=>?_) hs;obtain⟨it,fp,tn,J,H2,e,I2,T,l8,f2,W,⟨m0,w0⟩,turn⟩:=h2;subst e;have V4:∀{H':Hp},(∀ b∈fp,H' b=none)->∀ b∈fp,jF X pins H' b:=λ hn b hb=>⟨hn b hb,(f2 b hb).2⟩
 refine codeAny_forLoop_any (λ n s'=>∃ i σ' H',Inv X pins σ' H' s'/\tn i s'.heap/\(∀ b∈fp,H' b=none)/\W i n σ' H') ?_ m0 ⟨0,σ,H2,I2,l8,λ b hb=>(f2 b hb).1,w0⟩;rintro n s3 ⟨i,σ3,H3,I3,K3,bS,w3⟩;rcases turn i n σ3 H3 w3 with⟨stop,qn⟩|⟨go,N,hN,step⟩
 ·refine Jo hp (thn (T.done X rfl rfl rfl hc i pins s3 σ3 H3 X.xe I3 (V4 bS) K3 stop) λ r s4 ⟨hr,I4⟩=>?_);subst hr;exact Jn ⟨σ3,H3,I4,qn⟩
 ·refine Jo hp (thn (T.item X rfl rfl rfl hc i pins s3 σ3 H3 X.xe I3 (V4 bS) K3 go) λ r s4 ⟨u,hr,h4⟩=>?_);subst hr;refine Jo hp (thn h4 λ _ s5 ⟨x,H5,I5,r5,y5,V5,pC⟩=>?_);have I5':=I5.pinned (V4 pC) (T.obj _ _ V5);refine Jo hp (thn (hg _ s5 σ3 H5 x u _ I5' r5 (step x H5 y5)) λ _ s6 ⟨σ6,H6,I6,q6⟩=>?_);refine Jo hp (thn (hb _ s6 σ6 H6 _ I6 q6) λ f s7 q7=>?_);have again:∀{σ7:St}{H7:Hp},Inv X (pins++ku fp s5.heap) σ7 H7 s7->N σ7 H7->∃ m,m<n/\∃ i σ' H',Inv X pins σ' H' s7/\tn i s7.heap/\(∀ b∈fp,H' b=none)/\W i m σ' H':=λ{σ7 H7} I7 n7=>by
   obtain⟨m',hm,w7⟩:=hN σ7 H7 n7;refine⟨m',hm,i+1,σ7,H7,I7.unpinned,T.keep _ _ _ V5 λ b hb o e=>(I7.pin (b,o) (XS _ (XS _ (yD hb e)))).1,λ b hb=>?_,w7⟩;obtain⟨o,e,d⟩:=T.obj _ _ V5 b hb;exact(I7.pin (b,o) (XS _ (XS _ (yD hb e)))).2.1
  cases f with
  |next=>obtain⟨σ7,H7,I7,n7⟩:=q7;exact again I7 n7
  |cont=>obtain⟨σ7,H7,I7,n7⟩:=q7;exact again I7 n7
  |brk=>obtain⟨σ7,H7,I7,q7⟩:=q7;exact⟨σ7,H7,I7.unpinned,q7⟩
  |ret v=>obtain⟨x7,σ7,H7,I7,r7,q7⟩:=q7;exact⟨x7,σ7,H7,I7.unpinned,r7,q7⟩
end
theorem jX{K:W.Frag}{g:TG}{tb:TS}{D:Ends}(Pv:Nat->St->Hp->Prop)(h0:Pv 0 σ H)(hl:∀ i σ H,i<=xs.length->Pv i σ H->SqL K H a xs)(hs:∀ i x σ H,xs[i]?=some x->Pv i σ H->g x σ H λ σ2 H2=>tb { D with nx:=Pv (i+1),ct:=Pv (i+1),bk:=D.nx } σ2 H2)(hd:∀ σ H,Pv xs.length σ H->D.nx σ H):
  ∃ W:Nat->Nat->St->Hp->Prop,(∃ m,W 0 m σ H)/\∀ i m σ H,W i m σ H ->
   ((Itl K a).stop i H/\D.nx σ H)∨((Itl K a).go i H/\∃ N:St->Hp->Prop,(∀ σ' H',N σ' H'->∃ m',m'<m/\W (i+1) m' σ' H')/\∀ x H',(Itl K a).yld i H x H'->g x σ H' λ σ2 H2=>tb { D with nx:=N,ct:=N,bk:=D.nx } σ2 H2):=by
 refine⟨λ i m σ H=>m=xs.length-i/\i<=xs.length/\Pv i σ H,⟨xs.length,by simp,Va _,h0⟩,?_⟩;rintro i m σ H ⟨rfl,hi,p⟩;have q:=hl i σ H hi p;by_cases c9:i<xs.length
 ·refine .inr ⟨⟨xs,xs[i],q,by simp[c9]⟩,Pv (i+1),λ σ' H' p'=>⟨xs.length-(i+1),by omega,rfl,c9,p'⟩,λ x H' y=>?_⟩;obtain⟨e,y⟩:=y;subst e;exact hs i x σ _ (y xs q) p
 ·have e:i=xs.length:=by omega
  subst e;exact .inl ⟨⟨xs,q,Q9 _⟩,hd σ H p⟩
theorem jl{lo:Int}{g:TG}{tb:TS}{D:Ends}(Pv:Nat->St->Hp->Prop)(h0:Pv 0 σ H)(hs:∀ i σ H,i<n->Pv i σ H->g (.int (lo+i)) σ H λ σ2 H2=>tb { D with nx:=Pv (i+1),ct:=Pv (i+1),bk:=D.nx } σ2 H2)(hd:∀ σ H,Pv n σ H->D.nx σ H):
  ∃ W:Nat->Nat->St->Hp->Prop,(∃ m,W 0 m σ H)/\∀ i m σ H,W i m σ H ->
   ((Itr lo n).stop i H/\D.nx σ H)∨((Itr lo n).go i H/\∃ N:St->Hp->Prop,(∀ σ' H',N σ' H'->∃ m',m'<m/\W (i+1) m' σ' H')/\∀ x H',(Itr lo n).yld i H x H'->g x σ H' λ σ2 H2=>tb { D with nx:=N,ct:=N,bk:=D.nx } σ2 H2):=by
 refine⟨λ i m σ H=>m=n-i/\i<=n/\Pv i σ H,⟨n,by simp,Va _,h0⟩,?_⟩;rintro i m σ H ⟨rfl,hi,p⟩;by_cases c9:i<n
 ·refine .inr ⟨c9,Pv (i+1),λ σ' H' p'=>⟨n-(i+1),by omega,rfl,c9,p'⟩,λ x H' y=>?_⟩;obtain⟨e,y⟩:=y;subst e y;exact hs i σ _ c9 p
 ·have e:i=n:=by omega
  subst e;exact .inl ⟨Q9 _,hd σ H p⟩
abbrev R2:=V->V->Hp->VK->Prop
def OpR(X:Cx)(f:Value->Value->Sem Value)(r:R2):Prop:=
 ∀(pins:List (Addr×Obj))(s:Shared)(σ:St)(H:Hp)(x y:V)(v u:Value)(Q:VK),Inv X pins σ H s->qV x v->qV y u->r x y H Q ->
  wpAny (model X.prog X.w) X.A (f v u) (EP X pins σ Q) X.xe s
def UnR(X:Cx)(f:Value->Sem Value)(r:V->Hp->VK->Prop):Prop:=
 ∀(pins:List (Addr×Obj))(s:Shared)(σ:St)(H:Hp)(x:V)(v:Value)(Q:VK),Inv X pins σ H s->qV x v->r x H Q ->
  wpAny (model X.prog X.w) X.A (f v) (EP X pins σ Q) X.xe s
def y9(X:Cx)(f:Value)(r:List V->Hp->VK->Prop):Prop:=
 ∀(pins:List (Addr×Obj))(s:Shared)(σ:St)(H:Hp)(xs:List V)(us:List Value)(Q:VK),Inv X pins σ H s->qL xs us->r xs H Q ->
  wpAny (model X.prog X.w) X.A (call f us) (EP X pins σ Q) X.xe s
def tOp(r:R2)(ta tb:TE):TE:=λ σ H Q=>ta σ H λ x H1=>tb σ H1 λ y H2=>r x y H2 Q
def tUn(r:V->Hp->VK->Prop)(ta:TE):TE:=λ σ H Q=>ta σ H λ x H1=>r x H1 Q
def rI(C:Int->Int->Prop)(g:Int->Int->V):R2:=λ x y H Q=>∃ i j,x=.int i/\y=.int j/\C i j/\Q (g i j) H
def rI0(g:Int->Int->V):R2:=λ x y H Q=>∃ i j,x=.int i/\y=.int j/\Q (g i j) H
def rU(g:Int->V):V->Hp->VK->Prop:=λ x H Q=>∃ i,x=.int i/\Q (g i) H
section
variable {X:Cx}{a b c:Expr}{ta tb tc:TE}{pos:Pos}
theorem qn9(ha:PE X a ta)(hb:PE X b tb){R:V->V->Hp->Prop}(I:Inv X pins σ H s)(h:ta σ H λ x H1=>tb σ H1 λ y H2=>R x y H2){f:Value->Value->Sem Value}(hf:∀ v u s2 x y H2,Inv X pins σ H2 s2->qV x v->qV y u->R x y H2->wpAny (model X.prog X.w) X.A (f v u) Q X.xe s2):
  wpAny (model X.prog X.w) X.A (eval a X.env) (λ v s₁=>wpAny (model X.prog X.w) X.A (eval b X.env) (λ u s₂=>wpAny (model X.prog X.w) X.A (f v u) Q X.xe s₂) X.xe s₁) X.xe s:=by
 refine thn (ha pins s σ H _ I h) λ v s1 ⟨x,H1,I1,r1,q1⟩=>?_
 refine thn (hb pins s1 σ H1 _ I1 q1) λ u s2 ⟨y,H2,I2,r2,q2⟩=>?_
 exact hf v u s2 x y H2 I2 r1 r2 q2
theorem qr(ho:OpR X (binaryOp op) r)(ha:PE X a ta)(hb:PE X b tb):PE X (.BinOp a op b pos) (tOp r ta tb):=by
 intro pins s σ H Q I h;exact wpAny_BinOp (qn9 ha hb I h λ v u s2 x y H2 I2 rx ry q=>ho pins s2 σ H2 x y v u Q I2 rx ry q)
theorem qbu(ho:UnR X (unaryOp op) r)(ha:PE X a ta):PE X (.UnaryOp op a pos) (tUn r ta):=by
 intro pins s σ H Q I h;exact UnaryOp_ (thn (ha pins s σ H _ I h) λ v s1 ⟨x,H1,I1,r1,q1⟩=>ho pins s1 σ H1 x v Q I1 r1 q1)
theorem opI{g:Int->Int->Int}(rule:∀(i j:Int)(t u:Tok)(s:Shared)(Q:Value->Shared->Prop)(E:Value->Shared->Prop),C i j->Q (.int (g i j) s.toks) { s with toks:=s.toks+1 }->wpAny (model X.prog X.w) X.A (f (.int i t) (.int j u)) Q E s):
  OpR X f (rI C λ i j=>.int (g i j)):=by
 intro pins s σ H x y v u Q I rx ry h;obtain⟨i,j,rfl,rfl,hc,q⟩:=h;obtain⟨t,rfl⟩:=rx;obtain⟨t',rfl⟩:=ry;exact rule i j t t' s _ _ hc ⟨.int (g i j),H,I.tok _,⟨_,rfl⟩,q⟩
theorem qoa{g:Int->Int->Int}(rule:∀(i j:Int)(t u:Tok)(s:Shared)(Q:Value->Shared->Prop)(E:Value->Shared->Prop),Q (.int (g i j) s.toks) { s with toks:=s.toks+1 }->wpAny (model X.prog X.w) X.A (f (.int i t) (.int j u)) Q E s):
  OpR X f (rI0 λ i j=>.int (g i j)):=by
 intro pins s σ H x y v u Q I rx ry h;obtain⟨i,j,rfl,rfl,q⟩:=h;obtain⟨t,rfl⟩:=rx;obtain⟨t',rfl⟩:=ry;exact rule i j t t' s _ _ ⟨.int (g i j),H,I.tok _,⟨_,rfl⟩,q⟩
theorem qpj{g:Int->Int->Bool}(rule:∀(i j:Int)(t u:Tok)(s:Shared)(Q:Value->Shared->Prop)(E:Value->Shared->Prop),Q (.bool (g i j)) s->wpAny (model X.prog X.w) X.A (f (.int i t) (.int j u)) Q E s):
  OpR X f (rI0 λ i j=>.bl (g i j)):=by
 intro pins s σ H x y v u Q I rx ry h;obtain⟨i,j,rfl,rfl,q⟩:=h;obtain⟨t,rfl⟩:=rx;obtain⟨t',rfl⟩:=ry;exact rule i j t t' s _ _ ⟨.bl (g i j),H,I,rfl,q⟩
def qpk(i j:Int):Prop:=0<j/\j<1073741824
def qob(i j:Int):Prop:=(-(2^64)<i/\i<2^64)∨(-(2^64)<j/\j<2^64)
theorem qob.ok(h:qob i j):IntMulOk i j:=by
 rcases h with⟨h1,h2⟩|⟨h1,h2⟩
 ·exact .of_left (intBits_le_64 h1 h2)
 ·exact .of_right (intBits_le_64 h1 h2)
theorem qhC(k:Nat):(0:Int)<=2^k:=by
 rw[two_pow_cast];exact Zd _
theorem zR:OpR X (binaryOp .Add) (rI0 λ i j=>.int (i+j)):=qoa λ _ _ _ _ _ _ _ q=>add_int q
theorem qfg:OpR X (binaryOp .Sub) (rI0 λ i j=>.int (i-j)):=qoa λ _ _ _ _ _ _ _ q=>sub_int q
theorem qaU:OpR X (binaryOp .Mult) (rI qob λ i j=>.int (i*j)):=opI λ _ _ _ _ _ _ _ hc q=>mul_int q hc.ok
theorem jb:OpR X (binaryOp .FloorDiv) (rI qpk λ i j=>.int (i / j)):=opI λ i j _ _ _ _ _ hc q=>by
 have h1:(0:Int)<j:=hc.1;have h2:j<1073741824:=hc.2;exact floordiv_int (by omega) (by rw[Int.fdiv_eq_ediv_of_nonneg i (by omega)];exact q) (.inl (PyProof.noPylong_small (by omega)))
theorem zr:OpR X (binaryOp .Mod) (rI (λ _ j=>0<j) λ i j=>.int (i % j)):=opI λ i j _ _ _ _ _ hc q=>by
 have h1:(0:Int)<j:=hc;exact mod_int' (by omega) (by rw[Int.fmod_eq_emod_of_nonneg i (by omega)];exact q)
theorem qoc:OpR X (binaryOp .RShift) (rI (λ _ j=>0<=j) λ i j=>.int (i / 2^j.toNat)):=opI λ i j _ _ _ _ _ hc q =>
 rshift_int hc (by rw[Int.fdiv_eq_ediv_of_nonneg i (qhC _)];exact q)
theorem qod:OpR X (binaryOp .BitAnd) (rI0 λ i j=>.int (Builtin.bitAnd i j)):=qoa λ _ _ _ _ _ _ _ q=>and_int q
theorem unI{g:Int->Int}(rule:∀(i:Int)(t:Tok)(s:Shared)(Q:Value->Shared->Prop)(E:Value->Shared->Prop),Q (.int (g i) s.toks) { s with toks:=s.toks+1 }->wpAny (model X.prog X.w) X.A (f (.int i t)) Q E s):
  UnR X f (rU λ i=>.int (g i)):=by
 intro pins s σ H x v Q I rx h;obtain⟨i,rfl,q⟩:=h;obtain⟨t,rfl⟩:=rx;exact rule i t s _ _ ⟨.int (g i),H,I.tok _,⟨_,rfl⟩,q⟩
theorem vi:UnR X (unaryOp .USub) (rU λ i=>.int (-i)):=unI λ _ _ _ _ _ q=>neg_int q
end
noncomputable def qpl:V->V->Bool
 |.non,.non=>true|.non,.int _=>true|.int _,.non=>true|.non,.bl _=>true|.bl _,.non=>true|.non,.str _=>true|.str _,.non=>true
 |.int _,.int _=>true|.bl _,.bl _=>true|.str _,.str _=>true|.byt _,.byt _=>true
 |.int _,.str _=>true|.str _,.int _=>true|.bl _,.str _=>true|.str _,.bl _=>true
 |_,_=>false
def rEq:R2:=λ x y H Q=>qpl x y=true/\Q (.bl (decide (x=y))) H
def rNe:R2:=λ x y H Q=>qpl x y=true/\Q (.bl (!decide (x=y))) H
theorem qiL:decide (V.int i=V.int j)=(i == j):=by
 rw[U4];simp
theorem qky:decide (V.bl i=V.bl j)=(i == j):=by
 rw[U4];simp
theorem qiM:decide (V.str i=V.str j)=(i == j):=by
 rw[U4];simp
theorem qiN:decide (V.byt i=V.byt j)=(i.toList == j.toList):=by
 rw[U4];cases i
 cases j
 simp
section
variable {X:Cx}{a b c:Expr}{ta tb tc:TE}{pos:Pos}
theorem q9(I:Inv X pins σ H s)(q:Q (.bl k) H)(e:k=k'):EP X pins σ Q (.bool k') s:=by
 subst e;exact⟨.bl k,H,I,rfl,q⟩
theorem zp:OpR X (compareOp .Eq) rEq:=by
 intro pins s σ H x y v u Q I rx ry h;obtain⟨hs,q⟩:=h;cases x with
 |non =>
  cases rx
  cases y with
  |non=>cases ry;exact PySem.EqNone.eq_none_none (q9 I q (by simp))
  |bl j=>cases ry;exact PySem.EqNone.eq_none_bool (q9 I q (by simp))
  |int j=>obtain⟨t',rfl⟩:=ry;exact PySem.EqNone.eq_none_int (q9 I q (by simp))
  |str j=>obtain⟨t',rfl⟩:=ry;exact PySem.EqNone.eq_none_str (q9 I q (by simp))
  |_=>exact absurd (show false=true from hs) Zc
 |bl i =>
  cases rx
  cases y with
  |non=>cases ry;exact PySem.EqNone.eq_bool_none (q9 I q (by simp))
  |bl j=>cases ry;exact eq_bool (q9 I q qky)
  |str j=>obtain⟨t',rfl⟩:=ry;exact PySem.EqMixed.eq_bool_str (q9 I q (by simp))
  |_=>exact absurd (show false=true from hs) Zc
 |int i =>
  obtain⟨t,rfl⟩:=rx;cases y with
  |non=>cases ry;exact PySem.EqNone.eq_int_none (q9 I q (by simp))
  |int j=>obtain⟨t',rfl⟩:=ry;exact eq_int (q9 I q qiL)
  |str j=>obtain⟨t',rfl⟩:=ry;exact PySem.EqMixed.eq_int_str (q9 I q (by simp))
  |_=>exact absurd (show false=true from hs) Zc
 |str i =>
  obtain⟨t,rfl⟩:=rx;cases y with
  |non=>cases ry;exact PySem.EqNone.eq_str_none (q9 I q (by simp))
  |bl j=>cases ry;exact PySem.EqMixed.eq_str_bool (q9 I q (by simp))
  |int j=>obtain⟨t',rfl⟩:=ry;exact PySem.EqMixed.eq_str_int (q9 I q (by simp))
  |str j=>obtain⟨t',rfl⟩:=ry;exact eq_str (q9 I q qiM)
  |_=>exact absurd (show false=true from hs) Zc
 |byt i =>
  obtain⟨t,rfl⟩:=rx;cases y with
  |byt j=>obtain⟨t',rfl⟩:=ry;exact W.eq_bytes (q9 I q qiN)
  |_=>exact absurd (show false=true from hs) Zc
 |_=>cases y <;> exact absurd (show false=true from hs) Zc
theorem qkz:OpR X (compareOp .NotEq) rNe:=by
 intro pins s σ H x y v u Q I rx ry h;obtain⟨hs,q⟩:=h;cases x with
 |non =>
  cases rx
  cases y with
  |non=>cases ry;exact PySem.EqNone.ne_none_none (q9 I q (by simp))
  |bl j=>cases ry;exact PySem.EqNone.ne_none_bool (q9 I q (by simp))
  |int j=>obtain⟨t',rfl⟩:=ry;exact PySem.EqNone.ne_none_int (q9 I q (by simp))
  |str j=>obtain⟨t',rfl⟩:=ry;exact PySem.EqNone.ne_none_str (q9 I q (by simp))
  |_=>exact absurd (show false=true from hs) Zc
 |bl i =>
  cases rx
  cases y with
  |non=>cases ry;exact PySem.EqNone.ne_bool_none (q9 I q (by simp))
  |bl j=>cases ry;exact ne_bool (q9 I q (congrArg not qky))
  |str j=>obtain⟨t',rfl⟩:=ry;exact PySem.EqMixed.ne_bool_str (q9 I q (by simp))
  |_=>exact absurd (show false=true from hs) Zc
 |int i =>
  obtain⟨t,rfl⟩:=rx;cases y with
  |non=>cases ry;exact PySem.EqNone.ne_int_none (q9 I q (by simp))
  |int j=>obtain⟨t',rfl⟩:=ry;exact ne_int (q9 I q (congrArg not qiL))
  |str j=>obtain⟨t',rfl⟩:=ry;exact PySem.EqMixed.ne_int_str (q9 I q (by simp))
  |_=>exact absurd (show false=true from hs) Zc
 |str i =>
  obtain⟨t,rfl⟩:=rx;cases y with
  |non=>cases ry;exact PySem.EqNone.ne_str_none (q9 I q (by simp))
  |bl j=>cases ry;exact PySem.EqMixed.ne_str_bool (q9 I q (by simp))
  |int j=>obtain⟨t',rfl⟩:=ry;exact PySem.EqMixed.ne_str_int (q9 I q (by simp))
  |str j=>obtain⟨t',rfl⟩:=ry;exact ne_str (q9 I q (congrArg not qiM))
  |_=>exact absurd (show false=true from hs) Zc
 |byt i =>
  obtain⟨t,rfl⟩:=rx;cases y with
  |byt j=>obtain⟨t',rfl⟩:=ry;exact W.ne_bytes (q9 I q (congrArg not qiN))
  |_=>exact absurd (show false=true from hs) Zc
 |_=>cases y <;> exact absurd (show false=true from hs) Zc
theorem qpm:OpR X (compareOp .Lt) (rI0 λ i j=>.bl (decide (i<j))):=qpj λ _ _ _ _ _ _ _ q=>lt_int q
theorem qaN:OpR X (compareOp .Gt) (rI0 λ i j=>.bl (decide (j<i))):=qpj λ _ _ _ _ _ _ _ q=>gt_int q
theorem qjq:OpR X (compareOp .In) (λ x y H Q=>∃ i j,x=.str i/\y=.str j/\Q (.bl (!(Builtin.Str.occurrences j i 0 j.length 1).isEmpty)) H):=by
 intro pins s σ H x y v u Q I rx ry h;obtain⟨i,j,rfl,rfl,q⟩:=h;obtain⟨t,rfl⟩:=rx;obtain⟨t',rfl⟩:=ry;exact in_str (q9 I q rfl)
theorem qhD:OpR X (compareOp .Is) (λ x y H Q=>y=.non/\Q (.bl (decide (x=.non))) H):=by
 intro pins s σ H x y v u Q I rx ry h;obtain⟨rfl,q⟩:=h;cases ry
 refine is_none_gen (q9 I q ?_);cases x <;> first
  |(cases rx;rfl)
  |(obtain⟨t,rfl⟩:=rx;rfl)
theorem qD(b:Expr)(h:op≠.In:=by decide)(h2:op≠.NotIn:=by decide):behindInMarks op b=false:=by
 have e1:(op == CmpOp.In)=false:=by cases op <;> first|rfl|exact absurd rfl h
 have e2:(op == CmpOp.NotIn)=false:=by cases op <;> first|rfl|exact absurd rfl h2
 cases b <;> simp[behindInMarks,e1,e2]
theorem ya(ho:OpR X (compareOp op) r)(ha:PE X a ta)(hb:PE X b tb)(hm:behindInMarks op b=false):PE X (.Compare a [op] [b] pos) (tOp r ta tb):=by
 intro pins s σ H Q I h;exact wpAny_Compare1 (qn9 ha hb I h λ v u s2 x y H2 I2 rx ry q=>ho pins s2 σ H2 x y v u Q I2 rx ry q) hm
def qkA(t:TE):TT:=λ σ H Q=>t σ H λ x H'=>∃ k,x=.bl k/\Q k H'
theorem qx(ho:OpR X (compareOp op) r)(ha:PE X a ta)(hb:PE X b tb)(hm:behindInMarks op b=false):PT X (.Compare a [op] [b] pos) (qkA (tOp r ta tb)):=by
 intro pins s σ H Q I h;refine wpAny_isTrue_Compare1 (thn (ha pins s σ H _ I h) λ v s1 ⟨x,H1,I1,r1,q1⟩=>thn (hb pins s1 σ H1 _ I1 q1) λ u s2 ⟨y,H2,I2,r2,q2⟩ =>
  thn (ho pins s2 σ H2 x y v u _ I2 r1 r2 q2) λ c s3 ⟨z,H3,I3,r3,k,e,q3⟩=>?_) hm
 subst e;cases r3
 exact Z9 ⟨H3,I3,q3⟩
theorem kz:(sizeLine:Nat)<2^63:=by rw[Vc];decide
theorem qdc:OpR X (binaryOp .Add) (λ x y H Q=>∃ i j,x=.str i/\y=.str j/\i.length+j.length<=sizeLine/\Q (.str (i++j)) H):=by
 intro pins s σ H x y v u Q I rx ry h;obtain⟨i,j,rfl,rfl,hz,q⟩:=h;obtain⟨t,rfl⟩:=rx;obtain⟨t',rfl⟩:=ry;exact add_str (λ t' tk=>⟨.str (i++j),H,I.tok _,⟨_,rfl⟩,q⟩) hz
theorem yk(r:qL [x] us):∃ u,us=[u]/\qV x u:=by
 cases r with
 |cons r1 r2=>cases r2;exact⟨_,rfl,r1⟩
theorem qiO(r:qL [x,y] us):∃ u w',us=[u,w']/\qV x u/\qV y w':=by
 cases r with
 |cons r1 r2 =>
  cases r2 with
  |cons r3 r4=>cases r4;exact⟨_,_,rfl,r1,r3⟩
theorem qjr(hc:X.calm=true):y9 X (.builtin "max") (λ xs H Q=>∃ i j,xs=[.int i,.int j]/\Q (.int (if j > i then j else i)) H):=by
 intro pins s σ H xs us Q I r h;obtain⟨i,j,rfl,q⟩:=h;obtain⟨u,w',rfl,⟨t,rfl⟩,⟨t',rfl⟩⟩:=qiO r;refine max_two_ints (I.ok.hd hc) λ h' tk k=>⟨_,H,I.kept k,?_,q⟩
 by_cases hj:j > i
 ·rw[Vz hj,Vz hj];exact⟨_,rfl⟩
 ·rw[V0 hj,V0 hj];exact⟨_,rfl⟩
theorem qjs(hc:X.calm=true):y9 X (.builtin "min") (λ xs H Q=>∃ i j,xs=[.int i,.int j]/\Q (.int (if j<i then j else i)) H):=by
 intro pins s σ H xs us Q I r h;obtain⟨i,j,rfl,q⟩:=h;obtain⟨u,w',rfl,⟨t,rfl⟩,⟨t',rfl⟩⟩:=qiO r;refine min_two_ints (I.ok.hd hc) λ h' tk k=>⟨_,H,I.kept k,?_,q⟩
 by_cases hj:j<i
 ·rw[Vz hj,Vz hj];exact⟨_,rfl⟩
 ·rw[V0 hj,V0 hj];exact⟨_,rfl⟩
theorem qjt:y9 X (.type "int") (λ xs H Q=>(∃ i,xs=[.int i]/\Q (.int i) H)∨∃ k,xs=[.bl k]/\Q (.int (if k then 1 else 0)) H):=by
 intro pins s σ H xs us Q I r h;rcases h with⟨i,rfl,q⟩|⟨k,rfl,q⟩
 ·obtain⟨u,rfl,t,rfl⟩:=yk r;exact call_int_int ⟨.int i,H,I,⟨_,rfl⟩,q⟩
 ·obtain⟨u,rfl,r1⟩:=yk r;cases r1
  exact call_int_bool ⟨.int (if k then 1 else 0),H,I.tok _,⟨_,rfl⟩,q⟩
end
structure ObjM(h:Heap)(x dx C:Addr)(mA:Str->Option Value):Prop where
 obj:h.get? x=some (W.instObj C dx)
 ns:h.Ns1 dx mA
 ne:dx≠x
theorem qju{h:Heap}(n:h.Ns1 dx mA):∃ od,h.get? dx=some od/\∀ name,W.lookIn name od=some (mA name):=by
 obtain⟨o,es,ep,ho,hd,hk,_,hm⟩:=n;refine⟨o,ho,λ name=>?_⟩;have e:=hm name;unfold nsFind findBy at e;rw[<- Array.find?_toList] at e;unfold W.lookIn;rw[hd];dsimp only;split
 ·rename_i y q;rw[q] at e;exact congrArg some e
 ·rename_i q;rw[q] at e;have a:es.toList.any (·.refKey)=false:=by
   rw[List.any_eq_false];intro y hy;obtain⟨z,t,K8⟩:=hk y (Array.mem_toList_iff.mp hy);simp[DictEntry.refKey,K8]
  have a':¬ es.toList.any (·.refKey)=true:=by rw[a];exact Zc
  rw[V0 a'];exact congrArg some e
theorem ObjM.look(I:ObjM h x dx C mA):∃ od,PySem.W.InstAt h x (W.instObj C dx) C (some od)/\∀ name,W.lookIn name od=some (mA name):=
 let ⟨od,ho,hl⟩:=qju I.ns
 ⟨od,⟨I.obj,rfl,rfl,ho⟩,hl⟩
section
variable {prog:Program}{w:World}{A:Around}{E:Value->Shared->Prop}{s:Shared}{K:W.Frag}{x dx C f:Addr}{mA:Str->Option Value}{name:Str}{v:Value}
theorem qmy(X:K.In s.heap)(I:ObjM s.heap x dx C mA)(hg:W.plainGet K C name=true)(hh:W.hasDictIn K C=true)(ha:W.findIn K (.ref C) name=some none)(hv:mA name=some v)(dZ:W.handedIn v=true)(h:Q v { s with toks:=s.toks+1 }):
  wpAny (model prog w) A (getAttr (.ref x) name expr) Q E s:=by
 obtain⟨od,J,hl⟩:=I.look;exact W.get_value X J (W.plainGet_of hg).1 (W.findObj_own hh ha rfl (by rw[hl,hv])) dZ h
theorem qkB(X:K.In s.heap)(I:ObjM s.heap x dx C mA)(hg:W.plainGet K C name=true)(hf:W.findIn K (.ref C) name=some (some (.ref f)))(ht:W.isFn K (.ref f)=true)(hv:mA name=none)(h:Q (.ref f,[.ref x]) s):
  wpAny (model prog w) A (getMethod (.ref x) name pl) Q E s:=by
 obtain⟨od,J,hl⟩:=I.look;exact W.method_fn X J (W.plainGet_of hg).1 (W.plainGet_of hg).2 hf (Vj.mp ht) (by show(W.lookIn name od).map (·.isSome)=some false;rw[hl,hv];rfl) h
theorem qmz(X:K.In s.heap)(I:ObjM s.heap x dx C mA)(hs:W.findIn K (.ref C) "__setattr__"=some (some (.builtin "object.__setattr__")))(hp:W.plainOver K C=true)(ht:W.takerIn K C name=some none)(hh:W.hasDictIn K C=true)(hw:PySem.Within mA ns)(hsz:ns.length<=sizeLine)(h:∀ h',ObjM h' x dx C (λ y=>if y=name then some v else mA y)->Heap.SameBut dx s.heap h'->Q () { s with heap:=h',toks:=s.toks+2 }):
  wpAny (model prog w) A (setAttr (.ref x) name v) Q E s:=by
 obtain⟨od,J,hl⟩:=I.look;refine W.set_plain X J hs (W.osa_open (s:={ s with toks:=s.toks+1 }) (r:=none) X J hp ht λ b=>?_);obtain⟨cd,hc,oV⟩:=W.any_some hh;have hx:s.heap.get? x=some ⟨.ref C,some dx,.plain,#[]⟩:=I.obj;refine Vh (Vi (Vh (Vh (wpAny_loadPart hx (Vh (PySem.W.Looks.here (s:={ s with toks:=s.toks+1 }) (W.looks_clsIn X hc) ?_))))));rw[oV];refine Vi (a:=some dx) (Vh (Vi (Vh ?_)));refine wpAny_nsSet1 (s:={ s with toks:=s.toks+1 }) I.ns λ h' eU w4=>?_
 obtain⟨oD,esD,epD,hoD,hdD,hcD⟩:=eU.count (PySem.Within.cons name v hw);refine Vh (wpAny_lookBehind hoD (by rw[hdD];exact pastItsLine_dict (Qu hcD (by rw[Uj];omega))) ?_);exact Vi (h _ ⟨(w4.2 _ (Vu I.ne)).trans I.obj,eU,I.ne⟩ w4)
theorem qkC(X:K.In s.heap)(hm:W.makesIn K C=true)(hi:W.findIn K (.ref C) "__init__"=some (some (.ref f)))(hf:W.typeIn K (.ref f)=some (.type "function"))(h:codeAny (model prog w) (A.under (.builtin "type.__call__" ⟨.ref C::vs,kw⟩)) (.call (.ref f) ⟨.ref (s.heap.objs.size+1)::vs,kw⟩) (PySem.W.InitBack (s.heap.objs.size+1) R)
   { s with heap:=(s.heap.push W.emptyDict).push (W.instObj C s.heap.objs.size) }):
  codeAny (model prog w) A (.call (.ref C) ⟨vs,kw⟩) R s:=by
 obtain⟨hh,g,d,t,os⟩:=s;exact W.make_core (W.makes_of X hm) (W.looks_findIn X hi) (λ self=>W.bind_fn X self hf) (.inl rfl) h
theorem qjv(X:K.In s.heap)(hm:W.makesIn K C=true)(hi:W.findIn K (.ref C) "__init__"=some (some (.builtin "object.__init__")))(hb:∀ self,PySem.W.Looks (model prog w) s.heap (bindSpecial (.builtin "object.__init__") self) (.builtin "object.__init__",[self]))(h:codeAny (model prog w) (A.under (.builtin "type.__call__" ⟨[.ref C],[]⟩)) (.call (.builtin "object.__init__") ⟨[.ref (s.heap.objs.size+1)],[]⟩) (PySem.W.InitBack (s.heap.objs.size+1) R)
   { s with heap:=(s.heap.push W.emptyDict).push (W.instObj C s.heap.objs.size) }):
  codeAny (model prog w) A (.call (.ref C) ⟨[],[]⟩) R s:=by
 obtain⟨hh,g,d,t,os⟩:=s;exact W.make_core (W.makes_of X hm) (W.looks_findIn X hi) hb (.inr ⟨rfl,rfl⟩) h
end
noncomputable def qaJ(f:Str)(v:V):List (Str×V)->List (Str×V)
 | []=>[(f,v)]
 |(g,x)::r=>if g=f then(g,v)::r else(g,x)::qaJ f v r
theorem qct(f g:Str)(v:V):∀ fs:List (Str×V),(qaJ f v fs).lookup g=if g=f then some v else fs.lookup g
 | []=>by
  show List.lookup g [(f,v)]=_
  by_cases h:g=f
  ·have hb:(g == f)=true:=Vj.mpr h;simp only[List.lookup,hb,Vz h]
  ·have hb:(g == f)=false:=Y8.mpr h;simp only[List.lookup,hb,V0 h]
 |(k,x)::r=>by
  have ih:=qct f g v r;rw[show qaJ f v ((k,x)::r)=(if k=f then(k,v)::r else(k,x)::qaJ f v r) from rfl];by_cases hk:k=f
  ·rw[Vz hk];by_cases h:g=k
   ·have hb:(g == k)=true:=Vj.mpr h;simp only[List.lookup,hb,Vz (h.trans hk)]
   ·have hb:(g == k)=false:=Y8.mpr h;simp only[List.lookup,hb,V0 (λ e:g=f=>h (e.trans hk.symm))]
  ·rw[V0 hk];by_cases h:g=k
   ·have hb:(g == k)=true:=Vj.mpr h;simp only[List.lookup,hb,V0 (λ e:g=f=>hk (h.symm.trans e))]
   ·have hb:(g == k)=false:=Y8.mpr h;simp only[List.lookup,hb];exact ih
theorem qb7(f:Str)(v:V):∀ fs:List (Str×V),f∈(qaJ f v fs).map (·.1)/\∀ g,g∈fs.map (·.1)->g∈(qaJ f v fs).map (·.1)
 | []=>⟨by simp[qaJ],λ g h=>by simp at h⟩
 |(k,x)::r=>by
  obtain⟨i1,i2⟩:=qb7 f v r;rw[show qaJ f v ((k,x)::r)=(if k=f then(k,v)::r else(k,x)::qaJ f v r) from rfl];by_cases hk:k=f
  ·rw[Vz hk];subst hk;exact⟨by simp,λ g h=>by simpa using h⟩
  ·rw[V0 hk];refine⟨?_,λ g h=>?_⟩
   ·rw[Qe];exact Yj _ i1
   ·rw[Qe] at h ⊢;rcases Qd.mp h with e | e
    ·exact Qd.mpr (.inl e)
    ·exact Yj _ (i2 g e)
theorem qcu(f:Str)(v:V):∀ fs:List (Str×V),(qaJ f v fs).length<=fs.length+1
 | []=>by simp[qaJ]
 |(k,x)::r=>by
  have ih:=qcu f v r;rw[show qaJ f v ((k,x)::r)=(if k=f then(k,v)::r else(k,x)::qaJ f v r) from rfl];by_cases hk:k=f
  ·rw[Vz hk,Uj,Uj];omega
  ·rw[V0 hk,Uj,Uj];omega
theorem ki.some_of(r:ki (some v) o):∃ u,o=some u/\qV v u:=by
 cases o with
 |none=>exact(show False from r).elim
 |some u=>exact⟨u,rfl,r⟩
theorem ki.none_of(r:ki none o):o=none:=by
 cases o with
 |none=>rfl
 |some u=>exact(show False from r).elim
theorem qjw(r:qV v u):W.handedIn u=true:=by
 cases v with
 |non=>cases(show u=Value.none from r);rfl
 |bl b=>cases(show u=Value.bool b from r);rfl
 |int i=>obtain⟨t,e⟩:=(show ∃ t,u=Value.int i t from r);cases e;rfl
 |str x=>obtain⟨t,e⟩:=(show ∃ t,u=Value.str x t from r);cases e;rfl
 |byt b=>obtain⟨t,e⟩:=(show ∃ t,u=Value.bytes b t from r);cases e;rfl
 |flt b=>obtain⟨t,e⟩:=(show ∃ t,u=Value.float b t from r);cases e;rfl
 |ref a=>cases(show u=Value.ref a from r);rfl
 |ty n=>cases(show u=Value.type n from r);rfl
section
variable {P:Program}{w:World}{H H':Hp}{h h':Heap}{a C dx:Addr}{fs bQ:List (Str×V)}
theorem qfh(hok:HOk P w H h)(e:H a=some (.ins C dx fs)):∃ mA,ObjM h a dx C mA/\(∀ f,ki (fs.lookup f) (mA f))/\PySem.Within mA (fs.map (·.1))/\fs.length<=1000/\H dx=some (.own a):=by
 obtain⟨d,z,ne,ob,mA,n,r,q⟩:=(show zI P w H h a (.ins C dx fs) from hok a _ e);exact⟨mA,⟨ob,n,ne⟩,r,q,z,d⟩
end
structure Cls(K:W.Frag)(C:Addr):Prop where
 pg:W.plainGet K C Str.empty=true
 hd:W.hasDictIn K C=true
 po:W.plainOver K C=true
 sa:W.findIn K (.ref C) "__setattr__"=some (some (.builtin "object.__setattr__"))
theorem Cls.get{K:W.Frag}(c:Cls K C)(f:Str):W.plainGet K C f=true:=c.pg
def NoAttr(K:W.Frag)(C:Addr)(f:Str):Prop:=W.findIn K (.ref C) f=some none
theorem NoAttr.taker{K:W.Frag}(n:NoAttr K C f):W.takerIn K C f=some none:=by
 unfold W.takerIn;rw[show W.findIn K (.ref C) f=some none from n];rfl
structure Meth(K:W.Frag)(C:Addr)(m:Str)(f:Addr):Prop where
 at_:W.findIn K (.ref C) m=some (some (.ref f))
 fn:W.isFn K (.ref f)=true
 kp:W.keepIn K (.ref f)=true
section
variable {X:Cx}{pins:List (Addr×Obj)}{σ:St}{H:Hp}{s:Shared}{a C dx:Addr}{fs:List (Str×V)}{f:Str}{v:V}{A:Around}{E:Value->Shared->Prop}
theorem qhE(I:Inv X pins σ H s)(e:H a=some (.ins C dx fs))(c:Cls X.K C)(n:NoAttr X.K C f)(l:fs.lookup f=some v)(h:∀ u s',Inv X pins σ H s'->qV v u->Q u s'):wpAny (model X.prog X.w) A (getAttr (.ref a) f b) Q E s:=by
 obtain⟨mA,O,r,_,_,_⟩:=qfh I.hok e;obtain⟨u,hu,ru⟩:=ki.some_of (v:=v) (o:=mA f) (by rw[<- l];exact r f);exact qmy I.kIn O (c.get f) c.hd n hu (qjw ru) (h u _ (I.tok _) ru)
theorem qdd(I:Inv X pins σ H s)(e:H a=some (.ins C dx fs))(c:Cls X.K C)(k:Meth X.K C m g)(l:fs.lookup m=none)(h:Q (.ref g,[.ref a]) s):wpAny (model X.prog X.w) A (getMethod (.ref a) m pl) Q E s:=by
 obtain⟨mA,O,r,_,_,_⟩:=qfh I.hok e;have hn:mA m=none:=ki.none_of (by rw[<- l];exact r m);exact qkB I.kIn O (c.get m) k.at_ k.fn hn h
theorem qhF(I:Inv X pins σ H s)(e:H a=some (.ins C dx fs))(c:Cls X.K C)(n:NoAttr X.K C f)(hl:fs.length<1000)(ry:qV y u)(h:∀ s',Inv X pins σ (upd H a (.ins C dx (qaJ f y fs))) s'->Q () s'):wpAny (model X.prog X.w) A (setAttr (.ref a) f u) Q E s:=by
 obtain⟨mA,O,r,wi,_,ho⟩:=qfh I.hok e;have hz:(fs.map (·.1)).length<=sizeLine:=by rw[U5,Vc];omega
 refine qmz I.kIn O c.sa c.po n.taker c.hd wi hz λ h' O' sb=>h _ ?_
 have hd:∃ o,h'.get? dx=some o:=let ⟨o,_,_,e',_⟩:=O'.ns;⟨o,e'⟩;refine I.write (x:=a) (e:=dx) (by rw[e];exact True.intro) (.inr ho) (λ b q hb z=>(sb.2 b hb).trans z) hd ?_;refine⟨by rw[qu O.ne];exact ho,?_,O.ne,O'.obj,_,O'.ns,λ g=>?_,λ g hg=>?_⟩
 ·have:=qcu f y fs;omega
 ·show ki ((qaJ f y fs).lookup g) (if g=f then some u else mA g)
  rw[qct];by_cases q:g=f
  ·rw[Vz q,Vz q];exact ry
  ·rw[V0 q,V0 q];exact r g
 ·by_cases q:g=f
  ·rw[q];exact(qb7 f y fs).1
  ·refine(qb7 f y fs).2 g (wi g λ z=>hg ?_);show(if g=f then some u else mA g)=none
   rw[V0 q];exact z
theorem Inv.made(I:Inv X pins σ H s):Inv X pins σ (upd (upd H s.heap.objs.size (.own (s.heap.objs.size+1))) (s.heap.objs.size+1) (.ins C s.heap.objs.size []))
  { s with heap:=(s.heap.push W.emptyDict).push (W.instObj C s.heap.objs.size) }:=by
 have e1:(s.heap.push W.emptyDict).get? s.heap.objs.size=some W.emptyDict:=Yw s.heap rfl;have e2:((s.heap.push W.emptyDict).push (W.instObj C s.heap.objs.size)).get? (s.heap.objs.size+1)=some (W.instObj C s.heap.objs.size):=by
  have:=Yw (s.heap.push W.emptyDict) (o:=W.instObj C s.heap.objs.size) rfl
  rwa [Jw] at this
 have e3:(s.heap.push W.emptyDict).Ns s.heap.objs.size (λ _=>none):=⟨W.emptyDict,#[],_,e1,rfl,(λ e he=>absurd he (by simp)),λ _=>rfl⟩;have I1:=I.laid (a:=s.heap.objs.size) (o:=.own (s.heap.objs.size+1)) (h':=s.heap.push W.emptyDict) (t':=s.toks) (λ b u q=>XG _ q) (Q9 _) ⟨_,e1⟩;refine I1.laid (a:=s.heap.objs.size+1) (o:=.ins C s.heap.objs.size []) (t':=s.toks) (λ b u q=>XG _ q) (Nat.le_of_eq (Jw _ _)) ?_;have ne:s.heap.objs.size≠s.heap.objs.size+1:=Qt (Uk _);refine⟨by rw[qu ne,qc],Va _,ne,e2,λ _=>none,(Heap.Ns1.of_empty e3).at λ o q=>XG _ q,λ _=>True.intro,λ y hy=>absurd rfl hy⟩
theorem qmA(hb:attributeBase e f env (eval e env)=eval e env)(h:wpAny (model prog w) A (eval e env) (λ o s₁=>wpAny (model prog w) A (getAttr o f true) Q E s₁) E s):wpAny (model prog w) A (eval (.Attribute e f pos) env) Q E s:=
 Attribute_any_ h (by rw[arm_eval_Attribute,hb])
end
def qpn(K:W.Frag)(ta:TE)(f:Str):TE:=λ σ H Q=>ta σ H λ x H1=>∃ a C dx fs v,x=.ref a/\H1 a=some (.ins C dx fs)/\Cls K C/\NoAttr K C f/\fs.lookup f=some v/\Q v H1
def qqu(K:W.Frag)(ta tv:TE)(f:Str):TS:=λ D σ H=>tv σ H λ y H1=>ta σ H1 λ x H2=>∃ a C dx fs,x=.ref a/\H2 a=some (.ins C dx fs)/\Cls K C/\NoAttr K C f/\fs.length<1000 /\
 D.nx σ (upd H2 a (.ins C dx (qaJ f y fs)))
section
variable {X:Cx}{o e value:Expr}{f:Str}{pos w5 x8:Pos}{ta tv:TE}
theorem zi(he:PE X e ta)(hb:attributeBase e f X.env (eval e X.env)=eval e X.env):PE X (.Attribute e f pos) (qpn X.K ta f):=by
 intro pins s σ H Q I h;refine qmA hb (thn (he pins s σ H _ I h) λ u s1 ⟨x,H1,I1,rx,a,C,dx,fs,v,ex,ea,c,n,l,q⟩=>?_);subst ex;obtain rfl:u=Value.ref a:=rx;exact qhE I1 ea c n l λ u' s2 I2 ru=>⟨v,H1,I2,ru,q⟩
theorem vj(ha:PE X o ta)(hv:PE X value tv)(hs:swapsWith value (some (.Attribute o f w5)) pos.line X.env=pure false):PS X (.Assign [.Attribute o f w5] value pos) (qqu X.K ta tv f):=by
 intro pins s σ H D I h;refine plainObj_wpAny_Assign_Attribute (thn (hv pins s σ H _ I h) λ u s1 ⟨y,H1,I1,ry,q⟩=>thn (ha pins s1 σ H1 _ I1 q) λ ov s2 ⟨x,H2,I2,rx,a,C,dx,fs,ex,ea,c,n,l,q2⟩=>?_) hs;subst ex;obtain rfl:ov=Value.ref a:=rx;exact qhF I2 ea c n l ry λ s3 I3=>⟨σ,_,I3,q2⟩
end
structure Room(k:Nat)(A:Around):Prop where
 hd:A.handled=none
 dp:A.depth+3*k+5<recursionLimit
 un:A.units+16*k+200<cLine
theorem Room.mono(r:Room k A)(h:j<=k):Room j A:=⟨r.hd,by have:=r.dp;omega,by have:=r.un;omega⟩
theorem Room.deeper(r:Room (k+1) A)(env:Env):Room k (A.deeper env):=
 ⟨r.hd,by have:=r.dp;show A.depth+1+3*k+5<_;omega,by have:=r.un;show A.units+3+16*k+200<_;omega⟩
theorem qhG{A:Around}:(A.under (.builtin "type.__call__" ⟨.ref C::us,kw⟩)).depth=A.depth+1:=by
 first|rfl|simp[Around.under,Code.weight,Code.isCreation,Code.isGuard,Code.isCaller,Code.frames,Code.isFrame,guardIds]
theorem qhH{A:Around}:(A.under (.builtin "type.__call__" ⟨.ref C::us,kw⟩)).units=A.units+1:=by
 first|rfl|simp[Around.under,Code.cUnits,Code.frames,Code.isFrame]
theorem Room.make(r:Room (k+1) A)(C:Addr)(us:List Value)(kw:List (Str×Value)):Room k (A.under (.builtin "type.__call__" ⟨.ref C::us,kw⟩)):=
 ⟨r.hd,by have:=r.dp;rw[qhG];omega,by have:=r.un;rw[qhH];omega⟩
theorem Room.depth(r:Room k A):A.depth<recursionLimit:=by have:=r.dp;omega
theorem Room.units(r:Room k A):A.units+64<cLine:=by have:=r.un;omega
def yR:TA:=λ _ H Q=>Q [] H
def kf(ta:TE)(tr:TA):TA:=λ σ H Q=>ta σ H λ x H1=>tr σ H1 λ xs H2=>Q (x::xs) H2
section
variable {X:Cx}{e:Expr}{es:List Expr}{te:TE}{t:TA}{pos:Pos}
theorem qb:PA X [] yR:=λ _ _ _ _ H Q I h=>Calls.spliced_nil ⟨[],H,I,.nil,h⟩
theorem qa(ha:PE X e te)(hr:PA X es t)(hs:starEach (e::es) X.env=(false,eval e X.env)::starEach es X.env:=by rfl):PA X (e::es) (kf te t):=by
 intro pos pins s σ H Q I h;rw[hs];show wpAny _ _ (spliced ((false,eval e X.env)::backTo pos (starEach es X.env))) _ _ s
 refine Calls.spliced_cons (thn (ha pins s σ H _ I h) λ u s1 ⟨x,H1,I1,r1,q1⟩=>?_);exact thn (hr pos pins s1 σ H1 _ I1 q1) λ us s2 ⟨xs,H2,I2,r2,q2⟩=>⟨x::xs,H2,I2,.cons r1 r2,q2⟩
def qpo(t:TA):TE:=λ σ H Q=>t σ H λ xs H1=>xs.length<=sizeLine/\∀ p,H1 p=none->Q (.ref p) (upd H1 p (.tup xs))
def qqv(t:TA):TE:=λ σ H Q=>t σ H λ xs H1=>xs.length<=sizeLine/\∀ p,H1 p=none->Q (.ref p) (upd H1 p (.lst xs))
theorem zC{x1}(h:PA X es t):PE X (.Tuple es x1 pos) (qpo t):=by
 intro pins s σ H Q I hq;refine wpAny_Tuple_spliced (thn (h pos pins s σ H _ I hq) λ us s1 ⟨xs,H1,I1,r,z,q⟩=>⟨by rw[<- r.length];exact z,?_⟩);have hf:H1 s1.heap.objs.size=none:=I1.hok.fresh (Q9 _);refine⟨.ref s1.heap.objs.size,upd H1 s1.heap.objs.size (.tup xs),I1.laid (t':=s1.toks) (λ b u e=>XG _ e) (Q9 _) ?_,rfl,q _ hf⟩;exact⟨z,us,r,⟨_,Yw _ rfl,rfl,_,rfl⟩⟩
theorem zK(h:PA X es t):PE X (.List es pos) (qqv t):=by
 intro pins s σ H Q I hq;refine wpAny_List_spliced (thn (h pos pins s σ H _ I hq) λ us s1 ⟨xs,H1,I1,r,z,q⟩=>⟨by rw[<- r.length];exact z,?_⟩);have hf:H1 s1.heap.objs.size=none:=I1.hok.fresh (Q9 _);refine⟨.ref s1.heap.objs.size,upd H1 s1.heap.objs.size (.lst xs),I1.laid (t':=s1.toks) (λ b u e=>XG _ e) (Q9 _) ?_,rfl,q _ hf⟩;exact⟨z,us,0,r,Yw _ rfl⟩
end
abbrev Sp:=List V->Hp->VK->XK->Prop
abbrev CXT:=List Env->Hp->Shared->XK->Value->Shared->Prop
structure Env0(P:Program)(w:World)(K:W.Frag)(mg:Str->Option Value)(base:Heap)(A:Around)(outer:List Env)(s:Shared)(H:Hp):Prop where
 frames:A.frames=some outer
 mod:Mod K mg base
 bs:∀ b o,base.get? b=some o->s.heap.get? b=some o/\H b=none
 bsz:base.objs.size<=s.heap.objs.size
 funs:s.heap.FunFrames base outer
 frf:∀ b∈frs outer,H b=none
 hok:HOk P w H s.heap
 bare:AllBare s.gens
def CE(outer:List Env)(P:Program)(w:World)(H:Hp)(s:Shared)(Q:VK)(u:Value)(s':Shared):Prop:=
 ∃ v H',s'.os=s.os/\AllBare s'.gens/\Un (frs outer) [] H H' s.heap s'.heap/\HOk P w H' s'.heap/\qV v u/\Q v H'
def CR(CX:CXT)(outer:List Env)(P:Program)(w:World)(H:Hp)(s:Shared)(Q:VK)(E:XK)(r:Result)(s':Shared):Prop:=
 match r with
 |.ok (.ret u)=>CE outer P w H s Q u s'
 |.ok _=>False
 |.error e=>CX outer H s E e s'
structure FnOk(P:Program)(w:World)(K:W.Frag)(mg:Str->Option Value)(base:Heap)(CX:CXT)(k:Nat)(f:Addr)(fd:FuncData)(ps:List Str)(sp:Sp):Prop where
 len:∀ vs H Q E,sp vs H Q E->vs.length=ps.length
 run:∀(A:Around)(outer:List Env)(s:Shared)(H:Hp)(args:Args)(us:List Value)(vs:List V)(Q:VK)(E:XK),Room k A->Env0 P w K mg base A outer s H->BindsTo s fd args (ps.zip us)->qL vs us->sp vs H Q E ->
  codeAny (model P w) A (.call (.ref f) args) (CR CX outer P w H s Q E) s
theorem Env0.make{K:W.Frag}(e:Env0 P w K mg base A outer s H)(C:Addr)(us:List Value)(kw:List (Str×Value)):
  Env0 P w K mg base (A.under (.builtin "type.__call__" ⟨.ref C::us,kw⟩)) outer s H:=⟨by first | exact e.frames | (simpa [Around.under,Code.envs,Code.isFrame,pushEnvs] using e.frames),e.mod,e.bs,e.bsz,e.funs,e.frf,e.hok,e.bare⟩
section
variable {X:Cx}{pins:List (Addr×Obj)}{σ:St}{H:Hp}{s s':Shared}
theorem Inv.env0(I:Inv X pins σ H s):Env0 X.prog X.w X.K X.mg X.base X.A X.stack s H:=
 ⟨I.ok.frames,I.ok.mod,I.bs,Qu I.ok.bsz I.sz,I.stack,I.stkFree,I.hok,I.bare⟩
theorem Inv.after(I:Inv X pins σ H s)(h:CE X.stack X.prog X.w H s Q u s'):EP X pins σ Q u s':=by
 obtain⟨v,H',os,bare,un,hok,r,q⟩:=h;obtain⟨hh,g,d,t,oB⟩:=s';obtain rfl:oB=s.os:=os;exact⟨v,H',I.call (h':=hh) (g':=g) (d':=d) (t':=t) (ch:=[]) un hok bare (λ b z=>absurd z (by simp)),r,q⟩
end
def qcv(sp:Sp)(N5:List V)(E:XK)(t:TA):TE:=λ σ H Q=>t σ H λ vs H1=>sp (vs++N5) H1 Q E
def yC(C:Addr)(m:Str)(sp:Sp)(N5:List V)(E:XK)(ta:TE)(t:TA):TE:=λ σ H Q=>ta σ H λ x H1=>∃ a dx fs,x=.ref a/\H1 a=some (.ins C dx fs)/\fs.lookup m=none /\
 t σ H1 λ vs H2=>sp (x::(vs++N5)) H2 Q E
def qpp(C:Addr)(sp:Sp)(N5:List V)(E:XK)(t:TA):TE:=λ σ H Q=>t σ H λ vs H1=>∀ x dx,H1 x=none->H1 dx=none->dx≠x ->
 sp (.ref x::(vs++N5)) (upd (upd H1 dx (.own x)) x (.ins C dx [])) (λ v H2=>v=.non/\Q (.ref x) H2) E
def qk(K:W.Frag)(fd:FuncData)(ps:List Str)(ds:List Value):Prop:=
 ∀(s:Shared)(us:List Value),K.In s.heap->(us++ds).length=ps.length->BindsTo s fd ⟨us,[]⟩ (ps.zip (us++ds))
theorem qk.all{K:W.Frag}(h:∀ us:List Value,us.length=ps.length->bindArgs fd ⟨us,[]⟩=pure (ps.zip us)):qk K fd ps []:=λ s us _ hl=>by
 rw[U6] at hl ⊢;exact .of_eq (h us hl)
def qaV(CX:CXT)(X:Cx)(E:XK):Prop:=∀(pins:List (Addr×Obj))(σ:St)(H:Hp)(s:Shared)(e:Value)(s':Shared),Inv X pins σ H s->CX X.stack H s E e s'->X.xe e s'
section
variable {X:Cx}{CX:CXT}{k:Nat}{f C:Addr}{fd:FuncData}{ps:List Str}{sp:Sp}{N5:List V}{ds:List Value}{E:XK}{x m:Str}{p pos apos:Pos}{e o:Expr}{es:List Expr}{ta:TE}{t:TA}
theorem qhI(F:FnOk X.prog X.w X.K X.mg X.base CX k f fd ps sp)(hr:Room k X.A)(hb:qk X.K fd ps ds)(hd:qL N5 ds)(hx:qaV CX X E)(I:Inv X pins σ H s)(r:qL vs us)(h:sp (vs++N5) H Q E):wpAny (model X.prog X.w) X.A (call (.ref f) us) (EP X pins σ Q) X.xe s:=by
 have r2:qL (vs++N5) (us++ds):=r.append hd;have hl:(us++ds).length=ps.length:=by rw[<- r2.length];exact F.len _ _ _ _ h
 refine wpAny_call (Q6 (F.run X.A X.stack s H ⟨us,[]⟩ (us++ds) (vs++N5) Q E hr I.env0 (hb s us I.kIn hl) r2 h) λ r s' hq=>?_);cases r with
 |error e=>exact hx pins σ H s e s' I hq
 |ok fl =>
  cases fl with
  |ret u=>exact I.after hq
  |next=>exact False.elim hq
  |brk=>exact False.elim hq
  |cont=>exact False.elim hq
theorem qM(F:FnOk X.prog X.w X.K X.mg X.base CX k f fd ps sp)(hr:Room k X.A)(hg:Gl X x)(hm:X.mg x=some (.ref f))(hk:W.keepIn X.K (.ref f)=true)(hb:qk X.K fd ps ds)(hd:qL N5 ds)(hx:qaV CX X E)(ha:PA X (e::es) t)(cD:(x == ("__debug__":Str))=false:=by decide)(he:starEach (e::es) X.env=(false,eval e X.env)::starEach es X.env:=by rfl)(w6:(backTo pos (starEach es X.env)).any (·.1)=false:=by rfl):
  PE X (.Call (.Name x p) (e::es) [] pos) (qcv sp N5 E t):=by
 intro pins s σ H Q I h;refine Zo (qbs I hg hm ?_ cD);refine W.callWith_K (h₀:=X.base) I.ok.mod.kin hk (thn (ha pos pins s σ H _ I h) λ us s1 ⟨vs,H1,I1,r,q⟩=>⟨I1.kIn,?_⟩) he w6;exact qhI F hr hb hd hx I1 r q
theorem qiP(he:PE X o ta)(c:Cls X.K C)(hm:Meth X.K C m f)(F:FnOk X.prog X.w X.K X.mg X.base CX k f fd ps sp)(hr:Room k X.A)(hb:qk X.K fd ps ds)(hd:qL N5 ds)(hx:qaV CX X E)(ha:PA X (e::es) t)(L5:starEach (e::es) X.env=(false,eval e X.env)::starEach es X.env:=by rfl)(w6:(backTo pos (starEach es X.env)).any (·.1)=false:=by rfl)(ht:eval (.Call (.Attribute o m apos) (e::es) [] pos) X.env=(do
   let ov <- eval o X.env
   standAt apos.atName
   let (f,first) <- holding [ov] (getMethod ov m pl)
   callWith pos f first (backTo pos (starEach (e::es) X.env)) (backToKw pos (keywordEach [] X.env))):=by rfl):
  PE X (.Call (.Attribute o m apos) (e::es) [] pos) (yC C m sp N5 E ta t):=by
 intro pins s σ H Q I h;refine W.methodCall_KW (pl:=pl) (thn (he pins s σ H _ I h) λ u s1 ⟨x,H1,I1,rx,a,dx,fs,ex,ea,l,q⟩=>?_) ht;subst ex;obtain rfl:u=Value.ref a:=rx;refine qdd I1 ea c hm l ?_;refine W.callWith_K (first:=[.ref a]) (h₀:=X.base) I.ok.mod.kin hm.kp (thn (ha pos pins s1 σ H1 _ I1 q) λ us s2 ⟨vs,H2,I2,r,q2⟩=>⟨I2.kIn,?_⟩) L5 w6;exact qhI (us:=.ref a::us) (vs:=.ref a::vs) F hr hb hd hx I2 (.cons rfl r) q2
theorem qE(he:PE X o ta)(c:Cls X.K C)(hm:Meth X.K C m f)(F:FnOk X.prog X.w X.K X.mg X.base CX k f fd ps sp)(hr:Room k X.A)(hb:qk X.K fd ps ds)(hd:qL N5 ds)(hx:qaV CX X E)(ht:eval (.Call (.Attribute o m apos) [] [] pos) X.env=(do
   let ov <- eval o X.env
   standAt apos.atName
   let (f,first) <- holding [ov] (getMethod ov m pl)
   callWith pos f first (backTo pos (starEach [] X.env)) (backToKw pos (keywordEach [] X.env))):=by rfl):
  PE X (.Call (.Attribute o m apos) [] [] pos) (yC C m sp N5 E ta yR):=by
 intro pins s σ H Q I h;refine W.methodCall_KW (pl:=pl) (thn (he pins s σ H _ I h) λ u s1 ⟨x,H1,I1,rx,a,dx,fs,ex,ea,l,q⟩=>?_) ht;subst ex;obtain rfl:u=Value.ref a:=rx;refine qdd I1 ea c hm l ?_;exact W.callWith_K0 (first:=[.ref a]) I1.kIn hm.kp (qhI (us:=[.ref a]) (vs:=[.ref a]) F hr hb hd hx I1 (.cons rfl .nil) q)
structure Mk(K:W.Frag)(C f:Addr):Prop where
 makes:W.makesIn K C=true
 init:W.findIn K (.ref C) "__init__"=some (some (.ref f))
 fn:W.isFn K (.ref f)=true
 kp:W.keepIn K (.ref C)=true
theorem qkD(M:Mk X.K C f)(F:FnOk X.prog X.w X.K X.mg X.base CX k f fd ps sp)(hr:Room (k+1) X.A)(hb:qk X.K fd ps ds)(hd:qL N5 ds)(hx:qaV CX X E)(I:Inv X pins σ H s)(r:qL vs us)(h:∀ x dx,H x=none->H dx=none->dx≠x->sp (.ref x::(vs++N5)) (upd (upd H dx (.own x)) x (.ins C dx [])) (λ v H2=>v=.non/\Q (.ref x) H2) E):
  wpAny (model X.prog X.w) X.A (call (.ref C) us) (EP X pins σ Q) X.xe s:=by
 have hq:=h (s.heap.objs.size+1) s.heap.objs.size (I.hok.fresh (Vb _)) (I.hok.fresh (Q9 _)) (Qt (Uk _));have I2:=Inv.made (C:=C) I;have r2:qL (V.ref (s.heap.objs.size+1)::(vs++N5)) (Value.ref (s.heap.objs.size+1)::(us++ds)):=.cons rfl (r.append hd);have hl:(Value.ref (s.heap.objs.size+1)::us++ds).length=ps.length:=by
  have e:=r2.length;rw[F.len _ _ _ _ hq] at e;exact e.symm
 refine wpAny_call (qkC (f:=f) I.kIn M.makes M.init (Vj.mp M.fn) (Q6 (F.run _ X.stack _ _ ⟨Value.ref (s.heap.objs.size+1)::us,[]⟩ (Value.ref (s.heap.objs.size+1)::(us++ds)) _ _ E (hr.make C us [])
  (I2.env0.make C us []) (hb _ (Value.ref (s.heap.objs.size+1)::us) I2.kIn hl) r2 hq) λ r s' tO=>?_))
 cases r with
 |error e=>exact hx pins σ _ _ e s' I2 tO
 |ok fl =>
  cases fl with
  |ret u =>
   obtain⟨v,H',I3,rv,ev,q3⟩:=I2.after tO;subst ev;exact⟨rv,⟨V.ref (s.heap.objs.size+1),H',I3,rfl,q3⟩⟩
  |next=>exact False.elim tO
  |brk=>exact False.elim tO
  |cont=>exact False.elim tO
theorem qas(M:Mk X.K C f)(F:FnOk X.prog X.w X.K X.mg X.base CX k f fd ps sp)(hr:Room (k+1) X.A)(hg:Gl X x)(hm:X.mg x=some (.ref C))(hb:qk X.K fd ps ds)(hd:qL N5 ds)(hx:qaV CX X E)(ha:PA X (e::es) t)(cD:(x == ("__debug__":Str))=false:=by decide)(he:starEach (e::es) X.env=(false,eval e X.env)::starEach es X.env:=by rfl)(w6:(backTo pos (starEach es X.env)).any (·.1)=false:=by rfl):
  PE X (.Call (.Name x p) (e::es) [] pos) (qpp C sp N5 E t):=by
 intro pins s σ H Q I h;refine Zo (qbs I hg hm ?_ cD);refine W.callWith_K (h₀:=X.base) I.ok.mod.kin M.kp (thn (ha pos pins s σ H _ I h) λ us s1 ⟨vs,H1,I1,r,q⟩=>⟨I1.kIn,?_⟩) he w6;exact qkD M F hr hb hd hx I1 r q
end
structure FnScope(N P:List Str)(sc:Scope):Prop where
 kind:sc.kind=.function
 co:sc.isCoroutine=false
 gen:sc.isGenerator=false
 nd:N.Nodup
 pre:N.take P.length=P
 par:∀ x∈P,sc.names.lookup x=some .local∨sc.names.lookup x=some .cell
 nofree:∀ y∈sc.names,y.2≠.free
theorem scF(a:sc.kind=.function:=by rfl)(b:sc.isCoroutine=false:=by rfl)(c:sc.isGenerator=false:=by rfl)(d:N.take P.length=P:=by rfl)(h:N.Nodup ∧ (∀ x∈P,sc.names.lookup x=some .local∨sc.names.lookup x=some .cell) ∧ ∀ y∈sc.names,y.2≠.free:=by decide +kernel):FnScope N P sc:=⟨a,b,c,h.1,d,h.2.1,h.2.2⟩
theorem qew{kindOf:Str->Option NameKind}:∀{binds:List (Str×Value)}{m:Str->Option Value},(∀ v,(x,v)∉binds)->bindL kindOf binds m x=m x
 | [],_,_=>rfl
 |(n,v)::r,m,h=>by
  unfold bindL;rw[qew λ w hw=>h w (Yj _ hw)];split
  ·have:x≠n:=by rintro rfl;exact h v Zb
   simp[this]
  ·rfl
theorem qex{kindOf:Str->Option NameKind}:∀{binds:List (Str×Value)}{m:Str->Option Value},(∀ v,(x,v)∉binds)->bindC kindOf binds m x=m x
 | [],_,_=>rfl
 |(n,v)::r,m,h=>by
  unfold bindC;rw[qex λ w hw=>h w (Yj _ hw)];split
  ·rfl
  ·have:x≠n:=by rintro rfl;exact h v Zb
   simp[this]
theorem qey{kindOf:Str->Option NameKind}:∀{P:List Str}{vs:List Value}{i:Nat}{m:Str->Option Value},P.Nodup->P[i]?=some x->vs[i]?=some v->kindOf x=some .local ->
  bindL kindOf (P.zip vs) m x=some v
 | [],_,_,_,_,h,_,_=>by simp at h
 |_::_,[],_,_,_,_,h,_=>by simp at h
 |p::P,w::vs,0,m,nd,h1,h2,hk=>by
  simp at h1 h2;subst h1;subst h2;show bindL kindOf ((p,w)::P.zip vs) m p=_
  unfold bindL;rw[qew λ v hv=>(U7.mp nd).1 (U8 hv).1,Vz hk];simp
 |p::P,w::vs,i+1,m,nd,h1,h2,hk=>by
  show bindL kindOf ((p,w)::P.zip vs) m x=_
  unfold bindL;exact qey (i:=i) (U7.mp nd).2 (by simpa using h1) (by simpa using h2) hk
theorem qez{kindOf:Str->Option NameKind}:∀{P:List Str}{vs:List Value}{i:Nat}{m:Str->Option Value},P.Nodup->P[i]?=some x->vs[i]?=some v->kindOf x≠some .local ->
  bindC kindOf (P.zip vs) m x=some v
 | [],_,_,_,_,h,_,_=>by simp at h
 |_::_,[],_,_,_,_,h,_=>by simp at h
 |p::P,w::vs,0,m,nd,h1,h2,hk=>by
  simp at h1 h2;subst h1;subst h2;show bindC kindOf ((p,w)::P.zip vs) m p=_
  unfold bindC;rw[qex λ v hv=>(U7.mp nd).1 (U8 hv).1,V0 hk];simp
 |p::P,w::vs,i+1,m,nd,h1,h2,hk=>by
  show bindC kindOf ((p,w)::P.zip vs) m x=_
  unfold bindC;exact qez (i:=i) (U7.mp nd).2 (by simpa using h1) (by simpa using h2) hk
noncomputable def qbv(N:List Str)(vs:List V):St:=vs.map some++List.replicate (N.length-vs.length) none
noncomputable def qhJ(CX:CXT)(P:Program)(w:World)(K:W.Frag)(mg:Str->Option Value)(base:Heap)(N:List Str)(qual:Str)(scope:Scope)(f:Addr)(cd:Value)(A:Around)(outer:List Env)(s:Shared)(H:Hp)(E:XK):Cx where
 prog:=P
 w:=w
 K:=K
 mg:=mg
 base:=base
 A:=A.deeper (envOfC qual scope s.heap.objs.size f cd)
 N:=N
 s₀:=s
 H₀:=H
 env:=envOfC qual scope s.heap.objs.size f cd
 outer:=outer
 stack:=envOfC qual scope s.heap.objs.size f cd::outer
 ex:=[]
 calm:=true
 fn:=λ _=>true
 pn:=[]
 xe:=λ e s'=>wpAny (model P w) (A.deeper (envOfC qual scope s.heap.objs.size f cd)) (leaving (envOfC qual scope s.heap.objs.size f cd) e) (λ _ O9=>CX outer H s E e O9) (λ e' O9=>CX outer H s E e' O9) s'
theorem qgp{sc:Scope}(h:sc.names.lookup x=some .cell):∃ c,(cellsFrom n sc.names []).lookup x=some c:=by
 have q:=W.cellsFrom_some sc.names n [] (.inl h);exact Xv.mp q
theorem qjx{K:W.Frag}(S:FnScope N ps scope)(hd:A.handled=none)(e0:Env0 P w K mg base A outer s H)(hl:vs.length=ps.length)(r:qL vs us)(x:InCallC s s.heap.objs.size (bindL (envOfC qual scope s.heap.objs.size f cd).kindOf (ps.zip us) λ _=>none) (cellsFrom (s.heap.objs.size+1) scope.names []) (bindC (envOfC qual scope s.heap.objs.size f cd).kindOf (ps.zip us) λ _=>none) s1):
  Inv (qhJ CX P w K mg base N qual scope f cd A outer s H E) [] (qbv N vs) H s1:=by
 have w6:ps.length<=N.length:=by have:=congrArg List.length S.pre;rw[Ul] at this;omega
 obtain⟨h1,tk,rfl,hk⟩:=x.done;have sG:∀ b:Addr,b∉(qhJ CX P w K mg base N qual scope f cd A outer s H E).ex:=λ b z=>absurd (show b∈([]:List Addr) from z) (by simp)
 refine⟨⟨e0.mod,S.kind,rfl,rfl,Q9 _,λ y z c h1 h2=>?_,λ y hy=>?_,λ y c _ h=>?_,λ _=>hd,Around.frames_deeper e0.frames,.inr ⟨rfl,rfl⟩,λ b z=>absurd z (sG b),e0.bs,e0.bsz,λ b _ _=>sG b,λ b z=>absurd z (sG b),e0.funs,e0.frf⟩,
  rfl,e0.bare,Un.kept hk,⟨_,x.toInCall.ns,λ i y v h1 h2 h3=>?_⟩,λ y c h=>⟨_,x.cell y c h⟩,e0.hok.fresh (Q9 _),λ y c h=>?_,λ p hp=>absurd (show p∈([]:List (Addr×Obj)) from hp) (by simp),e0.hok.kept hk,?_⟩
 ·exact name_of_addr x.apart (Yx h1) (Yx h2)
 ·have hy:scope.names.lookup y=some .cell∨scope.names.lookup y=some .free:=hy;rcases hy with hy | hy
  ·exact qgp hy
  ·exact absurd rfl (S.nofree _ (Yx hy))
 ·exact Qv (x.above y c (Yx h))
 ·have hi:i<vs.length:=by
   unfold qbv at h2;by_cases hi:i<vs.length
   ·exact hi
   ·rw[Xh (by simpa using hi)] at h2;rw[X5] at h2;split at h2 <;> cases h2
  have ha:vs[i]?=some v:=by
   unfold qbv at h2;rw[Xo (by simpa using hi),Zt] at h2;cases e:vs[i]? with
   |none=>rw[e] at h2;cases h2
   |some a=>rw[e] at h2;cases h2;rfl
  obtain⟨u,hu,rv⟩:=r.get ha;have hp:ps[i]?=some y:=by
   rw[<- S.pre,Xw (by omega)];exact h1
  have ndP:ps.Nodup:=by rw[<- S.pre];exact S.nd.sublist (List.take_sublist _ _)
  refine⟨u,rv,?_⟩;rcases S.par y (Yl hp) with k|k
  ·exact .inl ⟨k,qey ndP hp hu k⟩
  ·obtain⟨c,e⟩:=qgp (n:=s.heap.objs.size+1) k;refine .inr ⟨.inl k,c,e,?_⟩;have q:=x.cell y c e;rw[qez ndP hp hu (by show scope.names.lookup y≠_;rw[k];decide)] at q;exact q
 ·exact e0.hok.fresh (Qv (x.above y c (Yx h)))
 ·unfold qbv;show _=N.length
  rw[Ze,U5,XT];omega
theorem qpq{K:W.Frag} {kV:Value}(lk:K.lookup f=some ⟨oc,od,.func (W.fnOf name qual params body scope dV kV doc pm an cdv ct),osl⟩)(W8:W.codeIn K cdv qual=true)(S:FnScope N ps scope)(len:∀ vs H Q E,sp vs H Q E->vs.length=ps.length)(S5:∀(A:Around)(outer:List Env)(s:Shared)(H:Hp)(vs:List V)(Q:VK)(E:XK),Room k (A.deeper (envOfC qual scope s.heap.objs.size f cdv))->sp vs H Q E ->
   ∃ t,PSs (qhJ CX P w K mg base N qual scope f cdv A outer s H E) body t/\t { nx:=λ _ H'=>Q .non H',rt:=Q } (qbv N vs) H):
  FnOk P w K mg base CX (k+1) f (W.fnOf name qual params body scope dV kV doc pm an cdv ct) ps sp:=by
 refine⟨len,λ A outer s H args us vs Q E hr e0 hb r eG=>?_⟩;have hl:=len _ _ _ _ eG;have KX:K.In s.heap:=e0.mod.kin.keeps λ b o e=>(e0.bs b o e).1
 have lim:s.heap.NoLimit:=e0.mod.nolimit.keeps λ b o e=>(e0.bs b o e).1
 have uA:∀ y∈ps.zip us,scope.names.lookup y.1=some .local∨(scope.names.lookup y.1=some .cell/\((cellsFrom (s.heap.objs.size+1) scope.names []).lookup y.1).isSome=true):=λ ⟨n,v⟩ hy=>by
  rcases S.par n (U8 hy).1 with q|q
  ·exact .inl q
  ·exact .inr ⟨q,W.cellsFrom_some _ _ _ (.inl q)⟩
 refine codeAny_call_function hr.depth (KX _ _ lk) rfl S.co S.gen rfl (W.codeRec_of KX W8) (hb _ _ _ _ ?_);refine wpAny_newFunctionEnv_cells S.kind uA λ env he s1 x=>?_
 subst he;refine⟨lim.keeps x.toInCall.keep,codeAny_func ?_⟩;obtain⟨t,ht,hq⟩:=S5 A outer s H vs Q E (hr.deeper _) eG;have I:Inv (qhJ CX P w K mg base N qual scope f cdv A outer s H E) [] (qbv N vs) H s1:=qjx S hr.hd e0 hl r x;refine Vg (ht [] s1 (qbv N vs) H _ I hq) (λ fl s' hs=>?_) λ e s' hs=>hs
 have fin:∀{σ':St}{H':Hp}{v:V}{u:Value},Inv (qhJ CX P w K mg base N qual scope f cdv A outer s H E) [] σ' H' s'->qV v u->Q v H'->CE outer P w H s Q u s':=
  λ{σ' H' v u} J rv q=>⟨v,H',J.os,J.bare,J.base,J.hok,rv,q⟩
 cases fl with
 |ret u =>
  obtain⟨v,σ',H',J,rv,q⟩:=hs;exact fin J rv q
 |next =>
  obtain⟨σ',H',J,q⟩:=hs;exact fin (v:=V.non) (u:=Value.none) J rfl q
 |brk =>
  obtain⟨_,_,_,q⟩:=hs;exact False.elim q
 |cont =>
  obtain⟨_,_,_,q⟩:=hs;exact False.elim q
section
variable {X:Cx}{x:Str}{p pos:Pos}{e:Expr}{es:List Expr}{t:TA}{id T:String}{r:List V->Hp->VK->Prop}
def tCB(r:List V->Hp->VK->Prop)(t:TA):TE:=λ σ H Q=>t σ H λ vs H1=>r vs H1 Q
theorem qB(hc:y9 X (.builtin id) r)(hg:Gl X x)(hm:X.mg x=none)(hv:bootBuiltins x=some (.builtin id))(ha:PA X (e::es) t)(hn:x≠"__name__":=by decide)(cD:(x == ("__debug__":Str))=false:=by decide)(he:starEach (e::es) X.env=(false,eval e X.env)::starEach es X.env:=by rfl)(w6:(backTo pos (starEach es X.env)).any (·.1)=false:=by rfl):PE X (.Call (.Name x p) (e::es) [] pos) (tCB r t):=by
 intro pins s σ H Q I h;refine Zo (qc8 I hg hm hv ?_ hn cD);exact PyProof.Rows.callWith_builtin1 (thn (ha pos pins s σ H _ I h) λ us s1 ⟨vs,H1,I1,r1,q1⟩=>hc pins s1 σ H1 vs us Q I1 r1 q1) he w6
theorem zF(hc:y9 X (.type T) r)(hg:Gl X x)(hm:X.mg x=none)(hv:bootBuiltins x=some (.type T))(ha:PA X (e::es) t)(hn:x≠"__name__":=by decide)(cD:(x == ("__debug__":Str))=false:=by decide)(he:starEach (e::es) X.env=(false,eval e X.env)::starEach es X.env:=by rfl)(w6:(backTo pos (starEach es X.env)).any (·.1)=false:=by rfl):PE X (.Call (.Name x p) (e::es) [] pos) (tCB r t):=by
 intro pins s σ H Q I h;refine Zo (qc8 I hg hm hv ?_ hn cD);exact Xe (thn (ha pos pins s σ H _ I h) λ us s1 ⟨vs,H1,I1,r1,q1⟩=>hc pins s1 σ H1 vs us Q I1 r1 q1) he w6
end
section
variable {κ:Type}[DecidableEq κ]
noncomputable def zS(kvs:List (κ×V))(k:κ):Option V:=(kvs.find? λ kv=>decide (kv.1=k)).map (·.2)
noncomputable def yB(kvs:List (κ×V))(k:κ)(v:V):List (κ×V):=
 if (kvs.any λ kv=>decide (kv.1=k))=true then kvs.map (λ kv=>if kv.1=k then(kv.1,v) else kv) else kvs++[(k,v)]
theorem qde{p:κ×V}{r:List (κ×V)}{k:κ}(e:p.1=k):zS (p::r) k=some p.2:=by simp[zS,U9,e]
theorem qdf{p:κ×V}{r:List (κ×V)}{k:κ}(e:¬ p.1=k):zS (p::r) k=zS r k:=by simp[zS,U9,e]
theorem kC(k:κ):∀ kvs:List (κ×V),(kvs.any λ kv=>decide (kv.1=k))=(zS kvs k).isSome
 | []=>rfl
 |p::r=>by
  rw[Qf];by_cases e:p.1=k
  ·simp only[qde e,J8 e,Bool.true_or,Option.isSome_some]
  ·rw[qdf e,Jm e,Qg];exact kC k r
theorem yS(kvs:List (κ×V))(k:κ)(v:V):(yB kvs k v).length<=kvs.length+1:=by
 unfold yB;split
 ·rw[U5];omega
 ·rw[Ze,Uj,List.length_nil];omega
theorem qdg{kvs:List (κ×V)}{k:κ}(v:V)(h:zS kvs k=none):yB kvs k v=kvs++[(k,v)]:=by
 unfold yB;rw[kC,h];exact V0 (by decide)
theorem ki.isSome_eq(r:ki o u):o.isSome=u.isSome:=by
 cases o with
 |none=>cases u with
  |none=>rfl
  |some _=>exact(show False from r).elim
 |some _=>cases u with
  |none=>exact(show False from r).elim
  |some _=>rfl
theorem ki.getD(r:ki o u)(rd:qV d d'):qV (o.getD d) (u.getD d'):=by
 cases o with
 |none=>cases u with
  |none=>exact rd
  |some _=>exact(show False from r).elim
 |some _=>cases u with
  |none=>exact(show False from r).elim
  |some _=>exact r
theorem KV.val{kvs:List (κ×V)}{vs:List (κ×Value)}(r:KV kvs vs)(k:κ):ki (zS kvs k) (valueAt vs k):=by
 unfold KV at r;induction r with
 |nil=>exact True.intro
 | @cons p q ps qs h t ih =>
  obtain⟨h1,h2⟩:=h;by_cases e:p.1=k
  ·have e':q.1=k:=h1.symm.trans e;have b:valueAt (q::qs) k=some q.2:=by simp[valueAt,U9,e']
   rw[qde e,b];exact h2
  ·have e':¬ q.1=k:=λ z=>e (h1.trans z)
   have b:valueAt (q::qs) k=valueAt qs k:=by simp[valueAt,U9,e']
   rw[qdf e,b];exact ih
theorem KV.any{kvs:List (κ×V)}{vs:List (κ×Value)}(r:KV kvs vs)(k:κ):(kvs.any λ kv=>decide (kv.1=k))=vs.any λ kv=>decide (kv.1=k):=by
 unfold KV at r;induction r with
 |nil=>rfl
 |cons h t ih=>rw[Qf,Qf,ih,h.1]
theorem KV.repl{kvs:List (κ×V)}{vs:List (κ×Value)}(r:KV kvs vs)(k:κ){y:V}{u:Value}(ry:qV y u):
  KV (kvs.map λ kv=>if kv.1=k then(kv.1,y) else kv) (vs.map λ kv=>if kv.1=k then(kv.1,u) else kv):=by
 unfold KV at r ⊢;induction r with
 |nil=>exact .nil
 | @cons p q ps qs h t ih =>
  rw[Qe,Qe];refine .cons ?_ ih;obtain⟨h1,h2⟩:=h;by_cases e:p.1=k
  ·rw[Vz e,Vz (h1.symm.trans e)];exact⟨h1,ry⟩
  ·rw[V0 e,V0 (λ z=>e (h1.trans z))];exact⟨h1,h2⟩
theorem KV.put{kvs:List (κ×V)}{vs:List (κ×Value)}(r:KV kvs vs)(k:κ){y:V}{u:Value}(ry:qV y u):KV (yB kvs k y) (stored vs k u):=by
 unfold yB stored;rw[r.any k];by_cases e:(vs.any λ kv=>decide (kv.1=k))=true
 ·rw[Vz e,Vz e];exact r.repl k ry
 ·rw[V0 e,V0 e];exact Paired.snoc r ⟨rfl,ry⟩
theorem KV.length{kvs:List (κ×V)}{vs:List (κ×Value)}(r:KV kvs vs):kvs.length=vs.length:=Paired.length r
end
theorem qdh(r:qV (kV k) u):(qw P w).is k u=true:=by
 cases k with
 |inl i=>obtain⟨t,e⟩:=(show ∃ t,u=Value.int i t from r);subst e;exact qgj P w i t
 |inr x=>obtain⟨t,e⟩:=(show ∃ t,u=Value.str x t from r);subst e;exact zm P w x t
theorem qeA:∀{ks:List Key}{us:List Value},qL (ks.map kV) us->ItemsAre (qw P w) ks us
 | [],_,r=>by rw[List.map_nil] at r;cases r;exact .nil
 |k::ks,_,r=>by
  rw[Qe] at r;cases r with
  |cons h t=>exact .cons (qdh h) (qeA t)
abbrev KT(H:Hp):List (List Key×V)->List (List Key×Addr×Value)->Prop:=Paired λ p q=>p.1=q.1/\H q.2.1=some (.tup (p.1.map kV))/\qV p.2 q.2.2
theorem KT.val(r:KT H kvs xs)(k:List Key):ki (zS kvs k) ((atKey xs k).map (·.2)):=by
 induction r with
 |nil=>exact True.intro
 | @cons p q ps qs h t ih =>
  obtain⟨h1,_,h2⟩:=h;by_cases e:p.1=k
  ·have e':q.1=k:=h1.symm.trans e;have b:atKey (q::qs) k=some q.2:=by simp[atKey,U9,e']
   rw[qde e,b];exact h2
  ·have e':¬ q.1=k:=λ z=>e (h1.trans z)
   have b:atKey (q::qs) k=atKey qs k:=by simp[atKey,U9,e']
   rw[qdf e,b];exact ih
theorem KT.repl(r:KT H kvs xs)(k:List Key)(ry:qV y u):
  KT H (kvs.map λ kv=>if kv.1=k then(kv.1,y) else kv) (xs.map (putAt k u)):=by
 induction r with
 |nil=>exact .nil
 | @cons p q ps qs h t ih =>
  rw[Qe,Qe];refine .cons ?_ ih;obtain⟨h1,h2,h3⟩:=h;unfold putAt;by_cases e:p.1=k
  ·rw[Vz e,Vz (h1.symm.trans e)];exact⟨h1,h2,ry⟩
  ·rw[V0 e,V0 (λ z=>e (h1.trans z))];exact⟨h1,h2,h3⟩
theorem KT.put(r:KT H kvs xs)(k:List Key)(hb:H b=some (.tup (k.map kV)))(ry:qV y u):
  KT H (yB kvs k y) (storedH xs k b u):=by
 have e:(kvs.any λ kv=>decide (kv.1=k))=(atKey xs k).isSome:=by
  rw[kC,(r.val k).isSome_eq,Option.isSome_map]
 unfold yB storedH;rw[e];by_cases q:(atKey xs k).isSome=true
 ·rw[Vz q,Vz q];exact r.repl k ry
 ·rw[V0 q,V0 q];exact Paired.snoc r ⟨rfl,hb,ry⟩
theorem KT.keeps(r:KT H kvs xs)(ht:∀ b ys,H b=some (.tup ys)->H' b=some (.tup ys)):KT H' kvs xs:=
 Paired.mapP r λ _ _ z=>⟨z.1,ht _ _ z.2.1,z.2.2⟩
section
variable {P:Program}{w:World}{H:Hp}{h:Heap}{a:Addr}
theorem qnP(ok:HOk P w H h)(e:Rd H a u):zI P w H h a u:=e.ok ok
theorem qeB(ok:HOk P w H h)(e:Rd H a (.dK kvs)):kvs.length<=sizeLine/\(a == sysModules)=false/\∃ vs,KV kvs vs/\h.DictOf (qw P w) a vs:=
 show zI P w H h a (.dK kvs) from qnP ok e
theorem qgq(ok:HOk P w H h)(e:H a=some (.dK kvs)):kvs.length<=sizeLine/\(a == sysModules)=false/\∃ vs,KV kvs vs/\h.DictOf (qw P w) a vs:=qeB ok (.inl e)
theorem qdi(ok:HOk P w H h)(e:H a=some (.tup (ks.map kV))):(tupleKind (qw P w)).is h ks a:=by
 obtain⟨_,its,r,o,h1,h2,n,h3⟩:=(show zI P w H h a (.tup (ks.map kV)) from ok a _ e);exact⟨o,its.toArray,n,h1,h2,h3,by simpa using qeA r⟩
theorem qeC(ok:HOk P w H h)(e:Rd H a (.dT kvs)):kvs.length<=sizeLine/\(a == sysModules)=false /\
  ∃ xs,KT H kvs xs/\h.DictOfH (tupleKind (qw P w)) a xs:=by
 obtain⟨z,y,xs,r,o,es,ep,h1,h2,h3,h4,h5⟩:=(show zI P w H h a (.dT kvs) from qnP ok e);refine⟨z,y,xs,r,o,es,ep,h1,h2,h3,h4,λ x hx=>?_,h5⟩;have all:∀{l:List (List Key×V)}{m:List (List Key×Addr×Value)},KT H l m->∀ x∈m,(tupleKind (qw P w)).is h x.1 x.2.1:=by
  intro l m q;induction q with
  |nil=>intro x hx;exact nomatch hx
  | @cons p q ps qs hq t ih =>
   intro x hx;rcases Qd.mp hx with e|hx
   ·subst e;exact qdi ok (by rw[<- hq.1];exact hq.2.1)
   ·exact ih x hx
 exact all r x hx
theorem qpr(ok:HOk P w H h)(e:H a=some (.dT kvs)):kvs.length<=sizeLine/\(a == sysModules)=false /\
  ∃ xs,KT H kvs xs/\h.DictOfH (tupleKind (qw P w)) a xs:=qeC ok (.inl e)
end
def qaK(H:Hp)(a:Addr)(y:V)(r:Option V):Prop:=
 (∃ kvs k,Rd H a (.dK kvs)/\y=kV k/\r=zS kvs k)∨∃ kvs k b,Rd H a (.dT kvs)/\y=.ref b/\H b=some (.tup (k.map kV))/\r=zS kvs k
def qps(H:Hp)(a:Addr)(y v:V)(H':Hp):Prop:=
 (∃ kvs k,H a=some (.dK kvs)/\y=kV k/\kvs.length<sizeLine/\H'=upd H a (.dK (yB kvs k v))) ∨
 ∃ kvs k b,H a=some (.dT kvs)/\y=.ref b/\H b=some (.tup (k.map kV))/\kvs.length<sizeLine/\H'=upd H a (.dT (yB kvs k v))
theorem qaK.k{k:Key}(e:H a=some (.dK kvs)):qaK H a (kV k) (zS kvs k):=.inl ⟨kvs,k,.inl e,rfl,rfl⟩
section
variable {X:Cx}{pins:List (Addr×Obj)}{σ:St}{H:Hp}{s:Shared}{a:Addr}{y v:V}{u r:Value}{o:Option V}{A:Around}{E:Value->Shared->Prop}
theorem Inv.big(I:Inv X pins σ H s):sysModules<s.heap.objs.size:=by
 have h:mainGlobals<s.heap.objs.size:=(I.mod.glob.keeps I.bk).lt;exact Nat.lt_trans (by decide) h
theorem qjy(hu:A.units+1<cLine)(I:Inv X pins σ H s)(g:qaK H a y (some v))(ry:qV y u)(h:∀ w' s',Inv X pins σ H s'->qV v w'->Q w' s'):
  wpAny (model X.prog X.w) A (getItem (.ref a) u) Q E s:=by
 rcases g with⟨kvs,k,e,ey,l⟩|⟨kvs,k,b,e,ey,eb,l⟩
 ·subst ey;obtain⟨z,hd,vs,rel,dd⟩:=qeB I.hok e;obtain⟨w',hw,dF⟩:=ki.some_of (v:=v) (o:=valueAt vs k) (by rw[l];exact rel.val k);exact wpAny_getItem_of (qdh ry) dd.mapOf hw (h w' _ (I.tok _) dF)
 ·subst ey;cases(show u=Value.ref b from ry)
  obtain⟨z,hd,xs,rel,dd⟩:=qeC I.hok e;obtain⟨w',hw,dF⟩:=ki.some_of (v:=v) (o:=(atKey xs k).map (·.2)) (by rw[l];exact rel.val k);obtain⟨p,hp,bC⟩:=Option.map_eq_some_iff.mp hw;refine wpAny_getItem_heap (Zp hu) (qdi I.hok eb) dd hp ?_;rw[bC];exact h w' _ (I.tok _) dF
theorem qqw(hu:A.units+1<cLine)(I:Inv X pins σ H s)(g:qaK H a y o)(ry:qV y u)(h:∀ s',Inv X pins σ H s'->Q (.bool o.isSome) s'):
  wpAny (model X.prog X.w) A (compareOp .In u (.ref a)) Q E s:=by
 rcases g with⟨kvs,k,e,ey,l⟩|⟨kvs,k,b,e,ey,eb,l⟩
 ·subst ey;obtain⟨z,hd,vs,rel,dd⟩:=qeB I.hok e;refine wpAny_in_of (qdh ry) hd dd.mapOf ?_;rw[<- (rel.val k).isSome_eq,<- l];exact h _ (I.tok _)
 ·subst ey;cases(show u=Value.ref b from ry)
  obtain⟨z,hd,xs,rel,dd⟩:=qeC I.hok e;refine wpAny_in_heap (Zp hu) (qdi I.hok eb) hd dd ?_;have q:=(rel.val k).isSome_eq;rw[Option.isSome_map] at q;rw[<- q,<- l];exact h _ (I.tok _)
theorem qcP(I:Inv X pins σ H s)(mu:Mut (H a))(hs:Heap.SameBut a s.heap h')(he:∃ q,h'.get? a=some q)(new:zI X.prog X.w (upd H a ob) h' a ob):
  Inv X pins σ (upd H a ob) { s with heap:=h',toks:=t' }:=
 I.write (x:=a) (e:=a) mu (.inl rfl) (λ b q hb z=>(hs.2 b hb).trans z) he new
theorem qdj(z:kvs.length<=sizeLine)(hd:(a == sysModules)=false)(rel:KV kvs vs)(dd:h'.DictOf (qw P w) a vs):
  zI P w H' h' a (.dK kvs):=⟨z,hd,vs,rel,dd⟩
theorem qjz(hu:A.units+1<cLine)(I:Inv X pins σ H s)(g:qps H a y v H')(ry:qV y u)(rv:qV v r)(h:∀ s',Inv X pins σ H' s'->Q () s'):
  wpAny (model X.prog X.w) A (setItem (.ref a) u r) Q E s:=by
 rcases g with⟨kvs,k,e,ey,l,eH⟩|⟨kvs,k,b,e,ey,eb,l,eH⟩
 ·subst ey eH;obtain⟨z,hd,vs,rel,dd⟩:=qgq I.hok e;have hz:vs.length<=sizeLine:=by rw[<- rel.length];exact z
  have hl:(yB kvs k v).length<=sizeLine:=by have:=yS kvs k v;omega
  refine wpAny_setItem_pairs (hsz:=hz) (qdh ry) dd λ h' iB hs=>h _ ?_
  have he:∃ q,h'.get? a=some q:=let ⟨q,_,_,hq,_⟩:=iB;⟨q,hq⟩;exact qcP I (by rw[e];exact True.intro) hs he (qdj hl hd (rel.put k rv) iB)
 ·subst ey eH;cases(show u=Value.ref b from ry)
  obtain⟨z,hd,xs,rel,dd⟩:=qpr I.hok e;have hz:xs.length<=sizeLine:=by rw[<- Paired.length rel];exact z
  have hl:(yB kvs k v).length<=sizeLine:=by have:=yS kvs k v;omega
  refine wpAny_setItem_heap (hsz:=hz) (Zp hu) (qdi I.hok eb) dd λ h' iB hs=>h _ ?_
  obtain⟨q,es,ep,hq,h2,h3,h4,_,h5⟩:=iB;refine qcP I (by rw[e];exact True.intro) hs ⟨q,hq⟩ ⟨hl,hd,_,(rel.put k eb rv).keeps λ c ys ec=>?_,q,es,ep,hq,h2,h3,h4,h5⟩;rw[qu (qgk ec e (λ z=>nomatch z))];exact ec
end
def qoe(i:Expr):Prop:=∀ ov iv,subscripted i false ov iv=operate [ov,iv] (getItem ov iv)
theorem qiQ {id:String}(hl:typeLookup (.type T) "__getitem__"=pure (some (.builtin id)))(hs:qoe E1)(h:wpAny (model prog w) A (eval value env) (λ o s₁=>wpAny (model prog w) A (eval E1 env) (λ i s₂=>s₂.TypeIs o T/\wpAny (model prog w) A (getItem o i) Q E s₂) E s₁) E s):
  wpAny (model prog w) A (eval (.Subscript value E1 pos) env) Q E s:=by
 refine Subscript_ (Vg h (λ o s₁ h₁=>Vg h₁ (λ i s₂ h₂=>?_) λ _ _ x=>x) λ _ _ x=>x);obtain⟨hT,h₂⟩:=h₂;unfold subscriptTail;refine Vh ?_;rw[getitemInPython_of_ne hT.not_modules];refine Vh (Jp hT hl ?_);have fin:wpAny (model prog w) A (subscripted E1 false o i) (λ r s₃=>wpAny (model prog w) A (letTemporaryGo value o r >>= λ _=>pure r) Q E s₃) E s₂:=by
  rw[hs o i];exact wpAny_operating (Vg h₂ (λ r s₃ h₃=>Vh (wpAny_letTemporaryGo (Vi h₃))) λ _ _ x=>x)
 first
  |exact Vi (Vh fin)
  |exact Vh (Vi (Vh fin))
  |exact Vh fin
theorem qgr(I:Inv X pins σ H s)(g:qaK H a y o):s.TypeIs (.ref a) "dict":=by
 rcases g with⟨kvs,k,e,_,_⟩|⟨kvs,k,b,e,_,_,_⟩
 ·obtain⟨_,_,vs,_,dd⟩:=qeB I.hok e;exact dd.typeIs
 ·obtain⟨_,_,xs,_,dd⟩:=qeC I.hok e;exact dd.typeIs
def qpt(td ty:TE):TE:=λ σ H Q=>td σ H λ x H1=>ty σ H1 λ y H2=>∃ a v,x=.ref a/\qaK H2 a y (some v)/\Q v H2
def qqx(ty td:TE):TE:=λ σ H Q=>ty σ H λ y H1=>td σ H1 λ x H2=>∃ a o,x=.ref a/\qaK H2 a y o/\Q (.bl o.isSome) H2
def qpu(td ty tv:TE):TS:=λ D σ H=>tv σ H λ v H1=>td σ H1 λ x H2=>ty σ H2 λ y H3=>∃ a H4,x=.ref a/\qps H3 a y v H4/\D.nx σ H4
section
variable {X:Cx}{o i e value:Expr}{pos w5 x8:Pos}{td ty tv:TE}
theorem qbw(hu:X.A.units+1<cLine)(ho:PE X o td)(hi:PE X i ty)(hs:qoe i):PE X (.Subscript o i pos) (qpt td ty):=by
 intro pins s σ H Q I h;refine qiQ PySem.F.slot_dict_getitem.lookup hs (thn (ho pins s σ H _ I h) λ u s1 ⟨x,H1,I1,rx,q1⟩=>thn (hi pins s1 σ H1 _ I1 q1) λ iv s2 ⟨y,H2,I2,ry,a,v,ex,g,q2⟩=>?_);subst ex;obtain rfl:u=Value.ref a:=rx;exact⟨qgr I2 g,qjy hu I2 g ry λ w' s3 I3 dF=>⟨v,H2,I3,dF,q2⟩⟩
theorem qof(hu:X.A.units+1<cLine)(hi:PE X i ty)(ho:PE X o td):PC X .In i o (qqx ty td):=by
 intro pins s σ H Q I h;refine thn (hi pins s σ H _ I h) λ iv s1 ⟨y,H1,I1,ry,q1⟩=>thn (ho pins s1 σ H1 _ I1 q1) λ u s2 ⟨x,H2,I2,rx,a,ov,ex,g,q2⟩=>?_
 subst ex;obtain rfl:u=Value.ref a:=rx;exact qqw hu I2 g ry λ s3 I3=>⟨.bl ov.isSome,H2,I3,rfl,q2⟩
theorem qfi(hu:X.A.units+1<cLine)(ho:PE X o td)(hi:PE X i ty)(hv:PE X value tv)(hs:swapsWith value (some (.Subscript o i w5)) pos.line X.env=pure false):
  PS X (.Assign [.Subscript o i w5] value pos) (qpu td ty tv):=by
 intro pins s σ H D I h;refine wpAny_Assign_Subscript (thn (hv pins s σ H _ I h) λ r s1 ⟨v,H1,I1,rv,q1⟩=>thn (ho pins s1 σ H1 _ I1 q1) λ u s2 ⟨x,H2,I2,rx,q2⟩=>thn (hi pins s2 σ H2 _ I2 q2) λ iv s3 ⟨y,H3,I3,ry,a,H4,ex,g,q3⟩=>?_) hs;subst ex;obtain rfl:u=Value.ref a:=rx;exact qjz hu I3 g ry rv λ s4 I4=>⟨σ,H4,I4,q3⟩
end
theorem qgs(h:Heap)(hb:sysModules<h.objs.size):zI P w H (h.push { cls:=.type "dict",data:=.dict #[] }) h.objs.size (.dK []):=
 ⟨Va _,Y8.mpr (Vu (Qt hb)),[],.nil,Heap.DictOf.new h⟩
def qog:TE:=λ _ H Q=>∀ p,H p=none->Q (.ref p) (upd H p (.dK []))
section
variable {X:Cx}{pos:Pos}
theorem qgt:PE X (.Dict [] [] pos) qog:=λ pins s σ H Q I h =>
 wpAny_Dict_empty ⟨.ref s.heap.objs.size,_,I.laid (a:=s.heap.objs.size) (o:=.dK []) (t':=s.toks) (λ _ _ q=>XG _ q) (Q9 _) (qgs s.heap I.big),rfl,h _ (I.hok.fresh (Q9 _))⟩
end
def qhK:List (TE×TE)->St->Hp->(List (V×V)->Hp->Prop)->Prop
 | [],_,H,Q=>Q [] H
 |(tk,tv)::r,σ,H,Q=>tk σ H λ x H1=>tv σ H1 λ y H2=>qhK r σ H2 λ ps H3=>Q ((x,y)::ps) H3
abbrev VV:List (V×V)->List (Value×Value)->Prop:=Paired λ p q=>qV p.1 q.1/\qV p.2 q.2
def PPs(X:Cx)(pos:Pos)(keys:List (Option Expr))(L4:List Expr)(iD:List (TE×TE)):Prop:=
 ∀(pins:List (Addr×Obj))(s:Shared)(σ:St)(H:Hp)(Q:List (V×V)->Hp->Prop),Inv X pins σ H s->qhK iD σ H Q ->
  wpAny (model X.prog X.w) X.A (evalPairs (pairTrees keys L4 X.env pos)) (λ vs s'=>∃ ps H',Inv X pins σ H' s'/\VV ps vs/\Q ps H') X.xe s
theorem qiR:PPs X pos [] [] []:=λ pins s σ H Q I h=>pairTrees_nil_walk ⟨[],H,I,.nil,h⟩
theorem qbx(hk:PE X k tk)(hv:PE X v tv)(hr:PPs X pos ks vs iD):
  PPs X pos (some k::ks) (v::vs) ((tk,tv)::iD):=λ pins s σ H Q I h =>
 pairTrees_cons_walk (thn (hk pins s σ H _ I h) λ u s1 ⟨x,H1,I1,rx,q1⟩=>thn (hv pins s1 σ H1 _ I1 q1) λ w2 s2 ⟨y,H2,I2,ry,q2⟩ =>
  thn (hr pins s2 σ H2 _ I2 q2) λ ws s3 ⟨ps,H3,I3,rel,q3⟩=>⟨(x,y)::ps,H3,I3,.cons ⟨rx,ry⟩ rel,q3⟩)
noncomputable def qN(kvs more:List (Key×V)):List (Key×V):=more.foldl (λ c7 kv=>yB c7 kv.1 kv.2) kvs
theorem KV.merge:∀{more:List (Key×V)}{rs:List (Key×Value)}{kvs:List (Key×V)}{vs:List (Key×Value)},KV more rs->KV kvs vs->KV (qN kvs more) (merged vs rs):=by
 intro more rs kvs vs r;unfold KV at r;induction r generalizing kvs vs with
 |nil=>intro q;exact q
 | @cons p q ps qs h t ih =>
  intro r0;have e:KV (yB kvs p.1 p.2) (stored vs q.1 q.2):=by
   have:=r0.put p.1 h.2
   rw[<- h.1];exact this
  exact ih e
theorem yI:∀(more kvs:List (Key×V)),(qN kvs more).length<=kvs.length+more.length
 | [],kvs=>by show kvs.length<=kvs.length+0;omega
 |p::r,kvs=>by
  have h1:=yI r (yB kvs p.1 p.2);have h2:=yS kvs p.1 p.2;show(qN (yB kvs p.1 p.2) r).length<=_
  rw[Uj];omega
theorem qdk:∀{kvs:List (Key×V)}{ws:List (Value×Value)},VV (kvs.map λ kv=>(kV kv.1,kv.2)) ws->∃ rs,Carries (qw P w) ws rs/\KV kvs rs
 | [],_,r=>by rw[List.map_nil] at r;cases r;exact⟨[],True.intro,.nil⟩
 |p::kvs,_,r=>by
  rw[Qe] at r;cases r with
  | @cons a b as bs h t =>
   obtain⟨rs,c,q⟩:=qdk (P:=P) (w:=w) t;obtain⟨b1,b2⟩:=b;exact⟨(p.1,b2)::rs,⟨qdh h.1,rfl,c⟩,.cons ⟨rfl,h.2⟩ q⟩
def qpv(iD:List (TE×TE)):TE:=λ σ H Q=>∀ p,H p=none->qhK iD σ (upd H p (.dK [])) λ ps H2=>H2 p=some (.dK [])/\∃ kvs:List (Key×V),ps=kvs.map (λ kv=>(kV kv.1,kv.2))/\kvs.length<=15/\Q (.ref p) (upd H2 p (.dK (qN [] kvs)))
theorem qiS(h:PPs X pos keys L4 iD)(cG:keys.all (·.isSome)=true)(hl:keys.length=L4.length)(h0:keys≠[])(h15:keys.length<=15):PE X (.Dict keys L4 pos) (qpv iD):=by
 intro pins s σ H Q I q;have hn:=I.hok.fresh (Q9 s.heap.objs.size);have I1:=I.laid (a:=s.heap.objs.size) (o:=.dK []) (h':=s.heap.push { cls:=.type "dict",data:=.dict #[] }) (t':=s.toks) (λ _ _ q=>XG _ q) (Q9 _) (qgs s.heap I.big);refine wpAny_Dict_walk (knd:=qw X.prog X.w) cG hl h0 h15 (thn (h pins _ σ _ _ I1 (q _ hn)) λ ws s2 ⟨ps,H2,I2,rel,e,kvs,ep,lk,q2⟩=>?_);subst ep;obtain⟨rs,c,rk⟩:=qdk (P:=X.prog) (w:=X.w) rel;obtain⟨z,hd,vs0,r0,dd⟩:=qgq I2.hok e;cases r0
 refine⟨rs,c,dd,λ h' iB hs=>⟨.ref s.heap.objs.size,_,?_,rfl,q2⟩⟩;have hz:(qN [] kvs).length<=sizeLine:=by
  have h1:=yI kvs [];rw[List.length_nil] at h1;rw[Vc];omega
 have he:∃ q,h'.get? s.heap.objs.size=some q:=let ⟨q,_,_,hq,_⟩:=iB;⟨q,hq⟩;exact qcP I2 (by rw[e];exact True.intro) hs he (qdj hz hd (rk.merge .nil) iB)
structure M2(X:Cx)(o:Expr)(m:Str)(apos:Pos)(e f:Expr)(cpos:Pos):Prop where
 base:attributeBase o m X.env (eval o X.env)=eval o X.env
 few:((backTo cpos (starEach [e,f] X.env)).all (λ x=>!x.1) && (backToKw cpos (keywordEach [] X.env)).all (λ x=>x.1.isSome)
  && decide (([e,f]:List Expr).length+([]:List Keyword).length+(if ([]:List Keyword).isEmpty then 0 else 1)<30))=true
 line:(apos.endLine == cpos.line)=true
 trees:backTo cpos (starEach [e,f] X.env)=[(false,eval e X.env),(false,eval f X.env)]
def IsD(H:Hp)(a:Addr):Prop:=(∃ kvs,Rd H a (.dK kvs))∨∃ kvs,Rd H a (.dT kvs)
theorem qoh(I:Inv X pins σ H s)(d:IsD H a):
  s.TypeIs (.ref a) "dict"/\(∀ b,Value.ref a=.ref b->∃ ob,s.heap.get? b=some ob/\ob.dict=none)/\(a == sysModules)=false:=by
 rcases d with⟨kvs,e⟩|⟨kvs,e⟩
 ·obtain⟨_,hd,vs,_,dd⟩:=qeB I.hok e;refine⟨dd.typeIs,λ b q=>?_,hd⟩;cases q
  obtain⟨ob,_,_,h1,h2,_⟩:=dd;exact⟨ob,h1,h2.2.1⟩
 ·obtain⟨_,hd,xs,_,dd⟩:=qeC I.hok e;refine⟨dd.typeIs,λ b q=>?_,hd⟩;cases q
  obtain⟨ob,_,_,h1,h2,_⟩:=dd;exact⟨ob,h1,h2.2.1⟩
section
variable {X:Cx}{pins:List (Addr×Obj)}{σ:St}{H:Hp}{s:Shared}{a:Addr}{y d:V}{u r:Value}{o:Option V}{A:Around}{E:Value->Shared->Prop}
theorem qoi(hu:A.units+1<cLine)(I:Inv X pins σ H s)(g:qaK H a y o)(ry:qV y u)(rd:qV d r)(h:∀ w' s',Inv X pins σ H s'->qV (o.getD d) w'->Q w' s'):
  wpAny (model X.prog X.w) A (call (.builtin "dict.get") [.ref a,u,r]) Q E s:=by
 rcases g with⟨kvs,k,e,ey,l⟩|⟨kvs,k,b,e,ey,eb,l⟩
 ·subst ey;obtain⟨z,hd,vs,rel,dd⟩:=qeB I.hok e;refine call_meetsIn XU dd.typeIs PySem.F.entry_dict_get (PySem.F.args_dict_get_3 _ _ _) (meets_dict_get_default (qw X.prog X.w) a (qdh ry) hd r) ⟨_,dd.mapOf,h _ _ (I.tok _) ?_⟩;rw[l];exact(rel.val k).getD rd
 ·subst ey;cases(show u=Value.ref b from ry)
  obtain⟨z,hd,xs,rel,dd⟩:=qeC I.hok e;refine call_meetsIn XU dd.typeIs PySem.F.entry_dict_get (PySem.F.args_dict_get_3 _ _ _) (meetsH_dict_get_default (tupleKind (qw X.prog X.w)) a b hd r) ⟨Zp hu,k,xs,qdi I.hok eb,dd,h _ _ (I.tok _) ?_⟩;rw[l];exact(rel.val k).getD rd
end
def qoj(td ty tx:TE):TE:=λ σ H Q=>td σ H λ x H1=>∃ a,x=.ref a/\IsD H1 a/\ty σ H1 λ y H2=>tx σ H2 λ z H3=>∃ o,qaK H3 a y o/\Q (o.getD z) H3
section
variable {X:Cx}{o e f:Expr}{apos cpos:Pos}{td ty tx:TE}
theorem qkE(hu:X.A.units+1<cLine)(ho:PE X o td)(he:PE X e ty)(hf:PE X f tx)(m:M2 X o "get" apos e f cpos):PE X (.Call (.Attribute o "get" apos) [e,f] [] cpos) (qoj td ty tx):=by
 intro pins s σ H Q I h;refine wpAny_Call_method m.base m.few m.line X6 XU PySem.F.type_dict_get (thn (ho pins s σ H _ I h) λ u s1 ⟨x,H1,I1,rx,a,ex,d,q1⟩=>?_);subst ex;obtain rfl:u=Value.ref a:=rx;obtain⟨t1,t2,_⟩:=qoh I1 d;refine⟨t1,t2,?_⟩;rw[m.trees];refine XH rfl (Calls.evalArgs_plain (Calls.spliced_cons (thn (he pins s1 σ H1 _ I1 q1) λ iv s2 ⟨y,H2,I2,ry,q2⟩ =>
  Calls.spliced_cons (thn (hf pins s2 σ H2 _ I2 q2) λ fv s3 ⟨z,H3,I3,rz,ov,g,q3⟩=>Calls.spliced_nil ?_))))
 exact qoi hu I3 g ry rz λ w' s4 I4 dF=>⟨_,H3,I4,dF,q3⟩
end
end L2
namespace HT
open PySem PyProof.Rows
section
variable {prog:Program}{w:World}{A:Around}{E:Value->Shared->Prop}{s:Shared}
theorem cat_tup(ht:IsTup s.heap t vs.toArray)(hb:IsTup s.heap b ws.toArray)(hv:vs≠[])(h1:ws=[]->Q (.ref t) s)(h2:ws≠[]->Q (.ref s.heap.objs.size) { s with heap:=s.heap.push { cls:=.type "tuple",data:=.seq (vs++ws).toArray } })(hsz:vs.length+ws.length<=sizeLine):wpAny (model prog w) A (binaryOp .Add (.ref t) (.ref b)) Q E s:=by
 obtain⟨⟨cls,dd,data,sl⟩,ho,hc,n,hd⟩:=id ht;obtain⟨⟨cls2,rV,data2,sl2⟩,W4,oW,n2,bK⟩:=id hb;simp only at hc hd oW bK;subst hc hd oW bK;have e:vs.toArray++ws.toArray=(vs++ws).toArray:=by simp
 by_cases hw:ws=[]
 ·exact concat_meets ⟨_,ho,rfl⟩ ⟨_,W4,rfl⟩ noFill_tuple_add seq_tuple_add XI X7 (Xx _ _)
   (tuple_addW1 t b vs.toArray ws.toArray n n2 dd rV sl sl2 (by simpa using hv) (by simp[hw])) ⟨ho,W4,h1 hw⟩
 ·refine concat_meets ⟨_,ho,rfl⟩ ⟨_,W4,rfl⟩ noFill_tuple_add seq_tuple_add XI X7 (Xx _ _)
   (tuple_addW2 t b vs.toArray ws.toArray n n2 dd rV sl sl2 (by simpa using hv) (by simpa using hw) (by rw[Zu,Zu];exact hsz)) ⟨ho,W4,?_⟩
  rw[e];exact h2 hw
noncomputable def sIx(n d:Nat):Option Int->Nat
 |none=>d
 |some v=>if v<0 then(v+(n:Int)).toNat else min v.toNat n
theorem sIx_nat(n d k:Nat):sIx n d (some (k:Int))=min k n:=by
 show(if (k:Int)<0 then((k:Int)+(n:Int)).toNat else min (k:Int).toNat n)=min k n
 rw[V0 (by omega),Zv]
end
end HT
namespace L2
open PySem PySem.Spec PyProof.Rows
abbrev TO:=St->Hp->(Option Int->Hp->Prop)->Prop
def PO(X:Cx)(e:Option Expr)(t:TO):Prop:=
 ∀(pins:List (Addr×Obj))(s:Shared)(σ:St)(H:Hp)(Q:Option Int->Hp->Prop),Inv X pins σ H s->t σ H Q ->
  wpAny (model X.prog X.w) X.A (evalPart e X.env) (λ u s'=>∃ o H',Inv X pins σ H' s'/\IsPart u o/\Q o H') X.xe s
def qmB:TO:=λ _ H Q=>Q none H
def qpw(t:TE):TO:=λ σ H Q=>t σ H λ x H1=>∃ i,x=.int i/\Q (some i) H1
section
variable {X:Cx}{e:Expr}{te:TE}{lo hi:Option Expr}{tl th:TO}{pos p2:Pos}
theorem qcQ:PO X none qmB:=by
 intro pins s σ H Q I h;rw[evalPart_none];exact Vi ⟨none,H,I,.none,h⟩
theorem qcR(h:PE X e te):PO X (some e) (qpw te):=by
 intro pins s σ H Q I hw;rw[evalPart_some];refine thn (h pins s σ H _ I hw) λ u s1 ⟨x,H1,I1,r1,q1⟩=>?_
 obtain⟨i,rfl,q⟩:=q1;obtain⟨t,rfl⟩:=r1;exact⟨some i,H1,I1,.int i t,q⟩
def SlR(X:Cx)(r:V->Option Int->Option Int->Hp->VK->Prop):Prop:=
 ∀(pins:List (Addr×Obj))(s:Shared)(σ:St)(H:Hp)(x:V)(v vl vu:Value)(lo hi:Option Int)(sl:Addr)(Q:VK),Inv X pins σ H s->qV x v->s.heap.IsSliceOf sl vl vu .none->IsPart vl lo->IsPart vu hi->r x lo hi H Q ->
  ∃ T id,typeLookup (.type T) "__getitem__"=pure (some (.builtin id))/\s.TypeIs v T/\wpAny (model X.prog X.w) X.A (getItem v (.ref sl)) (EP X pins σ Q) X.xe s
def tSl(r:V->Option Int->Option Int->Hp->VK->Prop)(te:TE)(tl th:TO):TE:=λ σ H Q=>te σ H λ x H1=>tl σ H1 λ l H2=>th σ H2 λ u H3=>r x l u H3 Q
theorem qby(hr:SlR X r)(he:PE X e te)(hl:PO X lo tl)(hu:PO X hi th):PE X (.Subscript e (.Slice lo hi none p2) pos) (tSl r te tl th):=by
 intro pins s σ H Q I h;refine Subscript_ (thn (he pins s σ H _ I h) λ v s1 ⟨x,H1,I1,r1,q1⟩=>?_);refine wpAny_Slice (thn (hl pins s1 σ H1 _ I1 q1) λ vl s2 ⟨l,H2,I2,pl,q2⟩=>thn (hu pins s2 σ H2 _ I2 q2) λ vu s3 ⟨u,H3,I3,pu,q3⟩=>?_);rw[evalPart_none];refine Vi ?_;have I4:Inv X pins σ H3 { s3 with heap:=s3.heap.push { cls:=.type "slice",data:=.fields #[vl,vu,.none] } }:=I3.kept (t':=s3.toks) λ b ob q=>XG _ q
 obtain⟨T,id,hT,ht,hg⟩:=hr pins { s3 with heap:=s3.heap.push { cls:=.type "slice",data:=.fields #[vl,vu,.none] } } σ H3 x v vl vu l u s3.heap.objs.size Q I4 r1 (Heap.IsSliceOf.new ..) pl pu q3;show wpAny (model X.prog X.w) X.A (subscriptTail e (.Slice lo hi none p2) v (.ref s3.heap.objs.size)) (EP X pins σ Q) X.xe { s3 with heap:=s3.heap.push { cls:=.type "slice",data:=.fields #[vl,vu,.none] } }
 exact tail_any (ops:=[.ref s3.heap.objs.size,v]) ht hT hg (by with_unfolding_all rfl)
noncomputable def qgu(xs:List V)(lo hi:Option Int):List V:=(xs.drop (HT.sIx xs.length 0 lo)).take (HT.sIx xs.length xs.length hi-HT.sIx xs.length 0 lo)
theorem qgv(xs:List V)(lo hi:Option Int):(qgu xs lo hi).length<=xs.length:=by
 unfold qgu;rw[Ul,Um];omega
end
noncomputable def ixN(n:Nat)(i:Int):Option Nat:=if 0<=i then(if i<n then some i.toNat else none) else if -(n:Int)<=i then some (i+n).toNat else none
noncomputable def atI{α:Type}(xs:List α)(i:Int):Option α:=(ixN xs.length i).bind λ j=>xs[j]?
theorem qiT(h:ixN n i=some j):seqIndex? i n=some j/\j<n/\-(n:Int)<=i/\i<n:=by
 unfold ixN at h;by_cases h0:0<=i
 ·rw[Vz h0] at h;by_cases h1:i<n
  ·rw[Vz h1] at h;have e:i.toNat=j:=Option.some.inj h;exact⟨by rw[seqIndex_of h0 h1,e],by omega,by omega,h1⟩
  ·rw[V0 h1] at h;cases h
 ·rw[V0 h0] at h;by_cases h1:-(n:Int)<=i
  ·rw[Vz h1] at h;have e:(i+n).toNat=j:=Option.some.inj h;exact⟨by rw[seqIndex_neg (by omega) h1,e],by omega,h1,by omega⟩
  ·rw[V0 h1] at h;cases h
theorem qfj{xs:List α}{v:α}(h:atI xs i=some v):∃ j,seqIndex? i xs.length=some j/\xs[j]?=some v/\j<xs.length/\-(xs.length:Int)<=i/\i<xs.length:=by
 unfold atI at h;cases e:ixN xs.length i with
 |none=>rw[e] at h;cases h
 |some j =>
  rw[e] at h;obtain⟨h1,h2,h3,h4⟩:=qiT e;exact⟨j,h1,h,h2,h3,h4⟩
theorem jc{xs:List α}{j:Nat}{v:α}(h:xs[j]?=some v):atI xs (j:Int)=some v:=by
 have hj:j<xs.length:=(Xn.mp h).1;have e:ixN xs.length (j:Int)=some j:=by
  unfold ixN;rw[Vz (by omega),Vz (by omega)];simp
 unfold atI;rw[e];exact h
theorem kF(xs:List α)(v:α):atI (xs++[v]) (-1)=some v:=by
 have hl:(xs++[v]).length=xs.length+1:=by simp
 have e:ixN (xs++[v]).length (-1)=some xs.length:=by
  unfold ixN;rw[hl,V0 (by decide),Vz (by omega)];congr 1
  omega
 unfold atI;rw[e];show(xs++[v])[xs.length]?=some v
 simp
def qmC(b:Expr):Prop:=∀ o i,subscripted b false o i=operate [o,i] (getItem o i)
def IxR(X:Cx)(r:R2):Prop:=
 ∀(value E1:Expr)(pins:List (Addr×Obj))(s:Shared)(σ:St)(H:Hp)(x y:V)(v u:Value)(Q:VK),Inv X pins σ H s->qV x v->qV y u->r x y H Q ->
  subscripted E1 false v u=operate [v,u] (getItem v u)->wpAny (model X.prog X.w) X.A (subscriptTail value E1 v u) (EP X pins σ Q) X.xe s
def MtR(X:Cx)(id:String)(r:V->List V->Hp->VK->Prop):Prop:=
 ∀(pins:List (Addr×Obj))(s:Shared)(σ:St)(H:Hp)(x:V)(xs:List V)(v:Value)(us:List Value)(Q:VK),Inv X pins σ H s->qV x v->qL xs us->r x xs H Q ->
  wpAny (model X.prog X.w) X.A (call (.builtin id) (v::us)) (EP X pins σ Q) X.xe s
section
variable {X:Cx}{a b:Expr}{ta tb:TE}{pos:Pos}
theorem za(hr:IxR X r)(ha:PE X a ta)(hb:PE X b tb)(hs:qmC b):PE X (.Subscript a b pos) (tOp r ta tb):=by
 intro pins s σ H Q I h;exact Subscript_ (qn9 ha hb I h λ v u s2 x y H2 I2 rx ry q=>hr a b pins s2 σ H2 x y v u Q I2 rx ry q (hs _ _))
def qok(K:W.Frag):R2:=λ x y H Q=>∃ p xs i v,x=.ref p/\y=.int i/\SqL K H p xs/\atI xs i=some v/\Q v H
def qmD(K:W.Frag):R2:=λ x y H Q=>∃ p xs i v,x=.ref p/\y=.int i/\SqT K H p xs/\atI xs i=some v/\Q v H
def qqy:R2:=λ x y H Q=>∃ z i c,x=.str z/\y=.int i/\z.length<=sizeLine/\atI z.cps.toList i=some c/\Q (.str ⟨#[c]⟩) H
theorem zA:IxR X (qok X.K):=by
 intro value E1 pins s σ H x y v u Q I rx ry h hs;obtain⟨p,xs,i,z,rfl,rfl,hq,he,q⟩:=h;cases rx
 obtain⟨t,rfl⟩:=ry;obtain⟨its,r,pl,hz⟩:=I.list hq;obtain⟨j,h1,h2,h3,h4,h5⟩:=qfj he;obtain⟨w,ew,dF⟩:=r.get h2;have hl:=r.length;have hn:=kz;have fin:EP X pins σ Q w s:=⟨z,H,I,dF,q⟩;by_cases h0:0<=i
 ·have hj:i.toNat=j:=by
   rw[seqIndex_of h0 h5] at h1;exact Option.some.inj h1
  exact item_listR pl.isList h0 (by omega) (by rw[hj];simpa using ew) fin hs
 ·have hj:(i+(its.toArray.size:Int)).toNat=j:=by
   rw[seqIndex_neg (by omega) h4] at h1;rw[Zu,<- hl];exact Option.some.inj h1
  exact subscriptTail_builtinR (x:=w) pl.isList.typeIs slot_list_getitem.lookup
   (wpAny_getItem_list_neg (Q:=λ r s'=>r=w/\EP X pins σ Q r s') pl.isList (by omega) (by rw[Zu] <;> omega) (by omega) (by rw[hj];simpa using ew) ⟨rfl,fin⟩) hs
theorem zv:IxR X (qmD X.K):=by
 intro value E1 pins s σ H x y v u Q I rx ry h hs;obtain⟨p,xs,i,z,rfl,rfl,hq,he,q⟩:=h;cases rx
 obtain⟨t,rfl⟩:=ry;obtain⟨its,r,pl,hz⟩:=I.tuple hq;obtain⟨j,h1,h2,h3,h4,h5⟩:=qfj he;obtain⟨w,ew,dF⟩:=r.get h2;have hl:=r.length;have hn:=kz;have fin:EP X pins σ Q w s:=⟨z,H,I,dF,q⟩;exact subscriptTail_builtinR (x:=w) pl.typeIs slot_tuple_getitem.lookup
  (getItem_tuple (j:=j) (Q:=λ r s'=>r=w/\EP X pins σ Q r s') pl (by omega) (by omega) (by rw[Zu,<- hl];exact h1) (by simpa using ew) ⟨rfl,fin⟩) hs
theorem qol:IxR X qqy:=by
 intro value E1 pins s σ H x y v u Q I rx ry h hs;obtain⟨z,i,c,rfl,rfl,hz,he,q⟩:=h;obtain⟨t,rfl⟩:=rx;obtain⟨t',rfl⟩:=ry;obtain⟨j,h1,h2,h3,h4,h5⟩:=qfj he;have hl:z.cps.toList.length=z.length:=by simp[Str.length]
 rw[hl] at h1 h4 h5;have hn:=kz;exact tail_any (Vk s z t) slot_str_getitem.lookup (getItem_str (c:=c) (by
  have e1:decide (i < -(2^63:Int))=false:=Jm (by omega);have e2:decide (i ≥ 2^63)=false:=Jm (by omega);rw[e1,e2,Qh]) (by rw[h1];simpa using h2) ⟨.str ⟨#[c]⟩,H,I.tok _,⟨_,rfl⟩,q⟩) hs
theorem qhL(its:List Value)(n j:Nat)(u:Value):Obj.mapSeq (·.setIfInBounds j u) { cls:=.type "list",data:=.seq its.toArray n }={ cls:=.type "list",data:=.seq (its.set j u).toArray n }:=by
 simp[Obj.mapSeq]
theorem Inv.lst(I:Inv X pins σ H s)(h:H p=some (.lst xs)):
  ∃(its:List Value)(n:Nat),qL xs its/\s.heap.get? p=some { cls:=.type "list",data:=.seq its.toArray n }/\xs.length<=sizeLine:=by
 obtain⟨z,its,n,r,e⟩:=I.hok p _ h;exact⟨its,n,r,e,z⟩
theorem Inv.lstUpd {its:List Value}(I:Inv X pins σ H s)(h:H p=some (.lst xs))(ho:s.heap.get? p=some { cls:=.type "list",data:=.seq its.toArray n })(hf:f { cls:=.type "list",data:=.seq its.toArray n }={ cls:=.type "list",data:=.seq its'.toArray n' })(r:qL ys its')(hz:ys.length<=sizeLine)(t:Nat):
  Inv X pins σ (upd H p (.lst ys)) { s with heap:=s.heap.update p f,toks:=t }:=by
 have e:(s.heap.update p f).get? p=some { cls:=.type "list",data:=.seq its'.toArray n' }:=by
  rw[XV f ho (by rw[hf] <;> rfl),hf]
 refine I.write (x:=p) (e:=p) (by rw[h];trivial) (.inl rfl) (λ b u hb q=>(XJ _ _ (Vu hb)).trans q) ⟨_,e⟩ ?_;exact⟨hz,its',n',r,e⟩
def qpx:V->V->V->Hp->(Hp->Prop)->Prop:=λ o i v H Q=>∃ p xs k j,o=.ref p/\i=.int k/\H p=some (.lst xs)/\ixN xs.length k=some j/\Q (upd H p (.lst (xs.set j v)))
theorem qbz:qph X qpx:=by
 intro pins s σ H o i v ov iv u Q I ro ri rv h;obtain⟨p,xs,k,j,rfl,rfl,hp,hj,q⟩:=h;cases ro
 obtain⟨t,rfl⟩:=ri;obtain⟨its,n,r,ho,hz⟩:=I.lst hp;obtain⟨h1,h2,h3,h4⟩:=qiT hj;have hl:=r.length;have hn:=kz;have I':Inv X pins σ (upd H p (.lst (xs.set j v))) { s with heap:=s.heap.update p (Obj.mapSeq (·.setIfInBounds j u)) }:=
  I.lstUpd hp ho (qhL its n j u) (r.set rv j) (by rw[List.length_set];exact hz) s.toks
 by_cases h0:0<=k
 ·have hk:k.toNat=j:=by
   rw[seqIndex_of h0 h4] at h1;exact Option.some.inj h1
  exact W.ki_setAt ho h0 (by omega) (by rw[Zu,<- hl];exact h4) (by rw[hk];exact⟨_,I',q⟩)
 ·have hk:(k+(its.toArray.size:Int)).toNat=j:=by
   rw[seqIndex_neg (by omega) h3] at h1;rw[Zu,<- hl];exact Option.some.inj h1
  exact W.ki_setBack ho (by omega) (by rw[Zu,<- hl];exact h3) (by omega) (by rw[hk];exact⟨_,I',q⟩)
theorem qfk(lo hi:Option Int)(n:Nat):(sliceBounds lo hi none n).1=((HT.sIx n 0 lo:Nat):Int)/\(sliceBounds lo hi none n).2.1=((HT.sIx n n hi:Nat):Int)/\(sliceBounds lo hi none n).2.2=1:=by
 refine⟨?_,?_,rfl⟩
 ·cases lo with
  |none=>simp[sliceBounds,HT.sIx]
  |some i =>
   simp only[sliceBounds,HT.sIx,Option.getD_none,show(1:Int) > 0 by decide,Vw];by_cases h:i<0
   ·simp only[h,Vw] <;> omega
   ·simp only[h,Vo] <;> omega
 ·cases hi with
  |none=>simp[sliceBounds,HT.sIx]
  |some i =>
   simp only[sliceBounds,HT.sIx,Option.getD_none,show(1:Int) > 0 by decide,Vw];by_cases h:i<0
   ·simp only[h,Vw] <;> omega
   ·simp only[h,Vo] <;> omega
theorem qek(its:List Value)(lo hi:Option Int):slicePick its.toArray lo hi none=((its.drop (HT.sIx its.length 0 lo)).take (HT.sIx its.length its.length hi-HT.sIx its.length 0 lo)).toArray:=by
 obtain⟨h1,h2,h3⟩:=qfk lo hi its.toArray.size;unfold slicePick;rw[h1,h2,h3];simp only[sliceRange_one,pick_run,Zu] <;> rfl
def qqz(K:W.Frag):V->Option Int->Option Int->Hp->VK->Prop:=λ x lo hi H Q=>∃ a xs,x=.ref a/\SqL K H a xs/\∀ p,H p=none->Q (.ref p) (upd H p (.lst (qgu xs lo hi)))
theorem qiU:SlR X (qqz X.K):=by
 intro pins s σ H x v vl vu lo hi sl Q I rx hs pl pu h;obtain⟨a,xs,rfl,hx,q⟩:=h;cases rx
 obtain⟨its,r,ht,hz⟩:=I.list hx;have c8:=r.length;refine⟨"list",_,slot_list_getitem.lookup,ht.isList.typeIs,?_⟩;refine wpAny_getItem_list_slice ht.isList hs pl pu .none (by simp) ?_ (by rw[Zu] <;> omega);rw[qek,<- c8];refine⟨.ref s.heap.objs.size,_,I.laid (t':=s.toks) (o:=.lst (qgu xs lo hi)) (λ b ob q=>XG _ q) (Q9 _) ?_,rfl,q _ (I.hok.fresh (Q9 _))⟩;exact⟨Qu (qgv xs lo hi) hz,_,0,(r.drop (HT.sIx xs.length 0 lo)).take (HT.sIx xs.length xs.length hi-HT.sIx xs.length 0 lo),Yw _ rfl⟩
noncomputable def qaO:V->Bool
 |.non=>true
 |.bl _=>true
 |.int _=>true
 |.str _=>true
 |_=>false
noncomputable def eqV:V->V->Bool
 |.non,.non=>true
 |.bl a,.bl b=>a == b
 |.bl a,.int b=>(if a then 1 else 0) == b
 |.int a,.bl b=>a == (if b then 1 else 0)
 |.int a,.int b=>a == b
 |.str a,.str b=>a == b
 |_,_=>false
theorem qkF(ry:qV y u)(rx:qV x v)(fy:qaO y=true)(fx:qaO x=true):SeqAt.EqAt A s u v (eqV y x):=by
 cases y with
 |non =>
  cases ry
  cases x with
  |non=>cases rx;exact SeqAt.EqAt.same _
  |bl b=>cases rx;exact SeqAt.EqAt.none_bool b
  |int b=>obtain⟨t,rfl⟩:=rx;exact SeqAt.EqAt.none_int b t
  |str b=>obtain⟨t,rfl⟩:=rx;exact SeqAt.EqAt.none_str b t
  |_=>exact absurd (show false=true from fx) Zc
 |bl a =>
  cases ry
  cases x with
  |non=>cases rx;exact SeqAt.EqAt.bool_none a
  |bl b=>cases rx;exact SeqAt.EqAt.bool_bool a b
  |int b=>obtain⟨t,rfl⟩:=rx;exact SeqAt.EqAt.bool_int a b t
  |str b=>obtain⟨t,rfl⟩:=rx;exact SeqAt.EqAt.bool_str a b t
  |_=>exact absurd (show false=true from fx) Zc
 |int a =>
  obtain⟨t',rfl⟩:=ry;cases x with
  |non=>cases rx;exact SeqAt.EqAt.int_none a t'
  |bl b=>cases rx;exact SeqAt.EqAt.int_bool a t' b
  |int b=>obtain⟨t,rfl⟩:=rx;exact SeqAt.EqAt.int_int a t' b t
  |str b=>obtain⟨t,rfl⟩:=rx;exact SeqAt.EqAt.int_str a t' b t
  |_=>exact absurd (show false=true from fx) Zc
 |str a =>
  obtain⟨t',rfl⟩:=ry;cases x with
  |non=>cases rx;exact SeqAt.EqAt.str_none a t'
  |bl b=>cases rx;exact SeqAt.EqAt.str_bool a t' b
  |int b=>obtain⟨t,rfl⟩:=rx;exact SeqAt.EqAt.str_int a t' b t
  |str b=>obtain⟨t,rfl⟩:=rx;exact SeqAt.EqAt.str_str a t' b t
  |_=>exact absurd (show false=true from fx) Zc
 |_=>exact absurd (show false=true from fy) Zc
noncomputable def eqU(x:V)(u:Value):Bool:=match u with
 |.none=>eqV .non x
 |.bool b=>eqV (.bl b) x
 |.int i _=>eqV (.int i) x
 |.str z _=>eqV (.str z) x
 |_=>false
theorem qkG(r:qV y u)(f:qaO y=true):eqU x u=eqV y x:=by
 cases y with
 |non=>cases r;rfl
 |bl b=>cases r;rfl
 |int i=>obtain⟨t,rfl⟩:=r;rfl
 |str z=>obtain⟨t,rfl⟩:=r;rfl
 |_=>exact absurd (show false=true from f) Zc
theorem qfl:∀{xs:List V}{us:List Value},qL xs us->xs.all qaO=true->us.any (eqU x)=xs.any λ y=>eqV y x
 |_,_,.nil,_=>rfl
 |y::xs,u::us,.cons r t,f=>by
  rw[Qi,Uo] at f;rw[Qf,Qf,qkG r f.1,qfl t f.2]
theorem qdl(rx:qV x v)(fx:qaO x=true):∀{xs:List V}{us:List Value},qL xs us->xs.all qaO=true->∀ u∈us,SeqAt.EqAt A s u v (eqU x u)
 |_,_,.nil,_=>λ u hu=>by cases hu
 |y::xs,u::us,.cons r t,f=>λ u' hu=>by
  rw[Qi,Uo] at f;rcases Qd.mp hu with rfl|hu
  ·rw[qkG r f.1];exact qkF r rx f.1 fx
  ·exact qdl rx fx t f.2 u' hu
noncomputable def inV(x:V)(xs:List V):Bool:=xs.any λ y=>eqV y x
def rIn(K:W.Frag)(neg:Bool):R2:=λ x y H Q=>∃ p xs,y=.ref p/\(SqL K H p xs∨SqT K H p xs)/\qaO x=true/\xs.all qaO=true/\Q (.bl (if neg then !inV x xs else inV x xs)) H
theorem qjA:OpR X (compareOp .In) (rIn X.K false):=by
 intro pins s σ H x y v u Q I rx ry h;obtain⟨p,xs,rfl,hq,fx,fs,q⟩:=h;cases ry
 rcases hq with hq|hq
 ·obtain⟨its,r,pl,hz⟩:=I.list hq;refine SeqAt.in_listAt (eqU x) pl.isList (λ w hw=>qdl rx fx r fs w (by simpa using hw)) ⟨.bl _,H,I,rfl,?_⟩;rw[show its.toArray.any (eqU x)=its.any (eqU x) by simp,qfl r fs];exact q
 ·obtain⟨its,r,pl,hz⟩:=I.tuple hq;refine SeqAt.in_tupleAt (eqU x) pl (λ w hw=>qdl rx fx r fs w (by simpa using hw)) ⟨.bl _,H,I,rfl,?_⟩;rw[show its.toArray.any (eqU x)=its.any (eqU x) by simp,qfl r fs];exact q
theorem qfm:OpR X (compareOp .NotIn) (λ x y H Q=>∃ i j,x=.str i/\y=.str j/\Q (.bl (!(!(Builtin.Str.occurrences j i 0 j.length 1).isEmpty))) H):=by
 intro pins s σ H x y v u Q I rx ry h;obtain⟨i,j,rfl,rfl,q⟩:=h;obtain⟨t,rfl⟩:=rx;obtain⟨t',rfl⟩:=ry;exact notIn_str ⟨.bl _,H,I,rfl,q⟩
theorem qC:y9 X (.builtin "len") (λ xs H Q=>∃ p ys,xs=[.ref p]/\(SqL X.K H p ys∨SqT X.K H p ys)/\Q (.int ys.length) H):=by
 intro pins s σ H xs us Q I r h;obtain⟨p,ys,rfl,hq,q⟩:=h;obtain⟨u,rfl,rx⟩:=yk r;cases rx
 have hn:=kz;rcases hq with hq|hq
 ·obtain⟨its,r',pl,hz⟩:=I.list hq;have c8:=r'.length;exact Calls.call_len_list pl.isList (by simp only[Zu] <;> omega) ⟨.int ys.length,H,I.tok _,⟨s.toks+1,by rw[Zu,c8]⟩,q⟩
 ·obtain⟨its,r',pl,hz⟩:=I.tuple hq;have c8:=r'.length;exact len_tuple pl (by simp only[Zu] <;> omega) ⟨.int ys.length,H,I.tok _,⟨s.toks+1,by rw[Zu,c8]⟩,q⟩
theorem yb:y9 X (.builtin "len") (λ xs H Q=>∃ z,xs=[.str z]/\z.length<=sizeLine/\Q (.int z.length) H):=by
 intro pins s σ H xs us Q I r h;obtain⟨z,rfl,hz,q⟩:=h;obtain⟨u,rfl,t,rfl⟩:=yk r;have hn:=kz;exact len_str (by omega) ⟨.int z.length,H,I.tok _,⟨_,rfl⟩,q⟩
theorem qfn:y9 X (.type "list") (λ xs H Q=>∃ p ys,xs=[.ref p]/\(SqL X.K H p ys∨SqT X.K H p ys)/\∀ l,H l=none->Q (.ref l) (upd H l (.lst ys))):=by
 intro pins s σ H xs us Q I r h;obtain⟨p,ys,rfl,hq,q⟩:=h;obtain⟨u,rfl,rx⟩:=yk r;cases rx
 have fin:∀(its:List Value),qL ys its->ys.length<=sizeLine->∀(h':Heap)(c':Nat),(∀ b o',s.heap.get? b=some o'->h'.get? b=some o') ->
   h'.get? s.heap.objs.size=some { cls:=.type "list",dict:=none,data:=.seq its.toArray c',slots:=#[] }->EP X pins σ Q (.ref s.heap.objs.size) { s with heap:=h' }:=λ its r' hz h' c' kp e =>
  ⟨.ref s.heap.objs.size,_,I.laid (t':=s.toks) kp (Q9 _) (show zI X.prog X.w _ h' _ (.lst ys) from⟨hz,its,c',r',e⟩),rfl,q _ (I.hok.fresh (Q9 _))⟩
 rcases hq with hq|hq
 ·obtain⟨its,r',pl,hz⟩:=I.list hq;have c8:=r'.length;obtain⟨o,ho,hc,n,hd⟩:=pl.isList;exact call_list_seq p (.inl rfl) ho hc hd (λ h' c' kp e=>fin its r' hz h' c' kp e) (by simp only[Zu] <;> omega)
 ·obtain⟨its,r',pl,hz⟩:=I.tuple hq;have c8:=r'.length;obtain⟨o,ho,hc,n,hd⟩:=pl;exact call_list_seq p (.inr rfl) ho hc hd (λ h' c' kp e=>fin its r' hz h' c' kp e) (by simp only[Zu] <;> omega)
theorem jP:y9 X (.type "tuple") (λ xs H Q=>∃ p ys,xs=[.ref p]/\((SqL X.K H p ys/\∀ l,H l=none->Q (.ref l) (upd H l (.tup ys)))∨(SqT X.K H p ys/\Q (.ref p) H))):=by
 intro pins s σ H xs us Q I r h;obtain⟨p,ys,rfl,h⟩:=h;obtain⟨u,rfl,rx⟩:=yk r;cases rx
 rcases h with⟨hq,q⟩|⟨hq,q⟩
 ·obtain⟨its,r',pl,hz⟩:=I.list hq;have c8:=r'.length;refine call_tuple_list pl.isList (λ h' kp=>?_) (by simp only[Zu] <;> omega);have I1:Inv X pins σ H { s with heap:=h' }:=I.kept (t':=s.toks) kp;have I2:Inv X pins σ (upd H h'.objs.size (.tup ys)) { s with heap:=h'.push { cls:=.type "tuple",data:=.seq its.toArray } }:=
   I1.laid (t':=s.toks) (λ b o e=>XG _ e) (Q9 _) (show zI X.prog X.w _ _ _ (.tup ys) from⟨hz,its,r',IsTup.new _ _⟩)
  exact⟨.ref h'.objs.size,_,I2,rfl,q _ (I1.hok.fresh (Q9 _))⟩
 ·obtain⟨its,r',pl,hz⟩:=I.tuple hq;exact call_tuple_same pl ⟨.ref p,H,I,rfl,q⟩
def tyV(K:W.Frag)(T:String)(x:V)(H:Hp):Prop:=match x with
 | .str _=>T="str"
 | .int _=>T="int"
 | .ref p=>(T="list"/\∃ xs,SqL K H p xs)∨(T="tuple"/\∃ o,K.lookup p=some o/\o.cls=.type "tuple"/\o.dict=none) ∨
   (T="dict"/\((∃ kvs,H p=some (.dK kvs))∨∃ kvs,H p=some (.dT kvs)))∨(T="set"/\∃ S n,H p=some (.set S n))
 |_=>False
theorem qhM(I:Inv X pins σ H s)(r:qV x v)(ty:tyV X.K T x H):
  s.TypeIs v T/\∀ a,v=.ref a->∃ ob,s.heap.get? a=some ob/\ob.dict=none:=by
 cases x with
 |str z =>
  obtain⟨t,rfl⟩:=r;cases(show T="str" from ty)
  exact⟨Vk s z t,λ _ e=>nomatch e⟩
 |int i =>
  obtain⟨t,rfl⟩:=r;cases(show T="int" from ty)
  exact⟨typeIs_int s i t,λ _ e=>nomatch e⟩
 |ref p =>
  cases r
  rcases ty with⟨rfl,xs,hq⟩|⟨rfl,o,hk,hc,hd⟩|⟨rfl,hk⟩|⟨rfl,S,n,hk⟩
  ·obtain⟨its,_,pl,_⟩:=I.list hq;refine⟨pl.isList.typeIs,λ a e=>?_⟩;cases e
   obtain⟨o,n,e,c,hd,_⟩:=pl;exact⟨o,e,hd⟩
  ·refine⟨⟨o,I.kIn p o hk,hc⟩,λ a e=>?_⟩;cases e
   exact⟨o,I.kIn _ o hk,hd⟩
  ·have z:∃ o,s.heap.get? p=some o/\o.ExactDict:=by
    rcases hk with⟨kvs,hk⟩|⟨kvs,hk⟩
    ·obtain⟨_,_,_,_,o,_,_,e,ex,_⟩:=I.hok p _ hk;exact⟨o,e,ex⟩
    ·obtain⟨_,_,_,_,o,_,_,e,ex,_⟩:=I.hok p _ hk;exact⟨o,e,ex⟩
   obtain⟨o,e,ex⟩:=z;refine⟨⟨o,e,ex.1⟩,λ a e2=>?_⟩;cases e2
   exact⟨o,e,ex.2.1⟩
  ·obtain⟨o,_,_,_,e,ex,_⟩:=I.hok p _ hk;refine⟨⟨o,e,ex.1⟩,λ a e2=>?_⟩;cases e2
   exact⟨o,e,ex.2.1⟩
 |_=>exact False.elim ty
def qqA(K:W.Frag)(T:String)(r:V->List V->Hp->VK->Prop)(to:TE):TE:=λ σ H Q=>to σ H λ x H1=>tyV K T x H1/\r x [] H1 Q
def tBM(K:W.Frag)(T:String)(r:V->List V->Hp->VK->Prop)(to:TE)(t:TA):TE:=λ σ H Q=>to σ H λ x H1=>tyV K T x H1/\t σ H1 λ xs H2=>r x xs H2 Q
variable {o e:Expr}{es:List Expr}{to:TE}{t:TA}{name:Str}{apos cpos:Pos}{T id:String}{r:V->List V->Hp->VK->Prop}
theorem qfo(pa:PlainAttrs T)(slot:Slot T name id)(hty:typeOf (.builtin id)=pure (.type "method_descriptor"))(hm:MtR X id r)(ho:PE X o to)(S6:attributeBase o name X.env (eval o X.env)=eval o X.env:=by rfl)(S3:(apos.endLine == cpos.line)=true:=by rfl):PE X (.Call (.Attribute o name apos) [] [] cpos) (qqA X.K T r to):=by
 intro pins s σ H Q I h;refine wpAny_Call_method0_late S6 S3 (thn (ho pins s σ H _ I h) λ v s1 ⟨x,H1,I1,r1,ty,q1⟩=>?_);obtain⟨h1,h2⟩:=qhM I1 r1 ty;exact⟨T,id,pa,slot,hty,h1,h2,XH rfl (PySem.evalArgs_none (hm pins s1 σ H1 x [] v [] Q I1 r1 .nil q1))⟩
theorem yo(pa:PlainAttrs T)(slot:Slot T name id)(hty:typeOf (.builtin id)=pure (.type "method_descriptor"))(hm:MtR X id r)(ho:PE X o to)(ha:PA X (e::es) t)(S6:attributeBase o name X.env (eval o X.env)=eval o X.env:=by rfl)(hfew:((backTo cpos (starEach (e::es) X.env)).all (λ x=>!x.1) && (backToKw cpos (keywordEach [] X.env)).all (λ x=>x.1.isSome)
   && decide ((e::es).length+([]:List Keyword).length+(if ([]:List Keyword).isEmpty then 0 else 1)<30))=true:=by rfl)(S3:(apos.endLine == cpos.line)=true:=by rfl)(hs:starEach (e::es) X.env=(false,eval e X.env)::starEach es X.env:=by rfl)(P1:(backTo cpos (starEach es X.env)).any (·.1)=false:=by rfl):
  PE X (.Call (.Attribute o name apos) (e::es) [] cpos) (tBM X.K T r to t):=by
 intro pins s σ H Q I h;refine wpAny_Call_method_late S6 hfew S3 rfl (thn (ho pins s σ H _ I h) λ v s1 ⟨x,H1,I1,r1,ty,q1⟩=>?_);obtain⟨h1,h2⟩:=qhM I1 r1 ty;refine⟨T,id,pa,slot,hty,h1,h2,?_⟩;have hA:=ha cpos pins s1 σ H1 _ I1 q1;rw[hs] at hA ⊢;refine XH (by show(false || (backTo cpos (starEach es X.env)).any (·.1))=false;rw[P1] <;> rfl) (Calls.evalArgs_plain ?_);exact thn hA λ us s2 ⟨vs,H2,I2,r2,q2⟩=>hm pins s2 σ H2 x vs v us Q I2 r1 r2 q2
end
def MtM(X:Cx)(id:String)(r:V->List V->Hp->VK->Prop):Prop:=
 ∀(pins:List (Addr×Obj))(s:Shared)(σ:St)(H:Hp)(x:V)(xs:List V)(v:Value)(us:List Value)(Q:VK),Inv X pins σ H s->qV x v->qL xs us->r x xs H Q ->
  wpAny (model X.prog X.w) X.A (call (.builtin id) (v::us)) (EP X pins σ Q) X.xe s
theorem qL.one:∀{x:V}{us:List Value},qL [x] us->∃ u,us=[u]/\qV x u
 |_,_,.cons r .nil=>⟨_,rfl,r⟩
theorem qL.zero:∀{us:List Value},qL [] us->us=[]
 |_,.nil=>rfl
theorem qL.dropLast(h:qL xs us):qL xs.dropLast us.dropLast:=by
 induction h with
 |nil=>exact .nil
 |cons r t ih =>
  cases t with
  |nil=>exact .nil
  |cons q t'=>exact .cons r ih
theorem qL.rep(h:qL xs us):∀ k:Nat,qL (List.replicate k xs).flatten (List.replicate k us).flatten
 |0=>.nil
 |k+1=>by
  rw[Yy,Yy,Zw,Zw];exact qL.append h (qL.rep h k)
theorem qhN{α:Type}(l:List α):l.eraseIdx (l.length-1)=l.dropLast:=by
 induction l with
 |nil=>rfl
 |cons a r ih =>
  cases r with
  |nil=>rfl
  |cons b r =>
   have e:(a::b::r).length-1=((b::r).length-1)+1:=by
    have h1:(a::b::r).length=r.length+2:=rfl;have h2:(b::r).length=r.length+1:=rfl;omega
   rw[e,X8,ih]
   all_goals rfl
theorem qeD(its:List Value):∀(k:Nat)(c7:List Value),
  List.foldl (λ x1 x2=>x1++x2) c7.toArray (List.replicate k its.toArray)=(c7++(List.replicate k its).flatten).toArray
 |0,c7=>by simp
 |k+1,c7=>by
  have e:c7.toArray++its.toArray=(c7++its).toArray:=by simp
  have e2:(c7++its)++(List.replicate k its).flatten=c7++(List.replicate (k+1) its).flatten:=by
   rw[Yy,Zw,Zx]
  rw[<- e2,<- qeD its k (c7++its),<- e,Yy,Ja]
section
variable {X:Cx}{pins:List (Addr×Obj)}{σ:St}{H:Hp}{s:Shared}{l b:Addr}{xs ys zs:List V}
theorem Inv.lset {its:List Value}(I:Inv X pins σ H s)(hH:H l=some (.lst xs))(e:s.heap.get? l=some { cls:=.type "list",data:=.seq its.toArray n })(hf:f its.toArray=its'.toArray)(hv:qL ys its')(hz:ys.length<=sizeLine):
  Inv X pins σ (upd H l (.lst ys)) { s with heap:=s.heap.update l (Obj.mapSeq f),toks:=t' }:=by
 have q:=PySem.IsL.update e f;rw[hf] at q;refine I.write (x:=l) (e:=l) (by rw[hH];exact trivial) (.inl rfl) (λ b' u hb hu=>(XJ s.heap (Obj.mapSeq f) (Vu hb)).trans hu) ⟨_,q⟩ ?_;exact⟨hz,its',_,hv,q⟩
theorem Inv.lnew(I:Inv X pins σ H s)(hv:qL ys its)(hz:ys.length<=sizeLine):
  Inv X pins σ (upd H s.heap.objs.size (.lst ys)) { s with heap:=s.heap.push { cls:=.type "list",data:=.seq its.toArray },toks:=t' }:=
 I.laid (λ _ _ q=>XG _ q) (Q9 _) ⟨hz,its,0,hv,Yw _ rfl⟩
theorem Inv.fresh(I:Inv X pins σ H s):H s.heap.objs.size=none:=I.hok.fresh (Q9 _)
theorem Inv.lstM(I:Inv X pins σ H s)(hH:H l=some (.lst xs)):xs.length<=sizeLine/\∃(its:List Value)(n:Nat),qL xs its/\xs.length=its.length/\s.heap.get? l=some { cls:=.type "list",data:=.seq its.toArray n }:=by
 obtain⟨z,its,n,r,e⟩:=I.hok l _ hH;exact⟨z,its,n,r,r.length,e⟩
theorem qgw(h:n<=sizeLine):Builtin.List.listTooLong n=false:=by
 unfold Builtin.List.listTooLong;exact Jm (by omega)
end
section
variable {X:Cx}
def qmE:V->List V->Hp->VK->Prop:=λ x vs H Q=>∃ l xs y,x=.ref l/\vs=[y]/\H l=some (.lst xs)/\xs.length<sizeLine/\Q .non (upd H l (.lst (xs++[y])))
theorem zG:MtM X "list.append" qmE:=by
 intro pins s σ H x vs v us Q I rx rv h;obtain⟨l,xs,y,rfl,rfl,hH,hz,q⟩:=h;cases rx
 obtain⟨u,rfl,ru⟩:=rv.one;obtain⟨z,its,n,r,hl,e⟩:=I.lstM hH;refine Vl F.slot_list_append ⟨_,e,rfl⟩ F.entry_list_append (F.args_list_append_2 _ _) (PySem.list_append l its.toArray n u (by rw[Zu];omega)) ⟨e,?_⟩;refine⟨.non,_,I.lset (its':=its++[u]) hH e (by simp) (r.append (.cons ru .nil)) ?_,rfl,q⟩;rw[Ze,XW];omega
def qmF:V->List V->Hp->VK->Prop:=λ x vs H Q=>∃ l b xs zs,x=.ref l/\vs=[.ref b]/\H l=some (.lst xs)/\H b=some (.lst zs)/\xs.length+zs.length<=sizeLine/\Q .non (upd H l (.lst (xs++zs)))
theorem qjB:MtM X "list.extend" qmF:=by
 intro pins s σ H x vs v us Q I rx rv h;obtain⟨l,b,xs,zs,rfl,rfl,hH,hB,hz,q⟩:=h;cases rx
 obtain⟨u,rfl,ru⟩:=rv.one;cases ru
 obtain⟨z,its,n,r,hl,e⟩:=I.lstM hH;obtain⟨z2,C4,n2,r2,W5,e2⟩:=I.lstM hB;have hsz:its.toArray.size+C4.toArray.size<=sizeLine:=by rw[Zu,Zu];omega
 have eV:¬ (!its.toArray.isEmpty && Builtin.List.listTooLong (its.toArray.size+C4.toArray.size))=true:=by
  rw[qgw hsz,Jx];exact Zc
 refine Vl F.slot_list_extend ⟨_,e,rfl⟩ F.entry_list_extend (F.args_list_extend_2 _ _)
  (AutoSeq1.list_extend_list_list_0 l its.toArray n b C4.toArray n2 eV (by rw[Zu];omega) (by omega)) ⟨e,e2,?_⟩
 refine⟨.non,_,I.lset (its':=its++C4) hH e (by simp) (r.append r2) ?_,rfl,q⟩;rw[Ze];omega
def qqB:V->List V->Hp->VK->Prop:=λ x vs H Q=>∃ l xs y,x=.ref l/\vs=[]/\H l=some (.lst xs)/\xs[xs.length-1]?=some y/\Q y (upd H l (.lst xs.dropLast))
theorem qfp:MtM X "list.pop" qqB:=by
 intro pins s σ H x vs v us Q I rx rv h;obtain⟨l,xs,y,rfl,rfl,hH,hy,q⟩:=h;cases rx
 have hus:=rv.zero;subst hus;obtain⟨z,its,n,r,hl,e⟩:=I.lstM hH;obtain⟨u,hu,ru⟩:=r.get hy;have tE:its.toArray[its.toArray.size-1]?=some u:=by
  show its.toArray[its.length-1]?=some u
  rw[<- XX,<- hl];exact hu
 refine Vl F.slot_list_pop ⟨_,e,rfl⟩ F.entry_list_pop (F.args_list_pop_1 _) (MeetsSeq.list_pop_last l its.toArray n u tE (by rw[Zu];omega)) ⟨e,?_⟩;refine⟨y,_,I.lset (its':=its.dropLast) hH e ?_ r.dropLast ?_,ru,q⟩
 ·show its.toArray.eraseIdxIfInBounds (its.toArray.size-1)=its.dropLast.toArray
  rw[Zu,List.eraseIdxIfInBounds_toArray,qhN]
 ·rw[List.length_dropLast];omega
def qqC:R2:=λ x y H Q=>∃ l b xs zs,x=.ref l/\y=.ref b/\H l=some (.lst xs)/\H b=some (.lst zs)/\xs.length+zs.length<=sizeLine/\∀ p,H p=none->Q (.ref p) (upd H p (.lst (xs++zs)))
theorem qhO:OpR X (binaryOp .Add) qqC:=by
 intro pins s σ H x y v u Q I rx ry h;obtain⟨l,b,xs,zs,rfl,rfl,hH,hB,hz,q⟩:=h;cases rx
 cases ry
 obtain⟨z,its,n,r,hl,e⟩:=I.lstM hH;obtain⟨z2,C4,n2,r2,W5,e2⟩:=I.lstM hB;refine PySem.P.add_list e e2 ?_ (by rw[Zu,Zu];omega);have ea:its.toArray++C4.toArray=(its++C4).toArray:=by simp
 rw[ea];exact⟨.ref _,_,I.lnew (t':=s.toks) (r.append r2) (by rw[Ze];omega),rfl,q _ I.fresh⟩
def qqD:R2:=λ x y H Q=>∃ l k xs,x=.ref l/\y=.int k/\H l=some (.lst xs)/\-(2^63)<=k/\k<2^63/\xs.length*k.toNat<=sizeLine /\
 ∀ p,H p=none->Q (.ref p) (upd H p (.lst (List.replicate k.toNat xs).flatten))
theorem qmG{α:Type}(xs:List α)(k:Nat):(List.replicate k xs).flatten.length=k*xs.length:=by
 induction k with
 |zero=>simp
 |succ k ih=>rw[Yy,Zw,Ze,ih,Nat.succ_mul,Nat.add_comm]
theorem qom:OpR X (binaryOp .Mult) qqD:=by
 intro pins s σ H x y v u Q I rx ry h;obtain⟨l,k,xs,rfl,rfl,hH,h1,h2,hz,q⟩:=h;cases rx
 obtain⟨t,rfl⟩:=ry;obtain⟨z,its,n,r,hl,e⟩:=I.lstM hH;have c8:its.toArray.size*k.toNat<=sizeLine:=by rw[Zu,<- hl];exact hz
 have hcap:¬ its.toArray.size*k.toNat > (2^63-1) / 8:=by
  have:(sizeLine:Nat)<=(2^63-1) / 8:=by decide
  omega
 have hfit:¬ (!Builtin.List.listFitsIndex k)=true:=by
  rw[fitsIndex_both h1 h2];exact Zc
 have eV:¬ Builtin.List.listTooLong (its.toArray.size*k.toNat)=true:=by
  rw[qgw c8];exact Zc
 have G4:List.foldl (λ x1 x2=>x1++x2) #[] (List.replicate (if its.toArray.isEmpty=true then 0 else k.toNat) its.toArray)=(List.replicate k.toNat its).flatten.toArray:=by
  have f0:∀ m:Nat,List.foldl (λ x1 x2=>x1++x2) #[] (List.replicate m its.toArray)=(List.replicate m its).flatten.toArray:=λ m=>by
   have:=qeD its m []
   rw[Jb] at this;exact this
  rw[f0];cases its with
  |nil=>simp
  |cons a r'=>rw[V0 (by simp)]
 refine wpAny_binaryOp_repeat_ref (T:="list") (U:="int") (by decide) ⟨_,e,rfl⟩ (λ s'=>typeIs_int s' k t) noFill_list_mul F.fills_int_mul F.slot_int_rmul repeat_list F.slot_int_index.lookup
  (Vl F.slot_int_rmul (typeIs_int s k t) F.entry_int_rmul (F.args_int_rmul_2 _ _) (int___rmul___int_list k t l its.toArray n)
   ⟨e,rfl,⟨_,e,rfl⟩,Vl F.slot_list_mul ⟨_,e,rfl⟩ F.entry_list_mul (F.args_list_mul_2 _ _) (AutoListH.list___mul___list_int_3 l its.toArray n k t hfit hcap eV) ⟨e,?_⟩⟩)
 rw[G4];exact⟨.ref _,_,I.lnew (t':=s.toks) (r.rep k.toNat) (by rw[qmG,Qx];exact hz),rfl,q _ I.fresh⟩
end
end L2
namespace Att
open PySem PySem.W PySem.Calls PyProof.Rows
theorem qcK:∀(ns:List Int)(vs:List Value),WellAll P h vs (ns.map WData.int)->IntsAre vs ns:=by
 intro ns;induction ns with
 |nil =>
  intro vs w;rw[List.map_nil] at w;cases w
  exact .nil
 |cons n ns ih =>
  intro vs w;rw[Qe] at w;cases w with
  |cons a b =>
   cases a
   exact .cons _ _ (ih _ b)
theorem qjC{l:OpenLaw}(hn:l.most=some n)(iV:l.row.toRowW.claim.pre args=true)(hwl:WellAll P h nX args):
  ∃ a vs ns,nX=[Value.ref a]/\args=[WData.list (ns.map WData.int)]/\h.get? a=some { cls:=.type "list",data:=.seq vs.toArray }/\IntsAre vs ns/\ns.length<=n:=by
 have hsh:WShape.hasAll [] args [.list .int]=true:=(pre_splitW iV).1;have hc:l.pre.holds [] { args:=args }=true:=(pre_splitW iV).2;obtain⟨d,r,rfl,h1,h2⟩:=hasAllW_cons hsh;obtain rfl:=hasAllW_nil h2;obtain⟨xs,rfl,h3⟩:=hasW_list h1;obtain⟨ns,rfl⟩:=items_int h3;have c8:ns.length<=n:=by
  unfold OpenLaw.pre at hc;have h4:(WTm.not (.lt (.lit (.int (n:Int))) (.len (.arg 0)))).holds [] { args:=[.list (ns.map .int)] }=true:=by
   have h4:=(holds_andW hc).1;rw[hn] at h4;exact h4
  have h5:=condW_of h4 (w_not (w_lt w_lit (w_len_list (w_arg rfl))));rw[U5] at h5;refine Nat.le_of_not_lt λ q=>?_
  have q':(n:Int)<((ns.length:Nat):Int):=by omega
  first
   |(rw[J8 q'] at h5;exact absurd h5 (by decide))
   |(simp at h5;omega)
 cases hwl with
 |cons w1 w2 =>
  cases w2
  cases w1 with
  |list ho cG=>exact⟨_,_,ns,rfl,rfl,ho,qcK ns _ cG,c8⟩
theorem qjD(l:OpenLaw)(args:List WData):l.row.toRowW.claim.post args (.bool true) args=true:=
 postW_of (r:=l.row.toRowW) (X:=(true == true))
  (show WShape.has [] (.bool true) .bool=true by first|rfl|decide|simp[WShape.has,WShape.arms,WShape.armsAll])
  (show(WTm.eq .res (.lit (.bool true))).value [] { args:=args,res:=some (.bool true),after:=args }=some (.bool (true == true)) from w_eq_bool (w_res rfl) w_lit) rfl
theorem attach_call{l:OpenLaw}(hn:l.most=some n)(uH:d.params.defaults=[])(call:∀(w:World)(s₀ s₁:Shared)(mg mb:Str->Option Value)(fa:Addr)(o:Obj)(pm cd doc:Value)(a:Addr)(vs:List Value)(ns:List Int),
   Ground q O3 [] XP w s₀ mg mb s₁.heap->YP w s₁.heap ->
   s₁.heap.get? fa=some o->o.data=.func (docDef d.name d.params d.body d.scope pm cd doc)->s₁.heap.CodeRec cd d.name->mg d.name=some (.ref fa) ->
   s₁.heap.get? a=some { cls:=.type "list",data:=.seq vs.toArray }->IntsAre vs ns->ns.length<=n->s₁.gens=#[] ->
   codeAny (model l.prog w) callerA (.call (.ref fa) ⟨[.ref a],[]⟩) (λ r s'=>r=.ok (.ret (.bool true))/\OldK s₁.heap s'.heap/\s'.os=s₁.os/\AllBare s'.gens) s₁):
  WalkO q O3 XP YP l.row.toRowW d [] (λ f vs=>PySem.call f vs):=by
 intro w s₀ s₁ mg mb G Y fa o pm cd doc dV kV ho hd W8 hD tW hg args nX as iV hlay hrd hwl hlo;obtain rfl:dV=.none:=Dflts.none hD uH;obtain rfl:kV=.none:=Dflts.noKw hD;obtain⟨a,vs,ns,rfl,rfl,oR,eX,c8⟩:=qjC hn iV hwl;refine enter_call (Q6 (call w s₀ s₁ mg mb fa o pm cd doc a vs ns G Y ho (fd_plain hd) W8 tW oR eX c8 hg) λ r s' hq=>?_);obtain⟨rfl,h2,h3,h4⟩:=hq;exact⟨.inl ⟨.bool true,.bool true,[],rfl,λ _=>rfl,.bool true,qjD l _,λ _=>⟨List.Pairwise.nil,λ _ hm=>(nomatch hm)⟩⟩,h2,h3,h4⟩
end Att
namespace L2
open PySem PySem.Spec PyProof.Rows
theorem qeE:∀{vs:List Value}{ns:List Int},IntsAre vs ns->qL (ns.map V.int) vs
 |_,_,.nil=>.nil
 |_,_,.cons n t h=>.cons ⟨t,rfl⟩ (qeE h)
def qon(H:Hp):Prop:=∀ b,H b=none∨∃ o xs,H b=some (.frz o (.lst xs))
theorem qkH{K:W.Frag}(KX:K.In s₁.heap)(hns:s₁.heap.Ns mainGlobals mg)(hb:s₁.heap.Ns builtinsNs mb)(lD:∀ x:Str,x≠"__name__"->mb x=bootBuiltins x)(hlim:s₁.heap.NoLimit)(hg:s₁.gens=#[])(ha:s₁.heap.get? a=some { cls:=.type "list",data:=.seq vs.toArray })(hi:IntsAre vs ns)(hl:ns.length<=sizeLine)(hr:Room k callerA)(F:∀ base:Heap,K.In base->base.Ns mainGlobals mg->FnOk P w K mg base CX k fa fd [x] sp)(uK:∀(s:Shared)(u:Value),BindsTo s fd ⟨[u],[]⟩ [(x,u)])(eG:∀ H:Hp,qon H->SqL K H a (ns.map V.int)->sp [.ref a] H (λ v _=>v=.bl true) λ _ _ _=>False)(hCX:∀ H e s',CX [] H s₁ (λ _ _ _=>False) e s'->False):
  codeAny (model P w) callerA (.call (.ref fa) ⟨[.ref a],[]⟩) (λ r s'=>r=.ok (.ret (.bool true))/\OldK s₁.heap s'.heap/\s'.os=s₁.os/\AllBare s'.gens) s₁:=by
 have rv:=qeE hi;have lenV:=hi.length;have xB:∀ H:Hp,qon H->SqL K H a (ns.map V.int)->HOk P w H s₁.heap->(∀ b,H b≠none->b=a)->(H a≠none->K.lookup a=none) ->
   codeAny (model P w) callerA (.call (.ref fa) ⟨[.ref a],[]⟩) (λ r s'=>r=.ok (.ret (.bool true))/\OldK s₁.heap s'.heap/\s'.os=s₁.os/\AllBare s'.gens) s₁:=by
  intro H hO hS hok hA hK;have bU:∀{b:Addr}{o:Obj},s₁.heap.get? b=some o->H b=none->(qfc s₁.heap H).get? b=some o:=λ e n=>qks e n
  have sG:∀{b:Addr}{o:Obj}{es:Array DictEntry}{ep:Nat},s₁.heap.get? b=some o->o.data=.dict es ep->H b=none:=λ{b o es ep} e d=>by
   cases q:H b with
   |none=>rfl
   |some u =>
    have e':b=a:=hA b (by rw[q];simp);subst e';rw[ha] at e;cases e;have d':Data.seq vs.toArray _=Data.dict es ep:=d;cases d'
  have nsK:∀{b:Addr}{m:Str->Option Value},s₁.heap.Ns b m->(qfc s₁.heap H).Ns b m:=λ{b m} ⟨o,es,ep,e,d,r⟩=>⟨o,es,ep,bU e (sG e d),d,r⟩
  have hKb:K.In (qfc s₁.heap H):=λ b o e=>bU (KX b o e) (by
   cases q:H b with
   |none=>rfl
   |some u =>
    have e':b=a:=hA b (by rw[q];simp);subst e';rw[hK (by rw[q];simp)] at e;cases e)
  have hM:Mod K mg (qfc s₁.heap H):=⟨hKb,nsK hns,⟨mb,nsK hb,lD⟩,let ⟨mc,h1,h2⟩:=hlim;⟨mc,nsK h1,h2⟩⟩;have e0:Env0 P w K mg (qfc s₁.heap H) callerA [] s₁ H:=⟨rfl,hM,λ b o e=>qmt e,Nat.le_of_eq (qjn _ _),trivial,λ b hb=>absurd (show b∈([]:List Addr) from hb) (by simp),hok,.of_eq hg⟩;refine Q6 ((F _ hKb (nsK hns)).run callerA [] s₁ H ⟨[.ref a],[]⟩ [.ref a] [.ref a] _ _ hr e0 (uK s₁ (.ref a)) (.cons rfl .nil) (eG H hO hS)) λ r s' h=>?_
  cases r with
  |error e=>exact(hCX H e s' h).elim
  |ok fl =>
   cases fl with
   |next=>exact False.elim h
   |brk=>exact False.elim h
   |cont=>exact False.elim h
   |ret u =>
    obtain⟨v,H',os,bare,un,hok',r',q⟩:=h;have q':v=.bl true:=q;subst q';obtain rfl:u=Value.bool true:=r';refine⟨rfl,OldK.of_keep λ b o e=>?_,os,bare⟩;cases q:H b with
    |none=>exact un.keep b o e q (by intro z;exact absurd (show b∈([]:List Addr) from z) (by simp)) (by simp)
    |some u =>
     rcases hO b with z|⟨ob,xs,z⟩
     ·rw[q] at z;cases z
     ·have z2:=un.frzs b ob _ z;obtain⟨e1,_⟩:=hok b _ z;obtain⟨e2,_⟩:=hok' b _ z2;rw[e] at e1;cases e1;exact e2
 cases hk:K.lookup a with
 |some o =>
  have e:=KX a o hk;rw[ha] at e;cases e
  refine xB (λ _=>none) (λ _=>.inl rfl) (.inr ⟨_,vs.toArray,_,hk,rfl,rfl,rfl,by rw[Zu,lenV];exact hl,by simpa using rv⟩) (λ b u z=>by have z':(none:Option HO)=some u:=z;cases z') (λ b z=>absurd rfl z) λ z=>absurd rfl z
 |none =>
  refine xB (λ b=>if b=a then some (.frz { cls:=.type "list",data:=.seq vs.toArray } (.lst (ns.map V.int))) else none) (λ b=>?_) (.inl (.inr ⟨{ cls:=.type "list",data:=.seq vs.toArray },Vz rfl⟩)) (λ b u z=>?_) (λ b z=>?_) λ _=>hk
  ·by_cases hb:b=a
   ·exact .inr ⟨_,_,Vz hb⟩
   ·exact .inl (V0 hb)
  ·by_cases hb:b=a
   ·have z':=(Vz hb).symm.trans z;cases z'
    subst hb;exact⟨ha,by rw[U5];exact hl,vs,_,rv,ha⟩
   ·have z':=(V0 hb).symm.trans z;cases z'
  ·by_cases hb:b=a
   ·exact hb
   ·exact absurd (V0 hb) z
theorem walk_of{l:W.OpenLaw}{K:Params->W.Frag}{CX:World->CXT}{sp:World->Sp}(hn:l.most=some n)(eU:n<=sizeLine)(uH:d.params.defaults=[])(hr:Room k callerA)(hY:∀(w:World)(h:Heap),YP w h->(K w.params).In h)(F:∀(w:World)(mg:Str->Option Value)(fa:Addr)(h:Heap),(K w.params).In h->h.Ns mainGlobals mg->mg d.name=some (.ref fa) ->
   ∃ fd:FuncData,(∀(s:Shared)(u:Value),BindsTo s fd ⟨[u],[]⟩ [(x,u)]) /\
    ∀ base:Heap,(K w.params).In base->base.Ns mainGlobals mg->FnOk l.prog w (K w.params) mg base (CX w) k fa fd [x] (sp w))(eG:∀(w:World)(H:Hp)(a:Addr)(ns:List Int),ns.length<=n->qon H->SqL (K w.params) H a (ns.map V.int)->sp w [.ref a] H (λ v _=>v=.bl true) λ _ _ _=>False)(hCX:∀(w:World)(H:Hp)(s:Shared)(e:Value)(s':Shared),CX w [] H s (λ _ _ _=>False) e s'->False):
  PySem.W.WalkO q O3 XP YP l.row.toRowW d [] (λ f vs=>PySem.call f vs):=by
 refine Att.attach_call hn uH λ w s₀ s₁ mg mb fa o pm cd doc a vs ns G Y ho hd W8 tW oR eX c8 hg=>?_
 have KX:=hY w _ Y;obtain⟨fd,hb,hF⟩:=F w mg fa _ KX G.T.g tW;exact qkH KX G.T.g G.T.b G.T.builtins G.T.nolimit hg oR eX (Qu c8 eU) hr hF hb (λ H hO hS=>eG w H a ns c8 hO hS) λ H e s'=>hCX w H s₁ e s'
noncomputable def qT(s:Stmt)(j:Nat):Stmt:=match s with
 |.ClassDef _ _ _ body _ _ _ _ _ _ _=>body.getD j (.Pass ⟨0,0,0,0⟩)
 |_=>.Pass ⟨0,0,0,0⟩
noncomputable def qbA(s:Stmt):Arguments:=match s with
 |.FunctionDef _ a _ _ _ _ _ _ _ _=>a
 |_=>{ posonlyargs:=[],args:=[],vararg:=none,kwonlyargs:=[],kw_defaults:=[],kwarg:=none,defaults:=[] }
noncomputable def vm(s:Stmt):List Stmt:=match s with
 |.FunctionDef _ _ b _ _ _ _ _ _ _=>b
 |_=>[]
noncomputable def qh(s:Stmt):Scope:=match s with
 |.FunctionDef _ _ _ _ _ _ sc _ _ _=>sc
 |_=>{ kind:=.function,names:=[],isGenerator:=false,isCoroutine:=false }
abbrev CX0:CXT:=λ _ _ _ _ _ _=>False
abbrev E0:XK:=λ _ _ _=>False
theorem qA:qaV CX0 X E0:=λ _ _ _ _ _ _ _ h=>h.elim
structure Fun(K:W.Frag)(x qual:Str)(st:Stmt)(f:Addr)(fd:FuncData):Prop where
 ex:∃(oc:Value)(od:Option Addr)(kV doc pm:Value)(an:Option Addr)(cdv ct:Value)(osl:Array (Option Value)),
  fd=W.fnOf x qual (qbA st) (vm st) (qh st) .none kV doc pm an cdv ct/\K.lookup f=some ⟨oc,od,.func fd,osl⟩/\W.codeIn K cdv qual=true
 kp:W.keepIn K (.ref f)=true
section
variable {P:Program}{w:World}{K:W.Frag}{mg:Str->Option Value}{base:Heap}
theorem qjE(F:FnOk X.prog X.w X.K X.mg X.base CX0 k f fd ps sp)(hr:Room k X.A)(hm:X.mg x=some (.ref f))(hk:W.keepIn X.K (.ref f)=true)(hb:qk X.K fd ps [])(ha:PA X (e::es) t)(hg:Gl X x:=by rfl)(cD:(x == ("__debug__":Str))=false:=by decide)(he:starEach (e::es) X.env=(false,eval e X.env)::starEach es X.env:=by rfl)(w6:(backTo pos (starEach es X.env)).any (·.1)=false:=by rfl):PE X (.Call (.Name x p) (e::es) [] pos) (qcv sp [] E0 t):=qM F hr hg hm hk hb .nil qA ha cD he w6
structure Dp(P:Program)(w:World)(K:W.Frag)(mg:Str->Option Value)(base:Heap)(k:Nat)(f:Addr)(d:FuncData)(ps:List Str)(sp:Sp)(x:Str):Prop where
 g:FnOk P w K mg base CX0 k f d ps sp
 b:qk K d ps []
 e:W.keepIn K (.ref f)=true
 m:mg x=some (.ref f)
theorem zf(D:Dp X.prog X.w X.K X.mg X.base k f fd ps sp x)(hr:Room j X.A)(ha:PA X (e::es) t)(hg:Gl X x:=by rfl)(cD:(x == ("__debug__":Str))=false:=by decide)(he:starEach (e::es) X.env=(false,eval e X.env)::starEach es X.env:=by rfl)(w6:(backTo pos (starEach es X.env)).any (·.1)=false:=by rfl)(hj:k<=j:=by decide):PE X (.Call (.Name x p) (e::es) [] pos) (qcv sp [] E0 t):=qjE D.g (hr.mono hj) D.m D.e D.b ha hg cD he w6
theorem Fun.ok{st:Stmt}(F:Fun K x qual st f fd)(S:FnScope N ps (qh st))(len:∀ vs H Q E,sp vs H Q E->vs.length=ps.length)(S5:∀(cdv:Value)(A:Around)(outer:List Env)(s:Shared)(H:Hp)(vs:List V)(Q:VK)(E:XK),Room k (A.deeper (envOfC qual (qh st) s.heap.objs.size f cdv))->sp vs H Q E ->
   ∃ t,PSs (qhJ CX0 P w K mg base N qual (qh st) f cdv A outer s H E).nox (vm st) t/\t { nx:=λ _ H'=>Q .non H',rt:=Q } (qbv N vs) H):FnOk P w K mg base CX0 (k+1) f fd ps sp:=by
 obtain⟨oc,od,kV,doc,pm,an,cdv,ct,osl,rfl,lk,W8⟩:=F.ex;refine qpq lk W8 S len λ A outer s H vs Q E hr eG=>?_
 obtain⟨t,h,q⟩:=S5 cdv A outer s H vs Q E hr eG;exact⟨t,h.nox,q⟩
theorem Fun.okd{st:Stmt}(F:Fun K x qual st f fd)(S:FnScope N ps (qh st))(S5:∀(cdv:Value)(A:Around)(outer:List Env)(s:Shared)(H:Hp)(vs:List V)(Q:VK)(E:XK),Room k (A.deeper (envOfC qual (qh st) s.heap.objs.size f cdv))->sp vs H Q E ->
   ∃ t,PSs (qhJ CX0 P w K mg base N qual (qh st) f cdv A outer s H E).nox (vm st) t/\t { nx:=λ _ H'=>Q .non H',rt:=Q } (qbv N vs) H)(len:∀ vs H Q E,sp vs H Q E->vs.length=ps.length:=by intro vs H Q E h;repeat (first|(obtain⟨rfl,_⟩:=h;rfl)|(obtain⟨_,h⟩:=h))):FnOk P w K mg base CX0 (k+1) f fd ps sp:=F.ok S len S5
theorem ls1{us:List Value}(h:us.length=1):∃ a,us=[a]:=match us,h with| [a],_=>⟨a,rfl⟩
theorem ls2{us:List Value}(h:us.length=2):∃ a b,us=[a,b]:=match us,h with| [a,b],_=>⟨a,b,rfl⟩
theorem ls3{us:List Value}(h:us.length=3):∃ a b c,us=[a,b,c]:=match us,h with| [a,b,c],_=>⟨a,b,c,rfl⟩
theorem ls4{us:List Value}(h:us.length=4):∃ a b c d,us=[a,b,c,d]:=match us,h with| [a,b,c,d],_=>⟨a,b,c,d,rfl⟩
theorem Fun.binds{st:Stmt}(F:Fun K x qual st f fd)(h:∀(kV doc pm:Value)(an:Option Addr)(cdv ct:Value)(us:List Value),us.length=ps.length->bindArgs (W.fnOf x qual (qbA st) (vm st) (qh st) .none kV doc pm an cdv ct) ⟨us,[]⟩=pure (ps.zip us):=by intro _ _ _ _ _ _ us hl;first|(obtain⟨_,rfl⟩:=ls1 hl;rfl)|(obtain⟨_,_,rfl⟩:=ls2 hl;rfl)|(obtain⟨_,_,_,rfl⟩:=ls3 hl;rfl)|(obtain⟨_,_,_,_,rfl⟩:=ls4 hl;rfl)):qk K fd ps []:=by
 obtain⟨oc,od,kV,doc,pm,an,cdv,ct,osl,rfl,lk,W8⟩:=F.ex;exact .all (h kV doc pm an cdv ct)
theorem fun_mk{st:Stmt} {kV:Value}(l:K.lookup f=some ⟨oc,od,.func (W.fnOf x qual (qbA st) (vm st) (qh st) .none kV doc pm an cdv ct),osl⟩)(c:W.codeIn K cdv qual=true)(k:W.keepIn K (.ref f)=true):Fun K x qual st f (W.fnOf x qual (qbA st) (vm st) (qh st) .none kV doc pm an cdv ct):=⟨⟨oc,od,kV,doc,pm,an,cdv,ct,osl,rfl,l,c⟩,k⟩
end
theorem kg(hr:Room k A):A.units+1<cLine:=Zf (Nat.add_le_add_left (by decide:1<=64) _) hr.units
section
variable {X:Cx}
theorem pv(i:Nat)(hN:X.N[i]?=some x:=by rfl)(hv:Vis X.env.scope x:=by first | exact Or.inl rfl | exact Or.inr (Or.inl rfl) | exact Or.inr (Or.inr rfl))(hd:(x == ("__debug__":Str))=false:=by decide)(W8:(x == ("__classdict__":Str))=false:=by decide):PE X (.Name x pos) (qfd i):=qn4 hN hv hd W8
end
theorem yh {B:Prop}(h:B):if false=true then A else B:=by
 rw[V0 Zc];exact h
theorem kn {B:Prop}(h:A):if true=true then A else B:=by
 rw[Vz rfl];exact h
theorem kq{c A B:Prop}[Decidable c](h1:c->A)(h2:¬ c->B):if c then A else B:=by
 by_cases h:c
 ·rw[Vz h];exact h1 h
 ·rw[V0 h];exact h2 h
def qi(H H':Hp):Prop:=∀ b o,H b=some o->H' b=some o
theorem qi.refl(H:Hp):qi H H:=λ _ _ h=>h
theorem qi.trans(a:qi H H1)(b:qi H1 H2):qi H H2:=λ c o h=>b c o (a c o h)
theorem qi.free(e:qi H H')(h:H' l=Option.none):H l=Option.none:=by
 cases q:H l with
 |none=>rfl
 |some o =>
  rw[e l o q] at h;cases h
theorem qi.seq{K:W.Frag}(e:qi H H')(h:SqL K H a xs):SqL K H' a xs:=by
 rcases h with(h|⟨o,h⟩)|h
 ·exact .inl (.inl (e _ _ h))
 ·exact .inl (.inr ⟨o,e _ _ h⟩)
 ·exact .inr h
end L2
namespace Fs
abbrev Pr:=List Nat
theorem kH{α:Type}{r:α->α->Prop}(sW:∀ a,¬ r a a)(xP:∀ a b,r a b->¬ r b a):∀{l m:List α},l.Pairwise r->m.Pairwise r->(∀ x,x∈l ↔ x∈m)->l=m
 | [],[],_,_,_=>rfl
 | [],b::m,_,_,h=>by have:=(h b).mpr Zb;cases this
 |a::l,[],_,_,h=>by have:=(h a).mp Zb;cases this
 |a::l,b::m,hl,hm,h=>by
  have bH:=Zg.mp hl;have rH:=Zg.mp hm;have ab:a=b:=by
   rcases Qd.mp ((h a).mp Zb) with e|e
   ·exact e
   ·rcases Qd.mp ((h b).mpr Zb) with e' | e'
    ·exact e'.symm
    ·exact absurd (rH.1 a e) (xP _ _ (bH.1 b e'))
  subst ab
  have:l=m:=kH sW xP bH.2 rH.2 λ x=>by
   constructor
   ·intro hx;rcases Qd.mp ((h x).mp (Yj _ hx)) with e | e
    ·subst e;exact absurd (bH.1 x hx) (sW x)
    ·exact e
   ·intro hx;rcases Qd.mp ((h x).mpr (Yj _ hx)) with e | e
    ·subst e;exact absurd (rH.1 x hx) (sW x)
    ·exact e
  rw[this]
theorem qfq(a:Pr):¬ a<a:=List.lt_irrefl a
theorem qgx(a b:Pr)(h:a<b):¬ b<a:=λ h'=>qfq a (List.lt_trans h h')
structure Vf(F:List Pr):Prop where
 rise:F.Pairwise (·<·)
 prod:∀ p∈F,p.Pairwise (·<·)
theorem zc{α:Type}{r:α->α->Prop}(sW:∀ a,¬ r a a):∀{l:List α},l.Pairwise r->l.Nodup:=λ{l} h=>h.imp λ{a b} E2 e=>by subst e;exact sW _ E2
theorem Vf.nodup(h:Vf F):F.Nodup:=zc qfq h.rise
theorem Vf.ext(hF:Vf F)(hG:Vf G)(h:∀ p,p∈F ↔ p∈G):F=G:=kH qfq qgx hF.rise hG.rise h
noncomputable def qt(ρ:Nat->Bool):List Pr->Bool
 | []=>false
 |p::F=>xor (p.all ρ) (qt ρ F)
theorem vo(ρ:Nat->Bool):∀ F G:List Pr,qt ρ (F++G)=xor (qt ρ F) (qt ρ G)
 | [],G=>by simp[qt]
 |p::F,G=>by
  show xor (p.all ρ) (qt ρ (F++G))=_
  rw[vo ρ F G];show _=xor (xor (p.all ρ) (qt ρ F)) (qt ρ G)
  rw[Jy]
theorem vp(ρ:Nat->Bool)(h:F.Perm G):qt ρ F=qt ρ G:=by
 induction h with
 |nil=>rfl
 |cons x _ ih=>show xor _ _=xor _ _;rw[ih]
 |swap x y l=>show xor _ (xor _ _)=xor _ (xor _ _);rw[<- Jy,<- Jy,Bool.xor_comm (y.all ρ)]
 |trans _ _ a b=>exact a.trans b
theorem kI(ρ:Nat->Bool)(q:Pr->Bool):∀ F:List Pr,qt ρ F=xor (qt ρ (F.filter q)) (qt ρ (F.filter λ p=>!q p))
 | []=>rfl
 |p::F=>by
  have ih:=kI ρ q F;cases h:q p with
  |true =>
   rw[X9 h,XA (by simp[h])];show xor _ _=xor (xor _ _) _
   rw[ih,Jy]
  |false =>
   rw[XA (by simp[h]),X9 (by simp[h])];show xor _ _=xor _ (xor _ _)
   rw[ih];cases p.all ρ <;> cases qt ρ (F.filter q) <;> cases qt ρ (F.filter λ p=>!q p) <;> rfl
noncomputable def qdm(F G:List Pr):List Pr:=F.filter (λ p=>!G.contains p)++G.filter (λ p=>!F.contains p)
theorem kJ:p∈qdm F G ↔ ((p∈F/\p∉G)∨(p∈G/\p∉F)):=by
 simp[qdm,U3,U2]
theorem qdn(ρ:Nat->Bool)(hF:F.Nodup)(hG:G.Nodup):qt ρ (qdm F G)=xor (qt ρ F) (qt ρ G):=by
 have e1:=kI ρ (λ p=>G.contains p) F;have e2:=kI ρ (λ p=>F.contains p) G;have e3:qt ρ (F.filter λ p=>G.contains p)=qt ρ (G.filter λ p=>F.contains p):=by
  refine vp ρ ?_;rw[Xi (hF.filter _) (hG.filter _)];intro p;simp only[U2,XY];exact⟨λ ⟨a,b⟩=>⟨b,a⟩,λ ⟨a,b⟩=>⟨b,a⟩⟩
 rw[qdm,vo,e1,e2,e3];cases qt ρ (G.filter λ p=>F.contains p) <;> cases qt ρ (F.filter λ p=>!G.contains p) <;> cases qt ρ (G.filter λ p=>!F.contains p) <;> rfl
theorem qaW(hF:F.Nodup)(hG:G.Nodup):(qdm F G).Nodup:=by
 refine Zy.mpr ⟨hF.filter _,hG.filter _,?_⟩;intro a ha b hb e;subst e;simp[U2] at ha hb;exact hb.2 ha.1
theorem jm{α:Type}[DecidableEq α]:∀{l m:List α},l.Nodup->(∀ x∈l,x∈m)->l.length<=m.length
 | [],_,_,_=>Va _
 |a::l,m,nd,h=>by
  have B9:=U7.mp nd;have ha:a∈m:=h a Zb
  have:=jm (l:=l) (m:=m.erase a) B9.2 λ x hx=>(List.mem_erase_of_ne (λ(e:x=a)=>B9.1 (by rw[<- e];exact hx))).mpr (h x (Yj _ hx))
  rw[List.length_erase_of_mem ha] at this
  have:0<m.length:=List.length_pos_of_mem ha
  rw[Uj];omega
theorem qhP {q:Pr}(hp:p.Pairwise (·<·))(hq:q.Pairwise (·<·))(h:∀ x∈q,x∈p)(hl:p.length<=q.length):q=p:=by
 have nd:q.Nodup:=zc Qc hq;refine kH (r:=(·<·)) Qc (λ a b=>Nat.lt_asymm) hq hp λ x=>⟨h x,λ hx=>?_⟩
 exact Xp λ hn=>by
  have oM:(x::q).length<=p.length:=by
   have dI:(x::q).Nodup:=U7.mpr ⟨hn,nd⟩;exact jm dI (by intro y hy;rcases Qd.mp hy with e|e;exact e ▸ hx;exact h y e)
  simp at oM;omega
theorem qgy:∀(D:List Pr),D≠[]->∃ p∈D,∀ q∈D,p.length<=q.length
 | [p],_=>⟨p,Zb,λ q hq=>by simp at hq;rw[hq];exact Q9 _⟩
 |p::r::D,_=>by
  obtain⟨m,hm,h⟩:=qgy (r::D) (by simp);by_cases hpm:p.length<=m.length
  ·exact⟨p,Zb,λ q hq=>by
    rcases Qd.mp hq with e|e
    ·rw[e];exact Q9 _
    ·exact Qu hpm (h q e)⟩
  ·exact⟨m,Yj _ hm,λ q hq=>by
    rcases Qd.mp hq with e|e
    ·rw[e];omega
    ·exact h q e⟩
theorem qeF(ρ:Nat->Bool):∀{D:List Pr},D.Nodup->p∈D->(∀ q∈D,q.all ρ=true ↔ q=p)->qt ρ D=true
 |q::D,nd,hp,h=>by
  have B9:=U7.mp nd;have rest:∀(E:List Pr),(∀ q∈E,q.all ρ=true ↔ q=p)->p∉E->qt ρ E=false:=by
   intro E;induction E with
   |nil=>intro _ _;rfl
   |cons r E ih =>
    intro hE B8;have hr:r.all ρ=false:=by
     cases hb:r.all ρ with
     |false=>rfl
     |true=>exact absurd ((hE r Zb).mp hb) (λ e=>B8 (e ▸ Zb))
    show xor (r.all ρ) (qt ρ E)=false
    rw[hr,ih (λ q hq=>hE q (Yj _ hq)) (λ e=>B8 (Yj _ e))];rfl
  show xor (q.all ρ) (qt ρ D)=true
  rcases Qd.mp hp with e|e
  ·subst e;rw[(h p Zb).mpr rfl,rest D (λ q hq=>h q (Yj _ hq)) B9.1];rfl
  ·have hq:q.all ρ=false:=by
    cases hb:q.all ρ with
    |false=>rfl
    |true=>exact absurd ((h q Zb).mp hb) (λ e'=>B9.1 (e' ▸ e))
   rw[hq,qeF ρ B9.2 e λ q hq=>h q (Yj _ hq)];rfl
theorem Vf.only(hF:Vf F)(hG:Vf G)(h:∀ ρ,qt ρ F=qt ρ G):F=G:=by
 by_cases hd:qdm F G=[]
 ·refine hF.ext hG λ p=>?_
  have:¬ p∈qdm F G:=by rw[hd];simp
  rw[kJ] at this;constructor
  ·intro hp;exact Xp λ hn=>this (.inl ⟨hp,hn⟩)
  ·intro hp;exact Xp λ hn=>this (.inr ⟨hp,hn⟩)
 ·obtain⟨p,hp,hl⟩:=qgy _ hd;have ris:∀ q∈qdm F G,q.Pairwise (·<·):=λ q hq=>by
   rcases kJ.mp hq with⟨a,_⟩|⟨a,_⟩
   ·exact hF.prod q a
   ·exact hG.prod q a
  have w:=qeF (λ x=>p.contains x) (qaW hF.nodup hG.nodup) hp λ q hq=>by
   constructor
   ·intro ha;refine qhP (ris p hp) (ris q hq) (λ x hx=>?_) (hl q hq)
    have:=Up.mp ha x hx
    simpa using this
   ·intro e;subst e;exact Up.mpr λ x hx=>by simpa using hx
  rw[qdn _ hF.nodup hG.nodup,h] at w;simp at w
noncomputable def zl:List Nat->List Pr
 | []=>[[]]
 |l::ls=>zl ls++(zl ls).map (l::·)
theorem qO:∀ ls:List Nat,(zl ls).length=2^ls.length
 | []=>rfl
 |l::ls=>by rw[zl,Ze,U5,qO ls,Uj,Qy];omega
theorem zO:∀{ls:List Nat}{p:Pr},p∈zl ls ↔ p.Sublist ls
 | [],p=>by simp[zl]
 |l::ls,p=>by
  rw[zl,U3,Qz];constructor
  ·rintro(h | ⟨q,h,rfl⟩)
   ·exact(zO.mp h).cons _
   ·exact(zO.mp h).cons₂ _
  ·intro h;cases h with
   |cons _ h=>exact .inl (zO.mpr h)
   |cons_cons _ h=>exact .inr ⟨_,zO.mpr h,rfl⟩
theorem jG:∀{ls:List Nat},ls.Nodup->(zl ls).Nodup
 | [],_=>by simp[zl]
 |l::ls,h=>by
  have h':=U7.mp h;rw[zl];refine Zy.mpr ⟨jG h'.2,?_,?_⟩
  ·have:=jG h'.2
   exact Zz.mpr (this.imp λ{a b} E2 e=>E2 (List.cons.inj e).2)
  ·intro a ha b hb e;subst e;obtain⟨q,hq,rfl⟩:=Qz.mp hb;exact h'.1 ((zO.mp ha).subset Zb)
noncomputable def zn:Nat->List Bool->List Bool
 |0,t=>t
 |n+1,t=>zn n (t.take (2^n))++List.zipWith (· != ·) (zn n (t.take (2^n))) (zn n (t.drop (2^n)))
theorem qW:∀(n:Nat)(t:List Bool),t.length=2^n->(zn n t).length=2^n
 |0,t,h=>h
 |n+1,t,h=>by
  have hp:2^(n+1)=2^n+2^n:=by rw[Qy];omega
  have h1:(t.take (2^n)).length=2^n:=by rw[Ul];omega
  have h2:(t.drop (2^n)).length=2^n:=by rw[Um];omega
  rw[zn,Ze,Yz,qW n _ h1,qW n _ h2];omega
noncomputable def look(ρ:Nat->Bool):List Nat->List Bool->Bool
 | [],t=>t.headD false
 |l::ls,t=>if ρ l=true then look ρ ls (t.drop (2^ls.length)) else look ρ ls (t.take (2^ls.length))
noncomputable def pol(ρ:Nat->Bool):List Nat->List Bool->Bool
 | [],t=>t.headD false
 |l::ls,t=>xor (pol ρ ls (t.take (2^ls.length))) (ρ l && pol ρ ls (t.drop (2^ls.length)))
theorem qbB(f:Bool->Bool->Bool)(ρ:Nat->Bool):∀(ls:List Nat)(t u:List Bool),t.length=2^ls.length->u.length=2^ls.length->look ρ ls (List.zipWith f t u)=f (look ρ ls t) (look ρ ls u)
 | [],[a],[b],_,_=>rfl
 |l::ls,t,u,ht,hu=>by
  rw[Uj,Qy] at ht hu;rw[look,look,look];by_cases h:ρ l=true
  ·rw[Vz h,Vz h,Vz h,List.drop_zipWith];exact qbB f ρ ls _ _ (by rw[Um];omega) (by rw[Um];omega)
  ·rw[V0 h,V0 h,V0 h,List.take_zipWith];exact qbB f ρ ls _ _ (by rw[Ul];omega) (by rw[Ul];omega)
theorem qat(ρ:Nat->Bool):∀(ls:List Nat)(t:List Bool),t.length=2^ls.length->look ρ ls (zn ls.length t)=pol ρ ls t
 | [],t,_=>rfl
 |l::ls,t,h=>by
  rw[Uj,Qy] at h;have h1:(t.take (2^ls.length)).length=2^ls.length:=by rw[Ul];omega
  have h2:(t.drop (2^ls.length)).length=2^ls.length:=by rw[Um];omega
  have s1:=qW ls.length _ h1;have s2:=qW ls.length _ h2;have e1:(zn (ls.length+1) t).take (2^ls.length)=zn ls.length (t.take (2^ls.length)):=by
   rw[zn,Xb (by omega),XL (by omega)]
  have e2:(zn (ls.length+1) t).drop (2^ls.length)=List.zipWith (· != ·) (zn ls.length (t.take (2^ls.length))) (zn ls.length (t.drop (2^ls.length))):=by
   rw[zn,Xc (by omega),XM (by omega),Jb]
  rw[look,pol,Uj,e1,e2];rw[qbB (· != ·) ρ ls _ _ s1 s2,qat ρ ls _ h1,qat ρ ls _ h2];cases ρ l <;> simp <;> cases pol ρ ls (t.take (2^ls.length)) <;> cases pol ρ ls (t.drop (2^ls.length)) <;> rfl
theorem qdo:∀(n:Nat)(t u:List Bool),t.length=2^n->u.length=2^n->zn n (List.zipWith (· != ·) t u)=List.zipWith (· != ·) (zn n t) (zn n u)
 |0,t,u,_,_=>rfl
 |n+1,t,u,ht,hu=>by
  have hp:2^(n+1)=2^n+2^n:=by rw[Qy];omega
  have t1:(t.take (2^n)).length=2^n:=by rw[Ul];omega
  have t2:(t.drop (2^n)).length=2^n:=by rw[Um];omega
  have u1:(u.take (2^n)).length=2^n:=by rw[Ul];omega
  have u2:(u.drop (2^n)).length=2^n:=by rw[Um];omega
  rw[zn,zn,zn,List.take_zipWith,List.drop_zipWith,qdo n _ _ t1 u1,qdo n _ _ t2 u2];rw[List.zipWith_append (by rw[qW n _ t1,qW n _ u1])];congr 1
  have q:∀(a b c d:List Bool),List.zipWith (· != ·) (List.zipWith (· != ·) a b) (List.zipWith (· != ·) c d)=List.zipWith (· != ·) (List.zipWith (· != ·) a c) (List.zipWith (· != ·) b d):=by
   intro a;induction a with
   |nil=>intro b c d;simp
   |cons x a ih =>
    intro b c d;cases b with
    |nil=>cases c <;> simp
    |cons y b =>
     cases c with
     |nil=>simp
     |cons z c =>
      cases d with
      |nil=>simp
      |cons w d =>
       simp only[List.zipWith_cons_cons,ih];cases x <;> cases y <;> cases z <;> cases w <;> rfl
  exact q _ _ _ _
theorem qbC:∀(a b:List Bool),a.length=b.length->List.zipWith (· != ·) a (List.zipWith (· != ·) a b)=b
 | [],[],_=>rfl
 |x::a,y::b,h=>by
  simp only[List.zipWith_cons_cons];rw[qbC a b (by simpa using h)];cases x <;> cases y <;> rfl
theorem qb8:∀(n:Nat)(t:List Bool),t.length=2^n->zn n (zn n t)=t
 |0,t,_=>rfl
 |n+1,t,h=>by
  have hp:2^(n+1)=2^n+2^n:=by rw[Qy];omega
  have t1:(t.take (2^n)).length=2^n:=by rw[Ul];omega
  have t2:(t.drop (2^n)).length=2^n:=by rw[Um];omega
  have s1:=qW n _ t1;have s2:=qW n _ t2;have e1:(zn (n+1) t).take (2^n)=zn n (t.take (2^n)):=by
   rw[zn,Xb (by omega),XL (by omega)]
  have e2:(zn (n+1) t).drop (2^n)=List.zipWith (· != ·) (zn n (t.take (2^n))) (zn n (t.drop (2^n))):=by
   rw[zn,Xc (by omega),XM (by omega),Jb]
  conv=>lhs;rw[zn]
  rw[e1,e2,qdo n _ _ s1 s2,qb8 n _ t1,qb8 n _ t2,qbC _ _ (by omega)];exact XZ _ _
noncomputable def yi(ls:List Nat)(t:List Bool):List Pr:=((zl ls).zip t).filterMap λ x=>if x.2=true then some x.1 else none
theorem vq(ρ:Nat->Bool):∀(ls:List Nat)(t:List Bool),t.length=2^ls.length->qt ρ (yi ls t)=pol ρ ls t
 | [],[b],_=>by cases b <;> simp[yi,zl,qt,pol]
 |l::ls,t,h=>by
  rw[Uj,Qy] at h;have h1:(t.take (2^ls.length)).length=2^ls.length:=by rw[Ul];omega
  have h2:(t.drop (2^ls.length)).length=2^ls.length:=by rw[Um];omega
  have e:yi (l::ls) t=yi ls (t.take (2^ls.length))++(yi ls (t.drop (2^ls.length))).map (l::·):=by
   unfold yi;rw[zl]
   conv=>lhs;rw[<- XZ (2^ls.length) t]
   rw[Jc (by rw[qO];omega),Ya];congr 1
   rw[List.zip_map_left,Zh,List.map_filterMap];congr 1
   funext x
   obtain⟨a,b⟩:=x;cases b <;> rfl
  have m:∀ F:List Pr,qt ρ (F.map (l::·))=(ρ l && qt ρ F):=by
   intro F;induction F with
   |nil=>simp[qt]
   |cons p F ih =>
    show xor ((l::p).all ρ) _=_
    rw[ih,Qi];show _=(ρ l && xor (p.all ρ) (qt ρ F))
    cases ρ l <;> simp
  rw[e,vo,m,vq ρ ls _ h1,vq ρ ls _ h2,pol]
theorem qdp(h:p∈yi ls t):p.Sublist ls:=by
 unfold yi at h;obtain⟨x,hx,e⟩:=List.mem_filterMap.mp h;split at e
 ·cases e;exact zO.mp (U8 hx).1
 ·cases e
theorem vt:∀(P:List Pr)(t:List Bool),((P.zip t).filterMap λ x=>if x.2=true then some x.1 else none).Sublist P
 | [],t=>by simp
 |p::P,[]=>by simp
 |p::P,b::t=>by
  rw[Zi,Yu];cases b with
  |true=>exact(vt P t).cons₂ _
  |false=>exact(vt P t).cons _
theorem vv(t:List Bool)(h:ls.Nodup):(yi ls t).Nodup:=(jG h).sublist (vt _ _)
theorem qdq(F:List Pr):∀(P:List Pr),((P.zip (P.map λ p=>F.contains p)).filterMap λ x=>if x.2=true then some x.1 else none)=P.filter λ p=>F.contains p
 | []=>rfl
 |p::P=>by
  rw[Qe,Zi,Yu,qdq F P];cases h:F.contains p with
  |true=>rw[X9 h];rfl
  |false=>rw[XA (by rw[h];exact Zc)];rfl
theorem qgz(ρ:Nat->Bool)(hl:ls.Nodup)(hF:F.Nodup)(h:∀ p∈F,p.Sublist ls):
  look ρ ls (zn ls.length ((zl ls).map λ p=>F.contains p))=qt ρ F:=by
 have len:((zl ls).map λ p=>F.contains p).length=2^ls.length:=by rw[U5,qO]
 rw[qat ρ ls _ len,<- vq ρ ls _ len];refine vp ρ ?_;unfold yi;rw[qdq,Xi ((jG hl).filter _) hF];intro p;rw[U2,zO,XY];exact⟨λ x=>x.2,λ x=>⟨h p x,x⟩⟩
theorem plt_total {b:Pr}(h1:¬ a<b)(h2:¬ b<a):a=b:=List.le_antisymm (List.not_lt.mp h2) (List.not_lt.mp h1)
noncomputable def ins(a:Pr):List Pr->List Pr
 | []=>[a]
 |b::l=>if b<a then b::ins a l else a::b::l
noncomputable def srt:List Pr->List Pr
 | []=>[]
 |a::l=>ins a (srt l)
theorem qdr(a:Pr):∀ l:List Pr,(ins a l).Perm (a::l)
 | []=>Jz _
 |b::l=>by
  rw[ins];split
  ·exact((qdr a l).cons b).trans (List.Perm.swap a b l)
  ·exact Jz _
theorem zV:∀ l:List Pr,(srt l).Perm l
 | []=>Jz _
 |a::l=>(qdr a (srt l)).trans ((zV l).cons a)
theorem qkI(a:Pr):∀{l:List Pr},l.Pairwise (λ x y=>¬ y<x)->(ins a l).Pairwise (λ x y=>¬ y<x)
 | [],_=>by simp[ins]
 |b::l,h=>by
  have h':=Zg.mp h;rw[ins];split
  ·rename_i hb;refine Zg.mpr ⟨λ x hx=>?_,qkI a h'.2⟩;rcases Qd.mp ((qdr a l).mem_iff.mp hx) with e | e
   ·rw[e];exact qgx _ _ hb
   ·exact h'.1 x e
  ·rename_i hb;refine Zg.mpr ⟨λ x hx=>?_,h⟩;rcases Qd.mp hx with e | e
   ·rw[e];exact hb
   ·intro hxa;have A1:=h'.1 x e
    have:x<b:=by
     by_cases E2:a<b
     ·exact List.lt_trans hxa E2
     ·have:=plt_total E2 hb
      rw[<- this];exact hxa
    exact A1 this
theorem qfr:∀ l:List Pr,(srt l).Pairwise (λ x y=>¬ y<x)
 | []=>List.Pairwise.nil
 |a::l=>qkI a (qfr l)
theorem qeG:∀{l m:List Pr},l.Perm m->l.Pairwise (λ x y=>¬ y<x)->m.Pairwise (λ x y=>¬ y<x)->l=m
 | [],m,h,_,_=>h.nil_eq
 |a::l,m,h,hl,hm=>by
  cases m with
  |nil=>exact absurd h.length_eq (by simp)
  |cons b m =>
   have bH:=Zg.mp hl;have rH:=Zg.mp hm;have ab:a=b:=by
    rcases Qd.mp (h.mem_iff.mp Zb) with e|e
    ·exact e
    ·rcases Qd.mp (h.mem_iff.mpr Zb) with e' | e'
     ·exact e'.symm
     ·exact plt_total (rH.1 a e) (bH.1 b e')
   subst ab;rw[qeG (List.Perm.cons_inv h) bH.2 rH.2]
theorem srt_of(h:l.Perm m)(hl:l.Pairwise (λ x y=>¬ y<x)):l=srt m:=qeG (h.trans (zV m).symm) hl (qfr m)
theorem qds(h:l.Nodup):(srt l).Pairwise (·<·):=by
 have nd:(srt l).Nodup:=(zV l).nodup_iff.mpr h
 have:=qfr l
 exact(this.and nd).imp λ{a b} E2=>Xp λ hn=>E2.2 (plt_total hn E2.1)
theorem qau:p∈srt l ↔ p∈l:=(zV l).mem_iff
theorem srt_perm_eq(h:l.Perm m):srt l=srt m:=srt_of ((zV l).trans h) (qfr l)
noncomputable def added(F G:List Pr):List Pr:=srt (qdm F G)
theorem kK(hF:Vf F)(hG:Vf G):Vf (added F G):=⟨qds (qaW hF.nodup hG.nodup),λ p hp=>by
 rcases kJ.mp (qau.mp hp) with⟨a,_⟩|⟨a,_⟩
 ·exact hF.prod p a
 ·exact hG.prod p a⟩
theorem yT(ρ:Nat->Bool)(hF:Vf F)(hG:Vf G):qt ρ (added F G)=xor (qt ρ F) (qt ρ G):=by
 rw[added,vp ρ (zV _),qdn ρ hF.nodup hG.nodup]
noncomputable def kM{α:Type}[DecidableEq α]:List α->List α
 | []=>[]
 |a::l=>a::(kM l).filter λ b=>decide (b≠a)
theorem jY{α:Type}[DecidableEq α]{x:α}:∀{l:List α},x∈kM l ↔ x∈l
 | []=>by simp[kM]
 |a::l=>by
  rw[kM,Qd,U2,jY,Qd];constructor
  ·rintro(h | h)
   ·exact .inl h
   ·exact .inr h.1
  ·rintro(h | h)
   ·exact .inl h
   ·by_cases e:x=a
    ·exact .inl e
    ·exact .inr ⟨h,by simpa using e⟩
theorem jH{α:Type}[DecidableEq α]:∀(l:List α),(kM l).Nodup
 | []=>by simp[kM]
 |a::l=>by
  rw[kM];refine U7.mpr ⟨λ h=>?_,(jH l).filter _⟩
  have:=(U2.mp h).2
  simp at this
noncomputable def qf(F:List Pr):List Nat:=(srt (kM (F.flatten.map λ c=>[c]))).flatten
theorem qmH{l:List Pr}(h:∀ p∈l,∃ c,p=[c]):l=l.flatten.map λ c=>[c]:=by
 induction l with
 |nil=>rfl
 |cons p l ih =>
  obtain⟨c,hc⟩:=h p Zb;subst hc;rw[Zw,Jd,<- ih λ q hq=>h q (Yj _ hq)];rfl
theorem yc(F:List Pr):srt (kM (F.flatten.map λ c=>[c]))=(qf F).map λ c=>[c]:=by
 refine qmH λ p hp=>?_
 obtain⟨c,_,e⟩:=Qz.mp (jY.mp (qau.mp hp));exact⟨c,e.symm⟩
theorem zy:c∈qf F ↔ ∃ p∈F,c∈p:=by
 have h:[c]∈(qf F).map (λ c=>[c]) ↔ c∈qf F:=by
  rw[Qz];exact⟨λ ⟨d,hd,e⟩=>by cases e;exact hd,λ hd=>⟨c,hd,rfl⟩⟩
 rw[<- h,<- yc,qau,jY,Qz];constructor
 ·rintro⟨d,hd,e⟩;cases e
  exact(List.mem_flatten.mp hd).imp λ p hp=>⟨hp.1,hp.2⟩
 ·rintro⟨p,hp,hc⟩;exact⟨c,List.mem_flatten.mpr ⟨p,hp,hc⟩,rfl⟩
theorem q0(F:List Pr):(qf F).Pairwise (·<·):=by
 have h:=qds (jH (F.flatten.map λ c=>[c]));rw[yc,Zz] at h;refine h.imp λ{a b} E2=>?_
 cases E2 with
 |rel h=>exact h
 |cons h=>cases h
theorem jZ:∀{ls p:List Nat},ls.Pairwise (·<·)->p.Pairwise (·<·)->(∀ x∈p,x∈ls)->p.Sublist ls
 |_,[],_,_,_=>List.nil_sublist _
 | [],x::p,_,_,h=>absurd (h x Zb) (by simp)
 |l::ls,x::p,hl,hp,h=>by
  have bH:=Zg.mp hl;have B8:=Zg.mp hp;rcases Qd.mp (h x Zb) with e|e
  ·subst e;refine(jZ bH.2 B8.2 λ y hy=>?_).cons₂ x;rcases Qd.mp (h y (Yj _ hy)) with e | e
   ·subst e;exact absurd (B8.1 _ hy) (Qc _)
   ·exact e
  ·refine(jZ bH.2 hp λ y hy=>?_).cons l;rcases Qd.mp (h y hy) with e' | e'
   ·subst e';rcases Qd.mp hy with q | q
    ·subst q;exact e
    ·exact absurd (B8.1 _ q) (Nat.lt_asymm (bH.1 _ e))
   ·exact e'
noncomputable def zb(F:List Pr)(ls:List Nat):List Bool:=zn ls.length ((zl ls).map λ p=>F.contains p)
theorem qS(F:List Pr)(ls:List Nat):(zb F ls).length=2^ls.length:=qW _ _ (by rw[U5,qO])
theorem vw(ρ:Nat->Bool)(hl:ls.Pairwise (·<·))(hF:Vf F)(h:∀ p∈F,∀ c∈p,c∈ls):look ρ ls (zb F ls)=qt ρ F:=
 qgz ρ (zc Qc hl) hF.nodup λ p hp=>jZ hl (hF.prod p hp) (h p hp)
noncomputable def yj(ls:List Nat)(t:List Bool):List Pr:=srt (yi ls (zn ls.length t))
theorem qav(hl:ls.Pairwise (·<·))(t:List Bool):Vf (yj ls t):=
 ⟨qds (vv _ (zc Qc hl)),λ p hp=>hl.sublist (qdp (qau.mp hp))⟩
theorem yu(ρ:Nat->Bool)(ht:t.length=2^ls.length):qt ρ (yj ls t)=look ρ ls t:=by
 rw[yj,vp ρ (zV _),vq ρ ls _ (qW _ _ ht),<- qat ρ ls _ (qW _ _ ht),qb8 _ _ ht]
theorem kQ(hp:p∈yj ls t):p.Sublist ls:=qdp (qau.mp hp)
noncomputable def mult(F G:List Pr):List Pr:=yj (qf (F++G)) (List.zipWith (· && ·) (zb F (qf (F++G))) (zb G (qf (F++G))))
theorem qcS(F G:List Pr):Vf (mult F G):=qav (q0 _) _
theorem qaX(ρ:Nat->Bool)(hF:Vf F)(hG:Vf G):qt ρ (mult F G)=(qt ρ F && qt ρ G):=by
 rw[mult,yu ρ (by rw[Yz,qS,qS,Q0]),qbB _ ρ _ _ _ (qS _ _) (qS _ _),
  vw ρ (q0 _) hF λ p hp c hc=>zy.mpr ⟨p,Yk _ hp,hc⟩,vw ρ (q0 _) hG λ p hp c hc=>zy.mpr ⟨p,XS _ hp,hc⟩]
noncomputable def opp(F:List Pr):List Pr:=added F [[]]
noncomputable def join(F G:List Pr):List Pr:=added (added F G) (mult F G)
theorem qfs:Vf [[]]:=⟨by simp,by simp⟩
theorem qhQ:Vf []:=⟨List.Pairwise.nil,by simp⟩
theorem kS(hF:Vf F):Vf (opp F):=kK hF qfs
theorem yd(ρ:Nat->Bool)(hF:Vf F):qt ρ (opp F)=!qt ρ F:=by
 rw[opp,yT ρ hF qfs];simp[qt]
theorem qmI(hF:Vf F)(hG:Vf G):Vf (join F G):=kK (kK hF hG) (qcS F G)
theorem qaY(ρ:Nat->Bool)(hF:Vf F)(hG:Vf G):qt ρ (join F G)=(qt ρ F || qt ρ G):=by
 rw[join,yT ρ (kK hF hG) (qcS F G),yT ρ hF hG,qaX ρ hF hG];cases qt ρ F <;> cases qt ρ G <;> rfl
end Fs
namespace L2
open PySem PySem.Spec PyProof.Rows
noncomputable def zW(env:Env):List (Str×NameKind)->List (Str×Addr)->List (Str×Addr)
 | [],c7=>c7
 |(n,k)::r,c7=>zW env r (if (k == NameKind.free)=true then(n,(env.cells.lookup n).getD 0)::c7 else c7)
theorem qdt(env:Env):∀(l:List (Str×NameKind))(c7:List (Str×Addr)),(∀ y∈l,y.2=.free->∃ c,env.cells.lookup y.1=some c) ->
  (forIn l c7 λ(x:Str×NameKind)(cs:List (Str×Addr))=>match x with
   |(name,kind)=>if (kind == NameKind.free)=true then do let a <- cellOf env name;pure (ForInStep.yield ((name,a)::cs)) else pure (ForInStep.yield cs):Sem (List (Str×Addr)))=pure (zW env l c7)
 | [],c7,_=>by rw[List.forIn_nil];rfl
 |(n,k)::r,c7,h=>by
  rw[List.forIn_cons];by_cases hk:(k == NameKind.free)=true
  ·obtain⟨c,hc⟩:=h (n,k) Zb (by simpa using hk);have e:cellOf env n=pure c:=by unfold cellOf;rw[show env.cells.lookup n=some c from hc]
   simp only[hk,Vw,e,pure_bind];rw[qdt env r _ λ y hy=>h y (Yj _ hy)];rw[zW,Vz hk,show env.cells.lookup n=some c from hc];rfl
  ·have L7:(k == NameKind.free)=false:=by simpa using hk
   simp only[L7,Zj,Vo,pure_bind];rw[qdt env r _ λ y hy=>h y (Yj _ hy),zW,V0 hk]
theorem yl(h:∀ y∈scope.names,y.2=.free->∃ c,env.cells.lookup y.1=some c):closureFor scope env=pure (zW env scope.names []):=by
 unfold closureFor
 have:=qdt env scope.names [] h
 simp only[bind_pure];exact this
theorem qaZ(env:Env):∀(l:List (Str×NameKind))(c7:List (Str×Addr)),(∀ y∈l,y.2=.free->∃ c,env.cells.lookup y.1=some c)->(∀ x c,c7.lookup x=some c->env.cells.lookup x=some c) ->
  ∀ x c,(zW env l c7).lookup x=some c->env.cells.lookup x=some c
 | [],c7,_,ha,x,c,e=>ha x c e
 |(n,k)::r,c7,h,ha,x,c,e=>by
  rw[zW] at e;refine qaZ env r _ (λ y hy=>h y (Yj _ hy)) ?_ x c e;clear e;intro x c e;by_cases hk:(k == NameKind.free)=true
  ·rw[Vz hk] at e;obtain⟨c',hc⟩:=h (n,k) Zb (by simpa using hk);rw[show env.cells.lookup n=some c' from hc] at e;rw[Uq] at e;by_cases hx:(x == n)=true
   ·rw[hx] at e
    have:x=n:=by simpa using hx
    subst this;cases e
    exact hc
   ·rw[show(x == n)=false by simpa using hx] at e;exact ha x c e
  ·rw[V0 hk] at e;exact ha x c e
theorem qgA(env:Env):∀(l:List (Str×NameKind))(c7:List (Str×Addr))(x:Str),(c7.lookup x).isSome=true->((zW env l c7).lookup x).isSome=true
 | [],_,_,h=>h
 |(n,k)::r,c7,x,h=>by
  rw[zW];refine qgA env r _ x ?_;by_cases hk:(k == NameKind.free)=true
  ·rw[Vz hk,Uq];cases x == n with
   |true=>rfl
   |false=>exact h
  ·rw[V0 hk];exact h
theorem kU(env:Env):∀(l:List (Str×NameKind))(c7:List (Str×Addr))(x:Str),(x,NameKind.free)∈l->((zW env l c7).lookup x).isSome=true
 |(n,k)::r,c7,x,h=>by
  rw[zW];rcases Qd.mp h with e|e
  ·cases e
   refine qgA env r _ _ ?_;rw[Vz (by decide),Uq];simp only[Ux,Option.isSome_some]
  ·exact kU env r _ x e
noncomputable def zt(X:Cx)(NY:List Str)(scope:Scope)(C:Addr)(s:Shared)(H:Hp)(fp:List Addr)(pins:List (Addr×Obj)):Cx:=
 { X with N:=NY,s₀:=s,H₀:=H,env:=compEnvC scope (zW X.env scope.names []) C X.env,outer:=X.stack,ex:=fp,fn:=λ _=>false,pn:=X.pn++pins,xe:=λ _ _=>False }
structure CompScope(X:Cx)(NY:List Str)(o:Nat)(caps:List Nat)(scope:Scope):Prop where
 kind:scope.kind=.function
 nd:NY.Nodup
 nocell:∀ y∈scope.names,y.2≠.cell
 frees:∀ y∈scope.names,y.2=.free->(X.env.kindOf y.1=some .cell∨X.env.kindOf y.1=some .free)
 locs:∀ y∈scope.names,y.2=.local->scope.names.lookup y.1=some .local
 capOk:∀(j:Nat)(i:Nat),caps[j]?=some i->∃ x,NY[o+j]?=some x/\X.N[i]?=some x/\scope.names.lookup x=some .free
 len:NY.length=o+caps.length
noncomputable def stY(o:Nat)(caps:List Nat)(σ:St):St:=List.replicate o none++caps.map λ i=>(σ[i]?).getD none
theorem vy{env:Env}:∀{names:List (Str×NameKind)}{x:Str},names.lookup x=some .free ->
  (names.map λ(n,k)=>if (k == NameKind.free && env.scope.kind == .function && env.kindOf n == some .cell) then(n,NameKind.cell) else(n,k)).lookup x=some .cell ∨
  (names.map λ(n,k)=>if (k == NameKind.free && env.scope.kind == .function && env.kindOf n == some .cell) then(n,NameKind.cell) else(n,k)).lookup x=some .free
 | [],_,h=>by simp at h
 |(n,k)::r,x,h=>by
  have ih:=@vy env r x;show List.lookup x ((if (k == NameKind.free && env.scope.kind == .function && env.kindOf n == some .cell)=true then(n,NameKind.cell) else(n,k))::_)=_∨List.lookup x ((if (k == NameKind.free && env.scope.kind == .function && env.kindOf n == some .cell)=true then(n,NameKind.cell) else(n,k))::_)=_
  cases hx:x == n with
  |true =>
   simp only[Uq,hx] at h;cases h
   by_cases hc:(NameKind.free == NameKind.free && env.scope.kind == .function && env.kindOf n == some .cell)=true
   ·rw[Vz hc];left;simp only[Uq,hx]
   ·rw[V0 hc];right;simp only[Uq,hx]
  |false =>
   simp only[Uq,hx] at h;by_cases hc:(k == NameKind.free && env.scope.kind == .function && env.kindOf n == some .cell)=true
   ·rw[Vz hc];simp only[Uq,hx];exact ih h
   ·rw[V0 hc];simp only[Uq,hx];exact ih h
theorem qa0{env:Env}:∀{names:List (Str×NameKind)}{x:Str}{k:NameKind},(∀ y∈names,y.2≠.cell) ->
  (names.map λ(n,k)=>if (k == NameKind.free && env.scope.kind == .function && env.kindOf n == some .cell) then(n,NameKind.cell) else(n,k)).lookup x=some k->(k=.cell∨k=.free)->names.lookup x=some .free
 | [],_,_,_,h,_=>by simp at h
 |(n,k0)::r,x,k,nc,h,hk=>by
  have ih:=@qa0 env r x k (λ y hy=>nc y (Yj _ hy));replace h:List.lookup x ((if (k0 == NameKind.free && env.scope.kind == .function && env.kindOf n == some .cell)=true then(n,NameKind.cell) else(n,k0))::(r.map λ(n,k)=>if (k == NameKind.free && env.scope.kind == .function && env.kindOf n == some .cell) then(n,NameKind.cell) else(n,k)))=some k:=h;have n0:k0≠.cell:=nc (n,k0) Zb;cases hx:x == n with
  |true =>
   by_cases hc:(k0 == NameKind.free && env.scope.kind == .function && env.kindOf n == some .cell)=true
   ·have:k0=.free:=by
     simp only[Uo] at hc;simpa using hc.1.1
    simp only[Uq,hx,this]
   ·rw[V0 hc] at h;simp only[Uq,hx] at h ⊢;cases h
    rcases hk with e|e
    ·exact absurd e n0
    ·rw[e]
  |false =>
   by_cases hc:(k0 == NameKind.free && env.scope.kind == .function && env.kindOf n == some .cell)=true
   ·rw[Vz hc] at h;simp only[Uq,hx] at h ⊢;exact ih h hk
   ·rw[V0 hc] at h;simp only[Uq,hx] at h ⊢;exact ih h hk
theorem Un.but(u:Un fs ex H H' h h1)(hs:Heap.SameBut C h1 h2)(hC:h.objs.size<=C):Un fs ex H H' h h2:=by
 have ne:∀ b o,h.get? b=some o->b≠C:=λ b o e z=>by subst z;exact absurd (Za (Qs e) hC) (Qc _)
 refine⟨λ b o e n hb hx=>(hs.2 b (ne b o e)).trans (u.keep b o e n hb hx),λ b o e n hb hx=>?_,u.free,λ b o e hx=>?_,u.tups,u.frzs,u.tbls⟩
 ·obtain⟨sl,q⟩:=u.slot b o e n hb hx;exact⟨sl,(hs.2 b (ne b o e)).trans q⟩
 ·obtain⟨o',q⟩:=u.there b o e hx;exact⟨o',(hs.2 b (ne b o e)).trans q⟩
theorem HOk.but(ok:HOk P w H h)(hs:Heap.SameBut C h h')(hC:H C=none):HOk P w H h':=λ a o e=>by
 refine(ok a o e).stay (λ b u hb q=>(hs.2 b ?_).trans q) (λ _ q=>q) λ _ _ q=>q
 rcases hb with z|z
 ·rw[z];exact λ y=>by rw[y,hC] at e;cases e
 ·exact λ y=>by rw[y,hC] at z;cases z
abbrev Adv:=Nat->St->Hp->(St->Hp->Prop)->Prop
structure Walk(Y:Cx)(tg:Expr)(fp:List Addr)(it:Addr)(tn:Nat->Heap->Prop)(adv:Adv)(stop:Nat->Hp->Prop):Prop where
 obj:∀ i h,tn i h->∀ b∈fp,∃ o,h.get? b=some o/\∀ v,o.data≠.cell v
 keep:∀ i h h',tn i h->(∀ b∈fp,∀ o,h.get? b=some o->h'.get? b=some o)->tn i h'
 item:∀(i:Nat)(pins:List (Addr×Obj))(s:Shared)(σ:St)(H:Hp)(N:St->Hp->Prop),Inv Y pins σ H s->(∀ b∈fp,jF Y pins H b)->tn i s.heap->adv i σ H N ->
  wpAny (model Y.prog Y.w) Y.A (pyNext (.ref it)) (λ r s1=>∃ u,r=some u/\wpAny (model Y.prog Y.w) Y.A (letOwnedTupleGo tg (.ref it) u) (λ _ s2 =>
   wpAny (model Y.prog Y.w) Y.A (assign tg Y.env u) (λ _ s3=>∃ σ' H',Inv Y pins σ' H' s3/\N σ' H'/\tn (i+1) s3.heap/\∀ b∈fp,H' b=none) Y.xe s2) Y.xe s1) Y.xe s
 done:∀(i:Nat)(pins:List (Addr×Obj))(s:Shared)(σ:St)(H:Hp),Inv Y pins σ H s->(∀ b∈fp,jF Y pins H b)->tn i s.heap->stop i H ->
  wpAny (model Y.prog Y.w) Y.A (pyNext (.ref it)) (λ r s1=>r=none/\Inv Y pins σ H s1) Y.xe s
 self:∀(A:Around)(i:Nat)(s:Shared)(Q:Value->Shared->Prop)(E:Value->Shared->Prop),tn i s.heap->Q (.ref it) s->wpAny (model Y.prog Y.w) A (pyIter (.ref it)) Q E s
theorem zJ{tg:Expr}{tn:Nat->Heap->Prop} {s5:Shared}(obj:∀ b∈fp,∃ o,s5.heap.get? b=some o/\∀ v,o.data≠.cell v)(keep:∀ h',(∀ b∈fp,∀ o,s5.heap.get? b=some o->h'.get? b=some o)->tn i h')(I6:Inv Y (pins++ku fp s5.heap) σ6 H6 s6):Inv Y pins σ6 H6 s6/\tn i s6.heap/\∀ b∈fp,H6 b=none:=by
 refine⟨I6.unpinned,keep _ λ b hb o e=>(I6.pin (b,o) (XS _ (XS _ (yD hb e)))).1,λ b hb=>?_⟩;obtain⟨o,e,d⟩:=obj b hb;exact(I6.pin (b,o) (XS _ (XS _ (yD hb e)))).2.1
def qeH(J:It)(g:TG):Adv:=λ i σ H N=>J.go i H/\∀ x H',J.yld i H x H'->g x σ H' N
theorem Turn.walk(hc:Y.calm=true)(T:Turn Y.prog Y.w Y.K tg J fp it tn)(hg:PG Y tg g):Walk Y tg fp it tn (qeH J g) J.stop where
 obj:=T.obj
 keep:=T.keep
 item:=by
  intro i pins s σ H N I hf st ⟨go,step⟩;refine thn (T.item Y rfl rfl rfl hc i pins s σ H Y.xe I hf st go) λ r s4 ⟨u,hr,h4⟩=>⟨u,hr,?_⟩
  refine thn h4 λ _ s5 ⟨x,H5,I5,r5,y5,V5,pC⟩=>?_
  have I5':=I5.pinned (fp:=fp) (λ b hb=>⟨pC b hb,(hf b hb).2⟩) (T.obj _ _ V5);refine thn (hg _ s5 σ H5 x u _ I5' r5 (step x H5 y5)) λ _ s6 ⟨σ6,H6,I6,q6⟩=>?_
  obtain⟨J1,J2,J3⟩:=zJ (tg:=tg) (tn:=tn) (i:=i+1) (T.obj _ _ V5) (λ h' k=>T.keep _ _ _ V5 k) I6;exact⟨σ6,H6,J1,q6,J2,J3⟩
 done:=λ i pins s σ H I hf st hs=>T.done Y rfl rfl rfl hc i pins s σ H Y.xe I hf st hs
 self:=T.self
structure It2 where 
 go:Nat->Hp->Prop
 yld:Nat->Hp->List V->Hp->Prop
 stop:Nat->Hp->Prop
structure Turn2(P:Program)(w:World)(K:W.Frag)(tg:Expr)(J:It2)(fp:List Addr)(it:Addr)(tn:Nat->Heap->Prop):Prop where
 obj:∀ i h,tn i h->∀ b∈fp,∃ o,h.get? b=some o/\∀ v,o.data≠.cell v
 keep:∀ i h h',tn i h->(∀ b∈fp,∀ o,h.get? b=some o->h'.get? b=some o)->tn i h'
 item:∀(X:Cx),X.prog=P->X.w=w->X.K=K->X.calm=true->∀(i:Nat)(pins:List (Addr×Obj))(s:Shared)(σ:St)(H:Hp)(E:Value->Shared->Prop),Inv X pins σ H s->(∀ b∈fp,jF X pins H b)->tn i s.heap->J.go i H ->
  wpAny (model P w) X.A (pyNext (.ref it)) (λ r s1=>∃ p,r=some (.ref p) /\
   wpAny (model P w) X.A (letOwnedTupleGo tg (.ref it) (.ref p)) (λ _ s2=>∃ xs us H',Inv X pins σ H' s2/\IsTup s2.heap p us.toArray/\qL xs us/\J.yld i H xs H'/\tn (i+1) s2.heap/\∀ b∈fp,H' b=none) E s1) E s
 done:∀(X:Cx),X.prog=P->X.w=w->X.K=K->X.calm=true->∀(i:Nat)(pins:List (Addr×Obj))(s:Shared)(σ:St)(H:Hp)(E:Value->Shared->Prop),Inv X pins σ H s->(∀ b∈fp,jF X pins H b)->tn i s.heap->J.stop i H ->
  wpAny (model P w) X.A (pyNext (.ref it)) (λ r s1=>r=none/\Inv X pins σ H s1) E s
 self:∀(A:Around)(i:Nat)(s:Shared)(Q:Value->Shared->Prop)(E:Value->Shared->Prop),tn i s.heap->Q (.ref it) s->wpAny (model P w) A (pyIter (.ref it)) Q E s
def qhR(J:It2)(n:Nat)(t:TGs):Adv:=λ i σ H N=>J.go i H/\∀ xs H',J.yld i H xs H'->xs.length=n/\t xs σ H' N
theorem Turn2.walk(hc:Y.calm=true)(T:Turn2 Y.prog Y.w Y.K (.Tuple es k pos) J fp it tn)(hg:PGs Y es t)(hn:(assignEach es Y.env).length=n:=by rfl)(L5:(assignEach es Y.env).findIdx? (·.1)=none:=by rfl):Walk Y (.Tuple es k pos) fp it tn (qhR J n t) J.stop where
 obj:=T.obj
 keep:=T.keep
 item:=by
  intro i pins s σ H N I hf st ⟨go,step⟩;refine thn (T.item Y rfl rfl rfl hc i pins s σ H Y.xe I hf st go) λ r s4 ⟨p,hr,h4⟩=>⟨.ref p,hr,?_⟩
  refine thn h4 λ _ s5 ⟨xs,us,H5,I5,ht,r5,y5,V5,pC⟩=>?_
  have I5':=I5.pinned (fp:=fp) (λ b hb=>⟨pC b hb,(hf b hb).2⟩) (T.obj _ _ V5);obtain⟨hl,hw⟩:=step xs H5 y5;refine assign_Tuple_tuple (I5.ok.hd hc) ht (by simp[hn,<- hl,r5.length]) L5 λ h' hx=>?_
  have I6:Inv Y (pins++ku fp s5.heap) σ H5 { s5 with heap:=h' }:=I5'.kept (t':=s5.toks) λ b o e=>hx b o (Qt (Qs e)) e
  refine thn (hg _ _ σ H5 xs _ N I6 (by simpa using r5) hw) λ _ s6 ⟨σ6,H6,I7,q6⟩=>?_
  obtain⟨J1,J2,J3⟩:=zJ (tg:=.Tuple es k pos) (tn:=tn) (i:=i+1) (T.obj _ _ V5) (λ h' k=>T.keep _ _ _ V5 k) I7;exact⟨σ6,H6,J1,q6,J2,J3⟩
 done:=λ i pins s σ H I hf st hs=>T.done Y rfl rfl rfl hc i pins s σ H Y.xe I hf st hs
 self:=T.self
abbrev TI2:=St->Hp->(It2->Hp->Prop)->Prop
def PI2(X:Cx)(tg iter:Expr)(wi:TI2):Prop:=
 ∀(pins:List (Addr×Obj))(s:Shared)(σ:St)(H:Hp)(R:It2->Hp->Prop),Inv X pins σ H s->wi σ H R ->
  wpAny (model X.prog X.w) X.A (eval iter X.env) (λ v s1=>wpAny (model X.prog X.w) X.A (pyIter v) (λ gS s2 =>
   ∃(it:Addr)(fp:List Addr)(tn:Nat->Heap->Prop)(J:It2)(H':Hp),gS=.ref it/\Inv X pins σ H' s2/\Turn2 X.prog X.w X.K tg J fp it tn/\tn 0 s2.heap/\(∀ b∈fp,jF X pins H' b)/\R J H') X.xe s1) X.xe s
def PTs(X:Cx)(A5:List Expr)(tt:TT):Prop:=∀(pins:List (Addr×Obj))(s:Shared)(σ:St)(H:Hp)(Q:Bool->Hp->Prop),Inv X pins σ H s->tt σ H Q ->
 wpAny (model X.prog X.w) X.A (forIn A5 true λ c r=>if r=true then do let ok <- isTrue c X.env (eval c X.env);pure (ForInStep.yield ok) else pure (ForInStep.yield r)) (TP X pins σ Q) X.xe s
def qqE:TT:=λ _ H Q=>Q true H
theorem zh:PTs X [] qqE:=λ _ _ _ H _ I h=>wpAny_tests_nil ⟨H,I,h⟩
theorem qaw(hc:PT X c tt):PTs X [c] tt:=λ pins s σ H Q I h=>wpAny_tests_one (hc pins s σ H Q I h)
section
variable {prog:Program}{w:World}{A:Around}{R:Result->Shared->Prop}{s:Shared}
theorem vz(I:Nat->Shared->Prop)(turn:∀ n s,I n s->wpAny (model prog w) A (pyNext it) (λ r s₁=>match r with
   |none=>R (.ok .next) s₁
   |some v=>wpAny (model prog w) A (letOwnedTupleGo G6 it v) (λ _ s₁'=>wpAny (model prog w) A (assign G6 env v) (λ _ s₂ =>
     wpAny (model prog w) A (forIn A5 true λ c r=>if r=true then do let ok <- isTrue c env (eval c env);pure (ForInStep.yield ok) else pure (ForInStep.yield r)) (λ ok s₃ =>
      if ok=true then wpAny (model prog w) A (eval E3 env) (λ x s₄ =>
       wpAny (model prog w) A (call (.builtin "list.append") [c7,x]) (λ _ s₅=>∃ m,m<n/\I m s₅) (λ _ _=>False) s₄) (λ _ _=>False) s₃
      else ∃ m,m<n/\I m s₃) (λ _ _=>False) s₂) (λ _ _=>False) s₁') (λ _ _=>False) s₁) (λ _ _=>False) s)(n:Nat)(h:I n s):
  codeAny (model prog w) A (.compLoop (.ListComp E3 [⟨G6,iter,A5,0⟩] scope pos) 0 it c7 env) R s:=by
 refine codeAny_loop rfl I (λ n s hI=>?_) n h;show wpAny _ A ((compTurn (.ListComp E3 [⟨G6,iter,A5,0⟩] scope pos) 0 it c7 env).onRaise (λ x=>do noteFrame x env;theTreesLotGoes x)) _ _ s
 refine wpAny_noted ?_;rw[compTurn_list];have no:∀{E:Value->Shared->Prop}(x:Value)(s':Shared),False->E x s':=λ _ _ f=>f.elim
 refine Vh (Qo (Vh (Vg (turn n s hI) (λ r s₁ h₁=>?_) no)));cases r with
 |none=>exact Vi h₁
 |some v =>
  refine Vh (Vg h₁ (λ _ s₁' h₁'=>?_) no);refine Vh (Vg h₁' (λ _ s₂ h₂=>Vh (Vg h₂ (λ ok s₃ h₃=>?_) no)) no);cases ok with
  |false=>exact Vi ⟨rfl,h₃⟩
  |true =>
   exact Vh (Vh (Vg h₃ (λ x s₄ h₄=>Vh (Vg h₄ (λ _ s₅ h₅=>Vi (Vi ⟨rfl,h₅⟩)) no)) no))
end
def Kp(o:Nat)(σ0 σ:St):Prop:=σ.drop o=σ0.drop o/\σ.length=σ0.length
theorem Kp.get(k:Kp o (stY o caps σ) σ2):∀(j:Nat)(v:V),(stY o caps σ)[j]?=some (some v)->σ2[j]?=some (some v):=by
 intro j v e;by_cases hj:j<o
 ·unfold stY at e;rw[Xo (by simpa using hj),X5,Vz hj] at e;cases e
 ·have e1:(σ2.drop o)[j-o]?=((stY o caps σ).drop o)[j-o]?:=by rw[k.1]
  rw[Zk,Zk,show o+(j-o)=j by omega] at e1;rw[e1];exact e
theorem qkJ(e:(stY o caps σ)[j]?=some (some v)):∃ j' i,j=o+j'/\caps[j']?=some i/\σ[i]?=some (some v):=by
 unfold stY at e;by_cases hj:j<o
 ·rw[Xo (by simpa using hj),X5,Vz hj] at e;cases e
 ·rw[Xh (by simpa using hj),XT,Zt] at e;cases q:caps[j-o]? with
  |none=>rw[q] at e;cases e
  |some i =>
   rw[q] at e;refine⟨j-o,i,by omega,q,?_⟩;cases q2:σ[i]? with
   |none=>rw[Option.map_some,q2] at e;cases e
   |some z =>
    rw[Option.map_some,q2] at e;have e':z=some v:=Option.some.inj e;rw[e']
def yY(o:Nat)(caps:List Nat)(adv:Adv)(stop:Nat->Hp->Prop)(tt:TT)(te:TE)(σ:St)(H1:Hp)(Q:VK):Prop:=
 ∀ D,H1 D=none->∃ W:Nat->Nat->List V->Hp->Prop,(∃ m,W 0 m [] (upd H1 D (.lst [])))/\∀ i m ys H,W i m ys H ->
  (stop i H/\Q (.ref D) H)∨adv i (stY o caps σ) H λ σ2 H2=>Kp o (stY o caps σ) σ2/\tt σ2 H2 λ b H3=>if b=true then te σ2 H3 λ y H4=>H4 D=some (.lst ys)/\ys.length<sizeLine/\∃ m',m'<m/\W (i+1) m' (ys++[y]) (upd H4 D (.lst (ys++[y])))
   else ∃ m',m'<m/\W (i+1) m' ys H3
section
variable {X:Cx}
theorem qgB(S:CompScope X NY o caps scope)(I2:Inv X pins σ H2 s2)(C5:∀ b∈fp,jF X pins H2 b)(nG:∀ b∈fp,∃ ob,s2.heap.get? b=some ob)(hns:h₁.Ns (s2.heap.objs.size+1) λ _=>none)(n8:∀ b ob,s2.heap.get? b=some ob->h₁.get? b=some ob)(hD:∃ n,h₁.get? s2.heap.objs.size=some { cls:=.type "list",data:=.seq ([]:List Value).toArray n })(t':Nat):
  Inv (zt X NY scope (s2.heap.objs.size+1) s2 H2 fp pins) [] (stY o caps σ) (upd H2 s2.heap.objs.size (.lst [])) { s2 with heap:=h₁,toks:=t' }:=by
 have frees:∀ y∈scope.names,y.2=.free->∃ c,X.env.cells.lookup y.1=some c:=λ y hy e=>I2.ok.has _ (S.frees y hy e)
 have p8:∀ x c,(zW X.env scope.names []).lookup x=some c->X.env.cells.lookup x=some c:=qaZ X.env scope.names [] frees (λ x c e=>by simp at e);have V2:H2 s2.heap.objs.size=none:=I2.hok.fresh (Q9 _);have oU:H2 (s2.heap.objs.size+1)=none:=I2.hok.fresh (Vb _);have sS:∀ b ob,s2.heap.get? b=some ob->b≠s2.heap.objs.size+1:=λ b ob e=>Qt (Z0 (Qs e))
 have sR:∀ b ob,s2.heap.get? b=some ob->b≠s2.heap.objs.size:=λ b ob e=>Qt (Qs e)
 have oQ:HOk X.prog X.w (upd H2 s2.heap.objs.size (.lst [])) h₁:=by
  obtain⟨n,hD⟩:=hD;exact I2.hok.laid n8 (Q9 _) ⟨Va _,[],n,.nil,hD⟩
 refine⟨?_,rfl,I2.bare,?_,?_,?_,?_,?_,?_,oQ,?_⟩
 ·refine⟨I2.ok.mod,S.kind,I2.ok.glob,I2.ok.blt,Vb _,λ x y c h1 h2=>I2.ok.inj x y c (p8 x c h1) (p8 y c h2),λ x hx=>?_,λ x c e=>absurd e Zc,I2.ok.hd,I2.ok.frames,.inl rfl,λ b hb=>?_,
   I2.bs,Qu I2.ok.bsz I2.sz,λ b ob e hb=>?_,λ b hb z=>?_,I2.stack,I2.stkFree⟩
  ·have A1:scope.names.lookup x=some .free:=by
    rcases hx with q|q
    ·exact qa0 (env:=X.env) S.nocell q (.inl rfl)
    ·exact qa0 (env:=X.env) S.nocell q (.inr rfl)
   exact Xv.mp (kU X.env scope.names [] x (Yx A1))
  ·obtain⟨ob,e⟩:=nG b hb;exact⟨sS b ob e,λ x c q=>(C5 b hb).2.2.2.2.1 x c (p8 x c q)⟩
  ·rcases(C5 b hb).2.2.2.1 with q | q
   ·exact I2.ok.noex b ob e q
   ·exact absurd (Za (Qs e) (Qu I2.ok.bsz q)) (Qc _)
  ·rcases Qd.mp (I2.stkSub b z) with q | q
   ·exact(C5 b hb).2.1 q
   ·exact(C5 b hb).2.2.1 q
 ·exact Un.laid n8 (Q9 _) V2
 ·refine⟨_,hns,λ j x v e1 e2 e3=>?_⟩;obtain⟨j',i,ej,ec,es⟩:=qkJ e2;obtain⟨x',n1,n2,n3⟩:=S.capOk j' i ec;rw[<- ej] at n1;have ex:x=x':=Option.some.inj ((show NY[j]?=some x from e1).symm.trans n1);subst ex;have hk:=S.frees (x,.free) (Yx n3) rfl;obtain⟨m,_,hl⟩:=I2.loc;have hv:Vis X.env.scope x:=hk.elim (λ q=>.inr (.inl q)) λ q=>.inr (.inr q)
  obtain⟨u,ru,lk⟩:=hl i x v n2 es hv;refine⟨u,ru,.inr ⟨vy (env:=X.env) n3,?_⟩⟩;rcases lk with⟨q,_⟩|⟨_,c,ec,cell⟩
  ·rcases hk with z | z
   ·rw[show X.env.kindOf x=some .cell from z] at q;cases q
   ·rw[show X.env.kindOf x=some .free from z] at q;cases q
  ·obtain⟨c',N3⟩:=Xv.mp (kU X.env scope.names [] x (Yx n3))
   have:=p8 x c' N3
   rw[ec] at this;cases this
   obtain⟨ob,e,d⟩:=cell;exact⟨c,N3,ob,n8 c ob e,d⟩
 ·intro x c e;obtain⟨v,ob,q,d⟩:=I2.cell x c (p8 x c e);exact⟨v,ob,n8 c ob q,d⟩
 ·show upd H2 s2.heap.objs.size (.lst []) (s2.heap.objs.size+1)=none
  rw[qu (Ur _)];exact oU
 ·intro x c e;obtain⟨v,ob,q,d⟩:=I2.cell x c (p8 x c e);rw[qu (sR c ob q)];exact I2.freeC x c (p8 x c e)
 ·intro p hp;have B8:p∈X.pn++pins:=by
   have:p∈(X.pn++pins)++[]:=hp
   simpa using this
  obtain⟨e,n,ne,nf,d⟩:=I2.pin p B8;refine⟨n8 _ _ e,by rw[qu (sR _ _ e)];exact n,sS _ _ e,λ z=>?_,d⟩;rcases Qd.mp (I2.stkSub p.1 z) with q|q
  ·exact ne q
  ·exact nf q
 ·show(stY o caps σ).length=NY.length
  unfold stY;rw[Ze,XT,U5,S.len]
theorem qdu(S:CompScope X NY o caps scope)(I2:Inv X pins σ H2 s2)(C5:∀ b∈fp,jF X pins H2 b)(l8:tn 0 s2.heap)(Wk:∀ C,Walk (zt X NY scope C s2 H2 fp pins) tg fp it tn adv stop)(ht:∀ C,PTs (zt X NY scope C s2 H2 fp pins) A5 tt)(he:∀ C,PE (zt X NY scope C s2 H2 fp pins) E3 te)(h:yY o caps adv stop tt te σ H2 Q):
  wpAny (model X.prog X.w) X.A (newList []) (λ c7 s₃=>wpAny (model X.prog X.w) X.A (newFunctionEnv scope X.env.globals (zW X.env scope.names []) [] X.env.qual none .none (some X.env)) (λ N8 s₄ =>
   codeAny (model X.prog X.w) X.A (.compStart (.ListComp E3 [⟨tg,iter,A5,0⟩] scope pos) 0 (.ref it) c7 { N8 with scope:=relabel scope X.env }) (compPost (model X.prog X.w) X.A X.xe none (EP X pins σ Q) c7 N8.locals) s₄) X.xe s₃) X.xe s2:=by
 refine Ub (wpAny_newFunctionEnv S.nocell (by intro y hy;simp at hy) (λ h₁ hns₁ O4₁=>?_) S.kind);dsimp only at hns₁ O4₁ ⊢;have hC:(s2.heap.push { cls:=.type "list",dict:=none,data:=.seq ([]:List Value).toArray }).objs.size=s2.heap.objs.size+1:=Jw _ _;rw[hC] at hns₁ O4₁ ⊢;have n8:∀ b ob,s2.heap.get? b=some ob->h₁.get? b=some ob:=λ b ob e =>
  (O4₁.2 b (Qt (Z0 (Qs e)))).trans (XG _ (XG _ e))
 have hD:∃ n,h₁.get? s2.heap.objs.size=some { cls:=.type "list",data:=.seq ([]:List Value).toArray n }:=
  ⟨_,(O4₁.2 _ (Qt (Uk _))).trans (XG _ (Yw _ rfl))⟩
 have V2:H2 s2.heap.objs.size=none:=I2.hok.fresh (Q9 _);obtain⟨W,⟨m0,w0⟩,turn⟩:=h _ V2;have dH:=(Wk 0).obj 0 s2.heap l8;have I4:=qgB S I2 C5 (λ b hb=>(dH b hb).imp λ _ q=>q.1) (hns:=hns₁) n8 hD (s2.toks+([]:List (Str×Value)).length);have mV:tn 0 h₁:=(Wk 0).keep _ _ _ l8 λ b _ ob e=>n8 b ob e
 have wJ:∀ b∈fp,upd H2 s2.heap.objs.size (.lst []) b=none:=λ b hb=>by
  obtain⟨ob,e,_⟩:=dH b hb;rw[qu (Qt (Qs e))];exact(C5 b hb).1
 have loop:codeAny (model X.prog X.w) X.A (.compLoop (.ListComp E3 [⟨tg,iter,A5,0⟩] scope pos) 0 (.ref it) (.ref s2.heap.objs.size) (compEnvC scope (zW X.env scope.names []) (s2.heap.objs.size+1) X.env))
   (compPost (model X.prog X.w) X.A X.xe none (EP X pins σ Q) (.ref s2.heap.objs.size) (s2.heap.objs.size+1)) { s2 with heap:=h₁,toks:=s2.toks+([]:List (Str×Value)).length }:=by
  have Wk:=Wk (s2.heap.objs.size+1);have ht:=ht (s2.heap.objs.size+1);have he:=he (s2.heap.objs.size+1);generalize hY:zt X NY scope (s2.heap.objs.size+1) s2 H2 fp pins=Y at Wk ht he I4;have fS:∀{H':Hp},(∀ b∈fp,H' b=none)->∀ b∈fp,jF Y [] H' b:=λ{H'} hn b hb=>by
   subst hY;obtain⟨ob,e,_⟩:=dH b hb;have k:=I4.ok.exf b hb;refine⟨hn b hb,k.1,I4.ok.exfs b hb,.inl hb,k.2,λ p hp=>?_⟩;have B8:p∈X.pn++pins:=by
    have:p∈(X.pn++pins)++[]:=hp
    simpa using this
   exact(C5 b hb).2.2.2.2.2 p B8
  refine vz (λ n s'=>∃ i ys H',Inv Y [] (stY o caps σ) H' s'/\tn i s'.heap/\(∀ b∈fp,H' b=none)/\W i n ys H') ?_ m0 ⟨0,[],_,I4,mV,wJ,w0⟩;rintro n s3 ⟨i,ys,H3,I3,K3,bS,w3⟩;have eE:Y.xe=λ _ _=>False:=by subst hY;rfl
  have wY:Y.prog=X.prog/\Y.w=X.w/\Y.A=X.A/\Y.env=compEnvC scope (zW X.env scope.names []) (s2.heap.objs.size+1) X.env:=by subst hY;exact⟨rfl,rfl,rfl,rfl⟩
  obtain⟨eP,ew,eA,ee⟩:=wY;rw[<- eP,<- ew,<- eA,<- ee,<- eE];rcases turn i n ys H3 w3 with⟨stp,qn⟩|av
  ·refine thn (Wk.done i [] s3 _ H3 I3 (fS bS) K3 stp) λ r s4 ⟨hr,I5⟩=>?_
   subst hr;obtain⟨m,hn,_⟩:=id I5.loc;have eC:Y.env.locals=s2.heap.objs.size+1:=by rw[ee];rfl
   rw[eC] at hn;refine⟨m,hn,λ h' hs=>?_⟩;have u:=I5.base;have eQ:=I5.hok;have B6:=I5.free;rw[eC] at B6;have S7:=I5.bare;have tS:=I5.os;subst hY;have u2:Un (frs X.stack) fp H2 H3 s2.heap h':=Un.but u hs (Vb _);have eR:HOk X.prog X.w H3 h':=HOk.but eQ hs B6;refine⟨.ref s2.heap.objs.size,H3,?_,rfl,qn⟩;obtain⟨hh,g,d,t,oB⟩:=s4;obtain rfl:oB=s2.os:=tS;exact Inv.call (s:=s2) (h':=h') (g':=g) (d':=d) (t':=t) (ch:=fp) I2 u2 eR S7 λ b hb=>⟨(C5 b hb).2.2.2.1,(C5 b hb).2.1,(C5 b hb).2.2.2.2.1,(C5 b hb).2.2.2.2.2⟩
  ·refine thn (Wk.item i [] s3 _ H3 _ I3 (fS bS) K3 av) λ r s4 ⟨u,hr,h4⟩=>?_
   subst hr;refine thn h4 λ _ s5 h5=>thn h5 λ _ s6 ⟨σ6,H6,I6,⟨kp,q6⟩,S0,wI⟩=>?_
   have xS:=I6.pinned (fp:=fp) (fS wI) (Wk.obj _ _ S0);refine thn (ht _ s6 σ6 H6 _ xS q6) λ b s7 ⟨H7,I7,q7⟩=>?_
   cases b with
   |false =>
    obtain⟨m',hm,w7⟩:=q7;obtain⟨J1,J2,J3⟩:=zJ (tg:=tg) (tn:=tn) (i:=i+1) (Wk.obj _ _ S0) (λ h' k=>Wk.keep _ _ _ S0 k) I7;exact⟨m',hm,i+1,ys,H7,J1.weak kp.2.symm kp.get,J2,J3,w7⟩
   |true =>
    refine thn (he _ s7 σ6 H7 _ I7 q7) λ y s8 ⟨yv,H8,I8,r8,uU,sZ,m',hm,w8⟩=>?_
    refine thn (zG (X:=Y) _ s8 σ6 H8 (.ref s2.heap.objs.size) [yv] _ _ (λ v H'=>v=.non/\H'=upd H8 s2.heap.objs.size (.lst (ys++[yv]))) I8 rfl (.cons r8 .nil) ⟨_,ys,yv,rfl,rfl,uU,sZ,rfl,rfl⟩) λ v s9 ⟨_,H9,I9,_,_,e9⟩=>?_
    subst e9;obtain⟨J1,J2,J3⟩:=zJ (tg:=tg) (tn:=tn) (i:=i+1) (Wk.obj _ _ S0) (λ h' k=>Wk.keep _ _ _ S0 k) I9;exact⟨m',hm,i+1,ys++[yv],_,J1.weak kp.2.symm kp.get,J2,J3,w8⟩
 exact XR loop ((Wk 0).self _ 0 _ _ _ mV loop)
def qkK(o:Nat)(caps:List Nat)(wi:TI)(g:TG)(tt:TT)(te:TE):TE:=λ σ H Q=>wi σ H λ J H1=>yY o caps (qeH J g) J.stop tt te σ H1 Q
theorem zq(S:CompScope X NY o caps scope)(hc:X.calm=true)(hi:PI X tg iter wi)(hg:∀ C s H fp pins,PG (zt X NY scope C s H fp pins) tg g)(ht:∀ C s H fp pins,PTs (zt X NY scope C s H fp pins) A5 tt)(he:∀ C s H fp pins,PE (zt X NY scope C s H fp pins) E3 te)(hs:∀ x,foldedSetIterable iter X.env x=pure x:=by intro _;rfl):PE X (.ListComp E3 [⟨tg,iter,A5,0⟩] scope pos) (qkK o caps wi g tt te):=by
 intro pins s σ H Q I h;rw[eval_ListComp];refine X4 (use:=none) (g:=⟨tg,iter,A5,0⟩) (gs:=[]) rfl hs (yl λ y hy e=>I.ok.has _ (S.frees y hy e)) S.kind S.locs ?_;show wpAny _ _ (eval iter X.env) _ _ s
 refine thn (hi pins s σ H _ I h) λ v s1 h1=>thn h1 λ gS s2 h2=>?_
 obtain⟨it,fp,tn,J,H2,e,I2,T,l8,f2,hr⟩:=h2;subst e;exact qdu S I2 f2 l8 (λ C=>Turn.walk (Y:=zt X NY scope C s2 H2 fp pins) hc T (hg _ _ _ _ _)) (λ C=>ht _ _ _ _ _) (λ C=>he _ _ _ _ _) hr
def qkL(o:Nat)(caps:List Nat)(wi:TI2)(n:Nat)(t:TGs)(tt:TT)(te:TE):TE:=λ σ H Q=>wi σ H λ J H1=>yY o caps (qhR J n t) J.stop tt te σ H1 Q
theorem qbD(S:CompScope X NY o caps scope)(hc:X.calm=true)(hi:PI2 X (.Tuple es k x8) iter wi)(hg:∀ C s H fp pins,PGs (zt X NY scope C s H fp pins) es t)(hn:∀ env,(assignEach es env).length=n)(L5:∀ env,(assignEach es env).findIdx? (·.1)=none)(ht:∀ C s H fp pins,PTs (zt X NY scope C s H fp pins) A5 tt)(he:∀ C s H fp pins,PE (zt X NY scope C s H fp pins) E3 te)(hs:∀ x,foldedSetIterable iter X.env x=pure x:=by intro _;rfl):PE X (.ListComp E3 [⟨.Tuple es k x8,iter,A5,0⟩] scope pos) (qkL o caps wi n t tt te):=by
 intro pins s σ H Q I h;rw[eval_ListComp];refine X4 (use:=none) (g:=⟨.Tuple es k x8,iter,A5,0⟩) (gs:=[]) rfl hs (yl λ y hy e=>I.ok.has _ (S.frees y hy e)) S.kind S.locs ?_;show wpAny _ _ (eval iter X.env) _ _ s
 refine thn (hi pins s σ H _ I h) λ v s1 h1=>thn h1 λ gS s2 h2=>?_
 obtain⟨it,fp,tn,J,H2,e,I2,T,l8,f2,hr⟩:=h2;subst e;exact qdu S I2 f2 l8 (λ C=>Turn2.walk (Y:=zt X NY scope C s2 H2 fp pins) hc T (hg _ _ _ _ _) (hn _) (L5 _)) (λ C=>ht _ _ _ _ _) (λ C=>he _ _ _ _ _) hr
end
noncomputable def ItV(n:Nat)(val:Nat->V):It:=⟨λ i _=>i<n,λ i H x H'=>H'=H/\x=val i,λ i _=>i=n⟩
theorem qa1{K:W.Frag}{St:Nat->Heap->Prop}(val:Nat->V)(W:∀ A:Around,A.handled=none->Walks P w A it [it] [it] n Pv St)(hv:∀ i v,Pv i v->qV (val i) v)(ob:∀ i h,St i h->∃ o nm vs,h.get? it=some o/\o.cls=.type nm/\o.data=.fields vs/\["enumerate","zip","dict_itemiterator","dict_reverseitemiterator","odict_iterator","itertools.zip_longest","itertools.pairwise"].contains nm=false)(self:∀(A:Around)(i:Nat)(s:Shared)(Q:Value->Shared->Prop)(E:Value->Shared->Prop),St i s.heap->Q (.ref it) s->wpAny (model P w) A (pyIter (.ref it)) Q E s):
  Turn P w K tg (ItV n val) [it] it St where
 mem:=by simp
 obj:=λ i h st b hb=>by
  have e:b=it:=by simpa using hb
  subst e;obtain⟨o,nm,vs,e,_,d,_⟩:=ob i h st;exact⟨o,e,λ v z=>by rw[d] at z;cases z⟩
 keep:=λ i h h' st k=>by
  have ha:callerA.handled=none:=rfl;exact(W callerA ha).frame i h h' st k
 item:=by
  intro X hP hw hK hc i pins s σ H E I hf st hg;subst hP hw hK;obtain⟨f0,f1,f2,f3,f4,f5⟩:=hf it (by simp);refine(W X.A (I.ok.hd hc)).item i s _ _ hg st λ v h' tk dZ c5 kk=>?_
  have I1:Inv X pins σ H { s with heap:=h',toks:=tk }:=I.turned (λ b o hb e=>kk b o (by simpa using hb) e) f0 f1 f3 f4 f5;obtain⟨o,nm,vs,e,c,d,nn⟩:=ob _ _ c5;exact⟨_,rfl,qiK (s:={ s with heap:=h',toks:=tk }) e c d nn ⟨val i,H,I1,hv i v dZ,⟨rfl,rfl⟩,c5,λ b hb=>(hf b hb).1⟩⟩
 done:=by
  intro X hP hw hK hc i pins s σ H E I hf st hg;subst hP hw hK;obtain⟨f0,f1,f2,f3,f4,f5⟩:=hf it (by simp);have hg:i=n:=hg;subst hg;exact(W X.A (I.ok.hd hc)).done s _ _ st λ h' tk kk=>⟨rfl,I.turned (λ b o hb e=>kk b o (by simpa using hb) e) f0 f1 f3 f4 f5⟩
 self:=self
theorem qcT{g:TG}{tb:TS}{D:Ends}(Pv:Nat->St->Hp->Prop)(h0:Pv 0 σ H)(hs:∀ i σ H,i<n->Pv i σ H->g (val i) σ H λ σ2 H2=>tb { D with nx:=Pv (i+1),ct:=Pv (i+1),bk:=D.nx } σ2 H2)(hd:∀ σ H,Pv n σ H->D.nx σ H):
  ∃ W:Nat->Nat->St->Hp->Prop,(∃ m,W 0 m σ H)/\∀ i m σ H,W i m σ H ->
   ((ItV n val).stop i H/\D.nx σ H)∨((ItV n val).go i H/\∃ N:St->Hp->Prop,(∀ σ' H',N σ' H'->∃ m',m'<m/\W (i+1) m' σ' H')/\∀ x H',(ItV n val).yld i H x H'->g x σ H' λ σ2 H2=>tb { D with nx:=N,ct:=N,bk:=D.nx } σ2 H2):=by
 refine⟨λ i m σ H=>m=n-i/\i<=n/\Pv i σ H,⟨n,by simp,Va _,h0⟩,?_⟩;rintro i m σ H ⟨rfl,hi,p⟩;by_cases c9:i<n
 ·refine .inr ⟨c9,Pv (i+1),λ σ' H' p'=>⟨n-(i+1),by omega,rfl,c9,p'⟩,λ x H' y=>?_⟩;obtain⟨e,y⟩:=y;subst e y;exact hs i σ _ c9 p
 ·have e:i=n:=by omega
  subst e;exact .inl ⟨rfl,hd σ H p⟩
noncomputable def sgn(z:Str)(i:Nat):V:=.str ⟨#[z.cps.getD i 0]⟩
theorem qhS(h:SignAt z i v):qV (sgn z i) v:=by
 obtain⟨c,u,e,rfl⟩:=h;refine⟨u,?_⟩
 have:z.cps.getD i 0=c:=by rw[Xf,e];rfl
 rw[this]
def qqF(te:TE):TI:=λ σ H R=>te σ H λ x H1=>∃ z,x=.str z/\R (ItV z.cps.size (sgn z)) H1
theorem vA(he:PE X e te):PI X tg e (qqF te):=by
 intro pins s σ H R I h;refine thn (he pins s σ H _ I h) λ v s1 ⟨x,H1,I1,r1,z,ez,q⟩=>?_
 subst ez;obtain⟨t,rfl⟩:=r1;cases ha:z.cps.all (·<128) with
 |false =>
  refine wpAny_pyIter_wide ha ⟨s1.heap.objs.size,[s1.heap.objs.size],_,_,H1,rfl,I1.kept (t':=s1.toks) λ b o e=>XG _ e,
   qa1 (sgn z) (λ A hA=>Walks.strWide hA _ z t) (λ i v=>qhS) (λ i h st=>?_) (λ _ _ _ _ _ st h=>wpAny_pyIter_striter_wide st h),⟨_,Yw _ rfl,rfl,rfl⟩,λ b hb=>?_,q⟩
  ·obtain⟨o,e,c,d⟩:=st;exact⟨o,_,_,e,c,d,by decide⟩
  ·have e:b=s1.heap.objs.size:=by simpa using hb
   subst e;exact I1.fpOk (Q9 _) (I1.hok.fresh (Q9 _))
 |true =>
  refine wpAny_pyIter_ascii ha ⟨s1.heap.objs.size,[s1.heap.objs.size],_,_,H1,rfl,I1.kept (t':=s1.toks) λ b o e=>XG _ e,
   qa1 (sgn z) (λ A hA=>Walks.strAscii hA _ z t) (λ i v=>qhS) (λ i h st=>?_) (λ _ _ _ _ _ st h=>wpAny_pyIter_striter_ascii st h),⟨_,Yw _ rfl,rfl,rfl⟩,λ b hb=>?_,q⟩
  ·obtain⟨o,e,c,d⟩:=st;exact⟨o,_,_,e,c,d,by decide⟩
  ·have e:b=s1.heap.objs.size:=by simpa using hb
   subst e;exact I1.fpOk (Q9 _) (I1.hok.fresh (Q9 _))
theorem qdv(hg:Gl X x)(hm:X.mg x=none)(hv:bootBuiltins x=some (.type T))(ha:PA X [a] ta)(I:Inv X pins σ H s)(h:ta σ H R)(hk:∀ us s1 vs H1,Inv X pins σ H1 s1->qL vs us->R vs H1->wpAny (model X.prog X.w) X.A (call (.type T) us) Q X.xe s1)(hn:x≠"__name__":=by decide)(hd:(x == ("__debug__":Str))=false:=by decide)(hs:starEach [a] X.env=[(false,eval a X.env)]:=by rfl):wpAny (model X.prog X.w) X.A (eval (.Call (.Name x p) [a] [] pos) X.env) Q X.xe s:=by
 refine Call_ (qc8 I hg hm hv (Xe (thn (ha pos pins s σ H _ I h) λ us s1 ⟨vs,H1,I1,r1,q1⟩=>hk us s1 vs H1 I1 r1 q1) hs rfl) hn hd)
noncomputable def qoo(K:W.Frag)(a:Addr):It2:=
 ⟨λ i H=>∃ xs x,SqL K H a xs/\xs[i]?=some x,λ i H ys H'=>H'=H/\∃ x,ys=[.int i,x]/\∀ xs,SqL K H a xs->xs[i]?=some x,λ i H=>∃ xs,SqL K H a xs/\xs.length<=i⟩
def qop(e it a:Addr)(i:Nat)(h:Heap):Prop:=(∃ S2,IsEnum h e it i S2)/\h.IsListIter it a i
theorem qjF{K:W.Frag}(a e it:Addr)(K6:e≠it):Turn2 P w K (.Tuple es k pos) (qoo K a) [e,it] e (qop e it a) where
 obj:=λ i h st b hb=>by
  obtain⟨⟨S2,he⟩,o,ho,c,d⟩:=st;have hb:b=e∨b=it:=by simpa using hb
  rcases hb with z|z
  ·subst z;exact⟨_,he,λ v q=>by cases q⟩
  ·subst z;exact⟨o,ho,λ v q=>by rw[d] at q;cases q⟩
 keep:=λ i h h' st k=>by
  obtain⟨⟨S2,he⟩,o6⟩:=st;exact⟨⟨S2,k e (by simp) _ he⟩,o6.at λ o q=>k it (by simp) o q⟩
 item:=by
  intro X hP hw hK hc i pins s σ H E I hf st hg;subst hP hw hK;obtain⟨xs,x,hq,hx⟩:=hg;obtain⟨its,rv,p,hz⟩:=I.list hq;obtain⟨u,hu,ru⟩:=rv.get hx;obtain⟨⟨S2,he⟩,o6⟩:=st;have fe:=hf e (by simp);have fi:=hf it (by simp);refine wpAny_pyNext_enum_item he o6 p.isList (x:=u) (by simpa using hu) K6 λ h' cR L8 ht hsz hk=>?_
  refine⟨s.heap.objs.size,rfl,wpAny_letOwnedTupleGo_enum cR λ h2 uF w4=>?_⟩;replace w4:Heap.SameBut e h' h2:=w4;have eY:e<s.heap.objs.size:=Qs he;have k2:∀ b o,b≠e->b≠it->s.heap.get? b=some o->h2.get? b=some o:=λ b o h1 h3 q=>w4.extBut b o h1 (hk b o h1 h3 q)
  have I1:Inv X pins σ H { s with heap:=h2,toks:=s.toks+1 }:=by
   refine I.step (g':=s.gens) (d':=s.drawn) (ch:=[e,it]) (λ b hb=>?_) (λ b o _ _ i9 q _=>k2 b o (λ z=>i9 (by simp[z])) (λ z=>i9 (by simp[z])) q)
    (λ b o _ _ i9 q _=>⟨o.slots,k2 b o (λ z=>i9 (by simp[z])) (λ z=>i9 (by simp[z])) q⟩) (λ _ _ _ _ n=>n) (λ b o i9 q=>⟨o,k2 b o (λ z=>i9 (by simp[z])) (λ z=>i9 (by simp[z])) q⟩)
    (λ _ _ q=>q) (λ _ _ _ q=>q) (λ b ps q=>⟨#[],by rw[q];simp⟩) (λ m hm=>?_) (λ b u q=>?_) I.bare
   ·have hb:b=e∨b=it:=by simpa using hb
    rcases hb with z|z
    ·subst z;exact⟨fe.2.2.2.1,fe.2.1,fe.2.2.2.2.1,fe.2.2.2.2.2⟩
    ·subst z;exact⟨fi.2.2.2.1,fi.2.1,fi.2.2.2.2.1,fi.2.2.2.2.2⟩
   ·obtain⟨o,x9,ep,ho,r⟩:=hm;exact⟨o,x9,ep,k2 _ o (Vu fe.2.1) (Vu fi.2.1) ho,r⟩
   ·refine(I.hok b u q).stay (λ c v i9 z=>k2 c v (λ y=>?_) (λ y=>?_) z) (λ _ z=>z) λ _ _ z=>z
    ·rcases i9 with y' | y'
     ·rw[<- y',y,fe.1] at q;cases q
     ·rw[y,fe.1] at y';cases y'
    ·rcases i9 with y' | y'
     ·rw[<- y',y,fi.1] at q;cases q
     ·rw[y,fi.1] at y';cases y'
  refine⟨[.int i,x],[.int i s.toks,u],H,I1,⟨_,(w4.extBut _ _ (Qw eY) ht),rfl,_,rfl⟩,.cons ⟨_,rfl⟩ (.cons ru .nil),⟨rfl,x,rfl,λ ys hy=>by rw[I.list_inj hy hq];exact hx⟩,⟨⟨u,?_⟩,L8.extBut w4.extBut (Vu K6)⟩,λ b hb=>(hf b hb).1⟩
  ·have:((i:Int)+1)=((i+1:Nat):Int):=by omega
   rw[<- this];exact uF
 done:=by
  intro X hP hw hK hc i pins s σ H E I hf st hg;subst hP hw hK;obtain⟨xs,hq,hx⟩:=hg;obtain⟨its,rv,p,hz⟩:=I.list hq;obtain⟨⟨S2,he⟩,o6⟩:=st;obtain⟨f0,f1,f2,f3,f4,f5⟩:=hf it (by simp);have hl:=rv.length;exact wpAny_pyNext_enum_end (I.ok.hd hc) he o6 p.isList (by simp;omega) λ h' eb=>⟨rfl,I.turned (t':=s.toks) (λ b o hb e=>eb b o hb e) f0 f1 f3 f4 f5⟩
 self:=λ A i s Q E st h=>by
  obtain⟨⟨S2,he⟩,o6⟩:=st;exact Uc he h
def qpy(K:W.Frag)(ta:TA):TI2:=λ σ H R=>ta σ H λ vs H1=>∃ a,vs=[.ref a]/\(∃ xs,SqL K H1 a xs)/\R (qoo K a) H1
theorem qmJ(hg:Gl X "enumerate")(hm:X.mg "enumerate"=none)(ha:PA X [l] ta)(hs:starEach [l] X.env=[(false,eval l X.env)]:=by rfl):
  PI2 X (.Tuple es k x8) (.Call (.Name "enumerate" p) [l] [] pos) (qpy X.K ta):=by
 intro pins s σ H R I h;refine qdv (R:=λ vs H1=>∃ a,vs=[.ref a]/\(∃ xs,SqL X.K H1 a xs)/\R (qoo X.K a) H1) hg hm boot_enumerate ha I h (λ us s1 vs H1 I1 r1 q1=>?_) (hs:=hs);obtain⟨a,e,⟨xs,hq⟩,q⟩:=q1;subst e;obtain⟨u,rfl,ru⟩:=yk r1;cases ru
 obtain⟨its,rv,pl,hz⟩:=I1.list hq;refine call_enumerate_list pl.isList λ h' he o6 hsz hk=>Uc he ?_
 refine⟨s1.heap.objs.size+1,[s1.heap.objs.size+1,s1.heap.objs.size],_,_,H1,rfl,I1.kept (t':=s1.toks) hk,qjF a _ _ (Ur _),⟨⟨_,he⟩,o6⟩,λ b hb=>?_,q⟩;have hb:b=s1.heap.objs.size+1∨b=s1.heap.objs.size:=by simpa using hb
 rcases hb with z|z
 ·subst z;exact I1.fpOk (Vb _) (I1.hok.fresh (Vb _))
 ·subst z;exact I1.fpOk (Q9 _) (I1.hok.fresh (Q9 _))
noncomputable def ItZ(K:W.Frag)(a b:Addr):It2:=
 ⟨λ i H=>∃ xs ys x y,SqL K H a xs/\SqL K H b ys/\xs[i]?=some x/\ys[i]?=some y,λ i H zs H'=>H'=H/\∃ x y,zs=[x,y]/\(∀ xs,SqL K H a xs->xs[i]?=some x)/\(∀ ys,SqL K H b ys->ys[i]?=some y),
  λ i H=>∃ xs ys,SqL K H a xs/\SqL K H b ys/\(xs.length<=i∨ys.length<=i)⟩
def qpz(z TI TO i1 i2 a b:Addr)(i:Nat)(h:Heap):Prop:=IsZip h z TI TO .none/\IsPair h TI (.ref i1) (.ref i2)/\(∃ c d,IsPair h TO c d)/\h.IsListIter i1 a i/\h.IsListIter i2 b i
theorem qkM{K:W.Frag} {TI TO:Addr}(D:ZipApart z TI TO i1 i2 a b):
  Turn2 P w K (.Tuple es k pos) (ItZ K a b) [z,TI,TO,i1,i2] z (qpz z TI TO i1 i2 a b) where
 obj:=λ i h st c hc=>by
  obtain⟨hz,hW,⟨c1,d1,lH⟩,⟨o1,V1,cc1,dd1⟩,⟨o2,W4,cc2,rV⟩⟩:=st;have hc:c=z∨c=TI∨c=TO∨c=i1∨c=i2:=by simpa using hc
  rcases hc with e|e|e|e|e
  ·subst e;exact⟨_,hz,λ v q=>by cases q⟩
  ·subst e;exact⟨_,hW,λ v q=>by cases q⟩
  ·subst e;exact⟨_,lH,λ v q=>by cases q⟩
  ·subst e;exact⟨o1,V1,λ v q=>by rw[dd1] at q;cases q⟩
  ·subst e;exact⟨o2,W4,λ v q=>by rw[rV] at q;cases q⟩
 keep:=λ i h h' st k=>by
  obtain⟨hz,hW,⟨c1,d1,lH⟩,h1,h2⟩:=st;exact⟨k z (by simp) _ hz,k TI (by simp) _ hW,⟨c1,d1,k TO (by simp) _ lH⟩,h1.at λ o q=>k i1 (by simp) o q,h2.at λ o q=>k i2 (by simp) o q⟩
 item:=by
  intro X hP hw hK hc i pins s σ H E I hf st hg;subst hP hw hK;obtain⟨xs,ys,x,y,iT,eL,hx,hy⟩:=hg;obtain⟨sV,rv1,p1,hz1⟩:=I.list iT;obtain⟨C4,rv2,p2,hz2⟩:=I.list eL;obtain⟨u1,K4,ru1⟩:=rv1.get hx;obtain⟨u2,hu2,ru2⟩:=rv2.get hy;obtain⟨hz,hW,⟨c1,d1,lH⟩,h1,h2⟩:=st;refine wpAny_pyNext_zip_item D hz hW lH h1 h2 p1.isList p2.isList (x:=u1) (y:=u2) (by simpa using K4) (by simpa using hu2) λ h' hz' hTO' h1' uW hp hsz hk=>?_
  refine⟨s.heap.objs.size,rfl,wpAny_letOwnedTupleGo_zip hz' λ uW hz2' w4=>?_⟩;rename_i g2';replace w4:Heap.SameBut z h' uW:=w4;have hzl:z<s.heap.objs.size:=Qs hz;have k2:∀ c o,c≠z->c≠TO->c≠i1->c≠i2->s.heap.get? c=some o->uW.get? c=some o:=λ c o a1 a2 a3 a4 q=>w4.extBut c o a1 (hk c o a1 a2 a3 a4 q)
  have fz:=hf z (by simp);have fO:=hf TO (by simp);have f1:=hf i1 (by simp);have f2:=hf i2 (by simp);have nn:∀ c,c∉[z,TO,i1,i2]->c≠z/\c≠TO/\c≠i1/\c≠i2:=λ c i9=>by simpa using i9
  have I1:Inv X pins σ H { s with heap:=uW }:=by
   refine I.step (g':=s.gens) (d':=s.drawn) (t':=s.toks) (ch:=[z,TO,i1,i2]) (λ c i9=>?_) (λ c o _ _ i9 q _=>k2 c o (nn c i9).1 (nn c i9).2.1 (nn c i9).2.2.1 (nn c i9).2.2.2 q)
    (λ c o _ _ i9 q _=>⟨o.slots,k2 c o (nn c i9).1 (nn c i9).2.1 (nn c i9).2.2.1 (nn c i9).2.2.2 q⟩) (λ _ _ _ _ n=>n) (λ c o i9 q=>⟨o,k2 c o (nn c i9).1 (nn c i9).2.1 (nn c i9).2.2.1 (nn c i9).2.2.2 q⟩)
    (λ _ _ q=>q) (λ _ _ _ q=>q) (λ c ps q=>⟨#[],by rw[q];simp⟩) (λ m hm=>?_) (λ c u q=>?_) I.bare
   ·have:jF X pins H c:=by
     have i9:c=z∨c=TO∨c=i1∨c=i2:=by simpa using i9
     rcases i9 with e|e|e|e <;> subst e <;> assumption
    exact⟨this.2.2.2.1,this.2.1,this.2.2.2.2.1,this.2.2.2.2.2⟩
   ·obtain⟨o,x9,ep,ho,r⟩:=hm;exact⟨o,x9,ep,k2 _ o (Vu fz.2.1) (Vu fO.2.1) (Vu f1.2.1) (Vu f2.2.1) ho,r⟩
   ·have no:∀ b',H b'=none->∀ c',(c'=c∨H c'=some (.own c))->c'≠b':=λ b' uL c' N3 e=>by
     subst e;rcases N3 with e|e
     ·subst e;rw[uL] at q;cases q
     ·rw[uL] at e;cases e
    exact(I.hok c u q).stay (λ c' v i9 r=>k2 c' v (no z fz.1 c' i9) (no TO fO.1 c' i9) (no i1 f1.1 c' i9) (no i2 f2.1 c' i9) r) (λ _ r=>r) λ _ _ r=>r
  have hpt:IsPair uW s.heap.objs.size u1 u2:=w4.extBut _ _ (Qw hzl) hp;refine⟨[x,y],[u1,u2],H,I1,⟨_,hpt,rfl,_,rfl⟩,.cons ru1 (.cons ru2 .nil),⟨rfl,x,y,rfl,λ ws hw=>by rw[I.list_inj hw iT];exact hx,λ ws hw=>by rw[I.list_inj hw eL];exact hy⟩,?_,λ c i9=>(hf c i9).1⟩;refine⟨hz2',w4.extBut _ _ D.TIz (hk _ _ D.TIz D.TITO D.TIi1 D.TIi2 hW),⟨_,_,w4.extBut _ _ D.TOz hTO'⟩,h1'.extBut w4.extBut D.i1z,g2'.extBut w4.extBut D.i2z⟩
 done:=by
  intro X hP hw hK hc i pins s σ H E I hf st hg;subst hP hw hK;obtain⟨xs,ys,iT,eL,hx⟩:=hg;obtain⟨sV,rv1,p1,hz1⟩:=I.list iT;obtain⟨C4,rv2,p2,hz2⟩:=I.list eL;obtain⟨hz,hW,⟨c1,d1,lH⟩,h1,h2⟩:=st;have nH:=rv1.length;have W5:=rv2.length;have fz:=hf z (by simp);have fO:=hf TO (by simp);have f1:=hf i1 (by simp);have f2:=hf i2 (by simp);have nn:∀ c,c∉[z,TO,i1,i2]->c≠z/\c≠TO/\c≠i1/\c≠i2:=λ c i9=>by simpa using i9
  refine wpAny_pyNext_zip_end (I.ok.hd hc) D hz hW lH h1 h2 p1.isList p2.isList (by rcases hx with q|q;left;simp;omega;right;simp;omega) λ h' k2=>⟨rfl,?_⟩
  refine I.step (g':=s.gens) (d':=s.drawn) (t':=s.toks) (ch:=[z,TO,i1,i2]) (λ c i9=>?_) (λ c o _ _ i9 q _=>k2 c o (nn c i9).1 (nn c i9).2.1 (nn c i9).2.2.1 (nn c i9).2.2.2 q)
   (λ c o _ _ i9 q _=>⟨o.slots,k2 c o (nn c i9).1 (nn c i9).2.1 (nn c i9).2.2.1 (nn c i9).2.2.2 q⟩) (λ _ _ _ _ n=>n) (λ c o i9 q=>⟨o,k2 c o (nn c i9).1 (nn c i9).2.1 (nn c i9).2.2.1 (nn c i9).2.2.2 q⟩)
   (λ _ _ q=>q) (λ _ _ _ q=>q) (λ c ps q=>⟨#[],by rw[q];simp⟩) (λ m hm=>?_) (λ c u q=>?_) I.bare
  ·have:jF X pins H c:=by
    have i9:c=z∨c=TO∨c=i1∨c=i2:=by simpa using i9
    rcases i9 with e|e|e|e <;> subst e <;> assumption
   exact⟨this.2.2.2.1,this.2.1,this.2.2.2.2.1,this.2.2.2.2.2⟩
  ·obtain⟨o,x9,ep,ho,r⟩:=hm;exact⟨o,x9,ep,k2 _ o (Vu fz.2.1) (Vu fO.2.1) (Vu f1.2.1) (Vu f2.2.1) ho,r⟩
  ·have no:∀ b',H b'=none->∀ c',(c'=c∨H c'=some (.own c))->c'≠b':=λ b' uL c' N3 e=>by
    subst e;rcases N3 with e|e
    ·subst e;rw[uL] at q;cases q
    ·rw[uL] at e;cases e
   exact(I.hok c u q).stay (λ c' v i9 r=>k2 c' v (no z fz.1 c' i9) (no TO fO.1 c' i9) (no i1 f1.1 c' i9) (no i2 f2.1 c' i9) r) (λ _ r=>r) λ _ _ r=>r
 self:=λ A i s Q E st h=>wpAny_pyIter_zip st.1 h
def qqG(K:W.Frag)(ta:TA):TI2:=λ σ H R=>ta σ H λ vs H1=>∃ a b,vs=[.ref a,.ref b]/\(∃ xs,SqL K H1 a xs)/\(∃ ys,SqL K H1 b ys)/\R (ItZ K a b) H1
theorem qft(hg:Gl X "zip")(hm:X.mg "zip"=none)(ha:PA X [l1,l2] ta)(hs:starEach [l1,l2] X.env=[(false,eval l1 X.env),(false,eval l2 X.env)]:=by rfl)(w4:starEach [l2] X.env=[(false,eval l2 X.env)]:=by rfl):
  PI2 X (.Tuple es k x8) (.Call (.Name "zip" p) [l1,l2] [] pos) (qqG X.K ta):=by
 intro pins s σ H R I h;refine Call_ (qc8 I hg hm boot_zip (Xe (thn (ha pos pins s σ H _ I h) λ us s1 ⟨vs,H1,I1,r1,q1⟩=>?_) (by rw[hs,w4]) (by rw[w4];rfl)));obtain⟨a,b,e,⟨xs,iT⟩,⟨ys,eL⟩,q⟩:=q1;subst e;obtain⟨u1,u2,rfl,ru1,ru2⟩:=qiO r1;cases ru1
 cases ru2
 obtain⟨sV,rv1,p1,hz1⟩:=I1.list iT;obtain⟨C4,rv2,p2,hz2⟩:=I1.list eL;have a1:a<s1.heap.objs.size:=by obtain⟨_,e,_⟩:=p1.isList;exact Qs e
 have a2:b<s1.heap.objs.size:=by obtain⟨_,e,_⟩:=p2.isList;exact Qs e
 refine call_zip_2 p1.isList p2.isList λ h' hz hW lH hi1 hi2 hsz hk=>wpAny_pyIter_zip hz ?_
 refine⟨s1.heap.objs.size+4,[s1.heap.objs.size+4,s1.heap.objs.size+2,s1.heap.objs.size+3,s1.heap.objs.size,s1.heap.objs.size+1],_,_,H1,rfl,I1.kept (t':=s1.toks) hk,qkM (zipApart_new a1 a2),⟨hz,hW,⟨_,_,lH⟩,hi1,hi2⟩,λ c hc=>?_,q⟩;have hc:c=s1.heap.objs.size+4∨c=s1.heap.objs.size+2∨c=s1.heap.objs.size+3∨c=s1.heap.objs.size∨c=s1.heap.objs.size+1:=by simpa using hc
 have K7:s1.heap.objs.size<=c:=by rcases hc with e|e|e|e|e <;> rw[e] <;> omega
 exact I1.fpOk K7 (I1.hok.fresh K7)
noncomputable abbrev cs(z:Str):List Nat:=z.cps.toList
noncomputable def qj(l:List Nat):Str:=⟨l.toArray⟩
theorem qeI(z:Str):qj (cs z)=z:=rfl
theorem qfu(h:cs a=cs b):a=b:=by rw[<- qeI a,<- qeI b,h]
noncomputable abbrev vS(l:List Nat):V:=.str (qj l)
theorem qhT(h:vS a=vS b):a=b:=by
 injection h with h
 have:=congrArg cs h
 exact this
theorem vB:∀{ss:List Str}{us:List Value},qL (ss.map V.str) us->StrsAre us ss
 | [],_,r=>by cases r;exact .nil
 |x::ss,_,r=>by
  rw[Qe] at r;cases r with
  |cons h t =>
   obtain⟨t',rfl⟩:=h;exact .cons _ _ (vB t)
theorem vC:∀{ss:List Str}{us:List Value},StrsAre us ss->qL (ss.map V.str) us
 |_,_,.nil=>.nil
 |_,_,.cons x t h=>.cons ⟨t,rfl⟩ (vC h)
section
variable {X:Cx}
def qpA(K:W.Frag):V->List V->Hp->VK->Prop:=λ x vs H Q=>∃ z p ss,x=.str z/\vs=[.ref p]/\(SqL K H p (ss.map V.str)∨SqT K H p (ss.map V.str))/\(ss.map (·.length)).sum+ss.length*z.length<=16777216/\Q (.str (Txt.join z ss)) H
theorem vD:MtR X "str.join" (qpA X.K):=by
 intro pins s σ H x vs v us Q I rx rv h;obtain⟨z,p,ss,rfl,rfl,hq,hz,q⟩:=h;obtain⟨t,rfl⟩:=rx;obtain⟨u,rfl,ru⟩:=yk rv;cases ru
 rcases hq with hq|hq
 ·obtain⟨its,r,pl,_⟩:=I.list hq;exact join_list pl.isList (vB (by simpa using r)) hz λ t' k=>⟨.str (Txt.join z ss),H,I.tok _,⟨_,rfl⟩,q⟩
 ·obtain⟨its,r,pl,_⟩:=I.tuple hq;exact join_tuple pl (vB (by simpa using r)) hz λ t' k=>⟨.str (Txt.join z ss),H,I.tok _,⟨_,rfl⟩,q⟩
noncomputable def qbE(ss:List Str):List Str:=(Fs.srt (ss.map cs)).map qj
theorem qjG(a b:List Nat):ltCps a b=decide (a<b):=ltCps_eq a b
theorem qfv(hp:K1.Perm ss)(hs:sortedS K1=true):K1=qbE ss:=by
 have key:∀(p:Str)(l:List Str),risingS p l=true->(∀ x∈l,¬ cs x<cs p)/\(l.map cs).Pairwise (λ x y=>¬ y<x):=by
  intro p l;induction l generalizing p with
  |nil=>intro _;exact⟨by simp,by simp⟩
  |cons a l ih =>
   intro h;simp only[risingS,Uo,Bool.not_eq_true'] at h;obtain⟨h1,h2⟩:=h;have ha:¬ cs a<cs p:=by
    have:=h1
    rw[qjG] at this;exact Zq this
   obtain⟨i1,i2⟩:=ih a h2;refine⟨λ x hx=>?_,?_⟩
   ·rcases Qd.mp hx with e | e
    ·rw[e];exact ha
    ·intro c9
     have:=i1 x e
     by_cases hpa:cs p<cs a
     ·exact this (List.lt_trans c9 hpa)
     ·have e':=Fs.plt_total hpa ha;rw[e'] at c9;exact this c9
   ·rw[Qe];exact Zg.mpr ⟨λ y hy=>by
     obtain⟨x,hx,rfl⟩:=Qz.mp hy;exact i1 x hx,i2⟩
 have hpw:(K1.map cs).Pairwise (λ x y=>¬ y<x):=by
  cases K1 with
  |nil=>simp
  |cons a l =>
   have h:risingS a l=true:=hs;obtain⟨i1,i2⟩:=key a l h;rw[Qe];exact Zg.mpr ⟨λ y hy=>by
    obtain⟨x,hx,rfl⟩:=Qz.mp hy;exact i1 x hx,i2⟩
 have e:=Fs.srt_of (hp.map cs) hpw;unfold qbE;rw[<- e,Q1]
 have:qj ∘ cs=id:=funext λ z=>qeI z
 rw[this,List.map_id]
structure Kind{α:Type}(f:α->V):Prop where
 flat:∀ a,qaO (f a)=true
 eq:∀ a b,eqV (f a) (f b)=true ↔ a=b
theorem qdw:Kind V.str:=⟨λ _=>rfl,λ a b=>by show(a == b)=true ↔ a=b;exact Vj⟩
theorem qgC:Kind V.int:=⟨λ _=>rfl,λ a b=>by show(a == b)=true ↔ a=b;exact Vj⟩
noncomputable def qcw{α:Type}(f:α->V)(as bs:List α)(j:Nat):Bool:=match as[j]?,bs[j]? with
 |some a,some b=>eqV (f a) (f b)
 |_,_=>true
theorem qb9{α:Type}[DecidableEq α]{f:α->V}(k:Kind f):∀(as bs:List α),((List.range (min as.length bs.length)).all (qcw f as bs) && as.length == bs.length)=decide (as=bs):=by
 intro as bs;rw[U4,Uo,Zr,Up];constructor
 ·rintro⟨h1,h2⟩;have hl:as.length=bs.length:=by simpa using h2
  refine List.ext_getElem? λ j=>?_
  by_cases hj:j<as.length
  ·have:=h1 j (by rw[Ju];omega)
   have ea:as[j]?=some as[j]:=Xy hj;have eb:bs[j]?=some (bs[j]'(by omega)):=Xy (by omega);unfold qcw at this;rw[ea,eb] at this;rw[ea,eb,(k.eq _ _).mp this]
  ·rw[Yb (by omega),Yb (by omega)]
 ·rintro rfl;refine⟨λ j hj=>?_,by simp⟩;unfold qcw;cases e:as[j]? with
  |none=>rfl
  |some a=>exact(k.eq a a).mpr rfl
theorem qdx{f:α->V}(k:Kind f){as bs:List α}(ra:qL (as.map f) us)(rb:qL (bs.map f) vs)(j:Nat)(h1:j<us.toArray.size)(h2:j<vs.toArray.size):
  SeqAt.EqAt A s us.toArray[j] vs.toArray[j] (qcw f as bs j):=by
 have l1:=ra.length;have l2:=rb.length;rw[U5] at l1 l2;rw[Zu] at h1 h2;have ea:as[j]?=some (as[j]'(by omega)):=Xy (by omega);have eb:bs[j]?=some (bs[j]'(by omega)):=Xy (by omega);obtain⟨u,hu,ru⟩:=ra.get (i:=j) (x:=f (as[j]'(by omega))) (by rw[Zt,ea];rfl);obtain⟨v,hv,rv⟩:=rb.get (i:=j) (x:=f (bs[j]'(by omega))) (by rw[Zt,eb];rfl);have hu':us.toArray[j]=u:=by
  have:us[j]?=some us[j]:=Xy h1
  rw[hu] at this;simpa using(Option.some.inj this).symm
 have dZ:vs.toArray[j]=v:=by
  have:vs[j]?=some vs[j]:=Xy h2
  rw[hv] at this;simpa using(Option.some.inj this).symm
 rw[hu',dZ];unfold qcw;rw[ea,eb];exact qkF ru rv (k.flat _) (k.flat _)
def qpB{α:Type}[DecidableEq α](K:W.Frag)(f:α->V)(neg:Bool):R2:=λ x y H Q=>∃(a b:Addr)(as bs:List α),x=.ref a/\y=.ref b/\((SqT K H a (as.map f)/\SqT K H b (bs.map f))∨(SqL K H a (as.map f)/\SqL K H b (bs.map f)))/\Q (.bl (if neg then !decide (as=bs) else decide (as=bs))) H
theorem qfw{α:Type}[DecidableEq α]{f:α->V}(k:Kind f)(hu:X.A.units<cLine):OpR X (compareOp .NotEq) (qpB X.K f true):=by
 intro pins s σ H x y v u Q I rx ry h;obtain⟨a,b,as,bs,rfl,rfl,hq,q⟩:=h;cases rx
 cases ry
 have q:Q (.bl (!decide (as=bs))) H:=q;rcases hq with⟨h1,h2⟩|⟨h1,h2⟩
 ·obtain⟨its,r1,p1,_⟩:=I.tuple h1;obtain⟨C4,r2,p2,_⟩:=I.tuple h2;have l1:=r1.length;have l2:=r2.length;rw[U5] at l1 l2;refine SeqAt.RcNeAt.tuples (A:=X.A) (s:=s) (e:=qcw f as bs) (show s.heap.IsTuple a its.toArray from p1) (show s.heap.IsTuple b C4.toArray from p2) hu (λ j h1 h2=>qdx k r1 r2 j h1 h2) X.prog X.w X.xe _ ⟨.bl (!decide (as=bs)),H,I,?_,q⟩;rw[Zu,Zu,<- l1,<- l2,qb9 k];rfl
 ·obtain⟨its,r1,p1,_⟩:=I.list h1;obtain⟨C4,r2,p2,_⟩:=I.list h2;have l1:=r1.length;have l2:=r2.length;rw[U5] at l1 l2;by_cases hs:its.toArray.size=C4.toArray.size
  ·refine SeqAt.RcNeAt.lists (A:=X.A) (s:=s) (e:=qcw f as bs) p1.isList p2.isList hs hu (λ j h1 h2=>qdx k r1 r2 j h1 h2) X.prog X.w X.xe _ ⟨.bl (!decide (as=bs)),H,I,?_,q⟩;have e:=qb9 k as bs;rw[Zu,Zu] at hs;rw[show as.length=bs.length by omega,Q0,Ux,Bool.and_true] at e;rw[Zu,show its.length=bs.length by omega,e];rfl
  ·refine SeqAt.RcNeAt.lists_lengths (A:=X.A) (s:=s) p1.isList p2.isList (by simpa using hs) hu X.prog X.w X.xe _ ⟨.bl (!decide (as=bs)),H,I,?_,q⟩;rw[Jm]
   ·rfl
   ·intro e;rw[Zu,Zu,<- l1,<- l2,e] at hs;exact hs rfl
def qoq(K:W.Frag):R2:=λ x y H Q=>∃ a b xs ys,x=.ref a/\y=.ref b/\SqT K H a xs/\SqT K H b ys/\xs.length+ys.length<=sizeLine /\
 ∀ p H',qi H H'->SqT K H' p (xs++ys)->Q (.ref p) H'
theorem qdy(h:H p=none)(o:HO):qi H (upd H p o):=λ b u q=>by rw[qu (zk q h)];exact q
theorem qmK(ht:IsTup s.heap t vs.toArray)(hb:IsTup s.heap b ws.toArray)(h0:vs=[]->Q (.ref b) s)(h1:vs≠[]->ws=[]->Q (.ref t) s)(h2:vs≠[]->ws≠[]->Q (.ref s.heap.objs.size) { s with heap:=s.heap.push { cls:=.type "tuple",data:=.seq (vs++ws).toArray } })(hsz:vs.length+ws.length<=sizeLine):wpAny (model prog w) A (binaryOp .Add (.ref t) (.ref b)) Q E s:=by
 by_cases hv:vs=[]
 ·obtain⟨⟨cls,dd,data,sl⟩,ho,hc,n,hd⟩:=id ht;obtain⟨⟨cls2,rV,data2,sl2⟩,W4,oW,n2,bK⟩:=id hb;simp only at hc hd oW bK;subst hc hd oW bK;exact concat_meets ⟨_,ho,rfl⟩ ⟨_,W4,rfl⟩ noFill_tuple_add seq_tuple_add XI X7 (Xx _ _)
   (tuple_addW0 t b vs.toArray ws.toArray n n2 dd rV sl sl2 (by simp[hv])) ⟨ho,W4,h0 hv⟩
 ·exact HT.cat_tup ht hb hv (h1 hv) (h2 hv) hsz
theorem qkN:OpR X (binaryOp .Add) (qoq X.K):=by
 intro pins s σ H x y v u Q I rx ry h;obtain⟨a,b,xs,ys,rfl,rfl,iT,eL,hz,q⟩:=h;cases rx
 cases ry
 obtain⟨its,r1,p1,_⟩:=I.tuple iT;obtain⟨C4,r2,p2,_⟩:=I.tuple eL;have l1:=r1.length;have l2:=r2.length;have e0:its=[]->xs=[]:=λ e=>by rw[e] at l1;exact Xd l1
 have e1:C4=[]->ys=[]:=λ e=>by rw[e] at l2;exact Xd l2
 refine qmK p1 p2 (λ h=>⟨.ref b,H,I,rfl,?_⟩) (λ h h'=>⟨.ref a,H,I,rfl,?_⟩) (λ h h'=>⟨.ref s.heap.objs.size,_,I.laid (a:=s.heap.objs.size) (o:=.tup (xs++ys)) (t':=s.toks) (λ _ _ q=>XG _ q) (Q9 _) ⟨?_,its++C4,r1.append r2,?_⟩,rfl,?_⟩) (by omega)
 ·refine q b H (qi.refl H) ?_;rw[e0 h];exact eL
 ·refine q a H (qi.refl H) ?_;rw[e1 h',U6];exact iT
 ·rw[Ze];exact hz
 ·exact⟨_,Yw _ rfl,rfl,_,rfl⟩
 ·have hf:=I.hok.fresh (Q9 s.heap.objs.size);exact q _ _ (qdy hf _) (SqT.of qc)
theorem qcx(hc:X.calm=true):y9 X (.builtin "all") (λ xs H Q=>∃(p:Addr)(bs:List Bool),xs=[.ref p]/\SqL X.K H p (bs.map V.bl)/\Q (.bl (bs.all id)) H):=by
 intro pins s σ H xs us Q I r h;obtain⟨p,bs,rfl,hq,q⟩:=h;obtain⟨u,rfl,ru⟩:=yk r;cases ru
 obtain⟨its,rv,pl,hz⟩:=I.list hq;have hl:=rv.length;rw[U5] at hl;have hh:X.A.in1.handled=none:=by simp[I.ok.hd hc]
 have oA:p<s.heap.objs.size:=by obtain⟨_,e,_⟩:=pl.isList;exact Qs e
 refine call_all_walk (Ua pl.isList ⟨s.heap.objs.size,_,_,_,_,_,λ i=>bs.getD i true,rfl,Walks.list hh s.heap.objs.size p (Qt oA) its.toArray,
  ⟨⟨_,Yw _ rfl,rfl,rfl⟩,pl.isList.push _⟩,λ i v s Q E hv hQ=>?_,λ h' tk hk=>?_⟩)
 ·have e:its[i]?=some v:=by simpa using hv
  have hi:i<bs.length:=by rw[hl];exact(Xn.mp e).1
  obtain⟨u,hu,ru⟩:=rv.get (i:=i) (x:=.bl bs[i]) (by rw[Zt,Xy hi];rfl);rw[e] at hu;cases hu
  cases ru
  refine Z9 ?_
  have:bs.getD i true=bs[i]:=by rw[Xj,Xy hi];rfl
  have hQ':Q (bs.getD i true) s:=hQ;rw[this] at hQ';exact hQ'
 ·have hf:=I.hok.fresh (Q9 s.heap.objs.size);refine⟨.bl (bs.all id),H,?_,?_,q⟩
  ·have I1:Inv X pins σ H { s with heap:=s.heap.push { cls:=.type "list_iterator",data:=.fields #[.ref p,.int 0 0] } }:=I.kept (t':=s.toks) λ _ _ e=>XG _ e
   refine I.kept (t':=tk) λ b o e=>hk b o (λ z=>?_) (XG _ e)
   have:b=s.heap.objs.size:=by simpa using z
   exact absurd (Qs e) (by rw[this];exact Qc _)
  ·show Value.bool _=Value.bool _
   congr 1
   rw[Zu,<- hl,U4,Up,Up];constructor
   ·intro h b hb;obtain⟨i,hi,e⟩:=Y0 hb
    have:=h i (Ju.mpr hi)
    rw[Xj,Xy hi,e] at this;exact this
   ·intro h i hi;have hi:=Ju.mp hi;rw[Xj,Xy hi];exact h _ (Us hi)
end
theorem qa2{α:Type}:∀(l:List α)(i:Nat)(h:i<l.length),(l[i]::l.eraseIdx i).Perm l
 |x::l,0,_=>Jz _
 |x::l,i+1,h=>by
  have:=qa2 l i (by simpa using h)
  rw[List.getElem_cons_succ,X8];exact(List.Perm.swap _ _ _).trans (this.cons x)
section
variable {prog:Program}{w:World}{A:Around}{E:Value->Shared->Prop}{s:Shared}
theorem qfx(hn:n≠0)(h:∀ i d,i<n->Q i { s with drawn:=d }):wpAny M A (choose xW n) Q E s:=λ Γ p hΓ=>by
 show Sem.wp M Γ (Sem.choose xW n Sem.pure) _ _ p s
 rw[Sem.wp];refine⟨hn,?_⟩;rw[Sem.wp];exact h _ _ (Nat.mod_lt _ (Nat.pos_of_ne_zero hn))
theorem yZ:∀(n:Nat)(xs:List α)(s:Shared)(Q:List α->Shared->Prop),xs.length=n->(∀ ys d,ys.Perm xs->Q ys { s with drawn:=d })->wpAny M A (drawOrder n xs) Q E s
 |0,xs,s,Q,hl,h=>by
  have:xs=[]:=Xd hl
  subst this;unfold drawOrder;have e:=h [] s.drawn (Jz _);cases s
  exact Vi e
 |n+1,[],s,Q,hl,h=>by simp at hl
 |n+1,x::xs,s,Q,hl,h=>by
  unfold drawOrder;refine Vh (qfx (by simp) λ i d hi=>?_);have e:(x::xs)[i]?=some (x::xs)[i]:=Xy hi;rw[e];dsimp only;refine Vh (yZ n ((x::xs).eraseIdx i) _ _ ?_ λ ys d' hp=>Vi ?_)
  ·rw[Xk hi];omega
  ·refine h _ d' ((hp.cons _).trans ?_);exact qa2 (x::xs) i hi
def byT(w:World):Prop:=w.params.followText "set-order"=true
def qca(P:Program)(w:World)(x:Str)(e:Int×Value):Prop:=e.1=(qw P w).hash (.inr x)/\∃ t,e.2=.str x t
def qX(P:Program)(w:World)(h:Heap)(a:Addr)(ys:List Str):Prop:=
 ∃ o es ep t,h.get? a=some o/\o.ExactSet/\o.data=.set es ep t/\Paired (qca P w) ys es.toList/\ys.Nodup/\ys.length<scanBound/\t.fits es.size=true/\(t.led=true∨byT w)/\(ys=[]∨t.plain=false)
theorem qdz(h:Paired (qca P w) ys l):ElemsOf (qw P w) l:=by
 induction h with
 |nil=>intro e he;cases he
 |cons h _ ih =>
  intro e he;rcases Qd.mp he with z|z
  ·subst z;obtain⟨h1,t,h2⟩:=h;exact⟨⟨.inr _,by rw[h2];exact zm _ _ _ _,h1⟩,by rw[h2];rfl⟩
  ·exact ih e z
theorem qdA(h:Paired (qca P w) ys l)(k:Key):(∃ e∈l,(qw P w).is k e.2=true) ↔ ∃ y∈ys,k=.inr y:=by
 induction h with
 |nil=>simp
 | @cons y e ys l h _ ih =>
  obtain⟨h1,t,h2⟩:=h;have hk:(qw P w).is k e.2=true ↔ k=.inr y:=by
   rw[h2];constructor
   ·intro q;exact(qw P w).inj _ _ _ q (zm P w y t)
   ·rintro rfl;exact zm P w y t
  simp only[Qd,exists_eq_or_imp,ih,hk]
theorem yU{F:α->β->Prop}{xs:List α}{l l':List β}(h:Paired F xs l)(p:l'.Perm l):∃ rY,rY.Perm xs/\Paired F rY l':=by
 induction p generalizing xs with
 |nil=>cases h;exact⟨[],Jz _,.nil⟩
 |cons b p ih =>
  cases h with
  |cons h t =>
   obtain⟨rY,h1,h2⟩:=ih t;exact⟨_::rY,h1.cons _,.cons h h2⟩
 |swap a b l =>
  cases h with
  |cons h t =>
   cases t with
   |cons h' t=>exact⟨_,List.Perm.swap _ _ _,.cons h' (.cons h t)⟩
 |trans _ _ i1 i2 =>
  obtain⟨rY,h1,h2⟩:=i2 h;obtain⟨xs'',h3,h4⟩:=i1 h2;exact⟨xs'',h3.trans h1,h4⟩
theorem qH:∀{xs ys:List α}{us vs:List β},Paired F xs us->Paired F ys vs->Paired F (xs++ys) (us++vs)
 |_,_,_,_,.nil,s=>s
 |_,_,_,_,.cons r t,s=>.cons r (qH t s)
theorem qjH(t:SetTable)(es:Array (Int×Value))(h:Int)(x:Value):(layNew t es h x).2.1.led=t.led/\(t.plain=false->(layNew t es h x).2.1.plain=false):=by
 unfold layNew;split
 ·rename_i slot wd e;dsimp only;unfold SetTable.orStandIn;split
  ·exact⟨rfl,λ h=>h⟩
  ·exact⟨rfl,λ _=>rfl⟩
 ·exact⟨rfl,λ _=>rfl⟩
theorem qhU {plain:Bool}(h:SetTable.laid mask finger moves led plain hs=some r):r.1.led=led/\r.1.plain=plain:=by
 unfold SetTable.laid at h;cases e:SetTable.layClean mask hs with
 |none=>rw[e] at h;cases h
 |some o=>rw[e] at h;cases h;exact⟨rfl,rfl⟩
theorem qgD(t:SetTable)(es:Array (Int×Value))(n:Nat):(relayAll t es n).2.1.led=t.led/\(t.plain=false->(relayAll t es n).2.1.plain=false):=by
 unfold relayAll;split
 ·rename_i t' t5 e;have f:=qhU (show SetTable.laid _ _ _ _ _ _=some (t',t5) from e);dsimp only;split
  ·exact⟨f.1,λ h=>f.2.trans h⟩
  ·exact⟨rfl,λ _=>rfl⟩
 ·exact⟨rfl,λ _=>rfl⟩
theorem jn{h:Heap}(ho:h.get? a=some o)(hex:o.ExactSet)(hd:o.data=.set es ep t)(hp:Paired (qca P w) ys x9.toList)(nd:ys.Nodup)(hb:ys.length<scanBound)(hf:t'.fits x9.size=true)(hl:t'.led=true∨byT w)(w6:ys=[]∨t'.plain=false):
  (h.update a (Obj.putSet x9 t')).get? a=some { o with data:=.set x9 (ep+1) t' }/\qX P w (h.update a (Obj.putSet x9 t')) a ys:=by
 have hg:(h.update a (Obj.putSet x9 t')).get? a=some { o with data:=.set x9 (ep+1) t' }:=by
  have:=XV (Obj.putSet x9 t') ho (by rw[putSet_of x9 t' hd];rfl)
  rw[putSet_of x9 t' hd] at this;exact this
 exact⟨hg,_,x9,ep+1,t',hg,hex,rfl,hp,nd,hb,hf,hl,w6⟩
theorem qgE{g:Bool->Sem Unit}(hg:∀(b:Bool)(s₁:Shared)(Q':Unit->Shared->Prop),Q' () s₁->wpAny (model prog w) A (g b) Q' E s₁)(ho:s.heap.get? a=some o)(hex:o.ExactSet)(hd:o.data=.set es ep t)(P3:Paired (qca prog w) ys M3.toList)(nd:ys.Nodup)(V3:ys.length<scanBound)(hf2:t2.fits M3.size=true)(hl:t2.led=true∨byT w)(w6:t2.plain=false)(h:∀ h' o8,Heap.SameBut a s.heap h'->o8.Perm ys->qX prog w h' a o8->R (some true) { s with heap:=h' }):
  wpAny (model prog w) A (do
    storeSet a M3 t2
    if (!R9 && t2.tooFull)=true then do
        g (relayAll t2 M3 (SetTable.grown M3.size)).2.2
        storeSet a (relayAll t2 M3 (SetTable.grown M3.size)).1 (relayAll t2 M3 (SetTable.grown M3.size)).2.1
        pure (some true)
     else pure (some true)) R E s:=by
 have c8:M3.size<scanBound:=by rw[<- Yv,<- P3.length];exact V3
 refine Vh (Ud ho hd ?_ (Ue c8));obtain⟨V1,O6⟩:=jn (P:=prog) (w:=w) ho hex hd P3 nd V3 hf2 hl (.inr w6);have tI:=Y1 s.heap a (Obj.putSet M3 t2);split
 ·have hp:=relayAll_perm t2 M3 (SetTable.grown M3.size);have V2:=relayAll_fits t2 M3 (SetTable.grown M3.size);have cQ:=qgD t2 M3 (SetTable.grown M3.size);generalize hRl:relayAll t2 M3 (SetTable.grown M3.size)=Rl at hp V2 cQ ⊢;obtain⟨es2,t3,aA4⟩:=Rl;dsimp only at hp V2 cQ ⊢;obtain⟨o8,hy,bC⟩:=yU P3 hp;have O5:es2.size<scanBound:=by rw[<- Yv,hp.length_eq,Yv];exact c8
  refine Vh (hg _ _ _ ?_);refine Vh (Ud V1 rfl ?_ (Ue O5));obtain⟨_,lI⟩:=jn (P:=prog) (w:=w) V1 hex rfl bC (hy.nodup_iff.mpr nd) (by rw[hy.length_eq];exact V3) V2 (by rw[cQ.1];exact hl) (.inr (cQ.2 w6));exact Vi (h _ o8 (tI.trans (Y1 _ a _)) hy lI)
 ·exact Vi (h _ ys tI (Jz _) O6)
theorem qgF(hS:qX prog w s.heap a ys)(tK:ys.length+1<scanBound)(h0:x∈ys->Q false s)(h1:x∉ys->∀ h' o8,Heap.SameBut a s.heap h'->o8.Perm (ys++[x])->qX prog w h' a o8->Q true { s with heap:=h' }):
  wpAny (model prog w) A (setAddHashed a (.str x t0) ((qw prog w).hash (.inr x))) Q E s:=by
 obtain⟨o,es,ep,t,ho,hex,hd,hp,nd,hb,hf,hl,w6⟩:=hS;have eY:=qdz hp;have K8:(qw prog w).is (.inr x) (.str x t0)=true:=zm _ _ _ _;have hsc:(Value.str x t0).scannable=true:=rfl;have c8:es.size<scanBound:=by rw[<- Yv,<- hp.length];exact hb
 unfold setAddHashed setAddHashedIn;refine Qn (Vh (Uf ho hd hf ?_));dsimp only;rw[byScan_of hsc c8 eY];simp only[↓reduceIte];unfold setAddByScan;refine Vh ?_;refine Vh (Vm ?_);refine Vh (wpAny_setScan_of K8 ho hd hf eY ?_);cases hr:List.findIdx? (λ e=>(qw prog w).is (.inr x) e.2) es.toList with
 |some j =>
  dsimp only;obtain⟨hj,gT,_⟩:=List.findIdx?_eq_some_iff_getElem.mp hr;obtain⟨y,hy,e⟩:=(qdA hp (.inr x)).mp ⟨es.toList[j],Us hj,gT⟩;cases e
  exact Vi (Vi (h0 hy))
 |none =>
  dsimp only;have hx:x∉ys:=λ hx=>by
   obtain⟨e,he,q⟩:=(qdA hp (.inr x)).mpr ⟨x,hx,rfl⟩
   have:=List.findIdx?_eq_none_iff.mp hr e he
   rw[q] at this;exact Bool.noConfusion this
  have hgw:∀(b:Bool){s₁:Shared}{Q':Unit->Shared->Prop},Q' () s₁->wpAny (model prog w) A (match b with | true=>rule "set.scan.the-table-gave-way" | false=>pure ()) Q' E s₁:=
   λ b s₁ Q' hq=>by cases b <;> first|exact Vi hq|exact Vm hq
  have aZ:=layNew_perm t es ((qw prog w).hash (.inr x)) (.str x t0);have bJ:=layNew_fits t es ((qw prog w).hash (.inr x)) (.str x t0);have cQ:=qjH t es ((qw prog w).hash (.inr x)) (.str x t0);generalize hL:layNew t es ((qw prog w).hash (.inr x)) (.str x t0)=L at aZ bJ cQ ⊢;obtain⟨M3,t1,R9,gave⟩:=L;dsimp only at aZ bJ cQ ⊢;rw[Z1] at aZ;obtain⟨ys1,tD,P3⟩:=yU (qH hp (.cons (F:=qca prog w) (a:=x) (b:=((qw prog w).hash (.inr x),.str x t0)) ⟨rfl,t0,rfl⟩ .nil)) aZ;have nd1:ys1.Nodup:=by
   rw[tD.nodup_iff];exact Zy.mpr ⟨nd,by simp,λ a ha b hb e=>by simp at hb;subst hb;subst e;exact hx ha⟩
  have V3:ys1.length<scanBound:=by rw[tD.length_eq,Ze];exact tK
  refine Vh (hgw _ ?_);have uD:∀ h' o8,Heap.SameBut a s.heap h'->o8.Perm ys1->qX prog w h' a o8->Q true { s with heap:=h' }:=λ h' o8 O4 hq iA=>h1 hx h' o8 O4 (hq.trans tD) iA
  split
  ·refine Vh ?_;rw[hashByValue_scannable 8 hsc];refine Vi ?_;refine qgE (t2:=_) ?_ ho hex hd P3 nd1 V3 (SetTable.fits_plain_off bJ) (by show t1.led=true∨_;rw[cQ.1];exact hl) rfl ?_
   ·intro b s₁ Q' hq;cases b <;> first|exact Vi hq|exact Vm hq
   ·intro h' o8 O4 hq iA;dsimp only;exact Vi (uD h' o8 O4 hq iA)
  ·rename_i hnp;refine Vh (Vi ?_);simp only[↓reduceIte];refine qgE ?_ ho hex hd P3 nd1 V3 bJ (by rw[cQ.1];exact hl) (by simpa using hnp) ?_
   ·intro b s₁ Q' hq;cases b <;> first|exact Vi hq|exact Vm hq
   ·intro h' o8 O4 hq iA;dsimp only;exact Vi (uD h' o8 O4 hq iA)
noncomputable abbrev qK(w:World):Obj:={ cls:=.type "set",dict:=none,data:=.set #[] 0 (.fresh 0 0 (!(w.params.followText "set-order"))) }
theorem jI(e:h.get? a=some (qK w)):qX prog w h a []:=
 ⟨_,#[],0,_,e,⟨rfl,rfl,rfl⟩,rfl,.nil,List.nodup_nil,by decide,rfl,by
  unfold byT;cases w.params.followText "set-order"
  ·exact .inl rfl
  ·exact .inr rfl,.inl rfl⟩
theorem qjI(a:Value)(h:Q₁ (.ref s.heap.objs.size) { s with heap:=s.heap.push (qK w) }):
  codeAny (model prog w) A (.call (.builtin "set.__new__") ⟨[.type "set",a],[]⟩) (wants Q₁ E) s:=by
 refine codeAny_of_tree ?_;show wpAny _ A.in1 (do checkBuiltinCall "set.__new__" ⟨[.type "set",a],[]⟩;again (.builtin "set.__new__" ⟨[.type "set",a],[]⟩)) _ _ s
 refine Vh (Vd (F.newCall_set_1 a) (Vi ⟨Qp F.plain_set_new _,Jq F.entry_set_new ?_⟩));rw[Ym F.plain_set_new _];unfold Builtin.«set.__new__» Builtin.Frozenset.newClass;have oM:=sub_set_self;obtain⟨hp,g,d,tk,os⟩:=s;dsimp only
 wp_walk
 refine Uy (Vi ?_);dsimp only;simp only[newObj];refine Vh (wpAny_alloc (Vi ?_));exact Vi h
set_option maxHeartbeats 3200000 in
theorem kW(a:Value)(h:wpAny (model prog w) A.in1.in1 (Builtin.Frozenset.updateFrom "set.__init__" s.heap.objs.size a) (λ _ s2=>s2.TypeIs (.ref s.heap.objs.size) "set"/\Q (.ref s.heap.objs.size) s2) E { s with heap:=s.heap.push (qK w) }):
  wpAny (model prog w) A (call (.type "set") [a]) Q E s:=by
 obtain⟨c,tl,hmro⟩:=F.called_set.mro;have aA3:=F.called_set.made;have oM:=F.called_set.sub;refine wpAny_call (codeAny_of_tree ?_);show wpAny _ _ (callAny (.type "set") _) _ _ _
 refine Vi ⟨Code.quiet_builtin _ (by decide +kernel),Jq F.entry_type_call ?_⟩;rw[Around.under_plain (weight_type_call_type "set" [a] []) rfl];have h1:=F.called_set.notType;have h2:=F.called_set.canCreate;have hct:=F.typeCall_set_1 a
 repeat (any_goals (first|assumption|wp_step))
 refine Q6 (qjI a (E:=E) (Q₁:=λ obj s₁=>obj=.ref s.heap.objs.size/\s₁={ s with heap:=s.heap.push (qK w) }) ⟨rfl,rfl⟩) λ r s₁ hr=>?_
 cases r with
 |error e=>exact hr
 |ok fl =>
  cases fl with
  |ret obj =>
   obtain⟨rfl,rfl⟩:=hr;have hS:(s.heap.push (qK w)).get? s.heap.objs.size=some (qK w):=Yw _ rfl;have hT:Shared.TypeIs { s with heap:=s.heap.push (qK w) } (.ref s.heap.objs.size) "set":=⟨_,hS,rfl⟩;have hli:=F.called_set.init.lookup;have hbi:=F.called_set.init.bind (.ref s.heap.objs.size)
   repeat (any_goals (first|assumption|wp_step))
   refine Q6 (codeAny_call_builtin (R:=wants (λ r s₂=>r=.none/\s₂.TypeIs (.ref s.heap.objs.size) "set"/\Q (.ref s.heap.objs.size) s₂) E) F.called_set.init.plain F.entry_set_init (check_set_init_1 hT ?_)) λ r₂ s₂ hr₂=>?_
   ·unfold Builtin.«set.__init__» noKeywords;generalize hUF:Builtin.Frozenset.updateFrom=UF at h ⊢
    wp_walk
    refine Vg h (λ _ s2 h2=>?_) (λ _ _ x=>x);show wpAny _ _ (ret Value.none) _ _ _
    exact Vi ⟨rfl,h2⟩
   ·cases r₂ with
    |error e=>exact hr₂
    |ok fl₂ =>
     cases fl₂ with
     |ret r =>
      obtain⟨rfl,hT2,hq⟩:=hr₂
      repeat (any_goals (first|assumption|wp_step))
     |_=>exact hr₂.elim
  |_=>exact hr.elim
theorem qkO(hT:s.TypeIs x T)(h1:isSubtype (.type T) (.type "set")=pure false)(h2:isSubtype (.type T) (.type "frozenset")=pure false)(h:Q false s):
  wpAny (model prog w) A (Builtin.Frozenset.isAnySet x) Q E s:=by
 unfold Builtin.Frozenset.isAnySet;refine Vh (Uz hT h1 ?_);show wpAny _ _ (isInstance x (.type "frozenset")) _ _ s
 exact Uz hT h2 h
theorem qax(hT:s.TypeIs x "set")(h:Q true s):wpAny (model prog w) A (Builtin.Frozenset.isAnySet x) Q E s:=by
 unfold Builtin.Frozenset.isAnySet;refine Vh (Uz hT sub_set_self ?_);exact Vi h
theorem y3{id:String}(hT:s.TypeIs x T)(h1:isSubtype (.type T) (.type "set")=pure false)(h2:isSubtype (.type T) (.type "frozenset")=pure false)(h3:(Value.type T == Value.type "dict")=false)(h:wpAny (model prog w) A (pyIter x) (λ it s2=>codeAny (model prog w) A (.builtin "set.update.loop" ⟨[.ref S,it],[]⟩) (λ r s3=>r=.ok (.ret .none)/\Q () s3) s2) E s):
  wpAny (model prog w) A (Builtin.Frozenset.updateFrom id S x) Q E s:=by
 unfold Builtin.Frozenset.updateFrom;refine Vh (qkO hT h1 h2 ?_);simp only[Zj,Vo];refine Vh (Q7 hT ?_);simp only[h3,Zj,Vo];refine Vh (Vg h (λ it s2 h2=>?_) λ _ _ e=>e);refine Vh (wpAny_runValue (Q6 h2 λ r s3 hr=>?_));obtain⟨rfl,hq⟩:=hr;exact Vi hq
theorem kX{St:Nat->Heap->Prop}(W:Walks prog w A.in1 I fp wr n P St)(S:Addr)(hSf:S∉fp)(val:Nat->Str)(hval:∀ i v,P i v->∃ t,v=.str (val i) t)(hb:n+1<scanBound):
  ∀(k i:Nat)(s:Shared)(ys:List Str),n-i=k->i<=n->St i s.heap->qX prog w s.heap S ys->ys.length<=i->(∀ x,x∈ys ↔ ∃ j,j<i/\val j=x) ->
   (∀ h' tk o8,(∀ b o,b∉S::wr->s.heap.get? b=some o->h'.get? b=some o)->qX prog w h' S o8->(∀ x,x∈o8 ↔ ∃ j,j<n/\val j=x)->R (.ok (.ret .none)) { s with heap:=h',toks:=tk }) ->
   codeAny (model prog w) A (.builtin "set.update.loop" ⟨[.ref S,.ref I],[]⟩) R s:=by
 have hSw:S∉wr:=λ h=>hSf (W.sub _ h)
 have stay:∀{h h':Heap}{ys:List Str},qX prog w h S ys->(∀ o,h.get? S=some o->h'.get? S=some o)->qX prog w h' S ys:=λ hS k=>by
  obtain⟨o,es,ep,t,ho,rest⟩:=hS;exact⟨o,es,ep,t,k o ho,rest⟩
 intro k;induction k with
 |zero =>
  intro i s ys hk hi L5 hS hl hm hR;have bI:i=n:=by omega
  subst bI;refine Jq F.entry_set_update_loop ?_;rw[Ym XB _];show wpAny _ A.in1 (pyNext (.ref I) >>= _) _ _ s
  refine Vh (W.done s _ _ L5 λ h' tk W6=>?_);show wpAny _ A.in1 (ret Value.none) _ _ _
  exact Vi (hR h' tk ys (λ b o hb e=>W6 b o (λ z=>hb (Yj _ z)) e) (stay hS λ o e=>W6 S o hSw e) hm)
 |succ k ih =>
  intro i s ys hk hi L5 hS hl hm hR;have c9:i<n:=by omega
  refine Jq F.entry_set_update_loop ?_;rw[Ym XB _];show wpAny _ A.in1 (pyNext (.ref I) >>= _) _ _ s
  refine Vh (W.item i s _ _ c9 L5 λ v h1 tk hP tH W6=>?_);obtain⟨t,rfl⟩:=hval i v hP;have O6:qX prog w h1 S ys:=stay hS λ o e=>W6 S o hSw e
  refine Vh (Qn ?_);unfold setAdd;refine Qn ?_;refine Vh ((qw prog w).pyHash (k:=.inr (val i)) (zm _ _ _ _) ?_);have sO:∀ x,(x∈ys∨x=val i) ↔ ∃ j,j<i+1/\val j=x:=λ x=>by
   rw[hm x];constructor
   ·rintro(⟨j,hj,e⟩ | e)
    ·exact⟨j,by omega,e⟩
    ·exact⟨i,by omega,e.symm⟩
   ·rintro⟨j,hj,e⟩;by_cases hji:j=i
    ·subst hji;exact .inr e.symm
    ·exact .inl ⟨j,by omega,e⟩
  refine qgF (s:={ s with heap:=h1,toks:=tk+1 }) O6 (by omega) (λ hx=>?_) (λ hx h2 ys2 O4 hp lI=>?_)
  ·refine Vi ⟨Qp XB _,ih (i+1) _ ys (by omega) c9 tH O6 (by omega) (λ x=>?_) λ h3 tk3 ys3 rK hS3 tX=>?_⟩
   ·rw[<- sO x];exact⟨.inl,λ z=>z.elim id λ e=>e ▸ hx⟩
   ·exact hR h3 tk3 ys3 (λ b o hb e=>rK b o hb (W6 b o (λ z=>hb (Yj _ z)) e)) hS3 tX
  ·refine Vi ⟨Qp XB _,ih (i+1) _ ys2 (by omega) c9 (W.frame _ _ _ tH λ b hb o e=>?_) lI (by rw[hp.length_eq,Ze];simp;omega) (λ x=>?_) λ h3 tk3 ys3 rK hS3 tX=>?_⟩
   ·exact(O4.2 b (λ z=>hSf (z ▸ hb))).trans e
   ·rw[<- sO x,hp.mem_iff,U3,Zl]
   ·refine hR h3 tk3 ys3 (λ b o hb e=>rK b o hb ((O4.2 b (λ z=>hb (z ▸ Zb))).trans (W6 b o (λ z=>hb (Yj _ z)) e))) hS3 tX
end
noncomputable def qfy(P:Program)(w:World)(a:Addr)(xs:List Str):HO:=.ext λ h=>∃ ys,ys.Perm xs/\qX P w h a ys
theorem qiV(hp:ys.Perm xs)(hS:qX P w h a ys):zI P w H h a (qfy P w a xs):=by
 refine⟨⟨ys,hp,hS⟩,?_,?_⟩
 ·obtain⟨o,_,_,_,e,_⟩:=hS;exact⟨o,e⟩
 ·rintro h1 h2 ⟨zs,hz,o,es,ep,t,e,rest⟩ k;exact⟨zs,hz,o,es,ep,t,k o e,rest⟩
theorem Inv.set(I:Inv X pins σ H s)(h:H a=some (qfy X.prog X.w a xs)):∃ ys,ys.Perm xs/\qX X.prog X.w s.heap a ys:=
 (I.hok a _ h).1
theorem qX.typeIs{s:Shared}(h:qX P w s.heap a ys):s.TypeIs (.ref a) "set":=by
 obtain⟨o,es,ep,t,e,hx,_⟩:=h;exact⟨o,e,hx.1⟩
namespace F
theorem sub_tuple_set:isSubtype (.type "tuple") (.type "set")=pure false:=by rw[J9];kernel_rfl
theorem sub_tuple_frozenset:isSubtype (.type "tuple") (.type "frozenset")=pure false:=by rw[J9];kernel_rfl
theorem sub_str_set:isSubtype (.type "str") (.type "set")=pure false:=by rw[J9];kernel_rfl
theorem sub_str_frozenset:isSubtype (.type "str") (.type "frozenset")=pure false:=by rw[J9];kernel_rfl
end F
section
variable {X:Cx}
def qqH(K:W.Frag)(P:Program)(w:World):List V->Hp->VK->Prop:=λ xs H Q=>∃ ss:List Str,(((∃ p,xs=[.ref p]/\(SqL K H p (ss.map V.str)∨SqT K H p (ss.map V.str)))∨∃ z,xs=[.str z]/\ss=(cs z).map λ c=>qj [c]))/\ss.length+1<scanBound /\
 ∀ l ys,H l=none->ys.Nodup->(∀ x,x∈ys ↔ x∈ss)->Q (.ref l) (upd H l (qfy P w l ys))
theorem qbF(hc:X.calm=true):y9 X (.type "set") (qqH X.K X.prog X.w):=by
 intro pins s σ H xs us Q I r h;obtain⟨ss,xW,hb,q⟩:=h;have hf:H s.heap.objs.size=none:=I.hok.fresh (Q9 _);have hh:X.A.in1.in1.in1.handled=none:=by simp[I.ok.hd hc]
 have G4:(s.heap.push (qK X.w)).get? s.heap.objs.size=some (qK X.w):=Yw _ rfl;have fin:∀(h':Heap)(tk:Nat)(o8:List Str),(∀ b o,b<s.heap.objs.size->s.heap.get? b=some o->h'.get? b=some o)->qX X.prog X.w h' s.heap.objs.size o8->(∀ x,x∈o8 ↔ x∈ss) ->
   Shared.TypeIs { s with heap:=h',toks:=tk } (.ref s.heap.objs.size) "set"/\EP X pins σ Q (.ref s.heap.objs.size) { s with heap:=h',toks:=tk }:=by
  intro h' tk o8 hk hS hm;refine⟨hS.typeIs (s:={ s with heap:=h',toks:=tk }),.ref s.heap.objs.size,_,I.laid (a:=s.heap.objs.size) (o:=qfy X.prog X.w s.heap.objs.size o8) (t':=tk) (λ b o e=>hk b o (Qs e) e) (Q9 _) (qiV (Jz _) hS),rfl,q _ o8 hf ?_ hm⟩;obtain⟨_,_,_,_,_,_,_,_,nd,_⟩:=hS;exact nd
 have V9:∀(o8:List Str),(∀ x,x∈o8 ↔ ∃ j,j<ss.length/\ss.getD j default=x)->∀ x,x∈o8 ↔ x∈ss:=λ o8 hm x=>by
  rw[hm x];constructor
  ·rintro⟨j,hj,e⟩;rw[Xj,Xy hj] at e;rw[<- e];exact Us hj
  ·intro hx;obtain⟨j,hj,e⟩:=Y0 hx;exact⟨j,hj,by rw[Xj,Xy hj];exact e⟩
 have uY:∀{its:List Value},qL (ss.map V.str) its->∀(i:Nat)(v:Value),its.toArray[i]?=some v->∃ t,v=.str (ss.getD i default) t:=λ{its} rv i v hv=>by
  have e:its[i]?=some v:=by simpa using hv
  have hl:=rv.length;rw[U5] at hl;have hi:i<ss.length:=by rw[hl];exact(Xn.mp e).1
  obtain⟨u,hu,ru⟩:=rv.get (i:=i) (x:=.str ss[i]) (by rw[Zt,Xy hi];rfl);rw[e] at hu;cases hu
  obtain⟨t,rfl⟩:=ru;exact⟨t,by rw[Xj,Xy hi];rfl⟩
 rcases xW with⟨p,rfl,hq⟩|⟨z,rfl,ez⟩
 ·obtain⟨u,rfl,ru⟩:=yk r;cases ru
  rcases hq with hq|hq
  ·obtain⟨its,rv,pl,hz⟩:=I.list hq;have hl:=rv.length;rw[U5] at hl;have oA:p<s.heap.objs.size:=by obtain⟨_,e,_⟩:=pl.isList;exact Qs e
   have nH:(s.heap.push (qK X.w)).IsList p its.toArray:=pl.isList.push _;have sz:(s.heap.push (qK X.w)).objs.size=s.heap.objs.size+1:=Jw _ _;refine kW (.ref p) (y3 (s:={ s with heap:=s.heap.push (qK X.w) }) nH.typeIs F.sub_list_set F.sub_list_frozenset (by decide) (Ua nH ?_));refine kX (Walks.list hh _ p (by rw[sz];exact Qt (Z0 oA)) its.toArray) s.heap.objs.size (by rw[sz];simp;exact Qw oA) (λ i=>ss.getD i default) (uY rv) (by rw[Zu,<- hl];exact hb)
    (its.toArray.size-0) 0 _ [] rfl (Va _) ⟨⟨_,Yw _ rfl,rfl,rfl⟩,nH.push _⟩ (jI (XG _ G4)) (Q9 _) (by simp) λ h' tk o8 hk hS hm=>⟨rfl,?_⟩
   refine fin h' tk o8 (λ b o hb e=>hk b o (by simp[sz];exact⟨Qt hb,Qt (Z0 hb)⟩) (XG _ (XG _ e))) hS (V9 o8 λ x=>?_);rw[hm x,Zu,<- hl]
  ·obtain⟨its,rv,pl,hz⟩:=I.tuple hq;have hl:=rv.length;rw[U5] at hl;have oA:p<s.heap.objs.size:=by obtain⟨_,e,_⟩:=pl;exact Qs e
   have nH:(s.heap.push (qK X.w)).IsTuple p its.toArray:=by
    obtain⟨o,e,rest⟩:=pl;exact⟨o,XG _ e,rest⟩
   have sz:(s.heap.push (qK X.w)).objs.size=s.heap.objs.size+1:=Jw _ _;have hT:Shared.TypeIs { s with heap:=s.heap.push (qK X.w) } (.ref p) "tuple":=by
    obtain⟨o,e,c,rest⟩:=nH;exact⟨o,e,c⟩
   refine kW (.ref p) (y3 (s:={ s with heap:=s.heap.push (qK X.w) }) hT F.sub_tuple_set F.sub_tuple_frozenset (by decide) (wpAny_pyIter_tuple nH ?_));have W5:((s.heap.push (qK X.w)).push { cls:=.type "tuple_iterator",data:=.fields #[.ref p,.int 0 0] }).IsTuple p its.toArray:=by
    obtain⟨o,e,rest⟩:=nH;exact⟨o,XG _ e,rest⟩
   refine kX (Walks.tuple hh _ p (by rw[sz];exact Qt (Z0 oA)) its.toArray) s.heap.objs.size (by rw[sz];simp;exact Qw oA) (λ i=>ss.getD i default) (uY rv) (by rw[Zu,<- hl];exact hb)
    (its.toArray.size-0) 0 _ [] rfl (Va _) ⟨⟨_,Yw _ rfl,rfl,rfl⟩,W5⟩ (jI (XG _ G4)) (Q9 _) (by simp) λ h' tk o8 hk hS hm=>⟨rfl,?_⟩
   refine fin h' tk o8 (λ b o hb e=>hk b o (by simp[sz];exact⟨Qt hb,Qt (Z0 hb)⟩) (XG _ (XG _ e))) hS (V9 o8 λ x=>?_);rw[hm x,Zu,<- hl]
 ·obtain⟨u,rfl,ru⟩:=yk r;obtain⟨t,rfl⟩:=ru;have hl:ss.length=z.cps.size:=by rw[ez,U5];simp
  have sz:(s.heap.push (qK X.w)).objs.size=s.heap.objs.size+1:=Jw _ _;refine kW (.str z t) (y3 (s:={ s with heap:=s.heap.push (qK X.w) }) (Vk _ z t) F.sub_str_set F.sub_str_frozenset (by decide) (wpAny_pyIter_str λ o St W L5=>?_));refine kX (W _ hh) s.heap.objs.size (by rw[sz];simp) (λ i=>ss.getD i default) (λ i v hv=>?_) (by rw[<- hl];exact hb)
   (z.cps.size-0) 0 _ [] rfl (Va _) L5 (jI (XG _ G4)) (Q9 _) (by simp) λ h' tk o8 hk hS hm=>⟨rfl,?_⟩
  ·obtain⟨c,u,e,rfl⟩:=hv;refine⟨u,?_⟩;have e':(cs z)[i]?=some c:=by rw[XX];exact e
   rw[Xj,ez,Zt,e'];rfl
  ·refine fin h' tk o8 (λ b o hb e=>hk b o (by simp[sz];exact⟨Qt hb,Qt (Z0 hb)⟩) (XG _ (XG _ e))) hS (V9 o8 λ x=>?_);rw[hm x,<- hl]
end
noncomputable def qkP(mask i:Nat):Nat:=(i*5+1) % (mask+1)
noncomputable def lit(mask:Nat):Nat->Nat->Nat
 |0,i=>i
 |k+1,i=>lit mask k (qkP mask i)
theorem qcU(mask:Nat):∀ a b i,lit mask (a+b) i=lit mask b (lit mask a i)
 |0,b,i=>by rw[Q2];rfl
 |a+1,b,i=>by rw[Nat.add_right_comm];exact qcU mask a b (qkP mask i)
def kZ(mask:Nat):Prop:=∀ i j,i<=mask->j<=mask->∃ k,k<=mask/\lit mask k i=j
noncomputable def qkQ(mask:Nat):Nat->Nat->List Nat
 |0,_=>[]
 |n+1,i=>i::qkQ mask n (qkP mask i)
theorem qgG(mask:Nat):∀ n i j,j∈qkQ mask n i->∃ k,k<n/\lit mask k i=j
 |0,_,_,h=>by cases h
 |n+1,i,j,h=>by
  rcases Qd.mp h with e|e
  ·exact⟨0,Nat.succ_pos _,e.symm⟩
  ·obtain⟨k,hk,e⟩:=qgG mask n _ _ e;exact⟨k+1,Nat.succ_lt_succ hk,e⟩
theorem qmL(h:(List.range (mask+1)).all (λ j=>(qkQ mask (mask+1) 0).contains j)=true)(hz:lit mask (mask+1) 0=0):kZ mask:=by
 have cov:∀ j,j<=mask->∃ k,k<=mask/\lit mask k 0=j:=λ j hj=>by
  have:=Up.mp h j (Ju.mpr (by omega))
  obtain⟨k,hk,e⟩:=qgG mask _ _ _ (XY.mp this);exact⟨k,by omega,e⟩
 intro i j hi hj;obtain⟨a,ha,ea⟩:=cov i hi;obtain⟨b,hb,eb⟩:=cov j hj;by_cases E2:a<=b
 ·refine⟨b-a,by omega,?_⟩;rw[<- ea,<- qcU,show a+(b-a)=b by omega,eb]
 ·refine⟨mask+1-a+b,by omega,?_⟩;rw[<- ea,<- qcU,show a+(mask+1-a+b)=(mask+1)+b by omega,qcU,hz,eb]
theorem qeJ:∀(l:List Nat)(c7 j:Nat),(l.foldl (λ a x=>a ||| (1 <<< x)) c7).testBit j=(c7.testBit j || l.contains j)
 | [],c7,j=>by simp
 |x::l,c7,j=>by
  rw[Ja,qeJ l,Nat.testBit_or,Nat.one_shiftLeft,Nat.testBit_two_pow,List.contains_cons,Bool.or_assoc];congr 1
  congr 1
  by_cases h:x=j
  ·subst h;simp
  ·rw[Jm h];exact(Y8.mpr (Vu h)).symm
theorem jd(h:(qkQ mask (mask+1) 0).foldl (λ a x=>a ||| (1 <<< x)) 0=2^(mask+1)-1)(hz:lit mask (mask+1) 0=0):kZ mask:=by
 refine qmL (Up.mpr λ j hj=>?_) hz;have hj:=Ju.mp hj;have e:=qeJ (qkQ mask (mask+1) 0) 0 j;rw[h,Nat.testBit_two_pow_sub_one,J8 hj,Nat.zero_testBit,Qg] at e;exact e.symm
theorem qnQ:kZ 7:=jd (by decide +kernel) (by decide +kernel)
theorem qor:kZ 15:=jd (by decide +kernel) (by decide +kernel)
theorem qos:kZ 31:=jd (by decide +kernel) (by decide +kernel)
theorem qot:kZ 63:=jd (by decide +kernel) (by decide +kernel)
theorem qmM:kZ 127:=jd (by decide +kernel) (by decide +kernel)
theorem qmN:kZ 255:=jd (by decide +kernel) (by decide +kernel)
theorem qmO:kZ 511:=jd (by decide +kernel) (by decide +kernel)
theorem qkR:kZ 1023:=jd (by decide +kernel) (by decide +kernel)
theorem qkS:kZ 2047:=jd (by decide +kernel) (by decide +kernel)
theorem qbG{α β:Type}{f g:α->Option β}:∀{l:List α},(∀ x∈l,f x=g x)->l.filterMap f=l.filterMap g
 | [],_=>rfl
 |a::l,h=>by
  rw[Yu,Yu,h a Zb,qbG λ x hx=>h x (Yj _ hx)]
noncomputable def pos(mask:Nat):Nat->Nat->Nat->Nat
 |0,i,_=>i
 |t+1,i,p=>pos mask t (SetTable.leap mask i p).1 (SetTable.leap mask i p).2
theorem qeK:∀(fuel i p:Nat),SetTable.layClean.free mask owner fuel i p=none->∀ t,t<fuel->(owner.getD (pos mask t i p) (some 0)).isNone=false
 |0,_,_,_,t,ht=>absurd ht (Nat.not_lt_zero _)
 |fuel+1,i,p,h,t,ht=>by
  unfold SetTable.layClean.free at h;cases e:(List.range (SetTable.runEnd mask i+1-i)).find? λ k=>(owner.getD (i+k) (some 0)).isNone with
  |some k=>rw[e] at h;cases h
  |none =>
   rw[e] at h;cases t with
   |zero =>
    have hr:i<=SetTable.runEnd mask i:=by unfold SetTable.runEnd;split <;> omega
    have:=List.find?_eq_none.mp e 0 (Ju.mpr (by omega))
    rw[Nat.add_zero] at this;show(owner.getD i (some 0)).isNone=false
    exact Z2.mpr this
   |succ t=>exact qeK fuel _ _ h t (by omega)
theorem qeL:∀(fuel i p j:Nat),SetTable.layClean.free mask owner fuel i p=some j->owner.getD j (some 0)=none
 |0,_,_,_,h=>by unfold SetTable.layClean.free at h;cases h
 |fuel+1,i,p,j,h=>by
  unfold SetTable.layClean.free at h;cases e:(List.range (SetTable.runEnd mask i+1-i)).find? λ k=>(owner.getD (i+k) (some 0)).isNone with
  |some k =>
   rw[e] at h;cases h
   have:=List.find?_some e
   simpa using this
  |none=>rw[e] at h;exact qeL fuel _ _ _ h
theorem vE(mask:Nat):∀(a b i p:Nat),∃ i',pos mask (a+b) i p=pos mask b i' (p / 32^a)/\(i<=mask->i'<=mask)
 |0,b,i,p=>⟨i,by simp,id⟩
 |a+1,b,i,p=>by
  obtain⟨i',e,h⟩:=vE mask a b (SetTable.leap mask i p).1 (SetTable.leap mask i p).2;refine⟨i',?_,λ _=>h ?_⟩
  ·rw[show a+1+b=(a+b)+1 by omega];show pos mask (a+b) _ _=_
   rw[e]
   have:(SetTable.leap mask i p).2 / 32^a=p / 32^(a+1):=by
    show p / 32 / 32^a=_
    rw[Nat.div_div_eq_div_mul,Qy,Qx]
   rw[this]
  ·show(_ % _)<=_
   exact Nat.le_of_lt_succ (Nat.mod_lt _ (Nat.succ_pos _))
theorem qdB(mask:Nat):∀(t i:Nat),pos mask t i 0=lit mask t i
 |0,_=>rfl
 |t+1,i=>by
  show pos mask t ((i*5+1+0 / 32) % (mask+1)) (0 / 32)=lit mask t ((i*5+1) % (mask+1))
  rw[Nat.zero_div,Nat.add_zero];exact qdB mask t _
theorem qmP(g:kZ mask)(hi:i<=mask)(hp:p<2^64)(hj:j0<=mask)(h0:owner.getD j0 (some 0)=none):
  ∃ j,SetTable.layClean.free mask owner (SetTable.turns mask) i p=some j:=by
 cases e:SetTable.layClean.free mask owner (SetTable.turns mask) i p with
 |some j=>exact⟨j,rfl⟩
 |none =>
  exfalso
  obtain⟨i',_,uB⟩:=vE mask 13 0 i p;have hz:p / 32^13=0:=Nat.div_eq_of_lt (Za hp (by decide));obtain⟨i',ei,uB⟩:=vE mask 13 0 i p;obtain⟨k,hk,ek⟩:=g i' j0 (uB hi) hj;obtain⟨i2,e2,h2⟩:=vE mask 13 k i p;obtain⟨k2,eW,ek2⟩:=g i2 j0 (h2 hi) hj;have same:∀ b,∃ i',pos mask (13+b) i p=lit mask b i'/\i'=pos mask 13 i p:=λ b=>by
   obtain⟨i3,e3,_⟩:=vE mask 13 b i p;obtain⟨i4,e4,_⟩:=vE mask 13 0 i p;rw[hz,qdB] at e3 e4;exact⟨pos mask 13 i p,by
    have gen:∀(a b i p:Nat),pos mask (a+b) i p=pos mask b (pos mask a i p) (p / 32^a):=by
     intro a;induction a with
     |zero=>intro b i p;simp[pos]
     |succ a ih =>
      intro b i p;rw[show a+1+b=(a+b)+1 by omega];show pos mask (a+b) _ _=pos mask b (pos mask a _ _) _
      rw[ih]
      have:(SetTable.leap mask i p).2 / 32^a=p / 32^(a+1):=by
       show p / 32 / 32^a=_
       rw[Nat.div_div_eq_div_mul,Qy,Qx]
      rw[this]
    rw[gen 13 b i p,hz,qdB],rfl⟩
  have K7:pos mask 13 i p<=mask:=by
   obtain⟨i4,e4,h4⟩:=vE mask 13 0 i p;rw[show 13+0=13 from rfl,hz] at e4;rw[e4];exact h4 hi
  obtain⟨k,hk,ek⟩:=g _ j0 K7 hj;obtain⟨i5,e5,e6⟩:=same k
  have:=qeK _ _ _ e (13+k) (by unfold SetTable.turns;omega)
  rw[e5,e6,ek,h0] at this;cases this
noncomputable def ow(owner:Array (Option Nat))(mask:Nat):List Nat:=(List.range (mask+1)).filterMap λ j=>owner.getD j none
theorem qaP {v:Nat}(h1:f j=none)(h2:f' j=some v)(h3:∀ i,i≠j->f' i=f i):∀{l:List Nat},l.Nodup->j∈l->(l.filterMap f').Perm (v::l.filterMap f)
 | [],_,h=>by cases h
 |a::l,nd,h=>by
  have B9:=U7.mp nd;by_cases ha:a=j
  ·subst ha;rw[Xz h2,X0 h1]
   have:l.filterMap f'=l.filterMap f:=qbG λ x hx=>h3 x λ e=>B9.1 (e ▸ hx)
   rw[this]
  ·have hm:j∈l:=by
    rcases Qd.mp h with e|e
    ·exact absurd e.symm ha
    ·exact e
   have ih:=qaP h1 h2 h3 B9.2 hm;cases e:f a with
   |none=>rw[X0 e,X0 ((h3 a ha).trans e)];exact ih
   |some b=>rw[Xz e,Xz ((h3 a ha).trans e)];exact(ih.cons b).trans (List.Perm.swap _ _ _)
theorem qfz{owner:Array (Option Nat)}(h:owner.getD j (some 0)=none):j<owner.size/\owner.getD j none=none:=by
 rw[Xf] at h ⊢;cases e:owner[j]? with
 |none=>rw[e] at h;cases h
 |some o =>
  rw[e] at h;exact⟨(Array.getElem?_eq_some_iff.mp e).1,h⟩
theorem qhV(hs:owner.size=mask+1)(h:(ow owner mask).length<=mask):∃ j,j<=mask/\owner.getD j (some 0)=none:=by
 by_cases cG:∃ j,j<=mask/\owner.getD j (some 0)=none
 ·exact cG
 ·exfalso
  have all:∀ j∈List.range (mask+1),∃ v,owner.getD j none=some v:=λ j hj=>by
   have hj:=Ju.mp hj
   have:owner.getD j (some 0)≠none:=λ e=>cG ⟨j,by omega,e⟩
   rw[Xf] at this ⊢;cases e:owner[j]? with
   |none=>have:=Array.getElem?_eq_none_iff.mp e;omega
   |some o =>
    rw[e] at this;cases o with
    |none=>exact absurd rfl this
    |some v=>exact⟨v,rfl⟩
  have len:∀ l:List Nat,(∀ j∈l,∃ v,owner.getD j none=some v)->(l.filterMap λ j=>owner.getD j none).length=l.length:=by
   intro l;induction l with
   |nil=>intro _;rfl
   |cons a l ih =>
    intro h;obtain⟨v,hv⟩:=h a Zb;have e1:(List.filterMap (λ j=>owner.getD j none) (a::l))=v::List.filterMap (λ j=>owner.getD j none) l:=by
     rw[Yu];rw[hv]
    rw[e1,Uj,Uj,ih λ j hj=>h j (Yj _ hj)]
  have:=len _ all
  rw[Z4] at this;unfold ow at h;omega
theorem qmQ(h:Int):SetTable.bits h<2^64:=by
 unfold SetTable.bits;have h1:0<=h % (2^64:Int):=Je _ (by decide);have h2:h % (2^64:Int)<2^64:=Zm _ (by decide);omega
noncomputable def qmR(mask:Nat)(c7:Option (Array (Option Nat)×Nat))(h:Int):Option (Array (Option Nat)×Nat):=do
  let (owner,k) <- c7
  let j <- SetTable.layClean.free mask owner (SetTable.turns mask) (SetTable.bits h % (mask+1)) (SetTable.bits h)
  pure (owner.setIfInBounds j (some k),k+1)
theorem qgH(g:kZ mask):∀(hs:List Int)(owner:Array (Option Nat))(k:Nat),owner.size=mask+1->(ow owner mask).Perm (List.range k)->k+hs.length<=mask ->
  ∃ o',hs.foldl (qmR mask) (some (owner,k))=some (o',k+hs.length)/\o'.size=mask+1/\(ow o' mask).Perm (List.range (k+hs.length))
 | [],owner,k,hs,hp,_=>⟨owner,rfl,hs,hp⟩
 |h::hs,owner,k,hsz,hp,hk=>by
  rw[Uj] at hk;obtain⟨j0,hj0,e0⟩:=qhV hsz (by rw[hp.length_eq,Z4];omega);obtain⟨j,ej⟩:=qmP g (owner:=owner) (i:=SetTable.bits h % (mask+1)) (p:=SetTable.bits h) (Nat.le_of_lt_succ (Nat.mod_lt _ (Nat.succ_pos _))) (qmQ h) hj0 e0;obtain⟨hjs,hjn⟩:=qfz (qeL _ _ _ _ ej);have step:qmR mask (some (owner,k)) h=some (owner.setIfInBounds j (some k),k+1):=by
   unfold qmR;show(SetTable.layClean.free mask owner (SetTable.turns mask) (SetTable.bits h % (mask+1)) (SetTable.bits h) >>= _)=_
   rw[ej];rfl
  have B8:(ow (owner.setIfInBounds j (some k)) mask).Perm (List.range (k+1)):=by
   have:=qaP (f:=λ j=>owner.getD j none) (f':=λ i=>(owner.setIfInBounds j (some k)).getD i none) (j:=j) (v:=k) hjn
    (by show(owner.setIfInBounds j (some k)).getD j none=_;rw[Xf,Array.getElem?_setIfInBounds_self_of_lt hjs];rfl)
    (λ i hi=>by show(owner.setIfInBounds j (some k)).getD i none=_;rw[Xf,Array.getElem?_setIfInBounds_ne (Vu hi),<- Xf])
    (l:=List.range (mask+1)) List.nodup_range (Ju.mpr (by omega))
   refine this.trans ?_;rw[show List.range (k+1)=List.range k++[k] from Jf];exact(List.Perm.cons k hp).trans (List.perm_append_comm (l₁:=[k]) (l₂:=List.range k))
  obtain⟨o',e,h1,h2⟩:=qgH g hs (owner.setIfInBounds j (some k)) (k+1) (by rw[Array.size_setIfInBounds];exact hsz) B8 (by omega);refine⟨o',?_,h1,?_⟩
  ·rw[Ja,step,e,Uj];congr 2;omega
  ·rw[Uj,show k+(hs.length+1)=k+1+hs.length by omega];exact h2
theorem qgI(g:kZ mask)(hs:Array Int)(hk:hs.size<=mask):∃ o',SetTable.layClean mask hs=some o'/\o'.size=mask+1/\(ow o' mask).Perm (List.range hs.size):=by
 have h0:(ow (Array.replicate (mask+1) none) mask).Perm (List.range 0):=by
  have:ow (Array.replicate (mask+1) none) mask=[]:=by
   unfold ow;rw[List.filterMap_eq_nil_iff];intro j hj;rw[Xf,Array.getElem?_replicate];split <;> rfl
  rw[this];exact Jz _
 obtain⟨o',e,h1,h2⟩:=qgH g hs.toList (Array.replicate (mask+1) none) 0 (by simp) h0 (by simpa using hk);refine⟨o',?_,h1,by simpa using h2⟩;unfold SetTable.layClean;rw[<- Array.foldl_toList]
 have:(List.foldl (qmR mask) (some (Array.replicate (mask+1) none,0)) hs.toList).map (·.1)=some o':=by rw[e];rfl
 exact this
theorem qiW(g:kZ mask)(finger moves:Nat)(led plain:Bool)(hs:Array Int)(hk:hs.size<=mask):
  ∃ t t5,SetTable.laid mask finger moves led plain hs=some (t,t5)/\t.fits hs.size=true/\t.led=led/\t.plain=plain/\t.mask=mask/\t.dummies=#[]/\t.place.size=hs.size/\t5.toList.Perm (List.range hs.size):=by
 obtain⟨o',e,h1,h2⟩:=qgI g hs hk;have c8:((List.range (mask+1)).filterMap λ j=>(o'.getD j none).map (j,·)).length=hs.size:=by
  rw[<- U5 (f:=(·.2)),List.map_filterMap]
  have:(List.range (mask+1)).filterMap (λ x=>Option.map (λ x=>x.2) ((o'.getD x none).map (x,·)))=ow o' mask:=by
   unfold ow;refine qbG λ j _=>?_
   cases o'.getD j none with
   |none=>rfl
   |some v=>rfl
  rw[this,h2.length_eq,Z4]
 refine⟨_,_,by unfold SetTable.laid;rw[e];rfl,?_,rfl,rfl,rfl,rfl,?_,?_⟩
 ·unfold SetTable.fits SetTable.fill;rw[Zu,U5,c8];simpa using hk
 ·dsimp only;rw[Zu,U5,c8]
 ·show(((List.range (mask+1)).filterMap λ j=>(o'.getD j none).map (j,·)).map (·.2)).Perm _
  rw[List.map_filterMap]
  have:(List.range (mask+1)).filterMap (λ x=>Option.map (λ x=>x.2) ((o'.getD x none).map (x,·)))=ow o' mask:=by
   unfold ow;refine qbG λ j _=>?_
   cases o'.getD j none with
   |none=>rfl
   |some v=>rfl
  rw[this];exact h2
theorem qhW{α:Type}(es:Array α){t5:List Nat}(hp:t5.Perm (List.range es.size)):(t5.filterMap (es[·]?)).Perm es.toList:=by
 refine(hp.filterMap _).trans ?_
 have:∀(l:List α),(List.range l.length).filterMap (λ i=>l[i]?)=l:=by
  intro l;induction l with
  |nil=>rfl
  |cons a l ih =>
   have e:(List.filterMap (λ i=>(a::l)[i]?) (0::List.map Nat.succ (List.range l.length)))=a::List.filterMap (λ i=>(a::l)[i]?) (List.map Nat.succ (List.range l.length)):=by
    rw[Yu];rfl
   rw[Uj,List.range_succ_eq_map,e,Zh];exact congrArg (a::·) ih
 have h:=this es.toList;rw[Yv] at h;have e:(λ i=>es.toList[i]?)=λ i=>es[i]?:=funext λ i=>XX
 rw[e] at h;rw[h]
namespace F
theorem slot_set_iterator_next:Slot "set_iterator" "__next__" "set_iterator.__next__":=
 .of (owner:="set_iterator") (n:="__next__") (by rw[Jr,Yi];kernel_rfl) (by decide +kernel) (by decide +kernel) (by decide +kernel)
  (by first|exact .inl (by decide +kernel)|exact .inr (by decide +kernel)) (by rw[J9];kernel_rfl)
theorem entry_set_iterator_next:entryFor table "set_iterator.__next__"=some Builtin.«set_iterator.__next__»:=entryFor_of_fast (by kernel_rfl)
theorem args_set_iterator_next_1(a:Value):argsOk "set_iterator.__next__" ⟨[a],[]⟩:=by unfold argsOk;kernel_rfl
theorem slot_set_iterator_iter:Slot "set_iterator" "__iter__" "set_iterator.__iter__":=
 .of (owner:="set_iterator") (n:="__iter__") (by rw[Jr,Yi];kernel_rfl) (by decide +kernel) (by decide +kernel) (by decide +kernel)
  (by first|exact .inl (by decide +kernel)|exact .inr (by decide +kernel)) (by rw[J9];kernel_rfl)
theorem entry_set_iterator_iter:entryFor table "set_iterator.__iter__"=some Builtin.«dict_keyiterator.__iter__»:=
 Qa (id':="dict_keyiterator.__iter__") (by kernel_rfl) rfl (by decide +kernel) (by kernel_rfl)
theorem args_set_iterator_iter_1(a:Value):argsOk "set_iterator.__iter__" ⟨[a],[]⟩:=by unfold argsOk;kernel_rfl
theorem entry_set_iter:entryFor table "set.__iter__"=some Builtin.«frozenset.__iter__»:=
 Qa (id':="frozenset.__iter__") (by kernel_rfl) rfl (by decide +kernel) (by kernel_rfl)
theorem args_set_iter_1(a:Value):argsOk "set.__iter__" ⟨[a],[]⟩:=by unfold argsOk;kernel_rfl
theorem entry_set_xor:entryFor table "set.__xor__"=some Builtin.«frozenset.__xor__»:=
 Qa (id':="frozenset.__xor__") (by kernel_rfl) rfl (by decide +kernel) (by kernel_rfl)
end F
theorem qbH(next:Nat->Nat):∀(fuel k:Nat)(left:List α)(out:Array α),fuel=left.length->(pickOrder.go next fuel k left out).toList.Perm (out.toList++left)
 |0,k,left,out,h=>by
  have:left=[]:=Xd h.symm
  subst this;unfold pickOrder.go;rw[U6]
 |fuel+1,k,left,out,h=>by
  unfold pickOrder.go;have c9:next k % left.length<left.length:=Nat.mod_lt _ (by omega);rw[Xy c9];dsimp only;refine(qbH next fuel (k+1) _ _ (by rw[Xk c9];omega)).trans ?_;rw[Z1,Zx];exact List.Perm.append_left _ (qa2 left _ c9)
theorem qeM(next:Nat->Nat)(xs:Array α):(pickOrder next xs).toList.Perm xs.toList:=by
 unfold pickOrder
 have:=qbH next xs.size 0 xs.toList #[] (by simp)
 simpa using this
section
variable {prog:Program}{w:World}{A:Around}{E:Value->Shared->Prop}{s:Shared}
theorem qjJ(ho:s.heap.get? a=some o)(hd:o.data=.set es ep t)(hf:t.fits es.size=true)(hl:t.led=true∨byT w)(h:∀ x9 d,x9.toList.Perm es.toList->Q x9 { s with drawn:=d }):wpAny (model prog w) A (setWalk a) Q E s:=by
 have h0:∀ x9,x9.toList.Perm es.toList->Q x9 s:=λ x9 hp=>by
  have:=h x9 s.drawn hp
  cases s;exact this
 unfold setWalk;refine Vh (Uf ho hd hf ?_);dsimp only;unfold setsByText;refine Vh (Vh (Uy (Vi ?_)));dsimp only;refine Js (λ hb=>?_) (λ hb=>?_)
 ·refine Vh (Uy (Vi ?_));exact h0 _ (qeM _ _)
 ·refine Js (λ oV=>?_) (λ oV=>?_)
  ·refine Vh (yZ es.size es.toList _ _ (by simp) λ ys d hp=>Vi ?_);exact h _ d (by simpa using hp)
  ·refine Vh ?_;have cC:t.led=true:=hl.resolve_right hb;show wpAny _ _ (if (!t.led && decide (es.size > 1))=true then _ else _) _ _ s
   rw[cC];simp only[Qj,Jv,Zj,Vo];exact Vi (Vi (h0 _ (Jz _)))
noncomputable abbrev itO(first:Value)(i:Nat)(S:Addr)(n ep:Nat):Obj:={ cls:=.type "set_iterator",data:=.fields #[first,.int i 0,.ref S,.int n 0,.int ep 0] }
theorem qgJ {sl:Nat}(o6:s.heap.get? I=some (itO (.int sl 0) i S n ep))(ho:s.heap.get? S=some o)(hd:o.data=.set es ep t)(hf:t.fits es.size=true)(hn:es.size=n)(hN:∀(Q:Option (Value×Nat)->Shared->Prop)(E:Value->Shared->Prop),Q (some (x,nx)) s->wpAny (model prog w) A.in1 (setNext S sl i ep) Q E s)(hQ:∀ h',h'.get? I=some (itO (.int nx 0) (i+1) S n ep)->Heap.SameBut I s.heap h'->Q (some x) { s with heap:=h' }):wpAny (model prog w) A (pyNext (.ref I)) Q E s:=by
 have hT:s.TypeIs (.ref I) "set_iterator":=⟨_,o6,rfl⟩;unfold pyNext;refine Vh (Qq (XF (name:=Str.ofString "__next__") hT F.slot_set_iterator_next
  (U0 F.slot_set_iterator_next hT F.entry_set_iterator_next ?_ (F.args_set_iterator_next_1 _))))
 unfold Builtin.«set_iterator.__next__»;show wpAny _ _ (fieldsOf (.ref I) >>= _) _ _ s
 refine Vh (Qb o6 rfl ?_);show wpAny _ _ (setEntries S >>= _) _ _ s
 refine Vh (Y9 ho hd hf ?_);rw[hn];simp only[Ug,Zj,Vo];show wpAny _ _ (setNext S (sl:Int).toNat (i:Int).toNat (ep:Int).toNat >>= _) _ _ s
 simp only[Zv];refine Vh (hN _ _ ?_);dsimp only;refine Vh (Zs o6 (by simp) λ h1 P4 aW=>?_);refine Vh (Zs P4 (by simp) λ h2 hit2 w4=>?_);refine Vi ⟨x,rfl,Vi (hQ h2 ?_ (aW.trans w4))⟩;rw[hit2];rfl
theorem qgK {sl:Nat}(hh:A.handled=none)(o6:s.heap.get? I=some (itO (.int sl 0) i S n ep))(ho:s.heap.get? S=some o)(hd:o.data=.set es ep t)(hf:t.fits es.size=true)(hn:es.size=n)(hN:∀(Q:Option (Value×Nat)->Shared->Prop)(E:Value->Shared->Prop),Q none s->wpAny (model prog w) A.in1 (setNext S sl i ep) Q E s)(hQ:∀ h',Heap.ExtBut I s.heap h'->Q none { s with heap:=h' }):wpAny (model prog w) A (pyNext (.ref I)) Q E s:=by
 have hT:s.TypeIs (.ref I) "set_iterator":=⟨_,o6,rfl⟩;unfold pyNext;refine Vh (Qq (XF (name:=Str.ofString "__next__") hT F.slot_set_iterator_next
  (U0 F.slot_set_iterator_next hT F.entry_set_iterator_next ?_ (F.args_set_iterator_next_1 _))))
 unfold Builtin.«set_iterator.__next__»;show wpAny _ _ (fieldsOf (.ref I) >>= _) _ _ s
 refine Vh (Qb o6 rfl ?_);show wpAny _ _ (setEntries S >>= _) _ _ s
 refine Vh (Y9 ho hd hf ?_);rw[hn];simp only[Ug,Zj,Vo];show wpAny _ _ (setNext S (sl:Int).toNat (i:Int).toNat (ep:Int).toNat >>= _) _ _ s
 simp only[Zv];refine Vh (hN _ _ ?_);dsimp only;refine Vh (wpAny_setField o6 rfl (by simp) ?_);show wpAny _ _ (newExc (.type "StopIteration") [] >>= _) _ _ _
 refine Vh ?_;simp only[newExc,newTuple];refine Vh (Ub ?_ (by size_fits));refine Vh (m:=firstArgMember _ _) (Vd (a:=Value.none) (by first|rfl|(simp only[firstArgMember];rfl)) ?_);refine Ub ?_ (by size_fits);simp only[raiseNew];refine Vh (wpAny_handled ?_)
 first|rw[show A.in1.handled=none from hh]|rw[hh]
 refine Vh (Vi (wpAny_throw ?_));refine Vh (Uz (T:="StopIteration") (b:=true) ⟨_,Yw _ rfl,rfl⟩ isSubtype_stop ?_);exact Vi (hQ _ (((Y1 ..).extBut.push _).push _))
theorem qkT {k:Nat}(o6:s.heap.get? I=some (itO (.ref T) i S n ep))(hp:s.heap.IsTuple T pl)(ho:s.heap.get? S=some o)(hd:o.data=.set es ep t)(hf:t.fits es.size=true)(hn:es.size=n)(hk:pl[i]?=some (.int k 0))(hx:es[k]?=some (hx,x))(hQ:∀ h',h'.get? I=some (itO (.ref T) (i+1) S n ep)->Heap.SameBut I s.heap h'->Q (some x) { s with heap:=h' }):wpAny (model prog w) A (pyNext (.ref I)) Q E s:=by
 have hT:s.TypeIs (.ref I) "set_iterator":=⟨_,o6,rfl⟩;obtain⟨ot,nF,_,nt,lC⟩:=hp;unfold pyNext;refine Vh (Qq (XF (name:=Str.ofString "__next__") hT F.slot_set_iterator_next
  (U0 F.slot_set_iterator_next hT F.entry_set_iterator_next ?_ (F.args_set_iterator_next_1 _))))
 unfold Builtin.«set_iterator.__next__»;show wpAny _ _ (fieldsOf (.ref I) >>= _) _ _ s
 refine Vh (Qb o6 rfl ?_);show wpAny _ _ (setEntries S >>= _) _ _ s
 refine Vh (Y9 ho hd hf ?_);rw[hn];simp only[Ug,Zj,Vo];show wpAny _ _ (seqItems? (.ref T) >>= _) _ _ s
 refine Vh (wpAny_seqItems nF lC ?_);simp only[Zv,hk];show wpAny _ _ (setNextDrawn S (k:Int).toNat (ep:Int).toNat >>= _) _ _ s
 simp only[Zv];unfold setNextDrawn;refine Vh (Vh (Uf ho hd hf ?_));simp only[Ug,Zj,Vo,hx];refine Vi ?_;refine Vh (Zs o6 (by simp) λ h1 P4 aW=>?_);refine Vi ⟨x,rfl,Vi (hQ h1 ?_ aW)⟩;rw[P4];rfl
theorem qkU(hh:A.handled=none)(o6:s.heap.get? I=some (itO (.ref T) i S n ep))(hp:s.heap.IsTuple T pl)(ho:s.heap.get? S=some o)(hd:o.data=.set es ep t)(hf:t.fits es.size=true)(hn:es.size=n)(hk:pl[i]?=none)(hQ:∀ h',Heap.ExtBut I s.heap h'->Q none { s with heap:=h' }):wpAny (model prog w) A (pyNext (.ref I)) Q E s:=by
 have hT:s.TypeIs (.ref I) "set_iterator":=⟨_,o6,rfl⟩;obtain⟨ot,nF,_,nt,lC⟩:=hp;unfold pyNext;refine Vh (Qq (XF (name:=Str.ofString "__next__") hT F.slot_set_iterator_next
  (U0 F.slot_set_iterator_next hT F.entry_set_iterator_next ?_ (F.args_set_iterator_next_1 _))))
 unfold Builtin.«set_iterator.__next__»;show wpAny _ _ (fieldsOf (.ref I) >>= _) _ _ s
 refine Vh (Qb o6 rfl ?_);show wpAny _ _ (setEntries S >>= _) _ _ s
 refine Vh (Y9 ho hd hf ?_);rw[hn];simp only[Ug,Zj,Vo];show wpAny _ _ (seqItems? (.ref T) >>= _) _ _ s
 refine Vh (wpAny_seqItems nF lC ?_);simp only[Zv,hk];refine Vh (Zs o6 (by simp) λ h1 P4 aW=>?_);refine Vh (wpAny_setField P4 rfl (by simp) ?_);show wpAny _ _ (newExc (.type "StopIteration") [] >>= _) _ _ _
 refine Vh ?_;simp only[newExc,newTuple];refine Vh (Ub ?_ (by size_fits));refine Vh (m:=firstArgMember _ _) (Vd (a:=Value.none) (by first|rfl|(simp only[firstArgMember];rfl)) ?_);refine Ub ?_ (by size_fits);simp only[raiseNew];refine Vh (wpAny_handled ?_)
 first|rw[show A.in1.handled=none from hh]|rw[hh]
 refine Vh (Vi (wpAny_throw ?_));refine Vh (Uz (T:="StopIteration") (b:=true) ⟨_,Yw _ rfl,rfl⟩ isSubtype_stop ?_);exact Vi (hQ _ ((((aW.trans (Y1 ..))).extBut.push _).push _))
theorem qfA(o6:s.heap.get? I=some (itO first i S n ep))(h:Q (.ref I) s):wpAny (model prog w) A (pyIter (.ref I)) Q E s:=by
 have hT:s.TypeIs (.ref I) "set_iterator":=⟨_,o6,rfl⟩;refine wpAny_pyIter_slot hT F.slot_set_iterator_iter (U0 F.slot_set_iterator_iter hT F.entry_set_iterator_iter ?_ (F.args_set_iterator_iter_1 _));show wpAny _ _ (ret (.ref I)) _ _ s
 exact Vi ⟨_,rfl,"set_iterator",_,hT,F.slot_set_iterator_next.lookup,h⟩
theorem qa3:∀{xs:List α}{l:List β},Paired F xs l->∀(k:Nat)(b:β),l[k]?=some b->∃ a,xs[k]?=some a/\F a b
 |_,_,.nil,k,b,h=>by simp at h
 |_,_,.cons r t,0,b,h=>by simp at h;subst h;exact⟨_,rfl,r⟩
 |_,_,.cons r t,k+1,b,h=>by
  obtain⟨a,h1,h2⟩:=qa3 t k b (by simpa using h);exact⟨a,by simpa using h1,h2⟩
theorem jJ:∀{xs:List α}{l:List β},Paired F xs l->∀(k:Nat)(a:α),xs[k]?=some a->∃ b,l[k]?=some b/\F a b
 |_,_,.nil,k,b,h=>by simp at h
 |_,_,.cons r t,0,b,h=>by simp at h;subst h;exact⟨_,rfl,r⟩
 |_,_,.cons r t,k+1,b,h=>by
  obtain⟨a,h1,h2⟩:=jJ t k b (by simpa using h);exact⟨a,by simpa using h1,h2⟩
abbrev qdC(zs:List Str)(i:Nat)(v:Value):Prop:=∃ t,v=.str (zs.getD i default) t
theorem qeN{α:Type}[Inhabited α]{l:List α}{i:Nat}{x:α}(h:l[i]?=some x):l.getD i default=x:=by rw[Xj,h];rfl
theorem qdD{ys:List Str}{p:List Nat}(hp:p.Perm (List.range ys.length)):(p.map λ k=>ys.getD k default).Perm ys:=by
 refine(hp.map _).trans ?_
 have:∀(l:List Str),(List.range l.length).map (λ k=>l.getD k default)=l:=by
  intro l;refine List.ext_getElem (by simp) λ i h1 h2=>?_
  simp at h1;simp[h1]
 rw[this]
theorem Walks.setDrawn(hh:A.handled=none)(hIT:T≠I)(uS:S≠I){p:List Nat}(hp:p.Perm (List.range ys.length))(hd:o.data=.set es ep t)(hf:t.fits es.size=true)(W3:Paired (qca prog w) ys es.toList):
  Walks prog w A I [I,T,S] [I] ys.length (qdC (p.map λ k=>ys.getD k default)) (λ i h=>h.get? I=some (itO (.ref T) i S ys.length ep)/\h.IsTuple T ((p.map λ k=>(.int (k:Nat) 0:Value)).toArray)/\h.get? S=some o) where
 sub:=λ b hb=>by simp at hb;simp[hb]
 frame:=λ i h h' st k=>⟨k I (by simp) _ st.1,let ⟨o,ho,r⟩:=st.2.1;⟨o,k T (by simp) _ ho,r⟩,k S (by simp) _ st.2.2⟩
 item:=λ i s Q E hi st hQ=>by
  have hn:es.size=ys.length:=by rw[<- Yv,<- W3.length]
  have hip:i<p.length:=by rw[hp.length_eq,Z4];exact hi
  have hk:p[i]<ys.length:=Ju.mp (hp.mem_iff.mp (Us hip));obtain⟨e,he,h1,t',h2⟩:=jJ W3 p[i] ys[p[i]] (Xy hk);have uE:es[p[i]]?=some (e.1,e.2):=by rw[<- XX];exact he
  refine qkT (k:=p[i]) (x:=e.2) (hx:=e.1) st.1 st.2.1 st.2.2 hd hf hn ?_ uE λ h' L8 G2=>?_
  ·simp[hip]
  ·refine hQ _ h' s.toks ⟨t',?_⟩ ⟨L8,?_,?_⟩ λ b o hb e=>G2.extBut b o (λ h=>hb (by simp[h])) e
   ·rw[h2];congr 1
    rw[Xj,Zt,Xy hip];show _=ys.getD p[i] default
    rw[Xj,Xy hk];rfl
   ·obtain⟨o,ho,r⟩:=st.2.1;exact⟨o,(G2.2 T hIT).trans ho,r⟩
   ·exact(G2.2 S uS).trans st.2.2
 done:=λ s Q E st hQ=>by
  have hn:es.size=ys.length:=by rw[<- Yv,<- W3.length]
  refine qkU hh st.1 st.2.1 st.2.2 hd hf hn ?_ λ h' lB=>hQ h' s.toks λ b o hb e=>lB b o (λ h=>hb (by simp[h])) e
  have:p.length=ys.length:=by rw[hp.length_eq,Z4]
  simp[this]
 self:=λ i s Q E st hQ=>qfA st.1 hQ
theorem Walks.setText(hb:byT w)(hh:A.handled=none)(uS:S≠I) {ys:List Str}(hd:o.data=.set es ep t)(hf:t.fits es.size=true)(hn:es.size=ys.length)(he:x9=pickOrder (w.params.setOrder S ep) es)(W3:Paired (qca prog w) zs x9.toList)(hz:zs.length=ys.length):
  Walks prog w A I [I,S] [I] ys.length (qdC zs) (λ i h=>h.get? I=some (itO (.int (0:Nat) 0) i S ys.length ep)/\h.get? S=some o) where
 sub:=λ b hb=>by simp at hb;simp[hb]
 frame:=λ i h h' st k=>⟨k I (by simp) _ st.1,k S (by simp) _ st.2⟩
 item:=λ i s Q E hi st hQ=>by
  obtain⟨e,uE,h1,t',h2⟩:=jJ W3 i (zs[i]'(by omega)) (Xy (by omega));refine qgJ (nx:=0) (x:=e.2) st.1 st.2 hd hf hn ?_ λ h' L8 G2=>?_
  ·intro Q E h;unfold setNext;refine Vh (Uf st.2 hd hf ?_);dsimp only;unfold setsByText;refine Vh (Vh (Uy (Vi ?_)));dsimp only;refine Js (λ _=>?_) (λ gU=>absurd hb gU);simp only[Ug,Zj,Vo];unfold setWalk;refine Vh (Vh (Uf st.2 hd hf ?_));dsimp only;unfold setsByText;refine Vh (Vh (Uy (Vi ?_)));dsimp only;refine Js (λ _=>?_) (λ gU=>absurd hb gU);refine Vh (Uy (Vi (Vi ?_)));have e1:(pickOrder (w.params.setOrder S ep) es)[i]?=some e:=by rw[<- he,<- XX];exact uE
   show Q (((pickOrder (w.params.setOrder S ep) es)[i]?).map λ e=>(e.2,0)) s
   rw[e1];exact h
  ·refine hQ _ h' s.toks ⟨t',?_⟩ ⟨L8,(G2.2 S uS).trans st.2⟩ λ b o hb e=>G2.extBut b o (λ h=>hb (by simp[h])) e
   rw[h2,qeN (Xy (by omega))]
 done:=λ s Q E st hQ=>by
  refine qgK hh st.1 st.2 hd hf hn ?_ λ h' lB=>hQ h' s.toks λ b o hb e=>lB b o (λ h=>hb (by simp[h])) e
  intro Q E h;unfold setNext;refine Vh (Uf st.2 hd hf ?_);dsimp only;unfold setsByText;refine Vh (Vh (Uy (Vi ?_)));dsimp only;refine Js (λ _=>?_) (λ gU=>absurd hb gU);simp only[Ug,Zj,Vo];unfold setWalk;refine Vh (Vh (Uf st.2 hd hf ?_));dsimp only;unfold setsByText;refine Vh (Vh (Uy (Vi ?_)));dsimp only;refine Js (λ _=>?_) (λ gU=>absurd hb gU);refine Vh (Uy (Vi (Vi ?_)));have e1:(pickOrder (w.params.setOrder S ep) es)[ys.length]?=none:=by
   rw[<- he,<- XX,Yb];rw[<- W3.length];omega
  show Q (((pickOrder (w.params.setOrder S ep) es)[ys.length]?).map λ e=>(e.2,0)) s
  rw[e1];exact h
 self:=λ i s Q E st hQ=>qfA st.1 hQ
theorem Walks.setOne(hb:¬ byT w)(hh:A.handled=none)(uS:S≠I)(hd:o.data=.set es ep t)(hf:t.fits es.size=true)(hl:t.led=true)(W3:Paired (qca prog w) ys es.toList)(h1:ys.length<=1):
  Walks prog w A I [I,S] [I] ys.length (qdC ys) (λ i h=>h.get? I=some (itO (.int (if i=0 then 0 else t.place.getD 0 0+1:Nat) 0) i S ys.length ep)/\h.get? S=some o) where
 sub:=λ b hb=>by simp at hb;simp[hb]
 frame:=λ i h h' st k=>⟨k I (by simp) _ st.1,k S (by simp) _ st.2⟩
 item:=λ i s Q E hi st hQ=>by
  have hi0:i=0:=by omega
  subst hi0;have hn:es.size=ys.length:=by rw[<- Yv,<- W3.length]
  obtain⟨e,uE,q1,t',q2⟩:=jJ W3 0 (ys[0]'hi) (Xy hi);have iU:t.place.size=1:=by
   simp only[SetTable.fits,Uo,Vj] at hf;omega
  have w6:t.place[0]?=some (t.place.getD 0 0):=by
   rw[Xf,Xq (by omega)];rfl
  refine qgJ (nx:=t.place.getD 0 0+1) (x:=e.2) st.1 st.2 hd hf hn ?_ λ h' L8 G2=>?_
  ·intro Q E h;unfold setNext;refine Vh (Uf st.2 hd hf ?_);dsimp only;unfold setsByText;refine Vh (Vh (Uy (Vi ?_)));dsimp only;refine Js (λ lD=>absurd lD hb) (λ _=>?_);refine Js (λ lD=>absurd lD ?_) (λ _=>?_)
   ·show ¬ ((!t.plain && decide (es.size > 1))=true)
    rw[show decide (es.size > 1)=false from Jm (by omega),Jx];exact Zc
   refine Vh ?_;show wpAny _ _ (if (!t.led && !es.isEmpty)=true then _ else _) _ _ s
   rw[hl];simp only[Qj,Jv,Zj,Vo];refine Vi ?_;have eb:SetTable.below t.place 0=0:=by
    unfold SetTable.below;rw[iU];unfold SetTable.below.go;simp
    unfold SetTable.below.go;rfl
   refine Vi ?_;simp only[Vw,eb];have ee:es[0]?=some (e.1,e.2):=by rw[<- XX];exact uE
   rw[ee,w6];exact h
  ·refine hQ _ h' s.toks ⟨t',?_⟩ ⟨?_,(G2.2 S uS).trans st.2⟩ λ b o hb e=>G2.extBut b o (λ h=>hb (by simp[h])) e
   ·rw[q2,qeN (Xy hi)]
   ·rw[L8,V0 (by omega)]
 done:=λ s Q E st hQ=>by
  have hn:es.size=ys.length:=by rw[<- Yv,<- W3.length]
  refine qgK hh st.1 st.2 hd hf hn ?_ λ h' lB=>hQ h' s.toks λ b o hb e=>lB b o (λ h=>hb (by simp[h])) e
  intro Q E h;unfold setNext;refine Vh (Uf st.2 hd hf ?_);dsimp only;unfold setsByText;refine Vh (Vh (Uy (Vi ?_)));dsimp only;refine Js (λ lD=>absurd lD hb) (λ _=>?_);refine Js (λ lD=>absurd lD ?_) (λ _=>?_)
  ·show ¬ ((!t.plain && decide (es.size > 1))=true)
   rw[show decide (es.size > 1)=false from Jm (by omega),Jx];exact Zc
  refine Vh ?_;show wpAny _ _ (if (!t.led && !es.isEmpty)=true then _ else _) _ _ s
  rw[hl];simp only[Qj,Jv,Zj,Vo];refine Vi (Vi ?_);have iU:t.place.size=ys.length:=by
   simp only[SetTable.fits,Uo,Vj] at hf;omega
  have key:es[SetTable.below t.place (if ys.length=0 then 0 else t.place.getD 0 0+1)]?=none:=by
   by_cases h0:ys.length=0
   ·rw[Array.getElem?_eq_none (by omega)]
   ·rw[V0 h0];have tD:ys.length=1:=by omega
    have eb:SetTable.below t.place (t.place.getD 0 0+1)=1:=by
     unfold SetTable.below;rw[iU,tD];unfold SetTable.below.go
     have:t.place.getD 0 (t.place.getD 0 0+1)<t.place.getD 0 0+1:=by
      have e:t.place.getD 0 (t.place.getD 0 0+1)=t.place.getD 0 0:=by
       rw[Xf,Xf,Xq (by omega)];rfl
      rw[e];exact Uk _
     simp only[Nat.zero_lt_one,Vw,Nat.reduceAdd,Nat.reduceDiv,this];unfold SetTable.below.go;rfl
    rw[eb,Array.getElem?_eq_none (by omega)]
  rw[key];exact h
 self:=λ i s Q E st hQ=>qfA st.1 hQ
theorem qkV(hS:qX prog w s.heap S ys)(h:∀(I:Addr)(h':Heap)(d:Drawn)(zs:List Str)(fp:List Addr)(St:Nat->Heap->Prop),zs.Perm ys->(∀ b o,s.heap.get? b=some o->h'.get? b=some o)->s.heap.objs.size<=I->I∈fp->(∀ b∈fp,b<h'.objs.size/\(b=S∨s.heap.objs.size<=b)) ->
   (∀ A:Around,A.handled=none->Walks prog w A I fp [I] ys.length (qdC zs) St)->St 0 h'->Q (.ref I) { s with heap:=h',drawn:=d }):wpAny (model prog w) A (pyIter (.ref S)) Q E s:=by
 have hTy:=hS.typeIs (s:=s);obtain⟨o,es,ep,t,ho,hex,hd,W3,nd,hb,hf,hl,w6⟩:=hS;have hn:es.size=ys.length:=by rw[<- Yv,<- W3.length]
 have c9:S<s.heap.objs.size:=Qs ho;have hsz:ys.length<=sizeLine:=Qv (Za hb (by decide));refine wpAny_pyIter_slot hTy PySem.F.slot_set_iter (U0 PySem.F.slot_set_iter hTy F.entry_set_iter ?_ (F.args_set_iter_1 _));unfold Builtin.«frozenset.__iter__»;show wpAny _ _ (Builtin.Frozenset.sizeOf S >>= _) _ _ s
 unfold Builtin.Frozenset.sizeOf;refine Vh (Vh (Y9 ho hd hf (Vi ?_)));unfold setDrawn;refine Vh (Vh (Uf ho hd hf ?_));dsimp only;unfold setsByText;refine Vh (Vh (Uy (Vi (Vi ?_))));show wpAny _ _ (if (!w.params.followText "set-order" && (!t.plain && decide (es.size > 1)))=true then _ else _) _ _ s
 refine Js (λ hc=>?_) (λ hc=>?_)
 ·refine Vh (yZ es.size (List.range es.size) _ _ (by simp) λ p d hp=>?_);rw[hn] at hp;have hpl':p.length=ys.length:=by rw[hp.length_eq,Z4]
  refine Vh (wpAny_newTuple (items:=p.map λ(i:Nat)=>rawInt i) ?_ (by rw[U5,hpl'];exact hsz));refine Vh (Uh (XG _ ho) hd hf ?_);rw[hn];refine Vh (Ub (Vi ⟨_,rfl,"set_iterator",_,⟨_,Yw _ rfl,rfl⟩,F.slot_set_iterator_next.lookup,?_⟩));have nZ:(s.heap.push { cls:=Value.type "tuple",data:=Data.seq (p.map λ(i:Nat)=>rawInt i).toArray }).objs.size=s.heap.objs.size+1:=Jw _ _;refine h _ _ d (p.map λ k=>ys.getD k default) [_,s.heap.objs.size,S] _ (qdD hp) (λ b o e=>XG _ (XG _ e)) ?_ (by simp) ?_ (λ A hA=>Walks.setDrawn hA (I:=(s.heap.push { cls:=Value.type "tuple",data:=Data.seq (p.map λ(i:Nat)=>rawInt i).toArray }).objs.size) (T:=s.heap.objs.size) (by rw[nZ];exact Qt (Uk _)) (by rw[nZ];exact Qt (Z0 c9)) hp hd hf W3) ⟨?_,?_,?_⟩
  ·show _<=(s.heap.push _).objs.size
   rw[nZ];omega
  ·intro b hb;rw[Jw,nZ];simp only[nZ,Qd,List.not_mem_nil,or_false] at hb;rcases hb with e | e | e <;> rw[e]
   ·exact⟨Uk _,.inr (Vb _)⟩
   ·exact⟨Z0 (Uk _),.inr (Q9 _)⟩
   ·exact⟨Z0 (Z0 c9),.inl rfl⟩
  ·exact Yw _ rfl
  ·exact⟨_,XG _ (Yw _ rfl),rfl,_,rfl⟩
  ·exact XG _ (XG _ ho)
 ·refine Vh (Vi ?_);refine Vh (Uh ho hd hf ?_);rw[hn];refine Vh (Ub (Vi ⟨_,rfl,"set_iterator",_,⟨_,Yw _ rfl,rfl⟩,F.slot_set_iterator_next.lookup,?_⟩));have szb:∀ b∈[s.heap.objs.size,S],b<(s.heap.push (itO (.int (0:Nat) 0) 0 S ys.length ep)).objs.size/\(b=S∨s.heap.objs.size<=b):=by
   intro b hb;rw[Jw];simp only[Qd,List.not_mem_nil,or_false] at hb;rcases hb with e|e <;> rw[e]
   ·exact⟨Uk _,.inr (Q9 _)⟩
   ·exact⟨Z0 c9,.inl rfl⟩
  by_cases hbt:byT w
  ·obtain⟨zs,hz,hpz⟩:=yU W3 (qeM (w.params.setOrder S ep) es);exact h s.heap.objs.size _ s.drawn zs [s.heap.objs.size,S] _ hz (λ b o e=>XG _ e) (Q9 _) (by simp) szb (λ A hA=>Walks.setText hbt hA (Qt c9) hd hf hn rfl hpz hz.length_eq) ⟨Yw _ rfl,XG _ ho⟩
  ·have c8:ys.length<=1:=by
    have hft:w.params.followText "set-order"=false:=Z2.mpr hbt;rw[hft] at hc;rcases w6 with e | e
    ·rw[e];simp
    ·rw[e] at hc;simp only[Bool.not_false,Bool.true_and,decide_eq_true_eq] at hc;omega
   exact h s.heap.objs.size _ s.drawn ys [s.heap.objs.size,S] _ (Jz _) (λ b o e=>XG _ e) (Q9 _) (by simp) szb (λ A hA=>Walks.setOne hbt hA (Qt c9) hd hf (hl.resolve_right hbt) W3 c8) ⟨Yw _ rfl,XG _ ho⟩
theorem qkW(hT:s.TypeIs (.ref r) "set")(h:Q false s):wpAny (model prog w) A (Builtin.List.listLengthHint (.ref r)) Q E s:=by
 unfold Builtin.List.listLengthHint;refine Vh (Jp hT PySem.F.slot_set_len.lookup ?_);generalize hid:("set.__len__":String)=id0
 wp_delta
 rw[show splitId id0=some ("set","__len__") from by subst hid;decide +kernel];subst hid;refine Vh (Uz (T:="set") (b:=true) hT (by rw[J9];kernel_rfl) ?_);refine Js (λ E2=>absurd E2 (by decide)) (λ _=>?_);refine Js (λ _=>?_) (λ E2=>absurd (by decide +kernel) E2);refine Vh (Q7 hT ?_);exact Vi h
theorem qeO(hh:A.handled=none)(hS:qX prog w s.heap S ys)(h:∀(h':Heap)(tk:Nat)(d:Drawn)(c7:List Value)(zs:List Str),(∀ b o,s.heap.get? b=some o->h'.get? b=some o)->s.heap.objs.size<h'.objs.size->zs.Perm ys->StrsAre c7 zs->R c7 { s with heap:=h',toks:=tk,drawn:=d }):
  wpAny (model prog w) A (collect (.ref S)) R E s:=by
 have c9:S<s.heap.objs.size:=by obtain⟨o,_,_,_,ho,_⟩:=hS;exact Qs ho
 have hsz:ys.length<=sizeLine:=by
  obtain⟨_,_,_,_,_,_,_,_,_,hb,_⟩:=hS;exact Qv (Za hb (by decide))
 unfold collect;refine Vh (wpAny_runValue (Jq entry_proto_collect' ?_));rw[Ym PySem.F.plain_proto_collect _];show wpAny _ A.in1 (newList [] >>= λ l=>again (.builtin "list.__iadd__" ⟨[l,.ref S],[]⟩)) _ _ s
 refine Vh (Ub ?_);refine Vi ⟨Qp PySem.F.plain_list_iadd _,Jq entry_list_iadd' ?_⟩;rw[Ym PySem.F.plain_list_iadd _];have hL:(s.heap.push { cls:=.type "list",data:=.seq ([]:List Value).toArray }).get? s.heap.objs.size=some { cls:=.type "list",data:=.seq #[] }:=Yw _ rfl;show wpAny _ A.in1 (Builtin.List.listExtendWith (.ref s.heap.objs.size) (.ref S) (.ref s.heap.objs.size)) _ _ _
 have O6:qX prog w (s.heap.push { cls:=.type "list",data:=.seq ([]:List Value).toArray }) S ys:=by
  obtain⟨o,es,ep,t,ho,rest⟩:=hS;exact⟨o,es,ep,t,XG _ ho,rest⟩
 unfold Builtin.List.listExtendWith;refine Vh (Q7 (T:="set") (O6.typeIs (s:={ s with heap:=s.heap.push { cls:=.type "list",data:=.seq ([]:List Value).toArray } })) ?_);have h1:Builtin.List.listSameRef (.ref s.heap.objs.size) (.ref S)=false:=by simp[Builtin.List.listSameRef];exact Qw c9
 simp only[h1,show(Value.type "set" == Value.type "list")=false by decide,show(Value.type "set" == Value.type "tuple")=false by decide,Qh,Zj,Vo];refine Vh (qkV (s:={ s with heap:=s.heap.push { cls:=.type "list",data:=.seq ([]:List Value).toArray } }) O6 λ I h2 d zs fp St hz eW hI hIfp C5 W st=>?_);have nZ:(s.heap.push { cls:=.type "list",data:=.seq ([]:List Value).toArray }).objs.size=s.heap.objs.size+1:=Jw _ _;have hI':s.heap.objs.size+1<=I:=by have:(s.heap.push { cls:=.type "list",data:=.seq ([]:List Value).toArray }).objs.size<=I:=hI;omega
 have uR:=eW _ _ hL;have lI:qX prog w h2 S ys:=by
  obtain⟨o,es,ep,t,ho,rest⟩:=O6;exact⟨o,es,ep,t,eW _ _ ho,rest⟩
 refine Vh (Qn (qkW (lI.typeIs (s:={ s with heap:=h2,drawn:=d })) ?_));have W6:∀ b o,s.heap.get? b=some o->h2.get? b=some o:=λ b o e=>eW b o (XG _ e)
 have hnf:s.heap.objs.size∉fp:=λ hm=>by
  rcases(C5 _ hm).2 with e|e
  ·exact absurd c9 (by rw[<- e];exact Qc _)
  ·have e:(s.heap.push { cls:=.type "list",data:=.seq ([]:List Value).toArray }).objs.size<=s.heap.objs.size:=e;rw[nZ] at e;exact absurd e (Nat.not_succ_le_self _)
 have key:∀(h:Heap)(c₁:Nat),St 0 h->(∀ b o,b≠s.heap.objs.size->h2.get? b=some o->h.get? b=some o) ->
   h.get? s.heap.objs.size=some { cls:=.type "list",data:=.seq #[] c₁ } ->
   codeAny (model prog w) A (.builtin "list.extend.loop" ⟨[.ref s.heap.objs.size,.ref I,.ref s.heap.objs.size],[]⟩) (λ r s'=>∃ h' tk R1 c',r=.ok (.ret (.ref s.heap.objs.size))/\s'={ s with heap:=h',toks:=tk,drawn:=d } /\
    (∀ b o,s.heap.get? b=some o->h'.get? b=some o)/\h'.get? s.heap.objs.size=some { cls:=.type "list",dict:=none,data:=.seq R1 c',slots:=#[] }/\ItemsOf (qdC zs) R1 ys.length) { s with heap:=h,drawn:=d }:=by
  intro h c₁ L5 hk hS₁;refine codeAny_extend_loopS (W _ (by simpa using hh)).toS hsz s.heap.objs.size hnf _ ys.length 0 _ #[] c₁ rfl (Va _) L5 hS₁ (ItemsOf.nil _) λ s' R1 c' hm iA lE=>?_
  rw[Moved.eq_with hm];refine⟨s'.heap,s'.toks,R1,c',rfl,rfl,λ b o e=>hm.heap b o (λ hmem=>?_) (hk b o (Qt (Qs e)) (W6 b o e)),iA,lE⟩;have c9:=Qs e;rcases Qd.mp hmem with e'|hmem
  ·rw[e'] at c9;exact Qc _ c9
  ·rw[Zl.mp hmem] at c9;exact absurd (Za c9 (Nat.le_of_succ_le hI')) (Qc _)
 have fin:∀ r s',(∃ h' tk R1 c',r=(.ok (.ret (.ref s.heap.objs.size)):Result)/\s'={ s with heap:=h',toks:=tk,drawn:=d } /\
    (∀ b o,s.heap.get? b=some o->h'.get? b=some o)/\h'.get? s.heap.objs.size=some { cls:=.type "list",dict:=none,data:=.seq R1 c',slots:=#[] }/\ItemsOf (qdC zs) R1 ys.length) ->
   match r with | .ok (.ret v)=>wpAny (model prog w) A (do
    let .ref a:=v | unsupported "internal:collect"
    let o <- load a
    match o.data with
    |.seq xs _=>pure xs.toList
    | _=>unsupported "internal:collect") R E s' | _=>True:=by
  rintro r s' ⟨h',tk,R1,c',rfl,rfl,hk,iA,lE⟩;show wpAny _ A (load s.heap.objs.size >>= _) _ _ _
  refine Vh (wpAny_load iA (Vi (h h' tk d R1.toList zs hk (Qs iA) hz ?_)));have hzl:zs.length=ys.length:=hz.length_eq
  have:∀(as:List Value)(zs:List Str),as.length=zs.length->(∀(j:Nat) v,as[j]?=some v->qdC zs j v)->StrsAre as zs:=by
   intro as;induction as with
   |nil=>intro zs hl _;cases zs with
    |nil=>exact .nil
    |cons _ _=>simp at hl
   |cons a as ih =>
    intro zs hl hh;cases zs with
    |nil=>simp at hl
    |cons z zs =>
     obtain⟨t,e⟩:=hh 0 a rfl;have e:a=.str z t:=e;subst e;exact .cons _ _ (ih zs (by simpa using hl) λ j v e=>by
      obtain⟨t,e2⟩:=hh (j+1) v (by simpa using e);exact⟨t,by simpa using e2⟩)
  exact this _ _ (by rw[Yv,lE.1,hzl]) λ j v e=>lE.2 j v (by rw[<- XX];exact e)
 refine Js (λ _=>?_) (λ _=>Vi ⟨Qp PySem.F.plain_extend_loop _,Q6 (key _ _ st (λ b o _ e=>e) uR) λ r s' hr=>?_⟩)
 ·refine Vh (Vm ?_);refine Vh ?_;show wpAny _ _ (updateSeq s.heap.objs.size (·.push .none) >>= λ _=>updateSeq s.heap.objs.size (·.pop)) _ _ _
  refine Vh (wpAny_updateSeq uR rfl ?_);have hS₂:=XV (Obj.mapSeq (·.push Value.none)) uR rfl;refine wpAny_updateSeq (hz:=by seq_fits) hS₂ rfl ?_;have hS₃:=XV (Obj.mapSeq (·.pop)) hS₂ rfl;refine Vi ⟨Qp PySem.F.plain_extend_loop _,Q6 (key _ _ ?_ (λ b o hb e=>?_) hS₃) λ r s' hr=>?_⟩
  ·refine(W A hh).frame 0 _ _ st λ b hb o e=>?_
   have hbS:b≠s.heap.objs.size:=λ h=>hnf (h ▸ hb)
   exact(XJ _ _ (Vu hbS)).trans ((XJ _ _ (Vu hbS)).trans e)
  ·exact(XJ _ _ (Vu hb)).trans ((XJ _ _ (Vu hb)).trans e)
  ·have:=fin r s' hr
   obtain⟨_,_,_,_,rfl,_⟩:=hr;exact this
 ·have:=fin r s' hr
  obtain⟨_,_,_,_,rfl,_⟩:=hr;exact this
theorem qkX(hh:A.handled=none)(hS:qX prog w s.heap S ys)(cH:ys.length<64)(h:∀(l:Addr)(h':Heap)(tk e:Nat)(d:Drawn)(out:Array Value)(K1:List Str),(∀ b o,s.heap.get? b=some o->h'.get? b=some o)->s.heap.objs.size<=l->h'.get? l=some (seqObj "list" out e)->StrsAre out.toList K1->K1.Perm ys->sortedS K1=true ->
   Q (.ref l) { s with heap:=h',toks:=tk,drawn:=d }):wpAny (model prog w) A (call (.builtin "sorted") [.ref S]) Q E s:=by
 refine Xr kind_sorted plain_sorted entry_sorted (args_sorted1 _) ?_;unfold Builtin.«sorted»;refine Vh (m:=checkCount "sorted" 1 1 _) (Vi ?_);refine Vh (qeO (by simpa using hh) hS λ h1 tk d vs zs hk K7 hz hA=>?_);have hl:vs.length<64:=by
  have:vs.length=zs.length:=hA.length
  rw[this,hz.length_eq];exact cH
 refine Vh (Qr ?_);have iY:(h1.push (seqObj "list" vs.toArray 0)).get? h1.objs.size=some (seqObj "list" vs.toArray 0):=Yw _ rfl;refine Vh (Qn (U0 slot_list_sort ⟨_,iY,rfl⟩ entry_list_sort (list_sort_treeK strKind_oneLt iY hA.keysOf (λ v₁ v₂ rest e=>keyKind_strs (by rw[<- e];exact hA)) hl λ c5 a1 a2=>⟨_,rfl,?_⟩) (args_list_sort _)));obtain⟨K1,b1,b2,b3⟩:=sorted_out_str hA a1 a2;obtain⟨e,he⟩:=sortedHeap_at (out:=(arrOf c5).map (·.2)) iY;refine Vi ⟨_,rfl,h h1.objs.size _ tk e d _ K1 (λ b o q=>?_) (Qv K7) he b1 (b2.trans hz) b3⟩;have q1:=hk b o q;have hb:=Qs q1;rw[sortedHeap_old (Qt hb) (by rw[Jw];exact Z0 hb)];exact XG _ q1
end
section
variable {X:Cx}
theorem qaQ(hc:X.calm=true):y9 X (.builtin "sorted") (λ xs H Q=>∃ p ys,xs=[.ref p]/\H p=some (qfy X.prog X.w p ys)/\ys.length<64/\∀ l,H l=none->Q (.ref l) (upd H l (.lst ((qbE ys).map V.str)))):=by
 intro pins s σ H xs us Q I r h;obtain⟨p,ys,rfl,hp,cH,q⟩:=h;obtain⟨u,rfl,ru⟩:=yk r;cases ru
 obtain⟨o8,B8,hS⟩:=I.set hp;refine qkX (I.ok.hd hc) hS (by rw[B8.length_eq];exact cH) λ l h' tk e d out K1 hk K7 he h1 h2 h3=>?_
 have es:=qfv (h2.trans B8) h3;subst es;have hf:=I.hok.fresh K7;refine⟨.ref l,upd H l (.lst ((qbE ys).map V.str)),I.call' (s':={ s with heap:=h',toks:=tk,drawn:=d }) (ch:=[]) rfl (Un.laid hk K7 hf) (I.hok.laid hk K7 ⟨?_,out.toList,e,vC h1,he⟩) I.bare (λ _ z=>nomatch z),rfl,q _ hf⟩
 have:(qbE ys).length=ys.length:=(h2.trans B8).length_eq
 rw[U5,this];exact Qv (Za cH (by decide))
end
theorem qnR:∀ n,n<1024->((SetTable.sizeAbove (2*n)-1=7∨SetTable.sizeAbove (2*n)-1=15∨SetTable.sizeAbove (2*n)-1=31∨SetTable.sizeAbove (2*n)-1=63∨SetTable.sizeAbove (2*n)-1=127∨SetTable.sizeAbove (2*n)-1=255∨SetTable.sizeAbove (2*n)-1=511∨SetTable.sizeAbove (2*n)-1=1023∨SetTable.sizeAbove (2*n)-1=2047)/\n<=SetTable.sizeAbove (2*n)-1):=by decide +kernel
theorem qhX(h:n<1024):kZ (SetTable.sizeAbove (2*n)-1):=by
 rcases(qnR n h).1 with e|e|e|e|e|e|e|e|e <;> rw[e]
 ·exact qnQ
 ·exact qor
 ·exact qos
 ·exact qot
 ·exact qmM
 ·exact qmN
 ·exact qmO
 ·exact qkR
 ·exact qkS
section
variable {prog:Program}{w:World}{A:Around}{E:Value->Shared->Prop}{s:Shared}
theorem jr{t:SetTable}:t.fits n=true ↔ (t.place.size=n/\t.place.size+t.dummies.size<=t.mask):=by
 unfold SetTable.fits;rw[Uo,Vj];exact⟨λ ⟨a,b⟩=>⟨a,Ui b⟩,λ ⟨a,b⟩=>⟨a,J8 b⟩⟩
theorem qbI(xs:Array α)(i:Nat):(SetTable.eraseAt xs i).toList=xs.toList.eraseIdx i:=by
 unfold SetTable.eraseAt;rw[Y2,Yn,Yn,List.eraseIdx_eq_take_drop_succ,Xs,Xs,J0,Nat.sub_zero];congr 1
 exact XL (by simp)
theorem qbJ(xs:Array α)(h:i<xs.size):(SetTable.eraseAt xs i).size+1=xs.size:=by
 rw[<- Yv,qbI,Xk (by simpa using h),Yv];omega
theorem qel(xs:Array α)(p:Nat)(x:α):(SetTable.insertAt xs p x).size=xs.size+1:=by
 unfold SetTable.insertAt;simp
 omega
theorem qbK:∀{xs:List α}{l:List β}(i:Nat),Paired F xs l->Paired F (xs.eraseIdx i) (l.eraseIdx i)
 |_,_,_,.nil=>.nil
 |_,_,0,.cons _ t=>t
 |_,_,i+1,.cons r t=>.cons r (qbK i t)
theorem js{α:Type}:∀{l:List α}{i:Nat}{x y:α},l.Nodup->l[i]?=some x->(y∈l.eraseIdx i ↔ (y∈l/\y≠x))
 | [],_,_,_,_,h=>by simp at h
 |a::l,0,x,y,nd,h=>by
  have ex:a=x:=by simpa using h
  subst ex;have B9:=U7.mp nd;show y∈l ↔ _
  constructor
  ·intro hy;exact⟨Yj _ hy,λ e=>B9.1 (e ▸ hy)⟩
  ·rintro⟨hy,K6⟩;rcases Qd.mp hy with e | e
   ·exact absurd e K6
   ·exact e
 |a::l,i+1,x,y,nd,h=>by
  have B9:=U7.mp nd;have hx:l[i]?=some x:=by simpa using h
  have ih:=js (y:=y) B9.2 hx;rw[X8,Qd,ih,Qd];have fB:a≠x:=λ e=>B9.1 (e ▸ Yl hx)
  constructor
  ·rintro(e | ⟨h1,h2⟩)
   ·exact⟨.inl e,e ▸ fB⟩
   ·exact⟨.inr h1,h2⟩
  ·rintro⟨e | h1,h2⟩
   ·exact .inl e
   ·exact .inr ⟨h1,h2⟩
theorem qfB(hS:qX prog w s.heap a ys)(h0:x∉ys->Q false s)(h1:x∈ys->∀ h' o8,Heap.SameBut a s.heap h'->(∀ y,y∈o8 ↔ (y∈ys/\y≠x))->o8.length<=ys.length->qX prog w h' a o8->Q true { s with heap:=h' }):
  wpAny (model prog w) A (setDiscardHashed a (.str x t0) ((qw prog w).hash (.inr x))) Q E s:=by
 obtain⟨o,es,ep,t,ho,hex,hd,hp,nd,hb,hf,hl,w6⟩:=hS;have eY:=qdz hp;have K8:(qw prog w).is (.inr x) (.str x t0)=true:=zm _ _ _ _;have hsc:(Value.str x t0).scannable=true:=rfl;have c8:es.size<scanBound:=by rw[<- Yv,<- hp.length];exact hb
 unfold setDiscardHashed setFind setFindIn;refine Vh (Vh (Uf ho hd hf ?_));dsimp only;rw[byScan_of hsc c8 eY];simp only[↓reduceIte];refine Vh (Vm ?_);refine Vh (wpAny_setScan_of K8 ho hd hf eY ?_);cases hr:List.findIdx? (λ e=>(qw prog w).is (.inr x) e.2) es.toList with
 |none =>
  dsimp only;refine Vi (Vi (h0 λ hx=>?_));obtain⟨e,he,q⟩:=(qdA hp (.inr x)).mpr ⟨x,hx,rfl⟩
  have:=List.findIdx?_eq_none_iff.mp hr e he
  rw[q] at this;exact Bool.noConfusion this
 |some j =>
  dsimp only;refine Vi ?_;dsimp only;rw[Q2];obtain⟨hj,gT,_⟩:=List.findIdx?_eq_some_iff_getElem.mp hr;have hjs:j<es.size:=by simpa using hj
  obtain⟨y,hy,hye,t',hye2⟩:=qa3 hp j es.toList[j] (Xy hj);have exy:y=x:=by
   have:=(qw prog w).inj _ _ _ gT (by rw[hye2];exact zm prog w y t')
   exact(Sum.inr.inj this).symm
  subst exy;refine Vh (Uf ho hd hf ?_);dsimp only;have hsz:=qbJ es hjs;refine Vh (Ud ho hd ?_ (Ue (by omega)));have P3:Paired (qca prog w) (ys.eraseIdx j) (SetTable.eraseAt es j).toList:=by rw[qbI];exact qbK j hp
  obtain⟨iU,nJ⟩:=jr.mp hf;have hpj':t.place[j]?=some (t.place[j]'(by omega)):=Xq (by omega);have fZ:t.drop j={ t with place:=SetTable.eraseAt t.place j,dummies:=SetTable.insertAt t.dummies (SetTable.below t.dummies (t.place[j]'(by omega))) (t.place[j]'(by omega)) }:=by
   unfold SetTable.drop;rw[hpj']
  have hf1:(t.drop j).fits (SetTable.eraseAt es j).size=true:=by
   rw[fZ];have e1:=qbJ t.place (i:=j) (by omega);have e2:=qel t.dummies (SetTable.below t.dummies (t.place[j]'(by omega))) (t.place[j]'(by omega));refine jr.mpr ⟨?_,?_⟩
   ·show(SetTable.eraseAt t.place j).size=_
    omega
   ·show(SetTable.eraseAt t.place j).size+(SetTable.insertAt t.dummies (SetTable.below t.dummies (t.place[j]'(by omega))) (t.place[j]'(by omega))).size<=t.mask
    omega
  have K7:(ys.eraseIdx j).length<=ys.length:=List.length_eraseIdx_le _ _;obtain⟨_,O6⟩:=jn (P:=prog) (w:=w) ho hex hd P3 (nd.sublist (List.eraseIdx_sublist _ _)) (Zf K7 hb) hf1 (by rw[fZ];exact hl) (by
   rcases w6 with e|e
   ·rw[e];exact .inl rfl
   ·exact .inr (by rw[fZ];exact e))
  refine Vh (wpAny_point ?_);exact Vi (h1 (Yl hy) _ _ (Y1 _ _ _) (λ z=>js nd hy) K7 O6)
theorem qeP {α:Type}(f:α->β->Sem (ForInStep β))(I:List α->β->Shared->Prop)(Q:β->Shared->Prop)(turn:∀ x rest b s,I (x::rest) b s->wpAny M A (f x b) (λ r s'=>match r with|.yield b'=>I rest b' s'|.done b'=>Q b' s') E s)(fin:∀ b s,I [] b s->Q b s)(xs:Array α)(b:β)(h:I xs.toList b s):wpAny M A (forIn xs b f) Q E s:=by
 rw[<- Array.forIn_toList];exact wpAny_forIn_list f I Q turn fin _ b h
theorem qgL(hA:qX prog w s.heap a ys)(hB:qX prog w s.heap b zs)(h:Q true s):wpAny (model prog w) A (setsQuiet [a,b]) Q E s:=by
 have one:∀{c:Addr}{us:List Str},qX prog w s.heap c us->∀{R:Array (Int×Value)->Shared->Prop},(∀ es:Array (Int×Value),(∀ e∈es,∃ x t,e.2=.str x t)->R es s)->wpAny (model prog w) A (setEntries c) R E s:=by
  intro c us hC R hR;obtain⟨o,es,ep,t,ho,hex,hd,hp,nd,hb,hf,hl,w6⟩:=hC;refine Y9 ho hd hf (hR es λ e he=>?_);have lB:e∈es.toList:=by simpa using he
  obtain⟨k,hk⟩:=List.mem_iff_getElem?.mp lB;obtain⟨y,_,_,t',e2⟩:=qa3 hp k e hk;exact⟨y,t',e2⟩
 unfold setsQuiet;refine Vh (wpAny_forIn_list _ (λ rest r s'=>s'=s/\r=⟨none,()⟩/\∀ c∈rest,c=a∨c=b) _ ?turn ?fin _ _ ⟨rfl,rfl,by simp⟩)
 case turn =>
  rintro c rest r s' ⟨rfl,rfl,hc⟩;have hC:∃ us,qX prog w s'.heap c us:=by
   rcases hc c Zb with e|e
   ·exact⟨_,e ▸ hA⟩
   ·exact⟨_,e ▸ hB⟩
  obtain⟨us,hC⟩:=hC;refine Vh (one hC λ es hes=>?_);refine Vh (qeP _ (λ rest r O9=>O9=s'/\r=⟨none,()⟩/\∀ e∈rest,∃ x t,e.2=.str x t) _ ?turn2 ?fin2 _ _ ⟨rfl,rfl,λ e he=>hes e (by simpa using he)⟩)
  case turn2 =>
   rintro e aA2 r O9 ⟨rfl,rfl,he⟩;obtain⟨x,t,ex⟩:=he e Zb;obtain⟨e1,e2⟩:=e;have ex:e2=.str x t:=ex;subst ex;exact Vi ⟨rfl,rfl,λ e h=>he e (Yj _ h)⟩
  case fin2 =>
   rintro r O9 ⟨rfl,rfl,_⟩;exact Vi ⟨rfl,rfl,λ c h=>hc c (Yj _ h)⟩
 case fin =>
  rintro r s' ⟨rfl,rfl,_⟩;exact Vi h
theorem qcL(K6:f≠a)(hA:qX prog w s.heap a ys)(hF:qX prog w s.heap f zs)(h:∀ x9 o8 h' d,o8.Perm ys->Paired (qca prog w) o8 x9.toList->Heap.SameBut f s.heap h'->qX prog w h' f zs->Q x9 { s with heap:=h',drawn:=d }):wpAny (model prog w) A (setWalkUnseen a [f] (some f)) Q E s:=by
 obtain⟨o,es,ep,t,ho,hex,hd,hp,nd,hb,hf,hl,w6⟩:=id hA;have c8:es.size=ys.length:=by rw[<- Yv,<- hp.length]
 have same:Heap.SameBut f s.heap s.heap:=⟨rfl,λ _ _=>rfl⟩;have walk:wpAny (model prog w) A (setWalk a) Q E s:=qjJ ho hd hf hl λ x9 d iX=>by
  obtain⟨o8,h1,h2⟩:=yU hp iX;exact h x9 o8 s.heap d h1 h2 same hF
 unfold setWalkUnseen;refine Vh (Uf ho hd hf ?_);dsimp only;unfold setsByText;refine Vh (Vh (Uy (Vi ?_)));dsimp only;refine Js (λ _=>?_) (λ hc=>?_)
 ·exact walk
 ·refine Vh (qgL hA hF ?_);simp only[Qj,Zj,Vo];refine Vh (Vm ?_);obtain⟨o2,es2,ep2,t2,W4,hex2,bK,bC,dI,cE,hf2,W5,tQ⟩:=id hF;have O5:es2.size<scanBound:=by rw[<- Yv,<- bC.length];exact cE
  refine Vh (Uf W4 bK hf2 ?_);dsimp only;have gU:¬ byT w:=λ hb=>hc (by
   have:w.params.followText "set-order"=true:=hb
   show(w.params.followText "set-order" || _ || _)=true
   rw[this];rfl)
  have cC:t.led=true:=hl.resolve_right gU;have tZ:t2.led=true:=W5.resolve_right gU;refine Js (λ _=>?_) (λ _=>?_)
  ·refine Vh (Ud W4 bK ?_ (Ue O5));obtain⟨_,lI⟩:=jn (P:=prog) (w:=w) (t':={ t2 with led:=t2.led && t.led,plain:=t2.plain && t.plain }) W4 hex2 bK bC dI cE (jr.mpr (jr.mp hf2)) (.inl (by show(t2.led && t.led)=true;rw[cC,tZ];rfl)) (by
    rcases tQ with e|e
    ·exact .inl e
    ·exact .inr (by show(t2.plain && t.plain)=false;rw[e];rfl))
   exact Vi (h es ys _ s.drawn (Jz _) hp (Y1 _ _ _) lI)
  ·exact Vi (h es ys s.heap s.drawn (Jz _) hp same hF)
theorem qcM(K6:r≠l)(hL:qX prog w s.heap l ys)(hR:qX prog w s.heap r zs)(hb:ys.length+zs.length+1<scanBound)(h:∀ us h' d,(∀ x,x∈us ↔ ((x∈zs/\x∉ys)∨(x∈ys/\x∉zs)))->Heap.SameBut r s.heap h'->qX prog w h' r us->Q () { s with heap:=h',drawn:=d }):
  wpAny (model prog w) A (Builtin.Frozenset.symmetricDifferenceUpdate nm r (.ref l)) Q E s:=by
 have oX:=hL.typeIs (s:=s);obtain⟨o,es,ep,t,ho,hex,hd,hp,nd,hbl,hf,hl,w6⟩:=id hL;unfold Builtin.Frozenset.symmetricDifferenceUpdate;have e1:(Value.ref l == Value.ref r)=false:=by
  have:¬ (Value.ref l=Value.ref r):=λ e=>K6 (by injection e with e;exact e.symm)
  simpa using this
 rw[e1];simp only[Zj,Vo];refine Vh (Q7 oX ?_);rw[show(Value.type "set" == Value.type "dict")=false by decide];simp only[Zj,Vo];refine Vh (qax oX ?_);simp only[Vw];refine Vh (Vi ?_);show wpAny _ _ (setEpoch l >>= _) _ _ s
 refine Vh (Uh ho hd hf ?_);refine Qn ?_;refine Vh (qcL K6 hL hR λ x9 o8 h1 d hpy iX aW uP=>?_);have B9:o8.Nodup:=hpy.nodup_iff.mpr nd;refine Vh (qeP _ (λ rest u s'=>∃ qs ps us h',o8=qs++ps/\Paired (qca prog w) ps rest/\s'={ s with heap:=h',drawn:=d }/\Heap.SameBut r s.heap h'/\qX prog w h' r us /\
   (∀ x,x∈us ↔ ((x∈zs/\x∉qs)∨(x∈qs/\x∉zs)))/\us.length<=zs.length+qs.length) _ ?turn ?fin _ _ ⟨[],o8,zs,h1,rfl,iX,rfl,aW,uP,by simp,by simp⟩)
 case turn =>
  rintro⟨eh,ex⟩ rest u s' ⟨qs,ps,us,h',e,cP,rfl,G2,hU,hm,hul⟩;cases cP with
  | @cons p _ ps _ hpe1 cP =>
   obtain⟨q1,t',q2⟩:=hpe1;have q1:eh=(qw prog w).hash (.inr p):=q1;have q2:ex=.str p t':=q2;subst q1 q2;have iW:p∉qs:=λ hq=>by
    rw[e] at B9;exact(Zy.mp B9).2.2 p hq p Zb rfl
   have c8:qs.length+ps.length+1=ys.length:=by
    have:=hpy.length_eq
    rw[e,Ze,Uj] at this;omega
   have go:∀(h2:Heap)(iC:List Str),Heap.SameBut r h' h2->qX prog w h2 r iC->(∀ x,x∈iC ↔ ((x∈zs/\x∉qs++[p])∨(x∈qs++[p]/\x∉zs)))->iC.length<=zs.length+(qs++[p]).length ->
     wpAny (model prog w) A (Builtin.Frozenset.unchanged nm l ep) (λ _ s'=>wpAny (model prog w) A (pure (ForInStep.yield PUnit.unit)) (λ r_1 sA=>match r_1 with
      |.yield b'=>∃ qs ps us h',o8=qs++ps/\Paired (qca prog w) ps rest/\sA={ s with heap:=h',drawn:=d }/\Heap.SameBut r s.heap h'/\qX prog w h' r us/\(∀ x,x∈us ↔ ((x∈zs/\x∉qs)∨(x∈qs/\x∉zs)))/\us.length<=zs.length+qs.length
      |.done b'=>wpAny (model prog w) A (pure ()) Q E sA) E s') E { s with heap:=h2,drawn:=d }:=by
    intro h2 iC w4 uO lA W5;unfold Builtin.Frozenset.unchanged;have W4:h2.get? l=some o:=(w4.2 l (Vu K6)).trans ((G2.2 l (Vu K6)).trans ho);refine Vh (Uh W4 hd hf ?_);simp only[Ug,Zj,Vo];refine Vi (Vi ⟨qs++[p],ps,iC,h2,by rw[e,Zx];rfl,cP,rfl,G2.trans w4,uO,lA,W5⟩)
   refine Vh (Qn (Vh (qfB (s:={ s with heap:=h',drawn:=d }) hU (λ rD=>?_) (λ rD h2 iC w4 lA hle2 uO=>?_))))
   ·simp only[Bool.not_false,Vw];refine Vh (qgF (s:={ s with heap:=h',drawn:=d }) hU (by omega) (λ hx=>absurd hx rD) (λ _ h2 iC w4 bC uO=>?_));refine Vi (Vh (go h2 iC w4 uO (λ x=>?_) ?_))
    ·rw[bC.mem_iff,U3,Zl,hm x,U3,Zl];have hz:p∉zs:=λ hz=>rD ((hm p).mpr (.inl ⟨hz,iW⟩))
     by_cases aV:x=p
     ·subst aV;simp[hz]
     ·simp[aV]
    ·rw[bC.length_eq,Ze,Ze];simp;omega
   ·simp only[Qj,Zj,Vo];refine Vi (Vh (go h2 iC w4 uO (λ x=>?_) ?_))
    ·rw[lA x,hm x,U3,Zl];have hz:p∈zs:=by
      rcases(hm p).mp rD with⟨h1,_⟩|⟨h1,_⟩
      ·exact h1
      ·exact absurd h1 iW
     by_cases aV:x=p
     ·subst aV;simp[hz]
     ·simp[aV]
    ·rw[Ze];simp;omega
 case fin =>
  rintro u s' ⟨qs,ps,us,h',e,cP,rfl,G2,hU,hm,hul⟩;cases cP
  rw[U6] at e;refine Vi (h us h' d (λ x=>?_) G2 hU);rw[hm x,<- e,hpy.mem_iff]
theorem qmS(K6:r≠o)(hr:s.heap.get? r=some (qK w))(hO:qX prog w s.heap o ys)(hn:ys.length<1024)(h:∀ us h',us.Perm ys->Heap.SameBut r s.heap h'->qX prog w h' r us->Q () { s with heap:=h' }):wpAny (model prog w) A (setMerge r o wX) Q E s:=by
 obtain⟨ob,es,ep,t,ho,hex,hd,hp,nd,hb,hf,hl,w6⟩:=id hO;have c8:es.size=ys.length:=by rw[<- Yv,<- hp.length]
 have cC:((!(w.params.followText "set-order")) && t.led)=true∨byT w:=by
  by_cases hb:byT w
  ·exact .inr hb
  ·refine .inl ?_;have e1:w.params.followText "set-order"=false:=Z2.mpr hb;rw[e1,hl.resolve_right hb];rfl
 unfold setMerge;have e1:(r == o)=false:=by simpa using K6
 rw[e1];simp only[Zj,Vo];refine Vh (Uf ho hd hf ?_);dsimp only;by_cases h0:es.isEmpty=true
 ·rw[h0];simp only[Vw];have e0:ys=[]:=by
   have:es.size=0:=by simpa using h0
   exact Xd (by omega)
  have:=h [] s.heap (by rw[e0]) ⟨rfl,λ _ _=>rfl⟩ (jI hr)
  cases s
  exact Vi this
 ·have uX:es.isEmpty=false:=Z2.mpr h0;have hpos:0<es.size:=by
   rcases Nat.eq_zero_or_pos es.size with e|e
   ·exact absurd (by simpa using e) h0
   ·exact e
  have P1:t.plain=false:=by
   rcases w6 with e|e
   ·have:ys.length=0:=by rw[e];rfl
    omega
   ·exact e
  rw[uX];simp only[Zj,Vo];have O5:es.size<scanBound:=by rw[c8];exact hb
  have mW:∀(s1:Shared)(T:SetTable)(ep1:Nat),s1.heap.get? r=some { cls:=.type "set",dict:=none,data:=.set #[] ep1 T }->Heap.SameBut r s.heap s1.heap->s1={ s with heap:=s1.heap }->T.place=#[]->T.dummies=#[]->T.led=(!(w.params.followText "set-order"))->kZ T.mask->es.size<=T.mask ->
    wpAny (model prog w) A (do
     let (_,_,ts) <- setState r
     match ts.road t with
     |.slotForSlot=>storeSet r es { t with finger:=ts.finger,led:=ts.led && t.led,moves:=ts.moves,plain:=ts.plain && t.plain }
     |.clean =>
      let (es,t) <- (do
        let some (t,t5):=(SetTable.laid ts.mask ts.finger ts.moves (led:=ts.led && t.led) (plain:=ts.plain && t.plain) (es.map (·.1))) | unsupported "internal:set-table-without-room"
        let x9:=t5.filterMap (es[·]?)
        if x9.size != es.size then unsupported "internal:set-table-lost-an-element"
        pure (x9,t))
      storeSet r es t
     |.oneByOne =>
      for (h,x) in <- setWalkUnseen o [r] (some r) do
       let _ <- holding [x] (setAddHashed r x h)
       wX
       if (<- setState o).2.1 != ep then unsupported "set.changed-during-merge") Q E s1:=by
   intro s1 T ep1 G1 aW M3 oO uG hld hg K7;have hf1:T.fits (#[]:Array (Int×Value)).size=true:=jr.mpr ⟨by rw[oO];rfl,by rw[oO,uG];simp⟩;refine Vh (Uf G1 rfl hf1 ?_);dsimp only;have nJ:T.fill=0:=by unfold SetTable.fill;rw[oO,uG];rfl
   unfold SetTable.road;rw[nJ];simp only[Ug,Zj,Vo];by_cases hc:(T.mask == t.mask && t.dummies.isEmpty)=true
   ·rw[Vz hc];dsimp only;refine Ud G1 rfl ?_ (Ue O5);obtain⟨_,hS⟩:=jn (P:=prog) (w:=w) (t':={ t with finger:=T.finger,led:=T.led && t.led,moves:=T.moves,plain:=T.plain && t.plain }) G1 ⟨rfl,rfl,rfl⟩ rfl hp nd hb (jr.mpr (jr.mp hf)) (by rw[hld];exact cC) (.inr (by show(T.plain && t.plain)=false;rw[P1,Jx]));rw[M3];exact h ys _ (Jz _) (aW.trans (Y1 _ _ _)) hS
   ·rw[V0 hc];dsimp only;obtain⟨t',t5,el,q1,q2,q3,q4,q5,q6,q7⟩:=qiW hg T.finger T.moves (T.led && t.led) (T.plain && t.plain) (es.map (·.1)) (by simpa using K7);rw[el];dsimp only;have iX:(t5.filterMap (es[·]?)).toList.Perm es.toList:=by
     rw[Array.toList_filterMap];exact qhW es (by simpa using q7)
    have hsz:(t5.filterMap (es[·]?)).size=es.size:=by rw[<- Yv,iX.length_eq,Yv]
    rw[hsz];simp only[Ug,Zj,Vo];refine Vh (Vi ?_);dsimp only;obtain⟨us,hu,rD⟩:=yU hp iX;refine Ud G1 rfl ?_ (Ue (by rw[hsz];exact O5));obtain⟨_,hS⟩:=jn (P:=prog) (w:=w) (t':=t') G1 ⟨rfl,rfl,rfl⟩ rfl rD (hu.nodup_iff.mpr nd) (by rw[hu.length_eq];exact hb) (by rw[hsz];simpa using q1) (by rw[q2,hld];exact cC) (.inr (by rw[q3,P1,Jx]));rw[M3];exact h us _ hu (aW.trans (Y1 _ _ _)) hS
  have V2:(SetTable.fresh 0 0 (!(w.params.followText "set-order"))).fits (#[]:Array (Int×Value)).size=true:=rfl;unfold setRoomFor;refine Vh (Vh (Uf hr rfl V2 ?_));have hrf:(SetTable.fresh 0 0 (!(w.params.followText "set-order"))).roomFor es.size=if es.size*5 ≥ 21 then some (es.size*2) else none:=by
   unfold SetTable.roomFor SetTable.fill SetTable.fresh;simp
  dsimp only;rw[hrf];by_cases h5:es.size*5 ≥ 21
  ·rw[Vz h5];dsimp only;unfold setRelay;refine Vh (Uf hr rfl V2 ?_);dsimp only;have eU:es.size<1024:=by omega
   have hgm:=qhX eU;have hmm:=qnR es.size eU;rw[Qx es.size 2];have hsl:¬ SetTable.sizeAbove (2*es.size) > sizeLine:=by
    have h256:SetTable.sizeAbove (2*es.size)<=2048:=by
     rcases hmm.1 with e|e|e|e|e|e|e|e|e <;> omega
    have:(2048:Nat)<=sizeLine:=by decide
    omega
   rw[V0 hsl];obtain⟨t',t5,el,q1,q2,q3,q4,q5,q6,q7⟩:=qiW hgm (SetTable.fresh 0 0 (!(w.params.followText "set-order"))).finger ((SetTable.fresh 0 0 (!(w.params.followText "set-order"))).movedTo (SetTable.sizeAbove (2*es.size)-1)) (SetTable.fresh 0 0 (!(w.params.followText "set-order"))).led (SetTable.fresh 0 0 (!(w.params.followText "set-order"))).plain ((#[]:Array (Int×Value)).map (·.1)) (by simp);have er:(SetTable.fresh 0 0 (!(w.params.followText "set-order"))).relaid ((#[]:Array (Int×Value)).map (·.1)) (2*es.size)=some (t',t5):=el;rw[er];have eo:t5=#[]:=by
    have:=q7.length_eq
    simp at this;exact this
   subst eo;refine Vh (m:=(do
        if ((#[]:Array Nat).filterMap ((#[]:Array (Int×Value))[·]?)).size != (#[]:Array (Int×Value)).size then unsupported "internal:set-table-lost-an-element"
        pure (((#[]:Array Nat).filterMap ((#[]:Array (Int×Value))[·]?)),t'):Sem (Array (Int×Value)×SetTable))) ?_
   rw[show((#[]:Array Nat).filterMap ((#[]:Array (Int×Value))[·]?))=#[] from rfl];simp only[Ug,Zj,Vo];refine Vi ?_;dsimp only;refine Ud hr rfl ?_ (by decide);have hg2:(s.heap.update r (Obj.putSet #[] t')).get? r=some { cls:=.type "set",dict:=none,data:=.set #[] (0+1) t' }:=by
    have:=XV (Obj.putSet (#[]:Array (Int×Value)) t') hr (by rw[putSet_of #[] t' rfl];rfl)
    rw[putSet_of #[] t' rfl] at this;exact this
   refine mW { s with heap:=s.heap.update r (Obj.putSet #[] t') } t' 1 hg2 (Y1 _ _ _) rfl ?_ q5 q2 (by rw[q4];exact hgm) (by rw[q4];exact hmm.2);exact Array.eq_empty_of_size_eq_zero (by simpa using q6)
  ·rw[V0 h5];dsimp only;refine Vi ?_;exact mW s _ 0 hr ⟨rfl,λ _ _=>rfl⟩ rfl rfl rfl rfl qnQ (by show es.size<=7;omega)
theorem qkY(h:Q (.ref s.heap.objs.size) { s with heap:=s.heap.push (qK w) }):wpAny (model prog w) A (newSet (.type "set")) Q E s:=by
 unfold newSet setsByText;refine Vh (Vh (Uy (Vi ?_)));dsimp only;simp only[newObj];exact Vh (wpAny_alloc (Vi h))
theorem qpC(hL:qX prog w s.heap l ys)(hR:qX prog w s.heap r zs)(hn:zs.length<1024)(hm:ys.length<1024)(h:∀ us h' d,us.Nodup->(∀ x,x∈us ↔ ((x∈zs/\x∉ys)∨(x∈ys/\x∉zs)))->(∀ b o,s.heap.get? b=some o->h'.get? b=some o)->qX prog w h' s.heap.objs.size us->Q (.ref s.heap.objs.size) { s with heap:=h',drawn:=d }):
  wpAny (model prog w) A (binaryOp .BitXor (.ref l) (.ref r)) Q E s:=by
 have oX:=hL.typeIs (s:=s);have hTr:=hR.typeIs (s:=s);have rJ:l<s.heap.objs.size:=by obtain⟨_,_,_,_,e,_⟩:=hL;exact Qs e
 have iS:r<s.heap.objs.size:=by obtain⟨_,_,_,_,e,_⟩:=hR;exact Qs e
 refine wpAny_binaryOp_same (op:=.BitXor) oX hTr PySem.F.fills_set_xor PySem.F.slot_set_xor (U0 PySem.F.slot_set_xor oX F.entry_set_xor ?_ (PySem.F.args_set_xor_2 _ _));unfold Builtin.«frozenset.__xor__»;show wpAny _ _ ((Builtin.Frozenset.isAnySet (.ref l) <&&> Builtin.Frozenset.isAnySet (.ref r)) >>= _) _ _ s
 refine Vh (Vh (qax oX ?_));show wpAny _ _ (Builtin.Frozenset.isAnySet (.ref r)) _ _ s
 refine qax hTr ?_;simp only[Qj,Zj,Vo];refine Vh (Vi ?_);refine Vh ?_;show wpAny _ _ (Builtin.Frozenset.baseOf l >>= _) _ _ s
 unfold Builtin.Frozenset.baseOf;refine Vh ?_;refine Vh (Uz oX sub_set_self (Vi ?_));show wpAny _ _ (Builtin.Frozenset.newFrom _ (.type "set") (.ref r) >>= _) _ _ s
 refine Vh ?_;unfold Builtin.Frozenset.newFrom;refine Vh (qkY ?_);have oS:∀ b o,s.heap.get? b=some o->(s.heap.push (qK w)).get? b=some o:=λ b o e=>XG _ e
 have up:∀{h h':Heap}{a:Addr}{us:List Str},qX prog w h a us->(∀ o,h.get? a=some o->h'.get? a=some o)->qX prog w h' a us:=λ hS k=>by
  obtain⟨o,es,ep,t,ho,rest⟩:=hS;exact⟨o,es,ep,t,k o ho,rest⟩
 have uP:qX prog w (s.heap.push (qK w)) r zs:=up hR λ o e=>oS r o e
 have G4:(s.heap.push (qK w)).get? s.heap.objs.size=some (qK w):=Yw _ rfl;refine Vh (Vi ?_);refine Vh (Qn ?_);unfold Builtin.Frozenset.updateFrom;refine Vh (qax (uP.typeIs (s:={ s with heap:=s.heap.push (qK w) })) ?_);simp only[Vw];show wpAny _ _ (Builtin.Frozenset.merge _ s.heap.objs.size r) _ _ _
 unfold Builtin.Frozenset.merge;obtain⟨o,es,ep,t,ho,hex,hd,hp,nd,hb,hf,hl,w6⟩:=id uP;refine Vh (Uh ho hd hf ?_);refine qmS (s:={ s with heap:=s.heap.push (qK w) }) (Vu (Qt iS)) G4 uP hn λ us h2 hu w4 hU=>?_
 have eW:∀ b o,s.heap.get? b=some o->h2.get? b=some o:=λ b o e=>(w4.2 b (Qt (Qs e))).trans (oS b o e)
 refine Vi ?_;refine Vh (Vi ?_);refine Vh (Qn ?_);have uR:qX prog w h2 l ys:=up hL λ o e=>eW l o e
 refine qcM (s:={ s with heap:=h2 }) (Vu (Qt rJ)) uR hU ?_ λ vs h3 d tX hs3 hV=>?_
 ·have:=hu.length_eq
  have rM:(2048:Nat)<scanBound:=by decide
  omega
 ·refine Vi (Vi ⟨_,rfl,(λ e=>by cases e),?_⟩);refine h vs h3 d ?_ (λ x=>?_) (λ b o e=>(hs3.2 b (Qt (Qs e))).trans (eW b o e)) hV
  ·obtain⟨_,_,_,_,_,_,_,_,nd,_⟩:=hV;exact nd
  ·rw[tX x,hu.mem_iff]
end
section
variable {X:Cx}
def qqI(P:Program)(w:World):R2:=λ x y H Q=>∃ a b ys zs,x=.ref a/\y=.ref b/\H a=some (qfy P w a ys)/\H b=some (qfy P w b zs)/\ys.length<1024/\zs.length<1024 /\
 ∀ l us,H l=none->us.Nodup->(∀ x,x∈us ↔ ((x∈ys/\x∉zs)∨(x∈zs/\x∉ys)))->Q (.ref l) (upd H l (qfy P w l us))
theorem qkZ:OpR X (binaryOp .BitXor) (qqI X.prog X.w):=by
 intro pins s σ H x y v u Q I rx ry h;obtain⟨a,b,ys,zs,rfl,rfl,ha,hb,hn,hm,q⟩:=h;cases rx
 cases ry
 obtain⟨o8,hy,O6⟩:=I.set ha;obtain⟨zs',hz,lI⟩:=I.set hb;refine qpC O6 lI (by rw[hz.length_eq];exact hm) (by rw[hy.length_eq];exact hn) λ us h' d nd hm hk hU=>?_
 have hf:=I.hok.fresh (Q9 s.heap.objs.size);refine⟨.ref s.heap.objs.size,_,I.call' (s':={ s with heap:=h',drawn:=d }) (ch:=[]) rfl (Un.laid hk (Q9 _) hf) (I.hok.laid hk (Q9 _) (qiV (Jz us) hU)) I.bare (λ _ z=>nomatch z),rfl,q _ us hf nd λ x=>?_⟩;rw[hm x,hy.mem_iff,hz.mem_iff];exact Or.comm
end
namespace F
theorem qa4:Slot "reversed" "__init__" "object.__init__":=
 .of (owner:="object") (n:="__init__") (by rw[Jr,Yi];kernel_rfl) (by decide +kernel) (by decide +kernel) (by decide +kernel)
  (by first|exact .inl (by decide +kernel)|exact .inr (by decide +kernel)) (by rw[J9];kernel_rfl)
theorem called_reversed:TypeCalled "reversed" "reversed.__new__" "object.__init__":=
 ⟨by decide +kernel,by decide +kernel,⟨_,_,PySem.F.mro_reversed⟩,PySem.F.made_reversed,by decide +kernel,by rw[J9];kernel_rfl,qa4⟩
theorem no_str_reversed:typeLookup (.type "str") "__reversed__"=pure none:=by rw[Jr,Yi];kernel_rfl
theorem sub_str_dict:isSubtype (.type "str") (.type "dict")=pure false:=by rw[J9];kernel_rfl
theorem slot_reversed_next:Slot "reversed" "__next__" "reversed.__next__":=
 .of (owner:="reversed") (n:="__next__") (by rw[Jr,Yi];kernel_rfl) (by decide +kernel) (by decide +kernel) (by decide +kernel)
  (by first|exact .inl (by decide +kernel)|exact .inr (by decide +kernel)) (by rw[J9];kernel_rfl)
theorem entry_reversed_next:entryFor table "reversed.__next__"=some Builtin.«reversed.__next__»:=entryFor_of_fast (by kernel_rfl)
theorem args_reversed_next_1(a:Value):argsOk "reversed.__next__" ⟨[a],[]⟩:=by unfold argsOk;kernel_rfl
theorem slot_reversed_iter:Slot "reversed" "__iter__" "reversed.__iter__":=
 .of (owner:="reversed") (n:="__iter__") (by rw[Jr,Yi];kernel_rfl) (by decide +kernel) (by decide +kernel) (by decide +kernel)
  (by first|exact .inl (by decide +kernel)|exact .inr (by decide +kernel)) (by rw[J9];kernel_rfl)
theorem entry_reversed_iter:entryFor table "reversed.__iter__"=some Builtin.«dict_keyiterator.__iter__»:=
 Qa (id':="dict_keyiterator.__iter__") (by kernel_rfl) (by first | rfl | decide +kernel) (by decide +kernel) (by kernel_rfl)
theorem args_reversed_iter_1(a:Value):argsOk "reversed.__iter__" ⟨[a],[]⟩:=by unfold argsOk;kernel_rfl
theorem boot_reversed:bootBuiltins "reversed"=some (.type "reversed"):=by decide +kernel
end F
section
variable {prog:Program}{w:World}{A:Around}{E:Value->Shared->Prop}{s:Shared}
noncomputable abbrev qem(z:Str)(t:Tok)(i:Int):Obj:={ cls:=.type "reversed",data:=.fields #[.str z t,.int i 0] }
theorem qcN(z:Str)(t:Tok)(hz:z.length<=sizeLine):MeetsIn prog w (Builtin.«reversed.__new__» ⟨[.type "reversed",.str z t],[]⟩)
  (λ _ R s=>∀ tk,R (.ok (.ret (.ref s.heap.objs.size))) { s with heap:=s.heap.push (qem z t ((z.length:Int)-1)),toks:=tk }):=
 .of_wp λ A R s h=>by
  have hn:=kz;unfold Builtin.«reversed.__new__»;refine Vh (Vd (newClass_reversed _) ?_)
  try dsimp only
  refine Vh (Vd (a:=()) (by first|rfl|kernel_rfl) ?_);refine Vh (Vd (a:=()) (by first|rfl|kernel_rfl) ?_)
  try dsimp only
  refine Vh (Jp (Vk s z t) F.no_str_reversed ?_)
  try dsimp only
  refine Vh ?_;show wpAny _ _ (isInstance (.str z t) (.type "dict") >>= _) _ _ s
  refine Vh (Uz (Vk s z t) F.sub_str_dict ?_);simp only[Zj,Vo];refine Vh (Jp (Vk s z t) slot_str_getitem.lookup ?_)
  try dsimp only
  refine Js (λ _=>Vi ?_) (λ E2=>absurd (by decide +kernel) E2);simp only[Qj,Zj,Vo];refine Vh (len_str (by omega) ?_);refine Vh (Vi ?_);dsimp only;refine Vh (m:=newObj (.type "reversed") (.fields #[.str z t,rawInt ((z.length:Int)-1)])) (Ub ?_);exact Vi ⟨_,rfl,h _⟩
theorem qbL(hz:z.length<=sizeLine)(h:∀ tk,Q (.ref s.heap.objs.size) { s with heap:=s.heap.push (qem z t ((z.length:Int)-1)),toks:=tk }):
  wpAny (model prog w) A (call (.type "reversed") [.str z t]) Q E s:=
 callType_newIn F.called_reversed (by decide) (PySem.F.typeCall_reversed_1 _) (PySem.F.newCall_reversed_1 _) (λ obj=>PySem.F.args_object_init_2 obj _) PySem.F.entry_reversed_new (qcN z t hz)
  λ tk=>⟨⟨_,Yw _ rfl,rfl⟩,h tk⟩
theorem qk0{i:Nat}(o6:s.heap.get? I=some (qem z t (i:Int)))(hz:z.length<=sizeLine)(hc:z.cps[i]?=some c)(hQ:∀ h' tk u,h'.get? I=some (qem z t ((i:Int)-1))->Heap.SameBut I s.heap h'->Q (some (.str ⟨#[c]⟩ u)) { s with heap:=h',toks:=tk }):wpAny (model prog w) A (pyNext (.ref I)) Q E s:=by
 have hT:s.TypeIs (.ref I) "reversed":=⟨_,o6,rfl⟩;have hn:=kz;have hil:i<z.length:=(Array.getElem?_eq_some_iff.mp hc).1;unfold pyNext;refine Vh (Qq (XF (name:=Str.ofString "__next__") hT F.slot_reversed_next
  (U0 F.slot_reversed_next hT F.entry_reversed_next ?_ (F.args_reversed_next_1 _))))
 unfold Builtin.«reversed.__next__»;refine Vh (Vd (a:=(Value.ref I,[])) rfl ?_)
 try dsimp only
 refine Vh (Ve o6 rfl (x:=.str z t) rfl ?_);refine Vh (Ve o6 rfl (x:=.int (i:Int) 0) rfl ?_);dsimp only;rw[V0 (by omega)];refine Vh (Jp (Vk s z t) slot_str_getitem.lookup ?_);simp only[Option.isNone_some,Zj,Vo];refine Vh (wpAny_mkInt ?_);refine Vh (Qq (getItem_str (c:=c) (by
  have e1:decide ((i:Int) < -(2^63:Int))=false:=Jm (by omega);have e2:decide ((i:Int) ≥ 2^63)=false:=Jm (by omega);rw[e1,e2,Qh]) (by
   have e:seqIndex? (i:Int) z.length=some i:=by
    have e1:(if (i:Int)<0 then(i:Int)+(z.length:Int) else(i:Int))=(i:Int):=V0 (by omega);unfold seqIndex?;dsimp only;rw[e1,Vz (by
     rw[Uo];exact⟨J8 (by omega),J8 (by omega)⟩),Zv]
   rw[e];exact hc) ?_))
 dsimp only;refine Vh (Ve o6 rfl (x:=.int (i:Int) 0) rfl ?_);dsimp only;refine Vh (Zs o6 (by simp) λ h1 P4 aW=>?_);refine Vi ⟨_,rfl,Vi (hQ h1 _ _ ?_ aW)⟩;rw[P4];rfl
theorem qk1(hh:A.handled=none)(o6:s.heap.get? I=some (qem z t (-1)))(hQ:∀ h',Heap.ExtBut I s.heap h'->Q none { s with heap:=h' }):wpAny (model prog w) A (pyNext (.ref I)) Q E s:=by
 have hT:s.TypeIs (.ref I) "reversed":=⟨_,o6,rfl⟩;unfold pyNext;refine Vh (Qq (XF (name:=Str.ofString "__next__") hT F.slot_reversed_next
  (U0 F.slot_reversed_next hT F.entry_reversed_next ?_ (F.args_reversed_next_1 _))))
 unfold Builtin.«reversed.__next__»;refine Vh (Vd (a:=(Value.ref I,[])) rfl ?_)
 try dsimp only
 refine Vh (Ve o6 rfl (x:=.str z t) rfl ?_);refine Vh (Ve o6 rfl (x:=.int (-1) 0) rfl ?_);dsimp only;rw[Vz (by decide)];refine Vh (Vm ?_);refine Vh ?_;refine Vh (m:=setField (.ref I) 1 (rawInt (-1))) (Zs o6 (by simp) λ h1 P4 aW=>?_);refine wpAny_setField P4 rfl (by simp) ?_;refine Vh ?_;show wpAny _ _ (newExc (.type "StopIteration") [] >>= _) _ _ _
 refine Vh ?_;simp only[newExc,newTuple];refine Vh (Ub ?_ (by size_fits));refine Vh (m:=firstArgMember _ _) (Vd (a:=Value.none) (by first|rfl|(simp only[firstArgMember];rfl)) ?_);refine Ub ?_ (by size_fits);simp only[raiseNew];refine Vh (wpAny_handled ?_)
 first|rw[show A.in1.handled=none from hh]|rw[hh]
 refine Vh (Vi (wpAny_throw ?_));refine Vh (Uz (T:="StopIteration") (b:=true) ⟨_,Yw _ rfl,rfl⟩ isSubtype_stop ?_);exact Vi (hQ _ ((((aW.trans (Y1 ..))).extBut.push _).push _))
theorem qdE(o6:s.heap.get? I=some (qem z t i))(h:Q (.ref I) s):wpAny (model prog w) A (pyIter (.ref I)) Q E s:=by
 have hT:s.TypeIs (.ref I) "reversed":=⟨_,o6,rfl⟩;refine wpAny_pyIter_slot hT F.slot_reversed_iter (U0 F.slot_reversed_iter hT F.entry_reversed_iter ?_ (F.args_reversed_iter_1 _));show wpAny _ _ (ret (.ref I)) _ _ s
 exact Vi ⟨_,rfl,"reversed",_,hT,F.slot_reversed_next.lookup,h⟩
noncomputable def qk2(z:Str)(i:Nat):V:=.str ⟨#[z.cps.getD (z.length-1-i) 0]⟩
theorem Walks.rev(hh:A.handled=none)(I:Addr)(z:Str)(t:Tok)(hz:z.length<=sizeLine):
  Walks prog w A I [I] [I] z.length (λ i v=>qV (qk2 z i) v) (λ i h=>h.get? I=some (qem z t ((z.length:Int)-1-i))) where
 sub:=λ _ hb=>hb
 frame:=λ _ _ _ st hk=>hk I (by simp) _ st
 item:=λ i s Q E hi st hQ=>by
  have e:(z.length:Int)-1-i=((z.length-1-i:Nat):Int):=by omega
  rw[e] at st;have c9:z.length-1-i<z.cps.size:=by show _<z.length;omega
  refine qk0 st hz (c:=z.cps.getD (z.length-1-i) 0) ?_ λ h' tk u L8 G2=>?_
  ·rw[Xf,Xq c9];rfl
  ·refine hQ _ h' tk ⟨u,rfl⟩ ?_ λ b o hb e=>G2.extBut b o (λ h=>hb (by simp[h])) e
   rw[L8];congr 1
   have:((z.length-1-i:Nat):Int)-1=(z.length:Int)-1-((i+1:Nat):Int):=by omega
   rw[this]
 done:=λ s Q E st hQ=>by
  have e:(z.length:Int)-1-(z.length:Nat)=-1:=by omega
  rw[e] at st;exact qk1 hh st λ h' lB=>hQ h' s.toks λ b o hb e=>lB b o (λ h=>hb (by simp[h])) e
 self:=λ _ _ _ _ st hQ=>qdE st hQ
end
section
variable {X:Cx}
def qqJ(ta:TA):TI:=λ σ H R=>ta σ H λ vs H1=>∃ z,vs=[.str z]/\z.length<=sizeLine/\R (ItV z.length (qk2 z)) H1
theorem qou {pos:Pos}(hg:Gl X "reversed")(hm:X.mg "reversed"=none)(ha:PA X [l] ta)(hs:starEach [l] X.env=[(false,eval l X.env)]:=by rfl):
  PI X tg (.Call (.Name "reversed" p) [l] [] pos) (qqJ ta):=by
 intro pins s σ H R I h;refine qdv hg hm F.boot_reversed ha I h (λ us s1 vs H1 I1 r1 q1=>?_) (hs:=hs);obtain⟨z,rfl,hz,q⟩:=q1;obtain⟨u,rfl,ru⟩:=yk r1;obtain⟨t,rfl⟩:=ru;refine qbL hz λ tk=>?_
 have G4:(s1.heap.push (qem z t ((z.length:Int)-1))).get? s1.heap.objs.size=some (qem z t ((z.length:Int)-1)):=Yw _ rfl;refine qdE G4 ⟨s1.heap.objs.size,[s1.heap.objs.size],_,_,H1,rfl,I1.kept (t':=tk) λ b o e=>XG _ e,
  qa1 (qk2 z) (λ A hA=>Walks.rev hA _ z t hz) (λ i v h=>h) (λ i h st=>⟨_,_,_,st,rfl,rfl,by decide⟩) (λ _ _ _ _ _ st h=>qdE st h),?_,λ b hb=>?_,q⟩
 ·show(s1.heap.push _).get? _=some (qem z t ((z.length:Int)-1-((0:Nat):Int)))
  rw[G4];congr 1;rw[show((0:Nat):Int)=0 from rfl,Int.sub_zero]
 ·have e:b=s1.heap.objs.size:=by simpa using hb
  subst e;exact I1.fpOk (Q9 _) (I1.hok.fresh (Q9 _))
end
namespace F
theorem lk_list_keys:typeLookup (.type "list") "keys"=pure none:=by rw[Jr,Yi];kernel_rfl
theorem entry_dict_update_loop:entryFor table "dict.update.loop"=some Builtin.«dict.update.loop»:=entryFor_of_fast (by kernel_rfl)
theorem plain_dict_update_loop:plainId "dict.update.loop"=true:=by decide +kernel
end F
section
variable {prog:Program}{w:World}{A:Around}{E:Value->Shared->Prop}{s:Shared}
theorem qjK(hx:s.heap.get? a=some o)(hc:o.cls=.type "list")(uJ:o.data=.seq xs k)(hd:o.dict=none)(hA:A.handled=none)(h:∀ h' tk,(∀ b o,s.heap.get? b=some o->h'.get? b=some o)->Q none { s with heap:=h',toks:=tk }):wpAny (model prog w) A (getAttr? (.ref a) "keys") Q E s:=by
 obtain⟨c,dct,dat,sl⟩:=o;simp only at hc uJ hd;subst hc uJ hd;obtain⟨hp,g,d,tk,os⟩:=s;have hT:∀ rZ,(⟨hp,g,d,rZ,os⟩:Shared).TypeIs (.ref a) "list":=λ _=>⟨_,hx,rfl⟩
 have f1:=sub_AttributeError;have f3:=PySem.F.slot_list_getattribute.lookup;have f4:=PySem.F.slot_list_getattribute.bind (.ref a);have f5:=am_list_getattr_none;have hsz:("keys":Str).length+100<=sizeLine:=by decide
 unfold getAttr? getAttrBy? getAttrBy
 repeat (any_goals (first | assumption | exact hT _ | ((with_reducible show wpAny _ _ (call (Value.builtin "list.__getattribute__") _ _) _ _ _);refine Vl PySem.F.slot_list_getattribute (hT _) am_entry_list_getattribute (PySem.F.args_list_getattribute_2 _ _) (meets_getattribute_miss_list a xs k sl "keys" _ F.lk_list_keys (by decide +kernel) hsz) ⟨hx,hA,λ h' rZ e A1=>?_⟩) | wp_step))
 obtain⟨t',u',he⟩:=A1.there;show wpAny _ _ (getattributeRaised _ _ _ _ _ _ _) _ _ _
 unfold getattributeRaised
 repeat (any_goals (first|assumption|wp_step))
 exact h _ _ A1.keeps
noncomputable def kvK(l:List (Str×V)):List (Key×V):=l.map λ x=>(.inr x.1,x.2)
theorem qgM(a b:List (Key×V))(x:Key×V):qN a (b++[x])=yB (qN a b) x.1 x.2:=by
 unfold qN;rw[Z5];rfl
theorem qjL{s0:Shared}(hh:A.handled=none)(hlI:l≠I)(hDI:D≠I)(hDl:D≠l)(hn:items.size=zo.length)(hsz:zo.length<=sizeLine)(hp:∀(j:Nat) kv,zo[j]?=some kv->∃ p its tk u,items[j]?=some (.ref p)/\s0.heap.IsTuple p its/\its=#[.str kv.1 tk,u]/\qV kv.2 u/\p≠D/\p≠I)(hR:∀ s' cS,s'.os=s0.os->s'.gens=s0.gens->s'.drawn=s0.drawn->(∀ b o,b≠D->b≠I->s0.heap.get? b=some o->s'.heap.get? b=some o)->s'.heap.DictOf (qw prog w) D cS->KV (qN [] (kvK zo)) cS->R (.ok (.ret .none)) s'):
  ∀(k i:Nat)(s:Shared)(cS:List (Key×Value))(ti:Tok),zo.length-i=k->i<=zo.length->s.os=s0.os->s.gens=s0.gens->s.drawn=s0.drawn->(∀ b o,b≠D->b≠I->s0.heap.get? b=some o->s.heap.get? b=some o)->s.heap.IsListIter I l i->s.heap.IsList l items ->
   s.heap.DictOf (qw prog w) D cS->KV (qN [] (kvK (zo.take i))) cS->cS.length<=i->codeAny (model prog w) A (.builtin "dict.update.loop" ⟨[.ref D,.ref I,.int i ti,.none],[]⟩) R s:=by
 intro k;induction k with
 |zero =>
  intro i s cS ti hk hi e1 e2 e3 gV o6 hl hD nK gW;have bI:i=zo.length:=by omega
  subst bI;refine Jq F.entry_dict_update_loop ?_;rw[Ym F.plain_dict_update_loop _];unfold Builtin.«dict.update.loop»;refine Vh ((Walks.list (A:=A.in1) (by simpa using hh) I l hlI items).done s _ _ (by rw[hn];exact⟨o6,hl⟩) λ h' tk W6=>?_);show wpAny _ _ (Builtin.Dict.addKeywords D [] >>= _) _ _ _
  refine Vh (Vi (Vi ?_));refine hR _ cS e1 e2 e3 (λ b o V3 cE e=>W6 b o (by simpa using cE) (gV b o V3 cE e)) ?_ (by rw[Ut] at nK;exact nK);obtain⟨o,es,ep,ho,rest⟩:=hD;exact⟨o,es,ep,W6 D o (by simpa using hDI) ho,rest⟩
 |succ k ih =>
  intro i s cS ti hk hi e1 e2 e3 gV o6 hl hD nK gW;have c9:i<zo.length:=by omega
  refine Jq F.entry_dict_update_loop ?_;rw[Ym F.plain_dict_update_loop _];unfold Builtin.«dict.update.loop»;refine Vh ((Walks.list (A:=A.in1) (by simpa using hh) I l hlI items).item i s _ _ (by omega) ⟨o6,hl⟩ λ v h1 tk hP L5 W6=>?_);obtain⟨p,its,rZ,u,ei,hT,rfl,ru,hpD,hpI⟩:=hp i zo[i] (Xy c9);have ev:v=.ref p:=by rw[ei] at hP;exact(Option.some.inj hP).symm
  subst ev;obtain⟨ot,nF,hct,nt,lC⟩:=hT;have tR:h1.get? p=some ot:=W6 p ot (by simpa using hpI) (gV p ot hpD hpI nF);have hD1:h1.DictOf (qw prog w) D cS:=by
   obtain⟨o,es,ep,ho,rest⟩:=hD;exact⟨o,es,ep,W6 D o (by simpa using hDI) ho,rest⟩
  refine Vh (Qn ?_);refine Vh (wpAny_tryCatch ?_);unfold Builtin.Dict.pairItems;refine Vh (Q7 (T:="tuple") ⟨ot,tR,hct⟩ ?_);simp only[show(Value.type "tuple" == Value.type "list")=false by decide,show(Value.type "tuple" == Value.type "tuple")=true by decide,Bool.or_true,Qg,Vw];refine Vh (wpAny_seqItems tR lC ?_);refine Vi ?_;show wpAny _ _ (holding _ (dictSet D (.str zo[i].1 rZ) u)) _ _ _
  refine Qn (wpAny_dictSet_pairs (hsz:=by omega) (k:=.inr zo[i].1) (zm prog w _ rZ) hD1 λ h2 lL w4=>?_);refine Vi ⟨Qp F.plain_dict_update_loop _,?_⟩;refine ih (i+1) { s with heap:=h2,toks:=tk+1 } (stored cS (.inr zo[i].1) u) 0 (by omega) c9 e1 e2 e3 (λ b o V3 cE e=>(w4.2 b V3).trans (W6 b o (by simpa using cE) (gV b o V3 cE e))) ?_ ?_ lL ?_ ?_
  ·exact L5.1.at λ o e=>(w4.2 I (Vu hDI)).trans e
  ·exact L5.2.at λ o e=>(w4.2 l (Vu hDl)).trans e
  ·have et:zo.take (i+1)=zo.take i++[zo[i]]:=by rw[List.take_succ,Xy c9];rfl
   rw[et];unfold kvK;rw[Jd,Qe,List.map_nil,qgM];exact nK.put _ ru
  ·have:=nK.length
   have h2:=(nK.put (.inr zo[i].1) ru).length;rw[<- h2];have h3:=yS (qN [] (kvK (zo.take i))) (.inr zo[i].1) zo[i].2;omega
end
section
variable {X:Cx}
theorem qcy:∀{xs:List α}{l:List β},Paired F xs l->∀(k:Nat)(b:β),l[k]?=some b->∃ a,xs[k]?=some a/\F a b
 |_,_,.nil,k,b,h=>by simp at h
 |_,_,.cons r t,0,b,h=>by simp at h;subst h;exact⟨_,rfl,r⟩
 |_,_,.cons r t,k+1,b,h=>by
  obtain⟨a,h1,h2⟩:=qcy t k b (by simpa using h);exact⟨a,by simpa using h1,h2⟩
def qov(K:W.Frag):List V->Hp->VK->Prop:=λ xs H Q=>∃(p:Addr)(ps:List Addr)(zo:List (Str×V)),xs=[.ref p]/\SqL K H p (ps.map V.ref)/\Paired (λ a kv=>SqT K H a [.str kv.1,kv.2]) ps zo /\
 ∀ d,H d=none->Q (.ref d) (upd H d (.dK (qN [] (kvK zo))))
theorem qgN(hc:X.calm=true):y9 X (.type "dict") (qov X.K):=by
 intro pins s σ H xs us Q I r h;obtain⟨l,ps,zo,rfl,hq,cP,q⟩:=h;obtain⟨u,rfl,ru⟩:=yk r;cases ru
 obtain⟨its,rv,⟨ol,nl,hol,gW,hdl,hsl⟩,hz⟩:=I.list hq;have hA:=I.ok.hd hc;have rJ:l<s.heap.objs.size:=Qs hol;have c8:ps.length=zo.length:=cP.length;have hits:its.length=zo.length:=by rw[<- rv.length,U5];exact c8
 have hsz:zo.length<=sizeLine:=by rw[U5] at hz;omega
 refine callType_codes (Q₁:=λ obj s₁=>obj=.ref s.heap.objs.size/\s₁={ s with heap:=s.heap.push { cls:=.type "dict",data:=.dict #[] } }) PySem.F.kt_called_dict (PySem.F.kt_typeCall_dict_1 _) PySem.F.entry_dict_init (kt_code_dict_new _ ⟨rfl,rfl⟩) ?_;rintro obj s₁ ⟨rfl,rfl⟩;have G4:(s.heap.push { cls:=.type "dict",data:=.dict #[] }).DictOf (qw X.prog X.w) s.heap.objs.size []:=Heap.DictOf.new s.heap;refine⟨G4.typeIs,PySem.F.args_dict_init_2 _ _,?_⟩;unfold Builtin.«dict.__init__»;refine Vh ?_;unfold Builtin.Dict.selfAndRest;refine Vh (wpAny_notOrdered_dict G4.typeIs ?_);show wpAny _ _ (pure (s.heap.objs.size,[Value.ref l])) _ _ _
 refine Vi ?_;show wpAny _ _ (Builtin.Dict.updateFrom "dict.__init__" s.heap.objs.size (.ref l) [] .none) _ _ _
 unfold Builtin.Dict.updateFrom;have oP:(s.heap.push { cls:=.type "dict",data:=.dict #[] }).get? l=some ol:=XG _ hol;refine Vh (Q7 (T:="list") ⟨ol,oP,gW⟩ ?_);rw[Vz (by decide)];refine Vh (qjK (s:={ s with heap:=s.heap.push { cls:=.type "dict",data:=.dict #[] } }) oP gW hsl hdl (by simpa using hA) λ h2 tk2 eW=>?_);simp only[Option.isNone_none,Vw];refine Vh (Vm ?_);have tT:h2.get? l=some ol:=eW l ol oP;have W5:h2.IsList l its.toArray:=⟨ol,tT,gW,nl,hsl⟩;have lL:h2.DictOf (qw X.prog X.w) s.heap.objs.size []:=by
  obtain⟨o,es,ep,ho,rest⟩:=G4;exact⟨o,es,ep,eW _ o ho,rest⟩
 have oY:s.heap.objs.size<h2.objs.size:=by
  obtain⟨o,es,ep,ho,rest⟩:=lL;exact Qs ho
 have hllt:l<h2.objs.size:=Qs tT;refine Vh (Ua (s:={ s with heap:=h2,toks:=tk2 }) W5 ?_);refine Vi ⟨Qp F.plain_dict_update_loop _,?_⟩;have rK:∀ b o,s.heap.get? b=some o->(h2.push { cls:=.type "list_iterator",data:=.fields #[.ref l,.int 0 0] }).get? b=some o:=λ b o e=>XG _ (eW b o (XG _ e))
 refine qjL (A:=X.A.in1) (I:=h2.objs.size) (l:=l) (D:=s.heap.objs.size) (items:=its.toArray) (zo:=zo) (s0:={ s with heap:=h2.push { cls:=.type "list_iterator",data:=.fields #[.ref l,.int 0 0] },toks:=tk2 })
  (by simpa using hA) (Qt hllt) (Qt oY) (Qw rJ) (by rw[Zu];exact hits) hsz ?_ ?_ zo.length 0 _ [] 0 (by omega) (Va _) rfl rfl rfl (λ b o _ _ e=>e) ?_ ?_ ?_ (by rw[J4];exact .nil) (Q9 _)
 ·intro j kv hkv;obtain⟨p,gT,hT⟩:=qcy cP j kv hkv;obtain⟨tis,rt,pt,_⟩:=I.tuple hT;obtain⟨u1,u2,e2,r1,r2⟩:=qiO rt;obtain⟨t1,rfl⟩:=r1;subst e2;obtain⟨ot,nF,hct,nt,lC⟩:=pt;have tP:p<s.heap.objs.size:=Qs nF;obtain⟨v,hv,rvv⟩:=rv.get (i:=j) (x:=.ref p) (by rw[Zt,gT];rfl);cases rvv
  refine⟨p,_,t1,u2,by simpa using hv,⟨ot,rK p ot nF,hct,nt,lC⟩,rfl,r2,Qt tP,Qt (Nat.lt_trans tP oY)⟩
 ·intro s' cS e1 e2 e3 gV hD nK;refine⟨rfl,?_⟩;have hf:=I.hok.fresh (Q9 s.heap.objs.size);have hk4:∀ b o,s.heap.get? b=some o->s'.heap.get? b=some o:=λ b o e=>gV b o (Qt (Qs e)) (Qt (Nat.lt_trans (Qs e) oY)) (rK b o e)
  have hmz:(qN [] (kvK zo)).length<=sizeLine:=by
   have gen:∀(ls c7:List (Key×V)),(qN c7 ls).length<=c7.length+ls.length:=by
    intro ls;induction ls with
    |nil=>intro c7;exact Q9 _
    |cons x ls ih =>
     intro c7;show(qN (yB c7 x.1 x.2) ls).length<=_
     have:=ih (yB c7 x.1 x.2)
     have h3:=yS c7 x.1 x.2;rw[Uj];omega
   have:=gen (kvK zo) []
   have e:(kvK zo).length=zo.length:=by unfold kvK;rw[U5]
   simp at this;omega
  refine⟨.ref s.heap.objs.size,_,I.call' (s':=s') (ch:=[]) e1 (Un.laid hk4 (Q9 _) hf) (I.hok.laid hk4 (Q9 _) (qdj hmz (Y8.mpr (Vu (Qt I.big))) nK hD)) (by rw[e2];exact I.bare) (λ _ z=>nomatch z),rfl,q _ hf⟩
 ·exact⟨_,Yw _ rfl,rfl,rfl⟩
 ·exact W5.push _
 ·obtain⟨o,es,ep,ho,rest⟩:=lL;exact⟨o,es,ep,XG _ ho,rest⟩
theorem qcz{pos:Pos}(S:CompScope X NY o caps scope)(I2:Inv X pins σ H2 s2)(C5:∀ b∈fp,jF X pins H2 b)(l8:tn 0 s2.heap)(Wk:∀ C,Walk (zt X NY scope C s2 H2 fp pins) tg fp it tn adv stop)(ht:∀ C,PTs (zt X NY scope C s2 H2 fp pins) A5 tt)(he:∀ C,PE (zt X NY scope C s2 H2 fp pins) E3 te)(h:yY o caps adv stop tt te σ H2 Q)(fin:∀(s4:Shared)(H3:Hp)(m:Str->Option Value),s4.heap.Ns (s2.heap.objs.size+1) m->Inv X pins σ H3 s4->H3 (s2.heap.objs.size+1)=none->Q (.ref s2.heap.objs.size) H3->R (.ok .next) s4):
  wpAny (model X.prog X.w) X.A (newList []) (λ c7 s₃=>wpAny (model X.prog X.w) X.A (newFunctionEnv scope X.env.globals (zW X.env scope.names []) [] X.env.qual none .none (some X.env)) (λ N8 s₄ =>
   c7=.ref s2.heap.objs.size/\N8.locals=s2.heap.objs.size+1/\codeAny (model X.prog X.w) X.A (.compStart (.ListComp E3 [⟨tg,iter,A5,0⟩] scope pos) 0 (.ref it) c7 { N8 with scope:=relabel scope X.env }) R s₄) X.xe s₃) X.xe s2:=by
 refine Ub (wpAny_newFunctionEnv S.nocell (by intro y hy;simp at hy) (λ h₁ hns₁ O4₁=>?_) S.kind);dsimp only at hns₁ O4₁ ⊢;have hC:(s2.heap.push { cls:=.type "list",dict:=none,data:=.seq ([]:List Value).toArray }).objs.size=s2.heap.objs.size+1:=Jw _ _;rw[hC] at hns₁ O4₁ ⊢;have n8:∀ b ob,s2.heap.get? b=some ob->h₁.get? b=some ob:=λ b ob e =>
  (O4₁.2 b (Qt (Z0 (Qs e)))).trans (XG _ (XG _ e))
 have hD:∃ n,h₁.get? s2.heap.objs.size=some { cls:=.type "list",data:=.seq ([]:List Value).toArray n }:=
  ⟨_,(O4₁.2 _ (Qt (Uk _))).trans (XG _ (Yw _ rfl))⟩
 have V2:H2 s2.heap.objs.size=none:=I2.hok.fresh (Q9 _);obtain⟨W,⟨m0,w0⟩,turn⟩:=h _ V2;have dH:=(Wk 0).obj 0 s2.heap l8;have I4:=qgB S I2 C5 (λ b hb=>(dH b hb).imp λ _ q=>q.1) (hns:=hns₁) n8 hD (s2.toks+([]:List (Str×Value)).length);have mV:tn 0 h₁:=(Wk 0).keep _ _ _ l8 λ b _ ob e=>n8 b ob e
 have wJ:∀ b∈fp,upd H2 s2.heap.objs.size (.lst []) b=none:=λ b hb=>by
  obtain⟨ob,e,_⟩:=dH b hb;rw[qu (Qt (Qs e))];exact(C5 b hb).1
 have loop:codeAny (model X.prog X.w) X.A (.compLoop (.ListComp E3 [⟨tg,iter,A5,0⟩] scope pos) 0 (.ref it) (.ref s2.heap.objs.size) (compEnvC scope (zW X.env scope.names []) (s2.heap.objs.size+1) X.env))
   R { s2 with heap:=h₁,toks:=s2.toks+([]:List (Str×Value)).length }:=by
  have Wk:=Wk (s2.heap.objs.size+1);have ht:=ht (s2.heap.objs.size+1);have he:=he (s2.heap.objs.size+1);generalize hY:zt X NY scope (s2.heap.objs.size+1) s2 H2 fp pins=Y at Wk ht he I4;have fS:∀{H':Hp},(∀ b∈fp,H' b=none)->∀ b∈fp,jF Y [] H' b:=λ{H'} hn b hb=>by
   subst hY;obtain⟨ob,e,_⟩:=dH b hb;have k:=I4.ok.exf b hb;refine⟨hn b hb,k.1,I4.ok.exfs b hb,.inl hb,k.2,λ p hp=>?_⟩;have B8:p∈X.pn++pins:=by
    have:p∈(X.pn++pins)++[]:=hp
    simpa using this
   exact(C5 b hb).2.2.2.2.2 p B8
  refine vz (λ n s'=>∃ i ys H',Inv Y [] (stY o caps σ) H' s'/\tn i s'.heap/\(∀ b∈fp,H' b=none)/\W i n ys H') ?_ m0 ⟨0,[],_,I4,mV,wJ,w0⟩;rintro n s3 ⟨i,ys,H3,I3,K3,bS,w3⟩;have eE:Y.xe=λ _ _=>False:=by subst hY;rfl
  have wY:Y.prog=X.prog/\Y.w=X.w/\Y.A=X.A/\Y.env=compEnvC scope (zW X.env scope.names []) (s2.heap.objs.size+1) X.env:=by subst hY;exact⟨rfl,rfl,rfl,rfl⟩
  obtain⟨eP,ew,eA,ee⟩:=wY;rw[<- eP,<- ew,<- eA,<- ee,<- eE];rcases turn i n ys H3 w3 with⟨stp,qn⟩|av
  ·refine thn (Wk.done i [] s3 _ H3 I3 (fS bS) K3 stp) λ r s4 ⟨hr,I5⟩=>?_
   subst hr;obtain⟨m,hn,_⟩:=id I5.loc;have eC:Y.env.locals=s2.heap.objs.size+1:=by rw[ee];rfl
   rw[eC] at hn;have u:=I5.base;have eQ:=I5.hok;have B6:=I5.free;rw[eC] at B6;have S7:=I5.bare;have tS:=I5.os;subst hY;have hs:Heap.SameBut (s2.heap.objs.size+1) s4.heap s4.heap:=⟨rfl,λ _ _=>rfl⟩;have u2:Un (frs X.stack) fp H2 H3 s2.heap s4.heap:=Un.but u hs (Vb _);have eR:HOk X.prog X.w H3 s4.heap:=HOk.but eQ hs B6;refine fin s4 H3 m hn ?_ B6 qn;obtain⟨hh,g,d,t,oB⟩:=s4;obtain rfl:oB=s2.os:=tS;exact Inv.call (s:=s2) (h':=hh) (g':=g) (d':=d) (t':=t) (ch:=fp) I2 u2 eR S7 λ b hb=>⟨(C5 b hb).2.2.2.1,(C5 b hb).2.1,(C5 b hb).2.2.2.2.1,(C5 b hb).2.2.2.2.2⟩
  ·refine thn (Wk.item i [] s3 _ H3 _ I3 (fS bS) K3 av) λ r s4 ⟨u,hr,h4⟩=>?_
   subst hr;refine thn h4 λ _ s5 h5=>thn h5 λ _ s6 ⟨σ6,H6,I6,⟨kp,q6⟩,S0,wI⟩=>?_
   have xS:=I6.pinned (fp:=fp) (fS wI) (Wk.obj _ _ S0);refine thn (ht _ s6 σ6 H6 _ xS q6) λ b s7 ⟨H7,I7,q7⟩=>?_
   cases b with
   |false =>
    obtain⟨m',hm,w7⟩:=q7;obtain⟨J1,J2,J3⟩:=zJ (tg:=tg) (tn:=tn) (i:=i+1) (Wk.obj _ _ S0) (λ h' k=>Wk.keep _ _ _ S0 k) I7;exact⟨m',hm,i+1,ys,H7,J1.weak kp.2.symm kp.get,J2,J3,w7⟩
   |true =>
    refine thn (he _ s7 σ6 H7 _ I7 q7) λ y s8 ⟨yv,H8,I8,r8,uU,sZ,m',hm,w8⟩=>?_
    refine thn (zG (X:=Y) _ s8 σ6 H8 (.ref s2.heap.objs.size) [yv] _ _ (λ v H'=>v=.non/\H'=upd H8 s2.heap.objs.size (.lst (ys++[yv]))) I8 rfl (.cons r8 .nil) ⟨_,ys,yv,rfl,rfl,uU,sZ,rfl,rfl⟩) λ v s9 ⟨_,H9,I9,_,_,e9⟩=>?_
    subst e9;obtain⟨J1,J2,J3⟩:=zJ (tg:=tg) (tn:=tn) (i:=i+1) (Wk.obj _ _ S0) (λ h' k=>Wk.keep _ _ _ S0 k) I9;exact⟨m',hm,i+1,ys++[yv],_,J1.weak kp.2.symm kp.get,J2,J3,w8⟩
 exact⟨rfl,rfl,XR loop ((Wk 0).self _ 0 _ _ _ mV loop)⟩
theorem qbM{Q:St->Hp->Prop}{R:Flow->Shared->Prop}(I2:Inv X pins σ H2 s2)(hN:X.N.Nodup)(hi:X.N[i]?=some x)(hx:X.env.scope.names.lookup x=some .local)(hR:∀ s H,Inv X pins (σ.set i (some (.ref s2.heap.objs.size))) H s->Q (σ.set i (some (.ref s2.heap.objs.size))) H->R .next s)(hn:s4.heap.Ns (s2.heap.objs.size+1) m)(I4:Inv X pins σ H3 s4)(hf:H3 (s2.heap.objs.size+1)=none)(q:Q (σ.set i (some (.ref s2.heap.objs.size))) H3):
  wpAny (model X.prog X.w) X.A (assign (.Name x w5) X.env (.ref s2.heap.objs.size)) (λ _ O9=>∃ m,O9.heap.Ns (s2.heap.objs.size+1) m/\∀ h',Heap.SameBut (s2.heap.objs.size+1) O9.heap h'->R .next { O9 with heap:=h' }) X.xe s4:=by
 have hCL:s2.heap.objs.size+1≠X.env.locals:=Qw (Z0 I2.lt);have S4:∀ y c,X.env.cells.lookup y=some c->c≠s2.heap.objs.size+1:=λ y c e=>by
  obtain⟨v,o,ho,_⟩:=I2.cell y c e;exact Qt (Z0 (Qs ho))
 refine wpAny_assign_Name (qeu (v:=.ref s2.heap.objs.size) I4 hN hi (.inl hx) rfl (λ s5 I5 O4=>?_) (.inr hx));obtain⟨a,sb,ha⟩:=O4;have hCa:s2.heap.objs.size+1≠a:=by
  rcases ha with e|e
  ·rw[e];exact hCL
  ·exact Vu (S4 x a e)
 refine⟨m,hn.sameBut sb hCa,λ h' hs=>hR _ H3 ?_ q⟩;refine I5.turned (it:=s2.heap.objs.size+1) (t':=s5.toks) (λ b o hb e=>(hs.2 b hb).trans e) hf hCL (.inr (Z6 I2.sz)) S4 λ p hp=>?_
 obtain⟨e,_⟩:=I2.pin p hp;exact Qt (Z0 (Qs e))
theorem qfC {pos:Pos}(hN:X.N.Nodup)(hi:X.N[i]?=some x)(hx:X.env.scope.names.lookup x=some .local)(S:CompScope X NY o caps scope)(hc:X.calm=true)(o6:PI X tg iter wi)(hg:∀ C s H fp pins,PG (zt X NY scope C s H fp pins) tg g)(ht:∀ C s H fp pins,PTs (zt X NY scope C s H fp pins) A5 tt)(he:∀ C s H fp pins,PE (zt X NY scope C s H fp pins) E3 te)(hsw:swapsWith (.ListComp E3 [⟨tg,iter,A5,0⟩] scope cpos) (some (.Name x w5)) pos.line X.env=pure true:=by rfl)(hs:∀ x,foldedSetIterable iter X.env x=pure x:=by intro _;rfl):PS X (.Assign [.Name x w5] (.ListComp E3 [⟨tg,iter,A5,0⟩] scope cpos) pos) (qkv (qkK o caps wi g tt te) (kc i)):=by
 intro pins s σ H D I h;rw[exec_Assign_Name_used _ _ _ _ hsw];refine Vh (Qo (Vh ?_));refine Vh (X4 (env:=X.env) (use:=some (assign (.Name x w5) X.env)) (g:=⟨tg,iter,A5,0⟩) (gs:=[]) rfl hs (yl λ y hy e=>I.ok.has _ (S.frees y hy e)) S.kind S.locs ?_);refine thn (o6 pins s σ H _ I h) λ v s1 h1=>thn h1 λ gS s2 h2=>?_
 obtain⟨it,fp,tn,J,H2,e,I2,T,l8,f2,hr⟩:=h2;subst e;refine thn (qcz (iter:=iter) (pos:=cpos) (R:=λ r s'=>r=.ok .next/\wpAny (model X.prog X.w) X.A (assign (.Name x w5) X.env (.ref s2.heap.objs.size)) (λ _ O9=>∃ m,O9.heap.Ns (s2.heap.objs.size+1) m/\∀ h',Heap.SameBut (s2.heap.objs.size+1) O9.heap h'->SP X pins D .next { O9 with heap:=h' }) X.xe s')
  S I2 f2 l8 (λ C=>Turn.walk (Y:=zt X NY scope C s2 H2 fp pins) hc T (hg _ _ _ _ _)) (λ C=>ht _ _ _ _ _) (λ C=>he _ _ _ _ _) hr λ s4 H3 m hn I4 hf q=>⟨rfl,qbM (Q:=D.nx) (R:=SP X pins D) I2 hN hi hx (λ s H I q=>⟨_,H,I,q⟩) hn I4 hf q⟩) λ c7 s3 h3=>thn h3 λ N8 s4 h4=>?_
 obtain⟨rfl,eC,h4⟩:=h4;refine Q6 h4 λ r s5 ⟨er,h5⟩=>?_
 subst er;show wpAny _ _ (assign (.Name x w5) X.env (.ref s2.heap.objs.size)) _ _ s5
 rw[eC];refine thn h5 λ _ s6 ⟨m,hn,h6⟩=>⟨m,hn,λ h' G2=>?_⟩
 exact Vi (Vi (h6 h' G2))
theorem qk3 {pos:Pos}(hN:X.N.Nodup)(hi:X.N[i]?=some x)(hx:X.env.scope.names.lookup x=some .local)(S:CompScope X NY o caps scope)(hc:X.calm=true)(o6:PI2 X (.Tuple es k x8) iter wi)(hg:∀ C s H fp pins,PGs (zt X NY scope C s H fp pins) es t)(hn:∀ env,(assignEach es env).length=n)(L5:∀ env,(assignEach es env).findIdx? (·.1)=none)(ht:∀ C s H fp pins,PTs (zt X NY scope C s H fp pins) A5 tt)(he:∀ C s H fp pins,PE (zt X NY scope C s H fp pins) E3 te)(hsw:swapsWith (.ListComp E3 [⟨.Tuple es k x8,iter,A5,0⟩] scope cpos) (some (.Name x w5)) pos.line X.env=pure true:=by rfl)(hs:∀ x,foldedSetIterable iter X.env x=pure x:=by intro _;rfl):PS X (.Assign [.Name x w5] (.ListComp E3 [⟨.Tuple es k x8,iter,A5,0⟩] scope cpos) pos) (qkv (qkL o caps wi n t tt te) (kc i)):=by
 intro pins s σ H D I h;rw[exec_Assign_Name_used _ _ _ _ hsw];refine Vh (Qo (Vh ?_));refine Vh (X4 (env:=X.env) (use:=some (assign (.Name x w5) X.env)) (g:=⟨.Tuple es k x8,iter,A5,0⟩) (gs:=[]) rfl hs (yl λ y hy e=>I.ok.has _ (S.frees y hy e)) S.kind S.locs ?_);refine thn (o6 pins s σ H _ I h) λ v s1 h1=>thn h1 λ gS s2 h2=>?_
 obtain⟨it,fp,tn,J,H2,e,I2,T,l8,f2,hr⟩:=h2;subst e;refine thn (qcz (iter:=iter) (pos:=cpos) (R:=λ r s'=>r=.ok .next/\wpAny (model X.prog X.w) X.A (assign (.Name x w5) X.env (.ref s2.heap.objs.size)) (λ _ O9=>∃ m,O9.heap.Ns (s2.heap.objs.size+1) m/\∀ h',Heap.SameBut (s2.heap.objs.size+1) O9.heap h'->SP X pins D .next { O9 with heap:=h' }) X.xe s')
  S I2 f2 l8 (λ C=>Turn2.walk (Y:=zt X NY scope C s2 H2 fp pins) hc T (hg _ _ _ _ _) (hn _) (L5 _)) (λ C=>ht _ _ _ _ _) (λ C=>he _ _ _ _ _) hr λ s4 H3 m hn I4 hf q=>⟨rfl,qbM (Q:=D.nx) (R:=SP X pins D) I2 hN hi hx (λ s H I q=>⟨_,H,I,q⟩) hn I4 hf q⟩) λ c7 s3 h3=>thn h3 λ N8 s4 h4=>?_
 obtain⟨rfl,eC,h4⟩:=h4;refine Q6 h4 λ r s5 ⟨er,h5⟩=>?_
 subst er;show wpAny _ _ (assign (.Name x w5) X.env (.ref s2.heap.objs.size)) _ _ s5
 rw[eC];refine thn h5 λ _ s6 ⟨m,hn,h6⟩=>⟨m,hn,λ h' G2=>?_⟩
 exact Vi (Vi (h6 h' G2))
end
theorem qi.seqT{K:W.Frag}(e:qi H H')(h:SqT K H a xs):SqT K H' a xs:=by
 rcases h with(h|⟨o,h⟩)|h
 ·exact .inl (.inl (e _ _ h))
 ·exact .inl (.inr ⟨o,e _ _ h⟩)
 ·exact .inr h
theorem qi.up(h:H p=none):qi H (upd H p o):=qdy h o
theorem qi.to(s:qi H H1)(h:H1 p=none):qi H (upd H1 p o):=s.trans (qdy h o)
theorem qi.at(s:qi H H1)(h:H p=none):qi H (upd H1 p o):=λ b u q=>by rw[qu (zk q h)];exact s b u q
theorem qhY(frees:List Str)(k:scope.kind=.function)(nd:NY.Nodup)(nc:scope.names.all (λ y=>y.2 != .cell)=true)(lc:scope.names.all (λ y=>y.2 != .local || scope.names.lookup y.1 == some .local)=true)(fr:scope.names.all (λ y=>y.2 != .free || frees.contains y.1)=true)(fk:∀ x∈frees,X.env.kindOf x=some .cell∨X.env.kindOf x=some .free)(xC:∀(j i:Nat),caps[j]?=some i->∃ x,NY[o+j]?=some x/\X.N[i]?=some x/\scope.names.lookup x=some .free)(len:NY.length=o+caps.length):CompScope X NY o caps scope where
 kind:=k
 nd:=nd
 nocell:=λ y hy e=>by have:=Up.mp nc y hy;rw[e] at this;cases this
 frees:=λ y hy e=>by
  have:=Up.mp fr y hy
  rw[e] at this;exact fk _ (XY.mp this)
 locs:=λ y hy e=>by
  have:=Up.mp lc y hy
  rw[e] at this;simpa using this
 capOk:=xC
 len:=len
theorem csc(frees:List Str)(k:scope.kind=.function)(fk:∀ x∈frees,X.env.kindOf x=some .cell∨X.env.kindOf x=some .free)(xC:∀(j i:Nat),caps[j]?=some i->∃ x,NY[o+j]?=some x/\X.N[i]?=some x/\scope.names.lookup x=some .free)(len:NY.length=o+caps.length)(h:NY.Nodup ∧ scope.names.all (λ y=>y.2 != .cell)=true ∧ scope.names.all (λ y=>y.2 != .local || scope.names.lookup y.1 == some .local)=true ∧ scope.names.all (λ y=>y.2 != .free || frees.contains y.1)=true:=by decide +kernel):CompScope X NY o caps scope:=qhY frees k h.1 h.2.1 h.2.2.1 h.2.2.2 fk xC len
theorem yw{X:Cx}{NY:List Str}{scope:Scope}:∀(j i:Nat),([]:List Nat)[j]?=some i->∃ x,NY[o+j]?=some x/\X.N[i]?=some x/\scope.names.lookup x=some .free:=λ j i h=>by simp at h
theorem j2{X:Cx}{NY:List Str}{scope:Scope}(h0:NY[o]?=some x)(h1:X.N[a]?=some x)(h2:scope.names.lookup x=some .free)(hr:∀(j i:Nat),as[j]?=some i->∃ x,NY[o+1+j]?=some x/\X.N[i]?=some x/\scope.names.lookup x=some .free):
  ∀(j i:Nat),(a::as)[j]?=some i->∃ x,NY[o+j]?=some x/\X.N[i]?=some x/\scope.names.lookup x=some .free
 |0,i,h=>by simp at h;subst h;exact⟨x,h0,h1,h2⟩
 |j+1,i,h=>by
  obtain⟨y,q⟩:=hr j i (by simpa using h);exact⟨y,by rw[show o+(j+1)=o+1+j by omega];exact q.1,q.2⟩
theorem qbN(n:Nat)(out:Nat->List V)(h0:out 0=[])(c8:∀ i,i<n->(out i).length<sizeLine)(turn:∀(i:Nat)(H:Hp)(D:Addr)(Y:V->Hp->Prop)(Z:Hp->Prop),i<n->H1 D=none->H D=some (.lst (out i))->qi H1 H ->
   (∀ y H4,H4 D=some (.lst (out i))->qi H1 H4->out (i+1)=out i++[y]->Y y H4)->(∀ H3,H3 D=some (.lst (out i))->qi H1 H3->out (i+1)=out i->Z H3) ->
   adv i (stY o caps σ) H λ σ2 H2=>Kp o (stY o caps σ) σ2/\tt σ2 H2 λ b H3=>if b=true then te σ2 H3 Y else Z H3)(stp:∀ H,qi H1 H->stop n H)(fin:∀(D:Addr)(H:Hp),H1 D=none->qi H1 H->H D=some (.lst (out n))->Q (.ref D) H):yY o caps adv stop tt te σ H1 Q:=by
 intro D hD;refine⟨λ i m ys H=>m=n-i/\i<=n/\ys=out i/\H D=some (.lst (out i))/\qi H1 H,⟨n,by simp,Va _,h0.symm,by rw[h0];exact qc,qi.up hD⟩,?_⟩;rintro i m ys H ⟨rfl,hi,rfl,hH,sm⟩;by_cases c9:i<n
 ·refine .inr (turn i H D _ _ c9 hD hH sm (λ y H4 e1 e2 e3=>⟨e1,c8 i c9,n-(i+1),by omega,rfl,c9,e3.symm,by rw[e3];exact qc,e2.at hD⟩) (λ H3 e1 e2 e3=>⟨n-(i+1),by omega,rfl,c9,e3.symm,by rw[e3];exact e1,e2⟩))
 ·have e:i=n:=by omega
  subst e;exact .inl ⟨stp H sm,fin D H hD sm hH⟩
theorem ym(n:Nat)(R:Nat->List V->Hp->Prop)(h0:∀ D,H1 D=none->R 0 [] (upd H1 D (.lst [])))(c8:∀ i ys H,i<n->R i ys H->ys.length<sizeLine)(turn:∀(i:Nat)(ys:List V)(H:Hp)(D:Addr)(Y:V->Hp->Prop)(Z:Hp->Prop),i<n->H1 D=none->H D=some (.lst ys)->qi H1 H->R i ys H ->
   (∀ y H4,H4 D=some (.lst ys)->qi H1 H4->R (i+1) (ys++[y]) (upd H4 D (.lst (ys++[y])))->Y y H4)->(∀ H3,H3 D=some (.lst ys)->qi H1 H3->R (i+1) ys H3->Z H3) ->
   adv i (stY o caps σ) H λ σ2 H2=>Kp o (stY o caps σ) σ2/\tt σ2 H2 λ b H3=>if b=true then te σ2 H3 Y else Z H3)(stp:∀ H,qi H1 H->stop n H)(fin:∀(D:Addr)(H:Hp)(ys:List V),H1 D=none->qi H1 H->H D=some (.lst ys)->R n ys H->Q (.ref D) H):yY o caps adv stop tt te σ H1 Q:=by
 intro D hD;refine⟨λ i m ys H=>m=n-i/\i<=n/\H D=some (.lst ys)/\qi H1 H/\R i ys H,⟨n,by simp,Va _,qc,qi.up hD,h0 D hD⟩,?_⟩;rintro i m ys H ⟨rfl,hi,hH,sm,r⟩;by_cases c9:i<n
 ·refine .inr (turn i ys H D _ _ c9 hD hH sm r (λ y H4 e1 e2 e3=>⟨e1,c8 i ys H c9 r,n-(i+1),by omega,rfl,c9,qc,e2.at hD,e3⟩) (λ H3 e1 e2 e3=>⟨n-(i+1),by omega,rfl,c9,e1,e2,e3⟩))
 ·have e:i=n:=by omega
  subst e;exact .inl ⟨stp H sm,fin D H ys hD sm hH r⟩
section
variable {K:W.Frag}{o:Nat}{caps:List Nat}{g:TG}{tg:TGs}{tt:TT}{te:TE}{σ:St}{H1:Hp}{Q:VK}
abbrev qgO(o:Nat)(caps:List Nat)(σ:St)(tt:TT)(te:TE)(Y:V->Hp->Prop)(Z:Hp->Prop):St->Hp->Prop:=λ σ2 H2=>Kp o (stY o caps σ) σ2/\tt σ2 H2 λ b H3=>if b=true then te σ2 H3 Y else Z H3
theorem k4(hx:SqL K H1 a xs)(out:Nat->List V)(h0:out 0=[])(c8:∀ i,i<xs.length->(out i).length<sizeLine)(turn:∀(i:Nat)(x:V)(H:Hp)(D:Addr)(Y:V->Hp->Prop)(Z:Hp->Prop),xs[i]?=some x->H1 D=none->H D=some (.lst (out i))->qi H1 H ->
   (∀ y H4,H4 D=some (.lst (out i))->qi H1 H4->out (i+1)=out i++[y]->Y y H4)->(∀ H3,H3 D=some (.lst (out i))->qi H1 H3->out (i+1)=out i->Z H3)->g x (stY o caps σ) H (qgO o caps σ tt te Y Z))(fin:∀(D:Addr)(H:Hp),H1 D=none->qi H1 H->H D=some (.lst (out xs.length))->Q (.ref D) H):yY o caps (qeH (Itl K a) g) (Itl K a).stop tt te σ H1 Q:=
 qbN xs.length out h0 c8 (λ i H D Y Z hi hD hH sm hy hz=>⟨⟨xs,xs[i],sm.seq hx,Xy hi⟩,λ x H' ⟨e,A1⟩=>by subst e;exact turn i x _ D Y Z (A1 xs (sm.seq hx)) hD hH sm hy hz⟩) (λ H sm=>⟨xs,sm.seq hx,Q9 _⟩) fin
theorem qow(hx:SqT K H1 a xs)(out:Nat->List V)(h0:out 0=[])(c8:∀ i,i<xs.length->(out i).length<sizeLine)(turn:∀(i:Nat)(x:V)(H:Hp)(D:Addr)(Y:V->Hp->Prop)(Z:Hp->Prop),xs[i]?=some x->H1 D=none->H D=some (.lst (out i))->qi H1 H ->
   (∀ y H4,H4 D=some (.lst (out i))->qi H1 H4->out (i+1)=out i++[y]->Y y H4)->(∀ H3,H3 D=some (.lst (out i))->qi H1 H3->out (i+1)=out i->Z H3)->g x (stY o caps σ) H (qgO o caps σ tt te Y Z))(fin:∀(D:Addr)(H:Hp),H1 D=none->qi H1 H->H D=some (.lst (out xs.length))->Q (.ref D) H):yY o caps (qeH (Itt K a) g) (Itt K a).stop tt te σ H1 Q:=
 qbN xs.length out h0 c8 (λ i H D Y Z hi hD hH sm hy hz=>⟨⟨xs,xs[i],sm.seqT hx,Xy hi⟩,λ x H' ⟨e,A1⟩=>by subst e;exact turn i x _ D Y Z (A1 xs (sm.seqT hx)) hD hH sm hy hz⟩) (λ H sm=>⟨xs,sm.seqT hx,Q9 _⟩) fin
theorem qk4{lo:Int}(out:Nat->List V)(h0:out 0=[])(c8:∀ i,i<n->(out i).length<sizeLine)(turn:∀(i:Nat)(H:Hp)(D:Addr)(Y:V->Hp->Prop)(Z:Hp->Prop),i<n->H1 D=none->H D=some (.lst (out i))->qi H1 H ->
   (∀ y H4,H4 D=some (.lst (out i))->qi H1 H4->out (i+1)=out i++[y]->Y y H4)->(∀ H3,H3 D=some (.lst (out i))->qi H1 H3->out (i+1)=out i->Z H3)->g (.int (lo+i)) (stY o caps σ) H (qgO o caps σ tt te Y Z))(fin:∀(D:Addr)(H:Hp),H1 D=none->qi H1 H->H D=some (.lst (out n))->Q (.ref D) H):yY o caps (qeH (Itr lo n) g) (Itr lo n).stop tt te σ H1 Q:=
 qbN n out h0 c8 (λ i H D Y Z hi hD hH sm hy hz=>⟨hi,λ x H' ⟨e,ex⟩=>by subst e ex;exact turn i _ D Y Z hi hD hH sm hy hz⟩) (λ H sm=>Q9 _) fin
theorem qfD(out:Nat->List V)(h0:out 0=[])(c8:∀ i,i<n->(out i).length<sizeLine)(turn:∀(i:Nat)(H:Hp)(D:Addr)(Y:V->Hp->Prop)(Z:Hp->Prop),i<n->H1 D=none->H D=some (.lst (out i))->qi H1 H ->
   (∀ y H4,H4 D=some (.lst (out i))->qi H1 H4->out (i+1)=out i++[y]->Y y H4)->(∀ H3,H3 D=some (.lst (out i))->qi H1 H3->out (i+1)=out i->Z H3)->g (val i) (stY o caps σ) H (qgO o caps σ tt te Y Z))(fin:∀(D:Addr)(H:Hp),H1 D=none->qi H1 H->H D=some (.lst (out n))->Q (.ref D) H):yY o caps (qeH (ItV n val) g) (ItV n val).stop tt te σ H1 Q:=
 qbN n out h0 c8 (λ i H D Y Z hi hD hH sm hy hz=>⟨hi,λ x H' ⟨e,ex⟩=>by subst e ex;exact turn i _ D Y Z hi hD hH sm hy hz⟩) (λ H sm=>rfl) fin
theorem qfE(hx:SqL K H1 a xs)(hy:SqL K H1 b ys)(hl:xs.length=ys.length)(out:Nat->List V)(h0:out 0=[])(c8:∀ i,i<xs.length->(out i).length<sizeLine)(turn:∀(i:Nat)(x y:V)(H:Hp)(D:Addr)(Y:V->Hp->Prop)(Z:Hp->Prop),xs[i]?=some x->ys[i]?=some y->H1 D=none->H D=some (.lst (out i))->qi H1 H ->
   (∀ y H4,H4 D=some (.lst (out i))->qi H1 H4->out (i+1)=out i++[y]->Y y H4)->(∀ H3,H3 D=some (.lst (out i))->qi H1 H3->out (i+1)=out i->Z H3)->tg [x,y] (stY o caps σ) H (qgO o caps σ tt te Y Z))(fin:∀(D:Addr)(H:Hp),H1 D=none->qi H1 H->H D=some (.lst (out xs.length))->Q (.ref D) H):yY o caps (qhR (ItZ K a b) 2 tg) (ItZ K a b).stop tt te σ H1 Q:=
 qbN xs.length out h0 c8 (λ i H D Y Z hi hD hH sm tE hz=>⟨⟨xs,ys,xs[i],ys[i]'(by omega),sm.seq hx,sm.seq hy,Xy hi,Xy (by omega)⟩,λ zs H' ⟨e,x,y,ez,A1,hy''⟩=>by
  subst e ez;exact⟨rfl,turn i x y _ D Y Z (A1 xs (sm.seq hx)) (hy'' ys (sm.seq hy)) hD hH sm tE hz⟩⟩) (λ H sm=>⟨xs,ys,sm.seq hx,sm.seq hy,.inl (Q9 _)⟩) fin
end
theorem zd(h:n<=100000):n<sizeLine:=Zf h (by decide)
theorem qz(h:n<=100000):n<=sizeLine:=Qv (zd h)
theorem vk{Q:VK}(e:x=y)(h:Q y H):Q x H:=e ▸ h
theorem ql{α β:Type}{f:α->β}{l:List α}{i:Nat}{y:β}(h:(l.map f)[i]?=some y):∃ x,l[i]?=some x/\y=f x:=by
 rw[Zt] at h;cases e:l[i]? with
 |none=>rw[e] at h;cases h
 |some x=>rw[e] at h;exact⟨x,rfl,(Option.some.inj h).symm⟩
theorem qU{α:Type}{l:List α}{x:α}(h:l[i]?=some x):l.take (i+1)=l.take i++[x]:=by rw[List.take_succ,h];rfl
theorem zL{α β:Type}{f:α->β}{l:List α}{x:α}(h:l[i]?=some x):(l.take (i+1)).map f=(l.take i).map f++[f x]:=by rw[qU h,Jd];rfl
theorem vF{α β γ:Type}{f:α->β->γ}{as:List α}{bs:List β}{i:Nat}{a:α}{b:β}(h1:as[i]?=some a)(h2:bs[i]?=some b):(List.zipWith f as bs)[i]?=some (f a b):=by
 rw[Yc,h1,h2]
theorem jt{α:Type}{l:List α}{x:α}(h:l[i]?=some x):i<l.length:=(Xn.mp h).1
theorem qfF(a b:Bool):(!decide (V.bl a=V.bl b))=(a != b):=by cases a <;> cases b <;> rfl
theorem yp(a b:List Nat):qj a++qj b=qj (a++b):=by
 show(⟨a.toArray++b.toArray⟩:Str)=⟨(a++b).toArray⟩
 rw[List.append_toArray]
theorem qy(a:List Nat):(qj a).length=a.length:=by
 show a.toArray.size=a.length
 simp
theorem ju(F:List (List Nat)):Txt.join ("":Str) (F.map qj)=qj F.flatten:=by
 show(⟨((F.map qj).drop 1).foldl (λ c7 p=>c7++("":Str).cps++p.cps) ((F.map qj).headD Str.empty).cps⟩:Str)=qj F.flatten
 have e0:("":Str).cps=#[]:=by decide
 rw[e0];have gen:∀(G:List (List Nat))(c7:Array Nat),(G.map qj).foldl (λ c7 p=>c7++#[]++p.cps) c7=c7++(G.flatten).toArray:=by
  intro G;induction G with
  |nil=>intro c7;simp
  |cons g G ih =>
   intro c7;rw[Qe,Ja,ih,Zw];show c7++#[]++g.toArray++G.flatten.toArray=c7++(g++G.flatten).toArray
   simp
 cases F with
 |nil=>rfl
 |cons f F =>
  show(⟨(F.map qj).foldl (λ c7 p=>c7++#[]++p.cps) f.toArray⟩:Str)=qj (f++F.flatten)
  rw[gen F f.toArray,List.append_toArray];rfl
theorem zD(F:List (List Nat)):F.map vS=(F.map qj).map V.str:=by rw[Q1];rfl
theorem qox(F:List (List Nat)):(F.map qj).map cs=F:=by
 rw[Q1]
 have:cs ∘ qj=id:=rfl
 rw[this,List.map_id]
theorem j3(h:qj a=qj b):a=b:=congrArg cs h
theorem qbO{F:List (List Nat)}:x∈F.map qj ↔ cs x∈F:=by
 rw[Qz];constructor
 ·rintro⟨a,ha,rfl⟩;exact ha
 ·intro h;exact⟨cs x,h,rfl⟩
theorem jv(F:List (List Nat)):((F.map qj).map (·.length)).sum=F.flatten.length:=by
 induction F with
 |nil=>rfl
 |cons f F ih =>
  rw[Qe,Qe,Qk,ih,qy,Zw,Ze]
theorem qfG(h1:us.Nodup)(h2:F.Nodup)(h:∀ x,x∈us ↔ cs x∈F):(qbE us).map V.str=(Fs.srt F).map vS:=by
 unfold qbE;rw[zD];have hp:(us.map cs).Perm F:=by
  refine(Xi ?_ h2).mpr λ p=>?_
  ·exact Zz.mpr (h1.imp λ{a b} E2 e=>E2 (qfu e))
  ·rw[Qz];constructor
   ·rintro⟨x,hx,rfl⟩;exact(h x).mp hx
   ·intro hp;exact⟨qj p,(h _).mpr hp,rfl⟩
 rw[Fs.srt_perm_eq hp]
theorem k5{us:List Str}{F:List (List Nat)}(h1:us.Nodup)(h2:F.Nodup)(h:∀ x,x∈us ↔ cs x∈F):us.length=F.length:=by
 have hp:(us.map cs).Perm F:=by
  refine(Xi ?_ h2).mpr λ p=>?_
  ·exact Zz.mpr (h1.imp λ{a b} E2 e=>E2 (qfu e))
  ·rw[Qz];constructor
   ·rintro⟨x,hx,rfl⟩;exact(h x).mp hx
   ·intro hp;exact⟨qj p,(h _).mpr hp,rfl⟩
 rw[<- hp.length_eq,U5]
end L2
namespace Fs
structure On(ls:List Nat)(F:List Pr):Prop where
 vf:Vf F
 mem:∀ p∈F,∀ c∈p,c∈ls
theorem On.sub(h:On ls F)(hl:ls.Pairwise (·<·)):∀ p∈F,p.Sublist ls:=λ p hp=>jZ hl (h.vf.prod p hp) (h.mem p hp)
theorem On.len(h:On ls F)(hl:ls.Pairwise (·<·)):F.length<=2^ls.length:=by
 rw[<- qO];exact jm h.vf.nodup λ p hp=>zO.mpr (h.sub hl p hp)
theorem qfH:∀{F:List Pr},(∀ p∈F,p.length<=n)->F.flatten.length<=F.length*n
 | [],_=>by simp
 |p::F,h=>by
  rw[Zw,Ze,Uj,Nat.succ_mul];have h1:=h p Zb;have h2:=qfH λ q hq=>h q (Yj _ hq)
  omega
theorem On.added{ls:List Nat}{F G:List Pr}(hF:On ls F)(hG:On ls G):On ls (added F G):=⟨kK hF.vf hG.vf,λ p hp=>by
 rcases kJ.mp (qau.mp hp) with h|h
 ·exact hF.mem p h.1
 ·exact hG.mem p h.1⟩
theorem qa5{ls:List Nat}(h:∀ p∈F,∀ c∈p,c∈ls):∀ c∈qf F,c∈ls:=λ c hc=>by
 obtain⟨p,hp,hc⟩:=zy.mp hc;exact h p hp c hc
theorem qcA{ls:List Nat}(hl:ls.Pairwise (·<·))(h:∀ p∈F,∀ c∈p,c∈ls):(qf F).length<=ls.length:=
 (jZ hl (q0 F) (qa5 h)).length_le
theorem On.mult{ls:List Nat}{F G:List Pr}(hF:On ls F)(hG:On ls G):On ls (mult F G):=⟨qcS F G,λ p hp c hc=>by
 have:=(kQ hp).subset hc
 refine qa5 (F:=F++G) (λ q hq=>?_) c this;rcases U3.mp hq with h|h
 ·exact hF.mem q h
 ·exact hG.mem q h⟩
theorem On.one(ls:List Nat):On ls [[]]:=⟨qfs,by simp⟩
theorem On.nil(ls:List Nat):On ls []:=⟨qhQ,by simp⟩
theorem On.opp{ls:List Nat}{F:List Pr}(hF:On ls F):On ls (opp F):=hF.added (On.one ls)
theorem On.join{ls:List Nat}{F G:List Pr}(hF:On ls F)(hG:On ls G):On ls (join F G):=(hF.added hG).added (hF.mult hG)
end Fs
namespace L2
open PySem PySem.Spec PyProof.Rows
section
variable {X:Cx}
theorem qay:OpR X (compareOp .In) (λ x y H Q=>∃(c:Nat)(p:List Nat),x=vS [c]/\y=vS p/\Q (.bl (decide (c∈p))) H):=by
 intro pins s σ H x y v u Q I rx ry h;obtain⟨c,p,rfl,rfl,q⟩:=h;refine qjq pins s σ H _ _ v u Q I rx ry ⟨_,_,rfl,rfl,?_⟩;rw[show qj [c]=(⟨#[c]⟩:Str) from rfl,empty_one,Bool.not_not];exact q
theorem vG:OpR X (compareOp .NotIn) (λ x y H Q=>∃(c:Nat)(p:List Nat),x=vS [c]/\y=vS p/\Q (.bl (!decide (c∈p))) H):=by
 intro pins s σ H x y v u Q I rx ry h;obtain⟨c,p,rfl,rfl,q⟩:=h;refine qfm pins s σ H _ _ v u Q I rx ry ⟨_,_,rfl,rfl,?_⟩;rw[show qj [c]=(⟨#[c]⟩:Str) from rfl,empty_one,Bool.not_not];exact q
def qoy:List V->Hp->VK->Prop:=λ xs H Q=>∃(p:Addr)(kvs:List (Key×V)),xs=[.ref p]/\H p=some (.dK kvs)/\∀ d,H d=none->Q (.ref d) (upd H d (.dK kvs))
theorem qgP:y9 X (.type "dict") qoy:=by
 intro pins s σ H xs us Q I r h;obtain⟨p,kvs,rfl,hp,q⟩:=h;obtain⟨u,rfl,ru⟩:=yk r;cases ru
 obtain⟨hz,hS,vs,rel,dd⟩:=qgq I.hok hp;refine kt_call_dict hS dd (by rw[<- rel.length];exact hz) λ h' oV hs=>?_
 have hf:=I.hok.fresh (Q9 s.heap.objs.size);have hk:∀ b o,s.heap.get? b=some o->h'.get? b=some o:=λ b o e=>(hs.2 b (Qt (Qs e))).trans (XG _ e)
 exact⟨.ref s.heap.objs.size,_,I.laid (a:=s.heap.objs.size) (o:=.dK kvs) (t':=s.toks) hk (Q9 _) (qdj hz (Y8.mpr (Vu (Qt I.big))) rel oV),rfl,q _ hf⟩
end
structure Mk0(K:W.Frag)(C:Addr):Prop where
 makes:W.makesIn K C=true
 init:W.findIn K (.ref C) "__init__"=some (some (.builtin "object.__init__"))
 kp:W.keepIn K (.ref C)=true
def qoz(C:Addr):TE:=λ σ H Q=>∀ x dx,H x=none->H dx=none->dx≠x->Q (.ref x) (upd (upd H dx (.own x)) x (.ins C dx []))
theorem qgQ {pos:Pos}(M:Mk0 X.K C)(hg:Gl X x)(hm:X.mg x=some (.ref C))(cD:(x == ("__debug__":Str))=false:=by decide):PE X (.Call (.Name x p) [] [] pos) (qoz C):=by
 intro pins s σ H Q I h;refine Zo (qbs I hg hm ?_ cD);refine W.callWith_K0 I.kIn M.kp (wpAny_call (qjv I.kIn M.makes M.init (λ self=>PySem.W.Looks.of_pure (W.oi_bind self)) ?_));have Y:=W.makes_of (M:=model X.prog X.w) I.kIn M.makes;have hx:((s.heap.push W.emptyDict).push (W.instObj C s.heap.objs.size)).get? (s.heap.objs.size+1)=some (W.instObj C s.heap.objs.size):=by
  rw[<- Jw s.heap W.emptyDict];exact Yw _ rfl
 have t1:PySem.W.Looks (model X.prog X.w) ((s.heap.push W.emptyDict).push (W.instObj C s.heap.objs.size)) (typeOf (.ref (s.heap.objs.size+1))) (.ref C):=(PySem.W.Looks.ld hx).andThen .now;have t2:PySem.W.Looks (model X.prog X.w) ((s.heap.push W.emptyDict).push (W.instObj C s.heap.objs.size)) (isInstance (.ref (s.heap.objs.size+1)) (.type "object")) true:=t1.andThen (Y.top.keeps λ b o e=>XG _ (XG _ e));refine codeAny_call_builtin W.oi_plain W.entry_oi (@W.check_slot (model X.prog X.w) _ _ _ "object.__init__" "object" "__init__" (.ref (s.heap.objs.size+1)) [] [] _ W.oi_kind W.oi_split t2 (W.oi_args _) ?_);rw[W.oi_run];have hq:=h (s.heap.objs.size+1) s.heap.objs.size (I.hok.fresh (Vb _)) (I.hok.fresh (Q9 _)) (Qt (Uk _));exact Vi (And.intro rfl ⟨.ref (s.heap.objs.size+1),_,Inv.made (C:=C) I,rfl,hq⟩)
theorem PE.or(h:PE X e t)(h':PE X e u):PE X e (λ σ H Q=>t σ H Q∨u σ H Q):=λ pins s σ H Q I hw=>hw.elim (h pins s σ H Q I) (h' pins s σ H Q I)
theorem qmT(h:qc7 k v=true):qV (kV k) v:=by
 rcases zx h with⟨i,t,rfl,rfl⟩|⟨x,t,rfl,rfl⟩
 ·exact⟨t,rfl⟩
 ·exact⟨t,rfl⟩
theorem qbP:∀{xs:List α}{l:List β},Paired F xs l->∀(k:Nat)(a:α),xs[k]?=some a->∃ b,l[k]?=some b/\F a b
 |_,_,.nil,k,a,h=>by simp at h
 |_,_,.cons r t,0,a,h=>by simp at h;subst h;exact⟨_,rfl,r⟩
 |_,_,.cons r t,k+1,a,h=>qbP t k a (by simpa using h)
def qpD(wi:TI2)(n:Nat)(t:TGs)(tb:TS):TS:=λ D σ H=>wi σ H λ J H1=>∃ W:Nat->Nat->St->Hp->Prop,(∃ m,W 0 m σ H1)/\∀ i m σ H,W i m σ H ->
 (J.stop i H/\D.nx σ H)∨(J.go i H/\∃ N:St->Hp->Prop,(∀ σ' H',N σ' H'->∃ m',m'<m/\W (i+1) m' σ' H')/\∀ xs H',J.yld i H xs H'->xs.length=n/\t xs σ H' λ σ2 H2=>tb { D with nx:=N,ct:=N,bk:=D.nx } σ2 H2)
theorem qcV{pos:Pos}(hp:PassesOwn (model X.prog X.w) X.A X.env X.xe)(hc:X.calm=true)(hi:PI2 X (.Tuple es k x8) iter wi)(hg:PGs X es t)(hb:PSs X body tb)(hn:(assignEach es X.env).length=n:=by rfl)(L5:(assignEach es X.env).findIdx? (·.1)=none:=by rfl)(hs:∀ x,foldedSetIterable iter X.env x=pure x:=by intro _;rfl):PS X (.For (.Tuple es k x8) iter body [] pos) (qpD wi n t tb):=by
 intro pins s σ H D I h;refine wpAny_For (thn (hi pins s σ H _ I h) λ v s1 h1=>thn h1 λ gS s2 h2=>?_) hs;obtain⟨it,fp,tn,J,H2,e,I2,T,l8,f2,W,⟨m0,w0⟩,turn⟩:=h2;subst e;have V4:∀{H':Hp},(∀ b∈fp,H' b=none)->∀ b∈fp,jF X pins H' b:=λ hn b hb=>⟨hn b hb,(f2 b hb).2⟩
 refine codeAny_forLoop_any (λ n s'=>∃ i σ' H',Inv X pins σ' H' s'/\tn i s'.heap/\(∀ b∈fp,H' b=none)/\W i n σ' H') ?_ m0 ⟨0,σ,H2,I2,l8,λ b hb=>(f2 b hb).1,w0⟩;rintro n' s3 ⟨i,σ3,H3,I3,K3,bS,w3⟩;rcases turn i n' σ3 H3 w3 with⟨stop,qn⟩|⟨go,N,hN,step⟩
 ·refine Jo hp (thn (T.done X rfl rfl rfl hc i pins s3 σ3 H3 X.xe I3 (V4 bS) K3 stop) λ r s4 ⟨hr,I4⟩=>?_);subst hr;exact Jn ⟨σ3,H3,I4,qn⟩
 ·refine Jo hp (thn (T.item X rfl rfl rfl hc i pins s3 σ3 H3 X.xe I3 (V4 bS) K3 go) λ r s4 ⟨p,hr,h4⟩=>?_);subst hr;refine Jo hp (thn h4 λ _ s5 ⟨xs,us,H5,I5,ht,r5,y5,V5,pC⟩=>?_);have I5':=I5.pinned (V4 pC) (T.obj _ _ V5);obtain⟨hl,hw⟩:=step xs H5 y5;refine Jo hp (assign_Tuple_tuple (I5.ok.hd hc) ht (by simp[hn,<- hl,r5.length]) L5 λ h' hx=>?_);have I6:Inv X (pins++ku fp s5.heap) σ3 H5 { s5 with heap:=h' }:=I5'.kept (t':=s5.toks) λ b o e=>hx b o (Qt (Qs e)) e
  refine thn (hg _ _ σ3 H5 xs _ _ I6 (by simpa using r5) hw) λ _ s6 ⟨σ6,H6,I7,q6⟩=>?_
  refine Jo hp (thn (hb _ s6 σ6 H6 _ I7 q6) λ f s7 q7=>?_);have again:∀{σ7:St}{H7:Hp},Inv X (pins++ku fp s5.heap) σ7 H7 s7->N σ7 H7->∃ m,m<n'/\∃ i σ' H',Inv X pins σ' H' s7/\tn i s7.heap/\(∀ b∈fp,H' b=none)/\W i m σ' H':=λ{σ7 H7} I7 n7=>by
   obtain⟨m',hm,w7⟩:=hN σ7 H7 n7;refine⟨m',hm,i+1,σ7,H7,I7.unpinned,T.keep _ _ _ V5 λ b hb o e=>(I7.pin (b,o) (XS _ (XS _ (yD hb e)))).1,λ b hb=>?_,w7⟩;obtain⟨o,e,d⟩:=T.obj _ _ V5 b hb;exact(I7.pin (b,o) (XS _ (XS _ (yD hb e)))).2.1
  cases f with
  |next=>obtain⟨σ7,H7,I7,n7⟩:=q7;exact again I7 n7
  |cont=>obtain⟨σ7,H7,I7,n7⟩:=q7;exact again I7 n7
  |brk=>obtain⟨σ7,H7,I7,q7⟩:=q7;exact⟨σ7,H7,I7.unpinned,q7⟩
  |ret v=>obtain⟨x7,σ7,H7,I7,r7,q7⟩:=q7;exact⟨x7,σ7,H7,I7.unpinned,r7,q7⟩
end L2
namespace FsS
open PySem PyProof.Rows
noncomputable def ky(κ:KeyKind)(x:Keyed):κ.α:=(κ.keyOf x.1).getD κ.dflt
def Kd(κ:KeyKind)(x:Keyed):Prop:=∃ a,κ.keyOf x.1=some a
theorem Kd.eq(h:Kd κ x):κ.keyOf x.1=some (ky κ x):=by
 obtain⟨a,h⟩:=h;unfold ky;rw[h];rfl
noncomputable def ye:Bool->Keyed->Array Keyed->Nat->Nat->Nat->StateT SortSt Sem (Option Nat):=sortPriv% PySem.Builtin.gallop
noncomputable def bey(left:Bool)(key:Keyed)(arr:Array Keyed)(base i:Nat):StateT SortSt Sem (Option Bool):=do
 let x <- elem' arr (base+i)
 if left then lt' x key else return (<- lt' key x).map (!·)
theorem qjM(left:Bool)(key:Keyed)(arr:Array Keyed)(base n i8:Nat):ye left key arr base n i8=(do
 let mut u:=0
 let mut v:=1
 let mut p:=0
 let mut q:=0
 let some r <- bey left key arr base i8|return none
 if r then
  let m:=n-i8
  for _ in [0:n] do
   if v ≥ m then break
   let some c <- bey left key arr base (i8+v)|return none
   if !c then break
   u:=v
   v:=2*v+1
  p:=i8+u+1
  q:=i8+min v m
 else
  let m:=i8+1
  for _ in [0:n] do
   if v ≥ m then break
   let some c <- bey left key arr base (i8-v)|return none
   if c then break
   u:=v
   v:=2*v+1
  p:=i8+1-min v m
  q:=i8-u
 for _ in [0:n] do
  if p ≥ q then break
  let c:=p+(q-p) / 2
  let some d <- bey left key arr base c|return none
  if d then p:=c+1 else q:=c
 return some q):=rfl
section
variable {prog:Program}{w:World}{A:Around}{E:Value->Shared->Prop}{s:Shared}{κ:KeyKind}
theorem qY{st:SortSt}(h:arr[i]?=some p)(hq:Q p st):wpS (model prog w) A E s (elem' arr i) Q st:=by
 rw[elem'_eq,h];exact Vp hq
theorem qdF(hO:κ.OneLt){st:SortSt}(hk:kindOf st=oneType')(hx:Kd κ x)(hy:Kd κ y)(hq:Q (some (κ.blt (ky κ x) (ky κ y))) st):wpS (model prog w) A E s (lt' x y) Q st:=by
 rw[lt'_eq];refine Vq (Vx ?_);rw[hk,keyLt'_oneType];refine Vq (wpS_lift (Qq (hO prog w A _ s x.1 y.1 _ _ hx.eq hy.eq ⟨rfl,?_⟩)));exact Vp hq
noncomputable def Bt(κ:KeyKind)(left:Bool)(key x:Keyed):Bool:=if left then κ.blt (ky κ x) (ky κ key) else !(κ.blt (ky κ key) (ky κ x))
theorem qmU(hO:κ.OneLt){st:SortSt}(hk:kindOf st=oneType')(K8:Kd κ key)(e:arr[base+i]?=some x)(hx:Kd κ x)(hq:Q (some (Bt κ left key x)) st):wpS (model prog w) A E s (bey left key arr base i) Q st:=by
 unfold bey;refine Vq (qY e ?_);cases left with
 |true=>exact qdF hO hk hx K8 hq
 |false=>exact Vq (qdF hO hk K8 hx (Vp hq))
theorem qhZ{st:SortSt}(B:Nat->Bool)(hb:∀ i,i<n->∀ R:Option Bool->SortSt->Prop,R (some (B i)) st->wpS (model prog w) A E s (bey left key arr base i) R st)(mono:∀ i j,i<=j->j<n->B j=true->B i=true)(hn:i8<n)(h:∀ k,k<=n->(∀ i,i<k->B i=true)->(∀ i,k<=i->i<n->B i=false)->Q (some k) st):wpS (model prog w) A E s (ye left key arr base n i8) Q st:=by
 have pV:∀ i j,i<=j->j<n->B i=false->B j=false:=λ i j hij hj hi=>by
  cases hB:B j with
  |false=>rfl
  |true=>rw[mono i j hij hj hB] at hi;exact absurd hi (by simp)
 have fin:∀ p q:Nat,p<=q->q<=n->(∀ i,i<p->B i=true)->(∀ i,q<=i->i<n->B i=false) ->
   wpS (model prog w) A E s (do
    let mut p:=p
    let mut q:=q
    for _ in [0:n] do
     if p ≥ q then break
     let c:=p+(q-p) / 2
     let some d <- bey left key arr base c|return none
     if d then p:=c+1 else q:=c
    return some q) Q st:=by
  intro p q iW nE h1 h2;refine Vq (Vr (Q8 (I:=λ x c c5=>c5=st/\∃ p q,c=(none,p,q)/\p<=q/\q<=n/\q-p<=n-x/\(∀ i,i<p->B i=true)/\(∀ i,q<=i->i<n->B i=false))
   (Q:=λ c c5=>c5=st/\∃ p q,c=(none,p,q)/\q<=p/\p<=q/\q<=n/\(∀ i,i<p->B i=true)/\(∀ i,q<=i->i<n->B i=false)) ?step ?fin ⟨rfl,p,q,rfl,iW,nE,by omega,h1,h2⟩) ?post)
  case post =>
   rintro c c5 ⟨rfl,p,q,rfl,hqp,iW,nE,h1,h2⟩
   have:p=q:=by omega
   subst this;exact Vp (h p nE h1 h2)
  case fin =>
   rintro c c5 ⟨rfl,p,q,rfl,iW,nE,hm,h1,h2⟩;exact⟨rfl,p,q,rfl,by omega,iW,nE,h1,h2⟩
  case step =>
   rintro x c c5 _ hx ⟨rfl,p,q,rfl,iW,nE,hm,h1,h2⟩;dsimp only;by_cases hge:p ≥ q
   ·rw[Vz hge];exact Vp ⟨rfl,p,q,rfl,hge,iW,nE,h1,h2⟩
   ·rw[V0 hge];refine Vq (hb _ (by omega) _ ?_);cases hB:B (p+(q-p) / 2) with
    |true =>
     simp only[Vw];exact Vp ⟨rfl,_,q,rfl,by omega,nE,by omega,λ i hi=>mono i _ (by omega) (by omega) hB,h2⟩
    |false =>
     simp only[Zj,Vo];exact Vp ⟨rfl,p,_,rfl,by omega,by omega,by omega,h1,λ i hi bI=>pV _ i hi bI hB⟩
 rw[qjM];refine Vq (hb i8 hn _ ?_);dsimp only;cases hB:B i8 with
 |true =>
  simp only[Vw];refine Vq (Vr (Q8 (I:=λ x c c5=>c5=st/\∃ u v,c=(none,u,v)/\u<v/\x<v/\i8+u<n/\B (i8+u)=true)
   (Q:=λ c c5=>c5=st/\∃ u v,c=(none,u,v)/\u<v/\i8+u<n/\B (i8+u)=true/\(n-i8<=v∨(i8+v<n/\B (i8+v)=false))) ?step ?fin ⟨rfl,0,1,rfl,by omega,by omega,by omega,hB⟩) ?post)
  case post =>
   rintro c c5 ⟨rfl,u,v,rfl,eB,cO,hu,hv⟩;refine fin (i8+u+1) (i8+min v (n-i8)) (by omega) (by omega) (λ i hi=>mono i _ (by omega) cO hu) (λ i hi bI=>?_);rcases hv with hv|⟨h1,h2⟩
   ·omega
   ·exact pV _ i (by omega) bI h2
  case fin =>
   rintro c c5 ⟨rfl,u,v,rfl,eB,hxv,cO,hu⟩;exact⟨rfl,u,v,rfl,eB,cO,hu,.inl (by omega)⟩
  case step =>
   rintro x c c5 _ hx ⟨rfl,u,v,rfl,eB,hxv,cO,hu⟩;dsimp only;by_cases hge:v ≥ n-i8
   ·rw[Vz hge];exact Vp ⟨rfl,u,v,rfl,eB,cO,hu,.inl hge⟩
   ·rw[V0 hge];refine Vq (hb _ (by omega) _ ?_);cases hB2:B (i8+v) with
    |true =>
     simp only[Qj,Zj,Vo];exact Vp ⟨rfl,v,_,rfl,by omega,by omega,by omega,hB2⟩
    |false =>
     simp only[Bool.not_false,Vw];exact Vp ⟨rfl,u,v,rfl,eB,cO,hu,.inr ⟨by omega,hB2⟩⟩
 |false =>
  simp only[Zj,Vo];refine Vq (Vr (Q8 (I:=λ x c c5=>c5=st/\∃ u v,c=(none,u,v)/\u<v/\x<v/\u<=i8/\B (i8-u)=false)
   (Q:=λ c c5=>c5=st/\∃ u v,c=(none,u,v)/\u<v/\u<=i8/\B (i8-u)=false/\(i8+1<=v∨(v<=i8/\B (i8-v)=true))) ?step ?fin ⟨rfl,0,1,rfl,by omega,by omega,by omega,hB⟩) ?post)
  case post =>
   rintro c c5 ⟨rfl,u,v,rfl,eB,cO,hu,hv⟩;refine fin (i8+1-min v (i8+1)) (i8-u) (by omega) (by omega) (λ i hi=>?_) (λ i hi bI=>pV _ i hi bI hu);rcases hv with hv|⟨h1,h2⟩
   ·omega
   ·exact mono i _ (by omega) (by omega) h2
  case fin =>
   rintro c c5 ⟨rfl,u,v,rfl,eB,hxv,cO,hu⟩;exact⟨rfl,u,v,rfl,eB,cO,hu,.inl (by omega)⟩
  case step =>
   rintro x c c5 _ hx ⟨rfl,u,v,rfl,eB,hxv,cO,hu⟩;dsimp only;by_cases hge:v ≥ i8+1
   ·rw[Vz hge];exact Vp ⟨rfl,u,v,rfl,eB,cO,hu,.inl hge⟩
   ·rw[V0 hge];refine Vq (hb _ (by omega) _ ?_);cases hB2:B (i8-v) with
    |false =>
     simp only[Zj,Vo];exact Vp ⟨rfl,v,_,rfl,by omega,by omega,by omega,hB2⟩
    |true =>
     simp only[Vw];exact Vp ⟨rfl,u,v,rfl,eB,cO,hu,.inr ⟨by omega,hB2⟩⟩
end
structure MI{α:Type}(r:α->α->Prop)(la lb O:List α)(i j:Nat):Prop where
 sa:(O++la.drop i).Pairwise r
 sb:(O++lb.drop j).Pairwise r
 pm:(O++(la.drop i++lb.drop j)).Perm (la++lb)
theorem MI.takeA{r:α->α->Prop}{la lb O:List α}(h:MI r la lb O i j){X:List α}(e:la.drop i=X++la.drop i')(hx:∀ x∈X,∀ y∈lb.drop j,r x y):MI r la lb (O++X) i' j:=by
 have h1:=h.sa;rw[e,<- Zx] at h1;have h2:=Yo.mp h.sb;refine⟨h1,Yo.mpr ⟨(Yo.mp h1).1,h2.2.1,λ x A1 y hy=>?_⟩,?_⟩
 ·rcases U3.mp A1 with hO | hX
  ·exact h2.2.2 x hO y hy
  ·exact hx x hX y hy
 ·have:=h.pm
  rw[e] at this;simpa [Zx] using this
theorem MI.takeB{r:α->α->Prop}{la lb O:List α}(h:MI r la lb O i j){X:List α}(e:lb.drop j=X++lb.drop j')(hx:∀ x∈X,∀ y∈la.drop i,r x y):MI r la lb (O++X) i j':=by
 have h1:=h.sb;rw[e,<- Zx] at h1;have h2:=Yo.mp h.sa;refine⟨Yo.mpr ⟨(Yo.mp h1).1,h2.2.1,λ x A1 y hy=>?_⟩,h1,?_⟩
 ·rcases U3.mp A1 with hO | hX
  ·exact h2.2.2 x hO y hy
  ·exact hx x hX y hy
 ·have:=h.pm
  rw[e] at this;rw[Zx];exact((Xg X (la.drop i) (lb.drop j')).append_left O).trans this
def Gd{α:Type}(r:α->α->Prop)(la lb:List α)(o:List α):Prop:=o.Pairwise r/\o.Perm (la++lb)
theorem MI.endB{r:α->α->Prop}{la lb O:List α}(h:MI r la lb O i j)(e:lb.length<=j):Gd r la lb (O++la.drop i++lb.drop j):=by
 have:=h.sa
 have hp:=h.pm;rw[XM e] at hp ⊢;rw[U6] at hp ⊢;exact⟨this,hp⟩
theorem MI.endA{r:α->α->Prop}{la lb O:List α}(h:MI r la lb O i j)(e:la.length<=i):Gd r la lb (O++la.drop i++lb.drop j):=by
 have:=h.sb
 have hp:=h.pm;rw[XM e] at hp ⊢;rw[Jb] at hp;rw[U6];exact⟨this,hp⟩
theorem MI.last{r:α->α->Prop}{la lb O:List α}(h:MI r la lb O i j)(hl:∀ x∈la.drop i,∀ y∈lb,r y x):Gd r la lb (O++lb.drop j++la.drop i):=by
 have ha:=Yo.mp h.sa;refine⟨Yo.mpr ⟨h.sb,ha.2.1,λ x hx y hy=>?_⟩,?_⟩
 ·rcases U3.mp hx with hO | hX
  ·exact ha.2.2 x hO y hy
  ·exact hl y hy x (Yp hX)
 ·rw[Zx];exact((List.perm_append_comm).append_left O).trans h.pm
theorem yq{α:Type}{l:List α}{x:α}(h:l[i]?=some x):l.drop i=[x]++l.drop (i+1):=by
 obtain⟨hi,e⟩:=Xn.mp h;rw[Xt hi,e];rfl
theorem drop_take{α:Type}(l:List α)(i k:Nat):l.drop i=(l.drop i).take k++l.drop (i+k):=by
 have:=(XZ k (l.drop i)).symm
 rwa [J5] at this
abbrev kl(κ:KeyKind)(x y:Keyed):Prop:=κ.kle (ky κ x) (ky κ y)
abbrev So(κ:KeyKind)(l:List Keyed):Prop:=l.Pairwise (kl κ)
section
variable {prog:Program}{w:World}{A:Around}{E:Value->Shared->Prop}{s:Shared}{κ:KeyKind}
theorem qmV(h:kl κ x y)(hy:Bt κ left key y=true):Bt κ left key x=true:=by
 cases left with
 |true=>exact KeyOrd.klt_of_kle_of_klt h hy
 |false =>
  have tE:κ.blt (ky κ key) (ky κ y)=false:=by simpa [Bt] using hy
  have:κ.kle (ky κ x) (ky κ key):=Uu h tE
  show(!(κ.blt (ky κ key) (ky κ x)))=true
  rw[show κ.blt (ky κ key) (ky κ x)=false from this];rfl
theorem BtF(h:Bt κ false key x=true):kl κ x key:=by
 have:κ.blt (ky κ key) (ky κ x)=false:=by simpa [Bt] using h
 exact this
theorem qoA(h:Bt κ false key x=false):kl κ key x:=by
 have:κ.blt (ky κ key) (ky κ x)=true:=by simpa [Bt] using h
 exact Z7 this
theorem BtT(h:Bt κ true key x=true):kl κ x key:=Z7 h
theorem qmW(h:Bt κ true key x=false):kl κ key x:=h
theorem yr(hO:κ.OneLt){st:SortSt}(gQ:List Keyed)(es:(arr.toList.drop base).take n=gQ)(hk:kindOf st=oneType')(K8:Kd κ key)(hs:base+n<=arr.size)(hd:∀ x∈gQ,Kd κ x)(so:So κ gQ)(hn:i8<n)(h:∀ k,k<=n->(∀ x∈gQ.take k,Bt κ left key x=true)->(∀ x∈gQ.drop k,Bt κ left key x=false)->Q (some k) st):wpS (model prog w) A E s (ye left key arr base n i8) Q st:=by
 have ln:gQ.length=n:=by rw[<- es,Ul,Um,Yv];omega
 have at_:∀ i,(hi:i<n)->arr[base+i]?=some (gQ[i]'(by omega)):=λ i hi=>by
  have:gQ[i]?=some (gQ[i]'(by omega)):=Xy _
  rw[<- this,<- es,Xw hi,Zk,XX]
 refine qhZ (λ i=>if hi:i<n then Bt κ left key (gQ[i]'(by omega)) else false) ?_ ?_ hn ?_
 ·intro i hi R hR;rw[Vy hi] at hR;exact qmU hO hk K8 (at_ i hi) (hd _ (Us _)) hR
 ·intro i j hij hj hB;rw[Vy hj] at hB;rw[Vy (by omega)];rcases Q3 i j with c9 | hge
  ·exact qmV (Xu.mp so i j (by omega) (by omega) c9) hB
  ·have:i=j:=by omega
   subst this;exact hB
 ·intro k oS h1 h2;refine h k oS (λ x hx=>?_) (λ x hx=>?_)
  ·obtain⟨i,hi,rfl⟩:=Y0 hx;rw[Ul] at hi
   have:=h1 i (by omega)
   rw[Vy (by omega)] at this;rw[Z8];exact this
  ·obtain⟨i,hi,rfl⟩:=Y0 hx;rw[Um] at hi
   have:=h2 (k+i) (by omega) (by omega)
   rw[Vy (by omega)] at this;rw[List.getElem_drop];exact this
end
noncomputable abbrev vH(st:SortSt)(g:Nat):SortSt:=SortSt.mk' (kindOf st) (arrOf st) (pendingOf st) g (failedOf st)
abbrev SM:=StateT SortSt Sem
noncomputable def qdG:Array Keyed->Array Keyed->SM (Array Keyed):=sortPriv% PySem.Builtin.mergeLo
noncomputable def qjN(g:Nat):SM Unit:=modify λ st=>vH st g
noncomputable def k6(a b o:Array Keyed)(i j:Nat):Array Keyed:=o++a.extract i a.size++b.extract j b.size
noncomputable def qfI(a b o:Array Keyed)(i j:Nat):Array Keyed:=o++b.extract j b.size++a.extract i a.size
abbrev C1:=Option (Array Keyed)×Array Keyed×Nat×Nat×Nat×Nat
abbrev C2:=Option (Array Keyed)×Array Keyed×Nat×Nat×Nat×Nat×Nat
abbrev C0:=Option (Array Keyed)×Array Keyed×Nat×Nat×Nat
noncomputable def lo3(a b o:Array Keyed)(i j g p q:Nat):SM (ForInStep C2):=do
 let x <- elem' a i
 if i+1+1 == a.size then pure (.done (some (qfI a b (o.push x) (i+1) j),o.push x,i+1,j,g,p,q))
 else if p<7 && q<7 then pure (.done (none,o.push x,i+1,j,g,p,q))
 else pure (.yield (none,o.push x,i+1,j,g,p,q))
noncomputable def lo2(a b o:Array Keyed)(i j g p q:Nat):SM (ForInStep C2):=do
 let x <- elem' b j
 if j+1 == b.size then pure (.done (some (k6 a b (o.push x) i (j+1)),o.push x,i,j+1,g,p,q))
 else do
  let y <- elem' a i
  let c <- ye true y b (j+1) (b.size-(j+1)) 0
  match c with
  |some k =>
   if k > 0 then
    if j+1+k == b.size then pure (.done (some (k6 a b (o.push x++b.extract (j+1) (j+1+k)) i (j+1+k)),o.push x++b.extract (j+1) (j+1+k),i,j+1+k,g,p,k))
    else lo3 a b (o.push x++b.extract (j+1) (j+1+k)) i (j+1+k) g p k
   else lo3 a b (o.push x) i (j+1) g p k
  |_=>pure (.done (some (k6 a b (o.push x) i (j+1)),o.push x,i,j+1,g,p,q))
noncomputable def lo1(a b o:Array Keyed)(i j g p q:Nat):SM (ForInStep C2):=do
 qjN g
 let x <- elem' b j
 let c <- ye false x a i (a.size-i) 0
 match c with
 |some k =>
  if k > 0 then
   if i+k+1 == a.size then pure (.done (some (qfI a b (o++a.extract i (i+k)) (i+k) j),o++a.extract i (i+k),i+k,j,g,k,q))
   else if i+k == a.size then pure (.done (some (k6 a b (o++a.extract i (i+k)) (i+k) j),o++a.extract i (i+k),i+k,j,g,k,q))
   else lo2 a b (o++a.extract i (i+k)) (i+k) j g k q
  else lo2 a b o i j g k q
 |_=>pure (.done (some (k6 a b o i j),o,i,j,g,p,q))
noncomputable def lo0(a b:Array Keyed)(g:Nat)(r:C1):SM (ForInStep C1):=do
 let y <- elem' b r.2.2.2.1
 let x <- elem' a r.2.2.1
 let c <- lt' y x
 match c with
 |some c =>
  if c then do
   let z <- elem' b r.2.2.2.1
   if r.2.2.2.1+1 == b.size then pure (.done (some (k6 a b (r.2.1.push z) r.2.2.1 (r.2.2.2.1+1)),r.2.1.push z,r.2.2.1,r.2.2.2.1+1,0,r.2.2.2.2.2+1))
   else if r.2.2.2.2.2+1 ≥ g then pure (.done (none,r.2.1.push z,r.2.2.1,r.2.2.2.1+1,0,r.2.2.2.2.2+1))
   else pure (.yield (none,r.2.1.push z,r.2.2.1,r.2.2.2.1+1,0,r.2.2.2.2.2+1))
  else do
   let z <- elem' a r.2.2.1
   if r.2.2.1+1+1 == a.size then pure (.done (some (qfI a b (r.2.1.push z) (r.2.2.1+1) r.2.2.2.1),r.2.1.push z,r.2.2.1+1,r.2.2.2.1,r.2.2.2.2.1+1,0))
   else if r.2.2.2.2.1+1 ≥ g then pure (.done (none,r.2.1.push z,r.2.2.1+1,r.2.2.2.1,r.2.2.2.2.1+1,0))
   else pure (.yield (none,r.2.1.push z,r.2.2.1+1,r.2.2.2.1,r.2.2.2.2.1+1,0))
 |_=>pure (.done (some (k6 a b r.2.1 r.2.2.1 r.2.2.2.1),r.2.1,r.2.2.1,r.2.2.2.1,r.2.2.2.2.1,r.2.2.2.2.2))
theorem qh0(a b:Array Keyed):qdG a b=(do
 rule "list.sort.merge-lo"
 let t:=a.size+b.size
 let mut o:Array Keyed:=#[<- elem' b 0]
 let mut i:=0
 let mut j:=1
 if j == b.size then return k6 a b o i j
 if i+1 == a.size then return qfI a b o i j
 let mut g:=gallopOf (<- get)
 for _ in [0:t] do
  let mut p:=0
  let mut q:=0
  for _ in [0:t] do
   let some c <- lt' (<- elem' b j) (<- elem' a i)|return k6 a b o i j
   if c then
    o:=o.push (<- elem' b j);j:=j+1;q:=q+1;p:=0
    if j == b.size then return k6 a b o i j
    if q ≥ g then break
   else
    o:=o.push (<- elem' a i);i:=i+1;p:=p+1;q:=0
    if i+1 == a.size then return qfI a b o i j
    if p ≥ g then break
  rule "list.sort.gallop"
  g:=g+1
  for _ in [0:t] do
   if g > 1 then g:=g-1
   qjN g
   let some k <- ye false (<- elem' b j) a i (a.size-i) 0|return k6 a b o i j
   p:=k
   if k > 0 then
    o:=o++a.extract i (i+k);i:=i+k
    if i+1 == a.size then return qfI a b o i j
    if i == a.size then return k6 a b o i j
   o:=o.push (<- elem' b j);j:=j+1
   if j == b.size then return k6 a b o i j
   let some k <- ye true (<- elem' a i) b j (b.size-j) 0|return k6 a b o i j
   q:=k
   if k > 0 then
    o:=o++b.extract j (j+k);j:=j+k
    if j == b.size then return k6 a b o i j
   o:=o.push (<- elem' a i);i:=i+1
   if i+1 == a.size then return qfI a b o i j
   if p<7 && q<7 then break
  g:=g+1
  qjN g
 unsupported "internal:list.sort.merge-bound"):=rfl
def Ok{γ:Type}(κ:KeyKind)(a b:Array Keyed)(st:SortSt)(m:Nat)(c:Option (Array Keyed)×Array Keyed×Nat×Nat×γ)(c5:SortSt):Prop:=
 (∃ g,c5=vH st g)/\((∃ r,c.1=some r/\Gd (kl κ) a.toList b.toList r.toList)∨(c.1=none/\MI (kl κ) a.toList b.toList c.2.1.toList c.2.2.1 c.2.2.2.1/\c.2.2.1+1<a.size/\c.2.2.2.1<b.size/\m<=c.2.2.1+c.2.2.2.1))
def qcb{γ:Type}(κ:KeyKind)(a b:Array Keyed)(st:SortSt)(m:Nat):ForInStep (Option (Array Keyed)×Array Keyed×Nat×Nat×γ)->SortSt->Prop
 |.done c,c5=>Ok κ a b st m c c5
 |.yield c,c5=>Ok κ a b st m c c5/\c.1=none
theorem qcW(a:Array Keyed)(i:Nat):(a.extract i a.size).toList=a.toList.drop i:=by
 rw[Yn,Xs];exact XL (by rw[Um,Yv];exact Q9 _)
theorem qgR(a:Array Keyed)(i k:Nat):(a.extract i (i+k)).toList=(a.toList.drop i).take k:=by
 rw[Yn,Xs,XC]
theorem qdH(a b o:Array Keyed)(i j:Nat):(k6 a b o i j).toList=o.toList++a.toList.drop i++b.toList.drop j:=by
 unfold k6;rw[Y2,Y2,qcW,qcW]
theorem qfJ(a b o:Array Keyed)(i j:Nat):(qfI a b o i j).toList=o.toList++b.toList.drop j++a.toList.drop i:=by
 unfold qfI;rw[Y2,Y2,qcW,qcW]
theorem qbQ{a:Array Keyed}(h:i<a.size):a.toList[i]?=some a[i]:=by
 rw[XX];exact getElem?_pos a i h
section
variable {prog:Program}{w:World}{A:Around}{E:Value->Shared->Prop}{s:Shared}{κ:KeyKind}{a b:Array Keyed}{st:SortSt}
variable (hO:κ.OneLt)(hk:kindOf st=oneType')(ka:∀ x∈a.toList,Kd κ x)(kb:∀ x∈b.toList,Kd κ x)(hl:∀ x∈a.toList.drop (a.size-1),∀ y∈b.toList,kl κ y x)
include hO hk ka kb hl
theorem qcX(e:i+1=a.size):∀ x∈a.toList.drop i,∀ y∈b.toList,kl κ y x:=by
 have:a.size-1=i:=by omega
 rw[<- this];exact hl
theorem MI.headA(m:MI (kl κ) a.toList b.toList O i j)(hi:i<a.size):∀ y∈a.toList.drop i,kl κ a[i] y:=by
 have:=(Yo.mp m.sa).2.1
 rw[yq (qbQ hi)] at this ⊢;intro y hy;rcases U3.mp hy with h|h
 ·rw[Zl.mp h];exact Jg _
 ·exact(Zg.mp this).1 y h
theorem MI.headB(m:MI (kl κ) a.toList b.toList O i j)(hj:j<b.size):∀ y∈b.toList.drop j,kl κ b[j] y:=by
 have:=(Yo.mp m.sb).2.1
 rw[yq (qbQ hj)] at this ⊢;intro y hy;rcases U3.mp hy with h|h
 ·rw[Zl.mp h];exact Jg _
 ·exact(Zg.mp this).1 y h
theorem qk5(hs:∃ g,c5=vH st g)(mi:MI (kl κ) a.toList b.toList o.toList i j)(hi:i+1<a.size)(hj:j<b.size)(hm:m<=i+j)(hx:∀ y∈b.toList.drop j,kl κ a[i] y):wpS (model prog w) A E s (lo3 a b o i j g p q) (qcb κ a b st m) c5:=by
 unfold lo3;refine Vq (qY (p:=a[i]) (getElem?_pos a i (by omega)) ?_);have D9:MI (kl κ) a.toList b.toList (o.push a[i]).toList (i+1) j:=by
  rw[Z1];exact mi.takeA (yq (qbQ (by omega))) (λ x A1 y hy=>by rw[Zl.mp A1];exact hx y hy)
 by_cases h1:i+1+1=a.size
 ·rw[Vz (by simpa using h1)];refine Vp ⟨hs,.inl ⟨_,rfl,?_⟩⟩;rw[qfJ];exact D9.last (qcX hO hk ka kb hl h1)
 ·rw[V0 (by simpa using h1)];by_cases h2:(decide (p<7) && decide (q<7))=true
  ·rw[Vz h2];exact Vp ⟨hs,.inr ⟨rfl,D9,by show i+1+1<a.size;omega,hj,by show m<=i+1+j;omega⟩⟩
  ·rw[V0 h2];exact Vp ⟨⟨hs,.inr ⟨rfl,D9,by show i+1+1<a.size;omega,hj,by show m<=i+1+j;omega⟩⟩,rfl⟩
theorem qk6(hs:∃ g,c5=vH st g)(mi:MI (kl κ) a.toList b.toList o.toList i j)(hi:i+1<a.size)(hj:j<b.size)(hm:m<=i+j)(hx:∀ y∈a.toList.drop i,kl κ b[j] y):wpS (model prog w) A E s (lo2 a b o i j g p q) (qcb κ a b st m) c5:=by
 unfold lo2;refine Vq (qY (p:=b[j]) (getElem?_pos b j (by omega)) ?_);have D9:MI (kl κ) a.toList b.toList (o.push b[j]).toList i (j+1):=by
  rw[Z1];exact mi.takeB (yq (qbQ (by omega))) (λ x A1 y hy=>by rw[Zl.mp A1];exact hx y hy)
 by_cases h1:j+1=b.size
 ·rw[Vz (by simpa using h1)];refine Vp ⟨hs,.inl ⟨_,rfl,?_⟩⟩;rw[qdH];exact D9.endB (by rw[Yv];omega)
 ·rw[V0 (by simpa using h1)];refine Vq (qY (p:=a[i]) (getElem?_pos a i (by omega)) ?_);have L7:kindOf c5=oneType':=by obtain⟨g,rfl⟩:=hs;exact hk
  refine Vq (yr hO (b.toList.drop (j+1)) (XL (by rw[Um,Yv];exact Q9 _)) L7 (ka _ (by simp)) (by omega) (λ x hx=>kb x (Yp hx)) ((Yo.mp D9.sb).2.1) (by omega) λ k oS k1 k2=>?_);have ha:=mi.headA hO hk ka kb hl (show i<a.size by omega);have mk:MI (kl κ) a.toList b.toList (o.push b[j]++b.extract (j+1) (j+1+k)).toList i (j+1+k):=by
   rw[Y2,qgR];exact D9.takeB (drop_take _ _ _) λ x hx y hy=>Uu (BtT (k1 x hx)) (ha y hy)
  have iR:∀ y∈b.toList.drop (j+1+k),kl κ a[i] y:=λ y hy=>qmW (k2 y (by rw[J5];exact hy))
  dsimp only;by_cases hk0:k > 0
  ·rw[Vz hk0];by_cases h3:j+1+k=b.size
   ·rw[Vz (by simpa using h3)];refine Vp ⟨hs,.inl ⟨_,rfl,?_⟩⟩;rw[qdH];exact mk.endB (by rw[Yv];omega)
   ·rw[V0 (by simpa using h3)];exact qk5 hO hk ka kb hl hs mk hi (by omega) (by omega) iR
  ·rw[V0 hk0]
   have:k=0:=by omega
   subst this;exact qk5 hO hk ka kb hl hs D9 hi (by omega) (by omega) iR
theorem qk7(hs:∃ g,c5=vH st g)(mi:MI (kl κ) a.toList b.toList o.toList i j)(hi:i+1<a.size)(hj:j<b.size)(hm:m<=i+j):wpS (model prog w) A E s (lo1 a b o i j g p q) (qcb κ a b st m) c5:=by
 unfold lo1;refine Vq (Vn ?_);have G2:∃ g',vH c5 g=vH st g':=by obtain⟨g1,rfl⟩:=hs;exact⟨g,rfl⟩
 have L7:kindOf (vH c5 g)=oneType':=by obtain⟨g1,rfl⟩:=hs;exact hk
 refine Vq (qY (p:=b[j]) (getElem?_pos b j (by omega)) ?_);refine Vq (yr hO (a.toList.drop i) (XL (by rw[Um,Yv];exact Q9 _)) L7 (kb _ (by simp)) (by omega) (λ x hx=>ka x (Yp hx)) ((Yo.mp mi.sa).2.1) (by omega) λ k oS k1 k2=>?_);have hb:=mi.headB hO hk ka kb hl hj;have mk:MI (kl κ) a.toList b.toList (o++a.extract i (i+k)).toList (i+k) j:=by
  rw[Y2,qgR];exact mi.takeA (drop_take _ _ _) λ x hx y hy=>Uu (BtF (k1 x hx)) (hb y hy)
 have tG:∀ y∈a.toList.drop (i+k),kl κ b[j] y:=λ y hy=>qoA (k2 y (by rw[J5];exact hy))
 dsimp only;by_cases hk0:k > 0
 ·rw[Vz hk0];by_cases h3:i+k+1=a.size
  ·rw[Vz (by simpa using h3)];refine Vp ⟨G2,.inl ⟨_,rfl,?_⟩⟩;rw[qfJ];exact mk.last (qcX hO hk ka kb hl h3)
  ·rw[V0 (by simpa using h3)];by_cases h4:i+k=a.size
   ·rw[Vz (by simpa using h4)];refine Vp ⟨G2,.inl ⟨_,rfl,?_⟩⟩;rw[qdH];exact mk.endA (by rw[Yv];omega)
   ·rw[V0 (by simpa using h4)];exact qk6 hO hk ka kb hl G2 mk (by omega) hj (by omega) tG
 ·rw[V0 hk0]
  have:k=0:=by omega
  subst this;exact qk6 hO hk ka kb hl G2 mi hi hj hm tG
theorem qoB(ok:Ok κ a b st m r c5)(hn:r.1=none):wpS (model prog w) A E s (lo0 a b g r) (qcb κ a b st (m+1)) c5:=by
 obtain⟨v,o,i,j,p,q⟩:=r;obtain⟨hs,⟨r,h1,h2⟩|⟨_,mi,hi,hj,hm⟩⟩:=ok
 ·rw[hn] at h1;cases h1
 change MI (kl κ) a.toList b.toList o.toList i j at mi
 change i+1<a.size at hi
 change j<b.size at hj
 change m<=i+j at hm
 unfold lo0;dsimp only;have L7:kindOf c5=oneType':=by obtain⟨g,rfl⟩:=hs;exact hk
 refine Vq (qY (p:=b[j]) (getElem?_pos b j (by omega)) ?_);refine Vq (qY (p:=a[i]) (getElem?_pos a i (by omega)) ?_);refine Vq (qdF hO L7 (kb _ (by simp)) (ka _ (by simp)) ?_);dsimp only;cases hc:κ.blt (ky κ b[j]) (ky κ a[i]) with
 |true =>
  rw[Vz rfl];refine Vq (qY (p:=b[j]) (getElem?_pos b j (by omega)) ?_);have ha:=mi.headA hO hk ka kb hl (show i<a.size by omega);have D9:MI (kl κ) a.toList b.toList (o.push b[j]).toList i (j+1):=by
   rw[Z1];exact mi.takeB (yq (qbQ (by omega))) (λ x A1 y hy=>by rw[Zl.mp A1];exact Uu (Z7 hc) (ha y hy))
  by_cases h1:j+1=b.size
  ·rw[Vz (by simpa using h1)];refine Vp ⟨hs,.inl ⟨_,rfl,?_⟩⟩;rw[qdH];exact D9.endB (by rw[Yv];omega)
  ·rw[V0 (by simpa using h1)];by_cases h2:q+1 ≥ g
   ·rw[Vz h2];exact Vp ⟨hs,.inr ⟨rfl,D9,hi,by show j+1<b.size;omega,by show m+1<=i+(j+1);omega⟩⟩
   ·rw[V0 h2];exact Vp ⟨⟨hs,.inr ⟨rfl,D9,hi,by show j+1<b.size;omega,by show m+1<=i+(j+1);omega⟩⟩,rfl⟩
 |false =>
  rw[V0 (by simp)];refine Vq (qY (p:=a[i]) (getElem?_pos a i (by omega)) ?_);have hb:=mi.headB hO hk ka kb hl hj;have D9:MI (kl κ) a.toList b.toList (o.push a[i]).toList (i+1) j:=by
   rw[Z1];exact mi.takeA (yq (qbQ (by omega))) (λ x A1 y hy=>by rw[Zl.mp A1];exact Uu hc (hb y hy))
  by_cases h1:i+1+1=a.size
  ·rw[Vz (by simpa using h1)];refine Vp ⟨hs,.inl ⟨_,rfl,?_⟩⟩;rw[qfJ];exact D9.last (qcX hO hk ka kb hl h1)
  ·rw[V0 (by simpa using h1)];by_cases h2:p+1 ≥ g
   ·rw[Vz h2];exact Vp ⟨hs,.inr ⟨rfl,D9,by show i+1+1<a.size;omega,hj,by show m+1<=i+1+j;omega⟩⟩
   ·rw[V0 h2];exact Vp ⟨⟨hs,.inr ⟨rfl,D9,by show i+1+1<a.size;omega,hj,by show m+1<=i+1+j;omega⟩⟩,rfl⟩
end
section
variable {prog:Program}{w:World}{A:Around}{E:Value->Shared->Prop}{s:Shared}{κ:KeyKind}{a b:Array Keyed}{st:SortSt}
theorem Ok.mono{c:Option (Array Keyed)×Array Keyed×Nat×Nat×γ}(h:Ok κ a b st m c c5)(hm:m'<=m):Ok κ a b st m' c c5:=by
 obtain⟨hs,h|⟨h1,h2,h3,h4,h5⟩⟩:=h
 ·exact⟨hs,.inl h⟩
 ·exact⟨hs,.inr ⟨h1,h2,h3,h4,Qu hm h5⟩⟩
theorem qgS(hO:κ.OneLt)(hk:kindOf st=oneType')(ka:∀ x∈a.toList,Kd κ x)(kb:∀ x∈b.toList,Kd κ x)(h0:MI (kl κ) a.toList b.toList [] 0 0)(a1:0<a.size)(b1:0<b.size)(hd:∀ y∈a.toList,kl κ b[0] y)(hl:∀ x∈a.toList.drop (a.size-1),∀ y∈b.toList,kl κ y x)(h:∀(o:Array Keyed)(g:Nat),Gd (kl κ) a.toList b.toList o.toList->Q o (vH st g)):wpS (model prog w) A E s (qdG a b) Q st:=by
 rw[qh0];refine Vq (wpS_lift (Vm ⟨rfl,?_⟩));refine Vq (qY (p:=b[0]) (getElem?_pos b 0 b1) ?_);dsimp only;have mi:MI (kl κ) a.toList b.toList (#[b[0]]:Array Keyed).toList 0 1:=by
  have:=h0.takeB (yq (qbQ b1)) (λ x hx y hy=>by rw[Zl.mp hx];exact hd y (Yp hy))
  simpa using this
 by_cases h1:1=b.size
 ·rw[Vz (by simpa using h1)];refine Vp (h _ (gallopOf st) ?_);rw[qdH];exact mi.endB (by rw[Yv];omega)
 rw[V0 (by simpa using h1)];by_cases h2:0+1=a.size
 ·rw[Vz (by simpa using h2)];refine Vp (h _ (gallopOf st) ?_);rw[qfJ];exact mi.last (qcX hO hk ka kb hl h2)
 rw[V0 (by simpa using h2)];refine Vq (Vx ?_);refine Vq (Vr (Q8 (I:=λ x (c:C0) c5=>Ok κ a b st (x+1) c c5/\c.1=none) (Q:=λ c c5=>Ok κ a b st 0 c c5/\c.1≠none) ?step ?fin ⟨⟨⟨gallopOf st,rfl⟩,.inr ⟨rfl,mi,by show 0+1<a.size;omega,by show 1<b.size;omega,by show 0+1<=0+1;omega⟩⟩,rfl⟩) ?post)
 case post =>
  rintro⟨v,c⟩ c5 ⟨⟨⟨g,rfl⟩,ok⟩,hv⟩;rcases ok with⟨r,e,gd⟩|⟨e,_⟩
  ·cases e
   exact Vp (h r g gd)
  ·exact absurd e hv
 case fin =>
  rintro⟨v,o,i,j,g⟩ c5 ⟨⟨hs,ok⟩,hv⟩;rcases ok with⟨r,e,gd⟩|⟨e,_,hi,hj,hm⟩
  ·rw[hv] at e;cases e
  ·change i+1<a.size at hi
   change j<b.size at hj
   change _<=i+j at hm
   omega
 case step =>
  rintro x c c5 _ hx ⟨ok,hn⟩;obtain⟨v,o,i,j,g⟩:=c;cases hn
  have ok1:Ok κ a b st (x+1) ((none,o,i,j,0,0):C1) c5:=ok;refine Vq (Vr (Q8 (I:=λ y (c:C1) c5=>Ok κ a b st (x+1+y) c c5/\c.1=none) (Q:=λ c c5=>Ok κ a b st (x+2) c c5) ?istep ?ifin ⟨ok1,rfl⟩) ?ipost)
  case istep =>
   rintro y c l8 _ hy ⟨M8,eU⟩;refine Vr (show wpS (model prog w) A E s (lo0 a b g c) (qcb κ a b st (x+1+y+1)) l8 from qoB hO hk ka kb hl M8 eU) λ r K3 hr=>?_
   cases r with
   |done c=>exact Ok.mono hr (by omega)
   |yield c=>exact hr
  case ifin =>
   rintro⟨v,o,i,j,p,q⟩ l8 ⟨⟨hs,M8⟩,hv⟩;rcases M8 with⟨r,e,gd⟩|⟨e,_,hi,hj,hm⟩
   ·rw[hv] at e;cases e
   ·change i+1<a.size at hi
    change j<b.size at hj
    change _<=i+j at hm
    omega
  case ipost =>
   rintro⟨v,o,i,j,p,q⟩ l8 ⟨hs,M8⟩;dsimp only;cases v with
   |some v =>
    rcases M8 with⟨r,e,gd⟩|⟨e,_⟩
    ·cases e
     exact Vp ⟨⟨hs,.inl ⟨_,rfl,gd⟩⟩,by simp⟩
    ·cases e
   |none =>
    dsimp only;refine Vq (wpS_lift (Vm ⟨rfl,?_⟩));have ok3:Ok κ a b st (x+2) ((none,o,i,j,g+1,p,q):C2) l8:=⟨hs,M8⟩;refine Vq (Vr (Q8 (I:=λ y (c:C2) c5=>Ok κ a b st (x+2) c c5/\c.1=none) (Q:=λ c c5=>Ok κ a b st (x+2) c c5) ?jstep ?jfin ⟨ok3,rfl⟩) ?jpost)
    case jfin=>exact λ c c5 hc=>hc.1
    case jstep =>
     rintro y ⟨v,o,i,j,g,p,q⟩ K3 _ hy ⟨⟨hs,iH⟩,hn⟩;have tU:v=none:=hn;subst tU;rcases iH with⟨r,e,gd⟩|⟨_,mi,hi,hj,hm⟩
     ·cases e
     change MI (kl κ) a.toList b.toList o.toList i j at mi
     change i+1<a.size at hi
     change j<b.size at hj
     change _<=i+j at hm
     refine Vr (Q:=qcb κ a b st (x+2)) ?_ λ r K3 hr=>?_
     ·by_cases hg:g > 1
      ·dsimp only;rw[Vz hg];show wpS (model prog w) A E s (lo1 a b o i j (g-1) p q) _ _
       exact qk7 hO hk ka kb hl hs mi hi hj hm
      ·dsimp only;rw[V0 hg];show wpS (model prog w) A E s (lo1 a b o i j g p q) _ _
       exact qk7 hO hk ka kb hl hs mi hi hj hm
     ·cases r with
      |done c=>exact hr
      |yield c=>exact hr
    case jpost =>
     rintro⟨v,o,i,j,g,p,q⟩ K3 ⟨hs,iH⟩;dsimp only;cases v with
     |some v =>
      rcases iH with⟨r,e,gd⟩|⟨e,_⟩
      ·cases e
       exact Vp ⟨⟨hs,.inl ⟨_,rfl,gd⟩⟩,by simp⟩
      ·cases e
     |none =>
      refine Vq (Vn (Vp ⟨⟨?_,iH⟩,rfl⟩));obtain⟨g1,rfl⟩:=hs;exact⟨g+1,rfl⟩
end
structure MH{α:Type}(r:α->α->Prop)(la lb O:List α)(i j:Nat):Prop where
 sa:(la.take i++O).Pairwise r
 sb:(lb.take j++O).Pairwise r
 pm:(la.take i++(lb.take j++O)).Perm (la++lb)
theorem MH.takeA{r:α->α->Prop}{la lb O:List α}(h:MH r la lb O i j){X:List α}(e:la.take i=la.take i'++X)(hx:∀ x∈X,∀ y∈lb.take j,r y x):MH r la lb (X++O) i' j:=by
 have h1:=h.sa;rw[e,Zx] at h1;have h2:=Yo.mp h.sb;refine⟨h1,Yo.mpr ⟨h2.1,(Yo.mp h1).2.1,λ x A1 y hy=>?_⟩,?_⟩
 ·rcases U3.mp hy with hX | hO
  ·exact hx y hX x A1
  ·exact h2.2.2 x A1 y hO
 ·have:=h.pm
  rw[e,Zx] at this;exact((Xg (lb.take j) X O).append_left (la.take i')).trans this
theorem MH.takeB{r:α->α->Prop}{la lb O:List α}(h:MH r la lb O i j){X:List α}(e:lb.take j=lb.take j'++X)(hx:∀ x∈X,∀ y∈la.take i,r y x):MH r la lb (X++O) i j':=by
 have h1:=h.sb;rw[e,Zx] at h1;have h2:=Yo.mp h.sa;refine⟨Yo.mpr ⟨h2.1,(Yo.mp h1).2.1,λ x A1 y hy=>?_⟩,h1,?_⟩
 ·rcases U3.mp hy with hX | hO
  ·exact hx y hX x A1
  ·exact h2.2.2 x A1 y hO
 ·have:=h.pm
  rw[e,Zx] at this;exact this
theorem MH.endA{r:α->α->Prop}{la lb O:List α}(h:MH r la lb O i j)(e:i=0):Gd r la lb (la.take i++lb.take j++O):=by
 subst e;exact⟨h.sb,h.pm⟩
theorem MH.endB{r:α->α->Prop}{la lb O:List α}(h:MH r la lb O i 0):Gd r la lb (la.take i++lb.take 0++O):=by
 have h1:=h.pm;rw[J4,U6];exact⟨h.sa,h1⟩
theorem MH.first{r:α->α->Prop}{la lb O:List α}(h:MH r la lb O i j)(hl:∀ x∈lb.take j,∀ y∈la,r x y):Gd r la lb (lb.take j++la.take i++O):=by
 have hb:=Yo.mp h.sb;refine⟨?_,?_⟩
 ·rw[Zx];refine Yo.mpr ⟨hb.1,h.sa,λ x hx y hy=>?_⟩;rcases U3.mp hy with hA | hO
  ·exact hl x hx y (Yq hA)
  ·exact hb.2.2 x hx y hO
 ·rw[Zx];exact(Xg (lb.take j) (la.take i) O).trans h.pm
theorem qU{α:Type}{l:List α}{x:α}(h:l[i]?=some x):l.take (i+1)=l.take i++[x]:=by
 obtain⟨hi,e⟩:=Xn.mp h;rw[Xa hi,e]
theorem qeQ{α:Type}(l:List α)(h:k<=i):l.take i=l.take k++(l.take i).drop k:=by
 have:=(XZ k (l.take i)).symm
 rwa [List.take_take,Jh h] at this
noncomputable def qdI:Array Keyed->Array Keyed->SM (Array Keyed):=sortPriv% PySem.Builtin.mergeHi
noncomputable def k7(a b o:Array Keyed)(i j:Nat):Array Keyed:=a.extract 0 i++b.extract 0 j++o.reverse
noncomputable def qfK(a b o:Array Keyed)(i j:Nat):Array Keyed:=b.extract 0 j++a.extract 0 i++o.reverse
abbrev D1:=Option (Array Keyed)×Nat×Nat×Array Keyed×Nat×Nat
abbrev D2:=Option (Array Keyed)×Nat×Nat×Array Keyed×Nat×Nat×Nat
abbrev D0:=Option (Array Keyed)×Nat×Nat×Array Keyed×Nat
theorem qh1(a b:Array Keyed):qdI a b=(do
 rule "list.sort.merge-hi"
 let t:=a.size+b.size
 let mut i:=a.size-1
 let mut j:=b.size
 let mut o:Array Keyed:=#[<- elem' a i]
 if i == 0 then return k7 a b o i j
 if j == 1 then return qfK a b o i j
 let mut g:=gallopOf (<- get)
 for _ in [0:t] do
  let mut p:=0
  let mut q:=0
  for _ in [0:t] do
   let some c <- lt' (<- elem' b (j-1)) (<- elem' a (i-1))|return k7 a b o i j
   if c then
    i:=i-1;o:=o.push (<- elem' a i);p:=p+1;q:=0
    if i == 0 then return k7 a b o i j
    if p ≥ g then break
   else
    j:=j-1;o:=o.push (<- elem' b j);q:=q+1;p:=0
    if j == 1 then return qfK a b o i j
    if q ≥ g then break
  rule "list.sort.gallop"
  g:=g+1
  for _ in [0:t] do
   if g > 1 then g:=g-1
   qjN g
   let some u <- ye false (<- elem' b (j-1)) a 0 i (i-1)|return k7 a b o i j
   let k:=i-u
   p:=k
   if k > 0 then
    o:=o++(a.extract u i).reverse;i:=u
    if i == 0 then return k7 a b o i j
   j:=j-1;o:=o.push (<- elem' b j)
   if j == 1 then return qfK a b o i j
   let some u <- ye true (<- elem' a (i-1)) b 0 j (j-1)|return k7 a b o i j
   let k:=j-u
   q:=k
   if k > 0 then
    o:=o++(b.extract u j).reverse;j:=u
    if j == 1 then return qfK a b o i j
    if j == 0 then return k7 a b o i j
   i:=i-1;o:=o.push (<- elem' a i)
   if i == 0 then return k7 a b o i j
   if p<7 && q<7 then break
  g:=g+1
  qjN g
 unsupported "internal:list.sort.merge-bound"):=rfl
noncomputable def hi3(a b o:Array Keyed)(i j g p q:Nat):SM (ForInStep D2):=do
 let x <- elem' a (i-1)
 if i-1 == 0 then pure (.done (some (k7 a b (o.push x) (i-1) j),i-1,j,o.push x,g,p,q))
 else if p<7 && q<7 then pure (.done (none,i-1,j,o.push x,g,p,q))
 else pure (.yield (none,i-1,j,o.push x,g,p,q))
noncomputable def hi2(a b o:Array Keyed)(i j g p q:Nat):SM (ForInStep D2):=do
 let x <- elem' b (j-1)
 if j-1 == 1 then pure (.done (some (qfK a b (o.push x) i (j-1)),i,j-1,o.push x,g,p,q))
 else do
  let y <- elem' a (i-1)
  let c <- ye true y b 0 (j-1) (j-1-1)
  match c with
  |some u =>
   if j-1-u > 0 then
    if u == 1 then pure (.done (some (qfK a b (o.push x++(b.extract u (j-1)).reverse) i u),i,u,o.push x++(b.extract u (j-1)).reverse,g,p,j-1-u))
    else if u == 0 then pure (.done (some (k7 a b (o.push x++(b.extract u (j-1)).reverse) i u),i,u,o.push x++(b.extract u (j-1)).reverse,g,p,j-1-u))
    else hi3 a b (o.push x++(b.extract u (j-1)).reverse) i u g p (j-1-u)
   else hi3 a b (o.push x) i (j-1) g p (j-1-u)
  |_=>pure (.done (some (k7 a b (o.push x) i (j-1)),i,j-1,o.push x,g,p,q))
noncomputable def hi1(a b o:Array Keyed)(i j g p q:Nat):SM (ForInStep D2):=do
 qjN g
 let x <- elem' b (j-1)
 let c <- ye false x a 0 i (i-1)
 match c with
 |some u =>
  if i-u > 0 then
   if u == 0 then pure (.done (some (k7 a b (o++(a.extract u i).reverse) u j),u,j,o++(a.extract u i).reverse,g,i-u,q))
   else hi2 a b (o++(a.extract u i).reverse) u j g (i-u) q
  else hi2 a b o i j g (i-u) q
 |_=>pure (.done (some (k7 a b o i j),i,j,o,g,p,q))
noncomputable def hi0(a b:Array Keyed)(g:Nat)(r:D1):SM (ForInStep D1):=do
 let y <- elem' b (r.2.2.1-1)
 let x <- elem' a (r.2.1-1)
 let c <- lt' y x
 match c with
 |some c =>
  if c then do
   let z <- elem' a (r.2.1-1)
   if r.2.1-1 == 0 then pure (.done (some (k7 a b (r.2.2.2.1.push z) (r.2.1-1) r.2.2.1),r.2.1-1,r.2.2.1,r.2.2.2.1.push z,r.2.2.2.2.1+1,0))
   else if r.2.2.2.2.1+1 ≥ g then pure (.done (none,r.2.1-1,r.2.2.1,r.2.2.2.1.push z,r.2.2.2.2.1+1,0))
   else pure (.yield (none,r.2.1-1,r.2.2.1,r.2.2.2.1.push z,r.2.2.2.2.1+1,0))
  else do
   let z <- elem' b (r.2.2.1-1)
   if r.2.2.1-1 == 1 then pure (.done (some (qfK a b (r.2.2.2.1.push z) r.2.1 (r.2.2.1-1)),r.2.1,r.2.2.1-1,r.2.2.2.1.push z,0,r.2.2.2.2.2+1))
   else if r.2.2.2.2.2+1 ≥ g then pure (.done (none,r.2.1,r.2.2.1-1,r.2.2.2.1.push z,0,r.2.2.2.2.2+1))
   else pure (.yield (none,r.2.1,r.2.2.1-1,r.2.2.2.1.push z,0,r.2.2.2.2.2+1))
 |_=>pure (.done (some (k7 a b r.2.2.2.1 r.2.1 r.2.2.1),r.2.1,r.2.2.1,r.2.2.2.1,r.2.2.2.2.1,r.2.2.2.2.2))
def OkH{γ:Type}(κ:KeyKind)(a b:Array Keyed)(st:SortSt)(m:Nat)(c:Option (Array Keyed)×Nat×Nat×Array Keyed×γ)(c5:SortSt):Prop:=
 (∃ g,c5=vH st g)/\((∃ r,c.1=some r/\Gd (kl κ) a.toList b.toList r.toList)∨(c.1=none/\MH (kl κ) a.toList b.toList c.2.2.2.1.toList.reverse c.2.1 c.2.2.1/\0<c.2.1/\c.2.1<=a.size/\1<c.2.2.1/\c.2.2.1<=b.size/\c.2.1+c.2.2.1+m<=a.size+b.size))
def qeR{γ:Type}(κ:KeyKind)(a b:Array Keyed)(st:SortSt)(m:Nat):ForInStep (Option (Array Keyed)×Nat×Nat×Array Keyed×γ)->SortSt->Prop
 |.done c,c5=>OkH κ a b st m c c5
 |.yield c,c5=>OkH κ a b st m c c5/\c.1=none
theorem qfL(a:Array Keyed)(i:Nat):(a.extract 0 i).toList=a.toList.take i:=by
 rw[Yn,Xs,J0,Nat.sub_zero]
theorem qiX(a:Array Keyed)(u i:Nat):((a.extract u i).reverse).toList.reverse=(a.toList.take i).drop u:=by
 rw[Yr,List.reverse_reverse,Yn,Xs,List.drop_take]
theorem qdJ(a b o:Array Keyed)(i j:Nat):(k7 a b o i j).toList=a.toList.take i++b.toList.take j++o.toList.reverse:=by
 unfold k7;rw[Y2,Y2,qfL,qfL,Yr]
theorem qfM(a b o:Array Keyed)(i j:Nat):(qfK a b o i j).toList=b.toList.take j++a.toList.take i++o.toList.reverse:=by
 unfold qfK;rw[Y2,Y2,qfL,qfL,Yr]
theorem qbR(o:Array Keyed)(x:Keyed):(o.push x).toList.reverse=[x]++o.toList.reverse:=by
 rw[Z1,Y4];rfl
theorem qiY(o u:Array Keyed):(o++u).toList.reverse=u.toList.reverse++o.toList.reverse:=by
 rw[Y2,Y4]
theorem yE{a:Array Keyed}(h0:0<i)(h:i<=a.size):a.toList.take i=a.toList.take (i-1)++[a[i-1]]:=by
 have:=qU (qbQ (a:=a) (i:=i-1) (by omega))
 rwa [Nat.sub_add_cancel h0] at this
section
variable {prog:Program}{w:World}{A:Around}{E:Value->Shared->Prop}{s:Shared}{κ:KeyKind}{a b:Array Keyed}{st:SortSt}
variable (hO:κ.OneLt)(hk:kindOf st=oneType')(ka:∀ x∈a.toList,Kd κ x)(kb:∀ x∈b.toList,Kd κ x)(hd:∀ x∈b.toList.take 1,∀ y∈a.toList,kl κ x y)
include hO hk ka kb hd
theorem MH.tailA(m:MH (kl κ) a.toList b.toList O i j)(h0:0<i)(hi:i<=a.size):∀ y∈a.toList.take i,kl κ y a[i-1]:=by
 have:=(Yo.mp m.sa).1
 rw[yE h0 hi] at this ⊢;intro y hy;rcases U3.mp hy with h|h
 ·exact(Yo.mp this).2.2 y h _ (Zl.mpr rfl)
 ·rw[Zl.mp h];exact Jg _
theorem MH.tailB(m:MH (kl κ) a.toList b.toList O i j)(h0:0<j)(hj:j<=b.size):∀ y∈b.toList.take j,kl κ y b[j-1]:=by
 have:=(Yo.mp m.sb).1
 rw[yE h0 hj] at this ⊢;intro y hy;rcases U3.mp hy with h|h
 ·exact(Yo.mp this).2.2 y h _ (Zl.mpr rfl)
 ·rw[Zl.mp h];exact Jg _
theorem qk8(hs:∃ g,c5=vH st g)(mi:MH (kl κ) a.toList b.toList o.toList.reverse i j)(i0:0<i)(hi:i<=a.size)(j1:1<j)(hj:j<=b.size)(hm:i+j+m<=a.size+b.size)(hx:∀ y∈b.toList.take j,kl κ y a[i-1]):wpS (model prog w) A E s (hi3 a b o i j g p q) (qeR κ a b st m) c5:=by
 unfold hi3;refine Vq (qY (p:=a[i-1]) (getElem?_pos a (i-1) (by omega)) ?_);have D9:MH (kl κ) a.toList b.toList (o.push a[i-1]).toList.reverse (i-1) j:=by
  rw[qbR];exact mi.takeA (yE i0 hi) (λ x A1 y hy=>by rw[Zl.mp A1];exact hx y hy)
 by_cases h1:i-1=0
 ·rw[Vz (by simpa using h1)];refine Vp ⟨hs,.inl ⟨_,rfl,?_⟩⟩;rw[qdJ];exact D9.endA h1
 ·rw[V0 (by simpa using h1)];by_cases h2:(decide (p<7) && decide (q<7))=true
  ·rw[Vz h2];exact Vp ⟨hs,.inr ⟨rfl,D9,by show 0<i-1;omega,by show i-1<=a.size;omega,j1,hj,by show i-1+j+m<=_;omega⟩⟩
  ·rw[V0 h2];exact Vp ⟨⟨hs,.inr ⟨rfl,D9,by show 0<i-1;omega,by show i-1<=a.size;omega,j1,hj,by show i-1+j+m<=_;omega⟩⟩,rfl⟩
theorem qk9(hs:∃ g,c5=vH st g)(mi:MH (kl κ) a.toList b.toList o.toList.reverse i j)(i0:0<i)(hi:i<=a.size)(j1:1<j)(hj:j<=b.size)(hm:i+j+m<=a.size+b.size)(hx:∀ y∈a.toList.take i,kl κ y b[j-1]):wpS (model prog w) A E s (hi2 a b o i j g p q) (qeR κ a b st m) c5:=by
 unfold hi2;refine Vq (qY (p:=b[j-1]) (getElem?_pos b (j-1) (by omega)) ?_);have D9:MH (kl κ) a.toList b.toList (o.push b[j-1]).toList.reverse i (j-1):=by
  rw[qbR];exact mi.takeB (yE (by omega) hj) (λ x A1 y hy=>by rw[Zl.mp A1];exact hx y hy)
 by_cases h1:j-1=1
 ·rw[Vz (by simpa using h1)];refine Vp ⟨hs,.inl ⟨_,rfl,?_⟩⟩;rw[qfM];exact D9.first (by rw[h1];exact hd)
 ·rw[V0 (by simpa using h1)];refine Vq (qY (p:=a[i-1]) (getElem?_pos a (i-1) (by omega)) ?_);have L7:kindOf c5=oneType':=by obtain⟨g,rfl⟩:=hs;exact hk
  refine Vq (yr hO (b.toList.take (j-1)) (by rw[J0]) L7 (ka _ (by simp)) (by omega) (λ x hx=>kb x (Yq hx)) ((Yo.mp D9.sb).1) (by omega) λ u K4 k1 k2=>?_);have ha:=mi.tailA hO hk ka kb hd i0 hi;have mk:MH (kl κ) a.toList b.toList (o.push b[j-1]++(b.extract u (j-1)).reverse).toList.reverse i u:=by
   rw[qiY,qiX];exact D9.takeB (qeQ _ K4) λ x hx y hy=>Uu (ha y hy) (qmW (k2 x hx))
  have iR:∀ y∈b.toList.take u,kl κ y a[i-1]:=λ y hy=>BtT (k1 y (by rw[List.take_take,Jh K4];exact hy))
  dsimp only;by_cases hk0:j-1-u > 0
  ·rw[Vz hk0];by_cases h3:u=1
   ·rw[Vz (by simpa using h3)];refine Vp ⟨hs,.inl ⟨_,rfl,?_⟩⟩;rw[qfM];exact mk.first (by rw[h3];exact hd)
   ·rw[V0 (by simpa using h3)];by_cases h4:u=0
    ·rw[Vz (by simpa using h4)];refine Vp ⟨hs,.inl ⟨_,rfl,?_⟩⟩;rw[qdJ];subst h4;exact mk.endB
    ·rw[V0 (by simpa using h4)];exact qk8 hO hk ka kb hd hs mk i0 hi (by omega) (by omega) (by omega) iR
  ·rw[V0 hk0]
   have:u=j-1:=by omega
   subst this;exact qk8 hO hk ka kb hd hs D9 i0 hi (by omega) (by omega) (by omega) iR
theorem qla(hs:∃ g,c5=vH st g)(mi:MH (kl κ) a.toList b.toList o.toList.reverse i j)(i0:0<i)(hi:i<=a.size)(j1:1<j)(hj:j<=b.size)(hm:i+j+m<=a.size+b.size):wpS (model prog w) A E s (hi1 a b o i j g p q) (qeR κ a b st m) c5:=by
 unfold hi1;refine Vq (Vn ?_);have G2:∃ g',vH c5 g=vH st g':=by obtain⟨g1,rfl⟩:=hs;exact⟨g,rfl⟩
 have L7:kindOf (vH c5 g)=oneType':=by obtain⟨g1,rfl⟩:=hs;exact hk
 refine Vq (qY (p:=b[j-1]) (getElem?_pos b (j-1) (by omega)) ?_);refine Vq (yr hO (a.toList.take i) (by rw[J0]) L7 (kb _ (by simp)) (by omega) (λ x hx=>ka x (Yq hx)) ((Yo.mp mi.sa).1) (by omega) λ u K4 k1 k2=>?_);have hb:=mi.tailB hO hk ka kb hd (by omega) hj;have mk:MH (kl κ) a.toList b.toList (o++(a.extract u i).reverse).toList.reverse u j:=by
  rw[qiY,qiX];exact mi.takeA (qeQ _ K4) λ x hx y hy=>Uu (hb y hy) (qoA (k2 x hx))
 have tG:∀ y∈a.toList.take u,kl κ y b[j-1]:=λ y hy=>BtF (k1 y (by rw[List.take_take,Jh K4];exact hy))
 dsimp only;by_cases hk0:i-u > 0
 ·rw[Vz hk0];by_cases h4:u=0
  ·rw[Vz (by simpa using h4)];refine Vp ⟨G2,.inl ⟨_,rfl,?_⟩⟩;rw[qdJ];exact mk.endA h4
  ·rw[V0 (by simpa using h4)];exact qk9 hO hk ka kb hd G2 mk (by omega) (by omega) j1 hj (by omega) tG
 ·rw[V0 hk0]
  have:u=i:=by omega
  subst this;exact qk9 hO hk ka kb hd G2 mi i0 hi j1 hj hm tG
theorem qoC(ok:OkH κ a b st m r c5)(hn:r.1=none):wpS (model prog w) A E s (hi0 a b g r) (qeR κ a b st (m+1)) c5:=by
 obtain⟨v,i,j,o,p,q⟩:=r;obtain⟨hs,⟨r,h1,h2⟩|⟨_,mi,i0,hi,j1,hj,hm⟩⟩:=ok
 ·rw[hn] at h1;cases h1
 change MH (kl κ) a.toList b.toList o.toList.reverse i j at mi
 change 0<i at i0
 change i<=a.size at hi
 change 1<j at j1
 change j<=b.size at hj
 change i+j+m<=_ at hm
 unfold hi0;dsimp only;have L7:kindOf c5=oneType':=by obtain⟨g,rfl⟩:=hs;exact hk
 refine Vq (qY (p:=b[j-1]) (getElem?_pos b (j-1) (by omega)) ?_);refine Vq (qY (p:=a[i-1]) (getElem?_pos a (i-1) (by omega)) ?_);refine Vq (qdF hO L7 (kb _ (by simp)) (ka _ (by simp)) ?_);dsimp only;cases hc:κ.blt (ky κ b[j-1]) (ky κ a[i-1]) with
 |true =>
  rw[Vz rfl];refine Vq (qY (p:=a[i-1]) (getElem?_pos a (i-1) (by omega)) ?_);have hb:=mi.tailB hO hk ka kb hd (by omega) hj;have D9:MH (kl κ) a.toList b.toList (o.push a[i-1]).toList.reverse (i-1) j:=by
   rw[qbR];exact mi.takeA (yE i0 hi) (λ x A1 y hy=>by rw[Zl.mp A1];exact Uu (hb y hy) (Z7 hc))
  by_cases h1:i-1=0
  ·rw[Vz (by simpa using h1)];refine Vp ⟨hs,.inl ⟨_,rfl,?_⟩⟩;rw[qdJ];exact D9.endA h1
  ·rw[V0 (by simpa using h1)];by_cases h2:p+1 ≥ g
   ·rw[Vz h2];exact Vp ⟨hs,.inr ⟨rfl,D9,by show 0<i-1;omega,by show i-1<=a.size;omega,j1,hj,by show i-1+j+(m+1)<=_;omega⟩⟩
   ·rw[V0 h2];exact Vp ⟨⟨hs,.inr ⟨rfl,D9,by show 0<i-1;omega,by show i-1<=a.size;omega,j1,hj,by show i-1+j+(m+1)<=_;omega⟩⟩,rfl⟩
 |false =>
  rw[V0 (by simp)];refine Vq (qY (p:=b[j-1]) (getElem?_pos b (j-1) (by omega)) ?_);have ha:=mi.tailA hO hk ka kb hd i0 hi;have D9:MH (kl κ) a.toList b.toList (o.push b[j-1]).toList.reverse i (j-1):=by
   rw[qbR];exact mi.takeB (yE (by omega) hj) (λ x A1 y hy=>by rw[Zl.mp A1];exact Uu (ha y hy) hc)
  by_cases h1:j-1=1
  ·rw[Vz (by simpa using h1)];refine Vp ⟨hs,.inl ⟨_,rfl,?_⟩⟩;rw[qfM];exact D9.first (by rw[h1];exact hd)
  ·rw[V0 (by simpa using h1)];by_cases h2:q+1 ≥ g
   ·rw[Vz h2];exact Vp ⟨hs,.inr ⟨rfl,D9,i0,hi,by show 1<j-1;omega,by show j-1<=b.size;omega,by show i+(j-1)+(m+1)<=_;omega⟩⟩
   ·rw[V0 h2];exact Vp ⟨⟨hs,.inr ⟨rfl,D9,i0,hi,by show 1<j-1;omega,by show j-1<=b.size;omega,by show i+(j-1)+(m+1)<=_;omega⟩⟩,rfl⟩
end
section
variable {prog:Program}{w:World}{A:Around}{E:Value->Shared->Prop}{s:Shared}{κ:KeyKind}{a b:Array Keyed}{st:SortSt}
theorem OkH.mono{c:Option (Array Keyed)×Nat×Nat×Array Keyed×γ}(h:OkH κ a b st m c c5)(hm:m'<=m):OkH κ a b st m' c c5:=by
 obtain⟨hs,h|⟨h1,h2,h3,h4,h5,h6,h7⟩⟩:=h
 ·exact⟨hs,.inl h⟩
 ·exact⟨hs,.inr ⟨h1,h2,h3,h4,h5,h6,by omega⟩⟩
theorem qgT(hO:κ.OneLt)(hk:kindOf st=oneType')(ka:∀ x∈a.toList,Kd κ x)(kb:∀ x∈b.toList,Kd κ x)(h0:MH (kl κ) a.toList b.toList [] a.size b.size)(a1:0<a.size)(b1:0<b.size)(hd:∀ x∈b.toList.take 1,∀ y∈a.toList,kl κ x y)(hl:∀ y∈b.toList,kl κ y a[a.size-1])(h:∀(o:Array Keyed)(g:Nat),Gd (kl κ) a.toList b.toList o.toList->Q o (vH st g)):wpS (model prog w) A E s (qdI a b) Q st:=by
 rw[qh1];refine Vq (wpS_lift (Vm ⟨rfl,?_⟩));refine Vq (qY (p:=a[a.size-1]) (getElem?_pos a (a.size-1) (by omega)) ?_);dsimp only;have mi:MH (kl κ) a.toList b.toList (#[a[a.size-1]]:Array Keyed).toList.reverse (a.size-1) b.size:=by
  have:=h0.takeA (yE a1 (Q9 _)) (λ x hx y hy=>by rw[Zl.mp hx];exact hl y (Yq hy))
  simpa using this
 by_cases h1:a.size-1=0
 ·rw[Vz (by simpa using h1)];refine Vp (h _ (gallopOf st) ?_);rw[qdJ];exact mi.endA h1
 rw[V0 (by simpa using h1)];by_cases h2:b.size=1
 ·rw[Vz (by simpa using h2)];refine Vp (h _ (gallopOf st) ?_);rw[qfM];exact mi.first (by rw[h2];exact hd)
 rw[V0 (by simpa using h2)];refine Vq (Vx ?_);refine Vq (Vr (Q8 (I:=λ x (c:D0) c5=>OkH κ a b st (x+1) c c5/\c.1=none) (Q:=λ c c5=>OkH κ a b st 0 c c5/\c.1≠none) ?step ?fin ⟨⟨⟨gallopOf st,rfl⟩,.inr ⟨rfl,mi,by show 0<a.size-1;omega,by show a.size-1<=a.size;omega,by show 1<b.size;omega,Q9 _,by show a.size-1+b.size+(0+1)<=_;omega⟩⟩,rfl⟩) ?post)
 case post =>
  rintro⟨v,c⟩ c5 ⟨⟨⟨g,rfl⟩,ok⟩,hv⟩;rcases ok with⟨r,e,gd⟩|⟨e,_⟩
  ·cases e
   exact Vp (h r g gd)
  ·exact absurd e hv
 case fin =>
  rintro⟨v,i,j,o,g⟩ c5 ⟨⟨hs,ok⟩,hv⟩;rcases ok with⟨r,e,gd⟩|⟨e,_,i0,hi,j1,hj,hm⟩
  ·rw[hv] at e;cases e
  ·change 0<i at i0
   change i+j+_<=_ at hm
   omega
 case step =>
  rintro x c c5 _ hx ⟨ok,hn⟩;obtain⟨v,i,j,o,g⟩:=c;cases hn
  have ok1:OkH κ a b st (x+1) ((none,i,j,o,0,0):D1) c5:=ok;refine Vq (Vr (Q8 (I:=λ y (c:D1) c5=>OkH κ a b st (x+1+y) c c5/\c.1=none) (Q:=λ c c5=>OkH κ a b st (x+2) c c5) ?istep ?ifin ⟨ok1,rfl⟩) ?ipost)
  case istep =>
   rintro y c l8 _ hy ⟨M8,eU⟩;refine Vr (show wpS (model prog w) A E s (hi0 a b g c) (qeR κ a b st (x+1+y+1)) l8 from qoC hO hk ka kb hd M8 eU) λ r K3 hr=>?_
   cases r with
   |done c=>exact OkH.mono hr (by omega)
   |yield c=>exact hr
  case ifin =>
   rintro⟨v,i,j,o,p,q⟩ l8 ⟨⟨hs,M8⟩,hv⟩;rcases M8 with⟨r,e,gd⟩|⟨e,_,i0,hi,j1,hj,hm⟩
   ·rw[hv] at e;cases e
   ·change 0<i at i0
    change i+j+_<=_ at hm
    omega
  case ipost =>
   rintro⟨v,i,j,o,p,q⟩ l8 ⟨hs,M8⟩;dsimp only;cases v with
   |some v =>
    rcases M8 with⟨r,e,gd⟩|⟨e,_⟩
    ·cases e
     exact Vp ⟨⟨hs,.inl ⟨_,rfl,gd⟩⟩,by simp⟩
    ·cases e
   |none =>
    dsimp only;refine Vq (wpS_lift (Vm ⟨rfl,?_⟩));have ok3:OkH κ a b st (x+2) ((none,i,j,o,g+1,p,q):D2) l8:=⟨hs,M8⟩;refine Vq (Vr (Q8 (I:=λ y (c:D2) c5=>OkH κ a b st (x+2) c c5/\c.1=none) (Q:=λ c c5=>OkH κ a b st (x+2) c c5) ?jstep ?jfin ⟨ok3,rfl⟩) ?jpost)
    case jfin=>exact λ c c5 hc=>hc.1
    case jstep =>
     rintro y ⟨v,i,j,o,g,p,q⟩ K3 _ hy ⟨⟨hs,iH⟩,hn⟩;have tU:v=none:=hn;subst tU;rcases iH with⟨r,e,gd⟩|⟨_,mi,i0,hi,j1,hj,hm⟩
     ·cases e
     change MH (kl κ) a.toList b.toList o.toList.reverse i j at mi
     change 0<i at i0
     change i<=a.size at hi
     change 1<j at j1
     change j<=b.size at hj
     change i+j+_<=_ at hm
     refine Vr (Q:=qeR κ a b st (x+2)) ?_ λ r K3 hr=>?_
     ·by_cases hg:g > 1
      ·dsimp only;rw[Vz hg];show wpS (model prog w) A E s (hi1 a b o i j (g-1) p q) _ _
       exact qla hO hk ka kb hd hs mi i0 hi j1 hj hm
      ·dsimp only;rw[V0 hg];show wpS (model prog w) A E s (hi1 a b o i j g p q) _ _
       exact qla hO hk ka kb hd hs mi i0 hi j1 hj hm
     ·cases r with
      |done c=>exact hr
      |yield c=>exact hr
    case jpost =>
     rintro⟨v,i,j,o,g,p,q⟩ K3 ⟨hs,iH⟩;dsimp only;cases v with
     |some v =>
      rcases iH with⟨r,e,gd⟩|⟨e,_⟩
      ·cases e
       exact Vp ⟨⟨hs,.inl ⟨_,rfl,gd⟩⟩,by simp⟩
      ·cases e
     |none =>
      refine Vq (Vn (Vp ⟨⟨?_,iH⟩,rfl⟩));obtain⟨g1,rfl⟩:=hs;exact⟨g+1,rfl⟩
end
theorem qmX{x:σ}{Q:PUnit->σ->Prop}{st:σ}(h:Q ⟨⟩ x):wpS M A E s (set x:StateT σ Sem PUnit) Q st:=by
 unfold wpS;rw[StateT.run_set];exact Vi ⟨rfl,h⟩
theorem qh2(i:Nat):mergeAt' i=(do
 let st <- get
 let (some (sa,na,pw),some (sb,nb,_)):=((pendingOf st)[i]?,(pendingOf st)[i+1]?) | unsupported "internal:list.sort.pending"
 set (SortSt.mk' (kindOf st) (arrOf st) (((pendingOf st).setIfInBounds i (sa,na+nb,pw)).eraseIdxIfInBounds (i+1)) (gallopOf st) (failedOf st))
 let some k <- ye false (<- elem' (arrOf st) sb) (arrOf st) sa na 0|return false
 let (sa,na):=(sa+k,na-k)
 if na == 0 then return true
 let some nb <- ye true (<- elem' (arrOf st) (sa+na-1)) (arrOf st) sb nb (nb-1)|return false
 if nb == 0 then return true
 let x:=(arrOf st).extract sa sb
 let y:=(arrOf st).extract sb (sb+nb)
 let m <- if na<=nb then qdG x y else qdI x y
 modify λ s=>setArr s (m.toList.zipIdx.foldl (λ a (p,j)=>a.setIfInBounds (sa+j) p) (arrOf s))
 return (failedOf (<- get)).isNone):=rfl
theorem qgU {U:List Keyed}:∀(l:List Keyed)(k:Nat)(M:List Keyed)(U:List Keyed)(arr:Array Keyed),arr.toList=U++(M++V)->U.length=sa+k->M.length=l.length ->
  ((l.zipIdx k).foldl (λ a (x:Keyed×Nat)=>a.setIfInBounds (sa+x.2) x.1) arr).toList=U++(l++V)
 | [],k,M,U,arr,e,hu,hm=>by
  have:M=[]:=XD.mp hm
  subst this;exact e
 |x::l,k,M,U,arr,e,hu,hm=>by
  obtain⟨m,M,rfl⟩:∃ m M',M=m::M':=by
   cases M with
   |nil=>cases hm
   |cons m M=>exact⟨m,M,rfl⟩
  rw[List.zipIdx_cons,Ja]
  have:=qgU (V:=V) (U:=U) (sa:=sa) l (k+1) M (U++[x]) (arr.setIfInBounds (sa+k) x) (by
   rw[Array.toList_setIfInBounds,e,<- hu,List.set_append_right _ _ (Q9 _),Nat.sub_self];simp) (by rw[Ze,hu];rfl) (by simpa using hm)
  rw[this];simp
section
variable {prog:Program}{w:World}{A:Around}{E:Value->Shared->Prop}{s:Shared}{κ:KeyKind}{st:SortSt}
theorem qgV(hO:κ.OneLt)(hk:kindOf st=oneType')(hf:failedOf st=none)(e1:(pendingOf st)[i]?=some (sa,na,pa))(e2:(pendingOf st)[i+1]?=some (sb,nb,pb))(E2:sb=sa+na)(ea:(arrOf st).toList=L++(X++(Y++R)))(hL:L.length=sa)(hX:X.length=na)(hY:Y.length=nb)(na0:0<na)(nb0:0<nb)(sx:So κ X)(sy:So κ Y)(kx:∀ x∈X,Kd κ x)(kY:∀ x∈Y,Kd κ x)(h:∀(Z:List Keyed)(arr:Array Keyed)(g:Nat),Z.Perm (X++Y)->So κ Z->arr.toList=L++(Z++R) ->
   Q true (SortSt.mk' (kindOf st) arr (((pendingOf st).setIfInBounds i (sa,na+nb,pa)).eraseIdxIfInBounds (i+1)) g (failedOf st))):wpS (model prog w) A E s (mergeAt' i) Q st:=by
 have sz:(arrOf st).size=sa+na+nb+R.length:=by
  rw[<- Yv,ea];simp[hL,hX,hY];omega
 have gX:(arrOf st).toList.drop sa=X++(Y++R):=by rw[ea,<- hL,List.drop_left]
 have gY:(arrOf st).toList.drop sb=Y++R:=by rw[E2,<- J5,gX,<- hX,List.drop_left]
 have y0:Y[0]?=some (Y[0]'(by omega)):=Xy _;have aY:(arrOf st)[sb]?=some (Y[0]'(by omega)):=by
  have e:(arrOf st).toList[sb+0]?=some (Y[0]'(by omega)):=by rw[<- Zk,gY,Xo (by omega),y0]
  rw[<- XX];exact e
 have hy0:∀ y∈Y,kl κ (Y[0]'(by omega)) y:=by
  cases Y with
  |nil=>simp at hY;omega
  |cons z Y =>
   intro y hy;rcases Qd.mp hy with e|e
   ·rw[e];exact Jg _
   ·exact(Zg.mp sy).1 y e
 rw[qh2];refine Vq (Vx ?_);rw[e1,e2];dsimp only;refine Vq (qmX ?_);refine Vq (qY aY ?_);refine Vq (yr hO X (by rw[gX,<- hX,J6]) hk (kY _ (Us _)) (by omega) kx sx (by omega) λ k oS k1 k2=>?_);dsimp only;by_cases h0:na-k=0
 ·rw[Vz (by simpa using h0)];refine Vp (h (X++Y) (arrOf st) _ (Jz _) (Yo.mpr ⟨sx,sy,λ x hx y hy=>?_⟩) (by rw[ea,Zx]));have L7:k=X.length:=by omega
  rw[L7,Ut] at k1;exact Uu (BtF (k1 x hx)) (hy0 y hy)
 rw[V0 (by simpa using h0)];have xl:X[na-1]?=some (X[na-1]'(by omega)):=Xy _;have hxl:∀ x∈X,kl κ x (X[na-1]'(by omega)):=by
  intro x hx;obtain⟨j,hj,rfl⟩:=Y0 hx;rcases Q3 j (na-1) with h1|h1
  ·exact Xu.mp sx j (na-1) hj (by omega) h1
  ·have:j=na-1:=by omega
   subst this;exact Jg _
 have aX:(arrOf st)[sa+k+(na-k)-1]?=some (X[na-1]'(by omega)):=by
  have e:sa+k+(na-k)-1=sa+(na-1):=by omega
  rw[e,<- XX,<- Zk,gX,Xo (by omega),xl]
 refine Vq (qY aX ?_);refine Vq (yr hO Y (by rw[gY,<- hY,J6]) hk (kx _ (Us _)) (by omega) kY sy (by omega) λ n hn1 n1 n2=>?_);dsimp only;by_cases uX:n=0
 ·rw[Vz (by simpa using uX)];refine Vp (h (X++Y) (arrOf st) _ (Jz _) (Yo.mpr ⟨sx,sy,λ x hx y hy=>?_⟩) (by rw[ea,Zx]));subst uX;exact Uu (hxl x hx) (qmW (n2 y hy))
 rw[V0 (by simpa using uX)];have ex:((arrOf st).extract (sa+k) sb).toList=X.drop k:=by
  rw[Yn,Xs,<- J5,gX,Xc (by omega)];rw[show sb-(sa+k)=(X.drop k).length by rw[Um];omega,J6]
 have ey:((arrOf st).extract sb (sb+n)).toList=Y.take n:=by
  rw[Yn,Xs,gY,XC,Xb (by omega)]
 generalize hxe:(arrOf st).extract (sa+k) sb=x at ex ⊢;generalize hye:(arrOf st).extract sb (sb+n)=y at ey ⊢;have lx:x.size=na-k:=by rw[<- Yv,ex,Um,hX]
 have ly:y.size=n:=by rw[<- Yv,ey,Ul,hY];omega
 have sx':So κ (X.drop k):=sx.sublist (List.drop_sublist _ _);have sy':So κ (Y.take n):=sy.sublist (List.take_sublist _ _);have kx':∀ z∈x.toList,Kd κ z:=λ z hz=>kx z (Yp (by rw[<- ex];exact hz))
 have ky':∀ z∈y.toList,Kd κ z:=λ z hz=>kY z (Yq (by rw[<- ey];exact hz))
 have yz:y[0]'(by omega)=Y[0]'(by omega):=by
  have h1:y.toList[0]?=some (y[0]'(by omega)):=qbQ (by omega);rw[ey,Xw (by omega),y0] at h1;exact(Option.some.inj h1).symm
 have xz:x[x.size-1]'(by omega)=X[na-1]'(by omega):=by
  have h1:x.toList[x.size-1]?=some (x[x.size-1]'(by omega)):=qbQ (by omega);rw[ex,Zk,show k+(x.size-1)=na-1 by omega,xl] at h1;exact(Option.some.inj h1).symm
 have hd:∀ z∈x.toList,kl κ (y[0]'(by omega)) z:=λ z hz=>by
  rw[yz];rw[ex] at hz;exact qoA (k2 z hz)
 have hl:∀ z∈y.toList,kl κ z (x[x.size-1]'(by omega)):=λ z hz=>by
  rw[xz];rw[ey] at hz;exact BtT (n1 z hz)
 have post:∀(o:Array Keyed)(g:Nat),Gd (kl κ) x.toList y.toList o.toList->wpS (model prog w) A E s (do
   modify λ s=>setArr s (o.toList.zipIdx.foldl (λ a (p,j)=>a.setIfInBounds (sa+k+j) p) (arrOf s))
   return (failedOf (<- get)).isNone) Q (vH (SortSt.mk' (kindOf st) (arrOf st) (((pendingOf st).setIfInBounds i (sa,na+nb,pa)).eraseIdxIfInBounds (i+1)) (gallopOf st) (failedOf st)) g):=by
  rintro o g ⟨so,po⟩;refine Vq (Vn (Vq (Vx (Vp ?_))));rw[ex,ey] at po;have lo:o.toList.length=(X.drop k++Y.take n).length:=po.length_eq
  have:=h (X.take k++(o.toList++Y.drop n)) (o.toList.zipIdx.foldl (λ a (x:Keyed×Nat)=>a.setIfInBounds (sa+k+x.2) x.1) (arrOf st)) g ?_ ?_ ?_
  ·have e:(failedOf (vH st g)).isNone=true:=by show(failedOf st).isNone=true;rw[hf];rfl
   show Q (failedOf st).isNone _
   rw[show(failedOf st).isNone=true from e];exact this
  ·refine(((po.append_right (Y.drop n)).append_left (X.take k))).trans (List.Perm.of_eq ?_);rw[Zx,XZ,<- Zx,XZ]
  ·have mo:∀ z∈o.toList,z∈X.drop k∨z∈Y.take n:=λ z hz=>U3.mp (po.mem_iff.mp hz)
   have sX:So κ (X.take k++X.drop k):=by rw[XZ];exact sx
   have sY:So κ (Y.take n++Y.drop n):=by rw[XZ];exact sy
   refine Yo.mpr ⟨(Yo.mp sX).1,Yo.mpr ⟨so,(Yo.mp sY).2.1,λ z hz u hu=>?_⟩,λ z hz u hu=>?_⟩
   ·rcases mo z hz with h1 | h1
    ·exact Uu (hxl z (Yp h1)) (qmW (n2 u hu))
    ·exact(Yo.mp sY).2.2 z h1 u hu
   ·rcases U3.mp hu with h1 | h1
    ·rcases mo u h1 with h2 | h2
     ·exact(Yo.mp sX).2.2 z hz u h2
     ·exact Uu (BtF (k1 z hz)) (hy0 u (Yq h2))
    ·exact Uu (BtF (k1 z hz)) (hy0 u (Yp h1))
  ·have:=qgU (V:=Y.drop n++R) (U:=[]) (sa:=sa+k) o.toList 0 (X.drop k++Y.take n) (L++X.take k) (arrOf st) (by
    rw[ea]
    conv=>lhs;rw[<- XZ k X,<- XZ n Y]
    simp only[Zx]) (by rw[Ze,Ul];omega) lo.symm
   rw[this];simp only[Zx]
 by_cases K7:na-k<=n
 ·rw[Vz K7];refine Vq (qgS hO hk kx' ky' ⟨by simpa [ex] using sx',by simpa [ey] using sy',by simp⟩ (by omega) (by omega) hd (λ z hz u hu=>?_) post);rw[yq (qbQ (by omega)),XM (by rw[Yv];omega),U6,Zl] at hz;rw[hz];exact hl u hu
 ·rw[V0 K7];refine Vq (qgT hO hk kx' ky' ⟨?_,?_,?_⟩ (by omega) (by omega) (λ z hz u hu=>?_) hl post)
  ·rw[U6,XL (by rw[Yv];exact Q9 _),ex];exact sx'
  ·rw[U6,XL (by rw[Yv];exact Q9 _),ey];exact sy'
  ·rw[U6,XL (by rw[Yv];exact Q9 _),XL (by rw[Yv];exact Q9 _)]
  ·rw[show(1:Nat)=0+1 from rfl,qU (qbQ (a:=y) (i:=0) (by omega)),J4,Jb,Zl] at hz;rw[hz];exact hd u hu
end
theorem qa6{α:Type}{r:α->α->Prop}(tr:∀ x y z,r x y->r y z->r x z){T:List α}(h:(T.take x).Pairwise r)(h1:1<=x)(hx:x<T.length)(hr:r (T[x-1]'(by omega)) T[x]):(T.take (x+1)).Pairwise r:=by
 rw[Xa hx];refine Yo.mpr ⟨h,List.pairwise_singleton _ _,λ y hy z hz=>?_⟩;rw[Zl.mp hz];obtain⟨j,hj,rfl⟩:=Y0 hy;rw[Ul] at hj;rw[Z8];rcases Q3 j (x-1) with h2|h2
 ·have:=Xu.mp h j (x-1) (by rw[Ul];omega) (by rw[Ul];omega) h2
  rw[Z8,Z8] at this;exact tr _ _ _ this hr
 ·have:j=x-1:=by omega
  subst this;exact hr
theorem qcB:∀(T U:List Keyed)(arr:Array Keyed),arr.toList=U++(T++(x::V))->(bubble arr (U.length+T.length) T.length).toList=U++(x::(T++V))
 | [],U,arr,e=>e
 |t::T,U,arr,e=>by
  have ih:=qcB (x:=x) (V:=V) T (U++[t]) arr (by rw[e];simp);have e1:(U++[t]).length+T.length=U.length+(t::T).length:=by simp;omega
  rw[e1] at ih;show(bubble arr (U.length+(t::T).length) (T.length+1)).toList=_
  rw[bubble_succ];generalize bubble arr (U.length+(t::T).length) T.length=b at ih ⊢;have sz:b.size=U.length+1+(1+(T.length+V.length)):=by rw[<- Yv,ih];simp;omega
  have l1:U.length+(t::T).length-T.length=U.length+1:=by simp;omega
  rw[l1,show U.length+1-1=U.length by omega,Array.swapIfInBounds_def,Vy (by omega),Vy (by omega),Array.toList_swap];have a1:b[U.length]'(by omega)=t:=by
   have:b.toList[U.length]?=some (b[U.length]'(by omega)):=qbQ (by omega)
   rw[ih] at this;simpa using this.symm
  have a2:b[U.length+1]'(by omega)=x:=by
   have:b.toList[U.length+1]?=some (b[U.length+1]'(by omega)):=qbQ (by omega)
   rw[ih] at this;simpa using this.symm
  rw[a1,a2,ih];simp[List.set_append]
theorem qgW{arr:Array Keyed}(e:arr.toList=L++(D++R)):(mirror arr L.length (L.length+D.length) ((L.length+D.length-L.length) / 2)).toList=L++(D.reverse++R):=by
 have sz:arr.size=L.length+(D.length+R.length):=by rw[<- Yv,e];simp
 refine List.ext_getElem? λ k=>?_
 rw[XX,getElem?_mirror_all (by omega)];by_cases h:L.length<=k/\k<L.length+D.length
 ·rw[Vz h,<- XX,e,Xh (by omega),Xo (by omega),Xh (by omega),Xo (by rw[Y5];omega),List.getElem?_reverse (by omega)];congr 1;omega
 ·rw[V0 h,<- XX,e];rcases Q3 k L.length with h1 | h1
  ·rw[Xo h1,Xo h1]
  ·rw[Xh h1,Xh h1,Xh (by omega),Xh (by rw[Y5];omega),Y5]
section
variable {prog:Program}{w:World}{A:Around}{E:Value->Shared->Prop}{s:Shared}{κ:KeyKind}{st:SortSt}
theorem qbS(hO:κ.OneLt)(hk:kindOf st=oneType')(e1:(arrOf st)[i]?=some x)(e2:(arrOf st)[j]?=some y)(hx:Kd κ x)(hy:Kd κ y)(h:Q (some (κ.blt (ky κ x) (ky κ y))) st):wpS (model prog w) A E s (ltAt' i j) Q st:=by
 rw[ltAt'_eq];refine Vq (Vx ?_);exact Vq (qY e1 (Vq (qY e2 (qdF hO hk hx hy h))))
theorem jK{arr:Array Keyed}(e:arr.toList=L++T)(hi:i<T.length):arr[L.length+i]?=some T[i]:=by
 rw[<- XX,e,Xh (by omega),XC];exact Xy hi
theorem qlb(x y z:Keyed)(h1:kl κ x y)(h2:kl κ y z):kl κ x z:=Uu h1 h2
theorem qdK(T:List Keyed):(T.take 1).Pairwise r:=by
 cases T with
 |nil=>simp
 |cons x T=>simp
theorem qdL(hO:κ.OneLt) {lo:Nat}(hk:kindOf st=oneType')(ea:(arrOf st).toList=L++T)(hL:L.length=lo)(hn:n<=T.length)(hok:ok<=n)(kT:∀ x∈T,Kd κ x)(so:So κ (T.take ok))(n1:1<=n)(h:∀(T':List Keyed)(arr:Array Keyed),T'.Perm T->arr.toList=L++T'->So κ (T'.take n)->Q true (setArr st arr)):wpS (model prog w) A E s (binarySort' lo n ok) Q st:=by
 subst hL;rw[binarySort'_eq];refine Vq (Vr (Q8
  (I:=λ k c c5=>c=(none,())/\∃(T':List Keyed)(arr:Array Keyed),T'.Perm T/\arr.toList=L++T'/\So κ (T'.take (min k n))/\c5=setArr st arr)
  (Q:=λ c c5=>c=(none,())/\∃(T':List Keyed)(arr:Array Keyed),T'.Perm T/\arr.toList=L++T'/\So κ (T'.take n)/\c5=setArr st arr) ?step ?fin ?init) ?post)
 case post =>
  rintro c c5 ⟨rfl,T',arr,p,e,V6,rfl⟩;exact Vp (h T' arr p e V6)
 case fin =>
  rintro c c5 ⟨hc,T',arr,p,e,V6,rfl⟩;rw[show min (max (max ok 1) n) n=n by omega] at V6;exact⟨hc,T',arr,p,e,V6,rfl⟩
 case init =>
  refine⟨rfl,T,arrOf st,Jz _,ea,?_,rfl⟩;by_cases h1:ok=0
  ·subst h1;rw[show min (max 0 1) n=1 by omega];exact qdK T
  ·rw[show min (max ok 1) n=ok by omega];exact so
 case step =>
  rintro k c c5 hak hkn ⟨rfl,T',arr,p,e,V6,rfl⟩;rw[show min k n=k by omega] at V6;have lT:T'.length=T.length:=p.length_eq;have kT':∀ x∈T',Kd κ x:=λ x hx=>kT x (p.mem_iff.mp hx)
  have hkl:k<T'.length:=by omega
  have L7:kindOf (setArr st arr)=oneType':=hk;refine Vq (Vr (Q8 (I:=λ x c l8=>l8=setArr st arr/\∃ l r,c=(none,l,r)/\l<=r/\r<=k/\r-l<=k-x /\
    (∀ y∈(T'.take k).take l,kl κ y T'[k])/\(∀ y∈(T'.take k).drop r,kl κ T'[k] y))
   (Q:=λ c l8=>l8=setArr st arr/\∃ l r,c=(none,l,r)/\l<=k/\(∀ y∈(T'.take k).take l,kl κ y T'[k])/\(∀ y∈(T'.take k).drop l,kl κ T'[k] y)) ?istep ?ifin ?iinit) ?ipost)
  case iinit=>exact⟨rfl,0,k,rfl,by omega,by omega,by omega,λ y hy=>by simp at hy,λ y hy=>by rw[XM (by rw[Ul];omega)] at hy;cases hy⟩
  case ifin =>
   rintro c l8 ⟨rfl,l,r,rfl,hlr,hrk,hm,h1,h2⟩
   have:l=r:=by omega
   subst this;exact⟨rfl,l,l,rfl,hrk,h1,h2⟩
  case istep =>
   rintro x c l8 _ hxk ⟨rfl,l,r,rfl,hlr,hrk,hm,h1,h2⟩;dsimp only;by_cases hge:l ≥ r
   ·rw[Vz hge]
    have:l=r:=by omega
    subst this;exact Vp ⟨rfl,l,l,rfl,hrk,h1,h2⟩
   ·rw[V0 hge];have hml:(l+r) / 2<T'.length:=by omega
    have hmk:(l+r) / 2<(T'.take k).length:=by rw[Ul];omega
    refine Vq (qbS hO L7 (jK e hkl) (jK e hml) (kT' _ (Us _)) (kT' _ (Us _)) ?_);cases hc:κ.blt (ky κ T'[k]) (ky κ T'[(l+r) / 2])
    case true =>
     simp only[Vw];refine Vp ⟨rfl,l,(l+r) / 2,rfl,by omega,by omega,by omega,h1,λ y hy=>?_⟩;obtain⟨j,hj,rfl⟩:=Y0 hy;rw[Um] at hj;rw[List.getElem_drop];rcases Nat.eq_zero_or_pos j with h3|h3
     ·subst h3;have e3:(T'.take k)[(l+r) / 2+0]'(by omega)=T'[(l+r) / 2]:=by rw[Z8];rfl
      rw[e3];exact Z7 hc
     ·have:=Xu.mp V6 ((l+r) / 2) ((l+r) / 2+j) hmk (by omega) (by omega)
      rw[Z8] at this;exact Uu (Z7 hc) this
    case false =>
     simp only[Zj,Vo];refine Vp ⟨rfl,(l+r) / 2+1,r,rfl,by omega,by omega,by omega,λ y hy=>?_,h2⟩;obtain⟨j,hj,rfl⟩:=Y0 hy;rw[Ul] at hj;rw[Z8];rcases Q3 j ((l+r) / 2) with h3|h3
     ·have:=Xu.mp V6 j ((l+r) / 2) (by omega) hmk h3
      rw[Z8 (j:=k) (i:=(l+r) / 2)] at this;exact Uu this hc
     ·have:j=(l+r) / 2:=by omega
      subst this;rw[Z8];exact hc
  case ipost =>
   rintro c l8 ⟨rfl,l,r,rfl,hlk,h1,h2⟩;show wpS _ _ _ _ (do moveDown' (L.length+k) (L.length+l);pure (ForInStep.yield (none,()))) _ _
   rw[moveDown'_eq];have eT:T'=(T'.take k).take l++((T'.take k).drop l++(T'[k]::T'.drop (k+1))):=by
    rw[<- Zx,XZ,<- Xt,XZ]
   have lS:((T'.take k).drop l).length=k-l:=by rw[Um,Ul];omega
   have lU:(L++(T'.take k).take l).length=L.length+l:=by rw[Ze,Ul,Ul];omega
   have bl:=qcB (x:=T'[k]) (V:=T'.drop (k+1)) ((T'.take k).drop l) (L++(T'.take k).take l) arr (by rw[e,Zx];conv=>lhs;rw[eT]);rw[lU,lS] at bl;refine Vq (Vn (Vp ⟨rfl,(T'.take k).take l++(T'[k]::((T'.take k).drop l++T'.drop (k+1))),bubble arr (L.length+k) (L.length+k-(L.length+l)),?_,?_,?_,rfl⟩))
   ·refine List.Perm.trans ?_ p
    conv=>rhs;rw[eT]
    exact(List.perm_middle.symm).append_left _
   ·rw[show L.length+k-(L.length+l)=k-l by omega];rw[show L.length+l+(k-l)=L.length+k by omega] at bl;rw[bl,Zx]
   ·rw[show min (k+1) n=k+1 by omega];have e3:((T'.take k).take l++(T'[k]::((T'.take k).drop l++T'.drop (k+1)))).take (k+1)=(T'.take k).take l++(T'[k]::(T'.take k).drop l):=by
     rw[show(T'.take k).take l++(T'[k]::((T'.take k).drop l++T'.drop (k+1)))=((T'.take k).take l++(T'[k]::(T'.take k).drop l))++T'.drop (k+1) by simp];rw[show k+1=((T'.take k).take l++(T'[k]::(T'.take k).drop l)).length by rw[Ze,Uj,lS,Ul,Ul];omega,J6]
    rw[e3];have xX:So κ ((T'.take k).take l++(T'.take k).drop l):=by rw[XZ];exact V6
    have so3:=Yo.mp xX;refine Yo.mpr ⟨so3.1,Zg.mpr ⟨h2,so3.2.1⟩,λ y hy z hz=>?_⟩;rcases Qd.mp hz with h4|h4
    ·rw[h4];exact h1 y hy
    ·exact so3.2.2 y hy z h4
end
noncomputable def asc(lo a nrem:Nat):SM (Option (Option Nat)×Nat):=forIn [a:nrem] ((none,a):Option (Option Nat)×Nat) λ _ r=>do
 let c <- ltAt' (lo+r.2) (lo+r.2-1)
 match c with
 |some c=>if c then pure (.done (none,r.2)) else pure (.yield (none,r.2+1))
 |_=>pure (.done (some none,r.2))
abbrev Nk(κ:KeyKind)(l:List Keyed):Prop:=l.Pairwise λ x y=>ky κ x≠ky κ y
section
variable {prog:Program}{w:World}{A:Around}{E:Value->Shared->Prop}{s:Shared}{κ:KeyKind}{st:SortSt}
theorem qlc(hO:κ.OneLt) {lo:Nat}(hk:kindOf st=oneType')(ea:(arrOf st).toList=L++T)(hL:L.length=lo)(ha:1<=a)(haT:a<=T.length)(kT:∀ x∈T,Kd κ x)(so:So κ (T.take a))(h:∀ n,a<=n->n<=T.length->So κ (T.take n)->(∀(hn:n<T.length),κ.klt (ky κ T[n]) (ky κ (T[n-1]'(by omega))))->Q (none,n) st):wpS (model prog w) A E s (asc lo a T.length) Q st:=by
 subst hL;unfold asc;refine Q8 (I:=λ x c c5=>c5=st/\c=(none,x)/\So κ (T.take x)) ?step ?fin ⟨rfl,rfl,so⟩
 case fin =>
  rintro c c5 ⟨rfl,rfl,V6⟩;rw[show max a T.length=T.length by omega] at V6 ⊢;exact h T.length haT (Q9 _) V6 (λ hn=>absurd hn (Qc _))
 case step =>
  rintro x c c5 fB hx ⟨rfl,rfl,V6⟩;dsimp only;have e2:(arrOf c5)[L.length+x-1]?=some (T[x-1]'(by omega)):=by
   rw[show L.length+x-1=L.length+(x-1) by omega];exact jK ea (by omega)
  refine Vq (qbS hO hk (jK ea hx) e2 (kT _ (Us _)) (kT _ (Us _)) ?_);cases hc:κ.blt (ky κ T[x]) (ky κ (T[x-1]'(by omega)))
  case true =>
   simp only[Vw];exact Vp (h x fB (by omega) V6 (λ _=>hc))
  case false =>
   simp only[Zj,Vo];exact Vp ⟨rfl,rfl,qa6 qlb V6 (by omega) hx hc⟩
theorem qfN(hO:κ.OneLt){lo:Nat}(hk:kindOf st=oneType')(ea:(arrOf st).toList=L++T)(hL:L.length=lo)(h1:1<=T.length)(kT:∀ x∈T,Kd κ x)(nk:Nk κ T)(h:∀(m:Nat)(T':List Keyed)(arr:Array Keyed),T'.Perm T->arr.toList=L++T'->1<=m->m<=T.length->So κ (T'.take m)->Q (some m) (setArr st arr)):wpS (model prog w) A E s (countRun' lo T.length) Q st:=by
 rw[countRun'_eq];refine Vq (show wpS (model prog w) A E s (asc lo 1 T.length) _ _ from qlc hO hk ea hL (Q9 _) h1 kT (qdK T) λ n n1 n2 so hn=>?_);dsimp only;by_cases hnn:n=T.length
 ·rw[Vz (by simpa using hnn)];exact Vp (h n T (arrOf st) (Jz _) ea n1 n2 so)
 rw[V0 (by simpa using hnn)];by_cases hgt:n > 1
 ·rw[Vz hgt];have e0:(arrOf st)[lo]?=some T[0]:=by rw[<- hL];exact jK (i:=0) ea (by omega)
  have e1:(arrOf st)[lo+n-1]?=some (T[n-1]'(by omega)):=by
   rw[<- hL,show L.length+n-1=L.length+(n-1) by omega];exact jK ea (by omega)
  refine Vq (qbS hO hk e0 e1 (kT _ (Us _)) (kT _ (Us _)) ?_);have c9:κ.blt (ky κ T[0]) (ky κ (T[n-1]'(by omega)))=true:=by
   cases hc:κ.blt (ky κ T[0]) (ky κ (T[n-1]'(by omega))) with
   |true=>rfl
   |false =>
    have h2:=Xu.mp so 0 (n-1) (by rw[Ul];omega) (by rw[Ul];omega) (by omega);rw[Z8,Z8] at h2;exact absurd (KeyOrd.kle_antisymm (O:=κ.toKeyOrd) h2 hc) (Xu.mp nk 0 (n-1) (by omega) (by omega) (by omega))
  rw[c9];dsimp only;rw[Vz rfl];exact Vp (h n T (arrOf st) (Jz _) ea n1 n2 so)
 rw[V0 hgt];have hn1:n=1:=by omega
 subst hn1;refine Vq (wpS_lift (Vm ⟨rfl,?_⟩));refine Vq (Vr (Q8 (I:=λ x c c5=>c5=st/\c=(none,x,0)/\(T.take x).Pairwise (λ x y=>kl κ y x))
  (Q:=λ c c5=>c5=st/\∃ x,c=(none,x,0)/\2<=x/\x<=T.length/\(T.take x).Pairwise (λ x y=>kl κ y x)) ?step ?fin ⟨rfl,rfl,?init⟩) ?post)
 case init =>
  exact qa6 (r:=λ x y=>kl κ y x) (λ x y z a b=>qlb _ _ _ b a) (qdK T) (Q9 _) (by omega) (Z7 (hn (by omega)))
 case fin =>
  rintro c c5 ⟨rfl,rfl,hp⟩;rw[show max (1+1) T.length=T.length by omega] at hp ⊢;exact⟨rfl,_,rfl,by omega,Q9 _,hp⟩
 case step =>
  rintro x c c5 fB hx ⟨rfl,rfl,hp⟩;dsimp only;have ex:(arrOf c5)[lo+x]?=some T[x]:=by rw[<- hL];exact jK ea hx
  have ey:(arrOf c5)[lo+x-1]?=some (T[x-1]'(by omega)):=by
   rw[<- hL,show L.length+x-1=L.length+(x-1) by omega];exact jK ea (by omega)
  refine Vq (qbS hO hk ex ey (kT _ (Us _)) (kT _ (Us _)) ?_);cases hc:κ.blt (ky κ T[x]) (ky κ (T[x-1]'(by omega)))
  case true =>
   simp only[Vw];rw[V0 (by omega)];exact Vp ⟨rfl,rfl,qa6 (r:=λ x y=>kl κ y x) (λ x y z a b=>qlb _ _ _ b a) hp (by omega) hx (Z7 hc)⟩
  case false =>
   simp only[Zj,Vo];refine Vq (qbS hO hk ey ex (kT _ (Us _)) (kT _ (Us _)) ?_);have c9:κ.blt (ky κ (T[x-1]'(by omega))) (ky κ T[x])=true:=by
    cases oW:κ.blt (ky κ (T[x-1]'(by omega))) (ky κ T[x]) with
    |true=>rfl
    |false=>exact absurd (KeyOrd.kle_antisymm (O:=κ.toKeyOrd) hc oW) (Xu.mp nk (x-1) x (by omega) (by omega) (by omega))
   rw[c9];simp only[Vw];exact Vp ⟨rfl,x,rfl,fB,by omega,hp⟩
 case post =>
  rintro c c5 ⟨rfl,x,rfl,x2,xT,hp⟩;dsimp only;rw[V0 (by omega)];rw[reverseSlice'_eq];have ml:=qgW (L:=L) (D:=T.take x) (R:=T.drop x) (arr:=arrOf c5) (by rw[XZ];exact ea);rw[Ul,show min x T.length=x by omega,hL] at ml;refine Vq (Vn ?_);have pT:((T.take x).reverse++T.drop x).Perm T:=by
   refine((List.reverse_perm _).append_right _).trans (List.Perm.of_eq (XZ x T))
  have lT:((T.take x).reverse++T.drop x).length=T.length:=pT.length_eq;rw[<- lT];refine Vq (show wpS (model prog w) A E s (asc lo x ((T.take x).reverse++T.drop x).length) _ _ from qlc (T:=(T.take x).reverse++T.drop x) hO hk ml hL (by omega) (by omega) (λ y hy=>kT y (pT.mem_iff.mp hy)) ?_ λ n n1 n2 so hn=>?_)
  ·have:x=(T.take x).reverse.length:=by rw[Y5,Ul];omega
   rw[Xb (by omega),XL (by omega)];exact List.pairwise_reverse.mpr hp
  ·exact Vp (h n _ _ pT ml (by omega) (by omega) so)
end
inductive Rs(κ:KeyKind):Nat->List (Nat×Nat×Nat)->List Keyed->Prop
 |nil (o:Nat):Rs κ o [] []
 |cons {o n p:Nat} {X:List Keyed} {ps:List (Nat×Nat×Nat)} {T:List Keyed}:X.length=n->0<n->So κ X->Rs κ (o+n) ps T->Rs κ o ((o,n,p)::ps) (X++T)
theorem Rs.snoc{κ:KeyKind}{o:Nat}{ps:List (Nat×Nat×Nat)}{T X:List Keyed}{n p:Nat}(h:Rs κ o ps T)(hX:X.length=n)(hn:0<n)(so:So κ X):Rs κ o (ps++[(o+T.length,n,p)]) (T++X):=by
 induction h with
 |nil o=>
  have:=Rs.cons (p:=p) (o:=o) hX hn so (Rs.nil (κ:=κ) (o+n))
  simpa using this
 |cons e1 e2 e3 _ ih =>
  rw[Zx,Ze,e1];refine Rs.cons e1 e2 e3 ?_;rw[<- Ql];exact ih
theorem Rs.len(h:Rs κ o ps T):ps.length<=T.length:=by
 induction h with
 |nil o=>exact Q9 _
 |cons e1 e2 _ _ ih=>rw[Uj,Ze];omega
theorem Rs.at2(h:Rs κ o ps T):∀{i:Nat}{sa na pa sb nb pb:Nat},ps[i]?=some (sa,na,pa)->ps[i+1]?=some (sb,nb,pb) ->
  ∃ L X Y R,T=L++(X++(Y++R))/\o+L.length=sa/\X.length=na/\Y.length=nb/\0<na/\0<nb/\sb=sa+na/\So κ X/\So κ Y /\
   ∀ Z,Z.length=na+nb->So κ Z->Rs κ o ((ps.set i (sa,na+nb,pa)).eraseIdx (i+1)) (L++(Z++R)):=by
 induction h with
 |nil o=>intro i sa na pa sb nb pb h1 _;simp at h1
 | @cons o n p X ps T e1 e2 e3 hr ih =>
  intro i sa na pa sb nb pb h1 h2;cases i with
  |zero =>
   simp only[List.getElem?_cons_zero,Option.some.injEq,Prod.mk.injEq] at h1;obtain⟨rfl,rfl,rfl⟩:=h1;cases hr with
   |nil=>simp at h2
   | @cons _ n2 p2 Y ps T e4 e5 e6 hr =>
    simp only[List.getElem?_cons_succ,List.getElem?_cons_zero,Option.some.injEq,Prod.mk.injEq] at h2;obtain⟨rfl,rfl,rfl⟩:=h2;refine⟨[],X,Y,T,rfl,rfl,e1,e4,e2,e5,rfl,e3,e6,λ Z hZ so=>?_⟩;show Rs κ o ((o,n+n2,p)::ps) (Z++T)
    refine Rs.cons hZ (by omega) so ?_;rw[<- Ql];exact hr
  |succ i =>
   rw[List.getElem?_cons_succ] at h1 h2;obtain⟨L,X',Y,R,rfl,a1,a2,a3,a4,a5,a6,a7,a8,a9⟩:=ih h1 h2;refine⟨X++L,X',Y,R,by rw[Zx],by rw[Ze];omega,a2,a3,a4,a5,a6,a7,a8,λ Z hZ so=>?_⟩;rw[Zx];exact Rs.cons e1 e2 e3 (a9 Z hZ so)
theorem Rs.repower(h:Rs κ o ps T)(q:Nat):∀ i,Rs κ o (ps.modify i λ x=>(x.1,x.2.1,q)) T:=by
 induction h with
 |nil o=>intro i;cases i <;> exact Rs.nil _
 |cons e1 e2 e3 hr ih =>
  intro i;cases i with
  |zero=>exact Rs.cons e1 e2 e3 hr
  |succ i=>exact Rs.cons e1 e2 e3 (ih i)
theorem Rs.one(h:Rs κ 0 ps T)(hl:ps.length<=1):So κ T:=by
 cases h with
 |nil=>exact List.Pairwise.nil
 |cons e1 e2 e3 hr =>
  cases hr with
  |nil=>rw[U6];exact e3
  |cons _ _ _ _=>simp at hl
def Rt(κ:KeyKind)(a₀:List Keyed)(st:SortSt)(lo:Nat)(T:List Keyed):Prop:=
 kindOf st=oneType'/\failedOf st=none/\∃ D,(arrOf st).toList=D++T/\D.length=lo/\(D++T).Perm a₀/\Rs κ 0 (pendingOf st).toList D
section
variable {prog:Program}{w:World}{A:Around}{E:Value->Shared->Prop}{s:Shared}{κ:KeyKind}{st:SortSt}
theorem qa7(hO:κ.OneLt) {lo:Nat}(k0:∀ x∈a₀,Kd κ x)(rt:Rt κ a₀ st lo T)(hi:i+1<(pendingOf st).size)(h:∀ c5,Rt κ a₀ c5 lo T->(pendingOf c5).size+1=(pendingOf st).size->Q true c5):wpS (model prog w) A E s (mergeAt' i) Q st:=by
 obtain⟨hk,hf,D,ea,hD,pm,rs⟩:=rt;obtain⟨⟨sa,na,pa⟩,e1⟩:∃ x,(pendingOf st).toList[i]?=some x:=⟨_,Xy (by rw[Yv];omega)⟩;obtain⟨⟨sb,nb,pb⟩,e2⟩:∃ x,(pendingOf st).toList[i+1]?=some x:=⟨_,Xy (by rw[Yv];omega)⟩;obtain⟨L,X,Y,R,rfl,a1,a2,a3,a4,a5,a6,a7,a8,a9⟩:=rs.at2 e1 e2;have kd:∀ x∈X++Y,Kd κ x:=λ x hx=>k0 x (pm.mem_iff.mp (by
  rcases U3.mp hx with h|h <;> simp[h]))
 refine qgV hO (L:=L) (X:=X) (Y:=Y) (R:=R++T) hk hf (by rw[<- XX];exact e1) (by rw[<- XX];exact e2) a6 (by rw[ea];simp only[Zx]) (by omega) a2 a3 a4 a5 a7 a8 (λ x hx=>kd x (Yk _ hx)) (λ x hx=>kd x (XS _ hx)) λ Z arr g pz sz ez=>?_
 have lZ:Z.length=na+nb:=by rw[pz.length_eq,Ze,a2,a3]
 refine h _ ⟨hk,hf,L++(Z++R),?_,?_,?_,?_⟩ ?_
 ·show arr.toList=_
  rw[ez];simp only[Zx]
 ·rw[<- hD];simp only[Ze];omega
 ·refine List.Perm.trans ?_ pm;refine List.Perm.append_right T (List.Perm.append_left L ?_);rw[<- Zx X];exact pz.append_right R
 ·show Rs κ 0 (((pendingOf st).setIfInBounds i (sa,na+nb,pa)).eraseIdxIfInBounds (i+1)).toList _
  rw[show(((pendingOf st).setIfInBounds i (sa,na+nb,pa)).eraseIdxIfInBounds (i+1)).toList=((pendingOf st).toList.set i (sa,na+nb,pa)).eraseIdx (i+1) by simp[Array.eraseIdxIfInBounds,hi]];exact a9 Z lZ sz
 ·show(((pendingOf st).setIfInBounds i (sa,na+nb,pa)).eraseIdxIfInBounds (i+1)).size+1=_
  simp only[Array.eraseIdxIfInBounds,Array.size_setIfInBounds,hi,Vy,Array.size_eraseIdx];omega
theorem Rt.len{lo:Nat}(h:Rt κ a₀ st lo T):lo+T.length=a₀.length:=by
 obtain⟨_,_,D,_,hD,pm,_⟩:=h
 have:=pm.length_eq
 rw[Ze] at this;omega
theorem Rt.push {lo:Nat}(h:Rt κ a₀ st lo T)(n1:1<=n)(n2:n<=T.length)(so:So κ (T.take n)):Rt κ a₀ (setPending st ((pendingOf st).push (lo,n,0))) (lo+n) (T.drop n):=by
 obtain⟨b1,b2,D,b3,b4,b5,b6⟩:=h;refine⟨b1,b2,D++T.take n,?_,?_,?_,?_⟩
 ·show(arrOf st).toList=_
  rw[b3,Zx,XZ]
 ·rw[Ze,Ul];omega
 ·rw[Zx,XZ];exact b5
 ·show Rs κ 0 ((pendingOf st).push (lo,n,0)).toList _
  rw[Z1]
  have:=b6.snoc (p:=0) (X:=T.take n) (n:=n) (by rw[Ul];omega) (by omega) so
  rw[Q2,b4] at this;exact this
theorem Rt.repower {lo:Nat}(h:Rt κ a₀ st lo T)(hf:f=λ x=>(x.1,x.2.1,q))(i:Nat):Rt κ a₀ (setPending st ((pendingOf st).modify i f)) lo T:=by
 subst hf;obtain⟨b1,b2,D,b3,b4,b5,b6⟩:=h;refine⟨b1,b2,D,b3,b4,b5,?_⟩;show Rs κ 0 ((pendingOf st).modify i λ x=>(x.1,x.2.1,q)).toList D
 rw[Array.toList_modify];exact b6.repower _ _
theorem qen(hO:κ.OneLt)(k0:∀ x∈a₀.toList,Kd κ x)(nk:Nk κ a₀.toList)(hk:kindOf st=oneType')(hf:failedOf st=none)(hp:pendingOf st=#[])(ha:arrOf st=a₀)(h:∀ c5,(arrOf c5).Perm a₀->failedOf c5=none->So κ (arrOf c5).toList->Q () c5):wpS (model prog w) A E s sortRuns' Q st:=by
 have nkp:∀{l:List Keyed},l.Perm a₀.toList->Nk κ l:=λ p=>(p.pairwise_iff (λ{x y} hxy e=>hxy e.symm)).mpr nk
 rw[sortRuns'_eq];refine Vq (Vx ?_);dsimp only;rw[ha];have rt0:Rt κ a₀.toList st 0 a₀.toList:=⟨hk,hf,[],by rw[ha];rfl,rfl,Jz _,by rw[hp];exact Rs.nil _⟩;refine Vq (Vr (Q8
  (I:=λ x (c:Option Unit×Nat) c5=>c.1=none/\∃ T,Rt κ a₀.toList c5 c.2 T/\(x<=c.2∨c.2=a₀.size))
  (Q:=λ c c5=>c.1=none/\Rt κ a₀.toList c5 a₀.size []) ?step ?fin ⟨rfl,_,rt0,.inl (Q9 _)⟩) ?post)
 case fin =>
  rintro⟨v,lo⟩ c5 ⟨hv,T,rt,hx⟩
  have:=rt.len
  have hl0:a₀.toList.length=a₀.size:=Yv;change lo+_=_ at this
  change max 0 a₀.size<=lo∨lo=a₀.size at hx
  have e:lo=a₀.size:=by omega
  have e2:T=[]:=XD.mp (by omega);subst e;subst e2;exact⟨hv,rt⟩
 case step =>
  rintro x ⟨v,lo⟩ c5 _ hx ⟨hv,T,rt,hxl⟩;have dZ:v=none:=hv;subst dZ;change x<=lo∨lo=a₀.size at hxl
  change Rt κ a₀.toList c5 lo T at rt
  dsimp only;have K7:=rt.len;have hl0:a₀.toList.length=a₀.size:=Yv;by_cases hge:lo ≥ a₀.size
  ·rw[Vz hge];have e:lo=a₀.size:=by omega
   have e2:T=[]:=XD.mp (by omega);subst e;subst e2;exact Vp ⟨rfl,rt⟩
  rw[V0 hge];obtain⟨L7,hf',D,ea,hD,pm,rs⟩:=rt;have lT:a₀.size-lo=T.length:=by omega
  have kT:∀ x∈T,Kd κ x:=λ x hx=>k0 x (pm.mem_iff.mp (XS _ hx))
  have nT:Nk κ T:=(Yo.mp (nkp pm)).2.1;rw[lT];refine Vq (qfN hO L7 ea hD (by omega) kT nT λ m T1 mQ p1 ea1 m1 m2 so1=>?_);dsimp only;have l1:T1.length=T.length:=p1.length_eq;have rt1:∀(T2:List Keyed)(aM:Array Keyed),T2.Perm T->aM.toList=D++T2->Rt κ a₀.toList (setArr c5 aM) lo T2:=λ T2 aM p2 ea2=>⟨L7,hf',D,ea2,hD,(p2.append_left D).trans pm,rs⟩
  by_cases c9:m<minRun' a₀.size a₀.size 0
  ·rw[Vz c9];refine Vq (wpS_lift (Vm ⟨rfl,?_⟩));refine Vq (qdL hO (st:=setArr c5 mQ) L7 ea1 hD (n:=min T.length (minRun' a₀.size a₀.size 0)) (by omega) (by omega) (λ y hy=>kT y (p1.mem_iff.mp hy)) so1 (by omega) λ T2 aM p2 ea2 xX=>?_);simp only[Qj,Zj,Vo];have l2:T2.length=T.length:=(p2.trans p1).length_eq;refine Vq (Vx ?_);cases(pendingOf (setArr c5 aM)).back? with
   |none =>
    dsimp only;exact Vq (Vn (Vp ⟨rfl,_,Rt.push (rt1 T2 aM (p2.trans p1) ea2) (by omega) (by omega) xX,.inl (by show x+1<=lo+min T.length (minRun' a₀.size a₀.size 0);omega)⟩))
   |some u =>
    obtain⟨s1,k1,z⟩:=u;dsimp only;refine Vq (Vr (Q8 (I:=λ _ (c:Option Unit×Unit) l8=>c=(none,())/\Rt κ a₀.toList l8 lo T2) (Q:=λ c l8=>c=(none,())/\Rt κ a₀.toList l8 lo T2) ?cstep (λ _ _ hh=>hh) ⟨rfl,rt1 T2 aM (p2.trans p1) ea2⟩) ?cpost)
    case cstep =>
     rintro y c l8 _ _ ⟨rfl,R6⟩;refine Vq (Vx ?_);by_cases h2:(pendingOf l8).size > 1
     ·rw[Vz h2];obtain⟨⟨u,v,z⟩,e⟩:∃ x,(pendingOf l8)[(pendingOf l8).size-2]?=some x:=⟨_,getElem?_pos _ _ (by omega)⟩;rw[e];dsimp only;by_cases h3:z<=power' a₀.size (2*s1+k1) (2*s1+k1+k1+min T.length (minRun' a₀.size a₀.size 0)) a₀.size
      ·rw[Vz h3];exact Vp ⟨rfl,R6⟩
      ·rw[V0 h3];refine Vq (qa7 hO k0 R6 (by omega) λ K3 sB _=>?_);simp only[Qj,Zj,Vo];exact Vp ⟨rfl,sB⟩
     ·rw[V0 h2];exact Vp ⟨rfl,R6⟩
    case cpost =>
     rintro c l8 ⟨rfl,R6⟩;dsimp only;refine Vq (Vn ?_);refine Vq (Vn (Vp ⟨rfl,_,Rt.push (R6.repower rfl _) (by omega) (by omega) xX,.inl (by show x+1<=lo+min T.length (minRun' a₀.size a₀.size 0);omega)⟩))
  ·rw[V0 c9];refine Vq (Vx ?_);cases(pendingOf (setArr c5 mQ)).back? with
   |none =>
    dsimp only;exact Vq (Vn (Vp ⟨rfl,_,Rt.push (rt1 T1 mQ p1 ea1) m1 (by omega) so1,.inl (by show x+1<=lo+m;omega)⟩))
   |some u =>
    obtain⟨s1,k1,z⟩:=u;dsimp only;refine Vq (Vr (Q8 (I:=λ _ (c:Option Unit×Unit) l8=>c=(none,())/\Rt κ a₀.toList l8 lo T1) (Q:=λ c l8=>c=(none,())/\Rt κ a₀.toList l8 lo T1) ?cstep (λ _ _ hh=>hh) ⟨rfl,rt1 T1 mQ p1 ea1⟩) ?cpost)
    case cstep =>
     rintro y c l8 _ _ ⟨rfl,R6⟩;refine Vq (Vx ?_);by_cases h2:(pendingOf l8).size > 1
     ·rw[Vz h2];obtain⟨⟨u,v,z⟩,e⟩:∃ x,(pendingOf l8)[(pendingOf l8).size-2]?=some x:=⟨_,getElem?_pos _ _ (by omega)⟩;rw[e];dsimp only;by_cases h3:z<=power' a₀.size (2*s1+k1) (2*s1+k1+k1+m) a₀.size
      ·rw[Vz h3];exact Vp ⟨rfl,R6⟩
      ·rw[V0 h3];refine Vq (qa7 hO k0 R6 (by omega) λ K3 sB _=>?_);simp only[Qj,Zj,Vo];exact Vp ⟨rfl,sB⟩
     ·rw[V0 h2];exact Vp ⟨rfl,R6⟩
    case cpost =>
     rintro c l8 ⟨rfl,R6⟩;dsimp only;refine Vq (Vn ?_);refine Vq (Vn (Vp ⟨rfl,_,Rt.push (R6.repower rfl _) m1 (by omega) so1,.inl (by show x+1<=lo+m;omega)⟩))
 case post =>
  rintro⟨v,lo⟩ c5 ⟨hv,rt⟩;have dZ:v=none:=hv;subst dZ;dsimp only;have fin:∀ c5,Rt κ a₀.toList c5 a₀.size []->(pendingOf c5).size<=1->Q () c5:=by
   rintro c5 ⟨b1,b2,D,b3,b4,b5,b6⟩ hs;rw[U6] at b3 b5;exact h c5 (Array.perm_iff_toList_perm.mpr (by rw[b3];exact b5)) b2 (by rw[b3];exact b6.one (by rw[Yv];exact hs))
  have hsz:(pendingOf c5).size<=a₀.size:=by
   obtain⟨b1,b2,D,b3,b4,b5,b6⟩:=rt
   have:=b6.len
   rw[Yv] at this;omega
  refine Vq (Vr (Q8 (I:=λ x (c:Option Unit×Unit) l8=>c=(none,())/\Rt κ a₀.toList l8 a₀.size []/\((pendingOf l8).size<=1∨(pendingOf l8).size+x<=a₀.size))
   (Q:=λ c l8=>c=(none,())/\Rt κ a₀.toList l8 a₀.size []/\(pendingOf l8).size<=1) ?step2 ?fin2 ⟨rfl,rt,.inr hsz⟩) ?post2)
  case post2 =>
   rintro c l8 ⟨rfl,R6,hs⟩;exact Vp (fin l8 R6 hs)
  case fin2 =>
   rintro c l8 ⟨rfl,R6,hs⟩;exact⟨rfl,R6,by omega⟩
  case step2 =>
   rintro x c l8 _ hx ⟨rfl,R6,hs⟩;refine Vq (Vx ?_);by_cases h1:(pendingOf l8).size<=1
   ·rw[Vz h1];exact Vp ⟨rfl,R6,h1⟩
   ·rw[V0 h1];refine Vq (qa7 hO k0 R6 ?_ λ K3 sB hs3=>?_)
    ·repeat' split
     all_goals omega
    ·simp only[Qj,Zj,Vo];exact Vp ⟨rfl,sB,.inr (by omega)⟩
end
end FsS
namespace FsS
open PySem PyProof.Rows PySem.Spec
section
variable {prog:Program}{w:World}{A:Around}{E:Value->Shared->Prop}{s:Shared}
theorem So.to(h:So κ xs.toList):SortedToK κ xs xs.size:=by
 intro i j hij hj;have kk:∀ k,(hk:k<xs.size)->KK κ xs k=ky κ xs[k]:=λ k hk=>by
  unfold KK ky;rw[getElem?_pos xs k hk]
 rw[kk i (by omega),kk j hj];rcases Q3 i j with h1|h1
 ·have:=Xu.mp h i j (by rw[Yv];omega) (by rw[Yv];omega) h1
  simpa using this
 ·have:i=j:=by omega
  subst this;exact Jg _
theorem nk_strs:∀{vs:List Value}{ss:List Str},StrsAre vs ss->ss.Nodup->Nk strKind (vs.zip vs)
 |_,_,.nil,_=>List.Pairwise.nil
 |_,_,.cons (ys:=ss) x t h,nd=>by
  have B9:=U7.mp nd;rw[Zi];refine Zg.mpr ⟨λ p hp e=>?_,nk_strs h B9.2⟩;have hm:=(mem_zip_self hp).2;obtain⟨y,u,ey⟩:=h.all _ hm;have hy:y∈ss:=by
   rw[<- h.strs];exact Qz.mpr ⟨p.1,hm,by rw[ey];rfl⟩
  have e1:ky strKind p=y.cps.toList:=by unfold ky;rw[ey];rfl
  have e2:x.cps.toList=y.cps.toList:=(show ky strKind (Value.str x t,Value.str x t)=_ from rfl).symm.trans (e.trans e1);have e3:x=y:=by
   cases x;cases y
   congr 1
   exact Array.toList_inj.mp e2
  exact B9.1 (e3 ▸ hy)
theorem sort_method(one:κ.OneLt)(at_:s.heap.get? l=some (seqObj "list" vs.toArray c))(ks:KeysOf κ (pairsOf vs))(un:Nk κ (pairsOf vs).toList)(kind:∀ u v r,vs=u::v::r->keyKind' (u::v::r).toArray=pure oneType')(few:vs.length<100000)(fin:∀ c5:SortSt,(arrOf c5).Perm (pairsOf vs)->SortedToK κ (arrOf c5) (pairsOf vs).size->R (.done (.ret .none)) { s with heap:=sortedHeap s.heap l vs ((arrOf c5).map (·.2)) }):
  wpAny (model prog w) A (Builtin.«list.sort» ⟨[.ref l],[]⟩) R E s:=by
 by_cases short:vs.length<64
 ·exact list_sort_treeK one at_ ks kind short fin
 have lt0:l<s.heap.objs.size:=Qs at_;rw[list_sort_plain];refine Vh (listItems_at at_ rfl (Vh (listUpdate_at at_ rfl ?_ (by rw[Vc,Zu];omega))));obtain⟨e,h1⟩:∃ e,(s.heap.update l (Obj.mapSeq λ _=>#[])).get? l=some (seqObj "list" #[] e):=⟨_,get?_update_seq at_ (λ _=>#[])⟩;refine Vh (seqEpoch_at h1 rfl (Vh (wpAny_newTuple (Vh (Qr (Qn ?_))))));have h2:(((s.heap.update l (Obj.mapSeq λ _=>#[])).push (seqObj "tuple" vs.toArray 0)).push (seqObj "list" #[] 0)).get? l=some (seqObj "list" #[] e):=
  (Heap.get?_push_ne _ _ _ (by rw[size_push',Heap.size_update];exact Qt (Z0 lt0))).trans ((Heap.get?_push_ne _ _ _ (by rw[Heap.size_update];exact Qt lt0)).trans h1)
 show wpAny (model prog w) A _ R E { s with heap:=((s.heap.update l (Obj.mapSeq λ _=>#[])).push (seqObj "tuple" vs.toArray 0)).push (seqObj "list" #[] 0) }
 have big:¬ vs.toArray.size<2:=by simp;omega
 dsimp only;rw[V0 big,V0 big];obtain⟨u,v,r,rfl⟩:∃ u v r,vs=u::v::r:=by
  match vs,short with
  | [],h=>simp at h
  | [_],h=>simp at h
  |u::v::r,_=>exact⟨u,v,r,rfl⟩
 rw[kind u v r rfl];refine Vh (Vi (Vh (Vg (qen one (a₀:=pairsOf (u::v::r)) (st:=SortSt.mk' oneType' (pairsOf (u::v::r)) #[] 7 none)
  (Q:=λ _ c5=>(arrOf c5).Perm (pairsOf (u::v::r))/\failedOf c5=none/\So κ (arrOf c5).toList) ks un rfl rfl rfl rfl λ c5 p f o=>⟨p,f,o⟩) ?_ λ _ _ z=>z)))
 rintro⟨⟨⟩,c5⟩ s' ⟨rfl,p,f,o⟩;have sz:(arrOf c5).size=(u::v::r).length:=p.size_eq.trans (pairsOf_size _);dsimp only;refine Vh (seqEpoch_at h2 rfl (Vh (listUpdate_at h2 rfl ?_ (hsz2:=by rw[Array.size_map,sz,Vc];omega))));rw[f];simp only[Ug,Zj,Vo];refine Vi (fin c5 p ?_);rw[<- p.size_eq];exact o.to
end
end FsS
namespace L2
open PySem PySem.Spec PyProof.Rows
section
variable {prog:Program}{w:World}{A:Around}{E:Value->Shared->Prop}{s:Shared}
theorem qjO(hh:A.handled=none)(hS:qX prog w s.heap S ys)(few:ys.length<4096)(un:ys.Nodup)(h:∀(l:Addr)(h':Heap)(tk e:Nat)(d:Drawn)(out:Array Value)(K1:List Str),(∀ b o,s.heap.get? b=some o->h'.get? b=some o)->s.heap.objs.size<=l->h'.get? l=some (seqObj "list" out e)->StrsAre out.toList K1->K1.Perm ys->sortedS K1=true ->
   Q (.ref l) { s with heap:=h',toks:=tk,drawn:=d }):wpAny (model prog w) A (call (.builtin "sorted") [.ref S]) Q E s:=by
 refine Xr kind_sorted plain_sorted entry_sorted (args_sorted1 _) ?_;unfold Builtin.«sorted»;refine Vh (m:=checkCount "sorted" 1 1 _) (Vi ?_);refine Vh (qeO (by simpa using hh) hS λ h1 tk d vs zs hk K7 hz hA=>?_);have nz:zs.Nodup:=hz.nodup_iff.mpr un;have hl:vs.length<100000:=by
  have:vs.length=zs.length:=hA.length
  rw[this,hz.length_eq];omega
 refine Vh (Qr ?_);have iY:(h1.push (seqObj "list" vs.toArray 0)).get? h1.objs.size=some (seqObj "list" vs.toArray 0):=Yw _ rfl;refine Vh (Qn (U0 slot_list_sort ⟨_,iY,rfl⟩ entry_list_sort (FsS.sort_method strKind_oneLt iY hA.keysOf (by rw[pairsOf_toList];exact FsS.nk_strs hA nz) (λ v₁ v₂ rest e=>keyKind_strs (by rw[<- e];exact hA)) hl λ c5 a1 a2=>⟨_,rfl,?_⟩) (args_list_sort _)));obtain⟨K1,b1,b2,b3⟩:=sorted_out_str hA a1 a2;obtain⟨e,he⟩:=sortedHeap_at (out:=(arrOf c5).map (·.2)) iY;refine Vi ⟨_,rfl,h h1.objs.size _ tk e d _ K1 (λ b o q=>?_) (Qv K7) he b1 (b2.trans hz) b3⟩;have q1:=hk b o q;have hb:=Qs q1;rw[sortedHeap_old (Qt hb) (by rw[Jw];exact Z0 hb)];exact XG _ q1
theorem qjP(hl:s.heap.IsList l vs.toArray)(hA:StrsAre vs ss)(few:vs.length<4096)(un:ss.Nodup)(h:∀(out:Array Value)(K1:List Str),StrsAre out.toList K1->K1.Perm ss->sortedS K1=true->Q (.ref (s.heap.objs.size+1)) { s with heap:=sortedAll s.heap vs out }):
  wpAny (model prog w) A (call (.builtin "sorted") [.ref l]) Q E s:=by
 refine Xr kind_sorted plain_sorted entry_sorted (args_sorted1 _) ?_;unfold Builtin.«sorted»;refine Vh (m:=checkCount "sorted" 1 1 _) (Vi ?_);refine Vh (collect_list hl (Vh (Qr ?_)));generalize hg:(s.heap.push (seqObj "list" #[] 0)).update s.heap.objs.size (Obj.mapSeq (·++vs.toArray))=g;have sz:g.objs.size=s.heap.objs.size+1:=by rw[<- hg,Heap.size_update,size_push']
 have at_:(g.push (seqObj "list" vs.toArray 0)).get? (s.heap.objs.size+1)=some (seqObj "list" vs.toArray 0):=by rw[<- sz];exact Yw _ rfl
 show wpAny _ _ _ _ _ { s with heap:=g.push (seqObj "list" vs.toArray 0) }
 rw[sz];refine Vh (Qn (U0 slot_list_sort ⟨_,at_,rfl⟩ entry_list_sort (FsS.sort_method strKind_oneLt at_ hA.keysOf (by rw[pairsOf_toList];exact FsS.nk_strs hA un) (λ v₁ v₂ rest e=>keyKind_strs (by rw[<- e];exact hA)) (by omega) λ c5 a1 a2=>⟨_,rfl,?_⟩) (args_list_sort _)));obtain⟨K1,b1,b2,b3⟩:=sorted_out_str hA a1 a2
 have:=h _ K1 b1 b2 b3
 refine Vi ⟨_,rfl,?_⟩;subst hg;exact this
end
section
variable {X:Cx}
theorem qdM(hc:X.calm=true):y9 X (.builtin "sorted") (λ xs H Q=>∃ p ys,xs=[.ref p]/\H p=some (qfy X.prog X.w p ys)/\ys.length<4096/\ys.Nodup/\∀ l,H l=none->Q (.ref l) (upd H l (.lst ((qbE ys).map V.str)))):=by
 intro pins s σ H xs us Q I r h;obtain⟨p,ys,rfl,hp,cH,un,q⟩:=h;obtain⟨u,rfl,ru⟩:=yk r;cases ru
 obtain⟨o8,B8,hS⟩:=I.set hp;refine qjO (I.ok.hd hc) hS (by rw[B8.length_eq];exact cH) (B8.nodup_iff.mpr un) λ l h' tk e d out K1 hk K7 he h1 h2 h3=>?_
 have es:=qfv (h2.trans B8) h3;subst es;have hf:=I.hok.fresh K7;refine⟨.ref l,upd H l (.lst ((qbE ys).map V.str)),I.call' (s':={ s with heap:=h',toks:=tk,drawn:=d }) (ch:=[]) rfl (Un.laid hk K7 hf) (I.hok.laid hk K7 ⟨?_,out.toList,e,vC h1,he⟩) I.bare (λ _ z=>nomatch z),rfl,q _ hf⟩
 have:(qbE ys).length=ys.length:=(h2.trans B8).length_eq
 rw[U5,this];exact Qv (Za cH (by decide))
theorem k8:y9 X (.builtin "sorted") (λ xs H Q=>∃ p ss,xs=[.ref p]/\SqL X.K H p (ss.map V.str)/\ss.length<4096/\ss.Nodup/\∀ l,H l=none->Q (.ref l) (upd H l (.lst ((qbE ss).map V.str)))):=by
 intro pins s σ H xs us Q I r h;obtain⟨p,ss,rfl,hq,cH,un,q⟩:=h;obtain⟨u,rfl,ru⟩:=yk r;cases ru
 obtain⟨its,rv,pl,hz⟩:=I.list hq;have hl:=rv.length;rw[U5] at hl;refine qjP pl.isList (vB rv) (by omega) un λ out K1 h1 h2 h3=>?_
 obtain⟨e,he⟩:=sortedAll_at s.heap its out;have es:=qfv h2 h3;subst es;refine⟨.ref (s.heap.objs.size+1),_,I.laid (a:=s.heap.objs.size+1) (o:=.lst ((qbE ss).map V.str)) (t':=s.toks) (λ _ _=>sortedAll_old) (Vb _) ⟨?_,out.toList,e,vC h1,he⟩,rfl,q _ (I.hok.fresh (Vb _))⟩;rw[U5] at hz ⊢;rw[h2.length_eq];exact hz
end
end L2
namespace Fs
noncomputable def zX(ρ:Nat->Bool):Nat->List Nat->Nat
 |n,[]=>n
 |n,c::ls=>zX ρ (2*n+if ρ c then 1 else 0) ls
theorem j4(ρ:Nat->Bool):∀(ls:List Nat)(n:Nat),zX ρ n ls=n*2^ls.length+zX ρ 0 ls
 | [],n=>by simp[zX]
 |c::ls,n=>by
  rw[zX,j4 ρ ls,zX,j4 ρ ls (2*0+_),Uj,Qy];rw[Nat.add_mul,Nat.add_mul,<- Ql,Nat.mul_zero,Nat.zero_mul,Q2,Qx 2 n,Qm,Qx 2]
theorem je(ρ:Nat->Bool):∀(ls:List Nat),zX ρ 0 ls<2^ls.length
 | []=>by simp[zX]
 |c::ls=>by
  rw[zX,j4,Uj,Qy]
  have:=je ρ ls
  split <;> omega
theorem yV(ρ:Nat->Bool):∀(ls:List Nat)(t:List Bool),t.length=2^ls.length->look ρ ls t=t.getD (zX ρ 0 ls) false
 | [],[b],_=>by simp[look,zX]
 |c::ls,t,h=>by
  rw[Uj,Qy] at h;have h1:(t.take (2^ls.length)).length=2^ls.length:=by rw[Ul];omega
  have h2:(t.drop (2^ls.length)).length=2^ls.length:=by rw[Um];omega
  have hl:=je ρ ls;rw[look,zX,j4];cases ρ c with
  |true =>
   simp only[Vw,Nat.mul_zero,Q2,Nat.one_mul];rw[yV ρ ls _ h2];simp[Xj,Zk]
  |false =>
   simp only[Zj,Vo,Nat.mul_zero,Q2,Nat.zero_mul];rw[yV ρ ls _ h1];simp[Xj,Xw hl]
theorem qdN:∀{ls:List Nat}{n:Nat},(∀ c∈ls,ρ c=τ c)->zX ρ n ls=zX τ n ls
 | [],n,_=>rfl
 |c::ls,n,h=>by rw[zX,zX,h c Zb];exact qdN λ d hd=>h d (Yj _ hd)
theorem qcC:∀{F:List Pr},(∀ p∈F,∀ c∈p,ρ c=τ c)->qt ρ F=qt τ F
 | [],_=>rfl
 |p::F,h=>by
  show xor (p.all ρ) (qt ρ F)=xor (p.all τ) (qt τ F)
  rw[qcC λ q hq=>h q (Yj _ hq)];congr 1
  have h1:=h p Zb;revert h1;clear h;induction p with
  |nil=>intro _;rfl
  |cons c p ih=>intro h1;rw[Qi,Qi,h1 c Zb,ih λ d hd=>h1 d (Yj _ hd)]
noncomputable def kh(ns:List Nat)(t:List Bool):List Nat:=List.zipWith (λ n b=>2*n+if b then 1 else 0) ns t
noncomputable def qa8(L:List Nat)(ps:List (List Pr)):List Nat:=ps.foldl (λ ns p=>kh ns (zb p L)) (List.replicate (2^L.length) 0)
noncomputable def qZ(ps:List (List Pr)):List Nat:=qf (ps.map qf)
noncomputable def putIn(F:List Pr)(g:Nat->List Pr):List Pr:=
 yj (qZ ((qf F).map g)) ((qa8 (qZ ((qf F).map g)) ((qf F).map g)).map λ n=>(zb F (qf F)).getD n false)
theorem qcc(p:List Pr)(h:ns.length=2^L.length):(kh ns (zb p L)).length=2^L.length:=by
 rw[kh,Yz,qS,h,Q0]
theorem qdO:∀(ps:List (List Pr))(ns:List Nat),ns.length=2^L.length->(ps.foldl (λ ns p=>kh ns (zb p L)) ns).length=2^L.length
 | [],ns,h=>h
 |p::ps,ns,h=>qdO ps _ (qcc p h)
theorem qdP(L:List Nat)(ps:List (List Pr)):(qa8 L ps).length=2^L.length:=qdO ps _ (XT ..)
theorem qfO:c∈qZ ps ↔ ∃ F∈ps,∃ p∈F,c∈p:=by
 rw[qZ,zy];constructor
 ·rintro⟨p,hp,hc⟩;obtain⟨F,hF,rfl⟩:=Qz.mp hp;exact⟨F,hF,zy.mp hc⟩
 ·rintro⟨F,hF,p,hp,hc⟩;exact⟨qf F,Qz.mpr ⟨F,hF,rfl⟩,zy.mpr ⟨p,hp,hc⟩⟩
theorem qiZ(ρ:Nat->Bool)(g:Nat->List Pr)(hl:L.Pairwise (·<·)):∀(ls:List Nat)(ns:List Nat)(n:Nat),ns.length=2^L.length->ns[zX ρ 0 L]?=some n->(∀ c∈ls,Vf (g c))->(∀ c∈ls,∀ p∈g c,∀ d∈p,d∈L) ->
  ((ls.map g).foldl (λ ns p=>kh ns (zb p L)) ns)[zX ρ 0 L]?=some (zX (λ c=>qt ρ (g c)) n ls)
 | [],ns,n,_,h,_,_=>h
 |c::ls,ns,n,hn,h,hv,hm=>by
  rw[Qe,Ja,zX];refine qiZ ρ g hl ls _ _ (qcc _ hn) ?_ (λ d hd=>hv d (Yj _ hd)) λ d hd=>hm d (Yj _ hd)
  have ht:=vw ρ hl (hv c Zb) (hm c Zb);rw[yV ρ L _ (qS _ _)] at ht;have c9:=je ρ L;have e:(zb (g c) L)[zX ρ 0 L]?=some (qt ρ (g c)):=by
   have h1:zX ρ 0 L<(zb (g c) L).length:=by rw[qS];exact c9
   rw[Xy h1];rw[Xj,Xy h1] at ht;exact congrArg some ht
  rw[kh,Yc,h,e]
theorem qld(F:List Pr)(g:Nat->List Pr):Vf (putIn F g):=qav (q0 _) _
theorem qjQ:∀ p∈putIn F g,∀ d∈p,∃ c∈qf F,∃ q∈g c,d∈q:=by
 intro p hp d hd
 have:=(kQ hp).subset hd
 obtain⟨G,hG,q,hq,eZ⟩:=qfO.mp this;obtain⟨c,hc,rfl⟩:=Qz.mp hG;exact⟨c,hc,q,hq,eZ⟩
theorem qgX(ρ:Nat->Bool)(hF:Vf F)(hg:∀ c∈qf F,Vf (g c)):qt ρ (putIn F g)=qt (λ c=>qt ρ (g c)) F:=by
 have hl:(qZ ((qf F).map g)).Pairwise (·<·):=q0 _;have lt:=je ρ (qZ ((qf F).map g));rw[putIn,yu ρ (by rw[U5,qdP]),yV ρ _ _ (by rw[U5,qdP])];have hn:=qiZ ρ g hl (qf F) (List.replicate (2^(qZ ((qf F).map g)).length) 0) 0 (XT ..) (by rw[X5,Vz lt]) hg
  λ c hc p hp d hd=>qfO.mpr ⟨g c,Qz.mpr ⟨c,hc,rfl⟩,p,hp,hd⟩
 rw[Xj,Zt];rw[show(qa8 (qZ ((qf F).map g)) ((qf F).map g))[zX ρ 0 (qZ ((qf F).map g))]?=some _ from hn];show(zb F (qf F)).getD _ false=_
 rw[<- yV (λ c=>qt ρ (g c)) _ _ (qS _ _)];exact vw _ (q0 F) hF λ p hp c hc=>zy.mpr ⟨p,hp,hc⟩
noncomputable def qbT(c:Nat)(b:Bool)(d:Nat):List Pr:=if d=c then(if b then [[]] else []) else [[d]]
noncomputable def fixed(F:List Pr)(c:Nat)(b:Bool):List Pr:=putIn F (qbT c b)
noncomputable def upR(ρ:Nat->Bool)(c:Nat)(b:Bool)(d:Nat):Bool:=if d=c then b else ρ d
theorem qjR(d:Nat):Vf [[d]]:=⟨by simp,by simp⟩
theorem qmY(c:Nat)(b:Bool)(d:Nat):Vf (qbT c b d):=by
 unfold qbT;split
 ·cases b
  ·exact qhQ
  ·exact qfs
 ·exact qjR d
theorem qh3(ρ:Nat->Bool)(c:Nat)(b:Bool)(d:Nat):qt ρ (qbT c b d)=upR ρ c b d:=by
 unfold qbT upR;split
 ·cases b <;> simp[qt]
 ·simp[qt]
theorem yW(F:List Pr)(c:Nat)(b:Bool):Vf (fixed F c b):=qld _ _
theorem jL(ρ:Nat->Bool)(hF:Vf F)(c:Nat)(b:Bool):qt ρ (fixed F c b)=qt (upR ρ c b) F:=by
 rw[fixed,qgX ρ hF λ d _=>qmY c b d];exact congrArg (λ τ=>qt τ F) (funext λ d=>qh3 ρ c b d)
theorem qeS:∀ p∈fixed F c b,∀ d∈p,d≠c/\∃ q∈F,d∈q:=by
 intro p hp d hd;obtain⟨e,he,q,hq,eZ⟩:=qjQ p hp d hd;unfold qbT at hq;split at hq
 ·cases b
  ·simp at hq
  ·simp at hq;rw[hq] at eZ;cases eZ
 ·rename_i K6;simp at hq;rw[hq] at eZ;simp at eZ;subst eZ;exact⟨K6,zy.mp he⟩
noncomputable def qcD(F:List Pr)(c:Nat):List Pr:=join (fixed F c false) (fixed F c true)
noncomputable def every1(F:List Pr)(c:Nat):List Pr:=mult (fixed F c false) (fixed F c true)
noncomputable def vI(F:List Pr)(cs:List Nat):List Pr:=cs.foldl qcD F
noncomputable def everyOf(F:List Pr)(cs:List Nat):List Pr:=cs.foldl every1 F
theorem k9(F:List Pr)(c:Nat):Vf (qcD F c):=qmI (yW _ _ _) (yW _ _ _)
theorem qcd(F:List Pr)(c:Nat):Vf (every1 F c):=qcS _ _
theorem qaa(ρ:Nat->Bool)(hF:Vf F)(c:Nat):qt ρ (qcD F c)=(qt (upR ρ c false) F || qt (upR ρ c true) F):=by
 rw[qcD,qaY ρ (yW _ _ _) (yW _ _ _),jL ρ hF,jL ρ hF]
theorem qfP(ρ:Nat->Bool)(hF:Vf F)(c:Nat):qt ρ (every1 F c)=(qt (upR ρ c false) F && qt (upR ρ c true) F):=by
 rw[every1,qaX ρ (yW _ _ _) (yW _ _ _),jL ρ hF,jL ρ hF]
theorem qeT(hF:Vf F):∀ cs:List Nat,Vf (vI F cs)
 | []=>hF
 |c::cs=>by rw[vI,Ja];exact qeT (k9 F c) cs
theorem qdQ(hF:Vf F):∀ cs:List Nat,Vf (everyOf F cs)
 | []=>hF
 |c::cs=>by rw[everyOf,Ja];exact qdQ (qcd F c) cs
def qoD(cs:List Nat)(ρ τ:Nat->Bool):Prop:=∀ d,d∉cs->τ d=ρ d
theorem qbU(hF:Vf F):∀(cs:List Nat)(ρ:Nat->Bool),qt ρ (vI F cs)=true ↔ ∃ τ,qoD cs ρ τ/\qt τ F=true:=by
 intro cs;induction cs generalizing F with
 |nil =>
  intro ρ;constructor
  ·intro h;exact⟨ρ,λ _ _=>rfl,h⟩
  ·rintro⟨τ,hn,h⟩
   have:τ=ρ:=funext λ d=>hn d (by simp)
   rw[<- this];exact h
 |cons c cs ih =>
  intro ρ;rw[vI,Ja];rw[show List.foldl qcD (qcD F c) cs=vI (qcD F c) cs from rfl,ih (k9 F c)];constructor
  ·rintro⟨τ,hn,h⟩;rw[qaa τ hF,Bool.or_eq_true] at h;rcases h with h | h
   ·refine⟨_,λ d hd=>?_,h⟩;unfold upR;rw[V0 (λ(e:d=c)=>hd (e ▸ Zb))];exact hn d λ h=>hd (Yj _ h)
   ·refine⟨_,λ d hd=>?_,h⟩;unfold upR;rw[V0 (λ(e:d=c)=>hd (e ▸ Zb))];exact hn d λ h=>hd (Yj _ h)
  ·rintro⟨τ,hn,h⟩;refine⟨upR τ c (ρ c),λ d hd=>?_,?_⟩
   ·unfold upR;split
    ·rename_i e;rw[e]
    ·rename_i e;exact hn d λ h=>by
      rcases Qd.mp h with h|h
      ·exact e h
      ·exact hd h
   ·rw[qaa _ hF]
    have:∀ b,upR (upR τ c (ρ c)) c b=upR τ c b:=λ b=>funext λ d=>by unfold upR;split <;> rfl
    rw[this,this];have e:upR τ c (τ c)=τ:=funext λ d=>by unfold upR;split <;> first|rfl|(rename_i e;rw[e])
    rw[<- e] at h;cases hb:τ c with
    |true=>rw[hb] at h;rw[h];simp
    |false=>rw[hb] at h;rw[h];simp
theorem qh4(hF:Vf F)(c:Nat):every1 F c=opp (qcD (opp F) c):=(qcd F c).only (kS (k9 _ _)) λ ρ=>by
 rw[qfP ρ hF,yd ρ (k9 _ _),qaa ρ (kS hF),yd _ hF,yd _ hF];cases qt (upR ρ c false) F <;> cases qt (upR ρ c true) F <;> rfl
theorem qi0(hF:Vf F):opp (opp F)=F:=(kS (kS hF)).only hF λ ρ=>by rw[yd ρ (kS hF),yd ρ hF,Bool.not_not]
theorem qgY(hF:Vf F):∀ cs:List Nat,everyOf F cs=opp (vI (opp F) cs):=by
 intro cs;induction cs generalizing F with
 |nil=>exact(qi0 hF).symm
 |cons c cs ih =>
  rw[everyOf,Ja,vI,Ja];rw[show List.foldl every1 (every1 F c) cs=everyOf (every1 F c) cs from rfl,ih (qcd F c),qh4 hF,qi0 (k9 _ _)];rfl
theorem qeo(hF:Vf F)(cs:List Nat)(ρ:Nat->Bool):qt ρ (everyOf F cs)=true ↔ ∀ τ,qoD cs ρ τ->qt τ F=true:=by
 rw[qgY hF,yd ρ (qeT (kS hF) cs)];constructor
 ·intro h τ hn;cases hw:qt τ F with
  |true=>rfl
  |false =>
   have:qt ρ (vI (opp F) cs)=true:=(qbU (kS hF) cs ρ).mpr ⟨τ,hn,by rw[yd τ hF,hw];rfl⟩
   rw[this] at h;cases h
 ·intro h;cases hw:qt ρ (vI (opp F) cs) with
  |false=>rfl
  |true =>
   obtain⟨τ,hn,ht⟩:=(qbU (kS hF) cs ρ).mp hw;rw[yd τ hF,h τ hn] at ht;cases ht
end Fs
namespace Fs
theorem qmZ(h:a=true ↔ b=true):a=b:=U4.mpr h
section
variable {F G:List Pr}
theorem qgZ(hF:Vf F)(hG:Vf G)(h:∀ ρ,qt ρ G=true ↔ ∀ τ,qoD cs ρ τ->qt τ F=true):everyOf F cs=G:=
 (qdQ hF cs).only hG λ ρ=>qmZ ((qeo hF cs ρ).trans (h ρ).symm)
variable {g g':Nat->List Pr}
end
end Fs
namespace L2
open PySem PySem.Spec PyProof.Rows
theorem Draws.strAny(hh:A.handled=none)(it:Addr)(x:Str)(t:Tok):
  Draws prog w A it [it] x.cps.size (λ i v=>∃ c u,x.cps[i]?=some c/\v=.str ⟨#[c]⟩ u) (λ i h=>h.IsStrIter it (strIterType x) x t i):=by
 unfold strIterType;cases ha:x.cps.all (·<128) with
 |true=>rw[Vz (by simpa using ha)];exact Draws.strAscii hh it x t
 |false=>rw[V0 (by simpa using ha)];exact Draws.strWide hh it x t
noncomputable def qjS(z:Str):It2:=⟨λ i H=>i<z.cps.size,λ i H ys H'=>H'=H/\ys=[.int i,sgn z i],λ i H=>i=z.cps.size⟩
def qoE(z:Str)(t:Tok)(e it:Addr)(i:Nat)(h:Heap):Prop:=(∃ S2,IsEnum h e it i S2)/\h.IsStrIter it (strIterType z) z t i
theorem qh5{K:W.Frag}{pos:Pos}(z:Str)(t:Tok)(e it:Addr)(K6:e≠it):Turn2 P w K (.Tuple es k pos) (qjS z) [e,it] e (qoE z t e it) where
 obj:=λ i h st b hb=>by
  obtain⟨⟨S2,he⟩,o,ho,c,d⟩:=st;have hb:b=e∨b=it:=by simpa using hb
  rcases hb with y|y
  ·subst y;exact⟨_,he,λ v q=>by cases q⟩
  ·subst y;exact⟨o,ho,λ v q=>by rw[d] at q;cases q⟩
 keep:=λ i h h' st k=>by
  obtain⟨⟨S2,he⟩,o6⟩:=st;obtain⟨o,ho,r⟩:=o6;exact⟨⟨S2,k e (by simp) _ he⟩,o,k it (by simp) o ho,r⟩
 item:=by
  intro X hP hw hK hc i pins s σ H E I hf st hg;subst hP hw hK;have c9:i<z.cps.size:=hg;obtain⟨⟨S2,he⟩,o6⟩:=st;have fe:=hf e (by simp);have fi:=hf it (by simp);refine wpAny_pyNext_enum_itemD (Draws.strAny (A:=X.A.in1) (by simpa using I.ok.hd hc) it z t) he o6 c9 K6 (by simpa using K6) λ u h' tk hP cR L8 ht hsz hk=>?_
  refine⟨s.heap.objs.size,rfl,wpAny_letOwnedTupleGo_enum cR λ h2 uF w4=>?_⟩;replace w4:Heap.SameBut e h' h2:=w4;have eY:e<s.heap.objs.size:=Qs he;have k2:∀ b o,b≠e->b≠it->s.heap.get? b=some o->h2.get? b=some o:=λ b o h1 h3 q=>w4.extBut b o h1 (hk b o h1 h3 q)
  have I1:Inv X pins σ H { s with heap:=h2,toks:=tk+1 }:=by
   refine I.step (g':=s.gens) (d':=s.drawn) (ch:=[e,it]) (λ b hb=>?_) (λ b o _ _ i9 q _=>k2 b o (λ z=>i9 (by simp[z])) (λ z=>i9 (by simp[z])) q)
    (λ b o _ _ i9 q _=>⟨o.slots,k2 b o (λ z=>i9 (by simp[z])) (λ z=>i9 (by simp[z])) q⟩) (λ _ _ _ _ n=>n) (λ b o i9 q=>⟨o,k2 b o (λ z=>i9 (by simp[z])) (λ z=>i9 (by simp[z])) q⟩)
    (λ _ _ q=>q) (λ _ _ _ q=>q) (λ b ps q=>⟨#[],by rw[q];simp⟩) (λ m hm=>?_) (λ b u q=>?_) I.bare
   ·have hb:b=e∨b=it:=by simpa using hb
    rcases hb with z|z
    ·subst z;exact⟨fe.2.2.2.1,fe.2.1,fe.2.2.2.2.1,fe.2.2.2.2.2⟩
    ·subst z;exact⟨fi.2.2.2.1,fi.2.1,fi.2.2.2.2.1,fi.2.2.2.2.2⟩
   ·obtain⟨o,x9,ep,ho,r⟩:=hm;exact⟨o,x9,ep,k2 _ o (Vu fe.2.1) (Vu fi.2.1) ho,r⟩
   ·refine(I.hok b u q).stay (λ c v i9 z=>k2 c v (λ y=>?_) (λ y=>?_) z) (λ _ z=>z) λ _ _ z=>z
    ·rcases i9 with y' | y'
     ·rw[<- y',y,fe.1] at q;cases q
     ·rw[y,fe.1] at y';cases y'
    ·rcases i9 with y' | y'
     ·rw[<- y',y,fi.1] at q;cases q
     ·rw[y,fi.1] at y';cases y'
  obtain⟨c,u',ec,rfl⟩:=hP;obtain⟨o3,ho3,r3⟩:=L8;refine⟨[.int i,sgn z i],[.int i tk,.str ⟨#[c]⟩ u'],H,I1,⟨_,(w4.extBut _ _ (Qw eY) ht),rfl,_,rfl⟩,.cons ⟨_,rfl⟩ (.cons (qhS (v:=.str ⟨#[c]⟩ u') ⟨c,u',ec,rfl⟩) .nil),⟨rfl,rfl⟩,⟨⟨.str ⟨#[c]⟩ u',?_⟩,o3,w4.extBut _ _ (Vu K6) ho3,r3⟩,λ b hb=>(hf b hb).1⟩
  ·have:((i:Int)+1)=((i+1:Nat):Int):=by omega
   rw[<- this];exact uF
 done:=by
  intro X hP hw hK hc i pins s σ H E I hf st hg;subst hP hw hK;have hi:i=z.cps.size:=hg;subst hi;obtain⟨⟨S2,he⟩,o6⟩:=st;obtain⟨f0,f1,f2,f3,f4,f5⟩:=hf it (by simp);exact wpAny_pyNext_enum_endD (Draws.strAny (A:=X.A.in1) (by simpa using I.ok.hd hc) it z t) he o6 λ h' eb=>⟨rfl,I.turned (t':=s.toks) (λ b o hb e=>eb b o hb e) f0 f1 f3 f4 f5⟩
 self:=λ A i s Q E st h=>by
  obtain⟨⟨S2,he⟩,o6⟩:=st;exact Uc he h
def qoF(ta:TA):TI2:=λ σ H R=>ta σ H λ vs H1=>∃ z,vs=[.str z]/\R (qjS z) H1
theorem qdR {pos:Pos}(hg:Gl X "enumerate")(hm:X.mg "enumerate"=none)(ha:PA X [l] ta)(hs:starEach [l] X.env=[(false,eval l X.env)]:=by rfl):
  PI2 X (.Tuple es k x8) (.Call (.Name "enumerate" p) [l] [] pos) (qoF ta):=by
 intro pins s σ H R I h;refine qdv (R:=λ vs H1=>∃ z,vs=[.str z]/\R (qjS z) H1) hg hm boot_enumerate ha I h (λ us s1 vs H1 I1 r1 q1=>?_) (hs:=hs);obtain⟨z,e,q⟩:=q1;subst e;obtain⟨u,rfl,t,rfl⟩:=yk r1;refine call_enumerate_str λ h' he o6 hsz hk=>Uc he ?_
 refine⟨s1.heap.objs.size+1,[s1.heap.objs.size+1,s1.heap.objs.size],_,_,H1,rfl,I1.kept (t':=s1.toks) hk,qh5 z t _ _ (Ur _),⟨⟨_,he⟩,o6⟩,λ b hb=>?_,q⟩;have hb:b=s1.heap.objs.size+1∨b=s1.heap.objs.size:=by simpa using hb
 rcases hb with z|z
 ·subst z;exact I1.fpOk (Vb _) (I1.hok.fresh (Vb _))
 ·subst z;exact I1.fpOk (Q9 _) (I1.hok.fresh (Q9 _))
section
variable {X:Cx}
def qqK:V->Option Int->Option Int->Hp->VK->Prop:=λ x lo hi H Q=>∃(z:Str)(j:Nat),x=.str z/\lo=none/\hi=some (j:Int)/\z.length<=1000/\Q (.str (qj ((cs z).take j))) H
theorem y4(l:List Nat):∀ m,m<=l.length->(List.range m).filterMap (l[·]?)=l.take m
 |0,_=>rfl
 |m+1,h=>by
  rw[Jf,Ya,y4 l m (by omega),List.take_succ];congr 1
theorem qjT(z:Str)(j:Nat)(tk:Tok):slicePicked z none (some ((j:Int),tk)) none=List.range (min j z.length):=by
 unfold slicePicked Builtin.Str.strSliceIndices
 dsimp
 have e:(if (j:Int)<0 then max 0 ((j:Int)+(z.length:Int)) else min (j:Int) (z.length:Int))=((min j z.length:Nat):Int):=by
  rw[V0 (by omega)];omega
 first
 |(rw[show sliceRange 0 _ 1=sliceRange ((0:Nat):Int) ((min j z.length:Nat):Int) 1 by congr 1 <;> (try split) <;> omega,sliceRange_one];simp)
 |skip
theorem qm0:SlR X qqK:=by
 intro pins s σ H x v vl vu lo hi sl Q I rx hs pl pu h;obtain⟨z,j,rfl,rfl,rfl,hz,q⟩:=h;obtain⟨t,rfl⟩:=rx;refine⟨"str",_,PySem.F.slot_str_getitem.lookup,Vk s z t,?_⟩;cases pl
 cases pu
 rename_i tk;refine wpAny_getItem_str_slice (l:=none) (u:=some ((j:Int),tk)) (st:=none) hs rfl ?_;have hl:z.length=(cs z).length:=by show z.cps.size=z.cps.toList.length;rw[Yv]
 unfold sliceMade;rw[qjT,Z4];split
 ·next h =>
  have h2:min j z.length=z.length:=by
   have:=(Bool.and_eq_true_iff.mp h).2
   exact Vj.mp this
  have e:qj ((cs z).take j)=z:=by
   rw[XL (by omega)];exact qeI z
  rw[e] at q;exact⟨.str z,H,I,⟨t,rfl⟩,q⟩
 ·have e:(⟨((List.range (min j z.length)).filterMap (z.cps[·]?)).toArray⟩:Str)=qj ((cs z).take j):=by
   have:=y4 (cs z) (min j z.length) (by omega)
   rw[show(λ i:Nat=>z.cps[i]?)=λ i=>(cs z)[i]? from funext λ i=>by show z.cps[i]?=z.cps.toList[i]?;rw[XX]];rw[this];show qj _=_
   congr 1
   rw[hl,List.take_eq_take_iff];omega
  rw[e];refine⟨?_,.str _,H,I.tok _,⟨_,rfl⟩,q⟩;show(qj ((cs z).take j)).length<=_
  rw[show(qj ((cs z).take j)).length=((cs z).take j).length from qy _,Ul];exact qz (by omega)
def qqL:V->Option Int->Option Int->Hp->VK->Prop:=λ x lo hi H Q=>∃(z:Str)(j:Nat),x=.str z/\lo=some (j:Int)/\hi=none/\j<=z.length/\z.length<=1000/\Q (.str (qj ((cs z).drop j))) H
theorem qdS(l:List Nat)(j:Nat)(hj:j<=l.length):((List.range (l.length-j)).map (j+·)).filterMap (l[·]?)=l.drop j:=by
 rw[Zh];have e:(λ x=>l[x]?) ∘ (λ x=>j+x)=λ i=>(l.drop j)[i]?:=by
  funext i
  show l[j+i]?=_
  rw[Zk]
 rw[e,y4 (l.drop j) (l.length-j) (by rw[Um];omega),XL (by rw[Um];omega)]
theorem qg0(z:Str)(j:Nat)(hj:j<=z.length)(tk:Tok):slicePicked z (some ((j:Int),tk)) none none=(List.range (z.length-j)).map (j+·):=by
 unfold slicePicked Builtin.Str.strSliceIndices
 dsimp
 rw[show sliceRange _ _ 1=sliceRange ((j:Nat):Int) ((z.length:Nat):Int) 1 by congr 1 <;> (try split) <;> omega,sliceRange_one]
theorem qm1:SlR X qqL:=by
 intro pins s σ H x v vl vu lo hi sl Q I rx hs pl pu h;obtain⟨z,j,rfl,rfl,rfl,hj,hz,q⟩:=h;obtain⟨t,rfl⟩:=rx;refine⟨"str",_,PySem.F.slot_str_getitem.lookup,Vk s z t,?_⟩;cases pl
 cases pu
 rename_i tk;refine wpAny_getItem_str_slice (l:=some ((j:Int),tk)) (u:=none) (st:=none) hs rfl ?_;have hl:z.length=(cs z).length:=by show z.cps.size=z.cps.toList.length;rw[Yv]
 unfold sliceMade;rw[qg0 z j hj,U5,Z4];split
 ·next h =>
  have h2:z.length-j=z.length:=by
   have:=(Bool.and_eq_true_iff.mp h).2
   exact Vj.mp this
  have e:qj ((cs z).drop j)=z:=by
   by_cases hj0:j=0
   ·rw[hj0,J0];exact qeI z
   ·have:z.length=0:=by omega
    rw[XM (by omega),show([]:List Nat)=cs z from(XD.mp (by omega)).symm];exact qeI z
  rw[e] at q;exact⟨.str z,H,I,⟨t,rfl⟩,q⟩
 ·have e:(⟨(((List.range (z.length-j)).map (j+·)).filterMap (z.cps[·]?)).toArray⟩:Str)=qj ((cs z).drop j):=by
   have:=qdS (cs z) j (by omega)
   rw[show(λ i:Nat=>z.cps[i]?)=λ i=>(cs z)[i]? from funext λ i=>by show z.cps[i]?=z.cps.toList[i]?;rw[XX]];rw[hl,this];rfl
  rw[e];refine⟨?_,.str _,H,I.tok _,⟨_,rfl⟩,q⟩;show(qj ((cs z).drop j)).length<=_
  rw[show(qj ((cs z).drop j)).length=((cs z).drop j).length from qy _,Um];exact qz (by omega)
end
end L2
namespace Fs
theorem On.fixed{ls:List Nat}{F:List Pr}(h:On ls F)(c:Nat)(b:Bool):On ls (fixed F c b):=⟨yW F c b,λ p hp d hd=>by
 obtain⟨_,q,hq,eZ⟩:=qeS p hp d hd;exact h.mem q hq d eZ⟩
theorem On.every1{ls:List Nat}{F:List Pr}(h:On ls F)(c:Nat):On ls (every1 F c):=(h.fixed c false).mult (h.fixed c true)
theorem qfQ(F:List Pr)(c:Nat)(cs:List Nat):everyOf F (c::cs)=everyOf (every1 F c) cs:=by unfold everyOf;rw[Ja]
theorem On.everyOf{ls:List Nat}(cs:List Nat):∀{F:List Pr},On ls F->On ls (everyOf F cs):=by
 induction cs with
 |nil=>intro F h;exact h
 |cons c cs ih=>intro F h;rw[qfQ];exact ih (h.every1 c)
end Fs
namespace Fs
structure Ok9(ls:List Nat):Prop where
 rise:ls.Pairwise (·<·)
 len:ls.length<=9
end Fs
namespace L2
open PySem PySem.Spec PyProof.Rows
theorem qce{t:TGs}{tb:TS}{D:Ends}(Pv:Nat->St->Hp->Prop)(h0:Pv 0 σ H)(hs:∀ i σ H,i<z.cps.size->Pv i σ H->t [.int i,sgn z i] σ H λ σ2 H2=>tb { D with nx:=Pv (i+1),ct:=Pv (i+1),bk:=D.nx } σ2 H2)(hd:∀ σ H,Pv z.cps.size σ H->D.nx σ H):
  ∃ W:Nat->Nat->St->Hp->Prop,(∃ m,W 0 m σ H)/\∀ i m σ H,W i m σ H ->
   ((qjS z).stop i H/\D.nx σ H)∨((qjS z).go i H/\∃ N:St->Hp->Prop,(∀ σ' H',N σ' H'->∃ m',m'<m/\W (i+1) m' σ' H')/\∀ zs H',(qjS z).yld i H zs H'->zs.length=2/\t zs σ H' λ σ2 H2=>tb { D with nx:=N,ct:=N,bk:=D.nx } σ2 H2):=by
 refine⟨λ i m σ H=>m=z.cps.size-i/\i<=z.cps.size/\Pv i σ H,⟨z.cps.size,by simp,Va _,h0⟩,?_⟩;rintro i m σ H ⟨rfl,hi,p⟩;by_cases c9:i<z.cps.size
 ·refine .inr ⟨c9,Pv (i+1),λ σ' H' p'=>⟨z.cps.size-(i+1),by omega,rfl,c9,p'⟩,λ zs H' y=>?_⟩;obtain⟨e,ez⟩:=y;subst e ez;exact⟨rfl,hs i σ _ c9 p⟩
 ·have e:i=z.cps.size:=by omega
  subst e;exact .inl ⟨rfl,hd σ H p⟩
end L2
namespace Fs
theorem qjU(F G:List Pr):(added F G).length<=F.length+G.length:=by
 unfold added;rw[(zV _).length_eq,qdm,Ze]
 have:=Yd (λ p=>!G.contains p) F
 have:=Yd (λ p=>!F.contains p) G
 omega
noncomputable def uni(a b:Pr):Pr:=qf [a++b]
theorem qi1:c∈uni a b ↔ c∈a∨c∈b:=by unfold uni;rw[zy];simp
end Fs
namespace L2
open PySem PySem.Spec PyProof.Rows
section
variable {X:Cx}{pins:List (Addr×Obj)}{σ:St}{H:Hp}{s:Shared}{a:Addr}
theorem Inv.swap(I:Inv X pins σ H s)(e:H a=some u)(n1:∀ x,u≠.own x)(n2:∀ xs,u≠.tup xs)(n3:∀ ps,u≠.tbl ps)(n4:∀ o v,X.H₀ a≠some (.frz o v))(ok:zI X.prog X.w (upd H a u') s.heap a u'):Inv X pins σ (upd H a u') s:=by
 have ne:∀{b:Addr},H b=none->b≠a:=λ h q=>by rw[q,e] at h;cases h
 refine⟨I.ok,I.os,I.bare,⟨I.base.keep,I.base.slot,λ b o q n hx=>?_,I.base.there,λ b xs q=>?_,λ b o v q=>?_,λ b ps q=>?_⟩,I.loc,I.cell,?_,λ x c q=>?_,λ p hp=>?_,λ b v q=>?_,I.len⟩
 ·have:=I.base.free b o q n hx
  rw[qu (ne this)];exact this
 ·have:=I.base.tups b xs q
  rw[qu (λ z=>by rw[z,e] at this;exact n2 _ (Option.some.inj this))];exact this
 ·have:=I.base.frzs b o v q
  rw[qu (show b≠a from λ z=>n4 o v (by rw[<- z];exact q))];exact this
 ·obtain⟨more,h⟩:=I.base.tbls b ps q;exact⟨more,by rw[qu (λ z=>by rw[z,e] at h;exact n3 _ (Option.some.inj h))];exact h⟩
 ·rw[qu (ne I.free)];exact I.free
 ·rw[qu (ne (I.freeC x c q))];exact I.freeC x c q
 ·obtain⟨p1,p2,p3⟩:=I.pin p hp;exact⟨p1,by rw[qu (ne p2)];exact p2,p3⟩
 ·by_cases hb:b=a
  ·subst hb;rw[qc] at q;cases q
   exact ok
  ·rw[qu hb] at q;refine(I.hok b v q).stay (λ c w _ r=>r) (λ c r=>?_) λ c xs r=>?_
   ·rw[qu (λ z=>by rw[z,e] at r;exact n1 _ (Option.some.inj r))];exact r
   ·rw[qu (λ z=>by rw[z,e] at r;exact n2 _ (Option.some.inj r))];exact r
theorem Inv.nofrz(I:Inv X pins σ H s)(e:H a=some u)(h:∀ o v,u≠.frz o v):∀ o v,X.H₀ a≠some (.frz o v):=λ o v q=>by
 have:=I.base.frzs a o v q
 rw[e] at this;exact h o v (Option.some.inj this)
end
noncomputable def qpE(a:Addr)(kvs:List (Key×V))(D:Ends):Ends where
 nx:=λ σ H=>∃ o,H a=some (.frz o (.dK kvs))/\D.nx σ (upd H a (.dK kvs))
 rt:=λ v H=>∃ o,H a=some (.frz o (.dK kvs))/\D.rt v (upd H a (.dK kvs))
 bk:=λ σ H=>∃ o,H a=some (.frz o (.dK kvs))/\D.bk σ (upd H a (.dK kvs))
 ct:=λ σ H=>∃ o,H a=some (.frz o (.dK kvs))/\D.ct σ (upd H a (.dK kvs))
def qoG(t:TS):TS:=λ D σ H=>∃ a kvs,H a=some (.dK kvs)/\t (qpE a kvs D) σ H
section
variable {X:Cx}
theorem Inv.thaw(I:Inv X pins σ H s)(nf:∀ o v,X.H₀ a≠some (.frz o v))(ho:H a=some (.frz o (.dK kvs))):Inv X pins σ (upd H a (.dK kvs)) s:=by
 refine I.swap ho (λ _ z=>by cases z) (λ _ z=>by cases z) (λ _ z=>by cases z) nf ?_;obtain⟨_,z,y,vs,r,k⟩:=(show zI X.prog X.w H s.heap a (.frz o (.dK kvs)) from I.hok a _ ho);exact⟨z,y,vs,r,k⟩
theorem qm2{st:Stmt}(h:PS X st t):PS X st (qoG t):=by
 intro pins s σ H D I hw;obtain⟨a,kvs,ha,hw⟩:=hw;have nf:=I.nofrz ha λ _ _ z=>by cases z
 refine thn (h pins s σ H _ I hw) λ f s1 q=>?_
 cases f with
 |next=>obtain⟨σ1,H1,I1,o,ho,q⟩:=q;exact⟨σ1,_,I1.thaw nf ho,q⟩
 |brk=>obtain⟨σ1,H1,I1,o,ho,q⟩:=q;exact⟨σ1,_,I1.thaw nf ho,q⟩
 |cont=>obtain⟨σ1,H1,I1,o,ho,q⟩:=q;exact⟨σ1,_,I1.thaw nf ho,q⟩
 |ret u=>obtain⟨v,σ1,H1,I1,r,o,ho,q⟩:=q;exact⟨v,σ1,_,I1.thaw nf ho,r,q⟩
end
end L2
namespace L2
open PySem PySem.Spec PyProof.Rows PySem.StrLaws PySem.Builtin PySem.Builtin.Str
noncomputable def qfR(c:Nat):Nat->List Nat->List Nat
 |_,[]=>[]
 |k,x::l=>if x=c then k::qfR c (k+1) l else qfR c (k+1) l
end L2
namespace L2
open PySem PySem.Spec PyProof.Rows
theorem qfH:∀(G:List (List Nat)),(∀ p∈G,p.length<=n)->G.flatten.length<=n*G.length:=by
 intro G;induction G with
 |nil=>intro _;simp
 |cons g G ih =>
  intro h;have h1:=h g (Zb ..);have h2:=ih λ p hp=>h p (Yj _ hp)
  rw[Zw,Ze,Uj,Nat.mul_succ];omega
end L2
namespace Fs
theorem qi2{α:Type}[DecidableEq α](f:α->Nat):∀{l m:List α},l.Nodup->(∀ x∈l,x∈m)->(l.map f).sum<=(m.map f).sum
 | [],_,_,_=>Va _
 |a::l,m,nd,h=>by
  have B9:=U7.mp nd;have ha:a∈m:=h a Zb;have ih:=qi2 f (l:=l) (m:=m.erase a) B9.2 λ x hx=>(List.mem_erase_of_ne (λ(e:x=a)=>B9.1 (by rw[<- e];exact hx))).mpr (h x (Yj _ hx))
  have e:(m.map f).sum=((a::m.erase a).map f).sum:=by
   have:=(List.perm_cons_erase ha).map f
   clear ih;generalize m.map f=u at this;generalize (a::m.erase a).map f=v at this;induction this with
   |nil=>rfl
   |cons x _ ih=>rw[Qk,Qk,ih]
   |swap x y l=>rw[Qk,Qk,Qk,Qk];omega
   |trans _ _ a b=>exact a.trans b
  rw[e,Qe,Qe,Qk,Qk];omega
theorem qbV(l:Nat):∀ P:List Pr,((P.map (l::·)).map List.length).sum=(P.map List.length).sum+P.length
 | []=>rfl
 |p::P=>by
  have ih:=qbV l P;rw[Qe,Qe,Qk,Qe,Qk,ih,Uj,Uj];omega
theorem qm3(u v:List Nat):(u++v).sum=u.sum+v.sum:=by
 induction u with
 |nil=>simp
 |cons a u ih=>rw[Uv,Qk,Qk,ih];omega
theorem qdT:∀ ls:List Nat,2*((zl ls).map List.length).sum=ls.length*2^ls.length
 | []=>rfl
 |l::ls=>by
  have ih:=qdT ls;have pl:=qO ls;rw[zl,Jd,qm3,qbV,Uj,Qy,pl];generalize 2^ls.length=N at ih ⊢
  have:(ls.length+1)*(N*2)=2*(ls.length*N)+2*N:=by
   rw[Nat.add_mul,Nat.one_mul,Qx N 2,<- Qm,Qx ls.length 2,Qm]
  rw[this];omega
theorem On.flat2(h:On ls F)(hl:ls.Pairwise (·<·)):2*F.flatten.length<=ls.length*2^ls.length:=by
 rw[<- qdT,List.length_flatten]
 have:=qi2 List.length (l:=F) (m:=zl ls) h.vf.nodup λ p hp=>zO.mpr (h.sub hl p hp)
 omega
theorem qeU(h:n<=m):n*2^n<=m*2^m:=Nat.mul_le_mul h (Ys (by decide) h)
theorem Ok9.le(o:Ok9 ls)(h:On ls F):F.length<=512:=by
 have h1:=h.len o.rise;have h2:2^ls.length<=2^9:=Ys (by decide) o.len;omega
theorem Ok9.flat(o:Ok9 ls)(h:On ls F):F.flatten.length<=2304:=by
 have h1:=h.flat2 o.rise;have h2:=qeU o.len
 have:9*2^9=4608:=by decide
 omega
theorem qpF(hl:ls.Pairwise (·<·))(h8:ls.length<=8)(h:On ls F):F.flatten.length<=1024:=by
 have h1:=h.flat2 hl;have h2:=qeU h8
 have:8*2^8=2048:=by decide
 omega
theorem qjV{ls:List Nat}(h:ls.Pairwise (·<·))(c:Nat):(ls.filter λ d=>decide (d≠c)).Pairwise (·<·):=h.filter _
theorem qle{ls:List Nat}(hc:c∈ls):(ls.filter λ d=>decide (d≠c)).length<ls.length:=by
 refine List.length_filter_lt_length_iff_exists.mpr ⟨c,hc,by simp⟩
theorem qg1(h:On ls F)(c:Nat)(b:Bool):On (ls.filter λ d=>decide (d≠c)) (fixed F c b):=⟨yW F c b,λ p hp d hd=>by
 obtain⟨uI,q,hq,eZ⟩:=qeS p hp d hd;exact U2.mpr ⟨h.mem q hq d eZ,by simpa using uI⟩⟩
theorem Ok9.flatFix(o:Ok9 ls)(h:On ls F)(hc:c∈ls)(b:Bool):(fixed F c b).flatten.length<=1024:=
 qpF (qjV o.rise c) (by have:=qle hc;have:=o.len;omega) (qg1 h c b)
noncomputable def zo(F G:List Pr):List Pr:=F.flatMap λ p=>G.map λ q=>uni p q
end Fs
namespace L2
open PySem PySem.Spec PyProof.Rows
section
variable {X:Cx}
abbrev rAS:R2:=λ x y H Q=>∃ i j,x=.str i/\y=.str j/\i.length+j.length<=sizeLine/\Q (.str (i++j)) H
theorem qP:OpR X (binaryOp .Add) rAS:=qdc
end
end L2
namespace L2
open PySem PySem.Spec PyProof.Rows PySem.StrLaws PySem.Builtin PySem.Builtin.Str
theorem qlf(z:Str)(c:Nat):∀(m k:Nat)(st:Array Nat×Nat),1<=st.1.size->(forIn (List.range' k m) st (occBody z ⟨#[c]⟩ z.length 1)).run.fst.toList=st.1.toList:=by
 intro m;induction m with
 |zero=>intro k st h;rfl
 |succ m ih =>
  intro k st h;rw[List.range'_succ,List.forIn_cons];unfold occBody;rw[V0 (λ q=>by have:st.1.size<1:=q.1.1.1;omega)];exact ih (k+1) (st.1,st.2) h
theorem qjW(z:Str)(c:Nat):∀(m k:Nat)(st:Array Nat×Nat),st.2<=k->st.1.toList=[]->(forIn (List.range' k m) st (occBody z ⟨#[c]⟩ z.length 1)).run.fst.toList=(qfR c k ((cs z).drop k |>.take m)).take 1:=by
 intro m;induction m with
 |zero=>intro k st h1 h2;rw[J4];exact h2
 |succ m ih =>
  intro k st h1 h2;have hz:st.1.size=0:=by rw[<- Yv,h2];rfl
  rw[List.range'_succ,List.forIn_cons];unfold occBody;by_cases e:(cs z)[k]?=some c
  ·obtain⟨c1,c2⟩:=(subAt_one z c k).mpr e;rw[Vz ⟨⟨⟨by omega,h1⟩,c1⟩,c2⟩]
   have:=qlf z c m (k+1) (st.1.push k,k+1) (by rw[Array.size_push];omega)
   refine Eq.trans this ?_;rw[Z1,h2];obtain⟨c9,ek⟩:=Xn.mp e;rw[Xt c9,List.take_succ_cons,ek];show _=List.take 1 (if c=c then _ else _)
   rw[Vz rfl];rfl
  ·rw[V0 (λ q=>e ((subAt_one z c k).mp ⟨q.1.2,q.2⟩))]
   have:=ih (k+1) (st.1,st.2) (Z6 h1) h2
   refine Eq.trans this ?_;congr 1
   by_cases c9:k<(cs z).length
   ·rw[Xt c9,List.take_succ_cons];show _=(if (cs z)[k]=c then _ else _)
    rw[V0 (λ q=>e (by rw[Xy c9,q]))]
   ·rw[XM (by omega),XM (by omega)];simp[qfR]
theorem qm4(z:Str)(c:Nat):occurrences z ⟨#[c]⟩ 0 z.length 1=(qfR c 0 (cs z)).take 1:=by
 rw[occ_eq,qjW z c _ 0 (#[],0) (Q9 _) rfl,J0];congr 2
 exact XL (by simp[Str.length])
theorem qg2(c:Nat):∀(w r:List Nat)(k:Nat),c∉w->qfR c k (w++c::r)=(k+w.length)::qfR c (k+w.length+1) r
 | [],r,k,_=>by show(if c=c then _ else _)=_;rw[Vz rfl];rfl
 |x::w,r,k,h=>by
  have hx:¬ x=c:=λ e=>h (by rw[e];exact Zb ..)
  show(if x=c then _ else qfR c (k+1) (w++c::r))=_
  rw[V0 hx,qg2 c w r (k+1) (λ hm=>h (Yj _ hm))];simp[Ql,Nat.add_comm 1]
theorem qcf(l:List Nat)(i j:Nat):strSub (qj l) i j=qj ((l.drop i).take (j-i)):=by
 show(⟨(l.toArray).extract i j⟩:Str)=⟨((l.drop i).take (j-i)).toArray⟩
 congr 1
 apply Array.toList_inj.mp
 simp[List.extract_eq_drop_take]
section
variable {X:Cx}
def qpG:V->List V->Hp->VK->Prop:=λ x vs H Q=>∃(w r:List Nat)(c:Nat),x=vS (w++c::r)/\vs=[vS [c]]/\c∉w/\w.length+r.length<=60000/\∀ p,H p=none->Q (.ref p) (upd H p (.tup [vS w,vS [c],vS r]))
theorem qm5:MtR X "str.partition" qpG:=by
 intro pins s σ H x vs v us Q I rx rv h;obtain⟨w,r,c,rfl,rfl,hc,hz,q⟩:=h;obtain⟨t,rfl⟩:=rx;obtain⟨u,rfl,ru⟩:=yk rv;obtain⟨tu,rfl⟩:=ru;have hl:(qj (w++c::r)).length=w.length+(r.length+1):=by rw[qy,Ze,Uj]
 refine Vl PySem.F.slot_str_partition (Vk _ _ _) PySem.F.entry_str_partition (PySem.F.args_str_partition_2 _ _) (meets_str_partition (qj (w++c::r)) (qj [c]) t tu rfl (by rw[hl];exact qz (by omega))) ?_;have ho:occurrences (qj (w++c::r)) (qj [c]) 0 (qj (w++c::r)).length 1=[w.length]:=by
  rw[show qj [c]=(⟨#[c]⟩:Str) from rfl,qm4];show(qfR c 0 (w++c::r)).take 1=_
  rw[qg2 c w r 0 hc];simp
 rw[ho];have hf:=I.hok.fresh (Q9 s.heap.objs.size);have e1:strSub (qj (w++c::r)) 0 w.length=qj w:=by rw[qcf];simp
 have e2:strSub (qj (w++c::r)) (w.length+(qj [c]).length) (qj (w++c::r)).length=qj r:=by
  rw[qcf,hl,qy,XW]
  have:(w++c::r).drop (w.length+1)=r:=by rw[show w++c::r=(w++[c])++r by simp,Xc (by simp)];simp
  rw[this,XL (by omega)]
 dsimp only;rw[e1,e2];refine⟨.ref s.heap.objs.size,_,I.laid (a:=s.heap.objs.size) (o:=.tup [vS w,vS [c],vS r]) (t':=s.toks+1+1) (λ _ _ h=>XG _ h) (Q9 _) ⟨qz (by show 3<=_;decide),_,.cons ⟨_,rfl⟩ (.cons ⟨_,rfl⟩ (.cons ⟨_,rfl⟩ .nil)),⟨_,Yw _ rfl,rfl,_,rfl⟩⟩,rfl,q _ hf⟩
def qoH:V->List V->Hp->VK->Prop:=λ x vs H Q=>∃(i j:Nat)(w:List Nat),x=vS (List.replicate i 32++w++List.replicate j 32)/\vs=[vS [32]]/\w≠[]/\32∉w/\i+w.length+j<=60000/\Q (vS w) H
theorem qg3(n:Nat)(l:List Nat)(h:∀ x,l.head?=some x->¬ x=32):((List.replicate n 32++l).takeWhile λ c=>(#[32]:Array Nat).contains c).length=n:=by
 induction n with
 |zero =>
  cases l with
  |nil=>rfl
  |cons x l =>
   have:¬ x=32:=h x rfl
   have e:(#[32]:Array Nat).contains x=false:=by simp[this]
   rw[List.replicate_zero,Jb,List.takeWhile_cons,e];rfl
 |succ n ih =>
  rw[Yy,Uv,List.takeWhile_cons];have e:(#[32]:Array Nat).contains 32=true:=by simp
  rw[e,Vz rfl,Uj,ih]
theorem qlg(i j:Nat)(w:List Nat)(hw:w≠[])(h:32∉w):Txt.stripChars (qj (List.replicate i 32++w++List.replicate j 32)) (qj [32])=qj w:=by
 have lo:stripLo (#[32]:Array Nat).contains true (qj (List.replicate i 32++w++List.replicate j 32))=i:=by
  unfold stripLo;rw[Vz rfl];show(((List.replicate i 32++w++List.replicate j 32)).takeWhile _).length=i
  rw[Zx];refine qg3 i _ λ x hx=>?_
  cases w with
  |nil=>exact absurd rfl hw
  |cons a w=>simp at hx;subst hx;exact λ e=>h (by rw[e];exact Zb ..)
 have hl:(qj (List.replicate i 32++w++List.replicate j 32)).length=i+w.length+j:=by rw[qy];simp[Ql]
 have hi:stripHi (#[32]:Array Nat).contains true (qj (List.replicate i 32++w++List.replicate j 32)) i=i+w.length:=by
  unfold stripHi;rw[Vz rfl,hl];show i+w.length+j-((((List.replicate i 32++w++List.replicate j 32)).drop i).reverse.takeWhile _).length=_
  have e:((List.replicate i 32++w++List.replicate j 32)).drop i=w++List.replicate j 32:=by
   rw[Zx,Xc (by simp)];simp
  rw[e,Y4,List.reverse_replicate,qg3 j _ λ x hx=>λ e2=>?_]
  ·omega
  ·subst e2
   have:32∈w.reverse:=List.mem_of_mem_head? hx
   exact h (List.mem_reverse.mp this)
 have st:stripped (#[32]:Array Nat).contains true true (qj (List.replicate i 32++w++List.replicate j 32))=qj w:=by
  unfold stripped;rw[lo,hi,qcf];have e:((List.replicate i 32++w++List.replicate j 32)).drop i=w++List.replicate j 32:=by
   rw[Zx,Xc (by simp)];simp
  rw[e,show i+w.length-i=w.length by omega];simp
 show Txt.stripBy (#[32]:Array Nat).contains true true _=_
 unfold Txt.stripBy;split
 ·rename_i hs;unfold stripSame at hs;rw[lo,hi,hl] at hs;have hs:i=0/\i+w.length=i+w.length+j:=by simpa using hs
  obtain⟨h1,h2⟩:=hs;have hj:j=0:=by omega
  subst h1 hj;simp
 ·exact st
theorem qg4:MtR X "str.strip" qoH:=by
 intro pins s σ H x vs v us Q I rx rv h;obtain⟨i,j,w,rfl,rfl,hw,hn,hz,q⟩:=h;obtain⟨t,rfl⟩:=rx;obtain⟨u,rfl,ru⟩:=yk rv;obtain⟨tu,rfl⟩:=ru;have hl:(qj (List.replicate i 32++w++List.replicate j 32)).length=i+w.length+j:=by rw[qy];simp[Ql]
 refine SC.stripChars (y:=qj [32]) (λ t' k=>?_) (by rw[hl];exact qz (by omega));rw[qlg i j w hw hn];exact⟨vS w,H,I.tok k,⟨_,rfl⟩,q⟩
end
end L2
namespace Fs
theorem qlh(hM:M<2^k)(hN:N<2^k):M &&& (2^k+N)=M &&& N:=by
 apply Nat.eq_of_testBit_eq
 intro i;rw[Ji,Ji];by_cases h:i<k
 ·rw[Xl h]
 ·have:M.testBit i=false:=XN (Za hM (Ys (by decide) (Nat.le_of_not_lt h)))
  rw[this];rfl
theorem qjX(hM:M<2^k)(hN:N<2^k):(2^k+M) &&& (2^k+N)=2^k+(M &&& N):=by
 have hMN:M &&& N<2^k:=Zf Nat.and_le_left hM;apply Nat.eq_of_testBit_eq
 intro i;rw[Ji];rcases Nat.lt_trichotomy i k with h|h|h
 ·rw[Xl h,Xl h,Xl h,Ji]
 ·subst h;rw[Xm,Xm,Xm,XN hM,XN hN,XN hMN];rfl
 ·have up:∀ x,x<2^k->(2^k+x).testBit i=false:=λ x hx=>XN (by
   have:2^(k+1)<=2^i:=Ys (by decide) h
   rw[Qy] at this;omega)
  rw[up _ hM,up _ hMN];rfl
noncomputable def prt(N M:Nat):Bool:=(M &&& N) == M
theorem qoI(h:prt N M=true):M<=N:=by
 have e:M &&& N=M:=by simpa [prt] using h
 rw[<- e];exact Nat.and_le_right
noncomputable def kr(l:List Bool):Bool:=l.foldl (λ a b=>xor a b) false
theorem qg5(l:List Bool)(a:Bool):l.foldl (λ a b=>xor a b) a=xor a (kr l):=by
 induction l generalizing a with
 |nil=>simp[kr]
 |cons x l ih=>unfold kr;rw[Ja,Ja,ih,ih (xor false x)];cases a <;> cases x <;> simp
theorem qab(l m:List Bool):kr (l++m)=xor (kr l) (kr m):=by unfold kr;rw[Z5,qg5];rfl
theorem qjY(h:∀ b∈l,b=false):kr l=false:=by
 induction l with
 |nil=>rfl
 |cons x l ih =>
  unfold kr;rw[Ja,qg5,h x (Zb ..),ih λ b hb=>h b (Yj _ hb)];rfl
noncomputable def vJ(t:List Bool)(N:Nat):Bool:=kr ((List.range (N+1)).map λ M=>prt N M && t.getD M false)
theorem qli(t:List Bool)(h:N<K):kr ((List.range K).map λ M=>prt N M && t.getD M false)=vJ t N:=by
 obtain⟨d,rfl⟩:∃ d,K=N+1+d:=⟨K-(N+1),by omega⟩;rw[List.range_add,Jd,qab,qjY (l:=List.map _ (List.map _ _)) λ b hb=>?_]
 ·unfold vJ;simp
 ·rw[Q1] at hb;obtain⟨j,_,rfl⟩:=Qz.mp hb;show(prt N (N+1+j) && _)=false
  have:prt N (N+1+j)=false:=by
   cases e:prt N (N+1+j) with
   |false=>rfl
   |true=>have:=qoI e;omega
  rw[this];rfl
theorem qlj(hl:cN.length=2^k)(hN:N<2^k):vJ (cN++W7) N=vJ cN N:=by
 unfold vJ;congr 1
 refine Y6 λ M hM=>?_
 have:M<cN.length:=by have:=Ju.mp hM;omega
 rw[Xj,Xj,Xo this]
theorem qjZ(hl:cN.length=2^k)(hN:N<2^k):vJ (cN++W7) (2^k+N)=xor (vJ cN N) (vJ W7 N):=by
 have e:vJ (cN++W7) (2^k+N)=kr ((List.range (2^k+(N+1))).map λ M=>prt (2^k+N) M && (cN++W7).getD M false):=by unfold vJ;rw[Ql]
 rw[e,List.range_add,Jd,qab];congr 1
 ·rw[<- qli cN hN];congr 1
  refine Y6 λ M hM=>?_
  have hM:M<2^k:=Ju.mp hM;have e1:prt (2^k+N) M=prt N M:=by unfold prt;rw[qlh hM hN]
  rw[e1,Xj,Xj,Xo (by omega)]
 ·unfold vJ;rw[Q1];congr 1
  refine Y6 λ M hM=>?_
  have hM':M<2^k:=by have:=Ju.mp hM;omega
  show(prt (2^k+N) (2^k+M) && (cN++W7).getD (2^k+M) false)=_
  have e1:prt (2^k+N) (2^k+M)=prt N M:=by
   unfold prt;rw[qjX hM' hN];rw[U4,Vj,Vj];omega
  rw[e1,Xj,Xj,Xh (by omega),hl,XC]
theorem qcY:∀(n:Nat)(t:List Bool),t.length=2^n->∀ N,N<2^n->(zn n t)[N]?=some (vJ t N)
 |0,t,h,N,hN=>by
  have e:N=0:=by simpa using hN
  subst e
  match t,h with
  | [b],_=>cases b <;> rfl
 |n+1,t,h,N,hN=>by
  have hp:2^(n+1)=2^n+2^n:=by rw[Qy];omega
  have h1:(t.take (2^n)).length=2^n:=by rw[Ul];omega
  have h2:(t.drop (2^n)).length=2^n:=by rw[Um];omega
  have l1:=qW n _ h1;have et:t=t.take (2^n)++t.drop (2^n):=(XZ _ _).symm;rw[zn];by_cases c9:N<2^n
  ·rw[Xo (by omega),qcY n _ h1 N c9]
   conv=>rhs;rw[et,qlj h1 c9]
  ·obtain⟨N',rfl⟩:∃ N',N=2^n+N':=⟨N-2^n,by omega⟩;have uQ:N'<2^n:=by omega
   rw[Xh (by omega),l1,XC,Yc,qcY n _ h1 N' uQ,qcY n _ h2 N' uQ]
   conv=>rhs;rw[et,qjZ h1 uQ]
end Fs
namespace Fs
noncomputable def qI(n N:Nat):List Bool:=(List.range n).map λ k=>decide (N / 2^(n-1-k) % 2=1)
theorem zP(n N:Nat):(qI n N).length=n:=by unfold qI;rw[U5,Z4]
theorem qg6(h:k<n):(qI n N)[k]?=some (decide (N / 2^(n-1-k) % 2=1)):=by
 unfold qI;rw[Zt,Y7 h];rfl
theorem qa9(n N:Nat):qI (n+1) N=decide (N / 2^n % 2=1)::qI n N:=by
 unfold qI;rw[List.range_succ_eq_map,Qe,Q1];congr 1
 refine Y6 λ k hk=>?_
 show decide (N / 2^(n+1-1-(k+1)) % 2=1)=_
 rw[show n+1-1-(k+1)=n-1-k by omega]
theorem qcg(n N:Nat):qI n (N % 2^n)=qI n N:=by
 unfold qI;refine Y6 λ k hk=>?_
 have hk:=Ju.mp hk;rw[<- Nat.testBit_eq_decide_div_mod_eq,<- Nat.testBit_eq_decide_div_mod_eq,Nat.testBit_mod_two_pow,J8 (show n-1-k<n by omega)];rfl
noncomputable def asg(ls:List Nat)(r:List Bool)(c:Nat):Bool:=(((ls.zip r).find? λ x=>decide (x.1=c)).map (·.2)).getD false
theorem qac(c:Nat)(ls:List Nat)(b:Bool)(r:List Bool):asg (c::ls) (b::r) c=b:=by unfold asg;rw[Zi,U9];simp
theorem j5(ls:List Nat)(b:Bool)(r:List Bool)(h:¬ c=d):asg (c::ls) (b::r) d=asg ls r d:=by
 unfold asg;rw[Zi,U9,show decide ((c,b).1=d)=false from Jm h]
theorem qdU(ρ:Nat->Bool):∀{ls:List Nat},ls.Nodup->∀ c∈ls,asg ls (qI ls.length (zX ρ 0 ls)) c=ρ c
 | [],_,c,h=>by simp at h
 |d::ls,nd,c,hc=>by
  have B9:=U7.mp nd;have c9:=je ρ ls;have hM:zX ρ 0 (d::ls)=(if ρ d then 1 else 0)*2^ls.length+zX ρ 0 ls:=by rw[zX,j4];simp
  have hp:0<2^ls.length:=Jj _;have e1:zX ρ 0 (d::ls) / 2^ls.length=if ρ d then 1 else 0:=by
   rw[hM,Qx,Nat.mul_add_div hp,Nat.div_eq_of_lt c9,Nat.add_zero]
  have e2:zX ρ 0 (d::ls) % 2^ls.length=zX ρ 0 ls:=by
   rw[hM,Qx,Nat.mul_add_mod,Nat.mod_eq_of_lt c9]
  rw[Uj,qa9,e1,<- qcg,e2];by_cases h:d=c
  ·subst h;rw[qac];cases ρ d <;> rfl
  ·rw[j5 _ _ _ h];have N3:c∈ls:=by
    rcases Qd.mp hc with e|e
    ·exact absurd e.symm h
    ·exact e
   exact qdU ρ B9.2 c N3
theorem qeV:∀{ls:List Nat},ls.Nodup->∀{N:Nat},N<2^ls.length->zX (asg ls (qI ls.length N)) 0 ls=N
 | [],_,N,h=>by
  have e:N=0:=by simpa using h
  rw[e];rfl
 |d::ls,nd,N,h=>by
  have B9:=U7.mp nd;have hp:0<2^ls.length:=Jj _;rw[Uj,qa9,zX,j4,qac,qdN (τ:=asg ls (qI ls.length (N % 2^ls.length))),qeV B9.2 (Nat.mod_lt _ hp)]
  ·have hd:N / 2^ls.length<2:=by
    rw[Uj,Qy,Qx] at h;exact Nat.div_lt_of_lt_mul (by rw[Qx];exact h)
   have:=Nat.div_add_mod N (2^ls.length)
   generalize hq:N / 2^ls.length=q at this hd ⊢;generalize 2^ls.length=P at *;rcases(show q=0∨q=1 by omega) with e|e
   ·subst e;simpa using this
   ·subst e;simpa using this
  ·intro c hc;rw[j5 _ _ _ (λ(e:d=c)=>B9.1 (e ▸ hc)),qcg]
noncomputable def sel(ls:List Nat)(N:Nat):Pr:=ls.filter (asg ls (qI ls.length N))
theorem qlk(nd:(d::ls).Nodup)(N:Nat):sel (d::ls) N=if N / 2^ls.length % 2=1 then d::sel ls (N % 2^ls.length) else sel ls (N % 2^ls.length):=by
 have B9:=U7.mp nd;unfold sel;rw[Uj,qa9,qcg];have e:ls.filter (asg (d::ls) (decide (N / 2^ls.length % 2=1)::qI ls.length N))=ls.filter (asg ls (qI ls.length N)):=
  List.filter_congr λ c hc=>j5 _ _ _ λ e=>B9.1 (e ▸ hc)
 rw[Uw,qac,e];by_cases h:N / 2^ls.length % 2=1
 ·rw[Vz h,J8 h,Vz rfl]
 ·rw[V0 h,Jm h,V0 (by decide)]
theorem qdV:∀{ls:List Nat},ls.Nodup->∀{N:Nat},N<2^ls.length->(zl ls)[N]?=some (sel ls N)
 | [],_,N,h=>by
  have e:N=0:=by simpa using h
  rw[e];rfl
 |d::ls,nd,N,h=>by
  have B9:=U7.mp nd;have hp:0<2^ls.length:=Jj _;rw[Uj,Qy] at h;rw[zl,qlk nd];by_cases c9:N<2^ls.length
  ·rw[Xo (by rw[qO];exact c9),Nat.div_eq_of_lt c9,Nat.mod_eq_of_lt c9,V0 (by decide),qdV B9.2 c9]
  ·have e1:N / 2^ls.length=1:=by
    rw[Nat.div_eq_iff hp];omega
   have e2:N % 2^ls.length=N-2^ls.length:=by
    rw[Nat.mod_eq_sub_mod (by omega),Nat.mod_eq_of_lt (by omega)]
   rw[Xh (by rw[qO];omega),qO,Zt,qdV B9.2 (N:=N-2^ls.length) (by omega),e1,e2,Vz rfl];rfl
noncomputable def qaR(ls:List Nat)(t:List Bool)(i:Nat):List Pr:=(List.range i).filterMap λ N=>if vJ t N=true then some (sel ls N) else none
theorem qdW(ls:List Nat)(t:List Bool)(i:Nat):qaR ls t (i+1)=qaR ls t i++(if vJ t i=true then [sel ls i] else []):=by
 unfold qaR;rw[Jf,Ya];congr 1
 by_cases h:vJ t i=true
 ·simp[h]
 ·simp[h]
theorem qeW(ls:List Nat)(t:List Bool)(i:Nat):(qaR ls t i).length<=i:=by
 have:=List.length_filterMap_le (λ N=>if vJ t N=true then some (sel ls N) else none) (List.range i)
 rw[Z4] at this;exact this
theorem qeX(nd:ls.Nodup)(ht:t.length=2^ls.length):qaR ls t (2^ls.length)=yi ls (zn ls.length t):=by
 have e:(zl ls).zip (zn ls.length t)=(List.range (2^ls.length)).map λ N=>(sel ls N,vJ t N):=by
  refine List.ext_getElem? λ N=>?_
  rw[Zt];by_cases h:N<2^ls.length
  ·have e1:((zl ls).zip (zn ls.length t))[N]?=some (sel ls N,vJ t N):=List.getElem?_zip_eq_some.mpr ⟨qdV nd h,qcY _ _ ht N h⟩;rw[Y7 h,e1];rfl
  ·rw[Yb (by rw[Jk,qO];omega),Yb (by rw[Z4];omega)];rfl
 unfold yi qaR;rw[e,Zh];rfl
theorem qll(l:List Bool)(b:Bool):kr (l++[b])=xor (kr l) b:=by rw[qab];congr 1;cases b <;> rfl
theorem qj0(hl:ls.Pairwise (·<·))(ht:t.length=2^ls.length)(h:N<2^ls.length):qt (asg ls (qI ls.length N)) (yj ls t)=t.getD N false:=by
 rw[yu _ ht,yV _ ls t ht,qeV (zc Qc hl) h]
end Fs
namespace Fs
open PySem L2
theorem qQ{F G:α->β->Prop}(h:∀ a b,F a b->G a b):∀{xs:List α}{ys:List β},Paired F xs ys->Paired G xs ys
 |_,_,.nil=>.nil
 |_,_,.cons r t=>.cons (h _ _ r) (qQ h t)
theorem ze:∀{xs:List α}{l:List β},Paired F xs l->∀(k:Nat)(a:α),xs[k]?=some a->∃ b,l[k]?=some b/\F a b
 |_,_,.nil,k,a,h=>by simp at h
 |_,_,.cons r t,0,a,h=>by simp at h;subst h;exact⟨_,rfl,r⟩
 |_,_,.cons r t,k+1,a,h=>ze t k a (by simpa using h)
theorem qbW(n:Nat):ixN (n+1) (-1)=some n:=by
 unfold ixN;rw[V0 (by decide),Vz (by omega)];congr 1;omega
def qpH(K:W.Frag):List V->Hp->VK->Prop:=λ xs H Q=>∃(p:Addr)(bs:List Bool),xs=[V.ref p]/\SqL K H p (bs.map V.bl)/\Q (.bl (bs.all id)) H
def qnS(K:W.Frag):List V->Hp->VK->Prop:=λ xs H Q=>∃ p ys,xs=[.ref p]/\(SqL K H p ys∨SqT K H p ys)/\Q (.int ys.length) H
theorem qm6(M N:Nat):Builtin.bitAnd (M:Int) (N:Int)=((M &&& N:Nat):Int):=by
 unfold Builtin.bitAnd;rw[J8 (Zd M),J8 (Zd N)];rfl
theorem qpI(p:List Nat):decide (vS p=vS p)=true:=J8 rfl
theorem qg7 {ls:List Nat}(hl:ls.Pairwise (·<·))(hp:p.Pairwise (·<·))(h:∀ c∈p,c∈ls):(ls.filter λ c=>decide (c∈p))=p:=
 kH Qc (λ a b h=>Nat.lt_asymm h) (hl.filter _) hp λ c=>by
  rw[U2];exact⟨λ h=>Ui h.2,λ hc=>⟨h c hc,J8 hc⟩⟩
theorem qad{α:Type}{l:List α}{f:α->Bool}(hi:i<l.length):(l.take (i+1)).filter f=(l.take i).filter f++(if f l[i]=true then [l[i]] else []):=by
 rw[Xa hi,List.filter_append];congr 1
 rw[Uw];rfl
theorem qba(ls:List Nat):(ls.map λ c=>vS [c])=(ls.map λ c=>[c]).map vS:=by rw[Q1];rfl
end Fs
namespace L2
open PySem PySem.Spec PyProof.Rows
noncomputable def qlm(a:Addr)(o:Obj)(kvs:List (Key×V)):It2:=
 ⟨λ i H=>H a=some (.frz o (.dK kvs))/\i<kvs.length,λ i H xs H'=>H'=H/\∃ k v,kvs[i]?=some (k,v)/\xs=[kV k,v],λ i H=>H a=some (.frz o (.dK kvs))/\kvs.length<=i⟩
def qoJ(it a:Addr)(n ep:Nat)(i:Nat)(h:Heap):Prop:=∃ ok ov,IsItemIter h it a i n ep ok ov
theorem qh6{K:W.Frag}{pos:Pos}(a it:Addr)(o:Obj)(kvs:List (Key×V))(vs:List (Key×Value))(ep:Nat)(r:KV kvs vs)(hd:∀ h:Heap,h.get? a=some o->h.DictAt (qw P w) a vs ep):
  Turn2 P w K (.Tuple es k pos) (qlm a o kvs) [it] it (qoJ it a vs.length ep) where
 obj:=λ i h st b hb=>by
  obtain⟨ok,ov,he⟩:=st;have e:b=it:=by simpa using hb
  subst e;exact⟨_,he,λ v q=>by cases q⟩
 keep:=λ i h h' st k=>by
  obtain⟨ok,ov,he⟩:=st;exact⟨ok,ov,k it (by simp) _ he⟩
 item:=by
  intro X hP hw hK hc i pins s σ H E I hf st hg;subst hP hw hK;obtain⟨hq,hi⟩:=hg;have ho:s.heap.get? a=some o:=(I.hok a _ hq).1;obtain⟨f0,f1,f2,f3,f4,f5⟩:=hf it (by simp);have hx:kvs[i]?=some kvs[i]:=Xy hi;obtain⟨q,eL,rk⟩:=qbP r i kvs[i] hx;obtain⟨k,v⟩:=q;obtain⟨ok,ov,he⟩:=st;refine wpAny_pyNext_items_item he (hd _ ho) eL λ key h' K8 cR ht hsz hk=>?_
  refine⟨s.heap.objs.size,rfl,wpAny_letOwnedTupleGo_items cR λ h2 uF w4=>?_⟩;replace w4:Heap.SameBut it h' h2:=w4;have eY:it<s.heap.objs.size:=Qs he;have I1:Inv X pins σ H { s with heap:=h2 }:=I.turned (t':=s.toks) (λ b o hb e=>w4.extBut b o hb (hk b o hb e)) f0 f1 f3 f4 f5;have ek:kvs[i].1=k:=rk.1;exact⟨[kV k,kvs[i].2],[key,v],H,I1,⟨_,(w4.extBut _ _ (Qw eY) ht),rfl,_,rfl⟩,.cons (qmT K8) (.cons rk.2 .nil),⟨rfl,k,kvs[i].2,by rw[hx,<- ek],rfl⟩,⟨_,_,uF⟩,λ b hb=>(hf b hb).1⟩
 done:=by
  intro X hP hw hK hc i pins s σ H E I hf st hg;subst hP hw hK;obtain⟨hq,hi⟩:=hg;have ho:s.heap.get? a=some o:=(I.hok a _ hq).1;have lv:kvs.length=vs.length:=PySem.Paired.length r;obtain⟨f0,f1,f2,f3,f4,f5⟩:=hf it (by simp);obtain⟨ok,ov,he⟩:=st;exact wpAny_pyNext_items_end (I.ok.hd hc) he (hd _ ho) (Yb (by omega)) λ h' eb=>⟨rfl,I.turned (t':=s.toks) (λ b o hb e=>eb b o hb e) f0 f1 f3 f4 f5⟩
 self:=λ A i s Q E st h=>by
  obtain⟨ok,ov,he⟩:=st;exact W.kcp_self he h
section
variable {X:Cx}{tg:Expr}
def qoK(tl:TE):TI2:=λ σ H R=>tl σ H λ x H1=>∃ a kvs,x=.ref a/\H1 a=some (.dK kvs)/\∀ o,R (qlm a o kvs) (upd H1 a (.frz o (.dK kvs)))
theorem qln(ho:PE X o to)(S6:attributeBase o "items" X.env (eval o X.env)=eval o X.env:=by rfl)(S3:(apos.endLine == cpos.line)=true:=by rfl):PI2 X (.Tuple es k x8) (.Call (.Attribute o "items" apos) [] [] cpos) (qoK to):=by
 intro pins s σ H R I h;refine wpAny_Call_method0_late S6 S3 (thn (ho pins s σ H _ I h) λ v s1 ⟨x,H1,I1,r1,q1⟩=>?_);obtain⟨d,kvs,rfl,hd,q⟩:=q1;cases r1
 obtain⟨z,y,vs,r,ob,es,ep,nG,rest⟩:=(show zI X.prog X.w H1 s1.heap d (.dK kvs) from I1.hok d _ hd);have dd:s1.heap.DictOf (qw X.prog X.w) d vs:=⟨ob,es,ep,nG,rest⟩;have hdA:∀ h:Heap,h.get? d=some ob->h.DictAt (qw X.prog X.w) d vs ep:=λ h e=>⟨ob,es,e,rest⟩
 obtain⟨h1,h2⟩:=qhM (T:="dict") I1 (x:=.ref d) (v:=.ref d) rfl (.inr (.inr (.inl ⟨rfl,.inl ⟨kvs,hd⟩⟩)));refine⟨"dict","dict.items",X6,PySem.F.slot_dict_items,PySem.F.type_dict_items,h1,h2,XH rfl (PySem.evalArgs_none ?_)⟩;refine call_meetsIn PySem.F.slot_dict_items dd.typeIs PySem.F.entry_dict_items (PySem.F.args_dict_items_1 _) (meets_dict_items (qw X.prog X.w) d y) ⟨⟨vs,dd⟩,?_⟩;refine wpAny_pyIter_items (knd:=qw X.prog X.w) (kvs:=vs) (ep:=ep) (d:=d) (s:={ s1 with heap:=s1.heap.push { cls:=.type "dict_items",data:=.fields #[.ref d] } }) ⟨_,Yw _ rfl,rfl,rfl⟩ (hdA _ (XG _ nG)) ?_;have I2:Inv X pins σ (upd H1 d (.frz ob (.dK kvs))) s1:=I1.swap hd (λ _ z=>by cases z) (λ _ z=>by cases z) (λ _ z=>by cases z) (I1.nofrz hd λ _ _ z=>by cases z) ⟨nG,z,y,vs,r,ob,es,ep,nG,rest⟩;have I3:Inv X pins σ (upd H1 d (.frz ob (.dK kvs))) { s1 with heap:=s1.heap.push { cls:=.type "dict_items",data:=.fields #[.ref d] } }:=I2.kept (t':=s1.toks) λ b o e=>XG _ e
 refine⟨(s1.heap.push { cls:=.type "dict_items",data:=.fields #[.ref d] }).objs.size,[(s1.heap.push { cls:=.type "dict_items",data:=.fields #[.ref d] }).objs.size],_,_,upd H1 d (.frz ob (.dK kvs)),rfl,I3.kept (t':=s1.toks) λ b o e=>XG _ e,qh6 d _ ob kvs vs ep r hdA,⟨_,_,Yw _ rfl⟩,λ b hb=>?_,q ob⟩;have e:b=(s1.heap.push { cls:=.type "dict_items",data:=.fields #[.ref d] }).objs.size:=by simpa using hb
 subst e;exact I3.fpOk (Q9 _) (I3.hok.fresh (Q9 _))
end
theorem qoL{t:TGs}{tb:TS}{D:Ends}(Pv:Nat->St->Hp->Prop)(h0:Pv 0 σ H)(hl:∀ i σ H,i<=kvs.length->Pv i σ H->H a=some (.frz ob (.dK kvs)))(hs:∀ i k v σ H,kvs[i]?=some (k,v)->Pv i σ H->t [kV k,v] σ H λ σ2 H2=>tb { D with nx:=Pv (i+1),ct:=Pv (i+1),bk:=D.nx } σ2 H2)(hd:∀ σ H,Pv kvs.length σ H->D.nx σ H):
  ∃ W:Nat->Nat->St->Hp->Prop,(∃ m,W 0 m σ H)/\∀ i m σ H,W i m σ H ->
   ((qlm a ob kvs).stop i H/\D.nx σ H)∨((qlm a ob kvs).go i H/\∃ N:St->Hp->Prop,(∀ σ' H',N σ' H'->∃ m',m'<m/\W (i+1) m' σ' H')/\∀ zs H',(qlm a ob kvs).yld i H zs H'->zs.length=2/\t zs σ H' λ σ2 H2=>tb { D with nx:=N,ct:=N,bk:=D.nx } σ2 H2):=by
 refine⟨λ i m σ H=>m=kvs.length-i/\i<=kvs.length/\Pv i σ H,⟨kvs.length,by simp,Va _,h0⟩,?_⟩;rintro i m σ H ⟨rfl,hi,p⟩;have q:=hl i σ H hi p;by_cases c9:i<kvs.length
 ·refine .inr ⟨⟨q,c9⟩,Pv (i+1),λ σ' H' p'=>⟨kvs.length-(i+1),by omega,rfl,c9,p'⟩,λ zs H' y=>?_⟩;obtain⟨e,k,v,hk,ex⟩:=y;subst e ex;exact⟨rfl,hs i k v σ _ hk p⟩
 ·have e:i=kvs.length:=by omega
  subst e;exact .inl ⟨⟨q,Q9 _⟩,hd σ H p⟩
section
variable {X:Cx}
theorem qj1:MtR X "dict.update" (λ x vs H Q=>∃ d o kvs more,x=.ref d/\vs=[.ref o]/\H d=some (.dK kvs)/\H o=some (.dK more)/\d≠o/\kvs.length+more.length<=sizeLine/\Q .non (upd H d (.dK (qN kvs more)))):=by
 intro pins s σ H x vs v us Q I rx rv h;obtain⟨d,o,kvs,more,rfl,rfl,hd,ho,K6,hz,q⟩:=h;cases rx
 obtain⟨u,rfl,ru⟩:=yk rv;cases ru
 obtain⟨z1,s1,va,ra,da⟩:=qgq I.hok hd;obtain⟨z2,s2,vb,rb,db⟩:=qgq I.hok ho;refine call_meetsIn PySem.F.slot_dict_update da.typeIs PySem.F.entry_dict_update (PySem.F.args_dict_update_2 _ _) (meets_dict_update (qw X.prog X.w) d o K6 s2) ⟨va,vb,da,db,by rw[<- ra.length,<- rb.length];exact hz,λ h' iB _ hs=>?_⟩;have he:∃ q,h'.get? d=some q:=let ⟨q,_,_,hq,_⟩:=iB;⟨q,hq⟩;exact⟨.non,_,qcP (t':=s.toks) I (by rw[hd];exact True.intro) hs he (qdj (Qu (yI more kvs) hz) s1 (KV.merge rb ra) iB),rfl,q⟩
end
theorem qm7(I:Inv X pins σ H s)(hu:A.units<cLine) {G:List Int}(hF:SqL X.K H c (F.map V.int))(hG:SqL X.K H d (G.map V.int)):SeqAt.EqAt A s (.ref c) (.ref d) (decide (F=G)):=by
 obtain⟨iF,rF,pF,_⟩:=I.list hF;obtain⟨iG,rG,pG,_⟩:=I.list hG;have lF:=rF.length;have lG:=rG.length;rw[U5] at lF lG;by_cases W8:c=d
 ·subst W8;have e3:F=G:=by
   have:=I.list_inj hF hG
   exact Zn (λ a b e=>by injection e) |>.mp this
  rw[J8 e3];exact SeqAt.EqAt.same _
 ·refine SeqAt.EqAt.of_refs W8 ?_;by_cases hs:iF.toArray.size=iG.toArray.size
  ·have:=SeqAt.RcAt.lists (A:=A) (s:=s) (e:=qcw V.int F G) pF.isList pG.isList hs hu (λ j h1 h2=>qdx qgC rF rG j h1 h2)
   have e:=qb9 qgC F G;rw[Zu,Zu] at hs;rw[show F.length=G.length by omega,Q0,Ux,Bool.and_true] at e;rw[Zu,show iF.length=G.length by omega,e] at this;exact this
  ·have:=SeqAt.RcAt.lists_lengths (A:=A) (s:=s) pF.isList pG.isList (by simpa using hs) hu
   rw[Jm]
   ·exact this
   ·intro e;rw[Zu,Zu,<- lF,<- lG,e] at hs;exact hs rfl
def GP(w:World)(es:List DictEntry)(kvs:List (Str×Str)):Prop:=Paired (λ(e:DictEntry)(kv:Str×Str)=>∃ t t',e=⟨hashStr w kv.1,.str kv.1 t,.str kv.2 t'⟩) es kvs
def GD(K:W.Frag)(w:World)(fr:Addr)(kvs:List (Str×Str)):Prop:=
 (∃(es:List DictEntry)(n:Nat),K.lookup fr=some ⟨.type "dict",none,.dict es.toArray n,#[]⟩/\GP w es kvs)/\(kvs.map (·.1)).Nodup
theorem qg8:∀{es:List DictEntry}{kvs:List (Str×Str)},GP w es kvs->∃ vs:List (Key×Value),Pairs (qw P w) es vs/\(∀ e∈es,∃ k,(qw P w).is k e.key=true/\e.hash=(qw P w).hash k) /\
  vs.map (·.1)=kvs.map (λ kv=>(Sum.inr kv.1:Key))/\∀ k v,kvs.lookup k=some v->∃ t,valueAt vs (Sum.inr k)=some (.str v t)
 |_,_,.nil=>⟨[],.nil,by simp,rfl,by simp⟩
 |_,kv::kvs,.cons ⟨t,t',h⟩ r=>by
  obtain⟨vs,p,q,m,l⟩:=qg8 (P:=P) r;subst h;refine⟨(Sum.inr kv.1,.str kv.2 t')::vs,.cons (zm P w kv.1 t) rfl p,λ e he=>?_,by rw[Qe,Qe,m],λ k v hv=>?_⟩
  ·rcases Qd.mp he with e1 | e1
   ·subst e1;exact⟨Sum.inr kv.1,zm P w kv.1 t,rfl⟩
   ·exact q e e1
  ·rw[Uq] at hv;unfold valueAt;rw[U9];by_cases e1:k=kv.1
   ·subst e1;rw[Ux] at hv;cases hv
    exact⟨t',by simp⟩
   ·rw[beq_false_of_ne e1] at hv;rw[show decide ((Sum.inr kv.1:Key)=Sum.inr k)=false from Jm (λ e2=>e1 (Sum.inr.inj e2).symm)];exact l k v hv
theorem qm8{K:W.Frag}{h:Heap}(g:GD K w fr kvs)(bI:∀ a o,K.lookup a=some o->h.get? a=some o):
  ∃ vs:List (Key×Value),h.DictOf (qw P w) fr vs/\∀ k v,kvs.lookup k=some v->∃ t,valueAt vs (Sum.inr k)=some (.str v t):=by
 obtain⟨⟨es,n,lk,gp⟩,nd⟩:=g;obtain⟨vs,p,q,m,l⟩:=qg8 (P:=P) gp;refine⟨vs,⟨_,es.toArray,n,bI _ _ lk,⟨rfl,rfl,rfl⟩,rfl,λ e he=>q e (by simpa using he),by simpa using p,?_⟩,l⟩;rw[m];exact Zz.mpr ((Zz.mp nd).imp λ{a b} E2 e=>E2 (Sum.inr.inj e))
def qpJ(kvs:List (Str×Str))(ty:TE):TE:=λ σ H Q=>ty σ H λ y H1=>∃ k v,y=.str k/\kvs.lookup k=some v/\Q (.str v) H1
theorem qm9 {pos:Pos}(hg:Gl X x)(hm:X.mg x=some (.ref fr))(g:GD X.K X.w fr kvs)(hi:PE X i ty)(hs:qoe i)(hd:(x == ("__debug__":Str))=false:=by decide):
  PE X (.Subscript (.Name x p) i pos) (qpJ kvs ty):=by
 intro pins s σ H Q I h;refine qiQ PySem.F.slot_dict_getitem.lookup hs (qbs I hg hm (thn (hi pins s σ H _ I h) λ iv s2 ⟨y,H2,I2,ry,k,v,ey,hl,q2⟩=>?_) hd);subst ey;obtain⟨vs,dd,l⟩:=qm8 (P:=X.prog) g I2.kIn;obtain⟨t,hv⟩:=l k v hl;exact⟨dd.typeIs,wpAny_getItem_of (qdh (k:=Sum.inr k) ry) dd.mapOf hv ⟨.str v,H2,I2.tok _,⟨t,rfl⟩,q2⟩⟩
def qpK(K:W.Frag):R2:=λ x y H Q=>∃(a b:Addr)(bs:List Addr)(F:List Int)(Gs:List (List Int)),x=.ref a/\y=.ref b/\SqL K H a (F.map V.int)/\SqL K H b (bs.map V.ref)/\Paired (λ c (G:List Int)=>SqL K H c (G.map V.int)) bs Gs/\Q (.bl (decide (F∈Gs))) H
theorem qeY:∀{bs:List Addr}{us:List Value},qL (bs.map V.ref) us->us=bs.map Value.ref
 | [],_,.nil=>rfl
 |b::bs,_,.cons r t=>by
  rw[qeY t];obtain rfl:=(show _=Value.ref b from r);rfl
theorem qna(hu:X.A.units+1<cLine):OpR X (compareOp .In) (qpK X.K):=by
 intro pins s σ H x y v u Q I rx ry h;obtain⟨a,b,bs,F,Gs,rfl,rfl,h1,h2,pa,q⟩:=h;cases rx
 cases ry
 obtain⟨its,r,pl,hz⟩:=I.list h2;have ei:=qeY r;subst ei
 open Classical in
 refine SeqAt.in_listAt (λ u=>decide (∃ c,u=Value.ref c/\∃ G:List Int,SqL X.K H c (G.map V.int)/\G=F)) pl.isList (λ w hw=>?_) ⟨.bl _,H,I,rfl,?_⟩
 ·have dY:w∈bs.map Value.ref:=by simpa using hw
  obtain⟨c,hc,rfl⟩:=Qz.mp dY;obtain⟨k,hk⟩:=List.mem_iff_getElem?.mp hc;have key:∃ G:List Int,SqL X.K H c (G.map V.int):=by
   have gen:∀{xs:List Addr}{l:List (List Int)},Paired (λ c (G:List Int)=>SqL X.K H c (G.map V.int)) xs l->∀ c∈xs,∃ G:List Int,SqL X.K H c (G.map V.int):=by
    intro xs l p;induction p with
    |nil=>intro c h;cases h
    |cons r t ih =>
     intro c h;rcases Qd.mp h with e|e
     ·subst e;exact⟨_,r⟩
     ·exact ih c e
   exact gen pa c hc
  obtain⟨G,hG⟩:=key;have e:=qm7 (A:=X.A.in1) I (by exact hu) hG h1;have ed:decide (∃ c',Value.ref c=Value.ref c'/\∃ G:List Int,SqL X.K H c' (G.map V.int)/\G=F)=decide (G=F):=by
   refine U1.mpr ⟨?_,λ e=>⟨c,rfl,G,hG,e⟩⟩;rintro⟨c',e1,G',hG',e2⟩;cases e1
   have:=I.list_inj hG hG'
   rw[Zn (λ a b e=>by injection e)] at this;rw[this,e2]
  rw[ed];exact e
 ·have e:((bs.map Value.ref).toArray.any λ u=>decide (∃ c,u=Value.ref c/\∃ G:List Int,SqL X.K H c (G.map V.int)/\G=F))=decide (F∈Gs):=by
   rw[U4,Zr];simp only[List.any_toArray,List.any_eq_true,Qz,decide_eq_true_eq];constructor
   ·rintro⟨_,⟨c,hc,rfl⟩,c',e1,G,hG,rfl⟩;cases e1
    have gen:∀{xs:List Addr}{l:List (List Int)},Paired (λ c (G:List Int)=>SqL X.K H c (G.map V.int)) xs l->∀ c∈xs,SqL X.K H c (G.map V.int)->G∈l:=by
     intro xs l p;induction p with
     |nil=>intro c h;cases h
     |cons r t ih =>
      intro c h hc;rcases Qd.mp h with e|e
      ·subst e
       have:=I.list_inj hc r
       rw[Zn (λ a b e=>by injection e)] at this;rw[this];exact Zb ..
      ·exact Yj _ (ih c e hc)
    exact gen pa c hc hG
   ·intro hF;have gen:∀{xs:List Addr}{l:List (List Int)},Paired (λ c (G:List Int)=>SqL X.K H c (G.map V.int)) xs l->∀ G∈l,∃ c∈xs,SqL X.K H c (G.map V.int):=by
     intro xs l p;induction p with
     |nil=>intro G h;cases h
     |cons r t ih =>
      intro G h;rcases Qd.mp h with e|e
      ·subst e;exact⟨_,Zb ..,r⟩
      ·obtain⟨c,hc,hs⟩:=ih G e;exact⟨c,Yj _ hc,hs⟩
    obtain⟨c,hc,hs⟩:=gen pa F hF;exact⟨_,⟨c,hc,rfl⟩,c,rfl,F,hs,rfl⟩
  rw[e];exact q
theorem qdX:∀(l:List (Str×NameKind))(n:Nat)(c7:List (Str×Addr))(x:Str)(c:Addr),(cellsFrom n l c7).lookup x=some c->((x,NameKind.cell)∈l/\n<=c)∨c7.lookup x=some c
 | [],n,c7,x,c,h=>.inr h
 |(nm,k)::r,n,c7,x,c,h=>by
  unfold cellsFrom at h;split at h
  ·rename_i hk;have hk:k=.cell:=by simpa using hk
   rcases qdX r (n+1) _ x c h with⟨h1,h2⟩|h1
   ·exact .inl ⟨Yj _ h1,Nat.le_of_succ_le h2⟩
   ·rw[Uq] at h1;cases hx:x == nm with
    |true =>
     rw[hx] at h1;have e1:x=nm:=Vj.mp hx;have e2:n=c:=Option.some.inj h1;subst e1 hk;exact .inl ⟨Zb ..,Nat.le_of_eq e2⟩
    |false=>rw[hx] at h1;exact .inr h1
  ·rcases qdX r n c7 x c h with⟨h1,h2⟩ | h1
   ·exact .inl ⟨Yj _ h1,h2⟩
   ·exact .inr h1
theorem qcZ:∀(l:List (Str×NameKind))(n:Nat)(c7:List (Str×Addr))(x:Str),(c7.lookup x).isSome=true->((cellsFrom n l c7).lookup x).isSome=true
 | [],n,c7,x,h=>h
 |(nm,k)::r,n,c7,x,h=>by
  unfold cellsFrom;split
  ·refine qcZ r _ _ x ?_;rw[Uq];cases x == nm with
   |true=>rfl
   |false=>exact h
  ·exact qcZ r n c7 x h
theorem qh7:∀(l:List (Str×NameKind))(n:Nat)(c7:List (Str×Addr))(x:Str),(x,NameKind.cell)∈l->((cellsFrom n l c7).lookup x).isSome=true
 |(nm,k)::r,n,c7,x,h=>by
  unfold cellsFrom;rcases Qd.mp h with e|e
  ·cases e
   rw[Vz (by decide)];refine qcZ r _ _ _ ?_;rw[Uq];simp
  ·split
   ·exact qh7 r _ _ x e
   ·exact qh7 r n c7 x e
theorem qfS:∀(l:List (Str×NameKind))(n:Nat)(c7:List (Str×Addr))(x:Str),(x,NameKind.cell)∉l->(cellsFrom n l c7).lookup x=c7.lookup x
 | [],n,c7,x,_=>rfl
 |(nm,k)::r,n,c7,x,h=>by
  have hr:(x,NameKind.cell)∉r:=λ e=>h (Yj _ e)
  unfold cellsFrom;split
  ·rename_i hk;have hk:k=.cell:=by simpa using hk
   rw[qfS r _ _ x hr,Uq];cases hx:x == nm with
   |true =>
    have e1:x=nm:=Vj.mp hx;subst e1 hk;exact absurd (Zb ..) h
   |false=>rfl
  ·exact qfS r n c7 x hr
theorem qh8:∀(l:List (Str×NameKind))(n:Nat)(c7:List (Str×Addr)),(∀ x c,c7.lookup x=some c->c<n)->(∀ x y c,c7.lookup x=some c->c7.lookup y=some c->x=y) ->
  ∀ x y c,(cellsFrom n l c7).lookup x=some c->(cellsFrom n l c7).lookup y=some c->x=y
 | [],n,c7,_,hi,x,y,c,h1,h2=>hi x y c h1 h2
 |(nm,k)::r,n,c7,hb,hi,x,y,c,h1,h2=>by
  unfold cellsFrom at h1 h2;split at h1
  ·rename_i hk;rw[Vz hk] at h2;refine qh8 r (n+1) ((nm,n)::c7) (λ x c e=>?_) (λ x y c e1 e2=>?_) x y c h1 h2
   ·rw[Uq] at e;cases hx:x == nm with
    |true=>rw[hx] at e;cases e;exact Uk _
    |false=>rw[hx] at e;exact Z0 (hb x c e)
   ·rw[Uq] at e1 e2;cases hx:x == nm with
    |true =>
     rw[hx] at e1;cases hy:y == nm with
     |true=>rw[Vj.mp hx,Vj.mp hy]
     |false=>rw[hy] at e2;cases e1;exact absurd (hb y _ e2) (Qc _)
    |false =>
     rw[hx] at e1;cases hy:y == nm with
     |true=>rw[hy] at e2;cases e2;exact absurd (hb x _ e1) (Qc _)
     |false=>rw[hy] at e2;exact hi x y c e1 e2
  ·rename_i hk;rw[V0 hk] at h2;exact qh8 r n c7 hb hi x y c h1 h2
theorem qfT:∀(l:List (Str×NameKind))(h:Heap)(c7:List (Str×Addr))(x:Str)(c:Addr),(cellsFrom h.objs.size l c7).lookup x=some c->(pushCells h l).IsCell c none∨c7.lookup x=some c
 | [],h,c7,x,c,e=>.inr e
 |(nm,k)::r,h,c7,x,c,e=>by
  unfold cellsFrom at e;unfold pushCells;split at e
  ·rename_i hk;rw[Vz hk];have e:(cellsFrom (h.push { cls:=.type "cell",data:=.cell none }).objs.size r ((nm,h.objs.size)::c7)).lookup x=some c:=by rw[Jw];exact e
   rcases qfT r _ _ x c e with h1|h1
   ·exact .inl h1
   ·rw[Uq] at h1;cases hx:x == nm with
    |true =>
     rw[hx] at h1;have e2:h.objs.size=c:=Option.some.inj h1;subst e2;exact .inl ⟨_,Jt r _ _ _ (Yw _ rfl),rfl⟩
    |false=>rw[hx] at h1;exact .inr h1
  ·rename_i hk;rw[V0 hk];exact qfT r h c7 x c e
theorem qeZ(env:Env):∀(l:List (Str×NameKind))(c7:List (Str×Addr))(x:Str)(c:Addr),(zW env l c7).lookup x=some c->(x,NameKind.free)∈l∨c7.lookup x=some c
 | [],c7,x,c,h=>.inr h
 |(n,k)::r,c7,x,c,h=>by
  rw[zW] at h;rcases qeZ env r _ x c h with h1|h1
  ·exact .inl (Yj _ h1)
  ·by_cases hk:(k == NameKind.free)=true
   ·rw[Vz hk,Uq] at h1;have hk:k=.free:=by simpa using hk
    cases hx:x == n with
    |true =>
     have e1:x=n:=Vj.mp hx;subst e1 hk;exact .inl (Zb ..)
    |false=>rw[hx] at h1;exact .inr h1
   ·rw[V0 hk] at h1;exact .inr h1
theorem qae{α:Type}:∀{l:List (Str×α)},(l.map (·.1)).Nodup->∀{x:Str}{k:α},(x,k)∈l->l.lookup x=some k
 | [],_,x,k,h=>by cases h
 |(n,j)::r,nd,x,k,h=>by
  have B9:=U7.mp nd;rw[Uq];rcases Qd.mp h with e|e
  ·cases e;simp
  ·have:x≠n:=λ q=>B9.1 (by subst q;exact Qz.mpr ⟨_,e,rfl⟩)
   rw[Y8.mpr this];exact qae B9.2 e
theorem qaf{env:Env}:∀{names:List (Str×NameKind)}{x:Str}{k:NameKind},
  (names.map λ(n,k)=>if (k == NameKind.free && env.scope.kind == .function && env.kindOf n == some .cell) then(n,NameKind.cell) else(n,k)).lookup x=some k->(k=.cell∨k=.free)->names.lookup x=some .free∨names.lookup x=some .cell
 | [],_,_,h,_=>by simp at h
 |(n,k0)::r,x,k,h,hk=>by
  have ih:=@qaf env r x k;replace h:List.lookup x ((if (k0 == NameKind.free && env.scope.kind == .function && env.kindOf n == some .cell)=true then(n,NameKind.cell) else(n,k0))::(r.map λ(n,k)=>if (k == NameKind.free && env.scope.kind == .function && env.kindOf n == some .cell) then(n,NameKind.cell) else(n,k)))=some k:=h;rw[Uq];by_cases hc:(k0 == NameKind.free && env.scope.kind == .function && env.kindOf n == some .cell)=true
  ·rw[Vz hc,Uq] at h;have h0:k0=.free:=by
    rw[Uo,Uo] at hc;simpa using hc.1.1
   cases hx:x == n with
   |true=>left;rw[h0]
   |false=>rw[hx] at h;exact ih h hk
  ·rw[V0 hc,Uq] at h;cases hx:x == n with
   |true =>
    rw[hx] at h;have e:k0=k:=Option.some.inj h;rw[e];rcases hk with q|q
    ·right;rw[q]
    ·left;rw[q]
   |false=>rw[hx] at h;exact ih h hk
noncomputable def jf(X:Cx)(NY:List Str)(scope:Scope)(C:Addr)(s:Shared)(H:Hp)(fp:List Addr)(pins:List (Addr×Obj)):Cx:=
 { X with N:=NY,s₀:=s,H₀:=H,env:=compEnvC scope (cellsFrom (C+1) scope.names (zW X.env scope.names [])) C X.env,outer:=X.stack,ex:=fp,fn:=λ x=>scope.names.lookup x == some .cell,pn:=X.pn++pins,xe:=λ _ _=>False }
structure CompScopeC(X:Cx)(NY:List Str)(o:Nat)(caps:List Nat)(scope:Scope):Prop where
 kind:scope.kind=.function
 nd:NY.Nodup
 names:(scope.names.map (·.1)).Nodup
 frees:∀ y∈scope.names,y.2=.free->(X.env.kindOf y.1=some .cell∨X.env.kindOf y.1=some .free)
 locs:∀ y∈scope.names,y.2=.local->scope.names.lookup y.1=some .local
 capOk:∀(j:Nat)(i:Nat),caps[j]?=some i->∃ x,NY[o+j]?=some x/\X.N[i]?=some x/\scope.names.lookup x=some .free
 len:NY.length=o+caps.length
theorem qg9(frees:List Str)(k:scope.kind=.function)(nd:NY.Nodup)(nc:(scope.names.map (·.1)).Nodup)(lc:scope.names.all (λ y=>y.2 != .local || scope.names.lookup y.1 == some .local)=true)(fr:scope.names.all (λ y=>y.2 != .free || frees.contains y.1)=true)(fk:∀ x∈frees,X.env.kindOf x=some .cell∨X.env.kindOf x=some .free)(xC:∀(j i:Nat),caps[j]?=some i->∃ x,NY[o+j]?=some x/\X.N[i]?=some x/\scope.names.lookup x=some .free)(len:NY.length=o+caps.length):CompScopeC X NY o caps scope where
 kind:=k
 nd:=nd
 names:=nc
 frees:=λ y hy e=>by
  have:=Up.mp fr y hy
  rw[e] at this;exact fk _ (XY.mp this)
 locs:=λ y hy e=>by
  have:=Up.mp lc y hy
  rw[e] at this;simpa using this
 capOk:=xC
 len:=len
section
variable {X:Cx}
theorem qj2(S:CompScopeC X NY o caps scope)(I2:Inv X pins σ H2 s2)(C5:∀ b∈fp,jF X pins H2 b)(nG:∀ b∈fp,∃ ob,s2.heap.get? b=some ob)(hns:h₁.Ns (s2.heap.objs.size+1) λ _=>none)(n8:∀ b ob,s2.heap.get? b=some ob->h₁.get? b=some ob)(gW:∀ x c,(cellsFrom (s2.heap.objs.size+1+1) scope.names (zW X.env scope.names [])).lookup x=some c->h₁.IsCell c none∨(zW X.env scope.names []).lookup x=some c)(hD:∃ n,h₁.get? s2.heap.objs.size=some { cls:=.type "list",data:=.seq ([]:List Value).toArray n })(t':Nat):
  Inv (jf X NY scope (s2.heap.objs.size+1) s2 H2 fp pins) [] (stY o caps σ) (upd H2 s2.heap.objs.size (.lst [])) { s2 with heap:=h₁,toks:=t' }:=by
 have frees:∀ y∈scope.names,y.2=.free->∃ c,X.env.cells.lookup y.1=some c:=λ y hy e=>I2.ok.has _ (S.frees y hy e)
 have p8:∀ x c,(zW X.env scope.names []).lookup x=some c->X.env.cells.lookup x=some c:=qaZ X.env scope.names [] frees (λ x c e=>by simp at e);have S2:∀ x c,(zW X.env scope.names []).lookup x=some c->c<s2.heap.objs.size:=λ x c e=>by
  obtain⟨v,ob,q,d⟩:=I2.cell x c (p8 x c e);exact Qs q
 have dG:∀ x c,(cellsFrom (s2.heap.objs.size+1+1) scope.names (zW X.env scope.names [])).lookup x=some c->s2.heap.objs.size+1+1<=c∨(zW X.env scope.names []).lookup x=some c:=λ x c e =>
  (qdX _ _ _ x c e).imp (λ h=>h.2) id
 have V2:H2 s2.heap.objs.size=none:=I2.hok.fresh (Q9 _);have oU:H2 (s2.heap.objs.size+1)=none:=I2.hok.fresh (Vb _);have sS:∀ b ob,s2.heap.get? b=some ob->b≠s2.heap.objs.size+1:=λ b ob e=>Qt (Z0 (Qs e))
 have sR:∀ b ob,s2.heap.get? b=some ob->b≠s2.heap.objs.size:=λ b ob e=>Qt (Qs e)
 have oQ:HOk X.prog X.w (upd H2 s2.heap.objs.size (.lst [])) h₁:=by
  obtain⟨n,hD⟩:=hD;exact I2.hok.laid n8 (Q9 _) ⟨Va _,[],n,.nil,hD⟩
 refine⟨?_,rfl,I2.bare,?_,?_,?_,?_,?_,?_,oQ,?_⟩
 ·refine⟨I2.ok.mod,S.kind,I2.ok.glob,I2.ok.blt,Vb _,λ x y c h1 h2=>?_,λ x hx=>?_,λ x c e h=>?_,I2.ok.hd,I2.ok.frames,.inl rfl,λ b hb=>?_,
   I2.bs,Qu I2.ok.bsz I2.sz,λ b ob e hb=>?_,λ b hb z=>?_,I2.stack,I2.stkFree⟩
  ·exact qh8 scope.names (s2.heap.objs.size+1+1) (zW X.env scope.names []) (λ x c e=>Z0 (Z0 (S2 x c e))) (λ x y c h1 h2=>I2.ok.inj x y c (p8 x c h1) (p8 y c h2)) x y c h1 h2
  ·have A1:scope.names.lookup x=some .free∨scope.names.lookup x=some .cell:=by
    rcases hx with q|q
    ·exact qaf (env:=X.env) q (.inl rfl)
    ·exact qaf (env:=X.env) q (.inr rfl)
   rcases A1 with q|q
   ·exact Xv.mp (qcZ _ _ _ x (kU X.env scope.names [] x (Yx q)))
   ·exact Xv.mp (qh7 _ _ _ x (Yx q))
  ·rcases dG x c h with q | q
   ·exact Qu (Qu (Vb _) (Vb _)) q
   ·rcases qeZ X.env _ _ x c q with z | z
    ·have e1:=qae S.names z;have e2:scope.names.lookup x=some .cell:=by simpa using(show(scope.names.lookup x == some .cell)=true from e)
     rw[e1] at e2;cases e2
    ·simp at z
  ·obtain⟨ob,e⟩:=nG b hb;refine⟨sS b ob e,λ x c q=>?_⟩;rcases dG x c q with z | z
   ·exact λ y=>absurd (Qs e) (by rw[<- y];exact Nat.not_lt.mpr (Qu (Qu (Vb _) (Vb _)) z))
   ·exact(C5 b hb).2.2.2.2.1 x c (p8 x c z)
  ·rcases(C5 b hb).2.2.2.1 with q | q
   ·exact I2.ok.noex b ob e q
   ·exact absurd (Za (Qs e) (Qu I2.ok.bsz q)) (Qc _)
  ·rcases Qd.mp (I2.stkSub b z) with q | q
   ·exact(C5 b hb).2.1 q
   ·exact(C5 b hb).2.2.1 q
 ·exact Un.laid n8 (Q9 _) V2
 ·refine⟨_,hns,λ j x v e1 e2 e3=>?_⟩;obtain⟨j',i,ej,ec,es⟩:=qkJ e2;obtain⟨x',n1,n2,n3⟩:=S.capOk j' i ec;rw[<- ej] at n1;have ex:x=x':=Option.some.inj ((show NY[j]?=some x from e1).symm.trans n1);subst ex;have hk:=S.frees (x,.free) (Yx n3) rfl;obtain⟨m,_,hl⟩:=I2.loc;have hv:Vis X.env.scope x:=hk.elim (λ q=>.inr (.inl q)) λ q=>.inr (.inr q)
  obtain⟨u,ru,lk⟩:=hl i x v n2 es hv;refine⟨u,ru,.inr ⟨vy (env:=X.env) n3,?_⟩⟩;rcases lk with⟨q,_⟩|⟨_,c,ec,cell⟩
  ·rcases hk with z | z
   ·rw[show X.env.kindOf x=some .cell from z] at q;cases q
   ·rw[show X.env.kindOf x=some .free from z] at q;cases q
  ·obtain⟨c',N3⟩:=Xv.mp (kU X.env scope.names [] x (Yx n3))
   have:=p8 x c' N3
   rw[ec] at this;cases this
   obtain⟨ob,e,d⟩:=cell;refine⟨c,?_,ob,n8 c ob e,d⟩;show(cellsFrom (s2.heap.objs.size+1+1) scope.names (zW X.env scope.names [])).lookup x=some c
   rw[qfS _ _ _ x (λ z=>by have:=qae S.names z;rw[n3] at this;cases this)];exact N3
 ·intro x c e;rcases gW x c e with q | q
  ·exact⟨_,q⟩
  ·obtain⟨v,ob,q,d⟩:=I2.cell x c (p8 x c q);exact⟨v,ob,n8 c ob q,d⟩
 ·show upd H2 s2.heap.objs.size (.lst []) (s2.heap.objs.size+1)=none
  rw[qu (Ur _)];exact oU
 ·intro x c e;rcases dG x c e with z | z
  ·have hc:s2.heap.objs.size<c:=Za (Z0 (Uk _)) z;rw[qu (Qw hc)];exact I2.hok.fresh (Qv hc)
  ·obtain⟨v,ob,q,d⟩:=I2.cell x c (p8 x c z);rw[qu (sR c ob q)];exact I2.freeC x c (p8 x c z)
 ·intro p hp;have B8:p∈X.pn++pins:=by
   have:p∈(X.pn++pins)++[]:=hp
   simpa using this
  obtain⟨e,n,ne,nf,d⟩:=I2.pin p B8;refine⟨n8 _ _ e,by rw[qu (sR _ _ e)];exact n,sS _ _ e,λ z=>?_,d⟩;rcases Qd.mp (I2.stkSub p.1 z) with q|q
  ·exact ne q
  ·exact nf q
 ·show(stY o caps σ).length=NY.length
  unfold stY;rw[Ze,XT,U5,S.len]
theorem qnb{code:Value}(hQ:Q (newEnv scope s.heap.objs.size globals (cellsFrom (s.heap.objs.size+1) scope.names bT) qual func code (some outer) builtins) { s with heap:=pushCells (s.heap.push { cls:=.type "dict",data:=.dict #[] }) scope.names }):
  wpAny M A (newFunctionEnv scope globals bT [] qual func code (some outer) builtins) Q E s:=by
 simp only[newFunctionEnv,Option.isSome_some,Vw];refine Vh (wpAny_alloc ?_);refine Vh (wpAny_layCells _ (λ name kind cells=>by cases hkc:kind == NameKind.cell <;> simp[hkc]) _ _ _ _ ?_);rw[show({ s with heap:=s.heap.push { cls:=.type "dict",data:=.dict #[] } }:Shared).heap.objs.size=s.heap.objs.size+1 from Jw ..];rw[List.forIn_nil];exact Vh (Vi (Vi hQ))
theorem qha{pos:Pos}(S:CompScopeC X NY o caps scope)(I2:Inv X pins σ H2 s2)(C5:∀ b∈fp,jF X pins H2 b)(l8:tn 0 s2.heap)(Wk:∀ C,Walk (jf X NY scope C s2 H2 fp pins) tg fp it tn adv stop)(ht:∀ C,PTs (jf X NY scope C s2 H2 fp pins) A5 tt)(he:∀ C,PE (jf X NY scope C s2 H2 fp pins) E3 te)(h:yY o caps adv stop tt te σ H2 Q):
  wpAny (model X.prog X.w) X.A (newList []) (λ c7 s₃=>wpAny (model X.prog X.w) X.A (newFunctionEnv scope X.env.globals (zW X.env scope.names []) [] X.env.qual none .none (some X.env)) (λ N8 s₄ =>
   codeAny (model X.prog X.w) X.A (.compStart (.ListComp E3 [⟨tg,iter,A5,0⟩] scope pos) 0 (.ref it) c7 { N8 with scope:=relabel scope X.env }) (compPost (model X.prog X.w) X.A X.xe none (EP X pins σ Q) c7 N8.locals) s₄) X.xe s₃) X.xe s2:=by
 refine Ub (qnb ?_);have hC:(s2.heap.push { cls:=.type "list",dict:=none,data:=.seq ([]:List Value).toArray }).objs.size=s2.heap.objs.size+1:=Jw _ _;dsimp only;rw[hC];have hszD:((s2.heap.push { cls:=.type "list",dict:=none,data:=.seq ([]:List Value).toArray }).push { cls:=.type "dict",data:=.dict #[] }).objs.size=s2.heap.objs.size+1+1:=by rw[Jw,hC]
 have gW:∀ x c,(cellsFrom (s2.heap.objs.size+1+1) scope.names (zW X.env scope.names [])).lookup x=some c->(pushCells ((s2.heap.push { cls:=.type "list",dict:=none,data:=.seq ([]:List Value).toArray }).push { cls:=.type "dict",data:=.dict #[] }) scope.names).IsCell c none∨(zW X.env scope.names []).lookup x=some c:=λ x c e =>
  qfT scope.names _ _ x c (by rw[hszD];exact e)
 have hns₁:(pushCells ((s2.heap.push { cls:=.type "list",dict:=none,data:=.seq ([]:List Value).toArray }).push { cls:=.type "dict",data:=.dict #[] }) scope.names).Ns (s2.heap.objs.size+1) λ _=>none:=by
  have:=(Heap.Ns.new (s2.heap.push { cls:=.type "list",dict:=none,data:=.seq ([]:List Value).toArray }) (.type "dict")).keeps (Jt scope.names _)
  rw[hC] at this;exact this
 have n8:∀ b ob,s2.heap.get? b=some ob->(pushCells ((s2.heap.push { cls:=.type "list",dict:=none,data:=.seq ([]:List Value).toArray }).push { cls:=.type "dict",data:=.dict #[] }) scope.names).get? b=some ob:=λ b ob e =>
  Jt _ _ _ _ (XG _ (XG _ e))
 have hD:∃ n,(pushCells ((s2.heap.push { cls:=.type "list",dict:=none,data:=.seq ([]:List Value).toArray }).push { cls:=.type "dict",data:=.dict #[] }) scope.names).get? s2.heap.objs.size=some { cls:=.type "list",data:=.seq ([]:List Value).toArray n }:=
  ⟨_,Jt _ _ _ _ (XG _ (Yw _ rfl))⟩
 generalize pushCells ((s2.heap.push { cls:=.type "list",dict:=none,data:=.seq ([]:List Value).toArray }).push { cls:=.type "dict",data:=.dict #[] }) scope.names=h₁ at hns₁ gW n8 hD ⊢;have V2:H2 s2.heap.objs.size=none:=I2.hok.fresh (Q9 _);obtain⟨W,⟨m0,w0⟩,turn⟩:=h _ V2;have dH:=(Wk 0).obj 0 s2.heap l8;have I4:=qj2 S I2 C5 (λ b hb=>(dH b hb).imp λ _ q=>q.1) (hns:=hns₁) n8 gW hD s2.toks;have mV:tn 0 h₁:=(Wk 0).keep _ _ _ l8 λ b _ ob e=>n8 b ob e
 have wJ:∀ b∈fp,upd H2 s2.heap.objs.size (.lst []) b=none:=λ b hb=>by
  obtain⟨ob,e,_⟩:=dH b hb;rw[qu (Qt (Qs e))];exact(C5 b hb).1
 have loop:codeAny (model X.prog X.w) X.A (.compLoop (.ListComp E3 [⟨tg,iter,A5,0⟩] scope pos) 0 (.ref it) (.ref s2.heap.objs.size) (compEnvC scope (cellsFrom (s2.heap.objs.size+1+1) scope.names (zW X.env scope.names [])) (s2.heap.objs.size+1) X.env))
   (compPost (model X.prog X.w) X.A X.xe none (EP X pins σ Q) (.ref s2.heap.objs.size) (s2.heap.objs.size+1)) { s2 with heap:=h₁ }:=by
  have Wk:=Wk (s2.heap.objs.size+1);have ht:=ht (s2.heap.objs.size+1);have he:=he (s2.heap.objs.size+1);generalize hY:jf X NY scope (s2.heap.objs.size+1) s2 H2 fp pins=Y at Wk ht he I4;have fS:∀{H':Hp},(∀ b∈fp,H' b=none)->∀ b∈fp,jF Y [] H' b:=λ{H'} hn b hb=>by
   subst hY;obtain⟨ob,e,_⟩:=dH b hb;have k:=I4.ok.exf b hb;refine⟨hn b hb,k.1,I4.ok.exfs b hb,.inl hb,k.2,λ p hp=>?_⟩;have B8:p∈X.pn++pins:=by
    have:p∈(X.pn++pins)++[]:=hp
    simpa using this
   exact(C5 b hb).2.2.2.2.2 p B8
  refine vz (λ n s'=>∃ i ys H',Inv Y [] (stY o caps σ) H' s'/\tn i s'.heap/\(∀ b∈fp,H' b=none)/\W i n ys H') ?_ m0 ⟨0,[],_,I4,mV,wJ,w0⟩;rintro n s3 ⟨i,ys,H3,I3,K3,bS,w3⟩;have eE:Y.xe=λ _ _=>False:=by subst hY;rfl
  have wY:Y.prog=X.prog/\Y.w=X.w/\Y.A=X.A/\Y.env=compEnvC scope (cellsFrom (s2.heap.objs.size+1+1) scope.names (zW X.env scope.names [])) (s2.heap.objs.size+1) X.env:=by subst hY;exact⟨rfl,rfl,rfl,rfl⟩
  obtain⟨eP,ew,eA,ee⟩:=wY;rw[<- eP,<- ew,<- eA,<- ee,<- eE];rcases turn i n ys H3 w3 with⟨stp,qn⟩|av
  ·refine thn (Wk.done i [] s3 _ H3 I3 (fS bS) K3 stp) λ r s4 ⟨hr,I5⟩=>?_
   subst hr;obtain⟨m,hn,_⟩:=id I5.loc;have eC:Y.env.locals=s2.heap.objs.size+1:=by rw[ee];rfl
   rw[eC] at hn;refine⟨m,hn,λ h' hs=>?_⟩;have u:=I5.base;have eQ:=I5.hok;have B6:=I5.free;rw[eC] at B6;have S7:=I5.bare;have tS:=I5.os;subst hY;have u2:Un (frs X.stack) fp H2 H3 s2.heap h':=Un.but u hs (Vb _);have eR:HOk X.prog X.w H3 h':=HOk.but eQ hs B6;refine⟨.ref s2.heap.objs.size,H3,?_,rfl,qn⟩;obtain⟨hh,g,d,t,oB⟩:=s4;obtain rfl:oB=s2.os:=tS;exact Inv.call (s:=s2) (h':=h') (g':=g) (d':=d) (t':=t) (ch:=fp) I2 u2 eR S7 λ b hb=>⟨(C5 b hb).2.2.2.1,(C5 b hb).2.1,(C5 b hb).2.2.2.2.1,(C5 b hb).2.2.2.2.2⟩
  ·refine thn (Wk.item i [] s3 _ H3 _ I3 (fS bS) K3 av) λ r s4 ⟨u,hr,h4⟩=>?_
   subst hr;refine thn h4 λ _ s5 h5=>thn h5 λ _ s6 ⟨σ6,H6,I6,⟨kp,q6⟩,S0,wI⟩=>?_
   have xS:=I6.pinned (fp:=fp) (fS wI) (Wk.obj _ _ S0);refine thn (ht _ s6 σ6 H6 _ xS q6) λ b s7 ⟨H7,I7,q7⟩=>?_
   cases b with
   |false =>
    obtain⟨m',hm,w7⟩:=q7;obtain⟨J1,J2,J3⟩:=zJ (tg:=tg) (tn:=tn) (i:=i+1) (Wk.obj _ _ S0) (λ h' k=>Wk.keep _ _ _ S0 k) I7;exact⟨m',hm,i+1,ys,H7,J1.weak kp.2.symm kp.get,J2,J3,w7⟩
   |true =>
    refine thn (he _ s7 σ6 H7 _ I7 q7) λ y s8 ⟨yv,H8,I8,r8,uU,sZ,m',hm,w8⟩=>?_
    refine thn (zG (X:=Y) _ s8 σ6 H8 (.ref s2.heap.objs.size) [yv] _ _ (λ v H'=>v=.non/\H'=upd H8 s2.heap.objs.size (.lst (ys++[yv]))) I8 rfl (.cons r8 .nil) ⟨_,ys,yv,rfl,rfl,uU,sZ,rfl,rfl⟩) λ v s9 ⟨_,H9,I9,_,_,e9⟩=>?_
    subst e9;obtain⟨J1,J2,J3⟩:=zJ (tg:=tg) (tn:=tn) (i:=i+1) (Wk.obj _ _ S0) (λ h' k=>Wk.keep _ _ _ S0 k) I9;exact⟨m',hm,i+1,ys++[yv],_,J1.weak kp.2.symm kp.get,J2,J3,w8⟩
 exact XR loop ((Wk 0).self _ 0 _ _ _ mV loop)
theorem qlo{pos:Pos}(S:CompScopeC X NY o caps scope)(hc:X.calm=true)(hi:PI X tg iter wi)(hg:∀ C s H fp pins,PG (jf X NY scope C s H fp pins) tg g)(ht:∀ C s H fp pins,PTs (jf X NY scope C s H fp pins) A5 tt)(he:∀ C s H fp pins,PE (jf X NY scope C s H fp pins) E3 te)(hs:∀ x,foldedSetIterable iter X.env x=pure x:=by intro _;rfl):PE X (.ListComp E3 [⟨tg,iter,A5,0⟩] scope pos) (qkK o caps wi g tt te):=by
 intro pins s σ H Q I h;rw[eval_ListComp];refine X4 (use:=none) (g:=⟨tg,iter,A5,0⟩) (gs:=[]) rfl hs (yl λ y hy e=>I.ok.has _ (S.frees y hy e)) S.kind S.locs ?_;show wpAny _ _ (eval iter X.env) _ _ s
 refine thn (hi pins s σ H _ I h) λ v s1 h1=>thn h1 λ gS s2 h2=>?_
 obtain⟨it,fp,tn,J,H2,e,I2,T,l8,f2,hr⟩:=h2;subst e;exact qha S I2 f2 l8 (λ C=>Turn.walk (Y:=jf X NY scope C s2 H2 fp pins) hc T (hg _ _ _ _ _)) (λ C=>ht _ _ _ _ _) (λ C=>he _ _ _ _ _) hr
end
end L2
namespace Law
open PySem L2 Fs
noncomputable def top(i:Nat):Stmt:=PySem.Challenge.pw_fillsay_k55_whole_gaps_in_turn.main.body.getD i (.Pass ⟨0,0,0,0⟩)
noncomputable abbrev qfU:Stmt:=top 3
noncomputable abbrev vK:Stmt:=top 4
noncomputable abbrev qdY:Stmt:=top 5
noncomputable abbrev qbb:Stmt:=top 6
noncomputable abbrev vL:Stmt:=top 7
noncomputable abbrev qfV:Stmt:=top 8
noncomputable abbrev qdZ:Stmt:=top 9
noncomputable abbrev qag:Stmt:=top 10
noncomputable abbrev qbc:Stmt:=top 11
noncomputable abbrev qch:Stmt:=top 12
noncomputable abbrev y6:Stmt:=top 13
noncomputable abbrev qbX:Stmt:=top 14
noncomputable abbrev qd0:Stmt:=top 16
noncomputable abbrev vM:Stmt:=top 17
noncomputable abbrev yF:Stmt:=top 18
noncomputable abbrev qbd:Stmt:=top 19
noncomputable abbrev qbe:Stmt:=top 20
noncomputable abbrev qci:Stmt:=top 23
noncomputable abbrev yG:Stmt:=top 24
noncomputable abbrev jw:Stmt:=top 25
noncomputable abbrev vO:Stmt:=top 26
noncomputable abbrev qcj:Stmt:=top 28
noncomputable abbrev yJ:Stmt:=qT (top 38) 0
noncomputable abbrev yK:Stmt:=qT (top 38) 1
noncomputable abbrev yL:Stmt:=qT (top 38) 4
noncomputable abbrev jg:Stmt:=qT (top 39) 0
noncomputable abbrev jh:Stmt:=qT (top 39) 1
noncomputable abbrev ji:Stmt:=qT (top 39) 4
noncomputable abbrev jQ:Stmt:=qT (top 40) 0
noncomputable abbrev yM:Stmt:=qT (top 40) 1
noncomputable abbrev yN:Stmt:=qT (top 40) 2
noncomputable abbrev yO:Stmt:=qT (top 40) 5
noncomputable abbrev qbf:Stmt:=qT (top 41) 0
noncomputable abbrev vP:Stmt:=qT (top 41) 1
noncomputable abbrev vQ:Stmt:=qT (top 41) 2
noncomputable abbrev vR:Stmt:=qT (top 41) 5
noncomputable abbrev qah:Stmt:=qT (top 42) 0
noncomputable abbrev jM:Stmt:=qT (top 42) 1
noncomputable abbrev vT:Stmt:=qT (top 43) 0
noncomputable abbrev vU:Stmt:=qT (top 43) 2
noncomputable abbrev qaz:Stmt:=qT (top 44) 0
noncomputable abbrev qaA:Stmt:=qT (top 44) 2
noncomputable abbrev yP:Stmt:=qT (top 45) 0
noncomputable abbrev yQ:Stmt:=qT (top 45) 2
noncomputable abbrev qh9:Stmt:=top 50
noncomputable abbrev jx:Stmt:=top 51
noncomputable abbrev qfW:Stmt:=top 52
noncomputable abbrev qai:Stmt:=top 53
noncomputable abbrev qck:Stmt:=top 54
noncomputable abbrev qaj:Stmt:=top 55
noncomputable abbrev qd1:Stmt:=top 56
noncomputable abbrev qak:Stmt:=qT (top 62) 0
noncomputable abbrev jR:Stmt:=qT (top 62) 1
noncomputable abbrev qal:Stmt:=qT (top 62) 2
noncomputable abbrev vV:Stmt:=qT (top 62) 5
noncomputable abbrev qam:Stmt:=qT (top 62) 6
noncomputable abbrev vW:Stmt:=qT (top 62) 7
noncomputable abbrev y7:Stmt:=qT (top 62) 8
noncomputable abbrev qan:Stmt:=top 63
noncomputable abbrev yH:Stmt:=top 64
noncomputable abbrev qbg:Stmt:=top 65
noncomputable abbrev qao:Stmt:=top 67
noncomputable abbrev qbh:Stmt:=top 68
noncomputable abbrev qbi:Stmt:=top 69
noncomputable abbrev vX:Stmt:=top 70
noncomputable abbrev jN:Stmt:=top 71
noncomputable abbrev qcl:Stmt:=top 72
noncomputable abbrev qbj:Stmt:=top 73
noncomputable abbrev qbk:Stmt:=top 74
noncomputable abbrev jS:Stmt:=top 75
noncomputable abbrev vY:Stmt:=top 76
noncomputable abbrev jT:Stmt:=top 77
noncomputable abbrev jU:Stmt:=top 78
noncomputable abbrev qbl:Stmt:=top 79
noncomputable abbrev qap:Stmt:=top 80
noncomputable abbrev jy:Stmt:=top 81
noncomputable abbrev qe0:Stmt:=top 82
structure Txt(mg:Str->Option Value):Prop where
 len:mg "len"=none
 list:mg "list"=none
 sorted:mg "sorted"=none
 set:mg "set"=none
 tuple:mg "tuple"=none
 dict:mg "dict"=none
 zip:mg "zip"=none
 reversed:mg "reversed"=none
 range:mg "range"=none
 enumerate:mg "enumerate"=none
 all:mg "all"=none
 min:mg "min"=none
 max:mg "max"=none
 isinstance:mg "isinstance"=none
 tup:mg "str"=none
 bool:mg "bool"=none
theorem qnc:bootBuiltins "list"=some (.type "list"):=by decide +kernel
theorem qd2:bootBuiltins "tuple"=some (.type "tuple"):=by decide +kernel
theorem qfX:bootBuiltins "set"=some (.type "set"):=by decide +kernel
theorem qi3:bootBuiltins "dict"=some (.type "dict"):=by decide +kernel
theorem j6:bootBuiltins "sorted"=some (.builtin "sorted"):=by decide +kernel
theorem qlp:bootBuiltins "all"=some (.builtin "all"):=by decide +kernel
theorem qoM:bootBuiltins "min"=some (.builtin "min"):=by decide +kernel
section
variable {P:Program}{w:World}{K:W.Frag}{mg:Str->Option Value}{base:Heap}
def qhb(K:W.Frag)(n:Nat):Sp:=λ vs H Q _=>∃(a:Addr)(t:List Bool)(m:Nat),vs=[.ref a]/\SqL K H a (t.map V.bl)/\t.length=2^m/\m<n/\m<=9 /\
 ∀ r H',qi H H'->H' r=some (.lst ((zn m t).map V.bl))->Q (.ref r) H'
theorem qaB:FnScope ["truths","half","low","high"] ["truths"] (qh qbX):=scF
theorem vZ(h:m<=9):2^m<=512:=by
 have:2^m<=2^9:=Ys (by decide) h
 exact this
theorem qi4:(["left","right"]:List Str).Nodup:=by decide +kernel
theorem qhc(F:Fun K "summed" "summed" qbX f fd)(T:Txt mg)(bF:qk K fd ["truths"] [])(mF:mg "summed"=some (.ref f))(G:FnOk P w K mg base CX0 n f fd ["truths"] (qhb K n)):FnOk P w K mg base CX0 (n+1) f fd ["truths"] (qhb K (n+1)):=by
 refine F.okd qaB (λ cdv A outer s H vs Q E hr h=>?_);obtain⟨a,t,m,rfl,hS,ht,hm,h9,q⟩:=h;have h512:=vZ h9;refine⟨_,qd (zg (qx zp (qB qC rfl T.len J7 (qa (pv 0) qb)) qg (qD _)) (qe (qm (zF qfn rfl T.list qnc (qa (pv 0) qb)))) qG)
  (qd (qv (i:=1) qaB.nd rfl (Or.inl rfl) (qr jb (qB qC rfl T.len J7 (qa (pv 0) qb)) qg))
  (qd (qv (i:=2) qaB.nd rfl (Or.inl rfl) (qM G hr rfl mF F.kp bF .nil qA (qa (qby qiU (pv 0) qcQ (qcR (pv 1))) qb)))
  (qd (qv (i:=3) qaB.nd rfl (Or.inl rfl) (qM G hr rfl mF F.kp bF .nil qA (qa (qby qiU (pv 0) (qcR (pv 1)) qcQ) qb)))
  (qe (qm (qr qhO (pv 2) (qbD (n:=2) (csc (NY:=["left","right"]) (o:=2) (caps:=[]) [] rfl (by simp) yw rfl) rfl
   (qft rfl T.zip (qa (pv 2) (qa (pv 3) qb)))
   (λ C s H fp pins=>qJ (qp (i:=0) qi4 rfl (Or.inl rfl)) (qJ (qp (i:=1) qi4 rfl (Or.inl rfl)) zT)) (λ _=>rfl) (λ _=>rfl)
   (λ C s H fp pins=>zh) (λ C s H fp pins=>ya qkz (pv 0) (pv 1) (qD _))))))))),?_⟩
 have hl:(t.map V.bl).length=2^m:=by rw[U5,ht]
 refine⟨_,rfl,a,_,rfl,.inl hS,rfl,_,rfl,?_⟩;refine kq (λ c=>?_) (λ c=>?_)
 ·have c':V.int (((t.map V.bl).length:Nat):Int)=V.int 1:=Ui c;rw[hl] at c';have c2:((2^m:Nat):Int)=1:=by injection c'
  have hm0:m=0:=by
   cases m with
   |zero=>rfl
   |succ k=>rw[Qy] at c2;omega
  subst hm0;refine⟨_,rfl,a,_,rfl,.inl hS,λ r N2=>?_⟩;exact q r _ (qi.up N2) qc
 ·have c':¬ V.int (((t.map V.bl).length:Nat):Int)=V.int 1:=Zq (Z2.mpr c);rw[hl] at c';obtain⟨k,rfl⟩:∃ k,m=k+1:=by
   cases m with
   |zero=>exact absurd rfl c'
   |succ k=>exact⟨k,rfl⟩
  have bC:2^(k+1)=2^k+2^k:=by rw[Qy];omega
  have h1:(t.take (2^k)).length=2^k:=by rw[Ul];omega
  have h2:(t.drop (2^k)).length=2^k:=by rw[Um];omega
  have wU:(((t.map V.bl).length:Nat):Int) / 2=((2^k:Nat):Int):=by rw[hl];omega
  refine⟨_,rfl,a,_,rfl,.inl hS,_,_,rfl,rfl,⟨by decide,by decide⟩,?_⟩;dsimp only;rw[wU];refine⟨_,rfl,_,rfl,_,rfl,a,_,rfl,hS,λ p1 P3=>?_⟩;have e1:qgu (t.map V.bl) none (some ((2^k:Nat):Int))=(t.take (2^k)).map V.bl:=by
   unfold qgu;rw[HT.sIx_nat,hl,bC];show((t.map V.bl).drop 0).take (min (2^k) (2^k+2^k)-0)=_
   rw[J0,Nat.sub_zero,Jh (by omega),List.map_take]
  rw[e1];refine⟨p1,t.take (2^k),k,rfl,SqL.of qc,h1,by omega,by omega,λ r1 H1 g1 e1=>?_⟩;have g1':qi H H1:=(qi.up P3).trans g1;refine⟨_,rfl,_,rfl,_,rfl,a,_,rfl,g1'.seq hS,λ p2 hp2'=>?_⟩;have e2:qgu (t.map V.bl) (some ((2^k:Nat):Int)) none=(t.drop (2^k)).map V.bl:=by
   unfold qgu;rw[HT.sIx_nat,hl,bC,Jh (by omega)];show((t.map V.bl).drop (2^k)).take (2^k+2^k-2^k)=_
   rw[<- List.map_drop,XL (by rw[U5,h2];omega)]
  rw[e2];refine⟨p2,t.drop (2^k),k,rfl,SqL.of qc,h2,by omega,by omega,λ r2 H2 g2 e3=>?_⟩;have g2':qi H1 H2:=(qi.up hp2').trans g2;have f1:H2 r1=some (.lst ((zn k (t.take (2^k))).map V.bl)):=g2' _ _ e1;have l1:=qW k _ h1;have l2:=qW k _ h2;refine⟨_,rfl,_,rfl,_,rfl,r1,r2,rfl,⟨_,SqL.of f1⟩,⟨_,SqL.of e3⟩,?_⟩;refine qfE (SqL.of f1) (SqL.of e3) (by rw[U5,U5,l1,l2]) (λ i=>((List.zipWith (· != ·) (zn k (t.take (2^k))) (zn k (t.drop (2^k)))).take i).map V.bl) rfl (λ i hi=>?_) ?_ ?_
  ·rw[U5,Ul];rw[U5,l1] at hi;exact zd (by omega)
  ·intro i x y H3 D Y Z hx hy hD M9 sm hY hZ;obtain⟨b1,V3,rfl⟩:=ql hx;obtain⟨b2,cE,rfl⟩:=ql hy;refine⟨_,_,rfl,_,_,rfl,rfl,⟨rfl,rfl⟩,?_⟩;refine⟨_,rfl,_,rfl,rfl,?_⟩;rw[qfF];exact hY _ _ M9 sm (zL (vF V3 cE))
  ·intro D H3 hD sm M9;have e4:(((List.zipWith (· != ·) (zn k (t.take (2^k))) (zn k (t.drop (2^k)))).take ((zn k (t.take (2^k))).map V.bl).length).map V.bl)=(List.zipWith (· != ·) (zn k (t.take (2^k))) (zn k (t.drop (2^k)))).map V.bl:=by
    rw[XL (by rw[Yz,U5];omega)]
   rw[e4] at M9;refine⟨r1,D,_,_,rfl,rfl,sm _ _ f1,M9,?_,λ r3 nB=>?_⟩
   ·rw[U5,U5,Yz,l1,l2];exact qz (by omega)
   ·refine q r3 _ ((g1'.trans g2').trans (sm.to nB)) ?_;rw[qc,<- Jd];rfl
theorem qe1(F:Fun K "summed" "summed" qbX f fd)(T:Txt mg)(bF:qk K fd ["truths"] [])(mF:mg "summed"=some (.ref f)):∀ n,FnOk P w K mg base CX0 n f fd ["truths"] (qhb K n)
 |0=>⟨λ vs H Q E h=>by obtain⟨_,_,_,_,_,_,h,_⟩:=h;exact absurd h (Nat.not_lt_zero _),λ A outer s H args us vs Q E _ _ _ _ h=>by obtain⟨_,_,_,_,_,_,h,_⟩:=h;exact absurd h (Nat.not_lt_zero _)⟩
 |n+1=>qhc F T bF mF (qe1 F T bF mF n)
def qc0:Sp:=λ vs H Q _=>∃(ls:List Nat),vs=[vS ls]/\ls.length<=9/\∀ r H',qi H H'->H' r=some (.lst ((zl ls).map vS))->Q (.ref r) H'
theorem qbY:FnScope ["letters","products","letter"] ["letters"] (qh y6):=scF
theorem qpL:(["product","letter"]:List Str).Nodup:=by decide +kernel
theorem qlq(F:Fun K "products_over" "products_over" y6 f fd)(T:Txt mg):FnOk P w K mg base CX0 (k+1) f fd ["letters"] qc0:=by
 refine F.okd qbY (λ cdv A outer s H vs Q E hr h=>?_);obtain⟨ls,rfl,h9,q⟩:=h;refine⟨_,qd (qv (i:=1) qbY.nd rfl (Or.inl rfl) (zK (qa qo qb)))
  (qd (yg Jl rfl (qou rfl T.reversed (qa (pv 0) qb)) (qp (i:=2) qbY.nd rfl (Or.inr rfl))
   (qe (qv (i:=1) qbY.nd rfl (Or.inl rfl) (qr qhO (pv 1) (zq (csc (NY:=["product","letter"]) (o:=1) (caps:=[2]) ["letter"] rfl
    (by intro x hx;rw[Zl.mp hx];exact .inl rfl) (j2 rfl rfl rfl yw) rfl) rfl
    (zz (pv 1)) (λ C s H fp pins=>qp (i:=0) qpL rfl (Or.inl rfl)) (λ C s H fp pins=>zh) (λ C s H fp pins=>qr qdc (pv 1) (pv 0)))))))
  (qe (qm (pv 1)))),?_⟩
 have hz:(qj ls).length=ls.length:=qy ls;refine⟨qz (by show 1<=_;decide),λ p0 rE=>?_⟩;refine⟨_,rfl,_,rfl,by rw[hz];exact qz (by omega),?_⟩;refine qcT (λ i σ H1=>∃(r:Addr)(v:Option V),σ=[some (vS ls),some (.ref r),v]/\qi H H1/\H1 r=some (.lst ((zl (ls.drop (ls.length-i))).map vS))) ?_ ?_ ?_
 ·refine⟨p0,none,rfl,qi.up rE,?_⟩;rw[qc,Nat.sub_zero,List.drop_length];rfl
 ·rintro i σ H1 hi ⟨r,v,rfl,g1,e1⟩;rw[hz] at hi;have c9:ls.length-1-i<ls.length:=by omega
  have ev:qk2 (qj ls) i=vS [ls[ls.length-1-i]]:=by
   unfold qk2;rw[hz];show V.str ⟨#[ls.toArray.getD (ls.length-1-i) 0]⟩=V.str ⟨#[ls[ls.length-1-i]]⟩
   rw[Xf];simp[c9]
  have ed:ls.drop (ls.length-(i+1))=ls[ls.length-1-i]::ls.drop (ls.length-i):=by
   rw[show ls.length-(i+1)=ls.length-1-i by omega,Xt c9,show ls.length-1-i+1=ls.length-i by omega]
  rw[ev];have w6:(zl (ls.drop (ls.length-i))).length<=512:=by
   rw[qO,Um];exact vZ (by omega)
  refine⟨_,rfl,_,rfl,r,rfl,⟨_,SqL.of e1⟩,?_⟩;refine k4 (SqL.of e1) (λ j=>((((zl (ls.drop (ls.length-i))).map (ls[ls.length-1-i]::·)).take j).map vS)) rfl (λ j hj=>?_) ?_ ?_
  ·rw[U5,Ul,U5];exact zd (by omega)
  ·intro j x H2 D Y Z hx hD p4 sm hY hZ;obtain⟨p,hp,rfl⟩:=ql hx;have tQ:p.length<=9:=by
    have:=(zO.mp (Yl hp)).length_le
    rw[Um] at this;omega
   refine⟨⟨rfl,rfl⟩,?_⟩;refine⟨_,rfl,_,rfl,_,_,rfl,rfl,by rw[qy,qy];exact qz (by simp;omega),?_⟩;rw[yp];refine hY _ _ p4 sm ?_;exact zL (f:=vS) (by rw[Zt,hp];rfl)
  ·intro D H2 hD sm p4;rw[U5,XL (by rw[U5];exact Q9 _)] at p4;refine⟨r,D,_,_,rfl,rfl,sm _ _ e1,p4,?_,λ r3 nB=>?_⟩
   ·rw[U5,U5,U5];exact qz (by omega)
   ·refine⟨r3,_,rfl,g1.trans (sm.to nB),?_⟩;rw[qc,ed,zl,Jd]
 ·rintro σ H1 ⟨r,v,rfl,g1,e1⟩;rw[hz,Nat.sub_self,J0] at e1;exact⟨_,rfl,q r H1 g1 e1⟩
def j7(K:W.Frag):Sp:=λ vs H Q _=>∃(a:Addr)(F:List Pr),vs=[.ref a]/\SqT K H a (F.map vS)/\F.flatten.length<=4000/\F.length<=2000/\(qf F).length<64/\∀ H',qi H H'->Q (vS (qf F)) H'
theorem qia:FnScope ["form"] ["form"] (qh vL):=scF
theorem zQ(l:List Nat):(l.map λ c=>[c]).flatten=l:=by
 induction l with
 |nil=>rfl
 |cons a l ih=>rw[Qe,Zw,ih];rfl
theorem qib(F:Fun K "letters_of" "letters_of" vL f fd)(T:Txt mg):FnOk P w K mg base CX0 (k+1) f fd ["form"] (j7 K):=by
 refine F.okd qia (λ cdv A outer s H vs Q E hr h=>?_);obtain⟨a,F,rfl,hS,h4,h2,cH,q⟩:=h;refine⟨_,qe (qm (yo XO Ye Yf vD qo (qa (qB (qaQ rfl) rfl T.sorted j6 (qa (zF (qbF rfl) rfl T.set qfX (qa
  (yo XO Ye Yf vD qo (qa (pv 0) qb)) qb)) qb)) qb))),?_⟩
 rw[zD] at hS;have hz:("":Str).length=0:=by decide
 refine⟨rfl,rfl,?_⟩;refine⟨_,rfl,_,a,F.map qj,rfl,rfl,.inr hS,?_,?_⟩
 ·rw[jv,hz];show F.flatten.length+_*0<=_;omega
 rw[ju];refine⟨F.flatten.map λ c=>qj [c],.inr ⟨_,rfl,rfl⟩,by rw[U5];show _<4096;omega,λ l ys hl nd hm=>?_⟩;have dI:=jH (F.flatten.map λ c=>[c]);have lA:∀ x,x∈ys ↔ cs x∈kM (F.flatten.map λ c=>[c]):=λ x=>by
  rw[hm x,jY,Qz,Qz];constructor
  ·rintro⟨c,hc,rfl⟩;exact⟨c,hc,rfl⟩
  ·rintro⟨c,hc,e⟩;exact⟨c,hc,qfu e⟩
 have c8:ys.length=(qf F).length:=by
  rw[k5 nd dI lA,<- (zV _).length_eq,yc,U5]
 refine⟨l,ys,rfl,qc,by rw[c8];exact cH,λ l2 W5=>?_⟩;rw[qfG nd dI lA,yc,zD];refine⟨_,l2,((qf F).map λ c=>[c]).map qj,rfl,rfl,.inl (SqL.of qc),?_,?_⟩
 ·rw[jv,hz,zQ];show _+_*0<=_;omega
 rw[ju,zQ];exact q _ ((qi.up hl).to W5)
def qc1(K:W.Frag):Sp:=λ vs H Q _=>∃(a:Addr)(F:List Pr)(ls:List Nat),vs=[.ref a,vS ls]/\SqT K H a (F.map vS)/\F.length<=2000/\ls.length<=9/\∀ r H',qi H H'->H' r=some (.lst ((zb F ls).map V.bl))->Q (.ref r) H'
theorem qhd:FnScope ["form","letters","standing"] ["form","letters"] (qh qbc):=scF
theorem qqM:(["product"]:List Str).Nodup:=by decide +kernel
theorem qpM:(["product","standing"]:List Str).Nodup:=by decide +kernel
theorem qlr(kvs:List (Key×V))(k k':Key)(v:V):(zS (yB kvs k v) k').isSome=((zS kvs k').isSome || decide (k=k')):=by
 rw[<- kC,<- kC];unfold yB;split
 ·rename_i h;rw[List.any_map];have e:((λ kv:Key×V=>decide (kv.1=k')) ∘ λ kv=>if kv.1=k then(kv.1,v) else kv)=λ kv=>decide (kv.1=k'):=by
   funext kv
   show decide ((if kv.1=k then(kv.1,v) else kv).1=k')=_
   split <;> rfl
  rw[e];by_cases hk:k=k'
  ·subst hk;rw[h];simp
  ·simp[hk]
 ·rw[List.any_append];simp
theorem qe2(k':Key):∀(ls c7:List (Key×V)),(zS (qN c7 ls) k').isSome=((zS c7 k').isSome || ls.any λ kv=>decide (kv.1=k'))
 | [],c7=>by simp[qN]
 |x::ls,c7=>by
  show(zS (qN (yB c7 x.1 x.2) ls) k').isSome=_
  rw[qe2 k' ls,qlr,Qf,Bool.or_assoc]
theorem qfY(F:List Pr)(p:Pr):(zS (qN [] (kvK (F.map λ p=>(qj p,V.bl true)))) (.inr (qj p))).isSome=F.contains p:=by
 rw[qe2];show(false || _)=_
 rw[Qg];unfold kvK;rw[Q1,List.any_map,U4,List.any_eq_true,XY];constructor
 ·rintro⟨q,hq,e⟩;have e:(Sum.inr (qj q):Key)=.inr (qj p):=Ui e;rw[<- j3 (Sum.inr.inj e)];exact hq
 ·intro hp;exact⟨p,hp,J8 rfl⟩
theorem qls(F:Fun K "table_of" "table_of" qbc f fd)(T:Txt mg)(Gp:Dp P w K mg base 1 fp pE ["letters"] qc0 "products_over")(Gs:Dp P w K mg base 10 fs wR ["truths"] (qhb K 10) "summed"):FnOk P w K mg base CX0 11 f fd ["form","letters"] (qc1 K):=by
 refine F.okd qhd (λ cdv A outer s H vs Q E hr h=>?_);obtain⟨a,F,ls,rfl,hS,hF,h9,q⟩:=h;have hu:=kg hr;have G1:Room 1 _:=hr.mono (by decide);refine⟨_,qd (qv (i:=2) qhd.nd rfl (Or.inr rfl) (zF (qgN rfl) rfl T.dict qi3 (qa (zq (csc (NY:=["product"]) (o:=1) (caps:=[]) [] rfl (by simp) yw rfl) rfl
   (qkw (pv 0)) (λ C s H fp pins=>qp (i:=0) qqM rfl (Or.inl rfl)) (λ C s H fp pins=>zh) (λ C s H fp pins=>zC (qa (pv 0) (qa qgn qb)))) qb)))
  (qe (qm (qM Gs.g hr rfl Gs.m Gs.e Gs.b .nil qA (qa (zq (csc (NY:=["product","standing"]) (o:=1) (caps:=[2]) ["standing"] rfl
    (by intro x hx;rw[Zl.mp hx];exact .inl rfl) (j2 rfl rfl rfl yw) rfl) rfl
   (zz (qM Gp.g G1 rfl Gp.m Gp.e Gp.b .nil qA (qa (pv 1) qb))) (λ C s H fp pins=>qp (i:=0) qpM rfl (Or.inl rfl)) (λ C s H fp pins=>zh) (λ C s H fp pins=>qn5 (qof hu (pv 0) (pv 1)))) qb)))),?_⟩
 have hFl:(F.map vS).length=F.length:=U5 _;refine⟨_,rfl,a,rfl,⟨_,hS⟩,?_⟩;refine ym (F.map vS).length (λ i ys H2=>∃ ps:List Addr,ys=ps.map V.ref/\Paired (λ a (kv:Str×V)=>H2 a=some (.tup [.str kv.1,kv.2])) ps ((F.take i).map λ p=>(qj p,V.bl true))) ?_ ?_ ?_ ?_ ?_
 ·intro D hD;exact⟨[],rfl,.nil⟩
 ·rintro i ys H2 hi ⟨ps,rfl,hp⟩
  have:=hp.length
  rw[U5,Ul] at this;rw[U5];rw[hFl] at hi;exact zd (by omega)
 ·rintro i ys H2 D Y Z hi hD p4 sm ⟨ps,rfl,hp⟩ hY hZ;rw[hFl] at hi;refine⟨⟨_,_,sm.seqT hS,Xy (by rw[hFl];exact hi)⟩,?_⟩;rintro x H' ⟨rfl,A1⟩;have ex:=A1 _ (sm.seqT hS);obtain⟨p,B8,rfl⟩:=ql ex;refine⟨⟨rfl,rfl⟩,?_⟩;refine⟨_,rfl,qz (by show 2<=_;decide),λ t ht=>?_⟩;have rP:D≠t:=zk p4 ht;refine hY _ _ (by rw[qu rP];exact p4) (sm.to ht) ⟨ps++[t],by rw[Jd];rfl,?_⟩;rw[qU B8,Jd];refine qH (L2.Paired.mapP hp λ b kv e=>?_) (.cons ?_ .nil)
  ·have hbD:b≠D:=qgk e p4 (by intro z;cases z);rw[qu hbD,qu (zk e ht)];exact e
  ·rw[qu (Vu rP),qc]
 ·intro H2 sm;exact⟨_,sm.seqT hS,Q9 _⟩
 rintro D H2 ys hD sm p4 ⟨ps,rfl,hp⟩;rw[hFl,Ut] at hp;refine⟨D,ps,_,rfl,SqL.of p4,L2.Paired.mapP hp λ b kv e=>SqT.of e,λ d hd=>?_⟩;have g3:qi H (upd H2 d (.dK (qN [] (kvK (F.map λ p=>(qj p,V.bl true)))))):=sm.to hd;refine⟨_,rfl,ls,rfl,h9,λ r1 H3 g4 e3=>?_⟩;have hd3:H3 d=some (.dK (qN [] (kvK (F.map λ p=>(qj p,V.bl true))))):=g4 _ _ qc;have w6:(zl ls).length<=512:=by rw[qO];exact vZ h9
 refine⟨r1,rfl,⟨_,SqL.of e3⟩,?_⟩;refine k4 (SqL.of e3) (λ j=>(((zl ls).map λ p=>F.contains p).take j).map V.bl) rfl (λ j hj=>?_) ?_ ?_
 ·rw[U5,Ul,U5];exact zd (by omega)
 ·intro j x H4 D2 Y Z hx lL hH4 xZ hY hZ;obtain⟨p,B8,rfl⟩:=ql hx;refine⟨⟨rfl,rfl⟩,?_⟩;refine⟨_,rfl,_,rfl,d,_,rfl,qaK.k (k:=Sum.inr (qj p)) (xZ _ _ hd3),?_⟩;rw[qfY];exact hY _ _ hH4 xZ (zL (f:=V.bl) (by rw[Zt,B8];rfl))
 ·intro D2 H4 lL xZ hH4;rw[U5,XL (by rw[U5];exact Q9 _)] at hH4;refine⟨D2,(zl ls).map λ p=>F.contains p,ls.length,rfl,SqL.of hH4,by rw[U5,qO],by omega,h9,λ r H5 g5 e5=>?_⟩;exact q r H5 (((g3.trans g4).trans xZ).trans g5) e5
def qfZ(K:W.Frag):Sp:=λ vs H Q _=>∃(a:Addr)(t:List Bool)(ls:List Nat),vs=[vS ls,.ref a]/\SqL K H a (t.map V.bl)/\t.length=2^ls.length/\ls.length<=9/\ls.Nodup /\
 ∀ r H',qi H H'->H' r=some (.tup ((yj ls t).map vS))->Q (.ref r) H'
theorem qi5:FnScope ["letters","table","products"] ["letters","table"] (qh qch):=scF
theorem qlt:(["product","stands"]:List Str).Nodup:=by decide +kernel
theorem qoN{α β:Type}{as:List α}{bs:List β}{i:Nat}{a:α}{b:β}(h1:as[i]?=some a)(h2:bs[i]?=some b):(as.zip bs)[i]?=some (a,b):=vF h1 h2
theorem qcE(h:ss.map V.str=F.map vS):(qbE ss).map V.str=(srt F).map vS:=by
 have e:ss=F.map qj:=by
  rw[zD] at h;exact Zn (λ a b e=>by injection e) |>.mp h
 subst e;unfold qbE;rw[qox,zD]
theorem qnd(F:Fun K "form_of" "form_of" qch f fd)(T:Txt mg)(Gp:Dp P w K mg base 1 fp pE ["letters"] qc0 "products_over")(Gs:Dp P w K mg base 10 fs wR ["truths"] (qhb K 10) "summed"):FnOk P w K mg base CX0 11 f fd ["letters","table"] (qfZ K):=by
 refine F.okd qi5 (λ cdv A outer s H vs Q E hr h=>?_);obtain⟨a,t,ls,rfl,hS,ht,h9,nd,q⟩:=h;have G1:Room 1 _:=hr.mono (by decide);refine⟨_,qd (qv (i:=2) qi5.nd rfl (Or.inl rfl) (qM Gp.g G1 rfl Gp.m Gp.e Gp.b .nil qA (qa (pv 0) qb)))
  (qe (qm (zF jP rfl T.tuple qd2 (qa (qB k8 rfl T.sorted j6 (qa (qbD (n:=2) (csc (NY:=["product","stands"]) (o:=2) (caps:=[]) [] rfl (by simp) yw rfl) rfl
   (qft rfl T.zip (qa (pv 2) (qa (qM Gs.g hr rfl Gs.m Gs.e Gs.b .nil qA (qa (pv 1) qb)) qb)))
   (λ C s H fp pins=>qJ (qp (i:=0) qlt rfl (Or.inl rfl)) (qJ (qp (i:=1) qlt rfl (Or.inl rfl)) zT)) (λ _=>rfl) (λ _=>rfl)
   (λ C s H fp pins=>qaw (jp (pv 1))) (λ C s H fp pins=>pv 0)) qb)) qb)))),?_⟩
 have w6:(zl ls).length<=512:=by rw[qO];exact vZ h9
 refine⟨_,rfl,ls,rfl,h9,λ r1 H1 g1 e1=>?_⟩;refine⟨_,rfl,_,rfl,a,t,ls.length,rfl,g1.seq hS,ht,by omega,h9,λ r2 H2 g2 e2=>?_⟩;have f1:=g2 _ _ e1;have sl:=qW _ _ ht;refine⟨r1,r2,rfl,⟨_,SqL.of f1⟩,⟨_,SqL.of e2⟩,?_⟩;have pk:∀ i,((((zl ls).zip (zn ls.length t)).take i).filterMap λ x=>if x.2=true then some x.1 else none).length<=512:=λ i=>by
  refine Qu (List.length_filterMap_le _ _) ?_;rw[Ul,Jk];omega
 refine qfE (SqL.of f1) (SqL.of e2) (by rw[U5,U5,sl,qO]) (λ i=>((((zl ls).zip (zn ls.length t)).take i).filterMap λ x=>if x.2=true then some x.1 else none).map vS) rfl (λ i hi=>?_) ?_ ?_
 ·rw[U5];exact zd (Qu (pk i) (by decide))
 ·intro i x y H3 D Y Z hx hy hD M9 sm hY hZ;obtain⟨p,hp,rfl⟩:=ql hx;obtain⟨b,hb,rfl⟩:=ql hy;refine⟨_,_,rfl,_,_,rfl,rfl,⟨rfl,rfl⟩,?_⟩;refine⟨_,rfl,b,rfl,?_⟩;have ez:(((zl ls).zip (zn ls.length t)).take (i+1))=((zl ls).zip (zn ls.length t)).take i++[(p,b)]:=qU (qoN hp hb);cases b with
  |true =>
   refine kn ?_;refine⟨_,rfl,hY _ _ M9 sm ?_⟩;rw[ez,Ya,Jd];rfl
  |false =>
   refine yh ?_;refine hZ _ M9 sm ?_;rw[ez,Ya,Jd];exact U6 _
 ·intro D H3 hD sm M9;rw[XL (by rw[Jk,U5];omega)] at M9;have iU:(yi ls (zn ls.length t)).length<=512:=Qu (vt _ _).length_le w6;have hnd:((yi ls (zn ls.length t)).map qj).Nodup:=Zz.mpr ((vv _ nd).imp λ{a b} E2 e=>E2 (j3 e));refine⟨D,(yi ls (zn ls.length t)).map qj,rfl,SqL.of (by rw[<- zD];exact M9),by rw[U5];show _<4096;omega,hnd,λ l hl=>?_⟩;rw[qcE (zD _).symm];refine⟨l,_,rfl,.inl ⟨SqL.of qc,λ r N2=>?_⟩⟩;exact q r _ (((g1.trans g2).trans (sm.to hl)).to N2) qc
def qic(K:W.Frag)(g:List Pr->List Pr->List Pr):Sp:=λ vs H Q _=>∃(a b:Addr)(F G:List Pr)(ls:List Nat),vs=[.ref a,.ref b]/\SqT K H a (F.map vS)/\SqT K H b (G.map vS)/\Ok9 ls/\On ls F/\On ls G /\
 ∀ r H',qi H H'->H' r=some (.tup ((g F G).map vS))->Q (.ref r) H'
def sp2(K:W.Frag)(g:List Pr->List Pr->List Pr):Sp:=λ vs H Q _=>∃(a b:Addr)(F G:List Pr)(ls:List Nat),vs=[.ref a,.ref b]/\SqT K H a (F.map vS)/\SqT K H b (G.map vS)/\Ok9 ls/\On ls F/\On ls G/\F.flatten.length+G.flatten.length<=4000 /\
 ∀ r H',qi H H'->H' r=some (.tup ((g F G).map vS))->Q (.ref r) H'
theorem qlu:FnScope ["one","other"] ["one","other"] (qh qfU):=scF
theorem qlv(F:Fun K "added" "added" qfU f fd)(T:Txt mg):FnOk P w K mg base CX0 (k+1) f fd ["one","other"] (qic K added):=by
 refine F.okd qlu (λ cdv A outer s H vs Q E hr h=>?_);obtain⟨a,b,F,G,ls,rfl,hF,hG,o5,oF,oG,q⟩:=h;have lF:=o5.le oF;have lG:=o5.le oG;refine⟨_,qe (qm (zF jP rfl T.tuple qd2 (qa (qB (qdM rfl) rfl T.sorted j6 (qa (qr qkZ (zF (qbF rfl) rfl T.set qfX (qa (pv 0) qb)) (zF (qbF rfl) rfl T.set qfX (qa (pv 1) qb))) qb)) qb))),?_⟩;rw[zD] at hF hG;refine⟨_,rfl,F.map qj,.inl ⟨a,rfl,.inr hF⟩,by rw[U5];show _<4096;omega,λ l1 ys h1 nd1 m1=>?_⟩;refine⟨_,rfl,G.map qj,.inl ⟨b,rfl,.inr ((qi.up h1).seqT hG)⟩,by rw[U5];show _<4096;omega,λ l2 zs h2 dI m2=>?_⟩;have n12:l1≠l2:=zk qc h2;have y1:ys.length=F.length:=k5 nd1 oF.vf.nodup λ x=>(m1 x).trans qbO
 have z1:zs.length=G.length:=k5 dI oG.vf.nodup λ x=>(m2 x).trans qbO
 refine⟨l1,l2,ys,zs,rfl,rfl,by rw[qu n12,qc],qc,by omega,by omega,λ l3 us h3 nd3 m3=>?_⟩;have ndd:=qaW oF.vf.nodup oG.vf.nodup;have md:∀ x,x∈us ↔ cs x∈qdm F G:=λ x=>by rw[m3 x,m1 x,m2 x,qbO,qbO,kJ]
 have ld:us.length=(added F G).length:=by rw[k5 nd3 ndd md];exact((zV _).length_eq).symm
 have l32:=qjU F G;refine⟨l3,us,rfl,qc,by show _<4096;omega,nd3,λ l4 h4=>?_⟩;rw[qfG nd3 ndd md];refine⟨l4,_,rfl,.inl ⟨SqL.of qc,λ r N2=>?_⟩⟩;exact q r _ (((((qi.up h1).to h2).to h3).to h4).to N2) qc
theorem qc2:FnScope ["one","other","letters","lefts","rights"] ["one","other"] (qh vK):=scF
theorem qne(F:Fun K "multiplied" "multiplied" vK f fd)(T:Txt mg)(Gl:Dp P w K mg base 1 fl pH ["form"] (j7 K) "letters_of")(Gt:Dp P w K mg base 11 ft pD ["form","letters"] (qc1 K) "table_of")(Gf:Dp P w K mg base 11 ff wS ["letters","table"] (qfZ K) "form_of"):FnOk P w K mg base CX0 12 f fd ["one","other"] (sp2 K mult):=by
 refine F.okd qc2 (λ cdv A outer s H vs Q E hr h=>?_);obtain⟨a,b,F,G,ls,rfl,hF,hG,o5,oF,oG,uC,q⟩:=h;have G1:Room 1 _:=hr.mono (by decide);have lF:=o5.le oF;have lG:=o5.le oG;refine⟨_,qd (qv (i:=2) qc2.nd rfl (Or.inl rfl) (qM Gl.g G1 rfl Gl.m Gl.e Gl.b .nil qA (qa (qr qkN (pv 0) (pv 1)) qb)))
  (qd (qv (i:=3) qc2.nd rfl (Or.inl rfl) (qM Gt.g hr rfl Gt.m Gt.e Gt.b .nil qA (qa (pv 0) (qa (pv 2) qb))))
  (qd (qv (i:=4) qc2.nd rfl (Or.inl rfl) (qM Gt.g hr rfl Gt.m Gt.e Gt.b .nil qA (qa (pv 1) (qa (pv 2) qb))))
  (qe (qm (qM Gf.g hr rfl Gf.m Gf.e Gf.b .nil qA (qa (pv 2) (qa (qbD (n:=2) (csc (NY:=["left","right"]) (o:=2) (caps:=[]) [] rfl (by simp) yw rfl) rfl
   (qft rfl T.zip (qa (pv 3) (qa (pv 4) qb)))
   (λ C s H fp pins=>qJ (qp (i:=0) qi4 rfl (Or.inl rfl)) (qJ (qp (i:=1) qi4 rfl (Or.inl rfl)) zT)) (λ _=>rfl) (λ _=>rfl)
   (λ C s H fp pins=>zh) (λ C s H fp pins=>qku (pv 0) (qhy (pv 1)))) qb))))))),?_⟩
 have inls:∀ p∈F++G,∀ c∈p,c∈ls:=λ p hp=>by
  rcases U3.mp hp with h|h
  ·exact oF.mem p h
  ·exact oG.mem p h
 have lle:=qcA o5.rise inls;have l5:=o5.len;have lr:=q0 (F++G);have cQ:(F++G).flatten.length<=4000:=by
  rw[List.flatten_append,Ze];omega
 refine⟨_,rfl,_,rfl,a,b,_,_,rfl,rfl,hF,hG,by rw[U5,U5];exact qz (by omega),λ p H1 g1 hp=>?_⟩;rw[<- Jd] at hp;refine⟨p,F++G,rfl,hp,cQ,by rw[Ze];omega,by omega,λ H2 g2=>?_⟩;have A2:=g1.trans g2;refine⟨_,rfl,_,rfl,a,F,qf (F++G),rfl,A2.seqT hF,by omega,by omega,λ r1 H3 g3 e3=>?_⟩;have G7:=A2.trans g3;refine⟨_,rfl,_,rfl,b,G,qf (F++G),rfl,G7.seqT hG,by omega,by omega,λ r2 H4 g4 e4=>?_⟩;have f3:=g4 _ _ e3;have t1:=qS F (qf (F++G));have t2:=qS G (qf (F++G));have h512:2^(qf (F++G)).length<=512:=vZ (by omega);refine⟨_,rfl,_,rfl,_,rfl,r1,r2,rfl,⟨_,SqL.of f3⟩,⟨_,SqL.of e4⟩,?_⟩;refine qfE (SqL.of f3) (SqL.of e4) (by rw[U5,U5,t1,t2]) (λ i=>((List.zipWith (· && ·) (zb F (qf (F++G))) (zb G (qf (F++G)))).take i).map V.bl) rfl (λ i hi=>?_) ?_ ?_
 ·rw[U5,Ul];rw[U5,t1] at hi;exact zd (by omega)
 ·intro i x y H5 D Y Z hx hy hD lJ sm hY hZ;obtain⟨b1,V3,rfl⟩:=ql hx;obtain⟨b2,cE,rfl⟩:=ql hy;refine⟨_,_,rfl,_,_,rfl,rfl,⟨rfl,rfl⟩,?_⟩;refine⟨_,rfl,b1,rfl,?_⟩;have st:=zL (f:=V.bl) (vF (f:=(· && ·)) V3 cE);cases b1 with
  |true =>
   refine kn ?_;exact⟨_,rfl,hY _ _ lJ sm st⟩
  |false =>
   refine yh ?_;exact hY _ _ lJ sm st
 ·intro D H5 hD sm lJ;rw[XL (by rw[Yz,U5];omega)] at lJ;refine⟨D,_,qf (F++G),rfl,SqL.of lJ,by rw[Yz,t1,t2];exact Q0 _,by omega,zc Qc lr,λ r H6 g6 e6=>?_⟩;exact q r H6 (((G7.trans g4).trans sm).trans g6) e6
theorem qj3:FnScope ["one","other"] ["one","other"] (qh qdY):=scF
theorem qj4(F:Fun K "joined" "joined" qdY f fd)(Ga:Dp P w K mg base 1 fa pI ["one","other"] (qic K added) "added")(Gm:Dp P w K mg base 12 fm fdm ["one","other"] (sp2 K mult) "multiplied"):FnOk P w K mg base CX0 13 f fd ["one","other"] (sp2 K join):=by
 refine F.okd qj3 (λ cdv A outer s H vs Q E hr h=>?_);obtain⟨a,b,F,G,ls,rfl,hF,hG,o5,oF,oG,uC,q⟩:=h;have G1:Room 1 _:=hr.mono (by decide);refine⟨_,qe (qm (qM Ga.g G1 rfl Ga.m Ga.e Ga.b .nil qA (qa (qM Ga.g G1 rfl Ga.m Ga.e Ga.b .nil qA (qa (pv 0) (qa (pv 1) qb))) (qa (qM Gm.g hr rfl Gm.m Gm.e Gm.b .nil qA (qa (pv 0) (qa (pv 1) qb))) qb)))),?_⟩;refine⟨_,rfl,_,rfl,a,b,F,G,ls,rfl,hF,hG,o5,oF,oG,λ r1 H1 g1 e1=>?_⟩;refine⟨_,rfl,_,rfl,a,b,F,G,ls,rfl,g1.seqT hF,g1.seqT hG,o5,oF,oG,uC,λ r2 H2 g2 e2=>?_⟩;refine⟨r1,r2,_,_,ls,rfl,SqT.of (g2 _ _ e1),SqT.of e2,o5,oF.added oG,oF.mult oG,λ r H3 g3 e3=>?_⟩;exact q r H3 ((g1.trans g2).trans g3) e3
def sp1(K:W.Frag)(g:List Pr->List Pr):Sp:=λ vs H Q _=>∃(a:Addr)(F:List Pr)(ls:List Nat),vs=[.ref a]/\SqT K H a (F.map vS)/\Ok9 ls/\On ls F/\∀ r H',qi H H'->H' r=some (.tup ((g F).map vS))->Q (.ref r) H'
theorem qoO:FnScope ["form"] ["form"] (qh qbb):=scF
theorem qoP(F:Fun K "opposite" "opposite" qbb f fd)(rC:mg "ALWAYS"=some (.ref al))(rN:∀ H,SqT K H al (([[]]:List Pr).map vS))(Ga:Dp P w K mg base 1 fa pI ["one","other"] (qic K added) "added"):FnOk P w K mg base CX0 2 f fd ["form"] (sp1 K opp):=by
 refine F.okd qoO (λ cdv A outer s H vs Q E hr h=>?_);obtain⟨a,F,ls,rfl,hF,o5,oF,q⟩:=h;refine⟨_,qe (qm (qM Ga.g hr rfl Ga.m Ga.e Ga.b .nil qA (qa (pv 0) (qa (zZ (v:=.ref al) rfl rC rfl) qb)))),?_⟩;refine⟨_,rfl,a,al,F,[[]],ls,rfl,hF,rN _,o5,oF,On.one ls,λ r H1 g1 e1=>?_⟩;exact q r H1 g1 e1
noncomputable def zH:List Nat:=[97,98,99,112,113,114,120,121,122]
theorem qj5:zH.Pairwise (·<·):=by decide
theorem qhe:("abcpqrxyz":Str)=qj zH:=by decide +kernel
theorem y8(h:i<ls.length):sgn (qj ls) i=vS [ls[i]]:=by
 unfold sgn;show V.str ⟨#[ls.toArray.getD i 0]⟩=V.str ⟨#[ls[i]]⟩
 rw[Xf];simp[h]
def Dv(Γ:St->Hp->Prop)(te:TE)(v:V):Prop:=∀ σ H Q,Γ σ H->(∀ H',qi H H'->Q v H')->te σ H Q
def Dt(Γ:St->Hp->Prop)(tt:TT)(b:Bool):Prop:=∀ σ H Q,Γ σ H->(∀ H',qi H H'->Q b H')->tt σ H Q
def Stb(Γ:St->Hp->Prop):Prop:=∀ σ H H',Γ σ H->qi H H'->Γ σ H'
section
variable {Γ:St->Hp->Prop}{t1 t2 t3:TE}{F G:List Pr}{ls:List Nat}{g:List Pr->List Pr->List Pr}{g1:List Pr->List Pr}
theorem qnf:([V.str ""]:List V)=([[]]:List Pr).map vS:=by
 have hz:("":Str)=qj []:=by decide +kernel
 rw[hz];rfl
theorem qqN(st:Stb Γ)(h1:Dv Γ t1 (.bl a))(h2:Dv Γ t2 (.bl b)):Dv Γ (tOp rNe t1 t2) (.bl (a != b)):=λ σ H Q hΓ q =>
 h1 σ H _ hΓ λ H1 g1=>h2 σ H1 _ (st _ _ _ hΓ g1) λ H2 g2=>⟨rfl,by rw[qfF];exact q H2 (g1.trans g2)⟩
theorem zB(h:Dv Γ t1 (.bl b)):Dt Γ (qkA t1) b:=λ σ H Q hΓ q=>h σ H _ hΓ λ H1 g1=>⟨b,rfl,q H1 g1⟩
end
def At(σ0:St)(H0:Hp):St->Hp->Prop:=λ σ H=>σ=σ0/\qi H0 H
theorem qF:Stb (At σ0 H0):=λ _ _ _ h g=>⟨h.1,h.2.trans g⟩
theorem at0:At σ0 H0 σ0 H0:=⟨rfl,qi.refl _⟩
section
variable {Γ:St->Hp->Prop}{t1 t2 t3:TE}
theorem qqO(st:Stb Γ)(h1:Dv Γ t1 (.bl a))(h2:Dv Γ t2 (.bl b)):Dv Γ (qpc t1 t2) (.bl (a || b)):=λ σ H Q hΓ q=>h1 σ H _ hΓ λ H1 g1=>⟨a,rfl,by
 cases a with
 |true=>exact kn (q H1 g1)
 |false=>exact yh (h2 σ H1 _ (st _ _ _ hΓ g1) λ H2 g2=>q H2 (g1.trans g2))⟩
theorem qpN(st:Stb Γ)(h1:Dv Γ t1 (.bl a))(h2:Dv Γ t2 (.bl b)):Dv Γ (qnM t1 t2) (.bl (a && b)):=λ σ H Q hΓ q=>h1 σ H _ hΓ λ H1 g1=>⟨a,rfl,by
 cases a with
 |true=>exact kn (h2 σ H1 _ (st _ _ _ hΓ g1) λ H2 g2=>q H2 (g1.trans g2))
 |false=>exact yh (q H1 g1)⟩
theorem qpO(h1:Dv Γ t1 (.bl a)):Dv Γ (qnN t1) (.bl (!a)):=λ σ H Q hΓ q=>h1 σ H _ hΓ λ H1 g1=>⟨a,rfl,q H1 g1⟩
theorem jz(e:σ0[i]?=some (some (.ref p)))(h:SqT K H0 p xs)(ha:atI xs n=some v):Dv (At σ0 H0) (tOp (qmD K) (qfd i) (tC (.int n))) v:=λ σ H Q g q =>
 ⟨_,by rw[g.1];exact e,p,xs,n,v,rfl,rfl,g.2.seqT h,ha,q H (qi.refl H)⟩
end
inductive Tr where 
 |letter (c:Nat)|one
 |zero
 |neg (t:Tr)|bin (op:Nat)(t u:Tr)
noncomputable def qf0:List Nat:=[108,101,116,116,101,114]
theorem qbm:("letter":Str)=qj qf0:=by decide +kernel
def zE(H H':Hp):Prop:=∀ b xs,H b=some (.tup xs)->H' b=some (.tup xs)
theorem zj(g:qi H H'):zE H H':=λ _ _ e=>g _ _ e
theorem zE.updL(h:H l=some (.lst xs)):zE H (upd H l o):=λ b ys e=>by
 have:b≠l:=λ q=>by rw[q,h] at e;cases e
 rw[qu this];exact e
theorem zE.trans(a:zE H H1)(b:zE H1 H2):zE H H2:=λ c xs e=>b _ _ (a _ _ e)
noncomputable def Tr.ht:Tr->Nat
 |.neg t=>t.ht+1
 |.bin _ t u=>max t.ht u.ht+1
 |_=>1
def Tr.Of(ls:List Nat):Tr->Prop
 |.letter c=>c∈ls
 |.neg t=>t.Of ls
 |.bin op t u=>(op=38∨op=124∨op=43)/\t.Of ls/\u.Of ls
 |_=>True
section
variable {Γ:St->Hp->Prop}{t1 t2:TE}{u1 u2:TT}
theorem qqP(st:Stb Γ)(h1:Dt Γ u1 a)(h2:Dt Γ u2 b):Dt Γ (tOr u1 u2) (a || b):=λ σ H Q hΓ q=>h1 σ H _ hΓ λ H1 g1=>by
 cases a with
 |true=>exact kn (q H1 g1)
 |false=>exact yh (h2 σ H1 _ (st _ _ _ hΓ g1) λ H2 g2=>q H2 (g1.trans g2))
theorem dI0(st:Stb Γ)(h1:Dv Γ t1 (.int i))(h2:Dv Γ t2 (.int j)):Dv Γ (tOp (rI0 g) t1 t2) (g i j):=λ σ H Q hΓ q =>
 h1 σ H _ hΓ λ H1 g1=>h2 σ H1 _ (st _ _ _ hΓ g1) λ H2 g2=>⟨i,j,rfl,rfl,q H2 (g1.trans g2)⟩
theorem dIE(st:Stb Γ)(h1:Dv Γ t1 (.int i))(h2:Dv Γ t2 (.int j)):Dv Γ (tOp rEq t1 t2) (.bl (decide (i=j))):=λ σ H Q hΓ q =>
 h1 σ H _ hΓ λ H1 g1=>h2 σ H1 _ (st _ _ _ hΓ g1) λ H2 g2=>⟨rfl,by rw[show decide (V.int i=V.int j)=decide (i=j) by simp];exact q H2 (g1.trans g2)⟩
theorem qnT(st:Stb Γ)(h1:Dv Γ t1 (.int i))(hj:0<j):Dv Γ (tOp (rI (λ _ j=>0<j) λ i j=>.int (i % j)) t1 (tC (.int j))) (.int (i % j)):=λ σ H Q hΓ q =>
 h1 σ H _ hΓ λ H1 g1=>⟨i,j,rfl,rfl,hj,q H1 g1⟩
theorem qqQ(st:Stb Γ)(h1:Dv Γ t1 (.int i))(h2:Dv Γ t2 (.int j)):Dt Γ (qkA (tOp (rI0 λ i j=>.bl (decide (i<j))) t1 t2)) (decide (i<j)):=zB (dI0 st h1 h2)
theorem dC:Dv Γ (tC v) v:=λ σ H Q hΓ q=>q H (qi.refl H)
theorem dvA(e:σ0[i]?=some (some v)):Dv (At σ0 H0) (qfd i) v:=λ σ H Q g q=>⟨v,by rw[g.1];exact e,q H (qi.refl H)⟩
theorem qqR(e:σ0[i]?=some (some (.ref p)))(h:SqL K H0 p xs):Dv (At σ0 H0) (tCB (λ xs H Q=>∃ p ys,xs=[.ref p]/\(SqL K H p ys∨SqT K H p ys)/\Q (.int ys.length) H) (kf (qfd i) yR)) (.int xs.length):=λ σ H Q g q =>
 ⟨.ref p,by rw[g.1];exact e,p,xs,rfl,.inl (g.2.seq h),q H (qi.refl H)⟩
theorem yx(h:Dt Γ tc b)(hΓ:Γ σ H)(kA:b=true->∀ H',qi H H'->A D σ H')(kB:b=false->∀ H',qi H H'->B D σ H'):qpg tc A B D σ H:=h σ H _ hΓ λ H' g=>by
 cases b with
 |true=>exact kn (kA rfl H' g)
 |false=>exact yh (kB rfl H' g)
end
noncomputable def Tr.wt:Tr->Nat
 |.neg t=>t.wt+1
 |.bin _ t u=>t.wt+u.wt
 |_=>1
theorem Tr.wt_pos:∀ t:Tr,1<=t.wt
 |.letter _=>Q9 _
 |.one=>Q9 _
 |.zero=>Q9 _
 |.neg t=>by show 1<=t.wt+1;omega
 |.bin _ t u=>by have:=Tr.wt_pos t;show 1<=t.wt+u.wt;omega
theorem Tr.ht_wt:∀ t:Tr,t.ht<=t.wt
 |.letter _=>Q9 _
 |.one=>Q9 _
 |.zero=>Q9 _
 |.neg t=>Nat.succ_le_succ (Tr.ht_wt t)
 |.bin _ t u=>by
  have a:=Tr.ht_wt t;have b:=Tr.ht_wt u;have c:=Tr.wt_pos t;have d:=Tr.wt_pos u;show max t.ht u.ht+1<=t.wt+u.wt
  omega
theorem Tr.ht1(t:Tr):1<=t.ht:=by cases t <;> simp[Tr.ht]
theorem qaC{α:Type}(l:List α)(x:α):(l++[x])[(l++[x]).length-1]?=some x:=by simp
theorem qpP:("&|+":Str)=qj [38,124,43]:=by decide +kernel
theorem qoQ:("~":Str)=qj [126]:=by decide +kernel
theorem qpQ{l:List Nat}(h0:0<=i)(h:i<(l.length:Int)):∃ c∈l,atI l i=some c:=by
 have hk:i.toNat<l.length:=by omega
 have:=jc (xs:=l) (j:=i.toNat) (Xy hk)
 rw[show((i.toNat:Nat):Int)=i by omega] at this;exact⟨_,Us hk,this⟩
def Tr.Has(c:Nat):Tr->Prop
 |.letter l=>c=l
 |.neg t=>t.Has c
 |.bin _ t u=>t.Has c∨u.Has c
 |_=>False
theorem Tr.Of.has:∀{t:Tr},t.Of ls->t.Has c->c∈ls
 |.letter l,h,e=>by rw[show c=l from e];exact h
 |.neg t,h,e=>Tr.Of.has (t:=t) h e
 |.bin _ t u,h,e=>e.elim (Tr.Of.has (t:=t) h.2.1) (Tr.Of.has (t:=u) h.2.2)
 |.one,_,e=>e.elim
 |.zero,_,e=>e.elim
theorem qlw:("1":Str)=qj [49]:=by decide +kernel
theorem qid:("0":Str)=qj [48]:=by decide +kernel
theorem qlx:("&":Str)=qj [38]:=by decide +kernel
theorem qly:("|":Str)=qj [124]:=by decide +kernel
section
variable {Γ:St->Hp->Prop}{t1 t2:TE}
theorem jV(st:Stb Γ)(h1:Dv Γ t1 (vS p))(h2:Dv Γ t2 (vS q)):Dv Γ (tOp rEq t1 t2) (.bl (decide (p=q))):=λ σ H Q hΓ k =>
 h1 σ H _ hΓ λ H1 g1=>h2 σ H1 _ (st _ _ _ hΓ g1) λ H2 g2=>⟨rfl,by
  have e:decide (vS p=vS q)=decide (p=q):=by
   by_cases h:p=q
   ·rw[h];simp
   ·rw[Jm h,Jm λ e=>h (qhT e)]
  rw[e];exact k H2 (g1.trans g2)⟩
theorem qaS(e:σ0[i]?=some (some (.ref p)))(h:SqT K H0 p xs):Dv (At σ0 H0) (tCB (λ xs H Q=>∃ p ys,xs=[.ref p]/\(SqL K H p ys∨SqT K H p ys)/\Q (.int ys.length) H) (kf (qfd i) yR)) (.int xs.length):=λ σ H Q g q =>
 ⟨.ref p,by rw[g.1];exact e,p,xs,rfl,.inr (g.2.seqT h),q H (qi.refl H)⟩
theorem qaL(h:Dv Γ t1 v)(hΓ:Γ σ H)(k:∀ H',qi H H'->D.rt v H'):qmv t1 D σ H:=h σ H _ hΓ k
theorem qlz(h:Dv Γ t1 v)(hΓ:Γ σ H)(k:∀ H',qi H H'->D.nx (σ.set i (some v)) H'):qkv t1 (kc i) D σ H:=h σ H _ hΓ k
end
structure CA where 
 always:Addr
 never:Addr
 letter:Addr
 not:Addr
 and:Addr
 or:Addr
 either:Addr
noncomputable def CA.bin(c:CA)(op:Nat):Addr:=if op=38 then c.and else if op=124 then c.or else c.either
structure CTxt(K:W.Frag)(c:CA)(iL iN iP:Addr):Prop where
 always:Cls K c.always
 never:Cls K c.never
 letter:Cls K c.letter
 not:Cls K c.not
 and:Cls K c.and
 or:Cls K c.or
 either:Cls K c.either
 mAlways:Mk0 K c.always
 mNever:Mk0 K c.never
 mLetter:Mk K c.letter iL
 mNot:Mk K c.not iN
 mAnd:Mk K c.and iP
 mOr:Mk K c.or iP
 mEither:Mk K c.either iP
 aLetter:NoAttr K c.letter "letter"
 aNot:NoAttr K c.not "one"
 aAnd:NoAttr K c.and "one"/\NoAttr K c.and "other"
 aOr:NoAttr K c.or "one"/\NoAttr K c.or "other"
 aEither:NoAttr K c.either "one"/\NoAttr K c.either "other"
theorem CTxt.bin(h:CTxt K c iL iN iP)(op:Nat):Cls K (c.bin op)/\NoAttr K (c.bin op) "one"/\NoAttr K (c.bin op) "other":=by
 unfold CA.bin;split
 ·exact⟨h.and,h.aAnd⟩
 ·split
  ·exact⟨h.or,h.aOr⟩
  ·exact⟨h.either,h.aEither⟩
def qR(c:CA)(H:Hp):Tr->V->Prop
 | .letter l,v=>∃ a dx,v=.ref a/\H a=some (.ins c.letter dx [("letter",vS [l])])
 |.one,v=>∃ a dx,v=.ref a/\H a=some (.ins c.always dx [])
 |.zero,v=>∃ a dx,v=.ref a/\H a=some (.ins c.never dx [])
 | .neg t,v=>∃ a dx x,v=.ref a/\H a=some (.ins c.not dx [("one",x)])/\qR c H t x
 | .bin op t u,v=>∃ a dx x y,v=.ref a/\H a=some (.ins (c.bin op) dx [("one",x),("other",y)])/\qR c H t x/\qR c H u y
theorem qR.mono(g:qi H H'):∀{t:Tr}{v:V},qR c H t v->qR c H' t v
 |.letter _,_,⟨a,dx,e,h⟩=>⟨a,dx,e,g _ _ h⟩
 |.one,_,⟨a,dx,e,h⟩=>⟨a,dx,e,g _ _ h⟩
 |.zero,_,⟨a,dx,e,h⟩=>⟨a,dx,e,g _ _ h⟩
 |.neg t,_,⟨a,dx,x,e,h,r⟩=>⟨a,dx,x,e,g _ _ h,qR.mono g r⟩
 |.bin op t u,_,⟨a,dx,x,y,e,h,r,r'⟩=>⟨a,dx,x,y,e,g _ _ h,qR.mono g r,qR.mono g r'⟩
def qaD(K:W.Frag)(f:Str):Sp:=λ vs H Q _=>∃(C x dx:Addr)(y:V),vs=[.ref x,y]/\H x=some (.ins C dx [])/\Cls K C/\NoAttr K C f/\Q .non (upd H x (.ins C dx [(f,y)]))
def qf1(K:W.Frag)(f g:Str):Sp:=λ vs H Q _=>∃(C x dx:Addr)(y z:V),vs=[.ref x,y,z]/\H x=some (.ins C dx [])/\Cls K C/\NoAttr K C f/\NoAttr K C g/\Q .non (upd (upd H x (.ins C dx [(f,y)])) x (.ins C dx [(f,y),(g,z)]))
theorem qlA:FnScope ["self","letter"] ["self","letter"] (qh jQ):=scF
theorem qlB:FnScope ["self","one"] ["self","one"] (qh qbf):=scF
theorem qlC:FnScope ["self","one","other"] ["self","one","other"] (qh qah):=scF
theorem qlD(F:Fun K "__init__" "Letter.__init__" jQ f fd):FnOk P w K mg base CX0 (k+1) f fd ["self","letter"] (qaD K "letter"):=by
 refine F.okd qlA (λ cdv A outer s H vs Q E hr h=>?_);obtain⟨C,x,dx,y,rfl,hx,c,n,q⟩:=h;refine⟨_,qe (vj (pv 0) (pv 1) rfl),?_⟩;exact⟨_,rfl,_,rfl,x,C,dx,[],rfl,hx,c,n,by decide,q⟩
theorem qlE(F:Fun K "__init__" "Not.__init__" qbf f fd):FnOk P w K mg base CX0 (k+1) f fd ["self","one"] (qaD K "one"):=by
 refine F.okd qlB (λ cdv A outer s H vs Q E hr h=>?_);obtain⟨C,x,dx,y,rfl,hx,c,n,q⟩:=h;refine⟨_,qe (vj (pv 0) (pv 1) rfl),?_⟩;exact⟨_,rfl,_,rfl,x,C,dx,[],rfl,hx,c,n,by decide,q⟩
theorem qlF(F:Fun K "__init__" "Pair.__init__" qah f fd):FnOk P w K mg base CX0 (k+1) f fd ["self","one","other"] (qf1 K "one" "other"):=by
 refine F.okd qlC (λ cdv A outer s H vs Q E hr h=>?_);obtain⟨C,x,dx,y,z,rfl,hx,c,n,n2,q⟩:=h;refine⟨_,qd (vj (pv 0) (pv 1) rfl) (qe (vj (pv 0) (pv 2) rfl)),?_⟩;exact⟨_,rfl,_,rfl,x,C,dx,[],rfl,hx,c,n,by decide,_,rfl,_,rfl,x,C,dx,_,rfl,qc,c,n2,by show 1<1000;decide,q⟩
noncomputable def Tr.text:Tr->List Nat
 |.letter c=>[c]
 |.one=>[49]
 |.zero=>[48]
 |.neg t=>[126]++t.text
 |.bin op t u=>[40]++t.text++[op]++u.text++[41]
noncomputable def Tr.nodes:Tr->Int
 |.neg t=>1+t.nodes
 |.bin _ t u=>1+t.nodes+u.nodes
 |_=>1
noncomputable def Tr.lets:Tr->List Nat
 |.letter c=>[c]
 |.neg t=>t.lets
 |.bin _ t u=>uni t.lets u.lets
 |_=>[]
theorem Tr.text_len':∀ t:Tr,t.text.length+3<=4*t.wt
 |.letter _=>by show 1+3<=4*1;decide
 |.one=>by show 1+3<=4*1;decide
 |.zero=>by show 1+3<=4*1;decide
 |.neg t=>by
  have:=Tr.text_len' t
  show([126]++t.text).length+3<=4*(t.wt+1)
  rw[Ze,XW];omega
 |.bin op t u=>by
  have h1:=Tr.text_len' t;have h2:=Tr.text_len' u;show([40]++t.text++[op]++u.text++[41]).length+3<=4*(t.wt+u.wt)
  simp only[Ze,XW];omega
theorem Tr.text_len:∀ t:Tr,t.text.length<=4*t.wt
 |.letter _=>by show 1<=4*1;decide
 |.one=>by show 1<=4*1;decide
 |.zero=>by show 1<=4*1;decide
 |.neg t=>by
  have:=Tr.text_len t
  show([126]++t.text).length<=4*(t.wt+1)
  rw[Ze,XW];omega
 |.bin op t u=>by
  have h1:=Tr.text_len' t;have h2:=Tr.text_len' u;show([40]++t.text++[op]++u.text++[41]).length<=4*(t.wt+u.wt)
  simp only[Ze,XW];omega
theorem qng(p q:List Nat):(uni p q).length<=p.length+q.length:=by
 rw[<- Ze];exact jm (m:=p++q) (zc Qc (q0 _)) λ c hc=>U3.mpr (qi1.mp hc)
theorem Tr.lets_len:∀ t:Tr,t.lets.length<=t.wt
 |.letter _=>Q9 _
 |.one=>Va _
 |.zero=>Va _
 |.neg t=>Z6 (Tr.lets_len t)
 |.bin op t u=>Qu (qng _ _) (Nat.add_le_add (Tr.lets_len t) (Tr.lets_len u))
theorem Tr.lets_rise:∀ t:Tr,t.lets.Pairwise (·<·)
 |.letter _=>by simp[Tr.lets]
 |.one=>by simp[Tr.lets]
 |.zero=>by simp[Tr.lets]
 |.neg t=>Tr.lets_rise t
 |.bin op t u=>q0 _
theorem Tr.mem_lets:∀ t:Tr,c∈t.lets ↔ t.Has c
 |.letter _=>Zl
 |.one=>⟨λ h=>(by cases h),λ h=>h.elim⟩
 |.zero=>⟨λ h=>(by cases h),λ h=>h.elim⟩
 |.neg t=>Tr.mem_lets t
 |.bin op t u=>qi1.trans (or_congr (Tr.mem_lets t) (Tr.mem_lets u))
def kA(t:Tr):Prop:=t=.one
def kN(t:Tr):Prop:=t=.zero
def kL(t:Tr):Prop:=∃ l,t=.letter l
def kO(t:Tr):Prop:=∃ u,t=.neg u
def kD(t:Tr):Prop:=∃ u v,t=.bin 38 u v
def kR(t:Tr):Prop:=∃ u v,t=.bin 124 u v
def kE(t:Tr):Prop:=∃ u v,t=.bin 43 u v
def kP(t:Tr):Prop:=∃ op u v,t=.bin op u v
def spV(f:Tr->V)(c:CA)(n:Nat)(κ:Tr->Prop):Sp:=λ vs H Q _=>∃(o:V)(t:Tr),vs=[o]/\qR c H t o/\t.ht<=n/\t.wt<=1000/\t.Of zH/\κ t/\∀ H',qi H H'->Q (f t) H'
abbrev tV(f:Tr->V)(c:CA)(n:Nat)(m:Str)(κd κr κe:Tr->Prop)(te:TE):TE:=(λ σ H Q=>yC c.always m (spV f c n kA) [] E0 te yR σ H Q∨(λ σ H Q=>yC c.never m (spV f c n kN) [] E0 te yR σ H Q∨(λ σ H Q=>yC c.letter m (spV f c n kL) [] E0 te yR σ H Q∨(λ σ H Q=>yC c.not m (spV f c n kO) [] E0 te yR σ H Q∨(λ σ H Q=>yC c.and m (spV f c n κd) [] E0 te yR σ H Q∨(λ σ H Q=>yC c.or m (spV f c n κr) [] E0 te yR σ H Q∨yC c.either m (spV f c n κe) [] E0 te yR σ H Q) σ H Q) σ H Q) σ H Q) σ H Q) σ H Q)
theorem dV(hl:∀ x y:V,List.lookup m [(("letter":Str),x)]=none/\List.lookup m [(("one":Str),x)]=none/\List.lookup m [(("one":Str),x),(("other":Str),y)]=none)(hd:∀ u v,κd (.bin 38 u v))(hr:∀ u v,κr (.bin 124 u v))(he:∀ u v,κe (.bin 43 u v))(h1:Dv (At σ0 H0) te o)(ob:qR c H0 t o)(ht:t.ht<=n)(hw:t.wt<=1000)(of:t.Of zH):
  Dv (At σ0 H0) (tV f c n m κd κr κe te) (f t):=by
 intro σ H Q hΓ q;have go:∀(κ:Tr->Prop)(C:Addr)(a dx:Addr)(fs:List (Str×V)),κ t->o=.ref a->H0 a=some (.ins C dx fs)->fs.lookup m=none->yC C m (spV f c n κ) [] E0 te yR σ H Q:=λ κ C a dx fs hκ eo ha hl =>
  h1 σ H _ hΓ λ H1 g1=>⟨a,dx,fs,eo,(hΓ.2.trans g1) _ _ ha,hl,o,t,rfl,ob.mono (hΓ.2.trans g1),ht,hw,of,hκ,λ H' g=>q H' (g1.trans g)⟩
 cases t with
 |one=>obtain⟨a,dx,e,h⟩:=ob;exact .inl (go kA _ a dx _ rfl e h rfl)
 |zero=>obtain⟨a,dx,e,h⟩:=ob;exact .inr (.inl (go kN _ a dx _ rfl e h rfl))
 |letter l=>obtain⟨a,dx,e,h⟩:=ob;exact .inr (.inr (.inl (go kL _ a dx _ ⟨l,rfl⟩ e h (hl _ .non).1)))
 |neg u=>obtain⟨a,dx,x,e,h,_⟩:=ob;exact .inr (.inr (.inr (.inl (go kO _ a dx _ ⟨u,rfl⟩ e h (hl _ .non).2.1))))
 |bin op u v =>
  obtain⟨a,dx,x,y,e,h,_⟩:=ob;rcases of.1 with rfl|rfl|rfl
  ·exact .inr (.inr (.inr (.inr (.inl (go κd _ a dx _ (hd u v) e h (hl _ _).2.2)))))
  ·exact .inr (.inr (.inr (.inr (.inr (.inl (go κr _ a dx _ (hr u v) e h (hl _ _).2.2))))))
  ·exact .inr (.inr (.inr (.inr (.inr (.inr (go κe _ a dx _ (he u v) e h (hl _ _).2.2))))))
structure MTxt(K:W.Frag)(c:CA)(m:Str)(fA fN fL fO fD fR fE:Addr):Prop where
 always:Meth K c.always m fA
 never:Meth K c.never m fN
 letter:Meth K c.letter m fL
 not:Meth K c.not m fO
 and:Meth K c.and m fD
 or:Meth K c.or m fR
 either:Meth K c.either m fE
structure VOk(P:Program)(w:World)(K:W.Frag)(mg:Str->Option Value)(base:Heap)(f:Tr->V)(c:CA)(n:Nat)(κd κr κe:Tr->Prop)(fA fN fL fO fD fR fE:Addr)(dA dN dL dO dD dR dE:FuncData):Prop where
 always:FnOk P w K mg base CX0 n fA dA ["self"] (spV f c n kA)
 never:FnOk P w K mg base CX0 n fN dN ["self"] (spV f c n kN)
 letter:FnOk P w K mg base CX0 n fL dL ["self"] (spV f c n kL)
 not:FnOk P w K mg base CX0 n fO dO ["self"] (spV f c n kO)
 and:FnOk P w K mg base CX0 n fD dD ["self"] (spV f c n κd)
 or:FnOk P w K mg base CX0 n fR dR ["self"] (spV f c n κr)
 either:FnOk P w K mg base CX0 n fE dE ["self"] (spV f c n κe)
theorem qaM {pos:Pos}(he:PE X o ta)(C:CTxt X.K c iL iN iP)(M:MTxt X.K c m fA fN fL fO fD fR fE)(G:VOk X.prog X.w X.K X.mg X.base f c n κd κr κe fA fN fL fO fD fR fE dA dN dL dO dD dR dE)(hr:Room n X.A)(bA:qk X.K dA ["self"] [])(bN:qk X.K dN ["self"] [])(bL:qk X.K dL ["self"] [])(bO:qk X.K dO ["self"] [])(bD:qk X.K dD ["self"] [])(bR:qk X.K dR ["self"] [])(bE:qk X.K dE ["self"] [])(ht:eval (.Call (.Attribute o m apos) [] [] pos) X.env=(do
   let ov <- eval o X.env
   standAt apos.atName
   let (f,first) <- holding [ov] (getMethod ov m pl)
   callWith pos f first (backTo pos (starEach [] X.env)) (backToKw pos (keywordEach [] X.env))):=by rfl):PE X (.Call (.Attribute o m apos) [] [] pos) (tV f c n m κd κr κe ta):=
 PE.or (qE he C.always M.always G.always hr bA .nil qA ht) (PE.or (qE he C.never M.never G.never hr bN .nil qA ht) (PE.or (qE he C.letter M.letter G.letter hr bL .nil qA ht) (PE.or (qE he C.not M.not G.not hr bO .nil qA ht) (PE.or (qE he C.and M.and G.and hr bD .nil qA ht) (PE.or (qE he C.or M.or G.or hr bR .nil qA ht) (qE he C.either M.either G.either hr bE .nil qA ht))))))
theorem v1(e:σ0[0]?=some (some (.ref a)))(h:H0 a=some (.ins C dx fs))(c:Cls K C)(n:NoAttr K C f)(l:fs.lookup f=some v):Dv (At σ0 H0) (qpn K (qfd 0) f) v:=λ σ H Q g q =>
 ⟨.ref a,by rw[g.1];exact e,a,C,dx,fs,v,rfl,g.2 _ _ h,c,n,l,q H (qi.refl H)⟩
theorem jA(st:Stb Γ)(h1:Dv Γ t1 (vS p))(h2:Dv Γ t2 (vS q))(hl:p.length+q.length<=100000):Dv Γ (tOp rAS t1 t2) (vS (p++q)):=λ σ H Q hΓ k =>
 h1 σ H _ hΓ λ H1 g1=>h2 σ H1 _ (st _ _ _ hΓ g1) λ H2 g2=>⟨qj p,qj q,rfl,rfl,by rw[qy,qy];exact qz hl,by rw[yp];exact k H2 (g1.trans g2)⟩
theorem qd3:("(":Str)=qj [40]:=by decide +kernel
theorem qaE:(")":Str)=qj [41]:=by decide +kernel
theorem qlG:("+":Str)=qj [43]:=by decide +kernel
theorem qoR:("":Str)=qj []:=by decide +kernel
noncomputable abbrev yf(t:Tr):V:=vS t.text
noncomputable abbrev vSz(t:Tr):V:=.int t.nodes
theorem qep:FnScope ["self"] ["self"] (qh yJ):=scF
theorem qf2:FnScope ["self"] ["self"] (qh jg):=scF
theorem qeq:FnScope ["self"] ["self"] (qh yM):=scF
theorem qie:FnScope ["self"] ["self"] (qh vP):=scF
theorem qif:FnScope ["self"] ["self"] (qh vT):=scF
theorem qj6:FnScope ["self"] ["self"] (qh qaz):=scF
theorem qer:FnScope ["self"] ["self"] (qh yP):=scF
theorem qes:FnScope ["self"] ["self"] (qh yK):=scF
theorem qf3:FnScope ["self"] ["self"] (qh jh):=scF
theorem qet:FnScope ["self"] ["self"] (qh yN):=scF
theorem qig:FnScope ["self"] ["self"] (qh vQ):=scF
theorem qhf:FnScope ["self"] ["self"] (qh jM):=scF
section
variable {c:CA}{iL iN iP fA fN fL fO fD fR fE fP:Addr}{dA dN dL dO dD dR dE dP:FuncData}{n:Nat}
theorem qhg(F:Fun K "text" "Always.text" yJ fA dA):FnOk P w K mg base CX0 (n+1) fA dA ["self"] (spV yf c (n+1) kA):=by
 refine F.okd qep (λ cdv A outer s H vs Q E hr h=>?_);obtain⟨o,t,rfl,ob,ht,hw,of,rfl,q⟩:=h;refine⟨_,qe (qm qo),?_⟩;rw[qlw];exact q H (qi.refl H)
theorem qih(F:Fun K "text" "Never.text" jg fN dN):FnOk P w K mg base CX0 (n+1) fN dN ["self"] (spV yf c (n+1) kN):=by
 refine F.okd qf2 (λ cdv A outer s H vs Q E hr h=>?_);obtain⟨o,t,rfl,ob,ht,hw,of,rfl,q⟩:=h;refine⟨_,qe (qm qo),?_⟩;rw[qid];exact q H (qi.refl H)
theorem qhh(C:CTxt K c iL iN iP)(F:Fun K "text" "Letter.text" yM fL dL):FnOk P w K mg base CX0 (n+1) fL dL ["self"] (spV yf c (n+1) kL):=by
 refine F.okd qeq (λ cdv A outer s H vs Q E hr h=>?_);obtain⟨o,t,rfl,ob,ht,hw,of,⟨l,rfl⟩,q⟩:=h;refine⟨_,qe (qm (zi (pv 0) (by rfl))),?_⟩;obtain⟨a,dx,rfl,h⟩:=ob;exact qaL (v1 (K:=K) rfl h C.letter C.aLetter rfl) at0 q
theorem qlH(C:CTxt K c iL iN iP)(M:MTxt K c "text" fA fN fL fO fD fR fE)(G:VOk P w K mg base yf c n kD kR kE fA fN fL fO fD fR fE dA dN dL dO dD dR dE)(bA:qk K dA ["self"] [])(bN:qk K dN ["self"] [])(bL:qk K dL ["self"] [])(bO:qk K dO ["self"] [])(bD:qk K dD ["self"] [])(bR:qk K dR ["self"] [])(bE:qk K dE ["self"] [])(F:Fun K "text" "Not.text" vP fO dO):FnOk P w K mg base CX0 (n+1) fO dO ["self"] (spV yf c (n+1) kO):=by
 refine F.okd qie (λ cdv A outer s H vs Q E hr h=>?_);obtain⟨o,t,rfl,ob,ht,hw,of,⟨u,rfl⟩,q⟩:=h;have dY:u.wt+1<=1000:=hw;refine⟨_,qe (qm (qr qP qo (qaM (zi (pv 0) (by rfl)) C M G hr bA bN bL bO bD bR bE))),?_⟩;rw[qoQ];obtain⟨a,dx,x,rfl,h,ou⟩:=ob;exact qaL (jA qF dC (dV (f:=yf) (n:=n) (κd:=kD) (κr:=kR) (κe:=kE) (λ _ _=>⟨rfl,rfl,rfl⟩) (λ _ _=>⟨_,_,rfl⟩) (λ _ _=>⟨_,_,rfl⟩) (λ _ _=>⟨_,_,rfl⟩) (v1 rfl h C.not C.aNot rfl) ou (XQ ht) (by omega) of) (by have:=u.text_len;rw[XW];omega)) at0 q
theorem qlI(C:CTxt K c iL iN iP)(M:MTxt K c "text" fA fN fL fO fD fR fE)(G:VOk P w K mg base yf c n kD kR kE fA fN fL fO fD fR fE dA dN dL dO dD dR dE)(bA:qk K dA ["self"] [])(bN:qk K dN ["self"] [])(bL:qk K dL ["self"] [])(bO:qk K dO ["self"] [])(bD:qk K dD ["self"] [])(bR:qk K dR ["self"] [])(bE:qk K dE ["self"] [])(F:Fun K "text" "And.text" vT fD dD):FnOk P w K mg base CX0 (n+1) fD dD ["self"] (spV yf c (n+1) kD):=by
 refine F.okd qif (λ cdv A outer s H vs Q E hr h=>?_);obtain⟨o,t,rfl,ob,ht,hw,of,⟨u,v,rfl⟩,q⟩:=h;refine⟨_,qe (qm (qr qP (qr qP (qr qP (qr qP qo (qaM (zi (pv 0) (by rfl)) C M G hr bA bN bL bO bD bR bE)) qo) (qaM (zi (pv 0) (by rfl)) C M G hr bA bN bL bO bD bR bE)) qo)),?_⟩;rw[qd3,qaE,qlx];obtain⟨a,dx,x,y,rfl,h,ou,ov⟩:=ob;obtain⟨op3,fu,fv⟩:=of;have hm:max u.ht v.ht<=n:=XQ ht;have dY:u.wt+v.wt<=1000:=hw;obtain⟨cB,n1,n2⟩:=C.bin 38;have l1:=u.text_len;have l2:=v.text_len;exact qaL (jA qF (jA qF (jA qF (jA qF dC (dV (f:=yf) (n:=n) (κd:=kD) (κr:=kR) (κe:=kE) (λ _ _=>⟨rfl,rfl,rfl⟩) (λ _ _=>⟨_,_,rfl⟩) (λ _ _=>⟨_,_,rfl⟩) (λ _ _=>⟨_,_,rfl⟩) (v1 rfl h cB n1 rfl) ou (by omega) (by omega) fu) (by rw[XW];omega)) dC (by simp only[Ze,XW];omega)) (dV (f:=yf) (n:=n) (κd:=kD) (κr:=kR) (κe:=kE) (λ _ _=>⟨rfl,rfl,rfl⟩) (λ _ _=>⟨_,_,rfl⟩) (λ _ _=>⟨_,_,rfl⟩) (λ _ _=>⟨_,_,rfl⟩) (v1 rfl h cB n2 rfl) ov (by omega) (by omega) fv) (by simp only[Ze,XW];omega)) dC (by simp only[Ze,XW];omega)) at0 q
theorem qnh(C:CTxt K c iL iN iP)(M:MTxt K c "text" fA fN fL fO fD fR fE)(G:VOk P w K mg base yf c n kD kR kE fA fN fL fO fD fR fE dA dN dL dO dD dR dE)(bA:qk K dA ["self"] [])(bN:qk K dN ["self"] [])(bL:qk K dL ["self"] [])(bO:qk K dO ["self"] [])(bD:qk K dD ["self"] [])(bR:qk K dR ["self"] [])(bE:qk K dE ["self"] [])(F:Fun K "text" "Or.text" qaz fR dR):FnOk P w K mg base CX0 (n+1) fR dR ["self"] (spV yf c (n+1) kR):=by
 refine F.okd qj6 (λ cdv A outer s H vs Q E hr h=>?_);obtain⟨o,t,rfl,ob,ht,hw,of,⟨u,v,rfl⟩,q⟩:=h;refine⟨_,qe (qm (qr qP (qr qP (qr qP (qr qP qo (qaM (zi (pv 0) (by rfl)) C M G hr bA bN bL bO bD bR bE)) qo) (qaM (zi (pv 0) (by rfl)) C M G hr bA bN bL bO bD bR bE)) qo)),?_⟩;rw[qd3,qaE,qly];obtain⟨a,dx,x,y,rfl,h,ou,ov⟩:=ob;obtain⟨op3,fu,fv⟩:=of;have hm:max u.ht v.ht<=n:=XQ ht;have dY:u.wt+v.wt<=1000:=hw;obtain⟨cB,n1,n2⟩:=C.bin 124;have l1:=u.text_len;have l2:=v.text_len;exact qaL (jA qF (jA qF (jA qF (jA qF dC (dV (f:=yf) (n:=n) (κd:=kD) (κr:=kR) (κe:=kE) (λ _ _=>⟨rfl,rfl,rfl⟩) (λ _ _=>⟨_,_,rfl⟩) (λ _ _=>⟨_,_,rfl⟩) (λ _ _=>⟨_,_,rfl⟩) (v1 rfl h cB n1 rfl) ou (by omega) (by omega) fu) (by rw[XW];omega)) dC (by simp only[Ze,XW];omega)) (dV (f:=yf) (n:=n) (κd:=kD) (κr:=kR) (κe:=kE) (λ _ _=>⟨rfl,rfl,rfl⟩) (λ _ _=>⟨_,_,rfl⟩) (λ _ _=>⟨_,_,rfl⟩) (λ _ _=>⟨_,_,rfl⟩) (v1 rfl h cB n2 rfl) ov (by omega) (by omega) fv) (by simp only[Ze,XW];omega)) dC (by simp only[Ze,XW];omega)) at0 q
theorem qhi(C:CTxt K c iL iN iP)(M:MTxt K c "text" fA fN fL fO fD fR fE)(G:VOk P w K mg base yf c n kD kR kE fA fN fL fO fD fR fE dA dN dL dO dD dR dE)(bA:qk K dA ["self"] [])(bN:qk K dN ["self"] [])(bL:qk K dL ["self"] [])(bO:qk K dO ["self"] [])(bD:qk K dD ["self"] [])(bR:qk K dR ["self"] [])(bE:qk K dE ["self"] [])(F:Fun K "text" "Either.text" yP fE dE):FnOk P w K mg base CX0 (n+1) fE dE ["self"] (spV yf c (n+1) kE):=by
 refine F.okd qer (λ cdv A outer s H vs Q E hr h=>?_);obtain⟨o,t,rfl,ob,ht,hw,of,⟨u,v,rfl⟩,q⟩:=h;refine⟨_,qe (qm (qr qP (qr qP (qr qP (qr qP qo (qaM (zi (pv 0) (by rfl)) C M G hr bA bN bL bO bD bR bE)) qo) (qaM (zi (pv 0) (by rfl)) C M G hr bA bN bL bO bD bR bE)) qo)),?_⟩;rw[qd3,qaE,qlG];obtain⟨a,dx,x,y,rfl,h,ou,ov⟩:=ob;obtain⟨op3,fu,fv⟩:=of;have hm:max u.ht v.ht<=n:=XQ ht;have dY:u.wt+v.wt<=1000:=hw;obtain⟨cB,n1,n2⟩:=C.bin 43;have l1:=u.text_len;have l2:=v.text_len;exact qaL (jA qF (jA qF (jA qF (jA qF dC (dV (f:=yf) (n:=n) (κd:=kD) (κr:=kR) (κe:=kE) (λ _ _=>⟨rfl,rfl,rfl⟩) (λ _ _=>⟨_,_,rfl⟩) (λ _ _=>⟨_,_,rfl⟩) (λ _ _=>⟨_,_,rfl⟩) (v1 rfl h cB n1 rfl) ou (by omega) (by omega) fu) (by rw[XW];omega)) dC (by simp only[Ze,XW];omega)) (dV (f:=yf) (n:=n) (κd:=kD) (κr:=kR) (κe:=kE) (λ _ _=>⟨rfl,rfl,rfl⟩) (λ _ _=>⟨_,_,rfl⟩) (λ _ _=>⟨_,_,rfl⟩) (λ _ _=>⟨_,_,rfl⟩) (v1 rfl h cB n2 rfl) ov (by omega) (by omega) fv) (by simp only[Ze,XW];omega)) dC (by simp only[Ze,XW];omega)) at0 q
theorem qhj(F:Fun K "size" "Always.size" yK fA dA):FnOk P w K mg base CX0 (n+1) fA dA ["self"] (spV vSz c (n+1) kA):=by
 refine F.okd qes (λ cdv A outer s H vs Q E hr h=>?_);obtain⟨o,t,rfl,ob,ht,hw,of,rfl,q⟩:=h;refine⟨_,qe (qm qg),?_⟩;exact q H (qi.refl H)
theorem qii(F:Fun K "size" "Never.size" jh fN dN):FnOk P w K mg base CX0 (n+1) fN dN ["self"] (spV vSz c (n+1) kN):=by
 refine F.okd qf3 (λ cdv A outer s H vs Q E hr h=>?_);obtain⟨o,t,rfl,ob,ht,hw,of,rfl,q⟩:=h;refine⟨_,qe (qm qg),?_⟩;exact q H (qi.refl H)
theorem qhk(F:Fun K "size" "Letter.size" yN fL dL):FnOk P w K mg base CX0 (n+1) fL dL ["self"] (spV vSz c (n+1) kL):=by
 refine F.okd qet (λ cdv A outer s H vs Q E hr h=>?_);obtain⟨o,t,rfl,ob,ht,hw,of,⟨l,rfl⟩,q⟩:=h;exact⟨_,qe (qm qg),q H (qi.refl H)⟩
theorem qlJ(C:CTxt K c iL iN iP)(M:MTxt K c "size" fA fN fL fO fD fR fE)(G:VOk P w K mg base vSz c n kP kP kP fA fN fL fO fD fR fE dA dN dL dO dD dR dE)(bA:qk K dA ["self"] [])(bN:qk K dN ["self"] [])(bL:qk K dL ["self"] [])(bO:qk K dO ["self"] [])(bD:qk K dD ["self"] [])(bR:qk K dR ["self"] [])(bE:qk K dE ["self"] [])(F:Fun K "size" "Not.size" vQ fO dO):FnOk P w K mg base CX0 (n+1) fO dO ["self"] (spV vSz c (n+1) kO):=by
 refine F.okd qig (λ cdv A outer s H vs Q E hr h=>?_);obtain⟨o,t,rfl,ob,ht,hw,of,⟨u,rfl⟩,q⟩:=h;have dY:u.wt+1<=1000:=hw;refine⟨_,qe (qm (qr zR qg (qaM (zi (pv 0) (by rfl)) C M G hr bA bN bL bO bD bR bE))),?_⟩;obtain⟨a,dx,x,rfl,h,ou⟩:=ob;exact qaL (dI0 qF dC (dV (f:=vSz) (n:=n) (κd:=kP) (κr:=kP) (κe:=kP) (λ _ _=>⟨rfl,rfl,rfl⟩) (λ _ _=>⟨_,_,_,rfl⟩) (λ _ _=>⟨_,_,_,rfl⟩) (λ _ _=>⟨_,_,_,rfl⟩) (v1 rfl h C.not C.aNot rfl) ou (XQ ht) (by omega) of)) at0 q
theorem qcm(C:CTxt K c iL iN iP)(M:MTxt K c "size" fA fN fL fO fD fR fE)(G:VOk P w K mg base vSz c n kP kP kP fA fN fL fO fD fR fE dA dN dL dO dD dR dE)(bA:qk K dA ["self"] [])(bN:qk K dN ["self"] [])(bL:qk K dL ["self"] [])(bO:qk K dO ["self"] [])(bD:qk K dD ["self"] [])(bR:qk K dR ["self"] [])(bE:qk K dE ["self"] [])(F:Fun K "size" "Pair.size" jM fP dP):FnOk P w K mg base CX0 (n+1) fP dP ["self"] (spV vSz c (n+1) kP):=by
 refine F.okd qhf (λ cdv A outer s H vs Q E hr h=>?_);obtain⟨o,t,rfl,ob,ht,hw,of,⟨op,u,v,rfl⟩,q⟩:=h;refine⟨_,qe (qm (qr zR (qr zR qg (qaM (zi (pv 0) (by rfl)) C M G hr bA bN bL bO bD bR bE)) (qaM (zi (pv 0) (by rfl)) C M G hr bA bN bL bO bD bR bE))),?_⟩;obtain⟨a,dx,x,y,rfl,h,ou,ov⟩:=ob;obtain⟨op3,fu,fv⟩:=of;have hm:max u.ht v.ht<=n:=XQ ht;have dY:u.wt+v.wt<=1000:=hw;obtain⟨cB,n1,n2⟩:=C.bin op;exact qaL (dI0 qF (dI0 qF dC (dV (f:=vSz) (n:=n) (κd:=kP) (κr:=kP) (κe:=kP) (λ _ _=>⟨rfl,rfl,rfl⟩) (λ _ _=>⟨_,_,_,rfl⟩) (λ _ _=>⟨_,_,_,rfl⟩) (λ _ _=>⟨_,_,_,rfl⟩) (v1 rfl h cB n1 rfl) ou (by omega) (by omega) fu)) (dV (f:=vSz) (n:=n) (κd:=kP) (κr:=kP) (κe:=kP) (λ _ _=>⟨rfl,rfl,rfl⟩) (λ _ _=>⟨_,_,_,rfl⟩) (λ _ _=>⟨_,_,_,rfl⟩) (λ _ _=>⟨_,_,_,rfl⟩) (v1 rfl h cB n2 rfl) ov (by omega) (by omega) fv)) at0 q
theorem yy:FnOk P w K mg base CX0 0 g fd ["self"] (spV f c 0 κ):=
 ⟨λ vs H Q E h=>by obtain⟨_,t,_,_,h,_⟩:=h;have:=t.ht1;omega,λ A outer s H args us vs Q E _ _ _ _ h=>by obtain⟨_,t,_,_,h,_⟩:=h;have:=t.ht1;omega⟩
theorem qhl(C:CTxt K c iL iN iP)(M:MTxt K c "text" fA fN fL fO fD fR fE)(bA:qk K dA ["self"] [])(bN:qk K dN ["self"] [])(bL:qk K dL ["self"] [])(bO:qk K dO ["self"] [])(bD:qk K dD ["self"] [])(bR:qk K dR ["self"] [])(bE:qk K dE ["self"] [])(FA:Fun K "text" "Always.text" yJ fA dA)(FN:Fun K "text" "Never.text" jg fN dN)(FL:Fun K "text" "Letter.text" yM fL dL)(FO:Fun K "text" "Not.text" vP fO dO)(FD:Fun K "text" "And.text" vT fD dD)(FR:Fun K "text" "Or.text" qaz fR dR)(FE:Fun K "text" "Either.text" yP fE dE):
  ∀ n,VOk P w K mg base yf c n kD kR kE fA fN fL fO fD fR fE dA dN dL dO dD dR dE
 |0=>⟨yy,yy,yy,yy,yy,yy,yy⟩
 |n+1 =>
  have G:=qhl C M bA bN bL bO bD bR bE FA FN FL FO FD FR FE n
  ⟨qhg FA,qih FN,qhh C FL,qlH C M G bA bN bL bO bD bR bE FO,qlI C M G bA bN bL bO bD bR bE FD,qnh C M G bA bN bL bO bD bR bE FR,qhi C M G bA bN bL bO bD bR bE FE⟩
theorem qhm(C:CTxt K c iL iN iP)(M:MTxt K c "size" fA fN fL fO fP fP fP)(bA:qk K dA ["self"] [])(bN:qk K dN ["self"] [])(bL:qk K dL ["self"] [])(bO:qk K dO ["self"] [])(bP:qk K dP ["self"] [])(FA:Fun K "size" "Always.size" yK fA dA)(FN:Fun K "size" "Never.size" jh fN dN)(FL:Fun K "size" "Letter.size" yN fL dL)(FO:Fun K "size" "Not.size" vQ fO dO)(FP:Fun K "size" "Pair.size" jM fP dP):
  ∀ n,VOk P w K mg base vSz c n kP kP kP fA fN fL fO fP fP fP dA dN dL dO dP dP dP
 |0=>⟨yy,yy,yy,yy,yy,yy,yy⟩
 |n+1 =>
  have G:=qhm C M bA bN bL bO bP FA FN FL FO FP n
  ⟨qhj FA,qii FN,qhk FL,qlJ C M G bA bN bL bO bP bP bP FO,qcm C M G bA bN bL bO bP bP bP FP,qcm C M G bA bN bL bO bP bP bP FP,qcm C M G bA bN bL bO bP bP bP FP⟩
end
noncomputable def Tr.val(ρ:Nat->Bool):Tr->Bool
 |.letter c=>ρ c
 |.one=>true
 |.zero=>false
 |.neg t=>!t.val ρ
 |.bin op t u=>if op=38 then t.val ρ && u.val ρ else if op=124 then t.val ρ || u.val ρ else t.val ρ != u.val ρ
noncomputable def Tr.form:Tr->List Pr
 |.letter l=>[[l]]
 |.one=>[[]]
 |.zero=>[]
 |.neg t=>opp t.form
 |.bin op t u=>if op=38 then mult t.form u.form else if op=124 then join t.form u.form else added t.form u.form
theorem qj7(h:l∈ls):On ls [[l]]:=⟨⟨by simp,by simp⟩,λ p hp c hc=>by
 rw[Zl.mp hp] at hc;rw[Zl.mp hc];exact h⟩
theorem Tr.on:∀{t:Tr},t.Of ls->On ls t.form
 |.letter _,h=>qj7 h
 |.one,_=>On.one ls
 |.zero,_=>On.nil ls
 |.neg t,h=>On.opp (Tr.on (t:=t) h)
 |.bin op t u,h=>by
  have h1:=Tr.on (t:=t) h.2.1;have h2:=Tr.on (t:=u) h.2.2;unfold Tr.form;split
  ·exact h1.mult h2
  ·split
   ·exact h1.join h2
   ·exact h1.added h2
theorem Tr.form_worth(ρ:Nat->Bool):∀{t:Tr},t.Of ls->qt ρ t.form=t.val ρ
 |.letter _,_=>by simp[Tr.form,Tr.val,qt]
 |.one,_=>by simp[Tr.form,Tr.val,qt]
 |.zero,_=>by simp[Tr.form,Tr.val,qt]
 |.neg t,h=>by
  have h1:=Tr.on (t:=t) h;show qt ρ (opp t.form)=!t.val ρ
  rw[yd ρ h1.vf,Tr.form_worth ρ (t:=t) h]
 |.bin op t u,h=>by
  have h1:=Tr.on (t:=t) h.2.1;have h2:=Tr.on (t:=u) h.2.2;have e1:=Tr.form_worth ρ (t:=t) h.2.1;have e2:=Tr.form_worth ρ (t:=u) h.2.2;unfold Tr.form Tr.val;split
  ·rw[qaX ρ h1.vf h2.vf,e1,e2]
  ·split
   ·rw[qaY ρ h1.vf h2.vf,e1,e2]
   ·rw[yT ρ h1.vf h2.vf,e1,e2]
theorem jj{t u:Tr}(h:∀ c,t.Has c->u.Has c):t.lets.length<=u.lets.length:=jm (zc Qc t.lets_rise) λ c hc=>u.mem_lets.mpr (h c (t.mem_lets.mp hc))
theorem Tr.Of.sub:∀{t:Tr},t.Of ls->(∀ c,t.Has c->c∈us)->t.Of us
 |.letter l,_,h=>h l rfl
 |.neg t,o,h=>Tr.Of.sub (t:=t) o h
 |.bin _ t u,o,h=>⟨o.1,Tr.Of.sub (t:=t) o.2.1 λ c hc=>h c (.inl hc),Tr.Of.sub (t:=u) o.2.2 λ c hc=>h c (.inr hc)⟩
 |.one,_,_=>trivial
 |.zero,_,_=>trivial
def Szd(t:Tr):Prop:=t.Of zH/\(t.lets.length<=6∨t.wt<=10)
theorem Szd.neg(h:Szd (.neg t)):Szd t:=⟨h.1,h.2.elim .inl λ x=>.inr (Nat.le_of_succ_le x)⟩
theorem Szd.l(h:Szd (.bin op t u)):Szd t:=⟨h.1.2.1,h.2.elim (λ x=>.inl (Qu (jj (t:=t) (u:=.bin op t u) λ c hc=>.inl hc) x)) λ x=>.inr (by have:t.wt+u.wt<=10:=x;omega)⟩
theorem Szd.r(h:Szd (.bin op t u)):Szd u:=⟨h.1.2.2,h.2.elim (λ x=>.inl (Qu (jj (t:=u) (u:=.bin op t u) λ c hc=>.inr hc) x)) λ x=>.inr (by have:t.wt+u.wt<=10:=x;omega)⟩
theorem Tr.onl{t:Tr}(h:t.Of zH):On t.lets t.form:=Tr.on (Tr.Of.sub h λ c hc=>t.mem_lets.mpr hc)
theorem qni:∀ a,a<=9->∀ b,b<=9->a+b<=10->a*2^a+b*2^b<=8000:=by decide
theorem qoS:∀ a,a<=6->a*2^a<=384:=by decide
theorem Szd.flat(h:Szd (.bin op t u)):t.form.flatten.length+u.form.flatten.length<=4000:=by
 have f1:=(Tr.onl h.1.2.1).flat2 t.lets_rise;have f2:=(Tr.onl h.1.2.2).flat2 u.lets_rise;have l1:=t.lets_len;have l2:=u.lets_len;rcases h.2 with x|x
 ·have a1:=qoS t.lets.length (Qu (jj (t:=t) (u:=.bin op t u) λ c hc=>.inl hc) x);have a2:=qoS u.lets.length (Qu (jj (t:=u) (u:=.bin op t u) λ c hc=>.inr hc) x);omega
 ·have hx:t.wt+u.wt<=10:=x;have p1:=t.wt_pos;have p2:=u.wt_pos
  have:=qni t.lets.length (by omega) u.lets.length (by omega) (by omega)
  omega
theorem qoT:Ok9 zH:=⟨qj5,by decide⟩
def gA(t:Tr):Prop:=t=.one
def gN(t:Tr):Prop:=t=.zero
def gL(t:Tr):Prop:=∃ l,t=.letter l
def gO(t:Tr):Prop:=∃ u,t=.neg u
def gD(t:Tr):Prop:=∃ u v,t=.bin 38 u v
def gR(t:Tr):Prop:=∃ u v,t=.bin 124 u v
def gE(t:Tr):Prop:=∃ op u v,t=.bin op u v/\¬ op=38/\¬ op=124
def DT(Γ:St->Hp->Prop)(te:TE)(F:List Pr):Prop:=∀ σ H Q,Γ σ H->(∀ r H',qi H H'->H' r=some (.tup (F.map vS))->Q (.ref r) H')->te σ H Q
section
variable {Γ:St->Hp->Prop}{t1 t2:TE}{F G:List Pr}{g:List Pr->List Pr->List Pr}{g1:List Pr->List Pr}
theorem dT2(st:Stb Γ)(h1:DT Γ t1 F)(h2:DT Γ t2 G)(oF:On zH F)(oG:On zH G)(hf:F.flatten.length+G.flatten.length<=4000):DT Γ (qcv (sp2 K g) [] E0 (kf t1 (kf t2 yR))) (g F G):=λ σ H Q hΓ q =>
 h1 σ H _ hΓ λ r1 H1 g1 e1=>h2 σ H1 _ (st _ _ _ hΓ g1) λ r2 H2 g2 e2=>⟨r1,r2,F,G,zH,rfl,SqT.of (g2 _ _ e1),SqT.of e2,qoT,oF,oG,hf,λ r H' g e=>q r H' ((g1.trans g2).trans g) e⟩
theorem qqS(st:Stb Γ)(h1:DT Γ t1 F)(h2:DT Γ t2 G)(oF:On zH F)(oG:On zH G):DT Γ (qcv (qic K g) [] E0 (kf t1 (kf t2 yR))) (g F G):=λ σ H Q hΓ q =>
 h1 σ H _ hΓ λ r1 H1 g1 e1=>h2 σ H1 _ (st _ _ _ hΓ g1) λ r2 H2 g2 e2=>⟨r1,r2,F,G,zH,rfl,SqT.of (g2 _ _ e1),SqT.of e2,qoT,oF,oG,λ r H' g e=>q r H' ((g1.trans g2).trans g) e⟩
theorem dT1(h1:DT Γ t1 F)(oF:On zH F):DT Γ (qcv (sp1 K g1) [] E0 (kf t1 yR)) (g1 F):=λ σ H Q hΓ q =>
 h1 σ H _ hΓ λ r1 H1 g1 e1=>⟨r1,F,zH,rfl,SqT.of e1,qoT,oF,λ r H' g e=>q r H' (g1.trans g) e⟩
theorem qi6(h:DT Γ t1 F)(hΓ:Γ σ H)(k:∀ r H',qi H H'->H' r=some (.tup (F.map vS))->D.rt (.ref r) H'):qmv t1 D σ H:=h σ H _ hΓ k
end
def jB(K:W.Frag)(c:CA)(n:Nat)(κ:Tr->Prop):Sp:=λ vs H Q _=>∃(o:V)(t:Tr),vs=[o]/\qR c H t o/\t.ht<=n/\Szd t/\κ t/\∀ r H',qi H H'->H' r=some (.tup (t.form.map vS))->Q (.ref r) H'
abbrev tFm(K:W.Frag)(c:CA)(n:Nat)(te:TE):TE:=(λ σ H Q=>yC c.always "form" (jB K c n gA) [] E0 te yR σ H Q∨(λ σ H Q=>yC c.never "form" (jB K c n gN) [] E0 te yR σ H Q∨(λ σ H Q=>yC c.letter "form" (jB K c n gL) [] E0 te yR σ H Q∨(λ σ H Q=>yC c.not "form" (jB K c n gO) [] E0 te yR σ H Q∨(λ σ H Q=>yC c.and "form" (jB K c n gD) [] E0 te yR σ H Q∨(λ σ H Q=>yC c.or "form" (jB K c n gR) [] E0 te yR σ H Q∨yC c.either "form" (jB K c n gE) [] E0 te yR σ H Q) σ H Q) σ H Q) σ H Q) σ H Q) σ H Q)
theorem dfm(h1:Dv (At σ0 H0) te o)(ob:qR c H0 t o)(ht:t.ht<=n)(sz:Szd t):
  DT (At σ0 H0) (tFm K c n te) t.form:=by
 intro σ H Q hΓ q;have go:∀(κ:Tr->Prop)(C:Addr)(a dx:Addr)(fs:List (Str×V)),κ t->o=.ref a->H0 a=some (.ins C dx fs)->fs.lookup ("form":Str)=none->yC C "form" (jB K c n κ) [] E0 te yR σ H Q:=λ κ C a dx fs hκ eo ha hl =>
  h1 σ H _ hΓ λ H1 g1=>⟨a,dx,fs,eo,(hΓ.2.trans g1) _ _ ha,hl,o,t,rfl,ob.mono (hΓ.2.trans g1),ht,sz,hκ,λ r H' g e=>q r H' (g1.trans g) e⟩
 cases t with
 |one=>obtain⟨a,dx,e,h⟩:=ob;exact .inl (go gA _ a dx _ rfl e h rfl)
 |zero=>obtain⟨a,dx,e,h⟩:=ob;exact .inr (.inl (go gN _ a dx _ rfl e h rfl))
 |letter l=>obtain⟨a,dx,e,h⟩:=ob;exact .inr (.inr (.inl (go gL _ a dx _ ⟨l,rfl⟩ e h rfl)))
 |neg u=>obtain⟨a,dx,x,e,h,_⟩:=ob;exact .inr (.inr (.inr (.inl (go gO _ a dx _ ⟨u,rfl⟩ e h rfl))))
 |bin op u v =>
  obtain⟨a,dx,x,y,e,h,_⟩:=ob;by_cases e38:op=38
  ·rw[CA.bin,Vz e38] at h;exact .inr (.inr (.inr (.inr (.inl (go gD _ a dx _ ⟨u,v,by rw[e38]⟩ e h rfl)))))
  ·by_cases e124:op=124
   ·rw[CA.bin,V0 e38,Vz e124] at h;exact .inr (.inr (.inr (.inr (.inr (.inl (go gR _ a dx _ ⟨u,v,by rw[e124]⟩ e h rfl))))))
   ·rw[CA.bin,V0 e38,V0 e124] at h;exact .inr (.inr (.inr (.inr (.inr (.inr (go gE _ a dx _ ⟨op,u,v,rfl,e38,e124⟩ e h rfl))))))
structure FTxt(K:W.Frag)(c:CA)(fA fN fL fO fD fR fE:Addr):Prop where
 always:Meth K c.always "form" fA
 never:Meth K c.never "form" fN
 letter:Meth K c.letter "form" fL
 not:Meth K c.not "form" fO
 and:Meth K c.and "form" fD
 or:Meth K c.or "form" fR
 either:Meth K c.either "form" fE
structure FOk(P:Program)(w:World)(K:W.Frag)(mg:Str->Option Value)(base:Heap)(c:CA)(n:Nat)(fA fN fL fO fD fR fE:Addr)(dA dN dL dO dD dR dE:FuncData):Prop where
 always:FnOk P w K mg base CX0 (n+13) fA dA ["self"] (jB K c n gA)
 never:FnOk P w K mg base CX0 (n+13) fN dN ["self"] (jB K c n gN)
 letter:FnOk P w K mg base CX0 (n+13) fL dL ["self"] (jB K c n gL)
 not:FnOk P w K mg base CX0 (n+13) fO dO ["self"] (jB K c n gO)
 and:FnOk P w K mg base CX0 (n+13) fD dD ["self"] (jB K c n gD)
 or:FnOk P w K mg base CX0 (n+13) fR dR ["self"] (jB K c n gR)
 either:FnOk P w K mg base CX0 (n+13) fE dE ["self"] (jB K c n gE)
theorem qd4 {pos:Pos}(he:PE X o ta)(C:CTxt X.K c iL iN iP)(M:FTxt X.K c fA fN fL fO fD fR fE)(G:FOk X.prog X.w X.K X.mg X.base c n fA fN fL fO fD fR fE dA dN dL dO dD dR dE)(hr:Room (n+13) X.A)(bA:qk X.K dA ["self"] [])(bN:qk X.K dN ["self"] [])(bL:qk X.K dL ["self"] [])(bO:qk X.K dO ["self"] [])(bD:qk X.K dD ["self"] [])(bR:qk X.K dR ["self"] [])(bE:qk X.K dE ["self"] [])(ht:eval (.Call (.Attribute o "form" apos) [] [] pos) X.env=(do
   let ov <- eval o X.env
   standAt apos.atName
   let (f,first) <- holding [ov] (getMethod ov "form" pl)
   callWith pos f first (backTo pos (starEach [] X.env)) (backToKw pos (keywordEach [] X.env))):=by rfl):PE X (.Call (.Attribute o "form" apos) [] [] pos) (tFm X.K c n ta):=
 PE.or (qE he C.always M.always G.always hr bA .nil qA ht) (PE.or (qE he C.never M.never G.never hr bN .nil qA ht) (PE.or (qE he C.letter M.letter G.letter hr bL .nil qA ht) (PE.or (qE he C.not M.not G.not hr bO .nil qA ht) (PE.or (qE he C.and M.and G.and hr bD .nil qA ht) (PE.or (qE he C.or M.or G.or hr bR .nil qA ht) (qE he C.either M.either G.either hr bE .nil qA ht))))))
structure FFn(P:Program)(w:World)(K:W.Frag)(mg:Str->Option Value)(base:Heap)(fa fm fj fo:Addr)(da dm dj dp:FuncData):Prop where
 Ga:FnOk P w K mg base CX0 1 fa da ["one","other"] (qic K added)
 ba:qk K da ["one","other"] []
 ka:W.keepIn K (.ref fa)=true
 ma:mg "added"=some (.ref fa)
 Gm:FnOk P w K mg base CX0 12 fm dm ["one","other"] (sp2 K mult)
 bm:qk K dm ["one","other"] []
 km:W.keepIn K (.ref fm)=true
 mm:mg "multiplied"=some (.ref fm)
 Gj:FnOk P w K mg base CX0 13 fj dj ["one","other"] (sp2 K join)
 bj:qk K dj ["one","other"] []
 kj:W.keepIn K (.ref fj)=true
 mj:mg "joined"=some (.ref fj)
 Go:FnOk P w K mg base CX0 2 fo dp ["form"] (sp1 K opp)
 bo:qk K dp ["form"] []
 ko:W.keepIn K (.ref fo)=true
 mo:mg "opposite"=some (.ref fo)
theorem qij:FnScope ["self"] ["self"] (qh yL):=scF
theorem qj8:FnScope ["self"] ["self"] (qh ji):=scF
theorem qik:FnScope ["self"] ["self"] (qh yO):=scF
theorem qnj:FnScope ["self"] ["self"] (qh vR):=scF
theorem qnk:FnScope ["self"] ["self"] (qh vU):=scF
theorem qoU:FnScope ["self"] ["self"] (qh qaA):=scF
theorem qil:FnScope ["self"] ["self"] (qh yQ):=scF
section
variable {c:CA}{iL iN iP fA fN fL fO fD fR fE fa fm fj fo:Addr}{dA dN dL dO dD dR dE da dm dj dp:FuncData}{n:Nat}
theorem qlK(F:Fun K "form" "Always.form" yL fA dA):FnOk P w K mg base CX0 (n+1+13) fA dA ["self"] (jB K c (n+1) gA):=by
 refine F.okd qij (λ cdv A outer s H vs Q E hr h=>?_);obtain⟨o,t,rfl,ob,ht,sz,rfl,q⟩:=h;refine⟨_,qe (qm (zC (qa qo qb))),?_⟩;exact⟨qz (by show 1<=_;decide),λ p hp=>q p _ (qi.up hp) (by rw[qc,qnf];rfl)⟩
theorem qnl(F:Fun K "form" "Never.form" ji fN dN):FnOk P w K mg base CX0 (n+1+13) fN dN ["self"] (jB K c (n+1) gN):=by
 refine F.okd qj8 (λ cdv A outer s H vs Q E hr h=>?_);obtain⟨o,t,rfl,ob,ht,sz,rfl,q⟩:=h;refine⟨_,qe (qm (zC qb)),?_⟩;exact⟨Va _,λ p hp=>q p _ (qi.up hp) qc⟩
theorem qlL(C:CTxt K c iL iN iP)(F:Fun K "form" "Letter.form" yO fL dL):FnOk P w K mg base CX0 (n+1+13) fL dL ["self"] (jB K c (n+1) gL):=by
 refine F.okd qik (λ cdv A outer s H vs Q E hr h=>?_);obtain⟨o,t,rfl,ob,ht,sz,⟨l,rfl⟩,q⟩:=h;refine⟨_,qe (qm (zC (qa (zi (pv 0) rfl) qb))),?_⟩;obtain⟨a,dx,rfl,h⟩:=ob;exact v1 (K:=K) rfl h C.letter C.aLetter rfl _ _ _ at0 λ H1 g1=>⟨qz (by show 1<=_;decide),λ p hp=>q p _ (g1.to hp) qc⟩
theorem qpR(C:CTxt K c iL iN iP)(M:FTxt K c fA fN fL fO fD fR fE)(G:FOk P w K mg base c n fA fN fL fO fD fR fE dA dN dL dO dD dR dE)(N:FFn P w K mg base fa fm fj fo da dm dj dp)(bA:qk K dA ["self"] [])(bN:qk K dN ["self"] [])(bL:qk K dL ["self"] [])(bO:qk K dO ["self"] [])(bD:qk K dD ["self"] [])(bR:qk K dR ["self"] [])(bE:qk K dE ["self"] [])(F:Fun K "form" "Not.form" vR fO dO):FnOk P w K mg base CX0 (n+1+13) fO dO ["self"] (jB K c (n+1) gO):=by
 refine F.okd qnj (λ cdv A outer s H vs Q E hr h=>?_);obtain⟨o,t,rfl,ob,ht,sz,⟨u,rfl⟩,q⟩:=h;have K5:Room (n+13) _:=hr.mono (by omega);have eK:Room 2 _:=hr.mono (by omega);refine⟨_,qe (qm (qM N.Go eK (by rfl) N.mo N.ko N.bo .nil qA (qa (qd4 (zi (pv 0) (by rfl)) C M G K5 bA bN bL bO bD bR bE) qb))),?_⟩;obtain⟨a,dx,x,rfl,h,ou⟩:=ob;exact qi6 (dT1 (dfm (n:=n) (v1 rfl h C.not C.aNot rfl) ou (XQ ht) sz.neg) (Tr.on (t:=u) sz.1)) at0 q
theorem qpS(C:CTxt K c iL iN iP)(M:FTxt K c fA fN fL fO fD fR fE)(G:FOk P w K mg base c n fA fN fL fO fD fR fE dA dN dL dO dD dR dE)(N:FFn P w K mg base fa fm fj fo da dm dj dp)(bA:qk K dA ["self"] [])(bN:qk K dN ["self"] [])(bL:qk K dL ["self"] [])(bO:qk K dO ["self"] [])(bD:qk K dD ["self"] [])(bR:qk K dR ["self"] [])(bE:qk K dE ["self"] [])(F:Fun K "form" "And.form" vU fD dD):FnOk P w K mg base CX0 (n+1+13) fD dD ["self"] (jB K c (n+1) gD):=by
 refine F.okd qnk (λ cdv A outer s H vs Q E hr h=>?_);obtain⟨o,t,rfl,ob,ht,sz,⟨u,v,rfl⟩,q⟩:=h;have K5:Room (n+13) _:=hr.mono (by omega);have tL:Room 12 _:=hr.mono (by omega);refine⟨_,qe (qm (qM N.Gm tL (by rfl) N.mm N.km N.bm .nil qA (qa (qd4 (zi (pv 0) (by rfl)) C M G K5 bA bN bL bO bD bR bE) (qa (qd4 (zi (pv 0) (by rfl)) C M G K5 bA bN bL bO bD bR bE) qb)))),?_⟩;obtain⟨a,dx,x,y,rfl,h,ou,ov⟩:=ob;have hb:c.bin 38=c.and:=by rw[CA.bin,Vz rfl]
 rw[hb] at h;obtain⟨_,fu,fv⟩:=sz.1;have hm:max u.ht v.ht<=n:=XQ ht;rw[Tr.form,Vz rfl] at q;exact qi6 (dT2 qF (dfm (n:=n) (v1 rfl h C.and C.aAnd.1 rfl) ou (by omega) sz.l) (dfm (n:=n) (v1 rfl h C.and C.aAnd.2 rfl) ov (by omega) sz.r) (Tr.on (t:=u) fu) (Tr.on (t:=v) fv) sz.flat) at0 q
theorem qqT(C:CTxt K c iL iN iP)(M:FTxt K c fA fN fL fO fD fR fE)(G:FOk P w K mg base c n fA fN fL fO fD fR fE dA dN dL dO dD dR dE)(N:FFn P w K mg base fa fm fj fo da dm dj dp)(bA:qk K dA ["self"] [])(bN:qk K dN ["self"] [])(bL:qk K dL ["self"] [])(bO:qk K dO ["self"] [])(bD:qk K dD ["self"] [])(bR:qk K dR ["self"] [])(bE:qk K dE ["self"] [])(F:Fun K "form" "Or.form" qaA fR dR):FnOk P w K mg base CX0 (n+1+13) fR dR ["self"] (jB K c (n+1) gR):=by
 refine F.okd qoU (λ cdv A outer s H vs Q E hr h=>?_);obtain⟨o,t,rfl,ob,ht,sz,⟨u,v,rfl⟩,q⟩:=h;have K5:Room (n+13) _:=hr.mono (by omega);have tL:Room 13 _:=hr.mono (by omega);refine⟨_,qe (qm (qM N.Gj tL (by rfl) N.mj N.kj N.bj .nil qA (qa (qd4 (zi (pv 0) (by rfl)) C M G K5 bA bN bL bO bD bR bE) (qa (qd4 (zi (pv 0) (by rfl)) C M G K5 bA bN bL bO bD bR bE) qb)))),?_⟩;obtain⟨a,dx,x,y,rfl,h,ou,ov⟩:=ob;have hb:c.bin 124=c.or:=by rw[CA.bin,V0 (by decide),Vz rfl]
 rw[hb] at h;obtain⟨_,fu,fv⟩:=sz.1;have hm:max u.ht v.ht<=n:=XQ ht;rw[Tr.form,V0 (by decide),Vz rfl] at q;exact qi6 (dT2 qF (dfm (n:=n) (v1 rfl h C.or C.aOr.1 rfl) ou (by omega) sz.l) (dfm (n:=n) (v1 rfl h C.or C.aOr.2 rfl) ov (by omega) sz.r) (Tr.on (t:=u) fu) (Tr.on (t:=v) fv) sz.flat) at0 q
theorem qlM(C:CTxt K c iL iN iP)(M:FTxt K c fA fN fL fO fD fR fE)(G:FOk P w K mg base c n fA fN fL fO fD fR fE dA dN dL dO dD dR dE)(N:FFn P w K mg base fa fm fj fo da dm dj dp)(bA:qk K dA ["self"] [])(bN:qk K dN ["self"] [])(bL:qk K dL ["self"] [])(bO:qk K dO ["self"] [])(bD:qk K dD ["self"] [])(bR:qk K dR ["self"] [])(bE:qk K dE ["self"] [])(F:Fun K "form" "Either.form" yQ fE dE):FnOk P w K mg base CX0 (n+1+13) fE dE ["self"] (jB K c (n+1) gE):=by
 refine F.okd qil (λ cdv A outer s H vs Q E hr h=>?_);obtain⟨o,t,rfl,ob,ht,sz,⟨op,u,v,rfl,mY,cA⟩,q⟩:=h;have K5:Room (n+13) _:=hr.mono (by omega);have tL:Room 1 _:=hr.mono (by omega);refine⟨_,qe (qm (qM N.Ga tL (by rfl) N.ma N.ka N.ba .nil qA (qa (qd4 (zi (pv 0) (by rfl)) C M G K5 bA bN bL bO bD bR bE) (qa (qd4 (zi (pv 0) (by rfl)) C M G K5 bA bN bL bO bD bR bE) qb)))),?_⟩;obtain⟨a,dx,x,y,rfl,h,ou,ov⟩:=ob;have hb:c.bin op=c.either:=by rw[CA.bin,V0 mY,V0 cA]
 rw[hb] at h;obtain⟨_,fu,fv⟩:=sz.1;have hm:max u.ht v.ht<=n:=XQ ht;rw[Tr.form,V0 mY,V0 cA] at q;exact qi6 (qqS qF (dfm (n:=n) (v1 rfl h C.either C.aEither.1 rfl) ou (by omega) sz.l) (dfm (n:=n) (v1 rfl h C.either C.aEither.2 rfl) ov (by omega) sz.r) (Tr.on (t:=u) fu) (Tr.on (t:=v) fv)) at0 q
theorem qbn:FnOk P w K mg base CX0 (0+13) f fd ["self"] (jB K c 0 κ):=
 ⟨λ vs H Q E h=>by obtain⟨_,t,_,_,h,_⟩:=h;have:=t.ht1;omega,λ A outer s H args us vs Q E _ _ _ _ h=>by obtain⟨_,t,_,_,h,_⟩:=h;have:=t.ht1;omega⟩
theorem qlN(C:CTxt K c iL iN iP)(M:FTxt K c fA fN fL fO fD fR fE)(N:FFn P w K mg base fa fm fj fo da dm dj dp)(bA:qk K dA ["self"] [])(bN:qk K dN ["self"] [])(bL:qk K dL ["self"] [])(bO:qk K dO ["self"] [])(bD:qk K dD ["self"] [])(bR:qk K dR ["self"] [])(bE:qk K dE ["self"] [])(FA:Fun K "form" "Always.form" yL fA dA)(FN:Fun K "form" "Never.form" ji fN dN)(FL:Fun K "form" "Letter.form" yO fL dL)(FO:Fun K "form" "Not.form" vR fO dO)(FD:Fun K "form" "And.form" vU fD dD)(FR:Fun K "form" "Or.form" qaA fR dR)(FE:Fun K "form" "Either.form" yQ fE dE):
  ∀ n,FOk P w K mg base c n fA fN fL fO fD fR fE dA dN dL dO dD dR dE
 |0=>⟨qbn,qbn,qbn,qbn,qbn,qbn,qbn⟩
 |n+1 =>
  have G:=qlN C M N bA bN bL bO bD bR bE FA FN FL FO FD FR FE n
  ⟨qlK FA,qnl FN,qlL C FL,qpR C M G N bA bN bL bO bD bR bE FO,qpS C M G N bA bN bL bO bD bR bE FD,qqT C M G N bA bN bL bO bD bR bE FR,qlM C M G N bA bN bL bO bD bR bE FE⟩
end
abbrev Fr:=Nat×Option Tr
abbrev PSt:=List Fr×Option Tr
noncomputable def wn:List Fr->Tr->List Fr×Tr
 | [],t=>([],t)
 |fr::fs,t=>if fr.1=126 then wn fs (.neg t) else(fr::fs,t)
noncomputable def yX(s:PSt):List Nat:=match s.2 with
 |none=>[48,49]++zH++[126,40]
 |some _=>match s.1 with
  | []=>[]
  |fr::_=>if fr.1=40 then [38,124,43] else [41]
noncomputable def jC(c:Nat):Tr:=if c=49 then .one else if c=48 then .zero else .letter c
noncomputable def stp(s:PSt)(c:Nat):PSt:=
 if c∈[126,40] then((c,none)::s.1,none)
 else if c∈[38,124,43] then(match s.1 with
  | []=>s
  |_::fs=>((c,s.2)::fs,none))
 else if c=41 then(match s.1,s.2 with
  |(op,some l)::fs,some r=>((wn fs (.bin op l r)).1,some (wn fs (.bin op l r)).2)
  |_,_=>s)
 else((wn s.1 (jC c)).1,some (wn s.1 (jC c)).2)
noncomputable def run:PSt->List Nat->Option PSt
 |s,[]=>some s
 |s,c::l=>if c∈yX s then run (stp s c) l else none
theorem qf4:∀(l1 l2:List Nat)(s:PSt),run s (l1++l2)=(run s l1).bind λ s'=>run s' l2
 | [],_,_=>rfl
 |c::l1,l2,s=>by
  rw[Uv,run,run];split
  ·exact qf4 l1 l2 _
  ·rfl
theorem qd5:∀ c∈zH,c∈[48,49]++zH++[126,40]/\c∉[126,40]/\c∉[38,124,43]/\¬ c=41/\¬ c=49/\¬ c=48:=by decide
theorem qhn(h:c∈zH):jC c=.letter c:=by
 obtain⟨_,_,_,_,h1,h2⟩:=qd5 c h;rw[jC,V0 h1,V0 h2]
theorem qbo{rest:List Nat}(h1:c∈[48,49]++zH++[126,40])(h2:c∉[126,40])(h3:c∉[38,124,43])(h4:¬ c=41):run (fs,none) (c::rest)=run ((wn fs (jC c)).1,some (wn fs (jC c)).2) rest:=by
 rw[run,Vz (show c∈yX (fs,none) from h1),stp,V0 h2,V0 h3,V0 h4]
theorem qi7(h:¬ fr.1=126):wn (fr::fs) t=(fr::fs,t):=V0 h
theorem qbZ:∀(t:Tr)(fs:List Fr)(rest:List Nat),t.Of zH->run (fs,none) (t.text++rest)=run ((wn fs t).1,some (wn fs t).2) rest
 |.letter c,fs,rest,h=>by
  obtain⟨h1,h2,h3,h4,_,_⟩:=qd5 c h;show run (fs,none) (c::rest)=_
  rw[qbo h1 h2 h3 h4,qhn h]
 |.one,fs,rest,_=>by
  show run (fs,none) (49::rest)=_
  rw[qbo (by decide) (by decide) (by decide) (by decide)];rfl
 |.zero,fs,rest,_=>by
  show run (fs,none) (48::rest)=_
  rw[qbo (by decide) (by decide) (by decide) (by decide)];rfl
 |.neg t,fs,rest,h=>by
  show run (fs,none) (126::(t.text++rest))=_
  rw[run,Vz (show 126∈yX (fs,none) from(by decide:126∈[48,49]++zH++[126,40])),stp,Vz (by decide),qbZ t _ _ h];rfl
 |.bin op t u,fs,rest,h=>by
  obtain⟨L6,ht,hu⟩:=h;have e:(Tr.bin op t u).text++rest=40::(t.text++(op::(u.text++(41::rest)))):=by simp[Tr.text]
  have no:op∉[126,40]/\op∈[38,124,43]/\¬ op=126/\¬ op=40:=by rcases L6 with rfl|rfl|rfl <;> decide
  rw[e,run,Vz (show 40∈yX (fs,none) from(by decide:40∈[48,49]++zH++[126,40])),stp,Vz (by decide),qbZ t _ _ ht,qi7 (show ¬ ((40,none):Fr).1=126 from by decide)];rw[run,Vz (show op∈yX ((40,none)::fs,some t) from no.2.1),stp,V0 no.1,Vz no.2.1];show run ((op,some t)::fs,none) (u.text++(41::rest))=_
  rw[qbZ u _ _ hu,qi7 (show ¬ ((op,some t):Fr).1=126 from no.2.2.1)];rw[run,Vz (show 41∈yX ((op,some t)::fs,some u) from by show 41∈(if op=40 then [38,124,43] else [41]);rw[V0 no.2.2.2];decide),stp,V0 (by decide),V0 (by decide),Vz rfl]
theorem qj9(h:t.Of zH):run ([],none) t.text=some ([],some t):=by
 have:=qbZ t [] [] h
 rw[U6] at this;rw[this];rfl
def Fok(fr:Fr):Prop:=(fr.2=none/\(fr.1=126∨fr.1=40))∨(∃ l,fr.2=some l/\(fr.1=38∨fr.1=124∨fr.1=43))
structure Wfs(s:PSt):Prop where
 all:∀ fr∈s.1,Fok fr
 top:∀ r fr fs,s.2=some r->s.1=fr::fs->¬ fr.1=126
theorem qlO:∀{fs:List Fr}{t:Tr}{fr:Fr},fr∈(wn fs t).1->fr∈fs
 | [],_,_,h=>h
 |f::fs,t,fr,h=>by
  unfold wn at h;split at h
  ·exact Yj _ (qlO h)
  ·exact h
theorem qlP:∀{fs:List Fr}{t:Tr}{fr:Fr}{gs:List Fr},(wn fs t).1=fr::gs->¬ fr.1=126
 | [],_,_,_,h=>by cases h
 |f::fs,t,fr,gs,h=>by
  unfold wn at h;split at h
  ·exact qlP h
  ·rename_i hn;cases h
   exact hn
theorem qlQ(h:∀ fr∈fs,Fok fr):Wfs ((wn fs t).1,some (wn fs t).2):=⟨λ fr hf=>h fr (qlO hf),λ _ _ _ _ e=>qlP e⟩
theorem Wfs.step(h:Wfs s)(hl:c∈yX s):Wfs (stp s c):=by
 unfold stp;split
 ·rename_i hc;have hc:c=126∨c=40:=by simpa using hc
  refine⟨λ fr hf=>?_,λ r fr fs e=>by cases e⟩;rcases Qd.mp hf with e|hf
  ·subst e;exact .inl ⟨rfl,hc⟩
  ·exact h.all fr hf
 ·split
  ·rename_i hc;have N3:c=38∨c=124∨c=43:=by simpa using hc
   obtain⟨fs,e⟩:=s;cases fs with
   |nil=>exact h
   |cons f fs =>
    cases e with
    |none=>exact absurd hl (by show ¬ c∈[48,49]++zH++[126,40];rcases N3 with rfl|rfl|rfl <;> decide)
    |some r =>
     refine⟨λ fr hf=>?_,λ r fr fs e=>by cases e⟩;rcases Qd.mp hf with e|hf
     ·subst e;exact .inr ⟨r,rfl,N3⟩
     ·exact h.all fr (Yj _ hf)
  ·split
   ·obtain⟨fs,e⟩:=s;split
    ·rename_i op l bQ r h1 h2;cases h1
     exact qlQ λ fr hf=>h.all fr (Yj _ hf)
    ·exact h
   ·exact qlQ h.all
theorem qqU:Wfs ([],none):=⟨λ _ h=>(by cases h),λ _ _ _ e=>by cases e⟩
theorem qi8:∀{l:List Nat}{s s':PSt},Wfs s->run s l=some s'->Wfs s'
 | [],_,_,h,e=>by cases e;exact h
 |c::l,s,s',h,e=>by
  rw[run] at e;split at e
  ·rename_i hl;exact qi8 (h.step hl) e
  ·cases e
theorem qoV(h:run ([],none) L=some fin)(hi:i<L.length)(hs:run ([],none) (L.take i)=some s):L[i]∈yX s/\run ([],none) (L.take (i+1))=some (stp s L[i]):=by
 have e:L=L.take i++(L[i]::L.drop (i+1)):=by rw[<- Xt hi,XZ]
 have h2:run s (L[i]::L.drop (i+1))=some fin:=by
  rw[e,qf4,hs] at h;exact h
 rw[run] at h2;have hl:L[i]∈yX s:=by
  by_cases hl:L[i]∈yX s
  ·exact hl
  ·rw[V0 hl] at h2;cases h2
 refine⟨hl,?_⟩;rw[Xa hi,qf4,hs];show run s [L[i]]=_
 rw[run,Vz hl];rfl
theorem qka(h:Wfs s)(hl:41∈yX s):∃ op l fs r,s=((op,some l)::fs,some r)/\(op=38∨op=124∨op=43):=by
 obtain⟨fs,e⟩:=s;cases e with
 |none=>exact absurd hl (by show ¬ 41∈[48,49]++zH++[126,40];decide)
 |some r =>
  cases fs with
  |nil=>exact absurd hl (by simp[yX])
  |cons f fs =>
   obtain⟨op,o⟩:=f;have h1:=h.all (op,o) (Zb ..);have h2:=h.top r (op,o) fs rfl rfl;have h3:¬ op=40:=λ e=>by subst e;exact absurd hl (by show ¬ 41∈(if (40:Nat)=40 then [38,124,43] else [41]);decide)
   rcases h1 with⟨_,h1|h1⟩|⟨l,h1,h4⟩
   ·exact absurd h1 h2
   ·exact absurd h1 h3
   ·exact⟨op,l,fs,r,by rw[show o=some l from h1],h4⟩
theorem qho(hc:c∈[38,124,43])(hl:c∈yX s):∃ fr fs r,s=(fr::fs,some r):=by
 have N3:c=38∨c=124∨c=43:=by simpa using hc
 obtain⟨fs,e⟩:=s;cases e with
 |none=>exact absurd hl (by show ¬ c∈[48,49]++zH++[126,40];rcases N3 with rfl|rfl|rfl <;> decide)
 |some r =>
  cases fs with
  |nil=>exact absurd hl (by simp[yX])
  |cons f fs=>exact⟨f,fs,r,rfl⟩
theorem qim:∀(fs:List Fr)(t:Tr),(wn fs t).1.length<=fs.length
 | [],_=>Q9 _
 |f::fs,t=>by
  unfold wn;split
  ·exact Z6 (qim fs _)
  ·exact Q9 _
theorem qnm(s:PSt)(c:Nat):(stp s c).1.length<=s.1.length+1:=by
 unfold stp;split
 ·exact Q9 _
 ·split
  ·obtain⟨fs,e⟩:=s;cases fs with
   |nil=>exact Vb _
   |cons f fs=>exact Vb _
  ·split
   ·obtain⟨fs,e⟩:=s;split
    ·rename_i op l bQ r h1 h2;cases h1
     exact Z6 (Z6 (qim _ _))
    ·exact Vb _
   ·exact Z6 (qim _ _)
def zM(H H':Hp):Prop:=∀ b o,H b=some o->(∀ xs,o≠.lst xs)->H' b=some o
theorem qaq(g:qi H H'):zM H H':=λ _ _ e _=>g _ _ e
theorem zM.trans(a:zM H H1)(b:zM H1 H2):zM H H2:=λ _ _ e n=>b _ _ (a _ _ e n) n
theorem zM.updL(h:H l=some (.lst xs)):zM H (upd H l o):=λ b p e n=>by
 have:b≠l:=λ q=>by rw[q,h] at e;cases e;exact n xs rfl
 rw[qu this];exact e
def But(a:Addr)(H H':Hp):Prop:=∀ b o,b≠a->H b=some o->H' b=some o
theorem But.refl(a:Addr)(H:Hp):But a H H:=λ _ _ _ e=>e
theorem But.trans(h:But a H H1)(g:But a H1 H2):But a H H2:=λ _ _ n e=>g _ _ n (h _ _ n e)
theorem zu(g:qi H H'):But a H H':=λ _ _ _ e=>g _ _ e
theorem But.upd{a:Addr}{H H':Hp}{o:HO}(g:But a H H'):But a H (upd H' a o):=λ b p n e=>by rw[qu n];exact g _ _ n e
theorem But.same(g:But a H H')(g0:qi H0 H)(f:H0 a=none):qi H0 H':=λ b o e=>g b o (λ q=>by rw[q,f] at e;cases e) (g0 _ _ e)
theorem qR.monoX(g:zM H H'):∀{t:Tr}{v:V},qR c H t v->qR c H' t v
 |.letter _,_,⟨a,dx,e,h⟩=>⟨a,dx,e,g _ _ h (λ _ z=>nomatch z)⟩
 |.one,_,⟨a,dx,e,h⟩=>⟨a,dx,e,g _ _ h (λ _ z=>nomatch z)⟩
 |.zero,_,⟨a,dx,e,h⟩=>⟨a,dx,e,g _ _ h (λ _ z=>nomatch z)⟩
 |.neg t,_,⟨a,dx,x,e,h,r⟩=>⟨a,dx,x,e,g _ _ h (λ _ z=>nomatch z),qR.monoX g r⟩
 |.bin op t u,_,⟨a,dx,x,y,e,h,r,r'⟩=>⟨a,dx,x,y,e,g _ _ h (λ _ z=>nomatch z),qR.monoX g r,qR.monoX g r'⟩
def qaT(c:CA)(H:Hp):Option Tr->V->Prop
 |none,v=>v=.non
 |some t,v=>qR c H t v
theorem qaT.monoX(g:zM H H'):∀{e:Option Tr}{v:V},qaT c H e v->qaT c H' e v
 |none,_,h=>h
 |some _,_,h=>qR.monoX g h
theorem qR.ref(h:qR c H t v):∃ a,v=.ref a:=by
 cases t with
 |letter l=>obtain⟨a,_,e,_⟩:=h;exact⟨a,e⟩
 |one=>obtain⟨a,_,e,_⟩:=h;exact⟨a,e⟩
 |zero=>obtain⟨a,_,e,_⟩:=h;exact⟨a,e⟩
 |neg u=>obtain⟨a,_,_,e,_⟩:=h;exact⟨a,e⟩
 |bin op u w=>obtain⟨a,_,_,_,e,_⟩:=h;exact⟨a,e⟩
theorem qaT.non(h:qaT c H e v):decide (v=.non)=e.isNone:=by
 cases e with
 |none=>rw[show v=.non from h];rfl
 |some t=>obtain⟨a,rfl⟩:=qR.ref h;rfl
def qlR(c:CA)(H:Hp)(fr:Fr)(x:V):Prop:=∃ a v,x=.ref a/\H a=some (.tup [vS [fr.1],v])/\qaT c H fr.2 v
theorem qlR.monoX(h:qlR c H fr x)(g:zM H H'):qlR c H' fr x:=let ⟨a,v,e,h,k⟩:=h;⟨a,v,e,g _ _ h (λ _ z=>nomatch z),k.monoX g⟩
inductive FrmI(c:CA)(H:Hp):List V->List Fr->Prop where
 |nil:FrmI c H [] []
 |snoc {ws:List V} {fs:List Fr} {x:V} {fr:Fr} (h:FrmI c H ws fs) (k:qlR c H fr x):FrmI c H (ws++[x]) (fr::fs)
theorem FrmI.monoX(h:FrmI c H vs fs)(g:zM H H'):FrmI c H' vs fs:=by
 induction h with
 |nil=>exact .nil
 |snoc h k ih=>exact ih.snoc (k.monoX g)
theorem FrmI.len(h:FrmI c H vs fs):vs.length=fs.length:=by
 induction h with
 |nil=>rfl
 |snoc h k ih=>rw[Ze,XW,Uj,ih]
theorem FrmI.top(h:FrmI c H vs (fr::fs)):∃ ws x,vs=ws++[x]/\FrmI c H ws fs/\qlR c H fr x:=by
 cases h with
 |snoc h k=>exact⟨_,_,rfl,h,k⟩
theorem FrmI.empty(h:FrmI c H vs []):vs=[]:=by
 have:=h.len
 exact XD.mp this
theorem qqV{c A B:Prop}[Decidable c](hc:¬ c)(h:B):if c then A else B:=by rw[V0 hc];exact h
theorem ifT{c A B:Prop}[Decidable c](hc:c)(h:A):if c then A else B:=by rw[Vz hc];exact h
def qpT(c:CA):Sp:=λ vs H Q _=>∃ s:Nat,vs=[vS [s]]/\∀ o H',qi H H'->qR c H' (jC s) o->Q o H'
def qpU(c:CA):Sp:=λ vs H Q _=>∃(op:Nat)(x y:V)(t u:Tr),vs=[vS [op],x,y]/\(op=38∨op=124∨op=43)/\qR c H t x/\qR c H u y/\∀ o H',qi H H'->qR c H' (.bin op t u) o->Q o H'
theorem qpV:FnScope ["sign"] ["sign"] (qh qaj):=scF
theorem qpW:FnScope ["sign","one","other"] ["sign","one","other"] (qh qck):=scF
theorem qnU:FnScope ["opened","saying"] ["opened","saying"] (qh qai):=scF
theorem qpX:FnScope ["opened","ended"] ["opened","ended"] (qh jx):=scF
theorem qnV:FnScope ["opened","ended","sign","waiting"] ["opened","ended","sign"] (qh qfW):=scF
theorem qe3:FnScope ["text","opened","ended","place","sign"] ["text"] (qh qh9):=scF
section
variable {c:CA}{iL iN iP f:Addr}{fdL fdN fdP fd:FuncData}
theorem qpY(F:Fun K "single_of" "single_of" qaj f fd)(C:CTxt K c iL iN iP)(mA:mg "Always"=some (.ref c.always))(mN:mg "Never"=some (.ref c.never))(mL:mg "Letter"=some (.ref c.letter))(GL:FnOk P w K mg base CX0 1 iL fdL ["self","letter"] (qaD K "letter"))(bL:qk K fdL ["self","letter"] []):FnOk P w K mg base CX0 3 f fd ["sign"] (qpT c):=by
 refine F.okd qpV (λ cdv A outer s H vs Q E hr h=>?_);obtain⟨z,rfl,q⟩:=h;have eK:Room 2 _:=hr.mono (by decide);refine⟨_,(qd (zg (qx zp (pv 0) qo (qD _)) (qe (qm (qgQ C.mAlways (by rfl) mA))) qG)
  (qd (zg (qx zp (pv 0) qo (qD _)) (qe (qm (qgQ C.mNever (by rfl) mN))) qG)
  (qe (qm (qas C.mLetter GL eK (by rfl) mL bL .nil qA (qa (pv 0) qb)))))),?_⟩
 rw[qlw,qid];refine yx (zB (jV qF (dvA rfl) dC)) at0 (λ hb H1 g1=>?_) (λ hb H1 g1=>?_)
 ·have e:z=49:=by simpa using Ui hb
  exact λ x dx hx R7 ne=>q _ _ ((g1.at (g1.free R7)).at (g1.free hx)) (by rw[jC,Vz e];exact⟨x,dx,rfl,qc⟩)
 have n1:¬ z=49:=λ e=>by simpa [e] using Zq hb
 refine yx (zB (jV qF (dvA rfl) dC)) at0 (λ hb H2 g2=>?_) (λ hb H2 g2=>?_)
 ·have e:z=48:=by simpa using Ui hb
  have g:=g1.trans g2;exact λ x dx hx R7 ne=>q _ _ ((g.at (g.free R7)).at (g.free hx)) (by rw[jC,V0 n1,Vz e];exact⟨x,dx,rfl,qc⟩)
 have n0:¬ z=48:=λ e=>by simpa [e] using Zq hb
 have g:=g1.trans g2;refine⟨_,rfl,λ x dx hx R7 ne=>⟨c.letter,x,dx,_,rfl,qc,C.letter,C.aLetter,rfl,?_⟩⟩;exact q _ _ (((g.at (g.free R7)).at (g.free hx)).at (g.free hx)) (by rw[jC,V0 n1,V0 n0];exact⟨x,dx,rfl,qc⟩)
theorem qpZ(F:Fun K "pair_of" "pair_of" qck f fd)(C:CTxt K c iL iN iP)(mD:mg "And"=some (.ref c.and))(mR:mg "Or"=some (.ref c.or))(mE:mg "Either"=some (.ref c.either))(GP:FnOk P w K mg base CX0 1 iP fdP ["self","one","other"] (qf1 K "one" "other"))(bP:qk K fdP ["self","one","other"] []):FnOk P w K mg base CX0 3 f fd ["sign","one","other"] (qpU c):=by
 refine F.okd qpW (λ cdv A outer s H vs Q E hr h=>?_);obtain⟨op,o,p,t,u,rfl,L6,ob,pb,q⟩:=h;have eK:Room 2 _:=hr.mono (by decide);refine⟨_,(qd (zg (qx zp (pv 0) qo (qD _)) (qe (qm (qas C.mAnd GP eK (by rfl) mD bP .nil qA (qa (pv 1) (qa (pv 2) qb))))) qG)
  (qd (zg (qx zp (pv 0) qo (qD _)) (qe (qm (qas C.mOr GP eK (by rfl) mR bP .nil qA (qa (pv 1) (qa (pv 2) qb))))) qG)
  (qe (qm (qas C.mEither GP eK (by rfl) mE bP .nil qA (qa (pv 1) (qa (pv 2) qb))))))),?_⟩
 rw[qlx,qly];have fin:∀(Cl x dx:Addr)(H7:Hp),qi H H7->Cl=c.bin op->H7 x=none->H7 dx=none->Q (.ref x) (upd (upd (upd (upd H7 dx (.own x)) x (.ins Cl dx [])) x (.ins Cl dx [("one",o)])) x (.ins Cl dx [("one",o),("other",p)])):=λ Cl x dx H7 g7 e hx R7=>by
  subst e;have k:=(((g7.at (g7.free R7) (o:=.own x)).at (g7.free hx) (o:=.ins (c.bin op) dx [])).at (g7.free hx) (o:=.ins (c.bin op) dx [("one",o)])).at (g7.free hx) (o:=.ins (c.bin op) dx [("one",o),("other",p)]);exact q _ _ k ⟨x,dx,o,p,rfl,qc,ob.mono k,pb.mono k⟩
 refine yx (zB (jV qF (dvA rfl) dC)) at0 (λ hb H7 g7=>?_) (λ hb H7 g7=>?_)
 ·have e:op=38:=by simpa using Ui hb
  refine⟨_,rfl,_,rfl,λ x dx hx R7 ne=>⟨c.and,x,dx,_,_,rfl,qc,C.and,C.aAnd.1,C.aAnd.2,rfl,?_⟩⟩;exact fin c.and x dx H7 g7 (by rw[CA.bin,Vz e]) hx R7
 have mY:¬ op=38:=λ e=>by simpa [e] using Zq hb
 refine yx (zB (jV qF (dvA rfl) dC)) at0 (λ hb H8 g8=>?_) (λ hb H8 g8=>?_)
 ·have e:op=124:=by simpa using Ui hb
  refine⟨_,rfl,_,rfl,λ x dx hx R7 ne=>⟨c.or,x,dx,_,_,rfl,qc,C.or,C.aOr.1,C.aOr.2,rfl,?_⟩⟩;exact fin c.or x dx H8 (g7.trans g8) (by rw[CA.bin,V0 mY,Vz e]) hx R7
 have cA:¬ op=124:=λ e=>by simpa [e] using Zq hb
 refine⟨_,rfl,_,rfl,λ x dx hx R7 ne=>⟨c.either,x,dx,_,_,rfl,qc,C.either,C.aEither.1,C.aEither.2,rfl,?_⟩⟩;exact fin c.either x dx H8 (g7.trans g8) (by rw[CA.bin,V0 mY,V0 cA]) hx R7
def qp0(c:CA):Sp:=λ vs H Q _=>∃(ao:Addr)(v:V)(ws:List V)(fs:List Fr)(t:Tr),vs=[.ref ao,v]/\H ao=some (.lst ws)/\FrmI c H ws fs/\qR c H t v/\∀ v' R5 H',But ao H H'->H' ao=some (.lst R5)->FrmI c H' R5 (wn fs t).1->qR c H' (wn fs t).2 v'->Q v' H'
theorem qp1(F:Fun K "with_nots" "with_nots" qai f fd)(T:Txt mg)(C:CTxt K c iL iN iP)(mO:mg "Not"=some (.ref c.not))(GN:FnOk P w K mg base CX0 1 iN fdN ["self","one"] (qaD K "one"))(bN:qk K fdN ["self","one"] []):FnOk P w K mg base CX0 3 f fd ["opened","saying"] (qp0 c):=by
 refine F.okd qnU (λ cdv A outer s H vs Q E hr h=>?_);obtain⟨ao,v,ws,fs,t,rfl,ho,fm,ob,q⟩:=h;have eK:Room 2 _:=hr.mono (by decide);refine⟨_,(qd (qgo Jl (PW.pt (qfe (qx qaN (qB qC (by rfl) T.len J7 (qa (pv 0) qb)) qg (qD _)) (qcO (qx zp (za zv (za zA (pv 0) (qbu vi qg) (λ _ _=>rfl)) qg (λ _ _=>rfl)) qo (qD _))))) (qd (yn (qfo XE Yg Yh qfp (pv 0)))
  (qe (qv (i:=1) qnU.nd rfl (Or.inl rfl) (qas C.mNot GN eK (by rfl) mO bN .nil qA (qa (pv 1) qb))))))
  (qe (qm (pv 1)))),?_⟩
 rw[qoQ];refine⟨λ μ σ H'=>∃(v':V)(R5:List V)(bQ:List Fr)(t':Tr),σ=[some (.ref ao),some v']/\But ao H H'/\H' ao=some (.lst R5)/\FrmI c H' R5 bQ/\qR c H' t' v'/\wn bQ t'=wn fs t/\μ=bQ.length,⟨_,v,ws,fs,t,rfl,But.refl _ _,ho,fm,ob,rfl,rfl⟩,?_⟩;rintro μ σ H1 ⟨v',R5,bQ,t',rfl,g1,V1,fm1,iI,ew,rfl⟩;refine⟨_,rfl,ao,_,rfl,.inl (SqL.of V1),_,_,rfl,rfl,_,rfl,?_⟩;cases bQ with
 |nil =>
  have e:=fm1.empty;subst e;refine yh ?_;refine yh ?_;rw[wn] at ew;exact⟨_,rfl,q v' [] H1 g1 V1 (by rw[<- ew];exact .nil) (by rw[<- ew];exact iI)⟩
 |cons fr bQ =>
  obtain⟨us,x,rfl,fu,kx⟩:=fm1.top;obtain⟨ax,vx,rfl,fB,ke⟩:=kx;refine ifT (by rw[Ze,XW];simp) ?_;refine⟨_,rfl,_,rfl,ao,_,_,_,rfl,rfl,SqL.of V1,kF us (.ref ax),ax,_,_,vS [fr.1],rfl,rfl,SqT.of fB,rfl,rfl,_,rfl,?_⟩;have ee:decide (vS [fr.1]=vS [126])=decide (fr.1=126):=by
   by_cases h:fr.1=126
   ·rw[h];simp
   ·rw[Jm h,Jm λ e=>h (by have:=qhT e;simpa using this)]
  rw[show decide (vS [fr.1]=V.str (qj [126]))=decide (fr.1=126) from ee];rw[wn] at ew;by_cases h126:fr.1=126
  ·rw[Vz h126] at ew;rw[J8 h126];refine kn ?_;refine⟨λ σ' H'=>∃(v':V)(R5:List V)(t':Tr),σ'=[some (.ref ao),some v']/\But ao H H'/\H' ao=some (.lst R5)/\FrmI c H' R5 bQ/\qR c H' t' v'/\wn bQ t'=wn fs t,?_,?_⟩
   ·rintro σ' H' ⟨v2,ws2,t2,e,b1,b2,b3,b4,b5⟩;exact⟨bQ.length,Uk _,v2,ws2,bQ,t2,e,b1,b2,b3,b4,b5,rfl⟩
   refine⟨_,rfl,.inl ⟨rfl,_,SqL.of V1⟩,ao,_,.ref ax,rfl,rfl,V1,qaC us (.ref ax),?_⟩;rw[Yt];have x1:zM H1 (upd H1 ao (.lst us)):=zM.updL V1;refine⟨_,rfl,λ x dx hx R7 ne=>⟨c.not,x,dx,_,rfl,qc,C.not,C.aNot,rfl,?_⟩⟩;have k2:=((((qi.refl (upd H1 ao (.lst us))).at R7 (o:=.own x)).at ((qi.refl _).free hx) (o:=.ins c.not dx [])).at ((qi.refl _).free hx) (o:=.ins c.not dx [("one",v')]));refine⟨.ref x,us,.neg t',rfl,(g1.upd (o:=.lst us)).trans (zu k2),k2 _ _ qc,fu.monoX (x1.trans (qaq k2)),⟨x,dx,v',rfl,qc,iI.monoX (x1.trans (qaq k2))⟩,ew⟩
  ·rw[V0 h126] at ew;rw[Jm h126];refine yh ?_;exact⟨_,rfl,q v' _ H1 g1 V1 (by rw[<- ew];exact fm1) (by rw[<- ew];exact iI)⟩
def qp2(c:CA):Sp:=λ vs H Q _=>∃(ao:Addr)(v:V)(ws:List V)(s:PSt),vs=[.ref ao,v]/\H ao=some (.lst ws)/\FrmI c H ws s.1/\qaT c H s.2 v/\∀ H',qi H H'->Q (vS (yX s)) H'
theorem qqW:("01":Str)=qj [48,49]:=by decide +kernel
theorem qnW:("~(":Str)=qj [126,40]:=by decide +kernel
theorem qp3(F:Fun K "signs_behind" "signs_behind" jx f fd)(T:Txt mg)(oH:mg "LETTERS"=some (.str "abcpqrxyz" t1))(oE:mg "OPENING"=some (.str "~(" t2))(oJ:mg "BETWEEN"=some (.str "&|+" t3)):FnOk P w K mg base CX0 1 f fd ["opened","ended"] (qp2 c):=by
 refine F.okd qpX (λ cdv A outer s H vs Q E hr h=>?_);obtain⟨ao,v,ws,s,rfl,ho,fm,ea,q⟩:=h;refine⟨_,(qd (zg (qx qhD (pv 1) kt (qD _)) (qe (qm (qr qP (qr qP qo (zZ (v:=.str "abcpqrxyz") (by rfl) oH ⟨_,rfl⟩)) (zZ (v:=.str "~(") (by rfl) oE ⟨_,rfl⟩)))) qG)
  (qd (zg (qx zp (qB qC (by rfl) T.len J7 (qa (pv 0) qb)) qg (qD _)) (qe (qm qo)) qG)
  (qe (qm (qbt (qx zp (za zv (za zA (pv 0) (qbu vi qg) (λ _ _=>rfl)) qg (λ _ _=>rfl)) qo (qD _)) (zZ (v:=.str "&|+") (by rfl) oJ ⟨_,rfl⟩) qo))))),?_⟩
 rw[qqW,qhe,qnW,qoR,qpP,qd3,qaE];obtain⟨fs,e⟩:=s;refine⟨_,rfl,rfl,_,rfl,?_⟩;rw[ea.non];cases e with
 |none =>
  refine kn ?_;refine⟨_,_,rfl,rfl,qz (by show 2+9<=_;decide),_,_,rfl,rfl,qz (by show 11+2<=_;decide),?_⟩;exact q H (qi.refl H)
 |some r =>
  refine yh ?_;refine⟨_,rfl,ao,_,rfl,.inl (SqL.of ho),rfl,_,rfl,?_⟩;cases fs with
  |nil =>
   have e:=fm.empty;subst e;refine kn ?_;exact q H (qi.refl H)
  |cons fr fs =>
   obtain⟨us,x,rfl,fu,kx⟩:=fm.top;obtain⟨ax,vx,rfl,fB,ke⟩:=kx;refine qqV (by rw[Ze,XW];simp;omega) ?_;refine⟨_,rfl,_,rfl,ao,_,_,_,rfl,rfl,SqL.of ho,kF us (.ref ax),ax,_,_,vS [fr.1],rfl,rfl,SqT.of fB,rfl,rfl,_,rfl,?_⟩;have ee:decide (vS [fr.1]=vS [40])=decide (fr.1=40):=by
    by_cases h:fr.1=40
    ·rw[h];simp
    ·rw[Jm h,Jm λ e=>h (by have:=qhT e;simpa using this)]
   rw[show decide (vS [fr.1]=V.str (qj [40]))=decide (fr.1=40) from ee];have el:yX (fr::fs,some r)=if fr.1=40 then [38,124,43] else [41]:=rfl
   by_cases h:fr.1=40
   ·rw[J8 h];rw[el,Vz h] at q;exact kn (q H (qi.refl H))
   ·rw[Jm h];rw[el,V0 h] at q;exact yh (q H (qi.refl H))
def qp4(c:CA):Sp:=λ vs H Q _=>∃(ao:Addr)(v:V)(z:Nat)(ws:List V)(s:PSt),vs=[.ref ao,v,vS [z]]/\H ao=some (.lst ws)/\FrmI c H ws s.1/\qaT c H s.2 v/\Wfs s/\z∈yX s/\ws.length<=10000/\∀ v' R5 H',But ao H H'->H' ao=some (.lst R5)->FrmI c H' R5 (stp s z).1->qaT c H' (stp s z).2 v'->Q v' H'
theorem qp5(F:Fun K "taken" "taken" qfW f fd)(oE:mg "OPENING"=some (.str "~(" t2))(oJ:mg "BETWEEN"=some (.str "&|+" t3))(Gw:Dp P w K mg base 3 fw fdw ["opened","saying"] (qp0 c) "with_nots")(Gp:Dp P w K mg base 3 fp pE ["sign","one","other"] (qpU c) "pair_of")(Gs:Dp P w K mg base 3 fs_ wR ["sign"] (qpT c) "single_of"):FnOk P w K mg base CX0 4 f fd ["opened","ended","sign"] (qp4 c):=by
 refine F.okd qnV (λ cdv A outer s H vs Q E hr h=>?_);obtain⟨ao,v,z,ws,s,rfl,ho,fm,ea,wf,hl,l4,q⟩:=h;have nB:Room 3 _:=hr.mono (by decide);refine⟨_,(qd (zg (qx qay (pv 2) (zZ (v:=.str "~(") (by rfl) oE ⟨_,rfl⟩) rfl) (qd (yn (yo XE X1 X2 zG (pv 0) (qa (zC (qa (pv 2) (qa kt qb))) qb)))
  (qe (qm kt))) qG)
  (qd (zg (qx qay (pv 2) (zZ (v:=.str "&|+") (by rfl) oJ ⟨_,rfl⟩) rfl) (qd (qdb (zC (qa (pv 2) (qa (pv 1) qb))) (qff (pv 0) (qbu vi qg) qbz))
  (qe (qm kt))) qG)
  (qd (zg (qx zp (pv 2) qo (qD _)) (qd (qv (i:=3) qnV.nd rfl (Or.inl rfl) (qfo XE Yg Yh qfp (pv 0)))
  (qe (qm (zf Gw nB (qa (pv 0) (qa (zf Gp nB (qa (za zv (pv 3) qg (λ _ _=>rfl)) (qa (za zv (pv 3) qg (λ _ _=>rfl)) (qa (pv 1) qb)))) qb)))))) qG)
  (qe (qm (zf Gw nB (qa (pv 0) (qa (zf Gs nB (qa (pv 2) qb)) qb)))))))),?_⟩
 rw[qnW,qpP,qaE];refine⟨_,rfl,_,_,rfl,rfl,_,rfl,?_⟩;by_cases h1:z∈[126,40]
 ·rw[J8 h1];refine kn ?_;rw[stp,Vz h1] at q;refine⟨_,rfl,.inl ⟨rfl,_,SqL.of ho⟩,_,rfl,qz (by show 2<=_;decide),λ p hp=>?_⟩;have L6:upd H p (.tup [vS [z],.non]) ao=some (.lst ws):=(qi.up hp) _ _ ho;refine⟨ao,ws,_,rfl,rfl,L6,zd (by omega),?_⟩;have x1:zM H (upd (upd H p (.tup [vS [z],.non])) ao (.lst (ws++[.ref p]))):=(qaq (qi.up hp)).trans (zM.updL L6);refine q .non _ _ ((zu (qi.up hp)).upd) qc ((fm.monoX x1).snoc ⟨p,.non,rfl,?_,rfl⟩) rfl;exact zM.updL L6 _ _ qc (λ _ z=>nomatch z)
 rw[Jm h1];refine yh ?_;refine⟨_,rfl,_,_,rfl,rfl,_,rfl,?_⟩;by_cases h2:z∈[38,124,43]
 ·rw[J8 h2];refine kn ?_;obtain⟨fr,fs,r,rfl⟩:=qho h2 hl;rw[stp,V0 h1,Vz h2] at q;obtain⟨us,x,rfl,fu,kx⟩:=fm.top;refine⟨_,rfl,_,rfl,qz (by show 2<=_;decide),λ p hp=>?_⟩;have L6:upd H p (.tup [vS [z],v]) ao=some (.lst (us++[x])):=(qi.up hp) _ _ ho;refine⟨_,rfl,1,rfl,ao,_,_,us.length,rfl,rfl,L6,by rw[Ze,XW];exact qbW _,?_⟩;have es:(us++[x]).set us.length (.ref p)=us++[.ref p]:=by simp
  rw[es];have x1:zM H (upd (upd H p (.tup [vS [z],v])) ao (.lst (us++[.ref p]))):=(qaq (qi.up hp)).trans (zM.updL L6);refine q .non _ _ ((zu (qi.up hp)).upd) qc ((fu.monoX x1).snoc ⟨p,v,rfl,?_,ea.monoX x1⟩) rfl;exact zM.updL L6 _ _ qc (λ _ z=>nomatch z)
 rw[Jm h2];refine yh ?_;refine yx (zB (jV qF (dvA rfl) dC)) at0 (λ hb H1 g1=>?_) (λ hb H1 g1=>?_)
 ·have e:z=41:=by simpa using Ui hb
  subst e;obtain⟨op,l,fs,r,rfl,L6⟩:=qka wf hl;rw[stp,V0 h1,V0 h2,Vz rfl] at q;obtain⟨us,x,rfl,fu,kx⟩:=fm.top;obtain⟨ax,vx,rfl,fB,ke⟩:=kx;have V1:=g1 _ _ ho;refine⟨_,rfl,.inl ⟨rfl,_,SqL.of V1⟩,ao,_,.ref ax,rfl,rfl,V1,qaC us (.ref ax),?_⟩;rw[Yt];have x1:zM H (upd H1 ao (.lst us)):=(qaq g1).trans (zM.updL V1);have uM:=x1 _ _ fB (λ _ z=>nomatch z);refine⟨_,rfl,_,rfl,ax,_,_,vS [op],rfl,rfl,SqT.of uM,rfl,_,rfl,ax,_,_,vx,rfl,rfl,SqT.of uM,rfl,_,rfl,op,vx,v,l,r,rfl,L6,qR.monoX x1 ke,qR.monoX x1 ea,λ o H2 g2 ob=>?_⟩;refine⟨ao,o,us,fs,.bin op l r,rfl,g2 _ _ qc,(fu.monoX x1).monoX (qaq g2),ob,λ v' R5 H3 b3 e3 f3 o3=>?_⟩;exact q v' R5 H3 ((((zu g1).upd).trans (zu g2)).trans b3) e3 f3 o3
 ·have n41:¬ z=41:=λ e=>by simpa [e] using Zq hb
  rw[stp,V0 h1,V0 h2,V0 n41] at q;refine⟨_,rfl,_,rfl,z,rfl,λ o H2 g2 ob=>?_⟩;have A2:=g1.trans g2;refine⟨ao,o,ws,s.1,jC z,rfl,A2 _ _ ho,fm.monoX (qaq A2),ob,λ v' R5 H3 b3 e3 f3 o3=>?_⟩;exact q v' R5 H3 ((zu A2).trans b3) e3 f3 o3
def qp6(c:CA):Sp:=λ vs H Q _=>∃ t:Tr,vs=[vS t.text]/\t.Of zH/\t.wt<=1000/\∀ o H',qi H H'->qR c H' t o->Q o H'
theorem qp7(F:Fun K "read" "read" qh9 f fd)(T:Txt mg)(Gg:Dp P w K mg base 1 fg fdg ["opened","ended"] (qp2 c) "signs_behind")(Gt:Dp P w K mg base 4 ft pD ["opened","ended","sign"] (qp4 c) "taken"):FnOk P w K mg base CX0 5 f fd ["text"] (qp6 c):=by
 refine F.okd qe3 (λ cdv A outer s H vs Q E hr h=>?_);obtain⟨t,rfl,of,hw,q⟩:=h;have G1:Room 1 _:=hr.mono (by decide);have hr4:Room 4 _:=hr.mono (by decide);refine⟨_,(qd (qv (i:=1) qe3.nd rfl (Or.inl rfl) (zK qb))
  (qd (qv (i:=2) qe3.nd rfl (Or.inl rfl) kt)
  (qd (qcV Jl rfl (qdR (by rfl) T.enumerate (qa (pv 0) qb)) (qJ (qp (i:=3) qe3.nd rfl (Or.inl rfl)) (qJ (qp (i:=4) qe3.nd rfl (Or.inl rfl)) zT))
  (qd (zg (qx vG (pv 4) (zf Gg G1 (qa (pv 1) (qa (pv 2) qb))) rfl) (qe jq) qG)
   (qe (qv (i:=2) qe3.nd rfl (Or.inl rfl) (zf Gt hr4 (qa (pv 1) (qa (pv 2) (qa (pv 4) qb))))))))
   (qd (zg (PW.pt (qev (qx qhD (pv 2) kt (qD _))
   (qb6 (qx qaN (qB qC (by rfl) T.len J7 (qa (pv 1) qb)) qg (qD _))))) (qe jq) qG)
   (qe (qm (pv 2))))))),?_⟩
 have tl:=t.text_len;have rw_:=qj9 of;have hs:(qj t.text).cps.size=t.text.length:=qy t.text;refine⟨Va _,λ ao hao=>?_⟩;refine⟨_,rfl,_,rfl,?_⟩;refine qce (λ i σ H'=>∃(v:V)(ws:List V)(s:PSt)(v3 v4:Option V),σ=[some (vS t.text),some (.ref ao),some v,v3,v4]/\qi H H'/\H' ao=some (.lst ws)/\FrmI c H' ws s.1/\qaT c H' s.2 v/\run ([],none) (t.text.take i)=some s/\ws.length<=i)
  ⟨.non,[],([],none),none,none,rfl,qi.up hao,qc,.nil,rfl,rfl,Q9 _⟩ ?_ ?_
 ·rintro i σ H1 hi ⟨v,ws,s,v3,v4,rfl,g1,e1,fm,ea,eI,lw⟩;rw[hs] at hi;rw[y8 hi];obtain⟨hl,tJ⟩:=qoV rw_ hi eI;have wf:=qi8 qqU eI;refine⟨_,_,rfl,_,_,rfl,rfl,?_⟩;refine⟨_,rfl,_,rfl,_,rfl,ao,v,ws,s,rfl,e1,fm,ea,λ H2 g2=>?_⟩;refine⟨_,_,rfl,rfl,_,rfl,?_⟩;rw[J8 hl];refine yh ?_;have x2:=qaq g2;refine⟨_,rfl,_,rfl,_,rfl,ao,v,_,ws,s,rfl,g2 _ _ e1,fm.monoX x2,ea.monoX x2,wf,hl,by omega,λ v' R5 H3 b3 e3 f3 o3=>?_⟩;have ln:=f3.len;have L5:(stp s t.text[i]).1.length<=i+1:=by have:=qnm s t.text[i];have:=fm.len;omega
  exact⟨v',R5,stp s t.text[i],_,_,rfl,b3.same (g1.trans g2) hao,e3,f3,o3,tJ,by omega⟩
 ·rintro σ H1 ⟨v,ws,s,v3,v4,rfl,g1,e1,fm,ea,eI,lw⟩;rw[hs,Ut,rw_] at eI;cases eI
  have e:=fm.empty;subst e;obtain⟨a,rfl⟩:=qR.ref ea;refine⟨_,rfl,rfl,_,rfl,yh ?_⟩;refine⟨_,rfl,ao,_,rfl,.inl (SqL.of e1),_,_,rfl,rfl,_,rfl,yh ?_⟩;exact⟨_,rfl,q _ H1 g1 ea⟩
end
theorem qlS:FnScope ["text","letters","sign"] ["text","letters"] (qh yH):=scF
theorem qi9:FnScope ["wish","letters","halves","left","right"] ["wish","letters"] (qh qan):=scF
theorem qhp:FnScope ["sides","fault","left","right"] ["sides"] (qh qbg):=scF
def qnX:Sp:=λ vs H Q _=>∃ x ls:List Nat,vs=[vS x,vS ls]/\(∀ c∈x,c∈zH->c∈ls)/\∀ H',qi H H'->Q .non H'
theorem qoW(F:Fun K "refuse_strange" "refuse_strange" yH f fd)(oH:mg "LETTERS"=some (.str "abcpqrxyz" t1)):FnOk P w K mg base CX0 1 f fd ["text","letters"] qnX:=by
 refine F.okd qlS (λ cdv A outer s H vs Q E hr h=>?_);obtain⟨x,ls,rfl,hx,q⟩:=h;refine⟨_,(qe (yg Jl rfl (vA (pv 0)) (qp (i:=2) qlS.nd rfl (Or.inl rfl))
  (qe (zg (PW.pt (qfe (qx qay (pv 2) (zZ (v:=.str "abcpqrxyz") (by rfl) oH ⟨_,rfl⟩) rfl) (qcO (qx vG (pv 2) (pv 1) rfl)))) (qe jq) qG)))),?_⟩
 rw[qhe];have hs:(qj x).cps.size=x.length:=qy x;refine⟨_,rfl,_,rfl,?_⟩;refine qcT (λ j σ H'=>∃ v2:Option V,σ=[some (vS x),some (vS ls),v2]/\qi H H') ⟨none,rfl,qi.refl H⟩ ?_ ?_
 ·rintro j σ H1 hj ⟨v2,rfl,g1⟩;rw[hs] at hj;rw[y8 hj];refine⟨_,rfl,_,_,rfl,rfl,_,rfl,?_⟩;by_cases h:x[j]∈zH
  ·rw[J8 h];refine kn ?_;refine⟨_,rfl,_,rfl,_,_,rfl,rfl,_,rfl,?_⟩;rw[J8 (hx _ (Us hj) h)];exact yh ⟨_,rfl,g1⟩
  ·rw[Jm h];refine yh ?_;exact yh ⟨_,rfl,g1⟩
 ·rintro σ H1 ⟨v2,rfl,g1⟩;exact q H1 g1
theorem zY:∀{t:Tr}{c:Nat},t.Of zH->c∈t.text->¬ c=32/\¬ c=61/\(c∈zH->t.Has c)
 |.letter l,c,h,hc=>by
  have e:c=l:=Zl.mp hc;subst e
  have:=(by decide:∀ c∈zH,¬ c=32/\¬ c=61) c h
  exact⟨this.1,this.2,λ _=>rfl⟩
 |.one,c,_,hc=>by
  have e:c=49:=Zl.mp hc;subst e;exact⟨by decide,by decide,λ h=>absurd h (by decide)⟩
 |.zero,c,_,hc=>by
  have e:c=48:=Zl.mp hc;subst e;exact⟨by decide,by decide,λ h=>absurd h (by decide)⟩
 |.neg t,c,h,hc=>by
  rcases U3.mp hc with e|e
  ·have e:c=126:=Zl.mp e;subst e;exact⟨by decide,by decide,λ h=>absurd h (by decide)⟩
  ·exact zY (t:=t) h e
 |.bin op t u,c,h,hc=>by
  obtain⟨L6,ht,hu⟩:=h;have hc:c∈[40]++t.text++[op]++u.text++[41]:=hc;rcases U3.mp hc with hc|e
  ·rcases U3.mp hc with hc | e
   ·rcases U3.mp hc with hc | e
    ·rcases U3.mp hc with e | e
     ·have e:c=40:=Zl.mp e;subst e;exact⟨by decide,by decide,λ h=>absurd h (by decide)⟩
     ·obtain⟨a,b,d⟩:=zY ht e;exact⟨a,b,λ h=>.inl (d h)⟩
    ·have e:c=op:=Zl.mp e;subst e;rcases L6 with rfl|rfl|rfl <;> exact⟨by decide,by decide,λ h=>absurd h (by decide)⟩
   ·obtain⟨a,b,d⟩:=zY hu e;exact⟨a,b,λ h=>.inr (d h)⟩
  ·have e:c=41:=Zl.mp e;subst e;exact⟨by decide,by decide,λ h=>absurd h (by decide)⟩
theorem qja(t:Tr):t.text≠[]:=by cases t <;> simp[Tr.text]
theorem j8:∀ t:Tr,(t.wt:Int)<=t.nodes
 |.letter _=>by show(1:Int)<=1;decide
 |.one=>by show(1:Int)<=1;decide
 |.zero=>by show(1:Int)<=1;decide
 |.neg t=>by have:=j8 t;show((t.wt+1:Nat):Int)<=1+t.nodes;omega
 |.bin _ t u=>by have:=j8 t;have:=j8 u;show((t.wt+u.wt:Nat):Int)<=1+t.nodes+u.nodes;omega
theorem Tr.Of.upL:∀{t:Tr},t.Of ls->(∀ c,c∈ls->c∈us)->t.Of us
 |.letter l,h,g=>g l h
 |.neg t,o,h=>Tr.Of.upL (t:=t) o h
 |.bin _ t u,o,h=>⟨o.1,Tr.Of.upL (t:=t) o.2.1 h,Tr.Of.upL (t:=u) o.2.2 h⟩
 |.one,_,_=>trivial
 |.zero,_,_=>trivial
structure Wsh where 
 i:Nat
 j:Nat
 k:Nat
 l:Nat
 t:Tr
 u:Tr
noncomputable def Wsh.text(x:Wsh):List Nat:=(List.replicate x.i 32++x.t.text++List.replicate x.j 32)++61::(List.replicate x.k 32++x.u.text++List.replicate x.l 32)
structure Wsh.Ok(ls:List Nat)(x:Wsh):Prop where
 bl:x.i<=100/\x.j<=100/\x.k<=100/\x.l<=100
 t:x.t.Of ls
 u:x.u.Of ls
 tn:x.t.nodes<=20
 un:x.u.nodes<=20
def qp8(c:CA):Sp:=λ vs H Q _=>∃(x:Wsh)(ls:List Nat),vs=[vS x.text,vS ls]/\x.Ok ls/\(∀ c∈ls,c∈zH)/\∀ r a b H',qi H H'->H' r=some (.tup [a,b])->qR c H' x.t a->qR c H' x.u b->Q (.ref r) H'
theorem qp9(F:Fun K "wish_read" "wish_read" qan f fd)(C:CTxt K c iL iN iP)(sN:mg "MOST_PARTS"=some (.int 20 tp))(Mt:MTxt K c "text" nU nP nQ nO nS nN nR)(Vt:VOk P w K mg base yf c 21 kD kR kE nU nP nQ nO nS nN nR pR pN pO pM pQ pK pP)(Ms:MTxt K c "size" wH wF wG wE fM fM fM)(Vs:VOk P w K mg base vSz c 21 kP kP kP wH wF wG wE fM fM fM dsA dsN dsL dsO rT rT rT)(mM:qk K pR ["self"] [])(mH:qk K pN ["self"] [])(mI:qk K pO ["self"] [])(mC:qk K pM ["self"] [])(mK:qk K pQ ["self"] [])(mB:qk K pK ["self"] [])(mJ:qk K pP ["self"] [])(xG:qk K dsA ["self"] [])(xE:qk K dsN ["self"] [])(xF:qk K dsL ["self"] [])(xD:qk K dsO ["self"] [])(rW:qk K rT ["self"] [])(Gr:Dp P w K mg base 5 fr fdr ["text"] (qp6 c) "read")(Gf:Dp P w K mg base 1 ff wS ["text","letters"] qnX "refuse_strange"):
  FnOk P w K mg base CX0 22 f fd ["wish","letters"] (qp8 c):=by
 refine F.okd qi9 (λ cdv A outer s H vs Q E hr h=>?_);obtain⟨x,ls,rfl,ok,l9,q⟩:=h;have G1:Room 1 _:=hr.mono (by decide);have hr5:Room 5 _:=hr.mono (by decide);have W2:Room 21 _:=hr.mono (by decide);have bsD:=rW;have bsR:=rW;have bsE:=rW;refine⟨_,(qd (zg (qx vG qo (pv 0) rfl) (qe jq) qG)
  (qd (qv (i:=2) qi9.nd rfl (Or.inl rfl) (yo XO PySem.F.slot_str_partition PySem.F.type_str_partition qm5 (pv 0) (qa qo qb)))
  (qd (qv (i:=3) qi9.nd rfl (Or.inl rfl) (zf Gr hr5 (qa (yo XO PySem.F.slot_str_strip PySem.F.type_str_strip qg4 (za zv (pv 2) qg (λ _ _=>rfl)) (qa qo qb)) qb)))
  (qd (qv (i:=4) qi9.nd rfl (Or.inl rfl) (zf Gr hr5 (qa (yo XO PySem.F.slot_str_strip PySem.F.type_str_strip qg4 (za zv (pv 2) qg (λ _ _=>rfl)) (qa qo qb)) qb)))
  (qd (zg (PW.pt (qev (qx qaN (qaM (pv 3) C Ms Vs W2 xG xE xF xD bsD bsR bsE) (zZ (v:=.int 20) (by rfl) sN ⟨_,rfl⟩) (qD _))
   (qb6 (qx qaN (qaM (pv 4) C Ms Vs W2 xG xE xF xD bsD bsR bsE) (zZ (v:=.int 20) (by rfl) sN ⟨_,rfl⟩) (qD _))))) (qe jq) qG)
  (qd (yn (zf Gf G1 (qa (qr qP (qaM (pv 3) C Mt Vt W2 mM mH mI mC mK mB mJ) (qaM (pv 4) C Mt Vt W2 mM mH mI mC mK mB mJ)) (qa (pv 1) qb))))
  (qe (qm (zC (qa (pv 3) (qa (pv 4) qb))))))))))),?_⟩
 rw[show("=":Str)=qj [61] by decide +kernel,show(" ":Str)=qj [32] by decide +kernel];obtain⟨i,j,k,l,t,u⟩:=x;obtain⟨⟨bi,bj,bk,bl⟩,ot,ou,tn,un⟩:=ok;have bi:i<=100:=bi;have bj:j<=100:=bj;have bk:k<=100:=bk;have bl:l<=100:=bl;have ot:t.Of ls:=ot;have ou:u.Of ls:=ou;have rA:=ot.upL l9;have sE:=ou.upL l9;have wt1:=j8 t;have wt2:=j8 u;have tn:t.nodes<=20:=tn;have un:u.nodes<=20:=un;have lt1:=t.text_len;have lt2:=u.text_len;have ht1:=t.ht_wt;have ht2:=u.ht_wt;have hw1:t.wt<=20:=by omega
 have hw2:u.wt<=20:=by omega
 have nt:61∉List.replicate i 32++t.text++List.replicate j 32:=λ h=>by
  rcases U3.mp h with h|h
  ·rcases U3.mp h with h | h
   ·exact absurd (X3 h) (by decide)
   ·exact(zY rA h).2.1 rfl
  ·exact absurd (X3 h) (by decide)
 refine⟨_,rfl,_,_,rfl,rfl,_,rfl,?_⟩;rw[J8 (show 61∈Wsh.text ⟨i,j,k,l,t,u⟩ from XS _ (Zb ..))];refine yh ?_;refine⟨_,rfl,rfl,_,_,_,rfl,rfl,nt,by simp only[Ze,XT];omega,λ p hp=>?_⟩;have g1:=qi.up hp (o:=.tup [vS (List.replicate i 32++t.text++List.replicate j 32),vS [61],vS (List.replicate k 32++u.text++List.replicate l 32)]);have e1:upd H p (.tup [vS (List.replicate i 32++t.text++List.replicate j 32),vS [61],vS (List.replicate k 32++u.text++List.replicate l 32)]) p=some (.tup [vS (List.replicate i 32++t.text++List.replicate j 32),vS [61],vS (List.replicate k 32++u.text++List.replicate l 32)]):=qc;generalize upd H p (.tup [vS (List.replicate i 32++t.text++List.replicate j 32),vS [61],vS (List.replicate k 32++u.text++List.replicate l 32)])=H1 at g1 e1;refine⟨_,rfl,p,_,_,_,rfl,rfl,SqT.of e1,rfl,rfl,i,j,t.text,rfl,rfl,qja t,λ h=>(zY rA h).1 rfl,by omega,t,rfl,rA,by omega,λ a H2 g2 iI=>?_⟩;refine⟨_,rfl,p,_,_,_,rfl,rfl,SqT.of (g2 _ _ e1),rfl,rfl,k,l,u.text,rfl,rfl,qja u,λ h=>(zY sE h).1 rfl,by omega,u,rfl,sE,by omega,λ b H3 g3 ob2=>?_⟩;have iI:=iI.mono g3;refine dV (f:=vSz) (n:=21) (κd:=kP) (κr:=kP) (κe:=kP) (λ _ _=>⟨rfl,rfl,rfl⟩) (λ _ _=>⟨_,_,_,rfl⟩) (λ _ _=>⟨_,_,_,rfl⟩) (λ _ _=>⟨_,_,_,rfl⟩) (dvA rfl) iI (by omega) (by omega) rA _ _ _ at0 λ H4 g4=>?_
 refine⟨_,_,rfl,rfl,_,rfl,?_⟩;rw[Jm (show ¬ (20:Int)<t.nodes by omega)];refine yh ?_;refine dV (f:=vSz) (n:=21) (κd:=kP) (κr:=kP) (κe:=kP) (λ _ _=>⟨rfl,rfl,rfl⟩) (λ _ _=>⟨_,_,_,rfl⟩) (λ _ _=>⟨_,_,_,rfl⟩) (λ _ _=>⟨_,_,_,rfl⟩) (dvA rfl) (ob2.mono g4) (by omega) (by omega) sE _ _ _ at0 λ H5 g5=>?_
 refine⟨_,_,rfl,rfl,_,rfl,?_⟩;rw[Jm (show ¬ (20:Int)<u.nodes by omega)];refine yh ?_;have fK:=g4.trans g5;refine(jA qF (dV (f:=yf) (n:=21) (κd:=kD) (κr:=kR) (κe:=kE) (λ _ _=>⟨rfl,rfl,rfl⟩) (λ _ _=>⟨_,_,rfl⟩) (λ _ _=>⟨_,_,rfl⟩) (λ _ _=>⟨_,_,rfl⟩) (dvA rfl) (iI.mono fK) (by omega) (by omega) rA)
  (dV (f:=yf) (n:=21) (κd:=kD) (κr:=kR) (κe:=kE) (λ _ _=>⟨rfl,rfl,rfl⟩) (λ _ _=>⟨_,_,rfl⟩) (λ _ _=>⟨_,_,rfl⟩) (λ _ _=>⟨_,_,rfl⟩) (dvA rfl) (ob2.mono fK) (by omega) (by omega) sE) (by omega)) _ _ _ at0 λ H6 g6=>?_
 refine⟨_,rfl,_,ls,rfl,λ z hz hn=>?_,λ H7 g7=>?_⟩
 ·rcases U3.mp hz with h | h
  ·exact Tr.Of.has ot ((zY rA h).2.2 hn)
  ·exact Tr.Of.has ou ((zY sE h).2.2 hn)
 have g37:=(fK.trans g6).trans g7;refine⟨_,rfl,_,rfl,qz (by show 2<=_;decide),λ r N2=>?_⟩;have g38:=g37.to N2 (o:=.tup [a,b]);exact q r a b _ (((g1.trans g2).trans g3).trans g38) qc (iI.mono g38) (ob2.mono g38)
noncomputable def q8(R8:List (List Pr×List Pr)):List Pr:=R8.foldl (λ c7 fg=>join c7 (added fg.1 fg.2)) []
theorem qcF(R8:List (List Pr×List Pr))(x:List Pr×List Pr):q8 (R8++[x])=join (q8 R8) (added x.1 x.2):=by unfold q8;rw[Z5];rfl
theorem qcn:∀(R8:List (List Pr×List Pr)),(∀ x∈R8,On ls x.1/\On ls x.2)->On ls (q8 R8):=by
 intro R8 h;have key:∀(l:List (List Pr×List Pr))(c7:List Pr),On ls c7->(∀ x∈l,On ls x.1/\On ls x.2)->On ls (l.foldl (λ c7 fg=>join c7 (added fg.1 fg.2)) c7):=by
  intro l;induction l with
  |nil=>intro c7 ha _;exact ha
  |cons x l ih =>
   intro c7 ha hl;have hx:=hl x (Zb ..);exact ih _ (ha.join (hx.1.added hx.2)) λ y hy=>hl y (Yj _ hy)
 exact key R8 [] (On.nil ls) h
def yA(H:Hp)(p:Addr)(fg:List Pr×List Pr):Prop:=∃ x y:Addr,H p=some (.tup [.ref x,.ref y])/\H x=some (.tup (fg.1.map vS))/\H y=some (.tup (fg.2.map vS))
theorem yA.mono(h:yA H p fg)(g:qi H H'):yA H' p fg:=let ⟨x,y,a,b,c⟩:=h;⟨x,y,g _ _ a,g _ _ b,g _ _ c⟩
def qqa(K:W.Frag):Sp:=λ vs H Q _=>∃(a:Addr)(ps:List Addr)(R8:List (List Pr×List Pr))(ls:List Nat),vs=[.ref a]/\H a=some (.lst (ps.map V.ref))/\Paired (yA H) ps R8/\ls.Pairwise (·<·)/\ls.length<=6/\(∀ x∈R8,On ls x.1/\On ls x.2)/\∀ r H',qi H H'->H' r=some (.tup ((q8 R8).map vS))->Q (.ref r) H'
theorem qnY(h:On ls F)(hl:ls.Pairwise (·<·))(l6:ls.length<=6):F.flatten.length<=192:=by
 have h1:=h.flat2 hl
 have:=qoS ls.length l6
 omega
theorem qqb(F:Fun K "fault_of" "fault_of" qbg f fd)(Ga:Dp P w K mg base 1 fa pI ["one","other"] (qic K added) "added")(Gj:Dp P w K mg base 13 fj fdj ["one","other"] (sp2 K join) "joined"):FnOk P w K mg base CX0 14 f fd ["sides"] (qqa K):=by
 refine F.okd qhp (λ cdv A outer s H vs Q E hr h=>?_);obtain⟨a,ps,R8,ls,rfl,ha,pr,rl,l6,hon,q⟩:=h;have G1:Room 1 _:=hr.mono (by decide);have K5:Room 13 _:=hr.mono (by decide);have o9:Ok9 ls:=⟨rl,by omega⟩;refine⟨_,(qd (qv (i:=1) qhp.nd rfl (Or.inl rfl) (zC qb))
  (qd (yg Jl rfl (zz (pv 0)) (qda (n:=2) rfl (qJ (qp (i:=2) qhp.nd rfl (Or.inl rfl)) (qJ (qp (i:=3) qhp.nd rfl (Or.inl rfl)) zT)))
  (qe (qv (i:=1) qhp.nd rfl (Or.inl rfl) (zf Gj K5 (qa (pv 1) (qa (zf Ga G1 (qa (pv 2) (qa (pv 3) qb))) qb))))))
  (qe (qm (pv 1))))),?_⟩
 refine⟨Va _,λ f0 hf0=>?_⟩;refine⟨_,rfl,a,rfl,⟨_,SqL.of ((qi.up hf0) _ _ ha)⟩,?_⟩;refine jX (K:=K) (xs:=ps.map V.ref) (λ i σ H'=>∃(r:Addr)(v2 v3:Option V),σ=[some (.ref a),some (.ref r),v2,v3]/\qi H H'/\H' r=some (.tup ((q8 (R8.take i)).map vS))) ⟨f0,none,none,rfl,qi.up hf0,qc⟩ (λ i σ H' _ ⟨_,_,_,_,g,_⟩=>SqL.of (g _ _ ha)) ?_ ?_
 ·rintro i x σ H1 hx ⟨r,v2,v3,rfl,g1,e1⟩;obtain⟨p,hp,rfl⟩:=ql hx;obtain⟨fg,uC,sd⟩:=ze pr i p hp;obtain⟨x,y,s1,s2,s3⟩:=sd.mono g1;obtain⟨o1,o2⟩:=hon fg (Yl uC);have oT:On ls (q8 (R8.take i)):=qcn _ λ x hx=>hon x (Yq hx)
  refine⟨p,_,rfl,SqT.of s1,rfl,_,_,rfl,_,_,rfl,rfl,?_⟩;refine⟨_,rfl,_,rfl,_,rfl,x,y,fg.1,fg.2,ls,rfl,SqT.of s2,SqT.of s3,o9,o1,o2,λ r2 H2 g2 e2=>?_⟩;refine⟨r,r2,q8 (R8.take i),added fg.1 fg.2,ls,rfl,SqT.of (g2 _ _ e1),SqT.of e2,o9,oT,o1.added o2,?_,λ r3 H3 g3 e3=>?_⟩
  ·have a1:=qnY oT rl l6;have a2:=qnY (o1.added o2) rl l6;omega
  exact⟨r3,_,_,rfl,(g1.trans g2).trans g3,by rw[qU uC,qcF];exact e3⟩
 ·rintro σ H1 ⟨r,v2,v3,rfl,g1,e1⟩;rw[U5,show ps.length=R8.length from PySem.Paired.length pr,Ut] at e1;exact⟨_,rfl,q r H1 g1 e1⟩
def qjb:Sp:=λ vs H Q _=>∃(p ls:List Nat),vs=[vS p,vS ls]/\ls.length<=9/\p.length<=9/\p.Sublist ls/\ls.Pairwise (·<·)/\∀ H',qi H H'->Q (.bl true) H'
theorem qjc:FnScope ["self","givens","gaps","wishes","pairs"] ["self","givens","gaps","wishes"] (qh qak):=scF
structure NotC(c:CA)(X:Addr):Prop where
 a:X≠c.always
 n:X≠c.never
 l:X≠c.letter
 o:X≠c.not
 d:X≠c.and
 r:X≠c.or
 e:X≠c.either
theorem NotC.bin(h:NotC c X)(op:Nat):X≠c.bin op:=by
 unfold CA.bin;split
 ·exact h.d
 ·split
  ·exact h.r
  ·exact h.e
theorem qd6{H:Hp}(h:H x=some (.ins X dx fs))(g:H a=some (.ins C dy gs))(n:X≠C):a≠x:=λ e=>by rw[e,h] at g;cases g;exact n rfl
theorem qR.but(n:NotC c X)(h:H x=some (.ins X dx fs))(g:But x H H'):∀{t:Tr}{v:V},qR c H t v->qR c H' t v
 |.letter _,_,⟨a,dx,e,k⟩=>⟨a,dx,e,g _ _ (qd6 h k n.l) k⟩
 |.one,_,⟨a,dx,e,k⟩=>⟨a,dx,e,g _ _ (qd6 h k n.a) k⟩
 |.zero,_,⟨a,dx,e,k⟩=>⟨a,dx,e,g _ _ (qd6 h k n.n) k⟩
 |.neg t,_,⟨a,dx,y,e,k,r⟩=>⟨a,dx,y,e,g _ _ (qd6 h k n.o) k,qR.but n h g r⟩
 |.bin op t u,_,⟨a,dx,y,z,e,k,r,r'⟩=>⟨a,dx,y,z,e,g _ _ (qd6 h k (n.bin op)) k,qR.but n h g r,qR.but n h g r'⟩
def jW(c:CA)(H:Hp)(p:Addr)(x:Wsh):Prop:=∃ a b:V,H p=some (.tup [a,b])/\qR c H x.t a/\qR c H x.u b
theorem jW.mono(h:jW c H p x)(g:qi H H'):jW c H' p x:=let ⟨a,b,e,o1,o2⟩:=h;⟨a,b,g _ _ e,o1.mono g,o2.mono g⟩
theorem jW.but(n:NotC c X)(hx:H x=some (.ins X dx fs))(g:But x H H')(h:jW c H p y):jW c H' p y:=
 let ⟨a,b,e,o1,o2⟩:=h;⟨a,b,g _ _ (λ q=>by rw[q,hx] at e;cases e) e,qR.but n hx g o1,qR.but n hx g o2⟩
theorem qc3(hx:H x=some (.ins X dx fs))(g:But x H H')(h:H a=some (.tup vs)):H' a=some (.tup vs):=g _ _ (λ q=>by rw[q,hx] at h;cases h) h
theorem v9(hx:H x=some (.ins X dx fs))(g:But x H H')(h:H a=some (.lst vs)):H' a=some (.lst vs):=g _ _ (λ q=>by rw[q,hx] at h;cases h) h
theorem yA.but(hx:H x=some (.ins X dx fs))(g:But x H H')(h:yA H p fg):yA H' p fg:=
 let ⟨a,b,e,o1,o2⟩:=h;⟨a,b,qc3 hx g e,qc3 hx g o1,qc3 hx g o2⟩
noncomputable def Wsh.said(x:Wsh):List Nat:=x.t.text++[32,61,32]++x.u.text
noncomputable def Wsh.side(x:Wsh):List Pr×List Pr:=(x.t.form,x.u.form)
structure TaskAt(CT:Addr)(H:Hp)(o:Addr)(gv gp:List Nat)(ws:List Wsh)(dx a1 a2 a3:Addr)(ps:List Addr):Prop where
 ins:H o=some (.ins CT dx [("given_letters",vS gv),("gap_letters",vS gp),("wish_texts",.ref a1),("side_forms",.ref a2),("fault_form",.ref a3)])
 said:H a1=some (.lst (ws.map λ x=>vS x.said))
 sides:H a2=some (.lst (ps.map V.ref))
 side:Paired (yA H) ps (ws.map Wsh.side)
 fault:H a3=some (.tup ((q8 (ws.map Wsh.side)).map vS))
noncomputable def abc:List Nat:=[97,98,99]
noncomputable def xyz:List Nat:=[120,121,122]
theorem qnn:("abc":Str)=qj abc:=by decide +kernel
theorem qno:("xyz":Str)=qj xyz:=by decide +kernel
theorem jo {gp:List Nat}(h1:gv.Sublist abc)(h2:gp.Sublist xyz):(gv++gp).Pairwise (·<·)/\(gv++gp).length<=6/\∀ c∈gv++gp,c∈zH:=by
 have s:(gv++gp).Sublist (abc++xyz):=h1.append h2;have r:(abc++xyz).Pairwise (·<·):=by decide
 exact⟨r.sublist s,s.length_le,λ c hc=>(by decide:∀ c∈abc++xyz,c∈zH) c (s.subset hc)⟩
def qlT(K:W.Frag)(CT:Addr):Sp:=λ vs H Q _=>∃(x dx wl:Addr)(gv gp:List Nat)(ws:List Wsh),vs=[.ref x,vS gv,vS gp,.ref wl]/\H x=some (.ins CT dx [])/\SqL K H wl (ws.map λ y=>vS y.text)/\gv.Sublist abc/\gp.Sublist xyz/\ws.length<=6/\(∀ y∈ws,y.Ok (gv++gp))/\∀ a1 a2 a3 ps H',But x H H'->H a1=none->H a2=none->TaskAt CT H' x gv gp ws dx a1 a2 a3 ps->Q .non H'
theorem qnp(F:Fun K "__init__" "Task.__init__" qak f fd)(T:Txt mg)(C:CTxt K c iL iN iP)(cT:Cls K CT)(nc:NotC c CT)(n1:NoAttr K CT "given_letters")(n2:NoAttr K CT "gap_letters")(n3:NoAttr K CT "wish_texts")(n4:NoAttr K CT "side_forms")(n5:NoAttr K CT "fault_form")(mgiv:mg "GIVENS"=some (.str "abc" t1))(mgap:mg "GAPS"=some (.str "xyz" t2))(mmw:mg "MOST_WISHES"=some (.int 6 t3))(Mt:MTxt K c "text" nU nP nQ nO nS nN nR)(Vt:VOk P w K mg base yf c 21 kD kR kE nU nP nQ nO nS nN nR pR pN pO pM pQ pK pP)(Mf:FTxt K c wQ wM wN wL wP wK wO)(Gf:FOk P w K mg base c 21 wQ wM wN wL wP wK wO dfA dfN dfL dfO dfD dfR dfE)(mM:qk K pR ["self"] [])(mH:qk K pN ["self"] [])(mI:qk K pO ["self"] [])(mC:qk K pM ["self"] [])(mK:qk K pQ ["self"] [])(mB:qk K pK ["self"] [])(mJ:qk K pP ["self"] [])(xO:qk K dfA ["self"] [])(xK:qk K dfN ["self"] [])(xL:qk K dfL ["self"] [])(xJ:qk K dfO ["self"] [])(xN:qk K dfD ["self"] [])(xI:qk K dfR ["self"] [])(xM:qk K dfE ["self"] [])(GI:Dp P w K mg base 1 fI fdI ["text","letters"] qjb "is_row")(GW:Dp P w K mg base 22 fW fdW ["wish","letters"] (qp8 c) "wish_read")(GF:Dp P w K mg base 14 fF fdF ["sides"] (qqa K) "fault_of"):
  FnOk P w K mg base CX0 35 f fd ["self","givens","gaps","wishes"] (qlT K CT):=by
 refine F.okd qjc (λ cdv A outer s H vs Q E hr h=>?_);obtain⟨x,dx,wl,gv,gp,ws,rfl,hx,hw,S1,N9,l6,ok,q⟩:=h;have G1:Room 1 _:=hr.mono (by decide);have hr14:Room 14 _:=hr.mono (by decide);have W2:Room 21 _:=hr.mono (by decide);have hr22:Room 22 _:=hr.mono (by decide);have G3:Room 34 _:=hr.mono (by decide);obtain⟨rl,nA,l9⟩:=jo S1 N9;have dX:=S1.length_le;have W0:=N9.length_le;have la:abc.length=3:=rfl;have lx:xyz.length=3:=rfl;refine⟨_,(qd (zg (PW.pt (qev (qkt (jp (zf GI G1 (qa (pv 1) (qa (zZ (v:=.str "abc") (by rfl) mgiv ⟨_,rfl⟩) qb)))))
   (qb6 (qkt (jp (zf GI G1 (qa (pv 2) (qa (zZ (v:=.str "xyz") (by rfl) mgap ⟨_,rfl⟩) qb)))))))) (qe jq) qG)
  (qd (zg (qx qaN (qB qC (by rfl) T.len J7 (qa (pv 3) qb)) (zZ (v:=.int 6) (by rfl) mmw ⟨_,rfl⟩) (qD _)) (qe jq) qG)
  (qd (qfC (i:=4) qjc.nd rfl rfl (csc (NY:=["wish","givens","gaps"]) (o:=1) (caps:=[1,2]) ["givens","gaps"] rfl
    (by intro x hx;rcases Qd.mp hx with e | hx;· rw[e];exact .inl rfl
        rw[Zl.mp hx];exact .inl rfl) (j2 rfl rfl rfl (j2 rfl rfl rfl yw)) rfl) rfl
    (zz (pv 3)) (λ C0 s H fp pins=>qp (i:=0) (show(["wish","givens","gaps"]:List Str).Nodup by decide +kernel) rfl (Or.inl rfl)) (λ C0 s H fp pins=>zh) (λ C0 s H fp pins=>(zf GW hr22 (qa (pv 0) (qa (qr qP (pv 1) (pv 2)) qb)))))
  (qd (vj (pv 0) (pv 1) rfl)
  (qd (vj (pv 0) (pv 2) rfl)
  (qd (vj (pv 0) (zq (csc (NY:=["left","right"]) (o:=2) (caps:=[]) [] rfl (by simp) yw rfl) rfl
    (zz (pv 4)) (λ C0 s H fp pins=>(show PG _ _ (qmx K 2 (qc9 (kc 0) (qc9 (kc 1) qmw))) from qda (n:=2) rfl (qJ (qp (i:=0) (show(["left","right"]:List Str).Nodup by decide +kernel) rfl (Or.inl rfl) (hf:=Or.inr rfl)) (qJ (qp (i:=1) (show(["left","right"]:List Str).Nodup by decide +kernel) rfl (Or.inl rfl) (hf:=Or.inr rfl)) zT)))) (λ C0 s H fp pins=>zh) (λ C0 s H fp pins=>(qr qP (qr qP (qaM (pv 0) C Mt Vt W2 mM mH mI mC mK mB mJ) qo) (qaM (pv 1) C Mt Vt W2 mM mH mI mC mK mB mJ)))) rfl)
  (qd (vj (pv 0) (zq (csc (NY:=["left","right"]) (o:=2) (caps:=[]) [] rfl (by simp) yw rfl) rfl
    (zz (pv 4)) (λ C0 s H fp pins=>(show PG _ _ (qmx K 2 (qc9 (kc 0) (qc9 (kc 1) qmw))) from qda (n:=2) rfl (qJ (qp (i:=0) (show(["left","right"]:List Str).Nodup by decide +kernel) rfl (Or.inl rfl) (hf:=Or.inr rfl)) (qJ (qp (i:=1) (show(["left","right"]:List Str).Nodup by decide +kernel) rfl (Or.inl rfl) (hf:=Or.inr rfl)) zT)))) (λ C0 s H fp pins=>zh) (λ C0 s H fp pins=>(zC (qa (PE.or (qE (pv 0) C.always Mf.always Gf.always G3 xO .nil qA)
   (PE.or (qE (pv 0) C.never Mf.never Gf.never G3 xK .nil qA)
   (PE.or (qE (pv 0) C.letter Mf.letter Gf.letter G3 xL .nil qA)
   (PE.or (qE (pv 0) C.not Mf.not Gf.not G3 xJ .nil qA)
   (PE.or (qE (pv 0) C.and Mf.and Gf.and G3 xN .nil qA)
   (PE.or (qE (pv 0) C.or Mf.or Gf.or G3 xI .nil qA)
   (qE (pv 0) C.either Mf.either Gf.either G3 xM .nil qA))))))) (qa (PE.or (qE (pv 1) C.always Mf.always Gf.always G3 xO .nil qA)
   (PE.or (qE (pv 1) C.never Mf.never Gf.never G3 xK .nil qA)
   (PE.or (qE (pv 1) C.letter Mf.letter Gf.letter G3 xL .nil qA)
   (PE.or (qE (pv 1) C.not Mf.not Gf.not G3 xJ .nil qA)
   (PE.or (qE (pv 1) C.and Mf.and Gf.and G3 xN .nil qA)
   (PE.or (qE (pv 1) C.or Mf.or Gf.or G3 xI .nil qA)
   (qE (pv 1) C.either Mf.either Gf.either G3 xM .nil qA))))))) qb))))) rfl)
  (qe (vj (pv 0) (zf GF hr14 (qa (zi (pv 0) (by rfl)) qb)) rfl))))))))),?_⟩
 rw[qnn,qno,show(" = ":Str)=qj [32,61,32] by decide +kernel];refine⟨_,rfl,gv,abc,rfl,by decide,by omega,S1,by decide,λ H1 g1=>⟨true,rfl,yh ?_⟩⟩;refine⟨_,rfl,gp,xyz,rfl,by decide,by omega,N9,by decide,λ H2 g2=>⟨true,rfl,yh ?_⟩⟩;have A2:=g1.trans g2;refine⟨_,rfl,wl,_,rfl,.inl (A2.seq hw),_,_,rfl,rfl,_,rfl,?_⟩;rw[U5,Jm (show ¬ (6:Int)<(ws.length:Int) by omega)];refine yh ?_;refine⟨_,rfl,wl,rfl,⟨_,A2.seq hw⟩,?_⟩;refine ym (ws.map λ y=>vS y.text).length (λ i ys H'=>∃ ps:List Addr,ys=ps.map V.ref/\Paired (jW c H') ps (ws.take i)) (λ D hD=>⟨[],rfl,.nil⟩) ?_ ?_ (λ H' sm=>⟨_,(A2.trans sm).seq hw,Q9 _⟩) ?_
 ·rintro i ys H' hi ⟨ps,rfl,hp⟩
  have:=hp.length
  rw[Ul] at this;rw[U5];exact zd (by omega)
 ·rintro i ys H' D Y Z hi hD S9 sm ⟨ps,rfl,hp⟩ hY hZ;rw[U5] at hi;refine⟨⟨_,_,(A2.trans sm).seq hw,Xy (by rw[U5];exact hi)⟩,?_⟩;rintro v pW ⟨rfl,hv⟩;have ev:=hv _ ((A2.trans sm).seq hw);obtain⟨y,hy,rfl⟩:=ql ev;refine⟨⟨rfl,rfl⟩,?_⟩;refine⟨_,rfl,_,rfl,_,rfl,_,_,rfl,rfl,by rw[qy,qy];exact qz (by omega),?_⟩;rw[yp];refine⟨y,gv++gp,rfl,ok y (Yl hy),l9,λ r a b H3 g3 e3 o1 o2=>?_⟩;refine hY _ _ (g3 _ _ S9) (sm.trans g3) ⟨ps++[r],by rw[Jd];rfl,?_⟩;have eD:=g3 _ _ S9;have gX:zM H3 (upd H3 D (.lst (ps.map V.ref++[.ref r]))):=zM.updL eD;rw[qU hy];refine qH (qQ (λ p z hz=>?_) hp) (.cons ⟨a,b,gX _ _ e3 (λ _ z=>nomatch z),qR.monoX gX o1,qR.monoX gX o2⟩ .nil);obtain⟨a',b',k1,k2,k3⟩:=hz.mono g3;exact⟨a',b',gX _ _ k1 (λ _ z=>nomatch z),qR.monoX gX k2,qR.monoX gX k3⟩
 rintro D H3 ys hD sm M9 ⟨ps,rfl,iU⟩;rw[U5,Ut] at iU;have g3:=A2.trans sm;have iR:=g3 _ _ hx;have mZ:ps.length=ws.length:=iU.length;have lK:H3 D=some (.lst (ps.map V.ref)):=M9;refine⟨_,rfl,_,rfl,x,CT,dx,[],rfl,iR,cT,n1,by decide,?_⟩;refine⟨_,rfl,_,rfl,x,CT,dx,_,rfl,qc,cT,n2,by show 1<1000;decide,?_⟩;obtain⟨H5,lJ⟩:∃ H5,H5=upd (upd H3 x (.ins CT dx [("given_letters",vS gv)])) x (.ins CT dx [("given_letters",vS gv),("gap_letters",vS gp)]):=⟨_,rfl⟩;have b5:But x H3 H5:=by rw[lJ];exact((But.refl x H3).upd).upd
 have hx5:H5 x=some (.ins CT dx [("given_letters",vS gv),("gap_letters",vS gp)]):=by rw[lJ];exact qc
 have hD5:=v9 iR b5 lK;have hp5:=qQ (λ p y h=>jW.but nc iR b5 h) iU;have go5:∀ G:Hp->Prop,G H5->G (upd (upd H3 x (.ins CT dx [("given_letters",vS gv)])) x (.ins CT dx [("given_letters",vS gv),("gap_letters",vS gp)])):=λ G h=>lJ ▸ h
 refine go5 _ ?_;have pY:∀ y∈ws,∀ t,(t=y.t∨t=y.u)->t.Of (gv++gp)/\t.Of zH/\t.wt<=20/\t.ht<=21/\Szd t:=λ y hy t ht=>by
  have oy:=ok y hy;have h1:t.Of (gv++gp):=by rcases ht with rfl|rfl;exact oy.t;exact oy.u
  have h2:t.nodes<=20:=by rcases ht with rfl|rfl;exact oy.tn;exact oy.un
  have h3:=j8 t;have h4:t.wt<=20:=by omega
  have h5:=h1.upL l9;exact⟨h1,h5,h4,by have:=t.ht_wt;omega,h5,.inl (Qu (jm (zc Qc t.lets_rise) λ c hc=>Tr.Of.has h1 (t.mem_lets.mp hc)) nA)⟩
 refine⟨_,rfl,D,rfl,⟨_,SqL.of hD5⟩,?_⟩;refine k4 (SqL.of hD5) (λ i=>(ws.take i).map λ y=>vS y.said) rfl (λ i hi=>?_) ?_ ?_
 ·rw[U5,Ul];exact zd (by omega)
 ·intro i v H' D2 Y Z hv lL S9 cM hY hZ;obtain⟨p,hp,rfl⟩:=ql hv;obtain⟨y,hy,pr⟩:=ze hp5 i p hp;obtain⟨a,b,e1,o1,o2⟩:=pr.mono cM;obtain⟨_,t9,tw,th,_⟩:=pY y (Yl hy) y.t (.inl rfl);obtain⟨_,u9,uw,uh,_⟩:=pY y (Yl hy) y.u (.inr rfl);have lt:=y.t.text_len;have lu:=y.u.text_len;refine⟨p,_,rfl,SqT.of e1,rfl,_,_,rfl,_,_,rfl,rfl,⟨rfl,rfl⟩,?_⟩;refine(jA qF (jA qF (dV (f:=yf) (n:=21) (κd:=kD) (κr:=kR) (κe:=kE) (λ _ _=>⟨rfl,rfl,rfl⟩) (λ _ _=>⟨_,_,rfl⟩) (λ _ _=>⟨_,_,rfl⟩) (λ _ _=>⟨_,_,rfl⟩) (dvA rfl) o1 th (by omega) t9) dC (by show _+3<=_;omega))
   (dV (f:=yf) (n:=21) (κd:=kD) (κr:=kR) (κe:=kE) (λ _ _=>⟨rfl,rfl,rfl⟩) (λ _ _=>⟨_,_,rfl⟩) (λ _ _=>⟨_,_,rfl⟩) (λ _ _=>⟨_,_,rfl⟩) (dvA rfl) o2 uh (by omega) u9) (by rw[Ze];show _+3+_<=_;omega)) _ _ _ at0 λ pW wC=>?_
  exact hY _ _ (wC _ _ S9) (cM.trans wC) (zL (f:=λ y:Wsh=>vS y.said) hy)
 intro a1 H6 hA1 s6 h6;rw[U5,mZ,Ut] at h6;have hx6:=s6 _ _ hx5;refine⟨_,rfl,x,CT,dx,_,rfl,hx6,cT,n3,by show 2<1000;decide,?_⟩;obtain⟨H7,bM⟩:∃ H7,H7=upd H6 x (.ins CT dx [("given_letters",vS gv),("gap_letters",vS gp),("wish_texts",.ref a1)]):=⟨_,rfl⟩;have b7:But x H6 H7:=by rw[bM];exact(But.refl x H6).upd
 have hx7:H7 x=some (.ins CT dx [("given_letters",vS gv),("gap_letters",vS gp),("wish_texts",.ref a1)]):=by rw[bM];exact qc
 have nL:=v9 hx6 b7 (s6 _ _ hD5);have hA7:=v9 hx6 b7 h6;have hp7:=qQ (λ p y h=>jW.but nc hx6 b7 (jW.mono h s6)) hp5;have go7:∀ G:Hp->Prop,G H7->G (upd H6 x (.ins CT dx [("given_letters",vS gv),("gap_letters",vS gp),("wish_texts",.ref a1)])):=λ G h=>bM ▸ h
 refine go7 _ ?_;refine⟨_,rfl,D,rfl,⟨_,SqL.of nL⟩,?_⟩;refine ym (ps.map V.ref).length (λ i ys H'=>∃ qs:List Addr,ys=qs.map V.ref/\Paired (yA H') qs ((ws.take i).map Wsh.side)) (λ D hD=>⟨[],rfl,.nil⟩) ?_ ?_ (λ H' cM=>⟨_,cM.seq (SqL.of nL),Q9 _⟩) ?_
 ·rintro i ys H' hi ⟨qs,rfl,hq⟩
  have:=hq.length
  rw[U5,Ul] at this;rw[U5];exact zd (by omega)
 ·rintro i ys H' D2 Y Z hi lL S9 cM ⟨qs,rfl,hq⟩ hY hZ;have uB:i<ps.length:=by rw[U5] at hi;exact hi
  refine⟨⟨_,_,cM.seq (SqL.of nL),Xy hi⟩,?_⟩;rintro v pW ⟨rfl,hv⟩;have ev:=hv _ (cM.seq (SqL.of nL));obtain⟨p,hp,rfl⟩:=ql ev;obtain⟨y,hy,pr⟩:=ze hp7 i p hp;obtain⟨a,b,e1,o1,o2⟩:=pr.mono cM;obtain⟨_,t9,tw,th,ts⟩:=pY y (Yl hy) y.t (.inl rfl);obtain⟨_,u9,uw,uh,us⟩:=pY y (Yl hy) y.u (.inr rfl);refine⟨p,_,rfl,SqT.of e1,rfl,_,_,rfl,_,_,rfl,rfl,⟨rfl,rfl⟩,?_⟩;refine dfm (n:=21) (dvA rfl) o1 th ts _ _ _ at0 λ r1 Ha ga ea=>?_
  refine dfm (n:=21) (dvA rfl) (o2.mono ga) uh us _ _ _ at0 λ r2 Hb gb eb=>⟨qz (by show 2<=_;decide),λ pp cP=>?_⟩
  have gc:=(ga.trans gb).to cP (o:=.tup [.ref r1,.ref r2]);have eD:=gc _ _ S9;have gX:zM (upd Hb pp (.tup [.ref r1,.ref r2])) (upd (upd Hb pp (.tup [.ref r1,.ref r2])) D2 (.lst (qs.map V.ref++[.ref pp]))):=zM.updL eD;refine hY _ _ eD (cM.trans gc) ⟨qs++[pp],by rw[Jd];rfl,?_⟩;rw[qU hy,Jd];have bW:∀{z:Addr}{vs:List V},upd Hb pp (.tup [.ref r1,.ref r2]) z=some (.tup vs)->upd (upd Hb pp (.tup [.ref r1,.ref r2])) D2 (.lst (qs.map V.ref++[.ref pp])) z=some (.tup vs):=λ h=>gX _ _ h (λ _ z=>nomatch z)
  refine qH (qQ (λ p' z hz=>?_) hq) (.cons ⟨r1,r2,bW qc,bW ((qi.up cP) _ _ (gb _ _ ea)),bW ((qi.up cP) _ _ eb)⟩ .nil);obtain⟨x1,x2,k1,k2,k3⟩:=yA.mono hz gc;exact⟨x1,x2,bW k1,bW k2,bW k3⟩
 rintro a2 H8 ys hA2 s8 h8 ⟨qs,rfl,hqs⟩;rw[U5,mZ,Ut] at hqs;have hx8:=s8 _ _ hx7;refine⟨_,rfl,x,CT,dx,_,rfl,hx8,cT,n4,by show 3<1000;decide,?_⟩;obtain⟨H9,hH9⟩:∃ H9,H9=upd H8 x (.ins CT dx [("given_letters",vS gv),("gap_letters",vS gp),("wish_texts",.ref a1),("side_forms",.ref a2)]):=⟨_,rfl⟩;have b9:But x H8 H9:=by rw[hH9];exact(But.refl x H8).upd
 have hx9:H9 x=some (.ins CT dx [("given_letters",vS gv),("gap_letters",vS gp),("wish_texts",.ref a1),("side_forms",.ref a2)]):=by rw[hH9];exact qc
 have hA9:=v9 hx8 b9 (s8 _ _ hA7);have hB9:=v9 hx8 b9 h8;have hs9:=qQ (λ p y h=>yA.but hx8 b9 h) hqs;have go9:∀ G:Hp->Prop,G H9->G (upd H8 x (.ins CT dx [("given_letters",vS gv),("gap_letters",vS gp),("wish_texts",.ref a1),("side_forms",.ref a2)])):=λ G h=>hH9 ▸ h
 refine go9 _ ?_;have hon:∀ z∈ws.map Wsh.side,On (gv++gp) z.1/\On (gv++gp) z.2:=λ z hz=>by
  obtain⟨y,hy,rfl⟩:=Qz.mp hz;exact⟨Tr.on (pY y hy y.t (.inl rfl)).1,Tr.on (pY y hy y.u (.inr rfl)).1⟩
 refine⟨_,rfl,x,CT,dx,_,_,rfl,hx9,cT,n4,rfl,a2,qs,ws.map Wsh.side,gv++gp,rfl,hB9,hs9,rl,nA,hon,λ a3 HA gA eA=>?_⟩;have tF:=gA _ _ hx9;refine⟨_,rfl,x,CT,dx,_,rfl,tF,cT,n5,by show 4<1000;decide,?_⟩;have bB:But x HA (upd HA x (.ins CT dx [("given_letters",vS gv),("gap_letters",vS gp),("wish_texts",.ref a1),("side_forms",.ref a2),("fault_form",.ref a3)])):=(But.refl x HA).upd;have B5:But x H H5:=(zu g3).trans b5;have B7:But x H H7:=(B5.trans (zu s6)).trans b7;have fr:∀{Ha:Hp}{z:Addr},But x H Ha->(∃ o,Ha x=some o)->Ha z=none->H z=none:=λ{Ha z} b hxa hz=>by
  cases e:H z with
  |none=>rfl
  |some o =>
   by_cases hzx:z=x
   ·obtain⟨o',iZ⟩:=hxa;rw[hzx,iZ] at hz;cases hz
   ·rw[b z o hzx e] at hz;cases hz
 refine q a1 a2 a3 qs _ ?_ (fr B5 ⟨_,hx5⟩ hA1) (fr B7 ⟨_,hx7⟩ hA2) ⟨qc,v9 tF bB (gA _ _ hA9),v9 tF bB (gA _ _ hB9),qQ (λ p y h=>yA.but tF bB (yA.mono h gA)) hs9,qc3 tF bB eA⟩;exact((((((zu g3).trans b5).trans (zu s6)).trans b7).trans (zu s8)).trans b9).trans ((zu gA).trans bB)
theorem qlU:FnScope ["text","letters"] ["text","letters"] (qh qd1):=scF
theorem qlV(F:Fun K "is_row" "is_row" qd1 f fd)(T:Txt mg): FnOk P w K mg base CX0 1 f fd ["text","letters"] (qjb):=by
 refine F.okd qlU (λ cdv A outer s H vs Q E hr h=>?_);obtain⟨p,ls,rfl,l9,p9,hp,hl,q⟩:=h;refine⟨_,(qe (qm (ya zp (pv 0) (yo XO Ye Yf vD qo (qa (zq (csc (NY:=["letter","text"]) (o:=1) (caps:=[0]) ["text"] rfl
    (by intro x hx;rw[Zl.mp hx];exact .inl rfl) (j2 rfl rfl rfl yw) rfl) rfl
    (vA (pv 1)) (λ C0 s H fp pins=>qp (i:=0) (show(["letter","text"]:List Str).Nodup by decide +kernel) rfl (Or.inl rfl)) (λ C0 s H fp pins=>(qaw (qx qay (pv 0) (pv 1) rfl))) (λ C0 s H fp pins=>(pv 0))) qb)) (qD _)))),?_⟩
 have hz:("":Str).length=0:=by decide
 have hs:(qj ls).cps.size=ls.length:=qy ls;refine⟨_,rfl,rfl,?_⟩;refine⟨_,rfl,_,rfl,?_⟩;refine qfD (λ j=>((ls.take j).filter λ c=>decide (c∈p)).map λ c=>vS [c]) rfl (λ j hj=>?_) ?_ ?_
 ·rw[U5];have:=Yd (λ c=>decide (c∈p)) (ls.take j);rw[Ul] at this;exact zd (by omega)
 ·intro j H6 D6 Y Z hj uV S8 V7 hY hZ;rw[hs] at hj;rw[y8 hj];have fs:=qad (f:=λ c=>decide (c∈p)) hj;refine⟨⟨rfl,rfl⟩,?_⟩;refine⟨_,rfl,_,rfl,_,_,rfl,rfl,_,rfl,?_⟩;refine kq (λ c=>?_) (λ c=>?_)
  ·refine⟨_,rfl,hY _ _ S8 V7 ?_⟩;show List.map _ ((ls.take (j+1)).filter _)=_
   rw[fs,Vz c,Jd];rfl
  ·refine hZ _ S8 V7 ?_;show List.map _ ((ls.take (j+1)).filter _)=_
   rw[fs,V0 c,U6]
 ·intro D6 H6 uV V7 S8;rw[hs,Ut,qg7 hl (hl.sublist hp) (λ c h=>hp.subset h)] at S8;refine⟨_,D6,(p.map λ c=>[c]).map qj,rfl,rfl,.inl (SqL.of (by rw[S8,qba,zD])),?_,?_⟩
  ·rw[jv,hz,zQ];show _+_*0<=_;omega
  rw[ju,zQ];refine⟨rfl,?_⟩;rw[show decide (V.str (qj p)=V.str (qj p))=true from qpI p];exact q _ V7
def Scr(K:W.Frag)(H:Hp)(a:Addr)(ns:List Int):Prop:=SqL K H a (ns.map V.int)/\ns.length<=63
theorem Scr.mono(h:Scr K H a ns)(g:qi H H'):Scr K H' a ns:=⟨g.seq h.1,h.2⟩
theorem qjd{ns:List Int}(h0:0<=k)(h:k<(ns.length:Int)):∃ v:Int,atI (ns.map V.int) k=some (.int v):=by
 have hk:k.toNat<ns.length:=by omega
 have ek:k=((k.toNat:Nat):Int):=by omega
 have:=jc (xs:=ns.map V.int) (j:=k.toNat) (v:=.int ns[k.toNat]) (by rw[Zt,Xy hk];rfl)
 rw[<- ek] at this;exact⟨_,this⟩
theorem qkb{c:Prop}[Decidable c]{A B:Prop}(R:Int->Prop)(hA:c->(∀ z,R z)->A)(hB:¬ c->(∀ z,R z)->B)(hC:∀ z,R z):if c then A else B:=by
 by_cases h:c
 ·rw[Vz h];exact hA h hC
 ·rw[V0 h];exact hB h hC
theorem qoX:bootBuiltins "max"=some (.builtin "max"):=by decide +kernel
def j9(K:W.Frag):Sp:=λ vs H Q _=>∃(a:Addr)(ns:List Int)(k:Int),vs=[.ref a,.int k]/\Scr K H a ns/\0<=k/\k<=100000/\∀ z H',qi H H'->0<=z->z<1000000->Q (.int z) H'
theorem vc:FnScope [sA1,sB3,sB4,"_law_turn"] [sA1,sB3] (qh qao):=scF
theorem qlW(F:Fun K sB0 sB0 qao f fd)(T:Txt mg): FnOk P w K mg base CX0 1 f fd [sA1,sB3] (j9 K):=by
 refine F.okd vc (λ cdv A outer s H vs Q E hr h=>?_);obtain⟨a,ns,k,rfl,hS0,k0,k1,q⟩:=h;refine⟨_,(qd (qv (i:=2) vc.nd rfl (Or.inl rfl) qg)
  (qd (zg (qx qaN (qB qC (by rfl) T.len J7 (qa (pv 0) qb)) qg (qD _))
   (qe (qv (i:=2) vc.nd rfl (Or.inl rfl) (za zA (pv 0) (qr zr (pv 1) (qB qC (by rfl) T.len J7 (qa (pv 0) qb))) (λ _ _=>rfl)))) qG)
  (qd (zg (PW.pt (qfe (qx qaN (qB qC (by rfl) T.len J7 (qa (pv 0) qb)) qg (qD _))
   (qcO (qx zp (qr zr (za zA (pv 0) qg (λ _ _=>rfl)) qg) qg (qD _)))))
   (qd (qv (i:=2) vc.nd rfl (Or.inl rfl) (qr jb (pv 2) qg))
  (qd (yg Jl rfl (zN (by rfl) T.range (qa (qB (qjs rfl) (by rfl) T.min qoM (qa (qr jb (pv 1) (qB qC (by rfl) T.len J7 (qa (pv 0) qb))) (qa qg qb))) qb)) (qp (i:=3) vc.nd rfl (Or.inl rfl))
  (qe (qv (i:=2) vc.nd rfl (Or.inl rfl) (qr jb (pv 2) qg))))
  (qe (qm (qr zr (pv 2) qg))))) qG)
  (qe (qm (qr zr (qr qaU (qr zr (qr qaU (qr zR (qr zR (qr zr (pv 2) qg) (qr qaU qg (pv 1))) qg) qg) qg) qg) qg)))))),?_⟩
 obtain⟨hS,h63⟩:=hS0;have hl:(ns.map V.int).length=ns.length:=U5 _;have q':∀ z:Int,0<=z->z<1000000->Q (.int z) H:=λ z h1 h2=>q z H (qi.refl H) h1 h2
 refine⟨_,rfl,a,_,rfl,.inl hS,_,_,rfl,rfl,_,rfl,?_⟩;rw[hl];refine qkb ?R (λ c1 C=>?hA) (λ c1 C=>?hB) ?hC
 case hA =>
  have c1':(0:Int)<(ns.length:Int):=Ui c1;obtain⟨v,hv⟩:=qjd (ns:=ns) (k:=k % (ns.length:Int)) (Je k (by omega)) (Zm k c1');refine⟨_,rfl,_,rfl,_,rfl,a,_,rfl,.inl hS,?_⟩;rw[hl];refine⟨_,_,rfl,rfl,c1',a,_,_,_,rfl,rfl,hS,hv,?_⟩;exact C v
 case hB=>exact C 0
 intro c;have fin:∀ z:Int,Q (.int (z % 999983)) H:=λ z=>q' _ (Je z (by decide)) (by have:=Zm z (b:=999983) (by decide);omega)
 refine⟨_,rfl,a,_,rfl,.inl hS,_,_,rfl,rfl,_,rfl,?_⟩;rw[hl];have kb:-(2^64)<k/\k<2^64:=⟨by omega,by omega⟩;refine kq (λ c1=>?_) (λ c1=>?_)
 ·have c1':(0:Int)<(ns.length:Int):=Ui c1;obtain⟨v0,hv0⟩:=qjd (ns:=ns) (k:=0) (by decide) c1';refine⟨_,rfl,a,_,0,_,rfl,rfl,hS,hv0,_,_,rfl,rfl,(show(0:Int)<2 by decide),rfl,_,rfl,?_⟩;refine kq (λ c2=>?_) (λ c2=>?_)
  ·refine⟨_,rfl,_,_,rfl,rfl,⟨by decide,by decide⟩,?_⟩;refine⟨_,rfl,_,rfl,a,_,rfl,.inl hS,?_⟩;rw[hl];refine⟨_,_,rfl,rfl,⟨by omega,by omega⟩,_,_,rfl,?_⟩;have d0:0<=k / (ns.length:Int):=Int.ediv_nonneg k0 (by omega);refine⟨_,rfl,?_,?_,?_⟩
   ·show -(2^62)<=(if (24:Int)<k / (ns.length:Int) then(24:Int) else k / (ns.length:Int))
    split <;> omega
   ·show(if (24:Int)<k / (ns.length:Int) then(24:Int) else k / (ns.length:Int))<2^62
    split <;> omega
   refine jl (λ i σ H1=>∃(c:Int)(v:Option V),σ=[some (.ref a),some (.int k),some (.int c),v]/\H1=H) ⟨_,none,rfl,rfl⟩ ?_ ?_
   ·rintro i σ H1 hi ⟨c,v,rfl,rfl⟩;refine⟨_,rfl,_,_,rfl,rfl,⟨by decide,by decide⟩,?_⟩;exact⟨_,_,rfl,rfl⟩
   ·rintro σ H1 ⟨c,v,rfl,rfl⟩;refine⟨_,rfl,_,_,rfl,rfl,(show(0:Int)<4096 by decide),?_⟩;exact q' _ (Je _ (by decide)) (by have:=Zm c (b:=4096) (by decide);omega)
  ·refine⟨_,rfl,_,_,rfl,rfl,(show(0:Int)<1000003 by decide),_,rfl,_,_,rfl,rfl,.inr kb,_,_,rfl,rfl,_,_,rfl,rfl,_,_,rfl,rfl,.inr ⟨by decide,by decide⟩,_,_,rfl,rfl,(show(0:Int)<1000033 by decide),_,_,rfl,rfl,.inr ⟨by decide,by decide⟩,_,_,rfl,rfl,(show(0:Int)<999983 by decide),?_⟩;exact fin _
 ·refine yh ?_;refine⟨_,rfl,_,_,rfl,rfl,(show(0:Int)<1000003 by decide),_,rfl,_,_,rfl,rfl,.inr kb,_,_,rfl,rfl,_,_,rfl,rfl,_,_,rfl,rfl,.inr ⟨by decide,by decide⟩,_,_,rfl,rfl,(show(0:Int)<1000033 by decide),_,_,rfl,rfl,.inr ⟨by decide,by decide⟩,_,_,rfl,rfl,(show(0:Int)<999983 by decide),?_⟩;exact fin _
noncomputable def qin:List (List Nat):=[[97,98,99],[97,98],[97],[],[98,99],[99],[97,99],[98]]
noncomputable def qio:List (List Nat):=[[120,121],[120,121,122],[120],[],[121,122],[122],[120,122],[120,121]]
theorem qip:[V.str "abc",V.str "ab",V.str "a",V.str "",V.str "bc",V.str "c",V.str "ac",V.str "b"]=qin.map vS:=by
 have e1:("abc":Str)=qj [97,98,99]:=by decide +kernel
 have e2:("ab":Str)=qj [97,98]:=by decide +kernel
 have e3:("a":Str)=qj [97]:=by decide +kernel
 have e4:("":Str)=qj []:=by decide +kernel
 have e5:("bc":Str)=qj [98,99]:=by decide +kernel
 have e6:("c":Str)=qj [99]:=by decide +kernel
 have e7:("ac":Str)=qj [97,99]:=by decide +kernel
 have e8:("b":Str)=qj [98]:=by decide +kernel
 rw[e1,e2,e3,e4,e5,e6,e7,e8];rfl
theorem qiq:[V.str "xy",V.str "xyz",V.str "x",V.str "",V.str "yz",V.str "z",V.str "xz",V.str "xy"]=qio.map vS:=by
 have e1:("xy":Str)=qj [120,121]:=by decide +kernel
 have e2:("xyz":Str)=qj [120,121,122]:=by decide +kernel
 have e3:("x":Str)=qj [120]:=by decide +kernel
 have e4:("":Str)=qj []:=by decide +kernel
 have e5:("yz":Str)=qj [121,122]:=by decide +kernel
 have e6:("z":Str)=qj [122]:=by decide +kernel
 have e7:("xz":Str)=qj [120,122]:=by decide +kernel
 rw[e1,e2,e3,e4,e5,e6,e7];rfl
theorem qlX{l:List (List Nat)}(h0:0<=i)(h:i<(l.length:Int)):∃ c∈l,atI (l.map vS) i=some (vS c):=by
 have hk:i.toNat<l.length:=by omega
 have:=jc (xs:=l.map vS) (j:=i.toNat) (v:=vS l[i.toNat]) (by rw[Zt,Xy hk];rfl)
 rw[show((i.toNat:Nat):Int)=i by omega] at this;exact⟨_,Us hk,this⟩
def qir(K:W.Frag):Sp:=λ vs H Q _=>∃(a:Addr)(ns:List Int),vs=[.ref a]/\Scr K H a ns/\∀ r (gv gp:List Nat) H',qi H H'->H' r=some (.tup [vS gv,vS gp])->gv.Sublist [97,98,99]->gp.Sublist [120,121,122]->Q (.ref r) H'
theorem qf5:FnScope [sA1,sB4,sA5] [sA1] (qh jS):=scF
theorem qnq(F:Fun K sB6 sB6 jS f fd)(T:Txt mg)(i6:Dp P w K mg base 1 C6 C7 [sA1,sB3] (j9 K) sB0): FnOk P w K mg base CX0 2 f fd [sA1] (qir K):=by
 refine F.okd qf5 (λ cdv A outer s H vs Q E hr h=>?_);obtain⟨a,ns,rfl,hS,q⟩:=h;refine⟨_,(qd (qv (i:=1) qf5.nd rfl (Or.inl rfl) (zf i6 hr (qa (pv 0) (qa qg qb))))
  (qd (qv (i:=2) qf5.nd rfl (Or.inl rfl) (za zA (zK (qa qo (qa qo (qa qo (qa qo (qa qo (qa qo (qa qo (qa qo qb))))))))) (qr zr (pv 1) qg) (λ _ _=>rfl)))
  (qe (qm (zC (qa (pv 2) (qa (za zA (zK (qa qo (qa qo (qa qo (qa qo (qa qo (qa qo (qa qo (qa qo qb))))))))) (qr zr (qr jb (pv 1) qg) qg) (λ _ _=>rfl)) qb))))))),?_⟩
 refine⟨_,rfl,a,ns,0,rfl,hS,by decide,by decide,λ z H1 g1 z0 z1=>?_⟩;refine⟨qz (by show 8<=_;decide),λ p hp=>?_⟩;have n0:=Je z (b:=8) (by decide);have n1:=Zm z (b:=8) (by decide);obtain⟨gv,hgv,hJ⟩:=qlX (l:=qin) n0 n1;rw[<- qip] at hJ
 have s1:gv.Sublist [97,98,99]:=(by decide:∀ l∈qin,l.Sublist [97,98,99]) gv hgv;refine⟨_,rfl,_,_,rfl,rfl,(show(0:Int)<8 by decide),p,_,_,_,rfl,rfl,SqL.of qc,hJ,?_⟩;have g2:=g1.to hp (o:=.lst [V.str "abc",V.str "ab",V.str "a",V.str "",V.str "bc",V.str "c",V.str "ac",V.str "b"]);have m0:=Je (z / 8) (b:=8) (by decide);have m1:=Zm (z / 8) (b:=8) (by decide);obtain⟨gp,hgp,uN⟩:=qlX (l:=qio) m0 m1;rw[<- qiq] at uN;have s2:gp.Sublist [120,121,122]:=(by decide:∀ l∈qio,l.Sublist [120,121,122]) gp hgp;refine⟨_,rfl,qz (by show 8<=_;decide),λ p2 bC=>?_⟩;have g3:=g2.to bC (o:=.lst [V.str "xy",V.str "xyz",V.str "x",V.str "",V.str "yz",V.str "z",V.str "xz",V.str "xy"]);refine⟨_,rfl,_,_,rfl,rfl,⟨by decide,by decide⟩,_,_,rfl,rfl,(show(0:Int)<8 by decide),p2,_,_,_,rfl,rfl,SqL.of qc,uN,qz (by show 2<=_;decide),λ r N2=>?_⟩;exact q r gv gp _ (g3.to N2) qc s1 s2
noncomputable def qje:List Nat:=[97,108,119,97,121,115]
noncomputable def qis:List Nat:=[110,101,118,101,114]
noncomputable def qlY:List Nat:=[110,111,116]
noncomputable def qco:List Nat:=[97,110,100]
noncomputable def wOr:List Nat:=[111,114]
noncomputable def jk:List Nat:=[101,105,116,104,101,114]
theorem qbp:("always":Str)=qj qje:=by decide +kernel
theorem qkc:("never":Str)=qj qis:=by decide +kernel
theorem qf6:("not":Str)=qj qlY:=by decide +kernel
theorem qf7:("and":Str)=qj qco:=by decide +kernel
theorem qit:("or":Str)=qj wOr:=by decide +kernel
theorem qd7:("either":Str)=qj jk:=by decide +kernel
noncomputable def opW(op:Nat):List Nat:=if op=38 then qco else if op=124 then wOr else jk
def TrW(H:Hp):Tr->V->Prop
 |.letter c,v=>∃ a,v=.ref a/\H a=some (.tup [vS qf0,vS [c]])
 |.one,v=>∃ a,v=.ref a/\H a=some (.tup [vS qje])
 |.zero,v=>∃ a,v=.ref a/\H a=some (.tup [vS qis])
 |.neg t,v=>∃ a x,v=.ref a/\H a=some (.tup [vS qlY,x])/\TrW H t x
 |.bin op t u,v=>∃ a x y,v=.ref a/\H a=some (.tup [vS (opW op),x,y])/\TrW H t x/\TrW H u y
theorem TrW.mono(g:zE H H'):∀{t:Tr}{v:V},TrW H t v->TrW H' t v
 |.letter c,_,⟨a,e,h⟩=>⟨a,e,g _ _ h⟩
 |.one,_,⟨a,e,h⟩=>⟨a,e,g _ _ h⟩
 |.zero,_,⟨a,e,h⟩=>⟨a,e,g _ _ h⟩
 |.neg t,_,⟨a,x,e,h,r⟩=>⟨a,x,e,g _ _ h,TrW.mono g r⟩
 |.bin op t u,_,⟨a,x,y,e,h,r,r'⟩=>⟨a,x,y,e,g _ _ h,TrW.mono g r,TrW.mono g r'⟩
def qf8:Sp:=λ vs H Q _=>∃(m:Int)(ls:List Nat),vs=[.int m,vS ls]/\0<=m/\ls.length<=9/\∀ t v H',qi H H'->TrW H' t v->t.Of ls->t.wt=1->Q v H'
theorem qnr:FnScope [sB4,sA0] [sB4,sA0] (qh qbh):=scF
theorem qns(F:Fun K sC5 sC5 qbh f fd)(T:Txt mg): FnOk P w K mg base CX0 1 f fd [sB4,sA0] (qf8):=by
 refine F.okd qnr (λ cdv A outer s H vs Q E hr h=>?_);obtain⟨m,ls,rfl,m0,l9,q⟩:=h;refine⟨_,(qd (zg (qx zp (qr zr (pv 0) qg) qg (qD _))
   (qe (qm (zC (qa qo qb)))) qG)
  (qd (zg (PW.pt (qev (qx zp (qr zr (pv 0) qg) qg (qD _))
   (qb6 (qx zp (pv 1) qo (qD _)))))
   (qe (qm (zC (qa qo qb)))) qG)
  (qe (qm (zC (qa qo (qa (za qol (pv 1) (qr zr (qr jb (pv 0) qg) (qB yb (by rfl) T.len J7 (qa (pv 1) qb))) (λ _ _=>rfl)) qb))))))),?_⟩
 rw[qbp,qkc,qbm,show("":Str)=qj [] by decide +kernel];have hl:(qj ls).length=ls.length:=qy ls;refine⟨_,rfl,_,_,rfl,rfl,(show(0:Int)<9 by decide),rfl,_,rfl,?_⟩;refine kq (λ c1=>?_) (λ c1=>?_)
 ·refine⟨qz (by show 1<=_;decide),λ p hp=>?_⟩;exact q .one _ _ (qi.up hp) ⟨p,rfl,qc⟩ trivial rfl
 have never:qmv (qpo (kf (tC (.str (qj qis))) yR)) { nx:=λ x H'=>Q V.non H',rt:=Q } [some (.int m),some (vS ls)] H:=⟨qz (by show 1<=_;decide),λ p hp=>q .zero _ _ (qi.up hp) ⟨p,rfl,qc⟩ trivial rfl⟩;refine⟨_,rfl,_,_,rfl,rfl,(show(0:Int)<9 by decide),rfl,_,rfl,?_⟩;refine kq (λ c2=>?_) (λ c2=>?_)
 ·exact kn never
 refine⟨_,rfl,rfl,_,rfl,?_⟩;refine kq (λ c3=>?_) (λ c3=>?_)
 ·exact never
 have ne:0<ls.length:=by
  cases ls with
  |nil=>exact absurd rfl c3
  |cons x l=>simp
 have i0:=Je (m / 9) (b:=(ls.length:Int)) (by omega);have i1:=Zm (m / 9) (b:=(ls.length:Int)) (by omega);obtain⟨c,hc,hJ⟩:=qpQ (l:=ls) i0 i1;refine⟨_,rfl,_,rfl,_,_,rfl,rfl,⟨by decide,by decide⟩,_,rfl,_,rfl,by rw[hl];exact qz (by omega),?_⟩;rw[hl];refine⟨_,_,rfl,rfl,(by show(0:Int)<(ls.length:Int);omega),_,_,c,rfl,rfl,by rw[hl];exact qz (by omega),hJ,qz (by show 2<=_;decide),λ p hp=>?_⟩;exact q (.letter c) _ _ (qi.up hp) ⟨p,rfl,qc⟩ hc rfl
inductive StW(ls:List Nat)(H:Hp):List V->Nat->Prop where
 |nil:StW ls H [] 0
 |snoc {ws:List V} {n:Nat} {x:V} {t:Tr} (h:StW ls H ws n) (tr:TrW H t x) (of:t.Of ls):StW ls H (ws++[x]) (n+t.wt)
theorem StW.mono(h:StW ls H vs n)(g:zE H H'):StW ls H' vs n:=by
 induction h with
 |nil=>exact .nil
 |snoc h tr of ih=>exact ih.snoc (tr.mono g) of
theorem StW.len(h:StW ls H vs n):vs.length<=n:=by
 induction h with
 |nil=>exact Q9 _
 | @snoc ws n x t h tr of ih=>rw[Ze,XW];have:=t.wt_pos;omega
theorem StW.top(h:StW ls H vs n)(hl:0<vs.length):∃ ws x t k,vs=ws++[x]/\TrW H t x/\t.Of ls/\StW ls H ws k/\n=k+t.wt:=by
 cases h with
 |nil=>cases hl
 |snoc h tr of=>exact⟨_,_,_,_,rfl,tr,of,h,rfl⟩
theorem qd8(ws:List V)(x y:V):(ws++[x]).set ws.length y=ws++[y]:=by simp
theorem qlZ:[V.str (qj qco),V.str (qj wOr),V.str (qj jk),V.str (qj qco)]=([38,124,43,38].map opW).map vS:=rfl
theorem qkd:[V.str (qj jk),V.str (qj qco),V.str (qj wOr)]=([43,38,124].map opW).map vS:=rfl
theorem qjf{l:List Nat}(h0:0<=i)(h:i<(l.length:Int)):∃ c∈l,atI ((l.map opW).map vS) i=some (vS (opW c)):=by
 have hk:i.toNat<l.length:=by omega
 have:=jc (xs:=(l.map opW).map vS) (j:=i.toNat) (v:=vS (opW l[i.toNat])) (by rw[Zt,Zt,Xy hk];rfl)
 rw[show((i.toNat:Nat):Int)=i by omega] at this;exact⟨_,Us hk,this⟩
def qf9(K:W.Frag):Sp:=λ vs H Q _=>∃(a:Addr)(ns:List Int)(mP m:Int)(ls:List Nat),vs=[.ref a,.int mP,.int m,vS ls]/\Scr K H a ns/\0<=mP/\mP<=1000/\1<=m/\m<=100/\ls.length<=9 /\
 ∀ t v H',qi H H'->TrW H' t v->t.Of ls->(t.wt:Int)<=m->Q v H'
theorem qaF:FnScope [sA1,sD0,sA7,sA0,"_law_stack",sB3,sB4,sB1] [sA1,sD0,sA7,sA0] (qh qbi):=scF
theorem qnt(F:Fun K sC1 sC1 qbi f fd)(T:Txt mg)(Gm:Dp P w K mg base 1 fm fdm [sA1,sB3] (j9 K) sB0)(Gl:Dp P w K mg base 1 fl pH [sB4,sA0] qf8 sC5):FnOk P w K mg base CX0 2 f fd [sA1,sD0,sA7,sA0] (qf9 K):=by
 refine F.okd qaF (λ cdv A outer s H vs Q E hr h=>?_);obtain⟨a,ns,mP,m,ls,rfl,hS,a0,a1,m0,m1,l9,q⟩:=h;have G1:Room 1 _:=hr.mono (by decide);refine⟨_,(qd (qv (i:=4) qaF.nd rfl (Or.inl rfl) (zK qb))
  (qd (yg Jl rfl (zN (by rfl) T.range (qa (pv 2) qb)) (qp (i:=5) qaF.nd rfl (Or.inl rfl))
  (qd (qv (i:=6) qaF.nd rfl (Or.inl rfl) (zf Gm G1 (qa (pv 0) (qa (qr zR (pv 1) (pv 5)) qb))))
  (qe (zg (PW.pt (qev (qx qpm (qr zr (pv 6) qg) qg (qD _)) (qb6 (qx zp (qB qC (by rfl) T.len J7 (qa (pv 4) qb)) qg (qD _))))) (qe (yn (yo XE X1 X2 zG (pv 4) (qa (zf Gl G1 (qa (qr jb (pv 6) qg) (qa (pv 3) qb))) qb)))) (qe (zg (qx zp (qr zr (pv 6) qg) qg (qD _)) (qe (qdb (zC (qa qo (qa (za zA (pv 4) (qbu vi qg) (λ _ _=>rfl)) qb))) (qff (pv 4) (qbu vi qg) qbz))) (qe (zg (qx qaN (qB qC (by rfl) T.len J7 (qa (pv 4) qb)) qg (qD _)) (qd (qv (i:=7) qaF.nd rfl (Or.inl rfl) (qfo XE Yg Yh qfp (pv 4)))
  (qe (qdb (zC (qa (za zA (zK (qa qo (qa qo (qa qo (qa qo qb))))) (qr qfg (qr zr (pv 6) qg) qg) (λ _ _=>rfl)) (qa (za zA (pv 4) (qbu vi qg) (λ _ _=>rfl)) (qa (pv 7) qb)))) (qff (pv 4) (qbu vi qg) qbz)))) qG))))))))
  (qd (qgo Jl (qx qaN (qB qC (by rfl) T.len J7 (qa (pv 4) qb)) qg (qD _)) (qd (qv (i:=7) qaF.nd rfl (Or.inl rfl) (qfo XE Yg Yh qfp (pv 4)))
  (qe (qdb (zC (qa (za zA (zK (qa qo (qa qo (qa qo qb)))) (qr zr (qB qC (by rfl) T.len J7 (qa (pv 4) qb)) qg) (λ _ _=>rfl)) (qa (za zA (pv 4) (qbu vi qg) (λ _ _=>rfl)) (qa (pv 7) qb)))) (qff (pv 4) (qbu vi qg) qbz)))))
  (qe (qm (za zA (pv 4) qg (λ _ _=>rfl))))))),?_⟩
 rw[qf6,qf7,qit,qd7];have fY:(0:Int)<8:=by decide
 refine⟨Va _,λ tb htb=>?_⟩;have fT:H tb=none:=htb;refine⟨_,rfl,m,rfl,by omega,by omega,?_⟩;refine jl (λ i σ H'=>∃(vs:List V)(n:Nat)(v5 v6 v7:Option V),σ=[some (.ref a),some (.int mP),some (.int m),some (vS ls),some (.ref tb),v5,v6,v7]/\qi H H'/\H' tb=some (.lst vs)/\StW ls H' vs n/\n<=i/\(0<i->0<vs.length))
  ⟨[],0,none,none,none,rfl,qi.up htb,qc,.nil,Q9 _,λ h=>absurd h (Qc _)⟩ ?_ ?_
 ·rintro i σ H3 hi ⟨vs,n,v5,v6,v7,rfl,g3,e3,sk,hn,hv⟩;have uB:(i:Int)<m:=by omega
  have lv:=sk.len;refine⟨_,rfl,_,rfl,_,rfl,_,_,rfl,rfl,a,ns,_,rfl,hS.mono g3,?_,?_,λ z H4 g4 z0 z1=>?_⟩
  ·show(0:Int)<=mP+(0+(i:Int));omega
  ·show mP+(0+(i:Int))<=100000;omega
  have e4:=g4 _ _ e3;have wA:=g3.trans g4;have sk4:=sk.mono (zj g4);dsimp only[kc];refine yx (qqP qF (qqQ qF (qnT qF (dvA rfl) fY) dC) (zB (dIE qF (qqR (K:=K) (by rfl) (SqL.of e4)) dC))) at0 (λ hb H5 g5=>?_) (λ hb H5 g5=>?_)
  ·have e5:=g5 _ _ e4;refine⟨_,rfl,.inl ⟨rfl,_,SqL.of e5⟩,_,rfl,_,_,rfl,rfl,⟨by decide,by decide⟩,_,rfl,z / 8,ls,rfl,Int.ediv_nonneg z0 (by decide),l9,λ t' v' H6 g6 tr' tof' tw'=>⟨tb,vs,v',rfl,rfl,g6 _ _ e5,zd (by omega),?_⟩⟩;have e6:=g6 _ _ e5;refine⟨vs++[v'],n+t'.wt,_,_,_,rfl,((wA.trans g5).trans g6).at fT,qc,?_,by omega,λ _=>by simp⟩;exact(((sk4.mono (zj g5)).mono (zj g6)).mono (zE.updL e6)).snoc (tr'.mono (zE.updL e6)) tof'
  have e5:=g5 _ _ e4;have fK:=wA.trans g5;rw[Bool.or_eq_false_iff] at hb;have V3:¬ z % 8<3:=Zq hb.1;have cE:¬ ((vs.length:Nat):Int)=0:=Zq hb.2;have z80:=Je z (b:=8) (by decide);have z81:=Zm z (b:=8) (by decide);obtain⟨ws,x,t,k,rfl,tx,ox,pZ,rfl⟩:=(sk4.mono (zj g5)).top (by omega);refine yx (zB (dIE qF (qnT qF (dvA rfl) fY) dC)) at0 (λ hb3 H6 g6=>?_) (λ hb3 H6 g6=>?_)
  ·have e6:=g6 _ _ e5;refine⟨_,rfl,_,rfl,tb,_,_,_,rfl,rfl,SqL.of e6,kF ws x,qz (by show 2<=_;decide),λ p hp=>?_⟩;have e7:upd H6 p (.tup [vS qlY,x]) tb=some (.lst (ws++[x])):=(qi.up hp) _ _ e6;refine⟨_,rfl,_,rfl,tb,_,_,ws.length,rfl,rfl,e7,by rw[Ze,XW];exact qbW _,?_⟩;rw[qd8];have cc:zE H5 (upd (upd H6 p (.tup [vS qlY,x])) tb (.lst (ws++[.ref p]))):=((zj g6).trans (zj (qi.up hp))).trans (zE.updL e7);refine⟨ws++[.ref p],k+(t.wt+1),_,_,_,rfl,((fK.trans g6).to hp).at fT,qc,?_,by omega,λ _=>by simp⟩;exact StW.snoc (t:=.neg t) (pZ.mono cc) ⟨p,x,rfl,(zE.updL e7) _ _ qc,tx.mono cc⟩ ox
  have hb3':¬ z % 8=3:=Zq hb3;have e6:=g6 _ _ e5;refine⟨_,rfl,tb,_,rfl,.inl (SqL.of e6),_,_,rfl,rfl,_,rfl,?_⟩;refine kq (λ cw=>?_) (λ cw=>?_)
  ·have xA:(1:Int)<(((ws++[x]).length:Nat):Int):=Ui cw;rw[Ze,XW] at xA;obtain⟨us,y,t',k',rfl,ty,oy,sku,rfl⟩:=pZ.top (by omega);refine⟨_,rfl,.inl ⟨rfl,_,SqL.of e6⟩,tb,_,x,rfl,rfl,e6,qaC _ x,?_⟩;rw[Yt];have e7:upd H6 tb (.lst (us++[y])) tb=some (.lst (us++[y])):=qc;obtain⟨c,hc,hJ⟩:=qjf (l:=[38,124,43,38]) (i:=z % 8-4) (by omega) (by show z % 8-4<4;omega);rw[<- qlZ] at hJ
   refine⟨qz (by show 4<=_;decide),λ pl w6=>?_⟩;have e8:upd (upd H6 tb (.lst (us++[y]))) pl (.lst [V.str (qj qco),V.str (qj wOr),V.str (qj jk),V.str (qj qco)]) tb=some (.lst (us++[y])):=(qi.up w6) _ _ e7;refine⟨_,rfl,_,_,rfl,rfl,fY,_,_,rfl,rfl,pl,_,_,_,rfl,rfl,SqL.of qc,hJ,_,rfl,_,rfl,tb,_,_,_,rfl,rfl,SqL.of e8,kF us y,_,rfl,qz (by show 3<=_;decide),λ p hp=>?_⟩;have e9:=(qi.up hp (o:=.tup [vS (opW c),y,x])) _ _ e8;refine⟨_,rfl,_,rfl,tb,_,_,us.length,rfl,rfl,e9,by rw[Ze,XW];exact qbW _,?_⟩;rw[qd8];have c1:zE H5 (upd H6 tb (.lst (us++[y]))):=(zj g6).trans (zE.updL e6);have c2:=c1.trans (zj (qi.up w6 (o:=.lst [V.str (qj qco),V.str (qj wOr),V.str (qj jk),V.str (qj qco)])));have c3:=c2.trans (zj (qi.up hp (o:=.tup [vS (opW c),y,x])));have c4:=zE.updL e9 (o:=.lst (us++[.ref p]));have cc:=c3.trans c4;have L6:c=38∨c=124∨c=43:=by
    have:c=38∨c=124∨c=43∨c=38:=by simpa using hc
    rcases this with e|e|e|e <;> simp[e]
   refine⟨us++[.ref p],k'+(t'.wt+t.wt),_,_,_,rfl,((((fK.trans g6).at fT).to w6).to hp).at fT,qc,?_,by omega,λ _=>by simp⟩;exact StW.snoc (t:=.bin c t' t) (sku.mono cc) ⟨p,y,x,rfl,c4 _ _ qc,ty.mono cc,tx.mono cc⟩ ⟨L6,oy,ox⟩
  ·refine⟨ws++[x],k+t.wt,_,_,_,rfl,fK.trans g6,e6,?_,by omega,λ _=>by simp⟩;exact(pZ.mono (zj g6)).snoc (tx.mono (zj g6)) ox
 ·rintro σ H3 ⟨vs,n,v5,v6,v7,rfl,g3,e3,sk,hn,hv⟩;have lv:0<vs.length:=hv (by omega);refine⟨λ μ σ H'=>∃(vs:List V)(n:Nat)(v7:Option V),σ=[some (.ref a),some (.int mP),some (.int m),some (vS ls),some (.ref tb),v5,v6,v7]/\qi H H'/\H' tb=some (.lst vs)/\0<vs.length/\StW ls H' vs n/\n<=m.toNat/\μ=vs.length,⟨_,vs,n,v7,rfl,g3,e3,lv,sk,hn,rfl⟩,?_⟩;rintro μ σ H4 ⟨vs,n,v7,rfl,g4,e4,lv,sk,hn,rfl⟩;have lvn:=sk.len;refine⟨_,rfl,tb,_,rfl,.inl (SqL.of e4),_,_,rfl,rfl,_,rfl,?_⟩;refine kq (λ cw=>?_) (λ cw=>?_)
  ·have xA:(1:Int)<((vs.length:Nat):Int):=Ui cw;obtain⟨ws,x,t,k,rfl,tx,ox,pZ,rfl⟩:=sk.top lv;rw[Ze,XW] at xA;obtain⟨us,y,t',k',rfl,ty,oy,sku,rfl⟩:=pZ.top (by omega);refine⟨λ σ' H'=>∃(nW:List V)(n:Nat)(v7:Option V),σ'=[some (.ref a),some (.int mP),some (.int m),some (vS ls),some (.ref tb),v5,v6,v7]/\qi H H'/\H' tb=some (.lst nW)/\0<nW.length/\StW ls H' nW n/\n<=m.toNat/\nW.length<(us++[y]++[x]).length,?_,?_⟩
   ·rintro σ' H' ⟨nW,n,v7,e,b1,b2,b3,b4,b5,b6⟩;exact⟨nW.length,b6,nW,n,v7,e,b1,b2,b3,b4,b5,rfl⟩
   refine⟨_,rfl,.inl ⟨rfl,_,SqL.of e4⟩,tb,_,x,rfl,rfl,e4,qaC _ x,?_⟩;rw[Yt];have e7:upd H4 tb (.lst (us++[y])) tb=some (.lst (us++[y])):=qc;have n0:=Je (((us++[y]).length:Nat):Int) (b:=3) (by decide);have n1:=Zm (((us++[y]).length:Nat):Int) (b:=3) (by decide);obtain⟨c,hc,hJ⟩:=qjf (l:=[43,38,124]) n0 n1;rw[<- qkd] at hJ
   refine⟨qz (by show 3<=_;decide),λ pl w6=>?_⟩;have e8:upd (upd H4 tb (.lst (us++[y]))) pl (.lst [V.str (qj jk),V.str (qj qco),V.str (qj wOr)]) tb=some (.lst (us++[y])):=(qi.up w6) _ _ e7;refine⟨_,rfl,tb,_,rfl,.inl (SqL.of e8),_,_,rfl,rfl,(show(0:Int)<3 by decide),pl,_,_,_,rfl,rfl,SqL.of qc,hJ,_,rfl,_,rfl,tb,_,_,_,rfl,rfl,SqL.of e8,kF us y,_,rfl,qz (by show 3<=_;decide),λ p hp=>?_⟩;have e9:=(qi.up hp (o:=.tup [vS (opW c),y,x])) _ _ e8;refine⟨_,rfl,_,rfl,tb,_,_,us.length,rfl,rfl,e9,by rw[Ze,XW];exact qbW _,?_⟩;rw[qd8];have c1:zE H4 (upd H4 tb (.lst (us++[y]))):=zE.updL e4;have c2:=c1.trans (zj (qi.up w6 (o:=.lst [V.str (qj jk),V.str (qj qco),V.str (qj wOr)])));have c3:=c2.trans (zj (qi.up hp (o:=.tup [vS (opW c),y,x])));have c4:=zE.updL e9 (o:=.lst (us++[.ref p]));have cc:=c3.trans c4;have L6:c=38∨c=124∨c=43:=by
    have:c=43∨c=38∨c=124:=by simpa using hc
    rcases this with e|e|e <;> simp[e]
   refine⟨us++[.ref p],k'+(t'.wt+t.wt),_,rfl,(((g4.at fT).to w6).to hp).at fT,qc,by simp,?_,by omega,by simp⟩;exact StW.snoc (t:=.bin c t' t) (sku.mono cc) ⟨p,y,x,rfl,c4 _ _ qc,ty.mono cc,tx.mono cc⟩ ⟨L6,oy,ox⟩
  ·have xA:¬ (1:Int)<((vs.length:Nat):Int):=Zq (Z2.mpr cw);obtain⟨ws,x,t,k,rfl,tx,ox,pZ,rfl⟩:=sk.top lv;have hws:ws=[]:=by
    rw[Ze,XW] at xA;exact XD.mp (by omega)
   subst hws;exact⟨_,rfl,tb,_,_,x,rfl,rfl,SqL.of e4,rfl,q t x H4 g4 tx ox (by omega)⟩
theorem qoY:bootBuiltins "int"=some (.type "int"):=by decide +kernel
def ql0(f:Tr->V)(n:Nat):Sp:=λ vs H Q _=>∃(v:V)(t:Tr),vs=[v]/\TrW H t v/\t.ht<=n/\t.wt<=1000/\t.Of zH/\∀ H',qi H H'->Q (f t) H'
theorem dwv(h1:Dv (At σ0 H0) t1 x)(tr:TrW H0 t x)(ht:t.ht<=n)(hw:t.wt<=1000)(of:t.Of zH):
  Dv (At σ0 H0) (qcv (ql0 f n) [] E0 (kf t1 yR)) (f t):=λ σ H Q hΓ q =>
 h1 σ H _ hΓ λ H1 g1=>⟨x,t,rfl,tr.mono (zj (hΓ.2.trans g1)),ht,hw,of,λ H' g=>q H' (g1.trans g)⟩
theorem qhq:FnScope [sA4,"_law_sign"] [sA4] (qh vX):=scF
noncomputable def sgK:List (Key×V):=[(.inr (qj qco),vS [38]),(.inr (qj wOr),vS [124]),(.inr (qj jk),vS [43])]
theorem qnu(h:op=38∨op=124∨op=43):zS (qN [] sgK) (.inr (qj (opW op)))=some (vS [op]):=by
 rcases h with rfl|rfl|rfl <;> rfl
theorem ql1(h:op=38∨op=124∨op=43):opW op≠qf0/\opW op≠qlY/\(opW op=qco ↔ op=38)/\(opW op=wOr ↔ op=124):=by
 rcases h with rfl|rfl|rfl <;> decide
theorem qiu(F:Fun K sB2 sB2 vX f fd)(T:Txt mg)(C3:mg "int"=none)(bG:qk K fd [sA4] [])(mG:mg sB2=some (.ref f))(GG:FnOk P w K mg base CX0 n f fd [sA4] (ql0 yf n)):FnOk P w K mg base CX0 (n+1) f fd [sA4] (ql0 yf (n+1)):=by
 refine F.okd qhq (λ cdv A outer s H vs Q E hr h=>?_);obtain⟨v,t,rfl,tr,ht,hw,of,q⟩:=h;have kG:=F.kp;have K4:=kg hr;refine⟨_,(qd (zg (qx zp (qB qC (by rfl) T.len J7 (qa (pv 0) qb)) qg (qD _)) (qe (qm (za zA (zK (qa qo (qa qo qb))) (zF qjt (by rfl) C3 qoY (qa (ya zp (za zv (pv 0) qg (λ _ _=>rfl)) qo (qD _)) qb)) (λ _ _=>rfl)))) qG)
  (qd (zg (qx zp (za zv (pv 0) qg (λ _ _=>rfl)) qo (qD _)) (qe (qm (za zv (pv 0) qg (λ _ _=>rfl)))) qG)
  (qd (zg (qx zp (za zv (pv 0) qg (λ _ _=>rfl)) qo (qD _)) (qe (qm (qr qP qo (qjE GG hr mG kG bG (qa (za zv (pv 0) qg (λ _ _=>rfl)) qb))))) qG)
  (qd (qv (i:=1) qhq.nd rfl (Or.inl rfl) (qbw K4 (qiS (qbx qo qo (qbx qo qo (qbx qo qo qiR))) rfl rfl (by simp) (by simp)) (za zv (pv 0) qg (λ _ _=>rfl)) (λ _ _=>rfl)))
  (qe (qm (qr qP (qr qP (qr qP (qr qP qo (qjE GG hr mG kG bG (qa (za zv (pv 0) qg (λ _ _=>rfl)) qb))) (pv 1)) (qjE GG hr mG kG bG (qa (za zv (pv 0) qg (λ _ _=>rfl)) qb))) qo))))))),?_⟩
 rw[qbm,qbp,qf6,qf7,qit,qd7,qoQ,qd3,qaE,qlx,qly,qlG,qid,qlw];cases t with
 |letter c =>
  obtain⟨a,rfl,h⟩:=tr;have hT:SqT K H a _:=SqT.of h;refine yx (zB (dIE qF (qaS rfl hT) dC)) at0 (λ hb=>absurd hb (by simp)) (λ _ H1 g1=>?_);refine yx (zB (jV qF (jz rfl (g1.seqT hT) rfl) dC)) at0 (λ _ H2 g2=>?_) (λ hb=>absurd hb (by simp));exact qaL (jz rfl ((g1.trans g2).seqT hT) rfl) at0 λ H3 g3=>q H3 ((g1.trans g2).trans g3)
 |one =>
  obtain⟨a,rfl,h⟩:=tr;have hT:SqT K H a _:=SqT.of h;refine yx (zB (dIE qF (qaS rfl hT) dC)) at0 (λ _ H1 g1=>?_) (λ hb=>absurd hb (by simp));refine⟨qz (by show 2<=_;decide),λ p hp=>?_⟩;have g2:=g1.to hp (o:=.lst [vS [48],vS [49]]);refine jV qF (jz rfl (g2.seqT hT) rfl) dC _ _ _ at0 λ H3 g3=>.inr ⟨_,rfl,?_⟩
  refine⟨p,_,1,vS [49],rfl,rfl,SqL.of (g3 _ _ qc),rfl,?_⟩;exact q H3 (g2.trans g3)
 |zero =>
  obtain⟨a,rfl,h⟩:=tr;have hT:SqT K H a _:=SqT.of h;refine yx (zB (dIE qF (qaS rfl hT) dC)) at0 (λ _ H1 g1=>?_) (λ hb=>absurd hb (by simp));refine⟨qz (by show 2<=_;decide),λ p hp=>?_⟩;have g2:=g1.to hp (o:=.lst [vS [48],vS [49]]);refine jV qF (jz rfl (g2.seqT hT) rfl) dC _ _ _ at0 λ H3 g3=>.inr ⟨_,rfl,?_⟩
  refine⟨p,_,0,vS [48],rfl,rfl,SqL.of (g3 _ _ qc),rfl,?_⟩;exact q H3 (g2.trans g3)
 |neg t =>
  obtain⟨a,x,rfl,h,tx⟩:=tr;have hT:SqT K H a _:=SqT.of h;have ht':t.ht<=n:=XQ ht;have dY:t.wt+1<=1000:=hw;have l1:=t.text_len;refine yx (zB (dIE qF (qaS rfl hT) dC)) at0 (λ hb=>absurd hb (by simp)) (λ _ H1 g1=>?_);refine yx (zB (jV qF (jz rfl (g1.seqT hT) rfl) dC)) at0 (λ hb=>absurd hb (by decide)) (λ _ H2 g2=>?_);have A2:=g1.trans g2;refine yx (zB (jV qF (jz rfl (A2.seqT hT) rfl) dC)) at0 (λ _ H3 g3=>?_) (λ hb=>absurd hb (by decide));have G7:=A2.trans g3;exact qaL (jA qF dC (dwv (f:=yf) (n:=n) (jz rfl (G7.seqT hT) rfl) (tx.mono (zj G7)) ht' (by omega) of) (by rw[XW];omega)) at0 λ H4 g4=>q H4 (G7.trans g4)
 |bin op t u =>
  obtain⟨a,x,y,rfl,h,tx,uy⟩:=tr;have hT:SqT K H a _:=SqT.of h;have hm:max t.ht u.ht+1<=n+1:=ht;have dY:t.wt+u.wt<=1000:=hw;obtain⟨L6,ot,ou⟩:=of;obtain⟨nl,nn,_,_⟩:=ql1 L6;have l1:=t.text_len;have l2:=u.text_len;refine yx (zB (dIE qF (qaS rfl hT) dC)) at0 (λ hb=>absurd hb (by simp)) (λ _ H1 g1=>?_);refine yx (zB (jV qF (jz rfl (g1.seqT hT) rfl) dC)) at0 (λ hb=>absurd (Ui hb) nl) (λ _ H2 g2=>?_);have A2:=g1.trans g2;refine yx (zB (jV qF (jz rfl (A2.seqT hT) rfl) dC)) at0 (λ hb=>absurd (Ui hb) nn) (λ _ H3 g3=>?_);have G7:=A2.trans g3;refine λ p hp=>?_
  refine⟨qc,sgK,rfl,by decide,?_⟩;have g4:qi H (upd (upd H3 p (.dK [])) p (.dK (qN [] sgK))):=(G7.to hp).at (G7.free hp);have gd:=qaK.k (k:=Sum.inr (qj (opW op))) (show upd (upd H3 p (.dK [])) p (.dK (qN [] sgK)) p=some (.dK (qN [] sgK)) from qc);rw[qnu L6] at gd;generalize upd (upd H3 p (.dK [])) p (.dK (qN [] sgK))=H4 at g4 gd;refine⟨_,rfl,a,_,_,vS (opW op),rfl,rfl,g4.seqT hT,rfl,p,vS [op],rfl,gd,?_⟩;exact qaL (jA qF (jA qF (jA qF (jA qF dC (dwv (f:=yf) (n:=n) (jz rfl (g4.seqT hT) rfl) (tx.mono (zj g4)) (by omega) (by omega) ot) (by rw[XW];omega))
   (dvA rfl) (by simp only[Ze,XW];omega)) (dwv (f:=yf) (n:=n) (jz rfl (g4.seqT hT) rfl) (uy.mono (zj g4)) (by omega) (by omega) ou) (by simp only[Ze,XW];omega))
   dC (by simp only[Ze,XW];omega)) at0 λ H5 g5=>q H5 (g4.trans g5)
theorem qhr(F:Fun K sB2 sB2 vX f fd)(T:Txt mg)(C3:mg "int"=none)(bG:qk K fd [sA4] [])(mG:mg sB2=some (.ref f)):∀ n,FnOk P w K mg base CX0 n f fd [sA4] (ql0 yf n)
 |0=>⟨λ vs H Q E h=>by obtain⟨_,t,_,_,h,_⟩:=h;have:=t.ht1;omega,λ A outer s H args us vs Q E _ _ _ _ h=>by obtain⟨_,t,_,_,h,_⟩:=h;have:=t.ht1;omega⟩
 |n+1=>qiu F T C3 bG mG (qhr F T C3 bG mG n)
def ql2(n:Nat):Sp:=λ vs H Q _=>∃(v:V)(d:Addr)(t:Tr)(kvs:List (Key×V))(ρ:Nat->Bool)(ls:List Nat),vs=[v,.ref d]/\TrW H t v/\t.ht<=n/\t.Of ls/\H d=some (.dK kvs)/\(∀ c∈ls,zS kvs (.inr (qj [c]))=some (.bl (ρ c)))/\∀ H',qi H H'->Q (.bl (t.val ρ)) H'
theorem qcp:FnScope [sA4,sA3,sC3,sB1] [sA4,sA3] (qh jN):=scF
theorem dwt(h1:Dv (At σ0 H0) t1 x)(e1:σ0[1]?=some (some (.ref d)))(tr:TrW H0 t x)(ht:t.ht<=n)(of:t.Of ls)(hd:H0 d=some (.dK kvs))(hv:∀ c∈ls,zS kvs (.inr (qj [c]))=some (.bl (ρ c))):
  Dv (At σ0 H0) (qcv (ql2 n) [] E0 (kf t1 (kf (qfd 1) yR))) (.bl (t.val ρ)):=λ σ H Q hΓ q =>
 h1 σ H _ hΓ λ H1 g1=>⟨.ref d,by rw[hΓ.1];exact e1,x,d,t,kvs,ρ,ls,rfl,tr.mono (zj (hΓ.2.trans g1)),ht,of,(hΓ.2.trans g1) _ _ hd,hv,λ H' g=>q H' (g1.trans g)⟩
theorem qhs(F:Fun K sA9 sA9 jN f fd)(T:Txt mg)(bG:qk K fd [sA4,sA3] [])(mG:mg sA9=some (.ref f))(GG:FnOk P w K mg base CX0 n f fd [sA4,sA3] (ql2 n)):FnOk P w K mg base CX0 (n+1) f fd [sA4,sA3] (ql2 (n+1)):=by
 refine F.okd qcp (λ cdv A outer s H vs Q E hr h=>?_);obtain⟨v,d,t,kvs,ρ,ls,rfl,tr,ht,of,hd,hv,q⟩:=h;have K4:=kg hr;have kG:=F.kp;refine⟨_,(qd (zg (qx zp (qB qC (by rfl) T.len J7 (qa (pv 0) qb)) qg (qD _)) (qe (qm (ya zp (za zv (pv 0) qg (λ _ _=>rfl)) qo (qD _)))) qG)
  (qd (zg (qx zp (za zv (pv 0) qg (λ _ _=>rfl)) qo (qD _)) (qe (qm (qbw K4 (pv 1) (za zv (pv 0) qg (λ _ _=>rfl)) (λ _ _=>rfl)))) qG)
  (qd (qv (i:=2) qcp.nd rfl (Or.inl rfl) (qjE GG hr mG kG bG (qa (za zv (pv 0) qg (λ _ _=>rfl)) (qa (pv 1) qb))))
  (qd (zg (qx zp (za zv (pv 0) qg (λ _ _=>rfl)) qo (qD _)) (qe (qm (qhz (pv 2)))) qG)
  (qd (qv (i:=3) qcp.nd rfl (Or.inl rfl) (qjE GG hr mG kG bG (qa (za zv (pv 0) qg (λ _ _=>rfl)) (qa (pv 1) qb))))
  (qd (zg (qx zp (za zv (pv 0) qg (λ _ _=>rfl)) qo (qD _)) (qe (qm (qku (pv 2) (qhy (pv 3))))) qG)
  (qd (zg (qx zp (za zv (pv 0) qg (λ _ _=>rfl)) qo (qD _)) (qe (qm (qpd (pv 2) (qhy (pv 3))))) qG)
  (qe (qm (ya qkz (pv 2) (pv 3) (qD _))))))))))),?_⟩
 rw[qbm,qbp,qf6,qf7,qit];cases t with
 |letter c =>
  obtain⟨a,rfl,h⟩:=tr;have hT:SqT K H a _:=SqT.of h;refine yx (zB (dIE qF (qaS rfl hT) dC)) at0 (λ hb=>absurd hb (by simp)) (λ _ H1 g1=>?_);refine yx (zB (jV qF (jz rfl (g1.seqT hT) rfl) dC)) at0 (λ _ H2 g2=>?_) (λ hb=>absurd hb (by simp));have A2:=g1.trans g2;have gd:=qaK.k (k:=Sum.inr (qj [c])) (A2 _ _ hd);rw[hv c of] at gd;exact⟨_,rfl,_,rfl,a,_,_,_,rfl,rfl,A2.seqT hT,rfl,d,_,rfl,gd,q H2 A2⟩
 |one =>
  obtain⟨a,rfl,h⟩:=tr;have hT:SqT K H a _:=SqT.of h;refine yx (zB (dIE qF (qaS rfl hT) dC)) at0 (λ _ H1 g1=>?_) (λ hb=>absurd hb (by simp));exact qaL (jV qF (jz rfl (g1.seqT hT) rfl) dC) at0 λ H3 g3=>q H3 (g1.trans g3)
 |zero =>
  obtain⟨a,rfl,h⟩:=tr;have hT:SqT K H a _:=SqT.of h;refine yx (zB (dIE qF (qaS rfl hT) dC)) at0 (λ _ H1 g1=>?_) (λ hb=>absurd hb (by simp));exact qaL (jV qF (jz rfl (g1.seqT hT) rfl) dC) at0 λ H3 g3=>q H3 (g1.trans g3)
 |neg t =>
  obtain⟨a,x,rfl,h,tx⟩:=tr;have hT:SqT K H a _:=SqT.of h;have ht':t.ht<=n:=XQ ht;refine yx (zB (dIE qF (qaS rfl hT) dC)) at0 (λ hb=>absurd hb (by simp)) (λ _ H1 g1=>?_);refine yx (zB (jV qF (jz rfl (g1.seqT hT) rfl) dC)) at0 (λ hb=>absurd hb (by decide)) (λ _ H2 g2=>?_);have A2:=g1.trans g2;refine qlz (i:=2) (dwt (jz rfl (A2.seqT hT) rfl) rfl (tx.mono (zj A2)) ht' of (A2 _ _ hd) hv) at0 λ H3 g3=>?_
  have G7:=A2.trans g3;refine yx (zB (jV qF (jz rfl (G7.seqT hT) rfl) dC)) at0 (λ _ H4 g4=>?_) (λ hb=>absurd hb (by decide));exact qaL (qpO (dvA rfl)) at0 λ H5 g5=>q H5 ((G7.trans g4).trans g5)
 |bin op t u =>
  obtain⟨a,x,y,rfl,h,tx,uy⟩:=tr;have hT:SqT K H a _:=SqT.of h;have hm:max t.ht u.ht+1<=n+1:=ht;obtain⟨L6,ot,ou⟩:=of;obtain⟨nl,nn,eA,eO⟩:=ql1 L6;refine yx (zB (dIE qF (qaS rfl hT) dC)) at0 (λ hb=>absurd hb (by simp)) (λ _ H1 g1=>?_);refine yx (zB (jV qF (jz rfl (g1.seqT hT) rfl) dC)) at0 (λ hb=>absurd (Ui hb) nl) (λ _ H2 g2=>?_);have A2:=g1.trans g2;refine qlz (i:=2) (dwt (jz rfl (A2.seqT hT) rfl) rfl (tx.mono (zj A2)) (by omega) ot (A2 _ _ hd) hv) at0 λ H3 g3=>?_
  have G7:=A2.trans g3;refine yx (zB (jV qF (jz rfl (G7.seqT hT) rfl) dC)) at0 (λ hb=>absurd (Ui hb) nn) (λ _ H4 g4=>?_);have rQ:=G7.trans g4;refine qlz (i:=3) (dwt (jz rfl (rQ.seqT hT) rfl) rfl (uy.mono (zj rQ)) (by omega) ou (rQ _ _ hd) hv) at0 λ H5 g5=>?_
  have lN:=rQ.trans g5;refine yx (zB (jV qF (jz rfl (lN.seqT hT) rfl) dC)) at0 (λ hb H6 g6=>?_) (λ hb H6 g6=>?_)
  ·have e:op=38:=eA.mp (Ui hb);refine qaL (qpN qF (dvA rfl) (dvA rfl)) at0 λ H7 g7=>?_
   have:=q H7 ((lN.trans g6).trans g7)
   rw[Tr.val,Vz e] at this;exact this
  have mY:¬ op=38:=λ e=>Zq hb (eA.mpr e)
  have g16:=lN.trans g6;refine yx (zB (jV qF (jz rfl (g16.seqT hT) rfl) dC)) at0 (λ hb H7 g7=>?_) (λ hb H7 g7=>?_)
  ·have e:op=124:=eO.mp (Ui hb);refine qaL (qqO qF (dvA rfl) (dvA rfl)) at0 λ H8 g8=>?_
   have:=q H8 ((g16.trans g7).trans g8)
   rw[Tr.val,V0 mY,Vz e] at this;exact this
  have cA:¬ op=124:=λ e=>Zq hb (eO.mpr e)
  refine qaL (qqN qF (dvA rfl) (dvA rfl)) at0 λ H8 g8=>?_
  have:=q H8 ((g16.trans g7).trans g8)
  rw[Tr.val,V0 mY,V0 cA] at this;exact this
theorem qe4(F:Fun K sA9 sA9 jN f fd)(T:Txt mg)(bG:qk K fd [sA4,sA3] [])(mG:mg sA9=some (.ref f)):∀ n,FnOk P w K mg base CX0 n f fd [sA4,sA3] (ql2 n)
 |0=>⟨λ vs H Q E h=>by obtain⟨_,_,t,_,_,_,_,_,h,_⟩:=h;have:=t.ht1;omega,λ A outer s H args us vs Q E _ _ _ _ h=>by obtain⟨_,_,t,_,_,_,_,_,h,_⟩:=h;have:=t.ht1;omega⟩
 |n+1=>qhs F T bG mG (qe4 F T bG mG n)
noncomputable def zU(ls:List Nat)(r:List Bool):List (Key×V):=(ls.zip r).map λ x=>(Sum.inr (qj [x.1]),V.bl x.2)
theorem vd(hl:ls.length=r.length):zS (zU ls r) (.inr (qj [c]))=if c∈ls then some (.bl (asg ls r c)) else none:=by
 have key:∀(l:List (Nat×Bool)),zS (l.map λ x=>((Sum.inr (qj [x.1]):Key),V.bl x.2)) (.inr (qj [c]))=((l.find? λ x=>decide (x.1=c)).map λ x=>V.bl x.2):=by
  intro l;induction l with
  |nil=>rfl
  |cons x l ih =>
   unfold zS at ih ⊢;rw[Qe,U9,U9];have e:decide (((Sum.inr (qj [x.1]):Key))=.inr (qj [c]))=decide (x.1=c):=by
    by_cases h:x.1=c
    ·rw[h];simp
    ·rw[Jm h,Jm];intro e
     have:=j3 (Sum.inr.inj e)
     exact h (by simpa using this)
   dsimp only;rw[e];cases decide (x.1=c) with
   |true=>rfl
   |false=>exact ih
 unfold zU;rw[key];have mem:∀(ls:List Nat)(r:List Bool),ls.length=r.length->(((ls.zip r).find? λ x=>decide (x.1=c)).map λ x=>V.bl x.2)=if c∈ls then some (.bl (asg ls r c)) else none:=by
  intro ls;induction ls with
  |nil=>intro r h;simp
  |cons a ls ih =>
   intro r h;cases r with
   |nil=>simp at h
   |cons b r =>
    unfold asg;rw[Zi,U9];by_cases e:a=c
    ·subst e;simp
    ·have:=ih r (by simpa using h)
     rw[show decide ((a,b).1=c)=false from Jm e];dsimp only;rw[this];unfold asg;simp[Vu e]
 exact mem ls r hl
theorem qke(h:ls.length=r.length):zU (ls++[c]) (r++[b])=zU ls r++[((Sum.inr (qj [c]):Key),V.bl b)]:=by
 unfold zU;rw[Jc h,Jd];rfl
theorem qcG{ls:List Nat}(hl:ls.Nodup)(hi:i<ls.length):ls[i]∉ls.take i:=λ h=>by
 obtain⟨j,hj,e⟩:=Y0 h;rw[Ul] at hj;rw[Z8] at e;exact absurd ((List.getElem_inj hl).mp e) (by omega)
theorem qaG(g:qi H H1)(h:H1 p=none):H p=none:=by
 cases e:H p with
 |none=>rfl
 |some u=>rw[g _ _ e] at h;cases h
noncomputable def ql3:List Int:=[32,16,8,4,2,1]
theorem qnv {k:Nat}(hn:n<=6)(hk:k<n):atI (ql3.map V.int) ((6:Int)-(n:Int)+(k:Int))=some (.int ((2^(n-1-k):Nat):Int)):=by
 have e:((6:Int)-(n:Int)+(k:Int))=((6-n+k:Nat):Int):=by omega
 rw[e];refine jc ?_;have key:∀ n,n<=6->∀ k,k<n->(ql3.map V.int)[6-n+k]?=some (V.int ((2^(n-1-k):Nat):Int)):=by decide
 exact key n hn k hk
theorem ql4(h:j<=9):qpk 0 ((2^j:Nat):Int):=by
 rcases(show j=0∨j=1∨j=2∨j=3∨j=4∨j=5∨j=6∨j=7∨j=8∨j=9 by omega) with rfl|rfl|rfl|rfl|rfl|rfl|rfl|rfl|rfl|rfl <;> exact⟨by decide,by decide⟩
theorem ql5{ls:List Nat}{r:List Bool}(hc:ls[i]?=some c)(hb:r[i]?=some b):zU (ls.take (i+1)) (r.take (i+1))=zU (ls.take i) (r.take i)++[(.inr (qj [c]),.bl b)]:=by
 unfold zU;rw[qU hc,qU hb,Jc (by
  have h1:=jt hc;have h2:=jt hb;rw[Ul,Ul];omega),Jd]
 rfl
def qga:Sp:=λ vs H Q _=>∃(ls:List Nat)(N:Nat),vs=[vS ls,.int (N:Int)]/\ls.Nodup/\ls.length<=6/\∀ d H',qi H H'->H' d=some (.dK (zU ls (qI ls.length N)))->Q (.ref d) H'
theorem qc4:FnScope [sA0,sA8,sA3,sB3,"_law_letter"] [sA0,sA8] (qh qcl):=scF
theorem qnw(F:Fun K sC4 sC4 qcl f fd)(T:Txt mg): FnOk P w K mg base CX0 1 f fd [sA0,sA8] (qga):=by
 refine F.okd qc4 (λ cdv A outer s H vs Q E hr h=>?_);obtain⟨ls,N,rfl,nd,l6,q⟩:=h;have K4:=kg hr;refine⟨_,(qd (qv (i:=2) qc4.nd rfl (Or.inl rfl) qgt)
  (qd (qcV (n:=2) Jl rfl (qdR (by rfl) T.enumerate (qa (pv 0) qb)) (qJ (qp (i:=3) qc4.nd rfl (Or.inl rfl)) (qJ (qp (i:=4) qc4.nd rfl (Or.inl rfl)) zT))
  (qe (qfi K4 (pv 2) (pv 4) (ya zp (qr zr (qr jb (pv 1) (za zA (zK (qa qg (qa qg (qa qg (qa qg (qa qg (qa qg qb))))))) (qr zR (qr qfg qg (qB yb (by rfl) T.len J7 (qa (pv 0) qb))) (pv 3)) (λ _ _=>rfl))) qg) qg (qD _)) rfl)))
  (qe (qm (pv 2))))),?_⟩
 have hs:(qj ls).cps.size=ls.length:=qy ls;have hl:(qj ls).length=ls.length:=qy ls;refine λ d hd=>?_
 refine⟨_,rfl,_,rfl,?_⟩;refine qce (λ i σ H'=>∃ v3 v4:Option V,σ=[some (vS ls),some (.int (N:Int)),some (.ref d),v3,v4]/\qi H H'/\H' d=some (.dK (zU (ls.take i) ((qI ls.length N).take i)))) ⟨none,none,rfl,qi.up hd,qc⟩ ?_ ?_
 ·rintro i σ H1 hi ⟨v3,v4,rfl,g1,e1⟩;rw[hs] at hi;rw[y8 hi];refine⟨_,_,rfl,_,_,rfl,rfl,?_⟩;have hb:=qg6 (N:=N) hi;have ns_:ls[i]∉ls.take i:=qcG nd hi;have lr:(ls.take i).length=((qI ls.length N).take i).length:=by rw[Ul,Ul,zP]
  have vn:zS (zU (ls.take i) ((qI ls.length N).take i)) (.inr (qj [ls[i]]))=none:=by rw[vd lr,V0 ns_]
  have lk:(zU (ls.take i) ((qI ls.length N).take i)).length<sizeLine:=by unfold zU;rw[U5,Jk,Ul,Ul];exact zd (by omega)
  refine⟨_,rfl,qz (by show 6<=_;decide),λ p hp=>?_⟩;refine⟨_,rfl,_,rfl,by rw[hl];exact qz (by omega),?_⟩;rw[hl];refine⟨_,_,rfl,rfl,_,rfl,_,_,rfl,rfl,p,_,_,_,rfl,rfl,SqL.of (show upd H1 p (.lst (ql3.map V.int)) p=some (.lst (ql3.map V.int)) from qc),qnv l6 hi,_,_,rfl,rfl,ql4 (by omega),_,_,rfl,rfl,(show(0:Int)<2 by decide),rfl,?_⟩;have e2:=(qi.up hp (o:=.lst (ql3.map V.int))) _ _ e1;refine⟨_,rfl,_,rfl,d,_,rfl,.inl ⟨_,.inr (qj [ls[i]]),e2,rfl,lk,rfl⟩,?_⟩;refine⟨_,_,rfl,(g1.to hp).at hd,?_⟩;rw[qc,qdg _ vn,ql5 (Xy hi) hb];congr 5
  have:decide (V.int ((N:Int) / ((2^(ls.length-1-i):Nat):Int) % 2)=V.int 1)=decide (N / 2^(ls.length-1-i) % 2=1):=by
   refine U1.mpr ?_;rw[V.int.injEq];constructor
   ·intro h;exact_mod_cast h
   ·intro h;exact_mod_cast h
  exact congrArg V.bl this
 ·rintro σ H1 ⟨v3,v4,rfl,g1,e1⟩;rw[hs,Ut,XL (by rw[zP];exact Q9 _)] at e1;exact⟨_,rfl,q d H1 g1 e1⟩
noncomputable def qnx:List Int:=[1,2,4,8,16,32,64]
theorem qny{n:Nat}(hn:n<=6):atI (qnx.map V.int) (n:Int)=some (.int ((2^n:Nat):Int)):=by
 refine jc ?_;have key:∀ n,n<=6->(qnx.map V.int)[n]?=some (V.int ((2^n:Nat):Int)):=by decide
 exact key n hn
def qgb:Sp:=λ vs H Q _=>∃ ls:List Nat,vs=[vS ls]/\ls.Nodup/\ls.length<=6/\∀ r ds H',qi H H'->H' r=some (.lst (ds.map V.ref))->Paired (λ d N=>H' d=some (.dK (zU ls (qI ls.length N)))) ds (List.range (2^ls.length))->Q (.ref r) H'
theorem ql6:FnScope [sA0] [sA0] (qh qbj):=scF
theorem ql7(F:Fun K sC6 sC6 qbj f fd)(T:Txt mg)(K0:Dp P w K mg base 1 aA aF [sA0,sA8] (qga) sC4): FnOk P w K mg base CX0 2 f fd [sA0] (qgb):=by
 refine F.okd ql6 (λ cdv A outer s H vs Q E hr h=>?_);obtain⟨ls,rfl,nd,l6,q⟩:=h;refine⟨_,(qe (qm (zq (csc (NY:=[sA8,sA0]) (o:=1) (caps:=[0]) [sA0] rfl
    (by intro x hx;rw[Zl.mp hx];exact .inl rfl) (j2 rfl rfl rfl yw) rfl) rfl
    (zN (by rfl) T.range (qa (za zA (zK (qa qg (qa qg (qa qg (qa qg (qa qg (qa qg (qa qg qb)))))))) (qB yb (by rfl) T.len J7 (qa (pv 0) qb)) (λ _ _=>rfl)) qb)) (λ C0 s H fp pins=>qp (i:=0) (show([sA8,sA0]:List Str).Nodup by decide +kernel) rfl (Or.inl rfl)) (λ C0 s H fp pins=>zh) (λ C0 s H fp pins=>(zf K0 hr (qa (pv 1) (qa (pv 0) qb))))))),?_⟩
 have hl:(qj ls).length=ls.length:=qy ls;have p64:2^ls.length<=64:=Qu (Ys (by decide) l6) (by decide);have c0:=Zd (2^ls.length);have c1:((2^ls.length:Nat):Int)<=64:=by exact_mod_cast p64
 refine⟨qz (by show 7<=_;decide),λ p hp=>?_⟩;refine⟨_,rfl,_,rfl,by rw[hl];exact qz (by omega),?_⟩;rw[hl];refine⟨p,_,_,_,rfl,rfl,SqL.of (show upd H p (.lst (qnx.map V.int)) p=some (.lst (qnx.map V.int)) from qc),qny l6,_,rfl,Int.le_trans (by decide) c0,Int.lt_of_le_of_lt c1 (by decide),?_⟩;have en:(((2^ls.length:Nat):Int)).toNat=2^ls.length:=Zv _;refine ym (((2^ls.length:Nat):Int)).toNat (λ i ys H2=>∃ ds:List Addr,ys=ds.map V.ref/\Paired (λ d N=>H2 d=some (.dK (zU ls (qI ls.length N)))) ds (List.range i)) (λ D hD=>⟨[],rfl,.nil⟩) ?_ ?_ (λ H2 sm=>Q9 _) ?_
 ·rintro i ys H2 hi ⟨ds,rfl,hp⟩
  have:=hp.length
  rw[Z4] at this;rw[U5];exact zd (by omega)
 ·rintro i ys H2 D Y Z hi hD p4 sm ⟨ds,rfl,eM⟩ hY hZ;refine⟨hi,?_⟩;rintro x H' ⟨rfl,rfl⟩;refine⟨⟨rfl,rfl⟩,?_⟩;refine⟨_,rfl,_,rfl,ls,i,(by show [vS ls,V.int (0+(i:Int))]=[vS ls,V.int (i:Int)];rw[Q4]),nd,l6,λ d H3 g3 e3=>?_⟩;have eD:=g3 _ _ p4;refine hY _ _ eD (sm.trans g3) ⟨ds++[d],by rw[Jd];rfl,?_⟩;rw[Jf];have up:∀{z:Addr}{kv:List (Key×V)},H3 z=some (.dK kv)->upd H3 D (.lst (ds.map V.ref++[.ref d])) z=some (.dK kv):=λ{z kv} h=>by
   have:z≠D:=λ q=>by rw[q,eD] at h;cases h
   rw[qu this];exact h
  exact qH (L2.Paired.mapP eM λ z N h=>up (g3 _ _ h)) (.cons (up e3) .nil)
 ·rintro D H2 ys hD sm p4 ⟨ds,rfl,eM⟩;rw[en] at eM;exact q D ds H2 ((qi.up hp).trans sm) p4 eM
def yt(H:Hp)(p:Addr)(x:Tr×Tr):Prop:=∃ a b:V,H p=some (.tup [a,b])/\TrW H x.1 a/\TrW H x.2 b
theorem yt.mono(h:yt H p x)(g:zE H H'):yt H' p x:=let ⟨a,b,e,o1,o2⟩:=h;⟨a,b,g _ _ e,o1.mono g,o2.mono g⟩
def qd9(K:W.Frag):Sp:=λ vs H Q _=>∃(a:Addr)(ns:List Int)(ls:List Nat)(most A4:Int),vs=[.ref a,vS ls,.int most,.int A4]/\Scr K H a ns/\ls.length<=9/\0<=most/\most<=6/\1<=A4/\A4<=20 /\
 ∀ r ps (xs:List (Tr×Tr)) H',qi H H'->H' r=some (.lst (ps.map V.ref))->Paired (yt H') ps xs->(xs.length:Int)<=most->(∀ x∈xs,x.1.Of ls/\x.2.Of ls/\(x.1.wt:Int)<=A4/\(x.2.wt:Int)<=A4)->Q (.ref r) H'
theorem ve:FnScope [sA1,sA0,sC7,sA7,sA2,sB3,"_law_size","_law_left"] [sA1,sA0,sC7,sA7] (qh vY):=scF
theorem qkf(F:Fun K sC0 sC0 vY f fd)(T:Txt mg)(i6:Dp P w K mg base 1 C6 C7 [sA1,sB3] (j9 K) sB0)(x5:Dp P w K mg base 2 P5 P7 [sA1,sD0,sA7,sA0] (qf9 K) sC1): FnOk P w K mg base CX0 3 f fd [sA1,sA0,sC7,sA7] (qd9 K):=by
 refine F.okd ve (λ cdv A outer s H vs Q E hr h=>?_);obtain⟨a,ns,ls,most,A4,rfl,hS,l9,s0,s6,n1,n20,q⟩:=h;refine⟨_,(qd (qv (i:=4) ve.nd rfl (Or.inl rfl) (zK qb))
  (qd (yg Jl rfl (zN (by rfl) T.range (qa (qr zr (zf i6 hr (qa (pv 0) (qa qg qb))) (qr zR (pv 2) qg)) qb)) (qp (i:=5) ve.nd rfl (Or.inl rfl))
  (qd (qv (i:=6) ve.nd rfl (Or.inl rfl) (qr zR qg (qr zr (zf i6 hr (qa (pv 0) (qa (qr zR qg (pv 5)) qb))) (pv 3))))
  (qd (qv (i:=7) ve.nd rfl (Or.inl rfl) (zf x5 hr (qa (pv 0) (qa (qr zR qg (qr qaU qg (pv 5))) (qa (pv 6) (qa (pv 1) qb))))))
  (qe (yn (yo XE X1 X2 zG (pv 4) (qa (zC (qa (pv 7) (qa (zf x5 hr (qa (pv 0) (qa (qr zR qg (qr qaU qg (pv 5))) (qa (qr zR qg (qr zr (qr jb (zf i6 hr (qa (pv 0) (qa (qr zR qg (pv 5)) qb))) qg) (pv 3))) (qa (pv 1) qb))))) qb))) qb)))))))
  (qe (qm (pv 4))))),?_⟩
 refine⟨Va _,λ p0 rE=>?_⟩;have g0:=qi.up rE (o:=.lst []);refine⟨_,rfl,a,ns,1,rfl,hS.mono g0,by decide,by decide,λ z H1 g1 z0 z1=>?_⟩;have m0:=Je z (b:=most+1) (by omega);have m1:=Zm z (b:=most+1) (by omega);refine⟨_,rfl,_,_,rfl,rfl,_,_,rfl,rfl,(by show(0:Int)<most+1;omega),_,rfl,by show _<=z % (most+1);omega,by show z % (most+1)<_;omega,?_⟩;have g01:=g0.trans g1;refine jl (λ i σ H'=>∃(ps:List Addr)(xs:List (Tr×Tr))(v5 v6 v7:Option V),σ=[some (.ref a),some (vS ls),some (.int most),some (.int A4),some (.ref p0),v5,v6,v7]/\qi H H'/\H' p0=some (.lst (ps.map V.ref))/\Paired (yt H') ps xs/\xs.length=i/\∀ x∈xs,x.1.Of ls/\x.2.Of ls/\(x.1.wt:Int)<=A4/\(x.2.wt:Int)<=A4)
  ⟨[],[],none,none,none,rfl,g01,g1 _ _ qc,.nil,rfl,by simp⟩ ?_ ?_
 ·rintro i σ H2 hi ⟨ps,xs,v5,v6,v7,rfl,g2,e2,pr,lx,ok⟩;have hi6:(i:Int)<7:=by
   have:(i:Int)<z % (most+1):=by omega
   omega
  refine⟨_,rfl,_,rfl,_,_,rfl,rfl,a,ns,_,rfl,hS.mono g2,?_,?_,λ y H3 g3 y0 y1=>?_⟩
  ·show(0:Int)<=2+(0+(i:Int));omega
  ·show 2+(0+(i:Int))<=100000;omega
  have c0:=Je y (b:=A4) (by omega);have c1:=Zm y (b:=A4) (by omega);refine⟨_,rfl,_,_,rfl,rfl,(by show(0:Int)<A4;omega),_,_,rfl,rfl,?_⟩;have g23:=g2.trans g3;refine⟨_,rfl,_,rfl,_,_,rfl,rfl,.inl ⟨by decide,by decide⟩,_,_,rfl,rfl,_,rfl,_,rfl,a,ns,_,1+y % A4,ls,rfl,hS.mono g23,?_,?_,by omega,by omega,l9,λ t v H4 g4 tr of wt=>?_⟩
  ·show(0:Int)<=10+20*(0+(i:Int));omega
  ·show 10+20*(0+(i:Int))<=1000;omega
  have e4:=(g3.trans g4) _ _ e2;have g24:=g23.trans g4;refine⟨_,rfl,.inl ⟨rfl,_,SqL.of e4⟩,_,rfl,_,rfl,_,rfl,_,_,rfl,rfl,.inl ⟨by decide,by decide⟩,_,_,rfl,rfl,_,rfl,_,rfl,_,_,rfl,rfl,a,ns,_,rfl,hS.mono g24,?_,?_,λ y' H5 g5 y0' y1'=>?_⟩
  ·show(0:Int)<=2+(0+(i:Int));omega
  ·show 2+(0+(i:Int))<=100000;omega
  have d0:=Je (y' / 16) (b:=A4) (by omega);have d1:=Zm (y' / 16) (b:=A4) (by omega);have g25:=g24.trans g5;refine⟨_,_,rfl,rfl,⟨by decide,by decide⟩,_,rfl,_,_,rfl,rfl,(by show(0:Int)<A4;omega),_,_,rfl,rfl,_,rfl,a,ns,_,1+y' / 16 % A4,ls,rfl,hS.mono g25,?_,?_,by omega,by omega,l9,λ t2 v2 H6 g6 tr2 of2 wt2=>?_⟩
  ·show(0:Int)<=20+20*(0+(i:Int));omega
  ·show 20+20*(0+(i:Int))<=1000;omega
  refine⟨qz (by show 2<=_;decide),λ p hp=>?_⟩;have g46:=g5.trans g6;have e6:=(g46.to hp (o:=.tup [v,v2])) _ _ e4;have lp:ps.length=i:=by rw[pr.length,lx]
  refine⟨p0,_,_,rfl,rfl,e6,by rw[U5];exact zd (by omega),?_⟩;have cT:=(zj ((g3.trans g4).trans (g46.to hp (o:=.tup [v,v2])))).trans (zE.updL e6 (o:=.lst (ps.map V.ref++[.ref p])));have cT4:=(zj (g46.to hp (o:=.tup [v,v2]))).trans (zE.updL e6 (o:=.lst (ps.map V.ref++[.ref p])));have cT6:=(zj (qi.up hp (o:=.tup [v,v2]))).trans (zE.updL e6 (o:=.lst (ps.map V.ref++[.ref p])));refine⟨ps++[p],xs++[(t,t2)],_,_,_,rfl,((g25.trans g6).to hp).at rE,by rw[qc,Jd];rfl,?_,by rw[Ze,lx];rfl,λ x hx=>?_⟩
  ·exact qH (qQ (λ z w h=>yt.mono h cT) pr) (.cons ⟨v,v2,(zE.updL e6) _ _ qc,tr.mono cT4,tr2.mono cT6⟩ .nil)
  ·rcases U3.mp hx with hx | hx
   ·exact ok x hx
   ·rw[Zl.mp hx];exact⟨of,of2,by show(t.wt:Int)<=A4;omega,by show(t2.wt:Int)<=A4;omega⟩
 ·rintro σ H2 ⟨ps,xs,v5,v6,v7,rfl,g2,e2,pr,lx,ok⟩;exact⟨_,rfl,q p0 ps xs H2 g2 e2 pr (by rw[lx];omega) ok⟩
noncomputable def qea(x:Tr×Tr):List Nat:=x.1.text++[32,61,32]++x.2.text
def qcq:Sp:=λ vs H Q _=>∃(r:Addr)(ps:List Addr)(xs:List (Tr×Tr)),vs=[.ref r]/\H r=some (.lst (ps.map V.ref))/\Paired (yt H) ps xs/\xs.length<=100/\(∀ x∈xs,x.1.Of zH/\x.2.Of zH/\x.1.wt<=20/\x.2.wt<=20)/\∀ r' H',qi H H'->H' r'=some (.lst (xs.map λ x=>vS (qea x)))->Q (.ref r') H'
theorem qiv:FnScope [sA2] [sA2] (qh jT):=scF
theorem ql8:(["_law_left","_law_right"]:List Str).Nodup:=by decide +kernel
theorem qiw(F:Fun K sB7 sB7 jT f fd)(GT:Dp P w K mg base 20 fT fdT [sA4] (ql0 yf 20) sB2):FnOk P w K mg base CX0 21 f fd [sA2] qcq:=by
 refine F.okd qiv (λ cdv A outer s H vs Q E hr h=>?_);obtain⟨r,ps,xs,rfl,N2,pr,l6,ok,q⟩:=h;have eJ:Room 20 _:=hr.mono (by decide);refine⟨_,qe (qm (zq (csc (NY:=["_law_left","_law_right"]) (o:=2) (caps:=[]) [] rfl (by simp) yw rfl) rfl
    (zz (pv 0)) (λ C0 s H fp pins=>(show PG _ _ (qmx K 2 (qc9 (kc 0) (qc9 (kc 1) qmw))) from qda (n:=2) rfl (qJ (qp (i:=0) ql8 rfl (Or.inl rfl) (hf:=Or.inr rfl)) (qJ (qp (i:=1) ql8 rfl (Or.inl rfl) (hf:=Or.inr rfl)) zT)))) (λ C0 s H fp pins=>zh)
    (λ C0 s H fp pins=>(qr qP (qr qP (zf GT eJ (qa (pv 0) qb)) qo) (zf GT eJ (qa (pv 1) qb)))))),?_⟩
 rw[show(" = ":Str)=qj [32,61,32] by decide +kernel];have mZ:ps.length=xs.length:=pr.length;refine⟨_,rfl,r,rfl,⟨_,SqL.of N2⟩,?_⟩;refine k4 (SqL.of N2) (λ i=>(xs.take i).map λ x=>vS (qea x)) rfl (λ i hi=>?_) ?_ ?_
 ·rw[U5,Ul];exact zd (by omega)
 ·intro i v H' D2 Y Z hv lL S9 cM hY hZ;obtain⟨p,hp,rfl⟩:=ql hv;obtain⟨x,hx,wp⟩:=ze pr i p hp;obtain⟨a,b,e1,o1,o2⟩:=wp.mono (zj cM);obtain⟨t9,u9,tw,uw⟩:=ok x (Yl hx);have th:=x.1.ht_wt;have uh:=x.2.ht_wt;have lt:=x.1.text_len;have lu:=x.2.text_len;refine⟨p,_,rfl,SqT.of e1,rfl,_,_,rfl,_,_,rfl,rfl,⟨rfl,rfl⟩,?_⟩;refine(jA qF (jA qF (dwv (f:=yf) (n:=20) (dvA rfl) o1 (by omega) (by omega) t9) dC (by show _+3<=_;omega)) (dwv (f:=yf) (n:=20) (dvA rfl) o2 (by omega) (by omega) u9) (by rw[Ze];show _+3+_<=_;omega)) _ _ _ at0 λ pW wC=>?_
  exact hY _ _ (wC _ _ S9) (cM.trans wC) (zL (f:=λ x=>vS (qea x)) hx)
 intro D H6 hD s6 h6;rw[U5,mZ,Ut] at h6;exact q D H6 s6 h6
def qcr(K:W.Frag):Sp:=λ vs H Q _=>∃(r d:Addr)(ps:List Addr)(xs:List (Tr×Tr))(kvs:List (Key×V))(ρ:Nat->Bool)(ls:List Nat),vs=[.ref r,.ref d]/\H r=some (.lst (ps.map V.ref))/\Paired (yt H) ps xs/\xs.length<=100/\(∀ x∈xs,x.1.Of ls/\x.2.Of ls/\x.1.ht<=20/\x.2.ht<=20)/\H d=some (.dK kvs)/\(∀ c∈ls,zS kvs (.inr (qj [c]))=some (.bl (ρ c))) /\
 ∀ r' (is:List Int) H',qi H H'->H' r'=some (.lst (is.map V.int))->decide (0<is.length)=(xs.any λ x=>x.1.val ρ != x.2.val ρ)->Q (.ref r') H'
theorem qix:FnScope [sA2,sA3] [sA2,sA3] (qh jU):=scF
theorem ql9:([sB3,"_law_wish",sA3]:List Str).Nodup:=by decide +kernel
theorem qiy(F:Fun K sB8 sB8 jU f fd)(T:Txt mg)(GT:Dp P w K mg base 20 fT fdT [sA4,sA3] (ql2 20) sA9):FnOk P w K mg base CX0 21 f fd [sA2,sA3] (qcr K):=by
 refine F.okd qix (λ cdv A outer s H vs Q E hr h=>?_);obtain⟨r,d,ps,xs,kvs,ρ,ls,rfl,N2,pr,l6,ok,hd,hv,q⟩:=h;have eJ:Room 20 _:=hr.mono (by decide);refine⟨_,qe (qm (qbD (n:=2) (csc (NY:=[sB3,"_law_wish",sA3]) (o:=2) (caps:=[1]) [sA3] rfl
    (by intro x hx;rw[Zl.mp hx];exact .inl rfl) (j2 rfl rfl rfl yw) rfl) rfl
    (qmJ (by rfl) T.enumerate (qa (pv 0) qb))
    (λ C0 s H fp pins=>qJ (qp (i:=0) ql9 rfl (Or.inl rfl)) (qJ (qp (i:=1) ql9 rfl (Or.inl rfl)) zT)) (λ _=>rfl) (λ _=>rfl)
    (λ C0 s H fp pins=>(qaw (qx qkz (zf GT eJ (qa (za (r:=qmD K) zv (pv 1) qg (λ _ _=>rfl)) (qa (pv 2) qb))) (zf GT eJ (qa (za (r:=qmD K) zv (pv 1) qg (λ _ _=>rfl)) (qa (pv 2) qb))) (qD _)))) (λ C0 s H fp pins=>(pv 0)))),?_⟩
 have mZ:ps.length=xs.length:=pr.length;refine⟨_,rfl,r,rfl,⟨_,SqL.of N2⟩,?_⟩;refine ym (ps.map V.ref).length (λ i ys H'=>∃ is:List Int,ys=is.map V.int/\is.length<=i/\decide (0<is.length)=((xs.take i).any λ x=>x.1.val ρ != x.2.val ρ)) (λ D hD=>⟨[],rfl,Q9 _,rfl⟩) (λ i ys H' hi ⟨is,e,hl,_⟩=>by rw[e,U5];rw[U5] at hi;exact zd (by omega)) ?_ (λ H' sm=>⟨_,sm.seq (SqL.of N2),Q9 _⟩) ?_
 ·rintro i ys H' D Y Z hi hD S9 sm ⟨is,rfl,hl,cF⟩ hY hZ;refine⟨⟨_,_,sm.seq (SqL.of N2),Xy hi⟩,?_⟩;rintro zs pW ⟨rfl,v,rfl,dZ⟩;have ev:=dZ _ (sm.seq (SqL.of N2));obtain⟨p,hp,rfl⟩:=ql ev;obtain⟨x,hx,wp⟩:=ze pr i p hp;obtain⟨a,b,e1,o1,o2⟩:=wp.mono (zj sm);obtain⟨t9,u9,th,uh⟩:=ok x (Yl hx);refine⟨rfl,_,_,rfl,_,_,rfl,rfl,⟨rfl,rfl⟩,?_⟩;refine⟨_,rfl,p,_,_,_,rfl,rfl,SqT.of e1,rfl,_,rfl,a,d,x.1,kvs,ρ,ls,rfl,o1,th,t9,sm _ _ hd,hv,λ H1 g1=>?_⟩;refine⟨_,rfl,p,_,_,_,rfl,rfl,SqT.of (g1 _ _ e1),rfl,_,rfl,b,d,x.2,kvs,ρ,ls,rfl,o2.mono (zj g1),uh,u9,g1 _ _ (sm _ _ hd),hv,λ H2 g2=>?_⟩;have A2:=g1.trans g2;have xQ:((xs.take (i+1)).any λ x=>x.1.val ρ != x.2.val ρ)=(((xs.take i).any λ x=>x.1.val ρ != x.2.val ρ) || (x.1.val ρ != x.2.val ρ)):=by rw[qU hx,List.any_append];simp
  refine⟨rfl,_,rfl,?_⟩;rw[qfF];refine kq (λ c=>?_) (λ c=>?_)
  ·refine⟨_,rfl,hY _ _ (A2 _ _ S9) (sm.trans A2) ⟨is++[(i:Int)],by rw[Jd];rfl,by rw[Ze,XW];omega,?_⟩⟩;rw[xQ,c,Bool.or_true];exact J8 (by rw[Ze,XW];omega)
  ·refine hZ _ (A2 _ _ S9) (sm.trans A2) ⟨is,rfl,by omega,?_⟩;rw[xQ,Z2.mpr c,Qh,cF]
 ·rintro D H6 ys hD s6 h6 ⟨is,rfl,hl,cF⟩;rw[U5,mZ,Ut] at cF;exact q D is H6 s6 h6 cF
structure TaskC(K:W.Frag)(CT:Addr):Prop where
 cls:Cls K CT
 n1:NoAttr K CT "given_letters"
 n2:NoAttr K CT "gap_letters"
 n3:NoAttr K CT "wish_texts"
 n4:NoAttr K CT "side_forms"
 n5:NoAttr K CT "fault_form"
theorem qoZ:FnScope ["self"] ["self"] (qh vV):=scF
def qjg(CT:Addr):Sp:=λ vs H Q _=>∃(o:Addr)(gv gp:List Nat)(ws:List Wsh)(dx a1 a2 a3:Addr)(ps:List Addr),vs=[.ref o]/\TaskAt CT H o gv gp ws dx a1 a2 a3 ps/\∀ H',qi H H'->Q (.ref a3) H'
theorem qma(F:Fun K "fault" "Task.fault" vV f fd)(tc:TaskC K CT):FnOk P w K mg base CX0 1 f fd ["self"] (qjg CT):=by
 refine F.okd qoZ (λ cdv A outer s H vs Q E hr h=>?_);obtain⟨o,gv,gp,ws,dx,a1,a2,a3,ps,rfl,t,q⟩:=h;refine⟨_,qe (qm (zi (pv 0) rfl)),?_⟩;exact⟨_,rfl,o,CT,dx,_,_,rfl,t.ins,tc.cls,tc.n5,rfl,q H (qi.refl H)⟩
def qgc(K:W.Frag):Sp:=λ vs H Q _=>∃(a:Addr)(t:List Bool)(ls:List Nat),vs=[vS ls,.ref a]/\SqL K H a (t.map V.bl)/\t.length=2^ls.length/\ls.Pairwise (·<·)/\ls.length<=6 /\
 ∀ r H',qi H H'->H' r=some (.tup ((yj ls t).map vS))->Q (.ref r) H'
theorem qnz(i k:Nat):decide (V.int (Builtin.bitAnd (0+(k:Int)) (0+(i:Int)))=V.int (0+(k:Int)))=prt i k:=by
 rw[Q4,Q4,qm6];unfold prt;by_cases h:k &&& i=k
 ·rw[h];simp
 ·rw[Jm (λ e=>h (by have:=V.int.inj e;exact_mod_cast this)),Y8.mpr h]
theorem qqc{t:List Bool}(h:k<t.length):atI (t.map V.bl) (0+(k:Int))=some (.bl (t.getD k false)):=by
 rw[Q4];refine jc ?_;rw[Zt,Xy h,Xj,Xy h];rfl
theorem qht(nd:ls.Nodup)(ht:t.length=2^ls.length):(qaR ls t (2^ls.length)).Nodup:=by rw[qeX nd ht];exact vv _ nd
theorem jD:FnScope [sA0,sC2,"_law_found",sA8,"_law_odd",sB1,sA3] [sA0,sC2] (qh qbk):=scF
theorem qmb(F:Fun K sC8 sC8 qbk f fd)(T:Txt mg)(K0:Dp P w K mg base 1 aA aF [sA0,sA8] (qga) sC4): FnOk P w K mg base CX0 2 f fd [sA0,sC2] (qgc K):=by
 refine F.okd jD (λ cdv A outer s H vs Q E hr h=>?_);obtain⟨a,t,ls,rfl,hT,ht,hl,l6,q⟩:=h;have K4:=kg hr;refine⟨_,(qd (qv (i:=2) jD.nd rfl (Or.inl rfl) (zK qb))
  (qd (yg Jl rfl (zN (by rfl) T.range (qa (qB qC (by rfl) T.len J7 (qa (pv 1) qb)) qb)) (qp (i:=3) jD.nd rfl (Or.inl rfl))
  (qd (qv (i:=4) jD.nd rfl (Or.inl rfl) qgn)
  (qd (yg Jl rfl (zN (by rfl) T.range (qa (qr zR (pv 3) qg) qb)) (qp (i:=5) jD.nd rfl (Or.inl rfl))
  (qe (zg (PW.pt (qfe (qx zp (qr qod (pv 5) (pv 3)) (pv 5) (qD _))
   (qcO (jp (za zA (pv 1) (pv 5) (λ _ _=>rfl))))))
   (qe (qv (i:=4) jD.nd rfl (Or.inl rfl) (qhz (pv 4)))) qG)))
  (qe (zg (jp (pv 4))
   (qd (qv (i:=6) jD.nd rfl (Or.inr rfl) (zf K0 hr (qa (pv 0) (qa (pv 3) qb))))
  (qe (yn (yo XE X1 X2 zG (pv 2) (qa (yo XO Ye Yf vD qo (qa (zq (csc (NY:=["_law_letter",sA3]) (o:=1) (caps:=[6]) [sA3] rfl
    (by intro x hx;rw[Zl.mp hx];exact .inl rfl) (j2 rfl rfl rfl yw) rfl) rfl
    (vA (pv 0)) (λ C0 s H fp pins=>qp (i:=0) (show(["_law_letter",sA3]:List Str).Nodup by decide +kernel) rfl (Or.inl rfl)) (λ C0 s H fp pins=>(qaw (jp (qbw K4 (pv 1) (pv 0) (λ _ _=>rfl))))) (λ C0 s H fp pins=>(pv 0))) qb)) qb))))) qG)))))
  (qe (qm (zF jP (by rfl) T.tuple qd2 (qa (qB k8 (by rfl) T.sorted j6 (qa (pv 2) qb)) qb)))))),?_⟩
 have nd:=zc Qc hl;have hs:(qj ls).cps.size=ls.length:=qy ls;have hz:("":Str).length=0:=by decide
 have cH:2^ls.length<=64:=Ys (n:=2) (by decide) l6;have c8:(t.map V.bl).length=2^ls.length:=by rw[U5,ht]
 refine⟨Va _,λ fb hfb=>?_⟩;have g0:=qi.up hfb (o:=.lst []);refine⟨_,rfl,a,_,rfl,.inl (g0.seq hT),_,rfl,?_,?_,?_⟩
 ·rw[c8];omega
 ·rw[c8];omega
 refine jl (λ i σ H1=>∃ v3 v4 v5 v6:Option V,σ=[some (vS ls),some (.ref a),some (.ref fb),v3,v4,v5,v6]/\qi H H1/\H1 fb=some (.lst ((qaR ls t i).map vS))) ⟨none,none,none,none,rfl,g0,qc⟩ ?_ ?_
 ·rintro i σ H1 hi ⟨v3,v4,v5,v6,rfl,g1,e1⟩;have uB:i<2^ls.length:=by rw[c8] at hi;omega
  refine⟨_,rfl,_,_,rfl,rfl,_,rfl,?_,?_,?_⟩
  ·show -(2^62)<=(0:Int)+(i:Int)+1;omega
  ·show(0:Int)+(i:Int)+1<2^62;omega
  refine jl (λ k σ H2=>∃ v5:Option V,σ=[some (vS ls),some (.ref a),some (.ref fb),some (.int (0+(i:Int))),some (.bl (kr ((List.range k).map λ M=>prt i M && t.getD M false))),v5,v6]/\H2=H1) ⟨v5,rfl,rfl⟩ ?_ ?_
  ·rintro k σ H2 hk ⟨v5',rfl,rfl⟩;have L7:k<t.length:=by omega
   have ex:kr ((List.range (k+1)).map λ M=>prt i M && t.getD M false)=xor (kr ((List.range k).map λ M=>prt i M && t.getD M false)) (prt i k && t.getD k false):=by
    rw[Jf,Jd,List.map_singleton,qll]
   refine⟨_,rfl,_,rfl,_,_,rfl,rfl,_,rfl,rfl,_,rfl,?_⟩;rw[qnz,ex];cases hp:prt i k with
   |false =>
    refine yh ?_;refine yh ?_;exact⟨_,by rw[Jv,Bool.xor_false];rfl,rfl⟩
   |true =>
    refine kn ?_;refine⟨_,rfl,_,rfl,a,_,_,_,rfl,rfl,g1.seq hT,qqc L7,_,rfl,?_⟩;cases hb:t.getD k false with
    |false =>
     refine yh ?_;exact⟨_,by rw[Jx,Bool.xor_false];rfl,rfl⟩
    |true =>
     refine kn ?_;refine⟨_,rfl,_,rfl,?_⟩;exact⟨_,by rw[Bool.and_true,Bool.xor_true];rfl,rfl⟩
  ·rintro σ H2 ⟨v5',rfl,rfl⟩;have en:((0:Int)+(i:Int)+1).toNat=i+1:=by omega
   rw[en];have es:kr ((List.range (i+1)).map λ M=>prt i M && t.getD M false)=vJ t i:=rfl;rw[es];refine⟨_,rfl,_,rfl,?_⟩;refine kq (λ c=>?_) (λ c=>?_)
   ·refine⟨_,rfl,_,rfl,ls,i,(by show [vS ls,V.int (0+(i:Int))]=[vS ls,V.int (i:Int)];rw[Q4]),nd,l6,λ d H3 g3 e3=>?_⟩;have eF:=g3 _ _ e1;have lr:ls.length=(qI ls.length i).length:=(zP _ _).symm;refine⟨_,rfl,.inl ⟨rfl,_,SqL.of eF⟩,rfl,?_⟩;refine⟨_,rfl,_,rfl,?_⟩;refine qfD (λ j=>((ls.take j).filter (asg ls (qI ls.length i))).map λ c=>vS [c]) rfl (λ j hj=>?_) ?_ ?_
    ·rw[U5];have:=Yd (asg ls (qI ls.length i)) (ls.take j);rw[Ul] at this;exact zd (by omega)
    ·intro j H6 D6 Y Z hj uV S8 V7 hY hZ;rw[hs] at hj;rw[y8 hj];have fs:=qad (f:=asg ls (qI ls.length i)) hj;have gd:=qaK.k (k:=Sum.inr (qj [ls[j]])) (V7 _ _ e3);rw[vd lr,Vz (Us hj)] at gd;refine⟨⟨rfl,rfl⟩,?_⟩;refine⟨_,rfl,_,rfl,d,_,rfl,gd,_,rfl,?_⟩;refine kq (λ c=>?_) (λ c=>?_)
     ·refine⟨_,rfl,hY _ _ S8 V7 ?_⟩;show List.map _ ((ls.take (j+1)).filter _)=_
      rw[fs,Vz c,Jd];rfl
     ·refine hZ _ S8 V7 ?_;show List.map _ ((ls.take (j+1)).filter _)=_
      rw[fs,V0 c,U6]
    ·intro D6 H6 uV V7 S8;rw[hs,Ut] at S8;have eS:ls.filter (asg ls (qI ls.length i))=sel ls i:=rfl;rw[eS] at S8;have lS:(sel ls i).length<=ls.length:=Yd _ _;refine⟨_,D6,((sel ls i).map λ c=>[c]).map qj,rfl,rfl,.inl (SqL.of (by rw[S8,qba,zD])),?_,?_⟩
     ·rw[jv,hz,zQ];show _+_*0<=_;omega
     rw[ju,zQ];have eF6:=V7 _ _ eF;have pl:=qeW ls t i;refine⟨fb,_,_,rfl,rfl,eF6,by rw[U5];exact zd (by omega),?_⟩;refine⟨_,_,_,_,rfl,((g1.trans g3).trans V7).at hfb,?_⟩;rw[qc,qdW,Vz c,Jd];rfl
   ·refine⟨_,_,_,_,rfl,g1,?_⟩;rw[e1,qdW,V0 c,U6]
 ·rintro σ H1 ⟨v3,v4,v5,v6,rfl,g1,e1⟩;have en:(((t.map V.bl).length:Nat):Int).toNat=2^ls.length:=by rw[c8];omega
  rw[en] at e1;have pl:=qeW ls t (2^ls.length);have hnd:((qaR ls t (2^ls.length)).map qj).Nodup:=Zz.mpr ((qht nd ht).imp λ{a b} E2 e=>E2 (j3 e));refine⟨_,rfl,fb,(qaR ls t (2^ls.length)).map qj,rfl,SqL.of (by rw[<- zD];exact e1),by rw[U5];show _<4096;omega,hnd,λ l bH=>?_⟩;rw[qcE (zD _).symm,qeX nd ht];refine⟨l,_,rfl,.inl ⟨SqL.of qc,λ r N2=>?_⟩⟩;exact q r _ ((g1.to bH).to N2) qc
noncomputable def asW(x:Tr×Tr):Wsh:=⟨0,1,1,0,x.1,x.2⟩
theorem qmc(x:Tr×Tr):(asW x).text=qea x:=by
 unfold asW qea Wsh.text;simp
theorem qiz(xs:List (Tr×Tr)):((xs.map asW).map λ y=>vS y.text)=xs.map λ x=>vS (qea x):=by
 rw[Q1];exact Y6 λ x _=>by show vS (asW x).text=_;rw[qmc]
theorem qar:∀ t:Tr,t.nodes<=2*(t.wt:Int)-1
 |.letter _=>by show(1:Int)<=2*((1:Nat):Int)-1;decide
 |.one=>by show(1:Int)<=2*((1:Nat):Int)-1;decide
 |.zero=>by show(1:Int)<=2*((1:Nat):Int)-1;decide
 |.neg t=>by have:=qar t;show 1+t.nodes<=2*((t.wt+1:Nat):Int)-1;omega
 |.bin _ t u=>by have:=qar t;have:=qar u;show 1+t.nodes+u.nodes<=2*((t.wt+u.wt:Nat):Int)-1;omega
theorem qo0(h1:x.1.Of ls)(h2:x.2.Of ls)(w1:x.1.wt<=10)(w2:x.2.wt<=10):(asW x).Ok ls:=by
 have a:=qar x.1;have b:=qar x.2;exact⟨⟨Va _,by show 1<=100;decide,by show 1<=100;decide,Va _⟩,h1,h2,by show x.1.nodes<=20;omega,by show x.2.nodes<=20;omega⟩
theorem qhu(ρ:Nat->Bool)(xs:List (Tr×Tr))(h:∀ x∈xs,x.1.Of ls/\x.2.Of ls):qt ρ (q8 ((xs.map asW).map Wsh.side))=xs.any λ x=>x.1.val ρ != x.2.val ρ:=by
 have key:∀(l:List (Tr×Tr)),(∀ x∈l,x.1.Of ls/\x.2.Of ls)->On ls (q8 ((l.map asW).map Wsh.side)):=λ l hl=>qcn _ λ z hz=>by
  obtain⟨y,hy,rfl⟩:=Qz.mp hz;obtain⟨x,hx,rfl⟩:=Qz.mp hy;exact⟨Tr.on (hl x hx).1,Tr.on (hl x hx).2⟩
 have ind:∀ n,n<=xs.length->qt ρ (q8 (((xs.take n).map asW).map Wsh.side))=(xs.take n).any λ x=>x.1.val ρ != x.2.val ρ:=by
  intro n;induction n with
  |zero=>intro _;rfl
  |succ n ih =>
   intro hn;have hx:xs[n]?=some xs[n]:=Xy (by omega);have hm:=Us (l:=xs) (n:=n) (by omega);have o1:=Tr.on (h _ hm).1;have o2:=Tr.on (h _ hm).2;rw[qU hx,Jd,Jd,List.any_append];show qt ρ (q8 (_++[(xs[n].1.form,xs[n].2.form)]))=_
   rw[qcF,qaY ρ (key _ λ x hx=>h x (Yq hx)).vf (o1.added o2).vf,ih (by omega),yT ρ o1.vf o2.vf,Tr.form_worth ρ (h _ hm).1,Tr.form_worth ρ (h _ hm).2];simp
 have:=ind xs.length (Q9 _)
 rw[Ut] at this;exact this
theorem qmd{xs:List (Tr×Tr)}(h:∀ x∈xs,x.1.Of ls/\x.2.Of ls):On ls (q8 ((xs.map asW).map Wsh.side)):=qcn _ λ z hz=>by
 obtain⟨y,hy,rfl⟩:=Qz.mp hz;obtain⟨x,hx,rfl⟩:=Qz.mp hy;exact⟨Tr.on (h x hx).1,Tr.on (h x hx).2⟩
theorem qkg(hx:H1 x=none)(hd:H1 dx=none)(b:But x (upd (upd H1 dx o1) x o2) H2):qi H1 H2:=λ a o e=>by
 have n1:a≠x:=λ q=>by rw[q,hx] at e;cases e
 have n2:a≠dx:=λ q=>by rw[q,hd] at e;cases e
 exact b a o n1 (by rw[qu n1,qu n2];exact e)
def qaH:Sp:=λ vs H Q _=>∃(ls:List Nat),vs=[vS ls]/\ls.length<=9/\Q (.int ((2^ls.length:Nat):Int)) H
theorem qb0:FnScope ["letters","count","place"] ["letters"] (qh qag):=scF
theorem qme(F:Fun K "row_count" "row_count" qag f fd)(T:Txt mg):FnOk P w K mg base CX0 (k+1) f fd ["letters"] qaH:=by
 refine F.okd qb0 (λ cdv A outer s H vs Q E hr h=>?_);obtain⟨ls,rfl,h9,q⟩:=h;refine⟨_,qd (qv (i:=1) qb0.nd rfl (Or.inl rfl) qg)
  (qd (yg Jl rfl (zN rfl T.range (qa (qB yb rfl T.len J7 (qa (pv 0) qb)) qb)) (qp (i:=2) qb0.nd rfl (Or.inl rfl))
   (qe (qv (i:=1) qb0.nd rfl (Or.inl rfl) (qr qaU qg (pv 1)))))
  (qe (qm (pv 1)))),?_⟩
 have hz:(qj ls).length=ls.length:=qy ls;refine⟨_,rfl,_,rfl,by rw[hz];exact qz (by omega),_,rfl,by rw[hz];omega,by rw[hz];omega,?_⟩;rw[hz];refine jl (λ i σ H1=>∃(v:Option V),σ=[some (vS ls),some (.int ((2^i:Nat):Int)),v]/\H1=H) ⟨none,rfl,rfl⟩ ?_ ?_
 ·rintro i σ H1 hi ⟨v,rfl,rfl⟩;refine⟨_,rfl,_,_,rfl,rfl,.inl ⟨by decide,by decide⟩,?_⟩;refine⟨some (.int (0+(i:Int))),?_,rfl⟩;show [some (vS ls),some (V.int (2*((2^i:Nat):Int))),_]=_
  rw[show(2:Int)*((2^i:Nat):Int)=((2^(i+1):Nat):Int) by rw[Qy];omega]
 ·rintro σ H1 ⟨v,rfl,rfl⟩;have e:((ls.length:Int)).toNat=ls.length:=Zv _;rw[e];exact⟨_,rfl,q⟩
theorem qe5:∀(l c7:List (Key×V)),((c7++l).map (·.1)).Nodup->qN c7 l=c7++l
 | [],c7,_=>by rw[U6];rfl
 |x::l,c7,h=>by
  have e:c7++x::l=(c7++[x])++l:=by simp
  have hx:x.1∉c7.map (·.1):=λ hm=>by
   rw[Jd,Qe,Zy] at h;exact h.2.2 _ hm _ (Zb ..) rfl
  have hv:zS c7 x.1=none:=by
   unfold zS;rw[List.find?_eq_none.mpr λ p hp=>by
    intro e;exact hx (Qz.mpr ⟨p,hp,Ui e⟩)]
   rfl
  show qN (yB c7 x.1 x.2) l=_
  rw[qdg _ hv,e];exact qe5 l (c7++[x]) (by rw[<- e];exact h)
theorem qcH(h:a.length=r.length):zU (a++b) (r++q)=zU a r++zU b q:=by
 unfold zU;rw[Jc h,Jd]
theorem qkh(h:ls.length=r.length):(zU ls r).map (·.1)=ls.map λ c=>(Sum.inr (qj [c]):Key):=by
 unfold zU;rw[Q1]
 have:∀(ls:List Nat)(r:List Bool),ls.length=r.length->(ls.zip r).map ((λ x:Key×V=>x.1) ∘ λ x:Nat×Bool=>((Sum.inr (qj [x.1]):Key),V.bl x.2))=ls.map λ c=>(Sum.inr (qj [c]):Key):=by
  intro ls;induction ls with
  |nil=>intro r _;rfl
  |cons a l ih=>intro r h;cases r with
   |nil=>cases h
   |cons b r=>rw[Zi,Qe,Qe,ih r (by simpa using h)];rfl
 exact this ls r h
theorem qiA(nd:ls.Nodup)(h:ls.length=r.length):((zU ls r).map (·.1)).Nodup:=by
 rw[qkh h];exact Zz.mpr (nd.imp λ{a b} E2 e=>by
  have:=j3 (Sum.inr.inj e)
  simp at this;exact E2 this)
theorem qeb(nd:(a++b).Nodup)(h:a.length=r.length)(h':b.length=q.length):qN (zU a r) (zU b q)=zU (a++b) (r++q):=by
 rw[qcH h];refine qe5 _ _ ?_;rw[<- qcH h];exact qiA nd (by rw[Ze,Ze,h,h'])
theorem qb1(h:ls.length=r.length):(zU ls r).length=ls.length:=by rw[zU,U5,Jk];omega
def qgd:Sp:=λ vs H Q _=>∃(ls:List Nat)(N:Nat),vs=[vS ls,.int (N:Int)]/\ls.Nodup/\ls.length<=9/\∀ d H',qi H H'->H d=none->H' d=some (.dK (zU ls (qI ls.length N)))->Q (.ref d) H'
theorem qb2:FnScope ["letters","number","row","place","letter","behind"] ["letters","number"] (qh qdZ):=scF
theorem qnA(F:Fun K "row_of" "row_of" qdZ f fd)(T:Txt mg): FnOk P w K mg base CX0 1 f fd ["letters","number"] (qgd):=by
 refine F.okd qb2 (λ cdv A outer s H vs Q E hr h=>?_);obtain⟨ls,N,rfl,nd,l9,q⟩:=h;have K4:=kg hr;refine⟨_,(qd (qv (i:=2) qb2.nd rfl (Or.inl rfl) qgt)
  (qd (qcV (n:=2) Jl rfl (qdR (by rfl) T.enumerate (qa (pv 0) qb)) (qJ (qp (i:=3) qb2.nd rfl (Or.inl rfl)) (qJ (qp (i:=4) qb2.nd rfl (Or.inl rfl)) zT))
  (qd (qv (i:=5) qb2.nd rfl (Or.inl rfl) (qr qfg (qr qfg (qB yb (by rfl) T.len J7 (qa (pv 0) qb)) qg) (pv 3)))
  (qe (qfi K4 (pv 2) (pv 4) (ya zp (qr zr (qr qoc (pv 1) (pv 5)) qg) qg (qD _)) rfl))))
  (qe (qm (pv 2))))),?_⟩
 have hs:(qj ls).cps.size=ls.length:=qy ls;have rJ:(qj ls).length=ls.length:=qy ls;have lR:=zP ls.length N;refine λ p hp=>?_
 refine⟨_,rfl,_,rfl,?_⟩;refine qce (λ i σ H1=>∃ v3 v4 v5:Option V,σ=[some (vS ls),some (.int (N:Int)),some (.ref p),v3,v4,v5]/\qi H H1/\H1 p=some (.dK (zU (ls.take i) ((qI ls.length N).take i)))) ⟨none,none,none,rfl,qi.up hp,qc⟩ ?_ ?_
 ·rintro i σ H1 hi ⟨v3,v4,v5,rfl,g1,e1⟩;rw[hs] at hi;rw[y8 hi];refine⟨_,_,rfl,_,_,rfl,rfl,?_⟩;refine⟨_,rfl,_,rfl,by rw[rJ];exact qz (by omega),_,_,rfl,rfl,_,rfl,_,_,rfl,rfl,?_⟩;rw[rJ];refine⟨_,rfl,_,rfl,_,_,rfl,rfl,(show(0:Int)<=(ls.length:Int)-1-(i:Int) by omega),_,_,rfl,rfl,(show(0:Int)<2 by decide),rfl,_,rfl,_,rfl,p,_,rfl,.inl ⟨_,.inr (qj [ls[i]]),e1,rfl,?_,rfl⟩,?_⟩
  ·rw[zU,U5,Jk,Ul];exact zd (by omega)
  have lr:(ls.take i).length=((qI ls.length N).take i).length:=by rw[Ul,Ul,lR]
  have nn:zS (zU (ls.take i) ((qI ls.length N).take i)) (.inr (qj [ls[i]]))=none:=by rw[vd lr,V0 (qcG nd hi)]
  have ev:(qI ls.length N)[i]?=some (decide (V.int ((N:Int) / 2^((ls.length:Int)-1-(i:Int)).toNat % 2)=V.int 1)):=by
   rw[qg6 hi,show((ls.length:Int)-1-(i:Int)).toNat=ls.length-1-i by omega];congr 1
   refine U1.mpr ?_;rw[V.int.injEq];constructor
   ·intro h;exact_mod_cast h
   ·intro h;exact_mod_cast h
  refine⟨_,_,_,rfl,g1.at hp,?_⟩;rw[qc,qU ev,Xa hi,qke lr];exact congrArg (λ z=>some (HO.dK z)) (qdg _ nn)
 ·rintro σ H1 ⟨v3,v4,v5,rfl,g1,e1⟩;rw[hs,Ut,XL (by rw[lR];exact Q9 _)] at e1;exact⟨_,rfl,q p H1 g1 hp e1⟩
theorem qe6(ρ:Nat->Bool):∀ F:List Pr,qt ρ F=decide ((F.filter λ p=>p.all ρ).length % 2=1)
 | []=>rfl
 |p::F=>by
  show xor (p.all ρ) (qt ρ F)=_
  rw[qe6 ρ F,Uw];cases p.all ρ with
  |false=>rw[V0 (by decide),Bool.false_xor]
  |true =>
   rw[Vz rfl,Uj];generalize (F.filter λ p=>p.all ρ).length=n;by_cases h:n % 2=1
   ·rw[J8 h,Jm (by omega)];rfl
   ·rw[Jm h,J8 (by omega)];rfl
theorem qo1(l:List Nat)(ρ:Nat->Bool):(l.map ρ).all id=l.all ρ:=by rw[List.all_map];rfl
def qec(K:W.Frag):Sp:=λ vs H Q _=>∃(a d:Addr)(F:List Pr)(kvs:List (Key×V))(ρ:Nat->Bool),vs=[.ref a,.ref d]/\SqT K H a (F.map vS)/\H d=some (.dK kvs)/\(∀ p∈F,∀ c∈p,zS kvs (.inr (qj [c]))=some (.bl (ρ c)))/\(∀ p∈F,p.length<=1000)/\F.length<=1000/\∀ H',qi H H'->Q (.bl (qt ρ F)) H'
theorem qe7:FnScope ["form","row","true_ones"] ["form","row"] (qh qfV):=scF
theorem qki(F:Fun K "worth" "worth" qfV f fd)(T:Txt mg): FnOk P w K mg base CX0 1 f fd ["form","row"] (qec K):=by
 refine F.okd qe7 (λ cdv A outer s H vs Q E hr h=>?_);obtain⟨a,d,F,kvs,ρ,rfl,hF,hd,hv,hp,hl,q⟩:=h;have K4:=kg hr;refine⟨_,(qd (qfC (i:=2) qe7.nd rfl rfl (csc (NY:=["product","row"]) (o:=1) (caps:=[1]) ["row"] rfl
    (by intro x hx;rw[Zl.mp hx];exact .inl rfl) (j2 rfl rfl rfl yw) rfl) rfl
    (qkw (pv 0)) (λ C0 s H fp pins=>qp (i:=0) (show(["product","row"]:List Str).Nodup by decide +kernel) rfl (Or.inl rfl)) (λ C0 s H fp pins=>(qaw (jp (qB (r:=qpH K) (qcx rfl) (by rfl) T.all qlp (qa (zq (csc (NY:=["letter","row"]) (o:=1) (caps:=[1]) ["row"] rfl
    (by intro x hx;rw[Zl.mp hx];exact .inl rfl) (j2 rfl rfl rfl yw) rfl) rfl
    (vA (pv 0)) (λ C0 s H fp pins=>qp (i:=0) (show(["letter","row"]:List Str).Nodup by decide +kernel) rfl (Or.inl rfl)) (λ C0 s H fp pins=>zh) (λ C0 s H fp pins=>(qbw K4 (pv 1) (pv 0) (λ _ _=>rfl)))) qb))))) (λ C0 s H fp pins=>(pv 0)))
  (qe (qm (ya zp (qr zr (qB qC (by rfl) T.len J7 (qa (pv 2) qb)) qg) qg (qD _))))),?_⟩
 refine⟨_,rfl,a,rfl,⟨_,hF⟩,?_⟩;refine qow hF (λ j=>((F.take j).filter λ p=>p.all ρ).map vS) rfl (λ j hj=>?_) ?_ ?_
 ·rw[U5];have:=Yd (λ p:Pr=>p.all ρ) (F.take j);rw[Ul] at this;exact zd (by omega)
 ·intro j x H2 D Y Z hx hD p4 sm hY hZ;obtain⟨p,gT,rfl⟩:=ql hx;have hpm:=Yl gT;have hs:(qj p).cps.size=p.length:=qy p;have hj:j<F.length:=jt gT;have ej:F[j]=p:=by rw[Xy hj] at gT;exact Option.some.inj gT
  have fs:=qad (f:=λ p:Pr=>p.all ρ) hj;rw[ej] at fs;refine⟨⟨rfl,rfl⟩,?_⟩;refine⟨_,rfl,_,rfl,?_⟩;refine qfD (λ m=>((p.map ρ).take m).map V.bl) rfl (λ m hm=>?_) ?_ ?_
  ·rw[U5,Ul,U5];have:=hp p hpm;exact zd (by omega)
  ·intro m H3 D3 Y3 Z3 hm lK M9 aU hY3 hZ3;rw[hs] at hm;rw[y8 hm];refine⟨⟨rfl,rfl⟩,?_⟩;have gd:=qaK.k (k:=Sum.inr (qj [p[m]])) (aU _ _ (sm _ _ hd));rw[hv p hpm _ (Us hm)] at gd;refine⟨_,rfl,_,rfl,d,_,rfl,gd,?_⟩;exact hY3 _ _ M9 aU (zL (f:=V.bl) (by rw[Zt,Xy hm];rfl))
  ·intro D3 H3 lK aU M9;rw[hs,XL (by rw[U5];exact Q9 _)] at M9;refine⟨D3,p.map ρ,rfl,SqL.of M9,_,rfl,?_⟩;rw[qo1];refine kq (λ c=>?_) (λ c=>?_)
   ·refine⟨_,rfl,hY _ _ (aU _ _ p4) (sm.trans aU) ?_⟩;show List.map _ ((F.take (j+1)).filter _)=_
    rw[fs,Vz c,Jd];rfl
   ·refine hZ _ (aU _ _ p4) (sm.trans aU) ?_;show List.map _ ((F.take (j+1)).filter _)=_
    rw[fs,V0 c,U6]
 ·intro D H2 hD sm p4;rw[U5,Ut] at p4;refine⟨_,rfl,D,_,rfl,.inl (SqL.of p4),_,_,rfl,rfl,(show(0:Int)<2 by decide),rfl,?_⟩;have e:decide (V.int ((((F.filter λ p=>p.all ρ).map vS).length:Int) % 2)=V.int 1)=qt ρ F:=by
   rw[qe6,U5];refine U1.mpr ?_;rw[V.int.injEq];constructor
   ·intro h;exact_mod_cast h
   ·intro h;exact_mod_cast h
  exact vk (congrArg V.bl e) (q _ sm)
theorem TaskAt.mono(t:TaskAt CT H o gv gp ws dx a1 a2 a3 ps)(g:qi H H'):TaskAt CT H' o gv gp ws dx a1 a2 a3 ps:=
 ⟨g _ _ t.ins,g _ _ t.said,g _ _ t.sides,qQ (λ p y h=>yA.mono h g) t.side,g _ _ t.fault⟩
structure TkOk(gv gp:List Nat)(ws:List Wsh):Prop where
 sv:gv.Sublist abc
 sp:gp.Sublist xyz
 on:On (gv++gp) (q8 (ws.map Wsh.side))
noncomputable def qcI(gv gp:List Nat)(N M:Nat):Nat->Bool:=asg (gv++gp) (qI gv.length N++qI gp.length M)
noncomputable def ja(gv gp:List Nat)(F:List Pr)(N M:Nat):Bool:=!qt (qcI gv gp N M) F
noncomputable def zw(gv gp:List Nat)(F:List Pr)(N:Nat):List Nat:=(List.range (2^gp.length)).filter (ja gv gp F N)
noncomputable def vN(M:Nat):V:=.int (M:Int)
def qmf(CT:Addr):Sp:=λ vs H Q _=>∃(o:Addr)(gv gp:List Nat)(ws:List Wsh)(dx a1 a2 a3:Addr)(ps:List Addr)(N M:Nat),vs=[.ref o,.int (N:Int),.int (M:Int)]/\TaskAt CT H o gv gp ws dx a1 a2 a3 ps/\TkOk gv gp ws/\∀ H',qi H H'->Q (.bl (ja gv gp (q8 (ws.map Wsh.side)) N M)) H'
theorem qjh:FnScope ["self","given_row","gap_row","row"] ["self","given_row","gap_row"] (qh qam):=scF
theorem qnB(F:Fun K "does" "Task.does" qam f fd)(T:Txt mg)(B0:Dp P w K mg base 1 P6 P8 ["letters","number"] (qgd) "row_of")(aO:Dp P w K mg base 1 pB pJ ["form","row"] (qec K) "worth")(c6:TaskC K b0): FnOk P w K mg base CX0 2 f fd ["self","given_row","gap_row"] (qmf b0):=by
 refine F.okd qjh (λ cdv A outer s H vs Q E hr h=>?_);obtain⟨o,gv,gp,ws,dx,a1,a2,a3,ps,N,M,rfl,t,ok,q⟩:=h;refine⟨_,(qd (qv (i:=3) qjh.nd rfl (Or.inl rfl) (zf B0 hr (qa (zi (pv 0) (by rfl)) (qa (pv 1) qb))))
  (qd (yn (yo X6 PySem.F.slot_dict_update PySem.F.type_dict_update qj1 (pv 3) (qa (zf B0 hr (qa (zi (pv 0) (by rfl)) (qa (pv 2) qb))) qb)))
  (qe (qm (qhz (zf aO hr (qa (zi (pv 0) (by rfl)) (qa (pv 3) qb)))))))),?_⟩
 have dX:gv.length<=3:=ok.sv.length_le;have W0:gp.length<=3:=ok.sp.length_le;obtain⟨rl,nA,l9⟩:=jo ok.sv ok.sp;have nd:=zc Qc rl;have sH:gv.Nodup:=(Zy.mp nd).1;have iJ:gp.Nodup:=(Zy.mp nd).2.1;have lv:gv.length=(qI gv.length N).length:=(zP _ _).symm;have lp:gp.length=(qI gp.length M).length:=(zP _ _).symm;refine⟨_,rfl,o,b0,dx,_,_,rfl,t.ins,c6.cls,c6.n1,rfl,_,rfl,gv,N,rfl,sH,by omega,λ d1 H1 g1 f1 e1=>?_⟩;refine⟨_,rfl,.inr (.inr (.inl ⟨rfl,.inl ⟨_,e1⟩⟩)),_,rfl,o,b0,dx,_,_,rfl,g1 _ _ t.ins,c6.cls,c6.n2,rfl,_,rfl,gp,M,rfl,iJ,by omega,λ d2 H2 g2 f2 e2=>?_⟩;refine⟨d1,d2,_,_,rfl,rfl,g2 _ _ e1,e2,(λ h=>by rw[<- h,e1] at f2;cases f2),by rw[qb1 lv,qb1 lp];exact qz (by omega),?_⟩;rw[qeb nd lv lp];have g3:qi H (upd H2 d1 (.dK (zU (gv++gp) (qI gv.length N++qI gp.length M)))):=(g1.trans g2).at f1;have lb:(gv++gp).length=(qI gv.length N++qI gp.length M).length:=by rw[Ze,Ze,<- lv,<- lp]
 have lF:=ok.on.len rl;have cH:2^(gv++gp).length<=64:=Ys (n:=2) (by decide) nA;refine⟨_,rfl,o,b0,dx,_,_,rfl,g3 _ _ t.ins,c6.cls,c6.n5,rfl,_,rfl,a3,d1,_,_,qcI gv gp N M,rfl,SqT.of (g3 _ _ t.fault),qc,λ p hp c hc=>?_,λ p hp=>?_,by omega,λ H4 g4=>⟨_,rfl,q H4 (g3.trans g4)⟩⟩
 ·rw[vd lb,Vz (ok.on.mem p hp c hc)];rfl
 ·have:=(ok.on.sub rl p hp).length_le;omega
def qe8(CT:Addr):Sp:=λ vs H Q _=>∃(o:Addr)(gv gp:List Nat)(ws:List Wsh)(dx a1 a2 a3:Addr)(ps:List Addr)(N:Nat),vs=[.ref o,.int (N:Int)]/\TaskAt CT H o gv gp ws dx a1 a2 a3 ps/\TkOk gv gp ws /\
 ∀ r H',qi H H'->H r=none->H' r=some (.lst ((zw gv gp (q8 (ws.map Wsh.side)) N).map vN))->Q (.ref r) H'
theorem qiB:FnScope ["self","given_row"] ["self","given_row"] (qh y7):=scF
theorem qiC(F:Fun K "doing_at" "Task.doing_at" y7 f fd)(T:Txt mg)(i7:Dp P w K mg base 1 t6 u0 ["letters"] (qaH) "row_count")(c6:TaskC K b0)(E6:Meth K b0 "does" t8)(F0:FnOk P w K mg base CX0 2 t8 A7 ["self","given_row","gap_row"] (qmf b0))(E5:qk K A7 ["self","given_row","gap_row"] []): FnOk P w K mg base CX0 3 f fd ["self","given_row"] (qe8 b0):=by
 refine F.okd qiB (λ cdv A outer s H vs Q E hr h=>?_);obtain⟨o,gv,gp,ws,dx,a1,a2,a3,ps,N,rfl,t,ok,q⟩:=h;have hr_2:Room 2 _:=hr.mono (by decide);refine⟨_,(qe (qm (zq (csc (NY:=["gap_row","self","given_row"]) (o:=1) (caps:=[0,1]) ["self","given_row"] rfl
    (by intro x hx;rcases Qd.mp hx with e | hx;· rw[e];exact .inl rfl
        rw[Zl.mp hx];exact .inl rfl) (j2 rfl rfl rfl (j2 rfl rfl rfl yw)) rfl) rfl
    (zN (by rfl) T.range (qa (zf i7 hr (qa (zi (pv 0) (by rfl)) qb)) qb)) (λ C0 s H fp pins=>qp (i:=0) (show(["gap_row","self","given_row"]:List Str).Nodup by decide +kernel) rfl (Or.inl rfl)) (λ C0 s H fp pins=>(qaw (jp (qiP (pv 1) c6.cls E6 F0 hr_2 E5 .nil qA (qa (pv 2) (qa (pv 0) qb)))))) (λ C0 s H fp pins=>(pv 0))))),?_⟩
 have W0:gp.length<=3:=ok.sp.length_le;have h8:2^gp.length<=8:=Ys (n:=2) (by decide) W0;refine⟨_,rfl,o,b0,dx,_,_,rfl,t.ins,c6.cls,c6.n2,rfl,gp,rfl,by omega,_,rfl,?_,?_,?_⟩
 ·generalize 2^gp.length=P2 at h8;omega
 ·generalize 2^gp.length=P2 at h8;omega
 have en:(((2^gp.length:Nat):Int)).toNat=2^gp.length:=Zv _;refine qk4 (λ i=>((List.range i).filter (ja gv gp (q8 (ws.map Wsh.side)) N)).map vN) rfl (λ i hi=>?_) ?_ ?_
 ·rw[U5];have:=Yd (ja gv gp (q8 (ws.map Wsh.side)) N) (List.range i);rw[Z4] at this;exact zd (by omega)
 ·intro i H2 D Y Z hi hD p4 sm hY hZ;refine⟨⟨rfl,rfl⟩,?_⟩;refine⟨_,rfl,o,dx,_,rfl,sm _ _ t.ins,rfl,_,rfl,_,rfl,o,gv,gp,ws,dx,a1,a2,a3,ps,N,i,(by show [V.ref o,V.int (N:Int),V.int (0+(i:Int))]=[V.ref o,V.int (N:Int),V.int (i:Int)];rw[Q4]),t.mono sm,ok,λ H3 g3=>⟨_,rfl,?_⟩⟩;have fs:(List.range (i+1)).filter (ja gv gp (q8 (ws.map Wsh.side)) N)=(List.range i).filter (ja gv gp (q8 (ws.map Wsh.side)) N)++(if ja gv gp (q8 (ws.map Wsh.side)) N i=true then [i] else []):=by
   rw[Jf,List.filter_append];congr 1
   rw[Uw];rfl
  refine kq (λ c=>?_) (λ c=>?_)
  ·refine⟨_,rfl,hY _ _ (g3 _ _ p4) (sm.trans g3) ?_⟩;show List.map _ ((List.range (i+1)).filter _)=_
   rw[fs,Vz c,Jd];show _++[V.int (i:Int)]=_++[V.int (0+(i:Int))]
   rw[Q4]
  ·refine hZ _ (g3 _ _ p4) (sm.trans g3) ?_;show List.map _ ((List.range (i+1)).filter _)=_
   rw[fs,V0 c,U6]
 ·intro D H2 hD sm p4;rw[en] at p4;exact q D H2 sm hD p4
theorem qiD{l:List Nat}(h:as.map V.ref=l.map vN):as=[]:=by
 cases as with
 |nil=>rfl
 |cons a as=>cases l with
  |nil=>cases h
  |cons x l=>have:=(List.cons.inj h).1;cases this
def qqd(gv gp:List Nat)(F:List Pr)(H:Hp)(c:Addr)(N:Nat):Prop:=H c=some (.lst ((zw gv gp F N).map vN))
def qji(CT:Addr):Sp:=λ vs H Q _=>∃(o:Addr)(gv gp:List Nat)(ws:List Wsh)(dx a1 a2 a3:Addr)(ps:List Addr),vs=[.ref o]/\TaskAt CT H o gv gp ws dx a1 a2 a3 ps/\TkOk gv gp ws /\
 ∀ r as H',qi H H'->H r=none->(∀ c∈as,H c=none)->H' r=some (.lst (as.map V.ref))->Paired (qqd gv gp (q8 (ws.map Wsh.side)) H') as (List.range (2^gv.length))->Q (.ref r) H'
theorem qkj(g:qi H H')(h:H' c=none):H c=none:=by
 cases e:H c with
 |none=>rfl
 |some u=>rw[g _ _ e] at h;cases h
theorem qmg:FnScope ["self"] ["self"] (qh vW):=scF
theorem qmh(F:Fun K "doing" "Task.doing" vW f fd)(T:Txt mg)(i7:Dp P w K mg base 1 t6 u0 ["letters"] (qaH) "row_count")(c6:TaskC K b0)(u6:Meth K b0 "doing_at" l7)(u8:FnOk P w K mg base CX0 3 l7 o4 ["self","given_row"] (qe8 b0))(u4:qk K o4 ["self","given_row"] []): FnOk P w K mg base CX0 4 f fd ["self"] (qji b0):=by
 refine F.okd qmg (λ cdv A outer s H vs Q E hr h=>?_);obtain⟨o,gv,gp,ws,dx,a1,a2,a3,ps,rfl,t,ok,q⟩:=h;have hr_3:Room 3 _:=hr.mono (by decide);refine⟨_,(qe (qm (zq (csc (NY:=["given_row","self"]) (o:=1) (caps:=[0]) ["self"] rfl
    (by intro x hx;rw[Zl.mp hx];exact .inl rfl) (j2 rfl rfl rfl yw) rfl) rfl
    (zN (by rfl) T.range (qa (zf i7 hr (qa (zi (pv 0) (by rfl)) qb)) qb)) (λ C0 s H fp pins=>qp (i:=0) (show(["given_row","self"]:List Str).Nodup by decide +kernel) rfl (Or.inl rfl)) (λ C0 s H fp pins=>zh) (λ C0 s H fp pins=>(qiP (pv 1) c6.cls u6 u8 hr_3 u4 .nil qA (qa (pv 0) qb)))))),?_⟩
 have dX:gv.length<=3:=ok.sv.length_le;have h8:2^gv.length<=8:=Ys (n:=2) (by decide) dX;refine⟨_,rfl,o,b0,dx,_,_,rfl,t.ins,c6.cls,c6.n1,rfl,gv,rfl,by omega,_,rfl,?_,?_,?_⟩
 ·generalize 2^gv.length=P2 at h8;omega
 ·generalize 2^gv.length=P2 at h8;omega
 have en:(((2^gv.length:Nat):Int)).toNat=2^gv.length:=Zv _;refine ym (((2^gv.length:Nat):Int)).toNat (λ i ys H2=>∃ as:List Addr,ys=as.map V.ref/\(∀ c∈as,H c=none)/\Paired (qqd gv gp (q8 (ws.map Wsh.side)) H2) as (List.range i)) (λ D hD=>⟨[],rfl,by simp,.nil⟩) ?_ ?_ (λ H2 sm=>Q9 _) ?_
 ·rintro i ys H2 hi ⟨as,rfl,hn,hp⟩
  have:=hp.length
  rw[Z4] at this;rw[U5];exact zd (by omega)
 ·rintro i ys H2 D Y Z hi hD p4 sm ⟨as,rfl,hn,eM⟩ hY hZ;refine⟨hi,?_⟩;rintro x H' ⟨rfl,rfl⟩;refine⟨⟨rfl,rfl⟩,?_⟩;refine⟨_,rfl,o,dx,_,rfl,sm _ _ t.ins,rfl,_,rfl,o,gv,gp,ws,dx,a1,a2,a3,ps,i,(by show [V.ref o,V.int (0+(i:Int))]=[V.ref o,V.int (i:Int)];rw[Q4]),t.mono sm,ok,λ c H3 g3 f3 e3=>?_⟩;have eD:=g3 _ _ p4;refine hY _ _ eD (sm.trans g3) ⟨as++[c],by rw[Jd];rfl,λ c' N3=>?_,?_⟩
  ·rcases U3.mp N3 with h | h
   ·exact hn c' h
   ·rw[Zl.mp h];exact qkj sm f3
  rw[Jf];have nD:c≠D:=λ h=>by rw[h,p4] at f3;cases f3
  refine qH ?_ (.cons (by show upd H3 D _ c=_;rw[qu nD];exact e3) .nil);by_cases has:as=[]
  ·subst has;generalize List.range i=L at eM ⊢;cases eM
   exact .nil
  ·refine L2.Paired.mapP eM λ z N h=>?_
   have hz:H' z=some (.lst ((zw gv gp (q8 (ws.map Wsh.side)) N).map vN)):=h;show upd H3 D _ z=_
   rw[qu (λ q=>by rw[q,p4] at hz;exact has (qiD (HO.lst.inj (Option.some.inj hz))))];exact g3 _ _ hz
 ·rintro D H2 ys hD sm p4 ⟨as,rfl,hn,eM⟩;rw[en] at eM;exact q D as H2 sm hD hn p4 eM
def qiE:Sp:=λ vs H Q _=>∃(d1 d2:Addr)(kvs more:List (Key×V)),vs=[.ref d1,.ref d2]/\H d1=some (.dK kvs)/\H d2=some (.dK more)/\kvs.length+more.length<=1000/\∀ d H',qi H H'->H d=none->H' d=some (.dK (qN kvs more))->Q (.ref d) H'
theorem qiF(kvs l:List (Key×V))(x:Key×V):qN kvs (l++[x])=yB (qN kvs l) x.1 x.2:=by unfold qN;rw[Z5];rfl
theorem qc5:FnScope [sC3,sB1,sA3,"_law_letter","_law_truth_here"] [sC3,sB1] (qh qbl):=scF
theorem qnC(F:Fun K sC9 sC9 qbl f fd)(T:Txt mg): FnOk P w K mg base CX0 1 f fd [sC3,sB1] (qiE):=by
 refine F.okd qc5 (λ cdv A outer s H vs Q E hr h=>?_);obtain⟨d1,d2,kvs,more,rfl,h1,h2,hz,q⟩:=h;have K4:=kg hr;refine⟨_,(qd (qv (i:=2) qc5.nd rfl (Or.inl rfl) (zF (qgP) (by rfl) T.dict qi3 (qa (pv 0) qb)))
  (qd (qm2 (qcV (n:=2) Jl rfl (qln (pv 1)) (qJ (qp (i:=3) qc5.nd rfl (Or.inl rfl)) (qJ (qp (i:=4) qc5.nd rfl (Or.inl rfl)) zT))
  (qe (qfi K4 (pv 2) (pv 3) (pv 4) rfl))))
  (qe (qm (pv 2))))),?_⟩
 refine⟨_,rfl,d1,_,rfl,h1,λ p hp=>?_⟩;have g0:=qi.up hp (o:=.dK kvs);have e2:=g0 _ _ h2;have np:p≠d2:=λ e=>by rw[e,h2] at hp;cases hp
 refine⟨d2,more,e2,_,rfl,d2,more,rfl,e2,λ ob=>?_⟩;refine qoL (λ i σ H1=>∃ v3 v4:Option V,σ=[some (.ref d1),some (.ref d2),some (.ref p),v3,v4]/\H1 d2=some (.frz ob (.dK more))/\H1 p=some (.dK (qN kvs (more.take i)))/\∀ b o,b≠d2->H b=some o->H1 b=some o) ⟨none,none,rfl,qc,?_,?_⟩ (λ i σ H1 _ ⟨_,_,_,h,_⟩=>h) ?_ ?_
 ·rw[qu np,qc];rfl
 ·intro b o hb e;rw[qu hb];exact g0 _ _ e
 ·rintro i k v σ H1 hk ⟨v3,v4,rfl,hf,P3,hb⟩;refine⟨_,_,rfl,_,_,rfl,rfl,?_⟩;have hl:(qN kvs (more.take i)).length<sizeLine:=by have:=yI (more.take i) kvs;rw[Ul] at this;exact zd (by omega)
  refine⟨_,rfl,_,rfl,_,rfl,p,_,rfl,.inl ⟨_,k,P3,rfl,hl,rfl⟩,?_⟩;refine⟨_,_,rfl,by rw[qu (Vu np)];exact hf,?_,λ b o rM e=>?_⟩
  ·rw[qc,qU hk,qiF]
  ·rw[qu (λ q=>by rw[q,hp] at e;cases e)];exact hb b o rM e
 ·rintro σ H1 ⟨v3,v4,rfl,hf,P3,hb⟩;rw[Ut] at P3;refine⟨ob,hf,_,rfl,q p _ (λ b o e=>?_) hp (by rw[qu np];exact P3)⟩;by_cases rM:b=d2
  ·rw[rM] at e ⊢;rw[h2] at e;cases e;exact qc
  ·rw[qu rM];exact hb b o rM e
def qqe(CT:Addr):Sp:=λ vs H Q _=>∃(o:Addr)(gv gp:List Nat)(ws:List Wsh)(dx a1 a2 a3:Addr)(ps:List Addr),vs=[.ref o]/\TaskAt CT H o gv gp ws dx a1 a2 a3 ps/\∀ H',qi H H'->Q (vS gv) H'
def qqf(CT:Addr):Sp:=λ vs H Q _=>∃(o:Addr)(gv gp:List Nat)(ws:List Wsh)(dx a1 a2 a3:Addr)(ps:List Addr),vs=[.ref o]/\TaskAt CT H o gv gp ws dx a1 a2 a3 ps/\∀ H',qi H H'->Q (vS gp) H'
theorem qo2:FnScope ["self"] ["self"] (qh jR):=scF
theorem qo3(F:Fun K "givens" "Task.givens" jR f fd)(T:Txt mg)(c6:TaskC K b0): FnOk P w K mg base CX0 1 f fd ["self"] (qqe b0):=by
 refine F.okd qo2 (λ cdv A outer s H vs Q E hr h=>?_);obtain⟨o,gv,gp,ws,dx,a1,a2,a3,ps,rfl,t,q⟩:=h;refine⟨_,(qe (qm (zi (pv 0) (by rfl)))),?_⟩;exact⟨_,rfl,o,b0,dx,_,_,rfl,t.ins,c6.cls,c6.n1,rfl,q H (qi.refl H)⟩
theorem qo4:FnScope ["self"] ["self"] (qh qal):=scF
theorem qo5(F:Fun K "gaps" "Task.gaps" qal f fd)(T:Txt mg)(c6:TaskC K b0): FnOk P w K mg base CX0 1 f fd ["self"] (qqf b0):=by
 refine F.okd qo4 (λ cdv A outer s H vs Q E hr h=>?_);obtain⟨o,gv,gp,ws,dx,a1,a2,a3,ps,rfl,t,q⟩:=h;refine⟨_,(qe (qm (zi (pv 0) (by rfl)))),?_⟩;exact⟨_,rfl,o,b0,dx,_,_,rfl,t.ins,c6.cls,c6.n2,rfl,q H (qi.refl H)⟩
noncomputable def qb3(c:Nat):Nat:=c-8
def qge:Sp:=λ vs H Q _=>∃(gp:List Nat),vs=[vS gp]/\gp.Sublist [120,121,122]/\∀ H',qi H H'->Q (vS (gp.map qb3)) H'
noncomputable def qmi:List (Str×Str):=[("x","p"),("y","q"),("z","r")]
theorem qmj:∀ c∈([120,121,122]:List Nat),qmi.lookup (qj [c])=some (qj [qb3 c]):=by decide +kernel
theorem qkk:FnScope ["gaps"] ["gaps"] (qh qci):=scF
theorem qkl(F:Fun K "free_of" "free_of" qci f fd)(T:Txt mg)(dJ:mg "FREE"=some (.ref fr))(fH:GD K w fr qmi): FnOk P w K mg base CX0 1 f fd ["gaps"] (qge):=by
 refine F.okd qkk (λ cdv A outer s H vs Q E hr h=>?_);obtain⟨gp,rfl,N9,q⟩:=h;refine⟨_,(qe (qm (yo XO Ye Yf vD qo (qa (zq (csc (NY:=["gap"]) (o:=1) (caps:=[]) [] rfl
    (by simp) yw rfl) rfl
    (vA (pv 0)) (λ C0 s H fp pins=>qp (i:=0) (show(["gap"]:List Str).Nodup by decide +kernel) rfl (Or.inl rfl)) (λ C0 s H fp pins=>zh) (λ C0 s H fp pins=>(qm9 (by rfl) dJ fH (pv 0) (λ _ _=>rfl)))) qb)))),?_⟩
 have hs:(qj gp).cps.size=gp.length:=qy gp;have hz:("":Str).length=0:=by decide
 have W0:gp.length<=3:=N9.length_le;refine⟨rfl,?_⟩;refine⟨_,rfl,_,rfl,?_⟩;refine qfD (λ j=>((gp.map qb3).take j).map λ c=>vS [c]) rfl (λ j hj=>?_) ?_ ?_
 ·rw[U5,Ul,U5];exact zd (by omega)
 ·intro j H6 D6 Y Z hj uV S8 V7 hY hZ;rw[hs] at hj;rw[y8 hj];refine⟨⟨rfl,rfl⟩,?_⟩;refine⟨_,rfl,qj [gp[j]],qj [qb3 gp[j]],rfl,qmj _ (N9.subset (Us hj)),?_⟩;exact hY _ _ S8 V7 (zL (f:=λ c=>vS [c]) (by rw[Zt,Xy hj];rfl))
 ·intro D6 H6 uV V7 S8;rw[hs,XL (by rw[U5];exact Q9 _)] at S8;refine⟨_,D6,((gp.map qb3).map λ c=>[c]).map qj,rfl,rfl,.inl (SqL.of (by rw[S8,qba,zD])),?_,?_⟩
  ·rw[jv,hz,zQ,U5];show _+_*0<=_;omega
  rw[ju,zQ];exact q _ V7
noncomputable def qed(D:List Nat)(M:Nat):Nat:=if M∈D then M else D.headD 0
def qiG:Sp:=λ vs H Q _=>∃(gp:List Nat)(a:Addr)(D:List Nat),vs=[vS gp,.ref a]/\H a=some (.lst (D.map vN))/\D≠[]/\gp.length<=3/\∀ r H',qi H H'->H r=none->H' r=some (.lst ((List.range (2^gp.length)).map λ M=>vN (qed D M)))->Q (.ref r) H'
theorem qqg(D:List Nat)(i:Nat):inV (.int (0+(i:Int))) (D.map vN)=decide (i∈D):=by
 unfold inV;rw[List.any_map,U4,Zr,List.any_eq_true];constructor
 ·rintro⟨x,hx,e⟩;have e':(((x:Int)) == (0+(i:Int)))=true:=e
  have:(x:Int)=0+(i:Int):=eq_of_beq e'
  have:x=i:=by omega
  rw[<- this];exact hx
 ·intro h;refine⟨i,h,?_⟩;show((i:Int) == (0+(i:Int)))=true
  rw[Q4];exact Ux _
theorem qo6(D:List Nat):(D.map vN).all qaO=true:=by rw[List.all_map,Up];intro x _;rfl
theorem qnD:FnScope ["gaps","doing_there"] ["gaps","doing_there"] (qh jw):=scF
theorem qnE(F:Fun K "nearest_rows" "nearest_rows" jw f fd)(T:Txt mg)(i7:Dp P w K mg base 1 t6 u0 ["letters"] (qaH) "row_count"): FnOk P w K mg base CX0 2 f fd ["gaps","doing_there"] (qiG):=by
 refine F.okd qnD (λ cdv A outer s H vs Q E hr h=>?_);obtain⟨gp,a,D,rfl,ha,K6,W0,q⟩:=h;refine⟨_,(qe (qm (zq (csc (NY:=["row","doing_there"]) (o:=1) (caps:=[1]) ["doing_there"] rfl
    (by intro x hx;rw[Zl.mp hx];exact .inl rfl) (j2 rfl rfl rfl yw) rfl) rfl
    (zN (by rfl) T.range (qa (zf i7 hr (qa (pv 0) qb)) qb)) (λ C0 s H fp pins=>qp (i:=0) (show(["row","doing_there"]:List Str).Nodup by decide +kernel) rfl (Or.inl rfl)) (λ C0 s H fp pins=>zh) (λ C0 s H fp pins=>(qbt (qx (r:=rIn K false) qjA (pv 0) (pv 1) rfl) (pv 0) (za (r:=qok K) zA (pv 1) qg (λ _ _=>rfl))))))),?_⟩
 have h8:2^gp.length<=8:=Ys (n:=2) (by decide) W0;refine⟨_,rfl,gp,rfl,by omega,_,rfl,?_,?_,?_⟩
 ·generalize 2^gp.length=P2 at h8;omega
 ·generalize 2^gp.length=P2 at h8;omega
 have en:(((2^gp.length:Nat):Int)).toNat=2^gp.length:=Zv _;refine qk4 (λ i=>(List.range i).map λ M=>vN (qed D M)) rfl (λ i hi=>?_) ?_ ?_
 ·rw[U5,Z4];exact zd (by omega)
 ·intro i H2 D2 Y Z hi hD p4 sm hY hZ;refine⟨⟨rfl,rfl⟩,?_⟩;have e2:=sm _ _ ha;refine⟨_,rfl,_,rfl,a,_,rfl,.inl (SqL.of e2),rfl,qo6 D,_,rfl,?_⟩;rw[show(if false=true then !inV (V.int (0+(i:Int))) (D.map vN) else inV (V.int (0+(i:Int))) (D.map vN))=decide (i∈D) from qqg D i];refine kq (λ c=>?_) (λ c=>?_)
  ·refine⟨_,rfl,hY _ _ p4 sm ?_⟩;show List.map _ (List.range (i+1))=_
   rw[Jf,Jd];unfold qed;rw[List.map_singleton,Vz (Ui c)];show _++[V.int (i:Int)]=_++[V.int (0+(i:Int))]
   rw[Q4]
  ·obtain⟨d,D',rfl⟩:=List.exists_cons_of_ne_nil K6;refine⟨_,rfl,a,_,0,_,rfl,rfl,SqL.of e2,jc (j:=0) (v:=vN d) rfl,hY _ _ p4 sm ?_⟩;show List.map _ (List.range (i+1))=_
   rw[Jf,Jd];unfold qed;rw[List.map_singleton,V0 (λ h=>c (J8 h))];rfl
 ·intro D2 H2 hD sm p4;rw[en] at p4;exact q D2 H2 sm hD p4
def qee(K:W.Frag):Sp:=λ vs H Q _=>∃(gp ls:List Nat)(a:Addr)(Ms:List Nat),vs=[vS gp,vS ls,.ref a]/\H a=some (.lst (Ms.map vN))/\gp.Nodup/\gp.length<=9/\ls.Nodup/\ls.length<=6/\Ms.length=2^ls.length /\
 ∀ r fs H',qi H H'->H r=none->H' r=some (.lst (fs.map V.ref))->Paired (λ c g=>H' c=some (.tup ((yj ls (Ms.map λ M=>asg gp (qI gp.length M) g)).map vS))) fs gp->Q (.ref r) H'
theorem qe9:FnScope ["gaps","letters","gap_rows","truths"] ["gaps","letters","gap_rows"] (qh vO):=scF
theorem qkm(F:Fun K "filling_by" "filling_by" vO f fd)(T:Txt mg)(B0:Dp P w K mg base 1 P6 P8 ["letters","number"] (qgd) "row_of")(G5:Dp P w K mg base 11 fX gJ ["letters","table"] (qfZ K) "form_of"): FnOk P w K mg base CX0 12 f fd ["gaps","letters","gap_rows"] (qee K):=by
 refine F.okd qe9 (λ cdv A outer s H vs Q E hr h=>?_);obtain⟨gp,ls,a,Ms,rfl,ha,iJ,W0,sI,l6,lM,q⟩:=h;have K4:=kg hr;refine⟨_,(qd (qv (i:=3) qe9.nd rfl (Or.inr rfl) (zq (csc (NY:=["row","gaps"]) (o:=1) (caps:=[0]) ["gaps"] rfl
    (by intro x hx;rw[Zl.mp hx];exact .inl rfl) (j2 rfl rfl rfl yw) rfl) rfl
    (zz (pv 2)) (λ C0 s H fp pins=>qp (i:=0) (show(["row","gaps"]:List Str).Nodup by decide +kernel) rfl (Or.inl rfl)) (λ C0 s H fp pins=>zh) (λ C0 s H fp pins=>(zf B0 hr (qa (pv 1) (qa (pv 0) qb))))))
  (qe (qm (qlo (qg9 (NY:=["gap","letters","truths"]) (o:=1) (caps:=[1,3]) ["letters","truths"] rfl (by decide +kernel) (by decide +kernel) (by decide +kernel) (by decide +kernel)
    (by intro x hx;rcases Qd.mp hx with e | hx;· rw[e];exact .inl rfl
        rw[Zl.mp hx];exact .inl rfl) (j2 rfl rfl rfl (j2 rfl rfl rfl yw)) rfl) rfl
    (vA (pv 0)) (λ C0 s H fp pins=>qp (i:=0) (show(["gap","letters","truths"]:List Str).Nodup by decide +kernel) rfl (Or.inr rfl)) (λ C0 s H fp pins=>zh) (λ C0 s H fp pins=>(zf G5 hr (qa (pv 1) (qa (zq (csc (NY:=["row","gap"]) (o:=1) (caps:=[0]) ["gap"] rfl
    (by intro x hx;rw[Zl.mp hx];exact .inl rfl) (j2 rfl rfl rfl yw) rfl) rfl
    (show PI _ _ _ (qnO K (qfd 2)) from zz (pv 2)) (λ C0 s H fp pins=>qp (i:=0) (show(["row","gap"]:List Str).Nodup by decide +kernel) rfl (Or.inl rfl)) (λ C0 s H fp pins=>zh) (λ C0 s H fp pins=>(qbw K4 (pv 0) (pv 1) (λ _ _=>rfl)))) qb)))))))),?_⟩
 have eG:(qj gp).cps.size=gp.length:=qy gp;have cH:2^ls.length<=64:=Qu (Ys (by decide) l6) (by decide);have up:∀{HX:Hp}{D z:Addr}{l l':List V}{o:HO},(∀ l,o≠.lst l)->HX D=some (.lst l)->HX z=some o->upd HX D (.lst l') z=some o:=λ{HX D z l l' o} no hX h=>by
  have:z≠D:=λ q=>by rw[q,hX] at h;exact no _ (Option.some.inj h).symm
  rw[qu this];exact h
 refine⟨_,rfl,a,rfl,⟨_,SqL.of ha⟩,?_⟩;refine ym (Ms.map vN).length (λ i ys H'=>∃ ds:List Addr,ys=ds.map V.ref/\Paired (λ d M=>H' d=some (.dK (zU gp (qI gp.length M)))) ds (Ms.take i)) (λ D hD=>⟨[],rfl,.nil⟩) (λ i ys H' hi ⟨ds,e,pd⟩=>by rw[e,U5,pd.length,Ul];exact zd (by omega)) ?_ (λ H' sm=>⟨_,sm.seq (SqL.of ha),Q9 _⟩) ?_
 ·rintro i ys H' D Y Z hi hD S9 sm ⟨ds,rfl,pd⟩ hY hZ;refine⟨⟨_,_,sm.seq (SqL.of ha),Xy hi⟩,?_⟩;rintro x pW ⟨rfl,hx⟩;have ev:=hx _ (sm.seq (SqL.of ha));obtain⟨M,hM,rfl⟩:=ql ev;refine⟨⟨rfl,rfl⟩,?_⟩;refine⟨_,rfl,_,rfl,gp,M,rfl,iJ,W0,λ d HC gC nC eC=>?_⟩;have oZ:=gC _ _ S9;refine hY _ _ oZ (sm.trans gC) ⟨ds++[d],by rw[Jd];rfl,?_⟩;rw[qU hM];exact qH (L2.Paired.mapP pd λ z M h=>up (λ l q=>nomatch q) oZ (gC _ _ h)) (.cons (up (λ l q=>nomatch q) oZ eC) .nil)
 rintro D H2 ys hD sm2 p4 ⟨ds,rfl,pd⟩;rw[U5,Ut] at pd;have lds:ds.length=Ms.length:=pd.length;refine⟨_,rfl,_,rfl,?_⟩;refine ym (qj gp).cps.size (λ i ys H'=>∃ fs:List Addr,ys=fs.map V.ref/\Paired (λ c g=>H' c=some (.tup ((yj ls (Ms.map λ M=>asg gp (qI gp.length M) g)).map vS))) fs (gp.take i)) (λ D hD=>⟨[],rfl,.nil⟩) (λ i ys H' hi ⟨fs,e,pf⟩=>by rw[e,U5,pf.length,Ul];exact zd (by omega)) ?_ (λ H' sm=>rfl) ?_
 ·rintro i ys H' D' Y Z hi hD' S9 sm ⟨fs,rfl,pf⟩ hY hZ;refine⟨hi,?_⟩;rintro x pW ⟨rfl,rfl⟩;rw[eG] at hi;rw[y8 hi];refine⟨⟨rfl,rfl⟩,?_⟩;have eD:=sm _ _ p4;refine⟨_,rfl,?_⟩;refine⟨_,rfl,D,rfl,⟨_,SqL.of eD⟩,?_⟩;refine k4 (SqL.of eD) (λ j=>(Ms.take j).map λ M=>V.bl (asg gp (qI gp.length M) gp[i])) rfl (λ j hj=>?_) ?_ ?_
  ·rw[U5,Ul];exact zd (by omega)
  ·intro j v H3 D3 Y3 Z3 hv lK M9 aU hY3 hZ3;obtain⟨d,hd,rfl⟩:=ql hv;obtain⟨M,hM,ed⟩:=ze pd j d hd;have lp:gp.length=(qI gp.length M).length:=(zP _ _).symm;have gd:=qaK.k (k:=Sum.inr (qj [gp[i]])) (aU _ _ (sm _ _ ed));rw[vd lp,Vz (Us hi)] at gd;refine⟨⟨rfl,rfl⟩,?_⟩;refine⟨_,rfl,_,rfl,d,_,rfl,gd,?_⟩;exact hY3 _ _ M9 aU (zL (f:=λ M=>V.bl (asg gp (qI gp.length M) gp[i])) hM)
  intro D3 H3 lK aU M9;rw[U5,lds,Ut] at M9;refine⟨D3,Ms.map λ M=>asg gp (qI gp.length M) gp[i],ls,rfl,SqL.of (by rw[M9,Q1];rfl),by rw[U5,lM],by omega,sI,λ c HC gC eC=>?_⟩;have oZ:=gC _ _ (aU _ _ S9);refine hY _ _ oZ ((sm.trans aU).trans gC) ⟨fs++[c],by rw[Jd];rfl,?_⟩;rw[qU (Xy hi)];exact qH (L2.Paired.mapP pf λ z g h=>up (λ l q=>nomatch q) oZ (gC _ _ (aU _ _ h))) (.cons (up (λ l q=>nomatch q) oZ eC) .nil)
 ·rintro D' HA ys hD' smA hHA ⟨fs,rfl,pf⟩;rw[eG,Ut] at pf;exact q D' fs HA (sm2.trans smA) (qaG sm2 hD') hHA pf
noncomputable def qmk(gv gp:List Nat)(F:List Pr):List Nat:=(List.range (2^gv.length)).flatMap λ N=>(List.range (2^gp.length)).map (qed (zw gv gp F N))
noncomputable def qqh(gv gp:List Nat)(F:List Pr)(g:Nat):List Pr:=yj (gv++gp.map qb3) ((qmk gv gp F).map λ M=>asg gp (qI gp.length M) g)
def qef(CT:Addr):Sp:=λ vs H Q _=>∃(o:Addr)(gv gp:List Nat)(ws:List Wsh)(dx a1 a2 a3:Addr)(ps:List Addr),vs=[.ref o]/\TaskAt CT H o gv gp ws dx a1 a2 a3 ps/\TkOk gv gp ws /\
 ((∃ N,N<2^gv.length/\zw gv gp (q8 (ws.map Wsh.side)) N=[])->∀ H',qi H H'->Q .non H') /\
 ((∀ N,N<2^gv.length->zw gv gp (q8 (ws.map Wsh.side)) N≠[])->∀ r fs H',qi H H'->H r=none->H' r=some (.lst (fs.map V.ref))->Paired (λ c g=>H' c=some (.tup ((qqh gv gp (q8 (ws.map Wsh.side)) g).map vS))) fs gp->Q (.ref r) H')
theorem qhv(gv gp:List Nat)(F:List Pr)(n:Nat):((List.range n).flatMap λ N=>(List.range (2^gp.length)).map (qed (zw gv gp F N))).length=n*2^gp.length:=by
 induction n with
 |zero=>simp
 |succ n ih=>rw[Jf,List.flatMap_append,Ze,ih,List.flatMap_singleton,U5,Z4,Nat.succ_mul]
theorem qcJ{R:α->β->Prop}{S:α->γ->Prop}{f:β->γ}(h:∀ a b,R a b->S a (f b)):∀{xs:List α}{ys:List β},Paired R xs ys->Paired S xs (ys.map f)
 |_,_,.nil=>.nil
 |_,_,.cons r t=>.cons (h _ _ r) (qcJ h t)
theorem qo7(l:List Nat):l.map vN=(l.map λ M=>((M:Nat):Int)).map V.int:=by rw[Q1];rfl
theorem qeg(h:(List.range n)[i]?=some N):N=i/\i<n:=by
 have hl:=jt h;rw[Z4] at hl;rw[Y7 hl] at h;exact⟨(Option.some.inj h).symm,hl⟩
theorem qaI:FnScope ["task","doing","gap_rows","doing_there"] ["task"] (qh yG):=scF
theorem qkn(F:Fun K "widest_filling" "widest_filling" yG f fd)(T:Txt mg)(A0:Dp P w K mg base 2 N4 N6 ["gaps","doing_there"] (qiG) "nearest_rows")(M7:Dp P w K mg base 1 fV gI ["gaps"] (qge) "free_of")(D5:Dp P w K mg base 12 T3 T5 ["gaps","letters","gap_rows"] (qee K) "filling_by")(c6:TaskC K b0)(C9:Meth K b0 "doing" p6)(D8:FnOk P w K mg base CX0 4 p6 x0 ["self"] (qji b0))(C8:qk K x0 ["self"] [])(u5:Meth K b0 "gaps" t7)(u7:FnOk P w K mg base CX0 1 t7 A6 ["self"] (qqf b0))(u3:qk K A6 ["self"] [])(A9:Meth K b0 "givens" o0)(B1:FnOk P w K mg base CX0 1 o0 r6 ["self"] (qqe b0))(A8:qk K r6 ["self"] []): FnOk P w K mg base CX0 13 f fd ["task"] (qef b0):=by
 refine F.okd qaI (λ cdv A outer s H vs Q E hr h=>?_);obtain⟨o,gv,gp,ws,dx,a1,a2,a3,ps,rfl,t,ok,qn,qs⟩:=h;have K4:=kg hr;have W1:Room 1 _:=hr.mono (by decide);have hr_4:Room 4 _:=hr.mono (by decide);refine⟨_,(qd (qv (i:=1) qaI.nd rfl (Or.inl rfl) (qE (pv 0) c6.cls C9 D8 hr_4 C8 .nil qA))
  (qd (zg (qx (qna K4) (zK qb) (pv 1) rfl)
   (qe (qm kt)) qG)
  (qd (qv (i:=2) qaI.nd rfl (Or.inl rfl) (zK qb))
  (qd (yg Jl rfl (zz (pv 1)) (qp (i:=3) qaI.nd rfl (Or.inl rfl))
  (qe (yn (yo XE PySem.F.slot_list_extend PySem.F.type_list_extend qjB (pv 2) (qa (zf A0 hr (qa (qE (pv 0) c6.cls u5 u7 W1 u3 .nil qA) (qa (pv 3) qb))) qb)))))
  (qe (qm (zf D5 hr (qa (qE (pv 0) c6.cls u5 u7 W1 u3 .nil qA) (qa (qr qP (qE (pv 0) c6.cls A9 B1 W1 A8 .nil qA) (zf M7 hr (qa (qE (pv 0) c6.cls u5 u7 W1 u3 .nil qA) qb))) (qa (pv 2) qb)))))))))),?_⟩
 have dX:gv.length<=3:=ok.sv.length_le;have W0:gp.length<=3:=ok.sp.length_le;have h8v:2^gv.length<=8:=Ys (n:=2) (by decide) dX;have h8p:2^gp.length<=8:=Ys (n:=2) (by decide) W0;obtain⟨rl,nA,l9⟩:=jo ok.sv ok.sp;have iJ:gp.Nodup:=(Zy.mp (zc Qc rl)).2.1;generalize hF:q8 (ws.map Wsh.side)=FF at qn qs;refine⟨_,rfl,o,dx,_,rfl,t.ins,rfl,o,gv,gp,ws,dx,a1,a2,a3,ps,rfl,t,ok,λ r bs H1 g1 nr nbs e1 pA=>?_⟩;rw[hF] at pA;have lbs:bs.length=2^gv.length:=by rw[pA.length,Z4]
 refine⟨Va _,λ p hp=>?_⟩;have g2:=qi.up hp (o:=.lst []);have toL:Paired (λ c (G:List Int)=>SqL K (upd H1 p (.lst [])) c (G.map V.int)) bs ((List.range (2^gv.length)).map λ N=>(zw gv gp FF N).map λ M=>((M:Nat):Int)):=qcJ (S:=λ c (F:List Int)=>SqL K (upd H1 p (.lst [])) c (F.map V.int)) (f:=λ N=>(zw gv gp FF N).map λ M=>((M:Nat):Int)) (λ c N h=>SqL.of (by rw[<- qo7];exact g2 _ _ h)) pA;refine⟨_,rfl,p,r,bs,[],_,rfl,rfl,SqL.of qc,SqL.of (g2 _ _ e1),toL,_,rfl,?_⟩;refine kq (λ c=>?_) (λ c=>?_)
 ·have c':=Ui c;obtain⟨N,hN,e⟩:=Qz.mp c';exact qn ⟨N,Ju.mp hN,by simpa using e⟩ _ (g1.trans g2)
 have wD:∀ N,N<2^gv.length->zw gv gp FF N≠[]:=λ N hN e=>c (J8 (Qz.mpr ⟨N,Ju.mpr hN,by rw[e];rfl⟩))
 refine⟨Va _,λ l hl=>?_⟩;have g3:=qi.up hl (o:=.lst []);have G7:=g2.trans g3;have g03:=g1.trans G7;have nl:H l=none:=qaG (g1.trans g2) hl;have nl1:H1 l=none:=qaG g2 hl;have e3:=G7 _ _ e1;have nrl:r≠l:=λ e=>by rw[e,nl1] at e1;cases e1
 refine⟨_,rfl,r,rfl,⟨_,SqL.of e3⟩,?_⟩;refine jX (K:=K) (xs:=bs.map V.ref) (λ i σ H'=>∃ v3:Option V,σ=[some (.ref o),some (.ref r),some (.ref l),v3]/\But l (upd (upd H1 p (.lst [])) l (.lst [])) H'/\H' l=some (.lst (((List.range i).flatMap λ N=>(List.range (2^gp.length)).map (qed (zw gv gp FF N))).map vN))) ⟨none,rfl,But.refl _ _,qc⟩ (λ i σ H' hi ⟨_,_,b,_⟩=>SqL.of (b _ _ nrl e3)) ?_ ?_
 ·rintro i y σ H4 hy ⟨v3,rfl,b4,e4⟩;obtain⟨c,hc,rfl⟩:=ql hy;obtain⟨N,hN,eN⟩:=ze pA i c hc;obtain⟨rfl,hNl⟩:=qeg hN;have eN:H1 c=_:=eN;have ncl:c≠l:=λ e=>by rw[e,nl1] at eN;cases eN
  have eN4:=b4 _ _ ncl (G7 _ _ eN);have rR:qi H H4:=b4.same g03 nl;have t4:=t.mono rR;refine⟨_,rfl,.inl ⟨rfl,_,SqL.of e4⟩,?_⟩;refine⟨_,rfl,o,dx,_,rfl,t4.ins,rfl,o,gv,gp,ws,dx,a1,a2,a3,ps,rfl,t4,λ H5 g5=>?_⟩;refine⟨_,rfl,gp,c,zw gv gp FF N,rfl,g5 _ _ eN4,wD N hNl,W0,λ r2 H6 g6 n6 e6=>?_⟩;have e46:=g6 _ _ (g5 _ _ e4);have nl2:N*2^gp.length<=8*8:=Nat.mul_le_mul (by omega) h8p;refine⟨l,r2,_,_,rfl,rfl,e46,e6,?_,?_⟩
  ·rw[U5,qhv,U5,Z4];exact qz (by omega)
  refine⟨_,rfl,((b4.trans (zu (g5.trans g6))).upd),?_⟩;rw[qc,Jf,List.flatMap_append,Jd,List.flatMap_singleton,Q1];rfl
 ·rintro σ H4 ⟨v3,rfl,b4,e4⟩;rw[U5,lbs] at e4;have rR:qi H H4:=b4.same g03 nl;refine⟨_,rfl,o,dx,_,rfl,(t.mono rR).ins,rfl,o,gv,gp,ws,dx,a1,a2,a3,ps,rfl,t.mono rR,λ H5 g5=>?_⟩;have g05:=rR.trans g5;refine⟨_,rfl,o,dx,_,rfl,(t.mono g05).ins,rfl,o,gv,gp,ws,dx,a1,a2,a3,ps,rfl,t.mono g05,λ H6 g6=>?_⟩;have g06:=g05.trans g6;refine⟨_,rfl,o,dx,_,rfl,(t.mono g06).ins,rfl,o,gv,gp,ws,dx,a1,a2,a3,ps,rfl,t.mono g06,λ H7 g7=>?_⟩;have g07:=g06.trans g7;refine⟨gp,rfl,ok.sp,λ H8 g8=>?_⟩;refine⟨_,_,rfl,rfl,by rw[qy,qy,U5];exact qz (by omega),?_⟩;rw[yp];have nM:=((g5.trans g6).trans g7).trans g8;have e8:=nM _ _ e4;have sL:(gv++gp.map qb3).Sublist [97,98,99,112,113,114]:=ok.sv.append (ok.sp.map qb3);refine⟨_,rfl,gp,gv++gp.map qb3,l,qmk gv gp FF,rfl,e8,iJ,by omega,?_,by rw[Ze,U5];omega,?_,λ r' fs H9 g9 n9 e9 pf=>?_⟩
  ·exact(show([97,98,99,112,113,114]:List Nat).Nodup by decide).sublist sL
  ·unfold qmk;rw[qhv,Ze,U5,Nat.pow_add]
  ·have wB:=rR.trans nM;exact qs wD r' fs H9 (wB.trans g9) (qaG wB n9) e9 pf
def qb4(K:W.Frag):Sp:=λ vs H Q _=>∃(r:Addr)(ps:List Addr)(xs:List (Tr×Tr))(gv gp:List Nat),vs=[.ref r,vS gv,vS gp]/\H r=some (.lst (ps.map V.ref))/\Paired (yt H) ps xs/\xs.length<=100/\(∀ x∈xs,x.1.Of (gv++gp)/\x.2.Of (gv++gp)/\x.1.ht<=20/\x.2.ht<=20)/\gv.Sublist [97,98,99]/\gp.Sublist [120,121,122] /\
 ∀ r' as H',qi H H'->H r'=none->H' r'=some (.lst (as.map V.ref))->Paired (λ c N=>∃ l:List V,H' c=some (.lst l)/\(l.length=0 ↔ zw gv gp (q8 ((xs.map asW).map Wsh.side)) N=[])) as (List.range (2^gv.length))->Q (.ref r') H'
theorem qml{xs:List (Tr×Tr)}(h:∀ x∈xs,x.1.Of (gv++gp)/\x.2.Of (gv++gp))(N M:Nat):ja gv gp (q8 ((xs.map asW).map Wsh.side)) N M=!(xs.any λ x=>x.1.val (qcI gv gp N M) != x.2.val (qcI gv gp N M)):=by
 unfold ja;rw[qhu _ xs h]
theorem vg:FnScope [sA2,sA5,sA6,"_law_found",sA3,"_law_here","_law_more"] [sA2,sA5,sA6] (qh qap):=scF
theorem qko(F:Fun K sB9 sB9 qap f fd)(T:Txt mg)(L3:Dp P w K mg base 2 lO lV [sA0] (qgb) sC6)(R4:Dp P w K mg base 1 lQ lX [sC3,sB1] (qiE) sC9)(E9:Dp P w K mg base 21 aC aH [sA2,sA3] (qcr K) sB8): FnOk P w K mg base CX0 22 f fd [sA2,sA5,sA6] (qb4 K):=by
 refine F.okd vg (λ cdv A outer s H vs Q E hr h=>?_);obtain⟨r,ps,xs,gv,gp,rfl,N2,pr,lx,ok,S1,N9,q⟩:=h;refine⟨_,(qd (qv (i:=3) vg.nd rfl (Or.inl rfl) (zK qb))
  (qd (yg Jl rfl (zz (zf L3 hr (qa (pv 1) qb))) (qp (i:=4) vg.nd rfl (Or.inl rfl))
  (qd (qv (i:=5) vg.nd rfl (Or.inl rfl) (zK qb))
  (qd (yg Jl rfl (zz (zf L3 hr (qa (pv 2) qb))) (qp (i:=6) vg.nd rfl (Or.inl rfl))
  (qe (zg (qx zp (qB qC (by rfl) T.len J7 (qa (zf E9 hr (qa (pv 0) (qa (zf R4 hr (qa (pv 4) (qa (pv 6) qb))) qb))) qb)) qg (qD _))
   (qe (yn (yo XE X1 X2 zG (pv 5) (qa (pv 6) qb)))) qG)))
  (qe (yn (yo XE X1 X2 zG (pv 3) (qa (pv 5) qb)))))))
  (qe (qm (pv 3))))),?_⟩
 obtain⟨iS,nA,l9⟩:=jo S1 N9;have dX:gv.length<=3:=S1.length_le;have W0:gp.length<=3:=N9.length_le;have sI:=zc Qc iS;have sH:gv.Nodup:=(Zy.mp sI).1;have iJ:gp.Nodup:=(Zy.mp sI).2.1;have h8v:2^gv.length<=8:=Ys (n:=2) (by decide) dX;have h8p:2^gp.length<=8:=Ys (n:=2) (by decide) W0;have dv:=qml (gv:=gv) (gp:=gp) (xs:=xs) (λ x hx=>⟨(ok x hx).1,(ok x hx).2.1⟩);generalize hF:q8 ((xs.map asW).map Wsh.side)=FF at dv q;refine⟨Va _,λ du hdu=>?_⟩;have g6:=qi.up hdu (o:=.lst []);refine⟨_,rfl,gv,rfl,sH,by omega,λ rr ds H7 g7 e7 pd=>?_⟩;have g07:=g6.trans g7;have du7:H7 du=some (.lst []):=g7 _ _ qc;have lds:ds.length=2^gv.length:=by rw[pd.length,Z4]
 have nrr:rr≠du:=λ h=>by
  rw[h,du7] at e7;have e:=HO.lst.inj (Option.some.inj e7);have hp:0<2^gv.length:=Jj _;rw[<- lds] at hp;cases ds with
  |nil=>cases hp
  |cons d ds=>cases e
 refine⟨rr,rfl,⟨_,SqL.of e7⟩,?_⟩;refine jX (K:=K) (xs:=ds.map V.ref) (λ i σ H'=>∃(as:List Addr)(v4 v5 v6:Option V),σ=[some (.ref r),some (vS gv),some (vS gp),some (.ref du),v4,v5,v6]/\But du H7 H'/\H' du=some (.lst (as.map V.ref))/\Paired (λ c N=>c≠du/\∃ l:List V,H' c=some (.lst l)/\(l.length=0 ↔ zw gv gp FF N=[])) as (List.range i)) ⟨[],none,none,none,rfl,But.refl _ _,du7,.nil⟩ (λ i σ H' hi ⟨_,_,_,_,_,b,_⟩=>SqL.of (b _ _ nrr e7)) ?_ ?_
 ·rintro i y σ H8 hy ⟨as,v4,v5,v6,rfl,b8,wW,sD⟩;obtain⟨d,hd,rfl⟩:=ql hy;obtain⟨N,hN,ed⟩:=ze pd i d hd;obtain⟨rfl,hNl⟩:=qeg hN;have las:as.length=N:=by rw[sD.length,Z4]
  have wV:H8 d=some (.dK (zU gv (qI gv.length N))):=b8 _ _ (λ e=>by rw[e,du7] at ed;cases ed) ed;have wB:qi H H8:=b8.same g07 hdu;refine⟨Va _,λ hh rL=>?_⟩;have g9:=qi.up rL (o:=.lst []);refine⟨_,rfl,gp,rfl,iJ,by omega,λ r2 ds2 HA gA eA pd2=>?_⟩;have uZ:=g9.trans gA;have hhA:HA hh=some (.lst []):=gA _ _ qc;have sT:ds2.length=2^gp.length:=by rw[pd2.length,Z4]
  have nr2:r2≠hh:=λ h=>by
   rw[h,hhA] at eA;have e:=HO.lst.inj (Option.some.inj eA);have hp:0<2^gp.length:=Jj _;rw[<- sT] at hp;cases ds2 with
   |nil=>cases hp
   |cons d ds=>cases e
  refine⟨r2,rfl,⟨_,SqL.of eA⟩,?_⟩;have nhh:∀{z:Addr}{o:HO},H8 z=some o->z≠hh:=λ h e=>by rw[e,rL] at h;cases h
  refine jX (K:=K) (xs:=ds2.map V.ref) (λ j σ H'=>∃(l:List V)(v6:Option V),σ=[some (.ref r),some (vS gv),some (vS gp),some (.ref du),some (.ref d),some (.ref hh),v6]/\But hh HA H'/\H' hh=some (.lst l)/\l.length<=j/\(l.length=0 ↔ (List.range j).filter (ja gv gp FF N)=[])) ⟨[],_,rfl,But.refl _ _,hhA,Q9 _,by simp⟩ (λ j σ H' hj ⟨_,_,_,b,_⟩=>SqL.of (b _ _ nr2 eA)) ?_ ?_
  ·rintro j y2 σ HB hy2 ⟨l,v6',rfl,bB,ehB,ll,hl⟩;obtain⟨d2,bK,rfl⟩:=ql hy2;obtain⟨M,hM,rS⟩:=ze pd2 j d2 bK;obtain⟨rfl,hMl⟩:=qeg hM;have edB:HB d=some (.dK (zU gv (qI gv.length N))):=bB _ _ (nhh wV) (uZ _ _ wV);have ed2B:HB d2=some (.dK (zU gp (qI gp.length M))):=bB _ _ (λ e=>by rw[e,hhA] at rS;cases rS) rS;have g0B:qi H HB:=bB.same (wB.trans uZ) (qaG wB rL);have lv:gv.length=(qI gv.length N).length:=(zP _ _).symm;have lp:gp.length=(qI gp.length M).length:=(zP _ _).symm;have lb:(gv++gp).length=(qI gv.length N++qI gp.length M).length:=by rw[Ze,Ze,<- lv,<- lp]
   refine⟨_,rfl,_,rfl,_,rfl,d,d2,_,_,rfl,edB,ed2B,by rw[qb1 lv,qb1 lp];omega,λ d3 HC gC fC eC=>?_⟩;rw[qeb sI lv lp] at eC;have g0C:=g0B.trans gC;refine⟨r,d3,ps,xs,_,qcI gv gp N M,gv++gp,rfl,g0C _ _ N2,qQ (λ p x h=>yt.mono h (zj g0C)) pr,lx,ok,eC,λ c hc=>by rw[vd lb,Vz hc];rfl,λ r' is HD gD eD cF=>?_⟩;have er:decide (V.int (((is.map V.int).length:Nat):Int)=V.int 0)=ja gv gp FF N M:=by
    rw[dv,<- cF,U5,<- decide_not];refine U1.mpr ?_;rw[V.int.injEq];omega
   refine⟨r',_,rfl,.inl (SqL.of eD),rfl,_,rfl,?_⟩;rw[er];have gCD:=gC.trans gD;have bD:But hh HA HD:=bB.trans (zu gCD);have ehD:=gCD _ _ ehB;have fs:(List.range (M+1)).filter (ja gv gp FF N)=(List.range M).filter (ja gv gp FF N)++(if ja gv gp FF N M=true then [M] else []):=by
    rw[Jf,List.filter_append];congr 1
    rw[Uw];rfl
   refine kq (λ c=>?_) (λ c=>?_)
   ·refine⟨_,rfl,.inl ⟨rfl,_,SqL.of ehD⟩,_,rfl,hh,_,_,rfl,rfl,ehD,zd (by omega),?_⟩;refine⟨_,_,rfl,bD.upd,qc,by rw[Ze,XW];omega,?_⟩;rw[fs,Vz c];simp
   ·refine⟨_,_,rfl,bD,ehD,by omega,?_⟩;rw[fs,V0 c,U6];exact hl
  ·rintro σ HB ⟨l,v6',rfl,bB,ehB,ll,hl⟩;rw[U5,sT] at hl;have V8:du≠hh:=λ e=>by rw[e,rL] at wW;cases wW
   have edB:HB du=some (.lst (as.map V.ref)):=bB _ _ V8 (uZ _ _ wW);refine⟨_,rfl,.inl ⟨rfl,_,SqL.of edB⟩,_,rfl,du,_,_,rfl,rfl,edB,by rw[U5];exact zd (by omega),?_⟩;refine⟨as++[hh],_,_,_,rfl,?_,by rw[qc,Jd];rfl,?_⟩
   ·intro z o nz h;rw[qu nz];have h8:=b8 _ _ nz h;exact bB _ _ (λ e=>by rw[e,rL] at h8;cases h8) (uZ _ _ h8)
   ·rw[Jf];have k1:∀ c N',(c≠du/\∃ l:List V,H8 c=some (.lst l)/\(l.length=0 ↔ zw gv gp FF N'=[]))->(c≠du/\∃ l:List V,upd HB du (.lst (as.map V.ref++[.ref hh])) c=some (.lst l)/\(l.length=0 ↔ zw gv gp FF N'=[])):=λ c N' h=>⟨h.1,by
     obtain⟨l,hc,hl⟩:=h.2;refine⟨l,?_,hl⟩;rw[qu h.1];exact bB _ _ (λ e=>by rw[e,rL] at hc;cases hc) (uZ _ _ hc)⟩
    exact qH (qQ k1 sD) (.cons ⟨Vu V8,l,by rw[qu (Vu V8)];exact ehB,hl⟩ .nil)
 ·rintro σ H8 ⟨as,v4,v5,v6,rfl,b8,wW,sD⟩;rw[U5,lds] at sD;exact⟨_,rfl,q du as H8 (b8.same g07 hdu) hdu wW (qQ (λ c N h=>h.2) sD)⟩
structure Fit(F:List Pr):Prop where
 flat:F.flatten.length<=4000
 len:F.length<=2000
 few:(qf F).length<=9
def qmm(K:W.Frag):Sp:=λ vs H Q _=>∃(a:Addr)(as:List Addr)(Fs:List (List Pr)),vs=[.ref a]/\SqL K H a (as.map V.ref)/\Paired (λ c (F:List Pr)=>SqT K H c (F.map vS)) as Fs/\Fs.length<=9/\(∀ F∈Fs,Fit F)/\(qZ Fs).length<=9/\∀ H',qi H H'->Q (vS (qZ Fs)) H'
theorem qo8:FnScope ["forms"] ["forms"] (qh yF):=scF
theorem qqi:(["form"]:List Str).Nodup:=by decide +kernel
theorem qbq:∀{xs:List α}{l:List β},Paired F xs l->∀(k:Nat)(a:α),xs[k]?=some a->∃ b,l[k]?=some b/\F a b
 |_,_,.nil,k,a,h=>by simp at h
 |_,_,.cons r t,0,a,h=>by simp at h;subst h;exact⟨_,rfl,r⟩
 |_,_,.cons r t,k+1,a,h=>qbq t k a (by simpa using h)
theorem qo9(F:Fun K "letters_in_all" "letters_in_all" yF f fd)(T:Txt mg)(Gl:Dp P w K mg base 1 fl pH ["form"] (j7 K) "letters_of"):FnOk P w K mg base CX0 2 f fd ["forms"] (qmm K):=by
 refine F.okd qo8 (λ cdv A outer s H vs Q E hr h=>?_);obtain⟨a,as,Fs,rfl,hS,hp,h9,hf,ha,q⟩:=h;refine⟨_,qe (qm (yo XO Ye Yf vD qo (qa (qB (qaQ rfl) rfl T.sorted j6 (qa (zF (qbF rfl) rfl T.set qfX (qa
  (yo XO Ye Yf vD qo (qa (zq (csc (NY:=["form"]) (o:=1) (caps:=[]) [] rfl (by simp) yw rfl) rfl
   (zz (pv 0)) (λ C s H fp pins=>qp (i:=0) qqi rfl (Or.inl rfl)) (λ C s H fp pins=>zh) (λ C s H fp pins=>qM Gl.g hr rfl Gl.m Gl.e Gl.b .nil qA (qa (pv 0) qb))) qb)) qb)) qb)) qb))),?_⟩
 have hz:("":Str).length=0:=by decide
 have la:as.length=Fs.length:=hp.length;refine⟨rfl,rfl,?_⟩;refine⟨_,rfl,a,rfl,⟨_,hS⟩,?_⟩;refine k4 hS (λ j=>((Fs.take j).map qf).map vS) rfl (λ j hj=>?_) ?_ ?_
 ·rw[U5,U5,Ul];exact zd (by omega)
 ·intro j x H2 D Y Z hx hD p4 sm hY hZ;obtain⟨c,hc,rfl⟩:=ql hx;obtain⟨G,hG,hcG⟩:=qbq hp j c hc;have fG:=hf G (Yl hG);refine⟨⟨rfl,rfl⟩,?_⟩;refine⟨_,rfl,c,G,rfl,sm.seqT hcG,fG.flat,fG.len,by have:=fG.few;omega,λ H3 g3=>?_⟩;refine hY _ _ (g3 _ _ p4) (sm.trans g3) ?_;rw[qU hG,Jd,Jd];rfl
 ·intro D H2 hD sm p4;rw[U5,la,Ut] at p4;have cQ:(Fs.map qf).flatten.length<=81:=by
   refine Qu (qfH (n:=9) (F:=Fs.map qf) λ p hp=>?_) (by rw[U5];omega);obtain⟨G,hG,rfl⟩:=Qz.mp hp;exact(hf G hG).few
  rw[zD] at p4;refine⟨_,D,(Fs.map qf).map qj,rfl,rfl,.inl (SqL.of p4),?_,?_⟩
  ·rw[jv,hz];show _+_*0<=_;omega
  rw[ju];refine⟨(Fs.map qf).flatten.map λ c=>qj [c],.inr ⟨_,rfl,rfl⟩,by rw[U5];show _<4096;omega,λ l ys hl nd hm=>?_⟩;have dI:=jH ((Fs.map qf).flatten.map λ c=>[c]);have lA:∀ x,x∈ys ↔ cs x∈kM ((Fs.map qf).flatten.map λ c=>[c]):=λ x=>by
   rw[hm x,jY,Qz,Qz];constructor
   ·rintro⟨c,hc,rfl⟩;exact⟨c,hc,rfl⟩
   ·rintro⟨c,hc,e⟩;exact⟨c,hc,qfu e⟩
  have c8:ys.length=(qZ Fs).length:=by
   rw[k5 nd dI lA,<- (zV _).length_eq,yc,U5];rfl
  refine⟨l,ys,rfl,qc,by rw[c8];omega,λ l2 W5=>?_⟩;rw[qfG nd dI lA,yc,zD];refine⟨_,l2,((qZ Fs).map λ c=>[c]).map qj,rfl,rfl,.inl (SqL.of qc),?_,?_⟩
  ·rw[jv,hz,zQ];show _+_*0<=_;omega
  rw[ju,zQ];exact q _ ((sm.to hl).to W5)
def qqX(K:W.Frag)(H:Hp)(d:Addr)(ls:List Nat)(g:Nat->List Pr):Prop:=∃ kvs,H d=some (.dK kvs)/\∀ c∈ls,(zS kvs (.inr (qj [c]))=none/\g c=[[c]])∨∃ r,zS kvs (.inr (qj [c]))=some (.ref r)/\SqT K H r ((g c).map vS)
def qjj(K:W.Frag):Sp:=λ vs H Q _=>∃(a d:Addr)(F:List Pr)(g:Nat->List Pr),vs=[.ref a,.ref d]/\SqT K H a (F.map vS)/\qqX K H d (qf F) g/\Fit F/\(∀ c∈qf F,Fit (g c))/\(qZ ((qf F).map g)).length<=9 /\
 ∀ r H',qi H H'->H' r=some (.tup ((putIn F g).map vS))->Q (.ref r) H'
theorem qeh:FnScope ["form","forms","own_letters","put_ones","letters","own_table"] ["form","forms"] (qh qd0):=scF
theorem qqj:(["letter","forms"]:List Str).Nodup:=by decide +kernel
theorem qnZ:(["number","truth"]:List Str).Nodup:=by decide +kernel
theorem qqk:(["number","own_table"]:List Str).Nodup:=by decide +kernel
theorem qmn(n:Nat)(v:V):(List.replicate n [v]).flatten=List.replicate n v:=by
 induction n with
 |zero=>rfl
 |succ n ih=>rw[Yy,Zw,ih,Yy];rfl
theorem qei:∀(ps:List (List Pr))(ns:List Nat)(b:Nat),(∀ n∈ns,n<b)->∀ n∈ps.foldl (λ ns p=>kh ns (zb p L)) ns,n<b*2^ps.length
 | [],ns,b,h=>by intro n hn;have:=h n hn;simpa using this
 |p::ps,ns,b,h=>by
  intro n hn;rw[Ja] at hn
  have:=qei ps (kh ns (zb p L)) (2*b) (λ m hm=>by
   unfold kh at hm;obtain⟨i,hi,e⟩:=Y0 hm;rw[List.getElem_zipWith] at e;rw[Yz] at hi;have h1:=h (ns[i]'(by omega)) (Us _);rw[<- e];split <;> omega) n hn
  rw[Uj,Qy]
  calc n<2*b*2^ps.length:=this
   _=b*(2^ps.length*2):=by rw[Qx 2 b,Qm,Qx 2]
def qiH(K:W.Frag):Sp:=λ vs H Q _=>∃(a:Addr)(as:List Addr)(Fs:List (List Pr))(L:List Nat),vs=[.ref a,vS L]/\SqL K H a (as.map V.ref)/\Paired (λ c (F:List Pr)=>SqT K H c (F.map vS)) as Fs/\(∀ F∈Fs,Fit F)/\L.length<=9 /\
 ∀ r H',qi H H'->H' r=some (.lst ((qa8 L Fs).map λ n:Nat=>V.int n))->Q (.ref r) H'
theorem qc6:FnScope ["forms","letters","numbers","form"] ["forms","letters"] (qh vM):=scF
theorem qnF(F:Fun K "numbers_by" "numbers_by" vM f fd)(T:Txt mg)(Gc:Dp P w K mg base 1 fc fdc ["letters"] qaH "row_count")(Gt:Dp P w K mg base 11 ft pD ["form","letters"] (qc1 K) "table_of"):FnOk P w K mg base CX0 12 f fd ["forms","letters"] (qiH K):=by
 refine F.okd qc6 (λ cdv A outer s H vs Q E hr h=>?_);obtain⟨D,as,Fs,L,rfl,hD,hp,hf,R0,q⟩:=h;have G1:Room 1 _:=hr.mono (by decide);refine⟨_,qd (qv (i:=2) qc6.nd rfl (Or.inl rfl) (qr qom (zK (qa qg qb)) (qM Gc.g G1 rfl Gc.m Gc.e Gc.b .nil qA (qa (pv 1) qb))))
  (qd (yg Jl rfl (zz (pv 0)) (qp (i:=3) qc6.nd rfl (Or.inl rfl))
   (qe (qk3 (i:=2) (n:=2) qc6.nd rfl rfl (csc (NY:=["number","truth"]) (o:=2) (caps:=[]) [] rfl (by simp) yw rfl) rfl
    (qft rfl T.zip (qa (pv 2) (qa (qM Gt.g hr rfl Gt.m Gt.e Gt.b .nil qA (qa (pv 3) (qa (pv 1) qb))) qb)))
    (λ C s H fp pins=>qJ (qp (i:=0) qnZ rfl (Or.inl rfl)) (qJ (qp (i:=1) qnZ rfl (Or.inl rfl)) zT)) (λ _=>rfl) (λ _=>rfl)
    (λ C s H fp pins=>zh) (λ C s H fp pins=>qr zR (qr qaU qg (pv 0)) (qbt (jp (pv 1)) qg qg)))))
  (qe (qm (pv 2)))),?_⟩
 have pL:2^L.length<=512:=vZ R0;refine⟨qz (by show 1<=_;decide),λ p0 rE=>?_⟩;refine⟨_,rfl,L,rfl,R0,p0,_,_,rfl,rfl,qc,?_,?_,?_,λ p1 P3=>?_⟩
 ·generalize 2^L.length=N at pL;omega
 ·generalize 2^L.length=N at pL;omega
 ·rw[Zv];exact qz (by show 1*_<=_;omega)
 rw[Zv,qmn];have g3b:=((qi.refl H).to rE (o:=.lst [V.int 0])).to P3 (o:=.lst (List.replicate (2^L.length) (V.int 0)));have e0:(upd (upd H p0 (.lst [V.int 0])) p1 (.lst (List.replicate (2^L.length) (V.int 0)))) p1=some (.lst ((List.replicate (2^L.length) 0).map λ n:Nat=>V.int n)):=by rw[qc,List.map_replicate];rfl
 have lK:=g3b.seq hD;have hp3:Paired (λ c (G:List Pr)=>SqT K _ c (G.map vS)) as Fs:=L2.Paired.mapP hp λ b G e=>g3b.seqT e
 generalize upd (upd H p0 (.lst [V.int 0])) p1 (.lst (List.replicate (2^L.length) (V.int 0)))=H4 at g3b lK hp3 e0 ⊢;refine⟨_,rfl,D,rfl,⟨_,lK⟩,?_⟩;refine jX (K:=K) (xs:=as.map V.ref) (λ j σ H'=>∃(r:Addr)(v6:Option V),σ=[some (.ref D),some (vS L),some (.ref r),v6]/\qi H4 H'/\H' r=some (.lst (((Fs.take j).foldl (λ ns p=>kh ns (zb p L)) (List.replicate (2^L.length) 0)).map λ n:Nat=>V.int n))) ⟨p1,none,rfl,qi.refl _,e0⟩ (λ i σ H' _ ⟨_,_,_,g,_⟩=>g.seq lK) ?_ ?_
 ·rintro j x σ H5 hj ⟨r,v6,rfl,g5,e5⟩;obtain⟨c,hc,rfl⟩:=ql hj;obtain⟨G,hG,hcG⟩:=qbq hp3 j c hc;have fG:Fit G:=hf G (Yl hG);have ln:=qdO (L:=L) (Fs.take j) (List.replicate (2^L.length) 0) (XT ..);have ek:Fs.take (j+1)=Fs.take j++[G]:=qU hG;generalize hns:(Fs.take j).foldl (λ ns p=>kh ns (zb p L)) (List.replicate (2^L.length) 0)=ns at ln e5;refine⟨_,rfl,_,rfl,_,rfl,c,G,L,rfl,g5.seqT hcG,fG.len,R0,λ rt H6 g6 e6=>?_⟩;have tl:=qS G L;refine⟨r,rt,rfl,⟨_,SqL.of (g6 _ _ e5)⟩,⟨_,SqL.of e6⟩,?_⟩;refine qfE (SqL.of (g6 _ _ e5)) (SqL.of e6) (by rw[U5,U5,ln,tl]) (λ i=>((kh ns (zb G L)).take i).map λ n:Nat=>V.int n) rfl (λ i hi=>?_) ?_ ?_
  ·rw[U5] at hi;rw[U5,Ul];exact zd (by omega)
  ·intro i x y H7 D7 Y Z hx hy nL bM iE hY hZ;obtain⟨n,hn,rfl⟩:=ql hx;obtain⟨b,hb,rfl⟩:=ql hy;refine⟨_,_,rfl,_,_,rfl,rfl,⟨rfl,rfl⟩,?_⟩;refine⟨_,rfl,_,_,rfl,rfl,.inl ⟨by decide,by decide⟩,?_⟩;have st:=zL (f:=λ n:Nat=>V.int n) (vF (f:=λ(n:Nat)(b:Bool)=>2*n+if b then 1 else 0) hn hb);refine⟨_,rfl,b,rfl,?_⟩;cases b with
   |true =>
    refine kn ⟨_,_,rfl,rfl,?_⟩;have ev:V.int (2*(n:Int)+1)=V.int (((2*n+if true=true then 1 else 0:Nat)):Int):=by congr 1
    show Y (V.int (2*(n:Int)+1)) H7
    rw[ev];exact hY _ _ bM iE st
   |false =>
    refine yh ⟨_,_,rfl,rfl,?_⟩;have ev:V.int (2*(n:Int)+0)=V.int (((2*n+if false=true then 1 else 0:Nat)):Int):=by congr 1
    show Y (V.int (2*(n:Int)+0)) H7
    rw[ev];exact hY _ _ bM iE st
  ·intro D7 H7 nL iE bM;rw[XL (by rw[U5,qcc G ln,ln];exact Q9 _)] at bM;refine⟨D7,_,rfl,g5.trans (g6.trans iE),?_⟩;rw[bM,ek,Z5,hns];rfl
 ·rintro σ H5 ⟨r,v6,rfl,g5,e5⟩;have lm:(as.map V.ref).length=Fs.length:=by rw[U5,hp.length]
  rw[lm,Ut] at e5;exact⟨_,rfl,q r H5 (g3b.trans g5) e5⟩
theorem qpa(F:Fun K "put_in" "put_in" qd0 f fd)(T:Txt mg)(Gl:Dp P w K mg base 1 fl pH ["form"] (j7 K) "letters_of")(Ga:Dp P w K mg base 2 fa pI ["forms"] (qmm K) "letters_in_all")(Gt:Dp P w K mg base 11 ft pD ["form","letters"] (qc1 K) "table_of")(Gn:Dp P w K mg base 12 fn fdn ["forms","letters"] (qiH K) "numbers_by")(Gf:Dp P w K mg base 11 ff wS ["letters","table"] (qfZ K) "form_of"):FnOk P w K mg base CX0 13 f fd ["form","forms"] (qjj K):=by
 refine F.okd qeh (λ cdv A outer s H vs Q E hr h=>?_);obtain⟨a,d,F,g,rfl,hF,⟨kvs,hd,hk⟩,fF,fg,R0,q⟩:=h;have G1:Room 1 _:=hr.mono (by decide);have eK:Room 2 _:=hr.mono (by decide);have tN:Room 11 _:=hr.mono (by decide);have hu:=kg hr;refine⟨_,qd (qv (i:=2) qeh.nd rfl (Or.inl rfl) (qM Gl.g G1 rfl Gl.m Gl.e Gl.b .nil qA (qa (pv 0) qb)))
  (qd (qfC (i:=3) qeh.nd rfl rfl (csc (NY:=["letter","forms"]) (o:=1) (caps:=[1]) ["forms"] rfl
    (by intro x hx;rw[Zl.mp hx];exact .inl rfl) (j2 rfl rfl rfl yw) rfl) rfl
   (vA (pv 2)) (λ C s H fp pins=>qp (i:=0) qqj rfl (Or.inl rfl)) (λ C s H fp pins=>zh) (λ C s H fp pins=>qkE hu (pv 1) (pv 0) (zC (qa (pv 0) qb)) ⟨rfl,rfl,rfl,rfl⟩))
  (qd (qv (i:=4) qeh.nd rfl (Or.inl rfl) (qM Ga.g eK rfl Ga.m Ga.e Ga.b .nil qA (qa (pv 3) qb)))
  (qd (qv (i:=5) qeh.nd rfl (Or.inr rfl) (qM Gt.g tN rfl Gt.m Gt.e Gt.b .nil qA (qa (pv 0) (qa (pv 2) qb))))
  (qe (qm (qM Gf.g tN rfl Gf.m Gf.e Gf.b .nil qA (qa (pv 4) (qa (zq (csc (NY:=["number","own_table"]) (o:=1) (caps:=[5]) ["own_table"] rfl
    (by intro x hx;rw[Zl.mp hx];exact .inl rfl) (j2 rfl rfl rfl yw) rfl) rfl
   (zz (qM Gn.g hr rfl Gn.m Gn.e Gn.b .nil qA (qa (pv 3) (qa (pv 4) qb)))) (λ C s H fp pins=>qp (i:=0) qqk rfl (Or.inl rfl)) (λ C s H fp pins=>zh) (λ C s H fp pins=>za (r:=qok K) zA (pv 1) (pv 0) (λ _ _=>rfl))) qb)))))))),?_⟩
 have own9:=fF.few;have hs:(qj (qf F)).cps.size=(qf F).length:=qy _;refine⟨_,rfl,a,F,rfl,hF,fF.flat,fF.len,by omega,λ H1 g1=>?_⟩;refine⟨_,rfl,_,rfl,?_⟩;rw[hs];refine ym (qf F).length (λ i ys H2=>∃ as:List Addr,ys=as.map V.ref/\Paired (λ c (G:List Pr)=>SqT K H1 c (G.map vS)∨H2 c=some (.tup (G.map vS))) as (((qf F).take i).map g)) (λ D hD=>⟨[],rfl,.nil⟩) ?_ ?_ (λ H2 sm=>rfl) ?_
 ·rintro i ys H2 hi ⟨as,rfl,hp⟩
  have:=hp.length
  rw[U5,Ul] at this;rw[U5];exact zd (by omega)
 ·rintro i ys H2 D Y Z hi hD p4 sm ⟨as,rfl,hp⟩ hY hZ;refine⟨hi,?_⟩;rintro x H' ⟨rfl,rfl⟩;rw[y8 hi];refine⟨⟨rfl,rfl⟩,?_⟩;have bK:H' d=some (.dK kvs):=sm _ _ (g1 _ _ hd);refine⟨_,rfl,d,rfl,.inl ⟨kvs,.inl bK⟩,_,rfl,_,rfl,qz (by show 1<=_;decide),λ t ht=>?_⟩;have rP:D≠t:=zk p4 ht;have lC:upd H' t (.tup [vS [(qf F)[i]]]) d=some (.dK kvs):=(qi.up ht) _ _ bK;refine⟨_,qaK.k (k:=Sum.inr (qj [(qf F)[i]])) lC,?_⟩;have et:(qf F).take (i+1)=(qf F).take i++[(qf F)[i]]:=Xa hi;have keep:Paired (λ c (G:List Pr)=>SqT K H1 c (G.map vS)∨(upd (upd H' t (.tup [vS [(qf F)[i]]])) D (.lst (as.map V.ref++[(zS kvs (Sum.inr (qj [(qf F)[i]]))).getD (.ref t)]))) c=some (.tup (G.map vS))) as (((qf F).take i).map g):=
   L2.Paired.mapP hp λ b G e=>by
    rcases e with e|e
    ·exact .inl e
    ·right
     have hbD:b≠D:=qgk e p4 (by intro z;cases z);rw[qu hbD,qu (zk e ht)];exact e
  rcases hk (qf F)[i] (Us _) with⟨e1,e2⟩|⟨r,e1,e2⟩
  ·rw[e1] at keep ⊢;refine hY _ _ (by rw[qu rP];exact p4) (sm.to ht) ⟨as++[t],by rw[Jd];rfl,?_⟩;rw[et,Jd];refine qH keep (.cons (.inr ?_) .nil);rw[qu (Vu rP),qc,e2];rfl
  ·rw[e1] at keep ⊢;refine hY _ _ (by rw[qu rP];exact p4) (sm.to ht) ⟨as++[r],by rw[Jd];rfl,?_⟩;rw[et,Jd];exact qH keep (.cons (.inl (g1.seqT e2)) .nil)
 rintro D H2 ys hD sm p4 ⟨as,rfl,hp⟩;rw[Ut] at hp;have B8:Paired (λ c (G:List Pr)=>SqT K H2 c (G.map vS)) as ((qf F).map g):=L2.Paired.mapP hp λ b G e=>e.elim (λ h=>sm.seqT h) (λ h=>SqT.of h)
 have la:as.length=(qf F).length:=by rw[B8.length,U5]
 have A2:=g1.trans sm;refine⟨_,rfl,D,as,_,rfl,SqL.of p4,B8,by rw[U5];omega,λ G hG=>?_,R0,λ H3 g3=>?_⟩
 ·obtain⟨c,hc,rfl⟩:=Qz.mp hG;exact fg c hc
 generalize hL:qZ ((qf F).map g)=L at R0 ⊢;have pL:2^L.length<=512:=vZ R0;have G7:=A2.trans g3;refine⟨_,rfl,_,rfl,a,F,qf F,rfl,G7.seqT hF,fF.len,own9,λ rt H4 g4 e4=>?_⟩;have tl:=qS F (qf F);have wA:=g3.trans g4;refine⟨_,rfl,_,rfl,_,rfl,D,as,(qf F).map g,L,rfl,SqL.of (wA _ _ p4),L2.Paired.mapP B8 (λ b G e=>wA.seqT e),λ G hG=>?_,R0,λ r H5 g5 e5=>?_⟩
 ·obtain⟨c,hc,rfl⟩:=Qz.mp hG;exact fg c hc
 have ln:=qdP L ((qf F).map g);have xY:=qei (L:=L) ((qf F).map g) (List.replicate (2^L.length) 0) 1 (λ n hn=>by rw[X3 hn];decide);rw[U5,Nat.one_mul] at xY;change ∀ n∈qa8 L ((qf F).map g),n<2^(qf F).length at xY
 have wT:Fs.putIn F g=yj L ((qa8 L ((qf F).map g)).map λ n=>(zb F (qf F)).getD n false):=by rw[Fs.putIn,hL]
 generalize qa8 L ((qf F).map g)=ns at ln xY e5 wT;have lN:=G7.trans (g4.trans g5);refine⟨r,rfl,⟨_,SqL.of e5⟩,?_⟩;refine k4 (SqL.of e5) (λ j=>((ns.map λ n=>(zb F (qf F)).getD n false).take j).map V.bl) rfl (λ j hj=>?_) ?_ ?_
 ·rw[U5,Ul,U5];exact zd (by omega)
 ·intro j x H7 D7 Y Z hx nL bM iE hY hZ;obtain⟨n,hn,rfl⟩:=ql hx;have c9:n<(zb F (qf F)).length:=by rw[tl];exact xY n (Yl hn)
  refine⟨⟨rfl,rfl⟩,?_⟩;have at_:=jc (xs:=(zb F (qf F)).map V.bl) (j:=n) (v:=.bl ((zb F (qf F)).getD n false)) (by
   rw[Zt,Xy c9,Xj,Xy c9];rfl)
  refine⟨_,rfl,_,rfl,rt,_,_,_,rfl,rfl,SqL.of (iE _ _ (g5 _ _ e4)),at_,?_⟩;exact hY _ _ bM iE (zL (f:=V.bl) (by rw[Zt,hn];rfl))
 ·intro D7 H7 nL iE bM;rw[XL (by rw[U5,U5];exact Q9 _)] at bM;refine⟨D7,_,L,rfl,SqL.of bM,by rw[U5,ln],R0,by rw[<- hL];exact zc Qc (q0 _),λ r8 H8 g8 e8=>?_⟩;refine q r8 H8 (lN.trans (iE.trans g8)) ?_;rw[e8,wT]
def qgf(K:W.Frag):Sp:=λ vs H Q _=>∃(a:Addr)(F:List Pr)(ls:List Nat)(c:Nat)(b:Bool),vs=[.ref a,vS [c],.bl b]/\SqT K H a (F.map vS)/\Ok9 ls/\On ls F/\∀ r H',qi H H'->H' r=some (.tup ((fixed F c b).map vS))->Q (.ref r) H'
theorem Fit.of9(o:Ok9 ls)(h:On ls F):Fit F:=by
 have h1:=o.le h;have h3:=o.flat h;have h5:=qcA o.rise h.mem
 have:=o.len
 exact⟨by omega,by omega,by omega⟩
theorem qnG:Fit []:=⟨by simp,by simp,by decide⟩
theorem qnH:Fit [[]]:=⟨by simp,by simp,by decide⟩
theorem qej(d:Nat):qf [[d]]=[d]:=kH Qc (λ a b h=>Nat.lt_asymm h) (q0 _) (by simp) λ x=>by rw[zy];simp
theorem qiI(d:Nat):Fit [[d]]:=⟨by simp,by simp,by rw[qej];simp⟩
theorem qmo(c:Nat)(b:Bool)(d:Nat):Fit (qbT c b d):=by
 unfold qbT;split
 ·cases b
  ·exact qnG
  ·exact qnH
 ·exact qiI d
theorem qmp(o:Ok9 ls)(h:On ls F)(c:Nat)(b:Bool):(qZ ((qf F).map (qbT c b))).length<=9:=by
 have:(qZ ((qf F).map (qbT c b))).length<=ls.length:=(jZ o.rise (q0 _) λ x hx=>by
  obtain⟨G,hG,p,hp,aV⟩:=qfO.mp hx;obtain⟨d,hd,rfl⟩:=Qz.mp hG;unfold qbT at hp;split at hp
  ·cases b
   ·simp at hp
   ·simp at hp;rw[hp] at aV;cases aV
  ·simp at hp;rw[hp] at aV;simp at aV;rw[aV];exact qa5 h.mem d hd).length_le
 have:=o.len
 omega
theorem qnI(hp:H p=some (.dK kvs))(h:SqT K H r xs):SqT K (upd H p (.dK kvs')) r xs:=by
 rcases h with(h|⟨o,h⟩)|h
 ·exact .inl (.inl (by rw[qu (qgk h hp (by intro z;cases z))];exact h))
 ·exact .inl (.inr ⟨o,by rw[qu (qgk h hp (by intro z;cases z))];exact h⟩)
 ·exact .inr h
theorem qmq:FnScope ["form","letter","truth"] ["form","letter","truth"] (qh qbd):=scF
theorem qmr(F:Fun K "fixed_at" "fixed_at" qbd f fd)(rC:mg "ALWAYS"=some (.ref al))(rN:∀ H,SqT K H al (([[]]:List Pr).map vS))(Gp:Dp P w K mg base 13 fp pE ["form","forms"] (qjj K) "put_in"):FnOk P w K mg base CX0 14 f fd ["form","letter","truth"] (qgf K):=by
 refine F.okd qmq (λ cdv A outer s H vs Q E hr h=>?_);obtain⟨a,F,ls,c,b,rfl,hF,o7,oF,q⟩:=h;refine⟨_,qe (qm (qM Gp.g hr rfl Gp.m Gp.e Gp.b .nil qA (qa (pv 0) (qa (qiS (qbx (pv 1) (qbt (jp (pv 2)) (zZ (v:=.ref al) rfl rC rfl) (zC qb)) qiR) rfl rfl (by simp) (by decide)) qb)))),?_⟩;refine⟨_,rfl,λ p hp=>?_⟩;have go:∀(r:Addr)(H2:Hp),qi (upd H p (.dK [])) H2->SqT K H2 r ((if b then [[]] else []:List Pr).map vS)->H2 p=some (.dK [])/\∃ kvs:List (Key×V),[(vS [c],V.ref r)]=kvs.map (λ kv=>(kV kv.1,kv.2))/\kvs.length<=15 /\
   qjj K [.ref a,.ref p] (upd H2 p (.dK (qN [] kvs))) Q E:=by
  intro r H2 g2 e2;have iX:=g2 _ _ (qc (H:=H) (a:=p) (o:=.dK []));refine⟨iX,[(.inr (qj [c]),.ref r)],rfl,(show 1<=15 by decide),?_⟩;have g3:qi H (upd H2 p (.dK (qN [] [(.inr (qj [c]),.ref r)]))):=λ x o hx=>by
   have aV:x≠p:=zk hx hp;rw[qu aV];exact g2 _ _ (by rw[qu aV];exact hx)
  have e3:SqT K (upd H2 p (.dK (qN [] [(.inr (qj [c]),.ref r)]))) r ((if b then [[]] else []:List Pr).map vS):=qnI iX e2;refine⟨a,p,F,qbT c b,rfl,g3.seqT hF,⟨_,qc,λ d hd=>?_⟩,Fit.of9 o7 oF,λ d _=>qmo c b d,qmp o7 oF c b,λ r4 H4 g4 e4=>q r4 H4 (g3.trans g4) e4⟩;by_cases uI:d=c
  ·subst uI;refine .inr ⟨r,?_,?_⟩
   ·show zS (yB [] (Sum.inr (qj [d])) (.ref r)) _=_
    simp[yB,zS]
   ·unfold qbT;rw[Vz rfl];exact e3
  ·refine .inl ⟨?_,by unfold qbT;rw[V0 uI]⟩;have K6:(Sum.inr (qj [c]):Key)≠Sum.inr (qj [d]):=λ e=>by
    have:=j3 (Sum.inr.inj e)
    simp at this;exact uI this.symm
   show zS (yB [] (Sum.inr (qj [c])) (.ref r)) _=_
   simp[yB,zS,K6]
 refine⟨_,rfl,_,rfl,b,rfl,?_⟩;cases b with
 |true=>exact kn (go al _ (qi.refl _) (rN _))
 |false=>exact yh ⟨Va _,λ t ht=>go t _ (qi.up ht) (SqT.of qc)⟩
theorem qb5(F:List Pr)(cs:List Nat)(c:Nat):everyOf F (cs++[c])=every1 (everyOf F cs) c:=by unfold everyOf;rw[Z5,Ja,List.foldl_nil]
def qgg(K:W.Frag)(g:List Pr->List Nat->List Pr):Sp:=λ vs H Q _=>∃(a:Addr)(F:List Pr)(ls ms:List Nat),vs=[.ref a,vS ms]/\H a=some (.tup (F.map vS))/\Ok9 ls/\On ls F/\(∀ c∈ms,c∈ls)/\ms.length<=9/\∀ r H',qi H H'->H' r=some (.tup ((g F ms).map vS))->Q (.ref r) H'
theorem qcs:FnScope ["form","letters","letter"] ["form","letters"] (qh qbe):=scF
theorem qkp(F:Fun K "every_of" "every_of" qbe f fd)(Gj:Dp P w K mg base 12 fj fdj ["one","other"] (sp2 K mult) "multiplied")(Gx:Dp P w K mg base 14 fx fdx ["form","letter","truth"] (qgf K) "fixed_at"):FnOk P w K mg base CX0 15 f fd ["form","letters"] (qgg K everyOf):=by
 refine F.okd qcs (λ cdv A outer s H vs Q E hr h=>?_);obtain⟨a,F,ls,ms,rfl,hF,o7,oF,bI,h9,q⟩:=h;have hrj:Room 12 _:=hr.mono (by decide);refine⟨_,qd (yg Jl rfl (vA (pv 1)) (qp (i:=2) qcs.nd rfl (Or.inl rfl))
   (qe (qv (i:=0) qcs.nd rfl (Or.inl rfl) (qM Gj.g hrj rfl Gj.m Gj.e Gj.b .nil qA (qa (qM Gx.g hr rfl Gx.m Gx.e Gx.b .nil qA (qa (pv 0) (qa (pv 2) (qa qgn qb)))) (qa (qM Gx.g hr rfl Gx.m Gx.e Gx.b .nil qA (qa (pv 0) (qa (pv 2) (qa qgn qb)))) qb))))))
  (qe (qm (pv 0))),?_⟩
 have hs:(qj ms).cps.size=ms.length:=qy _;refine⟨_,rfl,_,rfl,?_⟩;refine qcT (λ i σ H1=>∃(r:Addr)(v:Option V),σ=[some (.ref r),some (vS ms),v]/\qi H H1/\H1 r=some (.tup ((everyOf F (ms.take i)).map vS))) ⟨a,none,rfl,qi.refl _,hF⟩ ?_ ?_
 ·rintro i σ H1 hi ⟨r,v,rfl,g1,e1⟩;rw[hs] at hi;rw[y8 hi];have oG:On ls (everyOf F (ms.take i)):=On.everyOf _ oF;have et:everyOf F (ms.take (i+1))=mult (fixed (everyOf F (ms.take i)) ms[i] false) (fixed (everyOf F (ms.take i)) ms[i] true):=by
   rw[Xa hi,qb5,every1]
  rw[et];generalize everyOf F (ms.take i)=G at e1 oG;refine⟨_,rfl,_,rfl,r,G,ls,ms[i],false,rfl,SqT.of e1,o7,oG,λ r1 H2 g2 e2=>?_⟩;refine⟨_,rfl,_,rfl,r,G,ls,ms[i],true,rfl,SqT.of (g2 _ _ e1),o7,oG,λ r2 H3 g3 e3=>?_⟩;refine⟨r1,r2,_,_,ls,rfl,SqT.of (g3 _ _ e2),SqT.of e3,o7,oG.fixed _ _,oG.fixed _ _,(by have h1:=o7.flatFix oG (bI _ (Us hi)) false;have h2:=o7.flatFix oG (bI _ (Us hi)) true;omega),λ r3 H4 g4 e4=>?_⟩;exact⟨r3,_,rfl,g1.trans (g2.trans (g3.trans g4)),e4⟩
 ·rintro σ H1 ⟨r,v,rfl,g1,e1⟩;rw[hs,Ut] at e1;exact⟨_,rfl,q r H1 g1 e1⟩
def qbr(K:W.Frag):Sp:=λ vs H Q _=>∃(a:Addr)(ns:List Int)(gv gp:List Nat),vs=[.ref a,vS gv,vS gp]/\Scr K H a ns/\gv.Sublist [97,98,99]/\gp.Sublist [120,121,122] /\
 ∀ r ps (xs:List (Tr×Tr)) H',qi H H'->H r=none->H' r=some (.lst (ps.map V.ref))->Paired (yt H') ps xs->xs.length<=3->(∀ x∈xs,x.1.Of (gv++gp)/\x.2.Of (gv++gp)/\(x.1.wt:Int)<=6/\(x.2.wt:Int)<=6)->Q (.ref r) H'
theorem jO:FnScope [sA1,sA5,sA6,sA2,"_law_kept","_law_wish"] [sA1,sA5,sA6] (qh jy):=scF
theorem qhw(F:Fun K sB5 sB5 jy f fd)(T:Txt mg)(I0:Dp P w K mg base 3 cI cJ [sA1,sA0,sC7,sA7] (qd9 K) sC0)(A3:Dp P w K mg base 22 L9 M4 [sA2,sA5,sA6] (qb4 K) sB9): FnOk P w K mg base CX0 23 f fd [sA1,sA5,sA6] (qbr K):=by
 refine F.okd jO (λ cdv A outer s H vs Q E hr h=>?_);obtain⟨a,ns,gv,gp,rfl,hS,S1,N9,q⟩:=h;refine⟨_,(qd (qv (i:=3) jO.nd rfl (Or.inl rfl) (zf I0 hr (qa (pv 0) (qa (qr qP (pv 1) (pv 2)) (qa qg (qa qg qb))))))
  (qd (qv (i:=4) jO.nd rfl (Or.inl rfl) (zK qb))
  (qd (yg Jl rfl (zz (pv 3)) (qp (i:=5) jO.nd rfl (Or.inl rfl))
  (qe (zg (jp (qB (qcx rfl) (by rfl) T.all qlp (qa (zq (csc (NY:=["_law_here"]) (o:=1) (caps:=[]) [] rfl
    (by simp) yw rfl) rfl
    (zz (zf A3 hr (qa (qr qhO (pv 4) (zK (qa (pv 5) qb))) (qa (pv 1) (qa (pv 2) qb))))) (λ C0 s H fp pins=>qp (i:=0) (show(["_law_here"]:List Str).Nodup by decide +kernel) rfl (Or.inl rfl)) (λ C0 s H fp pins=>zh) (λ C0 s H fp pins=>(ya qaN (qB (r:=qnS K) qC (by rfl) T.len J7 (qa (pv 0) qb)) qg (qD _)))) qb)))
   (qe (yn (yo XE X1 X2 zG (pv 4) (qa (pv 5) qb)))) qG)))
  (qe (qm (pv 4)))))),?_⟩
 obtain⟨iS,nA,l9⟩:=jo S1 N9;have dX:gv.length<=3:=S1.length_le;have W0:gp.length<=3:=N9.length_le;refine⟨_,rfl,_,rfl,_,rfl,_,_,rfl,rfl,by rw[qy,qy];exact qz (by omega),?_⟩;rw[yp];refine⟨a,ns,gv++gp,3,6,rfl,hS,by omega,by decide,by decide,by decide,by decide,λ r ps xs H2 g2 e2 sC l2 M8=>?_⟩;refine⟨Va _,λ kp gV=>?_⟩;have g3:=qi.up gV (o:=.lst []);have g03:=g2.trans g3;have nk:H kp=none:=qaG g2 gV;have nrk:r≠kp:=λ e=>by rw[e,gV] at e2;cases e2
 have pr3:=qQ (λ p x h=>yt.mono h (zj g3)) sC;have e23:=g3 _ _ e2;have mZ:ps.length=xs.length:=sC.length;refine⟨_,rfl,r,rfl,⟨_,SqL.of e23⟩,?_⟩;refine jX (K:=K) (xs:=ps.map V.ref) (λ i σ H'=>∃(qs:List Addr)(ys:List (Tr×Tr))(v5:Option V),σ=[some (.ref a),some (vS gv),some (vS gp),some (.ref r),some (.ref kp),v5]/\But kp (upd H2 kp (.lst [])) H'/\H' kp=some (.lst (qs.map V.ref))/\Paired (yt H') qs ys/\ys.length<=i/\∀ y∈ys,y∈xs) ⟨[],[],none,rfl,But.refl _ _,qc,.nil,Q9 _,by simp⟩ (λ i σ H' hi ⟨_,_,_,_,b,_⟩=>SqL.of (b _ _ nrk e23)) ?_ ?_
 ·rintro i y σ H4 hy ⟨qs,ys,v5,rfl,b4,e4,pq,ly,my⟩;obtain⟨p,hp,rfl⟩:=ql hy;obtain⟨x,hx,wp⟩:=ze pr3 i p hp;have hi:=jt hx;have T34:zE (upd H2 kp (.lst [])) H4:=λ z o h=>b4 _ _ (λ e=>by rw[e,qc] at h;cases h) h
  have wp4:=wp.mono T34;have lq:qs.length=ys.length:=pq.length;refine⟨_,rfl,_,rfl,qz (by show 1<=_;decide),λ p1 P3=>?_⟩;have g5:=qi.up P3 (o:=.lst [.ref p]);refine⟨kp,p1,_,_,rfl,rfl,g5 _ _ e4,qc,by rw[U5];exact qz (by show _+1<=_;omega),λ l hl=>?_⟩;have g6:=g5.to hl (o:=.lst (qs.map V.ref++[.ref p]));have T6:=zj g6;refine⟨_,rfl,_,rfl,l,qs++[p],ys++[x],gv,gp,rfl,by rw[qc,Jd];rfl,qH (qQ (λ p x h=>yt.mono h T6) pq) (.cons (wp4.mono T6) .nil),by rw[Ze,XW];omega,λ z hz=>?_,S1,N9,λ r' as H7 g7 nr' e7 pa=>?_⟩
  ·have hz':z∈xs:=(U3.mp hz).elim (λ h=>my z h) (λ h=>by rw[Zl.mp h];exact Yl hx);obtain⟨b1,b2,b3,b4⟩:=M8 z hz';have h1:=z.1.ht_wt;have h2:=z.2.ht_wt;exact⟨b1,b2,by omega,by omega⟩
  have g47:=g6.trans g7;have h8v:2^gv.length<=8:=Ys (n:=2) (by decide) dX;have las:as.length=2^gv.length:=by rw[pa.length,Z4]
  refine⟨r',rfl,⟨_,SqL.of e7⟩,?_⟩;refine ym (as.map V.ref).length (λ j zs H'=>∃ bs:List Bool,zs=bs.map V.bl/\bs.length=j) (λ D hD=>⟨[],rfl,rfl⟩) (λ j zs H' hj ⟨bs,e,hl⟩=>by rw[e,U5];rw[U5] at hj;exact zd (by omega)) ?_ (λ H' sm=>⟨_,sm.seq (SqL.of e7),Q9 _⟩) ?_
  ·rintro j zs H' D Y Z hj hD S9 sm ⟨bs,rfl,hl⟩ hY hZ;refine⟨⟨_,_,sm.seq (SqL.of e7),Xy hj⟩,?_⟩;rintro w' pW ⟨rfl,hw⟩;have ev:=hw _ (sm.seq (SqL.of e7));obtain⟨c,hc,rfl⟩:=ql ev;obtain⟨N,hN,l',el',_⟩:=ze pa j c hc;refine⟨⟨rfl,rfl⟩,?_⟩;refine⟨_,rfl,c,_,rfl,.inl (SqL.of (sm _ _ el')),_,_,rfl,rfl,?_⟩;exact hY _ _ S9 sm ⟨bs++[_],by rw[Jd];rfl,by rw[Ze,XW,hl]⟩
  rintro D H8 zs hD sm rO ⟨bs,rfl,hl⟩;refine⟨D,bs,rfl,SqL.of rO,_,rfl,?_⟩;have nM:=g47.trans sm;have e48:=nM _ _ e4;refine kq (λ c=>?_) (λ c=>?_)
  ·refine⟨_,rfl,.inl ⟨rfl,_,SqL.of e48⟩,_,rfl,kp,_,_,rfl,rfl,e48,by rw[U5];exact zd (by omega),?_⟩;have T8:=(zj nM).trans (zE.updL e48 (o:=.lst (qs.map V.ref++[.ref p])));refine⟨qs++[p],ys++[x],_,rfl,(b4.trans (zu nM)).upd,by rw[qc,Jd];rfl,qH (qQ (λ p x h=>yt.mono h T8) pq) (.cons (wp4.mono T8) .nil),by rw[Ze,XW];omega,λ z hz=>?_⟩;exact(U3.mp hz).elim (λ h=>my z h) (λ h=>by rw[Zl.mp h];exact Yl hx)
  ·exact⟨qs,ys,_,rfl,b4.trans (zu nM),e48,qQ (λ p x h=>yt.mono h (zj nM)) pq,by omega,my⟩
 ·rintro σ H4 ⟨qs,ys,v5,rfl,b4,e4,pq,ly,my⟩;rw[U5,mZ] at ly;exact⟨_,rfl,q kp qs ys H4 (b4.same g03 nk) nk e4 pq (by omega) λ y hy=>M8 y (my y hy)⟩
def qiJ(K:W.Frag):Sp:=λ vs H Q _=>∃(a:Addr)(F:List Pr)(ls:List Nat)(c:Nat),vs=[.ref a,vS [c]]/\H a=some (.tup (F.map vS))/\Ok9 ls/\On ls F/\c∈ls/\∀ r H',qi H H'->H' r=some (.tup ((every1 F c).map vS))->Q (.ref r) H'
theorem qms(F:List Pr)(c:Nat):everyOf F [c]=every1 F c:=by unfold everyOf;rw[Ja,List.foldl_nil]
theorem qnJ:FnScope ["form","gap"] ["form","gap"] (qh qcj):=scF
theorem qnK(F:Fun K "rest_of" "rest_of" qcj f fd)(T:Txt mg)(r9:Dp P w K mg base 15 G8 G9 ["form","letters"] (qgg K everyOf) "every_of"): FnOk P w K mg base CX0 16 f fd ["form","gap"] (qiJ K):=by
 refine F.okd qnJ (λ cdv A outer s H vs Q E hr h=>?_);obtain⟨a,F,ls,c,rfl,hF,o7,oF,hc,q⟩:=h;refine⟨_,(qe (qm (zf r9 hr (qa (pv 0) (qa (pv 1) qb))))),?_⟩;exact⟨_,rfl,_,rfl,a,F,ls,[c],rfl,hF,o7,oF,(λ d hd=>by rw[Zl.mp hd];exact hc),by simp,λ r H' g e=>q r H' g (by rw[<- qms];exact e)⟩
theorem qhx:∀{a b:List Nat}{r q:List Bool}{c:Nat},a.length=r.length->c∈a->asg (a++b) (r++q) c=asg a r c
 | [],b,r,q,c,_,h=>by simp at h
 |d::a,b,[],q,c,hl,_=>by simp at hl
 |d::a,b,x::r,q,c,hl,h=>by
  by_cases e:d=c
  ·subst e;rw[Uv,Uv,qac,qac]
  ·rw[Uv,Uv,j5 _ _ _ e,j5 _ _ _ e];refine qhx (by simpa using hl) ?_;rcases Qd.mp h with h | h
   ·exact absurd h.symm e
   ·exact h
theorem qfa:∀{a b:List Nat}{r q:List Bool}{c:Nat},a.length=r.length->c∉a->asg (a++b) (r++q) c=asg b q c
 | [],b,[],q,c,_,_=>rfl
 | [],b,_::_,q,c,hl,_=>by simp at hl
 |d::a,b,[],q,c,hl,_=>by simp at hl
 |d::a,b,x::r,q,c,hl,h=>by
  have e:¬ d=c:=λ e=>h (e ▸ Zb ..)
  rw[Uv,Uv,j5 _ _ _ e];exact qfa (by simpa using hl) λ m=>h (Yj _ m)
noncomputable def qgh(gv gp:List Nat)(F:List Pr):List Bool:=(List.range (2^gv.length)).map λ N=>decide (zw gv gp F N=[])
theorem vh(gv gp:List Nat)(F:List Pr):(qgh gv gp F).length=2^gv.length:=by unfold qgh;rw[U5,Z4]
theorem qgi(h:N<2^gv.length):(qgh gv gp F).getD N false=decide (zw gv gp F N=[]):=by
 unfold qgh;rw[Xj,Zt,Y7 h];rfl
theorem qkq:zw gv gp F N=[] ↔ ∀ M,M<2^gp.length->qt (qcI gv gp N M) F=true:=by
 unfold zw;rw[List.filter_eq_nil_iff];constructor
 ·intro h M hM
  have:=h M (Ju.mpr hM)
  unfold ja at this;simpa using this
 ·intro h M hM
  have:=h M (Ju.mp hM)
  unfold ja;rw[this];decide
theorem qfb {cs:List Nat}(hr:(gv++gp).Pairwise (·<·))(oF:On (gv++gp) F)(hc:∀ c,c∈cs ↔ c∈gp):everyOf F cs=yj gv (qgh gv gp F):=by
 have nd:=zc Qc hr;obtain⟨sH,iJ,dis⟩:=Zy.mp nd;have oN:gv.Pairwise (·<·):=(Yo.mp hr).1;refine qgZ oF.vf (qav oN _) λ ρ=>?_
 have c9:=je ρ gv;rw[yu ρ (vh gv gp F),yV ρ gv _ (vh gv gp F),qgi c9,Zr,qkq];have key:∀(τ:Nat->Bool)(M:Nat),(∀ c∈gv,τ c=ρ c)->(∀ c∈gp,asg gp (qI gp.length M) c=τ c)->qt τ F=qt (qcI gv gp (zX ρ 0 gv) M) F:=by
  intro τ M h1 h2;refine qcC λ p hp c hcp=>?_
  have lv:gv.length=(qI gv.length (zX ρ 0 gv)).length:=(zP _ _).symm;unfold qcI;by_cases hg:c∈gv
  ·rw[qhx lv hg,qdU ρ sH c hg,h1 c hg]
  ·have B8:c∈gp:=(U3.mp (oF.mem p hp c hcp)).elim (λ m=>absurd m hg) id;rw[qfa lv hg,h2 c B8]
 constructor
 ·intro h τ hn;rw[key τ (zX τ 0 gp) (λ c hg=>hn c λ m=>dis c hg c ((hc c).mp m) rfl) (λ c hg=>qdU τ iJ c hg)];exact h _ (je τ gp)
 ·intro h M hM
  have:=h (λ c=>if c∈cs then asg gp (qI gp.length M) c else ρ c) (λ c hn=>by show(if c∈cs then _ else _)=_;rw[V0 hn])
  rw[key _ M (λ c hg=>by show(if c∈cs then _ else _)=_;rw[V0 λ m=>dis c hg c ((hc c).mp m) rfl]) (λ c hg=>by show _=(if c∈cs then _ else _);rw[Vz ((hc c).mpr hg)])] at this;exact this
theorem qnL(oN:gv.Pairwise (·<·)):yj gv (qgh gv gp F)=[] ↔ ∀ N,N<2^gv.length->zw gv gp F N≠[]:=by
 constructor
 ·intro h N hN e
  have:=qj0 oN (vh gv gp F) hN
  rw[h,qgi hN,e] at this;cases this
 ·intro h;refine(qav oN _).only qhQ λ ρ=>?_
  rw[yu ρ (vh gv gp F),yV ρ gv _ (vh gv gp F),qgi (je ρ gv),Jm (h _ (je ρ gv))];rfl
def qjk(K:W.Frag):Sp:=λ vs H Q _=>∃(a:Addr)(ns:List Int),vs=[.ref a]/\SqL K H a (ns.map V.int)/\ns.length<=63/\∀ H',Q (.bl true) H'
theorem qkr{c:Prop}[Decidable c]{A B:Prop}(G R:Option V->Hp->Prop)(hA:c->(∀ p H,G p H->R p H)->A)(hB:¬ c->(∀ p H,G p H->R p H)->B)(hC:∀ p H,G p H->R p H):if c then A else B:=by
 by_cases h:c
 ·rw[Vz h];exact hA h hC
 ·rw[V0 h];exact hB h hC
theorem jE:FnScope [sA1,sA5,sA6,sA2,"_law_left","_law_task","_law_due","_law_turn","_law_gap"] [sA1] (qh qe0):=scF
theorem qpb(F:Fun K "law" "law" qe0 f fd)(T:Txt mg)(C3:mg "int"=none)(E8:Dp P w K mg base 2 aB aG [sA1] (qir K) sB6)(D4:Dp P w K mg base 23 T0 T4 [sA1,sA5,sA6] (qbr K) sB5)(i6:Dp P w K mg base 1 C6 C7 [sA1,sB3] (j9 K) sB0)(x5:Dp P w K mg base 2 P5 P7 [sA1,sD0,sA7,sA0] (qf9 K) sC1)(E7:Dp P w K mg base 21 W9 aE [sA2] (qcq) sB7)(A3:Dp P w K mg base 22 L9 M4 [sA2,sA5,sA6] (qb4 K) sB9)(R3:Dp P w K mg base 2 lP lW [sA0,sC2] (qgc K) sC8)(M6:Dp P w K mg base 16 fQ gG ["form","gap"] (qiJ K) "rest_of")(r9:Dp P w K mg base 15 G8 G9 ["form","letters"] (qgg K everyOf) "every_of")(p7:Dp P w K mg base 13 K9 L0 ["task"] (qef b0) "widest_filling")(c6:TaskC K b0)(aN:Mk K b0 M0)(aP:FnOk P w K mg base CX0 35 M0 P9 ["self","givens","gaps","wishes"] (qlT K b0))(aL:qk K P9 ["self","givens","gaps","wishes"] [])(dQ:mg "Task"=some (.ref b0))(x4:Meth K b0 "fault" p5)(x6:FnOk P w K mg base CX0 1 p5 w9 ["self"] (qjg b0))(x3:qk K w9 ["self"] []): FnOk P w K mg base CX0 37 f fd [sA1] (qjk K):=by
 refine F.okd jE (λ cdv A outer s H vs Q E hr h=>?_);obtain⟨a,ns,rfl,hS,h63,q⟩:=h;have hu:=Nat.lt_of_succ_lt (kg hr);have W1:Room 1 _:=hr.mono (by decide);have tM:Room 36 _:=hr.mono (by decide);refine⟨_,(qd (qdb (zf E8 hr (qa (pv 0) qb)) (qda (n:=2) rfl (qJ (qp (i:=1) jE.nd rfl (Or.inl rfl)) (qJ (qp (i:=2) jE.nd rfl (Or.inl rfl)) zT))))
  (qd (qv (i:=3) jE.nd rfl (Or.inl rfl) (zf D4 hr (qa (pv 0) (qa (pv 1) (qa (pv 2) qb)))))
  (qd (zg (qx zp (qr zr (zf i6 hr (qa (pv 0) (qa qg qb))) qg) qg (qD _))
   (qd (qv (i:=4) jE.nd rfl (Or.inl rfl) (zf x5 hr (qa (pv 0) (qa qg (qa (qr zR qg (qr zr (zf i6 hr (qa (pv 0) (qa qg qb))) qg)) (qa (qr qP (pv 1) (pv 2)) qb))))))
  (qe (yn (yo XE X1 X2 zG (pv 3) (qa (zC (qa (pv 4) (qa (zf x5 hr (qa (pv 0) (qa qg (qa (qr zR qg (qr zr (zf i6 hr (qa (pv 0) (qa qg qb))) qg)) (qa (qr qP (pv 1) (pv 2)) qb))))) qb))) qb))))) qG)
  (qd (qv (i:=5) jE.nd rfl (Or.inl rfl) (qas aN aP tM (by rfl) dQ aL .nil qA (qa (pv 1) (qa (pv 2) (qa (zf E7 hr (qa (pv 3) qb)) qb)))))
  (qd (qv (i:=6) jE.nd rfl (Or.inl rfl) (zf R3 hr (qa (pv 1) (qa (zq (csc (NY:=["_law_here"]) (o:=1) (caps:=[]) [] rfl
    (by simp) yw rfl) rfl
    (zz (zf A3 hr (qa (pv 3) (qa (pv 1) (qa (pv 2) qb))))) (λ C0 s H fp pins=>qp (i:=0) (show(["_law_here"]:List Str).Nodup by decide +kernel) rfl (Or.inl rfl)) (λ C0 s H fp pins=>zh) (λ C0 s H fp pins=>(ya zp (qB (r:=qnS K) qC (by rfl) T.len J7 (qa (pv 0) qb)) qg (qD _)))) qb))))
  (qd (qv (i:=4) jE.nd rfl (Or.inl rfl) (qE (pv 5) c6.cls x4 x6 W1 x3 .nil qA))
  (qd (qv (i:=7) jE.nd rfl (Or.inl rfl) (qr zr (zf i6 hr (qa (pv 0) (qa qg qb))) (qB (qjr rfl) (by rfl) T.max qoX (qa qg (qa (qB yb (by rfl) T.len J7 (qa (pv 2) qb)) qb)))))
  (qd (yg Jl rfl (vA (qr qP (qby qm1 (pv 2) (qcR (pv 7)) qcQ) (qby qm0 (pv 2) qcQ (qcR (pv 7))))) (qp (i:=8) jE.nd rfl (Or.inl rfl))
  (qe (qv (i:=4) jE.nd rfl (Or.inl rfl) (zf M6 hr (qa (pv 4) (qa (pv 8) qb))))))
  (qd (zg (PW.pt (qev (qx (qfw qdw hu) (pv 4) (pv 6) (qD _))
   (qb6 (qx (qfw qdw hu) (zf r9 hr (qa (qE (pv 5) c6.cls x4 x6 W1 x3 .nil qA) (qa (pv 2) qb))) (pv 6) (qD _)))))
   (qe (qm qgn)) qG)
  (qe (qm (ya zp (ya qhD (zf p7 hr (qa (pv 5) qb)) kt rfl) (ya (qfw qdw hu) (pv 6) (zC qb) (qD _)) (qD _))))))))))))),?_⟩
 refine⟨_,rfl,a,ns,rfl,⟨hS,h63⟩,λ rl gv gp H1 g1 el S1 N9=>?_⟩;refine⟨rl,_,rfl,SqT.of el,rfl,_,_,rfl,_,_,rfl,rfl,?_⟩;obtain⟨iS,nA,l9⟩:=jo S1 N9;have dX:gv.length<=3:=S1.length_le;have W0:gp.length<=3:=N9.length_le;have h8v:2^gv.length<=8:=Ys (n:=2) (by decide) dX;have oN:gv.Pairwise (·<·):=(Yo.mp iS).1;have O6:Scr K H1 a ns:=⟨g1.seq hS,h63⟩;have lsm:(qj gv).length+(qj gp).length<=sizeLine:=by rw[qy,qy];exact qz (by omega)
 refine⟨_,rfl,_,rfl,_,rfl,a,ns,gv,gp,rfl,O6,S1,N9,λ r ps0 xs0 H20 g20 nr e20 pr0 l0 ok0=>?_⟩;refine⟨_,rfl,a,ns,160,rfl,O6.mono g20,by decide,by decide,λ z H3 g3 z0 z1=>?_⟩;have G7:=g20.trans g3;have e3:=g3 _ _ e20;have pr3:=qQ (λ p x h=>yt.mono h (zj g3)) pr0;refine⟨_,_,rfl,rfl,(show(0:Int)<2 by decide),rfl,_,rfl,?_⟩;refine qkr (λ v H'=>qi H1 H'/\∃(ps:List Addr)(xs:List (Tr×Tr)),H' r=some (.lst (ps.map V.ref))/\Paired (yt H') ps xs/\xs.length<=4/\∀ x∈xs,x.1.Of (gv++gp)/\x.2.Of (gv++gp)/\(x.1.wt:Int)<=6/\(x.2.wt:Int)<=6) ?R (λ c C=>?hA) (λ c C=>?hB) ?hC
 case hA =>
  refine⟨_,rfl,_,rfl,a,ns,161,rfl,O6.mono G7,by decide,by decide,λ y H4 g4 y0 y1=>?_⟩;have c0:=Je y (b:=6) (by decide);have c1:=Zm y (b:=6) (by decide);refine⟨_,_,rfl,rfl,(show(0:Int)<6 by decide),_,_,rfl,rfl,_,rfl,_,rfl,_,_,rfl,rfl,lsm,?_⟩;rw[yp];have rQ:=G7.trans g4;refine⟨a,ns,170,1+y % 6,gv++gp,rfl,O6.mono rQ,by decide,by decide,by omega,by omega,by omega,λ t v H5 g5 tr of wt=>?_⟩;have fK:=g4.trans g5;have e5:=fK _ _ e3;have lN:=G7.trans fK;refine⟨_,rfl,.inl ⟨rfl,_,SqL.of e5⟩,?_⟩;refine⟨_,rfl,_,rfl,_,rfl,a,ns,162,rfl,O6.mono lN,by decide,by decide,λ y' H6 g6 y0' y1'=>?_⟩;have d0:=Je y' (b:=6) (by decide);have d1:=Zm y' (b:=6) (by decide);refine⟨_,_,rfl,rfl,(show(0:Int)<6 by decide),_,_,rfl,rfl,_,rfl,_,rfl,_,_,rfl,rfl,lsm,?_⟩;rw[yp];refine⟨a,ns,180,1+y' % 6,gv++gp,rfl,O6.mono (lN.trans g6),by decide,by decide,by omega,by omega,by omega,λ t2 v2 H7 g7 tr2 of2 wt2=>?_⟩;refine⟨qz (by show 2<=_;decide),λ p hp=>?_⟩;have g57:=g6.trans g7;have g5p:=g57.to hp (o:=.tup [v,v2]);have e7:=g5p _ _ e5;have lp:ps0.length=xs0.length:=pr0.length;refine⟨r,_,_,rfl,rfl,e7,by rw[U5];exact zd (by omega),?_⟩;obtain⟨w',dY⟩:∃ w',w'=some v:=⟨_,rfl⟩;rw[<- dY];have uT:=zE.updL e7 (o:=.lst (ps0.map V.ref++[.ref p]));have cT:=(zj (fK.trans g5p)).trans uT;have cT5:=(zj g5p).trans uT;have cT7:=(zj (qi.up hp (o:=.tup [v,v2]))).trans uT;refine C w' _ ⟨(lN.trans g5p).at nr,ps0++[p],xs0++[(t,t2)],by rw[qc,Jd];rfl,qH (qQ (λ z w h=>yt.mono h cT) pr3) (.cons ⟨v,v2,uT _ _ qc,tr.mono cT5,tr2.mono cT7⟩ .nil),by rw[Ze,XW];omega,λ x hx=>?_⟩;rcases U3.mp hx with hx|hx
  ·exact ok0 x hx
  ·rw[Zl.mp hx];exact⟨of,of2,by show(t.wt:Int)<=6;omega,by show(t2.wt:Int)<=6;omega⟩
 case hB=>exact C none H3 ⟨G7,ps0,xs0,e3,pr3,by omega,ok0⟩
 rintro v4 H2 ⟨A2,ps,xs,e2,sC,l3,M8⟩;have hof:∀ x∈xs,x.1.Of (gv++gp)/\x.2.Of (gv++gp):=λ x hx=>⟨(M8 x hx).1,(M8 x hx).2.1⟩
 refine⟨_,rfl,_,rfl,_,rfl,r,ps,xs,rfl,e2,sC,by omega,λ x hx=>?_,λ rw H4 g4 e4=>?_⟩
 ·obtain⟨b1,b2,b3,b4⟩:=M8 x hx;exact⟨b1.upL l9,b2.upL l9,by omega,by omega⟩
 refine λ x dx hx R7 K6=>?_
 have e5:upd (upd H4 dx (.own x)) x (.ins b0 dx []) rw=some (.lst (xs.map λ x=>vS (qea x))):=by
  rw[qu (λ q=>by rw[q,hx] at e4;cases e4),qu (λ q=>by rw[q,R7] at e4;cases e4)];exact e4
 refine⟨x,dx,rw,gv,gp,xs.map asW,rfl,qc,SqL.of (by rw[qiz];exact e5),S1,N9,by rw[U5];omega,λ y hy=>?_,λ a1 a2 a3 qs H5 b5 na1 na2 tk=>⟨rfl,?_⟩⟩
 ·obtain⟨z,hz,rfl⟩:=Qz.mp hy;obtain⟨b1,b2,b3,b4⟩:=M8 z hz;exact qo0 b1 b2 (by omega) (by omega)
 have g5:=qkg hx R7 b5;have rB:On (gv++gp) (q8 ((xs.map asW).map Wsh.side)):=qmd hof;have tok:TkOk gv gp (xs.map asW):=⟨S1,N9,rB⟩;have e25:=(g4.trans g5) _ _ e2;have pr5:=qQ (λ p x h=>yt.mono h (zj (g4.trans g5))) sC;have okx:∀ x∈xs,x.1.Of (gv++gp)/\x.2.Of (gv++gp)/\x.1.ht<=20/\x.2.ht<=20:=λ x hx=>by
  obtain⟨b1,b2,b3,b4⟩:=M8 x hx;have h1:=x.1.ht_wt;have h2:=x.2.ht_wt;exact⟨b1,b2,by omega,by omega⟩
 have g15':qi H1 H5:=A2.trans (g4.trans g5);generalize hF:q8 ((xs.map asW).map Wsh.side)=FF at rB;refine⟨_,rfl,?_⟩;refine⟨_,rfl,_,rfl,_,rfl,r,ps,xs,gv,gp,rfl,e25,pr5,by omega,okx,S1,N9,λ r' as H7 g7 nr' e7 pa=>?_⟩;rw[hF] at pa;have las:as.length=2^gv.length:=by rw[pa.length,Z4]
 refine⟨r',rfl,⟨_,SqL.of e7⟩,?_⟩;refine k4 (SqL.of e7) (λ j=>((List.range (2^gv.length)).take j).map λ N=>V.bl (decide (zw gv gp FF N=[]))) rfl (λ j hj=>?_) ?_ ?_
 ·rw[U5,Ul,Z4];exact zd (by omega)
 ·intro j v H8 D Y Z hv hD rO sm hY hZ;obtain⟨c,hc,rfl⟩:=ql hv;obtain⟨N,uQ,l,el,hl⟩:=ze pa j c hc;refine⟨⟨rfl,rfl⟩,?_⟩;refine⟨_,rfl,c,_,rfl,.inl (SqL.of (sm _ _ el)),rfl,?_⟩;rw[show decide (V.int ((l.length:Nat):Int)=V.int 0)=decide (zw gv gp FF N=[]) from U1.mpr (by rw[<- hl,V.int.injEq];omega)];exact hY _ _ rO sm (zL (f:=λ N=>V.bl (decide (zw gv gp FF N=[]))) uQ)
 intro D H8 hD sm rO;rw[U5,las,XL (by rw[Z4];exact Q9 _)] at rO;refine⟨D,qgh gv gp FF,gv,rfl,SqL.of (by rw[rO];unfold qgh;rw[Q1];rfl),vh gv gp FF,oN,by omega,λ rd H9 g9 e9=>?_⟩;have g59:=(g7.trans sm).trans g9;have tk9:=tk.mono g59;refine⟨_,rfl,x,dx,_,rfl,tk9.ins,rfl,x,gv,gp,_,dx,a1,a2,a3,qs,rfl,tk9,λ HA gA=>?_⟩;have g5A:=g59.trans gA;have g1A:=g15'.trans g5A;refine⟨_,rfl,a,ns,163,rfl,O6.mono g1A,by decide,by decide,λ z2 HB gB z20 z21=>?_⟩;have tY:(qj gp).length=gp.length:=qy gp;refine⟨_,rfl,_,rfl,by rw[tY];exact qz (by omega),_,_,rfl,?_⟩;rw[tY];obtain⟨m,hm⟩:∃ m:Int,m=if (gp.length:Int) > 1 then(gp.length:Int) else 1:=⟨_,rfl⟩
 rw[<- hm];have m1:1<=m:=by rw[hm];split <;> omega
 refine⟨_,_,rfl,rfl,(show(0:Int)<m by omega),?_⟩;have t0:=Je z2 (b:=m) (by omega);have t1:=Zm z2 (b:=m) (by omega);obtain⟨t,ht⟩:∃ t:Nat,((t:Nat):Int)=z2 % m:=⟨(z2 % m).toNat,Int.toNat_of_nonneg t0⟩;rw[<- ht] at t1;have tle:t<=gp.length:=by rw[hm] at t1;split at t1 <;> omega
 obtain⟨CS,hCS⟩:∃ CS,CS=gp.drop t++gp.take t:=⟨_,rfl⟩;have mCS:∀ c,c∈CS ↔ c∈gp:=λ c=>by
  rw[hCS,U3];constructor
  ·rintro(h | h)
   ·exact Yp h
   ·exact Yq h
  ·intro h;rw[<- XZ t gp] at h;exact(U3.mp h).symm
 refine⟨_,rfl,_,rfl,_,rfl,qj gp,t,rfl,congrArg some ht.symm,rfl,by rw[tY];exact tle,by rw[tY];omega,?_⟩;refine⟨_,rfl,_,rfl,_,rfl,qj gp,t,rfl,rfl,congrArg some ht.symm,by rw[tY];omega,?_⟩;refine⟨_,_,rfl,rfl,?_,?_⟩
 ·rw[qy,qy,Um,Ul];exact qz (by show _+_<=_;have:(cs (qj gp)).length=gp.length:=rfl;omega)
 rw[yp];rw[show(cs (qj gp)).drop t++(cs (qj gp)).take t=CS by rw[hCS];rfl];have hsC:(qj CS).cps.size=CS.length:=qy CS;have gAB:=gA.trans gB;have g5B:=g59.trans gAB;have ok9:Ok9 (gv++gp):=⟨iS,by omega⟩;have faB:HB a3=some (.tup (FF.map vS)):=by rw[<- hF];exact(tk.mono g5B).fault
 refine⟨_,rfl,?_⟩;refine qcT (λ i σ H'=>∃(b:Addr)(v8:Option V),σ=[some (.ref a),some (vS gv),some (vS gp),some (.ref r),some (.ref b),some (.ref x),some (.ref rd),some (.int (z2 % m)),v8]/\qi HB H'/\H' b=some (.tup ((everyOf FF (CS.take i)).map vS))) ⟨a3,none,rfl,qi.refl _,faB⟩ ?_ ?_
 ·rintro i σ HC hi ⟨b,v8,rfl,gC,eC⟩;rw[hsC] at hi;rw[y8 hi];refine⟨_,rfl,_,rfl,b,everyOf FF (CS.take i),gv++gp,CS[i],rfl,eC,ok9,On.everyOf _ rB,U3.mpr (.inr ((mCS _).mp (Us hi))),λ r' HD gD eD=>?_⟩;refine⟨r',_,rfl,gC.trans gD,?_⟩;rw[eD,qU (Xy hi),qb5]
 rintro σ HC ⟨b,v8,rfl,gC,eC⟩;rw[hsC,Ut,qfb iS rB mCS] at eC;have g5C:=g5B.trans gC;have edC:=(gAB.trans gC) _ _ e9;have xU:=tk.mono g5C;have dn:=qnL (gp:=gp) (F:=FF) oN;have rS:=qfb iS rB (cs:=gp) λ c=>Iff.rfl
 generalize hD':yj gv (qgh gv gp FF)=DU at eC edC dn rS;have same:∀(b:Bool),(if true=true then !decide (DU.map qj=DU.map qj) else b)=false:=λ b=>by simp
 refine⟨_,rfl,_,rfl,b,rd,DU.map qj,DU.map qj,rfl,rfl,.inl ⟨SqT.of (by rw[<- zD];exact eC),SqT.of (by rw[<- zD];exact edC)⟩,_,rfl,?_⟩;rw[same];refine yh ?_;refine⟨_,rfl,x,dx,_,rfl,xU.ins,rfl,x,gv,gp,_,dx,a1,a2,a3,qs,rfl,xU,λ HD gD=>?_⟩;have faD:HD a3=some (.tup (FF.map vS)):=by rw[<- hF];exact(xU.mono gD).fault
 refine⟨_,rfl,a3,FF,gv++gp,gp,rfl,faD,ok9,rB,λ c h=>U3.mpr (.inr h),by omega,λ r' HE gE eE=>?_⟩;rw[rS] at eE;have gCE:=gD.trans gE;have edE:=gCE _ _ edC;refine⟨_,rfl,r',rd,DU.map qj,DU.map qj,rfl,rfl,.inl ⟨SqT.of (by rw[<- zD];exact eE),SqT.of (by rw[<- zD];exact edE)⟩,_,rfl,?_⟩;rw[same];refine yh ?_;refine⟨_,rfl,x,gv,gp,_,dx,a1,a2,a3,qs,rfl,xU.mono gCE,tok,λ hN HF gF=>?_,λ nI rf fs HF gF nrf eF pf=>?_⟩
 ·rw[hF] at hN;have ne:DU≠[]:=λ e=>by
   obtain⟨N,h1,h2⟩:=hN;exact dn.mp e N h1 h2
  refine⟨rfl,_,rfl,qz (by show 0<=_;decide),λ p hp=>?_⟩;refine⟨rd,p,DU.map qj,[],rfl,rfl,.inl ⟨SqT.of (by rw[<- zD];exact(qi.up hp) _ _ (gF _ _ edE)),SqT.of qc⟩,?_⟩;have ev:(V.bl (decide (V.bl (decide ((V.non:V)=V.non))=V.bl (if true=true then !decide (DU.map qj=([]:List Str)) else decide (DU.map qj=([]:List Str))))))=V.bl true:=by simp[ne]
  exact⟨rfl,vk ev (q _)⟩
 ·rw[hF] at nI;have e:DU=[]:=dn.mpr nI;refine⟨rfl,_,rfl,qz (by show 0<=_;decide),λ p hp=>?_⟩;refine⟨rd,p,DU.map qj,[],rfl,rfl,.inl ⟨SqT.of (by rw[<- zD];exact(qi.up hp) _ _ (gF _ _ edE)),SqT.of qc⟩,?_⟩;have ev:(V.bl (decide (V.bl (decide ((V.ref rf:V)=V.non))=V.bl (if true=true then !decide (DU.map qj=([]:List Str)) else decide (DU.map qj=([]:List Str))))))=V.bl true:=by simp[e]
  exact⟨rfl,vk ev (q _)⟩
end
def NI(K:W.Frag)(n:Str)(a:Addr):Prop:=W.nsIn K mainGlobals n=some (some (.ref a))
theorem all_mk{l:W.OpenLaw}{w:World}{K:W.Frag}{h:Heap}{mg:Str->Option Value}{fa al f1 f2 f3 f4 f5 f6 f7 f8 f9 f10 f11 f12 f13 f14 f15 f16 f17 f18 f19 f20 f21 f22 f23 f24 f25 f26 f27 f28 f29 f30 f31 f32 f33 f34 f35 f36 f37 f38 f39 f40 f41 f42 f43 f44 f45 f46 f47 f48 nU nP nQ nO nS nN nR wH wF wG wE fM wQ wM wN wL wP wK wO M1 fU aD M0 o0 t7 p5 t8 p6 l7 B4 G0 B2 aQ aR pX B3 b0:Addr}(X:K.In h)(G:h.Ns mainGlobals mg)(hfa:mg "law"=some (.ref fa)){tka bY bX bZ cU nY N0 O8 dB cZ cY cX cW cV:Tok}{fJ:Addr}{na sM:Nat}{oda:Option Addr}{sla:Array (Option Value)}{d1 d2 d3 d4 d5 d6 d7 d8 d9 d10 d11 d12 d13 d14 d15 d16 d17 d18 d19 d20 d21 d22 d23 d24 d25 d26 d27 d28 d29 d30 d31 d32 d33 d34 d35 d36 d37 d38 d39 d40 d41 d42 d43 d44 d45 d46 d47 d48 pR pN pO pM pQ pK pP dsA dsN dsL dsO rT dfA dfN dfL dfO dfD dfR dfE gH wZ pS P9 r6 A6 w9 A7 x0 o4:FuncData}(a1:NI K "added" f1)(a2:NI K "multiplied" f2)(a3:NI K "joined" f3)(a4:NI K "opposite" f4)(a5:NI K "letters_of" f5)(a6:NI K "worth" f6)(a7:NI K "row_of" f7)(a8:NI K "row_count" f8)(a9:NI K "table_of" f9)(a10:NI K "form_of" f10)(a11:NI K "products_over" f11)(a12:NI K "summed" f12)(a13:NI K "put_in" f13)(a14:NI K "numbers_by" f14)(a15:NI K "letters_in_all" f15)(a16:NI K "fixed_at" f16)(a17:NI K "every_of" f17)(a18:NI K "free_of" f18)(a19:NI K "widest_filling" f19)(a20:NI K "nearest_rows" f20)(a21:NI K "filling_by" f21)(a22:NI K "rest_of" f22)(a23:NI K "read" f23)(a24:NI K "signs_behind" f24)(a25:NI K "taken" f25)(a26:NI K "with_nots" f26)(a27:NI K "pair_of" f27)(a28:NI K "single_of" f28)(a29:NI K "is_row" f29)(a30:NI K "wish_read" f30)(a31:NI K "refuse_strange" f31)(a32:NI K "fault_of" f32)(a33:NI K sB0 f33)(a34:NI K sC5 f34)(a35:NI K sC1 f35)(a36:NI K sB2 f36)(a37:NI K sA9 f37)(a38:NI K sC4 f38)(a39:NI K sC6 f39)(a40:NI K sC8 f40)(a41:NI K sB6 f41)(a42:NI K sC0 f42)(a43:NI K sB7 f43)(a44:NI K sB8 f44)(a45:NI K sC9 f45)(a46:NI K sB9 f46)(a47:NI K sB5 f47)(a48:NI K "law" f48)(iO:NI K "Always" B4)(oC:NI K "Never" G0)(iK:NI K "Letter" B2)(nNot:NI K "Not" aQ)(nAnd:NI K "And" aR)(nOr:NI K "Or" pX)(iM:NI K "Either" B3)(sK:NI K "Task" b0)(aal:NI K "ALWAYS" al)(lal:K.lookup al=some ⟨.type "tuple",oda,.seq #[.str "" tka] na,sla⟩)(aJ:W.nsIn K mainGlobals "LETTERS"=some (some (.str "abcpqrxyz" bY)))(aI:W.nsIn K mainGlobals "OPENING"=some (some (.str "~(" bX)))(aK:W.nsIn K mainGlobals "BETWEEN"=some (some (.str "&|+" bZ)))(cK:W.nsIn K mainGlobals "GIVENS"=some (some (.str "abc" cU)))(lY:W.nsIn K mainGlobals "GAPS"=some (some (.str "xyz" nY)))(M5:W.nsIn K mainGlobals "MOST_WISHES"=some (some (.int 6 N0)))(N7:W.nsIn K mainGlobals "MOST_PARTS"=some (some (.int 20 O8)))(xR:NI K "FREE" fJ)(sU:K.lookup fJ=some ⟨.type "dict",none,.dict [⟨hashStr w "x",.str "x" dB,.str "p" cZ⟩,⟨hashStr w "y",.str "y" cY,.str "q" cX⟩,⟨hashStr w "z",.str "z" cW,.str "r" cV⟩].toArray sM,#[]⟩)(z1:W.nsIn K mainGlobals "len"=some none)(z2:W.nsIn K mainGlobals "list"=some none)(z3:W.nsIn K mainGlobals "sorted"=some none)(z4:W.nsIn K mainGlobals "set"=some none)(z5:W.nsIn K mainGlobals "tuple"=some none)(z6:W.nsIn K mainGlobals "dict"=some none)(z7:W.nsIn K mainGlobals "zip"=some none)(z8:W.nsIn K mainGlobals "reversed"=some none)(z9:W.nsIn K mainGlobals "range"=some none)(z10:W.nsIn K mainGlobals "enumerate"=some none)(z11:W.nsIn K mainGlobals "all"=some none)(z12:W.nsIn K mainGlobals "min"=some none)(z13:W.nsIn K mainGlobals "max"=some none)(z14:W.nsIn K mainGlobals "isinstance"=some none)(z15:W.nsIn K mainGlobals "str"=some none)(z16:W.nsIn K mainGlobals "bool"=some none)(z17:W.nsIn K mainGlobals "int"=some none)(E4:W.findIn K (.ref b0) "text"=some none)(C:CTxt K ⟨B4,G0,B2,aQ,aR,pX,B3⟩ M1 fU aD)(Mt:MTxt K ⟨B4,G0,B2,aQ,aR,pX,B3⟩ "text" nU nP nQ nO nS nN nR)(Ms:MTxt K ⟨B4,G0,B2,aQ,aR,pX,B3⟩ "size" wH wF wG wE fM fM fM)(Mf:FTxt K ⟨B4,G0,B2,aQ,aR,pX,B3⟩ wQ wM wN wL wP wK wO)(aN:Mk K b0 M0)(c6:TaskC K b0)(A9:Meth K b0 "givens" o0)(u5:Meth K b0 "gaps" t7)(x4:Meth K b0 "fault" p5)(E6:Meth K b0 "does" t8)(C9:Meth K b0 "doing" p6)(u6:Meth K b0 "doing_at" l7)(F1:Fun K "added" "added" qfU f1 d1)(F2:Fun K "multiplied" "multiplied" vK f2 d2)(F3:Fun K "joined" "joined" qdY f3 d3)(F4:Fun K "opposite" "opposite" qbb f4 d4)(F5:Fun K "letters_of" "letters_of" vL f5 d5)(F6:Fun K "worth" "worth" qfV f6 d6)(F7:Fun K "row_of" "row_of" qdZ f7 d7)(F8:Fun K "row_count" "row_count" qag f8 d8)(F9:Fun K "table_of" "table_of" qbc f9 d9)(F10:Fun K "form_of" "form_of" qch f10 d10)(F11:Fun K "products_over" "products_over" y6 f11 d11)(F12:Fun K "summed" "summed" qbX f12 d12)(F13:Fun K "put_in" "put_in" qd0 f13 d13)(F14:Fun K "numbers_by" "numbers_by" vM f14 d14)(F15:Fun K "letters_in_all" "letters_in_all" yF f15 d15)(F16:Fun K "fixed_at" "fixed_at" qbd f16 d16)(F17:Fun K "every_of" "every_of" qbe f17 d17)(F18:Fun K "free_of" "free_of" qci f18 d18)(F19:Fun K "widest_filling" "widest_filling" yG f19 d19)(F20:Fun K "nearest_rows" "nearest_rows" jw f20 d20)(F21:Fun K "filling_by" "filling_by" vO f21 d21)(F22:Fun K "rest_of" "rest_of" qcj f22 d22)(F23:Fun K "read" "read" qh9 f23 d23)(F24:Fun K "signs_behind" "signs_behind" jx f24 d24)(F25:Fun K "taken" "taken" qfW f25 d25)(F26:Fun K "with_nots" "with_nots" qai f26 d26)(F27:Fun K "pair_of" "pair_of" qck f27 d27)(F28:Fun K "single_of" "single_of" qaj f28 d28)(F29:Fun K "is_row" "is_row" qd1 f29 d29)(F30:Fun K "wish_read" "wish_read" qan f30 d30)(F31:Fun K "refuse_strange" "refuse_strange" yH f31 d31)(F32:Fun K "fault_of" "fault_of" qbg f32 d32)(F33:Fun K sB0 sB0 qao f33 d33)(F34:Fun K sC5 sC5 qbh f34 d34)(F35:Fun K sC1 sC1 qbi f35 d35)(F36:Fun K sB2 sB2 vX f36 d36)(F37:Fun K sA9 sA9 jN f37 d37)(F38:Fun K sC4 sC4 qcl f38 d38)(F39:Fun K sC6 sC6 qbj f39 d39)(F40:Fun K sC8 sC8 qbk f40 d40)(F41:Fun K sB6 sB6 jS f41 d41)(F42:Fun K sC0 sC0 vY f42 d42)(F43:Fun K sB7 sB7 jT f43 d43)(F44:Fun K sB8 sB8 jU f44 d44)(F45:Fun K sC9 sC9 qbl f45 d45)(F46:Fun K sB9 sB9 qap f46 d46)(F47:Fun K sB5 sB5 jy f47 d47)(F48:Fun K "law" "law" qe0 f48 d48)(FtA:Fun K "text" "Always.text" yJ nU pR)(FtN:Fun K "text" "Never.text" jg nP pN)(FtL:Fun K "text" "Letter.text" yM nQ pO)(FtO:Fun K "text" "Not.text" vP nO pM)(FtD:Fun K "text" "And.text" vT nS pQ)(FtR:Fun K "text" "Or.text" qaz nN pK)(FtE:Fun K "text" "Either.text" yP nR pP)(FsA:Fun K "size" "Always.size" yK wH dsA)(FsN:Fun K "size" "Never.size" jh wF dsN)(FsL:Fun K "size" "Letter.size" yN wG dsL)(FsO:Fun K "size" "Not.size" vQ wE dsO)(FsP:Fun K "size" "Pair.size" jM fM rT)(FfA:Fun K "form" "Always.form" yL wQ dfA)(FfN:Fun K "form" "Never.form" ji wM dfN)(FfL:Fun K "form" "Letter.form" yO wN dfL)(FfO:Fun K "form" "Not.form" vR wL dfO)(FfD:Fun K "form" "And.form" vU wP dfD)(FfR:Fun K "form" "Or.form" qaA wK dfR)(FfE:Fun K "form" "Either.form" yQ wO dfE)(FiLetter:Fun K "__init__" "Letter.__init__" jQ M1 gH)(FiNot:Fun K "__init__" "Not.__init__" qbf fU wZ)(FiPair:Fun K "__init__" "Pair.__init__" qah aD pS)(FiTask:Fun K "__init__" "Task.__init__" qak M0 P9)(FTask_givens:Fun K "givens" "Task.givens" jR o0 r6)(FTask_gaps:Fun K "gaps" "Task.gaps" qal t7 A6)(FTask_fault:Fun K "fault" "Task.fault" vV p5 w9)(FTask_does:Fun K "does" "Task.does" qam t8 A7)(FTask_doing:Fun K "doing" "Task.doing" vW p6 x0)(FTask_doing_at:Fun K "doing_at" "Task.doing_at" y7 l7 o4): ∃ fd:FuncData,(∀(s:Shared)(v:Value),BindsTo s fd ⟨[v],[]⟩ [(sA1,v)])/\∀ base:Heap,K.In base->base.Ns mainGlobals mg->FnOk l.prog w K mg base CX0 37 fa fd [sA1] (qjk K):=by
 have e:=hfa.symm.trans (Vv X G a48);cases e
 have T:Txt mg:=⟨Q5 X G z1,Q5 X G z2,Q5 X G z3,Q5 X G z4,Q5 X G z5,Q5 X G z6,Q5 X G z7,Q5 X G z8,Q5 X G z9,Q5 X G z10,Q5 X G z11,Q5 X G z12,Q5 X G z13,Q5 X G z14,Q5 X G z15,Q5 X G z16⟩;have C3:=Q5 X G z17;have b1:=F1.binds (ps:=["one","other"]);have b2:=F2.binds (ps:=["one","other"]);have b3:=F3.binds (ps:=["one","other"]);have b4:=F4.binds (ps:=["form"]);have b5:=F5.binds (ps:=["form"]);have b6:=F6.binds (ps:=["form","row"]);have b7:=F7.binds (ps:=["letters","number"]);have b8:=F8.binds (ps:=["letters"]);have b9:=F9.binds (ps:=["form","letters"]);have b10:=F10.binds (ps:=["letters","table"]);have b11:=F11.binds (ps:=["letters"]);have b12:=F12.binds (ps:=["truths"]);have b13:=F13.binds (ps:=["form","forms"]);have b14:=F14.binds (ps:=["forms","letters"]);have b15:=F15.binds (ps:=["forms"]);have b16:=F16.binds (ps:=["form","letter","truth"]);have b17:=F17.binds (ps:=["form","letters"]);have b18:=F18.binds (ps:=["gaps"]);have b19:=F19.binds (ps:=["task"]);have b20:=F20.binds (ps:=["gaps","doing_there"]);have b21:=F21.binds (ps:=["gaps","letters","gap_rows"]);have b22:=F22.binds (ps:=["form","gap"]);have b23:=F23.binds (ps:=["text"]);have b24:=F24.binds (ps:=["opened","ended"]);have b25:=F25.binds (ps:=["opened","ended","sign"]);have b26:=F26.binds (ps:=["opened","saying"]);have b27:=F27.binds (ps:=["sign","one","other"]);have b28:=F28.binds (ps:=["sign"]);have b29:=F29.binds (ps:=["text","letters"]);have b30:=F30.binds (ps:=["wish","letters"]);have b31:=F31.binds (ps:=["text","letters"]);have b32:=F32.binds (ps:=["sides"]);have b33:=F33.binds (ps:=[sA1,sB3]);have b34:=F34.binds (ps:=[sB4,sA0]);have b35:=F35.binds (ps:=[sA1,sD0,sA7,sA0]);have b36:=F36.binds (ps:=[sA4]);have b37:=F37.binds (ps:=[sA4,sA3]);have b38:=F38.binds (ps:=[sA0,sA8]);have b39:=F39.binds (ps:=[sA0]);have b40:=F40.binds (ps:=[sA0,sC2]);have b41:=F41.binds (ps:=[sA1]);have b42:=F42.binds (ps:=[sA1,sA0,sC7,sA7]);have b43:=F43.binds (ps:=[sA2]);have b44:=F44.binds (ps:=[sA2,sA3]);have b45:=F45.binds (ps:=[sC3,sB1]);have b46:=F46.binds (ps:=[sA2,sA5,sA6]);have b47:=F47.binds (ps:=[sA1,sA5,sA6]);have mM:=FtA.binds (ps:=["self"]);have mH:=FtN.binds (ps:=["self"]);have mI:=FtL.binds (ps:=["self"]);have mC:=FtO.binds (ps:=["self"]);have mK:=FtD.binds (ps:=["self"]);have mB:=FtR.binds (ps:=["self"]);have mJ:=FtE.binds (ps:=["self"]);have xG:=FsA.binds (ps:=["self"]);have xE:=FsN.binds (ps:=["self"]);have xF:=FsL.binds (ps:=["self"]);have xD:=FsO.binds (ps:=["self"]);have rW:=FsP.binds (ps:=["self"]);have xO:=FfA.binds (ps:=["self"]);have xK:=FfN.binds (ps:=["self"]);have xL:=FfL.binds (ps:=["self"]);have xJ:=FfO.binds (ps:=["self"]);have xN:=FfD.binds (ps:=["self"]);have xI:=FfR.binds (ps:=["self"]);have xM:=FfE.binds (ps:=["self"]);have gK:=FiLetter.binds (ps:=["self","letter"]);have xH:=FiNot.binds (ps:=["self","one"]);have pU:=FiPair.binds (ps:=["self","one","other"]);have aL:=FiTask.binds (ps:=["self","givens","gaps","wishes"]);have A8:=FTask_givens.binds (ps:=["self"]);have u3:=FTask_gaps.binds (ps:=["self"]);have x3:=FTask_fault.binds (ps:=["self"]);have E5:=FTask_does.binds (ps:=["self","given_row","gap_row"]);have C8:=FTask_doing.binds (ps:=["self"]);have u4:=FTask_doing_at.binds (ps:=["self","given_row"]);have m1:=Vv X G a1;have m2:=Vv X G a2;have m3:=Vv X G a3;have m4:=Vv X G a4;have m5:=Vv X G a5;have m6:=Vv X G a6
 have m7:=Vv X G a7;have m8:=Vv X G a8;have m9:=Vv X G a9;have m10:=Vv X G a10;have m11:=Vv X G a11;have m12:=Vv X G a12;have m13:=Vv X G a13;have m14:=Vv X G a14;have m15:=Vv X G a15;have m16:=Vv X G a16;have m17:=Vv X G a17;have m18:=Vv X G a18;have m19:=Vv X G a19;have m20:=Vv X G a20;have m21:=Vv X G a21;have m22:=Vv X G a22;have m23:=Vv X G a23;have m24:=Vv X G a24;have m25:=Vv X G a25;have m26:=Vv X G a26;have m27:=Vv X G a27;have m28:=Vv X G a28;have m29:=Vv X G a29;have m30:=Vv X G a30;have m31:=Vv X G a31;have m32:=Vv X G a32;have m33:=Vv X G a33;have m34:=Vv X G a34;have m35:=Vv X G a35;have m36:=Vv X G a36;have m37:=Vv X G a37;have m38:=Vv X G a38;have m39:=Vv X G a39;have m40:=Vv X G a40;have m41:=Vv X G a41;have m42:=Vv X G a42;have m43:=Vv X G a43;have m44:=Vv X G a44;have m45:=Vv X G a45;have m46:=Vv X G a46;have m47:=Vv X G a47;have m48:=Vv X G a48;have dW:=Vv X G iO;have iQ:=Vv X G oC;have dS:=Vv X G iK;have sP:=Vv X G nNot;have sQ:=Vv X G nAnd;have mCOr:=Vv X G nOr;have dU:=Vv X G iM;have oK:=Vv X G sK;let ca:CA:=⟨B4,G0,B2,aQ,aR,pX,B3⟩
 have nc:NotC ca b0:=⟨(λ e=>by have h:=Mt.always.1;rw[<- show b0=B4 from e] at h;rw[E4] at h;cases h),(λ e=>by have h:=Mt.never.1;rw[<- show b0=G0 from e] at h;rw[E4] at h;cases h),(λ e=>by have h:=Mt.letter.1;rw[<- show b0=B2 from e] at h;rw[E4] at h;cases h),(λ e=>by have h:=Mt.not.1;rw[<- show b0=aQ from e] at h;rw[E4] at h;cases h),(λ e=>by have h:=Mt.and.1;rw[<- show b0=aR from e] at h;rw[E4] at h;cases h),(λ e=>by have h:=Mt.or.1;rw[<- show b0=pX from e] at h;rw[E4] at h;cases h),(λ e=>by have h:=Mt.either.1;rw[<- show b0=B3 from e] at h;rw[E4] at h;cases h)⟩;obtain⟨oc,od,kV,doc,pm,an,cdv,ct,osl,rfl,lk,W8⟩:=F48.ex;refine⟨W.fnOf "law" "law" (qbA qe0) (vm qe0) (qh qe0) .none kV doc pm an cdv ct,λ s v=>.of_eq rfl,λ base _ _=>?_⟩;have O1:=Vv X G aJ;have O0:=Vv X G aI;have O2:=Vv X G aK;have dM:=Vv X G cK;have oI:=Vv X G lY;have N1:=Vv X G M5;have P0:=Vv X G N7;have dJ:=Vv X G xR;have fH:GD K w fJ qmi:=⟨⟨_,_,sU,.cons ⟨_,_,rfl⟩ (.cons ⟨_,_,rfl⟩ (.cons ⟨_,_,rfl⟩ .nil))⟩,by decide +kernel⟩;have rC:=Vv X G aal;have rN:∀ H,SqT K H al (([[]]:List Pr).map vS):=λ H=>.inr ⟨_,_,_,lal,rfl,rfl,qz (by show 1<=_;decide),.cons ⟨tka,by rw[show("":Str)=qj [] by decide +kernel]⟩ .nil⟩
 have Gp:FnOk l.prog w K mg base CX0 1 f11 _ ["letters"] qc0:=qlq F11 T;have bV:=qe1 (P:=l.prog) (w:=w) (base:=base) F12 T b12 m12 10;have Gle:FnOk l.prog w K mg base CX0 1 f5 _ ["form"] (j7 K):=qib F5 T;have Gt:=qls F9 T ⟨Gp,b11,F11.kp,m11⟩ ⟨bV,b12,F12.kp,m12⟩;have Gfo:=qnd F10 T ⟨Gp,b11,F11.kp,m11⟩ ⟨bV,b12,F12.kp,m12⟩;have GA:FnOk l.prog w K mg base CX0 1 f1 _ ["one","other"] (qic K added):=qlv F1 T;have GM:=qne F2 T ⟨Gle,b5,F5.kp,m5⟩ ⟨Gt,b9,F9.kp,m9⟩ ⟨Gfo,b10,F10.kp,m10⟩;have GJ:=qj4 F3 ⟨GA,b1,F1.kp,m1⟩ ⟨GM,b2,F2.kp,m2⟩;have GOp:=qoP F4 rC rN ⟨GA,b1,F1.kp,m1⟩;have NN:FFn l.prog w K mg base f1 f2 f3 f4 _ _ _ _:=⟨GA,b1,F1.kp,m1,GM,b2,F2.kp,m2,GJ,b3,F3.kp,m3,GOp,b4,F4.kp,m4⟩;have GiL:FnOk l.prog w K mg base CX0 1 M1 _ ["self","letter"] (qaD K "letter"):=qlD FiLetter;have GiN:FnOk l.prog w K mg base CX0 1 fU _ ["self","one"] (qaD K "one"):=qlE FiNot;have GiP:FnOk l.prog w K mg base CX0 1 aD _ ["self","one","other"] (qf1 K "one" "other"):=qlF FiPair;have Gsn:=qpY F28 C dW iQ dS GiL gK;have Gpr:=qpZ F27 C sQ mCOr dU GiP pU;have Gwn:=qp1 F26 T C sP GiN xH;have Gsb:=qp3 (P:=l.prog) (w:=w) (mg:=mg) (base:=base) (c:=ca) F24 T O1 O0 O2;have Gtk:=qp5 F25 O0 O2 ⟨Gwn,b26,F26.kp,m26⟩ ⟨Gpr,b27,F27.kp,m27⟩ ⟨Gsn,b28,F28.kp,m28⟩;have Grd:=qp7 F23 T ⟨Gsb,b24,F24.kp,m24⟩ ⟨Gtk,b25,F25.kp,m25⟩;have Vt:=qhl (P:=l.prog) (w:=w) (mg:=mg) (base:=base) C Mt mM mH mI mC mK mB mJ FtA FtN FtL FtO FtD FtR FtE 21;have Vs:=qhm (P:=l.prog) (w:=w) (mg:=mg) (base:=base) C Ms xG xE xF xD rW FsA FsN FsL FsO FsP 21;have GF:=qlN (P:=l.prog) (w:=w) (mg:=mg) (base:=base) C Mf NN xO xK xL xJ xN xI xM FfA FfN FfL FfO FfD FfR FfE 21;have Gir:=qlV (P:=l.prog) (w:=w) (mg:=mg) (base:=base) F29 T;have Gref:=qoW (P:=l.prog) (w:=w) (mg:=mg) (base:=base) F31 O1;have Gwr:=qp9 F30 C P0 Mt Vt Ms Vs mM mH mI mC mK mB mJ xG xE xF xD rW ⟨Grd,b23,F23.kp,m23⟩ ⟨Gref,b31,F31.kp,m31⟩;have Gfa:=qqb F32 ⟨GA,b1,F1.kp,m1⟩ ⟨GJ,b3,F3.kp,m3⟩;have dQ:=oK;have aP:=qnp FiTask T C c6.cls nc c6.n1 c6.n2 c6.n3 c6.n4 c6.n5 dM oI N1 Mt Vt Mf GF mM mH mI mC mK mB mJ xO xK xL xJ xN xI xM ⟨Gir,b29,F29.kp,m29⟩ ⟨Gwr,b30,F30.kp,m30⟩ ⟨Gfa,b32,F32.kp,m32⟩;have gP:=Gp;have K2:=Gle;have O7:=Gt;have G5:=Gfo;have aA1:=GA;have T9:=GM;have aA0:=GJ;have rX:=GOp;have B1:=qo3 (P:=l.prog) (w:=w) (mg:=mg) (base:=base) FTask_givens T c6;have u7:=qo5 (P:=l.prog) (w:=w) (mg:=mg) (base:=base) FTask_gaps T c6;have x6:=qma (P:=l.prog) (w:=w) (mg:=mg) (base:=base) FTask_fault c6;have B0:FnOk l.prog w K mg base CX0 1 f7 _ ["letters","number"] (qgd):=qnA F7 T;have aO:FnOk l.prog w K mg base CX0 1 f6 _ ["form","row"] (qec K):=qki F6 T;have F0:=qnB FTask_does T ⟨B0,b7,F7.kp,m7⟩ ⟨aO,b6,F6.kp,m6⟩ c6;have i7:FnOk l.prog w K mg base CX0 1 f8 _ ["letters"] (qaH):=qme F8 T;have u8:=qiC FTask_doing_at T ⟨i7,b8,F8.kp,m8⟩ c6 E6 F0 E5;have D8:=qmh FTask_doing T ⟨i7,b8,F8.kp,m8⟩ c6 u6 u8 u4
 have L1:FnOk l.prog w K mg base CX0 2 f15 _ ["forms"] (qmm K):=qo9 F15 T ⟨K2,b5,F5.kp,m5⟩;have T7:FnOk l.prog w K mg base CX0 12 f14 _ ["forms","letters"] (qiH K):=qnF F14 T ⟨i7,b8,F8.kp,m8⟩ ⟨O7,b9,F9.kp,m9⟩;have mU:FnOk l.prog w K mg base CX0 13 f13 _ ["form","forms"] (qjj K):=qpa F13 T ⟨K2,b5,F5.kp,m5⟩ ⟨L1,b15,F15.kp,m15⟩ ⟨O7,b9,F9.kp,m9⟩ ⟨T7,b14,F14.kp,m14⟩ ⟨G5,b10,F10.kp,m10⟩;have cL:FnOk l.prog w K mg base CX0 14 f16 _ ["form","letter","truth"] (qgf K):=qmr F16 rC rN ⟨mU,b13,F13.kp,m13⟩;have r9:FnOk l.prog w K mg base CX0 15 f17 _ ["form","letters"] (qgg K everyOf):=qkp F17 ⟨T9,b2,F2.kp,m2⟩ ⟨cL,b16,F16.kp,m16⟩;have M7:FnOk l.prog w K mg base CX0 1 f18 _ ["gaps"] (qge):=qkl F18 T dJ fH;have A0:FnOk l.prog w K mg base CX0 2 f20 _ ["gaps","doing_there"] (qiG):=qnE F20 T ⟨i7,b8,F8.kp,m8⟩;have D5:FnOk l.prog w K mg base CX0 12 f21 _ ["gaps","letters","gap_rows"] (qee K):=qkm F21 T ⟨B0,b7,F7.kp,m7⟩ ⟨G5,b10,F10.kp,m10⟩;have p7:FnOk l.prog w K mg base CX0 13 f19 _ ["task"] (qef b0):=qkn F19 T ⟨A0,b20,F20.kp,m20⟩ ⟨M7,b18,F18.kp,m18⟩ ⟨D5,b21,F21.kp,m21⟩ c6 C9 D8 C8 u5 u7 u3 A9 B1 A8;have M6:FnOk l.prog w K mg base CX0 16 f22 _ ["form","gap"] (qiJ K):=qnK F22 T ⟨r9,b17,F17.kp,m17⟩;have i6:FnOk l.prog w K mg base CX0 1 f33 _ [sA1,sB3] (j9 K):=qlW F33 T;have mT:FnOk l.prog w K mg base CX0 1 f34 _ [sB4,sA0] (qf8):=qns F34 T;have x5:FnOk l.prog w K mg base CX0 2 f35 _ [sA1,sD0,sA7,sA0] (qf9 K):=qnt F35 T ⟨i6,b33,F33.kp,m33⟩ ⟨mT,b34,F34.kp,m34⟩;have mS:=qhr (P:=l.prog) (w:=w) (base:=base) F36 T C3 b36 m36 20;have gM:=qe4 (P:=l.prog) (w:=w) (base:=base) F37 T b37 m37 20;have K0:FnOk l.prog w K mg base CX0 1 f38 _ [sA0,sA8] (qga):=qnw F38 T;have L3:FnOk l.prog w K mg base CX0 2 f39 _ [sA0] (qgb):=ql7 F39 T ⟨K0,b38,F38.kp,m38⟩;have R3:FnOk l.prog w K mg base CX0 2 f40 _ [sA0,sC2] (qgc K):=qmb F40 T ⟨K0,b38,F38.kp,m38⟩;have E8:FnOk l.prog w K mg base CX0 2 f41 _ [sA1] (qir K):=qnq F41 T ⟨i6,b33,F33.kp,m33⟩;have I0:FnOk l.prog w K mg base CX0 3 f42 _ [sA1,sA0,sC7,sA7] (qd9 K):=qkf F42 T ⟨i6,b33,F33.kp,m33⟩ ⟨x5,b35,F35.kp,m35⟩;have E7:FnOk l.prog w K mg base CX0 21 f43 _ [sA2] (qcq):=qiw F43 ⟨mS,b36,F36.kp,m36⟩;have E9:FnOk l.prog w K mg base CX0 21 f44 _ [sA2,sA3] (qcr K):=qiy F44 T ⟨gM,b37,F37.kp,m37⟩;have R4:FnOk l.prog w K mg base CX0 1 f45 _ [sC3,sB1] (qiE):=qnC F45 T;have A3:FnOk l.prog w K mg base CX0 22 f46 _ [sA2,sA5,sA6] (qb4 K):=qko F46 T ⟨L3,b39,F39.kp,m39⟩ ⟨R4,b45,F45.kp,m45⟩ ⟨E9,b44,F44.kp,m44⟩;have D4:FnOk l.prog w K mg base CX0 23 f47 _ [sA1,sA5,sA6] (qbr K):=qhw F47 T ⟨I0,b42,F42.kp,m42⟩ ⟨A3,b46,F46.kp,m46⟩;exact qpb F48 T C3 ⟨E8,b41,F41.kp,m41⟩ ⟨D4,b47,F47.kp,m47⟩ ⟨i6,b33,F33.kp,m33⟩ ⟨x5,b35,F35.kp,m35⟩ ⟨E7,b43,F43.kp,m43⟩ ⟨A3,b46,F46.kp,m46⟩ ⟨R3,b40,F40.kp,m40⟩ ⟨M6,b22,F22.kp,m22⟩ ⟨r9,b17,F17.kp,m17⟩ ⟨p7,b19,F19.kp,m19⟩ c6 aN aP aL dQ x4 x6 x3
theorem walk{l:W.OpenLaw}{K:Params->W.Frag}(hn:l.most=some 63)(uH:d.params.defaults=[])(hY:∀(w:World)(h:Heap),YP w h->(K w.params).In h)(F:∀(w:World)(mg:Str->Option Value)(fa:Addr)(h:Heap),(K w.params).In h->h.Ns mainGlobals mg->mg d.name=some (.ref fa) ->
   ∃ fd:FuncData,(∀(s:Shared)(u:Value),BindsTo s fd ⟨[u],[]⟩ [(sA1,u)])/\∀ base:Heap,(K w.params).In base->base.Ns mainGlobals mg->FnOk l.prog w (K w.params) mg base CX0 37 fa fd [sA1] (qjk (K w.params))):
  PySem.W.WalkO q O3 XP YP l.row.toRowW d [] (λ f vs=>PySem.call f vs):=
 L2.walk_of (n:=63) (k:=37) (x:=sA1) (CX:=λ _=>CX0) (sp:=λ w=>qjk (K w.params)) hn (by decide) uH ⟨rfl,by decide,by decide⟩ hY F (λ _ _ a ns hl _ hS=>⟨a,ns,rfl,hS,hl,λ _=>rfl⟩) λ _ _ _ _ _ z=>z
end Law
open PySem PySem.W PyProof.Rows
structure PySem.W.Fast:Prop where (tw4362131948572935034 tw10372127435097132702 tw7730288134839962245 tw3476552028042015601 tw1627343524834272849 tw11247231491426388049 tw13660600701176470303 tw7838643020324220557 tw16812130169605369299 tw8043487023407488512 tw17980031468077772551 tw7496827849326239300 tw10934726258853527579 tw13331755407594944011 tw18215162250441027358 tw15196956395922132073 tw17911924065764388163 tw301839585308770817 tw6644211117348125660 tw2693081925872308398 tw1589399217144906885 tw9326521007350891453 tw1627900780596868318 tw17534760425490903398 tw3029052969465818991 tw11767619806821183489 tw11566914359550976332 tw5073812124625628740 tw18032208368977834688 tw14074986211381826101 tw5367895612045487470 tw1625170295212756668 tw3475201410440749702 tw10754200919813631273 tw15464905691897237157 tw12236899124870071075 tw7096366462672646192 tw2420975987291129651 tw3056629086265688112 tw7291279151834628502 tw15667902099632962581 tw11508782115186388296 tw15767696869163738957 tw3672953318985829237 tw9506236512191227280 tw11615758564633680111 tw4748702418340890142 tw743490494634514650 tw10425080057459049700 tw13274997103009380575 tw11944287970274009539 tw5859719135188490864 tw3595847108949655971 tw12845728195005406650 tw9166286623671770121 tw17719032205491180773 tw4479174497081164291 tw7937421665255759970 tw3453260038479995370 tw3570553445016903305 tw16599465699076755589 tw8932889846845676915 tw12003516016259684842 tw3678302671340626815 tw1098142565366011203 tw4122610033101115783 tw7085814826545033344 tw15644179845243362246 tw9717596084347130283 tw6120482917725444501 tw2196231849575861584 tw10785436036286947651 tw2101219759944967738 tw8262811961471578377 tw2927856386602345366 tw4880409252916276956 tw13628188204459255447 tw5542115786310306848 tw8905040731981707697 tw15083667354312481575 tw18363065893200034320 tw8399253143617590886 tw3423511218723482804 tw455684204656941331 tw14497785679686378714 tw8373759285504027776 tw11828052751339185963 tw8115658603425639604 tw7471688711134407725 tw3181572182769495752 tw15406393627487730679 tw10933988399648797066 tw2004583368001200449 tw6913813293494425777 tw6145975364376968376 tw15938572317543658436 tw7500317108994621805 tw1796334009822975915 tw13066683215420197187 tw5016668987168034018 tw13589335932536763463 tw3748380790408068373 tw2227765303689067116 tw18035807677187948407 tw17551184965388704864 tw834545443405972283 tw9407829516254054342 tw13120154715447179689 tw3899016176768669401 tw4715228007969879880 tw15027177159047299809 tw12732146966689816344 tw5803834258250313897 tw16461503184831557565 tw4362920179973427925 tw12776805370691560143 tw10311648041953993563 tw8753522719849862597 tw9963644100550225899 tw9020710821405835070 tw5897104543082987709 tw1776207044798637434 tw13892481435985883208 tw2420148673983216189 tw18333942487472549467 tw10586444251631707450 tw11414886331798654229 tw11141676567469042596 tw13349130466906728058 tw12515825293632810485 tw6359466158495343517 tw8690048327626137360 tw12055504024199507470 tw13496157622878940897 tw3376685880538622385 tw6689992652011188352 tw10673981630823880982 tw169832084886674785 tw16388547788905700117 tw8635509324648150081 tw640369113204315223 tw7994946930803911823 tw7194238141490297090 tw15121139374686279276 tw15111497058544740252 tw13849670168463310984 tw10483334228769825838 tw15922522075193038223 tw4147036754778432240 tw16542382302779428174 tw8674811670627918166 tw7573724914272732487 tw14878876836559857815 tw9239891808211231345 tw2510348871364715105 tw12679064619403681486 tw14172119729403747098 tw16002468122004613224 tw5520467579942073948 tw6155138988037261078 tw9575860986121154219 tw9439390756708774118 tw13446928615804023030 tw156998305093316693 tw10610965491743508415 tw6394743952695795616 tw17540678025532735297 tw12960539009996821961 tw12095948218371489208 tw7358020126951289448 tw5244436254734592145 tw50222380500290689 tw16452128693156045037 tw12727367793067940439 tw980785813088887251 tw16639828949291062856 tw9955947536395252349 tw8556810241315848912 tw15646392065725175453 tw14123070049676600799 tw9779239126055948425 tw12611844232716026399 tw992103632766895289 tw9143858978535858804 tw13682414512945445787 tw580806917968301900 tw5084627411313974690 tw12698863603389722526 tw2543599379174031885 tw8113390410841062200 tw10346210687521420764 tw3528277458749522995 tw3556922815972628054 tw6515091252761590553 tw6691327770782031570 tw6842857524618392926 tw11986744712222929245 tw2655425584885686159 tw11624979263695786377 tw5991033418891217622 tw16432641793773721068 tw15916910109172359599 tw14373580542398515808 tw13869748602197666485 tw1092285983372605461 tw11667615803619999811 tw2772205986325250653 tw13946891582520548472 tw14770959393834513914 tw2211808560149887469 tw5795916649169128229 tw14471003510215668111 tw12799418689670758360 tw2541328517670962727 tw15648951014086616570 tw13101774525634861573 tw17624169227683994382 tw14459478638403929587 tw12071679169290024451 tw1864765858634452229 tw10835151862788826288 tw16925085581953819177 tw1136158943582646035 tw6443526393635123086 tw1460966662734378072 tw16882214237022918279 tw16616029455822864630 tw9972354454584954590 tw14588186194824694727 tw11198564925308307271 tw7323767478685298689 tw6818241777525449664 tw2218021536781310146 tw5408845481304178265 tw2685112785565363920 tw2037315600870001125 tw1881011603306774004 tw10105700167855679735 tw13869073874151320745 tw4803569043702102470 tw5815975635619962266 tw3278270002079259297 tw16059637834331551626 tw12264518214685725913 tw14514824849083650431 tw3505860372676719344 tw17464689446939376981 tw5402179451459264078 tw7151362938179728036 tw6171724366849949052 tw5487700255926821237 tw6549371133203371038 tw12049807204944702969 tw1588429782782727374 tw13673413655657131183 tw3785739634134661237 tw9013858016973386335 tw1725161374693932603 tw8630104207012108156 tw15224184146267800316 tw10524293590224836209 tw8658427494783403198 tw7921798292971501968 tw17083555300270655391 tw6951503766688152456 tw2697649438226046989 tw11684131008273136773 tw1455197467600171856 tw2287879842921007968 tw718815785802909208 tw6067372898127743258 tw18040704719126617929 tw10351320385625435120 tw16145759730876001726 tw11678017303294764713 tw7911195274844256953 tw18170967088236961838 tw3427223657976187904 tw17724346574855927070 tw3671187458807511120 tw4432540372634698122 tw11067190061670349746 tw12884306057767207792 tw12899792562319726293 tw6894450987628181435 tw625395008915291144 tw11109318648849313704 tw13447145775552248805 tw10062441291951186834 tw7966895025759932837 tw12936407388304671130 tw10467652677319307521 tw14335047877335086399 tw13205281698382352377 tw1047209804464486112 tw5291980390619247052 tw522832992757714851 tw1855917960268591521 tw2374864045032480132 tw6384209271878750531 tw10564774676014700546 tw1700447705172905203 tw2270212961959198154 tw2229107041052273018 tw17813148898844981697 tw12150915709669702015 tw2288166724549962848 tw17460788043214627109 tw16353919315877875721 tw11706995700915605268 tw8868955336209734947 tw4202372109119908293 tw4114532365267713610 tw3254420507360643771 tw15640276924542186129 tw11964304711192884443 tw10743593967308164808 tw1489851172426153954 tw93375729641739383 tw3682524028307446760 tw3364838783654408758 tw2840564957708814111 tw17911748393249066339 tw13736504800628675391 tw10993428377425210545 tw6100133755550479586 tw3104346661535375088 tw15976829482011657939 tw17012948476076588818 tw14905525092362992901 tw14727043012915175096 tw11345472417843128622 tw1909804543444228089 tw15042885355173074162 tw3033485478149508420 tw17563754086127678385 tw9093037620976481394 tw4039264212291263731 tw17009437744330586182 tw12949905092655069989 tw4525034353447520710 tw2399483452752711223 tw18067219105867751290 tw14995469548715546408 tw3272706079117711061 tw8641778493332306652 tw17980925649576141226 tw4761787158439947931 tw1103441928989599443 tw15763092789879541520 tw11319845841485850113 tw6527026864812238240 tw17981384574713257261 tw4091396991323309069 tw6976763726937452658 tw616162620657147456 tw16225672038768282650 tw15070961196063274312 tw8784195436871845870 tw15894068777713429414 tw13808133917717658893 tw9625007664962997090 tw4982227710127529620 tw4075847734689442917 tw17563623201473102372 tw6893898509608765316 tw13636390392244576728 tw13487837067327440628 tw1057466457359897953 tw3882957933968423118 tw1499387703453892749 tw17731917722240405669 tw5577853797904032422 tw158468623910899606 tw14282542737973169087 tw7483164858935765760 tw1321457603166899411 tw7543982085976211032 tw12088913118361310154 tw15553939157253056793 tw14121036345815913133 tw17990068325217389829 tw10573641178661780481 tw3665889171149144180 tw14776147361174035177 tw14510069746323739614 tw1118494995188260032 tw6391734956637498312 tw7753421895937471135 tw1334232031712586410 tw14941743487595364856 tw2198735867159656792 tw13832198607385461076 tw4872211996243315611 tw2483650737693954334 tw1101193228213239268 tw1056900203166924626 tw13447734912003926979 tw10490910569459703952 tw7017138128421896400 tw6057502279682286938 tw7854061469046479751 tw9902467831619365142 tw4499523973983042386 tw9994482260239920016 tw16101394231859421256 tw17784963970387505762 tw10733764258402678983 tw4289008953937110119 tw9337500458443460188 tw12872847086084919259 tw6020230210716736785 tw14203603979837834824 tw11414509244328323166 tw3591196544510848371 tw5939306621990781786 tw16710579595389098990 tw8342116781308699963 tw6146484359381053843 tw8869671101706212716 tw7126177209880774525 tw5562233787465007364 tw771079249062166632 tw3163263799357009773 tw1612221883584500441 tw16617198369697500080 tw1341303963347962751 tw4640664811433261652 tw13104858407373075389 tw14907761015403109819 tw11536312675139789940 tw15110916383621758574 tw4571307547268003276 tw15875126420353677178 tw12967171482861413850 tw8099775369581965733 tw8873859169606560387 tw4090109945934028982 tw7708379572872841695 tw17861339884469434355 tw8234557310207764297 tw9072624533153958384 tw8851483420843931222 tw6492901292650517440 tw17790344600576498357 tw7937780655580398239 tw16636183570748967197 tw6543087172617936318 tw7731047832613973810 tw6296407157375123856 tw12622885677231060716 tw9603795131474746551 tw2706245724312839123 tw16936732194455668916 tw4518543661987580295 tw7887903176311222884 tw7271000208498442599 tw6953065116393834566 tw16519202215090096891 tw16239756250869719187 tw1387484190814002112 tw11156759583803779920 tw957754279286066700 tw9336858547798509368 tw8362830785318184215 tw7876143360777771330 tw4259391775359491945 tw2691192201711509574 tw15552586791652678962 tw15122605251488384760 tw11978367099184756829 tw6173738879607959739 tw908919945051334384 tw2686075462982191383 tw2591508447948213201 tw12318309154458193710 tw1613976363793916170 tw12855420031110941035 tw12132395416306602011 tw3557447654182372671 tw4174317279198025282 tw2825959546294912635 tw8898550150122989589 tw5592005420927805819 tw3370702427115785103 tw2199000113522971939 tw17466041920013478276 tw16314914155041785886 tw15683506652133243908 tw15237357127620485875 tw9857025611192255924 tw2391958173551461015 tw1256171194165233989 tw5970028998544418404 tw11835676774427779221 tw12509033035634561157 tw16015228152000874212 tw2953010961993326287 tw9437699874566823300 tw3731101824857208816 tw14792731875169222411 tw945935448757750541 tw882076293223090472 tw8544507433884323528 tw8133907760327566829 tw7950084322166017139 tw7244875292071340677 tw626979136541077983 tw6137041757175247763 tw4418443702124541348 tw4405625791528961986 tw3860630122622478759 tw3656418324558318214 tw2962220131248467846 tw2170713224318554265 tw1958907903307165285 tw18027429664060089627 tw17996127160921505458 tw17882611565323154242 tw1763670108135078593 tw1731098934391987863 tw16361352567725662092 tw16153061026197700768 tw15898990855002423432 tw14599186119283434718 tw14292841423276108169 tw14183220623561173492 tw1343920496407183937 tw1196475558508107513 tw11803411102928820730 tw11776375842060430121 tw11205646443485947031 tw11202783903080914405 tw11822661722867347751 tw6613456487509179481 tw11886638434312917771 tw6534104960297812997 tw9599525672618629540 tw7782585659945685752 tw7610718687571044714 tw6972838650046493731 tw6523490041787901221 tw5272729729265854526 tw4110386801914137834 tw2236140178747515537 tw17589113932457760355 tw15598669711294623522 tw15563672516437013704 tw15262233584410050960 tw13310451191830504285 tw12858401821862291012 tw11772576015367084002 tw11528973020331427311 tw9330592199204786011 tw7582111164552572409 tw7002718583727503670 tw6227318662615392533 tw5780172407070244156 tw4581629585000078530 tw3925674411767740213 tw3528153067884431126 tw18140004062602412071 tw16803423822841711351 tw15735356186322094662 tw15314244949848070393 tw14621550903733886775 tw12849132041955871846 tw12122443053618448388 tw11491728146914916882 tw778912790440033742 tw9538817648482515379 tw8352976420920137196 tw692358655594207170 tw6709214644664482373 tw4439243781439570204 tw4268978350061565996 tw2701550823600847616 tw1849881904140889032 tw18232159674135315066 tw17163655426569562725 tw16670962948516065632 tw13455394250598386763 tw12973591711069152318 tw9824502120775108625 tw8900213754146810410 tw8203710790926330999 tw734192352035511199 tw7109015919191946386 tw670646405389889461 tw5020619322435541423 tw3976509199345802357 tw3752493714402264803 tw18131259118501989126 tw17148249924706708742 tw15032753415762572981 tw14414230030889076971 tw11947905681596789866 tw10723285586378714028 tw10662679997309284518 tw9923534543963982029 tw9839403085476413360 tw9718373068691646352 tw9490016373565485727 tw9431290986959459742 tw9362629753722999135 tw9127864310161516775 tw9046151135468347544 tw8934759308225233360 tw8893113644547956694 tw8755090802384649745 tw8702129693036949559 tw869708054980192546 tw86352890571839924 tw8440047351464497389 tw8388190098731070046 tw8379118464088410002 tw8324379510926687763 tw832311074378120032 tw8166334968801422517 tw7957599412347028519 tw7871508803463795399 tw7825645268944837957 tw7753319613694826355 tw7751426261985009902 tw7739310451596512260 tw7614826123259682189 tw7595276805580159693 tw7588402302362619424 tw7422176982660473360 tw7398217030195742209 tw7327914926405527196 tw7295394725502394352 tw7257137441052634099 tw7147999519281191410 tw6949276727955233246 tw6896951093345010705 tw6751300724853430716 tw6687208244006649294 tw6609713316421570965 tw6578937660717254407 tw6505603269027632523 tw6498160207846443197 tw6462704054669390266 tw6421902842986004974 tw6378048976144591087 tw6347471648386623364 tw6331674285788459270 tw628061089520851956 tw6208760234528032880 tw6204535235721363384 tw6159869062779980389 tw6153568620359061106 tw6022933959144117351 tw5975194010730227489 tw5962413171366354045 tw5871026841401677728 tw5622712939207845989 tw5610804708161173926 tw5605802733965578737 tw5568875766539882681 tw5412380662756772403 tw5365400258475519695 tw5329931083713074164 tw5293192348983013466 tw5192068985693681803 tw5102638048827578030 tw5089091429324560387 tw5017758329241011970 tw4859092419094069484 tw482673058802038307 tw4820635644778794584 tw4673259172905983418 tw4283156604040789331 tw4086269917370971741 tw4007365269132000225 tw3898662891355036055 tw3897371590317167033 tw3700624979070556990 tw3660249954703771789 tw3651863166322146825 tw3480051868721610094 tw3284249602309932756 tw316782883362270199 tw316220149498224618 tw3084035757962966960 tw3056919049211563513 tw2957844493030716942 tw2531353958631708722 tw2472621938329813119 tw241749298468684072 tw2379970323464191837 tw2291124223339689975 tw2290410982967990784 tw2288963948107760029 tw2028329324164177379 tw1999896198233735579 tw1973861625975643638 tw1961137371969840135 tw1930716222887020856 tw18296515875206701629 tw18164456223825411428 tw18148267994607753631 tw18115953710406564406 tw18004615750882896830 tw1798750968688121178 tw17967042783093357114 tw17867023358270916298 tw17612131115468806279 tw1752263386409931022 tw17443683964241420542 tw17218954318319267294 tw1704797548069360121 tw17004272348695436898 tw16965274661732260453 tw16926391917050464855 tw1692378318967797897 tw16889089012805184304 tw16788342541657226930 tw16714424277942654354 tw16701156989290631393 tw16563510234378578427 tw16445174821146694536 tw16415148257562251013 tw16392871487074362257 tw16187684023882547033 tw16072856255882148441 tw16044071795827607695 tw15897948740717571269 tw15884155658499697263 tw15761057777364696688 tw15506466374815790300 tw1548535116081860590 tw15475557276760445427 tw15452303382071079075 tw1528939119300509559 tw15283522805560596992 tw15125412929560335991 tw15006320338920044755 tw14990522144806455573 tw14950696670867635666 tw14925018875179096144 tw14718667307882529431 tw14714186502485954947 tw14651279987157082350 tw14630012195753841573 tw1442082120566653255 tw14366365004448643560 tw14304039560412148254 tw14111498754811346690 tw14046910773989581197 tw13982715807674666540 tw13805400253402820427 tw13729174831421513148 tw13632129206089426414 tw13577092758845658713 tw13568505310730423615 tw13465305226067070084 tw13428354745919244135 tw13313119052566310059 tw13191416657769016240 tw13161931204538566940 tw13118186317251147634 tw13096577283147565544 tw13080148952956066294 tw12954425734088039671 tw1290662201159002983 tw12774699126856752781 tw12611872988161979994 tw12566256427350560240 tw1252056426457478596 tw12499587032712657962 tw12485945272991811110 tw12290609878182419089 tw12167602702136533653 tw1194839264684126811 tw11696648135822083071 tw11670242125327878133 tw11551550505826102533 tw11494452173836186241 tw11473757782361056933 tw11318268312320488977 tw11216372558358467719 tw11143119465027213745 tw11107336134836351403 tw10864458486298701361 tw10817985062130017278 tw10768924344760292839 tw1073268632693990788 tw10639970577665947504 tw10567849447669305397 tw10512166579294197407 tw10506024042669589377 tw10409716198924947125 tw10380422311198122268 tw1022154962988919515 tw10193469363618063261:True)
set_option maxRecDepth 100000 in
set_option maxHeartbeats 0 in
theorem PySem.Challenge.cw_fillsay_k55_whole_gaps_in_turn_holds : PySem.Challenge.rw_fillsay_k55_whole_gaps_in_turn.Holds := by
 w_on;o_law;k_head;(case hw=>w_witness2)
 k_fill
 refine Law.walk (l:=PySem.Challenge.rw_fillsay_k55_whole_gaps_in_turn) rfl rfl (λ w h Y=>W.kIn_of Y) ?F
 case F =>
  intro w mg fa h KX G tW;refine' Law.all_mk KX G tW ..
  any_goals first|k_is|(unfold Law.NI;k_is)
  any_goals first|(refine' ⟨⟨?_,?_,?_,?_⟩,⟨?_,?_,?_,?_⟩,⟨?_,?_,?_,?_⟩,⟨?_,?_,?_,?_⟩,⟨?_,?_,?_,?_⟩,⟨?_,?_,?_,?_⟩,⟨?_,?_,?_,?_⟩,⟨?_,?_,?_⟩,⟨?_,?_,?_⟩,⟨?_,?_,?_,?_⟩,⟨?_,?_,?_,?_⟩,⟨?_,?_,?_,?_⟩,⟨?_,?_,?_,?_⟩,⟨?_,?_,?_,?_⟩,?_,?_,⟨?_,?_⟩,⟨?_,?_⟩,⟨?_,?_⟩⟩ <;> (try dsimp only[L2.NoAttr]) <;> try k_is)|(refine' ⟨⟨?_,?_,?_⟩,⟨?_,?_,?_⟩,⟨?_,?_,?_⟩,⟨?_,?_,?_⟩,⟨?_,?_,?_⟩,⟨?_,?_,?_⟩,⟨?_,?_,?_⟩⟩ <;> (try dsimp only[L2.NoAttr]) <;> try k_is)|(refine' ⟨⟨?_,?_,?_,?_⟩,?_,?_,?_,?_,?_⟩ <;> (try dsimp only[L2.NoAttr]) <;> try k_is)|(refine' ⟨?_,?_,?_,?_⟩ <;> try k_is)|(refine' ⟨?_,?_,?_⟩ <;> try k_is)|skip
  any_goals first|(refine' L2.fun_mk ?_ ?_ ?_ <;> try k_is)|skip
