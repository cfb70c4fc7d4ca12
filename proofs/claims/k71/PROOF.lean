import PyProof.Rows.All
import Wide.All
import OpenK.AllK
import Wide.FinOn
import Lean
import PyProof.EqAt
import PyProof.EqKinds
import PyProof.TupleCall
import PyProof.FactsAll.set_1
import PyProof.FactsAll.set_2
import PyProof.Rows.Range3
import PyProof.AttrMissSeq
import KE.KDictOf
import PyProof.CompUse
import PyProof.Rows.RegReprOcc
import PyProof.FactsAll.list_4
import KE.KItemsList
import KE.KEqDict
import PyProof.Rows.SortRunsK
import PyProof.Rows.SortStr
import PyProof.Draws
import PyProof.EnumMake
import PyProof.SliceStr2
import PyProof.SliceList
import PyProof.DictWalks
import PyProof.SumWalkG
import PyProof.SeqI3
import PyProof.FactsAll.str_6
import PyProof.FactsAll.str_7
import PyProof.StrCalls
import PyProof.MeetsStr
import PyProof.DictItems
import PyProof.DictItemsLoops
import PyProof.DictUpdate
import KE.KPairComp
import PySem.Challenge.RW_fillsay_k71_fillings_counted
noncomputable section
set_option Elab.async false
set_option linter.all false
set_option maxRecDepth 100000
set_option maxHeartbeats 4000000
abbrev Xa:=@List.take_succ_eq_append_getElem
abbrev Xb:=@PyProof.Rows.slot_tuple_getitem
abbrev Xc:=@List.take_append_of_le_length
abbrev Xd:=@List.drop_append_of_le_length
abbrev Xe:=@List.eq_nil_of_length_eq_zero
abbrev Xf:=@PyProof.Rows.callWith_type1
abbrev Xg:=@Array.getD_eq_getD_getElem?
abbrev Xh:=@List.perm_append_comm_assoc
abbrev Xi:=@List.getElem?_append_right
abbrev Xj:=@List.perm_ext_iff_of_nodup
abbrev Xk:=@List.getD_eq_getElem?_getD
abbrev Xl:=@List.length_eraseIdx_of_lt
abbrev Xm:=@List.getElem?_eq_some_iff
abbrev Xn:=@List.getElem?_append_left
abbrev Xo:=@Array.getElem?_eq_getElem
abbrev Xp:=@PySem.Calls.call_function_entry
abbrev Xq:=@List.extract_eq_take_drop
abbrev Xr:=@List.drop_eq_getElem_cons
abbrev Xs:=@List.pairwise_iff_getElem
abbrev Xt:=@Option.isSome_iff_exists
abbrev Xu:=@List.getElem?_take_of_lt
abbrev Xv:=@PySem.F.args_tuple_add_2
abbrev Xw:=@List.getElem?_eq_getElem
abbrev Xx:=@List.filterMap_cons_some
abbrev Xy:=@List.filterMap_cons_none
abbrev Xz:=@PySem.F.slot_list_append
abbrev X0:=@PySem.F.type_list_append
abbrev X1:=@PySem.wpAny_comprehension_free
abbrev X2:=@List.getElem?_replicate
abbrev X3:=@PySem.F.plainAttrs_dict
abbrev X4:=@PySem.F.entry_tuple_add
abbrev X5:=@List.eraseIdx_cons_succ
abbrev X6:=@List.filter_cons_of_pos
abbrev X7:=@List.filter_cons_of_neg
abbrev X8:=@PyProof.Rows.F.plain_set_update_loop
abbrev X9:=@Nat.add_sub_cancel_left
abbrev XA:=@List.length_eq_zero_iff
abbrev XB:=@PySem.F.plainAttrs_list
abbrev XC:=@PySem.wpAny_callSpecial?_slot
abbrev XD:=@PySem.Heap.get?_push_of_some
abbrev XE:=@PySem.Calls.callWith_builtin
abbrev XF:=@PySem.F.slot_tuple_add
abbrev XG:=@PySem.Heap.get?_update_other
abbrev XH:=@List.take_of_length_le
abbrev XI:=@List.drop_of_length_le
abbrev XJ:=@Nat.div_div_eq_div_mul
abbrev XL:=@PySem.F.plainAttrs_str
abbrev XM:=@Nat.le_of_succ_le_succ
abbrev XN:=@List.mem_append_right
abbrev XO:=@List.length_replicate
abbrev XQ:=@PySem.F.slot_dict_get
abbrev XR:=@PySem.Heap.get?_update_self
abbrev XS:=@List.length_singleton
abbrev XT:=@Array.getElem?_toList
abbrev XU:=@List.contains_iff_mem
abbrev XV:=@List.take_append_drop
abbrev XW:=@List.filterMap_append
abbrev XX:=@List.getElem?_eq_none
abbrev XY:=@List.mem_iff_getElem?
abbrev XZ:=@List.length_filter_le
abbrev Ya:=@PySem.F.slot_str_join
abbrev Yb:=@PySem.F.type_str_join
abbrev Yc:=@PySem.F.slot_list_pop
abbrev Yd:=@PySem.F.type_list_pop
abbrev Ye:=@PySem.builtinLookup_eq_fast
abbrev Yf:=@List.mem_cons_of_mem
abbrev Yg:=@List.mem_append_left
abbrev Yh:=@List.mem_of_getElem?
abbrev Yi:=@PySem.Around.under_plainId
abbrev Yj:=@Array.toList_extract
abbrev Yk:=@List.pairwise_append
abbrev Yl:=@List.mem_of_mem_drop
abbrev Ym:=@List.mem_of_mem_take
abbrev Yn:=@Array.toList_reverse
abbrev Yo:=@Nat.pow_le_pow_right
abbrev Yp:=@List.dropLast_concat
abbrev Yq:=@List.filterMap_cons
abbrev Yr:=@Array.length_toList
abbrev Ys:=@PySem.Heap.get?_push_size
abbrev Yt:=@PySem.mem_of_lookup
abbrev Yu:=@List.replicate_succ
abbrev Yv:=@List.length_zipWith
abbrev Yw:=@List.getElem_of_mem
abbrev Yx:=@PySem.Heap.SameBut.update
abbrev Yy:=@Array.toList_append
abbrev Yz:=@PySem.Paired.length
abbrev Y0:=@List.reverse_append
abbrev Y1:=@List.length_reverse
abbrev Y2:=@List.getElem?_range
abbrev Y4:=@beq_eq_false_iff_ne
abbrev Y5:=@PySem.wpAny_setEntries_of
abbrev Y6:=@Nat.lt_of_lt_of_le
abbrev Y7:=@List.mem_cons_self
abbrev Y8:=@Bool.false_ne_true
abbrev Y9:=@PySem.Calls.spliced_cons
abbrev Za:=@List.length_append
abbrev Zb:=@List.pairwise_cons
abbrev Zc:=@List.zip_cons_cons
abbrev Zd:=@Bool.false_eq_true
abbrev Ze:=@List.getElem?_drop
abbrev Zf:=@List.mem_singleton
abbrev Zg:=@Int.emod_lt_of_pos
abbrev Zh:=@PySem.wpAny_Call_Name_kw
abbrev Zi:=@PySem.tupleKind_room_in1
abbrev Zj:=@of_decide_eq_false
abbrev Zk:=@PySem.wpAny_setField_rec
abbrev Zl:=@List.getElem?_map
abbrev Zm:=@List.size_toArray
abbrev Zn:=@Int.toNat_natCast
abbrev Zo:=@List.flatten_cons
abbrev Zp:=@List.append_assoc
abbrev Zq:=@List.nodup_append
abbrev Zr:=@List.pairwise_map
abbrev Zs:=@Nat.lt_succ_of_lt
abbrev Zt:=@Array.toList_push
abbrev Zu:=@Bool.eq_false_iff
abbrev Zv:=@List.length_range
abbrev Zw:=@Nat.le_succ_of_le
abbrev Zx:=@PyProof.Rows.KeyOrd.kle_of_klt
abbrev Zy:=@List.getElem_take
abbrev Zz:=@PySem.wpAny_truthy_bool
abbrev Z0:=@PySem.wpAny_newObj_type
abbrev Z1:=@PySem.wpAny_pyIter_list
abbrev Z2:=@PySem.wpAny_pyIter_enum
abbrev Z4:=@PySem.wpAny_storeSet_of
abbrev Z5:=@PySem.fits_of_scanBound
abbrev Z6:=@PySem.wpAny_setState_of
abbrev Z7:=@bne_self_eq_false
abbrev Z8:=@PySem.wpAny_setEpoch_of
abbrev Z9:=@of_decide_eq_true
abbrev Ua:=@List.length_cons
abbrev Ub:=@Nat.lt_succ_self
abbrev Uc:=@List.length_take
abbrev Ud:=@List.cons_append
abbrev Ue:=@List.length_drop
abbrev Uf:=@Bool.and_eq_true
abbrev Ug:=@List.lookup_cons
abbrev Uh:=@List.all_eq_true
abbrev Ui:=@List.getElem_mem
abbrev Uj:=@List.take_length
abbrev Uk:=@PyProof.Rows.KeyOrd.kle_trans
abbrev Ul:=@List.filter_cons
abbrev Um:=@PySem.wpAny_call_entry
abbrev Uo:=@PySem.wpAny_askSetting
abbrev Up:=@PySem.wpAny_isInstance
abbrev Uq:=@List.mem_filter
abbrev Ur:=@List.mem_append
abbrev Us:=@Bool.eq_iff_iff
abbrev Ut:=@List.length_map
abbrev Uu:=@List.append_nil
abbrev Uv:=@List.nodup_cons
abbrev Uw:=@List.of_mem_zip
abbrev Ux:=@List.find?_cons
abbrev Uy:=@Option.map_some
abbrev Uz:=@List.foldl_cons
abbrev U0:=@List.nil_append
abbrev U1:=@List.zip_append
abbrev U2:=@List.map_append
abbrev U3:=@Int.emod_nonneg
abbrev U4:=@List.range_succ
abbrev U5:=@PyProof.Rows.KeyOrd.kle_refl
abbrev U6:=@Nat.min_eq_left
abbrev U7:=@PySem.PassesOwn.never
abbrev U8:=@List.length_zip
abbrev U9:=@Int.ediv_nonneg
abbrev Ja:=@decide_eq_false
abbrev Jb:=@PySem.wpAny_execs_nil
abbrev Jc:=@PySem.wpAny_passesOwn
abbrev Jd:=@PySem.wpAny_specialOf
abbrev Je:=@PySem.codeAny_builtin
abbrev Jf:=@PySem.typeLookup_type
abbrev Jg:=@PySem.wpAny_ite_split
abbrev Jh:=@List.mem_range
abbrev Ji:=@Bool.false_and
abbrev Jj:=@PySem.Heap.size_push
abbrev Jk:=@Bool.xor_assoc
abbrev Jl:=@List.Perm.refl
abbrev Jm:=@Bool.and_false
abbrev Jn:=@List.drop_zero
abbrev Jo:=@List.take_succ
abbrev Jp:=@List.take_zero
abbrev Jq:=@List.drop_drop
abbrev Jr:=@List.take_left
abbrev Js:=@PySem.boot_len
abbrev Jt:=@decide_eq_true
abbrev Ju:=@PySem.isSubtype_type
abbrev Jv:=@PySem.entryFor_alias
abbrev Jw:=@PySem.wpAny_fieldsOf
abbrev Jx:=@Nat.lt_irrefl
abbrev Jy:=@List.mem_cons
abbrev Jz:=@List.map_cons
abbrev J0:=@List.any_cons
abbrev J4:=@Bool.false_or
abbrev J5:=@Bool.not_true
abbrev J6:=@List.sum_cons
abbrev J7:=@Nat.add_assoc
abbrev J8:=@PySem.wpAny_holding
abbrev J9:=@PySem.wpAny_standAt
abbrev Qa:=@PySem.plainId_quiet
abbrev Qb:=@PySem.wpAny_attempt
abbrev Qc:=@PySem.wpAny_newList
abbrev Qd:=@PySem.Heap.lt_size
abbrev Qe:=@Nat.ne_of_lt
abbrev Qf:=@Nat.le_trans
abbrev Qg:=@Nat.le_of_lt
abbrev Qh:=@Nat.ne_of_gt
abbrev Qi:=@Nat.lt_trans
abbrev Qj:=@Nat.mul_comm
abbrev Qk:=@Nat.pow_succ
abbrev Ql:=@List.mem_map
abbrev Qm:=@List.map_map
abbrev Qn:=@Nat.lt_or_ge
abbrev Qo:=@PySem.W.mg_none_of
abbrev Qp:=@PySem.codeAny_mono
abbrev Qq:=@PySem.wpAny_typeOf
abbrev Qr:=@PyProof.Rows.wpS_forRange
abbrev Qs:=@Nat.le_refl
abbrev Qt:=@Nat.zero_le
abbrev Qu:=@Nat.le_succ
abbrev Qv:=@PySem.Paired.snoc
abbrev Qw:=@PySem.wpAny_field
abbrev Qx:=@PySem.wpAny_of_eq
abbrev Qy:=@PySem.wpAny_mono
abbrev Qz:=@PySem.wpAny_bind
abbrev Q0:=@PySem.wpAny_pure
abbrev Q1:=@PySem.wpAny_rule
abbrev Q2:=@beq_iff_eq
abbrev Q3:=@PySem.typeIs_str
abbrev Q4:=@PySem.call_meets
abbrev Q5:=@PyProof.Rows.wpS_modify
abbrev Q6:=@PySem.W.kia_one
abbrev Q7:=@if_false
abbrev Q8:=@PyProof.Rows.wpS_pure
abbrev Q9:=@PyProof.Rows.wpS_bind
abbrev Va:=@PyProof.Rows.wpS_mono
abbrev Vb:=@Ne.symm
abbrev Vc:=@PySem.W.mg_of
abbrev Vd:=@if_true
abbrev Ve:=@PyProof.Rows.wpS_get
abbrev Vg:=@dif_pos
abbrev Vh:=@if_pos
abbrev Vi:=@if_neg
namespace L2
open PySem PySem.Spec PyProof.Rows
noncomputable abbrev sA0:Str:="_law_script"
noncomputable abbrev sA1:Str:="_law_givens"
noncomputable abbrev sA2:Str:="_law_tree"
noncomputable abbrev sA3:Str:="_law_letters"
noncomputable abbrev sA4:Str:="_law_small_here"
noncomputable abbrev sA5:Str:="_law_sides_here"
noncomputable abbrev sA6:Str:="_law_mix"
noncomputable abbrev sA7:Str:="_law_gaps"
noncomputable abbrev sA8:Str:="_law_written"
noncomputable abbrev sA9:Str:="_law_filled"
noncomputable abbrev sB0:Str:="_law_doing_here"
noncomputable abbrev sB1:Str:="_law_true"
noncomputable abbrev sB2:Str:="_law_row"
noncomputable abbrev sB3:Str:="_law_mixed"
noncomputable abbrev sB4:Str:="_law_k"
noncomputable abbrev sB5:Str:="_law_right"
noncomputable abbrev sB6:Str:="_law_saying"
noncomputable abbrev sB7:Str:="_law_leaf"
noncomputable abbrev sB8:Str:="_law_many"
noncomputable abbrev sB9:Str:="_law_left"
noncomputable abbrev sC0:Str:="_law_small"
noncomputable abbrev sC1:Str:="_law_sides"
noncomputable abbrev sC2:Str:="_law_drawn"
noncomputable abbrev sC3:Str:="_law_texts"
noncomputable abbrev sC4:Str:="_law_doing"
noncomputable abbrev sC5:Str:="_law_count"
noncomputable abbrev sC6:Str:="_law_one"
noncomputable abbrev sC7:Str:="_law_rows"
abbrev Key:=Sum Int Str
noncomputable def qbD:Key->Value->Bool
 |.inl k,v=>Value.isInt k v
 |.inr x,v=>Value.isStrOf x v
noncomputable def qm8(w:World):Key->Int
 |.inl k=>hashInt k
 |.inr x=>hashStr w x
theorem zf:∀{k:Key}{v:Value},qbD k v=true->(∃ i t,k=Sum.inl i/\v=Value.int i t)∨(∃ x t,k=Sum.inr x/\v=Value.str x t)
 |.inl i,v,h=>by
  obtain⟨t,e⟩:=Value.isInt_shape (k:=i) (v:=v) h;exact .inl ⟨i,t,rfl,e⟩
 |.inr x,v,h=>by
  obtain⟨t,e⟩:=Value.isStrOf_shape (x:=x) (v:=v) h;exact .inr ⟨x,t,rfl,e⟩
theorem qha(i:Int)(t:Tok):qbD (.inl i) (.int i t)=true:=by simp[qbD,Value.isInt]
theorem qhb(x:Str)(t:Tok):qbD (.inr x) (.str x t)=true:=by simp[qbD,Value.isStrOf]
theorem qk7(a b:Int):decide ((Sum.inl a:Key)=Sum.inl b)=(a == b):=by
 by_cases e:a=b
 ·subst e;simp
 ·have h:¬ (Sum.inl a:Key)=Sum.inl b:=λ q=>e (Sum.inl.inj q)
  rw[Ja h];exact(Y4.mpr e).symm
theorem qk8(a b:Str):decide ((Sum.inr a:Key)=Sum.inr b)=decide (a=b):=by
 by_cases e:a=b
 ·subst e;simp
 ·have h:¬ (Sum.inr a:Key)=Sum.inr b:=λ q=>e (Sum.inr.inj q)
  rw[Ja h,Ja e]
theorem qk9(a:Int)(b:Str):decide ((Sum.inl a:Key)=Sum.inr b)=false:=Ja (λ q=>nomatch q)
theorem qla(a:Str)(b:Int):decide ((Sum.inr a:Key)=Sum.inl b)=false:=Ja (λ q=>nomatch q)
noncomputable def qx(prog:Program)(w:World):PySem.KeyKind prog w Key where
 is:=qbD
 hash:=qm8 w
 inj:=λ v a b ha hb=>by
  rcases zf ha with⟨i,t,rfl,rfl⟩|⟨x,t,rfl,rfl⟩
  ·rcases zf hb with⟨j,u,rfl,e⟩ | ⟨y,u,rfl,e⟩
   ·injection e with e1 _;rw[e1]
   ·exact nomatch e
  ·rcases zf hb with⟨j,u,rfl,e⟩ | ⟨y,u,rfl,e⟩
   ·exact nomatch e
   ·injection e with e1 _;rw[e1]
 byValue:=λ k v h=>by
  rcases zf h with⟨i,t,rfl,rfl⟩|⟨x,t,rfl,rfl⟩ <;> rfl
 pyHash:=λ hv h=>by
  rcases zf hv with⟨i,t,rfl,rfl⟩|⟨x,t,rfl,rfl⟩
  ·exact wpAny_pyHash_int h
  ·exact wpAny_pyHash_str h
 eqBool:=λ hu hv h=>by
  rcases zf hu with⟨i,t,rfl,rfl⟩|⟨x,t,rfl,rfl⟩
  ·rcases zf hv with⟨j,u,rfl,rfl⟩ | ⟨y,u,rfl,rfl⟩
   ·rw[qk7] at h;exact wpAny_eqBool_int h
   ·rw[qk9] at h;exact SeqAt.EqAt.int_str i t y u _ _ _ _ h
  ·rcases zf hv with⟨j,u,rfl,rfl⟩ | ⟨y,u,rfl,rfl⟩
   ·rw[qla] at h;exact SeqAt.EqAt.str_int x t j u _ _ _ _ h
   ·rw[qk8] at h;exact wpAny_eqBool_str h
 «strs»:=λ k x t v h=>by
  rcases zf h with⟨i,u,rfl,e⟩|⟨y,u,rfl,e⟩
  ·exact nomatch e
  ·injection e with e1 _
   subst e1;cases v <;> rfl
theorem qei(prog:Program)(w:World)(i:Int)(t:Tok):(qx prog w).is (.inl i) (.int i t)=true:=qha i t
theorem zn(prog:Program)(w:World)(x:Str)(t:Tok):(qx prog w).is (.inr x) (.str x t)=true:=qhb x t
inductive V where 
 |non|bl (b:Bool)|int (i:Int)|str (x:Str)|byt (b:Array UInt8)|flt (b:UInt64)|ref (a:Addr)|ty (n:String) deriving DecidableEq
def qO:V->Value->Prop
 |.non,u=>u=Value.none
 |.bl b,u=>u=Value.bool b
 |.int i,u=>∃ t,u=Value.int i t
 |.str x,u=>∃ t,u=Value.str x t
 |.byt b,u=>∃ t,u=Value.bytes b t
 |.flt b,u=>∃ t,u=Value.float b t
 |.ref a,u=>u=Value.ref a
 |.ty n,u=>u=Value.type n
abbrev qI:List V->List Value->Prop:=Paired qO
theorem qI.length{xs:List V}{us:List Value}(r:qI xs us):xs.length=us.length:=Paired.length r
theorem qI.get:∀{xs:List V}{us:List Value}{i:Nat}{x:V},qI xs us->xs[i]?=some x->∃ u,us[i]?=some u/\qO x u
 |_,_,_,_,.nil,e=>by simp at e
 |_,_,0,_,.cons r _,e=>by simp at e;subst e;exact⟨_,rfl,r⟩
 |_,_,i+1,x,.cons _ t,e=>by
  obtain⟨u,h1,h2⟩:=qI.get (i:=i) (x:=x) t (by simpa using e);exact⟨u,by simpa using h1,h2⟩
theorem qI.set{x:V}{u:Value}(r:qO x u):∀{xs:List V}{us:List Value}(i:Nat),qI xs us->qI (xs.set i x) (us.set i u)
 |_,_,_,.nil=>.nil
 |_,_,0,.cons _ t=>.cons r t
 |_,_,i+1,.cons q t=>.cons q (qI.set r i t)
theorem qI.append:∀{xs ys:List V}{us ws:List Value},qI xs us->qI ys ws->qI (xs++ys) (us++ws)
 |_,_,_,_,.nil,s=>s
 |_,_,_,_,.cons r t,s=>.cons r (qI.append t s)
theorem qI.take:∀{xs:List V}{us:List Value}(n:Nat),qI xs us->qI (xs.take n) (us.take n)
 |_,_,0,_=>.nil
 |_,_,_+1,.nil=>.nil
 |_,_,n+1,.cons r t=>.cons r (qI.take n t)
theorem qI.drop:∀{xs:List V}{us:List Value}(n:Nat),qI xs us->qI (xs.drop n) (us.drop n)
 |_,_,0,r=>r
 |_,_,_+1,.nil=>.nil
 |_,_,n+1,.cons _ t=>qI.drop n t
def j6:Option V->Option Value->Prop
 |some v,some u=>qO v u
 |none,none=>True
 |_,_=>False
def KV{κ:Type}:List (κ×V)->List (κ×Value)->Prop:=Paired λ(p:κ×V)(q:κ×Value)=>p.1=q.1/\qO p.2 q.2
noncomputable def kV:Key->V
 |.inl i=>.int i
 |.inr x=>.str x
inductive HO where 
 
 |lst (xs:List V) 
 |tup (xs:List V) 
 |dK (kvs:List (Key×V))|dT (kvs:List (List Key×V)) 
 |set (S:Int->Bool) (n:Nat)
 
 |ins (C dx:Addr) (fs:List (Str×V))
 
 |own (x:Addr)
 
 |xd (fs:List (Str×V))
 
 |met (f x:Addr)
 
 |rng (lo hi:Int)
 
 |frz (o:Obj) (u:HO)
 
 |tbl (ps:Array Value)
 
 |ext (φ:Heap->Prop)
abbrev Hp:=Addr->Option HO
noncomputable def upd(H:Hp)(a:Addr)(o:HO):Hp:=λ b=>if b=a then some o else H b
theorem qc{H:Hp}{a:Addr}{o:HO}:upd H a o a=some o:=by unfold upd;rw[Vh rfl]
theorem qt{H:Hp}{a b:Addr}{o:HO}(h:b≠a):upd H a o b=H b:=by unfold upd;rw[Vi h]
theorem qej{H:Hp}{a b:Addr}{o u:HO}(h:H a=some o)(h':H b=some u)(d:o≠u):a≠b:=by
 intro e;subst e;rw[h] at h';exact d (Option.some.inj h')
theorem qZ{H:Hp}{a b:Addr}{o:HO}(h:H a=some o)(h':H b=none):a≠b:=by
 intro e;subst e;rw[h] at h';cases h'
section
variable (P:Program)(w:World)
def zo(H:Hp)(h:Heap)(a:Addr):HO->Prop
 | .lst xs=>xs.length<=sizeLine/\∃(its:List Value)(n:Nat),qI xs its/\h.get? a=some { cls:=.type "list",data:=.seq its.toArray n }
 |.tup xs=>xs.length<=sizeLine/\∃ its:List Value,qI xs its/\IsTup h a its.toArray
 |.dK kvs=>kvs.length<=sizeLine/\(a == sysModules)=false/\∃ vs,KV kvs vs/\h.DictOf (qx P w) a vs
 | .dT kvs=>kvs.length<=sizeLine/\(a == sysModules)=false/\∃ xs:List (List Key×Addr×Value),
   Paired (λ(p:List Key×V)(q:List Key×Addr×Value)=>p.1=q.1/\H q.2.1=some (.tup (p.1.map kV))/\qO p.2 q.2.2) kvs xs /\
   ∃ o es ep,h.get? a=some o/\o.ExactDict/\o.data=.dict es ep/\es.toList=xs.map (entryOfKey (tupleKind (qx P w)))/\(xs.map (·.1)).Nodup
 |.set S n=>h.SetOf (intKind P w) a S n
 | .ins C dx fs=>H dx=some (.own a)/\fs.length<=1000/\dx≠a/\h.get? a=some (W.instObj C dx) /\
   ∃ mA,h.Ns1 dx mA/\(∀ f,j6 (fs.lookup f) (mA f))/\PySem.Within mA (fs.map (·.1))
 |.own _=>∃ o,h.get? a=some o
 |.xd fs=>∃ mA,h.Ns1 a mA/\∀ f,j6 (fs.lookup f) (mA f)
 | .rng lo hi=>∃ t u v,h.get? a=some { cls:=.type "range",data:=.fields #[.int lo t,.int hi u,.int 1 v] }
 |.frz o u=>h.get? a=some o/\zo H h a u
 |.tbl ps=>h.get? a=some { cls:=.none,data:=.fields ps }
 |.met f x=>h.get? a=some (W.methodObj (.ref f) (.ref x))
 |.ext φ=>φ h/\(∃ o,h.get? a=some o)/\∀ h1 h2:Heap,φ h1->(∀ o,h1.get? a=some o->h2.get? a=some o)->φ h2
def HOk(H:Hp)(h:Heap):Prop:=∀ a o,H a=some o->zo P w H h a o
end
section
variable {P:Program}{w:World}{H H':Hp}{h h':Heap}{a:Addr}{o:HO}
theorem zo.lt(x:zo P w H h a o):a<h.objs.size:=by
 cases o with
 |lst xs=>obtain⟨_,_,_,_,e⟩:=x;exact Qd e
 |tup xs=>obtain⟨_,_,_,p⟩:=x;exact p.lt
 |dK kvs=>obtain⟨_,_,_,_,o,_,_,e,_⟩:=x;exact Qd e
 |dT kvs=>obtain⟨_,_,_,_,o,_,_,e,_⟩:=x;exact Qd e
 |set S n=>obtain⟨o,_,_,_,e,_⟩:=x;exact Qd e
 |ins C dx fs=>obtain⟨_,_,_,e,_⟩:=x;exact Qd e
 |own y=>obtain⟨_,e⟩:=x;exact Qd e
 |xd fs=>obtain⟨_,⟨_,_,_,e,_⟩,_⟩:=x;exact Qd e
 |rng lo hi=>obtain⟨_,_,_,e⟩:=x;exact Qd e
 |frz ob u=>obtain⟨e,_⟩:=x;exact Qd e
 |tbl ps=>exact Qd (show h.get? a=some _ from x)
 |met f y=>exact Qd (show h.get? a=some _ from x)
 |ext φ=>obtain⟨_,⟨_,e⟩,_⟩:=x;exact Qd e
theorem Paired.mapP{α β:Type}{F G:α->β->Prop}:∀{l₁:List α}{l₂:List β},Paired F l₁ l₂->(∀ a b,F a b->G a b)->Paired G l₁ l₂
 |_,_,.nil,_=>.nil
 |_,_,.cons r t,f=>.cons (f _ _ r) (Paired.mapP t f)
theorem zo.stay(x:zo P w H h a o)(k:∀ b u,(b=a∨H b=some (.own a))->h.get? b=some u->h'.get? b=some u)(ho:∀ b,H b=some (.own a)->H' b=some (.own a))(ht:∀ b xs,H b=some (.tup xs)->H' b=some (.tup xs)):zo P w H' h' a o:=by
 induction o with
 |lst xs=>obtain⟨z,its,n,r,e⟩:=x;exact⟨z,its,n,r,k _ _ (.inl rfl) e⟩
 |tup xs=>obtain⟨z,its,r,ob,e,c⟩:=x;exact⟨z,its,r,ob,k _ _ (.inl rfl) e,c⟩
 |dK kvs=>obtain⟨z,y,vs,r,ob,es,ep,e,c⟩:=x;exact⟨z,y,vs,r,ob,es,ep,k _ _ (.inl rfl) e,c⟩
 |dT kvs =>
  obtain⟨z,y,xs,r,ob,es,ep,e,c⟩:=x;exact⟨z,y,xs,Paired.mapP r λ p q z=>⟨z.1,ht _ _ z.2.1,z.2.2⟩,ob,es,ep,k _ _ (.inl rfl) e,c⟩
 |set S n=>obtain⟨ob,es,ep,t,e,c⟩:=x;exact⟨ob,es,ep,t,k _ _ (.inl rfl) e,c⟩
 |ins C dx fs =>
  obtain⟨d,z,ne,e,mA,⟨od,es,ep,e2,c⟩,r⟩:=x;exact⟨ho _ d,z,ne,k _ _ (.inl rfl) e,mA,⟨od,es,ep,k _ _ (.inr d) e2,c⟩,r⟩
 |own y=>obtain⟨ob,e⟩:=x;exact⟨ob,k _ _ (.inl rfl) e⟩
 |xd fs=>obtain⟨mA,⟨od,es,ep,e,c⟩,r⟩:=x;exact⟨mA,⟨od,es,ep,k _ _ (.inl rfl) e,c⟩,r⟩
 |rng lo hi=>obtain⟨t,u,v,e⟩:=x;exact⟨t,u,v,k _ _ (.inl rfl) e⟩
 |frz ob u ih=>obtain⟨e,q⟩:=x;exact⟨k _ _ (.inl rfl) e,ih q⟩
 |tbl ps =>
  have e:h.get? a=some { cls:=.none,data:=.fields ps }:=x;show h'.get? a=some { cls:=.none,data:=.fields ps }
  exact k a _ (.inl rfl) e
 |met f y =>
  have e:h.get? a=some (W.methodObj (.ref f) (.ref y)):=x;show h'.get? a=some (W.methodObj (.ref f) (.ref y))
  exact k a _ (.inl rfl) e
 |ext φ=>obtain⟨p,⟨o,e⟩,st⟩:=x;exact⟨st _ _ p λ o q=>k _ _ (.inl rfl) q,⟨o,k _ _ (.inl rfl) e⟩,st⟩
theorem HOk.lt(x:HOk P w H h)(e:H a=some o):a<h.objs.size:=(x a o e).lt
theorem HOk.fresh(x:HOk P w H h)(e:h.objs.size<=a):H a=none:=by
 cases q:H a with
 |none=>rfl
 |some u=>exact absurd (Y6 (x.lt q) e) (Jx _)
theorem HOk.kept(x:HOk P w H h)(k:∀ b u,h.get? b=some u->h'.get? b=some u):HOk P w H h':=λ a o e =>
 (x a o e).stay (λ b u _ q=>k b u q) (λ _ q=>q) λ _ _ q=>q
theorem HOk.laid(x:HOk P w H h)(k:∀ b u,h.get? b=some u->h'.get? b=some u)(hp:h.objs.size<=a)(new:zo P w (upd H a o) h' a o):HOk P w (upd H a o) h':=λ b u e=>by
 have hn:=x.fresh hp;by_cases hb:b=a
 ·subst hb;rw[qc] at e;cases e;exact new
 ·rw[qt hb] at e;exact(x b u e).stay (λ c v _ q=>k c v q) (λ c q=>by rw[qt (qZ q hn)];exact q) λ c xs q=>by rw[qt (qZ q hn)];exact q
end
def Rd(H:Hp)(a:Addr)(u:HO):Prop:=H a=some u∨∃ o,H a=some (.frz o u)
theorem Rd.of{H:Hp}{a:Addr}{u:HO}(h:H a=some u):Rd H a u:=.inl h
theorem Rd.ok{P:Program}{w:World}{H:Hp}{h:Heap}{a:Addr}{u:HO}(r:Rd H a u)(x:HOk P w H h):zo P w H h a u:=by
 rcases r with r|⟨o,r⟩
 ·exact x a u r
 ·obtain⟨_,q⟩:=x a _ r;exact q
def Mut:Option HO->Prop
 |some (.lst _)=>True
 |some (.dK _)=>True
 |some (.dT _)=>True
 |some (.set _ _)=>True
 |some (.ins _ _ _)=>True
 |some (.ext _)=>True
 |_=>False
section
variable {P:Program}{w:World}{H:Hp}{h h':Heap}{x e:Addr}{o':HO}
theorem HOk.write(ok:HOk P w H h)(mu:Mut (H x))(he:e=x∨H e=some (.own x))(k:∀ b u,b≠e->h.get? b=some u->h'.get? b=some u)(bQ:∃ u,h'.get? e=some u)(new:zo P w (upd H x o') h' x o'):HOk P w (upd H x o') h':=λ b u q=>by
 have mT:∀ c y,H c=some (.own y)->c≠x:=λ c y r z=>by subst z;rw[r] at mu;exact mu
 have uS:∀ c xs,H c=some (.tup xs)->c≠x:=λ c xs r z=>by subst z;rw[r] at mu;exact mu
 by_cases hb:b=x
 ·subst hb;rw[qc] at q;cases q;exact new
 ·rw[qt hb] at q;by_cases hbe:b=e
  ·have q':H b=some (.own x):=by
    rcases he with z|z
    ·exact absurd (hbe.trans z) hb
    ·rw[hbe];exact z
   rw[q] at q';cases q';obtain⟨v,hv⟩:=bQ;exact⟨v,by rw[hbe];exact hv⟩
  ·refine(ok b u q).stay (λ c v hc r=>k c v ?_ r) (λ c r=>by rw[qt (mT c b r)];exact r) λ c xs r=>by rw[qt (uS c xs r)];exact r
   rcases hc with rfl|hc
   ·exact hbe
   ·rintro rfl;rcases he with z | z
    ·exact mT c b hc z
    ·rw[hc] at z;cases z;exact hb rfl
end
structure Un(fs ex:List Addr)(H H':Hp)(h h':Heap):Prop where
 keep:∀ b o,h.get? b=some o->H b=none->b∉fs->b∉ex->h'.get? b=some o
 slot:∀ b o,h.get? b=some o->H b=none->b∈fs->b∉ex->∃ sl,h'.get? b=some { o with slots:=sl }
 free:∀ b o,h.get? b=some o->H b=none->b∉ex->H' b=none
 there:∀ b o,h.get? b=some o->b∉ex->∃ o',h'.get? b=some o'
 tups:∀ b xs,H b=some (.tup xs)->H' b=some (.tup xs)
 frzs:∀ b o u,H b=some (.frz o u)->H' b=some (.frz o u)
 tbls:∀ b ps,H b=some (.tbl ps)->∃ more,H' b=some (.tbl (ps++more))
section
variable {fs R3 ex ex':List Addr}{H H1 H2:Hp}{h h1 h2 h':Heap}{a x e:Addr}{o:HO}
theorem Un.any(u:Un fs ex H H1 h h1){b:Addr}{ob:Obj}(q:h.get? b=some ob)(n:H b=none)(hx:b∉ex):∃ sl,h1.get? b=some { ob with slots:=sl }:=by
 by_cases hb:b∈fs
 ·exact u.slot b ob q n hb hx
 ·exact⟨ob.slots,u.keep b ob q n hb hx⟩
theorem Un.kept(k:∀ b u,h.get? b=some u->h'.get? b=some u):Un fs ex H H h h':=
 ⟨λ b ob q _ _ _=>k b ob q,λ b ob q _ _ _=>⟨ob.slots,k b ob q⟩,λ _ _ _ n _=>n,λ b ob q _=>⟨ob,k b ob q⟩,λ _ _ q=>q,λ _ _ _ q=>q,λ _ ps q=>⟨#[],by rw[q];simp⟩⟩
theorem Un.refl:Un fs ex H H h h:=Un.kept λ _ _ q=>q
theorem Un.laid(k:∀ b u,h.get? b=some u->h'.get? b=some u)(hp:h.objs.size<=a)(hn:H a=none):Un fs ex H (upd H a o) h h' where
 keep:=λ b u q _ _ _=>k b u q
 slot:=λ b u q _ _ _=>⟨u.slots,k b u q⟩
 free:=λ b u q n _=>by rw[qt (Qe (Y6 (Qd q) hp))];exact n
 there:=λ b u q _=>⟨u,k b u q⟩
 tups:=λ b xs q=>by rw[qt (qZ q hn)];exact q
 frzs:=λ b u xs q=>by rw[qt (qZ q hn)];exact q
 tbls:=λ b ps q=>⟨#[],by rw[qt (qZ q hn),q];simp⟩
theorem Un.write(mu:Mut (H x))(he:e=x∨H e=some (.own x))(k:∀ b u,b≠e->h.get? b=some u->h'.get? b=some u)(bQ:∃ u,h'.get? e=some u):Un fs ex H (upd H x o) h h':=by
 have hx:∀ b,H b=none->b≠x:=λ b n z=>by subst z;rw[n] at mu;exact mu
 have hb:∀ b,H b=none->b≠e:=λ b n z=>by
  subst z;rcases he with r|r
  ·exact hx b n r
  ·rw[n] at r;cases r
 have hm:∀ b u,H b=some u->¬ Mut (some u)->b≠x:=λ b u q nm z=>by subst z;rw[q] at mu;exact nm mu
 refine⟨λ b u q n _ _=>k b u (hb b n) q,λ b u q n _ _=>⟨u.slots,k b u (hb b n) q⟩,λ b u q n _=>by rw[qt (hx b n)];exact n,λ b u q _=>?_,
  λ b xs q=>by rw[qt (hm b _ q λ z=>z)];exact q,λ b u xs q=>by rw[qt (hm b _ q λ z=>z)];exact q,λ b ps q=>⟨#[],by rw[qt (hm b _ q λ z=>z),q];simp⟩⟩
 by_cases hbe:b=e
 ·subst hbe;exact bQ
 ·exact⟨u,k b u hbe q⟩
end
noncomputable def trk(h:Heap)(H:Hp):List Addr:=(List.range h.objs.size).filter λ a=>(H a).isSome
noncomputable def qdy(h:Heap)(H:Hp):Heap:=W.hideAll h (trk h H)
theorem qhc(h:Heap)(H:Hp):(qdy h H).objs.size=h.objs.size:=W.hideAll_size _ _
theorem qh7{h:Heap}{H:Hp}{b:Addr}{o:Obj}(e:h.get? b=some o)(n:H b=none):(qdy h H).get? b=some o:=
 W.hideAll_get _ e λ hm=>by
  have q:(H b).isSome=true:=(Uq.mp hm).2;rw[n] at q;simp at q
theorem qjV{h:Heap}{H:Hp}{b:Addr}{o:Obj}(e:(qdy h H).get? b=some o):h.get? b=some o/\H b=none:=by
 have e':h.get? b=some o:=W.of_hideAll (trk h H) e;refine⟨e',?_⟩;cases q:H b with
 |none=>rfl
 |some x =>
  have hm:b∈trk h H:=Uq.mpr ⟨Jh.mpr (Qd e'),by simp[q]⟩;have z:(qdy h H).get? b=none:=W.hideAll_none (trk h H) hm;rw[z] at e;cases e
noncomputable def qjW(g h:Heap)(L:Addr):List (Addr×Obj):=(List.range h.objs.size).filterMap λ a=>if a=L∨(g.get? a).isSome=true then none else(h.get? a).map λ o=>(a,o)
noncomputable def rest(g h:Heap)(L d:Addr):List (Addr×Obj):=(qjW g h L).filter λ p=>decide (p.1≠d)
structure Mod(K:W.Frag)(mg:Str->Option Value)(base:Heap):Prop where
 kin:K.In base
 glob:base.Ns mainGlobals mg
 blt:∃ mb,base.Ns builtinsNs mb/\∀ x:Str,x≠"__name__"->mb x=bootBuiltins x
 nolimit:base.NoLimit
structure Cx where 
 prog:Program
 w:World
 K:W.Frag
 mg:Str->Option Value
 base:Heap
 A:Around
 N:List Str
 s₀:Shared
 H₀:Hp
 env:Env
 outer:List Env
 stack:List Env
 ex:List Addr
 fn:Str->Bool
 calm:Bool
 pn:List (Addr×Obj)
 xe:Value->Shared->Prop
noncomputable def frs(l:List Env):List Addr:=l.filterMap (·.frame)
noncomputable abbrev Cx.fs(X:Cx):List Addr:=frs X.outer
def Vis(sc:Scope)(x:Str):Prop:=sc.names.lookup x=some .local∨sc.names.lookup x=some .cell∨sc.names.lookup x=some .free
def Loc(sc:Scope)(x:Str):Prop:=sc.names.lookup x=some .local∨sc.names.lookup x=some .cell
def qm9(env:Env)(h:Heap)(m:Str->Option Value)(x:Str)(u:Value):Prop:=
 (env.kindOf x=some .local/\m x=some u)∨((env.kindOf x=some .cell∨env.kindOf x=some .free)/\∃ c,env.cells.lookup x=some c/\h.IsCell c (some u))
structure Cx.Ok(X:Cx):Prop where
 mod:Mod X.K X.mg X.base
 kind:X.env.scope.kind=.function
 glob:X.env.globals=mainGlobals
 blt:X.env.builtins=builtinsNs
 above:X.s₀.heap.objs.size<=X.env.locals
 inj:∀ x y c,X.env.cells.lookup x=some c->X.env.cells.lookup y=some c->x=y
 has:∀ x,(X.env.kindOf x=some .cell∨X.env.kindOf x=some .free)->∃ c,X.env.cells.lookup x=some c
 cab:∀ x c,X.fn x=true->X.env.cells.lookup x=some c->X.s₀.heap.objs.size<=c
 hd:X.calm=true->X.A.handled=none
 frames:X.A.frames=some X.stack
 stk:X.stack=X.outer∨(X.stack=X.env::X.outer/\X.env.frame=some X.env.locals)
 exf:∀ b∈X.ex,b≠X.env.locals/\∀ x c,X.env.cells.lookup x=some c->c≠b
 bs:∀ b o,X.base.get? b=some o->X.s₀.heap.get? b=some o/\X.H₀ b=none
 bsz:X.base.objs.size<=X.s₀.heap.objs.size
 noex:∀ b o,X.base.get? b=some o->b∉X.ex
 exfs:∀ b∈X.ex,b∉X.fs
 funs:X.s₀.heap.FunFrames X.base X.outer
 frf:∀ b∈X.fs,X.H₀ b=none
structure Inv(X:Cx)(pins:List (Addr×Obj))(σ:List (Option V))(H:Hp)(s:Shared):Prop where
 ok:X.Ok
 os:s.os=X.s₀.os
 bare:AllBare s.gens
 base:Un X.fs X.ex X.H₀ H X.s₀.heap s.heap
 loc:∃ m,s.heap.Ns X.env.locals m/\∀(i:Nat)(x:Str)(v:V),X.N[i]?=some x->σ[i]?=some (some v)->Vis X.env.scope x->∃ u,qO v u/\qm9 X.env s.heap m x u
 cell:∀ x c,X.env.cells.lookup x=some c->∃ v,s.heap.IsCell c v
 free:H X.env.locals=none
 freeC:∀ x c,X.env.cells.lookup x=some c->H c=none
 pin:∀ p∈X.pn++pins,s.heap.get? p.1=some p.2/\H p.1=none/\p.1≠X.env.locals/\p.1∉X.fs/\∀ v,p.2.data≠.cell v
 hok:HOk X.prog X.w H s.heap
 len:σ.length=X.N.length
section
variable {X:Cx}{pins:List (Addr×Obj)}{σ:List (Option V)}{H H':Hp}{s:Shared}{h':Heap}
theorem Cx.Ok.nofr(ok:X.Ok){b:Addr}{o:Obj}(e:X.base.get? b=some o):b∉X.fs:=λ hb=>by
 have:=(ok.funs.mem hb).1
 rw[e] at this;cases this
theorem Inv.bs(I:Inv X pins σ H s):∀ b o,X.base.get? b=some o->s.heap.get? b=some o/\H b=none:=λ b o e =>
 ⟨I.base.keep b o (I.ok.bs b o e).1 (I.ok.bs b o e).2 (I.ok.nofr e) (I.ok.noex b o e),I.base.free b o (I.ok.bs b o e).1 (I.ok.bs b o e).2 (I.ok.noex b o e)⟩
theorem Inv.bk(I:Inv X pins σ H s):∀ b o,X.base.get? b=some o->s.heap.get? b=some o:=λ b o e=>(I.bs b o e).1
theorem Inv.mod(I:Inv X pins σ H s):Mod X.K X.mg X.base:=I.ok.mod
theorem Inv.kIn(I:Inv X pins σ H s):X.K.In s.heap:=I.ok.mod.kin.keeps I.bk
theorem Inv.fr(I:Inv X pins σ H s):∃ m,Fr X.base X.env.locals s.heap m:=
 let ⟨m,hn,_⟩:=I.loc
 ⟨m,hn,I.bk,Qf I.ok.bsz I.ok.above⟩
theorem Inv.lt(I:Inv X pins σ H s):X.env.locals<s.heap.objs.size:=let ⟨_,hn,_⟩:=I.loc;hn.lt
theorem Inv.sz(I:Inv X pins σ H s):X.s₀.heap.objs.size<=s.heap.objs.size:=Qf I.ok.above (Qg I.lt)
theorem Inv.nofs(I:Inv X pins σ H s){a:Addr}(h:s.heap.objs.size<=a):a∉X.fs:=λ hb=>by
 obtain⟨_,o,ho,_⟩:=I.ok.funs.mem hb;exact absurd (Y6 (Qd ho) (Qf I.sz h)) (Jx _)
theorem Inv.cne(I:Inv X pins σ H s):∀ x c,X.env.cells.lookup x=some c->c≠X.env.locals:=λ x c e z=>by
 obtain⟨v,o,ho,hd⟩:=I.cell x c e;obtain⟨m,⟨o',es,ep,cW,oR,_⟩,_⟩:=I.loc;rw[z,cW] at ho;cases ho;rw[oR] at hd;cases hd
theorem Inv.funs(I:Inv X pins σ H s):s.heap.FunFrames X.base X.outer:=by
 have all:∀(l:List Env),(∀ b∈frs l,b∈X.fs)->X.s₀.heap.FunFrames X.base l->s.heap.FunFrames X.base l:=by
  intro l;induction l with
  |nil=>intro _ _;trivial
  |cons env r ih =>
   intro hs hl;obtain⟨hk,⟨L,o,hf,hn,ho,hd⟩,hr⟩:=hl;have hL:L∈X.fs:=hs L (by unfold frs;rw[Yq,hf];exact Y7);obtain⟨sl,e⟩:=I.base.slot L o ho (I.ok.frf L hL) hL λ z=>I.ok.exfs L z hL
   exact⟨hk,⟨L,_,hf,hn,e,hd⟩,ih (λ b hb=>hs b (by unfold frs;rw[Yq,hf];exact Yf _ hb)) hr⟩
 exact all X.outer (λ _ hb=>hb) I.ok.funs
theorem Inv.stack(I:Inv X pins σ H s):s.heap.FunFrames X.base X.stack:=by
 rcases I.ok.stk with e|⟨e,hf⟩
 ·rw[e];exact I.funs
 ·rw[e];obtain⟨m,hn,_⟩:=I.loc;refine .cons (by rw[I.ok.kind];decide) hf hn ?_ I.funs;exact Heap.get?_none_of_le (Qf I.ok.bsz I.ok.above)
theorem Inv.stkSub(I:Inv X pins σ H s):∀ b∈frs X.stack,b∈X.env.locals::X.fs:=λ b hb=>by
 rcases I.ok.stk with e|⟨e,hf⟩
 ·rw[e] at hb;exact Yf _ hb
 ·rw[e] at hb;unfold frs at hb;rw[Yq,hf] at hb;exact hb
theorem Inv.stkFree(I:Inv X pins σ H s):∀ b∈frs X.stack,H b=none:=λ b hb=>by
 rcases Jy.mp (I.stkSub b hb) with e|hb
 ·rw[e];exact I.free
 ·obtain⟨_,o,ho,_⟩:=I.ok.funs.mem hb;exact I.base.free b o ho (I.ok.frf b hb) λ z=>I.ok.exfs b z hb
theorem Inv.step{g':Array GenState}{t':Nat}{d':Drawn}{ch:List Addr}(I:Inv X pins σ H s)(bS:∀ b∈ch,(b∈X.ex∨X.s₀.heap.objs.size<=b)/\b≠X.env.locals/\(∀ x c,X.env.cells.lookup x=some c->c≠b)/\∀ p∈X.pn++pins,p.1≠b)(keep:∀ b o,b≠X.env.locals->b∉X.fs->b∉ch->s.heap.get? b=some o->H b=none->h'.get? b=some o)(slot:∀ b o,b≠X.env.locals->b∈X.fs->b∉ch->s.heap.get? b=some o->H b=none->∃ sl,h'.get? b=some { o with slots:=sl })(free:∀ b o,b∉ch->s.heap.get? b=some o->H b=none->H' b=none)(there:∀ b o,b∉ch->s.heap.get? b=some o->∃ o',h'.get? b=some o')(tups:∀ b xs,H b=some (.tup xs)->H' b=some (.tup xs))(frzs:∀ b o u,H b=some (.frz o u)->H' b=some (.frz o u))(tbls:∀ b ps,H b=some (.tbl ps)->∃ more,H' b=some (.tbl (ps++more)))(ns:∀ m,s.heap.Ns X.env.locals m->h'.Ns X.env.locals m)(hok:HOk X.prog X.w H' h')(hg:AllBare g'):
  Inv X pins σ H' { s with heap:=h',gens:=g',drawn:=d',toks:=t' }:=by
 have neL:∀ b o,X.s₀.heap.get? b=some o->b≠X.env.locals:=λ b o e=>Qe (Y6 (Qd e) I.ok.above)
 have sE:∀ b o,X.s₀.heap.get? b=some o->b∉X.ex->b∉ch:=λ b o e hx hb=>by
  rcases(bS b hb).1 with z|z
  ·exact hx z
  ·exact absurd (Y6 (Qd e) z) (Jx _)
 have fU:∀ x c,X.env.cells.lookup x=some c->∀ v,s.heap.IsCell c v->h'.IsCell c v:=λ x c e v ⟨o,ho,hd⟩=>by
  have mV:c∉ch:=λ z=>(bS c z).2.2.1 x c e rfl
  by_cases hc:c∈X.fs
  ·obtain⟨sl,q⟩:=slot c o (I.cne x c e) hc mV ho (I.freeC x c e);exact⟨_,q,hd⟩
  ·exact⟨o,keep c o (I.cne x c e) hc mV ho (I.freeC x c e),hd⟩
 refine⟨I.ok,I.os,hg,⟨λ b o e n hb hx=>?_,λ b o e n hb hx=>?_,λ b o e n hx=>?_,λ b o e hx=>?_,λ b xs e=>tups b xs (I.base.tups b xs e),λ b o xs e=>frzs b o xs (I.base.frzs b o xs e),λ b ps e=>?_⟩,?_,λ x c e=>?_,?_,λ x c e=>?_,λ p hp=>?_,hok,I.len⟩
 ·exact keep b o (neL b o e) hb (sE b o e hx) (I.base.keep b o e n hb hx) (I.base.free b o e n hx)
 ·obtain⟨sl,e1⟩:=I.base.slot b o e n hb hx;obtain⟨sl',e2⟩:=slot b _ (neL b o e) hb (sE b o e hx) e1 (I.base.free b o e n hx);exact⟨sl',e2⟩
 ·obtain⟨o',e1⟩:=I.base.there b o e hx;exact free b o' (sE b o e hx) e1 (I.base.free b o e n hx)
 ·obtain⟨o',e1⟩:=I.base.there b o e hx;exact there b o' (sE b o e hx) e1
 ·obtain⟨m1,e1⟩:=I.base.tbls b ps e;obtain⟨m2,e2⟩:=tbls b _ e1;exact⟨m1++m2,by rw[e2,Array.append_assoc]⟩
 ·obtain⟨m,hn,hl⟩:=I.loc;refine⟨m,ns m hn,λ i x v e1 e2 e3=>?_⟩;obtain⟨u,r,l⟩:=hl i x v e1 e2 e3;refine⟨u,r,?_⟩;rcases l with l | ⟨k,c,e,z⟩
  ·exact .inl l
  ·exact .inr ⟨k,c,e,fU x c e _ z⟩
 ·obtain⟨v,z⟩:=I.cell x c e;exact⟨v,fU x c e v z⟩
 ·obtain⟨m,⟨o,_,_,ho,_⟩,_⟩:=I.loc;exact free _ o (λ z=>(bS _ z).2.1 rfl) ho I.free
 ·obtain⟨v,o,ho,hd⟩:=I.cell x c e;exact free c o (λ z=>(bS c z).2.2.1 x c e rfl) ho (I.freeC x c e)
 ·obtain⟨e,n,ne,nf,d⟩:=I.pin p hp;have mV:p.1∉ch:=λ z=>(bS p.1 z).2.2.2 p hp rfl
  exact⟨keep p.1 p.2 ne nf mV e n,free p.1 p.2 mV e n,ne,nf,d⟩
theorem Inv.un{t':Nat}(I:Inv X pins σ H s)(u:Un X.fs [] H H' s.heap h')(hok:HOk X.prog X.w H' h'):Inv X pins σ H' { s with heap:=h',toks:=t' }:=by
 obtain⟨m,⟨o,es,ep,ho,r⟩,_⟩:=id I.loc;obtain⟨sl,hL⟩:=u.any ho I.free (by simp);exact I.step (g':=s.gens) (d':=s.drawn) (ch:=[]) (λ _ z=>nomatch z) (λ b o _ hb _ e n=>u.keep b o e n hb (by simp)) (λ b o _ hb _ e n=>u.slot b o e n hb (by simp)) (λ b o _ e n=>u.free b o e n (by simp)) (λ b o _ e=>u.there b o e (by simp)) u.tups u.frzs u.tbls (λ m' hm=>by
  obtain⟨o',p6,ep',cW,r'⟩:=hm;rw[ho] at cW;cases cW;exact⟨_,p6,ep',hL,r'⟩) hok I.bare
theorem Inv.call{g':Array GenState}{t':Nat}{d':Drawn}{ch:List Addr}(I:Inv X pins σ H s)(u:Un (frs X.stack) ch H H' s.heap h')(hok:HOk X.prog X.w H' h')(hg:AllBare g')(bS:∀ b∈ch,(b∈X.ex∨X.s₀.heap.objs.size<=b)/\b≠X.env.locals/\(∀ x c,X.env.cells.lookup x=some c->c≠b)/\∀ p∈X.pn++pins,p.1≠b):
  Inv X pins σ H' { s with heap:=h',gens:=g',drawn:=d',toks:=t' }:=by
 obtain⟨m,⟨o,es,ep,ho,r⟩,_⟩:=id I.loc;obtain⟨sl,hL⟩:=u.any ho I.free λ z=>(bS _ z).2.1 rfl
 exact I.step (ch:=ch) bS (λ b o hL hb hc e n=>u.keep b o e n (λ z=>(Jy.mp (I.stkSub b z)).elim hL hb) hc) (λ b o _ _ hc e n=>u.any e n hc) (λ b o hc e n=>u.free b o e n hc) (λ b o hc e=>u.there b o e hc) u.tups u.frzs u.tbls (λ m' hm=>by
  obtain⟨o',p6,ep',cW,r'⟩:=hm;rw[ho] at cW;cases cW;exact⟨_,p6,ep',hL,r'⟩) hok hg
theorem Inv.turned{t':Nat}{it:Addr}(I:Inv X pins σ H s)(k:∀ b o,b≠it->s.heap.get? b=some o->h'.get? b=some o)(hn:H it=none)(hL:it≠X.env.locals)(h1:it∈X.ex∨X.s₀.heap.objs.size<=it)(h2:∀ x c,X.env.cells.lookup x=some c->c≠it)(h3:∀ p∈X.pn++pins,p.1≠it):Inv X pins σ H { s with heap:=h',toks:=t' }:=by
 have nit:∀ b u,H b=some u->b≠it:=λ b u e z=>by rw[z,hn] at e;cases e
 refine I.step (g':=s.gens) (d':=s.drawn) (ch:=[it]) (λ b hb=>?_) (λ b o _ _ hc e _=>k b o (λ z=>hc (by simp[z])) e) (λ b o _ _ hc e _=>⟨o.slots,k b o (λ z=>hc (by simp[z])) e⟩) (λ _ _ _ _ n=>n)
  (λ b o hc e=>⟨o,k b o (λ z=>hc (by simp[z])) e⟩) (λ _ _ e=>e) (λ _ _ _ e=>e) (λ b ps e=>⟨#[],by rw[e];simp⟩) (λ m hm=>?_) (λ b u e=>?_) I.bare
 ·have e:b=it:=by simpa using hb
  subst e;exact⟨h1,hL,h2,h3⟩
 ·obtain⟨o,es,ep,ho,r⟩:=hm;exact⟨o,es,ep,k _ o (Vb hL) ho,r⟩
 ·refine(I.hok b u e).stay (λ c v hc q=>k c v ?_ q) (λ _ q=>q) λ _ _ q=>q
  rcases hc with z|z
  ·rw[z];exact nit b u e
  ·exact nit c _ z
theorem Inv.tok(I:Inv X pins σ H s)(t:Nat):Inv X pins σ H { s with toks:=t }:=I.un (h':=s.heap) (t':=t) Un.refl I.hok
theorem Inv.kept{t':Nat}(I:Inv X pins σ H s)(k:∀ b u,s.heap.get? b=some u->h'.get? b=some u):Inv X pins σ H { s with heap:=h',toks:=t' }:=I.un (Un.kept k) (I.hok.kept k)
theorem Inv.laid{a:Addr}{o:HO}{t':Nat}(I:Inv X pins σ H s)(k:∀ b u,s.heap.get? b=some u->h'.get? b=some u)(hp:s.heap.objs.size<=a)(new:zo X.prog X.w (upd H a o) h' a o):
  Inv X pins σ (upd H a o) { s with heap:=h',toks:=t' }:=I.un (Un.laid k hp (I.hok.fresh hp)) (I.hok.laid k hp new)
theorem Inv.write{x e:Addr}{o:HO}{t':Nat}(I:Inv X pins σ H s)(mu:Mut (H x))(he:e=x∨H e=some (.own x))(k:∀ b u,b≠e->s.heap.get? b=some u->h'.get? b=some u)(bQ:∃ u,h'.get? e=some u)(new:zo X.prog X.w (upd H x o) h' x o):Inv X pins σ (upd H x o) { s with heap:=h',toks:=t' }:=I.un (Un.write mu he k bQ) (I.hok.write mu he k bQ new)
theorem Inv.weak{σ':List (Option V)}(I:Inv X pins σ H s)(hl:σ'.length=σ.length)(w:∀(i:Nat) v,σ'[i]?=some (some v)->σ[i]?=some (some v)):Inv X pins σ' H s:=
 ⟨I.ok,I.os,I.bare,I.base,let ⟨m,hn,V2⟩:=I.loc;⟨m,hn,λ i x v e1 e2 e3=>V2 i x v e1 (w i v e2) e3⟩,I.cell,I.free,I.freeC,I.pin,I.hok,hl.trans I.len⟩
theorem Inv.pins_of{eN:List (Addr×Obj)}(I:Inv X pins σ H s)(h:∀ p∈eN,s.heap.get? p.1=some p.2/\H p.1=none/\p.1≠X.env.locals/\p.1∉X.fs/\∀ v,p.2.data≠.cell v):Inv X eN σ H s:=
 ⟨I.ok,I.os,I.bare,I.base,I.loc,I.cell,I.free,I.freeC,λ p hp=>(Ur.mp hp).elim (λ z=>I.pin p (Yg _ z)) (h p),I.hok,I.len⟩
theorem qek{N:List Str}(hN:N.Nodup){i j:Nat}{x:Str}(a:N[i]?=some x)(b:N[j]?=some x):i=j:=by
 obtain⟨h1,e1⟩:=Xm.mp a;obtain⟨h2,e2⟩:=Xm.mp b;exact(List.getElem_inj hN).mp (e1.trans e2.symm)
theorem qcU{M:Model}{A:Around}{E:Value->Shared->Prop}{i:Nat}{x:Str}{v:V}{u:Value}{Q:Unit->Shared->Prop}(I:Inv X pins σ H s)(hN:X.N.Nodup)(hi:X.N[i]?=some x)(hx:Loc X.env.scope x)(r:qO v u)(h:∀ s',Inv X pins (σ.set i (some v)) H s'->(∃ a,Heap.SameBut a s.heap s'.heap/\(a=X.env.locals∨X.env.cells.lookup x=some a))->Q () s')(hf:X.fn x=true∨X.env.scope.names.lookup x=some .local:=by first|exact .inl rfl|exact .inr rfl|assumption):wpAny M A (storeName X.env x u) Q E s:=by
 obtain⟨m,hn,hl⟩:=id I.loc;have hcls:(X.env.scope.kind == .class || (X.env.scope.kind == .module && X.env.locals != X.env.globals))=false:=by rw[I.ok.kind];rfl
 have hiσ:i < σ.length:=by rw[I.len];exact(Xm.mp hi).1
 have cne:=I.cne;have P5:∀{a:Addr}{h':Heap},(∃ o,s.heap.get? a=some o/\H a=none)->Heap.SameBut a s.heap h'->HOk X.prog X.w H h':=λ{a h'} ha hs b ob e=>by
  obtain⟨_,_,A2⟩:=ha;refine(I.hok b ob e).stay (λ c w' hc q=>(hs.2 c ?_).trans q) (λ _ q=>q) λ _ _ q=>q
  rintro rfl;rcases hc with rfl|hc
  ·rw[A2] at e;cases e
  ·rw[A2] at hc;cases hc
 rcases hx with hk|hk
 ·refine wpAny_storeName_local hk hn (λ h' nZ hs=>?_) hcls;obtain⟨oL,_,_,cV,_⟩:=id hn;refine h _ ⟨I.ok,I.os,I.bare,⟨λ b o e n hb hx=>?_,λ b o e n hb hx=>?_,I.base.free,λ b o e hx=>?_,I.base.tups,I.base.frzs,I.base.tbls⟩,⟨_,nZ,λ j y v' e1 e2 e3=>?_⟩,λ y c e=>?_,I.free,I.freeC,λ p hp=>?_,P5 ⟨oL,cV,I.free⟩ hs,by simpa using I.len⟩ ⟨_,hs,.inl rfl⟩
  ·exact(hs.2 b (Qe (Y6 (Qd e) I.ok.above))).trans (I.base.keep b o e n hb hx)
  ·obtain⟨sl,e1⟩:=I.base.slot b o e n hb hx;exact⟨sl,(hs.2 b (Qe (Y6 (Qd e) I.ok.above))).trans e1⟩
  ·obtain⟨o',e1⟩:=I.base.there b o e hx;exact⟨o',(hs.2 b (Qe (Y6 (Qd e) I.ok.above))).trans e1⟩
  ·by_cases hj:j=i
   ·subst hj;rw[hi] at e1;cases e1;rw[List.getElem?_set_self hiσ] at e2;cases e2
    exact⟨u,r,.inl ⟨hk,by simp⟩⟩
   ·rw[List.getElem?_set_ne (Vb hj)] at e2;obtain⟨u',r',q⟩:=hl j y v' e1 e2 e3;refine⟨u',r',?_⟩;rcases q with⟨k,e⟩ | ⟨k,c,e,z⟩
    ·refine .inl ⟨k,?_⟩
     have:y≠x:=λ e=>hj (qek hN e1 (e ▸ hi))
     simp[this,e]
    ·exact .inr ⟨k,c,e,z.sameBut hs (cne y c e)⟩
  ·obtain⟨w',z⟩:=I.cell y c e;exact⟨w',z.sameBut hs (cne y c e)⟩
  ·obtain⟨e,n,ne,nf,d⟩:=I.pin p hp;exact⟨(hs.2 p.1 ne).trans e,n,ne,nf,d⟩
 ·have xU:X.fn x=true:=by
   rcases hf with z|z
   ·exact z
   ·rw[z] at hk;cases hk
  obtain⟨c,hc⟩:=I.ok.has x (.inl hk);obtain⟨w',z⟩:=I.cell x c hc;refine wpAny_storeName_cell I.ok.kind hk hc z (λ h' M0 hs=>?_);obtain⟨oc,hoc,xK⟩:=id z;refine h { s with heap:=h' } ⟨I.ok,I.os,I.bare,⟨λ b o e n hb hx=>?_,λ b o e n hb hx=>?_,I.base.free,λ b o e hx=>?_,I.base.tups,I.base.frzs,I.base.tbls⟩,⟨m,hn.sameBut hs (Vb (cne x c hc)),λ j y v' e1 e2 e3=>?_⟩,λ y c' e=>?_,I.free,I.freeC,λ p hp=>?_,P5 ⟨oc,hoc,I.freeC x c hc⟩ hs,by simpa using I.len⟩ ⟨c,hs,.inr hc⟩
  ·exact(hs.2 b (Qe (Y6 (Qd e) (I.ok.cab x c xU hc)))).trans (I.base.keep b o e n hb hx)
  ·obtain⟨sl,e1⟩:=I.base.slot b o e n hb hx;exact⟨sl,(hs.2 b (Qe (Y6 (Qd e) (I.ok.cab x c xU hc)))).trans e1⟩
  ·obtain⟨o',e1⟩:=I.base.there b o e hx;exact⟨o',(hs.2 b (Qe (Y6 (Qd e) (I.ok.cab x c xU hc)))).trans e1⟩
  ·by_cases hj:j=i
   ·subst hj;rw[hi] at e1;cases e1;rw[List.getElem?_set_self hiσ] at e2;cases e2
    exact⟨u,r,.inr ⟨.inl hk,c,hc,M0⟩⟩
   ·rw[List.getElem?_set_ne (Vb hj)] at e2;obtain⟨u',r',q⟩:=hl j y v' e1 e2 e3;refine⟨u',r',?_⟩;rcases q with q | ⟨k,c',e,z'⟩
    ·exact .inl q
    ·refine .inr ⟨k,c',e,z'.sameBut hs ?_⟩;rintro rfl;exact hj (qek hN e1 (I.ok.inj _ _ _ e hc ▸ hi))
  ·by_cases c9:c'=c
   ·subst c9;exact⟨_,M0⟩
   ·obtain⟨w2,z2⟩:=I.cell y c' e;exact⟨w2,z2.sameBut hs c9⟩
  ·obtain⟨e,n,ne,nf,d⟩:=I.pin p hp;refine⟨(hs.2 p.1 ?_).trans e,n,ne,nf,d⟩;intro q;rw[q,hoc] at e;have q':oc=p.2:=Option.some.inj e;exact d w' (by rw[<- q'];exact xK)
theorem qab{M:Model}{A:Around}{E:Value->Shared->Prop}{i:Nat}{x:Str}{v:V}{u:Value}{Q:Unit->Shared->Prop}(I:Inv X pins σ H s)(hN:X.N.Nodup)(hi:X.N[i]?=some x)(hx:Loc X.env.scope x)(r:qO v u)(h:∀ s',Inv X pins (σ.set i (some v)) H s'->Q () s')(hf:X.fn x=true∨X.env.scope.names.lookup x=some .local:=by first | exact .inl rfl | exact .inr rfl | assumption):wpAny M A (storeName X.env x u) Q E s:=
 qcU I hN hi hx r (λ s' I' _=>h s' I') hf
theorem Inv.call'{s':Shared}{ch:List Addr}(I:Inv X pins σ H s)(ho:s'.os=s.os)(u:Un (frs X.stack) ch H H' s.heap s'.heap)(hok:HOk X.prog X.w H' s'.heap)(hg:AllBare s'.gens)(bS:∀ b∈ch,(b∈X.ex∨X.s₀.heap.objs.size<=b)/\b≠X.env.locals/\(∀ x c,X.env.cells.lookup x=some c->c≠b)/\∀ p∈X.pn++pins,p.1≠b):Inv X pins σ H' s':=by
 obtain⟨h',g',d',t',o'⟩:=s';have e:o'=s.os:=ho;subst e;exact I.call (g':=g') (t':=t') (d':=d') u hok hg bS
end
abbrev XK:=Value->Option Addr->Hp->Prop
abbrev St:=List (Option V)
abbrev VK:=V->Hp->Prop
abbrev TE:=St->Hp->VK->Prop
abbrev TT:=St->Hp->(Bool->Hp->Prop)->Prop
abbrev TA:=St->Hp->(List V->Hp->Prop)->Prop
structure Ends where 
 nx:St->Hp->Prop
 rt:VK
 bk:St->Hp->Prop:=λ _ _=>False
 ct:St->Hp->Prop:=λ _ _=>False
abbrev TS:=Ends->St->Hp->Prop
def EP(X:Cx)(pins:List (Addr×Obj))(σ:St)(Q:VK)(u:Value)(s':Shared):Prop:=∃ v H',Inv X pins σ H' s'/\qO v u/\Q v H'
def TP(X:Cx)(pins:List (Addr×Obj))(σ:St)(Q:Bool->Hp->Prop)(b:Bool)(s':Shared):Prop:=∃ H',Inv X pins σ H' s'/\Q b H'
def AP(X:Cx)(pins:List (Addr×Obj))(σ:St)(Q:List V->Hp->Prop)(us:List Value)(s':Shared):Prop:=∃ vs H',Inv X pins σ H' s'/\qI vs us/\Q vs H'
def SP(X:Cx)(pins:List (Addr×Obj))(D:Ends)(f:Flow)(s':Shared):Prop:=
 match f with
 |.next=>∃ σ' H',Inv X pins σ' H' s'/\D.nx σ' H'
 |.brk=>∃ σ' H',Inv X pins σ' H' s'/\D.bk σ' H'
 |.cont=>∃ σ' H',Inv X pins σ' H' s'/\D.ct σ' H'
 |.ret u=>∃ v σ' H',Inv X pins σ' H' s'/\qO v u/\D.rt v H'
def PE(X:Cx)(e:Expr)(t:TE):Prop:=
 ∀(pins:List (Addr×Obj))(s:Shared)(σ:St)(H:Hp)(Q:VK),Inv X pins σ H s->t σ H Q->wpAny (model X.prog X.w) X.A (eval e X.env) (EP X pins σ Q) X.xe s
def PT(X:Cx)(e:Expr)(t:TT):Prop:=
 ∀(pins:List (Addr×Obj))(s:Shared)(σ:St)(H:Hp)(Q:Bool->Hp->Prop),Inv X pins σ H s->t σ H Q->wpAny (model X.prog X.w) X.A (isTrue e X.env (eval e X.env)) (TP X pins σ Q) X.xe s
def PW(X:Cx)(e:Expr)(t:TT):Prop:=
 ∀(P4:Sem Value)(pins:List (Addr×Obj))(s:Shared)(σ:St)(H:Hp)(Q:Bool->Hp->Prop),Inv X pins σ H s->t σ H Q->wpAny (model X.prog X.w) X.A (isTrue e X.env P4) (TP X pins σ Q) X.xe s
theorem PW.pt{X:Cx}{e:Expr}{t:TT}(h:PW X e t):PT X e t:=h _
def PA(X:Cx)(es:List Expr)(t:TA):Prop:=
 ∀(pos:Pos)(pins:List (Addr×Obj))(s:Shared)(σ:St)(H:Hp)(Q:List V->Hp->Prop),Inv X pins σ H s->t σ H Q->wpAny (model X.prog X.w) X.A (spliced (backTo pos (starEach es X.env))) (AP X pins σ Q) X.xe s
def PS(X:Cx)(st:Stmt)(t:TS):Prop:=
 ∀(pins:List (Addr×Obj))(s:Shared)(σ:St)(H:Hp)(D:Ends),Inv X pins σ H s->t D σ H->wpAny (model X.prog X.w) X.A (exec st X.env) (SP X pins D) X.xe s
def PSs(X:Cx)(st:List Stmt)(t:TS):Prop:=
 ∀(pins:List (Addr×Obj))(s:Shared)(σ:St)(H:Hp)(D:Ends),Inv X pins σ H s->t D σ H->wpAny (model X.prog X.w) X.A (execs st X.env) (SP X pins D) X.xe s
theorem thn{α:Type}{t:Sem α}{Q Q':α->Shared->Prop}{M:Model}{A:Around}{E:Value->Shared->Prop}{s:Shared}(h:wpAny M A t Q E s)(hQ:∀ a s,Q a s->Q' a s):wpAny M A t Q' E s:=Qy h hQ λ _ _ x=>x
section
variable {X:Cx}
theorem bin{a b:Expr}{ta tb:TE}(ha:PE X a ta)(hb:PE X b tb){pins:List (Addr×Obj)}{s:Shared}{σ:St}{H:Hp}{R:V->V->Hp->Prop}(I:Inv X pins σ H s)(h:ta σ H λ x H1=>tb σ H1 λ y H2=>R x y H2){α:Type}{Q:α->Shared->Prop}{f:Value->Value->Sem α}(hf:∀ v u s2 x y H2,Inv X pins σ H2 s2->qO x v->qO y u->R x y H2->wpAny (model X.prog X.w) X.A (f v u) Q X.xe s2):
  wpAny (model X.prog X.w) X.A (eval a X.env) (λ v s₁=>wpAny (model X.prog X.w) X.A (eval b X.env) (λ u s₂=>wpAny (model X.prog X.w) X.A (f v u) Q X.xe s₂) X.xe s₁) X.xe s:=by
 refine thn (ha pins s σ H _ I h) λ v s1 ⟨x,H1,I1,r1,q1⟩=>?_
 refine thn (hb pins s1 σ H1 _ I1 q1) λ u s2 ⟨y,H2,I2,r2,q2⟩=>?_
 exact hf v u s2 x y H2 I2 r1 r2 q2
def qel(i:Nat):TE:=λ σ H Q=>∃ v,σ[i]?=some (some v)/\Q v H
def tC(v:V):TE:=λ _ H Q=>Q v H
theorem qlb{i:Nat}{x:Str}{pos:Pos}(hN:X.N[i]?=some x)(hv:Vis X.env.scope x)(hd:(x == ("__debug__":Str))=false:=by decide)(V5:(x == ("__classdict__":Str))=false:=by decide):PE X (.Name x pos) (qel i):=by
 intro pins s σ H Q I h;obtain⟨v,e,h⟩:=h;obtain⟨m,hn,hl⟩:=I.loc;obtain⟨u,r,l⟩:=hl i x v hN e hv;have fin:EP X pins σ Q u s:=⟨v,H,I,r,h⟩;rcases l with⟨hk,hm⟩|⟨hk,c,hc,L9⟩
 ·exact wpAny_Name (wpAny_loadName_local I.ok.kind hk hn hm fin) hd
 ·rcases hk with hk | hk
  ·exact wpAny_Name (wpAny_loadName_cell I.ok.kind hk hc L9 fin) hd
  ·exact wpAny_Name (wpAny_loadName_free I.ok.kind hk hc L9 fin V5) hd
theorem qi{i j pos}:PE X (.Constant (.int i) j pos) (tC (.int i)):=λ _ _ _ H _ I h=>wpAny_Constant_int ⟨.int i,H,I.tok _,⟨_,rfl⟩,h⟩
theorem qem{b j pos}:PE X (.Constant (.bool b) j pos) (tC (.bl b)):=λ _ _ _ H _ I h=>Constant_bool ⟨.bl b,H,I,rfl,h⟩
theorem qaP{j pos}:PE X (.Constant .none j pos) (tC .non):=λ _ _ _ H _ I h=>Constant_none ⟨.non,H,I,rfl,h⟩
theorem qo{x j pos}:PE X (.Constant (.str x) j pos) (tC (.str x)):=λ _ _ _ H _ I h=>Calls.Constant_str ⟨.str x,H,I.tok _,⟨_,rfl⟩,h⟩
def Gl(X:Cx)(x:Str):Prop:=X.env.kindOf x=some .globalImplicit
theorem qbr{E:Value->Shared->Prop}{pins:List (Addr×Obj)}{s:Shared}{σ:St}{H:Hp}{x:Str}{u:Value}{pos:Pos}{Q:Value->Shared->Prop}(I:Inv X pins σ H s)(hg:Gl X x)(hm:X.mg x=some u)(h:Q u s)(hd:(x == ("__debug__":Str))=false:=by decide):wpAny (model X.prog X.w) X.A (eval (.Name x pos) X.env) Q E s:=
 Calls.Name_function_global I.ok.kind hg (Calls.loadGlobal_global (by rw[I.ok.glob];exact I.mod.glob.keeps I.bk) hm h) hd
theorem kr{E:Value->Shared->Prop}{pins:List (Addr×Obj)}{s:Shared}{σ:St}{H:Hp}{x:Str}{u:Value}{pos:Pos}{Q:Value->Shared->Prop}(I:Inv X pins σ H s)(hg:Gl X x)(hm:X.mg x=none)(hv:bootBuiltins x=some u)(h:Q u s)(hn:x≠"__name__":=by decide)(hd:(x == ("__debug__":Str))=false:=by decide):wpAny (model X.prog X.w) X.A (eval (.Name x pos) X.env) Q E s:=by
 obtain⟨mb,h1,h2⟩:=I.mod.blt;exact Calls.Name_function_global I.ok.kind hg (Calls.loadGlobal_builtin (by rw[I.ok.glob];exact I.mod.glob.keeps I.bk) hm (by rw[I.ok.blt];exact h1.keeps I.bk) ((h2 x hn).trans hv) h) hd
theorem zR{x:Str}{v:V}{u:Value}{pos:Pos}(hg:Gl X x)(hm:X.mg x=some u)(r:qO v u)(hd:(x == ("__debug__":Str))=false:=by decide):PE X (.Name x pos) (tC v):=
 λ _ _ _ H _ I h=>qbr I hg hm ⟨v,H,I,r,h⟩ hd
theorem qgw{x:Str}{v:V}{u:Value}{pos:Pos}(hg:Gl X x)(hm:X.mg x=none)(hv:bootBuiltins x=some u)(r:qO v u)(hn:x≠"__name__":=by decide)(hd:(x == ("__debug__":Str))=false:=by decide):PE X (.Name x pos) (tC v):=
 λ _ _ _ H _ I h=>kr I hg hm hv ⟨v,H,I,r,h⟩ hn hd
variable {a b:Expr}{ta tb:TE}{pos:Pos}
def PC(X:Cx)(op:CmpOp)(a b:Expr)(t:TE):Prop:=
 ∀(pins:List (Addr×Obj))(s:Shared)(σ:St)(H:Hp)(Q:VK),Inv X pins σ H s->t σ H Q ->
  wpAny (model X.prog X.w) X.A (eval a X.env) (λ v s₁=>wpAny (model X.prog X.w) X.A (eval b X.env) (λ u s₂=>wpAny (model X.prog X.w) X.A (compareOp op v u) (EP X pins σ Q) X.xe s₂) X.xe s₁) X.xe s
def tB(t:TE):TT:=λ σ H Q=>t σ H λ x H1=>∃ c,x=.bl c/\Q c H1
theorem qlc{op:CmpOp}{t:TE}(h:PC X op a b t)(h1:behindInMarks op b=false:=by first|exact nobehind _ (by decide) (by decide)|rfl):PE X (.Compare a [op] [b] pos) t:=λ pins s σ H Q I hw=>wpAny_Compare1 (h pins s σ H Q I hw) h1
theorem j8{e:Expr}{t:TE}(h:PE X e t)(he:∀ P4,isTrue e X.env P4=(do let v <- P4;standAt e.pos;holding [v] (truthy v)):=by intro _;rfl):PT X e (tB t):=by
 intro pins s σ H Q I hw;refine isTrue_plain (thn (h pins s σ H _ I hw) λ v s1 ⟨x,H1,I1,r1,q1⟩=>?_) (he _);obtain⟨d,rfl,q⟩:=q1;cases r1
 exact Zz ⟨H1,I1,q⟩
variable {tA rQ:TT}{rest:List Expr}
def ql7(t u:TT):TT:=λ σ H Q=>t σ H λ c H1=>if c=true then u σ H1 Q else Q false H1
def tOr(t u:TT):TT:=λ σ H Q=>t σ H λ c H1=>if c=true then Q true H1 else u σ H1 Q
def qna(t:TT):TT:=λ σ H Q=>t σ H λ c H1=>Q (!c) H1
theorem qdz(ha:PT X a tA):PW X (.BoolOp .And [a] pos) tA:=by
 intro wh pins s σ H Q I h;refine isTrue_and (thn (ha pins s σ H Q I h) λ c s1 e=>?_);cases c with
 |true=>exact isTrue_and_nil e
 |false=>exact e
theorem qbE(ha:PT X a tA):PW X (.BoolOp .Or [a] pos) tA:=by
 intro wh pins s σ H Q I h;refine isTrue_or (thn (ha pins s σ H Q I h) λ c s1 e=>?_);cases c with
 |false=>exact isTrue_or_nil e
 |true=>exact e
theorem qfr(ha:PT X a tA)(hb:PW X (.BoolOp .And (b::rest) pos) rQ):PW X (.BoolOp .And (a::b::rest) pos) (ql7 tA rQ):=by
 intro wh pins s σ H Q I h;refine isTrue_and (thn (ha pins s σ H _ I h) λ c s1 ⟨H1,I1,q1⟩=>?_);cases c with
 |true=>exact hb wh pins s1 σ H1 Q I1 q1
 |false=>exact⟨H1,I1,q1⟩
theorem qcV(ha:PT X a tA)(hb:PW X (.BoolOp .Or (b::rest) pos) rQ):PW X (.BoolOp .Or (a::b::rest) pos) (tOr tA rQ):=by
 intro wh pins s σ H Q I h;refine isTrue_or (thn (ha pins s σ H _ I h) λ c s1 ⟨H1,I1,q1⟩=>?_);cases c with
 |true=>exact⟨H1,I1,q1⟩
 |false=>exact hb wh pins s1 σ H1 Q I1 q1
theorem qfs(ha:PT X a tA):PT X (.UnaryOp .Not a pos) (qna tA):=by
 intro pins s σ H Q I h;exact isTrue_not (ha pins s σ H (λ c H1=>Q (!c) H1) I h)
def qkW(ta tb:TE):TE:=λ σ H Q=>ta σ H λ x H1=>∃ c,x=.bl c/\if c=true then tb σ H1 Q else Q (.bl false) H1
def ql8(ta tb:TE):TE:=λ σ H Q=>ta σ H λ x H1=>∃ c,x=.bl c/\if c=true then Q (.bl true) H1 else tb σ H1 Q
def qkX(ta:TE):TE:=λ σ H Q=>ta σ H λ x H1=>∃ c,x=.bl c/\Q (.bl (!c)) H1
theorem qft{op}{t:TE}(h:PE X a t):PE X (.BoolOp op [a] pos) t:=λ pins s σ H Q I hw=>BoolOp_one (h pins s σ H Q I hw)
theorem qh8(ha:PE X a ta)(hb:PE X (.BoolOp .And (b::rest) pos) tb):PE X (.BoolOp .And (a::b::rest) pos) (qkW ta tb):=by
 intro pins s σ H Q I h;refine BoolOp_and (thn (ha pins s σ H _ I h) λ v s1 ⟨x,H1,I1,r1,q1⟩=>?_);obtain⟨c,rfl,q1⟩:=q1;cases r1
 refine Zz ?_;cases c with
 |true=>exact hb pins s1 σ H1 Q I1 q1
 |false=>exact⟨.bl false,H1,I1,rfl,q1⟩
theorem ql9(ha:PE X a ta)(hb:PE X (.BoolOp .Or (b::rest) pos) tb):PE X (.BoolOp .Or (a::b::rest) pos) (ql8 ta tb):=by
 intro pins s σ H Q I h;refine BoolOp_or (thn (ha pins s σ H _ I h) λ v s1 ⟨x,H1,I1,r1,q1⟩=>?_);obtain⟨c,rfl,q1⟩:=q1;cases r1
 refine Zz ?_;cases c with
 |false=>exact hb pins s1 σ H1 Q I1 q1
 |true=>exact⟨.bl true,H1,I1,rfl,q1⟩
theorem qh9(ha:PE X a ta):PE X (.UnaryOp .Not a pos) (qkX ta):=by
 intro pins s σ H Q I h;refine UnaryOp_ (thn (ha pins s σ H _ I h) λ v s1 ⟨x,H1,I1,r1,q1⟩=>?_);obtain⟨c,rfl,q1⟩:=q1;cases r1
 exact not_of (Zz ⟨.bl (!c),H1,I1,rfl,q1⟩)
def tIf(t:TT)(ta tb:TE):TE:=λ σ H Q=>t σ H λ c H1=>if c=true then ta σ H1 Q else tb σ H1 Q
theorem qia{c:Expr}(hc:PT X c tA)(ha:PE X a ta)(hb:PE X b tb):PE X (.IfExp c a b pos) (tIf tA ta tb):=by
 intro pins s σ H Q I h;refine wpAny_IfExp (thn (hc pins s σ H _ I h) λ d s1 ⟨H1,I1,q1⟩=>?_);cases d with
 |true=>exact ha pins s1 σ H1 Q I1 q1
 |false=>exact hb pins s1 σ H1 Q I1 q1
end
def SqL(K:W.Frag)(H:Hp)(a:Addr)(xs:List V):Prop:=
 Rd H a (.lst xs) ∨
  ∃(o:Obj)(its:Array Value)(n:Nat),K.lookup a=some o/\o.cls=.type "list"/\o.dict=none/\o.data=.seq its n/\its.size<=sizeLine/\qI xs its.toList
def SqT(K:W.Frag)(H:Hp)(a:Addr)(xs:List V):Prop:=
 Rd H a (.tup xs) ∨
  ∃(o:Obj)(its:Array Value)(n:Nat),K.lookup a=some o/\o.cls=.type "tuple"/\o.data=.seq its n/\its.size<=sizeLine/\qI xs its.toList
noncomputable def qnb:Value->Option V
 |.none=>some .non
 |.bool b=>some (.bl b)
 |.int i _=>some (.int i)
 |.str x _=>some (.str x)
 |.bytes b _=>some (.byt b)
 |.float b _=>some (.flt b)
 |.ref a=>some (.ref a)
 |.type n=>some (.ty n)
 |_=>none
theorem qO.abs{x:V}{u:Value}(r:qO x u):qnb u=some x:=by
 cases x with
 |non=>cases r;rfl
 |bl _=>cases r;rfl
 |int _=>obtain⟨t,rfl⟩:=r;rfl
 |str _=>obtain⟨t,rfl⟩:=r;rfl
 |byt _=>obtain⟨t,rfl⟩:=r;rfl
 |flt _=>obtain⟨t,rfl⟩:=r;rfl
 |ref _=>cases r;rfl
 |ty _=>cases r;rfl
theorem qO.inj{x y:V}{u:Value}(r:qO x u)(q:qO y u):x=y:=Option.some.inj (r.abs.symm.trans q.abs)
theorem qI.inj:∀{xs ys:List V}{us:List Value},qI xs us->qI ys us->xs=ys
 |_,_,_,.nil,.nil=>rfl
 |_,_,_,.cons r t,.cons r' t'=>by rw[r.inj r',qI.inj t t']
section
variable {X:Cx}{pins:List (Addr×Obj)}{σ:St}{H:Hp}{s:Shared}{a:Addr}{xs ys:List V}
theorem SqL.of{K:W.Frag}(h:H a=some (.lst xs)):SqL K H a xs:=.inl (.inl h)
theorem SqT.of{K:W.Frag}(h:H a=some (.tup xs)):SqT K H a xs:=.inl (.inl h)
theorem Inv.list(I:Inv X pins σ H s)(h:SqL X.K H a xs):∃ its:List Value,qI xs its/\PlainL s.heap a its.toArray/\xs.length<=sizeLine:=by
 rcases h with h|⟨o,its,n,hk,hc,hd,hs,hz,r⟩
 ·obtain⟨z,its,n,r,e⟩:=h.ok I.hok;exact⟨its,r,⟨_,n,e,rfl,rfl,rfl⟩,z⟩
 ·refine⟨its.toList,r,⟨o,n,I.kIn a o hk,hc,hd,by simpa using hs⟩,?_⟩;have e:=r.length;simp only[Yr] at e;omega
theorem Inv.tuple(I:Inv X pins σ H s)(h:SqT X.K H a xs):∃ its:List Value,qI xs its/\IsTup s.heap a its.toArray/\xs.length<=sizeLine:=by
 rcases h with h|⟨o,its,n,hk,hc,hs,hz,r⟩
 ·obtain⟨z,its,r,p⟩:=h.ok I.hok;exact⟨its,r,p,z⟩
 ·refine⟨its.toList,r,⟨o,I.kIn a o hk,hc,n,by simpa using hs⟩,?_⟩;have e:=r.length;simp only[Yr] at e;omega
theorem Inv.list_inj(I:Inv X pins σ H s)(h:SqL X.K H a xs)(h':SqL X.K H a ys):xs=ys:=by
 obtain⟨its,r,⟨o,n,e,_,_,d⟩,_⟩:=I.list h;obtain⟨its',r',⟨o',n',e',_,_,d'⟩,_⟩:=I.list h';rw[e] at e';cases e';rw[d] at d';injection d' with d1 _
 have:its=its':=by simpa using congrArg Array.toList d1
 subst this;exact r.inj r'
theorem Inv.tuple_inj(I:Inv X pins σ H s)(h:SqT X.K H a xs)(h':SqT X.K H a ys):xs=ys:=by
 obtain⟨its,r,⟨o,e,_,n,d⟩,_⟩:=I.tuple h;obtain⟨its',r',⟨o',e',_,n',d'⟩,_⟩:=I.tuple h';rw[e] at e';cases e';rw[d] at d';injection d' with d1 _
 have:its=its':=by simpa using congrArg Array.toList d1
 subst this;exact r.inj r'
end
noncomputable abbrev Cx.wish(X:Cx)(E:Value->Shared->Prop):Cx:={ X with xe:=E }
noncomputable abbrev Cx.nox(X:Cx):Cx:=X.wish λ _ _=>False
theorem Cx.Ok.wish{X:Cx}(ok:X.Ok)(E:Value->Shared->Prop):(X.wish E).Ok:=
 ⟨ok.mod,ok.kind,ok.glob,ok.blt,ok.above,ok.inj,ok.has,ok.cab,ok.hd,ok.frames,ok.stk,ok.exf,ok.bs,ok.bsz,ok.noex,ok.exfs,ok.funs,ok.frf⟩
theorem Cx.Ok.unwish{X:Cx}{E:Value->Shared->Prop}(ok:(X.wish E).Ok):X.Ok:=
 ⟨ok.mod,ok.kind,ok.glob,ok.blt,ok.above,ok.inj,ok.has,ok.cab,ok.hd,ok.frames,ok.stk,ok.exf,ok.bs,ok.bsz,ok.noex,ok.exfs,ok.funs,ok.frf⟩
section
variable {X:Cx}{pins:List (Addr×Obj)}{σ:St}{H:Hp}{s:Shared}{E:Value->Shared->Prop}
theorem Inv.wish(I:Inv X pins σ H s)(E:Value->Shared->Prop):Inv (X.wish E) pins σ H s:=⟨I.ok.wish E,I.os,I.bare,I.base,I.loc,I.cell,I.free,I.freeC,I.pin,I.hok,I.len⟩
theorem Inv.unwish(I:Inv (X.wish E) pins σ H s):Inv X pins σ H s:=⟨I.ok.unwish,I.os,I.bare,I.base,I.loc,I.cell,I.free,I.freeC,I.pin,I.hok,I.len⟩
theorem SP.unwish{D:Ends}{f:Flow}{s':Shared}(h:SP (X.wish E) pins D f s'):SP X pins D f s':=by
 cases f with
 |next=>obtain⟨σ',H',I,q⟩:=h;exact⟨σ',H',I.unwish,q⟩
 |brk=>obtain⟨σ',H',I,q⟩:=h;exact⟨σ',H',I.unwish,q⟩
 |cont=>obtain⟨σ',H',I,q⟩:=h;exact⟨σ',H',I.unwish,q⟩
 |ret u=>obtain⟨v,σ',H',I,r,q⟩:=h;exact⟨v,σ',H',I.unwish,r,q⟩
theorem PSs.nox{st:List Stmt}{t:TS}(h:PSs X.nox st t):PSs X st t:=λ pins s σ H D I hw =>
 Qy (h pins s σ H D (I.wish _) hw) (λ _ _ q=>q.unwish) λ _ _ z=>False.elim z
end
section
variable {X:Cx}{st:Stmt}{rest:List Stmt}{t u:TS}{e:Expr}{te:TE}{pos:Pos}
def qma:TS:=λ D σ H=>D.nx σ H
def qnc(t u:TS):TS:=λ D σ H=>t { D with nx:=u D } σ H
theorem qD:PSs X [] qma:=λ _ _ σ H _ I h=>Jb ⟨σ,H,I,h⟩
theorem qd(h1:PS X st t)(h2:PSs X rest u):PSs X (st::rest) (qnc t u):=by
 intro pins s σ H D I h;refine wpAny_execs_cons (thn (h1 pins s σ H { D with nx:=u D } I h) λ f s1 q=>?_);cases f with
 |next =>
  obtain⟨σ',H',I',q⟩:=q;exact h2 pins s1 σ' H' D I' q
 |ret v=>exact q
 |brk=>exact q
 |cont=>exact q
theorem qe(h1:PS X st t):PSs X [st] t:=by
 intro pins s σ H D I h;refine wpAny_execs_cons (thn (h1 pins s σ H D I h) λ f s1 q=>?_);cases f with
 |next=>exact Jb q
 |ret v=>exact q
 |brk=>exact q
 |cont=>exact q
theorem Inv.quiet{pins:List (Addr×Obj)}{σ:St}{H:Hp}{s:Shared}(I:Inv X pins σ H s):interactive X.env=false:=by simp[interactive,I.ok.kind]
def qmb(te:TE):TS:=λ D σ H=>te σ H λ _ H1=>D.nx σ H1
theorem zS(he:PE X e te)(hs:swapsWith e none pos.line X.env=pure false:=by rfl):PS X (.Expr e pos) (qmb te):=by
 intro pins s σ H D I h;exact wpAny_Expr_any (thn (he pins s σ H _ I h) λ v s1 ⟨x,H1,I1,r1,q1⟩=>⟨σ,H1,I1,q1⟩) I.quiet hs
def qld(te:TE):TS:=λ D σ H=>te σ H D.rt
theorem qk(he:PE X e te):PS X (.Return (some e) pos) (qld te):=by
 intro pins s σ H D I h;exact wpAny_Return_some (thn (he pins s σ H _ I h) λ v s1 ⟨x,H1,I1,r1,q1⟩=>⟨x,σ,H1,I1,r1,q1⟩)
def qmc(c:TT)(t u:TS):TS:=λ D σ H=>c σ H λ b H1=>if b=true then t D σ H1 else u D σ H1
theorem q8{c:Expr}{a b:List Stmt}{tc:TT}(hc:PT X c tc)(ha:PSs X a t)(hb:PSs X b u):PS X (.If c a b pos) (qmc tc t u):=by
 intro pins s σ H D I h;refine wpAny_If (thn (hc pins s σ H _ I h) λ d s1 ⟨H1,I1,q1⟩=>?_);cases d with
 |true=>exact ha pins s1 σ H1 D I1 q1
 |false=>exact hb pins s1 σ H1 D I1 q1
def qle:TS:=λ _ _ _=>False
theorem y2:PS X st qle:=λ _ _ _ _ _ _ h=>h.elim
end
abbrev TG:=V->St->Hp->(St->Hp->Prop)->Prop
abbrev TGs:=List V->St->Hp->(St->Hp->Prop)->Prop
def PG(X:Cx)(A5:Expr)(t:TG):Prop:=
 ∀(pins:List (Addr×Obj))(s:Shared)(σ:St)(H:Hp)(v:V)(u:Value)(Q:St->Hp->Prop),Inv X pins σ H s->qO v u->t v σ H Q ->
  wpAny (model X.prog X.w) X.A (assign A5 X.env u) (λ _ s'=>∃ σ' H',Inv X pins σ' H' s'/\Q σ' H') X.xe s
def PGs(X:Cx)(ts:List Expr)(t:TGs):Prop:=
 ∀(pins:List (Addr×Obj))(s:Shared)(σ:St)(H:Hp)(vs:List V)(us:List Value)(Q:St->Hp->Prop),Inv X pins σ H s->qI vs us->t vs σ H Q ->
  wpAny (model X.prog X.w) X.A (assignInOrder ((assignEach ts X.env).map (·.2)) us) (λ _ s'=>∃ σ' H',Inv X pins σ' H' s'/\Q σ' H') X.xe s
abbrev qlf:=V->V->V->Hp->(Hp->Prop)->Prop
def qmd(X:Cx)(t:qlf):Prop:=
 ∀(pins:List (Addr×Obj))(s:Shared)(σ:St)(H:Hp)(o i v:V)(ov iv u:Value)(Q:Hp->Prop),Inv X pins σ H s->qO o ov->qO i iv->qO v u->t o i v H Q ->
  wpAny (model X.prog X.w) X.A (setItem ov iv u) (λ _ s'=>∃ H',Inv X pins σ H' s'/\Q H') X.xe s
section
variable {X:Cx}{pos:Pos}
def jr(i:Nat):TG:=λ v σ H Q=>Q (σ.set i (some v)) H
theorem qp{i:Nat}{x:Str}(hN:X.N.Nodup)(hi:X.N[i]?=some x)(hx:Loc X.env.scope x)(hf:X.fn x=true∨X.env.scope.names.lookup x=some .local:=by first|exact .inl rfl|exact .inr rfl|assumption):PG X (.Name x pos) (jr i):=by
 intro pins s σ H v u Q I r h;exact wpAny_assign_Name (qab I hN hi hx r (λ s' I'=>⟨_,H,I',h⟩) hf)
def qib:TGs:=λ vs σ H Q=>vs=[]/\Q σ H
def qac(t:TG)(u:TGs):TGs:=λ vs σ H Q=>∃ v r,vs=v::r/\t v σ H λ σ' H'=>u r σ' H' Q
theorem zJ:PGs X [] qib:=by
 intro pins s σ H vs us Q I r h;obtain⟨e,h⟩:=h;subst e;cases r
 exact assignInOrder_nil ⟨σ,H,I,h⟩
theorem qF{e:Expr}{es:List Expr}{t:TG}{u:TGs}(h1:PG X e t)(h2:PGs X es u)(hs:(assignEach (e::es) X.env).map (·.2)=assign e X.env::(assignEach es X.env).map (·.2):=by rfl):PGs X (e::es) (qac t u):=by
 intro pins s σ H vs us Q I r h;obtain⟨v,vr,e1,h⟩:=h;subst e1;cases r with
 |cons r rr =>
  rw[hs];refine assignInOrder_cons (thn (h1 pins s σ H _ _ _ I r h) λ _ s1 ⟨σ1,H1,I1,q1⟩=>?_);exact h2 pins s1 σ1 H1 _ _ Q I1 rr q1
def qic(K:W.Frag)(n:Nat)(t:TGs):TG:=λ v σ H Q=>∃ a xs,v=.ref a/\SqT K H a xs/\xs.length=n/\t xs σ H Q
theorem qaQ{es:List Expr}{k:Nat}{t:TGs}{n:Nat}(hc:X.calm=true)(h:PGs X es t)(hn:(assignEach es X.env).length=n:=by rfl)(C4:(assignEach es X.env).findIdx? (·.1)=none:=by rfl):PG X (.Tuple es k pos) (qic X.K n t):=by
 intro pins s σ H v u Q I r hw;obtain⟨a,xs,e1,hq,hl,hw⟩:=hw;subst e1;cases r
 obtain⟨its,rv,ht,hz⟩:=I.tuple hq;refine assign_Tuple_tuple (I.ok.hd hc) ht (by simp[hn,<- hl,rv.length]) C4 λ h' hx=>?_
 have I1:Inv X pins σ H { s with heap:=h' }:=I.kept (t':=s.toks) λ b o e=>hx b o (Qe (Qd e)) e
 exact h pins _ σ H xs _ Q I1 (by simpa using rv) hw
def qnd(to ti:TE)(t:qlf):TG:=λ v σ H Q=>to σ H λ o H1=>ti σ H1 λ i H2=>t o i v H2 λ H3=>Q σ H3
theorem qlg{o i:Expr}{to ti:TE}{t:qlf}(ho:PE X o to)(hi:PE X i ti)(hs:qmd X t)(ha:∀ v,assign (.Subscript o i pos) X.env v=(do
   let ov <- holding [v] (eval o X.env)
   let iv <- holding [v,ov] (eval i X.env)
   standAt pos
   holding [v,ov,iv] (setItem ov iv v)
   release [v,ov,iv] []):=by intro _;rfl):PG X (.Subscript o i pos) (qnd to ti t):=by
 intro pins s σ H v u Q I r h;rw[ha];refine Qz (J8 (thn (ho pins s σ H _ I h) λ ov s1 ⟨x,H1,I1,r1,q1⟩=>?_));refine Qz (J8 (thn (hi pins s1 σ H1 _ I1 q1) λ iv s2 ⟨y,H2,I2,r2,q2⟩=>?_));refine Qz (J9 (Qz (J8 (thn (hs pins s2 σ H2 x y v ov iv u _ I2 r1 r2 r q2) λ _ s3 ⟨H3,I3,q3⟩=>?_))));exact wpAny_release ⟨σ,H3,I3,q3⟩
def qjX(te:TE)(g:TG):TS:=λ D σ H=>te σ H λ x H1=>g x σ H1 D.nx
theorem qid{tg e:Expr}{te:TE}{g:TG}(he:PE X e te)(hg:PG X tg g)(hs:swapsWithSole [tg] e pos.line X.env=pure false:=by rfl)(hw:swappedStores [tg] e X.env=pure none:=by rfl)(h1:(assignEach [tg] X.env).map (·.2)=[assign tg X.env]:=by rfl):PS X (.Assign [tg] e pos) (qjX te g):=by
 intro pins s σ H D I h;refine wpAny_Assign_stores (thn (he pins s σ H _ I h) λ v s1 ⟨x,H1,I1,r1,q1⟩=>?_) hs hw;rw[h1];exact thn (hg pins s1 σ H1 x v _ I1 r1 q1) λ _ s2 q=>q
theorem qr{i:Nat}{x:Str}{e:Expr}{te:TE}{u8:Pos}(hN:X.N.Nodup)(hi:X.N[i]?=some x)(hx:Loc X.env.scope x)(he:PE X e te)(hs:swapsWith e (some (.Name x u8)) pos.line X.env=pure false:=by rfl)(hf:X.fn x=true∨X.env.scope.names.lookup x=some .local:=by first | exact .inl rfl | exact .inr rfl | assumption):
  PS X (.Assign [.Name x u8] e pos) (qjX te (jr i)):=by
 intro pins s σ H D I h;refine wpAny_Assign_Name (thn (he pins s σ H _ I h) λ v s1 ⟨y,H1,I1,r1,q1⟩=>?_) hs;exact qab I1 hN hi hx r1 (λ s2 I2=>⟨_,H1,I2,q1⟩) hf
def qne(i j:Nat)(ta:TA):TS:=λ D σ H=>ta σ H λ vs H1=>∃ v w,vs=[v,w]/\D.nx ((σ.set i (some v)).set j (some w)) H1
theorem qlh{i j:Nat}{x y:Str}{a b:Expr}{ta:TA}{px py pt:Pos}{kt k2 pt2}(hc:X.calm=true)(hN:X.N.Nodup)(hi:X.N[i]?=some x)(hj:X.N[j]?=some y)(oI:i≠j)(hx:X.env.scope.names.lookup x=some .local)(hy:X.env.scope.names.lookup y=some .local)(ha:PA X [a,b] ta)(hw:swappedStores [.Tuple [.Name x px,.Name y py] kt pt] (.Tuple [a,b] k2 pt2) X.env=pure (some [x,y]))(hs:swapsWithSole [.Tuple [.Name x px,.Name y py] kt pt] (.Tuple [a,b] k2 pt2) pos.line X.env=pure false:=by rfl):
  PS X (.Assign [.Tuple [.Name x px,.Name y py] kt pt] (.Tuple [a,b] k2 pt2) pos) (qne i j ta):=by
 intro pins s σ H D I h;rw[exec_Assign_arm];refine Qz (J9 ?_);rw[hs];refine Qz (Q0 ?_);rw[Vi (by decide)];refine Qz (Tuple_ (thn (ha _ pins s σ H _ I h) λ us s1 ⟨vs,H1,I1,r1,q1⟩=>?_));obtain⟨v,w,e1,q1⟩:=q1;subst e1;obtain⟨u1,u2,rfl,rv,S0⟩:∃ u1 u2,us=[u1,u2]/\qO v u1/\qO w u2:=by
  cases r1 with
  |cons p q =>
   cases q with
   |cons p' q' =>
    cases q'
    exact⟨_,_,rfl,p,p'⟩
 refine Z0 ?_ (by show 2<=sizeLine;decide);have I2:Inv X pins σ H1 { s1 with heap:=s1.heap.push { cls:=.type "tuple",data:=.seq [u1,u2].toArray } }:=I1.kept (t':=s1.toks) λ b o e=>XD _ e
 rw[hw];refine Qz (Q0 ?_);show wpAny (model X.prog X.w) X.A (do rule "assign.swapped-stores";let items <- unpackItems (.ref s1.heap.objs.size) 2 none;assignInOrder [λ v=>bindName X.env y v,λ v=>bindName X.env x v] items.reverse;pure Flow.next) _ _ _
 refine Qz (Q1 (Qz (unpackItems_tuple (items:=#[u1,u2]) (I.ok.hd hc) (IsTup.new s1.heap _) λ h' p4=>?_)));have I3:=I2.kept (h':=h') (t':=s1.toks) λ b o e=>p4 b o (Qe (Qd e)) e
 show wpAny _ _ (assignInOrder [λ v=>bindName X.env y v,λ v=>bindName X.env x v] [u2,u1] >>= λ _=>pure Flow.next) _ _ _
 refine Qz (assignInOrder_cons (wpAny_bindName (qab I3 hN hj (.inl hy) S0 (λ s2 I4=>?_) (.inr hy))));refine assignInOrder_cons (wpAny_bindName (qab I4 hN hi (.inl hx) rv (λ s3 I5=>assignInOrder_nil (Q0 ?_)) (.inr hx)));rw[List.set_comm _ _ (Vb oI)] at I5;exact⟨_,H1,I5,q1⟩
def qli(c:TT)(tb:TS):TS:=λ D σ H=>∃ W:Nat->St->Hp->Prop,(∃ m,W m σ H)/\∀ m σ H,W m σ H ->
 c σ H λ b H1=>if b=true then ∃ N:St->Hp->Prop,(∀ σ' H',N σ' H'->∃ m',m'<m/\W m' σ' H')/\tb { D with nx:=N,ct:=N,bk:=D.nx } σ H1 else D.nx σ H1
theorem qen{c:Expr}{body:List Stmt}{tc:TT}{tb:TS}(hp:PassesOwn (model X.prog X.w) X.A X.env X.xe)(hc:PT X c tc)(hb:PSs X body tb):PS X (.While c body [] pos) (qli tc tb):=by
 intro pins s σ H D I h;obtain⟨W,⟨m0,w0⟩,turn⟩:=h;refine wpAny_While (codeAny_whileLoop (λ n s'=>∃ σ' H',Inv X pins σ' H' s'/\W n σ' H') ?_ m0 ⟨σ,H,I,w0⟩);rintro n s1 ⟨σ1,H1,I1,w1⟩;refine Jc hp (thn (hc pins s1 σ1 H1 _ I1 (turn n σ1 H1 w1)) λ b s2 ⟨H2,I2,q2⟩=>?_);cases b with
 |true =>
  obtain⟨N,hN,q2⟩:=q2;rw[Vh rfl];refine Jc hp (thn (hb pins s2 σ1 H2 _ I2 q2) λ f s3 q3=>?_);cases f with
  |next =>
   obtain⟨σ3,H3,I3,n3⟩:=q3;obtain⟨m',hm,w3⟩:=hN σ3 H3 n3;exact⟨m',hm,σ3,H3,I3,w3⟩
  |cont =>
   obtain⟨σ3,H3,I3,n3⟩:=q3;obtain⟨m',hm,w3⟩:=hN σ3 H3 n3;exact⟨m',hm,σ3,H3,I3,w3⟩
  |brk=>exact q3
  |ret v=>exact q3
 |false =>
  rw[Vi Y8];exact Jb ⟨σ1,H2,I2,q2⟩
end
structure It where 
 go:Nat->Hp->Prop
 yld:Nat->Hp->V->Hp->Prop
 stop:Nat->Hp->Prop
def jw(X:Cx)(pins:List (Addr×Obj))(H:Hp)(b:Addr):Prop:=
 H b=none/\b≠X.env.locals/\b∉X.fs/\(b∈X.ex∨X.s₀.heap.objs.size<=b)/\(∀ x c,X.env.cells.lookup x=some c->c≠b)/\∀ p∈X.pn++pins,p.1≠b
theorem Inv.fpOk{X:Cx}{pins:List (Addr×Obj)}{σ:St}{H H':Hp}{s:Shared}{b:Addr}(I:Inv X pins σ H s)(hb:s.heap.objs.size<=b)(hn:H' b=none):jw X pins H' b:=by
 refine⟨hn,Qh (Y6 I.lt hb),I.nofs hb,.inr (Qf I.sz hb),λ x c e z=>?_,λ p hp z=>?_⟩
 ·obtain⟨v,q⟩:=I.cell x c e;exact absurd (Y6 q.lt (by rw[z];exact hb)) (Jx _)
 ·exact absurd (Y6 (Qd (I.pin p hp).1) (by rw[z];exact hb)) (Jx _)
structure Turn(P:Program)(w:World)(K:W.Frag)(tg:Expr)(J:It)(fp:List Addr)(it:Addr)(tn:Nat->Heap->Prop):Prop where
 mem:it∈fp
 obj:∀ i h,tn i h->∀ b∈fp,∃ o,h.get? b=some o/\∀ v,o.data≠.cell v
 keep:∀ i h h',tn i h->(∀ b∈fp,∀ o,h.get? b=some o->h'.get? b=some o)->tn i h'
 item:∀(X:Cx),X.prog=P->X.w=w->X.K=K->X.calm=true->∀(i:Nat)(pins:List (Addr×Obj))(s:Shared)(σ:St)(H:Hp)(E:Value->Shared->Prop),Inv X pins σ H s->(∀ b∈fp,jw X pins H b)->tn i s.heap->J.go i H ->
  wpAny (model P w) X.A (pyNext (.ref it)) (λ r s1=>∃ u,r=some u /\
   wpAny (model P w) X.A (letOwnedTupleGo tg (.ref it) u) (λ _ s2=>∃ x H',Inv X pins σ H' s2/\qO x u/\J.yld i H x H'/\tn (i+1) s2.heap/\∀ b∈fp,H' b=none) E s1) E s
 done:∀(X:Cx),X.prog=P->X.w=w->X.K=K->X.calm=true->∀(i:Nat)(pins:List (Addr×Obj))(s:Shared)(σ:St)(H:Hp)(E:Value->Shared->Prop),Inv X pins σ H s->(∀ b∈fp,jw X pins H b)->tn i s.heap->J.stop i H ->
  wpAny (model P w) X.A (pyNext (.ref it)) (λ r s1=>r=none/\Inv X pins σ H s1) E s
 self:∀(A:Around)(i:Nat)(s:Shared)(Q:Value->Shared->Prop)(E:Value->Shared->Prop),tn i s.heap->Q (.ref it) s->wpAny (model P w) A (pyIter (.ref it)) Q E s
abbrev TI:=St->Hp->(It->Hp->Prop)->Prop
def PIE(X:Cx)(pins:List (Addr×Obj))(σ:St)(tg:Expr)(R:It->Hp->Prop)(eQ:Value)(s2:Shared):Prop:=
 ∃(it:Addr)(fp:List Addr)(tn:Nat->Heap->Prop)(J:It)(H':Hp),eQ=.ref it/\Inv X pins σ H' s2/\Turn X.prog X.w X.K tg J fp it tn/\tn 0 s2.heap/\(∀ b∈fp,jw X pins H' b)/\R J H'
def PI(X:Cx)(tg iter:Expr)(wi:TI):Prop:=
 ∀(pins:List (Addr×Obj))(s:Shared)(σ:St)(H:Hp)(R:It->Hp->Prop),Inv X pins σ H s->wi σ H R ->
  wpAny (model X.prog X.w) X.A (eval iter X.env) (λ v s1=>wpAny (model X.prog X.w) X.A (pyIter v) (PIE X pins σ tg R) X.xe s1) X.xe s
theorem qgx{M:Model}{A:Around}{E:Value->Shared->Prop}{s:Shared}{tg:Expr}{it:Addr}{u:Value}{o:Obj}{n:String}{vs:Array Value}{Q:Unit->Shared->Prop}(ho:s.heap.get? it=some o)(hc:o.cls=.type n)(hd:o.data=.fields vs)(hn:["enumerate","zip","dict_itemiterator","dict_reverseitemiterator","odict_iterator","itertools.zip_longest","itertools.pairwise"].contains n=false)(hQ:Q () s):wpAny M A (letOwnedTupleGo tg (.ref it) u) Q E s:=by
 unfold letOwnedTupleGo;cases tg <;> first
  |exact Q0 hQ
  | (cases u <;> first
    |exact Q0 hQ
    | (refine Qz (wpAny_load ho ?_)
       rw[hc,hd];show wpAny M A (if (["enumerate","zip","dict_itemiterator","dict_reverseitemiterator","odict_iterator","itertools.zip_longest","itertools.pairwise"].contains n && vs[0]? == some (rawInt _))=true then _ else _) Q E s
       rw[Vi (by intro h;rw[hn,Ji] at h;cases h)];exact Q0 hQ))
noncomputable def Itl(K:W.Frag)(a:Addr):It:=
 ⟨λ i H=>∃ xs x,SqL K H a xs/\xs[i]?=some x,λ i H x H'=>H'=H/\∀ xs,SqL K H a xs->xs[i]?=some x,λ i H=>∃ xs,SqL K H a xs/\xs.length<=i⟩
noncomputable def Itt(K:W.Frag)(a:Addr):It:=
 ⟨λ i H=>∃ xs x,SqT K H a xs/\xs[i]?=some x,λ i H x H'=>H'=H/\∀ xs,SqT K H a xs->xs[i]?=some x,λ i H=>∃ xs,SqT K H a xs/\xs.length<=i⟩
noncomputable def Itr(lo:Int)(n:Nat):It:=⟨λ i _=>i<n,λ i H x H'=>H'=H/\x=.int (lo+i),λ i _=>n<=i⟩
theorem qhd{P:Program}{w:World}{K:W.Frag}{tg:Expr}(a it:Addr):Turn P w K tg (Itl K a) [it] it (λ i h=>h.IsListIter it a i) where
 mem:=by simp
 obj:=λ i h st b hb=>by
  have e:b=it:=by simpa using hb
  subst e;obtain⟨o,e,c,d⟩:=st;exact⟨o,e,λ v z=>by rw[d] at z;cases z⟩
 keep:=λ i h h' st k=>st.at λ o e=>k it (by simp) o e
 item:=by
  intro X hP hw hK hc i pins s σ H E I hf st hg;subst hP hw hK;obtain⟨xs,x,hq,hx⟩:=hg;obtain⟨its,rv,p,hz⟩:=I.list hq;obtain⟨u,hu,ru⟩:=rv.get hx;obtain⟨f0,f1,f2,f3,f4,f5⟩:=hf it (by simp);refine wpAny_pyNext_list_item st p.isList (x:=u) (by simpa using hu) λ h' b0 sb=>?_
  have I1:Inv X pins σ H { s with heap:=h' }:=I.turned (t':=s.toks) (λ b o hb e=>(sb.2 b hb).trans e) f0 f1 f3 f4 f5;obtain⟨o,e,c,d⟩:=id b0;exact⟨u,rfl,qgx (s:={ s with heap:=h' }) e c d (by decide) ⟨x,H,I1,ru,⟨rfl,λ ys hy=>by rw[I.list_inj hy hq];exact hx⟩,b0,λ b hb=>(hf b hb).1⟩⟩
 done:=by
  intro X hP hw hK hc i pins s σ H E I hf st hg;subst hP hw hK;obtain⟨xs,hq,hx⟩:=hg;obtain⟨its,rv,p,hz⟩:=I.list hq;obtain⟨f0,f1,f2,f3,f4,f5⟩:=hf it (by simp);have hl:=rv.length;exact wpAny_pyNext_list_end (I.ok.hd hc) st p.isList (by simp;omega) λ h' eb=>⟨rfl,I.turned (t':=s.toks) (λ b o hb e=>eb b o hb e) f0 f1 f3 f4 f5⟩
 self:=λ _ _ _ _ _ st h=>wpAny_pyIter_listiter st h
theorem qfu{P:Program}{w:World}{K:W.Frag}{tg:Expr}(a it:Addr):Turn P w K tg (Itt K a) [it] it (λ i h=>h.IsTupleIter it a i) where
 mem:=by simp
 obj:=λ i h st b hb=>by
  have e:b=it:=by simpa using hb
  subst e;obtain⟨o,e,c,d⟩:=st;exact⟨o,e,λ v z=>by rw[d] at z;cases z⟩
 keep:=λ i h h' st k=>st.at λ o e=>k it (by simp) o e
 item:=by
  intro X hP hw hK hc i pins s σ H E I hf st hg;subst hP hw hK;obtain⟨xs,x,hq,hx⟩:=hg;obtain⟨its,rv,p,hz⟩:=I.tuple hq;obtain⟨u,hu,ru⟩:=rv.get hx;obtain⟨f0,f1,f2,f3,f4,f5⟩:=hf it (by simp);refine wpAny_pyNext_tuple_item st (show s.heap.IsTuple a its.toArray from p) (x:=u) (by simpa using hu) λ h' b0 sb=>?_
  have I1:Inv X pins σ H { s with heap:=h' }:=I.turned (t':=s.toks) (λ b o hb e=>(sb.2 b hb).trans e) f0 f1 f3 f4 f5;obtain⟨o,e,c,d⟩:=id b0;exact⟨u,rfl,qgx (s:={ s with heap:=h' }) e c d (by decide) ⟨x,H,I1,ru,⟨rfl,λ ys hy=>by rw[I.tuple_inj hy hq];exact hx⟩,b0,λ b hb=>(hf b hb).1⟩⟩
 done:=by
  intro X hP hw hK hc i pins s σ H E I hf st hg;subst hP hw hK;obtain⟨xs,hq,hx⟩:=hg;obtain⟨its,rv,p,hz⟩:=I.tuple hq;obtain⟨f0,f1,f2,f3,f4,f5⟩:=hf it (by simp);have hl:=rv.length;exact wpAny_pyNext_tuple_end (I.ok.hd hc) st (show s.heap.IsTuple a its.toArray from p) (by simp;omega) λ h' eb=>⟨rfl,I.turned (t':=s.toks) (λ b o hb e=>eb b o hb e) f0 f1 f3 f4 f5⟩
 self:=λ _ _ _ _ _ st h=>wpAny_pyIter_tupleiter st h
theorem qfv{P:Program}{w:World}{K:W.Frag}{tg:Expr}(it:Addr)(lo:Int)(n:Nat):Turn P w K tg (Itr lo n) [it] it (λ i h=>IsRangeIter h it (lo+(i:Nat)*1) ((n:Int)-(i:Nat)) 1) where
 mem:=by simp
 obj:=λ i h st b hb=>by
  have e:b=it:=by simpa using hb
  subst e;exact⟨_,st,λ v z=>by
   have z':Data.fields _=Data.cell v:=z;cases z'⟩
 keep:=λ i h h' st k=>k it (by simp) _ st
 item:=by
  intro X hP hw hK hc i pins s σ H E I hf st hg;subst hP hw hK;obtain⟨f0,f1,f2,f3,f4,f5⟩:=hf it (by simp);have W:=Walks.range (prog:=X.prog) (w:=X.w) (I.ok.hd hc) it lo 1 n;refine W.item i s _ _ hg st λ v h' tk hv b0 kk=>?_
  obtain⟨t,rfl⟩:=hv;have I1:Inv X pins σ H { s with heap:=h',toks:=tk }:=I.turned (λ b o hb e=>kk b o (by simpa using hb) e) f0 f1 f3 f4 f5;refine⟨_,rfl,qgx (s:={ s with heap:=h',toks:=tk }) (n:="range_iterator") b0 rfl rfl (by decide) ⟨.int (lo+i),H,I1,⟨t,?_⟩,⟨rfl,rfl⟩,b0,λ b hb=>(hf b hb).1⟩⟩;rw[Int.mul_one]
 done:=by
  intro X hP hw hK hc i pins s σ H E I hf st hg;subst hP hw hK;obtain⟨f0,f1,f2,f3,f4,f5⟩:=hf it (by simp);exact wpAny_pyNext_range_end (I.ok.hd hc) st (by have:n<=i:=hg;omega) λ h' eb=>⟨rfl,I.turned (t':=s.toks) (λ b o hb e=>eb b o hb e) f0 f1 f3 f4 f5⟩
 self:=λ _ _ _ _ _ st h=>wpAny_pyIter_rangeiter st h
section
variable {X:Cx}{tg:Expr}
def qme(K:W.Frag)(tl:TE):TI:=λ σ H R=>tl σ H λ x H1=>∃ a,x=.ref a/\(∃ xs,SqL K H1 a xs)/\R (Itl K a) H1
def qnf(K:W.Frag)(tl:TE):TI:=λ σ H R=>tl σ H λ x H1=>∃ a,x=.ref a/\(∃ xs,SqT K H1 a xs)/\R (Itt K a) H1
theorem zT{l:Expr}{tl:TE}(hl:PE X l tl):PI X tg l (qme X.K tl):=by
 intro pins s σ H R I h;refine thn (hl pins s σ H _ I h) λ v s1 ⟨x,H1,I1,r1,q1⟩=>?_
 obtain⟨a,e,⟨xs,hq⟩,q⟩:=q1;subst e;cases r1
 obtain⟨its,rv,p,hz⟩:=I1.list hq;refine Z1 p.isList ?_;refine⟨s1.heap.objs.size,[s1.heap.objs.size],_,_,H1,rfl,I1.kept (t':=s1.toks) λ b o e=>XD _ e,qhd a _,⟨_,Ys _ rfl,rfl,rfl⟩,λ b hb=>?_,q⟩;have e:b=s1.heap.objs.size:=by simpa using hb
 subst e;exact I1.fpOk (Qs _) (I1.hok.fresh (Qs _))
theorem qdA{l:Expr}{tl:TE}(hl:PE X l tl):PI X tg l (qnf X.K tl):=by
 intro pins s σ H R I h;refine thn (hl pins s σ H _ I h) λ v s1 ⟨x,H1,I1,r1,q1⟩=>?_
 obtain⟨a,e,⟨xs,hq⟩,q⟩:=q1;subst e;cases r1
 obtain⟨its,rv,p,hz⟩:=I1.tuple hq;refine wpAny_pyIter_tuple (show s1.heap.IsTuple a its.toArray from p) ?_;refine⟨s1.heap.objs.size,[s1.heap.objs.size],_,_,H1,rfl,I1.kept (t':=s1.toks) λ b o e=>XD _ e,qfu a _,⟨_,Ys _ rfl,rfl,rfl⟩,λ b hb=>?_,q⟩;have e:b=s1.heap.objs.size:=by simpa using hb
 subst e;exact I1.fpOk (Qs _) (I1.hok.fresh (Qs _))
theorem qie{pins:List (Addr×Obj)}{σ:St}{H:Hp}{s:Shared}{R:It->Hp->Prop}{E:Value->Shared->Prop}{lo hi:Int}{t u v:Tok}{tk:Nat}(I:Inv X pins σ H s)(h1:-(2^62)<=lo)(h2:lo<2^62)(h3:-(2^62)<=hi)(h4:hi<2^62)(q:R (Itr lo (hi-lo).toNat) H):wpAny (model X.prog X.w) X.A (pyIter (.ref s.heap.objs.size)) (PIE X pins σ tg R) E { s with heap:=s.heap.push { cls:=.type "range",data:=.fields #[.int lo t,.int hi u,.int 1 v] },toks:=tk }:=by
 refine wpAny_pyIter_range (IsRange.new ..) (small_one h1 h2 h3 h4) ?_;have I1:Inv X pins σ H { s with heap:=s.heap.push { cls:=.type "range",data:=.fields #[.int lo t,.int hi u,.int 1 v] },toks:=tk }:=I.kept λ b o e=>XD _ e
 refine⟨(s.heap.push { cls:=.type "range",data:=.fields #[.int lo t,.int hi u,.int 1 v] }).objs.size,[(s.heap.push { cls:=.type "range",data:=.fields #[.int lo t,.int hi u,.int 1 v] }).objs.size],_,_,H,rfl,
  I1.kept (t':=tk) λ b o e=>XD _ e,qfv _ lo (hi-lo).toNat,?_,λ b hb=>?_,q⟩
 ·have e1:lo+((0:Nat):Int)*1=lo:=by simp
  have e2:(((hi-lo).toNat:Nat):Int)-((0:Nat):Int)=Builtin.Range.rangeSize lo hi 1:=by rw[rangeSize_one];split <;> omega
  show IsRangeIter _ _ (lo+((0:Nat):Int)*1) ((((hi-lo).toNat:Nat):Int)-((0:Nat):Int)) 1
  rw[e1,e2];exact Ys _ rfl
 ·have e:b=(s.heap.push { cls:=.type "range",data:=.fields #[.int lo t,.int hi u,.int 1 v] }).objs.size:=by simpa using hb
  subst e;exact I1.fpOk (Qs _) (I1.hok.fresh (Qs _))
def qmf(ta:TA):TI:=λ σ H R=>ta σ H λ vs H1=>∃ j:Int,vs=[.int j]/\-(2^62)<=j/\j<2^62/\R (Itr 0 j.toNat) H1
theorem yi{a:Expr}{ta:TA}{p pos:Pos}(hg:Gl X "range")(hm:X.mg "range"=none)(ha:PA X [a] ta)(hs:starEach [a] X.env=[(false,eval a X.env)]:=by rfl):PI X tg (.Call (.Name "range" p) [a] [] pos) (qmf ta):=by
 intro pins s σ H R I h;refine Call_ (kr I hg hm boot_range (Xf (thn (ha pos pins s σ H _ I h) λ us s1 ⟨vs,H1,I1,r1,q1⟩=>?_) hs rfl));obtain⟨j,e,q1,q2,q⟩:=q1;subst e;cases r1 with
 |cons r rr =>
  cases rr
  obtain⟨t,rfl⟩:=r;exact call_range_1 (qie I1 (by omega) (by omega) q1 q2 (by simpa using q))
def qng(wi:TI)(g:TG)(tb:TS):TS:=λ D σ H=>wi σ H λ J H1=>∃ W:Nat->Nat->St->Hp->Prop,(∃ m,W 0 m σ H1)/\∀ i m σ H,W i m σ H ->
 (J.stop i H/\D.nx σ H)∨(J.go i H/\∃ N:St->Hp->Prop,(∀ σ' H',N σ' H'->∃ m',m'<m/\W (i+1) m' σ' H')/\∀ x H',J.yld i H x H'->g x σ H' λ σ2 H2=>tb { D with nx:=N,ct:=N,bk:=D.nx } σ2 H2)
noncomputable def j9(fp:List Addr)(h:Heap):List (Addr×Obj):=fp.filterMap λ b=>(h.get? b).map λ o=>(b,o)
theorem yj{fp:List Addr}{h:Heap}{b:Addr}{o:Obj}(hb:b∈fp)(e:h.get? b=some o):(b,o)∈j9 fp h:=List.mem_filterMap.mpr ⟨b,hb,by rw[e];rfl⟩
theorem qhe{fp:List Addr}{h:Heap}{p:Addr×Obj}(hp:p∈j9 fp h):p.1∈fp/\h.get? p.1=some p.2:=by
 obtain⟨b,hb,e⟩:=List.mem_filterMap.mp hp;cases q:h.get? b with
 |none=>rw[q] at e;cases e
 |some o =>
  rw[q] at e;have e':(b,o)=p:=Option.some.inj e;subst e';exact⟨hb,q⟩
theorem Inv.pinned{pins:List (Addr×Obj)}{σ:St}{H:Hp}{s:Shared}{fp:List Addr}(I:Inv X pins σ H s)(hf:∀ b∈fp,jw X pins H b)(ho:∀ b∈fp,∃ o,s.heap.get? b=some o/\∀ v,o.data≠.cell v):Inv X (pins++j9 fp s.heap) σ H s:=
 I.pins_of λ p hp=>(Ur.mp hp).elim (λ z=>I.pin p (XN _ z)) λ z=>by
  obtain⟨hb,e⟩:=qhe z;obtain⟨f0,f1,f2,_⟩:=hf p.1 hb;obtain⟨o,e',d⟩:=ho p.1 hb;rw[e] at e';cases e';exact⟨e,f0,f1,f2,d⟩
theorem Inv.unpinned{pins pl:List (Addr×Obj)}{σ:St}{H:Hp}{s:Shared}(I:Inv X (pins++pl) σ H s):Inv X pins σ H s:=I.pins_of λ p hp=>I.pin p (XN _ (Yg _ hp))
theorem zZ{iter:Expr}{body:List Stmt}{wi:TI}{g:TG}{tb:TS}{pos:Pos}(hp:PassesOwn (model X.prog X.w) X.A X.env X.xe)(hc:X.calm=true)(hi:PI X tg iter wi)(hg:PG X tg g)(hb:PSs X body tb)(hs:∀ x,foldedSetIterable iter X.env x=pure x:=by intro _;rfl):PS X (.For tg iter body [] pos) (qng wi g tb):=by
 intro pins s σ H D I h;refine wpAny_For (thn (hi pins s σ H _ I h) λ v s1 h1=>thn h1 λ eQ s2 h2=>?_) hs;obtain⟨it,fp,tn,J,H2,e,I2,T,i7,f2,W,⟨m0,w0⟩,turn⟩:=h2;subst e;have M6:∀{H':Hp},(∀ b∈fp,H' b=none)->∀ b∈fp,jw X pins H' b:=λ hn b hb=>⟨hn b hb,(f2 b hb).2⟩
 refine codeAny_forLoop_any (λ n s'=>∃ i σ' H',Inv X pins σ' H' s'/\tn i s'.heap/\(∀ b∈fp,H' b=none)/\W i n σ' H') ?_ m0 ⟨0,σ,H2,I2,i7,λ b hb=>(f2 b hb).1,w0⟩;rintro n s3 ⟨i,σ3,H3,I3,E5,aN,w3⟩;rcases turn i n σ3 H3 w3 with⟨stop,qn⟩|⟨go,N,hN,step⟩
 ·refine Jc hp (thn (T.done X rfl rfl rfl hc i pins s3 σ3 H3 X.xe I3 (M6 aN) E5 stop) λ r s4 ⟨hr,I4⟩=>?_);subst hr;exact Jb ⟨σ3,H3,I4,qn⟩
 ·refine Jc hp (thn (T.item X rfl rfl rfl hc i pins s3 σ3 H3 X.xe I3 (M6 aN) E5 go) λ r s4 ⟨u,hr,h4⟩=>?_);subst hr;refine Jc hp (thn h4 λ _ s5 ⟨x,H5,I5,r5,y5,M7,iH⟩=>?_);have I5':=I5.pinned (M6 iH) (T.obj _ _ M7);refine Jc hp (thn (hg _ s5 σ3 H5 x u _ I5' r5 (step x H5 y5)) λ _ s6 ⟨σ6,H6,I6,q6⟩=>?_);refine Jc hp (thn (hb _ s6 σ6 H6 _ I6 q6) λ f s7 q7=>?_);have again:∀{σ7:St}{H7:Hp},Inv X (pins++j9 fp s5.heap) σ7 H7 s7->N σ7 H7->∃ m,m<n/\∃ i σ' H',Inv X pins σ' H' s7/\tn i s7.heap/\(∀ b∈fp,H' b=none)/\W i m σ' H':=λ{σ7 H7} I7 n7=>by
   obtain⟨m',hm,w7⟩:=hN σ7 H7 n7;refine⟨m',hm,i+1,σ7,H7,I7.unpinned,T.keep _ _ _ M7 λ b hb o e=>(I7.pin (b,o) (XN _ (XN _ (yj hb e)))).1,λ b hb=>?_,w7⟩;obtain⟨o,e,d⟩:=T.obj _ _ M7 b hb;exact(I7.pin (b,o) (XN _ (XN _ (yj hb e)))).2.1
  cases f with
  |next=>obtain⟨σ7,H7,I7,n7⟩:=q7;exact again I7 n7
  |cont=>obtain⟨σ7,H7,I7,n7⟩:=q7;exact again I7 n7
  |brk=>obtain⟨σ7,H7,I7,q7⟩:=q7;exact⟨σ7,H7,I7.unpinned,q7⟩
  |ret v=>obtain⟨x7,σ7,H7,I7,r7,q7⟩:=q7;exact⟨x7,σ7,H7,I7.unpinned,r7,q7⟩
end
theorem vc{K:W.Frag}{a:Addr}{xs:List V}{g:TG}{tb:TS}{D:Ends}{σ:St}{H:Hp}(Pv:Nat->St->Hp->Prop)(h0:Pv 0 σ H)(hl:∀ i σ H,i<=xs.length->Pv i σ H->SqL K H a xs)(hs:∀ i x σ H,xs[i]?=some x->Pv i σ H->g x σ H λ σ2 H2=>tb { D with nx:=Pv (i+1),ct:=Pv (i+1),bk:=D.nx } σ2 H2)(hd:∀ σ H,Pv xs.length σ H->D.nx σ H):
  ∃ W:Nat->Nat->St->Hp->Prop,(∃ m,W 0 m σ H)/\∀ i m σ H,W i m σ H ->
   ((Itl K a).stop i H/\D.nx σ H)∨((Itl K a).go i H/\∃ N:St->Hp->Prop,(∀ σ' H',N σ' H'->∃ m',m'<m/\W (i+1) m' σ' H')/\∀ x H',(Itl K a).yld i H x H'->g x σ H' λ σ2 H2=>tb { D with nx:=N,ct:=N,bk:=D.nx } σ2 H2):=by
 refine⟨λ i m σ H=>m=xs.length-i/\i<=xs.length/\Pv i σ H,⟨xs.length,by simp,Qt _,h0⟩,?_⟩;rintro i m σ H ⟨rfl,hi,p⟩;have q:=hl i σ H hi p;by_cases c8:i<xs.length
 ·refine .inr ⟨⟨xs,xs[i],q,by simp[c8]⟩,Pv (i+1),λ σ' H' p'=>⟨xs.length-(i+1),by omega,rfl,c8,p'⟩,λ x H' y=>?_⟩;obtain⟨e,y⟩:=y;subst e;exact hs i x σ _ (y xs q) p
 ·have e:i=xs.length:=by omega
  subst e;exact .inl ⟨⟨xs,q,Qs _⟩,hd σ H p⟩
theorem qjY{K:W.Frag}{a:Addr}{xs:List V}{g:TG}{tb:TS}{D:Ends}{σ:St}{H:Hp}(Pv:Nat->St->Hp->Prop)(h0:Pv 0 σ H)(hl:∀ i σ H,i<=xs.length->Pv i σ H->SqT K H a xs)(hs:∀ i x σ H,xs[i]?=some x->Pv i σ H->g x σ H λ σ2 H2=>tb { D with nx:=Pv (i+1),ct:=Pv (i+1),bk:=D.nx } σ2 H2)(hd:∀ σ H,Pv xs.length σ H->D.nx σ H):
  ∃ W:Nat->Nat->St->Hp->Prop,(∃ m,W 0 m σ H)/\∀ i m σ H,W i m σ H ->
   ((Itt K a).stop i H/\D.nx σ H)∨((Itt K a).go i H/\∃ N:St->Hp->Prop,(∀ σ' H',N σ' H'->∃ m',m'<m/\W (i+1) m' σ' H')/\∀ x H',(Itt K a).yld i H x H'->g x σ H' λ σ2 H2=>tb { D with nx:=N,ct:=N,bk:=D.nx } σ2 H2):=by
 refine⟨λ i m σ H=>m=xs.length-i/\i<=xs.length/\Pv i σ H,⟨xs.length,by simp,Qt _,h0⟩,?_⟩;rintro i m σ H ⟨rfl,hi,p⟩;have q:=hl i σ H hi p;by_cases c8:i<xs.length
 ·refine .inr ⟨⟨xs,xs[i],q,by simp[c8]⟩,Pv (i+1),λ σ' H' p'=>⟨xs.length-(i+1),by omega,rfl,c8,p'⟩,λ x H' y=>?_⟩;obtain⟨e,y⟩:=y;subst e;exact hs i x σ _ (y xs q) p
 ·have e:i=xs.length:=by omega
  subst e;exact .inl ⟨⟨xs,q,Qs _⟩,hd σ H p⟩
theorem js{lo:Int}{n:Nat}{g:TG}{tb:TS}{D:Ends}{σ:St}{H:Hp}(Pv:Nat->St->Hp->Prop)(h0:Pv 0 σ H)(hs:∀ i σ H,i<n->Pv i σ H->g (.int (lo+i)) σ H λ σ2 H2=>tb { D with nx:=Pv (i+1),ct:=Pv (i+1),bk:=D.nx } σ2 H2)(hd:∀ σ H,Pv n σ H->D.nx σ H):
  ∃ W:Nat->Nat->St->Hp->Prop,(∃ m,W 0 m σ H)/\∀ i m σ H,W i m σ H ->
   ((Itr lo n).stop i H/\D.nx σ H)∨((Itr lo n).go i H/\∃ N:St->Hp->Prop,(∀ σ' H',N σ' H'->∃ m',m'<m/\W (i+1) m' σ' H')/\∀ x H',(Itr lo n).yld i H x H'->g x σ H' λ σ2 H2=>tb { D with nx:=N,ct:=N,bk:=D.nx } σ2 H2):=by
 refine⟨λ i m σ H=>m=n-i/\i<=n/\Pv i σ H,⟨n,by simp,Qt _,h0⟩,?_⟩;rintro i m σ H ⟨rfl,hi,p⟩;by_cases c8:i<n
 ·refine .inr ⟨c8,Pv (i+1),λ σ' H' p'=>⟨n-(i+1),by omega,rfl,c8,p'⟩,λ x H' y=>?_⟩;obtain⟨e,y⟩:=y;subst e y;exact hs i σ _ c8 p
 ·have e:i=n:=by omega
  subst e;exact .inl ⟨Qs _,hd σ H p⟩
abbrev R2:=V->V->Hp->VK->Prop
def OpR(X:Cx)(f:Value->Value->Sem Value)(r:R2):Prop:=
 ∀(pins:List (Addr×Obj))(s:Shared)(σ:St)(H:Hp)(x y:V)(v u:Value)(Q:VK),Inv X pins σ H s->qO x v->qO y u->r x y H Q ->
  wpAny (model X.prog X.w) X.A (f v u) (EP X pins σ Q) X.xe s
def UnR(X:Cx)(f:Value->Sem Value)(r:V->Hp->VK->Prop):Prop:=
 ∀(pins:List (Addr×Obj))(s:Shared)(σ:St)(H:Hp)(x:V)(v:Value)(Q:VK),Inv X pins σ H s->qO x v->r x H Q ->
  wpAny (model X.prog X.w) X.A (f v) (EP X pins σ Q) X.xe s
def y3(X:Cx)(f:Value)(r:List V->Hp->VK->Prop):Prop:=
 ∀(pins:List (Addr×Obj))(s:Shared)(σ:St)(H:Hp)(xs:List V)(us:List Value)(Q:VK),Inv X pins σ H s->qI xs us->r xs H Q ->
  wpAny (model X.prog X.w) X.A (call f us) (EP X pins σ Q) X.xe s
def tOp(r:R2)(ta tb:TE):TE:=λ σ H Q=>ta σ H λ x H1=>tb σ H1 λ y H2=>r x y H2 Q
def tUn(r:V->Hp->VK->Prop)(ta:TE):TE:=λ σ H Q=>ta σ H λ x H1=>r x H1 Q
def rI(C:Int->Int->Prop)(g:Int->Int->V):R2:=λ x y H Q=>∃ i j,x=.int i/\y=.int j/\C i j/\Q (g i j) H
def rI0(g:Int->Int->V):R2:=λ x y H Q=>∃ i j,x=.int i/\y=.int j/\Q (g i j) H
def rU(g:Int->V):V->Hp->VK->Prop:=λ x H Q=>∃ i,x=.int i/\Q (g i) H
section
variable {X:Cx}{a b c:Expr}{ta tb tc:TE}{pos:Pos}
theorem qlj(ha:PE X a ta)(hb:PE X b tb){pins:List (Addr×Obj)}{s:Shared}{σ:St}{H:Hp}{R:V->V->Hp->Prop}(I:Inv X pins σ H s)(h:ta σ H λ x H1=>tb σ H1 λ y H2=>R x y H2){Q:Value->Shared->Prop}{f:Value->Value->Sem Value}(hf:∀ v u s2 x y H2,Inv X pins σ H2 s2->qO x v->qO y u->R x y H2->wpAny (model X.prog X.w) X.A (f v u) Q X.xe s2):
  wpAny (model X.prog X.w) X.A (eval a X.env) (λ v s₁=>wpAny (model X.prog X.w) X.A (eval b X.env) (λ u s₂=>wpAny (model X.prog X.w) X.A (f v u) Q X.xe s₂) X.xe s₁) X.xe s:=by
 refine thn (ha pins s σ H _ I h) λ v s1 ⟨x,H1,I1,r1,q1⟩=>?_
 refine thn (hb pins s1 σ H1 _ I1 q1) λ u s2 ⟨y,H2,I2,r2,q2⟩=>?_
 exact hf v u s2 x y H2 I2 r1 r2 q2
theorem qm{op:Operator}{r:R2}(ho:OpR X (binaryOp op) r)(ha:PE X a ta)(hb:PE X b tb):PE X (.BinOp a op b pos) (tOp r ta tb):=by
 intro pins s σ H Q I h;exact wpAny_BinOp (qlj ha hb I h λ v u s2 x y H2 I2 rx ry q=>ho pins s2 σ H2 x y v u Q I2 rx ry q)
theorem qif{op:UnaryOp}{r:V->Hp->VK->Prop}(ho:UnR X (unaryOp op) r)(ha:PE X a ta):PE X (.UnaryOp op a pos) (tUn r ta):=by
 intro pins s σ H Q I h;exact UnaryOp_ (thn (ha pins s σ H _ I h) λ v s1 ⟨x,H1,I1,r1,q1⟩=>ho pins s1 σ H1 x v Q I1 r1 q1)
theorem opI{f:Value->Value->Sem Value}{C:Int->Int->Prop}{g:Int->Int->Int}(rule:∀(i j:Int)(t u:Tok)(s:Shared)(Q:Value->Shared->Prop)(E:Value->Shared->Prop),C i j->Q (.int (g i j) s.toks) { s with toks:=s.toks+1 }->wpAny (model X.prog X.w) X.A (f (.int i t) (.int j u)) Q E s):
  OpR X f (rI C λ i j=>.int (g i j)):=by
 intro pins s σ H x y v u Q I rx ry h;obtain⟨i,j,rfl,rfl,hc,q⟩:=h;obtain⟨t,rfl⟩:=rx;obtain⟨t',rfl⟩:=ry;exact rule i j t t' s _ _ hc ⟨.int (g i j),H,I.tok _,⟨_,rfl⟩,q⟩
theorem qmg{f:Value->Value->Sem Value}{g:Int->Int->Int}(rule:∀(i j:Int)(t u:Tok)(s:Shared)(Q:Value->Shared->Prop)(E:Value->Shared->Prop),Q (.int (g i j) s.toks) { s with toks:=s.toks+1 }->wpAny (model X.prog X.w) X.A (f (.int i t) (.int j u)) Q E s):
  OpR X f (rI0 λ i j=>.int (g i j)):=by
 intro pins s σ H x y v u Q I rx ry h;obtain⟨i,j,rfl,rfl,q⟩:=h;obtain⟨t,rfl⟩:=rx;obtain⟨t',rfl⟩:=ry;exact rule i j t t' s _ _ ⟨.int (g i j),H,I.tok _,⟨_,rfl⟩,q⟩
theorem qmh{f:Value->Value->Sem Value}{g:Int->Int->Bool}(rule:∀(i j:Int)(t u:Tok)(s:Shared)(Q:Value->Shared->Prop)(E:Value->Shared->Prop),Q (.bool (g i j)) s->wpAny (model X.prog X.w) X.A (f (.int i t) (.int j u)) Q E s):
  OpR X f (rI0 λ i j=>.bl (g i j)):=by
 intro pins s σ H x y v u Q I rx ry h;obtain⟨i,j,rfl,rfl,q⟩:=h;obtain⟨t,rfl⟩:=rx;obtain⟨t',rfl⟩:=ry;exact rule i j t t' s _ _ ⟨.bl (g i j),H,I,rfl,q⟩
def qnh(i j:Int):Prop:=0<j/\j<1073741824
def qjZ(i j:Int):Prop:=(-(2^64)<i/\i<2^64)∨(-(2^64)<j/\j<2^64)
theorem qjZ.ok{i j:Int}(h:qjZ i j):IntMulOk i j:=by
 rcases h with⟨h1,h2⟩|⟨h1,h2⟩
 ·exact .of_left (intBits_le_64 h1 h2)
 ·exact .of_right (intBits_le_64 h1 h2)
theorem qfw(k:Nat):(0:Int)<=2^k:=by
 rw[two_pow_cast];exact Int.natCast_nonneg _
theorem yH:OpR X (binaryOp .Add) (rI0 λ i j=>.int (i+j)):=qmg λ _ _ _ _ _ _ _ q=>add_int q
theorem qig:OpR X (binaryOp .Sub) (rI0 λ i j=>.int (i-j)):=qmg λ _ _ _ _ _ _ _ q=>sub_int q
theorem jm:OpR X (binaryOp .Mult) (rI qjZ λ i j=>.int (i*j)):=opI λ _ _ _ _ _ _ _ hc q=>mul_int q hc.ok
theorem zU:OpR X (binaryOp .FloorDiv) (rI qnh λ i j=>.int (i / j)):=opI λ i j _ _ _ _ _ hc q=>by
 have h1:(0:Int)<j:=hc.1;have h2:j<1073741824:=hc.2;exact floordiv_int (by omega) (by rw[Int.fdiv_eq_ediv_of_nonneg i (by omega)];exact q) (.inl (PyProof.noPylong_small (by omega)))
theorem zd:OpR X (binaryOp .Mod) (rI (λ _ j=>0<j) λ i j=>.int (i % j)):=opI λ i j _ _ _ _ _ hc q=>by
 have h1:(0:Int)<j:=hc;exact mod_int' (by omega) (by rw[Int.fmod_eq_emod_of_nonneg i (by omega)];exact q)
theorem qlk:OpR X (binaryOp .RShift) (rI (λ _ j=>0<=j) λ i j=>.int (i / 2^j.toNat)):=opI λ i j _ _ _ _ _ hc q =>
 rshift_int hc (by rw[Int.fdiv_eq_ediv_of_nonneg i (qfw _)];exact q)
theorem unI{f:Value->Sem Value}{g:Int->Int}(rule:∀(i:Int)(t:Tok)(s:Shared)(Q:Value->Shared->Prop)(E:Value->Shared->Prop),Q (.int (g i) s.toks) { s with toks:=s.toks+1 }->wpAny (model X.prog X.w) X.A (f (.int i t)) Q E s):
  UnR X f (rU λ i=>.int (g i)):=by
 intro pins s σ H x v Q I rx h;obtain⟨i,rfl,q⟩:=h;obtain⟨t,rfl⟩:=rx;exact rule i t s _ _ ⟨.int (g i),H,I.tok _,⟨_,rfl⟩,q⟩
theorem qfx:UnR X (unaryOp .USub) (rU λ i=>.int (-i)):=unI λ _ _ _ _ _ q=>neg_int q
end
noncomputable def qmi:V->V->Bool
 |.non,.non=>true|.non,.int _=>true|.int _,.non=>true|.non,.bl _=>true|.bl _,.non=>true|.non,.str _=>true|.str _,.non=>true
 |.int _,.int _=>true|.bl _,.bl _=>true|.str _,.str _=>true|.byt _,.byt _=>true
 |.int _,.str _=>true|.str _,.int _=>true|.bl _,.str _=>true|.str _,.bl _=>true
 |_,_=>false
def rEq:R2:=λ x y H Q=>qmi x y=true/\Q (.bl (decide (x=y))) H
def rNe:R2:=λ x y H Q=>qmi x y=true/\Q (.bl (!decide (x=y))) H
theorem qgy{i j:Int}:decide (V.int i=V.int j)=(i == j):=by
 rw[Us];simp
theorem qih{i j:Bool}:decide (V.bl i=V.bl j)=(i == j):=by
 rw[Us];simp
theorem qgz{i j:Str}:decide (V.str i=V.str j)=(i == j):=by
 rw[Us];simp
theorem qgA{i j:Array UInt8}:decide (V.byt i=V.byt j)=(i.toList == j.toList):=by
 rw[Us];cases i
 cases j
 simp
section
variable {X:Cx}{a b c:Expr}{ta tb tc:TE}{pos:Pos}
theorem qU{pins:List (Addr×Obj)}{σ:St}{H:Hp}{s:Shared}{Q:VK}{k k':Bool}(I:Inv X pins σ H s)(q:Q (.bl k) H)(e:k=k'):EP X pins σ Q (.bool k') s:=by
 subst e;exact⟨.bl k,H,I,rfl,q⟩
theorem zq:OpR X (compareOp .Eq) rEq:=by
 intro pins s σ H x y v u Q I rx ry h;obtain⟨hs,q⟩:=h;cases x with
 |non =>
  cases rx
  cases y with
  |non=>cases ry;exact PySem.EqNone.eq_none_none (qU I q (by simp))
  |bl j=>cases ry;exact PySem.EqNone.eq_none_bool (qU I q (by simp))
  |int j=>obtain⟨t',rfl⟩:=ry;exact PySem.EqNone.eq_none_int (qU I q (by simp))
  |str j=>obtain⟨t',rfl⟩:=ry;exact PySem.EqNone.eq_none_str (qU I q (by simp))
  |_=>exact absurd (show false=true from hs) Y8
 |bl i =>
  cases rx
  cases y with
  |non=>cases ry;exact PySem.EqNone.eq_bool_none (qU I q (by simp))
  |bl j=>cases ry;exact eq_bool (qU I q qih)
  |str j=>obtain⟨t',rfl⟩:=ry;exact PySem.EqMixed.eq_bool_str (qU I q (by simp))
  |_=>exact absurd (show false=true from hs) Y8
 |int i =>
  obtain⟨t,rfl⟩:=rx;cases y with
  |non=>cases ry;exact PySem.EqNone.eq_int_none (qU I q (by simp))
  |int j=>obtain⟨t',rfl⟩:=ry;exact eq_int (qU I q qgy)
  |str j=>obtain⟨t',rfl⟩:=ry;exact PySem.EqMixed.eq_int_str (qU I q (by simp))
  |_=>exact absurd (show false=true from hs) Y8
 |str i =>
  obtain⟨t,rfl⟩:=rx;cases y with
  |non=>cases ry;exact PySem.EqNone.eq_str_none (qU I q (by simp))
  |bl j=>cases ry;exact PySem.EqMixed.eq_str_bool (qU I q (by simp))
  |int j=>obtain⟨t',rfl⟩:=ry;exact PySem.EqMixed.eq_str_int (qU I q (by simp))
  |str j=>obtain⟨t',rfl⟩:=ry;exact eq_str (qU I q qgz)
  |_=>exact absurd (show false=true from hs) Y8
 |byt i =>
  obtain⟨t,rfl⟩:=rx;cases y with
  |byt j=>obtain⟨t',rfl⟩:=ry;exact W.eq_bytes (qU I q qgA)
  |_=>exact absurd (show false=true from hs) Y8
 |_=>cases y <;> exact absurd (show false=true from hs) Y8
theorem qii:OpR X (compareOp .NotEq) rNe:=by
 intro pins s σ H x y v u Q I rx ry h;obtain⟨hs,q⟩:=h;cases x with
 |non =>
  cases rx
  cases y with
  |non=>cases ry;exact PySem.EqNone.ne_none_none (qU I q (by simp))
  |bl j=>cases ry;exact PySem.EqNone.ne_none_bool (qU I q (by simp))
  |int j=>obtain⟨t',rfl⟩:=ry;exact PySem.EqNone.ne_none_int (qU I q (by simp))
  |str j=>obtain⟨t',rfl⟩:=ry;exact PySem.EqNone.ne_none_str (qU I q (by simp))
  |_=>exact absurd (show false=true from hs) Y8
 |bl i =>
  cases rx
  cases y with
  |non=>cases ry;exact PySem.EqNone.ne_bool_none (qU I q (by simp))
  |bl j=>cases ry;exact ne_bool (qU I q (congrArg not qih))
  |str j=>obtain⟨t',rfl⟩:=ry;exact PySem.EqMixed.ne_bool_str (qU I q (by simp))
  |_=>exact absurd (show false=true from hs) Y8
 |int i =>
  obtain⟨t,rfl⟩:=rx;cases y with
  |non=>cases ry;exact PySem.EqNone.ne_int_none (qU I q (by simp))
  |int j=>obtain⟨t',rfl⟩:=ry;exact ne_int (qU I q (congrArg not qgy))
  |str j=>obtain⟨t',rfl⟩:=ry;exact PySem.EqMixed.ne_int_str (qU I q (by simp))
  |_=>exact absurd (show false=true from hs) Y8
 |str i =>
  obtain⟨t,rfl⟩:=rx;cases y with
  |non=>cases ry;exact PySem.EqNone.ne_str_none (qU I q (by simp))
  |bl j=>cases ry;exact PySem.EqMixed.ne_str_bool (qU I q (by simp))
  |int j=>obtain⟨t',rfl⟩:=ry;exact PySem.EqMixed.ne_str_int (qU I q (by simp))
  |str j=>obtain⟨t',rfl⟩:=ry;exact ne_str (qU I q (congrArg not qgz))
  |_=>exact absurd (show false=true from hs) Y8
 |byt i =>
  obtain⟨t,rfl⟩:=rx;cases y with
  |byt j=>obtain⟨t',rfl⟩:=ry;exact W.ne_bytes (qU I q (congrArg not qgA))
  |_=>exact absurd (show false=true from hs) Y8
 |_=>cases y <;> exact absurd (show false=true from hs) Y8
theorem qgB:OpR X (compareOp .Lt) (rI0 λ i j=>.bl (decide (i<j))):=qmh λ _ _ _ _ _ _ _ q=>lt_int q
theorem qbF:OpR X (compareOp .Gt) (rI0 λ i j=>.bl (decide (j<i))):=qmh λ _ _ _ _ _ _ _ q=>gt_int q
theorem qhf:OpR X (compareOp .In) (λ x y H Q=>∃ i j,x=.str i/\y=.str j/\Q (.bl (!(Builtin.Str.occurrences j i 0 j.length 1).isEmpty)) H):=by
 intro pins s σ H x y v u Q I rx ry h;obtain⟨i,j,rfl,rfl,q⟩:=h;obtain⟨t,rfl⟩:=rx;obtain⟨t',rfl⟩:=ry;exact in_str (qU I q rfl)
theorem qij:OpR X (compareOp .Is) (λ x y H Q=>y=.non/\Q (.bl (decide (x=.non))) H):=by
 intro pins s σ H x y v u Q I rx ry h;obtain⟨rfl,q⟩:=h;cases ry
 refine is_none_gen (qU I q ?_);cases x <;> first
  |(cases rx;rfl)
  |(obtain⟨t,rfl⟩:=rx;rfl)
theorem qA(b:Expr){op:CmpOp}(h:op≠.In:=by decide)(h2:op≠.NotIn:=by decide):behindInMarks op b=false:=by
 have e1:(op == CmpOp.In)=false:=by cases op <;> first|rfl|exact absurd rfl h
 have e2:(op == CmpOp.NotIn)=false:=by cases op <;> first|rfl|exact absurd rfl h2
 cases b <;> simp[behindInMarks,e1,e2]
theorem jx{op:CmpOp}{r:R2}(ho:OpR X (compareOp op) r)(ha:PE X a ta)(hb:PE X b tb)(hm:behindInMarks op b=false):PE X (.Compare a [op] [b] pos) (tOp r ta tb):=by
 intro pins s σ H Q I h;exact wpAny_Compare1 (qlj ha hb I h λ v u s2 x y H2 I2 rx ry q=>ho pins s2 σ H2 x y v u Q I2 rx ry q) hm
def qik(t:TE):TT:=λ σ H Q=>t σ H λ x H'=>∃ k,x=.bl k/\Q k H'
theorem qv{op:CmpOp}{r:R2}(ho:OpR X (compareOp op) r)(ha:PE X a ta)(hb:PE X b tb)(hm:behindInMarks op b=false):PT X (.Compare a [op] [b] pos) (qik (tOp r ta tb)):=by
 intro pins s σ H Q I h;refine wpAny_isTrue_Compare1 (thn (ha pins s σ H _ I h) λ v s1 ⟨x,H1,I1,r1,q1⟩=>thn (hb pins s1 σ H1 _ I1 q1) λ u s2 ⟨y,H2,I2,r2,q2⟩ =>
  thn (ho pins s2 σ H2 x y v u _ I2 r1 r2 q2) λ c s3 ⟨z,H3,I3,r3,k,e,q3⟩=>?_) hm
 subst e;cases r3
 exact Zz ⟨H3,I3,q3⟩
theorem vd:(sizeLine:Nat)<2^63:=by rw[sizeLine_eq];decide
theorem qbG:OpR X (binaryOp .Add) (λ x y H Q=>∃ i j,x=.str i/\y=.str j/\i.length+j.length<=sizeLine/\Q (.str (i++j)) H):=by
 intro pins s σ H x y v u Q I rx ry h;obtain⟨i,j,rfl,rfl,hz,q⟩:=h;obtain⟨t,rfl⟩:=rx;obtain⟨t',rfl⟩:=ry;exact add_str (λ t' tk=>⟨.str (i++j),H,I.tok _,⟨_,rfl⟩,q⟩) hz
theorem yg{x:V}{us:List Value}(r:qI [x] us):∃ u,us=[u]/\qO x u:=by
 cases r with
 |cons r1 r2=>cases r2;exact⟨_,rfl,r1⟩
theorem qeo{x y:V}{us:List Value}(r:qI [x,y] us):∃ u w',us=[u,w']/\qO x u/\qO y w':=by
 cases r with
 |cons r1 r2 =>
  cases r2 with
  |cons r3 r4=>cases r4;exact⟨_,_,rfl,r1,r3⟩
theorem qhg(hc:X.calm=true):y3 X (.builtin "max") (λ xs H Q=>∃ i j,xs=[.int i,.int j]/\Q (.int (if j > i then j else i)) H):=by
 intro pins s σ H xs us Q I r h;obtain⟨i,j,rfl,q⟩:=h;obtain⟨u,w',rfl,⟨t,rfl⟩,⟨t',rfl⟩⟩:=qeo r;refine max_two_ints (I.ok.hd hc) λ h' tk k=>⟨_,H,I.kept k,?_,q⟩
 by_cases hj:j > i
 ·rw[Vh hj,Vh hj];exact⟨_,rfl⟩
 ·rw[Vi hj,Vi hj];exact⟨_,rfl⟩
theorem qhh(hc:X.calm=true):y3 X (.builtin "min") (λ xs H Q=>∃ i j,xs=[.int i,.int j]/\Q (.int (if j<i then j else i)) H):=by
 intro pins s σ H xs us Q I r h;obtain⟨i,j,rfl,q⟩:=h;obtain⟨u,w',rfl,⟨t,rfl⟩,⟨t',rfl⟩⟩:=qeo r;refine min_two_ints (I.ok.hd hc) λ h' tk k=>⟨_,H,I.kept k,?_,q⟩
 by_cases hj:j<i
 ·rw[Vh hj,Vh hj];exact⟨_,rfl⟩
 ·rw[Vi hj,Vi hj];exact⟨_,rfl⟩
end
structure ObjM(h:Heap)(x dx C:Addr)(mA:Str->Option Value):Prop where
 obj:h.get? x=some (W.instObj C dx)
 ns:h.Ns1 dx mA
 ne:dx≠x
theorem qhi{h:Heap}{dx:Addr}{mA:Str->Option Value}(n:h.Ns1 dx mA):∃ od,h.get? dx=some od/\∀ name,W.lookIn name od=some (mA name):=by
 obtain⟨o,es,ep,ho,hd,hk,_,hm⟩:=n;refine⟨o,ho,λ name=>?_⟩;have e:=hm name;unfold nsFind findBy at e;rw[<- Array.find?_toList] at e;unfold W.lookIn;rw[hd];dsimp only;split
 ·rename_i y q;rw[q] at e;exact congrArg some e
 ·rename_i q;rw[q] at e;have a:es.toList.any (·.refKey)=false:=by
   rw[List.any_eq_false];intro y hy;obtain⟨z,t,G0⟩:=hk y (Array.mem_toList_iff.mp hy);simp[DictEntry.refKey,G0]
  have a':¬ es.toList.any (·.refKey)=true:=by rw[a];exact Y8
  rw[Vi a'];exact congrArg some e
theorem ObjM.look{h:Heap}{x dx C:Addr}{mA:Str->Option Value}(I:ObjM h x dx C mA):∃ od,PySem.W.InstAt h x (W.instObj C dx) C (some od)/\∀ name,W.lookIn name od=some (mA name):=
 let ⟨od,ho,hl⟩:=qhi I.ns
 ⟨od,⟨I.obj,rfl,rfl,ho⟩,hl⟩
section
variable {prog:Program}{w:World}{A:Around}{E:Value->Shared->Prop}{s:Shared}{K:W.Frag}{x dx C f:Addr}{mA:Str->Option Value}{name:Str}{v:Value}
theorem qj0{expr:Bool}{Q:Value->Shared->Prop}(X:K.In s.heap)(I:ObjM s.heap x dx C mA)(hg:W.plainGet K C name=true)(hh:W.hasDictIn K C=true)(ha:W.findIn K (.ref C) name=some none)(hv:mA name=some v)(cM:W.handedIn v=true)(h:Q v { s with toks:=s.toks+1 }):
  wpAny (model prog w) A (getAttr (.ref x) name expr) Q E s:=by
 obtain⟨od,J,hl⟩:=I.look;exact W.get_value X J (W.plainGet_of hg).1 (W.findObj_own hh ha rfl (by rw[hl,hv])) cM h
theorem qil{pl:Sem Bool}{Q:Value×List Value->Shared->Prop}(X:K.In s.heap)(I:ObjM s.heap x dx C mA)(hg:W.plainGet K C name=true)(hf:W.findIn K (.ref C) name=some (some (.ref f)))(ht:W.isFn K (.ref f)=true)(hv:mA name=none)(h:Q (.ref f,[.ref x]) s):
  wpAny (model prog w) A (getMethod (.ref x) name pl) Q E s:=by
 obtain⟨od,J,hl⟩:=I.look;exact W.method_fn X J (W.plainGet_of hg).1 (W.plainGet_of hg).2 hf (Q2.mp ht) (by show(W.lookIn name od).map (·.isSome)=some false;rw[hl,hv];rfl) h
theorem qj1{ns:List Str}{Q:Unit->Shared->Prop}(X:K.In s.heap)(I:ObjM s.heap x dx C mA)(hs:W.findIn K (.ref C) "__setattr__"=some (some (.builtin "object.__setattr__")))(hp:W.plainOver K C=true)(ht:W.takerIn K C name=some none)(hh:W.hasDictIn K C=true)(hw:PySem.Within mA ns)(hsz:ns.length<=sizeLine)(h:∀ h',ObjM h' x dx C (λ y=>if y=name then some v else mA y)->Heap.SameBut dx s.heap h'->Q () { s with heap:=h',toks:=s.toks+2 }):
  wpAny (model prog w) A (setAttr (.ref x) name v) Q E s:=by
 obtain⟨od,J,hl⟩:=I.look;refine W.set_plain X J hs (W.osa_open (s:={ s with toks:=s.toks+1 }) (r:=none) X J hp ht λ b=>?_);obtain⟨cd,hc,oR⟩:=W.any_some hh;have hx:s.heap.get? x=some ⟨.ref C,some dx,.plain,#[]⟩:=I.obj;refine Qz (Q0 (Qz (Qz (wpAny_loadPart hx (Qz (PySem.W.Looks.here (s:={ s with toks:=s.toks+1 }) (W.looks_clsIn X hc) ?_))))));rw[oR];refine Q0 (a:=some dx) (Qz (Q0 (Qz ?_)));refine wpAny_nsSet1 (s:={ s with toks:=s.toks+1 }) I.ns λ h' W8 p7=>?_
 obtain⟨oD,esD,epD,hoD,hdD,hcD⟩:=W8.count (PySem.Within.cons name v hw);refine Qz (wpAny_lookBehind hoD (by rw[hdD];exact pastItsLine_dict (Qf hcD (by rw[Ua];omega))) ?_);exact Q0 (h _ ⟨(p7.2 _ (Vb I.ne)).trans I.obj,W8,I.ne⟩ p7)
theorem qim{R:Result->Shared->Prop}{vs:List Value}{kw:List (Str×Value)}(X:K.In s.heap)(hm:W.makesIn K C=true)(hi:W.findIn K (.ref C) "__init__"=some (some (.ref f)))(hf:W.typeIn K (.ref f)=some (.type "function"))(h:codeAny (model prog w) (A.under (.builtin "type.__call__" ⟨.ref C::vs,kw⟩)) (.call (.ref f) ⟨.ref (s.heap.objs.size+1)::vs,kw⟩) (PySem.W.InitBack (s.heap.objs.size+1) R)
   { s with heap:=(s.heap.push W.emptyDict).push (W.instObj C s.heap.objs.size) }):
  codeAny (model prog w) A (.call (.ref C) ⟨vs,kw⟩) R s:=by
 obtain⟨hh,g,d,t,os⟩:=s;exact W.make_core (W.makes_of X hm) (W.looks_findIn X hi) (λ self=>W.bind_fn X self hf) (.inl rfl) h
theorem qhj{R:Result->Shared->Prop}(X:K.In s.heap)(hm:W.makesIn K C=true)(hi:W.findIn K (.ref C) "__init__"=some (some (.builtin "object.__init__")))(hb:∀ self,PySem.W.Looks (model prog w) s.heap (bindSpecial (.builtin "object.__init__") self) (.builtin "object.__init__",[self]))(h:codeAny (model prog w) (A.under (.builtin "type.__call__" ⟨[.ref C],[]⟩)) (.call (.builtin "object.__init__") ⟨[.ref (s.heap.objs.size+1)],[]⟩) (PySem.W.InitBack (s.heap.objs.size+1) R)
   { s with heap:=(s.heap.push W.emptyDict).push (W.instObj C s.heap.objs.size) }):
  codeAny (model prog w) A (.call (.ref C) ⟨[],[]⟩) R s:=by
 obtain⟨hh,g,d,t,os⟩:=s;exact W.make_core (W.makes_of X hm) (W.looks_findIn X hi) hb (.inr ⟨rfl,rfl⟩) h
end
noncomputable def kc(f:Str)(v:V):List (Str×V)->List (Str×V)
 | []=>[(f,v)]
 |(g,x)::r=>if g=f then(g,v)::r else(g,x)::kc f v r
theorem qa8(f g:Str)(v:V):∀ fs:List (Str×V),(kc f v fs).lookup g=if g=f then some v else fs.lookup g
 | []=>by
  show List.lookup g [(f,v)]=_
  by_cases h:g=f
  ·have hb:(g == f)=true:=Q2.mpr h;simp only[List.lookup,hb,Vh h]
  ·have hb:(g == f)=false:=Y4.mpr h;simp only[List.lookup,hb,Vi h]
 |(k,x)::r=>by
  have ih:=qa8 f g v r;rw[show kc f v ((k,x)::r)=(if k=f then(k,v)::r else(k,x)::kc f v r) from rfl];by_cases hk:k=f
  ·rw[Vh hk];by_cases h:g=k
   ·have hb:(g == k)=true:=Q2.mpr h;simp only[List.lookup,hb,Vh (h.trans hk)]
   ·have hb:(g == k)=false:=Y4.mpr h;simp only[List.lookup,hb,Vi (λ e:g=f=>h (e.trans hk.symm))]
  ·rw[Vi hk];by_cases h:g=k
   ·have hb:(g == k)=true:=Q2.mpr h;simp only[List.lookup,hb,Vi (λ e:g=f=>hk (h.symm.trans e))]
   ·have hb:(g == k)=false:=Y4.mpr h;simp only[List.lookup,hb];exact ih
theorem qaR(f:Str)(v:V):∀ fs:List (Str×V),f∈(kc f v fs).map (·.1)/\∀ g,g∈fs.map (·.1)->g∈(kc f v fs).map (·.1)
 | []=>⟨by simp[kc],λ g h=>by simp at h⟩
 |(k,x)::r=>by
  obtain⟨i1,i2⟩:=qaR f v r;rw[show kc f v ((k,x)::r)=(if k=f then(k,v)::r else(k,x)::kc f v r) from rfl];by_cases hk:k=f
  ·rw[Vh hk];subst hk;exact⟨by simp,λ g h=>by simpa using h⟩
  ·rw[Vi hk];refine⟨?_,λ g h=>?_⟩
   ·rw[Jz];exact Yf _ i1
   ·rw[Jz] at h ⊢;rcases Jy.mp h with e | e
    ·exact Jy.mpr (.inl e)
    ·exact Yf _ (i2 g e)
theorem qa9(f:Str)(v:V):∀ fs:List (Str×V),(kc f v fs).length<=fs.length+1
 | []=>by simp[kc]
 |(k,x)::r=>by
  have ih:=qa9 f v r;rw[show kc f v ((k,x)::r)=(if k=f then(k,v)::r else(k,x)::kc f v r) from rfl];by_cases hk:k=f
  ·rw[Vh hk,Ua,Ua];omega
  ·rw[Vi hk,Ua,Ua];omega
theorem j6.some_of{v:V}{o:Option Value}(r:j6 (some v) o):∃ u,o=some u/\qO v u:=by
 cases o with
 |none=>exact(show False from r).elim
 |some u=>exact⟨u,rfl,r⟩
theorem j6.none_of{o:Option Value}(r:j6 none o):o=none:=by
 cases o with
 |none=>rfl
 |some u=>exact(show False from r).elim
theorem qhk{v:V}{u:Value}(r:qO v u):W.handedIn u=true:=by
 cases v with
 |non=>cases(show u=Value.none from r);rfl
 |bl b=>cases(show u=Value.bool b from r);rfl
 |int i=>obtain⟨t,e⟩:=(show ∃ t,u=Value.int i t from r);cases e;rfl
 |str x=>obtain⟨t,e⟩:=(show ∃ t,u=Value.str x t from r);cases e;rfl
 |byt b=>obtain⟨t,e⟩:=(show ∃ t,u=Value.bytes b t from r);cases e;rfl
 |flt b=>obtain⟨t,e⟩:=(show ∃ t,u=Value.float b t from r);cases e;rfl
 |ref a=>cases(show u=Value.ref a from r);rfl
 |ty n=>cases(show u=Value.type n from r);rfl
section
variable {P:Program}{w:World}{H H':Hp}{h h':Heap}{a C dx:Addr}{fs R3:List (Str×V)}
theorem qbs(hok:HOk P w H h)(e:H a=some (.ins C dx fs)):∃ mA,ObjM h a dx C mA/\(∀ f,j6 (fs.lookup f) (mA f))/\PySem.Within mA (fs.map (·.1))/\fs.length<=1000/\H dx=some (.own a):=by
 obtain⟨d,z,ne,ob,mA,n,r,q⟩:=(show zo P w H h a (.ins C dx fs) from hok a _ e);exact⟨mA,⟨ob,n,ne⟩,r,q,z,d⟩
end
structure Cls(K:W.Frag)(C:Addr):Prop where
 pg:W.plainGet K C Str.empty=true
 hd:W.hasDictIn K C=true
 po:W.plainOver K C=true
 sa:W.findIn K (.ref C) "__setattr__"=some (some (.builtin "object.__setattr__"))
theorem Cls.get{K:W.Frag}{C:Addr}(c:Cls K C)(f:Str):W.plainGet K C f=true:=c.pg
def NoAttr(K:W.Frag)(C:Addr)(f:Str):Prop:=W.findIn K (.ref C) f=some none
theorem NoAttr.taker{K:W.Frag}{C:Addr}{f:Str}(n:NoAttr K C f):W.takerIn K C f=some none:=by
 unfold W.takerIn;rw[show W.findIn K (.ref C) f=some none from n];rfl
structure Meth(K:W.Frag)(C:Addr)(m:Str)(f:Addr):Prop where
 at_:W.findIn K (.ref C) m=some (some (.ref f))
 fn:W.isFn K (.ref f)=true
 kp:W.keepIn K (.ref f)=true
section
variable {X:Cx}{pins:List (Addr×Obj)}{σ:St}{H:Hp}{s:Shared}{a C dx:Addr}{fs:List (Str×V)}{f:Str}{v:V}{A:Around}{E:Value->Shared->Prop}
theorem qfy{b:Bool}{Q:Value->Shared->Prop}(I:Inv X pins σ H s)(e:H a=some (.ins C dx fs))(c:Cls X.K C)(n:NoAttr X.K C f)(l:fs.lookup f=some v)(h:∀ u s',Inv X pins σ H s'->qO v u->Q u s'):wpAny (model X.prog X.w) A (getAttr (.ref a) f b) Q E s:=by
 obtain⟨mA,O,r,_,_,_⟩:=qbs I.hok e;obtain⟨u,hu,ru⟩:=j6.some_of (v:=v) (o:=mA f) (by rw[<- l];exact r f);exact qj0 I.kIn O (c.get f) c.hd n hu (qhk ru) (h u _ (I.tok _) ru)
theorem qbH{m:Str}{g:Addr}{pl:Sem Bool}{Q:Value×List Value->Shared->Prop}(I:Inv X pins σ H s)(e:H a=some (.ins C dx fs))(c:Cls X.K C)(k:Meth X.K C m g)(l:fs.lookup m=none)(h:Q (.ref g,[.ref a]) s):wpAny (model X.prog X.w) A (getMethod (.ref a) m pl) Q E s:=by
 obtain⟨mA,O,r,_,_,_⟩:=qbs I.hok e;have hn:mA m=none:=j6.none_of (by rw[<- l];exact r m);exact qil I.kIn O (c.get m) k.at_ k.fn hn h
theorem qfz{y:V}{u:Value}{Q:Unit->Shared->Prop}(I:Inv X pins σ H s)(e:H a=some (.ins C dx fs))(c:Cls X.K C)(n:NoAttr X.K C f)(hl:fs.length<1000)(ry:qO y u)(h:∀ s',Inv X pins σ (upd H a (.ins C dx (kc f y fs))) s'->Q () s'):wpAny (model X.prog X.w) A (setAttr (.ref a) f u) Q E s:=by
 obtain⟨mA,O,r,wi,_,ho⟩:=qbs I.hok e;have hz:(fs.map (·.1)).length<=sizeLine:=by rw[Ut,sizeLine_eq];omega
 refine qj1 I.kIn O c.sa c.po n.taker c.hd wi hz λ h' O' sb=>h _ ?_
 have hd:∃ o,h'.get? dx=some o:=let ⟨o,_,_,e',_⟩:=O'.ns;⟨o,e'⟩;refine I.write (x:=a) (e:=dx) (by rw[e];exact True.intro) (.inr ho) (λ b q hb z=>(sb.2 b hb).trans z) hd ?_;refine⟨by rw[qt O.ne];exact ho,?_,O.ne,O'.obj,_,O'.ns,λ g=>?_,λ g hg=>?_⟩
 ·have:=qa9 f y fs;omega
 ·show j6 ((kc f y fs).lookup g) (if g=f then some u else mA g)
  rw[qa8];by_cases q:g=f
  ·rw[Vh q,Vh q];exact ry
  ·rw[Vi q,Vi q];exact r g
 ·by_cases q:g=f
  ·rw[q];exact(qaR f y fs).1
  ·refine(qaR f y fs).2 g (wi g λ z=>hg ?_);show(if g=f then some u else mA g)=none
   rw[Vi q];exact z
theorem Inv.made(I:Inv X pins σ H s):Inv X pins σ (upd (upd H s.heap.objs.size (.own (s.heap.objs.size+1))) (s.heap.objs.size+1) (.ins C s.heap.objs.size []))
  { s with heap:=(s.heap.push W.emptyDict).push (W.instObj C s.heap.objs.size) }:=by
 have e1:(s.heap.push W.emptyDict).get? s.heap.objs.size=some W.emptyDict:=Ys s.heap rfl;have e2:((s.heap.push W.emptyDict).push (W.instObj C s.heap.objs.size)).get? (s.heap.objs.size+1)=some (W.instObj C s.heap.objs.size):=by
  have:=Ys (s.heap.push W.emptyDict) (o:=W.instObj C s.heap.objs.size) rfl
  rwa [Jj] at this
 have e3:(s.heap.push W.emptyDict).Ns s.heap.objs.size (λ _=>none):=⟨W.emptyDict,#[],_,e1,rfl,(λ e he=>absurd he (by simp)),λ _=>rfl⟩;have I1:=I.laid (a:=s.heap.objs.size) (o:=.own (s.heap.objs.size+1)) (h':=s.heap.push W.emptyDict) (t':=s.toks) (λ b u q=>XD _ q) (Qs _) ⟨_,e1⟩;refine I1.laid (a:=s.heap.objs.size+1) (o:=.ins C s.heap.objs.size []) (t':=s.toks) (λ b u q=>XD _ q) (Nat.le_of_eq (Jj _ _)) ?_;have ne:s.heap.objs.size≠s.heap.objs.size+1:=Qe (Ub _);refine⟨by rw[qt ne,qc],Qt _,ne,e2,λ _=>none,(Heap.Ns1.of_empty e3).at λ o q=>XD _ q,λ _=>True.intro,λ y hy=>absurd rfl hy⟩
theorem qj2{prog:Program}{w:World}{env:Env}{e:Expr}{f:Str}{pos:Pos}{s:Shared}{Q:Value->Shared->Prop}(hb:attributeBase e f env (eval e env)=eval e env)(h:wpAny (model prog w) A (eval e env) (λ o s₁=>wpAny (model prog w) A (getAttr o f true) Q E s₁) E s):wpAny (model prog w) A (eval (.Attribute e f pos) env) Q E s:=
 Attribute_any_ h (by rw[arm_eval_Attribute,hb])
end
def qmj(K:W.Frag)(ta:TE)(f:Str):TE:=λ σ H Q=>ta σ H λ x H1=>∃ a C dx fs v,x=.ref a/\H1 a=some (.ins C dx fs)/\Cls K C/\NoAttr K C f/\fs.lookup f=some v/\Q v H1
def qni(K:W.Frag)(ta tv:TE)(f:Str):TS:=λ D σ H=>tv σ H λ y H1=>ta σ H1 λ x H2=>∃ a C dx fs,x=.ref a/\H2 a=some (.ins C dx fs)/\Cls K C/\NoAttr K C f/\fs.length<1000 /\
 D.nx σ (upd H2 a (.ins C dx (kc f y fs)))
section
variable {X:Cx}{o e value:Expr}{f:Str}{pos u8 x9:Pos}{ta tv:TE}
theorem za(he:PE X e ta)(hb:attributeBase e f X.env (eval e X.env)=eval e X.env):PE X (.Attribute e f pos) (qmj X.K ta f):=by
 intro pins s σ H Q I h;refine qj2 hb (thn (he pins s σ H _ I h) λ u s1 ⟨x,H1,I1,rx,a,C,dx,fs,v,ex,ea,c,n,l,q⟩=>?_);subst ex;obtain rfl:u=Value.ref a:=rx;exact qfy I1 ea c n l λ u' s2 I2 ru=>⟨v,H1,I2,ru,q⟩
theorem jy(ha:PE X o ta)(hv:PE X value tv)(hs:swapsWith value (some (.Attribute o f u8)) pos.line X.env=pure false):PS X (.Assign [.Attribute o f u8] value pos) (qni X.K ta tv f):=by
 intro pins s σ H D I h;refine plainObj_wpAny_Assign_Attribute (thn (hv pins s σ H _ I h) λ u s1 ⟨y,H1,I1,ry,q⟩=>thn (ha pins s1 σ H1 _ I1 q) λ ov s2 ⟨x,H2,I2,rx,a,C,dx,fs,ex,ea,c,n,l,q2⟩=>?_) hs;subst ex;obtain rfl:ov=Value.ref a:=rx;exact qfz I2 ea c n l ry λ s3 I3=>⟨σ,_,I3,q2⟩
end
section
variable {X:Cx}{pins:List (Addr×Obj)}{σ:St}{H:Hp}{s:Shared}{A:Around}{E:Value->Shared->Prop}{Q:Value->Shared->Prop}{c:Value}{b:Bool}
inductive TyOf(K:W.Frag)(H:Hp):V->Value->Prop where
 | non:TyOf K H .non (.type "NoneType")
 | bl (x:Bool):TyOf K H (.bl x) (.type "bool")
 | int (i:Int):TyOf K H (.int i) (.type "int")
 | str (x:Str):TyOf K H (.str x) (.type "str")
 | flt (x:UInt64):TyOf K H (.flt x) (.type "float")
 | lst {a:Addr} {xs:List V} (e:H a=some (.lst xs)):TyOf K H (.ref a) (.type "list")
 | frz {a:Addr} {o:Obj} {xs:List V} (e:H a=some (.frz o (.lst xs))):TyOf K H (.ref a) (.type "list")
 | tup {a:Addr} {xs:List V} (e:H a=some (.tup xs)):TyOf K H (.ref a) (.type "tuple")
 | dK {a:Addr} {kvs:List (Key×V)} (e:H a=some (.dK kvs)):TyOf K H (.ref a) (.type "dict")
 | dT {a:Addr} {kvs:List (List Key×V)} (e:H a=some (.dT kvs)):TyOf K H (.ref a) (.type "dict")
 | ins {a C dx:Addr} {fs:List (Str×V)} (e:H a=some (.ins C dx fs)) (cl:Cls K C) (ha:W.findIn K (.ref C) "__class__"=some (some (.builtin "object.__class__")))
   (hn:W.specialIn K (.builtin "object.__class__") "__get__"=some (some (.builtin "getset_descriptor.__get__"))) (htk:W.takesIn K (.builtin "object.__class__")=some true)
   (hm:W.mroIn K C (.type "object")=some true):TyOf K H (.ref a) (.ref C)
theorem qhl{x:V}{u t:Value}(I:Inv X pins σ H s)(rx:qO x u)(ty:TyOf X.K H x t)(e:W.kitOne X.K t c=some b)(h:∀ tk,Q (.bool b) { s with toks:=tk }):
  wpAny (model X.prog X.w) A (call (.builtin "isinstance") [u,c]) Q E s:=by
 cases ty with
 |non=>cases(show u=Value.none from rx);exact Q6 W.kitx_none I.kIn True.intro e (λ z=>nomatch z) h
 |bl y=>cases(show u=Value.bool y from rx);exact Q6 W.kitx_bool I.kIn True.intro e (λ z=>nomatch z) h
 |int i=>obtain⟨t,q⟩:=(show ∃ t,u=Value.int i t from rx);cases q;exact Q6 W.kitx_int I.kIn True.intro e (λ z=>nomatch z) h
 |str y=>obtain⟨t,q⟩:=(show ∃ t,u=Value.str y t from rx);cases q;exact Q6 W.kitx_str I.kIn True.intro e (λ z=>nomatch z) h
 |flt y=>obtain⟨t,q⟩:=(show ∃ t,u=Value.float y t from rx);cases q;exact Q6 W.kitx_float I.kIn True.intro e (λ z=>nomatch z) h
 | @lst a xs ea =>
  cases(show u=Value.ref a from rx)
  obtain⟨_,_,n,_,h1⟩:=(show zo X.prog X.w H s.heap a (.lst xs) from I.hok a _ ea);exact Q6 W.kitx_list I.kIn ⟨_,h1,rfl⟩ e (λ z=>nomatch z) h
 | @frz a ob xs ea =>
  cases(show u=Value.ref a from rx)
  obtain⟨_,_,_,n,_,h1⟩:=(show zo X.prog X.w H s.heap a (.frz ob (.lst xs)) from I.hok a _ ea);exact Q6 W.kitx_list I.kIn ⟨_,h1,rfl⟩ e (λ z=>nomatch z) h
 | @tup a xs ea =>
  cases(show u=Value.ref a from rx)
  obtain⟨_,_,_,p⟩:=(show zo X.prog X.w H s.heap a (.tup xs) from I.hok a _ ea);obtain⟨o,h1,h2,_⟩:=p;exact Q6 W.kitx_tuple I.kIn ⟨o,h1,h2⟩ e (λ z=>nomatch z) h
 | @dK a kvs ea =>
  cases(show u=Value.ref a from rx)
  obtain⟨_,_,vs,_,p⟩:=(show zo X.prog X.w H s.heap a (.dK kvs) from I.hok a _ ea);obtain⟨o,es,ep,h1,h2,_⟩:=p;exact Q6 W.kitx_dict I.kIn ⟨o,h1,h2.1⟩ e (λ z=>nomatch z) h
 | @dT a kvs ea =>
  cases(show u=Value.ref a from rx)
  obtain⟨_,_,xs,_,o,es,ep,h1,h2,_⟩:=(show zo X.prog X.w H s.heap a (.dT kvs) from I.hok a _ ea);exact Q6 W.kitx_dict I.kIn ⟨o,h1,h2.1⟩ e (λ z=>nomatch z) h
 | @ins a C dx fs ea cl ha hn htk hm =>
  cases(show u=Value.ref a from rx)
  obtain⟨mA,O,_⟩:=qbs I.hok ea;obtain⟨od,J,_⟩:=O.look;exact Q6 (W.kitx_own (cl.get _) cl.hd ha hn htk hm) I.kIn J e (λ z=>nomatch z) h
end
structure Room(k:Nat)(A:Around):Prop where
 hd:A.handled=none
 dp:A.depth+3*k+5<recursionLimit
 un:A.units+16*k+200<cLine
theorem Room.mono{j k:Nat}{A:Around}(r:Room k A)(h:j<=k):Room j A:=⟨r.hd,by have:=r.dp;omega,by have:=r.un;omega⟩
theorem Room.deeper{k:Nat}{A:Around}(r:Room (k+1) A)(env:Env):Room k (A.deeper env):=
 ⟨r.hd,by have:=r.dp;show A.depth+1+3*k+5<_;omega,by have:=r.un;show A.units+3+16*k+200<_;omega⟩
theorem qfA{A:Around}{C:Addr}{us:List Value}{kw:List (Str×Value)}:(A.under (.builtin "type.__call__" ⟨.ref C::us,kw⟩)).depth=A.depth+1:=by
 first|rfl|simp[Around.under,Code.weight,Code.isCreation,Code.isGuard,Code.isCaller,Code.frames,Code.isFrame,guardIds]
theorem qfB{A:Around}{C:Addr}{us:List Value}{kw:List (Str×Value)}:(A.under (.builtin "type.__call__" ⟨.ref C::us,kw⟩)).units=A.units+1:=by
 first|rfl|simp[Around.under,Code.cUnits,Code.frames,Code.isFrame]
theorem Room.make{k:Nat}{A:Around}(r:Room (k+1) A)(C:Addr)(us:List Value)(kw:List (Str×Value)):Room k (A.under (.builtin "type.__call__" ⟨.ref C::us,kw⟩)):=
 ⟨r.hd,by have:=r.dp;rw[qfA];omega,by have:=r.un;rw[qfB];omega⟩
theorem Room.depth{k:Nat}{A:Around}(r:Room k A):A.depth<recursionLimit:=by have:=r.dp;omega
theorem Room.units{k:Nat}{A:Around}(r:Room k A):A.units+64<cLine:=by have:=r.un;omega
def yI:TA:=λ _ H Q=>Q [] H
def ve(ta:TE)(tr:TA):TA:=λ σ H Q=>ta σ H λ x H1=>tr σ H1 λ xs H2=>Q (x::xs) H2
section
variable {X:Cx}{e:Expr}{es:List Expr}{te:TE}{t:TA}{pos:Pos}
theorem qb:PA X [] yI:=λ _ _ _ _ H Q I h=>Calls.spliced_nil ⟨[],H,I,.nil,h⟩
theorem qa(ha:PE X e te)(hr:PA X es t)(hs:starEach (e::es) X.env=(false,eval e X.env)::starEach es X.env:=by rfl):PA X (e::es) (ve te t):=by
 intro pos pins s σ H Q I h;rw[hs];show wpAny _ _ (spliced ((false,eval e X.env)::backTo pos (starEach es X.env))) _ _ s
 refine Y9 (thn (ha pins s σ H _ I h) λ u s1 ⟨x,H1,I1,r1,q1⟩=>?_);exact thn (hr pos pins s1 σ H1 _ I1 q1) λ us s2 ⟨xs,H2,I2,r2,q2⟩=>⟨x::xs,H2,I2,.cons r1 r2,q2⟩
def qnj(t:TA):TE:=λ σ H Q=>t σ H λ xs H1=>xs.length<=sizeLine/\∀ p,H1 p=none->Q (.ref p) (upd H1 p (.tup xs))
def qnk(t:TA):TE:=λ σ H Q=>t σ H λ xs H1=>xs.length<=sizeLine/\∀ p,H1 p=none->Q (.ref p) (upd H1 p (.lst xs))
theorem zk{x1}(h:PA X es t):PE X (.Tuple es x1 pos) (qnj t):=by
 intro pins s σ H Q I hq;refine wpAny_Tuple_spliced (thn (h pos pins s σ H _ I hq) λ us s1 ⟨xs,H1,I1,r,z,q⟩=>⟨by rw[<- r.length];exact z,?_⟩);have hf:H1 s1.heap.objs.size=none:=I1.hok.fresh (Qs _);refine⟨.ref s1.heap.objs.size,upd H1 s1.heap.objs.size (.tup xs),I1.laid (t':=s1.toks) (λ b u e=>XD _ e) (Qs _) ?_,rfl,q _ hf⟩;exact⟨z,us,r,⟨_,Ys _ rfl,rfl,_,rfl⟩⟩
theorem yJ(h:PA X es t):PE X (.List es pos) (qnk t):=by
 intro pins s σ H Q I hq;refine wpAny_List_spliced (thn (h pos pins s σ H _ I hq) λ us s1 ⟨xs,H1,I1,r,z,q⟩=>⟨by rw[<- r.length];exact z,?_⟩);have hf:H1 s1.heap.objs.size=none:=I1.hok.fresh (Qs _);refine⟨.ref s1.heap.objs.size,upd H1 s1.heap.objs.size (.lst xs),I1.laid (t':=s1.toks) (λ b u e=>XD _ e) (Qs _) ?_,rfl,q _ hf⟩;exact⟨z,us,0,r,Ys _ rfl⟩
end
abbrev Sp:=List V->Hp->VK->XK->Prop
abbrev CXT:=List Env->Hp->Shared->XK->Value->Shared->Prop
structure Env0(P:Program)(w:World)(K:W.Frag)(mg:Str->Option Value)(base:Heap)(A:Around)(outer:List Env)(s:Shared)(H:Hp):Prop where
 frames:A.frames=some outer
 mod:Mod K mg base
 bs:∀ b o,base.get? b=some o->s.heap.get? b=some o/\H b=none
 bsz:base.objs.size<=s.heap.objs.size
 funs:s.heap.FunFrames base outer
 frf:∀ b∈frs outer,H b=none
 hok:HOk P w H s.heap
 bare:AllBare s.gens
def CE(outer:List Env)(P:Program)(w:World)(H:Hp)(s:Shared)(Q:VK)(u:Value)(s':Shared):Prop:=
 ∃ v H',s'.os=s.os/\AllBare s'.gens/\Un (frs outer) [] H H' s.heap s'.heap/\HOk P w H' s'.heap/\qO v u/\Q v H'
def CR(CX:CXT)(outer:List Env)(P:Program)(w:World)(H:Hp)(s:Shared)(Q:VK)(E:XK)(r:Result)(s':Shared):Prop:=
 match r with
 |.ok (.ret u)=>CE outer P w H s Q u s'
 |.ok _=>False
 |.error e=>CX outer H s E e s'
structure FnOk(P:Program)(w:World)(K:W.Frag)(mg:Str->Option Value)(base:Heap)(CX:CXT)(k:Nat)(f:Addr)(fd:FuncData)(ps:List Str)(sp:Sp):Prop where
 len:∀ vs H Q E,sp vs H Q E->vs.length=ps.length
 run:∀(A:Around)(outer:List Env)(s:Shared)(H:Hp)(args:Args)(us:List Value)(vs:List V)(Q:VK)(E:XK),Room k A->Env0 P w K mg base A outer s H->BindsTo s fd args (ps.zip us)->qI vs us->sp vs H Q E ->
  codeAny (model P w) A (.call (.ref f) args) (CR CX outer P w H s Q E) s
theorem Env0.make{P:Program}{w:World}{K:W.Frag}{mg:Str->Option Value}{base:Heap}{A:Around}{outer:List Env}{s:Shared}{H:Hp}(e:Env0 P w K mg base A outer s H)(C:Addr)(us:List Value)(kw:List (Str×Value)):
  Env0 P w K mg base (A.under (.builtin "type.__call__" ⟨.ref C::us,kw⟩)) outer s H:=⟨by first | exact e.frames | (simpa [Around.under,Code.envs,Code.isFrame,pushEnvs] using e.frames),e.mod,e.bs,e.bsz,e.funs,e.frf,e.hok,e.bare⟩
section
variable {X:Cx}{pins:List (Addr×Obj)}{σ:St}{H:Hp}{s s':Shared}
theorem Inv.env0(I:Inv X pins σ H s):Env0 X.prog X.w X.K X.mg X.base X.A X.stack s H:=
 ⟨I.ok.frames,I.ok.mod,I.bs,Qf I.ok.bsz I.sz,I.stack,I.stkFree,I.hok,I.bare⟩
theorem Inv.after{Q:VK}{u:Value}(I:Inv X pins σ H s)(h:CE X.stack X.prog X.w H s Q u s'):EP X pins σ Q u s':=by
 obtain⟨v,H',os,bare,un,hok,r,q⟩:=h;obtain⟨hh,g,d,t,mS⟩:=s';obtain rfl:mS=s.os:=os;exact⟨v,H',I.call (h':=hh) (g':=g) (d':=d) (t':=t) (ch:=[]) un hok bare (λ b z=>absurd z (by simp)),r,q⟩
end
def qba(sp:Sp)(G3:List V)(E:XK)(t:TA):TE:=λ σ H Q=>t σ H λ vs H1=>sp (vs++G3) H1 Q E
def yh(C:Addr)(m:Str)(sp:Sp)(G3:List V)(E:XK)(ta:TE)(t:TA):TE:=λ σ H Q=>ta σ H λ x H1=>∃ a dx fs,x=.ref a/\H1 a=some (.ins C dx fs)/\fs.lookup m=none /\
 t σ H1 λ vs H2=>sp (x::(vs++G3)) H2 Q E
def qmk(C:Addr)(sp:Sp)(G3:List V)(E:XK)(t:TA):TE:=λ σ H Q=>t σ H λ vs H1=>∀ x dx,H1 x=none->H1 dx=none->dx≠x ->
 sp (.ref x::(vs++G3)) (upd (upd H1 dx (.own x)) x (.ins C dx [])) (λ v H2=>v=.non/\Q (.ref x) H2) E
def qf(K:W.Frag)(fd:FuncData)(ps:List Str)(ds:List Value):Prop:=
 ∀(s:Shared)(us:List Value),K.In s.heap->(us++ds).length=ps.length->BindsTo s fd ⟨us,[]⟩ (ps.zip (us++ds))
theorem qf.all{K:W.Frag}{fd:FuncData}{ps:List Str}(h:∀ us:List Value,us.length=ps.length->bindArgs fd ⟨us,[]⟩=pure (ps.zip us)):qf K fd ps []:=λ s us _ hl=>by
 rw[Uu] at hl ⊢;exact .of_eq (h us hl)
def ku(CX:CXT)(X:Cx)(E:XK):Prop:=∀(pins:List (Addr×Obj))(σ:St)(H:Hp)(s:Shared)(e:Value)(s':Shared),Inv X pins σ H s->CX X.stack H s E e s'->X.xe e s'
section
variable {X:Cx}{CX:CXT}{k:Nat}{f C:Addr}{fd:FuncData}{ps:List Str}{sp:Sp}{G3:List V}{ds:List Value}{E:XK}{x m:Str}{p pos apos:Pos}{e o:Expr}{es:List Expr}{ta:TE}{t:TA}
theorem qfC{pins:List (Addr×Obj)}{σ:St}{H:Hp}{s:Shared}{Q:VK}{us:List Value}{vs:List V}(F:FnOk X.prog X.w X.K X.mg X.base CX k f fd ps sp)(hr:Room k X.A)(hb:qf X.K fd ps ds)(hd:qI G3 ds)(hx:ku CX X E)(I:Inv X pins σ H s)(r:qI vs us)(h:sp (vs++G3) H Q E):wpAny (model X.prog X.w) X.A (call (.ref f) us) (EP X pins σ Q) X.xe s:=by
 have r2:qI (vs++G3) (us++ds):=r.append hd;have hl:(us++ds).length=ps.length:=by rw[<- r2.length];exact F.len _ _ _ _ h
 refine wpAny_call (Qp (F.run X.A X.stack s H ⟨us,[]⟩ (us++ds) (vs++G3) Q E hr I.env0 (hb s us I.kIn hl) r2 h) λ r s' hq=>?_);cases r with
 |error e=>exact hx pins σ H s e s' I hq
 |ok fl =>
  cases fl with
  |ret u=>exact I.after hq
  |next=>exact False.elim hq
  |brk=>exact False.elim hq
  |cont=>exact False.elim hq
theorem ze(F:FnOk X.prog X.w X.K X.mg X.base CX k f fd ps sp)(hr:Room k X.A)(hg:Gl X x)(hm:X.mg x=some (.ref f))(hk:W.keepIn X.K (.ref f)=true)(hb:qf X.K fd ps ds)(hd:qI G3 ds)(hx:ku CX X E)(ha:PA X (e::es) t)(S5:(x == ("__debug__":Str))=false:=by decide)(he:starEach (e::es) X.env=(false,eval e X.env)::starEach es X.env:=by rfl)(t8:(backTo pos (starEach es X.env)).any (·.1)=false:=by rfl):
  PE X (.Call (.Name x p) (e::es) [] pos) (qba sp G3 E t):=by
 intro pins s σ H Q I h;refine Zh (qbr I hg hm ?_ S5);refine W.callWith_K (h₀:=X.base) I.ok.mod.kin hk (thn (ha pos pins s σ H _ I h) λ us s1 ⟨vs,H1,I1,r,q⟩=>⟨I1.kIn,?_⟩) he t8;exact qfC F hr hb hd hx I1 r q
theorem qgC{pl:Sem Bool}(he:PE X o ta)(c:Cls X.K C)(hm:Meth X.K C m f)(F:FnOk X.prog X.w X.K X.mg X.base CX k f fd ps sp)(hr:Room k X.A)(hb:qf X.K fd ps ds)(hd:qI G3 ds)(hx:ku CX X E)(ha:PA X (e::es) t)(C4:starEach (e::es) X.env=(false,eval e X.env)::starEach es X.env:=by rfl)(t8:(backTo pos (starEach es X.env)).any (·.1)=false:=by rfl)(ht:eval (.Call (.Attribute o m apos) (e::es) [] pos) X.env=(do
   let ov <- eval o X.env
   standAt apos.atName
   let (f,first) <- holding [ov] (getMethod ov m pl)
   callWith pos f first (backTo pos (starEach (e::es) X.env)) (backToKw pos (keywordEach [] X.env))):=by rfl):
  PE X (.Call (.Attribute o m apos) (e::es) [] pos) (yh C m sp G3 E ta t):=by
 intro pins s σ H Q I h;refine W.methodCall_KW (pl:=pl) (thn (he pins s σ H _ I h) λ u s1 ⟨x,H1,I1,rx,a,dx,fs,ex,ea,l,q⟩=>?_) ht;subst ex;obtain rfl:u=Value.ref a:=rx;refine qbH I1 ea c hm l ?_;refine W.callWith_K (first:=[.ref a]) (h₀:=X.base) I.ok.mod.kin hm.kp (thn (ha pos pins s1 σ H1 _ I1 q) λ us s2 ⟨vs,H2,I2,r,q2⟩=>⟨I2.kIn,?_⟩) C4 t8;exact qfC (us:=.ref a::us) (vs:=.ref a::vs) F hr hb hd hx I2 (.cons rfl r) q2
theorem qB{pl:Sem Bool}(he:PE X o ta)(c:Cls X.K C)(hm:Meth X.K C m f)(F:FnOk X.prog X.w X.K X.mg X.base CX k f fd ps sp)(hr:Room k X.A)(hb:qf X.K fd ps ds)(hd:qI G3 ds)(hx:ku CX X E)(ht:eval (.Call (.Attribute o m apos) [] [] pos) X.env=(do
   let ov <- eval o X.env
   standAt apos.atName
   let (f,first) <- holding [ov] (getMethod ov m pl)
   callWith pos f first (backTo pos (starEach [] X.env)) (backToKw pos (keywordEach [] X.env))):=by rfl):
  PE X (.Call (.Attribute o m apos) [] [] pos) (yh C m sp G3 E ta yI):=by
 intro pins s σ H Q I h;refine W.methodCall_KW (pl:=pl) (thn (he pins s σ H _ I h) λ u s1 ⟨x,H1,I1,rx,a,dx,fs,ex,ea,l,q⟩=>?_) ht;subst ex;obtain rfl:u=Value.ref a:=rx;refine qbH I1 ea c hm l ?_;exact W.callWith_K0 (first:=[.ref a]) I1.kIn hm.kp (qfC (us:=[.ref a]) (vs:=[.ref a]) F hr hb hd hx I1 (.cons rfl .nil) q)
structure Mk(K:W.Frag)(C f:Addr):Prop where
 makes:W.makesIn K C=true
 init:W.findIn K (.ref C) "__init__"=some (some (.ref f))
 fn:W.isFn K (.ref f)=true
 kp:W.keepIn K (.ref C)=true
theorem qin{pins:List (Addr×Obj)}{σ:St}{H:Hp}{s:Shared}{Q:VK}{us:List Value}{vs:List V}(M:Mk X.K C f)(F:FnOk X.prog X.w X.K X.mg X.base CX k f fd ps sp)(hr:Room (k+1) X.A)(hb:qf X.K fd ps ds)(hd:qI G3 ds)(hx:ku CX X E)(I:Inv X pins σ H s)(r:qI vs us)(h:∀ x dx,H x=none->H dx=none->dx≠x->sp (.ref x::(vs++G3)) (upd (upd H dx (.own x)) x (.ins C dx [])) (λ v H2=>v=.non/\Q (.ref x) H2) E):
  wpAny (model X.prog X.w) X.A (call (.ref C) us) (EP X pins σ Q) X.xe s:=by
 have hq:=h (s.heap.objs.size+1) s.heap.objs.size (I.hok.fresh (Qu _)) (I.hok.fresh (Qs _)) (Qe (Ub _));have I2:=Inv.made (C:=C) I;have r2:qI (V.ref (s.heap.objs.size+1)::(vs++G3)) (Value.ref (s.heap.objs.size+1)::(us++ds)):=.cons rfl (r.append hd);have hl:(Value.ref (s.heap.objs.size+1)::us++ds).length=ps.length:=by
  have e:=r2.length;rw[F.len _ _ _ _ hq] at e;exact e.symm
 refine wpAny_call (qim (f:=f) I.kIn M.makes M.init (Q2.mp M.fn) (Qp (F.run _ X.stack _ _ ⟨Value.ref (s.heap.objs.size+1)::us,[]⟩ (Value.ref (s.heap.objs.size+1)::(us++ds)) _ _ E (hr.make C us [])
  (I2.env0.make C us []) (hb _ (Value.ref (s.heap.objs.size+1)::us) I2.kIn hl) r2 hq) λ r s' nS=>?_))
 cases r with
 |error e=>exact hx pins σ _ _ e s' I2 nS
 |ok fl =>
  cases fl with
  |ret u =>
   obtain⟨v,H',I3,rv,ev,q3⟩:=I2.after nS;subst ev;exact⟨rv,⟨V.ref (s.heap.objs.size+1),H',I3,rfl,q3⟩⟩
  |next=>exact False.elim nS
  |brk=>exact False.elim nS
  |cont=>exact False.elim nS
theorem vQ(M:Mk X.K C f)(F:FnOk X.prog X.w X.K X.mg X.base CX k f fd ps sp)(hr:Room (k+1) X.A)(hg:Gl X x)(hm:X.mg x=some (.ref C))(hb:qf X.K fd ps ds)(hd:qI G3 ds)(hx:ku CX X E)(ha:PA X (e::es) t)(S5:(x == ("__debug__":Str))=false:=by decide)(he:starEach (e::es) X.env=(false,eval e X.env)::starEach es X.env:=by rfl)(t8:(backTo pos (starEach es X.env)).any (·.1)=false:=by rfl):
  PE X (.Call (.Name x p) (e::es) [] pos) (qmk C sp G3 E t):=by
 intro pins s σ H Q I h;refine Zh (qbr I hg hm ?_ S5);refine W.callWith_K (h₀:=X.base) I.ok.mod.kin M.kp (thn (ha pos pins s σ H _ I h) λ us s1 ⟨vs,H1,I1,r,q⟩=>⟨I1.kIn,?_⟩) he t8;exact qin M F hr hb hd hx I1 r q
end
structure FnScope(N P:List Str)(sc:Scope):Prop where
 kind:sc.kind=.function
 co:sc.isCoroutine=false
 gen:sc.isGenerator=false
 nd:N.Nodup
 pre:N.take P.length=P
 par:∀ x∈P,sc.names.lookup x=some .local∨sc.names.lookup x=some .cell
 nofree:∀ y∈sc.names,y.2≠.free
theorem scF{N P:List Str}{sc:Scope}(a:sc.kind=.function:=by rfl)(b:sc.isCoroutine=false:=by rfl)(c:sc.isGenerator=false:=by rfl)(d:N.take P.length=P:=by rfl)(h:N.Nodup ∧ (∀ x∈P,sc.names.lookup x=some .local∨sc.names.lookup x=some .cell) ∧ ∀ y∈sc.names,y.2≠.free:=by decide +kernel):FnScope N P sc:=⟨a,b,c,h.1,d,h.2.1,h.2.2⟩
theorem qcW{kindOf:Str->Option NameKind}{x:Str}:∀{binds:List (Str×Value)}{m:Str->Option Value},(∀ v,(x,v)∉binds)->bindL kindOf binds m x=m x
 | [],_,_=>rfl
 |(n,v)::r,m,h=>by
  unfold bindL;rw[qcW λ w hw=>h w (Yf _ hw)];split
  ·have:x≠n:=by rintro rfl;exact h v Y7
   simp[this]
  ·rfl
theorem qcX{kindOf:Str->Option NameKind}{x:Str}:∀{binds:List (Str×Value)}{m:Str->Option Value},(∀ v,(x,v)∉binds)->bindC kindOf binds m x=m x
 | [],_,_=>rfl
 |(n,v)::r,m,h=>by
  unfold bindC;rw[qcX λ w hw=>h w (Yf _ hw)];split
  ·rfl
  ·have:x≠n:=by rintro rfl;exact h v Y7
   simp[this]
theorem qcY{kindOf:Str->Option NameKind}{x:Str}{v:Value}:∀{P:List Str}{vs:List Value}{i:Nat}{m:Str->Option Value},P.Nodup->P[i]?=some x->vs[i]?=some v->kindOf x=some .local ->
  bindL kindOf (P.zip vs) m x=some v
 | [],_,_,_,_,h,_,_=>by simp at h
 |_::_,[],_,_,_,_,h,_=>by simp at h
 |p::P,w::vs,0,m,nd,h1,h2,hk=>by
  simp at h1 h2;subst h1;subst h2;show bindL kindOf ((p,w)::P.zip vs) m p=_
  unfold bindL;rw[qcW λ v hv=>(Uv.mp nd).1 (Uw hv).1,Vh hk];simp
 |p::P,w::vs,i+1,m,nd,h1,h2,hk=>by
  show bindL kindOf ((p,w)::P.zip vs) m x=_
  unfold bindL;exact qcY (i:=i) (Uv.mp nd).2 (by simpa using h1) (by simpa using h2) hk
theorem qcZ{kindOf:Str->Option NameKind}{x:Str}{v:Value}:∀{P:List Str}{vs:List Value}{i:Nat}{m:Str->Option Value},P.Nodup->P[i]?=some x->vs[i]?=some v->kindOf x≠some .local ->
  bindC kindOf (P.zip vs) m x=some v
 | [],_,_,_,_,h,_,_=>by simp at h
 |_::_,[],_,_,_,_,h,_=>by simp at h
 |p::P,w::vs,0,m,nd,h1,h2,hk=>by
  simp at h1 h2;subst h1;subst h2;show bindC kindOf ((p,w)::P.zip vs) m p=_
  unfold bindC;rw[qcX λ v hv=>(Uv.mp nd).1 (Uw hv).1,Vi hk];simp
 |p::P,w::vs,i+1,m,nd,h1,h2,hk=>by
  show bindC kindOf ((p,w)::P.zip vs) m x=_
  unfold bindC;exact qcZ (i:=i) (Uv.mp nd).2 (by simpa using h1) (by simpa using h2) hk
noncomputable def qad(N:List Str)(vs:List V):St:=vs.map some++List.replicate (N.length-vs.length) none
noncomputable def qfD(CX:CXT)(P:Program)(w:World)(K:W.Frag)(mg:Str->Option Value)(base:Heap)(N:List Str)(qual:Str)(scope:Scope)(f:Addr)(cd:Value)(A:Around)(outer:List Env)(s:Shared)(H:Hp)(E:XK):Cx where
 prog:=P
 w:=w
 K:=K
 mg:=mg
 base:=base
 A:=A.deeper (envOfC qual scope s.heap.objs.size f cd)
 N:=N
 s₀:=s
 H₀:=H
 env:=envOfC qual scope s.heap.objs.size f cd
 outer:=outer
 stack:=envOfC qual scope s.heap.objs.size f cd::outer
 ex:=[]
 calm:=true
 fn:=λ _=>true
 pn:=[]
 xe:=λ e s'=>wpAny (model P w) (A.deeper (envOfC qual scope s.heap.objs.size f cd)) (leaving (envOfC qual scope s.heap.objs.size f cd) e) (λ _ M9=>CX outer H s E e M9) (λ e' M9=>CX outer H s E e' M9) s'
theorem qep{sc:Scope}{n:Nat}{x:Str}(h:sc.names.lookup x=some .cell):∃ c,(cellsFrom n sc.names []).lookup x=some c:=by
 have q:=W.cellsFrom_some sc.names n [] (.inl h);exact Xt.mp q
theorem qhm{CX:CXT}{P:Program}{w:World}{K:W.Frag}{mg:Str->Option Value}{base:Heap}{N ps:List Str}{qual:Str}{scope:Scope}{f:Addr}{cd:Value}{A:Around}{outer:List Env}{s s1:Shared}{H:Hp}{E:XK}{us:List Value}{vs:List V}(S:FnScope N ps scope)(hd:A.handled=none)(e0:Env0 P w K mg base A outer s H)(hl:vs.length=ps.length)(r:qI vs us)(x:InCallC s s.heap.objs.size (bindL (envOfC qual scope s.heap.objs.size f cd).kindOf (ps.zip us) λ _=>none) (cellsFrom (s.heap.objs.size+1) scope.names []) (bindC (envOfC qual scope s.heap.objs.size f cd).kindOf (ps.zip us) λ _=>none) s1):
  Inv (qfD CX P w K mg base N qual scope f cd A outer s H E) [] (qad N vs) H s1:=by
 have t8:ps.length<=N.length:=by have:=congrArg List.length S.pre;rw[Uc] at this;omega
 obtain⟨h1,tk,rfl,hk⟩:=x.done;have mU:∀ b:Addr,b∉(qfD CX P w K mg base N qual scope f cd A outer s H E).ex:=λ b z=>absurd (show b∈([]:List Addr) from z) (by simp)
 refine⟨⟨e0.mod,S.kind,rfl,rfl,Qs _,λ y z c h1 h2=>?_,λ y hy=>?_,λ y c _ h=>?_,λ _=>hd,Around.frames_deeper e0.frames,.inr ⟨rfl,rfl⟩,λ b z=>absurd z (mU b),e0.bs,e0.bsz,λ b _ _=>mU b,λ b z=>absurd z (mU b),e0.funs,e0.frf⟩,
  rfl,e0.bare,Un.kept hk,⟨_,x.toInCall.ns,λ i y v h1 h2 h3=>?_⟩,λ y c h=>⟨_,x.cell y c h⟩,e0.hok.fresh (Qs _),λ y c h=>?_,λ p hp=>absurd (show p∈([]:List (Addr×Obj)) from hp) (by simp),e0.hok.kept hk,?_⟩
 ·exact name_of_addr x.apart (Yt h1) (Yt h2)
 ·have hy:scope.names.lookup y=some .cell∨scope.names.lookup y=some .free:=hy;rcases hy with hy | hy
  ·exact qep hy
  ·exact absurd rfl (S.nofree _ (Yt hy))
 ·exact Qg (x.above y c (Yt h))
 ·have hi:i<vs.length:=by
   unfold qad at h2;by_cases hi:i<vs.length
   ·exact hi
   ·rw[Xi (by simpa using hi)] at h2;rw[X2] at h2;split at h2 <;> cases h2
  have ha:vs[i]?=some v:=by
   unfold qad at h2;rw[Xn (by simpa using hi),Zl] at h2;cases e:vs[i]? with
   |none=>rw[e] at h2;cases h2
   |some a=>rw[e] at h2;cases h2;rfl
  obtain⟨u,hu,rv⟩:=r.get ha;have hp:ps[i]?=some y:=by
   rw[<- S.pre,Xu (by omega)];exact h1
  have ndP:ps.Nodup:=by rw[<- S.pre];exact S.nd.sublist (List.take_sublist _ _)
  refine⟨u,rv,?_⟩;rcases S.par y (Yh hp) with k|k
  ·exact .inl ⟨k,qcY ndP hp hu k⟩
  ·obtain⟨c,e⟩:=qep (n:=s.heap.objs.size+1) k;refine .inr ⟨.inl k,c,e,?_⟩;have q:=x.cell y c e;rw[qcZ ndP hp hu (by show scope.names.lookup y≠_;rw[k];decide)] at q;exact q
 ·exact e0.hok.fresh (Qg (x.above y c (Yt h)))
 ·unfold qad;show _=N.length
  rw[Za,Ut,XO];omega
theorem qml{CX:CXT}{P:Program}{w:World}{K:W.Frag}{mg:Str->Option Value}{base:Heap}{k:Nat}{f:Addr}{name qual:Str}{params:Arguments}{body:List Stmt}{scope:Scope}{dV kV doc pm cdv ct oc:Value}{an od:Option Addr}{osl:Array (Option Value)}{N ps:List Str}{sp:Sp}(lk:K.lookup f=some ⟨oc,od,.func (W.fnOf name qual params body scope dV kV doc pm an cdv ct),osl⟩)(V5:W.codeIn K cdv qual=true)(S:FnScope N ps scope)(len:∀ vs H Q E,sp vs H Q E->vs.length=ps.length)(M1:∀(A:Around)(outer:List Env)(s:Shared)(H:Hp)(vs:List V)(Q:VK)(E:XK),Room k (A.deeper (envOfC qual scope s.heap.objs.size f cdv))->sp vs H Q E ->
   ∃ t,PSs (qfD CX P w K mg base N qual scope f cdv A outer s H E) body t/\t { nx:=λ _ H'=>Q .non H',rt:=Q } (qad N vs) H):
  FnOk P w K mg base CX (k+1) f (W.fnOf name qual params body scope dV kV doc pm an cdv ct) ps sp:=by
 refine⟨len,λ A outer s H args us vs Q E hr e0 hb r eR=>?_⟩;have hl:=len _ _ _ _ eR;have KX:K.In s.heap:=e0.mod.kin.keeps λ b o e=>(e0.bs b o e).1
 have lim:s.heap.NoLimit:=e0.mod.nolimit.keeps λ b o e=>(e0.bs b o e).1
 have oH:∀ y∈ps.zip us,scope.names.lookup y.1=some .local∨(scope.names.lookup y.1=some .cell/\((cellsFrom (s.heap.objs.size+1) scope.names []).lookup y.1).isSome=true):=λ ⟨n,v⟩ hy=>by
  rcases S.par n (Uw hy).1 with q|q
  ·exact .inl q
  ·exact .inr ⟨q,W.cellsFrom_some _ _ _ (.inl q)⟩
 refine codeAny_call_function hr.depth (KX _ _ lk) rfl S.co S.gen rfl (W.codeRec_of KX V5) (hb _ _ _ _ ?_);refine wpAny_newFunctionEnv_cells S.kind oH λ env he s1 x=>?_
 subst he;refine⟨lim.keeps x.toInCall.keep,codeAny_func ?_⟩;obtain⟨t,ht,hq⟩:=M1 A outer s H vs Q E (hr.deeper _) eR;have I:Inv (qfD CX P w K mg base N qual scope f cdv A outer s H E) [] (qad N vs) H s1:=qhm S hr.hd e0 hl r x;refine Qy (ht [] s1 (qad N vs) H _ I hq) (λ fl s' hs=>?_) λ e s' hs=>hs
 have fin:∀{σ':St}{H':Hp}{v:V}{u:Value},Inv (qfD CX P w K mg base N qual scope f cdv A outer s H E) [] σ' H' s'->qO v u->Q v H'->CE outer P w H s Q u s':=
  λ{σ' H' v u} J rv q=>⟨v,H',J.os,J.bare,J.base,J.hok,rv,q⟩
 cases fl with
 |ret u =>
  obtain⟨v,σ',H',J,rv,q⟩:=hs;exact fin J rv q
 |next =>
  obtain⟨σ',H',J,q⟩:=hs;exact fin (v:=V.non) (u:=Value.none) J rfl q
 |brk =>
  obtain⟨_,_,_,q⟩:=hs;exact False.elim q
 |cont =>
  obtain⟨_,_,_,q⟩:=hs;exact False.elim q
section
variable {X:Cx}{x:Str}{p pos:Pos}{e:Expr}{es:List Expr}{t:TA}{id T:String}{r:List V->Hp->VK->Prop}
def tCB(r:List V->Hp->VK->Prop)(t:TA):TE:=λ σ H Q=>t σ H λ vs H1=>r vs H1 Q
theorem qz(hc:y3 X (.builtin id) r)(hg:Gl X x)(hm:X.mg x=none)(hv:bootBuiltins x=some (.builtin id))(ha:PA X (e::es) t)(hn:x≠"__name__":=by decide)(S5:(x == ("__debug__":Str))=false:=by decide)(he:starEach (e::es) X.env=(false,eval e X.env)::starEach es X.env:=by rfl)(t8:(backTo pos (starEach es X.env)).any (·.1)=false:=by rfl):PE X (.Call (.Name x p) (e::es) [] pos) (tCB r t):=by
 intro pins s σ H Q I h;refine Zh (kr I hg hm hv ?_ hn S5);exact PyProof.Rows.callWith_builtin1 (thn (ha pos pins s σ H _ I h) λ us s1 ⟨vs,H1,I1,r1,q1⟩=>hc pins s1 σ H1 vs us Q I1 r1 q1) he t8
theorem zr(hc:y3 X (.type T) r)(hg:Gl X x)(hm:X.mg x=none)(hv:bootBuiltins x=some (.type T))(ha:PA X (e::es) t)(hn:x≠"__name__":=by decide)(S5:(x == ("__debug__":Str))=false:=by decide)(he:starEach (e::es) X.env=(false,eval e X.env)::starEach es X.env:=by rfl)(t8:(backTo pos (starEach es X.env)).any (·.1)=false:=by rfl):PE X (.Call (.Name x p) (e::es) [] pos) (tCB r t):=by
 intro pins s σ H Q I h;refine Zh (kr I hg hm hv ?_ hn S5);exact Xf (thn (ha pos pins s σ H _ I h) λ us s1 ⟨vs,H1,I1,r1,q1⟩=>hc pins s1 σ H1 vs us Q I1 r1 q1) he t8
end
section
variable {κ:Type}[DecidableEq κ]
noncomputable def zt(kvs:List (κ×V))(k:κ):Option V:=(kvs.find? λ kv=>decide (kv.1=k)).map (·.2)
noncomputable def yB(kvs:List (κ×V))(k:κ)(v:V):List (κ×V):=
 if (kvs.any λ kv=>decide (kv.1=k))=true then kvs.map (λ kv=>if kv.1=k then(kv.1,v) else kv) else kvs++[(k,v)]
theorem zF{p:κ×V}{r:List (κ×V)}{k:κ}(e:p.1=k):zt (p::r) k=some p.2:=by simp[zt,Ux,e]
theorem zG{p:κ×V}{r:List (κ×V)}{k:κ}(e:¬ p.1=k):zt (p::r) k=zt r k:=by simp[zt,Ux,e]
theorem y4(k:κ):∀ kvs:List (κ×V),(kvs.any λ kv=>decide (kv.1=k))=(zt kvs k).isSome
 | []=>rfl
 |p::r=>by
  rw[J0];by_cases e:p.1=k
  ·simp only[zF e,Jt e,Bool.true_or,Option.isSome_some]
  ·rw[zG e,Ja e,J4];exact y4 k r
theorem qeq(k j:κ)(y:V):∀ kvs:List (κ×V),zt (kvs.map λ kv=>if kv.1=k then(kv.1,y) else kv) j=(zt kvs j).map λ x=>if j=k then y else x
 | []=>rfl
 |p::r=>by
  have ih:=qeq k j y r;rw[Jz];by_cases h:p.1=k
  ·rw[Vh h];by_cases e:p.1=j
   ·rw[zF (p:=(p.1,y)) e,zF e,Uy,Vh (e.symm.trans h)]
   ·rw[zG (p:=(p.1,y)) e,zG e,ih]
  ·rw[Vi h];by_cases e:p.1=j
   ·rw[zF (p:=p) e,zF e,Uy,Vi (λ z=>h (e.trans z))]
   ·rw[zG (p:=p) e,zG e,ih]
theorem qc0(k j:κ)(y:V):∀ kvs:List (κ×V),zt kvs k=none->zt (kvs++[(k,y)]) j=if j=k then some y else zt kvs j
 | [],_=>by
  by_cases e:k=j
  ·rw[Vh e.symm];exact zF (p:=(k,y)) e
  ·rw[Vi (λ z=>e z.symm)];exact zG (p:=(k,y)) e
 |p::r,hn=>by
  rw[Ud];have hk:¬ p.1=k:=λ z=>by rw[zF z] at hn;cases hn
  rw[zG hk] at hn;have ih:=qc0 k j y r hn;by_cases e:p.1=j
  ·rw[zF e,zF e,Vi (λ z=>hk (e.trans z))]
  ·rw[zG e,zG e,ih]
theorem qio(kvs:List (κ×V))(k j:κ)(y:V):zt (yB kvs k y) j=if j=k then some y else zt kvs j:=by
 unfold yB;by_cases a:(kvs.any λ kv=>decide (kv.1=k))=true
 ·rw[Vh a,qeq];rw[y4] at a;by_cases e:j=k
  ·obtain⟨x,hx⟩:=Xt.mp a;rw[Vh e,e,hx,Uy,Vh rfl]
  ·rw[Vi e];cases zt kvs j with
   |none=>rfl
   |some x=>rw[Uy,Vi e]
 ·rw[Vi a];refine qc0 k j y kvs ?_;rw[y4] at a;cases q:zt kvs k with
  |none=>rfl
  |some x=>rw[q] at a;exact(a rfl).elim
theorem yC(kvs:List (κ×V))(k:κ)(v:V):(yB kvs k v).length<=kvs.length+1:=by
 unfold yB;split
 ·rw[Ut];omega
 ·rw[Za,Ua,List.length_nil];omega
theorem qer{kvs:List (κ×V)}{k:κ}(v:V)(h:zt kvs k=none):yB kvs k v=kvs++[(k,v)]:=by
 unfold yB;rw[y4,h];exact Vi (by decide)
theorem j6.isSome_eq{o:Option V}{u:Option Value}(r:j6 o u):o.isSome=u.isSome:=by
 cases o with
 |none=>cases u with
  |none=>rfl
  |some _=>exact(show False from r).elim
 |some _=>cases u with
  |none=>exact(show False from r).elim
  |some _=>rfl
theorem j6.getD{o:Option V}{u:Option Value}{d:V}{d':Value}(r:j6 o u)(rd:qO d d'):qO (o.getD d) (u.getD d'):=by
 cases o with
 |none=>cases u with
  |none=>exact rd
  |some _=>exact(show False from r).elim
 |some _=>cases u with
  |none=>exact(show False from r).elim
  |some _=>exact r
theorem KV.val{kvs:List (κ×V)}{vs:List (κ×Value)}(r:KV kvs vs)(k:κ):j6 (zt kvs k) (valueAt vs k):=by
 unfold KV at r;induction r with
 |nil=>exact True.intro
 | @cons p q ps qs h t ih =>
  obtain⟨h1,h2⟩:=h;by_cases e:p.1=k
  ·have e':q.1=k:=h1.symm.trans e;have b:valueAt (q::qs) k=some q.2:=by simp[valueAt,Ux,e']
   rw[zF e,b];exact h2
  ·have e':¬ q.1=k:=λ z=>e (h1.trans z)
   have b:valueAt (q::qs) k=valueAt qs k:=by simp[valueAt,Ux,e']
   rw[zG e,b];exact ih
theorem KV.any{kvs:List (κ×V)}{vs:List (κ×Value)}(r:KV kvs vs)(k:κ):(kvs.any λ kv=>decide (kv.1=k))=vs.any λ kv=>decide (kv.1=k):=by
 unfold KV at r;induction r with
 |nil=>rfl
 |cons h t ih=>rw[J0,J0,ih,h.1]
theorem KV.repl{kvs:List (κ×V)}{vs:List (κ×Value)}(r:KV kvs vs)(k:κ){y:V}{u:Value}(ry:qO y u):
  KV (kvs.map λ kv=>if kv.1=k then(kv.1,y) else kv) (vs.map λ kv=>if kv.1=k then(kv.1,u) else kv):=by
 unfold KV at r ⊢;induction r with
 |nil=>exact .nil
 | @cons p q ps qs h t ih =>
  rw[Jz,Jz];refine .cons ?_ ih;obtain⟨h1,h2⟩:=h;by_cases e:p.1=k
  ·rw[Vh e,Vh (h1.symm.trans e)];exact⟨h1,ry⟩
  ·rw[Vi e,Vi (λ z=>e (h1.trans z))];exact⟨h1,h2⟩
theorem KV.put{kvs:List (κ×V)}{vs:List (κ×Value)}(r:KV kvs vs)(k:κ){y:V}{u:Value}(ry:qO y u):KV (yB kvs k y) (stored vs k u):=by
 unfold yB stored;rw[r.any k];by_cases e:(vs.any λ kv=>decide (kv.1=k))=true
 ·rw[Vh e,Vh e];exact r.repl k ry
 ·rw[Vi e,Vi e];exact Qv r ⟨rfl,ry⟩
theorem KV.length{kvs:List (κ×V)}{vs:List (κ×Value)}(r:KV kvs vs):kvs.length=vs.length:=Paired.length r
end
theorem qes{P:Program}{w:World}{k:Key}{u:Value}(r:qO (kV k) u):(qx P w).is k u=true:=by
 cases k with
 |inl i=>obtain⟨t,e⟩:=(show ∃ t,u=Value.int i t from r);subst e;exact qei P w i t
 |inr x=>obtain⟨t,e⟩:=(show ∃ t,u=Value.str x t from r);subst e;exact zn P w x t
theorem qc1{P:Program}{w:World}:∀{ks:List Key}{us:List Value},qI (ks.map kV) us->ItemsAre (qx P w) ks us
 | [],_,r=>by rw[List.map_nil] at r;cases r;exact .nil
 |k::ks,_,r=>by
  rw[Jz] at r;cases r with
  |cons h t=>exact .cons (qes h) (qc1 t)
abbrev KT(H:Hp):List (List Key×V)->List (List Key×Addr×Value)->Prop:=Paired λ p q=>p.1=q.1/\H q.2.1=some (.tup (p.1.map kV))/\qO p.2 q.2.2
theorem KT.val{H:Hp}{kvs:List (List Key×V)}{xs:List (List Key×Addr×Value)}(r:KT H kvs xs)(k:List Key):j6 (zt kvs k) ((atKey xs k).map (·.2)):=by
 induction r with
 |nil=>exact True.intro
 | @cons p q ps qs h t ih =>
  obtain⟨h1,_,h2⟩:=h;by_cases e:p.1=k
  ·have e':q.1=k:=h1.symm.trans e;have b:atKey (q::qs) k=some q.2:=by simp[atKey,Ux,e']
   rw[zF e,b];exact h2
  ·have e':¬ q.1=k:=λ z=>e (h1.trans z)
   have b:atKey (q::qs) k=atKey qs k:=by simp[atKey,Ux,e']
   rw[zG e,b];exact ih
theorem KT.repl{H:Hp}{kvs:List (List Key×V)}{xs:List (List Key×Addr×Value)}(r:KT H kvs xs)(k:List Key){y:V}{u:Value}(ry:qO y u):
  KT H (kvs.map λ kv=>if kv.1=k then(kv.1,y) else kv) (xs.map (putAt k u)):=by
 induction r with
 |nil=>exact .nil
 | @cons p q ps qs h t ih =>
  rw[Jz,Jz];refine .cons ?_ ih;obtain⟨h1,h2,h3⟩:=h;unfold putAt;by_cases e:p.1=k
  ·rw[Vh e,Vh (h1.symm.trans e)];exact⟨h1,h2,ry⟩
  ·rw[Vi e,Vi (λ z=>e (h1.trans z))];exact⟨h1,h2,h3⟩
theorem KT.put{H:Hp}{kvs:List (List Key×V)}{xs:List (List Key×Addr×Value)}(r:KT H kvs xs)(k:List Key){b:Addr}{y:V}{u:Value}(hb:H b=some (.tup (k.map kV)))(ry:qO y u):
  KT H (yB kvs k y) (storedH xs k b u):=by
 have e:(kvs.any λ kv=>decide (kv.1=k))=(atKey xs k).isSome:=by
  rw[y4,(r.val k).isSome_eq,Option.isSome_map]
 unfold yB storedH;rw[e];by_cases q:(atKey xs k).isSome=true
 ·rw[Vh q,Vh q];exact r.repl k ry
 ·rw[Vi q,Vi q];exact Qv r ⟨rfl,hb,ry⟩
theorem KT.keeps{H H':Hp}{kvs:List (List Key×V)}{xs:List (List Key×Addr×Value)}(r:KT H kvs xs)(ht:∀ b ys,H b=some (.tup ys)->H' b=some (.tup ys)):KT H' kvs xs:=
 Paired.mapP r λ _ _ z=>⟨z.1,ht _ _ z.2.1,z.2.2⟩
section
variable {P:Program}{w:World}{H:Hp}{h:Heap}{a:Addr}
theorem qkY{u:HO}(ok:HOk P w H h)(e:Rd H a u):zo P w H h a u:=e.ok ok
theorem qc2{kvs:List (Key×V)}(ok:HOk P w H h)(e:Rd H a (.dK kvs)):kvs.length<=sizeLine/\(a == sysModules)=false/\∃ vs,KV kvs vs/\h.DictOf (qx P w) a vs:=
 show zo P w H h a (.dK kvs) from qkY ok e
theorem qgD{kvs:List (Key×V)}(ok:HOk P w H h)(e:H a=some (.dK kvs)):kvs.length<=sizeLine/\(a == sysModules)=false/\∃ vs,KV kvs vs/\h.DictOf (qx P w) a vs:=qc2 ok (.inl e)
theorem qbI{ks:List Key}(ok:HOk P w H h)(e:H a=some (.tup (ks.map kV))):(tupleKind (qx P w)).is h ks a:=by
 obtain⟨_,its,r,o,h1,h2,n,h3⟩:=(show zo P w H h a (.tup (ks.map kV)) from ok a _ e);exact⟨o,its.toArray,n,h1,h2,h3,by simpa using qc1 r⟩
theorem qc3{kvs:List (List Key×V)}(ok:HOk P w H h)(e:Rd H a (.dT kvs)):kvs.length<=sizeLine/\(a == sysModules)=false /\
  ∃ xs,KT H kvs xs/\h.DictOfH (tupleKind (qx P w)) a xs:=by
 obtain⟨z,y,xs,r,o,es,ep,h1,h2,h3,h4,h5⟩:=(show zo P w H h a (.dT kvs) from qkY ok e);refine⟨z,y,xs,r,o,es,ep,h1,h2,h3,h4,λ x hx=>?_,h5⟩;have all:∀{l:List (List Key×V)}{m:List (List Key×Addr×Value)},KT H l m->∀ x∈m,(tupleKind (qx P w)).is h x.1 x.2.1:=by
  intro l m q;induction q with
  |nil=>intro x hx;exact nomatch hx
  | @cons p q ps qs hq t ih =>
   intro x hx;rcases Jy.mp hx with e|hx
   ·subst e;exact qbI ok (by rw[<- hq.1];exact hq.2.1)
   ·exact ih x hx
 exact all r x hx
theorem qmm{kvs:List (List Key×V)}(ok:HOk P w H h)(e:H a=some (.dT kvs)):kvs.length<=sizeLine/\(a == sysModules)=false /\
  ∃ xs,KT H kvs xs/\h.DictOfH (tupleKind (qx P w)) a xs:=qc3 ok (.inl e)
end
def qaS(H:Hp)(a:Addr)(y:V)(r:Option V):Prop:=
 (∃ kvs k,Rd H a (.dK kvs)/\y=kV k/\r=zt kvs k)∨∃ kvs k b,Rd H a (.dT kvs)/\y=.ref b/\H b=some (.tup (k.map kV))/\r=zt kvs k
def qmn(H:Hp)(a:Addr)(y v:V)(H':Hp):Prop:=
 (∃ kvs k,H a=some (.dK kvs)/\y=kV k/\kvs.length<sizeLine/\H'=upd H a (.dK (yB kvs k v))) ∨
 ∃ kvs k b,H a=some (.dT kvs)/\y=.ref b/\H b=some (.tup (k.map kV))/\kvs.length<sizeLine/\H'=upd H a (.dT (yB kvs k v))
theorem qaS.k{H:Hp}{a:Addr}{kvs:List (Key×V)}{k:Key}(e:H a=some (.dK kvs)):qaS H a (kV k) (zt kvs k):=.inl ⟨kvs,k,.inl e,rfl,rfl⟩
section
variable {X:Cx}{pins:List (Addr×Obj)}{σ:St}{H:Hp}{s:Shared}{a:Addr}{y v:V}{u r:Value}{o:Option V}{A:Around}{E:Value->Shared->Prop}
theorem Inv.big(I:Inv X pins σ H s):sysModules<s.heap.objs.size:=by
 have h:mainGlobals<s.heap.objs.size:=(I.mod.glob.keeps I.bk).lt;exact Qi (by decide) h
theorem qhn{Q:Value->Shared->Prop}(hu:A.units+1<cLine)(I:Inv X pins σ H s)(g:qaS H a y (some v))(ry:qO y u)(h:∀ w' s',Inv X pins σ H s'->qO v w'->Q w' s'):
  wpAny (model X.prog X.w) A (getItem (.ref a) u) Q E s:=by
 rcases g with⟨kvs,k,e,ey,l⟩|⟨kvs,k,b,e,ey,eb,l⟩
 ·subst ey;obtain⟨z,hd,vs,rel,dd⟩:=qc2 I.hok e;obtain⟨w',hw,S0⟩:=j6.some_of (v:=v) (o:=valueAt vs k) (by rw[l];exact rel.val k);exact wpAny_getItem_of (qes ry) dd.mapOf hw (h w' _ (I.tok _) S0)
 ·subst ey;cases(show u=Value.ref b from ry)
  obtain⟨z,hd,xs,rel,dd⟩:=qc3 I.hok e;obtain⟨w',hw,S0⟩:=j6.some_of (v:=v) (o:=(atKey xs k).map (·.2)) (by rw[l];exact rel.val k);obtain⟨p,hp,E6⟩:=Option.map_eq_some_iff.mp hw;refine wpAny_getItem_heap (Zi hu) (qbI I.hok eb) dd hp ?_;rw[E6];exact h w' _ (I.tok _) S0
theorem qnl{Q:Value->Shared->Prop}(hu:A.units+1<cLine)(I:Inv X pins σ H s)(g:qaS H a y o)(ry:qO y u)(h:∀ s',Inv X pins σ H s'->Q (.bool o.isSome) s'):
  wpAny (model X.prog X.w) A (compareOp .In u (.ref a)) Q E s:=by
 rcases g with⟨kvs,k,e,ey,l⟩|⟨kvs,k,b,e,ey,eb,l⟩
 ·subst ey;obtain⟨z,hd,vs,rel,dd⟩:=qc2 I.hok e;refine wpAny_in_of (qes ry) hd dd.mapOf ?_;rw[<- (rel.val k).isSome_eq,<- l];exact h _ (I.tok _)
 ·subst ey;cases(show u=Value.ref b from ry)
  obtain⟨z,hd,xs,rel,dd⟩:=qc3 I.hok e;refine wpAny_in_heap (Zi hu) (qbI I.hok eb) hd dd ?_;have q:=(rel.val k).isSome_eq;rw[Option.isSome_map] at q;rw[<- q,<- l];exact h _ (I.tok _)
theorem qdB{h':Heap}{t':Nat}{ob:HO}(I:Inv X pins σ H s)(mu:Mut (H a))(hs:Heap.SameBut a s.heap h')(he:∃ q,h'.get? a=some q)(new:zo X.prog X.w (upd H a ob) h' a ob):
  Inv X pins σ (upd H a ob) { s with heap:=h',toks:=t' }:=
 I.write (x:=a) (e:=a) mu (.inl rfl) (λ b q hb z=>(hs.2 b hb).trans z) he new
theorem qfE{P:Program}{w:World}{H':Hp}{h':Heap}{kvs:List (Key×V)}{vs:List (Key×Value)}(z:kvs.length<=sizeLine)(hd:(a == sysModules)=false)(rel:KV kvs vs)(dd:h'.DictOf (qx P w) a vs):
  zo P w H' h' a (.dK kvs):=⟨z,hd,vs,rel,dd⟩
theorem qho{H':Hp}{Q:Unit->Shared->Prop}(hu:A.units+1<cLine)(I:Inv X pins σ H s)(g:qmn H a y v H')(ry:qO y u)(rv:qO v r)(h:∀ s',Inv X pins σ H' s'->Q () s'):
  wpAny (model X.prog X.w) A (setItem (.ref a) u r) Q E s:=by
 rcases g with⟨kvs,k,e,ey,l,eH⟩|⟨kvs,k,b,e,ey,eb,l,eH⟩
 ·subst ey eH;obtain⟨z,hd,vs,rel,dd⟩:=qgD I.hok e;have hz:vs.length<=sizeLine:=by rw[<- rel.length];exact z
  have hl:(yB kvs k v).length<=sizeLine:=by have:=yC kvs k v;omega
  refine wpAny_setItem_pairs (hsz:=hz) (qes ry) dd λ h' iW hs=>h _ ?_
  have he:∃ q,h'.get? a=some q:=let ⟨q,_,_,hq,_⟩:=iW;⟨q,hq⟩;exact qdB I (by rw[e];exact True.intro) hs he (qfE hl hd (rel.put k rv) iW)
 ·subst ey eH;cases(show u=Value.ref b from ry)
  obtain⟨z,hd,xs,rel,dd⟩:=qmm I.hok e;have hz:xs.length<=sizeLine:=by rw[<- Paired.length rel];exact z
  have hl:(yB kvs k v).length<=sizeLine:=by have:=yC kvs k v;omega
  refine wpAny_setItem_heap (hsz:=hz) (Zi hu) (qbI I.hok eb) dd λ h' iW hs=>h _ ?_
  obtain⟨q,es,ep,hq,h2,h3,h4,_,h5⟩:=iW;refine qdB I (by rw[e];exact True.intro) hs ⟨q,hq⟩ ⟨hl,hd,_,(rel.put k eb rv).keeps λ c ys ec=>?_,q,es,ep,hq,h2,h3,h4,h5⟩;rw[qt (qej ec e (λ z=>nomatch z))];exact ec
end
def qmo(i:Expr):Prop:=∀ ov iv,subscripted i false ov iv=operate [ov,iv] (getItem ov iv)
theorem qj3{prog:Program}{w:World}{A:Around}{E:Value->Shared->Prop}{s:Shared}{env:Env}{value w5:Expr}{pos:Pos}{T id:String}{Q:Value->Shared->Prop}(hl:typeLookup (.type T) "__getitem__"=pure (some (.builtin id)))(hs:qmo w5)(h:wpAny (model prog w) A (eval value env) (λ o s₁=>wpAny (model prog w) A (eval w5 env) (λ i s₂=>s₂.TypeIs o T/\wpAny (model prog w) A (getItem o i) Q E s₂) E s₁) E s):
  wpAny (model prog w) A (eval (.Subscript value w5 pos) env) Q E s:=by
 refine Subscript_ (Qy h (λ o s₁ h₁=>Qy h₁ (λ i s₂ h₂=>?_) λ _ _ x=>x) λ _ _ x=>x);obtain⟨hT,h₂⟩:=h₂;unfold subscriptTail;refine Qz ?_;rw[getitemInPython_of_ne hT.not_modules];refine Qz (Jd hT hl ?_);have fin:wpAny (model prog w) A (subscripted w5 false o i) (λ r s₃=>wpAny (model prog w) A (letTemporaryGo value o r >>= λ _=>pure r) Q E s₃) E s₂:=by
  rw[hs o i];exact wpAny_operating (Qy h₂ (λ r s₃ h₃=>Qz (wpAny_letTemporaryGo (Q0 h₃))) λ _ _ x=>x)
 first
  |exact Q0 (Qz fin)
  |exact Qz (Q0 (Qz fin))
  |exact Qz fin
theorem qet{X:Cx}{pins:List (Addr×Obj)}{σ:St}{H:Hp}{s:Shared}{a:Addr}{y:V}{o:Option V}(I:Inv X pins σ H s)(g:qaS H a y o):s.TypeIs (.ref a) "dict":=by
 rcases g with⟨kvs,k,e,_,_⟩|⟨kvs,k,b,e,_,_,_⟩
 ·obtain⟨_,_,vs,_,dd⟩:=qc2 I.hok e;exact dd.typeIs
 ·obtain⟨_,_,xs,_,dd⟩:=qc3 I.hok e;exact dd.typeIs
def qmp(td ty:TE):TE:=λ σ H Q=>td σ H λ x H1=>ty σ H1 λ y H2=>∃ a v,x=.ref a/\qaS H2 a y (some v)/\Q v H2
def qnm(ty td:TE):TE:=λ σ H Q=>ty σ H λ y H1=>td σ H1 λ x H2=>∃ a o,x=.ref a/\qaS H2 a y o/\Q (.bl o.isSome) H2
def qmq(td ty tv:TE):TS:=λ D σ H=>tv σ H λ v H1=>td σ H1 λ x H2=>ty σ H2 λ y H3=>∃ a H4,x=.ref a/\qmn H3 a y v H4/\D.nx σ H4
section
variable {X:Cx}{o i e value:Expr}{pos u8 x9:Pos}{td ty tv:TE}
theorem qgE(hu:X.A.units+1<cLine)(ho:PE X o td)(hi:PE X i ty)(hs:qmo i):PE X (.Subscript o i pos) (qmp td ty):=by
 intro pins s σ H Q I h;refine qj3 PySem.F.slot_dict_getitem.lookup hs (thn (ho pins s σ H _ I h) λ u s1 ⟨x,H1,I1,rx,q1⟩=>thn (hi pins s1 σ H1 _ I1 q1) λ iv s2 ⟨y,H2,I2,ry,a,v,ex,g,q2⟩=>?_);subst ex;obtain rfl:u=Value.ref a:=rx;exact⟨qet I2 g,qhn hu I2 g ry λ w' s3 I3 S0=>⟨v,H2,I3,S0,q2⟩⟩
theorem qll(hu:X.A.units+1<cLine)(hi:PE X i ty)(ho:PE X o td):PC X .In i o (qnm ty td):=by
 intro pins s σ H Q I h;refine thn (hi pins s σ H _ I h) λ iv s1 ⟨y,H1,I1,ry,q1⟩=>thn (ho pins s1 σ H1 _ I1 q1) λ u s2 ⟨x,H2,I2,rx,a,ov,ex,g,q2⟩=>?_
 subst ex;obtain rfl:u=Value.ref a:=rx;exact qnl hu I2 g ry λ s3 I3=>⟨.bl ov.isSome,H2,I3,rfl,q2⟩
theorem qj4(hu:X.A.units+1<cLine)(ho:PE X o td)(hi:PE X i ty)(hv:PE X value tv)(hs:swapsWith value (some (.Subscript o i u8)) pos.line X.env=pure false):
  PS X (.Assign [.Subscript o i u8] value pos) (qmq td ty tv):=by
 intro pins s σ H D I h;refine wpAny_Assign_Subscript (thn (hv pins s σ H _ I h) λ r s1 ⟨v,H1,I1,rv,q1⟩=>thn (ho pins s1 σ H1 _ I1 q1) λ u s2 ⟨x,H2,I2,rx,q2⟩=>thn (hi pins s2 σ H2 _ I2 q2) λ iv s3 ⟨y,H3,I3,ry,a,H4,ex,g,q3⟩=>?_) hs;subst ex;obtain rfl:u=Value.ref a:=rx;exact qho hu I3 g ry rv λ s4 I4=>⟨σ,H4,I4,q3⟩
end
theorem qip{P:Program}{w:World}{H:Hp}(h:Heap)(hb:sysModules<h.objs.size):zo P w H (h.push { cls:=.type "dict",data:=.dict #[] }) h.objs.size (.dK []):=
 ⟨Qt _,Y4.mpr (Vb (Qe hb)),[],.nil,Heap.DictOf.new h⟩
def qlm:TE:=λ _ H Q=>∀ p,H p=none->Q (.ref p) (upd H p (.dK []))
section
variable {X:Cx}{pos:Pos}
theorem qeu:PE X (.Dict [] [] pos) qlm:=λ pins s σ H Q I h =>
 wpAny_Dict_empty ⟨.ref s.heap.objs.size,_,I.laid (a:=s.heap.objs.size) (o:=.dK []) (t':=s.toks) (λ _ _ q=>XD _ q) (Qs _) (qip s.heap I.big),rfl,h _ (I.hok.fresh (Qs _))⟩
end
noncomputable def qV(kvs more:List (Key×V)):List (Key×V):=more.foldl (λ c6 kv=>yB c6 kv.1 kv.2) kvs
theorem KV.merge:∀{more:List (Key×V)}{rs:List (Key×Value)}{kvs:List (Key×V)}{vs:List (Key×Value)},KV more rs->KV kvs vs->KV (qV kvs more) (merged vs rs):=by
 intro more rs kvs vs r;unfold KV at r;induction r generalizing kvs vs with
 |nil=>intro q;exact q
 | @cons p q ps qs h t ih =>
  intro r0;have e:KV (yB kvs p.1 p.2) (stored vs q.1 q.2):=by
   have:=r0.put p.1 h.2
   rw[<- h.1];exact this
  exact ih e
theorem kg:∀(more kvs:List (Key×V)),(qV kvs more).length<=kvs.length+more.length
 | [],kvs=>by show kvs.length<=kvs.length+0;omega
 |p::r,kvs=>by
  have h1:=kg r (yB kvs p.1 p.2);have h2:=yC kvs p.1 p.2;show(qV (yB kvs p.1 p.2) r).length<=_
  rw[Ua];omega
structure M2(X:Cx)(o:Expr)(m:Str)(apos:Pos)(e f:Expr)(cpos:Pos):Prop where
 base:attributeBase o m X.env (eval o X.env)=eval o X.env
 few:((backTo cpos (starEach [e,f] X.env)).all (λ x=>!x.1) && (backToKw cpos (keywordEach [] X.env)).all (λ x=>x.1.isSome)
  && decide (([e,f]:List Expr).length+([]:List Keyword).length+(if ([]:List Keyword).isEmpty then 0 else 1)<30))=true
 line:(apos.endLine == cpos.line)=true
 trees:backTo cpos (starEach [e,f] X.env)=[(false,eval e X.env),(false,eval f X.env)]
def IsD(H:Hp)(a:Addr):Prop:=(∃ kvs,Rd H a (.dK kvs))∨∃ kvs,Rd H a (.dT kvs)
theorem qln{X:Cx}{pins:List (Addr×Obj)}{σ:St}{H:Hp}{s:Shared}{a:Addr}(I:Inv X pins σ H s)(d:IsD H a):
  s.TypeIs (.ref a) "dict"/\(∀ b,Value.ref a=.ref b->∃ ob,s.heap.get? b=some ob/\ob.dict=none)/\(a == sysModules)=false:=by
 rcases d with⟨kvs,e⟩|⟨kvs,e⟩
 ·obtain⟨_,hd,vs,_,dd⟩:=qc2 I.hok e;refine⟨dd.typeIs,λ b q=>?_,hd⟩;cases q
  obtain⟨ob,_,_,h1,h2,_⟩:=dd;exact⟨ob,h1,h2.2.1⟩
 ·obtain⟨_,hd,xs,_,dd⟩:=qc3 I.hok e;refine⟨dd.typeIs,λ b q=>?_,hd⟩;cases q
  obtain⟨ob,_,_,h1,h2,_⟩:=dd;exact⟨ob,h1,h2.2.1⟩
section
variable {X:Cx}{pins:List (Addr×Obj)}{σ:St}{H:Hp}{s:Shared}{a:Addr}{y d:V}{u r:Value}{o:Option V}{A:Around}{E:Value->Shared->Prop}
theorem qlo{Q:Value->Shared->Prop}(hu:A.units+1<cLine)(I:Inv X pins σ H s)(g:qaS H a y o)(ry:qO y u)(rd:qO d r)(h:∀ w' s',Inv X pins σ H s'->qO (o.getD d) w'->Q w' s'):
  wpAny (model X.prog X.w) A (call (.builtin "dict.get") [.ref a,u,r]) Q E s:=by
 rcases g with⟨kvs,k,e,ey,l⟩|⟨kvs,k,b,e,ey,eb,l⟩
 ·subst ey;obtain⟨z,hd,vs,rel,dd⟩:=qc2 I.hok e;refine call_meetsIn XQ dd.typeIs PySem.F.entry_dict_get (PySem.F.args_dict_get_3 _ _ _) (meets_dict_get_default (qx X.prog X.w) a (qes ry) hd r) ⟨_,dd.mapOf,h _ _ (I.tok _) ?_⟩;rw[l];exact(rel.val k).getD rd
 ·subst ey;cases(show u=Value.ref b from ry)
  obtain⟨z,hd,xs,rel,dd⟩:=qc3 I.hok e;refine call_meetsIn XQ dd.typeIs PySem.F.entry_dict_get (PySem.F.args_dict_get_3 _ _ _) (meetsH_dict_get_default (tupleKind (qx X.prog X.w)) a b hd r) ⟨Zi hu,k,xs,qbI I.hok eb,dd,h _ _ (I.tok _) ?_⟩;rw[l];exact(rel.val k).getD rd
end
def qlp(td ty tx:TE):TE:=λ σ H Q=>td σ H λ x H1=>∃ a,x=.ref a/\IsD H1 a/\ty σ H1 λ y H2=>tx σ H2 λ z H3=>∃ o,qaS H3 a y o/\Q (o.getD z) H3
section
variable {X:Cx}{o e f:Expr}{apos cpos:Pos}{td ty tx:TE}
theorem qiq(hu:X.A.units+1<cLine)(ho:PE X o td)(he:PE X e ty)(hf:PE X f tx)(m:M2 X o "get" apos e f cpos):PE X (.Call (.Attribute o "get" apos) [e,f] [] cpos) (qlp td ty tx):=by
 intro pins s σ H Q I h;refine wpAny_Call_method m.base m.few m.line X3 XQ PySem.F.type_dict_get (thn (ho pins s σ H _ I h) λ u s1 ⟨x,H1,I1,rx,a,ex,d,q1⟩=>?_);subst ex;obtain rfl:u=Value.ref a:=rx;obtain⟨t1,t2,_⟩:=qln I1 d;refine⟨t1,t2,?_⟩;rw[m.trees];refine XE rfl (Calls.evalArgs_plain (Y9 (thn (he pins s1 σ H1 _ I1 q1) λ iv s2 ⟨y,H2,I2,ry,q2⟩ =>
  Y9 (thn (hf pins s2 σ H2 _ I2 q2) λ fv s3 ⟨z,H3,I3,rz,ov,g,q3⟩=>Calls.spliced_nil ?_))))
 exact qlo hu I3 g ry rz λ w' s4 I4 S0=>⟨_,H3,I4,S0,q3⟩
end
end L2
namespace HT
open PySem PyProof.Rows
section
variable {prog:Program}{w:World}{A:Around}{E:Value->Shared->Prop}{s:Shared}
theorem cat_tup{t b:Addr}{vs ws:List Value}{Q:Value->Shared->Prop}(ht:IsTup s.heap t vs.toArray)(hb:IsTup s.heap b ws.toArray)(hv:vs≠[])(h1:ws=[]->Q (.ref t) s)(h2:ws≠[]->Q (.ref s.heap.objs.size) { s with heap:=s.heap.push { cls:=.type "tuple",data:=.seq (vs++ws).toArray } })(hsz:vs.length+ws.length<=sizeLine):wpAny (model prog w) A (binaryOp .Add (.ref t) (.ref b)) Q E s:=by
 obtain⟨⟨cls,dd,data,sl⟩,ho,hc,n,hd⟩:=id ht;obtain⟨⟨cls2,lX,data2,rW⟩,N5,iB,n2,V4⟩:=id hb;simp only at hc hd iB V4;subst hc hd iB V4;have e:vs.toArray++ws.toArray=(vs++ws).toArray:=by simp
 by_cases hw:ws=[]
 ·exact concat_meets ⟨_,ho,rfl⟩ ⟨_,N5,rfl⟩ noFill_tuple_add seq_tuple_add XF X4 (Xv _ _)
   (tuple_addW1 t b vs.toArray ws.toArray n n2 dd lX sl rW (by simpa using hv) (by simp[hw])) ⟨ho,N5,h1 hw⟩
 ·refine concat_meets ⟨_,ho,rfl⟩ ⟨_,N5,rfl⟩ noFill_tuple_add seq_tuple_add XF X4 (Xv _ _)
   (tuple_addW2 t b vs.toArray ws.toArray n n2 dd lX sl rW (by simpa using hv) (by simpa using hw) (by rw[Zm,Zm];exact hsz)) ⟨ho,N5,?_⟩
  rw[e];exact h2 hw
noncomputable def sIx(n d:Nat):Option Int->Nat
 |none=>d
 |some v=>if v<0 then(v+(n:Int)).toNat else min v.toNat n
theorem sIx_nat(n d k:Nat):sIx n d (some (k:Int))=min k n:=by
 show(if (k:Int)<0 then((k:Int)+(n:Int)).toNat else min (k:Int).toNat n)=min k n
 rw[Vi (by omega),Zn]
theorem qlq(n d:Nat)(hd:d<=n)(o:Option Int):sIx n d o<=n:=by
 cases o with
 |none=>exact hd
 |some v =>
  show(if v<0 then(v+(n:Int)).toNat else min v.toNat n)<=n
  by_cases hv:v<0
  ·rw[Vh hv];omega
  ·rw[Vi hv];exact Nat.min_le_right _ _
theorem qgF(v:Int)(n d:Nat):(if v<0 then max (v+(n:Int)) 0 else min v (n:Int))=((sIx n d (some v):Nat):Int):=by
 show(if v<0 then max (v+(n:Int)) 0 else min v (n:Int))=(((if v<0 then(v+(n:Int)).toNat else min v.toNat n):Nat):Int)
 by_cases hv:v<0
 ·simp only[Vh hv];omega
 ·simp only[Vi hv];omega
theorem qfF(lo hi:Option Int)(n:Nat):Builtin.Slice.sliceAdjust lo hi 1 (n:Int)=(((sIx n 0 lo:Nat):Int),((sIx n n hi:Nat):Int)):=by
 have h1:¬ ((1:Int)<0):=by omega
 unfold Builtin.Slice.sliceAdjust;simp only[h1,Q7];refine Prod.ext ?_ ?_
 ·cases lo with
  |none=>rfl
  |some v=>exact qgF v n 0
 ·cases hi with
  |none=>rfl
  |some v=>exact qgF v n n
theorem qfG(i j:Nat):Builtin.Slice.slicePlaces (i:Int) (j:Int) 1=j-i:=by
 unfold Builtin.Slice.slicePlaces;have h1:(1:Int) > 0:=by omega
 simp only[h1,Vd,Int.ediv_one];split <;> omega
theorem qbJ{v:Value}{o:Option Int}{Q:Option Int->Shared->Prop}(p:IsPart v o)(h:Q o s):wpAny (model prog w) A (Builtin.Slice.slicePartIndex v) Q E s:=by
 cases p with
 |none=>exact slicePart_none h
 |int i t=>exact slicePart_int h
theorem qaT{sl:Addr}{vl vu:Value}{lo hi:Option Int}{n:Nat}{Q:Int×Int×Nat->Shared->Prop}(hs:s.heap.IsSliceOf sl vl vu .none)(pl:IsPart vl lo)(pu:IsPart vu hi)(h:Q (((sIx n 0 lo:Nat):Int),1,sIx n n hi-sIx n 0 lo) s):wpAny (model prog w) A (Builtin.Slice.sliceApplied (.ref sl) (pure (n:Int))) Q E s:=by
 obtain⟨os,cU,hcs,sR⟩:=id hs;unfold Builtin.Slice.sliceApplied Builtin.Slice.sliceFields;refine Qz (Qz (Qw cU sR (x:=vl) rfl (Qz (Qw cU sR (x:=vu) rfl (Qz (Qw cU sR (x:=.none) rfl (Q0 ?_)))))));refine Qz (slicePart_none ?_);show wpAny _ _ (if ((1:Int) == 0)=true then _ else _) _ _ s
 rw[Vi (by decide)];refine Qz (qbJ pl (Qz (qbJ pu (Qz (Q0 ?_)))));show wpAny _ _ (match Builtin.Slice.sliceAdjust lo hi 1 (n:Int) with|(lo,hi)=>pure (lo,(1:Int),Builtin.Slice.slicePlaces lo hi 1)) _ _ s
 rw[qfF lo hi n];show wpAny _ _ (pure (((sIx n 0 lo:Nat):Int),(1:Int),Builtin.Slice.slicePlaces ((sIx n 0 lo:Nat):Int) ((sIx n n hi:Nat):Int) 1)) _ _ s
 rw[qfG];exact Q0 h
theorem qir(xs:Array Value)(i k:Nat):((List.range k).filterMap λ(m:Nat)=>xs[((i:Int)+(m:Int)*1).toNat]?).toArray=((xs.toList.drop i).take k).toArray:=by
 have e:(λ(m:Nat)=>xs[((i:Int)+(m:Int)*1).toNat]?)=λ m=>xs[i+m]?:=by
  funext m
  have:((i:Int)+(m:Int)*1).toNat=i+m:=by omega
  rw[this]
 rw[e]
 have:=pick_run xs i k
 rw[List.filterMap_map] at this;have e2:((λ x=>xs[x]?) ∘ λ x=>i+x)=λ m=>xs[i+m]?:=rfl
 rw[e2] at this;rw[this]
theorem getItem_tuple_cut{t sl:Addr}{items:Array Value}{vl vu:Value}{lo hi:Option Int}{Q:Value->Shared->Prop}(ht:IsTup s.heap t items)(hs:s.heap.IsSliceOf sl vl vu .none)(pl:IsPart vl lo)(pu:IsPart vu hi)(hw:¬ (sIx items.size 0 lo=0/\sIx items.size items.size hi=items.size))(h:Q (.ref s.heap.objs.size) { s with heap:=s.heap.push { cls:=.type "tuple",data:=.seq ((items.toList.drop (sIx items.size 0 lo)).take (sIx items.size items.size hi-sIx items.size 0 lo)).toArray } })(hsz:items.size<=sizeLine):wpAny (model prog w) A (getItem (.ref t) (.ref sl)) Q E s:=by
 have P6:sizeOk (.seq ((items.toList.drop (sIx items.size 0 lo)).take (sIx items.size items.size hi-sIx items.size 0 lo)).toArray):=by
  show((items.toList.drop (sIx items.size 0 lo)).take (sIx items.size items.size hi-sIx items.size 0 lo)).toArray.size<=sizeLine
  rw[Zm,Uc,Ue,Yr];omega
 have hj:sIx items.size items.size hi<=items.size:=qlq _ _ (Qs _) hi;obtain⟨os,cU,hcs,sR⟩:=id hs;have hTs:s.TypeIs (.ref sl) "slice":=⟨os,cU,hcs⟩;unfold getItem
 try with_reducible refine J8 ?_
 first|refine Qz (Q0 ?_)|skip
 refine Qz (wpAny_sequenceKey ht.typeIs (by decide) ?_);refine Qz (XC (name:=Str.ofString "__getitem__") ht.typeIs Xb
  (Um Xb ht.typeIs entry_tuple_getitem ?_ (args_tuple_getitem _ _)))
 show wpAny _ _ (Builtin.Tuple.tupleItemsOf (.ref t) >>= _) _ _ s
 refine Qz (tupleItemsOf_ ht ?_);refine Qz (Qq hTs ?_);rw[Vh (by decide)];refine Qz (qaT hs pl pu ?_);have hno:¬ ((((sIx items.size 0 lo:Nat):Int) == 0 && (1:Int) == 1 && (sIx items.size items.size hi-sIx items.size 0 lo) == items.size)=true):=by
  intro q;rw[Uf,Uf] at q;have q1:((sIx items.size 0 lo:Nat):Int)=0:=eq_of_beq q.1.1;have q2:sIx items.size items.size hi-sIx items.size 0 lo=items.size:=eq_of_beq q.2;exact hw ⟨by omega,by omega⟩
 show wpAny _ _ (if (((sIx items.size 0 lo:Nat):Int) == 0 && (1:Int) == 1 && (sIx items.size items.size hi-sIx items.size 0 lo) == items.size)=true then _ else _) _ _ s
 rw[Vi hno,qir]
 first
  |exact Qz (m:=Builtin.Tuple.tupleExact _) (Z0 (Q0 ⟨_,rfl,Q0 h⟩) P6)
  |exact Qz (m:=Builtin.Tuple.tupleExact _) (Z0 (Qz (Q0 (Q0 ⟨_,rfl,Q0 h⟩))) P6)
  |exact Qz (Qz (m:=Builtin.Tuple.tupleExact _) (Z0 (Q0 (Q0 ⟨_,rfl,Q0 h⟩)) P6))
  |exact Qz (Qz (m:=Builtin.Tuple.tupleExact _) (Z0 (Q0 ⟨_,rfl,Q0 h⟩) P6))
end
end HT
namespace L2
open PySem PySem.Spec PyProof.Rows
abbrev TO:=St->Hp->(Option Int->Hp->Prop)->Prop
def PO(X:Cx)(e:Option Expr)(t:TO):Prop:=
 ∀(pins:List (Addr×Obj))(s:Shared)(σ:St)(H:Hp)(Q:Option Int->Hp->Prop),Inv X pins σ H s->t σ H Q ->
  wpAny (model X.prog X.w) X.A (evalPart e X.env) (λ u s'=>∃ o H',Inv X pins σ H' s'/\IsPart u o/\Q o H') X.xe s
def qj5:TO:=λ _ H Q=>Q none H
def qmr(t:TE):TO:=λ σ H Q=>t σ H λ x H1=>∃ i,x=.int i/\Q (some i) H1
section
variable {X:Cx}{e:Expr}{te:TE}{lo hi:Option Expr}{tl th:TO}{pos p2:Pos}
theorem qdC:PO X none qj5:=by
 intro pins s σ H Q I h;rw[evalPart_none];exact Q0 ⟨none,H,I,.none,h⟩
theorem qdD(h:PE X e te):PO X (some e) (qmr te):=by
 intro pins s σ H Q I hw;rw[evalPart_some];refine thn (h pins s σ H _ I hw) λ u s1 ⟨x,H1,I1,r1,q1⟩=>?_
 obtain⟨i,rfl,q⟩:=q1;obtain⟨t,rfl⟩:=r1;exact⟨some i,H1,I1,.int i t,q⟩
def SlR(X:Cx)(r:V->Option Int->Option Int->Hp->VK->Prop):Prop:=
 ∀(pins:List (Addr×Obj))(s:Shared)(σ:St)(H:Hp)(x:V)(v vl vu:Value)(lo hi:Option Int)(sl:Addr)(Q:VK),Inv X pins σ H s->qO x v->s.heap.IsSliceOf sl vl vu .none->IsPart vl lo->IsPart vu hi->r x lo hi H Q ->
  ∃ T id,typeLookup (.type T) "__getitem__"=pure (some (.builtin id))/\s.TypeIs v T/\wpAny (model X.prog X.w) X.A (getItem v (.ref sl)) (EP X pins σ Q) X.xe s
def tSl(r:V->Option Int->Option Int->Hp->VK->Prop)(te:TE)(tl th:TO):TE:=λ σ H Q=>te σ H λ x H1=>tl σ H1 λ l H2=>th σ H2 λ u H3=>r x l u H3 Q
theorem qbK{r:V->Option Int->Option Int->Hp->VK->Prop}(hr:SlR X r)(he:PE X e te)(hl:PO X lo tl)(hu:PO X hi th):PE X (.Subscript e (.Slice lo hi none p2) pos) (tSl r te tl th):=by
 intro pins s σ H Q I h;refine Subscript_ (thn (he pins s σ H _ I h) λ v s1 ⟨x,H1,I1,r1,q1⟩=>?_);refine wpAny_Slice (thn (hl pins s1 σ H1 _ I1 q1) λ vl s2 ⟨l,H2,I2,pl,q2⟩=>thn (hu pins s2 σ H2 _ I2 q2) λ vu s3 ⟨u,H3,I3,pu,q3⟩=>?_);rw[evalPart_none];refine Q0 ?_;have I4:Inv X pins σ H3 { s3 with heap:=s3.heap.push { cls:=.type "slice",data:=.fields #[vl,vu,.none] } }:=I3.kept (t':=s3.toks) λ b ob q=>XD _ q
 obtain⟨T,id,hT,ht,hg⟩:=hr pins { s3 with heap:=s3.heap.push { cls:=.type "slice",data:=.fields #[vl,vu,.none] } } σ H3 x v vl vu l u s3.heap.objs.size Q I4 r1 (Heap.IsSliceOf.new ..) pl pu q3;show wpAny (model X.prog X.w) X.A (subscriptTail e (.Slice lo hi none p2) v (.ref s3.heap.objs.size)) (EP X pins σ Q) X.xe { s3 with heap:=s3.heap.push { cls:=.type "slice",data:=.fields #[vl,vu,.none] } }
 exact tail_any (ops:=[.ref s3.heap.objs.size,v]) ht hT hg (by with_unfolding_all rfl)
noncomputable def qbl(xs:List V)(lo hi:Option Int):List V:=(xs.drop (HT.sIx xs.length 0 lo)).take (HT.sIx xs.length xs.length hi-HT.sIx xs.length 0 lo)
theorem qbb(xs:List V)(lo hi:Option Int):(qbl xs lo hi).length<=xs.length:=by
 unfold qbl;rw[Uc,Ue];omega
def qnn(K:W.Frag):V->Option Int->Option Int->Hp->VK->Prop:=λ x lo hi H Q=>∃ a xs,x=.ref a/\SqT K H a xs /\
 ¬ (HT.sIx xs.length 0 lo=0/\HT.sIx xs.length xs.length hi=xs.length)/\∀ p,H p=none->Q (.ref p) (upd H p (.tup (qbl xs lo hi)))
theorem qlr:SlR X (qnn X.K):=by
 intro pins s σ H x v vl vu lo hi sl Q I rx hs pl pu h;obtain⟨a,xs,rfl,hx,hw,q⟩:=h;cases rx
 obtain⟨its,r,ht,hz⟩:=I.tuple hx;have c5:its.toArray.size=xs.length:=by rw[Zm];exact r.length.symm
 refine⟨"tuple",_,PyProof.Rows.slot_tuple_getitem.lookup,ht.typeIs,?_⟩;refine HT.getItem_tuple_cut ht hs pl pu (by rw[c5];exact hw) ?_ (by rw[c5];exact hz);rw[c5];refine⟨.ref s.heap.objs.size,_,I.laid (t':=s.toks) (o:=.tup (qbl xs lo hi)) (λ b ob q=>XD _ q) (Qs _) ?_,rfl,q _ (I.hok.fresh (Qs _))⟩;exact⟨Qf (qbb xs lo hi) hz,_,(r.drop (HT.sIx xs.length 0 lo)).take (HT.sIx xs.length xs.length hi-HT.sIx xs.length 0 lo),IsTup.new _ _⟩
def qms(K:W.Frag):R2:=λ x y H Q=>∃ a b xs ys,x=.ref a/\y=.ref b/\SqT K H a xs/\SqT K H b ys/\xs≠[]/\xs.length+ys.length<=sizeLine /\
 (ys=[]->Q (.ref a) H)/\(ys≠[]->∀ p,H p=none->Q (.ref p) (upd H p (.tup (xs++ys))))
theorem qI.nil_iff{xs:List V}{us:List Value}(r:qI xs us):us=[] ↔ xs=[]:=by
 cases r with
 |nil=>simp
 |cons _ _=>simp
theorem qj6:OpR X (binaryOp .Add) (qms X.K):=by
 intro pins s σ H x y v u Q I rx ry h;obtain⟨a,b,xs,ys,rfl,rfl,ha,hb,hx,hz,q1,q2⟩:=h;cases rx
 cases ry
 obtain⟨its,r1,p1,_⟩:=I.tuple ha;obtain⟨K3,r2,p2,_⟩:=I.tuple hb;refine HT.cat_tup p1 p2 (λ z=>hx (r1.nil_iff.mp z)) (λ z=>⟨.ref a,H,I,rfl,q1 (r2.nil_iff.mp z)⟩) (λ z=>?_) (by rw[<- r1.length,<- r2.length];exact hz);refine⟨.ref s.heap.objs.size,_,I.laid (t':=s.toks) (o:=.tup (xs++ys)) (λ b ob q=>XD _ q) (Qs _) ?_,rfl,q2 (λ w=>z (r2.nil_iff.mpr w)) _ (I.hok.fresh (Qs _))⟩;exact⟨by rw[Za];exact hz,_,r1.append r2,IsTup.new _ _⟩
end
noncomputable def ixN(n:Nat)(i:Int):Option Nat:=if 0<=i then(if i<n then some i.toNat else none) else if -(n:Int)<=i then some (i+n).toNat else none
noncomputable def atI{α:Type}(xs:List α)(i:Int):Option α:=(ixN xs.length i).bind λ j=>xs[j]?
theorem qgG{n:Nat}{i:Int}{j:Nat}(h:ixN n i=some j):seqIndex? i n=some j/\j<n/\-(n:Int)<=i/\i<n:=by
 unfold ixN at h;by_cases h0:0<=i
 ·rw[Vh h0] at h;by_cases h1:i<n
  ·rw[Vh h1] at h;have e:i.toNat=j:=Option.some.inj h;exact⟨by rw[seqIndex_of h0 h1,e],by omega,by omega,h1⟩
  ·rw[Vi h1] at h;cases h
 ·rw[Vi h0] at h;by_cases h1:-(n:Int)<=i
  ·rw[Vh h1] at h;have e:(i+n).toNat=j:=Option.some.inj h;exact⟨by rw[seqIndex_neg (by omega) h1,e],by omega,h1,by omega⟩
  ·rw[Vi h1] at h;cases h
theorem qdE{α:Type}{xs:List α}{i:Int}{v:α}(h:atI xs i=some v):∃ j,seqIndex? i xs.length=some j/\xs[j]?=some v/\j<xs.length/\-(xs.length:Int)<=i/\i<xs.length:=by
 unfold atI at h;cases e:ixN xs.length i with
 |none=>rw[e] at h;cases h
 |some j =>
  rw[e] at h;obtain⟨h1,h2,h3,h4⟩:=qgG e;exact⟨j,h1,h,h2,h3,h4⟩
theorem qae{α:Type}{xs:List α}{j:Nat}{v:α}(h:xs[j]?=some v):atI xs (j:Int)=some v:=by
 have hj:j<xs.length:=(Xm.mp h).1;have e:ixN xs.length (j:Int)=some j:=by
  unfold ixN;rw[Vh (by omega),Vh (by omega)];simp
 unfold atI;rw[e];exact h
theorem qev{α:Type}(xs:List α)(v:α):atI (xs++[v]) (-1)=some v:=by
 have hl:(xs++[v]).length=xs.length+1:=by simp
 have e:ixN (xs++[v]).length (-1)=some xs.length:=by
  unfold ixN;rw[hl,Vi (by decide),Vh (by omega)];congr 1
  omega
 unfold atI;rw[e];show(xs++[v])[xs.length]?=some v
 simp
def qj7(b:Expr):Prop:=∀ o i,subscripted b false o i=operate [o,i] (getItem o i)
def IxR(X:Cx)(r:R2):Prop:=
 ∀(value w5:Expr)(pins:List (Addr×Obj))(s:Shared)(σ:St)(H:Hp)(x y:V)(v u:Value)(Q:VK),Inv X pins σ H s->qO x v->qO y u->r x y H Q ->
  subscripted w5 false v u=operate [v,u] (getItem v u)->wpAny (model X.prog X.w) X.A (subscriptTail value w5 v u) (EP X pins σ Q) X.xe s
def MtR(X:Cx)(id:String)(r:V->List V->Hp->VK->Prop):Prop:=
 ∀(pins:List (Addr×Obj))(s:Shared)(σ:St)(H:Hp)(x:V)(xs:List V)(v:Value)(us:List Value)(Q:VK),Inv X pins σ H s->qO x v->qI xs us->r x xs H Q ->
  wpAny (model X.prog X.w) X.A (call (.builtin id) (v::us)) (EP X pins σ Q) X.xe s
section
variable {X:Cx}{a b:Expr}{ta tb:TE}{pos:Pos}
theorem q9{r:R2}(hr:IxR X r)(ha:PE X a ta)(hb:PE X b tb)(hs:qj7 b):PE X (.Subscript a b pos) (tOp r ta tb):=by
 intro pins s σ H Q I h;exact Subscript_ (qlj ha hb I h λ v u s2 x y H2 I2 rx ry q=>hr a b pins s2 σ H2 x y v u Q I2 rx ry q (hs _ _))
def qno(K:W.Frag):R2:=λ x y H Q=>∃ p xs i v,x=.ref p/\y=.int i/\SqL K H p xs/\atI xs i=some v/\Q v H
def qmt(K:W.Frag):R2:=λ x y H Q=>∃ p xs i v,x=.ref p/\y=.int i/\SqT K H p xs/\atI xs i=some v/\Q v H
def qnp:R2:=λ x y H Q=>∃ z i c,x=.str z/\y=.int i/\z.length<=sizeLine/\atI z.cps.toList i=some c/\Q (.str ⟨#[c]⟩) H
theorem jz:IxR X (qno X.K):=by
 intro value w5 pins s σ H x y v u Q I rx ry h hs;obtain⟨p,xs,i,z,rfl,rfl,hq,he,q⟩:=h;cases rx
 obtain⟨t,rfl⟩:=ry;obtain⟨its,r,pl,hz⟩:=I.list hq;obtain⟨j,h1,h2,h3,h4,h5⟩:=qdE he;obtain⟨w,ew,S0⟩:=r.get h2;have hl:=r.length;have hn:=vd;have fin:EP X pins σ Q w s:=⟨z,H,I,S0,q⟩;by_cases h0:0<=i
 ·have hj:i.toNat=j:=by
   rw[seqIndex_of h0 h5] at h1;exact Option.some.inj h1
  exact item_listR pl.isList h0 (by omega) (by rw[hj];simpa using ew) fin hs
 ·have hj:(i+(its.toArray.size:Int)).toNat=j:=by
   rw[seqIndex_neg (by omega) h4] at h1;rw[Zm,<- hl];exact Option.some.inj h1
  exact subscriptTail_builtinR (x:=w) pl.isList.typeIs slot_list_getitem.lookup
   (wpAny_getItem_list_neg (Q:=λ r s'=>r=w/\EP X pins σ Q r s') pl.isList (by omega) (by rw[Zm] <;> omega) (by omega) (by rw[hj];simpa using ew) ⟨rfl,fin⟩) hs
theorem zb:IxR X (qmt X.K):=by
 intro value w5 pins s σ H x y v u Q I rx ry h hs;obtain⟨p,xs,i,z,rfl,rfl,hq,he,q⟩:=h;cases rx
 obtain⟨t,rfl⟩:=ry;obtain⟨its,r,pl,hz⟩:=I.tuple hq;obtain⟨j,h1,h2,h3,h4,h5⟩:=qdE he;obtain⟨w,ew,S0⟩:=r.get h2;have hl:=r.length;have hn:=vd;have fin:EP X pins σ Q w s:=⟨z,H,I,S0,q⟩;exact subscriptTail_builtinR (x:=w) pl.typeIs slot_tuple_getitem.lookup
  (getItem_tuple (j:=j) (Q:=λ r s'=>r=w/\EP X pins σ Q r s') pl (by omega) (by omega) (by rw[Zm,<- hl];exact h1) (by simpa using ew) ⟨rfl,fin⟩) hs
theorem qfH:IxR X qnp:=by
 intro value w5 pins s σ H x y v u Q I rx ry h hs;obtain⟨z,i,c,rfl,rfl,hz,he,q⟩:=h;obtain⟨t,rfl⟩:=rx;obtain⟨t',rfl⟩:=ry;obtain⟨j,h1,h2,h3,h4,h5⟩:=qdE he;have hl:z.cps.toList.length=z.length:=by simp[Str.length]
 rw[hl] at h1 h4 h5;have hn:=vd;exact tail_any (Q3 s z t) slot_str_getitem.lookup (getItem_str (c:=c) (by
  have e1:decide (i < -(2^63:Int))=false:=Ja (by omega);have e2:decide (i ≥ 2^63)=false:=Ja (by omega);rw[e1,e2,Bool.or_false]) (by rw[h1];simpa using h2) ⟨.str ⟨#[c]⟩,H,I.tok _,⟨_,rfl⟩,q⟩) hs
theorem qfI(its:List Value)(n j:Nat)(u:Value):Obj.mapSeq (·.setIfInBounds j u) { cls:=.type "list",data:=.seq its.toArray n }={ cls:=.type "list",data:=.seq (its.set j u).toArray n }:=by
 simp[Obj.mapSeq]
theorem Inv.lst{pins:List (Addr×Obj)}{σ:St}{H:Hp}{s:Shared}{p:Addr}{xs:List V}(I:Inv X pins σ H s)(h:H p=some (.lst xs)):
  ∃(its:List Value)(n:Nat),qI xs its/\s.heap.get? p=some { cls:=.type "list",data:=.seq its.toArray n }/\xs.length<=sizeLine:=by
 obtain⟨z,its,n,r,e⟩:=I.hok p _ h;exact⟨its,n,r,e,z⟩
theorem Inv.lstUpd{pins:List (Addr×Obj)}{σ:St}{H:Hp}{s:Shared}{p:Addr}{xs ys:List V}{its its':List Value}{n n':Nat}{f:Obj->Obj}(I:Inv X pins σ H s)(h:H p=some (.lst xs))(ho:s.heap.get? p=some { cls:=.type "list",data:=.seq its.toArray n })(hf:f { cls:=.type "list",data:=.seq its.toArray n }={ cls:=.type "list",data:=.seq its'.toArray n' })(r:qI ys its')(hz:ys.length<=sizeLine)(t:Nat):
  Inv X pins σ (upd H p (.lst ys)) { s with heap:=s.heap.update p f,toks:=t }:=by
 have e:(s.heap.update p f).get? p=some { cls:=.type "list",data:=.seq its'.toArray n' }:=by
  rw[XR f ho (by rw[hf] <;> rfl),hf]
 refine I.write (x:=p) (e:=p) (by rw[h];trivial) (.inl rfl) (λ b u hb q=>(XG _ _ (Vb hb)).trans q) ⟨_,e⟩ ?_;exact⟨hz,its',n',r,e⟩
def qmu:V->V->V->Hp->(Hp->Prop)->Prop:=λ o i v H Q=>∃ p xs k j,o=.ref p/\i=.int k/\H p=some (.lst xs)/\ixN xs.length k=some j/\Q (upd H p (.lst (xs.set j v)))
theorem qis:qmd X qmu:=by
 intro pins s σ H o i v ov iv u Q I ro ri rv h;obtain⟨p,xs,k,j,rfl,rfl,hp,hj,q⟩:=h;cases ro
 obtain⟨t,rfl⟩:=ri;obtain⟨its,n,r,ho,hz⟩:=I.lst hp;obtain⟨h1,h2,h3,h4⟩:=qgG hj;have hl:=r.length;have hn:=vd;have I':Inv X pins σ (upd H p (.lst (xs.set j v))) { s with heap:=s.heap.update p (Obj.mapSeq (·.setIfInBounds j u)) }:=
  I.lstUpd hp ho (qfI its n j u) (r.set rv j) (by rw[List.length_set];exact hz) s.toks
 by_cases h0:0<=k
 ·have hk:k.toNat=j:=by
   rw[seqIndex_of h0 h4] at h1;exact Option.some.inj h1
  exact W.ki_setAt ho h0 (by omega) (by rw[Zm,<- hl];exact h4) (by rw[hk];exact⟨_,I',q⟩)
 ·have hk:(k+(its.toArray.size:Int)).toNat=j:=by
   rw[seqIndex_neg (by omega) h3] at h1;rw[Zm,<- hl];exact Option.some.inj h1
  exact W.ki_setBack ho (by omega) (by rw[Zm,<- hl];exact h3) (by omega) (by rw[hk];exact⟨_,I',q⟩)
theorem qdF(lo hi:Option Int)(n:Nat):(sliceBounds lo hi none n).1=((HT.sIx n 0 lo:Nat):Int)/\(sliceBounds lo hi none n).2.1=((HT.sIx n n hi:Nat):Int)/\(sliceBounds lo hi none n).2.2=1:=by
 refine⟨?_,?_,rfl⟩
 ·cases lo with
  |none=>simp[sliceBounds,HT.sIx]
  |some i =>
   simp only[sliceBounds,HT.sIx,Option.getD_none,show(1:Int) > 0 by decide,Vd];by_cases h:i<0
   ·simp only[h,Vd] <;> omega
   ·simp only[h,Q7] <;> omega
 ·cases hi with
  |none=>simp[sliceBounds,HT.sIx]
  |some i =>
   simp only[sliceBounds,HT.sIx,Option.getD_none,show(1:Int) > 0 by decide,Vd];by_cases h:i<0
   ·simp only[h,Vd] <;> omega
   ·simp only[h,Q7] <;> omega
theorem qcK(its:List Value)(lo hi:Option Int):slicePick its.toArray lo hi none=((its.drop (HT.sIx its.length 0 lo)).take (HT.sIx its.length its.length hi-HT.sIx its.length 0 lo)).toArray:=by
 obtain⟨h1,h2,h3⟩:=qdF lo hi its.toArray.size;unfold slicePick;rw[h1,h2,h3];simp only[sliceRange_one,pick_run,Zm] <;> rfl
def qnq(K:W.Frag):V->Option Int->Option Int->Hp->VK->Prop:=λ x lo hi H Q=>∃ a xs,x=.ref a/\SqL K H a xs/\∀ p,H p=none->Q (.ref p) (upd H p (.lst (qbl xs lo hi)))
theorem qgH:SlR X (qnq X.K):=by
 intro pins s σ H x v vl vu lo hi sl Q I rx hs pl pu h;obtain⟨a,xs,rfl,hx,q⟩:=h;cases rx
 obtain⟨its,r,ht,hz⟩:=I.list hx;have c5:=r.length;refine⟨"list",_,slot_list_getitem.lookup,ht.isList.typeIs,?_⟩;refine wpAny_getItem_list_slice ht.isList hs pl pu .none (by simp) ?_ (by rw[Zm] <;> omega);rw[qcK,<- c5];refine⟨.ref s.heap.objs.size,_,I.laid (t':=s.toks) (o:=.lst (qbl xs lo hi)) (λ b ob q=>XD _ q) (Qs _) ?_,rfl,q _ (I.hok.fresh (Qs _))⟩;exact⟨Qf (qbb xs lo hi) hz,_,0,(r.drop (HT.sIx xs.length 0 lo)).take (HT.sIx xs.length xs.length hi-HT.sIx xs.length 0 lo),Ys _ rfl⟩
theorem qdG:OpR X (compareOp .NotIn) (λ x y H Q=>∃ i j,x=.str i/\y=.str j/\Q (.bl (!(!(Builtin.Str.occurrences j i 0 j.length 1).isEmpty))) H):=by
 intro pins s σ H x y v u Q I rx ry h;obtain⟨i,j,rfl,rfl,q⟩:=h;obtain⟨t,rfl⟩:=rx;obtain⟨t',rfl⟩:=ry;exact notIn_str ⟨.bl _,H,I,rfl,q⟩
theorem qy:y3 X (.builtin "len") (λ xs H Q=>∃ p ys,xs=[.ref p]/\(SqL X.K H p ys∨SqT X.K H p ys)/\Q (.int ys.length) H):=by
 intro pins s σ H xs us Q I r h;obtain⟨p,ys,rfl,hq,q⟩:=h;obtain⟨u,rfl,rx⟩:=yg r;cases rx
 have hn:=vd;rcases hq with hq|hq
 ·obtain⟨its,r',pl,hz⟩:=I.list hq;have c5:=r'.length;exact Calls.call_len_list pl.isList (by simp only[Zm] <;> omega) ⟨.int ys.length,H,I.tok _,⟨s.toks+1,by rw[Zm,c5]⟩,q⟩
 ·obtain⟨its,r',pl,hz⟩:=I.tuple hq;have c5:=r'.length;exact len_tuple pl (by simp only[Zm] <;> omega) ⟨.int ys.length,H,I.tok _,⟨s.toks+1,by rw[Zm,c5]⟩,q⟩
theorem qaf:y3 X (.builtin "len") (λ xs H Q=>∃ z,xs=[.str z]/\z.length<=sizeLine/\Q (.int z.length) H):=by
 intro pins s σ H xs us Q I r h;obtain⟨z,rfl,hz,q⟩:=h;obtain⟨u,rfl,t,rfl⟩:=yg r;have hn:=vd;exact len_str (by omega) ⟨.int z.length,H,I.tok _,⟨_,rfl⟩,q⟩
theorem qdH:y3 X (.type "list") (λ xs H Q=>∃ p ys,xs=[.ref p]/\(SqL X.K H p ys∨SqT X.K H p ys)/\∀ l,H l=none->Q (.ref l) (upd H l (.lst ys))):=by
 intro pins s σ H xs us Q I r h;obtain⟨p,ys,rfl,hq,q⟩:=h;obtain⟨u,rfl,rx⟩:=yg r;cases rx
 have fin:∀(its:List Value),qI ys its->ys.length<=sizeLine->∀(h':Heap)(c':Nat),(∀ b o',s.heap.get? b=some o'->h'.get? b=some o') ->
   h'.get? s.heap.objs.size=some { cls:=.type "list",dict:=none,data:=.seq its.toArray c',slots:=#[] }->EP X pins σ Q (.ref s.heap.objs.size) { s with heap:=h' }:=λ its r' hz h' c' kp e =>
  ⟨.ref s.heap.objs.size,_,I.laid (t':=s.toks) kp (Qs _) (show zo X.prog X.w _ h' _ (.lst ys) from⟨hz,its,c',r',e⟩),rfl,q _ (I.hok.fresh (Qs _))⟩
 rcases hq with hq|hq
 ·obtain⟨its,r',pl,hz⟩:=I.list hq;have c5:=r'.length;obtain⟨o,ho,hc,n,hd⟩:=pl.isList;exact call_list_seq p (.inl rfl) ho hc hd (λ h' c' kp e=>fin its r' hz h' c' kp e) (by simp only[Zm] <;> omega)
 ·obtain⟨its,r',pl,hz⟩:=I.tuple hq;have c5:=r'.length;obtain⟨o,ho,hc,n,hd⟩:=pl;exact call_list_seq p (.inr rfl) ho hc hd (λ h' c' kp e=>fin its r' hz h' c' kp e) (by simp only[Zm] <;> omega)
theorem jn:y3 X (.type "tuple") (λ xs H Q=>∃ p ys,xs=[.ref p]/\((SqL X.K H p ys/\∀ l,H l=none->Q (.ref l) (upd H l (.tup ys)))∨(SqT X.K H p ys/\Q (.ref p) H))):=by
 intro pins s σ H xs us Q I r h;obtain⟨p,ys,rfl,h⟩:=h;obtain⟨u,rfl,rx⟩:=yg r;cases rx
 rcases h with⟨hq,q⟩|⟨hq,q⟩
 ·obtain⟨its,r',pl,hz⟩:=I.list hq;have c5:=r'.length;refine call_tuple_list pl.isList (λ h' kp=>?_) (by simp only[Zm] <;> omega);have I1:Inv X pins σ H { s with heap:=h' }:=I.kept (t':=s.toks) kp;have I2:Inv X pins σ (upd H h'.objs.size (.tup ys)) { s with heap:=h'.push { cls:=.type "tuple",data:=.seq its.toArray } }:=
   I1.laid (t':=s.toks) (λ b o e=>XD _ e) (Qs _) (show zo X.prog X.w _ _ _ (.tup ys) from⟨hz,its,r',IsTup.new _ _⟩)
  exact⟨.ref h'.objs.size,_,I2,rfl,q _ (I1.hok.fresh (Qs _))⟩
 ·obtain⟨its,r',pl,hz⟩:=I.tuple hq;exact call_tuple_same pl ⟨.ref p,H,I,rfl,q⟩
def tyV(K:W.Frag)(T:String)(x:V)(H:Hp):Prop:=match x with
 | .str _=>T="str"
 | .int _=>T="int"
 | .ref p=>(T="list"/\∃ xs,SqL K H p xs)∨(T="tuple"/\∃ o,K.lookup p=some o/\o.cls=.type "tuple"/\o.dict=none) ∨
   (T="dict"/\((∃ kvs,H p=some (.dK kvs))∨∃ kvs,H p=some (.dT kvs)))∨(T="set"/\∃ S n,H p=some (.set S n))
 |_=>False
theorem qfJ{pins:List (Addr×Obj)}{σ:St}{H:Hp}{s:Shared}{T:String}{x:V}{v:Value}(I:Inv X pins σ H s)(r:qO x v)(ty:tyV X.K T x H):
  s.TypeIs v T/\∀ a,v=.ref a->∃ ob,s.heap.get? a=some ob/\ob.dict=none:=by
 cases x with
 |str z =>
  obtain⟨t,rfl⟩:=r;cases(show T="str" from ty)
  exact⟨Q3 s z t,λ _ e=>nomatch e⟩
 |int i =>
  obtain⟨t,rfl⟩:=r;cases(show T="int" from ty)
  exact⟨typeIs_int s i t,λ _ e=>nomatch e⟩
 |ref p =>
  cases r
  rcases ty with⟨rfl,xs,hq⟩|⟨rfl,o,hk,hc,hd⟩|⟨rfl,hk⟩|⟨rfl,S,n,hk⟩
  ·obtain⟨its,_,pl,_⟩:=I.list hq;refine⟨pl.isList.typeIs,λ a e=>?_⟩;cases e
   obtain⟨o,n,e,c,hd,_⟩:=pl;exact⟨o,e,hd⟩
  ·refine⟨⟨o,I.kIn p o hk,hc⟩,λ a e=>?_⟩;cases e
   exact⟨o,I.kIn _ o hk,hd⟩
  ·have z:∃ o,s.heap.get? p=some o/\o.ExactDict:=by
    rcases hk with⟨kvs,hk⟩|⟨kvs,hk⟩
    ·obtain⟨_,_,_,_,o,_,_,e,ex,_⟩:=I.hok p _ hk;exact⟨o,e,ex⟩
    ·obtain⟨_,_,_,_,o,_,_,e,ex,_⟩:=I.hok p _ hk;exact⟨o,e,ex⟩
   obtain⟨o,e,ex⟩:=z;refine⟨⟨o,e,ex.1⟩,λ a e2=>?_⟩;cases e2
   exact⟨o,e,ex.2.1⟩
  ·obtain⟨o,_,_,_,e,ex,_⟩:=I.hok p _ hk;refine⟨⟨o,e,ex.1⟩,λ a e2=>?_⟩;cases e2
   exact⟨o,e,ex.2.1⟩
 |_=>exact False.elim ty
def qnr(K:W.Frag)(T:String)(r:V->List V->Hp->VK->Prop)(to:TE):TE:=λ σ H Q=>to σ H λ x H1=>tyV K T x H1/\r x [] H1 Q
def tBM(K:W.Frag)(T:String)(r:V->List V->Hp->VK->Prop)(to:TE)(t:TA):TE:=λ σ H Q=>to σ H λ x H1=>tyV K T x H1/\t σ H1 λ xs H2=>r x xs H2 Q
variable {o e:Expr}{es:List Expr}{to:TE}{t:TA}{name:Str}{apos cpos:Pos}{T id:String}{r:V->List V->Hp->VK->Prop}
theorem kz(pa:PlainAttrs T)(slot:Slot T name id)(wS:typeOf (.builtin id)=pure (.type "method_descriptor"))(hm:MtR X id r)(ho:PE X o to)(M3:attributeBase o name X.env (eval o X.env)=eval o X.env:=by rfl)(L8:(apos.endLine == cpos.line)=true:=by rfl):PE X (.Call (.Attribute o name apos) [] [] cpos) (qnr X.K T r to):=by
 intro pins s σ H Q I h;refine wpAny_Call_method0_late M3 L8 (thn (ho pins s σ H _ I h) λ v s1 ⟨x,H1,I1,r1,ty,q1⟩=>?_);obtain⟨h1,h2⟩:=qfJ I1 r1 ty;exact⟨T,id,pa,slot,wS,h1,h2,XE rfl (PySem.evalArgs_none (hm pins s1 σ H1 x [] v [] Q I1 r1 .nil q1))⟩
theorem yQ(pa:PlainAttrs T)(slot:Slot T name id)(wS:typeOf (.builtin id)=pure (.type "method_descriptor"))(hm:MtR X id r)(ho:PE X o to)(ha:PA X (e::es) t)(M3:attributeBase o name X.env (eval o X.env)=eval o X.env:=by rfl)(xW:((backTo cpos (starEach (e::es) X.env)).all (λ x=>!x.1) && (backToKw cpos (keywordEach [] X.env)).all (λ x=>x.1.isSome)
   && decide ((e::es).length+([]:List Keyword).length+(if ([]:List Keyword).isEmpty then 0 else 1)<30))=true:=by rfl)(L8:(apos.endLine == cpos.line)=true:=by rfl)(hs:starEach (e::es) X.env=(false,eval e X.env)::starEach es X.env:=by rfl)(K4:(backTo cpos (starEach es X.env)).any (·.1)=false:=by rfl):
  PE X (.Call (.Attribute o name apos) (e::es) [] cpos) (tBM X.K T r to t):=by
 intro pins s σ H Q I h;refine wpAny_Call_method_late M3 xW L8 rfl (thn (ho pins s σ H _ I h) λ v s1 ⟨x,H1,I1,r1,ty,q1⟩=>?_);obtain⟨h1,h2⟩:=qfJ I1 r1 ty;refine⟨T,id,pa,slot,wS,h1,h2,?_⟩;have hA:=ha cpos pins s1 σ H1 _ I1 q1;rw[hs] at hA ⊢;refine XE (by show(false || (backTo cpos (starEach es X.env)).any (·.1))=false;rw[K4] <;> rfl) (Calls.evalArgs_plain ?_);exact thn hA λ us s2 ⟨vs,H2,I2,r2,q2⟩=>hm pins s2 σ H2 x vs v us Q I2 r1 r2 q2
end
def MtM(X:Cx)(id:String)(r:V->List V->Hp->VK->Prop):Prop:=
 ∀(pins:List (Addr×Obj))(s:Shared)(σ:St)(H:Hp)(x:V)(xs:List V)(v:Value)(us:List Value)(Q:VK),Inv X pins σ H s->qO x v->qI xs us->r x xs H Q ->
  wpAny (model X.prog X.w) X.A (call (.builtin id) (v::us)) (EP X pins σ Q) X.xe s
theorem qI.one:∀{x:V}{us:List Value},qI [x] us->∃ u,us=[u]/\qO x u
 |_,_,.cons r .nil=>⟨_,rfl,r⟩
theorem qI.zero:∀{us:List Value},qI [] us->us=[]
 |_,.nil=>rfl
theorem qI.dropLast{xs:List V}{us:List Value}(h:qI xs us):qI xs.dropLast us.dropLast:=by
 induction h with
 |nil=>exact .nil
 |cons r t ih =>
  cases t with
  |nil=>exact .nil
  |cons q t'=>exact .cons r ih
theorem qI.rep{xs:List V}{us:List Value}(h:qI xs us):∀ k:Nat,qI (List.replicate k xs).flatten (List.replicate k us).flatten
 |0=>.nil
 |k+1=>by
  rw[Yu,Yu,Zo,Zo];exact qI.append h (qI.rep h k)
theorem qfK{α:Type}(l:List α):l.eraseIdx (l.length-1)=l.dropLast:=by
 induction l with
 |nil=>rfl
 |cons a r ih =>
  cases r with
  |nil=>rfl
  |cons b r =>
   have e:(a::b::r).length-1=((b::r).length-1)+1:=by
    have h1:(a::b::r).length=r.length+2:=rfl;have h2:(b::r).length=r.length+1:=rfl;omega
   rw[e,X5,ih]
   all_goals rfl
theorem qc4(its:List Value):∀(k:Nat)(c6:List Value),
  List.foldl (λ x1 x2=>x1++x2) c6.toArray (List.replicate k its.toArray)=(c6++(List.replicate k its).flatten).toArray
 |0,c6=>by simp
 |k+1,c6=>by
  have e:c6.toArray++its.toArray=(c6++its).toArray:=by simp
  have e2:(c6++its)++(List.replicate k its).flatten=c6++(List.replicate (k+1) its).flatten:=by
   rw[Yu,Zo,Zp]
  rw[<- e2,<- qc4 its k (c6++its),<- e,Yu,Uz]
section
variable {X:Cx}{pins:List (Addr×Obj)}{σ:St}{H:Hp}{s:Shared}{l b:Addr}{xs ys zs:List V}
theorem Inv.lset{its its':List Value}{n:Nat}{f:Array Value->Array Value}{t':Nat}(I:Inv X pins σ H s)(hH:H l=some (.lst xs))(e:s.heap.get? l=some { cls:=.type "list",data:=.seq its.toArray n })(hf:f its.toArray=its'.toArray)(hv:qI ys its')(hz:ys.length<=sizeLine):
  Inv X pins σ (upd H l (.lst ys)) { s with heap:=s.heap.update l (Obj.mapSeq f),toks:=t' }:=by
 have q:=PySem.IsL.update e f;rw[hf] at q;refine I.write (x:=l) (e:=l) (by rw[hH];exact trivial) (.inl rfl) (λ b' u hb hu=>(XG s.heap (Obj.mapSeq f) (Vb hb)).trans hu) ⟨_,q⟩ ?_;exact⟨hz,its',_,hv,q⟩
theorem Inv.lnew{its:List Value}{t':Nat}(I:Inv X pins σ H s)(hv:qI ys its)(hz:ys.length<=sizeLine):
  Inv X pins σ (upd H s.heap.objs.size (.lst ys)) { s with heap:=s.heap.push { cls:=.type "list",data:=.seq its.toArray },toks:=t' }:=
 I.laid (λ _ _ q=>XD _ q) (Qs _) ⟨hz,its,0,hv,Ys _ rfl⟩
theorem Inv.fresh(I:Inv X pins σ H s):H s.heap.objs.size=none:=I.hok.fresh (Qs _)
theorem Inv.lstM(I:Inv X pins σ H s)(hH:H l=some (.lst xs)):xs.length<=sizeLine/\∃(its:List Value)(n:Nat),qI xs its/\xs.length=its.length/\s.heap.get? l=some { cls:=.type "list",data:=.seq its.toArray n }:=by
 obtain⟨z,its,n,r,e⟩:=I.hok l _ hH;exact⟨z,its,n,r,r.length,e⟩
theorem qit{n:Nat}(h:n<=sizeLine):Builtin.List.listTooLong n=false:=by
 unfold Builtin.List.listTooLong;exact Ja (by omega)
end
section
variable {X:Cx}
def qj8:V->List V->Hp->VK->Prop:=λ x vs H Q=>∃ l xs y,x=.ref l/\vs=[y]/\H l=some (.lst xs)/\xs.length<sizeLine/\Q .non (upd H l (.lst (xs++[y])))
theorem zu:MtM X "list.append" qj8:=by
 intro pins s σ H x vs v us Q I rx rv h;obtain⟨l,xs,y,rfl,rfl,hH,hz,q⟩:=h;cases rx
 obtain⟨u,rfl,ru⟩:=rv.one;obtain⟨z,its,n,r,hl,e⟩:=I.lstM hH;refine Q4 F.slot_list_append ⟨_,e,rfl⟩ F.entry_list_append (F.args_list_append_2 _ _) (PySem.list_append l its.toArray n u (by rw[Zm];omega)) ⟨e,?_⟩;refine⟨.non,_,I.lset (its':=its++[u]) hH e (by simp) (r.append (.cons ru .nil)) ?_,rfl,q⟩;rw[Za,XS];omega
def qns:V->List V->Hp->VK->Prop:=λ x vs H Q=>∃ l xs y,x=.ref l/\vs=[]/\H l=some (.lst xs)/\xs[xs.length-1]?=some y/\Q y (upd H l (.lst xs.dropLast))
theorem kC:MtM X "list.pop" qns:=by
 intro pins s σ H x vs v us Q I rx rv h;obtain⟨l,xs,y,rfl,rfl,hH,hy,q⟩:=h;cases rx
 have hus:=rv.zero;subst hus;obtain⟨z,its,n,r,hl,e⟩:=I.lstM hH;obtain⟨u,hu,ru⟩:=r.get hy;have nH:its.toArray[its.toArray.size-1]?=some u:=by
  show its.toArray[its.length-1]?=some u
  rw[<- XT,<- hl];exact hu
 refine Q4 F.slot_list_pop ⟨_,e,rfl⟩ F.entry_list_pop (F.args_list_pop_1 _) (MeetsSeq.list_pop_last l its.toArray n u nH (by rw[Zm];omega)) ⟨e,?_⟩;refine⟨y,_,I.lset (its':=its.dropLast) hH e ?_ r.dropLast ?_,ru,q⟩
 ·show its.toArray.eraseIdxIfInBounds (its.toArray.size-1)=its.dropLast.toArray
  rw[Zm,List.eraseIdxIfInBounds_toArray,qfK]
 ·rw[List.length_dropLast];omega
def qnt:R2:=λ x y H Q=>∃ l b xs zs,x=.ref l/\y=.ref b/\H l=some (.lst xs)/\H b=some (.lst zs)/\xs.length+zs.length<=sizeLine/\∀ p,H p=none->Q (.ref p) (upd H p (.lst (xs++zs)))
theorem qbL:OpR X (binaryOp .Add) qnt:=by
 intro pins s σ H x y v u Q I rx ry h;obtain⟨l,b,xs,zs,rfl,rfl,hH,hB,hz,q⟩:=h;cases rx
 cases ry
 obtain⟨z,its,n,r,hl,e⟩:=I.lstM hH;obtain⟨z2,K3,n2,r2,N6,e2⟩:=I.lstM hB;refine PySem.P.add_list e e2 ?_ (by rw[Zm,Zm];omega);have ea:its.toArray++K3.toArray=(its++K3).toArray:=by simp
 rw[ea];exact⟨.ref _,_,I.lnew (t':=s.toks) (r.append r2) (by rw[Za];omega),rfl,q _ I.fresh⟩
def qnu:R2:=λ x y H Q=>∃ l k xs,x=.ref l/\y=.int k/\H l=some (.lst xs)/\-(2^63)<=k/\k<2^63/\xs.length*k.toNat<=sizeLine /\
 ∀ p,H p=none->Q (.ref p) (upd H p (.lst (List.replicate k.toNat xs).flatten))
theorem qj9{α:Type}(xs:List α)(k:Nat):(List.replicate k xs).flatten.length=k*xs.length:=by
 induction k with
 |zero=>simp
 |succ k ih=>rw[Yu,Zo,Za,ih,Nat.succ_mul,Nat.add_comm]
theorem qls:OpR X (binaryOp .Mult) qnu:=by
 intro pins s σ H x y v u Q I rx ry h;obtain⟨l,k,xs,rfl,rfl,hH,h1,h2,hz,q⟩:=h;cases rx
 obtain⟨t,rfl⟩:=ry;obtain⟨z,its,n,r,hl,e⟩:=I.lstM hH;have c5:its.toArray.size*k.toNat<=sizeLine:=by rw[Zm,<- hl];exact hz
 have hcap:¬ its.toArray.size*k.toNat > (2^63-1) / 8:=by
  have:(sizeLine:Nat)<=(2^63-1) / 8:=by decide
  omega
 have xV:¬ (!Builtin.List.listFitsIndex k)=true:=by
  rw[fitsIndex_both h1 h2];exact Y8
 have oC:¬ Builtin.List.listTooLong (its.toArray.size*k.toNat)=true:=by
  rw[qit c5];exact Y8
 have A1:List.foldl (λ x1 x2=>x1++x2) #[] (List.replicate (if its.toArray.isEmpty=true then 0 else k.toNat) its.toArray)=(List.replicate k.toNat its).flatten.toArray:=by
  have f0:∀ m:Nat,List.foldl (λ x1 x2=>x1++x2) #[] (List.replicate m its.toArray)=(List.replicate m its).flatten.toArray:=λ m=>by
   have:=qc4 its m []
   rw[U0] at this;exact this
  rw[f0];cases its with
  |nil=>simp
  |cons a r'=>rw[Vi (by simp)]
 refine wpAny_binaryOp_repeat_ref (T:="list") (U:="int") (by decide) ⟨_,e,rfl⟩ (λ s'=>typeIs_int s' k t) noFill_list_mul F.fills_int_mul F.slot_int_rmul repeat_list F.slot_int_index.lookup
  (Q4 F.slot_int_rmul (typeIs_int s k t) F.entry_int_rmul (F.args_int_rmul_2 _ _) (int___rmul___int_list k t l its.toArray n)
   ⟨e,rfl,⟨_,e,rfl⟩,Q4 F.slot_list_mul ⟨_,e,rfl⟩ F.entry_list_mul (F.args_list_mul_2 _ _) (AutoListH.list___mul___list_int_3 l its.toArray n k t xV hcap oC) ⟨e,?_⟩⟩)
 rw[A1];exact⟨.ref _,_,I.lnew (t':=s.toks) (r.rep k.toNat) (by rw[qj9,Qj];exact hz),rfl,q _ I.fresh⟩
end
end L2
namespace Att
open PySem PySem.W PySem.Calls PyProof.Rows
theorem qbm{P:Params}{h:Heap}:∀(ns:List Int)(vs:List Value),WellAll P h vs (ns.map WData.int)->IntsAre vs ns:=by
 intro ns;induction ns with
 |nil =>
  intro vs w;rw[List.map_nil] at w;cases w
  exact .nil
 |cons n ns ih =>
  intro vs w;rw[Jz] at w;cases w with
  |cons a b =>
   cases a
   exact .cons _ _ (ih _ b)
theorem qhp{l:OpenLaw}{n:Nat}(hn:l.most=some n){P:Params}{h:Heap}{args:List WData}{fZ:List Value}(cR:l.row.toRowW.claim.pre args=true)(wQ:WellAll P h fZ args):
  ∃ a vs ns,fZ=[Value.ref a]/\args=[WData.list (ns.map WData.int)]/\h.get? a=some { cls:=.type "list",data:=.seq vs.toArray }/\IntsAre vs ns/\ns.length<=n:=by
 have hsh:WShape.hasAll [] args [.list .int]=true:=(pre_splitW cR).1;have hc:l.pre.holds [] { args:=args }=true:=(pre_splitW cR).2;obtain⟨d,r,rfl,h1,h2⟩:=hasAllW_cons hsh;obtain rfl:=hasAllW_nil h2;obtain⟨xs,rfl,h3⟩:=hasW_list h1;obtain⟨ns,rfl⟩:=items_int h3;have c5:ns.length<=n:=by
  unfold OpenLaw.pre at hc;have h4:(WTm.not (.lt (.lit (.int (n:Int))) (.len (.arg 0)))).holds [] { args:=[.list (ns.map .int)] }=true:=by
   have h4:=(holds_andW hc).1;rw[hn] at h4;exact h4
  have h5:=condW_of h4 (w_not (w_lt w_lit (w_len_list (w_arg rfl))));rw[Ut] at h5;refine Nat.le_of_not_lt λ q=>?_
  have q':(n:Int)<((ns.length:Nat):Int):=by omega
  first
   |(rw[Jt q'] at h5;exact absurd h5 (by decide))
   |(simp at h5;omega)
 cases wQ with
 |cons w1 w2 =>
  cases w2
  cases w1 with
  |list ho hall=>exact⟨_,_,ns,rfl,rfl,ho,qbm ns _ hall,c5⟩
theorem qhq(l:OpenLaw)(args:List WData):l.row.toRowW.claim.post args (.bool true) args=true:=
 postW_of (r:=l.row.toRowW) (X:=(true == true))
  (show WShape.has [] (.bool true) .bool=true by first|rfl|decide|simp[WShape.has,WShape.arms,WShape.armsAll])
  (show(WTm.eq .res (.lit (.bool true))).value [] { args:=args,res:=some (.bool true),after:=args }=some (.bool (true == true)) from w_eq_bool (w_res rfl) w_lit) rfl
theorem attach_call{l:OpenLaw}{n:Nat}{q:Program}{G8:List Str}{XP:(Str->Option Value)->Heap->Prop}{YP:World->Heap->Prop}{d:DefRec}(hn:l.most=some n)(oP:d.params.defaults=[])(call:∀(w:World)(s₀ s₁:Shared)(mg mb:Str->Option Value)(fa:Addr)(o:Obj)(pm cd doc:Value)(a:Addr)(vs:List Value)(ns:List Int),
   Ground q G8 [] XP w s₀ mg mb s₁.heap->YP w s₁.heap ->
   s₁.heap.get? fa=some o->o.data=.func (docDef d.name d.params d.body d.scope pm cd doc)->s₁.heap.CodeRec cd d.name->mg d.name=some (.ref fa) ->
   s₁.heap.get? a=some { cls:=.type "list",data:=.seq vs.toArray }->IntsAre vs ns->ns.length<=n->s₁.gens=#[] ->
   codeAny (model l.prog w) callerA (.call (.ref fa) ⟨[.ref a],[]⟩) (λ r s'=>r=.ok (.ret (.bool true))/\OldK s₁.heap s'.heap/\s'.os=s₁.os/\AllBare s'.gens) s₁):
  WalkO q G8 XP YP l.row.toRowW d [] (λ f vs=>PySem.call f vs):=by
 intro w s₀ s₁ mg mb G Y fa o pm cd doc dV kV ho hd V5 hD oA hg args fZ as cR hlay hrd wQ hlo;obtain rfl:dV=.none:=Dflts.none hD oP;obtain rfl:kV=.none:=Dflts.noKw hD;obtain⟨a,vs,ns,rfl,rfl,hJ,aA,c5⟩:=qhp hn cR wQ;refine enter_call (Qp (call w s₀ s₁ mg mb fa o pm cd doc a vs ns G Y ho (fd_plain hd) V5 oA hJ aA c5 hg) λ r s' hq=>?_);obtain⟨rfl,h2,h3,h4⟩:=hq;exact⟨.inl ⟨.bool true,.bool true,[],rfl,λ _=>rfl,.bool true,qhq l _,λ _=>⟨List.Pairwise.nil,λ _ hm=>(nomatch hm)⟩⟩,h2,h3,h4⟩
end Att
namespace L2
open PySem PySem.Spec PyProof.Rows
theorem qc5:∀{vs:List Value}{ns:List Int},IntsAre vs ns->qI (ns.map V.int) vs
 |_,_,.nil=>.nil
 |_,_,.cons n t h=>.cons ⟨t,rfl⟩ (qc5 h)
def qlt(H:Hp):Prop:=∀ b,H b=none∨∃ o xs,H b=some (.frz o (.lst xs))
theorem qiu{P:Program}{w:World}{K:W.Frag}{mg mb:Str->Option Value}{CX:CXT}{k:Nat}{fa a:Addr}{fd:FuncData}{x:Str}{sp:Sp}{s₁:Shared}{vs:List Value}{ns:List Int}(KX:K.In s₁.heap)(hns:s₁.heap.Ns mainGlobals mg)(hb:s₁.heap.Ns builtinsNs mb)(cZ:∀ x:Str,x≠"__name__"->mb x=bootBuiltins x)(xN:s₁.heap.NoLimit)(hg:s₁.gens=#[])(ha:s₁.heap.get? a=some { cls:=.type "list",data:=.seq vs.toArray })(hi:IntsAre vs ns)(hl:ns.length<=sizeLine)(hr:Room k callerA)(F:∀ base:Heap,K.In base->base.Ns mainGlobals mg->FnOk P w K mg base CX k fa fd [x] sp)(oS:∀(s:Shared)(u:Value),BindsTo s fd ⟨[u],[]⟩ [(x,u)])(eR:∀ H:Hp,qlt H->SqL K H a (ns.map V.int)->sp [.ref a] H (λ v _=>v=.bl true) λ _ _ _=>False)(hCX:∀ H e s',CX [] H s₁ (λ _ _ _=>False) e s'->False):
  codeAny (model P w) callerA (.call (.ref fa) ⟨[.ref a],[]⟩) (λ r s'=>r=.ok (.ret (.bool true))/\OldK s₁.heap s'.heap/\s'.os=s₁.os/\AllBare s'.gens) s₁:=by
 have rv:=qc5 hi;have wH:=hi.length;have pZ:∀ H:Hp,qlt H->SqL K H a (ns.map V.int)->HOk P w H s₁.heap->(∀ b,H b≠none->b=a)->(H a≠none->K.lookup a=none) ->
   codeAny (model P w) callerA (.call (.ref fa) ⟨[.ref a],[]⟩) (λ r s'=>r=.ok (.ret (.bool true))/\OldK s₁.heap s'.heap/\s'.os=s₁.os/\AllBare s'.gens) s₁:=by
  intro H hO hS hok hA hK;have R4:∀{b:Addr}{o:Obj},s₁.heap.get? b=some o->H b=none->(qdy s₁.heap H).get? b=some o:=λ e n=>qh7 e n
  have mU:∀{b:Addr}{o:Obj}{es:Array DictEntry}{ep:Nat},s₁.heap.get? b=some o->o.data=.dict es ep->H b=none:=λ{b o es ep} e d=>by
   cases q:H b with
   |none=>rfl
   |some u =>
    have e':b=a:=hA b (by rw[q];simp);subst e';rw[ha] at e;cases e;have d':Data.seq vs.toArray _=Data.dict es ep:=d;cases d'
  have sD:∀{b:Addr}{m:Str->Option Value},s₁.heap.Ns b m->(qdy s₁.heap H).Ns b m:=λ{b m} ⟨o,es,ep,e,d,r⟩=>⟨o,es,ep,R4 e (mU e d),d,r⟩
  have hKb:K.In (qdy s₁.heap H):=λ b o e=>R4 (KX b o e) (by
   cases q:H b with
   |none=>rfl
   |some u =>
    have e':b=a:=hA b (by rw[q];simp);subst e';rw[hK (by rw[q];simp)] at e;cases e)
  have hM:Mod K mg (qdy s₁.heap H):=⟨hKb,sD hns,⟨mb,sD hb,cZ⟩,let ⟨mc,h1,h2⟩:=xN;⟨mc,sD h1,h2⟩⟩;have e0:Env0 P w K mg (qdy s₁.heap H) callerA [] s₁ H:=⟨rfl,hM,λ b o e=>qjV e,Nat.le_of_eq (qhc _ _),trivial,λ b hb=>absurd (show b∈([]:List Addr) from hb) (by simp),hok,.of_eq hg⟩;refine Qp ((F _ hKb (sD hns)).run callerA [] s₁ H ⟨[.ref a],[]⟩ [.ref a] [.ref a] _ _ hr e0 (oS s₁ (.ref a)) (.cons rfl .nil) (eR H hO hS)) λ r s' h=>?_
  cases r with
  |error e=>exact(hCX H e s' h).elim
  |ok fl =>
   cases fl with
   |next=>exact False.elim h
   |brk=>exact False.elim h
   |cont=>exact False.elim h
   |ret u =>
    obtain⟨v,H',os,bare,un,xJ,r',q⟩:=h;have q':v=.bl true:=q;subst q';obtain rfl:u=Value.bool true:=r';refine⟨rfl,OldK.of_keep λ b o e=>?_,os,bare⟩;cases q:H b with
    |none=>exact un.keep b o e q (by intro z;exact absurd (show b∈([]:List Addr) from z) (by simp)) (by simp)
    |some u =>
     rcases hO b with z|⟨ob,xs,z⟩
     ·rw[q] at z;cases z
     ·have z2:=un.frzs b ob _ z;obtain⟨e1,_⟩:=hok b _ z;obtain⟨e2,_⟩:=xJ b _ z2;rw[e] at e1;cases e1;exact e2
 cases hk:K.lookup a with
 |some o =>
  have e:=KX a o hk;rw[ha] at e;cases e
  refine pZ (λ _=>none) (λ _=>.inl rfl) (.inr ⟨_,vs.toArray,_,hk,rfl,rfl,rfl,by rw[Zm,wH];exact hl,by simpa using rv⟩) (λ b u z=>by have z':(none:Option HO)=some u:=z;cases z') (λ b z=>absurd rfl z) λ z=>absurd rfl z
 |none =>
  refine pZ (λ b=>if b=a then some (.frz { cls:=.type "list",data:=.seq vs.toArray } (.lst (ns.map V.int))) else none) (λ b=>?_) (.inl (.inr ⟨{ cls:=.type "list",data:=.seq vs.toArray },Vh rfl⟩)) (λ b u z=>?_) (λ b z=>?_) λ _=>hk
  ·by_cases hb:b=a
   ·exact .inr ⟨_,_,Vh hb⟩
   ·exact .inl (Vi hb)
  ·by_cases hb:b=a
   ·have z':=(Vh hb).symm.trans z;cases z'
    subst hb;exact⟨ha,by rw[Ut];exact hl,vs,_,rv,ha⟩
   ·have z':=(Vi hb).symm.trans z;cases z'
  ·by_cases hb:b=a
   ·exact hb
   ·exact absurd (Vi hb) z
theorem walk_of{l:W.OpenLaw}{n k:Nat}{q:Program}{G8:List Str}{XP:(Str->Option Value)->Heap->Prop}{YP:World->Heap->Prop}{d:DefRec}{K:Params->W.Frag}{CX:World->CXT}{sp:World->Sp}{x:Str}(hn:l.most=some n)(W8:n<=sizeLine)(oP:d.params.defaults=[])(hr:Room k callerA)(hY:∀(w:World)(h:Heap),YP w h->(K w.params).In h)(F:∀(w:World)(mg:Str->Option Value)(fa:Addr)(h:Heap),(K w.params).In h->h.Ns mainGlobals mg->mg d.name=some (.ref fa) ->
   ∃ fd:FuncData,(∀(s:Shared)(u:Value),BindsTo s fd ⟨[u],[]⟩ [(x,u)]) /\
    ∀ base:Heap,(K w.params).In base->base.Ns mainGlobals mg->FnOk l.prog w (K w.params) mg base (CX w) k fa fd [x] (sp w))(eR:∀(w:World)(H:Hp)(a:Addr)(ns:List Int),ns.length<=n->qlt H->SqL (K w.params) H a (ns.map V.int)->sp w [.ref a] H (λ v _=>v=.bl true) λ _ _ _=>False)(hCX:∀(w:World)(H:Hp)(s:Shared)(e:Value)(s':Shared),CX w [] H s (λ _ _ _=>False) e s'->False):
  PySem.W.WalkO q G8 XP YP l.row.toRowW d [] (λ f vs=>PySem.call f vs):=by
 refine Att.attach_call hn oP λ w s₀ s₁ mg mb fa o pm cd doc a vs ns G Y ho hd V5 oA hJ aA c5 hg=>?_
 have KX:=hY w _ Y;obtain⟨fd,hb,hF⟩:=F w mg fa _ KX G.T.g oA;exact qiu KX G.T.g G.T.b G.T.builtins G.T.nolimit hg hJ aA (Qf c5 W8) hr hF hb (λ H hO hS=>eR w H a ns c5 hO hS) λ H e s'=>hCX w H s₁ e s'
noncomputable def qR(s:Stmt)(j:Nat):Stmt:=match s with
 |.ClassDef _ _ _ body _ _ _ _ _ _ _=>body.getD j (.Pass ⟨0,0,0,0⟩)
 |_=>.Pass ⟨0,0,0,0⟩
noncomputable def qag(s:Stmt):Arguments:=match s with
 |.FunctionDef _ a _ _ _ _ _ _ _ _=>a
 |_=>{ posonlyargs:=[],args:=[],vararg:=none,kwonlyargs:=[],kw_defaults:=[],kwarg:=none,defaults:=[] }
noncomputable def jA(s:Stmt):List Stmt:=match s with
 |.FunctionDef _ _ b _ _ _ _ _ _ _=>b
 |_=>[]
noncomputable def qh(s:Stmt):Scope:=match s with
 |.FunctionDef _ _ _ _ _ _ sc _ _ _=>sc
 |_=>{ kind:=.function,names:=[],isGenerator:=false,isCoroutine:=false }
abbrev CX0:CXT:=λ _ _ _ _ _ _=>False
abbrev E0:XK:=λ _ _ _=>False
theorem qE{X:Cx}:ku CX0 X E0:=λ _ _ _ _ _ _ _ h=>h.elim
structure Fun(K:W.Frag)(x qual:Str)(st:Stmt)(f:Addr)(fd:FuncData):Prop where
 ex:∃(oc:Value)(od:Option Addr)(kV doc pm:Value)(an:Option Addr)(cdv ct:Value)(osl:Array (Option Value)),
  fd=W.fnOf x qual (qag st) (jA st) (qh st) .none kV doc pm an cdv ct/\K.lookup f=some ⟨oc,od,.func fd,osl⟩/\W.codeIn K cdv qual=true
 kp:W.keepIn K (.ref f)=true
section
variable {P:Program}{w:World}{K:W.Frag}{mg:Str->Option Value}{base:Heap}
theorem qfL{X:Cx}{k:Nat}{f:Addr}{fd:FuncData}{ps:List Str}{sp:Sp}{x:Str}{p pos:Pos}{e:Expr}{es:List Expr}{t:TA}(F:FnOk X.prog X.w X.K X.mg X.base CX0 k f fd ps sp)(hr:Room k X.A)(hm:X.mg x=some (.ref f))(hk:W.keepIn X.K (.ref f)=true)(hb:qf X.K fd ps [])(ha:PA X (e::es) t)(hg:Gl X x:=by rfl)(S5:(x == ("__debug__":Str))=false:=by decide)(he:starEach (e::es) X.env=(false,eval e X.env)::starEach es X.env:=by rfl)(t8:(backTo pos (starEach es X.env)).any (·.1)=false:=by rfl):PE X (.Call (.Name x p) (e::es) [] pos) (qba sp [] E0 t):=ze F hr hg hm hk hb .nil qE ha S5 he t8
structure Dp(P:Program)(w:World)(K:W.Frag)(mg:Str->Option Value)(base:Heap)(k:Nat)(f:Addr)(d:FuncData)(ps:List Str)(sp:Sp)(x:Str):Prop where
 g:FnOk P w K mg base CX0 k f d ps sp
 b:qf K d ps []
 e:W.keepIn K (.ref f)=true
 m:mg x=some (.ref f)
theorem zm{X:Cx}{k:Nat}{f:Addr}{fd:FuncData}{ps:List Str}{sp:Sp}{x:Str}{p pos:Pos}{e:Expr}{es:List Expr}{t:TA}(D:Dp X.prog X.w X.K X.mg X.base k f fd ps sp x){j:Nat}(hr:Room j X.A)(ha:PA X (e::es) t)(hg:Gl X x:=by rfl)(S5:(x == ("__debug__":Str))=false:=by decide)(he:starEach (e::es) X.env=(false,eval e X.env)::starEach es X.env:=by rfl)(t8:(backTo pos (starEach es X.env)).any (·.1)=false:=by rfl)(hj:k<=j:=by decide):PE X (.Call (.Name x p) (e::es) [] pos) (qba sp [] E0 t):=qfL D.g (hr.mono hj) D.m D.e D.b ha hg S5 he t8
theorem Fun.ok{x qual:Str}{st:Stmt}{f:Addr}{fd:FuncData}{N ps:List Str}{k:Nat}{sp:Sp}(F:Fun K x qual st f fd)(S:FnScope N ps (qh st))(len:∀ vs H Q E,sp vs H Q E->vs.length=ps.length)(M1:∀(cdv:Value)(A:Around)(outer:List Env)(s:Shared)(H:Hp)(vs:List V)(Q:VK)(E:XK),Room k (A.deeper (envOfC qual (qh st) s.heap.objs.size f cdv))->sp vs H Q E ->
   ∃ t,PSs (qfD CX0 P w K mg base N qual (qh st) f cdv A outer s H E).nox (jA st) t/\t { nx:=λ _ H'=>Q .non H',rt:=Q } (qad N vs) H):FnOk P w K mg base CX0 (k+1) f fd ps sp:=by
 obtain⟨oc,od,kV,doc,pm,an,cdv,ct,osl,rfl,lk,V5⟩:=F.ex;refine qml lk V5 S len λ A outer s H vs Q E hr eR=>?_
 obtain⟨t,h,q⟩:=M1 cdv A outer s H vs Q E hr eR;exact⟨t,h.nox,q⟩
theorem Fun.okd{x qual:Str}{st:Stmt}{f:Addr}{fd:FuncData}{N ps:List Str}{k:Nat}{sp:Sp}(F:Fun K x qual st f fd)(S:FnScope N ps (qh st))(M1:∀(cdv:Value)(A:Around)(outer:List Env)(s:Shared)(H:Hp)(vs:List V)(Q:VK)(E:XK),Room k (A.deeper (envOfC qual (qh st) s.heap.objs.size f cdv))->sp vs H Q E ->
   ∃ t,PSs (qfD CX0 P w K mg base N qual (qh st) f cdv A outer s H E).nox (jA st) t/\t { nx:=λ _ H'=>Q .non H',rt:=Q } (qad N vs) H)(len:∀ vs H Q E,sp vs H Q E->vs.length=ps.length:=by intro vs H Q E h;repeat (first|(obtain⟨rfl,_⟩:=h;rfl)|(obtain⟨_,h⟩:=h))):FnOk P w K mg base CX0 (k+1) f fd ps sp:=F.ok S len M1
theorem ls1{us:List Value}(h:us.length=1):∃ a,us=[a]:=match us,h with| [a],_=>⟨a,rfl⟩
theorem ls2{us:List Value}(h:us.length=2):∃ a b,us=[a,b]:=match us,h with| [a,b],_=>⟨a,b,rfl⟩
theorem ls3{us:List Value}(h:us.length=3):∃ a b c,us=[a,b,c]:=match us,h with| [a,b,c],_=>⟨a,b,c,rfl⟩
theorem ls4{us:List Value}(h:us.length=4):∃ a b c d,us=[a,b,c,d]:=match us,h with| [a,b,c,d],_=>⟨a,b,c,d,rfl⟩
theorem Fun.binds{x qual:Str}{st:Stmt}{f:Addr}{fd:FuncData}{ps:List Str}(F:Fun K x qual st f fd)(h:∀(kV doc pm:Value)(an:Option Addr)(cdv ct:Value)(us:List Value),us.length=ps.length->bindArgs (W.fnOf x qual (qag st) (jA st) (qh st) .none kV doc pm an cdv ct) ⟨us,[]⟩=pure (ps.zip us):=by intro _ _ _ _ _ _ us hl;first|(obtain⟨_,rfl⟩:=ls1 hl;rfl)|(obtain⟨_,_,rfl⟩:=ls2 hl;rfl)|(obtain⟨_,_,_,rfl⟩:=ls3 hl;rfl)|(obtain⟨_,_,_,_,rfl⟩:=ls4 hl;rfl)):qf K fd ps []:=by
 obtain⟨oc,od,kV,doc,pm,an,cdv,ct,osl,rfl,lk,V5⟩:=F.ex;exact .all (h kV doc pm an cdv ct)
theorem fun_mk{x qual:Str}{st:Stmt}{f:Addr}{oc:Value}{od an:Option Addr}{osl:Array (Option Value)}{kV doc pm cdv ct:Value}(l:K.lookup f=some ⟨oc,od,.func (W.fnOf x qual (qag st) (jA st) (qh st) .none kV doc pm an cdv ct),osl⟩)(c:W.codeIn K cdv qual=true)(k:W.keepIn K (.ref f)=true):Fun K x qual st f (W.fnOf x qual (qag st) (jA st) (qh st) .none kV doc pm an cdv ct):=⟨⟨oc,od,kV,doc,pm,an,cdv,ct,osl,rfl,l,c⟩,k⟩
end
theorem qew{A:Around}{k:Nat}(hr:Room k A):A.units+1<cLine:=Nat.lt_of_le_of_lt (Nat.add_le_add_left (by decide:1<=64) _) hr.units
section
variable {X:Cx}
theorem pv(i:Nat){x:Str}{pos:Pos}(hN:X.N[i]?=some x:=by rfl)(hv:Vis X.env.scope x:=by first | exact Or.inl rfl | exact Or.inr (Or.inl rfl) | exact Or.inr (Or.inr rfl))(hd:(x == ("__debug__":Str))=false:=by decide)(V5:(x == ("__classdict__":Str))=false:=by decide):PE X (.Name x pos) (qel i):=qlb hN hv hd V5
end
theorem ya{A B:Prop}(h:B):if false=true then A else B:=by
 rw[Vi Y8];exact h
theorem qah{A B:Prop}(h:A):if true=true then A else B:=by
 rw[Vh rfl];exact h
theorem qbM{c A B:Prop}[Decidable c](h1:c->A)(h2:¬ c->B):if c then A else B:=by
 by_cases h:c
 ·rw[Vh h];exact h1 h
 ·rw[Vi h];exact h2 h
def qg(H H':Hp):Prop:=∀ b o,H b=some o->H' b=some o
theorem qg.refl(H:Hp):qg H H:=λ _ _ h=>h
theorem qg.trans{H H1 H2:Hp}(a:qg H H1)(b:qg H1 H2):qg H H2:=λ c o h=>b c o (a c o h)
theorem qg.free{H H':Hp}(e:qg H H'){l:Addr}(h:H' l=Option.none):H l=Option.none:=by
 cases q:H l with
 |none=>rfl
 |some o =>
  rw[e l o q] at h;cases h
theorem qg.seq{K:W.Frag}{H H':Hp}{a:Addr}{xs:List V}(e:qg H H')(h:SqL K H a xs):SqL K H' a xs:=by
 rcases h with(h|⟨o,h⟩)|h
 ·exact .inl (.inl (e _ _ h))
 ·exact .inl (.inr ⟨o,e _ _ h⟩)
 ·exact .inr h
end L2
namespace Fs
abbrev Pr:=List Nat
theorem qex{α:Type}{r:α->α->Prop}(nF:∀ a,¬ r a a)(rN:∀ a b,r a b->¬ r b a):∀{l m:List α},l.Pairwise r->m.Pairwise r->(∀ x,x∈l ↔ x∈m)->l=m
 | [],[],_,_,_=>rfl
 | [],b::m,_,_,h=>by have:=(h b).mpr Y7;cases this
 |a::l,[],_,_,h=>by have:=(h a).mp Y7;cases this
 |a::l,b::m,hl,hm,h=>by
  have V2:=Zb.mp hl;have lL:=Zb.mp hm;have ab:a=b:=by
   rcases Jy.mp ((h a).mp Y7) with e|e
   ·exact e
   ·rcases Jy.mp ((h b).mpr Y7) with e' | e'
    ·exact e'.symm
    ·exact absurd (lL.1 a e) (rN _ _ (V2.1 b e'))
  subst ab
  have:l=m:=qex nF rN V2.2 lL.2 λ x=>by
   constructor
   ·intro hx;rcases Jy.mp ((h x).mp (Yf _ hx)) with e | e
    ·subst e;exact absurd (V2.1 x hx) (nF x)
    ·exact e
   ·intro hx;rcases Jy.mp ((h x).mpr (Yf _ hx)) with e | e
    ·subst e;exact absurd (lL.1 x hx) (nF x)
    ·exact e
  rw[this]
theorem qgI(a:Pr):¬ a<a:=List.lt_irrefl a
theorem qiv(a b:Pr)(h:a<b):¬ b<a:=λ h'=>qgI a (List.lt_trans h h')
structure Vf(F:List Pr):Prop where
 rise:F.Pairwise (·<·)
 prod:∀ p∈F,p.Pairwise (·<·)
theorem zx{α:Type}{r:α->α->Prop}(nF:∀ a,¬ r a a):∀{l:List α},l.Pairwise r->l.Nodup:=λ{l} h=>h.imp λ{a b} w6 e=>by subst e;exact nF _ w6
theorem Vf.nodup{F:List Pr}(h:Vf F):F.Nodup:=zx qgI h.rise
noncomputable def qC(ρ:Nat->Bool):List Pr->Bool
 | []=>false
 |p::F=>xor (p.all ρ) (qC ρ F)
theorem jB(ρ:Nat->Bool):∀ F G:List Pr,qC ρ (F++G)=xor (qC ρ F) (qC ρ G)
 | [],G=>by simp[qC]
 |p::F,G=>by
  show xor (p.all ρ) (qC ρ (F++G))=_
  rw[jB ρ F G];show _=xor (xor (p.all ρ) (qC ρ F)) (qC ρ G)
  rw[Jk]
theorem jC(ρ:Nat->Bool){F G:List Pr}(h:F.Perm G):qC ρ F=qC ρ G:=by
 induction h with
 |nil=>rfl
 |cons x _ ih=>show xor _ _=xor _ _;rw[ih]
 |swap x y l=>show xor _ (xor _ _)=xor _ (xor _ _);rw[<- Jk,<- Jk,Bool.xor_comm (y.all ρ)]
 |trans _ _ a b=>exact a.trans b
theorem vg(ρ:Nat->Bool)(q:Pr->Bool):∀ F:List Pr,qC ρ F=xor (qC ρ (F.filter q)) (qC ρ (F.filter λ p=>!q p))
 | []=>rfl
 |p::F=>by
  have ih:=vg ρ q F;cases h:q p with
  |true =>
   rw[X6 h,X7 (by simp[h])];show xor _ _=xor (xor _ _) _
   rw[ih,Jk]
  |false =>
   rw[X7 (by simp[h]),X6 (by simp[h])];show xor _ _=xor _ (xor _ _)
   rw[ih];cases p.all ρ <;> cases qC ρ (F.filter q) <;> cases qC ρ (F.filter λ p=>!q p) <;> rfl
noncomputable def qey(F G:List Pr):List Pr:=F.filter (λ p=>!G.contains p)++G.filter (λ p=>!F.contains p)
theorem qbN{F G:List Pr}{p:Pr}:p∈qey F G ↔ ((p∈F/\p∉G)∨(p∈G/\p∉F)):=by
 simp[qey,Ur,Uq]
theorem qfM(ρ:Nat->Bool){F G:List Pr}(hF:F.Nodup)(hG:G.Nodup):qC ρ (qey F G)=xor (qC ρ F) (qC ρ G):=by
 have e1:=vg ρ (λ p=>G.contains p) F;have e2:=vg ρ (λ p=>F.contains p) G;have e3:qC ρ (F.filter λ p=>G.contains p)=qC ρ (G.filter λ p=>F.contains p):=by
  refine jC ρ ?_;rw[Xj (hF.filter _) (hG.filter _)];intro p;simp only[Uq,XU];exact⟨λ ⟨a,b⟩=>⟨b,a⟩,λ ⟨a,b⟩=>⟨b,a⟩⟩
 rw[qey,jB,e1,e2,e3];cases qC ρ (G.filter λ p=>F.contains p) <;> cases qC ρ (F.filter λ p=>!G.contains p) <;> cases qC ρ (G.filter λ p=>!F.contains p) <;> rfl
theorem qbO{F G:List Pr}(hF:F.Nodup)(hG:G.Nodup):(qey F G).Nodup:=by
 refine Zq.mpr ⟨hF.filter _,hG.filter _,?_⟩;intro a ha b hb e;subst e;simp[Uq] at ha hb;exact hb.2 ha.1
theorem jt{α:Type}[DecidableEq α]:∀{l m:List α},l.Nodup->(∀ x∈l,x∈m)->l.length<=m.length
 | [],_,_,_=>Qt _
 |a::l,m,nd,h=>by
  have K1:=Uv.mp nd;have ha:a∈m:=h a Y7
  have:=jt (l:=l) (m:=m.erase a) K1.2 λ x hx=>(List.mem_erase_of_ne (λ(e:x=a)=>K1.1 (by rw[<- e];exact hx))).mpr (h x (Yf _ hx))
  rw[List.length_erase_of_mem ha] at this
  have:0<m.length:=List.length_pos_of_mem ha
  rw[Ua];omega
noncomputable def zg:List Nat->List Pr
 | []=>[[]]
 |l::ls=>zg ls++(zg ls).map (l::·)
theorem qW:∀ ls:List Nat,(zg ls).length=2^ls.length
 | []=>rfl
 |l::ls=>by rw[zg,Za,Ut,qW ls,Ua,Qk];omega
theorem zD:∀{ls:List Nat}{p:Pr},p∈zg ls ↔ p.Sublist ls
 | [],p=>by simp[zg]
 |l::ls,p=>by
  rw[zg,Ur,Ql];constructor
  ·rintro(h | ⟨q,h,rfl⟩)
   ·exact(zD.mp h).cons _
   ·exact(zD.mp h).cons₂ _
  ·intro h;cases h with
   |cons _ h=>exact .inl (zD.mpr h)
   |cons_cons _ h=>exact .inr ⟨_,zD.mpr h,rfl⟩
theorem je:∀{ls:List Nat},ls.Nodup->(zg ls).Nodup
 | [],_=>by simp[zg]
 |l::ls,h=>by
  have h':=Uv.mp h;rw[zg];refine Zq.mpr ⟨je h'.2,?_,?_⟩
  ·have:=je h'.2
   exact Zr.mpr (this.imp λ{a b} w6 e=>w6 (List.cons.inj e).2)
  ·intro a ha b hb e;subst e;obtain⟨q,hq,rfl⟩:=Ql.mp hb;exact h'.1 ((zD.mp ha).subset Y7)
noncomputable def zi:Nat->List Bool->List Bool
 |0,t=>t
 |n+1,t=>zi n (t.take (2^n))++List.zipWith (· != ·) (zi n (t.take (2^n))) (zi n (t.drop (2^n)))
theorem qS:∀(n:Nat)(t:List Bool),t.length=2^n->(zi n t).length=2^n
 |0,t,h=>h
 |n+1,t,h=>by
  have hp:2^(n+1)=2^n+2^n:=by rw[Qk];omega
  have h1:(t.take (2^n)).length=2^n:=by rw[Uc];omega
  have h2:(t.drop (2^n)).length=2^n:=by rw[Ue];omega
  rw[zi,Za,Yv,qS n _ h1,qS n _ h2];omega
noncomputable def look(ρ:Nat->Bool):List Nat->List Bool->Bool
 | [],t=>t.headD false
 |l::ls,t=>if ρ l=true then look ρ ls (t.drop (2^ls.length)) else look ρ ls (t.take (2^ls.length))
noncomputable def pol(ρ:Nat->Bool):List Nat->List Bool->Bool
 | [],t=>t.headD false
 |l::ls,t=>xor (pol ρ ls (t.take (2^ls.length))) (ρ l && pol ρ ls (t.drop (2^ls.length)))
theorem qai(f:Bool->Bool->Bool)(ρ:Nat->Bool):∀(ls:List Nat)(t u:List Bool),t.length=2^ls.length->u.length=2^ls.length->look ρ ls (List.zipWith f t u)=f (look ρ ls t) (look ρ ls u)
 | [],[a],[b],_,_=>rfl
 |l::ls,t,u,ht,hu=>by
  rw[Ua,Qk] at ht hu;rw[look,look,look];by_cases h:ρ l=true
  ·rw[Vh h,Vh h,Vh h,List.drop_zipWith];exact qai f ρ ls _ _ (by rw[Ue];omega) (by rw[Ue];omega)
  ·rw[Vi h,Vi h,Vi h,List.take_zipWith];exact qai f ρ ls _ _ (by rw[Uc];omega) (by rw[Uc];omega)
theorem vR(ρ:Nat->Bool):∀(ls:List Nat)(t:List Bool),t.length=2^ls.length->look ρ ls (zi ls.length t)=pol ρ ls t
 | [],t,_=>rfl
 |l::ls,t,h=>by
  rw[Ua,Qk] at h;have h1:(t.take (2^ls.length)).length=2^ls.length:=by rw[Uc];omega
  have h2:(t.drop (2^ls.length)).length=2^ls.length:=by rw[Ue];omega
  have s1:=qS ls.length _ h1;have s2:=qS ls.length _ h2;have e1:(zi (ls.length+1) t).take (2^ls.length)=zi ls.length (t.take (2^ls.length)):=by
   rw[zi,Xc (by omega),XH (by omega)]
  have e2:(zi (ls.length+1) t).drop (2^ls.length)=List.zipWith (· != ·) (zi ls.length (t.take (2^ls.length))) (zi ls.length (t.drop (2^ls.length))):=by
   rw[zi,Xd (by omega),XI (by omega),U0]
  rw[look,pol,Ua,e1,e2];rw[qai (· != ·) ρ ls _ _ s1 s2,vR ρ ls _ h1,vR ρ ls _ h2];cases ρ l <;> simp <;> cases pol ρ ls (t.take (2^ls.length)) <;> cases pol ρ ls (t.drop (2^ls.length)) <;> rfl
theorem qbP:∀(n:Nat)(t u:List Bool),t.length=2^n->u.length=2^n->zi n (List.zipWith (· != ·) t u)=List.zipWith (· != ·) (zi n t) (zi n u)
 |0,t,u,_,_=>rfl
 |n+1,t,u,ht,hu=>by
  have hp:2^(n+1)=2^n+2^n:=by rw[Qk];omega
  have t1:(t.take (2^n)).length=2^n:=by rw[Uc];omega
  have t2:(t.drop (2^n)).length=2^n:=by rw[Ue];omega
  have u1:(u.take (2^n)).length=2^n:=by rw[Uc];omega
  have u2:(u.drop (2^n)).length=2^n:=by rw[Ue];omega
  rw[zi,zi,zi,List.take_zipWith,List.drop_zipWith,qbP n _ _ t1 u1,qbP n _ _ t2 u2];rw[List.zipWith_append (by rw[qS n _ t1,qS n _ u1])];congr 1
  have q:∀(a b c d:List Bool),List.zipWith (· != ·) (List.zipWith (· != ·) a b) (List.zipWith (· != ·) c d)=List.zipWith (· != ·) (List.zipWith (· != ·) a c) (List.zipWith (· != ·) b d):=by
   intro a;induction a with
   |nil=>intro b c d;simp
   |cons x a ih =>
    intro b c d;cases b with
    |nil=>cases c <;> simp
    |cons y b =>
     cases c with
     |nil=>simp
     |cons z c =>
      cases d with
      |nil=>simp
      |cons w d =>
       simp only[List.zipWith_cons_cons,ih];cases x <;> cases y <;> cases z <;> cases w <;> rfl
  exact q _ _ _ _
theorem qaj:∀(a b:List Bool),a.length=b.length->List.zipWith (· != ·) a (List.zipWith (· != ·) a b)=b
 | [],[],_=>rfl
 |x::a,y::b,h=>by
  simp only[List.zipWith_cons_cons];rw[qaj a b (by simpa using h)];cases x <;> cases y <;> rfl
theorem qaU:∀(n:Nat)(t:List Bool),t.length=2^n->zi n (zi n t)=t
 |0,t,_=>rfl
 |n+1,t,h=>by
  have hp:2^(n+1)=2^n+2^n:=by rw[Qk];omega
  have t1:(t.take (2^n)).length=2^n:=by rw[Uc];omega
  have t2:(t.drop (2^n)).length=2^n:=by rw[Ue];omega
  have s1:=qS n _ t1;have s2:=qS n _ t2;have e1:(zi (n+1) t).take (2^n)=zi n (t.take (2^n)):=by
   rw[zi,Xc (by omega),XH (by omega)]
  have e2:(zi (n+1) t).drop (2^n)=List.zipWith (· != ·) (zi n (t.take (2^n))) (zi n (t.drop (2^n))):=by
   rw[zi,Xd (by omega),XI (by omega),U0]
  conv=>lhs;rw[zi]
  rw[e1,e2,qbP n _ _ s1 s2,qaU n _ t1,qaU n _ t2,qaj _ _ (by omega)];exact XV _ _
noncomputable def yb(ls:List Nat)(t:List Bool):List Pr:=((zg ls).zip t).filterMap λ x=>if x.2=true then some x.1 else none
theorem jD(ρ:Nat->Bool):∀(ls:List Nat)(t:List Bool),t.length=2^ls.length->qC ρ (yb ls t)=pol ρ ls t
 | [],[b],_=>by cases b <;> simp[yb,zg,qC,pol]
 |l::ls,t,h=>by
  rw[Ua,Qk] at h;have h1:(t.take (2^ls.length)).length=2^ls.length:=by rw[Uc];omega
  have h2:(t.drop (2^ls.length)).length=2^ls.length:=by rw[Ue];omega
  have e:yb (l::ls) t=yb ls (t.take (2^ls.length))++(yb ls (t.drop (2^ls.length))).map (l::·):=by
   unfold yb;rw[zg]
   conv=>lhs;rw[<- XV (2^ls.length) t]
   rw[U1 (by rw[qW];omega),XW];congr 1
   rw[List.zip_map_left,List.filterMap_map,List.map_filterMap];congr 1
   funext x
   obtain⟨a,b⟩:=x;cases b <;> rfl
  have m:∀ F:List Pr,qC ρ (F.map (l::·))=(ρ l && qC ρ F):=by
   intro F;induction F with
   |nil=>simp[qC]
   |cons p F ih =>
    show xor ((l::p).all ρ) _=_
    rw[ih,List.all_cons];show _=(ρ l && xor (p.all ρ) (qC ρ F))
    cases ρ l <;> simp
  rw[e,jB,m,jD ρ ls _ h1,jD ρ ls _ h2,pol]
theorem qbQ{ls:List Nat}{t:List Bool}{p:Pr}(h:p∈yb ls t):p.Sublist ls:=by
 unfold yb at h;obtain⟨x,hx,e⟩:=List.mem_filterMap.mp h;split at e
 ·cases e;exact zD.mp (Uw hx).1
 ·cases e
theorem jE:∀(P:List Pr)(t:List Bool),((P.zip t).filterMap λ x=>if x.2=true then some x.1 else none).Sublist P
 | [],t=>by simp
 |p::P,[]=>by simp
 |p::P,b::t=>by
  rw[Zc,Yq];cases b with
  |true=>exact(jE P t).cons₂ _
  |false=>exact(jE P t).cons _
theorem qak{ls:List Nat}(t:List Bool)(h:ls.Nodup):(yb ls t).Nodup:=(je h).sublist (jE _ _)
theorem qbR(F:List Pr):∀(P:List Pr),((P.zip (P.map λ p=>F.contains p)).filterMap λ x=>if x.2=true then some x.1 else none)=P.filter λ p=>F.contains p
 | []=>rfl
 |p::P=>by
  rw[Jz,Zc,Yq,qbR F P];cases h:F.contains p with
  |true=>rw[X6 h];rfl
  |false=>rw[X7 (by rw[h];exact Y8)];rfl
theorem qez(ρ:Nat->Bool){ls:List Nat}{F:List Pr}(hl:ls.Nodup)(hF:F.Nodup)(h:∀ p∈F,p.Sublist ls):
  look ρ ls (zi ls.length ((zg ls).map λ p=>F.contains p))=qC ρ F:=by
 have len:((zg ls).map λ p=>F.contains p).length=2^ls.length:=by rw[Ut,qW]
 rw[vR ρ ls _ len,<- jD ρ ls _ len];refine jC ρ ?_;unfold yb;rw[qbR,Xj ((je hl).filter _) hF];intro p;rw[Uq,zD,XU];exact⟨λ x=>x.2,λ x=>⟨h p x,x⟩⟩
theorem plt_total{a b:Pr}(h1:¬ a<b)(h2:¬ b<a):a=b:=List.le_antisymm (List.not_lt.mp h2) (List.not_lt.mp h1)
noncomputable def ins(a:Pr):List Pr->List Pr
 | []=>[a]
 |b::l=>if b<a then b::ins a l else a::b::l
noncomputable def srt:List Pr->List Pr
 | []=>[]
 |a::l=>ins a (srt l)
theorem qbS(a:Pr):∀ l:List Pr,(ins a l).Perm (a::l)
 | []=>Jl _
 |b::l=>by
  rw[ins];split
  ·exact((qbS a l).cons b).trans (List.Perm.swap a b l)
  ·exact Jl _
theorem zQ:∀ l:List Pr,(srt l).Perm l
 | []=>Jl _
 |a::l=>(qbS a (srt l)).trans ((zQ l).cons a)
theorem qiw(a:Pr):∀{l:List Pr},l.Pairwise (λ x y=>¬ y<x)->(ins a l).Pairwise (λ x y=>¬ y<x)
 | [],_=>by simp[ins]
 |b::l,h=>by
  have h':=Zb.mp h;rw[ins];split
  ·rename_i hb;refine Zb.mpr ⟨λ x hx=>?_,qiw a h'.2⟩;rcases Jy.mp ((qbS a l).mem_iff.mp hx) with e | e
   ·rw[e];exact qiv _ _ hb
   ·exact h'.1 x e
  ·rename_i hb;refine Zb.mpr ⟨λ x hx=>?_,h⟩;rcases Jy.mp hx with e | e
   ·rw[e];exact hb
   ·intro sI;have p4:=h'.1 x e
    have:x<b:=by
     by_cases w6:a<b
     ·exact List.lt_trans sI w6
     ·have:=plt_total w6 hb
      rw[<- this];exact sI
    exact p4 this
theorem qdI:∀ l:List Pr,(srt l).Pairwise (λ x y=>¬ y<x)
 | []=>List.Pairwise.nil
 |a::l=>qiw a (qdI l)
theorem qc6:∀{l m:List Pr},l.Perm m->l.Pairwise (λ x y=>¬ y<x)->m.Pairwise (λ x y=>¬ y<x)->l=m
 | [],m,h,_,_=>h.nil_eq
 |a::l,m,h,hl,hm=>by
  cases m with
  |nil=>exact absurd h.length_eq (by simp)
  |cons b m =>
   have V2:=Zb.mp hl;have lL:=Zb.mp hm;have ab:a=b:=by
    rcases Jy.mp (h.mem_iff.mp Y7) with e|e
    ·exact e
    ·rcases Jy.mp (h.mem_iff.mpr Y7) with e' | e'
     ·exact e'.symm
     ·exact plt_total (lL.1 a e) (V2.1 b e')
   subst ab;rw[qc6 (List.Perm.cons_inv h) V2.2 lL.2]
theorem srt_of{l m:List Pr}(h:l.Perm m)(hl:l.Pairwise (λ x y=>¬ y<x)):l=srt m:=qc6 (h.trans (zQ m).symm) hl (qdI m)
theorem qbT{l:List Pr}(h:l.Nodup):(srt l).Pairwise (·<·):=by
 have nd:(srt l).Nodup:=(zQ l).nodup_iff.mpr h
 have:=qdI l
 exact(this.and nd).imp λ{a b} w6=>Classical.byContradiction λ hn=>w6.2 (plt_total hn w6.1)
theorem vT{l:List Pr}{p:Pr}:p∈srt l ↔ p∈l:=(zQ l).mem_iff
theorem srt_perm_eq{l m:List Pr}(h:l.Perm m):srt l=srt m:=srt_of ((zQ l).trans h) (qdI l)
noncomputable def added(F G:List Pr):List Pr:=srt (qey F G)
theorem qeA{F G:List Pr}(hF:Vf F)(hG:Vf G):Vf (added F G):=⟨qbT (qbO hF.nodup hG.nodup),λ p hp=>by
 rcases qbN.mp (vT.mp hp) with⟨a,_⟩|⟨a,_⟩
 ·exact hF.prod p a
 ·exact hG.prod p a⟩
theorem yD(ρ:Nat->Bool){F G:List Pr}(hF:Vf F)(hG:Vf G):qC ρ (added F G)=xor (qC ρ F) (qC ρ G):=by
 rw[added,jC ρ (zQ _),qfM ρ hF.nodup hG.nodup]
noncomputable def ki{α:Type}[DecidableEq α]:List α->List α
 | []=>[]
 |a::l=>a::(ki l).filter λ b=>decide (b≠a)
theorem vU{α:Type}[DecidableEq α]{x:α}:∀{l:List α},x∈ki l ↔ x∈l
 | []=>by simp[ki]
 |a::l=>by
  rw[ki,Jy,Uq,vU,Jy];constructor
  ·rintro(h | h)
   ·exact .inl h
   ·exact .inr h.1
  ·rintro(h | h)
   ·exact .inl h
   ·by_cases e:x=a
    ·exact .inl e
    ·exact .inr ⟨h,by simpa using e⟩
theorem vh{α:Type}[DecidableEq α]:∀(l:List α),(ki l).Nodup
 | []=>by simp[ki]
 |a::l=>by
  rw[ki];refine Uv.mpr ⟨λ h=>?_,(vh l).filter _⟩
  have:=(Uq.mp h).2
  simp at this
noncomputable def qG(F:List Pr):List Nat:=(srt (ki (F.flatten.map λ c=>[c]))).flatten
theorem qka{l:List Pr}(h:∀ p∈l,∃ c,p=[c]):l=l.flatten.map λ c=>[c]:=by
 induction l with
 |nil=>rfl
 |cons p l ih =>
  obtain⟨c,hc⟩:=h p Y7;subst hc;rw[Zo,U2,<- ih λ q hq=>h q (Yf _ hq)];rfl
theorem yS(F:List Pr):srt (ki (F.flatten.map λ c=>[c]))=(qG F).map λ c=>[c]:=by
 refine qka λ p hp=>?_
 obtain⟨c,_,e⟩:=Ql.mp (vU.mp (vT.mp hp));exact⟨c,e.symm⟩
theorem jf{F:List Pr}{c:Nat}:c∈qG F ↔ ∃ p∈F,c∈p:=by
 have h:[c]∈(qG F).map (λ c=>[c]) ↔ c∈qG F:=by
  rw[Ql];exact⟨λ ⟨d,hd,e⟩=>by cases e;exact hd,λ hd=>⟨c,hd,rfl⟩⟩
 rw[<- h,<- yS,vT,vU,Ql];constructor
 ·rintro⟨d,hd,e⟩;cases e
  exact(List.mem_flatten.mp hd).imp λ p hp=>⟨hp.1,hp.2⟩
 ·rintro⟨p,hp,hc⟩;exact⟨c,List.mem_flatten.mpr ⟨p,hp,hc⟩,rfl⟩
theorem zy(F:List Pr):(qG F).Pairwise (·<·):=by
 have h:=qbT (vh (F.flatten.map λ c=>[c]));rw[yS,Zr] at h;refine h.imp λ{a b} w6=>?_
 cases w6 with
 |rel h=>exact h
 |cons h=>cases h
theorem vi:∀{ls p:List Nat},ls.Pairwise (·<·)->p.Pairwise (·<·)->(∀ x∈p,x∈ls)->p.Sublist ls
 |_,[],_,_,_=>List.nil_sublist _
 | [],x::p,_,_,h=>absurd (h x Y7) (by simp)
 |l::ls,x::p,hl,hp,h=>by
  have V2:=Zb.mp hl;have B4:=Zb.mp hp;rcases Jy.mp (h x Y7) with e|e
  ·subst e;refine(vi V2.2 B4.2 λ y hy=>?_).cons₂ x;rcases Jy.mp (h y (Yf _ hy)) with e | e
   ·subst e;exact absurd (B4.1 _ hy) (Jx _)
   ·exact e
  ·refine(vi V2.2 hp λ y hy=>?_).cons l;rcases Jy.mp (h y hy) with e' | e'
   ·subst e';rcases Jy.mp hy with q | q
    ·subst q;exact e
    ·exact absurd (B4.1 _ q) (Nat.lt_asymm (V2.1 _ e))
   ·exact e'
noncomputable def jF(F:List Pr)(ls:List Nat):List Bool:=zi ls.length ((zg ls).map λ p=>F.contains p)
theorem zv(F:List Pr)(ls:List Nat):(jF F ls).length=2^ls.length:=qS _ _ (by rw[Ut,qW])
theorem qbU(ρ:Nat->Bool){ls:List Nat}{F:List Pr}(hl:ls.Pairwise (·<·))(hF:Vf F)(h:∀ p∈F,∀ c∈p,c∈ls):look ρ ls (jF F ls)=qC ρ F:=
 qez ρ (zx Jx hl) hF.nodup λ p hp=>vi hl (hF.prod p hp) (h p hp)
noncomputable def qaV(ls:List Nat)(t:List Bool):List Pr:=srt (yb ls (zi ls.length t))
theorem qhr{ls:List Nat}(hl:ls.Pairwise (·<·))(t:List Bool):Vf (qaV ls t):=
 ⟨qbT (qak _ (zx Jx hl)),λ p hp=>hl.sublist (qbQ (vT.mp hp))⟩
theorem qdJ(ρ:Nat->Bool){ls:List Nat}{t:List Bool}(ht:t.length=2^ls.length):qC ρ (qaV ls t)=look ρ ls t:=by
 rw[qaV,jC ρ (zQ _),jD ρ ls _ (qS _ _ ht),<- vR ρ ls _ (qS _ _ ht),qaU _ _ ht]
theorem qbV{ls:List Nat}{t:List Bool}{p:Pr}(hp:p∈qaV ls t):p.Sublist ls:=qbQ (vT.mp hp)
noncomputable def mult(F G:List Pr):List Pr:=qaV (qG (F++G)) (List.zipWith (· && ·) (jF F (qG (F++G))) (jF G (qG (F++G))))
theorem qgJ(F G:List Pr):Vf (mult F G):=qhr (zy _) _
theorem qbW(ρ:Nat->Bool){F G:List Pr}(hF:Vf F)(hG:Vf G):qC ρ (mult F G)=(qC ρ F && qC ρ G):=by
 rw[mult,qdJ ρ (by rw[Yv,zv,zv,Nat.min_self]),qai _ ρ _ _ _ (zv _ _) (zv _ _),
  qbU ρ (zy _) hF λ p hp c hc=>jf.mpr ⟨p,Yg _ hp,hc⟩,qbU ρ (zy _) hG λ p hp c hc=>jf.mpr ⟨p,XN _ hp,hc⟩]
noncomputable def opp(F:List Pr):List Pr:=added F [[]]
noncomputable def join(F G:List Pr):List Pr:=added (added F G) (mult F G)
theorem qix:Vf [[]]:=⟨by simp,by simp⟩
theorem qlu:Vf []:=⟨List.Pairwise.nil,by simp⟩
theorem qhs(ρ:Nat->Bool){F:List Pr}(hF:Vf F):qC ρ (opp F)=!qC ρ F:=by
 rw[opp,yD ρ hF qix];simp[qC]
theorem qbX(ρ:Nat->Bool){F G:List Pr}(hF:Vf F)(hG:Vf G):qC ρ (join F G)=(qC ρ F || qC ρ G):=by
 rw[join,yD ρ (qeA hF hG) (qgJ F G),yD ρ hF hG,qbW ρ hF hG];cases qC ρ F <;> cases qC ρ G <;> rfl
end Fs
namespace L2
open PySem PySem.Spec PyProof.Rows
noncomputable def jG(env:Env):List (Str×NameKind)->List (Str×Addr)->List (Str×Addr)
 | [],c6=>c6
 |(n,k)::r,c6=>jG env r (if (k == NameKind.free)=true then(n,(env.cells.lookup n).getD 0)::c6 else c6)
theorem qbY(env:Env):∀(l:List (Str×NameKind))(c6:List (Str×Addr)),(∀ y∈l,y.2=.free->∃ c,env.cells.lookup y.1=some c) ->
  (forIn l c6 λ(x:Str×NameKind)(cs:List (Str×Addr))=>match x with
   |(name,kind)=>if (kind == NameKind.free)=true then do let a <- cellOf env name;pure (ForInStep.yield ((name,a)::cs)) else pure (ForInStep.yield cs):Sem (List (Str×Addr)))=pure (jG env l c6)
 | [],c6,_=>by rw[List.forIn_nil];rfl
 |(n,k)::r,c6,h=>by
  rw[List.forIn_cons];by_cases hk:(k == NameKind.free)=true
  ·obtain⟨c,hc⟩:=h (n,k) Y7 (by simpa using hk);have e:cellOf env n=pure c:=by unfold cellOf;rw[show env.cells.lookup n=some c from hc]
   simp only[hk,Vd,e,pure_bind];rw[qbY env r _ λ y hy=>h y (Yf _ hy)];rw[jG,Vh hk,show env.cells.lookup n=some c from hc];rfl
  ·have G1:(k == NameKind.free)=false:=by simpa using hk
   simp only[G1,Zd,Q7,pure_bind];rw[qbY env r _ λ y hy=>h y (Yf _ hy),jG,Vi hk]
theorem jo{scope:Scope}{env:Env}(h:∀ y∈scope.names,y.2=.free->∃ c,env.cells.lookup y.1=some c):closureFor scope env=pure (jG env scope.names []):=by
 unfold closureFor
 have:=qbY env scope.names [] h
 simp only[bind_pure];exact this
theorem qbZ(env:Env):∀(l:List (Str×NameKind))(c6:List (Str×Addr)),(∀ y∈l,y.2=.free->∃ c,env.cells.lookup y.1=some c)->(∀ x c,c6.lookup x=some c->env.cells.lookup x=some c) ->
  ∀ x c,(jG env l c6).lookup x=some c->env.cells.lookup x=some c
 | [],c6,_,ha,x,c,e=>ha x c e
 |(n,k)::r,c6,h,ha,x,c,e=>by
  rw[jG] at e;refine qbZ env r _ (λ y hy=>h y (Yf _ hy)) ?_ x c e;clear e;intro x c e;by_cases hk:(k == NameKind.free)=true
  ·rw[Vh hk] at e;obtain⟨c',hc⟩:=h (n,k) Y7 (by simpa using hk);rw[show env.cells.lookup n=some c' from hc] at e;rw[Ug] at e;by_cases hx:(x == n)=true
   ·rw[hx] at e
    have:x=n:=by simpa using hx
    subst this;cases e
    exact hc
   ·rw[show(x == n)=false by simpa using hx] at e;exact ha x c e
  ·rw[Vi hk] at e;exact ha x c e
theorem qeB(env:Env):∀(l:List (Str×NameKind))(c6:List (Str×Addr))(x:Str),(c6.lookup x).isSome=true->((jG env l c6).lookup x).isSome=true
 | [],_,_,h=>h
 |(n,k)::r,c6,x,h=>by
  rw[jG];refine qeB env r _ x ?_;by_cases hk:(k == NameKind.free)=true
  ·rw[Vh hk,Ug];cases x == n with
   |true=>rfl
   |false=>exact h
  ·rw[Vi hk];exact h
theorem qb0(env:Env):∀(l:List (Str×NameKind))(c6:List (Str×Addr))(x:Str),(x,NameKind.free)∈l->((jG env l c6).lookup x).isSome=true
 |(n,k)::r,c6,x,h=>by
  rw[jG];rcases Jy.mp h with e|e
  ·cases e
   refine qeB env r _ _ ?_;rw[Vh (by decide),Ug];simp only[beq_self_eq_true,Option.isSome_some]
  ·exact qb0 env r _ x e
noncomputable def zp(X:Cx)(NY:List Str)(scope:Scope)(C:Addr)(s:Shared)(H:Hp)(fp:List Addr)(pins:List (Addr×Obj)):Cx:=
 { X with N:=NY,s₀:=s,H₀:=H,env:=compEnvC scope (jG X.env scope.names []) C X.env,outer:=X.stack,ex:=fp,fn:=λ _=>false,pn:=X.pn++pins,xe:=λ _ _=>False }
structure CompScope(X:Cx)(NY:List Str)(o:Nat)(caps:List Nat)(scope:Scope):Prop where
 kind:scope.kind=.function
 nd:NY.Nodup
 nocell:∀ y∈scope.names,y.2≠.cell
 frees:∀ y∈scope.names,y.2=.free->(X.env.kindOf y.1=some .cell∨X.env.kindOf y.1=some .free)
 locs:∀ y∈scope.names,y.2=.local->scope.names.lookup y.1=some .local
 capOk:∀(j:Nat)(i:Nat),caps[j]?=some i->∃ x,NY[o+j]?=some x/\X.N[i]?=some x/\scope.names.lookup x=some .free
 len:NY.length=o+caps.length
noncomputable def stY(o:Nat)(caps:List Nat)(σ:St):St:=List.replicate o none++caps.map λ i=>(σ[i]?).getD none
theorem qal{env:Env}:∀{names:List (Str×NameKind)}{x:Str},names.lookup x=some .free ->
  (names.map λ(n,k)=>if (k == NameKind.free && env.scope.kind == .function && env.kindOf n == some .cell) then(n,NameKind.cell) else(n,k)).lookup x=some .cell ∨
  (names.map λ(n,k)=>if (k == NameKind.free && env.scope.kind == .function && env.kindOf n == some .cell) then(n,NameKind.cell) else(n,k)).lookup x=some .free
 | [],_,h=>by simp at h
 |(n,k)::r,x,h=>by
  have ih:=@qal env r x;show List.lookup x ((if (k == NameKind.free && env.scope.kind == .function && env.kindOf n == some .cell)=true then(n,NameKind.cell) else(n,k))::_)=_∨List.lookup x ((if (k == NameKind.free && env.scope.kind == .function && env.kindOf n == some .cell)=true then(n,NameKind.cell) else(n,k))::_)=_
  cases hx:x == n with
  |true =>
   simp only[Ug,hx] at h;cases h
   by_cases hc:(NameKind.free == NameKind.free && env.scope.kind == .function && env.kindOf n == some .cell)=true
   ·rw[Vh hc];left;simp only[Ug,hx]
   ·rw[Vi hc];right;simp only[Ug,hx]
  |false =>
   simp only[Ug,hx] at h;by_cases hc:(k == NameKind.free && env.scope.kind == .function && env.kindOf n == some .cell)=true
   ·rw[Vh hc];simp only[Ug,hx];exact ih h
   ·rw[Vi hc];simp only[Ug,hx];exact ih h
theorem kF{env:Env}:∀{names:List (Str×NameKind)}{x:Str}{k:NameKind},(∀ y∈names,y.2≠.cell) ->
  (names.map λ(n,k)=>if (k == NameKind.free && env.scope.kind == .function && env.kindOf n == some .cell) then(n,NameKind.cell) else(n,k)).lookup x=some k->(k=.cell∨k=.free)->names.lookup x=some .free
 | [],_,_,_,h,_=>by simp at h
 |(n,k0)::r,x,k,nc,h,hk=>by
  have ih:=@kF env r x k (λ y hy=>nc y (Yf _ hy));replace h:List.lookup x ((if (k0 == NameKind.free && env.scope.kind == .function && env.kindOf n == some .cell)=true then(n,NameKind.cell) else(n,k0))::(r.map λ(n,k)=>if (k == NameKind.free && env.scope.kind == .function && env.kindOf n == some .cell) then(n,NameKind.cell) else(n,k)))=some k:=h;have n0:k0≠.cell:=nc (n,k0) Y7;cases hx:x == n with
  |true =>
   by_cases hc:(k0 == NameKind.free && env.scope.kind == .function && env.kindOf n == some .cell)=true
   ·have:k0=.free:=by
     simp only[Uf] at hc;simpa using hc.1.1
    simp only[Ug,hx,this]
   ·rw[Vi hc] at h;simp only[Ug,hx] at h ⊢;cases h
    rcases hk with e|e
    ·exact absurd e n0
    ·rw[e]
  |false =>
   by_cases hc:(k0 == NameKind.free && env.scope.kind == .function && env.kindOf n == some .cell)=true
   ·rw[Vh hc] at h;simp only[Ug,hx] at h ⊢;exact ih h hk
   ·rw[Vi hc] at h;simp only[Ug,hx] at h ⊢;exact ih h hk
theorem Un.but{fs ex:List Addr}{H H':Hp}{h h1 h2:Heap}{C:Addr}(u:Un fs ex H H' h h1)(hs:Heap.SameBut C h1 h2)(hC:h.objs.size<=C):Un fs ex H H' h h2:=by
 have ne:∀ b o,h.get? b=some o->b≠C:=λ b o e z=>by subst z;exact absurd (Y6 (Qd e) hC) (Jx _)
 refine⟨λ b o e n hb hx=>(hs.2 b (ne b o e)).trans (u.keep b o e n hb hx),λ b o e n hb hx=>?_,u.free,λ b o e hx=>?_,u.tups,u.frzs,u.tbls⟩
 ·obtain⟨sl,q⟩:=u.slot b o e n hb hx;exact⟨sl,(hs.2 b (ne b o e)).trans q⟩
 ·obtain⟨o',q⟩:=u.there b o e hx;exact⟨o',(hs.2 b (ne b o e)).trans q⟩
theorem HOk.but{P:Program}{w:World}{H:Hp}{h h':Heap}{C:Addr}(ok:HOk P w H h)(hs:Heap.SameBut C h h')(hC:H C=none):HOk P w H h':=λ a o e=>by
 refine(ok a o e).stay (λ b u hb q=>(hs.2 b ?_).trans q) (λ _ q=>q) λ _ _ q=>q
 rcases hb with z|z
 ·rw[z];exact λ y=>by rw[y,hC] at e;cases e
 ·exact λ y=>by rw[y,hC] at z;cases z
abbrev Adv:=Nat->St->Hp->(St->Hp->Prop)->Prop
structure Walk(Y:Cx)(tg:Expr)(fp:List Addr)(it:Addr)(tn:Nat->Heap->Prop)(adv:Adv)(stop:Nat->Hp->Prop):Prop where
 obj:∀ i h,tn i h->∀ b∈fp,∃ o,h.get? b=some o/\∀ v,o.data≠.cell v
 keep:∀ i h h',tn i h->(∀ b∈fp,∀ o,h.get? b=some o->h'.get? b=some o)->tn i h'
 item:∀(i:Nat)(pins:List (Addr×Obj))(s:Shared)(σ:St)(H:Hp)(N:St->Hp->Prop),Inv Y pins σ H s->(∀ b∈fp,jw Y pins H b)->tn i s.heap->adv i σ H N ->
  wpAny (model Y.prog Y.w) Y.A (pyNext (.ref it)) (λ r s1=>∃ u,r=some u/\wpAny (model Y.prog Y.w) Y.A (letOwnedTupleGo tg (.ref it) u) (λ _ s2 =>
   wpAny (model Y.prog Y.w) Y.A (assign tg Y.env u) (λ _ s3=>∃ σ' H',Inv Y pins σ' H' s3/\N σ' H'/\tn (i+1) s3.heap/\∀ b∈fp,H' b=none) Y.xe s2) Y.xe s1) Y.xe s
 done:∀(i:Nat)(pins:List (Addr×Obj))(s:Shared)(σ:St)(H:Hp),Inv Y pins σ H s->(∀ b∈fp,jw Y pins H b)->tn i s.heap->stop i H ->
  wpAny (model Y.prog Y.w) Y.A (pyNext (.ref it)) (λ r s1=>r=none/\Inv Y pins σ H s1) Y.xe s
 self:∀(A:Around)(i:Nat)(s:Shared)(Q:Value->Shared->Prop)(E:Value->Shared->Prop),tn i s.heap->Q (.ref it) s->wpAny (model Y.prog Y.w) A (pyIter (.ref it)) Q E s
theorem zV{Y:Cx}{tg:Expr}{fp:List Addr}{tn:Nat->Heap->Prop}{pins:List (Addr×Obj)}{s5 s6:Shared}{σ6:St}{H6:Hp}{i:Nat}(obj:∀ b∈fp,∃ o,s5.heap.get? b=some o/\∀ v,o.data≠.cell v)(keep:∀ h',(∀ b∈fp,∀ o,s5.heap.get? b=some o->h'.get? b=some o)->tn i h')(I6:Inv Y (pins++j9 fp s5.heap) σ6 H6 s6):Inv Y pins σ6 H6 s6/\tn i s6.heap/\∀ b∈fp,H6 b=none:=by
 refine⟨I6.unpinned,keep _ λ b hb o e=>(I6.pin (b,o) (XN _ (XN _ (yj hb e)))).1,λ b hb=>?_⟩;obtain⟨o,e,d⟩:=obj b hb;exact(I6.pin (b,o) (XN _ (XN _ (yj hb e)))).2.1
def qc7(J:It)(g:TG):Adv:=λ i σ H N=>J.go i H/\∀ x H',J.yld i H x H'->g x σ H' N
theorem Turn.walk{Y:Cx}{tg:Expr}{J:It}{fp:List Addr}{it:Addr}{tn:Nat->Heap->Prop}{g:TG}(hc:Y.calm=true)(T:Turn Y.prog Y.w Y.K tg J fp it tn)(hg:PG Y tg g):Walk Y tg fp it tn (qc7 J g) J.stop where
 obj:=T.obj
 keep:=T.keep
 item:=by
  intro i pins s σ H N I hf st ⟨go,step⟩;refine thn (T.item Y rfl rfl rfl hc i pins s σ H Y.xe I hf st go) λ r s4 ⟨u,hr,h4⟩=>⟨u,hr,?_⟩
  refine thn h4 λ _ s5 ⟨x,H5,I5,r5,y5,M7,iH⟩=>?_
  have I5':=I5.pinned (fp:=fp) (λ b hb=>⟨iH b hb,(hf b hb).2⟩) (T.obj _ _ M7);refine thn (hg _ s5 σ H5 x u _ I5' r5 (step x H5 y5)) λ _ s6 ⟨σ6,H6,I6,q6⟩=>?_
  obtain⟨J1,J2,J3⟩:=zV (tg:=tg) (tn:=tn) (i:=i+1) (T.obj _ _ M7) (λ h' k=>T.keep _ _ _ M7 k) I6;exact⟨σ6,H6,J1,q6,J2,J3⟩
 done:=λ i pins s σ H I hf st hs=>T.done Y rfl rfl rfl hc i pins s σ H Y.xe I hf st hs
 self:=T.self
structure It2 where 
 go:Nat->Hp->Prop
 yld:Nat->Hp->List V->Hp->Prop
 stop:Nat->Hp->Prop
structure Turn2(P:Program)(w:World)(K:W.Frag)(tg:Expr)(J:It2)(fp:List Addr)(it:Addr)(tn:Nat->Heap->Prop):Prop where
 obj:∀ i h,tn i h->∀ b∈fp,∃ o,h.get? b=some o/\∀ v,o.data≠.cell v
 keep:∀ i h h',tn i h->(∀ b∈fp,∀ o,h.get? b=some o->h'.get? b=some o)->tn i h'
 item:∀(X:Cx),X.prog=P->X.w=w->X.K=K->X.calm=true->∀(i:Nat)(pins:List (Addr×Obj))(s:Shared)(σ:St)(H:Hp)(E:Value->Shared->Prop),Inv X pins σ H s->(∀ b∈fp,jw X pins H b)->tn i s.heap->J.go i H ->
  wpAny (model P w) X.A (pyNext (.ref it)) (λ r s1=>∃ p,r=some (.ref p) /\
   wpAny (model P w) X.A (letOwnedTupleGo tg (.ref it) (.ref p)) (λ _ s2=>∃ xs us H',Inv X pins σ H' s2/\IsTup s2.heap p us.toArray/\qI xs us/\J.yld i H xs H'/\tn (i+1) s2.heap/\∀ b∈fp,H' b=none) E s1) E s
 done:∀(X:Cx),X.prog=P->X.w=w->X.K=K->X.calm=true->∀(i:Nat)(pins:List (Addr×Obj))(s:Shared)(σ:St)(H:Hp)(E:Value->Shared->Prop),Inv X pins σ H s->(∀ b∈fp,jw X pins H b)->tn i s.heap->J.stop i H ->
  wpAny (model P w) X.A (pyNext (.ref it)) (λ r s1=>r=none/\Inv X pins σ H s1) E s
 self:∀(A:Around)(i:Nat)(s:Shared)(Q:Value->Shared->Prop)(E:Value->Shared->Prop),tn i s.heap->Q (.ref it) s->wpAny (model P w) A (pyIter (.ref it)) Q E s
def qfN(J:It2)(n:Nat)(t:TGs):Adv:=λ i σ H N=>J.go i H/\∀ xs H',J.yld i H xs H'->xs.length=n/\t xs σ H' N
theorem Turn2.walk{Y:Cx}{es:List Expr}{k:Nat}{pos:Pos}{J:It2}{fp:List Addr}{it:Addr}{tn:Nat->Heap->Prop}{t:TGs}{n:Nat}(hc:Y.calm=true)(T:Turn2 Y.prog Y.w Y.K (.Tuple es k pos) J fp it tn)(hg:PGs Y es t)(hn:(assignEach es Y.env).length=n:=by rfl)(C4:(assignEach es Y.env).findIdx? (·.1)=none:=by rfl):Walk Y (.Tuple es k pos) fp it tn (qfN J n t) J.stop where
 obj:=T.obj
 keep:=T.keep
 item:=by
  intro i pins s σ H N I hf st ⟨go,step⟩;refine thn (T.item Y rfl rfl rfl hc i pins s σ H Y.xe I hf st go) λ r s4 ⟨p,hr,h4⟩=>⟨.ref p,hr,?_⟩
  refine thn h4 λ _ s5 ⟨xs,us,H5,I5,ht,r5,y5,M7,iH⟩=>?_
  have I5':=I5.pinned (fp:=fp) (λ b hb=>⟨iH b hb,(hf b hb).2⟩) (T.obj _ _ M7);obtain⟨hl,hw⟩:=step xs H5 y5;refine assign_Tuple_tuple (I5.ok.hd hc) ht (by simp[hn,<- hl,r5.length]) C4 λ h' hx=>?_
  have I6:Inv Y (pins++j9 fp s5.heap) σ H5 { s5 with heap:=h' }:=I5'.kept (t':=s5.toks) λ b o e=>hx b o (Qe (Qd e)) e
  refine thn (hg _ _ σ H5 xs _ N I6 (by simpa using r5) hw) λ _ s6 ⟨σ6,H6,I7,q6⟩=>?_
  obtain⟨J1,J2,J3⟩:=zV (tg:=.Tuple es k pos) (tn:=tn) (i:=i+1) (T.obj _ _ M7) (λ h' k=>T.keep _ _ _ M7 k) I7;exact⟨σ6,H6,J1,q6,J2,J3⟩
 done:=λ i pins s σ H I hf st hs=>T.done Y rfl rfl rfl hc i pins s σ H Y.xe I hf st hs
 self:=T.self
abbrev TI2:=St->Hp->(It2->Hp->Prop)->Prop
def PI2(X:Cx)(tg iter:Expr)(wi:TI2):Prop:=
 ∀(pins:List (Addr×Obj))(s:Shared)(σ:St)(H:Hp)(R:It2->Hp->Prop),Inv X pins σ H s->wi σ H R ->
  wpAny (model X.prog X.w) X.A (eval iter X.env) (λ v s1=>wpAny (model X.prog X.w) X.A (pyIter v) (λ eQ s2 =>
   ∃(it:Addr)(fp:List Addr)(tn:Nat->Heap->Prop)(J:It2)(H':Hp),eQ=.ref it/\Inv X pins σ H' s2/\Turn2 X.prog X.w X.K tg J fp it tn/\tn 0 s2.heap/\(∀ b∈fp,jw X pins H' b)/\R J H') X.xe s1) X.xe s
def PTs(X:Cx)(B0:List Expr)(tt:TT):Prop:=∀(pins:List (Addr×Obj))(s:Shared)(σ:St)(H:Hp)(Q:Bool->Hp->Prop),Inv X pins σ H s->tt σ H Q ->
 wpAny (model X.prog X.w) X.A (forIn B0 true λ c r=>if r=true then do let ok <- isTrue c X.env (eval c X.env);pure (ForInStep.yield ok) else pure (ForInStep.yield r)) (TP X pins σ Q) X.xe s
def qnv:TT:=λ _ H Q=>Q true H
theorem zz{X:Cx}:PTs X [] qnv:=λ _ _ _ H _ I h=>wpAny_tests_nil ⟨H,I,h⟩
theorem qbt{X:Cx}{c:Expr}{tt:TT}(hc:PT X c tt):PTs X [c] tt:=λ pins s σ H Q I h=>wpAny_tests_one (hc pins s σ H Q I h)
section
variable {prog:Program}{w:World}{A:Around}{R:Result->Shared->Prop}{s:Shared}
theorem qam{G2 A5 iter:Expr}{B0:List Expr}{scope:Scope}{pos:Pos}{it c6:Value}{env:Env}(I:Nat->Shared->Prop)(turn:∀ n s,I n s->wpAny (model prog w) A (pyNext it) (λ r s₁=>match r with
   |none=>R (.ok .next) s₁
   |some v=>wpAny (model prog w) A (letOwnedTupleGo A5 it v) (λ _ s₁'=>wpAny (model prog w) A (assign A5 env v) (λ _ s₂ =>
     wpAny (model prog w) A (forIn B0 true λ c r=>if r=true then do let ok <- isTrue c env (eval c env);pure (ForInStep.yield ok) else pure (ForInStep.yield r)) (λ ok s₃ =>
      if ok=true then wpAny (model prog w) A (eval G2 env) (λ x s₄ =>
       wpAny (model prog w) A (call (.builtin "list.append") [c6,x]) (λ _ s₅=>∃ m,m<n/\I m s₅) (λ _ _=>False) s₄) (λ _ _=>False) s₃
      else ∃ m,m<n/\I m s₃) (λ _ _=>False) s₂) (λ _ _=>False) s₁') (λ _ _=>False) s₁) (λ _ _=>False) s)(n:Nat)(h:I n s):
  codeAny (model prog w) A (.compLoop (.ListComp G2 [⟨A5,iter,B0,0⟩] scope pos) 0 it c6 env) R s:=by
 refine codeAny_loop rfl I (λ n s hI=>?_) n h;show wpAny _ A ((compTurn (.ListComp G2 [⟨A5,iter,B0,0⟩] scope pos) 0 it c6 env).onRaise (λ x=>do noteFrame x env;theTreesLotGoes x)) _ _ s
 refine wpAny_noted ?_;rw[compTurn_list];have no:∀{E:Value->Shared->Prop}(x:Value)(s':Shared),False->E x s':=λ _ _ f=>f.elim
 refine Qz (J9 (Qz (Qy (turn n s hI) (λ r s₁ h₁=>?_) no)));cases r with
 |none=>exact Q0 h₁
 |some v =>
  refine Qz (Qy h₁ (λ _ s₁' h₁'=>?_) no);refine Qz (Qy h₁' (λ _ s₂ h₂=>Qz (Qy h₂ (λ ok s₃ h₃=>?_) no)) no);cases ok with
  |false=>exact Q0 ⟨rfl,h₃⟩
  |true =>
   exact Qz (Qz (Qy h₃ (λ x s₄ h₄=>Qz (Qy h₄ (λ _ s₅ h₅=>Q0 (Q0 ⟨rfl,h₅⟩)) no)) no))
end
def Kp(o:Nat)(σ0 σ:St):Prop:=σ.drop o=σ0.drop o/\σ.length=σ0.length
theorem Kp.get{o:Nat}{caps:List Nat}{σ σ2:St}(k:Kp o (stY o caps σ) σ2):∀(j:Nat)(v:V),(stY o caps σ)[j]?=some (some v)->σ2[j]?=some (some v):=by
 intro j v e;by_cases hj:j<o
 ·unfold stY at e;rw[Xn (by simpa using hj),X2,Vh hj] at e;cases e
 ·have e1:(σ2.drop o)[j-o]?=((stY o caps σ).drop o)[j-o]?:=by rw[k.1]
  rw[Ze,Ze,show o+(j-o)=j by omega] at e1;rw[e1];exact e
theorem qlv{o:Nat}{caps:List Nat}{σ:St}{j:Nat}{v:V}(e:(stY o caps σ)[j]?=some (some v)):∃ j' i,j=o+j'/\caps[j']?=some i/\σ[i]?=some (some v):=by
 unfold stY at e;by_cases hj:j<o
 ·rw[Xn (by simpa using hj),X2,Vh hj] at e;cases e
 ·rw[Xi (by simpa using hj),XO,Zl] at e;cases q:caps[j-o]? with
  |none=>rw[q] at e;cases e
  |some i =>
   rw[q] at e;refine⟨j-o,i,by omega,q,?_⟩;cases q2:σ[i]? with
   |none=>rw[Uy,q2] at e;cases e
   |some z =>
    rw[Uy,q2] at e;have e':z=some v:=Option.some.inj e;rw[e']
def y6(o:Nat)(caps:List Nat)(adv:Adv)(stop:Nat->Hp->Prop)(tt:TT)(te:TE)(σ:St)(H1:Hp)(Q:VK):Prop:=
 ∀ D,H1 D=none->∃ W:Nat->Nat->List V->Hp->Prop,(∃ m,W 0 m [] (upd H1 D (.lst [])))/\∀ i m ys H,W i m ys H ->
  (stop i H/\Q (.ref D) H)∨adv i (stY o caps σ) H λ σ2 H2=>Kp o (stY o caps σ) σ2/\tt σ2 H2 λ b H3=>if b=true then te σ2 H3 λ y H4=>H4 D=some (.lst ys)/\ys.length<sizeLine/\∃ m',m'<m/\W (i+1) m' (ys++[y]) (upd H4 D (.lst (ys++[y])))
   else ∃ m',m'<m/\W (i+1) m' ys H3
section
variable {X:Cx}
theorem qeC{pins:List (Addr×Obj)}{σ:St}{H2:Hp}{s2:Shared}{NY:List Str}{o:Nat}{caps:List Nat}{scope:Scope}{fp:List Addr}{h₁:Heap}(S:CompScope X NY o caps scope)(I2:Inv X pins σ H2 s2)(E8:∀ b∈fp,jw X pins H2 b)(hob:∀ b∈fp,∃ ob,s2.heap.get? b=some ob)(hns:h₁.Ns (s2.heap.objs.size+1) λ _=>none)(u3:∀ b ob,s2.heap.get? b=some ob->h₁.get? b=some ob)(hD:∃ n,h₁.get? s2.heap.objs.size=some { cls:=.type "list",data:=.seq ([]:List Value).toArray n })(t':Nat):
  Inv (zp X NY scope (s2.heap.objs.size+1) s2 H2 fp pins) [] (stY o caps σ) (upd H2 s2.heap.objs.size (.lst [])) { s2 with heap:=h₁,toks:=t' }:=by
 have frees:∀ y∈scope.names,y.2=.free->∃ c,X.env.cells.lookup y.1=some c:=λ y hy e=>I2.ok.has _ (S.frees y hy e)
 have C3:∀ x c,(jG X.env scope.names []).lookup x=some c->X.env.cells.lookup x=some c:=qbZ X.env scope.names [] frees (λ x c e=>by simp at e);have V3:H2 s2.heap.objs.size=none:=I2.hok.fresh (Qs _);have xS:H2 (s2.heap.objs.size+1)=none:=I2.hok.fresh (Qu _);have ltC:∀ b ob,s2.heap.get? b=some ob->b≠s2.heap.objs.size+1:=λ b ob e=>Qe (Zs (Qd e))
 have ltD:∀ b ob,s2.heap.get? b=some ob->b≠s2.heap.objs.size:=λ b ob e=>Qe (Qd e)
 have xI:HOk X.prog X.w (upd H2 s2.heap.objs.size (.lst [])) h₁:=by
  obtain⟨n,hD⟩:=hD;exact I2.hok.laid u3 (Qs _) ⟨Qt _,[],n,.nil,hD⟩
 refine⟨?_,rfl,I2.bare,?_,?_,?_,?_,?_,?_,xI,?_⟩
 ·refine⟨I2.ok.mod,S.kind,I2.ok.glob,I2.ok.blt,Qu _,λ x y c h1 h2=>I2.ok.inj x y c (C3 x c h1) (C3 y c h2),λ x hx=>?_,λ x c e=>absurd e Y8,I2.ok.hd,I2.ok.frames,.inl rfl,λ b hb=>?_,
   I2.bs,Qf I2.ok.bsz I2.sz,λ b ob e hb=>?_,λ b hb z=>?_,I2.stack,I2.stkFree⟩
  ·have p4:scope.names.lookup x=some .free:=by
    rcases hx with q|q
    ·exact kF (env:=X.env) S.nocell q (.inl rfl)
    ·exact kF (env:=X.env) S.nocell q (.inr rfl)
   exact Xt.mp (qb0 X.env scope.names [] x (Yt p4))
  ·obtain⟨ob,e⟩:=hob b hb;exact⟨ltC b ob e,λ x c q=>(E8 b hb).2.2.2.2.1 x c (C3 x c q)⟩
  ·rcases(E8 b hb).2.2.2.1 with q | q
   ·exact I2.ok.noex b ob e q
   ·exact absurd (Y6 (Qd e) (Qf I2.ok.bsz q)) (Jx _)
  ·rcases Jy.mp (I2.stkSub b z) with q | q
   ·exact(E8 b hb).2.1 q
   ·exact(E8 b hb).2.2.1 q
 ·exact Un.laid u3 (Qs _) V3
 ·refine⟨_,hns,λ j x v e1 e2 e3=>?_⟩;obtain⟨j',i,ej,ec,es⟩:=qlv e2;obtain⟨x',n1,n2,n3⟩:=S.capOk j' i ec;rw[<- ej] at n1;have ex:x=x':=Option.some.inj ((show NY[j]?=some x from e1).symm.trans n1);subst ex;have hk:=S.frees (x,.free) (Yt n3) rfl;obtain⟨m,_,hl⟩:=I2.loc;have hv:Vis X.env.scope x:=hk.elim (λ q=>.inr (.inl q)) λ q=>.inr (.inr q)
  obtain⟨u,ru,lk⟩:=hl i x v n2 es hv;refine⟨u,ru,.inr ⟨qal (env:=X.env) n3,?_⟩⟩;rcases lk with⟨q,_⟩|⟨_,c,ec,cell⟩
  ·rcases hk with z | z
   ·rw[show X.env.kindOf x=some .cell from z] at q;cases q
   ·rw[show X.env.kindOf x=some .free from z] at q;cases q
  ·obtain⟨c',M0⟩:=Xt.mp (qb0 X.env scope.names [] x (Yt n3))
   have:=C3 x c' M0
   rw[ec] at this;cases this
   obtain⟨ob,e,d⟩:=cell;exact⟨c,M0,ob,u3 c ob e,d⟩
 ·intro x c e;obtain⟨v,ob,q,d⟩:=I2.cell x c (C3 x c e);exact⟨v,ob,u3 c ob q,d⟩
 ·show upd H2 s2.heap.objs.size (.lst []) (s2.heap.objs.size+1)=none
  rw[qt (Nat.succ_ne_self _)];exact xS
 ·intro x c e;obtain⟨v,ob,q,d⟩:=I2.cell x c (C3 x c e);rw[qt (ltD c ob q)];exact I2.freeC x c (C3 x c e)
 ·intro p hp;have B4:p∈X.pn++pins:=by
   have:p∈(X.pn++pins)++[]:=hp
   simpa using this
  obtain⟨e,n,ne,nf,d⟩:=I2.pin p B4;refine⟨u3 _ _ e,by rw[qt (ltD _ _ e)];exact n,ltC _ _ e,λ z=>?_,d⟩;rcases Jy.mp (I2.stkSub p.1 z) with q|q
  ·exact ne q
  ·exact nf q
 ·show(stY o caps σ).length=NY.length
  unfold stY;rw[Za,XO,Ut,S.len]
theorem qb1{pins:List (Addr×Obj)}{σ:St}{H2:Hp}{s2:Shared}{NY:List Str}{o:Nat}{caps:List Nat}{scope:Scope}{fp:List Addr}{it:Addr}{tn:Nat->Heap->Prop}{adv:Adv}{stop:Nat->Hp->Prop}{G2 tg iter:Expr}{B0:List Expr}{pos:Pos}{tt:TT}{te:TE}{Q:VK}(S:CompScope X NY o caps scope)(I2:Inv X pins σ H2 s2)(E8:∀ b∈fp,jw X pins H2 b)(i7:tn 0 s2.heap)(Wk:∀ C,Walk (zp X NY scope C s2 H2 fp pins) tg fp it tn adv stop)(ht:∀ C,PTs (zp X NY scope C s2 H2 fp pins) B0 tt)(he:∀ C,PE (zp X NY scope C s2 H2 fp pins) G2 te)(h:y6 o caps adv stop tt te σ H2 Q):
  wpAny (model X.prog X.w) X.A (newList []) (λ c6 s₃=>wpAny (model X.prog X.w) X.A (newFunctionEnv scope X.env.globals (jG X.env scope.names []) [] X.env.qual none .none (some X.env)) (λ T7 s₄ =>
   codeAny (model X.prog X.w) X.A (.compStart (.ListComp G2 [⟨tg,iter,B0,0⟩] scope pos) 0 (.ref it) c6 { T7 with scope:=relabel scope X.env }) (compPost (model X.prog X.w) X.A X.xe none (EP X pins σ Q) c6 T7.locals) s₄) X.xe s₃) X.xe s2:=by
 refine Z0 (wpAny_newFunctionEnv S.nocell (by intro y hy;simp at hy) (λ h₁ hns₁ G9₁=>?_) S.kind);dsimp only at hns₁ G9₁ ⊢;have hC:(s2.heap.push { cls:=.type "list",dict:=none,data:=.seq ([]:List Value).toArray }).objs.size=s2.heap.objs.size+1:=Jj _ _;rw[hC] at hns₁ G9₁ ⊢;have u3:∀ b ob,s2.heap.get? b=some ob->h₁.get? b=some ob:=λ b ob e =>
  (G9₁.2 b (Qe (Zs (Qd e)))).trans (XD _ (XD _ e))
 have hD:∃ n,h₁.get? s2.heap.objs.size=some { cls:=.type "list",data:=.seq ([]:List Value).toArray n }:=
  ⟨_,(G9₁.2 _ (Qe (Ub _))).trans (XD _ (Ys _ rfl))⟩
 have V3:H2 s2.heap.objs.size=none:=I2.hok.fresh (Qs _);obtain⟨W,⟨m0,w0⟩,turn⟩:=h _ V3;have gI:=(Wk 0).obj 0 s2.heap i7;have I4:=qeC S I2 E8 (λ b hb=>(gI b hb).imp λ _ q=>q.1) (hns:=hns₁) u3 hD (s2.toks+([]:List (Str×Value)).length);have mK:tn 0 h₁:=(Wk 0).keep _ _ _ i7 λ b _ ob e=>u3 b ob e
 have fr4:∀ b∈fp,upd H2 s2.heap.objs.size (.lst []) b=none:=λ b hb=>by
  obtain⟨ob,e,_⟩:=gI b hb;rw[qt (Qe (Qd e))];exact(E8 b hb).1
 have loop:codeAny (model X.prog X.w) X.A (.compLoop (.ListComp G2 [⟨tg,iter,B0,0⟩] scope pos) 0 (.ref it) (.ref s2.heap.objs.size) (compEnvC scope (jG X.env scope.names []) (s2.heap.objs.size+1) X.env))
   (compPost (model X.prog X.w) X.A X.xe none (EP X pins σ Q) (.ref s2.heap.objs.size) (s2.heap.objs.size+1)) { s2 with heap:=h₁,toks:=s2.toks+([]:List (Str×Value)).length }:=by
  have Wk:=Wk (s2.heap.objs.size+1);have ht:=ht (s2.heap.objs.size+1);have he:=he (s2.heap.objs.size+1);generalize hY:zp X NY scope (s2.heap.objs.size+1) s2 H2 fp pins=Y at Wk ht he I4;have iI:∀{H':Hp},(∀ b∈fp,H' b=none)->∀ b∈fp,jw Y [] H' b:=λ{H'} hn b hb=>by
   subst hY;obtain⟨ob,e,_⟩:=gI b hb;have k:=I4.ok.exf b hb;refine⟨hn b hb,k.1,I4.ok.exfs b hb,.inl hb,k.2,λ p hp=>?_⟩;have B4:p∈X.pn++pins:=by
    have:p∈(X.pn++pins)++[]:=hp
    simpa using this
   exact(E8 b hb).2.2.2.2.2 p B4
  refine qam (λ n s'=>∃ i ys H',Inv Y [] (stY o caps σ) H' s'/\tn i s'.heap/\(∀ b∈fp,H' b=none)/\W i n ys H') ?_ m0 ⟨0,[],_,I4,mK,fr4,w0⟩;rintro n s3 ⟨i,ys,H3,I3,E5,aN,w3⟩;have eE:Y.xe=λ _ _=>False:=by subst hY;rfl
  have ePw:Y.prog=X.prog/\Y.w=X.w/\Y.A=X.A/\Y.env=compEnvC scope (jG X.env scope.names []) (s2.heap.objs.size+1) X.env:=by subst hY;exact⟨rfl,rfl,rfl,rfl⟩
  obtain⟨eP,ew,eA,ee⟩:=ePw;rw[<- eP,<- ew,<- eA,<- ee,<- eE];rcases turn i n ys H3 w3 with⟨stp,qn⟩|av
  ·refine thn (Wk.done i [] s3 _ H3 I3 (iI aN) E5 stp) λ r s4 ⟨hr,I5⟩=>?_
   subst hr;obtain⟨m,hn,_⟩:=id I5.loc;have eC:Y.env.locals=s2.heap.objs.size+1:=by rw[ee];rfl
   rw[eC] at hn;refine⟨m,hn,λ h' hs=>?_⟩;have u:=I5.base;have gZ:=I5.hok;have A2:=I5.free;rw[eC] at A2;have aD:=I5.bare;have cU:=I5.os;subst hY;have u2:Un (frs X.stack) fp H2 H3 s2.heap h':=Un.but u hs (Qu _);have hE:HOk X.prog X.w H3 h':=HOk.but gZ hs A2;refine⟨.ref s2.heap.objs.size,H3,?_,rfl,qn⟩;obtain⟨hh,g,d,t,mS⟩:=s4;obtain rfl:mS=s2.os:=cU;exact Inv.call (s:=s2) (h':=h') (g':=g) (d':=d) (t':=t) (ch:=fp) I2 u2 hE aD λ b hb=>⟨(E8 b hb).2.2.2.1,(E8 b hb).2.1,(E8 b hb).2.2.2.2.1,(E8 b hb).2.2.2.2.2⟩
  ·refine thn (Wk.item i [] s3 _ H3 _ I3 (iI aN) E5 av) λ r s4 ⟨u,hr,h4⟩=>?_
   subst hr;refine thn h4 λ _ s5 h5=>thn h5 λ _ s6 ⟨σ6,H6,I6,⟨kp,q6⟩,W0,fr6⟩=>?_
   have I6':=I6.pinned (fp:=fp) (iI fr6) (Wk.obj _ _ W0);refine thn (ht _ s6 σ6 H6 _ I6' q6) λ b s7 ⟨H7,I7,q7⟩=>?_
   cases b with
   |false =>
    obtain⟨m',hm,w7⟩:=q7;obtain⟨J1,J2,J3⟩:=zV (tg:=tg) (tn:=tn) (i:=i+1) (Wk.obj _ _ W0) (λ h' k=>Wk.keep _ _ _ W0 k) I7;exact⟨m',hm,i+1,ys,H7,J1.weak kp.2.symm kp.get,J2,J3,w7⟩
   |true =>
    refine thn (he _ s7 σ6 H7 _ I7 q7) λ y s8 ⟨yv,H8,I8,r8,hD8,wK,m',hm,w8⟩=>?_
    refine thn (zu (X:=Y) _ s8 σ6 H8 (.ref s2.heap.objs.size) [yv] _ _ (λ v H'=>v=.non/\H'=upd H8 s2.heap.objs.size (.lst (ys++[yv]))) I8 rfl (.cons r8 .nil) ⟨_,ys,yv,rfl,rfl,hD8,wK,rfl,rfl⟩) λ v s9 ⟨_,H9,I9,_,_,e9⟩=>?_
    subst e9;obtain⟨J1,J2,J3⟩:=zV (tg:=tg) (tn:=tn) (i:=i+1) (Wk.obj _ _ W0) (λ h' k=>Wk.keep _ _ _ W0 k) I9;exact⟨m',hm,i+1,ys++[yv],_,J1.weak kp.2.symm kp.get,J2,J3,w8⟩
 exact codeAny_compStart_list loop ((Wk 0).self _ 0 _ _ _ mK loop)
def qkZ(o:Nat)(caps:List Nat)(wi:TI)(g:TG)(tt:TT)(te:TE):TE:=λ σ H Q=>wi σ H λ J H1=>y6 o caps (qc7 J g) J.stop tt te σ H1 Q
theorem zK{G2 iter tg:Expr}{B0:List Expr}{scope:Scope}{pos:Pos}{NY:List Str}{o:Nat}{caps:List Nat}{wi:TI}{g:TG}{tt:TT}{te:TE}(S:CompScope X NY o caps scope)(hc:X.calm=true)(hi:PI X tg iter wi)(hg:∀ C s H fp pins,PG (zp X NY scope C s H fp pins) tg g)(ht:∀ C s H fp pins,PTs (zp X NY scope C s H fp pins) B0 tt)(he:∀ C s H fp pins,PE (zp X NY scope C s H fp pins) G2 te)(hs:∀ x,foldedSetIterable iter X.env x=pure x:=by intro _;rfl):PE X (.ListComp G2 [⟨tg,iter,B0,0⟩] scope pos) (qkZ o caps wi g tt te):=by
 intro pins s σ H Q I h;rw[eval_ListComp];refine X1 (use:=none) (g:=⟨tg,iter,B0,0⟩) (gs:=[]) rfl hs (jo λ y hy e=>I.ok.has _ (S.frees y hy e)) S.kind S.locs ?_;show wpAny _ _ (eval iter X.env) _ _ s
 refine thn (hi pins s σ H _ I h) λ v s1 h1=>thn h1 λ eQ s2 h2=>?_
 obtain⟨it,fp,tn,J,H2,e,I2,T,i7,f2,hr⟩:=h2;subst e;exact qb1 S I2 f2 i7 (λ C=>Turn.walk (Y:=zp X NY scope C s2 H2 fp pins) hc T (hg _ _ _ _ _)) (λ C=>ht _ _ _ _ _) (λ C=>he _ _ _ _ _) hr
def qlw(o:Nat)(caps:List Nat)(wi:TI2)(n:Nat)(t:TGs)(tt:TT)(te:TE):TE:=λ σ H Q=>wi σ H λ J H1=>y6 o caps (qfN J n t) J.stop tt te σ H1 Q
theorem qan{G2 iter:Expr}{es:List Expr}{k n:Nat}{x9:Pos}{B0:List Expr}{scope:Scope}{pos:Pos}{NY:List Str}{o:Nat}{caps:List Nat}{wi:TI2}{t:TGs}{tt:TT}{te:TE}(S:CompScope X NY o caps scope)(hc:X.calm=true)(hi:PI2 X (.Tuple es k x9) iter wi)(hg:∀ C s H fp pins,PGs (zp X NY scope C s H fp pins) es t)(hn:∀ env,(assignEach es env).length=n)(C4:∀ env,(assignEach es env).findIdx? (·.1)=none)(ht:∀ C s H fp pins,PTs (zp X NY scope C s H fp pins) B0 tt)(he:∀ C s H fp pins,PE (zp X NY scope C s H fp pins) G2 te)(hs:∀ x,foldedSetIterable iter X.env x=pure x:=by intro _;rfl):PE X (.ListComp G2 [⟨.Tuple es k x9,iter,B0,0⟩] scope pos) (qlw o caps wi n t tt te):=by
 intro pins s σ H Q I h;rw[eval_ListComp];refine X1 (use:=none) (g:=⟨.Tuple es k x9,iter,B0,0⟩) (gs:=[]) rfl hs (jo λ y hy e=>I.ok.has _ (S.frees y hy e)) S.kind S.locs ?_;show wpAny _ _ (eval iter X.env) _ _ s
 refine thn (hi pins s σ H _ I h) λ v s1 h1=>thn h1 λ eQ s2 h2=>?_
 obtain⟨it,fp,tn,J,H2,e,I2,T,i7,f2,hr⟩:=h2;subst e;exact qb1 S I2 f2 i7 (λ C=>Turn2.walk (Y:=zp X NY scope C s2 H2 fp pins) hc T (hg _ _ _ _ _) (hn _) (C4 _)) (λ C=>ht _ _ _ _ _) (λ C=>he _ _ _ _ _) hr
end
noncomputable def ItV(n:Nat)(val:Nat->V):It:=⟨λ i _=>i<n,λ i H x H'=>H'=H/\x=val i,λ i _=>i=n⟩
theorem kH{P:Program}{w:World}{K:W.Frag}{tg:Expr}{it:Addr}{n:Nat}{Pv:Nat->Value->Prop}{St:Nat->Heap->Prop}(val:Nat->V)(W:∀ A:Around,A.handled=none->Walks P w A it [it] [it] n Pv St)(hv:∀ i v,Pv i v->qO (val i) v)(ob:∀ i h,St i h->∃ o nm vs,h.get? it=some o/\o.cls=.type nm/\o.data=.fields vs/\["enumerate","zip","dict_itemiterator","dict_reverseitemiterator","odict_iterator","itertools.zip_longest","itertools.pairwise"].contains nm=false)(self:∀(A:Around)(i:Nat)(s:Shared)(Q:Value->Shared->Prop)(E:Value->Shared->Prop),St i s.heap->Q (.ref it) s->wpAny (model P w) A (pyIter (.ref it)) Q E s):
  Turn P w K tg (ItV n val) [it] it St where
 mem:=by simp
 obj:=λ i h st b hb=>by
  have e:b=it:=by simpa using hb
  subst e;obtain⟨o,nm,vs,e,_,d,_⟩:=ob i h st;exact⟨o,e,λ v z=>by rw[d] at z;cases z⟩
 keep:=λ i h h' st k=>by
  have ha:callerA.handled=none:=rfl;exact(W callerA ha).frame i h h' st k
 item:=by
  intro X hP hw hK hc i pins s σ H E I hf st hg;subst hP hw hK;obtain⟨f0,f1,f2,f3,f4,f5⟩:=hf it (by simp);refine(W X.A (I.ok.hd hc)).item i s _ _ hg st λ v h' tk cM b0 kk=>?_
  have I1:Inv X pins σ H { s with heap:=h',toks:=tk }:=I.turned (λ b o hb e=>kk b o (by simpa using hb) e) f0 f1 f3 f4 f5;obtain⟨o,nm,vs,e,c,d,nn⟩:=ob _ _ b0;exact⟨_,rfl,qgx (s:={ s with heap:=h',toks:=tk }) e c d nn ⟨val i,H,I1,hv i v cM,⟨rfl,rfl⟩,b0,λ b hb=>(hf b hb).1⟩⟩
 done:=by
  intro X hP hw hK hc i pins s σ H E I hf st hg;subst hP hw hK;obtain⟨f0,f1,f2,f3,f4,f5⟩:=hf it (by simp);have hg:i=n:=hg;subst hg;exact(W X.A (I.ok.hd hc)).done s _ _ st λ h' tk kk=>⟨rfl,I.turned (λ b o hb e=>kk b o (by simpa using hb) e) f0 f1 f3 f4 f5⟩
 self:=self
theorem qdK{n:Nat}{val:Nat->V}{g:TG}{tb:TS}{D:Ends}{σ:St}{H:Hp}(Pv:Nat->St->Hp->Prop)(h0:Pv 0 σ H)(hs:∀ i σ H,i<n->Pv i σ H->g (val i) σ H λ σ2 H2=>tb { D with nx:=Pv (i+1),ct:=Pv (i+1),bk:=D.nx } σ2 H2)(hd:∀ σ H,Pv n σ H->D.nx σ H):
  ∃ W:Nat->Nat->St->Hp->Prop,(∃ m,W 0 m σ H)/\∀ i m σ H,W i m σ H ->
   ((ItV n val).stop i H/\D.nx σ H)∨((ItV n val).go i H/\∃ N:St->Hp->Prop,(∀ σ' H',N σ' H'->∃ m',m'<m/\W (i+1) m' σ' H')/\∀ x H',(ItV n val).yld i H x H'->g x σ H' λ σ2 H2=>tb { D with nx:=N,ct:=N,bk:=D.nx } σ2 H2):=by
 refine⟨λ i m σ H=>m=n-i/\i<=n/\Pv i σ H,⟨n,by simp,Qt _,h0⟩,?_⟩;rintro i m σ H ⟨rfl,hi,p⟩;by_cases c8:i<n
 ·refine .inr ⟨c8,Pv (i+1),λ σ' H' p'=>⟨n-(i+1),by omega,rfl,c8,p'⟩,λ x H' y=>?_⟩;obtain⟨e,y⟩:=y;subst e y;exact hs i σ _ c8 p
 ·have e:i=n:=by omega
  subst e;exact .inl ⟨rfl,hd σ H p⟩
noncomputable def sgn(z:Str)(i:Nat):V:=.str ⟨#[z.cps.getD i 0]⟩
theorem qfO{z:Str}{i:Nat}{v:Value}(h:SignAt z i v):qO (sgn z i) v:=by
 obtain⟨c,u,e,rfl⟩:=h;refine⟨u,?_⟩
 have:z.cps.getD i 0=c:=by rw[Xg,e];rfl
 rw[this]
def qnw(te:TE):TI:=λ σ H R=>te σ H λ x H1=>∃ z,x=.str z/\R (ItV z.cps.size (sgn z)) H1
theorem qb2{X:Cx}{tg e:Expr}{te:TE}(he:PE X e te):PI X tg e (qnw te):=by
 intro pins s σ H R I h;refine thn (he pins s σ H _ I h) λ v s1 ⟨x,H1,I1,r1,z,ez,q⟩=>?_
 subst ez;obtain⟨t,rfl⟩:=r1;cases ha:z.cps.all (·<128) with
 |false =>
  refine wpAny_pyIter_wide ha ⟨s1.heap.objs.size,[s1.heap.objs.size],_,_,H1,rfl,I1.kept (t':=s1.toks) λ b o e=>XD _ e,
   kH (sgn z) (λ A hA=>Walks.strWide hA _ z t) (λ i v=>qfO) (λ i h st=>?_) (λ _ _ _ _ _ st h=>wpAny_pyIter_striter_wide st h),⟨_,Ys _ rfl,rfl,rfl⟩,λ b hb=>?_,q⟩
  ·obtain⟨o,e,c,d⟩:=st;exact⟨o,_,_,e,c,d,by decide⟩
  ·have e:b=s1.heap.objs.size:=by simpa using hb
   subst e;exact I1.fpOk (Qs _) (I1.hok.fresh (Qs _))
 |true =>
  refine wpAny_pyIter_ascii ha ⟨s1.heap.objs.size,[s1.heap.objs.size],_,_,H1,rfl,I1.kept (t':=s1.toks) λ b o e=>XD _ e,
   kH (sgn z) (λ A hA=>Walks.strAscii hA _ z t) (λ i v=>qfO) (λ i h st=>?_) (λ _ _ _ _ _ st h=>wpAny_pyIter_striter_ascii st h),⟨_,Ys _ rfl,rfl,rfl⟩,λ b hb=>?_,q⟩
  ·obtain⟨o,e,c,d⟩:=st;exact⟨o,_,_,e,c,d,by decide⟩
  ·have e:b=s1.heap.objs.size:=by simpa using hb
   subst e;exact I1.fpOk (Qs _) (I1.hok.fresh (Qs _))
theorem qb3{X:Cx}{T:String}{x:Str}{a:Expr}{ta:TA}{p pos:Pos}{pins:List (Addr×Obj)}{s:Shared}{σ:St}{H:Hp}{Q:Value->Shared->Prop}{R:List V->Hp->Prop}(hg:Gl X x)(hm:X.mg x=none)(hv:bootBuiltins x=some (.type T))(ha:PA X [a] ta)(I:Inv X pins σ H s)(h:ta σ H R)(hk:∀ us s1 vs H1,Inv X pins σ H1 s1->qI vs us->R vs H1->wpAny (model X.prog X.w) X.A (call (.type T) us) Q X.xe s1)(hn:x≠"__name__":=by decide)(hd:(x == ("__debug__":Str))=false:=by decide)(hs:starEach [a] X.env=[(false,eval a X.env)]:=by rfl):wpAny (model X.prog X.w) X.A (eval (.Call (.Name x p) [a] [] pos) X.env) Q X.xe s:=by
 refine Call_ (kr I hg hm hv (Xf (thn (ha pos pins s σ H _ I h) λ us s1 ⟨vs,H1,I1,r1,q1⟩=>hk us s1 vs H1 I1 r1 q1) hs rfl) hn hd)
noncomputable def qht(K:W.Frag)(a:Addr):It2:=
 ⟨λ i H=>∃ xs x,SqL K H a xs/\xs[i]?=some x,λ i H ys H'=>H'=H/\∃ x,ys=[.int i,x]/\∀ xs,SqL K H a xs->xs[i]?=some x,λ i H=>∃ xs,SqL K H a xs/\xs.length<=i⟩
def qlx(e it a:Addr)(i:Nat)(h:Heap):Prop:=(∃ L7,IsEnum h e it i L7)/\h.IsListIter it a i
theorem qhu{P:Program}{w:World}{K:W.Frag}{es:List Expr}{k:Nat}{pos:Pos}(a e it:Addr)(E7:e≠it):Turn2 P w K (.Tuple es k pos) (qht K a) [e,it] e (qlx e it a) where
 obj:=λ i h st b hb=>by
  obtain⟨⟨L7,he⟩,o,ho,c,d⟩:=st;have hb:b=e∨b=it:=by simpa using hb
  rcases hb with z|z
  ·subst z;exact⟨_,he,λ v q=>by cases q⟩
  ·subst z;exact⟨o,ho,λ v q=>by rw[d] at q;cases q⟩
 keep:=λ i h h' st k=>by
  obtain⟨⟨L7,he⟩,n8⟩:=st;exact⟨⟨L7,k e (by simp) _ he⟩,n8.at λ o q=>k it (by simp) o q⟩
 item:=by
  intro X hP hw hK hc i pins s σ H E I hf st hg;subst hP hw hK;obtain⟨xs,x,hq,hx⟩:=hg;obtain⟨its,rv,p,hz⟩:=I.list hq;obtain⟨u,hu,ru⟩:=rv.get hx;obtain⟨⟨L7,he⟩,n8⟩:=st;have fe:=hf e (by simp);have fi:=hf it (by simp);refine wpAny_pyNext_enum_item he n8 p.isList (x:=u) (by simpa using hu) E7 λ h' bQ C6 ht hsz hk=>?_
  refine⟨s.heap.objs.size,rfl,wpAny_letOwnedTupleGo_enum bQ λ h2 xZ p7=>?_⟩;replace p7:Heap.SameBut e h' h2:=p7;have cX:e<s.heap.objs.size:=Qd he;have k2:∀ b o,b≠e->b≠it->s.heap.get? b=some o->h2.get? b=some o:=λ b o h1 h3 q=>p7.extBut b o h1 (hk b o h1 h3 q)
  have I1:Inv X pins σ H { s with heap:=h2,toks:=s.toks+1 }:=by
   refine I.step (g':=s.gens) (d':=s.drawn) (ch:=[e,it]) (λ b hb=>?_) (λ b o _ _ c9 q _=>k2 b o (λ z=>c9 (by simp[z])) (λ z=>c9 (by simp[z])) q)
    (λ b o _ _ c9 q _=>⟨o.slots,k2 b o (λ z=>c9 (by simp[z])) (λ z=>c9 (by simp[z])) q⟩) (λ _ _ _ _ n=>n) (λ b o c9 q=>⟨o,k2 b o (λ z=>c9 (by simp[z])) (λ z=>c9 (by simp[z])) q⟩)
    (λ _ _ q=>q) (λ _ _ _ q=>q) (λ b ps q=>⟨#[],by rw[q];simp⟩) (λ m hm=>?_) (λ b u q=>?_) I.bare
   ·have hb:b=e∨b=it:=by simpa using hb
    rcases hb with z|z
    ·subst z;exact⟨fe.2.2.2.1,fe.2.1,fe.2.2.2.2.1,fe.2.2.2.2.2⟩
    ·subst z;exact⟨fi.2.2.2.1,fi.2.1,fi.2.2.2.2.1,fi.2.2.2.2.2⟩
   ·obtain⟨o,p6,ep,ho,r⟩:=hm;exact⟨o,p6,ep,k2 _ o (Vb fe.2.1) (Vb fi.2.1) ho,r⟩
   ·refine(I.hok b u q).stay (λ c v c9 z=>k2 c v (λ y=>?_) (λ y=>?_) z) (λ _ z=>z) λ _ _ z=>z
    ·rcases c9 with y' | y'
     ·rw[<- y',y,fe.1] at q;cases q
     ·rw[y,fe.1] at y';cases y'
    ·rcases c9 with y' | y'
     ·rw[<- y',y,fi.1] at q;cases q
     ·rw[y,fi.1] at y';cases y'
  refine⟨[.int i,x],[.int i s.toks,u],H,I1,⟨_,(p7.extBut _ _ (Qh cX) ht),rfl,_,rfl⟩,.cons ⟨_,rfl⟩ (.cons ru .nil),⟨rfl,x,rfl,λ ys hy=>by rw[I.list_inj hy hq];exact hx⟩,⟨⟨u,?_⟩,C6.extBut p7.extBut (Vb E7)⟩,λ b hb=>(hf b hb).1⟩
  ·have:((i:Int)+1)=((i+1:Nat):Int):=by omega
   rw[<- this];exact xZ
 done:=by
  intro X hP hw hK hc i pins s σ H E I hf st hg;subst hP hw hK;obtain⟨xs,hq,hx⟩:=hg;obtain⟨its,rv,p,hz⟩:=I.list hq;obtain⟨⟨L7,he⟩,n8⟩:=st;obtain⟨f0,f1,f2,f3,f4,f5⟩:=hf it (by simp);have hl:=rv.length;exact wpAny_pyNext_enum_end (I.ok.hd hc) he n8 p.isList (by simp;omega) λ h' eb=>⟨rfl,I.turned (t':=s.toks) (λ b o hb e=>eb b o hb e) f0 f1 f3 f4 f5⟩
 self:=λ A i s Q E st h=>by
  obtain⟨⟨L7,he⟩,n8⟩:=st;exact Z2 he h
def qmv(K:W.Frag)(ta:TA):TI2:=λ σ H R=>ta σ H λ vs H1=>∃ a,vs=[.ref a]/\(∃ xs,SqL K H1 a xs)/\R (qht K a) H1
theorem qkb{X:Cx}{es:List Expr}{k:Nat}{x9:Pos}{l:Expr}{ta:TA}{p pos:Pos}(hg:Gl X "enumerate")(hm:X.mg "enumerate"=none)(ha:PA X [l] ta)(hs:starEach [l] X.env=[(false,eval l X.env)]:=by rfl):
  PI2 X (.Tuple es k x9) (.Call (.Name "enumerate" p) [l] [] pos) (qmv X.K ta):=by
 intro pins s σ H R I h;refine qb3 (R:=λ vs H1=>∃ a,vs=[.ref a]/\(∃ xs,SqL X.K H1 a xs)/\R (qht X.K a) H1) hg hm boot_enumerate ha I h (λ us s1 vs H1 I1 r1 q1=>?_) (hs:=hs);obtain⟨a,e,⟨xs,hq⟩,q⟩:=q1;subst e;obtain⟨u,rfl,ru⟩:=yg r1;cases ru
 obtain⟨its,rv,pl,hz⟩:=I1.list hq;refine call_enumerate_list pl.isList λ h' he n8 hsz hk=>Z2 he ?_
 refine⟨s1.heap.objs.size+1,[s1.heap.objs.size+1,s1.heap.objs.size],_,_,H1,rfl,I1.kept (t':=s1.toks) hk,qhu a _ _ (Nat.succ_ne_self _),⟨⟨_,he⟩,n8⟩,λ b hb=>?_,q⟩;have hb:b=s1.heap.objs.size+1∨b=s1.heap.objs.size:=by simpa using hb
 rcases hb with z|z
 ·subst z;exact I1.fpOk (Qu _) (I1.hok.fresh (Qu _))
 ·subst z;exact I1.fpOk (Qs _) (I1.hok.fresh (Qs _))
noncomputable def ItZ(K:W.Frag)(a b:Addr):It2:=
 ⟨λ i H=>∃ xs ys x y,SqL K H a xs/\SqL K H b ys/\xs[i]?=some x/\ys[i]?=some y,λ i H zs H'=>H'=H/\∃ x y,zs=[x,y]/\(∀ xs,SqL K H a xs->xs[i]?=some x)/\(∀ ys,SqL K H b ys->ys[i]?=some y),
  λ i H=>∃ xs ys,SqL K H a xs/\SqL K H b ys/\(xs.length<=i∨ys.length<=i)⟩
def qmw(z TI TO i1 i2 a b:Addr)(i:Nat)(h:Heap):Prop:=IsZip h z TI TO .none/\IsPair h TI (.ref i1) (.ref i2)/\(∃ c d,IsPair h TO c d)/\h.IsListIter i1 a i/\h.IsListIter i2 b i
theorem qiy{P:Program}{w:World}{K:W.Frag}{es:List Expr}{k:Nat}{pos:Pos}{a b z TI TO i1 i2:Addr}(D:ZipApart z TI TO i1 i2 a b):
  Turn2 P w K (.Tuple es k pos) (ItZ K a b) [z,TI,TO,i1,i2] z (qmw z TI TO i1 i2 a b) where
 obj:=λ i h st c hc=>by
  obtain⟨hz,bU,⟨c1,d1,dB⟩,⟨o1,M5,cc1,dd1⟩,⟨o2,N5,cc2,lX⟩⟩:=st;have hc:c=z∨c=TI∨c=TO∨c=i1∨c=i2:=by simpa using hc
  rcases hc with e|e|e|e|e
  ·subst e;exact⟨_,hz,λ v q=>by cases q⟩
  ·subst e;exact⟨_,bU,λ v q=>by cases q⟩
  ·subst e;exact⟨_,dB,λ v q=>by cases q⟩
  ·subst e;exact⟨o1,M5,λ v q=>by rw[dd1] at q;cases q⟩
  ·subst e;exact⟨o2,N5,λ v q=>by rw[lX] at q;cases q⟩
 keep:=λ i h h' st k=>by
  obtain⟨hz,bU,⟨c1,d1,dB⟩,h1,h2⟩:=st;exact⟨k z (by simp) _ hz,k TI (by simp) _ bU,⟨c1,d1,k TO (by simp) _ dB⟩,h1.at λ o q=>k i1 (by simp) o q,h2.at λ o q=>k i2 (by simp) o q⟩
 item:=by
  intro X hP hw hK hc i pins s σ H E I hf st hg;subst hP hw hK;obtain⟨xs,ys,x,y,cP,cO,hx,hy⟩:=hg;obtain⟨nE,rZ,p1,hz1⟩:=I.list cP;obtain⟨K3,rY,p2,hz2⟩:=I.list cO;obtain⟨u1,S3,uK⟩:=rZ.get hx;obtain⟨u2,hu2,uJ⟩:=rY.get hy;obtain⟨hz,bU,⟨c1,d1,dB⟩,h1,h2⟩:=st;refine wpAny_pyNext_zip_item D hz bU dB h1 h2 p1.isList p2.isList (x:=u1) (y:=u2) (by simpa using S3) (by simpa using hu2) λ h' hz' hTO' h1' pC hp hsz hk=>?_
  refine⟨s.heap.objs.size,rfl,wpAny_letOwnedTupleGo_zip hz' λ pC wL p7=>?_⟩;rename_i sW;replace p7:Heap.SameBut z h' pC:=p7;have wJ:z<s.heap.objs.size:=Qd hz;have k2:∀ c o,c≠z->c≠TO->c≠i1->c≠i2->s.heap.get? c=some o->pC.get? c=some o:=λ c o a1 a2 a3 a4 q=>p7.extBut c o a1 (hk c o a1 a2 a3 a4 q)
  have fz:=hf z (by simp);have fO:=hf TO (by simp);have f1:=hf i1 (by simp);have f2:=hf i2 (by simp);have nn:∀ c,c∉[z,TO,i1,i2]->c≠z/\c≠TO/\c≠i1/\c≠i2:=λ c c9=>by simpa using c9
  have I1:Inv X pins σ H { s with heap:=pC }:=by
   refine I.step (g':=s.gens) (d':=s.drawn) (t':=s.toks) (ch:=[z,TO,i1,i2]) (λ c c9=>?_) (λ c o _ _ c9 q _=>k2 c o (nn c c9).1 (nn c c9).2.1 (nn c c9).2.2.1 (nn c c9).2.2.2 q)
    (λ c o _ _ c9 q _=>⟨o.slots,k2 c o (nn c c9).1 (nn c c9).2.1 (nn c c9).2.2.1 (nn c c9).2.2.2 q⟩) (λ _ _ _ _ n=>n) (λ c o c9 q=>⟨o,k2 c o (nn c c9).1 (nn c c9).2.1 (nn c c9).2.2.1 (nn c c9).2.2.2 q⟩)
    (λ _ _ q=>q) (λ _ _ _ q=>q) (λ c ps q=>⟨#[],by rw[q];simp⟩) (λ m hm=>?_) (λ c u q=>?_) I.bare
   ·have:jw X pins H c:=by
     have c9:c=z∨c=TO∨c=i1∨c=i2:=by simpa using c9
     rcases c9 with e|e|e|e <;> subst e <;> assumption
    exact⟨this.2.2.2.1,this.2.1,this.2.2.2.2.1,this.2.2.2.2.2⟩
   ·obtain⟨o,p6,ep,ho,r⟩:=hm;exact⟨o,p6,ep,k2 _ o (Vb fz.2.1) (Vb fO.2.1) (Vb f1.2.1) (Vb f2.2.1) ho,r⟩
   ·have no:∀ b',H b'=none->∀ c',(c'=c∨H c'=some (.own c))->c'≠b':=λ b' oU c' M0 e=>by
     subst e;rcases M0 with e|e
     ·subst e;rw[oU] at q;cases q
     ·rw[oU] at e;cases e
    exact(I.hok c u q).stay (λ c' v c9 r=>k2 c' v (no z fz.1 c' c9) (no TO fO.1 c' c9) (no i1 f1.1 c' c9) (no i2 f2.1 c' c9) r) (λ _ r=>r) λ _ _ r=>r
  have hpt:IsPair pC s.heap.objs.size u1 u2:=p7.extBut _ _ (Qh wJ) hp;refine⟨[x,y],[u1,u2],H,I1,⟨_,hpt,rfl,_,rfl⟩,.cons uK (.cons uJ .nil),⟨rfl,x,y,rfl,λ ws hw=>by rw[I.list_inj hw cP];exact hx,λ ws hw=>by rw[I.list_inj hw cO];exact hy⟩,?_,λ c c9=>(hf c c9).1⟩;refine⟨wL,p7.extBut _ _ D.TIz (hk _ _ D.TIz D.TITO D.TIi1 D.TIi2 bU),⟨_,_,p7.extBut _ _ D.TOz hTO'⟩,h1'.extBut p7.extBut D.i1z,sW.extBut p7.extBut D.i2z⟩
 done:=by
  intro X hP hw hK hc i pins s σ H E I hf st hg;subst hP hw hK;obtain⟨xs,ys,cP,cO,hx⟩:=hg;obtain⟨nE,rZ,p1,hz1⟩:=I.list cP;obtain⟨K3,rY,p2,hz2⟩:=I.list cO;obtain⟨hz,bU,⟨c1,d1,dB⟩,h1,h2⟩:=st;have eW:=rZ.length;have N6:=rY.length;have fz:=hf z (by simp);have fO:=hf TO (by simp);have f1:=hf i1 (by simp);have f2:=hf i2 (by simp);have nn:∀ c,c∉[z,TO,i1,i2]->c≠z/\c≠TO/\c≠i1/\c≠i2:=λ c c9=>by simpa using c9
  refine wpAny_pyNext_zip_end (I.ok.hd hc) D hz bU dB h1 h2 p1.isList p2.isList (by rcases hx with q|q;left;simp;omega;right;simp;omega) λ h' k2=>⟨rfl,?_⟩
  refine I.step (g':=s.gens) (d':=s.drawn) (t':=s.toks) (ch:=[z,TO,i1,i2]) (λ c c9=>?_) (λ c o _ _ c9 q _=>k2 c o (nn c c9).1 (nn c c9).2.1 (nn c c9).2.2.1 (nn c c9).2.2.2 q)
   (λ c o _ _ c9 q _=>⟨o.slots,k2 c o (nn c c9).1 (nn c c9).2.1 (nn c c9).2.2.1 (nn c c9).2.2.2 q⟩) (λ _ _ _ _ n=>n) (λ c o c9 q=>⟨o,k2 c o (nn c c9).1 (nn c c9).2.1 (nn c c9).2.2.1 (nn c c9).2.2.2 q⟩)
   (λ _ _ q=>q) (λ _ _ _ q=>q) (λ c ps q=>⟨#[],by rw[q];simp⟩) (λ m hm=>?_) (λ c u q=>?_) I.bare
  ·have:jw X pins H c:=by
    have c9:c=z∨c=TO∨c=i1∨c=i2:=by simpa using c9
    rcases c9 with e|e|e|e <;> subst e <;> assumption
   exact⟨this.2.2.2.1,this.2.1,this.2.2.2.2.1,this.2.2.2.2.2⟩
  ·obtain⟨o,p6,ep,ho,r⟩:=hm;exact⟨o,p6,ep,k2 _ o (Vb fz.2.1) (Vb fO.2.1) (Vb f1.2.1) (Vb f2.2.1) ho,r⟩
  ·have no:∀ b',H b'=none->∀ c',(c'=c∨H c'=some (.own c))->c'≠b':=λ b' oU c' M0 e=>by
    subst e;rcases M0 with e|e
    ·subst e;rw[oU] at q;cases q
    ·rw[oU] at e;cases e
   exact(I.hok c u q).stay (λ c' v c9 r=>k2 c' v (no z fz.1 c' c9) (no TO fO.1 c' c9) (no i1 f1.1 c' c9) (no i2 f2.1 c' c9) r) (λ _ r=>r) λ _ _ r=>r
 self:=λ A i s Q E st h=>wpAny_pyIter_zip st.1 h
def qnx(K:W.Frag)(ta:TA):TI2:=λ σ H R=>ta σ H λ vs H1=>∃ a b,vs=[.ref a,.ref b]/\(∃ xs,SqL K H1 a xs)/\(∃ ys,SqL K H1 b ys)/\R (ItZ K a b) H1
theorem qfP{X:Cx}{es:List Expr}{k:Nat}{x9:Pos}{l1 l2:Expr}{ta:TA}{p pos:Pos}(hg:Gl X "zip")(hm:X.mg "zip"=none)(ha:PA X [l1,l2] ta)(hs:starEach [l1,l2] X.env=[(false,eval l1 X.env),(false,eval l2 X.env)]:=by rfl)(p7:starEach [l2] X.env=[(false,eval l2 X.env)]:=by rfl):
  PI2 X (.Tuple es k x9) (.Call (.Name "zip" p) [l1,l2] [] pos) (qnx X.K ta):=by
 intro pins s σ H R I h;refine Call_ (kr I hg hm boot_zip (Xf (thn (ha pos pins s σ H _ I h) λ us s1 ⟨vs,H1,I1,r1,q1⟩=>?_) (by rw[hs,p7]) (by rw[p7];rfl)));obtain⟨a,b,e,⟨xs,cP⟩,⟨ys,cO⟩,q⟩:=q1;subst e;obtain⟨u1,u2,rfl,uK,uJ⟩:=qeo r1;cases uK
 cases uJ
 obtain⟨nE,rZ,p1,hz1⟩:=I1.list cP;obtain⟨K3,rY,p2,hz2⟩:=I1.list cO;have a1:a<s1.heap.objs.size:=by obtain⟨_,e,_⟩:=p1.isList;exact Qd e
 have a2:b<s1.heap.objs.size:=by obtain⟨_,e,_⟩:=p2.isList;exact Qd e
 refine call_zip_2 p1.isList p2.isList λ h' hz bU dB hi1 hi2 hsz hk=>wpAny_pyIter_zip hz ?_
 refine⟨s1.heap.objs.size+4,[s1.heap.objs.size+4,s1.heap.objs.size+2,s1.heap.objs.size+3,s1.heap.objs.size,s1.heap.objs.size+1],_,_,H1,rfl,I1.kept (t':=s1.toks) hk,qiy (zipApart_new a1 a2),⟨hz,bU,⟨_,_,dB⟩,hi1,hi2⟩,λ c hc=>?_,q⟩;have hc:c=s1.heap.objs.size+4∨c=s1.heap.objs.size+2∨c=s1.heap.objs.size+3∨c=s1.heap.objs.size∨c=s1.heap.objs.size+1:=by simpa using hc
 have B3:s1.heap.objs.size<=c:=by rcases hc with e|e|e|e|e <;> rw[e] <;> omega
 exact I1.fpOk B3 (I1.hok.fresh B3)
noncomputable abbrev cs(z:Str):List Nat:=z.cps.toList
noncomputable def ql(l:List Nat):Str:=⟨l.toArray⟩
theorem qiz(z:Str):ql (cs z)=z:=rfl
theorem qfQ{a b:Str}(h:cs a=cs b):a=b:=by rw[<- qiz a,<- qiz b,h]
noncomputable abbrev vS(l:List Nat):V:=.str (ql l)
theorem qfR{a b:List Nat}(h:vS a=vS b):a=b:=by
 injection h with h
 have:=congrArg cs h
 exact this
theorem jH:∀{ss:List Str}{us:List Value},qI (ss.map V.str) us->StrsAre us ss
 | [],_,r=>by cases r;exact .nil
 |x::ss,_,r=>by
  rw[Jz] at r;cases r with
  |cons h t =>
   obtain⟨t',rfl⟩:=h;exact .cons _ _ (jH t)
theorem jI:∀{ss:List Str}{us:List Value},StrsAre us ss->qI (ss.map V.str) us
 |_,_,.nil=>.nil
 |_,_,.cons x t h=>.cons ⟨t,rfl⟩ (jI h)
section
variable {X:Cx}
def qmx(K:W.Frag):V->List V->Hp->VK->Prop:=λ x vs H Q=>∃ z p ss,x=.str z/\vs=[.ref p]/\(SqL K H p (ss.map V.str)∨SqT K H p (ss.map V.str))/\(ss.map (·.length)).sum+ss.length*z.length<=16777216/\Q (.str (Txt.join z ss)) H
theorem qdL:MtR X "str.join" (qmx X.K):=by
 intro pins s σ H x vs v us Q I rx rv h;obtain⟨z,p,ss,rfl,rfl,hq,hz,q⟩:=h;obtain⟨t,rfl⟩:=rx;obtain⟨u,rfl,ru⟩:=yg rv;cases ru
 rcases hq with hq|hq
 ·obtain⟨its,r,pl,_⟩:=I.list hq;exact join_list pl.isList (jH (by simpa using r)) hz λ t' k=>⟨.str (Txt.join z ss),H,I.tok _,⟨_,rfl⟩,q⟩
 ·obtain⟨its,r,pl,_⟩:=I.tuple hq;exact join_tuple pl (jH (by simpa using r)) hz λ t' k=>⟨.str (Txt.join z ss),H,I.tok _,⟨_,rfl⟩,q⟩
noncomputable def qao(ss:List Str):List Str:=(Fs.srt (ss.map cs)).map ql
theorem qhv(a b:List Nat):ltCps a b=decide (a<b):=ltCps_eq a b
theorem qdM{ss A9:List Str}(hp:A9.Perm ss)(hs:sortedS A9=true):A9=qao ss:=by
 have i8:∀(p:Str)(l:List Str),risingS p l=true->(∀ x∈l,¬ cs x<cs p)/\(l.map cs).Pairwise (λ x y=>¬ y<x):=by
  intro p l;induction l generalizing p with
  |nil=>intro _;exact⟨by simp,by simp⟩
  |cons a l ih =>
   intro h;simp only[risingS,Uf,Bool.not_eq_true'] at h;obtain⟨h1,h2⟩:=h;have ha:¬ cs a<cs p:=by
    have:=h1
    rw[qhv] at this;exact Zj this
   obtain⟨i1,i2⟩:=ih a h2;refine⟨λ x hx=>?_,?_⟩
   ·rcases Jy.mp hx with e | e
    ·rw[e];exact ha
    ·intro c8
     have:=i1 x e
     by_cases hpa:cs p<cs a
     ·exact this (List.lt_trans c8 hpa)
     ·have e':=Fs.plt_total hpa ha;rw[e'] at c8;exact this c8
   ·rw[Jz];exact Zb.mpr ⟨λ y hy=>by
     obtain⟨x,hx,rfl⟩:=Ql.mp hy;exact i1 x hx,i2⟩
 have hpw:(A9.map cs).Pairwise (λ x y=>¬ y<x):=by
  cases A9 with
  |nil=>simp
  |cons a l =>
   have h:risingS a l=true:=hs;obtain⟨i1,i2⟩:=i8 a l h;rw[Jz];exact Zb.mpr ⟨λ y hy=>by
    obtain⟨x,hx,rfl⟩:=Ql.mp hy;exact i1 x hx,i2⟩
 have e:=Fs.srt_of (hp.map cs) hpw;unfold qao;rw[<- e,Qm]
 have:ql ∘ cs=id:=funext λ z=>qiz z
 rw[this,List.map_id]
def qly(K:W.Frag):R2:=λ x y H Q=>∃ a b xs ys,x=.ref a/\y=.ref b/\SqT K H a xs/\SqT K H b ys/\xs.length+ys.length<=sizeLine /\
 ∀ p H',qg H H'->SqT K H' p (xs++ys)->Q (.ref p) H'
theorem qb4{H:Hp}{p:Addr}(h:H p=none)(o:HO):qg H (upd H p o):=λ b u q=>by rw[qt (qZ q h)];exact q
theorem qkc{prog:Program}{w:World}{A:Around}{E:Value->Shared->Prop}{s:Shared}{t b:Addr}{vs ws:List Value}{Q:Value->Shared->Prop}(ht:IsTup s.heap t vs.toArray)(hb:IsTup s.heap b ws.toArray)(h0:vs=[]->Q (.ref b) s)(h1:vs≠[]->ws=[]->Q (.ref t) s)(h2:vs≠[]->ws≠[]->Q (.ref s.heap.objs.size) { s with heap:=s.heap.push { cls:=.type "tuple",data:=.seq (vs++ws).toArray } })(hsz:vs.length+ws.length<=sizeLine):wpAny (model prog w) A (binaryOp .Add (.ref t) (.ref b)) Q E s:=by
 by_cases hv:vs=[]
 ·obtain⟨⟨cls,dd,data,sl⟩,ho,hc,n,hd⟩:=id ht;obtain⟨⟨cls2,lX,data2,rW⟩,N5,iB,n2,V4⟩:=id hb;simp only at hc hd iB V4;subst hc hd iB V4;exact concat_meets ⟨_,ho,rfl⟩ ⟨_,N5,rfl⟩ noFill_tuple_add seq_tuple_add XF X4 (Xv _ _)
   (tuple_addW0 t b vs.toArray ws.toArray n n2 dd lX sl rW (by simp[hv])) ⟨ho,N5,h0 hv⟩
 ·exact HT.cat_tup ht hb hv (h1 hv) (h2 hv) hsz
theorem qiA:OpR X (binaryOp .Add) (qly X.K):=by
 intro pins s σ H x y v u Q I rx ry h;obtain⟨a,b,xs,ys,rfl,rfl,cP,cO,hz,q⟩:=h;cases rx
 cases ry
 obtain⟨its,r1,p1,_⟩:=I.tuple cP;obtain⟨K3,r2,p2,_⟩:=I.tuple cO;have l1:=r1.length;have l2:=r2.length;have e0:its=[]->xs=[]:=λ e=>by rw[e] at l1;exact Xe l1
 have e1:K3=[]->ys=[]:=λ e=>by rw[e] at l2;exact Xe l2
 refine qkc p1 p2 (λ h=>⟨.ref b,H,I,rfl,?_⟩) (λ h h'=>⟨.ref a,H,I,rfl,?_⟩) (λ h h'=>⟨.ref s.heap.objs.size,_,I.laid (a:=s.heap.objs.size) (o:=.tup (xs++ys)) (t':=s.toks) (λ _ _ q=>XD _ q) (Qs _) ⟨?_,its++K3,r1.append r2,?_⟩,rfl,?_⟩) (by omega)
 ·refine q b H (qg.refl H) ?_;rw[e0 h];exact cO
 ·refine q a H (qg.refl H) ?_;rw[e1 h',Uu];exact cP
 ·rw[Za];exact hz
 ·exact⟨_,Ys _ rfl,rfl,_,rfl⟩
 ·have hf:=I.hok.fresh (Qs s.heap.objs.size);exact q _ _ (qb4 hf _) (SqT.of qc)
theorem qbc(hc:X.calm=true):y3 X (.builtin "all") (λ xs H Q=>∃(p:Addr)(bs:List Bool),xs=[.ref p]/\SqL X.K H p (bs.map V.bl)/\Q (.bl (bs.all id)) H):=by
 intro pins s σ H xs us Q I r h;obtain⟨p,bs,rfl,hq,q⟩:=h;obtain⟨u,rfl,ru⟩:=yg r;cases ru
 obtain⟨its,rv,pl,hz⟩:=I.list hq;have hl:=rv.length;rw[Ut] at hl;have hh:X.A.in1.handled=none:=by simp[I.ok.hd hc]
 have gH:p<s.heap.objs.size:=by obtain⟨_,e,_⟩:=pl.isList;exact Qd e
 refine call_all_walk (Z1 pl.isList ⟨s.heap.objs.size,_,_,_,_,_,λ i=>bs.getD i true,rfl,Walks.list hh s.heap.objs.size p (Qe gH) its.toArray,
  ⟨⟨_,Ys _ rfl,rfl,rfl⟩,pl.isList.push _⟩,λ i v s Q E hv hQ=>?_,λ h' tk hk=>?_⟩)
 ·have e:its[i]?=some v:=by simpa using hv
  have hi:i<bs.length:=by rw[hl];exact(Xm.mp e).1
  obtain⟨u,hu,ru⟩:=rv.get (i:=i) (x:=.bl bs[i]) (by rw[Zl,Xw hi];rfl);rw[e] at hu;cases hu
  cases ru
  refine Zz ?_
  have:bs.getD i true=bs[i]:=by rw[Xk,Xw hi];rfl
  have hQ':Q (bs.getD i true) s:=hQ;rw[this] at hQ';exact hQ'
 ·have hf:=I.hok.fresh (Qs s.heap.objs.size);refine⟨.bl (bs.all id),H,?_,?_,q⟩
  ·have I1:Inv X pins σ H { s with heap:=s.heap.push { cls:=.type "list_iterator",data:=.fields #[.ref p,.int 0 0] } }:=I.kept (t':=s.toks) λ _ _ e=>XD _ e
   refine I.kept (t':=tk) λ b o e=>hk b o (λ z=>?_) (XD _ e)
   have:b=s.heap.objs.size:=by simpa using z
   exact absurd (Qd e) (by rw[this];exact Jx _)
  ·show Value.bool _=Value.bool _
   congr 1
   rw[Zm,<- hl,Us,Uh,Uh];constructor
   ·intro h b hb;obtain⟨i,hi,e⟩:=Yw hb
    have:=h i (Jh.mpr hi)
    rw[Xk,Xw hi,e] at this;exact this
   ·intro h i hi;have hi:=Jh.mp hi;rw[Xk,Xw hi];exact h _ (Ui hi)
end
theorem kI{α:Type}:∀(l:List α)(i:Nat)(h:i<l.length),(l[i]::l.eraseIdx i).Perm l
 |x::l,0,_=>Jl _
 |x::l,i+1,h=>by
  have:=kI l i (by simpa using h)
  rw[List.getElem_cons_succ,X5];exact(List.Perm.swap _ _ _).trans (this.cons x)
section
variable {prog:Program}{w:World}{A:Around}{E:Value->Shared->Prop}{s:Shared}
theorem qdN{M:Model}{rR:Source}{n:Nat}{Q:Nat->Shared->Prop}(hn:n≠0)(h:∀ i d,i<n->Q i { s with drawn:=d }):wpAny M A (choose rR n) Q E s:=λ Γ p hΓ=>by
 show Sem.wp M Γ (Sem.choose rR n Sem.pure) _ _ p s
 rw[Sem.wp];refine⟨hn,?_⟩;rw[Sem.wp];exact h _ _ (Nat.mod_lt _ (Nat.pos_of_ne_zero hn))
theorem yK{M:Model}{α:Type}:∀(n:Nat)(xs:List α)(s:Shared)(Q:List α->Shared->Prop),xs.length=n->(∀ ys d,ys.Perm xs->Q ys { s with drawn:=d })->wpAny M A (drawOrder n xs) Q E s
 |0,xs,s,Q,hl,h=>by
  have:xs=[]:=Xe hl
  subst this;unfold drawOrder;have e:=h [] s.drawn (Jl _);cases s
  exact Q0 e
 |n+1,[],s,Q,hl,h=>by simp at hl
 |n+1,x::xs,s,Q,hl,h=>by
  unfold drawOrder;refine Qz (qdN (by simp) λ i d hi=>?_);have e:(x::xs)[i]?=some (x::xs)[i]:=Xw hi;rw[e];dsimp only;refine Qz (yK n ((x::xs).eraseIdx i) _ _ ?_ λ ys d' hp=>Q0 ?_)
  ·rw[Xl hi];omega
  ·refine h _ d' ((hp.cons _).trans ?_);exact kI (x::xs) i hi
def byT(w:World):Prop:=w.params.followText "set-order"=true
def qaW(P:Program)(w:World)(x:Str)(e:Int×Value):Prop:=e.1=(qx P w).hash (.inr x)/\∃ t,e.2=.str x t
def qM(P:Program)(w:World)(h:Heap)(a:Addr)(ys:List Str):Prop:=
 ∃ o es ep t,h.get? a=some o/\o.ExactSet/\o.data=.set es ep t/\Paired (qaW P w) ys es.toList/\ys.Nodup/\ys.length<scanBound/\t.fits es.size=true/\(t.led=true∨byT w)/\(ys=[]∨t.plain=false)
theorem qb5{P:Program}{w:World}{ys:List Str}{l:List (Int×Value)}(h:Paired (qaW P w) ys l):ElemsOf (qx P w) l:=by
 induction h with
 |nil=>intro e he;cases he
 |cons h _ ih =>
  intro e he;rcases Jy.mp he with z|z
  ·subst z;obtain⟨h1,t,h2⟩:=h;exact⟨⟨.inr _,by rw[h2];exact zn _ _ _ _,h1⟩,by rw[h2];rfl⟩
  ·exact ih e z
theorem qb6{P:Program}{w:World}{ys:List Str}{l:List (Int×Value)}(h:Paired (qaW P w) ys l)(k:Key):(∃ e∈l,(qx P w).is k e.2=true) ↔ ∃ y∈ys,k=.inr y:=by
 induction h with
 |nil=>simp
 | @cons y e ys l h _ ih =>
  obtain⟨h1,t,h2⟩:=h;have hk:(qx P w).is k e.2=true ↔ k=.inr y:=by
   rw[h2];constructor
   ·intro q;exact(qx P w).inj _ _ _ q (zn P w y t)
   ·rintro rfl;exact zn P w y t
  simp only[Jy,exists_eq_or_imp,ih,hk]
theorem yE{α β:Type}{F:α->β->Prop}{xs:List α}{l l':List β}(h:Paired F xs l)(p:l'.Perm l):∃ mH,mH.Perm xs/\Paired F mH l':=by
 induction p generalizing xs with
 |nil=>cases h;exact⟨[],Jl _,.nil⟩
 |cons b p ih =>
  cases h with
  |cons h t =>
   obtain⟨mH,h1,h2⟩:=ih t;exact⟨_::mH,h1.cons _,.cons h h2⟩
 |swap a b l =>
  cases h with
  |cons h t =>
   cases t with
   |cons h' t=>exact⟨_,List.Perm.swap _ _ _,.cons h' (.cons h t)⟩
 |trans _ _ i1 i2 =>
  obtain⟨mH,h1,h2⟩:=i2 h;obtain⟨tY,h3,h4⟩:=i1 h2;exact⟨tY,h3.trans h1,h4⟩
theorem zh{α β:Type}{F:α->β->Prop}:∀{xs ys:List α}{us vs:List β},Paired F xs us->Paired F ys vs->Paired F (xs++ys) (us++vs)
 |_,_,_,_,.nil,s=>s
 |_,_,_,_,.cons r t,s=>.cons r (zh t s)
theorem qhw(t:SetTable)(es:Array (Int×Value))(h:Int)(x:Value):(layNew t es h x).2.1.led=t.led/\(t.plain=false->(layNew t es h x).2.1.plain=false):=by
 unfold layNew;split
 ·rename_i slot wd e;dsimp only;unfold SetTable.orStandIn;split
  ·exact⟨rfl,λ h=>h⟩
  ·exact⟨rfl,λ _=>rfl⟩
 ·exact⟨rfl,λ _=>rfl⟩
theorem qfS{mask finger moves:Nat}{led plain:Bool}{hs:Array Int}{r:SetTable×Array Nat}(h:SetTable.laid mask finger moves led plain hs=some r):r.1.led=led/\r.1.plain=plain:=by
 unfold SetTable.laid at h;cases e:SetTable.layClean mask hs with
 |none=>rw[e] at h;cases h
 |some o=>rw[e] at h;cases h;exact⟨rfl,rfl⟩
theorem qeD(t:SetTable)(es:Array (Int×Value))(n:Nat):(relayAll t es n).2.1.led=t.led/\(t.plain=false->(relayAll t es n).2.1.plain=false):=by
 unfold relayAll;split
 ·rename_i t' o0 e;have f:=qfS (show SetTable.laid _ _ _ _ _ _=some (t',o0) from e);dsimp only;split
  ·exact⟨f.1,λ h=>f.2.trans h⟩
  ·exact⟨rfl,λ _=>rfl⟩
 ·exact⟨rfl,λ _=>rfl⟩
theorem yZ{P:Program}{w:World}{h:Heap}{a:Addr}{o:Obj}{es:Array (Int×Value)}{ep:Nat}{t:SetTable}(ho:h.get? a=some o)(hex:o.ExactSet)(hd:o.data=.set es ep t){p6:Array (Int×Value)}{t':SetTable}{ys:List Str}(hp:Paired (qaW P w) ys p6.toList)(nd:ys.Nodup)(hb:ys.length<scanBound)(hf:t'.fits p6.size=true)(hl:t'.led=true∨byT w)(t8:ys=[]∨t'.plain=false):
  (h.update a (Obj.putSet p6 t')).get? a=some { o with data:=.set p6 (ep+1) t' }/\qM P w (h.update a (Obj.putSet p6 t')) a ys:=by
 have hg:(h.update a (Obj.putSet p6 t')).get? a=some { o with data:=.set p6 (ep+1) t' }:=by
  have:=XR (Obj.putSet p6 t') ho (by rw[putSet_of p6 t' hd];rfl)
  rw[putSet_of p6 t' hd] at this;exact this
 exact⟨hg,_,p6,ep+1,t',hg,hex,rfl,hp,nd,hb,hf,hl,t8⟩
theorem qeE{g:Bool->Sem Unit}(hg:∀(b:Bool)(s₁:Shared)(Q':Unit->Shared->Prop),Q' () s₁->wpAny (model prog w) A (g b) Q' E s₁){a:Addr}{o:Obj}{es:Array (Int×Value)}{ep:Nat}{t:SetTable}(ho:s.heap.get? a=some o)(hex:o.ExactSet)(hd:o.data=.set es ep t){D4:Array (Int×Value)}{t2:SetTable}{ys:List Str}(P9:Paired (qaW prog w) ys D4.toList)(nd:ys.Nodup)(N9:ys.length<scanBound)(sQ:t2.fits D4.size=true)(hl:t2.led=true∨byT w)(t8:t2.plain=false){L5:Bool}{R:Option Bool->Shared->Prop}(h:∀ h' l7,Heap.SameBut a s.heap h'->l7.Perm ys->qM prog w h' a l7->R (some true) { s with heap:=h' }):
  wpAny (model prog w) A (do
    storeSet a D4 t2
    if (!L5 && t2.tooFull)=true then do
        g (relayAll t2 D4 (SetTable.grown D4.size)).2.2
        storeSet a (relayAll t2 D4 (SetTable.grown D4.size)).1 (relayAll t2 D4 (SetTable.grown D4.size)).2.1
        pure (some true)
     else pure (some true)) R E s:=by
 have c5:D4.size<scanBound:=by rw[<- Yr,<- P9.length];exact N9
 refine Qz (Z4 ho hd ?_ (Z5 c5));obtain⟨M5,V6⟩:=yZ (P:=prog) (w:=w) ho hex hd P9 nd N9 sQ hl (.inr t8);have nM:=Yx s.heap a (Obj.putSet D4 t2);split
 ·have hp:=relayAll_perm t2 D4 (SetTable.grown D4.size);have V3:=relayAll_fits t2 D4 (SetTable.grown D4.size);have aC:=qeD t2 D4 (SetTable.grown D4.size);generalize hRl:relayAll t2 D4 (SetTable.grown D4.size)=Rl at hp V3 aC ⊢;obtain⟨es2,t3,aA4⟩:=Rl;dsimp only at hp V3 aC ⊢;obtain⟨l7,hy,E6⟩:=yE P9 hp;have I0:es2.size<scanBound:=by rw[<- Yr,hp.length_eq,Yr];exact c5
  refine Qz (hg _ _ _ ?_);refine Qz (Z4 M5 rfl ?_ (Z5 I0));obtain⟨_,dF⟩:=yZ (P:=prog) (w:=w) M5 hex rfl E6 (hy.nodup_iff.mpr nd) (by rw[hy.length_eq];exact N9) V3 (by rw[aC.1];exact hl) (.inr (aC.2 t8));exact Q0 (h _ l7 (nM.trans (Yx _ a _)) hy dF)
 ·exact Q0 (h _ ys nM (Jl _) V6)
theorem qeF{a:Addr}{ys:List Str}{x:Str}{t0:Tok}{Q:Bool->Shared->Prop}(hS:qM prog w s.heap a ys)(nP:ys.length+1<scanBound)(h0:x∈ys->Q false s)(h1:x∉ys->∀ h' l7,Heap.SameBut a s.heap h'->l7.Perm (ys++[x])->qM prog w h' a l7->Q true { s with heap:=h' }):
  wpAny (model prog w) A (setAddHashed a (.str x t0) ((qx prog w).hash (.inr x))) Q E s:=by
 obtain⟨o,es,ep,t,ho,hex,hd,hp,nd,hb,hf,hl,t8⟩:=hS;have cX:=qb5 hp;have G0:(qx prog w).is (.inr x) (.str x t0)=true:=zn _ _ _ _;have sM:(Value.str x t0).scannable=true:=rfl;have c5:es.size<scanBound:=by rw[<- Yr,<- hp.length];exact hb
 unfold setAddHashed setAddHashedIn;refine J8 (Qz (Z6 ho hd hf ?_));dsimp only;rw[byScan_of sM c5 cX];simp only[↓reduceIte];unfold setAddByScan;refine Qz ?_;refine Qz (Q1 ?_);refine Qz (wpAny_setScan_of G0 ho hd hf cX ?_);cases hr:List.findIdx? (λ e=>(qx prog w).is (.inr x) e.2) es.toList with
 |some j =>
  dsimp only;obtain⟨hj,bK,_⟩:=List.findIdx?_eq_some_iff_getElem.mp hr;obtain⟨y,hy,e⟩:=(qb6 hp (.inr x)).mp ⟨es.toList[j],Ui hj,bK⟩;cases e
  exact Q0 (Q0 (h0 hy))
 |none =>
  dsimp only;have hx:x∉ys:=λ hx=>by
   obtain⟨e,he,q⟩:=(qb6 hp (.inr x)).mpr ⟨x,hx,rfl⟩
   have:=List.findIdx?_eq_none_iff.mp hr e he
   rw[q] at this;exact Bool.noConfusion this
  have hgw:∀(b:Bool){s₁:Shared}{Q':Unit->Shared->Prop},Q' () s₁->wpAny (model prog w) A (match b with | true=>rule "set.scan.the-table-gave-way" | false=>pure ()) Q' E s₁:=
   λ b s₁ Q' hq=>by cases b <;> first|exact Q0 hq|exact Q1 hq
  have P8:=layNew_perm t es ((qx prog w).hash (.inr x)) (.str x t0);have R0:=layNew_fits t es ((qx prog w).hash (.inr x)) (.str x t0);have aC:=qhw t es ((qx prog w).hash (.inr x)) (.str x t0);generalize hL:layNew t es ((qx prog w).hash (.inr x)) (.str x t0)=L at P8 R0 aC ⊢;obtain⟨D4,t1,L5,gave⟩:=L;dsimp only at P8 R0 aC ⊢;rw[Zt] at P8;obtain⟨tX,nG,P9⟩:=yE (zh hp (.cons (F:=qaW prog w) (a:=x) (b:=((qx prog w).hash (.inr x),.str x t0)) ⟨rfl,t0,rfl⟩ .nil)) P8;have sF:tX.Nodup:=by
   rw[nG.nodup_iff];exact Zq.mpr ⟨nd,by simp,λ a ha b hb e=>by simp at hb;subst hb;subst e;exact hx ha⟩
  have N9:tX.length<scanBound:=by rw[nG.length_eq,Za];exact nP
  refine Qz (hgw _ ?_);have oM:∀ h' l7,Heap.SameBut a s.heap h'->l7.Perm tX->qM prog w h' a l7->Q true { s with heap:=h' }:=λ h' l7 G9 hq R1=>h1 hx h' l7 G9 (hq.trans nG) R1
  split
  ·refine Qz ?_;rw[hashByValue_scannable 8 sM];refine Q0 ?_;refine qeE (t2:=_) ?_ ho hex hd P9 sF N9 (SetTable.fits_plain_off R0) (by show t1.led=true∨_;rw[aC.1];exact hl) rfl ?_
   ·intro b s₁ Q' hq;cases b <;> first|exact Q0 hq|exact Q1 hq
   ·intro h' l7 G9 hq R1;dsimp only;exact Q0 (oM h' l7 G9 hq R1)
  ·rename_i hnp;refine Qz (Q0 ?_);simp only[↓reduceIte];refine qeE ?_ ho hex hd P9 sF N9 R0 (by rw[aC.1];exact hl) (by simpa using hnp) ?_
   ·intro b s₁ Q' hq;cases b <;> first|exact Q0 hq|exact Q1 hq
   ·intro h' l7 G9 hq R1;dsimp only;exact Q0 (oM h' l7 G9 hq R1)
noncomputable abbrev qH(w:World):Obj:={ cls:=.type "set",dict:=none,data:=.set #[] 0 (.fresh 0 0 (!(w.params.followText "set-order"))) }
theorem jg{h:Heap}{a:Addr}(e:h.get? a=some (qH w)):qM prog w h a []:=
 ⟨_,#[],0,_,e,⟨rfl,rfl,rfl⟩,rfl,.nil,List.nodup_nil,by decide,rfl,by
  unfold byT;cases w.params.followText "set-order"
  ·exact .inl rfl
  ·exact .inr rfl,.inl rfl⟩
theorem qhx(a:Value){Q₁:Value->Shared->Prop}(h:Q₁ (.ref s.heap.objs.size) { s with heap:=s.heap.push (qH w) }):
  codeAny (model prog w) A (.call (.builtin "set.__new__") ⟨[.type "set",a],[]⟩) (wants Q₁ E) s:=by
 refine codeAny_of_tree ?_;show wpAny _ A.in1 (do checkBuiltinCall "set.__new__" ⟨[.type "set",a],[]⟩;again (.builtin "set.__new__" ⟨[.type "set",a],[]⟩)) _ _ s
 refine Qz (Qx (F.newCall_set_1 a) (Q0 ⟨Qa F.plain_set_new _,Je F.entry_set_new ?_⟩));rw[Yi F.plain_set_new _];unfold Builtin.«set.__new__» Builtin.Frozenset.newClass;have wT:=sub_set_self;obtain⟨hp,g,d,tk,os⟩:=s;dsimp only
 wp_walk
 refine Uo (Q0 ?_);dsimp only;simp only[newObj];refine Qz (wpAny_alloc (Q0 ?_));exact Q0 h
set_option maxHeartbeats 3200000 in
theorem vj(a:Value){Q:Value->Shared->Prop}(h:wpAny (model prog w) A.in1.in1 (Builtin.Frozenset.updateFrom "set.__init__" s.heap.objs.size a) (λ _ s2=>s2.TypeIs (.ref s.heap.objs.size) "set"/\Q (.ref s.heap.objs.size) s2) E { s with heap:=s.heap.push (qH w) }):
  wpAny (model prog w) A (call (.type "set") [a]) Q E s:=by
 obtain⟨c,tl,hmro⟩:=F.called_set.mro;have aA3:=F.called_set.made;have wT:=F.called_set.sub;refine wpAny_call (codeAny_of_tree ?_);show wpAny _ _ (callAny (.type "set") _) _ _ _
 refine Q0 ⟨Code.quiet_builtin _ (by decide +kernel),Je F.entry_type_call ?_⟩;rw[Around.under_plain (weight_type_call_type "set" [a] []) rfl];have h1:=F.called_set.notType;have h2:=F.called_set.canCreate;have sS:=F.typeCall_set_1 a
 repeat (any_goals (first|assumption|wp_step))
 refine Qp (qhx a (E:=E) (Q₁:=λ obj s₁=>obj=.ref s.heap.objs.size/\s₁={ s with heap:=s.heap.push (qH w) }) ⟨rfl,rfl⟩) λ r s₁ hr=>?_
 cases r with
 |error e=>exact hr
 |ok fl =>
  cases fl with
  |ret obj =>
   obtain⟨rfl,rfl⟩:=hr;have hS:(s.heap.push (qH w)).get? s.heap.objs.size=some (qH w):=Ys _ rfl;have hT:Shared.TypeIs { s with heap:=s.heap.push (qH w) } (.ref s.heap.objs.size) "set":=⟨_,hS,rfl⟩;have hli:=F.called_set.init.lookup;have hbi:=F.called_set.init.bind (.ref s.heap.objs.size)
   repeat (any_goals (first|assumption|wp_step))
   refine Qp (codeAny_call_builtin (R:=wants (λ r s₂=>r=.none/\s₂.TypeIs (.ref s.heap.objs.size) "set"/\Q (.ref s.heap.objs.size) s₂) E) F.called_set.init.plain F.entry_set_init (check_set_init_1 hT ?_)) λ r₂ s₂ hr₂=>?_
   ·unfold Builtin.«set.__init__» noKeywords;generalize hUF:Builtin.Frozenset.updateFrom=UF at h ⊢
    wp_walk
    refine Qy h (λ _ s2 h2=>?_) (λ _ _ x=>x);show wpAny _ _ (ret Value.none) _ _ _
    exact Q0 ⟨rfl,h2⟩
   ·cases r₂ with
    |error e=>exact hr₂
    |ok fl₂ =>
     cases fl₂ with
     |ret r =>
      obtain⟨rfl,hT2,hq⟩:=hr₂
      repeat (any_goals (first|assumption|wp_step))
     |_=>exact hr₂.elim
  |_=>exact hr.elim
theorem qiB{x:Value}{T:String}{Q:Bool->Shared->Prop}(hT:s.TypeIs x T)(h1:isSubtype (.type T) (.type "set")=pure false)(h2:isSubtype (.type T) (.type "frozenset")=pure false)(h:Q false s):
  wpAny (model prog w) A (Builtin.Frozenset.isAnySet x) Q E s:=by
 unfold Builtin.Frozenset.isAnySet;refine Qz (Up hT h1 ?_);show wpAny _ _ (isInstance x (.type "frozenset")) _ _ s
 exact Up hT h2 h
theorem vV{x:Value}{Q:Bool->Shared->Prop}(hT:s.TypeIs x "set")(h:Q true s):wpAny (model prog w) A (Builtin.Frozenset.isAnySet x) Q E s:=by
 unfold Builtin.Frozenset.isAnySet;refine Qz (Up hT sub_set_self ?_);exact Q0 h
theorem yL{id:String}{S:Addr}{x:Value}{T:String}{Q:Unit->Shared->Prop}(hT:s.TypeIs x T)(h1:isSubtype (.type T) (.type "set")=pure false)(h2:isSubtype (.type T) (.type "frozenset")=pure false)(h3:(Value.type T == Value.type "dict")=false)(h:wpAny (model prog w) A (pyIter x) (λ it s2=>codeAny (model prog w) A (.builtin "set.update.loop" ⟨[.ref S,it],[]⟩) (λ r s3=>r=.ok (.ret .none)/\Q () s3) s2) E s):
  wpAny (model prog w) A (Builtin.Frozenset.updateFrom id S x) Q E s:=by
 unfold Builtin.Frozenset.updateFrom;refine Qz (qiB hT h1 h2 ?_);simp only[Zd,Q7];refine Qz (Qq hT ?_);simp only[h3,Zd,Q7];refine Qz (Qy h (λ it s2 h2=>?_) λ _ _ e=>e);refine Qz (wpAny_runValue (Qp h2 λ r s3 hr=>?_));obtain⟨rfl,hq⟩:=hr;exact Q0 hq
theorem vm{I:Addr}{fp wr:List Addr}{n:Nat}{P:Nat->Value->Prop}{St:Nat->Heap->Prop}{R:Result->Shared->Prop}(W:Walks prog w A.in1 I fp wr n P St)(S:Addr)(hSf:S∉fp)(val:Nat->Str)(wR:∀ i v,P i v->∃ t,v=.str (val i) t)(hb:n+1<scanBound):
  ∀(k i:Nat)(s:Shared)(ys:List Str),n-i=k->i<=n->St i s.heap->qM prog w s.heap S ys->ys.length<=i->(∀ x,x∈ys ↔ ∃ j,j<i/\val j=x) ->
   (∀ h' tk l7,(∀ b o,b∉S::wr->s.heap.get? b=some o->h'.get? b=some o)->qM prog w h' S l7->(∀ x,x∈l7 ↔ ∃ j,j<n/\val j=x)->R (.ok (.ret .none)) { s with heap:=h',toks:=tk }) ->
   codeAny (model prog w) A (.builtin "set.update.loop" ⟨[.ref S,.ref I],[]⟩) R s:=by
 have hSw:S∉wr:=λ h=>hSf (W.sub _ h)
 have stay:∀{h h':Heap}{ys:List Str},qM prog w h S ys->(∀ o,h.get? S=some o->h'.get? S=some o)->qM prog w h' S ys:=λ hS k=>by
  obtain⟨o,es,ep,t,ho,rest⟩:=hS;exact⟨o,es,ep,t,k o ho,rest⟩
 intro k;induction k with
 |zero =>
  intro i s ys hk hi C4 hS hl hm hR;have aB:i=n:=by omega
  subst aB;refine Je F.entry_set_update_loop ?_;rw[Yi X8 _];show wpAny _ A.in1 (pyNext (.ref I) >>= _) _ _ s
  refine Qz (W.done s _ _ C4 λ h' tk N7=>?_);show wpAny _ A.in1 (ret Value.none) _ _ _
  exact Q0 (hR h' tk ys (λ b o hb e=>N7 b o (λ z=>hb (Yf _ z)) e) (stay hS λ o e=>N7 S o hSw e) hm)
 |succ k ih =>
  intro i s ys hk hi C4 hS hl hm hR;have c8:i<n:=by omega
  refine Je F.entry_set_update_loop ?_;rw[Yi X8 _];show wpAny _ A.in1 (pyNext (.ref I) >>= _) _ _ s
  refine Qz (W.item i s _ _ c8 C4 λ v h1 tk hP nL N7=>?_);obtain⟨t,rfl⟩:=wR i v hP;have V6:qM prog w h1 S ys:=stay hS λ o e=>N7 S o hSw e
  refine Qz (J8 ?_);unfold setAdd;refine J8 ?_;refine Qz ((qx prog w).pyHash (k:=.inr (val i)) (zn _ _ _ _) ?_);have mY:∀ x,(x∈ys∨x=val i) ↔ ∃ j,j<i+1/\val j=x:=λ x=>by
   rw[hm x];constructor
   ·rintro(⟨j,hj,e⟩ | e)
    ·exact⟨j,by omega,e⟩
    ·exact⟨i,by omega,e.symm⟩
   ·rintro⟨j,hj,e⟩;by_cases hji:j=i
    ·subst hji;exact .inr e.symm
    ·exact .inl ⟨j,by omega,e⟩
  refine qeF (s:={ s with heap:=h1,toks:=tk+1 }) V6 (by omega) (λ hx=>?_) (λ hx h2 ys2 G9 hp dF=>?_)
  ·refine Q0 ⟨Qa X8 _,ih (i+1) _ ys (by omega) c8 nL V6 (by omega) (λ x=>?_) λ h3 uC tW lP hS3 oB=>?_⟩
   ·rw[<- mY x];exact⟨.inl,λ z=>z.elim id λ e=>e ▸ hx⟩
   ·exact hR h3 uC tW (λ b o hb e=>lP b o hb (N7 b o (λ z=>hb (Yf _ z)) e)) hS3 oB
  ·refine Q0 ⟨Qa X8 _,ih (i+1) _ ys2 (by omega) c8 (W.frame _ _ _ nL λ b hb o e=>?_) dF (by rw[hp.length_eq,Za];simp;omega) (λ x=>?_) λ h3 uC tW lP hS3 oB=>?_⟩
   ·exact(G9.2 b (λ z=>hSf (z ▸ hb))).trans e
   ·rw[<- mY x,hp.mem_iff,Ur,Zf]
   ·refine hR h3 uC tW (λ b o hb e=>lP b o hb ((G9.2 b (λ z=>hb (z ▸ Y7))).trans (N7 b o (λ z=>hb (Yf _ z)) e))) hS3 oB
end
noncomputable def qdO(P:Program)(w:World)(a:Addr)(xs:List Str):HO:=.ext λ h=>∃ ys,ys.Perm xs/\qM P w h a ys
theorem qgK{P:Program}{w:World}{H:Hp}{h:Heap}{a:Addr}{xs ys:List Str}(hp:ys.Perm xs)(hS:qM P w h a ys):zo P w H h a (qdO P w a xs):=by
 refine⟨⟨ys,hp,hS⟩,?_,?_⟩
 ·obtain⟨o,_,_,_,e,_⟩:=hS;exact⟨o,e⟩
 ·rintro h1 h2 ⟨zs,hz,o,es,ep,t,e,rest⟩ k;exact⟨zs,hz,o,es,ep,t,k o e,rest⟩
theorem Inv.set{X:Cx}{pins:List (Addr×Obj)}{σ:St}{H:Hp}{s:Shared}{a:Addr}{xs:List Str}(I:Inv X pins σ H s)(h:H a=some (qdO X.prog X.w a xs)):∃ ys,ys.Perm xs/\qM X.prog X.w s.heap a ys:=
 (I.hok a _ h).1
theorem qM.typeIs{P:Program}{w:World}{s:Shared}{a:Addr}{ys:List Str}(h:qM P w s.heap a ys):s.TypeIs (.ref a) "set":=by
 obtain⟨o,es,ep,t,e,hx,_⟩:=h;exact⟨o,e,hx.1⟩
namespace F
theorem sub_tuple_set:isSubtype (.type "tuple") (.type "set")=pure false:=by rw[Ju];kernel_rfl
theorem sub_tuple_frozenset:isSubtype (.type "tuple") (.type "frozenset")=pure false:=by rw[Ju];kernel_rfl
theorem sub_str_set:isSubtype (.type "str") (.type "set")=pure false:=by rw[Ju];kernel_rfl
theorem sub_str_frozenset:isSubtype (.type "str") (.type "frozenset")=pure false:=by rw[Ju];kernel_rfl
end F
section
variable {X:Cx}
def qny(K:W.Frag)(P:Program)(w:World):List V->Hp->VK->Prop:=λ xs H Q=>∃ ss:List Str,(((∃ p,xs=[.ref p]/\(SqL K H p (ss.map V.str)∨SqT K H p (ss.map V.str)))∨∃ z,xs=[.str z]/\ss=(cs z).map λ c=>ql [c]))/\ss.length+1<scanBound /\
 ∀ l ys,H l=none->ys.Nodup->(∀ x,x∈ys ↔ x∈ss)->Q (.ref l) (upd H l (qdO P w l ys))
theorem qb7(hc:X.calm=true):y3 X (.type "set") (qny X.K X.prog X.w):=by
 intro pins s σ H xs us Q I r h;obtain⟨ss,rR,hb,q⟩:=h;have hf:H s.heap.objs.size=none:=I.hok.fresh (Qs _);have hh:X.A.in1.in1.in1.handled=none:=by simp[I.ok.hd hc]
 have A1:(s.heap.push (qH X.w)).get? s.heap.objs.size=some (qH X.w):=Ys _ rfl;have fin:∀(h':Heap)(tk:Nat)(l7:List Str),(∀ b o,b<s.heap.objs.size->s.heap.get? b=some o->h'.get? b=some o)->qM X.prog X.w h' s.heap.objs.size l7->(∀ x,x∈l7 ↔ x∈ss) ->
   Shared.TypeIs { s with heap:=h',toks:=tk } (.ref s.heap.objs.size) "set"/\EP X pins σ Q (.ref s.heap.objs.size) { s with heap:=h',toks:=tk }:=by
  intro h' tk l7 hk hS hm;refine⟨hS.typeIs (s:={ s with heap:=h',toks:=tk }),.ref s.heap.objs.size,_,I.laid (a:=s.heap.objs.size) (o:=qdO X.prog X.w s.heap.objs.size l7) (t':=tk) (λ b o e=>hk b o (Qd e) e) (Qs _) (qgK (Jl _) hS),rfl,q _ l7 hf ?_ hm⟩;obtain⟨_,_,_,_,_,_,_,_,nd,_⟩:=hS;exact nd
 have N1:∀(l7:List Str),(∀ x,x∈l7 ↔ ∃ j,j<ss.length/\ss.getD j default=x)->∀ x,x∈l7 ↔ x∈ss:=λ l7 hm x=>by
  rw[hm x];constructor
  ·rintro⟨j,hj,e⟩;rw[Xk,Xw hj] at e;rw[<- e];exact Ui hj
  ·intro hx;obtain⟨j,hj,e⟩:=Yw hx;exact⟨j,hj,by rw[Xk,Xw hj];exact e⟩
 have pE:∀{its:List Value},qI (ss.map V.str) its->∀(i:Nat)(v:Value),its.toArray[i]?=some v->∃ t,v=.str (ss.getD i default) t:=λ{its} rv i v hv=>by
  have e:its[i]?=some v:=by simpa using hv
  have hl:=rv.length;rw[Ut] at hl;have hi:i<ss.length:=by rw[hl];exact(Xm.mp e).1
  obtain⟨u,hu,ru⟩:=rv.get (i:=i) (x:=.str ss[i]) (by rw[Zl,Xw hi];rfl);rw[e] at hu;cases hu
  obtain⟨t,rfl⟩:=ru;exact⟨t,by rw[Xk,Xw hi];rfl⟩
 rcases rR with⟨p,rfl,hq⟩|⟨z,rfl,ez⟩
 ·obtain⟨u,rfl,ru⟩:=yg r;cases ru
  rcases hq with hq|hq
  ·obtain⟨its,rv,pl,hz⟩:=I.list hq;have hl:=rv.length;rw[Ut] at hl;have gH:p<s.heap.objs.size:=by obtain⟨_,e,_⟩:=pl.isList;exact Qd e
   have eW:(s.heap.push (qH X.w)).IsList p its.toArray:=pl.isList.push _;have sz:(s.heap.push (qH X.w)).objs.size=s.heap.objs.size+1:=Jj _ _;refine vj (.ref p) (yL (s:={ s with heap:=s.heap.push (qH X.w) }) eW.typeIs F.sub_list_set F.sub_list_frozenset (by decide) (Z1 eW ?_));refine vm (Walks.list hh _ p (by rw[sz];exact Qe (Zs gH)) its.toArray) s.heap.objs.size (by rw[sz];simp;exact Qh gH) (λ i=>ss.getD i default) (pE rv) (by rw[Zm,<- hl];exact hb)
    (its.toArray.size-0) 0 _ [] rfl (Qt _) ⟨⟨_,Ys _ rfl,rfl,rfl⟩,eW.push _⟩ (jg (XD _ A1)) (Qs _) (by simp) λ h' tk l7 hk hS hm=>⟨rfl,?_⟩
   refine fin h' tk l7 (λ b o hb e=>hk b o (by simp[sz];exact⟨Qe hb,Qe (Zs hb)⟩) (XD _ (XD _ e))) hS (N1 l7 λ x=>?_);rw[hm x,Zm,<- hl]
  ·obtain⟨its,rv,pl,hz⟩:=I.tuple hq;have hl:=rv.length;rw[Ut] at hl;have gH:p<s.heap.objs.size:=by obtain⟨_,e,_⟩:=pl;exact Qd e
   have eW:(s.heap.push (qH X.w)).IsTuple p its.toArray:=by
    obtain⟨o,e,rest⟩:=pl;exact⟨o,XD _ e,rest⟩
   have sz:(s.heap.push (qH X.w)).objs.size=s.heap.objs.size+1:=Jj _ _;have hT:Shared.TypeIs { s with heap:=s.heap.push (qH X.w) } (.ref p) "tuple":=by
    obtain⟨o,e,c,rest⟩:=eW;exact⟨o,e,c⟩
   refine vj (.ref p) (yL (s:={ s with heap:=s.heap.push (qH X.w) }) hT F.sub_tuple_set F.sub_tuple_frozenset (by decide) (wpAny_pyIter_tuple eW ?_));have N6:((s.heap.push (qH X.w)).push { cls:=.type "tuple_iterator",data:=.fields #[.ref p,.int 0 0] }).IsTuple p its.toArray:=by
    obtain⟨o,e,rest⟩:=eW;exact⟨o,XD _ e,rest⟩
   refine vm (Walks.tuple hh _ p (by rw[sz];exact Qe (Zs gH)) its.toArray) s.heap.objs.size (by rw[sz];simp;exact Qh gH) (λ i=>ss.getD i default) (pE rv) (by rw[Zm,<- hl];exact hb)
    (its.toArray.size-0) 0 _ [] rfl (Qt _) ⟨⟨_,Ys _ rfl,rfl,rfl⟩,N6⟩ (jg (XD _ A1)) (Qs _) (by simp) λ h' tk l7 hk hS hm=>⟨rfl,?_⟩
   refine fin h' tk l7 (λ b o hb e=>hk b o (by simp[sz];exact⟨Qe hb,Qe (Zs hb)⟩) (XD _ (XD _ e))) hS (N1 l7 λ x=>?_);rw[hm x,Zm,<- hl]
 ·obtain⟨u,rfl,ru⟩:=yg r;obtain⟨t,rfl⟩:=ru;have hl:ss.length=z.cps.size:=by rw[ez,Ut];simp
  have sz:(s.heap.push (qH X.w)).objs.size=s.heap.objs.size+1:=Jj _ _;refine vj (.str z t) (yL (s:={ s with heap:=s.heap.push (qH X.w) }) (Q3 _ z t) F.sub_str_set F.sub_str_frozenset (by decide) (wpAny_pyIter_str λ o St W C4=>?_));refine vm (W _ hh) s.heap.objs.size (by rw[sz];simp) (λ i=>ss.getD i default) (λ i v hv=>?_) (by rw[<- hl];exact hb)
   (z.cps.size-0) 0 _ [] rfl (Qt _) C4 (jg (XD _ A1)) (Qs _) (by simp) λ h' tk l7 hk hS hm=>⟨rfl,?_⟩
  ·obtain⟨c,u,e,rfl⟩:=hv;refine⟨u,?_⟩;have e':(cs z)[i]?=some c:=by rw[XT];exact e
   rw[Xk,ez,Zl,e'];rfl
  ·refine fin h' tk l7 (λ b o hb e=>hk b o (by simp[sz];exact⟨Qe hb,Qe (Zs hb)⟩) (XD _ (XD _ e))) hS (N1 l7 λ x=>?_);rw[hm x,<- hl]
end
noncomputable def qiC(mask i:Nat):Nat:=(i*5+1) % (mask+1)
noncomputable def lit(mask:Nat):Nat->Nat->Nat
 |0,i=>i
 |k+1,i=>lit mask k (qiC mask i)
theorem qbu(mask:Nat):∀ a b i,lit mask (a+b) i=lit mask b (lit mask a i)
 |0,b,i=>by rw[Nat.zero_add];rfl
 |a+1,b,i=>by rw[Nat.add_right_comm];exact qbu mask a b (qiC mask i)
def vn(mask:Nat):Prop:=∀ i j,i<=mask->j<=mask->∃ k,k<=mask/\lit mask k i=j
noncomputable def qiD(mask:Nat):Nat->Nat->List Nat
 |0,_=>[]
 |n+1,i=>i::qiD mask n (qiC mask i)
theorem qeG(mask:Nat):∀ n i j,j∈qiD mask n i->∃ k,k<n/\lit mask k i=j
 |0,_,_,h=>by cases h
 |n+1,i,j,h=>by
  rcases Jy.mp h with e|e
  ·exact⟨0,Nat.succ_pos _,e.symm⟩
  ·obtain⟨k,hk,e⟩:=qeG mask n _ _ e;exact⟨k+1,Nat.succ_lt_succ hk,e⟩
theorem qkd{mask:Nat}(h:(List.range (mask+1)).all (λ j=>(qiD mask (mask+1) 0).contains j)=true)(hz:lit mask (mask+1) 0=0):vn mask:=by
 have cov:∀ j,j<=mask->∃ k,k<=mask/\lit mask k 0=j:=λ j hj=>by
  have:=Uh.mp h j (Jh.mpr (by omega))
  obtain⟨k,hk,e⟩:=qeG mask _ _ _ (XU.mp this);exact⟨k,by omega,e⟩
 intro i j hi hj;obtain⟨a,ha,ea⟩:=cov i hi;obtain⟨b,hb,eb⟩:=cov j hj;by_cases w6:a<=b
 ·refine⟨b-a,by omega,?_⟩;rw[<- ea,<- qbu,show a+(b-a)=b by omega,eb]
 ·refine⟨mask+1-a+b,by omega,?_⟩;rw[<- ea,<- qbu,show a+(mask+1-a+b)=(mask+1)+b by omega,qbu,hz,eb]
theorem qc8:∀(l:List Nat)(c6 j:Nat),(l.foldl (λ a x=>a ||| (1 <<< x)) c6).testBit j=(c6.testBit j || l.contains j)
 | [],c6,j=>by simp
 |x::l,c6,j=>by
  rw[Uz,qc8 l,Nat.testBit_or,Nat.one_shiftLeft,Nat.testBit_two_pow,List.contains_cons,Bool.or_assoc];congr 1
  congr 1
  by_cases h:x=j
  ·subst h;simp
  ·rw[Ja h];exact(Y4.mpr (Vb h)).symm
theorem yT{mask:Nat}(h:(qiD mask (mask+1) 0).foldl (λ a x=>a ||| (1 <<< x)) 0=2^(mask+1)-1)(hz:lit mask (mask+1) 0=0):vn mask:=by
 refine qkd (Uh.mpr λ j hj=>?_) hz;have hj:=Jh.mp hj;have e:=qc8 (qiD mask (mask+1) 0) 0 j;rw[h,Nat.testBit_two_pow_sub_one,Jt hj,Nat.zero_testBit,J4] at e;exact e.symm
theorem qk0:vn 7:=yT (by decide +kernel) (by decide +kernel)
theorem qlz:vn 15:=yT (by decide +kernel) (by decide +kernel)
theorem qlA:vn 31:=yT (by decide +kernel) (by decide +kernel)
theorem qlB:vn 63:=yT (by decide +kernel) (by decide +kernel)
theorem qke:vn 127:=yT (by decide +kernel) (by decide +kernel)
theorem qkf:vn 255:=yT (by decide +kernel) (by decide +kernel)
theorem qkg:vn 511:=yT (by decide +kernel) (by decide +kernel)
theorem qiE:vn 1023:=yT (by decide +kernel) (by decide +kernel)
theorem qiF:vn 2047:=yT (by decide +kernel) (by decide +kernel)
theorem qap{α β:Type}{f g:α->Option β}:∀{l:List α},(∀ x∈l,f x=g x)->l.filterMap f=l.filterMap g
 | [],_=>rfl
 |a::l,h=>by
  rw[Yq,Yq,h a Y7,qap λ x hx=>h x (Yf _ hx)]
noncomputable def pos(mask:Nat):Nat->Nat->Nat->Nat
 |0,i,_=>i
 |t+1,i,p=>pos mask t (SetTable.leap mask i p).1 (SetTable.leap mask i p).2
theorem qc9{mask:Nat}{owner:Array (Option Nat)}:∀(fuel i p:Nat),SetTable.layClean.free mask owner fuel i p=none->∀ t,t<fuel->(owner.getD (pos mask t i p) (some 0)).isNone=false
 |0,_,_,_,t,ht=>absurd ht (Nat.not_lt_zero _)
 |fuel+1,i,p,h,t,ht=>by
  unfold SetTable.layClean.free at h;cases e:(List.range (SetTable.runEnd mask i+1-i)).find? λ k=>(owner.getD (i+k) (some 0)).isNone with
  |some k=>rw[e] at h;cases h
  |none =>
   rw[e] at h;cases t with
   |zero =>
    have hr:i<=SetTable.runEnd mask i:=by unfold SetTable.runEnd;split <;> omega
    have:=List.find?_eq_none.mp e 0 (Jh.mpr (by omega))
    rw[Nat.add_zero] at this;show(owner.getD i (some 0)).isNone=false
    exact Zu.mpr this
   |succ t=>exact qc9 fuel _ _ h t (by omega)
theorem qda{mask:Nat}{owner:Array (Option Nat)}:∀(fuel i p j:Nat),SetTable.layClean.free mask owner fuel i p=some j->owner.getD j (some 0)=none
 |0,_,_,_,h=>by unfold SetTable.layClean.free at h;cases h
 |fuel+1,i,p,j,h=>by
  unfold SetTable.layClean.free at h;cases e:(List.range (SetTable.runEnd mask i+1-i)).find? λ k=>(owner.getD (i+k) (some 0)).isNone with
  |some k =>
   rw[e] at h;cases h
   have:=List.find?_some e
   simpa using this
  |none=>rw[e] at h;exact qda fuel _ _ _ h
theorem jJ(mask:Nat):∀(a b i p:Nat),∃ i',pos mask (a+b) i p=pos mask b i' (p / 32^a)/\(i<=mask->i'<=mask)
 |0,b,i,p=>⟨i,by simp,id⟩
 |a+1,b,i,p=>by
  obtain⟨i',e,h⟩:=jJ mask a b (SetTable.leap mask i p).1 (SetTable.leap mask i p).2;refine⟨i',?_,λ _=>h ?_⟩
  ·rw[show a+1+b=(a+b)+1 by omega];show pos mask (a+b) _ _=_
   rw[e]
   have:(SetTable.leap mask i p).2 / 32^a=p / 32^(a+1):=by
    show p / 32 / 32^a=_
    rw[XJ,Qk,Qj]
   rw[this]
  ·show(_ % _)<=_
   exact Nat.le_of_lt_succ (Nat.mod_lt _ (Nat.succ_pos _))
theorem qb8(mask:Nat):∀(t i:Nat),pos mask t i 0=lit mask t i
 |0,_=>rfl
 |t+1,i=>by
  show pos mask t ((i*5+1+0 / 32) % (mask+1)) (0 / 32)=lit mask t ((i*5+1) % (mask+1))
  rw[Nat.zero_div,Nat.add_zero];exact qb8 mask t _
theorem qkh{mask:Nat}(g:vn mask){owner:Array (Option Nat)}{i p j0:Nat}(hi:i<=mask)(hp:p<2^64)(hj:j0<=mask)(h0:owner.getD j0 (some 0)=none):
  ∃ j,SetTable.layClean.free mask owner (SetTable.turns mask) i p=some j:=by
 cases e:SetTable.layClean.free mask owner (SetTable.turns mask) i p with
 |some j=>exact⟨j,rfl⟩
 |none =>
  exfalso
  obtain⟨i',_,oJ⟩:=jJ mask 13 0 i p;have hz:p / 32^13=0:=Nat.div_eq_of_lt (Y6 hp (by decide));obtain⟨i',ei,oJ⟩:=jJ mask 13 0 i p;obtain⟨k,hk,ek⟩:=g i' j0 (oJ hi) hj;obtain⟨i2,e2,h2⟩:=jJ mask 13 k i p;obtain⟨k2,W9,ek2⟩:=g i2 j0 (h2 hi) hj;have same:∀ b,∃ i',pos mask (13+b) i p=lit mask b i'/\i'=pos mask 13 i p:=λ b=>by
   obtain⟨i3,e3,_⟩:=jJ mask 13 b i p;obtain⟨i4,e4,_⟩:=jJ mask 13 0 i p;rw[hz,qb8] at e3 e4;exact⟨pos mask 13 i p,by
    have gen:∀(a b i p:Nat),pos mask (a+b) i p=pos mask b (pos mask a i p) (p / 32^a):=by
     intro a;induction a with
     |zero=>intro b i p;simp[pos]
     |succ a ih =>
      intro b i p;rw[show a+1+b=(a+b)+1 by omega];show pos mask (a+b) _ _=pos mask b (pos mask a _ _) _
      rw[ih]
      have:(SetTable.leap mask i p).2 / 32^a=p / 32^(a+1):=by
       show p / 32 / 32^a=_
       rw[XJ,Qk,Qj]
      rw[this]
    rw[gen 13 b i p,hz,qb8],rfl⟩
  have B3:pos mask 13 i p<=mask:=by
   obtain⟨i4,e4,h4⟩:=jJ mask 13 0 i p;rw[show 13+0=13 from rfl,hz] at e4;rw[e4];exact h4 hi
  obtain⟨k,hk,ek⟩:=g _ j0 B3 hj;obtain⟨i5,e5,e6⟩:=same k
  have:=qc9 _ _ _ e (13+k) (by unfold SetTable.turns;omega)
  rw[e5,e6,ek,h0] at this;cases this
noncomputable def ow(owner:Array (Option Nat))(mask:Nat):List Nat:=(List.range (mask+1)).filterMap λ j=>owner.getD j none
theorem kn{f f':Nat->Option Nat}{j v:Nat}(h1:f j=none)(h2:f' j=some v)(h3:∀ i,i≠j->f' i=f i):∀{l:List Nat},l.Nodup->j∈l->(l.filterMap f').Perm (v::l.filterMap f)
 | [],_,h=>by cases h
 |a::l,nd,h=>by
  have K1:=Uv.mp nd;by_cases ha:a=j
  ·subst ha;rw[Xx h2,Xy h1]
   have:l.filterMap f'=l.filterMap f:=qap λ x hx=>h3 x λ e=>K1.1 (e ▸ hx)
   rw[this]
  ·have hm:j∈l:=by
    rcases Jy.mp h with e|e
    ·exact absurd e.symm ha
    ·exact e
   have ih:=kn h1 h2 h3 K1.2 hm;cases e:f a with
   |none=>rw[Xy e,Xy ((h3 a ha).trans e)];exact ih
   |some b=>rw[Xx e,Xx ((h3 a ha).trans e)];exact(ih.cons b).trans (List.Perm.swap _ _ _)
theorem qdP{owner:Array (Option Nat)}{j:Nat}(h:owner.getD j (some 0)=none):j<owner.size/\owner.getD j none=none:=by
 rw[Xg] at h ⊢;cases e:owner[j]? with
 |none=>rw[e] at h;cases h
 |some o =>
  rw[e] at h;exact⟨(Array.getElem?_eq_some_iff.mp e).1,h⟩
theorem qfT{owner:Array (Option Nat)}{mask:Nat}(hs:owner.size=mask+1)(h:(ow owner mask).length<=mask):∃ j,j<=mask/\owner.getD j (some 0)=none:=by
 by_cases hall:∃ j,j<=mask/\owner.getD j (some 0)=none
 ·exact hall
 ·exfalso
  have all:∀ j∈List.range (mask+1),∃ v,owner.getD j none=some v:=λ j hj=>by
   have hj:=Jh.mp hj
   have:owner.getD j (some 0)≠none:=λ e=>hall ⟨j,by omega,e⟩
   rw[Xg] at this ⊢;cases e:owner[j]? with
   |none=>have:=Array.getElem?_eq_none_iff.mp e;omega
   |some o =>
    rw[e] at this;cases o with
    |none=>exact absurd rfl this
    |some v=>exact⟨v,rfl⟩
  have len:∀ l:List Nat,(∀ j∈l,∃ v,owner.getD j none=some v)->(l.filterMap λ j=>owner.getD j none).length=l.length:=by
   intro l;induction l with
   |nil=>intro _;rfl
   |cons a l ih =>
    intro h;obtain⟨v,hv⟩:=h a Y7;have e1:(List.filterMap (λ j=>owner.getD j none) (a::l))=v::List.filterMap (λ j=>owner.getD j none) l:=by
     rw[Yq];rw[hv]
    rw[e1,Ua,Ua,ih λ j hj=>h j (Yf _ hj)]
  have:=len _ all
  rw[Zv] at this;unfold ow at h;omega
theorem qki(h:Int):SetTable.bits h<2^64:=by
 unfold SetTable.bits;have h1:0<=h % (2^64:Int):=U3 _ (by decide);have h2:h % (2^64:Int)<2^64:=Zg _ (by decide);omega
noncomputable def qkj(mask:Nat)(c6:Option (Array (Option Nat)×Nat))(h:Int):Option (Array (Option Nat)×Nat):=do
  let (owner,k) <- c6
  let j <- SetTable.layClean.free mask owner (SetTable.turns mask) (SetTable.bits h % (mask+1)) (SetTable.bits h)
  pure (owner.setIfInBounds j (some k),k+1)
theorem qeH{mask:Nat}(g:vn mask):∀(hs:List Int)(owner:Array (Option Nat))(k:Nat),owner.size=mask+1->(ow owner mask).Perm (List.range k)->k+hs.length<=mask ->
  ∃ o',hs.foldl (qkj mask) (some (owner,k))=some (o',k+hs.length)/\o'.size=mask+1/\(ow o' mask).Perm (List.range (k+hs.length))
 | [],owner,k,hs,hp,_=>⟨owner,rfl,hs,hp⟩
 |h::hs,owner,k,hsz,hp,hk=>by
  rw[Ua] at hk;obtain⟨j0,hj0,e0⟩:=qfT hsz (by rw[hp.length_eq,Zv];omega);obtain⟨j,ej⟩:=qkh g (owner:=owner) (i:=SetTable.bits h % (mask+1)) (p:=SetTable.bits h) (Nat.le_of_lt_succ (Nat.mod_lt _ (Nat.succ_pos _))) (qki h) hj0 e0;obtain⟨xO,hjn⟩:=qdP (qda _ _ _ _ ej);have step:qkj mask (some (owner,k)) h=some (owner.setIfInBounds j (some k),k+1):=by
   unfold qkj;show(SetTable.layClean.free mask owner (SetTable.turns mask) (SetTable.bits h % (mask+1)) (SetTable.bits h) >>= _)=_
   rw[ej];rfl
  have B4:(ow (owner.setIfInBounds j (some k)) mask).Perm (List.range (k+1)):=by
   have:=kn (f:=λ j=>owner.getD j none) (f':=λ i=>(owner.setIfInBounds j (some k)).getD i none) (j:=j) (v:=k) hjn
    (by show(owner.setIfInBounds j (some k)).getD j none=_;rw[Xg,Array.getElem?_setIfInBounds_self_of_lt xO];rfl)
    (λ i hi=>by show(owner.setIfInBounds j (some k)).getD i none=_;rw[Xg,Array.getElem?_setIfInBounds_ne (Vb hi),<- Xg])
    (l:=List.range (mask+1)) List.nodup_range (Jh.mpr (by omega))
   refine this.trans ?_;rw[show List.range (k+1)=List.range k++[k] from U4];exact(List.Perm.cons k hp).trans (List.perm_append_comm (l₁:=[k]) (l₂:=List.range k))
  obtain⟨o',e,h1,h2⟩:=qeH g hs (owner.setIfInBounds j (some k)) (k+1) (by rw[Array.size_setIfInBounds];exact hsz) B4 (by omega);refine⟨o',?_,h1,?_⟩
  ·rw[Uz,step,e,Ua];congr 2;omega
  ·rw[Ua,show k+(hs.length+1)=k+1+hs.length by omega];exact h2
theorem qeI{mask:Nat}(g:vn mask)(hs:Array Int)(hk:hs.size<=mask):∃ o',SetTable.layClean mask hs=some o'/\o'.size=mask+1/\(ow o' mask).Perm (List.range hs.size):=by
 have h0:(ow (Array.replicate (mask+1) none) mask).Perm (List.range 0):=by
  have:ow (Array.replicate (mask+1) none) mask=[]:=by
   unfold ow;rw[List.filterMap_eq_nil_iff];intro j hj;rw[Xg,Array.getElem?_replicate];split <;> rfl
  rw[this];exact Jl _
 obtain⟨o',e,h1,h2⟩:=qeH g hs.toList (Array.replicate (mask+1) none) 0 (by simp) h0 (by simpa using hk);refine⟨o',?_,h1,by simpa using h2⟩;unfold SetTable.layClean;rw[<- Array.foldl_toList]
 have:(List.foldl (qkj mask) (some (Array.replicate (mask+1) none,0)) hs.toList).map (·.1)=some o':=by rw[e];rfl
 exact this
theorem qgL{mask:Nat}(g:vn mask)(finger moves:Nat)(led plain:Bool)(hs:Array Int)(hk:hs.size<=mask):
  ∃ t o0,SetTable.laid mask finger moves led plain hs=some (t,o0)/\t.fits hs.size=true/\t.led=led/\t.plain=plain/\t.mask=mask/\t.dummies=#[]/\t.place.size=hs.size/\o0.toList.Perm (List.range hs.size):=by
 obtain⟨o',e,h1,h2⟩:=qeI g hs hk;have c5:((List.range (mask+1)).filterMap λ j=>(o'.getD j none).map (j,·)).length=hs.size:=by
  rw[<- Ut (f:=(·.2)),List.map_filterMap]
  have:(List.range (mask+1)).filterMap (λ x=>Option.map (λ x=>x.2) ((o'.getD x none).map (x,·)))=ow o' mask:=by
   unfold ow;refine qap λ j _=>?_
   cases o'.getD j none with
   |none=>rfl
   |some v=>rfl
  rw[this,h2.length_eq,Zv]
 refine⟨_,_,by unfold SetTable.laid;rw[e];rfl,?_,rfl,rfl,rfl,rfl,?_,?_⟩
 ·unfold SetTable.fits SetTable.fill;rw[Zm,Ut,c5];simpa using hk
 ·dsimp only;rw[Zm,Ut,c5]
 ·show(((List.range (mask+1)).filterMap λ j=>(o'.getD j none).map (j,·)).map (·.2)).Perm _
  rw[List.map_filterMap]
  have:(List.range (mask+1)).filterMap (λ x=>Option.map (λ x=>x.2) ((o'.getD x none).map (x,·)))=ow o' mask:=by
   unfold ow;refine qap λ j _=>?_
   cases o'.getD j none with
   |none=>rfl
   |some v=>rfl
  rw[this];exact h2
theorem qfU{α:Type}(es:Array α){o0:List Nat}(hp:o0.Perm (List.range es.size)):(o0.filterMap (es[·]?)).Perm es.toList:=by
 refine(hp.filterMap _).trans ?_
 have:∀(l:List α),(List.range l.length).filterMap (λ i=>l[i]?)=l:=by
  intro l;induction l with
  |nil=>rfl
  |cons a l ih =>
   have e:(List.filterMap (λ i=>(a::l)[i]?) (0::List.map Nat.succ (List.range l.length)))=a::List.filterMap (λ i=>(a::l)[i]?) (List.map Nat.succ (List.range l.length)):=by
    rw[Yq];rfl
   rw[Ua,List.range_succ_eq_map,e,List.filterMap_map];exact congrArg (a::·) ih
 have h:=this es.toList;rw[Yr] at h;have e:(λ i=>es.toList[i]?)=λ i=>es[i]?:=funext λ i=>XT
 rw[e] at h;rw[h]
namespace F
theorem slot_set_iterator_next:Slot "set_iterator" "__next__" "set_iterator.__next__":=
 .of (owner:="set_iterator") (n:="__next__") (by rw[Jf,Ye];kernel_rfl) (by decide +kernel) (by decide +kernel) (by decide +kernel)
  (by first|exact .inl (by decide +kernel)|exact .inr (by decide +kernel)) (by rw[Ju];kernel_rfl)
theorem entry_set_iterator_next:entryFor table "set_iterator.__next__"=some Builtin.«set_iterator.__next__»:=entryFor_of_fast (by kernel_rfl)
theorem args_set_iterator_next_1(a:Value):argsOk "set_iterator.__next__" ⟨[a],[]⟩:=by unfold argsOk;kernel_rfl
theorem slot_set_iterator_iter:Slot "set_iterator" "__iter__" "set_iterator.__iter__":=
 .of (owner:="set_iterator") (n:="__iter__") (by rw[Jf,Ye];kernel_rfl) (by decide +kernel) (by decide +kernel) (by decide +kernel)
  (by first|exact .inl (by decide +kernel)|exact .inr (by decide +kernel)) (by rw[Ju];kernel_rfl)
theorem entry_set_iterator_iter:entryFor table "set_iterator.__iter__"=some Builtin.«dict_keyiterator.__iter__»:=
 Jv (id':="dict_keyiterator.__iter__") (by kernel_rfl) rfl (by decide +kernel) (by kernel_rfl)
theorem args_set_iterator_iter_1(a:Value):argsOk "set_iterator.__iter__" ⟨[a],[]⟩:=by unfold argsOk;kernel_rfl
theorem entry_set_iter:entryFor table "set.__iter__"=some Builtin.«frozenset.__iter__»:=
 Jv (id':="frozenset.__iter__") (by kernel_rfl) rfl (by decide +kernel) (by kernel_rfl)
theorem args_set_iter_1(a:Value):argsOk "set.__iter__" ⟨[a],[]⟩:=by unfold argsOk;kernel_rfl
theorem entry_set_xor:entryFor table "set.__xor__"=some Builtin.«frozenset.__xor__»:=
 Jv (id':="frozenset.__xor__") (by kernel_rfl) rfl (by decide +kernel) (by kernel_rfl)
end F
theorem qaq{α:Type}(next:Nat->Nat):∀(fuel k:Nat)(left:List α)(out:Array α),fuel=left.length->(pickOrder.go next fuel k left out).toList.Perm (out.toList++left)
 |0,k,left,out,h=>by
  have:left=[]:=Xe h.symm
  subst this;unfold pickOrder.go;rw[Uu]
 |fuel+1,k,left,out,h=>by
  unfold pickOrder.go;have c8:next k % left.length<left.length:=Nat.mod_lt _ (by omega);rw[Xw c8];dsimp only;refine(qaq next fuel (k+1) _ _ (by rw[Xl c8];omega)).trans ?_;rw[Zt,Zp];exact List.Perm.append_left _ (kI left _ c8)
theorem qdb{α:Type}(next:Nat->Nat)(xs:Array α):(pickOrder next xs).toList.Perm xs.toList:=by
 unfold pickOrder
 have:=qaq next xs.size 0 xs.toList #[] (by simp)
 simpa using this
section
variable {prog:Program}{w:World}{A:Around}{E:Value->Shared->Prop}{s:Shared}
theorem qhy{a:Addr}{o:Obj}{es:Array (Int×Value)}{ep:Nat}{t:SetTable}{Q:Array (Int×Value)->Shared->Prop}(ho:s.heap.get? a=some o)(hd:o.data=.set es ep t)(hf:t.fits es.size=true)(hl:t.led=true∨byT w)(h:∀ p6 d,p6.toList.Perm es.toList->Q p6 { s with drawn:=d }):wpAny (model prog w) A (setWalk a) Q E s:=by
 have h0:∀ p6,p6.toList.Perm es.toList->Q p6 s:=λ p6 hp=>by
  have:=h p6 s.drawn hp
  cases s;exact this
 unfold setWalk;refine Qz (Z6 ho hd hf ?_);dsimp only;unfold setsByText;refine Qz (Qz (Uo (Q0 ?_)));dsimp only;refine Jg (λ hb=>?_) (λ hb=>?_)
 ·refine Qz (Uo (Q0 ?_));exact h0 _ (qdb _ _)
 ·refine Jg (λ oR=>?_) (λ oR=>?_)
  ·refine Qz (yK es.size es.toList _ _ (by simp) λ ys d hp=>Q0 ?_);exact h _ d (by simpa using hp)
  ·refine Qz ?_;have S4:t.led=true:=hl.resolve_right hb;show wpAny _ _ (if (!t.led && decide (es.size > 1))=true then _ else _) _ _ s
   rw[S4];simp only[J5,Ji,Zd,Q7];exact Q0 (Q0 (h0 _ (Jl _)))
noncomputable abbrev itO(first:Value)(i:Nat)(S:Addr)(n ep:Nat):Obj:={ cls:=.type "set_iterator",data:=.fields #[first,.int i 0,.ref S,.int n 0,.int ep 0] }
theorem qeJ{I S:Addr}{sl i n ep nx:Nat}{x:Value}{o:Obj}{es:Array (Int×Value)}{t:SetTable}{Q:Option Value->Shared->Prop}(n8:s.heap.get? I=some (itO (.int sl 0) i S n ep))(ho:s.heap.get? S=some o)(hd:o.data=.set es ep t)(hf:t.fits es.size=true)(hn:es.size=n)(hN:∀(Q:Option (Value×Nat)->Shared->Prop)(E:Value->Shared->Prop),Q (some (x,nx)) s->wpAny (model prog w) A.in1 (setNext S sl i ep) Q E s)(hQ:∀ h',h'.get? I=some (itO (.int nx 0) (i+1) S n ep)->Heap.SameBut I s.heap h'->Q (some x) { s with heap:=h' }):wpAny (model prog w) A (pyNext (.ref I)) Q E s:=by
 have hT:s.TypeIs (.ref I) "set_iterator":=⟨_,n8,rfl⟩;unfold pyNext;refine Qz (Qb (XC (name:=Str.ofString "__next__") hT F.slot_set_iterator_next
  (Um F.slot_set_iterator_next hT F.entry_set_iterator_next ?_ (F.args_set_iterator_next_1 _))))
 unfold Builtin.«set_iterator.__next__»;show wpAny _ _ (fieldsOf (.ref I) >>= _) _ _ s
 refine Qz (Jw n8 rfl ?_);show wpAny _ _ (setEntries S >>= _) _ _ s
 refine Qz (Y5 ho hd hf ?_);rw[hn];simp only[Z7,Zd,Q7];show wpAny _ _ (setNext S (sl:Int).toNat (i:Int).toNat (ep:Int).toNat >>= _) _ _ s
 simp only[Zn];refine Qz (hN _ _ ?_);dsimp only;refine Qz (Zk n8 (by simp) λ h1 K5 P7=>?_);refine Qz (Zk K5 (by simp) λ h2 xQ p7=>?_);refine Q0 ⟨x,rfl,Q0 (hQ h2 ?_ (P7.trans p7))⟩;rw[xQ];rfl
theorem qeK{I S:Addr}{sl i n ep:Nat}{o:Obj}{es:Array (Int×Value)}{t:SetTable}{Q:Option Value->Shared->Prop}(hh:A.handled=none)(n8:s.heap.get? I=some (itO (.int sl 0) i S n ep))(ho:s.heap.get? S=some o)(hd:o.data=.set es ep t)(hf:t.fits es.size=true)(hn:es.size=n)(hN:∀(Q:Option (Value×Nat)->Shared->Prop)(E:Value->Shared->Prop),Q none s->wpAny (model prog w) A.in1 (setNext S sl i ep) Q E s)(hQ:∀ h',Heap.ExtBut I s.heap h'->Q none { s with heap:=h' }):wpAny (model prog w) A (pyNext (.ref I)) Q E s:=by
 have hT:s.TypeIs (.ref I) "set_iterator":=⟨_,n8,rfl⟩;unfold pyNext;refine Qz (Qb (XC (name:=Str.ofString "__next__") hT F.slot_set_iterator_next
  (Um F.slot_set_iterator_next hT F.entry_set_iterator_next ?_ (F.args_set_iterator_next_1 _))))
 unfold Builtin.«set_iterator.__next__»;show wpAny _ _ (fieldsOf (.ref I) >>= _) _ _ s
 refine Qz (Jw n8 rfl ?_);show wpAny _ _ (setEntries S >>= _) _ _ s
 refine Qz (Y5 ho hd hf ?_);rw[hn];simp only[Z7,Zd,Q7];show wpAny _ _ (setNext S (sl:Int).toNat (i:Int).toNat (ep:Int).toNat >>= _) _ _ s
 simp only[Zn];refine Qz (hN _ _ ?_);dsimp only;refine Qz (wpAny_setField n8 rfl (by simp) ?_);show wpAny _ _ (newExc (.type "StopIteration") [] >>= _) _ _ _
 refine Qz ?_;simp only[newExc,newTuple];refine Qz (Z0 ?_ (by size_fits));refine Qz (m:=firstArgMember _ _) (Qx (a:=Value.none) (by first|rfl|(simp only[firstArgMember];rfl)) ?_);refine Z0 ?_ (by size_fits);simp only[raiseNew];refine Qz (wpAny_handled ?_)
 first|rw[show A.in1.handled=none from hh]|rw[hh]
 refine Qz (Q0 (wpAny_throw ?_));refine Qz (Up (T:="StopIteration") (b:=true) ⟨_,Ys _ rfl,rfl⟩ isSubtype_stop ?_);exact Q0 (hQ _ (((Yx ..).extBut.push _).push _))
theorem qiG{I S T:Addr}{i n ep k:Nat}{pl:Array Value}{x:Value}{hx:Int}{o:Obj}{es:Array (Int×Value)}{t:SetTable}{Q:Option Value->Shared->Prop}(n8:s.heap.get? I=some (itO (.ref T) i S n ep))(hp:s.heap.IsTuple T pl)(ho:s.heap.get? S=some o)(hd:o.data=.set es ep t)(hf:t.fits es.size=true)(hn:es.size=n)(hk:pl[i]?=some (.int k 0))(hx:es[k]?=some (hx,x))(hQ:∀ h',h'.get? I=some (itO (.ref T) (i+1) S n ep)->Heap.SameBut I s.heap h'->Q (some x) { s with heap:=h' }):wpAny (model prog w) A (pyNext (.ref I)) Q E s:=by
 have hT:s.TypeIs (.ref I) "set_iterator":=⟨_,n8,rfl⟩;obtain⟨ot,eV,_,nt,iA⟩:=hp;unfold pyNext;refine Qz (Qb (XC (name:=Str.ofString "__next__") hT F.slot_set_iterator_next
  (Um F.slot_set_iterator_next hT F.entry_set_iterator_next ?_ (F.args_set_iterator_next_1 _))))
 unfold Builtin.«set_iterator.__next__»;show wpAny _ _ (fieldsOf (.ref I) >>= _) _ _ s
 refine Qz (Jw n8 rfl ?_);show wpAny _ _ (setEntries S >>= _) _ _ s
 refine Qz (Y5 ho hd hf ?_);rw[hn];simp only[Z7,Zd,Q7];show wpAny _ _ (seqItems? (.ref T) >>= _) _ _ s
 refine Qz (wpAny_seqItems eV iA ?_);simp only[Zn,hk];show wpAny _ _ (setNextDrawn S (k:Int).toNat (ep:Int).toNat >>= _) _ _ s
 simp only[Zn];unfold setNextDrawn;refine Qz (Qz (Z6 ho hd hf ?_));simp only[Z7,Zd,Q7,hx];refine Q0 ?_;refine Qz (Zk n8 (by simp) λ h1 K5 P7=>?_);refine Q0 ⟨x,rfl,Q0 (hQ h1 ?_ P7)⟩;rw[K5];rfl
theorem qiH{I S T:Addr}{i n ep:Nat}{pl:Array Value}{o:Obj}{es:Array (Int×Value)}{t:SetTable}{Q:Option Value->Shared->Prop}(hh:A.handled=none)(n8:s.heap.get? I=some (itO (.ref T) i S n ep))(hp:s.heap.IsTuple T pl)(ho:s.heap.get? S=some o)(hd:o.data=.set es ep t)(hf:t.fits es.size=true)(hn:es.size=n)(hk:pl[i]?=none)(hQ:∀ h',Heap.ExtBut I s.heap h'->Q none { s with heap:=h' }):wpAny (model prog w) A (pyNext (.ref I)) Q E s:=by
 have hT:s.TypeIs (.ref I) "set_iterator":=⟨_,n8,rfl⟩;obtain⟨ot,eV,_,nt,iA⟩:=hp;unfold pyNext;refine Qz (Qb (XC (name:=Str.ofString "__next__") hT F.slot_set_iterator_next
  (Um F.slot_set_iterator_next hT F.entry_set_iterator_next ?_ (F.args_set_iterator_next_1 _))))
 unfold Builtin.«set_iterator.__next__»;show wpAny _ _ (fieldsOf (.ref I) >>= _) _ _ s
 refine Qz (Jw n8 rfl ?_);show wpAny _ _ (setEntries S >>= _) _ _ s
 refine Qz (Y5 ho hd hf ?_);rw[hn];simp only[Z7,Zd,Q7];show wpAny _ _ (seqItems? (.ref T) >>= _) _ _ s
 refine Qz (wpAny_seqItems eV iA ?_);simp only[Zn,hk];refine Qz (Zk n8 (by simp) λ h1 K5 P7=>?_);refine Qz (wpAny_setField K5 rfl (by simp) ?_);show wpAny _ _ (newExc (.type "StopIteration") [] >>= _) _ _ _
 refine Qz ?_;simp only[newExc,newTuple];refine Qz (Z0 ?_ (by size_fits));refine Qz (m:=firstArgMember _ _) (Qx (a:=Value.none) (by first|rfl|(simp only[firstArgMember];rfl)) ?_);refine Z0 ?_ (by size_fits);simp only[raiseNew];refine Qz (wpAny_handled ?_)
 first|rw[show A.in1.handled=none from hh]|rw[hh]
 refine Qz (Q0 (wpAny_throw ?_));refine Qz (Up (T:="StopIteration") (b:=true) ⟨_,Ys _ rfl,rfl⟩ isSubtype_stop ?_);exact Q0 (hQ _ ((((P7.trans (Yx ..))).extBut.push _).push _))
theorem qdQ{I S:Addr}{i n ep:Nat}{first:Value}{Q:Value->Shared->Prop}(n8:s.heap.get? I=some (itO first i S n ep))(h:Q (.ref I) s):wpAny (model prog w) A (pyIter (.ref I)) Q E s:=by
 have hT:s.TypeIs (.ref I) "set_iterator":=⟨_,n8,rfl⟩;refine wpAny_pyIter_slot hT F.slot_set_iterator_iter (Um F.slot_set_iterator_iter hT F.entry_set_iterator_iter ?_ (F.args_set_iterator_iter_1 _));show wpAny _ _ (ret (.ref I)) _ _ s
 exact Q0 ⟨_,rfl,"set_iterator",_,hT,F.slot_set_iterator_next.lookup,h⟩
theorem kJ{α β:Type}{F:α->β->Prop}:∀{xs:List α}{l:List β},Paired F xs l->∀(k:Nat)(b:β),l[k]?=some b->∃ a,xs[k]?=some a/\F a b
 |_,_,.nil,k,b,h=>by simp at h
 |_,_,.cons r t,0,b,h=>by simp at h;subst h;exact⟨_,rfl,r⟩
 |_,_,.cons r t,k+1,b,h=>by
  obtain⟨a,h1,h2⟩:=kJ t k b (by simpa using h);exact⟨a,by simpa using h1,h2⟩
theorem jh{α β:Type}{F:α->β->Prop}:∀{xs:List α}{l:List β},Paired F xs l->∀(k:Nat)(a:α),xs[k]?=some a->∃ b,l[k]?=some b/\F a b
 |_,_,.nil,k,b,h=>by simp at h
 |_,_,.cons r t,0,b,h=>by simp at h;subst h;exact⟨_,rfl,r⟩
 |_,_,.cons r t,k+1,b,h=>by
  obtain⟨a,h1,h2⟩:=jh t k b (by simpa using h);exact⟨a,by simpa using h1,h2⟩
abbrev qb9(zs:List Str)(i:Nat)(v:Value):Prop:=∃ t,v=.str (zs.getD i default) t
theorem qdc{α:Type}[Inhabited α]{l:List α}{i:Nat}{x:α}(h:l[i]?=some x):l.getD i default=x:=by rw[Xk,h];rfl
theorem qca{ys:List Str}{p:List Nat}(hp:p.Perm (List.range ys.length)):(p.map λ k=>ys.getD k default).Perm ys:=by
 refine(hp.map _).trans ?_
 have:∀(l:List Str),(List.range l.length).map (λ k=>l.getD k default)=l:=by
  intro l;refine List.ext_getElem (by simp) λ i h1 h2=>?_
  simp at h1;simp[h1]
 rw[this]
theorem Walks.setDrawn(hh:A.handled=none){I S T:Addr}(hIT:T≠I)(pA:S≠I){ys:List Str}{p:List Nat}(hp:p.Perm (List.range ys.length)){o:Obj}{es:Array (Int×Value)}{ep:Nat}{t:SetTable}(hd:o.data=.set es ep t)(hf:t.fits es.size=true)(N4:Paired (qaW prog w) ys es.toList):
  Walks prog w A I [I,T,S] [I] ys.length (qb9 (p.map λ k=>ys.getD k default)) (λ i h=>h.get? I=some (itO (.ref T) i S ys.length ep)/\h.IsTuple T ((p.map λ k=>(.int (k:Nat) 0:Value)).toArray)/\h.get? S=some o) where
 sub:=λ b hb=>by simp at hb;simp[hb]
 frame:=λ i h h' st k=>⟨k I (by simp) _ st.1,let ⟨o,ho,r⟩:=st.2.1;⟨o,k T (by simp) _ ho,r⟩,k S (by simp) _ st.2.2⟩
 item:=λ i s Q E hi st hQ=>by
  have hn:es.size=ys.length:=by rw[<- Yr,<- N4.length]
  have xR:i<p.length:=by rw[hp.length_eq,Zv];exact hi
  have hk:p[i]<ys.length:=Jh.mp (hp.mem_iff.mp (Ui xR));obtain⟨e,he,h1,t',h2⟩:=jh N4 p[i] ys[p[i]] (Xw hk);have oN:es[p[i]]?=some (e.1,e.2):=by rw[<- XT];exact he
  refine qiG (k:=p[i]) (x:=e.2) (hx:=e.1) st.1 st.2.1 st.2.2 hd hf hn ?_ oN λ h' C6 A6=>?_
  ·simp[xR]
  ·refine hQ _ h' s.toks ⟨t',?_⟩ ⟨C6,?_,?_⟩ λ b o hb e=>A6.extBut b o (λ h=>hb (by simp[h])) e
   ·rw[h2];congr 1
    rw[Xk,Zl,Xw xR];show _=ys.getD p[i] default
    rw[Xk,Xw hk];rfl
   ·obtain⟨o,ho,r⟩:=st.2.1;exact⟨o,(A6.2 T hIT).trans ho,r⟩
   ·exact(A6.2 S pA).trans st.2.2
 done:=λ s Q E st hQ=>by
  have hn:es.size=ys.length:=by rw[<- Yr,<- N4.length]
  refine qiH hh st.1 st.2.1 st.2.2 hd hf hn ?_ λ h' cY=>hQ h' s.toks λ b o hb e=>cY b o (λ h=>hb (by simp[h])) e
  have:p.length=ys.length:=by rw[hp.length_eq,Zv]
  simp[this]
 self:=λ i s Q E st hQ=>qdQ st.1 hQ
theorem Walks.setText(hb:byT w)(hh:A.handled=none){I S:Addr}(pA:S≠I){ys zs:List Str}{o:Obj}{es p6:Array (Int×Value)}{ep:Nat}{t:SetTable}(hd:o.data=.set es ep t)(hf:t.fits es.size=true)(hn:es.size=ys.length)(he:p6=pickOrder (w.params.setOrder S ep) es)(N4:Paired (qaW prog w) zs p6.toList)(hz:zs.length=ys.length):
  Walks prog w A I [I,S] [I] ys.length (qb9 zs) (λ i h=>h.get? I=some (itO (.int (0:Nat) 0) i S ys.length ep)/\h.get? S=some o) where
 sub:=λ b hb=>by simp at hb;simp[hb]
 frame:=λ i h h' st k=>⟨k I (by simp) _ st.1,k S (by simp) _ st.2⟩
 item:=λ i s Q E hi st hQ=>by
  obtain⟨e,oN,h1,t',h2⟩:=jh N4 i (zs[i]'(by omega)) (Xw (by omega));refine qeJ (nx:=0) (x:=e.2) st.1 st.2 hd hf hn ?_ λ h' C6 A6=>?_
  ·intro Q E h;unfold setNext;refine Qz (Z6 st.2 hd hf ?_);dsimp only;unfold setsByText;refine Qz (Qz (Uo (Q0 ?_)));dsimp only;refine Jg (λ _=>?_) (λ bM=>absurd hb bM);simp only[Z7,Zd,Q7];unfold setWalk;refine Qz (Qz (Z6 st.2 hd hf ?_));dsimp only;unfold setsByText;refine Qz (Qz (Uo (Q0 ?_)));dsimp only;refine Jg (λ _=>?_) (λ bM=>absurd hb bM);refine Qz (Uo (Q0 (Q0 ?_)));have e1:(pickOrder (w.params.setOrder S ep) es)[i]?=some e:=by rw[<- he,<- XT];exact oN
   show Q (((pickOrder (w.params.setOrder S ep) es)[i]?).map λ e=>(e.2,0)) s
   rw[e1];exact h
  ·refine hQ _ h' s.toks ⟨t',?_⟩ ⟨C6,(A6.2 S pA).trans st.2⟩ λ b o hb e=>A6.extBut b o (λ h=>hb (by simp[h])) e
   rw[h2,qdc (Xw (by omega))]
 done:=λ s Q E st hQ=>by
  refine qeK hh st.1 st.2 hd hf hn ?_ λ h' cY=>hQ h' s.toks λ b o hb e=>cY b o (λ h=>hb (by simp[h])) e
  intro Q E h;unfold setNext;refine Qz (Z6 st.2 hd hf ?_);dsimp only;unfold setsByText;refine Qz (Qz (Uo (Q0 ?_)));dsimp only;refine Jg (λ _=>?_) (λ bM=>absurd hb bM);simp only[Z7,Zd,Q7];unfold setWalk;refine Qz (Qz (Z6 st.2 hd hf ?_));dsimp only;unfold setsByText;refine Qz (Qz (Uo (Q0 ?_)));dsimp only;refine Jg (λ _=>?_) (λ bM=>absurd hb bM);refine Qz (Uo (Q0 (Q0 ?_)));have e1:(pickOrder (w.params.setOrder S ep) es)[ys.length]?=none:=by
   rw[<- he,<- XT,XX];rw[<- N4.length];omega
  show Q (((pickOrder (w.params.setOrder S ep) es)[ys.length]?).map λ e=>(e.2,0)) s
  rw[e1];exact h
 self:=λ i s Q E st hQ=>qdQ st.1 hQ
theorem Walks.setOne(hb:¬ byT w)(hh:A.handled=none){I S:Addr}(pA:S≠I){ys:List Str}{o:Obj}{es:Array (Int×Value)}{ep:Nat}{t:SetTable}(hd:o.data=.set es ep t)(hf:t.fits es.size=true)(hl:t.led=true)(N4:Paired (qaW prog w) ys es.toList)(h1:ys.length<=1):
  Walks prog w A I [I,S] [I] ys.length (qb9 ys) (λ i h=>h.get? I=some (itO (.int (if i=0 then 0 else t.place.getD 0 0+1:Nat) 0) i S ys.length ep)/\h.get? S=some o) where
 sub:=λ b hb=>by simp at hb;simp[hb]
 frame:=λ i h h' st k=>⟨k I (by simp) _ st.1,k S (by simp) _ st.2⟩
 item:=λ i s Q E hi st hQ=>by
  have hi0:i=0:=by omega
  subst hi0;have hn:es.size=ys.length:=by rw[<- Yr,<- N4.length]
  obtain⟨e,oN,q1,t',q2⟩:=jh N4 0 (ys[0]'hi) (Xw hi);have cQ:t.place.size=1:=by
   simp only[SetTable.fits,Uf,Q2] at hf;omega
  have t8:t.place[0]?=some (t.place.getD 0 0):=by
   rw[Xg,Xo (by omega)];rfl
  refine qeJ (nx:=t.place.getD 0 0+1) (x:=e.2) st.1 st.2 hd hf hn ?_ λ h' C6 A6=>?_
  ·intro Q E h;unfold setNext;refine Qz (Z6 st.2 hd hf ?_);dsimp only;unfold setsByText;refine Qz (Qz (Uo (Q0 ?_)));dsimp only;refine Jg (λ cZ=>absurd cZ hb) (λ _=>?_);refine Jg (λ cZ=>absurd cZ ?_) (λ _=>?_)
   ·show ¬ ((!t.plain && decide (es.size > 1))=true)
    rw[show decide (es.size > 1)=false from Ja (by omega),Jm];exact Y8
   refine Qz ?_;show wpAny _ _ (if (!t.led && !es.isEmpty)=true then _ else _) _ _ s
   rw[hl];simp only[J5,Ji,Zd,Q7];refine Q0 ?_;have eb:SetTable.below t.place 0=0:=by
    unfold SetTable.below;rw[cQ];unfold SetTable.below.go;simp
    unfold SetTable.below.go;rfl
   refine Q0 ?_;simp only[Vd,eb];have ee:es[0]?=some (e.1,e.2):=by rw[<- XT];exact oN
   rw[ee,t8];exact h
  ·refine hQ _ h' s.toks ⟨t',?_⟩ ⟨?_,(A6.2 S pA).trans st.2⟩ λ b o hb e=>A6.extBut b o (λ h=>hb (by simp[h])) e
   ·rw[q2,qdc (Xw hi)]
   ·rw[C6,Vi (by omega)]
 done:=λ s Q E st hQ=>by
  have hn:es.size=ys.length:=by rw[<- Yr,<- N4.length]
  refine qeK hh st.1 st.2 hd hf hn ?_ λ h' cY=>hQ h' s.toks λ b o hb e=>cY b o (λ h=>hb (by simp[h])) e
  intro Q E h;unfold setNext;refine Qz (Z6 st.2 hd hf ?_);dsimp only;unfold setsByText;refine Qz (Qz (Uo (Q0 ?_)));dsimp only;refine Jg (λ cZ=>absurd cZ hb) (λ _=>?_);refine Jg (λ cZ=>absurd cZ ?_) (λ _=>?_)
  ·show ¬ ((!t.plain && decide (es.size > 1))=true)
   rw[show decide (es.size > 1)=false from Ja (by omega),Jm];exact Y8
  refine Qz ?_;show wpAny _ _ (if (!t.led && !es.isEmpty)=true then _ else _) _ _ s
  rw[hl];simp only[J5,Ji,Zd,Q7];refine Q0 (Q0 ?_);have cQ:t.place.size=ys.length:=by
   simp only[SetTable.fits,Uf,Q2] at hf;omega
  have i8:es[SetTable.below t.place (if ys.length=0 then 0 else t.place.getD 0 0+1)]?=none:=by
   by_cases h0:ys.length=0
   ·rw[Array.getElem?_eq_none (by omega)]
   ·rw[Vi h0];have nG:ys.length=1:=by omega
    have eb:SetTable.below t.place (t.place.getD 0 0+1)=1:=by
     unfold SetTable.below;rw[cQ,nG];unfold SetTable.below.go
     have:t.place.getD 0 (t.place.getD 0 0+1)<t.place.getD 0 0+1:=by
      have e:t.place.getD 0 (t.place.getD 0 0+1)=t.place.getD 0 0:=by
       rw[Xg,Xg,Xo (by omega)];rfl
      rw[e];exact Ub _
     simp only[Nat.zero_lt_one,Vd,Nat.reduceAdd,Nat.reduceDiv,this];unfold SetTable.below.go;rfl
    rw[eb,Array.getElem?_eq_none (by omega)]
  rw[i8];exact h
 self:=λ i s Q E st hQ=>qdQ st.1 hQ
theorem qiI{S:Addr}{ys:List Str}{Q:Value->Shared->Prop}(hS:qM prog w s.heap S ys)(h:∀(I:Addr)(h':Heap)(d:Drawn)(zs:List Str)(fp:List Addr)(St:Nat->Heap->Prop),zs.Perm ys->(∀ b o,s.heap.get? b=some o->h'.get? b=some o)->s.heap.objs.size<=I->I∈fp->(∀ b∈fp,b<h'.objs.size/\(b=S∨s.heap.objs.size<=b)) ->
   (∀ A:Around,A.handled=none->Walks prog w A I fp [I] ys.length (qb9 zs) St)->St 0 h'->Q (.ref I) { s with heap:=h',drawn:=d }):wpAny (model prog w) A (pyIter (.ref S)) Q E s:=by
 have hTy:=hS.typeIs (s:=s);obtain⟨o,es,ep,t,ho,hex,hd,N4,nd,hb,hf,hl,t8⟩:=hS;have hn:es.size=ys.length:=by rw[<- Yr,<- N4.length]
 have c8:S<s.heap.objs.size:=Qd ho;have hsz:ys.length<=sizeLine:=Qg (Y6 hb (by decide));refine wpAny_pyIter_slot hTy PySem.F.slot_set_iter (Um PySem.F.slot_set_iter hTy F.entry_set_iter ?_ (F.args_set_iter_1 _));unfold Builtin.«frozenset.__iter__»;show wpAny _ _ (Builtin.Frozenset.sizeOf S >>= _) _ _ s
 unfold Builtin.Frozenset.sizeOf;refine Qz (Qz (Y5 ho hd hf (Q0 ?_)));unfold setDrawn;refine Qz (Qz (Z6 ho hd hf ?_));dsimp only;unfold setsByText;refine Qz (Qz (Uo (Q0 (Q0 ?_))));show wpAny _ _ (if (!w.params.followText "set-order" && (!t.plain && decide (es.size > 1)))=true then _ else _) _ _ s
 refine Jg (λ hc=>?_) (λ hc=>?_)
 ·refine Qz (yK es.size (List.range es.size) _ _ (by simp) λ p d hp=>?_);rw[hn] at hp;have xE:p.length=ys.length:=by rw[hp.length_eq,Zv]
  refine Qz (wpAny_newTuple (items:=p.map λ(i:Nat)=>rawInt i) ?_ (by rw[Ut,xE];exact hsz));refine Qz (Z8 (XD _ ho) hd hf ?_);rw[hn];refine Qz (Z0 (Q0 ⟨_,rfl,"set_iterator",_,⟨_,Ys _ rfl,rfl⟩,F.slot_set_iterator_next.lookup,?_⟩));have gC:(s.heap.push { cls:=Value.type "tuple",data:=Data.seq (p.map λ(i:Nat)=>rawInt i).toArray }).objs.size=s.heap.objs.size+1:=Jj _ _;refine h _ _ d (p.map λ k=>ys.getD k default) [_,s.heap.objs.size,S] _ (qca hp) (λ b o e=>XD _ (XD _ e)) ?_ (by simp) ?_ (λ A hA=>Walks.setDrawn hA (I:=(s.heap.push { cls:=Value.type "tuple",data:=Data.seq (p.map λ(i:Nat)=>rawInt i).toArray }).objs.size) (T:=s.heap.objs.size) (by rw[gC];exact Qe (Ub _)) (by rw[gC];exact Qe (Zs c8)) hp hd hf N4) ⟨?_,?_,?_⟩
  ·show _<=(s.heap.push _).objs.size
   rw[gC];omega
  ·intro b hb;rw[Jj,gC];simp only[gC,Jy,List.not_mem_nil,or_false] at hb;rcases hb with e | e | e <;> rw[e]
   ·exact⟨Ub _,.inr (Qu _)⟩
   ·exact⟨Zs (Ub _),.inr (Qs _)⟩
   ·exact⟨Zs (Zs c8),.inl rfl⟩
  ·exact Ys _ rfl
  ·exact⟨_,XD _ (Ys _ rfl),rfl,_,rfl⟩
  ·exact XD _ (XD _ ho)
 ·refine Qz (Q0 ?_);refine Qz (Z8 ho hd hf ?_);rw[hn];refine Qz (Z0 (Q0 ⟨_,rfl,"set_iterator",_,⟨_,Ys _ rfl,rfl⟩,F.slot_set_iterator_next.lookup,?_⟩));have szb:∀ b∈[s.heap.objs.size,S],b<(s.heap.push (itO (.int (0:Nat) 0) 0 S ys.length ep)).objs.size/\(b=S∨s.heap.objs.size<=b):=by
   intro b hb;rw[Jj];simp only[Jy,List.not_mem_nil,or_false] at hb;rcases hb with e|e <;> rw[e]
   ·exact⟨Ub _,.inr (Qs _)⟩
   ·exact⟨Zs c8,.inl rfl⟩
  by_cases hbt:byT w
  ·obtain⟨zs,hz,hpz⟩:=yE N4 (qdb (w.params.setOrder S ep) es);exact h s.heap.objs.size _ s.drawn zs [s.heap.objs.size,S] _ hz (λ b o e=>XD _ e) (Qs _) (by simp) szb (λ A hA=>Walks.setText hbt hA (Qe c8) hd hf hn rfl hpz hz.length_eq) ⟨Ys _ rfl,XD _ ho⟩
  ·have c5:ys.length<=1:=by
    have hft:w.params.followText "set-order"=false:=Zu.mpr hbt;rw[hft] at hc;rcases t8 with e | e
    ·rw[e];simp
    ·rw[e] at hc;simp only[Bool.not_false,Bool.true_and,decide_eq_true_eq] at hc;omega
   exact h s.heap.objs.size _ s.drawn ys [s.heap.objs.size,S] _ (Jl _) (λ b o e=>XD _ e) (Qs _) (by simp) szb (λ A hA=>Walks.setOne hbt hA (Qe c8) hd hf (hl.resolve_right hbt) N4 c5) ⟨Ys _ rfl,XD _ ho⟩
theorem qiJ{r:Addr}{Q:Bool->Shared->Prop}(hT:s.TypeIs (.ref r) "set")(h:Q false s):wpAny (model prog w) A (Builtin.List.listLengthHint (.ref r)) Q E s:=by
 unfold Builtin.List.listLengthHint;refine Qz (Jd hT PySem.F.slot_set_len.lookup ?_);generalize hid:("set.__len__":String)=id0
 wp_delta
 rw[show splitId id0=some ("set","__len__") from by subst hid;decide +kernel];subst hid;refine Qz (Up (T:="set") (b:=true) hT (by rw[Ju];kernel_rfl) ?_);refine Jg (λ w6=>absurd w6 (by decide)) (λ _=>?_);refine Jg (λ _=>?_) (λ w6=>absurd (by decide +kernel) w6);refine Qz (Qq hT ?_);exact Q0 h
theorem qdd{S:Addr}{ys:List Str}{R:List Value->Shared->Prop}(hh:A.handled=none)(hS:qM prog w s.heap S ys)(h:∀(h':Heap)(tk:Nat)(d:Drawn)(c6:List Value)(zs:List Str),(∀ b o,s.heap.get? b=some o->h'.get? b=some o)->s.heap.objs.size<h'.objs.size->zs.Perm ys->StrsAre c6 zs->R c6 { s with heap:=h',toks:=tk,drawn:=d }):
  wpAny (model prog w) A (collect (.ref S)) R E s:=by
 have c8:S<s.heap.objs.size:=by obtain⟨o,_,_,_,ho,_⟩:=hS;exact Qd ho
 have hsz:ys.length<=sizeLine:=by
  obtain⟨_,_,_,_,_,_,_,_,_,hb,_⟩:=hS;exact Qg (Y6 hb (by decide))
 unfold collect;refine Qz (wpAny_runValue (Je entry_proto_collect' ?_));rw[Yi PySem.F.plain_proto_collect _];show wpAny _ A.in1 (newList [] >>= λ l=>again (.builtin "list.__iadd__" ⟨[l,.ref S],[]⟩)) _ _ s
 refine Qz (Z0 ?_);refine Q0 ⟨Qa PySem.F.plain_list_iadd _,Je entry_list_iadd' ?_⟩;rw[Yi PySem.F.plain_list_iadd _];have hL:(s.heap.push { cls:=.type "list",data:=.seq ([]:List Value).toArray }).get? s.heap.objs.size=some { cls:=.type "list",data:=.seq #[] }:=Ys _ rfl;show wpAny _ A.in1 (Builtin.List.listExtendWith (.ref s.heap.objs.size) (.ref S) (.ref s.heap.objs.size)) _ _ _
 have V6:qM prog w (s.heap.push { cls:=.type "list",data:=.seq ([]:List Value).toArray }) S ys:=by
  obtain⟨o,es,ep,t,ho,rest⟩:=hS;exact⟨o,es,ep,t,XD _ ho,rest⟩
 unfold Builtin.List.listExtendWith;refine Qz (Qq (T:="set") (V6.typeIs (s:={ s with heap:=s.heap.push { cls:=.type "list",data:=.seq ([]:List Value).toArray } })) ?_);have h1:Builtin.List.listSameRef (.ref s.heap.objs.size) (.ref S)=false:=by simp[Builtin.List.listSameRef];exact Qh c8
 simp only[h1,show(Value.type "set" == Value.type "list")=false by decide,show(Value.type "set" == Value.type "tuple")=false by decide,Bool.or_false,Zd,Q7];refine Qz (qiI (s:={ s with heap:=s.heap.push { cls:=.type "list",data:=.seq ([]:List Value).toArray } }) V6 λ I h2 d zs fp St hz W9 hI hIfp E8 W st=>?_);have gC:(s.heap.push { cls:=.type "list",data:=.seq ([]:List Value).toArray }).objs.size=s.heap.objs.size+1:=Jj _ _;have hI':s.heap.objs.size+1<=I:=by have:(s.heap.push { cls:=.type "list",data:=.seq ([]:List Value).toArray }).objs.size<=I:=hI;omega
 have oZ:=W9 _ _ hL;have dF:qM prog w h2 S ys:=by
  obtain⟨o,es,ep,t,ho,rest⟩:=V6;exact⟨o,es,ep,t,W9 _ _ ho,rest⟩
 refine Qz (J8 (qiJ (dF.typeIs (s:={ s with heap:=h2,drawn:=d })) ?_));have N7:∀ b o,s.heap.get? b=some o->h2.get? b=some o:=λ b o e=>W9 b o (XD _ e)
 have hnf:s.heap.objs.size∉fp:=λ hm=>by
  rcases(E8 _ hm).2 with e|e
  ·exact absurd c8 (by rw[<- e];exact Jx _)
  ·have e:(s.heap.push { cls:=.type "list",data:=.seq ([]:List Value).toArray }).objs.size<=s.heap.objs.size:=e;rw[gC] at e;exact absurd e (Nat.not_succ_le_self _)
 have i8:∀(h:Heap)(c₁:Nat),St 0 h->(∀ b o,b≠s.heap.objs.size->h2.get? b=some o->h.get? b=some o) ->
   h.get? s.heap.objs.size=some { cls:=.type "list",data:=.seq #[] c₁ } ->
   codeAny (model prog w) A (.builtin "list.extend.loop" ⟨[.ref s.heap.objs.size,.ref I,.ref s.heap.objs.size],[]⟩) (λ r s'=>∃ h' tk K8 c',r=.ok (.ret (.ref s.heap.objs.size))/\s'={ s with heap:=h',toks:=tk,drawn:=d } /\
    (∀ b o,s.heap.get? b=some o->h'.get? b=some o)/\h'.get? s.heap.objs.size=some { cls:=.type "list",dict:=none,data:=.seq K8 c',slots:=#[] }/\ItemsOf (qb9 zs) K8 ys.length) { s with heap:=h,drawn:=d }:=by
  intro h c₁ C4 hk hS₁;refine codeAny_extend_loopS (W _ (by simpa using hh)).toS hsz s.heap.objs.size hnf _ ys.length 0 _ #[] c₁ rfl (Qt _) C4 hS₁ (ItemsOf.nil _) λ s' K8 c' hm R1 S6=>?_
  rw[Moved.eq_with hm];refine⟨s'.heap,s'.toks,K8,c',rfl,rfl,λ b o e=>hm.heap b o (λ hmem=>?_) (hk b o (Qe (Qd e)) (N7 b o e)),R1,S6⟩;have c8:=Qd e;rcases Jy.mp hmem with e'|hmem
  ·rw[e'] at c8;exact Jx _ c8
  ·rw[Zf.mp hmem] at c8;exact absurd (Y6 c8 (Nat.le_of_succ_le hI')) (Jx _)
 have fin:∀ r s',(∃ h' tk K8 c',r=(.ok (.ret (.ref s.heap.objs.size)):Result)/\s'={ s with heap:=h',toks:=tk,drawn:=d } /\
    (∀ b o,s.heap.get? b=some o->h'.get? b=some o)/\h'.get? s.heap.objs.size=some { cls:=.type "list",dict:=none,data:=.seq K8 c',slots:=#[] }/\ItemsOf (qb9 zs) K8 ys.length) ->
   match r with | .ok (.ret v)=>wpAny (model prog w) A (do
    let .ref a:=v | unsupported "internal:collect"
    let o <- load a
    match o.data with
    |.seq xs _=>pure xs.toList
    | _=>unsupported "internal:collect") R E s' | _=>True:=by
  rintro r s' ⟨h',tk,K8,c',rfl,rfl,hk,R1,S6⟩;show wpAny _ A (load s.heap.objs.size >>= _) _ _ _
  refine Qz (wpAny_load R1 (Q0 (h h' tk d K8.toList zs hk (Qd R1) hz ?_)));have wJ:zs.length=ys.length:=hz.length_eq
  have:∀(as:List Value)(zs:List Str),as.length=zs.length->(∀(j:Nat) v,as[j]?=some v->qb9 zs j v)->StrsAre as zs:=by
   intro as;induction as with
   |nil=>intro zs hl _;cases zs with
    |nil=>exact .nil
    |cons _ _=>simp at hl
   |cons a as ih =>
    intro zs hl hh;cases zs with
    |nil=>simp at hl
    |cons z zs =>
     obtain⟨t,e⟩:=hh 0 a rfl;have e:a=.str z t:=e;subst e;exact .cons _ _ (ih zs (by simpa using hl) λ j v e=>by
      obtain⟨t,e2⟩:=hh (j+1) v (by simpa using e);exact⟨t,by simpa using e2⟩)
  exact this _ _ (by rw[Yr,S6.1,wJ]) λ j v e=>S6.2 j v (by rw[<- XT];exact e)
 refine Jg (λ _=>?_) (λ _=>Q0 ⟨Qa PySem.F.plain_extend_loop _,Qp (i8 _ _ st (λ b o _ e=>e) oZ) λ r s' hr=>?_⟩)
 ·refine Qz (Q1 ?_);refine Qz ?_;show wpAny _ _ (updateSeq s.heap.objs.size (·.push .none) >>= λ _=>updateSeq s.heap.objs.size (·.pop)) _ _ _
  refine Qz (wpAny_updateSeq oZ rfl ?_);have hS₂:=XR (Obj.mapSeq (·.push Value.none)) oZ rfl;refine wpAny_updateSeq (hz:=by seq_fits) hS₂ rfl ?_;have hS₃:=XR (Obj.mapSeq (·.pop)) hS₂ rfl;refine Q0 ⟨Qa PySem.F.plain_extend_loop _,Qp (i8 _ _ ?_ (λ b o hb e=>?_) hS₃) λ r s' hr=>?_⟩
  ·refine(W A hh).frame 0 _ _ st λ b hb o e=>?_
   have hbS:b≠s.heap.objs.size:=λ h=>hnf (h ▸ hb)
   exact(XG _ _ (Vb hbS)).trans ((XG _ _ (Vb hbS)).trans e)
  ·exact(XG _ _ (Vb hb)).trans ((XG _ _ (Vb hb)).trans e)
  ·have:=fin r s' hr
   obtain⟨_,_,_,_,rfl,_⟩:=hr;exact this
 ·have:=fin r s' hr
  obtain⟨_,_,_,_,rfl,_⟩:=hr;exact this
theorem qiK{S:Addr}{ys:List Str}{Q:Value->Shared->Prop}(hh:A.handled=none)(hS:qM prog w s.heap S ys)(aF:ys.length<64)(h:∀(l:Addr)(h':Heap)(tk e:Nat)(d:Drawn)(out:Array Value)(A9:List Str),(∀ b o,s.heap.get? b=some o->h'.get? b=some o)->s.heap.objs.size<=l->h'.get? l=some (seqObj "list" out e)->StrsAre out.toList A9->A9.Perm ys->sortedS A9=true ->
   Q (.ref l) { s with heap:=h',toks:=tk,drawn:=d }):wpAny (model prog w) A (call (.builtin "sorted") [.ref S]) Q E s:=by
 refine Xp kind_sorted plain_sorted entry_sorted (args_sorted1 _) ?_;unfold Builtin.«sorted»;refine Qz (m:=checkCount "sorted" 1 1 _) (Q0 ?_);refine Qz (qdd (by simpa using hh) hS λ h1 tk d vs zs hk B3 hz hA=>?_);have hl:vs.length<64:=by
  have:vs.length=zs.length:=hA.length
  rw[this,hz.length_eq];exact aF
 refine Qz (Qc ?_);have cV:(h1.push (seqObj "list" vs.toArray 0)).get? h1.objs.size=some (seqObj "list" vs.toArray 0):=Ys _ rfl;refine Qz (J8 (Um slot_list_sort ⟨_,cV,rfl⟩ entry_list_sort (list_sort_treeK strKind_oneLt cV hA.keysOf (λ v₁ v₂ rest e=>keyKind_strs (by rw[<- e];exact hA)) hl λ b0 a1 a2=>⟨_,rfl,?_⟩) (args_list_sort _)));obtain⟨A9,b1,b2,b3⟩:=sorted_out_str hA a1 a2;obtain⟨e,he⟩:=sortedHeap_at (out:=(arrOf b0).map (·.2)) cV;refine Q0 ⟨_,rfl,h h1.objs.size _ tk e d _ A9 (λ b o q=>?_) (Qg B3) he b1 (b2.trans hz) b3⟩;have q1:=hk b o q;have hb:=Qd q1;rw[sortedHeap_old (Qe hb) (by rw[Jj];exact Zs hb)];exact XD _ q1
end
section
variable {X:Cx}
theorem qcL(hc:X.calm=true):y3 X (.builtin "sorted") (λ xs H Q=>∃ p ys,xs=[.ref p]/\H p=some (qdO X.prog X.w p ys)/\ys.length<64/\∀ l,H l=none->Q (.ref l) (upd H l (.lst ((qao ys).map V.str)))):=by
 intro pins s σ H xs us Q I r h;obtain⟨p,ys,rfl,hp,aF,q⟩:=h;obtain⟨u,rfl,ru⟩:=yg r;cases ru
 obtain⟨l7,B4,hS⟩:=I.set hp;refine qiK (I.ok.hd hc) hS (by rw[B4.length_eq];exact aF) λ l h' tk e d out A9 hk B3 he h1 h2 h3=>?_
 have es:=qdM (h2.trans B4) h3;subst es;have hf:=I.hok.fresh B3;refine⟨.ref l,upd H l (.lst ((qao ys).map V.str)),I.call' (s':={ s with heap:=h',toks:=tk,drawn:=d }) (ch:=[]) rfl (Un.laid hk B3 hf) (I.hok.laid hk B3 ⟨?_,out.toList,e,jI h1,he⟩) I.bare (λ _ z=>nomatch z),rfl,q _ hf⟩
 have:(qao ys).length=ys.length:=(h2.trans B4).length_eq
 rw[Ut,this];exact Qg (Y6 aF (by decide))
end
theorem qk1:∀ n,n<1024->((SetTable.sizeAbove (2*n)-1=7∨SetTable.sizeAbove (2*n)-1=15∨SetTable.sizeAbove (2*n)-1=31∨SetTable.sizeAbove (2*n)-1=63∨SetTable.sizeAbove (2*n)-1=127∨SetTable.sizeAbove (2*n)-1=255∨SetTable.sizeAbove (2*n)-1=511∨SetTable.sizeAbove (2*n)-1=1023∨SetTable.sizeAbove (2*n)-1=2047)/\n<=SetTable.sizeAbove (2*n)-1):=by decide +kernel
theorem qfV{n:Nat}(h:n<1024):vn (SetTable.sizeAbove (2*n)-1):=by
 rcases(qk1 n h).1 with e|e|e|e|e|e|e|e|e <;> rw[e]
 ·exact qk0
 ·exact qlz
 ·exact qlA
 ·exact qlB
 ·exact qke
 ·exact qkf
 ·exact qkg
 ·exact qiE
 ·exact qiF
section
variable {prog:Program}{w:World}{A:Around}{E:Value->Shared->Prop}{s:Shared}
theorem y7{t:SetTable}{n:Nat}:t.fits n=true ↔ (t.place.size=n/\t.place.size+t.dummies.size<=t.mask):=by
 unfold SetTable.fits;rw[Uf,Q2];exact⟨λ ⟨a,b⟩=>⟨a,Z9 b⟩,λ ⟨a,b⟩=>⟨a,Jt b⟩⟩
theorem qar{α:Type}(xs:Array α)(i:Nat):(SetTable.eraseAt xs i).toList=xs.toList.eraseIdx i:=by
 unfold SetTable.eraseAt;rw[Yy,Yj,Yj,List.eraseIdx_eq_take_drop_succ,Xq,Xq,Jn,Nat.sub_zero];congr 1
 exact XH (by simp)
theorem qas{α:Type}(xs:Array α){i:Nat}(h:i<xs.size):(SetTable.eraseAt xs i).size+1=xs.size:=by
 rw[<- Yr,qar,Xl (by simpa using h),Yr];omega
theorem qcM{α:Type}(xs:Array α)(p:Nat)(x:α):(SetTable.insertAt xs p x).size=xs.size+1:=by
 unfold SetTable.insertAt;simp
 omega
theorem qat{α β:Type}{F:α->β->Prop}:∀{xs:List α}{l:List β}(i:Nat),Paired F xs l->Paired F (xs.eraseIdx i) (l.eraseIdx i)
 |_,_,_,.nil=>.nil
 |_,_,0,.cons _ t=>t
 |_,_,i+1,.cons r t=>.cons r (qat i t)
theorem y8{α:Type}:∀{l:List α}{i:Nat}{x y:α},l.Nodup->l[i]?=some x->(y∈l.eraseIdx i ↔ (y∈l/\y≠x))
 | [],_,_,_,_,h=>by simp at h
 |a::l,0,x,y,nd,h=>by
  have ex:a=x:=by simpa using h
  subst ex;have K1:=Uv.mp nd;show y∈l ↔ _
  constructor
  ·intro hy;exact⟨Yf _ hy,λ e=>K1.1 (e ▸ hy)⟩
  ·rintro⟨hy,E7⟩;rcases Jy.mp hy with e | e
   ·exact absurd e E7
   ·exact e
 |a::l,i+1,x,y,nd,h=>by
  have K1:=Uv.mp nd;have hx:l[i]?=some x:=by simpa using h
  have ih:=y8 (y:=y) K1.2 hx;rw[X5,Jy,ih,Jy];have aE:a≠x:=λ e=>K1.1 (e ▸ Yh hx)
  constructor
  ·rintro(e | ⟨h1,h2⟩)
   ·exact⟨.inl e,e ▸ aE⟩
   ·exact⟨.inr h1,h2⟩
  ·rintro⟨e | h1,h2⟩
   ·exact .inl e
   ·exact .inr ⟨h1,h2⟩
theorem qdR{a:Addr}{ys:List Str}{x:Str}{t0:Tok}{Q:Bool->Shared->Prop}(hS:qM prog w s.heap a ys)(h0:x∉ys->Q false s)(h1:x∈ys->∀ h' l7,Heap.SameBut a s.heap h'->(∀ y,y∈l7 ↔ (y∈ys/\y≠x))->l7.length<=ys.length->qM prog w h' a l7->Q true { s with heap:=h' }):
  wpAny (model prog w) A (setDiscardHashed a (.str x t0) ((qx prog w).hash (.inr x))) Q E s:=by
 obtain⟨o,es,ep,t,ho,hex,hd,hp,nd,hb,hf,hl,t8⟩:=hS;have cX:=qb5 hp;have G0:(qx prog w).is (.inr x) (.str x t0)=true:=zn _ _ _ _;have sM:(Value.str x t0).scannable=true:=rfl;have c5:es.size<scanBound:=by rw[<- Yr,<- hp.length];exact hb
 unfold setDiscardHashed setFind setFindIn;refine Qz (Qz (Z6 ho hd hf ?_));dsimp only;rw[byScan_of sM c5 cX];simp only[↓reduceIte];refine Qz (Q1 ?_);refine Qz (wpAny_setScan_of G0 ho hd hf cX ?_);cases hr:List.findIdx? (λ e=>(qx prog w).is (.inr x) e.2) es.toList with
 |none =>
  dsimp only;refine Q0 (Q0 (h0 λ hx=>?_));obtain⟨e,he,q⟩:=(qb6 hp (.inr x)).mpr ⟨x,hx,rfl⟩
  have:=List.findIdx?_eq_none_iff.mp hr e he
  rw[q] at this;exact Bool.noConfusion this
 |some j =>
  dsimp only;refine Q0 ?_;dsimp only;rw[Nat.zero_add];obtain⟨hj,bK,_⟩:=List.findIdx?_eq_some_iff_getElem.mp hr;have xO:j<es.size:=by simpa using hj
  obtain⟨y,hy,hye,t',wM⟩:=kJ hp j es.toList[j] (Xw hj);have exy:y=x:=by
   have:=(qx prog w).inj _ _ _ bK (by rw[wM];exact zn prog w y t')
   exact(Sum.inr.inj this).symm
  subst exy;refine Qz (Z6 ho hd hf ?_);dsimp only;have hsz:=qas es xO;refine Qz (Z4 ho hd ?_ (Z5 (by omega)));have P9:Paired (qaW prog w) (ys.eraseIdx j) (SetTable.eraseAt es j).toList:=by rw[qar];exact qat j hp
  obtain⟨cQ,eX⟩:=y7.mp hf;have xF:t.place[j]?=some (t.place[j]'(by omega)):=Xo (by omega);have aP:t.drop j={ t with place:=SetTable.eraseAt t.place j,dummies:=SetTable.insertAt t.dummies (SetTable.below t.dummies (t.place[j]'(by omega))) (t.place[j]'(by omega)) }:=by
   unfold SetTable.drop;rw[xF]
  have xX:(t.drop j).fits (SetTable.eraseAt es j).size=true:=by
   rw[aP];have e1:=qas t.place (i:=j) (by omega);have e2:=qcM t.dummies (SetTable.below t.dummies (t.place[j]'(by omega))) (t.place[j]'(by omega));refine y7.mpr ⟨?_,?_⟩
   ·show(SetTable.eraseAt t.place j).size=_
    omega
   ·show(SetTable.eraseAt t.place j).size+(SetTable.insertAt t.dummies (SetTable.below t.dummies (t.place[j]'(by omega))) (t.place[j]'(by omega))).size<=t.mask
    omega
  have B3:(ys.eraseIdx j).length<=ys.length:=List.length_eraseIdx_le _ _;obtain⟨_,V6⟩:=yZ (P:=prog) (w:=w) ho hex hd P9 (nd.sublist (List.eraseIdx_sublist _ _)) (Nat.lt_of_le_of_lt B3 hb) xX (by rw[aP];exact hl) (by
   rcases t8 with e|e
   ·rw[e];exact .inl rfl
   ·exact .inr (by rw[aP];exact e))
  refine Qz (wpAny_point ?_);exact Q0 (h1 (Yh hy) _ _ (Yx _ _ _) (λ z=>y8 nd hy) B3 V6)
theorem qde{M:Model}{α β:Type}(f:α->β->Sem (ForInStep β))(I:List α->β->Shared->Prop)(Q:β->Shared->Prop)(turn:∀ x rest b s,I (x::rest) b s->wpAny M A (f x b) (λ r s'=>match r with|.yield b'=>I rest b' s'|.done b'=>Q b' s') E s)(fin:∀ b s,I [] b s->Q b s)(xs:Array α)(b:β)(h:I xs.toList b s):wpAny M A (forIn xs b f) Q E s:=by
 rw[<- Array.forIn_toList];exact wpAny_forIn_list f I Q turn fin _ b h
theorem qeL{a b:Addr}{ys zs:List Str}{Q:Bool->Shared->Prop}(hA:qM prog w s.heap a ys)(hB:qM prog w s.heap b zs)(h:Q true s):wpAny (model prog w) A (setsQuiet [a,b]) Q E s:=by
 have one:∀{c:Addr}{us:List Str},qM prog w s.heap c us->∀{R:Array (Int×Value)->Shared->Prop},(∀ es:Array (Int×Value),(∀ e∈es,∃ x t,e.2=.str x t)->R es s)->wpAny (model prog w) A (setEntries c) R E s:=by
  intro c us hC R hR;obtain⟨o,es,ep,t,ho,hex,hd,hp,nd,hb,hf,hl,t8⟩:=hC;refine Y5 ho hd hf (hR es λ e he=>?_);have cY:e∈es.toList:=by simpa using he
  obtain⟨k,hk⟩:=XY.mp cY;obtain⟨y,_,_,t',e2⟩:=kJ hp k e hk;exact⟨y,t',e2⟩
 unfold setsQuiet;refine Qz (wpAny_forIn_list _ (λ rest r s'=>s'=s/\r=⟨none,()⟩/\∀ c∈rest,c=a∨c=b) _ ?turn ?fin _ _ ⟨rfl,rfl,by simp⟩)
 case turn =>
  rintro c rest r s' ⟨rfl,rfl,hc⟩;have hC:∃ us,qM prog w s'.heap c us:=by
   rcases hc c Y7 with e|e
   ·exact⟨_,e ▸ hA⟩
   ·exact⟨_,e ▸ hB⟩
  obtain⟨us,hC⟩:=hC;refine Qz (one hC λ es hes=>?_);refine Qz (qde _ (λ rest r M9=>M9=s'/\r=⟨none,()⟩/\∀ e∈rest,∃ x t,e.2=.str x t) _ ?turn2 ?fin2 _ _ ⟨rfl,rfl,λ e he=>hes e (by simpa using he)⟩)
  case turn2 =>
   rintro e aA2 r M9 ⟨rfl,rfl,he⟩;obtain⟨x,t,ex⟩:=he e Y7;obtain⟨e1,e2⟩:=e;have ex:e2=.str x t:=ex;subst ex;exact Q0 ⟨rfl,rfl,λ e h=>he e (Yf _ h)⟩
  case fin2 =>
   rintro r M9 ⟨rfl,rfl,_⟩;exact Q0 ⟨rfl,rfl,λ c h=>hc c (Yf _ h)⟩
 case fin =>
  rintro r s' ⟨rfl,rfl,_⟩;exact Q0 h
theorem qbn{a f:Addr}{ys zs:List Str}{Q:Array (Int×Value)->Shared->Prop}(E7:f≠a)(hA:qM prog w s.heap a ys)(hF:qM prog w s.heap f zs)(h:∀ p6 l7 h' d,l7.Perm ys->Paired (qaW prog w) l7 p6.toList->Heap.SameBut f s.heap h'->qM prog w h' f zs->Q p6 { s with heap:=h',drawn:=d }):wpAny (model prog w) A (setWalkUnseen a [f] (some f)) Q E s:=by
 obtain⟨o,es,ep,t,ho,hex,hd,hp,nd,hb,hf,hl,t8⟩:=id hA;have c5:es.size=ys.length:=by rw[<- Yr,<- hp.length]
 have same:Heap.SameBut f s.heap s.heap:=⟨rfl,λ _ _=>rfl⟩;have walk:wpAny (model prog w) A (setWalk a) Q E s:=qhy ho hd hf hl λ p6 d lI=>by
  obtain⟨l7,h1,h2⟩:=yE hp lI;exact h p6 l7 s.heap d h1 h2 same hF
 unfold setWalkUnseen;refine Qz (Z6 ho hd hf ?_);dsimp only;unfold setsByText;refine Qz (Qz (Uo (Q0 ?_)));dsimp only;refine Jg (λ _=>?_) (λ hc=>?_)
 ·exact walk
 ·refine Qz (qeL hA hF ?_);simp only[J5,Zd,Q7];refine Qz (Q1 ?_);obtain⟨o2,es2,ep2,t2,N5,xY,V4,E6,lD,N8,sQ,N6,nV⟩:=id hF;have I0:es2.size<scanBound:=by rw[<- Yr,<- E6.length];exact N8
  refine Qz (Z6 N5 V4 sQ ?_);dsimp only;have bM:¬ byT w:=λ hb=>hc (by
   have:w.params.followText "set-order"=true:=hb
   show(w.params.followText "set-order" || _ || _)=true
   rw[this];rfl)
  have S4:t.led=true:=hl.resolve_right bM;have oE:t2.led=true:=N6.resolve_right bM;refine Jg (λ _=>?_) (λ _=>?_)
  ·refine Qz (Z4 N5 V4 ?_ (Z5 I0));obtain⟨_,dF⟩:=yZ (P:=prog) (w:=w) (t':={ t2 with led:=t2.led && t.led,plain:=t2.plain && t.plain }) N5 xY V4 E6 lD N8 (y7.mpr (y7.mp sQ)) (.inl (by show(t2.led && t.led)=true;rw[S4,oE];rfl)) (by
    rcases nV with e|e
    ·exact .inl e
    ·exact .inr (by show(t2.plain && t.plain)=false;rw[e];rfl))
   exact Q0 (h es ys _ s.drawn (Jl _) hp (Yx _ _ _) dF)
  ·exact Q0 (h es ys s.heap s.drawn (Jl _) hp same hF)
theorem qbo{nm:String}{r l:Addr}{ys zs:List Str}{Q:Unit->Shared->Prop}(E7:r≠l)(hL:qM prog w s.heap l ys)(hR:qM prog w s.heap r zs)(hb:ys.length+zs.length+1<scanBound)(h:∀ us h' d,(∀ x,x∈us ↔ ((x∈zs/\x∉ys)∨(x∈ys/\x∉zs)))->Heap.SameBut r s.heap h'->qM prog w h' r us->Q () { s with heap:=h',drawn:=d }):
  wpAny (model prog w) A (Builtin.Frozenset.symmetricDifferenceUpdate nm r (.ref l)) Q E s:=by
 have iC:=hL.typeIs (s:=s);obtain⟨o,es,ep,t,ho,hex,hd,hp,nd,hbl,hf,hl,t8⟩:=id hL;unfold Builtin.Frozenset.symmetricDifferenceUpdate;have e1:(Value.ref l == Value.ref r)=false:=by
  have:¬ (Value.ref l=Value.ref r):=λ e=>E7 (by injection e with e;exact e.symm)
  simpa using this
 rw[e1];simp only[Zd,Q7];refine Qz (Qq iC ?_);rw[show(Value.type "set" == Value.type "dict")=false by decide];simp only[Zd,Q7];refine Qz (vV iC ?_);simp only[Vd];refine Qz (Q0 ?_);show wpAny _ _ (setEpoch l >>= _) _ _ s
 refine Qz (Z8 ho hd hf ?_);refine J8 ?_;refine Qz (qbn E7 hL hR λ p6 l7 h1 d xD lI P7 oY=>?_);have K1:l7.Nodup:=xD.nodup_iff.mpr nd;refine Qz (qde _ (λ rest u s'=>∃ qs ps us h',l7=qs++ps/\Paired (qaW prog w) ps rest/\s'={ s with heap:=h',drawn:=d }/\Heap.SameBut r s.heap h'/\qM prog w h' r us /\
   (∀ x,x∈us ↔ ((x∈zs/\x∉qs)∨(x∈qs/\x∉zs)))/\us.length<=zs.length+qs.length) _ ?turn ?fin _ _ ⟨[],l7,zs,h1,rfl,lI,rfl,P7,oY,by simp,by simp⟩)
 case turn =>
  rintro⟨eh,ex⟩ rest u s' ⟨qs,ps,us,h',e,V1,rfl,A6,hU,hm,hul⟩;cases V1 with
  | @cons p _ ps _ hpe1 V1 =>
   obtain⟨q1,t',q2⟩:=hpe1;have q1:eh=(qx prog w).hash (.inr p):=q1;have q2:ex=.str p t':=q2;subst q1 q2;have cS:p∉qs:=λ hq=>by
    rw[e] at K1;exact(Zq.mp K1).2.2 p hq p Y7 rfl
   have c5:qs.length+ps.length+1=ys.length:=by
    have:=xD.length_eq
    rw[e,Za,Ua] at this;omega
   have go:∀(h2:Heap)(bZ:List Str),Heap.SameBut r h' h2->qM prog w h2 r bZ->(∀ x,x∈bZ ↔ ((x∈zs/\x∉qs++[p])∨(x∈qs++[p]/\x∉zs)))->bZ.length<=zs.length+(qs++[p]).length ->
     wpAny (model prog w) A (Builtin.Frozenset.unchanged nm l ep) (λ _ s'=>wpAny (model prog w) A (pure (ForInStep.yield PUnit.unit)) (λ r_1 mM=>match r_1 with
      |.yield b'=>∃ qs ps us h',l7=qs++ps/\Paired (qaW prog w) ps rest/\mM={ s with heap:=h',drawn:=d }/\Heap.SameBut r s.heap h'/\qM prog w h' r us/\(∀ x,x∈us ↔ ((x∈zs/\x∉qs)∨(x∈qs/\x∉zs)))/\us.length<=zs.length+qs.length
      |.done b'=>wpAny (model prog w) A (pure ()) Q E mM) E s') E { s with heap:=h2,drawn:=d }:=by
    intro h2 bZ p7 oX lK N6;unfold Builtin.Frozenset.unchanged;have N5:h2.get? l=some o:=(p7.2 l (Vb E7)).trans ((A6.2 l (Vb E7)).trans ho);refine Qz (Z8 N5 hd hf ?_);simp only[Z7,Zd,Q7];refine Q0 (Q0 ⟨qs++[p],ps,bZ,h2,by rw[e,Zp];rfl,V1,rfl,A6.trans p7,oX,lK,N6⟩)
   refine Qz (J8 (Qz (qdR (s:={ s with heap:=h',drawn:=d }) hU (λ lH=>?_) (λ lH h2 bZ p7 lK hle2 oX=>?_))))
   ·simp only[Bool.not_false,Vd];refine Qz (qeF (s:={ s with heap:=h',drawn:=d }) hU (by omega) (λ hx=>absurd hx lH) (λ _ h2 bZ p7 E6 oX=>?_));refine Q0 (Qz (go h2 bZ p7 oX (λ x=>?_) ?_))
    ·rw[E6.mem_iff,Ur,Zf,hm x,Ur,Zf];have hz:p∉zs:=λ hz=>lH ((hm p).mpr (.inl ⟨hz,cS⟩))
     by_cases hxp:x=p
     ·subst hxp;simp[hz]
     ·simp[hxp]
    ·rw[E6.length_eq,Za,Za];simp;omega
   ·simp only[J5,Zd,Q7];refine Q0 (Qz (go h2 bZ p7 oX (λ x=>?_) ?_))
    ·rw[lK x,hm x,Ur,Zf];have hz:p∈zs:=by
      rcases(hm p).mp lH with⟨h1,_⟩|⟨h1,_⟩
      ·exact h1
      ·exact absurd h1 cS
     by_cases hxp:x=p
     ·subst hxp;simp[hz]
     ·simp[hxp]
    ·rw[Za];simp;omega
 case fin =>
  rintro u s' ⟨qs,ps,us,h',e,V1,rfl,A6,hU,hm,hul⟩;cases V1
  rw[Uu] at e;refine Q0 (h us h' d (λ x=>?_) A6 hU);rw[hm x,<- e,xD.mem_iff]
theorem qkk{r o:Addr}{ys:List Str}{pX:Sem Unit}{Q:Unit->Shared->Prop}(E7:r≠o)(hr:s.heap.get? r=some (qH w))(hO:qM prog w s.heap o ys)(hn:ys.length<1024)(h:∀ us h',us.Perm ys->Heap.SameBut r s.heap h'->qM prog w h' r us->Q () { s with heap:=h' }):wpAny (model prog w) A (setMerge r o pX) Q E s:=by
 obtain⟨ob,es,ep,t,ho,hex,hd,hp,nd,hb,hf,hl,t8⟩:=id hO;have c5:es.size=ys.length:=by rw[<- Yr,<- hp.length]
 have S4:((!(w.params.followText "set-order")) && t.led)=true∨byT w:=by
  by_cases hb:byT w
  ·exact .inr hb
  ·refine .inl ?_;have e1:w.params.followText "set-order"=false:=Zu.mpr hb;rw[e1,hl.resolve_right hb];rfl
 unfold setMerge;have e1:(r == o)=false:=by simpa using E7
 rw[e1];simp only[Zd,Q7];refine Qz (Z6 ho hd hf ?_);dsimp only;by_cases h0:es.isEmpty=true
 ·rw[h0];simp only[Vd];have e0:ys=[]:=by
   have:es.size=0:=by simpa using h0
   exact Xe (by omega)
  have:=h [] s.heap (by rw[e0]) ⟨rfl,λ _ _=>rfl⟩ (jg hr)
  cases s
  exact Q0 this
 ·have pD:es.isEmpty=false:=Zu.mpr h0;have hpos:0<es.size:=by
   rcases Nat.eq_zero_or_pos es.size with e|e
   ·exact absurd (by simpa using e) h0
   ·exact e
  have K4:t.plain=false:=by
   rcases t8 with e|e
   ·have:ys.length=0:=by rw[e];rfl
    omega
   ·exact e
  rw[pD];simp only[Zd,Q7];have I0:es.size<scanBound:=by rw[c5];exact hb
  have eM:∀(s1:Shared)(T:SetTable)(ep1:Nat),s1.heap.get? r=some { cls:=.type "set",dict:=none,data:=.set #[] ep1 T }->Heap.SameBut r s.heap s1.heap->s1={ s with heap:=s1.heap }->T.place=#[]->T.dummies=#[]->T.led=(!(w.params.followText "set-order"))->vn T.mask->es.size<=T.mask ->
    wpAny (model prog w) A (do
     let (_,_,ts) <- setState r
     match ts.road t with
     |.slotForSlot=>storeSet r es { t with finger:=ts.finger,led:=ts.led && t.led,moves:=ts.moves,plain:=ts.plain && t.plain }
     |.clean =>
      let (es,t) <- (do
        let some (t,o0):=(SetTable.laid ts.mask ts.finger ts.moves (led:=ts.led && t.led) (plain:=ts.plain && t.plain) (es.map (·.1))) | unsupported "internal:set-table-without-room"
        let p6:=o0.filterMap (es[·]?)
        if p6.size != es.size then unsupported "internal:set-table-lost-an-element"
        pure (p6,t))
      storeSet r es t
     |.oneByOne =>
      for (h,x) in <- setWalkUnseen o [r] (some r) do
       let _ <- holding [x] (setAddHashed r x h)
       pX
       if (<- setState o).2.1 != ep then unsupported "set.changed-during-merge") Q E s1:=by
   intro s1 T ep1 C5 P7 D4 gU oO hld hg B3;have xX:T.fits (#[]:Array (Int×Value)).size=true:=y7.mpr ⟨by rw[gU];rfl,by rw[gU,oO];simp⟩;refine Qz (Z6 C5 rfl xX ?_);dsimp only;have eX:T.fill=0:=by unfold SetTable.fill;rw[gU,oO];rfl
   unfold SetTable.road;rw[eX];simp only[Z7,Zd,Q7];by_cases hc:(T.mask == t.mask && t.dummies.isEmpty)=true
   ·rw[Vh hc];dsimp only;refine Z4 C5 rfl ?_ (Z5 I0);obtain⟨_,hS⟩:=yZ (P:=prog) (w:=w) (t':={ t with finger:=T.finger,led:=T.led && t.led,moves:=T.moves,plain:=T.plain && t.plain }) C5 ⟨rfl,rfl,rfl⟩ rfl hp nd hb (y7.mpr (y7.mp hf)) (by rw[hld];exact S4) (.inr (by show(T.plain && t.plain)=false;rw[K4,Jm]));rw[D4];exact h ys _ (Jl _) (P7.trans (Yx _ _ _)) hS
   ·rw[Vi hc];dsimp only;obtain⟨t',o0,el,q1,q2,q3,q4,q5,q6,q7⟩:=qgL hg T.finger T.moves (T.led && t.led) (T.plain && t.plain) (es.map (·.1)) (by simpa using B3);rw[el];dsimp only;have lI:(o0.filterMap (es[·]?)).toList.Perm es.toList:=by
     rw[Array.toList_filterMap];exact qfU es (by simpa using q7)
    have hsz:(o0.filterMap (es[·]?)).size=es.size:=by rw[<- Yr,lI.length_eq,Yr]
    rw[hsz];simp only[Z7,Zd,Q7];refine Qz (Q0 ?_);dsimp only;obtain⟨us,hu,lH⟩:=yE hp lI;refine Z4 C5 rfl ?_ (Z5 (by rw[hsz];exact I0));obtain⟨_,hS⟩:=yZ (P:=prog) (w:=w) (t':=t') C5 ⟨rfl,rfl,rfl⟩ rfl lH (hu.nodup_iff.mpr nd) (by rw[hu.length_eq];exact hb) (by rw[hsz];simpa using q1) (by rw[q2,hld];exact S4) (.inr (by rw[q3,K4,Jm]));rw[D4];exact h us _ hu (P7.trans (Yx _ _ _)) hS
  have V3:(SetTable.fresh 0 0 (!(w.params.followText "set-order"))).fits (#[]:Array (Int×Value)).size=true:=rfl;unfold setRoomFor;refine Qz (Qz (Z6 hr rfl V3 ?_));have hrf:(SetTable.fresh 0 0 (!(w.params.followText "set-order"))).roomFor es.size=if es.size*5 ≥ 21 then some (es.size*2) else none:=by
   unfold SetTable.roomFor SetTable.fill SetTable.fresh;simp
  dsimp only;rw[hrf];by_cases h5:es.size*5 ≥ 21
  ·rw[Vh h5];dsimp only;unfold setRelay;refine Qz (Z6 hr rfl V3 ?_);dsimp only;have W8:es.size<1024:=by omega
   have hgm:=qfV W8;have hmm:=qk1 es.size W8;rw[Qj es.size 2];have sL:¬ SetTable.sizeAbove (2*es.size) > sizeLine:=by
    have h256:SetTable.sizeAbove (2*es.size)<=2048:=by
     rcases hmm.1 with e|e|e|e|e|e|e|e|e <;> omega
    have:(2048:Nat)<=sizeLine:=by decide
    omega
   rw[Vi sL];obtain⟨t',o0,el,q1,q2,q3,q4,q5,q6,q7⟩:=qgL hgm (SetTable.fresh 0 0 (!(w.params.followText "set-order"))).finger ((SetTable.fresh 0 0 (!(w.params.followText "set-order"))).movedTo (SetTable.sizeAbove (2*es.size)-1)) (SetTable.fresh 0 0 (!(w.params.followText "set-order"))).led (SetTable.fresh 0 0 (!(w.params.followText "set-order"))).plain ((#[]:Array (Int×Value)).map (·.1)) (by simp);have er:(SetTable.fresh 0 0 (!(w.params.followText "set-order"))).relaid ((#[]:Array (Int×Value)).map (·.1)) (2*es.size)=some (t',o0):=el;rw[er];have eo:o0=#[]:=by
    have:=q7.length_eq
    simp at this;exact this
   subst eo;refine Qz (m:=(do
        if ((#[]:Array Nat).filterMap ((#[]:Array (Int×Value))[·]?)).size != (#[]:Array (Int×Value)).size then unsupported "internal:set-table-lost-an-element"
        pure (((#[]:Array Nat).filterMap ((#[]:Array (Int×Value))[·]?)),t'):Sem (Array (Int×Value)×SetTable))) ?_
   rw[show((#[]:Array Nat).filterMap ((#[]:Array (Int×Value))[·]?))=#[] from rfl];simp only[Z7,Zd,Q7];refine Q0 ?_;dsimp only;refine Z4 hr rfl ?_ (by decide);have hg2:(s.heap.update r (Obj.putSet #[] t')).get? r=some { cls:=.type "set",dict:=none,data:=.set #[] (0+1) t' }:=by
    have:=XR (Obj.putSet (#[]:Array (Int×Value)) t') hr (by rw[putSet_of #[] t' rfl];rfl)
    rw[putSet_of #[] t' rfl] at this;exact this
   refine eM { s with heap:=s.heap.update r (Obj.putSet #[] t') } t' 1 hg2 (Yx _ _ _) rfl ?_ q5 q2 (by rw[q4];exact hgm) (by rw[q4];exact hmm.2);exact Array.eq_empty_of_size_eq_zero (by simpa using q6)
  ·rw[Vi h5];dsimp only;refine Q0 ?_;exact eM s _ 0 hr ⟨rfl,λ _ _=>rfl⟩ rfl rfl rfl rfl qk0 (by show es.size<=7;omega)
theorem qiL{Q:Value->Shared->Prop}(h:Q (.ref s.heap.objs.size) { s with heap:=s.heap.push (qH w) }):wpAny (model prog w) A (newSet (.type "set")) Q E s:=by
 unfold newSet setsByText;refine Qz (Qz (Uo (Q0 ?_)));dsimp only;simp only[newObj];exact Qz (wpAny_alloc (Q0 h))
theorem qmy{l r:Addr}{ys zs:List Str}{Q:Value->Shared->Prop}(hL:qM prog w s.heap l ys)(hR:qM prog w s.heap r zs)(hn:zs.length<1024)(hm:ys.length<1024)(h:∀ us h' d,us.Nodup->(∀ x,x∈us ↔ ((x∈zs/\x∉ys)∨(x∈ys/\x∉zs)))->(∀ b o,s.heap.get? b=some o->h'.get? b=some o)->qM prog w h' s.heap.objs.size us->Q (.ref s.heap.objs.size) { s with heap:=h',drawn:=d }):
  wpAny (model prog w) A (binaryOp .BitXor (.ref l) (.ref r)) Q E s:=by
 have iC:=hL.typeIs (s:=s);have hTr:=hR.typeIs (s:=s);have lM:l<s.heap.objs.size:=by obtain⟨_,_,_,_,e,_⟩:=hL;exact Qd e
 have wW:r<s.heap.objs.size:=by obtain⟨_,_,_,_,e,_⟩:=hR;exact Qd e
 refine wpAny_binaryOp_same (op:=.BitXor) iC hTr PySem.F.fills_set_xor PySem.F.slot_set_xor (Um PySem.F.slot_set_xor iC F.entry_set_xor ?_ (PySem.F.args_set_xor_2 _ _));unfold Builtin.«frozenset.__xor__»;show wpAny _ _ ((Builtin.Frozenset.isAnySet (.ref l) <&&> Builtin.Frozenset.isAnySet (.ref r)) >>= _) _ _ s
 refine Qz (Qz (vV iC ?_));show wpAny _ _ (Builtin.Frozenset.isAnySet (.ref r)) _ _ s
 refine vV hTr ?_;simp only[J5,Zd,Q7];refine Qz (Q0 ?_);refine Qz ?_;show wpAny _ _ (Builtin.Frozenset.baseOf l >>= _) _ _ s
 unfold Builtin.Frozenset.baseOf;refine Qz ?_;refine Qz (Up iC sub_set_self (Q0 ?_));show wpAny _ _ (Builtin.Frozenset.newFrom _ (.type "set") (.ref r) >>= _) _ _ s
 refine Qz ?_;unfold Builtin.Frozenset.newFrom;refine Qz (qiL ?_);have hW:∀ b o,s.heap.get? b=some o->(s.heap.push (qH w)).get? b=some o:=λ b o e=>XD _ e
 have up:∀{h h':Heap}{a:Addr}{us:List Str},qM prog w h a us->(∀ o,h.get? a=some o->h'.get? a=some o)->qM prog w h' a us:=λ hS k=>by
  obtain⟨o,es,ep,t,ho,rest⟩:=hS;exact⟨o,es,ep,t,k o ho,rest⟩
 have oY:qM prog w (s.heap.push (qH w)) r zs:=up hR λ o e=>hW r o e
 have A1:(s.heap.push (qH w)).get? s.heap.objs.size=some (qH w):=Ys _ rfl;refine Qz (Q0 ?_);refine Qz (J8 ?_);unfold Builtin.Frozenset.updateFrom;refine Qz (vV (oY.typeIs (s:={ s with heap:=s.heap.push (qH w) })) ?_);simp only[Vd];show wpAny _ _ (Builtin.Frozenset.merge _ s.heap.objs.size r) _ _ _
 unfold Builtin.Frozenset.merge;obtain⟨o,es,ep,t,ho,hex,hd,hp,nd,hb,hf,hl,t8⟩:=id oY;refine Qz (Z8 ho hd hf ?_);refine qkk (s:={ s with heap:=s.heap.push (qH w) }) (Vb (Qe wW)) A1 oY hn λ us h2 hu p7 hU=>?_
 have W9:∀ b o,s.heap.get? b=some o->h2.get? b=some o:=λ b o e=>(p7.2 b (Qe (Qd e))).trans (hW b o e)
 refine Q0 ?_;refine Qz (Q0 ?_);refine Qz (J8 ?_);have oZ:qM prog w h2 l ys:=up hL λ o e=>W9 l o e
 refine qbo (s:={ s with heap:=h2 }) (Vb (Qe lM)) oZ hU ?_ λ vs h3 d oB hs3 hV=>?_
 ·have:=hu.length_eq
  have hbd:(2048:Nat)<scanBound:=by decide
  omega
 ·refine Q0 (Q0 ⟨_,rfl,(λ e=>by cases e),?_⟩);refine h vs h3 d ?_ (λ x=>?_) (λ b o e=>(hs3.2 b (Qe (Qd e))).trans (W9 b o e)) hV
  ·obtain⟨_,_,_,_,_,_,_,_,nd,_⟩:=hV;exact nd
  ·rw[oB x,hu.mem_iff]
end
section
variable {X:Cx}
def qnz(P:Program)(w:World):R2:=λ x y H Q=>∃ a b ys zs,x=.ref a/\y=.ref b/\H a=some (qdO P w a ys)/\H b=some (qdO P w b zs)/\ys.length<1024/\zs.length<1024 /\
 ∀ l us,H l=none->us.Nodup->(∀ x,x∈us ↔ ((x∈ys/\x∉zs)∨(x∈zs/\x∉ys)))->Q (.ref l) (upd H l (qdO P w l us))
theorem qiM:OpR X (binaryOp .BitXor) (qnz X.prog X.w):=by
 intro pins s σ H x y v u Q I rx ry h;obtain⟨a,b,ys,zs,rfl,rfl,ha,hb,hn,hm,q⟩:=h;cases rx
 cases ry
 obtain⟨l7,hy,V6⟩:=I.set ha;obtain⟨zs',hz,dF⟩:=I.set hb;refine qmy V6 dF (by rw[hz.length_eq];exact hm) (by rw[hy.length_eq];exact hn) λ us h' d nd hm hk hU=>?_
 have hf:=I.hok.fresh (Qs s.heap.objs.size);refine⟨.ref s.heap.objs.size,_,I.call' (s':={ s with heap:=h',drawn:=d }) (ch:=[]) rfl (Un.laid hk (Qs _) hf) (I.hok.laid hk (Qs _) (qgK (Jl us) hU)) I.bare (λ _ z=>nomatch z),rfl,q _ us hf nd λ x=>?_⟩;rw[hm x,hy.mem_iff,hz.mem_iff];exact Or.comm
end
namespace F
theorem kK:Slot "reversed" "__init__" "object.__init__":=
 .of (owner:="object") (n:="__init__") (by rw[Jf,Ye];kernel_rfl) (by decide +kernel) (by decide +kernel) (by decide +kernel)
  (by first|exact .inl (by decide +kernel)|exact .inr (by decide +kernel)) (by rw[Ju];kernel_rfl)
theorem called_reversed:TypeCalled "reversed" "reversed.__new__" "object.__init__":=
 ⟨by decide +kernel,by decide +kernel,⟨_,_,PySem.F.mro_reversed⟩,PySem.F.made_reversed,by decide +kernel,by rw[Ju];kernel_rfl,kK⟩
theorem no_str_reversed:typeLookup (.type "str") "__reversed__"=pure none:=by rw[Jf,Ye];kernel_rfl
theorem sub_str_dict:isSubtype (.type "str") (.type "dict")=pure false:=by rw[Ju];kernel_rfl
theorem slot_reversed_next:Slot "reversed" "__next__" "reversed.__next__":=
 .of (owner:="reversed") (n:="__next__") (by rw[Jf,Ye];kernel_rfl) (by decide +kernel) (by decide +kernel) (by decide +kernel)
  (by first|exact .inl (by decide +kernel)|exact .inr (by decide +kernel)) (by rw[Ju];kernel_rfl)
theorem entry_reversed_next:entryFor table "reversed.__next__"=some Builtin.«reversed.__next__»:=entryFor_of_fast (by kernel_rfl)
theorem args_reversed_next_1(a:Value):argsOk "reversed.__next__" ⟨[a],[]⟩:=by unfold argsOk;kernel_rfl
theorem slot_reversed_iter:Slot "reversed" "__iter__" "reversed.__iter__":=
 .of (owner:="reversed") (n:="__iter__") (by rw[Jf,Ye];kernel_rfl) (by decide +kernel) (by decide +kernel) (by decide +kernel)
  (by first|exact .inl (by decide +kernel)|exact .inr (by decide +kernel)) (by rw[Ju];kernel_rfl)
theorem entry_reversed_iter:entryFor table "reversed.__iter__"=some Builtin.«dict_keyiterator.__iter__»:=
 Jv (id':="dict_keyiterator.__iter__") (by kernel_rfl) (by first | rfl | decide +kernel) (by decide +kernel) (by kernel_rfl)
theorem args_reversed_iter_1(a:Value):argsOk "reversed.__iter__" ⟨[a],[]⟩:=by unfold argsOk;kernel_rfl
theorem boot_reversed:bootBuiltins "reversed"=some (.type "reversed"):=by decide +kernel
end F
section
variable {prog:Program}{w:World}{A:Around}{E:Value->Shared->Prop}{s:Shared}
noncomputable abbrev qcN(z:Str)(t:Tok)(i:Int):Obj:={ cls:=.type "reversed",data:=.fields #[.str z t,.int i 0] }
theorem qbp(z:Str)(t:Tok)(hz:z.length<=sizeLine):MeetsIn prog w (Builtin.«reversed.__new__» ⟨[.type "reversed",.str z t],[]⟩)
  (λ _ R s=>∀ tk,R (.ok (.ret (.ref s.heap.objs.size))) { s with heap:=s.heap.push (qcN z t ((z.length:Int)-1)),toks:=tk }):=
 .of_wp λ A R s h=>by
  have hn:=vd;unfold Builtin.«reversed.__new__»;refine Qz (Qx (newClass_reversed _) ?_)
  try dsimp only
  refine Qz (Qx (a:=()) (by first|rfl|kernel_rfl) ?_);refine Qz (Qx (a:=()) (by first|rfl|kernel_rfl) ?_)
  try dsimp only
  refine Qz (Jd (Q3 s z t) F.no_str_reversed ?_)
  try dsimp only
  refine Qz ?_;show wpAny _ _ (isInstance (.str z t) (.type "dict") >>= _) _ _ s
  refine Qz (Up (Q3 s z t) F.sub_str_dict ?_);simp only[Zd,Q7];refine Qz (Jd (Q3 s z t) slot_str_getitem.lookup ?_)
  try dsimp only
  refine Jg (λ _=>Q0 ?_) (λ w6=>absurd (by decide +kernel) w6);simp only[J5,Zd,Q7];refine Qz (len_str (by omega) ?_);refine Qz (Q0 ?_);dsimp only;refine Qz (m:=newObj (.type "reversed") (.fields #[.str z t,rawInt ((z.length:Int)-1)])) (Z0 ?_);exact Q0 ⟨_,rfl,h _⟩
theorem qau{z:Str}{t:Tok}{Q:Value->Shared->Prop}(hz:z.length<=sizeLine)(h:∀ tk,Q (.ref s.heap.objs.size) { s with heap:=s.heap.push (qcN z t ((z.length:Int)-1)),toks:=tk }):
  wpAny (model prog w) A (call (.type "reversed") [.str z t]) Q E s:=
 callType_newIn F.called_reversed (by decide) (PySem.F.typeCall_reversed_1 _) (PySem.F.newCall_reversed_1 _) (λ obj=>PySem.F.args_object_init_2 obj _) PySem.F.entry_reversed_new (qbp z t hz)
  λ tk=>⟨⟨_,Ys _ rfl,rfl⟩,h tk⟩
theorem qiN{I:Addr}{z:Str}{t:Tok}{i:Nat}{c:Nat}{Q:Option Value->Shared->Prop}(n8:s.heap.get? I=some (qcN z t (i:Int)))(hz:z.length<=sizeLine)(hc:z.cps[i]?=some c)(hQ:∀ h' tk u,h'.get? I=some (qcN z t ((i:Int)-1))->Heap.SameBut I s.heap h'->Q (some (.str ⟨#[c]⟩ u)) { s with heap:=h',toks:=tk }):wpAny (model prog w) A (pyNext (.ref I)) Q E s:=by
 have hT:s.TypeIs (.ref I) "reversed":=⟨_,n8,rfl⟩;have hn:=vd;have hil:i<z.length:=(Array.getElem?_eq_some_iff.mp hc).1;unfold pyNext;refine Qz (Qb (XC (name:=Str.ofString "__next__") hT F.slot_reversed_next
  (Um F.slot_reversed_next hT F.entry_reversed_next ?_ (F.args_reversed_next_1 _))))
 unfold Builtin.«reversed.__next__»;refine Qz (Qx (a:=(Value.ref I,[])) rfl ?_)
 try dsimp only
 refine Qz (Qw n8 rfl (x:=.str z t) rfl ?_);refine Qz (Qw n8 rfl (x:=.int (i:Int) 0) rfl ?_);dsimp only;rw[Vi (by omega)];refine Qz (Jd (Q3 s z t) slot_str_getitem.lookup ?_);simp only[Option.isNone_some,Zd,Q7];refine Qz (wpAny_mkInt ?_);refine Qz (Qb (getItem_str (c:=c) (by
  have e1:decide ((i:Int) < -(2^63:Int))=false:=Ja (by omega);have e2:decide ((i:Int) ≥ 2^63)=false:=Ja (by omega);rw[e1,e2,Bool.or_false]) (by
   have e:seqIndex? (i:Int) z.length=some i:=by
    have e1:(if (i:Int)<0 then(i:Int)+(z.length:Int) else(i:Int))=(i:Int):=Vi (by omega);unfold seqIndex?;dsimp only;rw[e1,Vh (by
     rw[Uf];exact⟨Jt (by omega),Jt (by omega)⟩),Zn]
   rw[e];exact hc) ?_))
 dsimp only;refine Qz (Qw n8 rfl (x:=.int (i:Int) 0) rfl ?_);dsimp only;refine Qz (Zk n8 (by simp) λ h1 K5 P7=>?_);refine Q0 ⟨_,rfl,Q0 (hQ h1 _ _ ?_ P7)⟩;rw[K5];rfl
theorem qiO{I:Addr}{z:Str}{t:Tok}{Q:Option Value->Shared->Prop}(hh:A.handled=none)(n8:s.heap.get? I=some (qcN z t (-1)))(hQ:∀ h',Heap.ExtBut I s.heap h'->Q none { s with heap:=h' }):wpAny (model prog w) A (pyNext (.ref I)) Q E s:=by
 have hT:s.TypeIs (.ref I) "reversed":=⟨_,n8,rfl⟩;unfold pyNext;refine Qz (Qb (XC (name:=Str.ofString "__next__") hT F.slot_reversed_next
  (Um F.slot_reversed_next hT F.entry_reversed_next ?_ (F.args_reversed_next_1 _))))
 unfold Builtin.«reversed.__next__»;refine Qz (Qx (a:=(Value.ref I,[])) rfl ?_)
 try dsimp only
 refine Qz (Qw n8 rfl (x:=.str z t) rfl ?_);refine Qz (Qw n8 rfl (x:=.int (-1) 0) rfl ?_);dsimp only;rw[Vh (by decide)];refine Qz (Q1 ?_);refine Qz ?_;refine Qz (m:=setField (.ref I) 1 (rawInt (-1))) (Zk n8 (by simp) λ h1 K5 P7=>?_);refine wpAny_setField K5 rfl (by simp) ?_;refine Qz ?_;show wpAny _ _ (newExc (.type "StopIteration") [] >>= _) _ _ _
 refine Qz ?_;simp only[newExc,newTuple];refine Qz (Z0 ?_ (by size_fits));refine Qz (m:=firstArgMember _ _) (Qx (a:=Value.none) (by first|rfl|(simp only[firstArgMember];rfl)) ?_);refine Z0 ?_ (by size_fits);simp only[raiseNew];refine Qz (wpAny_handled ?_)
 first|rw[show A.in1.handled=none from hh]|rw[hh]
 refine Qz (Q0 (wpAny_throw ?_));refine Qz (Up (T:="StopIteration") (b:=true) ⟨_,Ys _ rfl,rfl⟩ isSubtype_stop ?_);exact Q0 (hQ _ ((((P7.trans (Yx ..))).extBut.push _).push _))
theorem qcb{I:Addr}{z:Str}{t:Tok}{i:Int}{Q:Value->Shared->Prop}(n8:s.heap.get? I=some (qcN z t i))(h:Q (.ref I) s):wpAny (model prog w) A (pyIter (.ref I)) Q E s:=by
 have hT:s.TypeIs (.ref I) "reversed":=⟨_,n8,rfl⟩;refine wpAny_pyIter_slot hT F.slot_reversed_iter (Um F.slot_reversed_iter hT F.entry_reversed_iter ?_ (F.args_reversed_iter_1 _));show wpAny _ _ (ret (.ref I)) _ _ s
 exact Q0 ⟨_,rfl,"reversed",_,hT,F.slot_reversed_next.lookup,h⟩
noncomputable def qiP(z:Str)(i:Nat):V:=.str ⟨#[z.cps.getD (z.length-1-i) 0]⟩
theorem Walks.rev(hh:A.handled=none)(I:Addr)(z:Str)(t:Tok)(hz:z.length<=sizeLine):
  Walks prog w A I [I] [I] z.length (λ i v=>qO (qiP z i) v) (λ i h=>h.get? I=some (qcN z t ((z.length:Int)-1-i))) where
 sub:=λ _ hb=>hb
 frame:=λ _ _ _ st hk=>hk I (by simp) _ st
 item:=λ i s Q E hi st hQ=>by
  have e:(z.length:Int)-1-i=((z.length-1-i:Nat):Int):=by omega
  rw[e] at st;have c8:z.length-1-i<z.cps.size:=by show _<z.length;omega
  refine qiN st hz (c:=z.cps.getD (z.length-1-i) 0) ?_ λ h' tk u C6 A6=>?_
  ·rw[Xg,Xo c8];rfl
  ·refine hQ _ h' tk ⟨u,rfl⟩ ?_ λ b o hb e=>A6.extBut b o (λ h=>hb (by simp[h])) e
   rw[C6];congr 1
   have:((z.length-1-i:Nat):Int)-1=(z.length:Int)-1-((i+1:Nat):Int):=by omega
   rw[this]
 done:=λ s Q E st hQ=>by
  have e:(z.length:Int)-1-(z.length:Nat)=-1:=by omega
  rw[e] at st;exact qiO hh st λ h' cY=>hQ h' s.toks λ b o hb e=>cY b o (λ h=>hb (by simp[h])) e
 self:=λ _ _ _ _ st hQ=>qcb st hQ
end
section
variable {X:Cx}
def qnA(ta:TA):TI:=λ σ H R=>ta σ H λ vs H1=>∃ z,vs=[.str z]/\z.length<=sizeLine/\R (ItV z.length (qiP z)) H1
theorem qlC{tg l:Expr}{ta:TA}{p pos:Pos}(hg:Gl X "reversed")(hm:X.mg "reversed"=none)(ha:PA X [l] ta)(hs:starEach [l] X.env=[(false,eval l X.env)]:=by rfl):
  PI X tg (.Call (.Name "reversed" p) [l] [] pos) (qnA ta):=by
 intro pins s σ H R I h;refine qb3 hg hm F.boot_reversed ha I h (λ us s1 vs H1 I1 r1 q1=>?_) (hs:=hs);obtain⟨z,rfl,hz,q⟩:=q1;obtain⟨u,rfl,ru⟩:=yg r1;obtain⟨t,rfl⟩:=ru;refine qau hz λ tk=>?_
 have A1:(s1.heap.push (qcN z t ((z.length:Int)-1))).get? s1.heap.objs.size=some (qcN z t ((z.length:Int)-1)):=Ys _ rfl;refine qcb A1 ⟨s1.heap.objs.size,[s1.heap.objs.size],_,_,H1,rfl,I1.kept (t':=tk) λ b o e=>XD _ e,
  kH (qiP z) (λ A hA=>Walks.rev hA _ z t hz) (λ i v h=>h) (λ i h st=>⟨_,_,_,st,rfl,rfl,by decide⟩) (λ _ _ _ _ _ st h=>qcb st h),?_,λ b hb=>?_,q⟩
 ·show(s1.heap.push _).get? _=some (qcN z t ((z.length:Int)-1-((0:Nat):Int)))
  rw[A1];congr 1;rw[show((0:Nat):Int)=0 from rfl,Int.sub_zero]
 ·have e:b=s1.heap.objs.size:=by simpa using hb
  subst e;exact I1.fpOk (Qs _) (I1.hok.fresh (Qs _))
end
namespace F
theorem lk_list_keys:typeLookup (.type "list") "keys"=pure none:=by rw[Jf,Ye];kernel_rfl
theorem entry_dict_update_loop:entryFor table "dict.update.loop"=some Builtin.«dict.update.loop»:=entryFor_of_fast (by kernel_rfl)
theorem plain_dict_update_loop:plainId "dict.update.loop"=true:=by decide +kernel
end F
section
variable {prog:Program}{w:World}{A:Around}{E:Value->Shared->Prop}{s:Shared}
theorem qhz{a:Addr}{o:Obj}{xs:Array Value}{k:Nat}{Q:Option Value->Shared->Prop}(hx:s.heap.get? a=some o)(hc:o.cls=.type "list")(oQ:o.data=.seq xs k)(hd:o.dict=none)(hA:A.handled=none)(h:∀ h' tk,(∀ b o,s.heap.get? b=some o->h'.get? b=some o)->Q none { s with heap:=h',toks:=tk }):wpAny (model prog w) A (getAttr? (.ref a) "keys") Q E s:=by
 obtain⟨c,dct,dat,sl⟩:=o;simp only at hc oQ hd;subst hc oQ hd;obtain⟨hp,g,d,tk,os⟩:=s;have hT:∀ mJ,(⟨hp,g,d,mJ,os⟩:Shared).TypeIs (.ref a) "list":=λ _=>⟨_,hx,rfl⟩
 have f1:=sub_AttributeError;have f3:=PySem.F.slot_list_getattribute.lookup;have f4:=PySem.F.slot_list_getattribute.bind (.ref a);have f5:=am_list_getattr_none;have hsz:("keys":Str).length+100<=sizeLine:=by decide
 unfold getAttr? getAttrBy? getAttrBy
 repeat (any_goals (first | assumption | exact hT _ | ((with_reducible show wpAny _ _ (call (Value.builtin "list.__getattribute__") _ _) _ _ _);refine Q4 PySem.F.slot_list_getattribute (hT _) am_entry_list_getattribute (PySem.F.args_list_getattribute_2 _ _) (meets_getattribute_miss_list a xs k sl "keys" _ F.lk_list_keys (by decide +kernel) hsz) ⟨hx,hA,λ h' mJ e p4=>?_⟩) | wp_step))
 obtain⟨t',u',he⟩:=p4.there;show wpAny _ _ (getattributeRaised _ _ _ _ _ _ _) _ _ _
 unfold getattributeRaised
 repeat (any_goals (first|assumption|wp_step))
 exact h _ _ p4.keeps
noncomputable def kvK(l:List (Str×V)):List (Key×V):=l.map λ x=>(.inr x.1,x.2)
theorem qeM(a b:List (Key×V))(x:Key×V):qV a (b++[x])=yB (qV a b) x.1 x.2:=by
 unfold qV;rw[List.foldl_append];rfl
theorem qhA{I l D:Addr}{items:Array Value}{pairs:List (Str×V)}{s0:Shared}{R:Result->Shared->Prop}(hh:A.handled=none)(hlI:l≠I)(hDI:D≠I)(hDl:D≠l)(hn:items.size=pairs.length)(hsz:pairs.length<=sizeLine)(hp:∀(j:Nat) kv,pairs[j]?=some kv->∃ p its tk u,items[j]?=some (.ref p)/\s0.heap.IsTuple p its/\its=#[.str kv.1 tk,u]/\qO kv.2 u/\p≠D/\p≠I)(hR:∀ s' V8,s'.os=s0.os->s'.gens=s0.gens->s'.drawn=s0.drawn->(∀ b o,b≠D->b≠I->s0.heap.get? b=some o->s'.heap.get? b=some o)->s'.heap.DictOf (qx prog w) D V8->KV (qV [] (kvK pairs)) V8->R (.ok (.ret .none)) s'):
  ∀(k i:Nat)(s:Shared)(V8:List (Key×Value))(ti:Tok),pairs.length-i=k->i<=pairs.length->s.os=s0.os->s.gens=s0.gens->s.drawn=s0.drawn->(∀ b o,b≠D->b≠I->s0.heap.get? b=some o->s.heap.get? b=some o)->s.heap.IsListIter I l i->s.heap.IsList l items ->
   s.heap.DictOf (qx prog w) D V8->KV (qV [] (kvK (pairs.take i))) V8->V8.length<=i->codeAny (model prog w) A (.builtin "dict.update.loop" ⟨[.ref D,.ref I,.int i ti,.none],[]⟩) R s:=by
 intro k;induction k with
 |zero =>
  intro i s V8 ti hk hi e1 e2 e3 lO n8 hl hD eZ eY;have aB:i=pairs.length:=by omega
  subst aB;refine Je F.entry_dict_update_loop ?_;rw[Yi F.plain_dict_update_loop _];unfold Builtin.«dict.update.loop»;refine Qz ((Walks.list (A:=A.in1) (by simpa using hh) I l hlI items).done s _ _ (by rw[hn];exact⟨n8,hl⟩) λ h' tk N7=>?_);show wpAny _ _ (Builtin.Dict.addKeywords D [] >>= _) _ _ _
  refine Qz (Q0 (Q0 ?_));refine hR _ V8 e1 e2 e3 (λ b o N9 N8 e=>N7 b o (by simpa using N8) (lO b o N9 N8 e)) ?_ (by rw[Uj] at eZ;exact eZ);obtain⟨o,es,ep,ho,rest⟩:=hD;exact⟨o,es,ep,N7 D o (by simpa using hDI) ho,rest⟩
 |succ k ih =>
  intro i s V8 ti hk hi e1 e2 e3 lO n8 hl hD eZ eY;have c8:i<pairs.length:=by omega
  refine Je F.entry_dict_update_loop ?_;rw[Yi F.plain_dict_update_loop _];unfold Builtin.«dict.update.loop»;refine Qz ((Walks.list (A:=A.in1) (by simpa using hh) I l hlI items).item i s _ _ (by omega) ⟨n8,hl⟩ λ v h1 tk hP C4 N7=>?_);obtain⟨p,its,mJ,u,ei,hT,rfl,ru,hpD,hpI⟩:=hp i pairs[i] (Xw c8);have ev:v=.ref p:=by rw[ei] at hP;exact(Option.some.inj hP).symm
  subst ev;obtain⟨ot,eV,sS,nt,iA⟩:=hT;have nW:h1.get? p=some ot:=N7 p ot (by simpa using hpI) (lO p ot hpD hpI eV);have hD1:h1.DictOf (qx prog w) D V8:=by
   obtain⟨o,es,ep,ho,rest⟩:=hD;exact⟨o,es,ep,N7 D o (by simpa using hDI) ho,rest⟩
  refine Qz (J8 ?_);refine Qz (wpAny_tryCatch ?_);unfold Builtin.Dict.pairItems;refine Qz (Qq (T:="tuple") ⟨ot,nW,sS⟩ ?_);simp only[show(Value.type "tuple" == Value.type "list")=false by decide,show(Value.type "tuple" == Value.type "tuple")=true by decide,Bool.or_true,J4,Vd];refine Qz (wpAny_seqItems nW iA ?_);refine Q0 ?_;show wpAny _ _ (holding _ (dictSet D (.str pairs[i].1 mJ) u)) _ _ _
  refine J8 (wpAny_dictSet_pairs (hsz:=by omega) (k:=.inr pairs[i].1) (zn prog w _ mJ) hD1 λ h2 bV p7=>?_);refine Q0 ⟨Qa F.plain_dict_update_loop _,?_⟩;refine ih (i+1) { s with heap:=h2,toks:=tk+1 } (stored V8 (.inr pairs[i].1) u) 0 (by omega) c8 e1 e2 e3 (λ b o N9 N8 e=>(p7.2 b N9).trans (N7 b o (by simpa using N8) (lO b o N9 N8 e))) ?_ ?_ bV ?_ ?_
  ·exact C4.1.at λ o e=>(p7.2 I (Vb hDI)).trans e
  ·exact C4.2.at λ o e=>(p7.2 l (Vb hDl)).trans e
  ·have et:pairs.take (i+1)=pairs.take i++[pairs[i]]:=by rw[Jo,Xw c8];rfl
   rw[et];unfold kvK;rw[U2,Jz,List.map_nil,qeM];exact eZ.put _ ru
  ·have:=eZ.length
   have h2:=(eZ.put (.inr pairs[i].1) ru).length;rw[<- h2];have h3:=yC (qV [] (kvK (pairs.take i))) (.inr pairs[i].1) pairs[i].2;omega
end
section
variable {X:Cx}
theorem qbd{α β:Type}{F:α->β->Prop}:∀{xs:List α}{l:List β},Paired F xs l->∀(k:Nat)(b:β),l[k]?=some b->∃ a,xs[k]?=some a/\F a b
 |_,_,.nil,k,b,h=>by simp at h
 |_,_,.cons r t,0,b,h=>by simp at h;subst h;exact⟨_,rfl,r⟩
 |_,_,.cons r t,k+1,b,h=>by
  obtain⟨a,h1,h2⟩:=qbd t k b (by simpa using h);exact⟨a,by simpa using h1,h2⟩
def qlD(K:W.Frag):List V->Hp->VK->Prop:=λ xs H Q=>∃(p:Addr)(ps:List Addr)(pairs:List (Str×V)),xs=[.ref p]/\SqL K H p (ps.map V.ref)/\Paired (λ a kv=>SqT K H a [.str kv.1,kv.2]) ps pairs /\
 ∀ d,H d=none->Q (.ref d) (upd H d (.dK (qV [] (kvK pairs))))
theorem ji(hc:X.calm=true):y3 X (.type "dict") (qlD X.K):=by
 intro pins s σ H xs us Q I r h;obtain⟨l,ps,pairs,rfl,hq,V1,q⟩:=h;obtain⟨u,rfl,ru⟩:=yg r;cases ru
 obtain⟨its,rv,⟨ol,nl,hol,eY,hdl,sL⟩,hz⟩:=I.list hq;have hA:=I.ok.hd hc;have lM:l<s.heap.objs.size:=Qd hol;have c5:ps.length=pairs.length:=V1.length;have xP:its.length=pairs.length:=by rw[<- rv.length,Ut];exact c5
 have hsz:pairs.length<=sizeLine:=by rw[Ut] at hz;omega
 refine callType_codes (Q₁:=λ obj s₁=>obj=.ref s.heap.objs.size/\s₁={ s with heap:=s.heap.push { cls:=.type "dict",data:=.dict #[] } }) PySem.F.kt_called_dict (PySem.F.kt_typeCall_dict_1 _) PySem.F.entry_dict_init (kt_code_dict_new _ ⟨rfl,rfl⟩) ?_;rintro obj s₁ ⟨rfl,rfl⟩;have A1:(s.heap.push { cls:=.type "dict",data:=.dict #[] }).DictOf (qx X.prog X.w) s.heap.objs.size []:=Heap.DictOf.new s.heap;refine⟨A1.typeIs,PySem.F.args_dict_init_2 _ _,?_⟩;unfold Builtin.«dict.__init__»;refine Qz ?_;unfold Builtin.Dict.selfAndRest;refine Qz (wpAny_notOrdered_dict A1.typeIs ?_);show wpAny _ _ (pure (s.heap.objs.size,[Value.ref l])) _ _ _
 refine Q0 ?_;show wpAny _ _ (Builtin.Dict.updateFrom "dict.__init__" s.heap.objs.size (.ref l) [] .none) _ _ _
 unfold Builtin.Dict.updateFrom;have gW:(s.heap.push { cls:=.type "dict",data:=.dict #[] }).get? l=some ol:=XD _ hol;refine Qz (Qq (T:="list") ⟨ol,gW,eY⟩ ?_);rw[Vh (by decide)];refine Qz (qhz (s:={ s with heap:=s.heap.push { cls:=.type "dict",data:=.dict #[] } }) gW eY sL hdl (by simpa using hA) λ h2 tk2 W9=>?_);simp only[Option.isNone_none,Vd];refine Qz (Q1 ?_);have nX:h2.get? l=some ol:=W9 l ol gW;have N6:h2.IsList l its.toArray:=⟨ol,nX,eY,nl,sL⟩;have bV:h2.DictOf (qx X.prog X.w) s.heap.objs.size []:=by
  obtain⟨o,es,ep,ho,rest⟩:=A1;exact⟨o,es,ep,W9 _ o ho,rest⟩
 have iD:s.heap.objs.size<h2.objs.size:=by
  obtain⟨o,es,ep,ho,rest⟩:=bV;exact Qd ho
 have xM:l<h2.objs.size:=Qd nX;refine Qz (Z1 (s:={ s with heap:=h2,toks:=tk2 }) N6 ?_);refine Q0 ⟨Qa F.plain_dict_update_loop _,?_⟩;have lP:∀ b o,s.heap.get? b=some o->(h2.push { cls:=.type "list_iterator",data:=.fields #[.ref l,.int 0 0] }).get? b=some o:=λ b o e=>XD _ (W9 b o (XD _ e))
 refine qhA (A:=X.A.in1) (I:=h2.objs.size) (l:=l) (D:=s.heap.objs.size) (items:=its.toArray) (pairs:=pairs) (s0:={ s with heap:=h2.push { cls:=.type "list_iterator",data:=.fields #[.ref l,.int 0 0] },toks:=tk2 })
  (by simpa using hA) (Qe xM) (Qe iD) (Qh lM) (by rw[Zm];exact xP) hsz ?_ ?_ pairs.length 0 _ [] 0 (by omega) (Qt _) rfl rfl rfl (λ b o _ _ e=>e) ?_ ?_ ?_ (by rw[Jp];exact .nil) (Qs _)
 ·intro j kv hkv;obtain⟨p,bK,hT⟩:=qbd V1 j kv hkv;obtain⟨tis,rt,pt,_⟩:=I.tuple hT;obtain⟨u1,u2,e2,r1,r2⟩:=qeo rt;obtain⟨t1,rfl⟩:=r1;subst e2;obtain⟨ot,eV,sS,nt,iA⟩:=pt;have nU:p<s.heap.objs.size:=Qd eV;obtain⟨v,hv,rvv⟩:=rv.get (i:=j) (x:=.ref p) (by rw[Zl,bK];rfl);cases rvv
  refine⟨p,_,t1,u2,by simpa using hv,⟨ot,lP p ot eV,sS,nt,iA⟩,rfl,r2,Qe nU,Qe (Qi nU iD)⟩
 ·intro s' V8 e1 e2 e3 lO hD eZ;refine⟨rfl,?_⟩;have hf:=I.hok.fresh (Qs s.heap.objs.size);have hk4:∀ b o,s.heap.get? b=some o->s'.heap.get? b=some o:=λ b o e=>lO b o (Qe (Qd e)) (Qe (Qi (Qd e) iD)) (lP b o e)
  have hmz:(qV [] (kvK pairs)).length<=sizeLine:=by
   have gen:∀(ls c6:List (Key×V)),(qV c6 ls).length<=c6.length+ls.length:=by
    intro ls;induction ls with
    |nil=>intro c6;exact Qs _
    |cons x ls ih =>
     intro c6;show(qV (yB c6 x.1 x.2) ls).length<=_
     have:=ih (yB c6 x.1 x.2)
     have h3:=yC c6 x.1 x.2;rw[Ua];omega
   have:=gen (kvK pairs) []
   have e:(kvK pairs).length=pairs.length:=by unfold kvK;rw[Ut]
   simp at this;omega
  refine⟨.ref s.heap.objs.size,_,I.call' (s':=s') (ch:=[]) e1 (Un.laid hk4 (Qs _) hf) (I.hok.laid hk4 (Qs _) (qfE hmz (Y4.mpr (Vb (Qe I.big))) eZ hD)) (by rw[e2];exact I.bare) (λ _ z=>nomatch z),rfl,q _ hf⟩
 ·exact⟨_,Ys _ rfl,rfl,rfl⟩
 ·exact N6.push _
 ·obtain⟨o,es,ep,ho,rest⟩:=bV;exact⟨o,es,ep,XD _ ho,rest⟩
theorem qeN{pins:List (Addr×Obj)}{σ:St}{H2:Hp}{s2:Shared}{NY:List Str}{o:Nat}{caps:List Nat}{scope:Scope}{fp:List Addr}{it:Addr}{tn:Nat->Heap->Prop}{adv:Adv}{stop:Nat->Hp->Prop}{G2 tg iter:Expr}{B0:List Expr}{pos:Pos}{tt:TT}{te:TE}{Q:VK}{R:Result->Shared->Prop}(S:CompScope X NY o caps scope)(I2:Inv X pins σ H2 s2)(E8:∀ b∈fp,jw X pins H2 b)(i7:tn 0 s2.heap)(Wk:∀ C,Walk (zp X NY scope C s2 H2 fp pins) tg fp it tn adv stop)(ht:∀ C,PTs (zp X NY scope C s2 H2 fp pins) B0 tt)(he:∀ C,PE (zp X NY scope C s2 H2 fp pins) G2 te)(h:y6 o caps adv stop tt te σ H2 Q)(fin:∀(s4:Shared)(H3:Hp)(m:Str->Option Value),s4.heap.Ns (s2.heap.objs.size+1) m->Inv X pins σ H3 s4->H3 (s2.heap.objs.size+1)=none->Q (.ref s2.heap.objs.size) H3->R (.ok .next) s4):
  wpAny (model X.prog X.w) X.A (newList []) (λ c6 s₃=>wpAny (model X.prog X.w) X.A (newFunctionEnv scope X.env.globals (jG X.env scope.names []) [] X.env.qual none .none (some X.env)) (λ T7 s₄ =>
   c6=.ref s2.heap.objs.size/\T7.locals=s2.heap.objs.size+1/\codeAny (model X.prog X.w) X.A (.compStart (.ListComp G2 [⟨tg,iter,B0,0⟩] scope pos) 0 (.ref it) c6 { T7 with scope:=relabel scope X.env }) R s₄) X.xe s₃) X.xe s2:=by
 refine Z0 (wpAny_newFunctionEnv S.nocell (by intro y hy;simp at hy) (λ h₁ hns₁ G9₁=>?_) S.kind);dsimp only at hns₁ G9₁ ⊢;have hC:(s2.heap.push { cls:=.type "list",dict:=none,data:=.seq ([]:List Value).toArray }).objs.size=s2.heap.objs.size+1:=Jj _ _;rw[hC] at hns₁ G9₁ ⊢;have u3:∀ b ob,s2.heap.get? b=some ob->h₁.get? b=some ob:=λ b ob e =>
  (G9₁.2 b (Qe (Zs (Qd e)))).trans (XD _ (XD _ e))
 have hD:∃ n,h₁.get? s2.heap.objs.size=some { cls:=.type "list",data:=.seq ([]:List Value).toArray n }:=
  ⟨_,(G9₁.2 _ (Qe (Ub _))).trans (XD _ (Ys _ rfl))⟩
 have V3:H2 s2.heap.objs.size=none:=I2.hok.fresh (Qs _);obtain⟨W,⟨m0,w0⟩,turn⟩:=h _ V3;have gI:=(Wk 0).obj 0 s2.heap i7;have I4:=qeC S I2 E8 (λ b hb=>(gI b hb).imp λ _ q=>q.1) (hns:=hns₁) u3 hD (s2.toks+([]:List (Str×Value)).length);have mK:tn 0 h₁:=(Wk 0).keep _ _ _ i7 λ b _ ob e=>u3 b ob e
 have fr4:∀ b∈fp,upd H2 s2.heap.objs.size (.lst []) b=none:=λ b hb=>by
  obtain⟨ob,e,_⟩:=gI b hb;rw[qt (Qe (Qd e))];exact(E8 b hb).1
 have loop:codeAny (model X.prog X.w) X.A (.compLoop (.ListComp G2 [⟨tg,iter,B0,0⟩] scope pos) 0 (.ref it) (.ref s2.heap.objs.size) (compEnvC scope (jG X.env scope.names []) (s2.heap.objs.size+1) X.env))
   R { s2 with heap:=h₁,toks:=s2.toks+([]:List (Str×Value)).length }:=by
  have Wk:=Wk (s2.heap.objs.size+1);have ht:=ht (s2.heap.objs.size+1);have he:=he (s2.heap.objs.size+1);generalize hY:zp X NY scope (s2.heap.objs.size+1) s2 H2 fp pins=Y at Wk ht he I4;have iI:∀{H':Hp},(∀ b∈fp,H' b=none)->∀ b∈fp,jw Y [] H' b:=λ{H'} hn b hb=>by
   subst hY;obtain⟨ob,e,_⟩:=gI b hb;have k:=I4.ok.exf b hb;refine⟨hn b hb,k.1,I4.ok.exfs b hb,.inl hb,k.2,λ p hp=>?_⟩;have B4:p∈X.pn++pins:=by
    have:p∈(X.pn++pins)++[]:=hp
    simpa using this
   exact(E8 b hb).2.2.2.2.2 p B4
  refine qam (λ n s'=>∃ i ys H',Inv Y [] (stY o caps σ) H' s'/\tn i s'.heap/\(∀ b∈fp,H' b=none)/\W i n ys H') ?_ m0 ⟨0,[],_,I4,mK,fr4,w0⟩;rintro n s3 ⟨i,ys,H3,I3,E5,aN,w3⟩;have eE:Y.xe=λ _ _=>False:=by subst hY;rfl
  have ePw:Y.prog=X.prog/\Y.w=X.w/\Y.A=X.A/\Y.env=compEnvC scope (jG X.env scope.names []) (s2.heap.objs.size+1) X.env:=by subst hY;exact⟨rfl,rfl,rfl,rfl⟩
  obtain⟨eP,ew,eA,ee⟩:=ePw;rw[<- eP,<- ew,<- eA,<- ee,<- eE];rcases turn i n ys H3 w3 with⟨stp,qn⟩|av
  ·refine thn (Wk.done i [] s3 _ H3 I3 (iI aN) E5 stp) λ r s4 ⟨hr,I5⟩=>?_
   subst hr;obtain⟨m,hn,_⟩:=id I5.loc;have eC:Y.env.locals=s2.heap.objs.size+1:=by rw[ee];rfl
   rw[eC] at hn;have u:=I5.base;have gZ:=I5.hok;have A2:=I5.free;rw[eC] at A2;have aD:=I5.bare;have cU:=I5.os;subst hY;have hs:Heap.SameBut (s2.heap.objs.size+1) s4.heap s4.heap:=⟨rfl,λ _ _=>rfl⟩;have u2:Un (frs X.stack) fp H2 H3 s2.heap s4.heap:=Un.but u hs (Qu _);have hE:HOk X.prog X.w H3 s4.heap:=HOk.but gZ hs A2;refine fin s4 H3 m hn ?_ A2 qn;obtain⟨hh,g,d,t,mS⟩:=s4;obtain rfl:mS=s2.os:=cU;exact Inv.call (s:=s2) (h':=hh) (g':=g) (d':=d) (t':=t) (ch:=fp) I2 u2 hE aD λ b hb=>⟨(E8 b hb).2.2.2.1,(E8 b hb).2.1,(E8 b hb).2.2.2.2.1,(E8 b hb).2.2.2.2.2⟩
  ·refine thn (Wk.item i [] s3 _ H3 _ I3 (iI aN) E5 av) λ r s4 ⟨u,hr,h4⟩=>?_
   subst hr;refine thn h4 λ _ s5 h5=>thn h5 λ _ s6 ⟨σ6,H6,I6,⟨kp,q6⟩,W0,fr6⟩=>?_
   have I6':=I6.pinned (fp:=fp) (iI fr6) (Wk.obj _ _ W0);refine thn (ht _ s6 σ6 H6 _ I6' q6) λ b s7 ⟨H7,I7,q7⟩=>?_
   cases b with
   |false =>
    obtain⟨m',hm,w7⟩:=q7;obtain⟨J1,J2,J3⟩:=zV (tg:=tg) (tn:=tn) (i:=i+1) (Wk.obj _ _ W0) (λ h' k=>Wk.keep _ _ _ W0 k) I7;exact⟨m',hm,i+1,ys,H7,J1.weak kp.2.symm kp.get,J2,J3,w7⟩
   |true =>
    refine thn (he _ s7 σ6 H7 _ I7 q7) λ y s8 ⟨yv,H8,I8,r8,hD8,wK,m',hm,w8⟩=>?_
    refine thn (zu (X:=Y) _ s8 σ6 H8 (.ref s2.heap.objs.size) [yv] _ _ (λ v H'=>v=.non/\H'=upd H8 s2.heap.objs.size (.lst (ys++[yv]))) I8 rfl (.cons r8 .nil) ⟨_,ys,yv,rfl,rfl,hD8,wK,rfl,rfl⟩) λ v s9 ⟨_,H9,I9,_,_,e9⟩=>?_
    subst e9;obtain⟨J1,J2,J3⟩:=zV (tg:=tg) (tn:=tn) (i:=i+1) (Wk.obj _ _ W0) (λ h' k=>Wk.keep _ _ _ W0 k) I9;exact⟨m',hm,i+1,ys++[yv],_,J1.weak kp.2.symm kp.get,J2,J3,w8⟩
 exact⟨rfl,rfl,codeAny_compStart_list loop ((Wk 0).self _ 0 _ _ _ mK loop)⟩
theorem qdS{pins:List (Addr×Obj)}{σ:St}{H2:Hp}{s2:Shared}{i:Nat}{x:Str}{Q:St->Hp->Prop}{R:Flow->Shared->Prop}(I2:Inv X pins σ H2 s2)(hN:X.N.Nodup)(hi:X.N[i]?=some x)(hx:X.env.scope.names.lookup x=some .local)(hR:∀ s H,Inv X pins (σ.set i (some (.ref s2.heap.objs.size))) H s->Q (σ.set i (some (.ref s2.heap.objs.size))) H->R .next s){s4:Shared}{H3:Hp}{m:Str->Option Value}{u8:Pos}(hn:s4.heap.Ns (s2.heap.objs.size+1) m)(I4:Inv X pins σ H3 s4)(hf:H3 (s2.heap.objs.size+1)=none)(q:Q (σ.set i (some (.ref s2.heap.objs.size))) H3):
  wpAny (model X.prog X.w) X.A (assign (.Name x u8) X.env (.ref s2.heap.objs.size)) (λ _ M9=>∃ m,M9.heap.Ns (s2.heap.objs.size+1) m/\∀ h',Heap.SameBut (s2.heap.objs.size+1) M9.heap h'->R .next { M9 with heap:=h' }) X.xe s4:=by
 have hCL:s2.heap.objs.size+1≠X.env.locals:=Qh (Zs I2.lt);have L9:∀ y c,X.env.cells.lookup y=some c->c≠s2.heap.objs.size+1:=λ y c e=>by
  obtain⟨v,o,ho,_⟩:=I2.cell y c e;exact Qe (Zs (Qd ho))
 refine wpAny_assign_Name (qcU (v:=.ref s2.heap.objs.size) I4 hN hi (.inl hx) rfl (λ s5 I5 G9=>?_) (.inr hx));obtain⟨a,sb,ha⟩:=G9;have hCa:s2.heap.objs.size+1≠a:=by
  rcases ha with e|e
  ·rw[e];exact hCL
  ·exact Vb (L9 x a e)
 refine⟨m,hn.sameBut sb hCa,λ h' hs=>hR _ H3 ?_ q⟩;refine I5.turned (it:=s2.heap.objs.size+1) (t':=s5.toks) (λ b o hb e=>(hs.2 b hb).trans e) hf hCL (.inr (Zw I2.sz)) L9 λ p hp=>?_
 obtain⟨e,_⟩:=I2.pin p hp;exact Qe (Zs (Qd e))
theorem qgM{i:Nat}{x:Str}{u8 pos:Pos}{G2 iter tg:Expr}{B0:List Expr}{scope:Scope}{cpos:Pos}{NY:List Str}{o:Nat}{caps:List Nat}{wi:TI}{g:TG}{tt:TT}{te:TE}(hN:X.N.Nodup)(hi:X.N[i]?=some x)(hx:X.env.scope.names.lookup x=some .local)(S:CompScope X NY o caps scope)(hc:X.calm=true)(n8:PI X tg iter wi)(hg:∀ C s H fp pins,PG (zp X NY scope C s H fp pins) tg g)(ht:∀ C s H fp pins,PTs (zp X NY scope C s H fp pins) B0 tt)(he:∀ C s H fp pins,PE (zp X NY scope C s H fp pins) G2 te)(hsw:swapsWith (.ListComp G2 [⟨tg,iter,B0,0⟩] scope cpos) (some (.Name x u8)) pos.line X.env=pure true:=by rfl)(hs:∀ x,foldedSetIterable iter X.env x=pure x:=by intro _;rfl):PS X (.Assign [.Name x u8] (.ListComp G2 [⟨tg,iter,B0,0⟩] scope cpos) pos) (qjX (qkZ o caps wi g tt te) (jr i)):=by
 intro pins s σ H D I h;rw[exec_Assign_Name_used _ _ _ _ hsw];refine Qz (J9 (Qz ?_));refine Qz (X1 (env:=X.env) (use:=some (assign (.Name x u8) X.env)) (g:=⟨tg,iter,B0,0⟩) (gs:=[]) rfl hs (jo λ y hy e=>I.ok.has _ (S.frees y hy e)) S.kind S.locs ?_);refine thn (n8 pins s σ H _ I h) λ v s1 h1=>thn h1 λ eQ s2 h2=>?_
 obtain⟨it,fp,tn,J,H2,e,I2,T,i7,f2,hr⟩:=h2;subst e;refine thn (qeN (iter:=iter) (pos:=cpos) (R:=λ r s'=>r=.ok .next/\wpAny (model X.prog X.w) X.A (assign (.Name x u8) X.env (.ref s2.heap.objs.size)) (λ _ M9=>∃ m,M9.heap.Ns (s2.heap.objs.size+1) m/\∀ h',Heap.SameBut (s2.heap.objs.size+1) M9.heap h'->SP X pins D .next { M9 with heap:=h' }) X.xe s')
  S I2 f2 i7 (λ C=>Turn.walk (Y:=zp X NY scope C s2 H2 fp pins) hc T (hg _ _ _ _ _)) (λ C=>ht _ _ _ _ _) (λ C=>he _ _ _ _ _) hr λ s4 H3 m hn I4 hf q=>⟨rfl,qdS (Q:=D.nx) (R:=SP X pins D) I2 hN hi hx (λ s H I q=>⟨_,H,I,q⟩) hn I4 hf q⟩) λ c6 s3 h3=>thn h3 λ T7 s4 h4=>?_
 obtain⟨rfl,eC,h4⟩:=h4;refine Qp h4 λ r s5 ⟨er,h5⟩=>?_
 subst er;show wpAny _ _ (assign (.Name x u8) X.env (.ref s2.heap.objs.size)) _ _ s5
 rw[eC];refine thn h5 λ _ s6 ⟨m,hn,h6⟩=>⟨m,hn,λ h' A6=>?_⟩
 exact Q0 (Q0 (h6 h' A6))
end
theorem qg.seqT{K:W.Frag}{H H':Hp}{a:Addr}{xs:List V}(e:qg H H')(h:SqT K H a xs):SqT K H' a xs:=by
 rcases h with(h|⟨o,h⟩)|h
 ·exact .inl (.inl (e _ _ h))
 ·exact .inl (.inr ⟨o,e _ _ h⟩)
 ·exact .inr h
theorem qg.up{H:Hp}{p:Addr}(h:H p=none){o:HO}:qg H (upd H p o):=qb4 h o
theorem qg.to{H H1:Hp}{p:Addr}(s:qg H H1)(h:H1 p=none){o:HO}:qg H (upd H1 p o):=s.trans (qb4 h o)
theorem qg.at{H H1:Hp}{p:Addr}(s:qg H H1)(h:H p=none){o:HO}:qg H (upd H1 p o):=λ b u q=>by rw[qt (qZ q h)];exact s b u q
theorem qfW{X:Cx}{NY:List Str}{o:Nat}{caps:List Nat}{scope:Scope}(frees:List Str)(k:scope.kind=.function)(nd:NY.Nodup)(nc:scope.names.all (λ y=>y.2 != .cell)=true)(lc:scope.names.all (λ y=>y.2 != .local || scope.names.lookup y.1 == some .local)=true)(fr:scope.names.all (λ y=>y.2 != .free || frees.contains y.1)=true)(fk:∀ x∈frees,X.env.kindOf x=some .cell∨X.env.kindOf x=some .free)(cap:∀(j i:Nat),caps[j]?=some i->∃ x,NY[o+j]?=some x/\X.N[i]?=some x/\scope.names.lookup x=some .free)(len:NY.length=o+caps.length):CompScope X NY o caps scope where
 kind:=k
 nd:=nd
 nocell:=λ y hy e=>by have:=Uh.mp nc y hy;rw[e] at this;cases this
 frees:=λ y hy e=>by
  have:=Uh.mp fr y hy
  rw[e] at this;exact fk _ (XU.mp this)
 locs:=λ y hy e=>by
  have:=Uh.mp lc y hy
  rw[e] at this;simpa using this
 capOk:=cap
 len:=len
theorem csc{X:Cx}{NY:List Str}{o:Nat}{caps:List Nat}{scope:Scope}(frees:List Str)(k:scope.kind=.function)(fk:∀ x∈frees,X.env.kindOf x=some .cell∨X.env.kindOf x=some .free)(cap:∀(j i:Nat),caps[j]?=some i->∃ x,NY[o+j]?=some x/\X.N[i]?=some x/\scope.names.lookup x=some .free)(len:NY.length=o+caps.length)(h:NY.Nodup ∧ scope.names.all (λ y=>y.2 != .cell)=true ∧ scope.names.all (λ y=>y.2 != .local || scope.names.lookup y.1 == some .local)=true ∧ scope.names.all (λ y=>y.2 != .free || frees.contains y.1)=true:=by decide +kernel):CompScope X NY o caps scope:=qfW frees k h.1 h.2.1 h.2.2.1 h.2.2.2 fk cap len
theorem jK{X:Cx}{NY:List Str}{o:Nat}{scope:Scope}:∀(j i:Nat),([]:List Nat)[j]?=some i->∃ x,NY[o+j]?=some x/\X.N[i]?=some x/\scope.names.lookup x=some .free:=λ j i h=>by simp at h
theorem qav{X:Cx}{NY:List Str}{o a:Nat}{as:List Nat}{scope:Scope}{x:Str}(h0:NY[o]?=some x)(h1:X.N[a]?=some x)(h2:scope.names.lookup x=some .free)(hr:∀(j i:Nat),as[j]?=some i->∃ x,NY[o+1+j]?=some x/\X.N[i]?=some x/\scope.names.lookup x=some .free):
  ∀(j i:Nat),(a::as)[j]?=some i->∃ x,NY[o+j]?=some x/\X.N[i]?=some x/\scope.names.lookup x=some .free
 |0,i,h=>by simp at h;subst h;exact⟨x,h0,h1,h2⟩
 |j+1,i,h=>by
  obtain⟨y,q⟩:=hr j i (by simpa using h);exact⟨y,by rw[show o+(j+1)=o+1+j by omega];exact q.1,q.2⟩
theorem qaw{o:Nat}{caps:List Nat}{adv:Adv}{stop:Nat->Hp->Prop}{tt:TT}{te:TE}{σ:St}{H1:Hp}{Q:VK}(n:Nat)(out:Nat->List V)(h0:out 0=[])(c5:∀ i,i<n->(out i).length<sizeLine)(turn:∀(i:Nat)(H:Hp)(D:Addr)(Y:V->Hp->Prop)(Z:Hp->Prop),i<n->H1 D=none->H D=some (.lst (out i))->qg H1 H ->
   (∀ y H4,H4 D=some (.lst (out i))->qg H1 H4->out (i+1)=out i++[y]->Y y H4)->(∀ H3,H3 D=some (.lst (out i))->qg H1 H3->out (i+1)=out i->Z H3) ->
   adv i (stY o caps σ) H λ σ2 H2=>Kp o (stY o caps σ) σ2/\tt σ2 H2 λ b H3=>if b=true then te σ2 H3 Y else Z H3)(stp:∀ H,qg H1 H->stop n H)(fin:∀(D:Addr)(H:Hp),H1 D=none->qg H1 H->H D=some (.lst (out n))->Q (.ref D) H):y6 o caps adv stop tt te σ H1 Q:=by
 intro D hD;refine⟨λ i m ys H=>m=n-i/\i<=n/\ys=out i/\H D=some (.lst (out i))/\qg H1 H,⟨n,by simp,Qt _,h0.symm,by rw[h0];exact qc,qg.up hD⟩,?_⟩;rintro i m ys H ⟨rfl,hi,rfl,hH,sm⟩;by_cases c8:i<n
 ·refine .inr (turn i H D _ _ c8 hD hH sm (λ y H4 e1 e2 e3=>⟨e1,c5 i c8,n-(i+1),by omega,rfl,c8,e3.symm,by rw[e3];exact qc,e2.at hD⟩) (λ H3 e1 e2 e3=>⟨n-(i+1),by omega,rfl,c8,e3.symm,by rw[e3];exact e1,e2⟩))
 ·have e:i=n:=by omega
  subst e;exact .inl ⟨stp H sm,fin D H hD sm hH⟩
theorem y9{o:Nat}{caps:List Nat}{adv:Adv}{stop:Nat->Hp->Prop}{tt:TT}{te:TE}{σ:St}{H1:Hp}{Q:VK}(n:Nat)(R:Nat->List V->Hp->Prop)(h0:∀ D,H1 D=none->R 0 [] (upd H1 D (.lst [])))(c5:∀ i ys H,i<n->R i ys H->ys.length<sizeLine)(turn:∀(i:Nat)(ys:List V)(H:Hp)(D:Addr)(Y:V->Hp->Prop)(Z:Hp->Prop),i<n->H1 D=none->H D=some (.lst ys)->qg H1 H->R i ys H ->
   (∀ y H4,H4 D=some (.lst ys)->qg H1 H4->R (i+1) (ys++[y]) (upd H4 D (.lst (ys++[y])))->Y y H4)->(∀ H3,H3 D=some (.lst ys)->qg H1 H3->R (i+1) ys H3->Z H3) ->
   adv i (stY o caps σ) H λ σ2 H2=>Kp o (stY o caps σ) σ2/\tt σ2 H2 λ b H3=>if b=true then te σ2 H3 Y else Z H3)(stp:∀ H,qg H1 H->stop n H)(fin:∀(D:Addr)(H:Hp)(ys:List V),H1 D=none->qg H1 H->H D=some (.lst ys)->R n ys H->Q (.ref D) H):y6 o caps adv stop tt te σ H1 Q:=by
 intro D hD;refine⟨λ i m ys H=>m=n-i/\i<=n/\H D=some (.lst ys)/\qg H1 H/\R i ys H,⟨n,by simp,Qt _,qc,qg.up hD,h0 D hD⟩,?_⟩;rintro i m ys H ⟨rfl,hi,hH,sm,r⟩;by_cases c8:i<n
 ·refine .inr (turn i ys H D _ _ c8 hD hH sm r (λ y H4 e1 e2 e3=>⟨e1,c5 i ys H c8 r,n-(i+1),by omega,rfl,c8,qc,e2.at hD,e3⟩) (λ H3 e1 e2 e3=>⟨n-(i+1),by omega,rfl,c8,e1,e2,e3⟩))
 ·have e:i=n:=by omega
  subst e;exact .inl ⟨stp H sm,fin D H ys hD sm hH r⟩
section
variable {K:W.Frag}{o:Nat}{caps:List Nat}{g:TG}{tg:TGs}{tt:TT}{te:TE}{σ:St}{H1:Hp}{Q:VK}
abbrev qeO(o:Nat)(caps:List Nat)(σ:St)(tt:TT)(te:TE)(Y:V->Hp->Prop)(Z:Hp->Prop):St->Hp->Prop:=λ σ2 H2=>Kp o (stY o caps σ) σ2/\tt σ2 H2 λ b H3=>if b=true then te σ2 H3 Y else Z H3
theorem qcc{a:Addr}{xs:List V}(hx:SqL K H1 a xs)(out:Nat->List V)(h0:out 0=[])(c5:∀ i,i<xs.length->(out i).length<sizeLine)(turn:∀(i:Nat)(x:V)(H:Hp)(D:Addr)(Y:V->Hp->Prop)(Z:Hp->Prop),xs[i]?=some x->H1 D=none->H D=some (.lst (out i))->qg H1 H ->
   (∀ y H4,H4 D=some (.lst (out i))->qg H1 H4->out (i+1)=out i++[y]->Y y H4)->(∀ H3,H3 D=some (.lst (out i))->qg H1 H3->out (i+1)=out i->Z H3)->g x (stY o caps σ) H (qeO o caps σ tt te Y Z))(fin:∀(D:Addr)(H:Hp),H1 D=none->qg H1 H->H D=some (.lst (out xs.length))->Q (.ref D) H):y6 o caps (qc7 (Itl K a) g) (Itl K a).stop tt te σ H1 Q:=
 qaw xs.length out h0 c5 (λ i H D Y Z hi hD hH sm hy hz=>⟨⟨xs,xs[i],sm.seq hx,Xw hi⟩,λ x H' ⟨e,p4⟩=>by subst e;exact turn i x _ D Y Z (p4 xs (sm.seq hx)) hD hH sm hy hz⟩) (λ H sm=>⟨xs,sm.seq hx,Qs _⟩) fin
theorem qlE{a:Addr}{xs:List V}(hx:SqT K H1 a xs)(out:Nat->List V)(h0:out 0=[])(c5:∀ i,i<xs.length->(out i).length<sizeLine)(turn:∀(i:Nat)(x:V)(H:Hp)(D:Addr)(Y:V->Hp->Prop)(Z:Hp->Prop),xs[i]?=some x->H1 D=none->H D=some (.lst (out i))->qg H1 H ->
   (∀ y H4,H4 D=some (.lst (out i))->qg H1 H4->out (i+1)=out i++[y]->Y y H4)->(∀ H3,H3 D=some (.lst (out i))->qg H1 H3->out (i+1)=out i->Z H3)->g x (stY o caps σ) H (qeO o caps σ tt te Y Z))(fin:∀(D:Addr)(H:Hp),H1 D=none->qg H1 H->H D=some (.lst (out xs.length))->Q (.ref D) H):y6 o caps (qc7 (Itt K a) g) (Itt K a).stop tt te σ H1 Q:=
 qaw xs.length out h0 c5 (λ i H D Y Z hi hD hH sm hy hz=>⟨⟨xs,xs[i],sm.seqT hx,Xw hi⟩,λ x H' ⟨e,p4⟩=>by subst e;exact turn i x _ D Y Z (p4 xs (sm.seqT hx)) hD hH sm hy hz⟩) (λ H sm=>⟨xs,sm.seqT hx,Qs _⟩) fin
theorem qlF{lo:Int}{n:Nat}(out:Nat->List V)(h0:out 0=[])(c5:∀ i,i<n->(out i).length<sizeLine)(turn:∀(i:Nat)(H:Hp)(D:Addr)(Y:V->Hp->Prop)(Z:Hp->Prop),i<n->H1 D=none->H D=some (.lst (out i))->qg H1 H ->
   (∀ y H4,H4 D=some (.lst (out i))->qg H1 H4->out (i+1)=out i++[y]->Y y H4)->(∀ H3,H3 D=some (.lst (out i))->qg H1 H3->out (i+1)=out i->Z H3)->g (.int (lo+i)) (stY o caps σ) H (qeO o caps σ tt te Y Z))(fin:∀(D:Addr)(H:Hp),H1 D=none->qg H1 H->H D=some (.lst (out n))->Q (.ref D) H):y6 o caps (qc7 (Itr lo n) g) (Itr lo n).stop tt te σ H1 Q:=
 qaw n out h0 c5 (λ i H D Y Z hi hD hH sm hy hz=>⟨hi,λ x H' ⟨e,ex⟩=>by subst e ex;exact turn i _ D Y Z hi hD hH sm hy hz⟩) (λ H sm=>Qs _) fin
theorem qiQ{n:Nat}{val:Nat->V}(out:Nat->List V)(h0:out 0=[])(c5:∀ i,i<n->(out i).length<sizeLine)(turn:∀(i:Nat)(H:Hp)(D:Addr)(Y:V->Hp->Prop)(Z:Hp->Prop),i<n->H1 D=none->H D=some (.lst (out i))->qg H1 H ->
   (∀ y H4,H4 D=some (.lst (out i))->qg H1 H4->out (i+1)=out i++[y]->Y y H4)->(∀ H3,H3 D=some (.lst (out i))->qg H1 H3->out (i+1)=out i->Z H3)->g (val i) (stY o caps σ) H (qeO o caps σ tt te Y Z))(fin:∀(D:Addr)(H:Hp),H1 D=none->qg H1 H->H D=some (.lst (out n))->Q (.ref D) H):y6 o caps (qc7 (ItV n val) g) (ItV n val).stop tt te σ H1 Q:=
 qaw n out h0 c5 (λ i H D Y Z hi hD hH sm hy hz=>⟨hi,λ x H' ⟨e,ex⟩=>by subst e ex;exact turn i _ D Y Z hi hD hH sm hy hz⟩) (λ H sm=>rfl) fin
theorem qfX{a b:Addr}{xs ys:List V}(hx:SqL K H1 a xs)(hy:SqL K H1 b ys)(hl:xs.length=ys.length)(out:Nat->List V)(h0:out 0=[])(c5:∀ i,i<xs.length->(out i).length<sizeLine)(turn:∀(i:Nat)(x y:V)(H:Hp)(D:Addr)(Y:V->Hp->Prop)(Z:Hp->Prop),xs[i]?=some x->ys[i]?=some y->H1 D=none->H D=some (.lst (out i))->qg H1 H ->
   (∀ y H4,H4 D=some (.lst (out i))->qg H1 H4->out (i+1)=out i++[y]->Y y H4)->(∀ H3,H3 D=some (.lst (out i))->qg H1 H3->out (i+1)=out i->Z H3)->tg [x,y] (stY o caps σ) H (qeO o caps σ tt te Y Z))(fin:∀(D:Addr)(H:Hp),H1 D=none->qg H1 H->H D=some (.lst (out xs.length))->Q (.ref D) H):y6 o caps (qfN (ItZ K a b) 2 tg) (ItZ K a b).stop tt te σ H1 Q:=
 qaw xs.length out h0 c5 (λ i H D Y Z hi hD hH sm nH hz=>⟨⟨xs,ys,xs[i],ys[i]'(by omega),sm.seq hx,sm.seq hy,Xw hi,Xw (by omega)⟩,λ zs H' ⟨e,x,y,ez,p4,wO⟩=>by
  subst e ez;exact⟨rfl,turn i x y _ D Y Z (p4 xs (sm.seq hx)) (wO ys (sm.seq hy)) hD hH sm nH hz⟩⟩) (λ H sm=>⟨xs,ys,sm.seq hx,sm.seq hy,.inl (Qs _)⟩) fin
end
theorem zl{n:Nat}(h:n<=100000):n<sizeLine:=Nat.lt_of_le_of_lt h (by decide)
theorem qu{n:Nat}(h:n<=100000):n<=sizeLine:=Qg (zl h)
theorem vk{Q:VK}{x y:V}{H:Hp}(e:x=y)(h:Q y H):Q x H:=e ▸ h
theorem qj{α β:Type}{f:α->β}{l:List α}{i:Nat}{y:β}(h:(l.map f)[i]?=some y):∃ x,l[i]?=some x/\y=f x:=by
 rw[Zl] at h;cases e:l[i]? with
 |none=>rw[e] at h;cases h
 |some x=>rw[e] at h;exact⟨x,rfl,(Option.some.inj h).symm⟩
theorem zj{α:Type}{l:List α}{i:Nat}{x:α}(h:l[i]?=some x):l.take (i+1)=l.take i++[x]:=by rw[Jo,h];rfl
theorem yF{α β:Type}{f:α->β}{l:List α}{i:Nat}{x:α}(h:l[i]?=some x):(l.take (i+1)).map f=(l.take i).map f++[f x]:=by rw[zj h,U2];rfl
theorem kM{α β γ:Type}{f:α->β->γ}{as:List α}{bs:List β}{i:Nat}{a:α}{b:β}(h1:as[i]?=some a)(h2:bs[i]?=some b):(List.zipWith f as bs)[i]?=some (f a b):=by
 rw[List.getElem?_zipWith,h1,h2]
theorem kQ{α:Type}{l:List α}{i:Nat}{x:α}(h:l[i]?=some x):i<l.length:=(Xm.mp h).1
theorem qgN(a b:Bool):(!decide (V.bl a=V.bl b))=(a != b):=by cases a <;> cases b <;> rfl
theorem ju(a b:List Nat):ql a++ql b=ql (a++b):=by
 show(⟨a.toArray++b.toArray⟩:Str)=⟨(a++b).toArray⟩
 rw[List.append_toArray]
theorem qK(a:List Nat):(ql a).length=a.length:=by
 show a.toArray.size=a.length
 simp
theorem qcd(F:List (List Nat)):Txt.join ("":Str) (F.map ql)=ql F.flatten:=by
 show(⟨((F.map ql).drop 1).foldl (λ c6 p=>c6++("":Str).cps++p.cps) ((F.map ql).headD Str.empty).cps⟩:Str)=ql F.flatten
 have e0:("":Str).cps=#[]:=by decide
 rw[e0];have gen:∀(G:List (List Nat))(c6:Array Nat),(G.map ql).foldl (λ c6 p=>c6++#[]++p.cps) c6=c6++(G.flatten).toArray:=by
  intro G;induction G with
  |nil=>intro c6;simp
  |cons g G ih =>
   intro c6;rw[Jz,Uz,ih,Zo];show c6++#[]++g.toArray++G.flatten.toArray=c6++(g++G.flatten).toArray
   simp
 cases F with
 |nil=>rfl
 |cons f F =>
  show(⟨(F.map ql).foldl (λ c6 p=>c6++#[]++p.cps) f.toArray⟩:Str)=ql (f++F.flatten)
  rw[gen F f.toArray,List.append_toArray];rfl
theorem jL(F:List (List Nat)):F.map vS=(F.map ql).map V.str:=by rw[Qm];rfl
theorem qlG(F:List (List Nat)):(F.map ql).map cs=F:=by
 rw[Qm]
 have:cs ∘ ql=id:=rfl
 rw[this,List.map_id]
theorem vo{a b:List Nat}(h:ql a=ql b):a=b:=congrArg cs h
theorem qax{F:List (List Nat)}{x:Str}:x∈F.map ql ↔ cs x∈F:=by
 rw[Ql];constructor
 ·rintro⟨a,ha,rfl⟩;exact ha
 ·intro h;exact⟨cs x,h,rfl⟩
theorem qce(F:List (List Nat)):((F.map ql).map (·.length)).sum=F.flatten.length:=by
 induction F with
 |nil=>rfl
 |cons f F ih =>
  rw[Jz,Jz,J6,ih,qK,Zo,Za]
theorem qgO{us:List Str}{F:List (List Nat)}(h1:us.Nodup)(h2:F.Nodup)(h:∀ x,x∈us ↔ cs x∈F):(qao us).map V.str=(Fs.srt F).map vS:=by
 unfold qao;rw[jL];have hp:(us.map cs).Perm F:=by
  refine(Xj ?_ h2).mpr λ p=>?_
  ·exact Zr.mpr (h1.imp λ{a b} w6 e=>w6 (qfQ e))
  ·rw[Ql];constructor
   ·rintro⟨x,hx,rfl⟩;exact(h x).mp hx
   ·intro hp;exact⟨ql p,(h _).mpr hp,rfl⟩
 rw[Fs.srt_perm_eq hp]
theorem qay{us:List Str}{F:List (List Nat)}(h1:us.Nodup)(h2:F.Nodup)(h:∀ x,x∈us ↔ cs x∈F):us.length=F.length:=by
 have hp:(us.map cs).Perm F:=by
  refine(Xj ?_ h2).mpr λ p=>?_
  ·exact Zr.mpr (h1.imp λ{a b} w6 e=>w6 (qfQ e))
  ·rw[Ql];constructor
   ·rintro⟨x,hx,rfl⟩;exact(h x).mp hx
   ·intro hp;exact⟨ql p,(h _).mpr hp,rfl⟩
 rw[<- hp.length_eq,Ut]
end L2
namespace Fs
structure On(ls:List Nat)(F:List Pr):Prop where
 vf:Vf F
 mem:∀ p∈F,∀ c∈p,c∈ls
theorem On.sub{ls:List Nat}{F:List Pr}(h:On ls F)(hl:ls.Pairwise (·<·)):∀ p∈F,p.Sublist ls:=λ p hp=>vi hl (h.vf.prod p hp) (h.mem p hp)
theorem On.len{ls:List Nat}{F:List Pr}(h:On ls F)(hl:ls.Pairwise (·<·)):F.length<=2^ls.length:=by
 rw[<- qW];exact jt h.vf.nodup λ p hp=>zD.mpr (h.sub hl p hp)
theorem On.added{ls:List Nat}{F G:List Pr}(hF:On ls F)(hG:On ls G):On ls (added F G):=⟨qeA hF.vf hG.vf,λ p hp=>by
 rcases qbN.mp (vT.mp hp) with h|h
 ·exact hF.mem p h.1
 ·exact hG.mem p h.1⟩
theorem qcf{ls:List Nat}{F:List Pr}(h:∀ p∈F,∀ c∈p,c∈ls):∀ c∈qG F,c∈ls:=λ c hc=>by
 obtain⟨p,hp,hc⟩:=jf.mp hc;exact h p hp c hc
theorem qeP{ls:List Nat}{F:List Pr}(hl:ls.Pairwise (·<·))(h:∀ p∈F,∀ c∈p,c∈ls):(qG F).length<=ls.length:=
 (vi hl (zy F) (qcf h)).length_le
theorem On.mult{ls:List Nat}{F G:List Pr}(hF:On ls F)(hG:On ls G):On ls (mult F G):=⟨qgJ F G,λ p hp c hc=>by
 have:=(qbV hp).subset hc
 refine qcf (F:=F++G) (λ q hq=>?_) c this;rcases Ur.mp hq with h|h
 ·exact hF.mem q h
 ·exact hG.mem q h⟩
theorem On.one(ls:List Nat):On ls [[]]:=⟨qix,by simp⟩
theorem On.nil(ls:List Nat):On ls []:=⟨qlu,by simp⟩
theorem On.opp{ls:List Nat}{F:List Pr}(hF:On ls F):On ls (opp F):=hF.added (On.one ls)
theorem On.join{ls:List Nat}{F G:List Pr}(hF:On ls F)(hG:On ls G):On ls (join F G):=(hF.added hG).added (hF.mult hG)
end Fs
namespace L2
open PySem PySem.Spec PyProof.Rows
section
variable {X:Cx}
theorem vW:OpR X (compareOp .In) (λ x y H Q=>∃(c:Nat)(p:List Nat),x=vS [c]/\y=vS p/\Q (.bl (decide (c∈p))) H):=by
 intro pins s σ H x y v u Q I rx ry h;obtain⟨c,p,rfl,rfl,q⟩:=h;refine qhf pins s σ H _ _ v u Q I rx ry ⟨_,_,rfl,rfl,?_⟩;rw[show ql [c]=(⟨#[c]⟩:Str) from rfl,empty_one,Bool.not_not];exact q
theorem jM:OpR X (compareOp .NotIn) (λ x y H Q=>∃(c:Nat)(p:List Nat),x=vS [c]/\y=vS p/\Q (.bl (!decide (c∈p))) H):=by
 intro pins s σ H x y v u Q I rx ry h;obtain⟨c,p,rfl,rfl,q⟩:=h;refine qdG pins s σ H _ _ v u Q I rx ry ⟨_,_,rfl,rfl,?_⟩;rw[show ql [c]=(⟨#[c]⟩:Str) from rfl,empty_one,Bool.not_not];exact q
end
theorem Inv.lays{X:Cx}{pins:List (Addr×Obj)}{σ:St}{H H':Hp}{s:Shared}{h':Heap}{t':Nat}(I:Inv X pins σ H s)(k:∀ b u,s.heap.get? b=some u->h'.get? b=some u)(sm:qg H H')(L7:∀ b,b<s.heap.objs.size->H b=none->H' b=none)(new:∀ a o,H' a=some o->H a=some o∨zo X.prog X.w H' h' a o):Inv X pins σ H' { s with heap:=h',toks:=t' }:=by
 refine I.un ⟨λ b ob q _ _ _=>k b ob q,λ b ob q _ _ _=>⟨ob.slots,k b ob q⟩,λ b ob q n _=>L7 b (Qd q) n,λ b ob q _=>⟨ob,k b ob q⟩,λ b xs q=>sm _ _ q,λ b o u q=>sm _ _ q,λ b ps q=>⟨#[],by rw[sm _ _ q];simp⟩⟩ ?_;intro a o e;rcases new a o e with q|q
 ·exact(I.hok a o q).stay (λ b u _ q=>k b u q) (λ b q=>sm _ _ q) λ b xs q=>sm _ _ q
 ·exact q
noncomputable def qdT(H:Hp):List (Addr×V×V)->Hp
 | []=>H
 |(a,x,y)::ps=>upd (qdT H ps) a (.tup [x,y])
theorem qeQ{H:Hp}:∀{ps:List (Addr×V×V)}{b:Addr},b∉ps.map (·.1)->qdT H ps b=H b
 | [],b,_=>rfl
 |(a,x,y)::ps,b,h=>by
  rw[Jz,Jy] at h;show upd (qdT H ps) a _ b=_
  rw[qt (λ e=>h (.inl e)),qeQ λ e=>h (.inr e)]
theorem qgP{H:Hp}:∀{ps:List (Addr×V×V)}{a:Addr}{x y:V},(ps.map (·.1)).Nodup->(a,x,y)∈ps->qdT H ps a=some (.tup [x,y])
 | [],_,_,_,_,h=>by cases h
 |(b,u,v)::ps,a,x,y,nd,h=>by
  rw[Jz,Uv] at nd;show upd (qdT H ps) b _ a=_
  rcases Jy.mp h with e|e
  ·cases e;exact qc
  ·have:a≠b:=λ q=>nd.1 (by rw[<- q];exact Ql.mpr ⟨_,e,rfl⟩)
   rw[qt this];exact qgP nd.2 e
theorem qeR{H:Hp}:∀{ps:List (Addr×V×V)}{b:Addr}{o:HO},qdT H ps b=some o->H b=some o∨∃ x y,(b,x,y)∈ps/\o=.tup [x,y]
 | [],_,_,h=>.inl h
 |(a,x,y)::ps,b,o,h=>by
  have h:upd (qdT H ps) a (.tup [x,y]) b=some o:=h;by_cases e:b=a
  ·subst e;rw[qc] at h;cases h;exact .inr ⟨x,y,Y7 ..,rfl⟩
  ·rw[qt e] at h;rcases qeR h with q | ⟨u,v,q,r⟩
   ·exact .inl q
   ·exact .inr ⟨u,v,Yf _ q,r⟩
theorem qdf{α β:Type}{F:α->β->Prop}:∀{l:List α}{m:List β},l.length=m.length->(∀(j:Nat) a b,l[j]?=some a->m[j]?=some b->F a b)->Paired F l m
 | [],[],_,_=>.nil
 | [],_::_,h,_=>by simp at h
 |_::_,[],h,_=>by simp at h
 |a::l,b::m,h,f=>.cons (f 0 a b rfl rfl) (qdf (by simpa using h) λ j c d e1 e2=>f (j+1) c d (by simpa using e1) (by simpa using e2))
theorem qiR:bootBuiltins "list"=some (.type "list"):=by decide +kernel
structure Mk0(K:W.Frag)(C:Addr):Prop where
 makes:W.makesIn K C=true
 init:W.findIn K (.ref C) "__init__"=some (some (.builtin "object.__init__"))
 kp:W.keepIn K (.ref C)=true
def qlH(C:Addr):TE:=λ σ H Q=>∀ x dx,H x=none->H dx=none->dx≠x->Q (.ref x) (upd (upd H dx (.own x)) x (.ins C dx []))
theorem qeS{X:Cx}{C:Addr}{x:Str}{p pos:Pos}(M:Mk0 X.K C)(hg:Gl X x)(hm:X.mg x=some (.ref C))(S5:(x == ("__debug__":Str))=false:=by decide):PE X (.Call (.Name x p) [] [] pos) (qlH C):=by
 intro pins s σ H Q I h;refine Zh (qbr I hg hm ?_ S5);refine W.callWith_K0 I.kIn M.kp (wpAny_call (qhj I.kIn M.makes M.init (λ self=>PySem.W.Looks.of_pure (W.oi_bind self)) ?_));have Y:=W.makes_of (M:=model X.prog X.w) I.kIn M.makes;have hx:((s.heap.push W.emptyDict).push (W.instObj C s.heap.objs.size)).get? (s.heap.objs.size+1)=some (W.instObj C s.heap.objs.size):=by
  rw[<- Jj s.heap W.emptyDict];exact Ys _ rfl
 have t1:PySem.W.Looks (model X.prog X.w) ((s.heap.push W.emptyDict).push (W.instObj C s.heap.objs.size)) (typeOf (.ref (s.heap.objs.size+1))) (.ref C):=(PySem.W.Looks.ld hx).andThen .now;have t2:PySem.W.Looks (model X.prog X.w) ((s.heap.push W.emptyDict).push (W.instObj C s.heap.objs.size)) (isInstance (.ref (s.heap.objs.size+1)) (.type "object")) true:=t1.andThen (Y.top.keeps λ b o e=>XD _ (XD _ e));refine codeAny_call_builtin W.oi_plain W.entry_oi (@W.check_slot (model X.prog X.w) _ _ _ "object.__init__" "object" "__init__" (.ref (s.heap.objs.size+1)) [] [] _ W.oi_kind W.oi_split t2 (W.oi_args _) ?_);rw[W.oi_run];have hq:=h (s.heap.objs.size+1) s.heap.objs.size (I.hok.fresh (Qu _)) (I.hok.fresh (Qs _)) (Qe (Ub _));exact Q0 (And.intro rfl ⟨.ref (s.heap.objs.size+1),_,Inv.made (C:=C) I,rfl,hq⟩)
theorem PE.or{X:Cx}{e:Expr}{t u:TE}(h:PE X e t)(h':PE X e u):PE X e (λ σ H Q=>t σ H Q∨u σ H Q):=λ pins s σ H Q I hw=>hw.elim (h pins s σ H Q I) (h' pins s σ H Q I)
theorem qkl{k:Key}{v:Value}(h:qbD k v=true):qO (kV k) v:=by
 rcases zf h with⟨i,t,rfl,rfl⟩|⟨x,t,rfl,rfl⟩
 ·exact⟨t,rfl⟩
 ·exact⟨t,rfl⟩
theorem qaz{α β:Type}{F:α->β->Prop}:∀{xs:List α}{l:List β},Paired F xs l->∀(k:Nat)(a:α),xs[k]?=some a->∃ b,l[k]?=some b/\F a b
 |_,_,.nil,k,a,h=>by simp at h
 |_,_,.cons r t,0,a,h=>by simp at h;subst h;exact⟨_,rfl,r⟩
 |_,_,.cons r t,k+1,a,h=>qaz t k a (by simpa using h)
def qfY(to:TE):TE:=λ σ H Q=>to σ H λ x H1=>∃(d:Addr)(kvs:List (Key×V)),x=.ref d/\H1 d=some (.dK kvs) /\
 ∀(l:Addr)(as:List Addr)(H2:Hp),qg H1 H2->H2 l=some (.lst (as.map V.ref))->Paired (λ c (p:Key×V)=>H2 c=some (.tup [kV p.1,p.2])) as kvs->Q (.ref l) H2
theorem jN{X:Cx}{o:Expr}{to:TE}{p pos apos cpos:Pos}(hc:X.calm=true)(hgl:Gl X "list")(xL:X.mg "list"=none)(ho:PE X o to)(M3:attributeBase o "items" X.env (eval o X.env)=eval o X.env:=by rfl)(L8:(apos.endLine == cpos.line)=true:=by rfl)(hs0:starEach [.Call (.Attribute o "items" apos) [] [] cpos] X.env=[(false,eval (.Call (.Attribute o "items" apos) [] [] cpos) X.env)]:=by rfl):
  PE X (.Call (.Name "list" p) [.Call (.Attribute o "items" apos) [] [] cpos] [] pos) (qfY to):=by
 intro pins s σ H Q I h;refine Zh (kr I hgl xL qiR ?_);refine Xf ?_ (by rw[hs0];rfl) (by rfl);rw[hs0];show wpAny _ _ (spliced [(false,eval (.Call (.Attribute o "items" apos) [] [] cpos) X.env)]) _ _ s
 refine Y9 ?_;refine wpAny_Call_method0_late M3 L8 (thn (ho pins s σ H _ I h) λ v s1 ⟨x,H1,I1,r1,q1⟩=>?_);obtain⟨d,kvs,rfl,hd,q⟩:=q1;cases r1
 obtain⟨hz,hS,vs,rel,dd⟩:=qgD I1.hok hd;obtain⟨h1,h2⟩:=qfJ (T:="dict") I1 (x:=.ref d) (v:=.ref d) rfl (.inr (.inr (.inl ⟨rfl,.inl ⟨kvs,hd⟩⟩)));refine⟨"dict","dict.items",X3,PySem.F.slot_dict_items,PySem.F.type_dict_items,h1,h2,XE rfl (PySem.evalArgs_none ?_)⟩;refine call_meetsIn PySem.F.slot_dict_items dd.typeIs PySem.F.entry_dict_items (PySem.F.args_dict_items_1 _) (meets_dict_items (qx X.prog X.w) d hS) ⟨⟨vs,dd⟩,?_⟩;refine Calls.spliced_nil ?_;obtain⟨od,es,ep,d1,d2,d3,d4,d5,d6⟩:=dd;have lv:vs.length=kvs.length:=(Yz rel).symm;refine W.kdx_call (knd:=qx X.prog X.w) (kvs:=vs) (ep:=ep) (d:=d) (s:={ s1 with heap:=s1.heap.push { cls:=.type "dict_items",data:=.fields #[.ref d] } }) (I1.ok.hd hc) ⟨_,Ys _ rfl,rfl,rfl⟩ ⟨od,es,XD _ d1,d2,d3,d4,d5,d6⟩ (by rw[lv];exact hz) λ h' tk c6 c as hk R1 hl hG S6=>?_
 dsimp only at hk R1 hG ⊢;rw[Jj] at R1 hG ⊢;have kept:∀ b u,s1.heap.get? b=some u->h'.get? b=some u:=λ b u e=>hk b u (XD _ e)
 have lk:as.length=kvs.length:=hl.trans lv;have fst:(as.zip (kvs.map λ p=>(kV p.1,p.2))).map (·.1)=as:=by rw[<- List.unzip_fst,List.unzip_zip (by rw[Ut];exact lk)]
 have big:∀ c∈as,s1.heap.objs.size+1<c:=λ c hc=>hG.above c hc
 have nd:as.Nodup:=hG.rise.imp λ{a b} w6 e=>by subst e;exact Jx _ w6
 let H2:Hp:=upd (qdT H1 (as.zip (kvs.map λ p=>(kV p.1,p.2)))) (s1.heap.objs.size+1) (.lst (as.map V.ref))
 have aB:∀ c x y,(c,x,y)∈as.zip (kvs.map λ p=>(kV p.1,p.2))->H2 c=some (.tup [x,y]):=λ c x y hm=>by
  have hca:c∈as:=by rw[<- fst];exact Ql.mpr ⟨_,hm,rfl⟩
  show upd _ _ _ c=_
  rw[qt (Qh (big c hca))];exact qgP (by rw[fst];exact nd) hm
 have low:∀ c,c<s1.heap.objs.size->H2 c=H1 c:=λ c hc=>by
  show upd _ _ _ c=_
  rw[qt (Qe (Y6 hc (Nat.le_add_right _ _)))];refine qeQ ?_;rw[fst];exact λ hm=>Jx _ (Qi hc (Qi (Nat.lt_add_of_pos_right (by decide)) (big c hm)))
 have sm:qg H1 H2:=λ c o e=>by rw[low c (I1.hok.lt e)];exact e
 refine⟨.ref (s1.heap.objs.size+1),H2,I1.lays kept sm (λ c hc e=>by rw[low c hc];exact e) ?_,rfl,q _ as H2 sm qc ?_⟩
 ·intro c o e;by_cases eY:c=s1.heap.objs.size+1
  ·subst eY;rw[show H2 (s1.heap.objs.size+1)=some (.lst (as.map V.ref)) from qc] at e;cases e
   refine .inr ⟨by rw[Ut,lk];exact hz,c6.toList,_,?_,R1⟩;rw[S6];have gen:∀ l:List Addr,qI (l.map V.ref) (l.map Value.ref):=λ l=>by
    induction l with
    |nil=>exact .nil
    |cons a l ih=>exact .cons rfl ih
   exact gen as
  ·rw[show H2 c=qdT H1 (as.zip (kvs.map λ p=>(kV p.1,p.2))) c from qt eY] at e;rcases qeR e with q | ⟨x,y,hm,rfl⟩
   ·exact .inl q
   ·obtain⟨j,hj⟩:=XY.mp hm;rw[List.getElem?_zip_eq_some] at hj;obtain⟨hj1,hj2⟩:=hj;obtain⟨⟨k,w⟩,hkw,ekw⟩:=qj hj2;injection ekw with e1 e2
    obtain⟨i8,k',x',w1,w2,w3⟩:=hG.pairs j c hj1;obtain⟨b,hb,hbk,hbv⟩:=qaz rel j (k,w) hkw;rw[hb] at w1;cases w1
    dsimp only at e1 e2 hbk hbv;subst e1 e2 hbk;exact .inr ⟨qu (by show 2<=_;decide),[_,_],.cons (qkl w2) (.cons hbv .nil),⟨_,w3,rfl,_,rfl⟩⟩
 ·refine qdf lk λ j c pr e1 e2=>?_
  exact aB c (kV pr.1) pr.2 (XY.mpr ⟨j,List.getElem?_zip_eq_some.mpr ⟨e1,by rw[Zl,e2];rfl⟩⟩)
def qmz(wi:TI2)(n:Nat)(t:TGs)(tb:TS):TS:=λ D σ H=>wi σ H λ J H1=>∃ W:Nat->Nat->St->Hp->Prop,(∃ m,W 0 m σ H1)/\∀ i m σ H,W i m σ H ->
 (J.stop i H/\D.nx σ H)∨(J.go i H/\∃ N:St->Hp->Prop,(∀ σ' H',N σ' H'->∃ m',m'<m/\W (i+1) m' σ' H')/\∀ xs H',J.yld i H xs H'->xs.length=n/\t xs σ H' λ σ2 H2=>tb { D with nx:=N,ct:=N,bk:=D.nx } σ2 H2)
theorem qdU{X:Cx}{es:List Expr}{k n:Nat}{x9:Pos}{iter:Expr}{body:List Stmt}{wi:TI2}{t:TGs}{tb:TS}{pos:Pos}(hp:PassesOwn (model X.prog X.w) X.A X.env X.xe)(hc:X.calm=true)(hi:PI2 X (.Tuple es k x9) iter wi)(hg:PGs X es t)(hb:PSs X body tb)(hn:(assignEach es X.env).length=n:=by rfl)(C4:(assignEach es X.env).findIdx? (·.1)=none:=by rfl)(hs:∀ x,foldedSetIterable iter X.env x=pure x:=by intro _;rfl):PS X (.For (.Tuple es k x9) iter body [] pos) (qmz wi n t tb):=by
 intro pins s σ H D I h;refine wpAny_For (thn (hi pins s σ H _ I h) λ v s1 h1=>thn h1 λ eQ s2 h2=>?_) hs;obtain⟨it,fp,tn,J,H2,e,I2,T,i7,f2,W,⟨m0,w0⟩,turn⟩:=h2;subst e;have M6:∀{H':Hp},(∀ b∈fp,H' b=none)->∀ b∈fp,jw X pins H' b:=λ hn b hb=>⟨hn b hb,(f2 b hb).2⟩
 refine codeAny_forLoop_any (λ n s'=>∃ i σ' H',Inv X pins σ' H' s'/\tn i s'.heap/\(∀ b∈fp,H' b=none)/\W i n σ' H') ?_ m0 ⟨0,σ,H2,I2,i7,λ b hb=>(f2 b hb).1,w0⟩;rintro n' s3 ⟨i,σ3,H3,I3,E5,aN,w3⟩;rcases turn i n' σ3 H3 w3 with⟨stop,qn⟩|⟨go,N,hN,step⟩
 ·refine Jc hp (thn (T.done X rfl rfl rfl hc i pins s3 σ3 H3 X.xe I3 (M6 aN) E5 stop) λ r s4 ⟨hr,I4⟩=>?_);subst hr;exact Jb ⟨σ3,H3,I4,qn⟩
 ·refine Jc hp (thn (T.item X rfl rfl rfl hc i pins s3 σ3 H3 X.xe I3 (M6 aN) E5 go) λ r s4 ⟨p,hr,h4⟩=>?_);subst hr;refine Jc hp (thn h4 λ _ s5 ⟨xs,us,H5,I5,ht,r5,y5,M7,iH⟩=>?_);have I5':=I5.pinned (M6 iH) (T.obj _ _ M7);obtain⟨hl,hw⟩:=step xs H5 y5;refine Jc hp (assign_Tuple_tuple (I5.ok.hd hc) ht (by simp[hn,<- hl,r5.length]) C4 λ h' hx=>?_);have I6:Inv X (pins++j9 fp s5.heap) σ3 H5 { s5 with heap:=h' }:=I5'.kept (t':=s5.toks) λ b o e=>hx b o (Qe (Qd e)) e
  refine thn (hg _ _ σ3 H5 xs _ _ I6 (by simpa using r5) hw) λ _ s6 ⟨σ6,H6,I7,q6⟩=>?_
  refine Jc hp (thn (hb _ s6 σ6 H6 _ I7 q6) λ f s7 q7=>?_);have again:∀{σ7:St}{H7:Hp},Inv X (pins++j9 fp s5.heap) σ7 H7 s7->N σ7 H7->∃ m,m<n'/\∃ i σ' H',Inv X pins σ' H' s7/\tn i s7.heap/\(∀ b∈fp,H' b=none)/\W i m σ' H':=λ{σ7 H7} I7 n7=>by
   obtain⟨m',hm,w7⟩:=hN σ7 H7 n7;refine⟨m',hm,i+1,σ7,H7,I7.unpinned,T.keep _ _ _ M7 λ b hb o e=>(I7.pin (b,o) (XN _ (XN _ (yj hb e)))).1,λ b hb=>?_,w7⟩;obtain⟨o,e,d⟩:=T.obj _ _ M7 b hb;exact(I7.pin (b,o) (XN _ (XN _ (yj hb e)))).2.1
  cases f with
  |next=>obtain⟨σ7,H7,I7,n7⟩:=q7;exact again I7 n7
  |cont=>obtain⟨σ7,H7,I7,n7⟩:=q7;exact again I7 n7
  |brk=>obtain⟨σ7,H7,I7,q7⟩:=q7;exact⟨σ7,H7,I7.unpinned,q7⟩
  |ret v=>obtain⟨x7,σ7,H7,I7,r7,q7⟩:=q7;exact⟨x7,σ7,H7,I7.unpinned,r7,q7⟩
theorem qiS{K:W.Frag}{a:Addr}{xs:List V}{t:TGs}{tb:TS}{D:Ends}{σ:St}{H:Hp}(Pv:Nat->St->Hp->Prop)(h0:Pv 0 σ H)(hl:∀ i σ H,i<=xs.length->Pv i σ H->SqL K H a xs)(hs:∀ i x σ H,xs[i]?=some x->Pv i σ H->t [.int i,x] σ H λ σ2 H2=>tb { D with nx:=Pv (i+1),ct:=Pv (i+1),bk:=D.nx } σ2 H2)(hd:∀ σ H,Pv xs.length σ H->D.nx σ H):
  ∃ W:Nat->Nat->St->Hp->Prop,(∃ m,W 0 m σ H)/\∀ i m σ H,W i m σ H ->
   ((qht K a).stop i H/\D.nx σ H)∨((qht K a).go i H/\∃ N:St->Hp->Prop,(∀ σ' H',N σ' H'->∃ m',m'<m/\W (i+1) m' σ' H')/\∀ zs H',(qht K a).yld i H zs H'->zs.length=2/\t zs σ H' λ σ2 H2=>tb { D with nx:=N,ct:=N,bk:=D.nx } σ2 H2):=by
 refine⟨λ i m σ H=>m=xs.length-i/\i<=xs.length/\Pv i σ H,⟨xs.length,by simp,Qt _,h0⟩,?_⟩;rintro i m σ H ⟨rfl,hi,p⟩;have q:=hl i σ H hi p;by_cases c8:i<xs.length
 ·refine .inr ⟨⟨xs,xs[i],q,Xw c8⟩,Pv (i+1),λ σ' H' p'=>⟨xs.length-(i+1),by omega,rfl,c8,p'⟩,λ zs H' y=>?_⟩;obtain⟨e,x,ez,hx⟩:=y;subst e ez;exact⟨rfl,hs i x σ _ (hx xs q) p⟩
 ·have e:i=xs.length:=by omega
  subst e;exact .inl ⟨⟨xs,q,Qs _⟩,hd σ H p⟩
end L2
namespace FsS
open PySem PyProof.Rows
noncomputable def ky(κ:KeyKind)(x:Keyed):κ.α:=(κ.keyOf x.1).getD κ.dflt
def Kd(κ:KeyKind)(x:Keyed):Prop:=∃ a,κ.keyOf x.1=some a
theorem Kd.eq{κ:KeyKind}{x:Keyed}(h:Kd κ x):κ.keyOf x.1=some (ky κ x):=by
 obtain⟨a,h⟩:=h;unfold ky;rw[h];rfl
noncomputable def zL:Bool->Keyed->Array Keyed->Nat->Nat->Nat->StateT SortSt Sem (Option Nat):=sortPriv% PySem.Builtin.gallop
noncomputable def bey(left:Bool)(i8:Keyed)(arr:Array Keyed)(base i:Nat):StateT SortSt Sem (Option Bool):=do
 let x <- elem' arr (base+i)
 if left then lt' x i8 else return (<- lt' i8 x).map (!·)
theorem qhB(left:Bool)(i8:Keyed)(arr:Array Keyed)(base n c7:Nat):zL left i8 arr base n c7=(do
 let mut u:=0
 let mut v:=1
 let mut p:=0
 let mut q:=0
 let some r <- bey left i8 arr base c7|return none
 if r then
  let m:=n-c7
  for _ in [0:n] do
   if v ≥ m then break
   let some c <- bey left i8 arr base (c7+v)|return none
   if !c then break
   u:=v
   v:=2*v+1
  p:=c7+u+1
  q:=c7+min v m
 else
  let m:=c7+1
  for _ in [0:n] do
   if v ≥ m then break
   let some c <- bey left i8 arr base (c7-v)|return none
   if c then break
   u:=v
   v:=2*v+1
  p:=c7+1-min v m
  q:=c7-u
 for _ in [0:n] do
  if p ≥ q then break
  let c:=p+(q-p) / 2
  let some d <- bey left i8 arr base c|return none
  if d then p:=c+1 else q:=c
 return some q):=rfl
section
variable {prog:Program}{w:World}{A:Around}{E:Value->Shared->Prop}{s:Shared}{κ:KeyKind}
theorem qN{arr:Array Keyed}{i:Nat}{p:Keyed}{st:SortSt}{Q:Keyed->SortSt->Prop}(h:arr[i]?=some p)(hq:Q p st):wpS (model prog w) A E s (elem' arr i) Q st:=by
 rw[elem'_eq,h];exact Q8 hq
theorem qcg(hO:κ.OneLt){x y:Keyed}{st:SortSt}{Q:Option Bool->SortSt->Prop}(hk:kindOf st=oneType')(hx:Kd κ x)(hy:Kd κ y)(hq:Q (some (κ.blt (ky κ x) (ky κ y))) st):wpS (model prog w) A E s (lt' x y) Q st:=by
 rw[lt'_eq];refine Q9 (Ve ?_);rw[hk,keyLt'_oneType];refine Q9 (wpS_lift (Qb (hO prog w A _ s x.1 y.1 _ _ hx.eq hy.eq ⟨rfl,?_⟩)));exact Q8 hq
noncomputable def Bt(κ:KeyKind)(left:Bool)(i8 x:Keyed):Bool:=if left then κ.blt (ky κ x) (ky κ i8) else !(κ.blt (ky κ i8) (ky κ x))
theorem qkm(hO:κ.OneLt){left:Bool}{i8 x:Keyed}{arr:Array Keyed}{base i:Nat}{st:SortSt}{Q:Option Bool->SortSt->Prop}(hk:kindOf st=oneType')(G0:Kd κ i8)(e:arr[base+i]?=some x)(hx:Kd κ x)(hq:Q (some (Bt κ left i8 x)) st):wpS (model prog w) A E s (bey left i8 arr base i) Q st:=by
 unfold bey;refine Q9 (qN e ?_);cases left with
 |true=>exact qcg hO hk hx G0 hq
 |false=>exact Q9 (qcg hO hk G0 hx (Q8 hq))
theorem qfZ{left:Bool}{i8:Keyed}{arr:Array Keyed}{base n c7:Nat}{st:SortSt}{Q:Option Nat->SortSt->Prop}(B:Nat->Bool)(hb:∀ i,i<n->∀ R:Option Bool->SortSt->Prop,R (some (B i)) st->wpS (model prog w) A E s (bey left i8 arr base i) R st)(mono:∀ i j,i<=j->j<n->B j=true->B i=true)(hn:c7<n)(h:∀ k,k<=n->(∀ i,i<k->B i=true)->(∀ i,k<=i->i<n->B i=false)->Q (some k) st):wpS (model prog w) A E s (zL left i8 arr base n c7) Q st:=by
 have iY:∀ i j,i<=j->j<n->B i=false->B j=false:=λ i j oI hj hi=>by
  cases hB:B j with
  |false=>rfl
  |true=>rw[mono i j oI hj hB] at hi;exact absurd hi (by simp)
 have fin:∀ p q:Nat,p<=q->q<=n->(∀ i,i<p->B i=true)->(∀ i,q<=i->i<n->B i=false) ->
   wpS (model prog w) A E s (do
    let mut p:=p
    let mut q:=q
    for _ in [0:n] do
     if p ≥ q then break
     let c:=p+(q-p) / 2
     let some d <- bey left i8 arr base c|return none
     if d then p:=c+1 else q:=c
    return some q) Q st:=by
  intro p q cS eU h1 h2;refine Q9 (Va (Qr (I:=λ x c b0=>b0=st/\∃ p q,c=(none,p,q)/\p<=q/\q<=n/\q-p<=n-x/\(∀ i,i<p->B i=true)/\(∀ i,q<=i->i<n->B i=false))
   (Q:=λ c b0=>b0=st/\∃ p q,c=(none,p,q)/\q<=p/\p<=q/\q<=n/\(∀ i,i<p->B i=true)/\(∀ i,q<=i->i<n->B i=false)) ?step ?fin ⟨rfl,p,q,rfl,cS,eU,by omega,h1,h2⟩) ?post)
  case post =>
   rintro c b0 ⟨rfl,p,q,rfl,hqp,cS,eU,h1,h2⟩
   have:p=q:=by omega
   subst this;exact Q8 (h p eU h1 h2)
  case fin =>
   rintro c b0 ⟨rfl,p,q,rfl,cS,eU,hm,h1,h2⟩;exact⟨rfl,p,q,rfl,by omega,cS,eU,h1,h2⟩
  case step =>
   rintro x c b0 _ hx ⟨rfl,p,q,rfl,cS,eU,hm,h1,h2⟩;dsimp only;by_cases hge:p ≥ q
   ·rw[Vh hge];exact Q8 ⟨rfl,p,q,rfl,hge,cS,eU,h1,h2⟩
   ·rw[Vi hge];refine Q9 (hb _ (by omega) _ ?_);cases hB:B (p+(q-p) / 2) with
    |true =>
     simp only[Vd];exact Q8 ⟨rfl,_,q,rfl,by omega,eU,by omega,λ i hi=>mono i _ (by omega) (by omega) hB,h2⟩
    |false =>
     simp only[Zd,Q7];exact Q8 ⟨rfl,p,_,rfl,by omega,by omega,by omega,h1,λ i hi aB=>iY _ i hi aB hB⟩
 rw[qhB];refine Q9 (hb c7 hn _ ?_);dsimp only;cases hB:B c7 with
 |true =>
  simp only[Vd];refine Q9 (Va (Qr (I:=λ x c b0=>b0=st/\∃ u v,c=(none,u,v)/\u<v/\x<v/\c7+u<n/\B (c7+u)=true)
   (Q:=λ c b0=>b0=st/\∃ u v,c=(none,u,v)/\u<v/\c7+u<n/\B (c7+u)=true/\(n-c7<=v∨(c7+v<n/\B (c7+v)=false))) ?step ?fin ⟨rfl,0,1,rfl,by omega,by omega,by omega,hB⟩) ?post)
  case post =>
   rintro c b0 ⟨rfl,u,v,rfl,W6,T9,hu,hv⟩;refine fin (c7+u+1) (c7+min v (n-c7)) (by omega) (by omega) (λ i hi=>mono i _ (by omega) T9 hu) (λ i hi aB=>?_);rcases hv with hv|⟨h1,h2⟩
   ·omega
   ·exact iY _ i (by omega) aB h2
  case fin =>
   rintro c b0 ⟨rfl,u,v,rfl,W6,wP,T9,hu⟩;exact⟨rfl,u,v,rfl,W6,T9,hu,.inl (by omega)⟩
  case step =>
   rintro x c b0 _ hx ⟨rfl,u,v,rfl,W6,wP,T9,hu⟩;dsimp only;by_cases hge:v ≥ n-c7
   ·rw[Vh hge];exact Q8 ⟨rfl,u,v,rfl,W6,T9,hu,.inl hge⟩
   ·rw[Vi hge];refine Q9 (hb _ (by omega) _ ?_);cases hB2:B (c7+v) with
    |true =>
     simp only[J5,Zd,Q7];exact Q8 ⟨rfl,v,_,rfl,by omega,by omega,by omega,hB2⟩
    |false =>
     simp only[Bool.not_false,Vd];exact Q8 ⟨rfl,u,v,rfl,W6,T9,hu,.inr ⟨by omega,hB2⟩⟩
 |false =>
  simp only[Zd,Q7];refine Q9 (Va (Qr (I:=λ x c b0=>b0=st/\∃ u v,c=(none,u,v)/\u<v/\x<v/\u<=c7/\B (c7-u)=false)
   (Q:=λ c b0=>b0=st/\∃ u v,c=(none,u,v)/\u<v/\u<=c7/\B (c7-u)=false/\(c7+1<=v∨(v<=c7/\B (c7-v)=true))) ?step ?fin ⟨rfl,0,1,rfl,by omega,by omega,by omega,hB⟩) ?post)
  case post =>
   rintro c b0 ⟨rfl,u,v,rfl,W6,T9,hu,hv⟩;refine fin (c7+1-min v (c7+1)) (c7-u) (by omega) (by omega) (λ i hi=>?_) (λ i hi aB=>iY _ i hi aB hu);rcases hv with hv|⟨h1,h2⟩
   ·omega
   ·exact mono i _ (by omega) (by omega) h2
  case fin =>
   rintro c b0 ⟨rfl,u,v,rfl,W6,wP,T9,hu⟩;exact⟨rfl,u,v,rfl,W6,T9,hu,.inl (by omega)⟩
  case step =>
   rintro x c b0 _ hx ⟨rfl,u,v,rfl,W6,wP,T9,hu⟩;dsimp only;by_cases hge:v ≥ c7+1
   ·rw[Vh hge];exact Q8 ⟨rfl,u,v,rfl,W6,T9,hu,.inl hge⟩
   ·rw[Vi hge];refine Q9 (hb _ (by omega) _ ?_);cases hB2:B (c7-v) with
    |false =>
     simp only[Zd,Q7];exact Q8 ⟨rfl,v,_,rfl,by omega,by omega,by omega,hB2⟩
    |true =>
     simp only[Vd];exact Q8 ⟨rfl,u,v,rfl,W6,T9,hu,.inr ⟨by omega,hB2⟩⟩
end
structure MI{α:Type}(r:α->α->Prop)(la lb O:List α)(i j:Nat):Prop where
 sa:(O++la.drop i).Pairwise r
 sb:(O++lb.drop j).Pairwise r
 pm:(O++(la.drop i++lb.drop j)).Perm (la++lb)
theorem MI.takeA{α:Type}{r:α->α->Prop}{la lb O:List α}{i j i':Nat}(h:MI r la lb O i j){X:List α}(e:la.drop i=X++la.drop i')(hx:∀ x∈X,∀ y∈lb.drop j,r x y):MI r la lb (O++X) i' j:=by
 have h1:=h.sa;rw[e,<- Zp] at h1;have h2:=Yk.mp h.sb;refine⟨h1,Yk.mpr ⟨(Yk.mp h1).1,h2.2.1,λ x p4 y hy=>?_⟩,?_⟩
 ·rcases Ur.mp p4 with hO | hX
  ·exact h2.2.2 x hO y hy
  ·exact hx x hX y hy
 ·have:=h.pm
  rw[e] at this;simpa [Zp] using this
theorem MI.takeB{α:Type}{r:α->α->Prop}{la lb O:List α}{i j j':Nat}(h:MI r la lb O i j){X:List α}(e:lb.drop j=X++lb.drop j')(hx:∀ x∈X,∀ y∈la.drop i,r x y):MI r la lb (O++X) i j':=by
 have h1:=h.sb;rw[e,<- Zp] at h1;have h2:=Yk.mp h.sa;refine⟨Yk.mpr ⟨(Yk.mp h1).1,h2.2.1,λ x p4 y hy=>?_⟩,h1,?_⟩
 ·rcases Ur.mp p4 with hO | hX
  ·exact h2.2.2 x hO y hy
  ·exact hx x hX y hy
 ·have:=h.pm
  rw[e] at this;rw[Zp];exact((Xh X (la.drop i) (lb.drop j')).append_left O).trans this
def Gd{α:Type}(r:α->α->Prop)(la lb:List α)(o:List α):Prop:=o.Pairwise r/\o.Perm (la++lb)
theorem MI.endB{α:Type}{r:α->α->Prop}{la lb O:List α}{i j:Nat}(h:MI r la lb O i j)(e:lb.length<=j):Gd r la lb (O++la.drop i++lb.drop j):=by
 have:=h.sa
 have hp:=h.pm;rw[XI e] at hp ⊢;rw[Uu] at hp ⊢;exact⟨this,hp⟩
theorem MI.endA{α:Type}{r:α->α->Prop}{la lb O:List α}{i j:Nat}(h:MI r la lb O i j)(e:la.length<=i):Gd r la lb (O++la.drop i++lb.drop j):=by
 have:=h.sb
 have hp:=h.pm;rw[XI e] at hp ⊢;rw[U0] at hp;rw[Uu];exact⟨this,hp⟩
theorem MI.last{α:Type}{r:α->α->Prop}{la lb O:List α}{i j:Nat}(h:MI r la lb O i j)(hl:∀ x∈la.drop i,∀ y∈lb,r y x):Gd r la lb (O++lb.drop j++la.drop i):=by
 have ha:=Yk.mp h.sa;refine⟨Yk.mpr ⟨h.sb,ha.2.1,λ x hx y hy=>?_⟩,?_⟩
 ·rcases Ur.mp hx with hO | hX
  ·exact ha.2.2 x hO y hy
  ·exact hl y hy x (Yl hX)
 ·rw[Zp];exact((List.perm_append_comm).append_left O).trans h.pm
theorem zW{α:Type}{l:List α}{i:Nat}{x:α}(h:l[i]?=some x):l.drop i=[x]++l.drop (i+1):=by
 obtain⟨hi,e⟩:=Xm.mp h;rw[Xr hi,e];rfl
theorem drop_take{α:Type}(l:List α)(i k:Nat):l.drop i=(l.drop i).take k++l.drop (i+k):=by
 have:=(XV k (l.drop i)).symm
 rwa [Jq] at this
abbrev kl(κ:KeyKind)(x y:Keyed):Prop:=κ.kle (ky κ x) (ky κ y)
abbrev So(κ:KeyKind)(l:List Keyed):Prop:=l.Pairwise (kl κ)
section
variable {prog:Program}{w:World}{A:Around}{E:Value->Shared->Prop}{s:Shared}{κ:KeyKind}
theorem qkn{left:Bool}{i8 x y:Keyed}(h:kl κ x y)(hy:Bt κ left i8 y=true):Bt κ left i8 x=true:=by
 cases left with
 |true=>exact KeyOrd.klt_of_kle_of_klt h hy
 |false =>
  have nH:κ.blt (ky κ i8) (ky κ y)=false:=by simpa [Bt] using hy
  have:κ.kle (ky κ x) (ky κ i8):=Uk h nH
  show(!(κ.blt (ky κ i8) (ky κ x)))=true
  rw[show κ.blt (ky κ i8) (ky κ x)=false from this];rfl
theorem BtF{i8 x:Keyed}(h:Bt κ false i8 x=true):kl κ x i8:=by
 have:κ.blt (ky κ i8) (ky κ x)=false:=by simpa [Bt] using h
 exact this
theorem qlI{i8 x:Keyed}(h:Bt κ false i8 x=false):kl κ i8 x:=by
 have:κ.blt (ky κ i8) (ky κ x)=true:=by simpa [Bt] using h
 exact Zx this
theorem BtT{i8 x:Keyed}(h:Bt κ true i8 x=true):kl κ x i8:=Zx h
theorem qko{i8 x:Keyed}(h:Bt κ true i8 x=false):kl κ i8 x:=h
theorem zX(hO:κ.OneLt){left:Bool}{i8:Keyed}{arr:Array Keyed}{base n c7:Nat}{st:SortSt}{Q:Option Nat->SortSt->Prop}(bI:List Keyed)(es:(arr.toList.drop base).take n=bI)(hk:kindOf st=oneType')(G0:Kd κ i8)(hs:base+n<=arr.size)(hd:∀ x∈bI,Kd κ x)(so:So κ bI)(hn:c7<n)(h:∀ k,k<=n->(∀ x∈bI.take k,Bt κ left i8 x=true)->(∀ x∈bI.drop k,Bt κ left i8 x=false)->Q (some k) st):wpS (model prog w) A E s (zL left i8 arr base n c7) Q st:=by
 have ln:bI.length=n:=by rw[<- es,Uc,Ue,Yr];omega
 have at_:∀ i,(hi:i<n)->arr[base+i]?=some (bI[i]'(by omega)):=λ i hi=>by
  have:bI[i]?=some (bI[i]'(by omega)):=Xw _
  rw[<- this,<- es,Xu hi,Ze,XT]
 refine qfZ (λ i=>if hi:i<n then Bt κ left i8 (bI[i]'(by omega)) else false) ?_ ?_ hn ?_
 ·intro i hi R hR;rw[Vg hi] at hR;exact qkm hO hk G0 (at_ i hi) (hd _ (Ui _)) hR
 ·intro i j oI hj hB;rw[Vg hj] at hB;rw[Vg (by omega)];rcases Qn i j with c8 | hge
  ·exact qkn (Xs.mp so i j (by omega) (by omega) c8) hB
  ·have:i=j:=by omega
   subst this;exact hB
 ·intro k hW h1 h2;refine h k hW (λ x hx=>?_) (λ x hx=>?_)
  ·obtain⟨i,hi,rfl⟩:=Yw hx;rw[Uc] at hi
   have:=h1 i (by omega)
   rw[Vg (by omega)] at this;rw[Zy];exact this
  ·obtain⟨i,hi,rfl⟩:=Yw hx;rw[Ue] at hi
   have:=h2 (k+i) (by omega) (by omega)
   rw[Vg (by omega)] at this;rw[List.getElem_drop];exact this
end
noncomputable abbrev jO(st:SortSt)(g:Nat):SortSt:=SortSt.mk' (kindOf st) (arrOf st) (pendingOf st) g (failedOf st)
abbrev SM:=StateT SortSt Sem
noncomputable def qch:Array Keyed->Array Keyed->SM (Array Keyed):=sortPriv% PySem.Builtin.mergeLo
noncomputable def qhC(g:Nat):SM Unit:=modify λ st=>jO st g
noncomputable def vp(a b o:Array Keyed)(i j:Nat):Array Keyed:=o++a.extract i a.size++b.extract j b.size
noncomputable def qdV(a b o:Array Keyed)(i j:Nat):Array Keyed:=o++b.extract j b.size++a.extract i a.size
abbrev C1:=Option (Array Keyed)×Array Keyed×Nat×Nat×Nat×Nat
abbrev C2:=Option (Array Keyed)×Array Keyed×Nat×Nat×Nat×Nat×Nat
abbrev C0:=Option (Array Keyed)×Array Keyed×Nat×Nat×Nat
noncomputable def lo3(a b o:Array Keyed)(i j g p q:Nat):SM (ForInStep C2):=do
 let x <- elem' a i
 if i+1+1 == a.size then pure (.done (some (qdV a b (o.push x) (i+1) j),o.push x,i+1,j,g,p,q))
 else if p<7 && q<7 then pure (.done (none,o.push x,i+1,j,g,p,q))
 else pure (.yield (none,o.push x,i+1,j,g,p,q))
noncomputable def lo2(a b o:Array Keyed)(i j g p q:Nat):SM (ForInStep C2):=do
 let x <- elem' b j
 if j+1 == b.size then pure (.done (some (vp a b (o.push x) i (j+1)),o.push x,i,j+1,g,p,q))
 else do
  let y <- elem' a i
  let c <- zL true y b (j+1) (b.size-(j+1)) 0
  match c with
  |some k =>
   if k > 0 then
    if j+1+k == b.size then pure (.done (some (vp a b (o.push x++b.extract (j+1) (j+1+k)) i (j+1+k)),o.push x++b.extract (j+1) (j+1+k),i,j+1+k,g,p,k))
    else lo3 a b (o.push x++b.extract (j+1) (j+1+k)) i (j+1+k) g p k
   else lo3 a b (o.push x) i (j+1) g p k
  |_=>pure (.done (some (vp a b (o.push x) i (j+1)),o.push x,i,j+1,g,p,q))
noncomputable def lo1(a b o:Array Keyed)(i j g p q:Nat):SM (ForInStep C2):=do
 qhC g
 let x <- elem' b j
 let c <- zL false x a i (a.size-i) 0
 match c with
 |some k =>
  if k > 0 then
   if i+k+1 == a.size then pure (.done (some (qdV a b (o++a.extract i (i+k)) (i+k) j),o++a.extract i (i+k),i+k,j,g,k,q))
   else if i+k == a.size then pure (.done (some (vp a b (o++a.extract i (i+k)) (i+k) j),o++a.extract i (i+k),i+k,j,g,k,q))
   else lo2 a b (o++a.extract i (i+k)) (i+k) j g k q
  else lo2 a b o i j g k q
 |_=>pure (.done (some (vp a b o i j),o,i,j,g,p,q))
noncomputable def lo0(a b:Array Keyed)(g:Nat)(r:C1):SM (ForInStep C1):=do
 let y <- elem' b r.2.2.2.1
 let x <- elem' a r.2.2.1
 let c <- lt' y x
 match c with
 |some c =>
  if c then do
   let z <- elem' b r.2.2.2.1
   if r.2.2.2.1+1 == b.size then pure (.done (some (vp a b (r.2.1.push z) r.2.2.1 (r.2.2.2.1+1)),r.2.1.push z,r.2.2.1,r.2.2.2.1+1,0,r.2.2.2.2.2+1))
   else if r.2.2.2.2.2+1 ≥ g then pure (.done (none,r.2.1.push z,r.2.2.1,r.2.2.2.1+1,0,r.2.2.2.2.2+1))
   else pure (.yield (none,r.2.1.push z,r.2.2.1,r.2.2.2.1+1,0,r.2.2.2.2.2+1))
  else do
   let z <- elem' a r.2.2.1
   if r.2.2.1+1+1 == a.size then pure (.done (some (qdV a b (r.2.1.push z) (r.2.2.1+1) r.2.2.2.1),r.2.1.push z,r.2.2.1+1,r.2.2.2.1,r.2.2.2.2.1+1,0))
   else if r.2.2.2.2.1+1 ≥ g then pure (.done (none,r.2.1.push z,r.2.2.1+1,r.2.2.2.1,r.2.2.2.2.1+1,0))
   else pure (.yield (none,r.2.1.push z,r.2.2.1+1,r.2.2.2.1,r.2.2.2.2.1+1,0))
 |_=>pure (.done (some (vp a b r.2.1 r.2.2.1 r.2.2.2.1),r.2.1,r.2.2.1,r.2.2.2.1,r.2.2.2.2.1,r.2.2.2.2.2))
theorem qf0(a b:Array Keyed):qch a b=(do
 rule "list.sort.merge-lo"
 let t:=a.size+b.size
 let mut o:Array Keyed:=#[<- elem' b 0]
 let mut i:=0
 let mut j:=1
 if j == b.size then return vp a b o i j
 if i+1 == a.size then return qdV a b o i j
 let mut g:=gallopOf (<- get)
 for _ in [0:t] do
  let mut p:=0
  let mut q:=0
  for _ in [0:t] do
   let some c <- lt' (<- elem' b j) (<- elem' a i)|return vp a b o i j
   if c then
    o:=o.push (<- elem' b j);j:=j+1;q:=q+1;p:=0
    if j == b.size then return vp a b o i j
    if q ≥ g then break
   else
    o:=o.push (<- elem' a i);i:=i+1;p:=p+1;q:=0
    if i+1 == a.size then return qdV a b o i j
    if p ≥ g then break
  rule "list.sort.gallop"
  g:=g+1
  for _ in [0:t] do
   if g > 1 then g:=g-1
   qhC g
   let some k <- zL false (<- elem' b j) a i (a.size-i) 0|return vp a b o i j
   p:=k
   if k > 0 then
    o:=o++a.extract i (i+k);i:=i+k
    if i+1 == a.size then return qdV a b o i j
    if i == a.size then return vp a b o i j
   o:=o.push (<- elem' b j);j:=j+1
   if j == b.size then return vp a b o i j
   let some k <- zL true (<- elem' a i) b j (b.size-j) 0|return vp a b o i j
   q:=k
   if k > 0 then
    o:=o++b.extract j (j+k);j:=j+k
    if j == b.size then return vp a b o i j
   o:=o.push (<- elem' a i);i:=i+1
   if i+1 == a.size then return qdV a b o i j
   if p<7 && q<7 then break
  g:=g+1
  qhC g
 unsupported "internal:list.sort.merge-bound"):=rfl
def Ok{γ:Type}(κ:KeyKind)(a b:Array Keyed)(st:SortSt)(m:Nat)(c:Option (Array Keyed)×Array Keyed×Nat×Nat×γ)(b0:SortSt):Prop:=
 (∃ g,b0=jO st g)/\((∃ r,c.1=some r/\Gd (kl κ) a.toList b.toList r.toList)∨(c.1=none/\MI (kl κ) a.toList b.toList c.2.1.toList c.2.2.1 c.2.2.2.1/\c.2.2.1+1<a.size/\c.2.2.2.1<b.size/\m<=c.2.2.1+c.2.2.2.1))
def qaX{γ:Type}(κ:KeyKind)(a b:Array Keyed)(st:SortSt)(m:Nat):ForInStep (Option (Array Keyed)×Array Keyed×Nat×Nat×γ)->SortSt->Prop
 |.done c,b0=>Ok κ a b st m c b0
 |.yield c,b0=>Ok κ a b st m c b0/\c.1=none
theorem qbv(a:Array Keyed)(i:Nat):(a.extract i a.size).toList=a.toList.drop i:=by
 rw[Yj,Xq];exact XH (by rw[Ue,Yr];exact Qs _)
theorem qeT(a:Array Keyed)(i k:Nat):(a.extract i (i+k)).toList=(a.toList.drop i).take k:=by
 rw[Yj,Xq,X9]
theorem qci(a b o:Array Keyed)(i j:Nat):(vp a b o i j).toList=o.toList++a.toList.drop i++b.toList.drop j:=by
 unfold vp;rw[Yy,Yy,qbv,qbv]
theorem qdW(a b o:Array Keyed)(i j:Nat):(qdV a b o i j).toList=o.toList++b.toList.drop j++a.toList.drop i:=by
 unfold qdV;rw[Yy,Yy,qbv,qbv]
theorem qaA{a:Array Keyed}{i:Nat}(h:i<a.size):a.toList[i]?=some a[i]:=by
 rw[XT];exact getElem?_pos a i h
section
variable {prog:Program}{w:World}{A:Around}{E:Value->Shared->Prop}{s:Shared}{κ:KeyKind}{a b:Array Keyed}{st:SortSt}
variable (hO:κ.OneLt)(hk:kindOf st=oneType')(ka:∀ x∈a.toList,Kd κ x)(kb:∀ x∈b.toList,Kd κ x)(hl:∀ x∈a.toList.drop (a.size-1),∀ y∈b.toList,kl κ y x)
include hO hk ka kb hl
theorem qbw{i:Nat}(e:i+1=a.size):∀ x∈a.toList.drop i,∀ y∈b.toList,kl κ y x:=by
 have:a.size-1=i:=by omega
 rw[<- this];exact hl
theorem MI.headA{O:List Keyed}{i j:Nat}(m:MI (kl κ) a.toList b.toList O i j)(hi:i<a.size):∀ y∈a.toList.drop i,kl κ a[i] y:=by
 have:=(Yk.mp m.sa).2.1
 rw[zW (qaA hi)] at this ⊢;intro y hy;rcases Ur.mp hy with h|h
 ·rw[Zf.mp h];exact U5 _
 ·exact(Zb.mp this).1 y h
theorem MI.headB{O:List Keyed}{i j:Nat}(m:MI (kl κ) a.toList b.toList O i j)(hj:j<b.size):∀ y∈b.toList.drop j,kl κ b[j] y:=by
 have:=(Yk.mp m.sb).2.1
 rw[zW (qaA hj)] at this ⊢;intro y hy;rcases Ur.mp hy with h|h
 ·rw[Zf.mp h];exact U5 _
 ·exact(Zb.mp this).1 y h
theorem qiT{o:Array Keyed}{i j g p q m:Nat}{b0:SortSt}(hs:∃ g,b0=jO st g)(mi:MI (kl κ) a.toList b.toList o.toList i j)(hi:i+1<a.size)(hj:j<b.size)(hm:m<=i+j)(hx:∀ y∈b.toList.drop j,kl κ a[i] y):wpS (model prog w) A E s (lo3 a b o i j g p q) (qaX κ a b st m) b0:=by
 unfold lo3;refine Q9 (qN (p:=a[i]) (getElem?_pos a i (by omega)) ?_);have w4:MI (kl κ) a.toList b.toList (o.push a[i]).toList (i+1) j:=by
  rw[Zt];exact mi.takeA (zW (qaA (by omega))) (λ x p4 y hy=>by rw[Zf.mp p4];exact hx y hy)
 by_cases h1:i+1+1=a.size
 ·rw[Vh (by simpa using h1)];refine Q8 ⟨hs,.inl ⟨_,rfl,?_⟩⟩;rw[qdW];exact w4.last (qbw hO hk ka kb hl h1)
 ·rw[Vi (by simpa using h1)];by_cases h2:(decide (p<7) && decide (q<7))=true
  ·rw[Vh h2];exact Q8 ⟨hs,.inr ⟨rfl,w4,by show i+1+1<a.size;omega,hj,by show m<=i+1+j;omega⟩⟩
  ·rw[Vi h2];exact Q8 ⟨⟨hs,.inr ⟨rfl,w4,by show i+1+1<a.size;omega,hj,by show m<=i+1+j;omega⟩⟩,rfl⟩
theorem qiU{o:Array Keyed}{i j g p q m:Nat}{b0:SortSt}(hs:∃ g,b0=jO st g)(mi:MI (kl κ) a.toList b.toList o.toList i j)(hi:i+1<a.size)(hj:j<b.size)(hm:m<=i+j)(hx:∀ y∈a.toList.drop i,kl κ b[j] y):wpS (model prog w) A E s (lo2 a b o i j g p q) (qaX κ a b st m) b0:=by
 unfold lo2;refine Q9 (qN (p:=b[j]) (getElem?_pos b j (by omega)) ?_);have w4:MI (kl κ) a.toList b.toList (o.push b[j]).toList i (j+1):=by
  rw[Zt];exact mi.takeB (zW (qaA (by omega))) (λ x p4 y hy=>by rw[Zf.mp p4];exact hx y hy)
 by_cases h1:j+1=b.size
 ·rw[Vh (by simpa using h1)];refine Q8 ⟨hs,.inl ⟨_,rfl,?_⟩⟩;rw[qci];exact w4.endB (by rw[Yr];omega)
 ·rw[Vi (by simpa using h1)];refine Q9 (qN (p:=a[i]) (getElem?_pos a i (by omega)) ?_);have G1:kindOf b0=oneType':=by obtain⟨g,rfl⟩:=hs;exact hk
  refine Q9 (zX hO (b.toList.drop (j+1)) (XH (by rw[Ue,Yr];exact Qs _)) G1 (ka _ (by simp)) (by omega) (λ x hx=>kb x (Yl hx)) ((Yk.mp w4.sb).2.1) (by omega) λ k hW k1 k2=>?_);have ha:=mi.headA hO hk ka kb hl (show i<a.size by omega);have mk:MI (kl κ) a.toList b.toList (o.push b[j]++b.extract (j+1) (j+1+k)).toList i (j+1+k):=by
   rw[Yy,qeT];exact w4.takeB (drop_take _ _ _) λ x hx y hy=>Uk (BtT (k1 x hx)) (ha y hy)
  have cL:∀ y∈b.toList.drop (j+1+k),kl κ a[i] y:=λ y hy=>qko (k2 y (by rw[Jq];exact hy))
  dsimp only;by_cases hk0:k > 0
  ·rw[Vh hk0];by_cases h3:j+1+k=b.size
   ·rw[Vh (by simpa using h3)];refine Q8 ⟨hs,.inl ⟨_,rfl,?_⟩⟩;rw[qci];exact mk.endB (by rw[Yr];omega)
   ·rw[Vi (by simpa using h3)];exact qiT hO hk ka kb hl hs mk hi (by omega) (by omega) cL
  ·rw[Vi hk0]
   have:k=0:=by omega
   subst this;exact qiT hO hk ka kb hl hs w4 hi (by omega) (by omega) cL
theorem qiV{o:Array Keyed}{i j g p q m:Nat}{b0:SortSt}(hs:∃ g,b0=jO st g)(mi:MI (kl κ) a.toList b.toList o.toList i j)(hi:i+1<a.size)(hj:j<b.size)(hm:m<=i+j):wpS (model prog w) A E s (lo1 a b o i j g p q) (qaX κ a b st m) b0:=by
 unfold lo1;refine Q9 (Q5 ?_);have A6:∃ g',jO b0 g=jO st g':=by obtain⟨g1,rfl⟩:=hs;exact⟨g,rfl⟩
 have G1:kindOf (jO b0 g)=oneType':=by obtain⟨g1,rfl⟩:=hs;exact hk
 refine Q9 (qN (p:=b[j]) (getElem?_pos b j (by omega)) ?_);refine Q9 (zX hO (a.toList.drop i) (XH (by rw[Ue,Yr];exact Qs _)) G1 (kb _ (by simp)) (by omega) (λ x hx=>ka x (Yl hx)) ((Yk.mp mi.sa).2.1) (by omega) λ k hW k1 k2=>?_);have hb:=mi.headB hO hk ka kb hl hj;have mk:MI (kl κ) a.toList b.toList (o++a.extract i (i+k)).toList (i+k) j:=by
  rw[Yy,qeT];exact mi.takeA (drop_take _ _ _) λ x hx y hy=>Uk (BtF (k1 x hx)) (hb y hy)
 have nJ:∀ y∈a.toList.drop (i+k),kl κ b[j] y:=λ y hy=>qlI (k2 y (by rw[Jq];exact hy))
 dsimp only;by_cases hk0:k > 0
 ·rw[Vh hk0];by_cases h3:i+k+1=a.size
  ·rw[Vh (by simpa using h3)];refine Q8 ⟨A6,.inl ⟨_,rfl,?_⟩⟩;rw[qdW];exact mk.last (qbw hO hk ka kb hl h3)
  ·rw[Vi (by simpa using h3)];by_cases h4:i+k=a.size
   ·rw[Vh (by simpa using h4)];refine Q8 ⟨A6,.inl ⟨_,rfl,?_⟩⟩;rw[qci];exact mk.endA (by rw[Yr];omega)
   ·rw[Vi (by simpa using h4)];exact qiU hO hk ka kb hl A6 mk (by omega) hj (by omega) nJ
 ·rw[Vi hk0]
  have:k=0:=by omega
  subst this;exact qiU hO hk ka kb hl A6 mi hi hj hm nJ
theorem qlJ{g:Nat}{r:C1}{m:Nat}{b0:SortSt}(ok:Ok κ a b st m r b0)(hn:r.1=none):wpS (model prog w) A E s (lo0 a b g r) (qaX κ a b st (m+1)) b0:=by
 obtain⟨v,o,i,j,p,q⟩:=r;obtain⟨hs,⟨r,h1,h2⟩|⟨_,mi,hi,hj,hm⟩⟩:=ok
 ·rw[hn] at h1;cases h1
 change MI (kl κ) a.toList b.toList o.toList i j at mi
 change i+1<a.size at hi
 change j<b.size at hj
 change m<=i+j at hm
 unfold lo0;dsimp only;have G1:kindOf b0=oneType':=by obtain⟨g,rfl⟩:=hs;exact hk
 refine Q9 (qN (p:=b[j]) (getElem?_pos b j (by omega)) ?_);refine Q9 (qN (p:=a[i]) (getElem?_pos a i (by omega)) ?_);refine Q9 (qcg hO G1 (kb _ (by simp)) (ka _ (by simp)) ?_);dsimp only;cases hc:κ.blt (ky κ b[j]) (ky κ a[i]) with
 |true =>
  rw[Vh rfl];refine Q9 (qN (p:=b[j]) (getElem?_pos b j (by omega)) ?_);have ha:=mi.headA hO hk ka kb hl (show i<a.size by omega);have w4:MI (kl κ) a.toList b.toList (o.push b[j]).toList i (j+1):=by
   rw[Zt];exact mi.takeB (zW (qaA (by omega))) (λ x p4 y hy=>by rw[Zf.mp p4];exact Uk (Zx hc) (ha y hy))
  by_cases h1:j+1=b.size
  ·rw[Vh (by simpa using h1)];refine Q8 ⟨hs,.inl ⟨_,rfl,?_⟩⟩;rw[qci];exact w4.endB (by rw[Yr];omega)
  ·rw[Vi (by simpa using h1)];by_cases h2:q+1 ≥ g
   ·rw[Vh h2];exact Q8 ⟨hs,.inr ⟨rfl,w4,hi,by show j+1<b.size;omega,by show m+1<=i+(j+1);omega⟩⟩
   ·rw[Vi h2];exact Q8 ⟨⟨hs,.inr ⟨rfl,w4,hi,by show j+1<b.size;omega,by show m+1<=i+(j+1);omega⟩⟩,rfl⟩
 |false =>
  rw[Vi (by simp)];refine Q9 (qN (p:=a[i]) (getElem?_pos a i (by omega)) ?_);have hb:=mi.headB hO hk ka kb hl hj;have w4:MI (kl κ) a.toList b.toList (o.push a[i]).toList (i+1) j:=by
   rw[Zt];exact mi.takeA (zW (qaA (by omega))) (λ x p4 y hy=>by rw[Zf.mp p4];exact Uk hc (hb y hy))
  by_cases h1:i+1+1=a.size
  ·rw[Vh (by simpa using h1)];refine Q8 ⟨hs,.inl ⟨_,rfl,?_⟩⟩;rw[qdW];exact w4.last (qbw hO hk ka kb hl h1)
  ·rw[Vi (by simpa using h1)];by_cases h2:p+1 ≥ g
   ·rw[Vh h2];exact Q8 ⟨hs,.inr ⟨rfl,w4,by show i+1+1<a.size;omega,hj,by show m+1<=i+1+j;omega⟩⟩
   ·rw[Vi h2];exact Q8 ⟨⟨hs,.inr ⟨rfl,w4,by show i+1+1<a.size;omega,hj,by show m+1<=i+1+j;omega⟩⟩,rfl⟩
end
section
variable {prog:Program}{w:World}{A:Around}{E:Value->Shared->Prop}{s:Shared}{κ:KeyKind}{a b:Array Keyed}{st:SortSt}
theorem Ok.mono{γ:Type}{m m':Nat}{c:Option (Array Keyed)×Array Keyed×Nat×Nat×γ}{b0:SortSt}(h:Ok κ a b st m c b0)(hm:m'<=m):Ok κ a b st m' c b0:=by
 obtain⟨hs,h|⟨h1,h2,h3,h4,h5⟩⟩:=h
 ·exact⟨hs,.inl h⟩
 ·exact⟨hs,.inr ⟨h1,h2,h3,h4,Qf hm h5⟩⟩
theorem qeU(hO:κ.OneLt){Q:Array Keyed->SortSt->Prop}(hk:kindOf st=oneType')(ka:∀ x∈a.toList,Kd κ x)(kb:∀ x∈b.toList,Kd κ x)(h0:MI (kl κ) a.toList b.toList [] 0 0)(a1:0<a.size)(b1:0<b.size)(hd:∀ y∈a.toList,kl κ b[0] y)(hl:∀ x∈a.toList.drop (a.size-1),∀ y∈b.toList,kl κ y x)(h:∀(o:Array Keyed)(g:Nat),Gd (kl κ) a.toList b.toList o.toList->Q o (jO st g)):wpS (model prog w) A E s (qch a b) Q st:=by
 rw[qf0];refine Q9 (wpS_lift (Q1 ⟨rfl,?_⟩));refine Q9 (qN (p:=b[0]) (getElem?_pos b 0 b1) ?_);dsimp only;have mi:MI (kl κ) a.toList b.toList (#[b[0]]:Array Keyed).toList 0 1:=by
  have:=h0.takeB (zW (qaA b1)) (λ x hx y hy=>by rw[Zf.mp hx];exact hd y (Yl hy))
  simpa using this
 by_cases h1:1=b.size
 ·rw[Vh (by simpa using h1)];refine Q8 (h _ (gallopOf st) ?_);rw[qci];exact mi.endB (by rw[Yr];omega)
 rw[Vi (by simpa using h1)];by_cases h2:0+1=a.size
 ·rw[Vh (by simpa using h2)];refine Q8 (h _ (gallopOf st) ?_);rw[qdW];exact mi.last (qbw hO hk ka kb hl h2)
 rw[Vi (by simpa using h2)];refine Q9 (Ve ?_);refine Q9 (Va (Qr (I:=λ x (c:C0) b0=>Ok κ a b st (x+1) c b0/\c.1=none) (Q:=λ c b0=>Ok κ a b st 0 c b0/\c.1≠none) ?step ?fin ⟨⟨⟨gallopOf st,rfl⟩,.inr ⟨rfl,mi,by show 0+1<a.size;omega,by show 1<b.size;omega,by show 0+1<=0+1;omega⟩⟩,rfl⟩) ?post)
 case post =>
  rintro⟨v,c⟩ b0 ⟨⟨⟨g,rfl⟩,ok⟩,hv⟩;rcases ok with⟨r,e,gd⟩|⟨e,_⟩
  ·cases e
   exact Q8 (h r g gd)
  ·exact absurd e hv
 case fin =>
  rintro⟨v,o,i,j,g⟩ b0 ⟨⟨hs,ok⟩,hv⟩;rcases ok with⟨r,e,gd⟩|⟨e,_,hi,hj,hm⟩
  ·rw[hv] at e;cases e
  ·change i+1<a.size at hi
   change j<b.size at hj
   change _<=i+j at hm
   omega
 case step =>
  rintro x c b0 _ hx ⟨ok,hn⟩;obtain⟨v,o,i,j,g⟩:=c;cases hn
  have uO:Ok κ a b st (x+1) ((none,o,i,j,0,0):C1) b0:=ok;refine Q9 (Va (Qr (I:=λ y (c:C1) b0=>Ok κ a b st (x+1+y) c b0/\c.1=none) (Q:=λ c b0=>Ok κ a b st (x+2) c b0) ?istep ?ifin ⟨uO,rfl⟩) ?ipost)
  case istep =>
   rintro y c i7 _ hy ⟨S1,W8⟩;refine Va (show wpS (model prog w) A E s (lo0 a b g c) (qaX κ a b st (x+1+y+1)) i7 from qlJ hO hk ka kb hl S1 W8) λ r E5 hr=>?_
   cases r with
   |done c=>exact Ok.mono hr (by omega)
   |yield c=>exact hr
  case ifin =>
   rintro⟨v,o,i,j,p,q⟩ i7 ⟨⟨hs,S1⟩,hv⟩;rcases S1 with⟨r,e,gd⟩|⟨e,_,hi,hj,hm⟩
   ·rw[hv] at e;cases e
   ·change i+1<a.size at hi
    change j<b.size at hj
    change _<=i+j at hm
    omega
  case ipost =>
   rintro⟨v,o,i,j,p,q⟩ i7 ⟨hs,S1⟩;dsimp only;cases v with
   |some v =>
    rcases S1 with⟨r,e,gd⟩|⟨e,_⟩
    ·cases e
     exact Q8 ⟨⟨hs,.inl ⟨_,rfl,gd⟩⟩,by simp⟩
    ·cases e
   |none =>
    dsimp only;refine Q9 (wpS_lift (Q1 ⟨rfl,?_⟩));have uN:Ok κ a b st (x+2) ((none,o,i,j,g+1,p,q):C2) i7:=⟨hs,S1⟩;refine Q9 (Va (Qr (I:=λ y (c:C2) b0=>Ok κ a b st (x+2) c b0/\c.1=none) (Q:=λ c b0=>Ok κ a b st (x+2) c b0) ?jstep ?jfin ⟨uN,rfl⟩) ?jpost)
    case jfin=>exact λ c b0 hc=>hc.1
    case jstep =>
     rintro y ⟨v,o,i,j,g,p,q⟩ E5 _ hy ⟨⟨hs,cE⟩,hn⟩;have nZ:v=none:=hn;subst nZ;rcases cE with⟨r,e,gd⟩|⟨_,mi,hi,hj,hm⟩
     ·cases e
     change MI (kl κ) a.toList b.toList o.toList i j at mi
     change i+1<a.size at hi
     change j<b.size at hj
     change _<=i+j at hm
     refine Va (Q:=qaX κ a b st (x+2)) ?_ λ r E5 hr=>?_
     ·by_cases hg:g > 1
      ·dsimp only;rw[Vh hg];show wpS (model prog w) A E s (lo1 a b o i j (g-1) p q) _ _
       exact qiV hO hk ka kb hl hs mi hi hj hm
      ·dsimp only;rw[Vi hg];show wpS (model prog w) A E s (lo1 a b o i j g p q) _ _
       exact qiV hO hk ka kb hl hs mi hi hj hm
     ·cases r with
      |done c=>exact hr
      |yield c=>exact hr
    case jpost =>
     rintro⟨v,o,i,j,g,p,q⟩ E5 ⟨hs,cE⟩;dsimp only;cases v with
     |some v =>
      rcases cE with⟨r,e,gd⟩|⟨e,_⟩
      ·cases e
       exact Q8 ⟨⟨hs,.inl ⟨_,rfl,gd⟩⟩,by simp⟩
      ·cases e
     |none =>
      refine Q9 (Q5 (Q8 ⟨⟨?_,cE⟩,rfl⟩));obtain⟨g1,rfl⟩:=hs;exact⟨g+1,rfl⟩
end
structure MH{α:Type}(r:α->α->Prop)(la lb O:List α)(i j:Nat):Prop where
 sa:(la.take i++O).Pairwise r
 sb:(lb.take j++O).Pairwise r
 pm:(la.take i++(lb.take j++O)).Perm (la++lb)
theorem MH.takeA{α:Type}{r:α->α->Prop}{la lb O:List α}{i j i':Nat}(h:MH r la lb O i j){X:List α}(e:la.take i=la.take i'++X)(hx:∀ x∈X,∀ y∈lb.take j,r y x):MH r la lb (X++O) i' j:=by
 have h1:=h.sa;rw[e,Zp] at h1;have h2:=Yk.mp h.sb;refine⟨h1,Yk.mpr ⟨h2.1,(Yk.mp h1).2.1,λ x p4 y hy=>?_⟩,?_⟩
 ·rcases Ur.mp hy with hX | hO
  ·exact hx y hX x p4
  ·exact h2.2.2 x p4 y hO
 ·have:=h.pm
  rw[e,Zp] at this;exact((Xh (lb.take j) X O).append_left (la.take i')).trans this
theorem MH.takeB{α:Type}{r:α->α->Prop}{la lb O:List α}{i j j':Nat}(h:MH r la lb O i j){X:List α}(e:lb.take j=lb.take j'++X)(hx:∀ x∈X,∀ y∈la.take i,r y x):MH r la lb (X++O) i j':=by
 have h1:=h.sb;rw[e,Zp] at h1;have h2:=Yk.mp h.sa;refine⟨Yk.mpr ⟨h2.1,(Yk.mp h1).2.1,λ x p4 y hy=>?_⟩,h1,?_⟩
 ·rcases Ur.mp hy with hX | hO
  ·exact hx y hX x p4
  ·exact h2.2.2 x p4 y hO
 ·have:=h.pm
  rw[e,Zp] at this;exact this
theorem MH.endA{α:Type}{r:α->α->Prop}{la lb O:List α}{i j:Nat}(h:MH r la lb O i j)(e:i=0):Gd r la lb (la.take i++lb.take j++O):=by
 subst e;exact⟨h.sb,h.pm⟩
theorem MH.endB{α:Type}{r:α->α->Prop}{la lb O:List α}{i:Nat}(h:MH r la lb O i 0):Gd r la lb (la.take i++lb.take 0++O):=by
 have h1:=h.pm;rw[Jp,Uu];exact⟨h.sa,h1⟩
theorem MH.first{α:Type}{r:α->α->Prop}{la lb O:List α}{i j:Nat}(h:MH r la lb O i j)(hl:∀ x∈lb.take j,∀ y∈la,r x y):Gd r la lb (lb.take j++la.take i++O):=by
 have hb:=Yk.mp h.sb;refine⟨?_,?_⟩
 ·rw[Zp];refine Yk.mpr ⟨hb.1,h.sa,λ x hx y hy=>?_⟩;rcases Ur.mp hy with hA | hO
  ·exact hl x hx y (Ym hA)
  ·exact hb.2.2 x hx y hO
 ·rw[Zp];exact(Xh (lb.take j) (la.take i) O).trans h.pm
theorem zj{α:Type}{l:List α}{i:Nat}{x:α}(h:l[i]?=some x):l.take (i+1)=l.take i++[x]:=by
 obtain⟨hi,e⟩:=Xm.mp h;rw[Xa hi,e]
theorem qdg{α:Type}(l:List α){i k:Nat}(h:k<=i):l.take i=l.take k++(l.take i).drop k:=by
 have:=(XV k (l.take i)).symm
 rwa [List.take_take,U6 h] at this
noncomputable def qcj:Array Keyed->Array Keyed->SM (Array Keyed):=sortPriv% PySem.Builtin.mergeHi
noncomputable def vq(a b o:Array Keyed)(i j:Nat):Array Keyed:=a.extract 0 i++b.extract 0 j++o.reverse
noncomputable def qdX(a b o:Array Keyed)(i j:Nat):Array Keyed:=b.extract 0 j++a.extract 0 i++o.reverse
abbrev D1:=Option (Array Keyed)×Nat×Nat×Array Keyed×Nat×Nat
abbrev D2:=Option (Array Keyed)×Nat×Nat×Array Keyed×Nat×Nat×Nat
abbrev D0:=Option (Array Keyed)×Nat×Nat×Array Keyed×Nat
theorem qf1(a b:Array Keyed):qcj a b=(do
 rule "list.sort.merge-hi"
 let t:=a.size+b.size
 let mut i:=a.size-1
 let mut j:=b.size
 let mut o:Array Keyed:=#[<- elem' a i]
 if i == 0 then return vq a b o i j
 if j == 1 then return qdX a b o i j
 let mut g:=gallopOf (<- get)
 for _ in [0:t] do
  let mut p:=0
  let mut q:=0
  for _ in [0:t] do
   let some c <- lt' (<- elem' b (j-1)) (<- elem' a (i-1))|return vq a b o i j
   if c then
    i:=i-1;o:=o.push (<- elem' a i);p:=p+1;q:=0
    if i == 0 then return vq a b o i j
    if p ≥ g then break
   else
    j:=j-1;o:=o.push (<- elem' b j);q:=q+1;p:=0
    if j == 1 then return qdX a b o i j
    if q ≥ g then break
  rule "list.sort.gallop"
  g:=g+1
  for _ in [0:t] do
   if g > 1 then g:=g-1
   qhC g
   let some u <- zL false (<- elem' b (j-1)) a 0 i (i-1)|return vq a b o i j
   let k:=i-u
   p:=k
   if k > 0 then
    o:=o++(a.extract u i).reverse;i:=u
    if i == 0 then return vq a b o i j
   j:=j-1;o:=o.push (<- elem' b j)
   if j == 1 then return qdX a b o i j
   let some u <- zL true (<- elem' a (i-1)) b 0 j (j-1)|return vq a b o i j
   let k:=j-u
   q:=k
   if k > 0 then
    o:=o++(b.extract u j).reverse;j:=u
    if j == 1 then return qdX a b o i j
    if j == 0 then return vq a b o i j
   i:=i-1;o:=o.push (<- elem' a i)
   if i == 0 then return vq a b o i j
   if p<7 && q<7 then break
  g:=g+1
  qhC g
 unsupported "internal:list.sort.merge-bound"):=rfl
noncomputable def hi3(a b o:Array Keyed)(i j g p q:Nat):SM (ForInStep D2):=do
 let x <- elem' a (i-1)
 if i-1 == 0 then pure (.done (some (vq a b (o.push x) (i-1) j),i-1,j,o.push x,g,p,q))
 else if p<7 && q<7 then pure (.done (none,i-1,j,o.push x,g,p,q))
 else pure (.yield (none,i-1,j,o.push x,g,p,q))
noncomputable def hi2(a b o:Array Keyed)(i j g p q:Nat):SM (ForInStep D2):=do
 let x <- elem' b (j-1)
 if j-1 == 1 then pure (.done (some (qdX a b (o.push x) i (j-1)),i,j-1,o.push x,g,p,q))
 else do
  let y <- elem' a (i-1)
  let c <- zL true y b 0 (j-1) (j-1-1)
  match c with
  |some u =>
   if j-1-u > 0 then
    if u == 1 then pure (.done (some (qdX a b (o.push x++(b.extract u (j-1)).reverse) i u),i,u,o.push x++(b.extract u (j-1)).reverse,g,p,j-1-u))
    else if u == 0 then pure (.done (some (vq a b (o.push x++(b.extract u (j-1)).reverse) i u),i,u,o.push x++(b.extract u (j-1)).reverse,g,p,j-1-u))
    else hi3 a b (o.push x++(b.extract u (j-1)).reverse) i u g p (j-1-u)
   else hi3 a b (o.push x) i (j-1) g p (j-1-u)
  |_=>pure (.done (some (vq a b (o.push x) i (j-1)),i,j-1,o.push x,g,p,q))
noncomputable def hi1(a b o:Array Keyed)(i j g p q:Nat):SM (ForInStep D2):=do
 qhC g
 let x <- elem' b (j-1)
 let c <- zL false x a 0 i (i-1)
 match c with
 |some u =>
  if i-u > 0 then
   if u == 0 then pure (.done (some (vq a b (o++(a.extract u i).reverse) u j),u,j,o++(a.extract u i).reverse,g,i-u,q))
   else hi2 a b (o++(a.extract u i).reverse) u j g (i-u) q
  else hi2 a b o i j g (i-u) q
 |_=>pure (.done (some (vq a b o i j),i,j,o,g,p,q))
noncomputable def hi0(a b:Array Keyed)(g:Nat)(r:D1):SM (ForInStep D1):=do
 let y <- elem' b (r.2.2.1-1)
 let x <- elem' a (r.2.1-1)
 let c <- lt' y x
 match c with
 |some c =>
  if c then do
   let z <- elem' a (r.2.1-1)
   if r.2.1-1 == 0 then pure (.done (some (vq a b (r.2.2.2.1.push z) (r.2.1-1) r.2.2.1),r.2.1-1,r.2.2.1,r.2.2.2.1.push z,r.2.2.2.2.1+1,0))
   else if r.2.2.2.2.1+1 ≥ g then pure (.done (none,r.2.1-1,r.2.2.1,r.2.2.2.1.push z,r.2.2.2.2.1+1,0))
   else pure (.yield (none,r.2.1-1,r.2.2.1,r.2.2.2.1.push z,r.2.2.2.2.1+1,0))
  else do
   let z <- elem' b (r.2.2.1-1)
   if r.2.2.1-1 == 1 then pure (.done (some (qdX a b (r.2.2.2.1.push z) r.2.1 (r.2.2.1-1)),r.2.1,r.2.2.1-1,r.2.2.2.1.push z,0,r.2.2.2.2.2+1))
   else if r.2.2.2.2.2+1 ≥ g then pure (.done (none,r.2.1,r.2.2.1-1,r.2.2.2.1.push z,0,r.2.2.2.2.2+1))
   else pure (.yield (none,r.2.1,r.2.2.1-1,r.2.2.2.1.push z,0,r.2.2.2.2.2+1))
 |_=>pure (.done (some (vq a b r.2.2.2.1 r.2.1 r.2.2.1),r.2.1,r.2.2.1,r.2.2.2.1,r.2.2.2.2.1,r.2.2.2.2.2))
def OkH{γ:Type}(κ:KeyKind)(a b:Array Keyed)(st:SortSt)(m:Nat)(c:Option (Array Keyed)×Nat×Nat×Array Keyed×γ)(b0:SortSt):Prop:=
 (∃ g,b0=jO st g)/\((∃ r,c.1=some r/\Gd (kl κ) a.toList b.toList r.toList)∨(c.1=none/\MH (kl κ) a.toList b.toList c.2.2.2.1.toList.reverse c.2.1 c.2.2.1/\0<c.2.1/\c.2.1<=a.size/\1<c.2.2.1/\c.2.2.1<=b.size/\c.2.1+c.2.2.1+m<=a.size+b.size))
def qdh{γ:Type}(κ:KeyKind)(a b:Array Keyed)(st:SortSt)(m:Nat):ForInStep (Option (Array Keyed)×Nat×Nat×Array Keyed×γ)->SortSt->Prop
 |.done c,b0=>OkH κ a b st m c b0
 |.yield c,b0=>OkH κ a b st m c b0/\c.1=none
theorem qdY(a:Array Keyed)(i:Nat):(a.extract 0 i).toList=a.toList.take i:=by
 rw[Yj,Xq,Jn,Nat.sub_zero]
theorem qgQ(a:Array Keyed)(u i:Nat):((a.extract u i).reverse).toList.reverse=(a.toList.take i).drop u:=by
 rw[Yn,List.reverse_reverse,Yj,Xq,List.drop_take]
theorem qck(a b o:Array Keyed)(i j:Nat):(vq a b o i j).toList=a.toList.take i++b.toList.take j++o.toList.reverse:=by
 unfold vq;rw[Yy,Yy,qdY,qdY,Yn]
theorem qdZ(a b o:Array Keyed)(i j:Nat):(qdX a b o i j).toList=b.toList.take j++a.toList.take i++o.toList.reverse:=by
 unfold qdX;rw[Yy,Yy,qdY,qdY,Yn]
theorem qaB(o:Array Keyed)(x:Keyed):(o.push x).toList.reverse=[x]++o.toList.reverse:=by
 rw[Zt,Y0];rfl
theorem qgR(o u:Array Keyed):(o++u).toList.reverse=u.toList.reverse++o.toList.reverse:=by
 rw[Yy,Y0]
theorem yk{a:Array Keyed}{i:Nat}(h0:0<i)(h:i<=a.size):a.toList.take i=a.toList.take (i-1)++[a[i-1]]:=by
 have:=zj (qaA (a:=a) (i:=i-1) (by omega))
 rwa [Nat.sub_add_cancel h0] at this
section
variable {prog:Program}{w:World}{A:Around}{E:Value->Shared->Prop}{s:Shared}{κ:KeyKind}{a b:Array Keyed}{st:SortSt}
variable (hO:κ.OneLt)(hk:kindOf st=oneType')(ka:∀ x∈a.toList,Kd κ x)(kb:∀ x∈b.toList,Kd κ x)(hd:∀ x∈b.toList.take 1,∀ y∈a.toList,kl κ x y)
include hO hk ka kb hd
theorem MH.tailA{O:List Keyed}{i j:Nat}(m:MH (kl κ) a.toList b.toList O i j)(h0:0<i)(hi:i<=a.size):∀ y∈a.toList.take i,kl κ y a[i-1]:=by
 have:=(Yk.mp m.sa).1
 rw[yk h0 hi] at this ⊢;intro y hy;rcases Ur.mp hy with h|h
 ·exact(Yk.mp this).2.2 y h _ (Zf.mpr rfl)
 ·rw[Zf.mp h];exact U5 _
theorem MH.tailB{O:List Keyed}{i j:Nat}(m:MH (kl κ) a.toList b.toList O i j)(h0:0<j)(hj:j<=b.size):∀ y∈b.toList.take j,kl κ y b[j-1]:=by
 have:=(Yk.mp m.sb).1
 rw[yk h0 hj] at this ⊢;intro y hy;rcases Ur.mp hy with h|h
 ·exact(Yk.mp this).2.2 y h _ (Zf.mpr rfl)
 ·rw[Zf.mp h];exact U5 _
theorem qiW{o:Array Keyed}{i j g p q m:Nat}{b0:SortSt}(hs:∃ g,b0=jO st g)(mi:MH (kl κ) a.toList b.toList o.toList.reverse i j)(i0:0<i)(hi:i<=a.size)(j1:1<j)(hj:j<=b.size)(hm:i+j+m<=a.size+b.size)(hx:∀ y∈b.toList.take j,kl κ y a[i-1]):wpS (model prog w) A E s (hi3 a b o i j g p q) (qdh κ a b st m) b0:=by
 unfold hi3;refine Q9 (qN (p:=a[i-1]) (getElem?_pos a (i-1) (by omega)) ?_);have w4:MH (kl κ) a.toList b.toList (o.push a[i-1]).toList.reverse (i-1) j:=by
  rw[qaB];exact mi.takeA (yk i0 hi) (λ x p4 y hy=>by rw[Zf.mp p4];exact hx y hy)
 by_cases h1:i-1=0
 ·rw[Vh (by simpa using h1)];refine Q8 ⟨hs,.inl ⟨_,rfl,?_⟩⟩;rw[qck];exact w4.endA h1
 ·rw[Vi (by simpa using h1)];by_cases h2:(decide (p<7) && decide (q<7))=true
  ·rw[Vh h2];exact Q8 ⟨hs,.inr ⟨rfl,w4,by show 0<i-1;omega,by show i-1<=a.size;omega,j1,hj,by show i-1+j+m<=_;omega⟩⟩
  ·rw[Vi h2];exact Q8 ⟨⟨hs,.inr ⟨rfl,w4,by show 0<i-1;omega,by show i-1<=a.size;omega,j1,hj,by show i-1+j+m<=_;omega⟩⟩,rfl⟩
theorem qiX{o:Array Keyed}{i j g p q m:Nat}{b0:SortSt}(hs:∃ g,b0=jO st g)(mi:MH (kl κ) a.toList b.toList o.toList.reverse i j)(i0:0<i)(hi:i<=a.size)(j1:1<j)(hj:j<=b.size)(hm:i+j+m<=a.size+b.size)(hx:∀ y∈a.toList.take i,kl κ y b[j-1]):wpS (model prog w) A E s (hi2 a b o i j g p q) (qdh κ a b st m) b0:=by
 unfold hi2;refine Q9 (qN (p:=b[j-1]) (getElem?_pos b (j-1) (by omega)) ?_);have w4:MH (kl κ) a.toList b.toList (o.push b[j-1]).toList.reverse i (j-1):=by
  rw[qaB];exact mi.takeB (yk (by omega) hj) (λ x p4 y hy=>by rw[Zf.mp p4];exact hx y hy)
 by_cases h1:j-1=1
 ·rw[Vh (by simpa using h1)];refine Q8 ⟨hs,.inl ⟨_,rfl,?_⟩⟩;rw[qdZ];exact w4.first (by rw[h1];exact hd)
 ·rw[Vi (by simpa using h1)];refine Q9 (qN (p:=a[i-1]) (getElem?_pos a (i-1) (by omega)) ?_);have G1:kindOf b0=oneType':=by obtain⟨g,rfl⟩:=hs;exact hk
  refine Q9 (zX hO (b.toList.take (j-1)) (by rw[Jn]) G1 (ka _ (by simp)) (by omega) (λ x hx=>kb x (Ym hx)) ((Yk.mp w4.sb).1) (by omega) λ u S3 k1 k2=>?_);have ha:=mi.tailA hO hk ka kb hd i0 hi;have mk:MH (kl κ) a.toList b.toList (o.push b[j-1]++(b.extract u (j-1)).reverse).toList.reverse i u:=by
   rw[qgR,qgQ];exact w4.takeB (qdg _ S3) λ x hx y hy=>Uk (ha y hy) (qko (k2 x hx))
  have cL:∀ y∈b.toList.take u,kl κ y a[i-1]:=λ y hy=>BtT (k1 y (by rw[List.take_take,U6 S3];exact hy))
  dsimp only;by_cases hk0:j-1-u > 0
  ·rw[Vh hk0];by_cases h3:u=1
   ·rw[Vh (by simpa using h3)];refine Q8 ⟨hs,.inl ⟨_,rfl,?_⟩⟩;rw[qdZ];exact mk.first (by rw[h3];exact hd)
   ·rw[Vi (by simpa using h3)];by_cases h4:u=0
    ·rw[Vh (by simpa using h4)];refine Q8 ⟨hs,.inl ⟨_,rfl,?_⟩⟩;rw[qck];subst h4;exact mk.endB
    ·rw[Vi (by simpa using h4)];exact qiW hO hk ka kb hd hs mk i0 hi (by omega) (by omega) (by omega) cL
  ·rw[Vi hk0]
   have:u=j-1:=by omega
   subst this;exact qiW hO hk ka kb hd hs w4 i0 hi (by omega) (by omega) (by omega) cL
theorem qiY{o:Array Keyed}{i j g p q m:Nat}{b0:SortSt}(hs:∃ g,b0=jO st g)(mi:MH (kl κ) a.toList b.toList o.toList.reverse i j)(i0:0<i)(hi:i<=a.size)(j1:1<j)(hj:j<=b.size)(hm:i+j+m<=a.size+b.size):wpS (model prog w) A E s (hi1 a b o i j g p q) (qdh κ a b st m) b0:=by
 unfold hi1;refine Q9 (Q5 ?_);have A6:∃ g',jO b0 g=jO st g':=by obtain⟨g1,rfl⟩:=hs;exact⟨g,rfl⟩
 have G1:kindOf (jO b0 g)=oneType':=by obtain⟨g1,rfl⟩:=hs;exact hk
 refine Q9 (qN (p:=b[j-1]) (getElem?_pos b (j-1) (by omega)) ?_);refine Q9 (zX hO (a.toList.take i) (by rw[Jn]) G1 (kb _ (by simp)) (by omega) (λ x hx=>ka x (Ym hx)) ((Yk.mp mi.sa).1) (by omega) λ u S3 k1 k2=>?_);have hb:=mi.tailB hO hk ka kb hd (by omega) hj;have mk:MH (kl κ) a.toList b.toList (o++(a.extract u i).reverse).toList.reverse u j:=by
  rw[qgR,qgQ];exact mi.takeA (qdg _ S3) λ x hx y hy=>Uk (hb y hy) (qlI (k2 x hx))
 have nJ:∀ y∈a.toList.take u,kl κ y b[j-1]:=λ y hy=>BtF (k1 y (by rw[List.take_take,U6 S3];exact hy))
 dsimp only;by_cases hk0:i-u > 0
 ·rw[Vh hk0];by_cases h4:u=0
  ·rw[Vh (by simpa using h4)];refine Q8 ⟨A6,.inl ⟨_,rfl,?_⟩⟩;rw[qck];exact mk.endA h4
  ·rw[Vi (by simpa using h4)];exact qiX hO hk ka kb hd A6 mk (by omega) (by omega) j1 hj (by omega) nJ
 ·rw[Vi hk0]
  have:u=i:=by omega
  subst this;exact qiX hO hk ka kb hd A6 mi i0 hi j1 hj hm nJ
theorem qlK{g:Nat}{r:D1}{m:Nat}{b0:SortSt}(ok:OkH κ a b st m r b0)(hn:r.1=none):wpS (model prog w) A E s (hi0 a b g r) (qdh κ a b st (m+1)) b0:=by
 obtain⟨v,i,j,o,p,q⟩:=r;obtain⟨hs,⟨r,h1,h2⟩|⟨_,mi,i0,hi,j1,hj,hm⟩⟩:=ok
 ·rw[hn] at h1;cases h1
 change MH (kl κ) a.toList b.toList o.toList.reverse i j at mi
 change 0<i at i0
 change i<=a.size at hi
 change 1<j at j1
 change j<=b.size at hj
 change i+j+m<=_ at hm
 unfold hi0;dsimp only;have G1:kindOf b0=oneType':=by obtain⟨g,rfl⟩:=hs;exact hk
 refine Q9 (qN (p:=b[j-1]) (getElem?_pos b (j-1) (by omega)) ?_);refine Q9 (qN (p:=a[i-1]) (getElem?_pos a (i-1) (by omega)) ?_);refine Q9 (qcg hO G1 (kb _ (by simp)) (ka _ (by simp)) ?_);dsimp only;cases hc:κ.blt (ky κ b[j-1]) (ky κ a[i-1]) with
 |true =>
  rw[Vh rfl];refine Q9 (qN (p:=a[i-1]) (getElem?_pos a (i-1) (by omega)) ?_);have hb:=mi.tailB hO hk ka kb hd (by omega) hj;have w4:MH (kl κ) a.toList b.toList (o.push a[i-1]).toList.reverse (i-1) j:=by
   rw[qaB];exact mi.takeA (yk i0 hi) (λ x p4 y hy=>by rw[Zf.mp p4];exact Uk (hb y hy) (Zx hc))
  by_cases h1:i-1=0
  ·rw[Vh (by simpa using h1)];refine Q8 ⟨hs,.inl ⟨_,rfl,?_⟩⟩;rw[qck];exact w4.endA h1
  ·rw[Vi (by simpa using h1)];by_cases h2:p+1 ≥ g
   ·rw[Vh h2];exact Q8 ⟨hs,.inr ⟨rfl,w4,by show 0<i-1;omega,by show i-1<=a.size;omega,j1,hj,by show i-1+j+(m+1)<=_;omega⟩⟩
   ·rw[Vi h2];exact Q8 ⟨⟨hs,.inr ⟨rfl,w4,by show 0<i-1;omega,by show i-1<=a.size;omega,j1,hj,by show i-1+j+(m+1)<=_;omega⟩⟩,rfl⟩
 |false =>
  rw[Vi (by simp)];refine Q9 (qN (p:=b[j-1]) (getElem?_pos b (j-1) (by omega)) ?_);have ha:=mi.tailA hO hk ka kb hd i0 hi;have w4:MH (kl κ) a.toList b.toList (o.push b[j-1]).toList.reverse i (j-1):=by
   rw[qaB];exact mi.takeB (yk (by omega) hj) (λ x p4 y hy=>by rw[Zf.mp p4];exact Uk (ha y hy) hc)
  by_cases h1:j-1=1
  ·rw[Vh (by simpa using h1)];refine Q8 ⟨hs,.inl ⟨_,rfl,?_⟩⟩;rw[qdZ];exact w4.first (by rw[h1];exact hd)
  ·rw[Vi (by simpa using h1)];by_cases h2:q+1 ≥ g
   ·rw[Vh h2];exact Q8 ⟨hs,.inr ⟨rfl,w4,i0,hi,by show 1<j-1;omega,by show j-1<=b.size;omega,by show i+(j-1)+(m+1)<=_;omega⟩⟩
   ·rw[Vi h2];exact Q8 ⟨⟨hs,.inr ⟨rfl,w4,i0,hi,by show 1<j-1;omega,by show j-1<=b.size;omega,by show i+(j-1)+(m+1)<=_;omega⟩⟩,rfl⟩
end
section
variable {prog:Program}{w:World}{A:Around}{E:Value->Shared->Prop}{s:Shared}{κ:KeyKind}{a b:Array Keyed}{st:SortSt}
theorem OkH.mono{γ:Type}{m m':Nat}{c:Option (Array Keyed)×Nat×Nat×Array Keyed×γ}{b0:SortSt}(h:OkH κ a b st m c b0)(hm:m'<=m):OkH κ a b st m' c b0:=by
 obtain⟨hs,h|⟨h1,h2,h3,h4,h5,h6,h7⟩⟩:=h
 ·exact⟨hs,.inl h⟩
 ·exact⟨hs,.inr ⟨h1,h2,h3,h4,h5,h6,by omega⟩⟩
theorem qeV(hO:κ.OneLt){Q:Array Keyed->SortSt->Prop}(hk:kindOf st=oneType')(ka:∀ x∈a.toList,Kd κ x)(kb:∀ x∈b.toList,Kd κ x)(h0:MH (kl κ) a.toList b.toList [] a.size b.size)(a1:0<a.size)(b1:0<b.size)(hd:∀ x∈b.toList.take 1,∀ y∈a.toList,kl κ x y)(hl:∀ y∈b.toList,kl κ y a[a.size-1])(h:∀(o:Array Keyed)(g:Nat),Gd (kl κ) a.toList b.toList o.toList->Q o (jO st g)):wpS (model prog w) A E s (qcj a b) Q st:=by
 rw[qf1];refine Q9 (wpS_lift (Q1 ⟨rfl,?_⟩));refine Q9 (qN (p:=a[a.size-1]) (getElem?_pos a (a.size-1) (by omega)) ?_);dsimp only;have mi:MH (kl κ) a.toList b.toList (#[a[a.size-1]]:Array Keyed).toList.reverse (a.size-1) b.size:=by
  have:=h0.takeA (yk a1 (Qs _)) (λ x hx y hy=>by rw[Zf.mp hx];exact hl y (Ym hy))
  simpa using this
 by_cases h1:a.size-1=0
 ·rw[Vh (by simpa using h1)];refine Q8 (h _ (gallopOf st) ?_);rw[qck];exact mi.endA h1
 rw[Vi (by simpa using h1)];by_cases h2:b.size=1
 ·rw[Vh (by simpa using h2)];refine Q8 (h _ (gallopOf st) ?_);rw[qdZ];exact mi.first (by rw[h2];exact hd)
 rw[Vi (by simpa using h2)];refine Q9 (Ve ?_);refine Q9 (Va (Qr (I:=λ x (c:D0) b0=>OkH κ a b st (x+1) c b0/\c.1=none) (Q:=λ c b0=>OkH κ a b st 0 c b0/\c.1≠none) ?step ?fin ⟨⟨⟨gallopOf st,rfl⟩,.inr ⟨rfl,mi,by show 0<a.size-1;omega,by show a.size-1<=a.size;omega,by show 1<b.size;omega,Qs _,by show a.size-1+b.size+(0+1)<=_;omega⟩⟩,rfl⟩) ?post)
 case post =>
  rintro⟨v,c⟩ b0 ⟨⟨⟨g,rfl⟩,ok⟩,hv⟩;rcases ok with⟨r,e,gd⟩|⟨e,_⟩
  ·cases e
   exact Q8 (h r g gd)
  ·exact absurd e hv
 case fin =>
  rintro⟨v,i,j,o,g⟩ b0 ⟨⟨hs,ok⟩,hv⟩;rcases ok with⟨r,e,gd⟩|⟨e,_,i0,hi,j1,hj,hm⟩
  ·rw[hv] at e;cases e
  ·change 0<i at i0
   change i+j+_<=_ at hm
   omega
 case step =>
  rintro x c b0 _ hx ⟨ok,hn⟩;obtain⟨v,i,j,o,g⟩:=c;cases hn
  have uO:OkH κ a b st (x+1) ((none,i,j,o,0,0):D1) b0:=ok;refine Q9 (Va (Qr (I:=λ y (c:D1) b0=>OkH κ a b st (x+1+y) c b0/\c.1=none) (Q:=λ c b0=>OkH κ a b st (x+2) c b0) ?istep ?ifin ⟨uO,rfl⟩) ?ipost)
  case istep =>
   rintro y c i7 _ hy ⟨S1,W8⟩;refine Va (show wpS (model prog w) A E s (hi0 a b g c) (qdh κ a b st (x+1+y+1)) i7 from qlK hO hk ka kb hd S1 W8) λ r E5 hr=>?_
   cases r with
   |done c=>exact OkH.mono hr (by omega)
   |yield c=>exact hr
  case ifin =>
   rintro⟨v,i,j,o,p,q⟩ i7 ⟨⟨hs,S1⟩,hv⟩;rcases S1 with⟨r,e,gd⟩|⟨e,_,i0,hi,j1,hj,hm⟩
   ·rw[hv] at e;cases e
   ·change 0<i at i0
    change i+j+_<=_ at hm
    omega
  case ipost =>
   rintro⟨v,i,j,o,p,q⟩ i7 ⟨hs,S1⟩;dsimp only;cases v with
   |some v =>
    rcases S1 with⟨r,e,gd⟩|⟨e,_⟩
    ·cases e
     exact Q8 ⟨⟨hs,.inl ⟨_,rfl,gd⟩⟩,by simp⟩
    ·cases e
   |none =>
    dsimp only;refine Q9 (wpS_lift (Q1 ⟨rfl,?_⟩));have uN:OkH κ a b st (x+2) ((none,i,j,o,g+1,p,q):D2) i7:=⟨hs,S1⟩;refine Q9 (Va (Qr (I:=λ y (c:D2) b0=>OkH κ a b st (x+2) c b0/\c.1=none) (Q:=λ c b0=>OkH κ a b st (x+2) c b0) ?jstep ?jfin ⟨uN,rfl⟩) ?jpost)
    case jfin=>exact λ c b0 hc=>hc.1
    case jstep =>
     rintro y ⟨v,i,j,o,g,p,q⟩ E5 _ hy ⟨⟨hs,cE⟩,hn⟩;have nZ:v=none:=hn;subst nZ;rcases cE with⟨r,e,gd⟩|⟨_,mi,i0,hi,j1,hj,hm⟩
     ·cases e
     change MH (kl κ) a.toList b.toList o.toList.reverse i j at mi
     change 0<i at i0
     change i<=a.size at hi
     change 1<j at j1
     change j<=b.size at hj
     change i+j+_<=_ at hm
     refine Va (Q:=qdh κ a b st (x+2)) ?_ λ r E5 hr=>?_
     ·by_cases hg:g > 1
      ·dsimp only;rw[Vh hg];show wpS (model prog w) A E s (hi1 a b o i j (g-1) p q) _ _
       exact qiY hO hk ka kb hd hs mi i0 hi j1 hj hm
      ·dsimp only;rw[Vi hg];show wpS (model prog w) A E s (hi1 a b o i j g p q) _ _
       exact qiY hO hk ka kb hd hs mi i0 hi j1 hj hm
     ·cases r with
      |done c=>exact hr
      |yield c=>exact hr
    case jpost =>
     rintro⟨v,i,j,o,g,p,q⟩ E5 ⟨hs,cE⟩;dsimp only;cases v with
     |some v =>
      rcases cE with⟨r,e,gd⟩|⟨e,_⟩
      ·cases e
       exact Q8 ⟨⟨hs,.inl ⟨_,rfl,gd⟩⟩,by simp⟩
      ·cases e
     |none =>
      refine Q9 (Q5 (Q8 ⟨⟨?_,cE⟩,rfl⟩));obtain⟨g1,rfl⟩:=hs;exact⟨g+1,rfl⟩
end
theorem qkp{M:Model}{A:Around}{E:Value->Shared->Prop}{s:Shared}{σ:Type}{x:σ}{Q:PUnit->σ->Prop}{st:σ}(h:Q ⟨⟩ x):wpS M A E s (set x:StateT σ Sem PUnit) Q st:=by
 unfold wpS;rw[StateT.run_set];exact Q0 ⟨rfl,h⟩
theorem qf2(i:Nat):mergeAt' i=(do
 let st <- get
 let (some (sa,na,pw),some (sb,nb,_)):=((pendingOf st)[i]?,(pendingOf st)[i+1]?) | unsupported "internal:list.sort.pending"
 set (SortSt.mk' (kindOf st) (arrOf st) (((pendingOf st).setIfInBounds i (sa,na+nb,pw)).eraseIdxIfInBounds (i+1)) (gallopOf st) (failedOf st))
 let some k <- zL false (<- elem' (arrOf st) sb) (arrOf st) sa na 0|return false
 let (sa,na):=(sa+k,na-k)
 if na == 0 then return true
 let some nb <- zL true (<- elem' (arrOf st) (sa+na-1)) (arrOf st) sb nb (nb-1)|return false
 if nb == 0 then return true
 let x:=(arrOf st).extract sa sb
 let y:=(arrOf st).extract sb (sb+nb)
 let m <- if na<=nb then qch x y else qcj x y
 modify λ s=>setArr s (m.toList.zipIdx.foldl (λ a (p,j)=>a.setIfInBounds (sa+j) p) (arrOf s))
 return (failedOf (<- get)).isNone):=rfl
theorem qeW{U V:List Keyed}{sa:Nat}:∀(l:List Keyed)(k:Nat)(M:List Keyed)(U:List Keyed)(arr:Array Keyed),arr.toList=U++(M++V)->U.length=sa+k->M.length=l.length ->
  ((l.zipIdx k).foldl (λ a (x:Keyed×Nat)=>a.setIfInBounds (sa+x.2) x.1) arr).toList=U++(l++V)
 | [],k,M,U,arr,e,hu,hm=>by
  have:M=[]:=XA.mp hm
  subst this;exact e
 |x::l,k,M,U,arr,e,hu,hm=>by
  obtain⟨m,M,rfl⟩:∃ m M',M=m::M':=by
   cases M with
   |nil=>cases hm
   |cons m M=>exact⟨m,M,rfl⟩
  rw[List.zipIdx_cons,Uz]
  have:=qeW (V:=V) (U:=U) (sa:=sa) l (k+1) M (U++[x]) (arr.setIfInBounds (sa+k) x) (by
   rw[Array.toList_setIfInBounds,e,<- hu,List.set_append_right _ _ (Qs _),Nat.sub_self];simp) (by rw[Za,hu];rfl) (by simpa using hm)
  rw[this];simp
section
variable {prog:Program}{w:World}{A:Around}{E:Value->Shared->Prop}{s:Shared}{κ:KeyKind}{st:SortSt}
theorem qeX(hO:κ.OneLt){Q:Bool->SortSt->Prop}{i sa na sb nb pa pb:Nat}{L X Y R:List Keyed}(hk:kindOf st=oneType')(hf:failedOf st=none)(e1:(pendingOf st)[i]?=some (sa,na,pa))(e2:(pendingOf st)[i+1]?=some (sb,nb,pb))(w6:sb=sa+na)(ea:(arrOf st).toList=L++(X++(Y++R)))(hL:L.length=sa)(hX:X.length=na)(hY:Y.length=nb)(na0:0<na)(nb0:0<nb)(sx:So κ X)(sy:So κ Y)(kx:∀ x∈X,Kd κ x)(kY:∀ x∈Y,Kd κ x)(h:∀(Z:List Keyed)(arr:Array Keyed)(g:Nat),Z.Perm (X++Y)->So κ Z->arr.toList=L++(Z++R) ->
   Q true (SortSt.mk' (kindOf st) arr (((pendingOf st).setIfInBounds i (sa,na+nb,pa)).eraseIdxIfInBounds (i+1)) g (failedOf st))):wpS (model prog w) A E s (mergeAt' i) Q st:=by
 have sz:(arrOf st).size=sa+na+nb+R.length:=by
  rw[<- Yr,ea];simp[hL,hX,hY];omega
 have gX:(arrOf st).toList.drop sa=X++(Y++R):=by rw[ea,<- hL,List.drop_left]
 have gY:(arrOf st).toList.drop sb=Y++R:=by rw[w6,<- Jq,gX,<- hX,List.drop_left]
 have y0:Y[0]?=some (Y[0]'(by omega)):=Xw _;have aY:(arrOf st)[sb]?=some (Y[0]'(by omega)):=by
  have e:(arrOf st).toList[sb+0]?=some (Y[0]'(by omega)):=by rw[<- Ze,gY,Xn (by omega),y0]
  rw[<- XT];exact e
 have wN:∀ y∈Y,kl κ (Y[0]'(by omega)) y:=by
  cases Y with
  |nil=>simp at hY;omega
  |cons z Y =>
   intro y hy;rcases Jy.mp hy with e|e
   ·rw[e];exact U5 _
   ·exact(Zb.mp sy).1 y e
 rw[qf2];refine Q9 (Ve ?_);rw[e1,e2];dsimp only;refine Q9 (qkp ?_);refine Q9 (qN aY ?_);refine Q9 (zX hO X (by rw[gX,<- hX,Jr]) hk (kY _ (Ui _)) (by omega) kx sx (by omega) λ k hW k1 k2=>?_);dsimp only;by_cases h0:na-k=0
 ·rw[Vh (by simpa using h0)];refine Q8 (h (X++Y) (arrOf st) _ (Jl _) (Yk.mpr ⟨sx,sy,λ x hx y hy=>?_⟩) (by rw[ea,Zp]));have G1:k=X.length:=by omega
  rw[G1,Uj] at k1;exact Uk (BtF (k1 x hx)) (wN y hy)
 rw[Vi (by simpa using h0)];have xl:X[na-1]?=some (X[na-1]'(by omega)):=Xw _;have sH:∀ x∈X,kl κ x (X[na-1]'(by omega)):=by
  intro x hx;obtain⟨j,hj,rfl⟩:=Yw hx;rcases Qn j (na-1) with h1|h1
  ·exact Xs.mp sx j (na-1) hj (by omega) h1
  ·have:j=na-1:=by omega
   subst this;exact U5 _
 have aX:(arrOf st)[sa+k+(na-k)-1]?=some (X[na-1]'(by omega)):=by
  have e:sa+k+(na-k)-1=sa+(na-1):=by omega
  rw[e,<- XT,<- Ze,gX,Xn (by omega),xl]
 refine Q9 (qN aX ?_);refine Q9 (zX hO Y (by rw[gY,<- hY,Jr]) hk (kx _ (Ui _)) (by omega) kY sy (by omega) λ n hn1 n1 n2=>?_);dsimp only;by_cases pD:n=0
 ·rw[Vh (by simpa using pD)];refine Q8 (h (X++Y) (arrOf st) _ (Jl _) (Yk.mpr ⟨sx,sy,λ x hx y hy=>?_⟩) (by rw[ea,Zp]));subst pD;exact Uk (sH x hx) (qko (n2 y hy))
 rw[Vi (by simpa using pD)];have ex:((arrOf st).extract (sa+k) sb).toList=X.drop k:=by
  rw[Yj,Xq,<- Jq,gX,Xd (by omega)];rw[show sb-(sa+k)=(X.drop k).length by rw[Ue];omega,Jr]
 have ey:((arrOf st).extract sb (sb+n)).toList=Y.take n:=by
  rw[Yj,Xq,gY,X9,Xc (by omega)]
 generalize hxe:(arrOf st).extract (sa+k) sb=x at ex ⊢;generalize hye:(arrOf st).extract sb (sb+n)=y at ey ⊢;have lx:x.size=na-k:=by rw[<- Yr,ex,Ue,hX]
 have ly:y.size=n:=by rw[<- Yr,ey,Uc,hY];omega
 have sx':So κ (X.drop k):=sx.sublist (List.drop_sublist _ _);have sy':So κ (Y.take n):=sy.sublist (List.take_sublist _ _);have kx':∀ z∈x.toList,Kd κ z:=λ z hz=>kx z (Yl (by rw[<- ex];exact hz))
 have ky':∀ z∈y.toList,Kd κ z:=λ z hz=>kY z (Ym (by rw[<- ey];exact hz))
 have yz:y[0]'(by omega)=Y[0]'(by omega):=by
  have h1:y.toList[0]?=some (y[0]'(by omega)):=qaA (by omega);rw[ey,Xu (by omega),y0] at h1;exact(Option.some.inj h1).symm
 have xz:x[x.size-1]'(by omega)=X[na-1]'(by omega):=by
  have h1:x.toList[x.size-1]?=some (x[x.size-1]'(by omega)):=qaA (by omega);rw[ex,Ze,show k+(x.size-1)=na-1 by omega,xl] at h1;exact(Option.some.inj h1).symm
 have hd:∀ z∈x.toList,kl κ (y[0]'(by omega)) z:=λ z hz=>by
  rw[yz];rw[ex] at hz;exact qlI (k2 z hz)
 have hl:∀ z∈y.toList,kl κ z (x[x.size-1]'(by omega)):=λ z hz=>by
  rw[xz];rw[ey] at hz;exact BtT (n1 z hz)
 have post:∀(o:Array Keyed)(g:Nat),Gd (kl κ) x.toList y.toList o.toList->wpS (model prog w) A E s (do
   modify λ s=>setArr s (o.toList.zipIdx.foldl (λ a (p,j)=>a.setIfInBounds (sa+k+j) p) (arrOf s))
   return (failedOf (<- get)).isNone) Q (jO (SortSt.mk' (kindOf st) (arrOf st) (((pendingOf st).setIfInBounds i (sa,na+nb,pa)).eraseIdxIfInBounds (i+1)) (gallopOf st) (failedOf st)) g):=by
  rintro o g ⟨so,po⟩;refine Q9 (Q5 (Q9 (Ve (Q8 ?_))));rw[ex,ey] at po;have lo:o.toList.length=(X.drop k++Y.take n).length:=po.length_eq
  have:=h (X.take k++(o.toList++Y.drop n)) (o.toList.zipIdx.foldl (λ a (x:Keyed×Nat)=>a.setIfInBounds (sa+k+x.2) x.1) (arrOf st)) g ?_ ?_ ?_
  ·have e:(failedOf (jO st g)).isNone=true:=by show(failedOf st).isNone=true;rw[hf];rfl
   show Q (failedOf st).isNone _
   rw[show(failedOf st).isNone=true from e];exact this
  ·refine(((po.append_right (Y.drop n)).append_left (X.take k))).trans (List.Perm.of_eq ?_);rw[Zp,XV,<- Zp,XV]
  ·have mo:∀ z∈o.toList,z∈X.drop k∨z∈Y.take n:=λ z hz=>Ur.mp (po.mem_iff.mp hz)
   have sX:So κ (X.take k++X.drop k):=by rw[XV];exact sx
   have sY:So κ (Y.take n++Y.drop n):=by rw[XV];exact sy
   refine Yk.mpr ⟨(Yk.mp sX).1,Yk.mpr ⟨so,(Yk.mp sY).2.1,λ z hz u hu=>?_⟩,λ z hz u hu=>?_⟩
   ·rcases mo z hz with h1 | h1
    ·exact Uk (sH z (Yl h1)) (qko (n2 u hu))
    ·exact(Yk.mp sY).2.2 z h1 u hu
   ·rcases Ur.mp hu with h1 | h1
    ·rcases mo u h1 with h2 | h2
     ·exact(Yk.mp sX).2.2 z hz u h2
     ·exact Uk (BtF (k1 z hz)) (wN u (Ym h2))
    ·exact Uk (BtF (k1 z hz)) (wN u (Yl h1))
  ·have:=qeW (V:=Y.drop n++R) (U:=[]) (sa:=sa+k) o.toList 0 (X.drop k++Y.take n) (L++X.take k) (arrOf st) (by
    rw[ea]
    conv=>lhs;rw[<- XV k X,<- XV n Y]
    simp only[Zp]) (by rw[Za,Uc];omega) lo.symm
   rw[this];simp only[Zp]
 by_cases B3:na-k<=n
 ·rw[Vh B3];refine Q9 (qeU hO hk kx' ky' ⟨by simpa [ex] using sx',by simpa [ey] using sy',by simp⟩ (by omega) (by omega) hd (λ z hz u hu=>?_) post);rw[zW (qaA (by omega)),XI (by rw[Yr];omega),Uu,Zf] at hz;rw[hz];exact hl u hu
 ·rw[Vi B3];refine Q9 (qeV hO hk kx' ky' ⟨?_,?_,?_⟩ (by omega) (by omega) (λ z hz u hu=>?_) hl post)
  ·rw[Uu,XH (by rw[Yr];exact Qs _),ex];exact sx'
  ·rw[Uu,XH (by rw[Yr];exact Qs _),ey];exact sy'
  ·rw[Uu,XH (by rw[Yr];exact Qs _),XH (by rw[Yr];exact Qs _)]
  ·rw[show(1:Nat)=0+1 from rfl,zj (qaA (a:=y) (i:=0) (by omega)),Jp,U0,Zf] at hz;rw[hz];exact hd u hu
end
theorem kS{α:Type}{r:α->α->Prop}(tr:∀ x y z,r x y->r y z->r x z){T:List α}{x:Nat}(h:(T.take x).Pairwise r)(h1:1<=x)(hx:x<T.length)(hr:r (T[x-1]'(by omega)) T[x]):(T.take (x+1)).Pairwise r:=by
 rw[Xa hx];refine Yk.mpr ⟨h,List.pairwise_singleton _ _,λ y hy z hz=>?_⟩;rw[Zf.mp hz];obtain⟨j,hj,rfl⟩:=Yw hy;rw[Uc] at hj;rw[Zy];rcases Qn j (x-1) with h2|h2
 ·have:=Xs.mp h j (x-1) (by rw[Uc];omega) (by rw[Uc];omega) h2
  rw[Zy,Zy] at this;exact tr _ _ _ this hr
 ·have:j=x-1:=by omega
  subst this;exact hr
theorem qbe{x:Keyed}{V:List Keyed}:∀(T U:List Keyed)(arr:Array Keyed),arr.toList=U++(T++(x::V))->(bubble arr (U.length+T.length) T.length).toList=U++(x::(T++V))
 | [],U,arr,e=>e
 |t::T,U,arr,e=>by
  have ih:=qbe (x:=x) (V:=V) T (U++[t]) arr (by rw[e];simp);have e1:(U++[t]).length+T.length=U.length+(t::T).length:=by simp;omega
  rw[e1] at ih;show(bubble arr (U.length+(t::T).length) (T.length+1)).toList=_
  rw[bubble_succ];generalize bubble arr (U.length+(t::T).length) T.length=b at ih ⊢;have sz:b.size=U.length+1+(1+(T.length+V.length)):=by rw[<- Yr,ih];simp;omega
  have l1:U.length+(t::T).length-T.length=U.length+1:=by simp;omega
  rw[l1,show U.length+1-1=U.length by omega,Array.swapIfInBounds_def,Vg (by omega),Vg (by omega),Array.toList_swap];have a1:b[U.length]'(by omega)=t:=by
   have:b.toList[U.length]?=some (b[U.length]'(by omega)):=qaA (by omega)
   rw[ih] at this;simpa using this.symm
  have a2:b[U.length+1]'(by omega)=x:=by
   have:b.toList[U.length+1]?=some (b[U.length+1]'(by omega)):=qaA (by omega)
   rw[ih] at this;simpa using this.symm
  rw[a1,a2,ih];simp[List.set_append]
theorem qeY{L D R:List Keyed}{arr:Array Keyed}(e:arr.toList=L++(D++R)):(mirror arr L.length (L.length+D.length) ((L.length+D.length-L.length) / 2)).toList=L++(D.reverse++R):=by
 have sz:arr.size=L.length+(D.length+R.length):=by rw[<- Yr,e];simp
 refine List.ext_getElem? λ k=>?_
 rw[XT,getElem?_mirror_all (by omega)];by_cases h:L.length<=k/\k<L.length+D.length
 ·rw[Vh h,<- XT,e,Xi (by omega),Xn (by omega),Xi (by omega),Xn (by rw[Y1];omega),List.getElem?_reverse (by omega)];congr 1;omega
 ·rw[Vi h,<- XT,e];rcases Qn k L.length with h1 | h1
  ·rw[Xn h1,Xn h1]
  ·rw[Xi h1,Xi h1,Xi (by omega),Xi (by rw[Y1];omega),Y1]
section
variable {prog:Program}{w:World}{A:Around}{E:Value->Shared->Prop}{s:Shared}{κ:KeyKind}{st:SortSt}
theorem qaC(hO:κ.OneLt){i j:Nat}{x y:Keyed}{Q:Option Bool->SortSt->Prop}(hk:kindOf st=oneType')(e1:(arrOf st)[i]?=some x)(e2:(arrOf st)[j]?=some y)(hx:Kd κ x)(hy:Kd κ y)(h:Q (some (κ.blt (ky κ x) (ky κ y))) st):wpS (model prog w) A E s (ltAt' i j) Q st:=by
 rw[ltAt'_eq];refine Q9 (Ve ?_);exact Q9 (qN e1 (Q9 (qN e2 (qcg hO hk hx hy h))))
theorem jj{L T:List Keyed}{arr:Array Keyed}(e:arr.toList=L++T){i:Nat}(hi:i<T.length):arr[L.length+i]?=some T[i]:=by
 rw[<- XT,e,Xi (by omega),X9];exact Xw hi
theorem qiZ(x y z:Keyed)(h1:kl κ x y)(h2:kl κ y z):kl κ x z:=Uk h1 h2
theorem qcl{r:Keyed->Keyed->Prop}(T:List Keyed):(T.take 1).Pairwise r:=by
 cases T with
 |nil=>simp
 |cons x T=>simp
theorem qcm(hO:κ.OneLt){lo n ok:Nat}{L T:List Keyed}{Q:Bool->SortSt->Prop}(hk:kindOf st=oneType')(ea:(arrOf st).toList=L++T)(hL:L.length=lo)(hn:n<=T.length)(hok:ok<=n)(kT:∀ x∈T,Kd κ x)(so:So κ (T.take ok))(n1:1<=n)(h:∀(T':List Keyed)(arr:Array Keyed),T'.Perm T->arr.toList=L++T'->So κ (T'.take n)->Q true (setArr st arr)):wpS (model prog w) A E s (binarySort' lo n ok) Q st:=by
 subst hL;rw[binarySort'_eq];refine Q9 (Va (Qr
  (I:=λ k c b0=>c=(none,())/\∃(T':List Keyed)(arr:Array Keyed),T'.Perm T/\arr.toList=L++T'/\So κ (T'.take (min k n))/\b0=setArr st arr)
  (Q:=λ c b0=>c=(none,())/\∃(T':List Keyed)(arr:Array Keyed),T'.Perm T/\arr.toList=L++T'/\So κ (T'.take n)/\b0=setArr st arr) ?step ?fin ?init) ?post)
 case post =>
  rintro c b0 ⟨rfl,T',arr,p,e,M8,rfl⟩;exact Q8 (h T' arr p e M8)
 case fin =>
  rintro c b0 ⟨hc,T',arr,p,e,M8,rfl⟩;rw[show min (max (max ok 1) n) n=n by omega] at M8;exact⟨hc,T',arr,p,e,M8,rfl⟩
 case init =>
  refine⟨rfl,T,arrOf st,Jl _,ea,?_,rfl⟩;by_cases h1:ok=0
  ·subst h1;rw[show min (max 0 1) n=1 by omega];exact qcl T
  ·rw[show min (max ok 1) n=ok by omega];exact so
 case step =>
  rintro k c b0 hak hkn ⟨rfl,T',arr,p,e,M8,rfl⟩;rw[show min k n=k by omega] at M8;have lT:T'.length=T.length:=p.length_eq;have kT':∀ x∈T',Kd κ x:=λ x hx=>kT x (p.mem_iff.mp hx)
  have hkl:k<T'.length:=by omega
  have G1:kindOf (setArr st arr)=oneType':=hk;refine Q9 (Va (Qr (I:=λ x c i7=>i7=setArr st arr/\∃ l r,c=(none,l,r)/\l<=r/\r<=k/\r-l<=k-x /\
    (∀ y∈(T'.take k).take l,kl κ y T'[k])/\(∀ y∈(T'.take k).drop r,kl κ T'[k] y))
   (Q:=λ c i7=>i7=setArr st arr/\∃ l r,c=(none,l,r)/\l<=k/\(∀ y∈(T'.take k).take l,kl κ y T'[k])/\(∀ y∈(T'.take k).drop l,kl κ T'[k] y)) ?istep ?ifin ?iinit) ?ipost)
  case iinit=>exact⟨rfl,0,k,rfl,by omega,by omega,by omega,λ y hy=>by simp at hy,λ y hy=>by rw[XI (by rw[Uc];omega)] at hy;cases hy⟩
  case ifin =>
   rintro c i7 ⟨rfl,l,r,rfl,hlr,wX,hm,h1,h2⟩
   have:l=r:=by omega
   subst this;exact⟨rfl,l,l,rfl,wX,h1,h2⟩
  case istep =>
   rintro x c i7 _ hxk ⟨rfl,l,r,rfl,hlr,wX,hm,h1,h2⟩;dsimp only;by_cases hge:l ≥ r
   ·rw[Vh hge]
    have:l=r:=by omega
    subst this;exact Q8 ⟨rfl,l,l,rfl,wX,h1,h2⟩
   ·rw[Vi hge];have xL:(l+r) / 2<T'.length:=by omega
    have hmk:(l+r) / 2<(T'.take k).length:=by rw[Uc];omega
    refine Q9 (qaC hO G1 (jj e hkl) (jj e xL) (kT' _ (Ui _)) (kT' _ (Ui _)) ?_);cases hc:κ.blt (ky κ T'[k]) (ky κ T'[(l+r) / 2])
    case true =>
     simp only[Vd];refine Q8 ⟨rfl,l,(l+r) / 2,rfl,by omega,by omega,by omega,h1,λ y hy=>?_⟩;obtain⟨j,hj,rfl⟩:=Yw hy;rw[Ue] at hj;rw[List.getElem_drop];rcases Nat.eq_zero_or_pos j with h3|h3
     ·subst h3;have e3:(T'.take k)[(l+r) / 2+0]'(by omega)=T'[(l+r) / 2]:=by rw[Zy];rfl
      rw[e3];exact Zx hc
     ·have:=Xs.mp M8 ((l+r) / 2) ((l+r) / 2+j) hmk (by omega) (by omega)
      rw[Zy] at this;exact Uk (Zx hc) this
    case false =>
     simp only[Zd,Q7];refine Q8 ⟨rfl,(l+r) / 2+1,r,rfl,by omega,by omega,by omega,λ y hy=>?_,h2⟩;obtain⟨j,hj,rfl⟩:=Yw hy;rw[Uc] at hj;rw[Zy];rcases Qn j ((l+r) / 2) with h3|h3
     ·have:=Xs.mp M8 j ((l+r) / 2) (by omega) hmk h3
      rw[Zy (j:=k) (i:=(l+r) / 2)] at this;exact Uk this hc
     ·have:j=(l+r) / 2:=by omega
      subst this;rw[Zy];exact hc
  case ipost =>
   rintro c i7 ⟨rfl,l,r,rfl,hlk,h1,h2⟩;show wpS _ _ _ _ (do moveDown' (L.length+k) (L.length+l);pure (ForInStep.yield (none,()))) _ _
   rw[moveDown'_eq];have eT:T'=(T'.take k).take l++((T'.take k).drop l++(T'[k]::T'.drop (k+1))):=by
    rw[<- Zp,XV,<- Xr,XV]
   have lS:((T'.take k).drop l).length=k-l:=by rw[Ue,Uc];omega
   have lU:(L++(T'.take k).take l).length=L.length+l:=by rw[Za,Uc,Uc];omega
   have bl:=qbe (x:=T'[k]) (V:=T'.drop (k+1)) ((T'.take k).drop l) (L++(T'.take k).take l) arr (by rw[e,Zp];conv=>lhs;rw[eT]);rw[lU,lS] at bl;refine Q9 (Q5 (Q8 ⟨rfl,(T'.take k).take l++(T'[k]::((T'.take k).drop l++T'.drop (k+1))),bubble arr (L.length+k) (L.length+k-(L.length+l)),?_,?_,?_,rfl⟩))
   ·refine List.Perm.trans ?_ p
    conv=>rhs;rw[eT]
    exact(List.perm_middle.symm).append_left _
   ·rw[show L.length+k-(L.length+l)=k-l by omega];rw[show L.length+l+(k-l)=L.length+k by omega] at bl;rw[bl,Zp]
   ·rw[show min (k+1) n=k+1 by omega];have e3:((T'.take k).take l++(T'[k]::((T'.take k).drop l++T'.drop (k+1)))).take (k+1)=(T'.take k).take l++(T'[k]::(T'.take k).drop l):=by
     rw[show(T'.take k).take l++(T'[k]::((T'.take k).drop l++T'.drop (k+1)))=((T'.take k).take l++(T'[k]::(T'.take k).drop l))++T'.drop (k+1) by simp];rw[show k+1=((T'.take k).take l++(T'[k]::(T'.take k).drop l)).length by rw[Za,Ua,lS,Uc,Uc];omega,Jr]
    rw[e3];have rS:So κ ((T'.take k).take l++(T'.take k).drop l):=by rw[XV];exact M8
    have uF:=Yk.mp rS;refine Yk.mpr ⟨uF.1,Zb.mpr ⟨h2,uF.2.1⟩,λ y hy z hz=>?_⟩;rcases Jy.mp hz with h4|h4
    ·rw[h4];exact h1 y hy
    ·exact uF.2.2 y hy z h4
end
noncomputable def asc(lo a uT:Nat):SM (Option (Option Nat)×Nat):=forIn [a:uT] ((none,a):Option (Option Nat)×Nat) λ _ r=>do
 let c <- ltAt' (lo+r.2) (lo+r.2-1)
 match c with
 |some c=>if c then pure (.done (none,r.2)) else pure (.yield (none,r.2+1))
 |_=>pure (.done (some none,r.2))
abbrev Nk(κ:KeyKind)(l:List Keyed):Prop:=l.Pairwise λ x y=>ky κ x≠ky κ y
section
variable {prog:Program}{w:World}{A:Around}{E:Value->Shared->Prop}{s:Shared}{κ:KeyKind}{st:SortSt}
theorem qi0(hO:κ.OneLt){lo a:Nat}{L T:List Keyed}{Q:(Option (Option Nat)×Nat)->SortSt->Prop}(hk:kindOf st=oneType')(ea:(arrOf st).toList=L++T)(hL:L.length=lo)(ha:1<=a)(haT:a<=T.length)(kT:∀ x∈T,Kd κ x)(so:So κ (T.take a))(h:∀ n,a<=n->n<=T.length->So κ (T.take n)->(∀(hn:n<T.length),κ.klt (ky κ T[n]) (ky κ (T[n-1]'(by omega))))->Q (none,n) st):wpS (model prog w) A E s (asc lo a T.length) Q st:=by
 subst hL;unfold asc;refine Qr (I:=λ x c b0=>b0=st/\c=(none,x)/\So κ (T.take x)) ?step ?fin ⟨rfl,rfl,so⟩
 case fin =>
  rintro c b0 ⟨rfl,rfl,M8⟩;rw[show max a T.length=T.length by omega] at M8 ⊢;exact h T.length haT (Qs _) M8 (λ hn=>absurd hn (Jx _))
 case step =>
  rintro x c b0 aE hx ⟨rfl,rfl,M8⟩;dsimp only;have e2:(arrOf b0)[L.length+x-1]?=some (T[x-1]'(by omega)):=by
   rw[show L.length+x-1=L.length+(x-1) by omega];exact jj ea (by omega)
  refine Q9 (qaC hO hk (jj ea hx) e2 (kT _ (Ui _)) (kT _ (Ui _)) ?_);cases hc:κ.blt (ky κ T[x]) (ky κ (T[x-1]'(by omega)))
  case true =>
   simp only[Vd];exact Q8 (h x aE (by omega) M8 (λ _=>hc))
  case false =>
   simp only[Zd,Q7];exact Q8 ⟨rfl,rfl,kS qiZ M8 (by omega) hx hc⟩
theorem qd0(hO:κ.OneLt){lo:Nat}{L T:List Keyed}{Q:Option Nat->SortSt->Prop}(hk:kindOf st=oneType')(ea:(arrOf st).toList=L++T)(hL:L.length=lo)(h1:1<=T.length)(kT:∀ x∈T,Kd κ x)(nk:Nk κ T)(h:∀(m:Nat)(T':List Keyed)(arr:Array Keyed),T'.Perm T->arr.toList=L++T'->1<=m->m<=T.length->So κ (T'.take m)->Q (some m) (setArr st arr)):wpS (model prog w) A E s (countRun' lo T.length) Q st:=by
 rw[countRun'_eq];refine Q9 (show wpS (model prog w) A E s (asc lo 1 T.length) _ _ from qi0 hO hk ea hL (Qs _) h1 kT (qcl T) λ n n1 n2 so hn=>?_);dsimp only;by_cases hnn:n=T.length
 ·rw[Vh (by simpa using hnn)];exact Q8 (h n T (arrOf st) (Jl _) ea n1 n2 so)
 rw[Vi (by simpa using hnn)];by_cases hgt:n > 1
 ·rw[Vh hgt];have e0:(arrOf st)[lo]?=some T[0]:=by rw[<- hL];exact jj (i:=0) ea (by omega)
  have e1:(arrOf st)[lo+n-1]?=some (T[n-1]'(by omega)):=by
   rw[<- hL,show L.length+n-1=L.length+(n-1) by omega];exact jj ea (by omega)
  refine Q9 (qaC hO hk e0 e1 (kT _ (Ui _)) (kT _ (Ui _)) ?_);have c8:κ.blt (ky κ T[0]) (ky κ (T[n-1]'(by omega)))=true:=by
   cases hc:κ.blt (ky κ T[0]) (ky κ (T[n-1]'(by omega))) with
   |true=>rfl
   |false =>
    have h2:=Xs.mp so 0 (n-1) (by rw[Uc];omega) (by rw[Uc];omega) (by omega);rw[Zy,Zy] at h2;exact absurd (KeyOrd.kle_antisymm (O:=κ.toKeyOrd) h2 hc) (Xs.mp nk 0 (n-1) (by omega) (by omega) (by omega))
  rw[c8];dsimp only;rw[Vh rfl];exact Q8 (h n T (arrOf st) (Jl _) ea n1 n2 so)
 rw[Vi hgt];have hn1:n=1:=by omega
 subst hn1;refine Q9 (wpS_lift (Q1 ⟨rfl,?_⟩));refine Q9 (Va (Qr (I:=λ x c b0=>b0=st/\c=(none,x,0)/\(T.take x).Pairwise (λ x y=>kl κ y x))
  (Q:=λ c b0=>b0=st/\∃ x,c=(none,x,0)/\2<=x/\x<=T.length/\(T.take x).Pairwise (λ x y=>kl κ y x)) ?step ?fin ⟨rfl,rfl,?init⟩) ?post)
 case init =>
  exact kS (r:=λ x y=>kl κ y x) (λ x y z a b=>qiZ _ _ _ b a) (qcl T) (Qs _) (by omega) (Zx (hn (by omega)))
 case fin =>
  rintro c b0 ⟨rfl,rfl,hp⟩;rw[show max (1+1) T.length=T.length by omega] at hp ⊢;exact⟨rfl,_,rfl,by omega,Qs _,hp⟩
 case step =>
  rintro x c b0 aE hx ⟨rfl,rfl,hp⟩;dsimp only;have ex:(arrOf b0)[lo+x]?=some T[x]:=by rw[<- hL];exact jj ea hx
  have ey:(arrOf b0)[lo+x-1]?=some (T[x-1]'(by omega)):=by
   rw[<- hL,show L.length+x-1=L.length+(x-1) by omega];exact jj ea (by omega)
  refine Q9 (qaC hO hk ex ey (kT _ (Ui _)) (kT _ (Ui _)) ?_);cases hc:κ.blt (ky κ T[x]) (ky κ (T[x-1]'(by omega)))
  case true =>
   simp only[Vd];rw[Vi (by omega)];exact Q8 ⟨rfl,rfl,kS (r:=λ x y=>kl κ y x) (λ x y z a b=>qiZ _ _ _ b a) hp (by omega) hx (Zx hc)⟩
  case false =>
   simp only[Zd,Q7];refine Q9 (qaC hO hk ey ex (kT _ (Ui _)) (kT _ (Ui _)) ?_);have c8:κ.blt (ky κ (T[x-1]'(by omega))) (ky κ T[x])=true:=by
    cases iB:κ.blt (ky κ (T[x-1]'(by omega))) (ky κ T[x]) with
    |true=>rfl
    |false=>exact absurd (KeyOrd.kle_antisymm (O:=κ.toKeyOrd) hc iB) (Xs.mp nk (x-1) x (by omega) (by omega) (by omega))
   rw[c8];simp only[Vd];exact Q8 ⟨rfl,x,rfl,aE,by omega,hp⟩
 case post =>
  rintro c b0 ⟨rfl,x,rfl,x2,xT,hp⟩;dsimp only;rw[Vi (by omega)];rw[reverseSlice'_eq];have ml:=qeY (L:=L) (D:=T.take x) (R:=T.drop x) (arr:=arrOf b0) (by rw[XV];exact ea);rw[Uc,show min x T.length=x by omega,hL] at ml;refine Q9 (Q5 ?_);have pT:((T.take x).reverse++T.drop x).Perm T:=by
   refine((List.reverse_perm _).append_right _).trans (List.Perm.of_eq (XV x T))
  have lT:((T.take x).reverse++T.drop x).length=T.length:=pT.length_eq;rw[<- lT];refine Q9 (show wpS (model prog w) A E s (asc lo x ((T.take x).reverse++T.drop x).length) _ _ from qi0 (T:=(T.take x).reverse++T.drop x) hO hk ml hL (by omega) (by omega) (λ y hy=>kT y (pT.mem_iff.mp hy)) ?_ λ n n1 n2 so hn=>?_)
  ·have:x=(T.take x).reverse.length:=by rw[Y1,Uc];omega
   rw[Xc (by omega),XH (by omega)];exact List.pairwise_reverse.mpr hp
  ·exact Q8 (h n _ _ pT ml (by omega) (by omega) so)
end
inductive Rs(κ:KeyKind):Nat->List (Nat×Nat×Nat)->List Keyed->Prop
 |nil (o:Nat):Rs κ o [] []
 |cons {o n p:Nat} {X:List Keyed} {ps:List (Nat×Nat×Nat)} {T:List Keyed}:X.length=n->0<n->So κ X->Rs κ (o+n) ps T->Rs κ o ((o,n,p)::ps) (X++T)
theorem Rs.snoc{κ:KeyKind}{o:Nat}{ps:List (Nat×Nat×Nat)}{T X:List Keyed}{n p:Nat}(h:Rs κ o ps T)(hX:X.length=n)(hn:0<n)(so:So κ X):Rs κ o (ps++[(o+T.length,n,p)]) (T++X):=by
 induction h with
 |nil o=>
  have:=Rs.cons (p:=p) (o:=o) hX hn so (Rs.nil (κ:=κ) (o+n))
  simpa using this
 |cons e1 e2 e3 _ ih =>
  rw[Zp,Za,e1];refine Rs.cons e1 e2 e3 ?_;rw[<- J7];exact ih
theorem Rs.len{κ:KeyKind}{o:Nat}{ps:List (Nat×Nat×Nat)}{T:List Keyed}(h:Rs κ o ps T):ps.length<=T.length:=by
 induction h with
 |nil o=>exact Qs _
 |cons e1 e2 _ _ ih=>rw[Ua,Za];omega
theorem Rs.at2{κ:KeyKind}{o:Nat}{ps:List (Nat×Nat×Nat)}{T:List Keyed}(h:Rs κ o ps T):∀{i:Nat}{sa na pa sb nb pb:Nat},ps[i]?=some (sa,na,pa)->ps[i+1]?=some (sb,nb,pb) ->
  ∃ L X Y R,T=L++(X++(Y++R))/\o+L.length=sa/\X.length=na/\Y.length=nb/\0<na/\0<nb/\sb=sa+na/\So κ X/\So κ Y /\
   ∀ Z,Z.length=na+nb->So κ Z->Rs κ o ((ps.set i (sa,na+nb,pa)).eraseIdx (i+1)) (L++(Z++R)):=by
 induction h with
 |nil o=>intro i sa na pa sb nb pb h1 _;simp at h1
 | @cons o n p X ps T e1 e2 e3 hr ih =>
  intro i sa na pa sb nb pb h1 h2;cases i with
  |zero =>
   simp only[List.getElem?_cons_zero,Option.some.injEq,Prod.mk.injEq] at h1;obtain⟨rfl,rfl,rfl⟩:=h1;cases hr with
   |nil=>simp at h2
   | @cons _ n2 p2 Y ps T e4 e5 e6 hr =>
    simp only[List.getElem?_cons_succ,List.getElem?_cons_zero,Option.some.injEq,Prod.mk.injEq] at h2;obtain⟨rfl,rfl,rfl⟩:=h2;refine⟨[],X,Y,T,rfl,rfl,e1,e4,e2,e5,rfl,e3,e6,λ Z hZ so=>?_⟩;show Rs κ o ((o,n+n2,p)::ps) (Z++T)
    refine Rs.cons hZ (by omega) so ?_;rw[<- J7];exact hr
  |succ i =>
   rw[List.getElem?_cons_succ] at h1 h2;obtain⟨L,X',Y,R,rfl,a1,a2,a3,a4,a5,a6,a7,a8,a9⟩:=ih h1 h2;refine⟨X++L,X',Y,R,by rw[Zp],by rw[Za];omega,a2,a3,a4,a5,a6,a7,a8,λ Z hZ so=>?_⟩;rw[Zp];exact Rs.cons e1 e2 e3 (a9 Z hZ so)
theorem Rs.repower{κ:KeyKind}{o:Nat}{ps:List (Nat×Nat×Nat)}{T:List Keyed}(h:Rs κ o ps T)(q:Nat):∀ i,Rs κ o (ps.modify i λ x=>(x.1,x.2.1,q)) T:=by
 induction h with
 |nil o=>intro i;cases i <;> exact Rs.nil _
 |cons e1 e2 e3 hr ih =>
  intro i;cases i with
  |zero=>exact Rs.cons e1 e2 e3 hr
  |succ i=>exact Rs.cons e1 e2 e3 (ih i)
theorem Rs.one{κ:KeyKind}{ps:List (Nat×Nat×Nat)}{T:List Keyed}(h:Rs κ 0 ps T)(hl:ps.length<=1):So κ T:=by
 cases h with
 |nil=>exact List.Pairwise.nil
 |cons e1 e2 e3 hr =>
  cases hr with
  |nil=>rw[Uu];exact e3
  |cons _ _ _ _=>simp at hl
def Rt(κ:KeyKind)(a₀:List Keyed)(st:SortSt)(lo:Nat)(T:List Keyed):Prop:=
 kindOf st=oneType'/\failedOf st=none/\∃ D,(arrOf st).toList=D++T/\D.length=lo/\(D++T).Perm a₀/\Rs κ 0 (pendingOf st).toList D
section
variable {prog:Program}{w:World}{A:Around}{E:Value->Shared->Prop}{s:Shared}{κ:KeyKind}{st:SortSt}
theorem kU(hO:κ.OneLt){a₀ T:List Keyed}{lo i:Nat}{Q:Bool->SortSt->Prop}(k0:∀ x∈a₀,Kd κ x)(rt:Rt κ a₀ st lo T)(hi:i+1<(pendingOf st).size)(h:∀ b0,Rt κ a₀ b0 lo T->(pendingOf b0).size+1=(pendingOf st).size->Q true b0):wpS (model prog w) A E s (mergeAt' i) Q st:=by
 obtain⟨hk,hf,D,ea,hD,pm,rs⟩:=rt;obtain⟨⟨sa,na,pa⟩,e1⟩:∃ x,(pendingOf st).toList[i]?=some x:=⟨_,Xw (by rw[Yr];omega)⟩;obtain⟨⟨sb,nb,pb⟩,e2⟩:∃ x,(pendingOf st).toList[i+1]?=some x:=⟨_,Xw (by rw[Yr];omega)⟩;obtain⟨L,X,Y,R,rfl,a1,a2,a3,a4,a5,a6,a7,a8,a9⟩:=rs.at2 e1 e2;have kd:∀ x∈X++Y,Kd κ x:=λ x hx=>k0 x (pm.mem_iff.mp (by
  rcases Ur.mp hx with h|h <;> simp[h]))
 refine qeX hO (L:=L) (X:=X) (Y:=Y) (R:=R++T) hk hf (by rw[<- XT];exact e1) (by rw[<- XT];exact e2) a6 (by rw[ea];simp only[Zp]) (by omega) a2 a3 a4 a5 a7 a8 (λ x hx=>kd x (Yg _ hx)) (λ x hx=>kd x (XN _ hx)) λ Z arr g pz sz ez=>?_
 have lZ:Z.length=na+nb:=by rw[pz.length_eq,Za,a2,a3]
 refine h _ ⟨hk,hf,L++(Z++R),?_,?_,?_,?_⟩ ?_
 ·show arr.toList=_
  rw[ez];simp only[Zp]
 ·rw[<- hD];simp only[Za];omega
 ·refine List.Perm.trans ?_ pm;refine List.Perm.append_right T (List.Perm.append_left L ?_);rw[<- Zp X];exact pz.append_right R
 ·show Rs κ 0 (((pendingOf st).setIfInBounds i (sa,na+nb,pa)).eraseIdxIfInBounds (i+1)).toList _
  rw[show(((pendingOf st).setIfInBounds i (sa,na+nb,pa)).eraseIdxIfInBounds (i+1)).toList=((pendingOf st).toList.set i (sa,na+nb,pa)).eraseIdx (i+1) by simp[Array.eraseIdxIfInBounds,hi]];exact a9 Z lZ sz
 ·show(((pendingOf st).setIfInBounds i (sa,na+nb,pa)).eraseIdxIfInBounds (i+1)).size+1=_
  simp only[Array.eraseIdxIfInBounds,Array.size_setIfInBounds,hi,Vg,Array.size_eraseIdx];omega
theorem Rt.len{a₀ T:List Keyed}{lo:Nat}(h:Rt κ a₀ st lo T):lo+T.length=a₀.length:=by
 obtain⟨_,_,D,_,hD,pm,_⟩:=h
 have:=pm.length_eq
 rw[Za] at this;omega
theorem Rt.push{a₀ T:List Keyed}{lo n:Nat}(h:Rt κ a₀ st lo T)(n1:1<=n)(n2:n<=T.length)(so:So κ (T.take n)):Rt κ a₀ (setPending st ((pendingOf st).push (lo,n,0))) (lo+n) (T.drop n):=by
 obtain⟨b1,b2,D,b3,b4,b5,b6⟩:=h;refine⟨b1,b2,D++T.take n,?_,?_,?_,?_⟩
 ·show(arrOf st).toList=_
  rw[b3,Zp,XV]
 ·rw[Za,Uc];omega
 ·rw[Zp,XV];exact b5
 ·show Rs κ 0 ((pendingOf st).push (lo,n,0)).toList _
  rw[Zt]
  have:=b6.snoc (p:=0) (X:=T.take n) (n:=n) (by rw[Uc];omega) (by omega) so
  rw[Nat.zero_add,b4] at this;exact this
theorem Rt.repower{a₀ T:List Keyed}{lo q:Nat}{f:Nat×Nat×Nat->Nat×Nat×Nat}(h:Rt κ a₀ st lo T)(hf:f=λ x=>(x.1,x.2.1,q))(i:Nat):Rt κ a₀ (setPending st ((pendingOf st).modify i f)) lo T:=by
 subst hf;obtain⟨b1,b2,D,b3,b4,b5,b6⟩:=h;refine⟨b1,b2,D,b3,b4,b5,?_⟩;show Rs κ 0 ((pendingOf st).modify i λ x=>(x.1,x.2.1,q)).toList D
 rw[Array.toList_modify];exact b6.repower _ _
theorem qcO(hO:κ.OneLt){a₀:Array Keyed}{Q:Unit->SortSt->Prop}(k0:∀ x∈a₀.toList,Kd κ x)(nk:Nk κ a₀.toList)(hk:kindOf st=oneType')(hf:failedOf st=none)(hp:pendingOf st=#[])(ha:arrOf st=a₀)(h:∀ b0,(arrOf b0).Perm a₀->failedOf b0=none->So κ (arrOf b0).toList->Q () b0):wpS (model prog w) A E s sortRuns' Q st:=by
 have nkp:∀{l:List Keyed},l.Perm a₀.toList->Nk κ l:=λ p=>(p.pairwise_iff (λ{x y} hxy e=>hxy e.symm)).mpr nk
 rw[sortRuns'_eq];refine Q9 (Ve ?_);dsimp only;rw[ha];have rt0:Rt κ a₀.toList st 0 a₀.toList:=⟨hk,hf,[],by rw[ha];rfl,rfl,Jl _,by rw[hp];exact Rs.nil _⟩;refine Q9 (Va (Qr
  (I:=λ x (c:Option Unit×Nat) b0=>c.1=none/\∃ T,Rt κ a₀.toList b0 c.2 T/\(x<=c.2∨c.2=a₀.size))
  (Q:=λ c b0=>c.1=none/\Rt κ a₀.toList b0 a₀.size []) ?step ?fin ⟨rfl,_,rt0,.inl (Qs _)⟩) ?post)
 case fin =>
  rintro⟨v,lo⟩ b0 ⟨hv,T,rt,hx⟩
  have:=rt.len
  have hl0:a₀.toList.length=a₀.size:=Yr;change lo+_=_ at this
  change max 0 a₀.size<=lo∨lo=a₀.size at hx
  have e:lo=a₀.size:=by omega
  have e2:T=[]:=XA.mp (by omega);subst e;subst e2;exact⟨hv,rt⟩
 case step =>
  rintro x ⟨v,lo⟩ b0 _ hx ⟨hv,T,rt,sH⟩;have cM:v=none:=hv;subst cM;change x<=lo∨lo=a₀.size at sH
  change Rt κ a₀.toList b0 lo T at rt
  dsimp only;have B3:=rt.len;have hl0:a₀.toList.length=a₀.size:=Yr;by_cases hge:lo ≥ a₀.size
  ·rw[Vh hge];have e:lo=a₀.size:=by omega
   have e2:T=[]:=XA.mp (by omega);subst e;subst e2;exact Q8 ⟨rfl,rt⟩
  rw[Vi hge];obtain⟨G1,hf',D,ea,hD,pm,rs⟩:=rt;have lT:a₀.size-lo=T.length:=by omega
  have kT:∀ x∈T,Kd κ x:=λ x hx=>k0 x (pm.mem_iff.mp (XN _ hx))
  have nT:Nk κ T:=(Yk.mp (nkp pm)).2.1;rw[lT];refine Q9 (qd0 hO G1 ea hD (by omega) kT nT λ m T1 eJ p1 ea1 m1 m2 uG=>?_);dsimp only;have l1:T1.length=T.length:=p1.length_eq;have sA:∀(T2:List Keyed)(O7:Array Keyed),T2.Perm T->O7.toList=D++T2->Rt κ a₀.toList (setArr b0 O7) lo T2:=λ T2 O7 p2 tF=>⟨G1,hf',D,tF,hD,(p2.append_left D).trans pm,rs⟩
  by_cases c8:m<minRun' a₀.size a₀.size 0
  ·rw[Vh c8];refine Q9 (wpS_lift (Q1 ⟨rfl,?_⟩));refine Q9 (qcm hO (st:=setArr b0 eJ) G1 ea1 hD (n:=min T.length (minRun' a₀.size a₀.size 0)) (by omega) (by omega) (λ y hy=>kT y (p1.mem_iff.mp hy)) uG (by omega) λ T2 O7 p2 tF rS=>?_);simp only[J5,Zd,Q7];have l2:T2.length=T.length:=(p2.trans p1).length_eq;refine Q9 (Ve ?_);cases(pendingOf (setArr b0 O7)).back? with
   |none =>
    dsimp only;exact Q9 (Q5 (Q8 ⟨rfl,_,Rt.push (sA T2 O7 (p2.trans p1) tF) (by omega) (by omega) rS,.inl (by show x+1<=lo+min T.length (minRun' a₀.size a₀.size 0);omega)⟩))
   |some u =>
    obtain⟨s1,k1,z⟩:=u;dsimp only;refine Q9 (Va (Qr (I:=λ _ (c:Option Unit×Unit) i7=>c=(none,())/\Rt κ a₀.toList i7 lo T2) (Q:=λ c i7=>c=(none,())/\Rt κ a₀.toList i7 lo T2) ?cstep (λ _ _ hh=>hh) ⟨rfl,sA T2 O7 (p2.trans p1) tF⟩) ?cpost)
    case cstep =>
     rintro y c i7 _ _ ⟨rfl,L0⟩;refine Q9 (Ve ?_);by_cases h2:(pendingOf i7).size > 1
     ·rw[Vh h2];obtain⟨⟨u,v,z⟩,e⟩:∃ x,(pendingOf i7)[(pendingOf i7).size-2]?=some x:=⟨_,getElem?_pos _ _ (by omega)⟩;rw[e];dsimp only;by_cases h3:z<=power' a₀.size (2*s1+k1) (2*s1+k1+k1+min T.length (minRun' a₀.size a₀.size 0)) a₀.size
      ·rw[Vh h3];exact Q8 ⟨rfl,L0⟩
      ·rw[Vi h3];refine Q9 (kU hO k0 L0 (by omega) λ E5 mP _=>?_);simp only[J5,Zd,Q7];exact Q8 ⟨rfl,mP⟩
     ·rw[Vi h2];exact Q8 ⟨rfl,L0⟩
    case cpost =>
     rintro c i7 ⟨rfl,L0⟩;dsimp only;refine Q9 (Q5 ?_);refine Q9 (Q5 (Q8 ⟨rfl,_,Rt.push (L0.repower rfl _) (by omega) (by omega) rS,.inl (by show x+1<=lo+min T.length (minRun' a₀.size a₀.size 0);omega)⟩))
  ·rw[Vi c8];refine Q9 (Ve ?_);cases(pendingOf (setArr b0 eJ)).back? with
   |none =>
    dsimp only;exact Q9 (Q5 (Q8 ⟨rfl,_,Rt.push (sA T1 eJ p1 ea1) m1 (by omega) uG,.inl (by show x+1<=lo+m;omega)⟩))
   |some u =>
    obtain⟨s1,k1,z⟩:=u;dsimp only;refine Q9 (Va (Qr (I:=λ _ (c:Option Unit×Unit) i7=>c=(none,())/\Rt κ a₀.toList i7 lo T1) (Q:=λ c i7=>c=(none,())/\Rt κ a₀.toList i7 lo T1) ?cstep (λ _ _ hh=>hh) ⟨rfl,sA T1 eJ p1 ea1⟩) ?cpost)
    case cstep =>
     rintro y c i7 _ _ ⟨rfl,L0⟩;refine Q9 (Ve ?_);by_cases h2:(pendingOf i7).size > 1
     ·rw[Vh h2];obtain⟨⟨u,v,z⟩,e⟩:∃ x,(pendingOf i7)[(pendingOf i7).size-2]?=some x:=⟨_,getElem?_pos _ _ (by omega)⟩;rw[e];dsimp only;by_cases h3:z<=power' a₀.size (2*s1+k1) (2*s1+k1+k1+m) a₀.size
      ·rw[Vh h3];exact Q8 ⟨rfl,L0⟩
      ·rw[Vi h3];refine Q9 (kU hO k0 L0 (by omega) λ E5 mP _=>?_);simp only[J5,Zd,Q7];exact Q8 ⟨rfl,mP⟩
     ·rw[Vi h2];exact Q8 ⟨rfl,L0⟩
    case cpost =>
     rintro c i7 ⟨rfl,L0⟩;dsimp only;refine Q9 (Q5 ?_);refine Q9 (Q5 (Q8 ⟨rfl,_,Rt.push (L0.repower rfl _) m1 (by omega) uG,.inl (by show x+1<=lo+m;omega)⟩))
 case post =>
  rintro⟨v,lo⟩ b0 ⟨hv,rt⟩;have cM:v=none:=hv;subst cM;dsimp only;have fin:∀ b0,Rt κ a₀.toList b0 a₀.size []->(pendingOf b0).size<=1->Q () b0:=by
   rintro b0 ⟨b1,b2,D,b3,b4,b5,b6⟩ hs;rw[Uu] at b3 b5;exact h b0 (Array.perm_iff_toList_perm.mpr (by rw[b3];exact b5)) b2 (by rw[b3];exact b6.one (by rw[Yr];exact hs))
  have hsz:(pendingOf b0).size<=a₀.size:=by
   obtain⟨b1,b2,D,b3,b4,b5,b6⟩:=rt
   have:=b6.len
   rw[Yr] at this;omega
  refine Q9 (Va (Qr (I:=λ x (c:Option Unit×Unit) i7=>c=(none,())/\Rt κ a₀.toList i7 a₀.size []/\((pendingOf i7).size<=1∨(pendingOf i7).size+x<=a₀.size))
   (Q:=λ c i7=>c=(none,())/\Rt κ a₀.toList i7 a₀.size []/\(pendingOf i7).size<=1) ?step2 ?fin2 ⟨rfl,rt,.inr hsz⟩) ?post2)
  case post2 =>
   rintro c i7 ⟨rfl,L0,hs⟩;exact Q8 (fin i7 L0 hs)
  case fin2 =>
   rintro c i7 ⟨rfl,L0,hs⟩;exact⟨rfl,L0,by omega⟩
  case step2 =>
   rintro x c i7 _ hx ⟨rfl,L0,hs⟩;refine Q9 (Ve ?_);by_cases h1:(pendingOf i7).size<=1
   ·rw[Vh h1];exact Q8 ⟨rfl,L0,h1⟩
   ·rw[Vi h1];refine Q9 (kU hO k0 L0 ?_ λ E5 mP hs3=>?_)
    ·repeat' split
     all_goals omega
    ·simp only[J5,Zd,Q7];exact Q8 ⟨rfl,mP,.inr (by omega)⟩
end
end FsS
namespace FsS
open PySem PyProof.Rows PySem.Spec
section
variable {prog:Program}{w:World}{A:Around}{E:Value->Shared->Prop}{s:Shared}
theorem So.to{κ:KeyKind}{xs:Array Keyed}(h:So κ xs.toList):SortedToK κ xs xs.size:=by
 intro i j oI hj;have kk:∀ k,(hk:k<xs.size)->KK κ xs k=ky κ xs[k]:=λ k hk=>by
  unfold KK ky;rw[getElem?_pos xs k hk]
 rw[kk i (by omega),kk j hj];rcases Qn i j with h1|h1
 ·have:=Xs.mp h i j (by rw[Yr];omega) (by rw[Yr];omega) h1
  simpa using this
 ·have:i=j:=by omega
  subst this;exact U5 _
theorem nk_strs:∀{vs:List Value}{ss:List Str},StrsAre vs ss->ss.Nodup->Nk strKind (vs.zip vs)
 |_,_,.nil,_=>List.Pairwise.nil
 |_,_,.cons (ys:=ss) x t h,nd=>by
  have K1:=Uv.mp nd;rw[Zc];refine Zb.mpr ⟨λ p hp e=>?_,nk_strs h K1.2⟩;have hm:=(mem_zip_self hp).2;obtain⟨y,u,ey⟩:=h.all _ hm;have hy:y∈ss:=by
   rw[<- h.strs];exact Ql.mpr ⟨p.1,hm,by rw[ey];rfl⟩
  have e1:ky strKind p=y.cps.toList:=by unfold ky;rw[ey];rfl
  have e2:x.cps.toList=y.cps.toList:=(show ky strKind (Value.str x t,Value.str x t)=_ from rfl).symm.trans (e.trans e1);have e3:x=y:=by
   cases x;cases y
   congr 1
   exact Array.toList_inj.mp e2
  exact K1.1 (e3 ▸ hy)
theorem sort_method{κ:KeyKind}(one:κ.OneLt){l:Addr}{vs:List Value}{c:Nat}{R:Fin->Shared->Prop}(at_:s.heap.get? l=some (seqObj "list" vs.toArray c))(ks:KeysOf κ (pairsOf vs))(un:Nk κ (pairsOf vs).toList)(kind:∀ u v r,vs=u::v::r->keyKind' (u::v::r).toArray=pure oneType')(few:vs.length<100000)(fin:∀ b0:SortSt,(arrOf b0).Perm (pairsOf vs)->SortedToK κ (arrOf b0) (pairsOf vs).size->R (.done (.ret .none)) { s with heap:=sortedHeap s.heap l vs ((arrOf b0).map (·.2)) }):
  wpAny (model prog w) A (Builtin.«list.sort» ⟨[.ref l],[]⟩) R E s:=by
 by_cases short:vs.length<64
 ·exact list_sort_treeK one at_ ks kind short fin
 have lt0:l<s.heap.objs.size:=Qd at_;rw[list_sort_plain];refine Qz (listItems_at at_ rfl (Qz (listUpdate_at at_ rfl ?_ (by rw[sizeLine_eq,Zm];omega))));obtain⟨e,h1⟩:∃ e,(s.heap.update l (Obj.mapSeq λ _=>#[])).get? l=some (seqObj "list" #[] e):=⟨_,get?_update_seq at_ (λ _=>#[])⟩;refine Qz (seqEpoch_at h1 rfl (Qz (wpAny_newTuple (Qz (Qc (J8 ?_))))));have h2:(((s.heap.update l (Obj.mapSeq λ _=>#[])).push (seqObj "tuple" vs.toArray 0)).push (seqObj "list" #[] 0)).get? l=some (seqObj "list" #[] e):=
  (Heap.get?_push_ne _ _ _ (by rw[size_push',Heap.size_update];exact Qe (Zs lt0))).trans ((Heap.get?_push_ne _ _ _ (by rw[Heap.size_update];exact Qe lt0)).trans h1)
 show wpAny (model prog w) A _ R E { s with heap:=((s.heap.update l (Obj.mapSeq λ _=>#[])).push (seqObj "tuple" vs.toArray 0)).push (seqObj "list" #[] 0) }
 have big:¬ vs.toArray.size<2:=by simp;omega
 dsimp only;rw[Vi big,Vi big];obtain⟨u,v,r,rfl⟩:∃ u v r,vs=u::v::r:=by
  match vs,short with
  | [],h=>simp at h
  | [_],h=>simp at h
  |u::v::r,_=>exact⟨u,v,r,rfl⟩
 rw[kind u v r rfl];refine Qz (Q0 (Qz (Qy (qcO one (a₀:=pairsOf (u::v::r)) (st:=SortSt.mk' oneType' (pairsOf (u::v::r)) #[] 7 none)
  (Q:=λ _ b0=>(arrOf b0).Perm (pairsOf (u::v::r))/\failedOf b0=none/\So κ (arrOf b0).toList) ks un rfl rfl rfl rfl λ b0 p f o=>⟨p,f,o⟩) ?_ λ _ _ z=>z)))
 rintro⟨⟨⟩,b0⟩ s' ⟨rfl,p,f,o⟩;have sz:(arrOf b0).size=(u::v::r).length:=p.size_eq.trans (pairsOf_size _);dsimp only;refine Qz (seqEpoch_at h2 rfl (Qz (listUpdate_at h2 rfl ?_ (hsz2:=by rw[Array.size_map,sz,sizeLine_eq];omega))));rw[f];simp only[Z7,Zd,Q7];refine Q0 (fin b0 p ?_);rw[<- p.size_eq];exact o.to
end
end FsS
namespace L2
open PySem PySem.Spec PyProof.Rows
section
variable {prog:Program}{w:World}{A:Around}{E:Value->Shared->Prop}{s:Shared}
theorem qhD{S:Addr}{ys:List Str}{Q:Value->Shared->Prop}(hh:A.handled=none)(hS:qM prog w s.heap S ys)(few:ys.length<4096)(un:ys.Nodup)(h:∀(l:Addr)(h':Heap)(tk e:Nat)(d:Drawn)(out:Array Value)(A9:List Str),(∀ b o,s.heap.get? b=some o->h'.get? b=some o)->s.heap.objs.size<=l->h'.get? l=some (seqObj "list" out e)->StrsAre out.toList A9->A9.Perm ys->sortedS A9=true ->
   Q (.ref l) { s with heap:=h',toks:=tk,drawn:=d }):wpAny (model prog w) A (call (.builtin "sorted") [.ref S]) Q E s:=by
 refine Xp kind_sorted plain_sorted entry_sorted (args_sorted1 _) ?_;unfold Builtin.«sorted»;refine Qz (m:=checkCount "sorted" 1 1 _) (Q0 ?_);refine Qz (qdd (by simpa using hh) hS λ h1 tk d vs zs hk B3 hz hA=>?_);have nz:zs.Nodup:=hz.nodup_iff.mpr un;have hl:vs.length<100000:=by
  have:vs.length=zs.length:=hA.length
  rw[this,hz.length_eq];omega
 refine Qz (Qc ?_);have cV:(h1.push (seqObj "list" vs.toArray 0)).get? h1.objs.size=some (seqObj "list" vs.toArray 0):=Ys _ rfl;refine Qz (J8 (Um slot_list_sort ⟨_,cV,rfl⟩ entry_list_sort (FsS.sort_method strKind_oneLt cV hA.keysOf (by rw[pairsOf_toList];exact FsS.nk_strs hA nz) (λ v₁ v₂ rest e=>keyKind_strs (by rw[<- e];exact hA)) hl λ b0 a1 a2=>⟨_,rfl,?_⟩) (args_list_sort _)));obtain⟨A9,b1,b2,b3⟩:=sorted_out_str hA a1 a2;obtain⟨e,he⟩:=sortedHeap_at (out:=(arrOf b0).map (·.2)) cV;refine Q0 ⟨_,rfl,h h1.objs.size _ tk e d _ A9 (λ b o q=>?_) (Qg B3) he b1 (b2.trans hz) b3⟩;have q1:=hk b o q;have hb:=Qd q1;rw[sortedHeap_old (Qe hb) (by rw[Jj];exact Zs hb)];exact XD _ q1
theorem qhE{l:Addr}{vs:List Value}{ss:List Str}{Q:Value->Shared->Prop}(hl:s.heap.IsList l vs.toArray)(hA:StrsAre vs ss)(few:vs.length<4096)(un:ss.Nodup)(h:∀(out:Array Value)(A9:List Str),StrsAre out.toList A9->A9.Perm ss->sortedS A9=true->Q (.ref (s.heap.objs.size+1)) { s with heap:=sortedAll s.heap vs out }):
  wpAny (model prog w) A (call (.builtin "sorted") [.ref l]) Q E s:=by
 refine Xp kind_sorted plain_sorted entry_sorted (args_sorted1 _) ?_;unfold Builtin.«sorted»;refine Qz (m:=checkCount "sorted" 1 1 _) (Q0 ?_);refine Qz (collect_list hl (Qz (Qc ?_)));generalize hg:(s.heap.push (seqObj "list" #[] 0)).update s.heap.objs.size (Obj.mapSeq (·++vs.toArray))=g;have sz:g.objs.size=s.heap.objs.size+1:=by rw[<- hg,Heap.size_update,size_push']
 have at_:(g.push (seqObj "list" vs.toArray 0)).get? (s.heap.objs.size+1)=some (seqObj "list" vs.toArray 0):=by rw[<- sz];exact Ys _ rfl
 show wpAny _ _ _ _ _ { s with heap:=g.push (seqObj "list" vs.toArray 0) }
 rw[sz];refine Qz (J8 (Um slot_list_sort ⟨_,at_,rfl⟩ entry_list_sort (FsS.sort_method strKind_oneLt at_ hA.keysOf (by rw[pairsOf_toList];exact FsS.nk_strs hA un) (λ v₁ v₂ rest e=>keyKind_strs (by rw[<- e];exact hA)) (by omega) λ b0 a1 a2=>⟨_,rfl,?_⟩) (args_list_sort _)));obtain⟨A9,b1,b2,b3⟩:=sorted_out_str hA a1 a2
 have:=h _ A9 b1 b2 b3
 refine Q0 ⟨_,rfl,?_⟩;subst hg;exact this
end
section
variable {X:Cx}
theorem qcn(hc:X.calm=true):y3 X (.builtin "sorted") (λ xs H Q=>∃ p ys,xs=[.ref p]/\H p=some (qdO X.prog X.w p ys)/\ys.length<4096/\ys.Nodup/\∀ l,H l=none->Q (.ref l) (upd H l (.lst ((qao ys).map V.str)))):=by
 intro pins s σ H xs us Q I r h;obtain⟨p,ys,rfl,hp,aF,un,q⟩:=h;obtain⟨u,rfl,ru⟩:=yg r;cases ru
 obtain⟨l7,B4,hS⟩:=I.set hp;refine qhD (I.ok.hd hc) hS (by rw[B4.length_eq];exact aF) (B4.nodup_iff.mpr un) λ l h' tk e d out A9 hk B3 he h1 h2 h3=>?_
 have es:=qdM (h2.trans B4) h3;subst es;have hf:=I.hok.fresh B3;refine⟨.ref l,upd H l (.lst ((qao ys).map V.str)),I.call' (s':={ s with heap:=h',toks:=tk,drawn:=d }) (ch:=[]) rfl (Un.laid hk B3 hf) (I.hok.laid hk B3 ⟨?_,out.toList,e,jI h1,he⟩) I.bare (λ _ z=>nomatch z),rfl,q _ hf⟩
 have:(qao ys).length=ys.length:=(h2.trans B4).length_eq
 rw[Ut,this];exact Qg (Y6 aF (by decide))
theorem qco:y3 X (.builtin "sorted") (λ xs H Q=>∃ p ss,xs=[.ref p]/\SqL X.K H p (ss.map V.str)/\ss.length<4096/\ss.Nodup/\∀ l,H l=none->Q (.ref l) (upd H l (.lst ((qao ss).map V.str)))):=by
 intro pins s σ H xs us Q I r h;obtain⟨p,ss,rfl,hq,aF,un,q⟩:=h;obtain⟨u,rfl,ru⟩:=yg r;cases ru
 obtain⟨its,rv,pl,hz⟩:=I.list hq;have hl:=rv.length;rw[Ut] at hl;refine qhE pl.isList (jH rv) (by omega) un λ out A9 h1 h2 h3=>?_
 obtain⟨e,he⟩:=sortedAll_at s.heap its out;have es:=qdM h2 h3;subst es;refine⟨.ref (s.heap.objs.size+1),_,I.laid (a:=s.heap.objs.size+1) (o:=.lst ((qao ss).map V.str)) (t':=s.toks) (λ _ _=>sortedAll_old) (Qu _) ⟨?_,out.toList,e,jI h1,he⟩,rfl,q _ (I.hok.fresh (Qu _))⟩;rw[Ut] at hz ⊢;rw[h2.length_eq];exact hz
end
theorem Draws.strAny{prog:Program}{w:World}{A:Around}(hh:A.handled=none)(it:Addr)(x:Str)(t:Tok):
  Draws prog w A it [it] x.cps.size (λ i v=>∃ c u,x.cps[i]?=some c/\v=.str ⟨#[c]⟩ u) (λ i h=>h.IsStrIter it (strIterType x) x t i):=by
 unfold strIterType;cases ha:x.cps.all (·<128) with
 |true=>rw[Vh (by simpa using ha)];exact Draws.strAscii hh it x t
 |false=>rw[Vi (by simpa using ha)];exact Draws.strWide hh it x t
noncomputable def qhF(z:Str):It2:=⟨λ i H=>i<z.cps.size,λ i H ys H'=>H'=H/\ys=[.int i,sgn z i],λ i H=>i=z.cps.size⟩
def qlL(z:Str)(t:Tok)(e it:Addr)(i:Nat)(h:Heap):Prop:=(∃ L7,IsEnum h e it i L7)/\h.IsStrIter it (strIterType z) z t i
theorem qf3{P:Program}{w:World}{K:W.Frag}{es:List Expr}{k:Nat}{pos:Pos}(z:Str)(t:Tok)(e it:Addr)(E7:e≠it):Turn2 P w K (.Tuple es k pos) (qhF z) [e,it] e (qlL z t e it) where
 obj:=λ i h st b hb=>by
  obtain⟨⟨L7,he⟩,o,ho,c,d⟩:=st;have hb:b=e∨b=it:=by simpa using hb
  rcases hb with y|y
  ·subst y;exact⟨_,he,λ v q=>by cases q⟩
  ·subst y;exact⟨o,ho,λ v q=>by rw[d] at q;cases q⟩
 keep:=λ i h h' st k=>by
  obtain⟨⟨L7,he⟩,n8⟩:=st;obtain⟨o,ho,r⟩:=n8;exact⟨⟨L7,k e (by simp) _ he⟩,o,k it (by simp) o ho,r⟩
 item:=by
  intro X hP hw hK hc i pins s σ H E I hf st hg;subst hP hw hK;have c8:i<z.cps.size:=hg;obtain⟨⟨L7,he⟩,n8⟩:=st;have fe:=hf e (by simp);have fi:=hf it (by simp);refine wpAny_pyNext_enum_itemD (Draws.strAny (A:=X.A.in1) (by simpa using I.ok.hd hc) it z t) he n8 c8 E7 (by simpa using E7) λ u h' tk hP bQ C6 ht hsz hk=>?_
  refine⟨s.heap.objs.size,rfl,wpAny_letOwnedTupleGo_enum bQ λ h2 xZ p7=>?_⟩;replace p7:Heap.SameBut e h' h2:=p7;have cX:e<s.heap.objs.size:=Qd he;have k2:∀ b o,b≠e->b≠it->s.heap.get? b=some o->h2.get? b=some o:=λ b o h1 h3 q=>p7.extBut b o h1 (hk b o h1 h3 q)
  have I1:Inv X pins σ H { s with heap:=h2,toks:=tk+1 }:=by
   refine I.step (g':=s.gens) (d':=s.drawn) (ch:=[e,it]) (λ b hb=>?_) (λ b o _ _ c9 q _=>k2 b o (λ z=>c9 (by simp[z])) (λ z=>c9 (by simp[z])) q)
    (λ b o _ _ c9 q _=>⟨o.slots,k2 b o (λ z=>c9 (by simp[z])) (λ z=>c9 (by simp[z])) q⟩) (λ _ _ _ _ n=>n) (λ b o c9 q=>⟨o,k2 b o (λ z=>c9 (by simp[z])) (λ z=>c9 (by simp[z])) q⟩)
    (λ _ _ q=>q) (λ _ _ _ q=>q) (λ b ps q=>⟨#[],by rw[q];simp⟩) (λ m hm=>?_) (λ b u q=>?_) I.bare
   ·have hb:b=e∨b=it:=by simpa using hb
    rcases hb with z|z
    ·subst z;exact⟨fe.2.2.2.1,fe.2.1,fe.2.2.2.2.1,fe.2.2.2.2.2⟩
    ·subst z;exact⟨fi.2.2.2.1,fi.2.1,fi.2.2.2.2.1,fi.2.2.2.2.2⟩
   ·obtain⟨o,p6,ep,ho,r⟩:=hm;exact⟨o,p6,ep,k2 _ o (Vb fe.2.1) (Vb fi.2.1) ho,r⟩
   ·refine(I.hok b u q).stay (λ c v c9 z=>k2 c v (λ y=>?_) (λ y=>?_) z) (λ _ z=>z) λ _ _ z=>z
    ·rcases c9 with y' | y'
     ·rw[<- y',y,fe.1] at q;cases q
     ·rw[y,fe.1] at y';cases y'
    ·rcases c9 with y' | y'
     ·rw[<- y',y,fi.1] at q;cases q
     ·rw[y,fi.1] at y';cases y'
  obtain⟨c,u',ec,rfl⟩:=hP;obtain⟨o3,ho3,r3⟩:=C6;refine⟨[.int i,sgn z i],[.int i tk,.str ⟨#[c]⟩ u'],H,I1,⟨_,(p7.extBut _ _ (Qh cX) ht),rfl,_,rfl⟩,.cons ⟨_,rfl⟩ (.cons (qfO (v:=.str ⟨#[c]⟩ u') ⟨c,u',ec,rfl⟩) .nil),⟨rfl,rfl⟩,⟨⟨.str ⟨#[c]⟩ u',?_⟩,o3,p7.extBut _ _ (Vb E7) ho3,r3⟩,λ b hb=>(hf b hb).1⟩
  ·have:((i:Int)+1)=((i+1:Nat):Int):=by omega
   rw[<- this];exact xZ
 done:=by
  intro X hP hw hK hc i pins s σ H E I hf st hg;subst hP hw hK;have hi:i=z.cps.size:=hg;subst hi;obtain⟨⟨L7,he⟩,n8⟩:=st;obtain⟨f0,f1,f2,f3,f4,f5⟩:=hf it (by simp);exact wpAny_pyNext_enum_endD (Draws.strAny (A:=X.A.in1) (by simpa using I.ok.hd hc) it z t) he n8 λ h' eb=>⟨rfl,I.turned (t':=s.toks) (λ b o hb e=>eb b o hb e) f0 f1 f3 f4 f5⟩
 self:=λ A i s Q E st h=>by
  obtain⟨⟨L7,he⟩,n8⟩:=st;exact Z2 he h
def qlM(ta:TA):TI2:=λ σ H R=>ta σ H λ vs H1=>∃ z,vs=[.str z]/\R (qhF z) H1
theorem qcp{X:Cx}{es:List Expr}{k:Nat}{x9:Pos}{l:Expr}{ta:TA}{p pos:Pos}(hg:Gl X "enumerate")(hm:X.mg "enumerate"=none)(ha:PA X [l] ta)(hs:starEach [l] X.env=[(false,eval l X.env)]:=by rfl):
  PI2 X (.Tuple es k x9) (.Call (.Name "enumerate" p) [l] [] pos) (qlM ta):=by
 intro pins s σ H R I h;refine qb3 (R:=λ vs H1=>∃ z,vs=[.str z]/\R (qhF z) H1) hg hm boot_enumerate ha I h (λ us s1 vs H1 I1 r1 q1=>?_) (hs:=hs);obtain⟨z,e,q⟩:=q1;subst e;obtain⟨u,rfl,t,rfl⟩:=yg r1;refine call_enumerate_str λ h' he n8 hsz hk=>Z2 he ?_
 refine⟨s1.heap.objs.size+1,[s1.heap.objs.size+1,s1.heap.objs.size],_,_,H1,rfl,I1.kept (t':=s1.toks) hk,qf3 z t _ _ (Nat.succ_ne_self _),⟨⟨_,he⟩,n8⟩,λ b hb=>?_,q⟩;have hb:b=s1.heap.objs.size+1∨b=s1.heap.objs.size:=by simpa using hb
 rcases hb with z|z
 ·subst z;exact I1.fpOk (Qu _) (I1.hok.fresh (Qu _))
 ·subst z;exact I1.fpOk (Qs _) (I1.hok.fresh (Qs _))
end L2
namespace Fs
structure Ok9(ls:List Nat):Prop where
 rise:ls.Pairwise (·<·)
 len:ls.length<=9
end Fs
namespace L2
open PySem PySem.Spec PyProof.Rows
theorem qdi{z:Str}{t:TGs}{tb:TS}{D:Ends}{σ:St}{H:Hp}(Pv:Nat->St->Hp->Prop)(h0:Pv 0 σ H)(hs:∀ i σ H,i<z.cps.size->Pv i σ H->t [.int i,sgn z i] σ H λ σ2 H2=>tb { D with nx:=Pv (i+1),ct:=Pv (i+1),bk:=D.nx } σ2 H2)(hd:∀ σ H,Pv z.cps.size σ H->D.nx σ H):
  ∃ W:Nat->Nat->St->Hp->Prop,(∃ m,W 0 m σ H)/\∀ i m σ H,W i m σ H ->
   ((qhF z).stop i H/\D.nx σ H)∨((qhF z).go i H/\∃ N:St->Hp->Prop,(∀ σ' H',N σ' H'->∃ m',m'<m/\W (i+1) m' σ' H')/\∀ zs H',(qhF z).yld i H zs H'->zs.length=2/\t zs σ H' λ σ2 H2=>tb { D with nx:=N,ct:=N,bk:=D.nx } σ2 H2):=by
 refine⟨λ i m σ H=>m=z.cps.size-i/\i<=z.cps.size/\Pv i σ H,⟨z.cps.size,by simp,Qt _,h0⟩,?_⟩;rintro i m σ H ⟨rfl,hi,p⟩;by_cases c8:i<z.cps.size
 ·refine .inr ⟨c8,Pv (i+1),λ σ' H' p'=>⟨z.cps.size-(i+1),by omega,rfl,c8,p'⟩,λ zs H' y=>?_⟩;obtain⟨e,ez⟩:=y;subst e ez;exact⟨rfl,hs i σ _ c8 p⟩
 ·have e:i=z.cps.size:=by omega
  subst e;exact .inl ⟨rfl,hd σ H p⟩
end L2
namespace Fs
theorem qhG(F G:List Pr):(added F G).length<=F.length+G.length:=by
 unfold added;rw[(zQ _).length_eq,qey,Za]
 have:=XZ (λ p=>!G.contains p) F
 have:=XZ (λ p=>!F.contains p) G
 omega
noncomputable def uni(a b:Pr):Pr:=qG [a++b]
theorem qgS{a b:Pr}{c:Nat}:c∈uni a b ↔ c∈a∨c∈b:=by unfold uni;rw[jf];simp
end Fs
namespace L2
open PySem PySem.Spec PyProof.Rows
end L2
namespace L2
open PySem PySem.Spec PyProof.Rows PySem.StrLaws PySem.Builtin PySem.Builtin.Str
noncomputable def qd1(c:Nat):Nat->List Nat->List Nat
 |_,[]=>[]
 |k,x::l=>if x=c then k::qd1 c (k+1) l else qd1 c (k+1) l
end L2
namespace L2
open PySem PySem.Spec PyProof.Rows
end L2
namespace Fs
theorem qgT{α:Type}[DecidableEq α](f:α->Nat):∀{l m:List α},l.Nodup->(∀ x∈l,x∈m)->(l.map f).sum<=(m.map f).sum
 | [],_,_,_=>Qt _
 |a::l,m,nd,h=>by
  have K1:=Uv.mp nd;have ha:a∈m:=h a Y7;have ih:=qgT f (l:=l) (m:=m.erase a) K1.2 λ x hx=>(List.mem_erase_of_ne (λ(e:x=a)=>K1.1 (by rw[<- e];exact hx))).mpr (h x (Yf _ hx))
  have e:(m.map f).sum=((a::m.erase a).map f).sum:=by
   have:=(List.perm_cons_erase ha).map f
   clear ih;generalize m.map f=u at this;generalize (a::m.erase a).map f=v at this;induction this with
   |nil=>rfl
   |cons x _ ih=>rw[J6,J6,ih]
   |swap x y l=>rw[J6,J6,J6,J6];omega
   |trans _ _ a b=>exact a.trans b
  rw[e,Jz,Jz,J6,J6];omega
theorem qaD(l:Nat):∀ P:List Pr,((P.map (l::·)).map List.length).sum=(P.map List.length).sum+P.length
 | []=>rfl
 |p::P=>by
  have ih:=qaD l P;rw[Jz,Jz,J6,Jz,J6,ih,Ua,Ua];omega
theorem qkq(u v:List Nat):(u++v).sum=u.sum+v.sum:=by
 induction u with
 |nil=>simp
 |cons a u ih=>rw[Ud,J6,J6,ih];omega
theorem qcq:∀ ls:List Nat,2*((zg ls).map List.length).sum=ls.length*2^ls.length
 | []=>rfl
 |l::ls=>by
  have ih:=qcq ls;have pl:=qW ls;rw[zg,U2,qkq,qaD,Ua,Qk,pl];generalize 2^ls.length=N at ih ⊢
  have:(ls.length+1)*(N*2)=2*(ls.length*N)+2*N:=by
   rw[Nat.add_mul,Nat.one_mul,Qj N 2,<- Nat.mul_assoc,Qj ls.length 2,Nat.mul_assoc]
  rw[this];omega
theorem On.flat2{ls:List Nat}{F:List Pr}(h:On ls F)(hl:ls.Pairwise (·<·)):2*F.flatten.length<=ls.length*2^ls.length:=by
 rw[<- qcq,List.length_flatten]
 have:=qgT List.length (l:=F) (m:=zg ls) h.vf.nodup λ p hp=>zD.mpr (h.sub hl p hp)
 omega
theorem Ok9.le{ls:List Nat}{F:List Pr}(o:Ok9 ls)(h:On ls F):F.length<=512:=by
 have h1:=h.len o.rise;have h2:2^ls.length<=2^9:=Yo (by decide) o.len;omega
noncomputable def pairs(F G:List Pr):List Pr:=F.flatMap λ p=>G.map λ q=>uni p q
end Fs
namespace L2
open PySem PySem.Spec PyProof.Rows
section
variable {X:Cx}
def qlN(K:W.Frag):List V->Hp->VK->Prop:=λ xs H Q=>∃(x:V)(t:Value)(T:String)(b:Bool),xs=[x,.ty T]/\TyOf K H x t/\W.kitOne K t (.type T)=some b/\Q (.bl b) H
theorem qeZ:y3 X (.builtin "isinstance") (qlN X.K):=by
 intro pins s σ H xs us Q I r h;obtain⟨x,t,T,b,rfl,ty,e,q⟩:=h;obtain⟨u1,u2,rfl,r1,r2⟩:=qeo r;cases r2
 exact qhl (c:=.type T) I r1 ty e λ tk=>⟨.bl b,H,I.tok tk,rfl,q⟩
abbrev rAS:R2:=λ x y H Q=>∃ i j,x=.str i/\y=.str j/\i.length+j.length<=sizeLine/\Q (.str (i++j)) H
theorem qL:OpR X (binaryOp .Add) rAS:=qbG
end
end L2
namespace L2
open PySem PySem.Spec PyProof.Rows PySem.StrLaws PySem.Builtin PySem.Builtin.Str
theorem qi1(z:Str)(c:Nat):∀(m k:Nat)(st:Array Nat×Nat),1<=st.1.size->(forIn (List.range' k m) st (occBody z ⟨#[c]⟩ z.length 1)).run.fst.toList=st.1.toList:=by
 intro m;induction m with
 |zero=>intro k st h;rfl
 |succ m ih =>
  intro k st h;rw[List.range'_succ,List.forIn_cons];unfold occBody;rw[Vi (λ q=>by have:st.1.size<1:=q.1.1.1;omega)];exact ih (k+1) (st.1,st.2) h
theorem qhH(z:Str)(c:Nat):∀(m k:Nat)(st:Array Nat×Nat),st.2<=k->st.1.toList=[]->(forIn (List.range' k m) st (occBody z ⟨#[c]⟩ z.length 1)).run.fst.toList=(qd1 c k ((cs z).drop k |>.take m)).take 1:=by
 intro m;induction m with
 |zero=>intro k st h1 h2;rw[Jp];exact h2
 |succ m ih =>
  intro k st h1 h2;have hz:st.1.size=0:=by rw[<- Yr,h2];rfl
  rw[List.range'_succ,List.forIn_cons];unfold occBody;by_cases e:(cs z)[k]?=some c
  ·obtain⟨c1,c2⟩:=(subAt_one z c k).mpr e;rw[Vh ⟨⟨⟨by omega,h1⟩,c1⟩,c2⟩]
   have:=qi1 z c m (k+1) (st.1.push k,k+1) (by rw[Array.size_push];omega)
   refine Eq.trans this ?_;rw[Zt,h2];obtain⟨c8,ek⟩:=Xm.mp e;rw[Xr c8,List.take_succ_cons,ek];show _=List.take 1 (if c=c then _ else _)
   rw[Vh rfl];rfl
  ·rw[Vi (λ q=>e ((subAt_one z c k).mp ⟨q.1.2,q.2⟩))]
   have:=ih (k+1) (st.1,st.2) (Zw h1) h2
   refine Eq.trans this ?_;congr 1
   by_cases c8:k<(cs z).length
   ·rw[Xr c8,List.take_succ_cons];show _=(if (cs z)[k]=c then _ else _)
    rw[Vi (λ q=>e (by rw[Xw c8,q]))]
   ·rw[XI (by omega),XI (by omega)];simp[qd1]
theorem qkr(z:Str)(c:Nat):occurrences z ⟨#[c]⟩ 0 z.length 1=(qd1 c 0 (cs z)).take 1:=by
 rw[occ_eq,qhH z c _ 0 (#[],0) (Qs _) rfl,Jn];congr 2
 exact XH (by simp[Str.length])
theorem qe0(c:Nat):∀(w r:List Nat)(k:Nat),c∉w->qd1 c k (w++c::r)=(k+w.length)::qd1 c (k+w.length+1) r
 | [],r,k,_=>by show(if c=c then _ else _)=_;rw[Vh rfl];rfl
 |x::w,r,k,h=>by
  have hx:¬ x=c:=λ e=>h (by rw[e];exact Y7 ..)
  show(if x=c then _ else qd1 c (k+1) (w++c::r))=_
  rw[Vi hx,qe0 c w r (k+1) (λ hm=>h (Yf _ hm))];simp[J7,Nat.add_comm 1]
theorem qaY(l:List Nat)(i j:Nat):strSub (ql l) i j=ql ((l.drop i).take (j-i)):=by
 show(⟨(l.toArray).extract i j⟩:Str)=⟨((l.drop i).take (j-i)).toArray⟩
 congr 1
 apply Array.toList_inj.mp
 simp[List.extract_eq_drop_take]
section
variable {X:Cx}
def qmA:V->List V->Hp->VK->Prop:=λ x vs H Q=>∃(w r:List Nat)(c:Nat),x=vS (w++c::r)/\vs=[vS [c]]/\c∉w/\w.length+r.length<=60000/\∀ p,H p=none->Q (.ref p) (upd H p (.tup [vS w,vS [c],vS r]))
theorem qks:MtR X "str.partition" qmA:=by
 intro pins s σ H x vs v us Q I rx rv h;obtain⟨w,r,c,rfl,rfl,hc,hz,q⟩:=h;obtain⟨t,rfl⟩:=rx;obtain⟨u,rfl,ru⟩:=yg rv;obtain⟨tu,rfl⟩:=ru;have hl:(ql (w++c::r)).length=w.length+(r.length+1):=by rw[qK,Za,Ua]
 refine Q4 PySem.F.slot_str_partition (Q3 _ _ _) PySem.F.entry_str_partition (PySem.F.args_str_partition_2 _ _) (meets_str_partition (ql (w++c::r)) (ql [c]) t tu rfl (by rw[hl];exact qu (by omega))) ?_;have ho:occurrences (ql (w++c::r)) (ql [c]) 0 (ql (w++c::r)).length 1=[w.length]:=by
  rw[show ql [c]=(⟨#[c]⟩:Str) from rfl,qkr];show(qd1 c 0 (w++c::r)).take 1=_
  rw[qe0 c w r 0 hc];simp
 rw[ho];have hf:=I.hok.fresh (Qs s.heap.objs.size);have e1:strSub (ql (w++c::r)) 0 w.length=ql w:=by rw[qaY];simp
 have e2:strSub (ql (w++c::r)) (w.length+(ql [c]).length) (ql (w++c::r)).length=ql r:=by
  rw[qaY,hl,qK,XS]
  have:(w++c::r).drop (w.length+1)=r:=by rw[show w++c::r=(w++[c])++r by simp,Xd (by simp)];simp
  rw[this,XH (by omega)]
 dsimp only;rw[e1,e2];refine⟨.ref s.heap.objs.size,_,I.laid (a:=s.heap.objs.size) (o:=.tup [vS w,vS [c],vS r]) (t':=s.toks+1+1) (λ _ _ h=>XD _ h) (Qs _) ⟨qu (by show 3<=_;decide),_,.cons ⟨_,rfl⟩ (.cons ⟨_,rfl⟩ (.cons ⟨_,rfl⟩ .nil)),⟨_,Ys _ rfl,rfl,_,rfl⟩⟩,rfl,q _ hf⟩
def qlO:V->List V->Hp->VK->Prop:=λ x vs H Q=>∃(i j:Nat)(w:List Nat),x=vS (List.replicate i 32++w++List.replicate j 32)/\vs=[vS [32]]/\w≠[]/\32∉w/\i+w.length+j<=60000/\Q (vS w) H
theorem qe1(n:Nat)(l:List Nat)(h:∀ x,l.head?=some x->¬ x=32):((List.replicate n 32++l).takeWhile λ c=>(#[32]:Array Nat).contains c).length=n:=by
 induction n with
 |zero =>
  cases l with
  |nil=>rfl
  |cons x l =>
   have:¬ x=32:=h x rfl
   have e:(#[32]:Array Nat).contains x=false:=by simp[this]
   rw[List.replicate_zero,U0,List.takeWhile_cons,e];rfl
 |succ n ih =>
  rw[Yu,Ud,List.takeWhile_cons];have e:(#[32]:Array Nat).contains 32=true:=by simp
  rw[e,Vh rfl,Ua,ih]
theorem qi2(i j:Nat)(w:List Nat)(hw:w≠[])(h:32∉w):Txt.stripChars (ql (List.replicate i 32++w++List.replicate j 32)) (ql [32])=ql w:=by
 have lo:stripLo (#[32]:Array Nat).contains true (ql (List.replicate i 32++w++List.replicate j 32))=i:=by
  unfold stripLo;rw[Vh rfl];show(((List.replicate i 32++w++List.replicate j 32)).takeWhile _).length=i
  rw[Zp];refine qe1 i _ λ x hx=>?_
  cases w with
  |nil=>exact absurd rfl hw
  |cons a w=>simp at hx;subst hx;exact λ e=>h (by rw[e];exact Y7 ..)
 have hl:(ql (List.replicate i 32++w++List.replicate j 32)).length=i+w.length+j:=by rw[qK];simp[J7]
 have hi:stripHi (#[32]:Array Nat).contains true (ql (List.replicate i 32++w++List.replicate j 32)) i=i+w.length:=by
  unfold stripHi;rw[Vh rfl,hl];show i+w.length+j-((((List.replicate i 32++w++List.replicate j 32)).drop i).reverse.takeWhile _).length=_
  have e:((List.replicate i 32++w++List.replicate j 32)).drop i=w++List.replicate j 32:=by
   rw[Zp,Xd (by simp)];simp
  rw[e,Y0,List.reverse_replicate,qe1 j _ λ x hx=>λ e2=>?_]
  ·omega
  ·subst e2
   have:32∈w.reverse:=List.mem_of_mem_head? hx
   exact h (List.mem_reverse.mp this)
 have st:stripped (#[32]:Array Nat).contains true true (ql (List.replicate i 32++w++List.replicate j 32))=ql w:=by
  unfold stripped;rw[lo,hi,qaY];have e:((List.replicate i 32++w++List.replicate j 32)).drop i=w++List.replicate j 32:=by
   rw[Zp,Xd (by simp)];simp
  rw[e,show i+w.length-i=w.length by omega];simp
 show Txt.stripBy (#[32]:Array Nat).contains true true _=_
 unfold Txt.stripBy;split
 ·rename_i hs;unfold stripSame at hs;rw[lo,hi,hl] at hs;have hs:i=0/\i+w.length=i+w.length+j:=by simpa using hs
  obtain⟨h1,h2⟩:=hs;have hj:j=0:=by omega
  subst h1 hj;simp
 ·exact st
theorem qe2:MtR X "str.strip" qlO:=by
 intro pins s σ H x vs v us Q I rx rv h;obtain⟨i,j,w,rfl,rfl,hw,hn,hz,q⟩:=h;obtain⟨t,rfl⟩:=rx;obtain⟨u,rfl,ru⟩:=yg rv;obtain⟨tu,rfl⟩:=ru;have hl:(ql (List.replicate i 32++w++List.replicate j 32)).length=i+w.length+j:=by rw[qK];simp[J7]
 refine SC.stripChars (y:=ql [32]) (λ t' k=>?_) (by rw[hl];exact qu (by omega));rw[qi2 i j w hw hn];exact⟨vS w,H,I.tok k,⟨_,rfl⟩,q⟩
end
end L2
namespace Fs
noncomputable def qT(n N:Nat):List Bool:=(List.range n).map λ k=>decide (N / 2^(n-1-k) % 2=1)
theorem zE(n N:Nat):(qT n N).length=n:=by unfold qT;rw[Ut,Zv]
theorem qaE{n N k:Nat}(h:k<n):(qT n N)[k]?=some (decide (N / 2^(n-1-k) % 2=1)):=by
 unfold qT;rw[Zl,Y2 h];rfl
noncomputable def asg(ls:List Nat)(r:List Bool)(c:Nat):Bool:=(((ls.zip r).find? λ x=>decide (x.1=c)).map (·.2)).getD false
end Fs
namespace Fs
open PySem L2
theorem zA{α β:Type}{F G:α->β->Prop}(h:∀ a b,F a b->G a b):∀{xs:List α}{ys:List β},Paired F xs ys->Paired G xs ys
 |_,_,.nil=>.nil
 |_,_,.cons r t=>.cons (h _ _ r) (zA h t)
theorem qX{α β:Type}{F:α->β->Prop}:∀{xs:List α}{l:List β},Paired F xs l->∀(k:Nat)(a:α),xs[k]?=some a->∃ b,l[k]?=some b/\F a b
 |_,_,.nil,k,a,h=>by simp at h
 |_,_,.cons r t,0,a,h=>by simp at h;subst h;exact⟨_,rfl,r⟩
 |_,_,.cons r t,k+1,a,h=>qX t k a (by simpa using h)
theorem qi3(n:Nat):ixN (n+1) (-1)=some n:=by
 unfold ixN;rw[Vi (by decide),Vh (by omega)];congr 1;omega
def qmB(K:W.Frag):List V->Hp->VK->Prop:=λ xs H Q=>∃(p:Addr)(bs:List Bool),xs=[V.ref p]/\SqL K H p (bs.map V.bl)/\Q (.bl (bs.all id)) H
theorem qmC(p:List Nat):decide (vS p=vS p)=true:=Jt rfl
theorem qe3{ls p:List Nat}(hl:ls.Pairwise (·<·))(hp:p.Pairwise (·<·))(h:∀ c∈p,c∈ls):(ls.filter λ c=>decide (c∈p))=p:=
 qex Jx (λ a b h=>Nat.lt_asymm h) (hl.filter _) hp λ c=>by
  rw[Uq];exact⟨λ h=>Z9 h.2,λ hc=>⟨h c hc,Jt hc⟩⟩
theorem qbf{α:Type}{l:List α}{f:α->Bool}{i:Nat}(hi:i<l.length):(l.take (i+1)).filter f=(l.take i).filter f++(if f l[i]=true then [l[i]] else []):=by
 rw[Xa hi,List.filter_append];congr 1
 rw[Ul];rfl
theorem qf4(ls:List Nat):(ls.map λ c=>vS [c])=(ls.map λ c=>[c]).map vS:=by rw[Qm];rfl
end Fs
namespace L2
open PySem PySem.Spec PyProof.Rows
section
variable {X:Cx}
theorem qhI:MtR X "dict.update" (λ x vs H Q=>∃ d o kvs more,x=.ref d/\vs=[.ref o]/\H d=some (.dK kvs)/\H o=some (.dK more)/\d≠o/\kvs.length+more.length<=sizeLine/\Q .non (upd H d (.dK (qV kvs more)))):=by
 intro pins s σ H x vs v us Q I rx rv h;obtain⟨d,o,kvs,more,rfl,rfl,hd,ho,E7,hz,q⟩:=h;cases rx
 obtain⟨u,rfl,ru⟩:=yg rv;cases ru
 obtain⟨z1,s1,va,ra,da⟩:=qgD I.hok hd;obtain⟨z2,s2,vb,rb,db⟩:=qgD I.hok ho;refine call_meetsIn PySem.F.slot_dict_update da.typeIs PySem.F.entry_dict_update (PySem.F.args_dict_update_2 _ _) (meets_dict_update (qx X.prog X.w) d o E7 s2) ⟨va,vb,da,db,by rw[<- ra.length,<- rb.length];exact hz,λ h' iW _ hs=>?_⟩;have he:∃ q,h'.get? d=some q:=let ⟨q,_,_,hq,_⟩:=iW;⟨q,hq⟩;exact⟨.non,_,qdB (t':=s.toks) I (by rw[hd];exact True.intro) hs he (qfE (Qf (kg more kvs) hz) s1 (KV.merge rb ra) iW),rfl,q⟩
end
end L2
namespace Law
open PySem L2 Fs
noncomputable def top(i:Nat):Stmt:=PySem.Challenge.pw_fillsay_k71_fillings_counted.main.body.getD i (.Pass ⟨0,0,0,0⟩)
noncomputable abbrev qd2:Stmt:=top 10
noncomputable abbrev jP:Stmt:=top 11
noncomputable abbrev qcr:Stmt:=top 12
noncomputable abbrev kW:Stmt:=top 13
noncomputable abbrev jQ:Stmt:=top 14
noncomputable abbrev qd3:Stmt:=top 15
noncomputable abbrev qcs:Stmt:=top 16
noncomputable abbrev vt:Stmt:=top 17
noncomputable abbrev kX:Stmt:=top 18
noncomputable abbrev qaZ:Stmt:=top 19
noncomputable abbrev yM:Stmt:=top 20
noncomputable abbrev qaF:Stmt:=top 21
noncomputable abbrev kZ:Stmt:=top 23
noncomputable abbrev yo:Stmt:=qR (top 26) 0
noncomputable abbrev yp:Stmt:=qR (top 26) 1
noncomputable abbrev yq:Stmt:=qR (top 26) 4
noncomputable abbrev yU:Stmt:=qR (top 27) 0
noncomputable abbrev yV:Stmt:=qR (top 27) 1
noncomputable abbrev yW:Stmt:=qR (top 27) 4
noncomputable abbrev jp:Stmt:=qR (top 28) 0
noncomputable abbrev yr:Stmt:=qR (top 28) 1
noncomputable abbrev yt:Stmt:=qR (top 28) 2
noncomputable abbrev yu:Stmt:=qR (top 28) 5
noncomputable abbrev k4:Stmt:=qR (top 29) 0
noncomputable abbrev jR:Stmt:=qR (top 29) 1
noncomputable abbrev jS:Stmt:=qR (top 29) 2
noncomputable abbrev jT:Stmt:=qR (top 29) 5
noncomputable abbrev vv:Stmt:=qR (top 30) 0
noncomputable abbrev jk:Stmt:=qR (top 30) 1
noncomputable abbrev jU:Stmt:=qR (top 31) 0
noncomputable abbrev jV:Stmt:=qR (top 31) 2
noncomputable abbrev vX:Stmt:=qR (top 32) 0
noncomputable abbrev vY:Stmt:=qR (top 32) 2
noncomputable abbrev yw:Stmt:=qR (top 33) 0
noncomputable abbrev yx:Stmt:=qR (top 33) 2
noncomputable abbrev qf5:Stmt:=top 38
noncomputable abbrev ja:Stmt:=top 39
noncomputable abbrev qd4:Stmt:=top 40
noncomputable abbrev vw:Stmt:=top 41
noncomputable abbrev qa0:Stmt:=top 42
noncomputable abbrev vy:Stmt:=top 43
noncomputable abbrev qct:Stmt:=top 44
noncomputable abbrev vz:Stmt:=qR (top 50) 0
noncomputable abbrev vA:Stmt:=qR (top 50) 6
noncomputable abbrev jW:Stmt:=qR (top 50) 7
noncomputable abbrev yN:Stmt:=qR (top 50) 8
noncomputable abbrev vB:Stmt:=top 51
noncomputable abbrev yl:Stmt:=top 52
noncomputable abbrev k5:Stmt:=top 53
noncomputable abbrev vC:Stmt:=top 55
noncomputable abbrev k6:Stmt:=top 56
noncomputable abbrev jX:Stmt:=top 57
noncomputable abbrev yy:Stmt:=top 58
noncomputable abbrev jY:Stmt:=top 59
noncomputable abbrev k7:Stmt:=top 60
noncomputable abbrev vD:Stmt:=top 61
noncomputable abbrev yX:Stmt:=top 62
noncomputable abbrev vE:Stmt:=top 63
noncomputable abbrev vF:Stmt:=top 64
noncomputable abbrev vG:Stmt:=top 65
noncomputable abbrev vH:Stmt:=top 66
noncomputable abbrev vI:Stmt:=top 67
noncomputable abbrev qdj:Stmt:=top 68
structure Txt(mg:Str->Option Value):Prop where
 len:mg "len"=none
 list:mg "list"=none
 sorted:mg "sorted"=none
 set:mg "set"=none
 tuple:mg "tuple"=none
 dict:mg "dict"=none
 zip:mg "zip"=none
 reversed:mg "reversed"=none
 range:mg "range"=none
 enumerate:mg "enumerate"=none
 all:mg "all"=none
 min:mg "min"=none
 max:mg "max"=none
 isinstance:mg "isinstance"=none
 tup:mg "str"=none
 bool:mg "bool"=none
theorem qkt:bootBuiltins "list"=some (.type "list"):=by decide +kernel
theorem qcu:bootBuiltins "tuple"=some (.type "tuple"):=by decide +kernel
theorem qf6:bootBuiltins "set"=some (.type "set"):=by decide +kernel
theorem qbx:bootBuiltins "dict"=some (.type "dict"):=by decide +kernel
theorem qa1:bootBuiltins "sorted"=some (.builtin "sorted"):=by decide +kernel
theorem qi4:bootBuiltins "all"=some (.builtin "all"):=by decide +kernel
theorem qlP:bootBuiltins "min"=some (.builtin "min"):=by decide +kernel
section
variable {P:Program}{w:World}{K:W.Frag}{mg:Str->Option Value}{base:Heap}
def qe4(K:W.Frag)(n:Nat):Sp:=λ vs H Q _=>∃(a:Addr)(t:List Bool)(m:Nat),vs=[.ref a]/\SqL K H a (t.map V.bl)/\t.length=2^m/\m<n/\m<=9 /\
 ∀ r H',qg H H'->H' r=some (.lst ((zi m t).map V.bl))->Q (.ref r) H'
theorem vZ:FnScope ["truths","half","low","high"] ["truths"] (qh qaF):=scF
theorem qaG{m:Nat}(h:m<=9):2^m<=512:=by
 have:2^m<=2^9:=Yo (by decide) h
 exact this
theorem qgU:(["left","right"]:List Str).Nodup:=by decide +kernel
theorem qe5{n:Nat}{f:Addr}{fd:FuncData}(F:Fun K "summed" "summed" qaF f fd)(T:Txt mg)(bF:qf K fd ["truths"] [])(mF:mg "summed"=some (.ref f))(G:FnOk P w K mg base CX0 n f fd ["truths"] (qe4 K n)):FnOk P w K mg base CX0 (n+1) f fd ["truths"] (qe4 K (n+1)):=by
 refine F.okd vZ (λ cdv A outer s H vs Q E hr h=>?_);obtain⟨a,t,m,rfl,hS,ht,hm,h9,q⟩:=h;have h512:=qaG h9;refine⟨_,qd (q8 (qv zq (qz qy rfl T.len Js (qa (pv 0) qb)) qi (qA _)) (qe (qk (zr qdH rfl T.list qkt (qa (pv 0) qb)))) qD)
  (qd (qr (i:=1) vZ.nd rfl (Or.inl rfl) (qm zU (qz qy rfl T.len Js (qa (pv 0) qb)) qi))
  (qd (qr (i:=2) vZ.nd rfl (Or.inl rfl) (ze G hr rfl mF F.kp bF .nil qE (qa (qbK qgH (pv 0) qdC (qdD (pv 1))) qb)))
  (qd (qr (i:=3) vZ.nd rfl (Or.inl rfl) (ze G hr rfl mF F.kp bF .nil qE (qa (qbK qgH (pv 0) (qdD (pv 1)) qdC) qb)))
  (qe (qk (qm qbL (pv 2) (qan (n:=2) (csc (NY:=["left","right"]) (o:=2) (caps:=[]) [] rfl (by simp) jK rfl) rfl
   (qfP rfl T.zip (qa (pv 2) (qa (pv 3) qb)))
   (λ C s H fp pins=>qF (qp (i:=0) qgU rfl (Or.inl rfl)) (qF (qp (i:=1) qgU rfl (Or.inl rfl)) zJ)) (λ _=>rfl) (λ _=>rfl)
   (λ C s H fp pins=>zz) (λ C s H fp pins=>jx qii (pv 0) (pv 1) (qA _))))))))),?_⟩
 have hl:(t.map V.bl).length=2^m:=by rw[Ut,ht]
 refine⟨_,rfl,a,_,rfl,.inl hS,rfl,_,rfl,?_⟩;refine qbM (λ c=>?_) (λ c=>?_)
 ·have c':V.int (((t.map V.bl).length:Nat):Int)=V.int 1:=Z9 c;rw[hl] at c';have c2:((2^m:Nat):Int)=1:=by injection c'
  have hm0:m=0:=by
   cases m with
   |zero=>rfl
   |succ k=>rw[Qk] at c2;omega
  subst hm0;refine⟨_,rfl,a,_,rfl,.inl hS,λ r L1=>?_⟩;exact q r _ (qg.up L1) qc
 ·have c':¬ V.int (((t.map V.bl).length:Nat):Int)=V.int 1:=Zj (Zu.mpr c);rw[hl] at c';obtain⟨k,rfl⟩:∃ k,m=k+1:=by
   cases m with
   |zero=>exact absurd rfl c'
   |succ k=>exact⟨k,rfl⟩
  have E6:2^(k+1)=2^k+2^k:=by rw[Qk];omega
  have h1:(t.take (2^k)).length=2^k:=by rw[Uc];omega
  have h2:(t.drop (2^k)).length=2^k:=by rw[Ue];omega
  have pW:(((t.map V.bl).length:Nat):Int) / 2=((2^k:Nat):Int):=by rw[hl];omega
  refine⟨_,rfl,a,_,rfl,.inl hS,_,_,rfl,rfl,⟨by decide,by decide⟩,?_⟩;dsimp only;rw[pW];refine⟨_,rfl,_,rfl,_,rfl,a,_,rfl,hS,λ p1 P9=>?_⟩;have e1:qbl (t.map V.bl) none (some ((2^k:Nat):Int))=(t.take (2^k)).map V.bl:=by
   unfold qbl;rw[HT.sIx_nat,hl,E6];show((t.map V.bl).drop 0).take (min (2^k) (2^k+2^k)-0)=_
   rw[Jn,Nat.sub_zero,U6 (by omega),List.map_take]
  rw[e1];refine⟨p1,t.take (2^k),k,rfl,SqL.of qc,h1,by omega,by omega,λ r1 H1 g1 e1=>?_⟩;have g1':qg H H1:=(qg.up P9).trans g1;refine⟨_,rfl,_,rfl,_,rfl,a,_,rfl,g1'.seq hS,λ p2 xG=>?_⟩;have e2:qbl (t.map V.bl) (some ((2^k:Nat):Int)) none=(t.drop (2^k)).map V.bl:=by
   unfold qbl;rw[HT.sIx_nat,hl,E6,U6 (by omega)];show((t.map V.bl).drop (2^k)).take (2^k+2^k-2^k)=_
   rw[<- List.map_drop,XH (by rw[Ut,h2];omega)]
  rw[e2];refine⟨p2,t.drop (2^k),k,rfl,SqL.of qc,h2,by omega,by omega,λ r2 H2 g2 e3=>?_⟩;have sW:qg H1 H2:=(qg.up xG).trans g2;have f1:H2 r1=some (.lst ((zi k (t.take (2^k))).map V.bl)):=sW _ _ e1;have l1:=qS k _ h1;have l2:=qS k _ h2;refine⟨_,rfl,_,rfl,_,rfl,r1,r2,rfl,⟨_,SqL.of f1⟩,⟨_,SqL.of e3⟩,?_⟩;refine qfX (SqL.of f1) (SqL.of e3) (by rw[Ut,Ut,l1,l2]) (λ i=>((List.zipWith (· != ·) (zi k (t.take (2^k))) (zi k (t.drop (2^k)))).take i).map V.bl) rfl (λ i hi=>?_) ?_ ?_
  ·rw[Ut,Uc];rw[Ut,l1] at hi;exact zl (by omega)
  ·intro i x y H3 D Y Z hx hy hD M4 sm hY hZ;obtain⟨b1,N9,rfl⟩:=qj hx;obtain⟨b2,N8,rfl⟩:=qj hy;refine⟨_,_,rfl,_,_,rfl,rfl,⟨rfl,rfl⟩,?_⟩;refine⟨_,rfl,_,rfl,rfl,?_⟩;rw[qgN];exact hY _ _ M4 sm (yF (kM N9 N8))
  ·intro D H3 hD sm M4;have e4:(((List.zipWith (· != ·) (zi k (t.take (2^k))) (zi k (t.drop (2^k)))).take ((zi k (t.take (2^k))).map V.bl).length).map V.bl)=(List.zipWith (· != ·) (zi k (t.take (2^k))) (zi k (t.drop (2^k)))).map V.bl:=by
    rw[XH (by rw[Yv,Ut];omega)]
   rw[e4] at M4;refine⟨r1,D,_,_,rfl,rfl,sm _ _ f1,M4,?_,λ r3 eS=>?_⟩
   ·rw[Ut,Ut,Yv,l1,l2];exact qu (by omega)
   ·refine q r3 _ ((g1'.trans sW).trans (sm.to eS)) ?_;rw[qc,<- U2];rfl
theorem qdk{f:Addr}{fd:FuncData}(F:Fun K "summed" "summed" qaF f fd)(T:Txt mg)(bF:qf K fd ["truths"] [])(mF:mg "summed"=some (.ref f)):∀ n,FnOk P w K mg base CX0 n f fd ["truths"] (qe4 K n)
 |0=>⟨λ vs H Q E h=>by obtain⟨_,_,_,_,_,_,h,_⟩:=h;exact absurd h (Nat.not_lt_zero _),λ A outer s H args us vs Q E _ _ _ _ h=>by obtain⟨_,_,_,_,_,_,h,_⟩:=h;exact absurd h (Nat.not_lt_zero _)⟩
 |n+1=>qe5 F T bF mF (qdk F T bF mF n)
def qby:Sp:=λ vs H Q _=>∃(ls:List Nat),vs=[vS ls]/\ls.length<=9/\∀ r H',qg H H'->H' r=some (.lst ((zg ls).map vS))->Q (.ref r) H'
theorem qaH:FnScope ["letters","products","letter"] ["letters"] (qh yM):=scF
theorem qmD:(["product","letter"]:List Str).Nodup:=by decide +kernel
theorem qi5{k:Nat}{f:Addr}{fd:FuncData}(F:Fun K "products_over" "products_over" yM f fd)(T:Txt mg):FnOk P w K mg base CX0 (k+1) f fd ["letters"] qby:=by
 refine F.okd qaH (λ cdv A outer s H vs Q E hr h=>?_);obtain⟨ls,rfl,h9,q⟩:=h;refine⟨_,qd (qr (i:=1) qaH.nd rfl (Or.inl rfl) (yJ (qa qo qb)))
  (qd (zZ U7 rfl (qlC rfl T.reversed (qa (pv 0) qb)) (qp (i:=2) qaH.nd rfl (Or.inr rfl))
   (qe (qr (i:=1) qaH.nd rfl (Or.inl rfl) (qm qbL (pv 1) (zK (csc (NY:=["product","letter"]) (o:=1) (caps:=[2]) ["letter"] rfl
    (by intro x hx;rw[Zf.mp hx];exact .inl rfl) (qav rfl rfl rfl jK) rfl) rfl
    (zT (pv 1)) (λ C s H fp pins=>qp (i:=0) qmD rfl (Or.inl rfl)) (λ C s H fp pins=>zz) (λ C s H fp pins=>qm qbG (pv 1) (pv 0)))))))
  (qe (qk (pv 1)))),?_⟩
 have hz:(ql ls).length=ls.length:=qK ls;refine⟨qu (by show 1<=_;decide),λ p0 xH=>?_⟩;refine⟨_,rfl,_,rfl,by rw[hz];exact qu (by omega),?_⟩;refine qdK (λ i σ H1=>∃(r:Addr)(v:Option V),σ=[some (vS ls),some (.ref r),v]/\qg H H1/\H1 r=some (.lst ((zg (ls.drop (ls.length-i))).map vS))) ?_ ?_ ?_
 ·refine⟨p0,none,rfl,qg.up xH,?_⟩;rw[qc,Nat.sub_zero,List.drop_length];rfl
 ·rintro i σ H1 hi ⟨r,v,rfl,g1,e1⟩;rw[hz] at hi;have c8:ls.length-1-i<ls.length:=by omega
  have ev:qiP (ql ls) i=vS [ls[ls.length-1-i]]:=by
   unfold qiP;rw[hz];show V.str ⟨#[ls.toArray.getD (ls.length-1-i) 0]⟩=V.str ⟨#[ls[ls.length-1-i]]⟩
   rw[Xg];simp[c8]
  have ed:ls.drop (ls.length-(i+1))=ls[ls.length-1-i]::ls.drop (ls.length-i):=by
   rw[show ls.length-(i+1)=ls.length-1-i by omega,Xr c8,show ls.length-1-i+1=ls.length-i by omega]
  rw[ev];have t8:(zg (ls.drop (ls.length-i))).length<=512:=by
   rw[qW,Ue];exact qaG (by omega)
  refine⟨_,rfl,_,rfl,r,rfl,⟨_,SqL.of e1⟩,?_⟩;refine qcc (SqL.of e1) (λ j=>((((zg (ls.drop (ls.length-i))).map (ls[ls.length-1-i]::·)).take j).map vS)) rfl (λ j hj=>?_) ?_ ?_
  ·rw[Ut,Uc,Ut];exact zl (by omega)
  ·intro j x H2 D Y Z hx hD u0 sm hY hZ;obtain⟨p,hp,rfl⟩:=qj hx;have nV:p.length<=9:=by
    have:=(zD.mp (Yh hp)).length_le
    rw[Ue] at this;omega
   refine⟨⟨rfl,rfl⟩,?_⟩;refine⟨_,rfl,_,rfl,_,_,rfl,rfl,by rw[qK,qK];exact qu (by simp;omega),?_⟩;rw[ju];refine hY _ _ u0 sm ?_;exact yF (f:=vS) (by rw[Zl,hp];rfl)
  ·intro D H2 hD sm u0;rw[Ut,XH (by rw[Ut];exact Qs _)] at u0;refine⟨r,D,_,_,rfl,rfl,sm _ _ e1,u0,?_,λ r3 eS=>?_⟩
   ·rw[Ut,Ut,Ut];exact qu (by omega)
   ·refine⟨r3,_,rfl,g1.trans (sm.to eS),?_⟩;rw[qc,ed,zg,U2]
 ·rintro σ H1 ⟨r,v,rfl,g1,e1⟩;rw[hz,Nat.sub_self,Jn] at e1;exact⟨_,rfl,q r H1 g1 e1⟩
def qa2(K:W.Frag):Sp:=λ vs H Q _=>∃(a:Addr)(F:List Pr),vs=[.ref a]/\SqT K H a (F.map vS)/\F.flatten.length<=4000/\F.length<=2000/\(qG F).length<64/\∀ H',qg H H'->Q (vS (qG F)) H'
theorem qf7:FnScope ["form"] ["form"] (qh jQ):=scF
theorem v0(l:List Nat):(l.map λ c=>[c]).flatten=l:=by
 induction l with
 |nil=>rfl
 |cons a l ih=>rw[Jz,Zo,ih];rfl
theorem qf8{k:Nat}{f:Addr}{fd:FuncData}(F:Fun K "letters_of" "letters_of" jQ f fd)(T:Txt mg):FnOk P w K mg base CX0 (k+1) f fd ["form"] (qa2 K):=by
 refine F.okd qf7 (λ cdv A outer s H vs Q E hr h=>?_);obtain⟨a,F,rfl,hS,h4,h2,aF,q⟩:=h;refine⟨_,qe (qk (yQ XL Ya Yb qdL qo (qa (qz (qcL rfl) rfl T.sorted qa1 (qa (zr (qb7 rfl) rfl T.set qf6 (qa
  (yQ XL Ya Yb qdL qo (qa (pv 0) qb)) qb)) qb)) qb))),?_⟩
 rw[jL] at hS;have hz:("":Str).length=0:=by decide
 refine⟨rfl,rfl,?_⟩;refine⟨_,rfl,_,a,F.map ql,rfl,rfl,.inr hS,?_,?_⟩
 ·rw[qce,hz];show F.flatten.length+_*0<=_;omega
 rw[qcd];refine⟨F.flatten.map λ c=>ql [c],.inr ⟨_,rfl,rfl⟩,by rw[Ut];show _<4096;omega,λ l ys hl nd hm=>?_⟩;have lD:=vh (F.flatten.map λ c=>[c]);have lK:∀ x,x∈ys ↔ cs x∈ki (F.flatten.map λ c=>[c]):=λ x=>by
  rw[hm x,vU,Ql,Ql];constructor
  ·rintro⟨c,hc,rfl⟩;exact⟨c,hc,rfl⟩
  ·rintro⟨c,hc,e⟩;exact⟨c,hc,qfQ e⟩
 have c5:ys.length=(qG F).length:=by
  rw[qay nd lD lK,<- (zQ _).length_eq,yS,Ut]
 refine⟨l,ys,rfl,qc,by rw[c5];exact aF,λ l2 N6=>?_⟩;rw[qgO nd lD lK,yS,jL];refine⟨_,l2,((qG F).map λ c=>[c]).map ql,rfl,rfl,.inl (SqL.of qc),?_,?_⟩
 ·rw[qce,hz,v0];show _+_*0<=_;omega
 rw[qcd,v0];exact q _ ((qg.up hl).to N6)
def qgV(K:W.Frag):Sp:=λ vs H Q _=>∃(a:Addr)(F:List Pr)(ls:List Nat),vs=[.ref a,vS ls]/\SqT K H a (F.map vS)/\F.length<=2000/\ls.length<=9/\∀ r H',qg H H'->H' r=some (.lst ((jF F ls).map V.bl))->Q (.ref r) H'
theorem qe6:FnScope ["form","letters","standing"] ["form","letters"] (qh kX):=scF
theorem qnB:(["product"]:List Str).Nodup:=by decide +kernel
theorem qmE:(["product","standing"]:List Str).Nodup:=by decide +kernel
theorem qi6(kvs:List (Key×V))(k k':Key)(v:V):(zt (yB kvs k v) k').isSome=((zt kvs k').isSome || decide (k=k')):=by
 rw[<- y4,<- y4];unfold yB;split
 ·rename_i h;rw[List.any_map];have e:((λ kv:Key×V=>decide (kv.1=k')) ∘ λ kv=>if kv.1=k then(kv.1,v) else kv)=λ kv=>decide (kv.1=k'):=by
   funext kv
   show decide ((if kv.1=k then(kv.1,v) else kv).1=k')=_
   split <;> rfl
  rw[e];by_cases hk:k=k'
  ·subst hk;rw[h];simp
  ·simp[hk]
 ·rw[List.any_append];simp
theorem qdl(k':Key):∀(ls c6:List (Key×V)),(zt (qV c6 ls) k').isSome=((zt c6 k').isSome || ls.any λ kv=>decide (kv.1=k'))
 | [],c6=>by simp[qV]
 |x::ls,c6=>by
  show(zt (qV (yB c6 x.1 x.2) ls) k').isSome=_
  rw[qdl k' ls,qi6,J0,Bool.or_assoc]
theorem qd5(F:List Pr)(p:Pr):(zt (qV [] (kvK (F.map λ p=>(ql p,V.bl true)))) (.inr (ql p))).isSome=F.contains p:=by
 rw[qdl];show(false || _)=_
 rw[J4];unfold kvK;rw[Qm,List.any_map,Us,List.any_eq_true,XU];constructor
 ·rintro⟨q,hq,e⟩;have e:(Sum.inr (ql q):Key)=.inr (ql p):=Z9 e;rw[<- vo (Sum.inr.inj e)];exact hq
 ·intro hp;exact⟨p,hp,Jt rfl⟩
theorem qi7{f fp fs:Addr}{fd pU pS:FuncData}(F:Fun K "table_of" "table_of" kX f fd)(T:Txt mg)(Gp:Dp P w K mg base 1 fp pU ["letters"] qby "products_over")(Gs:Dp P w K mg base 10 fs pS ["truths"] (qe4 K 10) "summed"):FnOk P w K mg base CX0 11 f fd ["form","letters"] (qgV K):=by
 refine F.okd qe6 (λ cdv A outer s H vs Q E hr h=>?_);obtain⟨a,F,ls,rfl,hS,hF,h9,q⟩:=h;have hu:=qew hr;have C5:Room 1 _:=hr.mono (by decide);refine⟨_,qd (qr (i:=2) qe6.nd rfl (Or.inr rfl) (zr (ji rfl) rfl T.dict qbx (qa (zK (csc (NY:=["product"]) (o:=1) (caps:=[]) [] rfl (by simp) jK rfl) rfl
   (qdA (pv 0)) (λ C s H fp pins=>qp (i:=0) qnB rfl (Or.inl rfl)) (λ C s H fp pins=>zz) (λ C s H fp pins=>zk (qa (pv 0) (qa qem qb)))) qb)))
  (qe (qk (ze Gs.g hr rfl Gs.m Gs.e Gs.b .nil qE (qa (zK (csc (NY:=["product","standing"]) (o:=1) (caps:=[2]) ["standing"] rfl
    (by intro x hx;rw[Zf.mp hx];exact .inl rfl) (qav rfl rfl rfl jK) rfl) rfl
   (zT (ze Gp.g C5 rfl Gp.m Gp.e Gp.b .nil qE (qa (pv 1) qb))) (λ C s H fp pins=>qp (i:=0) qmE rfl (Or.inl rfl)) (λ C s H fp pins=>zz) (λ C s H fp pins=>qlc (qll hu (pv 0) (pv 1)))) qb)))),?_⟩
 have sU:(F.map vS).length=F.length:=Ut _;refine⟨_,rfl,a,rfl,⟨_,hS⟩,?_⟩;refine y9 (F.map vS).length (λ i ys H2=>∃ ps:List Addr,ys=ps.map V.ref/\Paired (λ a (kv:Str×V)=>H2 a=some (.tup [.str kv.1,kv.2])) ps ((F.take i).map λ p=>(ql p,V.bl true))) ?_ ?_ ?_ ?_ ?_
 ·intro D hD;exact⟨[],rfl,.nil⟩
 ·rintro i ys H2 hi ⟨ps,rfl,hp⟩
  have:=hp.length
  rw[Ut,Uc] at this;rw[Ut];rw[sU] at hi;exact zl (by omega)
 ·rintro i ys H2 D Y Z hi hD u0 sm ⟨ps,rfl,hp⟩ hY hZ;rw[sU] at hi;refine⟨⟨_,_,sm.seqT hS,Xw (by rw[sU];exact hi)⟩,?_⟩;rintro x H' ⟨rfl,p4⟩;have ex:=p4 _ (sm.seqT hS);obtain⟨p,B4,rfl⟩:=qj ex;refine⟨⟨rfl,rfl⟩,?_⟩;refine⟨_,rfl,qu (by show 2<=_;decide),λ t ht=>?_⟩;have hDt:D≠t:=qZ u0 ht;refine hY _ _ (by rw[qt hDt];exact u0) (sm.to ht) ⟨ps++[t],by rw[U2];rfl,?_⟩;rw[zj B4,U2];refine zh (L2.Paired.mapP hp λ b kv e=>?_) (.cons ?_ .nil)
  ·have hbD:b≠D:=qej e u0 (by intro z;cases z);rw[qt hbD,qt (qZ e ht)];exact e
  ·rw[qt (Vb hDt),qc]
 ·intro H2 sm;exact⟨_,sm.seqT hS,Qs _⟩
 rintro D H2 ys hD sm u0 ⟨ps,rfl,hp⟩;rw[sU,Uj] at hp;refine⟨D,ps,_,rfl,SqL.of u0,L2.Paired.mapP hp λ b kv e=>SqT.of e,λ d hd=>?_⟩;have g3:qg H (upd H2 d (.dK (qV [] (kvK (F.map λ p=>(ql p,V.bl true)))))):=sm.to hd;refine⟨_,rfl,ls,rfl,h9,λ r1 H3 g4 e3=>?_⟩;have hd3:H3 d=some (.dK (qV [] (kvK (F.map λ p=>(ql p,V.bl true))))):=g4 _ _ qc;have t8:(zg ls).length<=512:=by rw[qW];exact qaG h9
 refine⟨r1,rfl,⟨_,SqL.of e3⟩,?_⟩;refine qcc (SqL.of e3) (λ j=>(((zg ls).map λ p=>F.contains p).take j).map V.bl) rfl (λ j hj=>?_) ?_ ?_
 ·rw[Ut,Uc,Ut];exact zl (by omega)
 ·intro j x H4 D2 Y Z hx bV sT rV hY hZ;obtain⟨p,B4,rfl⟩:=qj hx;refine⟨⟨rfl,rfl⟩,?_⟩;refine⟨_,rfl,_,rfl,d,_,rfl,qaS.k (k:=Sum.inr (ql p)) (rV _ _ hd3),?_⟩;rw[qd5];exact hY _ _ sT rV (yF (f:=V.bl) (by rw[Zl,B4];rfl))
 ·intro D2 H4 bV rV sT;rw[Ut,XH (by rw[Ut];exact Qs _)] at sT;refine⟨D2,(zg ls).map λ p=>F.contains p,ls.length,rfl,SqL.of sT,by rw[Ut,qW],by omega,h9,λ r H5 g5 e5=>?_⟩;exact q r H5 (((g3.trans g4).trans rV).trans g5) e5
def qi8(K:W.Frag):Sp:=λ vs H Q _=>∃(a:Addr)(t:List Bool)(ls:List Nat),vs=[vS ls,.ref a]/\SqL K H a (t.map V.bl)/\t.length=2^ls.length/\ls.length<=9/\ls.Nodup /\
 ∀ r H',qg H H'->H' r=some (.tup ((qaV ls t).map vS))->Q (.ref r) H'
theorem qgW:FnScope ["letters","table","products"] ["letters","table"] (qh qaZ):=scF
theorem qi9:(["product","stands"]:List Str).Nodup:=by decide +kernel
theorem qlQ{α β:Type}{as:List α}{bs:List β}{i:Nat}{a:α}{b:β}(h1:as[i]?=some a)(h2:bs[i]?=some b):(as.zip bs)[i]?=some (a,b):=kM h1 h2
theorem qe7{ss:List Str}{F:List Pr}(h:ss.map V.str=F.map vS):(qao ss).map V.str=(srt F).map vS:=by
 have e:ss=F.map ql:=by
  rw[jL] at h;exact List.map_inj_right (λ a b e=>by injection e) |>.mp h
 subst e;unfold qao;rw[qlG,jL]
theorem qku{f fp fs:Addr}{fd pU pS:FuncData}(F:Fun K "form_of" "form_of" qaZ f fd)(T:Txt mg)(Gp:Dp P w K mg base 1 fp pU ["letters"] qby "products_over")(Gs:Dp P w K mg base 10 fs pS ["truths"] (qe4 K 10) "summed"):FnOk P w K mg base CX0 11 f fd ["letters","table"] (qi8 K):=by
 refine F.okd qgW (λ cdv A outer s H vs Q E hr h=>?_);obtain⟨a,t,ls,rfl,hS,ht,h9,nd,q⟩:=h;have C5:Room 1 _:=hr.mono (by decide);refine⟨_,qd (qr (i:=2) qgW.nd rfl (Or.inl rfl) (ze Gp.g C5 rfl Gp.m Gp.e Gp.b .nil qE (qa (pv 0) qb)))
  (qe (qk (zr jn rfl T.tuple qcu (qa (qz qco rfl T.sorted qa1 (qa (qan (n:=2) (csc (NY:=["product","stands"]) (o:=2) (caps:=[]) [] rfl (by simp) jK rfl) rfl
   (qfP rfl T.zip (qa (pv 2) (qa (ze Gs.g hr rfl Gs.m Gs.e Gs.b .nil qE (qa (pv 1) qb)) qb)))
   (λ C s H fp pins=>qF (qp (i:=0) qi9 rfl (Or.inl rfl)) (qF (qp (i:=1) qi9 rfl (Or.inl rfl)) zJ)) (λ _=>rfl) (λ _=>rfl)
   (λ C s H fp pins=>qbt (j8 (pv 1))) (λ C s H fp pins=>pv 0)) qb)) qb)))),?_⟩
 have t8:(zg ls).length<=512:=by rw[qW];exact qaG h9
 refine⟨_,rfl,ls,rfl,h9,λ r1 H1 g1 e1=>?_⟩;refine⟨_,rfl,_,rfl,a,t,ls.length,rfl,g1.seq hS,ht,by omega,h9,λ r2 H2 g2 e2=>?_⟩;have f1:=g2 _ _ e1;have sl:=qS _ _ ht;refine⟨r1,r2,rfl,⟨_,SqL.of f1⟩,⟨_,SqL.of e2⟩,?_⟩;have pk:∀ i,((((zg ls).zip (zi ls.length t)).take i).filterMap λ x=>if x.2=true then some x.1 else none).length<=512:=λ i=>by
  refine Qf (List.length_filterMap_le _ _) ?_;rw[Uc,U8];omega
 refine qfX (SqL.of f1) (SqL.of e2) (by rw[Ut,Ut,sl,qW]) (λ i=>((((zg ls).zip (zi ls.length t)).take i).filterMap λ x=>if x.2=true then some x.1 else none).map vS) rfl (λ i hi=>?_) ?_ ?_
 ·rw[Ut];exact zl (Qf (pk i) (by decide))
 ·intro i x y H3 D Y Z hx hy hD M4 sm hY hZ;obtain⟨p,hp,rfl⟩:=qj hx;obtain⟨b,hb,rfl⟩:=qj hy;refine⟨_,_,rfl,_,_,rfl,rfl,⟨rfl,rfl⟩,?_⟩;refine⟨_,rfl,b,rfl,?_⟩;have ez:(((zg ls).zip (zi ls.length t)).take (i+1))=((zg ls).zip (zi ls.length t)).take i++[(p,b)]:=zj (qlQ hp hb);cases b with
  |true =>
   refine qah ?_;refine⟨_,rfl,hY _ _ M4 sm ?_⟩;rw[ez,XW,U2];rfl
  |false =>
   refine ya ?_;refine hZ _ M4 sm ?_;rw[ez,XW,U2];exact Uu _
 ·intro D H3 hD sm M4;rw[XH (by rw[U8,Ut];omega)] at M4;have cQ:(yb ls (zi ls.length t)).length<=512:=Qf (jE _ _).length_le t8;have hnd:((yb ls (zi ls.length t)).map ql).Nodup:=Zr.mpr ((qak _ nd).imp λ{a b} w6 e=>w6 (vo e));refine⟨D,(yb ls (zi ls.length t)).map ql,rfl,SqL.of (by rw[<- jL];exact M4),by rw[Ut];show _<4096;omega,hnd,λ l hl=>?_⟩;rw[qe7 (jL _).symm];refine⟨l,_,rfl,.inl ⟨SqL.of qc,λ r L1=>?_⟩⟩;exact q r _ (((g1.trans g2).trans (sm.to hl)).to L1) qc
def qf9(K:W.Frag)(g:List Pr->List Pr->List Pr):Sp:=λ vs H Q _=>∃(a b:Addr)(F G:List Pr)(ls:List Nat),vs=[.ref a,.ref b]/\SqT K H a (F.map vS)/\SqT K H b (G.map vS)/\Ok9 ls/\On ls F/\On ls G /\
 ∀ r H',qg H H'->H' r=some (.tup ((g F G).map vS))->Q (.ref r) H'
def sp2(K:W.Frag)(g:List Pr->List Pr->List Pr):Sp:=λ vs H Q _=>∃(a b:Addr)(F G:List Pr)(ls:List Nat),vs=[.ref a,.ref b]/\SqT K H a (F.map vS)/\SqT K H b (G.map vS)/\Ok9 ls/\On ls F/\On ls G/\F.flatten.length+G.flatten.length<=4000 /\
 ∀ r H',qg H H'->H' r=some (.tup ((g F G).map vS))->Q (.ref r) H'
theorem qja:FnScope ["one","other"] ["one","other"] (qh qd2):=scF
theorem qjb{k:Nat}{f:Addr}{fd:FuncData}(F:Fun K "added" "added" qd2 f fd)(T:Txt mg):FnOk P w K mg base CX0 (k+1) f fd ["one","other"] (qf9 K added):=by
 refine F.okd qja (λ cdv A outer s H vs Q E hr h=>?_);obtain⟨a,b,F,G,ls,rfl,hF,hG,o5,oF,oG,q⟩:=h;have lF:=o5.le oF;have lG:=o5.le oG;refine⟨_,qe (qk (zr jn rfl T.tuple qcu (qa (qz (qcn rfl) rfl T.sorted qa1 (qa (qm qiM (zr (qb7 rfl) rfl T.set qf6 (qa (pv 0) qb)) (zr (qb7 rfl) rfl T.set qf6 (qa (pv 1) qb))) qb)) qb))),?_⟩;rw[jL] at hF hG;refine⟨_,rfl,F.map ql,.inl ⟨a,rfl,.inr hF⟩,by rw[Ut];show _<4096;omega,λ l1 ys h1 sF m1=>?_⟩;refine⟨_,rfl,G.map ql,.inl ⟨b,rfl,.inr ((qg.up h1).seqT hG)⟩,by rw[Ut];show _<4096;omega,λ l2 zs h2 lD m2=>?_⟩;have n12:l1≠l2:=qZ qc h2;have y1:ys.length=F.length:=qay sF oF.vf.nodup λ x=>(m1 x).trans qax
 have z1:zs.length=G.length:=qay lD oG.vf.nodup λ x=>(m2 x).trans qax
 refine⟨l1,l2,ys,zs,rfl,rfl,by rw[qt n12,qc],qc,by omega,by omega,λ l3 us h3 uX m3=>?_⟩;have ndd:=qbO oF.vf.nodup oG.vf.nodup;have md:∀ x,x∈us ↔ cs x∈qey F G:=λ x=>by rw[m3 x,m1 x,m2 x,qax,qax,qbN]
 have ld:us.length=(added F G).length:=by rw[qay uX ndd md];exact((zQ _).length_eq).symm
 have l32:=qhG F G;refine⟨l3,us,rfl,qc,by show _<4096;omega,uX,λ l4 h4=>?_⟩;rw[qgO uX ndd md];refine⟨l4,_,rfl,.inl ⟨SqL.of qc,λ r L1=>?_⟩⟩;exact q r _ (((((qg.up h1).to h2).to h3).to h4).to L1) qc
theorem qbz:FnScope ["one","other","letters","lefts","rights"] ["one","other"] (qh jP):=scF
theorem qkv{f fl ft ff:Addr}{fd fdl fdt fdf:FuncData}(F:Fun K "multiplied" "multiplied" jP f fd)(T:Txt mg)(Gl:Dp P w K mg base 1 fl fdl ["form"] (qa2 K) "letters_of")(Gt:Dp P w K mg base 11 ft fdt ["form","letters"] (qgV K) "table_of")(Gf:Dp P w K mg base 11 ff fdf ["letters","table"] (qi8 K) "form_of"):FnOk P w K mg base CX0 12 f fd ["one","other"] (sp2 K mult):=by
 refine F.okd qbz (λ cdv A outer s H vs Q E hr h=>?_);obtain⟨a,b,F,G,ls,rfl,hF,hG,o5,oF,oG,oK,q⟩:=h;have C5:Room 1 _:=hr.mono (by decide);have lF:=o5.le oF;have lG:=o5.le oG;refine⟨_,qd (qr (i:=2) qbz.nd rfl (Or.inl rfl) (ze Gl.g C5 rfl Gl.m Gl.e Gl.b .nil qE (qa (qm qiA (pv 0) (pv 1)) qb)))
  (qd (qr (i:=3) qbz.nd rfl (Or.inl rfl) (ze Gt.g hr rfl Gt.m Gt.e Gt.b .nil qE (qa (pv 0) (qa (pv 2) qb))))
  (qd (qr (i:=4) qbz.nd rfl (Or.inl rfl) (ze Gt.g hr rfl Gt.m Gt.e Gt.b .nil qE (qa (pv 1) (qa (pv 2) qb))))
  (qe (qk (ze Gf.g hr rfl Gf.m Gf.e Gf.b .nil qE (qa (pv 2) (qa (qan (n:=2) (csc (NY:=["left","right"]) (o:=2) (caps:=[]) [] rfl (by simp) jK rfl) rfl
   (qfP rfl T.zip (qa (pv 3) (qa (pv 4) qb)))
   (λ C s H fp pins=>qF (qp (i:=0) qgU rfl (Or.inl rfl)) (qF (qp (i:=1) qgU rfl (Or.inl rfl)) zJ)) (λ _=>rfl) (λ _=>rfl)
   (λ C s H fp pins=>zz) (λ C s H fp pins=>qh8 (pv 0) (qft (pv 1)))) qb))))))),?_⟩
 have wI:∀ p∈F++G,∀ c∈p,c∈ls:=λ p hp=>by
  rcases Ur.mp hp with h|h
  ·exact oF.mem p h
  ·exact oG.mem p h
 have lle:=qeP o5.rise wI;have l5:=o5.len;have lr:=zy (F++G);have aC:(F++G).flatten.length<=4000:=by
  rw[List.flatten_append,Za];omega
 refine⟨_,rfl,_,rfl,a,b,_,_,rfl,rfl,hF,hG,by rw[Ut,Ut];exact qu (by omega),λ p H1 g1 hp=>?_⟩;rw[<- U2] at hp;refine⟨p,F++G,rfl,hp,aC,by rw[Za];omega,by omega,λ H2 g2=>?_⟩;have A3:=g1.trans g2;refine⟨_,rfl,_,rfl,a,F,qG (F++G),rfl,A3.seqT hF,by omega,by omega,λ r1 H3 g3 e3=>?_⟩;have K6:=A3.trans g3;refine⟨_,rfl,_,rfl,b,G,qG (F++G),rfl,K6.seqT hG,by omega,by omega,λ r2 H4 g4 e4=>?_⟩;have f3:=g4 _ _ e3;have t1:=zv F (qG (F++G));have t2:=zv G (qG (F++G));have h512:2^(qG (F++G)).length<=512:=qaG (by omega);refine⟨_,rfl,_,rfl,_,rfl,r1,r2,rfl,⟨_,SqL.of f3⟩,⟨_,SqL.of e4⟩,?_⟩;refine qfX (SqL.of f3) (SqL.of e4) (by rw[Ut,Ut,t1,t2]) (λ i=>((List.zipWith (· && ·) (jF F (qG (F++G))) (jF G (qG (F++G)))).take i).map V.bl) rfl (λ i hi=>?_) ?_ ?_
 ·rw[Ut,Uc];rw[Ut,t1] at hi;exact zl (by omega)
 ·intro i x y H5 D Y Z hx hy hD S7 sm hY hZ;obtain⟨b1,N9,rfl⟩:=qj hx;obtain⟨b2,N8,rfl⟩:=qj hy;refine⟨_,_,rfl,_,_,rfl,rfl,⟨rfl,rfl⟩,?_⟩;refine⟨_,rfl,b1,rfl,?_⟩;have st:=yF (f:=V.bl) (kM (f:=(· && ·)) N9 N8);cases b1 with
  |true =>
   refine qah ?_;exact⟨_,rfl,hY _ _ S7 sm st⟩
  |false =>
   refine ya ?_;exact hY _ _ S7 sm st
 ·intro D H5 hD sm S7;rw[XH (by rw[Yv,Ut];omega)] at S7;refine⟨D,_,qG (F++G),rfl,SqL.of S7,by rw[Yv,t1,t2];exact Nat.min_self _,by omega,zx Jx lr,λ r H6 g6 e6=>?_⟩;exact q r H6 (((K6.trans g4).trans sm).trans g6) e6
theorem qhJ:FnScope ["one","other"] ["one","other"] (qh qcr):=scF
theorem qhK{f fa fm:Addr}{fd pV fdm:FuncData}(F:Fun K "joined" "joined" qcr f fd)(Ga:Dp P w K mg base 1 fa pV ["one","other"] (qf9 K added) "added")(Gm:Dp P w K mg base 12 fm fdm ["one","other"] (sp2 K mult) "multiplied"):FnOk P w K mg base CX0 13 f fd ["one","other"] (sp2 K join):=by
 refine F.okd qhJ (λ cdv A outer s H vs Q E hr h=>?_);obtain⟨a,b,F,G,ls,rfl,hF,hG,o5,oF,oG,oK,q⟩:=h;have C5:Room 1 _:=hr.mono (by decide);refine⟨_,qe (qk (ze Ga.g C5 rfl Ga.m Ga.e Ga.b .nil qE (qa (ze Ga.g C5 rfl Ga.m Ga.e Ga.b .nil qE (qa (pv 0) (qa (pv 1) qb))) (qa (ze Gm.g hr rfl Gm.m Gm.e Gm.b .nil qE (qa (pv 0) (qa (pv 1) qb))) qb)))),?_⟩;refine⟨_,rfl,_,rfl,a,b,F,G,ls,rfl,hF,hG,o5,oF,oG,λ r1 H1 g1 e1=>?_⟩;refine⟨_,rfl,_,rfl,a,b,F,G,ls,rfl,g1.seqT hF,g1.seqT hG,o5,oF,oG,oK,λ r2 H2 g2 e2=>?_⟩;refine⟨r1,r2,_,_,ls,rfl,SqT.of (g2 _ _ e1),SqT.of e2,o5,oF.added oG,oF.mult oG,λ r H3 g3 e3=>?_⟩;exact q r H3 ((g1.trans g2).trans g3) e3
def sp1(K:W.Frag)(g:List Pr->List Pr):Sp:=λ vs H Q _=>∃(a:Addr)(F:List Pr)(ls:List Nat),vs=[.ref a]/\SqT K H a (F.map vS)/\Ok9 ls/\On ls F/\∀ r H',qg H H'->H' r=some (.tup ((g F).map vS))->Q (.ref r) H'
theorem qlR:FnScope ["form"] ["form"] (qh kW):=scF
theorem qlS{f fa al:Addr}{fd pV:FuncData}(F:Fun K "opposite" "opposite" kW f fd)(wC:mg "ALWAYS"=some (.ref al))(hal:∀ H,SqT K H al (([[]]:List Pr).map vS))(Ga:Dp P w K mg base 1 fa pV ["one","other"] (qf9 K added) "added"):FnOk P w K mg base CX0 2 f fd ["form"] (sp1 K opp):=by
 refine F.okd qlR (λ cdv A outer s H vs Q E hr h=>?_);obtain⟨a,F,ls,rfl,hF,o5,oF,q⟩:=h;refine⟨_,qe (qk (ze Ga.g hr rfl Ga.m Ga.e Ga.b .nil qE (qa (pv 0) (qa (zR (v:=.ref al) rfl wC rfl) qb)))),?_⟩;refine⟨_,rfl,a,al,F,[[]],ls,rfl,hF,hal _,o5,oF,On.one ls,λ r H1 g1 e1=>?_⟩;exact q r H1 g1 e1
noncomputable def zw:List Nat:=[97,98,99,112,113,114,120,121,122]
theorem qhL:zw.Pairwise (·<·):=by decide
theorem qe8:("abcpqrxyz":Str)=ql zw:=by decide +kernel
theorem vJ{ls:List Nat}{i:Nat}(h:i<ls.length):sgn (ql ls) i=vS [ls[i]]:=by
 unfold sgn;show V.str ⟨#[ls.toArray.getD i 0]⟩=V.str ⟨#[ls[i]]⟩
 rw[Xg];simp[h]
def Dv(Γ:St->Hp->Prop)(te:TE)(v:V):Prop:=∀ σ H Q,Γ σ H->(∀ H',qg H H'->Q v H')->te σ H Q
def Dt(Γ:St->Hp->Prop)(tt:TT)(b:Bool):Prop:=∀ σ H Q,Γ σ H->(∀ H',qg H H'->Q b H')->tt σ H Q
def Stb(Γ:St->Hp->Prop):Prop:=∀ σ H H',Γ σ H->qg H H'->Γ σ H'
section
variable {Γ:St->Hp->Prop}{t1 t2 t3:TE}{F G:List Pr}{ls:List Nat}{g:List Pr->List Pr->List Pr}{g1:List Pr->List Pr}
theorem qkw:([V.str ""]:List V)=([[]]:List Pr).map vS:=by
 have hz:("":Str)=ql []:=by decide +kernel
 rw[hz];rfl
theorem qnC(st:Stb Γ){a b:Bool}(h1:Dv Γ t1 (.bl a))(h2:Dv Γ t2 (.bl b)):Dv Γ (tOp rNe t1 t2) (.bl (a != b)):=λ σ H Q hΓ q =>
 h1 σ H _ hΓ λ H1 g1=>h2 σ H1 _ (st _ _ _ hΓ g1) λ H2 g2=>⟨rfl,by rw[qgN];exact q H2 (g1.trans g2)⟩
theorem zc{b:Bool}(h:Dv Γ t1 (.bl b)):Dt Γ (qik t1) b:=λ σ H Q hΓ q=>h σ H _ hΓ λ H1 g1=>⟨b,rfl,q H1 g1⟩
end
def At(σ0:St)(H0:Hp):St->Hp->Prop:=λ σ H=>σ=σ0/\qg H0 H
theorem qw{σ0:St}{H0:Hp}:Stb (At σ0 H0):=λ _ _ _ h g=>⟨h.1,h.2.trans g⟩
theorem at0{σ0:St}{H0:Hp}:At σ0 H0 σ0 H0:=⟨rfl,qg.refl _⟩
section
variable {Γ:St->Hp->Prop}{t1 t2 t3:TE}
theorem qnD(st:Stb Γ){a b:Bool}(h1:Dv Γ t1 (.bl a))(h2:Dv Γ t2 (.bl b)):Dv Γ (ql8 t1 t2) (.bl (a || b)):=λ σ H Q hΓ q=>h1 σ H _ hΓ λ H1 g1=>⟨a,rfl,by
 cases a with
 |true=>exact qah (q H1 g1)
 |false=>exact ya (h2 σ H1 _ (st _ _ _ hΓ g1) λ H2 g2=>q H2 (g1.trans g2))⟩
theorem qmF(st:Stb Γ){a b:Bool}(h1:Dv Γ t1 (.bl a))(h2:Dv Γ t2 (.bl b)):Dv Γ (qkW t1 t2) (.bl (a && b)):=λ σ H Q hΓ q=>h1 σ H _ hΓ λ H1 g1=>⟨a,rfl,by
 cases a with
 |true=>exact qah (h2 σ H1 _ (st _ _ _ hΓ g1) λ H2 g2=>q H2 (g1.trans g2))
 |false=>exact ya (q H1 g1)⟩
theorem qmG{a:Bool}(h1:Dv Γ t1 (.bl a)):Dv Γ (qkX t1) (.bl (!a)):=λ σ H Q hΓ q=>h1 σ H _ hΓ λ H1 g1=>⟨a,rfl,q H1 g1⟩
theorem zY{K:W.Frag}{σ0:St}{H0:Hp}{i:Nat}{p:Addr}{xs:List V}{n:Int}{v:V}(e:σ0[i]?=some (some (.ref p)))(h:SqT K H0 p xs)(ha:atI xs n=some v):Dv (At σ0 H0) (tOp (qmt K) (qel i) (tC (.int n))) v:=λ σ H Q g q =>
 ⟨_,by rw[g.1];exact e,p,xs,n,v,rfl,rfl,g.2.seqT h,ha,q H (qg.refl H)⟩
end
inductive Tr where 
 |letter (c:Nat)|one
 |zero
 |neg (t:Tr)|bin (op:Nat)(t u:Tr)
noncomputable def yA:List Nat:=[108,101,116,116,101,114]
theorem jZ:("letter":Str)=ql yA:=by decide +kernel
def zM(H:Hp):Tr->V->Prop
 |.letter c,v=>∃ a,v=.ref a/\H a=some (.tup [vS yA,vS [c]])
 |.one,v=>∃ a,v=.ref a/\H a=some (.tup [vS [49]])
 |.zero,v=>∃ a,v=.ref a/\H a=some (.tup [vS [48]])
 |.neg t,v=>∃ a x,v=.ref a/\H a=some (.tup [vS [126],x])/\zM H t x
 |.bin op t u,v=>∃ a x y,v=.ref a/\H a=some (.tup [vS [op],x,y])/\zM H t x/\zM H u y
def qY(H H':Hp):Prop:=∀ b xs,H b=some (.tup xs)->H' b=some (.tup xs)
theorem qP{H H':Hp}(g:qg H H'):qY H H':=λ _ _ e=>g _ _ e
theorem qY.updL{H:Hp}{l:Addr}{xs:List V}{o:HO}(h:H l=some (.lst xs)):qY H (upd H l o):=λ b ys e=>by
 have:b≠l:=λ q=>by rw[q,h] at e;cases e
 rw[qt this];exact e
theorem qY.trans{H H1 H2:Hp}(a:qY H H1)(b:qY H1 H2):qY H H2:=λ c xs e=>b _ _ (a _ _ e)
theorem zM.mono{H H':Hp}(g:qY H H'):∀{t:Tr}{v:V},zM H t v->zM H' t v
 |.letter c,_,⟨a,e,h⟩=>⟨a,e,g _ _ h⟩
 |.one,_,⟨a,e,h⟩=>⟨a,e,g _ _ h⟩
 |.zero,_,⟨a,e,h⟩=>⟨a,e,g _ _ h⟩
 |.neg t,_,⟨a,x,e,h,r⟩=>⟨a,x,e,g _ _ h,zM.mono g r⟩
 |.bin op t u,_,⟨a,x,y,e,h,r,r'⟩=>⟨a,x,y,e,g _ _ h,zM.mono g r,zM.mono g r'⟩
noncomputable def Tr.ht:Tr->Nat
 |.neg t=>t.ht+1
 |.bin _ t u=>max t.ht u.ht+1
 |_=>1
def Tr.Of(ls:List Nat):Tr->Prop
 |.letter c=>c∈ls
 |.neg t=>t.Of ls
 |.bin op t u=>(op=38∨op=124∨op=43)/\t.Of ls/\u.Of ls
 |_=>True
section
variable {Γ:St->Hp->Prop}{t1 t2:TE}{u1 u2:TT}
theorem qnE(st:Stb Γ){a b:Bool}(h1:Dt Γ u1 a)(h2:Dt Γ u2 b):Dt Γ (tOr u1 u2) (a || b):=λ σ H Q hΓ q=>h1 σ H _ hΓ λ H1 g1=>by
 cases a with
 |true=>exact qah (q H1 g1)
 |false=>exact ya (h2 σ H1 _ (st _ _ _ hΓ g1) λ H2 g2=>q H2 (g1.trans g2))
theorem qmH(st:Stb Γ){a b:Bool}(h1:Dt Γ u1 a)(h2:Dt Γ u2 b):Dt Γ (ql7 u1 u2) (a && b):=λ σ H Q hΓ q=>h1 σ H _ hΓ λ H1 g1=>by
 cases a with
 |true=>exact qah (h2 σ H1 _ (st _ _ _ hΓ g1) λ H2 g2=>q H2 (g1.trans g2))
 |false=>exact ya (q H1 g1)
theorem dI0(st:Stb Γ){g:Int->Int->V}{i j:Int}(h1:Dv Γ t1 (.int i))(h2:Dv Γ t2 (.int j)):Dv Γ (tOp (rI0 g) t1 t2) (g i j):=λ σ H Q hΓ q =>
 h1 σ H _ hΓ λ H1 g1=>h2 σ H1 _ (st _ _ _ hΓ g1) λ H2 g2=>⟨i,j,rfl,rfl,q H2 (g1.trans g2)⟩
theorem dIE(st:Stb Γ){i j:Int}(h1:Dv Γ t1 (.int i))(h2:Dv Γ t2 (.int j)):Dv Γ (tOp rEq t1 t2) (.bl (decide (i=j))):=λ σ H Q hΓ q =>
 h1 σ H _ hΓ λ H1 g1=>h2 σ H1 _ (st _ _ _ hΓ g1) λ H2 g2=>⟨rfl,by rw[show decide (V.int i=V.int j)=decide (i=j) by simp];exact q H2 (g1.trans g2)⟩
theorem qjc(st:Stb Γ){i j:Int}(h1:Dv Γ t1 (.int i))(hj:0<j):Dv Γ (tOp (rI (λ _ j=>0<j) λ i j=>.int (i % j)) t1 (tC (.int j))) (.int (i % j)):=λ σ H Q hΓ q =>
 h1 σ H _ hΓ λ H1 g1=>⟨i,j,rfl,rfl,hj,q H1 g1⟩
theorem qlT(st:Stb Γ){i j:Int}(h1:Dv Γ t1 (.int i))(h2:Dv Γ t2 (.int j)):Dt Γ (qik (tOp (rI0 λ i j=>.bl (decide (i<j))) t1 t2)) (decide (i<j)):=zc (dI0 st h1 h2)
theorem dC{v:V}:Dv Γ (tC v) v:=λ σ H Q hΓ q=>q H (qg.refl H)
theorem dvA{σ0:St}{H0:Hp}{i:Nat}{v:V}(e:σ0[i]?=some (some v)):Dv (At σ0 H0) (qel i) v:=λ σ H Q g q=>⟨v,by rw[g.1];exact e,q H (qg.refl H)⟩
theorem qnF{σ0:St}{H0:Hp}{i:Nat}{p:Addr}{xs:List V}(e:σ0[i]?=some (some (.ref p)))(h:SqL K H0 p xs):Dv (At σ0 H0) (tCB (λ xs H Q=>∃ p ys,xs=[.ref p]/\(SqL K H p ys∨SqT K H p ys)/\Q (.int ys.length) H) (ve (qel i) yI)) (.int xs.length):=λ σ H Q g q =>
 ⟨.ref p,by rw[g.1];exact e,p,xs,rfl,.inl (g.2.seq h),q H (qg.refl H)⟩
theorem zP{tc:TT}{A B:TS}{D:Ends}{σ:St}{H:Hp}{b:Bool}(h:Dt Γ tc b)(hΓ:Γ σ H)(kA:b=true->∀ H',qg H H'->A D σ H')(kB:b=false->∀ H',qg H H'->B D σ H'):qmc tc A B D σ H:=h σ H _ hΓ λ H' g=>by
 cases b with
 |true=>exact qah (kA rfl H' g)
 |false=>exact ya (kB rfl H' g)
end
noncomputable def Tr.wt:Tr->Nat
 |.neg t=>t.wt+1
 |.bin _ t u=>t.wt+u.wt
 |_=>1
theorem Tr.wt_pos:∀ t:Tr,1<=t.wt
 |.letter _=>Qs _
 |.one=>Qs _
 |.zero=>Qs _
 |.neg t=>by show 1<=t.wt+1;omega
 |.bin _ t u=>by have:=Tr.wt_pos t;show 1<=t.wt+u.wt;omega
theorem Tr.ht_wt:∀ t:Tr,t.ht<=t.wt
 |.letter _=>Qs _
 |.one=>Qs _
 |.zero=>Qs _
 |.neg t=>Nat.succ_le_succ (Tr.ht_wt t)
 |.bin _ t u=>by
  have a:=Tr.ht_wt t;have b:=Tr.ht_wt u;have c:=Tr.wt_pos t;have d:=Tr.wt_pos u;show max t.ht u.ht+1<=t.wt+u.wt
  omega
theorem Tr.ht1(t:Tr):1<=t.ht:=by cases t <;> simp[Tr.ht]
theorem Tr.wt_leaf:∀{t:Tr},t.ht=1->t.wt=1
 |.letter _,_=>rfl
 |.one,_=>rfl
 |.zero,_=>rfl
 |.neg t,h=>by have:t.ht+1=1:=h;have:=t.ht1;omega
 |.bin _ t u,h=>by have:max t.ht u.ht+1=1:=h;have:=t.ht1;omega
theorem ym{α:Type}(l:List α)(x:α):(l++[x])[(l++[x]).length-1]?=some x:=by simp
theorem qkx:("&|+":Str)=ql [38,124,43]:=by decide +kernel
theorem qnG:("|+&":Str)=ql [124,43,38]:=by decide +kernel
theorem qhM:("~":Str)=ql [126]:=by decide +kernel
theorem qjd{l:List Nat}{i:Int}(h0:0<=i)(h:i<(l.length:Int)):∃ c∈l,atI l i=some c:=by
 have hk:i.toNat<l.length:=by omega
 have:=qae (xs:=l) (j:=i.toNat) (Xw hk)
 rw[show((i.toNat:Nat):Int)=i by omega] at this;exact⟨_,Ui hk,this⟩
def Tr.Has(c:Nat):Tr->Prop
 |.letter l=>c=l
 |.neg t=>t.Has c
 |.bin _ t u=>t.Has c∨u.Has c
 |_=>False
theorem Tr.Of.has{ls:List Nat}{c:Nat}:∀{t:Tr},t.Of ls->t.Has c->c∈ls
 |.letter l,h,e=>by rw[show c=l from e];exact h
 |.neg t,h,e=>Tr.Of.has (t:=t) h e
 |.bin _ t u,h,e=>e.elim (Tr.Of.has (t:=t) h.2.1) (Tr.Of.has (t:=u) h.2.2)
 |.one,_,e=>e.elim
 |.zero,_,e=>e.elim
theorem qje:("1":Str)=ql [49]:=by decide +kernel
theorem qjf:("0":Str)=ql [48]:=by decide +kernel
theorem qjg:("&":Str)=ql [38]:=by decide +kernel
theorem qjh:("|":Str)=ql [124]:=by decide +kernel
theorem Tr.ht_pos(t:Tr):1<=t.ht:=by cases t <;> simp[Tr.ht]
section
variable {Γ:St->Hp->Prop}{t1 t2:TE}
theorem yO(st:Stb Γ){p q:List Nat}(h1:Dv Γ t1 (vS p))(h2:Dv Γ t2 (vS q)):Dv Γ (tOp rEq t1 t2) (.bl (decide (p=q))):=λ σ H Q hΓ k =>
 h1 σ H _ hΓ λ H1 g1=>h2 σ H1 _ (st _ _ _ hΓ g1) λ H2 g2=>⟨rfl,by
  have e:decide (vS p=vS q)=decide (p=q):=by
   by_cases h:p=q
   ·rw[h];simp
   ·rw[Ja h,Ja λ e=>h (qfR e)]
  rw[e];exact k H2 (g1.trans g2)⟩
theorem qbg{σ0:St}{H0:Hp}{i:Nat}{p:Addr}{xs:List V}(e:σ0[i]?=some (some (.ref p)))(h:SqT K H0 p xs):Dv (At σ0 H0) (tCB (λ xs H Q=>∃ p ys,xs=[.ref p]/\(SqL K H p ys∨SqT K H p ys)/\Q (.int ys.length) H) (ve (qel i) yI)) (.int xs.length):=λ σ H Q g q =>
 ⟨.ref p,by rw[g.1];exact e,p,xs,rfl,.inr (g.2.seqT h),q H (qg.refl H)⟩
theorem j7{D:Ends}{σ:St}{H:Hp}{v:V}(h:Dv Γ t1 v)(hΓ:Γ σ H)(k:∀ H',qg H H'->D.rt v H'):qld t1 D σ H:=h σ H _ hΓ k
theorem qji{i:Nat}{D:Ends}{σ:St}{H:Hp}{v:V}(h:Dv Γ t1 v)(hΓ:Γ σ H)(k:∀ H',qg H H'->D.nx (σ.set i (some v)) H'):qjX t1 (jr i) D σ H:=h σ H _ hΓ k
end
structure CA where 
 always:Addr
 never:Addr
 letter:Addr
 not:Addr
 and:Addr
 or:Addr
 either:Addr
noncomputable def CA.bin(c:CA)(op:Nat):Addr:=if op=38 then c.and else if op=124 then c.or else c.either
structure CTxt(K:W.Frag)(c:CA)(iL iN iP:Addr):Prop where
 always:Cls K c.always
 never:Cls K c.never
 letter:Cls K c.letter
 not:Cls K c.not
 and:Cls K c.and
 or:Cls K c.or
 either:Cls K c.either
 mAlways:Mk0 K c.always
 mNever:Mk0 K c.never
 mLetter:Mk K c.letter iL
 mNot:Mk K c.not iN
 mAnd:Mk K c.and iP
 mOr:Mk K c.or iP
 mEither:Mk K c.either iP
 aLetter:NoAttr K c.letter "letter"
 aNot:NoAttr K c.not "one"
 aAnd:NoAttr K c.and "one"/\NoAttr K c.and "other"
 aOr:NoAttr K c.or "one"/\NoAttr K c.or "other"
 aEither:NoAttr K c.either "one"/\NoAttr K c.either "other"
theorem CTxt.bin{K:W.Frag}{c:CA}{iL iN iP:Addr}(h:CTxt K c iL iN iP)(op:Nat):Cls K (c.bin op)/\NoAttr K (c.bin op) "one"/\NoAttr K (c.bin op) "other":=by
 unfold CA.bin;split
 ·exact⟨h.and,h.aAnd⟩
 ·split
  ·exact⟨h.or,h.aOr⟩
  ·exact⟨h.either,h.aEither⟩
def qJ(c:CA)(H:Hp):Tr->V->Prop
 | .letter l,v=>∃ a dx,v=.ref a/\H a=some (.ins c.letter dx [("letter",vS [l])])
 |.one,v=>∃ a dx,v=.ref a/\H a=some (.ins c.always dx [])
 |.zero,v=>∃ a dx,v=.ref a/\H a=some (.ins c.never dx [])
 | .neg t,v=>∃ a dx x,v=.ref a/\H a=some (.ins c.not dx [("one",x)])/\qJ c H t x
 | .bin op t u,v=>∃ a dx x y,v=.ref a/\H a=some (.ins (c.bin op) dx [("one",x),("other",y)])/\qJ c H t x/\qJ c H u y
theorem qJ.mono{c:CA}{H H':Hp}(g:qg H H'):∀{t:Tr}{v:V},qJ c H t v->qJ c H' t v
 |.letter _,_,⟨a,dx,e,h⟩=>⟨a,dx,e,g _ _ h⟩
 |.one,_,⟨a,dx,e,h⟩=>⟨a,dx,e,g _ _ h⟩
 |.zero,_,⟨a,dx,e,h⟩=>⟨a,dx,e,g _ _ h⟩
 |.neg t,_,⟨a,dx,x,e,h,r⟩=>⟨a,dx,x,e,g _ _ h,qJ.mono g r⟩
 |.bin op t u,_,⟨a,dx,x,y,e,h,r,r'⟩=>⟨a,dx,x,y,e,g _ _ h,qJ.mono g r,qJ.mono g r'⟩
def v1(K:W.Frag)(f:Str):Sp:=λ vs H Q _=>∃(C x dx:Addr)(y:V),vs=[.ref x,y]/\H x=some (.ins C dx [])/\Cls K C/\NoAttr K C f/\Q .non (upd H x (.ins C dx [(f,y)]))
def qd6(K:W.Frag)(f g:Str):Sp:=λ vs H Q _=>∃(C x dx:Addr)(y z:V),vs=[.ref x,y,z]/\H x=some (.ins C dx [])/\Cls K C/\NoAttr K C f/\NoAttr K C g/\Q .non (upd (upd H x (.ins C dx [(f,y)])) x (.ins C dx [(f,y),(g,z)]))
theorem qjj:FnScope ["self","letter"] ["self","letter"] (qh jp):=scF
theorem qjk:FnScope ["self","one"] ["self","one"] (qh k4):=scF
theorem qjl:FnScope ["self","one","other"] ["self","one","other"] (qh vv):=scF
theorem qjm{k:Nat}{f:Addr}{fd:FuncData}(F:Fun K "__init__" "Letter.__init__" jp f fd):FnOk P w K mg base CX0 (k+1) f fd ["self","letter"] (v1 K "letter"):=by
 refine F.okd qjj (λ cdv A outer s H vs Q E hr h=>?_);obtain⟨C,x,dx,y,rfl,hx,c,n,q⟩:=h;refine⟨_,qe (jy (pv 0) (pv 1) rfl),?_⟩;exact⟨_,rfl,_,rfl,x,C,dx,[],rfl,hx,c,n,by decide,q⟩
theorem qjn{k:Nat}{f:Addr}{fd:FuncData}(F:Fun K "__init__" "Not.__init__" k4 f fd):FnOk P w K mg base CX0 (k+1) f fd ["self","one"] (v1 K "one"):=by
 refine F.okd qjk (λ cdv A outer s H vs Q E hr h=>?_);obtain⟨C,x,dx,y,rfl,hx,c,n,q⟩:=h;refine⟨_,qe (jy (pv 0) (pv 1) rfl),?_⟩;exact⟨_,rfl,_,rfl,x,C,dx,[],rfl,hx,c,n,by decide,q⟩
theorem qjo{k:Nat}{f:Addr}{fd:FuncData}(F:Fun K "__init__" "Pair.__init__" vv f fd):FnOk P w K mg base CX0 (k+1) f fd ["self","one","other"] (qd6 K "one" "other"):=by
 refine F.okd qjl (λ cdv A outer s H vs Q E hr h=>?_);obtain⟨C,x,dx,y,z,rfl,hx,c,n,n2,q⟩:=h;refine⟨_,qd (jy (pv 0) (pv 1) rfl) (qe (jy (pv 0) (pv 2) rfl)),?_⟩;exact⟨_,rfl,_,rfl,x,C,dx,[],rfl,hx,c,n,by decide,_,rfl,_,rfl,x,C,dx,_,rfl,qc,c,n2,by show 1<1000;decide,q⟩
noncomputable def Tr.text:Tr->List Nat
 |.letter c=>[c]
 |.one=>[49]
 |.zero=>[48]
 |.neg t=>[126]++t.text
 |.bin op t u=>[40]++t.text++[op]++u.text++[41]
noncomputable def Tr.nodes:Tr->Int
 |.neg t=>1+t.nodes
 |.bin _ t u=>1+t.nodes+u.nodes
 |_=>1
noncomputable def Tr.lets:Tr->List Nat
 |.letter c=>[c]
 |.neg t=>t.lets
 |.bin _ t u=>uni t.lets u.lets
 |_=>[]
theorem Tr.text_len':∀ t:Tr,t.text.length+3<=4*t.wt
 |.letter _=>by show 1+3<=4*1;decide
 |.one=>by show 1+3<=4*1;decide
 |.zero=>by show 1+3<=4*1;decide
 |.neg t=>by
  have:=Tr.text_len' t
  show([126]++t.text).length+3<=4*(t.wt+1)
  rw[Za,XS];omega
 |.bin op t u=>by
  have h1:=Tr.text_len' t;have h2:=Tr.text_len' u;show([40]++t.text++[op]++u.text++[41]).length+3<=4*(t.wt+u.wt)
  simp only[Za,XS];omega
theorem Tr.text_len:∀ t:Tr,t.text.length<=4*t.wt
 |.letter _=>by show 1<=4*1;decide
 |.one=>by show 1<=4*1;decide
 |.zero=>by show 1<=4*1;decide
 |.neg t=>by
  have:=Tr.text_len t
  show([126]++t.text).length<=4*(t.wt+1)
  rw[Za,XS];omega
 |.bin op t u=>by
  have h1:=Tr.text_len' t;have h2:=Tr.text_len' u;show([40]++t.text++[op]++u.text++[41]).length<=4*(t.wt+u.wt)
  simp only[Za,XS];omega
theorem qky(p q:List Nat):(uni p q).length<=p.length+q.length:=by
 rw[<- Za];exact jt (m:=p++q) (zx Jx (zy _)) λ c hc=>Ur.mpr (qgS.mp hc)
theorem Tr.lets_len:∀ t:Tr,t.lets.length<=t.wt
 |.letter _=>Qs _
 |.one=>Qt _
 |.zero=>Qt _
 |.neg t=>Zw (Tr.lets_len t)
 |.bin op t u=>Qf (qky _ _) (Nat.add_le_add (Tr.lets_len t) (Tr.lets_len u))
theorem Tr.lets_rise:∀ t:Tr,t.lets.Pairwise (·<·)
 |.letter _=>by simp[Tr.lets]
 |.one=>by simp[Tr.lets]
 |.zero=>by simp[Tr.lets]
 |.neg t=>Tr.lets_rise t
 |.bin op t u=>zy _
theorem Tr.mem_lets{c:Nat}:∀ t:Tr,c∈t.lets ↔ t.Has c
 |.letter _=>Zf
 |.one=>⟨λ h=>(by cases h),λ h=>h.elim⟩
 |.zero=>⟨λ h=>(by cases h),λ h=>h.elim⟩
 |.neg t=>Tr.mem_lets t
 |.bin op t u=>qgS.trans (or_congr (Tr.mem_lets t) (Tr.mem_lets u))
def kA(t:Tr):Prop:=t=.one
def kN(t:Tr):Prop:=t=.zero
def kL(t:Tr):Prop:=∃ l,t=.letter l
def kO(t:Tr):Prop:=∃ u,t=.neg u
def kD(t:Tr):Prop:=∃ u v,t=.bin 38 u v
def kR(t:Tr):Prop:=∃ u v,t=.bin 124 u v
def kE(t:Tr):Prop:=∃ u v,t=.bin 43 u v
def kP(t:Tr):Prop:=∃ op u v,t=.bin op u v
def spV(f:Tr->V)(c:CA)(n:Nat)(κ:Tr->Prop):Sp:=λ vs H Q _=>∃(o:V)(t:Tr),vs=[o]/\qJ c H t o/\t.ht<=n/\t.wt<=1000/\t.Of zw/\κ t/\∀ H',qg H H'->Q (f t) H'
abbrev tV(f:Tr->V)(c:CA)(n:Nat)(m:Str)(κd κr κe:Tr->Prop)(te:TE):TE:=(λ σ H Q=>yh c.always m (spV f c n kA) [] E0 te yI σ H Q∨(λ σ H Q=>yh c.never m (spV f c n kN) [] E0 te yI σ H Q∨(λ σ H Q=>yh c.letter m (spV f c n kL) [] E0 te yI σ H Q∨(λ σ H Q=>yh c.not m (spV f c n kO) [] E0 te yI σ H Q∨(λ σ H Q=>yh c.and m (spV f c n κd) [] E0 te yI σ H Q∨(λ σ H Q=>yh c.or m (spV f c n κr) [] E0 te yI σ H Q∨yh c.either m (spV f c n κe) [] E0 te yI σ H Q) σ H Q) σ H Q) σ H Q) σ H Q) σ H Q)
theorem dV{f:Tr->V}{n:Nat}{m:Str}{κd κr κe:Tr->Prop}{c:CA}{σ0:St}{H0:Hp}{te:TE}{o:V}{t:Tr}(hl:∀ x y:V,List.lookup m [(("letter":Str),x)]=none/\List.lookup m [(("one":Str),x)]=none/\List.lookup m [(("one":Str),x),(("other":Str),y)]=none)(hd:∀ u v,κd (.bin 38 u v))(hr:∀ u v,κr (.bin 124 u v))(he:∀ u v,κe (.bin 43 u v))(h1:Dv (At σ0 H0) te o)(ob:qJ c H0 t o)(ht:t.ht<=n)(hw:t.wt<=1000)(of:t.Of zw):
  Dv (At σ0 H0) (tV f c n m κd κr κe te) (f t):=by
 intro σ H Q hΓ q;have go:∀(κ:Tr->Prop)(C:Addr)(a dx:Addr)(fs:List (Str×V)),κ t->o=.ref a->H0 a=some (.ins C dx fs)->fs.lookup m=none->yh C m (spV f c n κ) [] E0 te yI σ H Q:=λ κ C a dx fs hκ eo ha hl =>
  h1 σ H _ hΓ λ H1 g1=>⟨a,dx,fs,eo,(hΓ.2.trans g1) _ _ ha,hl,o,t,rfl,ob.mono (hΓ.2.trans g1),ht,hw,of,hκ,λ H' g=>q H' (g1.trans g)⟩
 cases t with
 |one=>obtain⟨a,dx,e,h⟩:=ob;exact .inl (go kA _ a dx _ rfl e h rfl)
 |zero=>obtain⟨a,dx,e,h⟩:=ob;exact .inr (.inl (go kN _ a dx _ rfl e h rfl))
 |letter l=>obtain⟨a,dx,e,h⟩:=ob;exact .inr (.inr (.inl (go kL _ a dx _ ⟨l,rfl⟩ e h (hl _ .non).1)))
 |neg u=>obtain⟨a,dx,x,e,h,_⟩:=ob;exact .inr (.inr (.inr (.inl (go kO _ a dx _ ⟨u,rfl⟩ e h (hl _ .non).2.1))))
 |bin op u v =>
  obtain⟨a,dx,x,y,e,h,_⟩:=ob;rcases of.1 with rfl|rfl|rfl
  ·exact .inr (.inr (.inr (.inr (.inl (go κd _ a dx _ (hd u v) e h (hl _ _).2.2)))))
  ·exact .inr (.inr (.inr (.inr (.inr (.inl (go κr _ a dx _ (hr u v) e h (hl _ _).2.2))))))
  ·exact .inr (.inr (.inr (.inr (.inr (.inr (go κe _ a dx _ (he u v) e h (hl _ _).2.2))))))
structure MTxt(K:W.Frag)(c:CA)(m:Str)(fA fN fL fO fD fR fE:Addr):Prop where
 always:Meth K c.always m fA
 never:Meth K c.never m fN
 letter:Meth K c.letter m fL
 not:Meth K c.not m fO
 and:Meth K c.and m fD
 or:Meth K c.or m fR
 either:Meth K c.either m fE
structure VOk(P:Program)(w:World)(K:W.Frag)(mg:Str->Option Value)(base:Heap)(f:Tr->V)(c:CA)(n:Nat)(κd κr κe:Tr->Prop)(fA fN fL fO fD fR fE:Addr)(dA dN dL dO dD dR dE:FuncData):Prop where
 always:FnOk P w K mg base CX0 n fA dA ["self"] (spV f c n kA)
 never:FnOk P w K mg base CX0 n fN dN ["self"] (spV f c n kN)
 letter:FnOk P w K mg base CX0 n fL dL ["self"] (spV f c n kL)
 not:FnOk P w K mg base CX0 n fO dO ["self"] (spV f c n kO)
 and:FnOk P w K mg base CX0 n fD dD ["self"] (spV f c n κd)
 or:FnOk P w K mg base CX0 n fR dR ["self"] (spV f c n κr)
 either:FnOk P w K mg base CX0 n fE dE ["self"] (spV f c n κe)
theorem kf{X:Cx}{f:Tr->V}{c:CA}{n:Nat}{m:Str}{κd κr κe:Tr->Prop}{iL iN iP fA fN fL fO fD fR fE:Addr}{dA dN dL dO dD dR dE:FuncData}{o:Expr}{ta:TE}{apos pos:Pos}{pl:Sem Bool}(he:PE X o ta)(C:CTxt X.K c iL iN iP)(M:MTxt X.K c m fA fN fL fO fD fR fE)(G:VOk X.prog X.w X.K X.mg X.base f c n κd κr κe fA fN fL fO fD fR fE dA dN dL dO dD dR dE)(hr:Room n X.A)(bA:qf X.K dA ["self"] [])(bN:qf X.K dN ["self"] [])(bL:qf X.K dL ["self"] [])(bO:qf X.K dO ["self"] [])(bD:qf X.K dD ["self"] [])(bR:qf X.K dR ["self"] [])(bE:qf X.K dE ["self"] [])(ht:eval (.Call (.Attribute o m apos) [] [] pos) X.env=(do
   let ov <- eval o X.env
   standAt apos.atName
   let (f,first) <- holding [ov] (getMethod ov m pl)
   callWith pos f first (backTo pos (starEach [] X.env)) (backToKw pos (keywordEach [] X.env))):=by rfl):PE X (.Call (.Attribute o m apos) [] [] pos) (tV f c n m κd κr κe ta):=
 PE.or (qB he C.always M.always G.always hr bA .nil qE ht) (PE.or (qB he C.never M.never G.never hr bN .nil qE ht) (PE.or (qB he C.letter M.letter G.letter hr bL .nil qE ht) (PE.or (qB he C.not M.not G.not hr bO .nil qE ht) (PE.or (qB he C.and M.and G.and hr bD .nil qE ht) (PE.or (qB he C.or M.or G.or hr bR .nil qE ht) (qB he C.either M.either G.either hr bE .nil qE ht))))))
theorem j2{σ0:St}{H0:Hp}{a C dx:Addr}{fs:List (Str×V)}{f:Str}{v:V}(e:σ0[0]?=some (some (.ref a)))(h:H0 a=some (.ins C dx fs))(c:Cls K C)(n:NoAttr K C f)(l:fs.lookup f=some v):Dv (At σ0 H0) (qmj K (qel 0) f) v:=λ σ H Q g q =>
 ⟨.ref a,by rw[g.1];exact e,a,C,dx,fs,v,rfl,g.2 _ _ h,c,n,l,q H (qg.refl H)⟩
theorem jb{Γ:St->Hp->Prop}{t1 t2:TE}(st:Stb Γ){p q:List Nat}(h1:Dv Γ t1 (vS p))(h2:Dv Γ t2 (vS q))(hl:p.length+q.length<=100000):Dv Γ (tOp rAS t1 t2) (vS (p++q)):=λ σ H Q hΓ k =>
 h1 σ H _ hΓ λ H1 g1=>h2 σ H1 _ (st _ _ _ hΓ g1) λ H2 g2=>⟨ql p,ql q,rfl,rfl,by rw[qK,qK];exact qu hl,by rw[ju];exact k H2 (g1.trans g2)⟩
theorem qcv:("(":Str)=ql [40]:=by decide +kernel
theorem v9:(")":Str)=ql [41]:=by decide +kernel
theorem qlU:("+":Str)=ql [43]:=by decide +kernel
theorem qlV:("":Str)=ql []:=by decide +kernel
noncomputable abbrev zN(t:Tr):V:=vS t.text
noncomputable abbrev vSz(t:Tr):V:=.int t.nodes
theorem qcP:FnScope ["self"] ["self"] (qh yo):=scF
theorem qd7:FnScope ["self"] ["self"] (qh yU):=scF
theorem qcQ:FnScope ["self"] ["self"] (qh yr):=scF
theorem qga:FnScope ["self"] ["self"] (qh jR):=scF
theorem qgb:FnScope ["self"] ["self"] (qh jU):=scF
theorem qhN:FnScope ["self"] ["self"] (qh vX):=scF
theorem qcR:FnScope ["self"] ["self"] (qh yw):=scF
theorem qcS:FnScope ["self"] ["self"] (qh yp):=scF
theorem qd8:FnScope ["self"] ["self"] (qh yV):=scF
theorem qcT:FnScope ["self"] ["self"] (qh yt):=scF
theorem qgc:FnScope ["self"] ["self"] (qh jS):=scF
theorem qe9:FnScope ["self"] ["self"] (qh jk):=scF
section
variable {c:CA}{iL iN iP fA fN fL fO fD fR fE fP:Addr}{dA dN dL dO dD dR dE dP:FuncData}{n:Nat}
theorem qfa(F:Fun K "text" "Always.text" yo fA dA):FnOk P w K mg base CX0 (n+1) fA dA ["self"] (spV zN c (n+1) kA):=by
 refine F.okd qcP (λ cdv A outer s H vs Q E hr h=>?_);obtain⟨o,t,rfl,ob,ht,hw,of,rfl,q⟩:=h;refine⟨_,qe (qk qo),?_⟩;rw[qje];exact q H (qg.refl H)
theorem qgd(F:Fun K "text" "Never.text" yU fN dN):FnOk P w K mg base CX0 (n+1) fN dN ["self"] (spV zN c (n+1) kN):=by
 refine F.okd qd7 (λ cdv A outer s H vs Q E hr h=>?_);obtain⟨o,t,rfl,ob,ht,hw,of,rfl,q⟩:=h;refine⟨_,qe (qk qo),?_⟩;rw[qjf];exact q H (qg.refl H)
theorem qfb(C:CTxt K c iL iN iP)(F:Fun K "text" "Letter.text" yr fL dL):FnOk P w K mg base CX0 (n+1) fL dL ["self"] (spV zN c (n+1) kL):=by
 refine F.okd qcQ (λ cdv A outer s H vs Q E hr h=>?_);obtain⟨o,t,rfl,ob,ht,hw,of,⟨l,rfl⟩,q⟩:=h;refine⟨_,qe (qk (za (pv 0) (by rfl))),?_⟩;obtain⟨a,dx,rfl,h⟩:=ob;exact j7 (j2 (K:=K) rfl h C.letter C.aLetter rfl) at0 q
theorem qjp(C:CTxt K c iL iN iP)(M:MTxt K c "text" fA fN fL fO fD fR fE)(G:VOk P w K mg base zN c n kD kR kE fA fN fL fO fD fR fE dA dN dL dO dD dR dE)(bA:qf K dA ["self"] [])(bN:qf K dN ["self"] [])(bL:qf K dL ["self"] [])(bO:qf K dO ["self"] [])(bD:qf K dD ["self"] [])(bR:qf K dR ["self"] [])(bE:qf K dE ["self"] [])(F:Fun K "text" "Not.text" jR fO dO):FnOk P w K mg base CX0 (n+1) fO dO ["self"] (spV zN c (n+1) kO):=by
 refine F.okd qga (λ cdv A outer s H vs Q E hr h=>?_);obtain⟨o,t,rfl,ob,ht,hw,of,⟨u,rfl⟩,q⟩:=h;have gT:u.wt+1<=1000:=hw;refine⟨_,qe (qk (qm qL qo (kf (za (pv 0) (by rfl)) C M G hr bA bN bL bO bD bR bE))),?_⟩;rw[qhM];obtain⟨a,dx,x,rfl,h,ou⟩:=ob;exact j7 (jb qw dC (dV (f:=zN) (n:=n) (κd:=kD) (κr:=kR) (κe:=kE) (λ _ _=>⟨rfl,rfl,rfl⟩) (λ _ _=>⟨_,_,rfl⟩) (λ _ _=>⟨_,_,rfl⟩) (λ _ _=>⟨_,_,rfl⟩) (j2 rfl h C.not C.aNot rfl) ou (XM ht) (by omega) of) (by have:=u.text_len;rw[XS];omega)) at0 q
theorem qjq(C:CTxt K c iL iN iP)(M:MTxt K c "text" fA fN fL fO fD fR fE)(G:VOk P w K mg base zN c n kD kR kE fA fN fL fO fD fR fE dA dN dL dO dD dR dE)(bA:qf K dA ["self"] [])(bN:qf K dN ["self"] [])(bL:qf K dL ["self"] [])(bO:qf K dO ["self"] [])(bD:qf K dD ["self"] [])(bR:qf K dR ["self"] [])(bE:qf K dE ["self"] [])(F:Fun K "text" "And.text" jU fD dD):FnOk P w K mg base CX0 (n+1) fD dD ["self"] (spV zN c (n+1) kD):=by
 refine F.okd qgb (λ cdv A outer s H vs Q E hr h=>?_);obtain⟨o,t,rfl,ob,ht,hw,of,⟨u,v,rfl⟩,q⟩:=h;refine⟨_,qe (qk (qm qL (qm qL (qm qL (qm qL qo (kf (za (pv 0) (by rfl)) C M G hr bA bN bL bO bD bR bE)) qo) (kf (za (pv 0) (by rfl)) C M G hr bA bN bL bO bD bR bE)) qo)),?_⟩;rw[qcv,v9,qjg];obtain⟨a,dx,x,y,rfl,h,ou,ov⟩:=ob;obtain⟨uM,fu,fv⟩:=of;have hm:max u.ht v.ht<=n:=XM ht;have gT:u.wt+v.wt<=1000:=hw;obtain⟨cB,n1,n2⟩:=C.bin 38;have l1:=u.text_len;have l2:=v.text_len;exact j7 (jb qw (jb qw (jb qw (jb qw dC (dV (f:=zN) (n:=n) (κd:=kD) (κr:=kR) (κe:=kE) (λ _ _=>⟨rfl,rfl,rfl⟩) (λ _ _=>⟨_,_,rfl⟩) (λ _ _=>⟨_,_,rfl⟩) (λ _ _=>⟨_,_,rfl⟩) (j2 rfl h cB n1 rfl) ou (by omega) (by omega) fu) (by rw[XS];omega)) dC (by simp only[Za,XS];omega)) (dV (f:=zN) (n:=n) (κd:=kD) (κr:=kR) (κe:=kE) (λ _ _=>⟨rfl,rfl,rfl⟩) (λ _ _=>⟨_,_,rfl⟩) (λ _ _=>⟨_,_,rfl⟩) (λ _ _=>⟨_,_,rfl⟩) (j2 rfl h cB n2 rfl) ov (by omega) (by omega) fv) (by simp only[Za,XS];omega)) dC (by simp only[Za,XS];omega)) at0 q
theorem qkz(C:CTxt K c iL iN iP)(M:MTxt K c "text" fA fN fL fO fD fR fE)(G:VOk P w K mg base zN c n kD kR kE fA fN fL fO fD fR fE dA dN dL dO dD dR dE)(bA:qf K dA ["self"] [])(bN:qf K dN ["self"] [])(bL:qf K dL ["self"] [])(bO:qf K dO ["self"] [])(bD:qf K dD ["self"] [])(bR:qf K dR ["self"] [])(bE:qf K dE ["self"] [])(F:Fun K "text" "Or.text" vX fR dR):FnOk P w K mg base CX0 (n+1) fR dR ["self"] (spV zN c (n+1) kR):=by
 refine F.okd qhN (λ cdv A outer s H vs Q E hr h=>?_);obtain⟨o,t,rfl,ob,ht,hw,of,⟨u,v,rfl⟩,q⟩:=h;refine⟨_,qe (qk (qm qL (qm qL (qm qL (qm qL qo (kf (za (pv 0) (by rfl)) C M G hr bA bN bL bO bD bR bE)) qo) (kf (za (pv 0) (by rfl)) C M G hr bA bN bL bO bD bR bE)) qo)),?_⟩;rw[qcv,v9,qjh];obtain⟨a,dx,x,y,rfl,h,ou,ov⟩:=ob;obtain⟨uM,fu,fv⟩:=of;have hm:max u.ht v.ht<=n:=XM ht;have gT:u.wt+v.wt<=1000:=hw;obtain⟨cB,n1,n2⟩:=C.bin 124;have l1:=u.text_len;have l2:=v.text_len;exact j7 (jb qw (jb qw (jb qw (jb qw dC (dV (f:=zN) (n:=n) (κd:=kD) (κr:=kR) (κe:=kE) (λ _ _=>⟨rfl,rfl,rfl⟩) (λ _ _=>⟨_,_,rfl⟩) (λ _ _=>⟨_,_,rfl⟩) (λ _ _=>⟨_,_,rfl⟩) (j2 rfl h cB n1 rfl) ou (by omega) (by omega) fu) (by rw[XS];omega)) dC (by simp only[Za,XS];omega)) (dV (f:=zN) (n:=n) (κd:=kD) (κr:=kR) (κe:=kE) (λ _ _=>⟨rfl,rfl,rfl⟩) (λ _ _=>⟨_,_,rfl⟩) (λ _ _=>⟨_,_,rfl⟩) (λ _ _=>⟨_,_,rfl⟩) (j2 rfl h cB n2 rfl) ov (by omega) (by omega) fv) (by simp only[Za,XS];omega)) dC (by simp only[Za,XS];omega)) at0 q
theorem qfc(C:CTxt K c iL iN iP)(M:MTxt K c "text" fA fN fL fO fD fR fE)(G:VOk P w K mg base zN c n kD kR kE fA fN fL fO fD fR fE dA dN dL dO dD dR dE)(bA:qf K dA ["self"] [])(bN:qf K dN ["self"] [])(bL:qf K dL ["self"] [])(bO:qf K dO ["self"] [])(bD:qf K dD ["self"] [])(bR:qf K dR ["self"] [])(bE:qf K dE ["self"] [])(F:Fun K "text" "Either.text" yw fE dE):FnOk P w K mg base CX0 (n+1) fE dE ["self"] (spV zN c (n+1) kE):=by
 refine F.okd qcR (λ cdv A outer s H vs Q E hr h=>?_);obtain⟨o,t,rfl,ob,ht,hw,of,⟨u,v,rfl⟩,q⟩:=h;refine⟨_,qe (qk (qm qL (qm qL (qm qL (qm qL qo (kf (za (pv 0) (by rfl)) C M G hr bA bN bL bO bD bR bE)) qo) (kf (za (pv 0) (by rfl)) C M G hr bA bN bL bO bD bR bE)) qo)),?_⟩;rw[qcv,v9,qlU];obtain⟨a,dx,x,y,rfl,h,ou,ov⟩:=ob;obtain⟨uM,fu,fv⟩:=of;have hm:max u.ht v.ht<=n:=XM ht;have gT:u.wt+v.wt<=1000:=hw;obtain⟨cB,n1,n2⟩:=C.bin 43;have l1:=u.text_len;have l2:=v.text_len;exact j7 (jb qw (jb qw (jb qw (jb qw dC (dV (f:=zN) (n:=n) (κd:=kD) (κr:=kR) (κe:=kE) (λ _ _=>⟨rfl,rfl,rfl⟩) (λ _ _=>⟨_,_,rfl⟩) (λ _ _=>⟨_,_,rfl⟩) (λ _ _=>⟨_,_,rfl⟩) (j2 rfl h cB n1 rfl) ou (by omega) (by omega) fu) (by rw[XS];omega)) dC (by simp only[Za,XS];omega)) (dV (f:=zN) (n:=n) (κd:=kD) (κr:=kR) (κe:=kE) (λ _ _=>⟨rfl,rfl,rfl⟩) (λ _ _=>⟨_,_,rfl⟩) (λ _ _=>⟨_,_,rfl⟩) (λ _ _=>⟨_,_,rfl⟩) (j2 rfl h cB n2 rfl) ov (by omega) (by omega) fv) (by simp only[Za,XS];omega)) dC (by simp only[Za,XS];omega)) at0 q
theorem qfd(F:Fun K "size" "Always.size" yp fA dA):FnOk P w K mg base CX0 (n+1) fA dA ["self"] (spV vSz c (n+1) kA):=by
 refine F.okd qcS (λ cdv A outer s H vs Q E hr h=>?_);obtain⟨o,t,rfl,ob,ht,hw,of,rfl,q⟩:=h;refine⟨_,qe (qk qi),?_⟩;exact q H (qg.refl H)
theorem qge(F:Fun K "size" "Never.size" yV fN dN):FnOk P w K mg base CX0 (n+1) fN dN ["self"] (spV vSz c (n+1) kN):=by
 refine F.okd qd8 (λ cdv A outer s H vs Q E hr h=>?_);obtain⟨o,t,rfl,ob,ht,hw,of,rfl,q⟩:=h;refine⟨_,qe (qk qi),?_⟩;exact q H (qg.refl H)
theorem qfe(F:Fun K "size" "Letter.size" yt fL dL):FnOk P w K mg base CX0 (n+1) fL dL ["self"] (spV vSz c (n+1) kL):=by
 refine F.okd qcT (λ cdv A outer s H vs Q E hr h=>?_);obtain⟨o,t,rfl,ob,ht,hw,of,⟨l,rfl⟩,q⟩:=h;exact⟨_,qe (qk qi),q H (qg.refl H)⟩
theorem qjr(C:CTxt K c iL iN iP)(M:MTxt K c "size" fA fN fL fO fD fR fE)(G:VOk P w K mg base vSz c n kP kP kP fA fN fL fO fD fR fE dA dN dL dO dD dR dE)(bA:qf K dA ["self"] [])(bN:qf K dN ["self"] [])(bL:qf K dL ["self"] [])(bO:qf K dO ["self"] [])(bD:qf K dD ["self"] [])(bR:qf K dR ["self"] [])(bE:qf K dE ["self"] [])(F:Fun K "size" "Not.size" jS fO dO):FnOk P w K mg base CX0 (n+1) fO dO ["self"] (spV vSz c (n+1) kO):=by
 refine F.okd qgc (λ cdv A outer s H vs Q E hr h=>?_);obtain⟨o,t,rfl,ob,ht,hw,of,⟨u,rfl⟩,q⟩:=h;have gT:u.wt+1<=1000:=hw;refine⟨_,qe (qk (qm yH qi (kf (za (pv 0) (by rfl)) C M G hr bA bN bL bO bD bR bE))),?_⟩;obtain⟨a,dx,x,rfl,h,ou⟩:=ob;exact j7 (dI0 qw dC (dV (f:=vSz) (n:=n) (κd:=kP) (κr:=kP) (κe:=kP) (λ _ _=>⟨rfl,rfl,rfl⟩) (λ _ _=>⟨_,_,_,rfl⟩) (λ _ _=>⟨_,_,_,rfl⟩) (λ _ _=>⟨_,_,_,rfl⟩) (j2 rfl h C.not C.aNot rfl) ou (XM ht) (by omega) of)) at0 q
theorem qa3(C:CTxt K c iL iN iP)(M:MTxt K c "size" fA fN fL fO fD fR fE)(G:VOk P w K mg base vSz c n kP kP kP fA fN fL fO fD fR fE dA dN dL dO dD dR dE)(bA:qf K dA ["self"] [])(bN:qf K dN ["self"] [])(bL:qf K dL ["self"] [])(bO:qf K dO ["self"] [])(bD:qf K dD ["self"] [])(bR:qf K dR ["self"] [])(bE:qf K dE ["self"] [])(F:Fun K "size" "Pair.size" jk fP dP):FnOk P w K mg base CX0 (n+1) fP dP ["self"] (spV vSz c (n+1) kP):=by
 refine F.okd qe9 (λ cdv A outer s H vs Q E hr h=>?_);obtain⟨o,t,rfl,ob,ht,hw,of,⟨op,u,v,rfl⟩,q⟩:=h;refine⟨_,qe (qk (qm yH (qm yH qi (kf (za (pv 0) (by rfl)) C M G hr bA bN bL bO bD bR bE)) (kf (za (pv 0) (by rfl)) C M G hr bA bN bL bO bD bR bE))),?_⟩;obtain⟨a,dx,x,y,rfl,h,ou,ov⟩:=ob;obtain⟨uM,fu,fv⟩:=of;have hm:max u.ht v.ht<=n:=XM ht;have gT:u.wt+v.wt<=1000:=hw;obtain⟨cB,n1,n2⟩:=C.bin op;exact j7 (dI0 qw (dI0 qw dC (dV (f:=vSz) (n:=n) (κd:=kP) (κr:=kP) (κe:=kP) (λ _ _=>⟨rfl,rfl,rfl⟩) (λ _ _=>⟨_,_,_,rfl⟩) (λ _ _=>⟨_,_,_,rfl⟩) (λ _ _=>⟨_,_,_,rfl⟩) (j2 rfl h cB n1 rfl) ou (by omega) (by omega) fu)) (dV (f:=vSz) (n:=n) (κd:=kP) (κr:=kP) (κe:=kP) (λ _ _=>⟨rfl,rfl,rfl⟩) (λ _ _=>⟨_,_,_,rfl⟩) (λ _ _=>⟨_,_,_,rfl⟩) (λ _ _=>⟨_,_,_,rfl⟩) (j2 rfl h cB n2 rfl) ov (by omega) (by omega) fv)) at0 q
theorem yc{f:Tr->V}{κ:Tr->Prop}{g:Addr}{fd:FuncData}:FnOk P w K mg base CX0 0 g fd ["self"] (spV f c 0 κ):=
 ⟨λ vs H Q E h=>by obtain⟨_,t,_,_,h,_⟩:=h;have:=t.ht1;omega,λ A outer s H args us vs Q E _ _ _ _ h=>by obtain⟨_,t,_,_,h,_⟩:=h;have:=t.ht1;omega⟩
theorem qff(C:CTxt K c iL iN iP)(M:MTxt K c "text" fA fN fL fO fD fR fE)(bA:qf K dA ["self"] [])(bN:qf K dN ["self"] [])(bL:qf K dL ["self"] [])(bO:qf K dO ["self"] [])(bD:qf K dD ["self"] [])(bR:qf K dR ["self"] [])(bE:qf K dE ["self"] [])(FA:Fun K "text" "Always.text" yo fA dA)(FN:Fun K "text" "Never.text" yU fN dN)(FL:Fun K "text" "Letter.text" yr fL dL)(FO:Fun K "text" "Not.text" jR fO dO)(FD:Fun K "text" "And.text" jU fD dD)(FR:Fun K "text" "Or.text" vX fR dR)(FE:Fun K "text" "Either.text" yw fE dE):
  ∀ n,VOk P w K mg base zN c n kD kR kE fA fN fL fO fD fR fE dA dN dL dO dD dR dE
 |0=>⟨yc,yc,yc,yc,yc,yc,yc⟩
 |n+1 =>
  have G:=qff C M bA bN bL bO bD bR bE FA FN FL FO FD FR FE n
  ⟨qfa FA,qgd FN,qfb C FL,qjp C M G bA bN bL bO bD bR bE FO,qjq C M G bA bN bL bO bD bR bE FD,qkz C M G bA bN bL bO bD bR bE FR,qfc C M G bA bN bL bO bD bR bE FE⟩
theorem qfg(C:CTxt K c iL iN iP)(M:MTxt K c "size" fA fN fL fO fP fP fP)(bA:qf K dA ["self"] [])(bN:qf K dN ["self"] [])(bL:qf K dL ["self"] [])(bO:qf K dO ["self"] [])(bP:qf K dP ["self"] [])(FA:Fun K "size" "Always.size" yp fA dA)(FN:Fun K "size" "Never.size" yV fN dN)(FL:Fun K "size" "Letter.size" yt fL dL)(FO:Fun K "size" "Not.size" jS fO dO)(FP:Fun K "size" "Pair.size" jk fP dP):
  ∀ n,VOk P w K mg base vSz c n kP kP kP fA fN fL fO fP fP fP dA dN dL dO dP dP dP
 |0=>⟨yc,yc,yc,yc,yc,yc,yc⟩
 |n+1 =>
  have G:=qfg C M bA bN bL bO bP FA FN FL FO FP n
  ⟨qfd FA,qge FN,qfe FL,qjr C M G bA bN bL bO bP bP bP FO,qa3 C M G bA bN bL bO bP bP bP FP,qa3 C M G bA bN bL bO bP bP bP FP,qa3 C M G bA bN bL bO bP bP bP FP⟩
end
noncomputable def Tr.val(ρ:Nat->Bool):Tr->Bool
 |.letter c=>ρ c
 |.one=>true
 |.zero=>false
 |.neg t=>!t.val ρ
 |.bin op t u=>if op=38 then t.val ρ && u.val ρ else if op=124 then t.val ρ || u.val ρ else t.val ρ != u.val ρ
noncomputable def Tr.form:Tr->List Pr
 |.letter l=>[[l]]
 |.one=>[[]]
 |.zero=>[]
 |.neg t=>opp t.form
 |.bin op t u=>if op=38 then mult t.form u.form else if op=124 then join t.form u.form else added t.form u.form
theorem qhO{ls:List Nat}{l:Nat}(h:l∈ls):On ls [[l]]:=⟨⟨by simp,by simp⟩,λ p hp c hc=>by
 rw[Zf.mp hp] at hc;rw[Zf.mp hc];exact h⟩
theorem Tr.on{ls:List Nat}:∀{t:Tr},t.Of ls->On ls t.form
 |.letter _,h=>qhO h
 |.one,_=>On.one ls
 |.zero,_=>On.nil ls
 |.neg t,h=>On.opp (Tr.on (t:=t) h)
 |.bin op t u,h=>by
  have h1:=Tr.on (t:=t) h.2.1;have h2:=Tr.on (t:=u) h.2.2;unfold Tr.form;split
  ·exact h1.mult h2
  ·split
   ·exact h1.join h2
   ·exact h1.added h2
theorem Tr.form_worth{ls:List Nat}(ρ:Nat->Bool):∀{t:Tr},t.Of ls->qC ρ t.form=t.val ρ
 |.letter _,_=>by simp[Tr.form,Tr.val,qC]
 |.one,_=>by simp[Tr.form,Tr.val,qC]
 |.zero,_=>by simp[Tr.form,Tr.val,qC]
 |.neg t,h=>by
  have h1:=Tr.on (t:=t) h;show qC ρ (opp t.form)=!t.val ρ
  rw[qhs ρ h1.vf,Tr.form_worth ρ (t:=t) h]
 |.bin op t u,h=>by
  have h1:=Tr.on (t:=t) h.2.1;have h2:=Tr.on (t:=u) h.2.2;have e1:=Tr.form_worth ρ (t:=t) h.2.1;have e2:=Tr.form_worth ρ (t:=u) h.2.2;unfold Tr.form Tr.val;split
  ·rw[qbW ρ h1.vf h2.vf,e1,e2]
  ·split
   ·rw[qbX ρ h1.vf h2.vf,e1,e2]
   ·rw[yD ρ h1.vf h2.vf,e1,e2]
theorem yY{t u:Tr}(h:∀ c,t.Has c->u.Has c):t.lets.length<=u.lets.length:=jt (zx Jx t.lets_rise) λ c hc=>u.mem_lets.mpr (h c (t.mem_lets.mp hc))
theorem Tr.Of.sub{ls us:List Nat}:∀{t:Tr},t.Of ls->(∀ c,t.Has c->c∈us)->t.Of us
 |.letter l,_,h=>h l rfl
 |.neg t,o,h=>Tr.Of.sub (t:=t) o h
 |.bin _ t u,o,h=>⟨o.1,Tr.Of.sub (t:=t) o.2.1 λ c hc=>h c (.inl hc),Tr.Of.sub (t:=u) o.2.2 λ c hc=>h c (.inr hc)⟩
 |.one,_,_=>trivial
 |.zero,_,_=>trivial
def Szd(t:Tr):Prop:=t.Of zw/\(t.lets.length<=6∨t.wt<=10)
theorem Szd.neg{t:Tr}(h:Szd (.neg t)):Szd t:=⟨h.1,h.2.elim .inl λ x=>.inr (Nat.le_of_succ_le x)⟩
theorem Szd.l{op:Nat}{t u:Tr}(h:Szd (.bin op t u)):Szd t:=⟨h.1.2.1,h.2.elim (λ x=>.inl (Qf (yY (t:=t) (u:=.bin op t u) λ c hc=>.inl hc) x)) λ x=>.inr (by have:t.wt+u.wt<=10:=x;omega)⟩
theorem Szd.r{op:Nat}{t u:Tr}(h:Szd (.bin op t u)):Szd u:=⟨h.1.2.2,h.2.elim (λ x=>.inl (Qf (yY (t:=u) (u:=.bin op t u) λ c hc=>.inr hc) x)) λ x=>.inr (by have:t.wt+u.wt<=10:=x;omega)⟩
theorem Tr.onl{t:Tr}(h:t.Of zw):On t.lets t.form:=Tr.on (Tr.Of.sub h λ c hc=>t.mem_lets.mpr hc)
theorem qkA:∀ a,a<=9->∀ b,b<=9->a+b<=10->a*2^a+b*2^b<=8000:=by decide
theorem qlW:∀ a,a<=6->a*2^a<=384:=by decide
theorem Szd.flat{op:Nat}{t u:Tr}(h:Szd (.bin op t u)):t.form.flatten.length+u.form.flatten.length<=4000:=by
 have f1:=(Tr.onl h.1.2.1).flat2 t.lets_rise;have f2:=(Tr.onl h.1.2.2).flat2 u.lets_rise;have l1:=t.lets_len;have l2:=u.lets_len;rcases h.2 with x|x
 ·have a1:=qlW t.lets.length (Qf (yY (t:=t) (u:=.bin op t u) λ c hc=>.inl hc) x);have a2:=qlW u.lets.length (Qf (yY (t:=u) (u:=.bin op t u) λ c hc=>.inr hc) x);omega
 ·have hx:t.wt+u.wt<=10:=x;have p1:=t.wt_pos;have p2:=u.wt_pos
  have:=qkA t.lets.length (by omega) u.lets.length (by omega) (by omega)
  omega
theorem qlX:Ok9 zw:=⟨qhL,by decide⟩
def gA(t:Tr):Prop:=t=.one
def gN(t:Tr):Prop:=t=.zero
def gL(t:Tr):Prop:=∃ l,t=.letter l
def gO(t:Tr):Prop:=∃ u,t=.neg u
def gD(t:Tr):Prop:=∃ u v,t=.bin 38 u v
def gR(t:Tr):Prop:=∃ u v,t=.bin 124 u v
def gE(t:Tr):Prop:=∃ op u v,t=.bin op u v/\¬ op=38/\¬ op=124
def DT(Γ:St->Hp->Prop)(te:TE)(F:List Pr):Prop:=∀ σ H Q,Γ σ H->(∀ r H',qg H H'->H' r=some (.tup (F.map vS))->Q (.ref r) H')->te σ H Q
section
variable {Γ:St->Hp->Prop}{t1 t2:TE}{F G:List Pr}{g:List Pr->List Pr->List Pr}{g1:List Pr->List Pr}
theorem dT2(st:Stb Γ)(h1:DT Γ t1 F)(h2:DT Γ t2 G)(oF:On zw F)(oG:On zw G)(hf:F.flatten.length+G.flatten.length<=4000):DT Γ (qba (sp2 K g) [] E0 (ve t1 (ve t2 yI))) (g F G):=λ σ H Q hΓ q =>
 h1 σ H _ hΓ λ r1 H1 g1 e1=>h2 σ H1 _ (st _ _ _ hΓ g1) λ r2 H2 g2 e2=>⟨r1,r2,F,G,zw,rfl,SqT.of (g2 _ _ e1),SqT.of e2,qlX,oF,oG,hf,λ r H' g e=>q r H' ((g1.trans g2).trans g) e⟩
theorem qnH(st:Stb Γ)(h1:DT Γ t1 F)(h2:DT Γ t2 G)(oF:On zw F)(oG:On zw G):DT Γ (qba (qf9 K g) [] E0 (ve t1 (ve t2 yI))) (g F G):=λ σ H Q hΓ q =>
 h1 σ H _ hΓ λ r1 H1 g1 e1=>h2 σ H1 _ (st _ _ _ hΓ g1) λ r2 H2 g2 e2=>⟨r1,r2,F,G,zw,rfl,SqT.of (g2 _ _ e1),SqT.of e2,qlX,oF,oG,λ r H' g e=>q r H' ((g1.trans g2).trans g) e⟩
theorem dT1(h1:DT Γ t1 F)(oF:On zw F):DT Γ (qba (sp1 K g1) [] E0 (ve t1 yI)) (g1 F):=λ σ H Q hΓ q =>
 h1 σ H _ hΓ λ r1 H1 g1 e1=>⟨r1,F,zw,rfl,SqT.of e1,qlX,oF,λ r H' g e=>q r H' (g1.trans g) e⟩
theorem qgX{D:Ends}{σ:St}{H:Hp}(h:DT Γ t1 F)(hΓ:Γ σ H)(k:∀ r H',qg H H'->H' r=some (.tup (F.map vS))->D.rt (.ref r) H'):qld t1 D σ H:=h σ H _ hΓ k
end
def jc(K:W.Frag)(c:CA)(n:Nat)(κ:Tr->Prop):Sp:=λ vs H Q _=>∃(o:V)(t:Tr),vs=[o]/\qJ c H t o/\t.ht<=n/\Szd t/\κ t/\∀ r H',qg H H'->H' r=some (.tup (t.form.map vS))->Q (.ref r) H'
abbrev tFm(K:W.Frag)(c:CA)(n:Nat)(te:TE):TE:=(λ σ H Q=>yh c.always "form" (jc K c n gA) [] E0 te yI σ H Q∨(λ σ H Q=>yh c.never "form" (jc K c n gN) [] E0 te yI σ H Q∨(λ σ H Q=>yh c.letter "form" (jc K c n gL) [] E0 te yI σ H Q∨(λ σ H Q=>yh c.not "form" (jc K c n gO) [] E0 te yI σ H Q∨(λ σ H Q=>yh c.and "form" (jc K c n gD) [] E0 te yI σ H Q∨(λ σ H Q=>yh c.or "form" (jc K c n gR) [] E0 te yI σ H Q∨yh c.either "form" (jc K c n gE) [] E0 te yI σ H Q) σ H Q) σ H Q) σ H Q) σ H Q) σ H Q)
theorem dfm{n:Nat}{c:CA}{σ0:St}{H0:Hp}{te:TE}{o:V}{t:Tr}(h1:Dv (At σ0 H0) te o)(ob:qJ c H0 t o)(ht:t.ht<=n)(sz:Szd t):
  DT (At σ0 H0) (tFm K c n te) t.form:=by
 intro σ H Q hΓ q;have go:∀(κ:Tr->Prop)(C:Addr)(a dx:Addr)(fs:List (Str×V)),κ t->o=.ref a->H0 a=some (.ins C dx fs)->fs.lookup ("form":Str)=none->yh C "form" (jc K c n κ) [] E0 te yI σ H Q:=λ κ C a dx fs hκ eo ha hl =>
  h1 σ H _ hΓ λ H1 g1=>⟨a,dx,fs,eo,(hΓ.2.trans g1) _ _ ha,hl,o,t,rfl,ob.mono (hΓ.2.trans g1),ht,sz,hκ,λ r H' g e=>q r H' (g1.trans g) e⟩
 cases t with
 |one=>obtain⟨a,dx,e,h⟩:=ob;exact .inl (go gA _ a dx _ rfl e h rfl)
 |zero=>obtain⟨a,dx,e,h⟩:=ob;exact .inr (.inl (go gN _ a dx _ rfl e h rfl))
 |letter l=>obtain⟨a,dx,e,h⟩:=ob;exact .inr (.inr (.inl (go gL _ a dx _ ⟨l,rfl⟩ e h rfl)))
 |neg u=>obtain⟨a,dx,x,e,h,_⟩:=ob;exact .inr (.inr (.inr (.inl (go gO _ a dx _ ⟨u,rfl⟩ e h rfl))))
 |bin op u v =>
  obtain⟨a,dx,x,y,e,h,_⟩:=ob;by_cases e38:op=38
  ·rw[CA.bin,Vh e38] at h;exact .inr (.inr (.inr (.inr (.inl (go gD _ a dx _ ⟨u,v,by rw[e38]⟩ e h rfl)))))
  ·by_cases e124:op=124
   ·rw[CA.bin,Vi e38,Vh e124] at h;exact .inr (.inr (.inr (.inr (.inr (.inl (go gR _ a dx _ ⟨u,v,by rw[e124]⟩ e h rfl))))))
   ·rw[CA.bin,Vi e38,Vi e124] at h;exact .inr (.inr (.inr (.inr (.inr (.inr (go gE _ a dx _ ⟨op,u,v,rfl,e38,e124⟩ e h rfl))))))
structure FTxt(K:W.Frag)(c:CA)(fA fN fL fO fD fR fE:Addr):Prop where
 always:Meth K c.always "form" fA
 never:Meth K c.never "form" fN
 letter:Meth K c.letter "form" fL
 not:Meth K c.not "form" fO
 and:Meth K c.and "form" fD
 or:Meth K c.or "form" fR
 either:Meth K c.either "form" fE
structure FOk(P:Program)(w:World)(K:W.Frag)(mg:Str->Option Value)(base:Heap)(c:CA)(n:Nat)(fA fN fL fO fD fR fE:Addr)(dA dN dL dO dD dR dE:FuncData):Prop where
 always:FnOk P w K mg base CX0 (n+13) fA dA ["self"] (jc K c n gA)
 never:FnOk P w K mg base CX0 (n+13) fN dN ["self"] (jc K c n gN)
 letter:FnOk P w K mg base CX0 (n+13) fL dL ["self"] (jc K c n gL)
 not:FnOk P w K mg base CX0 (n+13) fO dO ["self"] (jc K c n gO)
 and:FnOk P w K mg base CX0 (n+13) fD dD ["self"] (jc K c n gD)
 or:FnOk P w K mg base CX0 (n+13) fR dR ["self"] (jc K c n gR)
 either:FnOk P w K mg base CX0 (n+13) fE dE ["self"] (jc K c n gE)
theorem qcw{X:Cx}{c:CA}{n:Nat}{iL iN iP fA fN fL fO fD fR fE:Addr}{dA dN dL dO dD dR dE:FuncData}{o:Expr}{ta:TE}{apos pos:Pos}{pl:Sem Bool}(he:PE X o ta)(C:CTxt X.K c iL iN iP)(M:FTxt X.K c fA fN fL fO fD fR fE)(G:FOk X.prog X.w X.K X.mg X.base c n fA fN fL fO fD fR fE dA dN dL dO dD dR dE)(hr:Room (n+13) X.A)(bA:qf X.K dA ["self"] [])(bN:qf X.K dN ["self"] [])(bL:qf X.K dL ["self"] [])(bO:qf X.K dO ["self"] [])(bD:qf X.K dD ["self"] [])(bR:qf X.K dR ["self"] [])(bE:qf X.K dE ["self"] [])(ht:eval (.Call (.Attribute o "form" apos) [] [] pos) X.env=(do
   let ov <- eval o X.env
   standAt apos.atName
   let (f,first) <- holding [ov] (getMethod ov "form" pl)
   callWith pos f first (backTo pos (starEach [] X.env)) (backToKw pos (keywordEach [] X.env))):=by rfl):PE X (.Call (.Attribute o "form" apos) [] [] pos) (tFm X.K c n ta):=
 PE.or (qB he C.always M.always G.always hr bA .nil qE ht) (PE.or (qB he C.never M.never G.never hr bN .nil qE ht) (PE.or (qB he C.letter M.letter G.letter hr bL .nil qE ht) (PE.or (qB he C.not M.not G.not hr bO .nil qE ht) (PE.or (qB he C.and M.and G.and hr bD .nil qE ht) (PE.or (qB he C.or M.or G.or hr bR .nil qE ht) (qB he C.either M.either G.either hr bE .nil qE ht))))))
structure FFn(P:Program)(w:World)(K:W.Frag)(mg:Str->Option Value)(base:Heap)(fa fm fj fo:Addr)(da dm dj dp:FuncData):Prop where
 Ga:FnOk P w K mg base CX0 1 fa da ["one","other"] (qf9 K added)
 ba:qf K da ["one","other"] []
 ka:W.keepIn K (.ref fa)=true
 ma:mg "added"=some (.ref fa)
 Gm:FnOk P w K mg base CX0 12 fm dm ["one","other"] (sp2 K mult)
 bm:qf K dm ["one","other"] []
 km:W.keepIn K (.ref fm)=true
 mm:mg "multiplied"=some (.ref fm)
 Gj:FnOk P w K mg base CX0 13 fj dj ["one","other"] (sp2 K join)
 bj:qf K dj ["one","other"] []
 kj:W.keepIn K (.ref fj)=true
 mj:mg "joined"=some (.ref fj)
 Go:FnOk P w K mg base CX0 2 fo dp ["form"] (sp1 K opp)
 bo:qf K dp ["form"] []
 ko:W.keepIn K (.ref fo)=true
 mo:mg "opposite"=some (.ref fo)
theorem qgf:FnScope ["self"] ["self"] (qh yq):=scF
theorem qhP:FnScope ["self"] ["self"] (qh yW):=scF
theorem qgg:FnScope ["self"] ["self"] (qh yu):=scF
theorem qkB:FnScope ["self"] ["self"] (qh jT):=scF
theorem qkC:FnScope ["self"] ["self"] (qh jV):=scF
theorem qlY:FnScope ["self"] ["self"] (qh vY):=scF
theorem qgh:FnScope ["self"] ["self"] (qh yx):=scF
section
variable {c:CA}{iL iN iP fA fN fL fO fD fR fE fa fm fj fo:Addr}{dA dN dL dO dD dR dE da dm dj dp:FuncData}{n:Nat}
theorem qjs(F:Fun K "form" "Always.form" yq fA dA):FnOk P w K mg base CX0 (n+1+13) fA dA ["self"] (jc K c (n+1) gA):=by
 refine F.okd qgf (λ cdv A outer s H vs Q E hr h=>?_);obtain⟨o,t,rfl,ob,ht,sz,rfl,q⟩:=h;refine⟨_,qe (qk (zk (qa qo qb))),?_⟩;exact⟨qu (by show 1<=_;decide),λ p hp=>q p _ (qg.up hp) (by rw[qc,qkw];rfl)⟩
theorem qkD(F:Fun K "form" "Never.form" yW fN dN):FnOk P w K mg base CX0 (n+1+13) fN dN ["self"] (jc K c (n+1) gN):=by
 refine F.okd qhP (λ cdv A outer s H vs Q E hr h=>?_);obtain⟨o,t,rfl,ob,ht,sz,rfl,q⟩:=h;refine⟨_,qe (qk (zk qb)),?_⟩;exact⟨Qt _,λ p hp=>q p _ (qg.up hp) qc⟩
theorem qjt(C:CTxt K c iL iN iP)(F:Fun K "form" "Letter.form" yu fL dL):FnOk P w K mg base CX0 (n+1+13) fL dL ["self"] (jc K c (n+1) gL):=by
 refine F.okd qgg (λ cdv A outer s H vs Q E hr h=>?_);obtain⟨o,t,rfl,ob,ht,sz,⟨l,rfl⟩,q⟩:=h;refine⟨_,qe (qk (zk (qa (za (pv 0) rfl) qb))),?_⟩;obtain⟨a,dx,rfl,h⟩:=ob;exact j2 (K:=K) rfl h C.letter C.aLetter rfl _ _ _ at0 λ H1 g1=>⟨qu (by show 1<=_;decide),λ p hp=>q p _ (g1.to hp) qc⟩
theorem qmI(C:CTxt K c iL iN iP)(M:FTxt K c fA fN fL fO fD fR fE)(G:FOk P w K mg base c n fA fN fL fO fD fR fE dA dN dL dO dD dR dE)(N:FFn P w K mg base fa fm fj fo da dm dj dp)(bA:qf K dA ["self"] [])(bN:qf K dN ["self"] [])(bL:qf K dL ["self"] [])(bO:qf K dO ["self"] [])(bD:qf K dD ["self"] [])(bR:qf K dR ["self"] [])(bE:qf K dE ["self"] [])(F:Fun K "form" "Not.form" jT fO dO):FnOk P w K mg base CX0 (n+1+13) fO dO ["self"] (jc K c (n+1) gO):=by
 refine F.okd qkB (λ cdv A outer s H vs Q E hr h=>?_);obtain⟨o,t,rfl,ob,ht,sz,⟨u,rfl⟩,q⟩:=h;have B2:Room (n+13) _:=hr.mono (by omega);have cN:Room 2 _:=hr.mono (by omega);refine⟨_,qe (qk (ze N.Go cN (by rfl) N.mo N.ko N.bo .nil qE (qa (qcw (za (pv 0) (by rfl)) C M G B2 bA bN bL bO bD bR bE) qb))),?_⟩;obtain⟨a,dx,x,rfl,h,ou⟩:=ob;exact qgX (dT1 (dfm (n:=n) (j2 rfl h C.not C.aNot rfl) ou (XM ht) sz.neg) (Tr.on (t:=u) sz.1)) at0 q
theorem qmJ(C:CTxt K c iL iN iP)(M:FTxt K c fA fN fL fO fD fR fE)(G:FOk P w K mg base c n fA fN fL fO fD fR fE dA dN dL dO dD dR dE)(N:FFn P w K mg base fa fm fj fo da dm dj dp)(bA:qf K dA ["self"] [])(bN:qf K dN ["self"] [])(bL:qf K dL ["self"] [])(bO:qf K dO ["self"] [])(bD:qf K dD ["self"] [])(bR:qf K dR ["self"] [])(bE:qf K dE ["self"] [])(F:Fun K "form" "And.form" jV fD dD):FnOk P w K mg base CX0 (n+1+13) fD dD ["self"] (jc K c (n+1) gD):=by
 refine F.okd qkC (λ cdv A outer s H vs Q E hr h=>?_);obtain⟨o,t,rfl,ob,ht,sz,⟨u,v,rfl⟩,q⟩:=h;have B2:Room (n+13) _:=hr.mono (by omega);have nQ:Room 12 _:=hr.mono (by omega);refine⟨_,qe (qk (ze N.Gm nQ (by rfl) N.mm N.km N.bm .nil qE (qa (qcw (za (pv 0) (by rfl)) C M G B2 bA bN bL bO bD bR bE) (qa (qcw (za (pv 0) (by rfl)) C M G B2 bA bN bL bO bD bR bE) qb)))),?_⟩;obtain⟨a,dx,x,y,rfl,h,ou,ov⟩:=ob;have hb:c.bin 38=c.and:=by rw[CA.bin,Vh rfl]
 rw[hb] at h;obtain⟨_,fu,fv⟩:=sz.1;have hm:max u.ht v.ht<=n:=XM ht;rw[Tr.form,Vh rfl] at q;exact qgX (dT2 qw (dfm (n:=n) (j2 rfl h C.and C.aAnd.1 rfl) ou (by omega) sz.l) (dfm (n:=n) (j2 rfl h C.and C.aAnd.2 rfl) ov (by omega) sz.r) (Tr.on (t:=u) fu) (Tr.on (t:=v) fv) sz.flat) at0 q
theorem qnI(C:CTxt K c iL iN iP)(M:FTxt K c fA fN fL fO fD fR fE)(G:FOk P w K mg base c n fA fN fL fO fD fR fE dA dN dL dO dD dR dE)(N:FFn P w K mg base fa fm fj fo da dm dj dp)(bA:qf K dA ["self"] [])(bN:qf K dN ["self"] [])(bL:qf K dL ["self"] [])(bO:qf K dO ["self"] [])(bD:qf K dD ["self"] [])(bR:qf K dR ["self"] [])(bE:qf K dE ["self"] [])(F:Fun K "form" "Or.form" vY fR dR):FnOk P w K mg base CX0 (n+1+13) fR dR ["self"] (jc K c (n+1) gR):=by
 refine F.okd qlY (λ cdv A outer s H vs Q E hr h=>?_);obtain⟨o,t,rfl,ob,ht,sz,⟨u,v,rfl⟩,q⟩:=h;have B2:Room (n+13) _:=hr.mono (by omega);have nQ:Room 13 _:=hr.mono (by omega);refine⟨_,qe (qk (ze N.Gj nQ (by rfl) N.mj N.kj N.bj .nil qE (qa (qcw (za (pv 0) (by rfl)) C M G B2 bA bN bL bO bD bR bE) (qa (qcw (za (pv 0) (by rfl)) C M G B2 bA bN bL bO bD bR bE) qb)))),?_⟩;obtain⟨a,dx,x,y,rfl,h,ou,ov⟩:=ob;have hb:c.bin 124=c.or:=by rw[CA.bin,Vi (by decide),Vh rfl]
 rw[hb] at h;obtain⟨_,fu,fv⟩:=sz.1;have hm:max u.ht v.ht<=n:=XM ht;rw[Tr.form,Vi (by decide),Vh rfl] at q;exact qgX (dT2 qw (dfm (n:=n) (j2 rfl h C.or C.aOr.1 rfl) ou (by omega) sz.l) (dfm (n:=n) (j2 rfl h C.or C.aOr.2 rfl) ov (by omega) sz.r) (Tr.on (t:=u) fu) (Tr.on (t:=v) fv) sz.flat) at0 q
theorem qju(C:CTxt K c iL iN iP)(M:FTxt K c fA fN fL fO fD fR fE)(G:FOk P w K mg base c n fA fN fL fO fD fR fE dA dN dL dO dD dR dE)(N:FFn P w K mg base fa fm fj fo da dm dj dp)(bA:qf K dA ["self"] [])(bN:qf K dN ["self"] [])(bL:qf K dL ["self"] [])(bO:qf K dO ["self"] [])(bD:qf K dD ["self"] [])(bR:qf K dR ["self"] [])(bE:qf K dE ["self"] [])(F:Fun K "form" "Either.form" yx fE dE):FnOk P w K mg base CX0 (n+1+13) fE dE ["self"] (jc K c (n+1) gE):=by
 refine F.okd qgh (λ cdv A outer s H vs Q E hr h=>?_);obtain⟨o,t,rfl,ob,ht,sz,⟨op,u,v,rfl,eO,S2⟩,q⟩:=h;have B2:Room (n+13) _:=hr.mono (by omega);have nQ:Room 1 _:=hr.mono (by omega);refine⟨_,qe (qk (ze N.Ga nQ (by rfl) N.ma N.ka N.ba .nil qE (qa (qcw (za (pv 0) (by rfl)) C M G B2 bA bN bL bO bD bR bE) (qa (qcw (za (pv 0) (by rfl)) C M G B2 bA bN bL bO bD bR bE) qb)))),?_⟩;obtain⟨a,dx,x,y,rfl,h,ou,ov⟩:=ob;have hb:c.bin op=c.either:=by rw[CA.bin,Vi eO,Vi S2]
 rw[hb] at h;obtain⟨_,fu,fv⟩:=sz.1;have hm:max u.ht v.ht<=n:=XM ht;rw[Tr.form,Vi eO,Vi S2] at q;exact qgX (qnH qw (dfm (n:=n) (j2 rfl h C.either C.aEither.1 rfl) ou (by omega) sz.l) (dfm (n:=n) (j2 rfl h C.either C.aEither.2 rfl) ov (by omega) sz.r) (Tr.on (t:=u) fu) (Tr.on (t:=v) fv)) at0 q
theorem k8{κ:Tr->Prop}{f:Addr}{fd:FuncData}:FnOk P w K mg base CX0 (0+13) f fd ["self"] (jc K c 0 κ):=
 ⟨λ vs H Q E h=>by obtain⟨_,t,_,_,h,_⟩:=h;have:=t.ht1;omega,λ A outer s H args us vs Q E _ _ _ _ h=>by obtain⟨_,t,_,_,h,_⟩:=h;have:=t.ht1;omega⟩
theorem qjv(C:CTxt K c iL iN iP)(M:FTxt K c fA fN fL fO fD fR fE)(N:FFn P w K mg base fa fm fj fo da dm dj dp)(bA:qf K dA ["self"] [])(bN:qf K dN ["self"] [])(bL:qf K dL ["self"] [])(bO:qf K dO ["self"] [])(bD:qf K dD ["self"] [])(bR:qf K dR ["self"] [])(bE:qf K dE ["self"] [])(FA:Fun K "form" "Always.form" yq fA dA)(FN:Fun K "form" "Never.form" yW fN dN)(FL:Fun K "form" "Letter.form" yu fL dL)(FO:Fun K "form" "Not.form" jT fO dO)(FD:Fun K "form" "And.form" jV fD dD)(FR:Fun K "form" "Or.form" vY fR dR)(FE:Fun K "form" "Either.form" yx fE dE):
  ∀ n,FOk P w K mg base c n fA fN fL fO fD fR fE dA dN dL dO dD dR dE
 |0=>⟨k8,k8,k8,k8,k8,k8,k8⟩
 |n+1 =>
  have G:=qjv C M N bA bN bL bO bD bR bE FA FN FL FO FD FR FE n
  ⟨qjs FA,qkD FN,qjt C FL,qmI C M G N bA bN bL bO bD bR bE FO,qmJ C M G N bA bN bL bO bD bR bE FD,qnI C M G N bA bN bL bO bD bR bE FR,qju C M G N bA bN bL bO bD bR bE FE⟩
end
abbrev Fr:=Nat×Option Tr
abbrev PSt:=List Fr×Option Tr
noncomputable def wn:List Fr->Tr->List Fr×Tr
 | [],t=>([],t)
 |fr::fs,t=>if fr.1=126 then wn fs (.neg t) else(fr::fs,t)
noncomputable def yG(s:PSt):List Nat:=match s.2 with
 |none=>[48,49]++zw++[126,40]
 |some _=>match s.1 with
  | []=>[]
  |fr::_=>if fr.1=40 then [38,124,43] else [41]
noncomputable def jd(c:Nat):Tr:=if c=49 then .one else if c=48 then .zero else .letter c
noncomputable def stp(s:PSt)(c:Nat):PSt:=
 if c∈[126,40] then((c,none)::s.1,none)
 else if c∈[38,124,43] then(match s.1 with
  | []=>s
  |_::fs=>((c,s.2)::fs,none))
 else if c=41 then(match s.1,s.2 with
  |(op,some l)::fs,some r=>((wn fs (.bin op l r)).1,some (wn fs (.bin op l r)).2)
  |_,_=>s)
 else((wn s.1 (jd c)).1,some (wn s.1 (jd c)).2)
noncomputable def run:PSt->List Nat->Option PSt
 |s,[]=>some s
 |s,c::l=>if c∈yG s then run (stp s c) l else none
theorem qd9:∀(l1 l2:List Nat)(s:PSt),run s (l1++l2)=(run s l1).bind λ s'=>run s' l2
 | [],_,_=>rfl
 |c::l1,l2,s=>by
  rw[Ud,run,run];split
  ·exact qd9 l1 l2 _
  ·rfl
theorem qcx:∀ c∈zw,c∈[48,49]++zw++[126,40]/\c∉[126,40]/\c∉[38,124,43]/\¬ c=41/\¬ c=49/\¬ c=48:=by decide
theorem qfh{c:Nat}(h:c∈zw):jd c=.letter c:=by
 obtain⟨_,_,_,_,h1,h2⟩:=qcx c h;rw[jd,Vi h1,Vi h2]
theorem k9{c:Nat}{fs:List Fr}{rest:List Nat}(h1:c∈[48,49]++zw++[126,40])(h2:c∉[126,40])(h3:c∉[38,124,43])(h4:¬ c=41):run (fs,none) (c::rest)=run ((wn fs (jd c)).1,some (wn fs (jd c)).2) rest:=by
 rw[run,Vh (show c∈yG (fs,none) from h1),stp,Vi h2,Vi h3,Vi h4]
theorem qgY{fr:Fr}{fs:List Fr}{t:Tr}(h:¬ fr.1=126):wn (fr::fs) t=(fr::fs,t):=Vi h
theorem qaI:∀(t:Tr)(fs:List Fr)(rest:List Nat),t.Of zw->run (fs,none) (t.text++rest)=run ((wn fs t).1,some (wn fs t).2) rest
 |.letter c,fs,rest,h=>by
  obtain⟨h1,h2,h3,h4,_,_⟩:=qcx c h;show run (fs,none) (c::rest)=_
  rw[k9 h1 h2 h3 h4,qfh h]
 |.one,fs,rest,_=>by
  show run (fs,none) (49::rest)=_
  rw[k9 (by decide) (by decide) (by decide) (by decide)];rfl
 |.zero,fs,rest,_=>by
  show run (fs,none) (48::rest)=_
  rw[k9 (by decide) (by decide) (by decide) (by decide)];rfl
 |.neg t,fs,rest,h=>by
  show run (fs,none) (126::(t.text++rest))=_
  rw[run,Vh (show 126∈yG (fs,none) from(by decide:126∈[48,49]++zw++[126,40])),stp,Vh (by decide),qaI t _ _ h];rfl
 |.bin op t u,fs,rest,h=>by
  obtain⟨B1,ht,hu⟩:=h;have e:(Tr.bin op t u).text++rest=40::(t.text++(op::(u.text++(41::rest)))):=by simp[Tr.text]
  have no:op∉[126,40]/\op∈[38,124,43]/\¬ op=126/\¬ op=40:=by rcases B1 with rfl|rfl|rfl <;> decide
  rw[e,run,Vh (show 40∈yG (fs,none) from(by decide:40∈[48,49]++zw++[126,40])),stp,Vh (by decide),qaI t _ _ ht,qgY (show ¬ ((40,none):Fr).1=126 from by decide)];rw[run,Vh (show op∈yG ((40,none)::fs,some t) from no.2.1),stp,Vi no.1,Vh no.2.1];show run ((op,some t)::fs,none) (u.text++(41::rest))=_
  rw[qaI u _ _ hu,qgY (show ¬ ((op,some t):Fr).1=126 from no.2.2.1)];rw[run,Vh (show 41∈yG ((op,some t)::fs,some u) from by show 41∈(if op=40 then [38,124,43] else [41]);rw[Vi no.2.2.2];decide),stp,Vi (by decide),Vi (by decide),Vh rfl]
theorem qhQ{t:Tr}(h:t.Of zw):run ([],none) t.text=some ([],some t):=by
 have:=qaI t [] [] h
 rw[Uu] at this;rw[this];rfl
def Fok(fr:Fr):Prop:=(fr.2=none/\(fr.1=126∨fr.1=40))∨(∃ l,fr.2=some l/\(fr.1=38∨fr.1=124∨fr.1=43))
structure Wfs(s:PSt):Prop where
 all:∀ fr∈s.1,Fok fr
 top:∀ r fr fs,s.2=some r->s.1=fr::fs->¬ fr.1=126
theorem qjw:∀{fs:List Fr}{t:Tr}{fr:Fr},fr∈(wn fs t).1->fr∈fs
 | [],_,_,h=>h
 |f::fs,t,fr,h=>by
  unfold wn at h;split at h
  ·exact Yf _ (qjw h)
  ·exact h
theorem qjx:∀{fs:List Fr}{t:Tr}{fr:Fr}{gs:List Fr},(wn fs t).1=fr::gs->¬ fr.1=126
 | [],_,_,_,h=>by cases h
 |f::fs,t,fr,gs,h=>by
  unfold wn at h;split at h
  ·exact qjx h
  ·rename_i hn;cases h
   exact hn
theorem qjy{fs:List Fr}{t:Tr}(h:∀ fr∈fs,Fok fr):Wfs ((wn fs t).1,some (wn fs t).2):=⟨λ fr hf=>h fr (qjw hf),λ _ _ _ _ e=>qjx e⟩
theorem Wfs.step{s:PSt}{c:Nat}(h:Wfs s)(hl:c∈yG s):Wfs (stp s c):=by
 unfold stp;split
 ·rename_i hc;have hc:c=126∨c=40:=by simpa using hc
  refine⟨λ fr hf=>?_,λ r fr fs e=>by cases e⟩;rcases Jy.mp hf with e|hf
  ·subst e;exact .inl ⟨rfl,hc⟩
  ·exact h.all fr hf
 ·split
  ·rename_i hc;have M0:c=38∨c=124∨c=43:=by simpa using hc
   obtain⟨fs,e⟩:=s;cases fs with
   |nil=>exact h
   |cons f fs =>
    cases e with
    |none=>exact absurd hl (by show ¬ c∈[48,49]++zw++[126,40];rcases M0 with rfl|rfl|rfl <;> decide)
    |some r =>
     refine⟨λ fr hf=>?_,λ r fr fs e=>by cases e⟩;rcases Jy.mp hf with e|hf
     ·subst e;exact .inr ⟨r,rfl,M0⟩
     ·exact h.all fr (Yf _ hf)
  ·split
   ·obtain⟨fs,e⟩:=s;split
    ·rename_i op l R3 r h1 h2;cases h1
     exact qjy λ fr hf=>h.all fr (Yf _ hf)
    ·exact h
   ·exact qjy h.all
theorem qnJ:Wfs ([],none):=⟨λ _ h=>(by cases h),λ _ _ _ e=>by cases e⟩
theorem qgZ:∀{l:List Nat}{s s':PSt},Wfs s->run s l=some s'->Wfs s'
 | [],_,_,h,e=>by cases e;exact h
 |c::l,s,s',h,e=>by
  rw[run] at e;split at e
  ·rename_i hl;exact qgZ (h.step hl) e
  ·cases e
theorem qlZ{L:List Nat}{fin:PSt}(h:run ([],none) L=some fin){i:Nat}(hi:i<L.length){s:PSt}(hs:run ([],none) (L.take i)=some s):L[i]∈yG s/\run ([],none) (L.take (i+1))=some (stp s L[i]):=by
 have e:L=L.take i++(L[i]::L.drop (i+1)):=by rw[<- Xr hi,XV]
 have h2:run s (L[i]::L.drop (i+1))=some fin:=by
  rw[e,qd9,hs] at h;exact h
 rw[run] at h2;have hl:L[i]∈yG s:=by
  by_cases hl:L[i]∈yG s
  ·exact hl
  ·rw[Vi hl] at h2;cases h2
 refine⟨hl,?_⟩;rw[Xa hi,qd9,hs];show run s [L[i]]=_
 rw[run,Vh hl];rfl
theorem qhR{s:PSt}(h:Wfs s)(hl:41∈yG s):∃ op l fs r,s=((op,some l)::fs,some r)/\(op=38∨op=124∨op=43):=by
 obtain⟨fs,e⟩:=s;cases e with
 |none=>exact absurd hl (by show ¬ 41∈[48,49]++zw++[126,40];decide)
 |some r =>
  cases fs with
  |nil=>exact absurd hl (by simp[yG])
  |cons f fs =>
   obtain⟨op,o⟩:=f;have h1:=h.all (op,o) (Y7 ..);have h2:=h.top r (op,o) fs rfl rfl;have h3:¬ op=40:=λ e=>by subst e;exact absurd hl (by show ¬ 41∈(if (40:Nat)=40 then [38,124,43] else [41]);decide)
   rcases h1 with⟨_,h1|h1⟩|⟨l,h1,h4⟩
   ·exact absurd h1 h2
   ·exact absurd h1 h3
   ·exact⟨op,l,fs,r,by rw[show o=some l from h1],h4⟩
theorem qfi{s:PSt}{c:Nat}(hc:c∈[38,124,43])(hl:c∈yG s):∃ fr fs r,s=(fr::fs,some r):=by
 have M0:c=38∨c=124∨c=43:=by simpa using hc
 obtain⟨fs,e⟩:=s;cases e with
 |none=>exact absurd hl (by show ¬ c∈[48,49]++zw++[126,40];rcases M0 with rfl|rfl|rfl <;> decide)
 |some r =>
  cases fs with
  |nil=>exact absurd hl (by simp[yG])
  |cons f fs=>exact⟨f,fs,r,rfl⟩
theorem qgi:∀(fs:List Fr)(t:Tr),(wn fs t).1.length<=fs.length
 | [],_=>Qs _
 |f::fs,t=>by
  unfold wn;split
  ·exact Zw (qgi fs _)
  ·exact Qs _
theorem qkE(s:PSt)(c:Nat):(stp s c).1.length<=s.1.length+1:=by
 unfold stp;split
 ·exact Qs _
 ·split
  ·obtain⟨fs,e⟩:=s;cases fs with
   |nil=>exact Qu _
   |cons f fs=>exact Qu _
  ·split
   ·obtain⟨fs,e⟩:=s;split
    ·rename_i op l R3 r h1 h2;cases h1
     exact Zw (Zw (qgi _ _))
    ·exact Qu _
   ·exact Zw (qgi _ _)
def zB(H H':Hp):Prop:=∀ b o,H b=some o->(∀ xs,o≠.lst xs)->H' b=some o
theorem vK{H H':Hp}(g:qg H H'):zB H H':=λ _ _ e _=>g _ _ e
theorem zB.trans{H H1 H2:Hp}(a:zB H H1)(b:zB H1 H2):zB H H2:=λ _ _ e n=>b _ _ (a _ _ e n) n
theorem zB.updL{H:Hp}{l:Addr}{xs:List V}{o:HO}(h:H l=some (.lst xs)):zB H (upd H l o):=λ b p e n=>by
 have:b≠l:=λ q=>by rw[q,h] at e;cases e;exact n xs rfl
 rw[qt this];exact e
def But(a:Addr)(H H':Hp):Prop:=∀ b o,b≠a->H b=some o->H' b=some o
theorem But.refl(a:Addr)(H:Hp):But a H H:=λ _ _ _ e=>e
theorem But.trans{a:Addr}{H H1 H2:Hp}(h:But a H H1)(g:But a H1 H2):But a H H2:=λ _ _ n e=>g _ _ n (h _ _ n e)
theorem zC{a:Addr}{H H':Hp}(g:qg H H'):But a H H':=λ _ _ _ e=>g _ _ e
theorem But.upd{a:Addr}{H H':Hp}{o:HO}(g:But a H H'):But a H (upd H' a o):=λ b p n e=>by rw[qt n];exact g _ _ n e
theorem But.same{a:Addr}{H0 H H':Hp}(g:But a H H')(g0:qg H0 H)(f:H0 a=none):qg H0 H':=λ b o e=>g b o (λ q=>by rw[q,f] at e;cases e) (g0 _ _ e)
theorem qJ.monoX{c:CA}{H H':Hp}(g:zB H H'):∀{t:Tr}{v:V},qJ c H t v->qJ c H' t v
 |.letter _,_,⟨a,dx,e,h⟩=>⟨a,dx,e,g _ _ h (λ _ z=>nomatch z)⟩
 |.one,_,⟨a,dx,e,h⟩=>⟨a,dx,e,g _ _ h (λ _ z=>nomatch z)⟩
 |.zero,_,⟨a,dx,e,h⟩=>⟨a,dx,e,g _ _ h (λ _ z=>nomatch z)⟩
 |.neg t,_,⟨a,dx,x,e,h,r⟩=>⟨a,dx,x,e,g _ _ h (λ _ z=>nomatch z),qJ.monoX g r⟩
 |.bin op t u,_,⟨a,dx,x,y,e,h,r,r'⟩=>⟨a,dx,x,y,e,g _ _ h (λ _ z=>nomatch z),qJ.monoX g r,qJ.monoX g r'⟩
def kq(c:CA)(H:Hp):Option Tr->V->Prop
 |none,v=>v=.non
 |some t,v=>qJ c H t v
theorem kq.monoX{c:CA}{H H':Hp}(g:zB H H'):∀{e:Option Tr}{v:V},kq c H e v->kq c H' e v
 |none,_,h=>h
 |some _,_,h=>qJ.monoX g h
theorem qJ.ref{c:CA}{H:Hp}{t:Tr}{v:V}(h:qJ c H t v):∃ a,v=.ref a:=by
 cases t with
 |letter l=>obtain⟨a,_,e,_⟩:=h;exact⟨a,e⟩
 |one=>obtain⟨a,_,e,_⟩:=h;exact⟨a,e⟩
 |zero=>obtain⟨a,_,e,_⟩:=h;exact⟨a,e⟩
 |neg u=>obtain⟨a,_,_,e,_⟩:=h;exact⟨a,e⟩
 |bin op u w=>obtain⟨a,_,_,_,e,_⟩:=h;exact⟨a,e⟩
theorem kq.non{c:CA}{H:Hp}{e:Option Tr}{v:V}(h:kq c H e v):decide (v=.non)=e.isNone:=by
 cases e with
 |none=>rw[show v=.non from h];rfl
 |some t=>obtain⟨a,rfl⟩:=qJ.ref h;rfl
def qjz(c:CA)(H:Hp)(fr:Fr)(x:V):Prop:=∃ a v,x=.ref a/\H a=some (.tup [vS [fr.1],v])/\kq c H fr.2 v
theorem qjz.monoX{c:CA}{H H':Hp}{fr:Fr}{x:V}(h:qjz c H fr x)(g:zB H H'):qjz c H' fr x:=let ⟨a,v,e,h,k⟩:=h;⟨a,v,e,g _ _ h (λ _ z=>nomatch z),k.monoX g⟩
inductive FrmI(c:CA)(H:Hp):List V->List Fr->Prop where
 |nil:FrmI c H [] []
 |snoc {ws:List V} {fs:List Fr} {x:V} {fr:Fr} (h:FrmI c H ws fs) (k:qjz c H fr x):FrmI c H (ws++[x]) (fr::fs)
theorem FrmI.monoX{c:CA}{H H':Hp}{vs:List V}{fs:List Fr}(h:FrmI c H vs fs)(g:zB H H'):FrmI c H' vs fs:=by
 induction h with
 |nil=>exact .nil
 |snoc h k ih=>exact ih.snoc (k.monoX g)
theorem FrmI.len{c:CA}{H:Hp}{vs:List V}{fs:List Fr}(h:FrmI c H vs fs):vs.length=fs.length:=by
 induction h with
 |nil=>rfl
 |snoc h k ih=>rw[Za,XS,Ua,ih]
theorem FrmI.top{c:CA}{H:Hp}{vs:List V}{fr:Fr}{fs:List Fr}(h:FrmI c H vs (fr::fs)):∃ ws x,vs=ws++[x]/\FrmI c H ws fs/\qjz c H fr x:=by
 cases h with
 |snoc h k=>exact⟨_,_,rfl,h,k⟩
theorem FrmI.empty{c:CA}{H:Hp}{vs:List V}(h:FrmI c H vs []):vs=[]:=by
 have:=h.len
 exact XA.mp this
theorem qnK{c A B:Prop}[Decidable c](hc:¬ c)(h:B):if c then A else B:=by rw[Vi hc];exact h
theorem ifT{c A B:Prop}[Decidable c](hc:c)(h:A):if c then A else B:=by rw[Vh hc];exact h
def qmK(c:CA):Sp:=λ vs H Q _=>∃ s:Nat,vs=[vS [s]]/\∀ o H',qg H H'->qJ c H' (jd s) o->Q o H'
def qmL(c:CA):Sp:=λ vs H Q _=>∃(op:Nat)(x y:V)(t u:Tr),vs=[vS [op],x,y]/\(op=38∨op=124∨op=43)/\qJ c H t x/\qJ c H u y/\∀ o H',qg H H'->qJ c H' (.bin op t u) o->Q o H'
theorem qmM:FnScope ["sign"] ["sign"] (qh vy):=scF
theorem qmN:FnScope ["sign","one","other"] ["sign","one","other"] (qh qa0):=scF
theorem qk2:FnScope ["opened","saying"] ["opened","saying"] (qh vw):=scF
theorem qmO:FnScope ["opened","ended"] ["opened","ended"] (qh ja):=scF
theorem qk3:FnScope ["opened","ended","sign","waiting"] ["opened","ended","sign"] (qh qd4):=scF
theorem qdm:FnScope ["text","opened","ended","place","sign"] ["text"] (qh qf5):=scF
section
variable {c:CA}{iL iN iP f:Addr}{fdL fdN fdP fd:FuncData}
theorem qmP(F:Fun K "single_of" "single_of" vy f fd)(C:CTxt K c iL iN iP)(mA:mg "Always"=some (.ref c.always))(mN:mg "Never"=some (.ref c.never))(mL:mg "Letter"=some (.ref c.letter))(GL:FnOk P w K mg base CX0 1 iL fdL ["self","letter"] (v1 K "letter"))(bL:qf K fdL ["self","letter"] []):FnOk P w K mg base CX0 3 f fd ["sign"] (qmK c):=by
 refine F.okd qmM (λ cdv A outer s H vs Q E hr h=>?_);obtain⟨z,rfl,q⟩:=h;have cN:Room 2 _:=hr.mono (by decide);refine⟨_,(qd (q8 (qv zq (pv 0) qo (qA _)) (qe (qk (qeS C.mAlways (by rfl) mA))) qD)
  (qd (q8 (qv zq (pv 0) qo (qA _)) (qe (qk (qeS C.mNever (by rfl) mN))) qD)
  (qe (qk (vQ C.mLetter GL cN (by rfl) mL bL .nil qE (qa (pv 0) qb)))))),?_⟩
 rw[qje,qjf];refine zP (zc (yO qw (dvA rfl) dC)) at0 (λ hb H1 g1=>?_) (λ hb H1 g1=>?_)
 ·have e:z=49:=by simpa using Z9 hb
  exact λ x dx hx L3 ne=>q _ _ ((g1.at (g1.free L3)).at (g1.free hx)) (by rw[jd,Vh e];exact⟨x,dx,rfl,qc⟩)
 have n1:¬ z=49:=λ e=>by simpa [e] using Zj hb
 refine zP (zc (yO qw (dvA rfl) dC)) at0 (λ hb H2 g2=>?_) (λ hb H2 g2=>?_)
 ·have e:z=48:=by simpa using Z9 hb
  have g:=g1.trans g2;exact λ x dx hx L3 ne=>q _ _ ((g.at (g.free L3)).at (g.free hx)) (by rw[jd,Vi n1,Vh e];exact⟨x,dx,rfl,qc⟩)
 have n0:¬ z=48:=λ e=>by simpa [e] using Zj hb
 have g:=g1.trans g2;refine⟨_,rfl,λ x dx hx L3 ne=>⟨c.letter,x,dx,_,rfl,qc,C.letter,C.aLetter,rfl,?_⟩⟩;exact q _ _ (((g.at (g.free L3)).at (g.free hx)).at (g.free hx)) (by rw[jd,Vi n1,Vi n0];exact⟨x,dx,rfl,qc⟩)
theorem qmQ(F:Fun K "pair_of" "pair_of" qa0 f fd)(C:CTxt K c iL iN iP)(mD:mg "And"=some (.ref c.and))(mR:mg "Or"=some (.ref c.or))(mE:mg "Either"=some (.ref c.either))(GP:FnOk P w K mg base CX0 1 iP fdP ["self","one","other"] (qd6 K "one" "other"))(bP:qf K fdP ["self","one","other"] []):FnOk P w K mg base CX0 3 f fd ["sign","one","other"] (qmL c):=by
 refine F.okd qmN (λ cdv A outer s H vs Q E hr h=>?_);obtain⟨op,o,p,t,u,rfl,B1,ob,pb,q⟩:=h;have cN:Room 2 _:=hr.mono (by decide);refine⟨_,(qd (q8 (qv zq (pv 0) qo (qA _)) (qe (qk (vQ C.mAnd GP cN (by rfl) mD bP .nil qE (qa (pv 1) (qa (pv 2) qb))))) qD)
  (qd (q8 (qv zq (pv 0) qo (qA _)) (qe (qk (vQ C.mOr GP cN (by rfl) mR bP .nil qE (qa (pv 1) (qa (pv 2) qb))))) qD)
  (qe (qk (vQ C.mEither GP cN (by rfl) mE bP .nil qE (qa (pv 1) (qa (pv 2) qb))))))),?_⟩
 rw[qjg,qjh];have fin:∀(Cl x dx:Addr)(H7:Hp),qg H H7->Cl=c.bin op->H7 x=none->H7 dx=none->Q (.ref x) (upd (upd (upd (upd H7 dx (.own x)) x (.ins Cl dx [])) x (.ins Cl dx [("one",o)])) x (.ins Cl dx [("one",o),("other",p)])):=λ Cl x dx H7 g7 e hx L3=>by
  subst e;have k:=(((g7.at (g7.free L3) (o:=.own x)).at (g7.free hx) (o:=.ins (c.bin op) dx [])).at (g7.free hx) (o:=.ins (c.bin op) dx [("one",o)])).at (g7.free hx) (o:=.ins (c.bin op) dx [("one",o),("other",p)]);exact q _ _ k ⟨x,dx,o,p,rfl,qc,ob.mono k,pb.mono k⟩
 refine zP (zc (yO qw (dvA rfl) dC)) at0 (λ hb H7 g7=>?_) (λ hb H7 g7=>?_)
 ·have e:op=38:=by simpa using Z9 hb
  refine⟨_,rfl,_,rfl,λ x dx hx L3 ne=>⟨c.and,x,dx,_,_,rfl,qc,C.and,C.aAnd.1,C.aAnd.2,rfl,?_⟩⟩;exact fin c.and x dx H7 g7 (by rw[CA.bin,Vh e]) hx L3
 have eO:¬ op=38:=λ e=>by simpa [e] using Zj hb
 refine zP (zc (yO qw (dvA rfl) dC)) at0 (λ hb H8 g8=>?_) (λ hb H8 g8=>?_)
 ·have e:op=124:=by simpa using Z9 hb
  refine⟨_,rfl,_,rfl,λ x dx hx L3 ne=>⟨c.or,x,dx,_,_,rfl,qc,C.or,C.aOr.1,C.aOr.2,rfl,?_⟩⟩;exact fin c.or x dx H8 (g7.trans g8) (by rw[CA.bin,Vi eO,Vh e]) hx L3
 have S2:¬ op=124:=λ e=>by simpa [e] using Zj hb
 refine⟨_,rfl,_,rfl,λ x dx hx L3 ne=>⟨c.either,x,dx,_,_,rfl,qc,C.either,C.aEither.1,C.aEither.2,rfl,?_⟩⟩;exact fin c.either x dx H8 (g7.trans g8) (by rw[CA.bin,Vi eO,Vi S2]) hx L3
def qmR(c:CA):Sp:=λ vs H Q _=>∃(ao:Addr)(v:V)(ws:List V)(fs:List Fr)(t:Tr),vs=[.ref ao,v]/\H ao=some (.lst ws)/\FrmI c H ws fs/\qJ c H t v/\∀ v' K9 H',But ao H H'->H' ao=some (.lst K9)->FrmI c H' K9 (wn fs t).1->qJ c H' (wn fs t).2 v'->Q v' H'
theorem qmS(F:Fun K "with_nots" "with_nots" vw f fd)(T:Txt mg)(C:CTxt K c iL iN iP)(mO:mg "Not"=some (.ref c.not))(GN:FnOk P w K mg base CX0 1 iN fdN ["self","one"] (v1 K "one"))(bN:qf K fdN ["self","one"] []):FnOk P w K mg base CX0 3 f fd ["opened","saying"] (qmR c):=by
 refine F.okd qk2 (λ cdv A outer s H vs Q E hr h=>?_);obtain⟨ao,v,ws,fs,t,rfl,ho,fm,ob,q⟩:=h;have cN:Room 2 _:=hr.mono (by decide);refine⟨_,(qd (qen U7 (PW.pt (qfr (qv qbF (qz qy (by rfl) T.len Js (qa (pv 0) qb)) qi (qA _)) (qdz (qv zq (q9 zb (q9 jz (pv 0) (qif qfx qi) (λ _ _=>rfl)) qi (λ _ _=>rfl)) qo (qA _))))) (qd (zS (kz XB Yc Yd kC (pv 0)))
  (qe (qr (i:=1) qk2.nd rfl (Or.inl rfl) (vQ C.mNot GN cN (by rfl) mO bN .nil qE (qa (pv 1) qb))))))
  (qe (qk (pv 1)))),?_⟩
 rw[qhM];refine⟨λ μ σ H'=>∃(v':V)(K9:List V)(R3:List Fr)(t':Tr),σ=[some (.ref ao),some v']/\But ao H H'/\H' ao=some (.lst K9)/\FrmI c H' K9 R3/\qJ c H' t' v'/\wn R3 t'=wn fs t/\μ=R3.length,⟨_,v,ws,fs,t,rfl,But.refl _ _,ho,fm,ob,rfl,rfl⟩,?_⟩;rintro μ σ H1 ⟨v',K9,R3,t',rfl,g1,M5,fm1,cF,ew,rfl⟩;refine⟨_,rfl,ao,_,rfl,.inl (SqL.of M5),_,_,rfl,rfl,_,rfl,?_⟩;cases R3 with
 |nil =>
  have e:=fm1.empty;subst e;refine ya ?_;refine ya ?_;rw[wn] at ew;exact⟨_,rfl,q v' [] H1 g1 M5 (by rw[<- ew];exact .nil) (by rw[<- ew];exact cF)⟩
 |cons fr R3 =>
  obtain⟨us,x,rfl,fu,kx⟩:=fm1.top;obtain⟨ax,vx,rfl,aE,ke⟩:=kx;refine ifT (by rw[Za,XS];simp) ?_;refine⟨_,rfl,_,rfl,ao,_,_,_,rfl,rfl,SqL.of M5,qev us (.ref ax),ax,_,_,vS [fr.1],rfl,rfl,SqT.of aE,rfl,rfl,_,rfl,?_⟩;have ee:decide (vS [fr.1]=vS [126])=decide (fr.1=126):=by
   by_cases h:fr.1=126
   ·rw[h];simp
   ·rw[Ja h,Ja λ e=>h (by have:=qfR e;simpa using this)]
  rw[show decide (vS [fr.1]=V.str (ql [126]))=decide (fr.1=126) from ee];rw[wn] at ew;by_cases h126:fr.1=126
  ·rw[Vh h126] at ew;rw[Jt h126];refine qah ?_;refine⟨λ σ' H'=>∃(v':V)(K9:List V)(t':Tr),σ'=[some (.ref ao),some v']/\But ao H H'/\H' ao=some (.lst K9)/\FrmI c H' K9 R3/\qJ c H' t' v'/\wn R3 t'=wn fs t,?_,?_⟩
   ·rintro σ' H' ⟨v2,ws2,t2,e,b1,b2,b3,b4,b5⟩;exact⟨R3.length,Ub _,v2,ws2,R3,t2,e,b1,b2,b3,b4,b5,rfl⟩
   refine⟨_,rfl,.inl ⟨rfl,_,SqL.of M5⟩,ao,_,.ref ax,rfl,rfl,M5,ym us (.ref ax),?_⟩;rw[Yp];have x1:zB H1 (upd H1 ao (.lst us)):=zB.updL M5;refine⟨_,rfl,λ x dx hx L3 ne=>⟨c.not,x,dx,_,rfl,qc,C.not,C.aNot,rfl,?_⟩⟩;have k2:=((((qg.refl (upd H1 ao (.lst us))).at L3 (o:=.own x)).at ((qg.refl _).free hx) (o:=.ins c.not dx [])).at ((qg.refl _).free hx) (o:=.ins c.not dx [("one",v')]));refine⟨.ref x,us,.neg t',rfl,(g1.upd (o:=.lst us)).trans (zC k2),k2 _ _ qc,fu.monoX (x1.trans (vK k2)),⟨x,dx,v',rfl,qc,cF.monoX (x1.trans (vK k2))⟩,ew⟩
  ·rw[Vi h126] at ew;rw[Ja h126];refine ya ?_;exact⟨_,rfl,q v' _ H1 g1 M5 (by rw[<- ew];exact fm1) (by rw[<- ew];exact cF)⟩
def qmT(c:CA):Sp:=λ vs H Q _=>∃(ao:Addr)(v:V)(ws:List V)(s:PSt),vs=[.ref ao,v]/\H ao=some (.lst ws)/\FrmI c H ws s.1/\kq c H s.2 v/\∀ H',qg H H'->Q (vS (yG s)) H'
theorem qnL:("01":Str)=ql [48,49]:=by decide +kernel
theorem qk4:("~(":Str)=ql [126,40]:=by decide +kernel
theorem qmU(F:Fun K "signs_behind" "signs_behind" ja f fd)(T:Txt mg){t1 t2 t3:Tok}(gM:mg "LETTERS"=some (.str "abcpqrxyz" t1))(gK:mg "OPENING"=some (.str "~(" t2))(gQ:mg "BETWEEN"=some (.str "&|+" t3)):FnOk P w K mg base CX0 1 f fd ["opened","ended"] (qmT c):=by
 refine F.okd qmO (λ cdv A outer s H vs Q E hr h=>?_);obtain⟨ao,v,ws,s,rfl,ho,fm,ea,q⟩:=h;refine⟨_,(qd (q8 (qv qij (pv 1) qaP (qA _)) (qe (qk (qm qL (qm qL qo (zR (v:=.str "abcpqrxyz") (by rfl) gM ⟨_,rfl⟩)) (zR (v:=.str "~(") (by rfl) gK ⟨_,rfl⟩)))) qD)
  (qd (q8 (qv zq (qz qy (by rfl) T.len Js (qa (pv 0) qb)) qi (qA _)) (qe (qk qo)) qD)
  (qe (qk (qia (qv zq (q9 zb (q9 jz (pv 0) (qif qfx qi) (λ _ _=>rfl)) qi (λ _ _=>rfl)) qo (qA _)) (zR (v:=.str "&|+") (by rfl) gQ ⟨_,rfl⟩) qo))))),?_⟩
 rw[qnL,qe8,qk4,qlV,qkx,qcv,v9];obtain⟨fs,e⟩:=s;refine⟨_,rfl,rfl,_,rfl,?_⟩;rw[ea.non];cases e with
 |none =>
  refine qah ?_;refine⟨_,_,rfl,rfl,qu (by show 2+9<=_;decide),_,_,rfl,rfl,qu (by show 11+2<=_;decide),?_⟩;exact q H (qg.refl H)
 |some r =>
  refine ya ?_;refine⟨_,rfl,ao,_,rfl,.inl (SqL.of ho),rfl,_,rfl,?_⟩;cases fs with
  |nil =>
   have e:=fm.empty;subst e;refine qah ?_;exact q H (qg.refl H)
  |cons fr fs =>
   obtain⟨us,x,rfl,fu,kx⟩:=fm.top;obtain⟨ax,vx,rfl,aE,ke⟩:=kx;refine qnK (by rw[Za,XS];simp;omega) ?_;refine⟨_,rfl,_,rfl,ao,_,_,_,rfl,rfl,SqL.of ho,qev us (.ref ax),ax,_,_,vS [fr.1],rfl,rfl,SqT.of aE,rfl,rfl,_,rfl,?_⟩;have ee:decide (vS [fr.1]=vS [40])=decide (fr.1=40):=by
    by_cases h:fr.1=40
    ·rw[h];simp
    ·rw[Ja h,Ja λ e=>h (by have:=qfR e;simpa using this)]
   rw[show decide (vS [fr.1]=V.str (ql [40]))=decide (fr.1=40) from ee];have el:yG (fr::fs,some r)=if fr.1=40 then [38,124,43] else [41]:=rfl
   by_cases h:fr.1=40
   ·rw[Jt h];rw[el,Vh h] at q;exact qah (q H (qg.refl H))
   ·rw[Ja h];rw[el,Vi h] at q;exact ya (q H (qg.refl H))
def qmV(c:CA):Sp:=λ vs H Q _=>∃(ao:Addr)(v:V)(z:Nat)(ws:List V)(s:PSt),vs=[.ref ao,v,vS [z]]/\H ao=some (.lst ws)/\FrmI c H ws s.1/\kq c H s.2 v/\Wfs s/\z∈yG s/\ws.length<=10000/\∀ v' K9 H',But ao H H'->H' ao=some (.lst K9)->FrmI c H' K9 (stp s z).1->kq c H' (stp s z).2 v'->Q v' H'
theorem qmW{fw fp fs_:Addr}{fdw pU pS:FuncData}(F:Fun K "taken" "taken" qd4 f fd){t2 t3:Tok}(gK:mg "OPENING"=some (.str "~(" t2))(gQ:mg "BETWEEN"=some (.str "&|+" t3))(Gw:Dp P w K mg base 3 fw fdw ["opened","saying"] (qmR c) "with_nots")(Gp:Dp P w K mg base 3 fp pU ["sign","one","other"] (qmL c) "pair_of")(Gs:Dp P w K mg base 3 fs_ pS ["sign"] (qmK c) "single_of"):FnOk P w K mg base CX0 4 f fd ["opened","ended","sign"] (qmV c):=by
 refine F.okd qk3 (λ cdv A outer s H vs Q E hr h=>?_);obtain⟨ao,v,z,ws,s,rfl,ho,fm,ea,wf,hl,l4,q⟩:=h;have eS:Room 3 _:=hr.mono (by decide);refine⟨_,(qd (q8 (qv vW (pv 2) (zR (v:=.str "~(") (by rfl) gK ⟨_,rfl⟩) rfl) (qd (zS (yQ XB Xz X0 zu (pv 0) (qa (zk (qa (pv 2) (qa qaP qb))) qb)))
  (qe (qk qaP))) qD)
  (qd (q8 (qv vW (pv 2) (zR (v:=.str "&|+") (by rfl) gQ ⟨_,rfl⟩) rfl) (qd (qid (zk (qa (pv 2) (qa (pv 1) qb))) (qlg (pv 0) (qif qfx qi) qis))
  (qe (qk qaP))) qD)
  (qd (q8 (qv zq (pv 2) qo (qA _)) (qd (qr (i:=3) qk3.nd rfl (Or.inl rfl) (kz XB Yc Yd kC (pv 0)))
  (qe (qk (zm Gw eS (qa (pv 0) (qa (zm Gp eS (qa (q9 zb (pv 3) qi (λ _ _=>rfl)) (qa (q9 zb (pv 3) qi (λ _ _=>rfl)) (qa (pv 1) qb)))) qb)))))) qD)
  (qe (qk (zm Gw eS (qa (pv 0) (qa (zm Gs eS (qa (pv 2) qb)) qb)))))))),?_⟩
 rw[qk4,qkx,v9];refine⟨_,rfl,_,_,rfl,rfl,_,rfl,?_⟩;by_cases h1:z∈[126,40]
 ·rw[Jt h1];refine qah ?_;rw[stp,Vh h1] at q;refine⟨_,rfl,.inl ⟨rfl,_,SqL.of ho⟩,_,rfl,qu (by show 2<=_;decide),λ p hp=>?_⟩;have B1:upd H p (.tup [vS [z],.non]) ao=some (.lst ws):=(qg.up hp) _ _ ho;refine⟨ao,ws,_,rfl,rfl,B1,zl (by omega),?_⟩;have x1:zB H (upd (upd H p (.tup [vS [z],.non])) ao (.lst (ws++[.ref p]))):=(vK (qg.up hp)).trans (zB.updL B1);refine q .non _ _ ((zC (qg.up hp)).upd) qc ((fm.monoX x1).snoc ⟨p,.non,rfl,?_,rfl⟩) rfl;exact zB.updL B1 _ _ qc (λ _ z=>nomatch z)
 rw[Ja h1];refine ya ?_;refine⟨_,rfl,_,_,rfl,rfl,_,rfl,?_⟩;by_cases h2:z∈[38,124,43]
 ·rw[Jt h2];refine qah ?_;obtain⟨fr,fs,r,rfl⟩:=qfi h2 hl;rw[stp,Vi h1,Vh h2] at q;obtain⟨us,x,rfl,fu,kx⟩:=fm.top;refine⟨_,rfl,_,rfl,qu (by show 2<=_;decide),λ p hp=>?_⟩;have B1:upd H p (.tup [vS [z],v]) ao=some (.lst (us++[x])):=(qg.up hp) _ _ ho;refine⟨_,rfl,1,rfl,ao,_,_,us.length,rfl,rfl,B1,by rw[Za,XS];exact qi3 _,?_⟩;have es:(us++[x]).set us.length (.ref p)=us++[.ref p]:=by simp
  rw[es];have x1:zB H (upd (upd H p (.tup [vS [z],v])) ao (.lst (us++[.ref p]))):=(vK (qg.up hp)).trans (zB.updL B1);refine q .non _ _ ((zC (qg.up hp)).upd) qc ((fu.monoX x1).snoc ⟨p,v,rfl,?_,ea.monoX x1⟩) rfl;exact zB.updL B1 _ _ qc (λ _ z=>nomatch z)
 rw[Ja h2];refine ya ?_;refine zP (zc (yO qw (dvA rfl) dC)) at0 (λ hb H1 g1=>?_) (λ hb H1 g1=>?_)
 ·have e:z=41:=by simpa using Z9 hb
  subst e;obtain⟨op,l,fs,r,rfl,B1⟩:=qhR wf hl;rw[stp,Vi h1,Vi h2,Vh rfl] at q;obtain⟨us,x,rfl,fu,kx⟩:=fm.top;obtain⟨ax,vx,rfl,aE,ke⟩:=kx;have M5:=g1 _ _ ho;refine⟨_,rfl,.inl ⟨rfl,_,SqL.of M5⟩,ao,_,.ref ax,rfl,rfl,M5,ym us (.ref ax),?_⟩;rw[Yp];have x1:zB H (upd H1 ao (.lst us)):=(vK g1).trans (zB.updL M5);have oV:=x1 _ _ aE (λ _ z=>nomatch z);refine⟨_,rfl,_,rfl,ax,_,_,vS [op],rfl,rfl,SqT.of oV,rfl,_,rfl,ax,_,_,vx,rfl,rfl,SqT.of oV,rfl,_,rfl,op,vx,v,l,r,rfl,B1,qJ.monoX x1 ke,qJ.monoX x1 ea,λ o H2 g2 ob=>?_⟩;refine⟨ao,o,us,fs,.bin op l r,rfl,g2 _ _ qc,(fu.monoX x1).monoX (vK g2),ob,λ v' K9 H3 b3 e3 f3 o3=>?_⟩;exact q v' K9 H3 ((((zC g1).upd).trans (zC g2)).trans b3) e3 f3 o3
 ·have n41:¬ z=41:=λ e=>by simpa [e] using Zj hb
  rw[stp,Vi h1,Vi h2,Vi n41] at q;refine⟨_,rfl,_,rfl,z,rfl,λ o H2 g2 ob=>?_⟩;have A3:=g1.trans g2;refine⟨ao,o,ws,s.1,jd z,rfl,A3 _ _ ho,fm.monoX (vK A3),ob,λ v' K9 H3 b3 e3 f3 o3=>?_⟩;exact q v' K9 H3 ((zC A3).trans b3) e3 f3 o3
def qmX(c:CA):Sp:=λ vs H Q _=>∃ t:Tr,vs=[vS t.text]/\t.Of zw/\t.wt<=1000/\∀ o H',qg H H'->qJ c H' t o->Q o H'
theorem qmY{fg ft:Addr}{fdg fdt:FuncData}(F:Fun K "read" "read" qf5 f fd)(T:Txt mg)(Gg:Dp P w K mg base 1 fg fdg ["opened","ended"] (qmT c) "signs_behind")(Gt:Dp P w K mg base 4 ft fdt ["opened","ended","sign"] (qmV c) "taken"):FnOk P w K mg base CX0 5 f fd ["text"] (qmX c):=by
 refine F.okd qdm (λ cdv A outer s H vs Q E hr h=>?_);obtain⟨t,rfl,of,hw,q⟩:=h;have C5:Room 1 _:=hr.mono (by decide);have hr4:Room 4 _:=hr.mono (by decide);refine⟨_,(qd (qr (i:=1) qdm.nd rfl (Or.inl rfl) (yJ qb))
  (qd (qr (i:=2) qdm.nd rfl (Or.inl rfl) qaP)
  (qd (qdU U7 rfl (qcp (by rfl) T.enumerate (qa (pv 0) qb)) (qF (qp (i:=3) qdm.nd rfl (Or.inl rfl)) (qF (qp (i:=4) qdm.nd rfl (Or.inl rfl)) zJ))
  (qd (q8 (qv jM (pv 4) (zm Gg C5 (qa (pv 1) (qa (pv 2) qb))) rfl) (qe y2) qD)
   (qe (qr (i:=2) qdm.nd rfl (Or.inl rfl) (zm Gt hr4 (qa (pv 1) (qa (pv 2) (qa (pv 4) qb))))))))
   (qd (q8 (PW.pt (qcV (qv qij (pv 2) qaP (qA _))
   (qbE (qv qbF (qz qy (by rfl) T.len Js (qa (pv 1) qb)) qi (qA _))))) (qe y2) qD)
   (qe (qk (pv 2))))))),?_⟩
 have tl:=t.text_len;have L6:=qhQ of;have hs:(ql t.text).cps.size=t.text.length:=qK t.text;refine⟨Qt _,λ ao hao=>?_⟩;refine⟨_,rfl,_,rfl,?_⟩;refine qdi (λ i σ H'=>∃(v:V)(ws:List V)(s:PSt)(v3 v4:Option V),σ=[some (vS t.text),some (.ref ao),some v,v3,v4]/\qg H H'/\H' ao=some (.lst ws)/\FrmI c H' ws s.1/\kq c H' s.2 v/\run ([],none) (t.text.take i)=some s/\ws.length<=i)
  ⟨.non,[],([],none),none,none,rfl,qg.up hao,qc,.nil,rfl,rfl,Qs _⟩ ?_ ?_
 ·rintro i σ H1 hi ⟨v,ws,s,v3,v4,rfl,g1,e1,fm,ea,W7,lw⟩;rw[hs] at hi;rw[vJ hi];obtain⟨hl,nO⟩:=qlZ L6 hi W7;have wf:=qgZ qnJ W7;refine⟨_,_,rfl,_,_,rfl,rfl,?_⟩;refine⟨_,rfl,_,rfl,_,rfl,ao,v,ws,s,rfl,e1,fm,ea,λ H2 g2=>?_⟩;refine⟨_,_,rfl,rfl,_,rfl,?_⟩;rw[Jt hl];refine ya ?_;have x2:=vK g2;refine⟨_,rfl,_,rfl,_,rfl,ao,v,_,ws,s,rfl,g2 _ _ e1,fm.monoX x2,ea.monoX x2,wf,hl,by omega,λ v' K9 H3 b3 e3 f3 o3=>?_⟩;have ln:=f3.len;have C4:(stp s t.text[i]).1.length<=i+1:=by have:=qkE s t.text[i];have:=fm.len;omega
  exact⟨v',K9,stp s t.text[i],_,_,rfl,b3.same (g1.trans g2) hao,e3,f3,o3,nO,by omega⟩
 ·rintro σ H1 ⟨v,ws,s,v3,v4,rfl,g1,e1,fm,ea,W7,lw⟩;rw[hs,Uj,L6] at W7;cases W7
  have e:=fm.empty;subst e;obtain⟨a,rfl⟩:=qJ.ref ea;refine⟨_,rfl,rfl,_,rfl,ya ?_⟩;refine⟨_,rfl,ao,_,rfl,.inl (SqL.of e1),_,_,rfl,rfl,_,rfl,ya ?_⟩;exact⟨_,rfl,q _ H1 g1 ea⟩
end
theorem qjA:FnScope ["text","letters","sign"] ["text","letters"] (qh yl):=scF
theorem qg0:FnScope ["wish","letters","halves","left","right"] ["wish","letters"] (qh vB):=scF
theorem qfj:FnScope ["sides","fault","left","right"] ["sides"] (qh k5):=scF
def qk5:Sp:=λ vs H Q _=>∃ x ls:List Nat,vs=[vS x,vS ls]/\(∀ c∈x,c∈zw->c∈ls)/\∀ H',qg H H'->Q .non H'
theorem ql0{f:Addr}{fd:FuncData}(F:Fun K "refuse_strange" "refuse_strange" yl f fd){t1:Tok}(gM:mg "LETTERS"=some (.str "abcpqrxyz" t1)):FnOk P w K mg base CX0 1 f fd ["text","letters"] qk5:=by
 refine F.okd qjA (λ cdv A outer s H vs Q E hr h=>?_);obtain⟨x,ls,rfl,hx,q⟩:=h;refine⟨_,(qe (zZ U7 rfl (qb2 (pv 0)) (qp (i:=2) qjA.nd rfl (Or.inl rfl))
  (qe (q8 (PW.pt (qfr (qv vW (pv 2) (zR (v:=.str "abcpqrxyz") (by rfl) gM ⟨_,rfl⟩) rfl) (qdz (qv jM (pv 2) (pv 1) rfl)))) (qe y2) qD)))),?_⟩
 rw[qe8];have hs:(ql x).cps.size=x.length:=qK x;refine⟨_,rfl,_,rfl,?_⟩;refine qdK (λ j σ H'=>∃ v2:Option V,σ=[some (vS x),some (vS ls),v2]/\qg H H') ⟨none,rfl,qg.refl H⟩ ?_ ?_
 ·rintro j σ H1 hj ⟨v2,rfl,g1⟩;rw[hs] at hj;rw[vJ hj];refine⟨_,rfl,_,_,rfl,rfl,_,rfl,?_⟩;by_cases h:x[j]∈zw
  ·rw[Jt h];refine qah ?_;refine⟨_,rfl,_,rfl,_,_,rfl,rfl,_,rfl,?_⟩;rw[Jt (hx _ (Ui hj) h)];exact ya ⟨_,rfl,g1⟩
  ·rw[Ja h];refine ya ?_;exact ya ⟨_,rfl,g1⟩
 ·rintro σ H1 ⟨v2,rfl,g1⟩;exact q H1 g1
theorem zH:∀{t:Tr}{c:Nat},t.Of zw->c∈t.text->¬ c=32/\¬ c=61/\(c∈zw->t.Has c)
 |.letter l,c,h,hc=>by
  have e:c=l:=Zf.mp hc;subst e
  have:=(by decide:∀ c∈zw,¬ c=32/\¬ c=61) c h
  exact⟨this.1,this.2,λ _=>rfl⟩
 |.one,c,_,hc=>by
  have e:c=49:=Zf.mp hc;subst e;exact⟨by decide,by decide,λ h=>absurd h (by decide)⟩
 |.zero,c,_,hc=>by
  have e:c=48:=Zf.mp hc;subst e;exact⟨by decide,by decide,λ h=>absurd h (by decide)⟩
 |.neg t,c,h,hc=>by
  rcases Ur.mp hc with e|e
  ·have e:c=126:=Zf.mp e;subst e;exact⟨by decide,by decide,λ h=>absurd h (by decide)⟩
  ·exact zH (t:=t) h e
 |.bin op t u,c,h,hc=>by
  obtain⟨B1,ht,hu⟩:=h;have hc:c∈[40]++t.text++[op]++u.text++[41]:=hc;rcases Ur.mp hc with hc|e
  ·rcases Ur.mp hc with hc | e
   ·rcases Ur.mp hc with hc | e
    ·rcases Ur.mp hc with e | e
     ·have e:c=40:=Zf.mp e;subst e;exact⟨by decide,by decide,λ h=>absurd h (by decide)⟩
     ·obtain⟨a,b,d⟩:=zH ht e;exact⟨a,b,λ h=>.inl (d h)⟩
    ·have e:c=op:=Zf.mp e;subst e;rcases B1 with rfl|rfl|rfl <;> exact⟨by decide,by decide,λ h=>absurd h (by decide)⟩
   ·obtain⟨a,b,d⟩:=zH hu e;exact⟨a,b,λ h=>.inr (d h)⟩
  ·have e:c=41:=Zf.mp e;subst e;exact⟨by decide,by decide,λ h=>absurd h (by decide)⟩
theorem qg1(t:Tr):t.text≠[]:=by cases t <;> simp[Tr.text]
theorem wt_nodes:∀ t:Tr,(t.wt:Int)<=t.nodes
 |.letter _=>by show(1:Int)<=1;decide
 |.one=>by show(1:Int)<=1;decide
 |.zero=>by show(1:Int)<=1;decide
 |.neg t=>by have:=wt_nodes t;show((t.wt+1:Nat):Int)<=1+t.nodes;omega
 |.bin _ t u=>by have:=wt_nodes t;have:=wt_nodes u;show((t.wt+u.wt:Nat):Int)<=1+t.nodes+u.nodes;omega
theorem Tr.Of.upL{ls us:List Nat}:∀{t:Tr},t.Of ls->(∀ c,c∈ls->c∈us)->t.Of us
 |.letter l,h,g=>g l h
 |.neg t,o,h=>Tr.Of.upL (t:=t) o h
 |.bin _ t u,o,h=>⟨o.1,Tr.Of.upL (t:=t) o.2.1 h,Tr.Of.upL (t:=u) o.2.2 h⟩
 |.one,_,_=>trivial
 |.zero,_,_=>trivial
structure Wsh where 
 i:Nat
 j:Nat
 k:Nat
 l:Nat
 t:Tr
 u:Tr
noncomputable def Wsh.text(x:Wsh):List Nat:=(List.replicate x.i 32++x.t.text++List.replicate x.j 32)++61::(List.replicate x.k 32++x.u.text++List.replicate x.l 32)
structure Wsh.Ok(ls:List Nat)(x:Wsh):Prop where
 bl:x.i<=100/\x.j<=100/\x.k<=100/\x.l<=100
 t:x.t.Of ls
 u:x.u.Of ls
 tn:x.t.nodes<=20
 un:x.u.nodes<=20
def qmZ(c:CA):Sp:=λ vs H Q _=>∃(x:Wsh)(ls:List Nat),vs=[vS x.text,vS ls]/\x.Ok ls/\(∀ c∈ls,c∈zw)/\∀ r a b H',qg H H'->H' r=some (.tup [a,b])->qJ c H' x.t a->qJ c H' x.u b->Q (.ref r) H'
theorem qm0{c:CA}{iL iN iP fQ fH fJ fG fM fC fK pK pI pJ pH aM f fr ff:Addr}{iU iQ iR iO iT iM iS tM tK tL tJ lW fd fdr fdf:FuncData}(F:Fun K "wish_read" "wish_read" vB f fd)(C:CTxt K c iL iN iP){tp:Tok}(mX:mg "MOST_PARTS"=some (.int 20 tp))(Mt:MTxt K c "text" fQ fH fJ fG fM fC fK)(Vt:VOk P w K mg base zN c 21 kD kR kE fQ fH fJ fG fM fC fK iU iQ iR iO iT iM iS)(Ms:MTxt K c "size" pK pI pJ pH aM aM aM)(Vs:VOk P w K mg base vSz c 21 kP kP kP pK pI pJ pH aM aM aM tM tK tL tJ lW lW lW)(eI:qf K iU ["self"] [])(dZ:qf K iQ ["self"] [])(eB:qf K iR ["self"] [])(dY:qf K iO ["self"] [])(eG:qf K iT ["self"] [])(dX:qf K iM ["self"] [])(eF:qf K iS ["self"] [])(rD:qf K tM ["self"] [])(rB:qf K tK ["self"] [])(rC:qf K tL ["self"] [])(rA:qf K tJ ["self"] [])(lY:qf K lW ["self"] [])(Gr:Dp P w K mg base 5 fr fdr ["text"] (qmX c) "read")(Gf:Dp P w K mg base 1 ff fdf ["text","letters"] qk5 "refuse_strange"):
  FnOk P w K mg base CX0 22 f fd ["wish","letters"] (qmZ c):=by
 refine F.okd qg0 (λ cdv A outer s H vs Q E hr h=>?_);obtain⟨x,ls,rfl,ok,l9,q⟩:=h;have C5:Room 1 _:=hr.mono (by decide);have hr5:Room 5 _:=hr.mono (by decide);have N3:Room 21 _:=hr.mono (by decide);have bsD:=lY;have bsR:=lY;have bsE:=lY;refine⟨_,(qd (q8 (qv jM qo (pv 0) rfl) (qe y2) qD)
  (qd (qr (i:=2) qg0.nd rfl (Or.inl rfl) (yQ XL PySem.F.slot_str_partition PySem.F.type_str_partition qks (pv 0) (qa qo qb)))
  (qd (qr (i:=3) qg0.nd rfl (Or.inl rfl) (zm Gr hr5 (qa (yQ XL PySem.F.slot_str_strip PySem.F.type_str_strip qe2 (q9 zb (pv 2) qi (λ _ _=>rfl)) (qa qo qb)) qb)))
  (qd (qr (i:=4) qg0.nd rfl (Or.inl rfl) (zm Gr hr5 (qa (yQ XL PySem.F.slot_str_strip PySem.F.type_str_strip qe2 (q9 zb (pv 2) qi (λ _ _=>rfl)) (qa qo qb)) qb)))
  (qd (q8 (PW.pt (qcV (qv qbF (kf (pv 3) C Ms Vs N3 rD rB rC rA bsD bsR bsE) (zR (v:=.int 20) (by rfl) mX ⟨_,rfl⟩) (qA _))
   (qbE (qv qbF (kf (pv 4) C Ms Vs N3 rD rB rC rA bsD bsR bsE) (zR (v:=.int 20) (by rfl) mX ⟨_,rfl⟩) (qA _))))) (qe y2) qD)
  (qd (zS (zm Gf C5 (qa (qm qL (kf (pv 3) C Mt Vt N3 eI dZ eB dY eG dX eF) (kf (pv 4) C Mt Vt N3 eI dZ eB dY eG dX eF)) (qa (pv 1) qb))))
  (qe (qk (zk (qa (pv 3) (qa (pv 4) qb))))))))))),?_⟩
 rw[show("=":Str)=ql [61] by decide +kernel,show(" ":Str)=ql [32] by decide +kernel];obtain⟨i,j,k,l,t,u⟩:=x;obtain⟨⟨bi,bj,bk,bl⟩,ot,ou,tn,un⟩:=ok;have bi:i<=100:=bi;have bj:j<=100:=bj;have bk:k<=100:=bk;have bl:l<=100:=bl;have ot:t.Of ls:=ot;have ou:u.Of ls:=ou;have lC:=ot.upL l9;have mQ:=ou.upL l9;have wt1:=wt_nodes t;have wt2:=wt_nodes u;have tn:t.nodes<=20:=tn;have un:u.nodes<=20:=un;have lt1:=t.text_len;have lt2:=u.text_len;have ht1:=t.ht_wt;have ht2:=u.ht_wt;have hw1:t.wt<=20:=by omega
 have hw2:u.wt<=20:=by omega
 have nt:61∉List.replicate i 32++t.text++List.replicate j 32:=λ h=>by
  rcases Ur.mp h with h|h
  ·rcases Ur.mp h with h | h
   ·exact absurd (List.eq_of_mem_replicate h) (by decide)
   ·exact(zH lC h).2.1 rfl
  ·exact absurd (List.eq_of_mem_replicate h) (by decide)
 refine⟨_,rfl,_,_,rfl,rfl,_,rfl,?_⟩;rw[Jt (show 61∈Wsh.text ⟨i,j,k,l,t,u⟩ from XN _ (Y7 ..))];refine ya ?_;refine⟨_,rfl,rfl,_,_,_,rfl,rfl,nt,by simp only[Za,XO];omega,λ p hp=>?_⟩;have g1:=qg.up hp (o:=.tup [vS (List.replicate i 32++t.text++List.replicate j 32),vS [61],vS (List.replicate k 32++u.text++List.replicate l 32)]);have e1:upd H p (.tup [vS (List.replicate i 32++t.text++List.replicate j 32),vS [61],vS (List.replicate k 32++u.text++List.replicate l 32)]) p=some (.tup [vS (List.replicate i 32++t.text++List.replicate j 32),vS [61],vS (List.replicate k 32++u.text++List.replicate l 32)]):=qc;generalize upd H p (.tup [vS (List.replicate i 32++t.text++List.replicate j 32),vS [61],vS (List.replicate k 32++u.text++List.replicate l 32)])=H1 at g1 e1;refine⟨_,rfl,p,_,_,_,rfl,rfl,SqT.of e1,rfl,rfl,i,j,t.text,rfl,rfl,qg1 t,λ h=>(zH lC h).1 rfl,by omega,t,rfl,lC,by omega,λ a H2 g2 cF=>?_⟩;refine⟨_,rfl,p,_,_,_,rfl,rfl,SqT.of (g2 _ _ e1),rfl,rfl,k,l,u.text,rfl,rfl,qg1 u,λ h=>(zH mQ h).1 rfl,by omega,u,rfl,mQ,by omega,λ b H3 g3 uR=>?_⟩;have cF:=cF.mono g3;refine dV (f:=vSz) (n:=21) (κd:=kP) (κr:=kP) (κe:=kP) (λ _ _=>⟨rfl,rfl,rfl⟩) (λ _ _=>⟨_,_,_,rfl⟩) (λ _ _=>⟨_,_,_,rfl⟩) (λ _ _=>⟨_,_,_,rfl⟩) (dvA rfl) cF (by omega) (by omega) lC _ _ _ at0 λ H4 g4=>?_
 refine⟨_,_,rfl,rfl,_,rfl,?_⟩;rw[Ja (show ¬ (20:Int)<t.nodes by omega)];refine ya ?_;refine dV (f:=vSz) (n:=21) (κd:=kP) (κr:=kP) (κe:=kP) (λ _ _=>⟨rfl,rfl,rfl⟩) (λ _ _=>⟨_,_,_,rfl⟩) (λ _ _=>⟨_,_,_,rfl⟩) (λ _ _=>⟨_,_,_,rfl⟩) (dvA rfl) (uR.mono g4) (by omega) (by omega) mQ _ _ _ at0 λ H5 g5=>?_
 refine⟨_,_,rfl,rfl,_,rfl,?_⟩;rw[Ja (show ¬ (20:Int)<u.nodes by omega)];refine ya ?_;have bX:=g4.trans g5;refine(jb qw (dV (f:=zN) (n:=21) (κd:=kD) (κr:=kR) (κe:=kE) (λ _ _=>⟨rfl,rfl,rfl⟩) (λ _ _=>⟨_,_,rfl⟩) (λ _ _=>⟨_,_,rfl⟩) (λ _ _=>⟨_,_,rfl⟩) (dvA rfl) (cF.mono bX) (by omega) (by omega) lC)
  (dV (f:=zN) (n:=21) (κd:=kD) (κr:=kR) (κe:=kE) (λ _ _=>⟨rfl,rfl,rfl⟩) (λ _ _=>⟨_,_,rfl⟩) (λ _ _=>⟨_,_,rfl⟩) (λ _ _=>⟨_,_,rfl⟩) (dvA rfl) (uR.mono bX) (by omega) (by omega) mQ) (by omega)) _ _ _ at0 λ H6 g6=>?_
 refine⟨_,rfl,_,ls,rfl,λ z hz hn=>?_,λ H7 g7=>?_⟩
 ·rcases Ur.mp hz with h | h
  ·exact Tr.Of.has ot ((zH lC h).2.2 hn)
  ·exact Tr.Of.has ou ((zH mQ h).2.2 hn)
 have g37:=(bX.trans g6).trans g7;refine⟨_,rfl,_,rfl,qu (by show 2<=_;decide),λ r L1=>?_⟩;have g38:=g37.to L1 (o:=.tup [a,b]);exact q r a b _ (((g1.trans g2).trans g3).trans g38) qc (cF.mono g38) (uR.mono g38)
noncomputable def qQ(L4:List (List Pr×List Pr)):List Pr:=L4.foldl (λ c6 fg=>join c6 (added fg.1 fg.2)) []
theorem qbh(L4:List (List Pr×List Pr))(x:List Pr×List Pr):qQ (L4++[x])=join (qQ L4) (added x.1 x.2):=by unfold qQ;rw[List.foldl_append];rfl
theorem qa4{ls:List Nat}:∀(L4:List (List Pr×List Pr)),(∀ x∈L4,On ls x.1/\On ls x.2)->On ls (qQ L4):=by
 intro L4 h;have i8:∀(l:List (List Pr×List Pr))(c6:List Pr),On ls c6->(∀ x∈l,On ls x.1/\On ls x.2)->On ls (l.foldl (λ c6 fg=>join c6 (added fg.1 fg.2)) c6):=by
  intro l;induction l with
  |nil=>intro c6 ha _;exact ha
  |cons x l ih =>
   intro c6 ha hl;have hx:=hl x (Y7 ..);exact ih _ (ha.join (hx.1.added hx.2)) λ y hy=>hl y (Yf _ hy)
 exact i8 L4 [] (On.nil ls) h
def yd(H:Hp)(p:Addr)(fg:List Pr×List Pr):Prop:=∃ x y:Addr,H p=some (.tup [.ref x,.ref y])/\H x=some (.tup (fg.1.map vS))/\H y=some (.tup (fg.2.map vS))
theorem yd.mono{H H':Hp}{p:Addr}{fg:List Pr×List Pr}(h:yd H p fg)(g:qg H H'):yd H' p fg:=let ⟨x,y,a,b,c⟩:=h;⟨x,y,g _ _ a,g _ _ b,g _ _ c⟩
def qm1(K:W.Frag):Sp:=λ vs H Q _=>∃(a:Addr)(ps:List Addr)(L4:List (List Pr×List Pr))(ls:List Nat),vs=[.ref a]/\H a=some (.lst (ps.map V.ref))/\Paired (yd H) ps L4/\ls.Pairwise (·<·)/\ls.length<=6/\(∀ x∈L4,On ls x.1/\On ls x.2)/\∀ r H',qg H H'->H' r=some (.tup ((qQ L4).map vS))->Q (.ref r) H'
theorem qk6{ls:List Nat}{F:List Pr}(h:On ls F)(hl:ls.Pairwise (·<·))(l6:ls.length<=6):F.flatten.length<=192:=by
 have h1:=h.flat2 hl
 have:=qlW ls.length l6
 omega
theorem qm2{f fa fj:Addr}{fd pV fdj:FuncData}(F:Fun K "fault_of" "fault_of" k5 f fd)(Ga:Dp P w K mg base 1 fa pV ["one","other"] (qf9 K added) "added")(Gj:Dp P w K mg base 13 fj fdj ["one","other"] (sp2 K join) "joined"):FnOk P w K mg base CX0 14 f fd ["sides"] (qm1 K):=by
 refine F.okd qfj (λ cdv A outer s H vs Q E hr h=>?_);obtain⟨a,ps,L4,ls,rfl,ha,pr,rl,l6,sN,q⟩:=h;have C5:Room 1 _:=hr.mono (by decide);have B2:Room 13 _:=hr.mono (by decide);have o9:Ok9 ls:=⟨rl,by omega⟩;refine⟨_,(qd (qr (i:=1) qfj.nd rfl (Or.inl rfl) (zk qb))
  (qd (zZ U7 rfl (zT (pv 0)) (qaQ (n:=2) rfl (qF (qp (i:=2) qfj.nd rfl (Or.inl rfl)) (qF (qp (i:=3) qfj.nd rfl (Or.inl rfl)) zJ)))
  (qe (qr (i:=1) qfj.nd rfl (Or.inl rfl) (zm Gj B2 (qa (pv 1) (qa (zm Ga C5 (qa (pv 2) (qa (pv 3) qb))) qb))))))
  (qe (qk (pv 1))))),?_⟩
 refine⟨Qt _,λ f0 hf0=>?_⟩;refine⟨_,rfl,a,rfl,⟨_,SqL.of ((qg.up hf0) _ _ ha)⟩,?_⟩;refine vc (K:=K) (xs:=ps.map V.ref) (λ i σ H'=>∃(r:Addr)(v2 v3:Option V),σ=[some (.ref a),some (.ref r),v2,v3]/\qg H H'/\H' r=some (.tup ((qQ (L4.take i)).map vS))) ⟨f0,none,none,rfl,qg.up hf0,qc⟩ (λ i σ H' _ ⟨_,_,_,_,g,_⟩=>SqL.of (g _ _ ha)) ?_ ?_
 ·rintro i x σ H1 hx ⟨r,v2,v3,rfl,g1,e1⟩;obtain⟨p,hp,rfl⟩:=qj hx;obtain⟨fg,oK,sd⟩:=qX pr i p hp;obtain⟨x,y,s1,s2,s3⟩:=sd.mono g1;obtain⟨o1,o2⟩:=sN fg (Yh oK);have oT:On ls (qQ (L4.take i)):=qa4 _ λ x hx=>sN x (Ym hx)
  refine⟨p,_,rfl,SqT.of s1,rfl,_,_,rfl,_,_,rfl,rfl,?_⟩;refine⟨_,rfl,_,rfl,_,rfl,x,y,fg.1,fg.2,ls,rfl,SqT.of s2,SqT.of s3,o9,o1,o2,λ r2 H2 g2 e2=>?_⟩;refine⟨r,r2,qQ (L4.take i),added fg.1 fg.2,ls,rfl,SqT.of (g2 _ _ e1),SqT.of e2,o9,oT,o1.added o2,?_,λ r3 H3 g3 e3=>?_⟩
  ·have a1:=qk6 oT rl l6;have a2:=qk6 (o1.added o2) rl l6;omega
  exact⟨r3,_,_,rfl,(g1.trans g2).trans g3,by rw[zj oK,qbh];exact e3⟩
 ·rintro σ H1 ⟨r,v2,v3,rfl,g1,e1⟩;rw[Ut,show ps.length=L4.length from Yz pr,Uj] at e1;exact⟨_,rfl,q r H1 g1 e1⟩
def qg2:Sp:=λ vs H Q _=>∃(p ls:List Nat),vs=[vS p,vS ls]/\ls.length<=9/\p.length<=9/\p.Sublist ls/\ls.Pairwise (·<·)/\∀ H',qg H H'->Q (.bl true) H'
theorem qg3:FnScope ["self","givens","gaps","wishes","pairs"] ["self","givens","gaps","wishes"] (qh vz):=scF
structure NotC(c:CA)(X:Addr):Prop where
 a:X≠c.always
 n:X≠c.never
 l:X≠c.letter
 o:X≠c.not
 d:X≠c.and
 r:X≠c.or
 e:X≠c.either
theorem NotC.bin{c:CA}{X:Addr}(h:NotC c X)(op:Nat):X≠c.bin op:=by
 unfold CA.bin;split
 ·exact h.d
 ·split
  ·exact h.r
  ·exact h.e
theorem qcy{H:Hp}{x a X C dx dy:Addr}{fs gs:List (Str×V)}(h:H x=some (.ins X dx fs))(g:H a=some (.ins C dy gs))(n:X≠C):a≠x:=λ e=>by rw[e,h] at g;cases g;exact n rfl
theorem qJ.but{c:CA}{x X dx:Addr}{fs:List (Str×V)}{H H':Hp}(n:NotC c X)(h:H x=some (.ins X dx fs))(g:But x H H'):∀{t:Tr}{v:V},qJ c H t v->qJ c H' t v
 |.letter _,_,⟨a,dx,e,k⟩=>⟨a,dx,e,g _ _ (qcy h k n.l) k⟩
 |.one,_,⟨a,dx,e,k⟩=>⟨a,dx,e,g _ _ (qcy h k n.a) k⟩
 |.zero,_,⟨a,dx,e,k⟩=>⟨a,dx,e,g _ _ (qcy h k n.n) k⟩
 |.neg t,_,⟨a,dx,y,e,k,r⟩=>⟨a,dx,y,e,g _ _ (qcy h k n.o) k,qJ.but n h g r⟩
 |.bin op t u,_,⟨a,dx,y,z,e,k,r,r'⟩=>⟨a,dx,y,z,e,g _ _ (qcy h k (n.bin op)) k,qJ.but n h g r,qJ.but n h g r'⟩
def jq(c:CA)(H:Hp)(p:Addr)(x:Wsh):Prop:=∃ a b:V,H p=some (.tup [a,b])/\qJ c H x.t a/\qJ c H x.u b
theorem jq.mono{c:CA}{H H':Hp}{p:Addr}{x:Wsh}(h:jq c H p x)(g:qg H H'):jq c H' p x:=let ⟨a,b,e,o1,o2⟩:=h;⟨a,b,g _ _ e,o1.mono g,o2.mono g⟩
theorem jq.but{c:CA}{x X dx:Addr}{fs:List (Str×V)}{H H':Hp}{p:Addr}{y:Wsh}(n:NotC c X)(hx:H x=some (.ins X dx fs))(g:But x H H')(h:jq c H p y):jq c H' p y:=
 let ⟨a,b,e,o1,o2⟩:=h;⟨a,b,g _ _ (λ q=>by rw[q,hx] at e;cases e) e,qJ.but n hx g o1,qJ.but n hx g o2⟩
theorem qbA{x X dx:Addr}{fs:List (Str×V)}{H H':Hp}{a:Addr}{vs:List V}(hx:H x=some (.ins X dx fs))(g:But x H H')(h:H a=some (.tup vs)):H' a=some (.tup vs):=g _ _ (λ q=>by rw[q,hx] at h;cases h) h
theorem j3{x X dx:Addr}{fs:List (Str×V)}{H H':Hp}{a:Addr}{vs:List V}(hx:H x=some (.ins X dx fs))(g:But x H H')(h:H a=some (.lst vs)):H' a=some (.lst vs):=g _ _ (λ q=>by rw[q,hx] at h;cases h) h
theorem yd.but{x X dx:Addr}{fs:List (Str×V)}{H H':Hp}{p:Addr}{fg:List Pr×List Pr}(hx:H x=some (.ins X dx fs))(g:But x H H')(h:yd H p fg):yd H' p fg:=
 let ⟨a,b,e,o1,o2⟩:=h;⟨a,b,qbA hx g e,qbA hx g o1,qbA hx g o2⟩
noncomputable def Wsh.said(x:Wsh):List Nat:=x.t.text++[32,61,32]++x.u.text
noncomputable def Wsh.side(x:Wsh):List Pr×List Pr:=(x.t.form,x.u.form)
structure TaskAt(CT:Addr)(H:Hp)(o:Addr)(gv gp:List Nat)(ws:List Wsh)(dx a1 a2 a3:Addr)(ps:List Addr):Prop where
 ins:H o=some (.ins CT dx [("given_letters",vS gv),("gap_letters",vS gp),("wish_texts",.ref a1),("side_forms",.ref a2),("fault_form",.ref a3)])
 said:H a1=some (.lst (ws.map λ x=>vS x.said))
 sides:H a2=some (.lst (ps.map V.ref))
 side:Paired (yd H) ps (ws.map Wsh.side)
 fault:H a3=some (.tup ((qQ (ws.map Wsh.side)).map vS))
noncomputable def abc:List Nat:=[97,98,99]
noncomputable def xyz:List Nat:=[120,121,122]
theorem qkF:("abc":Str)=ql abc:=by decide +kernel
theorem qkG:("xyz":Str)=ql xyz:=by decide +kernel
theorem qa5{gv gp:List Nat}(h1:gv.Sublist abc)(h2:gp.Sublist xyz):(gv++gp).Pairwise (·<·)/\(gv++gp).length<=6/\∀ c∈gv++gp,c∈zw:=by
 have s:(gv++gp).Sublist (abc++xyz):=h1.append h2;have r:(abc++xyz).Pairwise (·<·):=by decide
 exact⟨r.sublist s,s.length_le,λ c hc=>(by decide:∀ c∈abc++xyz,c∈zw) c (s.subset hc)⟩
def qjB(K:W.Frag)(CT:Addr):Sp:=λ vs H Q _=>∃(x dx wl:Addr)(gv gp:List Nat)(ws:List Wsh),vs=[.ref x,vS gv,vS gp,.ref wl]/\H x=some (.ins CT dx [])/\SqL K H wl (ws.map λ y=>vS y.text)/\gv.Sublist abc/\gp.Sublist xyz/\ws.length<=6/\(∀ y∈ws,y.Ok (gv++gp))/\∀ a1 a2 a3 ps H',But x H H'->H a1=none->H a2=none->TaskAt CT H' x gv gp ws dx a1 a2 a3 ps->Q .non H'
theorem qkH{c:CA}{CT iL iN iP fQ fH fJ fG fM fC fK pR pN pO pM pQ pL pP f fI fW fF:Addr}{iU iQ iR iO iT iM iS tT tP tQ tO tS tN tR fd fdI fdW fdF:FuncData}(F:Fun K "__init__" "Task.__init__" vz f fd)(T:Txt mg)(C:CTxt K c iL iN iP)(cT:Cls K CT)(nc:NotC c CT)(n1:NoAttr K CT "given_letters")(n2:NoAttr K CT "gap_letters")(n3:NoAttr K CT "wish_texts")(n4:NoAttr K CT "side_forms")(n5:NoAttr K CT "fault_form"){t1 t2 t3:Tok}(wA:mg "GIVENS"=some (.str "abc" t1))(wB:mg "GAPS"=some (.str "xyz" t2))(mmw:mg "MOST_WISHES"=some (.int 6 t3))(Mt:MTxt K c "text" fQ fH fJ fG fM fC fK)(Vt:VOk P w K mg base zN c 21 kD kR kE fQ fH fJ fG fM fC fK iU iQ iR iO iT iM iS)(Mf:FTxt K c pR pN pO pM pQ pL pP)(Gf:FOk P w K mg base c 21 pR pN pO pM pQ pL pP tT tP tQ tO tS tN tR)(eI:qf K iU ["self"] [])(dZ:qf K iQ ["self"] [])(eB:qf K iR ["self"] [])(dY:qf K iO ["self"] [])(eG:qf K iT ["self"] [])(dX:qf K iM ["self"] [])(eF:qf K iS ["self"] [])(rM:qf K tT ["self"] [])(rH:qf K tP ["self"] [])(rJ:qf K tQ ["self"] [])(rG:qf K tO ["self"] [])(rL:qf K tS ["self"] [])(rF:qf K tN ["self"] [])(rK:qf K tR ["self"] [])(GI:Dp P w K mg base 1 fI fdI ["text","letters"] qg2 "is_row")(GW:Dp P w K mg base 22 fW fdW ["wish","letters"] (qmZ c) "wish_read")(GF:Dp P w K mg base 14 fF fdF ["sides"] (qm1 K) "fault_of"):
  FnOk P w K mg base CX0 35 f fd ["self","givens","gaps","wishes"] (qjB K CT):=by
 refine F.okd qg3 (λ cdv A outer s H vs Q E hr h=>?_);obtain⟨x,dx,wl,gv,gp,ws,rfl,hx,hw,eK,eL,l6,ok,q⟩:=h;have C5:Room 1 _:=hr.mono (by decide);have xC:Room 14 _:=hr.mono (by decide);have N3:Room 21 _:=hr.mono (by decide);have xB:Room 22 _:=hr.mono (by decide);have A0:Room 34 _:=hr.mono (by decide);obtain⟨rl,nB,l9⟩:=qa5 eK eL;have nC:=eK.length_le;have lE:=eL.length_le;have la:abc.length=3:=rfl;have lx:xyz.length=3:=rfl;refine⟨_,(qd (q8 (PW.pt (qcV (qfs (j8 (zm GI C5 (qa (pv 1) (qa (zR (v:=.str "abc") (by rfl) wA ⟨_,rfl⟩) qb)))))
   (qbE (qfs (j8 (zm GI C5 (qa (pv 2) (qa (zR (v:=.str "xyz") (by rfl) wB ⟨_,rfl⟩) qb)))))))) (qe y2) qD)
  (qd (q8 (qv qbF (qz qy (by rfl) T.len Js (qa (pv 3) qb)) (zR (v:=.int 6) (by rfl) mmw ⟨_,rfl⟩) (qA _)) (qe y2) qD)
  (qd (qgM (i:=4) qg3.nd rfl rfl (csc (NY:=["wish","givens","gaps"]) (o:=1) (caps:=[1,2]) ["givens","gaps"] rfl
    (by intro x hx;rcases Jy.mp hx with e | hx;· rw[e];exact .inl rfl
        rw[Zf.mp hx];exact .inl rfl) (qav rfl rfl rfl (qav rfl rfl rfl jK)) rfl) rfl
    (zT (pv 3)) (λ C0 s H fp pins=>qp (i:=0) (show(["wish","givens","gaps"]:List Str).Nodup by decide +kernel) rfl (Or.inl rfl)) (λ C0 s H fp pins=>zz) (λ C0 s H fp pins=>(zm GW xB (qa (pv 0) (qa (qm qL (pv 1) (pv 2)) qb)))))
  (qd (jy (pv 0) (pv 1) rfl)
  (qd (jy (pv 0) (pv 2) rfl)
  (qd (jy (pv 0) (zK (csc (NY:=["left","right"]) (o:=2) (caps:=[]) [] rfl (by simp) jK rfl) rfl
    (zT (pv 4)) (λ C0 s H fp pins=>(show PG _ _ (qic K 2 (qac (jr 0) (qac (jr 1) qib))) from qaQ (n:=2) rfl (qF (qp (i:=0) (show(["left","right"]:List Str).Nodup by decide +kernel) rfl (Or.inl rfl) (hf:=Or.inr rfl)) (qF (qp (i:=1) (show(["left","right"]:List Str).Nodup by decide +kernel) rfl (Or.inl rfl) (hf:=Or.inr rfl)) zJ)))) (λ C0 s H fp pins=>zz) (λ C0 s H fp pins=>(qm qL (qm qL (kf (pv 0) C Mt Vt N3 eI dZ eB dY eG dX eF) qo) (kf (pv 1) C Mt Vt N3 eI dZ eB dY eG dX eF)))) rfl)
  (qd (jy (pv 0) (zK (csc (NY:=["left","right"]) (o:=2) (caps:=[]) [] rfl (by simp) jK rfl) rfl
    (zT (pv 4)) (λ C0 s H fp pins=>(show PG _ _ (qic K 2 (qac (jr 0) (qac (jr 1) qib))) from qaQ (n:=2) rfl (qF (qp (i:=0) (show(["left","right"]:List Str).Nodup by decide +kernel) rfl (Or.inl rfl) (hf:=Or.inr rfl)) (qF (qp (i:=1) (show(["left","right"]:List Str).Nodup by decide +kernel) rfl (Or.inl rfl) (hf:=Or.inr rfl)) zJ)))) (λ C0 s H fp pins=>zz) (λ C0 s H fp pins=>(zk (qa (PE.or (qB (pv 0) C.always Mf.always Gf.always A0 rM .nil qE)
   (PE.or (qB (pv 0) C.never Mf.never Gf.never A0 rH .nil qE)
   (PE.or (qB (pv 0) C.letter Mf.letter Gf.letter A0 rJ .nil qE)
   (PE.or (qB (pv 0) C.not Mf.not Gf.not A0 rG .nil qE)
   (PE.or (qB (pv 0) C.and Mf.and Gf.and A0 rL .nil qE)
   (PE.or (qB (pv 0) C.or Mf.or Gf.or A0 rF .nil qE)
   (qB (pv 0) C.either Mf.either Gf.either A0 rK .nil qE))))))) (qa (PE.or (qB (pv 1) C.always Mf.always Gf.always A0 rM .nil qE)
   (PE.or (qB (pv 1) C.never Mf.never Gf.never A0 rH .nil qE)
   (PE.or (qB (pv 1) C.letter Mf.letter Gf.letter A0 rJ .nil qE)
   (PE.or (qB (pv 1) C.not Mf.not Gf.not A0 rG .nil qE)
   (PE.or (qB (pv 1) C.and Mf.and Gf.and A0 rL .nil qE)
   (PE.or (qB (pv 1) C.or Mf.or Gf.or A0 rF .nil qE)
   (qB (pv 1) C.either Mf.either Gf.either A0 rK .nil qE))))))) qb))))) rfl)
  (qe (jy (pv 0) (zm GF xC (qa (za (pv 0) (by rfl)) qb)) rfl))))))))),?_⟩
 rw[qkF,qkG,show(" = ":Str)=ql [32,61,32] by decide +kernel];refine⟨_,rfl,gv,abc,rfl,by decide,by omega,eK,by decide,λ H1 g1=>⟨true,rfl,ya ?_⟩⟩;refine⟨_,rfl,gp,xyz,rfl,by decide,by omega,eL,by decide,λ H2 g2=>⟨true,rfl,ya ?_⟩⟩;have A3:=g1.trans g2;refine⟨_,rfl,wl,_,rfl,.inl (A3.seq hw),_,_,rfl,rfl,_,rfl,?_⟩;rw[Ut,Ja (show ¬ (6:Int)<(ws.length:Int) by omega)];refine ya ?_;refine⟨_,rfl,wl,rfl,⟨_,A3.seq hw⟩,?_⟩;refine y9 (ws.map λ y=>vS y.text).length (λ i ys H'=>∃ ps:List Addr,ys=ps.map V.ref/\Paired (jq c H') ps (ws.take i)) (λ D hD=>⟨[],rfl,.nil⟩) ?_ ?_ (λ H' sm=>⟨_,(A3.trans sm).seq hw,Qs _⟩) ?_
 ·rintro i ys H' hi ⟨ps,rfl,hp⟩
  have:=hp.length
  rw[Uc] at this;rw[Ut];exact zl (by omega)
 ·rintro i ys H' D Y Z hi hD fB sm ⟨ps,rfl,hp⟩ hY hZ;rw[Ut] at hi;refine⟨⟨_,_,(A3.trans sm).seq hw,Xw (by rw[Ut];exact hi)⟩,?_⟩;rintro v H'' ⟨rfl,hv⟩;have ev:=hv _ ((A3.trans sm).seq hw);obtain⟨y,hy,rfl⟩:=qj ev;refine⟨⟨rfl,rfl⟩,?_⟩;refine⟨_,rfl,_,rfl,_,rfl,_,_,rfl,rfl,by rw[qK,qK];exact qu (by omega),?_⟩;rw[ju];refine⟨y,gv++gp,rfl,ok y (Yh hy),l9,λ r a b H3 g3 e3 o1 o2=>?_⟩;refine hY _ _ (g3 _ _ fB) (sm.trans g3) ⟨ps++[r],by rw[U2];rfl,?_⟩;have eD:=g3 _ _ fB;have gX:zB H3 (upd H3 D (.lst (ps.map V.ref++[.ref r]))):=zB.updL eD;rw[zj hy];refine zh (zA (λ p z hz=>?_) hp) (.cons ⟨a,b,gX _ _ e3 (λ _ z=>nomatch z),qJ.monoX gX o1,qJ.monoX gX o2⟩ .nil);obtain⟨a',b',k1,k2,k3⟩:=hz.mono g3;exact⟨a',b',gX _ _ k1 (λ _ z=>nomatch z),qJ.monoX gX k2,qJ.monoX gX k3⟩
 rintro D H3 ys hD sm M4 ⟨ps,rfl,cQ⟩;rw[Ut,Uj] at cQ;have g3:=A3.trans sm;have cL:=g3 _ _ hx;have sG:ps.length=ws.length:=cQ.length;have hD3:H3 D=some (.lst (ps.map V.ref)):=M4;refine⟨_,rfl,_,rfl,x,CT,dx,[],rfl,cL,cT,n1,by decide,?_⟩;refine⟨_,rfl,_,rfl,x,CT,dx,_,rfl,qc,cT,n2,by show 1<1000;decide,?_⟩;obtain⟨H5,S7⟩:∃ H5,H5=upd (upd H3 x (.ins CT dx [("given_letters",vS gv)])) x (.ins CT dx [("given_letters",vS gv),("gap_letters",vS gp)]):=⟨_,rfl⟩;have b5:But x H3 H5:=by rw[S7];exact((But.refl x H3).upd).upd
 have hx5:H5 x=some (.ins CT dx [("given_letters",vS gv),("gap_letters",vS gp)]):=by rw[S7];exact qc
 have hD5:=j3 cL b5 hD3;have hp5:=zA (λ p y h=>jq.but nc cL b5 h) cQ;have go5:∀ G:Hp->Prop,G H5->G (upd (upd H3 x (.ins CT dx [("given_letters",vS gv)])) x (.ins CT dx [("given_letters",vS gv),("gap_letters",vS gp)])):=λ G h=>S7 ▸ h
 refine go5 _ ?_;have lA:∀ y∈ws,∀ t,(t=y.t∨t=y.u)->t.Of (gv++gp)/\t.Of zw/\t.wt<=20/\t.ht<=21/\Szd t:=λ y hy t ht=>by
  have oy:=ok y hy;have h1:t.Of (gv++gp):=by rcases ht with rfl|rfl;exact oy.t;exact oy.u
  have h2:t.nodes<=20:=by rcases ht with rfl|rfl;exact oy.tn;exact oy.un
  have h3:=wt_nodes t;have h4:t.wt<=20:=by omega
  have h5:=h1.upL l9;exact⟨h1,h5,h4,by have:=t.ht_wt;omega,h5,.inl (Qf (jt (zx Jx t.lets_rise) λ c hc=>Tr.Of.has h1 (t.mem_lets.mp hc)) nB)⟩
 refine⟨_,rfl,D,rfl,⟨_,SqL.of hD5⟩,?_⟩;refine qcc (SqL.of hD5) (λ i=>(ws.take i).map λ y=>vS y.said) rfl (λ i hi=>?_) ?_ ?_
 ·rw[Ut,Uc];exact zl (by omega)
 ·intro i v H' D2 Y Z hv bV fB T8 hY hZ;obtain⟨p,hp,rfl⟩:=qj hv;obtain⟨y,hy,pr⟩:=qX hp5 i p hp;obtain⟨a,b,e1,o1,o2⟩:=pr.mono T8;obtain⟨_,t9,tw,th,_⟩:=lA y (Yh hy) y.t (.inl rfl);obtain⟨_,u9,uw,uh,_⟩:=lA y (Yh hy) y.u (.inr rfl);have lt:=y.t.text_len;have lu:=y.u.text_len;refine⟨p,_,rfl,SqT.of e1,rfl,_,_,rfl,_,_,rfl,rfl,⟨rfl,rfl⟩,?_⟩;refine(jb qw (jb qw (dV (f:=zN) (n:=21) (κd:=kD) (κr:=kR) (κe:=kE) (λ _ _=>⟨rfl,rfl,rfl⟩) (λ _ _=>⟨_,_,rfl⟩) (λ _ _=>⟨_,_,rfl⟩) (λ _ _=>⟨_,_,rfl⟩) (dvA rfl) o1 th (by omega) t9) dC (by show _+3<=_;omega))
   (dV (f:=zN) (n:=21) (κd:=kD) (κr:=kR) (κe:=kE) (λ _ _=>⟨rfl,rfl,rfl⟩) (λ _ _=>⟨_,_,rfl⟩) (λ _ _=>⟨_,_,rfl⟩) (λ _ _=>⟨_,_,rfl⟩) (dvA rfl) o2 uh (by omega) u9) (by rw[Za];show _+3+_<=_;omega)) _ _ _ at0 λ H'' pG=>?_
  exact hY _ _ (pG _ _ fB) (T8.trans pG) (yF (f:=λ y:Wsh=>vS y.said) hy)
 intro a1 H6 hA1 s6 h6;rw[Ut,sG,Uj] at h6;have sK:=s6 _ _ hx5;refine⟨_,rfl,x,CT,dx,_,rfl,sK,cT,n3,by show 2<1000;decide,?_⟩;obtain⟨H7,hH7⟩:∃ H7,H7=upd H6 x (.ins CT dx [("given_letters",vS gv),("gap_letters",vS gp),("wish_texts",.ref a1)]):=⟨_,rfl⟩;have b7:But x H6 H7:=by rw[hH7];exact(But.refl x H6).upd
 have hx7:H7 x=some (.ins CT dx [("given_letters",vS gv),("gap_letters",vS gp),("wish_texts",.ref a1)]):=by rw[hH7];exact qc
 have sV:=j3 sK b7 (s6 _ _ hD5);have hA7:=j3 sK b7 h6;have hp7:=zA (λ p y h=>jq.but nc sK b7 (jq.mono h s6)) hp5;have go7:∀ G:Hp->Prop,G H7->G (upd H6 x (.ins CT dx [("given_letters",vS gv),("gap_letters",vS gp),("wish_texts",.ref a1)])):=λ G h=>hH7 ▸ h
 refine go7 _ ?_;refine⟨_,rfl,D,rfl,⟨_,SqL.of sV⟩,?_⟩;refine y9 (ps.map V.ref).length (λ i ys H'=>∃ qs:List Addr,ys=qs.map V.ref/\Paired (yd H') qs ((ws.take i).map Wsh.side)) (λ D hD=>⟨[],rfl,.nil⟩) ?_ ?_ (λ H' T8=>⟨_,T8.seq (SqL.of sV),Qs _⟩) ?_
 ·rintro i ys H' hi ⟨qs,rfl,hq⟩
  have:=hq.length
  rw[Ut,Uc] at this;rw[Ut];exact zl (by omega)
 ·rintro i ys H' D2 Y Z hi bV fB T8 ⟨qs,rfl,hq⟩ hY hZ;have oJ:i<ps.length:=by rw[Ut] at hi;exact hi
  refine⟨⟨_,_,T8.seq (SqL.of sV),Xw hi⟩,?_⟩;rintro v H'' ⟨rfl,hv⟩;have ev:=hv _ (T8.seq (SqL.of sV));obtain⟨p,hp,rfl⟩:=qj ev;obtain⟨y,hy,pr⟩:=qX hp7 i p hp;obtain⟨a,b,e1,o1,o2⟩:=pr.mono T8;obtain⟨_,t9,tw,th,ts⟩:=lA y (Yh hy) y.t (.inl rfl);obtain⟨_,u9,uw,uh,us⟩:=lA y (Yh hy) y.u (.inr rfl);refine⟨p,_,rfl,SqT.of e1,rfl,_,_,rfl,_,_,rfl,rfl,⟨rfl,rfl⟩,?_⟩;refine dfm (n:=21) (dvA rfl) o1 th ts _ _ _ at0 λ r1 Ha ga ea=>?_
  refine dfm (n:=21) (dvA rfl) (o2.mono ga) uh us _ _ _ at0 λ r2 Hb gb eb=>⟨qu (by show 2<=_;decide),λ pp V1=>?_⟩
  have gc:=(ga.trans gb).to V1 (o:=.tup [.ref r1,.ref r2]);have eD:=gc _ _ fB;have gX:zB (upd Hb pp (.tup [.ref r1,.ref r2])) (upd (upd Hb pp (.tup [.ref r1,.ref r2])) D2 (.lst (qs.map V.ref++[.ref pp]))):=zB.updL eD;refine hY _ _ eD (T8.trans gc) ⟨qs++[pp],by rw[U2];rfl,?_⟩;rw[zj hy,U2];have R6:∀{z:Addr}{vs:List V},upd Hb pp (.tup [.ref r1,.ref r2]) z=some (.tup vs)->upd (upd Hb pp (.tup [.ref r1,.ref r2])) D2 (.lst (qs.map V.ref++[.ref pp])) z=some (.tup vs):=λ h=>gX _ _ h (λ _ z=>nomatch z)
  refine zh (zA (λ p' z hz=>?_) hq) (.cons ⟨r1,r2,R6 qc,R6 ((qg.up V1) _ _ (gb _ _ ea)),R6 ((qg.up V1) _ _ eb)⟩ .nil);obtain⟨x1,x2,k1,k2,k3⟩:=yd.mono hz gc;exact⟨x1,x2,R6 k1,R6 k2,R6 k3⟩
 rintro a2 H8 ys hA2 s8 h8 ⟨qs,rfl,hqs⟩;rw[Ut,sG,Uj] at hqs;have sJ:=s8 _ _ hx7;refine⟨_,rfl,x,CT,dx,_,rfl,sJ,cT,n4,by show 3<1000;decide,?_⟩;obtain⟨H9,hH9⟩:∃ H9,H9=upd H8 x (.ins CT dx [("given_letters",vS gv),("gap_letters",vS gp),("wish_texts",.ref a1),("side_forms",.ref a2)]):=⟨_,rfl⟩;have b9:But x H8 H9:=by rw[hH9];exact(But.refl x H8).upd
 have hx9:H9 x=some (.ins CT dx [("given_letters",vS gv),("gap_letters",vS gp),("wish_texts",.ref a1),("side_forms",.ref a2)]):=by rw[hH9];exact qc
 have hA9:=j3 sJ b9 (s8 _ _ hA7);have hB9:=j3 sJ b9 h8;have hs9:=zA (λ p y h=>yd.but sJ b9 h) hqs;have go9:∀ G:Hp->Prop,G H9->G (upd H8 x (.ins CT dx [("given_letters",vS gv),("gap_letters",vS gp),("wish_texts",.ref a1),("side_forms",.ref a2)])):=λ G h=>hH9 ▸ h
 refine go9 _ ?_;have sN:∀ z∈ws.map Wsh.side,On (gv++gp) z.1/\On (gv++gp) z.2:=λ z hz=>by
  obtain⟨y,hy,rfl⟩:=Ql.mp hz;exact⟨Tr.on (lA y hy y.t (.inl rfl)).1,Tr.on (lA y hy y.u (.inr rfl)).1⟩
 refine⟨_,rfl,x,CT,dx,_,_,rfl,hx9,cT,n4,rfl,a2,qs,ws.map Wsh.side,gv++gp,rfl,hB9,hs9,rl,nB,sN,λ a3 HA gA eA=>?_⟩;have nI:=gA _ _ hx9;refine⟨_,rfl,x,CT,dx,_,rfl,nI,cT,n5,by show 4<1000;decide,?_⟩;have bB:But x HA (upd HA x (.ins CT dx [("given_letters",vS gv),("gap_letters",vS gp),("wish_texts",.ref a1),("side_forms",.ref a2),("fault_form",.ref a3)])):=(But.refl x HA).upd;have B5:But x H H5:=(zC g3).trans b5;have B7:But x H H7:=(B5.trans (zC s6)).trans b7;have fr:∀{Ha:Hp}{z:Addr},But x H Ha->(∃ o,Ha x=some o)->Ha z=none->H z=none:=λ{Ha z} b sI hz=>by
  cases e:H z with
  |none=>rfl
  |some o =>
   by_cases hzx:z=x
   ·obtain⟨o',cW⟩:=sI;rw[hzx,cW] at hz;cases hz
   ·rw[b z o hzx e] at hz;cases hz
 refine q a1 a2 a3 qs _ ?_ (fr B5 ⟨_,hx5⟩ hA1) (fr B7 ⟨_,hx7⟩ hA2) ⟨qc,j3 nI bB (gA _ _ hA9),j3 nI bB (gA _ _ hB9),zA (λ p y h=>yd.but nI bB (yd.mono h gA)) hs9,qbA nI bB eA⟩;exact((((((zC g3).trans b5).trans (zC s6)).trans b7).trans (zC s8)).trans b9).trans ((zC gA).trans bB)
theorem qjC:FnScope ["text","letters"] ["text","letters"] (qh qct):=scF
theorem qjD{f :Addr}{fd :FuncData}(F:Fun K "is_row" "is_row" qct f fd)(T:Txt mg): FnOk P w K mg base CX0 1 f fd ["text","letters"] (qg2):=by
 refine F.okd qjC (λ cdv A outer s H vs Q E hr h=>?_);obtain⟨p,ls,rfl,l9,p9,hp,hl,q⟩:=h;refine⟨_,(qe (qk (jx zq (pv 0) (yQ XL Ya Yb qdL qo (qa (zK (csc (NY:=["letter","text"]) (o:=1) (caps:=[0]) ["text"] rfl
    (by intro x hx;rw[Zf.mp hx];exact .inl rfl) (qav rfl rfl rfl jK) rfl) rfl
    (qb2 (pv 1)) (λ C0 s H fp pins=>qp (i:=0) (show(["letter","text"]:List Str).Nodup by decide +kernel) rfl (Or.inl rfl)) (λ C0 s H fp pins=>(qbt (qv vW (pv 0) (pv 1) rfl))) (λ C0 s H fp pins=>(pv 0))) qb)) (qA _)))),?_⟩
 have hz:("":Str).length=0:=by decide
 have hs:(ql ls).cps.size=ls.length:=qK ls;refine⟨_,rfl,rfl,?_⟩;refine⟨_,rfl,_,rfl,?_⟩;refine qiQ (λ j=>((ls.take j).filter λ c=>decide (c∈p)).map λ c=>vS [c]) rfl (λ j hj=>?_) ?_ ?_
 ·rw[Ut];have:=XZ (λ c=>decide (c∈p)) (ls.take j);rw[Uc] at this;exact zl (by omega)
 ·intro j H6 D6 Y Z hj hD6 pB cD hY hZ;rw[hs] at hj;rw[vJ hj];have fs:=qbf (f:=λ c=>decide (c∈p)) hj;refine⟨⟨rfl,rfl⟩,?_⟩;refine⟨_,rfl,_,rfl,_,_,rfl,rfl,_,rfl,?_⟩;refine qbM (λ c=>?_) (λ c=>?_)
  ·refine⟨_,rfl,hY _ _ pB cD ?_⟩;show List.map _ ((ls.take (j+1)).filter _)=_
   rw[fs,Vh c,U2];rfl
  ·refine hZ _ pB cD ?_;show List.map _ ((ls.take (j+1)).filter _)=_
   rw[fs,Vi c,Uu]
 ·intro D6 H6 hD6 cD pB;rw[hs,Uj,qe3 hl (hl.sublist hp) (λ c h=>hp.subset h)] at pB;refine⟨_,D6,(p.map λ c=>[c]).map ql,rfl,rfl,.inl (SqL.of (by rw[pB,qf4,jL])),?_,?_⟩
  ·rw[qce,hz,v0];show _+_*0<=_;omega
  rw[qcd,v0];refine⟨rfl,?_⟩;rw[show decide (V.str (ql p)=V.str (ql p))=true from qmC p];exact q _ cD
def Scr(K:W.Frag)(H:Hp)(a:Addr)(ns:List Int):Prop:=SqL K H a (ns.map V.int)/\ns.length<=63
theorem Scr.mono{K:W.Frag}{H H':Hp}{a:Addr}{ns:List Int}(h:Scr K H a ns)(g:qg H H'):Scr K H' a ns:=⟨g.seq h.1,h.2⟩
def vL(K:W.Frag):Sp:=λ vs H Q _=>∃(a:Addr)(ns:List Int)(k:Int),vs=[.ref a,.int k]/\Scr K H a ns/\0<=k/\k<=100000/\∀ z H',qg H H'->0<=z->z<1000000007->Q (.int z) H'
theorem jv:FnScope [sA0,sB4,"_law_cell","_law_step",sA6] [sA0,sB4] (qh vC):=scF
theorem qkI{ns:List Int}{k:Int}(h0:0<=k)(h:k<(ns.length:Int)):∃ v:Int,atI (ns.map V.int) k=some (.int v):=by
 have hk:k.toNat<ns.length:=by omega
 have ek:k=((k.toNat:Nat):Int):=by omega
 have:=qae (xs:=ns.map V.int) (j:=k.toNat) (v:=.int ns[k.toNat]) (by rw[Zl,Xw hk];rfl)
 rw[<- ek] at this;exact⟨_,this⟩
theorem qhS{c:Prop}[Decidable c]{A B:Prop}(R:Int->Prop)(hA:c->(∀ z,R z)->A)(hB:¬ c->(∀ z,R z)->B)(hC:∀ z,R z):if c then A else B:=by
 by_cases h:c
 ·rw[Vh h];exact hA h hC
 ·rw[Vi h];exact hB h hC
theorem ql1:bootBuiltins "max"=some (.builtin "max"):=by decide +kernel
theorem qjE{k:Nat}{f:Addr}{fd:FuncData}(F:Fun K sB3 sB3 vC f fd)(T:Txt mg):FnOk P w K mg base CX0 (k+1) f fd [sA0,sB4] (vL K):=by
 refine F.okd jv (λ cdv A outer s H vs Q E hr h=>?_);obtain⟨a,ns,k,rfl,⟨hS,h63⟩,k0,k1,q⟩:=h;refine⟨_,qd (qr (i:=2) jv.nd rfl (Or.inl rfl) qi)
  (qd (q8 (qv qbF (qz qy (by rfl) T.len Js (qa (pv 0) qb)) qi (qA _))
   (qe (qr (i:=2) jv.nd rfl (Or.inl rfl) (q9 jz (pv 0) (qm zd (pv 1) (qz qy (by rfl) T.len Js (qa (pv 0) qb))) (λ _ _=>rfl)))) qD)
  (qd (q8 (qv zq (qm zd (qz qy (by rfl) T.len Js (qa (pv 0) qb)) qi) qi (qA _))
   (qd (zZ U7 rfl (yi (by rfl) T.range (qa (qz (qhh rfl) (by rfl) T.min qlP (qa qi (qa (qm zU (pv 1) (qz (qhg rfl) (by rfl) T.max ql1 (qa qi (qa (qz qy (by rfl) T.len Js (qa (pv 0) qb)) qb)))) qb))) qb)) (qp (i:=3) jv.nd rfl (Or.inl rfl))
    (qe (qr (i:=2) jv.nd rfl (Or.inl rfl) (qm zU (pv 2) qi))))
   (qe (qk (qm zd (pv 2) qi)))) qD)
  (qd (qr (i:=4) jv.nd rfl (Or.inl rfl) (qm zd (qm yH (qm yH (qm yH (qm jm (qm zd (pv 2) qi) qi) (qm jm (qm jm qi (pv 1)) (pv 1))) (qm jm qi (pv 1))) qi) qi))
  (qe (qk (qm zd (qm jm (pv 4) qi) qi)))))),?_⟩
 have hl:(ns.map V.int).length=ns.length:=Ut _;have q':∀ z:Int,0<=z->z<1000000007->Q (.int z) H:=λ z h1 h2=>q z H (qg.refl H) h1 h2
 refine⟨_,rfl,a,_,rfl,.inl hS,_,_,rfl,rfl,_,rfl,?_⟩;rw[hl];refine qhS ?R (λ c1 C=>?hA) (λ c1 C=>?hB) ?hC
 case hA =>
  have c1':(0:Int)<(ns.length:Int):=Z9 c1;obtain⟨v,hv⟩:=qkI (ns:=ns) (k:=k % (ns.length:Int)) (U3 k (by omega)) (Zg k c1');refine⟨_,rfl,_,rfl,_,rfl,a,_,rfl,.inl hS,?_⟩;rw[hl];refine⟨_,_,rfl,rfl,c1',a,_,_,_,rfl,rfl,hS,hv,?_⟩;exact C v
 case hB=>exact C 0
 intro c;refine⟨_,rfl,a,_,rfl,.inl hS,_,_,rfl,rfl,(show(0:Int)<2 by decide),rfl,_,rfl,?_⟩;rw[hl];refine qbM (λ c2=>?_) (λ c2=>?_)
 ·refine⟨_,rfl,_,rfl,a,_,rfl,.inl hS,_,_,rfl,?_⟩;rw[hl];have m1:(1:Int)<=(if (ns.length:Int) > 1 then(ns.length:Int) else 1):=by split <;> omega
  have m2:(if (ns.length:Int) > 1 then(ns.length:Int) else 1)<=63:=by split <;> omega
  generalize (if (ns.length:Int) > 1 then(ns.length:Int) else 1)=m at m1 m2;refine⟨_,_,rfl,rfl,⟨by omega,by omega⟩,_,_,rfl,?_⟩;have d0:0<=k / m:=U9 k0 (by omega);refine⟨_,rfl,?_,?_,?_⟩
  ·show -(2^62)<=(if k / m<(60:Int) then k / m else(60:Int))
   split <;> omega
  ·show(if k / m<(60:Int) then k / m else(60:Int))<2^62
   split <;> omega
  refine js (λ i σ H1=>∃(c:Int)(v:Option V),σ=[some (.ref a),some (.int k),some (.int c),v,none]/\H1=H) ⟨_,none,rfl,rfl⟩ ?_ ?_
  ·rintro i σ H1 hi ⟨c,v,rfl,rfl⟩;refine⟨_,rfl,_,_,rfl,rfl,⟨by decide,by decide⟩,?_⟩;exact⟨_,_,rfl,rfl⟩
  ·rintro σ H1 ⟨c,v,rfl,rfl⟩;refine⟨_,rfl,_,_,rfl,rfl,(show(0:Int)<1000000007 by decide),?_⟩;exact q' _ (U3 _ (by decide)) (Zg _ (by decide))
 ·have kb:-(2^64)<k/\k<2^64:=⟨by omega,by omega⟩;refine⟨_,rfl,_,_,rfl,rfl,(show(0:Int)<1000003 by decide),_,_,rfl,rfl,.inr ⟨by decide,by decide⟩,_,rfl,_,_,rfl,rfl,.inr kb,_,rfl,_,_,rfl,rfl,.inr kb,_,_,rfl,rfl,_,rfl,_,_,rfl,rfl,.inr kb,_,_,rfl,rfl,_,_,rfl,rfl,_,_,rfl,rfl,(show(0:Int)<2147483647 by decide),?_⟩;refine⟨_,rfl,_,_,rfl,rfl,.inr ⟨by decide,by decide⟩,_,_,rfl,rfl,(show(0:Int)<1000000007 by decide),?_⟩;exact q' _ (U3 _ (by decide)) (Zg _ (by decide))
def qea:Sp:=λ vs H Q _=>∃(m:Int)(ls:List Nat),vs=[.int m,vS ls]/\0<=m/\ls.length<=9/\∀ t v H',qg H H'->zM H' t v->t.Of ls->t.ht=1->Q v H'
theorem qg4:FnScope [sA6,sA3,"_law_some"] [sA6,sA3] (qh k6):=scF
theorem qkJ:([sC6]:List Str).Nodup:=by decide +kernel
theorem qkK{k:Nat}{f:Addr}{fd:FuncData}(F:Fun K sB7 sB7 k6 f fd)(T:Txt mg):FnOk P w K mg base CX0 (k+1) f fd [sA6,sA3] qea:=by
 refine F.okd qg4 (λ cdv A outer s H vs Q E hr h=>?_);obtain⟨m,ls,rfl,m0,l9,q⟩:=h;refine⟨_,qd (qr (i:=2) qg4.nd rfl (Or.inl rfl) (qm qbL (qm qls (zK (csc (NY:=[sC6]) (o:=1) (caps:=[]) [] rfl (by simp) jK rfl) rfl
    (qb2 (pv 1)) (λ C s H fp pins=>qp (i:=0) qkJ rfl (Or.inl rfl)) (λ C s H fp pins=>zz) (λ C s H fp pins=>zk (qa qo (qa (pv 0) qb)))) qi)
    (yJ (qa (zk (qa qo qb)) (qa (zk (qa qo qb)) qb)))))
  (qe (qk (q9 jz (pv 2) (qm zd (pv 0) (qz qy (by rfl) T.len Js (qa (pv 2) qb))) (λ _ _=>rfl)))),?_⟩
 have hs:(ql ls).cps.size=ls.length:=qK ls;have z1:("1":Str)=ql [49]:=by decide +kernel
 have z0:("0":Str)=ql [48]:=by decide +kernel
 rw[jZ,z1,z0];refine⟨_,rfl,_,rfl,?_⟩;refine y9 (ql ls).cps.size (λ i ys H2=>ys.length=i/\∀ v∈ys,∃ c∈ls,zM H2 (.letter c) v) (λ D hD=>⟨rfl,by simp⟩) (λ i ys H2 hi ⟨e,_⟩=>by rw[hs] at hi;rw[e];exact zl (by omega)) ?_ (λ H2 sm=>rfl) ?_
 ·rintro i ys H2 D Y Z hi hD u0 sm ⟨le,al⟩ hY hZ;refine⟨hi,?_⟩;rintro x H' ⟨rfl,rfl⟩;rw[hs] at hi;rw[vJ hi];refine⟨⟨rfl,rfl⟩,?_⟩;refine⟨_,rfl,qu (by show 2<=_;decide),λ p hp=>?_⟩;have hD':upd H' p (.tup [vS yA,vS [ls[i]]]) D=some (.lst ys):=(qg.up hp) _ _ u0;refine hY _ _ hD' (sm.to hp) ⟨by rw[Za,le];rfl,λ v hv=>?_⟩;rcases Ur.mp hv with hv | hv
  ·obtain⟨c,hc,L1⟩:=al v hv;exact⟨c,hc,L1.mono ((qP (qg.up hp)).trans (qY.updL hD'))⟩
  ·rw[Zf.mp hv];exact⟨ls[i],Ui hi,p,rfl,(qY.updL hD') _ _ qc⟩
 rintro D H2 ys hD sm u0 ⟨le,al⟩;rw[hs] at le;refine⟨D,2,ys,rfl,rfl,u0,by decide,by decide,by show ys.length*2<=_;exact qu (by omega),λ p1 P9=>?_⟩;have e2:(List.replicate (2:Int).toNat ys).flatten=ys++ys:=by show(List.replicate 2 ys).flatten=_;simp[List.replicate]
 rw[e2];refine⟨qu (by show 1<=_;decide),λ a1 ha1=>⟨qu (by show 1<=_;decide),λ a0 ha0=>⟨qu (by show 2<=_;decide),λ p2 E6=>?_⟩⟩⟩;have g1:=((qg.up P9 (o:=.lst (ys++ys))).to ha1 (o:=.tup [vS [49]])).to ha0 (o:=.tup [vS [48]]);have g2:=g1.to E6 (o:=.lst [.ref a1,.ref a0]);have e1:=(((qg.up ha1 (o:=.tup [vS [49]])).to ha0 (o:=.tup [vS [48]])).to E6 (o:=.lst [.ref a1,.ref a0])) p1 _ qc;refine⟨p1,p2,_,_,rfl,rfl,e1,qc,by rw[Za];exact qu (by show ys.length+ys.length+2<=_;omega),λ p3 gV=>?_⟩;have g3:=g2.to gV (o:=.lst (ys++ys++[.ref a1,.ref a0]));have iE:∀ v∈ys++ys++[V.ref a1,V.ref a0],∃ t:Tr,zM (upd (upd (upd (upd (upd H2 p1 (.lst (ys++ys))) a1 (.tup [vS [49]])) a0 (.tup [vS [48]])) p2 (.lst [.ref a1,.ref a0])) p3 (.lst (ys++ys++[.ref a1,.ref a0]))) t v/\t.Of ls/\t.ht=1:=λ v hv=>by
  rcases Ur.mp hv with hv|hv
  ·have hv:v∈ys:=by rcases Ur.mp hv with h | h <;> exact h
   obtain⟨c,hc,h⟩:=al v hv;exact⟨.letter c,h.mono (qP g3),hc,rfl⟩
  ·have hv:v=.ref a1∨v=.ref a0:=by simpa using hv
   rcases hv with e|e
   ·exact⟨.one,⟨a1,e,((qg.up ha0 (o:=.tup [vS [48]])).to E6 (o:=.lst [.ref a1,.ref a0])).to gV (o:=.lst (ys++ys++[.ref a1,.ref a0])) _ _ qc⟩,trivial,rfl⟩
   ·exact⟨.zero,⟨a0,e,((qg.up E6 (o:=.lst [.ref a1,.ref a0])).to gV (o:=.lst (ys++ys++[.ref a1,.ref a0]))) _ _ qc⟩,trivial,rfl⟩
 have hS:SqL K (upd (upd (upd (upd (upd H2 p1 (.lst (ys++ys))) a1 (.tup [vS [49]])) a0 (.tup [vS [48]])) p2 (.lst [.ref a1,.ref a0])) p3 (.lst (ys++ys++[.ref a1,.ref a0]))) p3 (ys++ys++[.ref a1,.ref a0]):=SqL.of qc;have gF:=sm.trans g3;generalize upd (upd (upd (upd (upd H2 p1 (.lst (ys++ys))) a1 (.tup [vS [49]])) a0 (.tup [vS [48]])) p2 (.lst [.ref a1,.ref a0])) p3 (.lst (ys++ys++[.ref a1,.ref a0]))=H3 at iE hS gF;have len:0<((ys++ys++[V.ref a1,V.ref a0]).length:Int):=by rw[Za];show 0<(((ys++ys).length+2:Nat):Int);omega
 generalize ys++ys++[V.ref a1,V.ref a0]=zs at iE hS len;have i0:=U3 m (b:=(zs.length:Int)) (by omega);have i1:=Zg m len;have hk:(m % (zs.length:Int)).toNat<zs.length:=by omega
 have bT:atI zs (m % (zs.length:Int))=some zs[(m % (zs.length:Int)).toNat]:=by
  have:=qae (xs:=zs) (j:=(m % (zs.length:Int)).toNat) (Xw hk)
  rw[show(((m % (zs.length:Int)).toNat:Nat):Int)=m % (zs.length:Int) by omega] at this;exact this
 obtain⟨t,h1,h2,h3⟩:=iE _ (Ui hk);refine⟨_,rfl,_,rfl,_,rfl,p3,_,rfl,.inl hS,_,_,rfl,rfl,len,p3,_,_,_,rfl,rfl,hS,bT,?_⟩;exact q t _ H3 gF h1 h2 h3
inductive StkI(ls:List Nat)(H:Hp):List V->Nat->Prop where
 |nil:StkI ls H [] 0
 |snoc {ws:List V} {n:Nat} {x:V} {t:Tr} (h:StkI ls H ws n) (tr:zM H t x) (of:t.Of ls):StkI ls H (ws++[x]) (n+t.wt)
theorem StkI.mono{ls:List Nat}{H H':Hp}{vs:List V}{n:Nat}(h:StkI ls H vs n)(g:qY H H'):StkI ls H' vs n:=by
 induction h with
 |nil=>exact .nil
 |snoc h tr of ih=>exact ih.snoc (tr.mono g) of
theorem StkI.len{ls:List Nat}{H:Hp}{vs:List V}{n:Nat}(h:StkI ls H vs n):vs.length<=n:=by
 induction h with
 |nil=>exact Qs _
 | @snoc ws n x t h tr of ih=>rw[Za,XS];have:=t.wt_pos;omega
def Stk(ls:List Nat)(B:Nat)(H:Hp)(vs:List V):Prop:=∃ n,n<=B/\StkI ls H vs n
theorem Stk.mono{ls:List Nat}{B:Nat}{H H':Hp}{vs:List V}(h:Stk ls B H vs)(g:qY H H'):Stk ls B H' vs:=let ⟨n,a,b⟩:=h;⟨n,a,b.mono g⟩
theorem Stk.up{ls:List Nat}{B B':Nat}{H:Hp}{vs:List V}(h:Stk ls B H vs)(hB:B<=B'):Stk ls B' H vs:=let ⟨n,a,b⟩:=h;⟨n,Qf a hB,b⟩
theorem StkI.top{ls:List Nat}{n:Nat}{H:Hp}{vs:List V}(h:StkI ls H vs n)(hl:0<vs.length):∃ ws x t k,vs=ws++[x]/\zM H t x/\t.Of ls/\StkI ls H ws k/\n=k+t.wt:=by
 cases h with
 |nil=>cases hl
 |snoc h tr of=>exact⟨_,_,_,_,rfl,tr,of,h,rfl⟩
theorem Stk.top{ls:List Nat}{B:Nat}{H:Hp}{vs:List V}(h:Stk ls B H vs)(hl:0<vs.length):∃ ws x t,vs=ws++[x]/\zM H t x/\t.Of ls/\t.wt+ws.length<=B/\Stk ls (B-t.wt) H ws:=by
 obtain⟨n,hn,h⟩:=h;obtain⟨ws,x,t,k,e,tr,of,h,ek⟩:=h.top hl
 have:=h.len
 exact⟨ws,x,t,e,tr,of,by omega,k,by omega,h⟩
theorem Stk.put{ls:List Nat}{B:Nat}{H:Hp}{ws:List V}{x:V}{t:Tr}(h:Stk ls (B-t.wt) H ws)(tr:zM H t x)(of:t.Of ls)(hB:t.wt<=B):Stk ls B H (ws++[x]):=
 let ⟨n,hn,h⟩:=h;⟨n+t.wt,by omega,h.snoc tr of⟩
def qjF(K:W.Frag):Sp:=λ vs H Q _=>∃(a:Addr)(ns:List Int)(bY m:Int)(ls:List Nat),vs=[.ref a,.int bY,.int m,vS ls]/\Scr K H a ns/\0<=bY/\bY<=1000/\0<=m/\m<=100/\ls.length<=9 /\
 ∀ t v H',qg H H'->zM H' t v->t.Of ls->(t.wt:Int)<=1+m->Q v H'
theorem qa6:FnScope [sA0,"_law_at",sB8,sA3,"_law_stack",sB4,sA6,"_law_other"] [sA0,"_law_at",sB8,sA3] (qh jX):=scF
theorem ql2{fm fl f:Addr}{fdm fdl fd:FuncData}(F:Fun K sB6 sB6 jX f fd)(T:Txt mg)(Gm:Dp P w K mg base 1 fm fdm [sA0,sB4] (vL K) sB3)(Gl:Dp P w K mg base 1 fl fdl [sA6,sA3] qea sB7):FnOk P w K mg base CX0 2 f fd [sA0,"_law_at",sB8,sA3] (qjF K):=by
 refine F.okd qa6 (λ cdv A outer s H vs Q E hr h=>?_);obtain⟨a,ns,bY,m,ls,rfl,hS,a0,a1,m0,m1,l9,q⟩:=h;refine⟨_,(qd (qr (i:=4) qa6.nd rfl (Or.inl rfl) (yJ (qa (zm Gl hr (qa (qm zU (zm Gm hr (qa (pv 0) (qa (pv 1) qb))) qi) (qa (pv 3) qb))) qb)))
  (qd (zZ U7 rfl (yi (by rfl) T.range (qa (pv 2) qb)) (qp (i:=5) qa6.nd rfl (Or.inl rfl))
  (qd (qr (i:=6) qa6.nd rfl (Or.inl rfl) (zm Gm hr (qa (pv 0) (qa (qm yH (qm yH (pv 1) qi) (pv 5)) qb))))
  (qe (q8 (PW.pt (qcV (qv qgB (qm zd (pv 6) qi) qi (qA _)) (qbE (PW.pt (qfr (qv qgB (qm zd (pv 6) qi) qi (qA _)) (qdz (qv qgB (qz qy (by rfl) T.len Js (qa (pv 4) qb)) qi (qA _)))))))) (qe (zS (yQ XB Xz X0 zu (pv 4) (qa (zm Gl hr (qa (qm zU (pv 6) qi) (qa (pv 3) qb))) qb)))) (qe (q8 (qv zq (qm zd (pv 6) qi) qi (qA _)) (qe (zS (yQ XB Xz X0 zu (pv 4) (qa (zk (qa qo (qa (kz XB Yc Yd kC (pv 4)) qb))) qb)))) (qd (qr (i:=7) qa6.nd rfl (Or.inl rfl) (kz XB Yc Yd kC (pv 4)))
  (qe (zS (yQ XB Xz X0 zu (pv 4) (qa (zk (qa (q9 qfH qo (qm zd (qm zU (pv 6) qi) qi) (λ _ _=>rfl)) (qa (kz XB Yc Yd kC (pv 4)) (qa (pv 7) qb)))) qb)))))))))))
  (qd (qen U7 (qv qbF (qz qy (by rfl) T.len Js (qa (pv 4) qb)) qi (qA _)) (qd (qr (i:=7) qa6.nd rfl (Or.inl rfl) (kz XB Yc Yd kC (pv 4)))
  (qe (zS (yQ XB Xz X0 zu (pv 4) (qa (zk (qa (q9 qfH qo (qm zd (qz qy (by rfl) T.len Js (qa (pv 4) qb)) qi) (λ _ _=>rfl)) (qa (kz XB Yc Yd kC (pv 4)) (qa (pv 7) qb)))) qb))))))
  (qe (qk (q9 jz (pv 4) qi (λ _ _=>rfl))))))),?_⟩
 rw[qkx,qnG,qhM];have tZ:(0:Int)<7:=by decide
 refine⟨_,rfl,_,rfl,a,ns,bY,rfl,hS,a0,by omega,λ z H1 g1 z0 z1=>?_⟩;refine⟨_,_,rfl,rfl,⟨by decide,by decide⟩,_,rfl,z / 3,ls,rfl,U9 z0 (by decide),l9,λ t v H2 g2 tr mI uE=>⟨qu (by show 1<=_;decide),λ tb V0=>?_⟩⟩;have fT:H tb=none:=by
  cases e:H tb with
  |none=>rfl
  |some o=>rw[(g1.trans g2) _ _ e] at V0;cases V0
 have top:∀{B:Nat}{H':Hp}{vs:List V},Stk ls B H' vs->0<vs.length->∃ ws x t,vs=ws++[x]/\zM H' t x/\t.Of ls/\t.wt+ws.length<=B/\Stk ls (B-t.wt) H' ws:=λ C4 hl=>C4.top hl
 have w1:=Tr.wt_leaf uE;refine⟨_,rfl,m,rfl,by omega,by omega,?_⟩;refine js (λ i σ H'=>∃(vs:List V)(v5 v6 v7:Option V),σ=[some (.ref a),some (.int bY),some (.int m),some (vS ls),some (.ref tb),v5,v6,v7]/\qg H H'/\H' tb=some (.lst vs)/\0<vs.length/\Stk ls (1+i) H' vs)
  ⟨[v],none,none,none,rfl,((g1.trans g2).to V0),qc,Nat.one_pos,⟨0+t.wt,by omega,(show StkI ls _ ([]++[v]) (0+t.wt) from StkI.nil.snoc (tr.mono (qP (qg.up V0))) mI)⟩⟩ ?_ ?_
 ·rintro i σ H3 hi ⟨vs,v5,v6,v7,rfl,g3,e3,lv,sk⟩;have oJ:(i:Int)<m:=by omega
  have N2:vs.length<=200:=by
   obtain⟨ws,x,t,rfl,_,_,h,_⟩:=top sk lv;rw[Za,XS]
   have:=t.wt_pos
   omega
  refine⟨_,rfl,_,rfl,_,_,rfl,rfl,_,rfl,_,_,rfl,rfl,a,ns,_,rfl,hS.mono g3,?_,?_,λ z H4 g4 z0 z1=>?_⟩
  ·show(0:Int)<=bY+1+(0+(i:Int));omega
  ·show bY+1+(0+(i:Int))<=100000;omega
  have e4:=g4 _ _ e3;have g34:=g3.trans g4;have sk4:=sk.mono (qP g4);dsimp only[jr];refine zP (qnE qw (qlT qw (qjc qw (dvA rfl) tZ) dC) (qmH qw (qlT qw (qjc qw (dvA rfl) tZ) dC) (qlT qw (qnF (K:=K) (by rfl) (SqL.of e4)) dC))) at0 (λ hb H5 g5=>?_) (λ hb H5 g5=>?_)
  ·-- a leaf
   have e5:=g5 _ _ e4;refine⟨_,rfl,.inl ⟨rfl,_,SqL.of e5⟩,_,rfl,_,_,rfl,rfl,⟨by decide,by decide⟩,_,rfl,z / 7,ls,rfl,U9 z0 (by decide),l9,λ t' v' H6 g6 cC uB uD=>⟨tb,vs,v',rfl,rfl,g6 _ _ e5,zl (by omega),?_⟩⟩;have e6:=g6 _ _ e5;refine⟨vs++[v'],_,_,_,rfl,((g34.trans g5).trans g6).at fT,qc,by simp,?_⟩;have sk6:=((sk4.mono (qP g5)).mono (qP g6)).mono (qY.updL e6 (o:=.lst (vs++[v'])));have w1':=Tr.wt_leaf uD;exact Stk.put (B:=1+(i+1)) (sk6.up (by omega)) (cC.mono (qY.updL e6)) uB (by omega)
  ·have e5:=g5 _ _ e4;have bX:=g34.trans g5;have sk5:=sk4.mono (qP g5);have c5:z % 7≠6->2<=vs.length:=λ E7=>by
    have:=U3 z (b:=7) (by decide)
    have:=Zg z (b:=7) (by decide)
    rw[Bool.or_eq_false_iff,Bool.and_eq_false_iff] at hb;obtain⟨h1,h2⟩:=hb;have h1:¬ z % 7<3:=Zj h1;rcases h2 with h2|h2
    ·have h2:¬ z % 7<6:=Zj h2;omega
    ·have h2:¬ ((vs.length:Nat):Int)<2:=Zj h2;omega
   obtain⟨ws,x,t,rfl,tx,ox,hx,rX⟩:=top sk5 lv;refine zP (zc (dIE qw (qjc qw (dvA rfl) tZ) dC)) at0 (λ N8 H6 g6=>?_) (λ N8 H6 g6=>?_)
   ·-- not
    have e6:=g6 _ _ e5;refine⟨_,rfl,.inl ⟨rfl,_,SqL.of e6⟩,_,rfl,.inl ⟨rfl,_,SqL.of e6⟩,tb,_,x,rfl,rfl,e6,ym ws x,?_⟩;rw[Yp];refine⟨qu (by show 2<=_;decide),λ p hp=>⟨tb,ws,.ref p,rfl,rfl,(qg.up hp) _ _ qc,zl (by rw[Za] at N2;simp at N2;omega),?_⟩⟩;have c1:qY H5 (upd H6 tb (.lst ws)):=(qP g6).trans (qY.updL e6);have c2:qY (upd H6 tb (.lst ws)) (upd (upd H6 tb (.lst ws)) p (.tup [vS [126],x])):=qP (qg.up hp);have e7:upd (upd H6 tb (.lst ws)) p (.tup [vS [126],x]) tb=some (.lst ws):=(qg.up hp) _ _ qc;have c3:=qY.updL e7 (o:=.lst (ws++[.ref p]));have cc:=(c1.trans c2).trans c3;refine⟨ws++[.ref p],_,_,_,rfl,(((bX.trans g6).at fT).to hp).at fT,qc,by simp,?_⟩;exact Stk.put (B:=1+(i+1)) (t:=.neg t) ((rX.mono cc).up (by show 1+i-t.wt<=1+(i+1)-(t.wt+1);omega)) ⟨p,x,rfl,c3 _ _ qc,tx.mono cc⟩ ox (by show t.wt+1<=_;omega)
   ·-- a pair
    have e6:=g6 _ _ e5;have E7:z % 7≠6:=Zj N8;have l2:=c5 E7;rw[Za,XS] at l2;obtain⟨us,y,t',rfl,ty,oy,hy,uI⟩:=top rX (by omega);refine⟨_,rfl,.inl ⟨rfl,_,SqL.of e6⟩,tb,_,x,rfl,rfl,e6,ym _ x,?_⟩;rw[Yp];have e7:upd H6 tb (.lst (us++[y])) tb=some (.lst (us++[y])):=qc;have n0:=U3 (z / 7) (b:=3) (by decide);have n1:=Zg (z / 7) (b:=3) (by decide);obtain⟨c,hc,bT⟩:=qjd (l:=[38,124,43]) n0 n1;refine⟨_,rfl,.inl ⟨rfl,_,SqL.of e7⟩,_,rfl,_,_,rfl,rfl,⟨by decide,by decide⟩,_,_,rfl,rfl,(show(0:Int)<3 by decide),_,_,_,rfl,rfl,qu (by show 3<=_;decide),bT,_,rfl,.inl ⟨rfl,_,SqL.of e7⟩,tb,_,y,rfl,rfl,e7,ym us y,?_⟩;rw[Yp];refine⟨_,rfl,qu (by show 3<=_;decide),λ p hp=>⟨tb,us,.ref p,rfl,rfl,(qg.up hp) _ _ qc,zl (by simp at N2;omega),?_⟩⟩;have c1:qY H5 (upd (upd H6 tb (.lst (us++[y]))) tb (.lst us)):=((qP g6).trans (qY.updL e6)).trans (qY.updL e7);have c2:=qP (qg.up hp (o:=.tup [vS [c],y,x]));have e8:=(qg.up hp (o:=.tup [vS [c],y,x])) tb _ qc;have c3:=qY.updL e8 (o:=.lst (us++[.ref p]));have cc:=(c1.trans c2).trans c3;have B1:c=38∨c=124∨c=43:=by simpa using hc
    refine⟨us++[.ref p],_,_,_,rfl,((((bX.trans g6).at fT).at fT).to hp).at fT,qc,by simp,?_⟩;exact Stk.put (B:=1+(i+1)) (t:=.bin c t' t) ((uI.mono cc).up (by show 1+i-t.wt-t'.wt<=1+(i+1)-(t'.wt+t.wt);omega)) ⟨p,y,x,rfl,c3 _ _ qc,ty.mono cc,tx.mono cc⟩ ⟨B1,oy,ox⟩ (by show t'.wt+t.wt<=_;rw[Za,XS] at hx;omega)
 ·rintro σ H3 ⟨vs,v5,v6,v7,rfl,g3,e3,lv,sk⟩;refine⟨λ μ σ H'=>∃(vs:List V)(v7:Option V),σ=[some (.ref a),some (.int bY),some (.int m),some (vS ls),some (.ref tb),v5,v6,v7]/\qg H H'/\H' tb=some (.lst vs)/\0<vs.length/\Stk ls (1+m.toNat) H' vs/\μ=vs.length,⟨_,vs,v7,rfl,g3,e3,lv,sk,rfl⟩,?_⟩;rintro μ σ H4 ⟨vs,v7,rfl,g4,e4,lv,sk,rfl⟩;refine⟨_,rfl,tb,_,rfl,.inl (SqL.of e4),_,_,rfl,rfl,_,rfl,?_⟩;refine qbM (λ c=>?_) (λ c=>?_)
  ·have c':(1:Int)<((vs.length:Nat):Int):=Z9 c;obtain⟨ws,x,t,rfl,tx,ox,hx,rX⟩:=top sk lv;rw[Za,XS] at c';obtain⟨us,y,t',rfl,ty,oy,hy,uI⟩:=top rX (by omega);rw[Za,XS] at hx;refine⟨λ σ' H'=>∃(fY:List V)(v7:Option V),σ'=[some (.ref a),some (.int bY),some (.int m),some (vS ls),some (.ref tb),v5,v6,v7]/\qg H H'/\H' tb=some (.lst fY)/\0<fY.length/\Stk ls (1+m.toNat) H' fY/\fY.length<(us++[y]++[x]).length,?_,?_⟩
   ·rintro σ' H' ⟨fY,v7,e,b1,b2,b3,b4,b5⟩;exact⟨fY.length,b5,fY,v7,e,b1,b2,b3,b4,rfl⟩
   refine⟨_,rfl,.inl ⟨rfl,_,SqL.of e4⟩,tb,_,x,rfl,rfl,e4,ym _ x,?_⟩;rw[Yp];have e7:upd H4 tb (.lst (us++[y])) tb=some (.lst (us++[y])):=qc;have n0:=U3 (((us++[y]).length:Nat):Int) (b:=3) (by decide);have n1:=Zg (((us++[y]).length:Nat):Int) (b:=3) (by decide);obtain⟨c,hc,bT⟩:=qjd (l:=[124,43,38]) n0 n1;refine⟨_,rfl,.inl ⟨rfl,_,SqL.of e7⟩,_,rfl,tb,_,rfl,.inl (SqL.of e7),_,_,rfl,rfl,(show(0:Int)<3 by decide),_,_,_,rfl,rfl,qu (by show 3<=_;decide),bT,_,rfl,.inl ⟨rfl,_,SqL.of e7⟩,tb,_,y,rfl,rfl,e7,ym us y,?_⟩;rw[Yp];have aA1:us.length<=200:=by omega
   refine⟨_,rfl,qu (by show 3<=_;decide),λ p hp=>⟨tb,us,.ref p,rfl,rfl,(qg.up hp) _ _ qc,zl (by omega),?_⟩⟩;have c1:qY H4 (upd (upd H4 tb (.lst (us++[y]))) tb (.lst us)):=(qY.updL e4).trans (qY.updL e7);have c2:=qP (qg.up hp (o:=.tup [vS [c],y,x]));have e8:=(qg.up hp (o:=.tup [vS [c],y,x])) tb _ qc;have c3:=qY.updL e8 (o:=.lst (us++[.ref p]));have cc:=(c1.trans c2).trans c3;have B1:c=38∨c=124∨c=43:=by
    have:c=124∨c=43∨c=38:=by simpa using hc
    rcases this with e|e|e <;> simp[e]
   refine⟨us++[.ref p],_,rfl,(((g4.at fT).at fT).to hp).at fT,qc,by simp,?_,by simp⟩;exact Stk.put (B:=1+m.toNat) (t:=.bin c t' t) ((uI.mono cc).up (by show 1+m.toNat-t.wt-t'.wt<=1+m.toNat-(t'.wt+t.wt);omega)) ⟨p,y,x,rfl,c3 _ _ qc,ty.mono cc,tx.mono cc⟩ ⟨B1,oy,ox⟩ (by show t'.wt+t.wt<=_;omega)
  ·have c':¬ (1:Int)<((vs.length:Nat):Int):=Zj (Zu.mpr c);obtain⟨v,rfl⟩:∃ v,vs=[v]:=by
    match vs,lv,c' with
    | [v],_,_=>exact⟨v,rfl⟩
    |_::_::_,_,h=>simp at h;omega
   obtain⟨ws,x,t,e,h1,h2,h3,_⟩:=top sk lv;obtain rfl:v=x:=by
    cases ws with
    |nil=>simpa using e
    |cons a l=>simp at e
   exact⟨_,rfl,tb,_,_,v,rfl,rfl,SqL.of e4,rfl,q t v H4 g4 h1 h2 (by omega)⟩
def qcz(n:Nat):Sp:=λ vs H Q _=>∃(v:V)(d:Addr)(t:Tr)(kvs:List (Key×V))(ρ:Nat->Bool)(ls:List Nat),vs=[v,.ref d]/\zM H t v/\t.ht<=n/\t.Of ls/\H d=some (.dK kvs)/\(∀ c∈ls,zt kvs (.inr (ql [c]))=some (.bl (ρ c)))/\∀ H',qg H H'->Q (.bl (t.val ρ)) H'
theorem qeb:FnScope [sA2,sB2,sC6,"_law_other"] [sA2,sB2] (qh jY):=scF
section
variable {Γ:St->Hp->Prop}{t1 t2:TE}
theorem qjG{n:Nat}{σ0:St}{H0:Hp}{x:V}{d:Addr}{t:Tr}{kvs:List (Key×V)}{ρ:Nat->Bool}{ls:List Nat}(h1:Dv (At σ0 H0) t1 x)(e1:σ0[1]?=some (some (.ref d)))(tr:zM H0 t x)(ht:t.ht<=n)(of:t.Of ls)(hd:H0 d=some (.dK kvs))(hv:∀ c∈ls,zt kvs (.inr (ql [c]))=some (.bl (ρ c))):
  Dv (At σ0 H0) (qba (qcz n) [] E0 (ve t1 (ve (qel 1) yI))) (.bl (t.val ρ)):=λ σ H Q hΓ q =>
 h1 σ H _ hΓ λ H1 g1=>⟨.ref d,by rw[hΓ.1];exact e1,x,d,t,kvs,ρ,ls,rfl,tr.mono (qP (hΓ.2.trans g1)),ht,of,(hΓ.2.trans g1) _ _ hd,hv,λ H' g=>q H' (g1.trans g)⟩
end
theorem qhT{n:Nat}{f:Addr}{fd:FuncData}(F:Fun K sB1 sB1 jY f fd)(T:Txt mg)(bG:qf K fd [sA2,sB2] [])(mG:mg sB1=some (.ref f))(GG:FnOk P w K mg base CX0 n f fd [sA2,sB2] (qcz n)):FnOk P w K mg base CX0 (n+1) f fd [sA2,sB2] (qcz (n+1)):=by
 refine F.okd qeb (λ cdv A outer s H vs Q E hr h=>?_);obtain⟨v,d,t,kvs,ρ,ls,rfl,tr,ht,of,hd,hv,q⟩:=h;have hu:=qew hr;have kG:=F.kp;refine⟨_,(qd (q8 (qv zq (q9 zb (pv 0) qi (λ _ _=>rfl)) qo (qA _)) (qe (qk (qgE hu (pv 1) (q9 zb (pv 0) qi (λ _ _=>rfl)) (λ _ _=>rfl)))) qD)
  (qd (q8 (qv zq (qz qy (by rfl) T.len Js (qa (pv 0) qb)) qi (qA _)) (qe (qk (jx zq (q9 zb (pv 0) qi (λ _ _=>rfl)) qo (qA _)))) qD)
  (qd (qr (i:=2) qeb.nd rfl (Or.inl rfl) (qfL GG hr mG kG bG (qa (q9 zb (pv 0) qi (λ _ _=>rfl)) (qa (pv 1) qb))))
  (qd (q8 (qv zq (q9 zb (pv 0) qi (λ _ _=>rfl)) qo (qA _)) (qe (qk (qh9 (pv 2)))) qD)
  (qd (qr (i:=3) qeb.nd rfl (Or.inl rfl) (qfL GG hr mG kG bG (qa (q9 zb (pv 0) qi (λ _ _=>rfl)) (qa (pv 1) qb))))
  (qd (q8 (qv zq (q9 zb (pv 0) qi (λ _ _=>rfl)) qo (qA _)) (qe (qk (qh8 (pv 2) (qft (pv 3))))) qD)
  (qd (q8 (qv zq (q9 zb (pv 0) qi (λ _ _=>rfl)) qo (qA _)) (qe (qk (ql9 (pv 2) (qft (pv 3))))) qD)
  (qe (qk (jx qii (pv 2) (pv 3) (qA _))))))))))),?_⟩
 rw[jZ,qje,qhM,qjg,qjh];cases t with
 |letter c =>
  obtain⟨a,rfl,h⟩:=tr;have hT:SqT K H a _:=SqT.of h;refine zP (zc (yO qw (zY rfl hT rfl) dC)) at0 (λ _ H1 g1=>?_) (λ hb=>absurd hb (by simp));have gd:=qaS.k (k:=Sum.inr (ql [c])) (g1 _ _ hd);rw[hv c of] at gd;exact⟨_,rfl,_,rfl,a,_,_,_,rfl,rfl,g1.seqT hT,rfl,d,_,rfl,gd,q H1 g1⟩
 |one =>
  obtain⟨a,rfl,h⟩:=tr;have hT:SqT K H a _:=SqT.of h;refine zP (zc (yO qw (zY rfl hT rfl) dC)) at0 (λ hb=>absurd hb (by decide)) (λ _ H1 g1=>?_);refine zP (zc (dIE qw (qbg rfl (g1.seqT hT)) dC)) at0 (λ _ H2 g2=>?_) (λ hb=>absurd hb (by decide));refine j7 (yO qw (zY rfl ((g1.trans g2).seqT hT) rfl) dC) at0 λ H3 g3=>q H3 ((g1.trans g2).trans g3)
 |zero =>
  obtain⟨a,rfl,h⟩:=tr;have hT:SqT K H a _:=SqT.of h;refine zP (zc (yO qw (zY rfl hT rfl) dC)) at0 (λ hb=>absurd hb (by decide)) (λ _ H1 g1=>?_);refine zP (zc (dIE qw (qbg rfl (g1.seqT hT)) dC)) at0 (λ _ H2 g2=>?_) (λ hb=>absurd hb (by decide));refine j7 (yO qw (zY rfl ((g1.trans g2).seqT hT) rfl) dC) at0 λ H3 g3=>q H3 ((g1.trans g2).trans g3)
 |neg t =>
  obtain⟨a,x,rfl,h,tx⟩:=tr;have hT:SqT K H a _:=SqT.of h;have nK:t.ht<=n:=XM ht;refine zP (zc (yO qw (zY rfl hT rfl) dC)) at0 (λ hb=>absurd hb (by decide)) (λ _ H1 g1=>?_);refine zP (zc (dIE qw (qbg rfl (g1.seqT hT)) dC)) at0 (λ hb=>absurd hb (by simp)) (λ _ H2 g2=>?_);have A3:=g1.trans g2;refine qji (i:=2) (qjG (zY rfl (A3.seqT hT) rfl) rfl (tx.mono (qP A3)) nK of (A3 _ _ hd) hv) at0 λ H3 g3=>?_
  have K6:=A3.trans g3;refine zP (zc (yO qw (zY rfl (K6.seqT hT) rfl) dC)) at0 (λ _ H4 g4=>?_) (λ hb=>absurd hb (by decide));exact j7 (qmG (dvA rfl)) at0 λ H5 g5=>q H5 ((K6.trans g4).trans g5)
 |bin op t u =>
  obtain⟨a,x,y,rfl,h,tx,uy⟩:=tr;have hT:SqT K H a _:=SqT.of h;have hm:max t.ht u.ht<=n:=XM ht;have nK:t.ht<=n:=by omega
  have hu':u.ht<=n:=by omega
  obtain⟨B1,ot,ou⟩:=of;have nl:decide ([op]=yA)=false:=Ja (by simp[yA]);have nw:decide ([op]=[126])=false:=Ja (by rcases B1 with e|e|e <;> simp[e]);refine zP (zc (yO qw (zY rfl hT rfl) dC)) at0 (λ hb=>absurd (nl.symm.trans hb) (by decide)) (λ _ H1 g1=>?_);refine zP (zc (dIE qw (qbg rfl (g1.seqT hT)) dC)) at0 (λ hb=>absurd hb (by simp)) (λ _ H2 g2=>?_);have A3:=g1.trans g2;refine qji (i:=2) (qjG (zY rfl (A3.seqT hT) rfl) rfl (tx.mono (qP A3)) nK ot (A3 _ _ hd) hv) at0 λ H3 g3=>?_
  have K6:=A3.trans g3;refine zP (zc (yO qw (zY rfl (K6.seqT hT) rfl) dC)) at0 (λ hb=>absurd (nw.symm.trans hb) (by decide)) (λ _ H4 g4=>?_);have sZ:=K6.trans g4;refine qji (i:=3) (qjG (zY rfl (sZ.seqT hT) rfl) rfl (uy.mono (qP sZ)) hu' ou (sZ _ _ hd) hv) at0 λ H5 g5=>?_
  have g15:=sZ.trans g5;refine zP (zc (yO qw (zY rfl (g15.seqT hT) rfl) dC)) at0 (λ hb H6 g6=>?_) (λ hb H6 g6=>?_)
  ·have e:op=38:=by simpa using Z9 hb
   refine j7 (qmF qw (dvA rfl) (dvA rfl)) at0 λ H7 g7=>?_
   have:=q H7 ((g15.trans g6).trans g7)
   rw[Tr.val,Vh e] at this;exact this
  have eO:¬ op=38:=λ e=>by simpa [e] using Zj hb
  have g16:=g15.trans g6;refine zP (zc (yO qw (zY rfl (g16.seqT hT) rfl) dC)) at0 (λ hb H7 g7=>?_) (λ hb H7 g7=>?_)
  ·have e:op=124:=by simpa using Z9 hb
   refine j7 (qnD qw (dvA rfl) (dvA rfl)) at0 λ H8 g8=>?_
   have:=q H8 ((g16.trans g7).trans g8)
   rw[Tr.val,Vi eO,Vh e] at this;exact this
  have S2:¬ op=124:=λ e=>by simpa [e] using Zj hb
  refine j7 (qnC qw (dvA rfl) (dvA rfl)) at0 λ H8 g8=>?_
  have:=q H8 ((g16.trans g7).trans g8)
  rw[Tr.val,Vi eO,Vi S2] at this;exact this
theorem qg5{f:Addr}{fd:FuncData}(F:Fun K sB1 sB1 jY f fd)(T:Txt mg)(bG:qf K fd [sA2,sB2] [])(mG:mg sB1=some (.ref f)):∀ n,FnOk P w K mg base CX0 n f fd [sA2,sB2] (qcz n)
 |0=>⟨λ vs H Q E h=>by obtain⟨_,_,t,_,_,_,_,_,h,_⟩:=h;have:=t.ht_pos;omega,λ A outer s H args us vs Q E _ _ _ _ h=>by obtain⟨_,_,t,_,_,_,_,_,h,_⟩:=h;have:=t.ht_pos;omega⟩
 |n+1=>qhT F T bG mG (qg5 F T bG mG n)
def qhU(f:Tr->V)(n:Nat):Sp:=λ vs H Q _=>∃(v:V)(t:Tr),vs=[v]/\zM H t v/\t.ht<=n/\t.wt<=1000/\t.Of zw/\∀ H',qg H H'->Q (f t) H'
theorem dtv{f:Tr->V}{n:Nat}{σ0:St}{H0:Hp}{t1:TE}{x:V}{t:Tr}(h1:Dv (At σ0 H0) t1 x)(tr:zM H0 t x)(ht:t.ht<=n)(hw:t.wt<=1000)(of:t.Of zw):
  Dv (At σ0 H0) (qba (qhU f n) [] E0 (ve t1 yI)) (f t):=λ σ H Q hΓ q =>
 h1 σ H _ hΓ λ H1 g1=>⟨x,t,rfl,tr.mono (qP (hΓ.2.trans g1)),ht,hw,of,λ H' g=>q H' (g1.trans g)⟩
theorem qgj:FnScope [sA2] [sA2] (qh yy):=scF
theorem qkL{f:Tr->V}{g:Addr}{fd:FuncData}:FnOk P w K mg base CX0 0 g fd [sA2] (qhU f 0):=
 ⟨λ vs H Q E h=>by obtain⟨_,t,_,_,h,_⟩:=h;have:=t.ht1;omega,λ A outer s H args us vs Q E _ _ _ _ h=>by obtain⟨_,t,_,_,h,_⟩:=h;have:=t.ht1;omega⟩
theorem qec{n:Nat}{f:Addr}{fd:FuncData}(F:Fun K sA8 sA8 yy f fd)(T:Txt mg)(bG:qf K fd [sA2] [])(mG:mg sA8=some (.ref f))(GG:FnOk P w K mg base CX0 n f fd [sA2] (qhU zN n)):FnOk P w K mg base CX0 (n+1) f fd [sA2] (qhU zN (n+1)):=by
 refine F.okd qgj (λ cdv A outer s H vs Q E hr h=>?_);obtain⟨v,t,rfl,tr,ht,hw,of,q⟩:=h;have kG:=F.kp;refine⟨_,(qd (q8 (qv zq (q9 zb (pv 0) qi (λ _ _=>rfl)) qo (qA _)) (qe (qk (q9 zb (pv 0) qi (λ _ _=>rfl)))) qD)
  (qd (q8 (qv zq (qz qy (by rfl) T.len Js (qa (pv 0) qb)) qi (qA _)) (qe (qk (q9 zb (pv 0) qi (λ _ _=>rfl)))) qD)
  (qd (q8 (qv zq (q9 zb (pv 0) qi (λ _ _=>rfl)) qo (qA _)) (qe (qk (qm qL qo (qfL GG hr mG kG bG (qa (q9 zb (pv 0) qi (λ _ _=>rfl)) qb))))) qD)
  (qe (qk (qm qL (qm qL (qm qL (qm qL qo (qfL GG hr mG kG bG (qa (q9 zb (pv 0) qi (λ _ _=>rfl)) qb))) (q9 zb (pv 0) qi (λ _ _=>rfl))) (qfL GG hr mG kG bG (qa (q9 zb (pv 0) qi (λ _ _=>rfl)) qb))) qo)))))),?_⟩
 rw[jZ,qhM,qcv,v9];cases t with
 |letter c =>
  obtain⟨a,rfl,h⟩:=tr;have hT:SqT K H a _:=SqT.of h;refine zP (zc (yO qw (zY rfl hT rfl) dC)) at0 (λ _ H1 g1=>?_) (λ hb=>absurd hb (by simp));exact j7 (zY rfl (g1.seqT hT) rfl) at0 λ H2 g2=>q H2 (g1.trans g2)
 |one =>
  obtain⟨a,rfl,h⟩:=tr;have hT:SqT K H a _:=SqT.of h;refine zP (zc (yO qw (zY rfl hT rfl) dC)) at0 (λ hb=>absurd hb (by decide)) (λ _ H1 g1=>?_);refine zP (zc (dIE qw (qbg rfl (g1.seqT hT)) dC)) at0 (λ _ H2 g2=>?_) (λ hb=>absurd hb (by decide));exact j7 (zY rfl ((g1.trans g2).seqT hT) rfl) at0 λ H3 g3=>q H3 ((g1.trans g2).trans g3)
 |zero =>
  obtain⟨a,rfl,h⟩:=tr;have hT:SqT K H a _:=SqT.of h;refine zP (zc (yO qw (zY rfl hT rfl) dC)) at0 (λ hb=>absurd hb (by decide)) (λ _ H1 g1=>?_);refine zP (zc (dIE qw (qbg rfl (g1.seqT hT)) dC)) at0 (λ _ H2 g2=>?_) (λ hb=>absurd hb (by decide));exact j7 (zY rfl ((g1.trans g2).seqT hT) rfl) at0 λ H3 g3=>q H3 ((g1.trans g2).trans g3)
 |neg t =>
  obtain⟨a,x,rfl,h,tx⟩:=tr;have hT:SqT K H a _:=SqT.of h;have nK:t.ht<=n:=XM ht;have gT:t.wt+1<=1000:=hw;have l1:=t.text_len;refine zP (zc (yO qw (zY rfl hT rfl) dC)) at0 (λ hb=>absurd hb (by decide)) (λ _ H1 g1=>?_);refine zP (zc (dIE qw (qbg rfl (g1.seqT hT)) dC)) at0 (λ hb=>absurd hb (by simp)) (λ _ H2 g2=>?_);have A3:=g1.trans g2;refine zP (zc (yO qw (zY rfl (A3.seqT hT) rfl) dC)) at0 (λ _ H3 g3=>?_) (λ hb=>absurd hb (by decide));have K6:=A3.trans g3;exact j7 (jb qw dC (dtv (f:=zN) (n:=n) (zY rfl (K6.seqT hT) rfl) (tx.mono (qP K6)) nK (by omega) of) (by rw[XS];omega)) at0 λ H4 g4=>q H4 (K6.trans g4)
 |bin op t u =>
  obtain⟨a,x,y,rfl,h,tx,uy⟩:=tr;have hT:SqT K H a _:=SqT.of h;have hm:max t.ht u.ht+1<=n+1:=ht;have gT:t.wt+u.wt<=1000:=hw;obtain⟨B1,ot,ou⟩:=of;have l1:=t.text_len;have l2:=u.text_len;have nl:decide ([op]=yA)=false:=Ja (by simp[yA]);have nw:decide ([op]=[126])=false:=Ja (by rcases B1 with e | e | e <;> simp[e]);refine zP (zc (yO qw (zY rfl hT rfl) dC)) at0 (λ hb=>absurd (nl.symm.trans hb) (by decide)) (λ _ H1 g1=>?_);refine zP (zc (dIE qw (qbg rfl (g1.seqT hT)) dC)) at0 (λ hb=>absurd hb (by simp)) (λ _ H2 g2=>?_);have A3:=g1.trans g2;refine zP (zc (yO qw (zY rfl (A3.seqT hT) rfl) dC)) at0 (λ hb=>absurd (nw.symm.trans hb) (by decide)) (λ _ H3 g3=>?_);have K6:=A3.trans g3;exact j7 (jb qw (jb qw (jb qw (jb qw dC (dtv (f:=zN) (n:=n) (zY rfl (K6.seqT hT) rfl) (tx.mono (qP K6)) (by omega) (by omega) ot) (by rw[XS];omega))
   (zY rfl (K6.seqT hT) rfl) (by simp only[Za,XS];omega)) (dtv (f:=zN) (n:=n) (zY rfl (K6.seqT hT) rfl) (uy.mono (qP K6)) (by omega) (by omega) ou) (by simp only[Za,XS];omega))
   dC (by simp only[Za,XS];omega)) at0 λ H4 g4=>q H4 (K6.trans g4)
theorem qcA{f:Addr}{fd:FuncData}(F:Fun K sA8 sA8 yy f fd)(T:Txt mg)(bG:qf K fd [sA2] [])(mG:mg sA8=some (.ref f)):∀ n,FnOk P w K mg base CX0 n f fd [sA2] (qhU zN n)
 |0=>qkL
 |n+1=>qec F T bG mG (qcA F T bG mG n)
noncomputable def yR:Nat->List (List Bool)
 |0=>[[]]
 |n+1=>(yR n).flatMap λ r=>[r++[false],r++[true]]
theorem qdn:∀{n:Nat}{r:List Bool},r∈yR n->r.length=n
 |0,r,h=>by simp[yR] at h;rw[h];rfl
 |n+1,r,h=>by
  rw[yR,List.mem_flatMap] at h;obtain⟨q,hq,h⟩:=h
  have:=qdn hq
  simp at h;rcases h with e|e <;> rw[e,Za,this] <;> rfl
theorem j4:∀ n:Nat,(yR n).length=2^n
 |0=>rfl
 |n+1=>by
  have gen:∀ l:List (List Bool),(l.flatMap λ r=>[r++[false],r++[true]]).length=l.length*2:=by
   intro l;induction l with
   |nil=>rfl
   |cons a l ih=>rw[List.flatMap_cons,Za,ih,Ua];simp;omega
  rw[yR,gen,j4 n,Qk]
noncomputable def zI(ls:List Nat)(r:List Bool):List (Key×V):=(ls.zip r).map λ x=>(Sum.inr (ql [x.1]),V.bl x.2)
theorem qcB{ls:List Nat}{r:List Bool}(hl:ls.length=r.length){c:Nat}:zt (zI ls r) (.inr (ql [c]))=if c∈ls then some (.bl (asg ls r c)) else none:=by
 have i8:∀(l:List (Nat×Bool)),zt (l.map λ x=>((Sum.inr (ql [x.1]):Key),V.bl x.2)) (.inr (ql [c]))=((l.find? λ x=>decide (x.1=c)).map λ x=>V.bl x.2):=by
  intro l;induction l with
  |nil=>rfl
  |cons x l ih =>
   unfold zt at ih ⊢;rw[Jz,Ux,Ux];have e:decide (((Sum.inr (ql [x.1]):Key))=.inr (ql [c]))=decide (x.1=c):=by
    by_cases h:x.1=c
    ·rw[h];simp
    ·rw[Ja h,Ja];intro e
     have:=vo (Sum.inr.inj e)
     exact h (by simpa using this)
   dsimp only;rw[e];cases decide (x.1=c) with
   |true=>rfl
   |false=>exact ih
 unfold zI;rw[i8];have mem:∀(ls:List Nat)(r:List Bool),ls.length=r.length->(((ls.zip r).find? λ x=>decide (x.1=c)).map λ x=>V.bl x.2)=if c∈ls then some (.bl (asg ls r c)) else none:=by
  intro ls;induction ls with
  |nil=>intro r h;simp
  |cons a ls ih =>
   intro r h;cases r with
   |nil=>simp at h
   |cons b r =>
    unfold asg;rw[Zc,Ux];by_cases e:a=c
    ·subst e;simp
    ·have:=ih r (by simpa using h)
     rw[show decide ((a,b).1=c)=false from Ja e];dsimp only;rw[this];unfold asg;simp[Vb e]
 exact mem ls r hl
theorem qhV{ls:List Nat}{r:List Bool}{c:Nat}{b:Bool}(h:ls.length=r.length):zI (ls++[c]) (r++[b])=zI ls r++[((Sum.inr (ql [c]):Key),V.bl b)]:=by
 unfold zI;rw[U1 h,U2];rfl
theorem qfk{ls:List Nat}(hl:ls.Nodup){i:Nat}(hi:i<ls.length):ls[i]∉ls.take i:=λ h=>by
 obtain⟨j,hj,e⟩:=Yw h;rw[Uc] at hj;rw[Zy] at e;exact absurd ((List.getElem_inj hl).mp e) (by omega)
def yP(H:Hp)(ls:List Nat)(ds:List Addr)(rs:List (List Bool)):Prop:=Paired (λ d r=>H d=some (.dK (zI ls r))) ds rs
theorem yP.mono{H H':Hp}{ls:List Nat}{ds:List Addr}{rs:List (List Bool)}(h:yP H ls ds rs)(g:qg H H'):yP H' ls ds rs:=L2.Paired.mapP h λ d r e=>g _ _ e
theorem yP.upd{H:Hp}{ls:List Nat}{ds:List Addr}{rs:List (List Bool)}(h:yP H ls ds rs){m:Addr}{xs:List V}(hm:H m=some (.lst xs)){o:HO}:yP (upd H m o) ls ds rs:=L2.Paired.mapP h λ d r e=>by
 have ne:d≠m:=λ q=>by rw[q,hm] at e;cases e
 rw[qt ne];exact e
noncomputable def qgk(r:List Bool):List (List Bool):=[r++[false],r++[true]]
theorem qjH(l:List (List Bool)):(l.flatMap qgk).length=l.length*2:=by
 induction l with
 |nil=>rfl
 |cons a l ih=>rw[List.flatMap_cons,Za,ih,Ua];show 2+_=_;omega
theorem qkM{H H1:Hp}(g:qg H H1){p:Addr}(h:H1 p=none):H p=none:=by
 cases e:H p with
 |none=>rfl
 |some u=>rw[g _ _ e] at h;cases h
theorem qfl{H:Hp}{p q:Addr}{o:HO}(h:H p=none)(e:H q=some o):p≠q:=λ x=>by rw[x,e] at h;cases h
theorem qkN{kvs:List (Key×V)}{k:Key}(h:k∉kvs.map (·.1)):zt kvs k=none:=by
 unfold zt;rw[List.find?_eq_none.mpr λ p hp=>by
  intro e;exact h (Ql.mpr ⟨p,hp,Z9 e⟩)]
 rfl
theorem qa7:∀(l c6:List (Key×V)),((c6++l).map (·.1)).Nodup->qV c6 l=c6++l
 | [],c6,_=>by rw[Uu];rfl
 |x::l,c6,h=>by
  have e:c6++x::l=(c6++[x])++l:=by simp
  have hx:x.1∉c6.map (·.1):=λ hm=>by
   rw[U2,Jz,Zq] at h;exact h.2.2 _ hm _ (Y7 ..) rfl
  show qV (yB c6 x.1 x.2) l=_
  rw[qer _ (qkN hx),e];exact qa7 l (c6++[x]) (by rw[<- e];exact h)
theorem qdo{ls:List Nat}{r:List Bool}(h:ls.length=r.length):(zI ls r).map (·.1)=ls.map λ c=>(Sum.inr (ql [c]):Key):=by
 unfold zI;rw[Qm]
 have:(ls.zip r).map (·.1)=ls:=by rw[<- List.unzip_fst,List.unzip_zip h]
 conv=>rhs;rw[<- this]
 rw[Qm];rfl
theorem qdp{ls:List Nat}{r:List Bool}(nd:ls.Nodup)(h:ls.length=r.length):qV [] (zI ls r)=zI ls r:=by
 rw[qa7 _ [] (by
  rw[U0,qdo h];exact Zr.mpr (nd.imp λ{a b} w6 e=>w6 (by have:=vo (Sum.inr.inj e);simpa using this)))]
 rfl
noncomputable def qbq(ls:List Nat)(r:List Bool):List (Str×V):=(ls.zip r).map λ x=>(ql [x.1],V.bl x.2)
theorem qg6(ls:List Nat)(r:List Bool):kvK (qbq ls r)=zI ls r:=by unfold kvK qbq zI;rw[Qm];rfl
theorem qhW{ls:List Nat}{r:List Bool}{c:Nat}{b:Bool}(h:ls.length=r.length):qbq (ls++[c]) (r++[b])=qbq ls r++[(ql [c],V.bl b)]:=by
 unfold qbq;rw[U1 h,U2];rfl
theorem jl{α β γ δ:Type}{F:α->β->Prop}{G:α->δ->Prop}{f:γ->β}{g:γ->δ}(h:∀ a c,F a (f c)->G a (g c)):∀{l:List α}{m:List γ},Paired F l (m.map f)->Paired G l (m.map g)
 | [],[],_=>.nil
 | [],_::_,p=>by cases p
 |_::_,[],p=>by cases p
 |a::l,c::m,p=>by
  cases p with
  |cons r t=>exact .cons (h _ _ r) (jl h t)
def qed:Sp:=λ vs H Q _=>∃(ls:List Nat),vs=[vS ls]/\ls.Nodup/\ls.length<=9/\∀ r ds H',qg H H'->H' r=some (.lst (ds.map V.ref))->yP H' ls ds (yR ls.length)->Q (.ref r) H'
theorem j5:FnScope [sA3,"_law_rows_here",sC6,"_law_more",sB2,"_law_bit"] [sA3] (qh k7):=scF
theorem qjI{k:Nat}{f:Addr}{fd:FuncData}(F:Fun K sC7 sC7 k7 f fd)(T:Txt mg):FnOk P w K mg base CX0 (k+1) f fd [sA3] qed:=by
 refine F.okd j5 (λ cdv A outer s H vs Q E hr h=>?_);obtain⟨ls,rfl,nd,l9,q⟩:=h;refine⟨_,qd (qr (i:=1) j5.nd rfl (Or.inl rfl) (yJ (qa qeu qb)))
  (qd (zZ U7 rfl (qb2 (pv 0)) (qp (i:=2) j5.nd rfl (Or.inl rfl))
   (qd (qr (i:=3) j5.nd rfl (Or.inl rfl) (yJ qb))
   (qd (zZ U7 rfl (zT (pv 1)) (qp (i:=4) j5.nd rfl (Or.inl rfl))
    (qe (zZ U7 rfl (qdA (zk (qa qem (qa qem qb)))) (qp (i:=5) j5.nd rfl (Or.inl rfl))
     (qe (zS (yQ XB Xz X0 zu (pv 3) (qa (zr (ji rfl) (by rfl) T.dict qbx (qa (qm qbL (jN (by rfl) (by rfl) T.list (pv 4)) (yJ (qa (zk (qa (pv 2) (qa (pv 5) qb))) qb))) qb)) qb)))))))
   (qe (qr (i:=1) j5.nd rfl (Or.inl rfl) (pv 3))))))
  (qe (qk (pv 1)))),?_⟩
 have hs:(ql ls).cps.size=ls.length:=qK ls;refine λ p0 xH=>⟨qu (by show 1<=_;decide),λ r0 hr0=>?_⟩
 have n0:r0≠p0:=qfl hr0 qc;refine⟨_,rfl,_,rfl,?_⟩;refine qdK (λ i σ H1=>∃(r:Addr)(ds:List Addr)(v2 v3 v4 v5:Option V),σ=[some (vS ls),some (.ref r),v2,v3,v4,v5]/\qg H H1/\H1 r=some (.lst (ds.map V.ref))/\yP H1 (ls.take i) ds (yR i)) ⟨r0,[p0],none,none,none,none,rfl,(qg.up xH).to hr0,qc,.cons (by rw[qt (Vb n0),qc];rfl) .nil⟩ ?_ ?_
 ·rintro i σ H1 hi ⟨r,ds,v2,v3,v4,v5,rfl,g1,e1,ra⟩;rw[hs] at hi;rw[vJ hi];have dl:ds.length=2^i:=(Yz ra).trans (j4 i);have d9:2^i<=512:=Qf (Yo (by decide) (by omega:i<=9)) (by decide);refine⟨Qt _,λ m hm=>?_⟩;have nmr:r≠m:=qZ e1 hm;refine⟨_,rfl,r,rfl,⟨_,SqL.of (by rw[qt nmr];exact e1)⟩,?_⟩;refine vc (K:=K) (xs:=ds.map V.ref) (λ j σ H2=>∃(V7:List Addr)(v4 v5:Option V),σ=[some (vS ls),some (.ref r),some (vS [ls[i]]),some (.ref m),v4,v5]/\qg H1 H2/\H2 m=some (.lst (V7.map V.ref))/\yP H2 (ls.take (i+1)) V7 (((yR i).take j).flatMap qgk)) ⟨[],v4,v5,rfl,qg.up hm,qc,.nil⟩ (λ j σ H2 hj ⟨_,_,_,_,g2,_⟩=>g2.seq (SqL.of e1)) ?_ ?_
  ·rintro j x σ H2 hj ⟨V7,v4,v5,rfl,g2,e2,rb⟩;obtain⟨d,hd,rfl⟩:=qj hj;obtain⟨L6,nN,hdr⟩:=qX ra j d hd;refine⟨qu (by show 2<=_;decide),λ t ht=>?_⟩;refine⟨t,rfl,⟨_,SqT.of qc⟩,?_⟩;refine qjY (K:=K) (xs:=[V.bl false,V.bl true]) (λ k σ H3=>∃(fS:List Addr)(v5:Option V),σ=[some (vS ls),some (.ref r),some (vS [ls[i]]),some (.ref m),some (.ref d),v5]/\qg H1 H3/\H3 t=some (.tup [V.bl false,V.bl true])/\H3 m=some (.lst (fS.map V.ref))/\yP H3 (ls.take (i+1)) fS (((yR i).take j).flatMap qgk++(qgk L6).take k)) ⟨V7,v5,rfl,g2.to ht,qc,by rw[qt (qZ e2 ht)];exact e2,by rw[Jp,Uu];exact rb.mono (qg.up ht)⟩ (λ k σ H3 hk ⟨_,_,_,_,h,_⟩=>SqT.of h) ?_ ?_
   ·rintro k x σ H3 hk ⟨fS,v5,rfl,g3,tG,lV,rc⟩;have hb:∃ b,x=V.bl b/\(qgk L6)[k]?=some (L6++[b]):=by
     match k,hk with
     |0,h=>exact⟨false,(Option.some.inj h).symm,rfl⟩
     |1,h=>exact⟨true,(Option.some.inj h).symm,rfl⟩
     |n+2,h=>cases h
    obtain⟨b,rfl,hb⟩:=hb;have l3:fS.length<=1026:=by
     rw[Yz rc,Za,qjH,Uc,Uc,j4];show min j _*2+min k 2<=1026
     omega
    have lr:(ls.take i).length=L6.length:=by rw[Uc,qdn (Yh nN)];omega
    refine⟨_,rfl,.inl ⟨rfl,_,SqL.of lV⟩,_,rfl,d,_,rfl,g3 _ _ hdr,λ l as H4 g4 el pr=>?_⟩;refine⟨_,rfl,_,rfl,qu (by show 2<=_;decide),λ p hp=>⟨qu (by show 1<=_;decide),λ l2 N6=>?_⟩⟩;have las:as.length<=9:=by rw[Yz pr,zI,Ut,U8,Uc];omega
    have s1:=(qg.up hp (o:=.tup [vS [ls[i]],.bl b])).to N6 (o:=.lst [.ref p]);have ep:upd (upd H4 p (.tup [vS [ls[i]],.bl b])) l2 (.lst [.ref p]) p=some (.tup [vS [ls[i]],.bl b]):=(qg.up N6) _ _ qc;refine⟨l,l2,_,_,rfl,rfl,s1 _ _ el,qc,by rw[Ut];exact qu (by show as.length+1<=_;omega),λ l3' lN=>?_⟩;have s2:=s1.to lN (o:=.lst (as.map V.ref++[.ref p]));refine⟨l3',as++[p],qbq (ls.take i++[ls[i]]) (L6++[b]),rfl,SqL.of (by rw[qc,U2];rfl),?_,λ o1 ho=>?_⟩
    ·rw[qhW lr];refine Qv ?_ (SqT.of ((qg.up lN) _ _ ep));have pr':Paired (λ c (x:Nat×Bool)=>H4 c=some (.tup [vS [x.1],.bl x.2])) as ((ls.take i).zip L6):=by
      have:=jl (G:=λ c (x:Nat×Bool)=>H4 c=some (.tup [vS [x.1],.bl x.2])) (f:=λ x:Nat×Bool=>((Sum.inr (ql [x.1]):Key),V.bl x.2)) (g:=λ x=>x) (λ a c h=>h) pr
      rwa [List.map_id'] at this
     have:=jl (G:=λ c (kv:Str×V)=>SqT K (upd (upd (upd H4 p (.tup [vS [ls[i]],.bl b])) l2 (.lst [.ref p])) l3' (.lst (as.map V.ref++[.ref p]))) c [.str kv.1,kv.2]) (f:=λ x:Nat×Bool=>x) (g:=λ x=>(ql [x.1],V.bl x.2)) (λ a c h=>SqT.of (s2 _ _ h)) (by rw[List.map_id'];exact pr')
     exact this
    rw[qg6,<- Xa hi];have lr1:(ls.take (i+1)).length=(L6++[b]).length:=by rw[Za,<- lr,Uc,Uc];simp;omega
    rw[qdp (nd.sublist (List.take_sublist _ _)) lr1];have s3:=(g4.trans s2).to ho (o:=.dK (zI (ls.take (i+1)) (L6++[b])));have e5m:=s3 _ _ lV;have nmo:m≠o1:=qZ ((g4.trans s2) _ _ lV) ho;refine⟨m,_,.ref o1,rfl,rfl,e5m,by rw[Ut];exact zl (by omega),?_⟩;have rc':=(rc.mono s3).upd e5m (o:=.lst (fS.map V.ref++[V.ref o1]));refine⟨fS++[o1],_,rfl,(g3.trans s3).at hm,?_,by rw[qc,U2];rfl,?_⟩
    ·rw[qt];exact s3 _ _ tG;exact λ q=>by rw[q,lV] at tG;cases tG
    ·rw[show(qgk L6).take (k+1)=(qgk L6).take k++[L6++[b]] by rw[Jo,hb];rfl,<- Zp];exact Qv rc' (by rw[qt (Vb nmo),qc])
   ·rintro σ H3 ⟨fS,v5,rfl,g3,tG,lV,rc⟩;refine⟨fS,_,_,rfl,g3,lV,?_⟩;rw[show(yR i).take (j+1)=(yR i).take j++[L6] by rw[Jo,nN];rfl,List.flatMap_append];exact rc
  ·rintro σ H2 ⟨V7,v4,v5,rfl,g2,e2,rb⟩;refine⟨_,rfl,m,V7,_,_,_,_,rfl,g1.trans g2,e2,?_⟩;rw[Ut,dl,show(yR i).take (2^i)=yR i from XH (by rw[j4];exact Qs _)] at rb;exact rb
 ·rintro σ H1 ⟨r,ds,v2,v3,v4,v5,rfl,g1,e1,ra⟩;rw[hs,Uj] at ra;exact⟨_,rfl,q r ds H1 g1 e1 ra⟩
theorem Tr.wt_nodes:∀ t:Tr,(t.wt:Int)<=t.nodes
 |.letter _=>by show((1:Nat):Int)<=1;decide
 |.one=>by show((1:Nat):Int)<=1;decide
 |.zero=>by show((1:Nat):Int)<=1;decide
 |.neg t=>by have:=Tr.wt_nodes t;show((t.wt+1:Nat):Int)<=1+t.nodes;omega
 |.bin _ t u=>by have:=Tr.wt_nodes t;have:=Tr.wt_nodes u;show((t.wt+u.wt:Nat):Int)<=1+t.nodes+u.nodes;omega
theorem Tr.nodes_leaf:∀{t:Tr},t.ht=1->t.nodes=1
 |.letter _,_=>rfl
 |.one,_=>rfl
 |.zero,_=>rfl
 |.neg t,h=>by have:t.ht+1=1:=h;have:=t.ht1;omega
 |.bin _ t u,h=>by have:max t.ht u.ht+1=1:=h;have:=t.ht1;omega
def qee:Sp:=λ vs H Q _=>∃(m:Int)(ls:List Nat),vs=[.int m,vS ls]/\0<=m/\ls.length<=9/\∀ t v H',qg H H'->zM H' t v->t.Of ls->t.nodes<=3->Q v H'
theorem qfm:FnScope [sA6,sA1,"_law_leaf_here"] [sA6,sA1] (qh vD):=scF
theorem qjJ{f dI:Addr}{fd dS:FuncData}(F:Fun K sC0 sC0 vD f fd)(T:Txt mg)(A4:Dp P w K mg base 1 dI dS [sA6,sA3] (qea) sB7): FnOk P w K mg base CX0 2 f fd [sA6,sA1] (qee):=by
 refine F.okd qfm (λ cdv A outer s H vs Q E hr h=>?_);obtain⟨m,ls,rfl,m0,l9,q⟩:=h;refine⟨_,(qd (qr (i:=2) qfm.nd rfl (Or.inl rfl) (zm A4 hr (qa (qm zU (pv 0) qi) (qa (pv 1) qb))))
  (qd (q8 (qv zq (qm zd (pv 0) qi) qi (qA _))
   (qe (qk (zk (qa qo (qa (pv 2) qb))))) qD)
  (qd (q8 (qv qgB (qm zd (pv 0) qi) qi (qA _))
   (qe (qk (zk (qa (q9 qfH qo (qm zd (qm zU (pv 0) qi) qi) (λ _ _=>rfl)) (qa (pv 2) (qa (zm A4 hr (qa (qm zU (pv 0) qi) (qa (pv 1) qb))) qb)))))) qD)
  (qe (qk (pv 2)))))),?_⟩
 rw[qkx,qhM];refine⟨_,rfl,_,_,rfl,rfl,⟨by decide,by decide⟩,_,rfl,m / 5,ls,rfl,U9 m0 (by decide),l9,λ t v H1 g1 tr mI uE=>?_⟩;have n1:=Tr.nodes_leaf uE;refine⟨_,rfl,_,_,rfl,rfl,(show(0:Int)<5 by decide),rfl,_,rfl,?_⟩;refine qbM (λ c1=>?_) (λ c1=>?_)
 ·refine⟨_,rfl,qu (by show 2<=_;decide),λ p hp=>?_⟩;exact q (.neg t) _ _ (g1.to hp) ⟨p,v,rfl,qc,tr.mono (qP (qg.up hp))⟩ mI (by show 1+t.nodes<=3;omega)
 refine⟨_,rfl,_,_,rfl,rfl,(show(0:Int)<5 by decide),_,_,rfl,rfl,_,rfl,?_⟩;refine qbM (λ c2=>?_) (λ c2=>?_)
 ·have i0:=U3 (m / 50) (b:=3) (by decide);have i1:=Zg (m / 50) (b:=3) (by decide);obtain⟨c,hc,bT⟩:=qjd (l:=[38,124,43]) i0 i1;refine⟨_,rfl,_,_,rfl,rfl,⟨by decide,by decide⟩,_,_,rfl,rfl,(show(0:Int)<3 by decide),_,_,c,rfl,rfl,qu (by show 3<=_;decide),bT,_,rfl,_,rfl,_,_,rfl,rfl,⟨by decide,by decide⟩,_,rfl,m / 150,ls,rfl,U9 m0 (by decide),l9,λ u x H2 g2 ur uof uht=>?_⟩;have n2:=Tr.nodes_leaf uht;refine⟨qu (by show 3<=_;decide),λ p hp=>?_⟩;have B1:c=38∨c=124∨c=43:=by simpa using hc
  exact q (.bin c t u) _ _ ((g1.trans g2).to hp) ⟨p,v,x,rfl,qc,tr.mono (qP (g2.to hp)),ur.mono (qP (qg.up hp))⟩ ⟨B1,mI,uof⟩ (by show 1+t.nodes+u.nodes<=3;omega)
 ·exact⟨_,rfl,q t v H1 g1 tr mI (by omega)⟩
def SmD(H:Hp)(ls:List Nat)(kvs:List (Key×V)):Prop:=∀ c u,zt kvs (.inr (ql [c]))=some u->∃ t,zM H t u/\t.Of ls/\t.nodes<=3
theorem SmD.mono{H H':Hp}{ls:List Nat}{kvs:List (Key×V)}(h:SmD H ls kvs)(g:qY H H'):SmD H' ls kvs:=λ c u e=>by
 obtain⟨t,a,b,n⟩:=h c u e;exact⟨t,a.mono g,b,n⟩
def qjK(n:Nat):Sp:=λ vs H Q _=>∃(v:V)(d:Addr)(t:Tr)(kvs:List (Key×V))(ls:List Nat),vs=[v,.ref d]/\zM H t v/\t.ht<=n/\t.Of ls/\H d=some (.dK kvs)/\SmD H ls kvs /\
 ∀ t' v' H',qg H H'->zM H' t' v'->t'.Of ls->t'.nodes<=4*(t.wt:Int)-1->Q v' H'
theorem qhX:FnScope [sA2,sA4] [sA2,sA4] (qh yX):=scF
theorem qm3:(["_law_part",sA4]:List Str).Nodup:=by decide +kernel
theorem qkO{g:Addr}{fd:FuncData}:FnOk P w K mg base CX0 0 g fd [sA2,sA4] (qjK 0):=
 ⟨λ vs H Q E h=>by obtain⟨_,_,t,_,_,_,_,h,_⟩:=h;have:=t.ht1;omega,λ A outer s H args us vs Q E _ _ _ _ h=>by obtain⟨_,_,t,_,_,_,_,h,_⟩:=h;have:=t.ht1;omega⟩
noncomputable def Tr.kids:Tr->List Tr
 |.neg t=>[t]
 |.bin _ t u=>[t,u]
 |_=>[]
theorem qjL{H:Hp}{t:Tr}{v:V}{ls:List Nat}(nl:∀ c,t≠.letter c)(tr:zM H t v)(of:t.Of ls):∃(a:Addr)(xs:List V)(p:List Nat),v=.ref a/\H a=some (.tup (vS p::xs))/\decide (p=yA)=false/\xs.length<=2 /\
  Paired (λ x (k:Tr)=>zM H k x/\k.ht+1<=t.ht/\k.Of ls) xs t.kids /\
  ∀(H':Hp)(b:Addr)(ys:List V)(us:List Tr),H' b=some (.tup (vS p::ys))->Paired (λ y (u:Tr)=>zM H' u y) ys us->Paired (λ(k u:Tr)=>u.Of ls/\u.nodes<=4*(k.wt:Int)-1) t.kids us->∃ t':Tr,zM H' t' (.ref b)/\t'.Of ls/\t'.nodes<=4*(t.wt:Int)-1:=by
 cases t with
 |letter c=>exact absurd rfl (nl c)
 |one =>
  obtain⟨a,rfl,h⟩:=tr;refine⟨a,[],[49],rfl,h,by decide,by decide,.nil,λ H' b ys us e p1 p2=>?_⟩;cases p2
  cases p1
  exact⟨.one,⟨b,rfl,e⟩,trivial,by show(1:Int)<=4*((1:Nat):Int)-1;decide⟩
 |zero =>
  obtain⟨a,rfl,h⟩:=tr;refine⟨a,[],[48],rfl,h,by decide,by decide,.nil,λ H' b ys us e p1 p2=>?_⟩;cases p2
  cases p1
  exact⟨.zero,⟨b,rfl,e⟩,trivial,by show(1:Int)<=4*((1:Nat):Int)-1;decide⟩
 |neg t =>
  obtain⟨a,x,rfl,h,tx⟩:=tr;refine⟨a,[x],[126],rfl,h,by decide,(by show 1<=2;decide),.cons ⟨tx,Qs _,of⟩ .nil,λ H' b ys us e p1 p2=>?_⟩;cases p2 with
  |cons r2 p2 =>
   cases p2
   cases p1 with
   |cons r1 p1 =>
    cases p1
    exact⟨.neg _,⟨b,_,rfl,e,r1⟩,r2.1,by have:=r2.2;show 1+_<=4*((t.wt+1:Nat):Int)-1;omega⟩
 |bin op t u =>
  obtain⟨a,x,y,rfl,h,tx,uy⟩:=tr;obtain⟨B1,ot,ou⟩:=of;have nd:decide ([op]=yA)=false:=Ja (by simp[yA]);refine⟨a,[x,y],[op],rfl,h,nd,(by show 2<=2;decide),.cons ⟨tx,(by show t.ht+1<=max t.ht u.ht+1;omega),ot⟩ (.cons ⟨uy,(by show u.ht+1<=max t.ht u.ht+1;omega),ou⟩ .nil),λ H' b ys us e p1 p2=>?_⟩;cases p2 with
  |cons r2 p2 =>
   cases p2 with
   |cons r3 p2 =>
    cases p2
    cases p1 with
    |cons r1 p1 =>
     cases p1 with
     |cons r4 p1 =>
      cases p1
      exact⟨.bin op _ _,⟨b,_,_,rfl,e,r1,r4⟩,⟨B1,r2.1,r3.1⟩,by have:=r2.2;have:=r3.2;show 1+_+_<=4*((t.wt+u.wt:Nat):Int)-1;omega⟩
theorem qm4{x:V}{xs:List V}:atI (x::xs) 0=some x:=qae (xs:=x::xs) (j:=0) rfl
theorem qkP{x:V}{xs:List V}:qbl (x::xs) (some 1) none=xs:=by
 have e1:HT.sIx (x::xs).length 0 (some 1)=1:=by
  simp[HT.sIx]
 have e2:HT.sIx (x::xs).length (x::xs).length none=(x::xs).length:=rfl;unfold qbl;rw[e1,e2];simp
theorem qhY{x:V}{xs:List V}:¬ (HT.sIx (x::xs).length 0 (some 1)=0/\HT.sIx (x::xs).length (x::xs).length none=(x::xs).length):=λ h=>by
 have e1:HT.sIx (x::xs).length 0 (some 1)=1:=by
  simp[HT.sIx]
 omega
theorem qfn{n:Nat}{f:Addr}{fd:FuncData}(F:Fun K sA9 sA9 yX f fd)(T:Txt mg)(bG:qf K fd [sA2,sA4] [])(mG:mg sA9=some (.ref f))(GG:FnOk P w K mg base CX0 n f fd [sA2,sA4] (qjK n)):FnOk P w K mg base CX0 (n+1) f fd [sA2,sA4] (qjK (n+1)):=by
 refine F.okd qhX (λ cdv A outer s H vs Q E hr h=>?_);obtain⟨v,d,t,kvs,ls,rfl,tr,ht,of,hd,sm,q⟩:=h;have kG:=F.kp;have S3:=qew hr;refine⟨_,(qd (q8 (qv zq (q9 zb (pv 0) qi (λ _ _=>rfl)) qo (qA _)) (qe (qk (qiq S3 (pv 1) (q9 zb (pv 0) qi (λ _ _=>rfl)) (pv 0) ⟨rfl,rfl,rfl,rfl⟩))) qD)
  (qe (qk (qm qj6 (zk (qa (q9 zb (pv 0) qi (λ _ _=>rfl)) qb)) (zr jn (by rfl) T.tuple qcu (qa (zK (csc (NY:=["_law_part",sA4]) (o:=1) (caps:=[1]) [sA4] rfl
    (by intro x hx;rw[Zf.mp hx];exact .inl rfl) (qav rfl rfl rfl jK) rfl) rfl
    (qdA (qbK qlr (pv 0) (qdD qi) qdC)) (λ C0 s H fp pins=>qp (i:=0) qm3 rfl (Or.inl rfl)) (λ C0 s H fp pins=>zz)
    (λ C0 s H fp pins=>(qfL GG hr mG kG bG (qa (pv 0) (qa (pv 1) qb))))) qb)))))),?_⟩
 rw[jZ];by_cases isl:∃ c,t=.letter c
 ·obtain⟨c,rfl⟩:=isl;obtain⟨a,rfl,h⟩:=tr;have hT:SqT K H a _:=SqT.of h;refine zP (zc (yO qw (zY rfl hT rfl) dC)) at0 (λ _ H1 g1=>?_) (λ hb=>absurd hb (by simp));have gd:=qaS.k (k:=Sum.inr (ql [c])) (g1 _ _ hd);refine⟨_,rfl,d,rfl,.inl ⟨_,Rd.of (g1 _ _ hd)⟩,_,rfl,a,_,_,_,rfl,rfl,g1.seqT hT,rfl,_,rfl,_,gd,?_⟩;cases e:zt kvs (.inr (ql [c])) with
  |none=>exact q (.letter c) _ H1 g1 ⟨a,rfl,g1 _ _ h⟩ of (by show(1:Int)<=4*((1:Nat):Int)-1;decide)
  |some u =>
   obtain⟨t',cC,bJ,n'⟩:=sm c u e;exact q t' _ H1 g1 (cC.mono (qP g1)) bJ (by show t'.nodes<=4*((1:Nat):Int)-1;omega)
 obtain⟨a,xs,p,rfl,h,np,l2,pk,mk⟩:=qjL (λ c e=>isl ⟨c,e⟩) tr of;have hT:SqT K H a _:=SqT.of h;have lk:xs.length=t.kids.length:=pk.length;refine zP (zc (yO qw (zY rfl hT qm4) dC)) at0 (λ hb=>absurd (np.symm.trans hb) (by decide)) (λ _ H1 g1=>?_);refine⟨_,rfl,a,_,_,_,rfl,rfl,g1.seqT hT,qm4,qu (by show 1<=_;decide),λ p1 P9=>?_⟩;have g2:=g1.to P9 (o:=.tup [vS p]);refine⟨_,rfl,1,rfl,a,_,rfl,g2.seqT hT,qhY,λ p2 E6=>?_⟩;rw[qkP];have g3:=g2.to E6 (o:=.tup xs);have e1:=(qg.up E6 (o:=.tup xs)) _ _ (qc (H:=H1) (a:=p1) (o:=.tup [vS p]));have e2:upd (upd H1 p1 (.tup [vS p])) p2 (.tup xs) p2=some (.tup xs):=qc;refine⟨p2,rfl,⟨_,SqT.of e2⟩,?_⟩;refine y9 xs.length (λ i ys H5=>∃ us:List Tr,Paired (λ y (u:Tr)=>zM H5 u y) ys us/\Paired (λ(k u:Tr)=>u.Of ls/\u.nodes<=4*(k.wt:Int)-1) (t.kids.take i) us) (λ D hD=>⟨[],.nil,.nil⟩) (λ i ys H5 hi ⟨us,a1,a2⟩=>?_) ?_ (λ H5 bH=>⟨_,bH.seqT (SqT.of e2),Qs _⟩) ?_
 ·have b1:=a1.length;have b2:=a2.length;rw[Uc] at b2;exact zl (by omega)
 ·rintro i ys H5 D Y Z hi hD S7 bH ⟨us,a1,a2⟩ hY hZ;refine⟨⟨_,_,bH.seqT (SqT.of e2),Xw hi⟩,?_⟩;rintro x H6 ⟨rfl,p4⟩;have ex:=p4 _ (bH.seqT (SqT.of e2));obtain⟨k,hk,tk,kh,ko⟩:=qX pk i x ex;have bX:=g3.trans bH;refine⟨⟨rfl,rfl⟩,?_⟩;refine⟨_,rfl,_,rfl,x,d,k,kvs,ls,rfl,tk.mono (qP bX),by omega,ko,bX _ _ hd,sm.mono (qP bX),λ t' v' H7 g7 cC bJ n'=>?_⟩;have e7:=g7 _ _ S7;refine hY _ _ e7 (bH.trans g7) ⟨us++[t'],?_,?_⟩
  ·exact Qv (L2.Paired.mapP a1 λ y u z=>z.mono ((qP g7).trans (qY.updL e7))) (cC.mono (qY.updL e7))
  ·rw[zj hk];exact Qv a2 ⟨bJ,n'⟩
 ·rintro D H5 ys hD bH S7 ⟨us,a1,a2⟩;rw[lk,Uj] at a2;refine⟨D,ys,rfl,.inl ⟨SqL.of S7,λ l hl=>?_⟩⟩;have tI:=(bH.to hl (o:=.tup ys)) _ _ e1;have ll:ys.length<=2:=by have:=a1.length;have:=a2.length;omega
  refine⟨p1,l,[vS p],ys,rfl,rfl,SqT.of tI,SqT.of qc,by simp,qu (by show 1+ys.length<=_;omega),λ ey=>?_,λ _ b hb=>?_⟩
  ·subst ey;obtain⟨t',cC,bJ,n'⟩:=mk _ p1 [] us tI (L2.Paired.mapP a1 λ y u z=>z.mono (qP (qg.up hl))) a2;exact q t' _ _ ((g3.trans bH).to hl) cC bJ n'
  ·obtain⟨t',cC,bJ,n'⟩:=mk _ b ys us qc (L2.Paired.mapP a1 λ y u z=>z.mono (qP ((qg.up hl).to hb))) a2;exact q t' _ _ (((g3.trans bH).to hl).to hb) cC bJ n'
theorem qdq{f:Addr}{fd:FuncData}(F:Fun K sA9 sA9 yX f fd)(T:Txt mg)(bG:qf K fd [sA2,sA4] [])(mG:mg sA9=some (.ref f)):∀ n,FnOk P w K mg base CX0 n f fd [sA2,sA4] (qjK n)
 |0=>qkO
 |n+1=>qfn F T bG mG (qdq F T bG mG n)
theorem vM:∀ t:Tr,t.nodes<=2*(t.wt:Int)-1
 |.letter _=>by show(1:Int)<=2*((1:Nat):Int)-1;decide
 |.one=>by show(1:Int)<=2*((1:Nat):Int)-1;decide
 |.zero=>by show(1:Int)<=2*((1:Nat):Int)-1;decide
 |.neg t=>by have:=vM t;show 1+t.nodes<=2*((t.wt+1:Nat):Int)-1;omega
 |.bin _ t u=>by have:=vM t;have:=vM u;show 1+t.nodes+u.nodes<=2*((t.wt+u.wt:Nat):Int)-1;omega
def WP7(H:Hp)(p:Addr)(x:Tr×Tr):Prop:=∃ a b,H p=some (.tup [a,b])/\zM H x.1 a/\zM H x.2 b
theorem WP7.mono{H H':Hp}{p:Addr}{x:Tr×Tr}(h:WP7 H p x)(g:qY H H'):WP7 H' p x:=by
 obtain⟨a,b,e,t,u⟩:=h;exact⟨a,b,g _ _ e,t.mono g,u.mono g⟩
def SOk(ls:List Nat)(x:Tr×Tr):Prop:=x.1.Of ls/\x.2.Of ls/\x.1.nodes<=19/\x.2.nodes<=19
def qef(K:W.Frag):Sp:=λ vs H Q _=>∃(a:Addr)(ns:List Int)(gv gp:List Nat),vs=[.ref a,vS gv,vS gp]/\Scr K H a ns/\gv.length<=3/\gp.length<=3 /\
 ∀ r ps (xs:List (Tr×Tr)) H',qg H H'->H' r=some (.lst (ps.map V.ref))->Paired (WP7 H') ps xs->xs.length<=4->(∀ x∈xs,SOk (gv++gp) x)->Q (.ref r) H'
theorem qaJ{α β:Type}{R:α->β->Prop}:∀{xs:List α}{ys:List β},Paired R xs ys->∀ y∈ys,∃ x∈xs,R x y
 |_,_,.nil,y,h=>by cases h
 |_,_,.cons r t,y,h=>by
  rcases Jy.mp h with rfl|h
  ·exact⟨_,Y7 ..,r⟩
  ·obtain⟨x,hx,q⟩:=qaJ t y h;exact⟨x,Yf _ hx,q⟩
theorem qdr:∀(kvs:List (Str×V))(c6:List (Key×V))(k:Key)(u:V),zt (qV c6 (kvK kvs)) k=some u->zt c6 k=some u∨∃ kv∈kvs,u=kv.2
 | [],c6,k,u,h=>.inl h
 |x::l,c6,k,u,h=>by
  rcases qdr l (yB c6 (.inr x.1) x.2) k u h with h|⟨kv,m,e⟩
  ·rw[qio] at h;by_cases c:k=.inr x.1
   ·rw[Vh c] at h;exact .inr ⟨x,Y7 ..,(Option.some.inj h).symm⟩
   ·rw[Vi c] at h;exact .inl h
  ·exact .inr ⟨kv,Yf _ m,e⟩
theorem zO:FnScope [sA0,sA1,sA7,sA4,sA5,sB4,sA6,sB9,sB5] [sA0,sA1,sA7] (qh vE):=scF
theorem qhZ{f C7 aH S8 S9:Addr}{fd D5 aR T3 T4:FuncData}(F:Fun K sC1 sC1 vE f fd)(T:Txt mg)(l0:Dp P w K mg base 1 C7 D5 [sA0,sB4] (vL K) sB3)(D9:Dp P w K mg base 2 aH aR [sA6,sA1] (qee) sC0)(u7:Dp P w K mg base 2 S8 T3 [sA0,"_law_at",sB8,sA3] (qjF K) sB6)(A7:Dp P w K mg base 20 S9 T4 [sA2,sA4] (qjK 20) sA9): FnOk P w K mg base CX0 21 f fd [sA0,sA1,sA7] (qef K):=by
 refine F.okd zO (λ cdv A outer s H vs Q E hr h=>?_);obtain⟨a,ns,gv,gp,rfl,hS,lv,lp,q⟩:=h;refine⟨_,(qd (qr (i:=3) zO.nd rfl (Or.inl rfl) (zr (ji rfl) (by rfl) T.dict qbx (qa (qan (n:=2) (csc (NY:=[sB4,sC6,sA0,sA1]) (o:=2) (caps:=[0,1]) [sA0,sA1] rfl
    (by intro x hx;rcases Jy.mp hx with e | hx;· rw[e];exact .inl rfl
        rw[Zf.mp hx];exact .inl rfl) (qav rfl rfl rfl (qav rfl rfl rfl jK)) rfl) rfl
    (qcp (by rfl) T.enumerate (qa (pv 2) qb))
    (λ C0 s H fp pins=>qF (qp (i:=0) (show([sB4,sC6,sA0,sA1]:List Str).Nodup by decide +kernel) rfl (Or.inl rfl)) (qF (qp (i:=1) (show([sB4,sC6,sA0,sA1]:List Str).Nodup by decide +kernel) rfl (Or.inl rfl)) zJ)) (λ _=>rfl) (λ _=>rfl)
    (λ C0 s H fp pins=>zz) (λ C0 s H fp pins=>(zk (qa (pv 1) (qa (zm D9 hr (qa (zm l0 hr (qa (pv 2) (qa (qm yH qi (pv 0)) qb))) (qa (pv 3) qb))) qb))))) qb)))
  (qd (qr (i:=4) zO.nd rfl (Or.inl rfl) (yJ qb))
  (qd (zZ U7 rfl (yi (by rfl) T.range (qa (qm zd (zm l0 hr (qa (pv 0) (qa qi qb))) qi) qb)) (qp (i:=5) zO.nd rfl (Or.inl rfl))
  (qd (qr (i:=6) zO.nd rfl (Or.inl rfl) (zm l0 hr (qa (pv 0) (qa (qm yH qi (pv 5)) qb))))
  (qd (qr (i:=7) zO.nd rfl (Or.inl rfl) (zm u7 hr (qa (pv 0) (qa (qm yH qi (qm jm qi (pv 5))) (qa (qm zd (pv 6) qi) (qa (qm qL (pv 1) (pv 2)) qb))))))
  (qd (qr (i:=8) zO.nd rfl (Or.inl rfl) (zm A7 hr (qa (pv 7) (qa (pv 3) qb))))
  (qd (q8 (qv zq (qm zd (qm zU (pv 6) qi) qi) qi (qA _))
   (qe (qr (i:=8) zO.nd rfl (Or.inl rfl) (zm u7 hr (qa (pv 0) (qa (qm yH qi (qm jm qi (pv 5))) (qa (qm zd (pv 6) qi) (qa (qm qL (pv 1) (pv 2)) qb))))))) qD)
  (qd (q8 (qv zq (qm zd (qm zU (pv 6) qi) qi) qi (qA _))
   (qe (qlh (i:=7) (j:=8) rfl zO.nd rfl rfl (by decide) rfl rfl (qa (pv 8) (qa (pv 7) qb)) rfl)) qD)
  (qe (zS (yQ XB Xz X0 zu (pv 4) (qa (zk (qa (pv 7) (qa (pv 8) qb))) qb))))))))))
  (qe (qk (pv 4)))))),?_⟩
 have hs:(ql gp).cps.size=gp.length:=qK gp;have sO:(ql gv).length=gv.length:=qK gv;have sP:(ql gp).length=gp.length:=qK gp;refine⟨_,rfl,_,rfl,?_⟩;refine y9 (ql gp).cps.size (λ i ys H2=>∃(cs:List Addr)(kvs:List (Str×V)),ys=cs.map V.ref/\cs.length=i/\Paired (λ c (kv:Str×V)=>H2 c=some (.tup [.str kv.1,kv.2])/\∃ t,zM H2 t kv.2/\t.Of (gv++gp)/\t.nodes<=3) cs kvs) (λ D hD=>⟨[],[],rfl,rfl,.nil⟩) (λ i ys H2 hi ⟨cs,kvs,e,l,_⟩=>by rw[hs] at hi;rw[e,Ut,l];exact zl (by omega)) ?_ (λ H2 sm=>rfl) ?_
 ·rintro i ys H2 D Y Z hi hD u0 sm ⟨cs,kvs,rfl,l,pr⟩ hY hZ;refine⟨hi,?_⟩;rintro zs H' ⟨rfl,rfl⟩;rw[hs] at hi;rw[vJ hi];refine⟨rfl,_,_,rfl,_,_,rfl,rfl,⟨rfl,rfl⟩,?_⟩;refine⟨_,rfl,_,rfl,_,rfl,_,_,rfl,rfl,a,ns,_,rfl,hS.mono sm,?_,?_,λ z H3 g3 z0 z1=>⟨_,rfl,z,gv,rfl,z0,by omega,λ t v H4 g4 tr bJ n'=>⟨qu (by show 2<=_;decide),λ p hp=>?_⟩⟩⟩
  ·show(0:Int)<=10+(i:Int);omega
  ·show(10:Int)+(i:Int)<=100000;omega
  have g5:=(g3.trans g4).to hp (o:=.tup [vS [gp[i]],v]);have e5:=g5 _ _ u0;have up:∀{o:HO},qY H4 (upd (upd H4 p (.tup [vS [gp[i]],v])) D o):=λ{o}=>(qP (qg.up hp)).trans (qY.updL e5)
  refine hY _ _ e5 (sm.trans g5) ⟨cs++[p],kvs++[(ql [gp[i]],v)],by rw[U2];rfl,by rw[Za,l];rfl,?_⟩;have g24:=(qP (g3.trans g4)).trans (up (o:=.lst (cs.map V.ref++[.ref p])));refine Qv (L2.Paired.mapP pr λ c kv ⟨e,t,a1,a2,a3⟩=>⟨g24 _ _ e,t,a1.mono g24,a2,a3⟩) ⟨(qY.updL e5) _ _ qc,t,tr.mono up,bJ.sub λ c hc=>Ur.mpr (.inl (bJ.has hc)),n'⟩
 rintro D H2 ys hD sm u0 ⟨cs,kvs,rfl,l,pr⟩;refine⟨D,cs,kvs,rfl,SqL.of u0,L2.Paired.mapP pr λ c kv h=>SqT.of h.1,λ d hd=>?_⟩;have g3:=sm.to hd (o:=.dK (qV [] (kvK kvs)));have uH:SmD (upd H2 d (.dK (qV [] (kvK kvs)))) (gv++gp) (qV [] (kvK kvs)):=λ c u e=>by
  rcases qdr kvs [] _ u e with e|⟨kv,m,rfl⟩
  ·cases e
  obtain⟨c',M0,e1,t,a1,a2,a3⟩:=qaJ pr kv m;exact⟨t,a1.mono (qP (qg.up hd)),a2,a3⟩
 generalize qV [] (kvK kvs)=kv at g3 uH ⊢;have e3:upd H2 d (.dK kv) d=some (.dK kv):=qc;generalize upd H2 d (.dK kv)=H3 at g3 uH e3 ⊢;refine⟨Qt _,λ tb V0=>?_⟩;have fT:H tb=none:=qkM g3 V0;have g4:=g3.to V0 (o:=.lst []);refine⟨_,rfl,a,ns,_,rfl,hS.mono g4,by decide,by decide,λ z2 H5 g5 z20 z21=>?_⟩;have m0:=U3 z2 (b:=5) (by decide);have m1:=Zg z2 (b:=5) (by decide);refine⟨_,_,rfl,rfl,(show(0:Int)<5 by decide),_,rfl,by omega,by omega,?_⟩;refine js (λ i σ H'=>∃(ps:List Addr)(xs:List (Tr×Tr))(v5 v6 v7 v8:Option V),σ=[some (.ref a),some (vS gv),some (vS gp),some (.ref d),some (.ref tb),v5,v6,v7,v8]/\qg H H'/\H' d=some (.dK kv)/\SmD H' (gv++gp) kv/\H' tb=some (.lst (ps.map V.ref))/\Paired (WP7 H') ps xs/\xs.length<=i/\∀ x∈xs,SOk (gv++gp) x)
  ⟨[],[],none,none,none,none,rfl,g4.trans g5,g5 _ _ ((qg.up V0) _ _ e3),(uH.mono (qP (qg.up V0))).mono (qP g5),g5 _ _ qc,.nil,Qs _,λ x hx=>by cases hx⟩ ?_ ?_
 ·rintro i σ H6 hi ⟨ps,xs,v5,v6,v7,v8,rfl,g6,e6,cD,t6,lB,lx,sC⟩;have oJ:(i:Int)<5:=by omega
  refine⟨_,rfl,_,rfl,_,_,rfl,rfl,a,ns,_,rfl,hS.mono g6,?_,?_,λ z H7 g7 z0 z1=>?_⟩
  ·show(0:Int)<=20+(0+(i:Int));omega
  ·show(20:Int)+(0+(i:Int))<=100000;omega
  have q0:=U3 z (b:=5) (by decide);have q1:=Zg z (b:=5) (by decide);have r0:=U3 z (b:=4) (by decide);have r1:=Zg z (b:=4) (by decide);have lgg:(gv++gp).length<=6:=by rw[Za];omega
  refine⟨_,rfl,_,rfl,_,_,rfl,rfl,.inl ⟨by decide,by decide⟩,_,_,rfl,rfl,_,rfl,_,_,rfl,rfl,(show(0:Int)<5 by decide),_,rfl,_,rfl,?_⟩;refine⟨_,_,rfl,rfl,by rw[sO,sP];exact qu (by omega),?_⟩;rw[ju];refine⟨a,ns,_,_,gv++gp,rfl,hS.mono (g6.trans g7),?_,?_,q0,by omega,by omega,λ tl cK H8 g8 trl uQ nl=>?_⟩
  ·show(0:Int)<=30+6*(0+(i:Int));omega
  ·show(30:Int)+6*(0+(i:Int))<=1000;omega
  have g68:=g7.trans g8;have wl:tl.wt<=5:=by omega
  have hl:=tl.ht_wt;refine⟨_,rfl,_,rfl,cK,d,tl,kv,gv++gp,rfl,trl,by omega,uQ,g68 _ _ e6,cD.mono (qP g68),λ tr rv H9 g9 uA uP nr=>?_⟩;have nl':=vM tl;have nl9:tl.nodes<=19:=by omega
  have uU:tr.nodes<=19:=by omega
  have cA:=trl.mono (qP g9);have bW:=g68.trans g9;have s0:=U3 (z / 5) (b:=6) (by decide);refine⟨_,rfl,_,_,rfl,rfl,⟨by decide,by decide⟩,_,_,rfl,rfl,(show(0:Int)<6 by decide),rfl,_,rfl,?_⟩;refine qbM (λ c1=>?A) (λ c1=>?B)
  case' A =>
   refine⟨_,rfl,_,rfl,_,_,rfl,rfl,.inl ⟨by decide,by decide⟩,_,_,rfl,rfl,_,rfl,_,_,rfl,rfl,(show(0:Int)<4 by decide),_,rfl,_,rfl,_,_,rfl,rfl,by rw[sO,sP];exact qu (by omega),?_⟩;rw[ju];refine⟨a,ns,_,_,gv++gp,rfl,hS.mono (g6.trans bW),(by show(0:Int)<=60+6*(0+(i:Int));omega),(by show(60:Int)+6*(0+(i:Int))<=1000;omega),r0,by omega,by omega,λ tr rv H9 g10 uA uP nr2=>?_⟩;have nn:=vM tr;have uU:tr.nodes<=19:=by omega
   have cA:=cA.mono (qP g10);have bW:=bW.trans g10
  all_goals
   have tH:=bW _ _ t6;refine⟨_,rfl,_,_,rfl,rfl,⟨by decide,by decide⟩,_,_,rfl,rfl,(show(0:Int)<2 by decide),rfl,_,rfl,?_⟩;refine qbM (λ c2=>?_) (λ c2=>?_)
   ·refine⟨_,rfl,_,rfl,_,_,rfl,?_⟩;refine⟨_,rfl,.inl ⟨rfl,_,SqL.of tH⟩,_,rfl,_,rfl,qu (by show 2<=_;decide),λ p hp=>?_⟩;have iJ:=(qg.up hp (o:=.tup [rv,cK])) _ _ tH;refine⟨tb,_,_,rfl,rfl,iJ,by rw[Ut];have:=lB.length;exact zl (by omega),?_⟩;have up:=(qP (qg.up hp (o:=.tup [rv,cK]))).trans (qY.updL iJ (o:=.lst (ps.map V.ref++[.ref p])));have pF:=(qP bW).trans up;have ed:upd (upd H9 p (.tup [rv,cK])) tb (.lst (ps.map V.ref++[.ref p])) d=some (.dK kv):=by
     rw[qt (λ q=>by rw[q,t6] at e6;cases e6)];exact(qg.up hp) _ _ (bW _ _ e6)
    refine⟨ps++[p],xs++[(tr,tl)],_,_,_,_,rfl,((g6.trans bW).to hp).at fT,ed,cD.mono pF,by rw[qc,U2];rfl,Qv (L2.Paired.mapP lB λ b x h=>h.mono pF) ⟨rv,cK,(qY.updL iJ) _ _ qc,uA.mono up,cA.mono up⟩,by rw[Za];show _+1<=_;omega,λ x hx=>?_⟩;rcases Ur.mp hx with hx|hx
    ·exact sC x hx
    ·rw[Zf.mp hx];exact⟨uP,uQ,uU,nl9⟩
   ·refine⟨_,rfl,.inl ⟨rfl,_,SqL.of tH⟩,_,rfl,_,rfl,qu (by show 2<=_;decide),λ p hp=>?_⟩;have iJ:=(qg.up hp (o:=.tup [cK,rv])) _ _ tH;refine⟨tb,_,_,rfl,rfl,iJ,by rw[Ut];have:=lB.length;exact zl (by omega),?_⟩;have up:=(qP (qg.up hp (o:=.tup [cK,rv]))).trans (qY.updL iJ (o:=.lst (ps.map V.ref++[.ref p])));have pF:=(qP bW).trans up;have ed:upd (upd H9 p (.tup [cK,rv])) tb (.lst (ps.map V.ref++[.ref p])) d=some (.dK kv):=by
     rw[qt (λ q=>by rw[q,t6] at e6;cases e6)];exact(qg.up hp) _ _ (bW _ _ e6)
    refine⟨ps++[p],xs++[(tl,tr)],_,_,_,_,rfl,((g6.trans bW).to hp).at fT,ed,cD.mono pF,by rw[qc,U2];rfl,Qv (L2.Paired.mapP lB λ b x h=>h.mono pF) ⟨cK,rv,(qY.updL iJ) _ _ qc,cA.mono up,uA.mono up⟩,by rw[Za];show _+1<=_;omega,λ x hx=>?_⟩;rcases Ur.mp hx with hx|hx
    ·exact sC x hx
    ·rw[Zf.mp hx];exact⟨uQ,uP,nl9,uU⟩
 ·rintro σ H6 ⟨ps,xs,v5,v6,v7,v8,rfl,g6,e6,cD,t6,lB,lx,sC⟩;exact⟨_,rfl,q tb ps xs H6 g6 t6 lB (by omega) sC⟩
noncomputable def qgl:List (List Nat):=[[],[97],[98,99],[97,99],[97,98,99],[98],[97,98,99],[97,98]]
noncomputable def qgm:List (List Nat):=[[],[120],[121,122],[120,122],[120,121,122],[121],[120,121,122],[120,121]]
theorem qgn:[V.str "",V.str "a",V.str "bc",V.str "ac",V.str "abc",V.str "b",V.str "abc",V.str "ab"]=qgl.map vS:=by
 have e1:("abc":Str)=ql [97,98,99]:=by decide +kernel
 have e2:("ab":Str)=ql [97,98]:=by decide +kernel
 have e3:("a":Str)=ql [97]:=by decide +kernel
 have e4:("":Str)=ql []:=by decide +kernel
 have e5:("bc":Str)=ql [98,99]:=by decide +kernel
 have e7:("ac":Str)=ql [97,99]:=by decide +kernel
 have e8:("b":Str)=ql [98]:=by decide +kernel
 rw[e1,e2,e3,e4,e5,e7,e8];rfl
theorem qgo:[V.str "",V.str "x",V.str "yz",V.str "xz",V.str "xyz",V.str "y",V.str "xyz",V.str "xy"]=qgm.map vS:=by
 have e1:("xy":Str)=ql [120,121]:=by decide +kernel
 have e2:("xyz":Str)=ql [120,121,122]:=by decide +kernel
 have e3:("x":Str)=ql [120]:=by decide +kernel
 have e4:("":Str)=ql []:=by decide +kernel
 have e5:("yz":Str)=ql [121,122]:=by decide +kernel
 have e6:("y":Str)=ql [121]:=by decide +kernel
 have e7:("xz":Str)=ql [120,122]:=by decide +kernel
 rw[e1,e2,e3,e4,e5,e6,e7];rfl
theorem qjM{l:List (List Nat)}{i:Int}(h0:0<=i)(h:i<(l.length:Int)):∃ c∈l,atI (l.map vS) i=some (vS c):=by
 have hk:i.toNat<l.length:=by omega
 have:=qae (xs:=l.map vS) (j:=i.toNat) (v:=vS l[i.toNat]) (by rw[Zl,Xw hk];rfl)
 rw[show((i.toNat:Nat):Int)=i by omega] at this;exact⟨_,Ui hk,this⟩
def qeg(K:W.Frag):Sp:=λ vs H Q _=>∃(a:Addr)(ns:List Int),vs=[.ref a]/\Scr K H a ns/\∀ p r (gv gp:List Nat) ps (xs:List (Tr×Tr)) H',qg H H'->H' p=some (.tup [vS gv,vS gp,.ref r])->gv.Sublist [97,98,99]->gp.Sublist [120,121,122]->H' r=some (.lst (ps.map V.ref))->Paired (WP7 H') ps xs->xs.length<=4->(∀ x∈xs,SOk (gv++gp) x)->Q (.ref p) H'
theorem qaK:FnScope [sA0,sA6,sA1,sA7] [sA0] (qh vF):=scF
theorem qjN{f C7 aI:Addr}{fd D5 aS:FuncData}(F:Fun K sC2 sC2 vF f fd)(T:Txt mg)(l0:Dp P w K mg base 1 C7 D5 [sA0,sB4] (vL K) sB3)(E1:Dp P w K mg base 21 aI aS [sA0,sA1,sA7] (qef K) sC1): FnOk P w K mg base CX0 22 f fd [sA0] (qeg K):=by
 refine F.okd qaK (λ cdv A outer s H vs Q E hr h=>?_);obtain⟨a,ns,rfl,hS,q⟩:=h;refine⟨_,(qd (qr (i:=1) qaK.nd rfl (Or.inl rfl) (zm l0 hr (qa (pv 0) (qa qi qb))))
  (qd (qr (i:=2) qaK.nd rfl (Or.inl rfl) (q9 jz (yJ (qa qo (qa qo (qa qo (qa qo (qa qo (qa qo (qa qo (qa qo qb))))))))) (qm zd (pv 1) qi) (λ _ _=>rfl)))
  (qd (qr (i:=3) qaK.nd rfl (Or.inl rfl) (q9 jz (yJ (qa qo (qa qo (qa qo (qa qo (qa qo (qa qo (qa qo (qa qo qb))))))))) (qm zd (qm zU (pv 1) qi) qi) (λ _ _=>rfl)))
  (qe (qk (zk (qa (pv 2) (qa (pv 3) (qa (zm E1 hr (qa (pv 0) (qa (pv 2) (qa (pv 3) qb)))) qb))))))))),?_⟩
 refine⟨_,rfl,a,ns,1,rfl,hS,by decide,by decide,λ z H1 g1 z0 z1=>?_⟩;refine⟨qu (by show 8<=_;decide),λ p hp=>?_⟩;have n0:=U3 z (b:=8) (by decide);have n1:=Zg z (b:=8) (by decide);obtain⟨gv,sO,bT⟩:=qjM (l:=qgl) n0 n1;rw[<- qgn] at bT
 have s1:gv.Sublist [97,98,99]:=(by decide:∀ l∈qgl,l.Sublist [97,98,99]) gv sO;refine⟨_,rfl,_,_,rfl,rfl,(show(0:Int)<8 by decide),p,_,_,_,rfl,rfl,SqL.of qc,bT,?_⟩;have g2:=g1.to hp (o:=.lst [V.str "",V.str "a",V.str "bc",V.str "ac",V.str "abc",V.str "b",V.str "abc",V.str "ab"]);have m0:=U3 (z / 8) (b:=8) (by decide);have m1:=Zg (z / 8) (b:=8) (by decide);obtain⟨gp,sP,oW⟩:=qjM (l:=qgm) m0 m1;rw[<- qgo] at oW;have s2:gp.Sublist [120,121,122]:=(by decide:∀ l∈qgm,l.Sublist [120,121,122]) gp sP;refine⟨qu (by show 8<=_;decide),λ p2 E6=>?_⟩;have g3:=g2.to E6 (o:=.lst [V.str "",V.str "x",V.str "yz",V.str "xz",V.str "xyz",V.str "y",V.str "xyz",V.str "xy"]);refine⟨_,rfl,_,_,rfl,rfl,⟨by decide,by decide⟩,_,_,rfl,rfl,(show(0:Int)<8 by decide),p2,_,_,_,rfl,rfl,SqL.of qc,oW,?_⟩;refine⟨_,rfl,_,rfl,_,rfl,_,rfl,_,rfl,a,ns,gv,gp,rfl,hS.mono g3,s1.length_le,s2.length_le,λ r ps xs H4 g4 e4 pr lx ok=>⟨qu (by show 3<=_;decide),λ p3 gV=>?_⟩⟩;exact q p3 r gv gp ps xs _ ((g3.trans g4).to gV) qc s1 s2 ((qg.up gV) _ _ e4) (L2.Paired.mapP pr λ b x h=>h.mono (qP (qg.up gV))) lx ok
noncomputable def qcC(x:Tr×Tr):List Nat:=x.1.text++[32,61,32]++x.2.text
def qcD:Sp:=λ vs H Q _=>∃(r:Addr)(ps:List Addr)(xs:List (Tr×Tr)),vs=[.ref r]/\H r=some (.lst (ps.map V.ref))/\Paired (WP7 H) ps xs/\xs.length<=100/\(∀ x∈xs,x.1.Of zw/\x.2.Of zw/\x.1.wt<=20/\x.2.wt<=20)/\∀ r' H',qg H H'->H' r'=some (.lst (xs.map λ x=>vS (qcC x)))->Q (.ref r') H'
theorem qh0:FnScope [sA5] [sA5] (qh vG):=scF
theorem qh1{f O0:Addr}{fd O2:FuncData}(F:Fun K sC3 sC3 vG f fd)(T:Txt mg)(r9:Dp P w K mg base 20 O0 O2 [sA2] (qhU zN 20) sA8): FnOk P w K mg base CX0 21 f fd [sA5] (qcD):=by
 refine F.okd qh0 (λ cdv A outer s H vs Q E hr h=>?_);obtain⟨r,ps,xs,rfl,L1,pr,l6,ok,q⟩:=h;refine⟨_,(qe (qk (zK (csc (NY:=[sB9,sB5]) (o:=2) (caps:=[]) [] rfl
    (by simp) jK rfl) rfl
    (zT (pv 0)) (λ C0 s H fp pins=>(show PG _ _ (qic K 2 (qac (jr 0) (qac (jr 1) qib))) from qaQ (n:=2) rfl (qF (qp (i:=0) (show([sB9,sB5]:List Str).Nodup by decide +kernel) rfl (Or.inl rfl) (hf:=Or.inr rfl)) (qF (qp (i:=1) (show([sB9,sB5]:List Str).Nodup by decide +kernel) rfl (Or.inl rfl) (hf:=Or.inr rfl)) zJ)))) (λ C0 s H fp pins=>zz) (λ C0 s H fp pins=>(qm qL (qm qL (zm r9 hr (qa (pv 0) qb)) qo) (zm r9 hr (qa (pv 1) qb))))))),?_⟩
 rw[show(" = ":Str)=ql [32,61,32] by decide +kernel];have sG:ps.length=xs.length:=pr.length;refine⟨_,rfl,r,rfl,⟨_,SqL.of L1⟩,?_⟩;refine qcc (SqL.of L1) (λ i=>(xs.take i).map λ x=>vS (qcC x)) rfl (λ i hi=>?_) ?_ ?_
 ·rw[Ut,Uc];exact zl (by omega)
 ·intro i v H' D2 Y Z hv bV fB T8 hY hZ;obtain⟨p,hp,rfl⟩:=qj hv;obtain⟨x,hx,wp⟩:=qX pr i p hp;obtain⟨a,b,e1,o1,o2⟩:=wp.mono (qP T8);obtain⟨t9,u9,tw,uw⟩:=ok x (Yh hx);have th:=x.1.ht_wt;have uh:=x.2.ht_wt;have lt:=x.1.text_len;have lu:=x.2.text_len;refine⟨p,_,rfl,SqT.of e1,rfl,_,_,rfl,_,_,rfl,rfl,⟨rfl,rfl⟩,?_⟩;refine(jb qw (jb qw (dtv (f:=zN) (n:=20) (dvA rfl) o1 (by omega) (by omega) t9) dC (by show _+3<=_;omega)) (dtv (f:=zN) (n:=20) (dvA rfl) o2 (by omega) (by omega) u9) (by rw[Za];show _+3+_<=_;omega)) _ _ _ at0 λ H'' pG=>?_
  exact hY _ _ (pG _ _ fB) (T8.trans pG) (yF (f:=λ x=>vS (qcC x)) hx)
 intro D H6 hD s6 h6;rw[Ut,sG,Uj] at h6;exact q D H6 s6 h6
structure TaskC(K:W.Frag)(CT:Addr):Prop where
 cls:Cls K CT
 n1:NoAttr K CT "given_letters"
 n2:NoAttr K CT "gap_letters"
 n3:NoAttr K CT "wish_texts"
 n4:NoAttr K CT "side_forms"
 n5:NoAttr K CT "fault_form"
def qbB:Sp:=λ vs H Q _=>∃(ls:List Nat),vs=[vS ls]/\ls.length<=9/\Q (.int ((2^ls.length:Nat):Int)) H
theorem qaL:FnScope ["letters","count","place"] ["letters"] (qh vt):=scF
theorem qjO{k:Nat}{f:Addr}{fd:FuncData}(F:Fun K "row_count" "row_count" vt f fd)(T:Txt mg):FnOk P w K mg base CX0 (k+1) f fd ["letters"] qbB:=by
 refine F.okd qaL (λ cdv A outer s H vs Q E hr h=>?_);obtain⟨ls,rfl,h9,q⟩:=h;refine⟨_,qd (qr (i:=1) qaL.nd rfl (Or.inl rfl) qi)
  (qd (zZ U7 rfl (yi rfl T.range (qa (qz qaf rfl T.len Js (qa (pv 0) qb)) qb)) (qp (i:=2) qaL.nd rfl (Or.inl rfl))
   (qe (qr (i:=1) qaL.nd rfl (Or.inl rfl) (qm jm qi (pv 1)))))
  (qe (qk (pv 1)))),?_⟩
 have hz:(ql ls).length=ls.length:=qK ls;refine⟨_,rfl,_,rfl,by rw[hz];exact qu (by omega),_,rfl,by rw[hz];omega,by rw[hz];omega,?_⟩;rw[hz];refine js (λ i σ H1=>∃(v:Option V),σ=[some (vS ls),some (.int ((2^i:Nat):Int)),v]/\H1=H) ⟨none,rfl,rfl⟩ ?_ ?_
 ·rintro i σ H1 hi ⟨v,rfl,rfl⟩;refine⟨_,rfl,_,_,rfl,rfl,.inl ⟨by decide,by decide⟩,?_⟩;refine⟨some (.int (0+(i:Int))),?_,rfl⟩;show [some (vS ls),some (V.int (2*((2^i:Nat):Int))),_]=_
  rw[show(2:Int)*((2^i:Nat):Int)=((2^(i+1):Nat):Int) by rw[Qk];omega]
 ·rintro σ H1 ⟨v,rfl,rfl⟩;have e:((ls.length:Int)).toNat=ls.length:=Zn _;rw[e];exact⟨_,rfl,q⟩
theorem qbi{a b:List Nat}{r q:List Bool}(h:a.length=r.length):zI (a++b) (r++q)=zI a r++zI b q:=by
 unfold zI;rw[U1 h,U2]
theorem qgp{ls:List Nat}{r:List Bool}(nd:ls.Nodup)(h:ls.length=r.length):((zI ls r).map (·.1)).Nodup:=by
 rw[qdo h];exact Zr.mpr (nd.imp λ{a b} w6 e=>by
  have:=vo (Sum.inr.inj e)
  simp at this;exact w6 this)
theorem qgq{a b:List Nat}{r q:List Bool}(nd:(a++b).Nodup)(h:a.length=r.length)(h':b.length=q.length):qV (zI a r) (zI b q)=zI (a++b) (r++q):=by
 rw[qbi h];refine qa7 _ _ ?_;rw[<- qbi h];exact qgp nd (by rw[Za,Za,h,h'])
theorem qaM{ls:List Nat}{r:List Bool}(h:ls.length=r.length):(zI ls r).length=ls.length:=by rw[zI,Ut,U8];omega
def qgr:Sp:=λ vs H Q _=>∃(ls:List Nat)(N:Nat),vs=[vS ls,.int (N:Int)]/\ls.Nodup/\ls.length<=9/\∀ d H',qg H H'->H d=none->H' d=some (.dK (zI ls (qT ls.length N)))->Q (.ref d) H'
theorem qaN:FnScope ["letters","number","row","place","letter","behind"] ["letters","number"] (qh qcs):=scF
theorem qkQ{f :Addr}{fd :FuncData}(F:Fun K "row_of" "row_of" qcs f fd)(T:Txt mg): FnOk P w K mg base CX0 1 f fd ["letters","number"] (qgr):=by
 refine F.okd qaN (λ cdv A outer s H vs Q E hr h=>?_);obtain⟨ls,N,rfl,nd,l9,q⟩:=h;have S3:=qew hr;refine⟨_,(qd (qr (i:=2) qaN.nd rfl (Or.inl rfl) qeu)
  (qd (qdU (n:=2) U7 rfl (qcp (by rfl) T.enumerate (qa (pv 0) qb)) (qF (qp (i:=3) qaN.nd rfl (Or.inl rfl)) (qF (qp (i:=4) qaN.nd rfl (Or.inl rfl)) zJ))
  (qd (qr (i:=5) qaN.nd rfl (Or.inl rfl) (qm qig (qm qig (qz qaf (by rfl) T.len Js (qa (pv 0) qb)) qi) (pv 3)))
  (qe (qj4 S3 (pv 2) (pv 4) (jx zq (qm zd (qm qlk (pv 1) (pv 5)) qi) qi (qA _)) rfl))))
  (qe (qk (pv 2))))),?_⟩
 have hs:(ql ls).cps.size=ls.length:=qK ls;have lM:(ql ls).length=ls.length:=qK ls;have lR:=zE ls.length N;refine λ p hp=>?_
 refine⟨_,rfl,_,rfl,?_⟩;refine qdi (λ i σ H1=>∃ v3 v4 v5:Option V,σ=[some (vS ls),some (.int (N:Int)),some (.ref p),v3,v4,v5]/\qg H H1/\H1 p=some (.dK (zI (ls.take i) ((qT ls.length N).take i)))) ⟨none,none,none,rfl,qg.up hp,qc⟩ ?_ ?_
 ·rintro i σ H1 hi ⟨v3,v4,v5,rfl,g1,e1⟩;rw[hs] at hi;rw[vJ hi];refine⟨_,_,rfl,_,_,rfl,rfl,?_⟩;refine⟨_,rfl,_,rfl,by rw[lM];exact qu (by omega),_,_,rfl,rfl,_,rfl,_,_,rfl,rfl,?_⟩;rw[lM];refine⟨_,rfl,_,rfl,_,_,rfl,rfl,(show(0:Int)<=(ls.length:Int)-1-(i:Int) by omega),_,_,rfl,rfl,(show(0:Int)<2 by decide),rfl,_,rfl,_,rfl,p,_,rfl,.inl ⟨_,.inr (ql [ls[i]]),e1,rfl,?_,rfl⟩,?_⟩
  ·rw[zI,Ut,U8,Uc];exact zl (by omega)
  have lr:(ls.take i).length=((qT ls.length N).take i).length:=by rw[Uc,Uc,lR]
  have nn:zt (zI (ls.take i) ((qT ls.length N).take i)) (.inr (ql [ls[i]]))=none:=by rw[qcB lr,Vi (qfk nd hi)]
  have ev:(qT ls.length N)[i]?=some (decide (V.int ((N:Int) / 2^((ls.length:Int)-1-(i:Int)).toNat % 2)=V.int 1)):=by
   rw[qaE hi,show((ls.length:Int)-1-(i:Int)).toNat=ls.length-1-i by omega];congr 1
   refine decide_eq_decide.mpr ?_;rw[V.int.injEq];constructor
   ·intro h;exact_mod_cast h
   ·intro h;exact_mod_cast h
  refine⟨_,_,_,rfl,g1.at hp,?_⟩;rw[qc,zj ev,Xa hi,qhV lr];exact congrArg (λ z=>some (HO.dK z)) (qer _ nn)
 ·rintro σ H1 ⟨v3,v4,v5,rfl,g1,e1⟩;rw[hs,Uj,XH (by rw[lR];exact Qs _)] at e1;exact⟨_,rfl,q p H1 g1 hp e1⟩
theorem qds(ρ:Nat->Bool):∀ F:List Pr,qC ρ F=decide ((F.filter λ p=>p.all ρ).length % 2=1)
 | []=>rfl
 |p::F=>by
  show xor (p.all ρ) (qC ρ F)=_
  rw[qds ρ F,Ul];cases p.all ρ with
  |false=>rw[Vi (by decide),Bool.false_xor]
  |true =>
   rw[Vh rfl,Ua];generalize (F.filter λ p=>p.all ρ).length=n;by_cases h:n % 2=1
   ·rw[Jt h,Ja (by omega)];rfl
   ·rw[Ja h,Jt (by omega)];rfl
theorem ql3(l:List Nat)(ρ:Nat->Bool):(l.map ρ).all id=l.all ρ:=by rw[List.all_map];rfl
def qcE(K:W.Frag):Sp:=λ vs H Q _=>∃(a d:Addr)(F:List Pr)(kvs:List (Key×V))(ρ:Nat->Bool),vs=[.ref a,.ref d]/\SqT K H a (F.map vS)/\H d=some (.dK kvs)/\(∀ p∈F,∀ c∈p,zt kvs (.inr (ql [c]))=some (.bl (ρ c)))/\(∀ p∈F,p.length<=1000)/\F.length<=1000/\∀ H',qg H H'->Q (.bl (qC ρ F)) H'
theorem qdt:FnScope ["form","row","true_ones"] ["form","row"] (qh qd3):=scF
theorem qh2{f :Addr}{fd :FuncData}(F:Fun K "worth" "worth" qd3 f fd)(T:Txt mg): FnOk P w K mg base CX0 1 f fd ["form","row"] (qcE K):=by
 refine F.okd qdt (λ cdv A outer s H vs Q E hr h=>?_);obtain⟨a,d,F,kvs,ρ,rfl,hF,hd,hv,hp,hl,q⟩:=h;have S3:=qew hr;refine⟨_,(qd (qgM (i:=2) qdt.nd rfl rfl (csc (NY:=["product","row"]) (o:=1) (caps:=[1]) ["row"] rfl
    (by intro x hx;rw[Zf.mp hx];exact .inl rfl) (qav rfl rfl rfl jK) rfl) rfl
    (qdA (pv 0)) (λ C0 s H fp pins=>qp (i:=0) (show(["product","row"]:List Str).Nodup by decide +kernel) rfl (Or.inl rfl)) (λ C0 s H fp pins=>(qbt (j8 (qz (r:=qmB K) (qbc rfl) (by rfl) T.all qi4 (qa (zK (csc (NY:=["letter","row"]) (o:=1) (caps:=[1]) ["row"] rfl
    (by intro x hx;rw[Zf.mp hx];exact .inl rfl) (qav rfl rfl rfl jK) rfl) rfl
    (qb2 (pv 0)) (λ C0 s H fp pins=>qp (i:=0) (show(["letter","row"]:List Str).Nodup by decide +kernel) rfl (Or.inl rfl)) (λ C0 s H fp pins=>zz) (λ C0 s H fp pins=>(qgE S3 (pv 1) (pv 0) (λ _ _=>rfl)))) qb))))) (λ C0 s H fp pins=>(pv 0)))
  (qe (qk (jx zq (qm zd (qz qy (by rfl) T.len Js (qa (pv 2) qb)) qi) qi (qA _))))),?_⟩
 refine⟨_,rfl,a,rfl,⟨_,hF⟩,?_⟩;refine qlE hF (λ j=>((F.take j).filter λ p=>p.all ρ).map vS) rfl (λ j hj=>?_) ?_ ?_
 ·rw[Ut];have:=XZ (λ p:Pr=>p.all ρ) (F.take j);rw[Uc] at this;exact zl (by omega)
 ·intro j x H2 D Y Z hx hD u0 sm hY hZ;obtain⟨p,bK,rfl⟩:=qj hx;have hpm:=Yh bK;have hs:(ql p).cps.size=p.length:=qK p;have hj:j<F.length:=kQ bK;have ej:F[j]=p:=by rw[Xw hj] at bK;exact Option.some.inj bK
  have fs:=qbf (f:=λ p:Pr=>p.all ρ) hj;rw[ej] at fs;refine⟨⟨rfl,rfl⟩,?_⟩;refine⟨_,rfl,_,rfl,?_⟩;refine qiQ (λ m=>((p.map ρ).take m).map V.bl) rfl (λ m hm=>?_) ?_ ?_
  ·rw[Ut,Uc,Ut];have:=hp p hpm;exact zl (by omega)
  ·intro m H3 D3 Y3 Z3 hm hD3 M4 gG hY3 hZ3;rw[hs] at hm;rw[vJ hm];refine⟨⟨rfl,rfl⟩,?_⟩;have gd:=qaS.k (k:=Sum.inr (ql [p[m]])) (gG _ _ (sm _ _ hd));rw[hv p hpm _ (Ui hm)] at gd;refine⟨_,rfl,_,rfl,d,_,rfl,gd,?_⟩;exact hY3 _ _ M4 gG (yF (f:=V.bl) (by rw[Zl,Xw hm];rfl))
  ·intro D3 H3 hD3 gG M4;rw[hs,XH (by rw[Ut];exact Qs _)] at M4;refine⟨D3,p.map ρ,rfl,SqL.of M4,_,rfl,?_⟩;rw[ql3];refine qbM (λ c=>?_) (λ c=>?_)
   ·refine⟨_,rfl,hY _ _ (gG _ _ u0) (sm.trans gG) ?_⟩;show List.map _ ((F.take (j+1)).filter _)=_
    rw[fs,Vh c,U2];rfl
   ·refine hZ _ (gG _ _ u0) (sm.trans gG) ?_;show List.map _ ((F.take (j+1)).filter _)=_
    rw[fs,Vi c,Uu]
 ·intro D H2 hD sm u0;rw[Ut,Uj] at u0;refine⟨_,rfl,D,_,rfl,.inl (SqL.of u0),_,_,rfl,rfl,(show(0:Int)<2 by decide),rfl,?_⟩;have e:decide (V.int ((((F.filter λ p=>p.all ρ).map vS).length:Int) % 2)=V.int 1)=qC ρ F:=by
   rw[qds,Ut];refine decide_eq_decide.mpr ?_;rw[V.int.injEq];constructor
   ·intro h;exact_mod_cast h
   ·intro h;exact_mod_cast h
  exact vk (congrArg V.bl e) (q _ sm)
theorem TaskAt.mono{CT:Addr}{H H':Hp}{o:Addr}{gv gp:List Nat}{ws:List Wsh}{dx a1 a2 a3:Addr}{ps:List Addr}(t:TaskAt CT H o gv gp ws dx a1 a2 a3 ps)(g:qg H H'):TaskAt CT H' o gv gp ws dx a1 a2 a3 ps:=
 ⟨g _ _ t.ins,g _ _ t.said,g _ _ t.sides,zA (λ p y h=>yd.mono h g) t.side,g _ _ t.fault⟩
structure TkOk(gv gp:List Nat)(ws:List Wsh):Prop where
 sv:gv.Sublist abc
 sp:gp.Sublist xyz
 on:On (gv++gp) (qQ (ws.map Wsh.side))
noncomputable def ye(gv gp:List Nat)(N M:Nat):Nat->Bool:=asg (gv++gp) (qT gv.length N++qT gp.length M)
noncomputable def qaO(gv gp:List Nat)(F:List Pr)(N M:Nat):Bool:=!qC (ye gv gp N M) F
noncomputable def yf(gv gp:List Nat)(F:List Pr)(N:Nat):List Nat:=(List.range (2^gp.length)).filter (qaO gv gp F N)
noncomputable def vN(M:Nat):V:=.int (M:Int)
def qjP(CT:Addr):Sp:=λ vs H Q _=>∃(o:Addr)(gv gp:List Nat)(ws:List Wsh)(dx a1 a2 a3:Addr)(ps:List Addr)(N M:Nat),vs=[.ref o,.int (N:Int),.int (M:Int)]/\TaskAt CT H o gv gp ws dx a1 a2 a3 ps/\TkOk gv gp ws/\∀ H',qg H H'->Q (.bl (qaO gv gp (qQ (ws.map Wsh.side)) N M)) H'
theorem qg7:FnScope ["self","given_row","gap_row","row"] ["self","given_row","gap_row"] (qh vA):=scF
theorem qkR{f dJ iG c0:Addr}{fd dU iK:FuncData}(F:Fun K "does" "Task.does" vA f fd)(T:Txt mg)(B9:Dp P w K mg base 1 dJ dU ["letters","number"] (qgr) "row_of")(O9:Dp P w K mg base 1 iG iK ["form","row"] (qcE K) "worth")(c4:TaskC K c0): FnOk P w K mg base CX0 2 f fd ["self","given_row","gap_row"] (qjP c0):=by
 refine F.okd qg7 (λ cdv A outer s H vs Q E hr h=>?_);obtain⟨o,gv,gp,ws,dx,a1,a2,a3,ps,N,M,rfl,t,ok,q⟩:=h;refine⟨_,(qd (qr (i:=3) qg7.nd rfl (Or.inl rfl) (zm B9 hr (qa (za (pv 0) (by rfl)) (qa (pv 1) qb))))
  (qd (zS (yQ X3 PySem.F.slot_dict_update PySem.F.type_dict_update qhI (pv 3) (qa (zm B9 hr (qa (za (pv 0) (by rfl)) (qa (pv 2) qb))) qb)))
  (qe (qk (qh9 (zm O9 hr (qa (za (pv 0) (by rfl)) (qa (pv 3) qb)))))))),?_⟩
 have nC:gv.length<=3:=ok.sv.length_le;have lE:gp.length<=3:=ok.sp.length_le;obtain⟨rl,nB,l9⟩:=qa5 ok.sv ok.sp;have nd:=zx Jx rl;have uV:gv.Nodup:=(Zq.mp nd).1;have uW:gp.Nodup:=(Zq.mp nd).2.1;have lv:gv.length=(qT gv.length N).length:=(zE _ _).symm;have lp:gp.length=(qT gp.length M).length:=(zE _ _).symm;refine⟨_,rfl,o,c0,dx,_,_,rfl,t.ins,c4.cls,c4.n1,rfl,_,rfl,gv,N,rfl,uV,by omega,λ d1 H1 g1 f1 e1=>?_⟩;refine⟨_,rfl,.inr (.inr (.inl ⟨rfl,.inl ⟨_,e1⟩⟩)),_,rfl,o,c0,dx,_,_,rfl,g1 _ _ t.ins,c4.cls,c4.n2,rfl,_,rfl,gp,M,rfl,uW,by omega,λ d2 H2 g2 f2 e2=>?_⟩;refine⟨d1,d2,_,_,rfl,rfl,g2 _ _ e1,e2,(λ h=>by rw[<- h,e1] at f2;cases f2),by rw[qaM lv,qaM lp];exact qu (by omega),?_⟩;rw[qgq nd lv lp];have g3:qg H (upd H2 d1 (.dK (zI (gv++gp) (qT gv.length N++qT gp.length M)))):=(g1.trans g2).at f1;have lb:(gv++gp).length=(qT gv.length N++qT gp.length M).length:=by rw[Za,Za,<- lv,<- lp]
 have lF:=ok.on.len rl;have aF:2^(gv++gp).length<=64:=Yo (n:=2) (by decide) nB;refine⟨_,rfl,o,c0,dx,_,_,rfl,g3 _ _ t.ins,c4.cls,c4.n5,rfl,_,rfl,a3,d1,_,_,ye gv gp N M,rfl,SqT.of (g3 _ _ t.fault),qc,λ p hp c hc=>?_,λ p hp=>?_,by omega,λ H4 g4=>⟨_,rfl,q H4 (g3.trans g4)⟩⟩
 ·rw[qcB lb,Vh (ok.on.mem p hp c hc)];rfl
 ·have:=(ok.on.sub rl p hp).length_le;omega
def qdu(CT:Addr):Sp:=λ vs H Q _=>∃(o:Addr)(gv gp:List Nat)(ws:List Wsh)(dx a1 a2 a3:Addr)(ps:List Addr)(N:Nat),vs=[.ref o,.int (N:Int)]/\TaskAt CT H o gv gp ws dx a1 a2 a3 ps/\TkOk gv gp ws /\
 ∀ r H',qg H H'->H r=none->H' r=some (.lst ((yf gv gp (qQ (ws.map Wsh.side)) N).map vN))->Q (.ref r) H'
theorem qgs:FnScope ["self","given_row"] ["self","given_row"] (qh yN):=scF
theorem qgt{f x0 c0 o4:Addr}{fd x3 r6:FuncData}(F:Fun K "doing_at" "Task.doing_at" yN f fd)(T:Txt mg)(n6:Dp P w K mg base 1 x0 x3 ["letters"] (qbB) "row_count")(c4:TaskC K c0)(x5:Meth K c0 "does" o4)(x6:FnOk P w K mg base CX0 2 o4 r6 ["self","given_row","gap_row"] (qjP c0))(x4:qf K r6 ["self","given_row","gap_row"] []): FnOk P w K mg base CX0 3 f fd ["self","given_row"] (qdu c0):=by
 refine F.okd qgs (λ cdv A outer s H vs Q E hr h=>?_);obtain⟨o,gv,gp,ws,dx,a1,a2,a3,ps,N,rfl,t,ok,q⟩:=h;have xA:Room 2 _:=hr.mono (by decide);refine⟨_,(qe (qk (zK (csc (NY:=["gap_row","self","given_row"]) (o:=1) (caps:=[0,1]) ["self","given_row"] rfl
    (by intro x hx;rcases Jy.mp hx with e | hx;· rw[e];exact .inl rfl
        rw[Zf.mp hx];exact .inl rfl) (qav rfl rfl rfl (qav rfl rfl rfl jK)) rfl) rfl
    (yi (by rfl) T.range (qa (zm n6 hr (qa (za (pv 0) (by rfl)) qb)) qb)) (λ C0 s H fp pins=>qp (i:=0) (show(["gap_row","self","given_row"]:List Str).Nodup by decide +kernel) rfl (Or.inl rfl)) (λ C0 s H fp pins=>(qbt (j8 (qgC (pv 1) c4.cls x5 x6 xA x4 .nil qE (qa (pv 2) (qa (pv 0) qb)))))) (λ C0 s H fp pins=>(pv 0))))),?_⟩
 have lE:gp.length<=3:=ok.sp.length_le;have h8:2^gp.length<=8:=Yo (n:=2) (by decide) lE;refine⟨_,rfl,o,c0,dx,_,_,rfl,t.ins,c4.cls,c4.n2,rfl,gp,rfl,by omega,_,rfl,?_,?_,?_⟩
 ·generalize 2^gp.length=P2 at h8;omega
 ·generalize 2^gp.length=P2 at h8;omega
 have en:(((2^gp.length:Nat):Int)).toNat=2^gp.length:=Zn _;refine qlF (λ i=>((List.range i).filter (qaO gv gp (qQ (ws.map Wsh.side)) N)).map vN) rfl (λ i hi=>?_) ?_ ?_
 ·rw[Ut];have:=XZ (qaO gv gp (qQ (ws.map Wsh.side)) N) (List.range i);rw[Zv] at this;exact zl (by omega)
 ·intro i H2 D Y Z hi hD u0 sm hY hZ;refine⟨⟨rfl,rfl⟩,?_⟩;refine⟨_,rfl,o,dx,_,rfl,sm _ _ t.ins,rfl,_,rfl,_,rfl,o,gv,gp,ws,dx,a1,a2,a3,ps,N,i,(by show [V.ref o,V.int (N:Int),V.int (0+(i:Int))]=[V.ref o,V.int (N:Int),V.int (i:Int)];rw[Int.zero_add]),t.mono sm,ok,λ H3 g3=>⟨_,rfl,?_⟩⟩;have fs:(List.range (i+1)).filter (qaO gv gp (qQ (ws.map Wsh.side)) N)=(List.range i).filter (qaO gv gp (qQ (ws.map Wsh.side)) N)++(if qaO gv gp (qQ (ws.map Wsh.side)) N i=true then [i] else []):=by
   rw[U4,List.filter_append];congr 1
   rw[Ul];rfl
  refine qbM (λ c=>?_) (λ c=>?_)
  ·refine⟨_,rfl,hY _ _ (g3 _ _ u0) (sm.trans g3) ?_⟩;show List.map _ ((List.range (i+1)).filter _)=_
   rw[fs,Vh c,U2];show _++[V.int (i:Int)]=_++[V.int (0+(i:Int))]
   rw[Int.zero_add]
  ·refine hZ _ (g3 _ _ u0) (sm.trans g3) ?_;show List.map _ ((List.range (i+1)).filter _)=_
   rw[fs,Vi c,Uu]
 ·intro D H2 hD sm u0;rw[en] at u0;exact q D H2 sm hD u0
theorem qcF{as:List Addr}{l:List Nat}(h:as.map V.ref=l.map vN):as=[]:=by
 cases as with
 |nil=>rfl
 |cons a as=>cases l with
  |nil=>cases h
  |cons x l=>have:=(List.cons.inj h).1;cases this
def qm5(gv gp:List Nat)(F:List Pr)(H:Hp)(c:Addr)(N:Nat):Prop:=H c=some (.lst ((yf gv gp F N).map vN))
def qg8(CT:Addr):Sp:=λ vs H Q _=>∃(o:Addr)(gv gp:List Nat)(ws:List Wsh)(dx a1 a2 a3:Addr)(ps:List Addr),vs=[.ref o]/\TaskAt CT H o gv gp ws dx a1 a2 a3 ps/\TkOk gv gp ws /\
 ∀ r as H',qg H H'->H r=none->(∀ c∈as,H c=none)->H' r=some (.lst (as.map V.ref))->Paired (qm5 gv gp (qQ (ws.map Wsh.side)) H') as (List.range (2^gv.length))->Q (.ref r) H'
theorem qh3{H H':Hp}(g:qg H H'){c:Addr}(h:H' c=none):H c=none:=by
 cases e:H c with
 |none=>rfl
 |some u=>rw[g _ _ e] at h;cases h
theorem qjQ:FnScope ["self"] ["self"] (qh jW):=scF
theorem qjR{f x0 c0 i6:Addr}{fd x3 i9:FuncData}(F:Fun K "doing" "Task.doing" jW f fd)(T:Txt mg)(n6:Dp P w K mg base 1 x0 x3 ["letters"] (qbB) "row_count")(c4:TaskC K c0)(o7:Meth K c0 "doing_at" i6)(o8:FnOk P w K mg base CX0 3 i6 i9 ["self","given_row"] (qdu c0))(o6:qf K i9 ["self","given_row"] []): FnOk P w K mg base CX0 4 f fd ["self"] (qg8 c0):=by
 refine F.okd qjQ (λ cdv A outer s H vs Q E hr h=>?_);obtain⟨o,gv,gp,ws,dx,a1,a2,a3,ps,rfl,t,ok,q⟩:=h;have wZ:Room 3 _:=hr.mono (by decide);refine⟨_,(qe (qk (zK (csc (NY:=["given_row","self"]) (o:=1) (caps:=[0]) ["self"] rfl
    (by intro x hx;rw[Zf.mp hx];exact .inl rfl) (qav rfl rfl rfl jK) rfl) rfl
    (yi (by rfl) T.range (qa (zm n6 hr (qa (za (pv 0) (by rfl)) qb)) qb)) (λ C0 s H fp pins=>qp (i:=0) (show(["given_row","self"]:List Str).Nodup by decide +kernel) rfl (Or.inl rfl)) (λ C0 s H fp pins=>zz) (λ C0 s H fp pins=>(qgC (pv 1) c4.cls o7 o8 wZ o6 .nil qE (qa (pv 0) qb)))))),?_⟩
 have nC:gv.length<=3:=ok.sv.length_le;have h8:2^gv.length<=8:=Yo (n:=2) (by decide) nC;refine⟨_,rfl,o,c0,dx,_,_,rfl,t.ins,c4.cls,c4.n1,rfl,gv,rfl,by omega,_,rfl,?_,?_,?_⟩
 ·generalize 2^gv.length=P2 at h8;omega
 ·generalize 2^gv.length=P2 at h8;omega
 have en:(((2^gv.length:Nat):Int)).toNat=2^gv.length:=Zn _;refine y9 (((2^gv.length:Nat):Int)).toNat (λ i ys H2=>∃ as:List Addr,ys=as.map V.ref/\(∀ c∈as,H c=none)/\Paired (qm5 gv gp (qQ (ws.map Wsh.side)) H2) as (List.range i)) (λ D hD=>⟨[],rfl,by simp,.nil⟩) ?_ ?_ (λ H2 sm=>Qs _) ?_
 ·rintro i ys H2 hi ⟨as,rfl,hn,hp⟩
  have:=hp.length
  rw[Zv] at this;rw[Ut];exact zl (by omega)
 ·rintro i ys H2 D Y Z hi hD u0 sm ⟨as,rfl,hn,lJ⟩ hY hZ;refine⟨hi,?_⟩;rintro x H' ⟨rfl,rfl⟩;refine⟨⟨rfl,rfl⟩,?_⟩;refine⟨_,rfl,o,dx,_,rfl,sm _ _ t.ins,rfl,_,rfl,o,gv,gp,ws,dx,a1,a2,a3,ps,i,(by show [V.ref o,V.int (0+(i:Int))]=[V.ref o,V.int (i:Int)];rw[Int.zero_add]),t.mono sm,ok,λ c H3 g3 f3 e3=>?_⟩;have eD:=g3 _ _ u0;refine hY _ _ eD (sm.trans g3) ⟨as++[c],by rw[U2];rfl,λ c' M0=>?_,?_⟩
  ·rcases Ur.mp M0 with h | h
   ·exact hn c' h
   ·rw[Zf.mp h];exact qh3 sm f3
  rw[U4];have nD:c≠D:=λ h=>by rw[h,u0] at f3;cases f3
  refine zh ?_ (.cons (by show upd H3 D _ c=_;rw[qt nD];exact e3) .nil);by_cases has:as=[]
  ·subst has;generalize List.range i=L at lJ ⊢;cases lJ
   exact .nil
  ·refine L2.Paired.mapP lJ λ z N h=>?_
   have hz:H' z=some (.lst ((yf gv gp (qQ (ws.map Wsh.side)) N).map vN)):=h;show upd H3 D _ z=_
   rw[qt (λ q=>by rw[q,u0] at hz;exact has (qcF (HO.lst.inj (Option.some.inj hz))))];exact g3 _ _ hz
 ·rintro D H2 ys hD sm u0 ⟨as,rfl,hn,lJ⟩;rw[en] at lJ;exact q D as H2 sm hD hn u0 lJ
noncomputable def asW(x:Tr×Tr):Wsh:=⟨0,1,1,0,x.1,x.2⟩
theorem qjS(x:Tr×Tr):(asW x).text=qcC x:=by
 unfold asW qcC Wsh.text;simp
theorem qgu(xs:List (Tr×Tr)):((xs.map asW).map λ y=>vS y.text)=xs.map λ x=>vS (qcC x):=by
 rw[Qm];exact List.map_congr_left λ x _=>by show vS (asW x).text=_;rw[qjS]
theorem qkS{ls:List Nat}{x:Tr×Tr}(h:SOk ls x):(asW x).Ok ls:=by
 obtain⟨h1,h2,a,b⟩:=h;exact⟨⟨Qt _,by show 1<=100;decide,by show 1<=100;decide,Qt _⟩,h1,h2,by show x.1.nodes<=20;omega,by show x.2.nodes<=20;omega⟩
theorem qfo{ls:List Nat}(ρ:Nat->Bool)(xs:List (Tr×Tr))(h:∀ x∈xs,x.1.Of ls/\x.2.Of ls):qC ρ (qQ ((xs.map asW).map Wsh.side))=xs.any λ x=>x.1.val ρ != x.2.val ρ:=by
 have i8:∀(l:List (Tr×Tr)),(∀ x∈l,x.1.Of ls/\x.2.Of ls)->On ls (qQ ((l.map asW).map Wsh.side)):=λ l hl=>qa4 _ λ z hz=>by
  obtain⟨y,hy,rfl⟩:=Ql.mp hz;obtain⟨x,hx,rfl⟩:=Ql.mp hy;exact⟨Tr.on (hl x hx).1,Tr.on (hl x hx).2⟩
 have ind:∀ n,n<=xs.length->qC ρ (qQ (((xs.take n).map asW).map Wsh.side))=(xs.take n).any λ x=>x.1.val ρ != x.2.val ρ:=by
  intro n;induction n with
  |zero=>intro _;rfl
  |succ n ih =>
   intro hn;have hx:xs[n]?=some xs[n]:=Xw (by omega);have hm:=Ui (l:=xs) (n:=n) (by omega);have o1:=Tr.on (h _ hm).1;have o2:=Tr.on (h _ hm).2;rw[zj hx,U2,U2,List.any_append];show qC ρ (qQ (_++[(xs[n].1.form,xs[n].2.form)]))=_
   rw[qbh,qbX ρ (i8 _ λ x hx=>h x (Ym hx)).vf (o1.added o2).vf,ih (by omega),yD ρ o1.vf o2.vf,Tr.form_worth ρ (h _ hm).1,Tr.form_worth ρ (h _ hm).2];simp
 have:=ind xs.length (Qs _)
 rw[Uj] at this;exact this
theorem qjT{ls:List Nat}{xs:List (Tr×Tr)}(h:∀ x∈xs,x.1.Of ls/\x.2.Of ls):On ls (qQ ((xs.map asW).map Wsh.side)):=qa4 _ λ z hz=>by
 obtain⟨y,hy,rfl⟩:=Ql.mp hz;obtain⟨x,hx,rfl⟩:=Ql.mp hy;exact⟨Tr.on (h x hx).1,Tr.on (h x hx).2⟩
theorem qh4{H1 H2:Hp}{x dx:Addr}{o1 o2:HO}(hx:H1 x=none)(hd:H1 dx=none)(b:But x (upd (upd H1 dx o1) x o2) H2):qg H1 H2:=λ a o e=>by
 have n1:a≠x:=λ q=>by rw[q,hx] at e;cases e
 have n2:a≠dx:=λ q=>by rw[q,hd] at e;cases e
 exact b a o n1 (by rw[qt n1,qt n2];exact e)
theorem qdv:∀ m:Nat,List.range (m*2)=(List.range m).flatMap λ N=>[2*N,2*N+1]
 |0=>rfl
 |m+1=>by
  rw[U4,List.flatMap_append,<- qdv m,show(m+1)*2=(m*2+1)+1 by omega,U4,U4,Zp];rw[show m*2=2*m by omega];rfl
theorem qdw(n N b:Nat)(hb:b<2):qT (n+1) (2*N+b)=qT n N++[decide (b=1)]:=by
 refine List.ext_getElem? λ k=>?_
 by_cases h:k<n
 ·rw[qaE (by omega:k<n+1),Xn (by rw[zE];exact h),qaE h];rw[show n+1-1-k=(n-1-k)+1 by omega,Qk,Qj (2^(n-1-k)) 2,<- XJ,show(2*N+b) / 2=N by omega]
 ·by_cases e:k=n
  ·subst e;rw[qaE (by omega:k<k+1),Xi (by rw[zE];omega),zE,Nat.sub_self];rw[show k+1-1-k=0 by omega,Nat.pow_zero,Nat.div_one];show some (decide ((2*N+b) % 2=1))=some (decide (b=1))
   congr 1
   refine decide_eq_decide.mpr ?_;omega
  ·rw[XX (by rw[zE];omega),XX (by rw[Za,zE,XS];omega)]
theorem qaa:∀ n:Nat,yR n=(List.range (2^n)).map (qT n)
 |0=>rfl
 |n+1=>by
  rw[yR,qaa n,Qk,qdv,List.map_flatMap,List.flatMap_map];refine congrArg (λ f=>List.flatMap f _) (funext λ N=>?_);show [qT n N++[false],qT n N++[true]]=[qT (n+1) (2*N),qT (n+1) (2*N+1)]
  rw[qdw n N 1 (by decide),show 2*N=2*N+0 from rfl,qdw n N 0 (by decide)];rfl
theorem qfp{a b:List Nat}{r q:List Bool}(h:a.length=r.length):qbq (a++b) (r++q)=qbq a r++qbq b q:=by
 unfold qbq;rw[U1 h,U2]
theorem qfq{K:W.Frag}{H H':Hp}{as:List Addr}{ls:List Nat}{r:List Bool}(g:qg H H')(pr:Paired (λ c (kv:Key×V)=>H c=some (.tup [kV kv.1,kv.2])) as (zI ls r)):Paired (λ c (kv:Str×V)=>SqT K H' c [.str kv.1,kv.2]) as (qbq ls r):=
 jl (F:=λ c (kv:Key×V)=>H c=some (.tup [kV kv.1,kv.2])) (G:=λ c (kv:Str×V)=>SqT K H' c [.str kv.1,kv.2]) (f:=λ x:Nat×Bool=>((Sum.inr (ql [x.1]):Key),V.bl x.2)) (g:=λ x=>(ql [x.1],V.bl x.2)) (λ a c h=>SqT.of (g _ _ h)) pr
theorem qkT(xs:List (Tr×Tr))(ρ:Nat->Bool):((xs.map λ x=>decide (V.bl (x.1.val ρ)=V.bl (x.2.val ρ))).all id)=!(xs.any λ x=>x.1.val ρ != x.2.val ρ):=by
 induction xs with
 |nil=>rfl
 |cons x l ih =>
  rw[Jz,List.all_cons,J0,ih,Bool.not_or];congr 1
  cases x.1.val ρ <;> cases x.2.val ρ <;> rfl
theorem qh5(f:Nat->Bool)(i:Nat):(List.range (i+1)).filter f=(List.range i).filter f++(if f i=true then [i] else []):=by
 rw[U4,List.filter_append];congr 1
 rw[Ul];rfl
noncomputable def qbj(gv gp:List Nat)(xs:List (Tr×Tr))(N:Nat):List Nat:=(List.range (2^gp.length)).filter λ M=>!(xs.any λ x=>x.1.val (ye gv gp N M) != x.2.val (ye gv gp N M))
def qm6(gv gp:List Nat)(xs:List (Tr×Tr))(H:Hp)(l:Addr)(N:Nat):Prop:=H l=some (.lst ((qbj gv gp xs N).map vN))
def qcG:Sp:=λ vs H Q _=>∃(gv gp:List Nat)(r:Addr)(ps:List Addr)(xs:List (Tr×Tr)),vs=[vS gv,vS gp,.ref r]/\(gv++gp).Nodup/\gv.length<=3/\gp.length<=3/\H r=some (.lst (ps.map V.ref))/\Paired (WP7 H) ps xs/\xs.length<=10/\(∀ x∈xs,x.1.Of (gv++gp)/\x.2.Of (gv++gp)/\x.1.ht<=20/\x.2.ht<=20) /\
 ∀ r' ls H',qg H H'->H' r'=some (.lst (ls.map V.ref))->Paired (qm6 gv gp xs H') ls (List.range (2^gv.length))->Q (.ref r') H'
theorem yn:FnScope [sA1,sA7,sA5,sB0,sB2,"_law_rows_here","_law_number","_law_more","_law_both"] [sA1,sA7,sA5] (qh vH):=scF
theorem qh6{f dH dG:Addr}{fd dQ dM:FuncData}(F:Fun K sC4 sC4 vH f fd)(T:Txt mg)(B8:Dp P w K mg base 1 dH dQ [sA3] (qed) sC7)(B6:Dp P w K mg base 20 dG dM [sA2,sB2] (qcz 20) sB1): FnOk P w K mg base CX0 21 f fd [sA1,sA7,sA5] (qcG):=by
 refine F.okd yn (λ cdv A outer s H vs Q E hr h=>?_);obtain⟨gv,gp,r,ps,xs,rfl,nd,lv,lp,L1,pr,l10,ok,q⟩:=h;refine⟨_,(qd (qr (i:=3) yn.nd rfl (Or.inl rfl) (yJ qb))
  (qd (zZ U7 rfl (zT (zm B8 hr (qa (pv 0) qb))) (qp (i:=4) yn.nd rfl (Or.inl rfl))
  (qd (qr (i:=5) yn.nd rfl (Or.inl rfl) (yJ qb))
  (qd (qdU (n:=2) U7 rfl (qkb (by rfl) T.enumerate (qa (zm B8 hr (qa (pv 1) qb)) qb)) (qF (qp (i:=6) yn.nd rfl (Or.inl rfl)) (qF (qp (i:=7) yn.nd rfl (Or.inl rfl)) zJ))
  (qd (qr (i:=8) yn.nd rfl (Or.inr rfl) (zr (ji rfl) (by rfl) T.dict qbx (qa (qm qbL (jN (by rfl) (by rfl) T.list (pv 4)) (jN (by rfl) (by rfl) T.list (pv 7))) qb)))
  (qe (q8 (j8 (qz (qbc rfl) (by rfl) T.all qi4 (qa (zK (csc (NY:=[sB9,sB5,"_law_both"]) (o:=2) (caps:=[8]) ["_law_both"] rfl
    (by intro x hx;rw[Zf.mp hx];exact .inl rfl) (qav rfl rfl rfl jK) rfl) rfl
    (zT (pv 2)) (λ C0 s H fp pins=>(show PG _ _ (qic K 2 (qac (jr 0) (qac (jr 1) qib))) from qaQ (n:=2) rfl (qF (qp (i:=0) (show([sB9,sB5,"_law_both"]:List Str).Nodup by decide +kernel) rfl (Or.inl rfl) (hf:=Or.inr rfl)) (qF (qp (i:=1) (show([sB9,sB5,"_law_both"]:List Str).Nodup by decide +kernel) rfl (Or.inl rfl) (hf:=Or.inr rfl)) zJ)))) (λ C0 s H fp pins=>zz) (λ C0 s H fp pins=>(jx zq (zm B6 hr (qa (pv 0) (qa (pv 2) qb))) (zm B6 hr (qa (pv 1) (qa (pv 2) qb))) (qA _)))) qb)))
   (qe (zS (yQ XB Xz X0 zu (pv 5) (qa (pv 6) qb)))) qD))))
  (qe (zS (yQ XB Xz X0 zu (pv 3) (qa (pv 5) qb)))))))
  (qe (qk (pv 3))))),?_⟩
 refine⟨Qt _,λ tb V0=>?_⟩;have uV:gv.Nodup:=(Zq.mp nd).1;have uW:gp.Nodup:=(Zq.mp nd).2.1;have h8:2^gv.length<=8:=Yo (n:=2) (by decide) lv;have p8:2^gp.length<=8:=Yo (n:=2) (by decide) lp;refine⟨_,rfl,gv,rfl,uV,by omega,λ r1 ds H1 g1 e1 ra=>?_⟩;rw[qaa] at ra;have et1:=g1 _ _ (qc (H:=H) (a:=tb) (o:=.lst []));have ld:ds.length=2^gv.length:=by have:=Yz ra;rw[Ut,Zv] at this;exact this
 have pos:0<2^gv.length:=Nat.pow_pos (by decide);have qej:∀{Hh:Hp}{b c:Addr}{l:List Addr}{vs:List V},Hh b=some (.lst (l.map V.ref))->0<l.length->Hh c=some (.lst [])->b≠c:=λ{Hh b c l vs} e h e' q=>by
  rw[q,e'] at e
  have:=HO.lst.inj (Option.some.inj e)
  have:=congrArg List.length this
  rw[Ut,List.length_nil] at this;omega
 have n1:r1≠tb:=qej (vs:=[]) e1 (by omega) et1;have gH1:=(qg.up V0 (o:=.lst [])).trans g1;refine⟨r1,rfl,⟨_,SqL.of e1⟩,?_⟩;refine vc (K:=K) (xs:=ds.map V.ref) (λ i σ H2=>∃(ls:List Addr)(v4 v5 v6 v7 v8:Option V),σ=[some (vS gv),some (vS gp),some (.ref r),some (.ref tb),v4,v5,v6,v7,v8]/\qg H H2/\H2 tb=some (.lst (ls.map V.ref))/\Paired (qm6 gv gp xs H2) ls (List.range i)/\H2 r1=some (.lst (ds.map V.ref))/\yP H2 gv ds ((List.range (2^gv.length)).map (qT gv.length)))
  ⟨[],none,none,none,none,none,rfl,gH1,et1,.nil,e1,ra⟩ (λ i σ H2 hi ⟨_,_,_,_,_,_,_,_,_,_,h,_⟩=>SqL.of h) ?_ ?_
 ·rintro i x σ H2 hx ⟨ls,v4,v5,v6,v7,v8,rfl,g2,e2,pf,er,uL⟩;obtain⟨d,hd,rfl⟩:=qj hx;have hi:i<ds.length:=kQ hd;obtain⟨L6,nN,hdr⟩:=qX uL i d hd;have wU:L6=qT gv.length i:=by
   rw[Zl,Y2 (by omega)] at nN;exact(Option.some.inj nN).symm
  subst wU;refine⟨Qt _,λ m hm=>?_⟩;have g2m:=g2.to hm (o:=.lst []);refine⟨_,rfl,gp,rfl,uW,by omega,λ r2 V7 H3 g3 e3 rb=>?_⟩;rw[qaa] at rb;have em:=g3 _ _ (qc (H:=H2) (a:=m) (o:=.lst []));have gA:=(qg.up hm (o:=.lst [])).trans g3;have ld2:V7.length=2^gp.length:=by have:=Yz rb;rw[Ut,Zv] at this;exact this
  have wG:gv.length=(qT gv.length i).length:=(zE _ _).symm;refine⟨r2,rfl,⟨_,SqL.of e3⟩,?_⟩;refine qiS (K:=K) (xs:=V7.map V.ref) (λ j σ H4=>∃ v6 v7 v8:Option V,σ=[some (vS gv),some (vS gp),some (.ref r),some (.ref tb),some (.ref d),some (.ref m),v6,v7,v8]/\qg H2 H4/\H4 m=some (.lst (((List.range j).filter λ M=>!(xs.any λ x=>x.1.val (ye gv gp i M) != x.2.val (ye gv gp i M))).map vN))/\(r2≠m/\H4 r2=some (.lst (V7.map V.ref)))/\yP H4 gp V7 ((List.range (2^gp.length)).map (qT gp.length)))
   ⟨v6,v7,v8,rfl,gA,em,⟨qej (vs:=[]) e3 (by have:0<2^gp.length:=Nat.pow_pos (by decide);omega) em,e3⟩,rb⟩ (λ j σ H4 hj ⟨_,_,_,_,_,_,h,_⟩=>SqL.of h.2) ?_ ?_
  ·rintro j x σ H4 hx ⟨v6,v7,v8,rfl,g4,tE,lQ,sB⟩;obtain⟨d2,V4,rfl⟩:=qj hx;have hj:j<V7.length:=kQ V4;obtain⟨rq,hrq,hdq⟩:=qX sB j d2 V4;have wV:rq=qT gp.length j:=by
    rw[Zl,Y2 (by omega)] at hrq;exact(Option.some.inj hrq).symm
   subst wV;have lrp:gp.length=(qT gp.length j).length:=(zE _ _).symm;have lb:(gv++gp).length=(qT gv.length i++qT gp.length j).length:=by rw[Za,Za,<- wG,<- lrp]
   refine⟨_,_,rfl,_,_,rfl,rfl,?_⟩;refine⟨_,rfl,d,_,rfl,g4 _ _ hdr,λ l as H5 g5 el pra=>?_⟩;refine⟨_,rfl,d2,_,rfl,g5 _ _ hdq,λ l' rO H6 g6 el' prb=>?_⟩;have la:as.length<=3:=by rw[Yz pra,qaM wG];exact lv
   have la':rO.length<=3:=by rw[Yz prb,qaM lrp];exact lp
   refine⟨l,l',_,_,rfl,rfl,g6 _ _ el,el',by rw[Ut,Ut];exact qu (by omega),λ l3 lN=>?_⟩;refine⟨l3,as++rO,qbq (gv++gp) (qT gv.length i++qT gp.length j),rfl,SqL.of (by rw[qc,U2]),?_,λ o1 ho=>?_⟩
   ·rw[qfp wG];exact zh (qfq (g6.to lN) pra) (qfq (qg.up lN) prb)
   rw[qg6,qdp nd lb];have g47:=(((g5.trans g6).to lN (o:=.lst (as.map V.ref++rO.map V.ref))).to ho (o:=.dK (zI (gv++gp) (qT gv.length i++qT gp.length j))));have eo:upd (upd H6 l3 (.lst (as.map V.ref++rO.map V.ref))) o1 (.dK (zI (gv++gp) (qT gv.length i++qT gp.length j))) o1=some (.dK (zI (gv++gp) (qT gv.length i++qT gp.length j))):=qc;generalize upd (upd H6 l3 (.lst (as.map V.ref++rO.map V.ref))) o1 (.dK (zI (gv++gp) (qT gv.length i++qT gp.length j)))=H7 at g47 eo ⊢;have gH7:=(g2.trans g4).trans g47;have hv:∀ c∈gv++gp,zt (zI (gv++gp) (qT gv.length i++qT gp.length j)) (.inr (ql [c]))=some (.bl (ye gv gp i j c)):=λ c hc=>by rw[qcB lb,Vh hc];rfl
   refine⟨_,rfl,r,rfl,⟨_,SqL.of (gH7 _ _ L1)⟩,?_⟩;refine qcc (SqL.of (gH7 _ _ L1)) (λ n=>(xs.take n).map λ x=>V.bl (decide (V.bl (x.1.val (ye gv gp i j))=V.bl (x.2.val (ye gv gp i j))))) rfl (λ n hn=>?_) ?_ ?_
   ·rw[Ut,Uc];exact zl (by omega)
   ·intro n v H8 D2 Y Z cM bV hH8 rT hY hZ;obtain⟨p,hp,rfl⟩:=qj cM;obtain⟨x,hx,wp⟩:=qX pr n p hp;obtain⟨a,b,tI,o1',o2'⟩:=wp.mono (qP (gH7.trans rT));obtain⟨t9,u9,th,uh⟩:=ok x (Yh hx);refine⟨p,_,rfl,SqT.of tI,rfl,_,_,rfl,_,_,rfl,rfl,⟨rfl,rfl⟩,?_⟩;refine⟨_,rfl,_,rfl,a,o1,x.1,_,ye gv gp i j,gv++gp,rfl,o1',th,t9,rT _ _ eo,hv,λ Ha ga=>?_⟩;refine⟨_,rfl,_,rfl,b,o1,x.2,_,ye gv gp i j,gv++gp,rfl,o2'.mono (qP ga),uh,u9,ga _ _ (rT _ _ eo),hv,λ Hb gb=>?_⟩;exact⟨rfl,hY _ _ ((ga.trans gb) _ _ hH8) (rT.trans (ga.trans gb)) (yF (f:=λ x:Tr×Tr=>V.bl (decide (V.bl (x.1.val (ye gv gp i j))=V.bl (x.2.val (ye gv gp i j))))) hx)⟩
   intro D H8 hD s8 h8;rw[Ut,show ps.length=xs.length from pr.length,Uj] at h8;have iF:=g47.trans s8;have tD:=iF _ _ tE;refine⟨D,xs.map λ x=>decide (V.bl (x.1.val (ye gv gp i j))=V.bl (x.2.val (ye gv gp i j))),rfl,SqL.of (by rw[h8,Qm];rfl),_,rfl,?_⟩;rw[qkT];have fr:=qh5 (λ M=>!(xs.any λ x=>x.1.val (ye gv gp i M) != x.2.val (ye gv gp i M))) j;refine qbM (λ c=>?_) (λ c=>?_)
   ·refine⟨_,rfl,.inl ⟨rfl,_,SqL.of tD⟩,_,rfl,m,_,_,rfl,rfl,tD,?_,?_⟩
    ·rw[Ut];have:=XZ (λ M=>!(xs.any λ x=>x.1.val (ye gv gp i M) != x.2.val (ye gv gp i M))) (List.range j);rw[Zv] at this;exact zl (by omega)
    refine⟨_,_,_,rfl,(g4.trans iF).at hm,?_,⟨lQ.1,by rw[qt lQ.1];exact iF _ _ lQ.2⟩,(sB.mono iF).upd tD⟩;rw[qc,fr,Vh c,U2];rfl
   ·refine⟨_,_,_,rfl,g4.trans iF,?_,⟨lQ.1,iF _ _ lQ.2⟩,sB.mono iF⟩;rw[tD,fr,Vi c,Uu]
  ·rintro σ H4 ⟨v6,v7,v8,rfl,g4,tE,lQ,sB⟩;rw[Ut,ld2] at tE;have e24:=g4 _ _ e2;have nmt:m≠tb:=λ h=>by rw[h,e2] at hm;cases hm
   refine⟨_,rfl,.inl ⟨rfl,_,SqL.of e24⟩,_,rfl,tb,_,_,rfl,rfl,e24,?_,?_⟩
   ·rw[Ut];have:=pf.length;rw[Zv] at this;exact zl (by omega)
   refine⟨ls++[m],_,_,_,_,_,rfl,(g2.trans g4).at V0,by rw[qc,U2];rfl,?_,by rw[qt n1];exact g4 _ _ er,(uL.mono g4).upd e24⟩;rw[U4];refine zh ?_ (.cons (by show upd H4 tb _ m=_;rw[qt nmt];exact tE) .nil);by_cases has:ls=[]
   ·subst has;generalize List.range i=L at pf ⊢;cases pf
    exact .nil
   ·refine L2.Paired.mapP pf λ z N h=>?_
    have hz:H2 z=some (.lst ((qbj gv gp xs N).map vN)):=h;show upd H4 tb _ z=_
    rw[qt (λ q=>by rw[q,e2] at hz;exact has (qcF (HO.lst.inj (Option.some.inj hz))))];exact g4 _ _ hz
 ·rintro σ H2 ⟨ls,v4,v5,v6,v7,v8,rfl,g2,e2,pf,er,uL⟩;rw[Ut,ld] at pf;exact⟨_,rfl,q tb ls H2 g2 e2 pf⟩
noncomputable def vO(ds:List (List Nat)):Int:=ds.foldl (λ m d=>m*(d.length:Int)) 1
theorem qcH{ds:List (List Nat)}{i:Nat}{d:List Nat}(h:ds[i]?=some d):vO (ds.take (i+1))=vO (ds.take i)*(d.length:Int):=by
 unfold vO;rw[zj h,List.foldl_append];rfl
theorem qm7{n:Nat}{i:Int}(h:n<=8):qjZ i (n:Int):=by
 have a:(0:Int)<=(n:Int):=Int.natCast_nonneg n;have b:(n:Int)<=8:=by omega
 exact .inr ⟨Int.lt_of_lt_of_le (by decide) a,Int.lt_of_le_of_lt b (by decide)⟩
def qgv(K:W.Frag):Sp:=λ vs H Q _=>∃(r:Addr)(ls:List Addr)(ds:List (List Nat)),vs=[.ref r]/\H r=some (.lst (ls.map V.ref))/\Paired (λ l (d:List Nat)=>H l=some (.lst (d.map vN))) ls ds/\(∀ d∈ds,d.length<=8)/\Q (.int (vO ds)) H
theorem qbC:FnScope [sB0,sB8,"_law_rows_here"] [sB0] (qh vI):=scF
theorem qkU{f :Addr}{fd :FuncData}(F:Fun K sC5 sC5 vI f fd)(T:Txt mg): FnOk P w K mg base CX0 1 f fd [sB0] (qgv K):=by
 refine F.okd qbC (λ cdv A outer s H vs Q E hr h=>?_);obtain⟨r,ls,ds,rfl,L1,pr,l8,q⟩:=h;refine⟨_,(qd (qr (i:=1) qbC.nd rfl (Or.inl rfl) qi)
  (qd (zZ U7 rfl (zT (pv 0)) (qp (i:=2) qbC.nd rfl (Or.inl rfl))
  (qe (qr (i:=1) qbC.nd rfl (Or.inl rfl) (qm jm (pv 1) (qz qy (by rfl) T.len Js (qa (pv 2) qb))))))
  (qe (qk (pv 1))))),?_⟩
 refine⟨_,rfl,r,rfl,⟨_,SqL.of L1⟩,?_⟩;refine vc (K:=K) (xs:=ls.map V.ref) (λ i σ H1=>∃ v:Option V,σ=[some (.ref r),some (.int (vO (ds.take i))),v]/\H1=H) ⟨none,rfl,rfl⟩ (λ i σ H1 hi ⟨_,_,e⟩=>by rw[e];exact SqL.of L1) ?_ ?_
 ·rintro i x σ H1 hx ⟨v,rfl,rfl⟩;obtain⟨l,hl,rfl⟩:=qj hx;obtain⟨d,hd,e⟩:=qX pr i l hl
  have:=l8 d (Yh hd)
  refine⟨_,rfl,_,rfl,l,_,rfl,.inl (SqL.of e),_,_,rfl,rfl,by rw[Ut];exact qm7 this,?_⟩;refine⟨some (.ref l),?_,rfl⟩;rw[qcH hd,Ut];rfl
 ·rintro σ H1 ⟨v,rfl,rfl⟩;rw[Ut,show ls.length=ds.length from pr.length,Uj];exact⟨_,rfl,q⟩
theorem qcI(gv gp:List Nat)(F:List Pr)(N:Nat)(h:gp.length<=3):(yf gv gp F N).length<=8:=by
 have h8:2^gp.length<=8:=Yo (n:=2) (by decide) h
 have:=XZ (qaO gv gp F N) (List.range (2^gp.length))
 rw[Zv] at this;unfold yf;omega
def qjU(CT:Addr):Sp:=λ vs H Q _=>∃(o:Addr)(gv gp:List Nat)(ws:List Wsh)(dx a1 a2 a3:Addr)(ps:List Addr),vs=[.ref o]/\TaskAt CT H o gv gp ws dx a1 a2 a3 ps/\TkOk gv gp ws/\∀ H',qg H H'->Q (.int (vO ((List.range (2^gv.length)).map (yf gv gp (qQ (ws.map Wsh.side)))))) H'
theorem qeh:FnScope ["task","count","doing_there"] ["task"] (qh kZ):=scF
theorem ql4{f c0 n9:Addr}{fd p5:FuncData}(F:Fun K "how_many" "how_many" kZ f fd)(T:Txt mg)(c4:TaskC K c0)(u5:Meth K c0 "doing" n9)(u6:FnOk P w K mg base CX0 4 n9 p5 ["self"] (qg8 c0))(u4:qf K p5 ["self"] []): FnOk P w K mg base CX0 5 f fd ["task"] (qjU c0):=by
 refine F.okd qeh (λ cdv A outer s H vs Q E hr h=>?_);obtain⟨o,gv,gp,ws,dx,a1,a2,a3,ps,rfl,t,tok,q⟩:=h;have wY:Room 4 _:=hr.mono (by decide);refine⟨_,(qd (qr (i:=1) qeh.nd rfl (Or.inl rfl) qi)
  (qd (zZ U7 rfl (zT (qB (pv 0) c4.cls u5 u6 wY u4 .nil qE)) (qp (i:=2) qeh.nd rfl (Or.inl rfl))
  (qe (qr (i:=1) qeh.nd rfl (Or.inl rfl) (qm jm (pv 1) (qz qy (by rfl) T.len Js (qa (pv 2) qb))))))
  (qe (qk (pv 1))))),?_⟩
 refine⟨_,rfl,o,dx,_,rfl,t.ins,rfl,o,gv,gp,ws,dx,a1,a2,a3,ps,rfl,t,tok,λ r as H1 g1 f1 fa e1 pr=>?_⟩;have lp:gp.length<=3:=tok.sp.length_le;refine⟨r,rfl,⟨_,SqL.of e1⟩,?_⟩;refine vc (K:=K) (xs:=as.map V.ref) (λ i σ H2=>∃ v:Option V,σ=[some (.ref o),some (.int (vO (((List.range (2^gv.length)).map (yf gv gp (qQ (ws.map Wsh.side)))).take i))),v]/\H2=H1) ⟨none,rfl,rfl⟩ (λ i σ H2 hi ⟨_,_,e⟩=>by rw[e];exact SqL.of e1) ?_ ?_
 ·rintro i x σ H2 hx ⟨v,rfl,rfl⟩;obtain⟨l,hl,rfl⟩:=qj hx;obtain⟨N,hN,e⟩:=qX pr i l hl;have e':H2 l=some (.lst ((yf gv gp (qQ (ws.map Wsh.side)) N).map vN)):=e;have l8:=qcI gv gp (qQ (ws.map Wsh.side)) N lp;refine⟨_,rfl,_,rfl,l,_,rfl,.inl (SqL.of e'),_,_,rfl,rfl,by rw[Ut];exact qm7 l8,?_⟩;refine⟨some (.ref l),?_,rfl⟩;rw[qcH (show((List.range (2^gv.length)).map (yf gv gp (qQ (ws.map Wsh.side))))[i]?=some (yf gv gp (qQ (ws.map Wsh.side)) N) by rw[Zl,hN];rfl),Ut];rfl
 ·rintro σ H2 ⟨v,rfl,rfl⟩;rw[Ut,show as.length=((List.range (2^gv.length)).map (yf gv gp (qQ (ws.map Wsh.side)))).length by rw[Ut];exact pr.length,Uj];exact⟨_,rfl,q _ g1⟩
def qg9(K:W.Frag):Sp:=λ vs H Q _=>∃(a:Addr)(ns:List Int),vs=[.ref a]/\SqL K H a (ns.map V.int)/\ns.length<=63/\∀ H',Q (.bl true) H'
theorem qbk{α β γ:Type}{R:α->β->Prop}{S:α->γ->Prop}{f:β->γ}(h:∀ a b,R a b->S a (f b)):∀{xs:List α}{ys:List β},Paired R xs ys->Paired S xs (ys.map f)
 |_,_,.nil=>.nil
 |_,_,.cons r t=>.cons (h _ _ r) (qbk h t)
theorem qcJ{gv gp:List Nat}{xs:List (Tr×Tr)}(h:∀ x∈xs,x.1.Of (gv++gp)/\x.2.Of (gv++gp))(N:Nat):yf gv gp (qQ ((xs.map asW).map Wsh.side)) N=qbj gv gp xs N:=by
 unfold yf qbj;congr 1
 funext M
 unfold qaO;rw[qfo _ xs h]
theorem qkV:bootBuiltins "bool"=some (.type "bool"):=by decide +kernel
theorem ql5:bootBuiltins "int"=some (.type "int"):=by decide +kernel
theorem qdx:bootBuiltins "isinstance"=some (.builtin "isinstance"):=by decide +kernel
theorem vP:FnScope [sA0,sA1,sA7,sA5,"_law_task","_law_due","_law_turn","_law_found"] [sA0] (qh qdj):=scF
theorem ql6{f aJ aG aK aL T0 c0 C8:Addr}{fd aT aQ aU aV T5 K7:FuncData}(F:Fun K "law" "law" qdj f fd)(T:Txt mg)(N0:mg "int"=none)(E2:Dp P w K mg base 22 aJ aT [sA0] (qeg K) sC2)(D8:Dp P w K mg base 21 aG aQ [sA5] (qcD) sC3)(E3:Dp P w K mg base 21 aK aU [sA1,sA7,sA5] (qcG) sC4)(E4:Dp P w K mg base 1 aL aV [sB0] (qgv K) sC5)(A8:Dp P w K mg base 5 T0 T5 ["task"] (qjU c0) "how_many")(c4:TaskC K c0)(O8:Mk K c0 C8)(P0:FnOk P w K mg base CX0 35 C8 K7 ["self","givens","gaps","wishes"] (qjB K c0))(O6:qf K K7 ["self","givens","gaps","wishes"] [])(W2:mg "Task"=some (.ref c0)): FnOk P w K mg base CX0 37 f fd [sA0] (qg9 K):=by
 refine F.okd vP (λ cdv A outer s H vs Q E hr h=>?_);obtain⟨a,ns,rfl,hS,h63,q⟩:=h;have nR:Room 36 _:=hr.mono (by decide);refine⟨_,(qd (qid (zm E2 hr (qa (pv 0) qb)) (qaQ (n:=3) rfl (qF (qp (i:=1) vP.nd rfl (Or.inl rfl)) (qF (qp (i:=2) vP.nd rfl (Or.inl rfl)) (qF (qp (i:=3) vP.nd rfl (Or.inl rfl)) zJ)))))
  (qd (qr (i:=4) vP.nd rfl (Or.inl rfl) (vQ O8 P0 nR (by rfl) W2 O6 .nil qE (qa (pv 1) (qa (pv 2) (qa (zm D8 hr (qa (pv 3) qb)) qb)))))
  (qd (qr (i:=5) vP.nd rfl (Or.inl rfl) (zm E4 hr (qa (zm E3 hr (qa (pv 1) (qa (pv 2) (qa (pv 3) qb)))) qb)))
  (qd (zZ U7 rfl (yi (by rfl) T.range (qa qi qb)) (qp (i:=6) vP.nd rfl (Or.inl rfl))
  (qd (qr (i:=7) vP.nd rfl (Or.inl rfl) (zm A8 hr (qa (pv 4) qb)))
  (qe (q8 (PW.pt (qcV (qfs (j8 (qz (r:=qlN K) qeZ (by rfl) T.isinstance qdx (qa (pv 7) (qa (qgw (v:=.ty "int") (by rfl) N0 ql5 rfl) qb)))))
   (qcV (j8 (qz (r:=qlN K) qeZ (by rfl) T.isinstance qdx (qa (pv 7) (qa (qgw (v:=.ty "bool") (by rfl) T.bool qkV rfl) qb))))
   (qbE (qv qii (pv 7) (pv 5) (qA _))))))
   (qe (qk qem)) qD))))
  (qe (qk qem)))))),?_⟩
 refine⟨_,rfl,a,ns,rfl,⟨hS,h63⟩,λ p r gv gp ps xs H1 g1 ep eK eL er pr lx ok=>?_⟩;refine⟨p,_,rfl,SqT.of ep,rfl,_,_,rfl,_,_,rfl,_,_,rfl,rfl,?_⟩;obtain⟨wW,nB,l9⟩:=qa5 eK eL;have nC:gv.length<=3:=eK.length_le;have lE:gp.length<=3:=eL.length_le;have ndl:=zx Jx wW;have nY:∀ x∈xs,x.1.Of (gv++gp)/\x.2.Of (gv++gp):=λ x hx=>⟨(ok x hx).1,(ok x hx).2.1⟩
 have hwt:∀ x∈xs,x.1.wt<=19/\x.2.wt<=19:=λ x hx=>by
  obtain⟨_,_,b3,b4⟩:=ok x hx
  have:=x.1.wt_nodes
  have:=x.2.wt_nodes
  exact⟨by omega,by omega⟩
 refine⟨_,rfl,_,rfl,_,rfl,r,ps,xs,rfl,er,pr,by omega,λ x hx=>?_,λ rw H4 g4 e4=>?_⟩
 ·obtain⟨b1,b2⟩:=nY x hx;obtain⟨b3,b4⟩:=hwt x hx;exact⟨b1.upL l9,b2.upL l9,by omega,by omega⟩
 refine λ x dx hx L3 E7=>?_
 have e5:upd (upd H4 dx (.own x)) x (.ins c0 dx []) rw=some (.lst (xs.map λ x=>vS (qcC x))):=by
  rw[qt (λ q=>by rw[q,hx] at e4;cases e4),qt (λ q=>by rw[q,L3] at e4;cases e4)];exact e4
 refine⟨x,dx,rw,gv,gp,xs.map asW,rfl,qc,SqL.of (by rw[qgu];exact e5),eK,eL,by rw[Ut];omega,λ y hy=>?_,λ a1 a2 a3 qs H5 b5 na1 na2 tk=>⟨rfl,?_⟩⟩
 ·obtain⟨z,hz,rfl⟩:=Ql.mp hy;exact qkS (ok z hz)
 have g5:=qh4 hx L3 b5;have tok:TkOk gv gp (xs.map asW):=⟨eK,eL,qjT nY⟩;have e25:=(g4.trans g5) _ _ er;have pr5:=zA (λ p x h=>WP7.mono h (qP (g4.trans g5))) pr;refine⟨_,rfl,_,rfl,_,rfl,gv,gp,r,ps,xs,rfl,ndl,nC,lE,e25,pr5,by omega,λ y hy=>?_,λ r' ls H6 g6 e6 pf=>?_⟩
 ·obtain⟨b1,b2⟩:=nY y hy;obtain⟨b3,b4⟩:=hwt y hy
  have:=y.1.ht_wt
  have:=y.2.ht_wt
  exact⟨b1,b2,by omega,by omega⟩
 refine⟨r',ls,(List.range (2^gv.length)).map (qbj gv gp xs),rfl,e6,qbk (S:=λ l (d:List Nat)=>H6 l=some (.lst (d.map vN))) (f:=qbj gv gp xs) (λ l N h=>h) pf,λ d hd=>?_,?_⟩
 ·obtain⟨N,_,rfl⟩:=Ql.mp hd;rw[<- qcJ nY];exact qcI gv gp _ N lE
 have ePr:vO ((List.range (2^gv.length)).map (yf gv gp (qQ ((xs.map asW).map Wsh.side))))=vO ((List.range (2^gv.length)).map (qbj gv gp xs)):=congrArg vO (List.map_congr_left λ N _=>qcJ nY N);generalize vO ((List.range (2^gv.length)).map (qbj gv gp xs))=due at ePr ⊢;refine⟨_,rfl,by decide,by decide,?_⟩;refine js (λ i σ H'=>∃ v6 v7:Option V,σ=[some (.ref a),some (vS gv),some (vS gp),some (.ref r),some (.ref x),some (.int due),v6,v7]/\qg H5 H') ⟨none,none,rfl,g6⟩ ?_ ?_
 ·rintro i σ H7 hi ⟨v6,v7,rfl,g7⟩;refine⟨_,rfl,x,gv,gp,xs.map asW,dx,a1,a2,a3,qs,rfl,tk.mono g7,tok,λ H8 g8=>?_⟩;rw[ePr];refine⟨_,rfl,_,_,_,true,rfl,TyOf.int _,rfl,_,rfl,?_⟩;refine ya ?_;refine⟨_,rfl,_,_,_,false,rfl,TyOf.int _,rfl,_,rfl,?_⟩;refine ya ?_;refine⟨_,rfl,_,rfl,rfl,_,rfl,?_⟩;rw[show(!decide (V.int due=V.int due))=false by rw[Jt rfl];rfl];refine ya ?_;exact⟨_,_,rfl,g7.trans g8⟩
 ·rintro σ H7 ⟨v6,v7,rfl,g7⟩;exact q H7
end
def NI(K:W.Frag)(n:Str)(a:Addr):Prop:=W.nsIn K mainGlobals n=some (some (.ref a))
theorem all_mk{l:W.OpenLaw}{w:World}{K:W.Frag}{h:Heap}{mg:Str->Option Value}{fa al f1 f2 f3 f4 f5 f6 f7 f8 f9 f10 f11 f12 f13 f14 f15 f16 f17 f18 f19 f20 f21 f22 f23 f24 f25 f26 f27 f28 f29 f30 f31 f32 f33 f34 f35 f36 f37 fQ fH fJ fG fM fC fK pK pI pJ pH aM pR pN pO pM pQ pL pP C9 aO O1 C8 o4 n9 i6 t7 x8 t4 P1 P3 iZ t5 c0:Addr}(X:K.In h)(G:h.Ns mainGlobals mg)(hfa:mg "law"=some (.ref fa)){tka R8 R7 R9 V9 gB E9 K0 :Tok}{na :Nat}{oda:Option Addr}{sla:Array (Option Value)}{d1 d2 d3 d4 d5 d6 d7 d8 d9 d10 d11 d12 d13 d14 d15 d16 d17 d18 d19 d20 d21 d22 d23 d24 d25 d26 d27 d28 d29 d30 d31 d32 d33 d34 d35 d36 d37 iU iQ iR iO iT iM iS tM tK tL tJ lW tT tP tQ tO tS tN tR aW pY iV K7 r6 p5 i9:FuncData}(a1:NI K "added" f1)(a2:NI K "multiplied" f2)(a3:NI K "joined" f3)(a4:NI K "opposite" f4)(a5:NI K "letters_of" f5)(a6:NI K "worth" f6)(a7:NI K "row_of" f7)(a8:NI K "row_count" f8)(a9:NI K "table_of" f9)(a10:NI K "form_of" f10)(a11:NI K "products_over" f11)(a12:NI K "summed" f12)(a13:NI K "how_many" f13)(a14:NI K "read" f14)(a15:NI K "signs_behind" f15)(a16:NI K "taken" f16)(a17:NI K "with_nots" f17)(a18:NI K "pair_of" f18)(a19:NI K "single_of" f19)(a20:NI K "is_row" f20)(a21:NI K "wish_read" f21)(a22:NI K "refuse_strange" f22)(a23:NI K "fault_of" f23)(a24:NI K sB3 f24)(a25:NI K sB7 f25)(a26:NI K sB6 f26)(a27:NI K sA8 f27)(a28:NI K sB1 f28)(a29:NI K sC7 f29)(a30:NI K sC0 f30)(a31:NI K sA9 f31)(a32:NI K sC1 f32)(a33:NI K sC2 f33)(a34:NI K sC3 f34)(a35:NI K sC4 f35)(a36:NI K sC5 f36)(a37:NI K "law" f37)(cI:NI K "Always" t7)(gJ:NI K "Never" x8)(cG:NI K "Letter" t4)(uY:NI K "Not" P1)(uZ:NI K "And" P3)(nOr:NI K "Or" iZ)(cH:NI K "Either" t5)(mW:NI K "Task" c0)(aal:NI K "ALWAYS" al)(lal:K.lookup al=some ⟨.type "tuple",oda,.seq #[.str "" tka] na,sla⟩)(O4:W.nsIn K mainGlobals "LETTERS"=some (some (.str "abcpqrxyz" R8)))(O3:W.nsIn K mainGlobals "OPENING"=some (some (.str "~(" R7)))(O5:W.nsIn K mainGlobals "BETWEEN"=some (some (.str "&|+" R9)))(T6:W.nsIn K mainGlobals "GIVENS"=some (some (.str "abc" V9)))(dW:W.nsIn K mainGlobals "GAPS"=some (some (.str "xyz" gB)))(D7:W.nsIn K mainGlobals "MOST_WISHES"=some (some (.int 6 E9)))(G4:W.nsIn K mainGlobals "MOST_PARTS"=some (some (.int 20 K0)))(z1:W.nsIn K mainGlobals "len"=some none)(z2:W.nsIn K mainGlobals "list"=some none)(z3:W.nsIn K mainGlobals "sorted"=some none)(z4:W.nsIn K mainGlobals "set"=some none)(z5:W.nsIn K mainGlobals "tuple"=some none)(z6:W.nsIn K mainGlobals "dict"=some none)(z7:W.nsIn K mainGlobals "zip"=some none)(z8:W.nsIn K mainGlobals "reversed"=some none)(z9:W.nsIn K mainGlobals "range"=some none)(z10:W.nsIn K mainGlobals "enumerate"=some none)(z11:W.nsIn K mainGlobals "all"=some none)(z12:W.nsIn K mainGlobals "min"=some none)(z13:W.nsIn K mainGlobals "max"=some none)(z14:W.nsIn K mainGlobals "isinstance"=some none)(z15:W.nsIn K mainGlobals "str"=some none)(z16:W.nsIn K mainGlobals "bool"=some none)(z17:W.nsIn K mainGlobals "int"=some none)(w9:W.findIn K (.ref c0) "text"=some none)(C:CTxt K ⟨t7,x8,t4,P1,P3,iZ,t5⟩ C9 aO O1)(Mt:MTxt K ⟨t7,x8,t4,P1,P3,iZ,t5⟩ "text" fQ fH fJ fG fM fC fK)(Ms:MTxt K ⟨t7,x8,t4,P1,P3,iZ,t5⟩ "size" pK pI pJ pH aM aM aM)(Mf:FTxt K ⟨t7,x8,t4,P1,P3,iZ,t5⟩ pR pN pO pM pQ pL pP)(O8:Mk K c0 C8)(c4:TaskC K c0)(x5:Meth K c0 "does" o4)(u5:Meth K c0 "doing" n9)(o7:Meth K c0 "doing_at" i6)(F1:Fun K "added" "added" qd2 f1 d1)(F2:Fun K "multiplied" "multiplied" jP f2 d2)(F3:Fun K "joined" "joined" qcr f3 d3)(F4:Fun K "opposite" "opposite" kW f4 d4)(F5:Fun K "letters_of" "letters_of" jQ f5 d5)(F6:Fun K "worth" "worth" qd3 f6 d6)(F7:Fun K "row_of" "row_of" qcs f7 d7)(F8:Fun K "row_count" "row_count" vt f8 d8)(F9:Fun K "table_of" "table_of" kX f9 d9)(F10:Fun K "form_of" "form_of" qaZ f10 d10)(F11:Fun K "products_over" "products_over" yM f11 d11)(F12:Fun K "summed" "summed" qaF f12 d12)(F13:Fun K "how_many" "how_many" kZ f13 d13)(F14:Fun K "read" "read" qf5 f14 d14)(F15:Fun K "signs_behind" "signs_behind" ja f15 d15)(F16:Fun K "taken" "taken" qd4 f16 d16)(F17:Fun K "with_nots" "with_nots" vw f17 d17)(F18:Fun K "pair_of" "pair_of" qa0 f18 d18)(F19:Fun K "single_of" "single_of" vy f19 d19)(F20:Fun K "is_row" "is_row" qct f20 d20)(F21:Fun K "wish_read" "wish_read" vB f21 d21)(F22:Fun K "refuse_strange" "refuse_strange" yl f22 d22)(F23:Fun K "fault_of" "fault_of" k5 f23 d23)(F24:Fun K sB3 sB3 vC f24 d24)(F25:Fun K sB7 sB7 k6 f25 d25)(F26:Fun K sB6 sB6 jX f26 d26)(F27:Fun K sA8 sA8 yy f27 d27)(F28:Fun K sB1 sB1 jY f28 d28)(F29:Fun K sC7 sC7 k7 f29 d29)(F30:Fun K sC0 sC0 vD f30 d30)(F31:Fun K sA9 sA9 yX f31 d31)(F32:Fun K sC1 sC1 vE f32 d32)(F33:Fun K sC2 sC2 vF f33 d33)(F34:Fun K sC3 sC3 vG f34 d34)(F35:Fun K sC4 sC4 vH f35 d35)(F36:Fun K sC5 sC5 vI f36 d36)(F37:Fun K "law" "law" qdj f37 d37)(FtA:Fun K "text" "Always.text" yo fQ iU)(FtN:Fun K "text" "Never.text" yU fH iQ)(FtL:Fun K "text" "Letter.text" yr fJ iR)(FtO:Fun K "text" "Not.text" jR fG iO)(FtD:Fun K "text" "And.text" jU fM iT)(FtR:Fun K "text" "Or.text" vX fC iM)(FtE:Fun K "text" "Either.text" yw fK iS)(FsA:Fun K "size" "Always.size" yp pK tM)(FsN:Fun K "size" "Never.size" yV pI tK)(FsL:Fun K "size" "Letter.size" yt pJ tL)(FsO:Fun K "size" "Not.size" jS pH tJ)(FsP:Fun K "size" "Pair.size" jk aM lW)(FfA:Fun K "form" "Always.form" yq pR tT)(FfN:Fun K "form" "Never.form" yW pN tP)(FfL:Fun K "form" "Letter.form" yu pO tQ)(FfO:Fun K "form" "Not.form" jT pM tO)(FfD:Fun K "form" "And.form" jV pQ tS)(FfR:Fun K "form" "Or.form" vY pL tN)(FfE:Fun K "form" "Either.form" yx pP tR)(FiLetter:Fun K "__init__" "Letter.__init__" jp C9 aW)(FiNot:Fun K "__init__" "Not.__init__" k4 aO pY)(FiPair:Fun K "__init__" "Pair.__init__" vv O1 iV)(FiTask:Fun K "__init__" "Task.__init__" vz C8 K7)(FTask_does:Fun K "does" "Task.does" vA o4 r6)(FTask_doing:Fun K "doing" "Task.doing" jW n9 p5)(FTask_doing_at:Fun K "doing_at" "Task.doing_at" yN i6 i9): ∃ fd:FuncData,(∀(s:Shared)(v:Value),BindsTo s fd ⟨[v],[]⟩ [(sA0,v)])/\∀ base:Heap,K.In base->base.Ns mainGlobals mg->FnOk l.prog w K mg base CX0 37 fa fd [sA0] (qg9 K):=by
 have e:=hfa.symm.trans (Vc X G a37);cases e
 have T:Txt mg:=⟨Qo X G z1,Qo X G z2,Qo X G z3,Qo X G z4,Qo X G z5,Qo X G z6,Qo X G z7,Qo X G z8,Qo X G z9,Qo X G z10,Qo X G z11,Qo X G z12,Qo X G z13,Qo X G z14,Qo X G z15,Qo X G z16⟩;have N0:=Qo X G z17;have b1:=F1.binds (ps:=["one","other"]);have b2:=F2.binds (ps:=["one","other"]);have b3:=F3.binds (ps:=["one","other"]);have b4:=F4.binds (ps:=["form"]);have b5:=F5.binds (ps:=["form"]);have b6:=F6.binds (ps:=["form","row"]);have b7:=F7.binds (ps:=["letters","number"]);have b8:=F8.binds (ps:=["letters"]);have b9:=F9.binds (ps:=["form","letters"]);have b10:=F10.binds (ps:=["letters","table"]);have b11:=F11.binds (ps:=["letters"]);have b12:=F12.binds (ps:=["truths"]);have b13:=F13.binds (ps:=["task"]);have b14:=F14.binds (ps:=["text"]);have b15:=F15.binds (ps:=["opened","ended"]);have b16:=F16.binds (ps:=["opened","ended","sign"]);have b17:=F17.binds (ps:=["opened","saying"]);have b18:=F18.binds (ps:=["sign","one","other"]);have b19:=F19.binds (ps:=["sign"]);have b20:=F20.binds (ps:=["text","letters"]);have b21:=F21.binds (ps:=["wish","letters"]);have b22:=F22.binds (ps:=["text","letters"]);have b23:=F23.binds (ps:=["sides"]);have b24:=F24.binds (ps:=[sA0,sB4]);have b25:=F25.binds (ps:=[sA6,sA3]);have b26:=F26.binds (ps:=[sA0,"_law_at",sB8,sA3]);have b27:=F27.binds (ps:=[sA2]);have b28:=F28.binds (ps:=[sA2,sB2]);have b29:=F29.binds (ps:=[sA3]);have b30:=F30.binds (ps:=[sA6,sA1]);have b31:=F31.binds (ps:=[sA2,sA4]);have b32:=F32.binds (ps:=[sA0,sA1,sA7]);have b33:=F33.binds (ps:=[sA0]);have b34:=F34.binds (ps:=[sA5]);have b35:=F35.binds (ps:=[sA1,sA7,sA5]);have b36:=F36.binds (ps:=[sB0]);have eI:=FtA.binds (ps:=["self"]);have dZ:=FtN.binds (ps:=["self"]);have eB:=FtL.binds (ps:=["self"]);have dY:=FtO.binds (ps:=["self"]);have eG:=FtD.binds (ps:=["self"]);have dX:=FtR.binds (ps:=["self"]);have eF:=FtE.binds (ps:=["self"]);have rD:=FsA.binds (ps:=["self"]);have rB:=FsN.binds (ps:=["self"]);have rC:=FsL.binds (ps:=["self"]);have rA:=FsO.binds (ps:=["self"]);have lY:=FsP.binds (ps:=["self"]);have rM:=FfA.binds (ps:=["self"]);have rH:=FfN.binds (ps:=["self"]);have rJ:=FfL.binds (ps:=["self"]);have rG:=FfO.binds (ps:=["self"]);have rL:=FfD.binds (ps:=["self"]);have rF:=FfR.binds (ps:=["self"]);have rK:=FfE.binds (ps:=["self"]);have aZ:=FiLetter.binds (ps:=["self","letter"]);have rE:=FiNot.binds (ps:=["self","one"]);have iX:=FiPair.binds (ps:=["self","one","other"]);have O6:=FiTask.binds (ps:=["self","givens","gaps","wishes"]);have x4:=FTask_does.binds (ps:=["self","given_row","gap_row"]);have u4:=FTask_doing.binds (ps:=["self"]);have o6:=FTask_doing_at.binds (ps:=["self","given_row"]);have m1:=Vc X G a1;have m2:=Vc X G a2;have m3:=Vc X G a3;have m4:=Vc X G a4;have m5:=Vc X G a5;have m6:=Vc X G a6;have m7:=Vc X G a7;have m8:=Vc X G a8;have m9:=Vc X G a9;have m10:=Vc X G a10;have m11:=Vc X G a11;have wF:=Vc X G a12;have m13:=Vc X G a13;have m14:=Vc X G a14;have m15:=Vc X G a15;have m16:=Vc X G a16;have m17:=Vc X G a17;have m18:=Vc X G a18;have m19:=Vc X G a19;have m20:=Vc X G a20;have m21:=Vc X G a21;have m22:=Vc X G a22;have m23:=Vc X G a23;have wE:=Vc X G a24;have m25:=Vc X G a25;have m26:=Vc X G a26;have m27:=Vc X G a27;have m28:=Vc X G a28;have m29:=Vc X G a29;have m30:=Vc X G a30;have m31:=Vc X G a31;have m32:=Vc X G a32;have m33:=Vc X G a33;have m34:=Vc X G a34;have m35:=Vc X G a35
 have m36:=Vc X G a36;have m37:=Vc X G a37;have W5:=Vc X G cI;have cJ:=Vc X G gJ;have W3:=Vc X G cG;have mZ:=Vc X G uY;have nA:=Vc X G uZ;have wD:=Vc X G nOr;have W4:=Vc X G cH;have gS:=Vc X G mW;let ca:CA:=⟨t7,x8,t4,P1,P3,iZ,t5⟩
 have nc:NotC ca c0:=⟨(λ e=>by have h:=Mt.always.1;rw[<- show c0=t7 from e] at h;rw[w9] at h;cases h),(λ e=>by have h:=Mt.never.1;rw[<- show c0=x8 from e] at h;rw[w9] at h;cases h),(λ e=>by have h:=Mt.letter.1;rw[<- show c0=t4 from e] at h;rw[w9] at h;cases h),(λ e=>by have h:=Mt.not.1;rw[<- show c0=P1 from e] at h;rw[w9] at h;cases h),(λ e=>by have h:=Mt.and.1;rw[<- show c0=P3 from e] at h;rw[w9] at h;cases h),(λ e=>by have h:=Mt.or.1;rw[<- show c0=iZ from e] at h;rw[w9] at h;cases h),(λ e=>by have h:=Mt.either.1;rw[<- show c0=t5 from e] at h;rw[w9] at h;cases h)⟩;obtain⟨oc,od,kV,doc,pm,an,cdv,ct,osl,rfl,lk,V5⟩:=F37.ex;refine⟨W.fnOf "law" "law" (qag qdj) (jA qdj) (qh qdj) .none kV doc pm an cdv ct,λ s v=>.of_eq rfl,λ base _ _=>?_⟩;have G6:=Vc X G O4;have G5:=Vc X G O3;have G7:=Vc X G O5;have W1:=Vc X G T6;have gP:=Vc X G dW;have F0:=Vc X G D7;have K2:=Vc X G G4;have wC:=Vc X G aal;have hal:∀ H,SqT K H al (([[]]:List Pr).map vS):=λ H=>.inr ⟨_,_,_,lal,rfl,rfl,qu (by show 1<=_;decide),.cons ⟨tka,by rw[show("":Str)=ql [] by decide +kernel]⟩ .nil⟩
 have Gp:FnOk l.prog w K mg base CX0 1 f11 _ ["letters"] qby:=qi5 F11 T;have R5:=qdk (P:=l.prog) (w:=w) (base:=base) F12 T b12 wF 10;have Gle:FnOk l.prog w K mg base CX0 1 f5 _ ["form"] (qa2 K):=qf8 F5 T;have Gt:=qi7 F9 T ⟨Gp,b11,F11.kp,m11⟩ ⟨R5,b12,F12.kp,wF⟩;have Gfo:=qku F10 T ⟨Gp,b11,F11.kp,m11⟩ ⟨R5,b12,F12.kp,wF⟩;have GA:FnOk l.prog w K mg base CX0 1 f1 _ ["one","other"] (qf9 K added):=qjb F1 T;have GM:=qkv F2 T ⟨Gle,b5,F5.kp,m5⟩ ⟨Gt,b9,F9.kp,m9⟩ ⟨Gfo,b10,F10.kp,m10⟩;have GJ:=qhK F3 ⟨GA,b1,F1.kp,m1⟩ ⟨GM,b2,F2.kp,m2⟩;have GOp:=qlS F4 wC hal ⟨GA,b1,F1.kp,m1⟩;have NN:FFn l.prog w K mg base f1 f2 f3 f4 _ _ _ _:=⟨GA,b1,F1.kp,m1,GM,b2,F2.kp,m2,GJ,b3,F3.kp,m3,GOp,b4,F4.kp,m4⟩;have GiL:FnOk l.prog w K mg base CX0 1 C9 _ ["self","letter"] (v1 K "letter"):=qjm FiLetter;have GiN:FnOk l.prog w K mg base CX0 1 aO _ ["self","one"] (v1 K "one"):=qjn FiNot;have GiP:FnOk l.prog w K mg base CX0 1 O1 _ ["self","one","other"] (qd6 K "one" "other"):=qjo FiPair;have Gsn:=qmP F19 C W5 cJ W3 GiL aZ;have Gpr:=qmQ F18 C nA wD W4 GiP iX;have Gwn:=qmS F17 T C mZ GiN rE;have Gsb:=qmU (P:=l.prog) (w:=w) (mg:=mg) (base:=base) (c:=ca) F15 T G6 G5 G7;have Gtk:=qmW F16 G5 G7 ⟨Gwn,b17,F17.kp,m17⟩ ⟨Gpr,b18,F18.kp,m18⟩ ⟨Gsn,b19,F19.kp,m19⟩;have Grd:=qmY F14 T ⟨Gsb,b15,F15.kp,m15⟩ ⟨Gtk,b16,F16.kp,m16⟩;have Vt:=qff (P:=l.prog) (w:=w) (mg:=mg) (base:=base) C Mt eI dZ eB dY eG dX eF FtA FtN FtL FtO FtD FtR FtE 21;have Vs:=qfg (P:=l.prog) (w:=w) (mg:=mg) (base:=base) C Ms rD rB rC rA lY FsA FsN FsL FsO FsP 21;have GF:=qjv (P:=l.prog) (w:=w) (mg:=mg) (base:=base) C Mf NN rM rH rJ rG rL rF rK FfA FfN FfL FfO FfD FfR FfE 21;have Gir:=qjD (P:=l.prog) (w:=w) (mg:=mg) (base:=base) F20 T;have Gref:=ql0 (P:=l.prog) (w:=w) (mg:=mg) (base:=base) F22 G6;have Gwr:=qm0 F21 C K2 Mt Vt Ms Vs eI dZ eB dY eG dX eF rD rB rC rA lY ⟨Grd,b14,F14.kp,m14⟩ ⟨Gref,b22,F22.kp,m22⟩;have Gfa:=qm2 F23 ⟨GA,b1,F1.kp,m1⟩ ⟨GJ,b3,F3.kp,m3⟩;have W2:=gS;have P0:=qkH FiTask T C c4.cls nc c4.n1 c4.n2 c4.n3 c4.n4 c4.n5 W1 gP F0 Mt Vt Mf GF eI dZ eB dY eG dX eF rM rH rJ rG rL rF rK ⟨Gir,b20,F20.kp,m20⟩ ⟨Gwr,b21,F21.kp,m21⟩ ⟨Gfa,b23,F23.kp,m23⟩;have bC:=Gp;have fX:=Gle;have mB:=Gt;have rP:=Gfo;have aA0:=GA;have fV:=GM;have tU:=GJ;have mC:=GOp;have B9:FnOk l.prog w K mg base CX0 1 f7 _ ["letters","number"] (qgr):=qkQ F7 T;have O9:FnOk l.prog w K mg base CX0 1 f6 _ ["form","row"] (qcE K):=qh2 F6 T;have x6:=qkR FTask_does T ⟨B9,b7,F7.kp,m7⟩ ⟨O9,b6,F6.kp,m6⟩ c4;have n6:FnOk l.prog w K mg base CX0 1 f8 _ ["letters"] (qbB):=qjO F8 T;have o8:=qgt FTask_doing_at T ⟨n6,b8,F8.kp,m8⟩ c4 x5 x6 x4;have u6:=qjR FTask_doing T ⟨n6,b8,F8.kp,m8⟩ c4 o7 o8 o6
 have A8:FnOk l.prog w K mg base CX0 5 f13 _ ["task"] (qjU c0):=ql4 F13 T c4 u5 u6 u4;have l0:FnOk l.prog w K mg base CX0 1 f24 _ [sA0,sB4] (vL K):=qjE F24 T;have A4:FnOk l.prog w K mg base CX0 1 f25 _ [sA6,sA3] (qea):=qkK F25 T;have u7:FnOk l.prog w K mg base CX0 2 f26 _ [sA0,"_law_at",sB8,sA3] (qjF K):=ql2 F26 T ⟨l0,b24,F24.kp,wE⟩ ⟨A4,b25,F25.kp,m25⟩;have r9:=qcA (P:=l.prog) (w:=w) (base:=base) F27 T b27 m27 20;have B6:=qg5 (P:=l.prog) (w:=w) (base:=base) F28 T b28 m28 20;have B8:FnOk l.prog w K mg base CX0 1 f29 _ [sA3] (qed):=qjI F29 T;have D9:FnOk l.prog w K mg base CX0 2 f30 _ [sA6,sA1] (qee):=qjJ F30 T ⟨A4,b25,F25.kp,m25⟩;have A7:=qdq (P:=l.prog) (w:=w) (base:=base) F31 T b31 m31 20;have E1:FnOk l.prog w K mg base CX0 21 f32 _ [sA0,sA1,sA7] (qef K):=qhZ F32 T ⟨l0,b24,F24.kp,wE⟩ ⟨D9,b30,F30.kp,m30⟩ ⟨u7,b26,F26.kp,m26⟩ ⟨A7,b31,F31.kp,m31⟩;have E2:FnOk l.prog w K mg base CX0 22 f33 _ [sA0] (qeg K):=qjN F33 T ⟨l0,b24,F24.kp,wE⟩ ⟨E1,b32,F32.kp,m32⟩;have D8:FnOk l.prog w K mg base CX0 21 f34 _ [sA5] (qcD):=qh1 F34 T ⟨r9,b27,F27.kp,m27⟩;have E3:FnOk l.prog w K mg base CX0 21 f35 _ [sA1,sA7,sA5] (qcG):=qh6 F35 T ⟨B8,b29,F29.kp,m29⟩ ⟨B6,b28,F28.kp,m28⟩;have E4:FnOk l.prog w K mg base CX0 1 f36 _ [sB0] (qgv K):=qkU F36 T;exact ql6 F37 T N0 ⟨E2,b33,F33.kp,m33⟩ ⟨D8,b34,F34.kp,m34⟩ ⟨E3,b35,F35.kp,m35⟩ ⟨E4,b36,F36.kp,m36⟩ ⟨A8,b13,F13.kp,m13⟩ c4 O8 P0 O6 W2
theorem walk{l:W.OpenLaw}{q:Program}{G8:List Str}{XP:(Str->Option Value)->Heap->Prop}{YP:World->Heap->Prop}{d:DefRec}{K:Params->W.Frag}(hn:l.most=some 63)(oP:d.params.defaults=[])(hY:∀(w:World)(h:Heap),YP w h->(K w.params).In h)(F:∀(w:World)(mg:Str->Option Value)(fa:Addr)(h:Heap),(K w.params).In h->h.Ns mainGlobals mg->mg d.name=some (.ref fa) ->
   ∃ fd:FuncData,(∀(s:Shared)(u:Value),BindsTo s fd ⟨[u],[]⟩ [(sA0,u)])/\∀ base:Heap,(K w.params).In base->base.Ns mainGlobals mg->FnOk l.prog w (K w.params) mg base CX0 37 fa fd [sA0] (qg9 (K w.params))):
  PySem.W.WalkO q G8 XP YP l.row.toRowW d [] (λ f vs=>PySem.call f vs):=
 L2.walk_of (n:=63) (k:=37) (x:=sA0) (CX:=λ _=>CX0) (sp:=λ w=>qg9 (K w.params)) hn (by decide) oP ⟨rfl,by decide,by decide⟩ hY F (λ _ _ a ns hl _ hS=>⟨a,ns,rfl,hS,hl,λ _=>rfl⟩) λ _ _ _ _ _ z=>z
end Law
open PySem PySem.W PyProof.Rows
structure PySem.W.Fast:Prop where (tw5995543064015096046 tw18113999103415302457 tw4674977700958022005 tw2140023877278786785 tw8955468328650968994 tw3252260338155086498 tw12207376438774128237 tw7391036736000848962 tw8215724959899117610 tw11922030133189970332 tw358878669290985128 tw14913761666499587479 tw17546767853884195462 tw17701022143643093613 tw14993396123730363970 tw6526025775247392707 tw7288596089161596586 tw65001363465420999 tw1744813448889936294 tw16761137405186984135 tw7271733199536414686 tw3116349208528355889 tw400589367462512564 tw1945707584054144182 tw10566682939792877819 tw13599329847469864998 tw9134537366933142436 tw2411060814059004932 tw15550341098926710794 tw8080037754879622626 tw7544085870009033107 tw7285243895035962114 tw7376194800943553128 tw18162528079130111792 tw8692358887010543690 tw17515467772024879381 tw13324068541260123771 tw10000592085791600639 tw9455379172250973469 tw4962474622020237469 tw18262405938592263337 tw4468498742728086808 tw1179573410391948850 tw18258631226690264074 tw8700061967409085036 tw11809813241802352764 tw3510560363996663012 tw17419712686944303436 tw9404474913665457848 tw6557667232468180030 tw3216664347031306369 tw8555164714312234402 tw974380335629483202 tw10215652759463524342 tw6272949397311510163 tw9891898205712207361 tw18131794088003330973 tw329934659173885398 tw5001189555296860856 tw8492804874844337947 tw12510078502680973619 tw2518699909928361422 tw17476341866959301809 tw7907763051617668111 tw498984932033007169 tw1721161116095205871 tw7874185983072704113 tw5742768283209512627 tw3259808722489503871 tw10532619187450829866 tw11723358772728108545 tw3268158717120133309 tw11888290052642409539 tw128231649673416429 tw12189819895972433450 tw160494383914924644 tw14071150755917113185 tw8466277612697417979 tw13181640070270505476 tw13641589830235617737 tw438454728125580127 tw14398464668709730682 tw2809681954113982313 tw4825119012909146341 tw11960955328908393378 tw1682913079678622296 tw1652094550397544721 tw15970864584872064773 tw16174366590118214103 tw1197455285489932193 tw14028419017542013452 tw11443042942574215226 tw3440252792984070522 tw557309495226158634 tw3134120446164564396 tw13332722409742836183 tw7714765036355420564 tw4854976068068392308 tw8234024535017984408 tw16620491985522200438 tw3408984027062652990 tw8953566966303683710 tw8188472207125626033 tw9415045893865687478 tw9184178843957284503 tw10365249121284629201 tw7952593417024841728 tw7203315084430533846 tw12710768999284272269 tw15510181641329983916 tw15220759658960393325 tw14585251608712715750 tw17227622777593173162 tw15210102827373863109 tw178213405011475322 tw2987941412191140428 tw1789981246139920587 tw2779331046152450334 tw4044757273213604644 tw15966289654901636488 tw16134268069875523261 tw3822140464952807314 tw3220211498682875706 tw14733089753631192714 tw10352988637023785379 tw7836597913614320900 tw14229294633881857037 tw8389888807198468925 tw9219810706112466703 tw11847382081778376117 tw4449608744579144194 tw17278126922769861613 tw665110551436382186 tw9732661317271764473 tw5915261342914074625 tw9514218745140953530 tw12772102755523902307 tw4021932467673746106 tw14291710032070986806 tw3234314922136259371 tw7543149878986815543 tw1901401000677555733 tw12041095676807235627 tw10647102873776728746 tw17173162634989176877 tw7978365744192783911 tw6442486670555126824 tw17433722948078616216 tw10442214311276759053 tw13169138901090433990 tw2879810773836440440 tw14216984691052809004 tw4799188751712793984 tw12642981195889139247 tw12264391739112884430 tw15011128706742762287 tw1486777030124064563 tw1011009038443287387 tw16421071247105536597 tw13222516424457235959 tw11142750368841479408 tw10084315429484007116 tw10850882593295763297 tw13970378163706569412 tw11775449221082859188 tw3541847958260663985 tw8401778923899152848 tw1992220195723807455 tw5809757139298919599 tw18183767725202723463 tw5554564211358154317 tw4079895372163499391 tw10803320344329408259 tw10958635413072031376 tw9742981726712605840 tw6454109348260422275 tw13003586321509274341 tw7361237511175052316 tw1946995036011658230 tw10067467999987455568 tw8442576237658603909 tw1232561774148357654 tw7257403604757310398 tw4377438180783105729 tw10930542036272755403 tw15338968716592900816 tw13893190222225490515 tw8054134263644953460 tw16101014081944478655 tw9477274495184444798 tw5587275696705771482 tw18184172346214100237 tw8088411511467892904 tw10050394204903103341 tw13926852046814036649 tw5997609050516421624 tw4915215376904302336 tw3420811877706991594 tw16949275670731691975 tw14952895855709731340 tw13440370444028661783 tw7561442766866658739 tw6609246031298245068 tw4300400675680415225 tw11747456392249111153 tw13957915152324447603 tw12983159161691181564 tw10773380789218449095 tw9416850080300686577 tw17201038513704535480 tw6571286844197859254 tw7971280219902764364 tw5952195178338067042 tw1602369745175345457 tw6038735980128509143 tw17582129231654185567 tw16128083513001729362 tw8876100228175615397 tw4378623507672550700 tw13876731435266501445 tw5991088621485036202 tw9013336189319521253 tw17848855833864133555 tw5745177860121872039 tw5376523695502250017 tw17492212638373376985 tw2963761232557819587 tw2939454654792205749 tw6266399170616479570 tw172482407339500862 tw17584802781928456845 tw18213424142015886113 tw15763516319678926200 tw12292731588994404447 tw17444426090398551464 tw5779913977102658338 tw1805134498359410488 tw12249727331056470545 tw15171244221535394741 tw955112574873210868 tw10688819070862581778 tw10071147277943323174 tw8664619851582730799 tw14948627894636446389 tw8590750876446012092 tw17321016983784572174 tw6481101421017743553 tw7379041534499109875 tw12470241606011217240 tw2705628790176364795 tw18290928283901265417 tw13258257120985817609 tw5854507365226931345 tw2313730979944732955 tw5214305817617481755 tw12021870745161141525 tw4927491690782751343 tw14710227731934201445 tw11944237960418918098 tw4608731977207876324 tw1485812142374272342 tw2967870445117922580 tw10458206055827461178 tw254835342387167307 tw12533044085121251534 tw3971835008244351907 tw12084618276592257872 tw16081293664685545785 tw5753318081305608722 tw15301346516101943348 tw14539284557340016717 tw6850032997272252012 tw1687606763429190637 tw7475191399461646894 tw15387487382737923460 tw1250481076831557362 tw9171989147312894968 tw17008205191352100430 tw14441591268826900742 tw1427333059050577280 tw7908635583556598944 tw16828904195001682066 tw14544155436927564753 tw1430970845682458861 tw12452936622834558252 tw946014710395125639 tw6632952145909445701 tw4657812468544131429 tw16859655027150827115 tw16419492942884810563 tw10144373597293037716 tw2595505089471757600 tw1469792416445391314 tw7107744172628405576 tw6438789145605829213 tw3172881739826714305 tw18291655474276008033 tw17993726235705533677 tw15681760261024615635 tw15059104464006449726 tw15075310224460859810 tw14708810852549485841 tw5539307811972060960 tw8275746825541498739 tw7230377067835597393 tw175540062890627069 tw11867921007732897759 tw1659250721177085116 tw15762397629875214540 tw16669788664901066663 tw13180523904104167636 tw7362331037817105320 tw16890059739468892718 tw1548106163780698754 tw12032335723136193794 tw6184659066340266856 tw15180738222533119528 tw10481500958499300899 tw10403645737694559088 tw16577744235584553887 tw16555373890240652489 tw9853106362713567051 tw2783709746117751515 tw4644596494748915553 tw12560410927694840695 tw5738806405831168063 tw357751615669835829 tw14253686532830372752 tw11771564654198304622 tw4145814944518151358 tw1957256651838857582 tw12544642837214770252 tw16561959885253848859 tw2321168105625175987 tw12695872161507598352 tw3727702711957709746 tw4247185600445561051 tw2283460472257524042 tw17818732978459011535 tw13038585808980992520 tw17964612226209753327 tw12365642115657771317 tw8687984629845387583 tw7180019066740210146 tw11980278047311625349 tw9731639867957568678 tw8521194258803440476 tw7488680166512906222 tw16376598481800674231 tw9165407632159298398 tw4323564260202576988 tw11021185802957058627 tw15500526287991423171 tw10791493271163552099 tw10090034599224265742 tw14149160374046562491 tw17184162705184376226 tw11024581559829868194 tw299726901466093145 tw15921930116932327431 tw11190456447967137049 tw14339268359746102686 tw16556956025904053222 tw10169894717842532797 tw16478512493961358594 tw8176475020454670866 tw6306382865523909022 tw893780751121705083 tw14491523496594665551 tw16343535886445365299 tw6417461932369156222 tw17027998950955617124 tw1738529565507631706 tw8881896155616473371 tw14409949888476101967 tw2207094095164648482 tw17940165598746384058 tw3207069401076033180 tw15456426591267944871 tw7326548022823976866 tw12838805821940552624 tw14190931947387489604 tw99280530095681305 tw14049218612138801364 tw9318984773354176627 tw1072142104133890169 tw10030584684557395858 tw10928412317983124029 tw12878541129743189166 tw1908875657576724126 tw8845631005431848643 tw1726290814296937458 tw3524985195918752551 tw8467340777399161405 tw5086986821400230592 tw6637292392088251724 tw7249410398318737407 tw16084036645140147874 tw2835012755162166726 tw938791505914716580 tw3939286815180217591 tw3119196436678469020 tw9273201812411940022 tw6239872596390686993 tw6016027164553165687 tw9039879726984197544 tw16702067834599513847 tw17914305226593460868 tw16864987456670337528 tw13648406833952047905 tw14894271850168874537 tw14095999512428651795 tw15640116783165951899 tw15207825788002486657 tw3836364134438650258 tw18020195627768251203 tw17727630283787043412 tw14595395723736554960 tw13601947485429903109 tw13592537848852259493 tw12884676909300200867 tw9739919701044777882 tw5438240365320609886 tw2187346854004609375 tw17979092837676465095 tw17087412958257222817 tw1650389099904202172 tw15532928201957701336 tw10964599802608195516 tw10325569940739588031 tw5084560516812056665 tw3508270427532911717 tw12040598553937178841 tw2417239173563602051 tw6474466611695172495 tw5759384330404553708 tw12432451016150992323 tw12835678934399159239 tw6611118952838239050 tw16599527937966933586 tw9452365442174843770 tw8431931036774048448 tw813682731770345184 tw7544617172334102026 tw18038246974745056568 tw15913321089170628661 tw12147686571039654224 tw7757608550778835239 tw17589352208070113842 tw16650306876126836310 tw17196492354732107276 tw13233809403552369153 tw12754770066913171169 tw2005355500320625319 tw1246762554779352221 tw2299529079850122859 tw6673577614759842165 tw17960843437919736204 tw2421913969852129339 tw1254212183313457877 tw9940388317477578167 tw9642773068714017641 tw9497708428467453507 tw944768015080341323 tw8996027851763573117 tw8349857503151214897 tw8135447903486479838 tw7977425654074265630 tw788115729611695681 tw7505209782669766825 tw6877178181022160077 tw6251464614803768995 tw4631538979107923889 tw2924212956019840299 tw2788712665789821250 tw1950398261290604268 tw1892621777612022473 tw18139413169088653449 tw1805368093695733831 tw17984994463952159842 tw1795059477220873572 tw17015394644288003507 tw16898086630991818505 tw16893526009824242622 tw16417818990828821767 tw1632835378257469779 tw15987012598332103085 tw14965180295342146467 tw14378350110230693555 tw14334688561847210346 tw13902203823174070445 tw13076512576836119185 tw9104262429719295642 tw8569011746504709645 tw7938601724649658543 tw10594251846070120281 tw9657087739174312971 tw9057158365821181802 tw8707968345955652644 tw8643753104138802901 tw7220161324233641945 tw7109762073640935572 tw6811367134591790442 tw18305516962063267190 tw18247225698490222597 tw1651042725687891328 tw16060847593057033092 tw15848245232785092767 tw13187097807764588969 tw13178877953444668178 tw1277679524405246820 tw10734937794139400260 tw8492041528241631582 tw7313463423260140950 tw6212646265921881848 tw4986858027680152497 tw436734965284854135 tw4232447359155777045 tw2838037344313331237 tw17967463099012332116 tw17601691429435709917 tw15194555950316227350 tw12715991867193110110 tw11337170838937691061 tw11001770919258042324 tw10750808135551440151 tw10678148217754540184 tw10098199786124324532 tw14613401461467659873 tw77283825525571692 tw5922872278393867897 tw5737560242480949301 tw567752260102493995 tw3775230069905158671 tw3528328006725011302 tw18200921905733313729 tw1786548229569716276 tw16531702478107266709 tw16359604439024627879 tw14817622409456217808 tw12016713211550421544 tw10108746861576533928 tw9507854748030616370 tw8990416575902740349 tw8597570295703207313 tw8552047822389963676 tw7083592091105002209 tw70499866469243241 tw626503310845279217 tw5571352086848180365 tw5571334277914092099 tw5216810120575201686 tw4506311585643021287 tw17918186821852700581 tw15459086624457351167 tw1271185404561694598 tw12512287352932616288 tw11524185981148167491 tw9916906937354050433 tw9820323341387528123 tw9768123500403594832 tw9690348711436350717 tw9651780881799972728 tw9642435963769278680 tw9533906173202437463 tw92764183077136872 tw9252901983872886979 tw9154790430439847792 tw9088060619850841430 tw8835600692800930023 tw8604445716280004478 tw8538937488871378437 tw846949735125409385 tw8428596549875655479 tw8279896960596201932 tw8165401574862044249 tw8049107293193795123 tw7953339668723596066 tw7907997023739047082 tw7871644653295689927 tw7866063929265897196 tw7818445604787369328 tw7787483745640117237 tw7671364965845182874 tw7573438819476987970 tw7556924171978127815 tw7490495152252233893 tw7430671561422318115 tw7260028683126416571 tw7076054931693727284 tw6835156014576789271 tw6816502581552962976 tw6728433009809217018 tw6677668279672521953 tw6669806280155046018 tw6616816104825239277 tw6567023411934778688 tw6518234516064303856 tw6337456088179190962 tw6300804753914571820 tw6295921523279267882 tw6273178492559686393 tw6105643805453203111 tw6093662255546380987 tw6077150884410294709 tw5999574069864826559 tw5969138910765321983 tw5809958863216361373 tw5727698360791832289 tw5629398870897598733 tw5629221101421317952 tw5426360534759237479 tw5379117365826862396 tw5310194531592887670 tw5283274459537107094 tw5225583864237751361 tw5215185262153079352 tw5203122300754257115 tw5198225089595138872 tw5058131882694262490 tw4984709217415765713 tw4908924851332137137 tw4870315940345637142 tw4742039345489627614 tw4626453617888810600 tw4495821103535164669 tw4458407614799262038 tw4408373400750663100 tw439545396670961235 tw4383143360351854538 tw4153142714997741169 tw4051818211803367899 tw3927853463990767099 tw3851658485380596653 tw3760028053013840955 tw3638635554241985124 tw362529062739829236 tw3508382210194220830 tw3324109746321025552 tw3127209467421750293 tw2922955512293564112 tw2894401703943321228 tw2835673108896811185 tw2824825541245188910 tw2765096807144515337 tw2631392885059674491 tw2399039107115589197 tw2157684431433672317 tw2102355370073620920 tw1915715518470003882 tw18421672703765141959 tw18412026718106160318 tw18392476952330043860 tw18267744192424277377 tw18211142360223139219 tw18126380596251629661 tw18098967522455929126 tw17897907671874915737 tw17803531780012226520 tw17713265566526231442 tw17631954105318929356 tw17596705731317134648 tw17549483997250943110 tw17414153807000828486 tw17301492354814788306 tw17295108378947191188 tw17227843272918288966 tw17022263521132602780 tw16916099803167163805 tw16688543063255248819 tw16501532330588609325 tw16284040899065146364 tw16102522951716489915 tw15994035796211232320 tw15919618819151394530 tw15849024709634142309 tw15706513650712526284 tw15616703044820961866 tw15608144055257520595 tw15498070746975223895 tw15473868302218455553 tw15068939846074093596 tw14891944257724238528 tw14870852338594168635 tw14756986269193510306 tw14520826405895391328 tw14356818204205053555 tw14319777331534573913 tw14304962531494891820 tw1427790196489712646 tw1410416057665615516 tw14035208497849753796 tw13992519833635458163 tw139146089240522092 tw13831531858423832813 tw13829660365214595840 tw13570292519962670590 tw13556464991620559449 tw1351685815172685896 tw13461580168084207066 tw13405130562703572947 tw13364502731538003039 tw13343532458895852524 tw13253956593841652052 tw13228292117539267586 tw13009006447682288078 tw12852423702662626717 tw12808363124321660703 tw1274972384851251417 tw12687680200080402021 tw12652151094619894052 tw1257991564529336646 tw12427600340564087803 tw12391335277456571946 tw12320208173642883933 tw12307682474551676676 tw12220350692097807488 tw12002185254571946283 tw11946872343881483894 tw11740572531222131324 tw11590888703215733603 tw11471551192034081642 tw11322308198428528740 tw11125934507080794977 tw11066818719852680398 tw10968906527125100868 tw10887869638800581498 tw10820139949268811616 tw10729115150196028689 tw1065875486775576370 tw10638095010499892318 tw10601675208335261915 tw10506031071536151010 tw10405973251223962390 tw10367207198245192547 tw10356643615640354615 tw10302156900763483882 tw10162309559579460513 tw10106455931006153537 tw10004306904834997442:True)
set_option maxRecDepth 100000 in
set_option maxHeartbeats 0 in
theorem PySem.Challenge.cw_fillsay_k71_fillings_counted_holds : PySem.Challenge.rw_fillsay_k71_fillings_counted.Holds := by
 w_on;o_law;k_head;(case hw=>w_witness2)
 k_fill
 refine Law.walk (l:=PySem.Challenge.rw_fillsay_k71_fillings_counted) rfl rfl (λ w h Y=>W.kIn_of Y) ?F
 case F =>
  intro w mg fa h KX G oA;refine' Law.all_mk KX G oA ..
  any_goals first|k_is|(unfold Law.NI;k_is)
  any_goals first|(refine' ⟨⟨?_,?_,?_,?_⟩,⟨?_,?_,?_,?_⟩,⟨?_,?_,?_,?_⟩,⟨?_,?_,?_,?_⟩,⟨?_,?_,?_,?_⟩,⟨?_,?_,?_,?_⟩,⟨?_,?_,?_,?_⟩,⟨?_,?_,?_⟩,⟨?_,?_,?_⟩,⟨?_,?_,?_,?_⟩,⟨?_,?_,?_,?_⟩,⟨?_,?_,?_,?_⟩,⟨?_,?_,?_,?_⟩,⟨?_,?_,?_,?_⟩,?_,?_,⟨?_,?_⟩,⟨?_,?_⟩,⟨?_,?_⟩⟩ <;> (try dsimp only[L2.NoAttr]) <;> try k_is)|(refine' ⟨⟨?_,?_,?_⟩,⟨?_,?_,?_⟩,⟨?_,?_,?_⟩,⟨?_,?_,?_⟩,⟨?_,?_,?_⟩,⟨?_,?_,?_⟩,⟨?_,?_,?_⟩⟩ <;> (try dsimp only[L2.NoAttr]) <;> try k_is)|(refine' ⟨⟨?_,?_,?_,?_⟩,?_,?_,?_,?_,?_⟩ <;> (try dsimp only[L2.NoAttr]) <;> try k_is)|(refine' ⟨?_,?_,?_,?_⟩ <;> try k_is)|(refine' ⟨?_,?_,?_⟩ <;> try k_is)|skip
  any_goals first|(refine' L2.fun_mk ?_ ?_ ?_ <;> try k_is)|skip
